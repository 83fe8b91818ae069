import PyProof.Rows.All
import Wide.All
import OpenK.AllK
import Wide.FinOn
import Lean
import PyProof.EqAt
import PyProof.EqKinds
import PyProof.TupleCall
import PySem.Challenge.RW_glidequeue_k44_two_runners
set_option Elab.async false
set_option linter.all false
set_option maxRecDepth 100000
namespace L2
open PySem PySem.Spec PyProof.Rows
abbrev Key:=Sum Int Str
def kW:Key->Value->Bool | .inl k,v=>Value.isInt k v | .inr x,v=>Value.isStrOf x v
def Iw(w:World):Key->Int | .inl k=>hashInt k | .inr x=>hashStr w x
theorem cF:∀{k:Key}{v:Value},kW k v=true->(∃i t,k=Sum.inl i/\v=Value.int i t)\/(∃x t,k=Sum.inr x/\v=Value.str x t) | .inl i,v,h=>by obtain⟨t,e⟩:=Value.isInt_shape (k:=i) (v:=v) h;exact .inl ⟨i,t,rfl,e⟩ | .inr x,v,h=>by obtain⟨t,e⟩:=Value.isStrOf_shape (x:=x) (v:=v) h;exact .inr ⟨x,t,rfl,e⟩
theorem tK(i:Int)(t:Tok):kW (.inl i) (.int i t)=true:=by simp[kW,Value.isInt]
theorem tL(x:Str)(t:Tok):kW (.inr x) (.str x t)=true:=by simp[kW,Value.isStrOf]
theorem CJ(a b:Int):decide ((Sum.inl a:Key)=Sum.inl b)=(a==b):=by
 by_cases e:a=b
 ·subst e;simp
 · have h:¬(Sum.inl a:Key)=Sum.inl b:=fun q=>e (Sum.inl.inj q)
   rw[decide_eq_false h];exact(beq_eq_false_iff_ne.mpr e).symm
theorem CK(a b:Str):decide ((Sum.inr a:Key)=Sum.inr b)=decide (a=b):=by
 by_cases e:a=b
 ·subst e;simp
 · have h:¬(Sum.inr a:Key)=Sum.inr b:=fun q=>e (Sum.inr.inj q)
   rw[decide_eq_false h,decide_eq_false e]
theorem CL(a:Int)(b:Str):decide ((Sum.inl a:Key)=Sum.inr b)=false:=decide_eq_false (fun q=>nomatch q)
theorem CM(a:Str)(b:Int):decide ((Sum.inr a:Key)=Sum.inl b)=false:=decide_eq_false (fun q=>nomatch q)
def cP(prog:Program)(w:World):PySem.KeyKind prog w Key where
 is:=kW
 hash:=Iw w
 inj:=fun v a b ha hb=>by
  rcases cF ha with⟨i,t,rfl,rfl⟩|⟨x,t,rfl,rfl⟩
  · rcases cF hb with⟨j,u,rfl,e⟩|⟨y,u,rfl,e⟩
    ·injection e with e1 _;rw[e1]
    ·exact nomatch e
  · rcases cF hb with⟨j,u,rfl,e⟩|⟨y,u,rfl,e⟩
    ·exact nomatch e
    ·injection e with e1 _;rw[e1]
 byValue:=fun k v h=>by rcases cF h with⟨i,t,rfl,rfl⟩|⟨x,t,rfl,rfl⟩<;>rfl
 pyHash:=fun hv h=>by
  rcases cF hv with⟨i,t,rfl,rfl⟩|⟨x,t,rfl,rfl⟩
  ·exact wpAny_pyHash_int h
  ·exact wpAny_pyHash_str h
 eqBool:=fun hu hv h=>by
  rcases cF hu with⟨i,t,rfl,rfl⟩|⟨x,t,rfl,rfl⟩
  · rcases cF hv with⟨j,u,rfl,rfl⟩|⟨y,u,rfl,rfl⟩
    ·rw[CJ]at h;exact wpAny_eqBool_int h
    ·rw[CL]at h;exact SeqAt.EqAt.int_str i t y u _ _ _ _ h
  · rcases cF hv with⟨j,u,rfl,rfl⟩|⟨y,u,rfl,rfl⟩
    ·rw[CM]at h;exact SeqAt.EqAt.str_int x t j u _ _ _ _ h
    ·rw[CK]at h;exact wpAny_eqBool_str h
 «strs»:=fun k x t v h=>by
  rcases cF h with⟨i,u,rfl,e⟩|⟨y,u,rfl,e⟩
  ·exact nomatch e
  · injection e with e1 _
    subst e1;cases v<;>rfl
theorem mW(prog:Program)(w:World)(i:Int)(t:Tok):(cP prog w).is (.inl i) (.int i t)=true:=tK i t
theorem mX(prog:Program)(w:World)(x:Str)(t:Tok):(cP prog w).is (.inr x) (.str x t)=true:=tL x t
end L2
namespace L2
open PySem PySem.Spec PyProof.Rows
inductive V where |cG|bl (b:Bool)|int (i:Int)|str (x:Str)|Fu (b:Array UInt8)|Ic (b:UInt64)|ref (a:Addr)|ty (n:String) deriving DecidableEq
def RelV:V->Value->Prop | .cG,u=>u=Value.none | .bl b,u=>u=Value.bool b | .int i,u=>∃t,u=Value.int i t | .str x,u=>∃t,u=Value.str x t | .Fu b,u=>∃t,u=Value.bytes b t | .Ic b,u=>∃t,u=Value.float b t | .ref a,u=>u=Value.ref a | .ty n,u=>u=Value.type n
abbrev Vals:List V->List Value->Prop:=Paired RelV
theorem Vals.length{xs:List V}{us:List Value}(r:Vals xs us):xs.length=us.length:=Paired.length r
theorem Vals.get:∀{xs:List V}{us:List Value}{i:Nat}{x:V},Vals xs us->xs[i]? =some x->∃u,us[i]? =some u/\RelV x u |_,_,_,_,.nil,e=>by simp at e |_,_,0,_,.cons r _,e=>by simp at e;subst e;exact⟨_,rfl,r⟩ |_,_,i+1,x,.cons _ t,e=>by obtain⟨u,h1,h2⟩:=Vals.get (i:=i) (x:=x) t (by simpa using e);exact⟨u,by simpa using h1,h2⟩
theorem Vals.set{x:V}{u:Value}(r:RelV x u):∀{xs:List V}{us:List Value}(i:Nat),Vals xs us->Vals (xs.set i x) (us.set i u) |_,_,_,.nil=>.nil |_,_,0,.cons _ t=>.cons r t |_,_,i+1,.cons q t=>.cons q (Vals.set r i t)
theorem Vals.append:∀{xs ys:List V}{us ws:List Value},Vals xs us->Vals ys ws->Vals (xs++ys) (us++ws) |_,_,_,_,.nil,s=>s |_,_,_,_,.cons r t,s=>.cons r (Vals.append t s)
theorem Vals.take:∀{xs:List V}{us:List Value}(n:Nat),Vals xs us->Vals (xs.take n) (us.take n) |_,_,0,_=>.nil |_,_,_+1,.nil=>.nil |_,_,n+1,.cons r t=>.cons r (Vals.take n t)
theorem Vals.drop:∀{xs:List V}{us:List Value}(n:Nat),Vals xs us->Vals (xs.drop n) (us.drop n) |_,_,0,r=>r |_,_,_+1,.nil=>.nil |_,_,n+1,.cons _ t=>Vals.drop n t
def gY:Option V->Option Value->Prop |some v,some u=>RelV v u |none,none=>True |_,_=>False
def KV{κ:Type}:List (κ×V)->List (κ×Value)->Prop:=Paired fun(p:κ×V)(q:κ×Value)=>p.1=q.1/\RelV p.2 q.2
def kV:Key->V | .inl i=>.int i | .inr x=>.str x
inductive HO where /--a list -/ |lst (xs:List V) /--a tuple (never changes) -/ |tup (xs:List V) /--a dict whose keys are ints and texts; one whose keys are tuples of ints and texts (the empty one is both) -/ |dK (kvs:List (Key×V))|dT (kvs:List (List Key×V)) /--a set of ints: its members,its size -/ |set (S:Int->Bool)(n:Nat) /--an instance of the class at C,its dict at dx,its attributes -/ |ins (C dx:Addr)(fs:List (Str×V)) /--the dict of the instance at x -/ |own (x:Addr) /--the dict of an exception -/ |xd (fs:List (Str×V)) /--a bound method,f of x -/ |met (f x:Addr) /--a range object lo,lo+1,.. below hi -/ |Fv (lo hi:Int) /--a thing that is known to the object (the uS; a dict while a loop walks it): read,never written while it is so -/ |zy (o:Obj)(u:HO) /--a code object's table -/ |CN (ps:Array Value) /--any other thing,by what is true of its one object (a def of one's own: SetO a S n:=HO.ext fun h=>..) -/ |ext (φ:Heap->Prop)
abbrev Hp:=Addr->Option HO
def upd(H:Hp)(a:Addr)(o:HO):Hp:=fun b=>if b=a then some o else H b
theorem au{H:Hp}{a:Addr}{o:HO}:upd H a o a=some o:=by unfold upd;rw[if_pos rfl]
theorem aj{H:Hp}{a b:Addr}{o:HO}(h:b≠a):upd H a o b=H b:=by unfold upd;rw[if_neg h]
theorem mY{H:Hp}{a b:Addr}{o u:HO}(h:H a=some o)(h':H b=some u)(d:o≠u):a≠b:=by intro e;subst e;rw[h]at h';exact d (Option.some.inj h')
theorem aX{H:Hp}{a b:Addr}{o:HO}(h:H a=some o)(h':H b=none):a≠b:=by intro e;subst e;rw[h]at h';cases h'
section
variable (P:Program) (w:World)
def dh(H:Hp)(h:Heap)(a:Addr):HO->Prop | .lst xs=>xs.length<=sizeLine/\∃(its:List Value)(n:Nat),Vals xs its/\h.get? a=some {cls:=.type "list",data:=.seq its.toArray n} | .tup xs=>xs.length<=sizeLine/\∃its:List Value,Vals xs its/\IsTup h a its.toArray | .dK kvs=>kvs.length<=sizeLine/\(a==sysModules)=false/\∃vs,KV kvs vs/\h.DictOf (cP P w) a vs | .dT kvs=>kvs.length<=sizeLine/\(a==sysModules)=false/\∃xs:List (List Key×Addr×Value),Paired (fun(p:List Key×V)(q:List Key×Addr×Value)=>p.1=q.1/\H q.2.1=some (.tup (p.1.map kV))/\RelV p.2 q.2.2) kvs xs/\∃o es ep,h.get? a=some o/\o.ExactDict/\o.data= .dict es ep/\es.toList=xs.map (entryOfKey (tupleKind (cP P w)))/\(xs.map (·.1)).Nodup | .set S n=>h.SetOf (intKind P w) a S n | .ins C dx fs=>H dx=some (.own a)/\fs.length<=1000/\dx≠a/\h.get? a=some (PySem.W.instObj C dx)/\∃mA,h.Ns1 dx mA/\(∀f,gY (fs.lookup f) (mA f))/\PySem.Within mA (fs.map (·.1)) | .own _=>∃o,h.get? a=some o | .xd fs=>∃mA,h.Ns1 a mA/\∀f,gY (fs.lookup f) (mA f) | .Fv lo hi=>∃t u v,h.get? a=some {cls:=.type "range",data:=.fields #[.int lo t,.int hi u,.int 1 v]} | .zy o u=>h.get? a=some o/\dh H h a u | .CN ps=>h.get? a=some {cls:=.none,data:=.fields ps} | .met f x=>h.get? a=some (PySem.W.methodObj (.ref f) (.ref x)) | .ext φ=>φ h/\(∃o,h.get? a=some o)/\∀h1 h2:Heap,φ h1->(∀o,h1.get? a=some o->h2.get? a=some o)->φ h2
def gZ(H:Hp)(h:Heap):Prop:=∀a o,H a=some o->dh P w H h a o
end
section
variable {P:Program}{w:World}{H H':Hp}{h h':Heap}{a:Addr}{o:HO}
theorem dh.lt(x:dh P w H h a o):a<h.objs.size:=by cases o with |lst xs=>obtain⟨_,_,_,_,e⟩:=x;exact Heap.lt_size e |tup xs=>obtain⟨_,_,_,p⟩:=x;exact p.lt |dK kvs=>obtain⟨_,_,_,_,o,_,_,e,_⟩:=x;exact Heap.lt_size e |dT kvs=>obtain⟨_,_,_,_,o,_,_,e,_⟩:=x;exact Heap.lt_size e |set S n=>obtain⟨o,_,_,_,e,_⟩:=x;exact Heap.lt_size e |ins C dx fs=>obtain⟨_,_,_,e,_⟩:=x;exact Heap.lt_size e |own y=>obtain⟨_,e⟩:=x;exact Heap.lt_size e |xd fs=>obtain⟨_,⟨_,_,_,e,_⟩,_⟩:=x;exact Heap.lt_size e |Fv lo hi=>obtain⟨_,_,_,e⟩:=x;exact Heap.lt_size e |zy ob u=>obtain⟨e,_⟩:=x;exact Heap.lt_size e |CN ps=>exact Heap.lt_size (show h.get? a=some _ from x) |met f y=>exact Heap.lt_size (show h.get? a=some _ from x) |ext φ=>obtain⟨_,⟨_,e⟩,_⟩:=x;exact Heap.lt_size e
theorem Paired.CO{α β:Type}{F G:α->β->Prop}:∀{l₁:List α}{l₂:List β},Paired F l₁ l₂->(∀a b,F a b->G a b)->Paired G l₁ l₂ |_,_,.nil,_=>.nil |_,_,.cons r t,f=>.cons (f _ _ r) (Paired.CO t f)
theorem dh.oU(x:dh P w H h a o)(k:∀b u,(b=a\/H b=some (.own a))->h.get? b=some u->h'.get? b=some u) (ho:∀b,H b=some (.own a)->H' b=some (.own a))(ht:∀b xs,H b=some (.tup xs)->H' b=some (.tup xs)):dh P w H' h' a o:=by induction o with |lst xs=>obtain⟨z,its,n,r,e⟩:=x;exact⟨z,its,n,r,k _ _ (.inl rfl) e⟩ |tup xs=>obtain⟨z,its,r,ob,e,c⟩:=x;exact⟨z,its,r,ob,k _ _ (.inl rfl) e,c⟩ |dK kvs=>obtain⟨z,y,vs,r,ob,es,ep,e,c⟩:=x;exact⟨z,y,vs,r,ob,es,ep,k _ _ (.inl rfl) e,c⟩ |dT kvs=>obtain⟨z,y,xs,r,ob,es,ep,e,c⟩:=x;exact⟨z,y,xs,Paired.CO r fun p q z=>⟨z.1,ht _ _ z.2.1,z.2.2⟩,ob,es,ep,k _ _ (.inl rfl) e,c⟩ |set S n=>obtain⟨ob,es,ep,t,e,c⟩:=x;exact⟨ob,es,ep,t,k _ _ (.inl rfl) e,c⟩ |ins C dx fs=>obtain⟨d,z,ne,e,mA,⟨od,es,ep,e2,c⟩,r⟩:=x;exact⟨ho _ d,z,ne,k _ _ (.inl rfl) e,mA,⟨od,es,ep,k _ _ (.inr d) e2,c⟩,r⟩ |own y=>obtain⟨ob,e⟩:=x;exact⟨ob,k _ _ (.inl rfl) e⟩ |xd fs=>obtain⟨mA,⟨od,es,ep,e,c⟩,r⟩:=x;exact⟨mA,⟨od,es,ep,k _ _ (.inl rfl) e,c⟩,r⟩ |Fv lo hi=>obtain⟨t,u,v,e⟩:=x;exact⟨t,u,v,k _ _ (.inl rfl) e⟩ |zy ob u ih=>obtain⟨e,q⟩:=x;exact⟨k _ _ (.inl rfl) e,ih q⟩ |CN ps=>have e:h.get? a=some {cls:=.none,data:=.fields ps}:=x;show h'.get? a=some {cls:=.none,data:=.fields ps};exact k a _ (.inl rfl) e |met f y=>have e:h.get? a=some (PySem.W.methodObj (.ref f) (.ref y)):=x;show h'.get? a=some (PySem.W.methodObj (.ref f) (.ref y));exact k a _ (.inl rfl) e |ext φ=>obtain⟨p,⟨o,e⟩,st⟩:=x;exact⟨st _ _ p fun o q=>k _ _ (.inl rfl) q,⟨o,k _ _ (.inl rfl) e⟩,st⟩
theorem gZ.lt(x:gZ P w H h)(e:H a=some o):a<h.objs.size:=(x a o e).lt
theorem gZ.fresh(x:gZ P w H h)(e:h.objs.size<=a):H a=none:=by cases q:H a with |none=>rfl |some u=>exact absurd (Nat.lt_of_lt_of_le (x.lt q) e) (Nat.lt_irrefl _)
theorem gZ.kept(x:gZ P w H h)(k:∀b u,h.get? b=some u->h'.get? b=some u):gZ P w H h':=fun a o e=>(x a o e).oU (fun b u _ q=>k b u q) (fun _ q=>q) fun _ _ q=>q
theorem gZ.laid(x:gZ P w H h)(k:∀b u,h.get? b=some u->h'.get? b=some u)(hp:h.objs.size<=a)(new:dh P w (upd H a o) h' a o):gZ P w (upd H a o) h':=fun b u e=>by
 have hn:=x.fresh hp;by_cases hb:b=a
 ·subst hb;rw[au]at e;cases e;exact new
 · rw[aj hb]at e
   exact(x b u e).oU (fun c v _ q=>k c v q) (fun c q=>by rw[aj (aX q hn)];exact q) fun c xs q=>by rw[aj (aX q hn)];exact q
end
def Rd(H:Hp)(a:Addr)(u:HO):Prop:=H a=some u\/∃o,H a=some (.zy o u)
theorem Rd.ok{P:Program}{w:World}{H:Hp}{h:Heap}{a:Addr}{u:HO}(r:Rd H a u)(x:gZ P w H h):dh P w H h a u:=by
 rcases r with r|⟨o,r⟩
 ·exact x a u r
 · obtain⟨_,q⟩:=x a _ r
   exact q
def FH:Option HO->Prop |some (.lst _)=>True |some (.dK _)=>True |some (.dT _)=>True |some (.set _ _)=>True |some (.ins _ _ _)=>True |some (.ext _)=>True |_=>False
section
variable {P:Program}{w:World}{H:Hp}{h h':Heap}{x e:Addr}{o':HO}
theorem gZ.write(ok:gZ P w H h)(mu:FH (H x))(he:e=x\/H e=some (.own x))(k:∀b u,b≠e->h.get? b=some u->h'.get? b=some u)(heo:∃u,h'.get? e=some u) (new:dh P w (upd H x o') h' x o'):gZ P w (upd H x o') h':=fun b u q=>by
  have nown:∀c y,H c=some (.own y)->c≠x:=fun c y r z=>by subst z;rw[r]at mu;exact mu
  have ntup:∀c xs,H c=some (.tup xs)->c≠x:=fun c xs r z=>by subst z;rw[r]at mu;exact mu
  by_cases hb:b=x
  ·subst hb;rw[au]at q;cases q;exact new
  · rw[aj hb]at q
    by_cases hbe:b=e
    · have q':H b=some (.own x):=by
        rcases he with z|z
        ·exact absurd (hbe.trans z) hb
        ·rw[hbe];exact z
      rw[q]at q';cases q';obtain⟨v,hv⟩:=heo;exact⟨v,by rw[hbe];exact hv⟩
    · refine(ok b u q).oU (fun c v hc r=>k c v ?_ r) (fun c r=>by rw[aj (nown c b r)];exact r) fun c xs r=>by rw[aj (ntup c xs r)];exact r
      rcases hc with rfl|hc
      ·exact hbe
      · rintro rfl
        rcases he with z|z
        ·exact nown c b hc z
        ·rw[hc]at z;cases z;exact hb rfl
end
structure Un(fs ex:List Addr)(H H':Hp)(h h':Heap):Prop where
 keep:∀b o,h.get? b=some o->H b=none->b∉fs->b∉ex->h'.get? b=some o
 slot:∀b o,h.get? b=some o->H b=none->b∈fs->b∉ex->∃sl,h'.get? b=some {o with slots:=sl}
 free:∀b o,h.get? b=some o->H b=none->b∉ex->H' b=none
 there:∀b o,h.get? b=some o->b∉ex->∃o',h'.get? b=some o'
 tups:∀b xs,H b=some (.tup xs)->H' b=some (.tup xs)
 frzs:∀b o u,H b=some (.zy o u)->H' b=some (.zy o u)
 tbls:∀b ps,H b=some (.CN ps)->∃more,H' b=some (.CN (ps++more))
section
variable {fs fs' ex ex':List Addr}{H H1 H2:Hp}{h h1 h2 h':Heap}{a x e:Addr}{o:HO}
theorem Un.any(u:Un fs ex H H1 h h1){b:Addr}{ob:Obj}(q:h.get? b=some ob)(n:H b=none)(hx:b∉ex):∃sl,h1.get? b=some {ob with slots:=sl}:=by
 by_cases hb:b∈fs
 ·exact u.slot b ob q n hb hx
 ·exact⟨ob.slots,u.keep b ob q n hb hx⟩
theorem Un.kept(k:∀b u,h.get? b=some u->h'.get? b=some u):Un fs ex H H h h':=⟨fun b ob q _ _ _=>k b ob q,fun b ob q _ _ _=>⟨ob.slots,k b ob q⟩,fun _ _ _ n _=>n,fun b ob q _=>⟨ob,k b ob q⟩,fun _ _ q=>q,fun _ _ _ q=>q,fun _ ps q=>⟨#[],by rw[q];simp⟩⟩
theorem Un.refl:Un fs ex H H h h:=Un.kept fun _ _ q=>q
theorem Un.laid(k:∀b u,h.get? b=some u->h'.get? b=some u)(hp:h.objs.size<=a)(hn:H a=none):Un fs ex H (upd H a o) h h' where
 keep:=fun b u q _ _ _=>k b u q
 slot:=fun b u q _ _ _=>⟨u.slots,k b u q⟩
 free:=fun b u q n _=>by rw[aj (Nat.ne_of_lt (Nat.lt_of_lt_of_le (Heap.lt_size q) hp))];exact n
 there:=fun b u q _=>⟨u,k b u q⟩
 tups:=fun b xs q=>by rw[aj (aX q hn)];exact q
 frzs:=fun b u xs q=>by rw[aj (aX q hn)];exact q
 tbls:=fun b ps q=>⟨#[],by rw[aj (aX q hn),q];simp⟩
theorem Un.write(mu:FH (H x))(he:e=x\/H e=some (.own x))(k:∀b u,b≠e->h.get? b=some u->h'.get? b=some u)(heo:∃u,h'.get? e=some u):Un fs ex H (upd H x o) h h':=by
 have hx:∀b,H b=none->b≠x:=fun b n z=>by subst z;rw[n]at mu;exact mu
 have hb:∀b,H b=none->b≠e:=fun b n z=>by
  subst z;rcases he with r|r
  ·exact hx b n r
  ·rw[n]at r;cases r
 have hm:∀b u,H b=some u->¬FH (some u)->b≠x:=fun b u q nm z=>by subst z;rw[q]at mu;exact nm mu
 refine⟨fun b u q n _ _=>k b u (hb b n) q,fun b u q n _ _=>⟨u.slots,k b u (hb b n) q⟩,fun b u q n _=>by rw[aj (hx b n)];exact n,fun b u q _=>?_,fun b xs q=>by rw[aj (hm b _ q fun z=>z)];exact q,fun b u xs q=>by rw[aj (hm b _ q fun z=>z)];exact q,fun b ps q=>⟨#[],by rw[aj (hm b _ q fun z=>z),q];simp⟩⟩;by_cases hbe:b=e
 ·subst hbe;exact heo
 ·exact⟨u,k b u hbe q⟩
end
def Ie(h:Heap)(H:Hp):List Addr:=(List.range h.objs.size).filter fun a=>(H a).isSome
def lY(h:Heap)(H:Hp):Heap:=PySem.W.hideAll h (Ie h H)
theorem tN(h:Heap)(H:Hp):(lY h H).objs.size=h.objs.size:=PySem.W.hideAll_size _ _
theorem uT{h:Heap}{H:Hp}{b:Addr}{o:Obj}(e:h.get? b=some o)(n:H b=none):(lY h H).get? b=some o:=PySem.W.hideAll_get _ e fun hm=>by have q:(H b).isSome=true:=(List.mem_filter.mp hm).2;rw[n]at q;simp at q
theorem zF{h:Heap}{H:Hp}{b:Addr}{o:Obj}(e:(lY h H).get? b=some o):h.get? b=some o/\H b=none:=by have e':h.get? b=some o:=PySem.W.of_hideAll (Ie h H) e;refine⟨e',?_⟩;cases q:H b with |none=>rfl |some x=>have hm:b∈Ie h H:=List.mem_filter.mpr ⟨List.mem_range.mpr (Heap.lt_size e'),by simp[q]⟩;have z:(lY h H).get? b=none:=PySem.W.hideAll_none (Ie h H) hm;rw[z]at e;cases e
end L2
namespace L2
open PySem PySem.Spec PyProof.Rows
structure Mod(K:PySem.W.Frag)(mg:Str->Option Value)(base:Heap):Prop where
 kin:K.In base
 glob:base.Ns mainGlobals mg
 blt:∃mb,base.Ns builtinsNs mb/\∀x:Str,x≠"__name__"->mb x=bootBuiltins x
 nolimit:base.NoLimit
structure Cx where
 prog:Program
 w:World
 K:PySem.W.Frag
 mg:Str->Option Value
 base:Heap
 A:Around
 N:List Str
 s₀:Shared
 H₀:Hp
 env:Env
 outer:List Env
 stack:List Env
 ex:List Addr
 fn:Str->Bool
 calm:Bool
 pn:List (Addr×Obj)
 xe:Value->Shared->Prop
def qx(l:List Env):List Addr:=l.filterMap (·.frame)
abbrev Cx.fs(X:Cx):List Addr:=qx X.outer
def Iy(sc:Scope)(x:Str):Prop:=sc.names.lookup x=some .local\/sc.names.lookup x=some .cell\/sc.names.lookup x=some .free
def Loc(sc:Scope)(x:Str):Prop:=sc.names.lookup x=some .local\/sc.names.lookup x=some .cell
def Look(env:Env)(h:Heap)(m:Str->Option Value)(x:Str)(u:Value):Prop:=(env.kindOf x=some .local/\m x=some u)\/((env.kindOf x=some .cell\/env.kindOf x=some .free)/\∃c,env.cells.lookup x=some c/\h.IsCell c (some u))
structure Cx.Ok(X:Cx):Prop where
 mod:Mod X.K X.mg X.base
 kind:X.env.scope.kind= .function
 glob:X.env.globals=mainGlobals
 blt:X.env.builtins=builtinsNs
 above:X.s₀.heap.objs.size<=X.env.locals
 inj:∀x y c,X.env.cells.lookup x=some c->X.env.cells.lookup y=some c->x=y
 has:∀x,(X.env.kindOf x=some .cell\/X.env.kindOf x=some .free)->∃c,X.env.cells.lookup x=some c
 cab:∀x c,X.fn x=true->X.env.cells.lookup x=some c->X.s₀.heap.objs.size<=c
 hd:X.calm=true->X.A.handled=none
 frames:X.A.frames=some X.stack
 stk:X.stack=X.outer\/(X.stack=X.env::X.outer/\X.env.frame=some X.env.locals)
 exf:∀b∈X.ex,b≠X.env.locals/\∀x c,X.env.cells.lookup x=some c->c≠b
 bs:∀b o,X.base.get? b=some o->X.s₀.heap.get? b=some o/\X.H₀ b=none
 bsz:X.base.objs.size<=X.s₀.heap.objs.size
 noex:∀b o,X.base.get? b=some o->b∉X.ex
 exfs:∀b∈X.ex,b∉X.fs
 j8:X.s₀.heap.FunFrames X.base X.outer
 frf:∀b∈X.fs,X.H₀ b=none
structure Inv(X:Cx)(pins:List (Addr×Obj))(σ:List (Option V))(H:Hp)(s:Shared):Prop where
 ok:X.Ok
 os:s.os=X.s₀.os
 bare:AllBare s.gens
 base:Un X.fs X.ex X.H₀ H X.s₀.heap s.heap
 loc:∃m,s.heap.Ns X.env.locals m/\∀(i:Nat)(x:Str)(v:V),X.N[i]? =some x->σ[i]? =some (some v)->Iy X.env.scope x->∃u,RelV v u/\Look X.env s.heap m x u
 cell:∀x c,X.env.cells.lookup x=some c->∃v,s.heap.IsCell c v
 free:H X.env.locals=none
 freeC:∀x c,X.env.cells.lookup x=some c->H c=none
 pin:∀p∈X.pn++pins,s.heap.get? p.1=some p.2/\H p.1=none/\p.1≠X.env.locals/\p.1∉X.fs/\∀v,p.2.data≠ .cell v
 hok:gZ X.prog X.w H s.heap
 len:σ.length=X.N.length
section
variable {X:Cx}{pins:List (Addr×Obj)}{σ:List (Option V)}{H H':Hp}{s:Shared}{h':Heap}
theorem Cx.Ok.Iz(ok:X.Ok){b:Addr}{o:Obj}(e:X.base.get? b=some o):b∉X.fs:=fun hb=>by have:=(ok.j8.mem hb).1;rw[e]at this;cases this
theorem Inv.bs(I:Inv X pins σ H s):∀b o,X.base.get? b=some o->s.heap.get? b=some o/\H b=none:=fun b o e=>⟨I.base.keep b o (I.ok.bs b o e).1 (I.ok.bs b o e).2 (I.ok.Iz e) (I.ok.noex b o e),I.base.free b o (I.ok.bs b o e).1 (I.ok.bs b o e).2 (I.ok.noex b o e)⟩
theorem Inv.bk(I:Inv X pins σ H s):∀b o,X.base.get? b=some o->s.heap.get? b=some o:=fun b o e=>(I.bs b o e).1
theorem Inv.mod(I:Inv X pins σ H s):Mod X.K X.mg X.base:=I.ok.mod
theorem Inv.oQ(I:Inv X pins σ H s):X.K.In s.heap:=I.ok.mod.kin.keeps I.bk
theorem Inv.lt(I:Inv X pins σ H s):X.env.locals<s.heap.objs.size:=let⟨_,hn,_⟩:=I.loc;hn.lt
theorem Inv.sz(I:Inv X pins σ H s):X.s₀.heap.objs.size<=s.heap.objs.size:=Nat.le_trans I.ok.above (Nat.le_of_lt I.lt)
theorem Inv.IA(I:Inv X pins σ H s){a:Addr}(h:s.heap.objs.size<=a):a∉X.fs:=fun hb=>by obtain⟨_,o,ho,_⟩:=I.ok.j8.mem hb;exact absurd (Nat.lt_of_lt_of_le (Heap.lt_size ho) (Nat.le_trans I.sz h)) (Nat.lt_irrefl _)
theorem Inv.zA(I:Inv X pins σ H s):∀x c,X.env.cells.lookup x=some c->c≠X.env.locals:=fun x c e z=>by obtain⟨v,o,ho,hd⟩:=I.cell x c e;obtain⟨m,⟨o',es,ep,ho',hd',_⟩,_⟩:=I.loc;rw[z,ho']at ho;cases ho;rw[hd']at hd;cases hd
theorem Inv.j8(I:Inv X pins σ H s):s.heap.FunFrames X.base X.outer:=by
 have all:∀(l:List Env),(∀b∈qx l,b∈X.fs)->X.s₀.heap.FunFrames X.base l->s.heap.FunFrames X.base l:=by intro l;induction l with |nil=>intro _ _;trivial |cons env r ih=>intro hs hl;obtain⟨hk,⟨L,o,hf,hn,ho,hd⟩,hr⟩:=hl;have hL:L∈X.fs:=hs L (by unfold qx;rw[List.filterMap_cons,hf];exact List.mem_cons_self);obtain⟨sl,e⟩:=I.base.slot L o ho (I.ok.frf L hL) hL fun z=>I.ok.exfs L z hL;exact⟨hk,⟨L,_,hf,hn,e,hd⟩,ih (fun b hb=>hs b (by unfold qx;rw[List.filterMap_cons,hf];exact List.mem_cons_of_mem _ hb)) hr⟩
 exact all X.outer (fun _ hb=>hb) I.ok.j8
theorem Inv.stack(I:Inv X pins σ H s):s.heap.FunFrames X.base X.stack:=by
 rcases I.ok.stk with e|⟨e,hf⟩
 ·rw[e];exact I.j8
 · rw[e]
   obtain⟨m,hn,_⟩:=I.loc;refine .cons (by rw[I.ok.kind];decide) hf hn ?_ I.j8;exact Heap.get?_none_of_le (Nat.le_trans I.ok.bsz I.ok.above)
theorem Inv.oV(I:Inv X pins σ H s):∀b∈qx X.stack,b∈X.env.locals::X.fs:=fun b hb=>by
 rcases I.ok.stk with e|⟨e,hf⟩
 ·rw[e]at hb;exact List.mem_cons_of_mem _ hb
 · rw[e]at hb
   unfold qx at hb;rw[List.filterMap_cons,hf]at hb;exact hb
theorem Inv.qy(I:Inv X pins σ H s):∀b∈qx X.stack,H b=none:=fun b hb=>by
 rcases List.mem_cons.mp (I.oV b hb)with e|hb
 ·rw[e];exact I.free
 · obtain⟨_,o,ho,_⟩:=I.ok.j8.mem hb
   exact I.base.free b o ho (I.ok.frf b hb) fun z=>I.ok.exfs b z hb
theorem Inv.step{g':Array GenState}{t':Nat}{d':Drawn}{ch:List Addr}(I:Inv X pins σ H s) (hch:∀b∈ch,(b∈X.ex\/X.s₀.heap.objs.size<=b)/\b≠X.env.locals/\(∀x c,X.env.cells.lookup x=some c->c≠b)/\∀p∈X.pn++pins,p.1≠b) (keep:∀b o,b≠X.env.locals->b∉X.fs->b∉ch->s.heap.get? b=some o->H b=none->h'.get? b=some o) (slot:∀b o,b≠X.env.locals->b∈X.fs->b∉ch->s.heap.get? b=some o->H b=none->∃sl,h'.get? b=some {o with slots:=sl})(free:∀b o,b∉ch->s.heap.get? b=some o->H b=none->H' b=none) (there:∀b o,b∉ch->s.heap.get? b=some o->∃o',h'.get? b=some o') (tups:∀b xs,H b=some (.tup xs)->H' b=some (.tup xs))(frzs:∀b o u,H b=some (.zy o u)->H' b=some (.zy o u))(tbls:∀b ps,H b=some (.CN ps)->∃more,H' b=some (.CN (ps++more))) (ns:∀m,s.heap.Ns X.env.locals m->h'.Ns X.env.locals m)(hok:gZ X.prog X.w H' h')(hg:AllBare g'): Inv X pins σ H' {s with heap:=h',gens:=g',drawn:=d',toks:=t'}:=by
  have neL:∀b o,X.s₀.heap.get? b=some o->b≠X.env.locals:=fun b o e=>Nat.ne_of_lt (Nat.lt_of_lt_of_le (Heap.lt_size e) I.ok.above);have neC:∀b o,X.s₀.heap.get? b=some o->b∉X.ex->b∉ch:=fun b o e hx hb=>by
   rcases(hch b hb).1 with z|z
   ·exact hx z
   ·exact absurd (Nat.lt_of_lt_of_le (Heap.lt_size e) z) (Nat.lt_irrefl _)
  have cellK:∀x c,X.env.cells.lookup x=some c->∀v,s.heap.IsCell c v->h'.IsCell c v:=fun x c e v ⟨o,ho,hd⟩=>by
   have nch:c∉ch:=fun z=>(hch c z).2.2.1 x c e rfl;by_cases hc:c∈X.fs
   · obtain⟨sl,q⟩:=slot c o (I.zA x c e) hc nch ho (I.freeC x c e)
     exact⟨_,q,hd⟩
   ·exact⟨o,keep c o (I.zA x c e) hc nch ho (I.freeC x c e),hd⟩
  refine⟨I.ok,I.os,hg,⟨fun b o e n hb hx=>?_,fun b o e n hb hx=>?_,fun b o e n hx=>?_,fun b o e hx=>?_,fun b xs e=>tups b xs (I.base.tups b xs e),fun b o xs e=>frzs b o xs (I.base.frzs b o xs e),fun b ps e=>?_⟩,?_,fun x c e=>?_,?_,fun x c e=>?_,fun p hp=>?_,hok,I.len⟩
  ·exact keep b o (neL b o e) hb (neC b o e hx) (I.base.keep b o e n hb hx) (I.base.free b o e n hx)
  · obtain⟨sl,e1⟩:=I.base.slot b o e n hb hx
    obtain⟨sl',e2⟩:=slot b _ (neL b o e) hb (neC b o e hx) e1 (I.base.free b o e n hx);exact⟨sl',e2⟩
  · obtain⟨o',e1⟩:=I.base.there b o e hx
    exact free b o' (neC b o e hx) e1 (I.base.free b o e n hx)
  · obtain⟨o',e1⟩:=I.base.there b o e hx
    exact there b o' (neC b o e hx) e1
  · obtain⟨m1,e1⟩:=I.base.tbls b ps e
    obtain⟨m2,e2⟩:=tbls b _ e1;exact⟨m1++m2,by rw[e2,Array.append_assoc]⟩
  · obtain⟨m,hn,hl⟩:=I.loc
    refine⟨m,ns m hn,fun i x v e1 e2 e3=>?_⟩;obtain⟨u,r,l⟩:=hl i x v e1 e2 e3;refine⟨u,r,?_⟩;rcases l with l|⟨k,c,e,z⟩
    ·exact .inl l
    ·exact .inr ⟨k,c,e,cellK x c e _ z⟩
  · obtain⟨v,z⟩:=I.cell x c e
    exact⟨v,cellK x c e v z⟩
  · obtain⟨m,⟨o,_,_,ho,_⟩,_⟩:=I.loc
    exact free _ o (fun z=>(hch _ z).2.1 rfl) ho I.free
  · obtain⟨v,o,ho,hd⟩:=I.cell x c e
    exact free c o (fun z=>(hch c z).2.2.1 x c e rfl) ho (I.freeC x c e)
  · obtain⟨e,n,ne,nf,d⟩:=I.pin p hp
    have nch:p.1∉ch:=fun z=>(hch p.1 z).2.2.2 p hp rfl;exact⟨keep p.1 p.2 ne nf nch e n,free p.1 p.2 nch e n,ne,nf,d⟩
theorem Inv.un{t':Nat}(I:Inv X pins σ H s)(u:Un X.fs [] H H' s.heap h')(hok:gZ X.prog X.w H' h'):Inv X pins σ H' {s with heap:=h',toks:=t'}:=by obtain⟨m,⟨o,es,ep,ho,r⟩,_⟩:=id I.loc;obtain⟨sl,hL⟩:=u.any ho I.free (by simp);exact I.step (g':=s.gens) (d':=s.drawn) (ch:=[]) (fun _ z=>nomatch z) (fun b o _ hb _ e n=>u.keep b o e n hb (by simp)) (fun b o _ hb _ e n=>u.slot b o e n hb (by simp)) (fun b o _ e n=>u.free b o e n (by simp)) (fun b o _ e=>u.there b o e (by simp)) u.tups u.frzs u.tbls (fun m' hm=>by obtain⟨o',es',ep',ho',r'⟩:=hm;rw[ho]at ho';cases ho';exact⟨_,es',ep',hL,r'⟩) hok I.bare
theorem Inv.call{g':Array GenState}{t':Nat}{d':Drawn}{ch:List Addr}(I:Inv X pins σ H s)(u:Un (qx X.stack) ch H H' s.heap h')(hok:gZ X.prog X.w H' h')(hg:AllBare g') (hch:∀b∈ch,(b∈X.ex\/X.s₀.heap.objs.size<=b)/\b≠X.env.locals/\(∀x c,X.env.cells.lookup x=some c->c≠b)/\∀p∈X.pn++pins,p.1≠b): Inv X pins σ H' {s with heap:=h',gens:=g',drawn:=d',toks:=t'}:=by obtain⟨m,⟨o,es,ep,ho,r⟩,_⟩:=id I.loc;obtain⟨sl,hL⟩:=u.any ho I.free fun z=>(hch _ z).2.1 rfl;exact I.step (ch:=ch) hch (fun b o hL hb hc e n=>u.keep b o e n (fun z=>(List.mem_cons.mp (I.oV b z)).elim hL hb) hc) (fun b o _ _ hc e n=>u.any e n hc) (fun b o hc e n=>u.free b o e n hc) (fun b o hc e=>u.there b o e hc) u.tups u.frzs u.tbls (fun m' hm=>by obtain⟨o',es',ep',ho',r'⟩:=hm;rw[ho]at ho';cases ho';exact⟨_,es',ep',hL,r'⟩) hok hg
theorem Inv.turned{t':Nat}{it:Addr}(I:Inv X pins σ H s)(k:∀b o,b≠it->s.heap.get? b=some o->h'.get? b=some o)(hn:H it=none)(hL:it≠X.env.locals) (h1:it∈X.ex\/X.s₀.heap.objs.size<=it)(h2:∀x c,X.env.cells.lookup x=some c->c≠it)(h3:∀p∈X.pn++pins,p.1≠it):Inv X pins σ H {s with heap:=h',toks:=t'}:=by
  have nit:∀b u,H b=some u->b≠it:=fun b u e z=>by rw[z,hn]at e;cases e
  refine I.step (g':=s.gens) (d':=s.drawn) (ch:=[it]) (fun b hb=>?_) (fun b o _ _ hc e _=>k b o (fun z=>hc (by simp[z])) e) (fun b o _ _ hc e _=>⟨o.slots,k b o (fun z=>hc (by simp[z])) e⟩) (fun _ _ _ _ n=>n) (fun b o hc e=>⟨o,k b o (fun z=>hc (by simp[z])) e⟩) (fun _ _ e=>e) (fun _ _ _ e=>e) (fun b ps e=>⟨#[],by rw[e];simp⟩) (fun m hm=>?_) (fun b u e=>?_) I.bare
  · have e:b=it:=by simpa using hb
    subst e;exact⟨h1,hL,h2,h3⟩
  · obtain⟨o,es,ep,ho,r⟩:=hm
    exact⟨o,es,ep,k _ o (Ne.symm hL) ho,r⟩
  · refine(I.hok b u e).oU (fun c v hc q=>k c v ?_ q) (fun _ q=>q) fun _ _ q=>q
    rcases hc with z|z
    ·rw[z];exact nit b u e
    ·exact nit c _ z
theorem Inv.tok(I:Inv X pins σ H s)(t:Nat):Inv X pins σ H {s with toks:=t}:=I.un (h':=s.heap) (t':=t) Un.refl I.hok
theorem Inv.kept{t':Nat}(I:Inv X pins σ H s)(k:∀b u,s.heap.get? b=some u->h'.get? b=some u):Inv X pins σ H {s with heap:=h',toks:=t'}:=I.un (Un.kept k) (I.hok.kept k)
theorem Inv.laid{a:Addr}{o:HO}{t':Nat}(I:Inv X pins σ H s)(k:∀b u,s.heap.get? b=some u->h'.get? b=some u)(hp:s.heap.objs.size<=a)(new:dh X.prog X.w (upd H a o) h' a o): Inv X pins σ (upd H a o) {s with heap:=h',toks:=t'}:=I.un (Un.laid k hp (I.hok.fresh hp)) (I.hok.laid k hp new)
theorem Inv.write{x e:Addr}{o:HO}{t':Nat}(I:Inv X pins σ H s)(mu:FH (H x))(he:e=x\/H e=some (.own x))(k:∀b u,b≠e->s.heap.get? b=some u->h'.get? b=some u)(heo:∃u,h'.get? e=some u) (new:dh X.prog X.w (upd H x o) h' x o):Inv X pins σ (upd H x o) {s with heap:=h',toks:=t'}:=I.un (Un.write mu he k heo) (I.hok.write mu he k heo new)
theorem Inv.qz{pins':List (Addr×Obj)}(I:Inv X pins σ H s)(h:∀p∈pins',s.heap.get? p.1=some p.2/\H p.1=none/\p.1≠X.env.locals/\p.1∉X.fs/\∀v,p.2.data≠ .cell v):Inv X pins' σ H s:=⟨I.ok,I.os,I.bare,I.base,I.loc,I.cell,I.free,I.freeC,fun p hp=>(List.mem_append.mp hp).elim (fun z=>I.pin p (List.mem_append_left _ z)) (h p),I.hok,I.len⟩
theorem mZ{N:List Str}(hN:N.Nodup){i j:Nat}{x:Str}(a:N[i]? =some x)(b:N[j]? =some x):i=j:=by obtain⟨h1,e1⟩:=List.getElem?_eq_some_iff.mp a;obtain⟨h2,e2⟩:=List.getElem?_eq_some_iff.mp b;exact(List.getElem_inj hN).mp (e1.trans e2.symm)
theorem kX{M:Model}{A:Around}{E:Value->Shared->Prop}{i:Nat}{x:Str}{v:V}{u:Value}{Q:Unit->Shared->Prop}(I:Inv X pins σ H s)(hN:X.N.Nodup)(hi:X.N[i]? =some x)(hx:Loc X.env.scope x)(r:RelV v u) (h:∀s',Inv X pins (σ.set i (some v)) H s'->(∃a,Heap.SameBut a s.heap s'.heap/\(a=X.env.locals\/X.env.cells.lookup x=some a))->Q () s')(hf:X.fn x=true\/X.env.scope.names.lookup x=some .local:=by first|exact .inl rfl|exact .inr rfl|assumption):wpAny M A (storeName X.env x u) Q E s:=by
  obtain⟨m,hn,hl⟩:=id I.loc;have hcls:(X.env.scope.kind== .class||(X.env.scope.kind== .module&&X.env.locals !=X.env.globals))=false:=by rw[I.ok.kind];rfl
  have hiσ:i<σ.length:=by rw[I.len];exact(List.getElem?_eq_some_iff.mp hi).1
  have zA:=I.zA;have tracked:∀{a:Addr}{h':Heap},(∃o,s.heap.get? a=some o/\H a=none)->Heap.SameBut a s.heap h'->gZ X.prog X.w H h':=fun{a h'} ha hs b ob e=>by
   obtain⟨_,_,hfree⟩:=ha;refine(I.hok b ob e).oU (fun c w' hc q=>(hs.2 c ?_).trans q) (fun _ q=>q) fun _ _ q=>q;rintro rfl;rcases hc with rfl|hc
   ·rw[hfree]at e;cases e
   ·rw[hfree]at hc;cases hc
  rcases hx with hk|hk
  · refine wpAny_storeName_local hk hn (fun h' hn' hs=>?_) hcls
    obtain⟨oL,_,_,hoL,_⟩:=id hn;refine h _ ⟨I.ok,I.os,I.bare,⟨fun b o e n hb hx=>?_,fun b o e n hb hx=>?_,I.base.free,fun b o e hx=>?_,I.base.tups,I.base.frzs,I.base.tbls⟩,⟨_,hn',fun j y v' e1 e2 e3=>?_⟩,fun y c e=>?_,I.free,I.freeC,fun p hp=>?_,tracked ⟨oL,hoL,I.free⟩ hs,by simpa using I.len⟩ ⟨_,hs,.inl rfl⟩
    ·exact(hs.2 b (Nat.ne_of_lt (Nat.lt_of_lt_of_le (Heap.lt_size e) I.ok.above))).trans (I.base.keep b o e n hb hx)
    · obtain⟨sl,e1⟩:=I.base.slot b o e n hb hx
      exact⟨sl,(hs.2 b (Nat.ne_of_lt (Nat.lt_of_lt_of_le (Heap.lt_size e) I.ok.above))).trans e1⟩
    · obtain⟨o',e1⟩:=I.base.there b o e hx
      exact⟨o',(hs.2 b (Nat.ne_of_lt (Nat.lt_of_lt_of_le (Heap.lt_size e) I.ok.above))).trans e1⟩
    · by_cases hj:j=i
      · subst hj
        rw[hi]at e1;cases e1;rw[List.getElem?_set_self hiσ]at e2;cases e2;exact⟨u,r,.inl ⟨hk,by simp⟩⟩
      · rw[List.getElem?_set_ne (Ne.symm hj)]at e2
        obtain⟨u',r',q⟩:=hl j y v' e1 e2 e3;refine⟨u',r',?_⟩;rcases q with⟨k,e⟩|⟨k,c,e,z⟩
        · refine .inl ⟨k,?_⟩
          have:y≠x:=fun e=>hj (mZ hN e1 (e▸hi));simp[this,e]
        ·exact .inr ⟨k,c,e,z.sameBut hs (zA y c e)⟩
    · obtain⟨w',z⟩:=I.cell y c e
      exact⟨w',z.sameBut hs (zA y c e)⟩
    · obtain⟨e,n,ne,nf,d⟩:=I.pin p hp
      exact⟨(hs.2 p.1 ne).trans e,n,ne,nf,d⟩
  · have hfn:X.fn x=true:=by
      rcases hf with z|z
      ·exact z
      ·rw[z]at hk;cases hk
    obtain⟨c,hc⟩:=I.ok.has x (.inl hk);obtain⟨w',z⟩:=I.cell x c hc;refine wpAny_storeName_cell I.ok.kind hk hc z (fun h' hc' hs=>?_);obtain⟨oc,hoc,hocd⟩:=id z;refine h {s with heap:=h'} ⟨I.ok,I.os,I.bare,⟨fun b o e n hb hx=>?_,fun b o e n hb hx=>?_,I.base.free,fun b o e hx=>?_,I.base.tups,I.base.frzs,I.base.tbls⟩,⟨m,hn.sameBut hs (Ne.symm (zA x c hc)),fun j y v' e1 e2 e3=>?_⟩,fun y c' e=>?_,I.free,I.freeC,fun p hp=>?_,tracked ⟨oc,hoc,I.freeC x c hc⟩ hs,by simpa using I.len⟩ ⟨c,hs,.inr hc⟩
    ·exact(hs.2 b (Nat.ne_of_lt (Nat.lt_of_lt_of_le (Heap.lt_size e) (I.ok.cab x c hfn hc)))).trans (I.base.keep b o e n hb hx)
    · obtain⟨sl,e1⟩:=I.base.slot b o e n hb hx
      exact⟨sl,(hs.2 b (Nat.ne_of_lt (Nat.lt_of_lt_of_le (Heap.lt_size e) (I.ok.cab x c hfn hc)))).trans e1⟩
    · obtain⟨o',e1⟩:=I.base.there b o e hx
      exact⟨o',(hs.2 b (Nat.ne_of_lt (Nat.lt_of_lt_of_le (Heap.lt_size e) (I.ok.cab x c hfn hc)))).trans e1⟩
    · by_cases hj:j=i
      · subst hj
        rw[hi]at e1;cases e1;rw[List.getElem?_set_self hiσ]at e2;cases e2;exact⟨u,r,.inr ⟨.inl hk,c,hc,hc'⟩⟩
      · rw[List.getElem?_set_ne (Ne.symm hj)]at e2
        obtain⟨u',r',q⟩:=hl j y v' e1 e2 e3;refine⟨u',r',?_⟩;rcases q with q|⟨k,c',e,z'⟩
        ·exact .inl q
        · refine .inr ⟨k,c',e,z'.sameBut hs ?_⟩
          rintro rfl;exact hj (mZ hN e1 (I.ok.inj _ _ _ e hc▸hi))
    · by_cases hcc:c'=c
      ·subst hcc;exact⟨_,hc'⟩
      · obtain⟨w2,z2⟩:=I.cell y c' e
        exact⟨w2,z2.sameBut hs hcc⟩
    · obtain⟨e,n,ne,nf,d⟩:=I.pin p hp
      refine⟨(hs.2 p.1 ?_).trans e,n,ne,nf,d⟩;intro q;rw[q,hoc]at e;have q':oc=p.2:=Option.some.inj e;exact d w' (by rw[<-q'];exact hocd)
theorem iE{M:Model}{A:Around}{E:Value->Shared->Prop}{i:Nat}{x:Str}{v:V}{u:Value}{Q:Unit->Shared->Prop}(I:Inv X pins σ H s)(hN:X.N.Nodup)(hi:X.N[i]? =some x)(hx:Loc X.env.scope x)(r:RelV v u) (h:∀s',Inv X pins (σ.set i (some v)) H s'->Q () s')(hf:X.fn x=true\/X.env.scope.names.lookup x=some .local:=by first|exact .inl rfl|exact .inr rfl|assumption):wpAny M A (storeName X.env x u) Q E s:=kX I hN hi hx r (fun s' I' _=>h s' I') hf
theorem Inv.B5{s':Shared}{ch:List Addr}(I:Inv X pins σ H s)(ho:s'.os=s.os)(u:Un (qx X.stack) ch H H' s.heap s'.heap)(hok:gZ X.prog X.w H' s'.heap)(hg:AllBare s'.gens) (hch:∀b∈ch,(b∈X.ex\/X.s₀.heap.objs.size<=b)/\b≠X.env.locals/\(∀x c,X.env.cells.lookup x=some c->c≠b)/\∀p∈X.pn++pins,p.1≠b):Inv X pins σ H' s':=by obtain⟨h',g',d',t',o'⟩:=s';have e:o'=s.os:=ho;subst e;exact I.call (g':=g') (t':=t') (d':=d') u hok hg hch
end
abbrev XK:=Value->Option Addr->Hp->Prop
abbrev St:=List (Option V)
abbrev VK:=V->Hp->Prop
abbrev TE:=St->Hp->VK->Prop
abbrev TT:=St->Hp->(Bool->Hp->Prop)->Prop
abbrev TA:=St->Hp->(List V->Hp->Prop)->Prop
structure Ends where
 nx:St->Hp->Prop
 rt:VK
 bk:St->Hp->Prop:=fun _ _=>False
 ct:St->Hp->Prop:=fun _ _=>False
abbrev TS:=Ends->St->Hp->Prop
def EP(X:Cx)(pins:List (Addr×Obj))(σ:St)(Q:VK)(u:Value)(s':Shared):Prop:=∃v H',Inv X pins σ H' s'/\RelV v u/\Q v H'
def TP(X:Cx)(pins:List (Addr×Obj))(σ:St)(Q:Bool->Hp->Prop)(b:Bool)(s':Shared):Prop:=∃H',Inv X pins σ H' s'/\Q b H'
def AP(X:Cx)(pins:List (Addr×Obj))(σ:St)(Q:List V->Hp->Prop)(us:List Value)(s':Shared):Prop:=∃vs H',Inv X pins σ H' s'/\Vals vs us/\Q vs H'
def SP(X:Cx)(pins:List (Addr×Obj))(D:Ends)(f:Flow)(s':Shared):Prop:=match f with | .next=>∃σ' H',Inv X pins σ' H' s'/\D.nx σ' H' | .brk=>∃σ' H',Inv X pins σ' H' s'/\D.bk σ' H' | .cont=>∃σ' H',Inv X pins σ' H' s'/\D.ct σ' H' | .ret u=>∃v σ' H',Inv X pins σ' H' s'/\RelV v u/\D.rt v H'
def PE(X:Cx)(e:Expr)(t:TE):Prop:=∀(pins:List (Addr×Obj))(s:Shared)(σ:St)(H:Hp)(Q:VK),Inv X pins σ H s->t σ H Q->wpAny (model X.prog X.w) X.A (eval e X.env) (EP X pins σ Q) X.xe s
def PT(X:Cx)(e:Expr)(t:TT):Prop:=∀(pins:List (Addr×Obj))(s:Shared)(σ:St)(H:Hp)(Q:Bool->Hp->Prop),Inv X pins σ H s->t σ H Q->wpAny (model X.prog X.w) X.A (isTrue e X.env (eval e X.env)) (TP X pins σ Q) X.xe s
def PW(X:Cx)(e:Expr)(t:TT):Prop:=∀(whole:Sem Value)(pins:List (Addr×Obj))(s:Shared)(σ:St)(H:Hp)(Q:Bool->Hp->Prop),Inv X pins σ H s->t σ H Q->wpAny (model X.prog X.w) X.A (isTrue e X.env whole) (TP X pins σ Q) X.xe s
theorem PW.pt{X:Cx}{e:Expr}{t:TT}(h:PW X e t):PT X e t:=h _
def PA(X:Cx)(es:List Expr)(t:TA):Prop:=∀(pos:Pos)(pins:List (Addr×Obj))(s:Shared)(σ:St)(H:Hp)(Q:List V->Hp->Prop),Inv X pins σ H s->t σ H Q->wpAny (model X.prog X.w) X.A (spliced (backTo pos (starEach es X.env))) (AP X pins σ Q) X.xe s
def PS(X:Cx)(st:Stmt)(t:TS):Prop:=∀(pins:List (Addr×Obj))(s:Shared)(σ:St)(H:Hp)(D:Ends),Inv X pins σ H s->t D σ H->wpAny (model X.prog X.w) X.A (exec st X.env) (SP X pins D) X.xe s
def oS(X:Cx)(st:List Stmt)(t:TS):Prop:=∀(pins:List (Addr×Obj))(s:Shared)(σ:St)(H:Hp)(D:Ends),Inv X pins σ H s->t D σ H->wpAny (model X.prog X.w) X.A (execs st X.env) (SP X pins D) X.xe s
theorem cn{α:Type}{t:Sem α}{Q Q':α->Shared->Prop}{M:Model}{A:Around}{E:Value->Shared->Prop}{s:Shared}(h:wpAny M A t Q E s)(hQ:∀a s,Q a s->Q' a s):wpAny M A t Q' E s:=wpAny_mono h hQ fun _ _ x=>x
end L2
namespace L2
open PySem PySem.Spec PyProof.Rows
section
variable {X:Cx}
inductive B6(i:Nat)(σ:St)(H:Hp)(Q:VK):Prop |mk (v:_)(h0:σ[i]? =some (some v))(h1:Q v H):B6 i σ H Q
def FI(i:Nat):TE:=fun σ H Q=>B6 i σ H Q
def tC (v:V):TE:=fun _ H Q=>Q v H
theorem CP{i:Nat}{x:Str}{pos:Pos}(hN:X.N[i]? =some x)(hv:Iy X.env.scope x)(hd:(x==("__debug__":Str))=false:=by decide)(hcd:(x==("__classdict__":Str))=false:=by decide):PE X (.Name x pos) (FI i):=by
 intro pins s σ H Q I h;obtain⟨v,e,h⟩:=h;obtain⟨m,hn,hl⟩:=I.loc;obtain⟨u,r,l⟩:=hl i x v hN e hv;have fin:EP X pins σ Q u s:=⟨v,H,I,r,h⟩;rcases l with⟨hk,hm⟩|⟨hk,c,hc,hcell⟩
 ·exact wpAny_Name (wpAny_loadName_local I.ok.kind hk hn hm fin) hd
 · rcases hk with hk|hk
   ·exact wpAny_Name (wpAny_loadName_cell I.ok.kind hk hc hcell fin) hd
   ·exact wpAny_Name (wpAny_loadName_free I.ok.kind hk hc hcell fin hcd) hd
theorem ah{i j pos}:PE X (.Constant (.int i) j pos) (tC (.int i)):=fun _ _ _ H _ I h=>wpAny_Constant_int ⟨.int i,H,I.tok _,⟨_,rfl⟩,h⟩
theorem fj{b j pos}:PE X (.Constant (.bool b) j pos) (tC (.bl b)):=fun _ _ _ H _ I h=>Constant_bool ⟨.bl b,H,I,rfl,h⟩
theorem dN{j pos}:PE X (.Constant .none j pos) (tC .cG):=fun _ _ _ H _ I h=>Constant_none ⟨.cG,H,I,rfl,h⟩
theorem aJ{x j pos}:PE X (.Constant (.str x) j pos) (tC (.str x)):=fun _ _ _ H _ I h=>Calls.Constant_str ⟨.str x,H,I.tok _,⟨_,rfl⟩,h⟩
def Gl(X:Cx)(x:Str):Prop:=X.env.kindOf x=some .globalImplicit
theorem lZ{E:Value->Shared->Prop}{pins:List (Addr×Obj)}{s:Shared}{σ:St}{H:Hp}{x:Str}{u:Value}{pos:Pos}{Q:Value->Shared->Prop}(I:Inv X pins σ H s)(hg:Gl X x)(hm:X.mg x=some u)(h:Q u s) (hd:(x==("__debug__":Str))=false:=by decide):wpAny (model X.prog X.w) X.A (eval (.Name x pos) X.env) Q E s:=Calls.Name_function_global I.ok.kind hg (Calls.loadGlobal_global (by rw[I.ok.glob];exact I.mod.glob.keeps I.bk) hm h) hd
theorem gk{E:Value->Shared->Prop}{pins:List (Addr×Obj)}{s:Shared}{σ:St}{H:Hp}{x:Str}{u:Value}{pos:Pos}{Q:Value->Shared->Prop}(I:Inv X pins σ H s)(hg:Gl X x)(hm:X.mg x=none)(hv:bootBuiltins x=some u)(h:Q u s) (hn:x≠"__name__":=by decide)(hd:(x==("__debug__":Str))=false:=by decide):wpAny (model X.prog X.w) X.A (eval (.Name x pos) X.env) Q E s:=by obtain⟨mb,h1,h2⟩:=I.mod.blt;exact Calls.Name_function_global I.ok.kind hg (Calls.loadGlobal_builtin (by rw[I.ok.glob];exact I.mod.glob.keeps I.bk) hm (by rw[I.ok.blt];exact h1.keeps I.bk) ((h2 x hn).trans hv) h) hd
theorem zG{x:Str}{v:V}{u:Value}{pos:Pos}(hg:Gl X x)(hm:X.mg x=some u)(r:RelV v u)(hd:(x==("__debug__":Str))=false:=by decide):PE X (.Name x pos) (tC v):=fun _ _ _ H _ I h=>lZ I hg hm ⟨v,H,I,r,h⟩ hd
theorem aV{x:Str}{v:V}{u:Value}{pos:Pos}(hg:Gl X x)(hm:X.mg x=none)(hv:bootBuiltins x=some u)(r:RelV v u)(hn:x≠"__name__":=by decide)(hd:(x==("__debug__":Str))=false:=by decide):PE X (.Name x pos) (tC v):=fun _ _ _ H _ I h=>gk I hg hm hv ⟨v,H,I,r,h⟩ hn hd
variable {a b:Expr}{ta tb:TE}{pos:Pos}
inductive Jt(Q:Bool->Hp->Prop)(x:V)(H1:Hp):Prop |mk (c:_)(h0:x= .bl c)(h1:Q c H1):Jt Q x H1
def tB(t:TE):TT:=fun σ H Q=>t σ H fun x H1=>Jt Q x H1
theorem bh{e:Expr}{t:TE}(h:PE X e t)(he:∀whole,isTrue e X.env whole=(do let v<-whole;standAt e.pos;holding [v] (truthy v)):=by intro _;rfl):PT X e (tB t):=by intro pins s σ H Q I hw;refine isTrue_plain (cn (h pins s σ H _ I hw) fun v s1 ⟨x,H1,I1,r1,q1⟩=>?_) (he _);obtain⟨d,rfl,q⟩:=q1;cases r1;exact wpAny_truthy_bool ⟨H1,I1,q⟩
variable {tA tB':TT} {rest:List Expr}
def IB(t u:TT):TT:=fun σ H Q=>t σ H fun c H1=>if c=true then u σ H1 Q else Q false H1
def JD(t u:TT):TT:=fun σ H Q=>t σ H fun c H1=>if c=true then Q true H1 else u σ H1 Q
def IC(t:TT):TT:=fun σ H Q=>t σ H fun c H1=>Q (!c) H1
theorem gm(ha:PT X a tA):PW X (.BoolOp .And [a] pos) tA:=by intro wh pins s σ H Q I h;refine isTrue_and (cn (ha pins s σ H Q I h) fun c s1 e=>?_);cases c with |true=>exact isTrue_and_nil e |false=>exact e
theorem fo(ha:PT X a tA):PW X (.BoolOp .Or [a] pos) tA:=by intro wh pins s σ H Q I h;refine isTrue_or (cn (ha pins s σ H Q I h) fun c s1 e=>?_);cases c with |false=>exact isTrue_or_nil e |true=>exact e
theorem fQ(ha:PT X a tA)(hb:PW X (.BoolOp .And (b::rest) pos) tB'):PW X (.BoolOp .And (a::b::rest) pos) (IB tA tB'):=by intro wh pins s σ H Q I h;refine isTrue_and (cn (ha pins s σ H _ I h) fun c s1 ⟨H1,I1,q1⟩=>?_);cases c with |true=>exact hb wh pins s1 σ H1 Q I1 q1 |false=>exact⟨H1,I1,q1⟩
theorem gz(ha:PT X a tA)(hb:PW X (.BoolOp .Or (b::rest) pos) tB'):PW X (.BoolOp .Or (a::b::rest) pos) (JD tA tB'):=by intro wh pins s σ H Q I h;refine isTrue_or (cn (ha pins s σ H _ I h) fun c s1 ⟨H1,I1,q1⟩=>?_);cases c with |true=>exact⟨H1,I1,q1⟩ |false=>exact hb wh pins s1 σ H1 Q I1 q1
theorem cf(ha:PT X a tA):PT X (.UnaryOp .Not a pos) (IC tA):=by intro pins s σ H Q I h;exact isTrue_not (ha pins s σ H (fun c H1=>Q (!c) H1) I h)
inductive uU(tb:TE)(σ:St)(Q:VK)(x:V)(H1:Hp):Prop |mk (c:_)(h0:x= .bl c)(h1:if c=true then tb σ H1 Q else Q (.bl false) H1):uU tb σ Q x H1
def FJ(ta tb:TE):TE:=fun σ H Q=>ta σ H fun x H1=>uU tb σ Q x H1
inductive uV(Q:VK)(x:V)(H1:Hp):Prop |mk (c:_)(h0:x= .bl c)(h1:Q (.bl (!c)) H1):uV Q x H1
def FK(ta:TE):TE:=fun σ H Q=>ta σ H fun x H1=>uV Q x H1
theorem cU{op}{t:TE}(h:PE X a t):PE X (.BoolOp op [a] pos) t:=fun pins s σ H Q I hw=>BoolOp_one (h pins s σ H Q I hw)
theorem cR(ha:PE X a ta)(hb:PE X (.BoolOp .And (b::rest) pos) tb):PE X (.BoolOp .And (a::b::rest) pos) (FJ ta tb):=by intro pins s σ H Q I h;refine BoolOp_and (cn (ha pins s σ H _ I h) fun v s1 ⟨x,H1,I1,r1,q1⟩=>?_);obtain⟨c,rfl,q1⟩:=q1;cases r1;refine wpAny_truthy_bool ?_;cases c with |true=>exact hb pins s1 σ H1 Q I1 q1 |false=>exact⟨.bl false,H1,I1,rfl,q1⟩
theorem uW(ha:PE X a ta):PE X (.UnaryOp .Not a pos) (FK ta):=by intro pins s σ H Q I h;refine UnaryOp_ (cn (ha pins s σ H _ I h) fun v s1 ⟨x,H1,I1,r1,q1⟩=>?_);obtain⟨c,rfl,q1⟩:=q1;cases r1;exact not_of (wpAny_truthy_bool ⟨.bl (!c),H1,I1,rfl,q1⟩)
def JE(t:TT)(ta tb:TE):TE:=fun σ H Q=>t σ H fun c H1=>if c=true then ta σ H1 Q else tb σ H1 Q
theorem nc{c:Expr}(hc:PT X c tA)(ha:PE X a ta)(hb:PE X b tb):PE X (.IfExp c a b pos) (JE tA ta tb):=by intro pins s σ H Q I h;refine wpAny_IfExp (cn (hc pins s σ H _ I h) fun d s1 ⟨H1,I1,q1⟩=>?_);cases d with |true=>exact ha pins s1 σ H1 Q I1 q1 |false=>exact hb pins s1 σ H1 Q I1 q1
end
end L2
namespace L2
open PySem PySem.Spec PyProof.Rows
def bc(K:PySem.W.Frag)(H:Hp)(a:Addr)(xs:List V):Prop:=Rd H a (.lst xs)\/ ∃(o:Obj)(its:Array Value)(n:Nat),K.lookup a=some o/\o.cls= .type "list"/\o.dict=none/\o.data= .seq its n/\its.size<=sizeLine/\Vals xs its.toList
def bG(K:PySem.W.Frag)(H:Hp)(a:Addr)(xs:List V):Prop:=Rd H a (.tup xs)\/ ∃(o:Obj)(its:Array Value)(n:Nat),K.lookup a=some o/\o.cls= .type "tuple"/\o.data= .seq its n/\its.size<=sizeLine/\Vals xs its.toList
def ID:Value->Option V | .none=>some .cG | .bool b=>some (.bl b) | .int i _=>some (.int i) | .str x _=>some (.str x) | .bytes b _=>some (.Fu b) | .float b _=>some (.Ic b) | .ref a=>some (.ref a) | .type n=>some (.ty n) |_=>none
theorem RelV.abs{x:V}{u:Value}(r:RelV x u):ID u=some x:=by cases x with |cG=>cases r;rfl |bl _=>cases r;rfl |int _=>obtain⟨t,rfl⟩:=r;rfl |str _=>obtain⟨t,rfl⟩:=r;rfl |Fu _=>obtain⟨t,rfl⟩:=r;rfl |Ic _=>obtain⟨t,rfl⟩:=r;rfl |ref _=>cases r;rfl |ty _=>cases r;rfl
theorem RelV.inj{x y:V}{u:Value}(r:RelV x u)(q:RelV y u):x=y:=Option.some.inj (r.abs.symm.trans q.abs)
theorem Vals.inj:∀{xs ys:List V}{us:List Value},Vals xs us->Vals ys us->xs=ys |_,_,_,.nil,.nil=>rfl |_,_,_,.cons r t,.cons r' t'=>by rw[r.inj r',Vals.inj t t']
section
variable {X:Cx}{pins:List (Addr×Obj)}{σ:St}{H:Hp}{s:Shared}{a:Addr}{xs ys:List V}
theorem bc.of{K:PySem.W.Frag}(h:H a=some (.lst xs)):bc K H a xs:=.inl (.inl h)
theorem bG.of{K:PySem.W.Frag}(h:H a=some (.tup xs)):bG K H a xs:=.inl (.inl h)
theorem Inv.list(I:Inv X pins σ H s)(h:bc X.K H a xs):∃its:List Value,Vals xs its/\PlainL s.heap a its.toArray/\xs.length<=sizeLine:=by
 rcases h with h|⟨o,its,n,hk,hc,hd,hs,hz,r⟩
 · obtain⟨z,its,n,r,e⟩:=h.ok I.hok
   exact⟨its,r,⟨_,n,e,rfl,rfl,rfl⟩,z⟩
 · refine⟨its.toList,r,⟨o,n,I.oQ a o hk,hc,hd,by simpa using hs⟩,?_⟩
   have e:=r.length;simp only[Array.length_toList]at e;omega
theorem Inv.tuple(I:Inv X pins σ H s)(h:bG X.K H a xs):∃its:List Value,Vals xs its/\IsTup s.heap a its.toArray/\xs.length<=sizeLine:=by
 rcases h with h|⟨o,its,n,hk,hc,hs,hz,r⟩
 · obtain⟨z,its,r,p⟩:=h.ok I.hok
   exact⟨its,r,p,z⟩
 · refine⟨its.toList,r,⟨o,I.oQ a o hk,hc,n,by simpa using hs⟩,?_⟩
   have e:=r.length;simp only[Array.length_toList]at e;omega
theorem Inv.ng(I:Inv X pins σ H s)(h:bc X.K H a xs)(h':bc X.K H a ys):xs=ys:=by
 obtain⟨its,r,⟨o,n,e,_,_,d⟩,_⟩:=I.list h;obtain⟨its',r',⟨o',n',e',_,_,d'⟩,_⟩:=I.list h';rw[e]at e';cases e';rw[d]at d';injection d' with d1 _;have:its=its':=by simpa using congrArg Array.toList d1
 subst this;exact r.inj r'
theorem Inv.kY(I:Inv X pins σ H s)(h:bG X.K H a xs)(h':bG X.K H a ys):xs=ys:=by
 obtain⟨its,r,⟨o,e,_,n,d⟩,_⟩:=I.tuple h;obtain⟨its',r',⟨o',e',_,n',d'⟩,_⟩:=I.tuple h';rw[e]at e';cases e';rw[d]at d';injection d' with d1 _;have:its=its':=by simpa using congrArg Array.toList d1
 subst this;exact r.inj r'
end
abbrev Cx.kN(X:Cx)(E:Value->Shared->Prop):Cx:={X with xe:=E}
abbrev Cx.CQ(X:Cx):Cx:=X.kN fun _ _=>False
theorem Cx.Ok.kN{X:Cx}(ok:X.Ok)(E:Value->Shared->Prop):(X.kN E).Ok:=⟨ok.mod,ok.kind,ok.glob,ok.blt,ok.above,ok.inj,ok.has,ok.cab,ok.hd,ok.frames,ok.stk,ok.exf,ok.bs,ok.bsz,ok.noex,ok.exfs,ok.j8,ok.frf⟩
theorem Cx.Ok.gE{X:Cx}{E:Value->Shared->Prop}(ok:(X.kN E).Ok):X.Ok:=⟨ok.mod,ok.kind,ok.glob,ok.blt,ok.above,ok.inj,ok.has,ok.cab,ok.hd,ok.frames,ok.stk,ok.exf,ok.bs,ok.bsz,ok.noex,ok.exfs,ok.j8,ok.frf⟩
section
variable {X:Cx}{pins:List (Addr×Obj)}{σ:St}{H:Hp}{s:Shared}{E:Value->Shared->Prop}
theorem Inv.kN(I:Inv X pins σ H s)(E:Value->Shared->Prop):Inv (X.kN E) pins σ H s:=⟨I.ok.kN E,I.os,I.bare,I.base,I.loc,I.cell,I.free,I.freeC,I.pin,I.hok,I.len⟩
theorem Inv.gE(I:Inv (X.kN E) pins σ H s):Inv X pins σ H s:=⟨I.ok.gE,I.os,I.bare,I.base,I.loc,I.cell,I.free,I.freeC,I.pin,I.hok,I.len⟩
theorem SP.gE{D:Ends}{f:Flow}{s':Shared}(h:SP (X.kN E) pins D f s'):SP X pins D f s':=by cases f with |next=>obtain⟨σ',H',I,q⟩:=h;exact⟨σ',H',I.gE,q⟩ |brk=>obtain⟨σ',H',I,q⟩:=h;exact⟨σ',H',I.gE,q⟩ |cont=>obtain⟨σ',H',I,q⟩:=h;exact⟨σ',H',I.gE,q⟩ |ret u=>obtain⟨v,σ',H',I,r,q⟩:=h;exact⟨v,σ',H',I.gE,r,q⟩
theorem oS.CQ{st:List Stmt}{t:TS}(h:oS X.CQ st t):oS X st t:=fun pins s σ H D I hw=>wpAny_mono (h pins s σ H D (I.kN _) hw) (fun _ _ q=>q.gE) fun _ _ z=>False.elim z
end
section
variable {X:Cx}{st:Stmt}{rest:List Stmt}{t u:TS}{e:Expr}{te:TE}{pos:Pos}
def uX:TS:=fun D σ H=>D.nx σ H
def uY(t u:TS):TS:=fun D σ H=>t {D with nx:=u D} σ H
theorem aL:oS X [] uX:=fun _ _ σ H _ I h=>wpAny_execs_nil ⟨σ,H,I,h⟩
theorem ag(h1:PS X st t)(h2:oS X rest u):oS X (st::rest) (uY t u):=by intro pins s σ H D I h;refine wpAny_execs_cons (cn (h1 pins s σ H {D with nx:=u D} I h) fun f s1 q=>?_);cases f with |next=>obtain⟨σ',H',I',q⟩:=q;exact h2 pins s1 σ' H' D I' q |ret v=>exact q |brk=>exact q |cont=>exact q
theorem ai(h1:PS X st t):oS X [st] t:=by intro pins s σ H D I h;refine wpAny_execs_cons (cn (h1 pins s σ H D I h) fun f s1 q=>?_);cases f with |next=>exact wpAny_execs_nil q |ret v=>exact q |brk=>exact q |cont=>exact q
theorem Inv.quiet{pins:List (Addr×Obj)}{σ:St}{H:Hp}{s:Shared}(I:Inv X pins σ H s):interactive X.env=false:=by simp[interactive,I.ok.kind]
def FL(te:TE):TS:=fun D σ H=>te σ H fun _ H1=>D.nx σ H1
theorem cj(he:PE X e te)(hs:swapsWith e none pos.line X.env=pure false:=by rfl):PS X (.Expr e pos) (FL te):=by intro pins s σ H D I h;exact wpAny_Expr_any (cn (he pins s σ H _ I h) fun v s1 ⟨x,H1,I1,r1,q1⟩=>⟨σ,H1,I1,q1⟩) I.quiet hs
def IE(te:TE):TS:=fun D σ H=>te σ H D.rt
theorem aB(he:PE X e te):PS X (.Return (some e) pos) (IE te):=by intro pins s σ H D I h;exact wpAny_Return_some (cn (he pins s σ H _ I h) fun v s1 ⟨x,H1,I1,r1,q1⟩=>⟨x,σ,H1,I1,r1,q1⟩)
def oW(c:TT)(t u:TS):TS:=fun D σ H=>c σ H fun b H1=>if b=true then t D σ H1 else u D σ H1
theorem aR{c:Expr}{a b:List Stmt}{tc:TT}(hc:PT X c tc)(ha:oS X a t)(hb:oS X b u):PS X (.If c a b pos) (oW tc t u):=by intro pins s σ H D I h;refine wpAny_If (cn (hc pins s σ H _ I h) fun d s1 ⟨H1,I1,q1⟩=>?_);cases d with |true=>exact ha pins s1 σ H1 D I1 q1 |false=>exact hb pins s1 σ H1 D I1 q1
def CS:TS:=fun _ _ _=>False
theorem fU:PS X st CS:=fun _ _ _ _ _ _ h=>h.elim
end
abbrev TG:=V->St->Hp->(St->Hp->Prop)->Prop
abbrev zB:=List V->St->Hp->(St->Hp->Prop)->Prop
def PG(X:Cx)(target:Expr)(t:TG):Prop:=∀(pins:List (Addr×Obj))(s:Shared)(σ:St)(H:Hp)(v:V)(u:Value)(Q:St->Hp->Prop),Inv X pins σ H s->RelV v u->t v σ H Q->wpAny (model X.prog X.w) X.A (assign target X.env u) (fun _ s'=>∃σ' H',Inv X pins σ' H' s'/\Q σ' H') X.xe s
def FO(X:Cx)(ts:List Expr)(t:zB):Prop:=∀(pins:List (Addr×Obj))(s:Shared)(σ:St)(H:Hp)(vs:List V)(us:List Value)(Q:St->Hp->Prop),Inv X pins σ H s->Vals vs us->t vs σ H Q->wpAny (model X.prog X.w) X.A (assignInOrder ((assignEach ts X.env).map (·.2)) us) (fun _ s'=>∃σ' H',Inv X pins σ' H' s'/\Q σ' H') X.xe s
abbrev CT:=V->V->V->Hp->(Hp->Prop)->Prop
def FP(X:Cx)(t:CT):Prop:=∀(pins:List (Addr×Obj))(s:Shared)(σ:St)(H:Hp)(o i v:V)(ov iv u:Value)(Q:Hp->Prop),Inv X pins σ H s->RelV o ov->RelV i iv->RelV v u->t o i v H Q->wpAny (model X.prog X.w) X.A (setItem ov iv u) (fun _ s'=>∃H',Inv X pins σ H' s'/\Q H') X.xe s
abbrev Ju:=V->V->Hp->VK->Prop
def JF(X:Cx)(op:Operator)(t:Ju):Prop:=∀(pins:List (Addr×Obj))(s:Shared)(σ:St)(H:Hp)(x y:V)(v u:Value)(Q:VK),Inv X pins σ H s->RelV x v->RelV y u->t x y H Q->wpAny (model X.prog X.w) X.A (inplaceOp op v u) (EP X pins σ Q) X.xe s
section
variable {X:Cx} {pos:Pos}
def cS(i:Nat):TG:=fun v σ H Q=>Q (σ.set i (some v)) H
theorem aA{i:Nat}{x:Str}(hN:X.N.Nodup)(hi:X.N[i]? =some x)(hx:Loc X.env.scope x)(hf:X.fn x=true\/X.env.scope.names.lookup x=some .local:=by first|exact .inl rfl|exact .inr rfl|assumption):PG X (.Name x pos) (cS i):=by intro pins s σ H v u Q I r h;exact wpAny_assign_Name (iE I hN hi hx r (fun s' I'=>⟨_,H,I',h⟩) hf)
def nj:zB:=fun vs σ H Q=>vs=[]/\Q σ H
inductive uZ(t:TG)(u:zB)(vs:List V)(σ:St)(H:Hp)(Q:St->Hp->Prop):Prop |mk (v:_)(r:_)(h0:vs=v::r)(h1:t v σ H fun σ' H'=>u r σ' H' Q):uZ t u vs σ H Q
def fz(t:TG)(u:zB):zB:=fun vs σ H Q=>uZ t u vs σ H Q
theorem aZ:FO X [] nj:=by intro pins s σ H vs us Q I r h;obtain⟨e,h⟩:=h;subst e;cases r;exact assignInOrder_nil ⟨σ,H,I,h⟩
theorem aD{e:Expr}{es:List Expr}{t:TG}{u:zB}(h1:PG X e t)(h2:FO X es u) (hs:(assignEach (e::es) X.env).map (·.2)=assign e X.env::(assignEach es X.env).map (·.2):=by rfl):FO X (e::es) (fz t u):=by intro pins s σ H vs us Q I r h;obtain⟨v,vr,e1,h⟩:=h;subst e1;cases r with |cons r rr=>rw[hs];refine assignInOrder_cons (cn (h1 pins s σ H _ _ _ I r h) fun _ s1 ⟨σ1,H1,I1,q1⟩=>?_);exact h2 pins s1 σ1 H1 _ _ Q I1 rr q1
inductive B7(K:PySem.W.Frag)(n:Nat)(t:zB)(v:V)(σ:St)(H:Hp)(Q:St->Hp->Prop):Prop |mk (a:_)(xs:_)(h0:v= .ref a)(h1:bG K H a xs)(h2:xs.length=n)(h3:t xs σ H Q):B7 K n t v σ H Q
def m3(K:PySem.W.Frag)(n:Nat)(t:zB):TG:=fun v σ H Q=>B7 K n t v σ H Q
theorem CU{es:List Expr}{k:Nat}{t:zB}{n:Nat}(hc:X.calm=true)(h:FO X es t) (hn:(assignEach es X.env).length=n:=by rfl)(hst:(assignEach es X.env).findIdx? (·.1)=none:=by rfl):PG X (.Tuple es k pos) (m3 X.K n t):=by intro pins s σ H v u Q I r hw;obtain⟨a,xs,e1,hq,hl,hw⟩:=hw;subst e1;cases r;obtain⟨its,rv,ht,hz⟩:=I.tuple hq;refine assign_Tuple_tuple (I.ok.hd hc) ht (by simp[hn,<-hl,rv.length]) hst fun h' hx=>?_;have I1:Inv X pins σ H {s with heap:=h'}:=I.kept (t':=s.toks) fun b o e=>hx b o (Nat.ne_of_lt (Heap.lt_size e)) e;exact h pins _ σ H xs _ Q I1 (by simpa using rv) hw
def IG(to ti:TE)(t:CT):TG:=fun v σ H Q=>to σ H fun o H1=>ti σ H1 fun i H2=>t o i v H2 fun H3=>Q σ H3
theorem iA{o i:Expr}{to ti:TE}{t:CT}(ho:PE X o to)(hi:PE X i ti)(hs:FP X t) (ha:∀v,assign (.Subscript o i pos) X.env v=(do
     let ov<-holding [v] (eval o X.env)
     let iv<-holding [v,ov] (eval i X.env)
     standAt pos
     holding [v,ov,iv] (setItem ov iv v)
     release [v,ov,iv] []):=by intro _;rfl):PG X (.Subscript o i pos) (IG to ti t):=by
  intro pins s σ H v u Q I r h;rw[ha];refine wpAny_bind (wpAny_holding (cn (ho pins s σ H _ I h) fun ov s1 ⟨x,H1,I1,r1,q1⟩=>?_));refine wpAny_bind (wpAny_holding (cn (hi pins s1 σ H1 _ I1 q1) fun iv s2 ⟨y,H2,I2,r2,q2⟩=>?_));refine wpAny_bind (wpAny_standAt (wpAny_bind (wpAny_holding (cn (hs pins s2 σ H2 x y v ov iv u _ I2 r1 r2 r q2) fun _ s3 ⟨H3,I3,q3⟩=>?_))));exact wpAny_release ⟨σ,H3,I3,q3⟩
def CV(te:TE)(g:TG):TS:=fun D σ H=>te σ H fun x H1=>g x σ H1 D.nx
theorem cx{tg e:Expr}{te:TE}{g:TG}(he:PE X e te)(hg:PG X tg g)(hs:swapsWithSole [tg] e pos.line X.env=pure false:=by rfl)(hw:swappedStores [tg] e X.env=pure none:=by rfl) (h1:(assignEach [tg] X.env).map (·.2)=[assign tg X.env]:=by rfl):PS X (.Assign [tg] e pos) (CV te g):=by intro pins s σ H D I h;refine wpAny_Assign_stores (cn (he pins s σ H _ I h) fun v s1 ⟨x,H1,I1,r1,q1⟩=>?_) hs hw;rw[h1];exact cn (hg pins s1 σ H1 x v _ I1 r1 q1) fun _ s2 q=>q
theorem aF{i:Nat}{x:Str}{e:Expr}{te:TE}{pos':Pos}(hN:X.N.Nodup)(hi:X.N[i]? =some x)(hx:Loc X.env.scope x)(he:PE X e te)(hs:swapsWith e (some (.Name x pos')) pos.line X.env=pure false:=by rfl)(hf:X.fn x=true\/X.env.scope.names.lookup x=some .local:=by first|exact .inl rfl|exact .inr rfl|assumption): PS X (.Assign [.Name x pos'] e pos) (CV te (cS i)):=by intro pins s σ H D I h;refine wpAny_Assign_Name (cn (he pins s σ H _ I h) fun v s1 ⟨y,H1,I1,r1,q1⟩=>?_) hs;exact iE I1 hN hi hx r1 (fun s2 I2=>⟨_,H1,I2,q1⟩) hf
inductive B8(i:Nat)(j:Nat)(D:Ends)(σ:St)(vs:List V)(H1:Hp):Prop |mk (v:_)(w:_)(h0:vs=[v,w])(h1:D.nx ((σ.set i (some v)).set j (some w)) H1):B8 i j D σ vs H1
def IH(i j:Nat)(ta:TA):TS:=fun D σ H=>ta σ H fun vs H1=>B8 i j D σ vs H1
theorem fR{i j:Nat}{x y:Str}{a b:Expr}{ta:TA}{px py pt:Pos} {kt k2 pt2}(hc:X.calm=true)(hN:X.N.Nodup)(hi:X.N[i]? =some x)(hj:X.N[j]? =some y)(hij:i≠j) (hx:X.env.scope.names.lookup x=some .local)(hy:X.env.scope.names.lookup y=some .local)(ha:PA X [a,b] ta) (hw:swappedStores [.Tuple [.Name x px,.Name y py] kt pt] (.Tuple [a,b] k2 pt2) X.env=pure (some [x,y])) (hs:swapsWithSole [.Tuple [.Name x px,.Name y py] kt pt] (.Tuple [a,b] k2 pt2) pos.line X.env=pure false:=by rfl): PS X (.Assign [.Tuple [.Name x px,.Name y py] kt pt] (.Tuple [a,b] k2 pt2) pos) (IH i j ta):=by
  intro pins s σ H D I h;rw[exec_Assign_arm];refine wpAny_bind (wpAny_standAt ?_);rw[hs];refine wpAny_bind (wpAny_pure ?_);rw[if_neg (by decide)];refine wpAny_bind (Tuple_ (cn (ha _ pins s σ H _ I h) fun us s1 ⟨vs,H1,I1,r1,q1⟩=>?_));obtain⟨v,w,e1,q1⟩:=q1;subst e1;obtain⟨u1,u2,rfl,rv,rw'⟩:∃u1 u2,us=[u1,u2]/\RelV v u1/\RelV w u2:=by cases r1 with |cons p q=>cases q with |cons p' q'=>cases q';exact⟨_,_,rfl,p,p'⟩
  refine wpAny_newObj_type ?_ (by show 2<=sizeLine;decide);have I2:Inv X pins σ H1 {s1 with heap:=s1.heap.push {cls:=.type "tuple",data:=.seq [u1,u2].toArray}}:=I1.kept (t':=s1.toks) fun b o e=>Heap.get?_push_of_some _ e;rw[hw];refine wpAny_bind (wpAny_pure ?_);show wpAny (model X.prog X.w) X.A (do rule "assign.swapped-stores";let items<-unpackItems (.ref s1.heap.objs.size) 2 none;assignInOrder [fun v=>bindName X.env y v,fun v=>bindName X.env x v] items.reverse;pure Flow.next) _ _ _;refine wpAny_bind (wpAny_rule (wpAny_bind (unpackItems_tuple (items:=#[u1,u2]) (I.ok.hd hc) (IsTup.new s1.heap _) fun h' hx'=>?_)));have I3:=I2.kept (h':=h') (t':=s1.toks) fun b o e=>hx' b o (Nat.ne_of_lt (Heap.lt_size e)) e;show wpAny _ _ (assignInOrder [fun v=>bindName X.env y v,fun v=>bindName X.env x v] [u2,u1]>>=fun _=>pure Flow.next) _ _ _;refine wpAny_bind (assignInOrder_cons (wpAny_bindName (iE I3 hN hj (.inl hy) rw' (fun s2 I4=>?_) (.inr hy))));refine assignInOrder_cons (wpAny_bindName (iE I4 hN hi (.inl hx) rv (fun s3 I5=>assignInOrder_nil (wpAny_pure ?_)) (.inr hx)));rw[List.set_comm _ _ (Ne.symm hij)]at I5;exact⟨_,H1,I5,q1⟩
inductive FQ(f:Int->Int->Int)(x:V)(y:V)(H:Hp)(Q:VK):Prop |mk (i:_)(j:_)(h0:x= .int i)(h1:y= .int j)(h2:Q (.int (f i j)) H):FQ f x y H Q
def JG(f:Int->Int->Int):Ju:=fun x y H Q=>FQ f x y H Q
theorem CW:JF X .Add (JG fun i j=>i+j):=by intro pins s σ H x y v u Q I r1 r2 h;obtain⟨i,j,e1,e2,q⟩:=h;subst e1;subst e2;obtain⟨t,rfl⟩:=r1;obtain⟨t',rfl⟩:=r2;exact iadd_int ⟨.int _,H,I.tok _,⟨_,rfl⟩,q⟩
end
section
variable {X:Cx} {pos:Pos}
def vb(c:TT)(tb:TS):TS:=fun D σ H=>∃W:Nat->St->Hp->Prop,(∃m,W m σ H)/\∀m σ H,W m σ H->c σ H fun b H1=>if b=true then∃N:St->Hp->Prop,(∀σ' H',N σ' H'->∃m',m'<m/\W m' σ' H')/\tb {D with nx:=N,ct:=N,bk:=D.nx} σ H1 else D.nx σ H1
theorem dQ{c:Expr}{body:List Stmt}{tc:TT}{tb:TS}(hp:PassesOwn (model X.prog X.w) X.A X.env X.xe)(hc:PT X c tc)(hb:oS X body tb):PS X (.While c body [] pos) (vb tc tb):=by intro pins s σ H D I h;obtain⟨W,⟨m0,w0⟩,turn⟩:=h;refine wpAny_While (codeAny_whileLoop (fun n s'=>∃σ' H',Inv X pins σ' H' s'/\W n σ' H') ?_ m0 ⟨σ,H,I,w0⟩);rintro n s1 ⟨σ1,H1,I1,w1⟩;refine wpAny_passesOwn hp (cn (hc pins s1 σ1 H1 _ I1 (turn n σ1 H1 w1)) fun b s2 ⟨H2,I2,q2⟩=>?_);cases b with
 |true=>obtain⟨N,hN,q2⟩:=q2;rw[if_pos rfl];refine wpAny_passesOwn hp (cn (hb pins s2 σ1 H2 _ I2 q2) fun f s3 q3=>?_);cases f with |next=>obtain⟨σ3,H3,I3,n3⟩:=q3;obtain⟨m',hm,w3⟩:=hN σ3 H3 n3;exact⟨m',hm,σ3,H3,I3,w3⟩ |cont=>obtain⟨σ3,H3,I3,n3⟩:=q3;obtain⟨m',hm,w3⟩:=hN σ3 H3 n3;exact⟨m',hm,σ3,H3,I3,w3⟩ |brk=>exact q3 |ret v=>exact q3
 |false=>rw[if_neg Bool.false_ne_true];exact wpAny_execs_nil ⟨σ1,H2,I2,q2⟩
end
structure It where
 go:Nat->Hp->Prop
 yld:Nat->Hp->V->Hp->Prop
 stop:Nat->Hp->Prop
def j9(X:Cx)(pins:List (Addr×Obj))(H:Hp)(b:Addr):Prop:=H b=none/\b≠X.env.locals/\b∉X.fs/\(b∈X.ex\/X.s₀.heap.objs.size<=b)/\(∀x c,X.env.cells.lookup x=some c->c≠b)/\∀p∈X.pn++pins,p.1≠b
theorem Inv.m4{X:Cx}{pins:List (Addr×Obj)}{σ:St}{H H':Hp}{s:Shared}{b:Addr}(I:Inv X pins σ H s)(hb:s.heap.objs.size<=b)(hn:H' b=none):j9 X pins H' b:=by
 refine⟨hn,Nat.ne_of_gt (Nat.lt_of_lt_of_le I.lt hb),I.IA hb,.inr (Nat.le_trans I.sz hb),fun x c e z=>?_,fun p hp z=>?_⟩
 · obtain⟨v,q⟩:=I.cell x c e
   exact absurd (Nat.lt_of_lt_of_le q.lt (by rw[z];exact hb)) (Nat.lt_irrefl _)
 ·exact absurd (Nat.lt_of_lt_of_le (Heap.lt_size (I.pin p hp).1) (by rw[z];exact hb)) (Nat.lt_irrefl _)
structure Turn(P:Program)(w:World)(K:PySem.W.Frag)(tg:Expr)(J:It)(fp:List Addr)(it:Addr)(tn:Nat->Heap->Prop):Prop where
 mem:it∈fp
 obj:∀i h,tn i h->∀b∈fp,∃o,h.get? b=some o/\∀v,o.data≠ .cell v
 keep:∀i h h',tn i h->(∀b∈fp,∀o,h.get? b=some o->h'.get? b=some o)->tn i h'
 item:∀(X:Cx),X.prog=P->X.w=w->X.K=K->X.calm=true->∀(i:Nat)(pins:List (Addr×Obj))(s:Shared)(σ:St)(H:Hp)(E:Value->Shared->Prop),Inv X pins σ H s->(∀b∈fp,j9 X pins H b)->tn i s.heap->J.go i H->wpAny (model P w) X.A (pyNext (.ref it)) (fun r s1=>∃u,r=some u/\wpAny (model P w) X.A (letOwnedTupleGo tg (.ref it) u) (fun _ s2=>∃x H',Inv X pins σ H' s2/\RelV x u/\J.yld i H x H'/\tn (i+1) s2.heap/\∀b∈fp,H' b=none) E s1) E s
 done:∀(X:Cx),X.prog=P->X.w=w->X.K=K->X.calm=true->∀(i:Nat)(pins:List (Addr×Obj))(s:Shared)(σ:St)(H:Hp)(E:Value->Shared->Prop),Inv X pins σ H s->(∀b∈fp,j9 X pins H b)->tn i s.heap->J.stop i H->wpAny (model P w) X.A (pyNext (.ref it)) (fun r s1=>r=none/\Inv X pins σ H s1) E s
 self:∀(A:Around)(i:Nat)(s:Shared)(Q:Value->Shared->Prop)(E:Value->Shared->Prop),tn i s.heap->Q (.ref it) s->wpAny (model P w) A (pyIter (.ref it)) Q E s
abbrev TI:=St->Hp->(It->Hp->Prop)->Prop
def Ig(X:Cx)(pins:List (Addr×Obj))(σ:St)(tg:Expr)(R:It->Hp->Prop)(itv:Value)(s2:Shared):Prop:=∃(it:Addr)(fp:List Addr)(tn:Nat->Heap->Prop)(J:It)(H':Hp),itv= .ref it/\Inv X pins σ H' s2/\Turn X.prog X.w X.K tg J fp it tn/\tn 0 s2.heap/\(∀b∈fp,j9 X pins H' b)/\R J H'
def PI(X:Cx)(tg iter:Expr)(wi:TI):Prop:=∀(pins:List (Addr×Obj))(s:Shared)(σ:St)(H:Hp)(R:It->Hp->Prop),Inv X pins σ H s->wi σ H R->wpAny (model X.prog X.w) X.A (eval iter X.env) (fun v s1=>wpAny (model X.prog X.w) X.A (pyIter v) (Ig X pins σ tg R) X.xe s1) X.xe s
theorem kZ{M:Model}{A:Around}{E:Value->Shared->Prop}{s:Shared}{tg:Expr}{it:Addr}{u:Value}{o:Obj}{n:String}{vs:Array Value}{Q:Unit->Shared->Prop}(ho:s.heap.get? it=some o)(hc:o.cls= .type n)(hd:o.data= .fields vs) (hn:["enumerate","zip","dict_itemiterator","dict_reverseitemiterator","odict_iterator","itertools.zip_longest","itertools.pairwise"].contains n=false)(hQ:Q () s):wpAny M A (letOwnedTupleGo tg (.ref it) u) Q E s:=by unfold letOwnedTupleGo;cases tg<;>first |exact wpAny_pure hQ |(cases u<;>first
        |exact wpAny_pure hQ
        | (refine wpAny_bind (wpAny_load ho ?_)
           rw[hc,hd];show wpAny M A (if(["enumerate","zip","dict_itemiterator","dict_reverseitemiterator","odict_iterator","itertools.zip_longest","itertools.pairwise"].contains n&&vs[0]? ==some (rawInt _))=true then _ else _) Q E s;rw[if_neg (by intro h;rw[hn,Bool.false_and]at h;cases h)];exact wpAny_pure hQ))
def Fw(K:PySem.W.Frag)(a:Addr):It:=⟨fun i H=>∃xs x,bc K H a xs/\xs[i]? =some x,fun i H x H'=>H'=H/\∀xs,bc K H a xs->xs[i]? =some x,fun i H=>∃xs,bc K H a xs/\xs.length<=i⟩
def B9(K:PySem.W.Frag)(a:Addr):It:=⟨fun i H=>∃xs x,bG K H a xs/\xs[i]? =some x,fun i H x H'=>H'=H/\∀xs,bG K H a xs->xs[i]? =some x,fun i H=>∃xs,bG K H a xs/\xs.length<=i⟩
def zH(lo:Int)(n:Nat):It:=⟨fun i _=>i<n,fun i H x H'=>H'=H/\x= .int (lo+i),fun i _=>n<=i⟩
theorem tO{P:Program}{w:World}{K:PySem.W.Frag}{tg:Expr}(a it:Addr):Turn P w K tg (Fw K a) [it] it (fun i h=>h.IsListIter it a i) where
 mem:=by simp
 obj:=fun i h st b hb=>by
  have e:b=it:=by simpa using hb
  subst e;obtain⟨o,e,c,d⟩:=st;exact⟨o,e,fun v z=>by rw[d]at z;cases z⟩
 keep:=fun i h h' st k=>st.at fun o e=>k it (by simp) o e
 item:=by intro X hP hw hK hc i pins s σ H E I hf st hg;subst hP hw hK;obtain⟨xs,x,hq,hx⟩:=hg;obtain⟨its,rv,p,hz⟩:=I.list hq;obtain⟨u,hu,ru⟩:=rv.get hx;obtain⟨f0,f1,f2,f3,f4,f5⟩:=hf it (by simp);refine wpAny_pyNext_list_item st p.isList (x:=u) (by simpa using hu) fun h' st' sb=>?_;have I1:Inv X pins σ H {s with heap:=h'}:=I.turned (t':=s.toks) (fun b o hb e=>(sb.2 b hb).trans e) f0 f1 f3 f4 f5;obtain⟨o,e,c,d⟩:=id st';exact⟨u,rfl,kZ (s:={s with heap:=h'}) e c d (by decide) ⟨x,H,I1,ru,⟨rfl,fun ys hy=>by rw[I.ng hy hq];exact hx⟩,st',fun b hb=>(hf b hb).1⟩⟩
 done:=by intro X hP hw hK hc i pins s σ H E I hf st hg;subst hP hw hK;obtain⟨xs,hq,hx⟩:=hg;obtain⟨its,rv,p,hz⟩:=I.list hq;obtain⟨f0,f1,f2,f3,f4,f5⟩:=hf it (by simp);have hl:=rv.length;exact wpAny_pyNext_list_end (I.ok.hd hc) st p.isList (by simp;omega) fun h' eb=>⟨rfl,I.turned (t':=s.toks) (fun b o hb e=>eb b o hb e) f0 f1 f3 f4 f5⟩
 self:=fun _ _ _ _ _ st h=>wpAny_pyIter_listiter st h
theorem oX{P:Program}{w:World}{K:PySem.W.Frag}{tg:Expr}(a it:Addr):Turn P w K tg (B9 K a) [it] it (fun i h=>h.IsTupleIter it a i) where
 mem:=by simp
 obj:=fun i h st b hb=>by
  have e:b=it:=by simpa using hb
  subst e;obtain⟨o,e,c,d⟩:=st;exact⟨o,e,fun v z=>by rw[d]at z;cases z⟩
 keep:=fun i h h' st k=>st.at fun o e=>k it (by simp) o e
 item:=by intro X hP hw hK hc i pins s σ H E I hf st hg;subst hP hw hK;obtain⟨xs,x,hq,hx⟩:=hg;obtain⟨its,rv,p,hz⟩:=I.tuple hq;obtain⟨u,hu,ru⟩:=rv.get hx;obtain⟨f0,f1,f2,f3,f4,f5⟩:=hf it (by simp);refine wpAny_pyNext_tuple_item st (show s.heap.IsTuple a its.toArray from p) (x:=u) (by simpa using hu) fun h' st' sb=>?_;have I1:Inv X pins σ H {s with heap:=h'}:=I.turned (t':=s.toks) (fun b o hb e=>(sb.2 b hb).trans e) f0 f1 f3 f4 f5;obtain⟨o,e,c,d⟩:=id st';exact⟨u,rfl,kZ (s:={s with heap:=h'}) e c d (by decide) ⟨x,H,I1,ru,⟨rfl,fun ys hy=>by rw[I.kY hy hq];exact hx⟩,st',fun b hb=>(hf b hb).1⟩⟩
 done:=by intro X hP hw hK hc i pins s σ H E I hf st hg;subst hP hw hK;obtain⟨xs,hq,hx⟩:=hg;obtain⟨its,rv,p,hz⟩:=I.tuple hq;obtain⟨f0,f1,f2,f3,f4,f5⟩:=hf it (by simp);have hl:=rv.length;exact wpAny_pyNext_tuple_end (I.ok.hd hc) st (show s.heap.IsTuple a its.toArray from p) (by simp;omega) fun h' eb=>⟨rfl,I.turned (t':=s.toks) (fun b o hb e=>eb b o hb e) f0 f1 f3 f4 f5⟩
 self:=fun _ _ _ _ _ st h=>wpAny_pyIter_tupleiter st h
theorem oY{P:Program}{w:World}{K:PySem.W.Frag}{tg:Expr}(it:Addr)(lo:Int)(n:Nat):Turn P w K tg (zH lo n) [it] it (fun i h=>IsRangeIter h it (lo+(i:Nat)*1) ((n:Int)-(i:Nat)) 1) where
 mem:=by simp
 obj:=fun i h st b hb=>by
  have e:b=it:=by simpa using hb
  subst e;exact⟨_,st,fun v z=>by have z':Data.fields _=Data.cell v:=z;cases z'⟩
 keep:=fun i h h' st k=>k it (by simp) _ st
 item:=by intro X hP hw hK hc i pins s σ H E I hf st hg;subst hP hw hK;obtain⟨f0,f1,f2,f3,f4,f5⟩:=hf it (by simp);have W:=Walks.range (prog:=X.prog) (w:=X.w) (I.ok.hd hc) it lo 1 n;refine W.item i s _ _ hg st fun v h' tk hv st' kk=>?_;obtain⟨t,rfl⟩:=hv;have I1:Inv X pins σ H {s with heap:=h',toks:=tk}:=I.turned (fun b o hb e=>kk b o (by simpa using hb) e) f0 f1 f3 f4 f5;refine⟨_,rfl,kZ (s:={s with heap:=h',toks:=tk}) (n:="range_iterator") st' rfl rfl (by decide) ⟨.int (lo+i),H,I1,⟨t,?_⟩,⟨rfl,rfl⟩,st',fun b hb=>(hf b hb).1⟩⟩;rw[Int.mul_one]
 done:=by intro X hP hw hK hc i pins s σ H E I hf st hg;subst hP hw hK;obtain⟨f0,f1,f2,f3,f4,f5⟩:=hf it (by simp);exact wpAny_pyNext_range_end (I.ok.hd hc) st (by have:n<=i:=hg;omega) fun h' eb=>⟨rfl,I.turned (t':=s.toks) (fun b o hb e=>eb b o hb e) f0 f1 f3 f4 f5⟩
 self:=fun _ _ _ _ _ st h=>wpAny_pyIter_rangeiter st h
end L2
namespace L2
open PySem PySem.Spec PyProof.Rows
section
variable {X:Cx} {tg:Expr}
inductive vc(K:PySem.W.Frag)(R:It->Hp->Prop)(x:V)(H1:Hp):Prop |mk (a:_)(h0:x= .ref a)(h1:(∃xs,bc K H1 a xs))(h2:R (Fw K a) H1):vc K R x H1
def Ba(K:PySem.W.Frag)(tl:TE):TI:=fun σ H R=>tl σ H fun x H1=>vc K R x H1
inductive Bb(K:PySem.W.Frag)(R:It->Hp->Prop)(x:V)(H1:Hp):Prop |mk (a:_)(h0:x= .ref a)(h1:(∃xs,bG K H1 a xs))(h2:R (B9 K a) H1):Bb K R x H1
def FR(K:PySem.W.Frag)(tl:TE):TI:=fun σ H R=>tl σ H fun x H1=>Bb K R x H1
theorem zI{l:Expr}{tl:TE}(hl:PE X l tl):PI X tg l (Ba X.K tl):=by
 intro pins s σ H R I h;refine cn (hl pins s σ H _ I h) fun v s1 ⟨x,H1,I1,r1,q1⟩=>?_;obtain⟨a,e,⟨xs,hq⟩,q⟩:=q1;subst e;cases r1;obtain⟨its,rv,p,hz⟩:=I1.list hq;refine wpAny_pyIter_list p.isList ?_;refine⟨s1.heap.objs.size,[s1.heap.objs.size],_,_,H1,rfl,I1.kept (t':=s1.toks) fun b o e=>Heap.get?_push_of_some _ e,tO a _,⟨_,Heap.get?_push_size _ rfl,rfl,rfl⟩,fun b hb=>?_,q⟩;have e:b=s1.heap.objs.size:=by simpa using hb
 subst e;exact I1.m4 (Nat.le_refl _) (I1.hok.fresh (Nat.le_refl _))
theorem CY{l:Expr}{tl:TE}(hl:PE X l tl):PI X tg l (FR X.K tl):=by
 intro pins s σ H R I h;refine cn (hl pins s σ H _ I h) fun v s1 ⟨x,H1,I1,r1,q1⟩=>?_;obtain⟨a,e,⟨xs,hq⟩,q⟩:=q1;subst e;cases r1;obtain⟨its,rv,p,hz⟩:=I1.tuple hq;refine wpAny_pyIter_tuple (show s1.heap.IsTuple a its.toArray from p) ?_;refine⟨s1.heap.objs.size,[s1.heap.objs.size],_,_,H1,rfl,I1.kept (t':=s1.toks) fun b o e=>Heap.get?_push_of_some _ e,oX a _,⟨_,Heap.get?_push_size _ rfl,rfl,rfl⟩,fun b hb=>?_,q⟩;have e:b=s1.heap.objs.size:=by simpa using hb
 subst e;exact I1.m4 (Nat.le_refl _) (I1.hok.fresh (Nat.le_refl _))
theorem nk{pins:List (Addr×Obj)}{σ:St}{H:Hp}{s:Shared}{R:It->Hp->Prop}{E:Value->Shared->Prop}{lo hi:Int}{t u v:Tok}{tk:Nat}(I:Inv X pins σ H s)(h1:-(2^62)<=lo)(h2:lo<2^62)(h3:-(2^62)<=hi)(h4:hi<2^62) (q:R (zH lo (hi-lo).toNat) H):wpAny (model X.prog X.w) X.A (pyIter (.ref s.heap.objs.size)) (Ig X pins σ tg R) E {s with heap:=s.heap.push {cls:=.type "range",data:=.fields #[.int lo t,.int hi u,.int 1 v]},toks:=tk}:=by
  refine wpAny_pyIter_range (IsRange.new ..) (small_one h1 h2 h3 h4) ?_;have I1:Inv X pins σ H {s with heap:=s.heap.push {cls:=.type "range",data:=.fields #[.int lo t,.int hi u,.int 1 v]},toks:=tk}:=I.kept fun b o e=>Heap.get?_push_of_some _ e;refine⟨(s.heap.push {cls:=.type "range",data:=.fields #[.int lo t,.int hi u,.int 1 v]}).objs.size,[(s.heap.push {cls:=.type "range",data:=.fields #[.int lo t,.int hi u,.int 1 v]}).objs.size],_,_,H,rfl,I1.kept (t':=tk) fun b o e=>Heap.get?_push_of_some _ e,oY _ lo (hi-lo).toNat,?_,fun b hb=>?_,q⟩
  · have e1:lo+((0:Nat):Int)*1=lo:=by simp
    have e2:(((hi-lo).toNat:Nat):Int)-((0:Nat):Int)=Builtin.Range.rangeSize lo hi 1:=by rw[rangeSize_one];split<;>omega
    show IsRangeIter _ _ (lo+((0:Nat):Int)*1) ((((hi-lo).toNat:Nat):Int)-((0:Nat):Int)) 1;rw[e1,e2];exact Heap.get?_push_size _ rfl
  · have e:b=(s.heap.push {cls:=.type "range",data:=.fields #[.int lo t,.int hi u,.int 1 v]}).objs.size:=by simpa using hb
    subst e;exact I1.m4 (Nat.le_refl _) (I1.hok.fresh (Nat.le_refl _))
inductive vd(R:It->Hp->Prop)(vs:List V)(H1:Hp):Prop |mk (j:Int)(h0:vs=[.int j])(h1:-(2^62)<=j)(h2:j<2^62)(h3:R (zH 0 j.toNat) H1):vd R vs H1
def FT(ta:TA):TI:=fun σ H R=>ta σ H fun vs H1=>vd R vs H1
inductive ve(R:It->Hp->Prop)(vs:List V)(H1:Hp):Prop |mk (i:Int)(j:Int)(h0:vs=[.int i,.int j])(h1:(-(2^62)<=i/\i<2^62/\-(2^62)<=j/\j<2^62))(h2:R (zH i (j-i).toNat) H1):ve R vs H1
def FU(ta:TA):TI:=fun σ H R=>ta σ H fun vs H1=>ve R vs H1
theorem fV{a:Expr}{ta:TA}{p pos:Pos}(hg:Gl X "range")(hm:X.mg "range"=none)(ha:PA X [a] ta)(hs:starEach [a] X.env=[(false,eval a X.env)]:=by rfl):PI X tg (.Call (.Name "range" p) [a] [] pos) (FT ta):=by intro pins s σ H R I h;refine Call_ (gk I hg hm boot_range (PyProof.Rows.callWith_type1 (cn (ha pos pins s σ H _ I h) fun us s1 ⟨vs,H1,I1,r1,q1⟩=>?_) hs rfl));obtain⟨j,e,q1,q2,q⟩:=q1;subst e;cases r1 with |cons r rr=>cases rr;obtain⟨t,rfl⟩:=r;exact call_range_1 (nk I1 (by omega) (by omega) q1 q2 (by simpa using q))
theorem lb{a b:Expr}{ta:TA}{p pos:Pos}(hg:Gl X "range")(hm:X.mg "range"=none)(ha:PA X [a,b] ta)(hs:starEach [a,b] X.env=[(false,eval a X.env),(false,eval b X.env)]:=by rfl)(hs2:starEach [b] X.env=[(false,eval b X.env)]:=by rfl): PI X tg (.Call (.Name "range" p) [a,b] [] pos) (FU ta):=by intro pins s σ H R I h;refine Call_ (gk I hg hm boot_range (PyProof.Rows.callWith_type1 (cn (ha pos pins s σ H _ I h) fun us s1 ⟨vs,H1,I1,r1,q1⟩=>?_) (by rw[hs,hs2]) (by rw[hs2];rfl)));obtain⟨i,j,e,⟨q1,q2,q3,q4⟩,q⟩:=q1;subst e;cases r1 with |cons r rr=>cases rr with |cons r' rr=>cases rr;obtain⟨t,rfl⟩:=r;obtain⟨t',rfl⟩:=r';exact call_range_2 (nk I1 q1 q2 q3 q4 q)
def II(wi:TI)(g:TG)(tb:TS):TS:=fun D σ H=>wi σ H fun J H1=>∃W:Nat->Nat->St->Hp->Prop,(∃m,W 0 m σ H1)/\∀i m σ H,W i m σ H->(J.stop i H/\D.nx σ H)\/(J.go i H/\∃N:St->Hp->Prop,(∀σ' H',N σ' H'->∃m',m'<m/\W (i+1) m' σ' H')/\∀x H',J.yld i H x H'->g x σ H' fun σ2 H2=>tb {D with nx:=N,ct:=N,bk:=D.nx} σ2 H2)
def ja(fp:List Addr)(h:Heap):List (Addr×Obj):=fp.filterMap fun b=>(h.get? b).map fun o=>(b,o)
theorem fb{fp:List Addr}{h:Heap}{b:Addr}{o:Obj}(hb:b∈fp)(e:h.get? b=some o):(b,o)∈ja fp h:=List.mem_filterMap.mpr ⟨b,hb,by rw[e];rfl⟩
theorem tP{fp:List Addr}{h:Heap}{p:Addr×Obj}(hp:p∈ja fp h):p.1∈fp/\h.get? p.1=some p.2:=by obtain⟨b,hb,e⟩:=List.mem_filterMap.mp hp;cases q:h.get? b with |none=>rw[q]at e;cases e |some o=>rw[q]at e;have e':(b,o)=p:=Option.some.inj e;subst e';exact⟨hb,q⟩
theorem Inv.pinned{pins:List (Addr×Obj)}{σ:St}{H:Hp}{s:Shared}{fp:List Addr}(I:Inv X pins σ H s)(hf:∀b∈fp,j9 X pins H b)(ho:∀b∈fp,∃o,s.heap.get? b=some o/\∀v,o.data≠ .cell v):Inv X (pins++ja fp s.heap) σ H s:=I.qz fun p hp=>(List.mem_append.mp hp).elim (fun z=>I.pin p (List.mem_append_right _ z)) fun z=>by obtain⟨hb,e⟩:=tP z;obtain⟨f0,f1,f2,_⟩:=hf p.1 hb;obtain⟨o,e',d⟩:=ho p.1 hb;rw[e]at e';cases e';exact⟨e,f0,f1,f2,d⟩
theorem Inv.gF{pins pl:List (Addr×Obj)}{σ:St}{H:Hp}{s:Shared}(I:Inv X (pins++pl) σ H s):Inv X pins σ H s:=I.qz fun p hp=>I.pin p (List.mem_append_right _ (List.mem_append_left _ hp))
theorem fc{iter:Expr}{body:List Stmt}{wi:TI}{g:TG}{tb:TS}{pos:Pos}(hp:PassesOwn (model X.prog X.w) X.A X.env X.xe)(hc:X.calm=true)(hi:PI X tg iter wi)(hg:PG X tg g)(hb:oS X body tb) (hs:∀x,foldedSetIterable iter X.env x=pure x:=by intro _;rfl):PS X (.For tg iter body [] pos) (II wi g tb):=by
  intro pins s σ H D I h;refine wpAny_For (cn (hi pins s σ H _ I h) fun v s1 h1=>cn h1 fun itv s2 h2=>?_) hs;obtain⟨it,fp,tn,J,H2,e,I2,T,st2,f2,W,⟨m0,w0⟩,turn⟩:=h2;subst e;have stat:∀{H':Hp},(∀b∈fp,H' b=none)->∀b∈fp,j9 X pins H' b:=fun hn b hb=>⟨hn b hb,(f2 b hb).2⟩;refine codeAny_forLoop_any (fun n s'=>∃i σ' H',Inv X pins σ' H' s'/\tn i s'.heap/\(∀b∈fp,H' b=none)/\W i n σ' H') ?_ m0 ⟨0,σ,H2,I2,st2,fun b hb=>(f2 b hb).1,w0⟩;rintro n s3 ⟨i,σ3,H3,I3,st3,fr3,w3⟩;rcases turn i n σ3 H3 w3 with⟨stop,qn⟩|⟨go,N,hN,step⟩
  · refine wpAny_passesOwn hp (cn (T.done X rfl rfl rfl hc i pins s3 σ3 H3 X.xe I3 (stat fr3) st3 stop) fun r s4 ⟨hr,I4⟩=>?_)
    subst hr;exact wpAny_execs_nil ⟨σ3,H3,I4,qn⟩
  · refine wpAny_passesOwn hp (cn (T.item X rfl rfl rfl hc i pins s3 σ3 H3 X.xe I3 (stat fr3) st3 go) fun r s4 ⟨u,hr,h4⟩=>?_)
    subst hr;refine wpAny_passesOwn hp (cn h4 fun _ s5 ⟨x,H5,I5,r5,y5,st5,fr5⟩=>?_);have I5':=I5.pinned (stat fr5) (T.obj _ _ st5);refine wpAny_passesOwn hp (cn (hg _ s5 σ3 H5 x u _ I5' r5 (step x H5 y5)) fun _ s6 ⟨σ6,H6,I6,q6⟩=>?_);refine wpAny_passesOwn hp (cn (hb _ s6 σ6 H6 _ I6 q6) fun f s7 q7=>?_);have again:∀{σ7:St}{H7:Hp},Inv X (pins++ja fp s5.heap) σ7 H7 s7->N σ7 H7->∃m,m<n/\∃i σ' H',Inv X pins σ' H' s7/\tn i s7.heap/\(∀b∈fp,H' b=none)/\W i m σ' H':=fun{σ7 H7} I7 n7=>by obtain⟨m',hm,w7⟩:=hN σ7 H7 n7;refine⟨m',hm,i+1,σ7,H7,I7.gF,T.keep _ _ _ st5 fun b hb o e=>(I7.pin (b,o) (List.mem_append_right _ (List.mem_append_right _ (fb hb e)))).1,fun b hb=>?_,w7⟩;obtain⟨o,e,d⟩:=T.obj _ _ st5 b hb;exact(I7.pin (b,o) (List.mem_append_right _ (List.mem_append_right _ (fb hb e)))).2.1
    cases f with |next=>obtain⟨σ7,H7,I7,n7⟩:=q7;exact again I7 n7 |cont=>obtain⟨σ7,H7,I7,n7⟩:=q7;exact again I7 n7 |brk=>obtain⟨σ7,H7,I7,q7⟩:=q7;exact⟨σ7,H7,I7.gF,q7⟩ |ret v=>obtain⟨x7,σ7,H7,I7,r7,q7⟩:=q7;exact⟨x7,σ7,H7,I7.gF,r7,q7⟩
end
theorem jY{K:PySem.W.Frag}{a:Addr}{xs:List V}{g:TG}{tb:TS}{D:Ends}{σ:St}{H:Hp}(Pv:Nat->St->Hp->Prop)(h0:Pv 0 σ H)(hl:∀i σ H,i<=xs.length->Pv i σ H->bc K H a xs) (hs:∀i x σ H,xs[i]? =some x->Pv i σ H->g x σ H fun σ2 H2=>tb {D with nx:=Pv (i+1),ct:=Pv (i+1),bk:=D.nx} σ2 H2)(hd:∀σ H,Pv xs.length σ H->D.nx σ H): ∃W:Nat->Nat->St->Hp->Prop,(∃m,W 0 m σ H)/\∀i m σ H,W i m σ H->((Fw K a).stop i H/\D.nx σ H)\/((Fw K a).go i H/\∃N:St->Hp->Prop,(∀σ' H',N σ' H'->∃m',m'<m/\W (i+1) m' σ' H')/\∀x H',(Fw K a).yld i H x H'->g x σ H' fun σ2 H2=>tb {D with nx:=N,ct:=N,bk:=D.nx} σ2 H2):=by
  refine⟨fun i m σ H=>m=xs.length-i/\i<=xs.length/\Pv i σ H,⟨xs.length,by simp,Nat.zero_le _,h0⟩,?_⟩;rintro i m σ H ⟨rfl,hi,p⟩;have q:=hl i σ H hi p;by_cases hlt:i<xs.length
  · refine .inr ⟨⟨xs,xs[i],q,by simp[hlt]⟩,Pv (i+1),fun σ' H' p'=>⟨xs.length-(i+1),by omega,rfl,hlt,p'⟩,fun x H' y=>?_⟩
    obtain⟨e,y⟩:=y;subst e;exact hs i x σ _ (y xs q) p
  · have e:i=xs.length:=by omega
    subst e;exact .inl ⟨⟨xs,q,Nat.le_refl _⟩,hd σ H p⟩
theorem zJ{K:PySem.W.Frag}{a:Addr}{xs:List V}{g:TG}{tb:TS}{D:Ends}{σ:St}{H:Hp}(Pv:Nat->St->Hp->Prop)(h0:Pv 0 σ H)(hl:∀i σ H,i<=xs.length->Pv i σ H->bG K H a xs) (hs:∀i x σ H,xs[i]? =some x->Pv i σ H->g x σ H fun σ2 H2=>tb {D with nx:=Pv (i+1),ct:=Pv (i+1),bk:=D.nx} σ2 H2)(hd:∀σ H,Pv xs.length σ H->D.nx σ H): ∃W:Nat->Nat->St->Hp->Prop,(∃m,W 0 m σ H)/\∀i m σ H,W i m σ H->((B9 K a).stop i H/\D.nx σ H)\/((B9 K a).go i H/\∃N:St->Hp->Prop,(∀σ' H',N σ' H'->∃m',m'<m/\W (i+1) m' σ' H')/\∀x H',(B9 K a).yld i H x H'->g x σ H' fun σ2 H2=>tb {D with nx:=N,ct:=N,bk:=D.nx} σ2 H2):=by
  refine⟨fun i m σ H=>m=xs.length-i/\i<=xs.length/\Pv i σ H,⟨xs.length,by simp,Nat.zero_le _,h0⟩,?_⟩;rintro i m σ H ⟨rfl,hi,p⟩;have q:=hl i σ H hi p;by_cases hlt:i<xs.length
  · refine .inr ⟨⟨xs,xs[i],q,by simp[hlt]⟩,Pv (i+1),fun σ' H' p'=>⟨xs.length-(i+1),by omega,rfl,hlt,p'⟩,fun x H' y=>?_⟩
    obtain⟨e,y⟩:=y;subst e;exact hs i x σ _ (y xs q) p
  · have e:i=xs.length:=by omega
    subst e;exact .inl ⟨⟨xs,q,Nat.le_refl _⟩,hd σ H p⟩
theorem fW{lo:Int}{n:Nat}{g:TG}{tb:TS}{D:Ends}{σ:St}{H:Hp}(Pv:Nat->St->Hp->Prop)(h0:Pv 0 σ H) (hs:∀i σ H,i<n->Pv i σ H->g (.int (lo+i)) σ H fun σ2 H2=>tb {D with nx:=Pv (i+1),ct:=Pv (i+1),bk:=D.nx} σ2 H2)(hd:∀σ H,Pv n σ H->D.nx σ H): ∃W:Nat->Nat->St->Hp->Prop,(∃m,W 0 m σ H)/\∀i m σ H,W i m σ H->((zH lo n).stop i H/\D.nx σ H)\/((zH lo n).go i H/\∃N:St->Hp->Prop,(∀σ' H',N σ' H'->∃m',m'<m/\W (i+1) m' σ' H')/\∀x H',(zH lo n).yld i H x H'->g x σ H' fun σ2 H2=>tb {D with nx:=N,ct:=N,bk:=D.nx} σ2 H2):=by
  refine⟨fun i m σ H=>m=n-i/\i<=n/\Pv i σ H,⟨n,by simp,Nat.zero_le _,h0⟩,?_⟩;rintro i m σ H ⟨rfl,hi,p⟩;by_cases hlt:i<n
  · refine .inr ⟨hlt,Pv (i+1),fun σ' H' p'=>⟨n-(i+1),by omega,rfl,hlt,p'⟩,fun x H' y=>?_⟩
    obtain⟨e,y⟩:=y;subst e y;exact hs i σ _ hlt p
  · have e:i=n:=by omega
    subst e;exact .inl ⟨Nat.le_refl _,hd σ H p⟩
theorem dR{c:TT}{tb:TS}{D:Ends}{σ:St}{H:Hp}(Pv:St->Hp->Prop)(μ:St->Hp->Nat)(h0:Pv σ H) (hs:∀σ H,Pv σ H->c σ H fun b H1=>if b=true then tb {D with nx:=fun σ' H'=>Pv σ' H'/\μ σ' H'<μ σ H,ct:=fun σ' H'=>Pv σ' H'/\μ σ' H'<μ σ H,bk:=D.nx} σ H1 else D.nx σ H1) (mono:∀σ H Q Q',(∀b H1,Q b H1->Q' b H1)->c σ H Q->c σ H Q'):vb c tb D σ H:=by refine⟨fun m σ H=>m=μ σ H/\Pv σ H,⟨_,rfl,h0⟩,?_⟩;rintro m σ H ⟨rfl,p⟩;refine mono σ H _ _ (fun b H1 q=>?_) (hs σ H p);cases b with |true=>exact⟨_,fun σ' H' ⟨p',l⟩=>⟨_,l,rfl,p'⟩,q⟩ |false=>exact q
end L2
namespace L2
open PySem PySem.Spec PyProof.Rows
abbrev R2:=V->V->Hp->VK->Prop
def gj(X:Cx)(f:Value->Value->Sem Value)(r:R2):Prop:=∀(pins:List (Addr×Obj))(s:Shared)(σ:St)(H:Hp)(x y:V)(v u:Value)(Q:VK),Inv X pins σ H s->RelV x v->RelV y u->r x y H Q->wpAny (model X.prog X.w) X.A (f v u) (EP X pins σ Q) X.xe s
def IJ(X:Cx)(f:Value->Sem Value)(r:V->Hp->VK->Prop):Prop:=∀(pins:List (Addr×Obj))(s:Shared)(σ:St)(H:Hp)(x:V)(v:Value)(Q:VK),Inv X pins σ H s->RelV x v->r x H Q->wpAny (model X.prog X.w) X.A (f v) (EP X pins σ Q) X.xe s
def cM(X:Cx)(f:Value)(r:List V->Hp->VK->Prop):Prop:=∀(pins:List (Addr×Obj))(s:Shared)(σ:St)(H:Hp)(xs:List V)(us:List Value)(Q:VK),Inv X pins σ H s->Vals xs us->r xs H Q->wpAny (model X.prog X.w) X.A (call f us) (EP X pins σ Q) X.xe s
def IK(X:Cx)(r:V->Hp->(Bool->Hp->Prop)->Prop):Prop:=∀(pins:List (Addr×Obj))(s:Shared)(σ:St)(H:Hp)(x:V)(v:Value)(Q:Bool->Hp->Prop),Inv X pins σ H s->RelV x v->r x H Q->wpAny (model X.prog X.w) X.A (truthy v) (TP X pins σ Q) X.xe s
def Ih(r:R2)(ta tb:TE):TE:=fun σ H Q=>ta σ H fun x H1=>tb σ H1 fun y H2=>r x y H2 Q
def JH(r:V->Hp->VK->Prop)(ta:TE):TE:=fun σ H Q=>ta σ H fun x H1=>r x H1 Q
inductive Jv(C:Int->Int->Prop)(g:Int->Int->V)(x:V)(y:V)(H:Hp)(Q:VK):Prop |mk (i:_)(j:_)(h0:x= .int i)(h1:y= .int j)(h2:C i j)(h3:Q (g i j) H):Jv C g x y H Q
def rI(C:Int->Int->Prop)(g:Int->Int->V):R2:=fun x y H Q=>Jv C g x y H Q
inductive FV(g:Int->Int->V)(x:V)(y:V)(H:Hp)(Q:VK):Prop |mk (i:_)(j:_)(h0:x= .int i)(h1:y= .int j)(h2:Q (g i j) H):FV g x y H Q
def qA(g:Int->Int->V):R2:=fun x y H Q=>FV g x y H Q
inductive Jw(g:Int->V)(x:V)(H:Hp)(Q:VK):Prop |mk (i:_)(h0:x= .int i)(h1:Q (g i) H):Jw g x H Q
def rU(g:Int->V):V->Hp->VK->Prop:=fun x H Q=>Jw g x H Q
section
variable {X:Cx}{a b c:Expr}{ta tb tc:TE}{pos:Pos}
theorem CZ(ha:PE X a ta)(hb:PE X b tb){pins:List (Addr×Obj)}{s:Shared}{σ:St}{H:Hp}{R:V->V->Hp->Prop}(I:Inv X pins σ H s) (h:ta σ H fun x H1=>tb σ H1 fun y H2=>R x y H2){Q:Value->Shared->Prop}{f:Value->Value->Sem Value} (hf:∀v u s2 x y H2,Inv X pins σ H2 s2->RelV x v->RelV y u->R x y H2->wpAny (model X.prog X.w) X.A (f v u) Q X.xe s2): wpAny (model X.prog X.w) X.A (eval a X.env) (fun v s₁=>wpAny (model X.prog X.w) X.A (eval b X.env) (fun u s₂=>wpAny (model X.prog X.w) X.A (f v u) Q X.xe s₂) X.xe s₁) X.xe s:=by refine cn (ha pins s σ H _ I h) fun v s1 ⟨x,H1,I1,r1,q1⟩=>?_;refine cn (hb pins s1 σ H1 _ I1 q1) fun u s2 ⟨y,H2,I2,r2,q2⟩=>?_;exact hf v u s2 x y H2 I2 r1 r2 q2
theorem az{op:Operator}{r:R2}(ho:gj X (binaryOp op) r)(ha:PE X a ta)(hb:PE X b tb):PE X (.BinOp a op b pos) (Ih r ta tb):=by intro pins s σ H Q I h;exact wpAny_BinOp (CZ ha hb I h fun v u s2 x y H2 I2 rx ry q=>ho pins s2 σ H2 x y v u Q I2 rx ry q)
theorem nv{op:UnaryOp}{r:V->Hp->VK->Prop}(ho:IJ X (unaryOp op) r)(ha:PE X a ta):PE X (.UnaryOp op a pos) (JH r ta):=by intro pins s σ H Q I h;exact UnaryOp_ (cn (ha pins s σ H _ I h) fun v s1 ⟨x,H1,I1,r1,q1⟩=>ho pins s1 σ H1 x v Q I1 r1 q1)
theorem FW{f:Value->Value->Sem Value}{C:Int->Int->Prop}{g:Int->Int->Int} (rule:∀(i j:Int)(t u:Tok)(s:Shared)(Q:Value->Shared->Prop)(E:Value->Shared->Prop),C i j->Q (.int (g i j) s.toks) {s with toks:=s.toks+1}->wpAny (model X.prog X.w) X.A (f (.int i t) (.int j u)) Q E s): gj X f (rI C fun i j=>.int (g i j)):=by intro pins s σ H x y v u Q I rx ry h;obtain⟨i,j,rfl,rfl,hc,q⟩:=h;obtain⟨t,rfl⟩:=rx;obtain⟨t',rfl⟩:=ry;exact rule i j t t' s _ _ hc ⟨.int (g i j),H,I.tok _,⟨_,rfl⟩,q⟩
theorem FX{f:Value->Value->Sem Value}{g:Int->Int->Int} (rule:∀(i j:Int)(t u:Tok)(s:Shared)(Q:Value->Shared->Prop)(E:Value->Shared->Prop),Q (.int (g i j) s.toks) {s with toks:=s.toks+1}->wpAny (model X.prog X.w) X.A (f (.int i t) (.int j u)) Q E s): gj X f (qA fun i j=>.int (g i j)):=by intro pins s σ H x y v u Q I rx ry h;obtain⟨i,j,rfl,rfl,q⟩:=h;obtain⟨t,rfl⟩:=rx;obtain⟨t',rfl⟩:=ry;exact rule i j t t' s _ _ ⟨.int (g i j),H,I.tok _,⟨_,rfl⟩,q⟩
theorem tQ{f:Value->Value->Sem Value}{g:Int->Int->Bool} (rule:∀(i j:Int)(t u:Tok)(s:Shared)(Q:Value->Shared->Prop)(E:Value->Shared->Prop),Q (.bool (g i j)) s->wpAny (model X.prog X.w) X.A (f (.int i t) (.int j u)) Q E s): gj X f (qA fun i j=>.bl (g i j)):=by intro pins s σ H x y v u Q I rx ry h;obtain⟨i,j,rfl,rfl,q⟩:=h;obtain⟨t,rfl⟩:=rx;obtain⟨t',rfl⟩:=ry;exact rule i j t t' s _ _ ⟨.bl (g i j),H,I,rfl,q⟩
def IL(i j:Int):Prop:=0<=j/\j<=1000000/\i.natAbs<2^64
theorem bo:gj X (binaryOp .Add) (qA fun i j=>.int (i+j)):=FX fun _ _ _ _ _ _ _ q=>add_int q
theorem cB:gj X (binaryOp .Sub) (qA fun i j=>.int (i-j)):=FX fun _ _ _ _ _ _ _ q=>sub_int q
theorem gq:gj X (binaryOp .Mod) (rI (fun _ j=>0<j) fun i j=>.int (i%j)):=FW fun i j _ _ _ _ _ hc q=>by have h1:(0:Int)<j:=hc;exact mod_int' (by omega) (by rw[Int.fmod_eq_emod_of_nonneg i (by omega)];exact q)
theorem jb:gj X (binaryOp .Pow) (rI IL fun i j=>.int (i^j.toNat)):=FW fun _ _ _ _ _ _ _ hc q=>pow_int_small hc.1 hc.2.1 hc.2.2 q
theorem JI{f:Value->Sem Value}{g:Int->Int} (rule:∀(i:Int)(t:Tok)(s:Shared)(Q:Value->Shared->Prop)(E:Value->Shared->Prop),Q (.int (g i) s.toks) {s with toks:=s.toks+1}->wpAny (model X.prog X.w) X.A (f (.int i t)) Q E s): IJ X f (rU fun i=>.int (g i)):=by intro pins s σ H x v Q I rx h;obtain⟨i,rfl,q⟩:=h;obtain⟨t,rfl⟩:=rx;exact rule i t s _ _ ⟨.int (g i),H,I.tok _,⟨_,rfl⟩,q⟩
theorem jZ:IJ X (unaryOp .USub) (rU fun i=>.int (-i)):=JI fun _ _ _ _ _ q=>neg_int q
end
section
variable {X:Cx}{a b c:Expr}{ta tb tc:TE}{pos:Pos}
theorem oZ{pins:List (Addr×Obj)}{σ:St}{H:Hp}{s:Shared}{Q:VK}{k k':Bool}(I:Inv X pins σ H s)(q:Q (.bl k) H)(e:k=k'):EP X pins σ Q (.bool k') s:=by subst e;exact⟨.bl k,H,I,rfl,q⟩
theorem ft:gj X (compareOp .Lt) (qA fun i j=>.bl (decide (i<j))):=tQ fun _ _ _ _ _ _ _ q=>lt_int q
theorem jz:gj X (compareOp .LtE) (qA fun i j=>.bl (decide (i<=j))):=tQ fun _ _ _ _ _ _ _ q=>le_int q
theorem ka:gj X (compareOp .Gt) (qA fun i j=>.bl (decide (j<i))):=tQ fun _ _ _ _ _ _ _ q=>gt_int q
theorem vf:gj X (compareOp .GtE) (qA fun i j=>.bl (decide (j<=i))):=tQ fun _ _ _ _ _ _ _ q=>ge_int q
theorem tR:gj X (compareOp .In) (fun x y H Q=>∃i j,x= .str i/\y= .str j/\Q (.bl (!(Builtin.Str.occurrences j i 0 j.length 1).isEmpty)) H):=by intro pins s σ H x y v u Q I rx ry h;obtain⟨i,j,rfl,rfl,q⟩:=h;obtain⟨t,rfl⟩:=rx;obtain⟨t',rfl⟩:=ry;exact in_str (oZ I q rfl)
theorem vg:gj X (compareOp .Is) (fun x y H Q=>y= .cG/\Q (.bl (decide (x= .cG))) H):=by intro pins s σ H x y v u Q I rx ry h;obtain⟨rfl,q⟩:=h;cases ry;refine is_none_gen (oZ I q ?_);cases x<;>first |(cases rx;rfl) |(obtain⟨t,rfl⟩:=rx;rfl)
theorem iG:gj X (compareOp .IsNot) (fun x y H Q=>y= .cG/\Q (.bl (!decide (x= .cG))) H):=by intro pins s σ H x y v u Q I rx ry h;obtain⟨rfl,q⟩:=h;cases ry;refine isnot_none_gen (oZ I q ?_);cases x<;>first |(cases rx;rfl) |(obtain⟨t,rfl⟩:=rx;rfl)
theorem gj.or{f:Value->Value->Sem Value}{r r':R2}(h:gj X f r)(h':gj X f r'):gj X f (fun x y H Q=>r x y H Q\/r' x y H Q):=by
 intro pins s σ H x y v u Q I rx ry q;rcases q with q|q
 ·exact h pins s σ H x y v u Q I rx ry q
 ·exact h' pins s σ H x y v u Q I rx ry q
theorem aK(b:Expr){op:CmpOp}(h:op≠ .In:=by decide)(h2:op≠ .NotIn:=by decide):behindInMarks op b=false:=by
 have e1:(op==CmpOp.In)=false:=by cases op<;>first|rfl|exact absurd rfl h
 have e2:(op==CmpOp.NotIn)=false:=by cases op<;>first|rfl|exact absurd rfl h2
 cases b<;>simp[behindInMarks,e1,e2]
theorem bJ{op:CmpOp}{r:R2}(ho:gj X (compareOp op) r)(ha:PE X a ta)(hb:PE X b tb)(hm:behindInMarks op b=false):PE X (.Compare a [op] [b] pos) (Ih r ta tb):=by intro pins s σ H Q I h;exact wpAny_Compare1 (CZ ha hb I h fun v u s2 x y H2 I2 rx ry q=>ho pins s2 σ H2 x y v u Q I2 rx ry q) hm
inductive vh(Q:Bool->Hp->Prop)(x:V)(H':Hp):Prop |mk (k:_)(h0:x= .bl k)(h1:Q k H'):vh Q x H'
def Bc(t:TE):TT:=fun σ H Q=>t σ H fun x H'=>vh Q x H'
theorem aO{op:CmpOp}{r:R2}(ho:gj X (compareOp op) r)(ha:PE X a ta)(hb:PE X b tb)(hm:behindInMarks op b=false):PT X (.Compare a [op] [b] pos) (Bc (Ih r ta tb)):=by intro pins s σ H Q I h;refine wpAny_isTrue_Compare1 (cn (ha pins s σ H _ I h) fun v s1 ⟨x,H1,I1,r1,q1⟩=>cn (hb pins s1 σ H1 _ I1 q1) fun u s2 ⟨y,H2,I2,r2,q2⟩=>cn (ho pins s2 σ H2 x y v u _ I2 r1 r2 q2) fun c s3 ⟨z,H3,I3,r3,k,e,q3⟩=>?_) hm;subst e;cases r3;exact wpAny_truthy_bool ⟨H3,I3,q3⟩
inductive qB(r':R2)(tc:TE)(σ:St)(Q:VK)(y:V)(z:V)(H3:Hp):Prop |mk (k:_)(h0:z= .bl k)(h1:(if k=true then tc σ H3 fun w' H4=>r' y w' H4 Q else Q (.bl false) H3)):qB r' tc σ Q y z H3
def vi(r r':R2)(ta tb tc:TE):TE:=fun σ H Q=>ta σ H fun x H1=>tb σ H1 fun y H2=>r x y H2 fun z H3=>qB r' tc σ Q y z H3
theorem kb{op op':CmpOp}{r r':R2}(ho:gj X (compareOp op) r)(ho':gj X (compareOp op') r')(ha:PE X a ta)(hb:PE X b tb)(hc:PE X c tc) (hm:lastMarks [op,op'] [b,c]=false:=by with_unfolding_all rfl):PE X (.Compare a [op,op'] [b,c] pos) (vi r r' ta tb tc):=by intro pins s σ H Q I h;refine Compare_chain (cn (ha pins s σ H _ I h) fun v s1 ⟨x,H1,I1,r1,q1⟩=>chain_link (cn (hb pins s1 σ H1 _ I1 q1) fun u s2 ⟨y,H2,I2,r2,q2⟩=>cn (ho pins s2 σ H2 x y v u _ I2 r1 r2 q2) fun d s3 ⟨z,H3,I3,r3,k,e,q3⟩=>?_)) hm;subst e;cases r3;refine wpAny_truthy_bool ?_;cases k with |false=>exact ite_ff ⟨.bl false,H3,I3,rfl,q3⟩ |true=>exact ite_tt (chain_last (cn (hc pins s3 σ H3 _ I3 q3) fun w' s4 ⟨z',H4,I4,r4,q4⟩=>ho' pins s4 σ H4 y z' u w' Q I4 r2 r4 q4))
theorem vj{op op':CmpOp}{r r':R2}(ho:gj X (compareOp op) r)(ho':gj X (compareOp op') r')(ha:PE X a ta)(hb:PE X b tb)(hc:PE X c tc) (hm:lastMarks [op,op'] [b,c]=false:=by with_unfolding_all rfl):PT X (.Compare a [op,op'] [b,c] pos) (Bc (vi r r' ta tb tc)):=by intro pins s σ H Q I h;refine isTrue_chain (cn (ha pins s σ H _ I h) fun v s1 ⟨x,H1,I1,r1,q1⟩=>test_link (cn (hb pins s1 σ H1 _ I1 q1) fun u s2 ⟨y,H2,I2,r2,q2⟩=>cn (ho pins s2 σ H2 x y v u _ I2 r1 r2 q2) fun d s3 ⟨z,H3,I3,r3,k,e,q3⟩=>?_)) hm;subst e;cases r3;refine wpAny_truthy_bool ?_;cases k with |false=>obtain⟨k',e',q'⟩:=q3;cases e';exact ite_ff ⟨H3,I3,q'⟩ |true=>refine ite_tt (test_last (cn (hc pins s3 σ H3 _ I3 q3) fun w' s4 ⟨z',H4,I4,r4,q4⟩=>cn (ho' pins s4 σ H4 y z' u w' _ I4 r2 r4 q4) fun d' s5 ⟨z2,H5,I5,r5,k2,e2,q5⟩=>?_));subst e2;cases r5;exact wpAny_truthy_bool ⟨H5,I5,q5⟩
def D5(K:PySem.W.Frag)(x:V)(H:Hp)(k:Bool):Prop:=match x with | .cG=>k=false | .bl b=>k=b | .int i=>k=(i !=0) | .str y=>y.length<=sizeLine/\k=((y.length:Int) !=0) | .Fu y=>y.size<=sizeLine/\k=((y.size:Int) !=0) | .ref p=>(∃xs,bc K H p xs/\k= !xs.isEmpty)\/(∃xs,bG K H p xs/\k= !xs.isEmpty)\/∃kvs,H p=some (.dK kvs)/\k= !kvs.isEmpty |_=>False
theorem p4{κ:Type}{kvs:List (κ×V)}{vs:List (κ×Value)}(r:KV kvs vs):(!vs.isEmpty)= !kvs.isEmpty:=by cases r<;>rfl
theorem kf{xs:List V}{its:List Value}(r:Vals xs its):(!its.toArray.isEmpty)= !xs.isEmpty:=by cases r<;>simp
theorem jc:(sizeLine:Nat)<2^63:=by rw[sizeLine_eq];decide
theorem D6:IK X (fun x H Q=>∃k,D5 X.K x H k/\Q k H):=by intro pins s σ H x v Q I rx h;obtain⟨k,e,q⟩:=h;have hl:=jc;have hs:sizeLine=16777216:=sizeLine_eq;cases x with |cG=>cases rx;have e':k=false:=e;subst e';exact truthy_none ⟨H,I,q⟩ |bl b=>cases rx;have e':k=b:=e;subst e';exact wpAny_truthy_bool ⟨H,I,q⟩ |int i=>obtain⟨t,rfl⟩:=rx;have e':k=(i !=0):=e;subst e';exact PySem.P.truthy_int ⟨H,I,q⟩ |str y=>obtain⟨t,rfl⟩:=rx;obtain⟨hy,e'⟩:y.length<=sizeLine/\k=((y.length:Int) !=0):=e;subst e';exact PySem.P.truthy_str (by omega) ⟨H,I.tok _,q⟩ |Fu y=>obtain⟨t,rfl⟩:=rx;obtain⟨hy,e'⟩:y.size<=sizeLine/\k=((y.size:Int) !=0):=e;subst e';exact PySem.W.truthy_bytes (by omega) ⟨H,I.tok _,q⟩ |ref p=>
   cases rx;have e':(∃xs,bc X.K H p xs/\k= !xs.isEmpty)\/(∃xs,bG X.K H p xs/\k= !xs.isEmpty)\/∃kvs,H p=some (.dK kvs)/\k= !kvs.isEmpty:=e;rcases e' with⟨xs,hx,e'⟩|⟨xs,hx,e'⟩|⟨kvs,hx,e'⟩
   · subst e'
     obtain⟨its,r,pl,hz⟩:=I.list hx;have hlen:=r.length;exact wpAny_truthy_list pl.isList (by simp only[List.size_toArray];omega) ⟨H,I.tok _,by rw[kf r];exact q⟩
   · subst e'
     obtain⟨its,r,pl,hz⟩:=I.tuple hx;have hlen:=r.length;exact truthy_tuple pl (by simp only[List.size_toArray];omega) ⟨H,I.tok _,by rw[kf r];exact q⟩
   · subst e'
     obtain⟨hz,hS,vs,r,m⟩:kvs.length<=sizeLine/\(p==sysModules)=false/\∃vs,KV kvs vs/\s.heap.DictOf (cP X.prog X.w) p vs:=I.hok p _ hx;have hlen:kvs.length=vs.length:=Paired.length r;exact wpAny_truthy_dict hS m (by omega) ⟨H,I.tok _,by rw[p4 r];exact q⟩ |_=>exact(show False from e).elim
theorem vk(ha:PE X a ta)(he:∀whole,isTrue a X.env whole=(do let v<-whole;standAt a.pos;holding [v] (truthy v))): PT X a (fun σ H Q=>ta σ H fun x H'=>∃k,D5 X.K x H' k/\Q k H'):=by intro pins s σ H Q I h;exact isTrue_plain (cn (ha pins s σ H _ I h) fun v s1 ⟨x,H1,I1,r1,q1⟩=>D6 pins s1 σ H1 x v Q I1 r1 q1) (he _)
theorem p5:gj X (binaryOp .Add) (fun x y H Q=>∃i j,x= .str i/\y= .str j/\i.length+j.length<=sizeLine/\Q (.str (i++j)) H):=by intro pins s σ H x y v u Q I rx ry h;obtain⟨i,j,rfl,rfl,hz,q⟩:=h;obtain⟨t,rfl⟩:=rx;obtain⟨t',rfl⟩:=ry;exact add_str (fun t' tk=>⟨.str (i++j),H,I.tok _,⟨_,rfl⟩,q⟩) hz
theorem vals1{x:V}{us:List Value}(r:Vals [x] us):∃u,us=[u]/\RelV x u:=by cases r with |cons r1 r2=>cases r2;exact⟨_,rfl,r1⟩
theorem vals2{x y:V}{us:List Value}(r:Vals [x,y] us):∃u w',us=[u,w']/\RelV x u/\RelV y w':=by cases r with |cons r1 r2=>cases r2 with |cons r3 r4=>cases r4;exact⟨_,_,rfl,r1,r3⟩
theorem dS:cM X (.builtin "abs") (fun xs H Q=>∃i,xs=[.int i]/\Q (.int (if i<0 then-i else i)) H):=by intro pins s σ H xs us Q I r h;obtain⟨i,rfl,q⟩:=h;obtain⟨u,rfl,t,rfl⟩:=vals1 r;exact call_abs_int fun u tk=>⟨.int (if i<0 then-i else i),H,I.tok _,⟨_,rfl⟩,q⟩
theorem lg(hc:X.calm=true):cM X (.builtin "max") (fun xs H Q=>∃i j,xs=[.int i,.int j]/\Q (.int (if j>i then j else i)) H):=by
 intro pins s σ H xs us Q I r h;obtain⟨i,j,rfl,q⟩:=h;obtain⟨u,w',rfl,⟨t,rfl⟩,⟨t',rfl⟩⟩:=vals2 r;refine max_two_ints (I.ok.hd hc) fun h' tk k=>⟨_,H,I.kept k,?_,q⟩;by_cases hj:j>i
 ·rw[if_pos hj,if_pos hj];exact⟨_,rfl⟩
 ·rw[if_neg hj,if_neg hj];exact⟨_,rfl⟩
theorem jd(hc:X.calm=true):cM X (.builtin "min") (fun xs H Q=>∃i j,xs=[.int i,.int j]/\Q (.int (if j<i then j else i)) H):=by
 intro pins s σ H xs us Q I r h;obtain⟨i,j,rfl,q⟩:=h;obtain⟨u,w',rfl,⟨t,rfl⟩,⟨t',rfl⟩⟩:=vals2 r;refine min_two_ints (I.ok.hd hc) fun h' tk k=>⟨_,H,I.kept k,?_,q⟩;by_cases hj:j<i
 ·rw[if_pos hj,if_pos hj];exact⟨_,rfl⟩
 ·rw[if_neg hj,if_neg hj];exact⟨_,rfl⟩
theorem lj:cM X (.type "int") (fun xs H Q=>(∃i,xs=[.int i]/\Q (.int i) H)\/∃k,xs=[.bl k]/\Q (.int (if k then 1 else 0)) H):=by
 intro pins s σ H xs us Q I r h;rcases h with⟨i,rfl,q⟩|⟨k,rfl,q⟩
 · obtain⟨u,rfl,t,rfl⟩:=vals1 r
   exact call_int_int ⟨.int i,H,I,⟨_,rfl⟩,q⟩
 · obtain⟨u,rfl,r1⟩:=vals1 r
   cases r1;exact call_int_bool ⟨.int (if k then 1 else 0),H,I.tok _,⟨_,rfl⟩,q⟩
end
end L2
namespace L2
open PySem PySem.Spec PyProof.Rows
structure p7(h:Heap)(x dx C:Addr)(mA:Str->Option Value):Prop where
 obj:h.get? x=some (PySem.W.instObj C dx)
 ns:h.Ns1 dx mA
 ne:dx≠x
theorem tS{h:Heap}{dx:Addr}{mA:Str->Option Value}(n:h.Ns1 dx mA):∃od,h.get? dx=some od/\∀name,PySem.W.lookIn name od=some (mA name):=by
 obtain⟨o,es,ep,ho,hd,hk,_,hm⟩:=n;refine⟨o,ho,fun name=>?_⟩;have e:=hm name;unfold nsFind findBy at e;rw[<-Array.find?_toList]at e;unfold PySem.W.lookIn;rw[hd];dsimp only;split
 · rename_i y q
   rw[q]at e;exact congrArg some e
 · rename_i q
   rw[q]at e;have a:es.toList.any (·.refKey)=false:=by rw[List.any_eq_false];intro y hy;obtain⟨z,t,hkey⟩:=hk y (Array.mem_toList_iff.mp hy);simp[DictEntry.refKey,hkey]
   have a':¬es.toList.any (·.refKey)=true:=by rw[a];exact Bool.false_ne_true
   rw[if_neg a'];exact congrArg some e
theorem p7.look{h:Heap}{x dx C:Addr}{mA:Str->Option Value}(I:p7 h x dx C mA):∃od,PySem.W.InstAt h x (PySem.W.instObj C dx) C (some od)/\∀name,PySem.W.lookIn name od=some (mA name):=let⟨od,ho,hl⟩:=tS I.ns
 ⟨od,⟨I.obj,rfl,rfl,ho⟩,hl⟩
section
variable {prog:Program}{w:World}{A:Around}{E:Value->Shared->Prop}{s:Shared}{K:PySem.W.Frag}{x dx C f:Addr}{mA:Str->Option Value}{name:Str}{v:Value}
theorem get_map{expr:Bool}{Q:Value->Shared->Prop}(X:K.In s.heap)(I:p7 s.heap x dx C mA)(hg:PySem.W.plainGet K C name=true)(hh:PySem.W.hasDictIn K C=true) (ha:PySem.W.findIn K (.ref C) name=some none)(hv:mA name=some v)(hv':PySem.W.handedIn v=true)(h:Q v {s with toks:=s.toks+1}): wpAny (model prog w) A (getAttr (.ref x) name expr) Q E s:=by obtain⟨od,J,hl⟩:=I.look;exact PySem.W.get_value X J (PySem.W.plainGet_of hg).1 (PySem.W.findObj_own hh ha rfl (by rw[hl,hv])) hv' h
theorem vm{pl:Sem Bool}{Q:Value×List Value->Shared->Prop}(X:K.In s.heap)(I:p7 s.heap x dx C mA)(hg:PySem.W.plainGet K C name=true) (hf:PySem.W.findIn K (.ref C) name=some (some (.ref f)))(ht:PySem.W.isFn K (.ref f)=true)(hv:mA name=none)(h:Q (.ref f,[.ref x]) s): wpAny (model prog w) A (getMethod (.ref x) name pl) Q E s:=by obtain⟨od,J,hl⟩:=I.look;exact PySem.W.method_fn X J (PySem.W.plainGet_of hg).1 (PySem.W.plainGet_of hg).2 hf (beq_iff_eq.mp ht) (by show(PySem.W.lookIn name od).map (·.isSome)=some false;rw[hl,hv];rfl) h
theorem zK{ns:List Str}{Q:Unit->Shared->Prop}(X:K.In s.heap)(I:p7 s.heap x dx C mA) (hs:PySem.W.findIn K (.ref C) "__setattr__"=some (some (.builtin "object.__setattr__")))(hp:PySem.W.plainOver K C=true)(ht:PySem.W.takerIn K C name=some none)(hh:PySem.W.hasDictIn K C=true) (hw:PySem.Within mA ns)(hsz:ns.length<=sizeLine) (h:∀h',p7 h' x dx C (fun y=>if y=name then some v else mA y)->Heap.SameBut dx s.heap h'->Q () {s with heap:=h',toks:=s.toks+2}): wpAny (model prog w) A (setAttr (.ref x) name v) Q E s:=by obtain⟨od,J,hl⟩:=I.look;refine PySem.W.set_plain X J hs (PySem.W.osa_open (s:={s with toks:=s.toks+1}) (r:=none) X J hp ht fun b=>?_);obtain⟨cd,hc,hd'⟩:=PySem.W.any_some hh;have hx:s.heap.get? x=some ⟨.ref C,some dx,.plain,#[]⟩:=I.obj;refine wpAny_bind (wpAny_pure (wpAny_bind (wpAny_bind (wpAny_loadPart hx (wpAny_bind (PySem.W.Looks.here (s:={s with toks:=s.toks+1}) (PySem.W.looks_clsIn X hc) ?_))))));rw[hd'];refine wpAny_pure (a:=some dx) (wpAny_bind (wpAny_pure (wpAny_bind ?_)));refine wpAny_nsSet1 (s:={s with toks:=s.toks+1}) I.ns fun h' hn2 hs2=>?_;obtain⟨oD,esD,epD,hoD,hdD,hcD⟩:=hn2.count (PySem.Within.cons name v hw);refine wpAny_bind (wpAny_lookBehind hoD (by rw[hdD];exact pastItsLine_dict (Nat.le_trans hcD (by rw[List.length_cons];omega))) ?_);exact wpAny_pure (h _ ⟨(hs2.2 _ (Ne.symm I.ne)).trans I.obj,hn2,I.ne⟩ hs2)
theorem vn{R:Result->Shared->Prop}{vs:List Value}{kw:List (Str×Value)}(X:K.In s.heap)(hm:PySem.W.makesIn K C=true) (hi:PySem.W.findIn K (.ref C) "__init__"=some (some (.ref f)))(hf:PySem.W.typeIn K (.ref f)=some (.type "function")) (h:codeAny (model prog w) (A.under (.builtin "type.__call__" ⟨.ref C::vs,kw⟩)) (.call (.ref f) ⟨.ref (s.heap.objs.size+1)::vs,kw⟩) (PySem.W.InitBack (s.heap.objs.size+1) R) {s with heap:=(s.heap.push PySem.W.emptyDict).push (PySem.W.instObj C s.heap.objs.size)}): codeAny (model prog w) A (.call (.ref C) ⟨vs,kw⟩) R s:=by obtain⟨hh,g,d,t,os⟩:=s;exact PySem.W.make_core (PySem.W.makes_of X hm) (PySem.W.looks_findIn X hi) (fun self=>PySem.W.bind_fn X self hf) (.inl rfl) h
end
def gG(f:Str)(v:V):List (Str×V)->List (Str×V) |[]=>[(f,v)] |(g,x)::r=>if g=f then(g,v)::r else(g,x)::gG f v r
theorem jA(f g:Str)(v:V):∀fs:List (Str×V),(gG f v fs).lookup g=if g=f then some v else fs.lookup g
  |[]=>by
    show List.lookup g [(f,v)]=_;by_cases h:g=f
    · have hb:(g==f)=true:=beq_iff_eq.mpr h
      simp only[List.lookup,hb,if_pos h]
    · have hb:(g==f)=false:=beq_eq_false_iff_ne.mpr h
      simp only[List.lookup,hb,if_neg h] |(k,x)::r=>by
    have ih:=jA f g v r;rw[show gG f v ((k,x)::r)=(if k=f then(k,v)::r else(k,x)::gG f v r)from rfl];by_cases hk:k=f
    · rw[if_pos hk]
      by_cases h:g=k
      · have hb:(g==k)=true:=beq_iff_eq.mpr h
        simp only[List.lookup,hb,if_pos (h.trans hk)]
      · have hb:(g==k)=false:=beq_eq_false_iff_ne.mpr h
        simp only[List.lookup,hb,if_neg (fun e:g=f=>h (e.trans hk.symm))]
    · rw[if_neg hk]
      by_cases h:g=k
      · have hb:(g==k)=true:=beq_iff_eq.mpr h
        simp only[List.lookup,hb,if_neg (fun e:g=f=>hk (h.symm.trans e))]
      · have hb:(g==k)=false:=beq_eq_false_iff_ne.mpr h
        simp only[List.lookup,hb];exact ih
theorem je(f:Str)(v:V):∀fs:List (Str×V),f∈(gG f v fs).map (·.1)/\∀g,g∈fs.map (·.1)->g∈(gG f v fs).map (·.1)
  |[]=>⟨by simp[gG],fun g h=>by simp at h⟩ |(k,x)::r=>by
    obtain⟨i1,i2⟩:=je f v r;rw[show gG f v ((k,x)::r)=(if k=f then(k,v)::r else(k,x)::gG f v r)from rfl];by_cases hk:k=f
    · rw[if_pos hk]
      subst hk;exact⟨by simp,fun g h=>by simpa using h⟩
    · rw[if_neg hk]
      refine⟨?_,fun g h=>?_⟩
      · rw[List.map_cons]
        exact List.mem_cons_of_mem _ i1
      · rw[List.map_cons]at h⊢
        rcases List.mem_cons.mp h with e|e
        ·exact List.mem_cons.mpr (.inl e)
        ·exact List.mem_cons_of_mem _ (i2 g e)
theorem jB(f:Str)(v:V):∀fs:List (Str×V),(gG f v fs).length<=fs.length+1
  |[]=>by simp[gG] |(k,x)::r=>by
    have ih:=jB f v r;rw[show gG f v ((k,x)::r)=(if k=f then(k,v)::r else(k,x)::gG f v r)from rfl];by_cases hk:k=f
    ·rw[if_pos hk,List.length_cons,List.length_cons];omega
    ·rw[if_neg hk,List.length_cons,List.length_cons];omega
theorem gY.some_of{v:V}{o:Option Value}(r:gY (some v) o):∃u,o=some u/\RelV v u:=by cases o with |none=>exact(show False from r).elim |some u=>exact⟨u,rfl,r⟩
theorem gY.none_of{o:Option Value}(r:gY none o):o=none:=by cases o with |none=>rfl |some u=>exact(show False from r).elim
theorem tT{v:V}{u:Value}(r:RelV v u):PySem.W.handedIn u=true:=by cases v with |cG=>cases(show u=Value.none from r);rfl |bl b=>cases(show u=Value.bool b from r);rfl |int i=>obtain⟨t,e⟩:=(show∃t,u=Value.int i t from r);cases e;rfl |str x=>obtain⟨t,e⟩:=(show∃t,u=Value.str x t from r);cases e;rfl |Fu b=>obtain⟨t,e⟩:=(show∃t,u=Value.bytes b t from r);cases e;rfl |Ic b=>obtain⟨t,e⟩:=(show∃t,u=Value.float b t from r);cases e;rfl |ref a=>cases(show u=Value.ref a from r);rfl |ty n=>cases(show u=Value.type n from r);rfl
section
variable {P:Program}{w:World}{H H':Hp}{h h':Heap}{a C dx:Addr}{fs fs':List (Str×V)}
theorem m5(hok:gZ P w H h)(e:H a=some (.ins C dx fs)):∃mA,p7 h a dx C mA/\(∀f,gY (fs.lookup f) (mA f))/\PySem.Within mA (fs.map (·.1))/\fs.length<=1000/\H dx=some (.own a):=by obtain⟨d,z,ne,ob,mA,n,r,q⟩:=(show dh P w H h a (.ins C dx fs)from hok a _ e);exact⟨mA,⟨ob,n,ne⟩,r,q,z,d⟩
end
structure qC(K:PySem.W.Frag)(C:Addr):Prop where
 pg:PySem.W.plainGet K C Str.empty=true
 hd:PySem.W.hasDictIn K C=true
 po:PySem.W.plainOver K C=true
 sa:PySem.W.findIn K (.ref C) "__setattr__"=some (some (.builtin "object.__setattr__"))
theorem qC.get{K:PySem.W.Frag}{C:Addr}(c:qC K C)(f:Str):PySem.W.plainGet K C f=true:=c.pg
def cy(K:PySem.W.Frag)(C:Addr)(f:Str):Prop:=PySem.W.findIn K (.ref C) f=some none
theorem cy.FY{K:PySem.W.Frag}{C:Addr}{f:Str}(n:cy K C f):PySem.W.takerIn K C f=some none:=by unfold PySem.W.takerIn;rw[show PySem.W.findIn K (.ref C) f=some none from n];rfl
structure Meth(K:PySem.W.Frag)(C:Addr)(m:Str)(f:Addr):Prop where
 at_:PySem.W.findIn K (.ref C) m=some (some (.ref f))
 fn:PySem.W.isFn K (.ref f)=true
 kp:PySem.W.keepIn K (.ref f)=true
section
variable {X:Cx}{pins:List (Addr×Obj)}{σ:St}{H:Hp}{s:Shared}{a C dx:Addr}{fs:List (Str×V)}{f:Str}{v:V}{A:Around}{E:Value->Shared->Prop}
theorem kg{b:Bool}{Q:Value->Shared->Prop}(I:Inv X pins σ H s)(e:H a=some (.ins C dx fs))(c:qC X.K C)(n:cy X.K C f)(l:fs.lookup f=some v) (h:∀u s',Inv X pins σ H s'->RelV v u->Q u s'):wpAny (model X.prog X.w) A (getAttr (.ref a) f b) Q E s:=by obtain⟨mA,O,r,_,_,_⟩:=m5 I.hok e;obtain⟨u,hu,ru⟩:=gY.some_of (v:=v) (o:=mA f) (by rw[<-l];exact r f);exact get_map I.oQ O (c.get f) c.hd n hu (tT ru) (h u _ (I.tok _) ru)
theorem kh{m:Str}{g:Addr}{pl:Sem Bool}{Q:Value×List Value->Shared->Prop}(I:Inv X pins σ H s)(e:H a=some (.ins C dx fs))(c:qC X.K C)(k:Meth X.K C m g)(l:fs.lookup m=none) (h:Q (.ref g,[.ref a]) s):wpAny (model X.prog X.w) A (getMethod (.ref a) m pl) Q E s:=by obtain⟨mA,O,r,_,_,_⟩:=m5 I.hok e;have hn:mA m=none:=gY.none_of (by rw[<-l];exact r m);exact vm I.oQ O (c.get m) k.at_ k.fn hn h
theorem ki{y:V}{u:Value}{Q:Unit->Shared->Prop}(I:Inv X pins σ H s)(e:H a=some (.ins C dx fs))(c:qC X.K C)(n:cy X.K C f)(hl:fs.length<1000)(ry:RelV y u) (h:∀s',Inv X pins σ (upd H a (.ins C dx (gG f y fs))) s'->Q () s'):wpAny (model X.prog X.w) A (setAttr (.ref a) f u) Q E s:=by
  obtain⟨mA,O,r,wi,_,ho⟩:=m5 I.hok e;have hz:(fs.map (·.1)).length<=sizeLine:=by rw[List.length_map,sizeLine_eq];omega
  refine zK I.oQ O c.sa c.po n.FY c.hd wi hz fun h' O' sb=>h _ ?_;have hd:∃o,h'.get? dx=some o:=let⟨o,_,_,e',_⟩:=O'.ns;⟨o,e'⟩;refine I.write (x:=a) (e:=dx) (by rw[e];exact True.intro) (.inr ho) (fun b q hb z=>(sb.2 b hb).trans z) hd ?_;refine⟨by rw[aj O.ne];exact ho,?_,O.ne,O'.obj,_,O'.ns,fun g=>?_,fun g hg=>?_⟩
  ·have:=jB f y fs;omega
  · show gY ((gG f y fs).lookup g) (if g=f then some u else mA g)
    rw[jA];by_cases q:g=f
    ·rw[if_pos q,if_pos q];exact ry
    ·rw[if_neg q,if_neg q];exact r g
  · by_cases q:g=f
    ·rw[q];exact(je f y fs).1
    · refine(je f y fs).2 g (wi g fun z=>hg ?_)
      show(if g=f then some u else mA g)=none;rw[if_neg q];exact z
theorem Inv.made(I:Inv X pins σ H s):Inv X pins σ (upd (upd H s.heap.objs.size (.own (s.heap.objs.size+1))) (s.heap.objs.size+1) (.ins C s.heap.objs.size [])) {s with heap:=(s.heap.push PySem.W.emptyDict).push (PySem.W.instObj C s.heap.objs.size)}:=by
  have e1:(s.heap.push PySem.W.emptyDict).get? s.heap.objs.size=some PySem.W.emptyDict:=Heap.get?_push_size s.heap rfl;have e2:((s.heap.push PySem.W.emptyDict).push (PySem.W.instObj C s.heap.objs.size)).get? (s.heap.objs.size+1)=some (PySem.W.instObj C s.heap.objs.size):=by have:=Heap.get?_push_size (s.heap.push PySem.W.emptyDict) (o:=PySem.W.instObj C s.heap.objs.size) rfl;rwa [Heap.size_push]at this
  have e3:(s.heap.push PySem.W.emptyDict).Ns s.heap.objs.size (fun _=>none):=⟨PySem.W.emptyDict,#[],_,e1,rfl,(fun e he=>absurd he (by simp)),fun _=>rfl⟩;have I1:=I.laid (a:=s.heap.objs.size) (o:=.own (s.heap.objs.size+1)) (h':=s.heap.push PySem.W.emptyDict) (t':=s.toks) (fun b u q=>Heap.get?_push_of_some _ q) (Nat.le_refl _) ⟨_,e1⟩;refine I1.laid (a:=s.heap.objs.size+1) (o:=.ins C s.heap.objs.size []) (t':=s.toks) (fun b u q=>Heap.get?_push_of_some _ q) (Nat.le_of_eq (Heap.size_push _ _)) ?_;have ne:s.heap.objs.size≠s.heap.objs.size+1:=Nat.ne_of_lt (Nat.lt_succ_self _);refine⟨by rw[aj ne,au],Nat.zero_le _,ne,e2,fun _=>none,(Heap.Ns1.of_empty e3).at fun o q=>Heap.get?_push_of_some _ q,fun _=>True.intro,fun y hy=>absurd rfl hy⟩
theorem zL{prog:Program}{w:World}{env:Env}{e:Expr}{f:Str}{pos:Pos}{s:Shared}{Q:Value->Shared->Prop}(hb:attributeBase e f env (eval e env)=eval e env) (h:wpAny (model prog w) A (eval e env) (fun o s₁=>wpAny (model prog w) A (getAttr o f true) Q E s₁) E s):wpAny (model prog w) A (eval (.Attribute e f pos) env) Q E s:=Attribute_any_ h (by rw[arm_eval_Attribute,hb])
end
def IM(X:Cx)(op:Operator)(rd:V->V->Hp->VK->Prop):Prop:=∀(pins:List (Addr×Obj))(s:Shared)(σ:St)(H:Hp)(x y:V)(u v:Value)(Q:VK),Inv X pins σ H s->RelV x u->RelV y v->rd x y H Q->wpAny (model X.prog X.w) X.A (inplaceOp op u v) (EP X pins σ Q) X.xe s
section
variable {X:Cx}{o e value:Expr}{f:Str}{pos pos' tpos:Pos}{ta tv:TE}
end
section
variable {X:Cx}{pins:List (Addr×Obj)}{σ:St}{H:Hp}{s:Shared}{A:Around}{E:Value->Shared->Prop}{Q:Value->Shared->Prop}{c:Value}{b:Bool}
end
end L2
namespace L2
open PySem PySem.Spec PyProof.Rows
structure dF(k:Nat)(A:Around):Prop where
 hd:A.handled=none
 dp:A.depth+3*k+5<recursionLimit
 un:A.units+16*k+200<cLine
theorem dF.mono{j k:Nat}{A:Around}(r:dF k A)(h:j<=k):dF j A:=⟨r.hd,by have:=r.dp;omega,by have:=r.un;omega⟩
theorem dF.deeper{k:Nat}{A:Around}(r:dF (k+1) A)(env:Env):dF k (A.deeper env):=⟨r.hd,by have:=r.dp;show A.depth+1+3*k+5<_;omega,by have:=r.un;show A.units+3+16*k+200<_;omega⟩
theorem p8{A:Around}{C:Addr}{us:List Value}{kw:List (Str×Value)}:(A.under (.builtin "type.__call__" ⟨.ref C::us,kw⟩)).depth=A.depth+1:=by first|rfl|simp[Around.under,Code.weight,Code.isCreation,Code.isGuard,Code.isCaller,Code.frames,Code.isFrame,guardIds]
theorem p9{A:Around}{C:Addr}{us:List Value}{kw:List (Str×Value)}:(A.under (.builtin "type.__call__" ⟨.ref C::us,kw⟩)).units=A.units+1:=by first|rfl|simp[Around.under,Code.cUnits,Code.frames,Code.isFrame]
theorem dF.make{k:Nat}{A:Around}(r:dF (k+1) A)(C:Addr)(us:List Value)(kw:List (Str×Value)):dF k (A.under (.builtin "type.__call__" ⟨.ref C::us,kw⟩)):=⟨r.hd,by have:=r.dp;rw[p8];omega,by have:=r.un;rw[p9];omega⟩
theorem dF.depth{k:Nat}{A:Around}(r:dF k A):A.depth<recursionLimit:=by have:=r.dp;omega
theorem dF.units{k:Nat}{A:Around}(r:dF k A):A.units+64<cLine:=by have:=r.un;omega
def ny:TA:=fun _ H Q=>Q [] H
def FZ(ta:TE)(tr:TA):TA:=fun σ H Q=>ta σ H fun x H1=>tr σ H1 fun xs H2=>Q (x::xs) H2
section
variable {X:Cx}{e:Expr}{es:List Expr}{te:TE}{t:TA}{pos:Pos}
theorem af:PA X [] ny:=fun _ _ _ _ H Q I h=>Calls.spliced_nil ⟨[],H,I,.nil,h⟩
theorem aa(ha:PE X e te)(hr:PA X es t)(hs:starEach (e::es) X.env=(false,eval e X.env)::starEach es X.env:=by rfl):PA X (e::es) (FZ te t):=by intro pos pins s σ H Q I h;rw[hs];show wpAny _ _ (spliced ((false,eval e X.env)::backTo pos (starEach es X.env))) _ _ s;refine Calls.spliced_cons (cn (ha pins s σ H _ I h) fun u s1 ⟨x,H1,I1,r1,q1⟩=>?_);exact cn (hr pos pins s1 σ H1 _ I1 q1) fun us s2 ⟨xs,H2,I2,r2,q2⟩=>⟨x::xs,H2,I2,.cons r1 r2,q2⟩
end
abbrev Sp:=List V->Hp->VK->XK->Prop
abbrev vo:=List Env->Hp->Shared->XK->Value->Shared->Prop
structure pf(P:Program)(w:World)(K:PySem.W.Frag)(mg:Str->Option Value)(base:Heap)(A:Around)(outer:List Env)(s:Shared)(H:Hp):Prop where
 frames:A.frames=some outer
 mod:Mod K mg base
 bs:∀b o,base.get? b=some o->s.heap.get? b=some o/\H b=none
 bsz:base.objs.size<=s.heap.objs.size
 j8:s.heap.FunFrames base outer
 frf:∀b∈qx outer,H b=none
 hok:gZ P w H s.heap
 bare:AllBare s.gens
def CE(outer:List Env)(P:Program)(w:World)(H:Hp)(s:Shared)(Q:VK)(u:Value)(s':Shared):Prop:=∃v H',s'.os=s.os/\AllBare s'.gens/\Un (qx outer) [] H H' s.heap s'.heap/\gZ P w H' s'.heap/\RelV v u/\Q v H'
def CR(CX:vo)(outer:List Env)(P:Program)(w:World)(H:Hp)(s:Shared)(Q:VK)(E:XK)(r:Result)(s':Shared):Prop:=match r with | .ok (.ret u)=>CE outer P w H s Q u s' | .ok _=>False | .error e=>CX outer H s E e s'
structure hJ(P:Program)(w:World)(K:PySem.W.Frag)(mg:Str->Option Value)(base:Heap)(CX:vo)(k:Nat)(f:Addr)(fd:FuncData)(ps:List Str)(sp:Sp):Prop where
 len:∀vs H Q E,sp vs H Q E->vs.length=ps.length
 run:∀(A:Around)(outer:List Env)(s:Shared)(H:Hp)(args:Args)(us:List Value)(vs:List V)(Q:VK)(E:XK),dF k A->pf P w K mg base A outer s H->BindsTo s fd args (ps.zip us)->Vals vs us->sp vs H Q E->codeAny (model P w) A (.call (.ref f) args) (CR CX outer P w H s Q E) s
theorem pf.make{P:Program}{w:World}{K:PySem.W.Frag}{mg:Str->Option Value}{base:Heap}{A:Around}{outer:List Env}{s:Shared}{H:Hp}(e:pf P w K mg base A outer s H)(C:Addr)(us:List Value)(kw:List (Str×Value)): pf P w K mg base (A.under (.builtin "type.__call__" ⟨.ref C::us,kw⟩)) outer s H:=⟨by first|exact e.frames|(simpa[Around.under,Code.envs,Code.isFrame,pushEnvs]using e.frames),e.mod,e.bs,e.bsz,e.j8,e.frf,e.hok,e.bare⟩
section
variable {X:Cx}{pins:List (Addr×Obj)}{σ:St}{H:Hp}{s s':Shared}
theorem Inv.G0(I:Inv X pins σ H s):pf X.prog X.w X.K X.mg X.base X.A X.stack s H:=⟨I.ok.frames,I.ok.mod,I.bs,Nat.le_trans I.ok.bsz I.sz,I.stack,I.qy,I.hok,I.bare⟩
theorem Inv.after{Q:VK}{u:Value}(I:Inv X pins σ H s)(h:CE X.stack X.prog X.w H s Q u s'):EP X pins σ Q u s':=by obtain⟨v,H',os,bare,un,hok,r,q⟩:=h;obtain⟨hh,g,d,t,os'⟩:=s';obtain rfl:os'=s.os:=os;exact⟨v,H',I.call (h':=hh) (g':=g) (d':=d) (t':=t) (ch:=[]) un hok bare (fun b z=>absurd z (by simp)),r,q⟩
end
def G1(sp:Sp)(dvs:List V)(E:XK)(t:TA):TE:=fun σ H Q=>t σ H fun vs H1=>sp (vs++dvs) H1 Q E
inductive kj(C:Addr)(m:Str)(sp:Sp)(dvs:List V)(E:XK)(t:TA)(σ:St)(Q:VK)(x:V)(H1:Hp):Prop |mk (a:_)(dx:_)(fs:_)(h0:x= .ref a)(h1:H1 a=some (.ins C dx fs))(h2:fs.lookup m=none)(h3:t σ H1 fun vs H2=>sp (x::(vs++dvs)) H2 Q E):kj C m sp dvs E t σ Q x H1
def Be(C:Addr)(m:Str)(sp:Sp)(dvs:List V)(E:XK)(ta:TE)(t:TA):TE:=fun σ H Q=>ta σ H fun x H1=>kj C m sp dvs E t σ Q x H1
def G2(C:Addr)(sp:Sp)(dvs:List V)(E:XK)(t:TA):TE:=fun σ H Q=>t σ H fun vs H1=>∀x dx,H1 x=none->H1 dx=none->dx≠x->sp (.ref x::(vs++dvs)) (upd (upd H1 dx (.own x)) x (.ins C dx [])) (fun v H2=>v= .cG/\Q (.ref x) H2) E
def Binds(K:PySem.W.Frag)(fd:FuncData)(ps:List Str)(ds:List Value):Prop:=∀(s:Shared)(us:List Value),K.In s.heap->(us++ds).length=ps.length->BindsTo s fd ⟨us,[]⟩ (ps.zip (us++ds))
theorem Binds.all{K:PySem.W.Frag}{fd:FuncData}{ps:List Str}(h:∀us:List Value,us.length=ps.length->bindArgs fd ⟨us,[]⟩=pure (ps.zip us)):Binds K fd ps []:=fun s us _ hl=>by rw[List.append_nil]at hl⊢;exact .of_eq (h us hl)
def Passes(CX:vo)(X:Cx)(E:XK):Prop:=∀(pins:List (Addr×Obj))(σ:St)(H:Hp)(s:Shared)(e:Value)(s':Shared),Inv X pins σ H s->CX X.stack H s E e s'->X.xe e s'
section
variable {X:Cx}{CX:vo}{k:Nat}{f C:Addr}{fd:FuncData}{ps:List Str}{sp:Sp}{dvs:List V}{ds:List Value}{E:XK}{x m:Str}{p pos apos:Pos}{e o:Expr}{es:List Expr}{ta:TE}{t:TA}
theorem ph{pins:List (Addr×Obj)}{σ:St}{H:Hp}{s:Shared}{Q:VK}{us:List Value}{vs:List V}(F:hJ X.prog X.w X.K X.mg X.base CX k f fd ps sp)(hr:dF k X.A)(hb:Binds X.K fd ps ds)(hd:Vals dvs ds)(hx:Passes CX X E) (I:Inv X pins σ H s)(r:Vals vs us)(h:sp (vs++dvs) H Q E):wpAny (model X.prog X.w) X.A (call (.ref f) us) (EP X pins σ Q) X.xe s:=by
  have r2:Vals (vs++dvs) (us++ds):=r.append hd;have hl:(us++ds).length=ps.length:=by rw[<-r2.length];exact F.len _ _ _ _ h
  refine wpAny_call (codeAny_mono (F.run X.A X.stack s H ⟨us,[]⟩ (us++ds) (vs++dvs) Q E hr I.G0 (hb s us I.oQ hl) r2 h) fun r s' hq=>?_);cases r with |error e=>exact hx pins σ H s e s' I hq |ok fl=>cases fl with |ret u=>exact I.after hq |next=>exact False.elim hq |brk=>exact False.elim hq |cont=>exact False.elim hq
theorem zM(F:hJ X.prog X.w X.K X.mg X.base CX k f fd ps sp)(hr:dF k X.A)(hg:Gl X x)(hm:X.mg x=some (.ref f))(hk:PySem.W.keepIn X.K (.ref f)=true)(hb:Binds X.K fd ps ds)(hd:Vals dvs ds)(hx:Passes CX X E) (ha:PA X (e::es) t)(hdb:(x==("__debug__":Str))=false:=by decide)(he:starEach (e::es) X.env=(false,eval e X.env)::starEach es X.env:=by rfl)(hpl:(backTo pos (starEach es X.env)).any (·.1)=false:=by rfl): PE X (.Call (.Name x p) (e::es) [] pos) (G1 sp dvs E t):=by intro pins s σ H Q I h;refine wpAny_Call_Name_kw (lZ I hg hm ?_ hdb);refine PySem.W.callWith_K (h₀:=X.base) I.ok.mod.kin hk (cn (ha pos pins s σ H _ I h) fun us s1 ⟨vs,H1,I1,r,q⟩=>⟨I1.oQ,?_⟩) he hpl;exact ph F hr hb hd hx I1 r q
theorem zN{pl:Sem Bool}(he:PE X o ta)(c:qC X.K C)(hm:Meth X.K C m f)(F:hJ X.prog X.w X.K X.mg X.base CX k f fd ps sp)(hr:dF k X.A)(hb:Binds X.K fd ps ds)(hd:Vals dvs ds)(hx:Passes CX X E)(ha:PA X (e::es) t) (hst:starEach (e::es) X.env=(false,eval e X.env)::starEach es X.env:=by rfl)(hpl:(backTo pos (starEach es X.env)).any (·.1)=false:=by rfl) (ht:eval (.Call (.Attribute o m apos) (e::es) [] pos) X.env=(do
     let ov<-eval o X.env
     standAt apos.atName
     let(f,first)<-holding [ov] (getMethod ov m pl)
     callWith pos f first (backTo pos (starEach (e::es) X.env)) (backToKw pos (keywordEach [] X.env))):=by rfl): PE X (.Call (.Attribute o m apos) (e::es) [] pos) (Be C m sp dvs E ta t):=by
  intro pins s σ H Q I h;refine PySem.W.methodCall_KW (pl:=pl) (cn (he pins s σ H _ I h) fun u s1 ⟨x,H1,I1,rx,a,dx,fs,ex,ea,l,q⟩=>?_) ht;subst ex;obtain rfl:u=Value.ref a:=rx;refine kh I1 ea c hm l ?_;refine PySem.W.callWith_K (first:=[.ref a]) (h₀:=X.base) I.ok.mod.kin hm.kp (cn (ha pos pins s1 σ H1 _ I1 q) fun us s2 ⟨vs,H2,I2,r,q2⟩=>⟨I2.oQ,?_⟩) hst hpl;exact ph (us:=.ref a::us) (vs:=.ref a::vs) F hr hb hd hx I2 (.cons rfl r) q2
theorem vp{pl:Sem Bool}(he:PE X o ta)(c:qC X.K C)(hm:Meth X.K C m f)(F:hJ X.prog X.w X.K X.mg X.base CX k f fd ps sp)(hr:dF k X.A)(hb:Binds X.K fd ps ds)(hd:Vals dvs ds)(hx:Passes CX X E) (ht:eval (.Call (.Attribute o m apos) [] [] pos) X.env=(do
     let ov<-eval o X.env
     standAt apos.atName
     let(f,first)<-holding [ov] (getMethod ov m pl)
     callWith pos f first (backTo pos (starEach [] X.env)) (backToKw pos (keywordEach [] X.env))):=by rfl): PE X (.Call (.Attribute o m apos) [] [] pos) (Be C m sp dvs E ta ny):=by
  intro pins s σ H Q I h;refine PySem.W.methodCall_KW (pl:=pl) (cn (he pins s σ H _ I h) fun u s1 ⟨x,H1,I1,rx,a,dx,fs,ex,ea,l,q⟩=>?_) ht;subst ex;obtain rfl:u=Value.ref a:=rx;refine kh I1 ea c hm l ?_;exact PySem.W.callWith_K0 (first:=[.ref a]) I1.oQ hm.kp (ph (us:=[.ref a]) (vs:=[.ref a]) F hr hb hd hx I1 (.cons rfl .nil) q)
structure Mk(K:PySem.W.Frag)(C f:Addr):Prop where
 makes:PySem.W.makesIn K C=true
 init:PySem.W.findIn K (.ref C) "__init__"=some (some (.ref f))
 fn:PySem.W.isFn K (.ref f)=true
 kp:PySem.W.keepIn K (.ref C)=true
theorem vq{pins:List (Addr×Obj)}{σ:St}{H:Hp}{s:Shared}{Q:VK}{us:List Value}{vs:List V}(M:Mk X.K C f)(F:hJ X.prog X.w X.K X.mg X.base CX k f fd ps sp)(hr:dF (k+1) X.A)(hb:Binds X.K fd ps ds)(hd:Vals dvs ds) (hx:Passes CX X E)(I:Inv X pins σ H s)(r:Vals vs us) (h:∀x dx,H x=none->H dx=none->dx≠x->sp (.ref x::(vs++dvs)) (upd (upd H dx (.own x)) x (.ins C dx [])) (fun v H2=>v= .cG/\Q (.ref x) H2) E): wpAny (model X.prog X.w) X.A (call (.ref C) us) (EP X pins σ Q) X.xe s:=by
  have hq:=h (s.heap.objs.size+1) s.heap.objs.size (I.hok.fresh (Nat.le_succ _)) (I.hok.fresh (Nat.le_refl _)) (Nat.ne_of_lt (Nat.lt_succ_self _));have I2:=Inv.made (C:=C) I;have r2:Vals (V.ref (s.heap.objs.size+1)::(vs++dvs)) (Value.ref (s.heap.objs.size+1)::(us++ds)):=.cons rfl (r.append hd);have hl:(Value.ref (s.heap.objs.size+1)::us++ds).length=ps.length:=by have e:=r2.length;rw[F.len _ _ _ _ hq]at e;exact e.symm
  refine wpAny_call (vn (f:=f) I.oQ M.makes M.init (beq_iff_eq.mp M.fn) (codeAny_mono (F.run _ X.stack _ _ ⟨Value.ref (s.heap.objs.size+1)::us,[]⟩ (Value.ref (s.heap.objs.size+1)::(us++ds)) _ _ E (hr.make C us []) (I2.G0.make C us []) (hb _ (Value.ref (s.heap.objs.size+1)::us) I2.oQ hl) r2 hq) fun r s' hq'=>?_));cases r with |error e=>exact hx pins σ _ _ e s' I2 hq' |ok fl=>cases fl with |ret u=>obtain⟨v,H',I3,rv,ev,q3⟩:=I2.after hq';subst ev;exact⟨rv,⟨V.ref (s.heap.objs.size+1),H',I3,rfl,q3⟩⟩ |next=>exact False.elim hq' |brk=>exact False.elim hq' |cont=>exact False.elim hq'
theorem zO(M:Mk X.K C f)(F:hJ X.prog X.w X.K X.mg X.base CX k f fd ps sp)(hr:dF (k+1) X.A)(hg:Gl X x)(hm:X.mg x=some (.ref C))(hb:Binds X.K fd ps ds)(hd:Vals dvs ds)(hx:Passes CX X E) (ha:PA X (e::es) t)(hdb:(x==("__debug__":Str))=false:=by decide)(he:starEach (e::es) X.env=(false,eval e X.env)::starEach es X.env:=by rfl)(hpl:(backTo pos (starEach es X.env)).any (·.1)=false:=by rfl): PE X (.Call (.Name x p) (e::es) [] pos) (G2 C sp dvs E t):=by intro pins s σ H Q I h;refine wpAny_Call_Name_kw (lZ I hg hm ?_ hdb);refine PySem.W.callWith_K (h₀:=X.base) I.ok.mod.kin M.kp (cn (ha pos pins s σ H _ I h) fun us s1 ⟨vs,H1,I1,r,q⟩=>⟨I1.oQ,?_⟩) he hpl;exact vq M F hr hb hd hx I1 r q
end
section
variable {X:Cx}{CX:vo}{k:Nat}{f C:Addr}{fd:FuncData}{ps ks:List Str}{sp:Sp}{E:XK}{x m:Str}{p pos apos kpos:Pos}{e o:Expr}{es:List Expr}{kws:List Keyword}{te ta:TE}{t tk:TA}{nm:Option Str}
variable {g:List Value->List Value->List Value}{gV:List V->List V->List V}
end
structure aH(N P:List Str)(sc:Scope):Prop where
 kind:sc.kind= .function
 co:sc.isCoroutine=false
 gen:sc.isGenerator=false
 nd:N.Nodup
 pre:N.take P.length=P
 par:∀x∈P,sc.names.lookup x=some .local\/sc.names.lookup x=some .cell
 nofree:∀y∈sc.names,y.2≠ .free
theorem lB{kindOf:Str->Option NameKind}{x:Str}:∀{binds:List (Str×Value)}{m:Str->Option Value},(∀v,(x,v)∉binds)->bindL kindOf binds m x=m x
  |[],_,_=>rfl |(n,v)::r,m,h=>by
    unfold bindL;rw[lB fun w hw=>h w (List.mem_cons_of_mem _ hw)];split
    · have:x≠n:=by rintro rfl;exact h v List.mem_cons_self
      simp[this]
    ·rfl
theorem lC{kindOf:Str->Option NameKind}{x:Str}:∀{binds:List (Str×Value)}{m:Str->Option Value},(∀v,(x,v)∉binds)->bindC kindOf binds m x=m x
  |[],_,_=>rfl |(n,v)::r,m,h=>by
    unfold bindC;rw[lC fun w hw=>h w (List.mem_cons_of_mem _ hw)];split
    ·rfl
    · have:x≠n:=by rintro rfl;exact h v List.mem_cons_self
      simp[this]
theorem lD{kindOf:Str->Option NameKind}{x:Str}{v:Value}:∀{P:List Str}{vs:List Value}{i:Nat}{m:Str->Option Value},P.Nodup->P[i]? =some x->vs[i]? =some v->kindOf x=some .local->bindL kindOf (P.zip vs) m x=some v |[],_,_,_,_,h,_,_=>by simp at h |_::_,[],_,_,_,_,h,_=>by simp at h |p::P,w::vs,0,m,nd,h1,h2,hk=>by simp at h1 h2;subst h1;subst h2;show bindL kindOf ((p,w)::P.zip vs) m p=_;unfold bindL;rw[lB fun v hv=>(List.nodup_cons.mp nd).1 (List.of_mem_zip hv).1,if_pos hk];simp |p::P,w::vs,i+1,m,nd,h1,h2,hk=>by show bindL kindOf ((p,w)::P.zip vs) m x=_;unfold bindL;exact lD (i:=i) (List.nodup_cons.mp nd).2 (by simpa using h1) (by simpa using h2) hk
theorem lE{kindOf:Str->Option NameKind}{x:Str}{v:Value}:∀{P:List Str}{vs:List Value}{i:Nat}{m:Str->Option Value},P.Nodup->P[i]? =some x->vs[i]? =some v->kindOf x≠some .local->bindC kindOf (P.zip vs) m x=some v |[],_,_,_,_,h,_,_=>by simp at h |_::_,[],_,_,_,_,h,_=>by simp at h |p::P,w::vs,0,m,nd,h1,h2,hk=>by simp at h1 h2;subst h1;subst h2;show bindC kindOf ((p,w)::P.zip vs) m p=_;unfold bindC;rw[lC fun v hv=>(List.nodup_cons.mp nd).1 (List.of_mem_zip hv).1,if_neg hk];simp |p::P,w::vs,i+1,m,nd,h1,h2,hk=>by show bindC kindOf ((p,w)::P.zip vs) m x=_;unfold bindC;exact lE (i:=i) (List.nodup_cons.mp nd).2 (by simpa using h1) (by simpa using h2) hk
def start(N:List Str)(vs:List V):St:=vs.map some++List.replicate (N.length-vs.length) none
def m6(CX:vo)(P:Program)(w:World)(K:PySem.W.Frag)(mg:Str->Option Value)(base:Heap)(N:List Str)(qual:Str)(scope:Scope)(f:Addr)(cd:Value)(A:Around)(outer:List Env)(s:Shared)(H:Hp)(E:XK):Cx where
 prog:=P
 w:=w
 K:=K
 mg:=mg
 base:=base
 A:=A.deeper (envOfC qual scope s.heap.objs.size f cd)
 N:=N
 s₀:=s
 H₀:=H
 env:=envOfC qual scope s.heap.objs.size f cd
 outer:=outer
 stack:=envOfC qual scope s.heap.objs.size f cd::outer
 ex:=[]
 calm:=true
 fn:=fun _=>true
 pn:=[]
 xe:=fun e s'=>wpAny (model P w) (A.deeper (envOfC qual scope s.heap.objs.size f cd)) (leaving (envOfC qual scope s.heap.objs.size f cd) e) (fun _ s''=>CX outer H s E e s'') (fun e' s''=>CX outer H s E e' s'') s'
theorem nE{sc:Scope}{n:Nat}{x:Str}(h:sc.names.lookup x=some .cell):∃c,(cellsFrom n sc.names []).lookup x=some c:=by have q:=PySem.W.cellsFrom_some sc.names n [] (.inl h);exact Option.isSome_iff_exists.mp q
theorem tV{CX:vo}{P:Program}{w:World}{K:PySem.W.Frag}{mg:Str->Option Value}{base:Heap}{N ps:List Str}{qual:Str}{scope:Scope}{f:Addr}{cd:Value}{A:Around}{outer:List Env}{s s1:Shared}{H:Hp}{E:XK}{us:List Value}{vs:List V} (S:aH N ps scope)(hd:A.handled=none)(e0:pf P w K mg base A outer s H)(hl:vs.length=ps.length)(r:Vals vs us) (x:InCallC s s.heap.objs.size (bindL (envOfC qual scope s.heap.objs.size f cd).kindOf (ps.zip us) fun _=>none) (cellsFrom (s.heap.objs.size+1) scope.names []) (bindC (envOfC qual scope s.heap.objs.size f cd).kindOf (ps.zip us) fun _=>none) s1): Inv (m6 CX P w K mg base N qual scope f cd A outer s H E) [] (start N vs) H s1:=by
  have hpl:ps.length<=N.length:=by have:=congrArg List.length S.pre;rw[List.length_take]at this;omega
  obtain⟨h1,tk,rfl,hk⟩:=x.done;have noA:∀b:Addr,b∉(m6 CX P w K mg base N qual scope f cd A outer s H E).ex:=fun b z=>absurd (show b∈([]:List Addr)from z) (by simp);refine⟨⟨e0.mod,S.kind,rfl,rfl,Nat.le_refl _,fun y z c h1 h2=>?_,fun y hy=>?_,fun y c _ h=>?_,fun _=>hd,Around.frames_deeper e0.frames,.inr ⟨rfl,rfl⟩,fun b z=>absurd z (noA b),e0.bs,e0.bsz,fun b _ _=>noA b,fun b z=>absurd z (noA b),e0.j8,e0.frf⟩,rfl,e0.bare,Un.kept hk,⟨_,x.toInCall.ns,fun i y v h1 h2 h3=>?_⟩,fun y c h=>⟨_,x.cell y c h⟩,e0.hok.fresh (Nat.le_refl _),fun y c h=>?_,fun p hp=>absurd (show p∈([]:List (Addr×Obj))from hp) (by simp),e0.hok.kept hk,?_⟩
  ·exact name_of_addr x.apart (PySem.mem_of_lookup h1) (PySem.mem_of_lookup h2)
  · have hy:scope.names.lookup y=some .cell\/scope.names.lookup y=some .free:=hy
    rcases hy with hy|hy
    ·exact nE hy
    ·exact absurd rfl (S.nofree _ (PySem.mem_of_lookup hy))
  ·exact Nat.le_of_lt (x.above y c (PySem.mem_of_lookup h))
  · have hi:i<vs.length:=by
      unfold start at h2;by_cases hi:i<vs.length
      ·exact hi
      · rw[List.getElem?_append_right (by simpa using hi)]at h2
        rw[List.getElem?_replicate]at h2;split at h2<;>cases h2
    have ha:vs[i]? =some v:=by unfold start at h2;rw[List.getElem?_append_left (by simpa using hi),List.getElem?_map]at h2;cases e:vs[i]? with |none=>rw[e]at h2;cases h2 |some a=>rw[e]at h2;cases h2;rfl
    obtain⟨u,hu,rv⟩:=r.get ha;have hp:ps[i]? =some y:=by rw[<-S.pre,List.getElem?_take_of_lt (by omega)];exact h1
    have ndP:ps.Nodup:=by rw[<-S.pre];exact S.nd.sublist (List.take_sublist _ _)
    refine⟨u,rv,?_⟩;rcases S.par y (List.mem_of_getElem? hp)with k|k
    ·exact .inl ⟨k,lD ndP hp hu k⟩
    · obtain⟨c,e⟩:=nE (n:=s.heap.objs.size+1) k
      refine .inr ⟨.inl k,c,e,?_⟩;have q:=x.cell y c e;rw[lE ndP hp hu (by show scope.names.lookup y≠_;rw[k];decide)]at q;exact q
  ·exact e0.hok.fresh (Nat.le_of_lt (x.above y c (PySem.mem_of_lookup h)))
  · unfold start
    show _=N.length;rw[List.length_append,List.length_map,List.length_replicate];omega
theorem G3{CX:vo}{P:Program}{w:World}{K:PySem.W.Frag}{mg:Str->Option Value}{base:Heap}{k:Nat}{f:Addr}{name qual:Str}{params:Arguments}{body:List Stmt}{scope:Scope}{dV kV doc pm cdv ct oc:Value}{an od:Option Addr} {osl:Array (Option Value)}{N ps:List Str}{sp:Sp}(lk:K.lookup f=some ⟨oc,od,.func (PySem.W.fnOf name qual params body scope dV kV doc pm an cdv ct),osl⟩)(hcd:PySem.W.codeIn K cdv qual=true)(S:aH N ps scope) (len:∀vs H Q E,sp vs H Q E->vs.length=ps.length) (hbody:∀(A:Around)(outer:List Env)(s:Shared)(H:Hp)(vs:List V)(Q:VK)(E:XK),dF k (A.deeper (envOfC qual scope s.heap.objs.size f cdv))->sp vs H Q E->∃t,oS (m6 CX P w K mg base N qual scope f cdv A outer s H E) body t/\t {nx:=fun _ H'=>Q .cG H',rt:=Q} (start N vs) H): hJ P w K mg base CX (k+1) f (PySem.W.fnOf name qual params body scope dV kV doc pm an cdv ct) ps sp:=by
  refine⟨len,fun A outer s H args us vs Q E hr e0 hb r hsp=>?_⟩;have hl:=len _ _ _ _ hsp;have KX:K.In s.heap:=e0.mod.kin.keeps fun b o e=>(e0.bs b o e).1;have lim:s.heap.NoLimit:=e0.mod.nolimit.keeps fun b o e=>(e0.bs b o e).1;have hkind:∀y∈ps.zip us,scope.names.lookup y.1=some .local\/(scope.names.lookup y.1=some .cell/\((cellsFrom (s.heap.objs.size+1) scope.names []).lookup y.1).isSome=true):=fun⟨n,v⟩ hy=>by
   rcases S.par n (List.of_mem_zip hy).1 with q|q
   ·exact .inl q
   ·exact .inr ⟨q,PySem.W.cellsFrom_some _ _ _ (.inl q)⟩
  refine codeAny_call_function hr.depth (KX _ _ lk) rfl S.co S.gen rfl (PySem.W.codeRec_of KX hcd) (hb _ _ _ _ ?_);refine wpAny_newFunctionEnv_cells S.kind hkind fun env he s1 x=>?_;subst he;refine⟨lim.keeps x.toInCall.keep,codeAny_func ?_⟩;obtain⟨t,ht,hq⟩:=hbody A outer s H vs Q E (hr.deeper _) hsp;have I:Inv (m6 CX P w K mg base N qual scope f cdv A outer s H E) [] (start N vs) H s1:=tV S hr.hd e0 hl r x;refine wpAny_mono (ht [] s1 (start N vs) H _ I hq) (fun fl s' hs=>?_) fun e s' hs=>hs;have fin:∀{σ':St}{H':Hp}{v:V}{u:Value},Inv (m6 CX P w K mg base N qual scope f cdv A outer s H E) [] σ' H' s'->RelV v u->Q v H'->CE outer P w H s Q u s':=fun{σ' H' v u} J rv q=>⟨v,H',J.os,J.bare,J.base,J.hok,rv,q⟩;cases fl with |ret u=>obtain⟨v,σ',H',J,rv,q⟩:=hs;exact fin J rv q |next=>obtain⟨σ',H',J,q⟩:=hs;exact fin (v:=V.cG) (u:=Value.none) J rfl q |brk=>obtain⟨_,_,_,q⟩:=hs;exact False.elim q |cont=>obtain⟨_,_,_,q⟩:=hs;exact False.elim q
end L2
namespace L2
open PySem PySem.Spec PyProof.Rows
section
variable {X:Cx}{x:Str}{p pos:Pos}{e:Expr}{es:List Expr}{t:TA}{id T:String}{r:List V->Hp->VK->Prop}
def Jx(r:List V->Hp->VK->Prop)(t:TA):TE:=fun σ H Q=>t σ H fun vs H1=>r vs H1 Q
theorem ak(hc:cM X (.builtin id) r)(hg:Gl X x)(hm:X.mg x=none)(hv:bootBuiltins x=some (.builtin id))(ha:PA X (e::es) t)(hn:x≠"__name__":=by decide)(hdb:(x==("__debug__":Str))=false:=by decide) (he:starEach (e::es) X.env=(false,eval e X.env)::starEach es X.env:=by rfl)(hpl:(backTo pos (starEach es X.env)).any (·.1)=false:=by rfl):PE X (.Call (.Name x p) (e::es) [] pos) (Jx r t):=by intro pins s σ H Q I h;refine wpAny_Call_Name_kw (gk I hg hm hv ?_ hn hdb);exact PyProof.Rows.callWith_builtin1 (cn (ha pos pins s σ H _ I h) fun us s1 ⟨vs,H1,I1,r1,q1⟩=>hc pins s1 σ H1 vs us Q I1 r1 q1) he hpl
theorem bI(hc:cM X (.type T) r)(hg:Gl X x)(hm:X.mg x=none)(hv:bootBuiltins x=some (.type T))(ha:PA X (e::es) t)(hn:x≠"__name__":=by decide)(hdb:(x==("__debug__":Str))=false:=by decide) (he:starEach (e::es) X.env=(false,eval e X.env)::starEach es X.env:=by rfl)(hpl:(backTo pos (starEach es X.env)).any (·.1)=false:=by rfl):PE X (.Call (.Name x p) (e::es) [] pos) (Jx r t):=by intro pins s σ H Q I h;refine wpAny_Call_Name_kw (gk I hg hm hv ?_ hn hdb);exact PyProof.Rows.callWith_type1 (cn (ha pos pins s σ H _ I h) fun us s1 ⟨vs,H1,I1,r1,q1⟩=>hc pins s1 σ H1 vs us Q I1 r1 q1) he hpl
end
end L2
namespace HT
open PySem PyProof.Rows
section
open PySem.SeqAt
open PySem.AutoSeq1 (wpAny_loadPart')
open PySem.MeetsSeq PySem.MeetsSeq2 PySem.MeetsSeq3
end
section
variable {prog:Program}{w:World}{A:Around}{E:Value->Shared->Prop}{s:Shared}
def eQ(n d:Nat):Option Int->Nat |none=>d |some v=>if v<0 then(v+(n:Int)).toNat else min v.toNat n
theorem vt (n d:Nat):eQ n d none=d:=rfl
theorem qD(n d k:Nat):eQ n d (some (k:Int))=min k n:=by show(if(k:Int)<0 then((k:Int)+(n:Int)).toNat else min (k:Int).toNat n)=min k n;rw[if_neg (by omega),Int.toNat_natCast]
theorem D7(n d:Nat)(hd:d<=n)(o:Option Int):eQ n d o<=n:=by cases o with |none=>exact hd |some v=>
   show(if v<0 then(v+(n:Int)).toNat else min v.toNat n)<=n;by_cases hv:v<0
   ·rw[if_pos hv];omega
   ·rw[if_neg hv];exact Nat.min_le_right _ _
theorem qE(v:Int)(n d:Nat):(if v<0 then max (v+(n:Int)) 0 else min v (n:Int))=((eQ n d (some v):Nat):Int):=by
 show(if v<0 then max (v+(n:Int)) 0 else min v (n:Int))=(((if v<0 then(v+(n:Int)).toNat else min v.toNat n):Nat):Int);by_cases hv:v<0
 ·simp only[if_pos hv];omega
 ·simp only[if_neg hv];omega
theorem pj(lo hi:Option Int)(n:Nat):Builtin.Slice.sliceAdjust lo hi 1 (n:Int)=(((eQ n 0 lo:Nat):Int),((eQ n n hi:Nat):Int)):=by
 have h1:¬((1:Int)<0):=by omega
 unfold Builtin.Slice.sliceAdjust;simp only[h1,if_false];refine Prod.ext ?_ ?_
 ·cases lo with |none=>rfl |some v=>exact qE v n 0
 ·cases hi with |none=>rfl |some v=>exact qE v n n
theorem pk(i j:Nat):Builtin.Slice.slicePlaces (i:Int) (j:Int) 1=j-i:=by
 unfold Builtin.Slice.slicePlaces;have h1:(1:Int)>0:=by omega
 simp only[h1,if_true,Int.ediv_one];split<;>omega
theorem kl{v:Value}{o:Option Int}{Q:Option Int->Shared->Prop}(p:IsPart v o)(h:Q o s):wpAny (model prog w) A (Builtin.Slice.slicePartIndex v) Q E s:=by cases p with |none=>exact slicePart_none h |int i t=>exact slicePart_int h
theorem jf{sl:Addr}{vl vu:Value}{lo hi:Option Int}{n:Nat}{Q:Int×Int×Nat->Shared->Prop}(hs:s.heap.IsSliceOf sl vl vu .none)(pl:IsPart vl lo)(pu:IsPart vu hi) (h:Q (((eQ n 0 lo:Nat):Int),1,eQ n n hi-eQ n 0 lo) s):wpAny (model prog w) A (Builtin.Slice.sliceApplied (.ref sl) (pure (n:Int))) Q E s:=by obtain⟨os,hos,hcs,hds⟩:=id hs;unfold Builtin.Slice.sliceApplied Builtin.Slice.sliceFields;refine wpAny_bind (wpAny_bind (wpAny_field hos hds (x:=vl) rfl (wpAny_bind (wpAny_field hos hds (x:=vu) rfl (wpAny_bind (wpAny_field hos hds (x:=.none) rfl (wpAny_pure ?_)))))));refine wpAny_bind (slicePart_none ?_);show wpAny _ _ (if((1:Int)==0)=true then _ else _) _ _ s;rw[if_neg (by decide)];refine wpAny_bind (kl pl (wpAny_bind (kl pu (wpAny_bind (wpAny_pure ?_)))));show wpAny _ _ (match Builtin.Slice.sliceAdjust lo hi 1 (n:Int)with|(lo,hi)=>pure (lo,(1:Int),Builtin.Slice.slicePlaces lo hi 1)) _ _ s;rw[pj lo hi n];show wpAny _ _ (pure (((eQ n 0 lo:Nat):Int),(1:Int),Builtin.Slice.slicePlaces ((eQ n 0 lo:Nat):Int) ((eQ n n hi:Nat):Int) 1)) _ _ s;rw[pk];exact wpAny_pure h
theorem vv(xs:Array Value)(i k:Nat):((List.range k).filterMap fun(m:Nat)=>xs[((i:Int)+(m:Int)*1).toNat]?).toArray=((xs.toList.drop i).take k).toArray:=by
 have e:(fun(m:Nat)=>xs[((i:Int)+(m:Int)*1).toNat]?)=fun m=>xs[i+m]?:=by
  funext m;have:((i:Int)+(m:Int)*1).toNat=i+m:=by omega
  rw[this]
 rw[e];have:=pick_run xs i k;rw[List.filterMap_map]at this;have e2:((fun x=>xs[x]?)∘fun x=>i+x)=fun m=>xs[i+m]?:=rfl;rw[e2]at this;rw[this]
theorem iH{t sl:Addr}{items:Array Value}{vl vu:Value}{lo hi:Option Int}{Q:Value->Shared->Prop}(ht:IsTup s.heap t items)(hs:s.heap.IsSliceOf sl vl vu .none)(pl:IsPart vl lo)(pu:IsPart vu hi) (hw:¬(eQ items.size 0 lo=0/\eQ items.size items.size hi=items.size)) (h:Q (.ref s.heap.objs.size) {s with heap:=s.heap.push {cls:=.type "tuple",data:=.seq ((items.toList.drop (eQ items.size 0 lo)).take (eQ items.size items.size hi-eQ items.size 0 lo)).toArray}}) (hsz:items.size<=sizeLine):wpAny (model prog w) A (getItem (.ref t) (.ref sl)) Q E s:=by
  have htake:sizeOk (.seq ((items.toList.drop (eQ items.size 0 lo)).take (eQ items.size items.size hi-eQ items.size 0 lo)).toArray):=by show((items.toList.drop (eQ items.size 0 lo)).take (eQ items.size items.size hi-eQ items.size 0 lo)).toArray.size<=sizeLine;rw[List.size_toArray,List.length_take,List.length_drop,Array.length_toList];omega
  have hj:eQ items.size items.size hi<=items.size:=D7 _ _ (Nat.le_refl _) hi;obtain⟨os,hos,hcs,hds⟩:=id hs;have hTs:s.TypeIs (.ref sl) "slice":=⟨os,hos,hcs⟩;unfold getItem
  try with_reducible refine wpAny_holding ?_
  first|refine wpAny_bind (wpAny_pure ?_)|skip
  refine wpAny_bind (wpAny_sequenceKey ht.typeIs (by decide) ?_);refine wpAny_bind (wpAny_callSpecial?_slot (name:=Str.ofString "__getitem__") ht.typeIs PyProof.Rows.slot_tuple_getitem (wpAny_call_entry PyProof.Rows.slot_tuple_getitem ht.typeIs entry_tuple_getitem ?_ (args_tuple_getitem _ _)));show wpAny _ _ (Builtin.Tuple.tupleItemsOf (.ref t)>>=_) _ _ s;refine wpAny_bind (tupleItemsOf_ ht ?_);refine wpAny_bind (wpAny_typeOf hTs ?_);rw[if_pos (by decide)];refine wpAny_bind (jf hs pl pu ?_);have hno:¬((((eQ items.size 0 lo:Nat):Int)==0&&(1:Int)==1&&(eQ items.size items.size hi-eQ items.size 0 lo)==items.size)=true):=by intro q;rw[Bool.and_eq_true,Bool.and_eq_true]at q;have q1:((eQ items.size 0 lo:Nat):Int)=0:=eq_of_beq q.1.1;have q2:eQ items.size items.size hi-eQ items.size 0 lo=items.size:=eq_of_beq q.2;exact hw ⟨by omega,by omega⟩
  show wpAny _ _ (if(((eQ items.size 0 lo:Nat):Int)==0&&(1:Int)==1&&(eQ items.size items.size hi-eQ items.size 0 lo)==items.size)=true then _ else _) _ _ s;rw[if_neg hno,vv]
  first |exact wpAny_bind (m:=Builtin.Tuple.tupleExact _) (wpAny_newObj_type (wpAny_pure ⟨_,rfl,wpAny_pure h⟩) htake) |exact wpAny_bind (m:=Builtin.Tuple.tupleExact _) (wpAny_newObj_type (wpAny_bind (wpAny_pure (wpAny_pure ⟨_,rfl,wpAny_pure h⟩))) htake) |exact wpAny_bind (wpAny_bind (m:=Builtin.Tuple.tupleExact _) (wpAny_newObj_type (wpAny_pure (wpAny_pure ⟨_,rfl,wpAny_pure h⟩)) htake)) |exact wpAny_bind (wpAny_bind (m:=Builtin.Tuple.tupleExact _) (wpAny_newObj_type (wpAny_pure ⟨_,rfl,wpAny_pure h⟩) htake))
end
end HT
namespace L2
open PySem PySem.Spec PyProof.Rows
abbrev TO:=St->Hp->(Option Int->Hp->Prop)->Prop
def PO(X:Cx)(e:Option Expr)(t:TO):Prop:=∀(pins:List (Addr×Obj))(s:Shared)(σ:St)(H:Hp)(Q:Option Int->Hp->Prop),Inv X pins σ H s->t σ H Q->wpAny (model X.prog X.w) X.A (evalPart e X.env) (fun u s'=>∃o H',Inv X pins σ H' s'/\IsPart u o/\Q o H') X.xe s
def zP:TO:=fun _ H Q=>Q none H
inductive vw(Q:Option Int->Hp->Prop)(x:V)(H1:Hp):Prop |mk (i:_)(h0:x= .int i)(h1:Q (some i) H1):vw Q x H1
def G4(t:TE):TO:=fun σ H Q=>t σ H fun x H1=>vw Q x H1
section
variable {X:Cx}{e:Expr}{te:TE}{lo hi:Option Expr}{tl th:TO}{pos p2:Pos}
theorem m7:PO X none zP:=by intro pins s σ H Q I h;rw[evalPart_none];exact wpAny_pure ⟨none,H,I,.none,h⟩
theorem m8(h:PE X e te):PO X (some e) (G4 te):=by intro pins s σ H Q I hw;rw[evalPart_some];refine cn (h pins s σ H _ I hw) fun u s1 ⟨x,H1,I1,r1,q1⟩=>?_;obtain⟨i,rfl,q⟩:=q1;obtain⟨t,rfl⟩:=r1;exact⟨some i,H1,I1,.int i t,q⟩
def Ii(X:Cx)(r:V->Option Int->Option Int->Hp->VK->Prop):Prop:=∀(pins:List (Addr×Obj))(s:Shared)(σ:St)(H:Hp)(x:V)(v vl vu:Value)(lo hi:Option Int)(sl:Addr)(Q:VK),Inv X pins σ H s->RelV x v->s.heap.IsSliceOf sl vl vu .none->IsPart vl lo->IsPart vu hi->r x lo hi H Q->∃T id,typeLookup (.type T) "__getitem__"=pure (some (.builtin id))/\s.TypeIs v T/\wpAny (model X.prog X.w) X.A (getItem v (.ref sl)) (EP X pins σ Q) X.xe s
def JJ(r:V->Option Int->Option Int->Hp->VK->Prop)(te:TE)(tl th:TO):TE:=fun σ H Q=>te σ H fun x H1=>tl σ H1 fun l H2=>th σ H2 fun u H3=>r x l u H3 Q
theorem kn{r:V->Option Int->Option Int->Hp->VK->Prop}(hr:Ii X r)(he:PE X e te)(hl:PO X lo tl)(hu:PO X hi th):PE X (.Subscript e (.Slice lo hi none p2) pos) (JJ r te tl th):=by intro pins s σ H Q I h;refine Subscript_ (cn (he pins s σ H _ I h) fun v s1 ⟨x,H1,I1,r1,q1⟩=>?_);refine wpAny_Slice (cn (hl pins s1 σ H1 _ I1 q1) fun vl s2 ⟨l,H2,I2,pl,q2⟩=>cn (hu pins s2 σ H2 _ I2 q2) fun vu s3 ⟨u,H3,I3,pu,q3⟩=>?_);rw[evalPart_none];refine wpAny_pure ?_;have I4:Inv X pins σ H3 {s3 with heap:=s3.heap.push {cls:=.type "slice",data:=.fields #[vl,vu,.none]}}:=I3.kept (t':=s3.toks) fun b ob q=>Heap.get?_push_of_some _ q;obtain⟨T,id,hT,ht,hg⟩:=hr pins {s3 with heap:=s3.heap.push {cls:=.type "slice",data:=.fields #[vl,vu,.none]}} σ H3 x v vl vu l u s3.heap.objs.size Q I4 r1 (Heap.IsSliceOf.new ..) pl pu q3;show wpAny (model X.prog X.w) X.A (subscriptTail e (.Slice lo hi none p2) v (.ref s3.heap.objs.size)) (EP X pins σ Q) X.xe {s3 with heap:=s3.heap.push {cls:=.type "slice",data:=.fields #[vl,vu,.none]}};exact tail_any (ops:=[.ref s3.heap.objs.size,v]) ht hT hg (by with_unfolding_all rfl)
def ko(xs:List V)(lo hi:Option Int):List V:=(xs.drop (HT.eQ xs.length 0 lo)).take (HT.eQ xs.length xs.length hi-HT.eQ xs.length 0 lo)
theorem jC(xs:List V)(lo hi:Option Int):(ko xs lo hi).length<=xs.length:=by unfold ko;rw[List.length_take,List.length_drop];omega
inductive Bf(K:PySem.W.Frag)(x:V)(lo:Option Int)(hi:Option Int)(H:Hp)(Q:VK):Prop |mk (a:_)(xs:_)(h0:x= .ref a)(h1:bG K H a xs)(h2:¬(HT.eQ xs.length 0 lo=0/\HT.eQ xs.length xs.length hi=xs.length))(h3:∀p,H p=none->Q (.ref p) (upd H p (.tup (ko xs lo hi)))):Bf K x lo hi H Q
def IP(K:PySem.W.Frag):V->Option Int->Option Int->Hp->VK->Prop:=fun x lo hi H Q=>Bf K x lo hi H Q
theorem D8:Ii X (IP X.K):=by
 intro pins s σ H x v vl vu lo hi sl Q I rx hs pl pu h;obtain⟨a,xs,rfl,hx,hw,q⟩:=h;cases rx;obtain⟨its,r,ht,hz⟩:=I.tuple hx;have hlen:its.toArray.size=xs.length:=by rw[List.size_toArray];exact r.length.symm
 refine⟨"tuple",_,PyProof.Rows.slot_tuple_getitem.lookup,ht.typeIs,?_⟩;refine HT.iH ht hs pl pu (by rw[hlen];exact hw) ?_ (by rw[hlen];exact hz);rw[hlen];refine⟨.ref s.heap.objs.size,_,I.laid (t':=s.toks) (o:=.tup (ko xs lo hi)) (fun b ob q=>Heap.get?_push_of_some _ q) (Nat.le_refl _) ?_,rfl,q _ (I.hok.fresh (Nat.le_refl _))⟩;exact⟨Nat.le_trans (jC xs lo hi) hz,_,(r.drop (HT.eQ xs.length 0 lo)).take (HT.eQ xs.length xs.length hi-HT.eQ xs.length 0 lo),IsTup.new _ _⟩
end
end L2
namespace L2
open PySem PySem.Spec PyProof.Rows
def oT(n:Nat)(i:Int):Option Nat:=if 0<=i then(if i<n then some i.toNat else none)else if-(n:Int)<=i then some (i+n).toNat else none
def jJ{α:Type}(xs:List α)(i:Int):Option α:=(oT xs.length i).bind fun j=>xs[j]?
theorem qF{n:Nat}{i:Int}{j:Nat}(h:oT n i=some j):seqIndex? i n=some j/\j<n/\-(n:Int)<=i/\i<n:=by
 unfold oT at h;by_cases h0:0<=i
 · rw[if_pos h0]at h
   by_cases h1:i<n
   · rw[if_pos h1]at h
     have e:i.toNat=j:=Option.some.inj h;exact⟨by rw[seqIndex_of h0 h1,e],by omega,by omega,h1⟩
   ·rw[if_neg h1]at h;cases h
 · rw[if_neg h0]at h
   by_cases h1:-(n:Int)<=i
   · rw[if_pos h1]at h
     have e:(i+n).toNat=j:=Option.some.inj h;exact⟨by rw[seqIndex_neg (by omega) h1,e],by omega,h1,by omega⟩
   ·rw[if_neg h1]at h;cases h
theorem qG{α:Type}{xs:List α}{i:Int}{v:α}(h:jJ xs i=some v):∃j,seqIndex? i xs.length=some j/\xs[j]? =some v/\j<xs.length/\-(xs.length:Int)<=i/\i<xs.length:=by unfold jJ at h;cases e:oT xs.length i with |none=>rw[e]at h;cases h |some j=>rw[e]at h;obtain⟨h1,h2,h3,h4⟩:=qF e;exact⟨j,h1,h,h2,h3,h4⟩
theorem zQ{α:Type}{xs:List α}{j:Nat}{v:α}(h:xs[j]? =some v):jJ xs (j:Int)=some v:=by
 have hj:j<xs.length:=(List.getElem?_eq_some_iff.mp h).1;have e:oT xs.length (j:Int)=some j:=by unfold oT;rw[if_pos (by omega),if_pos (by omega)];simp
 unfold jJ;rw[e];exact h
def zR(b:Expr):Prop:=∀o i,subscripted b false o i=operate [o,i] (getItem o i)
def Bg(X:Cx)(r:R2):Prop:=∀(value slice:Expr)(pins:List (Addr×Obj))(s:Shared)(σ:St)(H:Hp)(x y:V)(v u:Value)(Q:VK),Inv X pins σ H s->RelV x v->RelV y u->r x y H Q->subscripted slice false v u=operate [v,u] (getItem v u)->wpAny (model X.prog X.w) X.A (subscriptTail value slice v u) (EP X pins σ Q) X.xe s
def Jy(X:Cx)(id:String)(r:V->List V->Hp->VK->Prop):Prop:=∀(pins:List (Addr×Obj))(s:Shared)(σ:St)(H:Hp)(x:V)(xs:List V)(v:Value)(us:List Value)(Q:VK),Inv X pins σ H s->RelV x v->Vals xs us->r x xs H Q->wpAny (model X.prog X.w) X.A (call (.builtin id) (v::us)) (EP X pins σ Q) X.xe s
section
variable {X:Cx}{a b:Expr}{ta tb:TE}{pos:Pos}
theorem Bg.or{r r':R2}(h:Bg X r)(h':Bg X r'):Bg X (fun x y H Q=>r x y H Q\/r' x y H Q):=by
 intro value slice pins s σ H x y v u Q I rx ry q hs;rcases q with q|q
 ·exact h value slice pins s σ H x y v u Q I rx ry q hs
 ·exact h' value slice pins s σ H x y v u Q I rx ry q hs
theorem aM{r:R2}(hr:Bg X r)(ha:PE X a ta)(hb:PE X b tb)(hs:zR b):PE X (.Subscript a b pos) (Ih r ta tb):=by intro pins s σ H Q I h;exact Subscript_ (CZ ha hb I h fun v u s2 x y H2 I2 rx ry q=>hr a b pins s2 σ H2 x y v u Q I2 rx ry q (hs _ _))
inductive Bh(K:PySem.W.Frag)(x:V)(y:V)(H:Hp)(Q:VK):Prop |mk (p:_)(xs:_)(i:_)(v:_)(h0:x= .ref p)(h1:y= .int i)(h2:bc K H p xs)(h3:jJ xs i=some v)(h4:Q v H):Bh K x y H Q
def G5(K:PySem.W.Frag):R2:=fun x y H Q=>Bh K x y H Q
inductive Bi(K:PySem.W.Frag)(x:V)(y:V)(H:Hp)(Q:VK):Prop |mk (p:_)(xs:_)(i:_)(v:_)(h0:x= .ref p)(h1:y= .int i)(h2:bG K H p xs)(h3:jJ xs i=some v)(h4:Q v H):Bi K x y H Q
def G6(K:PySem.W.Frag):R2:=fun x y H Q=>Bi K x y H Q
theorem zS:Bg X (G5 X.K):=by
 intro value slice pins s σ H x y v u Q I rx ry h hs;obtain⟨p,xs,i,z,rfl,rfl,hq,he,q⟩:=h;cases rx;obtain⟨t,rfl⟩:=ry;obtain⟨its,r,pl,hz⟩:=I.list hq;obtain⟨j,h1,h2,h3,h4,h5⟩:=qG he;obtain⟨w,ew,rw'⟩:=r.get h2;have hl:=r.length;have hn:=jc;have fin:EP X pins σ Q w s:=⟨z,H,I,rw',q⟩;by_cases h0:0<=i
 · have hj:i.toNat=j:=by rw[seqIndex_of h0 h5]at h1;exact Option.some.inj h1
   exact item_listR pl.isList h0 (by omega) (by rw[hj];simpa using ew) fin hs
 · have hj:(i+(its.toArray.size:Int)).toNat=j:=by rw[seqIndex_neg (by omega) h4]at h1;rw[List.size_toArray,<-hl];exact Option.some.inj h1
   exact subscriptTail_builtinR (x:=w) pl.isList.typeIs slot_list_getitem.lookup (wpAny_getItem_list_neg (Q:=fun r s'=>r=w/\EP X pins σ Q r s') pl.isList (by omega) (by rw[List.size_toArray]<;>omega) (by omega) (by rw[hj];simpa using ew) ⟨rfl,fin⟩) hs
theorem D9:Bg X (G6 X.K):=by intro value slice pins s σ H x y v u Q I rx ry h hs;obtain⟨p,xs,i,z,rfl,rfl,hq,he,q⟩:=h;cases rx;obtain⟨t,rfl⟩:=ry;obtain⟨its,r,pl,hz⟩:=I.tuple hq;obtain⟨j,h1,h2,h3,h4,h5⟩:=qG he;obtain⟨w,ew,rw'⟩:=r.get h2;have hl:=r.length;have hn:=jc;have fin:EP X pins σ Q w s:=⟨z,H,I,rw',q⟩;exact subscriptTail_builtinR (x:=w) pl.typeIs slot_tuple_getitem.lookup (getItem_tuple (j:=j) (Q:=fun r s'=>r=w/\EP X pins σ Q r s') pl (by omega) (by omega) (by rw[List.size_toArray,<-hl];exact h1) (by simpa using ew) ⟨rfl,fin⟩) hs
theorem pA(its:List Value)(n j:Nat)(u:Value):Obj.mapSeq (·.setIfInBounds j u) {cls:=.type "list",data:=.seq its.toArray n}={cls:=.type "list",data:=.seq (its.set j u).toArray n}:=by simp[Obj.mapSeq]
theorem Inv.lst{pins:List (Addr×Obj)}{σ:St}{H:Hp}{s:Shared}{p:Addr}{xs:List V}(I:Inv X pins σ H s)(h:H p=some (.lst xs)): ∃(its:List Value)(n:Nat),Vals xs its/\s.heap.get? p=some {cls:=.type "list",data:=.seq its.toArray n}/\xs.length<=sizeLine:=by obtain⟨z,its,n,r,e⟩:=I.hok p _ h;exact⟨its,n,r,e,z⟩
theorem Inv.De{pins:List (Addr×Obj)}{σ:St}{H:Hp}{s:Shared}{p:Addr}{xs ys:List V}{its its':List Value}{n n':Nat}{f:Obj->Obj}(I:Inv X pins σ H s)(h:H p=some (.lst xs)) (ho:s.heap.get? p=some {cls:=.type "list",data:=.seq its.toArray n})(hf:f {cls:=.type "list",data:=.seq its.toArray n}={cls:=.type "list",data:=.seq its'.toArray n'})(r:Vals ys its')(hz:ys.length<=sizeLine)(t:Nat): Inv X pins σ (upd H p (.lst ys)) {s with heap:=s.heap.update p f,toks:=t}:=by
  have e:(s.heap.update p f).get? p=some {cls:=.type "list",data:=.seq its'.toArray n'}:=by rw[Heap.get?_update_self f ho (by rw[hf]<;>rfl),hf]
  refine I.write (x:=p) (e:=p) (by rw[h];trivial) (.inl rfl) (fun b u hb q=>(Heap.get?_update_other _ _ (Ne.symm hb)).trans q) ⟨_,e⟩ ?_;exact⟨hz,its',n',r,e⟩
inductive vx(o:V)(i:V)(v:V)(H:Hp)(Q:Hp->Prop):Prop |mk (p:_)(xs:_)(k:_)(j:_)(h0:o= .ref p)(h1:i= .int k)(h2:H p=some (.lst xs))(h3:oT xs.length k=some j)(h4:Q (upd H p (.lst (xs.set j v)))):vx o i v H Q
def G7:V->V->V->Hp->(Hp->Prop)->Prop:=fun o i v H Q=>vx o i v H Q
theorem set_list:FP X G7:=by
 intro pins s σ H o i v ov iv u Q I ro ri rv h;obtain⟨p,xs,k,j,rfl,rfl,hp,hj,q⟩:=h;cases ro;obtain⟨t,rfl⟩:=ri;obtain⟨its,n,r,ho,hz⟩:=I.lst hp;obtain⟨h1,h2,h3,h4⟩:=qF hj;have hl:=r.length;have hn:=jc;have I':Inv X pins σ (upd H p (.lst (xs.set j v))) {s with heap:=s.heap.update p (Obj.mapSeq (·.setIfInBounds j u))}:=I.De hp ho (pA its n j u) (r.set rv j) (by rw[List.length_set];exact hz) s.toks;by_cases h0:0<=k
 · have hk:k.toNat=j:=by rw[seqIndex_of h0 h4]at h1;exact Option.some.inj h1
   exact PySem.W.ki_setAt ho h0 (by omega) (by rw[List.size_toArray,<-hl];exact h4) (by rw[hk];exact⟨_,I',q⟩)
 · have hk:(k+(its.toArray.size:Int)).toNat=j:=by rw[seqIndex_neg (by omega) h3]at h1;rw[List.size_toArray,<-hl];exact Option.some.inj h1
   exact PySem.W.ki_setBack ho (by omega) (by rw[List.size_toArray,<-hl];exact h3) (by omega) (by rw[hk];exact⟨_,I',q⟩)
theorem m9(lo hi:Option Int)(n:Nat):(sliceBounds lo hi none n).1=((HT.eQ n 0 lo:Nat):Int)/\(sliceBounds lo hi none n).2.1=((HT.eQ n n hi:Nat):Int)/\(sliceBounds lo hi none n).2.2=1:=by
 refine⟨?_,?_,rfl⟩
 ·cases lo with |none=>simp[sliceBounds,HT.eQ] |some i=>
     simp only[sliceBounds,HT.eQ,Option.getD_none,show(1:Int)>0 by decide,if_true];by_cases h:i<0
     ·simp only[h,if_true]<;>omega
     ·simp only[h,if_false]<;>omega
 ·cases hi with |none=>simp[sliceBounds,HT.eQ] |some i=>
     simp only[sliceBounds,HT.eQ,Option.getD_none,show(1:Int)>0 by decide,if_true];by_cases h:i<0
     ·simp only[h,if_true]<;>omega
     ·simp only[h,if_false]<;>omega
theorem kO(its:List Value)(lo hi:Option Int):slicePick its.toArray lo hi none=((its.drop (HT.eQ its.length 0 lo)).take (HT.eQ its.length its.length hi-HT.eQ its.length 0 lo)).toArray:=by obtain⟨h1,h2,h3⟩:=m9 lo hi its.toArray.size;unfold slicePick;rw[h1,h2,h3];simp only[sliceRange_one,pick_run,List.size_toArray]<;>rfl
inductive Bj(K:PySem.W.Frag)(x:V)(lo:Option Int)(hi:Option Int)(H:Hp)(Q:VK):Prop |mk (a:_)(xs:_)(h0:x= .ref a)(h1:bc K H a xs)(h2:∀p,H p=none->Q (.ref p) (upd H p (.lst (ko xs lo hi)))):Bj K x lo hi H Q
def IQ(K:PySem.W.Frag):V->Option Int->Option Int->Hp->VK->Prop:=fun x lo hi H Q=>Bj K x lo hi H Q
theorem zT:Ii X (IQ X.K):=by intro pins s σ H x v vl vu lo hi sl Q I rx hs pl pu h;obtain⟨a,xs,rfl,hx,q⟩:=h;cases rx;obtain⟨its,r,ht,hz⟩:=I.list hx;have hlen:=r.length;refine⟨"list",_,slot_list_getitem.lookup,ht.isList.typeIs,?_⟩;refine wpAny_getItem_list_slice ht.isList hs pl pu .none (by simp) ?_ (by rw[List.size_toArray]<;>omega);rw[kO,<-hlen];refine⟨.ref s.heap.objs.size,_,I.laid (t':=s.toks) (o:=.lst (ko xs lo hi)) (fun b ob q=>Heap.get?_push_of_some _ q) (Nat.le_refl _) ?_,rfl,q _ (I.hok.fresh (Nat.le_refl _))⟩;exact⟨Nat.le_trans (jC xs lo hi) hz,_,0,(r.drop (HT.eQ xs.length 0 lo)).take (HT.eQ xs.length xs.length hi-HT.eQ xs.length 0 lo),Heap.get?_push_size _ rfl⟩
theorem md:cM X (.builtin "len") (fun xs H Q=>∃p ys,xs=[.ref p]/\(bc X.K H p ys\/bG X.K H p ys)/\Q (.int ys.length) H):=by
 intro pins s σ H xs us Q I r h;obtain⟨p,ys,rfl,hq,q⟩:=h;obtain⟨u,rfl,rx⟩:=vals1 r;cases rx;have hn:=jc;rcases hq with hq|hq
 · obtain⟨its,r',pl,hz⟩:=I.list hq
   have hlen:=r'.length;exact Calls.call_len_list pl.isList (by simp only[List.size_toArray]<;>omega) ⟨.int ys.length,H,I.tok _,⟨s.toks+1,by rw[List.size_toArray,hlen]⟩,q⟩
 · obtain⟨its,r',pl,hz⟩:=I.tuple hq
   have hlen:=r'.length;exact len_tuple pl (by simp only[List.size_toArray]<;>omega) ⟨.int ys.length,H,I.tok _,⟨s.toks+1,by rw[List.size_toArray,hlen]⟩,q⟩
theorem me:cM X (.builtin "len") (fun xs H Q=>∃z,xs=[.str z]/\z.length<=sizeLine/\Q (.int z.length) H):=by intro pins s σ H xs us Q I r h;obtain⟨z,rfl,hz,q⟩:=h;obtain⟨u,rfl,t,rfl⟩:=vals1 r;have hn:=jc;exact len_str (by omega) ⟨.int z.length,H,I.tok _,⟨_,rfl⟩,q⟩
theorem cM.or{f:Value}{r r':List V->Hp->VK->Prop}(h:cM X f r)(h':cM X f r'):cM X f (fun xs H Q=>r xs H Q\/r' xs H Q):=by
 intro pins s σ H xs us Q I rs q;rcases q with q|q
 ·exact h pins s σ H xs us Q I rs q
 ·exact h' pins s σ H xs us Q I rs q
theorem mh:cM X (.type "list") (fun xs H Q=>∃p ys,xs=[.ref p]/\(bc X.K H p ys\/bG X.K H p ys)/\∀l,H l=none->Q (.ref l) (upd H l (.lst ys))):=by
 intro pins s σ H xs us Q I r h;obtain⟨p,ys,rfl,hq,q⟩:=h;obtain⟨u,rfl,rx⟩:=vals1 r;cases rx;have fin:∀(its:List Value),Vals ys its->ys.length<=sizeLine->∀(h':Heap)(c':Nat),(∀b o',s.heap.get? b=some o'->h'.get? b=some o')->h'.get? s.heap.objs.size=some {cls:=.type "list",dict:=none,data:=.seq its.toArray c',slots:=#[]}->EP X pins σ Q (.ref s.heap.objs.size) {s with heap:=h'}:=fun its r' hz h' c' kp e=>⟨.ref s.heap.objs.size,_,I.laid (t':=s.toks) kp (Nat.le_refl _) (show dh X.prog X.w _ h' _ (.lst ys)from⟨hz,its,c',r',e⟩),rfl,q _ (I.hok.fresh (Nat.le_refl _))⟩;rcases hq with hq|hq
 · obtain⟨its,r',pl,hz⟩:=I.list hq
   have hlen:=r'.length;obtain⟨o,ho,hc,n,hd⟩:=pl.isList;exact call_list_seq p (.inl rfl) ho hc hd (fun h' c' kp e=>fin its r' hz h' c' kp e) (by simp only[List.size_toArray]<;>omega)
 · obtain⟨its,r',pl,hz⟩:=I.tuple hq
   have hlen:=r'.length;obtain⟨o,ho,hc,n,hd⟩:=pl;exact call_list_seq p (.inr rfl) ho hc hd (fun h' c' kp e=>fin its r' hz h' c' kp e) (by simp only[List.size_toArray]<;>omega)
theorem kP:cM X (.type "tuple") (fun xs H Q=>∃p ys,xs=[.ref p]/\((bc X.K H p ys/\∀l,H l=none->Q (.ref l) (upd H l (.tup ys)))\/(bG X.K H p ys/\Q (.ref p) H))):=by
 intro pins s σ H xs us Q I r h;obtain⟨p,ys,rfl,h⟩:=h;obtain⟨u,rfl,rx⟩:=vals1 r;cases rx;rcases h with⟨hq,q⟩|⟨hq,q⟩
 · obtain⟨its,r',pl,hz⟩:=I.list hq
   have hlen:=r'.length;refine call_tuple_list pl.isList (fun h' kp=>?_) (by simp only[List.size_toArray]<;>omega);have I1:Inv X pins σ H {s with heap:=h'}:=I.kept (t':=s.toks) kp;have I2:Inv X pins σ (upd H h'.objs.size (.tup ys)) {s with heap:=h'.push {cls:=.type "tuple",data:=.seq its.toArray}}:=I1.laid (t':=s.toks) (fun b o e=>Heap.get?_push_of_some _ e) (Nat.le_refl _) (show dh X.prog X.w _ _ _ (.tup ys)from⟨hz,its,r',IsTup.new _ _⟩);exact⟨.ref h'.objs.size,_,I2,rfl,q _ (I1.hok.fresh (Nat.le_refl _))⟩
 · obtain⟨its,r',pl,hz⟩:=I.tuple hq
   exact call_tuple_same pl ⟨.ref p,H,I,rfl,q⟩
def IS(K:PySem.W.Frag)(T:String)(x:V)(H:Hp):Prop:=match x with | .str _=>T="str" | .int _=>T="int" | .ref p=>(T="list"/\∃xs,bc K H p xs)\/(T="tuple"/\∃o,K.lookup p=some o/\o.cls= .type "tuple"/\o.dict=none)\/ (T="dict"/\((∃kvs,H p=some (.dK kvs))\/∃kvs,H p=some (.dT kvs)))\/(T="set"/\∃S n,H p=some (.set S n)) |_=>False
theorem vy{pins:List (Addr×Obj)}{σ:St}{H:Hp}{s:Shared}{T:String}{x:V}{v:Value}(I:Inv X pins σ H s)(r:RelV x v)(ty:IS X.K T x H): s.TypeIs v T/\∀a,v= .ref a->∃ob,s.heap.get? a=some ob/\ob.dict=none:=by cases x with
  |str z=>obtain⟨t,rfl⟩:=r;cases(show T="str" from ty);exact⟨typeIs_str s z t,fun _ e=>nomatch e⟩ |int i=>obtain⟨t,rfl⟩:=r;cases(show T="int" from ty);exact⟨typeIs_int s i t,fun _ e=>nomatch e⟩ |ref p=>
    cases r;rcases ty with⟨rfl,xs,hq⟩|⟨rfl,o,hk,hc,hd⟩|⟨rfl,hk⟩|⟨rfl,S,n,hk⟩
    · obtain⟨its,_,pl,_⟩:=I.list hq
      refine⟨pl.isList.typeIs,fun a e=>?_⟩;cases e;obtain⟨o,n,e,c,hd,_⟩:=pl;exact⟨o,e,hd⟩
    · refine⟨⟨o,I.oQ p o hk,hc⟩,fun a e=>?_⟩
      cases e;exact⟨o,I.oQ _ o hk,hd⟩
    · have z:∃o,s.heap.get? p=some o/\o.ExactDict:=by
        rcases hk with⟨kvs,hk⟩|⟨kvs,hk⟩
        · obtain⟨_,_,_,_,o,_,_,e,ex,_⟩:=I.hok p _ hk
          exact⟨o,e,ex⟩
        · obtain⟨_,_,_,_,o,_,_,e,ex,_⟩:=I.hok p _ hk
          exact⟨o,e,ex⟩
      obtain⟨o,e,ex⟩:=z;refine⟨⟨o,e,ex.1⟩,fun a e2=>?_⟩;cases e2;exact⟨o,e,ex.2.1⟩
    · obtain⟨o,_,_,_,e,ex,_⟩:=I.hok p _ hk
      refine⟨⟨o,e,ex.1⟩,fun a e2=>?_⟩;cases e2;exact⟨o,e,ex.2.1⟩ |_=>exact False.elim ty
def Df(K:PySem.W.Frag)(T:String)(r:V->List V->Hp->VK->Prop)(to:TE):TE:=fun σ H Q=>to σ H fun x H1=>IS K T x H1/\r x [] H1 Q
def Ij(K:PySem.W.Frag)(T:String)(r:V->List V->Hp->VK->Prop)(to:TE)(t:TA):TE:=fun σ H Q=>to σ H fun x H1=>IS K T x H1/\t σ H1 fun xs H2=>r x xs H2 Q
variable {o e:Expr}{es:List Expr}{to:TE}{t:TA}{name:Str}{apos cpos:Pos}{T id:String}{r:V->List V->Hp->VK->Prop}
theorem vz(pa:PlainAttrs T)(slot:Slot T name id)(hty:typeOf (.builtin id)=pure (.type "method_descriptor"))(hm:Jy X id r)(ho:PE X o to) (hbase:attributeBase o name X.env (eval o X.env)=eval o X.env:=by rfl)(hline:(apos.endLine==cpos.line)=true:=by rfl):PE X (.Call (.Attribute o name apos) [] [] cpos) (Df X.K T r to):=by intro pins s σ H Q I h;refine wpAny_Call_method0_late hbase hline (cn (ho pins s σ H _ I h) fun v s1 ⟨x,H1,I1,r1,ty,q1⟩=>?_);obtain⟨h1,h2⟩:=vy I1 r1 ty;exact⟨T,id,pa,slot,hty,h1,h2,Calls.callWith_builtin rfl (PySem.evalArgs_none (hm pins s1 σ H1 x [] v [] Q I1 r1 .nil q1))⟩
theorem vB(pa:PlainAttrs T)(slot:Slot T name id)(hty:typeOf (.builtin id)=pure (.type "method_descriptor"))(hm:Jy X id r)(ho:PE X o to)(ha:PA X (e::es) t) (hbase:attributeBase o name X.env (eval o X.env)=eval o X.env:=by rfl) (hfew:((backTo cpos (starEach (e::es) X.env)).all (fun x=>!x.1)&&(backToKw cpos (keywordEach [] X.env)).all (fun x=>x.1.isSome) &&decide ((e::es).length+([]:List Keyword).length+(if([]:List Keyword).isEmpty then 0 else 1)<30))=true:=by rfl) (hline:(apos.endLine==cpos.line)=true:=by rfl)(hs:starEach (e::es) X.env=(false,eval e X.env)::starEach es X.env:=by rfl)(hplain:(backTo cpos (starEach es X.env)).any (·.1)=false:=by rfl): PE X (.Call (.Attribute o name apos) (e::es) [] cpos) (Ij X.K T r to t):=by intro pins s σ H Q I h;refine wpAny_Call_method_late hbase hfew hline rfl (cn (ho pins s σ H _ I h) fun v s1 ⟨x,H1,I1,r1,ty,q1⟩=>?_);obtain⟨h1,h2⟩:=vy I1 r1 ty;refine⟨T,id,pa,slot,hty,h1,h2,?_⟩;have hA:=ha cpos pins s1 σ H1 _ I1 q1;rw[hs]at hA⊢;refine Calls.callWith_builtin (by show(false||(backTo cpos (starEach es X.env)).any (·.1))=false;rw[hplain]<;>rfl) (Calls.evalArgs_plain ?_);exact cn hA fun us s2 ⟨vs,H2,I2,r2,q2⟩=>hm pins s2 σ H2 x vs v us Q I2 r1 r2 q2
end
end L2
namespace L2
open PySem PySem.Spec PyProof.Rows
def G8(X:Cx)(id:String)(r:V->List V->Hp->VK->Prop):Prop:=∀(pins:List (Addr×Obj))(s:Shared)(σ:St)(H:Hp)(x:V)(xs:List V)(v:Value)(us:List Value)(Q:VK),Inv X pins σ H s->RelV x v->Vals xs us->r x xs H Q->wpAny (model X.prog X.w) X.A (call (.builtin id) (v::us)) (EP X pins σ Q) X.xe s
theorem Vals.one:∀{x:V}{us:List Value},Vals [x] us->∃u,us=[u]/\RelV x u |_,_,.cons r .nil=>⟨_,rfl,r⟩
theorem Vals.zero:∀{us:List Value},Vals [] us->us=[] |_,.nil=>rfl
theorem Vals.eraseIdx:∀{xs:List V}{us:List Value}(i:Nat),Vals xs us->Vals (xs.eraseIdx i) (us.eraseIdx i) |_,_,_,.nil=>.nil |_,_,0,.cons _ t=>t |_,_,i+1,.cons r t=>.cons r (Vals.eraseIdx i t)
theorem Vals.reverse{xs:List V}{us:List Value}(h:Vals xs us):Vals xs.reverse us.reverse:=by induction h with |nil=>exact .nil |cons r t ih=>rw[List.reverse_cons,List.reverse_cons];exact Vals.append ih (.cons r .nil)
theorem lF{α:Type}:∀(l:List α)(i:Nat),(l.eraseIdx i).length<=l.length |[],_=>Nat.le_refl _ |_::_,0=>Nat.le_succ _ |_::r,i+1=>Nat.succ_le_succ (lF r i)
section
variable {X:Cx}{pins:List (Addr×Obj)}{σ:St}{H:Hp}{s:Shared}{l b:Addr}{xs ys zs:List V}
theorem Inv.vF{its its':List Value}{n:Nat}{f:Array Value->Array Value}{t':Nat}(I:Inv X pins σ H s)(hH:H l=some (.lst xs)) (e:s.heap.get? l=some {cls:=.type "list",data:=.seq its.toArray n})(hf:f its.toArray=its'.toArray)(hv:Vals ys its')(hz:ys.length<=sizeLine): Inv X pins σ (upd H l (.lst ys)) {s with heap:=s.heap.update l (Obj.mapSeq f),toks:=t'}:=by have q:=PySem.IsL.update e f;rw[hf]at q;refine I.write (x:=l) (e:=l) (by rw[hH];exact trivial) (.inl rfl) (fun b' u hb hu=>(Heap.get?_update_other s.heap (Obj.mapSeq f) (Ne.symm hb)).trans hu) ⟨_,q⟩ ?_;exact⟨hz,its',_,hv,q⟩
theorem Inv.G9{its:List Value}{t':Nat}(I:Inv X pins σ H s)(hv:Vals ys its)(hz:ys.length<=sizeLine): Inv X pins σ (upd H s.heap.objs.size (.lst ys)) {s with heap:=s.heap.push {cls:=.type "list",data:=.seq its.toArray},toks:=t'}:=I.laid (fun _ _ q=>Heap.get?_push_of_some _ q) (Nat.le_refl _) ⟨hz,its,0,hv,Heap.get?_push_size _ rfl⟩
theorem Inv.tX(I:Inv X pins σ H s)(hH:H l=some (.lst xs)):xs.length<=sizeLine/\∃(its:List Value)(n:Nat),Vals xs its/\xs.length=its.length/\s.heap.get? l=some {cls:=.type "list",data:=.seq its.toArray n}:=by obtain⟨z,its,n,r,e⟩:=I.hok l _ hH;exact⟨z,its,n,r,r.length,e⟩
theorem vG{n:Nat}(h:n<=sizeLine):Builtin.List.listTooLong n=false:=by unfold Builtin.List.listTooLong;exact decide_eq_false (by omega)
end
section
variable {X:Cx}
inductive nH(x:V)(vs:List V)(H:Hp)(Q:VK):Prop |mk (l:_)(xs:_)(y:_)(h0:x= .ref l)(h1:vs=[y])(h2:H l=some (.lst xs))(h3:xs.length<sizeLine)(h4:Q .cG (upd H l (.lst (xs++[y])))):nH x vs H Q
def qH:V->List V->Hp->VK->Prop:=fun x vs H Q=>nH x vs H Q
theorem jg:G8 X "list.append" qH:=by intro pins s σ H x vs v us Q I rx rv h;obtain⟨l,xs,y,rfl,rfl,hH,hz,q⟩:=h;cases rx;obtain⟨u,rfl,ru⟩:=rv.one;obtain⟨z,its,n,r,hl,e⟩:=I.tX hH;refine call_meets F.slot_list_append ⟨_,e,rfl⟩ F.entry_list_append (F.args_list_append_2 _ _) (PySem.list_append l its.toArray n u (by rw[List.size_toArray];omega)) ⟨e,?_⟩;refine⟨.cG,_,I.vF (its':=its++[u]) hH e (by simp) (r.append (.cons ru .nil)) ?_,rfl,q⟩;rw[List.length_append,List.length_singleton];omega
inductive nI(x:V)(vs:List V)(H:Hp)(Q:VK):Prop |mk (l:_)(b:_)(xs:_)(zs:_)(h0:x= .ref l)(h1:vs=[.ref b])(h2:H l=some (.lst xs))(h3:H b=some (.lst zs))(h4:xs.length+zs.length<=sizeLine)(h5:Q .cG (upd H l (.lst (xs++zs)))):nI x vs H Q
def qI:V->List V->Hp->VK->Prop:=fun x vs H Q=>nI x vs H Q
theorem tY:G8 X "list.extend" qI:=by
 intro pins s σ H x vs v us Q I rx rv h;obtain⟨l,b,xs,zs,rfl,rfl,hH,hB,hz,q⟩:=h;cases rx;obtain⟨u,rfl,ru⟩:=rv.one;cases ru;obtain⟨z,its,n,r,hl,e⟩:=I.tX hH;obtain⟨z2,its2,n2,r2,hl2,e2⟩:=I.tX hB;have hsz:its.toArray.size+its2.toArray.size<=sizeLine:=by rw[List.size_toArray,List.size_toArray];omega
 have hlong:¬(!its.toArray.isEmpty&&Builtin.List.listTooLong (its.toArray.size+its2.toArray.size))=true:=by rw[vG hsz,Bool.and_false];exact Bool.false_ne_true
 refine call_meets F.slot_list_extend ⟨_,e,rfl⟩ F.entry_list_extend (F.args_list_extend_2 _ _) (AutoSeq1.list_extend_list_list_0 l its.toArray n b its2.toArray n2 hlong (by rw[List.size_toArray];omega) (by omega)) ⟨e,e2,?_⟩;refine⟨.cG,_,I.vF (its':=its++its2) hH e (by simp) (r.append r2) ?_,rfl,q⟩;rw[List.length_append];omega
inductive qJ(x:V)(vs:List V)(H:Hp)(Q:VK):Prop |mk (l:_)(xs:_)(i:_)(k:_)(y:_)(h0:x= .ref l)(h1:vs=[.int i])(h2:H l=some (.lst xs))(h3:-(2^63)<=i)(h4:i<2^63)(h5:seqIndex? i xs.length=some k)(h6:xs[k]? =some y)(h7:Q y (upd H l (.lst (xs.eraseIdx k)))):qJ x vs H Q
def vI:V->List V->Hp->VK->Prop:=fun x vs H Q=>qJ x vs H Q
theorem vJ:G8 X "list.pop" vI:=by
 intro pins s σ H x vs v us Q I rx rv h;obtain⟨l,xs,i,k,y,rfl,rfl,hH,h1,h2,hk,hy,q⟩:=h;cases rx;obtain⟨u,rfl,ru⟩:=rv.one;obtain⟨t,rfl⟩:=ru;obtain⟨z,its,n,r,hl,e⟩:=I.tX hH;obtain⟨w,hw,rw'⟩:=r.get hy;refine call_meets F.slot_list_pop ⟨_,e,rfl⟩ F.entry_list_pop (F.args_list_pop_2 _ _) (MeetsSeq.list_pop_at l its.toArray n i t k w (fitsIndex_both h1 h2) (by rw[List.size_toArray,<-hl];exact hk) (by rw[<-Array.getElem?_toList];exact hw) (by rw[List.size_toArray];omega)) ⟨e,?_⟩;refine⟨y,_,I.vF (its':=its.eraseIdx k) hH e ?_ (r.eraseIdx k) ?_,rw',q⟩
 · show its.toArray.eraseIdxIfInBounds k=(its.eraseIdx k).toArray
   rw[List.eraseIdxIfInBounds_toArray]
 · have:=lF xs k
   omega
inductive lG(x:V)(vs:List V)(H:Hp)(Q:VK):Prop |mk (l:_)(xs:_)(h0:x= .ref l)(h1:vs=[])(h2:H l=some (.lst xs))(h3:Q .cG (upd H l (.lst xs.reverse))):lG x vs H Q
def nK:V->List V->Hp->VK->Prop:=fun x vs H Q=>lG x vs H Q
theorem pC:G8 X "list.reverse" nK:=by intro pins s σ H x vs v us Q I rx rv h;obtain⟨l,xs,rfl,rfl,hH,q⟩:=h;cases rx;have hus:=rv.zero;subst hus;obtain⟨z,its,n,r,hl,e⟩:=I.tX hH;refine call_meets F.slot_list_reverse ⟨_,e,rfl⟩ F.entry_list_reverse (F.args_list_reverse_1 _) (AutoSeq1.list_reverse_list_0 l its.toArray n (by rw[List.size_toArray];omega)) ⟨e,?_⟩;refine⟨.cG,_,I.vF (its':=its.reverse) hH e (by simp) r.reverse ?_,rfl,q⟩;rw[List.length_reverse];omega
inductive qK(x:V)(vs:List V)(H:Hp)(Q:VK):Prop |mk (l:_)(xs:_)(h0:x= .ref l)(h1:vs=[])(h2:H l=some (.lst xs))(h3:Q .cG (upd H l (.lst []))):qK x vs H Q
def vK:V->List V->Hp->VK->Prop:=fun x vs H Q=>qK x vs H Q
theorem vL:G8 X "list.clear" vK:=by intro pins s σ H x vs v us Q I rx rv h;obtain⟨l,xs,rfl,rfl,hH,q⟩:=h;cases rx;have hus:=rv.zero;subst hus;obtain⟨z,its,n,r,hl,e⟩:=I.tX hH;refine call_meets F.slot_list_clear ⟨_,e,rfl⟩ F.entry_list_clear (F.args_list_clear_1 _) (AutoSeq1.list_clear_list_0 l its.toArray n (by rw[List.size_toArray];omega)) ⟨e,?_⟩;exact⟨.cG,_,I.vF (its':=[]) (ys:=[]) hH e rfl .nil (Nat.zero_le _),rfl,q⟩
end
section
variable {prog:Program}{w:World}{A:Around}{E:Value->Shared->Prop}{s:Shared}
end
section
variable {X:Cx}
end
end L2
namespace Att
open PySem PySem.W PySem.Calls PyProof.Rows
theorem jK{P:Params}{h:Heap}:∀(ns:List Int)(vs:List Value),WellAll P h vs (ns.map WData.int)->IntsAre vs ns:=by intro ns;induction ns with |nil=>intro vs w;rw[List.map_nil]at w;cases w;exact .nil |cons n ns ih=>intro vs w;rw[List.map_cons]at w;cases w with |cons a b=>cases a;exact .cons _ _ (ih _ b)
theorem tZ{l:OpenLaw}{n:Nat}(hn:l.most=some n){P:Params}{h:Heap}{args:List WData}{vals:List Value} (hpre:l.row.toRowW.claim.pre args=true)(hwl:WellAll P h vals args): ∃a vs ns,vals=[Value.ref a]/\args=[WData.list (ns.map WData.int)]/\h.get? a=some {cls:=.type "list",data:=.seq vs.toArray}/\IntsAre vs ns/\ns.length<=n:=by
  have hsh:WShape.hasAll [] args [.list .int]=true:=(pre_splitW hpre).1;have hc:l.pre.holds [] {args:=args}=true:=(pre_splitW hpre).2;obtain⟨d,r,rfl,h1,h2⟩:=hasAllW_cons hsh;obtain rfl:=hasAllW_nil h2;obtain⟨xs,rfl,h3⟩:=hasW_list h1;obtain⟨ns,rfl⟩:=items_int h3;have hlen:ns.length<=n:=by
   unfold OpenLaw.pre at hc;have h4:(WTm.not (.lt (.lit (.int (n:Int))) (.len (.arg 0)))).holds [] {args:=[.list (ns.map .int)]}=true:=by have h4:=(holds_andW hc).1;rw[hn]at h4;exact h4
   have h5:=condW_of h4 (w_not (w_lt w_lit (w_len_list (w_arg rfl))));rw[List.length_map]at h5;refine Nat.le_of_not_lt fun q=>?_;have q':(n:Int)<((ns.length:Nat):Int):=by omega
   first |(rw[decide_eq_true q']at h5;exact absurd h5 (by decide)) |(simp at h5;omega)
  cases hwl with |cons w1 w2=>cases w2;cases w1 with |list ho hall=>exact⟨_,_,ns,rfl,rfl,ho,jK ns _ hall,hlen⟩
theorem u6(l:OpenLaw)(args:List WData):l.row.toRowW.claim.post args (.bool true) args=true:=postW_of (r:=l.row.toRowW) (X:=(true==true)) (show WShape.has [] (.bool true) .bool=true by first|rfl|decide|simp[WShape.has,WShape.arms,WShape.armsAll]) (show(WTm.eq .res (.lit (.bool true))).value [] {args:=args,res:=some (.bool true),after:=args}=some (.bool (true==true))from w_eq_bool (w_res rfl) w_lit) rfl
theorem nL{l:OpenLaw}{n:Nat}{q:Program}{loose:List Str}{XP:(Str->Option Value)->Heap->Prop}{YP:World->Heap->Prop}{d:DefRec} (hn:l.most=some n)(hdf:d.params.defaults=[]) (call:∀(w:World)(s₀ s₁:Shared)(mg mb:Str->Option Value)(fa:Addr)(o:Obj)(pm cd doc:Value)(a:Addr)(vs:List Value)(ns:List Int),Ground q loose [] XP w s₀ mg mb s₁.heap->YP w s₁.heap->s₁.heap.get? fa=some o->o.data= .func (docDef d.name d.params d.body d.scope pm cd doc)->s₁.heap.CodeRec cd d.name->mg d.name=some (.ref fa)->s₁.heap.get? a=some {cls:=.type "list",data:=.seq vs.toArray}->IntsAre vs ns->ns.length<=n->s₁.gens=#[]->codeAny (model l.prog w) callerA (.call (.ref fa) ⟨[.ref a],[]⟩) (fun r s'=>r= .ok (.ret (.bool true))/\OldK s₁.heap s'.heap/\s'.os=s₁.os/\AllBare s'.gens) s₁): WalkO q loose XP YP l.row.toRowW d [] (fun f vs=>PySem.call f vs):=by intro w s₀ s₁ mg mb G Y fa o pm cd doc dV kV ho hd hcd hD hmg hg args vals as hpre hlay hrd hwl hlo;obtain rfl:dV= .none:=Dflts.none hD hdf;obtain rfl:kV= .none:=Dflts.noKw hD;obtain⟨a,vs,ns,rfl,rfl,hobj,hints,hlen⟩:=tZ hn hpre hwl;refine enter_call (codeAny_mono (call w s₀ s₁ mg mb fa o pm cd doc a vs ns G Y ho (fd_plain hd) hcd hmg hobj hints hlen hg) fun r s' hq=>?_);obtain⟨rfl,h2,h3,h4⟩:=hq;exact⟨.inl ⟨.bool true,.bool true,[],rfl,fun _=>rfl,.bool true,u6 l _,fun _=>⟨List.Pairwise.nil,fun _ hm=>(nomatch hm)⟩⟩,h2,h3,h4⟩
section
variable {prog:Program}{w:World}{A:Around}{E:Value->Shared->Prop}{s:Shared}{K:Frag}
end
end Att
namespace L2
open PySem PySem.Spec PyProof.Rows
theorem lH:∀{vs:List Value}{ns:List Int},IntsAre vs ns->Vals (ns.map V.int) vs |_,_,.nil=>.nil |_,_,.cons n t h=>.cons ⟨t,rfl⟩ (lH h)
def Dg(H:Hp):Prop:=∀b,H b=none\/∃o xs,H b=some (.zy o (.lst xs))
theorem vM{P:Program}{w:World}{K:PySem.W.Frag}{mg mb:Str->Option Value}{CX:vo}{k:Nat}{fa a:Addr}{fd:FuncData}{x:Str}{sp:Sp}{s₁:Shared}{vs:List Value}{ns:List Int} (KX:K.In s₁.heap)(hns:s₁.heap.Ns mainGlobals mg)(hb:s₁.heap.Ns builtinsNs mb)(hbb:∀x:Str,x≠"__name__"->mb x=bootBuiltins x)(hlim:s₁.heap.NoLimit)(hg:s₁.gens=#[]) (ha:s₁.heap.get? a=some {cls:=.type "list",data:=.seq vs.toArray})(hi:IntsAre vs ns)(hl:ns.length<=sizeLine)(hr:dF k callerA) (F:∀base:Heap,K.In base->base.Ns mainGlobals mg->hJ P w K mg base CX k fa fd [x] sp)(hbind:∀(s:Shared)(u:Value),BindsTo s fd ⟨[u],[]⟩ [(x,u)]) (hsp:∀H:Hp,Dg H->bc K H a (ns.map V.int)->sp [.ref a] H (fun v _=>v= .bl true) fun _ _ _=>False) (hCX:∀H e s',CX [] H s₁ (fun _ _ _=>False) e s'->False): codeAny (model P w) callerA (.call (.ref fa) ⟨[.ref a],[]⟩) (fun r s'=>r= .ok (.ret (.bool true))/\OldK s₁.heap s'.heap/\s'.os=s₁.os/\AllBare s'.gens) s₁:=by
  have rv:=lH hi;have lenV:=hi.length;have core:∀H:Hp,Dg H->bc K H a (ns.map V.int)->gZ P w H s₁.heap->(∀b,H b≠none->b=a)->(H a≠none->K.lookup a=none)->codeAny (model P w) callerA (.call (.ref fa) ⟨[.ref a],[]⟩) (fun r s'=>r= .ok (.ret (.bool true))/\OldK s₁.heap s'.heap/\s'.os=s₁.os/\AllBare s'.gens) s₁:=by
    intro H hO hS hok hA hK;have base_of:∀{b:Addr}{o:Obj},s₁.heap.get? b=some o->H b=none->(lY s₁.heap H).get? b=some o:=fun e n=>uT e n;have noA:∀{b:Addr}{o:Obj}{es:Array DictEntry}{ep:Nat},s₁.heap.get? b=some o->o.data= .dict es ep->H b=none:=fun{b o es ep} e d=>by cases q:H b with |none=>rfl |some u=>have e':b=a:=hA b (by rw[q];simp);subst e';rw[ha]at e;cases e;have d':Data.seq vs.toArray _=Data.dict es ep:=d;cases d'
    have nsK:∀{b:Addr}{m:Str->Option Value},s₁.heap.Ns b m->(lY s₁.heap H).Ns b m:=fun{b m} ⟨o,es,ep,e,d,r⟩=>⟨o,es,ep,base_of e (noA e d),d,r⟩;have hKb:K.In (lY s₁.heap H):=fun b o e=>base_of (KX b o e) (by cases q:H b with |none=>rfl |some u=>have e':b=a:=hA b (by rw[q];simp);subst e';rw[hK (by rw[q];simp)]at e;cases e);have hM:Mod K mg (lY s₁.heap H):=⟨hKb,nsK hns,⟨mb,nsK hb,hbb⟩,let⟨mc,h1,h2⟩:=hlim;⟨mc,nsK h1,h2⟩⟩;have e0:pf P w K mg (lY s₁.heap H) callerA [] s₁ H:=⟨rfl,hM,fun b o e=>zF e,Nat.le_of_eq (tN _ _),trivial,fun b hb=>absurd (show b∈([]:List Addr)from hb) (by simp),hok,.of_eq hg⟩;refine codeAny_mono ((F _ hKb (nsK hns)).run callerA [] s₁ H ⟨[.ref a],[]⟩ [.ref a] [.ref a] _ _ hr e0 (hbind s₁ (.ref a)) (.cons rfl .nil) (hsp H hO hS)) fun r s' h=>?_;cases r with |error e=>exact(hCX H e s' h).elim |ok fl=>cases fl with |next=>exact False.elim h |brk=>exact False.elim h |cont=>exact False.elim h |ret u=>obtain⟨v,H',os,bare,un,hok',r',q⟩:=h;have q':v= .bl true:=q;subst q';obtain rfl:u=Value.bool true:=r';refine⟨rfl,OldK.of_keep fun b o e=>?_,os,bare⟩;cases q:H b with |none=>exact un.keep b o e q (by intro z;exact absurd (show b∈([]:List Addr)from z) (by simp)) (by simp) |some u=>
          rcases hO b with z|⟨ob,xs,z⟩
          ·rw[q]at z;cases z
          · have z2:=un.frzs b ob _ z
            obtain⟨e1,_⟩:=hok b _ z;obtain⟨e2,_⟩:=hok' b _ z2;rw[e]at e1;cases e1;exact e2
  cases hk:K.lookup a with |some o=>have e:=KX a o hk;rw[ha]at e;cases e;refine core (fun _=>none) (fun _=>.inl rfl) (.inr ⟨_,vs.toArray,_,hk,rfl,rfl,rfl,by rw[List.size_toArray,lenV];exact hl,by simpa using rv⟩) (fun b u z=>by have z':(none:Option HO)=some u:=z;cases z') (fun b z=>absurd rfl z) fun z=>absurd rfl z |none=>
    refine core (fun b=>if b=a then some (.zy {cls:=.type "list",data:=.seq vs.toArray} (.lst (ns.map V.int)))else none) (fun b=>?_) (.inl (.inr ⟨{cls:=.type "list",data:=.seq vs.toArray},if_pos rfl⟩)) (fun b u z=>?_) (fun b z=>?_) fun _=>hk
    · by_cases hb:b=a
      ·exact .inr ⟨_,_,if_pos hb⟩
      ·exact .inl (if_neg hb)
    · by_cases hb:b=a
      · have z':=(if_pos hb).symm.trans z
        cases z';subst hb;exact⟨ha,by rw[List.length_map];exact hl,vs,_,rv,ha⟩
      · have z':=(if_neg hb).symm.trans z
        cases z'
    · by_cases hb:b=a
      ·exact hb
      ·exact absurd (if_neg hb) z
end L2
namespace L2
open PySem PySem.Spec PyProof.Rows
theorem zU{l:PySem.W.OpenLaw}{n k:Nat}{q:Program}{loose:List Str}{XP:(Str->Option Value)->Heap->Prop}{YP:World->Heap->Prop}{d:DefRec}{K:Params->PySem.W.Frag}{CX:World->vo}{sp:World->Sp}{x:Str} (hn:l.most=some n)(hn2:n<=sizeLine)(hdf:d.params.defaults=[])(hr:dF k callerA) (hY:∀(w:World)(h:Heap),YP w h->(K w.params).In h) (F:∀(w:World)(mg:Str->Option Value)(fa:Addr)(h:Heap),(K w.params).In h->h.Ns mainGlobals mg->mg d.name=some (.ref fa)->∃fd:FuncData,(∀(s:Shared)(u:Value),BindsTo s fd ⟨[u],[]⟩ [(x,u)])/\∀base:Heap,(K w.params).In base->base.Ns mainGlobals mg->hJ l.prog w (K w.params) mg base (CX w) k fa fd [x] (sp w)) (hsp:∀(w:World)(H:Hp)(a:Addr)(ns:List Int),ns.length<=n->Dg H->bc (K w.params) H a (ns.map V.int)->sp w [.ref a] H (fun v _=>v= .bl true) fun _ _ _=>False) (hCX:∀(w:World)(H:Hp)(s:Shared)(e:Value)(s':Shared),CX w [] H s (fun _ _ _=>False) e s'->False): PySem.W.WalkO q loose XP YP l.row.toRowW d [] (fun f vs=>PySem.call f vs):=by refine Att.nL hn hdf fun w s₀ s₁ mg mb fa o pm cd doc a vs ns G Y ho hd hcd hmg hobj hints hlen hg=>?_;have KX:=hY w _ Y;obtain⟨fd,hb,hF⟩:=F w mg fa _ KX G.T.g hmg;exact vM KX G.T.g G.T.b G.T.builtins G.T.nolimit hg hobj hints (Nat.le_trans hlen hn2) hr hF hb (fun H hO hS=>hsp w H a ns hlen hO hS) fun H e s'=>hCX w H s₁ e s'
end L2
namespace L2
open PySem PySem.Spec PyProof.Rows
def inClass(s:Stmt)(j:Nat):Stmt:=match s with | .ClassDef _ _ _ body _ _ _ _ _ _ _=>body.getD j (.Pass ⟨0,0,0,0⟩) |_=>.Pass ⟨0,0,0,0⟩
def eu(s:Stmt):Arguments:=match s with | .FunctionDef _ a _ _ _ _ _ _ _ _=>a |_=>{posonlyargs:=[],args:=[],vararg:=none,kwonlyargs:=[],kw_defaults:=[],kwarg:=none,defaults:=[]}
def cV(s:Stmt):List Stmt:=match s with | .FunctionDef _ _ b _ _ _ _ _ _ _=>b |_=>[]
def ao(s:Stmt):Scope:=match s with | .FunctionDef _ _ _ _ _ _ sc _ _ _=>sc |_=>{kind:=.function,names:=[],isGenerator:=false,isCoroutine:=false}
abbrev u7:vo:=fun _ _ _ _ _ _=>False
abbrev E0:XK:=fun _ _ _=>False
theorem qL{X:Cx}:Passes u7 X E0:=fun _ _ _ _ _ _ _ h=>h.elim
structure vN(K:PySem.W.Frag)(x qual:Str)(st:Stmt)(f:Addr)(fd:FuncData):Prop where
 ex:∃(oc:Value)(od:Option Addr)(kV doc pm:Value)(an:Option Addr)(cdv ct:Value)(osl:Array (Option Value)),fd=PySem.W.fnOf x qual (eu st) (cV st) (ao st) .none kV doc pm an cdv ct/\K.lookup f=some ⟨oc,od,.func fd,osl⟩/\PySem.W.codeIn K cdv qual=true
 kp:PySem.W.keepIn K (.ref f)=true
section
variable {P:Program}{w:World}{K:PySem.W.Frag}{mg:Str->Option Value}{base:Heap}
theorem vN.ok{x qual:Str}{st:Stmt}{f:Addr}{fd:FuncData}{N ps:List Str}{k:Nat}{sp:Sp}(F:vN K x qual st f fd)(S:aH N ps (ao st))(len:∀vs H Q E,sp vs H Q E->vs.length=ps.length) (hbody:∀(cdv:Value)(A:Around)(outer:List Env)(s:Shared)(H:Hp)(vs:List V)(Q:VK)(E:XK),dF k (A.deeper (envOfC qual (ao st) s.heap.objs.size f cdv))->sp vs H Q E->∃t,oS (m6 u7 P w K mg base N qual (ao st) f cdv A outer s H E).CQ (cV st) t/\t {nx:=fun _ H'=>Q .cG H',rt:=Q} (start N vs) H):hJ P w K mg base u7 (k+1) f fd ps sp:=by obtain⟨oc,od,kV,doc,pm,an,cdv,ct,osl,rfl,lk,hcd⟩:=F.ex;refine G3 lk hcd S len fun A outer s H vs Q E hr hsp=>?_;obtain⟨t,h,q⟩:=hbody cdv A outer s H vs Q E hr hsp;exact⟨t,h.CQ,q⟩
theorem vN.binds{x qual:Str}{st:Stmt}{f:Addr}{fd:FuncData}{ps:List Str}(F:vN K x qual st f fd) (h:∀(kV doc pm:Value)(an:Option Addr)(cdv ct:Value)(us:List Value),us.length=ps.length->bindArgs (PySem.W.fnOf x qual (eu st) (cV st) (ao st) .none kV doc pm an cdv ct) ⟨us,[]⟩=pure (ps.zip us)):Binds K fd ps []:=by obtain⟨oc,od,kV,doc,pm,an,cdv,ct,osl,rfl,lk,hcd⟩:=F.ex;exact .all (h kV doc pm an cdv ct)
theorem pD{x qual:Str}{st:Stmt}{f:Addr}{oc:Value}{od an:Option Addr}{osl:Array (Option Value)}{kV doc pm cdv ct:Value}(l:K.lookup f=some ⟨oc,od,.func (PySem.W.fnOf x qual (eu st) (cV st) (ao st) .none kV doc pm an cdv ct),osl⟩) (c:PySem.W.codeIn K cdv qual=true)(k:PySem.W.keepIn K (.ref f)=true):vN K x qual st f (PySem.W.fnOf x qual (eu st) (cV st) (ao st) .none kV doc pm an cdv ct):=⟨⟨oc,od,kV,doc,pm,an,cdv,ct,osl,rfl,l,c⟩,k⟩
end
section
variable {X:Cx}
theorem pv(i:Nat){x:Str}{pos:Pos}(hN:X.N[i]? =some x:=by rfl)(hv:Iy X.env.scope x:=by first|exact Or.inl rfl|exact Or.inr (Or.inl rfl)|exact Or.inr (Or.inr rfl))(hd:(x==("__debug__":Str))=false:=by decide) (hcd:(x==("__classdict__":Str))=false:=by decide):PE X (.Name x pos) (FI i):=CP hN hv hd hcd
end
theorem bw{A B:Prop}(h:B):if false=true then A else B:=by rw[if_neg Bool.false_ne_true];exact h
theorem bK{A B:Prop}(h:A):if true=true then A else B:=by rw[if_pos rfl];exact h
theorem dk{c A B:Prop}[Decidable c](h1:c->A)(h2:¬c->B):if c then A else B:=by
 by_cases h:c
 · rw[if_pos h]
   exact h1 h
 · rw[if_neg h]
   exact h2 h
def aI(H H':Hp):Prop:=∀b o,H b=some o->H' b=some o
theorem aI.refl(H:Hp):aI H H:=fun _ _ h=>h
theorem aI.trans{H H1 H2:Hp}(a:aI H H1)(b:aI H1 H2):aI H H2:=fun c o h=>b c o (a c o h)
theorem aI.seq{K:PySem.W.Frag}{H H':Hp}{a:Addr}{xs:List V}(e:aI H H')(h:bc K H a xs):bc K H' a xs:=by
 rcases h with(h|⟨o,h⟩)|h
 ·exact .inl (.inl (e _ _ h))
 ·exact .inl (.inr ⟨o,e _ _ h⟩)
 ·exact .inr h
end L2
namespace L2
open PySem PySem.Spec PyProof.Rows
def Wd (i:Int):Prop:=i.natAbs<2^5000
theorem Wd.bits{i:Int}(h:Wd i):Builtin.Int.intBits i<=2^20:=Nat.le_trans (PyProof.Rows.intBits_le h) (by decide)
theorem Wd.log{i:Int}(h:Wd i):i.natAbs.log2<9000:=by
 by_cases e:i.natAbs=0
 ·rw[e];decide
 · have h1:i.natAbs.log2<5000:=(Nat.log2_lt e).mpr h
   omega
section
variable {X:Cx}
theorem du:gj X (binaryOp .FloorDiv) (rI (fun _ j=>0<j/\Wd j) fun i j=>.int (i/j)):=FW fun i j _ _ _ _ _ hc q=>by have h1:(0:Int)<j:=hc.1;exact floordiv_int (by omega) (by rw[Int.fdiv_eq_ediv_of_nonneg i (by omega)];exact q) (.inl (PyProof.noPylong_of_log2 hc.2.log))
theorem lI:gj X (binaryOp .FloorDiv) (rI (fun _ j=>j≠0/\Wd j) fun i j=>.int (i.fdiv j)):=FW fun _ _ _ _ _ _ _ hc q=>floordiv_int hc.1 q (.inl (PyProof.noPylong_of_log2 hc.2.log))
end
def Dh(K:PySem.W.Frag)(H:Hp)(x:V)(T:String):Prop:=match x with | .cG=>T="NoneType" | .bl _=>T="bool" | .int _=>T="int" | .str _=>T="str" | .ref a=>(T="list"/\∃xs,bc K H a xs)\/(T="tuple"/\∃xs,bG K H a xs) |_=>False
def gB(T n:String):Bool:=T==n||(T=="bool"&&n=="int")
def jO:List String:=["NoneType","bool","int","str","list","tuple"]
def iI:List String:=["bool","int","str","list","tuple"]
theorem vO{K:PySem.W.Frag}{T n:String}(h1:T∈jO)(h2:n∈iI):PySem.W.kitOne K (.type T) (.type n)=some (gB T n):=by
 have all:jO.all (fun T=>iI.all fun n=>PySem.W.kitOne [] (.type T) (.type n)==some (gB T n))=true:=by decide+kernel
 have a1:=List.all_eq_true.mp all T h1;have a2:=List.all_eq_true.mp a1 n h2;have e:PySem.W.kitOne K (.type T) (.type n)=PySem.W.kitOne [] (.type T) (.type n):=by unfold PySem.W.kitOne PySem.W.kitCls PySem.W.subIn;rfl
 rw[e];exact beq_iff_eq.mp a2
section
variable {X:Cx}
theorem Dh.mem{K:PySem.W.Frag}{H:Hp}{x:V}{T:String}(h:Dh K H x T):T∈jO:=by cases x with |cG=>cases(show T="NoneType" from h);decide |bl b=>cases(show T="bool" from h);decide |int b=>cases(show T="int" from h);decide |str b=>cases(show T="str" from h);decide |ref a=>rcases(show(T="list"/\∃xs,bc K H a xs)\/(T="tuple"/\∃xs,bG K H a xs)from h)with⟨e,_⟩|⟨e,_⟩<;>cases e<;>decide |_=>exact(show False from h).elim
theorem vP{pins:List (Addr×Obj)}{s:Shared}{σ:St}{H:Hp}{x:V}{u:Value}{T:String}(I:Inv X pins σ H s)(rx:RelV x u)(ty:Dh X.K H x T): ∃P:Heap->Prop,PySem.W.KitX X.K u (.type T) P/\P s.heap/\u≠ .builtin "__main__.__loader__#opaque":=by cases x with
  |cG=>cases(show T="NoneType" from ty);cases(show u=Value.none from rx);exact⟨_,PySem.W.kitx_none,True.intro,fun z=>nomatch z⟩ |bl b=>cases(show T="bool" from ty);cases(show u=Value.bool b from rx);exact⟨_,PySem.W.kitx_bool,True.intro,fun z=>nomatch z⟩ |int b=>cases(show T="int" from ty);obtain⟨t,q⟩:=(show∃t,u=Value.int b t from rx);cases q;exact⟨_,PySem.W.kitx_int,True.intro,fun z=>nomatch z⟩ |str b=>cases(show T="str" from ty);obtain⟨t,q⟩:=(show∃t,u=Value.str b t from rx);cases q;exact⟨_,PySem.W.kitx_str,True.intro,fun z=>nomatch z⟩ |ref a=>
    cases(show u=Value.ref a from rx);rcases(show(T="list"/\∃xs,bc X.K H a xs)\/(T="tuple"/\∃xs,bG X.K H a xs)from ty)with⟨e,xs,hx⟩|⟨e,xs,hx⟩
    · cases e
      obtain⟨its,r,⟨o,n,h1,h2,_⟩,_⟩:=I.list hx;exact⟨_,PySem.W.kitx_list,⟨o,h1,h2⟩,fun z=>nomatch z⟩
    · cases e
      obtain⟨its,r,⟨o,h1,h2,_⟩,_⟩:=I.tuple hx;exact⟨_,PySem.W.kitx_tuple,⟨o,h1,h2⟩,fun z=>nomatch z⟩ |_=>exact(show False from ty).elim
inductive Bk(K:PySem.W.Frag)(xs:List V)(H:Hp)(Q:VK):Prop |mk (x:_)(T:_)(n:_)(b:_)(h0:xs=[x,.ty n])(h1:Dh K H x T)(h2:n∈iI)(h3:gB T n=b)(h4:Q (.bl b) H):Bk K xs H Q
def Ga(K:PySem.W.Frag):List V->Hp->VK->Prop:=fun xs H Q=>Bk K xs H Q
theorem vQ:cM X (.builtin "isinstance") (Ga X.K):=by intro pins s σ H xs us Q I r h;obtain⟨x,T,n,b,rfl,ty,hn,rfl,q⟩:=h;obtain⟨u,c,rfl,rx,rc⟩:=vals2 r;cases(show c=Value.type n from rc);obtain⟨P,Z,p,hx⟩:=vP I rx ty;exact PySem.W.kia_one Z I.oQ p (vO ty.mem hn) hx fun tk=>⟨.bl (gB T n),H,I.tok _,rfl,q⟩
inductive vR(K:PySem.W.Frag)(xs:List V)(H:Hp)(Q:VK):Prop |mk (x:V)(T:String)(p:Addr)(ns:List String)(b:Bool)(h0:xs=[x,.ref p])(h1:H p=some (.tup (ns.map V.ty)))(h2:Dh K H x T)(h3:(∀n∈ns,n∈iI))(h4:ns.any (gB T)=b)(h5:Q (.bl b) H):vR K xs H Q
def Bl(K:PySem.W.Frag):List V->Hp->VK->Prop:=fun xs H Q=>vR K xs H Q
theorem qM{K:PySem.W.Frag}{T:String}(h1:T∈jO):∀{ns:List String},(∀n∈ns,n∈iI)->PySem.W.kitAny K (.type T) (ns.map Value.type)=some (ns.any (gB T)) |[],_=>rfl |n::r,h=>by have e:=vO (K:=K) h1 (h n (List.mem_cons_self ..));have ih:=qM (K:=K) h1 (ns:=r) fun m hm=>h m (List.mem_cons_of_mem _ hm);rw[List.map_cons,PySem.W.kitAny,e,List.any_cons];cases gB T n with |true=>rfl |false=>simpa using ih
theorem qN:∀{ns:List String}{us:List Value},Vals (ns.map V.ty) us->us=ns.map Value.type |[],_,.nil=>rfl |n::r,_,.cons q t=>by cases(show _=Value.type n from q);rw[qN t];rfl
theorem u9:cM X (.builtin "isinstance") (Bl X.K):=by intro pins s σ H xs us Q I r h;obtain⟨x,T,p,ns,b,rfl,hp,ty,hn,rfl,q⟩:=h;obtain⟨u,c,rfl,rx,rc⟩:=vals2 r;cases(show c=Value.ref p from rc);obtain⟨P,Z,pp,hx⟩:=vP I rx ty;obtain⟨_,its,rv,⟨cls,dd,dt,sl⟩,h1,h2,n,h3⟩:=(show dh X.prog X.w H s.heap p (.tup (ns.map V.ty))from I.hok p _ hp);simp only at h2 h3;subst h2 h3;have e:=qN rv;subst e;exact PySem.W.kia_tup Z I.oQ pp h1 (qM ty.mem hn) hx fun tk=>⟨.bl _,H,I.tok _,rfl,q⟩
end
mutual
def RD(K:PySem.W.Frag)(H:Hp):V->PyData->Prop |x,.none=>x= .cG |x,.bool b=>x= .bl b |x,.int i=>x= .int i |x,.str y=>x= .str y |x,.list ds=>∃a xs,x= .ref a/\bc K H a xs/\bj K H xs ds |x,.tuple ds=>∃a xs,x= .ref a/\bG K H a xs/\bj K H xs ds |_,.dict _=>False
def bj (K:PySem.W.Frag)(H:Hp):List V->List PyData->Prop |xs,[]=>xs=[] |xs,d::ds=>∃y ys,xs=y::ys/\RD K H y d/\bj K H ys ds
end
section
variable {X:Cx}
mutual
theorem RD.reads{pins:List (Addr×Obj)}{s:Shared}{σ:St}{H:Hp}(I:Inv X pins σ H s):∀{x:V}{u:Value}(d:PyData),RelV x u->RD X.K H x d->∃as,Reads s.heap u d as |x,u,.none,r,h=>by cases(show x= .cG from by simpa[RD]using h);cases(show u=Value.none from r);exact⟨_,.none⟩ |x,u,.bool b,r,h=>by cases(show x= .bl b from by simpa[RD]using h);cases(show u=Value.bool b from r);exact⟨_,.bool b⟩ |x,u,.int i,r,h=>by cases(show x= .int i from by simpa[RD]using h);obtain⟨t,q⟩:=(show∃t,u=Value.int i t from r);cases q;exact⟨_,.int i t⟩ |x,u,.str y,r,h=>by cases(show x= .str y from by simpa[RD]using h);obtain⟨t,q⟩:=(show∃t,u=Value.str y t from r);cases q;exact⟨_,.str y t⟩ |x,u,.list ds,r,h=>by rw[RD]at h;obtain⟨a,xs,rfl,hx,hd⟩:=h;cases(show u=Value.ref a from r);obtain⟨its,rv,⟨o,n,h1,h2,h3,h4⟩,_⟩:=I.list hx;obtain⟨as,q⟩:=bj.reads I ds rv hd;exact⟨_,.list h1 h2 h4 (by simpa using q)⟩ |x,u,.tuple ds,r,h=>by rw[RD]at h;obtain⟨a,xs,rfl,hx,hd⟩:=h;cases(show u=Value.ref a from r);obtain⟨its,rv,⟨o,h1,h2,n,h4⟩,_⟩:=I.tuple hx;obtain⟨as,q⟩:=bj.reads I ds rv hd;exact⟨_,.tuple h1 h2 h4 (by simpa using q)⟩ |x,u,.dict _,r,h=>by simp[RD]at h
theorem bj.reads {pins:List (Addr×Obj)}{s:Shared}{σ:St}{H:Hp}(I:Inv X pins σ H s):∀{xs:List V}{us:List Value}(ds:List PyData),Vals xs us->bj X.K H xs ds->∃as,ReadsAll s.heap us ds as |xs,us,[],r,h=>by cases(show xs=[]from by simpa[bj]using h);cases r;exact⟨_,.nil⟩ |xs,us,d::ds,r,h=>by rw[bj]at h;obtain⟨y,ys,rfl,h1,h2⟩:=h;cases r with |cons ra rb=>obtain⟨as,q⟩:=RD.reads I d ra h1;obtain⟨bs,q'⟩:=bj.reads I ds rb h2;exact⟨_,.cons q q'⟩
end
inductive Bm(K:PySem.W.Frag)(x:V)(y:V)(H:Hp)(Q:VK):Prop |mk (d:_)(e:_)(h0:RD K H x d)(h1:RD K H y e)(h2:SeqAt.shaped d=true)(h3:SeqAt.shaped e=true)(h4:Q (.bl (PyData.eqv d e)) H):Bm K x y H Q
def Di(K:PySem.W.Frag):R2:=fun x y H Q=>Bm K x y H Q
inductive Bn(K:PySem.W.Frag)(x:V)(y:V)(H:Hp)(Q:VK):Prop |mk (d:_)(e:_)(h0:RD K H x d)(h1:RD K H y e)(h2:SeqAt.shaped d=true)(h3:SeqAt.shaped e=true)(h4:Q (.bl (!PyData.eqv d e)) H):Bn K x y H Q
def Dj(K:PySem.W.Frag):R2:=fun x y H Q=>Bn K x y H Q
theorem Dk(hu:X.A.units+64<cLine):gj X (compareOp .Eq) (Di X.K):=by intro pins s σ H x y v u Q I rx ry h;obtain⟨d,e,hd,he,sd,se,q⟩:=h;obtain⟨as,ra⟩:=RD.reads I d rx hd;obtain⟨bs,rb⟩:=RD.reads I e ry he;exact eq_dataH ra rb sd se hu ⟨.bl _,H,I,rfl,q⟩
theorem Dl(hu:X.A.units+64<cLine):gj X (compareOp .NotEq) (Dj X.K):=by intro pins s σ H x y v u Q I rx ry h;obtain⟨d,e,hd,he,sd,se,q⟩:=h;obtain⟨as,ra⟩:=RD.reads I d rx hd;obtain⟨bs,rb⟩:=RD.reads I e ry he;exact ne_dataH ra rb sd se hu ⟨.bl _,H,I,rfl,q⟩
end
end L2
namespace L2
open PySem PySem.Spec PyProof.Rows
theorem aI.new{H:Hp}{t:Addr}{o:HO}(ht:H t=none):aI H (upd H t o):=fun b o' e=>by rw[aj (aX e ht)];exact e
structure Nw(H H':Hp)(p:Addr)(o:HO):Prop where
 no:H p=none
 at':H' p=some o
 same:aI H H'
 eq:H'=upd H p o
theorem Nw.of{H:Hp}{p:Addr}{o:HO}(h:H p=none):Nw H (upd H p o) p o:=⟨h,au,.new h,rfl⟩
def iJ:List Str:=["len","abs","min","max","range","isinstance","int","bool","str","tuple","list","any","all","sum","zip","enumerate","sorted","reversed","ord","chr","divmod","repr","dict","set"]
def dv(mg:Str->Option Value):Prop:=∀x∈iJ,mg x=none
theorem dv.at{mg:Str->Option Value}(B:dv mg)(x:Str)(h:x∈iJ:=by decide):mg x=none:=B x h
structure FA(K:PySem.W.Frag)(mg:Str->Option Value)(x:Str)(st:Stmt):Prop where ex:∃f fd,mg x=some (.ref f)/\vN K x x st f fd
def aw(P:Program)(w:World)(K:PySem.W.Frag)(mg:Str->Option Value)(base:Heap)(x:Str)(k:Nat)(sp:Sp):Prop:=∃f fd ps,hJ P w K mg base u7 k f fd ps sp/\mg x=some (.ref f)/\PySem.W.keepIn K (.ref f)=true/\Binds K fd ps []
section
variable {P:Program}{w:World}{K:PySem.W.Frag}{mg:Str->Option Value}{base:Heap}
theorem bf{h:Heap}{x:Str}{st:Stmt}{f:Addr}{oc:Value}{od an:Option Addr}{osl:Array (Option Value)}{kV doc pm cdv ct:Value}(X:K.In h)(G:h.Ns mainGlobals mg) (a:PySem.W.nsIn K mainGlobals x=some (some (.ref f))) (l:K.lookup f=some ⟨oc,od,.func (PySem.W.fnOf x x (eu st) (cV st) (ao st) .none kV doc pm an cdv ct),osl⟩) (c:PySem.W.codeIn K cdv x=true)(k:PySem.W.keepIn K (.ref f)=true):FA K mg x st:=⟨f,_,PySem.W.mg_of X G a,pD l c k⟩
theorem FA.has{x:Str}{st:Stmt}{N ps:List Str}{k:Nat}{sp:Sp}(F:FA K mg x st)(S:aH N ps (ao st))(len:∀vs H Q E,sp vs H Q E->vs.length=ps.length) (hb:∀(kV doc pm:Value)(an:Option Addr)(cdv ct:Value)(us:List Value),us.length=ps.length->bindArgs (PySem.W.fnOf x x (eu st) (cV st) (ao st) .none kV doc pm an cdv ct) ⟨us,[]⟩=pure (ps.zip us)) (hbody:∀(f:Addr)(cdv:Value)(A:Around)(outer:List Env)(s:Shared)(H:Hp)(vs:List V)(Q:VK)(E:XK),dF k (A.deeper (envOfC x (ao st) s.heap.objs.size f cdv))->sp vs H Q E->∃t,oS (m6 u7 P w K mg base N x (ao st) f cdv A outer s H E).CQ (cV st) t/\t {nx:=fun _ H'=>Q .cG H',rt:=Q} (start N vs) H):aw P w K mg base x (k+1) sp:=by obtain⟨f,fd,hm,F⟩:=F.ex;exact⟨f,fd,ps,F.ok S len fun cdv A outer s H vs Q E=>hbody f cdv A outer s H vs Q E,hm,F.kp,F.binds hb⟩
end
section
variable {X:Cx}{k:Nat}{x:Str}{p pos:Pos}{e:Expr}{es:List Expr}{t:TA}{sp:Sp}
def JK(sp:Sp)(t:TA):TE:=fun σ H Q=>t σ H fun vs H1=>sp vs H1 Q E0
theorem aE(F:aw X.prog X.w X.K X.mg X.base x k sp)(hr:dF k X.A)(hg:Gl X x)(ha:PA X (e::es) t)(hdb:(x==("__debug__":Str))=false:=by decide) (he:starEach (e::es) X.env=(false,eval e X.env)::starEach es X.env:=by rfl)(hpl:(backTo pos (starEach es X.env)).any (·.1)=false:=by rfl): PE X (.Call (.Name x p) (e::es) [] pos) (JK sp t):=by
  obtain⟨f,fd,ps,F,hm,hk,hb⟩:=F;have h:=zM (pos:=pos) (p:=p) F hr hg hm hk hb .nil qL ha hdb he hpl;intro pins s σ H Q I hq;refine h pins s σ H Q I ?_;have e1:(fun(vs:List V) H1=>sp (vs++[]) H1 Q E0)=fun vs H1=>sp vs H1 Q E0:=by funext vs H1;rw[List.append_nil]
  show t σ H fun vs H1=>sp (vs++[]) H1 Q E0;rw[e1];exact hq
theorem aG:gj X (binaryOp .Mult) (rI (fun i j=>IntMulOk i j) fun i j=>.int (i*j)):=FW fun _ _ _ _ _ _ _ hc q=>mul_int q hc
theorem Dm:gj X (compareOp .Eq) (qA fun i j=>.bl (decide (i=j))):=tQ fun _ _ _ _ _ _ _ q=>eq_int (by rw[Bool.beq_eq_decide_eq];exact q)
theorem Dn:gj X (compareOp .NotEq) (qA fun i j=>.bl (!decide (i=j))):=tQ fun _ _ _ _ _ _ _ q=>ne_int (by rw[bne,Bool.beq_eq_decide_eq];exact q)
theorem Dp(hu:X.A.units+64<cLine):gj X (compareOp .Eq) (fun x y H Q=>qA (fun i j=>.bl (decide (i=j))) x y H Q\/Di X.K x y H Q):=Dm.or (Dk hu)
theorem Dq(hu:X.A.units+64<cLine):gj X (compareOp .NotEq) (fun x y H Q=>qA (fun i j=>.bl (!decide (i=j))) x y H Q\/Dj X.K x y H Q):=Dn.or (Dl hu)
mutual
theorem eqv_refl:∀d:PyData,d.canLay0=true->PyData.eqv d d=true | .none,_=>by simp[PyData.eqv] | .bool b,_=>by simp[PyData.eqv] | .int i,_=>by simp[PyData.eqv] | .str x,_=>by simp[PyData.eqv] | .list ds,h=>by simp only[PyData.eqv];exact eqvAll_refl ds (by simpa[PyData.canLay0]using h) | .tuple ds,h=>by simp only[PyData.eqv];exact eqvAll_refl ds (by simpa[PyData.canLay0]using h) | .dict _,h=>by simp[PyData.canLay0]at h
theorem eqvAll_refl:∀ds:List PyData,PyData.canLayAll0 ds=true->PyData.eqvAll ds ds=true |[],_=>by simp[PyData.eqvAll] |d::ds,h=>by simp only[PyData.canLayAll0,Bool.and_eq_true]at h;simp only[PyData.eqvAll,Bool.and_eq_true];exact⟨eqv_refl d h.1,eqvAll_refl ds h.2⟩
end
theorem ij{K:PySem.W.Frag}{H:Hp}(b:Bool):RD K H (.bl b) (.bool b):=by simp[RD]
theorem bU{K:PySem.W.Frag}{H:Hp}(i:Int):RD K H (.int i) (.int i):=by simp[RD]
theorem bQ{K:PySem.W.Frag}{H:Hp}(x:Str):RD K H (.str x) (.str x):=by simp[RD]
theorem Dr{K:PySem.W.Frag}{H:Hp}:RD K H .cG .none:=by simp[RD]
theorem e9{K:PySem.W.Frag}{H:Hp}{p:Addr}{xs:List V}{ds:List PyData}(h:bG K H p xs)(r:bj K H xs ds):RD K H (.ref p) (.tuple ds):=by rw[RD];exact⟨p,xs,rfl,h,r⟩
theorem gH{K:PySem.W.Frag}{H:Hp}{p:Addr}{xs:List V}{ds:List PyData}(h:bc K H p xs)(r:bj K H xs ds):RD K H (.ref p) (.list ds):=by rw[RD];exact⟨p,xs,rfl,h,r⟩
theorem ba{K:PySem.W.Frag}{H:Hp}:bj K H [] []:=by simp[bj]
theorem aP{K:PySem.W.Frag}{H:Hp}{x:V}{xs:List V}{d:PyData}{ds:List PyData}(h:RD K H x d)(r:bj K H xs ds):bj K H (x::xs) (d::ds):=by rw[bj];exact⟨x,xs,rfl,h,r⟩
inductive Bo(t:TS)(D:Ends)(σ:St)(H:Hp):Prop |mk (Mid:St->Hp->Prop)(h0:t {D with nx:=Mid} σ H)(h1:∀σ' H',Mid σ' H'->D.nx σ' H'):Bo t D σ H
def IT (t:TS):TS:=fun D σ H=>Bo t D σ H
theorem cL{st:Stmt}{t:TS}(h:PS X st t):PS X st (IT t):=by intro pins s σ H D I hq;obtain⟨Mid,q,m⟩:=hq;refine cn (h pins s σ H _ I q) fun f s1 q1=>?_;cases f with |next=>obtain⟨σ',H',I',q'⟩:=q1;exact⟨σ',H',I',m _ _ q'⟩ |brk=>exact q1 |cont=>exact q1 |ret u=>exact q1
end
end L2
namespace L2
open PySem PySem.Spec PyProof.Rows
def Bp(K:PySem.W.Frag)(xs:List Str):Prop:=∀x∈xs,PySem.W.nsIn K mainGlobals x=some none
theorem Bp.nil{K:PySem.W.Frag}:Bp K []:=fun _ h=>nomatch h
theorem Bp.cons{K:PySem.W.Frag}{x:Str}{xs:List Str}(a:PySem.W.nsIn K mainGlobals x=some none)(r:Bp K xs):Bp K (x::xs):=fun y hy=>by
 rcases List.mem_cons.mp hy with e|e
 ·rw[e];exact a
 ·exact r y e
theorem Ds{K:PySem.W.Frag}{mg:Str->Option Value}{h:Heap}(X:K.In h)(G:h.Ns mainGlobals mg)(a:Bp K iJ):dv mg:=fun x hx=>PySem.W.mg_none_of X G (a x hx)
theorem vS{l:PySem.W.OpenLaw}{q:Program}{loose:List Str}{XP:(Str->Option Value)->Heap->Prop}{YP:World->Heap->Prop}{d:DefRec}{K:Params->PySem.W.Frag}{k:Nat}{x:Str}{st:Stmt}(hn:l.most=some 63)(hdf:d.params.defaults=[]) (hr:dF k callerA)(hY:∀(w:World)(h:Heap),YP w h->(K w.params).In h)(All:PySem.W.Frag->(Str->Option Value)->Prop) (F:∀(w:World)(mg:Str->Option Value)(h:Heap),(K w.params).In h->h.Ns mainGlobals mg->All (K w.params) mg) (L:∀(K:PySem.W.Frag)(mg:Str->Option Value),All K mg->FA K mg d.name st) (hb:∀(kV doc pm:Value)(an:Option Addr)(cdv ct u:Value),bindArgs (PySem.W.fnOf d.name d.name (eu st) (cV st) (ao st) .none kV doc pm an cdv ct) ⟨[u],[]⟩=pure [(x,u)]) (ok:∀(P:Program)(w:World)(K:PySem.W.Frag)(mg:Str->Option Value)(base:Heap)(f:Addr)(fd:FuncData),All K mg->vN K d.name d.name st f fd->hJ P w K mg base u7 k f fd [x] (fun vs H Q _=>∃(a:Addr)(ns:List Int),vs=[.ref a]/\bc K H a (ns.map V.int)/\ns.length<=63/\∀H',Q (.bl true) H')): PySem.W.WalkO q loose XP YP l.row.toRowW d [] (fun f vs=>PySem.call f vs):=L2.zU (n:=63) (k:=k) (x:=x) (CX:=fun _=>u7) (sp:=fun w=>fun vs H Q _=>∃(a:Addr)(ns:List Int),vs=[.ref a]/\bc (K w.params) H a (ns.map V.int)/\ns.length<=63/\∀H',Q (.bl true) H') hn (by decide) hdf hr hY (fun w mg fa h KX G hmg=>by
     have A:=F w mg h KX G;obtain⟨f,fd,hm,Fn⟩:=(L _ _ A).ex;have e:fa=f:=by rw[hmg]at hm;injection (Option.some.inj hm)
     subst e;refine⟨fd,fun s u=>?_,fun base _ _=>ok l.prog w _ mg base fa fd A Fn⟩;obtain⟨oc,od,kV,doc,pm,an,cdv,ct,osl,rfl,lk,hcd⟩:=Fn.ex;exact .of_eq (hb kV doc pm an cdv ct u)) (fun _ _ a ns hl _ hS=>⟨a,ns,rfl,hS,hl,fun _=>rfl⟩) fun _ _ _ _ _ z=>z
end L2
namespace L2
open PySem PySem.Spec PyProof.Rows
theorem iB{env:Env}:∀(ns:List (Str×NameKind))(cs:List (Str×Addr)),(∀x∈ns,x.2= .free->∃c,env.cells.lookup x.1=some c)->(∀x c,cs.lookup x=some c->env.cells.lookup x=some c)->∃cl,(forIn ns cs (fun x r=>if(x.2==NameKind.free)=true then do let a<-cellOf env x.1;pure (ForInStep.yield ((x.1,a)::r))else pure (ForInStep.yield r)):Sem (List (Str×Addr)))=pure cl/\(∀x c,cl.lookup x=some c->env.cells.lookup x=some c)/\(∀x c,cs.lookup x=some c->∃c',cl.lookup x=some c')/\∀x∈ns,x.2= .free->∃c,cl.lookup x.1=some c
  |[],cs,_,h2=>⟨cs,rfl,h2,fun x c e=>⟨c,e⟩,fun _ h=>nomatch h⟩ |(n,k)::r,cs,h1,h2=>by
    by_cases hk:k= .free
    · subst hk
      obtain⟨c,hc⟩:=h1 (n,.free) (.head _) rfl;have e1:cellOf env n=pure c:=by unfold cellOf;rw[show env.cells.lookup n=some c from hc]
      obtain⟨cl,a1,a2,a3,a4⟩:=iB r ((n,c)::cs) (fun x hx=>h1 x (.tail _ hx)) (fun x d e=>by rw[List.lookup_cons]at e;cases z:x==n with |true=>rw[z]at e;cases e;rw[beq_iff_eq.mp z];exact hc |false=>rw[z]at e;exact h2 x d e);refine⟨cl,?_,a2,fun x d e=>?_,fun x hx hf=>?_⟩
      · rw[List.forIn_cons]
        show(do let r'<-(if(NameKind.free==NameKind.free)=true then do let a<-cellOf env n;pure (ForInStep.yield ((n,a)::cs))else pure (ForInStep.yield cs));_)=_;rw[if_pos (by rfl),e1];exact a1
      · by_cases z:x==n
        ·exact a3 x c (by rw[List.lookup_cons,z])
        ·exact a3 x d (by rw[List.lookup_cons,Bool.eq_false_iff.mpr z];exact e)
      · rcases List.mem_cons.mp hx with rfl|hx
        ·exact a3 n c (by rw[List.lookup_cons,beq_self_eq_true])
        ·exact a4 x hx hf
    · obtain⟨cl,a1,a2,a3,a4⟩:=iB r cs (fun x hx=>h1 x (.tail _ hx)) h2
      refine⟨cl,?_,a2,a3,fun x hx hf=>?_⟩
      · rw[List.forIn_cons]
        show(do let r'<-(if(k==NameKind.free)=true then do let a<-cellOf env n;pure (ForInStep.yield ((n,a)::cs))else pure (ForInStep.yield cs));_)=_;rw[if_neg (by simpa using hk)];exact a1
      · rcases List.mem_cons.mp hx with rfl|hx
        ·exact absurd hf hk
        ·exact a4 x hx hf
theorem ip{env:Env}{scope:Scope}(h1:∀x∈scope.names,x.2= .free->∃c,env.cells.lookup x.1=some c): ∃cl,closureFor scope env=pure cl/\(∀x c,cl.lookup x=some c->env.cells.lookup x=some c)/\∀x∈scope.names,x.2= .free->∃c,cl.lookup x.1=some c:=by
  obtain⟨cl,a1,a2,_,a4⟩:=iB (env:=env) scope.names [] h1 (fun x c e=>nomatch e);refine⟨cl,?_,a2,a4⟩;unfold closureFor;show(forIn scope.names ([]:List (Str×Addr)) (fun(x:Str×NameKind) r=>match x with|(name,kind)=>if(kind==NameKind.free)=true then do let a<-cellOf env name;pure (ForInStep.yield ((name,a)::r))else pure (ForInStep.yield r))>>=fun r=>(pure r:Sem (List (Str×Addr))))=pure cl;have ef:(fun(x:Str×NameKind)(r:List (Str×Addr))=>match x with|(name,kind)=>(if(kind==NameKind.free)=true then do let a<-cellOf env name;pure (ForInStep.yield ((name,a)::r))else pure (ForInStep.yield r):Sem (ForInStep (List (Str×Addr))))) =fun x r=>if(x.2==NameKind.free)=true then do let a<-cellOf env x.1;pure (ForInStep.yield ((x.1,a)::r))else pure (ForInStep.yield r):=by funext x r;obtain⟨n,k⟩:=x;rfl
  rw[ef,a1];rfl
theorem fu{env:Env}(hk:env.scope.kind= .function){x:Str}(hx:env.kindOf x=some .cell):∀{names:List (Str×NameKind)},names.lookup x=some .free->(names.map fun(n,k)=>if(k==NameKind.free&&env.scope.kind== .function&&env.kindOf n==some .cell)then(n,NameKind.cell)else(n,k)).lookup x=some .cell |[],h=>nomatch h |(n,k)::r,h=>by have ih:=@fu env hk x hx r;show List.lookup x ((if(k==NameKind.free&&env.scope.kind== .function&&env.kindOf n==some .cell)=true then(n,NameKind.cell)else(n,k))::_)=_;cases z:x==n with |true=>simp only[List.lookup_cons,z]at h;cases h;have e:=beq_iff_eq.mp z;subst e;rw[if_pos (by rw[hk,hx];rfl),List.lookup_cons,z] |false=>simp only[List.lookup_cons,z]at h;split<;>(simp only[List.lookup_cons,z];exact ih h)
def cu(X:Cx)(N:List Str)(scope:Scope)(cl:List (Str×Addr))(s:Shared)(H:Hp)(fp:List Addr)(pins:List (Addr×Obj)):Cx:={prog:=X.prog,w:=X.w,K:=X.K,mg:=X.mg,base:=X.base,A:=X.A,N:=N,s₀:=s,H₀:=H,env:=compEnvC scope cl s.heap.objs.size X.env,outer:=X.stack,stack:=X.stack,ex:=fp,fn:=fun _=>false,calm:=X.calm,pn:=X.pn++pins,xe:=fun _ _=>False}
def stC(js:List (Option Nat))(σ:St):St:=js.map fun|none=>none|some j=>(σ[j]?).join
def zV(X:Cx)(N:List Str)(js:List (Option Nat))(scope:Scope):Bool:=N.length==js.length&&(N.zip js).all fun p=>match p.2 with|none=>true|some j=>X.N[j]? ==some p.1&&scope.names.lookup p.1==some NameKind.free&&X.env.kindOf p.1==some NameKind.cell
def ub(X:Cx)(scope:Scope):Bool:=scope.kind== .function&&X.env.scope.kind== .function&&scope.names.all fun x=>match x.2 with | .free=>X.env.kindOf x.1==some NameKind.cell | .cell=>false | .local=>scope.names.lookup x.1==some NameKind.local |_=>true
section
variable {X:Cx}{pins:List (Addr×Obj)}{σ:St}{H:Hp}{s:Shared}
theorem lookup_mem{α β:Type}[BEq α][LawfulBEq α]:∀{l:List (α×β)}{x:α}{b:β},l.lookup x=some b->(x,b)∈l |[],_,_,h=>nomatch h |(n,k)::r,x,b,h=>by rw[List.lookup_cons]at h;cases z:x==n with |true=>rw[z]at h;cases h;rw[beq_iff_eq.mp z];exact .head _ |false=>rw[z]at h;exact .tail _ (lookup_mem h)
theorem jD{env:Env}{x:Str}{k:NameKind}:∀{names:List (Str×NameKind)},(names.map fun(n,k)=>if(k==NameKind.free&&env.scope.kind== .function&&env.kindOf n==some .cell)then(n,NameKind.cell)else(n,k)).lookup x=some k->names.lookup x=some k\/(k= .cell/\names.lookup x=some .free) |[],h=>nomatch h |(n,k')::r,h=>by have ih:=@jD env x k r;have h':List.lookup x ((if(k'==NameKind.free&&env.scope.kind== .function&&env.kindOf n==some .cell)=true then(n,NameKind.cell)else(n,k'))::(r.map fun(n,k)=>if(k==NameKind.free&&env.scope.kind== .function&&env.kindOf n==some .cell)then(n,NameKind.cell)else(n,k)))=some k:=h;cases z:x==n with
    |true=>
      split at h'
      · rename_i hc
        simp only[List.lookup_cons,z]at h';cases h';rw[Bool.and_eq_true,Bool.and_eq_true]at hc;have e:k'= .free:=beq_iff_eq.mp hc.1.1;subst e;exact .inr ⟨rfl,by rw[List.lookup_cons,z]⟩
      · simp only[List.lookup_cons,z]at h'
        cases h';exact .inl (by rw[List.lookup_cons,z]) |false=>
      rw[List.lookup_cons,z];refine ih ?_;split at h'
      ·simpa only[List.lookup_cons,z]using h'
      ·simpa only[List.lookup_cons,z]using h'
theorem Inv.comp{N:List Str}{js:List (Option Nat)}{scope:Scope}{cl:List (Str×Addr)}{fp:List Addr}{h':Heap}{tk:Nat}(I:Inv X pins σ H s)(hN:zV X N js scope=true)(hS:ub X scope=true) (c1:∀x c,cl.lookup x=some c->X.env.cells.lookup x=some c)(c2:∀x∈scope.names,x.2= .free->∃c,cl.lookup x.1=some c)(hf:∀b∈fp,j9 X pins H b)(hfl:∀b∈fp,b<s.heap.objs.size) (hn:h'.Ns s.heap.objs.size fun _=>none)(hk:∀b o,s.heap.get? b=some o->h'.get? b=some o):Inv (cu X N scope cl s H fp pins) [] (stC js σ) H {s with heap:=h',toks:=tk}:=by
  unfold ub at hS;rw[Bool.and_eq_true,Bool.and_eq_true]at hS;obtain⟨⟨s1,s2⟩,s3⟩:=hS;have hkind:scope.kind= .function:=beq_iff_eq.mp s1;have hkindX:X.env.scope.kind= .function:=beq_iff_eq.mp s2;unfold zV at hN;rw[Bool.and_eq_true]at hN;obtain⟨n1,n2⟩:=hN;have hlen:N.length=js.length:=beq_iff_eq.mp n1;have inC:∀x k,(relabel scope X.env).names.lookup x=some k->scope.names.lookup x=some k\/(k= .cell/\scope.names.lookup x=some .free):=fun x k e=>jD e;have noCell:∀x,scope.names.lookup x≠some .cell:=fun x e=>by have:=List.all_eq_true.mp s3 _ (lookup_mem e);exact Bool.false_ne_true this
  have fs_sub:∀b∈(cu X N scope cl s H fp pins).fs,b∈X.env.locals::X.fs:=I.oV;have ok:(cu X N scope cl s H fp pins).Ok:={
    mod:=I.ok.mod
    kind:=hkind
    glob:=I.ok.glob
    blt:=I.ok.blt
    above:=Nat.le_refl _
    inj:=fun x y c e1 e2=>I.ok.inj x y c (c1 x c e1) (c1 y c e2)
    has:=fun x hx=>by
     have fr:scope.names.lookup x=some .free->∃c,cl.lookup x=some c:=fun e=>c2 (x,.free) (lookup_mem e) rfl;rcases hx with e|e
     · rcases inC x _ e with e|⟨_,e⟩
       ·exact absurd e (noCell x)
       ·exact fr e
     · rcases inC x _ e with e|⟨z,_⟩
       ·exact fr e
       ·cases z
    cab:=fun x c e=>nomatch e
    hd:=I.ok.hd
    frames:=I.ok.frames
    stk:=.inl rfl
    exf:=fun b hb=>⟨Nat.ne_of_lt (hfl b hb),fun x c e=>(hf b hb).2.2.2.2.1 x c (c1 x c e)⟩
    bs:=I.bs
    bsz:=Nat.le_trans I.ok.bsz I.sz
    noex:=fun b o e hb=>by
     rcases(hf b hb).2.2.2.1 with z|z
     ·exact I.ok.noex b o e z
     ·exact absurd (Nat.lt_of_lt_of_le (Heap.lt_size e) (Nat.le_trans I.ok.bsz z)) (Nat.lt_irrefl _)
    exfs:=fun b hb z=>by
     obtain⟨_,q1,q2,_⟩:=hf b hb;rcases List.mem_cons.mp (fs_sub b z)with e|e
     ·exact q1 e
     ·exact q2 e
    j8:=I.stack
    frf:=I.qy};refine⟨ok,rfl,I.bare,Un.kept hk,⟨_,hn,fun i x v e1 e2 e3=>?_⟩,fun x c e=>?_,I.hok.fresh (Nat.le_refl _),fun x c e=>I.freeC x c (c1 x c e),fun p hp=>?_,I.hok.kept hk,?_⟩
  · have e2':(js.map fun|none=>none|some j=>(σ[j]?).join)[i]? =some (some v):=e2
    rw[List.getElem?_map]at e2';cases hj:js[i]? with |none=>rw[hj]at e2';cases e2' |some o=>rw[hj]at e2';cases o with |none=>cases e2' |some j=>
        have hz:(N.zip js)[i]? =some (x,some j):=by rw[List.getElem?_zip_eq_some];exact⟨e1,hj⟩
        have chk:=List.all_eq_true.mp n2 _ (List.mem_of_getElem? hz);simp only[Bool.and_eq_true,beq_iff_eq]at chk;obtain⟨⟨h1,h2⟩,h3⟩:=chk;have e3':(σ[j]?).join=some v:=by simpa using e2'
        have hσ:σ[j]? =some (some v):=by cases q:σ[j]? with |none=>rw[q]at e3';cases e3' |some o=>
           rw[q]at e3';have:o=some v:=by simpa using e3'
           rw[this]
        obtain⟨m,hm,hl⟩:=I.loc;obtain⟨u,r,l⟩:=hl j x v h1 hσ (.inr (.inl h3));refine⟨u,r,?_⟩;rcases l with⟨k,_⟩|⟨_,c,hc,hcell⟩
        ·rw[h3]at k;cases k
        · obtain⟨c',hc'⟩:=c2 (x,.free) (lookup_mem h2) rfl
          have:=c1 x c' hc';rw[hc]at this;cases this;refine .inr ⟨.inl (fu hkindX h3 h2),c,hc',?_⟩;obtain⟨ob,ho,hd⟩:=hcell;exact⟨ob,hk _ _ ho,hd⟩
  · obtain⟨v,ob,ho,hd⟩:=I.cell x c (c1 x c e)
    exact⟨v,ob,hk _ _ ho,hd⟩
  · have hp':p∈X.pn++pins:=by simpa[cu]using hp
    obtain⟨a1,a2,a3,a4,a5⟩:=I.pin p hp';refine⟨hk _ _ a1,a2,Nat.ne_of_lt (Heap.lt_size a1),fun z=>?_,a5⟩;rcases List.mem_cons.mp (fs_sub p.1 z)with e|e
    ·exact a3 e
    ·exact a4 e
  · show(js.map _).length=N.length
    rw[List.length_map,hlen]
end
theorem iK{prog:Program}{w:World}{A:Around}{R:Result->Shared->Prop}{s:Shared}{elt target iter:Expr}{ifs:List Expr}{scope:Scope}{pos:Pos}{it acc:Value}{env:Env}(I:Nat->Shared->Prop) (turn:∀n s,I n s->wpAny (model prog w) A (pyNext it) (fun r s₁=>match r with |none=>R (.ok .next) s₁ |some v=>wpAny (model prog w) A (letOwnedTupleGo target it v) (fun _ s₁=>wpAny (model prog w) A (assign target env v) (fun _ s₂=>wpAny (model prog w) A (forIn ifs true fun c r=>if r=true then do let ok<-isTrue c env (eval c env);pure (ForInStep.yield ok)else pure (ForInStep.yield r)) (fun ok s₃=>if ok=true then wpAny (model prog w) A (eval elt env) (fun x s₄=>wpAny (model prog w) A (call (.builtin "list.append") [acc,x]) (fun _ s₅=>∃m,m<n/\I m s₅) (fun _ _=>False) s₄) (fun _ _=>False) s₃ else∃m,m<n/\I m s₃) (fun _ _=>False) s₂) (fun _ _=>False) s₁) (fun _ _=>False) s₁) (fun _ _=>False) s) (n:Nat)(h:I n s):codeAny (model prog w) A (.compLoop (.ListComp elt [⟨target,iter,ifs,0⟩] scope pos) 0 it acc env) R s:=by refine codeAny_loop rfl I (fun n s hI=>?_) n h;show wpAny _ A ((compTurn (.ListComp elt [⟨target,iter,ifs,0⟩] scope pos) 0 it acc env).onRaise (fun x=>do noteFrame x env;theTreesLotGoes x)) _ _ s;refine wpAny_noted ?_;rw[compTurn_list];refine wpAny_bind (wpAny_standAt (wpAny_bind (wpAny_mono (turn n s hI) (fun r s₁ h₁=>?_) fun _ _ h'=>h'.elim)));cases r with |none=>exact wpAny_pure h₁ |some v=>refine wpAny_bind (wpAny_mono h₁ (fun _ s₁' h₁=>?_) fun _ _ h'=>h'.elim);refine wpAny_bind (wpAny_mono h₁ (fun _ s₂ h₂=>wpAny_bind (wpAny_mono h₂ (fun ok s₃ h₃=>?_) fun _ _ h'=>h'.elim)) fun _ _ h'=>h'.elim);cases ok with |false=>exact wpAny_pure ⟨rfl,h₃⟩ |true=>exact wpAny_bind (wpAny_bind (wpAny_mono h₃ (fun x s₄ h₄=>wpAny_bind (wpAny_mono h₄ (fun _ s₅ h₅=>wpAny_pure (wpAny_pure ⟨rfl,h₅⟩)) fun _ _ h'=>h'.elim)) fun _ _ h'=>h'.elim))
def IU(X:Cx)(ifs:List Expr)(t:TT):Prop:=∀(pins:List (Addr×Obj))(s:Shared)(σ:St)(H:Hp)(Q:Bool->Hp->Prop),Inv X pins σ H s->t σ H Q->wpAny (model X.prog X.w) X.A (forIn ifs true fun c r=>if r=true then do let ok<-isTrue c X.env (eval c X.env);pure (ForInStep.yield ok)else pure (ForInStep.yield r)) (TP X pins σ Q) X.xe s
def gC:TT:=fun _ H Q=>Q true H
theorem bM{X:Cx}:IU X [] gC:=fun _ _ _ H _ I h=>wpAny_tests_nil ⟨H,I,h⟩
def fk(J:It)(g:TG)(tt:TT)(te:TE)(Q:VK)(D:Addr)(σ:St)(H:Hp):Prop:=∃W:Nat->Nat->St->Hp->Prop,(∃m,W 0 m σ H)/\∀i m σ' H',W i m σ' H'->(J.stop i H'/\Q (.ref D) H')\/(J.go i H'/\∀x H2,J.yld i H' x H2->g x σ' H2 fun σ3 H3=>tt σ3 H3 fun ok H4=>if ok=true then te σ3 H4 fun y H5=>∃ys,H5 D=some (.lst ys)/\ys.length<sizeLine/\∃m',m'<m/\W (i+1) m' σ3 (upd H5 D (.lst (ys++[y]))) else∃m',m'<m/\W (i+1) m' σ3 H4)
def Bq(js:List (Option Nat))(wi:TI)(g:TG)(tt:TT)(te:TE):TE:=fun σ H Q=>wi σ H fun J H1=>∀D H2,Nw H1 H2 D (.lst [])->fk J g tt te Q D (stC js σ) H2
theorem gZ.but{P:Program}{w:World}{H:Hp}{h h':Heap}{C:Addr}(ok:gZ P w H h)(hn:H C=none)(hs:Heap.SameBut C h h'):gZ P w H h':=fun b ob e=>by
 refine(ok b ob e).oU (fun c w' hc q=>(hs.2 c ?_).trans q) (fun _ q=>q) fun _ _ q=>q;rintro rfl;rcases hc with rfl|hc
 ·rw[hn]at e;cases e
 ·rw[hn]at hc;cases hc
set_option maxHeartbeats 1000000 in
theorem bT{X:Cx}{N:List Str}{js:List (Option Nat)}{elt tg iter:Expr}{ifs:List Expr}{scope:Scope}{pos:Pos}{wi:TI}{g:TG}{tt:TT}{te:TE}(hc:X.calm=true)(hN:zV X N js scope=true)(hS:ub X scope=true) (hi:PI X tg iter wi)(hg:∀cl s H fp pins,PG (cu X N scope cl s H fp pins) tg g)(ht:∀cl s H fp pins,IU (cu X N scope cl s H fp pins) ifs tt)(he:∀cl s H fp pins,PE (cu X N scope cl s H fp pins) elt te) (hs:∀x,foldedSetIterable iter X.env x=pure x:=by intro _;rfl):PE X (.ListComp elt [⟨tg,iter,ifs,0⟩] scope pos) (Bq js wi g tt te):=by
  intro pins s σ H Q I h;have hS':=hS;unfold ub at hS';rw[Bool.and_eq_true,Bool.and_eq_true]at hS';obtain⟨⟨k1,k2⟩,k3⟩:=hS';have hkind:scope.kind= .function:=beq_iff_eq.mp k1;have hfree:∀x∈scope.names,x.2= .free->∃c,X.env.cells.lookup x.1=some c:=fun x hx e=>by have:=List.all_eq_true.mp k3 x hx;rw[e]at this;exact I.ok.has x.1 (.inl (beq_iff_eq.mp this))
  have hcell:∀x∈scope.names,x.2≠ .cell:=fun x hx e=>by have:=List.all_eq_true.mp k3 x hx;rw[e]at this;exact Bool.false_ne_true this
  have hnames:∀x∈scope.names,x.2= .local->scope.names.lookup x.1=some .local:=fun x hx e=>by have:=List.all_eq_true.mp k3 x hx;rw[e]at this;exact beq_iff_eq.mp this
  obtain⟨cl,hclos,c1,c2⟩:=ip hfree;rw[eval_ListComp];refine wpAny_comprehension_free (use:=none) rfl hs hclos hkind hnames (cn (hi pins s σ H _ I h) fun v s1 h1=>cn h1 fun itv s2 h2=>?_);obtain⟨it,fp,tn,J,H2,e,I2,T,st2,f2,h2⟩:=h2;subst e;have hD:H2 s2.heap.objs.size=none:=I2.hok.fresh (Nat.le_refl _);obtain⟨W,⟨m0,w0⟩,turn⟩:=h2 _ _ (Nw.of hD);refine wpAny_newObj_type (wpAny_newFunctionEnv hcell (by intro y hy;simp at hy) (fun h₁ hns₁ hsb₁=>?_) hkind);have fpl:∀b∈fp,b<s2.heap.objs.size:=fun b hb=>by obtain⟨o,e,_⟩:=T.obj _ _ st2 b hb;exact Heap.lt_size e
  have I3:Inv X pins σ (upd H2 s2.heap.objs.size (.lst [])) {s2 with heap:=s2.heap.push {cls:=.type "list",dict:=none,data:=.seq ([]:List Value).toArray}}:=I2.G9 (its:=[]) (t':=s2.toks) .nil (Nat.zero_le _);generalize hH3:s2.heap.push {cls:=.type "list",dict:=none,data:=.seq ([]:List Value).toArray}=h3 at I3 hns₁ hsb₁;have sz3:h3.objs.size=s2.heap.objs.size+1:=by rw[<-hH3,Heap.size_push]
  have keep23:∀b o,s2.heap.get? b=some o->h3.get? b=some o:=fun b o e=>by rw[<-hH3];exact Heap.get?_push_of_some _ e
  have f3:∀b∈fp,j9 X pins (upd H2 s2.heap.objs.size (.lst [])) b:=fun b hb=>⟨by rw[aj (Nat.ne_of_lt (fpl b hb))];exact(f2 b hb).1,(f2 b hb).2⟩;have keep31:∀b o,h3.get? b=some o->h₁.get? b=some o:=fun b o e=>(hsb₁.2 b (Nat.ne_of_lt (Heap.lt_size e))).trans (Heap.get?_push_of_some _ e);have I4:Inv (cu X N scope cl {s2 with heap:=h3} (upd H2 s2.heap.objs.size (.lst [])) fp pins) [] (stC js σ) (upd H2 s2.heap.objs.size (.lst [])) {s2 with heap:=h₁,toks:=s2.toks+([]:List (Str×Value)).length}:=I3.comp (s:={s2 with heap:=h3}) hN hS c1 c2 f3 (fun b hb=>by show b<h3.objs.size;rw[sz3];exact Nat.lt_succ_of_lt (fpl b hb)) (by simpa using hns₁) keep31;have st4:tn 0 h₁:=T.keep _ _ _ st2 fun b _ o e=>keep31 b o (keep23 b o e);have loop:codeAny (model X.prog X.w) X.A (.compLoop (.ListComp elt [⟨tg,iter,ifs,0⟩] scope pos) 0 (.ref it) (.ref s2.heap.objs.size) (compEnvC scope cl h3.objs.size X.env)) (compPost (model X.prog X.w) X.A X.xe none (EP X pins σ Q) (.ref s2.heap.objs.size) h3.objs.size) {s2 with heap:=h₁,toks:=s2.toks+([]:List (Str×Value)).length}:=by
    refine iK (fun n s'=>∃i σ' H',Inv (cu X N scope cl {s2 with heap:=h3} (upd H2 s2.heap.objs.size (.lst [])) fp pins) [] σ' H' s'/\tn i s'.heap/\(∀b∈fp,H' b=none)/\W i n σ' H') ?_ m0 ⟨0,_,_,I4,st4,fun b hb=>(f3 b hb).1,w0⟩;rintro n s5 ⟨i,σ5,H5,I5,st5,fr5,w5⟩;have stat:∀{H':Hp},(∀b∈fp,H' b=none)->∀b∈fp,j9 (cu X N scope cl {s2 with heap:=h3} (upd H2 s2.heap.objs.size (.lst [])) fp pins) [] H' b:=fun{H'} hn b hb=>by
     obtain⟨_,q1,q2,q3,q4,q5⟩:=f3 b hb;refine⟨hn b hb,fun z=>?_,I4.ok.exfs b hb,.inl hb,fun x c e=>q4 x c (c1 x c e),fun p hp=>q5 p (by simpa[cu]using hp)⟩;have hlt:b<h3.objs.size:=by rw[sz3];exact Nat.lt_succ_of_lt (fpl b hb)
     exact Nat.ne_of_lt hlt z
    rcases turn i n σ5 H5 w5 with⟨stop,qn⟩|⟨go,step⟩
    · refine cn (T.done (cu X N scope cl {s2 with heap:=h3} (upd H2 s2.heap.objs.size (.lst [])) fp pins) rfl rfl rfl hc i [] s5 σ5 H5 _ I5 (stat fr5) st5 stop) fun r s6 ⟨hr,I6⟩=>?_
      subst hr;obtain⟨m,hm,_⟩:=I6.loc;refine⟨m,hm,fun h7 hs7=>?_⟩;have u0:Un (qx X.stack) fp (upd H2 s2.heap.objs.size (.lst [])) H5 h3 s6.heap:=I6.base;have ne:∀b o,h3.get? b=some o->b≠h3.objs.size:=fun b o e=>Nat.ne_of_lt (Heap.lt_size e);have u:Un (qx X.stack) fp (upd H2 s2.heap.objs.size (.lst [])) H5 h3 h7:=⟨fun b o e n hb hx=>(hs7.2 b (ne b o e)).trans (u0.keep b o e n hb hx),fun b o e n hb hx=>let⟨sl,q⟩:=u0.slot b o e n hb hx;⟨sl,(hs7.2 b (ne b o e)).trans q⟩,u0.free,fun b o e hx=>let⟨o',q⟩:=u0.there b o e hx;⟨o',(hs7.2 b (ne b o e)).trans q⟩,u0.tups,u0.frzs,u0.tbls⟩;have I7:Inv X pins σ H5 {s6 with heap:=h7}:=I3.B5 (s':={s6 with heap:=h7}) (ch:=fp) I6.os u (I6.hok.but I6.free hs7) I6.bare fun b hb=>⟨(f3 b hb).2.2.2.1,(f3 b hb).2.1,(f3 b hb).2.2.2.2.1,(f3 b hb).2.2.2.2.2⟩;exact⟨.ref s2.heap.objs.size,H5,I7,rfl,qn⟩
    · refine cn (T.item (cu X N scope cl {s2 with heap:=h3} (upd H2 s2.heap.objs.size (.lst [])) fp pins) rfl rfl rfl hc i [] s5 σ5 H5 _ I5 (stat fr5) st5 go) fun r s6 ⟨u,hr,h6⟩=>?_
      subst hr;refine cn h6 fun _ s7 ⟨x,H7,I7,r7,y7,st7,fr7⟩=>?_;have I7':=I7.pinned (stat fr7) (T.obj _ _ st7);refine cn (hg _ _ _ _ _ _ s7 σ5 H7 x u _ I7' r7 (step x H7 y7)) fun _ s8 ⟨σ8,H8,I8,q8⟩=>?_;refine cn (ht _ _ _ _ _ _ s8 σ8 H8 _ I8 q8) fun ok s9 ⟨H9,I9,q9⟩=>?_;have again:∀{s':Shared}{σ7:St}{H7:Hp},Inv (cu X N scope cl {s2 with heap:=h3} (upd H2 s2.heap.objs.size (.lst [])) fp pins) ([]++ja fp s7.heap) σ7 H7 s'->(∃m',m'<n/\W (i+1) m' σ7 H7)->∃m,m<n/\∃i σ' H',Inv (cu X N scope cl {s2 with heap:=h3} (upd H2 s2.heap.objs.size (.lst [])) fp pins) [] σ' H' s'/\tn i s'.heap/\(∀b∈fp,H' b=none)/\W i m σ' H':=fun{s' σ7 H7} J7 n7=>by obtain⟨m',hm,w7⟩:=n7;refine⟨m',hm,i+1,σ7,H7,J7.gF,T.keep _ _ _ st7 fun b hb o e=>(J7.pin (b,o) (List.mem_append_right _ (List.mem_append_right _ (fb hb e)))).1,fun b hb=>?_,w7⟩;obtain⟨o,e,d⟩:=T.obj _ _ st7 b hb;exact(J7.pin (b,o) (List.mem_append_right _ (List.mem_append_right _ (fb hb e)))).2.1
      cases ok with |false=>rw[if_neg Bool.false_ne_true]at q9⊢;exact again I9 q9 |true=>rw[if_pos rfl]at q9⊢;refine cn (he _ _ _ _ _ _ s9 σ8 H9 _ I9 q9) fun yv s10 ⟨y,H10,I10,r10,ys,hys,hz,w10⟩=>?_;refine cn (jg _ s10 σ8 H10 (.ref s2.heap.objs.size) [y] (.ref s2.heap.objs.size) [yv] (fun _ H11=>∃m',m'<n/\W (i+1) m' σ8 H11) I10 rfl (.cons r10 .nil) ⟨_,ys,y,rfl,rfl,hys,hz,w10⟩) fun _ s11 ⟨v11,H11,I11,r11,q11⟩=>?_;exact again I11 q11
  exact codeAny_compStart_list loop (T.self _ 0 _ _ _ st4 loop)
end L2
namespace L2
open PySem PySem.Spec PyProof.Rows
theorem jh:∀{bs:List Bool}{us:List Value},Vals (bs.map V.bl) us->us=bs.map Value.bool |[],_,.nil=>rfl |b::r,_,.cons q t=>by cases(show _=Value.bool b from q);rw[jh t];rfl
section
variable {X:Cx}
theorem kQ(hc:X.calm=true):cM X (.builtin "all") (fun xs H Q=>∃(l:Addr)(bs:List Bool),xs=[.ref l]/\bc X.K H l (bs.map V.bl)/\Q (.bl (bs.all id)) H):=by
 intro pins s σ H xs us Q I r h;obtain⟨l,bs,rfl,hl,q⟩:=h;obtain⟨u,rfl,ru⟩:=vals1 r;cases(show u=Value.ref l from ru);obtain⟨its,rv,pl,hz⟩:=I.list hl;have e:=jh rv;subst e;have hl':=pl.isList;have hlt:l<s.heap.objs.size:=by obtain⟨_,e,_⟩:=hl';exact Heap.lt_size e
 have hh:=I.ok.hd hc;refine call_all_walk (wpAny_pyIter_list hl' ?_);refine⟨s.heap.objs.size,[s.heap.objs.size,l],[s.heap.objs.size],(bs.map Value.bool).toArray.size,_,_,fun i=>(bs[i]?).getD true,rfl,Walks.list (A:=X.A.in1) hh _ l (Nat.ne_of_lt hlt) (bs.map Value.bool).toArray,⟨⟨_,Heap.get?_push_size _ rfl,rfl,rfl⟩,hl'.push _⟩,fun i v s' Q' E' hP hQ=>?_,fun h' tk hk=>?_⟩
 · have hP':(bs.map Value.bool)[i]? =some v:=by simpa using hP
   rw[List.getElem?_map]at hP';cases e:bs[i]? with |none=>rw[e]at hP';cases hP' |some b=>rw[e]at hP';cases hP';simp only[e,Option.getD_some]at hQ;exact wpAny_truthy_bool hQ
 · have e:((List.range (bs.map Value.bool).toArray.size).all fun i=>(bs[i]?).getD true)=bs.all id:=by rw[List.size_toArray,List.length_map];exact LSm.range_all bs
   rw[e];exact⟨.bl _,H,I.kept (LSm.kept_iter hk),rfl,q⟩
theorem kR(hc:X.calm=true):cM X (.builtin "any") (fun xs H Q=>∃(l:Addr)(bs:List Bool),xs=[.ref l]/\bc X.K H l (bs.map V.bl)/\Q (.bl (bs.any id)) H):=by
 intro pins s σ H xs us Q I r h;obtain⟨l,bs,rfl,hl,q⟩:=h;obtain⟨u,rfl,ru⟩:=vals1 r;cases(show u=Value.ref l from ru);obtain⟨its,rv,pl,hz⟩:=I.list hl;have e:=jh rv;subst e;have hl':=pl.isList;have hlt:l<s.heap.objs.size:=by obtain⟨_,e,_⟩:=hl';exact Heap.lt_size e
 have hh:=I.ok.hd hc;refine call_any_walk (wpAny_pyIter_list hl' ?_);refine⟨s.heap.objs.size,[s.heap.objs.size,l],[s.heap.objs.size],(bs.map Value.bool).toArray.size,_,_,fun i=>(bs[i]?).getD false,rfl,Walks.list (A:=X.A.in1) hh _ l (Nat.ne_of_lt hlt) (bs.map Value.bool).toArray,⟨⟨_,Heap.get?_push_size _ rfl,rfl,rfl⟩,hl'.push _⟩,fun i v s' Q' E' hP hQ=>?_,fun h' tk hk=>?_⟩
 · have hP':(bs.map Value.bool)[i]? =some v:=by simpa using hP
   rw[List.getElem?_map]at hP';cases e:bs[i]? with |none=>rw[e]at hP';cases hP' |some b=>rw[e]at hP';cases hP';simp only[e,Option.getD_some]at hQ;exact wpAny_truthy_bool hQ
 · have e:((List.range (bs.map Value.bool).toArray.size).any fun i=>(bs[i]?).getD false)=bs.any id:=by rw[List.size_toArray,List.length_map];exact LSm.range_any bs
   rw[e];exact⟨.bl _,H,I.kept (LSm.kept_iter hk),rfl,q⟩
end
theorem fK{J:It}{g:TG}{tt:TT}{te:TE}{Q:VK}{D:Addr}{σ:St}{H:Hp}(n:Nat)(Pv:Nat->St->Hp->Prop)(h0:Pv 0 σ H) (hs:∀i σ H,i<n->Pv i σ H->J.go i H/\∀x H2,J.yld i H x H2->g x σ H2 fun σ3 H3=>tt σ3 H3 fun ok H4=>if ok=true then te σ3 H4 fun y H5=>∃ys,H5 D=some (.lst ys)/\ys.length<sizeLine/\∃m',m'<n-i/\m'=n-(i+1)/\i+1<=n/\Pv (i+1) σ3 (upd H5 D (.lst (ys++[y]))) else∃m',m'<n-i/\m'=n-(i+1)/\i+1<=n/\Pv (i+1) σ3 H4) (hd:∀σ H,Pv n σ H->J.stop n H/\Q (.ref D) H): fk J g tt te Q D σ H:=by
  refine⟨fun i m σ H=>m=n-i/\i<=n/\Pv i σ H,⟨n,by simp,Nat.zero_le _,h0⟩,?_⟩;rintro i m σ H ⟨rfl,hi,p⟩;by_cases hlt:i<n
  ·exact .inr (hs i σ H hlt p)
  · have e:i=n:=by omega
    subst e;exact .inl (hd σ H p)
end L2
namespace L2
open PySem PySem.Spec PyProof.Rows
section
variable {X:Cx} {tg:Expr}
theorem cw(K:PySem.W.Frag)(h:X.K=K):Bg X (fun x y H Q=>G5 K x y H Q\/G6 K x y H Q):=by subst h;exact zS.or D9
inductive Br(K:PySem.W.Frag)(x:V)(lo:Option Int)(hi:Option Int)(H:Hp)(Q:VK):Prop |mk (a:_)(xs:_)(h0:x= .ref a)(h1:((bc K H a xs/\∀p H',Nw H H' p (.lst (ko xs lo hi))->Q (.ref p) H')\/ (bG K H a xs/\¬(HT.eQ xs.length 0 lo=0/\HT.eQ xs.length xs.length hi=xs.length)/\∀p H',Nw H H' p (.tup (ko xs lo hi))->Q (.ref p) H'))):Br K x lo hi H Q
def IV(K:PySem.W.Frag):V->Option Int->Option Int->Hp->VK->Prop:=fun x lo hi H Q=>Br K x lo hi H Q
theorem IW(K:PySem.W.Frag)(h:X.K=K):Ii X (IV K):=by
 subst h;intro pins s σ H x v vl vu lo hi sl Q I rx hs pl pu hq;obtain⟨a,xs,e,hq⟩:=hq;rcases hq with⟨h1,k⟩|⟨h1,h2,k⟩
 ·exact zT pins s σ H x v vl vu lo hi sl Q I rx hs pl pu ⟨a,xs,e,h1,fun p hp=>k p _ (.of hp)⟩
 ·exact D8 pins s σ H x v vl vu lo hi sl Q I rx hs pl pu ⟨a,xs,e,h1,h2,fun p hp=>k p _ (.of hp)⟩
theorem dw(K:PySem.W.Frag)(h:X.K=K):cM X (.builtin "len") (fun xs H Q=>∃p ys,xs=[.ref p]/\(bc K H p ys\/bG K H p ys)/\Q (.int ys.length) H):=by subst h;exact md
theorem dc(K:PySem.W.Frag)(h:X.K=K):cM X (.builtin "isinstance") (fun xs H Q=>Ga K xs H Q\/Bl K xs H Q):=by subst h;exact vQ.or u9
theorem fT(K:PySem.W.Frag)(h:X.K=K)(hu:X.A.units+64<cLine):gj X (compareOp .Eq) (fun x y H Q=>qA (fun i j=>.bl (decide (i=j))) x y H Q\/Di K x y H Q):=by subst h;exact Dp hu
theorem qO(K:PySem.W.Frag)(h:X.K=K)(hu:X.A.units+64<cLine):gj X (compareOp .NotEq) (fun x y H Q=>qA (fun i j=>.bl (!decide (i=j))) x y H Q\/Dj K x y H Q):=by subst h;exact Dq hu
theorem mi(K:PySem.W.Frag)(h:X.K=K)(hc:X.calm=true):cM X (.builtin "all") (fun xs H Q=>∃(l:Addr)(bs:List Bool),xs=[.ref l]/\bc K H l (bs.map V.bl)/\Q (.bl (bs.all id)) H):=by subst h;exact kQ hc
theorem Gb(K:PySem.W.Frag)(h:X.K=K)(hc:X.calm=true):cM X (.builtin "any") (fun xs H Q=>∃(l:Addr)(bs:List Bool),xs=[.ref l]/\bc K H l (bs.map V.bl)/\Q (.bl (bs.any id)) H):=by subst h;exact kR hc
theorem vT(K:PySem.W.Frag)(h:X.K=K):cM X (.type "list") (fun xs H Q=>∃p ys,xs=[.ref p]/\(bc K H p ys\/bG K H p ys)/\∀l H',Nw H H' l (.lst ys)->Q (.ref l) H'):=by subst h;intro pins s σ H xs us Q I r hq;obtain⟨p,ys,e,h1,k⟩:=hq;exact mh pins s σ H xs us Q I r ⟨p,ys,e,h1,fun l hl=>k l _ (.of hl)⟩
theorem fe(K:PySem.W.Frag)(h:X.K=K):cM X (.type "tuple") (fun xs H Q=>∃p ys,xs=[.ref p]/\((bc K H p ys/\∀l H',Nw H H' l (.tup ys)->Q (.ref l) H')\/(bG K H p ys/\Q (.ref p) H))):=by subst h;intro pins s σ H xs us Q I r hq;obtain⟨p,ys,e,h1⟩:=hq;exact kP pins s σ H xs us Q I r ⟨p,ys,e,h1.imp (fun⟨a,k⟩=>⟨a,fun l hl=>k l _ (.of hl)⟩) id⟩
def Gd(t:TA):TE:=fun σ H Q=>t σ H fun xs H1=>xs.length<=sizeLine/\∀p H',Nw H1 H' p (.tup xs)->Q (.ref p) H'
def Ge(t:TA):TE:=fun σ H Q=>t σ H fun xs H1=>xs.length<=sizeLine/\∀p H',Nw H1 H' p (.lst xs)->Q (.ref p) H'
theorem bF{es:List Expr}{t:TA}{pos:Pos} {x1}(h:PA X es t):PE X (.Tuple es x1 pos) (Gd t):=by intro pins s σ H Q I hq;refine wpAny_Tuple_spliced (cn (h pos pins s σ H _ I hq) fun us s1 ⟨xs,H1,I1,r,z,q⟩=>⟨by rw[<-r.length];exact z,?_⟩);have hf:H1 s1.heap.objs.size=none:=I1.hok.fresh (Nat.le_refl _);refine⟨.ref s1.heap.objs.size,upd H1 s1.heap.objs.size (.tup xs),I1.laid (t':=s1.toks) (fun b u e=>Heap.get?_push_of_some _ e) (Nat.le_refl _) ?_,rfl,q _ _ (.of hf)⟩;exact⟨z,us,r,⟨_,Heap.get?_push_size _ rfl,rfl,_,rfl⟩⟩
theorem bE{es:List Expr}{t:TA}{pos:Pos}(h:PA X es t):PE X (.List es pos) (Ge t):=by intro pins s σ H Q I hq;refine wpAny_List_spliced (cn (h pos pins s σ H _ I hq) fun us s1 ⟨xs,H1,I1,r,z,q⟩=>⟨by rw[<-r.length];exact z,?_⟩);have hf:H1 s1.heap.objs.size=none:=I1.hok.fresh (Nat.le_refl _);refine⟨.ref s1.heap.objs.size,upd H1 s1.heap.objs.size (.lst xs),I1.laid (t':=s1.toks) (fun b u e=>Heap.get?_push_of_some _ e) (Nat.le_refl _) ?_,rfl,q _ _ (.of hf)⟩;exact⟨z,us,0,r,Heap.get?_push_size _ rfl⟩
theorem Ik(K:PySem.W.Frag)(h:X.K=K){l:Expr}{tl:TE}(hl:PE X l tl):PI X tg l (Ba K tl):=by subst h;exact zI hl
theorem Bs(K:PySem.W.Frag)(h:X.K=K){l:Expr}{tl:TE}(hl:PE X l tl):PI X tg l (FR K tl):=by subst h;exact CY hl
theorem gD(K:PySem.W.Frag)(h:X.K=K){es:List Expr}{k:Nat}{t:zB}{n:Nat}{pos:Pos}(hc:X.calm=true)(hg:FO X es t)(hn:(assignEach es X.env).length=n:=by rfl)(hst:(assignEach es X.env).findIdx? (·.1)=none:=by rfl): PG X (.Tuple es k pos) (m3 K n t):=by subst h;exact CU hc hg hn hst
theorem fA(K:PySem.W.Frag)(h:X.K=K){o e:Expr}{to:TE}{t:TA}{apos cpos:Pos}(ho:PE X o to)(ha:PA X [e] t) (hbase:attributeBase o "append" X.env (eval o X.env)=eval o X.env:=by rfl) (hfew:((backTo cpos (starEach [e] X.env)).all (fun x=>!x.1)&&(backToKw cpos (keywordEach [] X.env)).all (fun x=>x.1.isSome) &&decide ([e].length+([]:List Keyword).length+(if([]:List Keyword).isEmpty then 0 else 1)<30))=true:=by rfl) (hline:(apos.endLine==cpos.line)=true:=by rfl)(hs:starEach [e] X.env=(false,eval e X.env)::starEach [] X.env:=by rfl)(hplain:(backTo cpos (starEach [] X.env)).any (·.1)=false:=by rfl): PE X (.Call (.Attribute o "append" apos) [e] [] cpos) (Ij K "list" qH to t):=by subst h;exact vB PySem.F.plainAttrs_list PySem.F.slot_list_append PySem.F.type_list_append jg ho ha hbase hfew hline hs hplain
theorem zW{j:Nat}{x:V}{σ:St}{H:Hp}{A B:St->Hp->Prop}(h:A (σ.set j (some x)) H):cS j x σ H fun σ3 H3=>gC σ3 H3 fun ok H4=>if ok=true then A σ3 H4 else B σ3 H4:=by show if true=true then A (σ.set j (some x)) H else B (σ.set j (some x)) H;rw[if_pos rfl];exact h
theorem yes{σ:St}{H:Hp}{Q:Bool->Hp->Prop}(h:Q true H):gC σ H Q:=h
end
end L2
namespace L2
open PySem PySem.Spec PyProof.Rows
theorem bc.go{K:PySem.W.Frag}{H H':Hp}{a:Addr}{xs:List V}(s:aI H H')(h:bc K H a xs):bc K H' a xs:=h.imp (fun r=>r.imp (s _ _) fun⟨o,e⟩=>⟨o,s _ _ e⟩) id
theorem bG.go{K:PySem.W.Frag}{H H':Hp}{a:Addr}{xs:List V}(s:aI H H')(h:bG K H a xs):bG K H' a xs:=h.imp (fun r=>r.imp (s _ _) fun⟨o,e⟩=>⟨o,s _ _ e⟩) id
mutual
theorem RD.mono{K:PySem.W.Frag}{H H':Hp}(s:aI H H'):∀{x:V}(d:PyData),RD K H x d->RD K H' x d |x,.none,h=>by simpa[RD]using h |x,.bool b,h=>by simpa[RD]using h |x,.int i,h=>by simpa[RD]using h |x,.str y,h=>by simpa[RD]using h |x,.list ds,h=>by rw[RD]at h⊢;obtain⟨a,xs,e,h1,h2⟩:=h;exact⟨a,xs,e,h1.go s,bj.mono s ds h2⟩ |x,.tuple ds,h=>by rw[RD]at h⊢;obtain⟨a,xs,e,h1,h2⟩:=h;exact⟨a,xs,e,h1.go s,bj.mono s ds h2⟩ |x,.dict _,h=>by simp[RD]at h
theorem bj.mono {K:PySem.W.Frag}{H H':Hp}(s:aI H H'):∀{xs:List V}(ds:List PyData),bj K H xs ds->bj K H' xs ds |xs,[],h=>by simpa[bj]using h |xs,d::ds,h=>by rw[bj]at h⊢;obtain⟨y,ys,e,h1,h2⟩:=h;exact⟨y,ys,e,RD.mono s d h1,bj.mono s ds h2⟩
end
section
variable {K:PySem.W.Frag} {H H':Hp}
theorem bj.nil_inv{xs:List V}(h:bj K H xs []):xs=[]:=by simpa[bj]using h
theorem bj.cons_inv{xs:List V}{d:PyData}{ds:List PyData}(h:bj K H xs (d::ds)):∃y ys,xs=y::ys/\RD K H y d/\bj K H ys ds:=by rw[bj]at h;exact h
theorem RD.bu{x:V}{ds:List PyData}(h:RD K H x (.tuple ds)):∃a xs,x= .ref a/\bG K H a xs/\bj K H xs ds:=by rw[RD]at h;exact h
theorem RD.lst_inv{x:V}{ds:List PyData}(h:RD K H x (.list ds)):∃a xs,x= .ref a/\bc K H a xs/\bj K H xs ds:=by rw[RD]at h;exact h
theorem RD.int_inv{x:V}{i:Int}(h:RD K H x (.int i)):x= .int i:=by rw[RD]at h;exact h
theorem RD.Dt{x:V}{i:Bool}(h:RD K H x (.bool i)):x= .bl i:=by rw[RD]at h;exact h
theorem RD.str_inv{x:V}{i:Str}(h:RD K H x (.str i)):x= .str i:=by rw[RD]at h;exact h
theorem RD.qP{x:V}(h:RD K H x .none):x= .cG:=by rw[RD]at h;exact h
theorem bj.length:∀{xs:List V}{ds:List PyData},bj K H xs ds->xs.length=ds.length |xs,[],h=>by rw[h.nil_inv];rfl |xs,d::ds,h=>by obtain⟨y,ys,rfl,_,h2⟩:=h.cons_inv;rw[List.length_cons,List.length_cons,bj.length h2]
theorem bj.append:∀{xs ys:List V}{ds es:List PyData},bj K H xs ds->bj K H ys es->bj K H (xs++ys) (ds++es) |xs,ys,[],es,h,g=>by rw[h.nil_inv];exact g |xs,ys,d::ds,es,h,g=>by obtain⟨y,zs,rfl,h1,h2⟩:=h.cons_inv;exact aP h1 (bj.append h2 g)
theorem bj.drop:∀(n:Nat){xs:List V}{ds:List PyData},bj K H xs ds->bj K H (xs.drop n) (ds.drop n) |0,xs,ds,h=>h |n+1,xs,[],h=>by rw[h.nil_inv];exact ba |n+1,xs,d::ds,h=>by obtain⟨y,zs,rfl,h1,h2⟩:=h.cons_inv;exact bj.drop n h2
theorem bj.get:∀(n:Nat){xs:List V}{ds:List PyData}{d:PyData},bj K H xs ds->ds[n]? =some d->∃x,xs[n]? =some x/\RD K H x d
  |n,xs,[],d,h,e=>by simp at e |0,xs,d'::ds,d,h,e=>by
    obtain⟨y,zs,rfl,h1,h2⟩:=h.cons_inv;have e':d'=d:=by simpa using e
    subst e';exact⟨y,rfl,h1⟩ |n+1,xs,d'::ds,d,h,e=>by obtain⟨y,zs,rfl,h1,h2⟩:=h.cons_inv;exact bj.get n h2 (by simpa using e)
theorem bj.get'(n:Nat){xs:List V}{ds:List PyData}{x:V}(h:bj K H xs ds)(e:xs[n]? =some x):∃d,ds[n]? =some d/\RD K H x d:=by
 have hl:n<ds.length:=by rw[<-h.length];exact(List.getElem?_eq_some_iff.mp e).1
 obtain⟨y,e1,r⟩:=h.get n (List.getElem?_eq_getElem hl);rw[e]at e1;cases e1;exact⟨_,List.getElem?_eq_getElem hl,r⟩
def zC:PyData->String | .none=>"NoneType" | .bool _=>"bool" | .int _=>"int" | .str _=>"str" | .list _=>"list" | .tuple _=>"tuple" | .dict _=>"dict"
theorem RD.ty{x:V}:∀{d:PyData},RD K H x d->Dh K H x (zC d) | .none,h=>by rw[h.qP];rfl | .bool b,h=>by rw[h.Dt];rfl | .int b,h=>by rw[h.int_inv];rfl | .str b,h=>by rw[h.str_inv];rfl | .list ds,h=>by obtain⟨a,xs,rfl,h1,_⟩:=h.lst_inv;exact .inl ⟨rfl,xs,h1⟩ | .tuple ds,h=>by obtain⟨a,xs,rfl,h1,_⟩:=h.bu;exact .inr ⟨rfl,xs,h1⟩ | .dict _,h=>by simp[RD]at h
structure hW(n:Nat)(d:PyData):Prop where
 lay:d.canLay0=true
 dep:d.depth<=n
def fI(n:Nat)(ds:List PyData):Prop:=∀d∈ds,hW n d
theorem hW.le{n m:Nat}{d:PyData}(h:hW n d)(l:n<=m):hW m d:=⟨h.lay,Nat.le_trans h.dep l⟩
theorem fX{n:Nat}:∀{ds:List PyData},fI n ds↔(PyData.canLayAll0 ds=true/\PyData.depthAll ds<=n)
  |[]=>⟨fun _=>⟨rfl,Nat.zero_le _⟩,fun _ _ h=>nomatch h⟩ |d::ds=>by
    have ih:=fX (n:=n) (ds:=ds);simp only[PyData.canLayAll0,PyData.depthAll,Bool.and_eq_true];constructor
    · intro h
      have h1:=h d (.head _);have h2:=ih.mp fun x hx=>h x (.tail _ hx);exact⟨⟨h1.lay,h2.1⟩,Nat.max_le.mpr ⟨h1.dep,h2.2⟩⟩
    · rintro⟨⟨a,b⟩,c⟩ x hx
      have c':=Nat.max_le.mp c;rcases List.mem_cons.mp hx with rfl|hx
      ·exact⟨a,c'.1⟩
      ·exact ih.mpr ⟨b,c'.2⟩ x hx
theorem fI.tup{n:Nat}{ds:List PyData}(h:fI n ds):hW (n+1) (.tuple ds):=⟨by simpa[PyData.canLay0]using(fX.mp h).1,by simpa[PyData.depth]using(fX.mp h).2⟩
theorem fI.lst{n:Nat}{ds:List PyData}(h:fI n ds):hW (n+1) (.list ds):=⟨by simpa[PyData.canLay0]using(fX.mp h).1,by simpa[PyData.depth]using(fX.mp h).2⟩
theorem hW.bu{n:Nat}{ds:List PyData}(h:hW (n+1) (.tuple ds)):fI n ds:=fX.mpr ⟨by simpa[PyData.canLay0]using h.lay,by simpa[PyData.depth]using h.dep⟩
theorem hW.int{n:Nat}(i:Int):hW n (.int i):=⟨rfl,Nat.zero_le _⟩
theorem fI.nil{n:Nat}:fI n []:=fun _ h=>nomatch h
theorem fI.cons{n:Nat}{d:PyData}{ds:List PyData}(h:hW n d)(g:fI n ds):fI n (d::ds):=fun x hx=>by
 rcases List.mem_cons.mp hx with rfl|hx
 ·exact h
 ·exact g x hx
theorem hW.shaped{n:Nat}{d:PyData}(h:hW n d)(l:n<=64):SeqAt.shaped d=true:=by unfold SeqAt.shaped;rw[h.lay,Bool.true_and];exact decide_eq_true (Nat.le_trans h.dep l)
theorem hW.refl{n:Nat}{d:PyData}(h:hW n d):PyData.eqv d d=true:=eqv_refl d h.lay
variable {p:Addr}{n m:Nat}{v:V}{vs:List V}{d:PyData}{ds es:List PyData}
end
section
variable {X:Cx}
end
end L2
namespace HT
open PySem PySem.Spec PyProof.Rows
section
variable {prog:Program}{w:World}{A:Around}{E:Value->Shared->Prop}{s:Shared}
end
end HT
namespace L2
open PySem PySem.Spec PyProof.Rows
section
variable {X:Cx}
end
section
variable {X:Cx}
end
end L2
namespace L2
theorem bB{α:Type}{xs:List α}{i:Int}{v:α}(h0:0<=i)(h:xs[i.toNat]? =some v):jJ xs i=some v:=by have hl:i.toNat<xs.length:=(List.getElem?_eq_some_iff.mp h).1;unfold jJ oT;rw[if_pos h0,if_pos (by omega)];exact h
end L2
namespace L2
open PySem PySem.Spec PyProof.Rows
theorem aQ(n:Nat)(h:n<=1000):n<=sizeLine:=Nat.le_trans h (by decide)
end L2
namespace L2
open PySem PySem.Spec PyProof.Rows
end L2
namespace L2
open PySem PySem.Spec PyProof.Rows
def GV(mg:Str->Option Value)(x:Str)(v:V):Prop:=∃u,mg x=some u/\RelV v u
def GT(K:PySem.W.Frag)(mg:Str->Option Value)(x:Str)(vs:List V):Prop:=∃a,GV mg x (.ref a)/\∀H,bG K H a vs
theorem eg{X:Cx}{x:Str}{v:V}{pos:Pos}(hg:Gl X x)(h:GV X.mg x v)(hd:(x==("__debug__":Str))=false:=by decide):PE X (.Name x pos) (tC v):=by obtain⟨u,hm,r⟩:=h;exact zG hg hm r hd
section
variable {K:PySem.W.Frag}{mg:Str->Option Value}{h:Heap}
theorem gI{x:Str}{i:Int}{t:Tok}(X:K.In h)(G:h.Ns mainGlobals mg)(a:PySem.W.nsIn K mainGlobals x=some (some (.int i t))):GV mg x (.int i):=⟨_,PySem.W.mg_of X G a,t,rfl⟩
theorem Bt{x:Str}{vs:List V}{b:Addr}{its:Array Value}{n:Nat}{od:Option Addr}{osl:Array (Option Value)}(X:K.In h)(G:h.Ns mainGlobals mg)(a:PySem.W.nsIn K mainGlobals x=some (some (.ref b))) (l:K.lookup b=some ⟨.type "tuple",od,.seq its n,osl⟩)(hz:its.size<=sizeLine)(r:Vals vs its.toList):GT K mg x vs:=⟨b,⟨_,PySem.W.mg_of X G a,rfl⟩,fun H=>.inr ⟨_,its,n,l,rfl,rfl,hz,r⟩⟩
end
section
variable {X:Cx}
end
theorem qQ{J:It}{xs:List V}{bs:List Bool}{te:TE}{Q:VK}{D:Addr}{H H0:Hp}(rest:St)(nw:Nw H H0 D (.lst []))(hl:xs.length=bs.length)(hz:xs.length<=1000) (go:∀i x H2,xs[i]? =some x->aI H H2->J.go i H2/\∀y H3,J.yld i H2 y H3->H3=H2/\y=x)(stop:∀H2,aI H H2->J.stop xs.length H2) (hs:∀(i:Nat)(x:V)(b:Bool)(H2:Hp)(Q':VK),xs[i]? =some x->bs[i]? =some b->aI H H2->(∀H3,aI H2 H3->Q' (.bl b) H3)->te (some x::rest) H2 Q') (hq:∀H',aI H H'->H' D=some (.lst (bs.map V.bl))->Q (.ref D) H'):fk J (cS 0) gC te Q D (none::rest) H0:=by
  have hD:=nw.no;refine fK xs.length (fun i σ H2=>aI H H2/\H2 D=some (.lst ((bs.take i).map V.bl))/\∃v,σ=v::rest) ?_ ?_ ?_
  ·exact⟨nw.same,nw.at',none,rfl⟩
  · rintro i σ H2 hi ⟨s2,d2,v,rfl⟩
    have hib:i<bs.length:=by rw[<-hl];exact hi
    have ex:=List.getElem?_eq_getElem hi;have eb:=List.getElem?_eq_getElem hib;obtain⟨g1,g2⟩:=go i _ H2 ex s2;refine⟨g1,fun y H3 hy=>?_⟩;obtain⟨rfl,rfl⟩:=g2 y H3 hy;refine zW ?_;refine hs i _ _ _ _ ex eb s2 fun H4 s4=>?_;refine⟨_,s4 _ _ d2,?_,xs.length-(i+1),by omega,rfl,by omega,fun b o e=>?_,?_,_,rfl⟩
    · rw[List.length_map,List.length_take]
      have:(1000:Nat)<sizeLine:=by decide
      omega
    ·rw[aj (aX e hD)];exact s4 b o (s2 b o e)
    ·rw[au,List.take_succ,eb,List.map_append];rfl
  · rintro σ H2 ⟨s2,d2,v,rfl⟩
    refine⟨stop H2 s2,hq H2 s2 ?_⟩;rw[d2,hl,List.take_length]
theorem nM{K:PySem.W.Frag}{a:Addr}{xs:List V}{bs:List Bool}{te:TE}{Q:VK}{D:Addr}{H H0:Hp}(rest:St)(hx:bG K H a xs)(nw:Nw H H0 D (.lst []))(hl:xs.length=bs.length)(hz:xs.length<=1000) (hs:∀(i:Nat)(x:V)(b:Bool)(H2:Hp)(Q':VK),xs[i]? =some x->bs[i]? =some b->aI H H2->(∀H3,aI H2 H3->Q' (.bl b) H3)->te (some x::rest) H2 Q') (hq:∀H',aI H H'->H' D=some (.lst (bs.map V.bl))->Q (.ref D) H'):fk (B9 K a) (cS 0) gC te Q D (none::rest) H0:=qQ rest nw hl hz (fun i x H2 e s=>⟨⟨xs,x,hx.go s,e⟩,fun y H3 ⟨e3,y3⟩=>⟨e3,by have:=y3 _ (hx.go s);rw[e]at this;exact(Option.some.inj this).symm⟩⟩) (fun H2 s=>⟨xs,hx.go s,Nat.le_refl _⟩) hs hq
theorem qR{ds:List PyData}{f:PyData->Bool}{i:Nat}{b:Bool}(h:(ds.map f)[i]? =some b):∃d,ds[i]? =some d/\f d=b:=by rw[List.getElem?_map]at h;cases e:ds[i]? with |none=>rw[e]at h;cases h |some d=>rw[e]at h;exact⟨d,rfl,Option.some.inj h⟩
theorem all_map{ds:List PyData}{f:PyData->Bool}:(ds.map f).all id=ds.all f:=by rw[List.all_map];rfl
end L2
namespace L2
open PySem PySem.Spec PyProof.Rows
section
variable {X:Cx}
inductive vU(K:PySem.W.Frag)(x:V)(y:V)(H:Hp)(Q:VK):Prop |mk (a:_)(b:_)(xs:_)(ys:_)(h0:x= .ref a)(h1:y= .ref b)(h2:bc K H a xs)(h3:bc K H b ys)(h4:xs.length+ys.length<=sizeLine)(h5:∀p H',Nw H H' p (.lst (xs++ys))->Q (.ref p) H'):vU K x y H Q
def Gf(K:PySem.W.Frag):R2:=fun x y H Q=>vU K x y H Q
theorem uc(K:PySem.W.Frag)(hK:X.K=K):gj X (binaryOp .Add) (Gf K):=by
 subst hK;intro pins s σ H x y v u Q I rx ry h;obtain⟨a,b,xs,ys,rfl,rfl,ha,hb,hz,q⟩:=h;cases rx;cases ry;obtain⟨its,r1,p1,_⟩:=I.list ha;obtain⟨its2,r2,p2,_⟩:=I.list hb;obtain⟨⟨cls,dd,data,sl⟩,n,ho,hc,hdd,hd⟩:=id p1;obtain⟨⟨cls2,dd2,data2,sl2⟩,n2,ho2,hc2,hdd2,hd2⟩:=id p2;simp only at hc hd hc2 hd2;subst hc hd hc2 hd2;have e:its.toArray++its2.toArray=(its++its2).toArray:=by simp
 refine concat_meets ⟨_,ho,rfl⟩ ⟨_,ho2,rfl⟩ noFill_list_add seq_list_add PySem.F.slot_list_add PySem.F.entry_list_add (PySem.F.args_list_add_2 _ _) (list_addW a b its.toArray its2.toArray n n2 dd dd2 sl sl2 (by rw[List.size_toArray,List.size_toArray,<-r1.length,<-r2.length];exact hz)) ⟨ho,ho2,?_⟩;rw[e];have nw:Nw H (upd H s.heap.objs.size (.lst (xs++ys))) s.heap.objs.size (.lst (xs++ys)):=.of (I.hok.fresh (Nat.le_refl _));refine⟨.ref s.heap.objs.size,_,I.laid (t':=s.toks) (o:=.lst (xs++ys)) (fun b ob q=>Heap.get?_push_of_some _ q) (Nat.le_refl _) ?_,rfl,q _ _ nw⟩;exact⟨by rw[List.length_append];exact hz,_,0,r1.append r2,Heap.get?_push_size _ rfl⟩
open Classical in
noncomputable def Du(h:Heap)(d:PyData)(w:Value):Bool:=if q:∃e as,Reads h w e as then PyData.eqv q.choose d else false
theorem Dv{h:Heap}{d e:PyData}{w:Value}{as:List Addr}(r:Reads h w e as):Du h d w=PyData.eqv e d:=by have q:∃e as,Reads h w e as:=⟨e,as,r⟩;unfold Du;rw[dif_pos q];obtain⟨as',r'⟩:=q.choose_spec;rw[(Reads.unique r' e as r).1]
theorem vV{pins:List (Addr×Obj)}{s:Shared}{σ:St}{H:Hp}(I:Inv X pins σ H s)(hu:X.A.units+65<cLine){x:V}{u:Value}{d:PyData}(rx:RelV x u)(hd:RD X.K H x d)(sd:SeqAt.shaped d=true): ∀{xs:List V}{us:List Value}{ds:List PyData},Vals xs us->bj X.K H xs ds->(∀e∈ds,SeqAt.shaped e=true)->(∀w∈us,SeqAt.EqAt X.A.in1 s w u (Du s.heap d w))/\us.any (Du s.heap d)=ds.any fun e=>PyData.eqv e d |xs,us,[],rv,h,_=>by cases h.nil_inv;cases rv;exact⟨fun _ h=>(List.not_mem_nil h).elim,rfl⟩ |xs,us,e::ds,rv,h,se=>by obtain⟨y,ys,rfl,h1,h2⟩:=h.cons_inv;cases rv with |cons ra rb=>
      rename_i w ws;obtain⟨as,q1⟩:=RD.reads I e ra h1;obtain⟨bs,q2⟩:=RD.reads I d rx hd;have key:SeqAt.EqAt X.A.in1 s w u (PyData.eqv e d):=SeqAt.eqAt_reads e d X.A.in1 s w u as bs q1 q2 (SeqAt.canLay_of_shaped (se e (.head _))) (SeqAt.canLay_of_shaped sd) (SeqAt.room_of_shaped (se e (.head _)) (by show X.A.units+1+64<cLine;omega));obtain⟨k1,k2⟩:=vV I hu rx hd sd rb h2 (fun e' he=>se e' (.tail _ he));have ew:Du s.heap d w=PyData.eqv e d:=Dv q1;refine⟨fun z hz=>?_,?_⟩
      · rcases List.mem_cons.mp hz with rfl|hz
        ·rw[ew];exact key
        ·exact k1 z hz
      ·rw[List.any_cons,List.any_cons,ew,k2]
end
end L2
namespace L2
theorem dF.Dw{k:Nat}{A:PySem.Around}(r:dF k A):A.units+65<PySem.cLine:=by have:=r.un;omega
end L2
namespace L2
open PySem PySem.Spec PyProof.Rows
def pE(b:Bool)(h:Heap)(it l:Addr)(k:Nat):Prop:=match b with|true=>h.IsListIter it l k|false=>h.IsTupleIter it l k
def kS(b:Bool)(h:Heap)(l:Addr)(xs:Array Value):Prop:=match b with|true=>h.IsList l xs|false=>h.IsTuple l xs
def Bu(b:Bool):String:=match b with|true=>"list_iterator"|false=>"tuple_iterator"
theorem pE.to{b:Bool}{h g:Heap}{it l:Addr}{k:Nat}(x:pE b h it l k)(e:∀o,h.get? it=some o->g.get? it=some o):pE b g it l k:=by cases b<;>(obtain⟨o,ho,r⟩:=x;exact⟨o,e o ho,r⟩)
theorem kS.to{b:Bool}{h g:Heap}{l:Addr}{xs:Array Value}(x:kS b h l xs)(e:∀o,h.get? l=some o->g.get? l=some o):kS b g l xs:=by cases b<;>(obtain⟨o,ho,r⟩:=x;exact⟨o,e o ho,r⟩)
theorem pE.ob{b:Bool}{h:Heap}{it l:Addr}{k:Nat}(x:pE b h it l k):∃o,h.get? it=some o/\o.cls= .type (Bu b)/\∀v,o.data≠ .cell v:=by cases b<;>(obtain⟨o,ho,c,d⟩:=x;exact⟨o,ho,c,fun v z=>by rw[d]at z;cases z⟩)
section
variable {prog:Program}{w:World}{A:Around}{E:Value->Shared->Prop}{s:Shared}
theorem ud{b:Bool}{l:Addr}{xs:Array Value}{Q:Value->Shared->Prop}(x:kS b s.heap l xs) (q:Q (.ref s.heap.objs.size) {s with heap:=s.heap.push {cls:=.type (Bu b),data:=.fields #[.ref l,.int 0 0]}}):wpAny (model prog w) A (pyIter (.ref l)) Q E s:=by
  cases b
  ·exact wpAny_pyIter_tuple x q
  ·exact wpAny_pyIter_list x q
theorem Dx{it t:Addr}{k:Nat}{ts:Array Value}{x:Value}{Q:Value->Shared->Prop}(hi:s.heap.IsTupleIter it t k)(ht:s.heap.IsTuple t ts)(hx:ts[k]? =some x) (q:∀g,g.IsTupleIter it t (k+1)->Heap.SameBut it s.heap g->Q x {s with heap:=g}):wpAny (model prog w) A (Builtin.SmallTypes.nextOf (.ref it)) Q E s:=by obtain⟨oi,hoi,ci,di⟩:=id hi;obtain⟨ot,hot,_,nt,dt⟩:=ht;unfold Builtin.SmallTypes.nextOf;refine wpAny_bind (wpAny_callSpecial?_slot (name:=Str.ofString "__next__") hi.typeIs PySem.F.slot_tuple_iterator_next (wpAny_call_entry PySem.F.slot_tuple_iterator_next hi.typeIs PySem.F.entry_tuple_iterator_next ?_ (PySem.F.args_tuple_iterator_next_1 _)));show wpAny _ _ (field (.ref it) 0>>=_) _ _ s;refine wpAny_bind (wpAny_field hoi di (x:=.ref t) rfl ?_);show wpAny _ _ (if(Value.ref t==Value.none)=true then _ else _) _ _ s;rw[if_neg (show¬((Value.ref t==Value.none)=true)from Bool.false_ne_true)];show wpAny _ _ (field (.ref it) 1>>=_) _ _ s;refine wpAny_bind (wpAny_field hoi di (x:=.int k 0) rfl ?_);show wpAny _ _ (seqItems? (.ref t)>>=_) _ _ s;refine wpAny_bind (wpAny_seqItems hot dt ?_);simp only[Int.toNat_natCast,hx];refine wpAny_bind (wpAny_setField hoi di (by simp) (wpAny_pure ⟨x,rfl,wpAny_pure (q _ ?_ (Heap.SameBut.update ..))⟩));exact⟨_,Heap.get?_update_self _ hoi (Obj.isFreed_of_fields (Obj.data_mapFields di _)),(Obj.cls_mapFields ..).trans ci,by rw[Obj.data_mapFields di];simp[rawInt]⟩
theorem Dy{it t:Addr}{k:Nat}{ts:Array Value}{Q:Value->Shared->Prop}(hh:A.handled=none)(hi:s.heap.IsTupleIter it t k)(ht:s.heap.IsTuple t ts)(hx:ts[k]? =none) (q:∀g e,Heap.ExtBut it s.heap g->(∃o,g.get? e=some o/\o.cls= .type "StopIteration")->E (.ref e) {s with heap:=g}):wpAny (model prog w) A (Builtin.SmallTypes.nextOf (.ref it)) Q E s:=by
  obtain⟨oi,hoi,ci,di⟩:=id hi;obtain⟨ot,hot,_,nt,dt⟩:=ht;unfold Builtin.SmallTypes.nextOf;refine wpAny_bind (wpAny_callSpecial?_slot (name:=Str.ofString "__next__") hi.typeIs PySem.F.slot_tuple_iterator_next (wpAny_call_entry PySem.F.slot_tuple_iterator_next hi.typeIs PySem.F.entry_tuple_iterator_next ?_ (PySem.F.args_tuple_iterator_next_1 _)));show wpAny _ _ (field (.ref it) 0>>=_) _ _ s;refine wpAny_bind (wpAny_field hoi di (x:=.ref t) rfl ?_);show wpAny _ _ (if(Value.ref t==Value.none)=true then _ else _) _ _ s;rw[if_neg (show¬((Value.ref t==Value.none)=true)from Bool.false_ne_true)];show wpAny _ _ (field (.ref it) 1>>=_) _ _ s;refine wpAny_bind (wpAny_field hoi di (x:=.int k 0) rfl ?_);show wpAny _ _ (seqItems? (.ref t)>>=_) _ _ s;refine wpAny_bind (wpAny_seqItems hot dt ?_);simp only[Int.toNat_natCast,hx];refine wpAny_bind (wpAny_rule (wpAny_bind (wpAny_setField hoi di (by simp) ?_)));show wpAny _ _ (newExc (.type "StopIteration") []>>=_) _ _ _;refine wpAny_bind ?_;simp only[newExc,newTuple];refine wpAny_bind (wpAny_newObj_type ?_ (by size_fits));refine wpAny_bind (m:=firstArgMember _ _) (wpAny_of_eq (a:=Value.none) (by first|rfl|(simp only[firstArgMember];rfl)) ?_);refine wpAny_newObj_type ?_ (by size_fits);simp only[raiseNew];refine wpAny_bind (wpAny_handled ?_)
  first|rw[show A.in1.handled=none from hh]|rw[hh]
  exact wpAny_bind (wpAny_pure (wpAny_throw (q _ _ (((Heap.SameBut.update ..).extBut.push _).push _) ⟨_,Heap.get?_push_size _ rfl,rfl⟩)))
theorem Il{b:Bool}{it l:Addr}{k:Nat}{xs:Array Value}{x:Value}{Q:Value->Shared->Prop}(hi:pE b s.heap it l k)(hl:kS b s.heap l xs)(hx:xs[k]? =some x) (q:∀g,pE b g it l (k+1)->Heap.SameBut it s.heap g->Q x {s with heap:=g}):wpAny (model prog w) A (Builtin.SmallTypes.nextOf (.ref it)) Q E s:=by
  cases b
  ·exact Dx hi hl hx q
  ·exact wpAny_nextOf_list_item hi hl hx q
theorem IX{b:Bool}{it l:Addr}{k:Nat}{xs:Array Value}{Q:Value->Shared->Prop}(hh:A.handled=none)(hi:pE b s.heap it l k)(hl:kS b s.heap l xs)(hx:xs[k]? =none) (q:∀g e,Heap.ExtBut it s.heap g->(∃o,g.get? e=some o/\o.cls= .type "StopIteration")->E (.ref e) {s with heap:=g}):wpAny (model prog w) A (Builtin.SmallTypes.nextOf (.ref it)) Q E s:=by
  cases b
  ·exact Dy hh hi hl hx q
  ·exact wpAny_nextOf_list_end hh hi hl hx q
structure Zp(b1 b2:Bool)(h:Heap)(z TI TO i1 i2 l1 l2:Addr)(f0:Value)(k:Nat):Prop where
 zz:IsZip h z TI TO f0
 ti:IsPair h TI (.ref i1) (.ref i2)
 to:∃a b,IsPair h TO a b
 n1:pE b1 h i1 l1 k
 n2:pE b2 h i2 l2 k
theorem qS{z TI TO:Addr}{Q:Bool->Shared->Prop}(hz:IsZip s.heap z TI TO .none)(q:Q true s):wpAny (model prog w) A (Builtin.SmallTypes.ownedTupleIsFree (.ref z)) Q E s:=by unfold Builtin.SmallTypes.ownedTupleIsFree;exact wpAny_bind (wpAny_field hz rfl (x:=.none) rfl (wpAny_pure q))
theorem Dz{b1 b2:Bool}{z TI TO i1 i2 l1 l2:Addr}{k:Nat}{xs ys:Array Value}{x y:Value}{Q:Value->Shared->Prop}(D:ZipApart z TI TO i1 i2 l1 l2)(Z:Zp b1 b2 s.heap z TI TO i1 i2 l1 l2 .none k) (hl1:kS b1 s.heap l1 xs)(hl2:kS b2 s.heap l2 ys)(hx:xs[k]? =some x)(hy:ys[k]? =some y) (q:∀g,Zp b1 b2 g z TI TO i1 i2 l1 l2 (rawInt s.heap.objs.size) (k+1)->IsPair g s.heap.objs.size x y->(∀c o,c≠z->c≠TO->c≠i1->c≠i2->s.heap.get? c=some o->g.get? c=some o)->Q (.ref s.heap.objs.size) {s with heap:=g}): wpAny (model prog w) A (Builtin.«zip.__next__» ⟨[.ref z],[]⟩) (fun r s'=>∃v,r= .done (.ret v)/\Q v s') E s:=by
  obtain⟨hz,hTI,⟨a,b,hTO⟩,h1,h2⟩:=Z;show wpAny _ _ (field (.ref z) 2>>=_) _ _ _;refine wpAny_bind (wpAny_field hz rfl (x:=.bool false) rfl ?_);show wpAny _ _ (field (.ref z) 3>>=_) _ _ _;refine wpAny_bind (wpAny_field hz rfl (x:=.ref TI) rfl (wpAny_bind (wpAny_seqItems hTI rfl ?_)));show wpAny _ _ (Builtin.SmallTypes.ownedTupleIsFree (.ref z)>>=_) _ _ _;refine wpAny_bind (qS hz ?_);simp only[if_true];refine wpAny_bind (wpAny_rule (wpAny_bind (wpAny_field hz rfl (x:=.ref TO) rfl (wpAny_bind (wpAny_setField_rec hz (by simp) fun g1 z1 e1=>?_)))));replace z1:IsZip g1 z TI TO .ellipsis:=z1;refine wpAny_bind ?_;simp only[List.zipIdx_cons,List.zipIdx_nil,List.forIn_cons,List.forIn_nil];refine wpAny_bind (wpAny_bind (wpAny_onRaise ?_));show wpAny _ _ (Builtin.SmallTypes.nextOf (.ref i1)>>=_) _ _ _;refine wpAny_bind (Il (h1.to fun o e=>e1.extBut _ _ D.i1z e) (hl1.to fun o e=>e1.extBut _ _ D.l1z e) hx fun g2 n1 e2=>wpAny_pure ?_);have t2:IsPair g2 TO a b:=e2.extBut _ _ D.TOi1 (e1.extBut _ _ D.TOz hTO);refine wpAny_bind (wpAny_seqItems t2 rfl (wpAny_bind (wpAny_updateSeq_pair t2 fun g3 t3 e3=>?_)));replace t3:IsPair g3 TO x b:=t3;refine wpAny_bind (wpAny_letGo (wpAny_pure ?_));refine wpAny_bind (wpAny_bind (wpAny_onRaise ?_));show wpAny _ _ (Builtin.SmallTypes.nextOf (.ref i2)>>=_) _ _ _;refine wpAny_bind (Il (h2.to fun o e=>e3.extBut _ _ D.TOi2.symm (e2.extBut _ _ D.i12.symm (e1.extBut _ _ D.i2z e))) (hl2.to fun o e=>e3.extBut _ _ D.l2TO (e2.extBut _ _ D.l2i1 (e1.extBut _ _ D.l2z e))) hy fun g4 n2 e4=>wpAny_pure ?_);have t4:IsPair g4 TO x b:=e4.extBut _ _ D.TOi2 t3;refine wpAny_bind (wpAny_seqItems t4 rfl (wpAny_bind (wpAny_updateSeq_pair t4 fun g5 t5 e5=>?_)));replace t5:IsPair g5 TO x y:=t5;refine wpAny_bind (wpAny_letGo (wpAny_pure (wpAny_pure ?_)));refine wpAny_bind (wpAny_seqItems t5 rfl (wpAny_bind (wpAny_newTuple ?_)));have sz:g5.objs.size=s.heap.objs.size:=by rw[e5.1,e4.1,e3.1,e2.1,e1.1]
  have z5:IsZip g5 z TI TO .ellipsis:=e5.extBut _ _ D.TOz.symm (e4.extBut _ _ D.i2z.symm (e3.extBut _ _ D.TOz.symm (e2.extBut _ _ D.i1z.symm z1)));have kp:∀c o,c≠z->c≠TO->c≠i1->c≠i2->s.heap.get? c=some o->g5.get? c=some o:=fun c o c1 c2 c3 c4 e=>e5.extBut _ _ c2 (e4.extBut _ _ c4 (e3.extBut _ _ c2 (e2.extBut _ _ c3 (e1.extBut _ _ c1 e))));have m1:pE b1 g5 i1 l1 (k+1):=n1.to fun o e=>e5.extBut _ _ D.TOi1.symm (e4.extBut _ _ D.i12 (e3.extBut _ _ D.TOi1.symm e));have m2:pE b2 g5 i2 l2 (k+1):=n2.to fun o e=>e5.extBut _ _ D.TOi2.symm e;have zlt:z<g5.objs.size:=Heap.lt_size z5;show wpAny _ _ (Builtin.SmallTypes.ownedTupleHandOut (.ref z) (.ref g5.objs.size)>>=_) _ _ _;refine wpAny_bind ?_;unfold Builtin.SmallTypes.ownedTupleHandOut;have z6:IsZip (g5.push {cls:=.type "tuple",data:=.seq #[x,y]}) z TI TO .ellipsis:=Heap.get?_push_of_some _ z5;refine wpAny_bind (wpAny_setField_rec z6 (by simp) fun g7 z7 e7=>?_);replace z7:IsZip g7 z TI TO (rawInt g5.objs.size):=z7;refine wpAny_setField_rec z7 (by simp) fun g8 z8 e8=>?_;replace z8:IsZip g8 z TI TO (rawInt g5.objs.size):=z8;have up:∀c o,c≠z->g5.get? c=some o->g8.get? c=some o:=fun c o c1 e=>e8.extBut _ _ c1 (e7.extBut _ _ c1 (Heap.get?_push_of_some _ e));have t8:IsPair g8 g5.objs.size x y:=e8.extBut _ _ (Nat.ne_of_gt zlt) (e7.extBut _ _ (Nat.ne_of_gt zlt) (Heap.get?_push_size _ rfl));rw[sz]at z8 t8;refine wpAny_pure ⟨_,rfl,?_⟩;show Q (.ref g5.objs.size) _;rw[sz];exact q g8 ⟨z8,up _ _ D.TIz (kp _ _ D.TIz D.TITO D.TIi1 D.TIi2 hTI),⟨_,_,up _ _ D.TOz t5⟩,m1.to fun o e=>up _ o D.i1z e,m2.to fun o e=>up _ o D.i2z e⟩ t8 fun c o c1 c2 c3 c4 e=>up c o c1 (kp c o c1 c2 c3 c4 e)
theorem Gg{b1 b2:Bool}{z TI TO i1 i2 l1 l2:Addr}{k:Nat}{xs ys:Array Value}{Q:Fin->Shared->Prop}(hh:A.handled=none)(D:ZipApart z TI TO i1 i2 l1 l2)(Z:Zp b1 b2 s.heap z TI TO i1 i2 l1 l2 .none k) (hl1:kS b1 s.heap l1 xs)(hl2:kS b2 s.heap l2 ys)(hend:xs[k]? =none\/ys[k]? =none) (q:∀g e,(∀c o,c≠z->c≠TO->c≠i1->c≠i2->s.heap.get? c=some o->g.get? c=some o)->(∃o,g.get? e=some o/\o.cls= .type "StopIteration")->E (.ref e) {s with heap:=g}): wpAny (model prog w) A (Builtin.«zip.__next__» ⟨[.ref z],[]⟩) Q E s:=by obtain⟨hz,hTI,⟨a,b,hTO⟩,h1,h2⟩:=Z;show wpAny _ _ (field (.ref z) 2>>=_) _ _ _;refine wpAny_bind (wpAny_field hz rfl (x:=.bool false) rfl ?_);show wpAny _ _ (field (.ref z) 3>>=_) _ _ _;refine wpAny_bind (wpAny_field hz rfl (x:=.ref TI) rfl (wpAny_bind (wpAny_seqItems hTI rfl ?_)));show wpAny _ _ (Builtin.SmallTypes.ownedTupleIsFree (.ref z)>>=_) _ _ _;refine wpAny_bind (qS hz ?_);simp only[if_true];refine wpAny_bind (wpAny_rule (wpAny_bind (wpAny_field hz rfl (x:=.ref TO) rfl (wpAny_bind (wpAny_setField_rec hz (by simp) fun g1 z1 e1=>?_)))));replace z1:IsZip g1 z TI TO .ellipsis:=z1;refine wpAny_bind ?_;simp only[List.zipIdx_cons,List.zipIdx_nil,List.forIn_cons,List.forIn_nil];refine wpAny_bind (wpAny_bind (wpAny_onRaise ?_));show wpAny _ _ (Builtin.SmallTypes.nextOf (.ref i1)>>=_) _ _ _;have j1:=h1.to fun o e=>e1.extBut _ _ D.i1z e;have k1:=hl1.to fun o e=>e1.extBut _ _ D.l1z e;cases hx:xs[k]? with
  |none=>
    refine wpAny_bind (IX hh j1 k1 hx fun g2 er e2 ⟨oe,hoe,hce⟩=>?_);have z2:IsZip g2 z TI TO .ellipsis:=e2 _ _ D.i1z.symm z1;have nz:er≠z:=fun v=>by subst v;rw[z2]at hoe;cases hoe;simp at hce
    refine wpAny_setField_rec z2 (by simp) fun g3 _ e3=>q g3 er (fun c o c1 _ c3 _ v=>e3.extBut _ _ c1 (e2 _ _ c3 (e1.extBut _ _ c1 v))) ⟨oe,e3.extBut _ _ nz hoe,hce⟩ |some x=>
    have hy:ys[k]? =none:=by rcases hend with h|h;rw[hx]at h;cases h;exact h
    refine wpAny_bind (Il j1 k1 hx fun g2 n1 e2=>wpAny_pure ?_);have t2:IsPair g2 TO a b:=e2.extBut _ _ D.TOi1 (e1.extBut _ _ D.TOz hTO);refine wpAny_bind (wpAny_seqItems t2 rfl (wpAny_bind (wpAny_updateSeq_pair t2 fun g3 t3 e3=>?_)));refine wpAny_bind (wpAny_letGo (wpAny_pure ?_));refine wpAny_bind (wpAny_bind (wpAny_onRaise ?_));show wpAny _ _ (Builtin.SmallTypes.nextOf (.ref i2)>>=_) _ _ _;refine wpAny_bind (IX hh (h2.to fun o e=>e3.extBut _ _ D.TOi2.symm (e2.extBut _ _ D.i12.symm (e1.extBut _ _ D.i2z e))) (hl2.to fun o e=>e3.extBut _ _ D.l2TO (e2.extBut _ _ D.l2i1 (e1.extBut _ _ D.l2z e))) hy fun g4 er e4 ⟨oe,hoe,hce⟩=>?_);have z4:IsZip g4 z TI TO .ellipsis:=e4 _ _ D.i2z.symm (e3.extBut _ _ D.TOz.symm (e2.extBut _ _ D.i1z.symm z1));have nz:er≠z:=fun v=>by subst v;rw[z4]at hoe;cases hoe;simp at hce
    refine wpAny_setField_rec z4 (by simp) fun g5 _ e5=>q g5 er (fun c o c1 c2 c3 c4 v=>e5.extBut _ _ c1 (e4 _ _ c4 (e3.extBut _ _ c2 (e2.extBut _ _ c3 (e1.extBut _ _ c1 v))))) ⟨oe,e5.extBut _ _ nz hoe,hce⟩
abbrev Im(b1:Bool)(h:Heap)(l1:Addr):Heap:=h.push {cls:=.type (Bu b1),data:=.fields #[.ref l1,.int 0 0]}
abbrev Io(b1 b2:Bool)(h:Heap)(l1 l2:Addr):Heap:=(Im b1 h l1).push {cls:=.type (Bu b2),data:=.fields #[.ref l2,.int 0 0]}
abbrev Ip(b1 b2:Bool)(h:Heap)(l1 l2:Addr):Heap:=(Io b1 b2 h l1 l2).push {cls:=.type "tuple",data:=.seq #[.ref h.objs.size,.ref (Im b1 h l1).objs.size]}
abbrev Iq(b1 b2:Bool)(h:Heap)(l1 l2:Addr):Heap:=(Ip b1 b2 h l1 l2).push {cls:=.type "tuple",data:=.seq #[.none,.none]}
abbrev Fx(b1 b2:Bool)(h:Heap)(l1 l2:Addr):Heap:=(Iq b1 b2 h l1 l2).push {cls:=.type "zip",data:=.fields #[.none,.bool false,.bool false,.ref (Io b1 b2 h l1 l2).objs.size,.ref (Ip b1 b2 h l1 l2).objs.size]}
theorem Gh(b1 b2:Bool)(l1 l2:Addr)(xs ys:Array Value):Meets (Builtin.«zip.__new__» ⟨[.type "zip",.ref l1,.ref l2],[]⟩) (fun _ R s=>kS b1 s.heap l1 xs/\kS b2 s.heap l2 ys/\R (.ok (.ret (.ref (Iq b1 b2 s.heap l1 l2).objs.size))) {s with heap:=Fx b1 b2 s.heap l1 l2}):=.of_wp fun prog w A R s h=>by
   obtain⟨hp,gg,d,tk,os⟩:=s;obtain⟨hl1,hl2,h⟩:=h;have hsub:=sub_zip;have hL1:kS b1 (Shared.heap ⟨hp,gg,d,tk,os⟩) l1 xs:=hl1;have hL2:kS b2 (Shared.heap ⟨hp.push {cls:=.type (Bu b1),data:=.fields #[.ref l1,.int 0 0]},gg,d,tk,os⟩) l2 ys:=hl2.to fun o e=>Heap.get?_push_of_some _ e
   wp_walk using ud hL1,ud hL2;exact⟨_,rfl,h⟩
theorem DA{b1 b2:Bool}{l1 l2:Addr}{xs ys:Array Value}{Q:Value->Shared->Prop}(hl1:kS b1 s.heap l1 xs)(hl2:kS b2 s.heap l2 ys) (q:∀g,Zp b1 b2 g (s.heap.objs.size+4) (s.heap.objs.size+2) (s.heap.objs.size+3) s.heap.objs.size (s.heap.objs.size+1) l1 l2 .none 0->(∀c o,s.heap.get? c=some o->g.get? c=some o)->Q (.ref (s.heap.objs.size+4)) {s with heap:=g}): wpAny (model prog w) A (call (.type "zip") [.ref l1,.ref l2]) Q E s:=by
  refine callType_new PySem.F.called_zip (by decide) (PySem.F.typeCall_zip_2 _ _) (PySem.F.newCall_zip_2 _ _) (fun obj=>PySem.F.args_object_init_3 obj _ _) PySem.F.entry_zip_new (Gh b1 b2 l1 l2 xs ys) ⟨hl1,hl2,?_⟩;have z1:(Im b1 s.heap l1).objs.size=s.heap.objs.size+1:=Heap.size_push ..;have z2:(Io b1 b2 s.heap l1 l2).objs.size=s.heap.objs.size+2:=by rw[Heap.size_push,z1]
  have z3:(Ip b1 b2 s.heap l1 l2).objs.size=s.heap.objs.size+3:=by rw[Heap.size_push,z2]
  have z4:(Iq b1 b2 s.heap l1 l2).objs.size=s.heap.objs.size+4:=by rw[Heap.size_push,z3]
  have g5:(Fx b1 b2 s.heap l1 l2).get? (Iq b1 b2 s.heap l1 l2).objs.size=some _:=Heap.get?_push_size _ rfl;have g4:(Fx b1 b2 s.heap l1 l2).get? (Ip b1 b2 s.heap l1 l2).objs.size=some _:=Heap.get?_push_of_some _ (Heap.get?_push_size _ rfl);have g3:(Fx b1 b2 s.heap l1 l2).get? (Io b1 b2 s.heap l1 l2).objs.size=some _:=Heap.get?_push_of_some _ (Heap.get?_push_of_some _ (Heap.get?_push_size _ rfl));have g2:(Fx b1 b2 s.heap l1 l2).get? (Im b1 s.heap l1).objs.size=some _:=Heap.get?_push_of_some _ (Heap.get?_push_of_some _ (Heap.get?_push_of_some _ (Heap.get?_push_size _ rfl)));have g1:(Fx b1 b2 s.heap l1 l2).get? s.heap.objs.size=some _:=Heap.get?_push_of_some _ (Heap.get?_push_of_some _ (Heap.get?_push_of_some _ (Heap.get?_push_of_some _ (Heap.get?_push_size _ rfl))));show _/\_;rw[z2,z3,z4]at g5;rw[z1,z2]at g3;rw[z3]at g4;rw[z1]at g2;rw[z4];refine⟨⟨_,g5,rfl⟩,q _ ⟨g5,g3,⟨_,_,g4⟩,?_,?_⟩ fun c o e=>Heap.get?_push_of_some _ (Heap.get?_push_of_some _ (Heap.get?_push_of_some _ (Heap.get?_push_of_some _ (Heap.get?_push_of_some _ e))))⟩
  ·cases b1<;>exact⟨_,g1,rfl,rfl⟩
  ·cases b2<;>exact⟨_,g2,rfl,rfl⟩
end
section
variable {X:Cx}{pins:List (Addr×Obj)}{σ:St}{H:Hp}{s:Shared}{h':Heap}
theorem Inv.iL{t':Nat}{fp:List Addr}(I:Inv X pins σ H s)(k:∀b o,b∉fp->s.heap.get? b=some o->h'.get? b=some o)(hf:∀b∈fp,j9 X pins H b):Inv X pins σ H {s with heap:=h',toks:=t'}:=by
 have nit:∀b u,H b=some u->b∉fp:=fun b u e z=>by rw[(hf b z).1]at e;cases e
 have hL:X.env.locals∉fp:=fun z=>(hf _ z).2.1 rfl;refine I.step (g':=s.gens) (d':=s.drawn) (ch:=fp) (fun b hb=>?_) (fun b o _ _ hc e _=>k b o hc e) (fun b o _ _ hc e _=>⟨o.slots,k b o hc e⟩) (fun _ _ _ _ n=>n) (fun b o hc e=>⟨o,k b o hc e⟩) (fun _ _ e=>e) (fun _ _ _ e=>e) (fun b ps e=>⟨#[],by rw[e];simp⟩) (fun m hm=>?_) (fun b u e=>?_) I.bare
 · obtain⟨f0,f1,f2,f3,f4,f5⟩:=hf b hb
   exact⟨f3,f1,f4,f5⟩
 · obtain⟨o,es,ep,ho,r⟩:=hm
   exact⟨o,es,ep,k _ o hL ho,r⟩
 · refine(I.hok b u e).oU (fun c v hc q=>k c v ?_ q) (fun _ q=>q) fun _ _ q=>q
   rcases hc with z|z
   ·rw[z];exact nit b u e
   ·exact nit c _ z
end
def iq(b:Bool)(K:PySem.W.Frag)(H:Hp)(a:Addr)(xs:List V):Prop:=match b with|true=>bc K H a xs|false=>bG K H a xs
theorem iq.get{X:Cx}{pins:List (Addr×Obj)}{σ:St}{H:Hp}{s:Shared}{b:Bool}{a:Addr}{xs:List V}(I:Inv X pins σ H s)(h:iq b X.K H a xs):∃its:List Value,Vals xs its/\kS b s.heap a its.toArray:=by
 cases b
 ·obtain⟨its,r,p,_⟩:=I.tuple h;exact⟨its,r,p⟩
 ·obtain⟨its,r,p,_⟩:=I.list h;exact⟨its,r,p.isList⟩
theorem iq.inj{X:Cx}{pins:List (Addr×Obj)}{σ:St}{H:Hp}{s:Shared}{b:Bool}{a:Addr}{xs ys:List V}(I:Inv X pins σ H s)(h:iq b X.K H a xs)(g:iq b X.K H a ys):xs=ys:=by
 cases b
 ·exact I.kY h g
 ·exact I.ng h g
def vW(K:PySem.W.Frag)(b1 b2:Bool)(l1 l2:Addr):It:=⟨fun i H=>∃xs ys x y,iq b1 K H l1 xs/\iq b2 K H l2 ys/\xs[i]? =some x/\ys[i]? =some y,fun i H v H'=>∃T x y,v= .ref T/\(∀xs,iq b1 K H l1 xs->xs[i]? =some x)/\(∀ys,iq b2 K H l2 ys->ys[i]? =some y)/\Nw H H' T (.tup [x,y]),fun i H=>∃xs ys,iq b1 K H l1 xs/\iq b2 K H l2 ys/\(xs.length<=i\/ys.length<=i)⟩
theorem vZ{P:Program}{w:World}{K:PySem.W.Frag}{elts:List Expr}{kt:Nat}{pos:Pos}{b1 b2:Bool}{z TI TO i1 i2 l1 l2:Addr}(D:ZipApart z TI TO i1 i2 l1 l2): Turn P w K (.Tuple elts kt pos) (vW K b1 b2 l1 l2) [z,TI,TO,i1,i2] z (fun i h=>Zp b1 b2 h z TI TO i1 i2 l1 l2 .none i) where
  mem:=by simp
  obj:=fun i h st b hb=>by
   obtain⟨hz,hTI,⟨a,c,hTO⟩,h1,h2⟩:=st;simp only[List.mem_cons,List.not_mem_nil,or_false]at hb;rcases hb with rfl|rfl|rfl|rfl|rfl
   ·exact⟨_,hz,fun v e=>by cases e⟩
   ·exact⟨_,hTI,fun v e=>by cases e⟩
   ·exact⟨_,hTO,fun v e=>by cases e⟩
   ·obtain⟨o,e,_,n⟩:=h1.ob;exact⟨o,e,n⟩
   ·obtain⟨o,e,_,n⟩:=h2.ob;exact⟨o,e,n⟩
  keep:=fun i h h' st k=>by obtain⟨hz,hTI,⟨a,c,hTO⟩,h1,h2⟩:=st;exact⟨k z (by simp) _ hz,k TI (by simp) _ hTI,⟨a,c,k TO (by simp) _ hTO⟩,h1.to fun o e=>k i1 (by simp) o e,h2.to fun o e=>k i2 (by simp) o e⟩
  item:=by
   intro X hP hw hK hc i pins s σ H E I hf st hg;subst hP hw hK;obtain⟨xs,ys,x,y,q1,q2,e1,e2⟩:=hg;obtain⟨its1,r1,p1⟩:=q1.get I;obtain⟨its2,r2,p2⟩:=q2.get I;obtain⟨u1,df,ru1⟩:=r1.get e1;obtain⟨u2,hu2,ru2⟩:=r2.get e2;have hT:s.TypeIs (.ref z) "zip":=⟨_,st.zz,rfl⟩;unfold pyNext;refine wpAny_bind (wpAny_attempt (wpAny_callSpecial?_slot (name:=Str.ofString "__next__") hT PySem.F.slot_zip_next (wpAny_call_entry PySem.F.slot_zip_next hT PySem.F.entry_zip_next (Dz D st p1 p2 (x:=u1) (y:=u2) (by simpa using df) (by simpa using hu2) fun g zg tg kp=>wpAny_pure ?_) (PySem.F.args_zip_next_1 _))));refine⟨_,rfl,?_⟩;refine wpAny_letOwnedTupleGo_zip zg.zz fun g' zz' sb=>?_;have hs:=sb.extBut;have zlt:z<s.heap.objs.size:=Heap.lt_size st.zz;have nw:Nw H (upd H s.heap.objs.size (.tup [x,y])) s.heap.objs.size (.tup [x,y]):=.of (I.hok.fresh (Nat.le_refl _));have I1:Inv X pins σ (upd H s.heap.objs.size (.tup [x,y])) {s with heap:=s.heap.push {cls:=.type "tuple",data:=.seq #[u1,u2]}}:=I.laid (t':=s.toks) (fun b ob q=>Heap.get?_push_of_some _ q) (Nat.le_refl _) ⟨by show 2<=sizeLine;decide,[u1,u2],.cons ru1 (.cons ru2 .nil),⟨_,Heap.get?_push_size _ rfl,rfl,_,rfl⟩⟩;have lts:∀b∈[z,TI,TO,i1,i2],b<s.heap.objs.size:=fun b hb=>by
    simp only[List.mem_cons,List.not_mem_nil,or_false]at hb;obtain⟨hz,hTI,⟨a,c,hTO⟩,h1,h2⟩:=st;rcases hb with rfl|rfl|rfl|rfl|rfl
    ·exact Heap.lt_size hz
    ·exact Heap.lt_size hTI
    ·exact Heap.lt_size hTO
    ·obtain⟨o,e,_⟩:=h1.ob;exact Heap.lt_size e
    ·obtain⟨o,e,_⟩:=h2.ob;exact Heap.lt_size e
   have hn:∀b∈[z,TI,TO,i1,i2],upd H s.heap.objs.size (.tup [x,y]) b=none:=fun b hb=>by rw[aj (Nat.ne_of_lt (lts b hb))];exact(hf b hb).1
   have I2:Inv X pins σ (upd H s.heap.objs.size (.tup [x,y])) {s with heap:=g'}:=Inv.iL (s:={s with heap:=s.heap.push {cls:=.type "tuple",data:=.seq #[u1,u2]}}) (t':=s.toks) (fp:=[z,TI,TO,i1,i2]) I1 (fun b o hb e=>by
    have e:(s.heap.push {cls:=.type "tuple",data:=.seq #[u1,u2]}).get? b=some o:=e;have nz:b≠z:=fun q=>hb (by simp[q]);rcases Heap.get?_push_cases e with⟨hbT,rfl⟩|e'
    · subst hbT
      exact hs _ _ nz tg
    ·exact hs _ _ nz (kp b o nz (fun q=>hb (by simp[q])) (fun q=>hb (by simp[q])) (fun q=>hb (by simp[q])) e')) (fun b hb=>by obtain⟨f0,f1,f2,f3,f4,f5⟩:=hf b hb;exact⟨hn b hb,f1,f2,f3,f4,f5⟩);refine⟨.ref s.heap.objs.size,_,I2,rfl,⟨s.heap.objs.size,x,y,rfl,fun zs hz=>?_,fun zs hz=>?_,nw⟩,?_,hn⟩
   ·rw[iq.inj I hz q1];exact e1
   ·rw[iq.inj I hz q2];exact e2
   · obtain⟨_,hTI,⟨a,c,hTO⟩,h1,h2⟩:=zg
     exact⟨zz',hs _ _ D.TIz hTI,⟨a,c,hs _ _ D.TOz hTO⟩,h1.to fun o e=>hs _ o D.i1z e,h2.to fun o e=>hs _ o D.i2z e⟩
  done:=by intro X hP hw hK hc i pins s σ H E I hf st hg;subst hP hw hK;obtain⟨xs,ys,q1,q2,hend⟩:=hg;obtain⟨its1,r1,p1⟩:=q1.get I;obtain⟨its2,r2,p2⟩:=q2.get I;have hT:s.TypeIs (.ref z) "zip":=⟨_,st.zz,rfl⟩;have l1:=r1.length;have l2:=r2.length;unfold pyNext;refine wpAny_bind (wpAny_attempt (wpAny_callSpecial?_slot (name:=Str.ofString "__next__") hT PySem.F.slot_zip_next (wpAny_call_entry PySem.F.slot_zip_next hT PySem.F.entry_zip_next (Gg (I.ok.hd hc) D st p1 p2 (hend.imp (fun h=>by simp;omega) fun h=>by simp;omega) fun g e kp he=>?_) (PySem.F.args_zip_next_1 _))));obtain⟨o,ho,hcl⟩:=he;refine wpAny_bind (wpAny_isInstance (T:="StopIteration") (b:=true) ⟨o,ho,hcl⟩ isSubtype_stop (wpAny_pure ⟨rfl,?_⟩));exact I.iL (t':=s.toks) (fp:=[z,TI,TO,i1,i2]) (fun b o hb e=>kp b o (fun q=>hb (by simp[q])) (fun q=>hb (by simp[q])) (fun q=>hb (by simp[q])) (fun q=>hb (by simp[q])) e) hf
  self:=fun _ _ _ _ _ st h=>wpAny_pyIter_zip st.zz h
inductive Bv(K:PySem.W.Frag)(b1:Bool)(b2:Bool)(R:It->Hp->Prop)(vs:List V)(H1:Hp):Prop |mk (l1:_)(l2:_)(h0:vs=[.ref l1,.ref l2])(h1:(∃xs,iq b1 K H1 l1 xs))(h2:(∃ys,iq b2 K H1 l2 ys))(h3:R (vW K b1 b2 l1 l2) H1):Bv K b1 b2 R vs H1
def IY(K:PySem.W.Frag)(b1 b2:Bool)(ta:TA):TI:=fun σ H R=>ta σ H fun vs H1=>Bv K b1 b2 R vs H1
theorem dy(K:PySem.W.Frag){X:Cx}(hK:X.K=K)(b1 b2:Bool){elts:List Expr}{kt:Nat}{tpos:Pos}{a b:Expr}{ta:TA}{p pos:Pos}(hg:Gl X "zip")(hm:X.mg "zip"=none)(ha:PA X [a,b] ta)(hs:starEach [a,b] X.env=[(false,eval a X.env),(false,eval b X.env)]:=by rfl)(hs2:starEach [b] X.env=[(false,eval b X.env)]:=by rfl): PI X (.Tuple elts kt tpos) (.Call (.Name "zip" p) [a,b] [] pos) (IY K b1 b2 ta):=by
  subst hK;intro pins s σ H R I h;refine Call_ (gk I hg hm PyProof.Rows.boot_zip (PyProof.Rows.callWith_type1 (cn (ha pos pins s σ H _ I h) fun us s1 ⟨vs,H1,I1,r1,q1⟩=>?_) (by rw[hs,hs2]) (by rw[hs2];rfl)));obtain⟨l1,l2,e,⟨xs,h1⟩,⟨ys,h2⟩,q⟩:=q1;subst e;obtain⟨u1,u2,rfl,ru1,ru2⟩:=vals2 r1;cases(show u1=Value.ref l1 from ru1);cases(show u2=Value.ref l2 from ru2);obtain⟨its1,v1,p1⟩:=h1.get I1;obtain⟨its2,v2,p2⟩:=h2.get I1;have a1:l1<s1.heap.objs.size:=by cases b1<;>(obtain⟨o,e,_⟩:=p1;exact Heap.lt_size e)
  have a2:l2<s1.heap.objs.size:=by cases b2<;>(obtain⟨o,e,_⟩:=p2;exact Heap.lt_size e)
  refine DA p1 p2 fun g zg kp=>wpAny_pyIter_zip zg.zz ?_;refine⟨_,_,_,_,H1,rfl,I1.kept (t':=s1.toks) kp,vZ (zipApart_new a1 a2),zg,fun c hc=>?_,q⟩;have hle:s1.heap.objs.size<=c:=by simp only[List.mem_cons,List.not_mem_nil,or_false]at hc;rcases hc with rfl|rfl|rfl|rfl|rfl<;>first|exact Nat.le_refl _|exact Nat.le_add_right _ _
  exact I1.m4 hle (I1.hok.fresh hle)
end L2
namespace L2
open PySem PySem.Spec PyProof.Rows
theorem iq.go{b:Bool}{K:PySem.W.Frag}{H H':Hp}{a:Addr}{xs:List V}(s:aI H H')(h:iq b K H a xs):iq b K H' a xs:=by
 cases b
 ·exact bG.go s h
 ·exact bc.go s h
theorem nN{K:PySem.W.Frag}{b1 b2:Bool}{l1 l2:Addr}{xs ys:List V}{bs:List Bool}{te:TE}{Q:VK}{D:Addr}{H H0:Hp}{n:Nat}(rest:St)(hn:n=2)(h1:iq b1 K H l1 xs)(h2:iq b2 K H l2 ys)(nw:Nw H H0 D (.lst [])) (hl:min xs.length ys.length=bs.length)(hz:bs.length<=1000) (hs:∀(i:Nat)(x y:V)(b:Bool)(H2:Hp)(Q':VK),xs[i]? =some x->ys[i]? =some y->bs[i]? =some b->aI H H2->(∀H3,aI H2 H3->Q' (.bl b) H3)->te (some x::some y::rest) H2 Q') (hq:∀H',aI H H'->H' D=some (.lst (bs.map V.bl))->Q (.ref D) H'):fk (vW K b1 b2 l1 l2) (m3 K n (fz (cS 0) (fz (cS 1) nj))) gC te Q D (none::none::rest) H0:=by
  subst hn;have hD:=nw.no;refine fK bs.length (fun i σ H2=>aI H H2/\H2 D=some (.lst ((bs.take i).map V.bl))/\∃v v',σ=v::v'::rest) ?_ ?_ ?_
  ·exact⟨nw.same,nw.at',none,none,rfl⟩
  · rintro i σ H2 hi ⟨s2,d2,v,v',rfl⟩
    have hx:i<xs.length:=by omega
    have hy:i<ys.length:=by omega
    have ex:=List.getElem?_eq_getElem hx;have ey:=List.getElem?_eq_getElem hy;have eb:=List.getElem?_eq_getElem hi;refine⟨⟨xs,ys,_,_,h1.go s2,h2.go s2,ex,ey⟩,fun y' H3 hy'=>?_⟩;obtain⟨T,x0,y0,rfl,k1,k2,n3⟩:=hy';have e1:=k1 _ (h1.go s2);have e2:=k2 _ (h2.go s2);rw[ex]at e1;rw[ey]at e2;cases e1;cases e2;refine⟨T,_,rfl,bG.of n3.at',rfl,_,_,rfl,_,_,rfl,rfl,?_⟩;refine yes (bK ?_);refine hs i _ _ _ _ _ ex ey eb (s2.trans n3.same) fun H4 s4=>?_;refine⟨_,s4 _ _ (n3.same _ _ d2),?_,bs.length-(i+1),by omega,rfl,by omega,fun b o e=>?_,?_,_,_,rfl⟩
    · rw[List.length_map,List.length_take]
      have:(1000:Nat)<sizeLine:=by decide
      omega
    ·rw[aj (aX e hD)];exact s4 b o (n3.same b o (s2 b o e))
    ·rw[au,List.take_succ,eb,List.map_append];rfl
  · rintro σ H2 ⟨s2,d2,v,v',rfl⟩
    refine⟨⟨xs,ys,h1.go s2,h2.go s2,by omega⟩,hq H2 s2 ?_⟩;rw[d2,List.take_length]
end L2
namespace L2
open PySem PySem.Spec PyProof.Rows
section
variable {P:Program}{w:World}{K:PySem.W.Frag}{mg:Str->Option Value}{base:Heap}{N:List Str}{qual:Str}{scope:Scope}{f:Addr}{cd:Value}{A:Around}{outer:List Env}{s:Shared}{H:Hp}{E:XK}{pins:List (Addr×Obj)}{σ:St}{H1:Hp}{s1:Shared}{h2:Heap}{ex:Addr}{cls:Value}{vs:List Value}
end
section
variable {X:Cx}{x:Str}{C:Addr}{bmB:List Value}{newId initId B:String}{e:Expr}{t:TA}{np cpos pos:Pos}
end
end L2
namespace L2
open PySem PySem.Spec PyProof.Rows
section
variable {M:Model}{A:Around}{Ex:Value->Shared->Prop}
end
section
variable {X:Cx}{k:Nat}{x:Str}{p pos:Pos}{e:Expr}{es:List Expr}{t:TA}{sp:Sp}
end
section
variable {X:Cx}{pins:List (Addr×Obj)}{σ:St}{H:Hp}{s:Shared}
end
section
variable {X:Cx}{i:Nat}{n y:Str}{Dc:Addr}{bmD:List Value}{newD:String}{body suite:List Stmt}{b0:Stmt}{np hpos pos:Pos}{tb:XK->TS}{th:TS}{Cs:Addr->Prop}
end
end L2
namespace L2
open PySem PySem.Spec PyProof.Rows PySem.W Builtin.Getset_descriptor
section
variable {prog:Program}{w:World}{A:Around}{E:Value->Shared->Prop}{h:Heap}{g:Array GenState}{d:Drawn}{t:Nat}{os:OsState}{K:Frag}{x C:Addr}{o:Obj}
end
end L2
namespace L2
open PySem PySem.Spec PyProof.Rows
section
variable {X:Cx}
end
end L2
namespace L2
open PySem PySem.Spec PyProof.Rows
end L2
namespace L2
open PySem PySem.Spec PyProof.Rows
end L2
namespace Ar
theorem DB(a b:Int):Int.gcd b (a.fmod b)=Int.gcd a b:=by rw[Int.fmod_def,Int.gcd_sub_mul_left_right,Int.gcd_comm]
theorem wa{a b:Int}(h:0<b):Int.gcd b (a%b)=Int.gcd a b:=by rw[<-Int.fmod_eq_emod_of_nonneg a (Int.le_of_lt h)];exact DB a b
def sg(p q:Int):Int:=if q<0 then-(Int.gcd p q:Int)else(Int.gcd p q:Int)
def lowP (p q:Int):Int:=p.fdiv (sg p q)
def fJ (p q:Int):Int:=q.fdiv (sg p q)
theorem jP{p q:Int}(h:q≠0):0<(Int.gcd p q:Int):=by have:Int.gcd p q≠0:=fun z=>h (Int.gcd_eq_zero_iff.mp z).2;omega
theorem nO{p q:Int}(h:q≠0):sg p q≠0:=by have:=jP (p:=p) h;unfold sg;split<;>omega
theorem jE(p q:Int):sg p q∣p:=by
 unfold sg;split
 ·exact Int.neg_dvd.mpr (Int.gcd_dvd_left p q)
 ·exact Int.gcd_dvd_left p q
theorem iM(p q:Int):sg p q∣q:=by
 unfold sg;split
 ·exact Int.neg_dvd.mpr (Int.gcd_dvd_right p q)
 ·exact Int.gcd_dvd_right p q
theorem kr(p q:Int):sg p q*lowP p q=p:=by unfold lowP;rw[Int.fdiv_eq_ediv_of_dvd (jE p q)];exact Int.mul_ediv_cancel' (jE p q)
theorem iO(p q:Int):sg p q*fJ p q=q:=by unfold fJ;rw[Int.fdiv_eq_ediv_of_dvd (iM p q)];exact Int.mul_ediv_cancel' (iM p q)
theorem wc(p q:Int):(sg p q).natAbs=Int.gcd p q:=by unfold sg;split<;>omega
theorem zX{p q:Int}(h:q≠0):Int.gcd (lowP p q) (fJ p q)=1:=by
 have e:Int.gcd (sg p q*lowP p q) (sg p q*fJ p q)=(sg p q).natAbs*Int.gcd (lowP p q) (fJ p q):=Int.gcd_mul_left _ _ _;rw[kr,iO,wc]at e;have g:=jP (p:=p) h;have g':0<Int.gcd p q:=by omega
 have e':Int.gcd p q*1=Int.gcd p q*Int.gcd (lowP p q) (fJ p q):=by omega
 exact(Nat.eq_of_mul_eq_mul_left g' e').symm
theorem we{p q:Int}(h:q≠0):0<fJ p q:=by
 have e:=iO p q;have g:=jP (p:=p) h;by_cases hq:q<0
 · have es:sg p q=-(Int.gcd p q:Int):=by unfold sg;rw[if_pos hq]
   rw[es]at e;refine Int.not_le.mp fun hl=>?_;have:0<=-(Int.gcd p q:Int)*fJ p q:=Int.mul_nonneg_of_nonpos_of_nonpos (by omega) hl;omega
 · have es:sg p q=(Int.gcd p q:Int):=by unfold sg;rw[if_neg hq]
   rw[es]at e;refine Int.not_le.mp fun hl=>?_;have:(Int.gcd p q:Int)*fJ p q<=0:=Int.mul_nonpos_of_nonneg_of_nonpos (by omega) hl;omega
theorem ir{s x y:Int}(hs:s≠0)(e:s*x=y):x.natAbs<=y.natAbs:=by rw[<-e,Int.natAbs_mul];exact Nat.le_mul_of_pos_left _ (by omega)
theorem zY{p q:Int}(h:q≠0):(lowP p q).natAbs<=p.natAbs:=ir (nO h) (kr p q)
theorem qT{p q:Int}(h:q≠0):(fJ p q).natAbs<=q.natAbs:=ir (nO h) (iO p q)
theorem Bw{p q:Int}(h:q≠0):(sg p q).natAbs<=q.natAbs:=by rw[wc];exact Nat.le_of_dvd (by omega) (Int.gcd_dvd_natAbs_right p q)
end Ar
namespace Rt
open Rat
theorem jQ{a b:Int}(hb:b≠0):Ar.lowP a b=(Rat.divInt a b).num/\Ar.fJ a b=((Rat.divInt a b).den:Int):=by
 have hp:=Ar.we (p:=a) hb;have hc:=Ar.zX (p:=a) hb;have hden:(Ar.fJ a b).natAbs≠0:=by omega
 have hcop:(Ar.lowP a b).natAbs.Coprime (Ar.fJ a b).natAbs:=hc;have e1:Rat.divInt a b=Rat.divInt (Ar.lowP a b) (Ar.fJ a b):=by have h:=Rat.divInt_mul_left (a:=Ar.sg a b) (n:=Ar.lowP a b) (d:=Ar.fJ a b) (Ar.nO hb);rw[Ar.kr,Ar.iO]at h;exact h
 have e2:(⟨Ar.lowP a b,(Ar.fJ a b).natAbs,hden,hcop⟩:Rat)=Rat.divInt (Ar.lowP a b) (((Ar.fJ a b).natAbs:Nat):Int):=Rat.mk_eq_divInt;have e3:(((Ar.fJ a b).natAbs:Nat):Int)=Ar.fJ a b:=by omega
 rw[e3]at e2;rw[e1,<-e2];exact⟨rfl,e3.symm⟩
theorem den_pos(r:Rat):(0:Int)<(r.den:Int):=by have:=r.den_pos;omega
structure Bd(n:Nat)(r:Rat):Prop where
 num:r.num.natAbs<2^n
 den:r.den<2^n
theorem Bd.mono{n m:Nat}{r:Rat}(h:Bd n r)(l:n<=m):Bd m r:=⟨Nat.lt_of_lt_of_le h.num (Nat.pow_le_pow_right (by decide) l),Nat.lt_of_lt_of_le h.den (Nat.pow_le_pow_right (by decide) l)⟩
theorem ff{a b n m:Nat}(h:a<2^n)(g:b<2^m):a*b<2^(n+m):=by rw[Nat.pow_add];exact Nat.mul_lt_mul'' h g
theorem eG{n:Nat}{a b:Int}(hb:b≠0)(h1:a.natAbs<2^n)(h2:b.natAbs<2^n):Bd n (Rat.divInt a b):=by
 obtain⟨e1,e2⟩:=jQ (a:=a) hb;have l1:=Ar.zY (p:=a) hb;have l2:=Ar.qT (p:=a) hb;refine⟨?_,?_⟩
 ·rw[<-e1];omega
 ·omega
theorem mj(r s:Rat):(r.den:Int)*(s.den:Int)≠0:=Int.ne_of_gt (Int.mul_pos (den_pos r) (den_pos s))
theorem add_div(r s:Rat):r+s=Rat.divInt (r.num*s.den+s.num*r.den) (r.den*s.den):=by have h:=Rat.divInt_add_divInt r.num s.num (d₁:=r.den) (d₂:=s.den) (by have:=den_pos r;omega) (by have:=den_pos s;omega);rw[Rat.num_divInt_den,Rat.num_divInt_den]at h;exact h
theorem zZ(r s:Rat):r-s=Rat.divInt (r.num*s.den-s.num*r.den) (r.den*s.den):=by have h:=Rat.divInt_sub_divInt r.num s.num (d₁:=r.den) (d₂:=s.den) (by have:=den_pos r;omega) (by have:=den_pos s;omega);rw[Rat.num_divInt_den,Rat.num_divInt_den]at h;exact h
theorem mul_div(r s:Rat):r*s=Rat.divInt (r.num*s.num) (r.den*s.den):=by have h:=Rat.divInt_mul_divInt r.num s.num (d₁:=r.den) (d₂:=s.den);rw[Rat.num_divInt_den,Rat.num_divInt_den]at h;exact h
section
variable {n m:Nat} {r s:Rat}
theorem wg(h:Bd n r)(g:Bd m s):(r.num*s.den).natAbs<2^(n+m):=by rw[Int.natAbs_mul];exact ff h.num (by have:=g.den;omega)
theorem uf(h:Bd n r)(g:Bd m s):(s.num*r.den).natAbs<2^(n+m):=by rw[Int.natAbs_mul,Nat.mul_comm];exact ff (by have:=h.den;omega) g.num
theorem pF(h:Bd n r)(g:Bd m s):((r.den:Int)*(s.den:Int)).natAbs<2^(n+m):=by rw[Int.natAbs_mul];exact ff (by have:=h.den;omega) (by have:=g.den;omega)
theorem Bd.add(h:Bd n r)(g:Bd m s):Bd (n+m+1) (r+s):=by
 rw[add_div];have h1:=wg h g;have h2:=uf h g;have h3:=pF h g;have e:2^(n+m+1)=2^(n+m)+2^(n+m):=by rw[Nat.pow_succ];omega
 exact eG (mj r s) (by omega) (by omega)
theorem Bd.mul(h:Bd n r)(g:Bd m s):Bd (n+m) (r*s):=by rw[mul_div];exact eG (mj r s) (by rw[Int.natAbs_mul];exact ff h.num g.num) (pF h g)
end
end Rt
namespace L2
open PySem PySem.Spec PyProof.Rows
def fm(H H':Hp):Prop:=∀b o,(∀xs,o≠ .lst xs)->H b=some o->H' b=some o
section
variable {K:PySem.W.Frag} {H H' H2:Hp}
theorem fm.trans(a:fm H H')(b:fm H' H2):fm H H2:=fun c o n e=>b c o n (a c o n e)
theorem fm.nP{D:Addr}{xs ys:List V}(h:H D=some (.lst xs)):fm H (upd H D (.lst ys)):=fun b o n e=>by rw[aj (mY e h (n xs))];exact e
theorem bG.t{a:Addr}{xs:List V}(s:fm H H')(h:bG K H a xs):bG K H' a xs:=h.imp (fun r=>r.imp (s _ _ fun _ z=>nomatch z) fun⟨o,e⟩=>⟨o,s _ _ (fun _ z=>nomatch z) e⟩) id
mutual
def iP:PyData->Bool | .list _=>false | .dict _=>false | .tuple ds=>cD ds | .none=>true | .bool _=>true | .int _=>true | .str _=>true
def cD:List PyData->Bool |[]=>true |d::ds=>iP d&&cD ds
end
theorem bS:∀{ds:List PyData},cD ds=true↔∀d∈ds,iP d=true
  |[]=>⟨fun _ _ h=>(nomatch h),fun _=>by simp[cD]⟩ |d::ds=>by
    rw[cD,Bool.and_eq_true,bS (ds:=ds)];constructor
    · rintro⟨a,b⟩ x hx
      rcases List.mem_cons.mp hx with rfl|hx
      ·exact a
      ·exact b x hx
    · intro h
      exact⟨h d (.head _),fun x hx=>h x (.tail _ hx)⟩
theorem cC(ns:List Int):cD (ns.map PyData.int)=true:=bS.mpr fun d hd=>by obtain⟨i,_,rfl⟩:=List.mem_map.mp hd;simp[iP]
mutual
theorem RD.t(s:fm H H'):∀{x:V}(d:PyData),iP d=true->RD K H x d->RD K H' x d |x,.none,_,h=>by simpa[RD]using h |x,.bool b,_,h=>by simpa[RD]using h |x,.int i,_,h=>by simpa[RD]using h |x,.str y,_,h=>by simpa[RD]using h |x,.list ds,n,h=>by simp[iP]at n |x,.tuple ds,n,h=>by rw[RD]at h⊢;obtain⟨a,xs,e,h1,h2⟩:=h;exact⟨a,xs,e,h1.t s,bj.t s ds (by simpa[iP]using n) h2⟩ |x,.dict _,_,h=>by simp[RD]at h
theorem bj.t (s:fm H H'):∀{xs:List V}(ds:List PyData),cD ds=true->bj K H xs ds->bj K H' xs ds |xs,[],_,h=>by simpa[bj]using h |xs,d::ds,n,h=>by rw[bj]at h⊢;rw[cD,Bool.and_eq_true]at n;obtain⟨y,ys,e,h1,h2⟩:=h;exact⟨y,ys,e,RD.t s d n.1 h1,bj.t s ds n.2 h2⟩
end
theorem bj.ck:∀{xs:List V}{ns:List Int},bj K H xs (ns.map PyData.int)->xs=ns.map V.int |xs,[],h=>h.nil_inv |xs,n::ns,h=>by obtain⟨y,ys,rfl,h1,h2⟩:=h.cons_inv;rw[h1.int_inv,bj.ck h2];rfl
theorem fY:∀(ns:List Int),bj K H (ns.map V.int) (ns.map PyData.int) |[]=>ba |n::ns=>aP (bU n) (fY ns)
theorem qU{J:It}{xs:List V}{ds:List PyData}{te:TE}{Q:VK}{D:Addr}{H0:Hp}(rest:St)(nw:Nw H H0 D (.lst []))(hl:xs.length=ds.length)(hz:xs.length<=1000)(hn:cD ds=true) (go:∀i x H2,xs[i]? =some x->aI H H2->J.go i H2/\∀y H3,J.yld i H2 y H3->H3=H2/\y=x)(stop:∀H2,aI H H2->J.stop xs.length H2) (hs:∀(i:Nat)(x:V)(d:PyData)(H2:Hp)(Q':VK),xs[i]? =some x->ds[i]? =some d->aI H H2->(∀y H3,aI H2 H3->RD K H3 y d->Q' y H3)->te (some x::rest) H2 Q') (hq:∀H' ys,aI H H'->H' D=some (.lst ys)->bj K H' ys ds->Q (.ref D) H'):fk J (cS 0) gC te Q D (none::rest) H0:=by
  have hD:=nw.no;refine fK xs.length (fun i σ H2=>aI H H2/\(∃ys,H2 D=some (.lst ys)/\bj K H2 ys (ds.take i))/\∃v,σ=v::rest) ?_ ?_ ?_
  ·exact⟨nw.same,⟨[],nw.at',ba⟩,none,rfl⟩
  · rintro i σ H2 hi ⟨s2,⟨ys,d2,r2⟩,v,rfl⟩
    have hib:i<ds.length:=by rw[<-hl];exact hi
    have ex:=List.getElem?_eq_getElem hi;have eb:=List.getElem?_eq_getElem hib;obtain⟨g1,g2⟩:=go i _ H2 ex s2;refine⟨g1,fun y H3 hy=>?_⟩;obtain⟨rfl,rfl⟩:=g2 y H3 hy;refine zW ?_;refine hs i _ _ _ _ ex eb s2 fun z H4 s4 r4=>?_;have d4:=s4 _ _ d2;have len:=r2.length;rw[List.length_take]at len;refine⟨ys,d4,?_,xs.length-(i+1),by omega,rfl,by omega,fun b o e=>?_,⟨ys++[z],au,?_⟩,_,rfl⟩
    · have:(1000:Nat)<sizeLine:=by decide
      omega
    ·rw[aj (aX e hD)];exact s4 b o (s2 b o e)
    · have t:fm H4 (upd H4 D (.lst (ys++[z]))):=.nP d4
      rw[List.take_succ,eb];have n1:cD (ds.take i)=true:=bS.mpr fun d hd=>bS.mp hn d (List.mem_of_mem_take hd);exact(bj.t t _ n1 (bj.mono s4 _ r2)).append (aP (RD.t t _ (bS.mp hn _ (List.getElem_mem hib)) r4) ba)
  · rintro σ H2 ⟨s2,⟨ys,d2,r2⟩,v,rfl⟩
    refine⟨stop H2 s2,hq H2 ys s2 d2 ?_⟩;rw[hl,List.take_length]at r2;exact r2
theorem iQ{a:Addr}{xs:List V}{ds:List PyData}{te:TE}{Q:VK}{D:Addr}{H0:Hp}(rest:St)(hx:bG K H a xs)(nw:Nw H H0 D (.lst []))(hl:xs.length=ds.length)(hz:xs.length<=1000)(hn:cD ds=true) (hs:∀(i:Nat)(x:V)(d:PyData)(H2:Hp)(Q':VK),xs[i]? =some x->ds[i]? =some d->aI H H2->(∀y H3,aI H2 H3->RD K H3 y d->Q' y H3)->te (some x::rest) H2 Q') (hq:∀H' ys,aI H H'->H' D=some (.lst ys)->bj K H' ys ds->Q (.ref D) H'):fk (B9 K a) (cS 0) gC te Q D (none::rest) H0:=qU rest nw hl hz hn (fun i x H2 e s=>⟨⟨xs,x,hx.go s,e⟩,fun y H3 ⟨e3,y3⟩=>⟨e3,by have:=y3 _ (hx.go s);rw[e]at this;exact(Option.some.inj this).symm⟩⟩) (fun H2 s=>⟨xs,hx.go s,Nat.le_refl _⟩) hs hq
theorem wj{lo:Int}{n:Nat}{ds:List PyData}{te:TE}{Q:VK}{D:Addr}{H0:Hp}(rest:St)(nw:Nw H H0 D (.lst []))(hl:n=ds.length)(hz:n<=1000)(hn:cD ds=true) (hs:∀(i:Nat)(d:PyData)(H2:Hp)(Q':VK),ds[i]? =some d->aI H H2->(∀y H3,aI H2 H3->RD K H3 y d->Q' y H3)->te (some (.int (lo+i))::rest) H2 Q') (hq:∀H' ys,aI H H'->H' D=some (.lst ys)->bj K H' ys ds->Q (.ref D) H'):fk (zH lo n) (cS 0) gC te Q D (none::rest) H0:=by
  have hx:∀i x,((List.range n).map fun i:Nat=>V.int (lo+i))[i]? =some x->i<n/\x= .int (lo+i):=fun i x e=>by rw[List.getElem?_map]at e;cases h:(List.range n)[i]? with |none=>rw[h]at e;cases e |some j=>rw[h]at e;obtain⟨h1,h2⟩:=List.getElem?_eq_some_iff.mp h;rw[List.getElem_range]at h2;subst h2;exact⟨by simpa using h1,(Option.some.inj e).symm⟩
  refine qU (xs:=(List.range n).map fun i:Nat=>V.int (lo+i)) rest nw (by simpa using hl) (by simpa using hz) hn (fun i x H2 e s=>?_) (fun H2 s=>?_) (fun i x d H2 Q' e1 e2 s k=>?_) hq
  · obtain⟨h1,rfl⟩:=hx i x e
    exact⟨h1,fun y H3 ⟨e3,y3⟩=>⟨e3,y3⟩⟩
  · show n<=_
    simp
  · obtain⟨h1,rfl⟩:=hx i x e1
    exact hs i d H2 Q' e2 s k
theorem fC{b1 b2:Bool}{l1 l2:Addr}{xs ys:List V}{ds:List PyData}{te:TE}{Q:VK}{D:Addr}{H0:Hp}{n:Nat}(rest:St)(hn2:n=2)(h1:iq b1 K H l1 xs)(h2:iq b2 K H l2 ys)(nw:Nw H H0 D (.lst [])) (hl:min xs.length ys.length=ds.length)(hz:ds.length<=1000)(hn:cD ds=true) (hs:∀(i:Nat)(x y:V)(d:PyData)(H2:Hp)(Q':VK),xs[i]? =some x->ys[i]? =some y->ds[i]? =some d->aI H H2->(∀z H3,aI H2 H3->RD K H3 z d->Q' z H3)->te (some x::some y::rest) H2 Q') (hq:∀H' zs,aI H H'->H' D=some (.lst zs)->bj K H' zs ds->Q (.ref D) H'):fk (vW K b1 b2 l1 l2) (m3 K n (fz (cS 0) (fz (cS 1) nj))) gC te Q D (none::none::rest) H0:=by
  subst hn2;have hD:=nw.no;refine fK ds.length (fun i σ H2=>aI H H2/\(∃zs,H2 D=some (.lst zs)/\bj K H2 zs (ds.take i))/\∃v v',σ=v::v'::rest) ?_ ?_ ?_
  ·exact⟨nw.same,⟨[],nw.at',ba⟩,none,none,rfl⟩
  · rintro i σ H2 hi ⟨s2,⟨zs,d2,r2⟩,v,v',rfl⟩
    have hx:i<xs.length:=by omega
    have hy:i<ys.length:=by omega
    have ex:=List.getElem?_eq_getElem hx;have ey:=List.getElem?_eq_getElem hy;have eb:=List.getElem?_eq_getElem hi;refine⟨⟨xs,ys,_,_,h1.go s2,h2.go s2,ex,ey⟩,fun y' H3 hy'=>?_⟩;obtain⟨T,x0,y0,rfl,k1,k2,n3⟩:=hy';have e1:=k1 _ (h1.go s2);have e2:=k2 _ (h2.go s2);rw[ex]at e1;rw[ey]at e2;cases e1;cases e2;refine⟨T,_,rfl,bG.of n3.at',rfl,_,_,rfl,_,_,rfl,rfl,?_⟩;refine yes (bK ?_);refine hs i _ _ _ _ _ ex ey eb (s2.trans n3.same) fun z H4 s4 r4=>?_;have s24:=n3.same.trans s4;have d4:=s24 _ _ d2;have len:=r2.length;rw[List.length_take]at len;refine⟨zs,d4,?_,ds.length-(i+1),by omega,rfl,by omega,fun b o e=>?_,⟨zs++[z],au,?_⟩,_,_,rfl⟩
    · have:(1000:Nat)<sizeLine:=by decide
      omega
    ·rw[aj (aX e hD)];exact s24 b o (s2 b o e)
    · have t:fm H4 (upd H4 D (.lst (zs++[z]))):=.nP d4
      rw[List.take_succ,eb];have n1:cD (ds.take i)=true:=bS.mpr fun d hd=>bS.mp hn d (List.mem_of_mem_take hd);exact(bj.t t _ n1 (bj.mono s24 _ r2)).append (aP (RD.t t _ (bS.mp hn _ (List.getElem_mem hi)) r4) ba)
  · rintro σ H2 ⟨s2,⟨zs,d2,r2⟩,v,v',rfl⟩
    refine⟨⟨xs,ys,h1.go s2,h2.go s2,by omega⟩,hq H2 zs s2 d2 ?_⟩;rw[List.take_length]at r2;exact r2
end
theorem lJ:∀{ns:List Int}{us:List Value},Vals (ns.map V.int) us->(∀v∈us,∃a t,v=Value.int a t)/\numsOf us=ns
  |[],_,.nil=>⟨fun _ h=>(nomatch h),rfl⟩ |n::ns,_,.cons q r=>by
    obtain⟨t,rfl⟩:=(show∃t,_=Value.int n t from q);obtain⟨h1,h2⟩:=lJ r;refine⟨fun v hv=>?_,?_⟩
    · rcases List.mem_cons.mp hv with rfl|hv
      ·exact⟨n,t,rfl⟩
      ·exact h1 v hv
    · show n::numsOf _=_
      rw[h2]
section
variable {X:Cx}
theorem wk(K:PySem.W.Frag)(hK:X.K=K)(hc:X.calm=true):cM X (.builtin "max") (fun xs H Q=>∃(l:Addr)(ns:List Int),xs=[.ref l]/\bc K H l (ns.map V.int)/\ns≠[]/\∀M,M∈ns->(∀a∈ns,a<=M)->Q (.int M) H):=by
 subst hK;intro pins s σ H xs us Q I r h;obtain⟨l,ns,rfl,hl,hne,q⟩:=h;obtain⟨u,rfl,ru⟩:=vals1 r;cases(show u=Value.ref l from ru);obtain⟨its,rv,pl,hz⟩:=I.list hl;obtain⟨a1,a2⟩:=lJ rv;have all:AllInts its.toArray:=fun v hv=>a1 v (by simpa using hv);obtain⟨ps,hps⟩:=all.items;have e0:numsOf (intItems ps).toList=ns:=by rw[<-hps];exact a2
 rw[nums_intItems]at e0;have hlen:ps.size=ns.length:=by rw[<-e0,List.length_map,Array.length_toList]
 have hpos:0<ps.size:=by rw[hlen];exact List.length_pos_iff.mpr hne
 refine max_intList (I.ok.hd hc) (by rw[<-hps];exact pl.isList) hpos fun v h' tk hv hk=>?_;obtain⟨t,rfl⟩:=intItems_at hv;obtain⟨h1,h2⟩:=argBest_gt (numAt ps) (ps.size-1);refine⟨.int _,H,I.kept hk,⟨_,rfl⟩,q _ ?_ fun a ha=>?_⟩
 ·rw[numAt_eq,e0];exact getD_mem (by omega)
 · obtain⟨j,hj,rfl⟩:=mem_getD ha
   rw[<-e0,<-numAt_eq];exact h2 j (by omega)
theorem nQ{ns:List Int}{us:List Value}(r:Vals (ns.map V.int) us){i:Nat}{v:Value}(h:us[i]? =some v):∃n t,ns[i]? =some n/\v=Value.int n t:=by
 have hl:=r.length;rw[List.length_map]at hl;have hi:i<ns.length:=by rw[hl];exact(List.getElem?_eq_some_iff.mp h).1
 obtain⟨u,e,ru⟩:=r.get (i:=i) (x:=.int ns[i]) (by rw[List.getElem?_map,List.getElem?_eq_getElem hi];rfl);rw[h]at e;cases e;obtain⟨t,rfl⟩:=(show∃t,v=Value.int ns[i] t from ru);exact⟨_,t,List.getElem?_eq_getElem hi,rfl⟩
theorem pG(ns:List Int):((List.range ns.length).any fun i=>((ns.map (· !=0))[i]?).getD false)=ns.any (· !=0):=by have:=LSm.range_any (ns.map (· !=0));rw[List.length_map]at this;rw[this,List.any_map];rfl
theorem Gi(K:PySem.W.Frag)(hK:X.K=K)(hc:X.calm=true):cM X (.builtin "any") (fun xs H Q=>∃(l:Addr)(ns:List Int),xs=[.ref l]/\(bc K H l (ns.map V.int)\/bG K H l (ns.map V.int))/\Q (.bl (ns.any (· !=0))) H):=by
 subst hK;intro pins s σ H xs us Q I r h;obtain⟨l,ns,rfl,hl,q⟩:=h;obtain⟨u,rfl,ru⟩:=vals1 r;cases(show u=Value.ref l from ru);have hh:=I.ok.hd hc;have fin:∀(its:List Value),Vals (ns.map V.int) its->((List.range its.toArray.size).any fun i=>((ns.map (· !=0))[i]?).getD false)=ns.any (· !=0):=fun its rv=>by rw[List.size_toArray,<-rv.length,List.length_map];exact pG ns
 rcases hl with hl|hl
 · obtain⟨its,rv,pl,hz⟩:=I.list hl
   have hl':=pl.isList;have hlt:l<s.heap.objs.size:=by obtain⟨_,e,_⟩:=hl';exact Heap.lt_size e
   refine call_any_walk (wpAny_pyIter_list hl' ?_);refine⟨s.heap.objs.size,[s.heap.objs.size,l],[s.heap.objs.size],its.toArray.size,_,_,fun i=>((ns.map (· !=0))[i]?).getD false,rfl,Walks.list (A:=X.A.in1) hh _ l (Nat.ne_of_lt hlt) its.toArray,⟨⟨_,Heap.get?_push_size _ rfl,rfl,rfl⟩,hl'.push _⟩,fun i v s' Q' E' hP hQ=>?_,fun h' tk hk=>?_⟩
   · obtain⟨n,t,e,rfl⟩:=nQ rv (i:=i) (v:=v) (by simpa using hP)
     simp only[List.getElem?_map,e]at hQ;exact truthy_int hQ
   · rw[fin its rv]
     exact⟨.bl _,H,I.kept (LSm.kept_iter hk),rfl,q⟩
 · obtain⟨its,rv,pl,hz⟩:=I.tuple hl
   have hl':s.heap.IsTuple l its.toArray:=by obtain⟨⟨cls,dd,data,sl⟩,ho,hc',n,hd⟩:=pl;exact⟨_,ho,hc',by simpa using⟨n,hd⟩⟩
   have hlt:l<s.heap.objs.size:=by obtain⟨_,e,_⟩:=hl';exact Heap.lt_size e
   refine call_any_walk (wpAny_pyIter_tuple hl' ?_);refine⟨s.heap.objs.size,[s.heap.objs.size,l],[s.heap.objs.size],its.toArray.size,_,_,fun i=>((ns.map (· !=0))[i]?).getD false,rfl,Walks.tuple (A:=X.A.in1) hh _ l (Nat.ne_of_lt hlt) its.toArray,⟨⟨_,Heap.get?_push_size _ rfl,rfl,rfl⟩,hl'.push _⟩,fun i v s' Q' E' hP hQ=>?_,fun h' tk hk=>?_⟩
   · obtain⟨n,t,e,rfl⟩:=nQ rv (i:=i) (v:=v) (by simpa using hP)
     simp only[List.getElem?_map,e]at hQ;exact truthy_int hQ
   · rw[fin its rv]
     exact⟨.bl _,H,I.kept (LSm.kept_iter hk),rfl,q⟩
end
end L2
set_option maxHeartbeats 1000000
namespace Lw
open PySem PySem.Spec PyProof.Rows L2
def Gj(c m:Int):Prop:=0<=c/\0<=m/\m<2147483648
def fD(H:Hp)(p:Addr):Prop:=∃c m,H p=some (.lst [.int c,.int m])/\Gj c m
structure bR(p:Addr)(H H':Hp):Prop where
 bag:fD H' p
 same:∀b o,b≠p->H b=some o->H' b=some o
theorem bR.refl{p:Addr}{H:Hp}(h:fD H p):bR p H H:=⟨h,fun _ _ _ e=>e⟩
theorem bR.trans{p:Addr}{H H1 H2:Hp}(a:bR p H H1)(b:bR p H1 H2):bR p H H2:=⟨b.bag,fun c o n e=>b.same c o n (a.same c o n e)⟩
theorem bR.upd{p:Addr}{H:Hp}{c m:Int}(h:Gj c m):bR p H (L2.upd H p (.lst [.int c,.int m])):=⟨⟨c,m,au,h⟩,fun b o n e=>by rw[aj n];exact e⟩
theorem bR.fE{p:Addr}{H H':Hp}(h:fD H p)(s:aI H H'):bR p H H':=by obtain⟨c,m,e,ok⟩:=h;exact⟨⟨c,m,s _ _ e,ok⟩,fun b o _ e=>s b o e⟩
theorem Gk{j:Int}(h0:0<=j)(h:j<=10^40):Wd j:=by
 have:j.natAbs<=10^40:=by omega
 exact Nat.lt_of_le_of_lt this (by decide+kernel)
theorem fD.ne{H:Hp}{p:Addr}(h:fD H p):H p≠none:=by obtain⟨c,m,e,_⟩:=h;rw[e];exact fun z=>nomatch z
theorem fD.A1{H:Hp}{p:Addr}{q:Addr}{o:HO}(h:fD H p)(e:H q=some o)(n:∀xs,o≠ .lst xs):q≠p:=by obtain⟨c,m,e',_⟩:=h;exact mY e e' (n _)
theorem bR.t{p:Addr}{H H':Hp}(bg:fD H p)(b:bR p H H'):fm H H':=fun c o n e=>b.same c o (bg.A1 e n) e
theorem bR.ji{p:Addr}{H0 H H':Hp}(s:aI H0 H)(hp:H0 p=none)(b:bR p H H'):aI H0 H':=fun c o e=>b.same c o (aX e hp) (s c o e)
section
variable {K:PySem.W.Frag}
theorem wm{J:It}{te:TE}{Q:VK}{D p:Addr}{H H0:Hp}(n:Nat)(rest:L2.St)(nw:Nw H H0 D (.lst []))(bg:fD H p)(hn:n<=1000)(xv:Nat->V) (go:∀i H2,i<n->bR p H H2->J.go i H2/\∀y H3,J.yld i H2 y H3->H3=H2/\y=xv i)(stop:∀H2,bR p H H2->J.stop n H2)(Pz:Int->Prop) (hs:∀i H2 (Q':VK),i<n->bR p H H2->(∀z H3,Pz z->bR p H2 H3->Q' (.int z) H3)->te (some (xv i)::rest) H2 Q') (hq:∀H' (is:List Int),bR p H H'->H' D=some (.lst (is.map V.int))->is.length=n->(∀z∈is,Pz z)->Q (.ref D) H'):fk J (cS 0) gC te Q D (none::rest) H0:=by
  have hDp:D≠p:=fun e=>bg.ne (e▸nw.no);refine fK n (fun i σ H3=>bR p H H3/\(∃is:List Int,H3 D=some (.lst (is.map V.int))/\is.length=i/\∀z∈is,Pz z)/\∃v,σ=v::rest) ?_ ?_ ?_
  ·exact⟨.fE bg nw.same,⟨[],nw.at',rfl,fun _ h=>(List.not_mem_nil h).elim⟩,none,rfl⟩
  · rintro i σ H3 hi ⟨b3,⟨is,d3,li,pi⟩,v,rfl⟩
    obtain⟨g1,g2⟩:=go i H3 hi b3;refine⟨g1,fun y H4 hy=>?_⟩;obtain⟨rfl,rfl⟩:=g2 y H4 hy;refine zW ?_;refine hs i _ _ hi b3 fun z H5 pz b5=>?_;refine⟨_,b5.same _ _ hDp d3,?_,n-(i+1),by omega,rfl,by omega,?_,⟨is++[z],?_,?_,?_⟩,_,rfl⟩
    · rw[List.length_map,li]
      have:(1000:Nat)<sizeLine:=by decide
      omega
    · have b35:=b3.trans b5
      refine⟨?_,fun b o n e=>?_⟩
      · obtain⟨c,m,e,ok⟩:=b35.bag
        exact⟨c,m,by rw[aj hDp.symm];exact e,ok⟩
      ·rw[aj (aX e nw.no)];exact b35.same b o n e
    ·rw[au,List.map_append];rfl
    ·rw[List.length_append,li];rfl
    · intro y hy
      rcases List.mem_append.mp hy with h|h
      ·exact pi y h
      ·rw[List.mem_singleton.mp h];exact pz
  · rintro σ H3 ⟨b3,⟨is,d3,li,pi⟩,v,rfl⟩
    exact⟨stop H3 b3,hq H3 is b3 d3 li pi⟩
theorem A2(ns:List Int){i:Int}(h0:0<=i)(h:i<ns.length):∃z,z∈ns/\jJ (ns.map V.int) i=some (.int z):=by
 have hl:i.toNat<ns.length:=by omega
 exact⟨ns[i.toNat],List.getElem_mem hl,bB h0 (by rw[List.getElem?_map,List.getElem?_eq_getElem hl];rfl)⟩
theorem wo{J:It}{te:TE}{Q:VK}{D p:Addr}{H H0:Hp}(n:Nat)(rest:L2.St)(nw:Nw H H0 D (.lst []))(bg:fD H p)(hn:n<=1000)(xv:Nat->V) (go:∀i H2,i<n->bR p H H2->J.go i H2/\∀y H3,J.yld i H2 y H3->H3=H2/\y=xv i)(stop:∀H2,bR p H H2->J.stop n H2)(Pd:Nat->PyData->Prop) (hs:∀i H2 (Q':VK),i<n->bR p H H2->(∀y d H3,Pd i d->iP d=true->RD K H3 y d->bR p H2 H3->Q' y H3)->te (some (xv i)::rest) H2 Q') (hq:∀H' ys ds,bR p H H'->H' D=some (.lst ys)->bj K H' ys ds->ds.length=n->cD ds=true->(∀i d,ds[i]? =some d->Pd i d)->Q (.ref D) H'):fk J (cS 0) gC te Q D (none::rest) H0:=by
  have hDp:D≠p:=fun e=>bg.ne (e▸nw.no);refine fK n (fun i σ H3=>bR p H H3/\(∃ys ds,H3 D=some (.lst ys)/\bj K H3 ys ds/\ds.length=i/\cD ds=true/\∀j d,ds[j]? =some d->Pd j d)/\∃v,σ=v::rest) ?_ ?_ ?_
  ·exact⟨.fE bg nw.same,⟨[],[],nw.at',ba,rfl,rfl,fun j d e=>by simp at e⟩,none,rfl⟩
  · rintro i σ H3 hi ⟨b3,⟨ys,ds,d3,r3,li,ni,pi⟩,v,rfl⟩
    obtain⟨g1,g2⟩:=go i H3 hi b3;refine⟨g1,fun y H4 hy=>?_⟩;obtain⟨rfl,rfl⟩:=g2 y H4 hy;refine zW ?_;refine hs i _ _ hi b3 fun z d H5 pz nz rz b5=>?_;have d5:=b5.same _ _ hDp d3;have t:fm H5 (L2.upd H5 D (.lst (ys++[z]))):=.nP d5;refine⟨ys,d5,?_,n-(i+1),by omega,rfl,by omega,?_,⟨ys++[z],ds++[d],au,?_,?_,?_,?_⟩,_,rfl⟩
    · rw[r3.length,li]
      have:(1000:Nat)<sizeLine:=by decide
      omega
    · have b35:=b3.trans b5
      refine⟨?_,fun b o n e=>?_⟩
      · obtain⟨c,m,e,ok⟩:=b35.bag
        exact⟨c,m,by rw[aj hDp.symm];exact e,ok⟩
      ·rw[aj (aX e nw.no)];exact b35.same b o n e
    ·exact(bj.t ((bR.t b3.bag b5).trans t) _ ni r3).append (aP (RD.t t _ nz rz) ba)
    ·rw[List.length_append,li];rfl
    ·exact bS.mpr fun x hx=>by
        rcases List.mem_append.mp hx with h|h
        ·exact bS.mp ni x h
        ·rw[List.mem_singleton.mp h];exact nz
    · intro j e he
      by_cases hj:j<ds.length
      · rw[List.getElem?_append_left hj]at he
        exact pi j e he
      · have hj2:j=ds.length:=by have:=(List.getElem?_eq_some_iff.mp he).1;rw[List.length_append]at this;have:j<ds.length+1:=this;omega
        subst hj2;rw[List.getElem?_append_right (Nat.le_refl _),Nat.sub_self]at he;cases he;rw[li];exact pz
  · rintro σ H3 ⟨b3,⟨ys,ds,d3,r3,li,ni,pi⟩,v,rfl⟩
    exact⟨stop H3 b3,hq H3 ys ds b3 d3 r3 li ni pi⟩
end
end Lw
namespace Ln
open PySem L2
def gr(i:Int):Int:=if i<0 then-i else i
theorem iR(i:Int):gr i=(i.natAbs:Int):=by unfold gr;split<;>omega
def ay(ns:List Int):Nat:=ns.foldr (fun z m=>max z.natAbs m) 0
theorem ml:∀{ns:List Int}{z:Int},z∈ns->z.natAbs<=ay ns
  |n::ns,z,h=>by
    show z.natAbs<=max n.natAbs (ay ns);rcases List.mem_cons.mp h with rfl|h
    ·exact Nat.le_max_left _ _
    ·exact Nat.le_trans (ml h) (Nat.le_max_right _ _)
theorem ku:∀{ns:List Int},ns≠[]->∃z∈ns,z.natAbs=ay ns
  |[],h=>absurd rfl h |[n],_=>⟨n,.head _,by show n.natAbs=max n.natAbs 0;omega⟩ |n::m::ns,_=>by
    obtain⟨z,hz,e⟩:=ku (ns:=m::ns) (by simp);by_cases h:n.natAbs<=ay (m::ns)
    ·exact⟨z,.tail _ hz,by show _=max n.natAbs (ay (m::ns));omega⟩
    ·exact⟨n,.head _,by show _=max n.natAbs (ay (m::ns));omega⟩
theorem dU{ns:List Int}{m:Nat}(h:∀z∈ns,z.natAbs<=m):ay ns<=m:=by cases ns with |nil=>exact Nat.zero_le _ |cons a r=>obtain⟨z,hz,e⟩:=ku (ns:=a::r) (by simp);rw[<-e];exact h z hz
theorem wq{ns:List Int}(h:∃z∈ns,z≠0):0<ay ns:=by obtain⟨z,hz,h0⟩:=h;have:=ml hz;omega
theorem jj{ns:List Int}(hne:ns≠[]){M:Int}(h1:M∈ns.map gr)(h2:∀a∈ns.map gr,a<=M):M=(ay ns:Int):=by obtain⟨z,hz,e⟩:=List.mem_map.mp h1;obtain⟨y,hy,ey⟩:=ku hne;have a1:=ml hz;have a2:=h2 (gr y) (List.mem_map.mpr ⟨y,hy,rfl⟩);rw[iR]at e a2;omega
def fZ(p q:Int):Int:=(2*(p.natAbs:Int)+q)/(2*q)
def ek(p q:Int):Int:=if p>=0 then fZ p q else-fZ p q
structure ug(x p q:Int):Prop where
 lo:-q<=2*(x*q-p)
 hi:2*(x*q-p)<=q
 far:2*(x*q-p)=q\/2*(x*q-p)=-q->p.natAbs<=(x*q).natAbs
theorem uh{p q:Int}(hq:0<q):2*q*fZ p q<=2*(p.natAbs:Int)+q/\2*(p.natAbs:Int)+q<2*q*fZ p q+2*q:=by have h:=Int.mul_ediv_add_emod (2*(p.natAbs:Int)+q) (2*q);have h0:=Int.emod_nonneg (2*(p.natAbs:Int)+q) (show 2*q≠0 by omega);have h1:=Int.emod_lt_of_pos (2*(p.natAbs:Int)+q) (show 0<2*q by omega);unfold fZ;constructor<;>omega
theorem A3{p q:Int}(hq:0<q):0<=fZ p q:=Int.ediv_nonneg (by omega) (by omega)
theorem near_is{p q:Int}(hq:0<q):ug (ek p q) p q:=by
 obtain⟨h1,h2⟩:=uh (p:=p) hq;have h0:=A3 (p:=p) hq;rw[Int.mul_assoc,Int.mul_comm q]at h1 h2;have hs0:0<=fZ p q*q:=Int.mul_nonneg h0 (Int.le_of_lt hq);unfold ek;split
 ·refine⟨?_,?_,fun h=>?_⟩<;>(generalize fZ p q*q=s at*;omega)
 ·refine⟨?_,?_,?_⟩<;>rw[Int.neg_mul]<;>(generalize fZ p q*q=s at*;omega)
theorem iS{x y q:Int}(hq:0<q)(h:x<y):x*q+q<=y*q:=by have:(x+1)*q<=y*q:=Int.mul_le_mul_of_nonneg_right (by omega) (by omega);rw[Int.add_mul,Int.one_mul]at this;exact this
theorem ui{x y p q:Int}(hq:0<q)(a:ug x p q)(b:ug y p q):x=y:=by
 have key:∀{x y:Int},ug x p q->ug y p q->¬x<y:=fun{x y} a b h=>by
  have g:=iS hq h;have e1:=a.lo;have e2:=a.hi;have e3:=b.lo;have e4:=b.hi;have f1:=a.far;have f2:=b.far;have hx:x*q=0\/q<=x*q\/x*q<=-q:=by
   rcases Int.lt_trichotomy x 0 with h|h|h
   ·have:=iS hq h;omega
   ·left;rw[h,Int.zero_mul]
   ·have:=iS hq h;omega
  have hy:y*q=0\/q<=y*q\/y*q<=-q:=by
   rcases Int.lt_trichotomy y 0 with h|h|h
   ·have:=iS hq h;omega
   ·left;rw[h,Int.zero_mul]
   ·have:=iS hq h;omega
  generalize x*q=u at*;generalize y*q=v at*;have hu:=f1 (by omega);have hv:=f2 (by omega);omega
 rcases Int.lt_trichotomy x y with h|h|h
 ·exact absurd h (key a b)
 ·exact h
 ·exact absurd h (key b a)
theorem qV{x p q:Int}(hq:0<q)(a:ug x p q):x=ek p q:=ui hq a (near_is hq)
theorem jk{q:Int}(hq:0<q):ek 0 q=0:=(qV hq ⟨by omega,by omega,fun h=>by omega⟩).symm
theorem wu{n q:Int}(hq:0<q):ek (q*n) q=n:=by refine(qV hq ⟨?_,?_,?_⟩).symm<;>rw[Int.mul_comm n q]<;>omega
end Ln
namespace L2
open PySem PySem.Spec PyProof.Rows
end L2
namespace L2
open PySem PySem.Spec PyProof.Rows
abbrev Ir(b:Bool)(h:Heap)(l:Addr):Heap:=h.push {cls:=.type (Bu b),data:=.fields #[.ref l,.int 0 0]}
abbrev IZ(b:Bool)(h:Heap)(l:Addr):Heap:=(Ir b h l).push {cls:=.type "enumerate",data:=.fields #[.none,.bool false,.ref h.objs.size,rawInt 0,.none,.none]}
theorem Gm(b:Bool)(l:Addr)(xs:Array Value):Meets (Builtin.«enumerate.__new__» ⟨[.type "enumerate",.ref l],[]⟩) (fun _ R s=>kS b s.heap l xs/\R (.ok (.ret (.ref (Ir b s.heap l).objs.size))) {s with heap:=IZ b s.heap l}):=.of_wp fun prog w A R s h=>by
   obtain⟨hp,gg,d,tk,os⟩:=s;obtain⟨hl,h⟩:=h;have hsub:=sub_enumerate;have hL:kS b (Shared.heap ⟨hp,gg,d,tk,os⟩) l xs:=hl
   wp_walk using ud hL;refine wpAny_stack_any fun st=>wpAny_pure ?_;split
   · rename_i c _ _ _ _ _
     cases(c==Value.type "enumerate")
     · wp_walk using ud hL
       exact⟨_,rfl,h⟩
     · wp_walk using ud hL
       exact⟨_,rfl,h⟩
   · wp_walk using ud hL
     exact⟨_,rfl,h⟩
section
variable {prog:Program}{w:World}{A:Around}{E:Value->Shared->Prop}{s:Shared}
theorem DC{b:Bool}{l:Addr}{xs:Array Value}{Q:Value->Shared->Prop}(hl:kS b s.heap l xs) (q:∀g,IsEnum g (s.heap.objs.size+1) s.heap.objs.size 0 .none->pE b g s.heap.objs.size l 0->(∀c o,s.heap.get? c=some o->g.get? c=some o)->Q (.ref (s.heap.objs.size+1)) {s with heap:=g}): wpAny (model prog w) A (call (.type "enumerate") [.ref l]) Q E s:=by refine callType_new PySem.F.called_enumerate (by decide) (PySem.F.typeCall_enumerate_1 _) (PySem.F.newCall_enumerate_1 _) (fun obj=>PySem.F.args_object_init_2 obj _) PySem.F.entry_enumerate_new (Gm b l xs) ⟨hl,?_⟩;have z1:(Ir b s.heap l).objs.size=s.heap.objs.size+1:=Heap.size_push ..;have g2:(IZ b s.heap l).get? (Ir b s.heap l).objs.size=some _:=Heap.get?_push_size _ rfl;have g1:(IZ b s.heap l).get? s.heap.objs.size=some _:=Heap.get?_push_of_some _ (Heap.get?_push_size _ rfl);show _/\_;rw[z1]at g2⊢;refine⟨⟨_,g2,rfl⟩,q _ g2 ?_ fun c o e=>Heap.get?_push_of_some _ (Heap.get?_push_of_some _ e)⟩;cases b<;>exact⟨_,g1,rfl,rfl⟩
theorem qW{b:Bool}{it l:Addr}{xs:Array Value}(hh:A.handled=none)(ne:l≠it):Draws prog w A it [it,l] xs.size (fun i x=>xs[i]? =some x) (fun i h=>pE b h it l i/\kS b h l xs) where
 live:=fun i h st=>by obtain⟨o,e,_⟩:=st.1.ob;exact⟨o,e⟩
 frame:=fun i h h' st k=>⟨st.1.to fun o e=>k it (by simp) o e,st.2.to fun o e=>k l (by simp) o e⟩
 item:=fun i s Q E hi st hQ=>Il st.1 st.2 (x:=xs[i]) (by simp[hi]) fun g gi sb=>hQ _ g s.toks (by simp[hi]) ⟨gi,st.2.to fun o e=>sb.extBut _ _ ne e⟩ sb
 done:=fun s Q E st hE=>IX hh st.1 st.2 (by simp) fun g e a b=>hE g e a b
end
def Gn(K:PySem.W.Frag)(b:Bool)(l:Addr):It:=⟨fun i H=>∃xs x,iq b K H l xs/\xs[i]? =some x,fun i H v H'=>∃T x,v= .ref T/\(∀xs,iq b K H l xs->xs[i]? =some x)/\Nw H H' T (.tup [.int i,x]),fun i H=>∃xs,iq b K H l xs/\xs.length=i⟩
theorem uj{P:Program}{w:World}{K:PySem.W.Frag}{elts:List Expr}{kt:Nat}{pos:Pos}{b:Bool}{e it l:Addr}(D:e≠it): Turn P w K (.Tuple elts kt pos) (Gn K b l) [e,it] e (fun i h=>(∃old,IsEnum h e it i old)/\pE b h it l i) where
  mem:=by simp
  obj:=fun i h st c hc=>by
   obtain⟨⟨old,he⟩,h1⟩:=st;simp only[List.mem_cons,List.not_mem_nil,or_false]at hc;rcases hc with rfl|rfl
   ·exact⟨_,he,fun v e=>by cases e⟩
   ·obtain⟨o,e,_,n⟩:=h1.ob;exact⟨o,e,n⟩
  keep:=fun i h h' st k=>by obtain⟨⟨old,he⟩,h1⟩:=st;exact⟨⟨old,k e (by simp) _ he⟩,h1.to fun o q=>k it (by simp) o q⟩
  item:=by
   intro X hP hw hK hc i pins s σ H E I hf st hg;subst hP hw hK;obtain⟨xs,x,q1,e1⟩:=hg;obtain⟨its,r1,p1⟩:=q1.get I;obtain⟨u1,df,ru1⟩:=r1.get e1;obtain⟨⟨old,he⟩,h1⟩:=st;obtain⟨oi,hoi,ci,_⟩:=h1.ob;have lcls:∃o,s.heap.get? l=some o/\(o.cls= .type "list"\/o.cls= .type "tuple"):=by cases b<;>(obtain⟨o,ho,cc,_⟩:=p1;first|exact⟨o,ho,.inl cc⟩|exact⟨o,ho,.inr cc⟩)
   obtain⟨ol,hol,cl⟩:=lcls;have nel:e≠l:=fun z=>by subst z;rw[he]at hol;cases hol;rcases cl with h|h<;>simp at h
   have nil:l≠it:=fun z=>by subst z;rw[hoi]at hol;cases hol;rw[ci]at cl;cases b<;>(rcases cl with h|h<;>simp[Bu]at h)
   have hlt:i<its.toArray.size:=by rw[List.size_toArray,<-r1.length];exact(List.getElem?_eq_some_iff.mp e1).1
   refine wpAny_pyNext_enum_itemD (qW (I.ok.hd hc) nil) he ⟨h1,p1⟩ hlt D (by simp[D,nel]) fun y h' tk hPy ho hst hT hsz kp=>⟨_,rfl,?_⟩;have ey:y=u1:=by
    have a1:its.toArray[i]? =some y:=hPy;have a2:its.toArray[i]? =some u1:=by simpa using df
    rw[a1]at a2;exact Option.some.inj a2
   subst ey;refine wpAny_letOwnedTupleGo_enum ho fun g' he' sb=>?_;have hs:=sb.extBut;have elt:e<s.heap.objs.size:=Heap.lt_size he;have ilt:it<s.heap.objs.size:=Heap.lt_size hoi;have nw:Nw H (upd H s.heap.objs.size (.tup [.int i,x])) s.heap.objs.size (.tup [.int i,x]):=.of (I.hok.fresh (Nat.le_refl _));have I1:Inv X pins σ (upd H s.heap.objs.size (.tup [.int i,x])) {s with heap:=s.heap.push {cls:=.type "tuple",data:=.seq #[.int i tk,y]},toks:=tk+1}:=I.laid (t':=tk+1) (fun b ob q=>Heap.get?_push_of_some _ q) (Nat.le_refl _) ⟨by show 2<=sizeLine;decide,[.int i tk,y],.cons ⟨tk,rfl⟩ (.cons ru1 .nil),⟨_,Heap.get?_push_size _ rfl,rfl,_,rfl⟩⟩;have lts:∀c∈[e,it],c<s.heap.objs.size:=fun c hc=>by
    simp only[List.mem_cons,List.not_mem_nil,or_false]at hc;rcases hc with rfl|rfl
    ·exact elt
    ·exact ilt
   have hn:∀c∈[e,it],upd H s.heap.objs.size (.tup [.int i,x]) c=none:=fun c hc=>by rw[aj (Nat.ne_of_lt (lts c hc))];exact(hf c hc).1
   have I2:Inv X pins σ (upd H s.heap.objs.size (.tup [.int i,x])) {s with heap:=g',toks:=tk+1}:=Inv.iL (s:={s with heap:=s.heap.push {cls:=.type "tuple",data:=.seq #[.int i tk,y]},toks:=tk+1}) (t':=tk+1) (fp:=[e,it]) I1 (fun c o hc q=>by
    have q:(s.heap.push {cls:=.type "tuple",data:=.seq #[.int i tk,y]}).get? c=some o:=q;have nz:c≠e:=fun z=>hc (by simp[z]);rcases Heap.get?_push_cases q with⟨hbT,rfl⟩|q'
    · subst hbT
      exact hs _ _ nz hT
    ·exact hs _ _ nz (kp c o nz (fun z=>hc (by simp[z])) q')) (fun c hc=>by obtain⟨f0,f1,f2,f3,f4,f5⟩:=hf c hc;exact⟨hn c hc,f1,f2,f3,f4,f5⟩);refine⟨.ref s.heap.objs.size,_,I2,rfl,⟨s.heap.objs.size,x,rfl,fun zs hz=>?_,nw⟩,⟨⟨_,by simpa using he'⟩,hst.1.to fun o q=>hs _ o (Ne.symm D) q⟩,hn⟩;rw[iq.inj I hz q1];exact e1
  done:=by
   intro X hP hw hK hc i pins s σ H E I hf st hg;subst hP hw hK;obtain⟨xs,q1,hend⟩:=hg;obtain⟨its,r1,p1⟩:=q1.get I;obtain⟨⟨old,he⟩,h1⟩:=st;obtain⟨oi,hoi,ci,_⟩:=h1.ob;have lcls:∃o,s.heap.get? l=some o/\(o.cls= .type "list"\/o.cls= .type "tuple"):=by cases b<;>(obtain⟨o,ho,cc,_⟩:=p1;first|exact⟨o,ho,.inl cc⟩|exact⟨o,ho,.inr cc⟩)
   obtain⟨ol,hol,cl⟩:=lcls;have nil:l≠it:=fun z=>by subst z;rw[hoi]at hol;cases hol;rw[ci]at cl;cases b<;>(rcases cl with h|h<;>simp[Bu]at h)
   have hi:i=its.toArray.size:=by rw[List.size_toArray,<-r1.length];exact hend.symm
   subst hi;refine wpAny_pyNext_enum_endD (qW (I.ok.hd hc) nil) he ⟨h1,p1⟩ fun h' kp=>⟨rfl,?_⟩;exact I.iL (t':=s.toks) (fp:=[e,it]) (fun c o hc q=>kp c o (fun z=>hc (by simp[z])) q) hf
  self:=fun _ _ _ _ _ st h=>by obtain⟨⟨old,he⟩,_⟩:=st;exact wpAny_pyIter_enum he h
inductive wx(K:PySem.W.Frag)(b:Bool)(R:It->Hp->Prop)(vs:List V)(H1:Hp):Prop |mk (l:_)(h0:vs=[.ref l])(h1:(∃xs,iq b K H1 l xs))(h2:R (Gn K b l) H1):wx K b R vs H1
def Gp(K:PySem.W.Frag)(b:Bool)(ta:TA):TI:=fun σ H R=>ta σ H fun vs H1=>wx K b R vs H1
theorem A4(K:PySem.W.Frag){X:Cx}(hK:X.K=K)(b:Bool){elts:List Expr}{kt:Nat}{tpos:Pos}{a:Expr}{ta:TA}{p pos:Pos}(hg:Gl X "enumerate")(hm:X.mg "enumerate"=none)(ha:PA X [a] ta)(hs:starEach [a] X.env=[(false,eval a X.env)]:=by rfl)(hs2:starEach [] X.env=[]:=by rfl): PI X (.Tuple elts kt tpos) (.Call (.Name "enumerate" p) [a] [] pos) (Gp K b ta):=by
  subst hK;intro pins s σ H R I h;refine Call_ (gk I hg hm PyProof.Rows.boot_enumerate (PyProof.Rows.callWith_type1 (cn (ha pos pins s σ H _ I h) fun us s1 ⟨vs,H1,I1,r1,q1⟩=>?_) (by rw[hs,hs2]) (by rw[hs2];rfl)));obtain⟨l,e,⟨xs,h1⟩,q⟩:=q1;subst e;obtain⟨u1,rfl,ru1⟩:=vals1 r1;cases(show u1=Value.ref l from ru1);obtain⟨its1,v1,p1⟩:=h1.get I1;refine DC p1 fun g zg ig kp=>wpAny_pyIter_enum zg ?_;refine⟨_,_,_,_,H1,rfl,I1.kept (t':=s1.toks) kp,uj (Nat.ne_of_gt (Nat.lt_succ_self _)),⟨⟨_,zg⟩,ig⟩,fun c hc=>?_,q⟩;have hle:s1.heap.objs.size<=c:=by simp only[List.mem_cons,List.not_mem_nil,or_false]at hc;rcases hc with rfl|rfl<;>first|exact Nat.le_refl _|exact Nat.le_add_right _ _
  exact I1.m4 hle (I1.hok.fresh hle)
theorem wy{K:PySem.W.Frag}{b:Bool}{a:Addr}{xs:List V}{g:TG}{tb:TS}{D:Ends}{σ:St}{H:Hp}(Pv:Nat->St->Hp->Prop)(h0:Pv 0 σ H)(hl:∀i σ H,i<=xs.length->Pv i σ H->iq b K H a xs) (hs:∀i x σ H,xs[i]? =some x->Pv i σ H->∀T H',Nw H H' T (.tup [.int i,x])->g (.ref T) σ H' fun σ2 H2=>tb {D with nx:=Pv (i+1),ct:=Pv (i+1),bk:=D.nx} σ2 H2)(hd:∀σ H,Pv xs.length σ H->D.nx σ H): ∃W:Nat->Nat->St->Hp->Prop,(∃m,W 0 m σ H)/\∀i m σ H,W i m σ H->((Gn K b a).stop i H/\D.nx σ H)\/((Gn K b a).go i H/\∃N:St->Hp->Prop,(∀σ' H',N σ' H'->∃m',m'<m/\W (i+1) m' σ' H')/\∀x H',(Gn K b a).yld i H x H'->g x σ H' fun σ2 H2=>tb {D with nx:=N,ct:=N,bk:=D.nx} σ2 H2):=by
  refine⟨fun i m σ H=>m=xs.length-i/\i<=xs.length/\Pv i σ H,⟨xs.length,by simp,Nat.zero_le _,h0⟩,?_⟩;rintro i m σ H ⟨rfl,hi,p⟩;have q:=hl i σ H hi p;by_cases hlt:i<xs.length
  · refine .inr ⟨⟨xs,xs[i],q,by simp[hlt]⟩,Pv (i+1),fun σ' H' p'=>⟨xs.length-(i+1),by omega,rfl,hlt,p'⟩,fun x H' y=>?_⟩
    obtain⟨T,z,rfl,ez,nw⟩:=y;exact hs i z σ H (ez xs q) p T H' nw
  · have e:i=xs.length:=by omega
    subst e;exact .inl ⟨⟨xs,q,rfl⟩,hd σ H p⟩
theorem A5{K:PySem.W.Frag}{b1 b2:Bool}{a1 a2:Addr}{xs ys:List V}{g:TG}{tb:TS}{D:Ends}{σ:St}{H:Hp}(n:Nat)(hn:n=min xs.length ys.length)(Pv:Nat->St->Hp->Prop)(h0:Pv 0 σ H)(hl:∀i σ H,i<=n->Pv i σ H->iq b1 K H a1 xs/\iq b2 K H a2 ys) (hs:∀i x y σ H,xs[i]? =some x->ys[i]? =some y->Pv i σ H->∀T H',Nw H H' T (.tup [x,y])->g (.ref T) σ H' fun σ2 H2=>tb {D with nx:=Pv (i+1),ct:=Pv (i+1),bk:=D.nx} σ2 H2)(hd:∀σ H,Pv n σ H->D.nx σ H): ∃W:Nat->Nat->St->Hp->Prop,(∃m,W 0 m σ H)/\∀i m σ H,W i m σ H->((vW K b1 b2 a1 a2).stop i H/\D.nx σ H)\/((vW K b1 b2 a1 a2).go i H/\∃N:St->Hp->Prop,(∀σ' H',N σ' H'->∃m',m'<m/\W (i+1) m' σ' H')/\∀x H',(vW K b1 b2 a1 a2).yld i H x H'->g x σ H' fun σ2 H2=>tb {D with nx:=N,ct:=N,bk:=D.nx} σ2 H2):=by
  refine⟨fun i m σ H=>m=n-i/\i<=n/\Pv i σ H,⟨n,by simp,Nat.zero_le _,h0⟩,?_⟩;rintro i m σ H ⟨rfl,hi,p⟩;obtain⟨q1,q2⟩:=hl i σ H hi p;by_cases hlt:i<n
  · have l1:i<xs.length:=by omega
    have l2:i<ys.length:=by omega
    refine .inr ⟨⟨xs,ys,xs[i],ys[i],q1,q2,by simp[l1],by simp[l2]⟩,Pv (i+1),fun σ' H' p'=>⟨n-(i+1),by omega,rfl,hlt,p'⟩,fun x H' y=>?_⟩;obtain⟨T,z1,z2,rfl,e1,e2,nw⟩:=y;exact hs i z1 z2 σ H (e1 xs q1) (e2 ys q2) p T H' nw
  · have e:i=n:=by omega
    subst e;exact .inl ⟨⟨xs,ys,q1,q2,by omega⟩,hd σ H p⟩
end L2
namespace L2
open PySem PySem.Spec PyProof.Rows
section
variable {X:Cx}
theorem A6(K:PySem.W.Frag)(h:X.K=K){o:Expr}{to:TE}{apos cpos:Pos}(ho:PE X o to)(hbase:attributeBase o "clear" X.env (eval o X.env)=eval o X.env:=by rfl)(hline:(apos.endLine==cpos.line)=true:=by rfl): PE X (.Call (.Attribute o "clear" apos) [] [] cpos) (Df K "list" vK to):=by subst h;exact vz PySem.F.plainAttrs_list PySem.F.slot_list_clear PySem.F.type_list_clear vL ho hbase hline
theorem DD(K:PySem.W.Frag)(h:X.K=K){o:Expr}{to:TE}{apos cpos:Pos}(ho:PE X o to)(hbase:attributeBase o "reverse" X.env (eval o X.env)=eval o X.env:=by rfl)(hline:(apos.endLine==cpos.line)=true:=by rfl): PE X (.Call (.Attribute o "reverse" apos) [] [] cpos) (Df K "list" nK to):=by subst h;exact vz PySem.F.plainAttrs_list PySem.F.slot_list_reverse PySem.F.type_list_reverse pC ho hbase hline
theorem qX(K:PySem.W.Frag)(h:X.K=K){o e:Expr}{to:TE}{t:TA}{apos cpos:Pos}(ho:PE X o to)(ha:PA X [e] t) (hbase:attributeBase o "pop" X.env (eval o X.env)=eval o X.env:=by rfl) (hfew:((backTo cpos (starEach [e] X.env)).all (fun x=>!x.1)&&(backToKw cpos (keywordEach [] X.env)).all (fun x=>x.1.isSome) &&decide ([e].length+([]:List Keyword).length+(if([]:List Keyword).isEmpty then 0 else 1)<30))=true:=by rfl) (hline:(apos.endLine==cpos.line)=true:=by rfl)(hs:starEach [e] X.env=(false,eval e X.env)::starEach [] X.env:=by rfl)(hplain:(backTo cpos (starEach [] X.env)).any (·.1)=false:=by rfl): PE X (.Call (.Attribute o "pop" apos) [e] [] cpos) (Ij K "list" vI to t):=by subst h;exact vB PySem.F.plainAttrs_list PySem.F.slot_list_pop PySem.F.type_list_pop vJ ho ha hbase hfew hline hs hplain
end
end L2
namespace L2
open PySem PySem.Spec PyProof.Rows
set_option maxHeartbeats 1000000 in
theorem mm{X:Cx}{N:List Str}{js:List (Option Nat)}{elt tg iter:Expr}{ifs:List Expr}{scope:Scope}{pos:Pos}{wi:TI}{g:TG}{tt:TT}{te:TE}{i0:Nat}{x0:Str}{px0 spos:Pos}(hNd:X.N.Nodup)(hix:X.N[i0]? =some x0)(hx0:Loc X.env.scope x0)(hc:X.calm=true)(hN:zV X N js scope=true)(hS:ub X scope=true) (hi:PI X tg iter wi)(hg:∀cl s H fp pins,PG (cu X N scope cl s H fp pins) tg g)(ht:∀cl s H fp pins,IU (cu X N scope cl s H fp pins) ifs tt)(he:∀cl s H fp pins,PE (cu X N scope cl s H fp pins) elt te) (hsw:swapsWith (.ListComp elt [⟨tg,iter,ifs,0⟩] scope pos) (some (.Name x0 px0)) spos.line X.env=pure true:=by rfl)(hf0:X.fn x0=true\/X.env.scope.names.lookup x0=some .local:=by first|exact .inl rfl|exact .inr rfl) (hs:∀x,foldedSetIterable iter X.env x=pure x:=by intro _;rfl):PS X (.Assign [.Name x0 px0] (.ListComp elt [⟨tg,iter,ifs,0⟩] scope pos) spos) (CV (Bq js wi g tt te) (cS i0)):=by
  intro pins s σ H D0 I h;have hS':=hS;unfold ub at hS';rw[Bool.and_eq_true,Bool.and_eq_true]at hS';obtain⟨⟨k1,k2⟩,k3⟩:=hS';have hkind:scope.kind= .function:=beq_iff_eq.mp k1;have hfree:∀x∈scope.names,x.2= .free->∃c,X.env.cells.lookup x.1=some c:=fun x hx e=>by have:=List.all_eq_true.mp k3 x hx;rw[e]at this;exact I.ok.has x.1 (.inl (beq_iff_eq.mp this))
  have hcell:∀x∈scope.names,x.2≠ .cell:=fun x hx e=>by have:=List.all_eq_true.mp k3 x hx;rw[e]at this;exact Bool.false_ne_true this
  have hnames:∀x∈scope.names,x.2= .local->scope.names.lookup x.1=some .local:=fun x hx e=>by have:=List.all_eq_true.mp k3 x hx;rw[e]at this;exact beq_iff_eq.mp this
  obtain⟨cl,hclos,c1,c2⟩:=ip hfree;rw[exec_Assign_Name_used _ _ _ _ hsw];refine wpAny_bind (wpAny_standAt (wpAny_bind ?_));show wpAny _ X.A (do let _<-comprehension (.ListComp elt [⟨tg,iter,ifs,0⟩] scope pos) scope X.env _ (newList []) false (eval iter X.env) (some (assign (.Name x0 px0) X.env))) _ _ s;refine wpAny_bind (wpAny_mono (wpAny_comprehension_free (use:=some (assign (.Name x0 px0) X.env)) (Q:=fun _ s'=>SP X pins D0 .next s') rfl hs hclos hkind hnames (cn (hi pins s σ H _ I h) fun v s1 h1=>cn h1 fun itv s2 h2=>?_)) (fun _ s' hq=>wpAny_pure (wpAny_pure hq)) fun _ _ e=>e);obtain⟨it,fp,tn,J,H2,e,I2,T,st2,f2,h2⟩:=h2;subst e;have hD:H2 s2.heap.objs.size=none:=I2.hok.fresh (Nat.le_refl _);obtain⟨W,⟨m0,w0⟩,turn⟩:=h2 _ _ (Nw.of hD);refine wpAny_newObj_type (wpAny_newFunctionEnv hcell (by intro y hy;simp at hy) (fun h₁ hns₁ hsb₁=>?_) hkind);have fpl:∀b∈fp,b<s2.heap.objs.size:=fun b hb=>by obtain⟨o,e,_⟩:=T.obj _ _ st2 b hb;exact Heap.lt_size e
  have I3:Inv X pins σ (upd H2 s2.heap.objs.size (.lst [])) {s2 with heap:=s2.heap.push {cls:=.type "list",dict:=none,data:=.seq ([]:List Value).toArray}}:=I2.G9 (its:=[]) (t':=s2.toks) .nil (Nat.zero_le _);generalize hH3:s2.heap.push {cls:=.type "list",dict:=none,data:=.seq ([]:List Value).toArray}=h3 at I3 hns₁ hsb₁;have sz3:h3.objs.size=s2.heap.objs.size+1:=by rw[<-hH3,Heap.size_push]
  have keep23:∀b o,s2.heap.get? b=some o->h3.get? b=some o:=fun b o e=>by rw[<-hH3];exact Heap.get?_push_of_some _ e
  have f3:∀b∈fp,j9 X pins (upd H2 s2.heap.objs.size (.lst [])) b:=fun b hb=>⟨by rw[aj (Nat.ne_of_lt (fpl b hb))];exact(f2 b hb).1,(f2 b hb).2⟩;have keep31:∀b o,h3.get? b=some o->h₁.get? b=some o:=fun b o e=>(hsb₁.2 b (Nat.ne_of_lt (Heap.lt_size e))).trans (Heap.get?_push_of_some _ e);have I4:Inv (cu X N scope cl {s2 with heap:=h3} (upd H2 s2.heap.objs.size (.lst [])) fp pins) [] (stC js σ) (upd H2 s2.heap.objs.size (.lst [])) {s2 with heap:=h₁,toks:=s2.toks+([]:List (Str×Value)).length}:=I3.comp (s:={s2 with heap:=h3}) hN hS c1 c2 f3 (fun b hb=>by show b<h3.objs.size;rw[sz3];exact Nat.lt_succ_of_lt (fpl b hb)) (by simpa using hns₁) keep31;have st4:tn 0 h₁:=T.keep _ _ _ st2 fun b _ o e=>keep31 b o (keep23 b o e);have loop:codeAny (model X.prog X.w) X.A (.compLoop (.ListComp elt [⟨tg,iter,ifs,0⟩] scope pos) 0 (.ref it) (.ref s2.heap.objs.size) (compEnvC scope cl h3.objs.size X.env)) (compPost (model X.prog X.w) X.A X.xe (some (assign (.Name x0 px0) X.env)) (fun _ s'=>SP X pins D0 .next s') (.ref s2.heap.objs.size) h3.objs.size) {s2 with heap:=h₁,toks:=s2.toks+([]:List (Str×Value)).length}:=by
    refine iK (fun n s'=>∃i σ' H',Inv (cu X N scope cl {s2 with heap:=h3} (upd H2 s2.heap.objs.size (.lst [])) fp pins) [] σ' H' s'/\tn i s'.heap/\(∀b∈fp,H' b=none)/\W i n σ' H') ?_ m0 ⟨0,_,_,I4,st4,fun b hb=>(f3 b hb).1,w0⟩;rintro n s5 ⟨i,σ5,H5,I5,st5,fr5,w5⟩;have stat:∀{H':Hp},(∀b∈fp,H' b=none)->∀b∈fp,j9 (cu X N scope cl {s2 with heap:=h3} (upd H2 s2.heap.objs.size (.lst [])) fp pins) [] H' b:=fun{H'} hn b hb=>by
     obtain⟨_,q1,q2,q3,q4,q5⟩:=f3 b hb;refine⟨hn b hb,fun z=>?_,I4.ok.exfs b hb,.inl hb,fun x c e=>q4 x c (c1 x c e),fun p hp=>q5 p (by simpa[cu]using hp)⟩;have hlt:b<h3.objs.size:=by rw[sz3];exact Nat.lt_succ_of_lt (fpl b hb)
     exact Nat.ne_of_lt hlt z
    rcases turn i n σ5 H5 w5 with⟨stop,qn⟩|⟨go,step⟩
    · refine cn (T.done (cu X N scope cl {s2 with heap:=h3} (upd H2 s2.heap.objs.size (.lst [])) fp pins) rfl rfl rfl hc i [] s5 σ5 H5 _ I5 (stat fr5) st5 stop) fun r s6 ⟨hr,I6⟩=>?_
      subst hr;obtain⟨m,hm,_⟩:=I6.loc;have u0:Un (qx X.stack) fp (upd H2 s2.heap.objs.size (.lst [])) H5 h3 s6.heap:=I6.base;have I7:Inv X pins σ H5 s6:=I3.B5 (s':=s6) (ch:=fp) I6.os u0 I6.hok I6.bare fun b hb=>⟨(f3 b hb).2.2.2.1,(f3 b hb).2.1,(f3 b hb).2.2.2.2.1,(f3 b hb).2.2.2.2.2⟩;have hC:j9 X pins H5 h3.objs.size:=I3.m4 (Nat.le_refl _) I6.free;show wpAny _ X.A (assign (.Name x0 px0) X.env (.ref s2.heap.objs.size)) _ _ s6;refine wpAny_assign_Name (kX I7 hNd hix hx0 (show RelV (.ref s2.heap.objs.size) (.ref s2.heap.objs.size)from rfl) (fun s8 I8 hsb=>?_) hf0);obtain⟨a,sb,ha⟩:=hsb;have hCa:h3.objs.size≠a:=by
       rcases ha with rfl|ha
       ·exact hC.2.1
       ·exact fun z=>hC.2.2.2.2.1 x0 a ha z.symm
      refine⟨m,hm.sameBut sb hCa,fun h9 hs9=>⟨_,H5,?_,qn⟩⟩;exact I8.iL (t':=s8.toks) (fp:=[h3.objs.size]) (fun b o hb e=>hs9.extBut b o (fun z=>hb (by simp[z])) e) fun b hb=>by rw[List.mem_singleton.mp hb];exact hC
    · refine cn (T.item (cu X N scope cl {s2 with heap:=h3} (upd H2 s2.heap.objs.size (.lst [])) fp pins) rfl rfl rfl hc i [] s5 σ5 H5 _ I5 (stat fr5) st5 go) fun r s6 ⟨u,hr,h6⟩=>?_
      subst hr;refine cn h6 fun _ s7 ⟨x,H7,I7,r7,y7,st7,fr7⟩=>?_;have I7':=I7.pinned (stat fr7) (T.obj _ _ st7);refine cn (hg _ _ _ _ _ _ s7 σ5 H7 x u _ I7' r7 (step x H7 y7)) fun _ s8 ⟨σ8,H8,I8,q8⟩=>?_;refine cn (ht _ _ _ _ _ _ s8 σ8 H8 _ I8 q8) fun ok s9 ⟨H9,I9,q9⟩=>?_;have again:∀{s':Shared}{σ7:St}{H7:Hp},Inv (cu X N scope cl {s2 with heap:=h3} (upd H2 s2.heap.objs.size (.lst [])) fp pins) ([]++ja fp s7.heap) σ7 H7 s'->(∃m',m'<n/\W (i+1) m' σ7 H7)->∃m,m<n/\∃i σ' H',Inv (cu X N scope cl {s2 with heap:=h3} (upd H2 s2.heap.objs.size (.lst [])) fp pins) [] σ' H' s'/\tn i s'.heap/\(∀b∈fp,H' b=none)/\W i m σ' H':=fun{s' σ7 H7} J7 n7=>by obtain⟨m',hm,w7⟩:=n7;refine⟨m',hm,i+1,σ7,H7,J7.gF,T.keep _ _ _ st7 fun b hb o e=>(J7.pin (b,o) (List.mem_append_right _ (List.mem_append_right _ (fb hb e)))).1,fun b hb=>?_,w7⟩;obtain⟨o,e,d⟩:=T.obj _ _ st7 b hb;exact(J7.pin (b,o) (List.mem_append_right _ (List.mem_append_right _ (fb hb e)))).2.1
      cases ok with |false=>rw[if_neg Bool.false_ne_true]at q9⊢;exact again I9 q9 |true=>rw[if_pos rfl]at q9⊢;refine cn (he _ _ _ _ _ _ s9 σ8 H9 _ I9 q9) fun yv s10 ⟨y,H10,I10,r10,ys,hys,hz,w10⟩=>?_;refine cn (jg _ s10 σ8 H10 (.ref s2.heap.objs.size) [y] (.ref s2.heap.objs.size) [yv] (fun _ H11=>∃m',m'<n/\W (i+1) m' σ8 H11) I10 rfl (.cons r10 .nil) ⟨_,ys,y,rfl,rfl,hys,hz,w10⟩) fun _ s11 ⟨v11,H11,I11,r11,q11⟩=>?_;exact again I11 q11
  exact codeAny_compStart_list loop (T.self _ 0 _ _ _ st4 loop)
end L2
namespace L2
open PySem PySem.Spec PyProof.Rows
end L2
namespace L2
open PySem PySem.Spec PyProof.Rows
section
variable {X:Cx}
end
end L2
namespace L2
open PySem PySem.Spec PyProof.Rows
section
variable {X:Cx}{pins:List (Addr×Obj)}{σ:St}{H:Hp}{s:Shared}
end
end L2
namespace L2
open PySem PySem.Spec PyProof.Rows
section
variable {X:Cx}
theorem nR:cM X (.type "range") (fun xs H Q=>∃n,xs=[.int n]/\∀p H',Nw H H' p (.Fv 0 n)->Q (.ref p) H'):=by intro pins s σ H xs us Q I r h;obtain⟨n,rfl,q⟩:=h;obtain⟨u,rfl,t,rfl⟩:=vals1 r;refine call_range_1 ?_;have hf:H s.heap.objs.size=none:=I.hok.fresh (Nat.le_refl _);refine⟨.ref s.heap.objs.size,upd H s.heap.objs.size (.Fv 0 n),I.laid (t':=s.toks+1+1) (fun b u e=>Heap.get?_push_of_some _ e) (Nat.le_refl _) ?_,rfl,q _ _ (.of hf)⟩;exact⟨_,_,_,Heap.get?_push_size _ rfl⟩
end
end L2
namespace L2
open PySem PySem.Spec PyProof.Rows
theorem jm:isSubtype (.type "range_iterator") (.type "reversed")=pure false:=by rw[isSubtype_type];kernel_rfl
section
variable {prog:Program}{w:World}{A:Around}{E:Value->Shared->Prop}{s:Shared}
abbrev nS(n:Nat):Obj:={cls:=.type "range_iterator",data:=.fields #[rawInt (0+((n:Int)-1)*1),rawInt (n:Int),rawInt (-1)]}
abbrev DE(n:Nat):Bool:=Builtin.Range.rangeFitsLong 0&&Builtin.Range.rangeFitsLong n&&Builtin.Range.rangeFitsLong 1&&Builtin.Range.rangeFitsLong (-1)&&Builtin.Range.rangeFitsLong (0-1)&&Builtin.Range.rangeFitsLong (Builtin.Range.rangeSize 0 n 1)
theorem qZ{n:Nat}(h:n<2^62):DE n=true:=by unfold DE;rw[rangeSize_one];simp only[Builtin.Range.rangeFitsLong,Bool.and_eq_true,decide_eq_true_eq];split<;>omega
theorem uk(r:Addr)(a b c:Int)(t u v:Tok)(hc0:¬(!(Builtin.Range.rangeFitsLong a&&Builtin.Range.rangeFitsLong b&&Builtin.Range.rangeFitsLong c&&Builtin.Range.rangeFitsLong (-c)&&Builtin.Range.rangeFitsLong (a-c)&&Builtin.Range.rangeFitsLong (Builtin.Range.rangeSize a b c)))=true):Meets (Builtin.«range.__reversed__» ⟨[.ref r],[]⟩) (fun _ R s=>s.heap.get? r=some {cls:=.type "range",dict:=none,data:=.fields #[.int a t,.int b u,.int c v],slots:=#[]}/\R (.ok (.ret (.ref s.heap.objs.size))) {s with heap:=s.heap.push {cls:=.type (if(Builtin.Range.rangeFitsLong a&&Builtin.Range.rangeFitsLong b&&Builtin.Range.rangeFitsLong c&&Builtin.Range.rangeFitsLong (-c)&&Builtin.Range.rangeFitsLong (a-c)&&Builtin.Range.rangeFitsLong (Builtin.Range.rangeSize a b c))=true then "range_iterator" else "longrange_iterator"),data:=.fields #[rawInt (a+(Builtin.Range.rangeSize a b c-1)*c),rawInt (Builtin.Range.rangeSize a b c),rawInt (-c)]},toks:=s.toks}):=.of_wp fun prog w A R s h=>by
   obtain⟨hp,g,d,tk,os⟩:=s;obtain⟨hl,h⟩:=h
   wp_walk;exact⟨_,rfl,h⟩
theorem mq{l:Addr}{n:Nat}{t u v:Tok}{Q:Value->Shared->Prop}(hn:n<2^62)(hl:s.heap.get? l=some {cls:=.type "range",data:=.fields #[.int 0 t,.int n u,.int 1 v]}) (h:Q (.ref s.heap.objs.size) {s with heap:=s.heap.push (nS n)}):wpAny (model prog w) A (call (.builtin "range.__reversed__") [.ref l]) Q E s:=by
  have hT:s.TypeIs (.ref l) "range":=⟨_,hl,rfl⟩;refine call_meets F.slot_range_reversed hT F.entry_range_reversed (F.args_range_reversed_1 _) (uk l 0 n 1 t u v (by have:=qZ hn;unfold DE at this;rw[this];decide)) ⟨hl,?_⟩;rw[if_pos (qZ hn)];have e:Builtin.Range.rangeSize 0 n 1=n:=by rw[rangeSize_one];split<;>omega
  rw[e];exact h
theorem mr{l:Addr}{n:Nat}{t u v:Tok}{Q₁:Value->Shared->Prop}(hn:n<2^62)(hl:s.heap.get? l=some {cls:=.type "range",data:=.fields #[.int 0 t,.int n u,.int 1 v]}) (h:Q₁ (.ref s.heap.objs.size) {s with heap:=s.heap.push (nS n)}): codeAny (model prog w) A (.call (.builtin "reversed.__new__") ⟨[.type "reversed",.ref l],[]⟩) (wants Q₁ E) s:=by
  have hT:s.TypeIs (.ref l) "range":=⟨_,hl,rfl⟩;refine codeAny_of_tree ?_;show wpAny _ A.in1 (do checkBuiltinCall "reversed.__new__" ⟨[.type "reversed",.ref l],[]⟩;again (.builtin "reversed.__new__" ⟨[.type "reversed",.ref l],[]⟩)) _ _ s;refine wpAny_bind (wpAny_of_eq (F.newCall_reversed_1 _) (wpAny_pure ⟨plainId_quiet F.plain_reversed_new _,codeAny_builtin F.entry_reversed_new ?_⟩));rw[Around.under_plainId F.plain_reversed_new _];unfold Builtin.«reversed.__new__»;refine wpAny_bind (wpAny_of_eq (newClass_reversed _) ?_)
  try dsimp only
  refine wpAny_bind (wpAny_of_eq (a:=()) (by first|rfl|kernel_rfl) ?_);refine wpAny_bind (wpAny_of_eq (a:=()) (by first|rfl|kernel_rfl) ?_)
  try dsimp only
  refine wpAny_bind (wpAny_specialOf hT F.slot_range_reversed.lookup ?_)
  try dsimp only
  refine wpAny_bind (wpAny_of_eq (F.slot_range_reversed.bind _) ?_)
  try dsimp only
  first |rw[if_neg (show¬((Value.builtin "range.__reversed__"==Value.none)=true)from Bool.false_ne_true)] |(show wpAny _ _ (if(Value.builtin "range.__reversed__"==Value.none)=true then _ else _) _ _ _;rw[if_neg (show¬((Value.builtin "range.__reversed__"==Value.none)=true)from Bool.false_ne_true)])
  refine wpAny_bind (wpAny_rule ?_);refine wpAny_bind (m:=runValue (.call (.builtin "range.__reversed__") ⟨[.ref l],[]⟩)) (show wpAny _ _ (call (.builtin "range.__reversed__") [.ref l]) _ _ _ from mq hn hl ?_)
  first |exact wpAny_pure h |exact wpAny_bind (wpAny_pure (wpAny_pure h))
theorem mx{l:Addr}{n:Nat}{t u v:Tok}{Q:Value->Shared->Prop}(hn:n<2^62)(hl:s.heap.get? l=some {cls:=.type "range",data:=.fields #[.int 0 t,.int n u,.int 1 v]}) (h:Q (.ref s.heap.objs.size) {s with heap:=s.heap.push (nS n)}):wpAny (model prog w) A (call (.type "reversed") [.ref l]) Q E s:=by refine callType_other (U:="range_iterator") (Q₁:=fun obj s₁=>obj= .ref s.heap.objs.size/\s₁={s with heap:=s.heap.push (nS n)}) (by decide+kernel) F.create_reversed ⟨_,_,F.mro_reversed⟩ F.made_reversed jm (F.typeCall_reversed_1 _) (mr hn hl ⟨rfl,rfl⟩) ?_;rintro obj s₁ ⟨rfl,rfl⟩;exact⟨⟨_,Heap.get?_push_size _ rfl,rfl⟩,h⟩
end
def Gq(n:Nat):It:=⟨fun i _=>i<n,fun i H x H'=>H'=H/\x= .int ((n:Int)-1-i),fun i _=>n<=i⟩
theorem wz{P:Program}{w:World}{K:PySem.W.Frag}{tg:Expr}(it:Addr)(n:Nat):Turn P w K tg (Gq n) [it] it (fun i h=>IsRangeIter h it ((0+((n:Int)-1)*1)+(i:Nat)*(-1)) ((n:Int)-(i:Nat)) (-1)) where
 mem:=by simp
 obj:=fun i h st b hb=>by
  have e:b=it:=by simpa using hb
  subst e;exact⟨_,st,fun v z=>by have z':Data.fields _=Data.cell v:=z;cases z'⟩
 keep:=fun i h h' st k=>k it (by simp) _ st
 item:=by
  intro X hP hw hK hc i pins s σ H E I hf st hg;subst hP hw hK;obtain⟨f0,f1,f2,f3,f4,f5⟩:=hf it (by simp);have W:=Walks.range (prog:=X.prog) (w:=X.w) (I.ok.hd hc) it (0+((n:Int)-1)*1) (-1) n;refine W.item i s _ _ hg st fun v h' tk hv st' kk=>?_;obtain⟨t,rfl⟩:=hv;have I1:Inv X pins σ H {s with heap:=h',toks:=tk}:=I.turned (fun b o hb e=>kk b o (by simpa using hb) e) f0 f1 f3 f4 f5;refine⟨_,rfl,kZ (s:={s with heap:=h',toks:=tk}) (n:="range_iterator") st' rfl rfl (by decide) ⟨.int ((n:Int)-1-i),H,I1,⟨t,?_⟩,⟨rfl,rfl⟩,st',fun b hb=>(hf b hb).1⟩⟩;have e:(0+((n:Int)-1)*1)+(i:Int)*(-1)=(n:Int)-1-i:=by omega
  rw[e]
 done:=by intro X hP hw hK hc i pins s σ H E I hf st hg;subst hP hw hK;obtain⟨f0,f1,f2,f3,f4,f5⟩:=hf it (by simp);exact wpAny_pyNext_range_end (I.ok.hd hc) st (by have:n<=i:=hg;omega) fun h' eb=>⟨rfl,I.turned (t':=s.toks) (fun b o hb e=>eb b o hb e) f0 f1 f3 f4 f5⟩
 self:=fun _ _ _ _ _ st h=>wpAny_pyIter_rangeiter st h
inductive Bx(R:It->Hp->Prop)(vs:List V)(H1:Hp):Prop |mk (p:_)(n:_)(h0:vs=[.ref p])(h1:H1 p=some (.Fv 0 n))(h2:0<=n)(h3:n<2^62)(h4:R (Gq n.toNat) H1):Bx R vs H1
def J0(ta:TA):TI:=fun σ H R=>ta σ H fun vs H1=>Bx R vs H1
theorem DF{X:Cx}{tg:Expr}{a:Expr}{ta:TA}{p pos:Pos}(hg:Gl X "reversed")(hm:X.mg "reversed"=none)(ha:PA X [a] ta)(hs:starEach [a] X.env=[(false,eval a X.env)]:=by rfl)(hs2:starEach [] X.env=[]:=by rfl): PI X tg (.Call (.Name "reversed" p) [a] [] pos) (J0 ta):=by
  intro pins s σ H R I h;refine Call_ (gk I hg hm PyProof.Rows.boot_reversed (PyProof.Rows.callWith_type1 (cn (ha pos pins s σ H _ I h) fun us s1 ⟨vs,H1,I1,r1,q1⟩=>?_) (by rw[hs,hs2]) (by rw[hs2];rfl)));obtain⟨l,n,e,hl,n0,n1,q⟩:=q1;subst e;obtain⟨u1,rfl,ru1⟩:=vals1 r1;cases(show u1=Value.ref l from ru1);obtain⟨t,u,v,e⟩:∃t u v,s1.heap.get? l=some {cls:=.type "range",data:=.fields #[.int 0 t,.int n u,.int 1 v]}:=I1.hok l _ hl;obtain⟨m,rfl⟩:∃m:Nat,n=m:=⟨n.toNat,by omega⟩;refine mx (by omega) e ?_;have hit:IsRangeIter (s1.heap.push (nS m)) s1.heap.objs.size ((0+((m:Int)-1)*1)+((0:Nat):Int)*(-1)) ((m:Int)-((0:Nat):Int)) (-1):=by
   have e1:(0+((m:Int)-1)*1)+((0:Nat):Int)*(-1)=0+((m:Int)-1)*1:=by omega
   have e2:(m:Int)-((0:Nat):Int)=m:=by omega
   rw[e1,e2];exact Heap.get?_push_size _ rfl
  refine wpAny_pyIter_rangeiter hit ?_;refine⟨s1.heap.objs.size,[s1.heap.objs.size],_,_,H1,rfl,I1.kept (t':=s1.toks) fun b o e=>Heap.get?_push_of_some _ e,wz _ m,hit,fun b hb=>?_,q⟩;have e:b=s1.heap.objs.size:=by simpa using hb
  subst e;exact I1.m4 (Nat.le_refl _) (I1.hok.fresh (Nat.le_refl _))
theorem A7{n:Nat}{g:TG}{tb:TS}{D:Ends}{σ:St}{H:Hp}(Pv:Nat->St->Hp->Prop)(h0:Pv 0 σ H) (hs:∀i σ H,i<n->Pv i σ H->g (.int ((n:Int)-1-i)) σ H fun σ2 H2=>tb {D with nx:=Pv (i+1),ct:=Pv (i+1),bk:=D.nx} σ2 H2)(hd:∀σ H,Pv n σ H->D.nx σ H): ∃W:Nat->Nat->St->Hp->Prop,(∃m,W 0 m σ H)/\∀i m σ H,W i m σ H->((Gq n).stop i H/\D.nx σ H)\/((Gq n).go i H/\∃N:St->Hp->Prop,(∀σ' H',N σ' H'->∃m',m'<m/\W (i+1) m' σ' H')/\∀x H',(Gq n).yld i H x H'->g x σ H' fun σ2 H2=>tb {D with nx:=N,ct:=N,bk:=D.nx} σ2 H2):=by
  refine⟨fun i m σ H=>m=n-i/\i<=n/\Pv i σ H,⟨n,by simp,Nat.zero_le _,h0⟩,?_⟩;rintro i m σ H ⟨rfl,hi,p⟩;by_cases hlt:i<n
  · refine .inr ⟨hlt,Pv (i+1),fun σ' H' q=>⟨n-(i+1),by omega,rfl,hlt,q⟩,fun x H' hy=>?_⟩
    obtain⟨rfl,rfl⟩:=hy;exact hs i σ _ hlt p
  · have e:i=n:=by omega
    subst e;exact .inl ⟨Nat.le_refl _,hd σ H p⟩
end L2
namespace L2
open PySem PySem.Spec PyProof.Rows
theorem my(K:PySem.W.Frag){X:Cx}(hK:X.K=K){a:Expr}{ta:TE}(ha:PE X a ta)(he:∀whole,isTrue a X.env whole=(do let v<-whole;standAt a.pos;holding [v] (truthy v)):=by intro _;rfl): PT X a (fun σ H Q=>ta σ H fun x H'=>∃k,D5 K x H' k/\Q k H'):=by subst hK;exact vk ha he
end L2
namespace Cn
open Ln
def bp(ns ms:List Int):List Int:=(ns.zip ms).map fun p=>p.1*(ay ms:Int)-p.2*(ay ns:Int)
theorem uo{ns ms:List Int}{z:Int}(h:z∈bp ns ms):∃a b,a∈ns/\b∈ms/\z=a*(ay ms:Int)-b*(ay ns:Int):=by obtain⟨⟨a,b⟩,hp,rfl⟩:=List.mem_map.mp h;exact⟨a,b,(List.of_mem_zip hp).1,(List.of_mem_zip hp).2,rfl⟩
theorem fg{a b:Int}{m n:Nat}(h:a.natAbs<=m)(g:b.natAbs<=n):(a*b).natAbs<=m*n:=by rw[Int.natAbs_mul];exact Nat.mul_le_mul h g
theorem iT{ns ms:List Int}(h1:∀z∈ns,z.natAbs<=1000)(h2:∀z∈ms,z.natAbs<=1000):∀z∈bp ns ms,z.natAbs<=2000000:=fun z hz=>by obtain⟨a,b,ha,hb,rfl⟩:=uo hz;have l1:=dU h1;have l2:=dU h2;have e1:=fg (b:=(ay ms:Int)) (n:=1000) (h1 a ha) (by omega);have e2:=fg (b:=(ay ns:Int)) (n:=1000) (h2 b hb) (by omega);omega
def Bz(zs:List Int)(i:Nat):Nat:=ay (zs.take i)
theorem iU:∀(xs ys:List Int),ay (xs++ys)=max (ay xs) (ay ys) |[],ys=>by simp[ay] |x::xs,ys=>by show max x.natAbs (ay (xs++ys))=max (max x.natAbs (ay xs)) (ay ys);rw[iU xs ys];omega
theorem wA{zs:List Int}{i:Nat}{z:Int}(h:zs[i]? =some z):Bz zs (i+1)=max (Bz zs i) z.natAbs:=by unfold Bz;rw[List.take_succ,h,iU];show max _ (max z.natAbs 0)=_;omega
def pH(r:Rat):Rat:=if r.num<0 then-r else r
theorem wB(r:Rat):(pH r).num=gr r.num:=by
 unfold pH gr;split
 ·rfl
 ·rfl
theorem wC(r:Rat):(pH r).den=r.den:=by
 unfold pH;split
 ·rfl
 ·rfl
theorem A8{a b:Int}(hb:0<b):0<=(Rat.divInt a b).num↔0<=a:=by rw[Rat.num_nonneg,Rat.divInt_nonneg_iff_of_pos_right hb]
theorem wD{c L:Int}(hL:0<L):pH (Rat.divInt c L)=Rat.divInt (gr c) L:=by
 have h:=A8 (a:=c) hL;unfold pH gr;by_cases hc:c<0
 ·rw[if_pos hc,if_pos (by omega),Rat.neg_divInt]
 ·rw[if_neg hc,if_neg (by omega)]
theorem wF{a b L:Int}(hL:0<L):Rat.divInt a L<=Rat.divInt b L↔a<=b:=by
 rw[Rat.le_iff_sub_nonneg,Rat.divInt_sub_divInt _ _ (by omega) (by omega),Rat.divInt_nonneg_iff_of_pos_right (Int.mul_pos hL hL),<-Int.sub_mul];constructor
 · intro h
   have:=Int.nonneg_of_mul_nonneg_left h hL;omega
 · intro h
   exact Int.mul_nonneg (by omega) (by omega)
theorem wG{a b L:Int}(hL:0<L):Rat.divInt a L<Rat.divInt b L↔a<b:=by rw[<-Rat.not_le,wF hL];omega
theorem wH{a b l1 l2:Int}(h1:0<l1)(h2:0<l2):Rat.divInt b l2-Rat.divInt a l1=Rat.divInt (b*l1-a*l2) (l1*l2):=by rw[Rat.divInt_sub_divInt _ _ (by omega) (by omega),Int.mul_comm l2 l1]
theorem uq{j p q h L:Int}(hp:p≠0)(hh:h≠0)(e:p*L=h*q):Rat.divInt (j*j*q*q) (p*p)=Rat.divInt ((j*L)^2) (h^2):=by
 rw[Rat.divInt_eq_divInt_iff (Int.mul_ne_zero hp hp) (by rw[Int.pow_succ,Int.pow_succ,Int.pow_zero,Int.one_mul];exact Int.mul_ne_zero hh hh)];have e2:(p*L)*(p*L)=(h*q)*(h*q):=by rw[e]
 rw[Int.pow_succ,Int.pow_succ,Int.pow_zero,Int.one_mul,Int.pow_succ,Int.pow_succ,Int.pow_zero,Int.one_mul];have a1:j*j*q*q*(h*h)=(j*j)*((h*q)*(h*q)):=by ac_rfl
 have a2:j*L*(j*L)*(p*p)=(j*j)*((p*L)*(p*L)):=by ac_rfl
 rw[a1,a2,e2]
end Cn
namespace Pn
def mn(a b:Rat):Rat:=if b<a then b else a
theorem bW(a b:Rat):mn a b<=a:=by
 unfold mn;split
 ·next h=>exact Rat.le_of_lt h
 ·exact Rat.le_refl
theorem cY(a b:Rat):mn a b<=b:=by
 unfold mn;split
 ·exact Rat.le_refl
 ·next h=>exact Rat.not_lt.mp h
theorem g9{a b c:Rat}(h1:c<=a)(h2:c<=b):c<=mn a b:=by unfold mn;split<;>assumption
theorem gJ(a b:Rat):mn a b=a\/mn a b=b:=by
 unfold mn;split
 ·exact .inr rfl
 ·exact .inl rfl
theorem dX{a b c:Rat}(hc:c=a\/c=b)(h1:c<=a)(h2:c<=b):mn a b=c:=by
 rcases hc with rfl|rfl
 ·exact Rat.le_antisymm (bW _ _) (g9 h1 h2)
 ·exact Rat.le_antisymm (cY _ _) (g9 h1 h2)
theorem wI{a b c:Rat}(h:a<=b)(hc:0<=c):a<=b+c:=Rat.le_trans h (by have:=(Rat.add_le_add_left (c:=b)).mpr hc;rwa [Rat.add_zero]at this)
section
variable (n:Nat)(own:Nat->Rat)(L:Nat->Option Nat)(r f:Int)
def Pz(g:Nat->Rat):Nat->Rat |0=>g n |k+1=>match L (n-(k+1))with |some m=>mn (g (n-(k+1))) (Pz g k+((f*(m:Int):Int):Rat)) |none=>g (n-(k+1))
def fl(g:Nat->Rat)(i:Nat):Rat:=Pz n L f g (n-i)
end
section
variable {n:Nat}{own g:Nat->Rat}{L:Nat->Option Nat}{r f:Int}
theorem ur:fl n L f g n=g n:=by unfold fl;rw[Nat.sub_self];rfl
theorem gT{i m:Nat}(hi:i<n)(h:L i=some m):fl n L f g i=mn (g i) (fl n L f g (i+1)+((f*(m:Int):Int):Rat)):=by
 unfold fl;have e:n-i=(n-(i+1))+1:=by omega
 rw[e];show(match L (n-((n-(i+1))+1))with|some m=>_|none=>_)=_;have e2:n-((n-(i+1))+1)=i:=by omega
 rw[e2,h]
theorem lK{i:Nat}(hi:i<n)(h:L i=none):fl n L f g i=g i:=by
 unfold fl;have e:n-i=(n-(i+1))+1:=by omega
 rw[e];show(match L (n-((n-(i+1))+1))with|some m=>_|none=>_)=_;have e2:n-((n-(i+1))+1)=i:=by omega
 rw[e2,h]
theorem DG{a:Int}{m:Nat}(h:0<=a):(0:Rat)<=((a*(m:Int):Int):Rat):=by have:((0:Int):Rat)<=((a*(m:Int):Int):Rat):=Rat.intCast_le_intCast.mpr (Int.mul_nonneg h (by omega));exact this
theorem down{C:Nat->Prop}(hn:C n)(hs:∀i,i<n->C (i+1)->C i):∀i,i<=n->C i:=by
 have key:∀k,k<=n->C (n-k):=fun k=>by induction k with |zero=>intro _;exact hn |succ k ih=>
    intro hk;refine hs _ (by omega) ?_;have e:n-(k+1)+1=n-k:=by omega
    rw[e];exact ih (by omega)
 intro i hi;have:=key (n-i) (by omega);have e:n-(n-i)=i:=by omega
 rwa [e]at this
end
open Rt
theorem nT{n:Nat}{a b:Rat}(h1:Bd n a)(h2:Bd n b):Bd n (mn a b):=by rcases gJ a b with e|e<;>rw[e]<;>assumption
theorem mz{n:Nat}{q:Rat}{z:Int}(h:Bd n q)(hz:z.natAbs<2^24):Bd (n+25) (q+(z:Rat)):=by have b:Bd 24 (z:Rat):=⟨hz,by show 1<2^24;decide⟩;exact(h.add b).mono (by omega)
theorem BA{n b:Nat}{g:Nat->Rat}{L:Nat->Option Nat}{f:Int}(ho:∀i,i<=n->Bd b (g i))(hL:∀i m,L i=some m->(f*(m:Int)).natAbs<2^24):∀i,i<=n->Bd (b+25*(n-i)) (fl n L f g i):=by
 refine down ?_ fun i hi ih=>?_
 ·rw[ur];exact(ho n (Nat.le_refl _)).mono (by omega)
 ·cases h:L i with |none=>rw[lK hi h];exact(ho i (by omega)).mono (by omega) |some m=>rw[gT hi h];exact nT ((ho i (by omega)).mono (by omega)) ((mz ih (hL i m h)).mono (by omega))
def lst(n:Nat)(g:Nat->Rat):List Rat:=(List.range (n+1)).map g
theorem fL(n:Nat)(g:Nat->Rat):(lst n g).length=n+1:=by simp[lst]
theorem fM{n:Nat}(g:Nat->Rat){i:Nat}(h:i<=n):(lst n g)[i]? =some (g i):=by unfold lst;rw[List.getElem?_map,List.getElem?_eq_getElem (by simp;omega),List.getElem_range];rfl
theorem A9{n:Nat}{g g':Nat->Rat}{i:Nat}(h:∀k,k<=n->k≠i->g' k=g k):(lst n g).set i (g' i)=lst n g':=by
 apply List.ext_getElem?;intro k;by_cases hk:k<=n
 · rw[fM g' hk,List.getElem?_set]
   by_cases e:i=k
   ·subst e;rw[if_pos rfl,if_pos (by rw[fL];omega)]
   ·rw[if_neg e,fM g hk,h k hk (fun z=>e z.symm)]
 ·rw[List.getElem?_eq_none (by rw[List.length_set,fL];omega),List.getElem?_eq_none (by rw[fL];omega)]
theorem jn{n:Nat}{g g':Nat->Rat}(h:∀k,k<=n->g' k=g k):lst n g=lst n g':=by
 apply List.ext_getElem?;intro k;by_cases hk:k<=n
 ·rw[fM g hk,fM g' hk,h k hk]
 ·rw[List.getElem?_eq_none (by rw[fL];omega),List.getElem?_eq_none (by rw[fL];omega)]
end Pn
namespace Ow
open Pn Cn Ln Rt
abbrev Itm:=Option (List Int × Int)
def topR(rate sp:Int):Rat:=Rat.divInt ((sp*rate)^2) 10000
def cornO(j:Int)(ns ms:List Int):Option Rat:=if ay (bp ns ms)=0 then none else some (Rat.divInt ((j*ay ns*ay ms)^2) ((ay (bp ns ms):Int)^2))
def mnO(a:Rat):Option Rat->Rat |none=>a |some c=>mn a c
def betR(j rate:Int):Itm->Itm->Rat |some (ns,sp),some (ms,sq)=>mnO (mn (topR rate sp) (topR rate sq)) (cornO j ns ms) |_,_=>0
def atO(os:List Itm)(i:Nat):Itm:=(os[i]?).join
def ownF(j rate:Int)(os:List Itm):Nat->Rat |0=>0 |i+1=>betR j rate (atO os i) (atO os (i+1))
def leadF(os:List Itm)(i:Nat):Option Nat:=(atO os i).map fun q=>ay q.1
def ownL(j rate:Int)(os:List Itm):List Rat:=(List.range (os.length+1)).map (ownF j rate os)
theorem gs{os:List Itm}{i:Nat}{o:Itm}(h:os[i]? =some o):atO os i=o:=by unfold atO;rw[h];rfl
theorem wJ{os:List Itm}{i:Nat}(h:os.length<=i):atO os i=none:=by unfold atO;rw[List.getElem?_eq_none h];rfl
theorem fN(j rate:Int)(o:Itm):betR j rate o none=0:=by unfold betR;split<;>simp_all
theorem jF(j rate:Int)(o:Itm):betR j rate none o=0:=by unfold betR;split<;>simp_all
theorem jo(j rate:Int)(os:List Itm):∀n,n=os.length->ownF j rate os n=0 |0,_=>rfl |n+1,h=>by show betR j rate (atO os n) (atO os (n+1))=0;rw[wJ (i:=n+1) (by omega)];exact fN _ _ _
theorem nU(j rate:Int)(os:List Itm):(ownL j rate os).length=os.length+1:=by simp[ownL]
theorem nV(j rate:Int)(os:List Itm){i:Nat}(h:i<=os.length):(ownL j rate os)[i]? =some (ownF j rate os i):=by unfold ownL;rw[List.getElem?_map,List.getElem?_eq_getElem (by simp;omega),List.getElem_range];rfl
theorem r8(j rate:Int){os:List Itm}(h:os≠[]):ownL j rate os=[0]++(List.range (os.length-1)).map (fun i=>ownF j rate os (i+1))++[0]:=by
 have h0:0<os.length:=List.length_pos_iff.mpr h;apply List.ext_getElem?;intro i;by_cases hi:i<=os.length
 · rw[nV j rate os hi]
   rcases Nat.eq_zero_or_pos i with rfl|hp
   ·rfl
   · by_cases hl:i=os.length
     · rw[List.getElem?_append_right (by simp;omega),hl,jo j rate os _ rfl]
       have:os.length-([0]++List.map (fun i=>ownF j rate os (i+1)) (List.range (os.length-1))).length=0:=by simp;omega
       rw[this];rfl
     · rw[List.getElem?_append_left (by simp;omega),List.getElem?_append_right (by simp;omega),List.getElem?_map]
       have e:i-[(0:Rat)].length=i-1:=rfl;rw[e,List.getElem?_eq_getElem (by simp;omega),List.getElem_range];show some _=some (ownF j rate os (i-1+1));rw[Nat.sub_add_cancel hp]
 ·rw[List.getElem?_eq_none (by rw[nU];omega),List.getElem?_eq_none (by simp;omega)]
theorem jR(rate sp:Int):0<=topR rate sp:=by
 unfold topR;rw[Rat.divInt_nonneg_iff_of_pos_right (by decide),Int.pow_succ,Int.pow_succ,Int.pow_zero,Int.one_mul];rcases Int.le_total 0 (sp*rate)with h|h
 ·exact Int.mul_nonneg h h
 ·exact Int.mul_nonneg_of_nonpos_of_nonpos h h
theorem Gr(a:Int):0<=a^2:=by
 rw[Int.pow_succ,Int.pow_succ,Int.pow_zero,Int.one_mul];rcases Int.le_total 0 a with h|h
 ·exact Int.mul_nonneg h h
 ·exact Int.mul_nonneg_of_nonpos_of_nonpos h h
theorem wK{j:Int}{ns ms:List Int}{c:Rat}(h:cornO j ns ms=some c):0<=c:=by
 unfold cornO at h;split at h
 ·cases h
 ·next h0=>
   cases h;rw[Rat.divInt_nonneg_iff_of_pos_right]
   ·exact Gr _
   ·rw[Int.pow_succ,Int.pow_succ,Int.pow_zero,Int.one_mul];exact Int.mul_pos (by omega) (by omega)
theorem Aa(j rate:Int)(o p:Itm):0<=betR j rate o p:=by
 unfold betR;split
 ·next ns sp ms sq=>
   have h:=g9 (jR rate sp) (jR rate sq);unfold mnO;split
   ·exact h
   ·next c e=>exact g9 h (wK e)
 ·exact Rat.le_refl
theorem rj(j rate:Int)(os:List Itm):∀i,0<=ownF j rate os i |0=>Rat.le_refl |i+1=>Aa _ _ _ _
def OkI(o:Itm):Prop:=∀ns sp,o=some (ns,sp)->(∀z∈ns,(z.natAbs:Int)<=100)/\1<=sp/\sp<=20
theorem wL{a:Int}{m:Nat}(h:a.natAbs<=m):(a^2).natAbs<=m*m:=by rw[Int.pow_succ,Int.pow_succ,Int.pow_zero,Int.one_mul];exact fg h h
theorem gU{rate sp:Int}(h1:1<=sp)(h2:sp<=20)(h3:10<=rate)(h4:rate<=200):Bd 64 (topR rate sp):=by
 have h64:(2:Nat)^64=18446744073709551616:=by decide
 have a:=wL (fg (a:=sp) (b:=rate) (m:=20) (n:=200) (by omega) (by omega));exact eG (by decide) (by rw[h64];omega) (by decide)
theorem kx{j:Int}{ns ms:List Int}{c:Rat}(h1:1<=j)(h2:j<=50)(hn:∀z∈ns,(z.natAbs:Int)<=100)(hm:∀z∈ms,(z.natAbs:Int)<=100)(h:cornO j ns ms=some c):Bd 64 c:=by
 have h64:(2:Nat)^64=18446744073709551616:=by decide
 have cb:=iT (fun z hz=>by have:=hn z hz;omega) (fun z hz=>by have:=hm z hz;omega) (ns:=ns) (ms:=ms);have hb:=dU cb;have l1:=dU (ns:=ns) (m:=100) fun z hz=>by have:=hn z hz;omega
 have l2:=dU (ns:=ms) (m:=100) fun z hz=>by have:=hm z hz;omega
 unfold cornO at h;split at h
 ·cases h
 ·next h0=>cases h;have a:=wL (fg (fg (a:=j) (b:=(ay ns:Int)) (m:=50) (n:=100) (by omega) (by omega)) (b:=(ay ms:Int)) (n:=100) (by omega));have b:=wL (a:=(ay (bp ns ms):Int)) (m:=2000000) (by omega);refine eG ?_ (by rw[h64];omega) (by rw[h64];omega);rw[Int.pow_succ,Int.pow_succ,Int.pow_zero,Int.one_mul];exact Int.mul_ne_zero (by omega) (by omega)
theorem nT{n:Nat}{a b:Rat}(h1:Bd n a)(h2:Bd n b):Bd n (mn a b):=by rcases gJ a b with e|e<;>rw[e]<;>assumption
theorem rn:Bd 64 (0:Rat):=⟨by decide,by decide⟩
theorem Ab{j rate:Int}{o p:Itm}(h1:1<=j)(h2:j<=50)(h3:10<=rate)(h4:rate<=200)(ho:OkI o)(hp:OkI p):Bd 64 (betR j rate o p):=by
 unfold betR;split
 ·next ns sp ms sq=>
   obtain⟨a1,a2,a3⟩:=ho ns sp rfl;obtain⟨b1,b2,b3⟩:=hp ms sq rfl;have h:=nT (gU a2 a3 h3 h4) (gU b2 b3 h3 h4);unfold mnO;split
   ·exact h
   ·next c e=>exact nT h (kx h1 h2 a1 b1 e)
 ·exact rn
def OkIs(os:List Itm):Prop:=∀i,OkI (atO os i)
theorem mC{j rate:Int}{os:List Itm}(h1:1<=j)(h2:j<=50)(h3:10<=rate)(h4:rate<=200)(ho:OkIs os):∀i,Bd 64 (ownF j rate os i) |0=>rn |i+1=>Ab h1 h2 h3 h4 (ho i) (ho (i+1))
end Ow
namespace Wk
open PySem L2
def eK(pl ns:List Int):List Int:=List.zipWith (fun a b=>a+b) pl ns
theorem eL{pl ns:List Int}(h:ns.length=pl.length):(eK pl ns).length=pl.length:=by unfold eK;rw[List.length_zipWith,h];exact Nat.min_self _
theorem ky{pl ns:List Int}{i:Nat}{a b:Int}(h1:pl[i]? =some a)(h2:ns[i]? =some b):(eK pl ns)[i]? =some (a+b):=by unfold eK;rw[List.getElem?_zipWith,h1,h2]
def zD(rs pl:List Int):Bool:=(pl.zip rs).all fun p=>decide (0<=p.1)&&decide (p.1<=p.2)
structure pI(rs pl:List Int):Prop where
 len:pl.length=rs.length
 at':∀(i:Nat)(x r:Int),pl[i]? =some x->rs[i]? =some r->0<=x/\x<=r
theorem Ac{rs pl:List Int}(h:pl.length=rs.length):zD rs pl=true↔pI rs pl:=by
 unfold zD;rw[List.all_eq_true];constructor
 · intro a
   refine⟨h,fun i x r e1 e2=>?_⟩;have:=a (x,r) (List.mem_of_getElem? ((List.getElem?_zip_eq_some (z:=(x,r))).mpr ⟨e1,e2⟩));rw[Bool.and_eq_true,decide_eq_true_iff,decide_eq_true_iff]at this;exact this
 · rintro a ⟨x,r⟩ hp
   obtain⟨i,hi⟩:=List.mem_iff_getElem?.mp hp;obtain⟨e1,e2⟩:=(List.getElem?_zip_eq_some (z:=(x,r))).mp hi;have:=a.at' i x r e1 e2;rw[Bool.and_eq_true,decide_eq_true_iff,decide_eq_true_iff];exact this
end Wk
namespace L2
open PySem PySem.Spec PyProof.Rows
section
variable {X:Cx}
end
end L2
namespace L2
open PySem PySem.Spec PyProof.Rows
end L2
namespace L2
open PySem PySem.Spec PyProof.Rows
section
variable {X:Cx}
theorem Gs(K:PySem.W.Frag)(h:X.K=K){o e:Expr}{to:TE}{t:TA}{apos cpos:Pos}(ho:PE X o to)(ha:PA X [e] t) (hbase:attributeBase o "extend" X.env (eval o X.env)=eval o X.env:=by rfl) (hfew:((backTo cpos (starEach [e] X.env)).all (fun x=>!x.1)&&(backToKw cpos (keywordEach [] X.env)).all (fun x=>x.1.isSome) &&decide ([e].length+([]:List Keyword).length+(if([]:List Keyword).isEmpty then 0 else 1)<30))=true:=by rfl) (hline:(apos.endLine==cpos.line)=true:=by rfl)(hs:starEach [e] X.env=(false,eval e X.env)::starEach [] X.env:=by rfl)(hplain:(backTo cpos (starEach [] X.env)).any (·.1)=false:=by rfl): PE X (.Call (.Attribute o "extend" apos) [e] [] cpos) (Ij K "list" qI to t):=by subst h;exact vB PySem.F.plainAttrs_list PySem.F.slot_list_extend PySem.F.type_list_extend tY ho ha hbase hfew hline hs hplain
end
end L2
namespace L2
open PySem PySem.Spec PyProof PyProof.Rows
section
variable {X:Cx}
end
end L2
namespace L2
open PySem PySem.Spec PyProof.Rows
end L2
namespace L2
open PySem PySem.Spec PyProof.Rows
section
variable {K:PySem.W.Frag} {H H' H2:Hp}
end
end L2
namespace L2
open PySem PySem.Spec PyProof.Rows
def J1(z:Str):It:=⟨fun i _=>i<z.cps.size,fun i H x H'=>H'=H/\∃c,z.cps.toList[i]? =some c/\x= .str ⟨#[c]⟩,fun i _=>z.cps.size<=i⟩
theorem wM{P:Program}{w:World}{K:PySem.W.Frag}{tg:Expr}(it:Addr)(z:Str)(t:Tok)(ty:String)(hty:["enumerate","zip","dict_itemiterator","dict_reverseitemiterator","odict_iterator","itertools.zip_longest","itertools.pairwise"].contains ty=false) (W:∀A':Around,A'.handled=none->Walks P w A' it [it] [it] z.cps.size (SignAt z) (fun i h=>h.IsStrIter it ty z t i)) (self:∀(A:Around)(i:Nat)(s:Shared)(Q:Value->Shared->Prop)(E:Value->Shared->Prop),s.heap.IsStrIter it ty z t i->Q (.ref it) s->wpAny (model P w) A (pyIter (.ref it)) Q E s): Turn P w K tg (J1 z) [it] it (fun i h=>h.IsStrIter it ty z t i/\i<=z.cps.size) where
  mem:=by simp
  obj:=fun i h st b hb=>by
   have e:b=it:=by simpa using hb
   subst e;obtain⟨⟨o,e,c,d⟩,_⟩:=st;exact⟨o,e,fun v z=>by rw[d]at z;cases z⟩
  keep:=fun i h h' st k=>⟨let⟨o,e,r⟩:=st.1;⟨o,k it (by simp) o e,r⟩,st.2⟩
  item:=by intro X hP hw hK hc i pins s σ H E I hf st hg;subst hP hw hK;obtain⟨f0,f1,f2,f3,f4,f5⟩:=hf it (by simp);refine(W X.A (I.ok.hd hc)).item i s _ _ hg st.1 fun v h' tk hv st' kk=>?_;obtain⟨c,u,ec,rfl⟩:=hv;have I1:Inv X pins σ H {s with heap:=h',toks:=tk}:=I.turned (fun b o hb e=>kk b o (by simpa using hb) e) f0 f1 f3 f4 f5;obtain⟨o,e,cl,d⟩:=id st';exact⟨_,rfl,kZ (s:={s with heap:=h',toks:=tk}) e cl d hty ⟨.str ⟨#[c]⟩,H,I1,⟨u,rfl⟩,⟨rfl,c,by simpa using ec,rfl⟩,⟨st',hg⟩,fun b hb=>(hf b hb).1⟩⟩
  done:=by intro X hP hw hK hc i pins s σ H E I hf st hg;subst hP hw hK;obtain⟨f0,f1,f2,f3,f4,f5⟩:=hf it (by simp);obtain⟨st,hle⟩:=st;have ei:i=z.cps.size:=Nat.le_antisymm hle hg;subst ei;exact(W X.A (I.ok.hd hc)).done s _ _ st fun h' tk eb=>⟨rfl,I.turned (fun b o hb e=>eb b o (by simpa using hb) e) f0 f1 f3 f4 f5⟩
  self:=fun A i s Q E st h=>self A i s Q E st.1 h
section
variable {X:Cx} {tg:Expr}
inductive BB(R:It->Hp->Prop)(x:V)(H1:Hp):Prop |mk (z:_)(h0:x= .str z)(h1:R (J1 z) H1):BB R x H1
def J2(tl:TE):TI:=fun σ H R=>tl σ H fun x H1=>BB R x H1
theorem DH{l:Expr}{tl:TE}(hl:PE X l tl):PI X tg l (J2 tl):=by
 intro pins s σ H R I h;refine cn (hl pins s σ H _ I h) fun v s1 ⟨x,H1,I1,r1,q1⟩=>?_;obtain⟨z,e,q⟩:=q1;subst e;obtain⟨t,rfl⟩:=r1;have fin:∀ty,["enumerate","zip","dict_itemiterator","dict_reverseitemiterator","odict_iterator","itertools.zip_longest","itertools.pairwise"].contains ty=false->(∀A':Around,A'.handled=none->Walks X.prog X.w A' s1.heap.objs.size [s1.heap.objs.size] [s1.heap.objs.size] z.cps.size (SignAt z) (fun i h=>h.IsStrIter s1.heap.objs.size ty z t i))->(∀(A:Around)(i:Nat)(s:Shared)(Q:Value->Shared->Prop)(E:Value->Shared->Prop),s.heap.IsStrIter s1.heap.objs.size ty z t i->Q (.ref s1.heap.objs.size) s->wpAny (model X.prog X.w) A (pyIter (.ref s1.heap.objs.size)) Q E s)->Ig X pins σ tg R (.ref s1.heap.objs.size) {s1 with heap:=s1.heap.push {cls:=.type ty,data:=.fields #[.str z t,.int 0 0]}}:=fun ty h1 h2 h3=>by
   refine⟨s1.heap.objs.size,[s1.heap.objs.size],_,_,H1,rfl,I1.kept (t':=s1.toks) fun b o e=>Heap.get?_push_of_some _ e,wM _ z t ty h1 h2 h3,⟨⟨_,Heap.get?_push_size _ rfl,rfl,rfl⟩,Nat.zero_le _⟩,fun b hb=>?_,q⟩;have e:b=s1.heap.objs.size:=by simpa using hb
   subst e;exact I1.m4 (Nat.le_refl _) (I1.hok.fresh (Nat.le_refl _))
 cases ha:z.cps.all (·<128)
 ·exact wpAny_pyIter_wide ha (fin "str_iterator" (by decide) (fun A' hA=>Walks.strWide hA _ z t) (fun _ _ _ _ _ st h=>wpAny_pyIter_striter_wide st h))
 ·exact wpAny_pyIter_ascii ha (fin "str_ascii_iterator" (by decide) (fun A' hA=>Walks.strAscii hA _ z t) (fun _ _ _ _ _ st h=>wpAny_pyIter_striter_ascii st h))
theorem wN{z:Str}{f:Nat->Bool}{te:TE}{Q:VK}{D:Addr}{H H0:Hp}(rest:St)(nw:Nw H H0 D (.lst []))(hz:z.length<=1000) (hs:∀(c:Nat)(H2:Hp)(Q':VK),c∈z.cps.toList->aI H H2->(∀H3,aI H2 H3->Q' (.bl (f c)) H3)->te (some (.str ⟨#[c]⟩)::rest) H2 Q') (hq:∀H',aI H H'->H' D=some (.lst ((z.cps.toList.map f).map V.bl))->Q (.ref D) H'):fk (J1 z) (cS 0) gC te Q D (none::rest) H0:=by
  have hl:z.cps.toList.length=z.cps.size:=by simp
  refine qQ (xs:=z.cps.toList.map fun c=>V.str ⟨#[c]⟩) (bs:=z.cps.toList.map f) rest nw (by simp) (by simpa[Str.length]using hz) ?_ ?_ ?_ hq
  · intro i x H2 ex s2
    rw[List.getElem?_map]at ex;cases ec:z.cps.toList[i]? with |none=>rw[ec]at ex;cases ex |some c=>rw[ec]at ex;cases ex;refine⟨by have:=(List.getElem?_eq_some_iff.mp ec).1;show i<z.cps.size;omega,fun y H3 ⟨e3,c',ec',e⟩=>⟨e3,?_⟩⟩;rw[ec]at ec';cases ec';exact e
  · intro H2 s2
    show z.cps.size<=(z.cps.toList.map _).length;rw[List.length_map,hl];exact Nat.le_refl _
  · intro i x b H2 Q' ex eb s2 hq'
    rw[List.getElem?_map]at ex eb;cases ec:z.cps.toList[i]? with |none=>rw[ec]at ex;cases ex |some c=>rw[ec]at ex eb;cases ex;cases eb;exact hs c H2 Q' (List.mem_of_getElem? ec) s2 hq'
theorem DI:gj X (compareOp .In) (fun x y H Q=>∃c j,x= .str ⟨#[c]⟩/\y= .str j/\Q (.bl (decide (c∈j.cps.toList))) H):=by intro pins s σ H x y v u Q I rx ry h;obtain⟨c,j,rfl,rfl,q⟩:=h;refine tR pins s σ H _ _ v u Q I rx ry ⟨_,_,rfl,rfl,?_⟩;rw[PySem.StrLaws.found_one];exact q
inductive BC(K:PySem.W.Frag)(x:V)(y:V)(H:Hp)(Q:VK):Prop |mk (p:_)(xs:_)(d:_)(ds:_)(h0:y= .ref p)(h1:bG K H p xs)(h2:RD K H x d)(h3:bj K H xs ds)(h4:SeqAt.shaped d=true)(h5:(∀e∈ds,SeqAt.shaped e=true))(h6:Q (.bl (ds.any fun e=>PyData.eqv e d)) H):BC K x y H Q
def J3(K:PySem.W.Frag):R2:=fun x y H Q=>BC K x y H Q
theorem J4(K:PySem.W.Frag)(hK:X.K=K)(hu:X.A.units+65<cLine):gj X (compareOp .In) (J3 K):=by
 subst hK;intro pins s σ H x y v u Q I rx ry h;obtain⟨p,xs,d,ds,rfl,hx,hd,hds,sd,sds,q⟩:=h;cases ry;obtain⟨its,r,pl,hz⟩:=I.tuple hx;obtain⟨k1,k2⟩:=vV I hu rx hd sd r hds sds;refine SeqAt.in_tupleAt (Du s.heap d) (show s.heap.IsTuple p its.toArray from pl) (fun w hw=>k1 w (by simpa using hw)) ⟨.bl _,H,I,rfl,?_⟩;have e:its.toArray.any (Du s.heap d)=ds.any fun e=>PyData.eqv e d:=by rw[<-k2];simp
 rw[e];exact q
end
end L2
namespace L2
open PySem PySem.Spec PyProof.Rows
def Fy(lo:Int)(n:Nat):It:=⟨fun i _=>i<n,fun i H x H'=>H'=H/\x= .int (lo-i),fun i _=>n<=i⟩
theorem uu{P:Program}{w:World}{K:PySem.W.Frag}{tg:Expr}(it:Addr)(lo:Int)(n:Nat):Turn P w K tg (Fy lo n) [it] it (fun i h=>IsRangeIter h it (lo+(i:Nat)*(-1)) ((n:Int)-(i:Nat)) (-1)) where
 mem:=by simp
 obj:=fun i h st b hb=>by
  have e:b=it:=by simpa using hb
  subst e;exact⟨_,st,fun v z=>by have z':Data.fields _=Data.cell v:=z;cases z'⟩
 keep:=fun i h h' st k=>k it (by simp) _ st
 item:=by
  intro X hP hw hK hc i pins s σ H E I hf st hg;subst hP hw hK;obtain⟨f0,f1,f2,f3,f4,f5⟩:=hf it (by simp);have W:=Walks.range (prog:=X.prog) (w:=X.w) (I.ok.hd hc) it lo (-1) n;refine W.item i s _ _ hg st fun v h' tk hv st' kk=>?_;obtain⟨t,rfl⟩:=hv;have I1:Inv X pins σ H {s with heap:=h',toks:=tk}:=I.turned (fun b o hb e=>kk b o (by simpa using hb) e) f0 f1 f3 f4 f5;refine⟨_,rfl,kZ (s:={s with heap:=h',toks:=tk}) (n:="range_iterator") st' rfl rfl (by decide) ⟨.int (lo-i),H,I1,⟨t,?_⟩,⟨rfl,rfl⟩,st',fun b hb=>(hf b hb).1⟩⟩;have e:lo+(i:Int)*(-1)=lo-i:=by omega
  rw[e]
 done:=by intro X hP hw hK hc i pins s σ H E I hf st hg;subst hP hw hK;obtain⟨f0,f1,f2,f3,f4,f5⟩:=hf it (by simp);exact wpAny_pyNext_range_end (I.ok.hd hc) st (by have:n<=i:=hg;omega) fun h' eb=>⟨rfl,I.turned (t':=s.toks) (fun b o hb e=>eb b o hb e) f0 f1 f3 f4 f5⟩
 self:=fun _ _ _ _ _ st h=>wpAny_pyIter_rangeiter st h
theorem uv{a b:Int}(ha:-(2^62)<=a)(ha':a<2^62)(hb:-(2^62)<=b)(hb':b<2^62):Builtin.Range.small a b (-1)=true:=by unfold Builtin.Range.small Builtin.Range.rangeSize;rw[if_neg (by decide),show(-(-1):Int)=1 by decide,Int.ediv_one];simp only[Builtin.Range.rangeFitsLong,Bool.and_eq_true,Bool.or_eq_true,decide_eq_true_eq,beq_iff_eq,show¬((-1:Int)>0) by decide,if_false];split<;>omega
theorem wO(a b:Int):Builtin.Range.rangeSize a b (-1)=(((a-b).toNat:Nat):Int):=by unfold Builtin.Range.rangeSize;rw[if_neg (by decide),show(-(-1):Int)=1 by decide,Int.ediv_one];split<;>omega
inductive wQ(R:It->Hp->Prop)(vs:List V)(H1:Hp):Prop |mk (i:Int)(j:Int)(h0:vs=[.int i,.int j,.int (-1)])(h1:(-(2^62)<=i/\i<2^62/\-(2^62)<=j/\j<2^62))(h2:R (Fy i (i-j).toNat) H1):wQ R vs H1
def Gu(ta:TA):TI:=fun σ H R=>ta σ H fun vs H1=>wQ R vs H1
section
variable {X:Cx} {tg:Expr}
theorem wR{pins:List (Addr×Obj)}{σ:St}{H:Hp}{s:Shared}{R:It->Hp->Prop}{E:Value->Shared->Prop}{lo hi:Int}{t u v:Tok}{tk:Nat}(I:Inv X pins σ H s)(h1:-(2^62)<=lo)(h2:lo<2^62)(h3:-(2^62)<=hi)(h4:hi<2^62) (q:R (Fy lo (lo-hi).toNat) H):wpAny (model X.prog X.w) X.A (pyIter (.ref s.heap.objs.size)) (Ig X pins σ tg R) E {s with heap:=s.heap.push {cls:=.type "range",data:=.fields #[.int lo t,.int hi u,.int (-1) v]},toks:=tk}:=by
  refine wpAny_pyIter_range (IsRange.new ..) (uv h1 h2 h3 h4) ?_;have I1:Inv X pins σ H {s with heap:=s.heap.push {cls:=.type "range",data:=.fields #[.int lo t,.int hi u,.int (-1) v]},toks:=tk}:=I.kept fun b o e=>Heap.get?_push_of_some _ e;refine⟨(s.heap.push {cls:=.type "range",data:=.fields #[.int lo t,.int hi u,.int (-1) v]}).objs.size,[(s.heap.push {cls:=.type "range",data:=.fields #[.int lo t,.int hi u,.int (-1) v]}).objs.size],_,_,H,rfl,I1.kept (t':=tk) fun b o e=>Heap.get?_push_of_some _ e,uu _ lo (lo-hi).toNat,?_,fun b hb=>?_,q⟩
  · have e1:lo+((0:Nat):Int)*(-1)=lo:=by simp
    have e2:(((lo-hi).toNat:Nat):Int)-((0:Nat):Int)=Builtin.Range.rangeSize lo hi (-1):=by rw[wO];omega
    show IsRangeIter _ _ (lo+((0:Nat):Int)*(-1)) ((((lo-hi).toNat:Nat):Int)-((0:Nat):Int)) (-1);rw[e1,e2];exact Heap.get?_push_size _ rfl
  · have e:b=(s.heap.push {cls:=.type "range",data:=.fields #[.int lo t,.int hi u,.int (-1) v]}).objs.size:=by simpa using hb
    subst e;exact I1.m4 (Nat.le_refl _) (I1.hok.fresh (Nat.le_refl _))
theorem uw{a b c:Expr}{ta:TA}{p pos:Pos}(hg:Gl X "range")(hm:X.mg "range"=none)(ha:PA X [a,b,c] ta)(hs:starEach [a,b,c] X.env=[(false,eval a X.env),(false,eval b X.env),(false,eval c X.env)]:=by rfl)(hs2:starEach [b,c] X.env=[(false,eval b X.env),(false,eval c X.env)]:=by rfl): PI X tg (.Call (.Name "range" p) [a,b,c] [] pos) (Gu ta):=by intro pins s σ H R I h;refine Call_ (gk I hg hm boot_range (PyProof.Rows.callWith_type1 (cn (ha pos pins s σ H _ I h) fun us s1 ⟨vs,H1,I1,r1,q1⟩=>?_) (by rw[hs,hs2]) (by rw[hs2];rfl)));obtain⟨i,j,e,⟨q1,q2,q3,q4⟩,q⟩:=q1;subst e;cases r1 with |cons r rr=>cases rr with |cons r' rr=>cases rr with |cons r'' rr=>cases rr;obtain⟨t,rfl⟩:=r;obtain⟨t',rfl⟩:=r';obtain⟨t'',rfl⟩:=r'';exact call_range_3 (by decide) (wR I1 q1 q2 q3 q4 q) (Or.inl (PyProof.noPylong_small (by omega)))
theorem wU{lo:Int}{n:Nat}{g:TG}{tb:TS}{D:Ends}{σ:St}{H:Hp}(Pv:Nat->St->Hp->Prop)(h0:Pv 0 σ H) (hs:∀i σ H,i<n->Pv i σ H->g (.int (lo-i)) σ H fun σ2 H2=>tb {D with nx:=Pv (i+1),ct:=Pv (i+1),bk:=D.nx} σ2 H2)(hd:∀σ H,Pv n σ H->D.nx σ H): ∃W:Nat->Nat->St->Hp->Prop,(∃m,W 0 m σ H)/\∀i m σ H,W i m σ H->((Fy lo n).stop i H/\D.nx σ H)\/((Fy lo n).go i H/\∃N:St->Hp->Prop,(∀σ' H',N σ' H'->∃m',m'<m/\W (i+1) m' σ' H')/\∀x H',(Fy lo n).yld i H x H'->g x σ H' fun σ2 H2=>tb {D with nx:=N,ct:=N,bk:=D.nx} σ2 H2):=by
  refine⟨fun i m σ H=>m=n-i/\i<=n/\Pv i σ H,⟨n,by simp,Nat.zero_le _,h0⟩,?_⟩;rintro i m σ H ⟨rfl,hi,hp⟩;by_cases h:i<n
  · refine .inr ⟨h,Pv (i+1),fun σ' H' hp'=>⟨n-(i+1),by omega,rfl,by omega,hp'⟩,?_⟩
    rintro x H' ⟨rfl,rfl⟩;exact hs i σ H' h hp
  · have e:i=n:=by omega
    subst e;exact .inl ⟨Nat.le_refl _,hd σ H hp⟩
end
theorem lL{K:PySem.W.Frag}{b1 b2:Bool}{l1 l2:Addr}{xs ys:List V}{bs:List Bool}{te:TE}{Q:VK}{D:Addr}{H H0:Hp}{n:Nat}(rest:St)(hn:n=2)(h1:iq b1 K H l1 xs)(h2:iq b2 K H l2 ys)(nw:Nw H H0 D (.lst [])) (hl:min xs.length ys.length=bs.length)(hz:bs.length<=100000) (hs:∀(i:Nat)(x y:V)(b:Bool)(H2:Hp)(Q':VK),xs[i]? =some x->ys[i]? =some y->bs[i]? =some b->aI H H2->(∀H3,aI H2 H3->Q' (.bl b) H3)->te (some x::some y::rest) H2 Q') (hq:∀H',aI H H'->H' D=some (.lst (bs.map V.bl))->Q (.ref D) H'):fk (vW K b1 b2 l1 l2) (m3 K n (fz (cS 0) (fz (cS 1) nj))) gC te Q D (none::none::rest) H0:=by
  subst hn;have hD:=nw.no;refine fK bs.length (fun i σ H2=>aI H H2/\H2 D=some (.lst ((bs.take i).map V.bl))/\∃v v',σ=v::v'::rest) ?_ ?_ ?_
  ·exact⟨nw.same,nw.at',none,none,rfl⟩
  · rintro i σ H2 hi ⟨s2,d2,v,v',rfl⟩
    have hx:i<xs.length:=by omega
    have hy:i<ys.length:=by omega
    have ex:=List.getElem?_eq_getElem hx;have ey:=List.getElem?_eq_getElem hy;have eb:=List.getElem?_eq_getElem hi;refine⟨⟨xs,ys,_,_,h1.go s2,h2.go s2,ex,ey⟩,fun y' H3 hy'=>?_⟩;obtain⟨T,x0,y0,rfl,k1,k2,n3⟩:=hy';have e1:=k1 _ (h1.go s2);have e2:=k2 _ (h2.go s2);rw[ex]at e1;rw[ey]at e2;cases e1;cases e2;refine⟨T,_,rfl,bG.of n3.at',rfl,_,_,rfl,_,_,rfl,rfl,?_⟩;refine yes (bK ?_);refine hs i _ _ _ _ _ ex ey eb (s2.trans n3.same) fun H4 s4=>?_;refine⟨_,s4 _ _ (n3.same _ _ d2),?_,bs.length-(i+1),by omega,rfl,by omega,fun b o e=>?_,?_,_,_,rfl⟩
    · rw[List.length_map,List.length_take]
      have:(100000:Nat)<sizeLine:=by decide
      omega
    ·rw[aj (aX e hD)];exact s4 b o (n3.same b o (s2 b o e))
    ·rw[au,List.take_succ,eb,List.map_append];rfl
  · rintro σ H2 ⟨s2,d2,v,v',rfl⟩
    refine⟨⟨xs,ys,h1.go s2,h2.go s2,by omega⟩,hq H2 s2 ?_⟩;rw[d2,List.take_length]
end L2
namespace L2
open PySem PySem.Spec PyProof.Rows
structure MA(K:PySem.W.Frag)(C:Addr)(m qual:Str)(st:Stmt):Prop where ex:∃f fd,Meth K C m f/\vN K m qual st f fd
def bN(P:Program)(w:World)(K:PySem.W.Frag)(mg:Str->Option Value)(base:Heap)(C:Addr)(m:Str)(k:Nat)(sp:Sp):Prop:=∃f fd ps,hJ P w K mg base u7 k f fd ps sp/\Meth K C m f/\Binds K fd ps []
structure CA(K:PySem.W.Frag)(mg:Str->Option Value)(C:Addr)(x qual:Str)(st:Stmt):Prop where
 mgC:mg x=some (.ref C)
 ex:∃f fd,Mk K C f/\vN K "__init__" qual st f fd
def rB(P:Program)(w:World)(K:PySem.W.Frag)(mg:Str->Option Value)(base:Heap)(C:Addr)(x:Str)(k:Nat)(sp:Sp):Prop:=∃f fd ps,hJ P w K mg base u7 k f fd ps sp/\Mk K C f/\Binds K fd ps []/\mg x=some (.ref C)
section
variable {P:Program}{w:World}{K:PySem.W.Frag}{mg:Str->Option Value}{base:Heap}
theorem eU{C:Addr}{m qual:Str}{st:Stmt}{f:Addr}{oc:Value}{od an:Option Addr}{osl:Array (Option Value)}{kV doc pm cdv ct:Value} (a:PySem.W.findIn K (.ref C) m=some (some (.ref f)))(i:PySem.W.isFn K (.ref f)=true) (l:K.lookup f=some ⟨oc,od,.func (PySem.W.fnOf m qual (eu st) (cV st) (ao st) .none kV doc pm an cdv ct),osl⟩) (c:PySem.W.codeIn K cdv qual=true)(k:PySem.W.keepIn K (.ref f)=true):MA K C m qual st:=⟨f,_,⟨a,i,k⟩,pD l c k⟩
theorem Gv{h:Heap}{C:Addr}{x qual:Str}{st:Stmt}{f:Addr}{oc:Value}{od an:Option Addr}{osl:Array (Option Value)}{kV doc pm cdv ct:Value}(X:K.In h)(G:h.Ns mainGlobals mg) (aC:PySem.W.nsIn K mainGlobals x=some (some (.ref C)))(mk:PySem.W.makesIn K C=true)(kc:PySem.W.keepIn K (.ref C)=true) (a:PySem.W.findIn K (.ref C) "__init__"=some (some (.ref f)))(i:PySem.W.isFn K (.ref f)=true) (l:K.lookup f=some ⟨oc,od,.func (PySem.W.fnOf "__init__" qual (eu st) (cV st) (ao st) .none kV doc pm an cdv ct),osl⟩) (c:PySem.W.codeIn K cdv qual=true)(k:PySem.W.keepIn K (.ref f)=true):CA K mg C x qual st:=⟨PySem.W.mg_of X G aC,f,_,⟨mk,a,i,kc⟩,pD l c k⟩
theorem MA.has{C:Addr}{m qual:Str}{st:Stmt}{N ps:List Str}{k:Nat}{sp:Sp}(F:MA K C m qual st)(S:aH N ps (ao st))(len:∀vs H Q E,sp vs H Q E->vs.length=ps.length) (hb:∀(kV doc pm:Value)(an:Option Addr)(cdv ct:Value)(us:List Value),us.length=ps.length->bindArgs (PySem.W.fnOf m qual (eu st) (cV st) (ao st) .none kV doc pm an cdv ct) ⟨us,[]⟩=pure (ps.zip us)) (hbody:∀(f:Addr)(cdv:Value)(A:Around)(outer:List Env)(s:Shared)(H:Hp)(vs:List V)(Q:VK)(E:XK),dF k (A.deeper (envOfC qual (ao st) s.heap.objs.size f cdv))->sp vs H Q E->∃t,oS (m6 u7 P w K mg base N qual (ao st) f cdv A outer s H E).CQ (cV st) t/\t {nx:=fun _ H'=>Q .cG H',rt:=Q} (start N vs) H):bN P w K mg base C m (k+1) sp:=by obtain⟨f,fd,hm,F⟩:=F.ex;exact⟨f,fd,ps,F.ok S len fun cdv A outer s H vs Q E=>hbody f cdv A outer s H vs Q E,hm,F.binds hb⟩
theorem CA.has{C:Addr}{x qual:Str}{st:Stmt}{N ps:List Str}{k:Nat}{sp:Sp}(F:CA K mg C x qual st)(S:aH N ps (ao st))(len:∀vs H Q E,sp vs H Q E->vs.length=ps.length) (hb:∀(kV doc pm:Value)(an:Option Addr)(cdv ct:Value)(us:List Value),us.length=ps.length->bindArgs (PySem.W.fnOf "__init__" qual (eu st) (cV st) (ao st) .none kV doc pm an cdv ct) ⟨us,[]⟩=pure (ps.zip us)) (hbody:∀(f:Addr)(cdv:Value)(A:Around)(outer:List Env)(s:Shared)(H:Hp)(vs:List V)(Q:VK)(E:XK),dF k (A.deeper (envOfC qual (ao st) s.heap.objs.size f cdv))->sp vs H Q E->∃t,oS (m6 u7 P w K mg base N qual (ao st) f cdv A outer s H E).CQ (cV st) t/\t {nx:=fun _ H'=>Q .cG H',rt:=Q} (start N vs) H):rB P w K mg base C x (k+1) sp:=by obtain⟨f,fd,hm,F'⟩:=F.ex;exact⟨f,fd,ps,F'.ok S len fun cdv A outer s H vs Q E=>hbody f cdv A outer s H vs Q E,hm,F'.binds hb,F.mgC⟩
end
section
variable {X:Cx}{k:Nat}{x m:Str}{C:Addr}{p pos apos:Pos}{o e:Expr}{es:List Expr}{t:TA}{ta:TE}{sp:Sp}
inductive DJ(C:Addr)(m:Str)(sp:Sp)(t:TA)(σ:St)(Q:VK)(x:V)(H1:Hp):Prop |mk (a:_)(dx:_)(fs:_)(h0:x= .ref a)(h1:H1 a=some (.ins C dx fs))(h2:fs.lookup m=none)(h3:t σ H1 fun vs H2=>sp (x::vs) H2 Q E0):DJ C m sp t σ Q x H1
def Jz(C:Addr)(m:Str)(sp:Sp)(ta:TE)(t:TA):TE:=fun σ H Q=>ta σ H fun x H1=>DJ C m sp t σ Q x H1
theorem BD{σ:St}{Q:VK}{x:V}{H1:Hp}:kj C m sp [] E0 t σ Q x H1=DJ C m sp t σ Q x H1:=by
 have e1:(fun(vs:List V) H1=>sp (x::(vs++[])) H1 Q E0)=fun vs H1=>sp (x::vs) H1 Q E0:=by funext vs H1;rw[List.append_nil]
 refine propext ⟨fun⟨a,dx,fs,h0,h1,h2,h3⟩=>⟨a,dx,fs,h0,h1,h2,?_⟩,fun⟨a,dx,fs,h0,h1,h2,h3⟩=>⟨a,dx,fs,h0,h1,h2,?_⟩⟩
 ·rw[<-e1];exact h3
 ·rw[e1];exact h3
theorem nX{pl:Sem Bool}(F:bN X.prog X.w X.K X.mg X.base C m k sp)(c:qC X.K C)(hr:dF k X.A)(he:PE X o ta)(ha:PA X (e::es) t) (hst:starEach (e::es) X.env=(false,eval e X.env)::starEach es X.env:=by rfl)(hpl:(backTo pos (starEach es X.env)).any (·.1)=false:=by rfl) (ht:eval (.Call (.Attribute o m apos) (e::es) [] pos) X.env=(do
     let ov<-eval o X.env
     standAt apos.atName
     let(f,first)<-holding [ov] (getMethod ov m pl)
     callWith pos f first (backTo pos (starEach (e::es) X.env)) (backToKw pos (keywordEach [] X.env))):=by rfl): PE X (.Call (.Attribute o m apos) (e::es) [] pos) (Jz C m sp ta t):=by
  obtain⟨f,fd,ps,F,hm,hb⟩:=F;have h:=zN (pos:=pos) (apos:=apos) (pl:=pl) he c hm F hr hb .nil qL ha hst hpl ht;intro pins s σ H Q I hq;refine h pins s σ H Q I ?_;show ta σ H fun x H1=>kj C m sp [] E0 t σ Q x H1;simp only[BD];exact hq
theorem dP{pl:Sem Bool}(F:bN X.prog X.w X.K X.mg X.base C m k sp)(c:qC X.K C)(hr:dF k X.A)(he:PE X o ta) (ht:eval (.Call (.Attribute o m apos) [] [] pos) X.env=(do
     let ov<-eval o X.env
     standAt apos.atName
     let(f,first)<-holding [ov] (getMethod ov m pl)
     callWith pos f first (backTo pos (starEach [] X.env)) (backToKw pos (keywordEach [] X.env))):=by rfl): PE X (.Call (.Attribute o m apos) [] [] pos) (Jz C m sp ta ny):=by
  obtain⟨f,fd,ps,F,hm,hb⟩:=F;have h:=vp (pos:=pos) (apos:=apos) (pl:=pl) he c hm F hr hb .nil qL ht;intro pins s σ H Q I hq;refine h pins s σ H Q I ?_;show ta σ H fun x H1=>kj C m sp [] E0 ny σ Q x H1;simp only[BD];exact hq
def JL(C:Addr)(sp:Sp)(t:TA):TE:=fun σ H Q=>t σ H fun vs H1=>∀x dx,H1 x=none->H1 dx=none->dx≠x->sp (.ref x::vs) (upd (upd H1 dx (.own x)) x (.ins C dx [])) (fun v H2=>v= .cG/\Q (.ref x) H2) E0
theorem BE(F:rB X.prog X.w X.K X.mg X.base C x k sp)(hr:dF (k+1) X.A)(hg:Gl X x)(ha:PA X (e::es) t)(hdb:(x==("__debug__":Str))=false:=by decide) (he:starEach (e::es) X.env=(false,eval e X.env)::starEach es X.env:=by rfl)(hpl:(backTo pos (starEach es X.env)).any (·.1)=false:=by rfl): PE X (.Call (.Name x p) (e::es) [] pos) (JL C sp t):=by
  obtain⟨f,fd,ps,F,M,hb,hm⟩:=F;have h:=zO (pos:=pos) (p:=p) M F hr hg hm hb .nil qL ha hdb he hpl;intro pins s σ H Q I hq;refine h pins s σ H Q I ?_;have e1:(fun(vs:List V) H1=>∀x dx,H1 x=none->H1 dx=none->dx≠x->sp (.ref x::(vs++[])) (upd (upd H1 dx (.own x)) x (.ins C dx [])) (fun v H2=>v= .cG/\Q (.ref x) H2) E0) =fun vs H1=>∀x dx,H1 x=none->H1 dx=none->dx≠x->sp (.ref x::vs) (upd (upd H1 dx (.own x)) x (.ins C dx [])) (fun v H2=>v= .cG/\Q (.ref x) H2) E0:=by funext vs H1;rw[List.append_nil]
  show t σ H fun vs H1=>∀x dx,H1 x=none->H1 dx=none->dx≠x->sp (.ref x::(vs++[])) (upd (upd H1 dx (.own x)) x (.ins C dx [])) (fun v H2=>v= .cG/\Q (.ref x) H2) E0;rw[e1];exact hq
inductive JA(C:Addr)(x:Str)(Q:VK)(v:V)(H1:Hp):Prop |mk (a dx:Addr)(fs:List (Str×V))(u:V)(h0:v= .ref a)(h1:H1 a=some (.ins C dx fs))(h2:fs.lookup x=some u)(h3:Q u H1):JA C x Q v H1
theorem bO(T:qC X.K C)(hn:cy X.K C x)(he:PE X e ta)(hb:attributeBase e x X.env (eval e X.env)=eval e X.env:=by rfl): PE X (.Attribute e x pos) (fun σ H Q=>ta σ H fun v H1=>JA C x Q v H1):=by intro pins s σ H Q I h;refine zL hb (cn (he pins s σ H _ I h) fun u s1 ⟨v,H1,I1,rx,a,dx,fs,w,ex,ea,l,q⟩=>?_);subst ex;obtain rfl:u=Value.ref a:=rx;exact kg I1 ea T hn l fun u' s2 I2 ru=>⟨w,H1,I2,ru,q⟩
inductive Gw(C:Addr)(x:Str)(D:Ends)(σ:St)(y v:V)(H2:Hp):Prop |mk (a dx:Addr)(fs:List (Str×V))(h0:v= .ref a)(h1:H2 a=some (.ins C dx fs))(h2:fs.length<1000)(h3:D.nx σ (upd H2 a (.ins C dx (gG x y fs)))):Gw C x D σ y v H2
inductive BF(C a:Addr)(x:Str)(D:Ends)(σ:St)(z:V)(H3:Hp):Prop |mk (dx':Addr)(fs':List (Str×V))(h0:H3 a=some (.ins C dx' fs'))(h1:fs'.length<1000)(h2:D.nx σ (upd H3 a (.ins C dx' (gG x z fs')))):BF C a x D σ z H3
inductive BG(C:Addr)(x:Str)(tv:TE)(rd:V->V->Hp->VK->Prop)(D:Ends)(σ:St)(v:V)(H1:Hp):Prop |mk (a dx:Addr)(fs:List (Str×V))(u:V)(h0:v= .ref a)(h1:H1 a=some (.ins C dx fs))(h2:fs.lookup x=some u)(h3:tv σ H1 fun y H2=>rd u y H2 fun z H3=>BF C a x D σ z H3):BG C x tv rd D σ v H1
theorem eV{value:Expr}{tv:TE}{pos':Pos}(T:qC X.K C)(hn:cy X.K C x)(ha:PE X o ta)(hv:PE X value tv)(hs:swapsWith value (some (.Attribute o x pos')) pos.line X.env=pure false:=by rfl): PS X (.Assign [.Attribute o x pos'] value pos) (fun D σ H=>tv σ H fun y H1=>ta σ H1 fun v H2=>Gw C x D σ y v H2):=by intro pins s σ H D I h;refine plainObj_wpAny_Assign_Attribute (cn (hv pins s σ H _ I h) fun u s1 ⟨y,H1,I1,ry,q⟩=>cn (ha pins s1 σ H1 _ I1 q) fun ov s2 ⟨v,H2,I2,rx,a,dx,fs,ex,ea,l,q2⟩=>?_) hs;subst ex;obtain rfl:ov=Value.ref a:=rx;exact ki I2 ea T hn l ry fun s3 I3=>⟨σ,_,I3,q2⟩
theorem wV{op:Operator}{rd:V->V->Hp->VK->Prop}{value:Expr}{tv:TE}{tpos:Pos}(T:qC X.K C)(hn:cy X.K C x)(ha:PE X o ta)(hv:PE X value tv)(hop:IM X op rd): PS X (.AugAssign (.Attribute o x tpos) op value pos) (fun D σ H=>ta σ H fun v H1=>BG C x tv rd D σ v H1):=by intro pins s σ H D I h;refine wpAny_AugAssign_AttributeAny (cn (ha pins s σ H _ I h) fun ov s1 ⟨v,H1,I1,rx,a,dx,fs,u,ex,ea,l,q⟩=>?_);subst ex;obtain rfl:ov=Value.ref a:=rx;refine kg I1 ea T hn l fun u s2 I2 ru=>cn (hv pins s2 σ H1 _ I2 q) fun w3 s3 ⟨y,H2,I3,ry,q3⟩=>cn (hop pins s3 σ H2 _ y u w3 _ I3 ru ry q3) fun w4 s4 ⟨z,H3,I4,rz,dx',fs',ea',l',q4⟩=>?_;exact ki I4 ea' T hn l' rz fun s5 I5=>⟨σ,_,I5,q4⟩
end
def dZ(S:List Addr)(H H':Hp):Prop:=∀b o,H b=some o->b∉S->H' b=some o
theorem dZ.refl(S:List Addr)(H:Hp):dZ S H H:=fun _ _ e _=>e
theorem dZ.of{S:List Addr}{H H':Hp}(s:aI H H'):dZ S H H':=fun b o e _=>s b o e
theorem dZ.trans{S:List Addr}{H H1 H2:Hp}(a:dZ S H H1)(b:dZ S H1 H2):dZ S H H2:=fun c o e n=>b c o (a c o e n) n
theorem dZ.mono{S S':List Addr}{H H1:Hp}(h:∀x,x∈S->x∈S')(a:dZ S H H1):dZ S' H H1:=fun c o e n=>a c o e fun z=>n (h c z)
theorem gu{S:List Addr}{H:Hp}{a:Addr}{o:HO}(h:a∈S):dZ S H (upd H a o):=fun b o' e n=>by have hb:b≠a:=fun z=>n (by rw[z];exact h);rw[aj hb];exact e
def J5:HO->Prop | .lst _=>True | .ins _ _ _=>True | .dK _=>True |_=>False
def aW(H H':Hp):Prop:=∀b o,¬J5 o->H b=some o->H' b=some o
section
variable {K:PySem.W.Frag} {H H' H2:Hp}
theorem aW.refl:aW H H:=fun _ _ _ e=>e
theorem aW.trans(a:aW H H')(b:aW H' H2):aW H H2:=fun c o n e=>b c o n (a c o n e)
theorem aI.v(s:aI H H'):aW H H':=fun b o _ e=>s b o e
theorem dZ.v{S:List Addr}(s:dZ S H H')(h:∀x∈S,∀o,H x=some o->J5 o):aW H H':=fun b o n e=>s b o e fun z=>n (h b z o e)
theorem aW.upd{a:Addr}{o o':HO}(h:H a=some o)(m:J5 o):aW H (upd H a o'):=fun b p n e=>by
 have hb:b≠a:=fun z=>by rw[z,h]at e;cases e;exact n m
 rw[aj hb];exact e
theorem bG.v{a:Addr}{xs:List V}(s:aW H H')(h:bG K H a xs):bG K H' a xs:=h.imp (fun r=>r.imp (s _ _ (fun z=>z)) fun⟨o,e⟩=>⟨o,s _ _ (fun z=>z) e⟩) id
mutual
theorem RD.v(s:aW H H'):∀{x:V}(d:PyData),iP d=true->RD K H x d->RD K H' x d |x,.none,_,h=>by simpa[RD]using h |x,.bool b,_,h=>by simpa[RD]using h |x,.int i,_,h=>by simpa[RD]using h |x,.str y,_,h=>by simpa[RD]using h |x,.list ds,n,h=>by simp[iP]at n |x,.tuple ds,n,h=>by rw[RD]at h⊢;obtain⟨a,xs,e,h1,h2⟩:=h;exact⟨a,xs,e,h1.v s,bj.v s ds (by simpa[iP]using n) h2⟩ |x,.dict _,_,h=>by simp[RD]at h
theorem bj.v (s:aW H H'):∀{xs:List V}(ds:List PyData),cD ds=true->bj K H xs ds->bj K H' xs ds |xs,[],_,h=>by simpa[bj]using h |xs,d::ds,n,h=>by rw[bj]at h⊢;rw[cD,Bool.and_eq_true]at n;obtain⟨y,ys,e,h1,h2⟩:=h;exact⟨y,ys,e,RD.v s d n.1 h1,bj.v s ds n.2 h2⟩
end
end
end L2
namespace Pn
section
variable {n:Nat}{own:Nat->Rat}{L:Nat->Option Nat}{r f:Int}
end
end Pn
namespace Ow
open Pn Ln Cn
end Ow
namespace Pn
section
variable {n:Nat}{own own':Nat->Rat}{L L':Nat->Option Nat}{r f:Int}
end
end Pn
namespace Pn
section
variable {n:Nat}{own own' q:Nat->Rat}{L:Nat->Option Nat}{r f r' f':Int}
end
end Pn
namespace Ow
open Pn Ln Cn
end Ow
namespace Ow
open Pn Ln Cn
end Ow
namespace Pn
end Pn
namespace Pn
section
variable {n:Nat}{own own':Nat->Rat}{L L':Nat->Option Nat}{r f:Int}{c:Nat}
end
end Pn
namespace Ow
open Pn
section
variable (j rate:Int)(os1 os2:List Itm)
end
end Ow
namespace Pn
section
variable {n:Nat}{own:Nat->Rat}{L:Nat->Option Nat}{r f:Int}
theorem Gx{g:Nat->Rat}{i:Nat}(hi:i<=n):fl n L f g i<=g i:=by
 rcases Nat.lt_or_ge i n with h|h
 ·cases e:L i with |none=>rw[lK h e];exact Rat.le_refl |some m=>rw[gT h e];exact bW _ _
 · have:i=n:=by omega
   subst this;rw[ur];exact Rat.le_refl
theorem Gy{g:Nat->Rat}(hf:0<=f)(h0:∀i,i<=n->0<=g i):∀i,i<=n->0<=fl n L f g i:=by
 refine down ?_ ?_
 ·rw[ur];exact h0 n (Nat.le_refl _)
 · intro i hi ih
   cases e:L i with |none=>rw[lK hi e];exact h0 i (by omega) |some m=>rw[gT hi e];exact g9 (h0 i (by omega)) (wI ih (DG hf))
end
end Pn
namespace Rn
open Pn Rt Ln
open Ow (topR ownF leadF Itm OkIs)
theorem jS{n:Nat}{a b:Int}(hb:b≠0)(h2:b.natAbs<2^n):(Rat.divInt a b).den<2^n:=by obtain⟨-,e⟩:=jQ (a:=a) hb;have l2:=Ar.qT (p:=a) hb;omega
structure Dd(D:Nat)(q:Rat):Prop where
 nn:0<=q
 den:q.den<2^D
theorem Dd.mono{D E:Nat}{q:Rat}(h:Dd D q)(l:D<=E):Dd E q:=⟨h.nn,Nat.lt_of_lt_of_le h.den (Nat.pow_le_pow_right (by decide) l)⟩
theorem Dd.bd{D:Nat}{q:Rat}(h:Dd D q)(hl:q<=2000):Bd (D+11) q:=by
 have h1:=Rat.num_nonneg.mpr h.nn;have h2':¬((2000:Rat)<q):=Rat.not_lt.mpr hl;rw[Rat.lt_iff]at h2';have e1:(2000:Rat).num=2000:=rfl;have e2:(2000:Rat).den=1:=rfl;rw[e1,e2]at h2';have h2:q.num<=2000*(q.den:Int):=by omega
 refine⟨?_,Nat.lt_of_lt_of_le h.den (Nat.pow_le_pow_right (by decide) (by omega))⟩;have h3:=h.den;have h4:q.num.natAbs<=2000*q.den:=by omega
 have h5:(2:Nat)^(D+11)=2^D*2048:=by rw[Nat.pow_add]
 rw[h5];have h6:2000*q.den<2000*2^D:=Nat.mul_lt_mul_of_pos_left h3 (by decide);omega
theorem Dd.mn{D:Nat}{a b:Rat}(h1:Dd D a)(h2:Dd D b):Dd D (mn a b):=by rcases gJ a b with e|e<;>rw[e]<;>assumption
theorem Dd.add{D:Nat}{q:Rat}(h:Dd D q){z:Int}(hz:0<=z):Dd D (q+(z:Rat)):=by
 refine⟨wI h.nn (by have:=Rat.intCast_le_intCast.mpr hz;exact this),?_⟩;rw[add_div,Rat.num_intCast,Rat.den_intCast];have e:(q.den:Int)*((1:Nat):Int)=(q.den:Int):=by omega
 rw[e];have hd:=q.den_pos;exact jS (by omega) (by have:=h.den;omega)
theorem wW{a b:Int}(ha:0<=a)(hb:0<b):0<=Rat.divInt a b:=(Rat.divInt_nonneg_iff_of_pos_right hb).mpr ha
theorem div_pos{a b:Int}(ha:0<a)(hb:0<b):0<Rat.divInt a b:=by
 have h0:=wW (Int.le_of_lt ha) hb;refine Std.lt_of_le_of_ne h0 fun e=>?_;have h2:0<=Rat.divInt (-a) b:=by rw[<-Rat.neg_divInt,<-e];decide
 have:=(Rat.divInt_nonneg_iff_of_pos_right hb).mp h2;omega
theorem Dd.mul{D m:Nat}{q:Rat}(h:Dd D q){a s:Int}(ha:0<=a)(hs:0<s)(hm:s.natAbs<2^m):Dd (D+m) (q*Rat.divInt a s):=by refine⟨Rat.mul_nonneg h.nn (wW ha hs),?_⟩;have h1:(Rat.divInt a s).den<2^m:=jS (by omega) hm;rw[mul_div];have hd:=q.den_pos;have hd2:=(Rat.divInt a s).den_pos;refine jS (mj _ _) ?_;rw[Int.natAbs_mul];exact ff (by have:=h.den;omega) (by omega)
theorem pJ(rate sp:Int):Dd 14 (topR rate sp):=⟨Ow.jR _ _,jS (by decide) (by decide)⟩
theorem mD{rate sp:Int}(h1:1<=sp)(h2:sp<=20)(h3:10<=rate)(h4:rate<=200):topR rate sp<=1600:=by
 have e:(1600:Rat)=Rat.divInt 16000000 10000:=by decide+kernel
 rw[e];refine(Cn.wF (by decide)).mpr ?_;have hp:sp*rate<=20*200:=Int.mul_le_mul h2 h4 (by omega) (by omega);have hp0:0<=sp*rate:=Int.mul_nonneg (by omega) (by omega);rw[Int.pow_succ,Int.pow_succ,Int.pow_zero,Int.one_mul];have:=Int.mul_le_mul hp hp hp0 (by decide);omega
theorem DK{j rate:Int}{os:List Itm}(h1:1<=j)(h2:j<=50)(h3:10<=rate)(h4:rate<=200)(ho:OkIs os)(i:Nat):Dd 64 (ownF j rate os i):=⟨Ow.rj _ _ _ _,(Ow.mC h1 h2 h3 h4 ho i).den⟩
theorem Gz{D n:Nat}{g:Nat->Rat}{L:Nat->Option Nat}{f:Int}(hf:0<=f)(h:∀i,i<=n->Dd D (g i)):∀i,i<=n->Dd D (fl n L f g i):=by
 refine down ?_ ?_
 ·rw[ur];exact h n (Nat.le_refl _)
 · intro i hi ih
   cases e:L i with |none=>rw[lK hi e];exact h i (by omega) |some m=>rw[gT hi e];exact(h i (by omega)).mn (ih.add (Int.mul_nonneg hf (by omega)))
theorem DL{j rate:Int}{o p:Itm}(h3:10<=rate)(h4:rate<=200)(ho:Ow.OkI o):Ow.betR j rate o p<=1600:=by cases o with |none=>rw[Ow.jF];decide+kernel |some q=>cases p with |none=>rw[Ow.fN];decide+kernel |some q'=>obtain⟨ns,sp⟩:=q;obtain⟨ms,sq⟩:=q';obtain⟨-,a1,a2⟩:=ho ns sp rfl;have ht:=mD a1 a2 h3 h4;show Ow.mnO (mn (topR rate sp) (topR rate sq)) (Ow.cornO j ns ms)<=1600;cases Ow.cornO j ns ms with |none=>exact Rat.le_trans (bW _ _) ht |some c=>exact Rat.le_trans (bW _ _) (Rat.le_trans (bW _ _) ht)
theorem DM{j rate:Int}{os:List Itm}(h3:10<=rate)(h4:rate<=200)(ho:OkIs os):∀i,ownF j rate os i<=1600 |0=>by show(0:Rat)<=1600;decide+kernel |i+1=>DL h3 h4 (ho i)
abbrev jT:=Option (Rat × Int × Int)
def gA(r f:Int)(pc top R:Rat)(left:Int):jT->Rat |none=>mn (mn (pc+(r:Rat)) top) (R+((f*(2*left-1):Int):Rat)) |some (sq,st,gn)=>mn (mn (mn (pc+(r:Rat)) top) (R+((f*(2*left-1):Int):Rat))) (sq*Rat.divInt (2*(st-gn-1)+1) (2*st))
def iV(r f:Int)(pc top R:Rat)(left:Int):jT->Rat |none=>mn (mn (pc+((2*r:Int):Rat)) top) (R+((2*f*(left-1):Int):Rat)) |some (sq,st,gn)=>mn (mn (mn (pc+((2*r:Int):Rat)) top) (R+((2*f*(left-1):Int):Rat))) (sq*Rat.divInt (st-gn-1) st)
def rC:jT->jT |none=>none |some (sq,st,gn)=>some (sq,st,gn+1)
def jG(D:Nat)(pc:Rat):jT->Prop |none=>True |some (sq,st,gn)=>0<=gn/\gn<=st/\st<=1000/\Dd D sq/\sq<=2000/\(st=0->pc=0)/\pc*(st:Rat)<=sq*((st-gn:Int):Rat)
def Halt(pc:Rat)(stp:jT):Prop:=stp≠none/\pc=0
theorem gb{D:Nat}{pc:Rat}{sq:Rat}{st gn:Int}(h:jG D pc (some (sq,st,gn)))(hp:0<=pc)(hn:¬Halt pc (some (sq,st,gn))):gn<st/\0<sq/\0<pc:=by
 obtain⟨g0,g1,g2,hd,hl,hz,hh⟩:=h;have hpc:0<pc:=Std.lt_of_le_of_ne hp fun e=>hn ⟨by simp,e.symm⟩;have hst:gn<st:=by
  rcases Int.lt_or_le gn st with h|h
  ·exact h
  · have e:st-gn=0:=by omega
    rw[e]at hh;have e0:sq*((0:Int):Rat)=0:=Rat.mul_zero sq;rw[e0]at hh;exfalso;rcases Int.lt_or_le 0 st with h3|h3
    · have h4:(0:Rat)<(st:Rat):=Rat.intCast_lt_intCast.mpr h3
      have h5:=Rat.mul_pos hpc h4;exact absurd (Std.lt_of_lt_of_le h5 hh) (Rat.lt_irrefl)
    ·rw[hz (by omega)]at hpc;exact absurd hpc (Rat.lt_irrefl)
 refine⟨hst,?_,hpc⟩;refine Std.lt_of_le_of_ne hd.nn fun e=>?_;rw[<-e,Rat.zero_mul]at hh;have h4:(0:Rat)<(st:Rat):=Rat.intCast_lt_intCast.mpr (show(0:Int)<st by omega);exact absurd (Std.lt_of_lt_of_le (Rat.mul_pos hpc h4) hh) (Rat.lt_irrefl)
section
variable {D:Nat}{r f:Int}{pc top R:Rat}{left:Int}{stp:jT}
theorem pK:iV r f pc top R left stp<=top:=by cases stp with |none=>exact Rat.le_trans (bW _ _) (cY _ _) |some q=>obtain⟨sq,st,gn⟩:=q;exact Rat.le_trans (bW _ _) (Rat.le_trans (bW _ _) (cY _ _))
theorem kz:gA r f pc top R left stp<=top:=by cases stp with |none=>exact Rat.le_trans (bW _ _) (cY _ _) |some q=>obtain⟨sq,st,gn⟩:=q;exact Rat.le_trans (bW _ _) (Rat.le_trans (bW _ _) (cY _ _))
theorem DN(hr:0<=r)(hf:0<=f)(hl:1<=left)(hp:Dd (D+10) pc)(ht:Dd (D+10) top)(hR:Dd (D+10) R)(hs:jG D pc stp)(hn:¬Halt pc stp):Dd (D+10) (iV r f pc top R left stp):=by have h1:=(hp.add (z:=2*r) (by omega)).mn ht;have h2:=hR.add (z:=2*f*(left-1)) (Int.mul_nonneg (by omega) (by omega));cases stp with |none=>exact h1.mn h2 |some q=>obtain⟨sq,st,gn⟩:=q;obtain⟨a,b,c⟩:=gb hs hp.nn hn;obtain⟨g0,g1,g2,hd,hl,hz,hh⟩:=hs;exact(h1.mn h2).mn (hd.mul (m:=10) (by omega) (by omega) (by omega))
theorem wX(hr:0<=r)(hf:0<=f)(hl:1<=left)(hp:Dd (D+10) pc)(ht:Dd (D+10) top)(hR:Dd (D+10) R)(hs:jG D pc stp)(hn:¬Halt pc stp):Dd (D+11) (gA r f pc top R left stp):=by have h1:=((hp.add (z:=r) (by omega)).mn ht).mono (show D+10<=D+11 by omega);have h2:=(hR.add (z:=f*(2*left-1)) (Int.mul_nonneg (by omega) (by omega))).mono (show D+10<=D+11 by omega);cases stp with |none=>exact h1.mn h2 |some q=>obtain⟨sq,st,gn⟩:=q;obtain⟨a,b,c⟩:=gb hs hp.nn hn;obtain⟨g0,g1,g2,hd,hl,hz,hh⟩:=hs;exact(h1.mn h2).mn (hd.mul (m:=11) (by omega) (by omega) (by omega))
theorem add_pos{x:Rat}{z:Int}(hx:0<=x)(hz:0<z):0<x+(z:Rat):=by have h1:((0:Int):Rat)<(z:Rat):=Rat.intCast_lt_intCast.mpr hz;have h2:x+((0:Int):Rat)<x+(z:Rat):=Rat.add_lt_add_left.mpr h1;rw[show((0:Int):Rat)=0 from rfl,Rat.add_zero]at h2;exact Std.lt_of_le_of_lt hx h2
theorem pL{a b:Rat}(ha:0<a)(hb:0<b):0<mn a b:=by rcases gJ a b with e|e<;>rw[e]<;>assumption
theorem wY(hr:1<=r)(hf:1<=f)(hl:1<=left)(hp:0<=pc)(ht:0<top)(hR:0<=R)(hs:jG D pc stp)(hn:¬Halt pc stp):0<gA r f pc top R left stp:=by have h1:=pL (pL (add_pos hp (show 0<r by omega)) ht) (add_pos hR (show 0<f*(2*left-1)from Int.mul_pos (by omega) (by omega)));cases stp with |none=>exact h1 |some q=>obtain⟨sq,st,gn⟩:=q;obtain⟨a,b,c⟩:=gb hs hp hn;obtain⟨g0,g1,g2,hd,hl,hz,hh⟩:=hs;exact pL h1 (Rat.mul_pos b (div_pos (by omega) (by omega)))
theorem nY(a:Int):Rat.divInt a 1=(a:Rat):=by
 conv=>rhs;rw[<-Rat.num_divInt_den (a:Rat)]
 rfl
theorem mE{a s:Int}(hs:0<s):Rat.divInt a s*(s:Rat)=(a:Rat):=by
 have e:(s:Rat)=Rat.divInt s 1:=by rw[nY]
 rw[e,Rat.divInt_mul_divInt _ _,Int.mul_one,Int.mul_comm a s];have e2:Rat.divInt (s*a) s=Rat.divInt (s*a) (s*1):=by rw[Int.mul_one]
 rw[e2,Rat.divInt_mul_left (by omega),nY]
theorem wZ(hs:jG D pc stp)(hp:0<=pc)(hn:¬Halt pc stp):jG D (iV r f pc top R left stp) (rC stp):=by cases stp with |none=>trivial |some q=>
   obtain⟨sq,st,gn⟩:=q;obtain⟨a,b,c⟩:=gb hs hp hn;obtain⟨g0,g1,g2,hd,hl,hz,hh⟩:=hs;refine⟨by omega,by omega,g2,hd,hl,fun e=>by omega,?_⟩;have h1:iV r f pc top R left (some (sq,st,gn))<=sq*Rat.divInt (st-gn-1) st:=cY _ _;have h2:(0:Rat)<=(st:Rat):=Rat.intCast_nonneg.mpr (by omega);have h3:=Rat.mul_le_mul_of_nonneg_right h1 h2;have h4:sq*Rat.divInt (st-gn-1) st*(st:Rat)=sq*((st-(gn+1):Int):Rat):=by rw[Rat.mul_assoc,mE (by omega)];congr 2;omega
   rw[h4]at h3;exact h3
end
end Rn
namespace L2
open PySem PySem.Spec PyProof.Rows
section
variable {κ : Type} [DecidableEq κ]
def fF(kvs:List (κ×V))(k:κ):Option V:=(kvs.find? fun kv=>decide (kv.1=k)).map (·.2)
def putK(kvs:List (κ×V))(k:κ)(v:V):List (κ×V):=if(kvs.any fun kv=>decide (kv.1=k))=true then kvs.map (fun kv=>if kv.1=k then(kv.1,v)else kv)else kvs++[(k,v)]
theorem kA{p:κ×V}{r:List (κ×V)}{k:κ}(e:p.1=k):fF (p::r) k=some p.2:=by simp[fF,List.find?_cons,e]
theorem kB{p:κ×V}{r:List (κ×V)}{k:κ}(e:¬p.1=k):fF (p::r) k=fF r k:=by simp[fF,List.find?_cons,e]
theorem nZ(k:κ):∀kvs:List (κ×V),(kvs.any fun kv=>decide (kv.1=k))=(fF kvs k).isSome
  |[]=>rfl |p::r=>by
    rw[List.any_cons];by_cases e:p.1=k
    ·simp only[kA e,decide_eq_true e,Bool.true_or,Option.isSome_some]
    ·rw[kB e,decide_eq_false e,Bool.false_or];exact nZ k r
theorem fO(kvs:List (κ×V))(k:κ)(v:V):(putK kvs k v).length<=kvs.length+1:=by
 unfold putK;split
 ·rw[List.length_map];omega
 ·rw[List.length_append,List.length_cons,List.length_nil];omega
theorem gY.ux{o:Option V}{u:Option Value}(r:gY o u):o.isSome=u.isSome:=by cases o with
 |none=>cases u with |none=>rfl |some _=>exact(show False from r).elim
 |some _=>cases u with |none=>exact(show False from r).elim |some _=>rfl
theorem KV.val{kvs:List (κ×V)}{vs:List (κ×Value)}(r:KV kvs vs)(k:κ):gY (fF kvs k) (valueAt vs k):=by unfold KV at r;induction r with |nil=>exact True.intro |@cons p q ps qs h t ih=>
   obtain⟨h1,h2⟩:=h;by_cases e:p.1=k
   · have e':q.1=k:=h1.symm.trans e
     have b:valueAt (q::qs) k=some q.2:=by simp[valueAt,List.find?_cons,e']
     rw[kA e,b];exact h2
   · have e':¬q.1=k:=fun z=>e (h1.trans z)
     have b:valueAt (q::qs) k=valueAt qs k:=by simp[valueAt,List.find?_cons,e']
     rw[kB e,b];exact ih
theorem KV.any{kvs:List (κ×V)}{vs:List (κ×Value)}(r:KV kvs vs)(k:κ):(kvs.any fun kv=>decide (kv.1=k))=vs.any fun kv=>decide (kv.1=k):=by unfold KV at r;induction r with |nil=>rfl |cons h t ih=>rw[List.any_cons,List.any_cons,ih,h.1]
theorem KV.DP{kvs:List (κ×V)}{vs:List (κ×Value)}(r:KV kvs vs)(k:κ){y:V}{u:Value}(ry:RelV y u): KV (kvs.map fun kv=>if kv.1=k then(kv.1,y)else kv) (vs.map fun kv=>if kv.1=k then(kv.1,u)else kv):=by unfold KV at r⊢;induction r with |nil=>exact .nil |@cons p q ps qs h t ih=>
    rw[List.map_cons,List.map_cons];refine .cons ?_ ih;obtain⟨h1,h2⟩:=h;by_cases e:p.1=k
    ·rw[if_pos e,if_pos (h1.symm.trans e)];exact⟨h1,ry⟩
    ·rw[if_neg e,if_neg (fun z=>e (h1.trans z))];exact⟨h1,h2⟩
theorem KV.put{kvs:List (κ×V)}{vs:List (κ×Value)}(r:KV kvs vs)(k:κ){y:V}{u:Value}(ry:RelV y u):KV (putK kvs k y) (stored vs k u):=by
 unfold putK stored;rw[r.any k];by_cases e:(vs.any fun kv=>decide (kv.1=k))=true
 ·rw[if_pos e,if_pos e];exact r.DP k ry
 ·rw[if_neg e,if_neg e];exact Paired.snoc r ⟨rfl,ry⟩
theorem KV.length{kvs:List (κ×V)}{vs:List (κ×Value)}(r:KV kvs vs):kvs.length=vs.length:=Paired.length r
end
theorem rE{P:Program}{w:World}{k:Key}{u:Value}(r:RelV (kV k) u):(cP P w).is k u=true:=by cases k with |inl i=>obtain⟨t,e⟩:=(show∃t,u=Value.int i t from r);subst e;exact mW P w i t |inr x=>obtain⟨t,e⟩:=(show∃t,u=Value.str x t from r);subst e;exact mX P w x t
theorem lM{P:Program}{w:World}:∀{ks:List Key}{us:List Value},Vals (ks.map kV) us->ItemsAre (cP P w) ks us |[],_,r=>by rw[List.map_nil]at r;cases r;exact .nil |k::ks,_,r=>by rw[List.map_cons]at r;cases r with |cons h t=>exact .cons (rE h) (lM t)
abbrev KT(H:Hp):List (List Key×V)->List (List Key×Addr×Value)->Prop:=Paired fun p q=>p.1=q.1/\H q.2.1=some (.tup (p.1.map kV))/\RelV p.2 q.2.2
theorem KT.val{H:Hp}{kvs:List (List Key×V)}{xs:List (List Key×Addr×Value)}(r:KT H kvs xs)(k:List Key):gY (fF kvs k) ((atKey xs k).map (·.2)):=by induction r with |nil=>exact True.intro |@cons p q ps qs h t ih=>
   obtain⟨h1,_,h2⟩:=h;by_cases e:p.1=k
   · have e':q.1=k:=h1.symm.trans e
     have b:atKey (q::qs) k=some q.2:=by simp[atKey,List.find?_cons,e']
     rw[kA e,b];exact h2
   · have e':¬q.1=k:=fun z=>e (h1.trans z)
     have b:atKey (q::qs) k=atKey qs k:=by simp[atKey,List.find?_cons,e']
     rw[kB e,b];exact ih
theorem KT.DP{H:Hp}{kvs:List (List Key×V)}{xs:List (List Key×Addr×Value)}(r:KT H kvs xs)(k:List Key){y:V}{u:Value}(ry:RelV y u): KT H (kvs.map fun kv=>if kv.1=k then(kv.1,y)else kv) (xs.map (putAt k u)):=by induction r with |nil=>exact .nil |@cons p q ps qs h t ih=>
    rw[List.map_cons,List.map_cons];refine .cons ?_ ih;obtain⟨h1,h2,h3⟩:=h;unfold putAt;by_cases e:p.1=k
    ·rw[if_pos e,if_pos (h1.symm.trans e)];exact⟨h1,h2,ry⟩
    ·rw[if_neg e,if_neg (fun z=>e (h1.trans z))];exact⟨h1,h2,h3⟩
theorem KT.put{H:Hp}{kvs:List (List Key×V)}{xs:List (List Key×Addr×Value)}(r:KT H kvs xs)(k:List Key){b:Addr}{y:V}{u:Value}(hb:H b=some (.tup (k.map kV)))(ry:RelV y u): KT H (putK kvs k y) (storedH xs k b u):=by
  have e:(kvs.any fun kv=>decide (kv.1=k))=(atKey xs k).isSome:=by rw[nZ,(r.val k).ux,Option.isSome_map]
  unfold putK storedH;rw[e];by_cases q:(atKey xs k).isSome=true
  ·rw[if_pos q,if_pos q];exact r.DP k ry
  ·rw[if_neg q,if_neg q];exact Paired.snoc r ⟨rfl,hb,ry⟩
theorem KT.keeps{H H':Hp}{kvs:List (List Key×V)}{xs:List (List Key×Addr×Value)}(r:KT H kvs xs)(ht:∀b ys,H b=some (.tup ys)->H' b=some (.tup ys)):KT H' kvs xs:=Paired.CO r fun _ _ z=>⟨z.1,ht _ _ z.2.1,z.2.2⟩
section
variable {P:Program}{w:World}{H:Hp}{h:Heap}{a:Addr}
theorem BH{u:HO}(ok:gZ P w H h)(e:Rd H a u):dh P w H h a u:=e.ok ok
theorem xb{kvs:List (Key×V)}(ok:gZ P w H h)(e:Rd H a (.dK kvs)):kvs.length<=sizeLine/\(a==sysModules)=false/\∃vs,KV kvs vs/\h.DictOf (cP P w) a vs:=show dh P w H h a (.dK kvs)from BH ok e
theorem BI{kvs:List (Key×V)}(ok:gZ P w H h)(e:H a=some (.dK kvs)):kvs.length<=sizeLine/\(a==sysModules)=false/\∃vs,KV kvs vs/\h.DictOf (cP P w) a vs:=xb ok (.inl e)
theorem pM{ks:List Key}(ok:gZ P w H h)(e:H a=some (.tup (ks.map kV))):(tupleKind (cP P w)).is h ks a:=by obtain⟨_,its,r,o,h1,h2,n,h3⟩:=(show dh P w H h a (.tup (ks.map kV))from ok a _ e);exact⟨o,its.toArray,n,h1,h2,h3,by simpa using lM r⟩
theorem xc{kvs:List (List Key×V)}(ok:gZ P w H h)(e:Rd H a (.dT kvs)):kvs.length<=sizeLine/\(a==sysModules)=false/\∃xs,KT H kvs xs/\h.DictOfH (tupleKind (cP P w)) a xs:=by
  obtain⟨z,y,xs,r,o,es,ep,h1,h2,h3,h4,h5⟩:=(show dh P w H h a (.dT kvs)from BH ok e);refine⟨z,y,xs,r,o,es,ep,h1,h2,h3,h4,fun x hx=>?_,h5⟩;have all:∀{l:List (List Key×V)}{m:List (List Key×Addr×Value)},KT H l m->∀x∈m,(tupleKind (cP P w)).is h x.1 x.2.1:=by intro l m q;induction q with |nil=>intro x hx;exact nomatch hx |@cons p q ps qs hq t ih=>
     intro x hx;rcases List.mem_cons.mp hx with e|hx
     · subst e
       exact pM ok (by rw[<-hq.1];exact hq.2.1)
     ·exact ih x hx
  exact all r x hx
theorem GA{kvs:List (List Key×V)}(ok:gZ P w H h)(e:H a=some (.dT kvs)):kvs.length<=sizeLine/\(a==sysModules)=false/\∃xs,KT H kvs xs/\h.DictOfH (tupleKind (cP P w)) a xs:=xc ok (.inl e)
end
def pN(H:Hp)(a:Addr)(y:V)(r:Option V):Prop:=(∃kvs k,Rd H a (.dK kvs)/\y=kV k/\r=fF kvs k)\/∃kvs k b,Rd H a (.dT kvs)/\y= .ref b/\H b=some (.tup (k.map kV))/\r=fF kvs k
def o3(H:Hp)(a:Addr)(y v:V)(H':Hp):Prop:=(∃kvs k,H a=some (.dK kvs)/\y=kV k/\kvs.length<sizeLine/\H'=upd H a (.dK (putK kvs k v)))\/ ∃kvs k b,H a=some (.dT kvs)/\y= .ref b/\H b=some (.tup (k.map kV))/\kvs.length<sizeLine/\H'=upd H a (.dT (putK kvs k v))
theorem pN.k{H:Hp}{a:Addr}{kvs:List (Key×V)}{k:Key}(e:H a=some (.dK kvs)):pN H a (kV k) (fF kvs k):=.inl ⟨kvs,k,.inl e,rfl,rfl⟩
theorem o3.k{H:Hp}{a:Addr}{kvs:List (Key×V)}{k:Key}{v:V}(e:H a=some (.dK kvs))(hl:kvs.length<sizeLine):o3 H a (kV k) v (upd H a (.dK (putK kvs k v))):=.inl ⟨kvs,k,e,rfl,hl,rfl⟩
section
variable {X:Cx}{pins:List (Addr×Obj)}{σ:St}{H:Hp}{s:Shared}{a:Addr}{y v:V}{u r:Value}{o:Option V}{A:Around}{E:Value->Shared->Prop}
theorem Inv.big(I:Inv X pins σ H s):sysModules<s.heap.objs.size:=by have h:mainGlobals<s.heap.objs.size:=(I.mod.glob.keeps I.bk).lt;exact Nat.lt_trans (by decide) h
theorem uy{Q:Value->Shared->Prop}(hu:A.units+1<cLine)(I:Inv X pins σ H s)(g:pN H a y (some v))(ry:RelV y u)(h:∀w' s',Inv X pins σ H s'->RelV v w'->Q w' s'): wpAny (model X.prog X.w) A (getItem (.ref a) u) Q E s:=by
  rcases g with⟨kvs,k,e,ey,l⟩|⟨kvs,k,b,e,ey,eb,l⟩
  · subst ey
    obtain⟨z,hd,vs,rel,dd⟩:=xb I.hok e;obtain⟨w',hw,rw'⟩:=gY.some_of (v:=v) (o:=valueAt vs k) (by rw[l];exact rel.val k);exact wpAny_getItem_of (rE ry) dd.mapOf hw (h w' _ (I.tok _) rw')
  · subst ey
    cases(show u=Value.ref b from ry);obtain⟨z,hd,xs,rel,dd⟩:=xc I.hok e;obtain⟨w',hw,rw'⟩:=gY.some_of (v:=v) (o:=(atKey xs k).map (·.2)) (by rw[l];exact rel.val k);obtain⟨p,hp,hp2⟩:=Option.map_eq_some_iff.mp hw;refine wpAny_getItem_heap (tupleKind_room_in1 hu) (pM I.hok eb) dd hp ?_;rw[hp2];exact h w' _ (I.tok _) rw'
theorem mF{h':Heap}{t':Nat}{ob:HO}(I:Inv X pins σ H s)(mu:FH (H a))(hs:Heap.SameBut a s.heap h')(he:∃q,h'.get? a=some q)(new:dh X.prog X.w (upd H a ob) h' a ob): Inv X pins σ (upd H a ob) {s with heap:=h',toks:=t'}:=I.write (x:=a) (e:=a) mu (.inl rfl) (fun b q hb z=>(hs.2 b hb).trans z) he new
theorem xf{P:Program}{w:World}{H':Hp}{h':Heap}{kvs:List (Key×V)}{vs:List (Key×Value)}(z:kvs.length<=sizeLine)(hd:(a==sysModules)=false)(rel:KV kvs vs)(dd:h'.DictOf (cP P w) a vs): dh P w H' h' a (.dK kvs):=⟨z,hd,vs,rel,dd⟩
theorem uz{H':Hp}{Q:Unit->Shared->Prop}(hu:A.units+1<cLine)(I:Inv X pins σ H s)(g:o3 H a y v H')(ry:RelV y u)(rv:RelV v r)(h:∀s',Inv X pins σ H' s'->Q () s'): wpAny (model X.prog X.w) A (setItem (.ref a) u r) Q E s:=by
  rcases g with⟨kvs,k,e,ey,l,eH⟩|⟨kvs,k,b,e,ey,eb,l,eH⟩
  · subst ey eH
    obtain⟨z,hd,vs,rel,dd⟩:=BI I.hok e;have hz:vs.length<=sizeLine:=by rw[<-rel.length];exact z
    have hl:(putK kvs k v).length<=sizeLine:=by have:=fO kvs k v;omega
    refine wpAny_setItem_pairs (hsz:=hz) (rE ry) dd fun h' dd' hs=>h _ ?_;have he:∃q,h'.get? a=some q:=let⟨q,_,_,hq,_⟩:=dd';⟨q,hq⟩;exact mF I (by rw[e];exact True.intro) hs he (xf hl hd (rel.put k rv) dd')
  · subst ey eH
    cases(show u=Value.ref b from ry);obtain⟨z,hd,xs,rel,dd⟩:=GA I.hok e;have hz:xs.length<=sizeLine:=by rw[<-Paired.length rel];exact z
    have hl:(putK kvs k v).length<=sizeLine:=by have:=fO kvs k v;omega
    refine wpAny_setItem_heap (hsz:=hz) (tupleKind_room_in1 hu) (pM I.hok eb) dd fun h' dd' hs=>h _ ?_;obtain⟨q,es,ep,hq,h2,h3,h4,_,h5⟩:=dd';refine mF I (by rw[e];exact True.intro) hs ⟨q,hq⟩ ⟨hl,hd,_,(rel.put k eb rv).keeps fun c ys ec=>?_,q,es,ep,hq,h2,h3,h4,h5⟩;rw[aj (mY ec e (fun z=>nomatch z))];exact ec
end
section
variable {X:Cx}{pins:List (Addr×Obj)}{σ:St}{H:Hp}{s:Shared}{a:Addr}{kvs:List (Key×V)}{k:Key}{u:Value}{A:Around}{E:Value->Shared->Prop}
end
def GB(i:Expr):Prop:=∀ov iv,subscripted i false ov iv=operate [ov,iv] (getItem ov iv)
theorem Ae{prog:Program}{w:World}{A:Around}{E:Value->Shared->Prop}{s:Shared}{env:Env}{value slice:Expr}{pos:Pos}{T id:String}{Q:Value->Shared->Prop} (hl:typeLookup (.type T) "__getitem__"=pure (some (.builtin id)))(hs:GB slice) (h:wpAny (model prog w) A (eval value env) (fun o s₁=>wpAny (model prog w) A (eval slice env) (fun i s₂=>s₂.TypeIs o T/\wpAny (model prog w) A (getItem o i) Q E s₂) E s₁) E s): wpAny (model prog w) A (eval (.Subscript value slice pos) env) Q E s:=by
  refine Subscript_ (wpAny_mono h (fun o s₁ h₁=>wpAny_mono h₁ (fun i s₂ h₂=>?_) fun _ _ x=>x) fun _ _ x=>x);obtain⟨hT,h₂⟩:=h₂;unfold subscriptTail;refine wpAny_bind ?_;rw[getitemInPython_of_ne hT.not_modules];refine wpAny_bind (wpAny_specialOf hT hl ?_);have fin:wpAny (model prog w) A (subscripted slice false o i) (fun r s₃=>wpAny (model prog w) A (letTemporaryGo value o r>>=fun _=>pure r) Q E s₃) E s₂:=by rw[hs o i];exact wpAny_operating (wpAny_mono h₂ (fun r s₃ h₃=>wpAny_bind (wpAny_letTemporaryGo (wpAny_pure h₃))) fun _ _ x=>x)
  first |exact wpAny_pure (wpAny_bind fin) |exact wpAny_bind (wpAny_pure (wpAny_bind fin)) |exact wpAny_bind fin
theorem o4{X:Cx}{pins:List (Addr×Obj)}{σ:St}{H:Hp}{s:Shared}{a:Addr}{y:V}{o:Option V}(I:Inv X pins σ H s)(g:pN H a y o):s.TypeIs (.ref a) "dict":=by
 rcases g with⟨kvs,k,e,_,_⟩|⟨kvs,k,b,e,_,_,_⟩
 · obtain⟨_,_,vs,_,dd⟩:=xb I.hok e
   exact dd.typeIs
 · obtain⟨_,_,xs,_,dd⟩:=xc I.hok e
   exact dd.typeIs
inductive xg(Q:VK)(x:V)(y:V)(H2:Hp):Prop |mk (a:_)(v:_)(h0:x= .ref a)(h1:pN H2 a y (some v))(h2:Q v H2):xg Q x y H2
def GC(td ty:TE):TE:=fun σ H Q=>td σ H fun x H1=>ty σ H1 fun y H2=>xg Q x y H2
inductive xh(D:Ends)(σ:St)(v:V)(x:V)(y:V)(H3:Hp):Prop |mk (a:_)(H4:_)(h0:x= .ref a)(h1:o3 H3 a y v H4)(h2:D.nx σ H4):xh D σ v x y H3
def GD(td ty tv:TE):TS:=fun D σ H=>tv σ H fun v H1=>td σ H1 fun x H2=>ty σ H2 fun y H3=>xh D σ v x y H3
section
variable {X:Cx}{o i e value:Expr}{pos pos' tpos:Pos}{td ty tv:TE}
theorem aU(hu:X.A.units+1<cLine)(ho:PE X o td)(hi:PE X i ty)(hs:GB i):PE X (.Subscript o i pos) (GC td ty):=by intro pins s σ H Q I h;refine Ae PySem.F.slot_dict_getitem.lookup hs (cn (ho pins s σ H _ I h) fun u s1 ⟨x,H1,I1,rx,q1⟩=>cn (hi pins s1 σ H1 _ I1 q1) fun iv s2 ⟨y,H2,I2,ry,a,v,ex,g,q2⟩=>?_);subst ex;obtain rfl:u=Value.ref a:=rx;exact⟨o4 I2 g,uy hu I2 g ry fun w' s3 I3 rw'=>⟨v,H2,I3,rw',q2⟩⟩
theorem bZ(hu:X.A.units+1<cLine)(ho:PE X o td)(hi:PE X i ty)(hv:PE X value tv)(hs:swapsWith value (some (.Subscript o i pos')) pos.line X.env=pure false): PS X (.Assign [.Subscript o i pos'] value pos) (GD td ty tv):=by intro pins s σ H D I h;refine wpAny_Assign_Subscript (cn (hv pins s σ H _ I h) fun r s1 ⟨v,H1,I1,rv,q1⟩=>cn (ho pins s1 σ H1 _ I1 q1) fun u s2 ⟨x,H2,I2,rx,q2⟩=>cn (hi pins s2 σ H2 _ I2 q2) fun iv s3 ⟨y,H3,I3,ry,a,H4,ex,g,q3⟩=>?_) hs;subst ex;obtain rfl:u=Value.ref a:=rx;exact uz hu I3 g ry rv fun s4 I4=>⟨σ,H4,I4,q3⟩
end
theorem xi{P:Program}{w:World}{H:Hp}(h:Heap)(hb:sysModules<h.objs.size):dh P w H (h.push {cls:=.type "dict",data:=.dict #[]}) h.objs.size (.dK []):=⟨Nat.zero_le _,beq_eq_false_iff_ne.mpr (Ne.symm (Nat.ne_of_lt hb)),[],.nil,Heap.DictOf.new h⟩
section
variable {X:Cx} {pos:Pos}
end
def pO:List (TE×TE)->St->Hp->(List (V×V)->Hp->Prop)->Prop |[],_,H,Q=>Q [] H |(tk,tv)::r,σ,H,Q=>tk σ H fun x H1=>tv σ H1 fun y H2=>pO r σ H2 fun ps H3=>Q ((x,y)::ps) H3
abbrev VV:List (V×V)->List (Value×Value)->Prop:=Paired fun p q=>RelV p.1 q.1/\RelV p.2 q.2
def Iu(X:Cx)(pos:Pos)(keys:List (Option Expr))(values:List Expr)(trs:List (TE×TE)):Prop:=∀(pins:List (Addr×Obj))(s:Shared)(σ:St)(H:Hp)(Q:List (V×V)->Hp->Prop),Inv X pins σ H s->pO trs σ H Q->wpAny (model X.prog X.w) X.A (evalPairs (pairTrees keys values X.env pos)) (fun vs s'=>∃ps H',Inv X pins σ H' s'/\VV ps vs/\Q ps H') X.xe s
theorem Af{X:Cx}{pos:Pos}:Iu X pos [] [] []:=fun pins s σ H Q I h=>pairTrees_nil_walk ⟨[],H,I,.nil,h⟩
theorem iW{X:Cx}{pos:Pos}{k v:Expr}{ks:List (Option Expr)}{vs:List Expr}{tk tv:TE}{trs:List (TE×TE)}(hk:PE X k tk)(hv:PE X v tv)(hr:Iu X pos ks vs trs): Iu X pos (some k::ks) (v::vs) ((tk,tv)::trs):=fun pins s σ H Q I h=>pairTrees_cons_walk (cn (hk pins s σ H _ I h) fun u s1 ⟨x,H1,I1,rx,q1⟩=>cn (hv pins s1 σ H1 _ I1 q1) fun w2 s2 ⟨y,H2,I2,ry,q2⟩=>cn (hr pins s2 σ H2 _ I2 q2) fun ws s3 ⟨ps,H3,I3,rel,q3⟩=>⟨(x,y)::ps,H3,I3,.cons ⟨rx,ry⟩ rel,q3⟩)
def gK(kvs more:List (Key×V)):List (Key×V):=more.foldl (fun acc kv=>putK acc kv.1 kv.2) kvs
theorem KV.merge:∀{more:List (Key×V)}{rs:List (Key×Value)}{kvs:List (Key×V)}{vs:List (Key×Value)},KV more rs->KV kvs vs->KV (gK kvs more) (merged vs rs):=by intro more rs kvs vs r;unfold KV at r;induction r generalizing kvs vs with |nil=>intro q;exact q |@cons p q ps qs h t ih=>
   intro r0;have e:KV (putK kvs p.1 p.2) (stored vs q.1 q.2):=by have:=r0.put p.1 h.2;rw[<-h.1];exact this
   exact ih e
theorem iu:∀(more kvs:List (Key×V)),(gK kvs more).length<=kvs.length+more.length |[],kvs=>by show kvs.length<=kvs.length+0;omega |p::r,kvs=>by have h1:=iu r (putK kvs p.1 p.2);have h2:=fO kvs p.1 p.2;show(gK (putK kvs p.1 p.2) r).length<=_;rw[List.length_cons];omega
theorem kC{P:Program}{w:World}:∀{kvs:List (Key×V)}{ws:List (Value×Value)},VV (kvs.map fun kv=>(kV kv.1,kv.2)) ws->∃rs,Carries (cP P w) ws rs/\KV kvs rs |[],_,r=>by rw[List.map_nil]at r;cases r;exact⟨[],True.intro,.nil⟩ |p::kvs,_,r=>by rw[List.map_cons]at r;cases r with |@cons a b as bs h t=>obtain⟨rs,c,q⟩:=kC (P:=P) (w:=w) t;obtain⟨b1,b2⟩:=b;exact⟨(p.1,b2)::rs,⟨rE h.1,rfl,c⟩,.cons ⟨rfl,h.2⟩ q⟩
def GF(trs:List (TE×TE)):TE:=fun σ H Q=>∀p,H p=none->pO trs σ (upd H p (.dK [])) fun ps H2=>H2 p=some (.dK [])/\∃kvs:List (Key×V),ps=kvs.map (fun kv=>(kV kv.1,kv.2))/\kvs.length<=15/\Q (.ref p) (upd H2 p (.dK (gK [] kvs)))
theorem Ag{X:Cx}{pos:Pos}{keys:List (Option Expr)}{values:List Expr}{trs:List (TE×TE)}(h:Iu X pos keys values trs)(hall:keys.all (·.isSome)=true)(hl:keys.length=values.length)(h0:keys≠[]) (h15:keys.length<=15):PE X (.Dict keys values pos) (GF trs):=by
  intro pins s σ H Q I q;have hn:=I.hok.fresh (Nat.le_refl s.heap.objs.size);have I1:=I.laid (a:=s.heap.objs.size) (o:=.dK []) (h':=s.heap.push {cls:=.type "dict",data:=.dict #[]}) (t':=s.toks) (fun _ _ q=>Heap.get?_push_of_some _ q) (Nat.le_refl _) (xi s.heap I.big);refine wpAny_Dict_walk (knd:=cP X.prog X.w) hall hl h0 h15 (cn (h pins _ σ _ _ I1 (q _ hn)) fun ws s2 ⟨ps,H2,I2,rel,e,kvs,ep,lk,q2⟩=>?_);subst ep;obtain⟨rs,c,rk⟩:=kC (P:=X.prog) (w:=X.w) rel;obtain⟨z,hd,vs0,r0,dd⟩:=BI I2.hok e;cases r0;refine⟨rs,c,dd,fun h' dd' hs=>⟨.ref s.heap.objs.size,_,?_,rfl,q2⟩⟩;have hz:(gK [] kvs).length<=sizeLine:=by have h1:=iu kvs [];rw[List.length_nil]at h1;rw[sizeLine_eq];omega
  have he:∃q,h'.get? s.heap.objs.size=some q:=let⟨q,_,_,hq,_⟩:=dd';⟨q,hq⟩;exact mF I2 (by rw[e];exact True.intro) hs he (xf hz hd (rk.merge .nil) dd')
section
variable {X:Cx}{pins:List (Addr×Obj)}{σ:St}{H:Hp}{s:Shared}{a:Addr}{y d:V}{u r:Value}{o:Option V}{A:Around}{E:Value->Shared->Prop}
end
section
variable {X:Cx}{o e f:Expr}{apos cpos:Pos}{td ty tx:TE}
end
section
variable {X:Cx}{pins:List (Addr×Obj)}{σ:St}{H:Hp}{s:Shared}{a:Addr}{kvs:List (Key×V)}{A:Around}{E:Value->Shared->Prop}
end
section
variable {X:Cx}{pins:List (Addr×Obj)}{σ:St}{H:Hp}{s:Shared}{a:Addr}{y:V}{u:Value}{A:Around}{E:Value->Shared->Prop}
end
end L2
namespace L2
open PySem PySem.Spec PyProof.Rows
section
variable {X:Cx}
end
theorem DQ{K:PySem.W.Frag}{mg:Str->Option Value}{x z:Str}{t:Tok}{h:Heap}(X:K.In h)(G:h.Ns mainGlobals mg)(a:PySem.W.nsIn K mainGlobals x=some (some (.str z t))):GV mg x (.str z):=⟨_,PySem.W.mg_of X G a,t,rfl⟩
end L2
set_option exponentiation.threshold 6000
namespace L2
open PySem PySem.Spec PyProof.Rows
section
variable {X:Cx}
theorem uA:cM X (.type "str") (fun xs H Q=>(∃i,xs=[.int i]/\i.natAbs.log2<1920/\Q (.str (toString i)) H)\/∃z,xs=[.str z]/\Q (.str z) H):=by
 intro pins s σ H xs us Q I r h;rcases h with⟨i,rfl,hz,q⟩|⟨z,rfl,q⟩
 · obtain⟨u,rfl,t,rfl⟩:=vals1 r
   exact PySem.P.str_of_int hz ⟨.str _,H,I.tok _,⟨_,rfl⟩,q⟩
 · obtain⟨u,rfl,t,rfl⟩:=vals1 r
   exact PySem.P.str_of_str ⟨.str _,H,I,⟨_,rfl⟩,q⟩
theorem Ah{i:Int}(h:i.natAbs<10^40):(Str.ofString (toString i)).length<=41:=by rw[PySem.ofString_length];exact int_text_length_le10 (k:=40) (by decide) h
theorem DR{i:Int}(h:i.natAbs<10^40):i.natAbs.log2<1920:=by
 by_cases h0:i.natAbs=0
 ·rw[h0];decide
 ·exact(Nat.log2_lt h0).mpr (Nat.lt_trans h (by decide))
end
end L2
namespace Tu
open Ln
end Tu
namespace Pn
theorem rF(a b:Rat):mn a b=mn b a:=Rat.le_antisymm (g9 (cY _ _) (bW _ _)) (g9 (cY _ _) (bW _ _))
section
variable {n:Nat}{own own':Nat->Rat}{L L':Nat->Option Nat}{r f:Int}
end
end Pn
namespace Ow
open Pn Ln Cn Tu
end Ow
namespace Lw
open PySem PySem.Spec PyProof.Rows L2
def top(i:Nat):Stmt:=PySem.Challenge.pw_glidequeue_k44_two_runners.main.body.getD i (.Pass ⟨0,0,0,0⟩)
section
variable {P:Program}{w:World}{K:PySem.W.Frag}{mg:Str->Option Value}{base:Heap}
inductive rH(vs:List V)(H:Hp)(Q:VK):Prop |mk (p:_)(many:_)(h0:vs=[.ref p,.int many])(h1:fD H p)(h2:1<=many)(h3:many<=10^40)(h4:∀d H',0<=d->d<many->bR p H H'->Q (.int d) H'):rH vs H Q
def jq:Sp:=fun vs H Q _=>rH vs H Q
abbrev xj:Stmt:=top 66
theorem xk:aH ["_law_bag_here","_law_many","_law_digit","_law_number_here","_law_room"] ["_law_bag_here","_law_many"] (ao xj):=⟨rfl,rfl,rfl,by decide+kernel,rfl,by decide+kernel,by decide+kernel⟩
theorem Ai(F:FA K mg "_law_take" xj)(B:dv mg):aw P w K mg base "_law_take" 1 jq:=by
 refine F.has xk (fun vs H Q E h=>?_) (fun _ _ _ _ _ _ us hl=>match us,hl with|[_,_],_=>rfl) (fun f cdv A outer s H vs Q E hr h=>?_)
 · obtain⟨p,many,rfl,_⟩:=h
   rfl
 · obtain⟨p,many,rfl,⟨c,m,hp,ok⟩,h1,h2,k⟩:=h
   obtain⟨c0,m0,m1⟩:=id ok;have nd:=xk.nd;refine⟨_,(ag (aR (aO ka (aM (cw K rfl) (pv 0) ah (fun _ _=>rfl)) ah (aK _)) (ag (aF (i:=2) nd rfl (Or.inl rfl) (az gq (aM (cw K rfl) (pv 0) ah (fun _ _=>rfl)) (pv 1))) (ag (cx (az du (aM (cw K rfl) (pv 0) ah (fun _ _=>rfl)) (pv 1)) (iA (pv 0) ah set_list)) (ai (aB (pv 2))))) aL) (ag (aF (i:=3) nd rfl (Or.inl rfl) ah) (ag (aF (i:=4) nd rfl (Or.inl rfl) ah) (ag (dQ PassesOwn.never (aO ft (pv 4) (pv 1) (aK _)) (ag (cx (az gq (az jb (az bo (az aG (aM (cw K rfl) (pv 0) ah (fun _ _=>rfl)) ah) ah) ah) ah) (iA (pv 0) ah set_list)) (ag (aF (i:=3) nd rfl (Or.inl rfl) (az bo (az aG (pv 3) ah) (az gq (az aG (az du (aM (cw K rfl) (pv 0) ah (fun _ _=>rfl)) ah) ah) ah))) (ai (aF (i:=4) nd rfl (Or.inl rfl) (az aG (pv 4) ah)))))) (ai (aB (az gq (pv 3) (pv 1)))))))),?_⟩;refine⟨_,rfl,.inl ⟨p,_,0,.int c,rfl,rfl,bc.of hp,rfl,_,_,rfl,rfl,_,rfl,?_⟩⟩;refine dk (fun hc=>?_) (fun _=>?_)
   · refine⟨_,rfl,.inl ⟨p,_,0,.int c,rfl,rfl,bc.of hp,rfl,_,rfl,_,_,rfl,rfl,h1,?_⟩⟩
     refine⟨_,rfl,.inl ⟨p,_,0,.int c,rfl,rfl,bc.of hp,rfl,_,rfl,_,_,rfl,rfl,⟨h1,Gk (by omega) h2⟩,?_⟩⟩;refine⟨_,rfl,p,_,0,0,rfl,rfl,hp,rfl,?_⟩;refine⟨_,rfl,?_⟩;exact k _ _ (Int.emod_nonneg _ (by omega)) (Int.emod_lt_of_pos _ (by omega)) (bR.upd ⟨Int.ediv_nonneg c0 (by omega),m0,m1⟩)
   · refine dR (fun σ H2=>∃(v:Option V)(n r:Int),σ=[some (.ref p),some (.int many),v,some (.int n),some (.int r)]/\bR p H H2/\1<=r) (fun σ _=>match σ with|[_,_,_,_,some (.int r)]=>(many-r).toNat|_=>0) ?_ ?_ ?_
     ·exact⟨none,0,1,rfl,.refl ⟨c,m,hp,ok⟩,Int.le_refl _⟩
     · rintro σ H2 ⟨v,n,r,rfl,bx,hr1⟩
       obtain⟨c',m',hp',c0',m0',m1'⟩:=id bx.bag;refine⟨_,rfl,_,rfl,_,_,rfl,rfl,_,rfl,?_⟩;refine dk (fun hc=>?_) (fun hc=>?_)
       · have hlt:r<many:=of_decide_eq_true hc
         refine⟨_,rfl,.inl ⟨p,_,1,.int m',rfl,rfl,bc.of hp',rfl,_,_,rfl,rfl,.of_right (intBits_le_64 (by decide) (by decide)),_,_,rfl,rfl,_,_,rfl,rfl,⟨by decide,by decide,?_⟩,_,_,rfl,rfl,(by show(0:Int)<2147483629;decide),?_⟩⟩
         · have h64:(2:Nat)^64=18446744073709551616:=by decide
           rw[h64];omega
         refine⟨_,rfl,p,_,1,1,rfl,rfl,hp',rfl,?_⟩;have g0:0<=((m'*48271+7919)^(5:Int).toNat)%2147483629:=Int.emod_nonneg _ (by decide);have g1:((m'*48271+7919)^(5:Int).toNat)%2147483629<2147483629:=Int.emod_lt_of_pos _ (by decide);have bx2:bR p H (L2.upd H2 p (.lst [.int c',.int (((m'*48271+7919)^(5:Int).toNat)%2147483629)])):=bx.trans (.upd ⟨c0',g0,Int.lt_trans g1 (by decide)⟩);refine⟨_,rfl,_,_,rfl,rfl,.of_right (intBits_le_64 (by decide) (by decide)),_,rfl,.inl ⟨p,_,1,.int _,rfl,rfl,bc.of au,rfl,_,_,rfl,rfl,⟨by decide,Gk (by decide) (by decide)⟩,_,_,rfl,rfl,.of_right (intBits_le_64 (by decide) (by decide)),_,_,rfl,rfl,(by show(0:Int)<1073741789;decide),_,_,rfl,rfl,?_⟩⟩;refine⟨_,rfl,_,_,rfl,rfl,.of_right (intBits_le_64 (by decide) (by decide)),?_⟩;refine⟨⟨v,_,_,rfl,bx2,?_⟩,?_⟩
         ·omega
         · show(many-r*1073741789).toNat<(many-r).toNat
           omega
       · refine⟨_,rfl,_,rfl,_,_,rfl,rfl,h1,?_⟩
         exact k _ _ (Int.emod_nonneg _ (by omega)) (Int.emod_lt_of_pos _ (by omega)) bx
     · rintro σ H2 Q1 Q2 hq ⟨v1,e1,v2,e2,i,j,e3,e4,kk,e5,q⟩
       exact⟨v1,e1,v2,e2,i,j,e3,e4,kk,e5,hq _ _ q⟩
end
end Lw
namespace Lw
open PySem PySem.Spec PyProof.Rows L2
section
variable {P:Program}{w:World}{K:PySem.W.Frag}{mg:Str->Option Value}{base:Heap}
inductive xn(K:PySem.W.Frag)(vs:List V)(H:Hp)(Q:VK):Prop |mk (a:Addr)(ns:List Int)(at':Int)(h0:vs=[.ref a,.int at'])(h1:bc K H a (ns.map V.int))(h2:ns.length<=63)(h3:0<=at')(h4:at'<=100)(h5:∀p H',H p=none->fD H' p->aI H H'->Q (.ref p) H'):xn K vs H Q
def BJ(K:PySem.W.Frag):Sp:=fun vs H Q _=>xn K vs H Q
abbrev DS:Stmt:=top 65
theorem BK:aH ["_law_script","_law_at","_law_cell","_law_mix","_law_k"] ["_law_script","_law_at"] (ao DS):=⟨rfl,rfl,rfl,by decide+kernel,rfl,by decide+kernel,by decide+kernel⟩
theorem rJ{ns:List Int}{j:Nat}(h:j<ns.length):∃z,jJ (ns.map V.int) (j:Int)=some (.int z):=⟨ns[j],zQ (by simp[h])⟩
theorem DT(F:FA K mg "_law_bag" DS)(B:dv mg):aw P w K mg base "_law_bag" 1 (BJ K):=by
 refine F.has BK (fun vs H Q E h=>?_) (fun _ _ _ _ _ _ us hl=>match us,hl with|[_,_],_=>rfl) (fun f cdv A outer s H vs Q E hr h=>?_)
 · obtain⟨a,ns,at',rfl,_⟩:=h
   rfl
 · obtain⟨a,ns,at',rfl,hS,hlen,h0,h1,k⟩:=h
   obtain⟨j,rfl⟩:∃j:Nat,at'=(j:Int):=⟨at'.toNat,by omega⟩;have nd:=BK.nd;refine⟨_,(ag (aF (i:=2) nd rfl (Or.inl rfl) ah) (ag (cL (aR (aO ft (pv 1) (ak (x:="len") (dw K rfl) rfl (B.at "len") PySem.boot_len (aa (pv 0) af)) (aK _)) (ai (aF (i:=2) nd rfl (Or.inl rfl) (ak (x:="abs") dS rfl (B.at "abs") PyProof.Rows.boot_abs (aa (aM (cw K rfl) (pv 0) (pv 1) (fun _ _=>rfl)) af)))) aL)) (ag (aF (i:=3) nd rfl (Or.inl rfl) (az bo (az bo (az aG (az aG ah (pv 1)) (pv 1)) (az aG ah (pv 1))) ah)) (ag (fc PassesOwn.never rfl (fV rfl (B.at "range") (aa (ak (x:="min") (jd rfl) rfl (B.at "min") PyProof.Rows.boot_min (aa (ak (x:="len") (dw K rfl) rfl (B.at "len") PySem.boot_len (aa (pv 0) af)) (aa ah af))) af)) (aA (i:=4) nd rfl (Or.inl rfl)) (ai (aF (i:=3) nd rfl (Or.inl rfl) (az gq (az jb (az bo (az bo (az aG (pv 3) ah) (az gq (aM (cw K rfl) (pv 0) (pv 4) (fun _ _=>rfl)) ah)) (az aG (pv 4) (pv 4))) ah) ah)))) (ag (cL (aR (aO ft (pv 2) (az jb ah ah) (aK _)) (ai (aF (i:=2) nd rfl (Or.inl rfl) ah)) aL)) (ai (aB (bE (aa (pv 2) (aa (pv 3) af)))))))))),?_⟩;refine⟨fun σ H'=>H'=H/\∃c:Int,σ=[some (.ref a),some (.int (j:Int)),some (.int c),none,none]/\0<=c,?_,?_⟩
   · refine⟨_,rfl,_,rfl,a,_,rfl,.inl hS,_,_,rfl,rfl,_,rfl,?_⟩
     refine dk (fun hc=>?_) (fun _=>?_)
     · have hj:(j:Int)<((ns.map V.int).length:Int):=of_decide_eq_true hc
       rw[List.length_map]at hj;obtain⟨z,hz⟩:=rJ (ns:=ns) (j:=j) (by omega);refine⟨_,rfl,_,rfl,.inl ⟨a,_,_,_,rfl,rfl,hS,hz,z,rfl,?_⟩⟩;exact⟨rfl,_,rfl,by split<;>omega⟩
     ·exact⟨rfl,0,rfl,Int.le_refl _⟩
   rintro σ H' ⟨rfl,c,rfl,c0⟩;refine⟨_,rfl,_,_,rfl,rfl,.of_left (intBits_le_64 (by decide) (by decide)),_,rfl,_,_,rfl,rfl,.of_right (intBits_le_64 (by omega) (by omega)),_,rfl,_,_,rfl,rfl,.of_left (intBits_le_64 (by decide) (by decide)),_,_,rfl,rfl,_,_,rfl,rfl,?_⟩;refine⟨_,rfl,a,_,rfl,.inl hS,_,_,rfl,_,rfl,?_,?_,?_⟩
   ·split<;>omega
   ·split<;>(try rw[List.length_map])<;>omega
   refine fW (Pv:=fun i σ H2=>H2=H'/\∃(m:Int)(v:Option V),σ=[some (.ref a),some (.int (j:Int)),some (.int c),some (.int m),v]/\0<=m/\m<2147483648) ?_ ?_ ?_
   · refine⟨rfl,_,none,rfl,?_,?_⟩
     · have:(0:Int)<=(j:Int)*(j:Int):=Int.mul_nonneg (by omega) (by omega)
       rw[Int.mul_assoc];omega
     · have:(j:Int)*(j:Int)<=100*100:=Int.mul_le_mul (by omega) (by omega) (by omega) (by omega)
       rw[Int.mul_assoc];omega
   · rintro i σ H2 hi ⟨rfl,m,v,rfl,m0,m1⟩
     have hi':i<ns.length:=by rw[List.length_map]at hi;split at hi<;>omega
     obtain⟨z,hz⟩:=rJ (ns:=ns) (j:=i) hi';rw[<-Int.zero_add (i:Int)]at hz;have hz0:0<=z%2147483647:=Int.emod_nonneg _ (by decide);have hz1:z%2147483647<2147483647:=Int.emod_lt_of_pos _ (by decide);have hii0:(0:Int)<=(0+(i:Int))*(0+(i:Int)):=Int.mul_nonneg (by omega) (by omega);have hii:(0+(i:Int))*(0+(i:Int))<=100*100:=Int.mul_le_mul (by omega) (by omega) (by omega) (by omega);refine⟨_,rfl,_,_,rfl,rfl,.of_right (intBits_le_64 (by decide) (by decide)),_,rfl,_,rfl,.inl ⟨a,_,_,_,rfl,rfl,hS,hz,_,_,rfl,rfl,(by show(0:Int)<2147483647;decide),_,_,rfl,rfl,_,rfl,_,rfl,_,_,rfl,rfl,.of_right (intBits_le_64 (by omega) (by omega)),_,_,rfl,rfl,_,_,rfl,rfl,⟨by decide,by decide,?_⟩,_,_,rfl,rfl,(by show(0:Int)<2147483629;decide),?_⟩⟩
     · have h64:(2:Nat)^64=18446744073709551616:=by decide
       rw[h64];generalize(0+(i:Int))*(0+(i:Int))=ii at hii0 hii⊢;generalize z%2147483647=zz at hz0 hz1⊢;omega
     ·exact⟨rfl,_,_,rfl,Int.emod_nonneg _ (by decide),Int.lt_trans (Int.emod_lt_of_pos _ (by decide)) (by decide)⟩
   · rintro σ H2 ⟨rfl,m,v,rfl,m0,m1⟩
     refine⟨fun σ H3=>H3=H2/\∃c:Int,σ=[some (.ref a),some (.int (j:Int)),some (.int c),some (.int m),v]/\0<=c,?_,?_⟩
     · refine⟨_,rfl,_,_,rfl,rfl,⟨by decide,by decide,by decide⟩,_,_,rfl,rfl,_,rfl,?_⟩
       refine dk (fun hc=>?_) (fun _=>?_)
       ·exact⟨rfl,0,rfl,Int.le_refl _⟩
       ·exact⟨rfl,c,rfl,c0⟩
     rintro σ H3 ⟨rfl,c,rfl,c0⟩;refine⟨_,rfl,_,rfl,(by show 2<=sizeLine;decide),fun p H4 nw=>?_⟩;exact k p H4 nw.no ⟨c,m,nw.at',c0,m0,m1⟩ nw.same
inductive xo(vs:List V)(H:Hp)(Q:VK):Prop |mk (a:Int)(b:Int)(h0:vs=[.int a,.int b])(h1:Q (.int (Int.gcd a b)) H):xo vs H Q
def xp:Sp:=fun vs H Q _=>xo vs H Q
end
end Lw
namespace Lw
open PySem PySem.Spec PyProof.Rows L2
section
variable {P:Program}{w:World}{K:PySem.W.Frag}{mg:Str->Option Value}{base:Heap}
inductive xq(vs:List V)(H:Hp)(Q:VK):Prop |mk (a:Int)(b:Int)(h0:vs=[.int a,.int b])(h1:b≠0)(h2:Wd b)(h3:∀t H',Nw H H' t (.tup [.int (Ar.lowP a b),.int (Ar.fJ a b)])->Q (.ref t) H'):xq vs H Q
def lN:Sp:=fun vs H Q _=>xq vs H Q
end
end Lw
namespace Lw
open PySem PySem.Spec PyProof.Rows L2
section
variable {P:Program}{w:World}{K:PySem.W.Frag}{mg:Str->Option Value}{base:Heap}
def Fz(T:String):Bool:=gB T "int"&& !gB T "bool"
inductive xt(K:PySem.W.Frag)(vs:List V)(H:Hp)(Q:VK):Prop |mk (v:_)(T:_)(h0:vs=[v])(h1:Dh K H v T)(h2:Q (.bl (Fz T)) H):xt K vs H Q
def lO(K:PySem.W.Frag):Sp:=fun vs H Q _=>xt K vs H Q
abbrev J6:Stmt:=top 21
theorem GG:aH ["p","q","high","low"] ["p","q"] (ao J6):=⟨rfl,rfl,rfl,by decide+kernel,rfl,by decide+kernel,by decide+kernel⟩
theorem GH(F:FA K mg "common_divisor" J6)(B:dv mg):aw P w K mg base "common_divisor" 1 xp:=by
 refine F.has GG (fun vs H Q E h=>?_) (fun _ _ _ _ _ _ us hl=>match us,hl with|[_,_],_=>rfl) (fun f cdv A outer s H vs Q E hr h=>?_)
 · obtain⟨a,b,rfl,_⟩:=h
   rfl
 · obtain⟨a,b,rfl,k⟩:=h
   have nd:=GG.nd;refine⟨_,(ag (fR (i:=2) (j:=3) rfl nd rfl rfl (by decide) rfl rfl (aa (ak (x:="abs") dS rfl (B.at "abs") PyProof.Rows.boot_abs (aa (pv 0) af)) (aa (ak (x:="abs") dS rfl (B.at "abs") PyProof.Rows.boot_abs (aa (pv 1) af)) af)) rfl) (ag (dQ PassesOwn.never (aO (qO K rfl hr.units) (pv 3) ah (aK _)) (ai (fR (i:=2) (j:=3) rfl nd rfl rfl (by decide) rfl rfl (aa (pv 3) (aa (az gq (pv 2) (pv 3)) af)) rfl))) (ai (aB (pv 2))))),?_⟩;refine⟨_,rfl,_,rfl,_,rfl,_,rfl,_,_,rfl,?_⟩;refine dR (fun σ H2=>H2=H/\∃(x y:Int),σ=[some (.int a),some (.int b),some (.int x),some (.int y)]/\0<=x/\0<=y/\Int.gcd x y=Int.gcd a b) (fun σ _=>match σ with|[_,_,_,some (.int y)]=>y.natAbs|_=>0) ?_ ?_ ?_
   · refine⟨rfl,_,_,rfl,by split<;>omega,by split<;>omega,?_⟩
     have h1:(if a<0 then-a else a).natAbs=a.natAbs:=by split<;>omega
     have h2:(if b<0 then-b else b).natAbs=b.natAbs:=by split<;>omega
     unfold Int.gcd;rw[h1,h2]
   · rintro σ H2 ⟨rfl,x,y,rfl,x0,y0,e⟩
     refine⟨_,rfl,.inl ⟨_,_,rfl,rfl,_,rfl,?_⟩⟩;refine dk (fun hc=>?_) (fun hc=>?_)
     · have hy:y≠0:=by simpa using hc
       have hy':0<y:=by omega
       refine⟨_,rfl,_,rfl,_,rfl,_,_,rfl,rfl,hy',_,_,rfl,?_⟩;refine⟨⟨rfl,_,_,rfl,y0,Int.emod_nonneg _ hy,(Ar.wa hy').trans e⟩,?_⟩;show(x%y).natAbs<y.natAbs;have:=Int.emod_nonneg x hy;have:=Int.emod_lt_of_pos x hy';omega
     · have hy:y=0:=by simpa using hc
       subst hy;refine⟨_,rfl,?_⟩;rw[Int.gcd_zero_right]at e;have e2:x=((Int.gcd a b:Nat):Int):=by omega
       rw[e2];exact k
   · rintro σ H2 Q1 Q2 hq ⟨v1,e1,h⟩
     refine⟨v1,e1,?_⟩;rcases h with⟨i,j,e3,e4,kk,e5,q⟩|⟨d,e,r1,r2,s1,s2,kk,e5,q⟩
     ·exact .inl ⟨i,j,e3,e4,kk,e5,hq _ _ q⟩
     ·exact .inr ⟨d,e,r1,r2,s1,s2,kk,e5,hq _ _ q⟩
end
end Lw
namespace Lw
open PySem PySem.Spec PyProof.Rows L2
section
variable {P:Program}{w:World}{K:PySem.W.Frag}{mg:Str->Option Value}{base:Heap}
abbrev J8:Stmt:=top 9
theorem GI:aH ["thing"] ["thing"] (ao J8):=⟨rfl,rfl,rfl,by decide+kernel,rfl,by decide+kernel,by decide+kernel⟩
theorem GJ(F:FA K mg "is_whole" J8)(B:dv mg):aw P w K mg base "is_whole" 1 (lO K):=by
 refine F.has GI (fun vs H Q E h=>?_) (fun _ _ _ _ _ _ us hl=>match us,hl with|[_],_=>rfl) (fun f cdv A outer s H vs Q E hr h=>?_)
 · obtain⟨v,T,rfl,_⟩:=h
   rfl
 · obtain⟨v,T,rfl,ty,k⟩:=h
   have nd:=GI.nd;refine⟨_,(ai (aB (cR (ak (x:="isinstance") (dc K rfl) rfl (B.at "isinstance") PyProof.Rows.boot_isinstance (aa (pv 0) (aa (aV (x:="int") (v:=.ty "int") rfl (B.at "int") PyProof.Rows.boot_int rfl) af))) (cU (uW (ak (x:="isinstance") (dc K rfl) rfl (B.at "isinstance") PyProof.Rows.boot_isinstance (aa (pv 0) (aa (aV (x:="bool") (v:=.ty "bool") rfl (B.at "bool") PyProof.Rows.boot_bool rfl) af)))))))),?_⟩;refine⟨_,rfl,.inl ⟨_,T,"int",_,rfl,ty,by decide,rfl,_,rfl,?_⟩⟩;unfold Fz at k;refine dk (fun hc=>?_) (fun hc=>?_)
   · refine⟨_,rfl,.inl ⟨_,T,"bool",_,rfl,ty,by decide,rfl,_,rfl,?_⟩⟩
     rw[hc,Bool.true_and]at k;exact k
   · rw[Bool.eq_false_iff.mpr hc,Bool.false_and]at k
     exact k
end
end Lw
namespace Lw
open PySem PySem.Spec PyProof.Rows L2 Ln
section
variable {P:Program}{w:World}{K:PySem.W.Frag}{mg:Str->Option Value}{base:Heap}
def cZ(ns:List Int)(sp:Int):PyData:=.tuple [.str "line",.tuple (ns.map PyData.int),.int sp]
theorem gL(ns:List Int)(sp:Int):iP (cZ ns sp)=true:=by simp[cZ,iP,cD,cC]
structure iD(ax:Nat)(m:Int)(ns:List Int):Prop where
 len:ns.length=ax
 bd:∀z∈ns,(z.natAbs:Int)<=m
 nz:∃z∈ns,z≠0
theorem iD.lead{ax:Nat}{m:Int}{ns:List Int}(h:iD ax m ns):0<ay ns/\(ay ns:Int)<=m:=by
 refine⟨wq h.nz,?_⟩;have hm:0<=m:=by obtain⟨z,hz,_⟩:=h.nz;have:=h.bd z hz;omega
 have:=dU (ns:=ns) (m:=m.toNat) fun z hz=>by have:=h.bd z hz;omega
 omega
theorem iD.ne{ax:Nat}{m:Int}{ns:List Int}(h:iD ax m ns):ns≠[]:=by obtain⟨z,hz,_⟩:=h.nz;intro e;subst e;cases hz
theorem cH{H:Hp}{v:V}{ns:List Int}{sp:Int}(h:RD K H v (cZ ns sp)):∃a b,v= .ref a/\bG K H a [.str "line",.ref b,.int sp]/\bG K H b (ns.map V.int):=by obtain⟨a,xs,rfl,h1,h2⟩:=h.bu;obtain⟨x1,r1,rfl,e1,h2⟩:=h2.cons_inv;obtain⟨x2,r2,rfl,e2,h2⟩:=h2.cons_inv;obtain⟨x3,r3,rfl,e3,h2⟩:=h2.cons_inv;cases h2.nil_inv;cases e1.str_inv;cases e3.int_inv;obtain⟨b,ys,rfl,h3,h4⟩:=e2.bu;rw[h4.ck]at h3;exact⟨a,b,rfl,h1,h3⟩
inductive rK(K:PySem.W.Frag)(vs:List V)(H:Hp)(Q:VK):Prop |mk (v:_)(ns:_)(sp:_)(h0:vs=[v])(h1:RD K H v (cZ ns sp))(h2:ns≠[])(h3:ns.length<=1000)(h4:∀H',aI H H'->Q (.int (ay ns)) H'):rK K vs H Q
def fq(K:PySem.W.Frag):Sp:=fun vs H Q _=>rK K vs H Q
theorem dB{ns:List Int}{f:Int->PyData}{i:Nat}{d:PyData}(h:(ns.map f)[i]? =some d):∃n,ns[i]? =some n/\f n=d:=by rw[List.getElem?_map]at h;cases e:ns[i]? with |none=>rw[e]at h;cases h |some n=>rw[e]at h;exact⟨n,rfl,Option.some.inj h⟩
theorem gM{ns:List Int}{i:Nat}{x:V}{n:Int}(h:(ns.map V.int)[i]? =some x)(e:ns[i]? =some n):x= .int n:=by rw[List.getElem?_map,e]at h;exact(Option.some.inj h).symm
abbrev xu:Stmt:=top 76
theorem xx:aH ["_law_line_here"] ["_law_line_here"] (ao xu):=⟨rfl,rfl,rfl,by decide+kernel,rfl,by decide+kernel,by decide+kernel⟩
theorem Aj(F:FA K mg "_law_lead" xu)(B:dv mg):aw P w K mg base "_law_lead" 1 (fq K):=by
 refine F.has xx (fun vs H Q E h=>?_) (fun _ _ _ _ _ _ us hl=>match us,hl with|[_],_=>rfl) (fun f cdv A outer s H vs Q E hr h=>?_)
 · obtain⟨v,ns,sp,rfl,_⟩:=h
   rfl
 · obtain⟨v,ns,sp,rfl,rd,hne,hz,k⟩:=h
   have nd:=xx.nd;obtain⟨a,b,rfl,ha,hb⟩:=cH rd;refine⟨_,(ai (aB (ak (x:="max") (wk K rfl rfl) rfl (B.at "max") PyProof.Rows.boot_max (aa (bT (N:=["_law_step"]) (js:=[none]) rfl rfl rfl (Bs K rfl (aM (cw K rfl) (pv 0) ah (fun _ _=>rfl))) (fun _ _ _ _ _=>(aA (i:=0) (show List.Nodup (["_law_step"]:List Str) by decide+kernel) rfl (Or.inl rfl))) (fun _ _ _ _ _=>bM) (fun _ _ _ _ _=>(ak (x:="abs") dS rfl (B.at "abs") PyProof.Rows.boot_abs (aa (pv 0) af)))) af)))),?_⟩;refine⟨_,rfl,.inr ⟨a,_,1,.ref b,rfl,rfl,ha,rfl,b,rfl,⟨_,hb⟩,fun D H0 nw=>?_⟩⟩;refine iQ (K:=K) (xs:=ns.map V.int) (ds:=(ns.map gr).map PyData.int) [] hb nw (by simp) (by simpa using hz) (cC _) ?_ ?_
   · intro i x d H2 Q' ex ed s2 hq
     obtain⟨m,em,rfl⟩:=dB ed;rw[List.getElem?_map]at em;cases en:ns[i]? with |none=>rw[en]at em;cases em |some n=>rw[en]at em;cases em;cases gM ex en;exact⟨_,rfl,n,rfl,hq _ _ (aI.refl _) (bU _)⟩
   · intro H' ys s2 d2 r2
     rw[r2.ck]at d2;refine⟨D,_,rfl,bc.of d2,by simpa using hne,fun M h1 h2=>?_⟩;rw[jj hne h1 h2];exact k H' s2
abbrev pP:Stmt:=top 23
theorem rL:aH ["line"] ["line"] (ao pP):=⟨rfl,rfl,rfl,by decide+kernel,rfl,by decide+kernel,by decide+kernel⟩
theorem xy(F:FA K mg "lead_of" pP)(B:dv mg):aw P w K mg base "lead_of" 1 (fq K):=by
 refine F.has rL (fun vs H Q E h=>?_) (fun _ _ _ _ _ _ us hl=>match us,hl with|[_],_=>rfl) (fun f cdv A outer s H vs Q E hr h=>?_)
 · obtain⟨v,ns,sp,rfl,_⟩:=h
   rfl
 · obtain⟨v,ns,sp,rfl,rd,hne,hz,k⟩:=h
   have nd:=rL.nd;obtain⟨a,b,rfl,ha,hb⟩:=cH rd;refine⟨_,(ai (aB (ak (x:="max") (wk K rfl rfl) rfl (B.at "max") PyProof.Rows.boot_max (aa (bT (N:=["step"]) (js:=[none]) rfl rfl rfl (Bs K rfl (aM (cw K rfl) (pv 0) ah (fun _ _=>rfl))) (fun _ _ _ _ _=>(aA (i:=0) (show List.Nodup (["step"]:List Str) by decide+kernel) rfl (Or.inl rfl))) (fun _ _ _ _ _=>bM) (fun _ _ _ _ _=>(ak (x:="abs") dS rfl (B.at "abs") PyProof.Rows.boot_abs (aa (pv 0) af)))) af)))),?_⟩;refine⟨_,rfl,.inr ⟨a,_,1,.ref b,rfl,rfl,ha,rfl,b,rfl,⟨_,hb⟩,fun D H0 nw=>?_⟩⟩;refine iQ (K:=K) (xs:=ns.map V.int) (ds:=(ns.map gr).map PyData.int) [] hb nw (by simp) (by simpa using hz) (cC _) ?_ ?_
   · intro i x d H2 Q' ex ed s2 hq
     obtain⟨m,em,rfl⟩:=dB ed;rw[List.getElem?_map]at em;cases en:ns[i]? with |none=>rw[en]at em;cases em |some n=>rw[en]at em;cases em;cases gM ex en;exact⟨_,rfl,n,rfl,hq _ _ (aI.refl _) (bU _)⟩
   · intro H' ys s2 d2 r2
     rw[r2.ck]at d2;refine⟨D,_,rfl,bc.of d2,by simpa using hne,fun M h1 h2=>?_⟩;rw[jj hne h1 h2];exact k H' s2
end
end Lw
namespace Lw
open PySem PySem.Spec PyProof.Rows L2 Rt
section
variable {P:Program}{w:World}{K:PySem.W.Frag}{mg:Str->Option Value}{base:Heap}
abbrev J9:Stmt:=top 20
theorem GK:aH ["p","q","divisor"] ["p","q"] (ao J9):=⟨rfl,rfl,rfl,by decide+kernel,rfl,by decide+kernel,by decide+kernel⟩
theorem GL(F:FA K mg "lowest_terms" J9)(B:dv mg)(hcommon_divisor:aw P w K mg base "common_divisor" 1 xp):aw P w K mg base "lowest_terms" 2 lN:=by
 refine F.has GK (fun vs H Q E h=>?_) (fun _ _ _ _ _ _ us hl=>match us,hl with|[_,_],_=>rfl) (fun f cdv A outer s H vs Q E hr h=>?_)
 · obtain⟨a,b,rfl,_⟩:=h
   rfl
 · obtain⟨a,b,rfl,hb,wb,k⟩:=h
   have nd:=GK.nd;have sw:Wd (Ar.sg a b):=Nat.lt_of_le_of_lt (Ar.Bw hb) wb;refine⟨_,(ag (aF (i:=2) nd rfl (Or.inl rfl) (aE hcommon_divisor (hr.mono (by decide)) rfl (aa (pv 0) (aa (pv 1) af)))) (ag (cL (aR (aO ft (pv 1) ah (aK _)) (ai (aF (i:=2) nd rfl (Or.inl rfl) (nv jZ (pv 2)))) aL)) (ai (aB (bF (aa (az lI (pv 0) (pv 2)) (aa (az lI (pv 1) (pv 2)) af))))))),?_⟩;refine⟨_,rfl,_,rfl,a,b,rfl,?_⟩;refine⟨fun σ H'=>H'=H/\σ=[some (.int a),some (.int b),some (.int (Ar.sg a b))],?_,?_⟩
   · refine⟨_,rfl,_,_,rfl,rfl,_,rfl,?_⟩
     refine dk (fun hc=>?_) (fun hc=>?_)
     · have hd:b<0:=of_decide_eq_true hc
       refine⟨_,rfl,_,rfl,?_⟩;refine⟨rfl,?_⟩;unfold Ar.sg;rw[if_pos hd];rfl
     · have hd:¬b<0:=fun z=>hc (decide_eq_true z)
       refine⟨rfl,?_⟩;unfold Ar.sg;rw[if_neg hd];rfl
   rintro σ H' ⟨rfl,rfl⟩;refine⟨_,rfl,_,rfl,_,_,rfl,rfl,⟨Ar.nO hb,sw⟩,_,rfl,_,rfl,_,_,rfl,rfl,⟨Ar.nO hb,sw⟩,(by show 2<=sizeLine;decide),fun t H4 nw=>?_⟩;exact k t H4 nw
def aY(K:PySem.W.Frag)(H:Hp)(v:V)(r:Rat):Prop:=∃p,v= .ref p/\bG K H p [.int r.num,.int r.den]
theorem aY.go{H H':Hp}{v:V}{r:Rat}(h:aY K H v r)(s:aI H H'):aY K H' v r:=by obtain⟨p,e,q⟩:=h;exact⟨p,e,q.go s⟩
def cN(r:Rat):PyData:=.tuple [.int r.num,.int r.den]
theorem aY.rd{H:Hp}{v:V}{r:Rat}(h:aY K H v r):RD K H v (cN r):=by obtain⟨p,rfl,q⟩:=h;exact e9 q (aP (bU _) (aP (bU _) ba))
theorem rM(r:Rat):hW 1 (cN r):=fI.tup (.cons (.int _) (.cons (.int _) .nil))
theorem Ak(r:Rat):SeqAt.shaped (cN r)=true:=(rM r).shaped (by decide)
theorem JM{r s:Rat}(h:r=s):PyData.eqv (cN r) (cN s)=true:=by rw[h];exact(rM s).refl
theorem lP{n:Nat}{i:Int}(h:i.natAbs<2^n)(l:n<=5000):Wd i:=Nat.lt_of_lt_of_le h (Nat.pow_le_pow_right (by decide) l)
theorem _root_.Rt.Bd.wn{r:Rat}(h:Bd 2000 r):Wd r.num:=lP h.num (by decide)
theorem _root_.Rt.Bd.wd{r:Rat}(h:Bd 2000 r):Wd (r.den:Int):=lP (n:=2000) (by have:=h.den;omega) (by decide)
theorem Iv{r s:Rat}(h:Bd 2000 r)(g:Bd 2000 s):Wd ((r.den:Int)*(s.den:Int)):=lP (n:=4000) (pF h g) (by decide)
theorem iX{H':Hp}{t:Addr}{a b:Int}{r:Rat}(hb:b≠0)(e:r=Rat.divInt a b)(h:H' t=some (.tup [.int (Ar.lowP a b),.int (Ar.fJ a b)])):aY K H' (.ref t) r:=by obtain⟨e1,e2⟩:=jQ (a:=a) hb;rw[e1,e2,<-e]at h;exact⟨t,rfl,bG.of h⟩
inductive BL(op:Rat->Rat->Rat)(K:PySem.W.Frag)(vs:List V)(H:Hp)(Q:VK):Prop |mk (v1:_)(v2:_)(r:_)(s:_)(h0:vs=[v1,v2])(h1:aY K H v1 r)(h2:aY K H v2 s)(h3:Bd 2000 r)(h4:Bd 2000 s)(h5:∀v H',aY K H' v (op r s)->aI H H'->Q v H'):BL op K vs H Q
def kT(op:Rat->Rat->Rat)(K:PySem.W.Frag):Sp:=fun vs H Q _=>BL op K vs H Q
abbrev xA:Stmt:=top 14
theorem xB:aH ["one","other","p","q","r","s"] ["one","other"] (ao xA):=⟨rfl,rfl,rfl,by decide+kernel,rfl,by decide+kernel,by decide+kernel⟩
theorem Al(F:FA K mg "plus" xA)(B:dv mg)(hlowest_terms:aw P w K mg base "lowest_terms" 2 lN):aw P w K mg base "plus" 3 (kT (·+·) K):=by
 refine F.has xB (fun vs H Q E h=>?_) (fun _ _ _ _ _ _ us hl=>match us,hl with|[_,_],_=>rfl) (fun f cdv A outer s H vs Q E hr h=>?_)
 · obtain⟨v1,v2,r,s,rfl,_⟩:=h
   rfl
 · obtain⟨v1,v2,r,s,rfl,⟨p,rfl,hp⟩,⟨q,rfl,hq⟩,br,bs,k⟩:=h
   have nd:=xB.nd;refine⟨_,(ag (cx (pv 0) (gD K rfl (n:=2) rfl (aD (aA (i:=2) nd rfl (Or.inl rfl)) (aD (aA (i:=3) nd rfl (Or.inl rfl)) aZ)))) (ag (cx (pv 1) (gD K rfl (n:=2) rfl (aD (aA (i:=4) nd rfl (Or.inl rfl)) (aD (aA (i:=5) nd rfl (Or.inl rfl)) aZ)))) (ai (aB (aE hlowest_terms (hr.mono (by decide)) rfl (aa (az bo (az aG (pv 2) (pv 5)) (az aG (pv 4) (pv 3))) (aa (az aG (pv 3) (pv 5)) af))))))),?_⟩;refine⟨_,rfl,_,_,rfl,hp,rfl,_,_,rfl,_,_,rfl,rfl,?_⟩;refine⟨_,rfl,_,_,rfl,hq,rfl,_,_,rfl,_,_,rfl,rfl,?_⟩;refine⟨_,rfl,_,rfl,_,_,rfl,rfl,IntMulOk.of_bits br.wn.bits bs.wd.bits,_,rfl,_,rfl,_,_,rfl,rfl,IntMulOk.of_bits bs.wn.bits br.wd.bits,_,_,rfl,rfl,_,rfl,_,rfl,_,_,rfl,rfl,IntMulOk.of_bits br.wd.bits bs.wd.bits,?_⟩;exact⟨_,_,rfl,mj r s,Iv br bs,fun t H' nw=>k _ _ (iX (mj r s) (add_div r s) nw.at') nw.same⟩
abbrev pQ:Stmt:=top 16
theorem rO:aH ["one","other","p","q","r","s"] ["one","other"] (ao pQ):=⟨rfl,rfl,rfl,by decide+kernel,rfl,by decide+kernel,by decide+kernel⟩
theorem xC(F:FA K mg "minus" pQ)(B:dv mg)(hlowest_terms:aw P w K mg base "lowest_terms" 2 lN):aw P w K mg base "minus" 3 (kT (·-·) K):=by
 refine F.has rO (fun vs H Q E h=>?_) (fun _ _ _ _ _ _ us hl=>match us,hl with|[_,_],_=>rfl) (fun f cdv A outer s H vs Q E hr h=>?_)
 · obtain⟨v1,v2,r,s,rfl,_⟩:=h
   rfl
 · obtain⟨v1,v2,r,s,rfl,⟨p,rfl,hp⟩,⟨q,rfl,hq⟩,br,bs,k⟩:=h
   have nd:=rO.nd;refine⟨_,(ag (cx (pv 0) (gD K rfl (n:=2) rfl (aD (aA (i:=2) nd rfl (Or.inl rfl)) (aD (aA (i:=3) nd rfl (Or.inl rfl)) aZ)))) (ag (cx (pv 1) (gD K rfl (n:=2) rfl (aD (aA (i:=4) nd rfl (Or.inl rfl)) (aD (aA (i:=5) nd rfl (Or.inl rfl)) aZ)))) (ai (aB (aE hlowest_terms (hr.mono (by decide)) rfl (aa (az cB (az aG (pv 2) (pv 5)) (az aG (pv 4) (pv 3))) (aa (az aG (pv 3) (pv 5)) af))))))),?_⟩;refine⟨_,rfl,_,_,rfl,hp,rfl,_,_,rfl,_,_,rfl,rfl,?_⟩;refine⟨_,rfl,_,_,rfl,hq,rfl,_,_,rfl,_,_,rfl,rfl,?_⟩;refine⟨_,rfl,_,rfl,_,_,rfl,rfl,IntMulOk.of_bits br.wn.bits bs.wd.bits,_,rfl,_,rfl,_,_,rfl,rfl,IntMulOk.of_bits bs.wn.bits br.wd.bits,_,_,rfl,rfl,_,rfl,_,rfl,_,_,rfl,rfl,IntMulOk.of_bits br.wd.bits bs.wd.bits,?_⟩;exact⟨_,_,rfl,mj r s,Iv br bs,fun t H' nw=>k _ _ (iX (mj r s) (zZ r s) nw.at') nw.same⟩
abbrev pR:Stmt:=top 17
theorem rP:aH ["one","other","p","q","r","s"] ["one","other"] (ao pR):=⟨rfl,rfl,rfl,by decide+kernel,rfl,by decide+kernel,by decide+kernel⟩
theorem xD(F:FA K mg "times" pR)(B:dv mg)(hlowest_terms:aw P w K mg base "lowest_terms" 2 lN):aw P w K mg base "times" 3 (kT (·*·) K):=by
 refine F.has rP (fun vs H Q E h=>?_) (fun _ _ _ _ _ _ us hl=>match us,hl with|[_,_],_=>rfl) (fun f cdv A outer s H vs Q E hr h=>?_)
 · obtain⟨v1,v2,r,s,rfl,_⟩:=h
   rfl
 · obtain⟨v1,v2,r,s,rfl,⟨p,rfl,hp⟩,⟨q,rfl,hq⟩,br,bs,k⟩:=h
   have nd:=rP.nd;refine⟨_,(ag (cx (pv 0) (gD K rfl (n:=2) rfl (aD (aA (i:=2) nd rfl (Or.inl rfl)) (aD (aA (i:=3) nd rfl (Or.inl rfl)) aZ)))) (ag (cx (pv 1) (gD K rfl (n:=2) rfl (aD (aA (i:=4) nd rfl (Or.inl rfl)) (aD (aA (i:=5) nd rfl (Or.inl rfl)) aZ)))) (ai (aB (aE hlowest_terms (hr.mono (by decide)) rfl (aa (az aG (pv 2) (pv 4)) (aa (az aG (pv 3) (pv 5)) af))))))),?_⟩;refine⟨_,rfl,_,_,rfl,hp,rfl,_,_,rfl,_,_,rfl,rfl,?_⟩;refine⟨_,rfl,_,_,rfl,hq,rfl,_,_,rfl,_,_,rfl,rfl,?_⟩;refine⟨_,rfl,_,rfl,_,_,rfl,rfl,IntMulOk.of_bits br.wn.bits bs.wn.bits,_,rfl,_,rfl,_,_,rfl,rfl,IntMulOk.of_bits br.wd.bits bs.wd.bits,?_⟩;exact⟨_,_,rfl,mj r s,Iv br bs,fun t H' nw=>k _ _ (iX (mj r s) (mul_div r s) nw.at') nw.same⟩
inductive rQ(K:PySem.W.Frag)(vs:List V)(H:Hp)(Q:VK):Prop |mk (v1:_)(v2:_)(r:_)(s:_)(h0:vs=[v1,v2])(h1:aY K H v1 r)(h2:aY K H v2 s)(h3:Bd 2000 r)(h4:Bd 2000 s)(h5:Q (.bl (decide (r<s))) H):rQ K vs H Q
def jr(K:PySem.W.Frag):Sp:=fun vs H Q _=>rQ K vs H Q
abbrev xE:Stmt:=top 18
theorem xF:aH ["one","other","p","q","r","s"] ["one","other"] (ao xE):=⟨rfl,rfl,rfl,by decide+kernel,rfl,by decide+kernel,by decide+kernel⟩
theorem Am(F:FA K mg "is_less" xE)(B:dv mg):aw P w K mg base "is_less" 1 (jr K):=by
 refine F.has xF (fun vs H Q E h=>?_) (fun _ _ _ _ _ _ us hl=>match us,hl with|[_,_],_=>rfl) (fun f cdv A outer s H vs Q E hr h=>?_)
 · obtain⟨v1,v2,r,s,rfl,_⟩:=h
   rfl
 · obtain⟨v1,v2,r,s,rfl,⟨p,rfl,hp⟩,⟨q,rfl,hq⟩,br,bs,k⟩:=h
   have nd:=xF.nd;refine⟨_,(ag (cx (pv 0) (gD K rfl (n:=2) rfl (aD (aA (i:=2) nd rfl (Or.inl rfl)) (aD (aA (i:=3) nd rfl (Or.inl rfl)) aZ)))) (ag (cx (pv 1) (gD K rfl (n:=2) rfl (aD (aA (i:=4) nd rfl (Or.inl rfl)) (aD (aA (i:=5) nd rfl (Or.inl rfl)) aZ)))) (ai (aB (bJ ft (az aG (pv 2) (pv 5)) (az aG (pv 4) (pv 3)) (aK _)))))),?_⟩;refine⟨_,rfl,_,_,rfl,hp,rfl,_,_,rfl,_,_,rfl,rfl,?_⟩;refine⟨_,rfl,_,_,rfl,hq,rfl,_,_,rfl,_,_,rfl,rfl,?_⟩;refine⟨_,rfl,_,rfl,_,_,rfl,rfl,IntMulOk.of_bits br.wn.bits bs.wd.bits,_,rfl,_,rfl,_,_,rfl,rfl,IntMulOk.of_bits bs.wn.bits br.wd.bits,_,_,rfl,rfl,?_⟩;have e:decide (r.num*(s.den:Int)<s.num*(r.den:Int))=decide (r<s):=by rw[Bool.eq_iff_iff,decide_eq_true_iff,decide_eq_true_iff,Rat.lt_iff]
   show Q (.bl (decide (r.num*(s.den:Int)<s.num*(r.den:Int)))) H;rw[e];exact k
def jH(K:PySem.W.Frag)(H:Hp):List V->List Rat->Prop |[],[]=>True |v::vs,r::rs=>aY K H v r/\Bd 2000 r/\jH K H vs rs |_,_=>False
theorem jH.length{H:Hp}:∀{vs:List V}{rs:List Rat},jH K H vs rs->vs.length=rs.length |[],[],_=>rfl |v::vs,r::rs,h=>by rw[List.length_cons,List.length_cons,jH.length h.2.2] |[],_::_,h=>h.elim |_::_,[],h=>h.elim
theorem jH.get{H:Hp}:∀{vs:List V}{rs:List Rat}{i:Nat}{v:V},jH K H vs rs->vs[i]? =some v->∃r,rs[i]? =some r/\aY K H v r/\Bd 2000 r
  |[],[],i,v,_,e=>by simp at e |v::vs,r::rs,0,v',h,e=>by
    have e':v=v':=by simpa using e
    subst e';exact⟨r,rfl,h.1,h.2.1⟩ |v::vs,r::rs,i+1,v',h,e=>by obtain⟨r',e1,q⟩:=jH.get h.2.2 (show vs[i]? =some v' by simpa using e);exact⟨r',by simpa using e1,q⟩ |[],_::_,_,_,h,_=>h.elim |_::_,[],_,_,h,_=>h.elim
inductive o5(K:PySem.W.Frag)(vs:List V)(H:Hp)(Q:VK):Prop |mk (l:_)(xs:_)(rs:_)(h0:vs=[.ref l])(h1:bc K H l xs)(h2:jH K H xs rs)(h3:xs≠[])(h4:∀(i:Nat)(v:V)(r:Rat),xs[i]? =some v->rs[i]? =some r->(∀s∈rs,r<=s)->Q v H):o5 K vs H Q
def cQ(K:PySem.W.Frag):Sp:=fun vs H Q _=>o5 K vs H Q
abbrev pS:Stmt:=top 19
theorem rS:aH ["some","best","one"] ["some"] (ao pS):=⟨rfl,rfl,rfl,by decide+kernel,rfl,by decide+kernel,by decide+kernel⟩
theorem xG(F:FA K mg "least" pS)(B:dv mg)(his_less:aw P w K mg base "is_less" 1 (jr K)):aw P w K mg base "least" 2 (cQ K):=by
 refine F.has rS (fun vs H Q E h=>?_) (fun _ _ _ _ _ _ us hl=>match us,hl with|[_],_=>rfl) (fun f cdv A outer s H vs Q E hr h=>?_)
 · obtain⟨l,xs,rs,rfl,_⟩:=h
   rfl
 · obtain⟨l,xs,rs,rfl,hl,hr',hne,k⟩:=h
   have nd:=rS.nd;refine⟨_,(ag (aF (i:=1) nd rfl (Or.inl rfl) (aM (cw K rfl) (pv 0) ah (fun _ _=>rfl))) (ag (fc PassesOwn.never rfl (Ik K rfl (pv 0)) (aA (i:=2) nd rfl (Or.inl rfl)) (ai (aR (bh (aE his_less (hr.mono (by decide)) rfl (aa (pv 2) (aa (pv 1) af)))) (ai (aF (i:=1) nd rfl (Or.inl rfl) (pv 2))) aL))) (ai (aB (pv 1))))),?_⟩;have hlen:=hr'.length;have h0:0<xs.length:=List.length_pos_iff.mpr hne;have e0:=List.getElem?_eq_getElem h0;refine⟨_,rfl,.inl ⟨l,xs,0,xs[0],rfl,rfl,hl,bB (by decide) e0,?_⟩⟩;refine⟨_,rfl,l,rfl,⟨_,hl⟩,jY (K:=K) (a:=l) (xs:=xs) (fun i σ H2=>H2=H/\∃(j:Nat)(b:V)(r:Rat)(v:Option V),xs[j]? =some b/\rs[j]? =some r/\(∀(m:Nat)(s:Rat),m<i->rs[m]? =some s->r<=s)/\σ=[some (.ref l),some b,v]) ?_ (fun i σ H2 _ h=>by rw[h.1];exact hl) ?_ ?_⟩
   · obtain⟨r,e1,_⟩:=hr'.get e0
     exact⟨rfl,0,_,r,none,e0,e1,fun m s hm=>absurd hm (Nat.not_lt_zero _),rfl⟩
   · rintro i x σ H2 hx ⟨rfl,j,b,r,v,eb,er,hm,rfl⟩
     obtain⟨t,et,rt,bt⟩:=hr'.get hx;obtain⟨r2,er2,rb,bb⟩:=hr'.get eb;rw[er]at er2;cases er2;refine⟨_,rfl,_,rfl,x,b,t,r,rfl,rt,rb,bt,bb,_,rfl,?_⟩;refine dk (fun hc=>?_) (fun hc=>?_)
     · have hlt:t<r:=of_decide_eq_true hc
       refine⟨_,rfl,?_⟩;refine⟨rfl,i,x,t,_,hx,et,fun m s hmi es=>?_,rfl⟩;rcases Nat.lt_succ_iff_lt_or_eq.mp hmi with h|h
       ·exact Rat.le_trans (Rat.le_of_lt hlt) (hm m s h es)
       · subst h
         rw[et]at es;cases es;exact Rat.le_refl
     · have hnl:¬t<r:=fun z=>hc (decide_eq_true z)
       refine⟨rfl,j,b,r,_,eb,er,fun m s hmi es=>?_,rfl⟩;rcases Nat.lt_succ_iff_lt_or_eq.mp hmi with h|h
       ·exact hm m s h es
       · subst h
         rw[et]at es;cases es;exact Rat.not_lt.mp hnl
   · rintro σ H2 ⟨rfl,j,b,r,v,eb,er,hm,rfl⟩
     refine⟨_,rfl,k j b r eb er fun s hs=>?_⟩;obtain⟨m,hml,em⟩:=List.mem_iff_getElem.mp hs;exact hm m s (by omega) (by rw[List.getElem?_eq_getElem hml,em])
inductive BM(K:PySem.W.Frag)(vs:List V)(H:Hp)(Q:VK):Prop |mk (a:_)(b:_)(h0:vs=[.int a,.int b])(h1:b≠0)(h2:Wd b)(h3:∀v H',aY K H' v (Rat.divInt a b)->aI H H'->Q v H'):BM K vs H Q
def uB(K:PySem.W.Frag):Sp:=fun vs H Q _=>BM K vs H Q
abbrev Ja:Stmt:=top 13
theorem GN:aH ["p","q"] ["p","q"] (ao Ja):=⟨rfl,rfl,rfl,by decide+kernel,rfl,by decide+kernel,by decide+kernel⟩
theorem GO(F:FA K mg "fraction" Ja)(B:dv mg)(his_whole:aw P w K mg base "is_whole" 1 (lO K))(hlowest_terms:aw P w K mg base "lowest_terms" 2 lN):aw P w K mg base "fraction" 3 (uB K):=by
 refine F.has GN (fun vs H Q E h=>?_) (fun _ _ _ _ _ _ us hl=>match us,hl with|[_,_],_=>rfl) (fun f cdv A outer s H vs Q E hr h=>?_)
 · obtain⟨a,b,rfl,_⟩:=h
   rfl
 · obtain⟨a,b,rfl,hb,wb,k⟩:=h
   have nd:=GN.nd;refine⟨_,(ag (aR (PW.pt (gz (cf (bh (aE his_whole (hr.mono (by decide)) rfl (aa (pv 0) af)))) (fo (cf (bh (aE his_whole (hr.mono (by decide)) rfl (aa (pv 1) af))))))) (ai fU) aL) (ag (aR (aO (fT K rfl hr.units) (pv 1) ah (aK _)) (ai fU) aL) (ai (aB (aE hlowest_terms (hr.mono (by decide)) rfl (aa (pv 0) (aa (pv 1) af))))))),?_⟩;have iw:Fz "int"=true:=by decide
   refine⟨_,rfl,_,"int",rfl,rfl,_,rfl,?_⟩;rw[iw];refine bw ?_;refine⟨_,rfl,_,"int",rfl,rfl,_,rfl,?_⟩;rw[iw];refine bw ?_;refine⟨_,rfl,.inl ⟨_,_,rfl,rfl,_,rfl,?_⟩⟩;rw[decide_eq_false hb];refine bw ?_;exact⟨_,rfl,_,rfl,_,_,rfl,hb,wb,fun t H' nw=>k _ _ (iX hb rfl nw.at') nw.same⟩
end
end Lw
namespace Lw
open PySem PySem.Spec PyProof.Rows L2 Rt Ln
section
variable {P:Program}{w:World}{K:PySem.W.Frag}{mg:Str->Option Value}{base:Heap}
def eZ(rs:List Int)(r f j t:Int):PyData:=.tuple [.tuple (rs.map PyData.int),.int r,.int f,.int j,.int t]
theorem cm(rs:List Int)(r f j t:Int):iP (eZ rs r f j t)=true:=by simp[eZ,iP,cD,cC]
theorem cI{H:Hp}{v:V}{rs:List Int}{r f j t:Int}(h:RD K H v (eZ rs r f j t)):∃a b,v= .ref a/\bG K H a [.ref b,.int r,.int f,.int j,.int t]/\bG K H b (rs.map V.int):=by obtain⟨a,xs,rfl,h1,h2⟩:=h.bu;obtain⟨x1,r1,rfl,e1,h2⟩:=h2.cons_inv;obtain⟨x2,r2,rfl,e2,h2⟩:=h2.cons_inv;obtain⟨x3,r3,rfl,e3,h2⟩:=h2.cons_inv;obtain⟨x4,r4,rfl,e4,h2⟩:=h2.cons_inv;obtain⟨x5,r5,rfl,e5,h2⟩:=h2.cons_inv;cases h2.nil_inv;cases e2.int_inv;cases e3.int_inv;cases e4.int_inv;cases e5.int_inv;obtain⟨b,ys,rfl,h3,h4⟩:=e1.bu;rw[h4.ck]at h3;exact⟨a,b,rfl,h1,h3⟩
structure zE(rs:List Int)(r f j t:Int):Prop where
 len:rs.length=2\/rs.length=3
 rl:∀z∈rs,1<=z/\z<=100
 r1:1<=r/\r<=50
 f1:1<=f/\f<=50
 j1:1<=j/\j<=50
 t1:1<=t/\t<=100
inductive rV(K:PySem.W.Frag)(vs:List V)(H:Hp)(Q:VK):Prop |mk (p:_)(h0:vs=[.ref p])(h1:fD H p)(h2:∀v rs r f j t H',RD K H' v (eZ rs r f j t)->zE rs r f j t->bR p H H'->Q v H'):rV K vs H Q
def xH(K:PySem.W.Frag):Sp:=fun vs H Q _=>rV K vs H Q
abbrev xI:Stmt:=top 72
theorem xJ:aH ["_law_bag_here","_law_kind","_law_most","_law_rails"] ["_law_bag_here"] (ao xI):=⟨rfl,rfl,rfl,by decide+kernel,rfl,by decide+kernel,by decide+kernel⟩
theorem An(F:FA K mg "_law_machine" xI)(B:dv mg)(hL_take:aw P w K mg base "_law_take" 1 jq):aw P w K mg base "_law_machine" 2 (xH K):=by
 refine F.has xJ (fun vs H Q E h=>?_) (fun _ _ _ _ _ _ us hl=>match us,hl with|[_],_=>rfl) (fun f cdv A outer s H vs Q E hr h=>?_)
 · obtain⟨p,rfl,_⟩:=h
   rfl
 · obtain⟨p,rfl,bg,k⟩:=h
   have nd:=xJ.nd;refine⟨_,(ag (aF (i:=1) nd rfl (Or.inl rfl) (aE hL_take (hr.mono (by decide)) rfl (aa (pv 0) (aa ah af)))) (ag (aF (i:=2) nd rfl (Or.inr rfl) (aM (cw K rfl) (bE (aa ah (aa ah (aa ah (aa ah (aa ah (aa ah (aa ah (aa ah af))))))))) (pv 1) (fun _ _=>rfl))) (ag (aF (i:=3) nd rfl (Or.inl rfl) (bI (x:="tuple") (fe K rfl) rfl (B.at "tuple") PyProof.Rows.boot_tuple (aa (bT (N:=["_law_axis","_law_bag_here","_law_most"]) (js:=[none,some 0,some 2]) rfl rfl rfl (fV rfl (B.at "range") (aa (az bo ah (aE hL_take (hr.mono (by decide)) rfl (aa (pv 0) (aa ah af)))) af)) (fun _ _ _ _ _=>(aA (i:=0) (show List.Nodup (["_law_axis","_law_bag_here","_law_most"]:List Str) by decide+kernel) rfl (Or.inl rfl))) (fun _ _ _ _ _=>bM) (fun _ _ _ _ _=>(az bo ah (aE hL_take (hr.mono (by decide)) rfl (aa (pv 1) (aa (pv 2) af)))))) af))) (ag (aR (aO (fT K rfl hr.units) (pv 1) ah (aK _)) (ai (aB (bF (aa (pv 3) (aa (az bo ah (az aG ah (aE hL_take (hr.mono (by decide)) rfl (aa (pv 0) (aa ah af))))) (aa (az bo ah (az aG ah (aE hL_take (hr.mono (by decide)) rfl (aa (pv 0) (aa ah af))))) (aa (az bo ah (az aG ah (aE hL_take (hr.mono (by decide)) rfl (aa (pv 0) (aa ah af))))) (aa ah af)))))))) aL) (ai (aB (bF (aa (pv 3) (aa (az bo ah (aE hL_take (hr.mono (by decide)) rfl (aa (pv 0) (aa ah af)))) (aa (az bo ah (aE hL_take (hr.mono (by decide)) rfl (aa (pv 0) (aa ah af)))) (aa (az bo ah (aE hL_take (hr.mono (by decide)) rfl (aa (pv 0) (aa ah af)))) (aa (az bo ah (aE hL_take (hr.mono (by decide)) rfl (aa (pv 0) (aa ah af)))) af)))))))))))),?_⟩;refine⟨_,rfl,p,8,rfl,bg,by decide,by decide,fun kd H1 k0 k1 b1=>?_⟩;refine⟨aQ _ (Nat.le_of_ble_eq_true rfl),fun l H2 nw=>?_⟩;have b2:bR p H1 H2:=.fE b1.bag nw.same;obtain⟨far,mf,ef⟩:=A2 [100,100,100,60,60,20,5,100] k0 k1;have f1:1<=far/\far<=100:=by
    have h:∀z∈([100,100,100,60,60,20,5,100]:List Int),1<=z/\z<=100:=by decide
    exact h far mf
   refine⟨_,rfl,.inl ⟨l,_,_,_,rfl,rfl,bc.of nw.at',ef,?_⟩⟩;refine⟨_,rfl,p,2,rfl,b2.bag,by decide,by decide,fun ax H3 a0 a1 b3=>?_⟩;refine⟨_,_,rfl,rfl,_,rfl,by omega,by omega,fun D H4 n4=>?_⟩;refine wm (J:=zH 0 (2+ax).toNat) (p:=p) (H:=H3) (2+ax).toNat _ n4 b3.bag (by omega) (fun i=>.int (0+(i:Int))) (fun i H5 hi _=>⟨hi,fun y H6 ⟨e,q⟩=>⟨e,q⟩⟩) (fun H5 _=>Nat.le_refl _) (fun z=>1<=z/\z<=100) ?_ ?_
   · intro i H5 Q' hi b5 hq
     refine⟨_,rfl,_,rfl,p,far,rfl,b5.bag,f1.1,by omega,fun d H6 d0 d1 b6=>?_⟩;exact⟨_,_,rfl,rfl,hq _ _ (by omega) b6⟩
   intro H5 is b5 d5 l5 bd5;have b15:=b1.trans (b2.trans (b3.trans b5));refine⟨D,_,rfl,.inl ⟨bc.of d5,fun q H6 n6=>?_⟩⟩;have b6:bR p H5 H6:=.fE b15.bag n6.same;have q6:bG K H6 q (is.map V.int):=bG.of n6.at';refine⟨_,rfl,.inl ⟨_,_,rfl,rfl,_,rfl,?_⟩⟩;refine dk (fun hc=>?_) (fun hc=>?_)
   · refine⟨_,rfl,_,rfl,p,2,rfl,b6.bag,by decide,by decide,fun ri H7 ri0 ri1 b7=>?_⟩
     refine⟨_,_,rfl,rfl,.of_left (intBits_le_64 (by decide) (by decide)),_,_,rfl,rfl,?_⟩;refine⟨_,rfl,p,2,rfl,b7.bag,by decide,by decide,fun fa H8 fa0 fa1 b8=>?_⟩;refine⟨_,_,rfl,rfl,.of_left (intBits_le_64 (by decide) (by decide)),_,_,rfl,rfl,?_⟩;refine⟨_,rfl,p,2,rfl,b8.bag,by decide,by decide,fun ju H9 ju0 ju1 b9=>?_⟩;refine⟨_,_,rfl,rfl,.of_left (intBits_le_64 (by decide) (by decide)),_,_,rfl,rfl,?_⟩;refine⟨aQ _ (Nat.le_of_ble_eq_true rfl),fun t H10 n10=>?_⟩;have b10:bR p H9 H10:=.fE b9.bag n10.same;have b610:=b7.trans (b8.trans (b9.trans b10));have q10:bG K H10 q (is.map V.int):=bG.t (bR.t b6.bag b610) q6;exact k (.ref t) is (1+49*ri) (1+49*fa) (1+49*ju) 100 H10 (e9 (bG.of n10.at') (aP (e9 q10 (fY is)) (aP (bU _) (aP (bU _) (aP (bU _) (aP (bU _) ba)))))) ⟨by omega,bd5,by omega,by omega,by omega,by omega⟩ (b15.trans (b6.trans b610))
   · refine⟨_,rfl,_,rfl,p,50,rfl,b6.bag,by decide,by decide,fun ri H7 ri0 ri1 b7=>?_⟩
     refine⟨_,_,rfl,rfl,?_⟩;refine⟨_,rfl,p,50,rfl,b7.bag,by decide,by decide,fun fa H8 fa0 fa1 b8=>?_⟩;refine⟨_,_,rfl,rfl,?_⟩;refine⟨_,rfl,p,50,rfl,b8.bag,by decide,by decide,fun ju H9 ju0 ju1 b9=>?_⟩;refine⟨_,_,rfl,rfl,?_⟩;refine⟨_,rfl,p,100,rfl,b9.bag,by decide,by decide,fun ti H10 ti0 ti1 b10=>?_⟩;refine⟨_,_,rfl,rfl,aQ _ (Nat.le_of_ble_eq_true rfl),fun t H11 n11=>?_⟩;have b11:bR p H10 H11:=.fE b10.bag n11.same;have b611:=b7.trans (b8.trans (b9.trans (b10.trans b11)));have q11:bG K H11 q (is.map V.int):=bG.t (bR.t b6.bag b611) q6;exact k (.ref t) is (1+ri) (1+fa) (1+ju) (1+ti) H11 (e9 (bG.of n11.at') (aP (e9 q11 (fY is)) (aP (bU _) (aP (bU _) (aP (bU _) (aP (bU _) ba)))))) ⟨by omega,bd5,by omega,by omega,by omega,by omega⟩ (b15.trans (b6.trans b611))
inductive o6(K:PySem.W.Frag)(vs:List V)(H:Hp)(Q:VK):Prop |mk (a:_)(b:_)(h0:vs=[.int a,.int b])(h1:0<b)(h2:Wd b)(h3:∀v H',aY K H' v (Rat.divInt a b)->aI H H'->Q v H'):o6 K vs H Q
def iY(K:PySem.W.Frag):Sp:=fun vs H Q _=>o6 K vs H Q
abbrev pT:Stmt:=top 68
theorem rW:aH ["_law_p","_law_q","_law_one","_law_other_here"] ["_law_p","_law_q"] (ao pT):=⟨rfl,rfl,rfl,by decide+kernel,rfl,by decide+kernel,by decide+kernel⟩
theorem xK(F:FA K mg "_law_frac" pT)(B:dv mg):aw P w K mg base "_law_frac" 1 (iY K):=by
 refine F.has rW (fun vs H Q E h=>?_) (fun _ _ _ _ _ _ us hl=>match us,hl with|[_,_],_=>rfl) (fun f cdv A outer s H vs Q E hr h=>?_)
 · obtain⟨a,b,rfl,_⟩:=h
   rfl
 · obtain⟨a,b,rfl,hb,wb,k⟩:=h
   have nd:=rW.nd;refine⟨_,(ag (fR (i:=2) (j:=3) rfl nd rfl rfl (by decide) rfl rfl (aa (ak (x:="abs") dS rfl (B.at "abs") PyProof.Rows.boot_abs (aa (pv 0) af)) (aa (pv 1) af)) rfl) (ag (dQ PassesOwn.never (aO ka (pv 3) ah (aK _)) (ai (fR (i:=2) (j:=3) rfl nd rfl rfl (by decide) rfl rfl (aa (pv 3) (aa (az gq (pv 2) (pv 3)) af)) rfl))) (ai (aB (bF (aa (az du (pv 0) (pv 2)) (aa (az du (pv 1) (pv 2)) af))))))),?_⟩;refine⟨_,rfl,_,rfl,_,rfl,_,_,rfl,?_⟩;refine dR (fun σ H2=>H2=H/\∃(x y:Int),σ=[some (.int a),some (.int b),some (.int x),some (.int y)]/\0<=x/\0<=y/\Int.gcd x y=Int.gcd a b) (fun σ _=>match σ with|[_,_,_,some (.int y)]=>y.natAbs|_=>0) ?_ ?_ ?_
   · refine⟨rfl,_,_,rfl,by split<;>omega,by omega,?_⟩
     have h1:(if a<0 then-a else a).natAbs=a.natAbs:=by split<;>omega
     unfold Int.gcd;rw[h1]
   · rintro σ H2 ⟨rfl,x,y,rfl,x0,y0,e⟩
     refine⟨_,rfl,_,_,rfl,rfl,_,rfl,?_⟩;refine dk (fun hc=>?_) (fun hc=>?_)
     · have hy':0<y:=of_decide_eq_true hc
       have hy:y≠0:=by omega
       refine⟨_,rfl,_,rfl,_,rfl,_,_,rfl,rfl,hy',_,_,rfl,?_⟩;refine⟨⟨rfl,_,_,rfl,y0,Int.emod_nonneg _ hy,(Ar.wa hy').trans e⟩,?_⟩;show(x%y).natAbs<y.natAbs;have:=Int.emod_nonneg x hy;have:=Int.emod_lt_of_pos x hy';omega
     · have hy:y=0:=by have:¬y>0:=fun z=>hc (decide_eq_true z);omega
       subst hy;rw[Int.gcd_zero_right]at e;have ex:x=((Int.gcd a b:Nat):Int):=by omega
       have hbn:b≠0:=by omega
       have gp:=Ar.jP (p:=a) hbn;have es:Ar.sg a b=(Int.gcd a b:Int):=by unfold Ar.sg;rw[if_neg (by omega)]
       have gw:Wd (Int.gcd a b:Int):=by rw[<-es];exact Nat.lt_of_le_of_lt (Ar.Bw hbn) wb
       obtain⟨e1,e2⟩:=jQ (a:=a) hbn;have f1:a/(Int.gcd a b:Int)=(Rat.divInt a b).num:=by rw[<-e1];unfold Ar.lowP;rw[es,Int.fdiv_eq_ediv_of_nonneg _ (by omega)]
       have f2:b/(Int.gcd a b:Int)=((Rat.divInt a b).den:Int):=by rw[<-e2];unfold Ar.fJ;rw[es,Int.fdiv_eq_ediv_of_nonneg _ (by omega)]
       subst ex;refine⟨_,rfl,_,rfl,_,_,rfl,rfl,⟨gp,gw⟩,_,rfl,_,rfl,_,_,rfl,rfl,⟨gp,gw⟩,aQ _ (Nat.le_of_ble_eq_true rfl),fun t H6 n6=>?_⟩;have at6:=n6.at';simp only[f1,f2]at at6;exact k _ _ ⟨t,rfl,bG.of at6⟩ n6.same
   · rintro σ H2 Q1 Q2 hq ⟨v1,e1,i,j,e3,e4,kk,e5,q⟩
     exact⟨v1,e1,i,j,e3,e4,kk,e5,hq _ _ q⟩
abbrev xM:Stmt:=top 67
theorem xN:aH ["_law_thing"] ["_law_thing"] (ao xM):=⟨rfl,rfl,rfl,by decide+kernel,rfl,by decide+kernel,by decide+kernel⟩
theorem Ao(F:FA K mg "_law_number" xM)(B:dv mg):aw P w K mg base "_law_number" 1 (lO K):=by
 refine F.has xN (fun vs H Q E h=>?_) (fun _ _ _ _ _ _ us hl=>match us,hl with|[_],_=>rfl) (fun f cdv A outer s H vs Q E hr h=>?_)
 · obtain⟨v,T,rfl,_⟩:=h
   rfl
 · obtain⟨v,T,rfl,ty,k⟩:=h
   have nd:=xN.nd;refine⟨_,(ai (aB (cR (ak (x:="isinstance") (dc K rfl) rfl (B.at "isinstance") PyProof.Rows.boot_isinstance (aa (pv 0) (aa (aV (x:="int") (v:=.ty "int") rfl (B.at "int") PyProof.Rows.boot_int rfl) af))) (cU (uW (ak (x:="isinstance") (dc K rfl) rfl (B.at "isinstance") PyProof.Rows.boot_isinstance (aa (pv 0) (aa (aV (x:="bool") (v:=.ty "bool") rfl (B.at "bool") PyProof.Rows.boot_bool rfl) af)))))))),?_⟩;refine⟨_,rfl,.inl ⟨_,T,"int",_,rfl,ty,by decide,rfl,_,rfl,?_⟩⟩;unfold Fz at k;refine dk (fun hc=>?_) (fun hc=>?_)
   · refine⟨_,rfl,.inl ⟨_,T,"bool",_,rfl,ty,by decide,rfl,_,rfl,?_⟩⟩
     rw[hc,Bool.true_and]at k;exact k
   · rw[Bool.eq_false_iff.mpr hc,Bool.false_and]at k
     exact k
end
end Lw
namespace Lw
open PySem PySem.Spec PyProof.Rows L2 Rt Ln
section
variable {P:Program}{w:World}{K:PySem.W.Frag}{mg:Str->Option Value}{base:Heap}
theorem GP:gB "tuple" "tuple"=true:=by decide
theorem GQ:gB "list" "list"=true:=by decide
abbrev Itm:=Option (List Int × Int)
def itR(d:PyData)(o:Itm):Prop:=(∃ns sp,d=cZ ns sp/\o=some (ns,sp))\/∃w x,d= .tuple [.str w,x]/\(w="wait"\/w="tool"\/w="mark")/\iP x=true/\o=none
theorem itR.no{d:PyData}{o:Itm}(h:itR d o):iP d=true:=by
 rcases h with⟨ns,sp,rfl,_⟩|⟨w,x,rfl,_,h,_⟩
 ·exact gL _ _
 ·simp[iP,cD,h]
theorem gW{H:Hp}{v:V}{d:PyData}{o:Itm}(h:RD K H v d)(i:itR d o):∃a w ys,v= .ref a/\bG K H a (.str w::ys)/\(PyData.eqv (.str w) (.str "line")=o.isSome)/\SeqAt.shaped (.str w)=true:=by
 rcases i with⟨ns,sp,rfl,rfl⟩|⟨w,x,rfl,hw,_,rfl⟩
 · obtain⟨a,b,rfl,h1,_⟩:=cH h
   exact⟨a,_,_,rfl,h1,(by show PyData.eqv (.str "line") (.str "line")=true;decide+kernel),by decide+kernel⟩
 · obtain⟨a,xs,rfl,h1,h2⟩:=h.bu
   obtain⟨x1,r1,rfl,e1,h2⟩:=h2.cons_inv;cases e1.str_inv;refine⟨a,w,r1,rfl,h1,?_,?_⟩
   · show PyData.eqv (.str w) (.str "line")=false
     rcases hw with rfl|rfl|rfl<;>decide+kernel
   ·rcases hw with rfl|rfl|rfl<;>decide+kernel
theorem lQ:SeqAt.shaped (.str "line")=true:=by decide+kernel
theorem dG{d:PyData}{ns:List Int}{sp:Int}(h:itR d (some (ns,sp))):d=cZ ns sp:=by
 rcases h with⟨ns',sp',e1,e2⟩|⟨_,_,_,_,_,e2⟩
 ·cases e2;exact e1
 ·cases e2
structure dM(ax:Nat)(ds:List PyData)(os:List Itm):Prop where
 len:ds.length=os.length
 it:∀(i:Nat)(d:PyData)(o:Itm),ds[i]? =some d->os[i]? =some o->itR d o
 ok:∀(i:Nat)(ns:List Int)(sp:Int),os[i]? =some (some (ns,sp))->iD ax 100 ns/\1<=sp/\sp<=20
theorem dM.nil{ax:Nat}:dM ax [] []:=⟨rfl,fun i d o e=>by simp at e,fun i ns sp e=>by simp at e⟩
theorem fG{α:Type}{xs:List α}{x y:α}{j:Nat}(e:(xs++[x])[j]? =some y):xs[j]? =some y\/(j=xs.length/\y=x):=by
 by_cases hj:j<xs.length
 ·rw[List.getElem?_append_left hj]at e;exact .inl e
 · have hj2:j=xs.length:=by have:=(List.getElem?_eq_some_iff.mp e).1;rw[List.length_append]at this;have:j<xs.length+1:=this;omega
   rw[hj2,List.getElem?_append_right (Nat.le_refl _),Nat.sub_self]at e;exact .inr ⟨hj2,(Option.some.inj e).symm⟩
theorem dM.snoc{ax:Nat}{ds:List PyData}{os:List Itm}{d:PyData}{o:Itm}(h:dM ax ds os)(i:itR d o)(g:∀ns sp,o=some (ns,sp)->iD ax 100 ns/\1<=sp/\sp<=20):dM ax (ds++[d]) (os++[o]):=by
 have hl:=h.len;refine⟨by rw[List.length_append,List.length_append,h.len];rfl,fun j d' o' e1 e2=>?_,fun j ns sp e=>?_⟩
 · rcases fG e1 with e1|⟨j1,rfl⟩
   · rcases fG e2 with e2|⟨j2,rfl⟩
     ·exact h.it j d' o' e1 e2
     ·have:=(List.getElem?_eq_some_iff.mp e1).1;omega
   · rcases fG e2 with e2|⟨j2,rfl⟩
     ·have:=(List.getElem?_eq_some_iff.mp e2).1;omega
     ·exact i
 · rcases fG e with e|⟨_,e⟩
   ·exact h.ok j ns sp e
   ·exact g ns sp e.symm
theorem dM.no{ax:Nat}{ds:List PyData}{os:List Itm}(h:dM ax ds os):cD ds=true:=bS.mpr fun d hd=>by obtain⟨i,hi⟩:=List.mem_iff_getElem?.mp hd;have hl:=(List.getElem?_eq_some_iff.mp hi).1;exact(h.it i d _ hi (List.getElem?_eq_getElem (by rw[<-h.len];exact hl))).no
theorem dM.get{ax:Nat}{ds:List PyData}{os:List Itm}(h:dM ax ds os){i:Nat}{d:PyData}(e:ds[i]? =some d):∃o,os[i]? =some o/\itR d o:=by have hl:=(List.getElem?_eq_some_iff.mp e).1;have e2:=List.getElem?_eq_getElem (show i<os.length by rw[<-h.len];exact hl);exact⟨_,e2,h.it i d _ e e2⟩
inductive rX(K:PySem.W.Frag)(vs:List V)(H:Hp)(Q:VK):Prop |mk (v:_)(d:_)(o:_)(h0:vs=[v])(h1:RD K H v d)(h2:itR d o)(h3:Q (.bl o.isSome) H):rX K vs H Q
def jt(K:PySem.W.Frag):Sp:=fun vs H Q _=>rX K vs H Q
abbrev xO:Stmt:=top 45
theorem xP:aH ["item"] ["item"] (ao xO):=⟨rfl,rfl,rfl,by decide+kernel,rfl,by decide+kernel,by decide+kernel⟩
theorem Ap(F:FA K mg "is_line" xO)(B:dv mg):aw P w K mg base "is_line" 1 (jt K):=by
 refine F.has xP (fun vs H Q E h=>?_) (fun _ _ _ _ _ _ us hl=>match us,hl with|[_],_=>rfl) (fun f cdv A outer s H vs Q E hr h=>?_)
 · obtain⟨v,d,o,rfl,_⟩:=h
   rfl
 · obtain⟨v,d,o,rfl,ri,it,k⟩:=h
   have nd:=xP.nd;refine⟨_,(ai (aB (bJ (fT K rfl hr.units) (aM (cw K rfl) (pv 0) ah (fun _ _=>rfl)) aJ (aK _)))),?_⟩;obtain⟨a,wd,ys,rfl,h1,ew,sw⟩:=gW ri it;refine⟨_,rfl,.inr ⟨a,_,0,.str wd,rfl,rfl,h1,bB (Int.le_refl 0) rfl,.inr ⟨_,_,bQ _,bQ _,sw,lQ,?_⟩⟩⟩;rw[ew];exact k
def FC:Str:="abcdefghijklmnopqrstuvwxyz"
end
end Lw
namespace Lw
open PySem PySem.Spec PyProof.Rows L2 Rt Ln
section
variable {P:Program}{w:World}{K:PySem.W.Frag}{mg:Str->Option Value}{base:Heap}
end
end Lw
namespace Lw
open PySem PySem.Spec PyProof.Rows L2 Rt
section
variable {P:Program}{w:World}{K:PySem.W.Frag}{mg:Str->Option Value}{base:Heap}
def GR(ns:List Int):PyData:=.tuple (ns.map fun z=>cN (Rat.divInt z (Ln.ay ns)))
theorem fP(r:Rat):iP (cN r)=true:=by simp[cN,iP,cD]
theorem o7{α:Type}{f:α->PyData}(h:∀a,iP (f a)=true)(l:List α):cD (l.map f)=true:=bS.mpr fun d hd=>by obtain⟨a,_,rfl⟩:=List.mem_map.mp hd;exact h a
inductive rY(K:PySem.W.Frag)(vs:List V)(H:Hp)(Q:VK):Prop |mk (v:_)(ns:_)(sp:_)(h0:vs=[v])(h1:RD K H v (cZ ns sp))(h2:iD ns.length 1000 ns)(h3:ns.length<=1000)(h4:∀v' H',RD K H' v' (GR ns)->aI H H'->Q v' H'):rY K vs H Q
def xQ(K:PySem.W.Frag):Sp:=fun vs H Q _=>rY K vs H Q
abbrev xR:Stmt:=top 24
theorem xS:aH ["line","lead"] ["line"] (ao xR):=⟨rfl,rfl,rfl,by decide+kernel,rfl,by decide+kernel,by decide+kernel⟩
theorem Aq(F:FA K mg "ways_of" xR)(B:dv mg)(hlead_of:aw P w K mg base "lead_of" 1 (fq K))(hfraction:aw P w K mg base "fraction" 3 (uB K)):aw P w K mg base "ways_of" 4 (xQ K):=by
 refine F.has xS (fun vs H Q E h=>?_) (fun _ _ _ _ _ _ us hl=>match us,hl with|[_],_=>rfl) (fun f cdv A outer s H vs Q E hr h=>?_)
 · obtain⟨v,ns,sp,rfl,_⟩:=h
   rfl
 · obtain⟨v,ns,sp,rfl,rd,ok,hz,k⟩:=h
   have nd:=xS.nd;refine⟨_,(ag (aF (i:=1) nd rfl (Or.inr rfl) (aE hlead_of (hr.mono (by decide)) rfl (aa (pv 0) af))) (ai (aB (bI (x:="tuple") (fe K rfl) rfl (B.at "tuple") PyProof.Rows.boot_tuple (aa (bT (N:=["step","lead"]) (js:=[none,some 1]) rfl rfl rfl (Bs K rfl (aM (cw K rfl) (pv 0) ah (fun _ _=>rfl))) (fun _ _ _ _ _=>(aA (i:=0) (show List.Nodup (["step","lead"]:List Str) by decide+kernel) rfl (Or.inl rfl))) (fun _ _ _ _ _=>bM) (fun _ _ _ _ _=>(aE hfraction (hr.mono (by decide)) rfl (aa (pv 0) (aa (pv 1) af))))) af))))),?_⟩;refine⟨_,rfl,v,ns,sp,rfl,rd,ok.ne,hz,fun H1 s1=>?_⟩;obtain⟨a,b,rfl,ha,hb⟩:=cH (RD.mono s1 _ rd);obtain⟨lp,lm⟩:=ok.lead;refine⟨_,rfl,.inr ⟨a,_,1,.ref b,rfl,rfl,ha,rfl,b,rfl,⟨_,hb⟩,fun D H0 nw=>?_⟩⟩;refine iQ (K:=K) (xs:=ns.map V.int) (ds:=ns.map fun z=>cN (Rat.divInt z (Ln.ay ns))) _ hb nw (by simp) (by simpa using hz) (o7 (fun _=>fP _) _) ?_ ?_
   · intro i x d H2 Q' ex ed s2 hq
     obtain⟨n,en,rfl⟩:=dB ed;cases gM ex en;refine⟨_,rfl,_,rfl,n,_,rfl,by omega,lP (n:=20) (by omega) (by decide),fun v3 H3 r3 s3=>?_⟩;exact hq _ _ s3 r3.rd
   · intro H' ys s2 d2 r2
     refine⟨D,_,rfl,.inl ⟨bc.of d2,fun t H4 n4=>?_⟩⟩;exact k _ _ (e9 (bG.of n4.at') (bj.mono n4.same _ r2)) (s1.trans (s2.trans n4.same))
end
end Lw
namespace Lw
open PySem PySem.Spec PyProof.Rows L2
section
variable {P:Program}{w:World}{K:PySem.W.Frag}{mg:Str->Option Value}{base:Heap}
end
end Lw
namespace Lw
open PySem PySem.Spec PyProof.Rows L2
section
variable {P:Program}{w:World}{K:PySem.W.Frag}{mg:Str->Option Value}{base:Heap}
theorem GS:gB "tuple" "tuple"=true:=by decide
theorem o8(d:PyData):(∃i,d= .int i/\Fz (zC d)=true)\/(Fz (zC d)=false/\∀i,d≠ .int i):=by cases d with |int i=>exact .inl ⟨i,rfl,by simp[zC];decide⟩ |_=>exact .inr ⟨by simp[zC];decide,fun _ z=>nomatch z⟩
theorem jv(d:PyData):(∃ds,d= .tuple ds)\/(gB (zC d) "tuple"=false/\∀ds,d≠ .tuple ds):=by cases d with |tuple ds=>exact .inl ⟨ds,rfl⟩ |_=>exact .inr ⟨by simp[zC];decide,fun _ z=>nomatch z⟩
def kD(lo hi:Int):PyData->Bool | .int i=>decide (lo<=i)&&decide (i<=hi) |_=>false
theorem DU{lo hi:Int}{d:PyData}(h:∀i,d≠ .int i):kD lo hi d=false:=by cases d<;>first|rfl|exact absurd rfl (h _)
inductive BN(K:PySem.W.Frag)(vs:List V)(H:Hp)(Q:VK):Prop |mk (v:_)(d:_)(lo:_)(hi:_)(h0:vs=[v,.int lo,.int hi])(h1:RD K H v d)(h2:Q (.bl (kD lo hi d)) H):BN K vs H Q
def pU(K:PySem.W.Frag):Sp:=fun vs H Q _=>BN K vs H Q
abbrev Jb:Stmt:=top 10
theorem GU:aH ["thing","low","high"] ["thing","low","high"] (ao Jb):=⟨rfl,rfl,rfl,by decide+kernel,rfl,by decide+kernel,by decide+kernel⟩
theorem GW(F:FA K mg "is_whole_within" Jb)(B:dv mg)(his_whole:aw P w K mg base "is_whole" 1 (lO K)):aw P w K mg base "is_whole_within" 2 (pU K):=by
 refine F.has GU (fun vs H Q E h=>?_) (fun _ _ _ _ _ _ us hl=>match us,hl with|[_,_,_],_=>rfl) (fun f cdv A outer s H vs Q E hr h=>?_)
 · obtain⟨v,d,lo,hi,rfl,_⟩:=h
   rfl
 · obtain⟨v,d,lo,hi,rfl,rd,k⟩:=h
   have nd:=GU.nd;refine⟨_,(ai (aB (cR (aE his_whole (hr.mono (by decide)) rfl (aa (pv 0) af)) (cU (kb jz jz (pv 1) (pv 0) (pv 2)))))),?_⟩;refine⟨_,rfl,_,_,rfl,rd.ty,_,rfl,?_⟩;rcases o8 d with⟨i,rfl,e⟩|⟨e,hn⟩
   · cases rd.int_inv
     rw[e];refine bK ?_;have k:Q (.bl (decide (lo<=i)&&decide (i<=hi))) H:=k;refine⟨_,rfl,_,rfl,_,_,rfl,rfl,_,rfl,?_⟩;refine dk (fun hc=>?_) (fun hc=>?_)
     · have hc':decide (lo<=i)=true:=hc
       rw[hc',Bool.true_and]at k;exact⟨_,rfl,_,_,rfl,rfl,k⟩
     · have hc':decide (lo<=i)=false:=Bool.eq_false_iff.mpr hc
       rw[hc',Bool.false_and]at k;exact k
   · rw[e]
     refine bw ?_;rw[DU hn]at k;exact k
end
end Lw
namespace Lw
open PySem PySem.Spec PyProof.Rows L2 Rt Ln Cn
section
variable {P:Program}{w:World}{K:PySem.W.Frag}{mg:Str->Option Value}{base:Heap}
theorem xT{ns ms:List Int}{i:Nat}{a b:Int}(h1:ns[i]? =some a)(h2:ms[i]? =some b):(bp ns ms)[i]? =some (a*(ay ms:Int)-b*(ay ns:Int)):=by unfold bp;rw[List.getElem?_map,(List.getElem?_zip_eq_some (z:=(a,b))).mpr ⟨h1,h2⟩];rfl
def o9(j:Int)(ns ms:List Int):PyData:=if ay (bp ns ms)=0 then .none else cN (Rat.divInt ((j*ay ns*ay ms)^2) ((ay (bp ns ms):Int)^2))
inductive rZ(K:PySem.W.Frag)(vs:List V)(H:Hp)(Q:VK):Prop |mk (v:_)(v1:_)(v2:_)(rs:_)(r:_)(f:_)(j:_)(t:_)(ns:_)(ms:_)(sp1:_)(sp2:_)(h0:vs=[v,v1,v2])(h1:RD K H v (eZ rs r f j t))(h2:RD K H v1 (cZ ns sp1))(h3:RD K H v2 (cZ ms sp2))(h4:iD ns.length 1000 ns)(h5:iD ns.length 1000 ms)(h6:ns.length<=1000)(h7:1<=j)(h8:j<=50)(h9:∀v' H',RD K H' v' (o9 j ns ms)->aI H H'->Q v' H'):rZ K vs H Q
def pV(K:PySem.W.Frag):Sp:=fun vs H Q _=>rZ K vs H Q
theorem zip2{ns ms:List Int}(h:ms.length=ns.length){i:Nat}{x y:V}(ex:(ns.map V.int)[i]? =some x)(ey:(ms.map V.int)[i]? =some y):∃a b,ns[i]? =some a/\ms[i]? =some b/\x= .int a/\y= .int b:=by rw[List.getElem?_map]at ex ey;cases e1:ns[i]? with |none=>rw[e1]at ex;cases ex |some a=>cases e2:ms[i]? with |none=>rw[e2]at ey;cases ey |some b=>rw[e1]at ex;rw[e2]at ey;exact⟨a,b,rfl,rfl,(Option.some.inj ex).symm,(Option.some.inj ey).symm⟩
inductive sf(K:PySem.W.Frag)(vs:List V)(H:Hp)(Q:VK):Prop |mk (v1:_)(v2:_)(ns:_)(ms:_)(sp1:_)(sp2:_)(h0:vs=[v1,v2])(h1:RD K H v1 (cZ ns sp1))(h2:RD K H v2 (cZ ms sp2))(h3:iD ns.length 1000 ns)(h4:iD ns.length 1000 ms)(h5:ns.length<=1000)(h6:∀v' H',aY K H' v' (Rat.divInt (ay (bp ns ms)) ((ay ns:Int)*ay ms))->aI H H'->Q v' H'):sf K vs H Q
def xU(K:PySem.W.Frag):Sp:=fun vs H Q _=>sf K vs H Q
abbrev xV:Stmt:=top 34
theorem xW:aH ["one","other","greatest","way","new_way","p","q","difference"] ["one","other"] (ao xV):=⟨rfl,rfl,rfl,by decide+kernel,rfl,by decide+kernel,by decide+kernel⟩
theorem As(F:FA K mg "greatest_turn" xV)(B:dv mg)(hways_of:aw P w K mg base "ways_of" 4 (xQ K))(hminus:aw P w K mg base "minus" 3 (kT (·-·) K))(his_less:aw P w K mg base "is_less" 1 (jr K)):aw P w K mg base "greatest_turn" 5 (xU K):=by
 refine F.has xW (fun vs H Q E h=>?_) (fun _ _ _ _ _ _ us hl=>match us,hl with|[_,_],_=>rfl) (fun f cdv A outer s H vs Q E hr h=>?_)
 · obtain⟨v1,v2,ns,ms,sp1,sp2,rfl,_⟩:=h
   rfl
 · obtain⟨v1,v2,ns,ms,sp1,sp2,rfl,rd1,rd2,ok1,ok2,hz,k⟩:=h
   have nd:=xW.nd;obtain⟨lp1,lm1⟩:=ok1.lead;obtain⟨lp2,lm2⟩:=ok2.lead;have hz2:ms.length<=1000:=by rw[ok2.len];exact hz
   have ok2':iD ms.length 1000 ms:=⟨rfl,ok2.bd,ok2.nz⟩;have cb:=iT (fun z hz=>by have:=ok1.bd z hz;omega) (fun z hz=>by have:=ok2.bd z hz;omega) (ns:=ns) (ms:=ms);have L0:(0:Int)<(ay ns:Int)*ay ms:=Int.mul_pos (by omega) (by omega);have Lb:((ay ns:Int)*ay ms).natAbs<=1000*1000:=fg (by omega) (by omega);have clen:(bp ns ms).length=ns.length:=by simp[bp,ok2.len]
   have hbd:∀c:Int,c.natAbs<=2000000->Bd 2000 (Rat.divInt c ((ay ns:Int)*ay ms)):=fun c hc=>(eG (n:=30) (by omega) (by omega) (by omega)).mono (by decide);refine⟨_,(ag (aF (i:=2) nd rfl (Or.inl rfl) (bF (aa ah (aa ah af)))) (ag (fc PassesOwn.never rfl (dy K rfl false false rfl (B.at "zip") (aa (aE hways_of (hr.mono (by decide)) rfl (aa (pv 0) af)) (aa (aE hways_of (hr.mono (by decide)) rfl (aa (pv 1) af)) af))) (gD K rfl (n:=2) rfl (aD (aA (i:=3) nd rfl (Or.inl rfl)) (aD (aA (i:=4) nd rfl (Or.inl rfl)) aZ))) (ag (cx (aE hminus (hr.mono (by decide)) rfl (aa (pv 4) (aa (pv 3) af))) (gD K rfl (n:=2) rfl (aD (aA (i:=5) nd rfl (Or.inl rfl)) (aD (aA (i:=6) nd rfl (Or.inl rfl)) aZ)))) (ag (aF (i:=7) nd rfl (Or.inl rfl) (bF (aa (ak (x:="abs") dS rfl (B.at "abs") PyProof.Rows.boot_abs (aa (pv 5) af)) (aa (pv 6) af)))) (ai (aR (bh (aE his_less (hr.mono (by decide)) rfl (aa (pv 2) (aa (pv 7) af)))) (ai (aF (i:=2) nd rfl (Or.inl rfl) (pv 7))) aL))))) (ai (aB (pv 2))))),?_⟩;refine⟨aQ _ (Nat.le_of_ble_eq_true rfl),fun g0 H1 n1=>?_⟩;refine⟨_,rfl,v1,ns,sp1,rfl,RD.mono n1.same _ rd1,ok1,hz,fun w1 H2 r2 s2=>?_⟩;have t2:=n1.same.trans s2;refine⟨_,rfl,v2,ms,sp2,rfl,RD.mono t2 _ rd2,ok2',hz2,fun w2 H3 r3 s3=>?_⟩;have t3:=t2.trans s3;obtain⟨c1,xs1,rfl,h1,q1⟩:=(RD.mono s3 _ r2).bu;obtain⟨c2,xs2,rfl,h2,q2⟩:=r3.bu;have l1:=q1.length;have l2:=q2.length;rw[List.length_map]at l1 l2;refine⟨c1,c2,rfl,⟨_,h1⟩,⟨_,h2⟩,?_⟩;refine A5 (K:=K) (b1:=false) (b2:=false) (xs:=xs1) (ys:=xs2) ns.length (by rw[l1,l2,ok2.len];omega) (fun i σ H4=>aI H3 H4/\∃g u1 u2 u3 u4 u5,aY K H4 g (Rat.divInt (Bz (bp ns ms) i) ((ay ns:Int)*ay ms))/\σ=[some v1,some v2,some g,u1,u2,u3,u4,u5]) ?_ (fun i σ H4 _ h=>⟨h1.go h.1,h2.go h.1⟩) ?_ ?_
   · refine⟨aI.refl _,.ref g0,none,none,none,none,none,⟨g0,rfl,?_⟩,rfl⟩
     have e0:Rat.divInt ((Bz (bp ns ms) 0:Nat):Int) ((ay ns:Int)*ay ms)=0:=by show Rat.divInt 0 _=0;exact Rat.zero_divInt _
     rw[e0];exact bG.of (s3 _ _ (s2 _ _ n1.at'))
   · rintro i x y σ H4 ex ey ⟨s4,g,u1,u2,u3,u4,u5,rg,rfl⟩ T H5 n5
     obtain⟨d1,e1,rx⟩:=q1.get' i ex;obtain⟨d2,e2,ry⟩:=q2.get' i ey;obtain⟨a,ea,rfl⟩:=dB e1;obtain⟨b,eb,rfl⟩:=dB e2;have qa:=ok1.bd a (List.mem_of_getElem? ea);have qb:=ok2.bd b (List.mem_of_getElem? eb);have cz:=xT ea eb;have czb:=cb _ (List.mem_of_getElem? cz);have t5:=s4.trans n5.same;refine⟨T,_,rfl,bG.of n5.at',rfl,_,_,rfl,_,_,rfl,rfl,?_⟩;have iy:∀{H':Hp}{v:V}{r:Rat},RD K H' v (cN r)->aY K H' v r:=fun{H' v r} h=>by obtain⟨p,xs,rfl,h1,h2⟩:=h.bu;have:=h2.ck (ns:=[r.num,r.den]);subst this;exact⟨p,rfl,h1⟩
     refine⟨_,rfl,_,rfl,y,x,_,_,rfl,iy (RD.mono t5 _ ry),iy (RD.mono t5 _ rx),(eG (n:=30) (by omega) (by omega) (by omega)).mono (by decide),(eG (n:=30) (by omega) (by omega) (by omega)).mono (by decide),fun v6 H6 r6 s6=>?_⟩;have ed:Rat.divInt b (ay ms)-Rat.divInt a (ay ns)=Rat.divInt (b*ay ns-a*ay ms) ((ay ns:Int)*ay ms):=wH (by omega) (by omega);have r6:aY K H6 v6 (Rat.divInt b (ay ms)-Rat.divInt a (ay ns)):=r6;rw[ed]at r6;obtain⟨p6,rfl,h6⟩:=r6;refine⟨p6,_,rfl,h6,rfl,_,_,rfl,_,_,rfl,rfl,?_⟩;refine⟨_,rfl,_,rfl,_,rfl,aQ _ (Nat.le_of_ble_eq_true rfl),fun dd H7 n7=>?_⟩;have s57:=s6.trans n7.same;have rD:aY K H7 (.ref dd) (Rat.divInt (((a*(ay ms:Int)-b*(ay ns:Int)).natAbs:Nat):Int) ((ay ns:Int)*ay ms)):=by
      have e:Rat.divInt (((a*(ay ms:Int)-b*(ay ns:Int)).natAbs:Nat):Int) ((ay ns:Int)*ay ms)=pH (Rat.divInt (b*ay ns-a*ay ms) ((ay ns:Int)*ay ms)):=by rw[wD L0,iR];congr 1;omega
      rw[e];refine⟨dd,rfl,?_⟩;rw[wB,wC];exact bG.of n7.at'
     have rG:aY K H7 g _:=(rg.go n5.same).go s57;have hG:Bz (bp ns ms) i<=2000000:=dU fun z hz=>cb z (List.mem_of_mem_take hz);refine⟨_,rfl,_,rfl,g,.ref dd,_,_,rfl,rG,rD,hbd _ (by omega),hbd _ (by omega),_,rfl,?_⟩;have hs:=wA cz;refine dk (fun hc=>?_) (fun hc=>?_)
     · have hlt:=(wG L0).mp (of_decide_eq_true hc)
       refine⟨_,rfl,?_⟩;refine⟨t5.trans s57,_,_,_,_,_,_,?_,rfl⟩;rw[hs,Nat.max_eq_right (by omega)];exact rD
     · have hge:¬_:=fun z=>hc (decide_eq_true ((wG L0).mpr z))
       refine⟨t5.trans s57,_,_,_,_,_,_,?_,rfl⟩;rw[hs,Nat.max_eq_left (by omega)];exact rG
   · rintro σ H4 ⟨s4,g,u1,u2,u3,u4,u5,rg,rfl⟩
     refine⟨_,rfl,k _ _ ?_ (t3.trans s4)⟩;have:Bz (bp ns ms) ns.length=ay (bp ns ms):=by unfold Bz;rw[List.take_of_length_le (by omega)]
     rw[this]at rg;exact rg
abbrev pW:Stmt:=top 31
theorem si:aH ["machine","one","other","jump","p","q"] ["machine","one","other"] (ao pW):=⟨rfl,rfl,rfl,by decide+kernel,rfl,by decide+kernel,by decide+kernel⟩
theorem xX(F:FA K mg "corner_square" pW)(B:dv mg)(hgreatest_turn:aw P w K mg base "greatest_turn" 5 (xU K))(hfraction:aw P w K mg base "fraction" 3 (uB K)):aw P w K mg base "corner_square" 6 (pV K):=by
 refine F.has si (fun vs H Q E h=>?_) (fun _ _ _ _ _ _ us hl=>match us,hl with|[_,_,_],_=>rfl) (fun f cdv A outer s H vs Q E hr h=>?_)
 · obtain⟨v,v1,v2,rs,r,f',j,t,ns,ms,sp1,sp2,rfl,_⟩:=h
   rfl
 · obtain⟨v,v1,v2,rs,r,f',j,t,ns,ms,sp1,sp2,rfl,rd,rd1,rd2,ok1,ok2,hz,j1,j2,k⟩:=h
   have nd:=si.nd;obtain⟨lp1,lm1⟩:=ok1.lead;obtain⟨lp2,lm2⟩:=ok2.lead;have L0:(0:Int)<(ay ns:Int)*ay ms:=Int.mul_pos (by omega) (by omega);have Lb:((ay ns:Int)*ay ms).natAbs<=1000*1000:=fg (by omega) (by omega);have cb:=iT (fun z hz=>by have:=ok1.bd z hz;omega) (fun z hz=>by have:=ok2.bd z hz;omega) (ns:=ns) (ms:=ms);have hH:=dU cb;refine⟨_,(ag (aF (i:=3) nd rfl (Or.inl rfl) (aM (cw K rfl) (pv 0) ah (fun _ _=>rfl))) (ag (cx (aE hgreatest_turn (hr.mono (by decide)) rfl (aa (pv 1) (aa (pv 2) af))) (gD K rfl (n:=2) rfl (aD (aA (i:=4) nd rfl (Or.inl rfl)) (aD (aA (i:=5) nd rfl (Or.inl rfl)) aZ)))) (ag (aR (aO (fT K rfl hr.units) (pv 4) ah (aK _)) (ai (aB dN)) aL) (ai (aB (aE hfraction (hr.mono (by decide)) rfl (aa (az aG (az aG (az aG (pv 3) (pv 3)) (pv 5)) (pv 5)) (aa (az aG (pv 4) (pv 4)) af)))))))),?_⟩;obtain⟨am,bm,rfl,hma,hmb⟩:=cI rd;refine⟨_,rfl,.inr ⟨am,_,3,.int j,rfl,rfl,hma,rfl,?_⟩⟩;refine⟨_,rfl,_,rfl,v1,v2,ns,ms,sp1,sp2,rfl,rd1,rd2,ok1,ok2,hz,fun v3 H3 r3 s3=>?_⟩;obtain⟨b30⟩:Nonempty (Bd 30 (Rat.divInt (ay (bp ns ms)) ((ay ns:Int)*ay ms))):=⟨eG (n:=30) (by omega) (by omega) (by omega)⟩;have en:=Rat.num_divInt_den (Rat.divInt (ay (bp ns ms)) ((ay ns:Int)*ay ms));obtain⟨R,hR⟩:∃R,Rat.divInt (ay (bp ns ms)) ((ay ns:Int)*ay ms)=R:=⟨_,rfl⟩;rw[hR]at r3 b30 en;have dp:=den_pos R;have cross:R.num*((ay ns:Int)*ay ms)=ay (bp ns ms)*R.den:=by rw[<-hR]at en;have:=(Rat.divInt_eq_divInt_iff (by rw[hR];omega) (by omega)).mp en;rw[hR]at this;exact this
   have nb:=b30.num;have db:=b30.den;obtain⟨p3,rfl,h3⟩:=r3;refine⟨p3,_,rfl,h3,rfl,_,_,rfl,_,_,rfl,rfl,?_⟩;refine⟨_,rfl,.inl ⟨_,_,rfl,rfl,_,rfl,?_⟩⟩;refine dk (fun hc=>?_) (fun hc=>?_)
   · have h0:R.num=0:=by simpa using hc
     have hl:ay (bp ns ms)=0:=by
      rw[h0,Int.zero_mul]at cross;rcases Int.mul_eq_zero.mp cross.symm with h|h
      ·omega
      ·omega
     refine k .cG H3 ?_ s3;unfold o9;rw[if_pos hl];exact Dr
   · have h0:R.num≠0:=by simpa using hc
     have hl:ay (bp ns ms)≠0:=by
      intro z;rw[z]at cross;have:R.num*((ay ns:Int)*ay ms)=0:=by rw[cross];exact Int.zero_mul _
      rcases Int.mul_eq_zero.mp this with h|h
      ·exact h0 h
      ·omega
     have m1:(j*j).natAbs<=50*50:=fg (by omega) (by omega);have h64:(2:Nat)^64=18446744073709551616:=by decide
     refine⟨_,rfl,_,rfl,_,_,rfl,rfl,.of_left (intBits_le_64 (by omega) (by omega)),_,rfl,_,_,rfl,rfl,.of_left (intBits_le_64 (by omega) (by omega)),_,rfl,_,_,rfl,rfl,.of_right (intBits_le_64 (by omega) (by omega)),?_⟩;refine⟨_,rfl,_,rfl,_,_,rfl,rfl,.of_left (intBits_le_64 (by omega) (by omega)),?_⟩;refine⟨_,_,rfl,Int.mul_ne_zero h0 h0,?_,fun v4 H4 r4 s4=>?_⟩
     · refine lP (n:=60) ?_ (by decide)
       rw[Int.natAbs_mul];exact ff (n:=30) (m:=30) nb nb
     · refine k _ _ ?_ (s3.trans s4)
       unfold o9;rw[if_neg hl];have e:=uq (j:=j) (p:=R.num) (q:=R.den) (h:=ay (bp ns ms)) (L:=(ay ns:Int)*ay ms) h0 (by omega) cross;rw[e,<-Int.mul_assoc]at r4;exact r4.rd
def xY (d:PyData):Bool:=kD 10 200 d
inductive sj(K:PySem.W.Frag)(vs:List V)(H:Hp)(Q:VK):Prop |mk (v:_)(d:_)(h0:vs=[v])(h1:RD K H v d)(h2:Q (.bl (xY d)) H):sj K vs H Q
def pX(K:PySem.W.Frag):Sp:=fun vs H Q _=>sj K vs H Q
abbrev mG:Stmt:=top 33
theorem oa:aH ["thing"] ["thing"] (ao mG):=⟨rfl,rfl,rfl,by decide+kernel,rfl,by decide+kernel,by decide+kernel⟩
theorem uC(F:FA K mg "is_rate" mG)(B:dv mg)(h_LEAST_RATE:GV mg "LEAST_RATE" (.int 10))(h_GREATEST_RATE:GV mg "GREATEST_RATE" (.int 200))(his_whole_within:aw P w K mg base "is_whole_within" 2 (pU K)):aw P w K mg base "is_rate" 3 (pX K):=by
 refine F.has oa (fun vs H Q E h=>?_) (fun _ _ _ _ _ _ us hl=>match us,hl with|[_],_=>rfl) (fun f cdv A outer s H vs Q E hr h=>?_)
 · obtain⟨v,d,rfl,_⟩:=h
   rfl
 · obtain⟨v,d,rfl,rd,k⟩:=h
   have nd:=oa.nd;refine⟨_,(ai (aB (aE his_whole_within (hr.mono (by decide)) rfl (aa (pv 0) (aa (eg (x:="LEAST_RATE") rfl h_LEAST_RATE) (aa (eg (x:="GREATEST_RATE") rfl h_GREATEST_RATE) af)))))),?_⟩;exact⟨_,rfl,v,d,10,200,rfl,rd,k⟩
inductive xZ(K:PySem.W.Frag)(vs:List V)(H:Hp)(Q:VK):Prop |mk (v:_)(ns:_)(sp:_)(r:_)(h0:vs=[v,.int r])(h1:RD K H v (cZ ns sp))(h2:1<=sp)(h3:sp<=20)(h4:10<=r)(h5:r<=200)(h6:∀v' H',aY K H' v' (Rat.divInt ((sp*r)^2) 10000)->aI H H'->Q v' H'):xZ K vs H Q
def sm(K:PySem.W.Frag):Sp:=fun vs H Q _=>xZ K vs H Q
theorem JB(a b:Int):a*a*b*b=(a*b)^2:=by rw[Int.pow_succ,Int.pow_succ,Int.pow_zero,Int.one_mul];ac_rfl
theorem Au{r:Int}(h1:10<=r)(h2:r<=200):xY (.int r)=true:=by show(decide (10<=r)&&decide (r<=200))=true;rw[decide_eq_true h1,decide_eq_true h2];rfl
abbrev DV:Stmt:=top 32
theorem BO:aH ["line","rate","speed"] ["line","rate"] (ao DV):=⟨rfl,rfl,rfl,by decide+kernel,rfl,by decide+kernel,by decide+kernel⟩
theorem DW(F:FA K mg "top_square" DV)(B:dv mg)(his_rate:aw P w K mg base "is_rate" 3 (pX K))(hfraction:aw P w K mg base "fraction" 3 (uB K)):aw P w K mg base "top_square" 4 (sm K):=by
 refine F.has BO (fun vs H Q E h=>?_) (fun _ _ _ _ _ _ us hl=>match us,hl with|[_,_],_=>rfl) (fun f cdv A outer s H vs Q E hr h=>?_)
 · obtain⟨v,ns,sp,r,rfl,_⟩:=h
   rfl
 · obtain⟨v,ns,sp,r,rfl,rd,s1,s2,r1,r2,k⟩:=h
   have nd:=BO.nd;refine⟨_,(ag (aR (cf (bh (aE his_rate (hr.mono (by decide)) rfl (aa (pv 1) af)))) (ai fU) aL) (ag (aF (i:=2) nd rfl (Or.inl rfl) (aM (cw K rfl) (pv 0) ah (fun _ _=>rfl))) (ai (aB (aE hfraction (hr.mono (by decide)) rfl (aa (az aG (az aG (az aG (pv 2) (pv 2)) (pv 1)) (pv 1)) (aa (az aG ah ah) af))))))),?_⟩;refine⟨_,rfl,_,.int r,rfl,bU r,_,rfl,?_⟩;rw[Au r1 r2];refine bw ?_;obtain⟨a,b,rfl,ha,hb⟩:=cH rd;refine⟨_,rfl,.inr ⟨a,_,2,.int sp,rfl,rfl,ha,rfl,?_⟩⟩;have m1:(sp*sp).natAbs<=20*20:=by rw[Int.natAbs_mul];exact Nat.mul_le_mul (by omega) (by omega)
   refine⟨_,rfl,_,rfl,_,_,rfl,rfl,.of_left (intBits_le_64 (by omega) (by omega)),_,rfl,_,_,rfl,rfl,.of_left (intBits_le_64 (by omega) (by omega)),_,rfl,_,_,rfl,rfl,.of_right (intBits_le_64 (by omega) (by omega)),?_⟩;refine⟨_,_,rfl,rfl,.of_left (intBits_le_64 (by decide) (by decide)),?_⟩;refine⟨_,_,rfl,by decide,lP (n:=20) (by decide) (by decide),fun v' H' r' s'=>k v' H' ?_ s'⟩;rw[JB]at r';exact r'
inductive sx(K:PySem.W.Frag)(vs:List V)(H:Hp)(Q:VK):Prop |mk (v:_)(ns:_)(sp:_)(r:_)(h0:vs=[v,.int r])(h1:RD K H v (cZ ns sp))(h2:1<=sp)(h3:sp<=20)(h4:10<=r)(h5:r<=200)(h6:∀v' H',aY K H' v' (Rat.divInt ((sp*r)^2) 10000)->aI H H'->Q v' H'):sx K vs H Q
def pY(K:PySem.W.Frag):Sp:=fun vs H Q _=>sx K vs H Q
abbrev y4:Stmt:=top 78
theorem y6:aH ["_law_line_here","_law_rate"] ["_law_line_here","_law_rate"] (ao y4):=⟨rfl,rfl,rfl,by decide+kernel,rfl,by decide+kernel,by decide+kernel⟩
end
end Lw
namespace Lw
open PySem PySem.Spec PyProof.Rows L2 Rt Ln Cn Pn
open Ow (topR cornO mnO betR atO ownF leadF ownL OkI OkIs)
section
variable {P:Program}{w:World}{K:PySem.W.Frag}{mg:Str->Option Value}{base:Heap}
theorem DX(n:Nat)(h:n<=1000):n<sizeLine:=Nat.lt_of_le_of_lt h (by decide)
theorem iy{H:Hp}{v:V}{r:Rat}(h:RD K H v (cN r)):aY K H v r:=by obtain⟨p,xs,rfl,h1,h2⟩:=h.bu;have:=h2.ck (ns:=[r.num,r.den]);subst this;exact⟨p,rfl,h1⟩
theorem iD.up{ax:Nat}{ns:List Int}(h:iD ax 100 ns):iD ns.length 1000 ns:=⟨rfl,fun z hz=>by have:=h.bd z hz;omega,h.nz⟩
theorem dM.FD{ax:Nat}{ds:List PyData}{os:List Itm}(h:dM ax ds os):OkIs os:=fun i ns sp e=>by unfold atO at e;cases ho:os[i]? with |none=>rw[ho]at e;cases e |some o=>rw[ho]at e;have e':o=some (ns,sp):=e;subst e';obtain⟨a,b,c⟩:=h.ok i ns sp ho;exact⟨a.bd,b,c⟩
theorem jw{H:Hp}{a:Addr}(h:bG K H a [.int 0,.int 1]):aY K H (.ref a) 0:=⟨a,rfl,h⟩
theorem Av(j:Int)(ns ms:List Int):o9 j ns ms=match cornO j ns ms with|none=>.none|some c=>cN c:=by unfold o9 cornO;split<;>rfl
inductive y8(K:PySem.W.Frag)(vs:List V)(H:Hp)(Q:VK):Prop |mk (m:_)(v1:_)(v2:_)(rate:_)(rs:_)(r:_)(f:_)(j:_)(t:_)(d1:_)(d2:_)(o1:_)(o2:_)(ax:_)(h0:vs=[m,v1,v2,.int rate])(h1:RD K H m (eZ rs r f j t))(h2:1<=j)(h3:j<=50)(h4:RD K H v1 d1)(h5:RD K H v2 d2)(h6:itR d1 o1)(h7:itR d2 o2)(h8:(∀ns sp,o1=some (ns,sp)->iD ax 100 ns/\1<=sp/\sp<=20))(h9:(∀ns sp,o2=some (ns,sp)->iD ax 100 ns/\1<=sp/\sp<=20))(h10:ax<=100)(h11:10<=rate)(h12:rate<=200)(h13:∀v H',aY K H' v (betR j rate o1 o2)->aI H H'->Q v H'):y8 K vs H Q
def sy(K:PySem.W.Frag):Sp:=fun vs H Q _=>y8 K vs H Q
abbrev DY:Stmt:=top 53
theorem BP:aH ["machine","one","other","rate","squares","corner"] ["machine","one","other","rate"] (ao DY):=⟨rfl,rfl,rfl,by decide+kernel,rfl,by decide+kernel,by decide+kernel⟩
theorem DZ(F:FA K mg "bound_between" DY)(B:dv mg)(gN:GT K mg "NOUGHT" [.int 0,.int 1])(his_line:aw P w K mg base "is_line" 1 (jt K))(htop_square:aw P w K mg base "top_square" 4 (sm K))(hcorner_square:aw P w K mg base "corner_square" 6 (pV K))(hleast:aw P w K mg base "least" 2 (cQ K)):aw P w K mg base "bound_between" 7 (sy K):=by
 obtain⟨aN,h_NOUGHT,sqN⟩:=gN;refine F.has BP (fun vs H Q E h=>?_) (fun _ _ _ _ _ _ us hl=>match us,hl with|[_,_,_,_],_=>rfl) (fun f cdv A outer s H vs Q E hr h=>?_)
 · obtain⟨m,v1,v2,rate,rs,r,f,j,t,d1,d2,o1,o2,ax,rfl,_⟩:=h
   rfl
 · obtain⟨m,v1,v2,rate,rs,r,f,j,t,d1,d2,o1,o2,ax,rfl,rm,j1,j2,r1,r2,i1,i2,k1,k2,hax,rt1,rt2,k⟩:=h
   have nd:=BP.nd;refine⟨_,(ag (aR (PW.pt (gz (cf (bh (aE his_line (hr.mono (by decide)) rfl (aa (pv 1) af)))) (fo (cf (bh (aE his_line (hr.mono (by decide)) rfl (aa (pv 2) af))))))) (ai (aB (eg (x:="NOUGHT") rfl h_NOUGHT))) aL) (ag (aF (i:=4) nd rfl (Or.inl rfl) (bE (aa (aE htop_square (hr.mono (by decide)) rfl (aa (pv 1) (aa (pv 3) af))) (aa (aE htop_square (hr.mono (by decide)) rfl (aa (pv 2) (aa (pv 3) af))) af)))) (ag (aF (i:=5) nd rfl (Or.inl rfl) (aE hcorner_square (hr.mono (by decide)) rfl (aa (pv 0) (aa (pv 1) (aa (pv 2) af))))) (ag (cL (aR (aO iG (pv 5) dN (aK _)) (ai (cj (fA K rfl (pv 4) (aa (pv 5) af)))) aL)) (ai (aB (aE hleast (hr.mono (by decide)) rfl (aa (pv 4) af)))))))),?_⟩;refine⟨_,rfl,v1,d1,o1,rfl,r1,i1,_,rfl,?_⟩;cases o1 with |none=>refine bK (bK ?_);have:=k _ H (jw (sqN H)) (aI.refl _);exact this |some q1=>obtain⟨ns,sp⟩:=q1;refine bw ?_;refine⟨_,rfl,v2,d2,o2,rfl,r2,i2,_,rfl,?_⟩;cases o2 with |none=>refine bK ?_;exact k _ H (jw (sqN H)) (aI.refl _) |some q2=>obtain⟨ms,sq⟩:=q2;refine bw ?_;have e1:=dG i1;have e2:=dG i2;subst e1 e2;obtain⟨ok1,a1,a2⟩:=k1 ns sp rfl;obtain⟨ok2,b1,b2⟩:=k2 ms sq rfl;refine⟨_,rfl,_,rfl,v1,ns,sp,rate,rfl,r1,a1,a2,rt1,rt2,fun t1 H1 rt1' s1=>?_⟩;refine⟨_,rfl,_,rfl,v2,ms,sq,rate,rfl,RD.mono s1 _ r2,b1,b2,rt1,rt2,fun t2 H2 rt2' s2=>?_⟩;refine⟨aQ _ (Nat.le_of_ble_eq_true rfl),fun l H3 n3=>?_⟩;have t3:=s1.trans (s2.trans n3.same);have okM:iD ns.length 1000 ms:=⟨by rw[ok1.len,ok2.len],ok2.up.bd,ok2.nz⟩;refine⟨_,rfl,_,rfl,_,rfl,m,v1,v2,rs,r,f,j,t,ns,ms,sp,sq,rfl,RD.mono t3 _ rm,RD.mono t3 _ r1,RD.mono t3 _ r2,ok1.up,okM,by rw[ok1.len];omega,j1,j2,fun c H4 rc s4=>?_⟩;have T1:Bd 2000 (topR rate sp):=(Ow.gU a1 a2 rt1 rt2).mono (by decide);have T2:Bd 2000 (topR rate sq):=(Ow.gU b1 b2 rt1 rt2).mono (by decide);have R1:aY K H4 t1 (topR rate sp):=((rt1'.go s2).go n3.same).go s4;have R2:aY K H4 t2 (topR rate sq):=(rt2'.go n3.same).go s4;have t4:=t3.trans s4;rw[Av]at rc;cases hc:cornO j ns ms with
       |none=>
         rw[hc]at rc;cases rc.qP;refine⟨fun σ H5=>H5=H4/\σ=[some m,some v1,some v2,some (.int rate),some (.ref l),some .cG],?_,?_⟩
         · refine⟨_,rfl,rfl,_,rfl,bw ?_⟩
           exact⟨rfl,rfl⟩
         rintro σ H5 ⟨rfl,rfl⟩;refine⟨_,rfl,l,[t1,t2],[topR rate sp,topR rate sq],rfl,bc.of (s4 _ _ n3.at'),⟨R1,T1,R2,T2,trivial⟩,by simp,fun i v q e1 e2 hq=>?_⟩;have hqe:betR j rate (some (ns,sp)) (some (ms,sq))=q:=by
          show mnO (mn _ _) (cornO j ns ms)=q;rw[hc];refine dX ?_ (hq _ (by simp)) (hq _ (by simp))
          match i,e2 with |0,e2=>cases e2;exact .inl rfl |1,e2=>cases e2;exact .inr rfl
         refine k v _ ?_ t4;rw[hqe]
         match i,e1,e2 with |0,e1,e2=>cases e1;cases e2;exact R1 |1,e1,e2=>cases e1;cases e2;exact R2
       |some cq=>
         rw[hc]at rc;have Rc:aY K H4 c cq:=iy rc;have Tc:Bd 2000 cq:=(Ow.kx j1 j2 ok1.bd ok2.bd hc).mono (by decide);have dl4:=s4 _ _ n3.at';have tU:fm H4 (L2.upd H4 l (.lst ([t1,t2]++[c]))):=.nP dl4;refine⟨fun σ H5=>H5=L2.upd H4 l (.lst ([t1,t2]++[c]))/\σ=[some m,some v1,some v2,some (.int rate),some (.ref l),some c],?_,?_⟩
         · obtain⟨pc,rfl,_⟩:=id Rc
           refine⟨_,rfl,rfl,_,rfl,bK ?_⟩;refine⟨_,rfl,.inl ⟨rfl,_,bc.of dl4⟩,_,rfl,l,[t1,t2],_,rfl,rfl,dl4,DX _ (Nat.le_of_ble_eq_true rfl),?_⟩;exact⟨rfl,rfl⟩
         rintro σ H5 ⟨rfl,rfl⟩;have up:∀{v:V}{q:Rat},aY K H4 v q->aY K (L2.upd H4 l (.lst ([t1,t2]++[c]))) v q:=fun{v q} h=>iy (RD.t tU _ (fP q) h.rd);refine⟨_,rfl,l,[t1,t2,c],[topR rate sp,topR rate sq,cq],rfl,bc.of au,⟨up R1,T1,up R2,T2,up Rc,Tc,trivial⟩,by simp,fun i v q e1 e2 hq=>?_⟩;have hqe:betR j rate (some (ns,sp)) (some (ms,sq))=q:=by
          show mnO (mn _ _) (cornO j ns ms)=q;rw[hc];show mn (mn _ _) cq=q;have h1:=hq _ (show topR rate sp∈[topR rate sp,topR rate sq,cq] by simp);have h2:=hq _ (show topR rate sq∈[topR rate sp,topR rate sq,cq] by simp);have h3:=hq _ (show cq∈[topR rate sp,topR rate sq,cq] by simp);refine dX ?_ (g9 h1 h2) h3
          match i,e2 with |0,e2=>cases e2;exact .inl (dX (.inl rfl) h1 h2).symm |1,e2=>cases e2;exact .inl (dX (.inr rfl) h1 h2).symm |2,e2=>cases e2;exact .inr rfl
         have sU:aI H (L2.upd H4 l (.lst ([t1,t2]++[c]))):=fun b o e=>by have h0:H2 l=none:=n3.no;have e2:=s2 b o (s1 b o e);rw[aj (aX e2 h0)];exact t4 b o e
         refine k v _ ?_ sU;rw[hqe]
         match i,e1,e2 with |0,e1,e2=>cases e1;cases e2;exact up R1 |1,e1,e2=>cases e1;cases e2;exact up R2 |2,e1,e2=>cases e1;cases e2;exact up Rc
end
end Lw
namespace Lw
open PySem PySem.Spec PyProof.Rows L2 Rt Ln Cn Pn
open Ow (topR cornO mnO betR atO ownF leadF ownL OkI OkIs)
section
variable {P:Program}{w:World}{K:PySem.W.Frag}{mg:Str->Option Value}{base:Heap}
theorem gc(qs:List Rat):cD (qs.map cN)=true:=o7 fP qs
theorem bj.E1{H:Hp}{l:Addr}{ys:List V}{y:V}{ds:List PyData}{d:PyData}{i:Nat}(dl:H l=some (.lst ys))(r:bj K H ys ds)(rd:RD K H y d)(n1:cD ds=true)(n2:iP d=true):bj K (L2.upd H l (.lst (ys.set i y))) (ys.set i y) (ds.set i d):=by have t:fm H (L2.upd H l (.lst (ys.set i y))):=.nP dl;have r':=bj.t t _ n1 r;have rd':=RD.t t _ n2 rd;clear r rd dl t;generalize L2.upd H l (.lst (ys.set i y))=H' at r' rd';induction ds generalizing ys i with |nil=>cases r'.nil_inv;exact ba |cons d0 ds ih=>
   obtain⟨y0,yr,rfl,h1,h2⟩:=r'.cons_inv;have n1':cD ds=true:=by rw[cD,Bool.and_eq_true]at n1;exact n1.2
   cases i with |zero=>exact aP rd' h2 |succ i=>exact aP h1 (ih n1' h2)
theorem kE(xs:List V):ko xs (some 1) none=xs.drop 1:=by unfold ko;have e:HT.eQ xs.length 0 (some 1)=min 1 xs.length:=HT.qD _ _ 1;rw[e,HT.vt];cases xs with |nil=>rfl |cons x xs=>
   have e2:min 1 (x::xs).length=1:=by simp
   rw[e2,List.take_of_length_le (by simp)]
inductive y9(K:PySem.W.Frag)(vs:List V)(H:Hp)(Q:VK):Prop |mk (m:_)(iv:_)(rate:_)(rs:_)(r:_)(f:_)(j:_)(t:_)(ds:_)(os:_)(h0:vs=[m,iv,.int rate])(h1:RD K H m (eZ rs r f j t))(h2:zE rs r f j t)(h3:RD K H iv (.tuple ds))(h4:dM rs.length ds os)(h5:ds.length<=100)(h6:10<=rate)(h7:rate<=200)(h8:∀l ys H',H l=none->H' l=some (.lst ys)->bj K H' ys ((ownL j rate os).map cN)->aI H H'->Q (.ref l) H'):y9 K vs H Q
def BQ(K:PySem.W.Frag):Sp:=fun vs H Q _=>y9 K vs H Q
abbrev Aw:Stmt:=top 52
theorem sF:aH ["machine","items","rate","between"] ["machine","items","rate"] (ao Aw):=⟨rfl,rfl,rfl,by decide+kernel,rfl,by decide+kernel,by decide+kernel⟩
theorem E2(F:FA K mg "own_bounds" Aw)(B:dv mg)(gN:GT K mg "NOUGHT" [.int 0,.int 1])(hbound_between:aw P w K mg base "bound_between" 7 (sy K)):aw P w K mg base "own_bounds" 8 (BQ K):=by
 obtain⟨aN,h_NOUGHT,sqN⟩:=gN;refine F.has sF (fun vs H Q E h=>?_) (fun _ _ _ _ _ _ us hl=>match us,hl with|[_,_,_],_=>rfl) (fun f cdv A outer s H vs Q E hr h=>?_)
 · obtain⟨m,iv,rate,rs,r,f,j,t,ds,os,rfl,_⟩:=h
   rfl
 · obtain⟨m,iv,rate,rs,r,f,j,t,ds,os,rfl,rm,okm,ri,row,hz,rt1,rt2,k⟩:=h
   have nd:=sF.nd;have rN:∀H',RD K H' (.ref aN) (cN 0):=fun H'=>(jw (sqN H')).rd;refine⟨_,(ag (aR (cf (my K rfl (pv 1))) (ai (aB (bE (aa (eg (x:="NOUGHT") rfl h_NOUGHT) af)))) aL) (ag (mm (i0:=3) nd rfl (Or.inl rfl) (N:=["one","other","machine","rate"]) (js:=[none,none,some 0,some 2]) rfl rfl rfl (dy K rfl false false rfl (B.at "zip") (aa (pv 1) (aa (kn (IW K rfl) (pv 1) (m8 ah) m7) af))) (fun _ _ _ _ _=>(gD K rfl (n:=2) rfl (aD (aA (i:=0) (show List.Nodup (["one","other","machine","rate"]:List Str) by decide+kernel) rfl (Or.inl rfl)) (aD (aA (i:=1) (show List.Nodup (["one","other","machine","rate"]:List Str) by decide+kernel) rfl (Or.inl rfl)) aZ)))) (fun _ _ _ _ _=>bM) (fun _ _ _ _ _=>(aE hbound_between (hr.mono (by decide)) rfl (aa (pv 2) (aa (pv 0) (aa (pv 1) (aa (pv 3) af))))))) (ai (aB (az (uc K rfl) (az (uc K rfl) (bE (aa (eg (x:="NOUGHT") rfl h_NOUGHT) af)) (pv 3)) (bE (aa (eg (x:="NOUGHT") rfl h_NOUGHT) af))))))),?_⟩;obtain⟨ia,xs,rfl,hi,hxs⟩:=ri.bu;have lx:=hxs.length;have ll:=row.len;refine⟨_,rfl,_,.inr (.inl ⟨_,hi,rfl⟩),?_⟩;cases hd:xs with
   |nil=>
     subst hd;refine bK ?_;refine⟨aQ _ (Nat.le_of_ble_eq_true rfl),fun l H1 n1=>?_⟩;refine k l [.ref aN] H1 n1.no n1.at' ?_ n1.same;have e:os=[]:=by
      have:os.length=0:=by rw[<-ll,<-lx];rfl
      exact List.length_eq_zero_iff.mp this
     rw[e];exact aP (rN H1) ba |cons x0 xr=>
     refine bw ?_;have hne:os≠[]:=by intro e;rw[e]at ll;rw[hd]at lx;simp at ll lx;rw[ll]at lx;cases lx
     have hx0:0<xs.length:=by rw[hd];simp
     refine⟨_,rfl,_,rfl,1,rfl,ia,xs,rfl,.inr ⟨hi,?_,fun tl H1 n1=>?_⟩⟩
     · rintro⟨h1,_⟩
       have e:HT.eQ xs.length 0 (some 1)=min 1 xs.length:=HT.qD _ _ 1;rw[e]at h1;omega
     refine⟨ia,tl,rfl,⟨_,hi.go n1.same⟩,⟨_,bG.of n1.at'⟩,fun D H2 n2=>?_⟩;have et:=n1.at';rw[kE]at et;have oki:∀(i:Nat)(o:Itm),os[i]? =some o->∀(ns:List Int)(sp:Int),o=some (ns,sp)->iD rs.length 100 ns/\1<=sp/\sp<=20:=fun i o e ns sp e'=>row.ok i ns sp (by rw[e,e']);have lr:=okm.len;refine fC (K:=K) (b1:=false) (b2:=false) (xs:=xs) (ys:=xs.drop 1) (ds:=((List.range (os.length-1)).map (fun i=>ownF j rate os (i+1))).map cN) _ rfl (hi.go n1.same) (bG.of et) n2 (by rw[List.length_drop];simp;omega) (by simp;omega) (gc _) ?_ ?_
     · intro i x y d H3 Q' ex ey ed s3 hq
       have s13:=n1.same.trans s3;rw[List.getElem?_drop]at ey;obtain⟨d1,e1,r1⟩:=hxs.get' i ex;obtain⟨d2,e2,r2⟩:=hxs.get' (1+i) ey;obtain⟨o1,eo1,i1⟩:=row.get e1;obtain⟨o2,eo2,i2⟩:=row.get e2;have hi2:1+i<os.length:=(List.getElem?_eq_some_iff.mp eo2).1;have ed':d=cN (betR j rate o1 o2):=by rw[List.getElem?_map,List.getElem?_map,List.getElem?_eq_getElem (by simp;omega),List.getElem_range]at ed;have:=(Option.some.inj ed).symm;rw[this];show cN (betR j rate (atO os i) (atO os (i+1)))=_;rw[Ow.gs eo1,Ow.gs (show os[i+1]? =some o2 by rw[Nat.add_comm];exact eo2)]
       subst ed';refine⟨_,rfl,_,rfl,_,rfl,_,rfl,m,x,y,rate,rs,r,f,j,t,d1,d2,o1,o2,rs.length,rfl,RD.mono s13 _ rm,okm.j1.1,okm.j1.2,RD.mono s13 _ r1,RD.mono s13 _ r2,i1,i2,oki _ _ eo1,oki _ _ eo2,by omega,rt1,rt2,fun v H4 rv s4=>?_⟩;exact hq _ _ s4 rv.rd
     · intro H3 zs s3 d3 r3
       have lz:=r3.length;simp at lz;refine⟨aQ _ (Nat.le_of_ble_eq_true rfl),fun l1 H4 n4=>?_⟩;refine⟨_,rfl,l1,D,_,zs,rfl,rfl,bc.of n4.at',bc.of (n4.same _ _ d3),aQ _ (by simp;omega),fun l2 H5 n5=>?_⟩;refine⟨aQ _ (Nat.le_of_ble_eq_true rfl),fun l3 H6 n6=>?_⟩;refine⟨l2,l3,_,_,rfl,rfl,bc.of (n6.same _ _ n5.at'),bc.of n6.at',aQ _ (by simp;omega),fun l H7 n7=>?_⟩;have s06:aI H H6:=n1.same.trans (s3.trans (n4.same.trans (n5.same.trans n6.same)));have nl:H l=none:=by cases e:H l with |none=>rfl |some o=>have:=s06 _ _ e;rw[n7.no]at this;cases this
       refine k l _ H7 nl n7.at' ?_ (s06.trans n7.same);rw[Ow.r8 j rate hne,List.map_append,List.map_append];exact((aP (rN H7) ba).append (bj.mono (n4.same.trans (n5.same.trans (n6.same.trans n7.same))) _ r3)).append (aP (rN H7) ba)
end
end Lw
namespace Lw
open PySem PySem.Spec PyProof.Rows L2 Rt Ln Cn Pn
open Ow (topR cornO mnO betR atO ownF leadF ownL OkI OkIs)
section
variable {P:Program}{w:World}{K:PySem.W.Frag}{mg:Str->Option Value}{base:Heap}
end
end Lw
namespace Lw
open PySem PySem.Spec PyProof.Rows L2 Rt Ln Cn Pn
open Ow (topR cornO mnO betR atO ownF leadF ownL OkI OkIs)
section
variable {P:Program}{w:World}{K:PySem.W.Frag}{mg:Str->Option Value}{base:Heap}
inductive BR(K:PySem.W.Frag)(vs:List V)(H:Hp)(Q:VK):Prop |mk (v:_)(r:_)(z:_)(h0:vs=[v,.int z])(h1:aY K H v r)(h2:Bd 2000 r)(h3:z.natAbs<2^24)(h4:∀v H',aY K H' v (r+(z:Rat))->aI H H'->Q v H'):BR K vs H Q
def Ax(K:PySem.W.Frag):Sp:=fun vs H Q _=>BR K vs H Q
abbrev Jc:Stmt:=top 15
theorem GX:aH ["one","more"] ["one","more"] (ao Jc):=⟨rfl,rfl,rfl,by decide+kernel,rfl,by decide+kernel,by decide+kernel⟩
theorem GY(F:FA K mg "plus_whole" Jc)(B:dv mg)(hplus:aw P w K mg base "plus" 3 (kT (·+·) K)):aw P w K mg base "plus_whole" 4 (Ax K):=by
 refine F.has GX (fun vs H Q E h=>?_) (fun _ _ _ _ _ _ us hl=>match us,hl with|[_,_],_=>rfl) (fun f cdv A outer s H vs Q E hr h=>?_)
 · obtain⟨v,r,z,rfl,_⟩:=h
   rfl
 · obtain⟨v,r,z,rfl,rv,br,hz,k⟩:=h
   have nd:=GX.nd;refine⟨_,(ai (aB (aE hplus (hr.mono (by decide)) rfl (aa (pv 0) (aa (bF (aa (pv 1) (aa ah af))) af))))),?_⟩;refine⟨_,rfl,_,rfl,aQ _ (Nat.le_of_ble_eq_true rfl),fun t H1 n1=>?_⟩;have bz:Bd 24 (z:Rat):=⟨hz,by show 1<2^24;decide⟩;exact⟨v,.ref t,r,(z:Rat),rfl,rv.go n1.same,⟨t,rfl,bG.of n1.at'⟩,br,bz.mono (by decide),fun v' H' r' s'=>k v' H' r' (n1.same.trans s')⟩
theorem gx{os:List Itm}{i:Nat}{ns:List Int}{sp:Int}(h:os[i]? =some (some (ns,sp))):leadF os i=some (ay ns):=by unfold leadF;rw[Ow.gs h];rfl
theorem kF{os:List Itm}{i:Nat}(h:os[i]? =some none):leadF os i=none:=by unfold leadF;rw[Ow.gs h];rfl
theorem og{os:List Itm}(h:OkIs os){i m:Nat}(e:leadF os i=some m):m<=100:=by unfold leadF at e;cases ho:atO os i with |none=>rw[ho]at e;cases e |some q=>rw[ho]at e;cases e;obtain⟨a,_,_⟩:=h i q.1 q.2 ho;exact dU fun z hz=>by have:=a z hz;omega
theorem oh{r:Int}{m:Nat}(h1:1<=r)(h2:r<=50)(h3:m<=100):(2*r*(m:Int)).natAbs<2^24:=by
 have h24:(2:Nat)^24=16777216:=by decide
 have:=fg (a:=2*r) (b:=(m:Int)) (m:=100) (n:=100) (by omega) (by omega);rw[h24];omega
end
end Lw
namespace Lw
open PySem PySem.Spec PyProof.Rows L2 Rt Ln Cn Pn
open Ow (topR cornO mnO betR atO ownF leadF ownL OkI OkIs)
section
variable {P:Program}{w:World}{K:PySem.W.Frag}{mg:Str->Option Value}{base:Heap}
abbrev yb:Stmt:=top 54
theorem yc:aH ["machine","items","squares","fall","kept","i"] ["machine","items","squares"] (ao yb):=⟨rfl,rfl,rfl,by decide+kernel,rfl,by decide+kernel,by decide+kernel⟩
end
end Lw
namespace Lw
open PySem PySem.Spec PyProof.Rows L2 Rt Ln Cn Pn
open Ow (topR cornO mnO betR atO ownF leadF ownL OkI OkIs)
section
variable {P:Program}{w:World}{K:PySem.W.Frag}{mg:Str->Option Value}{base:Heap}
abbrev yd:Stmt:=top 69
theorem ye:aH ["_law_one","_law_other_here"] ["_law_one","_law_other_here"] (ao yd):=⟨rfl,rfl,rfl,by decide+kernel,rfl,by decide+kernel,by decide+kernel⟩
theorem Ay(F:FA K mg "_law_sum" yd)(B:dv mg)(hL_frac:aw P w K mg base "_law_frac" 1 (iY K)):aw P w K mg base "_law_sum" 2 (kT (·+·) K):=by
 refine F.has ye (fun vs H Q E h=>?_) (fun _ _ _ _ _ _ us hl=>match us,hl with|[_,_],_=>rfl) (fun f cdv A outer s H vs Q E hr h=>?_)
 · obtain⟨v1,v2,r,s,rfl,_⟩:=h
   rfl
 · obtain⟨v1,v2,r,s,rfl,⟨p,rfl,hp⟩,⟨q,rfl,hq⟩,br,bs,k⟩:=h
   have nd:=ye.nd;refine⟨_,(ai (aB (aE hL_frac (hr.mono (by decide)) rfl (aa (az bo (az aG (aM (cw K rfl) (pv 0) ah (fun _ _=>rfl)) (aM (cw K rfl) (pv 1) ah (fun _ _=>rfl))) (az aG (aM (cw K rfl) (pv 1) ah (fun _ _=>rfl)) (aM (cw K rfl) (pv 0) ah (fun _ _=>rfl)))) (aa (az aG (aM (cw K rfl) (pv 0) ah (fun _ _=>rfl)) (aM (cw K rfl) (pv 1) ah (fun _ _=>rfl))) af))))),?_⟩;refine⟨_,rfl,.inr ⟨p,_,0,.int r.num,rfl,rfl,hp,rfl,_,rfl,.inr ⟨q,_,1,.int s.den,rfl,rfl,hq,rfl,_,_,rfl,rfl,IntMulOk.of_bits br.wn.bits bs.wd.bits,?_⟩⟩⟩;refine⟨_,rfl,.inr ⟨q,_,0,.int s.num,rfl,rfl,hq,rfl,_,rfl,.inr ⟨p,_,1,.int r.den,rfl,rfl,hp,rfl,_,_,rfl,rfl,IntMulOk.of_bits bs.wn.bits br.wd.bits,?_⟩⟩⟩;refine⟨_,_,rfl,rfl,?_⟩;refine⟨_,rfl,.inr ⟨p,_,1,.int r.den,rfl,rfl,hp,rfl,_,rfl,.inr ⟨q,_,1,.int s.den,rfl,rfl,hq,rfl,_,_,rfl,rfl,IntMulOk.of_bits br.wd.bits bs.wd.bits,?_⟩⟩⟩;refine⟨_,_,rfl,Int.mul_pos (den_pos r) (den_pos s),Iv br bs,fun v H' r' s'=>k v H' ?_ s'⟩;show aY K H' v (r+s);rw[add_div];exact r'
abbrev pZ:Stmt:=top 70
theorem sG:aH ["_law_one","_law_other_here"] ["_law_one","_law_other_here"] (ao pZ):=⟨rfl,rfl,rfl,by decide+kernel,rfl,by decide+kernel,by decide+kernel⟩
theorem yf(F:FA K mg "_law_less" pZ)(B:dv mg):aw P w K mg base "_law_less" 1 (jr K):=by
 refine F.has sG (fun vs H Q E h=>?_) (fun _ _ _ _ _ _ us hl=>match us,hl with|[_,_],_=>rfl) (fun f cdv A outer s H vs Q E hr h=>?_)
 · obtain⟨v1,v2,r,s,rfl,_⟩:=h
   rfl
 · obtain⟨v1,v2,r,s,rfl,⟨p,rfl,hp⟩,⟨q,rfl,hq⟩,br,bs,k⟩:=h
   have nd:=sG.nd;refine⟨_,(ai (aB (bJ ft (az aG (aM (cw K rfl) (pv 0) ah (fun _ _=>rfl)) (aM (cw K rfl) (pv 1) ah (fun _ _=>rfl))) (az aG (aM (cw K rfl) (pv 1) ah (fun _ _=>rfl)) (aM (cw K rfl) (pv 0) ah (fun _ _=>rfl))) (aK _)))),?_⟩;refine⟨_,rfl,.inr ⟨p,_,0,.int r.num,rfl,rfl,hp,rfl,_,rfl,.inr ⟨q,_,1,.int s.den,rfl,rfl,hq,rfl,_,_,rfl,rfl,IntMulOk.of_bits br.wn.bits bs.wd.bits,?_⟩⟩⟩;refine⟨_,rfl,.inr ⟨q,_,0,.int s.num,rfl,rfl,hq,rfl,_,rfl,.inr ⟨p,_,1,.int r.den,rfl,rfl,hp,rfl,_,_,rfl,rfl,IntMulOk.of_bits bs.wn.bits br.wd.bits,?_⟩⟩⟩;refine⟨_,_,rfl,rfl,?_⟩;have e:decide (r.num*(s.den:Int)<s.num*(r.den:Int))=decide (r<s):=by rw[Bool.eq_iff_iff,decide_eq_true_iff,decide_eq_true_iff,Rat.lt_iff]
   show Q (.bl (decide (r.num*(s.den:Int)<s.num*(r.den:Int)))) H;rw[e];exact k
abbrev yg:Stmt:=top 71
theorem yh:aH ["_law_some","_law_best","_law_one"] ["_law_some"] (ao yg):=⟨rfl,rfl,rfl,by decide+kernel,rfl,by decide+kernel,by decide+kernel⟩
theorem Az(F:FA K mg "_law_min" yg)(B:dv mg)(hL_less:aw P w K mg base "_law_less" 1 (jr K)):aw P w K mg base "_law_min" 2 (cQ K):=by
 refine F.has yh (fun vs H Q E h=>?_) (fun _ _ _ _ _ _ us hl=>match us,hl with|[_],_=>rfl) (fun f cdv A outer s H vs Q E hr h=>?_)
 · obtain⟨l,xs,rs,rfl,_⟩:=h
   rfl
 · obtain⟨l,xs,rs,rfl,hl,hr',hne,k⟩:=h
   have nd:=yh.nd;refine⟨_,(ag (aF (i:=1) nd rfl (Or.inl rfl) (aM (cw K rfl) (pv 0) ah (fun _ _=>rfl))) (ag (fc PassesOwn.never rfl (Ik K rfl (pv 0)) (aA (i:=2) nd rfl (Or.inl rfl)) (ai (aR (bh (aE hL_less (hr.mono (by decide)) rfl (aa (pv 2) (aa (pv 1) af)))) (ai (aF (i:=1) nd rfl (Or.inl rfl) (pv 2))) aL))) (ai (aB (pv 1))))),?_⟩;have hlen:=hr'.length;have h0:0<xs.length:=List.length_pos_iff.mpr hne;have e0:=List.getElem?_eq_getElem h0;refine⟨_,rfl,.inl ⟨l,xs,0,xs[0],rfl,rfl,hl,bB (by decide) e0,?_⟩⟩;refine⟨_,rfl,l,rfl,⟨_,hl⟩,jY (K:=K) (a:=l) (xs:=xs) (fun i σ H2=>H2=H/\∃(j:Nat)(b:V)(r:Rat)(v:Option V),xs[j]? =some b/\rs[j]? =some r/\(∀(m:Nat)(s:Rat),m<i->rs[m]? =some s->r<=s)/\σ=[some (.ref l),some b,v]) ?_ (fun i σ H2 _ h=>by rw[h.1];exact hl) ?_ ?_⟩
   · obtain⟨r,e1,_⟩:=hr'.get e0
     exact⟨rfl,0,_,r,none,e0,e1,fun m s hm=>absurd hm (Nat.not_lt_zero _),rfl⟩
   · rintro i x σ H2 hx ⟨rfl,j,b,r,v,eb,er,hm,rfl⟩
     obtain⟨t,et,rt,bt⟩:=hr'.get hx;obtain⟨r2,er2,rb,bb⟩:=hr'.get eb;rw[er]at er2;cases er2;refine⟨_,rfl,_,rfl,x,b,t,r,rfl,rt,rb,bt,bb,_,rfl,?_⟩;refine dk (fun hc=>?_) (fun hc=>?_)
     · have hlt:t<r:=of_decide_eq_true hc
       refine⟨_,rfl,?_⟩;refine⟨rfl,i,x,t,_,hx,et,fun m s hmi es=>?_,rfl⟩;rcases Nat.lt_succ_iff_lt_or_eq.mp hmi with h|h
       ·exact Rat.le_trans (Rat.le_of_lt hlt) (hm m s h es)
       · subst h
         rw[et]at es;cases es;exact Rat.le_refl
     · have hnl:¬t<r:=fun z=>hc (decide_eq_true z)
       refine⟨rfl,j,b,r,_,eb,er,fun m s hmi es=>?_,rfl⟩;rcases Nat.lt_succ_iff_lt_or_eq.mp hmi with h|h
       ·exact hm m s h es
       · subst h
         rw[et]at es;cases es;exact Rat.not_lt.mp hnl
   · rintro σ H2 ⟨rfl,j,b,r,v,eb,er,hm,rfl⟩
     refine⟨_,rfl,k j b r eb er fun s hs=>?_⟩;obtain⟨m,hml,em⟩:=List.mem_iff_getElem.mp hs;exact hm m s (by omega) (by rw[List.getElem?_eq_getElem hml,em])
theorem AA(F:FA K mg "_law_top" y4)(B:dv mg)(hL_frac:aw P w K mg base "_law_frac" 1 (iY K)):aw P w K mg base "_law_top" 2 (pY K):=by
 refine F.has y6 (fun vs H Q E h=>?_) (fun _ _ _ _ _ _ us hl=>match us,hl with|[_,_],_=>rfl) (fun f cdv A outer s H vs Q E hr h=>?_)
 · obtain⟨v,ns,sp,r,rfl,_⟩:=h
   rfl
 · obtain⟨v,ns,sp,r,rfl,rd,s1,s2,r1,r2,k⟩:=h
   have nd:=y6.nd;refine⟨_,(ai (aB (aE hL_frac (hr.mono (by decide)) rfl (aa (az aG (az aG (az aG (aM (cw K rfl) (pv 0) ah (fun _ _=>rfl)) (aM (cw K rfl) (pv 0) ah (fun _ _=>rfl))) (pv 1)) (pv 1)) (aa ah af))))),?_⟩;obtain⟨a,b,rfl,ha,hb⟩:=cH rd;have m1:(sp*sp).natAbs<=20*20:=by rw[Int.natAbs_mul];exact Nat.mul_le_mul (by omega) (by omega)
   have m2:(sp*sp*r).natAbs<=400*200:=by rw[Int.natAbs_mul];exact Nat.mul_le_mul (by omega) (by omega)
   refine⟨_,rfl,.inr ⟨a,_,2,.int sp,rfl,rfl,ha,rfl,_,rfl,.inr ⟨a,_,2,.int sp,rfl,rfl,ha,rfl,_,_,rfl,rfl,.of_left (intBits_le_64 (by omega) (by omega)),?_⟩⟩⟩;refine⟨_,rfl,_,_,rfl,rfl,.of_left (intBits_le_64 (by omega) (by omega)),_,rfl,_,_,rfl,rfl,.of_left (intBits_le_64 (by omega) (by omega)),?_⟩;refine⟨_,_,rfl,by decide,lP (n:=20) (by decide) (by decide),fun v' H' r' s'=>k v' H' ?_ s'⟩;rw[JB]at r';exact r'
theorem JN{x y z q:Rat}(h:q=x\/q=y\/q=z)(h1:q<=x)(h2:q<=y)(h3:q<=z):mn (mn x y) z=q:=by
 refine Rat.le_antisymm ?_ (g9 (g9 h1 h2) h3);rcases h with h|h|h
 ·rw[h];exact Rat.le_trans (bW _ _) (bW _ _)
 ·rw[h];exact Rat.le_trans (bW _ _) (cY _ _)
 ·rw[h];exact cY _ _
theorem gO{n:Nat}{ns:List Int}(h:iD n 100 ns):ay ns<=100:=by have:=h.lead;omega
end
end Lw
namespace Lw
open PySem PySem.Spec PyProof.Rows L2 Rt Ln Wk
section
variable {P:Program}{w:World}{K:PySem.W.Frag}{mg:Str->Option Value}{base:Heap}
def jL(pl:List Int):PyData:=.tuple (pl.map PyData.int)
theorem cT(pl:List Int):iP (jL pl)=true:=by rw[jL,iP];exact cC pl
theorem gP{H:Hp}{v:V}{pl:List Int}(h:RD K H v (jL pl)):∃a,v= .ref a/\bG K H a (pl.map V.int):=by obtain⟨a,xs,rfl,h1,h2⟩:=h.bu;rw[h2.ck]at h1;exact⟨a,rfl,h1⟩
theorem lR{H:Hp}{a:Addr}{pl:List Int}(h:bG K H a (pl.map V.int)):RD K H (.ref a) (jL pl):=e9 h (fY pl)
def gy(pl:List Int):Itm->List Int |none=>pl |some (ns,_)=>eK pl ns
theorem bR.putL{p l:Addr}{H H1:Hp}{xs:List V}(b:bR p H H1)(hp:l≠p)(nl:H l=none):bR p H (L2.upd H1 l (.lst xs)):=by
 refine⟨?_,fun c o n e=>?_⟩
 · obtain⟨c',m',e,ok⟩:=b.bag
   exact⟨c',m',by rw[aj hp.symm];exact e,ok⟩
 ·rw[aj (aX e nl)];exact b.same c o n e
inductive BS(K:PySem.W.Frag)(vs:List V)(H:Hp)(Q:VK):Prop |mk (p:_)(m:_)(rs:_)(r:_)(f:_)(j:_)(t:_)(h0:vs=[.ref p,m])(h1:fD H p)(h2:RD K H m (eZ rs r f j t))(h3:zE rs r f j t)(h4:∀v pl H',RD K H' v (jL pl)->pI rs pl->bR p H H'->Q v H'):BS K vs H Q
def GZ(K:PySem.W.Frag):Sp:=fun vs H Q _=>BS K vs H Q
abbrev Jd:Stmt:=top 73
theorem Ha:aH ["_law_bag_here","_law_machine_here"] ["_law_bag_here","_law_machine_here"] (ao Jd):=⟨rfl,rfl,rfl,by decide+kernel,rfl,by decide+kernel,by decide+kernel⟩
theorem Hb(F:FA K mg "_law_place" Jd)(B:dv mg)(hL_take:aw P w K mg base "_law_take" 1 jq):aw P w K mg base "_law_place" 2 (GZ K):=by
 refine F.has Ha (fun vs H Q E h=>?_) (fun _ _ _ _ _ _ us hl=>match us,hl with|[_,_],_=>rfl) (fun f cdv A outer s H vs Q E hr h=>?_)
 · obtain⟨p,m,rs,r,f,j,t,rfl,_⟩:=h
   rfl
 · obtain⟨p,m,rs,r,f,j,t,rfl,bg,rm,okr,k⟩:=h
   have nd:=Ha.nd;refine⟨_,(ai (aB (bI (x:="tuple") (fe K rfl) rfl (B.at "tuple") PyProof.Rows.boot_tuple (aa (bT (N:=["_law_rail","_law_bag_here"]) (js:=[none,some 0]) rfl rfl rfl (Bs K rfl (aM (cw K rfl) (pv 1) ah (fun _ _=>rfl))) (fun _ _ _ _ _=>(aA (i:=0) (show List.Nodup (["_law_rail","_law_bag_here"]:List Str) by decide+kernel) rfl (Or.inl rfl))) (fun _ _ _ _ _=>bM) (fun _ _ _ _ _=>(aE hL_take (hr.mono (by decide)) rfl (aa (pv 1) (aa (az bo (pv 0) ah) af))))) af)))),?_⟩;obtain⟨ma,mb,rfl,hma,hmb⟩:=cI rm;have lr:=okr.len;refine⟨_,rfl,.inr ⟨ma,_,0,.ref mb,rfl,rfl,hma,bB (Int.le_refl 0) rfl,mb,rfl,⟨_,hmb⟩,fun D H1 n1=>?_⟩⟩;refine wo (K:=K) (J:=B9 K mb) (p:=p) (H:=H) rs.length _ n1 bg (by omega) (fun i=>.int (rs.getD i 0)) (fun i H2 hi b2=>?_) (fun H2 b2=>?_) (fun i d=>∃z r,d= .int z/\rs[i]? =some r/\0<=z/\z<=r) ?_ ?_
   · have hm2:=hmb.t (bR.t bg b2)
     have e:(rs.map V.int)[i]? =some (.int (rs.getD i 0)):=by rw[List.getElem?_map,List.getD_eq_getElem?_getD,List.getElem?_eq_getElem hi];rfl
     exact⟨⟨_,_,hm2,e⟩,fun y H3 ⟨e3,y3⟩=>⟨e3,by have:=y3 _ hm2;rw[e]at this;exact(Option.some.inj this).symm⟩⟩
   ·exact⟨_,hmb.t (bR.t bg b2),by rw[List.length_map];exact Nat.le_refl _⟩
   · intro i H2 Q' hi b2 hq
     have er:rs[i]? =some (rs.getD i 0):=by rw[List.getD_eq_getElem?_getD,List.getElem?_eq_getElem hi];rfl
     obtain⟨r0,r1⟩:=okr.rl _ (List.mem_of_getElem? er);refine⟨_,rfl,_,rfl,_,_,rfl,rfl,p,_,rfl,b2.bag,by omega,by omega,fun z H3 z0 z1 b3=>?_⟩;exact hq _ _ _ ⟨z,_,rfl,er,z0,by omega⟩ rfl (bU z) b3
   · intro H2 ys ds b2 d2 r2 l2 nl pd
     have hds:∃pl:List Int,ds=pl.map PyData.int/\pI rs pl:=by
      have key:∀(ds:List PyData),(∀d∈ds,∃z:Int,d= .int z)->∃pl:List Int,ds=pl.map PyData.int:=by intro ds;induction ds with |nil=>exact fun _=>⟨[],rfl⟩ |cons d ds ih=>intro h;obtain⟨z,rfl⟩:=h d (.head _);obtain⟨pl,rfl⟩:=ih fun x hx=>h x (.tail _ hx);exact⟨z::pl,rfl⟩
      obtain⟨pl,rfl⟩:=key ds fun d hd=>by obtain⟨i,hi⟩:=List.mem_iff_getElem?.mp hd;obtain⟨z,_,e,_⟩:=pd i d hi;exact⟨z,e⟩
      refine⟨pl,rfl,by simpa using l2,fun i x r e1 e2=>?_⟩;obtain⟨z,r',e,er,h0,h1⟩:=pd i (.int x) (by rw[List.getElem?_map,e1];rfl);cases e;rw[e2]at er;cases er;exact⟨h0,h1⟩
     obtain⟨pl,rfl,on⟩:=hds;refine⟨D,_,rfl,.inl ⟨bc.of d2,fun t H3 n3=>?_⟩⟩;have et:=n3.at';rw[r2.ck]at et;exact k (.ref t) pl H3 (lR (bG.of et)) on (b2.trans (.fE b2.bag n3.same))
inductive yi(K:PySem.W.Frag)(vs:List V)(H:Hp)(Q:VK):Prop |mk (p:_)(m:_)(rs:_)(r:_)(f:_)(j:_)(t:_)(x:_)(pl:_)(mo:_)(h0:vs=[.ref p,m,x,.int mo])(h1:fD H p)(h2:RD K H m (eZ rs r f j t))(h3:zE rs r f j t)(h4:RD K H x (jL pl))(h5:pI rs pl)(h6:1<=mo)(h7:mo<=100)(h8:∀v ns sp H',RD K H' v (cZ ns sp)->iD rs.length 100 ns->1<=sp->sp<=20->pI rs (eK pl ns)->bR p H H'->Q v H'):yi K vs H Q
def yj(K:PySem.W.Frag):Sp:=fun vs H Q _=>yi K vs H Q
def jT(rs pl is:List Int)(mo:Int):Prop:=∀(j:Nat)(z a r:Int),is[j]? =some z->pl[j]? =some a->rs[j]? =some r->0<=a+z/\a+z<=r/\(z.natAbs:Int)<=mo
theorem jT.on{rs pl is:List Int}{mo:Int}(h:jT rs pl is mo)(lp:pl.length=rs.length)(ls:is.length=pl.length):pI rs (eK pl is):=by
 refine⟨by rw[eL ls];exact lp,?_⟩;intro j x r ej er';have hj:j<pl.length:=by have:=(List.getElem?_eq_some_iff.mp ej).1;rw[eL ls]at this;exact this
 have ej2:=ky (List.getElem?_eq_getElem hj) (List.getElem?_eq_getElem (show j<is.length by omega));rw[ej]at ej2;have ej3:=Option.some.inj ej2;have:=h j _ _ r (List.getElem?_eq_getElem (show j<is.length by omega)) (List.getElem?_eq_getElem hj) er';omega
theorem jT.bd{rs pl is:List Int}{mo:Int}(h:jT rs pl is mo)(lp:pl.length=rs.length)(ls:is.length=pl.length):∀z∈is,(z.natAbs:Int)<=mo:=fun z hz'=>by obtain⟨j,hj⟩:=List.mem_iff_getElem?.mp hz';have hjl:=(List.getElem?_eq_some_iff.mp hj).1;exact(h j z _ _ hj (List.getElem?_eq_getElem (show j<pl.length by omega)) (List.getElem?_eq_getElem (show j<rs.length by omega))).2.2
theorem jT.snoc{rs pl is:List Int}{mo z a r:Int}(h:jT rs pl is mo)(ea:pl[is.length]? =some a)(er:rs[is.length]? =some r)(hz:0<=a+z/\a+z<=r/\(z.natAbs:Int)<=mo):jT rs pl (is++[z]) mo:=by
 intro j z' a' r' ej ea' er';by_cases hj:j<is.length
 · rw[List.getElem?_append_left hj]at ej
   exact h j z' a' r' ej ea' er'
 · have hj2:j=is.length:=by have:=(List.getElem?_eq_some_iff.mp ej).1;rw[List.length_append]at this;have:j<is.length+1:=this;omega
   rw[hj2,List.getElem?_append_right (Nat.le_refl _),Nat.sub_self]at ej;cases ej;rw[hj2]at ea' er';rw[ea]at ea';rw[er]at er';cases ea';cases er';exact hz
theorem jT.set{rs pl is:List Int}{mo z a r:Int}{i:Nat}(h:jT rs pl is mo)(ea:pl[i]? =some a)(er:rs[i]? =some r)(hz:0<=a+z/\a+z<=r/\(z.natAbs:Int)<=mo):jT rs pl (is.set i z) mo:=by
 intro j z' a' r' ej ea' er';by_cases hj:j=i
 · subst hj
   rw[ea]at ea';rw[er]at er';cases ea';cases er';have hl:j<is.length:=by have:=(List.getElem?_eq_some_iff.mp ej).1;rwa [List.length_set]at this
   rw[List.getElem?_set_self hl]at ej;cases ej;exact hz
 · rw[List.getElem?_set_ne (Ne.symm hj)]at ej
   exact h j z' a' r' ej ea' er'
abbrev E3:Stmt:=top 74
theorem BU:aH ["_law_bag_here","_law_machine_here","_law_place_here","_law_most","_law_steps","_law_flat","_law_axis","_law_stand_here","_law_low","_law_high"] ["_law_bag_here","_law_machine_here","_law_place_here","_law_most"] (ao E3):=⟨rfl,rfl,rfl,by decide+kernel,rfl,by decide+kernel,by decide+kernel⟩
theorem E4(F:FA K mg "_law_line" E3)(B:dv mg)(hL_take:aw P w K mg base "_law_take" 1 jq):aw P w K mg base "_law_line" 2 (yj K):=by
 refine F.has BU (fun vs H Q E h=>?_) (fun _ _ _ _ _ _ us hl=>match us,hl with|[_,_,_,_],_=>rfl) (fun fa cdv A outer s H vs Q E hr h=>?_)
 · obtain⟨p,m,rs,r,f,j,t,x,pl,mo,rfl,_⟩:=h
   rfl
 · obtain⟨p,m,rs,r,f,j,t,x,pl,mo,rfl,bg,rm,okr,rx,on,mo1,mo2,k⟩:=h
   have nd:=BU.nd;refine⟨_,(ag (aF (i:=4) nd rfl (Or.inl rfl) (bE af)) (ag (aF (i:=5) nd rfl (Or.inl rfl) (aE hL_take (hr.mono (by decide)) rfl (aa (pv 0) (aa ah af)))) (ag (fc PassesOwn.never rfl (A4 K rfl false rfl (B.at "enumerate") (aa (pv 2) af)) (gD K rfl (n:=2) rfl (aD (aA (i:=6) nd rfl (Or.inl rfl)) (aD (aA (i:=7) nd rfl (Or.inl rfl)) aZ))) (ag (aF (i:=8) nd rfl (Or.inl rfl) (ak (x:="max") (lg rfl) rfl (B.at "max") PyProof.Rows.boot_max (aa ah (aa (az cB (pv 7) (pv 3)) af)))) (ag (aF (i:=9) nd rfl (Or.inl rfl) (ak (x:="min") (jd rfl) rfl (B.at "min") PyProof.Rows.boot_min (aa (aM (cw K rfl) (aM (cw K rfl) (pv 1) ah (fun _ _=>rfl)) (pv 6) (fun _ _=>rfl)) (aa (az bo (pv 7) (pv 3)) af)))) (ag (cj (fA K rfl (pv 4) (aa (az cB (az bo (pv 8) (aE hL_take (hr.mono (by decide)) rfl (aa (pv 0) (aa (az bo (az cB (pv 9) (pv 8)) ah) af)))) (pv 7)) af))) (ai (aR (aO (fT K rfl hr.units) (pv 5) (pv 6) (aK _)) (ai (cx ah (iA (pv 4) (pv 6) set_list))) aL)))))) (ag (cL (aR (cf (bh (ak (x:="any") (Gi K rfl rfl) rfl (B.at "any") PyProof.Rows.boot_any (aa (pv 4) af)))) (ag (aF (i:=6) nd rfl (Or.inl rfl) (aE hL_take (hr.mono (by decide)) rfl (aa (pv 0) (aa (ak (x:="len") (dw K rfl) rfl (B.at "len") PySem.boot_len (aa (pv 4) af)) af)))) (ai (cx (az cB ah (az aG ah (bI (x:="int") lj rfl (B.at "int") PyProof.Rows.boot_int (aa (bJ ka (aM (cw K rfl) (pv 2) (pv 6) (fun _ _=>rfl)) ah (aK _)) af)))) (iA (pv 4) (pv 6) set_list)))) aL)) (ai (aB (bF (aa aJ (aa (bI (x:="tuple") (fe K rfl) rfl (B.at "tuple") PyProof.Rows.boot_tuple (aa (pv 4) af)) (aa (az bo ah (aE hL_take (hr.mono (by decide)) rfl (aa (pv 0) (aa ah af)))) af)))))))))),?_⟩;have lr:=okr.len;have lp:=on.len;obtain⟨ma,mb,rfl,hma,hmb⟩:=cI rm;obtain⟨xa,rfl,hxa⟩:=gP rx;refine⟨aQ _ (Nat.le_of_ble_eq_true rfl),fun l H1 n1=>?_⟩;have b1:bR p H H1:=.fE bg n1.same;have lnp:l≠p:=fun z=>bg.ne (z▸n1.no);refine⟨_,rfl,p,4,rfl,b1.bag,by decide,by decide,fun fl H2 f0 f1 b2=>?_⟩;have b12:=b1.trans b2;have t12:=bR.t bg b12;refine⟨_,rfl,xa,rfl,⟨_,hxa.t t12⟩,wy (K:=K) (b:=false) (a:=xa) (xs:=pl.map V.int) (fun i σ H3=>bR p H H3/\∃(is:List Int)(v1 v2 v3 v4:Option V),H3 l=some (.lst (is.map V.int))/\is.length=i/\jT rs pl is mo/\σ=[some (.ref p),some (.ref ma),some (.ref xa),some (.int mo),some (.ref l),some (.int fl),v1,v2,v3,v4]) ?_ (fun i σ H3 _ h=>hxa.t (bR.t bg h.1)) ?_ ?_⟩
   ·exact⟨b12,[],none,none,none,none,b2.same _ _ lnp n1.at',rfl,fun j z a r e=>by simp at e,rfl⟩
   · rintro i y σ H3 hy ⟨b3,is,v1,v2,v3,v4,dl,li,hz,rfl⟩ T H4 n4
     rw[List.getElem?_map]at hy;obtain⟨a,ea,rfl⟩:=Option.map_eq_some_iff.mp hy;have hil:i<pl.length:=(List.getElem?_eq_some_iff.mp ea).1;obtain⟨rl,er⟩:∃rl,rs[i]? =some rl:=⟨_,List.getElem?_eq_getElem (show i<rs.length by omega)⟩;obtain⟨a0,a1⟩:=on.at' i a rl ea er;obtain⟨r0,r1⟩:=okr.rl rl (List.mem_of_getElem? er);have b4:bR p H H4:=b3.trans (.fE b3.bag n4.same);have t4:=bR.t bg b4;have dl4:=n4.same _ _ dl;have atr:jJ (rs.map V.int) (i:Int)=some (.int rl):=bB (by omega) (by rw[List.getElem?_map];simp[er]);refine⟨T,_,rfl,bG.of n4.at',rfl,_,_,rfl,_,_,rfl,rfl,?_⟩;refine⟨_,rfl,_,rfl,_,_,rfl,rfl,_,_,rfl,?_⟩;obtain⟨low,elow,lo0,lo1,lo2⟩:∃low:Int,(if a-mo>0 then a-mo else 0)=low/\0<=low/\a-mo<=low/\low<=a:=⟨_,rfl,by split<;>omega,by split<;>omega,by split<;>omega⟩;rw[elow];refine⟨_,rfl,.inr ⟨ma,_,0,.ref mb,rfl,rfl,hma.t t4,rfl,_,rfl,.inr ⟨mb,_,_,.int rl,rfl,rfl,hmb.t t4,atr,_,rfl,_,rfl,_,_,rfl,rfl,_,_,rfl,?_⟩⟩⟩;obtain⟨hi,ehi,hi0,hi1,hi2⟩:∃hi:Int,(if a+mo<rl then a+mo else rl)=hi/\a<=hi/\hi<=rl/\hi<=a+mo:=⟨_,rfl,by split<;>omega,by split<;>omega,by split<;>omega⟩;rw[ehi];refine⟨_,rfl,.inl ⟨rfl,_,bc.of dl4⟩,?_⟩;refine⟨_,rfl,_,rfl,_,rfl,_,rfl,_,_,rfl,rfl,_,_,rfl,rfl,p,hi-low+1,rfl,b4.bag,by omega,by omega,fun d H5 d0 d1 b5=>?_⟩;refine⟨_,_,rfl,rfl,_,rfl,_,_,rfl,rfl,l,_,_,rfl,rfl,b5.same _ _ lnp dl4,?_,?_⟩
     · rw[List.length_map,li]
       have:(1000:Nat)<sizeLine:=by decide
       omega
     have b6:bR p H (L2.upd H5 l (.lst (is.map V.int++[.int (low+d-a)]))):=(b4.trans b5).putL lnp n1.no;have e6:(L2.upd H5 l (.lst (is.map V.int++[.int (low+d-a)]))) l=some (.lst ((is++[low+d-a]).map V.int)):=by rw[au,List.map_append];rfl
     generalize L2.upd H5 l (.lst (is.map V.int++[.int (low+d-a)]))=H6 at b6 e6⊢;rw[<-li]at ea er;have st6:=hz.snoc ea er (z:=low+d-a) (by omega);refine⟨_,rfl,_,rfl,.inl ⟨_,_,rfl,rfl,_,rfl,?_⟩⟩;refine dk (fun hc=>?_) (fun hc=>?_)
     · have ix:oT ((is++[low+d-a]).map V.int).length (i:Int)=some i:=by unfold oT;rw[if_pos (by omega),if_pos (by rw[List.length_map,List.length_append];show(i:Int)<((is.length+1:Nat):Int);omega)];simp
       refine⟨_,rfl,_,rfl,l,_,_,_,rfl,rfl,e6,ix,?_⟩;refine⟨b6.putL lnp n1.no,(is++[low+d-a]).set i 0,_,_,_,_,by rw[au,List.map_set],by rw[List.length_set,List.length_append,li];rfl,?_,rfl⟩;rw[li]at ea er;exact st6.set ea er (by omega)
     ·exact⟨b6,is++[low+d-a],_,_,_,_,e6,by rw[List.length_append,li];rfl,st6,rfl⟩
   · rintro σ H3 ⟨b3,is,v1,v2,v3,v4,dl,li,hz,rfl⟩
     rw[List.length_map]at li;have t3:=bR.t bg b3;refine⟨fun σ H4=>bR p H H4/\∃(is:List Int)(v1:Option V),H4 l=some (.lst (is.map V.int))/\iD rs.length 100 is/\pI rs (eK pl is)/\σ=[some (.ref p),some (.ref ma),some (.ref xa),some (.int mo),some (.ref l),some (.int fl),v1,v2,v3,v4],?_,?_⟩
     · refine⟨_,rfl,l,is,rfl,.inl (bc.of dl),_,rfl,?_⟩
       cases ha:is.any (· !=0)with |false=>
         refine bK ?_;refine⟨_,rfl,_,rfl,l,_,rfl,.inl (bc.of dl),p,_,rfl,b3.bag,(by rw[List.length_map];omega),(by rw[List.length_map];omega),fun ax H4 a0 a1 b4=>?_⟩;rw[List.length_map]at a1;have b34:=b3.trans b4;have hax:ax.toNat<pl.length:=by omega
         have ea:=List.getElem?_eq_getElem hax;have er:=List.getElem?_eq_getElem (show ax.toNat<rs.length by omega);obtain⟨q0,q1⟩:=on.at' _ _ _ ea er;obtain⟨r0,r1⟩:=okr.rl _ (List.mem_of_getElem? er);have ata:jJ (pl.map V.int) ax=some (.int pl[ax.toNat]):=bB a0 (by rw[List.getElem?_map,ea];rfl);generalize pl[ax.toNat]=qa at ea q0 q1 ata;generalize rs[ax.toNat]=qr at er q1 r0 r1;refine⟨_,rfl,_,rfl,.inr ⟨xa,_,_,_,rfl,rfl,hxa.t (bR.t bg b34),ata,?_⟩⟩;refine⟨_,_,rfl,rfl,.inr ⟨_,rfl,?_⟩⟩;refine⟨_,_,rfl,rfl,.of_left (intBits_le_64 (by decide) (by decide)),_,_,rfl,rfl,?_⟩;obtain⟨y,ey,y1,y2,y3⟩:∃y:Int,(1-2*(if decide (qa>0)=true then 1 else 0):Int)=y/\y.natAbs=1/\0<=qa+y/\qa+y<=qr:=by
          by_cases h:qa>0
          ·rw[decide_eq_true h];exact⟨-1,rfl,rfl,by omega,by omega⟩
          ·rw[decide_eq_false h];exact⟨1,rfl,rfl,by omega,by omega⟩
         have dl4:=b4.same _ _ lnp dl;have ix:oT (is.map V.int).length ax=some ax.toNat:=by unfold oT;rw[if_pos a0,if_pos (by rw[List.length_map];omega)]
         refine⟨_,rfl,_,rfl,l,_,_,_,rfl,rfl,dl4,ix,?_⟩;have st:=hz.set (i:=ax.toNat) ea er (z:=y) (by omega);have ls:(is.set ax.toNat y).length=pl.length:=by rw[List.length_set];omega
         refine⟨b34.putL lnp n1.no,is.set ax.toNat y,_,?_,⟨by omega,fun z hz'=>?_,?_⟩,st.on lp ls,rfl⟩
         · rw[au,<-List.map_set]
           simp only[ey]
         ·have:=st.bd lp ls z hz';omega
         ·exact⟨y,List.mem_iff_getElem.mpr ⟨ax.toNat,by rw[List.length_set];omega,by rw[List.getElem_set_self]⟩,by omega⟩ |true=>
         refine bw ?_;have ls:is.length=pl.length:=by omega
         refine⟨b3,is,_,dl,⟨by omega,fun z hz'=>?_,?_⟩,hz.on lp ls,rfl⟩
         ·have:=hz.bd lp ls z hz';omega
         · obtain⟨z,hz',h0⟩:=List.any_eq_true.mp ha
           exact⟨z,hz',by simpa using h0⟩
     rintro σ H4 ⟨b4,is,v1,dl,ok,on2,rfl⟩;refine⟨_,rfl,l,_,rfl,.inl ⟨bc.of dl,fun q H5 n5=>?_⟩⟩;have b5:bR p H H5:=b4.trans (.fE b4.bag n5.same);have qp:q≠p:=fun e=>b4.bag.ne (e▸n5.no);refine⟨_,rfl,p,20,rfl,b5.bag,by decide,by decide,fun sp H6 p0 p1 b6=>?_⟩;refine⟨_,_,rfl,rfl,aQ _ (Nat.le_of_ble_eq_true rfl),fun t H7 n7=>?_⟩;have b7:=b5.trans (b6.trans (.fE b6.bag n7.same));exact k (.ref t) is (1+sp) H7 (e9 (bG.of n7.at') (aP (bQ _) (aP (e9 (bG.of (n7.same _ _ (b6.same _ _ qp n5.at'))) (fY is)) (aP (bU _) ba)))) ok (by omega) (by omega) on2 b7
end
end Lw
namespace Lw
open PySem PySem.Spec PyProof.Rows L2 Rt Ln Wk
section
variable {P:Program}{w:World}{K:PySem.W.Frag}{mg:Str->Option Value}{base:Heap}
def JO(c:Nat):Bool:=decide (97<=c)&&decide (c<=122)
def yk(s:Str):Bool:=(decide (1<=s.length)&&decide (s.length<=8))&&s.cps.toList.all JO
def Je(w s:Str):Prop:=(w="tool"/\(s="up"\/s="down"))\/(w="mark"/\yk s=true)
def oj(d:PyData):Prop:=(∃n,d= .tuple [.str "wait",.int n]/\1<=n/\n<=1000)\/∃w s,d= .tuple [.str w,.str s]/\(w="tool"\/w="mark")/\hW 0 (.str s)/\Je w s
end
end Lw
namespace Lw
open PySem PySem.Spec PyProof.Rows L2 Rt Ln Wk
section
variable {P:Program}{w:World}{K:PySem.W.Frag}{mg:Str->Option Value}{base:Heap}
def RowW(ds:List PyData)(os:List Itm):Prop:=∀(i:Nat)(d:PyData),os[i]? =some none->ds[i]? =some d->oj d
theorem RowW.snoc{ds:List PyData}{os:List Itm}{d:PyData}{o:Itm}(h:RowW ds os)(hl:ds.length=os.length)(hd:o=none->oj d):RowW (ds++[d]) (os++[o]):=by
 intro i x e1 e2;rcases fG e1 with h1|⟨h1,h1'⟩
 · rcases fG e2 with h2|⟨h2,_⟩
   ·exact h i x h1 h2
   ·have:=(List.getElem?_eq_some_iff.mp h1).1;omega
 · rcases fG e2 with h2|⟨_,h2'⟩
   ·have:=(List.getElem?_eq_some_iff.mp h2).1;omega
   ·subst h2';exact hd h1'.symm
end
end Lw
namespace Lw
open PySem PySem.Spec PyProof.Rows L2 Ln
section
variable {P:Program}{w:World}{K:PySem.W.Frag}{mg:Str->Option Value}{base:Heap}
theorem Hc{j:Int}(h:j.natAbs<2^64):Wd j:=Nat.lt_trans h (by decide+kernel)
inductive sH(vs:List V)(H:Hp)(Q:VK):Prop |mk (p:Int)(q:Int)(h0:vs=[.int p,.int q])(h1:0<q)(h2:q<=10^6)(h3:p.natAbs<=10^9)(h4:Q (.int (ek p q)) H):sH vs H Q
def qc:Sp:=fun vs H Q _=>sH vs H Q
abbrev qf:Stmt:=top 27
theorem sJ:aH ["p","q","size"] ["p","q"] (ao qf):=⟨rfl,rfl,rfl,by decide+kernel,rfl,by decide+kernel,by decide+kernel⟩
theorem yl(F:FA K mg "nearest" qf)(B:dv mg):aw P w K mg base "nearest" 1 qc:=by
 refine F.has sJ (fun vs H Q E h=>?_) (fun _ _ _ _ _ _ us hl=>match us,hl with|[_,_],_=>rfl) (fun f cdv A outer s H vs Q E hr h=>?_)
 · obtain⟨p,q,rfl,_⟩:=h
   rfl
 · obtain⟨p,q,rfl,q0,q1,p1,k⟩:=h
   have nd:=sJ.nd;refine⟨_,(ag (aF (i:=2) nd rfl (Or.inl rfl) (az du (az bo (az aG ah (ak (x:="abs") dS rfl (B.at "abs") PyProof.Rows.boot_abs (aa (pv 0) af))) (pv 1)) (az aG ah (pv 1)))) (ai (aB (nc (aO vf (pv 0) ah (aK _)) (pv 2) (nv jZ (pv 2)))))),?_⟩;refine⟨_,rfl,p,rfl,_,_,rfl,rfl,.of_left (intBits_le_64 (by decide) (by decide)),_,rfl,_,_,rfl,rfl,_,rfl,_,_,rfl,rfl,.of_left (intBits_le_64 (by decide) (by decide)),_,_,rfl,rfl,⟨by omega,Hc (by omega)⟩,?_⟩;have e:(2*(if p<0 then-p else p)+q)/(2*q)=fZ p q:=by unfold fZ;rw[<-iR];rfl
   refine⟨_,rfl,_,_,rfl,rfl,_,rfl,?_⟩;unfold ek at k;rw[<-e]at k;refine dk (fun hc=>?_) (fun hc=>?_)
   · have hp:p>=0:=of_decide_eq_true hc
     rw[if_pos hp]at k;exact⟨_,rfl,k⟩
   · have hp:¬p>=0:=fun z=>hc (decide_eq_true z)
     rw[if_neg hp]at k;exact⟨_,rfl,_,rfl,k⟩
def qg(ns:List Int)(k:Int):PyData:=.tuple ((ns.map fun z=>ek (k*z) (ay ns)).map PyData.int)
theorem sL{k z:Int}(h:k.natAbs<=10^6)(g:(z.natAbs:Int)<=1000):(k*z).natAbs<=10^9:=by rw[Int.natAbs_mul];exact Nat.le_trans (Nat.mul_le_mul h (show z.natAbs<=1000 by omega)) (by decide)
inductive om(K:PySem.W.Frag)(vs:List V)(H:Hp)(Q:VK):Prop |mk (v:_)(ns:_)(sp:_)(k:_)(h0:vs=[v,.int k])(h1:RD K H v (cZ ns sp))(h2:iD ns.length 1000 ns)(h3:ns.length<=1000)(h4:k.natAbs<=10^6)(h5:∀v' H',RD K H' v' (qg ns k)->aI H H'->Q v' H'):om K vs H Q
def jU(K:PySem.W.Frag):Sp:=fun vs H Q _=>om K vs H Q
abbrev qh:Stmt:=top 25
theorem sM:aH ["line","k","lead"] ["line","k"] (ao qh):=⟨rfl,rfl,rfl,by decide+kernel,rfl,by decide+kernel,by decide+kernel⟩
theorem yn(F:FA K mg "stand_at" qh)(B:dv mg)(hlead_of:aw P w K mg base "lead_of" 1 (fq K))(hnearest:aw P w K mg base "nearest" 1 qc):aw P w K mg base "stand_at" 2 (jU K):=by
 refine F.has sM (fun vs H Q E h=>?_) (fun _ _ _ _ _ _ us hl=>match us,hl with|[_,_],_=>rfl) (fun f cdv A outer s H vs Q E hr h=>?_)
 · obtain⟨v,ns,sp,k,rfl,_⟩:=h
   rfl
 · obtain⟨v,ns,sp,kk,rfl,rd,ok,hz,hk,k⟩:=h
   have nd:=sM.nd;refine⟨_,(ag (aF (i:=2) nd rfl (Or.inr rfl) (aE hlead_of (hr.mono (by decide)) rfl (aa (pv 0) af))) (ai (aB (bI (x:="tuple") (fe K rfl) rfl (B.at "tuple") PyProof.Rows.boot_tuple (aa (bT (N:=["step","lead","k"]) (js:=[none,some 2,some 1]) rfl rfl rfl (Bs K rfl (aM (cw K rfl) (pv 0) ah (fun _ _=>rfl))) (fun _ _ _ _ _=>(aA (i:=0) (show List.Nodup (["step","lead","k"]:List Str) by decide+kernel) rfl (Or.inl rfl))) (fun _ _ _ _ _=>bM) (fun _ _ _ _ _=>(aE hnearest (hr.mono (by decide)) rfl (aa (az aG (pv 2) (pv 0)) (aa (pv 1) af))))) af))))),?_⟩;refine⟨_,rfl,v,ns,sp,rfl,rd,ok.ne,hz,fun H1 s1=>?_⟩;obtain⟨a,b,rfl,ha,hb⟩:=cH (RD.mono s1 _ rd);obtain⟨lp,lm⟩:=ok.lead;refine⟨_,rfl,.inr ⟨a,_,1,.ref b,rfl,rfl,ha,rfl,b,rfl,⟨_,hb⟩,fun D H0 nw=>?_⟩⟩;refine iQ (K:=K) (xs:=ns.map V.int) (ds:=(ns.map fun z=>ek (kk*z) (ay ns)).map PyData.int) _ hb nw (by simp) (by simpa using hz) (cC _) ?_ ?_
   · intro i x d H2 Q' ex ed s2 hq
     rw[List.map_map]at ed;obtain⟨n,en,rfl⟩:=dB ed;cases gM ex en;refine⟨_,rfl,_,rfl,_,_,rfl,rfl,.of_left (intBits_le_64 (by omega) (by omega)),_,rfl,_,_,rfl,by omega,by omega,sL hk (ok.bd n (List.mem_of_getElem? en)),?_⟩;exact hq _ _ (aI.refl _) (bU _)
   · intro H' ys s2 d2 r2
     refine⟨D,_,rfl,.inl ⟨bc.of d2,fun t H4 n4=>?_⟩⟩;exact k _ _ (e9 (bG.of n4.at') (bj.mono n4.same _ r2)) (s1.trans (s2.trans n4.same))
end
end Lw
namespace Lw
open PySem PySem.Spec PyProof.Rows L2 Ln
section
variable {P:Program}{w:World}{K:PySem.W.Frag}{mg:Str->Option Value}{base:Heap}
def gd(ns:List Int)(j:Nat):List Int:=ns.map fun z=>ek (((j:Int)+1)*z) (ay ns)-ek ((j:Int)*z) (ay ns)
def iZ(ns:List Int):List PyData:=(List.range (ay ns)).map fun j=>.tuple ((gd ns j).map PyData.int)
theorem mH(zs:List Int):iP (.tuple (zs.map PyData.int))=true:=by rw[iP];exact cC zs
theorem kG(ns:List Int):cD (iZ ns)=true:=bS.mpr fun d hd=>by obtain⟨j,_,rfl⟩:=List.mem_map.mp hd;exact mH _
theorem lS{ns:List Int}{i:Nat}(h:i<ay ns):(iZ ns)[i]? =some (.tuple ((gd ns i).map PyData.int)):=by unfold iZ;rw[List.getElem?_map,List.getElem?_eq_getElem (by simpa using h),List.getElem_range];rfl
theorem jx(ns:List Int):(iZ ns).length=ay ns:=by simp[iZ]
inductive sN(K:PySem.W.Frag)(vs:List V)(H:Hp)(Q:VK):Prop |mk (v:_)(ns:_)(sp:_)(h0:vs=[v])(h1:RD K H v (cZ ns sp))(h2:iD ns.length 1000 ns)(h3:ns.length<=1000)(h4:∀l ys H',H l=none->H' l=some (.lst ys)->bj K H' ys (iZ ns)->aI H H'->Q (.ref l) H'):sN K vs H Q
def qi(K:PySem.W.Frag):Sp:=fun vs H Q _=>sN K vs H Q
abbrev yo:Stmt:=top 26
theorem yp:aH ["line","rows","before","k","behind"] ["line"] (ao yo):=⟨rfl,rfl,rfl,by decide+kernel,rfl,by decide+kernel,by decide+kernel⟩
theorem AB(F:FA K mg "step_rows" yo)(B:dv mg)(hlead_of:aw P w K mg base "lead_of" 1 (fq K))(hstand_at:aw P w K mg base "stand_at" 2 (jU K)):aw P w K mg base "step_rows" 3 (qi K):=by
 refine F.has yp (fun vs H Q E h=>?_) (fun _ _ _ _ _ _ us hl=>match us,hl with|[_],_=>rfl) (fun f cdv A outer s H vs Q E hr h=>?_)
 · obtain⟨v,ns,sp,rfl,_⟩:=h
   rfl
 · obtain⟨v,ns,sp,rfl,rd,ok,hz,k⟩:=h
   have nd:=yp.nd;obtain⟨lp,lm⟩:=ok.lead;refine⟨_,(ag (aF (i:=1) nd rfl (Or.inl rfl) (bE af)) (ag (aF (i:=2) nd rfl (Or.inl rfl) (aE hstand_at (hr.mono (by decide)) rfl (aa (pv 0) (aa ah af)))) (ag (fc PassesOwn.never rfl (lb rfl (B.at "range") (aa ah (aa (az bo (aE hlead_of (hr.mono (by decide)) rfl (aa (pv 0) af)) ah) af))) (aA (i:=3) nd rfl (Or.inl rfl)) (ag (aF (i:=4) nd rfl (Or.inl rfl) (aE hstand_at (hr.mono (by decide)) rfl (aa (pv 0) (aa (pv 3) af)))) (ag (cj (fA K rfl (pv 1) (aa (bI (x:="tuple") (fe K rfl) rfl (B.at "tuple") PyProof.Rows.boot_tuple (aa (bT (N:=["new","old"]) (js:=[none,none]) rfl rfl rfl (dy K rfl false false rfl (B.at "zip") (aa (pv 4) (aa (pv 2) af))) (fun _ _ _ _ _=>(gD K rfl (n:=2) rfl (aD (aA (i:=0) (show List.Nodup (["new","old"]:List Str) by decide+kernel) rfl (Or.inl rfl)) (aD (aA (i:=1) (show List.Nodup (["new","old"]:List Str) by decide+kernel) rfl (Or.inl rfl)) aZ)))) (fun _ _ _ _ _=>bM) (fun _ _ _ _ _=>(az cB (pv 0) (pv 1)))) af)) af))) (ai (aF (i:=2) nd rfl (Or.inl rfl) (pv 4)))))) (ai (aB (pv 1)))))),?_⟩;refine⟨aQ _ (Nat.le_of_ble_eq_true rfl),fun l H1 n1=>?_⟩;refine⟨_,rfl,v,ns,sp,0,rfl,RD.mono n1.same _ rd,ok,hz,by decide,fun u H2 ru s2=>?_⟩;have t2:=n1.same.trans s2;refine⟨_,rfl,v,ns,sp,rfl,RD.mono t2 _ rd,ok.ne,hz,fun H3 s3=>?_⟩;refine⟨_,_,rfl,rfl,_,_,rfl,⟨by omega,by omega,by omega,by omega⟩,?_⟩;have t3:=t2.trans s3;have e3:((ay ns:Int)+1-1).toNat=ay ns:=by omega
   refine fW (Pv:=fun i σ H4=>aI H H4/\(∃ys,H4 l=some (.lst ys)/\bj K H4 ys ((iZ ns).take i))/\∃b v1 v2,RD K H4 b (qg ns i)/\σ=[some v,some (.ref l),some b,v1,v2]) ?_ ?_ ?_
   ·exact⟨t3,⟨[],s3 _ _ (s2 _ _ n1.at'),ba⟩,u,none,none,RD.mono s3 _ ru,rfl⟩
   · rintro i σ H4 hi ⟨t4,⟨ys,dl,ry⟩,b,v1,v2,rb,rfl⟩
     have hi':i<ay ns:=by omega
     refine⟨_,rfl,_,rfl,v,ns,sp,_,rfl,RD.mono t4 _ rd,ok,hz,by omega,fun b2 H5 rb2 s5=>?_⟩;refine⟨_,rfl,.inl ⟨rfl,_,bc.of (s5 _ _ dl)⟩,?_⟩;obtain⟨a1,xs1,rfl,h1,q1⟩:=rb2.bu;have e1:=q1.ck;subst e1;obtain⟨a0,xs0,rfl,h0,q0⟩:=(RD.mono s5 _ rb).bu;have e0:=q0.ck;subst e0;refine⟨_,rfl,_,rfl,a1,a0,rfl,⟨_,h1⟩,⟨_,h0⟩,fun D H6 nw=>?_⟩;refine fC (K:=K) (b1:=false) (b2:=false) (ds:=(gd ns i).map PyData.int) [] rfl h1 h0 nw (by simp[gd]) (by simpa[gd]using hz) (cC _) ?_ ?_
     · intro j x y d H7 Q' ex ey ed s7 hq
       obtain⟨m,em,rfl⟩:=dB ed;unfold gd at em;rw[List.getElem?_map]at em ex ey;rw[List.getElem?_map]at ex ey;cases en:ns[j]? with |none=>rw[en]at em;cases em |some n=>
         rw[en]at em ex ey;cases em;cases ex;cases ey;refine⟨_,rfl,_,rfl,_,_,rfl,rfl,?_⟩;have ee:(1:Int)+(i:Int)=(i:Int)+1:=by omega
         rw[ee];exact hq _ _ (aI.refl _) (bU _)
     · intro H7 zs s7 d7 r7
       refine⟨D,_,rfl,.inl ⟨bc.of d7,fun t H8 n8=>?_⟩⟩;have s48:=s5.trans (s7.trans n8.same);have dl8:=s48 _ _ dl;have len:=ry.length;rw[List.length_take,jx]at len;refine⟨l,ys,_,rfl,rfl,dl8,?_,?_⟩
       · have:(1000:Nat)<sizeLine:=by decide
         omega
       refine⟨_,rfl,?_⟩;have tt:fm H8 (L2.upd H8 l (.lst (ys++[.ref t]))):=.nP dl8;refine⟨fun b o e=>?_,⟨_,au,?_⟩,_,_,_,?_,rfl⟩
       ·rw[aj (aX e n1.no)];exact s48 b o (t4 b o e)
       · rw[List.take_succ,lS hi']
         have nt:cD ((iZ ns).take i)=true:=bS.mpr fun d hd=>bS.mp (kG ns) d (List.mem_of_mem_take hd);exact(bj.t tt _ nt (bj.mono s48 _ ry)).append (aP (RD.t tt _ (mH _) (e9 (bG.of n8.at') (bj.mono n8.same _ r7))) ba)
       · have ee:(1:Int)+(i:Int)=((i+1:Nat):Int):=by omega
         rw[ee]at rb2;exact RD.t tt _ (mH _) (RD.mono (s7.trans n8.same) _ rb2)
   · rintro σ H4 ⟨t4,⟨ys,dl,ry⟩,b,v1,v2,rb,rfl⟩
     rw[e3,List.take_of_length_le (by rw[jx];exact Nat.le_refl _)]at ry;exact⟨_,rfl,k l ys H4 n1.no dl ry t4⟩
end
end Lw
namespace Lw
open PySem PySem.Spec PyProof.Rows L2 Rt Ln
section
variable {P:Program}{w:World}{K:PySem.W.Frag}{mg:Str->Option Value}{base:Heap}
def jM(ti:Int)(q:Rat)(t:Int):Bool:=decide (ti*ti*(q.den:Int)<=t*t*q.num)
inductive BV(K:PySem.W.Frag)(vs:List V)(H:Hp)(Q:VK):Prop |mk (m:_)(sq:_)(t:_)(rs:_)(r:_)(f:_)(j:_)(ti:_)(q:_)(h0:vs=[m,sq,.int t])(h1:RD K H m (eZ rs r f j ti))(h2:aY K H sq q)(h3:Bd 2000 q)(h4:1<=ti)(h5:ti<=100)(h6:0<=t)(h7:t.natAbs<2^2400)(h8:Q (.bl (jM ti q t)) H):BV K vs H Q
def Hd(K:PySem.W.Frag):Sp:=fun vs H Q _=>BV K vs H Q
abbrev Jf:Stmt:=top 57
theorem He:aH ["machine","square","t","p","q","ticks"] ["machine","square","t"] (ao Jf):=⟨rfl,rfl,rfl,by decide+kernel,rfl,by decide+kernel,by decide+kernel⟩
theorem Hf(F:FA K mg "are_enough" Jf)(B:dv mg):aw P w K mg base "are_enough" 1 (Hd K):=by
 refine F.has He (fun vs H Q E h=>?_) (fun _ _ _ _ _ _ us hl=>match us,hl with|[_,_,_],_=>rfl) (fun f cdv A outer s H vs Q E hr h=>?_)
 · obtain⟨m,sq,t,rs,r,f,j,ti,q,rfl,_⟩:=h
   rfl
 · obtain⟨m,sq,t,rs,r,f,j,ti,q,rfl,rm,⟨p,rfl,hp⟩,bq,t1,t2,t0,tw,k⟩:=h
   have nd:=He.nd;refine⟨_,(ag (cx (pv 1) (gD K rfl (n:=2) rfl (aD (aA (i:=3) nd rfl (Or.inl rfl)) (aD (aA (i:=4) nd rfl (Or.inl rfl)) aZ)))) (ag (aF (i:=5) nd rfl (Or.inl rfl) (aM (cw K rfl) (pv 0) ah (fun _ _=>rfl))) (ai (aB (bJ vf (az aG (az aG (pv 2) (pv 2)) (pv 3)) (az aG (az aG (pv 5) (pv 5)) (pv 4)) (aK _)))))),?_⟩;obtain⟨a,b,rfl,ha,hb⟩:=cI rm;have wt:Wd t:=lP tw (by decide);have wtt:Wd (t*t):=lP (n:=4800) (by rw[Int.natAbs_mul];exact ff (n:=2400) (m:=2400) tw tw) (by decide);have m1:(ti*ti).natAbs<=100*100:=by rw[Int.natAbs_mul];exact Nat.mul_le_mul (by omega) (by omega)
   refine⟨_,rfl,_,_,rfl,hp,rfl,_,_,rfl,_,_,rfl,rfl,?_⟩;refine⟨_,rfl,.inr ⟨a,_,4,.int ti,rfl,rfl,ha,rfl,?_⟩⟩;refine⟨_,rfl,_,rfl,_,_,rfl,rfl,IntMulOk.of_bits wt.bits wt.bits,_,rfl,_,_,rfl,rfl,IntMulOk.of_bits wtt.bits bq.wn.bits,?_⟩;refine⟨_,rfl,_,rfl,_,_,rfl,rfl,.of_left (intBits_le_64 (by omega) (by omega)),_,rfl,_,_,rfl,rfl,.of_left (intBits_le_64 (by omega) (by omega)),?_⟩;exact⟨_,_,rfl,rfl,k⟩
theorem yt{ti t:Int}{q:Rat}(hq:0<q.num)(h0:0<=t)(h:ti*ti*(q.den:Int)<=t):jM ti q t=true:=by
 refine decide_eq_true (Int.le_trans h ?_);by_cases ht:t=0
 ·subst ht;simp
 · have e1:t*1<=t*t:=Int.mul_le_mul_of_nonneg_left (by omega) h0
   have e2:t*t*1<=t*t*q.num:=Int.mul_le_mul_of_nonneg_left (by omega) (Int.mul_nonneg h0 h0);omega
theorem sO{ti:Int}{q:Rat}(h1:1<=ti):jM ti q 0=false:=by refine decide_eq_false fun h=>?_;have:=Int.mul_pos (Int.mul_pos (show 0<ti by omega) (show 0<ti by omega)) (den_pos q);simp only[Int.zero_mul]at h;omega
inductive oo(K:PySem.W.Frag)(vs:List V)(H:Hp)(Q:VK):Prop |mk (m:_)(sq:_)(rs:_)(r:_)(f:_)(j:_)(ti:_)(q:_)(h0:vs=[m,sq])(h1:RD K H m (eZ rs r f j ti))(h2:aY K H sq q)(h3:Bd 2000 q)(h4:1<=ti)(h5:ti<=100)(h6:0<q.num)(h7:∀T,1<=T->T.natAbs<2^2400->jM ti q T=true->jM ti q (T-1)=false->Q (.int T) H):oo K vs H Q
def sP(K:PySem.W.Frag):Sp:=fun vs H Q _=>oo K vs H Q
abbrev qj:Stmt:=top 56
theorem sQ:aH ["machine","square","enough","too_few","between"] ["machine","square"] (ao qj):=⟨rfl,rfl,rfl,by decide+kernel,rfl,by decide+kernel,by decide+kernel⟩
theorem yu(F:FA K mg "ticks_of" qj)(B:dv mg)(hare_enough:aw P w K mg base "are_enough" 1 (Hd K)):aw P w K mg base "ticks_of" 2 (sP K):=by
 refine F.has sQ (fun vs H Q E h=>?_) (fun _ _ _ _ _ _ us hl=>match us,hl with|[_,_],_=>rfl) (fun f cdv A outer s H vs Q E hr h=>?_)
 · obtain⟨m,sq,rs,r,f,j,ti,q,rfl,_⟩:=h
   rfl
 · obtain⟨m,sq,rs,r,f,j,ti,q,rfl,rm,rq,bq,t1,t2,hq,k⟩:=h
   have nd:=sQ.nd;refine⟨_,(ag (aF (i:=2) nd rfl (Or.inl rfl) ah) (ag (dQ PassesOwn.never (cf (bh (aE hare_enough (hr.mono (by decide)) rfl (aa (pv 0) (aa (pv 1) (aa (pv 2) af)))))) (ai (aF (i:=2) nd rfl (Or.inl rfl) (az aG ah (pv 2))))) (ag (aF (i:=3) nd rfl (Or.inl rfl) (az du (pv 2) ah)) (ag (dQ PassesOwn.never (aO ka (az cB (pv 2) (pv 3)) ah (aK _)) (ag (aF (i:=4) nd rfl (Or.inl rfl) (az du (az bo (pv 3) (pv 2)) ah)) (ai (aR (bh (aE hare_enough (hr.mono (by decide)) rfl (aa (pv 0) (aa (pv 1) (aa (pv 4) af))))) (ai (aF (i:=2) nd rfl (Or.inl rfl) (pv 4))) (ai (aF (i:=3) nd rfl (Or.inl rfl) (pv 4))))))) (ai (aB (pv 2))))))),?_⟩;have lim:(ti*ti*(q.den:Int)).natAbs<2^2399:=by
    have m1:(ti*ti).natAbs<=100*100:=by rw[Int.natAbs_mul];exact Nat.mul_le_mul (by omega) (by omega)
    have hd:=bq.den;rw[Int.natAbs_mul];have:(q.den:Int).natAbs=q.den:=rfl;rw[this];have:=ff (n:=14) (m:=2000) (a:=(ti*ti).natAbs) (b:=q.den) (Nat.lt_of_le_of_lt m1 (by decide)) hd;exact Nat.lt_of_lt_of_le this (Nat.pow_le_pow_right (by decide) (by decide))
   have p0:0<ti*ti*(q.den:Int):=Int.mul_pos (Int.mul_pos (by omega) (by omega)) (den_pos q);have e2:(2:Nat)^2400=2^2399*2:=Nat.pow_succ 2 2399;generalize hL:ti*ti*(q.den:Int)=L at lim p0;refine dR (fun σ H2=>H2=H/\∃(x:Int),σ=[some m,some sq,some (.int x),none,none]/\1<=x/\x<=2*L/\jM ti q (x/2)=false) (fun σ _=>match σ with|[_,_,some (.int x),_,_]=>(L-x).toNat|_=>0) ?_ ?_ ?_
   ·exact⟨rfl,1,rfl,by omega,by omega,sO t1⟩
   · rintro σ H2 ⟨rfl,x,rfl,x1,xL,hx⟩
     have xw:x.natAbs<2^2400:=by omega
     refine⟨_,rfl,_,rfl,_,rfl,m,sq,x,rs,r,f,j,ti,q,rfl,rm,rq,bq,t1,t2,by omega,xw,_,rfl,?_⟩;cases hen:jM ti q x with
     |false=>
       have hlt:x<L:=by
        by_cases hlt:x<L
        ·exact hlt
        ·rw[yt hq (by omega) (by omega)]at hen;cases hen
       refine dk (fun hc=>?_) (fun hc=>(hc rfl).elim);refine⟨_,rfl,_,_,rfl,rfl,.of_left (intBits_le_64 (by decide) (by decide)),?_⟩;refine⟨⟨rfl,_,rfl,by omega,by omega,?_⟩,?_⟩
       · have:2*x/2=x:=by omega
         rw[this];exact hen
       · show(L-2*x).toNat<(L-x).toNat
         omega |true=>
       refine dk (fun hc=>nomatch hc) (fun hc=>?_);refine⟨_,rfl,_,_,rfl,rfl,⟨by decide,lP (n:=2) (by decide) (by decide)⟩,?_⟩;refine dR (fun σ H3=>H3=H2/\∃(lo hi:Int)(v:Option V),σ=[some m,some sq,some (.int hi),some (.int lo),v]/\0<=lo/\lo<hi/\hi<=2*L/\jM ti q lo=false/\jM ti q hi=true) (fun σ _=>match σ with|[_,_,some (.int x),some (.int y),_]=>(x-y).toNat|_=>0) ?_ ?_ ?_
       ·exact⟨rfl,x/2,x,none,rfl,by omega,by omega,xL,hx,hen⟩
       · rintro σ H3 ⟨rfl,lo,hi,v,rfl,l0,lh,hL2,elo,ehi⟩
         refine⟨_,rfl,_,rfl,_,_,rfl,rfl,_,_,rfl,rfl,_,rfl,?_⟩;refine dk (fun hc=>?_) (fun hc=>?_)
         · have hgt:hi-lo>1:=of_decide_eq_true hc
           refine⟨_,rfl,_,rfl,_,_,rfl,rfl,_,_,rfl,rfl,⟨by decide,lP (n:=2) (by decide) (by decide)⟩,?_⟩;have mw:((lo+hi)/2).natAbs<2^2400:=by omega
           refine⟨_,rfl,_,rfl,_,rfl,m,sq,(lo+hi)/2,rs,r,f,j,ti,q,rfl,rm,rq,bq,t1,t2,by omega,mw,_,rfl,?_⟩;cases hm:jM ti q ((lo+hi)/2)with |true=>refine bK ?_;refine⟨_,rfl,⟨rfl,lo,_,_,rfl,l0,by omega,by omega,elo,hm⟩,?_⟩;show((lo+hi)/2-lo).toNat<(hi-lo).toNat;omega |false=>refine bw ?_;refine⟨_,rfl,⟨rfl,_,hi,_,rfl,by omega,by omega,hL2,hm,ehi⟩,?_⟩;show(hi-(lo+hi)/2).toNat<(hi-lo).toNat;omega
         · have hle:¬hi-lo>1:=fun z=>hc (decide_eq_true z)
           have e:lo=hi-1:=by omega
           subst e;exact⟨_,rfl,k hi (by omega) (by omega) ehi elo⟩
       · rintro σ H2 Q1 Q2 hq ⟨v1,e1,v2,e2,i,j,e3,e4,i2,j2,e5,e6,kk,e7,q⟩
         exact⟨v1,e1,v2,e2,i,j,e3,e4,i2,j2,e5,e6,kk,e7,hq _ _ q⟩
   · rintro σ H2 Q1 Q2 hq ⟨v1,e1,v2,e2,v3,e3,m',sq',x',rs',r',f',j',ti',q',e4,h1,h2,h3,h4,h5,h6,h7,b,eb,q⟩
     exact⟨v1,e1,v2,e2,v3,e3,m',sq',x',rs',r',f',j',ti',q',e4,h1,h2,h3,h4,h5,h6,h7,b,eb,hq _ _ q⟩
end
end Lw
namespace Lw
open PySem PySem.Spec PyProof.Rows L2 Rt Ln Cn Pn
open Ow (topR cornO mnO betR atO ownF leadF ownL OkI OkIs)
section
variable {P:Program}{w:World}{K:PySem.W.Frag}{mg:Str->Option Value}{base:Heap}
def Hg(ti:Int)(q:Rat)(T:Int):Prop:=1<=T/\jM ti q T=true/\jM ti q (T-1)=false
open Classical in
noncomputable def Jg(ti:Int)(q:Rat):Int:=if h:∃T,Hg ti q T then h.choose else 0
theorem sR{ti:Int}{q:Rat}{s t:Int}(hq:0<=q.num)(h0:0<=s)(h:s<=t)(e:jM ti q s=true):jM ti q t=true:=by refine decide_eq_true (Int.le_trans (of_decide_eq_true e) ?_);exact Int.mul_le_mul_of_nonneg_right (Int.mul_le_mul h h h0 (by omega)) hq
theorem yx{ti:Int}{q:Rat}{S T:Int}(hq:0<=q.num)(h1:Hg ti q S)(h2:Hg ti q T):S=T:=by
 obtain⟨a1,a2,a3⟩:=h1;obtain⟨b1,b2,b3⟩:=h2;by_cases h:S<=T-1
 · have:=sR hq (by omega) h a2
   rw[b3]at this;cases this
 · by_cases h':T<=S-1
   · have:=sR hq (by omega) h' b2
     rw[a3]at this;cases this
   ·omega
theorem yy{ti:Int}{q:Rat}{T:Int}(hq:0<=q.num)(h:Hg ti q T):Jg ti q=T:=by have hx:∃T,Hg ti q T:=⟨T,h⟩;unfold Jg;rw[dif_pos hx];exact yx hq hx.choose_spec h
theorem kH{q:Rat}(h:0<q):0<q.num:=by
 have h1:=Rat.num_nonneg.mpr (Rat.le_of_lt h);have h2:q.num≠0:=fun e=>by rw[Rat.num_eq_zero.mp e]at h;exact absurd h (by decide)
 omega
noncomputable def j0(ti:Int)(zs:List Int)(q:Rat):PyData:=.tuple [.str "step",.tuple (zs.map PyData.int),.int (Jg ti q),cN q]
theorem kI(ti:Int)(zs:List Int)(q:Rat):iP (j0 ti zs q)=true:=by simp[j0,iP,cD,cC,fP]
inductive yz(K:PySem.W.Frag)(vs:List V)(H:Hp)(Q:VK):Prop |mk (m:_)(rv:_)(sq:_)(rs:_)(r:_)(f:_)(j:_)(ti:_)(zs:_)(q:_)(h0:vs=[m,rv,sq])(h1:RD K H m (eZ rs r f j ti))(h2:zE rs r f j ti)(h3:RD K H rv (.tuple (zs.map PyData.int)))(h4:aY K H sq q)(h5:Bd 2000 q)(h6:0<q)(h7:∀v H',RD K H' v (j0 ti zs q)->aI H H'->Q v H'):yz K vs H Q
def yA(K:PySem.W.Frag):Sp:=fun vs H Q _=>yz K vs H Q
abbrev E5:Stmt:=top 58
theorem BW:aH ["machine","row","square"] ["machine","row","square"] (ao E5):=⟨rfl,rfl,rfl,by decide+kernel,rfl,by decide+kernel,by decide+kernel⟩
theorem E6(F:FA K mg "step_entry" E5)(B:dv mg)(hticks_of:aw P w K mg base "ticks_of" 2 (sP K)):aw P w K mg base "step_entry" 3 (yA K):=by
 refine F.has BW (fun vs H Q E h=>?_) (fun _ _ _ _ _ _ us hl=>match us,hl with|[_,_,_],_=>rfl) (fun f cdv A outer s H vs Q E hr h=>?_)
 · obtain⟨m,rv,sq,rs,r,f,j,ti,zs,q,rfl,_⟩:=h
   rfl
 · obtain⟨m,rv,sq,rs,r,f,j,ti,zs,q,rfl,rm,okm,rr,Rq,bq,q0,k⟩:=h
   have nd:=BW.nd;refine⟨_,(ai (aB (bF (aa aJ (aa (pv 1) (aa (aE hticks_of (hr.mono (by decide)) rfl (aa (pv 0) (aa (pv 2) af))) (aa (pv 2) af))))))),?_⟩;have t1:=okm.t1;have qn:0<q.num:=kH q0;refine⟨_,rfl,_,rfl,_,rfl,m,sq,rs,r,f,j,ti,q,rfl,rm,Rq,bq,t1.1,t1.2,qn,fun T T1 _ T2 T3=>?_⟩;refine⟨_,rfl,aQ _ (Nat.le_of_ble_eq_true rfl),fun t H1 n1=>k (.ref t) H1 ?_ n1.same⟩;have e:=yy (by omega) ⟨T1,T2,T3⟩;unfold j0;rw[e];exact e9 (bG.of n1.at') (aP (bQ _) (aP (RD.mono n1.same _ rr) (aP (bU _) (aP (Rq.go n1.same).rd ba))))
theorem sS{rate sp:Int}(h1:1<=sp)(h2:10<=rate):0<topR rate sp:=by
 have h0:=Ow.jR rate sp;refine Std.lt_of_le_of_ne h0 fun e=>?_;have hp:0<(sp*rate)^2:=by rw[Int.pow_succ,Int.pow_succ,Int.pow_zero,Int.one_mul];exact Int.mul_pos (Int.mul_pos (by omega) (by omega)) (Int.mul_pos (by omega) (by omega))
 have h2:0<=Rat.divInt (-((sp*rate)^2)) 10000:=by rw[<-Rat.neg_divInt];show 0<=-(topR rate sp);rw[<-e];decide
 have:=(Rat.divInt_nonneg_iff_of_pos_right (by decide)).mp h2;omega
end
end Lw
namespace Lw
open PySem PySem.Spec PyProof.Rows L2 Rt Ln Cn Pn
open Ow (topR cornO mnO betR atO ownF leadF ownL OkI OkIs)
section
variable {P:Program}{w:World}{K:PySem.W.Frag}{mg:Str->Option Value}{base:Heap}
end
end Lw
namespace Lw
open PySem PySem.Spec PyProof.Rows L2 Rt Ln Wk
section
variable {P:Program}{w:World}{K:PySem.W.Frag}{mg:Str->Option Value}{base:Heap}
end
end Lw
namespace Lw
open PySem PySem.Spec PyProof.Rows L2 Rt Ln Cn Pn
open Ow (topR cornO mnO betR atO ownF leadF ownL OkI OkIs)
section
variable {P:Program}{w:World}{K:PySem.W.Frag}{mg:Str->Option Value}{base:Heap}
inductive sT(K:PySem.W.Frag)(vs:List V)(H:Hp)(Q:VK):Prop |mk (m:_)(iv:_)(rate:_)(rs:_)(r:_)(f:_)(j:_)(t:_)(ds:_)(os:_)(h0:vs=[m,iv,.int rate])(h1:RD K H m (eZ rs r f j t))(h2:zE rs r f j t)(h3:RD K H iv (.list ds))(h4:dM rs.length ds os)(h5:ds.length<=100)(h6:10<=rate)(h7:rate<=200)(h8:∀l ys H',H l=none->H' l=some (.lst ys)->bj K H' ys ((ownL j rate os).map cN)->aI H H'->Q (.ref l) H'):sT K vs H Q
def yB(K:PySem.W.Frag):Sp:=fun vs H Q _=>sT K vs H Q
theorem AD(F:FA K mg "own_bounds" Aw)(B:dv mg)(gN:GT K mg "NOUGHT" [.int 0,.int 1])(hbound_between:aw P w K mg base "bound_between" 7 (sy K)):aw P w K mg base "own_bounds" 8 (yB K):=by
 obtain⟨aN,h_NOUGHT,sqN⟩:=gN;refine F.has sF (fun vs H Q E h=>?_) (fun _ _ _ _ _ _ us hl=>match us,hl with|[_,_,_],_=>rfl) (fun f cdv A outer s H vs Q E hr h=>?_)
 · obtain⟨m,iv,rate,rs,r,f,j,t,ds,os,rfl,_⟩:=h
   rfl
 · obtain⟨m,iv,rate,rs,r,f,j,t,ds,os,rfl,rm,okm,ri,row,hz,rt1,rt2,k⟩:=h
   have nd:=sF.nd;have rN:∀H',RD K H' (.ref aN) (cN 0):=fun H'=>(jw (sqN H')).rd;refine⟨_,(ag (aR (cf (my K rfl (pv 1))) (ai (aB (bE (aa (eg (x:="NOUGHT") rfl h_NOUGHT) af)))) aL) (ag (mm (i0:=3) nd rfl (Or.inl rfl) (N:=["one","other","machine","rate"]) (js:=[none,none,some 0,some 2]) rfl rfl rfl (dy K rfl true true rfl (B.at "zip") (aa (pv 1) (aa (kn (IW K rfl) (pv 1) (m8 ah) m7) af))) (fun _ _ _ _ _=>(gD K rfl (n:=2) rfl (aD (aA (i:=0) (show List.Nodup (["one","other","machine","rate"]:List Str) by decide+kernel) rfl (Or.inl rfl)) (aD (aA (i:=1) (show List.Nodup (["one","other","machine","rate"]:List Str) by decide+kernel) rfl (Or.inl rfl)) aZ)))) (fun _ _ _ _ _=>bM) (fun _ _ _ _ _=>(aE hbound_between (hr.mono (by decide)) rfl (aa (pv 2) (aa (pv 0) (aa (pv 1) (aa (pv 3) af))))))) (ai (aB (az (uc K rfl) (az (uc K rfl) (bE (aa (eg (x:="NOUGHT") rfl h_NOUGHT) af)) (pv 3)) (bE (aa (eg (x:="NOUGHT") rfl h_NOUGHT) af))))))),?_⟩;obtain⟨ia,xs,rfl,hi,hxs⟩:=ri.lst_inv;have lx:=hxs.length;have ll:=row.len;refine⟨_,rfl,_,.inl ⟨_,hi,rfl⟩,?_⟩;cases hd:xs with
   |nil=>
     subst hd;refine bK ?_;refine⟨aQ _ (Nat.le_of_ble_eq_true rfl),fun l H1 n1=>?_⟩;refine k l [.ref aN] H1 n1.no n1.at' ?_ n1.same;have e:os=[]:=by
      have:os.length=0:=by rw[<-ll,<-lx];rfl
      exact List.length_eq_zero_iff.mp this
     rw[e];exact aP (rN H1) ba |cons x0 xr=>
     refine bw ?_;have hne:os≠[]:=by intro e;rw[e]at ll;rw[hd]at lx;simp at ll lx;rw[ll]at lx;cases lx
     have hx0:0<xs.length:=by rw[hd];simp
     refine⟨_,rfl,_,rfl,1,rfl,ia,xs,rfl,.inl ⟨hi,fun tl H1 n1=>?_⟩⟩;refine⟨ia,tl,rfl,⟨_,hi.go n1.same⟩,⟨_,bc.of n1.at'⟩,fun D H2 n2=>?_⟩;have et:=n1.at';rw[kE]at et;have oki:∀(i:Nat)(o:Itm),os[i]? =some o->∀(ns:List Int)(sp:Int),o=some (ns,sp)->iD rs.length 100 ns/\1<=sp/\sp<=20:=fun i o e ns sp e'=>row.ok i ns sp (by rw[e,e']);have lr:=okm.len;refine fC (K:=K) (b1:=true) (b2:=true) (xs:=xs) (ys:=xs.drop 1) (ds:=((List.range (os.length-1)).map (fun i=>ownF j rate os (i+1))).map cN) _ rfl (hi.go n1.same) (bc.of et) n2 (by rw[List.length_drop];simp;omega) (by simp;omega) (gc _) ?_ ?_
     · intro i x y d H3 Q' ex ey ed s3 hq
       have s13:=n1.same.trans s3;rw[List.getElem?_drop]at ey;obtain⟨d1,e1,r1⟩:=hxs.get' i ex;obtain⟨d2,e2,r2⟩:=hxs.get' (1+i) ey;obtain⟨o1,eo1,i1⟩:=row.get e1;obtain⟨o2,eo2,i2⟩:=row.get e2;have hi2:1+i<os.length:=(List.getElem?_eq_some_iff.mp eo2).1;have ed':d=cN (betR j rate o1 o2):=by rw[List.getElem?_map,List.getElem?_map,List.getElem?_eq_getElem (by simp;omega),List.getElem_range]at ed;have:=(Option.some.inj ed).symm;rw[this];show cN (betR j rate (atO os i) (atO os (i+1)))=_;rw[Ow.gs eo1,Ow.gs (show os[i+1]? =some o2 by rw[Nat.add_comm];exact eo2)]
       subst ed';refine⟨_,rfl,_,rfl,_,rfl,_,rfl,m,x,y,rate,rs,r,f,j,t,d1,d2,o1,o2,rs.length,rfl,RD.mono s13 _ rm,okm.j1.1,okm.j1.2,RD.mono s13 _ r1,RD.mono s13 _ r2,i1,i2,oki _ _ eo1,oki _ _ eo2,by omega,rt1,rt2,fun v H4 rv s4=>?_⟩;exact hq _ _ s4 rv.rd
     · intro H3 zs s3 d3 r3
       have lz:=r3.length;simp at lz;refine⟨aQ _ (Nat.le_of_ble_eq_true rfl),fun l1 H4 n4=>?_⟩;refine⟨_,rfl,l1,D,_,zs,rfl,rfl,bc.of n4.at',bc.of (n4.same _ _ d3),aQ _ (by simp;omega),fun l2 H5 n5=>?_⟩;refine⟨aQ _ (Nat.le_of_ble_eq_true rfl),fun l3 H6 n6=>?_⟩;refine⟨l2,l3,_,_,rfl,rfl,bc.of (n6.same _ _ n5.at'),bc.of n6.at',aQ _ (by simp;omega),fun l H7 n7=>?_⟩;have s06:aI H H6:=n1.same.trans (s3.trans (n4.same.trans (n5.same.trans n6.same)));have nl:H l=none:=by cases e:H l with |none=>rfl |some o=>have:=s06 _ _ e;rw[n7.no]at this;cases this
       refine k l _ H7 nl n7.at' ?_ (s06.trans n7.same);rw[Ow.r8 j rate hne,List.map_append,List.map_append];exact((aP (rN H7) ba).append (bj.mono (n4.same.trans (n5.same.trans (n6.same.trans n7.same))) _ r3)).append (aP (rN H7) ba)
inductive oq(K:PySem.W.Frag)(vs:List V)(H:Hp)(Q:VK):Prop |mk (m:_)(iv:_)(l:_)(ys:_)(rs:_)(r:_)(f:_)(j:_)(t:_)(ds:_)(os:_)(g:_)(h0:vs=[m,iv,.ref l])(h1:RD K H m (eZ rs r f j t))(h2:zE rs r f j t)(h3:RD K H iv (.list ds))(h4:dM rs.length ds os)(h5:ds.length<=30)(h6:H l=some (.lst ys))(h7:bj K H ys ((lst os.length g).map cN))(h8:(∀i,i<=os.length->Bd 900 (g i)))(h9:∀l ys H',H l=none->H' l=some (.lst ys)->bj K H' ys ((lst os.length (fl os.length (leadF os) (2*f) g)).map cN)->aI H H'->Q (.ref l) H'):oq K vs H Q
def sW(K:PySem.W.Frag):Sp:=fun vs H Q _=>oq K vs H Q
theorem yC(F:FA K mg "kept_by_fall" yb)(B:dv mg)(his_line:aw P w K mg base "is_line" 1 (jt K))(hlead_of:aw P w K mg base "lead_of" 1 (fq K))(hplus_whole:aw P w K mg base "plus_whole" 4 (Ax K))(hleast:aw P w K mg base "least" 2 (cQ K)):aw P w K mg base "kept_by_fall" 5 (sW K):=by
 refine F.has yc (fun vs H Q E h=>?_) (fun _ _ _ _ _ _ us hl=>match us,hl with|[_,_,_],_=>rfl) (fun fa cdv A outer s H vs Q E hr h=>?_)
 · obtain⟨m,iv,l,ys,rs,r,f,j,t,ds,os,g,rfl,_⟩:=h
   rfl
 · obtain⟨m,iv,l,ys,rs,r,f,j,t,ds,os,g,rfl,rm,okm,ri,row,hz,dl,rds,bg,k⟩:=h
   have nd:=yc.nd;refine⟨_,(ag (aF (i:=3) nd rfl (Or.inl rfl) (aM (cw K rfl) (pv 0) ah (fun _ _=>rfl))) (ag (aF (i:=4) nd rfl (Or.inl rfl) (bI (x:="list") (vT K rfl) rfl (B.at "list") PyProof.Rows.boot_list (aa (pv 2) af))) (ag (fc PassesOwn.never rfl (DF rfl (B.at "reversed") (aa (bI (x:="range") nR rfl (B.at "range") PyProof.Rows.boot_range (aa (ak (x:="len") (dw K rfl) rfl (B.at "len") PySem.boot_len (aa (pv 1) af)) af)) af)) (aA (i:=5) nd rfl (Or.inl rfl)) (ai (aR (bh (aE his_line (hr.mono (by decide)) rfl (aa (aM (cw K rfl) (pv 1) (pv 5) (fun _ _=>rfl)) af))) (ai (cx (aE hleast (hr.mono (by decide)) rfl (aa (bE (aa (aM (cw K rfl) (pv 4) (pv 5) (fun _ _=>rfl)) (aa (aE hplus_whole (hr.mono (by decide)) rfl (aa (aM (cw K rfl) (pv 4) (az bo (pv 5) ah) (fun _ _=>rfl)) (aa (az aG (az aG ah (pv 3)) (aE hlead_of (hr.mono (by decide)) rfl (aa (aM (cw K rfl) (pv 1) (pv 5) (fun _ _=>rfl)) af))) af))) af))) af)) (iA (pv 4) (pv 5) set_list))) aL))) (ai (aB (pv 4)))))),?_⟩;obtain⟨ma,mb,rfl,hma,hmb⟩:=cI rm;obtain⟨ia,xs,rfl,hi,hxs⟩:=ri.lst_inv;have lx:=hxs.length;have ll:=row.len;have lr:=okm.len;have hL:∀i m,leadF os i=some m->(2*f*(m:Int)).natAbs<2^24:=fun i m e=>oh okm.f1.1 okm.f1.2 (og row.FD e);have FB:∀i,i<=os.length->Bd 1700 (fl os.length (leadF os) (2*f) g i):=fun i hi=>(BA bg hL i hi).mono (by omega);refine⟨_,rfl,.inr ⟨ma,_,2,.int f,rfl,rfl,hma,rfl,?_⟩⟩;refine⟨_,rfl,l,ys,rfl,.inl (bc.of dl),fun D H1 n1=>?_⟩;refine⟨_,rfl,ia,_,rfl,.inl (hi.go n1.same),_,rfl,fun pr H2 n2=>?_⟩;refine⟨pr,_,rfl,n2.at',by omega,by omega,?_⟩;have eN:((xs.length:Int)).toNat=os.length:=by omega
   rw[eN];refine A7 (Pv:=fun i σ H5=>aI H H5/\∃zs v1,H5 D=some (.lst zs)/\bj K H5 zs ((lst os.length fun k=>if os.length<=k+i then fl os.length (leadF os) (2*f) g k else g k).map cN)/\σ=[some (.ref ma),some (.ref ia),some (.ref l),some (.int f),some (.ref D),v1]) ?_ ?_ ?_
   · refine⟨n1.same.trans n2.same,ys,none,n2.same _ _ n1.at',?_,rfl⟩
     rw[jn (g:=fun k=>if os.length<=k+0 then fl os.length (leadF os) (2*f) g k else g k) (g':=g)]
     ·exact bj.mono (n1.same.trans n2.same) _ rds
     · intro k hk
       show g k=if os.length<=k+0 then _ else g k;split
       · next h => have:k=os.length:=by omega
                   subst this;exact ur.symm
       ·rfl
   · rintro i σ H3 hin ⟨s3,zs,v1,dz,rz,rfl⟩
     obtain⟨x,hx⟩:∃x,xs[os.length-1-i]? =some x:=⟨_,List.getElem?_eq_getElem (show os.length-1-i<xs.length by omega)⟩;generalize hc:os.length-1-i=c at hx;have hcl:c<os.length:=by omega
     have eI:((os.length:Int)-1-(i:Int))=(c:Int):=by omega
     rw[eI];obtain⟨d,ed,rd⟩:=hxs.get' c hx;obtain⟨o,eo,it⟩:=row.get ed;have lz:=rz.length;rw[List.length_map,fL]at lz;have atx:jJ xs (c:Int)=some x:=bB (by omega) (by simpa using hx);refine⟨_,rfl,_,rfl,.inl ⟨ia,_,_,_,rfl,rfl,hi.go s3,atx,?_⟩⟩;refine⟨x,d,o,rfl,RD.mono s3 _ rd,it,_,rfl,?_⟩;cases o with
     |none=>
       refine bw ?_;refine⟨s3,zs,_,dz,?_,rfl⟩;rw[jn (g:=fun k=>if os.length<=k+(i+1)then fl os.length (leadF os) (2*f) g k else g k) (g':=fun k=>if os.length<=k+i then fl os.length (leadF os) (2*f) g k else g k)]
       ·exact rz
       · intro k _
         show(if os.length<=k+i then _ else g k)=if os.length<=k+(i+1)then _ else g k;by_cases h1:os.length<=k+i
         ·rw[if_pos h1,if_pos (by omega)]
         · rw[if_neg h1]
           by_cases h2:k=c
           ·subst h2;rw[if_pos (by omega),lK hcl (kF eo)]
           ·rw[if_neg (by omega)] |some q=>
       obtain⟨ns,sp⟩:=q;refine bK ?_;have ed':=dG it;subst ed';obtain⟨okn,_,_⟩:=row.ok c ns sp eo;obtain⟨z1,ez1⟩:∃z,zs[c+1]? =some z:=⟨_,List.getElem?_eq_getElem (show c+1<zs.length by omega)⟩;obtain⟨z0,ez0⟩:∃z,zs[c]? =some z:=⟨_,List.getElem?_eq_getElem (show c<zs.length by omega)⟩;have R1:aY K H3 z1 (fl os.length (leadF os) (2*f) g (c+1)):=by
        obtain⟨d1,e1,r1⟩:=rz.get' (c+1) ez1;rw[List.getElem?_map,fM _ (show c+1<=os.length by omega)]at e1;cases e1;have:os.length<=c+1+i:=by omega
        simp only[if_pos this]at r1;exact iy r1
       have R0:aY K H3 z0 (g c):=by
        obtain⟨d1,e1,r1⟩:=rz.get' c ez0;rw[List.getElem?_map,fM _ (show c<=os.length by omega)]at e1;cases e1;have:¬os.length<=c+i:=by omega
        simp only[if_neg this]at r1;exact iy r1
       have eT1:((c:Int)+1).toNat=c+1:=by omega
       have at1:jJ zs ((c:Int)+1)=some z1:=bB (by omega) (by rw[eT1];exact ez1);have at0:jJ zs (c:Int)=some z0:=bB (by omega) (by simpa using ez0);refine⟨_,rfl,_,rfl,.inl ⟨D,_,_,_,rfl,rfl,bc.of dz,at0,?_⟩⟩;refine⟨_,rfl,_,rfl,_,_,rfl,rfl,.inl ⟨D,_,_,_,rfl,rfl,bc.of dz,at1,?_⟩⟩;refine⟨_,rfl,_,_,rfl,rfl,.of_left (intBits_le_64 (by decide) (by decide)),?_⟩;refine⟨_,rfl,_,rfl,.inl ⟨ia,_,_,_,rfl,rfl,hi.go s3,atx,?_⟩⟩;refine⟨x,ns,sp,rfl,RD.mono s3 _ rd,okn.ne,by rw[okn.len];omega,fun H4 s4=>?_⟩;have f50:=okm.f1;refine⟨_,_,rfl,rfl,.of_left (intBits_le_64 (by omega) (by omega)),?_⟩;have us:=hL c _ (gx eo);refine⟨z1,_,_,rfl,R1.go s4,(FB (c+1) (by omega)).mono (by decide),us,fun u H5 ru s5=>?_⟩;refine⟨aQ _ (Nat.le_of_ble_eq_true rfl),fun l2 H6 n6=>?_⟩;have s36:=s4.trans (s5.trans n6.same);have Rz0:=R0.go s36;have Ru:=ru.go n6.same;have B1:Bd 2000 (g c):=(bg _ (by omega)).mono (by decide);have B2:Bd 2000 (fl os.length (leadF os) (2*f) g (c+1)+((2*f*(ay ns:Int):Int):Rat)):=(mz (FB (c+1) (by omega)) us).mono (by decide);refine⟨l2,[z0,u],[_,_],rfl,bc.of n6.at',⟨Rz0,B1,Ru,B2,trivial⟩,by simp,fun c' v q e1 e2 hq=>?_⟩;have hqe:mn (g c) (fl os.length (leadF os) (2*f) g (c+1)+((2*f*(ay ns:Int):Int):Rat))=q:=by
        refine dX ?_ (hq _ (by simp)) (hq _ (by simp))
        match c',e2 with |0,e2=>cases e2;exact .inl rfl |1,e2=>cases e2;exact .inr rfl
       have Rv:aY K H6 v q:=by match c',e1,e2 with |0,e1,e2=>cases e1;cases e2;exact Rz0 |1,e1,e2=>cases e1;cases e2;exact Ru
       have dz6:=s36 _ _ dz;have ix0:oT zs.length (c:Int)=some c:=by unfold oT;rw[if_pos (by omega),if_pos (by omega)];simp
       refine⟨_,rfl,_,rfl,D,zs,_,_,rfl,rfl,dz6,ix0,?_⟩;refine⟨fun b o e=>?_,_,_,au,?_,rfl⟩
       ·rw[aj (aX e n1.no)];exact s36 b o (s3 b o e)
       · have h:=bj.E1 (i:=c) dz6 (bj.mono s36 _ rz) Rv.rd (gc _) (fP _)
         rw[<-List.map_set]at h;have e:(lst os.length fun k=>if os.length<=k+i then fl os.length (leadF os) (2*f) g k else g k).set c q=lst os.length fun k=>if os.length<=k+(i+1)then fl os.length (leadF os) (2*f) g k else g k:=by
          rw[<-A9 (g:=fun k=>if os.length<=k+i then fl os.length (leadF os) (2*f) g k else g k) (g':=fun k=>if os.length<=k+(i+1)then fl os.length (leadF os) (2*f) g k else g k) (i:=c)]
          · have:os.length<=c+(i+1):=by omega
            simp only[if_pos this];rw[gT hcl (gx eo),hqe]
          · intro k _ hk
            show(if os.length<=k+(i+1)then _ else g k)=if os.length<=k+i then _ else g k;by_cases h1:os.length<=k+i
            ·rw[if_pos h1,if_pos (by omega)]
            ·rw[if_neg h1,if_neg (by omega)]
         rw[e]at h;exact h
   · rintro σ H3 ⟨s3,zs,v1,dz,rz,rfl⟩
     rw[jn (g:=fun k=>if os.length<=k+os.length then fl os.length (leadF os) (2*f) g k else g k) (g':=fl os.length (leadF os) (2*f) g) (fun k hk=>by show _=if os.length<=k+os.length then _ else _;rw[if_pos (by omega)])]at rz;exact⟨_,rfl,k D zs H3 n1.no dz rz s3⟩
def yD(f j rate:Int)(os:List Itm):Rat:=fl os.length (leadF os) (2*f) (ownF j rate os) 1
inductive ou(K:PySem.W.Frag)(vs:List V)(H:Hp)(Q:VK):Prop |mk (m:_)(iv:_)(rate:_)(rs:_)(r:_)(f:_)(j:_)(t:_)(ds:_)(os:_)(h0:vs=[m,iv,.int rate])(h1:RD K H m (eZ rs r f j t))(h2:zE rs r f j t)(h3:RD K H iv (.list ds))(h4:dM rs.length ds os)(h5:ds.length<=30)(h6:1<=ds.length)(h7:10<=rate)(h8:rate<=200)(h9:∀v H',aY K H' v (yD f j rate os)->aI H H'->Q v H'):ou K vs H Q
def mI(K:PySem.W.Frag):Sp:=fun vs H Q _=>ou K vs H Q
abbrev E7:Stmt:=top 63
theorem BX:aH ["machine","items","rate"] ["machine","items","rate"] (ao E7):=⟨rfl,rfl,rfl,by decide+kernel,rfl,by decide+kernel,by decide+kernel⟩
theorem E8(F:FA K mg "reach_behind_first" E7)(B:dv mg)(hown_bounds:aw P w K mg base "own_bounds" 8 (yB K))(hkept_by_fall:aw P w K mg base "kept_by_fall" 5 (sW K)):aw P w K mg base "reach_behind_first" 9 (mI K):=by
 refine F.has BX (fun vs H Q E h=>?_) (fun _ _ _ _ _ _ us hl=>match us,hl with|[_,_,_],_=>rfl) (fun fa cdv A outer s H vs Q E hr h=>?_)
 · obtain⟨m,iv,rate,rs,r,f,j,t,ds,os,rfl,_⟩:=h
   rfl
 · obtain⟨m,iv,rate,rs,r,f,j,t,ds,os,rfl,rm,okm,ri,row,hz,h1,rt1,rt2,k⟩:=h
   have nd:=BX.nd;refine⟨_,(ai (aB (aM (cw K rfl) (aE hkept_by_fall (hr.mono (by decide)) rfl (aa (pv 0) (aa (pv 1) (aa (aE hown_bounds (hr.mono (by decide)) rfl (aa (pv 0) (aa (pv 1) (aa (pv 2) af)))) af)))) ah (fun _ _=>rfl)))),?_⟩;have ll:=row.len;have hB:=Ow.mC okm.j1.1 okm.j1.2 rt1 rt2 row.FD;refine⟨_,rfl,_,rfl,_,rfl,_,rfl,_,rfl,m,iv,rate,rs,r,f,j,t,ds,os,rfl,rm,okm,ri,row,by omega,rt1,rt2,fun l1 y1 H1 nl1 d1 r1 s1=>?_⟩;refine⟨m,iv,l1,y1,rs,r,f,j,t,ds,os,ownF j rate os,rfl,RD.mono s1 _ rm,okm,RD.mono s1 _ ri,row,hz,d1,r1,fun i _=>(hB i).mono (by decide),fun l2 y2 H2 nl2 d2 r2 s2=>?_⟩;have ly:=r2.length;rw[List.length_map,fL]at ly;obtain⟨z,ez⟩:∃z,y2[1]? =some z:=⟨_,List.getElem?_eq_getElem (show 1<y2.length by omega)⟩;refine .inl ⟨l2,_,1,z,rfl,rfl,bc.of d2,bB (by decide) ez,?_⟩;obtain⟨d,ed,rd⟩:=r2.get' 1 ez;rw[List.getElem?_map,fM _ (show 1<=os.length by omega)]at ed;cases ed;exact k z H2 (iy rd) (s1.trans s2)
end
end Lw
namespace Lw
open PySem PySem.Spec PyProof.Rows L2 Ln Wk
open Ow (Itm)
section
variable {P:Program}{w:World}{K:PySem.W.Frag}{mg:Str->Option Value}{base:Heap}
theorem uD{H:Hp}{v:V}{rs:List Int}{es:List PyData}(h:RD K H v (.tuple (.tuple (rs.map PyData.int)::es))):∃a b ys,v= .ref a/\bG K H a (.ref b::ys)/\bG K H b (rs.map V.int):=by obtain⟨a,xs,rfl,h1,h2⟩:=h.bu;obtain⟨x1,r1,rfl,e1,h2⟩:=h2.cons_inv;obtain⟨b,ys,rfl,h3,h4⟩:=e1.bu;rw[h4.ck]at h3;exact⟨a,b,r1,rfl,h1,h3⟩
def lT(z:Str):PyData->Bool | .str x=>x==z |_=>false
theorem sX(z:Str)(d:PyData):PyData.eqv d (.str z)=lT z d:=by cases d<;>simp[PyData.eqv,lT]
theorem yE(z:Str)(d:PyData):PyData.eqv (.str z) d=lT z d:=by cases d<;>simp[PyData.eqv,lT];rw[Bool.eq_iff_iff];simp;exact eq_comm
theorem uE(d:PyData):(∃z,d= .str z)\/(gB (zC d) "str"=false/\∀z,d≠ .str z):=by cases d with |str z=>exact .inl ⟨z,rfl⟩ |_=>exact .inr ⟨by simp[zC];decide,fun _ z=>nomatch z⟩
theorem JP:gB "str" "str"=true:=by decide
def qk(d:PyData):Bool:=lT "up" d||lT "down" d
def FE(c:Nat):Bool:=decide (97<=c)&&decide (c<=122)
def isNm:PyData->Bool | .str x=>(decide (1<=x.length)&&decide (x.length<=8))&&x.cps.toList.all FE |_=>false
def fy(wd v:PyData):Bool:=if lT "wait" wd then kD 1 1000 v else if lT "tool" wd then qk v else lT "mark" wd&&isNm v
def Hh:PyData->Bool | .int i=>i !=0 |_=>true
def qm(n:Nat):PyData->Bool | .tuple ds=>(ds.length==n&&ds.all (kD (-100) 100))&&ds.any Hh |_=>false
def kJ(n:Nat):PyData->Bool | .tuple [wd,a,b]=>lT "line" wd&&(qm n a&&kD 1 20 b) | .tuple [wd,v]=>fy wd v |_=>false
def BZ:PyData->Bool | .str x=>decide (x.length<=900) |_=>true
def Jh:PyData->Bool | .tuple ds=>ds.all BZ |_=>true
inductive C0(f:PyData->Bool)(K:PySem.W.Frag)(vs:List V)(H:Hp)(Q:VK):Prop |mk (v:_)(d:_)(h0:vs=[v])(h1:RD K H v d)(h2:BZ d=true)(h3:∀H',aI H H'->Q (.bl (f d)) H'):C0 f K vs H Q
def Hi(f:PyData->Bool)(K:PySem.W.Frag):Sp:=fun vs H Q _=>C0 f K vs H Q
theorem E9{z:Str}(h:BZ (.str z)=true):z.length<=900:=of_decide_eq_true h
theorem yF(n:Nat):decide ((1:Int)<=(n:Int))=decide (1<=n):=by rw[Bool.eq_iff_iff];simp;omega
theorem AE(n:Nat):decide ((n:Int)<=8)=decide (n<=8):=by rw[Bool.eq_iff_iff];simp;omega
theorem AF{l:List Nat}{f:Nat->Bool}:(l.map f).all id=l.all f:=by rw[List.all_map];rfl
theorem Ea:∀c<128,decide (c∈FC.cps.toList)=FE c:=by decide+kernel
theorem Eb:∀c∈FC.cps.toList,c<128:=by decide+kernel
theorem Ec(c:Nat):decide (c∈FC.cps.toList)=FE c:=by
 by_cases h:c<128
 ·exact Ea c h
 ·rw[decide_eq_false (fun hc=>h (Eb c hc)),FE,decide_eq_false (show¬c<=122 by omega),Bool.and_false]
abbrev Ji:Stmt:=top 50
theorem Hj:aH ["thing"] ["thing"] (ao Ji):=⟨rfl,rfl,rfl,by decide+kernel,rfl,by decide+kernel,by decide+kernel⟩
theorem Hk(F:FA K mg "is_name" Ji)(B:dv mg)(h_LONGEST_NAME:GV mg "LONGEST_NAME" (.int 8))(h_LETTERS:GV mg "LETTERS" (.str FC)):aw P w K mg base "is_name" 1 (Hi isNm K):=by
 refine F.has Hj (fun vs H Q E h=>?_) (fun _ _ _ _ _ _ us hl=>match us,hl with|[_],_=>rfl) (fun f cdv A outer s H vs Q E hr h=>?_)
 · obtain⟨v,d,rfl,_⟩:=h
   rfl
 · obtain⟨v,d,rfl,rd,sh,k⟩:=h
   have nd:=Hj.nd;refine⟨_,(ag (aR (PW.pt (gz (cf (bh (ak (x:="isinstance") (dc K rfl) rfl (B.at "isinstance") PyProof.Rows.boot_isinstance (aa (pv 0) (aa (aV (x:="str") (v:=.ty "str") rfl (B.at "str") PyProof.Rows.boot_str rfl) af))))) (fo (cf (vj jz jz ah (ak (x:="len") me rfl (B.at "len") PySem.boot_len (aa (pv 0) af)) (eg (x:="LONGEST_NAME") rfl h_LONGEST_NAME)))))) (ai (aB fj)) aL) (ai (aB (ak (x:="all") (mi K rfl rfl) rfl (B.at "all") PyProof.Rows.boot_all (aa (bT (N:=["letter"]) (js:=[none]) rfl rfl rfl (DH (pv 0)) (fun _ _ _ _ _=>(aA (i:=0) (show List.Nodup (["letter"]:List Str) by decide+kernel) rfl (Or.inl rfl))) (fun _ _ _ _ _=>bM) (fun _ _ _ _ _=>(bJ DI (pv 0) (eg (x:="LETTERS") rfl h_LETTERS) (by with_unfolding_all rfl)))) af))))),?_⟩;rcases uE d with⟨z,rfl⟩|⟨ht,hn⟩
   · refine⟨_,rfl,.inl ⟨_,_,"str",true,rfl,rd.ty,by decide,JP,_,rfl,bw ?_⟩⟩
     cases rd.str_inv;have hl:=E9 sh;have k:∀H',aI H H'->Q (.bl ((decide (1<=z.length)&&decide (z.length<=8))&&z.cps.toList.all FE)) H':=k;refine⟨_,rfl,z,rfl,Nat.le_trans hl (by decide),_,_,rfl,rfl,_,rfl,?_⟩;refine dk (fun h1=>?_) (fun h1=>?_)
     · rw[<-yF,show decide ((1:Int)<=(z.length:Int))=true from h1,Bool.true_and]at k
       refine⟨_,_,rfl,rfl,_,rfl,?_⟩;rw[AE];cases e8:decide (z.length<=8)with |false=>rw[e8,Bool.false_and]at k;exact bK (k H (aI.refl _)) |true=>
         rw[e8,Bool.true_and]at k;refine bw ⟨_,rfl,z,rfl,fun D H0 nw=>?_⟩;refine wN (f:=FE) [] nw (by omega) (fun c H2 Q' hc s2 hq=>?_) (fun H2 s2 d2=>?_)
         · refine⟨_,rfl,c,FC,rfl,rfl,?_⟩
           rw[Ec];exact hq _ (aI.refl _)
         · refine⟨D,_,rfl,bc.of d2,?_⟩
           rw[AF];exact k H2 s2
     · rw[<-yF,show decide ((1:Int)<=(z.length:Int))=false from Bool.eq_false_iff.mpr h1,Bool.false_and,Bool.false_and]at k
       exact⟨_,rfl,bK (k H (aI.refl _))⟩
   · have e:isNm d=false:=by cases d<;>first|rfl|exact absurd rfl (hn _)
     rw[e]at k;refine⟨_,rfl,.inl ⟨_,_,"str",false,rfl,rd.ty,by decide,ht,_,rfl,bK ?_⟩⟩;exact k H (aI.refl _)
inductive yG(K:PySem.W.Frag)(vs:List V)(H:Hp)(Q:VK):Prop |mk (x:_)(v:_)(wd:_)(d:_)(h0:vs=[x,v])(h1:RD K H x wd)(h2:RD K H v d)(h3:hW 8 wd)(h4:hW 8 d)(h5:BZ d=true)(h6:∀H',aI H H'->Q (.bl (fy wd d)) H'):yG K vs H Q
def C1(K:PySem.W.Frag):Sp:=fun vs H Q _=>yG K vs H Q
theorem Hl{d:PyData}(h:hW 8 d):SeqAt.shaped d=true:=h.shaped (by decide)
abbrev Jj:Stmt:=top 49
theorem Hm:aH ["word","value"] ["word","value"] (ao Jj):=⟨rfl,rfl,rfl,by decide+kernel,rfl,by decide+kernel,by decide+kernel⟩
theorem Hn(F:FA K mg "is_short_item" Jj)(B:dv mg)(h_LONGEST_WAIT:GV mg "LONGEST_WAIT" (.int 1000))(gS:GT K mg "SIDES" [.str "up",.str "down"])(his_whole_within:aw P w K mg base "is_whole_within" 2 (pU K))(his_name:aw P w K mg base "is_name" 1 (Hi isNm K)):aw P w K mg base "is_short_item" 3 (C1 K):=by
 refine F.has Hm (fun vs H Q E h=>?_) (fun _ _ _ _ _ _ us hl=>match us,hl with|[_,_],_=>rfl) (fun f cdv A outer s H vs Q E hr h=>?_)
 · obtain⟨x,v,wd,d,rfl,_⟩:=h
   rfl
 · obtain⟨x,v,wd,d,rfl,rw1,rd,okw,okd,sh,k⟩:=h
   have nd:=Hm.nd;obtain⟨aS,h_SIDES,sqS⟩:=gS;refine⟨_,(ag (aR (aO (fT K rfl hr.units) (pv 0) aJ (aK _)) (ai (aB (aE his_whole_within (hr.mono (by decide)) rfl (aa (pv 1) (aa ah (aa (eg (x:="LONGEST_WAIT") rfl h_LONGEST_WAIT) af)))))) aL) (ag (aR (aO (fT K rfl hr.units) (pv 0) aJ (aK _)) (ai (aB (bJ (J4 K rfl (hr.Dw)) (pv 1) (eg (x:="SIDES") rfl h_SIDES) (by with_unfolding_all rfl)))) aL) (ai (aB (cR (bJ (fT K rfl hr.units) (pv 0) aJ (aK _)) (cU (aE his_name (hr.mono (by decide)) rfl (aa (pv 1) af)))))))),?_⟩;have k:∀H',aI H H'->Q (.bl (if lT "wait" wd then kD 1 1000 d else if lT "tool" wd then qk d else lT "mark" wd&&isNm d)) H':=k;refine⟨_,rfl,.inr ⟨_,_,rw1,bQ _,Hl okw,by decide+kernel,_,rfl,?_⟩⟩;rw[sX];cases e1:lT "wait" wd with |true=>rw[e1,if_pos rfl]at k;exact bK ⟨_,rfl,_,d,1,1000,rfl,rd,k H (aI.refl _)⟩ |false=>rw[e1,if_neg Bool.false_ne_true]at k;refine bw ⟨_,rfl,.inr ⟨_,_,rw1,bQ _,Hl okw,by decide+kernel,_,rfl,?_⟩⟩;rw[sX];cases e2:lT "tool" wd with
     |true=>
       rw[e2,if_pos rfl]at k;refine bK ⟨_,rfl,aS,_,d,[.str "up",.str "down"],rfl,sqS H,rd,aP (bQ _) (aP (bQ _) ba),Hl okd,?_,?_⟩
       · intro e he
         rcases List.mem_cons.mp he with rfl|he
         ·decide+kernel
         rcases List.mem_cons.mp he with rfl|he
         ·decide+kernel
         ·exact(List.not_mem_nil he).elim
       · have e:([.str "up",.str "down"]:List PyData).any (fun e=>PyData.eqv e d)=qk d:=by rw[List.any_cons,List.any_cons,List.any_nil,yE,yE,Bool.or_false];rfl
         rw[e];exact k H (aI.refl _) |false=>rw[e2,if_neg Bool.false_ne_true]at k;refine bw ⟨_,rfl,.inr ⟨_,_,rw1,bQ _,Hl okw,by decide+kernel,_,rfl,?_⟩⟩;rw[sX];cases e3:lT "mark" wd with |true=>rw[e3,Bool.true_and]at k;exact bK ⟨_,rfl,_,d,rfl,rd,sh,k⟩ |false=>rw[e3,Bool.false_and]at k;exact bw (k H (aI.refl _))
theorem Ho(i:Int):(!decide (i=0))=(i !=0):=by rw[Bool.eq_iff_iff];simp
theorem AG{lo hi:Int}{d:PyData}(h:kD lo hi d=true):∃i,d= .int i:=by cases d<;>simp[kD]at h;exact⟨_,rfl⟩
theorem any_map'{ds:List PyData}{f:PyData->Bool}:(ds.map f).any id=ds.any f:=by rw[List.any_map];rfl
inductive C2(K:PySem.W.Frag)(vs:List V)(H:Hp)(Q:VK):Prop |mk (m:V)(v:V)(rs:List Int)(es:List PyData)(d:PyData)(h0:vs=[m,v])(h1:RD K H m ((.tuple (.tuple (rs.map PyData.int)::es))))(h2:RD K H v d)(h3:rs.length<=3)(h4:∀H',aI H H'->Q (.bl (qm rs.length d)) H'):C2 K vs H Q
def Hq(K:PySem.W.Frag):Sp:=fun vs H Q _=>C2 K vs H Q
abbrev Jk:Stmt:=top 48
theorem Hr:aH ["machine","thing","rails"] ["machine","thing"] (ao Jk):=⟨rfl,rfl,rfl,by decide+kernel,rfl,by decide+kernel,by decide+kernel⟩
theorem Hs(F:FA K mg "are_steps" Jk)(B:dv mg)(h_MOST_STEPS:GV mg "MOST_STEPS" (.int 100))(his_whole_within:aw P w K mg base "is_whole_within" 2 (pU K)):aw P w K mg base "are_steps" 3 (Hq K):=by
 refine F.has Hr (fun vs H Q E h=>?_) (fun _ _ _ _ _ _ us hl=>match us,hl with|[_,_],_=>rfl) (fun f cdv A outer s H vs Q E hr h=>?_)
 · obtain⟨m,v,rs,es,d,rfl,_⟩:=h
   rfl
 · obtain⟨m,v,rs,es,d,rfl,rm,rd,l3,k⟩:=h
   have nd:=Hr.nd;refine⟨_,(ag (aF (i:=2) nd rfl (Or.inl rfl) (aM (cw K rfl) (pv 0) ah (fun _ _=>rfl))) (ag (aR (PW.pt (gz (cf (bh (ak (x:="isinstance") (dc K rfl) rfl (B.at "isinstance") PyProof.Rows.boot_isinstance (aa (pv 1) (aa (aV (x:="tuple") (v:=.ty "tuple") rfl (B.at "tuple") PyProof.Rows.boot_tuple rfl) af))))) (fo (aO (qO K rfl hr.units) (ak (x:="len") (dw K rfl) rfl (B.at "len") PySem.boot_len (aa (pv 1) af)) (ak (x:="len") (dw K rfl) rfl (B.at "len") PySem.boot_len (aa (pv 2) af)) (aK _))))) (ai (aB fj)) aL) (ag (aR (cf (bh (ak (x:="all") (mi K rfl rfl) rfl (B.at "all") PyProof.Rows.boot_all (aa (bT (N:=["step"]) (js:=[none]) rfl rfl rfl (Bs K rfl (pv 1)) (fun _ _ _ _ _=>(aA (i:=0) (show List.Nodup (["step"]:List Str) by decide+kernel) rfl (Or.inl rfl))) (fun _ _ _ _ _=>bM) (fun _ _ _ _ _=>(aE his_whole_within (hr.mono (by decide)) rfl (aa (pv 0) (aa (nv jZ (eg (x:="MOST_STEPS") rfl h_MOST_STEPS)) (aa (eg (x:="MOST_STEPS") rfl h_MOST_STEPS) af)))))) af)))) (ai (aB fj)) aL) (ai (aB (ak (x:="any") (Gb K rfl rfl) rfl (B.at "any") PyProof.Rows.boot_any (aa (bT (N:=["step"]) (js:=[none]) rfl rfl rfl (Bs K rfl (pv 1)) (fun _ _ _ _ _=>(aA (i:=0) (show List.Nodup (["step"]:List Str) by decide+kernel) rfl (Or.inl rfl))) (fun _ _ _ _ _=>bM) (fun _ _ _ _ _=>(bJ (qO K rfl hr.units) (pv 0) ah (aK _)))) af))))))),?_⟩;obtain⟨am,ar,ym,rfl,hm,har⟩:=uD rm;refine⟨_,rfl,.inr ⟨am,_,0,_,rfl,rfl,hm,bB (Int.le_refl 0) rfl,?_⟩⟩;rcases jv d with⟨ds,rfl⟩|⟨ht,hn⟩
   · refine⟨_,rfl,.inl ⟨_,_,"tuple",true,rfl,rd.ty,by decide,GS,_,rfl,bw ?_⟩⟩
     obtain⟨av,xs,rfl,hx,hd⟩:=rd.bu;have hl:=hd.length;refine⟨_,rfl,av,_,rfl,.inr hx,_,rfl,ar,_,rfl,.inr har,.inl ⟨_,_,rfl,rfl,_,rfl,?_⟩⟩;have k:∀H',aI H H'->Q (.bl ((ds.length==rs.length&&ds.all (kD (-100) 100))&&ds.any Hh)) H':=k;have e0:(!decide ((xs.length:Int)=((rs.map V.int).length:Int)))= !(ds.length==rs.length):=by rw[hl,List.length_map];congr 1;rw[Bool.eq_iff_iff];simp;omega
     rw[e0];cases e:(ds.length==rs.length)with |false=>rw[e,Bool.false_and,Bool.false_and]at k;exact bK (k H (aI.refl _)) |true=>
       rw[e,Bool.true_and]at k;refine bw ?_;have el:ds.length=rs.length:=beq_iff_eq.mp e;refine⟨_,rfl,av,rfl,⟨_,hx⟩,fun D H0 nw=>?_⟩;refine nM (xs:=xs) (bs:=ds.map (kD (-100) 100)) [] hx nw (by rw[List.length_map,hl]) (by omega) ?_ ?_
       · intro i x b H2 Q' ex eb s2 hq
         obtain⟨d,ed,rfl⟩:=qR eb;obtain⟨x',ex',rx⟩:=hd.get i ed;rw[ex]at ex';cases ex';exact⟨_,rfl,_,rfl,_,d,-100,100,rfl,RD.mono s2 _ rx,hq _ (aI.refl _)⟩
       · intro H2 s2 d2
         refine⟨D,_,rfl,bc.of d2,_,rfl,?_⟩;rw[all_map];cases e1:ds.all (kD (-100) 100)with |false=>rw[e1,Bool.false_and]at k;exact bK (k H2 s2) |true=>
           rw[e1,Bool.true_and]at k;refine bw ⟨_,rfl,av,rfl,⟨_,hx.go s2⟩,fun D2 H3 n3=>?_⟩;refine nM (xs:=xs) (bs:=ds.map Hh) [] (hx.go s2) n3 (by rw[List.length_map,hl]) (by omega) ?_ ?_
           · intro i x b H4 Q' ex eb s4 hq
             obtain⟨d,ed,rfl⟩:=qR eb;obtain⟨x',ex',rx⟩:=hd.get i ed;rw[ex]at ex';cases ex';obtain⟨z,rfl⟩:=AG (List.all_eq_true.mp e1 d (List.mem_of_getElem? ed));cases rx.int_inv;refine⟨_,rfl,.inl ⟨_,_,rfl,rfl,?_⟩⟩;show Q' (.bl (!decide (z=0))) H4;rw[Ho];exact hq _ (aI.refl _)
           · intro H4 s4 d4
             refine⟨D2,_,rfl,bc.of d4,?_⟩;rw[any_map'];exact k H4 (s2.trans s4)
   · have e:qm rs.length d=false:=by cases d<;>first|rfl|exact absurd rfl (hn _)
     rw[e]at k;refine⟨_,rfl,.inl ⟨_,_,"tuple",false,rfl,rd.ty,by decide,ht,_,rfl,bK ?_⟩⟩;exact k H (aI.refl _)
theorem item_cases(n:Nat)(d:PyData):(∃wd a b,d= .tuple [wd,a,b])\/(∃wd v,d= .tuple [wd,v])\/(∃ds,d= .tuple ds/\ds.length≠3/\ds.length≠2/\kJ n d=false)\/(gB (zC d) "tuple"=false/\kJ n d=false):=by
 rcases jv d with⟨ds,rfl⟩|⟨ht,hn⟩
 ·match ds with |[r,a,b]=>exact .inl ⟨r,a,b,rfl⟩ |[r,a]=>exact .inr (.inl ⟨r,a,rfl⟩) |[]=>exact .inr (.inr (.inl ⟨_,rfl,by simp,by simp,by simp[kJ]⟩)) |[_]=>exact .inr (.inr (.inl ⟨_,rfl,by simp,by simp,by simp[kJ]⟩)) |_::_::_::_::_=>exact .inr (.inr (.inl ⟨_,rfl,by simp,by simp,by simp[kJ]⟩))
 ·exact .inr (.inr (.inr ⟨ht,by cases d<;>first|rfl|exact absurd rfl (hn _)⟩))
inductive yH(K:PySem.W.Frag)(vs:List V)(H:Hp)(Q:VK):Prop |mk (m:V)(v:V)(rs:List Int)(es:List PyData)(d:PyData)(h0:vs=[m,v])(h1:RD K H m ((.tuple (.tuple (rs.map PyData.int)::es))))(h2:RD K H v d)(h3:rs.length<=3)(h4:hW 8 d)(h5:Jh d=true)(h6:∀H',aI H H'->Q (.bl (kJ rs.length d)) H'):yH K vs H Q
def yI(K:PySem.W.Frag):Sp:=fun vs H Q _=>yH K vs H Q
theorem Jl{ds:List PyData}(h:hW 8 (.tuple ds)){d:PyData}(hd:d∈ds):hW 8 d:=((hW.bu (n:=7) h) d hd).le (by decide)
theorem JQ{ds:List PyData}(h:Jh (.tuple ds)=true){d:PyData}(hd:d∈ds):BZ d=true:=List.all_eq_true.mp (show ds.all BZ=true from h) d hd
abbrev Jm:Stmt:=top 44
theorem Ht:aH ["machine","thing","word","steps","speed","value"] ["machine","thing"] (ao Jm):=⟨rfl,rfl,rfl,by decide+kernel,rfl,by decide+kernel,by decide+kernel⟩
theorem Hu(F:FA K mg "is_item" Jm)(B:dv mg)(h_GREATEST_SPEED:GV mg "GREATEST_SPEED" (.int 20))(his_whole_within:aw P w K mg base "is_whole_within" 2 (pU K))(hare_steps:aw P w K mg base "are_steps" 3 (Hq K))(his_short_item:aw P w K mg base "is_short_item" 3 (C1 K)):aw P w K mg base "is_item" 4 (yI K):=by
 refine F.has Ht (fun vs H Q E h=>?_) (fun _ _ _ _ _ _ us hl=>match us,hl with|[_,_],_=>rfl) (fun f cdv A outer s H vs Q E hr h=>?_)
 · obtain⟨m,v,rs,es,d,rfl,_⟩:=h
   rfl
 · obtain⟨m,v,rs,es,d,rfl,rm,rd,l3,okd,sh,k⟩:=h
   have nd:=Ht.nd;refine⟨_,(ag (aR (cf (bh (ak (x:="isinstance") (dc K rfl) rfl (B.at "isinstance") PyProof.Rows.boot_isinstance (aa (pv 1) (aa (aV (x:="tuple") (v:=.ty "tuple") rfl (B.at "tuple") PyProof.Rows.boot_tuple rfl) af))))) (ai (aB fj)) aL) (ag (aR (aO (fT K rfl hr.units) (ak (x:="len") (dw K rfl) rfl (B.at "len") PySem.boot_len (aa (pv 1) af)) ah (aK _)) (ag (cx (pv 1) (gD K rfl (n:=3) rfl (aD (aA (i:=2) nd rfl (Or.inl rfl)) (aD (aA (i:=3) nd rfl (Or.inl rfl)) (aD (aA (i:=4) nd rfl (Or.inl rfl)) aZ))))) (ai (aB (cR (bJ (fT K rfl hr.units) (pv 2) aJ (aK _)) (cR (aE hare_steps (hr.mono (by decide)) rfl (aa (pv 0) (aa (pv 3) af))) (cU (aE his_whole_within (hr.mono (by decide)) rfl (aa (pv 4) (aa ah (aa (eg (x:="GREATEST_SPEED") rfl h_GREATEST_SPEED) af)))))))))) aL) (ag (aR (aO (fT K rfl hr.units) (ak (x:="len") (dw K rfl) rfl (B.at "len") PySem.boot_len (aa (pv 1) af)) ah (aK _)) (ag (cx (pv 1) (gD K rfl (n:=2) rfl (aD (aA (i:=2) nd rfl (Or.inl rfl)) (aD (aA (i:=5) nd rfl (Or.inl rfl)) aZ)))) (ai (aB (aE his_short_item (hr.mono (by decide)) rfl (aa (pv 2) (aa (pv 5) af)))))) aL) (ai (aB fj))))),?_⟩;rcases item_cases rs.length d with⟨wd,a,b,rfl⟩|⟨wd,a,rfl⟩|⟨ds,rfl,h3,h2,hf⟩|⟨ht,hf⟩
   · refine⟨_,rfl,.inl ⟨_,_,"tuple",true,rfl,rd.ty,by decide,GS,_,rfl,bw ?_⟩⟩
     obtain⟨p,xs,rfl,hx,hd⟩:=rd.bu;obtain⟨u1,ys,rfl,r1,hd⟩:=hd.cons_inv;obtain⟨u2,ys,rfl,r2,hd⟩:=hd.cons_inv;obtain⟨u3,ys,rfl,r3,hd⟩:=hd.cons_inv;cases hd.nil_inv;have k:∀H',aI H H'->Q (.bl (lT "line" wd&&(qm rs.length a&&kD 1 20 b))) H':=k;refine⟨_,rfl,p,_,rfl,.inr hx,.inl ⟨_,_,rfl,rfl,_,rfl,bK ?_⟩⟩;refine⟨_,rfl,p,_,rfl,hx,rfl,_,_,rfl,_,_,rfl,_,_,rfl,rfl,?_⟩;refine⟨_,rfl,.inr ⟨_,_,r1,bQ _,Hl (Jl okd (by simp)),by decide+kernel,_,rfl,?_⟩⟩;rw[sX];cases e1:lT "line" wd with |false=>rw[e1,Bool.false_and]at k;exact bw (k H (aI.refl _)) |true=>rw[e1,Bool.true_and]at k;refine bK ⟨_,rfl,_,rfl,_,_,rs,es,a,rfl,rm,r2,l3,fun H1 s1=>⟨_,rfl,?_⟩⟩;cases e2:qm rs.length a with |false=>rw[e2,Bool.false_and]at k;exact bw (k H1 s1) |true=>rw[e2,Bool.true_and]at k;exact bK ⟨_,rfl,_,b,1,20,rfl,RD.mono s1 _ r3,k H1 s1⟩
   · refine⟨_,rfl,.inl ⟨_,_,"tuple",true,rfl,rd.ty,by decide,GS,_,rfl,bw ?_⟩⟩
     obtain⟨p,xs,rfl,hx,hd⟩:=rd.bu;obtain⟨u1,ys,rfl,r1,hd⟩:=hd.cons_inv;obtain⟨u2,ys,rfl,r2,hd⟩:=hd.cons_inv;cases hd.nil_inv;have k:∀H',aI H H'->Q (.bl (fy wd a)) H':=k;refine⟨_,rfl,p,_,rfl,.inr hx,.inl ⟨_,_,rfl,rfl,_,rfl,bw ?_⟩⟩;refine⟨_,rfl,p,_,rfl,.inr hx,.inl ⟨_,_,rfl,rfl,_,rfl,bK ?_⟩⟩;refine⟨_,rfl,p,_,rfl,hx,rfl,_,_,rfl,_,_,rfl,rfl,?_⟩;exact⟨_,rfl,_,rfl,_,_,wd,a,rfl,r1,r2,Jl okd (by simp),Jl okd (by simp),JQ sh (by simp),k⟩
   · rw[hf]at k
     refine⟨_,rfl,.inl ⟨_,_,"tuple",true,rfl,rd.ty,by decide,GS,_,rfl,bw ?_⟩⟩;obtain⟨p,xs,rfl,hx,hd⟩:=rd.bu;have hl:=hd.length;refine⟨_,rfl,p,_,rfl,.inr hx,.inl ⟨_,_,rfl,rfl,_,rfl,?_⟩⟩;rw[show decide ((xs.length:Int)=3)=false from decide_eq_false (by omega)];refine bw ⟨_,rfl,p,_,rfl,.inr hx,.inl ⟨_,_,rfl,rfl,_,rfl,?_⟩⟩;rw[show decide ((xs.length:Int)=2)=false from decide_eq_false (by omega)];exact bw (k H (aI.refl _))
   · rw[hf]at k
     refine⟨_,rfl,.inl ⟨_,_,"tuple",false,rfl,rd.ty,by decide,ht,_,rfl,bK ?_⟩⟩;exact k H (aI.refl _)
def Ed(rs:List Int):PyData->Bool | .tuple es=>es.length==rs.length&&((es.zip rs).map fun p=>kD 0 p.2 p.1).all id |_=>false
inductive yJ(K:PySem.W.Frag)(vs:List V)(H:Hp)(Q:VK):Prop |mk (m:V)(v:V)(rs:List Int)(ds:List PyData)(d:PyData)(h0:vs=[m,v])(h1:RD K H m (.tuple (.tuple (rs.map PyData.int)::ds)))(h2:RD K H v d)(h3:rs.length<=3)(h4:∀H',aI H H'->Q (.bl (Ed rs d)) H'):yJ K vs H Q
def yK(K:PySem.W.Frag):Sp:=fun vs H Q _=>yJ K vs H Q
theorem zip_get{es:List PyData}{rs:List Int}{i:Nat}{b:Bool}(h:((es.zip rs).map fun p=>kD 0 p.2 p.1)[i]? =some b):∃e r,es[i]? =some e/\rs[i]? =some r/\kD 0 r e=b:=by rw[List.getElem?_map]at h;cases q:(es.zip rs)[i]? with |none=>rw[q]at h;cases h |some p=>rw[q]at h;obtain⟨e1,e2⟩:=List.getElem?_zip_eq_some.mp q;exact⟨p.1,p.2,e1,e2,Option.some.inj h⟩
theorem ints_get{rs:List Int}{i:Nat}{r:Int}(h:rs[i]? =some r):(rs.map V.int)[i]? =some (.int r):=by rw[List.getElem?_map,h];rfl
abbrev Jn:Stmt:=top 36
theorem Hv:aH ["machine","thing","rails"] ["machine","thing"] (ao Jn):=⟨rfl,rfl,rfl,by decide+kernel,rfl,by decide+kernel,by decide+kernel⟩
theorem Hw(F:FA K mg "is_place" Jn)(B:dv mg)(his_whole_within:aw P w K mg base "is_whole_within" 2 (pU K)):aw P w K mg base "is_place" 3 (yK K):=by
 refine F.has Hv (fun vs H Q E h=>?_) (fun _ _ _ _ _ _ us hl=>match us,hl with|[_,_],_=>rfl) (fun f cdv A outer s H vs Q E hr h=>?_)
 · obtain⟨m,v,rs,ds,d,rfl,_⟩:=h
   rfl
 · obtain⟨m,v,rs,ds,d,rfl,rm,rd,l3,k⟩:=h
   have nd:=Hv.nd;refine⟨_,(ag (aF (i:=2) nd rfl (Or.inl rfl) (aM (cw K rfl) (pv 0) ah (fun _ _=>rfl))) (ag (aR (PW.pt (gz (cf (bh (ak (x:="isinstance") (dc K rfl) rfl (B.at "isinstance") PyProof.Rows.boot_isinstance (aa (pv 1) (aa (aV (x:="tuple") (v:=.ty "tuple") rfl (B.at "tuple") PyProof.Rows.boot_tuple rfl) af))))) (fo (aO (qO K rfl hr.units) (ak (x:="len") (dw K rfl) rfl (B.at "len") PySem.boot_len (aa (pv 1) af)) (ak (x:="len") (dw K rfl) rfl (B.at "len") PySem.boot_len (aa (pv 2) af)) (aK _))))) (ai (aB fj)) aL) (ai (aB (ak (x:="all") (mi K rfl rfl) rfl (B.at "all") PyProof.Rows.boot_all (aa (bT (N:=["number","rail"]) (js:=[none,none]) rfl rfl rfl (dy K rfl false false rfl (B.at "zip") (aa (pv 1) (aa (pv 2) af))) (fun _ _ _ _ _=>(gD K rfl (n:=2) rfl (aD (aA (i:=0) (show List.Nodup (["number","rail"]:List Str) by decide+kernel) rfl (Or.inl rfl)) (aD (aA (i:=1) (show List.Nodup (["number","rail"]:List Str) by decide+kernel) rfl (Or.inl rfl)) aZ)))) (fun _ _ _ _ _=>bM) (fun _ _ _ _ _=>(aE his_whole_within (hr.mono (by decide)) rfl (aa (pv 0) (aa ah (aa (pv 1) af)))))) af)))))),?_⟩;obtain⟨am,xm,rfl,hm,hdm⟩:=rm.bu;obtain⟨yr,ym,rfl,r1,hdm2⟩:=hdm.cons_inv;obtain⟨ar,xr,rfl,hr1,hdr⟩:=r1.bu;cases hdr.ck;refine⟨_,rfl,.inr ⟨am,_,0,_,rfl,rfl,hm,bB (Int.le_refl 0) rfl,?_⟩⟩;rcases jv d with⟨es,rfl⟩|⟨ht,hn⟩
   · refine⟨_,rfl,.inl ⟨_,_,"tuple",true,rfl,rd.ty,by decide,GS,_,rfl,bw ?_⟩⟩
     obtain⟨av,xs,rfl,hx,hd⟩:=rd.bu;have hl:=hd.length;refine⟨_,rfl,av,_,rfl,.inr hx,_,rfl,ar,_,rfl,.inr hr1,.inl ⟨_,_,rfl,rfl,_,rfl,?_⟩⟩;have k:∀H',aI H H'->Q (.bl (es.length==rs.length&&((es.zip rs).map fun p=>kD 0 p.2 p.1).all id)) H':=k;have e0:(decide ((xs.length:Int)=((rs.map V.int).length:Int)))=(es.length==rs.length):=by rw[hl,List.length_map,Bool.eq_iff_iff];simp;omega
     rw[e0];cases e:(es.length==rs.length)with |false=>rw[e,Bool.false_and]at k;exact bK (k H (aI.refl _)) |true=>
       rw[e,Bool.true_and]at k;refine bw ?_;have el:es.length=rs.length:=beq_iff_eq.mp e;refine⟨_,rfl,_,rfl,av,ar,rfl,⟨_,hx⟩,⟨_,hr1⟩,fun D H0 nw=>?_⟩;refine nN (b1:=false) (b2:=false) (xs:=xs) (ys:=rs.map V.int) (bs:=(es.zip rs).map fun p=>kD 0 p.2 p.1) [] rfl hx hr1 nw (by rw[List.length_map,List.length_map,List.length_zip,hl]) (by rw[List.length_map,List.length_zip];omega) ?_ ?_
       · intro i x y b H2 Q' ex ey eb s2 hq
         obtain⟨e',r,ee,er,rfl⟩:=zip_get eb;obtain⟨x',ex',rx⟩:=hd.get i ee;rw[ex]at ex';cases ex';rw[ints_get er]at ey;cases ey;exact⟨_,rfl,_,rfl,_,e',0,r,rfl,RD.mono s2 _ rx,hq _ (aI.refl _)⟩
       · intro H2 s2 d2
         exact⟨D,_,rfl,bc.of d2,k H2 s2⟩
   · have e:Ed rs d=false:=by cases d<;>first|rfl|exact absurd rfl (hn _)
     rw[e]at k;refine⟨_,rfl,.inl ⟨_,_,"tuple",false,rfl,rd.ty,by decide,ht,_,rfl,bK ?_⟩⟩;exact k H (aI.refl _)
inductive ow(K:PySem.W.Frag)(vs:List V)(H:Hp)(Q:VK):Prop |mk (pw:_)(b:_)(pl:_)(ns:_)(h0:vs=[pw,.ref b])(h1:RD K H pw (jL pl))(h2:bG K H b (ns.map V.int))(h3:ns.length=pl.length)(h4:pl.length<=1000)(h5:∀v' H',RD K H' v' (jL (eK pl ns))->aI H H'->Q v' H'):ow K vs H Q
def jV(K:PySem.W.Frag):Sp:=fun vs H Q _=>ow K vs H Q
abbrev qo:Stmt:=top 47
theorem sY:aH ["place","steps"] ["place","steps"] (ao qo):=⟨rfl,rfl,rfl,by decide+kernel,rfl,by decide+kernel,by decide+kernel⟩
theorem yL(F:FA K mg "moved" qo)(B:dv mg):aw P w K mg base "moved" 1 (jV K):=by
 refine F.has sY (fun vs H Q E h=>?_) (fun _ _ _ _ _ _ us hl=>match us,hl with|[_,_],_=>rfl) (fun f cdv A outer s H vs Q E hr h=>?_)
 · obtain⟨pw,b,pl,ns,rfl,_⟩:=h
   rfl
 · obtain⟨pw,b,pl,ns,rfl,rp,hb,ln,hz,k⟩:=h
   have nd:=sY.nd;refine⟨_,(ai (aB (bI (x:="tuple") (fe K rfl) rfl (B.at "tuple") PyProof.Rows.boot_tuple (aa (bT (N:=["number","step"]) (js:=[none,none]) rfl rfl rfl (dy K rfl false false rfl (B.at "zip") (aa (pv 0) (aa (pv 1) af))) (fun _ _ _ _ _=>(gD K rfl (n:=2) rfl (aD (aA (i:=0) (show List.Nodup (["number","step"]:List Str) by decide+kernel) rfl (Or.inl rfl)) (aD (aA (i:=1) (show List.Nodup (["number","step"]:List Str) by decide+kernel) rfl (Or.inl rfl)) aZ)))) (fun _ _ _ _ _=>bM) (fun _ _ _ _ _=>(az bo (pv 0) (pv 1)))) af)))),?_⟩;obtain⟨pa,rfl,hp⟩:=gP rp;refine⟨_,rfl,_,rfl,pa,b,rfl,⟨_,hp⟩,⟨_,hb⟩,fun D H1 n1=>?_⟩;refine fC (K:=K) (b1:=false) (b2:=false) (xs:=pl.map V.int) (ys:=ns.map V.int) (ds:=(eK pl ns).map PyData.int) [] rfl hp hb n1 (by simp[eL ln,ln]) (by rw[List.length_map,eL ln];exact hz) (cC _) ?_ ?_
   · intro i x y d H2 Q' ex ey ed s2 hq
     obtain⟨m,em,rfl⟩:=dB ed;rw[List.getElem?_map]at ex ey;cases e1:pl[i]? with |none=>rw[e1]at ex;cases ex |some u=>cases e2:ns[i]? with |none=>rw[e2]at ey;cases ey |some v=>rw[e1]at ex;rw[e2]at ey;cases ex;cases ey;rw[ky e1 e2]at em;cases em;exact⟨_,rfl,_,rfl,_,_,rfl,rfl,hq _ _ (aI.refl _) (bU _)⟩
   · intro H2 zs s2 d2 r2
     refine⟨D,_,rfl,.inl ⟨bc.of d2,fun t H3 n3=>?_⟩⟩;have et:=n3.at';rw[r2.ck]at et;exact k (.ref t) H3 (lR (bG.of et)) (s2.trans n3.same)
inductive yM(K:PySem.W.Frag)(vs:List V)(H:Hp)(Q:VK):Prop |mk (pw:_)(iv:_)(pl:_)(d:_)(o:_)(h0:vs=[pw,iv])(h1:RD K H pw (jL pl))(h2:RD K H iv d)(h3:itR d o)(h4:(∀ns sp,o=some (ns,sp)->ns.length=pl.length))(h5:pl.length<=1000)(h6:∀v' H',RD K H' v' (jL (gy pl o))->aI H H'->Q v' H'):yM K vs H Q
def ox(K:PySem.W.Frag):Sp:=fun vs H Q _=>yM K vs H Q
abbrev mJ:Stmt:=top 46
theorem oy:aH ["place","item"] ["place","item"] (ao mJ):=⟨rfl,rfl,rfl,by decide+kernel,rfl,by decide+kernel,by decide+kernel⟩
theorem uF(F:FA K mg "place_behind" mJ)(B:dv mg)(his_line:aw P w K mg base "is_line" 1 (jt K))(hmoved:aw P w K mg base "moved" 1 (jV K)):aw P w K mg base "place_behind" 2 (ox K):=by
 refine F.has oy (fun vs H Q E h=>?_) (fun _ _ _ _ _ _ us hl=>match us,hl with|[_,_],_=>rfl) (fun f cdv A outer s H vs Q E hr h=>?_)
 · obtain⟨pw,iv,pl,d,o,rfl,_⟩:=h
   rfl
 · obtain⟨pw,iv,pl,d,o,rfl,rp,ri,it,hl,hz,k⟩:=h
   have nd:=oy.nd;refine⟨_,(ai (aB (nc (bh (aE his_line (hr.mono (by decide)) rfl (aa (pv 1) af))) (aE hmoved (hr.mono (by decide)) rfl (aa (pv 0) (aa (aM (cw K rfl) (pv 1) ah (fun _ _=>rfl)) af))) (pv 0)))),?_⟩;refine⟨_,rfl,iv,d,o,rfl,ri,it,_,rfl,?_⟩;cases o with |some q=>obtain⟨ns,sp⟩:=q;refine bK ?_;have ed:=dG it;subst ed;obtain⟨a,b,rfl,ha,hb⟩:=cH ri;exact⟨_,rfl,_,rfl,.inr ⟨a,_,1,.ref b,rfl,rfl,ha,rfl,pw,b,pl,ns,rfl,rp,hb,hl ns sp rfl,hz,fun v' H' r s=>k v' H' r s⟩⟩ |none=>refine bw ?_;exact⟨_,rfl,k pw H rp (aI.refl _)⟩
end
end Lw
namespace Lw
open PySem PySem.Spec PyProof.Rows L2 Rt Ln Cn Pn Wk Rn
open Ow (topR cornO mnO betR atO ownF leadF ownL OkI OkIs)
section
variable {P:Program}{w:World}{K:PySem.W.Frag}{mg:Str->Option Value}{base:Heap}
def jW(m b d q p r s k t:V):List (Str×V):=[("machine",m),("begun_at",b),("done",d),("queue",q),("pace",p),("rate_now",r),("side",s),("mark",k),("stopping",t)]
structure fH(K:PySem.W.Frag)(C:Addr):Prop where
 cl:qC K C
 n_machine:cy K C "machine"
 n_begun_at:cy K C "begun_at"
 n_done:cy K C "done"
 n_queue:cy K C "queue"
 n_pace:cy K C "pace"
 n_rate_now:cy K C "rate_now"
 n_side:cy K C "side"
 n_mark:cy K C "mark"
 n_stopping:cy K C "stopping"
structure dC where
 rs:List Int
 r:Int
 f:Int
 j:Int
 t:Int
abbrev dC.D(M:dC):PyData:=eZ M.rs M.r M.f M.j M.t
abbrev dC.Ok(M:dC):Prop:=zE M.rs M.r M.f M.j M.t
structure cJ where
 pl:List Int
 dn:Nat
 ds:List PyData
 os:List Itm
 pc:Rat
 rate:Int
 side:Str
 mark:Str
 stp:Rn.jT
def uG(K:PySem.W.Frag)(H:Hp)(v:V):Rn.jT->Prop |none=>v= .cG |some (sq,st,gn)=>∃a u,v= .ref a/\bG K H a [u,.int st,.int gn]/\aY K H u sq
structure eR(M:dC)(D:Nat)(S:cJ):Prop where
 row:dM M.rs.length S.ds S.os
 rw:RowW S.ds S.os
 len:S.ds.length<=20
 rt1:10<=S.rate
 rt2:S.rate<=200
 dn:S.dn=0\/∃ns sp,S.os[0]? =some (some (ns,sp))/\S.dn<ay ns
 pl:S.pl.length=M.rs.length
 pd:Dd (D+10) S.pc
 pm:S.pc<=1600
 stp:jG D S.pc S.stp
 D1:64<=D
 D2:D<=1500
structure bL(K:PySem.W.Frag)(C:Addr)(H:Hp)(a q:Addr)(M:dC)(S:cJ):Prop where
 ob:∃dx mv bv pcv tv,H a=some (.ins C dx (jW mv bv (.int S.dn) (.ref q) pcv (.int S.rate) (.str S.side) (.str S.mark) tv))/\RD K H mv M.D/\RD K H bv (jL S.pl)/\aY K H pcv S.pc/\uG K H tv S.stp
 qu:∃ys,H q=some (.lst ys)/\bj K H ys S.ds
theorem aY.v{H H':Hp}{v:V}{q:Rat}(s:aW H H')(h:aY K H v q):aY K H' v q:=by obtain⟨p,rfl,hp⟩:=h;exact⟨p,rfl,bG.v s hp⟩
theorem uG.v{H H':Hp}{v:V}{t:Rn.jT}(s:aW H H')(h:uG K H v t):uG K H' v t:=by cases t with |none=>exact h |some q=>obtain⟨sq,st,gn⟩:=q;obtain⟨a,u,rfl,h1,h2⟩:=h;exact⟨a,u,rfl,bG.v s h1,aY.v s h2⟩
theorem bL.go{C:Addr}{H H':Hp}{a q:Addr}{M:dC}{S:cJ}(h:bL K C H a q M S)(hn:cD S.ds=true)(s:aW H H')(ea:∀o,H a=some o->H' a=some o)(eq:∀o,H q=some o->H' q=some o):bL K C H' a q M S:=by obtain⟨⟨dx,mv,bv,pcv,tv,e,r1,r2,r3,r4⟩,ys,eq',rq⟩:=h;exact⟨⟨dx,mv,bv,pcv,tv,ea _ e,RD.v s _ (cm _ _ _ _ _) r1,RD.v s _ (cT _) r2,r3.v s,r4.v s⟩,ys,eq _ eq',bj.v s _ hn rq⟩
theorem bL.same{C:Addr}{H H':Hp}{a q:Addr}{M:dC}{S:cJ}(h:bL K C H a q M S)(hn:cD S.ds=true)(s:aI H H'):bL K C H' a q M S:=h.go hn s.v (fun o e=>s _ _ e) (fun o e=>s _ _ e)
theorem bL.ne{C:Addr}{H:Hp}{a q:Addr}{M:dC}{S:cJ}(h:bL K C H a q M S):a≠q:=by obtain⟨⟨dx,mv,bv,pcv,tv,e,_⟩,ys,eq',_⟩:=h;exact mY e eq' (by intro z;cases z)
theorem bL.v{C:Addr}{H H':Hp}{a q:Addr}{M:dC}{S:cJ}(h:bL K C H a q M S)(b:dZ [a,q] H H'):aW H H':=by
 obtain⟨⟨dx,mv,bv,pcv,tv,e,_⟩,ys,eq',_⟩:=h;refine b.v fun x hx o eo=>?_;simp only[List.mem_cons,List.not_mem_nil,or_false]at hx;rcases hx with rfl|rfl
 ·rw[e]at eo;cases eo;trivial
 ·rw[eq']at eo;cases eo;trivial
inductive t9(K:PySem.W.Frag)(C:Addr)(G:dC->cJ->Hp->VK->Prop)(vs:List V)(H:Hp)(Q:VK):Prop |mk (a:_)(q:_)(M:_)(D:_)(S:_)(h0:vs=[.ref a])(h1:bL K C H a q M S)(h2:eR M D S)(h3:M.Ok)(h4:G M S H Q):t9 K C G vs H Q
def cE(K:PySem.W.Frag)(C:Addr)(G:dC->cJ->Hp->VK->Prop):Sp:=fun vs H Q _=>t9 K C G vs H Q
abbrev Ee:Stmt:=inClass (top 62) 3
theorem Hx:aH ["self"] ["self"] (ao Ee):=⟨rfl,rfl,rfl,by decide+kernel,rfl,by decide+kernel,by decide+kernel⟩
def JC(K:PySem.W.Frag):dC->cJ->Hp->VK->Prop:=fun _ S H Q=>∀v,aY K H v S.pc->Q v H
theorem Ef{C:Addr}(F:MA K C "square" "Runner.square" Ee)(TC:fH K C):bN P w K mg base C "square" 1 (cE K C (JC K)):=by
 refine F.has Hx (fun vs H Q E h=>?_) (fun _ _ _ _ _ _ us hl=>match us,hl with|[_],_=>rfl) (fun f cdv A outer s H vs Q E hr h=>?_)
 · obtain⟨a,q,M,D,S,rfl,_⟩:=h
   rfl
 · obtain⟨a,q,M,D,S,rfl,R,ok,okm,k⟩:=h
   obtain⟨dx,mv,bv,pcv,tv,e,r1,r2,r3,r4⟩:=R.ob;exact⟨_,(ai (aB (bO TC.cl TC.n_pace (pv 0)))),_,rfl,a,dx,_,_,rfl,e,rfl,k pcv r3⟩
abbrev Eg:Stmt:=inClass (top 62) 4
theorem Hy:aH ["self"] ["self"] (ao Eg):=⟨rfl,rfl,rfl,by decide+kernel,rfl,by decide+kernel,by decide+kernel⟩
theorem Eh{C:Addr}(F:MA K C "rate" "Runner.rate" Eg)(TC:fH K C):bN P w K mg base C "rate" 1 (cE K C fun _ S H Q=>Q (.int S.rate) H):=by
 refine F.has Hy (fun vs H Q E h=>?_) (fun _ _ _ _ _ _ us hl=>match us,hl with|[_],_=>rfl) (fun f cdv A outer s H vs Q E hr h=>?_)
 · obtain⟨a,q,M,D,S,rfl,_⟩:=h
   rfl
 · obtain⟨a,q,M,D,S,rfl,R,ok,okm,k⟩:=h
   obtain⟨dx,mv,bv,pcv,tv,e,r1,r2,r3,r4⟩:=R.ob;exact⟨_,(ai (aB (bO TC.cl TC.n_rate_now (pv 0)))),_,rfl,a,dx,_,_,rfl,e,rfl,k⟩
abbrev Ei:Stmt:=inClass (top 62) 5
theorem Hz:aH ["self"] ["self"] (ao Ei):=⟨rfl,rfl,rfl,by decide+kernel,rfl,by decide+kernel,by decide+kernel⟩
theorem Ej{C:Addr}(F:MA K C "tool" "Runner.tool" Ei)(TC:fH K C):bN P w K mg base C "tool" 1 (cE K C fun _ S H Q=>Q (.str S.side) H):=by
 refine F.has Hz (fun vs H Q E h=>?_) (fun _ _ _ _ _ _ us hl=>match us,hl with|[_],_=>rfl) (fun f cdv A outer s H vs Q E hr h=>?_)
 · obtain⟨a,q,M,D,S,rfl,_⟩:=h
   rfl
 · obtain⟨a,q,M,D,S,rfl,R,ok,okm,k⟩:=h
   obtain⟨dx,mv,bv,pcv,tv,e,r1,r2,r3,r4⟩:=R.ob;exact⟨_,(ai (aB (bO TC.cl TC.n_side (pv 0)))),_,rfl,a,dx,_,_,rfl,e,rfl,k⟩
abbrev Ek:Stmt:=inClass (top 62) 7
theorem HH:aH ["self"] ["self"] (ao Ek):=⟨rfl,rfl,rfl,by decide+kernel,rfl,by decide+kernel,by decide+kernel⟩
theorem El{C:Addr}(F:MA K C "waiting" "Runner.waiting" Ek)(TC:fH K C)(B:dv mg):bN P w K mg base C "waiting" 1 (cE K C fun _ S H Q=>∀l ys H',H l=none->H' l=some (.lst ys)->bj K H' ys S.ds->aI H H'->Q (.ref l) H'):=by
 refine F.has HH (fun vs H Q E h=>?_) (fun _ _ _ _ _ _ us hl=>match us,hl with|[_],_=>rfl) (fun f cdv A outer s H vs Q E hr h=>?_)
 · obtain⟨a,q,M,D,S,rfl,_⟩:=h
   rfl
 · obtain⟨a,q,M,D,S,rfl,R,ok,okm,k⟩:=h
   obtain⟨dx,mv,bv,pcv,tv,e,r1,r2,r3,r4⟩:=R.ob;obtain⟨ys,eq,rq⟩:=R.qu;refine⟨_,(ai (aB (bI (x:="list") (vT K rfl) rfl (B.at "list") PyProof.Rows.boot_list (aa (bO TC.cl TC.n_queue (pv 0)) af)))),_,rfl,a,dx,_,_,rfl,e,rfl,q,ys,rfl,.inl (bc.of eq),fun l H1 n1=>?_⟩;exact k l ys H1 n1.no n1.at' (bj.mono n1.same _ rq) n1.same
abbrev Em:Stmt:=inClass (top 62) 8
theorem HK:aH ["self"] ["self"] (ao Em):=⟨rfl,rfl,rfl,by decide+kernel,rfl,by decide+kernel,by decide+kernel⟩
theorem En{C:Addr}(F:MA K C "is_held" "Runner.is_held" Em)(TC:fH K C):bN P w K mg base C "is_held" 1 (cE K C fun _ S H Q=>Q (.bl S.stp.isSome) H):=by
 refine F.has HK (fun vs H Q E h=>?_) (fun _ _ _ _ _ _ us hl=>match us,hl with|[_],_=>rfl) (fun f cdv A outer s H vs Q E hr h=>?_)
 · obtain⟨a,q,M,D,S,rfl,_⟩:=h
   rfl
 · obtain⟨a,q,M,D,S,rfl,R,ok,okm,k⟩:=h
   obtain⟨dx,mv,bv,pcv,tv,e,r1,r2,r3,r4⟩:=R.ob;refine⟨_,(ai (aB (bJ iG (bO TC.cl TC.n_stopping (pv 0)) dN (aK _)))),_,rfl,a,dx,_,_,rfl,e,rfl,?_⟩;cases hs:S.stp with |none=>rw[hs]at r4 k;cases(show tv= .cG from r4);exact⟨rfl,k⟩ |some z=>rw[hs]at r4 k;obtain⟨sq,st,gn⟩:=z;obtain⟨b,u,rfl,_⟩:=r4;exact⟨rfl,k⟩
theorem yN(q:Rat):PyData.eqv (cN q) (cN 0)=decide (q=0):=by
 by_cases h:q=0
 ·rw[decide_eq_true h];exact JM h
 · rw[decide_eq_false h]
   cases e:PyData.eqv (cN q) (cN 0)with |false=>rfl |true=>
     exfalso;apply h;have e':(PyData.eqv (.int q.num) (.int (0:Rat).num)&&(PyData.eqv (.int (q.den:Int)) (.int ((0:Rat).den:Int))&&true))=true:=e;rw[Bool.and_true,Bool.and_eq_true]at e';obtain⟨a,b⟩:=e';have h1:q.num=(0:Rat).num:=by simpa[PyData.eqv]using a
     have h2:(q.den:Int)=((0:Rat).den:Int):=by simpa[PyData.eqv]using b
     exact Rat.ext h1 (by omega)
abbrev Eo:Stmt:=inClass (top 62) 9
theorem HL:aH ["self"] ["self"] (ao Eo):=⟨rfl,rfl,rfl,by decide+kernel,rfl,by decide+kernel,by decide+kernel⟩
theorem Ep{C:Addr}(F:MA K C "stands" "Runner.stands" Eo)(TC:fH K C)(gN:GT K mg "NOUGHT" [.int 0,.int 1]):bN P w K mg base C "stands" 1 (cE K C fun _ S H Q=>Q (.bl (decide (S.pc=0))) H):=by
 obtain⟨aN,h_NOUGHT,sqN⟩:=gN;refine F.has HL (fun vs H Q E h=>?_) (fun _ _ _ _ _ _ us hl=>match us,hl with|[_],_=>rfl) (fun f cdv A outer s H vs Q E hr h=>?_)
 · obtain⟨a,q,M,D,S,rfl,_⟩:=h
   rfl
 · obtain⟨a,q,M,D,S,rfl,R,ok,okm,k⟩:=h
   obtain⟨dx,mv,bv,pcv,tv,e,r1,r2,r3,r4⟩:=R.ob;refine⟨_,(ai (aB (bJ (fT K rfl hr.units) (bO TC.cl TC.n_pace (pv 0)) (eg (x:="NOUGHT") rfl h_NOUGHT) (aK _)))),_,rfl,a,dx,_,_,rfl,e,rfl,.inr ⟨_,_,r3.rd,(jw (sqN H)).rd,rfl,rfl,?_⟩⟩;rw[yN];exact k
abbrev Er:Stmt:=inClass (top 62) 10
theorem HM:aH ["self"] ["self"] (ao Er):=⟨rfl,rfl,rfl,by decide+kernel,rfl,by decide+kernel,by decide+kernel⟩
theorem Es{C:Addr}(F:MA K C "is_halted" "Runner.is_halted" Er)(TC:fH K C)(hR_is_held:bN P w K mg base C "is_held" 1 (cE K C fun _ S H Q=>Q (.bl S.stp.isSome) H))(hR_stands:bN P w K mg base C "stands" 1 (cE K C fun _ S H Q=>Q (.bl (decide (S.pc=0))) H)):bN P w K mg base C "is_halted" 2 (cE K C fun _ S H Q=>Q (.bl (S.stp.isSome&&decide (S.pc=0))) H):=by
 refine F.has HM (fun vs H Q E h=>?_) (fun _ _ _ _ _ _ us hl=>match us,hl with|[_],_=>rfl) (fun f cdv A outer s H vs Q E hr h=>?_)
 · obtain⟨a,q,M,D,S,rfl,_⟩:=h
   rfl
 · obtain⟨a,q,M,D,S,rfl,R,ok,okm,k⟩:=h
   obtain⟨dx,mv,bv,pcv,tv,e,r1,r2,r3,r4⟩:=R.ob;refine⟨_,(ai (aB (cR (dP hR_is_held TC.cl (hr.mono (by decide)) (pv 0)) (cU (dP hR_stands TC.cl (hr.mono (by decide)) (pv 0)))))),_,rfl,a,dx,_,rfl,e,rfl,a,q,M,D,S,rfl,R,ok,okm,_,rfl,?_⟩;cases hs:S.stp.isSome with |false=>rw[hs]at k;exact bw k |true=>rw[hs]at k;refine bK ⟨_,rfl,a,dx,_,rfl,e,rfl,a,q,M,D,S,rfl,R,ok,okm,?_⟩;exact k
end
end Lw
namespace Lw
open PySem PySem.Spec PyProof.Rows L2 Rt Ln Wk
open Ow (Itm)
section
variable {P:Program}{w:World}{K:PySem.W.Frag}{mg:Str->Option Value}{base:Heap}
structure uH(n:Nat)(d:PyData)(o:Itm):Prop where
 it:itR d o
 ln:∀ns sp,o=some (ns,sp)->iD n 100 ns/\1<=sp/\sp<=20
 ot:o=none->oj d
theorem AH{z:Str}(h:yk z=true):isNm (.str z)=true:=h
theorem Et:∀{ns:List Int},(∃z∈ns,z≠0)->(ns.map PyData.int).any Hh=true:=fun{ns} ⟨z,hz,h⟩=>List.any_eq_true.mpr ⟨.int z,List.mem_map.mpr ⟨z,hz,rfl⟩,by show(z !=0)=true;simpa using h⟩
theorem Eu{ns:List Int}(h:∀z∈ns,(z.natAbs:Int)<=100):(ns.map PyData.int).all (kD (-100) 100)=true:=by rw[List.all_eq_true];intro d hd;obtain⟨z,hz,rfl⟩:=List.mem_map.mp hd;have:=h z hz;show(decide (-100<=z)&&decide (z<=100))=true;rw[decide_eq_true (by omega),decide_eq_true (by omega)];rfl
theorem uH.is{n:Nat}{d:PyData}{o:Itm}(h:uH n d o):kJ n d=true/\hW 8 d/\Jh d=true:=by cases o with
 |some q=>
   obtain⟨ns,sp⟩:=q;have ed:=dG h.it;subst ed;obtain⟨okn,s1,s2⟩:=h.ln ns sp rfl;refine⟨?_,?_,rfl⟩
   · show(lT "line" (.str "line")&&(qm n (.tuple (ns.map PyData.int))&&kD 1 20 (.int sp)))=true
     have e1:lT "line" (.str "line")=true:=by decide+kernel
     have e2:qm n (.tuple (ns.map PyData.int))=true:=by show(((ns.map PyData.int).length==n&&(ns.map PyData.int).all (kD (-100) 100))&&(ns.map PyData.int).any Hh)=true;rw[Eu okn.bd,Et okn.nz,List.length_map,okn.len,beq_self_eq_true];rfl
     have e3:kD 1 20 (.int sp)=true:=by show(decide (1<=sp)&&decide (sp<=20))=true;rw[decide_eq_true s1,decide_eq_true s2];rfl
     rw[e1,e2,e3];rfl
   · refine(fI.tup (n:=1) (.cons ⟨by decide+kernel,Nat.zero_le _⟩ (.cons (fI.tup (n:=0) fun d hd=>?_) (.cons (.int _) .nil)))).le (by decide)
     obtain⟨a,_,rfl⟩:=List.mem_map.mp hd;exact .int _ |none=>
   rcases h.ot rfl with⟨z,rfl,z1,z2⟩|⟨w,s,rfl,hw,FF,on⟩
   · refine⟨?_,(fI.tup (n:=0) (.cons ⟨by decide+kernel,Nat.zero_le _⟩ (.cons (.int _) .nil))).le (by decide),rfl⟩
     show fy (.str "wait") (.int z)=true;unfold fy;rw[if_pos (by decide+kernel)];show(decide (1<=z)&&decide (z<=1000))=true;rw[decide_eq_true z1,decide_eq_true z2];rfl
   · have l900:BZ (.str s)=true:=by
       refine decide_eq_true ?_;rcases on with⟨_,rfl|rfl⟩|⟨_,hn⟩
       ·decide+kernel
       ·decide+kernel
       · unfold yk at hn
         simp only[Bool.and_eq_true,decide_eq_true_eq]at hn;omega
     refine⟨?_,(fI.tup (n:=0) (.cons ?_ (.cons FF .nil))).le (by decide),?_⟩
     · rcases on with⟨rfl,hs⟩|⟨rfl,hn⟩
       · show fy (.str "tool") (.str s)=true
         unfold fy;rw[if_neg (by decide+kernel),if_pos (by decide+kernel)];rcases hs with rfl|rfl<;>decide+kernel
       · show fy (.str "mark") (.str s)=true
         unfold fy;rw[if_neg (by decide+kernel),if_neg (by decide+kernel)];rw[AH hn];decide+kernel
     ·rcases hw with rfl|rfl<;>exact⟨by decide+kernel,Nat.zero_le _⟩
     · show([.str w,.str s]:List PyData).all BZ=true
       rw[List.all_cons,List.all_cons,List.all_nil,l900];rcases hw with rfl|rfl<;>decide+kernel
end
end Lw
namespace Lw
open PySem PySem.Spec PyProof.Rows L2 Rt Ln Cn Pn Wk Rn
open Ow (topR cornO mnO betR atO ownF leadF ownL OkI OkIs)
section
variable {P:Program}{w:World}{K:PySem.W.Frag}{mg:Str->Option Value}{base:Heap}
def mK(ns:List Int)(k:Int):List Int:=ns.map fun z=>ek (k*z) (ay ns)
def cg(S:cJ):List Int:=if S.dn=0 then S.pl else match S.os[0]? with |some (some (ns,_))=>eK S.pl (mK ns S.dn) |_=>S.pl
def bP(S:cJ):List Int:=S.os.foldl gy S.pl
theorem mL{n:Nat}{pl:List Int}{o:Itm}(h:pl.length=n)(ho:∀ns sp,o=some (ns,sp)->ns.length=n):(gy pl o).length=n:=by cases o with |none=>exact h |some q=>obtain⟨ns,sp⟩:=q;show(eK pl ns).length=n;rw[eL (by rw[ho ns sp rfl,h])];exact h
theorem j4{n:Nat}:∀(os:List Itm)(pl:List Int),pl.length=n->(∀o∈os,∀ns sp,o=some (ns,sp)->ns.length=n)->(os.foldl gy pl).length=n |[],pl,h,_=>h |o::os,pl,h,ho=>j4 os (gy pl o) (mL h (ho o (.head _))) fun x hx=>ho x (.tail _ hx)
theorem eR.FF{M:dC}{D:Nat}{S:cJ}(h:eR M D S):∀o∈S.os,∀ns sp,o=some (ns,sp)->ns.length=M.rs.length:=fun o ho ns sp e=>by obtain⟨i,hi⟩:=List.mem_iff_getElem?.mp ho;rw[e]at hi;exact(h.row.ok i ns sp hi).1.len
theorem eR.first{M:dC}{D:Nat}{S:cJ}(h:eR M D S)(hn:S.dn≠0):∃ns sp,S.os[0]? =some (some (ns,sp))/\S.dn<ay ns:=by
 rcases h.dn with e|e
 ·exact(hn e).elim
 ·exact e
abbrev Ew:Stmt:=inClass (top 62) 1
theorem HN:aH ["self"] ["self"] (ao Ew):=⟨rfl,rfl,rfl,by decide+kernel,rfl,by decide+kernel,by decide+kernel⟩
theorem Ey{C:Addr}(F:MA K C "place" "Runner.place" Ew)(TC:fH K C)(hmoved:aw P w K mg base "moved" 1 (jV K))(hstand_at:aw P w K mg base "stand_at" 2 (jU K)):bN P w K mg base C "place" 3 (cE K C fun _ S H Q=>∀v H',RD K H' v (jL (cg S))->aI H H'->Q v H'):=by
 refine F.has HN (fun vs H Q E h=>?_) (fun _ _ _ _ _ _ us hl=>match us,hl with|[_],_=>rfl) (fun f cdv A outer s H vs Q E hr h=>?_)
 · obtain⟨a,q,M,D,S,rfl,_⟩:=h
   rfl
 · obtain⟨a,q,M,D,S,rfl,R,ok,okm,k⟩:=h
   obtain⟨dx,mv,bv,pcv,tv,e,r1,r2,r3,r4⟩:=R.ob;obtain⟨ys,eq,rq⟩:=R.qu;refine⟨_,(ag (aR (aO (fT K rfl hr.units) (bO TC.cl TC.n_done (pv 0)) ah (aK _)) (ai (aB (bO TC.cl TC.n_begun_at (pv 0)))) aL) (ai (aB (aE hmoved (hr.mono (by decide)) rfl (aa (bO TC.cl TC.n_begun_at (pv 0)) (aa (aE hstand_at (hr.mono (by decide)) rfl (aa (aM (cw K rfl) (bO TC.cl TC.n_queue (pv 0)) ah (fun _ _=>rfl)) (aa (bO TC.cl TC.n_done (pv 0)) af))) af)))))),_,rfl,a,dx,_,_,rfl,e,rfl,.inl ⟨_,_,rfl,rfl,_,rfl,?_⟩⟩;by_cases h0:S.dn=0
   · rw[decide_eq_true (by omega)]
     have ep:cg S=S.pl:=by unfold cg;rw[if_pos h0]
     rw[ep]at k;exact bK ⟨_,rfl,a,dx,_,_,rfl,e,rfl,k bv H r2 (aI.refl _)⟩
   · rw[decide_eq_false (by omega)]
     refine bw ?_;obtain⟨ns,sp,eo,hd⟩:=ok.first h0;obtain⟨okn,sp1,sp2⟩:=ok.row.ok 0 ns sp eo;have ep:cg S=eK S.pl (mK ns S.dn):=by unfold cg;rw[if_neg h0,eo]
     rw[ep]at k;have ll:=ok.row.len;have hl0:0<S.os.length:=(List.getElem?_eq_some_iff.mp eo).1;obtain⟨d,ed⟩:∃d,S.ds[0]? =some d:=⟨_,List.getElem?_eq_getElem (show 0<S.ds.length by omega)⟩;obtain⟨y,ey,ry⟩:=rq.get 0 ed;have it:=ok.row.it 0 d _ ed eo;have ed':=dG it;subst ed';have l100:=gO okn;have lr:=okm.len;refine⟨_,rfl,a,dx,_,_,rfl,e,rfl,?_⟩;refine⟨_,rfl,a,dx,_,_,rfl,e,rfl,.inl ⟨q,_,0,y,rfl,rfl,bc.of eq,bB (Int.le_refl 0) ey,?_⟩⟩;refine⟨_,rfl,a,dx,_,_,rfl,e,rfl,y,ns,sp,_,rfl,ry,⟨rfl,fun z hz=>by have:=okn.bd z hz;omega,okn.nz⟩,by rw[okn.len];omega,by omega,fun u H1 ru s1=>?_⟩;obtain⟨b,xs,rfl,hb,hx⟩:=ru.bu;rw[hx.ck]at hb;exact⟨bv,b,S.pl,_,rfl,RD.mono s1 _ r2,hb,by rw[List.length_map,okn.len,ok.pl],by rw[ok.pl];omega,fun v H2 rv s2=>k v H2 rv (s1.trans s2)⟩
abbrev Ez:Stmt:=inClass (top 62) 2
theorem C3:aH ["self","here","item"] ["self"] (ao Ez):=⟨rfl,rfl,rfl,by decide+kernel,rfl,by decide+kernel,by decide+kernel⟩
theorem EA{C:Addr}(F:MA K C "leads_to" "Runner.leads_to" Ez)(TC:fH K C)(hplace_behind:aw P w K mg base "place_behind" 2 (ox K)):bN P w K mg base C "leads_to" 3 (cE K C fun _ S H Q=>∀v H',RD K H' v (jL (bP S))->aI H H'->Q v H'):=by
 refine F.has C3 (fun vs H Q E h=>?_) (fun _ _ _ _ _ _ us hl=>match us,hl with|[_],_=>rfl) (fun f cdv A outer s H vs Q E hr h=>?_)
 · obtain⟨a,q,M,D,S,rfl,_⟩:=h
   rfl
 · obtain⟨a,q,M,D,S,rfl,R,ok,okm,k⟩:=h
   obtain⟨dx,mv,bv,pcv,tv,e,r1,r2,r3,r4⟩:=R.ob;obtain⟨ys,eq,rq⟩:=R.qu;have nd:=C3.nd;have ll:=ok.row.len;have ly:=rq.length;have lr:=okm.len;refine⟨_,(ag (aF (i:=1) nd rfl (Or.inl rfl) (bO TC.cl TC.n_begun_at (pv 0))) (ag (fc PassesOwn.never rfl (Ik K rfl (bO TC.cl TC.n_queue (pv 0))) (aA (i:=2) nd rfl (Or.inl rfl)) (ai (aF (i:=1) nd rfl (Or.inl rfl) (aE hplace_behind (hr.mono (by decide)) rfl (aa (pv 1) (aa (pv 2) af)))))) (ai (aB (pv 1))))),_,rfl,a,dx,_,_,rfl,e,rfl,_,rfl,a,dx,_,_,rfl,e,rfl,q,rfl,⟨_,bc.of eq⟩,?_⟩;refine jY (K:=K) (a:=q) (xs:=ys) (fun i σ H1=>aI H H1/\∃hv v2,RD K H1 hv (jL ((S.os.take i).foldl gy S.pl))/\σ=[some (.ref a),some hv,v2]) ⟨aI.refl _,bv,none,r2,rfl⟩ (fun i σ H1 _ h=>bc.of (h.1 _ _ eq)) ?_ ?_
   · rintro i x σ H1 hx ⟨s1,hv,v2,rh,rfl⟩
     obtain⟨d,ed,rd⟩:=rq.get' i hx;obtain⟨o,eo,it⟩:=ok.row.get ed;have lp:((S.os.take i).foldl gy S.pl).length=M.rs.length:=j4 _ _ ok.pl fun o ho=>ok.FF o (List.mem_of_mem_take ho);refine⟨_,rfl,_,rfl,hv,x,_,d,o,rfl,rh,RD.mono s1 _ rd,it,fun ns sp e'=>by rw[lp];exact ok.FF o (List.mem_of_getElem? eo) ns sp e',by omega,fun v H2 rv s2=>?_⟩;refine⟨s1.trans s2,v,_,?_,rfl⟩;rw[List.take_succ,eo,List.foldl_append];exact rv
   · rintro σ H1 ⟨s1,hv,v2,rh,rfl⟩
     rw[ly,ll,List.take_length]at rh;exact⟨_,rfl,k hv H1 rh s1⟩
structure Mv(a q:Addr)(H:Hp)(q':Addr)(H':Hp):Prop where
 but:dZ [a,q] H H'
 nq:q'=q\/H q'=none
abbrev EB:Stmt:=inClass (top 62) 0
theorem HP:aH ["self","machine","place"] ["self","machine","place"] (ao EB):=⟨rfl,rfl,rfl,by decide+kernel,rfl,by decide+kernel,by decide+kernel⟩
def yO(pl:List Int):cJ:=⟨pl,0,[],[],0,100,"up","",none⟩
inductive yP(K:PySem.W.Frag)(C:Addr)(vs:List V)(H:Hp)(Q:VK):Prop |mk (a:_)(dx:_)(mv:_)(pv':_)(M:_)(pl:_)(h0:vs=[.ref a,mv,pv'])(h1:H a=some (.ins C dx []))(h2:RD K H mv (dC.D M))(h3:RD K H pv' (jL pl))(h4:∀q H',bL K C H' a q M (yO pl)->H q=none->dZ [a] H H'->Q .cG H'):yP K C vs H Q
def C4(K:PySem.W.Frag)(C:Addr):Sp:=fun vs H Q _=>yP K C vs H Q
theorem EC{C:Addr}(F:CA K mg C "Runner" "Runner.__init__" EB)(TC:fH K C)(gN:GT K mg "NOUGHT" [.int 0,.int 1])(h_FIRST_RATE:GV mg "FIRST_RATE" (.int 100)):rB P w K mg base C "Runner" 1 (C4 K C):=by
 obtain⟨aN,h_NOUGHT,sqN⟩:=gN;refine F.has HP (fun vs H Q E h=>?_) (fun _ _ _ _ _ _ us hl=>match us,hl with|[_,_,_],_=>rfl) (fun f cdv A outer s H vs Q E hr h=>?_)
 · obtain⟨a,dx,mv,pv',M,pl,rfl,_⟩:=h
   rfl
 · obtain⟨a,dx,mv,pv',M,pl,rfl,e,rm,rp,k⟩:=h
   refine⟨_,(ag (eV TC.cl TC.n_machine (pv 0) (pv 1)) (ag (eV TC.cl TC.n_begun_at (pv 0) (pv 2)) (ag (eV TC.cl TC.n_done (pv 0) ah) (ag (eV TC.cl TC.n_queue (pv 0) (bE af)) (ag (eV TC.cl TC.n_pace (pv 0) (eg (x:="NOUGHT") rfl h_NOUGHT)) (ag (eV TC.cl TC.n_rate_now (pv 0) (eg (x:="FIRST_RATE") rfl h_FIRST_RATE)) (ag (eV TC.cl TC.n_side (pv 0) aJ) (ag (eV TC.cl TC.n_mark (pv 0) aJ) (ai (eV TC.cl TC.n_stopping (pv 0) dN)))))))))),?_⟩;refine⟨_,rfl,_,rfl,a,dx,_,rfl,e,by decide,?_⟩;refine⟨_,rfl,_,rfl,a,dx,_,rfl,au,by show 1<1000;decide,?_⟩;refine⟨_,rfl,a,dx,_,rfl,au,by show 2<1000;decide,?_⟩;refine⟨aQ _ (Nat.le_of_ble_eq_true rfl),fun q H1 n1=>?_⟩;have aq:a≠q:=fun z=>by have:=n1.no;rw[<-z,au]at this;cases this
   have e1:=n1.same _ _ (au (a:=a));refine⟨_,rfl,a,dx,_,rfl,e1,by show 3<1000;decide,?_⟩;refine⟨_,rfl,a,dx,_,rfl,au,by show 4<1000;decide,?_⟩;refine⟨_,rfl,a,dx,_,rfl,au,by show 5<1000;decide,?_⟩;refine⟨_,rfl,a,dx,_,rfl,au,by show 6<1000;decide,?_⟩;refine⟨_,rfl,a,dx,_,rfl,au,by show 7<1000;decide,?_⟩;refine⟨_,rfl,a,dx,_,rfl,au,by show 8<1000;decide,?_⟩;have key:∀X:Hp,(∀b,b≠a->X b=H1 b)->Q .cG (L2.upd X a (.ins C dx (jW mv pv' (.int 0) (.ref q) (.ref aN) (.int 100) (.str "up") (.str "") .cG))):=by
    intro X hX;have bt:dZ [a] H (L2.upd X a (.ins C dx (jW mv pv' (.int 0) (.ref q) (.ref aN) (.int 100) (.str "up") (.str "") .cG))):=fun b o eb hb=>by have ha:b≠a:=fun z=>hb (by rw[z];exact .head _);rw[aj ha,hX b ha];exact n1.same _ _ (by rw[aj ha,aj ha,aj ha];exact eb)
    have sv:=bt.v fun x hx o eo=>by rw[List.mem_singleton]at hx;rw[hx,e]at eo;cases eo;trivial
    refine k q _ ⟨⟨dx,mv,pv',.ref aN,.cG,au,RD.v sv _ (cm _ _ _ _ _) rm,RD.v sv _ (cT _) rp,jw (sqN _),rfl⟩,[],?_,ba⟩ ?_ bt
    ·rw[aj aq.symm,hX q aq.symm];exact n1.at'
    · have:=n1.no
      rw[aj aq.symm,aj aq.symm,aj aq.symm]at this;exact this
   exact key _ (fun b hb=>by rw[aj hb,aj hb,aj hb,aj hb,aj hb])
theorem Jo{M:dC}{pl:List Int}(hp:pl.length=M.rs.length):eR M 64 (yO pl):=⟨.nil,fun i d e=>by simp[yO]at e,by simp[yO],(show(10:Int)<=100 by decide),(show(100:Int)<=200 by decide),.inl rfl,hp,⟨(show(0:Rat)<=0 by decide),(show(0:Rat).den<2^74 by decide+kernel)⟩,(show(0:Rat)<=1600 by decide+kernel),trivial,by decide,by decide⟩
theorem ED{rs pl:List Int}(h:pI rs pl):Ed rs (jL pl)=true:=by show((pl.map PyData.int).length==rs.length&&(((pl.map PyData.int).zip rs).map fun p=>kD 0 p.2 p.1).all id)=true;rw[List.length_map,h.len,beq_self_eq_true,Bool.true_and,List.all_eq_true];intro b hb;obtain⟨⟨d,r⟩,hm,rfl⟩:=List.mem_map.mp hb;obtain⟨i,hi⟩:=List.mem_iff_getElem?.mp hm;obtain⟨e1,e2⟩:=(List.getElem?_zip_eq_some (z:=(d,r))).mp hi;rw[List.getElem?_map]at e1;cases e:pl[i]? with |none=>rw[e]at e1;cases e1 |some x=>rw[e]at e1;cases e1;obtain⟨a1,a2⟩:=h.at' i x r e e2;show(decide (0<=x)&&decide (x<=r))=true;rw[decide_eq_true a1,decide_eq_true a2];rfl
def kK(S:cJ)(d:PyData)(o:Itm):cJ:={S with ds:=S.ds++[d],os:=S.os++[o]}
theorem eR.JR{M:dC}{D:Nat}{S:cJ}{d:PyData}{o:Itm}(h:eR M D S)(it:uH M.rs.length d o)(hl:S.ds.length<20):eR M D (kK S d o):=by
 have ll:=h.row.len;refine⟨h.row.snoc it.it it.ln,RowW.snoc h.rw ll it.ot,by show(S.ds++[d]).length<=20;rw[List.length_append];show _+1<=20;omega,h.rt1,h.rt2,?_,h.pl,h.pd,h.pm,h.stp,h.D1,h.D2⟩;rcases h.dn with e|⟨ns,sp,e,e2⟩
 ·exact .inl e
 · refine .inr ⟨ns,sp,?_,e2⟩
   show(S.os++[o])[0]? =_;rw[List.getElem?_append_left (List.getElem?_eq_some_iff.mp e).1];exact e
abbrev EE:Stmt:=inClass (top 62) 11
theorem C5:aH ["self","item"] ["self","item"] (ao EE):=⟨rfl,rfl,rfl,by decide+kernel,rfl,by decide+kernel,by decide+kernel⟩
inductive yQ(K:PySem.W.Frag)(C:Addr)(vs:List V)(H:Hp)(Q:VK):Prop |mk (a:_)(q:_)(M:_)(D:_)(S:_)(v:_)(d:_)(o:_)(h0:vs=[.ref a,v])(h1:bL K C H a q M S)(h2:eR M D S)(h3:M.Ok)(h4:RD K H v d)(h5:uH M.rs.length d o)(h6:pI M.rs (gy (bP S) o))(h7:S.ds.length<20)(h8:∀H',bL K C H' a q M (kK S d o)->dZ [a,q] H H'->Q (.int (S.ds.length+1:Nat)) H'):yQ K C vs H Q
def C6(K:PySem.W.Frag)(C:Addr):Sp:=fun vs H Q _=>yQ K C vs H Q
theorem EF{C:Addr}(F:MA K C "feed" "Runner.feed" EE)(TC:fH K C)(B:dv mg)(h_MOST_WAITING:GV mg "MOST_WAITING" (.int 20))(his_item:aw P w K mg base "is_item" 4 (yI K))(his_place:aw P w K mg base "is_place" 3 (yK K))(hplace_behind:aw P w K mg base "place_behind" 2 (ox K))(hR_leads_to:bN P w K mg base C "leads_to" 3 (cE K C fun _ S H Q=>∀v H',RD K H' v (jL (bP S))->aI H H'->Q v H')):bN P w K mg base C "feed" 5 (C6 K C):=by
 refine F.has C5 (fun vs H Q E h=>?_) (fun _ _ _ _ _ _ us hl=>match us,hl with|[_,_],_=>rfl) (fun f cdv A outer s H vs Q E hr h=>?_)
 · obtain⟨a,q,M,D,S,v,d,o,rfl,_⟩:=h
   rfl
 · obtain⟨a,q,M,D,S,v,d,o,rfl,R,ok,okm,rd,it,onr,hl,k⟩:=h
   obtain⟨dx,mv,bv,pcv,tv,e,r1,r2,r3,r4⟩:=R.ob;obtain⟨ys,eq,rq⟩:=R.qu;have nd:=C5.nd;have lr:=okm.len;have ly:=rq.length;obtain⟨i1,i2,i3⟩:=it.is;refine⟨_,(ag (aR (cf (bh (aE his_item (hr.mono (by decide)) rfl (aa (bO TC.cl TC.n_machine (pv 0)) (aa (pv 1) af))))) (ai fU) aL) (ag (aR (cf (bh (aE his_place (hr.mono (by decide)) rfl (aa (bO TC.cl TC.n_machine (pv 0)) (aa (aE hplace_behind (hr.mono (by decide)) rfl (aa (dP hR_leads_to TC.cl (hr.mono (by decide)) (pv 0)) (aa (pv 1) af))) af))))) (ai fU) aL) (ag (aR (aO vf (ak (x:="len") (dw K rfl) rfl (B.at "len") PySem.boot_len (aa (bO TC.cl TC.n_queue (pv 0)) af)) (eg (x:="MOST_WAITING") rfl h_MOST_WAITING) (aK _)) (ai fU) aL) (ag (cj (fA K rfl (bO TC.cl TC.n_queue (pv 0)) (aa (pv 1) af))) (ai (aB (ak (x:="len") (dw K rfl) rfl (B.at "len") PySem.boot_len (aa (bO TC.cl TC.n_queue (pv 0)) af)))))))),?_⟩;refine⟨_,rfl,a,dx,_,_,rfl,e,rfl,_,rfl,mv,v,M.rs,_,d,rfl,r1,rd,by omega,i2,i3,fun H1 s1=>⟨_,rfl,?_⟩⟩;rw[i1];refine bw ?_;have e1:=s1 _ _ e;have R1:=R.same ok.row.no s1;refine⟨_,rfl,a,dx,_,_,rfl,e1,rfl,?_⟩;refine⟨_,rfl,a,dx,_,rfl,e1,rfl,a,q,M,D,S,rfl,R1,ok,okm,fun g H2 rg s2=>?_⟩;have s12:=s1.trans s2;have gl:(bP S).length=M.rs.length:=j4 _ _ ok.pl ok.FF;refine⟨_,rfl,g,v,bP S,d,o,rfl,rg,RD.mono s12 _ rd,it.it,fun ns sp e'=>by rw[gl];exact(it.ln ns sp e').1.len,by omega,fun u H3 ru s3=>?_⟩;have s13:=s12.trans s3;refine⟨mv,u,M.rs,_,_,rfl,RD.mono s13 _ r1,ru,by omega,fun H4 s4=>⟨_,rfl,?_⟩⟩;rw[ED onr];refine bw ?_;have s14:=s13.trans s4;have e4:=s14 _ _ e;have eq4:=s14 _ _ eq;refine⟨_,rfl,a,dx,_,_,rfl,e4,rfl,q,_,rfl,.inl (bc.of eq4),_,_,rfl,rfl,_,rfl,?_⟩;rw[show decide ((ys.length:Int)>=20)=false from decide_eq_false (by omega)];refine bw ?_;have h24:sizeLine=16777216:=by decide
   refine⟨_,rfl,a,dx,_,_,rfl,e4,rfl,.inl ⟨rfl,_,bc.of eq4⟩,_,rfl,q,ys,_,rfl,rfl,eq4,by omega,?_⟩;have aq:=R.ne;have tu:aW H4 (L2.upd H4 q (.lst (ys++[v]))):=.upd eq4 trivial;have e5:(L2.upd H4 q (.lst (ys++[v]))) a=some (.ins C dx (jW mv bv (.int S.dn) (.ref q) pcv (.int S.rate) (.str S.side) (.str S.mark) tv)):=by rw[aj aq];exact e4
   refine⟨_,rfl,a,dx,_,_,rfl,e5,rfl,q,_,rfl,.inl (bc.of au),?_⟩;have sv:aW H (L2.upd H4 q (.lst (ys++[v]))):=s14.v.trans tu;have el:((ys++[v]).length:Int)=((S.ds.length+1:Nat):Int):=by rw[List.length_append,ly];rfl
   rw[el];refine k _ ⟨⟨dx,mv,bv,pcv,tv,e5,RD.v sv _ (cm _ _ _ _ _) r1,RD.v sv _ (cT _) r2,r3.v sv,r4.v sv⟩,_,au,?_⟩ fun b o' eb hb=>?_
   ·exact(bj.v sv _ ok.row.no rq).append (aP (RD.v sv _ it.it.no rd) ba)
   · have hb':b≠q:=fun z=>hb (by rw[z];simp)
     rw[aj hb'];exact s14 _ _ eb
end
end Lw
namespace Lw
open PySem PySem.Spec PyProof.Rows L2 Rt Ln Cn Pn Wk Rn
open Ow (topR cornO mnO betR atO ownF leadF ownL OkI OkIs)
section
variable {P:Program}{w:World}{K:PySem.W.Frag}{mg:Str->Option Value}{base:Heap}
def iC(S:cJ):cJ:=match S.os with |o::os=>{S with pl:=gy S.pl o,ds:=S.ds.tail,os:=os,dn:=0} |[]=>S
theorem dM.tail{n:Nat}{d:PyData}{ds:List PyData}{o:Itm}{os:List Itm}(h:dM n (d::ds) (o::os)):dM n ds os:=⟨by have:=h.len;simpa using this,fun i d' o' e1 e2=>h.it (i+1) d' o' (by simpa using e1) (by simpa using e2),fun i ns sp e=>h.ok (i+1) ns sp (by simpa using e)⟩
theorem RowW.tail{d:PyData}{ds:List PyData}{o:Itm}{os:List Itm}(h:RowW (d::ds) (o::os)):RowW ds os:=fun i d' e1 e2=>h (i+1) d' (by simpa using e1) (by simpa using e2)
structure j5(M:dC)(D:Nat)(S:cJ):Prop where
 row:dM M.rs.length S.ds S.os
 rw:RowW S.ds S.os
 len:S.ds.length<=20
 rt1:10<=S.rate
 rt2:S.rate<=200
 pl:S.pl.length=M.rs.length
 pd:Dd (D+10) S.pc
 pm:S.pc<=1600
 stp:jG D S.pc S.stp
 D1:64<=D
 D2:D<=1500
theorem eR.raw{M:dC}{D:Nat}{S:cJ}(h:eR M D S):j5 M D S:=⟨h.row,h.rw,h.len,h.rt1,h.rt2,h.pl,h.pd,h.pm,h.stp,h.D1,h.D2⟩
theorem j5.ok{M:dC}{D:Nat}{S:cJ}(h:j5 M D S)(hd:S.dn=0\/∃ns sp,S.os[0]? =some (some (ns,sp))/\S.dn<ay ns):eR M D S:=⟨h.row,h.rw,h.len,h.rt1,h.rt2,hd,h.pl,h.pd,h.pm,h.stp,h.D1,h.D2⟩
theorem j5.end{M:dC}{D:Nat}{S:cJ}(h:j5 M D S)(hn:S.os≠[]):eR M D (iC S):=by obtain⟨pl,dn,ds,os,pc,rate,side,mark,stp⟩:=S;cases os with |nil=>exact(hn rfl).elim |cons o os=>have ll:=h.row.len;cases ds with |nil=>simp at ll |cons d ds=>
     refine⟨h.row.tail,h.rw.tail,?_,h.rt1,h.rt2,.inl rfl,?_,h.pd,h.pm,h.stp,h.D1,h.D2⟩
     · have:=h.len
       simp only[List.length_cons]at this;show ds.length<=20;omega
     ·exact mL h.pl fun ns sp e=>(h.row.ok 0 ns sp (by rw[<-e];rfl)).1.len
theorem AI(xs:List V):ko xs (some 1) none=xs.drop 1:=kE xs
abbrev EG:Stmt:=inClass (top 62) 16
theorem C7:aH ["self"] ["self"] (ao EG):=⟨rfl,rfl,rfl,by decide+kernel,rfl,by decide+kernel,by decide+kernel⟩
inductive yR(K:PySem.W.Frag)(C:Addr)(vs:List V)(H:Hp)(Q:VK):Prop |mk (a:_)(q:_)(M:_)(D:_)(S:_)(h0:vs=[.ref a])(h1:bL K C H a q M S)(h2:j5 M D S)(h3:M.Ok)(h4:S.os≠[])(h5:∀q' H',bL K C H' a q' M (iC S)->H q'=none->dZ [a] H H'->Q .cG H'):yR K C vs H Q
def yS(K:PySem.W.Frag)(C:Addr):Sp:=fun vs H Q _=>yR K C vs H Q
theorem EH{C:Addr}(F:MA K C "end_first" "Runner.end_first" EG)(TC:fH K C)(hplace_behind:aw P w K mg base "place_behind" 2 (ox K)):bN P w K mg base C "end_first" 3 (yS K C):=by
 refine F.has C7 (fun vs H Q E h=>?_) (fun _ _ _ _ _ _ us hl=>match us,hl with|[_],_=>rfl) (fun f cdv A outer s H vs Q E hr h=>?_)
 · obtain⟨a,q,M,D,S,rfl,_⟩:=h
   rfl
 · obtain⟨a,q,M,D,S,rfl,R,ok,okm,hn,k⟩:=h
   obtain⟨dx,mv,bv,pcv,tv,e,r1,r2,r3,r4⟩:=R.ob;obtain⟨ys,eq,rq⟩:=R.qu;have aq:=R.ne;have nd:=C7.nd;have lr:=okm.len;have ll:=ok.row.len;refine⟨_,(ag (eV TC.cl TC.n_begun_at (pv 0) (aE hplace_behind (hr.mono (by decide)) rfl (aa (bO TC.cl TC.n_begun_at (pv 0)) (aa (aM (cw K rfl) (bO TC.cl TC.n_queue (pv 0)) ah (fun _ _=>rfl)) af)))) (ag (eV TC.cl TC.n_queue (pv 0) (kn (IW K rfl) (bO TC.cl TC.n_queue (pv 0)) (m8 ah) m7)) (ai (eV TC.cl TC.n_done (pv 0) ah)))),?_⟩;obtain⟨pl,dn,ds,os,pc,rate,side,mark,stp⟩:=S;cases os with |nil=>exact(hn rfl).elim |cons o os=>cases ds with |nil=>simp at ll |cons d ds=>
       obtain⟨y,yr,rfl,ry,rr⟩:=rq.cons_inv;have it:itR d o:=ok.row.it 0 d o rfl rfl;have lp:pl.length=M.rs.length:=ok.pl;refine⟨_,rfl,a,dx,_,_,rfl,e,rfl,?_⟩;refine⟨_,rfl,a,dx,_,_,rfl,e,rfl,.inl ⟨q,_,0,y,rfl,rfl,bc.of eq,bB (Int.le_refl 0) rfl,?_⟩⟩;refine⟨bv,y,pl,d,o,rfl,r2,ry,it,fun ns sp e'=>by rw[lp];exact(ok.row.ok 0 ns sp (by rw[<-e'];rfl)).1.len,by omega,fun u H1 ru s1=>?_⟩;have e1:=s1 _ _ e;refine⟨_,rfl,a,dx,_,rfl,e1,by show 9<1000;decide,?_⟩;have eq1:(L2.upd H1 a (.ins C dx (jW mv u (.int dn) (.ref q) pcv (.int rate) (.str side) (.str mark) tv))) q=some (.lst (y::yr)):=by rw[aj aq.symm];exact s1 _ _ eq
       refine⟨_,rfl,a,dx,_,_,rfl,au,rfl,_,rfl,q,_,rfl,.inl ⟨bc.of eq1,fun q' H2 n2=>?_⟩⟩;have e2:=n2.same _ _ (au (a:=a));refine⟨_,rfl,a,dx,_,rfl,e2,by show 9<1000;decide,?_⟩;refine⟨_,rfl,a,dx,_,rfl,au,by show 9<1000;decide,?_⟩;have aq':a≠q':=fun z=>by have:=n2.no;rw[<-z,au]at this;cases this
       have key:∀X:Hp,(∀b,b≠a->X b=H2 b)->Q .cG (L2.upd X a (.ins C dx (jW mv u (.int 0) (.ref q') pcv (.int rate) (.str side) (.str mark) tv))):=by
        intro X hX;have bt:dZ [a] H (L2.upd X a (.ins C dx (jW mv u (.int 0) (.ref q') pcv (.int rate) (.str side) (.str mark) tv))):=fun b o' eb hb=>by have ha:b≠a:=fun z=>hb (by rw[z];exact .head _);rw[aj ha,hX b ha];exact n2.same _ _ (by rw[aj ha];exact s1 _ _ eb)
        have sv:=bt.v fun x hx o' eo=>by rw[List.mem_singleton]at hx;rw[hx,e]at eo;cases eo;trivial
        have sv1:aW H1 (L2.upd X a (.ins C dx (jW mv u (.int 0) (.ref q') pcv (.int rate) (.str side) (.str mark) tv))):=fun b o' nb eb=>by
         have ha:b≠a:=fun z=>by rw[z,e1]at eb;cases eb;exact nb trivial
         rw[aj ha,hX b ha];exact n2.same _ _ (by rw[aj ha];exact eb)
        have hq':=n2.at';rw[AI]at hq';refine k q' _ ⟨⟨dx,mv,u,pcv,tv,au,RD.v sv _ (cm _ _ _ _ _) r1,RD.v sv1 _ (cT _) ru,r3.v sv,r4.v sv⟩,yr,?_,?_⟩ ?_ bt
        ·rw[aj aq'.symm,hX q' aq'.symm];exact hq'
        ·exact bj.v sv _ ok.row.tail.no rr
        ·cases e':H q' with |none=>rfl |some o'=>have h1:=s1 _ _ e';have h2:=n2.no;rw[aj aq'.symm,h1]at h2;cases h2
       exact key _ (fun b hb=>by rw[aj hb])
theorem JS{x y z u q:Rat}(h:q=x\/q=y\/q=z\/q=u)(h1:q<=x)(h2:q<=y)(h3:q<=z)(h4:q<=u):mn (mn (mn x y) z) u=q:=by
 refine Rat.le_antisymm ?_ (g9 (g9 (g9 h1 h2) h3) h4);rcases h with h|h|h|h
 ·rw[h];exact Rat.le_trans (bW _ _) (Rat.le_trans (bW _ _) (bW _ _))
 ·rw[h];exact Rat.le_trans (bW _ _) (Rat.le_trans (bW _ _) (cY _ _))
 ·rw[h];exact Rat.le_trans (bW _ _) (cY _ _)
 ·rw[h];exact cY _ _
theorem mM{H:Hp}{Q:VK}{l:Addr}{u1 u2 u3:V}{x y z:Rat}(dl:H l=some (.lst [u1,u2,u3]))(R1:aY K H u1 x)(R2:aY K H u2 y)(R3:aY K H u3 z)(b1:Bd 2000 x)(b2:Bd 2000 y)(b3:Bd 2000 z)(k:∀v,aY K H v (mn (mn x y) z)->Q v H):cQ K [.ref l] H Q E0:=by
 refine⟨l,[u1,u2,u3],[x,y,z],rfl,bc.of dl,⟨R1,b1,R2,b2,R3,b3,trivial⟩,by simp,fun c v q e1 e2 hq=>k v ?_⟩;have e:mn (mn x y) z=q:=by
  refine JN ?_ (hq _ (by simp)) (hq _ (by simp)) (hq _ (by simp))
  match c,e2 with |0,e2=>cases e2;exact .inl rfl |1,e2=>cases e2;exact .inr (.inl rfl) |2,e2=>cases e2;exact .inr (.inr rfl)
 rw[e]
 match c,e1,e2 with |0,e1,e2=>cases e1;cases e2;exact R1 |1,e1,e2=>cases e1;cases e2;exact R2 |2,e1,e2=>cases e1;cases e2;exact R3
theorem mN{H:Hp}{Q:VK}{l:Addr}{u1 u2 u3 u4:V}{x y z t:Rat}(dl:H l=some (.lst [u1,u2,u3,u4]))(R1:aY K H u1 x)(R2:aY K H u2 y)(R3:aY K H u3 z)(R4:aY K H u4 t)(b1:Bd 2000 x)(b2:Bd 2000 y)(b3:Bd 2000 z)(b4:Bd 2000 t)(k:∀v,aY K H v (mn (mn (mn x y) z) t)->Q v H):cQ K [.ref l] H Q E0:=by
 refine⟨l,[u1,u2,u3,u4],[x,y,z,t],rfl,bc.of dl,⟨R1,b1,R2,b2,R3,b3,R4,b4,trivial⟩,by simp,fun c v q e1 e2 hq=>k v ?_⟩;have e:mn (mn (mn x y) z) t=q:=by
  refine JS ?_ (hq _ (by simp)) (hq _ (by simp)) (hq _ (by simp)) (hq _ (by simp))
  match c,e2 with |0,e2=>cases e2;exact .inl rfl |1,e2=>cases e2;exact .inr (.inl rfl) |2,e2=>cases e2;exact .inr (.inr (.inl rfl)) |3,e2=>cases e2;exact .inr (.inr (.inr rfl))
 rw[e]
 match c,e1,e2 with |0,e1,e2=>cases e1;cases e2;exact R1 |1,e1,e2=>cases e1;cases e2;exact R2 |2,e1,e2=>cases e1;cases e2;exact R3 |3,e1,e2=>cases e1;cases e2;exact R4
theorem oz{D:Nat}{q:Rat}{z:Int}(h:Dd D q)(hl:q<=1600)(hz:0<=z)(hz2:z<2^24)(hD:D<=1700):Bd 2000 (q+(z:Rat)):=by have b:Bd (D+11) q:=h.bd (Rat.le_trans hl (by decide+kernel));exact(mz b (by omega)).mono (by omega)
abbrev EI:Stmt:=inClass (top 62) 15
theorem C8:aH ["self","top","reach","left","rise","fall","middles","ends","square","steps","gone","still"] ["self","top","reach","left"] (ao EI):=⟨rfl,rfl,rfl,by decide+kernel,rfl,by decide+kernel,by decide+kernel⟩
def Jp(M:dC)(S:cJ)(top R:Rat)(left:Int):cJ:={S with pc:=iV M.r M.f S.pc top R left S.stp,stp:=rC S.stp}
inductive yT(K:PySem.W.Frag)(C:Addr)(vs:List V)(H:Hp)(Q:VK):Prop |mk (a:_)(q:_)(M:_)(D:_)(S:_)(tv:_)(Rv:_)(top:_)(R:_)(left:_)(h0:vs=[.ref a,tv,Rv,.int left])(h1:bL K C H a q M S)(h2:eR M D S)(h3:M.Ok)(h4:aY K H tv top)(h5:Dd 14 top)(h6:top<=1600)(h7:aY K H Rv R)(h8:Dd 64 R)(h9:R<=1600)(h10:1<=left)(h11:left<=100)(h12:¬Halt S.pc S.stp)(h13:∀v H',aY K H' v (gA M.r M.f S.pc top R left S.stp)->bL K C H' a q M (Jp M S top R left)->dZ [a] H H'->Q v H'):yT K C vs H Q
def C9(K:PySem.W.Frag)(C:Addr):Sp:=fun vs H Q _=>yT K C vs H Q
theorem EJ{C:Addr}(F:MA K C "next_square" "Runner.next_square" EI)(TC:fH K C)(hplus_whole:aw P w K mg base "plus_whole" 4 (Ax K))(htimes:aw P w K mg base "times" 3 (kT (·*·) K))(hfraction:aw P w K mg base "fraction" 3 (uB K))(hleast:aw P w K mg base "least" 2 (cQ K))(hR_is_held:bN P w K mg base C "is_held" 1 (cE K C fun _ S H Q=>Q (.bl S.stp.isSome) H)):bN P w K mg base C "next_square" 5 (C9 K C):=by
 refine F.has C8 (fun vs H Q E h=>?_) (fun _ _ _ _ _ _ us hl=>match us,hl with|[_,_,_,_],_=>rfl) (fun f cdv A outer s H vs Q E hr h=>?_)
 · obtain⟨a,q,M,D,S,tv,Rv,top,R,left,rfl,_⟩:=h
   rfl
 · obtain⟨a,q,M,D,S,tv,Rv,top,R,left,rfl,R0,ok,okm,rt,td,tl,rR,Rd,Rl,l1,l2,nh,k⟩:=h
   obtain⟨dx,mv,bv,pcv,sv,e,r1,r2,r3,r4⟩:=R0.ob;obtain⟨ys,eq,rq⟩:=R0.qu;have aq:=R0.ne;have nd:=C8.nd;have r50:=okm.r1;have f50:=okm.f1;have D1:=ok.D1;have D2:=ok.D2;have h24:(2:Int)^24=16777216:=by decide
   obtain⟨ma,mb,rfl,hma,hmb⟩:=cI r1;refine⟨_,(ag (fR (i:=4) (j:=5) rfl nd rfl rfl (by decide) rfl rfl (aa (aM (cw K rfl) (bO TC.cl TC.n_machine (pv 0)) ah (fun _ _=>rfl)) (aa (aM (cw K rfl) (bO TC.cl TC.n_machine (pv 0)) ah (fun _ _=>rfl)) af)) rfl) (ag (aF (i:=6) nd rfl (Or.inl rfl) (bE (aa (aE hplus_whole (hr.mono (by decide)) rfl (aa (bO TC.cl TC.n_pace (pv 0)) (aa (pv 4) af))) (aa (pv 1) (aa (aE hplus_whole (hr.mono (by decide)) rfl (aa (pv 2) (aa (az aG (pv 5) (az cB (az aG ah (pv 3)) ah)) af))) af))))) (ag (aF (i:=7) nd rfl (Or.inl rfl) (bE (aa (aE hplus_whole (hr.mono (by decide)) rfl (aa (bO TC.cl TC.n_pace (pv 0)) (aa (az aG ah (pv 4)) af))) (aa (pv 1) (aa (aE hplus_whole (hr.mono (by decide)) rfl (aa (pv 2) (aa (az aG (az aG ah (pv 5)) (az cB (pv 3) ah)) af))) af))))) (ag (cL (aR (bh (dP hR_is_held TC.cl (hr.mono (by decide)) (pv 0))) (ag (cx (bO TC.cl TC.n_stopping (pv 0)) (gD K rfl (n:=3) rfl (aD (aA (i:=8) nd rfl (Or.inl rfl)) (aD (aA (i:=9) nd rfl (Or.inl rfl)) (aD (aA (i:=10) nd rfl (Or.inl rfl)) aZ))))) (ag (aF (i:=11) nd rfl (Or.inl rfl) (az cB (az cB (pv 9) (pv 10)) ah)) (ag (cj (fA K rfl (pv 6) (aa (aE htimes (hr.mono (by decide)) rfl (aa (pv 8) (aa (aE hfraction (hr.mono (by decide)) rfl (aa (az bo (az aG ah (pv 11)) ah) (aa (az aG ah (pv 9)) af))) af))) af))) (ag (cj (fA K rfl (pv 7) (aa (aE htimes (hr.mono (by decide)) rfl (aa (pv 8) (aa (aE hfraction (hr.mono (by decide)) rfl (aa (pv 11) (aa (pv 9) af))) af))) af))) (ai (eV TC.cl TC.n_stopping (pv 0) (bF (aa (pv 8) (aa (pv 9) (aa (az bo (pv 10) ah) af)))))))))) aL)) (ag (eV TC.cl TC.n_pace (pv 0) (aE hleast (hr.mono (by decide)) rfl (aa (pv 7) af))) (ai (aB (aE hleast (hr.mono (by decide)) rfl (aa (pv 6) af))))))))),?_⟩;refine⟨_,rfl,a,dx,_,_,rfl,e,rfl,.inr ⟨ma,_,1,.int M.r,rfl,rfl,hma,rfl,?_⟩⟩;refine⟨_,rfl,a,dx,_,_,rfl,e,rfl,.inr ⟨ma,_,2,.int M.f,rfl,rfl,hma,rfl,_,_,rfl,?_⟩⟩;have fl1:(M.f*(2*left-1)).natAbs<=50*200:=by rw[Int.natAbs_mul];exact Nat.mul_le_mul (by omega) (by omega)
   have fl1':0<=M.f*(2*left-1):=Int.mul_nonneg (by omega) (by omega);have fl2:(2*M.f*(left-1)).natAbs<=100*100:=by rw[Int.natAbs_mul];exact Nat.mul_le_mul (by omega) (by omega)
   have fl2':0<=2*M.f*(left-1):=Int.mul_nonneg (by omega) (by omega);have pcB:Bd 2000 S.pc:=(ok.pd.bd (Rat.le_trans ok.pm (by decide+kernel))).mono (by omega);have RB:Bd 2000 R:=(Rd.bd (Rat.le_trans Rl (by decide+kernel))).mono (by decide);have tB:Bd 2000 top:=(td.bd (Rat.le_trans tl (by decide+kernel))).mono (by decide);have B1:Bd 2000 (S.pc+(M.r:Rat)):=oz ok.pd ok.pm (by omega) (by omega) (by omega);have B2:Bd 2000 (R+((M.f*(2*left-1):Int):Rat)):=oz Rd Rl fl1' (by omega) (by omega);have B3:Bd 2000 (S.pc+((2*M.r:Int):Rat)):=oz ok.pd ok.pm (by omega) (by omega) (by omega);have B4:Bd 2000 (R+((2*M.f*(left-1):Int):Rat)):=oz Rd Rl fl2' (by omega) (by omega);refine⟨_,rfl,a,dx,_,_,rfl,e,rfl,_,rfl,pcv,_,_,rfl,r3,pcB,by omega,fun u1 H1 ru1 s1=>?_⟩;refine⟨_,rfl,_,rfl,_,rfl,_,rfl,_,_,rfl,rfl,.of_left (intBits_le_64 (by decide) (by decide)),_,_,rfl,rfl,_,_,rfl,rfl,.of_left (intBits_le_64 (by omega) (by omega)),Rv,_,_,rfl,rR.go s1,RB,by omega,fun u2 H2 ru2 s2=>?_⟩;refine⟨aQ _ (Nat.le_of_ble_eq_true rfl),fun lm H3 n3=>?_⟩;have s13:=s1.trans (s2.trans n3.same);refine⟨_,rfl,a,dx,_,_,rfl,s13 _ _ e,rfl,_,rfl,_,_,rfl,rfl,.of_left (intBits_le_64 (by decide) (by decide)),pcv,_,_,rfl,r3.go s13,pcB,by omega,fun u3 H4 ru3 s4=>?_⟩;have s14:=s13.trans s4;refine⟨_,rfl,_,rfl,_,rfl,_,_,rfl,rfl,.of_left (intBits_le_64 (by decide) (by decide)),_,rfl,_,_,rfl,rfl,_,_,rfl,rfl,.of_left (intBits_le_64 (by omega) (by omega)),Rv,_,_,rfl,rR.go s14,RB,by omega,fun u4 H5 ru4 s5=>?_⟩;refine⟨aQ _ (Nat.le_of_ble_eq_true rfl),fun le H6 n6=>?_⟩;have s16:=s14.trans (s5.trans n6.same);have s36:=s4.trans (s5.trans n6.same);have e6:=s16 _ _ e;have R6:=R0.same ok.row.no s16;have U1:=ru1.go (s2.trans (n3.same.trans s36));have U2:=ru2.go (n3.same.trans s36);have U3:=ru3.go (s5.trans n6.same);have U4:=ru4.go n6.same;have T6:=rt.go s16;have dm:=s36 _ _ n3.at';have de:=n6.at';have alm:a≠lm:=fun z=>by have:=n3.no;rw[<-z,(s1.trans s2) _ _ e]at this;cases this
   have ale:a≠le:=fun z=>by have:=n6.no;rw[<-z,(s14.trans s5) _ _ e]at this;cases this
   have lml:lm≠le:=fun z=>by have:=n6.no;rw[<-z,(s4.trans s5) _ _ n3.at']at this;cases this
   have nlm:H lm=none:=by cases e':H lm with |none=>rfl |some o=>have:=(s1.trans s2) _ _ e';rw[n3.no]at this;cases this
   have nle:H le=none:=by cases e':H le with |none=>rfl |some o=>have:=(s14.trans s5) _ _ e';rw[n6.no]at this;cases this
   refine⟨fun σ H7=>∃sv' w8 w9 w10 w11 um ue,σ=[some (.ref a),some tv,some Rv,some (.int left),some (.int M.r),some (.int M.f),some (.ref lm),some (.ref le),w8,w9,w10,w11]/\dZ [a,lm,le] H6 H7/\H7 a=some (.ins C dx (jW (.ref ma) bv (.int S.dn) (.ref q) pcv (.int S.rate) (.str S.side) (.str S.mark) sv'))/\uG K H7 sv' (rC S.stp)/\H7 lm=some (.lst um)/\H7 le=some (.lst ue)/\(∀H8 Q',aW H7 H8->H8 lm=some (.lst um)->(∀v,aY K H8 v (gA M.r M.f S.pc top R left S.stp)->Q' v H8)->cQ K [.ref lm] H8 Q' E0)/\(∀H8 Q',aW H7 H8->H8 le=some (.lst ue)->(∀v,aY K H8 v (iV M.r M.f S.pc top R left S.stp)->Q' v H8)->cQ K [.ref le] H8 Q' E0),?_,?_⟩
   · refine⟨_,rfl,a,dx,_,rfl,e6,rfl,a,q,M,D,S,rfl,R6,ok,okm,_,rfl,?_⟩
     cases hs:S.stp with |none=>rw[hs]at r4;refine bw ⟨sv,_,_,_,_,_,_,rfl,dZ.refl _ _,e6,r4,dm,de,fun H8 Q' sV d8 kq=>mM d8 (U1.v sV) (T6.v sV) (U2.v sV) B1 tB B2 kq,fun H8 Q' sV d8 kq=>mM d8 (U3.v sV) (T6.v sV) (U4.v sV) B3 tB B4 kq⟩ |some z=>
       obtain⟨sq,st,gn⟩:=z;rw[hs]at r4;have sk:=ok.stp;rw[hs]at sk nh;obtain⟨g1,g2,g3⟩:=gb sk ok.pd.nn nh;obtain⟨gn0,gn1,st1,sqd,sql,_,_⟩:=sk;obtain⟨ta,su,rfl,hta,hsu⟩:=r4;refine bK ?_;have hta6:=hta.go s16;have hsu6:=hsu.go s16;have sqB:Bd 2000 sq:=(sqd.bd sql).mono (by omega);refine⟨_,rfl,a,dx,_,_,rfl,e6,rfl,ta,_,rfl,hta6,rfl,_,_,rfl,_,_,rfl,_,_,rfl,rfl,?_⟩;refine⟨_,rfl,_,rfl,_,_,rfl,rfl,_,_,rfl,rfl,?_⟩;have h24:sizeLine=16777216:=by decide
       refine⟨_,rfl,.inl ⟨rfl,_,bc.of dm⟩,_,rfl,_,rfl,_,_,rfl,rfl,.of_left (intBits_le_64 (by decide) (by decide)),_,_,rfl,rfl,_,rfl,_,_,rfl,rfl,.of_left (intBits_le_64 (by decide) (by decide)),_,_,rfl,by omega,lP (n:=64) (by omega) (by decide),fun fv H7 rf s7=>?_⟩;have fB:Bd 2000 (Rat.divInt (2*(st-gn-1)+1) (2*st)):=(eG (n:=12) (by omega) (by omega) (by omega)).mono (by decide);have fB2:Bd 2000 (Rat.divInt (st-gn-1) st):=(eG (n:=12) (by omega) (by omega) (by omega)).mono (by decide);have pB:Bd 2000 (sq*Rat.divInt (2*(st-gn-1)+1) (2*st)):=((sqd.bd sql).mul (eG (n:=12) (by omega) (by omega) (by omega))).mono (by omega);have pB2:Bd 2000 (sq*Rat.divInt (st-gn-1) st):=((sqd.bd sql).mul (eG (n:=12) (by omega) (by omega) (by omega))).mono (by omega);refine⟨su,fv,sq,_,rfl,hsu6.go s7,rf,sqB,fB,fun x1 H8 rx1 s8=>?_⟩;have s68:=s7.trans s8;have dm8:=s68 _ _ dm;refine⟨lm,_,_,rfl,rfl,dm8,by show 3<sizeLine;omega,?_⟩;have v8:aW H8 (L2.upd H8 lm (.lst ([u1,tv,u2]++[x1]))):=.upd dm8 trivial;have de8:(L2.upd H8 lm (.lst ([u1,tv,u2]++[x1]))) le=some (.lst [u3,tv,u4]):=by rw[aj lml.symm];exact s68 _ _ de
       refine⟨_,rfl,.inl ⟨rfl,_,bc.of de8⟩,_,rfl,_,rfl,_,rfl,_,_,rfl,by omega,lP (n:=64) (by omega) (by decide),fun gv H9 rg s9=>?_⟩;refine⟨su,gv,sq,_,rfl,((hsu6.go s68).v v8).go s9,rg,sqB,fB2,fun x2 H10 rx2 s10=>?_⟩;have s810:=s9.trans s10;have de10:=s810 _ _ de8;refine⟨le,_,_,rfl,rfl,de10,by show 3<sizeLine;omega,?_⟩;have v10:aW H10 (L2.upd H10 le (.lst ([u3,tv,u4]++[x2]))):=.upd de10 trivial;refine⟨_,rfl,_,rfl,_,rfl,_,_,rfl,rfl,aQ _ (Nat.le_of_ble_eq_true rfl),fun tn H11 n11=>?_⟩;have v610:aW H6 H10:=(s68.v.trans v8).trans s810.v;have v611:aW H6 H11:=(v610.trans v10).trans n11.same.v;have e8:(L2.upd H8 lm (.lst ([u1,tv,u2]++[x1]))) a=some (.ins C dx (jW (.ref ma) bv (.int S.dn) (.ref q) pcv (.int S.rate) (.str S.side) (.str S.mark) (.ref ta))):=by rw[aj alm];exact s68 _ _ e6
       have e11:H11 a=some (.ins C dx (jW (.ref ma) bv (.int S.dn) (.ref q) pcv (.int S.rate) (.str S.side) (.str S.mark) (.ref ta))):=n11.same _ _ (by rw[aj ale];exact s810 _ _ e8);refine⟨_,rfl,a,dx,_,rfl,e11,by show 9<1000;decide,?_⟩;have v12:aW H11 (L2.upd H11 a (.ins C dx (jW (.ref ma) bv (.int S.dn) (.ref q) pcv (.int S.rate) (.str S.side) (.str S.mark) (.ref tn)))):=.upd e11 trivial;have v612:=v611.trans v12;have v812:=(((v8.trans s810.v).trans v10).trans n11.same.v).trans v12;have v1012:=(v10.trans n11.same.v).trans v12;refine⟨.ref tn,_,_,_,_,[u1,tv,u2,x1],[u3,tv,u4,x2],rfl,fun b o' eb hb=>?_,au,⟨tn,su,rfl,bG.v v12 (bG.of n11.at'),hsu6.v v612⟩,?_,?_,fun H' Q' sV d' kq=>?_,fun H' Q' sV d' kq=>?_⟩
       · have ha:b≠a:=fun z=>hb (by rw[z];simp)
         have hlm:b≠lm:=fun z=>hb (by rw[z];simp);have hle:b≠le:=fun z=>hb (by rw[z];simp);rw[aj ha];exact n11.same _ _ (by rw[aj hle];exact s810 _ _ (by rw[aj hlm];exact s68 _ _ eb))
       · rw[aj alm.symm]
         exact n11.same _ _ (by rw[aj lml];exact s810 _ _ au)
       · rw[aj ale.symm]
         exact n11.same _ _ au
       ·exact mN d' ((U1.v v612).v sV) ((T6.v v612).v sV) ((U2.v v612).v sV) ((rx1.v v812).v sV) B1 tB B2 pB kq
       ·exact mN d' ((U3.v v612).v sV) ((T6.v v612).v sV) ((U4.v v612).v sV) ((rx2.v v1012).v sV) B3 tB B4 pB2 kq
   · rintro σ H7 ⟨sv',w8,w9,w10,w11,um,ue,rfl,bt,e7,st7,dm7,de7,km,ke⟩
     refine⟨_,rfl,?_⟩;dsimp only[ny];refine ke H7 _ .refl de7 fun pe rpe=>?_;refine⟨_,rfl,a,dx,_,rfl,e7,by show 9<1000;decide,?_⟩;have v8:aW H7 (L2.upd H7 a (.ins C dx (jW (.ref ma) bv (.int S.dn) (.ref q) pe (.int S.rate) (.str S.side) (.str S.mark) sv'))):=.upd e7 trivial;refine⟨_,rfl,?_⟩;dsimp only[ny];refine km _ _ v8 (by rw[aj alm.symm];exact dm7) fun v rv=>?_;have bH:dZ [a] H (L2.upd H7 a (.ins C dx (jW (.ref ma) bv (.int S.dn) (.ref q) pe (.int S.rate) (.str S.side) (.str S.mark) sv'))):=fun b o' eb hb=>by
      have ha:b≠a:=fun z=>hb (by rw[z];simp);rw[aj ha];refine bt b o' (s16 _ _ eb) fun hm=>?_;simp only[List.mem_cons,List.not_mem_nil,or_false]at hm;rcases hm with h|h|h
      ·exact ha h
      ·rw[h,nlm]at eb;cases eb
      ·rw[h,nle]at eb;cases eb
     have vH:aW H (L2.upd H7 a (.ins C dx (jW (.ref ma) bv (.int S.dn) (.ref q) pe (.int S.rate) (.str S.side) (.str S.mark) sv'))):=bH.v fun x hx o' eo=>by rw[List.mem_singleton]at hx;rw[hx,e]at eo;cases eo;trivial
     refine k v _ rv ⟨⟨dx,.ref ma,bv,pe,sv',au,RD.v vH _ (cm _ _ _ _ _) r1,RD.v vH _ (cT _) r2,rpe.v v8,st7.v v8⟩,ys,bH _ _ eq (by rw[List.mem_singleton];exact aq.symm),bj.v vH _ ok.row.no rq⟩ bH
end
end Lw
set_option maxHeartbeats 2000000
namespace Lw
open PySem PySem.Spec PyProof.Rows L2 Rt Ln Cn Pn Wk Rn
open Ow (topR cornO mnO betR atO ownF leadF ownL OkI OkIs)
section
variable {P:Program}{w:World}{K:PySem.W.Frag}{mg:Str->Option Value}{base:Heap}
noncomputable def fh(M:dC)(S:cJ):Rat:=yD M.f M.j S.rate S.os
noncomputable def yU(M:dC)(S:cJ)(ns:List Int)(sp:Int):Rat:=gA M.r M.f S.pc (topR S.rate sp) (fh M S) ((ay ns:Int)-S.dn) S.stp
noncomputable def iz(M:dC)(S:cJ)(ns:List Int)(sp:Int):PyData:=j0 M.t (gd ns S.dn) (yU M S ns sp)
noncomputable def fi(M:dC)(S:cJ)(ns:List Int)(sp:Int):cJ:={Jp M S (topR S.rate sp) (fh M S) ((ay ns:Int)-S.dn)with dn:=S.dn+1}
def jI(ns:List Int)(S:cJ):cJ:=if S.dn=ay ns then iC S else S
def bV(d:PyData)(S:cJ):cJ:=match d with | .tuple [.str w,.str s]=>if w="tool" then{S with side:=s}else if w="mark" then{S with mark:=s}else S |_=>S
inductive One(M:dC):cJ->PyData->cJ->Prop |line {S:cJ}{ns:List Int}{sp:Int}:S.os[0]? =some (some (ns,sp))->¬Halt S.pc S.stp->One M S (iz M S ns sp) (jI ns (fi M S ns sp)) |oA {S:cJ}{d:PyData}:S.os[0]? =some none->S.ds[0]? =some d->¬Halt S.pc S.stp->One M S d (iC (bV d S))
inductive Run(M:dC):cJ->List PyData->cJ->Prop |nil (S:cJ):Run M S [] S |cons {S S1 S2:cJ}{e:PyData}{es:List PyData}:One M S e S1->Run M S1 es S2->Run M S (e::es) S2
theorem Run.trans{M:dC}{S S1 S2:cJ}{es fs:List PyData}(h:Run M S es S1)(g:Run M S1 fs S2):Run M S (es++fs) S2:=by induction h with |nil=>exact g |cons o _ ih=>exact .cons o (ih g)
theorem Run.snoc{M:dC}{S S1 S2:cJ}{es:List PyData}{e:PyData}(h:Run M S es S1)(g:One M S1 e S2):Run M S (es++[e]) S2:=h.trans (.cons g (.nil _))
theorem kL{M:dC}{D:Nat}{S:cJ}(h:j5 M D S)(d:PyData):j5 M D (bV d S)/\(bV d S).os=S.os/\(bV d S).ds=S.ds/\(bV d S).dn=S.dn/\(bV d S).pl=S.pl:=by
 unfold bV;split
 · split
   ·exact⟨⟨h.row,h.rw,h.len,h.rt1,h.rt2,h.pl,h.pd,h.pm,h.stp,h.D1,h.D2⟩,rfl,rfl,rfl,rfl⟩
   · split
     ·exact⟨⟨h.row,h.rw,h.len,h.rt1,h.rt2,h.pl,h.pd,h.pm,h.stp,h.D1,h.D2⟩,rfl,rfl,rfl,rfl⟩
     ·exact⟨h,rfl,rfl,rfl,rfl⟩
 ·exact⟨h,rfl,rfl,rfl,rfl⟩
theorem qq{M:dC}{D:Nat}{S:cJ}(h:j5 M D S)(okm:M.Ok)(hn:S.os≠[]):Dd 64 (fh M S)/\fh M S<=1600:=by
 have h1:1<=S.os.length:=by cases e:S.os with|nil=>exact(hn e).elim|cons _ _=>simp
 refine⟨Gz (by have:=okm.f1;omega) (fun i _=>DK okm.j1.1 okm.j1.2 h.rt1 h.rt2 h.row.FD i) 1 h1,?_⟩;exact Rat.le_trans (Gx h1) (DM h.rt1 h.rt2 h.row.FD 1)
theorem oB{M:dC}{D:Nat}{S:cJ}{ns:List Int}{sp:Int}(h:j5 M D S)(okm:M.Ok)(eo:S.os[0]? =some (some (ns,sp)))(hd:S.dn<ay ns)(nh:¬Halt S.pc S.stp):j5 M D (fi M S ns sp):=by
 have hn:S.os≠[]:=fun e=>by rw[e]at eo;simp at eo
 obtain⟨R1,R2⟩:=qq h okm hn;obtain⟨okn,s1,s2⟩:=h.row.ok 0 ns sp eo;have D1:=h.D1;have r50:=okm.r1;have f50:=okm.f1;refine⟨h.row,h.rw,h.len,h.rt1,h.rt2,h.pl,?_,?_,?_,h.D1,h.D2⟩
 ·exact DN (by omega) (by omega) (by omega) h.pd ((pJ _ _).mono (by omega)) (R1.mono (by omega)) h.stp nh
 ·exact Rat.le_trans pK (mD s1 s2 h.rt1 h.rt2)
 ·exact wZ h.stp h.pd.nn nh
theorem One.ok{M:dC}{D:Nat}{S S1:cJ}{e:PyData}(h:eR M D S)(okm:M.Ok)(o:One M S e S1):eR M D S1:=by cases o with
 |@line ns sp eo nh=>
   have hd:S.dn<ay ns:=by
    rcases h.dn with e|⟨ns',sp',e1,e2⟩
    ·rw[e];exact(h.row.ok 0 ns sp eo).1.lead.1
    ·rw[eo]at e1;cases e1;exact e2
   have raw:=oB h.raw okm eo hd nh;have hn:S.os≠[]:=fun e=>by rw[e]at eo;simp at eo
   unfold jI;split
   ·exact raw.end hn
   ·next hne=>refine raw.ok (.inr ⟨ns,sp,eo,?_⟩);have:(fi M S ns sp).dn=S.dn+1:=rfl;omega |oA eo ed nh=>obtain⟨h1,h2,_⟩:=kL h.raw e;refine h1.end ?_;rw[h2];intro z;rw[z]at eo;simp at eo
theorem Run.ok{M:dC}{D:Nat}{S S1:cJ}{es:List PyData}(h:eR M D S)(okm:M.Ok)(r:Run M S es S1):eR M D S1:=by induction r with |nil=>exact h |cons o _ ih=>exact ih (o.ok h okm)
theorem One.no{M:dC}{D:Nat}{S S1:cJ}{e:PyData}(h:eR M D S)(o:One M S e S1):iP e=true:=by cases o with |line _ _=>exact kI _ _ _ |oA eo ed _=>exact bS.mp h.row.no _ (List.mem_of_getElem? ed)
theorem Run.no{M:dC}{D:Nat}{S S1:cJ}{es:List PyData}(h:eR M D S)(okm:M.Ok)(r:Run M S es S1):cD es=true:=by induction r with |nil=>rfl |cons o _ ih=>rw[cD,Bool.and_eq_true];exact⟨o.no h,ih (o.ok h okm)⟩
theorem gQ{b:Bool}{A B A' B':Prop}(h1:A->A')(h2:B->B'):(if b=true then A else B)->(if b=true then A' else B'):=by
 cases b
 ·exact h2
 ·exact h1
abbrev EK:Stmt:=inClass (top 62) 14
theorem Ca:aH ["self","most","line","lead","rows","top","reach","told","middle"] ["self","most"] (ao EK):=⟨rfl,rfl,rfl,by decide+kernel,rfl,by decide+kernel,by decide+kernel⟩
inductive yV(K:PySem.W.Frag)(C:Addr)(vs:List V)(H:Hp)(Q:VK):Prop |mk (a:_)(q:_)(M:_)(D:_)(S:_)(ns:_)(sp:_)(most:_)(h0:vs=[.ref a,.int most])(h1:bL K C H a q M S)(h2:eR M D S)(h3:M.Ok)(h4:S.os[0]? =some (some (ns,sp)))(h5:¬Halt S.pc S.stp)(h6:1<=most)(h7:most<=1000)(h8:∀l ys es S' q' H',H l=none->H' l=some (.lst ys)->bj K H' ys es->Run M S es S'->1<=es.length->(es.length:Int)<=most->bL K C H' a q' M S'->Mv a q H q' H'->l≠q'->Q (.ref l) H'):yV K C vs H Q
def Cb(K:PySem.W.Frag)(C:Addr):Sp:=fun vs H Q _=>yV K C vs H Q
theorem EL{C:Addr}(F:MA K C "steps_of_first" "Runner.steps_of_first" EK)(TC:fH K C)(B:dv mg)(hlead_of:aw P w K mg base "lead_of" 1 (fq K))(hstep_rows:aw P w K mg base "step_rows" 3 (qi K))(htop_square:aw P w K mg base "top_square" 4 (sm K))(hreach_behind_first:aw P w K mg base "reach_behind_first" 9 (mI K))(hstep_entry:aw P w K mg base "step_entry" 3 (yA K))(hR_is_halted:bN P w K mg base C "is_halted" 2 (cE K C fun _ S H Q=>Q (.bl (S.stp.isSome&&decide (S.pc=0))) H))(hR_next_square:bN P w K mg base C "next_square" 5 (C9 K C))(hR_end_first:bN P w K mg base C "end_first" 3 (yS K C)):bN P w K mg base C "steps_of_first" 10 (Cb K C):=by
 refine F.has Ca (fun vs H Q E h=>?_) (fun _ _ _ _ _ _ us hl=>match us,hl with|[_,_],_=>rfl) (fun f cdv A outer s H vs Q E hr h=>?_)
 · obtain⟨a,q,M,D,S,ns,sp,most,rfl,_⟩:=h
   rfl
 · obtain⟨a,q,M,D,S,ns,sp,most,rfl,R0,ok,okm,eo,nh,m1,m2,k⟩:=h
   obtain⟨dx,mv,bv,pcv,tv,e,r1,r2,r3,r4⟩:=R0.ob;obtain⟨ys,eq,rq⟩:=R0.qu;have aq:=R0.ne;have nd:=Ca.nd;have lr:=okm.len;have r50:=okm.r1;have f50:=okm.f1;have ll:=ok.row.len;have h20:=ok.len;have hl0:0<S.os.length:=(List.getElem?_eq_some_iff.mp eo).1;have hne:S.os≠[]:=fun z=>by rw[z]at hl0;exact absurd hl0 (by decide)
   obtain⟨d,ed⟩:∃d,S.ds[0]? =some d:=⟨_,List.getElem?_eq_getElem (show 0<S.ds.length by omega)⟩;obtain⟨y,ey,ry⟩:=rq.get 0 ed;have ed':=dG (ok.row.it 0 d _ ed eo);subst ed';obtain⟨okn,sp1,sp2⟩:=ok.row.ok 0 ns sp eo;have okn':iD ns.length 1000 ns:=⟨rfl,fun z hz=>by have:=okn.bd z hz;omega,okn.nz⟩;have lpos:=okn.lead.1;have l100:=gO okn;have nl3:ns.length<=3:=by rw[okn.len];omega
   have hd0:S.dn<ay ns:=by
    rcases ok.dn with e'|⟨ns',sp',e1,e2⟩
    ·omega
    ·rw[eo]at e1;cases e1;exact e2
   obtain⟨Rd,Rl⟩:=qq ok.raw okm hne;refine⟨_,(ag (aF (i:=2) nd rfl (Or.inl rfl) (aM (cw K rfl) (bO TC.cl TC.n_queue (pv 0)) ah (fun _ _=>rfl))) (ag (aF (i:=3) nd rfl (Or.inl rfl) (aE hlead_of (hr.mono (by decide)) rfl (aa (pv 2) af))) (ag (aF (i:=4) nd rfl (Or.inl rfl) (aE hstep_rows (hr.mono (by decide)) rfl (aa (pv 2) af))) (ag (aF (i:=5) nd rfl (Or.inl rfl) (aE htop_square (hr.mono (by decide)) rfl (aa (pv 2) (aa (bO TC.cl TC.n_rate_now (pv 0)) af)))) (ag (aF (i:=6) nd rfl (Or.inl rfl) (aE hreach_behind_first (hr.mono (by decide)) rfl (aa (bO TC.cl TC.n_machine (pv 0)) (aa (bO TC.cl TC.n_queue (pv 0)) (aa (bO TC.cl TC.n_rate_now (pv 0)) af))))) (ag (aF (i:=7) nd rfl (Or.inl rfl) (bE af)) (ag (cL (dQ PassesOwn.never (PW.pt (fQ (aO ft (ak (x:="len") (dw K rfl) rfl (B.at "len") PySem.boot_len (aa (pv 7) af)) (pv 1) (aK _)) (fQ (aO ft (bO TC.cl TC.n_done (pv 0)) (pv 3) (aK _)) (gm (cf (bh (dP hR_is_halted TC.cl (hr.mono (by decide)) (pv 0)))))))) (ag (aF (i:=8) nd rfl (Or.inl rfl) (nX hR_next_square TC.cl (hr.mono (by decide)) (pv 0) (aa (pv 5) (aa (pv 6) (aa (az cB (pv 3) (bO TC.cl TC.n_done (pv 0))) af))))) (ag (cj (fA K rfl (pv 7) (aa (aE hstep_entry (hr.mono (by decide)) rfl (aa (bO TC.cl TC.n_machine (pv 0)) (aa (aM (cw K rfl) (pv 4) (bO TC.cl TC.n_done (pv 0)) (fun _ _=>rfl)) (aa (pv 8) af)))) af))) (ai (wV TC.cl TC.n_done (pv 0) ah CW)))))) (ag (cL (aR (aO (fT K rfl hr.units) (bO TC.cl TC.n_done (pv 0)) (pv 3) (aK _)) (ai (cj (dP hR_end_first TC.cl (hr.mono (by decide)) (pv 0)))) aL)) (ai (aB (pv 7))))))))))),?_⟩;refine⟨_,rfl,a,dx,_,_,rfl,e,rfl,.inl ⟨q,_,0,y,rfl,rfl,bc.of eq,bB (Int.le_refl 0) ey,?_⟩⟩;refine⟨_,rfl,y,ns,sp,rfl,ry,okn.ne,by omega,fun H1 s1=>?_⟩;refine⟨_,rfl,y,ns,sp,rfl,RD.mono s1 _ ry,okn',by omega,fun lr' yr H2 nlr dlr rlr s2=>?_⟩;have s12:=s1.trans s2;refine⟨_,rfl,_,rfl,a,dx,_,_,rfl,s12 _ _ e,rfl,y,ns,sp,S.rate,rfl,RD.mono s12 _ ry,sp1,sp2,ok.rt1,ok.rt2,fun tpv H3 rtp s3=>?_⟩;have s13:=s12.trans s3;have e3:=s13 _ _ e;refine⟨_,rfl,a,dx,_,_,rfl,e3,rfl,_,rfl,a,dx,_,_,rfl,e3,rfl,_,rfl,a,dx,_,_,rfl,e3,rfl,mv,.ref q,S.rate,M.rs,M.r,M.f,M.j,M.t,S.ds,S.os,rfl,RD.mono s13 _ r1,okm,gH (bc.of (s13 _ _ eq)) (bj.mono s13 _ rq),ok.row,by omega,by omega,ok.rt1,ok.rt2,fun rcv H4 rrc s4=>?_⟩;have s14:=s13.trans s4;refine⟨aQ _ (Nat.le_of_ble_eq_true rfl),fun l H5 n5=>?_⟩;have s15:=s14.trans n5.same;have s25:aI H2 H5:=s3.trans (s4.trans n5.same);have nl:H l=none:=by cases e':H l with |none=>rfl |some o=>have:=s14 _ _ e';rw[n5.no]at this;cases this
   have nlrH:H lr'=none:=by cases e':H lr' with |none=>rfl |some o=>have:=s1 _ _ e';rw[nlr]at this;cases this
   have al:a≠l:=fun z=>by rw[<-z,e]at nl;cases nl
   have ql:q≠l:=fun z=>by rw[<-z,eq]at nl;cases nl
   have alr:a≠lr':=fun z=>by rw[<-z,e]at nlrH;cases nlrH
   have llr:l≠lr':=fun z=>by have:=n5.no;rw[z,(s3.trans s4) _ _ dlr]at this;cases this
   have yrl:=rlr.length;rw[jx]at yrl;have td:=pJ S.rate sp;have tl:=mD sp1 sp2 ok.rt1 ok.rt2;have tp:=sS sp1 ok.rt1;have nrm0:jI ns S=S:=by unfold jI;rw[if_neg (by omega)]
   have h24:sizeLine=16777216:=by decide
   refine⟨fun σ H6=>∃T es us w8,σ=[some (.ref a),some (.int most),some y,some (.int (ay ns)),some (.ref lr'),some tpv,some rcv,some (.ref l),w8]/\dZ [a,l] H5 H6/\bL K C H6 a q M T/\j5 M D T/\T.os=S.os/\T.ds=S.ds/\T.rate=S.rate/\T.dn<=ay ns/\1<=es.length/\(es.length:Int)<=most/\H6 l=some (.lst us)/\bj K H6 us es/\cD es=true/\Run M S es (jI ns T),?_,?_⟩
   · refine dR (fun σ H6=>∃T es us w8,σ=[some (.ref a),some (.int most),some y,some (.int (ay ns)),some (.ref lr'),some tpv,some rcv,some (.ref l),w8]/\dZ [a,l] H5 H6/\bL K C H6 a q M T/\j5 M D T/\T.os=S.os/\T.ds=S.ds/\T.rate=S.rate/\T.dn=S.dn+es.length/\T.dn<=ay ns/\(es.length:Int)<=most/\H6 l=some (.lst us)/\bj K H6 us es/\cD es=true/\Run M S es (jI ns T)/\(es=[]->¬Halt T.pc T.stp)) (fun _ H6=>match H6 l with|some (.lst us)=>2000-us.length|_=>0) ?_ ?_ ?_
     ·exact⟨S,[],[],none,rfl,dZ.refl _ _,R0.same ok.row.no s15,ok.raw,rfl,rfl,rfl,rfl,by omega,by simp;omega,n5.at',ba,rfl,by rw[nrm0];exact .nil _,fun _=>nh⟩
     · rintro σ H6 ⟨T,es,us,w8,rfl,bt,RT,raw,eos,eds,ert,edn,hdn,hes,dl,rd,hno,run,hnh⟩
       have lu:=rd.length;obtain⟨dx6,mv6,bv6,pcv6,tv6,e6,t1,t2,t3,t4⟩:=RT.ob;have v56:aW H5 H6:=bt.v fun x hx o' eo'=>by
        simp only[List.mem_cons,List.not_mem_nil,or_false]at hx;rcases hx with rfl|rfl
        ·rw[s15 _ _ e]at eo';cases eo';trivial
        ·rw[n5.at']at eo';cases eo';trivial
       have nos:cD T.ds=true:=by rw[eds];exact ok.row.no
       have ex1:1<=es.length->∃T' es' us' w8',[some (.ref a),some (.int most),some y,some (.int (ay ns)),some (.ref lr'),some tpv,some rcv,some (.ref l),w8]=[some (.ref a),some (.int most),some y,some (.int (ay ns)),some (.ref lr'),some tpv,some rcv,some (.ref l),w8']/\dZ [a,l] H5 H6/\bL K C H6 a q M T'/\j5 M D T'/\T'.os=S.os/\T'.ds=S.ds/\T'.rate=S.rate/\T'.dn<=ay ns/\1<=es'.length/\(es'.length:Int)<=most/\H6 l=some (.lst us')/\bj K H6 us' es'/\cD es'=true/\Run M S es' (jI ns T'):=fun h1=>⟨T,es,us,w8,rfl,bt,RT,raw,eos,eds,ert,hdn,h1,hes,dl,rd,hno,run⟩;refine⟨_,rfl,l,us,rfl,.inl (bc.of dl),_,rfl,_,_,rfl,rfl,_,rfl,?_⟩;show if decide ((us.length:Int)<most)=true then _ else _;by_cases c1:(us.length:Int)<most
       · rw[decide_eq_true c1]
         refine bK ?_;refine⟨_,rfl,a,dx6,_,_,rfl,e6,rfl,_,rfl,_,_,rfl,rfl,_,rfl,?_⟩;show if decide ((T.dn:Int)<(ay ns:Int))=true then _ else _;by_cases c2:T.dn<ay ns
         · rw[decide_eq_true (by omega)]
           refine bK ?_;have okT:eR M D T:=raw.ok (.inr ⟨ns,sp,by rw[eos];exact eo,c2⟩);have nrmT:jI ns T=T:=by unfold jI;rw[if_neg (by omega)]
           refine⟨_,rfl,a,dx6,_,rfl,e6,rfl,a,q,M,D,T,rfl,RT,okT,okm,_,rfl,?_⟩;by_cases c3:Halt T.pc T.stp
           · have hb:(T.stp.isSome&&decide (T.pc=0))=true:=by obtain⟨h1,h2⟩:=c3;rw[decide_eq_true h2,Bool.and_true];cases hs:T.stp with |none=>exact(h1 hs).elim |some _=>rfl
             rw[hb];refine bw ?_;refine ex1 ?_;cases es with |nil=>exact(hnh rfl c3).elim |cons _ _=>simp
           · have hb:(T.stp.isSome&&decide (T.pc=0))=false:=by cases hs:T.stp with |none=>rfl |some _=>show decide (T.pc=0)=false;exact decide_eq_false fun h2=>c3 ⟨by rw[hs];simp,h2⟩
             rw[hb];refine bK ?_;have rT:fh M T=fh M S:=by unfold fh;rw[eos,ert]
             refine⟨_,rfl,a,dx6,_,rfl,e6,rfl,?_⟩;refine⟨_,rfl,_,rfl,_,rfl,_,rfl,a,dx6,_,_,rfl,e6,rfl,_,_,rfl,rfl,?_⟩;have rtp6:aY K H6 tpv (topR S.rate sp):=((rtp.go s4).go n5.same).v v56;have rrc6:aY K H6 rcv (fh M S):=(rrc.go n5.same).v v56;refine⟨a,q,M,D,T,tpv,rcv,topR S.rate sp,fh M S,_,rfl,RT,okT,okm,rtp6,td,tl,rrc6,Rd,Rl,by omega,by omega,c3,fun mid H7 rmid R7 b7=>?_⟩;obtain⟨dx7,mv7,bv7,pcv7,tv7,e7',t71,t72,t73,t74⟩:=R7.ob;have e7:H7 a=some (.ins C dx7 (jW mv7 bv7 (.int T.dn) (.ref q) pcv7 (.int T.rate) (.str T.side) (.str T.mark) tv7)):=e7';have v67:aW H6 H7:=b7.v fun x hx o' eo'=>by rw[List.mem_singleton]at hx;rw[hx,e6]at eo';cases eo';trivial
             have dl7:=b7 _ _ dl (by rw[List.mem_singleton];exact al.symm);have dlr5:=s25 _ _ dlr;have dlr6:=bt _ _ dlr5 (by simp;exact⟨alr.symm,llr.symm⟩);have dlr7:=b7 _ _ dlr6 (by rw[List.mem_singleton];exact alr.symm);have rlr7:bj K H7 yr (iZ ns):=bj.v v67 _ (kG ns) (bj.v v56 _ (kG ns) (bj.mono s25 _ rlr));obtain⟨rv,erv⟩:∃rv,yr[T.dn]? =some rv:=⟨_,List.getElem?_eq_getElem (show T.dn<yr.length by omega)⟩;obtain⟨dr,edr,rdr⟩:=rlr7.get' T.dn erv;rw[lS c2]at edr;cases edr;have mB:Bd 2000 (gA M.r M.f T.pc (topR S.rate sp) (fh M S) ((ay ns:Int)-T.dn) T.stp):=by have D1:=raw.D1;have D2:=raw.D2;exact((wX (by omega) (by omega) (by omega) raw.pd (td.mono (by omega)) (Rd.mono (by omega)) raw.stp c3).bd (Rat.le_trans kz (Rat.le_trans tl (by decide+kernel)))).mono (by omega)
             have mP:0<gA M.r M.f T.pc (topR S.rate sp) (fh M S) ((ay ns:Int)-T.dn) T.stp:=wY r50.1 f50.1 (by omega) raw.pd.nn tp Rd.nn raw.stp c3;refine⟨_,rfl,.inl ⟨rfl,_,bc.of dl7⟩,?_⟩;refine⟨_,rfl,a,dx7,_,_,rfl,e7,rfl,?_⟩;refine⟨_,rfl,_,rfl,a,dx7,_,_,rfl,e7,rfl,.inl ⟨lr',_,_,_,rfl,rfl,bc.of dlr7,bB (show(0:Int)<=(T.dn:Int) by omega) (by simpa using erv),?_⟩⟩;refine⟨_,rfl,mv7,rv,mid,M.rs,M.r,M.f,M.j,M.t,gd ns T.dn,_,rfl,t71,okm,rdr,rmid,mB,mP,fun ent H8 rent s8=>?_⟩;have dl8:=s8 _ _ dl7;refine⟨l,us,_,rfl,rfl,dl8,by omega,?_⟩;have e8:(L2.upd H8 l (.lst (us++[ent]))) a=some (.ins C dx7 (jW mv7 bv7 (.int T.dn) (.ref q) pcv7 (.int T.rate) (.str T.side) (.str T.mark) tv7)):=by rw[aj al];exact s8 _ _ e7
             refine⟨_,rfl,a,dx7,_,_,rfl,e8,rfl,_,_,rfl,rfl,dx7,_,e8,by show 9<1000;decide,?_⟩;have vl:aW H8 (L2.upd H8 l (.lst (us++[ent]))):=.upd dl8 trivial;have va:aW (L2.upd H8 l (.lst (us++[ent]))) (L2.upd (L2.upd H8 l (.lst (us++[ent]))) a (.ins C dx7 (jW mv7 bv7 (.int ((T.dn:Int)+1)) (.ref q) pcv7 (.int T.rate) (.str T.side) (.str T.mark) tv7))):=.upd e8 trivial;have v7:=(s8.v.trans vl).trans va;have eS:fi M T ns sp={Jp M T (topR S.rate sp) (fh M S) ((ay ns:Int)-T.dn)with dn:=T.dn+1}:=by unfold fi;rw[rT,ert]
             have eE:iz M T ns sp=j0 M.t (gd ns T.dn) (gA M.r M.f T.pc (topR S.rate sp) (fh M S) ((ay ns:Int)-T.dn) T.stp):=by unfold iz yU;rw[rT,ert]
             have hone:One M T (iz M T ns sp) (jI ns (fi M T ns sp)):=.line (by rw[eos];exact eo) c3;obtain⟨yq,eq7,rq7⟩:=R7.qu;have no':cD (es++[iz M T ns sp])=true:=bS.mpr fun d hd=>by
              rcases List.mem_append.mp hd with h|h
              ·exact bS.mp hno d h
              ·rw[List.mem_singleton]at h;rw[h];exact kI _ _ _
             have q7l:q≠l:=ql;refine⟨⟨fi M T ns sp,es++[iz M T ns sp],us++[ent],_,rfl,fun b o' eb hb=>?_,?_,oB raw okm (by rw[eos];exact eo) c2 c3,eos,eds,ert,?_,?_,?_,?_,?_,?_,?_,fun z=>by simp at z⟩,?_⟩
             · have ha:b≠a:=fun z=>hb (by rw[z];simp)
               have hl':b≠l:=fun z=>hb (by rw[z];simp);rw[aj ha,aj hl'];exact s8 _ _ (b7 _ _ (bt _ _ eb hb) (by rw[List.mem_singleton];exact ha))
             · rw[eS]
               refine⟨⟨dx7,mv7,bv7,pcv7,tv7,?_,RD.v v7 _ (cm _ _ _ _ _) t71,RD.v v7 _ (cT _) t72,t73.v v7,t74.v v7⟩,yq,?_,bj.v v7 _ nos rq7⟩
               ·exact au
               ·rw[aj aq.symm,aj ql];exact s8 _ _ eq7
             · show T.dn+1=_
               rw[List.length_append];show _=_+(_+1);omega
             · show T.dn+1<=_
               omega
             ·rw[List.length_append];show((es.length+1:Nat):Int)<=most;omega
             ·rw[aj al.symm,au]
             · refine bj.v va _ no' (bj.v vl _ no' ?_)
               have r7:bj K H8 us es:=bj.mono s8 _ (bj.v v67 _ hno rd);refine r7.append (aP ?_ ba);rw[eE];exact rent
             ·exact no'
             · rw[nrmT]at run
               exact run.snoc hone
             · show(match(L2.upd (L2.upd H8 l (.lst (us++[ent]))) a _) l with|some (.lst us)=>2000-us.length|_=>0)<(match H6 l with|some (.lst us)=>2000-us.length|_=>0)
               rw[aj al.symm,au,dl];show 2000-(us++[ent]).length<2000-us.length;rw[List.length_append];show 2000-(us.length+1)<_;omega
         · rw[decide_eq_false (by omega)]
           refine bw ?_;exact ex1 (by omega)
       · rw[decide_eq_false c1]
         refine bw ?_;exact ex1 (by omega)
     · rintro σ H6 Q1 Q2 hq ⟨v1,f1,l',us',f2,f3,v2,f4,i1,i2,f5,f6,b1,f7,h⟩
       refine⟨v1,f1,l',us',f2,f3,v2,f4,i1,i2,f5,f6,b1,f7,gQ ?_ (hq _ _) h⟩;rintro⟨v3,f8,a',dx',fs',u',f9,f10,f11,v4,f12,i3,i4,f13,f14,b2,f15,h⟩;refine⟨v3,f8,a',dx',fs',u',f9,f10,f11,v4,f12,i3,i4,f13,f14,b2,f15,gQ ?_ (hq _ _) h⟩;rintro⟨v5,f16,a2,dx2,fs2,f17,f18,f19,a3,q3,M3,D3,S3,f20,f21,f22,f23,b3,f24,h⟩;exact⟨v5,f16,a2,dx2,fs2,f17,f18,f19,a3,q3,M3,D3,S3,f20,f21,f22,f23,b3,f24,hq _ _ h⟩
   · rintro σ H6 ⟨T,es,us,w8,rfl,bt,RT,raw,eos,eds,ert,hdn,h1,hes,dl,rd,hno,run⟩
     obtain⟨dx6,mv6,bv6,pcv6,tv6,e6,t1,t2,t3,t4⟩:=RT.ob;have hneT:T.os≠[]:=by rw[eos];exact hne
     have bH:∀{H7:Hp},dZ [a] H6 H7->dZ [a,q] H H7:=fun{H7} b7 b o' eb hb=>by
      have ha:b≠a:=fun z=>hb (by rw[z];simp);refine b7 _ _ (bt _ _ (s15 _ _ eb) fun hm=>?_) (by rw[List.mem_singleton];exact ha);simp only[List.mem_cons,List.not_mem_nil,or_false]at hm;rcases hm with h|h
      ·exact ha h
      ·rw[h,nl]at eb;cases eb
     refine⟨fun σ H7=>∃q' w8',σ=[some (.ref a),some (.int most),some y,some (.int (ay ns)),some (.ref lr'),some tpv,some rcv,some (.ref l),w8']/\bL K C H7 a q' M (jI ns T)/\Mv a q H q' H7/\l≠q'/\∃us',H7 l=some (.lst us')/\bj K H7 us' es,?_,?_⟩
     · refine⟨_,rfl,a,dx6,_,_,rfl,e6,rfl,_,rfl,.inl ⟨_,_,rfl,rfl,_,rfl,?_⟩⟩
       show if decide ((T.dn:Int)=(ay ns:Int))=true then _ else _;by_cases c:T.dn=ay ns
       · rw[decide_eq_true (by omega)]
         refine bK ?_;refine⟨_,rfl,a,dx6,_,rfl,e6,rfl,a,q,M,D,T,rfl,RT,raw,okm,hneT,fun q' H7 R7 nq b7=>?_⟩;have v67:aW H6 H7:=b7.v fun x hx o' eo'=>by rw[List.mem_singleton]at hx;rw[hx,e6]at eo';cases eo';trivial
         refine⟨q',_,rfl,by unfold jI;rw[if_pos c];exact R7,⟨bH b7,.inr ?_⟩,fun z=>?_,us,b7 _ _ dl (by rw[List.mem_singleton];exact al.symm),bj.v v67 _ hno rd⟩
         ·cases e':H q' with |none=>rfl |some o'=>
             have h5:=s15 _ _ e';by_cases ha:q'=a
             ·rw[ha,e6]at nq;cases nq
             · by_cases hl':q'=l
               ·rw[hl',nl]at e';cases e'
               · have:=bt _ _ h5 (by simp;exact⟨ha,hl'⟩)
                 rw[nq]at this;cases this
         ·rw[<-z,dl]at nq;cases nq
       · rw[decide_eq_false (by omega)]
         refine bw ?_;exact⟨q,_,rfl,by unfold jI;rw[if_neg c];exact RT,⟨bH (dZ.refl _ _),.inl rfl⟩,ql.symm,us,dl,rd⟩
     · rintro σ H7 ⟨q',w8',rfl,R7,mv7,lq,us',dl7,rd7⟩
       exact⟨_,rfl,k l us' es (jI ns T) q' H7 nl dl7 rd7 run h1 hes R7 mv7 lq⟩
end
end Lw
namespace Lw
open PySem PySem.Spec PyProof.Rows L2 Rt Ln Cn Pn Wk Rn
open Ow (topR cornO mnO betR atO ownF leadF ownL OkI OkIs)
section
variable {P:Program}{w:World}{K:PySem.W.Frag}{mg:Str->Option Value}{base:Heap}
theorem Mv.trans{a q q1 q2:Addr}{H H1 H2:Hp}(m1:Mv a q H q1 H1)(m2:Mv a q1 H1 q2 H2)(ha:H1 a≠none):Mv a q H q2 H2:=by
 refine⟨fun b o e hb=>?_,?_⟩
 · refine m2.but _ _ (m1.but _ _ e hb) fun hm=>?_
   simp only[List.mem_cons,List.not_mem_nil,or_false]at hm hb;rcases hm with h|h
   ·exact hb (.inl h)
   · rcases m1.nq with h1|h1
     ·exact hb (.inr (h.trans h1))
     ·rw[<-h]at h1;rw[h1]at e;cases e
 · rcases m2.nq with h|h
   ·rw[h];exact m1.nq
   ·cases e:H q2 with |none=>exact .inr rfl |some o=>
       by_cases h1:q2=q
       ·exact .inl h1
       · by_cases h2:q2=a
         ·rw[h2]at h;exact(ha h).elim
         · have:=m1.but _ _ e (by simp;exact⟨h2,h1⟩)
           rw[h]at this;cases this
inductive tf(K:PySem.W.Frag)(C:Addr)(vs:List V)(H:Hp)(Q:VK):Prop |mk (a:_)(q:_)(M:_)(D:_)(S:_)(most:_)(h0:vs=[.ref a,.int most])(h1:bL K C H a q M S)(h2:eR M D S)(h3:M.Ok)(h4:S.os≠[])(h5:¬Halt S.pc S.stp)(h6:1<=most)(h7:most<=1000)(h8:∀l ys es S' q' H',H l=none->H' l=some (.lst ys)->bj K H' ys es->Run M S es S'->1<=es.length->(es.length:Int)<=most->bL K C H' a q' M S'->Mv a q H q' H'->l≠q'->Q (.ref l) H'):tf K C vs H Q
def yW(K:PySem.W.Frag)(C:Addr):Sp:=fun vs H Q _=>tf K C vs H Q
abbrev EM:Stmt:=inClass (top 62) 13
theorem Cc:aH ["self","most","item"] ["self","most"] (ao EM):=⟨rfl,rfl,rfl,by decide+kernel,rfl,by decide+kernel,by decide+kernel⟩
theorem EN{C:Addr}(F:MA K C "entries_of_first" "Runner.entries_of_first" EM)(TC:fH K C)(his_line:aw P w K mg base "is_line" 1 (jt K))(hR_steps_of_first:bN P w K mg base C "steps_of_first" 10 (Cb K C))(hR_end_first:bN P w K mg base C "end_first" 3 (yS K C)):bN P w K mg base C "entries_of_first" 11 (yW K C):=by
 refine F.has Cc (fun vs H Q E h=>?_) (fun _ _ _ _ _ _ us hl=>match us,hl with|[_,_],_=>rfl) (fun f cdv A outer s H vs Q E hr h=>?_)
 · obtain⟨a,q,M,D,S,most,rfl,_⟩:=h
   rfl
 · obtain⟨a,q,M,D,S,most,rfl,R0,ok,okm,hne,nh,m1,m2,k⟩:=h
   obtain⟨dx,mv,bv,pcv,tv,e,r1,r2,r3,r4⟩:=R0.ob;obtain⟨ys,eq,rq⟩:=R0.qu;have aq:=R0.ne;have nd:=Cc.nd;have ll:=ok.row.len;have hl0:0<S.os.length:=by cases h:S.os with|nil=>exact(hne h).elim|cons _ _=>simp
   obtain⟨d,ed⟩:∃d,S.ds[0]? =some d:=⟨_,List.getElem?_eq_getElem (show 0<S.ds.length by omega)⟩;obtain⟨y,ey,ry⟩:=rq.get 0 ed;obtain⟨o,eo,it⟩:=ok.row.get ed;refine⟨_,(ag (aF (i:=2) nd rfl (Or.inl rfl) (aM (cw K rfl) (bO TC.cl TC.n_queue (pv 0)) ah (fun _ _=>rfl))) (ag (aR (bh (aE his_line (hr.mono (by decide)) rfl (aa (pv 2) af))) (ai (aB (nX hR_steps_of_first TC.cl (hr.mono (by decide)) (pv 0) (aa (pv 1) af)))) aL) (ag (cL (aR (aO (fT K rfl hr.units) (aM (cw K rfl) (pv 2) ah (fun _ _=>rfl)) aJ (aK _)) (ai (eV TC.cl TC.n_side (pv 0) (aM (cw K rfl) (pv 2) ah (fun _ _=>rfl)))) aL)) (ag (cL (aR (aO (fT K rfl hr.units) (aM (cw K rfl) (pv 2) ah (fun _ _=>rfl)) aJ (aK _)) (ai (eV TC.cl TC.n_mark (pv 0) (aM (cw K rfl) (pv 2) ah (fun _ _=>rfl)))) aL)) (ag (cj (dP hR_end_first TC.cl (hr.mono (by decide)) (pv 0))) (ai (aB (bE (aa (pv 2) af))))))))),?_⟩;refine⟨_,rfl,a,dx,_,_,rfl,e,rfl,.inl ⟨q,_,0,y,rfl,rfl,bc.of eq,bB (Int.le_refl 0) ey,?_⟩⟩;refine⟨_,rfl,y,d,o,rfl,ry,it,_,rfl,?_⟩;cases o with |some z=>obtain⟨ns,sp⟩:=z;refine bK ?_;exact⟨_,rfl,a,dx,_,rfl,e,rfl,_,rfl,a,q,M,D,S,ns,sp,most,rfl,R0,ok,okm,eo,nh,m1,m2,k⟩ |none=>
     refine bw ?_;have oA:=ok.rw 0 d eo ed;have wd:∃z u ya yr,d= .tuple [.str z,u]/\y= .ref ya/\bG K H ya (.str z::[yr])/\RD K H yr u/\SeqAt.shaped (.str z)=true:=by
      rcases oA with⟨n,rfl,_⟩|⟨w',s',rfl,hw,_⟩
      · obtain⟨ya,xs,rfl,h1,h2⟩:=ry.bu
        obtain⟨x1,rr,rfl,e1,h2⟩:=h2.cons_inv;obtain⟨x2,rr,rfl,e2,h2⟩:=h2.cons_inv;cases h2.nil_inv;cases e1.str_inv;exact⟨_,_,ya,x2,rfl,rfl,h1,e2,by decide+kernel⟩
      · obtain⟨ya,xs,rfl,h1,h2⟩:=ry.bu
        obtain⟨x1,rr,rfl,e1,h2⟩:=h2.cons_inv;obtain⟨x2,rr,rfl,e2,h2⟩:=h2.cons_inv;cases h2.nil_inv;cases e1.str_inv;exact⟨_,_,ya,x2,rfl,rfl,h1,e2,by rcases hw with rfl|rfl<;>decide+kernel⟩
     obtain⟨z,u,ya,yr,rfl,rfl,hya,ryr,sz⟩:=wd;have tU:SeqAt.shaped (.str "tool")=true:=by decide+kernel
     have tM:SeqAt.shaped (.str "mark")=true:=by decide+kernel
     have eqT:∀(x y:Str),PyData.eqv (.str x) (.str y)=decide (x=y):=fun x y=>by show(x==y)=decide (x=y);rw[Bool.eq_iff_iff];simp
     refine⟨fun σ H1=>σ=[some (.ref a),some (.int most),some (.ref ya)]/\dZ [a] H H1/\H1 a=some (.ins C dx (jW mv bv (.int S.dn) (.ref q) pcv (.int S.rate) (.str (if z="tool" then(bV (.tuple [.str z,u]) S).side else S.side)) (.str S.mark) tv)),?_,?_⟩
     · refine⟨_,rfl,.inr ⟨ya,_,0,.str z,rfl,rfl,hya,bB (Int.le_refl 0) rfl,.inr ⟨_,_,bQ _,bQ _,sz,tU,_,rfl,?_⟩⟩⟩
       rw[eqT];by_cases c:z="tool"
       · rw[decide_eq_true c]
         refine bK ?_;have hu:∃s',u= .str s':=by
          rcases oA with⟨n,h,_⟩|⟨w',s',h,hw,_⟩
          ·cases h;exact absurd c (by decide+kernel)
          ·cases h;exact⟨_,rfl⟩
         obtain⟨s',rfl⟩:=hu;cases ryr.str_inv;refine⟨_,rfl,.inr ⟨ya,_,1,.str s',rfl,rfl,hya,bB (by decide) rfl,_,rfl,a,dx,_,rfl,e,by show 9<1000;decide,?_⟩⟩;refine⟨rfl,gu (by simp),?_⟩;rw[if_pos c];have es:(bV (.tuple [.str z,.str s']) S).side=s':=by unfold bV;simp only[if_pos c]
         rw[es];exact au
       · rw[decide_eq_false c]
         refine bw ⟨rfl,dZ.refl _ _,?_⟩;rw[if_neg c];exact e
     rintro σ H1 ⟨rfl,b1,e1⟩;have v01:aW H H1:=b1.v fun x hx o' eo'=>by rw[List.mem_singleton]at hx;rw[hx,e]at eo';cases eo';trivial
     have hya1:=bG.v v01 hya;refine⟨fun σ H2=>σ=[some (.ref a),some (.int most),some (.ref ya)]/\dZ [a] H H2/\H2 a=some (.ins C dx (jW mv bv (.int S.dn) (.ref q) pcv (.int S.rate) (.str (bV (.tuple [.str z,u]) S).side) (.str (bV (.tuple [.str z,u]) S).mark) tv)),?_,?_⟩
     · refine⟨_,rfl,.inr ⟨ya,_,0,.str z,rfl,rfl,hya1,bB (Int.le_refl 0) rfl,.inr ⟨_,_,bQ _,bQ _,sz,tM,_,rfl,?_⟩⟩⟩
       rw[eqT];by_cases c:z="mark"
       · rw[decide_eq_true c]
         refine bK ?_;have nt:¬z="tool":=by rw[c];decide+kernel
         rw[if_neg nt]at e1;have hu:∃s',u= .str s':=by
          rcases oA with⟨n,h,_⟩|⟨w',s',h,hw,_⟩
          ·cases h;exact absurd c (by decide+kernel)
          ·cases h;exact⟨_,rfl⟩
         obtain⟨s',rfl⟩:=hu;cases ryr.str_inv;refine⟨_,rfl,.inr ⟨ya,_,1,.str s',rfl,rfl,hya1,bB (by decide) rfl,_,rfl,a,dx,_,rfl,e1,by show 9<1000;decide,?_⟩⟩;refine⟨rfl,b1.trans (gu (by simp)),?_⟩;have es:(bV (.tuple [.str z,.str s']) S).side=S.side/\(bV (.tuple [.str z,.str s']) S).mark=s':=by constructor<;>(unfold bV;simp only[if_neg nt,if_pos c])
         rw[es.1,es.2];exact au
       · rw[decide_eq_false c]
         refine bw ⟨rfl,b1,?_⟩;have em:(bV (.tuple [.str z,u]) S).mark=S.mark:=by
          unfold bV;split
          · next h => cases h;split
                      ·rfl
                      ·first|rfl|rw[if_neg c]
          ·rfl
         have es:(if z="tool" then(bV (.tuple [.str z,u]) S).side else S.side)=(bV (.tuple [.str z,u]) S).side:=by
          by_cases c2:z="tool"
          ·rw[if_pos c2]
          · rw[if_neg c2]
            unfold bV;split
            ·next h=>cases h;first|rfl|rw[if_neg c2,if_neg c]
            ·rfl
         rw[es]at e1;rw[em];exact e1
     rintro σ H2 ⟨rfl,b2,e2⟩;have v02:aW H H2:=b2.v fun x hx o' eo'=>by rw[List.mem_singleton]at hx;rw[hx,e]at eo';cases eo';trivial
     obtain⟨raw',os',ds',dn',pl'⟩:=kL ok.raw (.tuple [.str z,u]);have fx:(bV (.tuple [.str z,u]) S).pc=S.pc/\(bV (.tuple [.str z,u]) S).rate=S.rate/\(bV (.tuple [.str z,u]) S).stp=S.stp:=by
      unfold bV;split
      · split
        ·exact⟨rfl,rfl,rfl⟩
        ·split<;>exact⟨rfl,rfl,rfl⟩
      ·exact⟨rfl,rfl,rfl⟩
     have R2:bL K C H2 a q M (bV (.tuple [.str z,u]) S):=by
      refine⟨⟨dx,mv,bv,pcv,tv,?_,RD.v v02 _ (cm _ _ _ _ _) r1,?_,?_,?_⟩,ys,b2 _ _ eq (by rw[List.mem_singleton];exact aq.symm),?_⟩
      ·rw[dn',fx.2.1];exact e2
      ·rw[pl'];exact RD.v v02 _ (cT _) r2
      ·rw[fx.1];exact r3.v v02
      ·rw[fx.2.2];exact r4.v v02
      ·rw[ds'];exact bj.v v02 _ ok.row.no rq
     refine⟨_,rfl,a,dx,_,rfl,e2,rfl,a,q,M,D,_,rfl,R2,raw',okm,by rw[os'];exact hne,fun q' H3 R3 nq b3=>?_⟩;have b03:=b2.trans b3;have v03:aW H H3:=b03.v fun x hx o' eo'=>by rw[List.mem_singleton]at hx;rw[hx,e]at eo';cases eo';trivial
     have nq0:H q'=none:=by cases e':H q' with |none=>rfl |some o'=>
        by_cases ha:q'=a
        ·rw[ha,e2]at nq;cases nq
        · have:=b2 _ _ e' (by rw[List.mem_singleton];exact ha)
          rw[nq]at this;cases this
     refine⟨_,rfl,aQ _ (Nat.le_of_ble_eq_true rfl),fun l H4 n4=>?_⟩;have nl:H l=none:=by cases e':H l with |none=>rfl |some o'=>
        by_cases ha:l=a
        · obtain⟨dx3,_,_,_,_,e3,_⟩:=R3.ob
          have:=n4.no;rw[ha,e3]at this;cases this
        · have:=b03 _ _ e' (by rw[List.mem_singleton];exact ha)
          rw[n4.no]at this;cases this
     have okS:eR M D (iC (bV (.tuple [.str z,u]) S)):=raw'.end (by rw[os'];exact hne);refine k l [.ref ya] [.tuple [.str z,u]] _ q' H4 nl n4.at' (aP (RD.v (v03.trans n4.same.v) _ (bS.mp ok.row.no _ (List.mem_of_getElem? ed)) ry) ba) (.cons (.oA eo ed nh) (.nil _)) (by simp) (by simpa using m1) (R3.same okS.row.no n4.same) ⟨fun b o' eb hb=>n4.same _ _ (b03 _ _ eb (by rw[List.mem_singleton];intro h;exact hb (by rw[h];simp))),.inr nq0⟩ ?_;intro h;have:=n4.no;obtain⟨yq,eq3,_⟩:=R3.qu;rw[h,eq3]at this;cases this
inductive yX(K:PySem.W.Frag)(C:Addr)(vs:List V)(H:Hp)(Q:VK):Prop |mk (a:_)(q:_)(M:_)(D:_)(S:_)(n:_)(h0:vs=[.ref a,.int n])(h1:bL K C H a q M S)(h2:eR M D S)(h3:M.Ok)(h4:0<=n)(h5:n<=1000)(h6:∀l ys es S' q' H',H l=none->H' l=some (.lst ys)->bj K H' ys es->Run M S es S'->(es.length:Int)<=n->((es.length:Int)=n\/S'.os=[]\/Halt S'.pc S'.stp)->bL K C H' a q' M S'->Mv a q H q' H'->l≠q'->Q (.ref l) H'):yX K C vs H Q
def Cd(K:PySem.W.Frag)(C:Addr):Sp:=fun vs H Q _=>yX K C vs H Q
abbrev EO:Stmt:=inClass (top 62) 12
theorem Ce:aH ["self","n","told"] ["self","n"] (ao EO):=⟨rfl,rfl,rfl,by decide+kernel,rfl,by decide+kernel,by decide+kernel⟩
theorem ER{C:Addr}(F:MA K C "entries" "Runner.entries" EO)(TC:fH K C)(B:dv mg)(hR_is_halted:bN P w K mg base C "is_halted" 2 (cE K C fun _ S H Q=>Q (.bl (S.stp.isSome&&decide (S.pc=0))) H))(hR_entries_of_first:bN P w K mg base C "entries_of_first" 11 (yW K C)):bN P w K mg base C "entries" 12 (Cd K C):=by
 refine F.has Ce (fun vs H Q E h=>?_) (fun _ _ _ _ _ _ us hl=>match us,hl with|[_,_],_=>rfl) (fun f cdv A outer s H vs Q E hr h=>?_)
 · obtain⟨a,q,M,D,S,n,rfl,_⟩:=h
   rfl
 · obtain⟨a,q,M,D,S,n,rfl,R0,ok,okm,n0,n1,k⟩:=h
   have nd:=Ce.nd;refine⟨_,(ag (aF (i:=2) nd rfl (Or.inl rfl) (bE af)) (ag (cL (dQ PassesOwn.never (PW.pt (fQ (aO ft (ak (x:="len") (dw K rfl) rfl (B.at "len") PySem.boot_len (aa (pv 2) af)) (pv 1) (aK _)) (fQ (my K rfl (bO TC.cl TC.n_queue (pv 0))) (gm (cf (bh (dP hR_is_halted TC.cl (hr.mono (by decide)) (pv 0)))))))) (ai (cj (Gs K rfl (pv 2) (aa (nX hR_entries_of_first TC.cl (hr.mono (by decide)) (pv 0) (aa (az cB (pv 1) (ak (x:="len") (dw K rfl) rfl (B.at "len") PySem.boot_len (aa (pv 2) af))) af)) af)))))) (ai (aB (pv 2))))),?_⟩;refine⟨aQ _ (Nat.le_of_ble_eq_true rfl),fun l H1 nw=>?_⟩;obtain⟨dx,mv,bv,pcv,tv,e,r1,r2,r3,r4⟩:=R0.ob;obtain⟨ys,eq,rq⟩:=R0.qu;have al:a≠l:=fun z=>by have:=nw.no;rw[<-z,e]at this;cases this
   have ql:q≠l:=fun z=>by have:=nw.no;rw[<-z,eq]at this;cases this
   have hq0:H q≠none:=by rw[eq];simp
   have ha0:H a≠none:=by rw[e];simp
   refine⟨fun σ H2=>∃es S' q' us,σ=[some (.ref a),some (.int n),some (.ref l)]/\bL K C H2 a q' M S'/\H2 l=some (.lst us)/\bj K H2 us es/\Run M S es S'/\(es.length:Int)<=n/\((es.length:Int)=n\/S'.os=[]\/Halt S'.pc S'.stp)/\Mv a q H q' H2/\l≠q',?_,?_⟩
   · refine dR (fun σ H2=>∃es S' q' us,σ=[some (.ref a),some (.int n),some (.ref l)]/\bL K C H2 a q' M S'/\H2 l=some (.lst us)/\bj K H2 us es/\Run M S es S'/\(es.length:Int)<=n/\Mv a q H q' H2/\l≠q') (fun _ H2=>match H2 l with|some (.lst us)=>2000-us.length|_=>0) ?_ ?_ ?_
     ·exact⟨[],S,q,[],rfl,R0.same ok.row.no nw.same,nw.at',ba,.nil _,by simpa using n0,⟨.of nw.same,.inl rfl⟩,ql.symm⟩
     · rintro σ H2 ⟨es,S',q',us,rfl,R2,dl,rd,run,hes,mvv,lq⟩
       have ok':=run.ok ok okm;have hno:=run.no ok okm;have lu:=rd.length;obtain⟨dx2,mv2,bv2,pcv2,tv2,e2,t1,t2,t3,t4⟩:=R2.ob;obtain⟨yq,eq2,rq2⟩:=R2.qu;have lyq:=rq2.length;have llq:=ok'.row.len;refine⟨_,rfl,l,us,rfl,.inl (bc.of dl),_,rfl,_,_,rfl,rfl,_,rfl,?_⟩;show if decide ((us.length:Int)<n)=true then _ else _;by_cases c1:(us.length:Int)<n
       · rw[decide_eq_true c1]
         refine bK ?_;refine⟨_,rfl,a,dx2,_,_,rfl,e2,rfl,_,.inl ⟨_,bc.of eq2,rfl⟩,?_⟩;cases hos:S'.os with |nil=>have:yq=[]:=List.length_eq_zero_iff.mp (by rw[lyq,llq,hos];rfl);subst this;refine bw ?_;exact⟨es,S',q',us,rfl,R2,dl,rd,run,hes,.inr (.inl hos),mvv,lq⟩ |cons o os=>
           have hne:S'.os≠[]:=by rw[hos];simp
           have:∃y yr,yq=y::yr:=by cases yq with |nil=>rw[llq,hos]at lyq;simp at lyq |cons y yr=>exact⟨y,yr,rfl⟩
           obtain⟨y,yr,rfl⟩:=this;refine bK ?_;refine⟨_,rfl,a,dx2,_,rfl,e2,rfl,a,q',M,D,S',rfl,R2,ok',okm,_,rfl,?_⟩;by_cases c3:Halt S'.pc S'.stp
           · have hb:(S'.stp.isSome&&decide (S'.pc=0))=true:=by obtain⟨h1,h2⟩:=c3;rw[decide_eq_true h2,Bool.and_true];cases hs:S'.stp with |none=>exact(h1 hs).elim |some _=>rfl
             rw[hb];exact bw ⟨es,S',q',us,rfl,R2,dl,rd,run,hes,.inr (.inr c3),mvv,lq⟩
           · have hb:(S'.stp.isSome&&decide (S'.pc=0))=false:=by cases hs:S'.stp with |none=>rfl |some _=>show decide (S'.pc=0)=false;exact decide_eq_false fun h2=>c3 ⟨by rw[hs];simp,h2⟩
             rw[hb];refine bK ?_;refine⟨_,rfl,.inl ⟨rfl,_,bc.of dl⟩,?_⟩;refine⟨_,rfl,a,dx2,_,rfl,e2,rfl,_,rfl,_,rfl,l,us,rfl,.inl (bc.of dl),_,_,rfl,rfl,?_⟩;refine⟨a,q',M,D,S',_,rfl,R2,ok',okm,hne,c3,by omega,by omega,fun l2 y2 fs S2 q2 H3 nl2 dl2 rd2 run2 f1 f2 R3 mv3 lq2=>?_⟩;have v23:=R2.v mv3.but;have dl3:=mv3.but _ _ dl (by simp;exact⟨al.symm,lq⟩);have rd3:=bj.v v23 _ hno rd;have ly2:=rd2.length;have h24:sizeLine=16777216:=by decide
             refine⟨l,l2,us,y2,rfl,rfl,dl3,dl2,by omega,?_⟩;have vu:aW H3 (L2.upd H3 l (.lst (us++y2))):=.upd dl3 trivial;have hno2:=run2.no ok' okm;have ok2:=run2.ok ok' okm;have lq2':l≠q2:=fun z=>by
              rcases mv3.nq with h|h
              ·exact lq (z.trans h)
              ·rw[<-z,dl]at h;cases h
             refine⟨⟨es++fs,S2,q2,us++y2,rfl,R3.go ok2.row.no vu (fun o' eo'=>by rw[aj al];exact eo') (fun o' eo'=>by rw[aj lq2'.symm];exact eo'),au,(bj.v vu _ hno rd3).append (bj.v vu _ hno2 rd2),run.trans run2,by rw[List.length_append];omega,?_,lq2'⟩,?_⟩
             · have m:=mvv.trans mv3 (by rw[e2];simp)
               exact⟨fun b o' eb hb=>by
                have hl':b≠l:=fun z=>by have:=nw.no;rw[<-z,eb]at this;cases this
                rw[aj hl'];exact m.but _ _ eb hb,m.nq⟩
             · show(match(L2.upd H3 l (.lst (us++y2))) l with|some (.lst us)=>2000-us.length|_=>0)<(match H2 l with|some (.lst us)=>2000-us.length|_=>0)
               rw[au,dl];show 2000-(us++y2).length<2000-us.length;rw[List.length_append];omega
       · rw[decide_eq_false c1]
         refine bw ?_;exact⟨es,S',q',us,rfl,R2,dl,rd,run,hes,.inl (by omega),mvv,lq⟩
     · rintro σ H6 Q1 Q2 hq ⟨v1,f1,l',us',f2,f3,v2,f4,i1,i2,f5,f6,b1,f7,h⟩
       refine⟨v1,f1,l',us',f2,f3,v2,f4,i1,i2,f5,f6,b1,f7,gQ ?_ (hq _ _) h⟩;rintro⟨v3,f8,a',dx',fs',u',f9,f10,f11,b2,f15,h⟩;refine⟨v3,f8,a',dx',fs',u',f9,f10,f11,b2,f15,gQ ?_ (hq _ _) h⟩;rintro⟨v5,f16,a2,dx2,fs2,f17,f18,f19,a3,q3,M3,D3,S3,f20,f21,f22,f23,b3,f24,h⟩;exact⟨v5,f16,a2,dx2,fs2,f17,f18,f19,a3,q3,M3,D3,S3,f20,f21,f22,f23,b3,f24,hq _ _ h⟩
   · rintro σ H2 ⟨es,S',q',us,rfl,R2,dl,rd,run,hes,hend,mvv,lq⟩
     exact⟨_,rfl,k l us es S' q' H2 nw.no dl rd run hes hend R2 mvv lq⟩
end
end Lw
namespace Lw
open PySem PySem.Spec PyProof.Rows L2 Rt Ln Cn Pn Wk Rn
open Ow (topR cornO mnO betR atO ownF leadF ownL OkI OkIs)
section
variable {P:Program}{w:World}{K:PySem.W.Frag}{mg:Str->Option Value}{base:Heap}
theorem bL.HQ{C:Addr}{H:Hp}{a q dx:Addr}{M:dC}{S S':cJ}{mv bv pcv tv:V}(R:bL K C H a q M S)(e:H a=some (.ins C dx (jW mv bv (.int S.dn) (.ref q) pcv (.int S.rate) (.str S.side) (.str S.mark) tv))){bv' pcv' tv':V}(hn:cD S.ds=true)(hd:S'.ds=S.ds) (r1:RD K H mv M.D)(r2:RD K H bv' (jL S'.pl))(r3:aY K H pcv' S'.pc)(r4:uG K H tv' S'.stp):bL K C (L2.upd H a (.ins C dx (jW mv bv' (.int S'.dn) (.ref q) pcv' (.int S'.rate) (.str S'.side) (.str S'.mark) tv'))) a q M S':=by
  have v:aW H (L2.upd H a (.ins C dx (jW mv bv' (.int S'.dn) (.ref q) pcv' (.int S'.rate) (.str S'.side) (.str S'.mark) tv'))):=.upd e trivial;obtain⟨ys,eq,rq⟩:=R.qu;refine⟨⟨dx,mv,bv',pcv',tv',au,RD.v v _ (cm _ _ _ _ _) r1,RD.v v _ (cT _) r2,r3.v v,r4.v v⟩,ys,?_,?_⟩
  ·rw[aj R.ne.symm];exact eq
  ·rw[hd];exact bj.v v _ hn rq
abbrev ES:Stmt:=inClass (top 62) 19
theorem HR:aH ["self"] ["self"] (ao ES):=⟨rfl,rfl,rfl,by decide+kernel,rfl,by decide+kernel,by decide+kernel⟩
inductive yY(K:PySem.W.Frag)(C:Addr)(vs:List V)(H:Hp)(Q:VK):Prop |mk (a:_)(q:_)(M:_)(D:_)(S:_)(h0:vs=[.ref a])(h1:bL K C H a q M S)(h2:eR M D S)(h3:∀H',bL K C H' a q M {S with stp:=none}->dZ [a] H H'->Q (.int (S.ds.length:Nat)) H'):yY K C vs H Q
def Cf(K:PySem.W.Frag)(C:Addr):Sp:=fun vs H Q _=>yY K C vs H Q
theorem ET{C:Addr}(F:MA K C "go" "Runner.go" ES)(TC:fH K C)(B:dv mg):bN P w K mg base C "go" 1 (Cf K C):=by
 refine F.has HR (fun vs H Q E h=>?_) (fun _ _ _ _ _ _ us hl=>match us,hl with|[_],_=>rfl) (fun f cdv A outer s H vs Q E hr h=>?_)
 · obtain⟨a,q,M,D,S,rfl,_⟩:=h
   rfl
 · obtain⟨a,q,M,D,S,rfl,R,ok,k⟩:=h
   obtain⟨dx,mv,bv,pcv,tv,e,r1,r2,r3,r4⟩:=R.ob;obtain⟨ys,eq,rq⟩:=R.qu;refine⟨_,(ag (eV TC.cl TC.n_stopping (pv 0) dN) (ai (aB (ak (x:="len") (dw K rfl) rfl (B.at "len") PySem.boot_len (aa (bO TC.cl TC.n_queue (pv 0)) af))))),?_⟩;refine⟨_,rfl,a,dx,_,rfl,e,by show 9<1000;decide,?_⟩;have eq':(L2.upd H a (.ins C dx (jW mv bv (.int S.dn) (.ref q) pcv (.int S.rate) (.str S.side) (.str S.mark) .cG))) q=some (.lst ys):=by rw[aj R.ne.symm];exact eq
   refine⟨_,rfl,a,dx,_,_,rfl,au,rfl,q,_,rfl,.inl (bc.of eq'),?_⟩;rw[rq.length];exact k _ (R.HQ (S':={S with stp:=none}) e ok.row.no rfl r1 r2 r3 rfl) (gu (by simp))
def dD(f:Int)(pc:Rat):Int:=(pc.num+2*f*(pc.den:Int)-1)/(2*f*(pc.den:Int))
theorem qv{f:Int}(hf:1<=f){pc:Rat}(h:0<=pc):(0<=dD f pc)/\(dD f pc=0->pc=0)/\pc<=((2*f*dD f pc:Int):Rat)/\(pc<=1600->dD f pc<=1000):=by
 have hn:=Rat.num_nonneg.mpr h;have hd:0<2*f*(pc.den:Int):=Int.mul_pos (by omega) (den_pos pc);have hd1:2*(pc.den:Int)<=2*f*(pc.den:Int):=by have:2*1*(pc.den:Int)<=2*f*(pc.den:Int):=Int.mul_le_mul_of_nonneg_right (by omega) (by omega);omega
 unfold dD;generalize hD:2*f*(pc.den:Int)=dd at hd hd1;have q1:=Int.mul_ediv_add_emod (pc.num+dd-1) dd;have q2:=Int.emod_nonneg (pc.num+dd-1) (show dd≠0 by omega);have q3:=Int.emod_lt_of_pos (pc.num+dd-1) hd;have q0:0<=(pc.num+dd-1)/dd:=Int.ediv_nonneg (by omega) (by omega);generalize hQ:(pc.num+dd-1)/dd=Q at q0 q1;generalize(pc.num+dd-1)%dd=R at q1 q2 q3;have hle:pc.num<=dd*Q:=by omega
 refine⟨q0,fun e=>?_,?_,fun hm=>?_⟩
 · rw[e,Int.mul_zero]at hle
   have:pc.num=0:=by omega
   exact Rat.num_eq_zero.mp this
 · refine Rat.not_lt.mp fun hlt=>?_
   rw[Rat.lt_iff,Rat.num_intCast,Rat.den_intCast]at hlt;have e1:2*f*Q*(pc.den:Int)=dd*Q:=by rw[<-hD,Int.mul_right_comm]
   rw[e1]at hlt;omega
 · have h2':¬((1600:Rat)<pc):=Rat.not_lt.mpr hm
   rw[Rat.lt_iff]at h2';have e1:(1600:Rat).num=1600:=rfl;have e2:(1600:Rat).den=1:=rfl;rw[e1,e2]at h2';have h3:pc.num<=1600*(pc.den:Int):=by omega
   refine Int.not_lt.mp fun hlt=>?_;have h4:dd*1001<=dd*Q:=Int.mul_le_mul_of_nonneg_left (by omega) (by omega);omega
abbrev EU:Stmt:=inClass (top 62) 17
theorem Cg:aH ["self","p","q","in_one"] ["self"] (ao EU):=⟨rfl,rfl,rfl,by decide+kernel,rfl,by decide+kernel,by decide+kernel⟩
theorem EV{C:Addr}(F:MA K C "stops_in" "Runner.stops_in" EU)(TC:fH K C):bN P w K mg base C "stops_in" 1 (cE K C fun M S H Q=>Q (.int (dD M.f S.pc)) H):=by
 refine F.has Cg (fun vs H Q E h=>?_) (fun _ _ _ _ _ _ us hl=>match us,hl with|[_],_=>rfl) (fun f cdv A outer s H vs Q E hr h=>?_)
 · obtain⟨a,q,M,D,S,rfl,_⟩:=h
   rfl
 · obtain⟨a,q,M,D,S,rfl,R,ok,okm,k⟩:=h
   obtain⟨dx,mv,bv,pcv,tv,e,r1,r2,⟨pa,rfl,hpa⟩,r4⟩:=R.ob;have nd:=Cg.nd;have f50:=okm.f1;obtain⟨ma,mb,rfl,hma,hmb⟩:=cI r1;have bd:Bd 1600 S.pc:=(ok.pd.bd (Rat.le_trans ok.pm (by decide+kernel))).mono (by have:=ok.D2;omega);have hd:0<2*M.f*(S.pc.den:Int):=Int.mul_pos (by omega) (den_pos S.pc);have wd:Wd (2*M.f*(S.pc.den:Int)):=by
    refine lP (n:=1700) ?_ (by decide);rw[Int.natAbs_mul];have h1:(2*M.f).natAbs<2^7:=by omega
    have:=ff h1 bd.den;exact Nat.lt_of_lt_of_le this (Nat.pow_le_pow_right (by decide) (by decide))
   refine⟨_,(ag (cx (bO TC.cl TC.n_pace (pv 0)) (gD K rfl (n:=2) rfl (aD (aA (i:=1) nd rfl (Or.inl rfl)) (aD (aA (i:=2) nd rfl (Or.inl rfl)) aZ)))) (ag (aF (i:=3) nd rfl (Or.inl rfl) (az aG (az aG ah (aM (cw K rfl) (bO TC.cl TC.n_machine (pv 0)) ah (fun _ _=>rfl))) (pv 2))) (ai (aB (az du (az cB (az bo (pv 1) (pv 3)) ah) (pv 3)))))),?_⟩;refine⟨_,rfl,a,dx,_,_,rfl,e,rfl,pa,_,rfl,hpa,rfl,_,_,rfl,_,_,rfl,rfl,?_⟩;refine⟨_,rfl,a,dx,_,_,rfl,e,rfl,.inr ⟨ma,_,2,.int M.f,rfl,rfl,hma,rfl,_,_,rfl,rfl,.of_left (intBits_le_64 (by decide) (by decide)),?_⟩⟩;refine⟨_,rfl,_,_,rfl,rfl,.of_left (intBits_le_64 (by omega) (by omega)),?_⟩;refine⟨_,rfl,_,rfl,_,_,rfl,rfl,_,_,rfl,rfl,_,rfl,_,_,rfl,rfl,⟨hd,wd⟩,?_⟩;exact k
abbrev EW:Stmt:=inClass (top 62) 18
theorem Ci:aH ["self","steps"] ["self"] (ao EW):=⟨rfl,rfl,rfl,by decide+kernel,rfl,by decide+kernel,by decide+kernel⟩
def fw(M:dC)(S:cJ):cJ:=match S.stp with |none=>{S with stp:=some (S.pc,dD M.f S.pc,0)} |some _=>S
inductive yZ(K:PySem.W.Frag)(C:Addr)(vs:List V)(H:Hp)(Q:VK):Prop |mk (a:_)(q:_)(M:_)(D:_)(S:_)(h0:vs=[.ref a])(h1:bL K C H a q M S)(h2:eR M D S)(h3:M.Ok)(h4:∀H',bL K C H' a q M (fw M S)->dZ [a] H H'->Q (.int (dD M.f S.pc)) H'):yZ K C vs H Q
def Cj(K:PySem.W.Frag)(C:Addr):Sp:=fun vs H Q _=>yZ K C vs H Q
theorem eR.hold{M:dC}{D:Nat}{S:cJ}(h:eR M D S)(okm:M.Ok)(hD:D<=1490):eR M (D+10) (fw M S):=by have D1:=h.D1;unfold fw;cases hs:S.stp with |some z=>show eR M (D+10) S;have st:=h.stp;refine⟨h.row,h.rw,h.len,h.rt1,h.rt2,h.dn,h.pl,h.pd.mono (by omega),h.pm,?_,by omega,by omega⟩;rw[hs]at st⊢;obtain⟨sq,st',gn⟩:=z;obtain⟨a1,a2,a3,a4,a5⟩:=st;exact⟨a1,a2,a3,a4.mono (by omega),a5⟩ |none=>obtain⟨z1,z2,z3,z4⟩:=qv okm.f1.1 h.pd.nn;refine⟨h.row,h.rw,h.len,h.rt1,h.rt2,h.dn,h.pl,h.pd.mono (by omega),h.pm,?_,by omega,by omega⟩;refine⟨Int.le_refl _,z1,z4 h.pm,h.pd,Rat.le_trans h.pm (by decide+kernel),z2,?_⟩;show S.pc*(dD M.f S.pc:Rat)<=S.pc*((dD M.f S.pc-0:Int):Rat);rw[Int.sub_zero];exact Rat.le_refl
theorem EX{C:Addr}(F:MA K C "hold" "Runner.hold" EW)(TC:fH K C)(hR_stops_in:bN P w K mg base C "stops_in" 1 (cE K C fun M S H Q=>Q (.int (dD M.f S.pc)) H))(hR_is_held:bN P w K mg base C "is_held" 1 (cE K C fun _ S H Q=>Q (.bl S.stp.isSome) H)):bN P w K mg base C "hold" 2 (Cj K C):=by
 refine F.has Ci (fun vs H Q E h=>?_) (fun _ _ _ _ _ _ us hl=>match us,hl with|[_],_=>rfl) (fun f cdv A outer s H vs Q E hr h=>?_)
 · obtain⟨a,q,M,D,S,rfl,_⟩:=h
   rfl
 · obtain⟨a,q,M,D,S,rfl,R,ok,okm,k⟩:=h
   obtain⟨dx,mv,bv,pcv,tv,e,r1,r2,r3,r4⟩:=R.ob;have nd:=Ci.nd;refine⟨_,(ag (aF (i:=1) nd rfl (Or.inl rfl) (dP hR_stops_in TC.cl (hr.mono (by decide)) (pv 0))) (ag (cL (aR (cf (bh (dP hR_is_held TC.cl (hr.mono (by decide)) (pv 0)))) (ai (eV TC.cl TC.n_stopping (pv 0) (bF (aa (bO TC.cl TC.n_pace (pv 0)) (aa (pv 1) (aa ah af)))))) aL)) (ai (aB (pv 1))))),?_⟩;refine⟨_,rfl,a,dx,_,rfl,e,rfl,a,q,M,D,S,rfl,R,ok,okm,?_⟩;refine⟨fun σ H1=>σ=[some (.ref a),some (.int (dD M.f S.pc))]/\bL K C H1 a q M (fw M S)/\dZ [a] H H1,?_,?_⟩
   · refine⟨_,rfl,a,dx,_,rfl,e,rfl,a,q,M,D,S,rfl,R,ok,okm,_,rfl,?_⟩
     cases hs:S.stp with |some z=>refine bw ⟨rfl,?_,dZ.refl _ _⟩;unfold fw;rw[hs];exact R |none=>
       refine bK ?_;refine⟨_,rfl,a,dx,_,_,rfl,e,rfl,_,rfl,aQ _ (Nat.le_of_ble_eq_true rfl),fun t H1 n1=>?_⟩;have e1:=n1.same _ _ e;refine⟨_,rfl,a,dx,_,rfl,e1,by show 9<1000;decide,?_⟩;have eh:fw M S={S with stp:=some (S.pc,dD M.f S.pc,0)}:=by unfold fw;rw[hs]
       refine⟨rfl,?_,fun b o' eb hb=>?_⟩
       · rw[eh]
         exact(R.same ok.row.no n1.same).HQ (S':={S with stp:=some (S.pc,dD M.f S.pc,0)}) e1 ok.row.no rfl (RD.mono n1.same _ r1) (RD.mono n1.same _ r2) (r3.go n1.same) ⟨t,pcv,rfl,bG.of n1.at',r3.go n1.same⟩
       · have ha:b≠a:=fun z=>hb (by rw[z];simp)
         rw[aj ha];exact n1.same _ _ eb
   · rintro σ H1 ⟨rfl,R1,b1⟩
     exact⟨_,rfl,k H1 R1 b1⟩
end
end Lw
set_option maxHeartbeats 1000000
namespace Lw
open PySem PySem.Spec PyProof.Rows L2 Rt Ln Cn Pn
open Ow (topR cornO mnO betR atO ownF leadF ownL OkI OkIs)
section
variable {P:Program}{w:World}{K:PySem.W.Frag}{mg:Str->Option Value}{base:Heap}
inductive tj(K:PySem.W.Frag)(vs:List V)(H:Hp)(Q:VK):Prop |mk (m:_)(iv:_)(rate:_)(rs:_)(r:_)(f:_)(j:_)(t:_)(ds:_)(os:_)(h0:vs=[m,iv,.int rate])(h1:RD K H m (eZ rs r f j t))(h2:zE rs r f j t)(h3:RD K H iv (.list ds))(h4:dM rs.length ds os)(h5:ds.length<=100)(h6:10<=rate)(h7:rate<=200)(h8:∀l ys H',H l=none->H' l=some (.lst ys)->bj K H' ys ((ownL j rate os).map cN)->aI H H'->Q (.ref l) H'):tj K vs H Q
def z9(K:PySem.W.Frag):Sp:=fun vs H Q _=>tj K vs H Q
def ie(j rate:Int)(os:List Itm)(i:Nat):List Rat:=(List.range (os.length+1)).map fun k=>if k<=i then ownF j rate os k else 0
theorem gf(j rate:Int)(os:List Itm)(i:Nat){k:Nat}(h:k<=os.length):(ie j rate os i)[k]? =some (if k<=i then ownF j rate os k else 0):=by unfold ie;rw[List.getElem?_map,List.getElem?_eq_getElem (by simp;omega),List.getElem_range];rfl
theorem eO(j rate:Int)(os:List Itm)(i:Nat):(ie j rate os i).length=os.length+1:=by simp[ie]
theorem oC(j rate:Int)(os:List Itm)(i:Nat)(h:i+1<=os.length):(ie j rate os i).set (i+1) (ownF j rate os (i+1))=ie j rate os (i+1):=by
 apply List.ext_getElem?;intro k;by_cases hk:k<=os.length
 · rw[gf j rate os (i+1) hk,List.getElem?_set]
   by_cases e:i+1=k
   · subst e
     rw[if_pos rfl,if_pos (by rw[eO];omega),if_pos (Nat.le_refl _)]
   · rw[if_neg e,gf j rate os i hk]
     congr 1;by_cases h1:k<=i
     ·rw[if_pos h1,if_pos (by omega)]
     ·rw[if_neg h1,if_neg (by omega)]
 ·rw[List.getElem?_eq_none (by rw[List.length_set,eO];omega),List.getElem?_eq_none (by rw[eO];omega)]
theorem uI(j rate:Int)(os:List Itm)(i:Nat)(h:i+1<=os.length)(e:ownF j rate os (i+1)=0):ie j rate os (i+1)=ie j rate os i:=by
 apply List.ext_getElem?;intro k;by_cases hk:k<=os.length
 · rw[gf j rate os (i+1) hk,gf j rate os i hk]
   congr 1;by_cases h1:k<=i
   ·rw[if_pos h1,if_pos (by omega)]
   · rw[if_neg h1]
     by_cases h2:k=i+1
     ·subst h2;rw[if_pos (Nat.le_refl _),e]
     ·rw[if_neg (by omega)]
 ·rw[List.getElem?_eq_none (by rw[eO];omega),List.getElem?_eq_none (by rw[eO];omega)]
abbrev EY:Stmt:=top 79
theorem Ck:aH ["_law_machine_here","_law_items","_law_rate","_law_found","_law_border","_law_one","_law_other_here","_law_a","_law_b","_law_gap","_law_corner"] ["_law_machine_here","_law_items","_law_rate"] (ao EY):=⟨rfl,rfl,rfl,by decide+kernel,rfl,by decide+kernel,by decide+kernel⟩
theorem AJ(F:FA K mg "_law_bounds" EY)(B:dv mg)(hL_lead:aw P w K mg base "_law_lead" 1 (fq K))(hL_min:aw P w K mg base "_law_min" 2 (cQ K))(hL_top:aw P w K mg base "_law_top" 2 (pY K))(hL_frac:aw P w K mg base "_law_frac" 1 (iY K)):aw P w K mg base "_law_bounds" 3 (z9 K):=by
 refine F.has Ck (fun vs H Q E h=>?_) (fun _ _ _ _ _ _ us hl=>match us,hl with|[_,_,_],_=>rfl) (fun f cdv A outer s H vs Q E hr h=>?_)
 · obtain⟨m,iv,rate,rs,r,f,j,t,ds,os,rfl,_⟩:=h
   rfl
 · obtain⟨m,iv,rate,rs,r,f,j,t,ds,os,rfl,rm,okm,ri,row,hz,rt1,rt2,k⟩:=h
   have nd:=Ck.nd;refine⟨_,(ag (mm (i0:=3) nd rfl (Or.inl rfl) (N:=["_law_border"]) (js:=[none]) rfl rfl rfl (fV rfl (B.at "range") (aa (az bo (ak (x:="len") (dw K rfl) rfl (B.at "len") PySem.boot_len (aa (pv 1) af)) ah) af)) (fun _ _ _ _ _=>(aA (i:=0) (show List.Nodup (["_law_border"]:List Str) by decide+kernel) rfl (Or.inl rfl))) (fun _ _ _ _ _=>bM) (fun _ _ _ _ _=>(bF (aa ah (aa ah af))))) (ag (fc PassesOwn.never rfl (lb rfl (B.at "range") (aa ah (aa (ak (x:="len") (dw K rfl) rfl (B.at "len") PySem.boot_len (aa (pv 1) af)) af))) (aA (i:=4) nd rfl (Or.inl rfl)) (ag (fR (i:=5) (j:=6) rfl nd rfl rfl (by decide) rfl rfl (aa (aM (cw K rfl) (pv 1) (az cB (pv 4) ah) (fun _ _=>rfl)) (aa (aM (cw K rfl) (pv 1) (pv 4) (fun _ _=>rfl)) af)) rfl) (ai (aR (PW.pt (fQ (aO (fT K rfl hr.units) (aM (cw K rfl) (pv 5) ah (fun _ _=>rfl)) aJ (aK _)) (gm (aO (fT K rfl hr.units) (aM (cw K rfl) (pv 6) ah (fun _ _=>rfl)) aJ (aK _))))) (ag (cx (bF (aa (aE hL_lead (hr.mono (by decide)) rfl (aa (pv 5) af)) (aa (aE hL_lead (hr.mono (by decide)) rfl (aa (pv 6) af)) af))) (gD K rfl (n:=2) rfl (aD (aA (i:=7) nd rfl (Or.inr rfl)) (aD (aA (i:=8) nd rfl (Or.inr rfl)) aZ)))) (ag (aF (i:=9) nd rfl (Or.inl rfl) (ak (x:="max") (wk K rfl rfl) rfl (B.at "max") PyProof.Rows.boot_max (aa (bT (N:=["_law_x","_law_y","_law_b","_law_a"]) (js:=[none,none,some 8,some 7]) rfl rfl rfl (dy K rfl false false rfl (B.at "zip") (aa (aM (cw K rfl) (pv 5) ah (fun _ _=>rfl)) (aa (aM (cw K rfl) (pv 6) ah (fun _ _=>rfl)) af))) (fun _ _ _ _ _=>(gD K rfl (n:=2) rfl (aD (aA (i:=0) (show List.Nodup (["_law_x","_law_y","_law_b","_law_a"]:List Str) by decide+kernel) rfl (Or.inl rfl)) (aD (aA (i:=1) (show List.Nodup (["_law_x","_law_y","_law_b","_law_a"]:List Str) by decide+kernel) rfl (Or.inl rfl)) aZ)))) (fun _ _ _ _ _=>bM) (fun _ _ _ _ _=>(ak (x:="abs") dS rfl (B.at "abs") PyProof.Rows.boot_abs (aa (az cB (az aG (pv 0) (pv 2)) (az aG (pv 1) (pv 3))) af)))) af))) (ag (cx (aE hL_min (hr.mono (by decide)) rfl (aa (bE (aa (aE hL_top (hr.mono (by decide)) rfl (aa (pv 5) (aa (pv 2) af))) (aa (aE hL_top (hr.mono (by decide)) rfl (aa (pv 6) (aa (pv 2) af))) af))) af)) (iA (pv 3) (pv 4) set_list)) (ai (aR (aO ka (pv 9) ah (aK _)) (ag (aF (i:=10) nd rfl (Or.inl rfl) (aE hL_frac (hr.mono (by decide)) rfl (aa (az jb (az aG (az aG (aM (cw K rfl) (pv 0) ah (fun _ _=>rfl)) (pv 7)) (pv 8)) ah) (aa (az jb (pv 9) ah) af)))) (ai (cx (aE hL_min (hr.mono (by decide)) rfl (aa (bE (aa (aM (cw K rfl) (pv 3) (pv 4) (fun _ _=>rfl)) (aa (pv 10) af))) af)) (iA (pv 3) (pv 4) set_list)))) aL))))) aL)))) (ai (aB (pv 3))))),?_⟩;obtain⟨ia,xs,rfl,hi,hxs⟩:=ri.lst_inv;obtain⟨ma,mb,rfl,hma,hmb⟩:=cI rm;have lx:=hxs.length;have ll:=row.len;have lr:=okm.len;refine⟨_,rfl,ia,_,rfl,.inl hi,_,_,rfl,rfl,_,rfl,by omega,by omega,fun D H1 n1=>?_⟩;have eN:((xs.length:Int)+1).toNat=os.length+1:=by omega
   rw[eN];refine wj (K:=K) (lo:=0) (n:=os.length+1) (ds:=(ie j rate os 0).map cN) _ n1 (by rw[List.length_map,eO]) (by omega) (gc _) ?_ ?_
   · intro i d H2 Q' ed s2 hq
     have hil:i<=os.length:=by have:=(List.getElem?_eq_some_iff.mp ed).1;rw[List.length_map,eO]at this;omega
     have e0:d=cN 0:=by
      rw[List.getElem?_map,gf j rate os 0 hil]at ed;have:=(Option.some.inj ed).symm;rw[this];congr 1;split
      · next h => have:i=0:=by omega
                  subst this;rfl
      ·rfl
     subst e0;refine⟨aQ _ (Nat.le_of_ble_eq_true rfl),fun z H3 n3=>?_⟩;exact hq _ _ n3.same (aY.rd ⟨z,rfl,bG.of n3.at'⟩)
   intro H2 ys s2 d2 r2;refine⟨_,rfl,ia,_,rfl,.inl (hi.go s2),_,_,rfl,⟨by decide,by decide,by omega,by omega⟩,?_⟩;refine fW (Pv:=fun i σ H5=>aI H H5/\∃(ys:List V)(v1 v2 v3 v4 v5 v6 v7:Option V),H5 D=some (.lst ys)/\bj K H5 ys ((ie j rate os i).map cN)/\σ=[some (.ref ma),some (.ref ia),some (.int rate),some (.ref D),v1,v2,v3,v4,v5,v6,v7]) ?_ ?_ ?_
   ·exact⟨s2,ys,none,none,none,none,none,none,none,d2,r2,rfl⟩
   · rintro i σ H5 hin ⟨s5,ys,v1,v2,v3,v4,v5,v6,v7,dl,rds,rfl⟩
     have hio:i+1<os.length:=by omega
     have eo1:=List.getElem?_eq_getElem (show i<os.length by omega);have eo2:=List.getElem?_eq_getElem hio;obtain⟨x1,ex1⟩:∃x,xs[i]? =some x:=⟨_,List.getElem?_eq_getElem (show i<xs.length by omega)⟩;obtain⟨x2,ex2⟩:∃x,xs[i+1]? =some x:=⟨_,List.getElem?_eq_getElem (show i+1<xs.length by omega)⟩;obtain⟨d1,e1,r1⟩:=hxs.get' i ex1;obtain⟨d2,e2,r2⟩:=hxs.get' (i+1) ex2;have i1:=row.it i d1 _ e1 eo1;have i2:=row.it (i+1) d2 _ e2 eo2;have hown:ownF j rate os (i+1)=betR j rate os[i] os[i+1]:=by show betR j rate (atO os i) (atO os (i+1))=_;rw[Ow.gs eo1,Ow.gs eo2]
     have eT1:((1:Int)+(i:Int)-1).toNat=i:=by omega
     have eT2:((1:Int)+(i:Int)).toNat=i+1:=by omega
     have at1:jJ xs ((1:Int)+(i:Int)-1)=some x1:=bB (by omega) (by rw[eT1];exact ex1);have at2:jJ xs ((1:Int)+(i:Int))=some x2:=bB (by omega) (by rw[eT2];exact ex2);have hi5:=hi.go s5;obtain⟨a1,w1,y1,rfl,h1,ew1,sw1⟩:=gW (RD.mono s5 _ r1) i1;obtain⟨a2,w2,y2,rfl,h2,ew2,sw2⟩:=gW (RD.mono s5 _ r2) i2;have same:os[i]=none\/os[i+1]=none->bj K H5 ys ((ie j rate os (i+1)).map cN):=fun hn=>by
      rw[uI j rate os i (by omega)]
      ·exact rds
      · rw[hown]
        rcases hn with e|e
        ·rw[e];exact Ow.jF _ _ _
        ·rw[e];exact Ow.fN _ _ _
     refine⟨_,rfl,_,rfl,_,_,rfl,rfl,.inl ⟨ia,_,_,_,rfl,rfl,hi5,at1,_,rfl,_,rfl,.inl ⟨ia,_,_,_,rfl,rfl,hi5,at2,_,_,rfl,?_⟩⟩⟩;refine⟨_,rfl,.inr ⟨a1,_,0,.str w1,rfl,rfl,h1,bB (Int.le_refl 0) rfl,.inr ⟨_,_,bQ _,bQ _,sw1,lQ,_,rfl,?_⟩⟩⟩;rw[ew1];cases ho1:os[i]with |none=>exact bw ⟨s5,ys,_,_,_,_,_,_,_,dl,same (.inl ho1),rfl⟩ |some q1=>refine bK ?_;refine⟨_,rfl,.inr ⟨a2,_,0,.str w2,rfl,rfl,h2,bB (Int.le_refl 0) rfl,.inr ⟨_,_,bQ _,bQ _,sw2,lQ,_,rfl,?_⟩⟩⟩;rw[ew2];cases ho2:os[i+1]with |none=>exact bw ⟨s5,ys,_,_,_,_,_,_,_,dl,same (.inr ho2),rfl⟩ |some q2=>
         refine bK ?_;obtain⟨ns,sp⟩:=q1;obtain⟨ms,sq⟩:=q2;rw[ho1]at i1 eo1;rw[ho2]at i2 eo2;have ed1:=dG i1;have ed2:=dG i2;subst ed1 ed2;obtain⟨ok1,p1,p2⟩:=row.ok i ns sp eo1;obtain⟨ok2,q1,q2⟩:=row.ok (i+1) ms sq eo2;have T1:Bd 2000 (topR rate sp):=(Ow.gU p1 p2 rt1 rt2).mono (by decide);have T2:Bd 2000 (topR rate sq):=(Ow.gU q1 q2 rt1 rt2).mono (by decide);have l1:=gO ok1;have l2:=gO ok2;have lq1:=ok1.lead.1;have lq2:=ok2.lead.1;have ln1:ns.length<=3:=by rw[ok1.len];omega
         have ln2:ms.length<=3:=by rw[ok2.len];omega
         have lnm:ms.length=ns.length:=by rw[ok1.len,ok2.len]
         refine⟨_,rfl,_,ns,sp,rfl,RD.mono s5 _ r1,ok1.ne,by omega,fun H6 s6=>?_⟩;have s56:=s5.trans s6;refine⟨_,rfl,_,ms,sq,rfl,RD.mono s56 _ r2,ok2.ne,by omega,fun H7 s7=>?_⟩;refine⟨aQ _ (Nat.le_of_ble_eq_true rfl),fun tq H7' n7'=>?_⟩;refine⟨tq,_,rfl,bG.of n7'.at',rfl,_,_,rfl,_,_,rfl,rfl,?_⟩;have s57:=s56.trans (s7.trans n7'.same);have s67:=s6.trans (s7.trans n7'.same);obtain⟨a1',b1,ea1,ha1,hb1⟩:=cH (RD.mono s57 _ r1);obtain⟨a2',b2,ea2,ha2,hb2⟩:=cH (RD.mono s57 _ r2);cases ea1;cases ea2;refine⟨_,rfl,.inr ⟨a1,_,1,.ref b1,rfl,rfl,ha1,rfl,_,rfl,.inr ⟨a2,_,1,.ref b2,rfl,rfl,ha2,rfl,b1,b2,rfl,⟨_,hb1⟩,⟨_,hb2⟩,fun D4 H8 n8=>?_⟩⟩⟩;refine fC (K:=K) (b1:=false) (b2:=false) (xs:=ns.map V.int) (ys:=ms.map V.int) (ds:=((bp ns ms).map gr).map PyData.int) _ rfl hb1 hb2 n8 (by simp[bp]) (by simp[bp];omega) (cC _) ?_ ?_
         · intro i x y d H9 Q' ex ey ed s9 hq
           obtain⟨a,b,e1,e2,rfl,rfl⟩:=zip2 lnm ex ey;obtain⟨m,em,rfl⟩:=dB ed;rw[List.getElem?_map,xT e1 e2]at em;cases em;have q1:=ok1.bd a (List.mem_of_getElem? e1);have q2:=ok2.bd b (List.mem_of_getElem? e2);refine⟨_,rfl,_,rfl,_,_,rfl,rfl,.of_left (intBits_le_64 (by omega) (by omega)),?_⟩;refine⟨_,rfl,_,rfl,_,_,rfl,rfl,.of_left (intBits_le_64 (by omega) (by omega)),?_⟩;exact⟨_,_,rfl,rfl,_,rfl,hq _ _ (aI.refl _) (bU _)⟩
         intro H9 zs s9 d9 r9;rw[r9.ck]at d9;have zA:bp ns ms≠[]:=by
          have hl:(bp ns ms).length=ns.length:=by simp[bp,lnm]
          intro e;rw[e]at hl;exact ok1.ne (List.length_eq_zero_iff.mp hl.symm)
         refine⟨D4,_,rfl,bc.of d9,by simpa using zA,fun M h1 h2=>?_⟩;have eM:=jj zA h1 h2;subst eM;have s59:=s57.trans s9;have s69:=s67.trans s9;refine⟨_,rfl,_,rfl,_,ns,sp,rate,rfl,RD.mono s59 _ r1,p1,p2,rt1,rt2,fun t1 H10 rt1' s10=>?_⟩;refine⟨_,rfl,_,rfl,_,ms,sq,rate,rfl,RD.mono (s59.trans s10) _ r2,q1,q2,rt1,rt2,fun t2 H11 rt2' s11=>?_⟩;refine⟨aQ _ (Nat.le_of_ble_eq_true rfl),fun lm H12 n12=>?_⟩;have R1:aY K H12 t1 (topR rate sp):=(rt1'.go s11).go n12.same;have R2:aY K H12 t2 (topR rate sq):=rt2'.go n12.same;refine⟨lm,[t1,t2],[topR rate sp,topR rate sq],rfl,bc.of n12.at',⟨R1,T1,R2,T2,trivial⟩,by simp,fun c lv q ec1 ec2 hq=>?_⟩;have hqe:mn (topR rate sp) (topR rate sq)=q:=by
          refine dX ?_ (hq _ (by simp)) (hq _ (by simp))
          match c,ec2 with |0,e2=>cases e2;exact .inl rfl |1,e2=>cases e2;exact .inr rfl
         have rl:aY K H12 lv (mn (topR rate sp) (topR rate sq)):=by
          rw[hqe]
          match c,ec1,ec2 with |0,e1,e2=>cases e1;cases e2;exact R1 |1,e1,e2=>cases e1;cases e2;exact R2
         have s912:=s10.trans (s11.trans n12.same);have s612:=s69.trans s912;have dl12:=s612 _ _ dl;have ly:=rds.length;rw[List.length_map,eO]at ly;have ix1:oT ys.length ((1:Int)+(i:Int))=some (i+1):=by unfold oT;rw[if_pos (by omega),if_pos (by omega),eT2]
         refine⟨_,rfl,_,rfl,D,ys,_,_,rfl,rfl,dl12,ix1,?_⟩;have rds12:=bj.E1 (i:=i+1) dl12 (bj.mono s612 _ rds) rl.rd (gc _) (fP _);have sD:∀{o:HO},aI H (L2.upd H12 D o):=fun{o} b o' e=>by rw[aj (aX e n1.no)];exact s612 b o' (s5 b o' e)
         have tU:fm H12 (L2.upd H12 D (.lst (ys.set (i+1) lv))):=.nP dl12;refine⟨_,rfl,_,_,rfl,rfl,_,rfl,?_⟩;rw[ho1,ho2]at hown;have cO:cornO j ns ms=if ay (bp ns ms)=0 then none else some (Rat.divInt ((j*ay ns*ay ms)^2) ((ay (bp ns ms):Int)^2)):=rfl;show if decide ((ay (bp ns ms):Int)>0)=true then _ else _;by_cases h0:ay (bp ns ms)=0
         · rw[decide_eq_false (by omega)]
           refine bw ?_;rw[if_pos h0]at cO;refine⟨sD,ys.set (i+1) lv,_,_,_,_,_,_,_,au,?_,rfl⟩;rw[<-List.map_set]at rds12;have e:(ie j rate os i).set (i+1) (mn (topR rate sp) (topR rate sq))=ie j rate os (i+1):=by rw[<-oC j rate os i (by omega),hown];show _=List.set _ _ (mnO _ (cornO j ns ms));rw[cO];rfl
           rw[<-e];exact rds12
         · rw[decide_eq_true (by omega)]
           refine bK ?_;rw[if_neg h0]at cO;have jl:(j*ay ns).natAbs<=50*100:=fg (by have:=okm.j1;omega) (by omega);have jl2:(j*ay ns*ay ms).natAbs<=50*100*100:=fg jl (by omega);have cb:=iT (fun z hz=>by have:=ok1.bd z hz;omega) (fun z hz=>by have:=ok2.bd z hz;omega) (ns:=ns) (ms:=ms);have hb':=dU cb;have h64:(2:Nat)^64=18446744073709551616:=by decide
           refine⟨_,rfl,.inr ⟨ma,_,3,.int j,rfl,rfl,hma.go sD,rfl,?_⟩⟩;refine⟨_,rfl,_,_,rfl,rfl,.of_left (intBits_le_64 (by have:=okm.j1;omega) (by have:=okm.j1;omega)),_,rfl,_,_,rfl,rfl,.of_right (intBits_le_64 (by omega) (by omega)),?_⟩;refine⟨_,_,rfl,rfl,⟨by decide,by decide,by rw[h64];omega⟩,_,rfl,_,_,rfl,rfl,⟨by decide,by decide,by rw[h64];omega⟩,_,_,rfl,?_,?_,fun v6 H13 r6 s13=>?_⟩
           · show 0<(ay (bp ns ms):Int)^2
             rw[Int.pow_succ,Int.pow_succ,Int.pow_zero,Int.one_mul];exact Int.mul_pos (by omega) (by omega)
           · refine lP (n:=64) ?_ (by decide)
             show((ay (bp ns ms):Int)^2).natAbs<_;rw[Int.pow_succ,Int.pow_succ,Int.pow_zero,Int.one_mul,h64];have:=fg (a:=(ay (bp ns ms):Int)) (b:=(ay (bp ns ms):Int)) (m:=2000000) (n:=2000000) (by omega) (by omega);omega
           have Rc:aY K H13 v6 (Rat.divInt ((j*ay ns*ay ms)^2) ((ay (bp ns ms):Int)^2)):=r6;have Tc:Bd 2000 (Rat.divInt ((j*ay ns*ay ms)^2) ((ay (bp ns ms):Int)^2)):=(Ow.kx okm.j1.1 okm.j1.2 ok1.bd ok2.bd cO).mono (by decide);generalize Rat.divInt ((j*ay ns*ay ms)^2) ((ay (bp ns ms):Int)^2)=cq at Rc Tc cO;have dl13:=s13 _ _ (au (H:=H12) (a:=D) (o:=.lst (ys.set (i+1) lv)));have at3:jJ (ys.set (i+1) lv) ((1:Int)+(i:Int))=some lv:=bB (by omega) (by rw[eT2,List.getElem?_set_self (by omega)]);have Rl13:aY K H13 lv (mn (topR rate sp) (topR rate sq)):=iy (RD.mono s13 _ (RD.t tU _ (fP _) rl.rd));refine⟨_,rfl,_,rfl,.inl ⟨D,_,_,_,rfl,rfl,bc.of dl13,at3,_,rfl,?_⟩⟩;refine⟨aQ _ (Nat.le_of_ble_eq_true rfl),fun lm2 H14 n14=>?_⟩;have R1':=Rl13.go n14.same;have R2':=Rc.go n14.same;refine⟨lm2,[lv,v6],[mn (topR rate sp) (topR rate sq),cq],rfl,bc.of n14.at',⟨R1',Ow.nT T1 T2,R2',Tc,trivial⟩,by simp,fun c' lv2 q' ec1' ec2' hq'=>?_⟩;have hqe':mn (mn (topR rate sp) (topR rate sq)) cq=q':=by
            refine dX ?_ (hq' _ (by simp)) (hq' _ (by simp))
            match c',ec2' with |0,e2=>cases e2;exact .inl rfl |1,e2=>cases e2;exact .inr rfl
           have rl2:aY K H14 lv2 (mn (mn (topR rate sp) (topR rate sq)) cq):=by
            rw[hqe']
            match c',ec1',ec2' with |0,e1,e2=>cases e1;cases e2;exact R1' |1,e1,e2=>cases e1;cases e2;exact R2'
           have dl14:=n14.same _ _ dl13;refine⟨_,rfl,_,rfl,D,_,_,_,rfl,rfl,dl14,(by rw[List.length_set];exact ix1),?_⟩;have rds14:=bj.E1 (i:=i+1) dl14 (bj.mono (s13.trans n14.same) _ rds12) rl2.rd (by rw[<-List.map_set];exact gc _) (fP _);refine⟨fun b o' e=>by rw[aj (aX e n1.no)];exact n14.same b o' (s13 b o' (sD b o' e)),_,_,_,_,_,_,_,_,au,?_,rfl⟩;rw[List.set_set,List.set_set,<-List.map_set]at rds14;have e:(ie j rate os i).set (i+1) (mn (mn (topR rate sp) (topR rate sq)) cq)=ie j rate os (i+1):=by rw[<-oC j rate os i (by omega),hown];show _=List.set _ _ (mnO _ (cornO j ns ms));rw[cO];rfl
           rw[<-e,List.set_set];exact rds14
   · rintro σ H5 ⟨s5,ys,v1,v2,v3,v4,v5,v6,v7,dl,rds,rfl⟩
     have e:ie j rate os ((xs.length:Int)-1).toNat=ownL j rate os:=by
      apply List.ext_getElem?;intro k;by_cases hk:k<=os.length
      · rw[gf j rate os _ hk,Ow.nV j rate os hk]
        congr 1;split
        ·rfl
        · have:k=os.length:=by omega
          exact(Ow.jo j rate os k this).symm
      ·rw[List.getElem?_eq_none (by rw[eO];omega),List.getElem?_eq_none (by rw[Ow.nU];omega)]
     rw[e]at rds;exact⟨_,rfl,k D ys H5 n1.no dl rds s5⟩
end
end Lw
namespace Lw
open PySem PySem.Spec PyProof.Rows L2 Rt Ln
section
variable {P:Program}{w:World}{K:PySem.W.Frag}{mg:Str->Option Value}{base:Heap}
inductive lU(K:PySem.W.Frag)(vs:List V)(H:Hp)(Q:VK):Prop |mk (m:_)(sq:_)(rs:_)(r:_)(f:_)(j:_)(ti:_)(q:_)(h0:vs=[m,sq])(h1:RD K H m (eZ rs r f j ti))(h2:aY K H sq q)(h3:Bd 2000 q)(h4:1<=ti)(h5:ti<=100)(h6:0<q.num)(h7:∀T,1<=T->T.natAbs<2^2400->jM ti q T=true->jM ti q (T-1)=false->∀H',aI H H'->Q (.int T) H'):lU K vs H Q
def oE(K:PySem.W.Frag):Sp:=fun vs H Q _=>lU K vs H Q
abbrev mO:Stmt:=top 80
theorem oF:aH ["_law_machine_here","_law_square","_law_wanted","_law_low","_law_high","_law_half"] ["_law_machine_here","_law_square"] (ao mO):=⟨rfl,rfl,rfl,by decide+kernel,rfl,by decide+kernel,by decide+kernel⟩
theorem uJ(F:FA K mg "_law_ticks" mO)(B:dv mg):aw P w K mg base "_law_ticks" 1 (oE K):=by
 refine F.has oF (fun vs H Q E h=>?_) (fun _ _ _ _ _ _ us hl=>match us,hl with|[_,_],_=>rfl) (fun f cdv A outer s H vs Q E hr h=>?_)
 · obtain⟨m,sq,rs,r,f,j,ti,q,rfl,_⟩:=h
   rfl
 · obtain⟨m,sq,rs,r,f,j,ti,q,rfl,rm,⟨p,rfl,hp⟩,bq,t1,t2,hq,k⟩:=h
   have nd:=oF.nd;refine⟨_,(ag (aF (i:=2) nd rfl (Or.inl rfl) (az aG (az jb (aM (cw K rfl) (pv 0) ah (fun _ _=>rfl)) ah) (aM (cw K rfl) (pv 1) ah (fun _ _=>rfl)))) (ag (cx (bF (aa ah (aa ah af))) (gD K rfl (n:=2) rfl (aD (aA (i:=3) nd rfl (Or.inl rfl)) (aD (aA (i:=4) nd rfl (Or.inl rfl)) aZ)))) (ag (dQ PassesOwn.never (aO ft (az aG (az aG (pv 4) (pv 4)) (aM (cw K rfl) (pv 1) ah (fun _ _=>rfl))) (pv 2) (aK _)) (ai (fR (i:=3) (j:=4) rfl nd rfl rfl (by decide) rfl rfl (aa (pv 4) (aa (az aG ah (pv 4)) af)) rfl))) (ag (dQ PassesOwn.never (aO ka (az cB (pv 4) (pv 3)) ah (aK _)) (ag (aF (i:=5) nd rfl (Or.inl rfl) (az du (az bo (pv 3) (pv 4)) ah)) (ai (aR (aO ft (az aG (az aG (pv 5) (pv 5)) (aM (cw K rfl) (pv 1) ah (fun _ _=>rfl))) (pv 2) (aK _)) (ai (aF (i:=3) nd rfl (Or.inl rfl) (pv 5))) (ai (aF (i:=4) nd rfl (Or.inl rfl) (pv 5))))))) (ai (aB (pv 4))))))),?_⟩;obtain⟨a,b,rfl,ha,hb⟩:=cI rm;have m1:(ti*ti).natAbs<=100*100:=by rw[Int.natAbs_mul];exact Nat.mul_le_mul (by omega) (by omega)
   have eP:ti^(2:Int).toNat=ti*ti:=by show ti^2=ti*ti;rw[Int.pow_succ,Int.pow_succ,Int.pow_zero,Int.one_mul]
   have lim:(ti*ti*(q.den:Int)).natAbs<2^2399:=by have hd:=bq.den;rw[Int.natAbs_mul];have:(q.den:Int).natAbs=q.den:=rfl;rw[this];have:=ff (n:=14) (m:=2000) (a:=(ti*ti).natAbs) (b:=q.den) (Nat.lt_of_le_of_lt m1 (by decide)) hd;exact Nat.lt_of_lt_of_le this (Nat.pow_le_pow_right (by decide) (by decide))
   have p0:0<ti*ti*(q.den:Int):=Int.mul_pos (Int.mul_pos (by omega) (by omega)) (den_pos q);have e2:(2:Nat)^2400=2^2399*2:=Nat.pow_succ 2 2399;have wtt:∀{t:Int},t.natAbs<2^2400->Wd (t*t):=fun{t} tw=>lP (n:=4800) (by rw[Int.natAbs_mul];exact ff (n:=2400) (m:=2400) tw tw) (by decide);have wt:∀{t:Int},t.natAbs<2^2400->Wd t:=fun{t} tw=>lP tw (by decide);refine⟨_,rfl,.inr ⟨a,_,4,.int ti,rfl,rfl,ha,rfl,?_⟩⟩
   refine ⟨_, _, rfl, rfl, ⟨by decide, by decide, by have:(2:Nat)^64=18446744073709551616:=by decide
                                                     omega⟩,?_⟩;refine⟨_,rfl,.inr ⟨p,_,1,.int q.den,rfl,rfl,hp,rfl,?_⟩⟩;refine⟨_,_,rfl,rfl,by rw[eP];exact .of_left (intBits_le_64 (by omega) (by omega)),?_⟩;have eW:ti^(2:Int).toNat*(q.den:Int)=ti*ti*(q.den:Int):=by rw[eP]
   have enD:∀t:Int,decide (t*t*q.num<ti^(2:Int).toNat*(q.den:Int))= !jM ti q t:=fun t=>by unfold jM;rw[eW,<-decide_not];exact decide_eq_decide.mpr (by omega)
   refine⟨aQ _ (Nat.le_of_ble_eq_true rfl),fun c0 H0 n0=>?_⟩;refine⟨c0,_,rfl,bG.of n0.at',rfl,_,_,rfl,_,_,rfl,rfl,?_⟩;have hp0:=hp.go n0.same;have k':∀T:Int,1<=T->T.natAbs<2^2400->jM ti q T=true->jM ti q (T-1)=false->Q (.int T) H0:=fun T a1 a2 a3 a4=>(k T a1 a2 a3 a4) H0 n0.same;generalize hL:ti*ti*(q.den:Int)=L at lim p0;refine dR (fun σ H2=>H2=H0/\∃(lo x:Int),σ=[some (.ref a),some (.ref p),some (.int (ti^(2:Int).toNat*(q.den:Int))),some (.int lo),some (.int x),none]/\0<=lo/\lo<x/\x<=2*L/\jM ti q lo=false) (fun σ _=>match σ with|[_,_,_,_,some (.int x),_]=>(L-x).toNat|_=>0) ?_ ?_ ?_
   ·exact⟨rfl,0,1,rfl,by omega,by omega,by omega,sO t1⟩
   · rintro σ H2 ⟨rfl,lo,x,rfl,l0,lx,xL,hx⟩
     have xw:x.natAbs<2^2400:=by omega
     refine⟨_,rfl,_,rfl,_,_,rfl,rfl,IntMulOk.of_bits (wt xw).bits (wt xw).bits,_,rfl,.inr ⟨p,_,0,.int q.num,rfl,rfl,hp0,rfl,_,_,rfl,rfl,IntMulOk.of_bits (wtt xw).bits bq.wn.bits,?_⟩⟩;refine⟨_,rfl,_,_,rfl,rfl,_,rfl,?_⟩;show if decide (x*x*q.num<ti^(2:Int).toNat*(q.den:Int))=true then _ else _;rw[enD];cases hen:jM ti q x with
     |false=>
       have hlt:x<L:=by
        by_cases hlt:x<L
        ·exact hlt
        ·rw[yt hq (by omega) (by omega)]at hen;cases hen
       refine bK ?_;refine⟨_,rfl,_,rfl,_,_,rfl,rfl,.of_left (intBits_le_64 (by decide) (by decide)),_,_,rfl,?_⟩;refine⟨⟨rfl,x,2*x,rfl,by omega,by omega,by omega,hen⟩,?_⟩;show(L-2*x).toNat<(L-x).toNat;omega |true=>
       refine bw ?_;refine dR (fun σ H3=>H3=H2/\∃(lo hi:Int)(v:Option V),σ=[some (.ref a),some (.ref p),some (.int (ti^(2:Int).toNat*(q.den:Int))),some (.int lo),some (.int hi),v]/\0<=lo/\lo<hi/\hi<=2*L/\jM ti q lo=false/\jM ti q hi=true) (fun σ _=>match σ with|[_,_,_,some (.int y),some (.int x),_]=>(x-y).toNat|_=>0) ?_ ?_ ?_
       ·exact⟨rfl,lo,x,none,rfl,by omega,by omega,xL,hx,hen⟩
       · rintro σ H3 ⟨rfl,lo,hi,v,rfl,l0,lh,hL2,elo,ehi⟩
         refine⟨_,rfl,_,rfl,_,_,rfl,rfl,_,_,rfl,rfl,_,rfl,?_⟩;refine dk (fun hc=>?_) (fun hc=>?_)
         · have hgt:hi-lo>1:=of_decide_eq_true hc
           refine⟨_,rfl,_,rfl,_,_,rfl,rfl,_,_,rfl,rfl,⟨by decide,lP (n:=2) (by decide) (by decide)⟩,?_⟩;have mw:((lo+hi)/2).natAbs<2^2400:=by omega
           refine⟨_,rfl,_,rfl,_,_,rfl,rfl,IntMulOk.of_bits (wt mw).bits (wt mw).bits,_,rfl,.inr ⟨p,_,0,.int q.num,rfl,rfl,hp0,rfl,_,_,rfl,rfl,IntMulOk.of_bits (wtt mw).bits bq.wn.bits,?_⟩⟩;refine⟨_,rfl,_,_,rfl,rfl,_,rfl,?_⟩;show if decide ((lo+hi)/2*((lo+hi)/2)*q.num<ti^(2:Int).toNat*(q.den:Int))=true then _ else _;rw[enD];cases hm:jM ti q ((lo+hi)/2)with |true=>refine bw ?_;refine⟨_,rfl,⟨rfl,lo,_,_,rfl,l0,by omega,by omega,elo,hm⟩,?_⟩;show((lo+hi)/2-lo).toNat<(hi-lo).toNat;omega |false=>refine bK ?_;refine⟨_,rfl,⟨rfl,_,hi,_,rfl,by omega,by omega,hL2,hm,ehi⟩,?_⟩;show(hi-(lo+hi)/2).toNat<(hi-lo).toNat;omega
         · have hle:¬hi-lo>1:=fun z=>hc (decide_eq_true z)
           have e:lo=hi-1:=by omega
           subst e;exact⟨_,rfl,k' hi (by omega) (by omega) ehi elo⟩
       · rintro σ H2 Q1 Q2 hq ⟨v1,e1,v2,e2,i,j,e3,e4,i2,j2,e5,e6,kk,e7,q⟩
         exact⟨v1,e1,v2,e2,i,j,e3,e4,i2,j2,e5,e6,kk,e7,hq _ _ q⟩
   · rintro σ H2 Q1 Q2 hq ⟨v1,e1,v2,e2,i,j,e3,e4,mo,v3,e5,h⟩
     refine⟨v1,e1,v2,e2,i,j,e3,e4,mo,v3,e5,?_⟩;rcases h with⟨a,xs,ii,x,f1,f2,f3,f4,i2,j2,g1,g2,g3,v4,g4,i3,j3,g5,g6,kk,g7,q⟩|⟨a,xs,ii,x,f1,f2,f3,f4,i2,j2,g1,g2,g3,v4,g4,i3,j3,g5,g6,kk,g7,q⟩
     ·exact .inl ⟨a,xs,ii,x,f1,f2,f3,f4,i2,j2,g1,g2,g3,v4,g4,i3,j3,g5,g6,kk,g7,hq _ _ q⟩
     ·exact .inr ⟨a,xs,ii,x,f1,f2,f3,f4,i2,j2,g1,g2,g3,v4,g4,i3,j3,g5,g6,kk,g7,hq _ _ q⟩
end
end Lw
namespace Lw
open PySem PySem.Spec PyProof.Rows L2 Ln
section
variable {P:Program}{w:World}{K:PySem.W.Frag}{mg:Str->Option Value}{base:Heap}
inductive lV(K:PySem.W.Frag)(vs:List V)(H:Hp)(Q:VK):Prop |mk (v:_)(ns:_)(sp:_)(k:_)(h0:vs=[v,.int k])(h1:RD K H v (cZ ns sp))(h2:iD ns.length 1000 ns)(h3:ns.length<=1000)(h4:0<=k)(h5:k<=10^6)(h6:∀v' H',RD K H' v' (qg ns k)->aI H H'->Q v' H'):lV K vs H Q
def oG(K:PySem.W.Frag):Sp:=fun vs H Q _=>lV K vs H Q
theorem za{k n q:Int}(hk:0<=k)(hq:0<q):(if n<0 then-((2*k*gr n+q)/(2*q))else(2*k*gr n+q)/(2*q))=ek (k*n) q:=by
 have e:2*k*gr n=2*((k*n).natAbs:Int):=by rw[iR,Int.natAbs_mul,Int.natCast_mul,Int.mul_assoc,Int.natAbs_of_nonneg hk]
 rw[e];show(if n<0 then-(fZ (k*n) q)else fZ (k*n) q)=ek (k*n) q;rcases Int.lt_or_le n 0 with hn|hn
 · rw[if_pos hn]
   rcases Int.lt_or_le 0 k with h0|h0
   · have:k*n<0:=Int.mul_neg_of_pos_of_neg h0 hn
     unfold ek;rw[if_neg (by omega)]
   · have e0:k=0:=by omega
     rw[e0,Int.zero_mul,jk hq];have:=jk hq;unfold ek at this;rw[if_pos (by omega)]at this;omega
 · rw[if_neg (by omega)]
   have:0<=k*n:=Int.mul_nonneg hk hn;unfold ek;rw[if_pos this]
abbrev mQ:Stmt:=top 77
theorem oH:aH ["_law_line_here","_law_k","_law_lead_here","_law_found","_law_step","_law_far"] ["_law_line_here","_law_k"] (ao mQ):=⟨rfl,rfl,rfl,by decide+kernel,rfl,by decide+kernel,by decide+kernel⟩
theorem uK(F:FA K mg "_law_stand" mQ)(B:dv mg)(hL_lead:aw P w K mg base "_law_lead" 1 (fq K)):aw P w K mg base "_law_stand" 2 (oG K):=by
 refine F.has oH (fun vs H Q E h=>?_) (fun _ _ _ _ _ _ us hl=>match us,hl with|[_,_],_=>rfl) (fun f cdv A outer s H vs Q E hr h=>?_)
 · obtain⟨v,ns,sp,k,rfl,_⟩:=h
   rfl
 · obtain⟨v,ns,sp,kk,rfl,rd,ok,hz,hk,hk2,k⟩:=h
   have nd:=oH.nd;refine⟨_,(ag (aF (i:=2) nd rfl (Or.inl rfl) (aE hL_lead (hr.mono (by decide)) rfl (aa (pv 0) af))) (ag (aF (i:=3) nd rfl (Or.inl rfl) (bE af)) (ag (fc PassesOwn.never rfl (Bs K rfl (aM (cw K rfl) (pv 0) ah (fun _ _=>rfl))) (aA (i:=4) nd rfl (Or.inl rfl)) (ag (aF (i:=5) nd rfl (Or.inl rfl) (az du (az bo (az aG (az aG ah (pv 1)) (ak (x:="abs") dS rfl (B.at "abs") PyProof.Rows.boot_abs (aa (pv 4) af))) (pv 2)) (az aG ah (pv 2)))) (ai (cj (fA K rfl (pv 3) (aa (aM (cw K rfl) (bE (aa (pv 5) (aa (nv jZ (pv 5)) af))) (bI (x:="int") lj rfl (B.at "int") PyProof.Rows.boot_int (aa (bJ ft (pv 4) ah (aK _)) af)) (fun _ _=>rfl)) af)))))) (ai (aB (bI (x:="tuple") (fe K rfl) rfl (B.at "tuple") PyProof.Rows.boot_tuple (aa (pv 3) af))))))),?_⟩;refine⟨_,rfl,v,ns,sp,rfl,rd,ok.ne,hz,fun H1 s1=>?_⟩;obtain⟨lp,lm⟩:=ok.lead;refine⟨aQ _ (Nat.le_of_ble_eq_true rfl),fun l H2 n2=>?_⟩;obtain⟨a,b,rfl,ha,hb⟩:=cH (RD.mono (s1.trans n2.same) _ rd);refine⟨_,rfl,.inr ⟨a,_,1,.ref b,rfl,rfl,ha,rfl,b,rfl,⟨_,hb⟩,zJ (K:=K) (a:=b) (xs:=ns.map V.int) (fun i σ H3=>aI H1 H3/\bG K H3 b (ns.map V.int)/\H3 l=some (.lst (((ns.map fun z=>ek (kk*z) (ay ns)).take i).map V.int))/\∃v1 v2,σ=[some (.ref a),some (.int kk),some (.int (ay ns)),some (.ref l),v1,v2]) ⟨n2.same,hb,n2.at',none,none,rfl⟩ (fun i σ H3 _ h=>h.2.1) ?_ ?_⟩⟩
   · rintro i x σ H3 hx ⟨s3,hb3,dl,v1,v2,rfl⟩
     obtain⟨n,en⟩:∃n,ns[i]? =some n:=by rw[List.getElem?_map]at hx;cases e:ns[i]? with |none=>rw[e]at hx;cases hx |some n=>exact⟨n,rfl⟩
     cases gM hx en;have nb:=ok.bd n (List.mem_of_getElem? en);have hi:i<ns.length:=(List.getElem?_eq_some_iff.mp en).1;have ab:gr n=(n.natAbs:Int):=iR n;have pb:=sL (k:=kk) (z:=n) (by omega) nb;have eA:2*kk*gr n=2*((kk*n).natAbs:Int):=by rw[ab,Int.natAbs_mul,Int.natCast_mul,Int.mul_assoc,Int.natAbs_of_nonneg hk]
     refine⟨_,rfl,_,_,rfl,rfl,.of_left (intBits_le_64 (by decide) (by decide)),_,rfl,_,rfl,_,_,rfl,rfl,.of_left (intBits_le_64 (by omega) (by omega)),_,rfl,_,_,rfl,rfl,_,rfl,_,_,rfl,rfl,.of_left (intBits_le_64 (by decide) (by decide)),_,_,rfl,rfl,⟨by omega,Hc (by omega)⟩,?_⟩;have fn:=za (n:=n) hk (show(0:Int)<ay ns by omega);refine⟨_,rfl,.inl ⟨rfl,_,bc.of dl⟩,_,rfl,_,rfl,_,rfl,aQ _ (Nat.le_of_ble_eq_true rfl),fun c H4 n4=>?_⟩;refine⟨_,rfl,_,_,rfl,rfl,.inr ⟨_,rfl,?_⟩⟩;have nd4:=n4.same _ _ dl;have hat:jJ ([.int ((2*kk*gr n+(ay ns:Int))/(2*(ay ns:Int))),.int (-((2*kk*gr n+(ay ns:Int))/(2*(ay ns:Int))))]:List V) (if decide (n<0)=true then 1 else 0)=some (.int (ek (kk*n) (ay ns))):=by
      rw[<-fn];by_cases hn:n<0
      ·rw[if_pos (decide_eq_true hn),if_pos hn];rfl
      ·rw[if_neg (fun z=>hn (of_decide_eq_true z)),if_neg hn];rfl
     refine .inl ⟨c,_,_,_,rfl,rfl,bc.of n4.at',hat,?_⟩;refine⟨l,_,_,rfl,rfl,nd4,?_,?_⟩
     · have:(1000:Nat)<sizeLine:=by decide
       rw[List.length_map,List.length_take,List.length_map];omega
     refine⟨fun b o e=>?_,bG.t (.nP nd4) (hb3.go n4.same),?_,_,_,rfl⟩
     ·rw[aj (aX e n2.no)];exact n4.same b o (s3 b o e)
     ·rw[au,List.take_succ,List.getElem?_map,en,List.map_append];rfl
   · rintro σ H3 ⟨s3,hb3,dl,v1,v2,rfl⟩
     rw[List.take_of_length_le (by simp)]at dl;refine⟨_,rfl,l,_,rfl,.inl ⟨bc.of dl,fun t H4 n4=>?_⟩⟩;exact k _ _ (e9 (bG.of n4.at') (fY _)) (s1.trans (s3.trans n4.same))
end
end Lw
set_option maxHeartbeats 2000000
namespace Lw
open PySem PySem.Spec PyProof.Rows L2 Rt Ln Cn Pn Wk Rn
open Ow (topR cornO mnO betR atO ownF leadF ownL OkI OkIs)
section
variable {P:Program}{w:World}{K:PySem.W.Frag}{mg:Str->Option Value}{base:Heap}
theorem df{n:Nat}(h:n+64<cLine):n+1<cLine:=Nat.lt_of_le_of_lt (Nat.add_le_add_left (by decide) n) h
def cK(m p g s r t k q n b c re td:V):List (Key×V):=[(.inr "machine",m),(.inr "place",p),(.inr "goal",g),(.inr "square",s),(.inr "rate",r),(.inr "tool",t),(.inr "mark",k),(.inr "queue",q),(.inr "gone",n),(.inr "brake",b),(.inr "braked",c),(.inr "reach",re),(.inr "told",td)]
section
variable {H:Hp}{a:Addr}{m p g s r t k q n b c re td x:V}
theorem dg{kvs:List (Key×V)}{z:Str}{v:V}(h:H a=some (.dK kvs))(e:fF kvs (.inr z)=some v):pN H a (.str z) (some v):=by rw[<-e];exact pN.k (k:=Sum.inr z) h
theorem dp{kvs kvs':List (Key×V)}{z:Str}{v:V}(h:H a=some (.dK kvs))(e:putK kvs (.inr z) v=kvs')(hl:kvs.length<=13):o3 H a (.str z) v (L2.upd H a (.dK kvs')):=by rw[<-e];exact o3.k (k:=Sum.inr z) h (Nat.lt_of_le_of_lt hl (by decide))
theorem gX:fF (cK m p g s r t k q n b c re td) (.inr "machine")=some m:=by kernel_rfl
theorem tm:fF (cK m p g s r t k q n b c re td) (.inr "place")=some p:=by kernel_rfl
theorem qw:fF (cK m p g s r t k q n b c re td) (.inr "goal")=some g:=by kernel_rfl
theorem gh:fF (cK m p g s r t k q n b c re td) (.inr "square")=some s:=by kernel_rfl
theorem zb:fF (cK m p g s r t k q n b c re td) (.inr "rate")=some r:=by kernel_rfl
theorem dH:fF (cK m p g s r t k q n b c re td) (.inr "queue")=some q:=by kernel_rfl
theorem mR:fF (cK m p g s r t k q n b c re td) (.inr "gone")=some n:=by kernel_rfl
theorem j6:fF (cK m p g s r t k q n b c re td) (.inr "brake")=some b:=by kernel_rfl
theorem oI:fF (cK m p g s r t k q n b c re td) (.inr "braked")=some c:=by kernel_rfl
theorem tD:fF (cK m p g s r t k q n b c re td) (.inr "reach")=some re:=by kernel_rfl
theorem zc:fF (cK m p g s r t k q n b c re td) (.inr "told")=some td:=by kernel_rfl
theorem AK:putK (cK m p g s r t k q n b c re td) (.inr "place") x=cK m x g s r t k q n b c re td:=by kernel_rfl
theorem EZ:putK (cK m p g s r t k q n b c re td) (.inr "goal") x=cK m p x s r t k q n b c re td:=by kernel_rfl
theorem zd:putK (cK m p g s r t k q n b c re td) (.inr "square") x=cK m p g x r t k q n b c re td:=by kernel_rfl
theorem F0:putK (cK m p g s r t k q n b c re td) (.inr "tool") x=cK m p g s r x k q n b c re td:=by kernel_rfl
theorem F1:putK (cK m p g s r t k q n b c re td) (.inr "mark") x=cK m p g s r t x q n b c re td:=by kernel_rfl
theorem ze:putK (cK m p g s r t k q n b c re td) (.inr "gone") x=cK m p g s r t k q x b c re td:=by kernel_rfl
theorem tE:putK (cK m p g s r t k q n b c re td) (.inr "brake") x=cK m p g s r t k q n x c re td:=by kernel_rfl
theorem oJ:putK (cK m p g s r t k q n b c re td) (.inr "braked") x=cK m p g s r t k q n b x re td:=by kernel_rfl
theorem jX:putK (cK m p g s r t k q n b c re td) (.inr "reach") x=cK m p g s r t k q n b c x td:=by kernel_rfl
theorem cW:(cK m p g s r t k q n b c re td).length<=13:=Nat.le_refl _
end
def uL(K:PySem.W.Frag)(H:Hp)(bv cv:V):Rn.jT->Prop |none=>bv= .cG/\∃c,cv= .int c |some (sq,st,gn)=>∃a u,bv= .ref a/\bG K H a [u,.int st]/\aY K H u sq/\cv= .int gn
theorem uL.v{H H':Hp}{bv cv:V}{t:Rn.jT}(s:aW H H')(h:uL K H bv cv t):uL K H' bv cv t:=by cases t with |none=>exact h |some q=>obtain⟨sq,st,gn⟩:=q;obtain⟨a,u,rfl,h1,h2,h3⟩:=h;exact⟨a,u,rfl,bG.v s h1,aY.v s h2,h3⟩
def AL(K:PySem.W.Frag)(H:Hp)(M:dC)(S:cJ)(rv:V):Prop:=rv= .cG\/aY K H rv (fh M S)
theorem AL.v{H H':Hp}{M:dC}{S:cJ}{rv:V}(s:aW H H')(h:AL K H M S rv):AL K H' M S rv:=h.imp id (aY.v s)
structure cA(K:PySem.W.Frag)(H:Hp)(d q td:Addr)(M:dC)(S:cJ):Prop where
 ob:∃mv lv gv sv bv cv rv,H d=some (.dK (cK mv lv gv sv (.int S.rate) (.str S.side) (.str S.mark) (.ref q) (.int S.dn) bv cv rv (.ref td)))/\RD K H mv M.D/\RD K H lv (jL (cg S))/\RD K H gv (jL (bP S))/\aY K H sv S.pc/\uL K H bv cv S.stp/\AL K H M S rv
 qu:∃ys,H q=some (.lst ys)/\bj K H ys S.ds
theorem cA.go{H H':Hp}{d q td:Addr}{M:dC}{S:cJ}(h:cA K H d q td M S)(hn:cD S.ds=true)(s:aW H H')(ea:∀o,H d=some o->H' d=some o)(eq:∀o,H q=some o->H' q=some o):cA K H' d q td M S:=by obtain⟨⟨mv,lv,gv,sv,bv,cv,rv,e,r1,r2,r3,r4,r5,r6⟩,ys,eq',rq⟩:=h;exact⟨⟨mv,lv,gv,sv,bv,cv,rv,ea _ e,RD.v s _ (cm _ _ _ _ _) r1,RD.v s _ (cT _) r2,RD.v s _ (cT _) r3,r4.v s,r5.v s,r6.v s⟩,ys,eq _ eq',bj.v s _ hn rq⟩
theorem cA.same{H H':Hp}{d q td:Addr}{M:dC}{S:cJ}(h:cA K H d q td M S)(hn:cD S.ds=true)(s:aI H H'):cA K H' d q td M S:=h.go hn s.v (fun o e=>s _ _ e) (fun o e=>s _ _ e)
theorem cA.ne{H:Hp}{d q td:Addr}{M:dC}{S:cJ}(h:cA K H d q td M S):d≠q:=by obtain⟨⟨mv,lv,gv,sv,bv,cv,rv,e,_⟩,ys,eq',_⟩:=h;exact mY e eq' (by intro z;cases z)
theorem cA.v{H H':Hp}{d q td:Addr}{M:dC}{S:cJ}(h:cA K H d q td M S)(b:dZ [d,q] H H'):aW H H':=by
 obtain⟨⟨mv,lv,gv,sv,bv,cv,rv,e,_⟩,ys,eq',_⟩:=h;refine b.v fun x hx o eo=>?_;simp only[List.mem_cons,List.not_mem_nil,or_false]at hx;rcases hx with rfl|rfl
 ·rw[e]at eo;cases eo;trivial
 ·rw[eq']at eo;cases eo;trivial
inductive zf(K:PySem.W.Frag)(vs:List V)(H:Hp)(Q:VK):Prop |mk (d:_)(q:_)(td:_)(M:_)(D:_)(S:_)(h0:vs=[.ref d])(h1:cA K H d q td M S)(h2:eR M D S)(h3:M.Ok)(h4:Q (.int (dD M.f S.pc)) H):zf K vs H Q
def Cm(K:PySem.W.Frag):Sp:=fun vs H Q _=>zf K vs H Q
abbrev F2:Stmt:=top 87
theorem Co:aH ["_law_sim_here","_law_each"] ["_law_sim_here"] (ao F2):=⟨rfl,rfl,rfl,by decide+kernel,rfl,by decide+kernel,by decide+kernel⟩
theorem F3(F:FA K mg "_law_sim_stops" F2)(B:dv mg):aw P w K mg base "_law_sim_stops" 1 (Cm K):=by
 refine F.has Co (fun vs H Q E h=>?_) (fun _ _ _ _ _ _ us hl=>match us,hl with|[_],_=>rfl) (fun f cdv A outer s H vs Q E hr h=>?_)
 · obtain⟨d,q,td,M,D,S,rfl,_⟩:=h
   rfl
 · obtain⟨d,q,td,M,D,S,rfl,R,ok,okm,k⟩:=h
   obtain⟨mv,lv,gv,sv,bv,cv,rv,e,r1,r2,r3,⟨pa,rfl,hpa⟩,r5,r6⟩:=R.ob;have nd:=Co.nd;have f50:=okm.f1;obtain⟨ma,mb,rfl,hma,hmb⟩:=cI r1;have bd:Bd 1600 S.pc:=(ok.pd.bd (Rat.le_trans ok.pm (by decide+kernel))).mono (by have:=ok.D2;omega);have hd:0<2*M.f*(S.pc.den:Int):=Int.mul_pos (by omega) (den_pos S.pc);have wd:Wd (2*M.f*(S.pc.den:Int)):=by
    refine lP (n:=1700) ?_ (by decide);rw[Int.natAbs_mul];have h1:(2*M.f).natAbs<2^7:=by omega
    have:=ff h1 bd.den;exact Nat.lt_of_lt_of_le this (Nat.pow_le_pow_right (by decide) (by decide))
   refine⟨_,(ag (aF (i:=1) nd rfl (Or.inl rfl) (az aG (az aG ah (aM (cw K rfl) (aU (df hr.units) (pv 0) aJ (fun _ _=>rfl)) ah (fun _ _=>rfl))) (aM (cw K rfl) (aU (df hr.units) (pv 0) aJ (fun _ _=>rfl)) ah (fun _ _=>rfl)))) (ai (aB (az du (az cB (az bo (aM (cw K rfl) (aU (df hr.units) (pv 0) aJ (fun _ _=>rfl)) ah (fun _ _=>rfl)) (pv 1)) ah) (pv 1))))),?_⟩;refine⟨_,rfl,d,_,rfl,dg e gX,.inr ⟨ma,_,2,.int M.f,rfl,rfl,hma,rfl,_,_,rfl,rfl,.of_left (intBits_le_64 (by decide) (by decide)),?_⟩⟩;refine⟨_,rfl,d,_,rfl,dg e gh,.inr ⟨pa,_,1,_,rfl,rfl,hpa,rfl,_,_,rfl,rfl,.of_left (intBits_le_64 (by omega) (by omega)),?_⟩⟩;refine⟨_,rfl,d,_,rfl,dg e gh,.inr ⟨pa,_,0,_,rfl,rfl,hpa,rfl,_,rfl,_,_,rfl,rfl,_,_,rfl,rfl,_,rfl,_,_,rfl,rfl,⟨hd,wd⟩,?_⟩⟩;exact k
end
end Lw
namespace Lw
open PySem PySem.Spec PyProof.Rows L2 Rt Ln Cn Pn Wk Rn
open Ow (topR cornO mnO betR atO ownF leadF ownL OkI OkIs)
section
variable {P:Program}{w:World}{K:PySem.W.Frag}{mg:Str->Option Value}{base:Heap}
inductive zh(K:PySem.W.Frag)(vs:List V)(H:Hp)(Q:VK):Prop |mk (d:_)(q:_)(td:_)(M:_)(D:_)(S:_)(h0:vs=[.ref d])(h1:cA K H d q td M S)(h2:eR M D S)(h3:M.Ok)(h4:∀H',cA K H' d q td M (fw M S)->dZ [d] H H'->Q (.int (dD M.f S.pc)) H'):zh K vs H Q
def Cp(K:PySem.W.Frag):Sp:=fun vs H Q _=>zh K vs H Q
abbrev F4:Stmt:=top 88
theorem Cq:aH ["_law_sim_here","_law_many"] ["_law_sim_here"] (ao F4):=⟨rfl,rfl,rfl,by decide+kernel,rfl,by decide+kernel,by decide+kernel⟩
theorem F5(F:FA K mg "_law_sim_hold" F4)(B:dv mg)(hL_sim_stops:aw P w K mg base "_law_sim_stops" 1 (Cm K)):aw P w K mg base "_law_sim_hold" 2 (Cp K):=by
 refine F.has Cq (fun vs H Q E h=>?_) (fun _ _ _ _ _ _ us hl=>match us,hl with|[_],_=>rfl) (fun f cdv A outer s H vs Q E hr h=>?_)
 · obtain⟨d,q,td,M,D,S,rfl,_⟩:=h
   rfl
 · obtain⟨d,q,td,M,D,S,rfl,R,ok,okm,k⟩:=h
   obtain⟨mv,lv,gv,sv,bv,cv,rv,e,r1,r2,r3,r4,r5,r6⟩:=R.ob;obtain⟨ys,eq,rq⟩:=R.qu;have dq:=R.ne;have nd:=Cq.nd;refine⟨_,(ag (aF (i:=1) nd rfl (Or.inl rfl) (aE hL_sim_stops (hr.mono (by decide)) rfl (aa (pv 0) af))) (ag (cL (aR (aO vg (aU (df hr.units) (pv 0) aJ (fun _ _=>rfl)) dN (aK _)) (ag (bZ (df hr.units) (pv 0) aJ (bF (aa (aU (df hr.units) (pv 0) aJ (fun _ _=>rfl)) (aa (pv 1) af))) rfl) (ai (bZ (df hr.units) (pv 0) aJ ah rfl))) aL)) (ai (aB (pv 1))))),?_⟩;refine⟨_,rfl,d,q,td,M,D,S,rfl,R,ok,okm,?_⟩;refine⟨fun σ H1=>σ=[some (.ref d),some (.int (dD M.f S.pc))]/\cA K H1 d q td M (fw M S)/\dZ [d] H H1,?_,?_⟩
   · refine⟨_,rfl,d,_,rfl,dg e j6,rfl,_,rfl,?_⟩
     cases hs:S.stp with |some z=>obtain⟨sq,st,gn⟩:=z;have r5':=r5;rw[hs]at r5';obtain⟨a,u,rfl,_⟩:=r5';refine bw ⟨rfl,?_,dZ.refl _ _⟩;unfold fw;rw[hs];exact R |none=>
       have r5':=r5;rw[hs]at r5';obtain⟨rfl,_⟩:=r5';refine bK ?_;refine⟨_,rfl,d,_,rfl,dg e gh,_,rfl,aQ _ (Nat.le_of_ble_eq_true rfl),fun t H1 n1=>?_⟩;have e1:=n1.same _ _ e;refine⟨_,rfl,d,_,rfl,dp e1 tE cW,?_⟩;refine⟨_,rfl,d,_,rfl,dp au oJ cW,rfl,?_,fun b o eb hb=>?_⟩
       · have key:∀X:Hp,(∀b,b≠d->X b=H1 b)->cA K (L2.upd X d (.dK (cK mv lv gv sv (.int S.rate) (.str S.side) (.str S.mark) (.ref q) (.int S.dn) (.ref t) (.int 0) rv (.ref td)))) d q td M (fw M S):=by
           intro X hX;have sv1:aW H1 (L2.upd X d (.dK (cK mv lv gv sv (.int S.rate) (.str S.side) (.str S.mark) (.ref q) (.int S.dn) (.ref t) (.int 0) rv (.ref td)))):=fun b o nb eb=>by
            have hb:b≠d:=fun z=>by rw[z,e1]at eb;cases eb;exact nb trivial
            rw[aj hb,hX b hb];exact eb
           have s01:=n1.same.v.trans sv1;unfold fw;rw[hs];refine⟨⟨mv,lv,gv,sv,.ref t,.int 0,rv,au,RD.v s01 _ (cm _ _ _ _ _) r1,RD.v s01 _ (cT _) r2,RD.v s01 _ (cT _) r3,r4.v s01,⟨t,sv,rfl,bG.v sv1 (bG.of n1.at'),r4.v s01,rfl⟩,r6.v s01⟩,ys,?_,bj.v s01 _ ok.row.no rq⟩;rw[aj dq.symm,hX q dq.symm];exact n1.same _ _ eq
         exact key _ (fun b hb=>by rw[aj hb])
       · have hb':b≠d:=fun z=>hb (by rw[z];exact .head _)
         rw[aj hb',aj hb'];exact n1.same _ _ eb
   · rintro σ H1 ⟨rfl,R1,b1⟩
     exact⟨_,rfl,k _ R1 b1⟩
theorem AM{H:Hp}{a:Addr}{kvs:List (Key×V)}{z:Str}{v:V}{n:Nat}(h:H a=some (.dK kvs))(hl:kvs.length<=n)(hn:n<=13):o3 H a (.str z) v (L2.upd H a (.dK (putK kvs (.inr z) v)))/\(putK kvs (.inr z) v).length<=n+1:=⟨o3.k (k:=Sum.inr z) h (Nat.lt_of_le_of_lt (Nat.le_trans hl hn) (by decide)),Nat.le_trans (fO _ _ _) (Nat.succ_le_succ hl)⟩
theorem AN{mv lv s q' t':V}:putK (putK (putK (putK (putK (putK (putK (putK (putK (gK [] [(Sum.inr "machine",mv),(.inr "place",lv),(.inr "goal",lv),(.inr "square",s)]) (.inr "rate") (.int 100)) (.inr "tool") (.str "up")) (.inr "mark") (.str "")) (.inr "queue") q') (.inr "gone") (.int 0)) (.inr "brake") .cG) (.inr "braked") (.int 0)) (.inr "reach") .cG) (.inr "told") t'=cK mv lv lv s (.int 100) (.str "up") (.str "") q' (.int 0) .cG (.int 0) .cG t':=by kernel_rfl
theorem AO{mv lv s:V}:(gK [] [(Sum.inr "machine",mv),(.inr "place",lv),(.inr "goal",lv),(.inr "square",s)]).length<=4:=by rw[show gK [] [(Sum.inr "machine",mv),(.inr "place",lv),(.inr "goal",lv),(.inr "square",s)]=([(.inr "machine",mv),(.inr "place",lv),(.inr "goal",lv),(.inr "square",s)]:List (Key×V)) by kernel_rfl];exact Nat.le_refl _
inductive zi(K:PySem.W.Frag)(vs:List V)(H:Hp)(Q:VK):Prop |mk (mv:_)(lv:_)(M:_)(pl:_)(h0:vs=[mv,lv])(h1:RD K H mv (dC.D M))(h2:RD K H lv (jL pl))(h3:∀d q td H',cA K H' d q td M (yO pl)->H' td=some (.lst [])->H d=none->H q=none->H td=none->d≠td->q≠td->aI H H'->Q (.ref d) H'):zi K vs H Q
def Cr(K:PySem.W.Frag):Sp:=fun vs H Q _=>zi K vs H Q
abbrev F6:Stmt:=top 82
theorem Ct:aH ["_law_machine_here","_law_place_here","_law_sim_here"] ["_law_machine_here","_law_place_here"] (ao F6):=⟨rfl,rfl,rfl,by decide+kernel,rfl,by decide+kernel,by decide+kernel⟩
theorem F7(F:FA K mg "_law_sim" F6)(B:dv mg):aw P w K mg base "_law_sim" 1 (Cr K):=by
 refine F.has Ct (fun vs H Q E h=>?_) (fun _ _ _ _ _ _ us hl=>match us,hl with|[_,_],_=>rfl) (fun f cdv A outer s H vs Q E hr h=>?_)
 · obtain⟨mv,lv,M,pl,rfl,_⟩:=h
   rfl
 · obtain⟨mv,lv,M,pl,rfl,rm,rl,k⟩:=h
   have nd:=Ct.nd;refine⟨_,(ag (aF (i:=2) nd rfl (Or.inl rfl) (Ag (iW aJ (pv 0) (iW aJ (pv 1) (iW aJ (pv 1) (iW aJ (bF (aa ah (aa ah af))) Af)))) rfl rfl (by simp) (by decide))) (ag (bZ (df hr.units) (pv 2) aJ ah rfl) (ag (bZ (df hr.units) (pv 2) aJ aJ rfl) (ag (bZ (df hr.units) (pv 2) aJ aJ rfl) (ag (bZ (df hr.units) (pv 2) aJ (bE af) rfl) (ag (bZ (df hr.units) (pv 2) aJ ah rfl) (ag (bZ (df hr.units) (pv 2) aJ dN rfl) (ag (bZ (df hr.units) (pv 2) aJ ah rfl) (ag (bZ (df hr.units) (pv 2) aJ dN rfl) (ag (bZ (df hr.units) (pv 2) aJ (bE af) rfl) (ai (aB (pv 2))))))))))))),fun d nd0=>?_⟩;refine⟨_,rfl,_,rfl,_,rfl,aQ _ (Nat.le_of_ble_eq_true rfl),fun t H1 n1=>?_⟩;have td:t≠d:=fun z=>by have:=n1.no;rw[z,au]at this;cases this
   have e1:=n1.same _ _ (au (a:=d) (o:=HO.dK []));refine⟨e1,[(.inr "machine",mv),(.inr "place",lv),(.inr "goal",lv),(.inr "square",.ref t)],rfl,(by show 4<=15;decide),?_⟩;obtain⟨d1,l1⟩:=AM (z:="rate") (v:=.int 100) (H:=L2.upd H1 d _) (a:=d) au AO (by decide);refine⟨_,rfl,d,_,rfl,d1,?_⟩;obtain⟨d2,l2⟩:=AM (z:="tool") (v:=.str "up") (a:=d) au l1 (by decide);refine⟨_,rfl,d,_,rfl,d2,?_⟩;obtain⟨d3,l3⟩:=AM (z:="mark") (v:=.str "") (a:=d) au l2 (by decide);refine⟨_,rfl,d,_,rfl,d3,?_⟩;refine⟨Nat.zero_le _,fun q H2 n2=>?_⟩;obtain⟨d4,l4⟩:=AM (z:="queue") (v:=.ref q) (a:=d) (n2.same _ _ au) l3 (by decide);refine⟨_,rfl,d,_,rfl,d4,?_⟩;obtain⟨d5,l5⟩:=AM (z:="gone") (v:=.int 0) (a:=d) au l4 (by decide);refine⟨_,rfl,d,_,rfl,d5,?_⟩;obtain⟨d6,l6⟩:=AM (z:="brake") (v:=.cG) (a:=d) au l5 (by decide);refine⟨_,rfl,d,_,rfl,d6,?_⟩;obtain⟨d7,l7⟩:=AM (z:="braked") (v:=.int 0) (a:=d) au l6 (by decide);refine⟨_,rfl,d,_,rfl,d7,?_⟩;obtain⟨d8,l8⟩:=AM (z:="reach") (v:=.cG) (a:=d) au l7 (by decide);refine⟨_,rfl,d,_,rfl,d8,?_⟩;refine⟨Nat.zero_le _,fun tl H3 n3=>?_⟩;obtain⟨d9,l9⟩:=AM (z:="told") (v:=.ref tl) (a:=d) (n3.same _ _ au) l8 (by decide);refine⟨_,rfl,d,_,rfl,d9,_,rfl,?_⟩;rw[AN];have s1:∀b o,H b=some o->H1 b=some o:=fun b o eb=>n1.same _ _ (by rw[aj (aX eb nd0)];exact eb);have sU:∀{X:Hp}{o':HO},(∀b o,H b=some o->X b=some o)->∀b o,H b=some o->(L2.upd X d o') b=some o:=fun h b o eb=>by rw[aj (aX eb nd0)];exact h b o eb
   have s2:∀b o,H b=some o->H2 b=some o:=fun b o eb=>n2.same _ _ (sU (sU (sU (sU s1))) b o eb);have s3:∀b o,H b=some o->H3 b=some o:=fun b o eb=>n3.same _ _ (sU (sU (sU (sU (sU s2)))) b o eb);have s4:aI H (L2.upd H3 d (.dK (cK mv lv lv (.ref t) (.int 100) (.str "up") (.str "") (.ref q) (.int 0) .cG (.int 0) .cG (.ref tl)))):=fun b o eb=>sU s3 b o eb;have nu:∀{X:Hp}{o':HO}{y:Addr},(L2.upd X d o') y=none->y≠d/\X y=none:=fun{X o' y} h=>by
    have hy:y≠d:=fun z=>by rw[z,au]at h;cases h
    exact⟨hy,by rw[aj hy]at h;exact h⟩
   have no:∀{X:Hp}{y:Addr},(∀b o,H b=some o->X b=some o)->X y=none->H y=none:=fun{X y} h hy=>by cases e:H y with |none=>rfl |some o=>rw[h y o e]at hy;cases hy
   obtain⟨qd,q0⟩:=nu n2.no;have q1:=(nu (nu (nu q0).2).2).2;obtain⟨td',t0⟩:=nu n3.no;have t1:=(nu (nu (nu (nu t0).2).2).2).2;have qt:q≠tl:=fun z=>by rw[<-z,n2.at']at t1;cases t1
   have ht:∀{X:Hp},X t=some (.tup [.int 0,.int 1])->(L2.upd X d (.dK (cK mv lv lv (.ref t) (.int 100) (.str "up") (.str "") (.ref q) (.int 0) .cG (.int 0) .cG (.ref tl)))) t=some (.tup [.int 0,.int 1]):=fun h=>by rw[aj td];exact h
   refine k d q tl _ ⟨⟨mv,lv,lv,.ref t,.cG,.int 0,.cG,au,RD.mono s4 _ rm,?_,?_,⟨t,rfl,?_⟩,⟨rfl,_,rfl⟩,.inl rfl⟩,[],?_,ba⟩ ?_ nd0 (no s1 q1) (no s2 t1) td'.symm qt s4
   ·exact RD.mono s4 _ rl
   ·exact RD.mono s4 _ rl
   · refine bG.of (ht (n3.same _ _ ?_))
     rw[aj td,aj td,aj td,aj td,aj td];refine n2.same _ _ ?_;rw[aj td,aj td,aj td,aj td];exact n1.at'
   · rw[aj qd]
     refine n3.same _ _ ?_;rw[aj qd,aj qd,aj qd,aj qd,aj qd];exact n2.at'
   ·rw[aj td'];exact n3.at'
end
end Lw
namespace Lw
open PySem PySem.Spec PyProof.Rows L2 Rt Ln Cn Pn Wk Rn
open Ow (topR cornO mnO betR atO ownF leadF ownL OkI OkIs)
section
variable {P:Program}{w:World}{K:PySem.W.Frag}{mg:Str->Option Value}{base:Heap}
theorem jy{pa b:Addr}{pl ns:List Int}{te:TE}{Q:VK}{D:Addr}{H H1:Hp}(hp:bG K H pa (pl.map V.int))(hb:bG K H b (ns.map V.int))(ln:ns.length=pl.length)(hz:pl.length<=1000)(n1:Nw H H1 D (.lst [])) (ht:∀(x y:Int)(H:Hp)(Q:VK),Q (.int (x+y)) H->te [some (.int x),some (.int y)] H Q)(k:∀H2,aI H H2->H2 D=some (.lst ((eK pl ns).map V.int))->Q (.ref D) H2):fk (vW K false false pa b) (m3 K 2 (fz (cS 0) (fz (cS 1) nj))) gC te Q D [none,none] H1:=by
  refine fC (K:=K) (b1:=false) (b2:=false) (xs:=pl.map V.int) (ys:=ns.map V.int) (ds:=(eK pl ns).map PyData.int) [] rfl hp hb n1 (by simp[eL ln,ln]) (by rw[List.length_map,eL ln];exact hz) (cC _) ?_ ?_
  · intro i x y d H2 Q' ex ey ed s2 hq
    obtain⟨m,em,rfl⟩:=dB ed;rw[List.getElem?_map]at ex ey;cases e1:pl[i]? with |none=>rw[e1]at ex;cases ex |some u=>cases e2:ns[i]? with |none=>rw[e2]at ey;cases ey |some v=>rw[e1]at ex;rw[e2]at ey;cases ex;cases ey;rw[ky e1 e2]at em;cases em;exact ht _ _ _ _ (hq _ _ (aI.refl _) (bU _))
  · intro H2 zs s2 d2 r2
    rw[r2.ck]at d2;exact k H2 s2 d2
theorem oK{pa b:Addr}{pl rs:List Int}{te:TE}{Q:VK}{D:Addr}{H H1:Hp}(hp:bG K H pa (pl.map V.int))(hb:bG K H b (rs.map V.int))(ln:pl.length=rs.length)(hz:pl.length<=1000)(n1:Nw H H1 D (.lst [])) (ht:∀(x y:Int)(H:Hp)(Q:VK),Q (.bl (decide (0<=x)&&decide (x<=y))) H->te [some (.int x),some (.int y)] H Q)(k:∀(H2:Hp)(bs:List Bool),aI H H2->H2 D=some (.lst (bs.map V.bl))->bs.all id=zD rs pl->Q (.ref D) H2):fk (vW K false false pa b) (m3 K 2 (fz (cS 0) (fz (cS 1) nj))) gC te Q D [none,none] H1:=by
  refine nN (K:=K) (b1:=false) (b2:=false) (xs:=pl.map V.int) (ys:=rs.map V.int) (bs:=(pl.zip rs).map fun p=>decide (0<=p.1)&&decide (p.1<=p.2)) [] rfl hp hb n1 (by simp) (by simp;omega) (fun i x y b' H2 Q' ex ey eb s2 hq=>?_) (fun H2 s2 d2=>?_)
  · rw[List.getElem?_map]at ex ey
    cases e1:pl[i]? with |none=>rw[e1]at ex;cases ex |some u=>cases e2:rs[i]? with |none=>rw[e2]at ey;cases ey |some v=>rw[e1]at ex;rw[e2]at ey;cases ex;cases ey;rw[List.getElem?_map,List.getElem?_zip_eq_some.mpr (show pl[i]? =some (u,v).1/\rs[i]? =some (u,v).2 from⟨e1,e2⟩)]at eb;cases eb;exact ht _ _ _ _ (hq _ (aI.refl _))
  ·exact k H2 _ s2 d2 (by unfold zD;rw[List.all_map];rfl)
theorem oM(S:cJ)(d:PyData)(o:Itm):bP (kK S d o)=gy (bP S) o:=by unfold bP kK;rw[List.foldl_append];rfl
theorem uM{M:dC}{D:Nat}{S:cJ}(h:eR M D S)(d:PyData)(o:Itm):cg (kK S d o)=cg S:=by
 unfold cg;by_cases h0:S.dn=0
 ·rw[if_pos h0,if_pos (show(kK S d o).dn=0 from h0)];rfl
 · obtain⟨ns,sp,eo,_⟩:=h.first h0
   rw[if_neg h0,if_neg (show¬(kK S d o).dn=0 from h0),eo];have e2:(kK S d o).os[0]? =some (some (ns,sp)):=by show(S.os++[o])[0]? =_;rw[List.getElem?_append_left (List.getElem?_eq_some_iff.mp eo).1];exact eo
   rw[e2];rfl
inductive zj(K:PySem.W.Frag)(vs:List V)(H:Hp)(Q:VK):Prop |mk (d:_)(q:_)(td:_)(M:_)(D:_)(S:_)(v:_)(it:_)(o:_)(h0:vs=[.ref d,v])(h1:cA K H d q td M S)(h2:eR M D S)(h3:M.Ok)(h4:RD K H v it)(h5:uH M.rs.length it o)(h6:(zD M.rs (gy (bP S) o)=false->∀H',aI H H'->Q (.str ("rails "++Str.ofString (toString (S.ds.length:Int)))) H'))(h7:(zD M.rs (gy (bP S) o)=true->S.ds.length=20->∀H',aI H H'->Q (.str "full") H'))(h8:(zD M.rs (gy (bP S) o)=true->S.ds.length<20->∀H',cA K H' d q td M (kK S it o)->dZ [d,q] H H'->Q (.int (S.ds.length+1:Nat)) H')):zj K vs H Q
def Cu(K:PySem.W.Frag):Sp:=fun vs H Q _=>zj K vs H Q
abbrev F8:Stmt:=top 83
theorem Cv:aH ["_law_sim_here","_law_item","_law_goal"] ["_law_sim_here","_law_item"] (ao F8):=⟨rfl,rfl,rfl,by decide+kernel,rfl,by decide+kernel,by decide+kernel⟩
theorem F9(F:FA K mg "_law_sim_feed" F8)(B:dv mg):aw P w K mg base "_law_sim_feed" 1 (Cu K):=by
 refine F.has Cv (fun vs H Q E h=>?_) (fun _ _ _ _ _ _ us hl=>match us,hl with|[_,_],_=>rfl) (fun f cdv A outer s H vs Q E hr h=>?_)
 · obtain⟨d,q,td,M,D,S,v,it,o,rfl,_⟩:=h
   rfl
 · obtain⟨d,q,td,M,D,S,v,it,o,rfl,R,ok,okm,rv,iok,k1,k2,k3⟩:=h
   obtain⟨mv,lv,gv,sv,bv,cv,re,e,r1,r2,r3,r4,r5,r6⟩:=R.ob;obtain⟨ys,eq,rq⟩:=R.qu;have dq:=R.ne;have nd:=Cv.nd;have ly:=rq.length;have l20:=ok.len;have lrs:=okm.len;have gl:(bP S).length=M.rs.length:=j4 _ _ ok.pl ok.FF;have bl:(gy (bP S) o).length=M.rs.length:=mL gl fun ns sp eo=>(iok.ln ns sp eo).1.len;obtain⟨ma,mb,rfl,hma,hmb⟩:=cI r1;refine⟨_,(ag (aF (i:=2) nd rfl (Or.inl rfl) (aU (df hr.units) (pv 0) aJ (fun _ _=>rfl))) (ag (cL (aR (aO (fT K rfl hr.units) (aM (cw K rfl) (pv 1) ah (fun _ _=>rfl)) aJ (aK _)) (ai (aF (i:=2) nd rfl (Or.inl rfl) (bI (x:="tuple") (fe K rfl) rfl (B.at "tuple") PyProof.Rows.boot_tuple (aa (bT (N:=["_law_stand_here","_law_step"]) (js:=[none,none]) rfl rfl rfl (dy K rfl false false rfl (B.at "zip") (aa (pv 2) (aa (aM (cw K rfl) (pv 1) ah (fun _ _=>rfl)) af))) (fun _ _ _ _ _=>(gD K rfl (n:=2) rfl (aD (aA (i:=0) (show List.Nodup (["_law_stand_here","_law_step"]:List Str) by decide+kernel) rfl (Or.inl rfl)) (aD (aA (i:=1) (show List.Nodup (["_law_stand_here","_law_step"]:List Str) by decide+kernel) rfl (Or.inl rfl)) aZ)))) (fun _ _ _ _ _=>bM) (fun _ _ _ _ _=>(az bo (pv 0) (pv 1)))) af)))) aL)) (ag (aR (cf (bh (ak (x:="all") (mi K rfl rfl) rfl (B.at "all") PyProof.Rows.boot_all (aa (bT (N:=["_law_stand_here","_law_rail"]) (js:=[none,none]) rfl rfl rfl (dy K rfl false false rfl (B.at "zip") (aa (pv 2) (aa (aM (cw K rfl) (aU (df hr.units) (pv 0) aJ (fun _ _=>rfl)) ah (fun _ _=>rfl)) af))) (fun _ _ _ _ _=>(gD K rfl (n:=2) rfl (aD (aA (i:=0) (show List.Nodup (["_law_stand_here","_law_rail"]:List Str) by decide+kernel) rfl (Or.inl rfl)) (aD (aA (i:=1) (show List.Nodup (["_law_stand_here","_law_rail"]:List Str) by decide+kernel) rfl (Or.inl rfl)) aZ)))) (fun _ _ _ _ _=>bM) (fun _ _ _ _ _=>(kb jz jz ah (pv 0) (pv 1)))) af)))) (ai (aB (az p5 aJ (bI (x:="str") uA rfl (B.at "str") PyProof.Rows.boot_str (aa (ak (x:="len") (dw K rfl) rfl (B.at "len") PySem.boot_len (aa (aU (df hr.units) (pv 0) aJ (fun _ _=>rfl)) af)) af))))) aL) (ag (aR (aO (fT K rfl hr.units) (ak (x:="len") (dw K rfl) rfl (B.at "len") PySem.boot_len (aa (aU (df hr.units) (pv 0) aJ (fun _ _=>rfl)) af)) ah (aK _)) (ai (aB aJ)) aL) (ag (bZ (df hr.units) (pv 0) aJ (pv 2) rfl) (ag (bZ (df hr.units) (pv 0) aJ dN rfl) (ag (cj (fA K rfl (aU (df hr.units) (pv 0) aJ (fun _ _=>rfl)) (aa (pv 1) af))) (ai (aB (ak (x:="len") (dw K rfl) rfl (B.at "len") PySem.boot_len (aa (aU (df hr.units) (pv 0) aJ (fun _ _=>rfl)) af))))))))))),?_⟩;refine⟨_,rfl,d,_,rfl,dg e qw,?_⟩;refine⟨fun σ H1=>∃ga,σ=[some (.ref d),some v,some (.ref ga)]/\bG K H1 ga ((gy (bP S) o).map V.int)/\aI H H1,?_,?_⟩
   · obtain⟨a,wd,zs,rfl,ha,ew,sw⟩:=gW rv iok.it
     refine⟨_,rfl,.inr ⟨a,_,0,.str wd,rfl,rfl,ha,bB (Int.le_refl 0) rfl,.inr ⟨_,_,bQ _,bQ _,sw,by decide+kernel,?_⟩⟩⟩;rw[ew];refine⟨_,rfl,?_⟩;cases o with |none=>obtain⟨ga,rfl,hg⟩:=gP r3;exact bw ⟨ga,rfl,hg,aI.refl _⟩ |some z=>
       obtain⟨ns,sp⟩:=z;refine bK ?_;have ed:=dG iok.it;subst ed;obtain⟨a',b,ea,ha',hb⟩:=cH rv;cases ea;obtain⟨ga,rfl,hg⟩:=gP r3;have ln:ns.length=(bP S).length:=by rw[gl];exact(iok.ln ns sp rfl).1.len
       refine⟨_,rfl,_,rfl,.inr ⟨a,_,1,.ref b,rfl,rfl,ha',rfl,ga,b,rfl,⟨_,hg⟩,⟨_,hb⟩,fun D1 H1 n1=>?_⟩⟩;refine jy hg hb ln (by omega) n1 (fun x y H Q h=>⟨_,rfl,_,rfl,_,_,rfl,rfl,h⟩) fun H2 s2 d2=>?_;refine⟨D1,_,rfl,.inl ⟨bc.of d2,fun t H3 n3=>?_⟩⟩;exact⟨t,rfl,bG.of n3.at',s2.trans n3.same⟩
   · rintro σ H1 ⟨ga,rfl,hg,s1⟩
     have e1:=s1 _ _ e;refine⟨_,rfl,_,rfl,d,_,rfl,dg e1 gX,.inr ⟨ma,_,0,.ref mb,rfl,rfl,hma.go s1,rfl,ga,mb,rfl,⟨_,hg⟩,⟨_,hmb.go s1⟩,fun D1 H2 n2=>?_⟩⟩;refine oK hg (hmb.go s1) bl (by omega) n2 (fun x y H Q h=>?_) fun H3 bs s3 d3 eb=>?_
     · refine⟨_,rfl,_,_,rfl,rfl,_,rfl,?_⟩
       refine dk (fun h0=>?_) (fun h0=>?_)
       · rw[h0,Bool.true_and]at h
         exact⟨_,rfl,_,_,rfl,rfl,h⟩
       · rw[Bool.eq_false_iff.mpr h0,Bool.false_and]at h
         exact h
     refine⟨D1,_,rfl,bc.of d3,?_⟩;rw[eb];refine⟨_,rfl,?_⟩;have s13:=s1.trans s3;have e3:=s13 _ _ e;have eq3:=s13 _ _ eq;have h24:sizeLine=16777216:=by decide
     cases ho:zD M.rs (gy (bP S) o)with
     |false=>
       refine bK ?_;refine⟨_,rfl,d,_,rfl,dg e3 dH,q,_,rfl,.inl (bc.of eq3),.inl ⟨_,rfl,?_,?_⟩⟩
       · have:ys.length<=20:=by omega
         exact DR (by show(ys.length:Int).natAbs<10^40;omega)
       · have el:((ys.length:Nat):Int)=(S.ds.length:Int):=by rw[ly]
         refine⟨_,_,rfl,rfl,?_,?_⟩
         · rw[el]
           have e6:Str.length "rails "=6:=by decide+kernel
           have:(Str.ofString (toString (S.ds.length:Int))).length<=41:=Ah (by omega);omega
         ·rw[el];exact k1 ho H3 s13 |true=>
       refine bw ?_;refine⟨_,rfl,d,_,rfl,dg e3 dH,q,_,rfl,.inl (bc.of eq3),.inl ⟨_,_,rfl,rfl,_,rfl,?_⟩⟩;refine dk (fun h20=>?_) (fun h20=>?_)
       · have h20:((ys.length:Nat):Int)=20:=of_decide_eq_true h20
         exact k2 ho (by omega) H3 s13
       · have h20:¬((ys.length:Nat):Int)=20:=fun z=>h20 (decide_eq_true z)
         refine⟨_,rfl,_,rfl,d,_,rfl,dp e3 EZ cW,?_⟩;refine⟨_,rfl,d,_,rfl,dp au jX cW,?_⟩;have eqU:∀{X:Hp}{o':HO},X q=some (.lst ys)->(L2.upd X d o') q=some (.lst ys):=fun h=>by rw[aj dq.symm];exact h
         have eq5:=eqU (o':=.dK (cK (.ref ma) lv (.ref ga) sv (.int S.rate) (.str S.side) (.str S.mark) (.ref q) (.int S.dn) bv cv .cG (.ref td))) (eqU (o':=.dK (cK (.ref ma) lv (.ref ga) sv (.int S.rate) (.str S.side) (.str S.mark) (.ref q) (.int S.dn) bv cv re (.ref td))) eq3);refine⟨_,rfl,d,_,rfl,dg au dH,.inl ⟨rfl,_,bc.of eq5⟩,_,rfl,q,ys,_,rfl,rfl,eq5,by omega,?_⟩;have key:∀X:Hp,(∀b,b≠d->X b=H3 b)->X d=some (.dK (cK (.ref ma) lv (.ref ga) sv (.int S.rate) (.str S.side) (.str S.mark) (.ref q) (.int S.dn) bv cv .cG (.ref td)))->Q (.int (S.ds.length+1:Nat)) (L2.upd X q (.lst (ys++[v]))):=by
          intro X hX eX;have b3:dZ [d,q] H (L2.upd X q (.lst (ys++[v]))):=fun b o' eb hb=>by have hd:b≠d:=fun z=>hb (by rw[z];simp);have hq:b≠q:=fun z=>hb (by rw[z];simp);rw[aj hq,hX b hd];exact s13 _ _ eb
          have v0:=R.v b3;have v3:aW H1 (L2.upd X q (.lst (ys++[v]))):=fun b o' nb eb=>by
           have hd:b≠d:=fun z=>by rw[z,e1]at eb;cases eb;exact nb trivial
           have hq:b≠q:=fun z=>by rw[z,s1 _ _ eq]at eb;cases eb;exact nb trivial
           rw[aj hq,hX b hd];exact s3 _ _ eb
          have iv:=iok.it.no;refine k3 ho (by omega) _ ⟨⟨.ref ma,lv,.ref ga,sv,bv,cv,.cG,by rw[aj dq];exact eX,RD.v v0 _ (cm _ _ _ _ _) r1,?_,?_,r4.v v0,r5.v v0,.inl rfl⟩,ys++[v],au,?_⟩ b3
          ·rw[uM ok];exact RD.v v0 _ (cT _) r2
          ·rw[oM];exact lR (bG.v v3 hg)
          ·exact(bj.v v0 _ ok.row.no rq).append (aP (RD.v v0 _ iv rv) ba)
         refine⟨_,rfl,d,_,rfl,dg (by rw[aj dq];exact au) dH,q,_,rfl,.inl (bc.of au),?_⟩;rw[List.length_append,List.length_singleton,ly];exact key _ (fun b hb=>by rw[aj hb,aj hb]) au
end
end Lw
namespace Lw
open PySem PySem.Spec PyProof.Rows L2 Rt Ln Cn Pn Wk Rn
open Ow (topR cornO mnO betR atO ownF leadF ownL OkI OkIs)
section
variable {P:Program}{w:World}{K:PySem.W.Frag}{mg:Str->Option Value}{base:Heap}
theorem kM{z:Int}(h:z.natAbs<2^24):Bd 100 (z:Rat):=⟨by rw[Rat.num_intCast];exact Nat.lt_trans h (by decide),by rw[Rat.den_intCast];decide⟩
theorem oN{H:Hp}{a:Addr}{z:Int}(h:bG K H a [.int z,.int 1]):aY K H (.ref a) (z:Rat):=by refine⟨a,rfl,?_⟩;rw[Rat.num_intCast,Rat.den_intCast];exact h
theorem Fb{H:Hp}{Q:VK}{l:Addr}{u1 u2:V}{x y:Rat}(dl:H l=some (.lst [u1,u2]))(R1:aY K H u1 x)(R2:aY K H u2 y)(b1:Bd 2000 x)(b2:Bd 2000 y)(k:∀v,aY K H v (mn x y)->Q v H):cQ K [.ref l] H Q E0:=by
 refine⟨l,[u1,u2],[x,y],rfl,bc.of dl,⟨R1,b1,R2,b2,trivial⟩,by simp,fun c v q e1 e2 hq=>k v ?_⟩;have e:mn x y=q:=by
  refine dX ?_ (hq _ (by simp)) (hq _ (by simp))
  match c,e2 with |0,e2=>cases e2;exact .inl rfl |1,e2=>cases e2;exact .inr rfl
 rw[e]
 match c,e1,e2 with |0,e1,e2=>cases e1;cases e2;exact R1 |1,e1,e2=>cases e1;cases e2;exact R2
inductive zk(K:PySem.W.Frag)(vs:List V)(H:Hp)(Q:VK):Prop |mk (d:_)(q:_)(td:_)(M:_)(D:_)(S:_)(h0:vs=[.ref d])(h1:cA K H d q td M S)(h2:eR M D S)(h3:M.Ok)(h4:S.os≠[])(h5:∀v H',aY K H' v (fh M S)->aI H H'->Q v H'):zk K vs H Q
def Cw(K:PySem.W.Frag):Sp:=fun vs H Q _=>zk K vs H Q
abbrev Fc:Stmt:=top 84
theorem Cy:aH ["_law_sim_here","_law_machine_here","_law_items","_law_bounds_here","_law_reach_here","_law_border"] ["_law_sim_here"] (ao Fc):=⟨rfl,rfl,rfl,by decide+kernel,rfl,by decide+kernel,by decide+kernel⟩
theorem Fd(F:FA K mg "_law_reach" Fc)(B:dv mg)(hL_bounds:aw P w K mg base "_law_bounds" 3 (z9 K))(hL_sum:aw P w K mg base "_law_sum" 2 (kT (·+·) K))(hL_lead:aw P w K mg base "_law_lead" 1 (fq K))(hL_min:aw P w K mg base "_law_min" 2 (cQ K)):aw P w K mg base "_law_reach" 4 (Cw K):=by
 refine F.has Cy (fun vs H Q E h=>?_) (fun _ _ _ _ _ _ us hl=>match us,hl with|[_],_=>rfl) (fun fa cdv A outer s H vs Q E hr h=>?_)
 · obtain⟨d,q,td,M,D,S,rfl,_⟩:=h
   rfl
 · obtain⟨d,q,td,M,D,S,rfl,R,ok,okm,hne,k⟩:=h
   obtain⟨mv,lv,gv,sv,bv,cv,re,e,r1,r2,r3,r4,r5,r6⟩:=R.ob;obtain⟨ys,eq,rq⟩:=R.qu;have nd:=Cy.nd;have ly:=rq.length;have l20:=ok.len;have ll:=ok.row.len;have hpos:1<=S.os.length:=by cases e:S.os with|nil=>exact(hne e).elim|cons _ _=>simp
   have f50:=okm.f1;have lrs:=okm.len;have hB:=Ow.mC okm.j1.1 okm.j1.2 ok.rt1 ok.rt2 ok.row.FD;have hN:=Ow.rj M.j S.rate S.os;have h0:=Ow.jo M.j S.rate S.os S.os.length rfl;have hL:∀i m,leadF S.os i=some m->(2*M.f*(m:Int)).natAbs<2^24:=fun i m e=>oh okm.f1.1 okm.f1.2 (og ok.row.FD e);have FB:∀i,i<=S.os.length->Bd 1700 (fl S.os.length (leadF S.os) (2*M.f) (ownF M.j S.rate S.os) i):=fun i hi=>(BA (fun i _=>hB i) hL i hi).mono (by omega);have FN:=Gy (n:=S.os.length) (L:=leadF S.os) (f:=2*M.f) (g:=ownF M.j S.rate S.os) (by omega) (fun i _=>hN i);obtain⟨ma,mb,rfl,hma,hmb⟩:=cI r1;refine⟨_,(ag (fR (i:=1) (j:=2) rfl nd rfl rfl (by decide) rfl rfl (aa (aU (df hr.units) (pv 0) aJ (fun _ _=>rfl)) (aa (aU (df hr.units) (pv 0) aJ (fun _ _=>rfl)) af)) rfl) (ag (aF (i:=3) nd rfl (Or.inl rfl) (aE hL_bounds (hr.mono (by decide)) rfl (aa (pv 1) (aa (pv 2) (aa (aU (df hr.units) (pv 0) aJ (fun _ _=>rfl)) af))))) (ag (aF (i:=4) nd rfl (Or.inl rfl) (bF (aa ah (aa ah af)))) (ag (fc PassesOwn.never rfl (uw rfl (B.at "range") (aa (az cB (ak (x:="len") (dw K rfl) rfl (B.at "len") PySem.boot_len (aa (pv 2) af)) ah) (aa ah (aa (nv jZ ah) af)))) (aA (i:=5) nd rfl (Or.inl rfl)) (ag (cL (aR (aO (fT K rfl hr.units) (aM (cw K rfl) (aM (cw K rfl) (pv 2) (pv 5) (fun _ _=>rfl)) ah (fun _ _=>rfl)) aJ (aK _)) (ai (aF (i:=4) nd rfl (Or.inl rfl) (aE hL_sum (hr.mono (by decide)) rfl (aa (pv 4) (aa (bF (aa (az aG (az aG ah (aM (cw K rfl) (pv 1) ah (fun _ _=>rfl))) (aE hL_lead (hr.mono (by decide)) rfl (aa (aM (cw K rfl) (pv 2) (pv 5) (fun _ _=>rfl)) af))) (aa ah af))) af))))) aL)) (ai (aF (i:=4) nd rfl (Or.inl rfl) (aE hL_min (hr.mono (by decide)) rfl (aa (bE (aa (pv 4) (aa (aM (cw K rfl) (pv 3) (pv 5) (fun _ _=>rfl)) af))) af)))))) (ai (aB (pv 4))))))),?_⟩;refine⟨_,rfl,d,_,rfl,dg e gX,_,rfl,d,_,rfl,dg e dH,_,_,rfl,?_⟩;refine⟨_,rfl,_,rfl,_,rfl,d,_,rfl,dg e zb,?_⟩;refine⟨.ref ma,.ref q,S.rate,M.rs,M.r,M.f,M.j,M.t,S.ds,S.os,rfl,r1,okm,gH (bc.of eq) rq,ok.row,by omega,ok.rt1,ok.rt2,fun l zs H1 nl dl rz s1=>?_⟩;refine⟨aQ _ (Nat.le_of_ble_eq_true rfl),fun t H2 n2=>?_⟩;have s2:=s1.trans n2.same;refine⟨_,rfl,q,_,rfl,.inl (bc.of (s2 _ _ eq)),_,_,rfl,rfl,_,rfl,_,_,rfl,⟨by omega,by omega,by decide,by decide⟩,?_⟩;have eN:((ys.length:Int)-1-0).toNat=S.os.length-1:=by omega
   rw[eN];have rz:bj K H1 zs ((lst S.os.length (ownF M.j S.rate S.os)).map cN):=rz;have lz:=rz.length;rw[List.length_map,fL]at lz;refine wU (Pv:=fun i σ H5=>aI H2 H5/\∃v w5,aY K H5 v (fl S.os.length (leadF S.os) (2*M.f) (ownF M.j S.rate S.os) (S.os.length-i))/\σ=[some (.ref d),some (.ref ma),some (.ref q),some (.ref l),some v,w5]) ?_ ?_ ?_
   · refine⟨aI.refl _,.ref t,none,?_,rfl⟩
     rw[Nat.sub_zero,ur,h0];exact⟨t,rfl,bG.of n2.at'⟩
   · rintro i σ H5 hin ⟨s5,v,w5,rv,rfl⟩
     obtain⟨c,hc⟩:∃c,S.os.length-1-i=c:=⟨_,rfl⟩;have hcl:c<S.os.length:=by omega
     have eI:((ys.length:Int)-1-(i:Int))=(c:Int):=by omega
     rw[eI];have s25:=s2.trans s5;have ec1:S.os.length-i=c+1:=by omega
     rw[ec1]at rv;obtain⟨x,hx⟩:∃x,ys[c]? =some x:=⟨_,List.getElem?_eq_getElem (show c<ys.length by omega)⟩;obtain⟨dd,ed,rd⟩:=rq.get' c hx;obtain⟨o,eo,it⟩:=ok.row.get ed;have atx:jJ ys (c:Int)=some x:=bB (by omega) (by simpa using hx);obtain⟨z0,ez0⟩:∃z,zs[c]? =some z:=⟨_,List.getElem?_eq_getElem (show c<zs.length by omega)⟩;have R0:aY K H1 z0 (ownF M.j S.rate S.os c):=by obtain⟨d1,e1,r1'⟩:=rz.get' c ez0;rw[List.getElem?_map,fM _ (show c<=S.os.length by omega)]at e1;cases e1;exact iy r1'
     have at0:jJ zs (c:Int)=some z0:=bB (by omega) (by simpa using ez0);have eq5:=s25 _ _ eq;obtain⟨a,wd,yw,rfl,h1,ew,sw⟩:=gW (RD.mono s25 _ rd) it;have ei:S.os.length-(i+1)=c:=by omega
     refine⟨fun σ H6=>aI H5 H6/\∃v' x',aY K H6 v' x'/\Bd 2000 x'/\mn x' (ownF M.j S.rate S.os c)=fl S.os.length (leadF S.os) (2*M.f) (ownF M.j S.rate S.os) c/\σ=[some (.ref d),some (.ref ma),some (.ref q),some (.ref l),some v',some (.int c)],?_,?_⟩
     · refine⟨_,rfl,_,rfl,.inl ⟨q,_,_,_,rfl,rfl,bc.of eq5,atx,.inr ⟨a,_,0,.str wd,rfl,rfl,h1,bB (Int.le_refl 0) rfl,.inr ⟨_,_,bQ _,bQ _,sw,lQ,_,rfl,?_⟩⟩⟩⟩
       rw[ew];cases o with |none=>
         refine bw ⟨aI.refl _,v,_,rv,(FB (c+1) (by omega)).mono (by decide),?_,rfl⟩;have hz:ownF M.j S.rate S.os c=0:=by cases c with |zero=>rfl |succ c'=>show betR M.j S.rate (atO S.os c') (atO S.os (c'+1))=0;rw[Ow.gs eo,Ow.fN]
         rw[lK hcl (kF eo),hz];exact dX (.inr rfl) (FN (c+1) (by omega)) (Rat.le_refl) |some z=>obtain⟨ns,sp⟩:=z;refine bK ?_;have ed':=dG it;subst ed';obtain⟨okn,_,_⟩:=ok.row.ok c ns sp eo;have us:=hL c _ (gx eo);refine⟨_,rfl,_,rfl,.inr ⟨ma,_,2,.int M.f,rfl,rfl,hma.go s25,rfl,_,_,rfl,rfl,.of_left (intBits_le_64 (by decide) (by decide)),?_⟩⟩;refine⟨_,rfl,_,rfl,.inl ⟨q,_,_,_,rfl,rfl,bc.of eq5,atx,?_⟩⟩;refine⟨_,ns,sp,rfl,RD.mono s25 _ rd,okn.ne,by rw[okn.len];omega,fun H6 s6=>?_⟩;refine⟨_,_,rfl,rfl,.of_left (intBits_le_64 (by omega) (by omega)),?_⟩;refine⟨aQ _ (Nat.le_of_ble_eq_true rfl),fun tq H7 n7=>?_⟩;refine⟨v,.ref tq,_,_,rfl,(rv.go s6).go n7.same,oN (bG.of n7.at'),(FB (c+1) (by omega)).mono (by decide),(kM us).mono (by decide),fun u H8 ru s8=>?_⟩;refine⟨s6.trans (n7.same.trans s8),u,_,ru,(mz (FB (c+1) (by omega)) us).mono (by decide),?_,rfl⟩;rw[gT hcl (gx eo)];exact dX ((gJ _ _).symm.imp id id) (cY _ _) (bW _ _)
     · rintro σ H6 ⟨s6,v',x',rv',bx,ex,rfl⟩
       have s16:=n2.same.trans (s5.trans s6);refine⟨_,rfl,_,rfl,_,rfl,.inl ⟨l,_,_,_,rfl,rfl,bc.of (s16 _ _ dl),at0,?_⟩⟩;refine⟨aQ _ (Nat.le_of_ble_eq_true rfl),fun l2 H7 n7=>?_⟩;refine Fb n7.at' (rv'.go n7.same) (R0.go (s16.trans n7.same)) bx ((hB c).mono (by decide)) fun u ru=>?_;refine⟨s5.trans (s6.trans n7.same),u,_,?_,rfl⟩;rw[ei,<-ex];exact ru
   · rintro σ H5 ⟨s5,v,w5,rv,rfl⟩
     have e1:S.os.length-(S.os.length-1)=1:=by omega
     rw[e1]at rv;exact⟨_,rfl,k v H5 rv (s2.trans s5)⟩
end
end Lw
namespace Lw
open PySem PySem.Spec PyProof.Rows L2 Rt Ln Cn Pn Wk Rn
open Ow (topR cornO mnO betR atO ownF leadF ownL OkI OkIs)
section
variable {P:Program}{w:World}{K:PySem.W.Frag}{mg:Str->Option Value}{base:Heap}
theorem uN{pl ns:List Int}(h:ns.length=pl.length)(k:Nat):eK (eK pl (mK ns k)) (gd ns k)=eK pl (mK ns (k+1)):=by apply List.ext_getElem?;intro i;unfold eK mK gd;simp only[List.getElem?_zipWith,List.getElem?_map];cases pl[i]? <;>cases ns[i]? <;>simp;omega
theorem uO{pl ns:List Int}(h:ns.length=pl.length)(hq:0<ay ns):eK pl (mK ns 0)=pl:=by
 apply List.ext_getElem?;intro i;unfold eK mK;simp only[List.getElem?_zipWith,List.getElem?_map];by_cases hi:i<pl.length
 · rw[List.getElem?_eq_getElem hi,List.getElem?_eq_getElem (show i<ns.length by omega)]
   simp[jk (show(0:Int)<(ay ns:Int) by omega)]
 ·rw[List.getElem?_eq_none (by omega)]
theorem zl{ns:List Int}(hq:0<ay ns):mK ns (ay ns)=ns:=by
 unfold mK;have:(fun z=>ek ((ay ns:Int)*z) (ay ns:Int))=fun z=>z:=by funext z;exact wu (by omega)
 rw[this,List.map_id']
theorem zm{S:cJ}{ns:List Int}{sp:Int}(eo:S.os[0]? =some (some (ns,sp)))(h:ns.length=S.pl.length)(hq:0<ay ns):cg S=eK S.pl (mK ns S.dn):=by
 unfold cg;by_cases h0:S.dn=0
 ·rw[if_pos h0,h0];exact(uO h hq).symm
 ·rw[if_neg h0,eo]
theorem zo{M:dC}{S:cJ}{ns:List Int}{sp:Int}(eo:S.os[0]? =some (some (ns,sp)))(h:ns.length=S.pl.length)(hq:0<ay ns)(hd:S.dn<ay ns):eK (cg S) (gd ns S.dn)=cg (jI ns (fi M S ns sp)):=by
 rw[zm eo h hq,uN h];unfold jI;by_cases he:S.dn+1=ay ns
 · rw[if_pos (show(fi M S ns sp).dn=ay ns from he)]
   obtain⟨os',eos⟩:∃os',S.os=some (ns,sp)::os':=by cases e:S.os with |nil=>rw[e]at eo;simp at eo |cons a r=>rw[e]at eo;cases eo;exact⟨r,rfl⟩
   have e1:((S.dn:Int)+1)=(ay ns:Int):=by omega
   rw[e1,zl hq];unfold cg iC;have:(fi M S ns sp).os=some (ns,sp)::os':=eos;rw[this];rfl
 · rw[if_neg (show¬(fi M S ns sp).dn=ay ns from he)]
   unfold cg;rw[if_neg (show¬(fi M S ns sp).dn=0 from Nat.succ_ne_zero _)];have:(fi M S ns sp).os[0]? =some (some (ns,sp)):=eo;rw[this];show _=eK S.pl (mK ns ((S.dn+1:Nat):Int));rfl
theorem tF{M:dC}{S:cJ}{ns:List Int}{sp:Int}(eo:S.os[0]? =some (some (ns,sp))):bP (jI ns (fi M S ns sp))=bP S:=by
 unfold jI;split
 · obtain⟨os',eos⟩:∃os',S.os=some (ns,sp)::os':=by cases e:S.os with |nil=>rw[e]at eo;simp at eo |cons a r=>rw[e]at eo;cases eo;exact⟨r,rfl⟩
   unfold bP iC;have:(fi M S ns sp).os=some (ns,sp)::os':=eos;rw[this,eos];rfl
 ·rfl
theorem tG(a b c:Rat):mn (mn b a) c=mn (mn a b) c:=by rw[rF b a]
theorem tH(a b c d:Rat):mn (mn (mn b a) c) d=mn (mn (mn a b) c) d:=by rw[rF b a]
theorem oO{sq:Rat}{a b:Int}(hb:b≠0):Rat.divInt (sq.num*a) ((sq.den:Int)*b)=sq*Rat.divInt a b:=by
 conv=>rhs;rw[<-Rat.num_divInt_den sq]
 rw[Rat.divInt_mul_divInt]
end
end Lw
set_option maxHeartbeats 4000000
namespace Lw
open PySem PySem.Spec PyProof.Rows L2 Rt Ln Cn Pn Wk Rn
open Ow (topR cornO mnO betR atO ownF leadF ownL OkI OkIs)
section
variable {P:Program}{w:World}{K:PySem.W.Frag}{mg:Str->Option Value}{base:Heap}
theorem uP{pa b:Addr}{xs ys:List Int}{te:TE}{Q:VK}{D:Addr}{H H1:Hp}(hp:bG K H pa (xs.map V.int))(hb:bG K H b (ys.map V.int))(ln:ys.length=xs.length)(hz:xs.length<=1000)(n1:Nw H H1 D (.lst [])) (ht:∀(x y:Int)(H:Hp)(Q:VK),Q (.int (y-x)) H->te [some (.int x),some (.int y)] H Q)(k:∀H2,aI H H2->H2 D=some (.lst ((List.zipWith (fun x y=>y-x) xs ys).map V.int))->Q (.ref D) H2):fk (vW K false false pa b) (m3 K 2 (fz (cS 0) (fz (cS 1) nj))) gC te Q D [none,none] H1:=by
  refine fC (K:=K) (b1:=false) (b2:=false) (xs:=xs.map V.int) (ys:=ys.map V.int) (ds:=(List.zipWith (fun x y=>y-x) xs ys).map PyData.int) [] rfl hp hb n1 (by simp[ln]) (by rw[List.length_map,List.length_zipWith];omega) (cC _) ?_ ?_
  · intro i x y d H2 Q' ex ey ed s2 hq
    obtain⟨m,em,rfl⟩:=dB ed;rw[List.getElem?_map]at ex ey;cases e1:xs[i]? with |none=>rw[e1]at ex;cases ex |some u=>cases e2:ys[i]? with |none=>rw[e2]at ey;cases ey |some v=>rw[e1]at ex;rw[e2]at ey;cases ex;cases ey;rw[List.getElem?_zipWith,e1,e2]at em;cases em;exact ht _ _ _ _ (hq _ _ (aI.refl _) (bU _))
  · intro H2 zs s2 d2 r2
    rw[r2.ck]at d2;exact k H2 s2 d2
theorem Fe(ns:List Int)(k:Nat):List.zipWith (fun x y=>y-x) (mK ns (k:Int)) (mK ns ((k:Int)+1))=gd ns k:=by apply List.ext_getElem?;intro i;unfold mK gd;simp only[List.getElem?_zipWith,List.getElem?_map];cases ns[i]? <;>simp
theorem lW{H:Hp}{ys:List V}{ds:List PyData}(h:bj K H ys ds):bj K H (ys.eraseIdx 0) ds.tail:=by have:=h.drop 1;rw[List.drop_one,List.drop_one]at this;rw[List.eraseIdx_zero];exact this
theorem tI{M:dC}{D:Nat}{S:cJ}(ok:eR M D S):(cg S).length=M.rs.length:=by
 unfold cg;split
 ·exact ok.pl
 · split
   ·next ns sp eo=>rw[eL (by rw[ok.pl];simp[mK];exact(ok.row.ok 0 ns sp eo).1.len)];exact ok.pl
   ·exact ok.pl
theorem cX{t u:TS}{D:Ends}{σ:L2.St}{H:Hp}(h:∀R:TS,(∀D' σ' H',u D' σ' H'->R D' σ' H')->uY t R D σ H):uY t u D σ H:=h u fun _ _ _ z=>z
inductive zp(K:PySem.W.Frag)(vs:List V)(H:Hp)(Q:VK):Prop |mk (d:_)(q:_)(td:_)(M:_)(D:_)(S:_)(ns:_)(sp:_)(h0:vs=[.ref d])(h1:cA K H d q td M S)(h2:eR M D S)(h3:M.Ok)(h4:S.os[0]? =some (some (ns,sp)))(h5:¬Halt S.pc S.stp)(h6:∀v H',RD K H' v (iz M S ns sp)->cA K H' d q td M (jI ns (fi M S ns sp))->dZ [d,q] H H'->Q v H'):zp K vs H Q
def Cz(K:PySem.W.Frag):Sp:=fun vs H Q _=>zp K vs H Q
abbrev Ff:Stmt:=top 85
theorem CB:aH ["_law_sim_here","_law_machine_here","_law_line_here","_law_w","_law_rest","_law_reach_here","_law_tops","_law_square","_law_behind","_law_start","_law_many","_law_more","_law_row"] ["_law_sim_here"] (ao Ff):=⟨rfl,rfl,rfl,by decide+kernel,rfl,by decide+kernel,by decide+kernel⟩
theorem Fg(F:FA K mg "_law_sim_step" Ff)(B:dv mg)(hL_lead:aw P w K mg base "_law_lead" 1 (fq K))(hL_reach:aw P w K mg base "_law_reach" 4 (Cw K))(hL_top:aw P w K mg base "_law_top" 2 (pY K))(hL_sum:aw P w K mg base "_law_sum" 2 (kT (·+·) K))(hL_frac:aw P w K mg base "_law_frac" 1 (iY K))(hL_stand:aw P w K mg base "_law_stand" 2 (oG K))(hL_min:aw P w K mg base "_law_min" 2 (cQ K))(hL_ticks:aw P w K mg base "_law_ticks" 1 (oE K)):aw P w K mg base "_law_sim_step" 5 (Cz K):=by
 refine F.has CB (fun vs H Q E h=>?_) (fun _ _ _ _ _ _ us hl=>match us,hl with|[_],_=>rfl) (fun fa cdv A outer s H vs Q E hr h=>?_)
 · obtain⟨d,q,td,M,D,S,ns,sp,rfl,_⟩:=h
   rfl
 · obtain⟨d,q,td,M,D,S,ns,sp,rfl,R,ok,okm,eo,nh,k⟩:=h
   obtain⟨mv,lv,gv,sv,bv,cv,rv,e,r1,r2,r3,r4,r5,r6⟩:=R.ob;obtain⟨ys,eq,rq⟩:=R.qu;have dq:=R.ne;have nd:=CB.nd;have ll:=ok.row.len;have l20:=ok.len;have lrs:=okm.len;have D1:=ok.D1;have D2:=ok.D2;have r50:=okm.r1;have f50:=okm.f1;have hl0:0<S.os.length:=(List.getElem?_eq_some_iff.mp eo).1;have hne:S.os≠[]:=fun z=>by rw[z]at hl0;simp at hl0
   obtain⟨dd,ed⟩:∃dd,S.ds[0]? =some dd:=⟨_,List.getElem?_eq_getElem (show 0<S.ds.length by omega)⟩;obtain⟨y,ey,ry⟩:=rq.get 0 ed;have ed':=dG (ok.row.it 0 dd _ ed eo);subst ed';obtain⟨okn,sp1,sp2⟩:=ok.row.ok 0 ns sp eo;have l100:=gO okn;have lpos:=okn.lead.1;have hd:S.dn<ay ns:=by
    rcases ok.dn with z|⟨ns',sp',e1,e2⟩
    ·rw[z];exact lpos
    ·rw[eo]at e1;cases e1;exact e2
   obtain⟨Rd,Rl⟩:=qq ok.raw okm hne;have td14:=pJ S.rate sp;have tl:=mD sp1 sp2 ok.rt1 ok.rt2;obtain⟨ma,mb,rfl,hma,hmb⟩:=cI r1;refine⟨_,(ag (fR (i:=1) (j:=2) rfl nd rfl rfl (by decide) rfl rfl (aa (aU (df hr.units) (pv 0) aJ (fun _ _=>rfl)) (aa (aM (cw K rfl) (aU (df hr.units) (pv 0) aJ (fun _ _=>rfl)) ah (fun _ _=>rfl)) af)) rfl) (ag (aF (i:=3) nd rfl (Or.inl rfl) (aU (df hr.units) (pv 0) aJ (fun _ _=>rfl))) (ag (aF (i:=4) nd rfl (Or.inl rfl) (az cB (aE hL_lead (hr.mono (by decide)) rfl (aa (pv 2) af)) (aU (df hr.units) (pv 0) aJ (fun _ _=>rfl)))) (ag (cL (aR (aO vg (aU (df hr.units) (pv 0) aJ (fun _ _=>rfl)) dN (aK _)) (ai (bZ (df hr.units) (pv 0) aJ (aE hL_reach (hr.mono (by decide)) rfl (aa (pv 0) af)) rfl)) aL)) (ag (aF (i:=5) nd rfl (Or.inl rfl) (aU (df hr.units) (pv 0) aJ (fun _ _=>rfl))) (ag (aF (i:=6) nd rfl (Or.inl rfl) (bE (aa (aE hL_top (hr.mono (by decide)) rfl (aa (pv 2) (aa (aU (df hr.units) (pv 0) aJ (fun _ _=>rfl)) af))) af))) (ag (aF (i:=7) nd rfl (Or.inl rfl) (az (uc K rfl) (pv 6) (bE (aa (aE hL_sum (hr.mono (by decide)) rfl (aa (pv 3) (aa (bF (aa (aM (cw K rfl) (pv 1) ah (fun _ _=>rfl)) (aa ah af))) af))) (aa (aE hL_sum (hr.mono (by decide)) rfl (aa (pv 5) (aa (bF (aa (az aG (aM (cw K rfl) (pv 1) ah (fun _ _=>rfl)) (az cB (az aG ah (pv 4)) ah)) (aa ah af))) af))) af))))) (ag (aF (i:=8) nd rfl (Or.inl rfl) (az (uc K rfl) (pv 6) (bE (aa (aE hL_sum (hr.mono (by decide)) rfl (aa (pv 3) (aa (bF (aa (az aG ah (aM (cw K rfl) (pv 1) ah (fun _ _=>rfl))) (aa ah af))) af))) (aa (aE hL_sum (hr.mono (by decide)) rfl (aa (pv 5) (aa (bF (aa (az aG (az aG ah (aM (cw K rfl) (pv 1) ah (fun _ _=>rfl))) (az cB (pv 4) ah)) (aa ah af))) af))) af))))) (ag (cL (aR (aO iG (aU (df hr.units) (pv 0) aJ (fun _ _=>rfl)) dN (aK _)) (ag (cx (aU (df hr.units) (pv 0) aJ (fun _ _=>rfl)) (gD K rfl (n:=2) rfl (aD (aA (i:=9) nd rfl (Or.inl rfl)) (aD (aA (i:=10) nd rfl (Or.inl rfl)) aZ)))) (ag (bZ (df hr.units) (pv 0) aJ (az bo (aU (df hr.units) (pv 0) aJ (fun _ _=>rfl)) ah) rfl) (ag (aF (i:=11) nd rfl (Or.inl rfl) (az cB (pv 10) (aU (df hr.units) (pv 0) aJ (fun _ _=>rfl)))) (ag (cj (fA K rfl (pv 7) (aa (aE hL_frac (hr.mono (by decide)) rfl (aa (az aG (aM (cw K rfl) (pv 9) ah (fun _ _=>rfl)) (az bo (az aG ah (pv 11)) ah)) (aa (az aG (az aG (aM (cw K rfl) (pv 9) ah (fun _ _=>rfl)) ah) (pv 10)) af))) af))) (ai (cj (fA K rfl (pv 8) (aa (aE hL_frac (hr.mono (by decide)) rfl (aa (az aG (aM (cw K rfl) (pv 9) ah (fun _ _=>rfl)) (pv 11)) (aa (az aG (aM (cw K rfl) (pv 9) ah (fun _ _=>rfl)) (pv 10)) af))) af)))))))) aL)) (ag (aF (i:=12) nd rfl (Or.inl rfl) (bI (x:="tuple") (fe K rfl) rfl (B.at "tuple") PyProof.Rows.boot_tuple (aa (bT (N:=["_law_a","_law_b"]) (js:=[none,none]) rfl rfl rfl (dy K rfl false false rfl (B.at "zip") (aa (aE hL_stand (hr.mono (by decide)) rfl (aa (pv 2) (aa (aU (df hr.units) (pv 0) aJ (fun _ _=>rfl)) af))) (aa (aE hL_stand (hr.mono (by decide)) rfl (aa (pv 2) (aa (az bo (aU (df hr.units) (pv 0) aJ (fun _ _=>rfl)) ah) af))) af))) (fun _ _ _ _ _=>(gD K rfl (n:=2) rfl (aD (aA (i:=0) (show List.Nodup (["_law_a","_law_b"]:List Str) by decide+kernel) rfl (Or.inl rfl)) (aD (aA (i:=1) (show List.Nodup (["_law_a","_law_b"]:List Str) by decide+kernel) rfl (Or.inl rfl)) aZ)))) (fun _ _ _ _ _=>bM) (fun _ _ _ _ _=>(az cB (pv 1) (pv 0)))) af))) (ag (bZ (df hr.units) (pv 0) aJ (bI (x:="tuple") (fe K rfl) rfl (B.at "tuple") PyProof.Rows.boot_tuple (aa (bT (N:=["_law_stand_here","_law_step"]) (js:=[none,none]) rfl rfl rfl (dy K rfl false false rfl (B.at "zip") (aa (aU (df hr.units) (pv 0) aJ (fun _ _=>rfl)) (aa (pv 12) af))) (fun _ _ _ _ _=>(gD K rfl (n:=2) rfl (aD (aA (i:=0) (show List.Nodup (["_law_stand_here","_law_step"]:List Str) by decide+kernel) rfl (Or.inl rfl)) (aD (aA (i:=1) (show List.Nodup (["_law_stand_here","_law_step"]:List Str) by decide+kernel) rfl (Or.inl rfl)) aZ)))) (fun _ _ _ _ _=>bM) (fun _ _ _ _ _=>(az bo (pv 0) (pv 1)))) af)) rfl) (ag (bZ (df hr.units) (pv 0) aJ (aE hL_min (hr.mono (by decide)) rfl (aa (pv 8) af)) rfl) (ag (bZ (df hr.units) (pv 0) aJ (az bo (aU (df hr.units) (pv 0) aJ (fun _ _=>rfl)) ah) rfl) (ag (cL (aR (aO (fT K rfl hr.units) (pv 4) ah (aK _)) (ag (cj (qX K rfl (aU (df hr.units) (pv 0) aJ (fun _ _=>rfl)) (aa ah af))) (ag (bZ (df hr.units) (pv 0) aJ ah rfl) (ai (bZ (df hr.units) (pv 0) aJ dN rfl)))) aL)) (ag (aF (i:=7) nd rfl (Or.inl rfl) (aE hL_min (hr.mono (by decide)) rfl (aa (pv 7) af))) (ai (aB (bF (aa aJ (aa (pv 12) (aa (aE hL_ticks (hr.mono (by decide)) rfl (aa (pv 1) (aa (pv 7) af))) (aa (pv 7) af)))))))))))))))))))))),?_⟩;refine cX fun R1 hR1=>?_;refine⟨_,rfl,d,_,rfl,dg e gX,_,rfl,d,_,rfl,dg e dH,.inl ⟨q,_,0,y,rfl,rfl,bc.of eq,bB (Int.le_refl 0) ey,_,_,rfl,?_⟩⟩;refine hR1 _ _ _ ?_;refine cX fun R2 hR2=>?_;refine⟨_,rfl,d,_,rfl,dg e gh,?_⟩;refine hR2 _ _ _ ?_;refine cX fun R3 hR3=>?_;refine⟨_,rfl,y,ns,sp,rfl,ry,okn.ne,by rw[okn.len];omega,fun H1 s1=>?_⟩;refine⟨_,rfl,d,_,rfl,dg (s1 _ _ e) mR,_,_,rfl,rfl,?_⟩;refine hR3 _ _ _ ?_;refine⟨fun σ H2=>∃rv' w5 w6 w7 w8 w9 w10 w11 w12,σ=[some (.ref d),some (.ref ma),some y,some sv,some (.int ((ay ns:Int)-S.dn)),w5,w6,w7,w8,w9,w10,w11,w12]/\dZ [d] H H2/\H2 d=some (.dK (cK (.ref ma) lv gv sv (.int S.rate) (.str S.side) (.str S.mark) (.ref q) (.int S.dn) bv cv rv' (.ref td)))/\aY K H2 rv' (fh M S),?_,?_⟩
   · refine⟨_,rfl,d,_,rfl,dg (s1 _ _ e) tD,rfl,_,rfl,?_⟩
     rcases r6 with rfl|r6
     · refine bK ?_
       refine⟨_,rfl,d,q,td,M,D,S,rfl,R.same ok.row.no s1,ok,okm,hne,fun v H2 r2' s2=>?_⟩;have e2:=s2 _ _ (s1 _ _ e);refine⟨_,rfl,d,_,rfl,dp e2 jX cW,?_⟩;have v2:aW H2 (L2.upd H2 d (.dK (cK (.ref ma) lv gv sv (.int S.rate) (.str S.side) (.str S.mark) (.ref q) (.int S.dn) bv cv v (.ref td)))):=.upd e2 trivial;refine⟨v,_,_,_,_,_,_,_,_,rfl,fun b o eb hb=>?_,au,r2'.v v2⟩;have hb':b≠d:=fun z=>hb (by rw[z];exact .head _);rw[aj hb'];exact s2 _ _ (s1 _ _ eb)
     · obtain⟨ra,rfl,hra⟩:=r6
       refine bw ⟨_,_,_,_,_,_,_,_,_,rfl,.of s1,s1 _ _ e,ra,rfl,hra.go s1⟩
   · rintro σ H2 ⟨rv',w5,w6,w7,w8,w9,w10,w11,w12,rfl,hh2⟩
     have b2:=hh2.1;have e2:=hh2.2.1;have rR:=hh2.2.2;have v2:aW H H2:=b2.v fun x hx o' eo'=>by rw[List.mem_singleton]at hx;rw[hx,e]at eo';cases eo';trivial
     have R0:=r4.v v2;have ry2:=RD.v v2 _ (gL ns sp) ry;have hma2:=bG.v v2 hma;have l1:1<=(ay ns:Int)-S.dn:=by omega
     obtain⟨left,el⟩:∃left,(ay ns:Int)-S.dn=left:=⟨_,rfl⟩;have l2:left<=100:=by omega
     rw[el]at l1⊢;have h24:(2:Int)^24=16777216:=by decide
     have fl1:(M.f*(2*left-1)).natAbs<=50*200:=by rw[Int.natAbs_mul];exact Nat.mul_le_mul (by omega) (by omega)
     have fl1':0<=M.f*(2*left-1):=Int.mul_nonneg (by omega) (by omega);have fl2:(2*M.f*(left-1)).natAbs<=100*100:=by rw[Int.natAbs_mul];exact Nat.mul_le_mul (by omega) (by omega)
     have fl2':0<=2*M.f*(left-1):=Int.mul_nonneg (by omega) (by omega);have pcB:Bd 2000 S.pc:=(ok.pd.bd (Rat.le_trans ok.pm (by decide+kernel))).mono (by omega);have RB:Bd 2000 (fh M S):=(Rd.bd (Rat.le_trans Rl (by decide+kernel))).mono (by decide);have tB:Bd 2000 (topR S.rate sp):=(td14.bd (Rat.le_trans tl (by decide+kernel))).mono (by decide);have B1:Bd 2000 (S.pc+(M.r:Rat)):=oz ok.pd ok.pm (by omega) (by omega) (by omega);have B2:Bd 2000 (fh M S+((M.f*(2*left-1):Int):Rat)):=oz Rd Rl fl1' (by omega) (by omega);have B3:Bd 2000 (S.pc+((2*M.r:Int):Rat)):=oz ok.pd ok.pm (by omega) (by omega) (by omega);have B4:Bd 2000 (fh M S+((2*M.f*(left-1):Int):Rat)):=oz Rd Rl fl2' (by omega) (by omega);dsimp only;refine cX fun R10 hR10=>?_;refine⟨_,rfl,d,_,rfl,dg e2 tD,?_⟩;refine hR10 _ _ _ ?_;refine cX fun R11 hR11=>?_;refine⟨_,rfl,_,rfl,d,_,rfl,dg e2 zb,y,ns,sp,S.rate,rfl,ry2,sp1,sp2,ok.rt1,ok.rt2,fun tv H3 rt s3=>?_⟩;have rt:aY K H3 tv (topR S.rate sp):=rt;refine⟨aQ _ (Nat.le_of_ble_eq_true rfl),fun lt H4 n4=>?_⟩;have s24:=s3.trans n4.same;refine hR11 _ _ _ ?_;refine cX fun R12 hR12=>?_;refine⟨_,rfl,_,rfl,_,rfl,.inr ⟨ma,_,1,.int M.r,rfl,rfl,hma2.go s24,rfl,aQ _ (Nat.le_of_ble_eq_true rfl),fun t5 H5 n5=>?_⟩⟩;refine⟨sv,.ref t5,_,_,rfl,(R0.go s24).go n5.same,oN (bG.of n5.at'),pcB,(kM (by omega)).mono (by decide),fun u1 H6 ru1 s6=>?_⟩;have s26:=s24.trans (n5.same.trans s6);refine⟨_,rfl,_,rfl,.inr ⟨ma,_,2,.int M.f,rfl,rfl,hma2.go s26,rfl,_,rfl,_,_,rfl,rfl,.of_left (intBits_le_64 (by decide) (by decide)),_,_,rfl,rfl,_,_,rfl,rfl,.of_left (intBits_le_64 (by omega) (by omega)),aQ _ (Nat.le_of_ble_eq_true rfl),fun t7 H7 n7=>?_⟩⟩;refine⟨rv',.ref t7,_,_,rfl,(rR.go s26).go n7.same,oN (bG.of n7.at'),RB,(kM (by omega)).mono (by decide),fun u2 H8 ru2 s8=>?_⟩;refine⟨aQ _ (Nat.le_of_ble_eq_true rfl),fun l9 H9 n9=>?_⟩;have s49:=(n5.same.trans s6).trans ((n7.same.trans s8).trans n9.same);refine⟨lt,l9,_,_,rfl,rfl,bc.of (s49 _ _ n4.at'),bc.of n9.at',by show 3<=sizeLine;decide,fun lm H10 n10=>?_⟩;have s410:=s49.trans n10.same;have s210:=s24.trans s410;refine hR12 _ _ _ ?_;refine⟨_,rfl,_,rfl,_,rfl,.inr ⟨ma,_,1,.int M.r,rfl,rfl,hma2.go s210,rfl,_,_,rfl,rfl,.of_left (intBits_le_64 (by decide) (by decide)),aQ _ (Nat.le_of_ble_eq_true rfl),fun t11 H11 n11=>?_⟩⟩;refine⟨sv,.ref t11,_,_,rfl,(R0.go s210).go n11.same,oN (bG.of n11.at'),pcB,(kM (by omega)).mono (by decide),fun u3 H12 ru3 s12=>?_⟩;have s212:=s210.trans (n11.same.trans s12);refine⟨_,rfl,_,rfl,.inr ⟨ma,_,2,.int M.f,rfl,rfl,hma2.go s212,rfl,_,_,rfl,rfl,.of_left (intBits_le_64 (by decide) (by decide)),_,rfl,_,_,rfl,rfl,_,_,rfl,rfl,.of_left (intBits_le_64 (by omega) (by omega)),aQ _ (Nat.le_of_ble_eq_true rfl),fun t13 H13 n13=>?_⟩⟩;refine⟨rv',.ref t13,_,_,rfl,(rR.go s212).go n13.same,oN (bG.of n13.at'),RB,(kM (by omega)).mono (by decide),fun u4 H14 ru4 s14=>?_⟩;refine⟨aQ _ (Nat.le_of_ble_eq_true rfl),fun l15 H15 n15=>?_⟩;have s1015:=(n11.same.trans s12).trans ((n13.same.trans s14).trans n15.same);refine⟨lt,l15,_,_,rfl,rfl,bc.of ((s410.trans s1015) _ _ n4.at'),bc.of n15.at',by show 3<=sizeLine;decide,fun le H16 n16=>?_⟩;have s1016:=s1015.trans n16.same;have s216:=s210.trans s1016;have e16:=s216 _ _ e2;have T16:=rt.go (n4.same.trans (s410.trans s1016));have U1:=ru1.go ((n7.same.trans s8).trans (n9.same.trans (n10.same.trans s1016)));have U2:=ru2.go (n9.same.trans (n10.same.trans s1016));have U3:=ru3.go ((n13.same.trans s14).trans (n15.same.trans n16.same));have U4:=ru4.go (n15.same.trans n16.same);have dm:H16 lm=some (.lst [tv,u1,u2]):=s1016 _ _ n10.at';have de:H16 le=some (.lst [tv,u3,u4]):=n16.at';have s29:=s24.trans s49;have s215:=s210.trans s1015;have dlm:d≠lm:=fun z=>by have:=n10.no;rw[<-z,s29 _ _ e2]at this;cases this
     have dle:d≠le:=fun z=>by have:=n16.no;rw[<-z,s215 _ _ e2]at this;cases this
     have lml:lm≠le:=fun z=>by have:=n16.no;rw[<-z,s1015 _ _ n10.at']at this;cases this
     have nlm:H lm=none:=by cases e':H lm with |none=>rfl |some o=>have:=s29 _ _ (b2 _ _ e' (by rw[List.mem_singleton];exact dlm.symm));rw[n10.no]at this;cases this
     have nle:H le=none:=by cases e':H le with |none=>rfl |some o=>have:=s215 _ _ (b2 _ _ e' (by rw[List.mem_singleton];exact dle.symm));rw[n16.no]at this;cases this
     have vH16:aW H H16:=v2.trans s216.v;refine⟨fun σ HA=>∃cv' w9 w10 w11 w12 um ue,σ=[some (.ref d),some (.ref ma),some y,some sv,some (.int left),some rv',some (.ref lt),some (.ref lm),some (.ref le),w9,w10,w11,w12]/\dZ [d,lm,le] H16 HA/\HA d=some (.dK (cK (.ref ma) lv gv sv (.int S.rate) (.str S.side) (.str S.mark) (.ref q) (.int S.dn) bv cv' rv' (.ref td)))/\uL K HA bv cv' (rC S.stp)/\HA lm=some (.lst um)/\HA le=some (.lst ue)/\(∀H8 Q',aW HA H8->H8 lm=some (.lst um)->(∀v,aY K H8 v (gA M.r M.f S.pc (topR S.rate sp) (fh M S) left S.stp)->Q' v H8)->cQ K [.ref lm] H8 Q' E0)/\(∀H8 Q',aW HA H8->H8 le=some (.lst ue)->(∀v,aY K H8 v (iV M.r M.f S.pc (topR S.rate sp) (fh M S) left S.stp)->Q' v H8)->cQ K [.ref le] H8 Q' E0),?_,?_⟩
     · refine⟨_,rfl,d,_,rfl,dg e16 j6,rfl,_,rfl,?_⟩
       cases hs:S.stp with |none=>
         have r5':=r5.v vH16;rw[hs]at r5';have r5'':=r5';obtain⟨rfl,_⟩:=r5';refine bw ⟨cv,_,_,_,_,_,_,rfl,dZ.refl _ _,e16,r5'',dm,de,fun H8 Q' sV d8 kq=>mM d8 (T16.v sV) (U1.v sV) (U2.v sV) tB B1 B2 fun v rv=>kq v ?_,fun H8 Q' sV d8 kq=>mM d8 (T16.v sV) (U3.v sV) (U4.v sV) tB B3 B4 fun v rv=>kq v ?_⟩
         ·rw[tG]at rv;exact rv
         ·rw[tG]at rv;exact rv |some z=>
         obtain⟨sq,st,gn⟩:=z;have r5':=r5.v vH16;rw[hs]at r5';have sk:=ok.stp;rw[hs]at sk nh;obtain⟨g1,g2,g3⟩:=gb sk ok.pd.nn nh;obtain⟨gn0,gn1,st1,sqd,sql,_,_⟩:=sk;obtain⟨ta,su,rfl,hta,⟨sa,rfl,hsa⟩,rfl⟩:=r5';refine bK ?_;have sqB:Bd 2000 sq:=(sqd.bd sql).mono (by omega);refine⟨_,rfl,d,_,rfl,dg e16 j6,ta,_,rfl,hta,rfl,_,_,rfl,_,_,rfl,rfl,?_⟩;refine⟨_,rfl,d,_,rfl,dg e16 oI,_,_,rfl,rfl,_,rfl,d,_,rfl,dp e16 oJ cW,?_⟩;refine⟨_,rfl,_,rfl,d,_,rfl,dg au oI,_,_,rfl,rfl,?_⟩;have vA:aW H16 (L2.upd H16 d (.dK (cK (.ref ma) lv gv sv (.int S.rate) (.str S.side) (.str S.mark) (.ref q) (.int S.dn) (.ref ta) (.int (gn+1)) rv' (.ref td)))):=.upd e16 trivial;have dmA:(L2.upd H16 d (.dK (cK (.ref ma) lv gv sv (.int S.rate) (.str S.side) (.str S.mark) (.ref q) (.int S.dn) (.ref ta) (.int (gn+1)) rv' (.ref td)))) lm=some (.lst [tv,u1,u2]):=by rw[aj dlm.symm];exact dm
         have deA:(L2.upd H16 d (.dK (cK (.ref ma) lv gv sv (.int S.rate) (.str S.side) (.str S.mark) (.ref q) (.int S.dn) (.ref ta) (.int (gn+1)) rv' (.ref td)))) le=some (.lst [tv,u3,u4]):=by rw[aj dle.symm];exact de
         have eA:(L2.upd H16 d (.dK (cK (.ref ma) lv gv sv (.int S.rate) (.str S.side) (.str S.mark) (.ref q) (.int S.dn) (.ref ta) (.int (gn+1)) rv' (.ref td)))) d=some (.dK (cK (.ref ma) lv gv sv (.int S.rate) (.str S.side) (.str S.mark) (.ref q) (.int S.dn) (.ref ta) (.int (gn+1)) rv' (.ref td))):=au;have bA:∀b o,b≠d->H16 b=some o->(L2.upd H16 d (.dK (cK (.ref ma) lv gv sv (.int S.rate) (.str S.side) (.str S.mark) (.ref q) (.int S.dn) (.ref ta) (.int (gn+1)) rv' (.ref td)))) b=some o:=fun b o hb eb=>by rw[aj hb];exact eb
         generalize L2.upd H16 d (.dK (cK (.ref ma) lv gv sv (.int S.rate) (.str S.side) (.str S.mark) (.ref q) (.int S.dn) (.ref ta) (.int (gn+1)) rv' (.ref td)))=HA at vA dmA deA eA bA⊢;have hsA:=bG.v vA hsa;have hden:=den_pos sq;have dW:∀z:Int,0<z->z<=2000->0<(sq.den:Int)*z/\Wd ((sq.den:Int)*z):=fun z h1 h2=>by refine⟨Int.mul_pos hden h1,lP (n:=2011) ?_ (by decide)⟩;rw[Int.natAbs_mul];exact ff sqB.den (show z.natAbs<2^11 by omega)
         have h24:sizeLine=16777216:=by decide
         refine⟨_,rfl,.inl ⟨rfl,_,bc.of dmA⟩,_,rfl,.inr ⟨sa,_,0,_,rfl,rfl,hsA,rfl,_,rfl,_,_,rfl,rfl,.of_left (intBits_le_64 (by decide) (by decide)),_,_,rfl,rfl,_,_,rfl,rfl,.of_right (intBits_le_64 (by omega) (by omega)),?_⟩⟩;refine⟨_,rfl,.inr ⟨sa,_,1,_,rfl,rfl,hsA,rfl,_,_,rfl,rfl,.of_right (intBits_le_64 (by decide) (by decide)),_,rfl,_,_,rfl,rfl,.of_right (intBits_le_64 (by omega) (by omega)),?_⟩⟩;have W1:=dW (2*st) (by omega) (by omega);rw[<-Int.mul_assoc]at W1;refine⟨_,_,rfl,W1.1,W1.2,fun x1 HB rx1 sB=>?_⟩;have ex1:Rat.divInt (sq.num*(2*(st-(gn+1))+1)) ((sq.den:Int)*2*st)=sq*Rat.divInt (2*(st-gn-1)+1) (2*st):=by rw[Int.mul_assoc,oO (show(2*st:Int)≠0 by omega),show st-(gn+1)=st-gn-1 by omega]
         have ex2:Rat.divInt (sq.num*(st-(gn+1))) ((sq.den:Int)*st)=sq*Rat.divInt (st-gn-1) st:=by rw[oO (show(st:Int)≠0 by omega),show st-(gn+1)=st-gn-1 by omega]
         have rx1:aY K HB x1 (sq*Rat.divInt (2*(st-gn-1)+1) (2*st)):=by rw[<-ex1];exact rx1
         have pB:Bd 2000 (sq*Rat.divInt (2*(st-gn-1)+1) (2*st)):=((sqd.bd sql).mul (eG (n:=12) (by omega) (by omega) (by omega))).mono (by omega);have pB2:Bd 2000 (sq*Rat.divInt (st-gn-1) st):=((sqd.bd sql).mul (eG (n:=12) (by omega) (by omega) (by omega))).mono (by omega);have dmB:=sB _ _ dmA;refine⟨lm,_,_,rfl,rfl,dmB,by show 3<sizeLine;omega,?_⟩;have vC:aW HB (L2.upd HB lm (.lst ([tv,u1,u2]++[x1]))):=.upd dmB trivial;have deC:(L2.upd HB lm (.lst ([tv,u1,u2]++[x1]))) le=some (.lst [tv,u3,u4]):=by rw[aj lml.symm];exact sB _ _ deA
         have dmC:(L2.upd HB lm (.lst ([tv,u1,u2]++[x1]))) lm=some (.lst [tv,u1,u2,x1]):=au;have eC:(L2.upd HB lm (.lst ([tv,u1,u2]++[x1]))) d=some (.dK (cK (.ref ma) lv gv sv (.int S.rate) (.str S.side) (.str S.mark) (.ref q) (.int S.dn) (.ref ta) (.int (gn+1)) rv' (.ref td))):=by rw[aj dlm];exact sB _ _ eA
         have bC:∀b o,b≠lm->HB b=some o->(L2.upd HB lm (.lst ([tv,u1,u2]++[x1]))) b=some o:=fun b o hb eb=>by rw[aj hb];exact eb
         generalize L2.upd HB lm (.lst ([tv,u1,u2]++[x1]))=HC at vC deC dmC eC bC⊢;have hsC:=bG.v vC (hsA.go sB);refine⟨_,rfl,.inl ⟨rfl,_,bc.of deC⟩,_,rfl,.inr ⟨sa,_,0,_,rfl,rfl,hsC,rfl,_,rfl,_,_,rfl,rfl,.of_right (intBits_le_64 (by omega) (by omega)),?_⟩⟩;refine⟨_,rfl,.inr ⟨sa,_,1,_,rfl,rfl,hsC,rfl,_,rfl,_,_,rfl,rfl,.of_right (intBits_le_64 (by omega) (by omega)),?_⟩⟩;have W2:=dW st (by omega) (by omega);refine⟨_,_,rfl,W2.1,W2.2,fun x2 HD rx2 sD=>?_⟩;have rx2:aY K HD x2 (sq*Rat.divInt (st-gn-1) st):=by rw[<-ex2];exact rx2
         have deD:=sD _ _ deC;refine⟨le,_,_,rfl,rfl,deD,by show 3<sizeLine;omega,?_⟩;have vE:aW HD (L2.upd HD le (.lst ([tv,u3,u4]++[x2]))):=.upd deD trivial;have vAC:=sB.v.trans vC;have vCE:=sD.v.trans vE;have vE16:=vA.trans (vAC.trans vCE);refine⟨.int (gn+1),_,_,_,_,[tv,u1,u2,x1],[tv,u3,u4,x2],rfl,fun b o' eb hb=>?_,?_,⟨ta,.ref sa,rfl,bG.v vE16 hta,⟨sa,rfl,bG.v vE16 hsa⟩,rfl⟩,?_,au,fun H' Q' sV d' kq=>?_,fun H' Q' sV d' kq=>?_⟩
         · have ha:b≠d:=fun z=>hb (by rw[z];simp)
           have hlm:b≠lm:=fun z=>hb (by rw[z];simp);have hle:b≠le:=fun z=>hb (by rw[z];simp);rw[aj hle];exact sD _ _ (bC _ _ hlm (sB _ _ (bA _ _ ha eb)))
         ·rw[aj dle];exact sD _ _ eC
         ·rw[aj lml];exact sD _ _ dmC
         · refine mN d' ((T16.v vE16).v sV) ((U1.v vE16).v sV) ((U2.v vE16).v sV) (((rx1.v vC).v vCE).v sV) tB B1 B2 pB fun v rv=>kq v ?_
           rw[tH]at rv;exact rv
         · refine mN d' ((T16.v vE16).v sV) ((U3.v vE16).v sV) ((U4.v vE16).v sV) ((rx2.v vE).v sV) tB B3 B4 pB2 fun v rv=>kq v ?_
           rw[tH]at rv;exact rv
     · rintro σ HA ⟨cv',w9,w10,w11,w12',um,ue,rfl,hhA⟩
       have bt:=hhA.1;have eA:=hhA.2.1;have stA:=hhA.2.2.1;have dmA:=hhA.2.2.2.1;have deA:=hhA.2.2.2.2.1;have km:=hhA.2.2.2.2.2.1;have ke:=hhA.2.2.2.2.2.2;have bHA:dZ [d] H HA:=fun b o' eb hb=>by
        have ha:b≠d:=fun z=>hb (by rw[z];simp);refine bt b o' (s216 _ _ (b2 _ _ eb hb)) fun hm=>?_;simp only[List.mem_cons,List.not_mem_nil,or_false]at hm;rcases hm with h|h|h
        ·exact ha h
        ·rw[h,nlm]at eb;cases eb
        ·rw[h,nle]at eb;cases eb
       have vHA:aW H HA:=bHA.v fun x hx o' eo'=>by rw[List.mem_singleton]at hx;rw[hx,e]at eo';cases eo';trivial
       have v16A:aW H16 HA:=bt.v fun x hx o' eo'=>by
        simp only[List.mem_cons,List.not_mem_nil,or_false]at hx;rcases hx with h|h|h
        ·rw[h,e16]at eo';cases eo';trivial
        ·rw[h,dm]at eo';cases eo';trivial
        ·rw[h,de]at eo';cases eo';trivial
       have rRA:aY K HA rv' (fh M S):=(rR.go s216).v v16A;have ryA:=RD.v vHA _ (gL ns sp) ry;have okn':iD ns.length 1000 ns:=okn.up;have lns:ns.length=M.rs.length:=okn.len;refine⟨_,rfl,_,rfl,d,_,rfl,dg eA mR,y,ns,sp,_,rfl,ryA,okn',by omega,by omega,by omega,fun a1 HB ra1 sB=>?_⟩;refine⟨_,rfl,_,rfl,d,_,rfl,dg (sB _ _ eA) mR,_,_,rfl,rfl,y,ns,sp,_,rfl,RD.mono sB _ ryA,okn',by omega,by omega,by omega,fun a2 HC ra2 sC=>?_⟩;obtain⟨p1,rfl,h1⟩:=gP (pl:=mK ns (S.dn:Int)) ra1;obtain⟨p2,rfl,h2⟩:=gP (pl:=mK ns ((S.dn:Int)+1)) ra2;refine⟨p1,p2,rfl,⟨_,h1.go sC⟩,⟨_,h2⟩,fun D1 HD nD=>?_⟩;refine uP (h1.go sC) h2 (by simp[mK]) (by simp[mK];omega) nD (fun x y H Q h=>⟨_,rfl,_,rfl,_,_,rfl,rfl,h⟩) fun HE sE dE=>?_;refine⟨D1,_,rfl,.inl ⟨bc.of dE,fun rw' HF nF=>?_⟩⟩;have hrw:bG K HF rw' ((gd ns S.dn).map V.int):=by rw[<-Fe];exact bG.of nF.at'
       have sAF:=sB.trans (sC.trans (sE.trans nF.same));have eF:=sAF _ _ eA;have hlv:=(r2:RD K H lv (jL (cg S)));obtain⟨pa,rfl,hpa⟩:=gP (RD.v vHA _ (cT _) r2);have lpl:(cg S).length=M.rs.length:=tI ok;have lrow:(gd ns S.dn).length=(cg S).length:=by rw[lpl];simp[gd,lns]
       refine⟨_,rfl,d,_,rfl,dg eF tm,_,rfl,pa,rw',rfl,⟨_,hpa.go sAF⟩,⟨_,hrw⟩,fun D2 HG nG=>?_⟩;refine jy (hpa.go sAF) hrw lrow (by omega) nG (fun x y H Q h=>⟨_,rfl,_,rfl,_,_,rfl,rfl,h⟩) fun HI sI dI=>?_;refine⟨D2,_,rfl,.inl ⟨bc.of dI,fun pt HJ nJ=>?_⟩⟩;have sFJ:=sI.trans nJ.same;have eJ:=sFJ _ _ eF;have hpt:bG K HJ pt ((eK (cg S) (gd ns S.dn)).map V.int):=bG.of nJ.at';refine⟨_,rfl,d,_,rfl,dp eJ AK cW,?_⟩;have vAJ:aW HA HJ:=(sAF.trans sFJ).v;have vJ1:aW HJ (L2.upd HJ d (.dK (cK (.ref ma) (.ref pt) gv sv (.int S.rate) (.str S.side) (.str S.mark) (.ref q) (.int S.dn) bv cv' rv' (.ref td)))):=.upd eJ trivial;have e1:(L2.upd HJ d (.dK (cK (.ref ma) (.ref pt) gv sv (.int S.rate) (.str S.side) (.str S.mark) (.ref q) (.int S.dn) bv cv' rv' (.ref td)))) d=some (.dK (cK (.ref ma) (.ref pt) gv sv (.int S.rate) (.str S.side) (.str S.mark) (.ref q) (.int S.dn) bv cv' rv' (.ref td))):=au;have b1:∀b o,b≠d->HA b=some o->(L2.upd HJ d (.dK (cK (.ref ma) (.ref pt) gv sv (.int S.rate) (.str S.side) (.str S.mark) (.ref q) (.int S.dn) bv cv' rv' (.ref td)))) b=some o:=fun b o hb eb=>by rw[aj hb];exact sFJ _ _ (sAF _ _ eb)
       generalize L2.upd HJ d (.dK (cK (.ref ma) (.ref pt) gv sv (.int S.rate) (.str S.side) (.str S.mark) (.ref q) (.int S.dn) bv cv' rv' (.ref td)))=H1' at vJ1 e1 b1⊢;refine⟨_,rfl,?_⟩;dsimp only[ny];refine ke H1' _ (vAJ.trans vJ1) (b1 _ _ dle.symm deA) fun pe rpe=>?_;refine⟨_,rfl,d,_,rfl,dp e1 zd cW,?_⟩;refine⟨_,rfl,d,_,rfl,dg au mR,_,_,rfl,rfl,_,rfl,d,_,rfl,dp au ze cW,?_⟩;have vX:aW H1' (L2.upd (L2.upd H1' d (.dK (cK (.ref ma) (.ref pt) gv pe (.int S.rate) (.str S.side) (.str S.mark) (.ref q) (.int S.dn) bv cv' rv' (.ref td)))) d (.dK (cK (.ref ma) (.ref pt) gv pe (.int S.rate) (.str S.side) (.str S.mark) (.ref q) (.int ((S.dn:Int)+1)) bv cv' rv' (.ref td)))):=fun b o nb eb=>by
        have hb:b≠d:=fun z=>by rw[z,e1]at eb;cases eb;exact nb trivial
        rw[aj hb,aj hb];exact eb
       have eX:(L2.upd (L2.upd H1' d (.dK (cK (.ref ma) (.ref pt) gv pe (.int S.rate) (.str S.side) (.str S.mark) (.ref q) (.int S.dn) bv cv' rv' (.ref td)))) d (.dK (cK (.ref ma) (.ref pt) gv pe (.int S.rate) (.str S.side) (.str S.mark) (.ref q) (.int ((S.dn:Int)+1)) bv cv' rv' (.ref td)))) d=some (.dK (cK (.ref ma) (.ref pt) gv pe (.int S.rate) (.str S.side) (.str S.mark) (.ref q) (.int ((S.dn:Int)+1)) bv cv' rv' (.ref td))):=au;have bX:∀b o,b≠d->HA b=some o->(L2.upd (L2.upd H1' d (.dK (cK (.ref ma) (.ref pt) gv pe (.int S.rate) (.str S.side) (.str S.mark) (.ref q) (.int S.dn) bv cv' rv' (.ref td)))) d (.dK (cK (.ref ma) (.ref pt) gv pe (.int S.rate) (.str S.side) (.str S.mark) (.ref q) (.int ((S.dn:Int)+1)) bv cv' rv' (.ref td)))) b=some o:=fun b o hb eb=>by rw[aj hb,aj hb];exact b1 _ _ hb eb
       generalize(L2.upd (L2.upd H1' d (.dK (cK (.ref ma) (.ref pt) gv pe (.int S.rate) (.str S.side) (.str S.mark) (.ref q) (.int S.dn) bv cv' rv' (.ref td)))) d (.dK (cK (.ref ma) (.ref pt) gv pe (.int S.rate) (.str S.side) (.str S.mark) (.ref q) (.int ((S.dn:Int)+1)) bv cv' rv' (.ref td))))=HX at vX eX bX⊢;have vJX:=vJ1.trans vX;have vAX:=vAJ.trans vJX;have vHX:=vHA.trans vAX;have eqX:HX q=some (.lst ys):=bX _ _ dq.symm (bHA _ _ eq (by rw[List.mem_singleton];exact dq.symm));have qlm:q≠lm:=fun z=>by rw[z,nlm]at eq;cases eq
       have nMid:0<gA M.r M.f S.pc (topR S.rate sp) (fh M S) left S.stp:=wY (by omega) (by omega) l1 ok.pd.nn (sS sp1 ok.rt1) Rd.nn ok.stp nh;have Sp':cg (jI ns (fi M S ns sp))=eK (cg S) (gd ns S.dn):=(zo eo (by rw[lns,ok.pl]) lpos hd).symm;have Sg':bP (jI ns (fi M S ns sp))=bP S:=tF eo;refine⟨fun σ HY=>σ=[some (.ref d),some (.ref ma),some y,some sv,some (.int left),some rv',some (.ref lt),some (.ref lm),some (.ref le),w9,w10,w11,some (.ref rw')]/\cA K HY d q td M (jI ns (fi M S ns sp))/\dZ [d,q] H HY/\aW HX HY/\HY lm=some (.lst um),?_,?_⟩
       · refine⟨_,rfl,.inl ⟨_,_,rfl,rfl,_,rfl,?_⟩⟩
         refine dk (fun h0=>?_) (fun h0=>?_)
         · have hl:left=1:=of_decide_eq_true h0
           have he':(fi M S ns sp).dn=ay ns:=by show S.dn+1=ay ns;omega
           obtain⟨os',eos⟩:∃os',S.os=some (ns,sp)::os':=by cases e:S.os with |nil=>rw[e]at eo;simp at eo |cons a r=>rw[e]at eo;cases eo;exact⟨r,rfl⟩
           have eN:jI ns (fi M S ns sp)={fi M S ns sp with pl:=gy S.pl (some (ns,sp)),ds:=S.ds.tail,os:=os',dn:=0}:=by unfold jI;rw[if_pos he'];unfold iC;rw[show(fi M S ns sp).os=some (ns,sp)::os' from eos];rfl
           rw[eN]at Sp' Sg'⊢;have ix0:seqIndex? 0 ys.length=some 0:=by have:0<ys.length:=(List.getElem?_eq_some_iff.mp ey).1;unfold seqIndex?;simp[this]
           refine⟨_,rfl,d,_,rfl,dg eX dH,.inl ⟨rfl,_,bc.of eqX⟩,q,ys,0,0,y,rfl,rfl,eqX,by decide,by decide,ix0,ey,?_⟩;have e3:(L2.upd HX q (.lst (ys.eraseIdx 0))) d=some (.dK (cK (.ref ma) (.ref pt) gv pe (.int S.rate) (.str S.side) (.str S.mark) (.ref q) (.int ((S.dn:Int)+1)) bv cv' rv' (.ref td))):=by rw[aj dq];exact eX
           refine⟨_,rfl,d,_,rfl,dp e3 ze cW,?_⟩;refine⟨_,rfl,d,_,rfl,dp au jX cW,?_⟩;have vY:aW HX (L2.upd (L2.upd (L2.upd HX q (.lst (ys.eraseIdx 0))) d (.dK (cK (.ref ma) (.ref pt) gv pe (.int S.rate) (.str S.side) (.str S.mark) (.ref q) (.int 0) bv cv' rv' (.ref td)))) d (.dK (cK (.ref ma) (.ref pt) gv pe (.int S.rate) (.str S.side) (.str S.mark) (.ref q) (.int 0) bv cv' .cG (.ref td)))):=fun b o nb eb=>by
            have hb:b≠d:=fun z=>by rw[z,eX]at eb;cases eb;exact nb trivial
            have hq:b≠q:=fun z=>by rw[z,eqX]at eb;cases eb;exact nb trivial
            rw[aj hb,aj hb,aj hq];exact eb
           have bY:∀b o,b≠d->b≠q->HX b=some o->(L2.upd (L2.upd (L2.upd HX q (.lst (ys.eraseIdx 0))) d (.dK (cK (.ref ma) (.ref pt) gv pe (.int S.rate) (.str S.side) (.str S.mark) (.ref q) (.int 0) bv cv' rv' (.ref td)))) d (.dK (cK (.ref ma) (.ref pt) gv pe (.int S.rate) (.str S.side) (.str S.mark) (.ref q) (.int 0) bv cv' .cG (.ref td)))) b=some o:=fun b o hb hq eb=>by rw[aj hb,aj hb,aj hq];exact eb
           have eY:(L2.upd (L2.upd (L2.upd HX q (.lst (ys.eraseIdx 0))) d (.dK (cK (.ref ma) (.ref pt) gv pe (.int S.rate) (.str S.side) (.str S.mark) (.ref q) (.int 0) bv cv' rv' (.ref td)))) d (.dK (cK (.ref ma) (.ref pt) gv pe (.int S.rate) (.str S.side) (.str S.mark) (.ref q) (.int 0) bv cv' .cG (.ref td)))) d=some (.dK (cK (.ref ma) (.ref pt) gv pe (.int S.rate) (.str S.side) (.str S.mark) (.ref q) (.int 0) bv cv' .cG (.ref td))):=au;have qY:(L2.upd (L2.upd (L2.upd HX q (.lst (ys.eraseIdx 0))) d (.dK (cK (.ref ma) (.ref pt) gv pe (.int S.rate) (.str S.side) (.str S.mark) (.ref q) (.int 0) bv cv' rv' (.ref td)))) d (.dK (cK (.ref ma) (.ref pt) gv pe (.int S.rate) (.str S.side) (.str S.mark) (.ref q) (.int 0) bv cv' .cG (.ref td)))) q=some (.lst (ys.eraseIdx 0)):=by rw[aj dq.symm,aj dq.symm];exact au
           refine⟨rfl,⟨⟨.ref ma,.ref pt,gv,pe,bv,cv',.cG,eY,RD.v (vHX.trans vY) _ (cm _ _ _ _ _) r1,?_,?_,?_,stA.v (vAX.trans vY),.inl rfl⟩,ys.eraseIdx 0,qY,?_⟩,fun b o eb hb=>?_,vY,bY _ _ dlm.symm qlm.symm (bX _ _ dlm.symm dmA)⟩
           ·rw[Sp'];exact lR (bG.v vY (bG.v vJX hpt))
           ·rw[Sg'];exact RD.v (vHX.trans vY) _ (cT _) r3
           · show aY K _ pe (iV M.r M.f S.pc (topR S.rate sp) (fh M S) ((ay ns:Int)-S.dn) S.stp)
             rw[el];exact(rpe.v vX).v vY
           ·exact lW (bj.v (vHX.trans vY) _ ok.row.no rq)
           · have ha:b≠d:=fun z=>hb (by rw[z];simp)
             have hq:b≠q:=fun z=>hb (by rw[z];simp);exact bY _ _ ha hq (bX _ _ ha (bHA _ _ eb (by rw[List.mem_singleton];exact ha)))
         · have hl:left≠1:=fun z=>h0 (decide_eq_true z)
           have hne':¬(fi M S ns sp).dn=ay ns:=fun z=>hl (by have:S.dn+1=ay ns:=z;omega);have eN:jI ns (fi M S ns sp)=fi M S ns sp:=if_neg hne';rw[eN]at Sp' Sg'⊢;refine⟨rfl,⟨⟨.ref ma,.ref pt,gv,pe,bv,cv',rv',eX,RD.v vHX _ (cm _ _ _ _ _) r1,?_,?_,?_,stA.v vAX,.inr (show aY K HX rv' (fh M S)from rRA.v vAX)⟩,ys,eqX,bj.v vHX _ ok.row.no rq⟩,fun b o eb hb=>?_,.refl,bX _ _ dlm.symm dmA⟩
           ·rw[Sp'];exact lR (bG.v vJX hpt)
           ·rw[Sg'];exact RD.v vHX _ (cT _) r3
           · show aY K HX pe (iV M.r M.f S.pc (topR S.rate sp) (fh M S) ((ay ns:Int)-S.dn) S.stp)
             rw[el];exact rpe.v vX
           · have ha:b≠d:=fun z=>hb (by rw[z];simp)
             exact bX _ _ ha (bHA _ _ eb (by rw[List.mem_singleton];exact ha))
       · rintro σ HY ⟨rfl,hhY⟩
         have RY:=hhY.1;have bY:=hhY.2.1;have vY:=hhY.2.2.1;have dY:=hhY.2.2.2;refine⟨_,rfl,?_⟩;dsimp only[ny];refine km HY _ (vAX.trans vY) dY fun v rv=>?_;have t1:=okm.t1;have nB:Bd 2000 (gA M.r M.f S.pc (topR S.rate sp) (fh M S) left S.stp):=((wX (D:=D) (by omega) (by omega) l1 ok.pd (td14.mono (by omega)) (Rd.mono (by omega)) ok.stp nh).bd (Rat.le_trans kz (Rat.le_trans tl (by decide+kernel)))).mono (by omega);refine⟨_,rfl,_,rfl,_,rfl,.ref ma,v,M.rs,M.r,M.f,M.j,M.t,_,rfl,RD.v (vHX.trans vY) _ (cm _ _ _ _ _) r1,rv,nB,t1.1,t1.2,kH nMid,fun T T1 _ T2 T3 HZ sZ=>?_⟩;refine⟨_,rfl,aQ _ (Nat.le_of_ble_eq_true rfl),fun tt HW nW=>k (.ref tt) HW ?_ (RY.same (One.ok ok okm (.line eo nh)).row.no (sZ.trans nW.same)) (fun b o eb hb=>(sZ.trans nW.same) _ _ (bY b o eb hb))⟩;have etk:=yy (Int.le_of_lt (kH nMid)) ⟨T1,T2,T3⟩;unfold iz yU j0;rw[el,etk];exact e9 (bG.of nW.at') (aP (bQ _) (aP (RD.mono (sZ.trans nW.same) _ (lR (bG.v (sFJ.v.trans (vJX.trans vY)) hrw))) (aP (bU _) (aP (rv.go (sZ.trans nW.same)).rd ba))))
end
end Lw
namespace Lw
open PySem PySem.Spec PyProof.Rows L2 Rt Ln Cn Pn Wk Rn
open Ow (topR cornO mnO betR atO ownF leadF ownL OkI OkIs)
section
variable {P:Program}{w:World}{K:PySem.W.Frag}{mg:Str->Option Value}{base:Heap}
theorem Jq(q:Rat):PyData.eqv (cN q) (.tuple [.int 0,.int 1])=decide (q=0):=by have h:(q.num=0/\(q.den:Int)=1)↔q=0:=⟨fun h=>Rat.num_eq_zero.mp h.1,fun h=>by rw[h];exact⟨rfl,rfl⟩⟩;rw[Bool.eq_iff_iff,decide_eq_true_iff,<-h];simp[cN,PyData.eqv,PyData.eqvAll]
theorem AQ(d:PyData)(S:cJ):(bV d S).pc=S.pc/\(bV d S).rate=S.rate/\(bV d S).stp=S.stp:=by
 unfold bV;split
 · split
   ·exact⟨rfl,rfl,rfl⟩
   ·split<;>exact⟨rfl,rfl,rfl⟩
 ·exact⟨rfl,rfl,rfl⟩
theorem oP{M:dC}{D:Nat}{S:cJ}{d:PyData}(ok:eR M D S)(eo:S.os[0]? =some none):∃os',S.os=none::os'/\iC (bV d S)={bV d S with pl:=S.pl,ds:=S.ds.tail,os:=os',dn:=0}/\cg (iC (bV d S))=cg S/\bP (iC (bV d S))=bP S:=by
 obtain⟨os',eos⟩:∃os',S.os=none::os':=by cases e:S.os with |nil=>rw[e]at eo;simp at eo |cons a r=>rw[e]at eo;cases eo;exact⟨r,rfl⟩
 obtain⟨_,e1,e2,e3,e4⟩:=kL ok.raw d;have dn0:S.dn=0:=by
  rcases ok.dn with z|⟨ns',sp',e1,e2⟩
  ·exact z
  ·rw[eo]at e1;cases e1
 have eE:iC (bV d S)={bV d S with pl:=S.pl,ds:=S.ds.tail,os:=os',dn:=0}:=by unfold iC;rw[e1,eos,e2,e4];rfl
 refine⟨os',eos,eE,?_,?_⟩
 · rw[eE]
   unfold cg;rw[if_pos rfl,if_pos dn0]
 · rw[eE]
   unfold bP;rw[eos];rfl
theorem AR{c:TT}{ts rest:TS}{D:Ends}{σ:L2.St}{H:Hp}(G:Hp->Prop)(hr:∀H',G H'->rest D σ H')(h:(∀H',G H'->rest D σ H')->uY (oW c ts uX) rest D σ H):uY (oW c ts uX) rest D σ H:=h hr
inductive zq(K:PySem.W.Frag)(vs:List V)(H:Hp)(Q:VK):Prop |mk (d:_)(q:_)(td:_)(M:_)(D:_)(S:_)(n:_)(h0:vs=[.ref d,.int n])(h1:cA K H d q td M S)(h2:eR M D S)(h3:M.Ok)(h4:0<=n)(h5:n<=1000)(h6:∀l ys es S' H',H l=none->H' l=some (.lst ys)->bj K H' ys es->Run M S es S'->(es.length:Int)<=n->((es.length:Int)=n\/S'.os=[]\/Halt S'.pc S'.stp)->cA K H' d q td M S'->dZ [d,q] H H'->Q (.ref l) H'):zq K vs H Q
def CC(K:PySem.W.Frag):Sp:=fun vs H Q _=>zq K vs H Q
abbrev Fh:Stmt:=top 86
theorem CD:aH ["_law_sim_here","_law_n","_law_found","_law_item"] ["_law_sim_here","_law_n"] (ao Fh):=⟨rfl,rfl,rfl,by decide+kernel,rfl,by decide+kernel,by decide+kernel⟩
theorem Fi(F:FA K mg "_law_sim_entries" Fh)(B:dv mg)(hL_sim_step:aw P w K mg base "_law_sim_step" 5 (Cz K)):aw P w K mg base "_law_sim_entries" 6 (CC K):=by
 refine F.has CD (fun vs H Q E h=>?_) (fun _ _ _ _ _ _ us hl=>match us,hl with|[_,_],_=>rfl) (fun fa cdv A outer s H vs Q E hr h=>?_)
 · obtain⟨d,q,td,M,D,S,n,rfl,_⟩:=h
   rfl
 · obtain⟨d,q,td,M,D,S,n,rfl,R,ok,okm,n0,n1,k⟩:=h
   have dq:=R.ne;have nd:=CD.nd;refine⟨_,(ag (aF (i:=2) nd rfl (Or.inl rfl) (bE af)) (ag (dQ PassesOwn.never (PW.pt (fQ (aO ft (ak (x:="len") (dw K rfl) rfl (B.at "len") PySem.boot_len (aa (pv 2) af)) (pv 1) (aK _)) (gm (aO ka (ak (x:="len") (dw K rfl) rfl (B.at "len") PySem.boot_len (aa (aU (df hr.units) (pv 0) aJ (fun _ _=>rfl)) af)) ah (aK _))))) (ag (aR (PW.pt (fQ (aO iG (aU (df hr.units) (pv 0) aJ (fun _ _=>rfl)) dN (aK _)) (gm (aO (fT K rfl hr.units) (aU (df hr.units) (pv 0) aJ (fun _ _=>rfl)) (bF (aa ah (aa ah af))) (aK _))))) (ai (aB (pv 2))) aL) (ag (aF (i:=3) nd rfl (Or.inl rfl) (aM (cw K rfl) (aU (df hr.units) (pv 0) aJ (fun _ _=>rfl)) ah (fun _ _=>rfl))) (ai (aR (aO (fT K rfl hr.units) (aM (cw K rfl) (pv 3) ah (fun _ _=>rfl)) aJ (aK _)) (ai (cj (fA K rfl (pv 2) (aa (aE hL_sim_step (hr.mono (by decide)) rfl (aa (pv 0) af)) af)))) (ag (cL (aR (aO (qO K rfl hr.units) (aM (cw K rfl) (pv 3) ah (fun _ _=>rfl)) aJ (aK _)) (ai (bZ (df hr.units) (pv 0) (aM (cw K rfl) (pv 3) ah (fun _ _=>rfl)) (aM (cw K rfl) (pv 3) ah (fun _ _=>rfl)) rfl)) aL)) (ag (cj (fA K rfl (pv 2) (aa (qX K rfl (aU (df hr.units) (pv 0) aJ (fun _ _=>rfl)) (aa ah af)) af))) (ai (bZ (df hr.units) (pv 0) aJ dN rfl))))))))) (ai (aB (pv 2))))),?_⟩;refine⟨aQ _ (Nat.le_of_ble_eq_true rfl),fun l H1 nw=>?_⟩;obtain⟨mv,lv,gv,sv,bv,cv,rv,e,r1,r2,r3,r4,r5,r6⟩:=R.ob;obtain⟨ys,eq,rq⟩:=R.qu;have dl0:d≠l:=fun z=>by have:=nw.no;rw[<-z,e]at this;cases this
   have ql:q≠l:=fun z=>by have:=nw.no;rw[<-z,eq]at this;cases this
   refine dR (fun σ H2=>∃es S' us w3,σ=[some (.ref d),some (.int n),some (.ref l),w3]/\cA K H2 d q td M S'/\H2 l=some (.lst us)/\bj K H2 us es/\Run M S es S'/\(es.length:Int)<=n/\dZ [d,q] H H2) (fun _ H2=>match H2 l with|some (.lst us)=>2000-us.length|_=>0) ?_ ?_ ?_
   ·exact⟨[],S,[],none,rfl,R.same ok.row.no nw.same,nw.at',ba,.nil _,by simpa using n0,.of nw.same⟩
   · rintro σ H2 ⟨es,S',us,w3,rfl,R2,dl,rd,run,hes,bt⟩
     have ok':=run.ok ok okm;have hno:=run.no ok okm;have lu:=rd.length;obtain⟨mv,lv,gv,sv,bv,cv,rv,e,r1,r2,r3,r4,r5,r6⟩:=R2.ob;obtain⟨yq,eq2,rq⟩:=R2.qu;have lyq:=rq.length;have llq:=ok'.row.len;have h24:sizeLine=16777216:=by decide
     refine⟨_,rfl,l,us,rfl,.inl (bc.of dl),_,rfl,_,_,rfl,rfl,_,rfl,?_⟩;show if decide ((us.length:Int)<n)=true then _ else _;by_cases c1:(us.length:Int)<n
     · rw[decide_eq_true c1]
       refine bK ?_;refine⟨_,rfl,d,_,rfl,dg e dH,q,yq,rfl,.inl (bc.of eq2),_,_,rfl,rfl,_,rfl,?_⟩;cases hos:S'.os with |nil=>have:yq=[]:=List.length_eq_zero_iff.mp (by rw[lyq,llq,hos];rfl);subst this;refine bw ?_;exact⟨_,rfl,k l us es S' H2 nw.no dl rd run hes (.inr (.inl hos)) R2 bt⟩ |cons o os=>
         have hne:S'.os≠[]:=by rw[hos];simp
         have hl0:0<yq.length:=by rw[lyq,llq,hos];simp
         rw[decide_eq_true (show(0:Int)<(yq.length:Int) by omega)];refine bK ?_;have eo:S'.os[0]? =some o:=by rw[hos];rfl
         refine AR (fun H3=>¬Halt S'.pc S'.stp/\aI H2 H3) (fun H3 g=>?_) (fun hrest=>?_)
         · obtain⟨nh,s3⟩:=g
           have R3:=R2.same ok'.row.no s3;have e3:=s3 _ _ e;have eq3:=s3 _ _ eq2;have dl3:=s3 _ _ dl;have rd3:=bj.mono s3 _ rd;have bt3:dZ [d,q] H H3:=fun b o' eb hb=>s3 _ _ (bt b o' eb hb);have dlq:l∉[d,q]:=by simp;exact⟨dl0.symm,ql.symm⟩
           obtain⟨dd,ed⟩:∃dd,S'.ds[0]? =some dd:=⟨_,List.getElem?_eq_getElem (show 0<S'.ds.length by omega)⟩;obtain⟨y,ey,ry⟩:=rq.get 0 ed;have it:=ok'.row.it 0 dd _ ed eo;have ry3:=RD.mono s3 _ ry;refine⟨_,rfl,d,_,rfl,dg e3 dH,.inl ⟨q,_,0,y,rfl,rfl,bc.of eq3,bB (Int.le_refl 0) ey,?_⟩⟩;obtain⟨ya,wd,zs,rfl,hya,ew,sw⟩:=gW ry3 it;refine⟨_,rfl,.inr ⟨ya,_,0,.str wd,rfl,rfl,hya,bB (Int.le_refl 0) rfl,.inr ⟨_,_,bQ _,bQ _,sw,lQ,_,rfl,?_⟩⟩⟩;rw[ew];cases o with
           |some z=>
             obtain⟨ns,sp⟩:=z;refine bK ?_;refine⟨_,rfl,.inl ⟨rfl,_,bc.of dl3⟩,_,rfl,d,q,td,M,D,S',ns,sp,rfl,R3,ok',okm,eo,nh,fun v H4 rv' R4 b4=>?_⟩;have v34:=R3.v b4;have dl4:=b4 _ _ dl3 dlq;refine⟨l,us,_,rfl,rfl,dl4,by omega,?_⟩;have vu:aW H4 (L2.upd H4 l (.lst (us++[v]))):=.upd dl4 trivial;have one:One M S' (iz M S' ns sp) (jI ns (fi M S' ns sp)):=.line eo nh;have ok2:=One.ok ok' okm one;refine⟨⟨es++[iz M S' ns sp],_,us++[v],_,rfl,R4.go ok2.row.no vu (fun o' eo'=>by rw[aj dl0];exact eo') (fun o' eo'=>by rw[aj ql];exact eo'),au,(bj.v (v34.trans vu) _ hno rd3).append (aP (RD.v vu _ (kI _ _ _) rv') ba),run.snoc one,by rw[List.length_append];show((es.length+1:Nat):Int)<=n;omega,fun b o' eb hb=>?_⟩,?_⟩
             · have hl':b≠l:=fun z=>by have:=nw.no;rw[<-z,eb]at this;cases this
               rw[aj hl'];exact b4 _ _ (bt3 _ _ eb hb) hb
             · show(match(L2.upd H4 l (.lst (us++[v]))) l with|some (.lst us)=>2000-us.length|_=>0)<(match H2 l with|some (.lst us)=>2000-us.length|_=>0)
               rw[au,dl];show 2000-(us++[v]).length<2000-us.length;rw[List.length_append];show 2000-(us.length+1)<2000-us.length;omega |none=>
             refine bw ?_;have oA:=ok'.rw 0 dd eo ed;have tW:SeqAt.shaped (.str "wait")=true:=by decide+kernel
             have eqT:∀(x y:Str),PyData.eqv (.str x) (.str y)=decide (x=y):=fun x y=>by show(x==y)=decide (x=y);rw[Bool.eq_iff_iff];simp
             refine⟨fun σ H4=>σ=[some (.ref d),some (.int n),some (.ref l),some (.ref ya)]/\dZ [d] H3 H4/\H4 d=some (.dK (cK mv lv gv sv (.int S'.rate) (.str (bV dd S').side) (.str (bV dd S').mark) (.ref q) (.int S'.dn) bv cv rv (.ref td))),?_,?_⟩
             · rcases oA with⟨m,rfl,_⟩|⟨w',s',rfl,hw,_⟩
               · obtain⟨ya',xs,ea,h1,h2⟩:=ry3.bu
                 cases ea;obtain⟨x1,rr,rfl,e1,h2⟩:=h2.cons_inv;cases e1.str_inv;refine⟨_,rfl,.inr ⟨ya,_,0,.str "wait",rfl,rfl,h1,bB (Int.le_refl 0) rfl,.inr ⟨_,_,bQ _,bQ _,tW,tW,_,rfl,?_⟩⟩⟩;rw[eqT,decide_eq_true rfl];exact bw ⟨rfl,dZ.refl _ _,e3⟩
               · obtain⟨ya',xs,ea,h1,h2⟩:=ry3.bu
                 cases ea;obtain⟨x1,rr,rfl,e1,h2⟩:=h2.cons_inv;obtain⟨x2,rr,rfl,e2,h2⟩:=h2.cons_inv;cases h2.nil_inv;cases e1.str_inv;cases e2.str_inv;have sz:SeqAt.shaped (.str w')=true:=by rcases hw with rfl|rfl<;>decide+kernel
                 have nw':¬w'="wait":=by rcases hw with rfl|rfl<;>decide+kernel
                 refine⟨_,rfl,.inr ⟨ya,_,0,.str w',rfl,rfl,h1,bB (Int.le_refl 0) rfl,.inr ⟨_,_,bQ _,bQ _,sz,tW,_,rfl,?_⟩⟩⟩;rw[eqT,decide_eq_false nw'];refine bK ?_;rcases hw with rfl|rfl
                 · refine⟨_,rfl,.inr ⟨ya,_,1,.str s',rfl,rfl,h1,bB (by decide) rfl,_,rfl,_,rfl,.inr ⟨ya,_,0,.str "tool",rfl,rfl,h1,bB (Int.le_refl 0) rfl,d,_,rfl,dp e3 F0 cW,?_⟩⟩⟩
                   exact⟨rfl,gu (by simp),au⟩
                 · refine⟨_,rfl,.inr ⟨ya,_,1,.str s',rfl,rfl,h1,bB (by decide) rfl,_,rfl,_,rfl,.inr ⟨ya,_,0,.str "mark",rfl,rfl,h1,bB (Int.le_refl 0) rfl,d,_,rfl,dp e3 F1 cW,?_⟩⟩⟩
                   exact⟨rfl,gu (by simp),au⟩
             rintro σ H4 ⟨rfl,b4,e4⟩;have v34:aW H3 H4:=b4.v fun x hx o' eo'=>by rw[List.mem_singleton]at hx;rw[hx,e3]at eo';cases eo';trivial
             have eq4:=b4 _ _ eq3 (by rw[List.mem_singleton];exact dq.symm);have dl4:=b4 _ _ dl3 (by rw[List.mem_singleton];exact dl0.symm);have ix0:seqIndex? 0 yq.length=some 0:=by unfold seqIndex?;simp[hl0]
             have dl5:(L2.upd H4 q (.lst (yq.eraseIdx 0))) l=some (.lst us):=by rw[aj ql.symm];exact dl4
             refine⟨_,rfl,.inl ⟨rfl,_,bc.of dl4⟩,_,rfl,d,_,rfl,dg e4 dH,.inl ⟨rfl,_,bc.of eq4⟩,q,yq,0,0,.ref ya,rfl,rfl,eq4,by decide,by decide,ix0,ey,?_⟩;refine⟨l,us,_,rfl,rfl,dl5,by omega,?_⟩;have e6:(L2.upd (L2.upd H4 q (.lst (yq.eraseIdx 0))) l (.lst (us++[.ref ya]))) d=some (.dK (cK mv lv gv sv (.int S'.rate) (.str (bV dd S').side) (.str (bV dd S').mark) (.ref q) (.int S'.dn) bv cv rv (.ref td))):=by rw[aj dl0,aj dq];exact e4
             refine⟨_,rfl,d,_,rfl,dp e6 jX cW,?_⟩;have v47:aW H4 (L2.upd (L2.upd (L2.upd H4 q (.lst (yq.eraseIdx 0))) l (.lst (us++[.ref ya]))) d (.dK (cK mv lv gv sv (.int S'.rate) (.str (bV dd S').side) (.str (bV dd S').mark) (.ref q) (.int S'.dn) bv cv .cG (.ref td)))):=fun b o nb eb=>by
              have hb:b≠d:=fun z=>by rw[z,e4]at eb;cases eb;exact nb trivial
              have hq:b≠q:=fun z=>by rw[z,eq4]at eb;cases eb;exact nb trivial
              have hl':b≠l:=fun z=>by rw[z,dl4]at eb;cases eb;exact nb trivial
              rw[aj hb,aj hl',aj hq];exact eb
             have b7:∀b o,b≠d->b≠q->b≠l->H4 b=some o->(L2.upd (L2.upd (L2.upd H4 q (.lst (yq.eraseIdx 0))) l (.lst (us++[.ref ya]))) d (.dK (cK mv lv gv sv (.int S'.rate) (.str (bV dd S').side) (.str (bV dd S').mark) (.ref q) (.int S'.dn) bv cv .cG (.ref td)))) b=some o:=fun b o hb hq hl' eb=>by rw[aj hb,aj hl',aj hq];exact eb
             have e7:(L2.upd (L2.upd (L2.upd H4 q (.lst (yq.eraseIdx 0))) l (.lst (us++[.ref ya]))) d (.dK (cK mv lv gv sv (.int S'.rate) (.str (bV dd S').side) (.str (bV dd S').mark) (.ref q) (.int S'.dn) bv cv .cG (.ref td)))) d=some (.dK (cK mv lv gv sv (.int S'.rate) (.str (bV dd S').side) (.str (bV dd S').mark) (.ref q) (.int S'.dn) bv cv .cG (.ref td))):=au;have q7:(L2.upd (L2.upd (L2.upd H4 q (.lst (yq.eraseIdx 0))) l (.lst (us++[.ref ya]))) d (.dK (cK mv lv gv sv (.int S'.rate) (.str (bV dd S').side) (.str (bV dd S').mark) (.ref q) (.int S'.dn) bv cv .cG (.ref td)))) q=some (.lst (yq.eraseIdx 0)):=by rw[aj dq.symm,aj ql];exact au
             have l7:(L2.upd (L2.upd (L2.upd H4 q (.lst (yq.eraseIdx 0))) l (.lst (us++[.ref ya]))) d (.dK (cK mv lv gv sv (.int S'.rate) (.str (bV dd S').side) (.str (bV dd S').mark) (.ref q) (.int S'.dn) bv cv .cG (.ref td)))) l=some (.lst (us++[.ref ya])):=by rw[aj dl0.symm];exact au
             generalize(L2.upd (L2.upd (L2.upd H4 q (.lst (yq.eraseIdx 0))) l (.lst (us++[.ref ya]))) d (.dK (cK mv lv gv sv (.int S'.rate) (.str (bV dd S').side) (.str (bV dd S').mark) (.ref q) (.int S'.dn) bv cv .cG (.ref td))))=H7 at v47 b7 e7 q7 l7⊢;have v37:=v34.trans v47;have v27:=s3.v.trans v37;obtain⟨os',eos,eE,ePl,eGo⟩:=oP (d:=dd) ok' eo;have fx:=AQ dd S';have one:One M S' dd (iC (bV dd S')):=.oA eo ed nh;have dn0:S'.dn=0:=by
              rcases ok'.dn with z|⟨ns',sp',e1,e2⟩
              ·exact z
              ·rw[eo]at e1;cases e1
             have nod:iP dd=true:=bS.mp ok'.row.no _ (List.mem_of_getElem? ed);refine⟨⟨es++[dd],iC (bV dd S'),us++[.ref ya],_,rfl,?_,l7,(bj.v v27 _ hno rd).append (aP (RD.v v37 _ nod ry3) ba),run.snoc one,by rw[List.length_append];show((es.length+1:Nat):Int)<=n;omega,fun b o' eb hb=>?_⟩,?_⟩
             · refine⟨⟨mv,lv,gv,sv,bv,cv,.cG,?_,RD.v v27 _ (cm _ _ _ _ _) r1,?_,?_,?_,?_,.inl rfl⟩,yq.eraseIdx 0,q7,?_⟩
               · rw[eE]
                 show H7 d=some (.dK (cK mv lv gv sv (.int (bV dd S').rate) (.str (bV dd S').side) (.str (bV dd S').mark) (.ref q) (.int 0) bv cv .cG (.ref td)));rw[fx.2.1,e7,dn0];rfl
               ·rw[ePl];exact RD.v v27 _ (cT _) r2
               ·rw[eGo];exact RD.v v27 _ (cT _) r3
               · rw[eE]
                 show aY K H7 sv (bV dd S').pc;rw[fx.1];exact r4.v v27
               · rw[eE]
                 show uL K H7 bv cv (bV dd S').stp;rw[fx.2.2];exact r5.v v27
               · rw[eE]
                 exact lW (bj.v v27 _ ok'.row.no rq)
             · have hl':b≠l:=fun z=>by have:=nw.no;rw[<-z,eb]at this;cases this
               have hd':b≠d:=fun z=>hb (by rw[z];simp);have hq':b≠q:=fun z=>hb (by rw[z];simp);exact b7 _ _ hd' hq' hl' (b4 _ _ (bt3 _ _ eb hb) (by rw[List.mem_singleton];exact hd'))
             · show(match H7 l with|some (.lst us)=>2000-us.length|_=>0)<(match H2 l with|some (.lst us)=>2000-us.length|_=>0)
               rw[l7,dl];show 2000-(us++[V.ref ya]).length<2000-us.length;rw[List.length_append];show 2000-(us.length+1)<2000-us.length;omega
         · refine⟨_,rfl,d,_,rfl,dg e j6,rfl,_,rfl,?_⟩
           cases hs:S'.stp with |none=>have r5':=r5;rw[hs]at r5';obtain⟨rfl,_⟩:=r5';refine bw ?_;exact hrest H2 ⟨fun h=>h.1 hs,aI.refl _⟩ |some z=>
             obtain⟨sq,st,gn⟩:=z;have r5':=r5;rw[hs]at r5';obtain⟨ta,su,rfl,_⟩:=r5';refine bK ?_;refine⟨_,rfl,d,_,rfl,dg e gh,aQ _ (Nat.le_of_ble_eq_true rfl),fun t H3 n3=>?_⟩;have sh01:SeqAt.shaped (.tuple [.int 0,.int 1])=true:=by decide+kernel
             refine .inr ⟨_,_,(r4.go n3.same).rd,e9 (bG.of n3.at') (aP (bU _) (aP (bU _) ba)),Ak _,sh01,_,rfl,?_⟩;rw[Jq];by_cases c3:S'.pc=0
             · rw[decide_eq_true c3]
               refine bK ?_;have R3:=R2.same ok'.row.no n3.same;exact⟨_,rfl,k l us es S' H3 nw.no (n3.same _ _ dl) (bj.mono n3.same _ rd) run hes (.inr (.inr ⟨by rw[hs];simp,c3⟩)) R3 fun b o' eb hb=>n3.same _ _ (bt b o' eb hb)⟩
             · rw[decide_eq_false c3]
               refine bw ?_;exact hrest H3 ⟨fun h=>c3 h.2,n3.same⟩
     · rw[decide_eq_false c1]
       refine bw ?_;exact⟨_,rfl,k l us es S' H2 nw.no dl rd run hes (.inl (by omega)) R2 bt⟩
   · rintro σ H6 Q1 Q2 hq ⟨v1,f1,l',us',f2,f3,v2,f4,i1,i2,f5,f6,b1,f7,h⟩
     refine⟨v1,f1,l',us',f2,f3,v2,f4,i1,i2,f5,f6,b1,f7,gQ ?_ (hq _ _) h⟩;rintro⟨v3,f8,a',k',f9,f10,p',y',f11,f12,i3,i4,f13,f14,b2,f15,h⟩;exact⟨v3,f8,a',k',f9,f10,p',y',f11,f12,i3,i4,f13,f14,b2,f15,hq _ _ h⟩
end
end Lw
set_option maxHeartbeats 1000000
namespace Lw
open PySem PySem.Spec PyProof.Rows L2 Rt Ln
section
variable {P:Program}{w:World}{K:PySem.W.Frag}{mg:Str->Option Value}{base:Heap}
theorem HS:gB "tuple" "list"=false:=by decide
theorem HU:gB "list" "tuple"=false:=by decide
theorem tJ(n:Nat):(List.replicate n true).all id=true:=by induction n with |zero=>rfl |succ n ih=>rw[List.replicate_succ,List.all_cons,ih];rfl
def Jr(D:PyData):Prop:=(∃z,D= .int z)\/∃s,D= .str s/\SeqAt.shaped (.str s)=true/\PyData.eqv (.str s) (.str s)=true
def Nx(A:PyData->Prop)(D:PyData):Prop:=Jr D\/∃ds,(D= .tuple ds\/D= .list ds)/\ds.length<=100000/\∀x∈ds,A x
inductive CF(A:PyData->Prop)(K:PySem.W.Frag)(vs:List V)(H:Hp)(Q:VK):Prop |mk (v:_)(u:_)(D:_)(h0:vs=[v,u])(h1:RD K H v D)(h2:RD K H u D)(h3:A D)(h4:∀H',aI H H'->Q (.bl true) H'):CF A K vs H Q
def zr(A:PyData->Prop)(K:PySem.W.Frag):Sp:=fun vs H Q _=>CF A K vs H Q
abbrev mS:Stmt:=top 81
theorem mT:aH ["_law_found","_law_due"] ["_law_found","_law_due"] (ao mS):=⟨rfl,rfl,rfl,by decide+kernel,rfl,by decide+kernel,by decide+kernel⟩
theorem Fj(F:FA K mg "_law_alike" mS)(B:dv mg):aw P w K mg base "_law_alike" 1 (zr (fun _=>False) K):=by
 refine F.has mT (fun vs H Q E h=>?_) (fun _ _ _ _ _ _ us hl=>match us,hl with|[_,_],_=>rfl) (fun f cdv A outer s H vs Q E hr h=>?_)
 · obtain⟨v,u,D,rfl,_,_,h,_⟩:=h
   exact h.elim
 · obtain⟨v,u,D,rfl,_,_,h,_⟩:=h
   exact h.elim
theorem mU{A:PyData->Prop}{n:Nat}(hn:1<=n)(F:FA K mg "_law_alike" mS)(B:dv mg)(hL_number:aw P w K mg base "_law_number" 1 (lO K))(hL_alike:aw P w K mg base "_law_alike" n (zr A K)):aw P w K mg base "_law_alike" (n+1) (zr (Nx A) K):=by
 refine F.has mT (fun vs H Q E h=>?_) (fun _ _ _ _ _ _ us hl=>match us,hl with|[_,_],_=>rfl) (fun f cdv A' outer s H vs Q E hr h=>?_)
 · obtain⟨v,u,D,rfl,_⟩:=h
   rfl
 · obtain⟨v,u,D,rfl,rv,ru,hD,k⟩:=h
   have nd:=mT.nd;rcases hD with(⟨z,rfl⟩|⟨z,rfl,sh,eq⟩)|⟨ds,rfl|rfl,hz,hA⟩
   · refine⟨_,(ag (aR (bh (ak (x:="isinstance") (dc K rfl) rfl (B.at "isinstance") PyProof.Rows.boot_isinstance (aa (pv 1) (aa (bF (aa (aV (x:="list") (v:=.ty "list") rfl (B.at "list") PyProof.Rows.boot_list rfl) (aa (aV (x:="tuple") (v:=.ty "tuple") rfl (B.at "tuple") PyProof.Rows.boot_tuple rfl) af))) af)))) (ag (aR (PW.pt (gz (aO (qO K rfl hr.units) (ak (x:="isinstance") (dc K rfl) rfl (B.at "isinstance") PyProof.Rows.boot_isinstance (aa (pv 1) (aa (aV (x:="list") (v:=.ty "list") rfl (B.at "list") PyProof.Rows.boot_list rfl) af))) (ak (x:="isinstance") (dc K rfl) rfl (B.at "isinstance") PyProof.Rows.boot_isinstance (aa (pv 0) (aa (aV (x:="list") (v:=.ty "list") rfl (B.at "list") PyProof.Rows.boot_list rfl) af))) (aK _)) (fo (aO (qO K rfl hr.units) (ak (x:="isinstance") (dc K rfl) rfl (B.at "isinstance") PyProof.Rows.boot_isinstance (aa (pv 1) (aa (aV (x:="tuple") (v:=.ty "tuple") rfl (B.at "tuple") PyProof.Rows.boot_tuple rfl) af))) (ak (x:="isinstance") (dc K rfl) rfl (B.at "isinstance") PyProof.Rows.boot_isinstance (aa (pv 0) (aa (aV (x:="tuple") (v:=.ty "tuple") rfl (B.at "tuple") PyProof.Rows.boot_tuple rfl) af))) (aK _))))) (ai (aB fj)) aL) (ai (aB (cR (bJ (fT K rfl hr.units) (ak (x:="len") (dw K rfl) rfl (B.at "len") PySem.boot_len (aa (pv 0) af)) (ak (x:="len") (dw K rfl) rfl (B.at "len") PySem.boot_len (aa (pv 1) af)) (aK _)) (cU (ak (x:="all") (mi K rfl rfl) rfl (B.at "all") PyProof.Rows.boot_all (aa (bT (N:=["_law_one","_law_two"]) (js:=[none,none]) rfl rfl rfl (dy K rfl false false rfl (B.at "zip") (aa (pv 0) (aa (pv 1) af))) (fun _ _ _ _ _=>(gD K rfl (n:=2) rfl (aD (aA (i:=0) (show List.Nodup (["_law_one","_law_two"]:List Str) by decide+kernel) rfl (Or.inl rfl)) (aD (aA (i:=1) (show List.Nodup (["_law_one","_law_two"]:List Str) by decide+kernel) rfl (Or.inl rfl)) aZ)))) (fun _ _ _ _ _=>bM) (fun _ _ _ _ _=>(aE hL_alike (hr.mono (by omega)) rfl (aa (pv 0) (aa (pv 1) af))))) af))))))) aL) (ag (aR (bh (ak (x:="isinstance") (dc K rfl) rfl (B.at "isinstance") PyProof.Rows.boot_isinstance (aa (pv 1) (aa (aV (x:="str") (v:=.ty "str") rfl (B.at "str") PyProof.Rows.boot_str rfl) af)))) (ai (aB (cR (ak (x:="isinstance") (dc K rfl) rfl (B.at "isinstance") PyProof.Rows.boot_isinstance (aa (pv 0) (aa (aV (x:="str") (v:=.ty "str") rfl (B.at "str") PyProof.Rows.boot_str rfl) af))) (cU (bJ (fT K rfl hr.units) (pv 0) (pv 1) (aK _)))))) aL) (ai (aB (cR (aE hL_number (hr.mono (by omega)) rfl (aa (pv 0) af)) (cU (bJ (fT K rfl hr.units) (pv 0) (pv 1) (aK _)))))))),?_⟩
     cases rv.int_inv;cases ru.int_inv;refine⟨_,rfl,aQ _ (Nat.le_of_ble_eq_true rfl),fun tt H1 n1=>.inr ⟨_,"int",tt,["list","tuple"],_,rfl,n1.at',rfl,by decide,rfl,_,rfl,bw ?_⟩⟩;refine⟨_,rfl,.inl ⟨_,"int","str",_,rfl,rfl,by decide,rfl,_,rfl,bw ?_⟩⟩;refine⟨_,rfl,_,"int",rfl,rfl,_,rfl,bK ?_⟩;refine⟨_,rfl,_,rfl,.inl ⟨_,_,rfl,rfl,?_⟩⟩;show Q (.bl (decide (z=z))) H1;rw[decide_eq_true rfl];exact k H1 n1.same
   · refine⟨_,(ag (aR (bh (ak (x:="isinstance") (dc K rfl) rfl (B.at "isinstance") PyProof.Rows.boot_isinstance (aa (pv 1) (aa (bF (aa (aV (x:="list") (v:=.ty "list") rfl (B.at "list") PyProof.Rows.boot_list rfl) (aa (aV (x:="tuple") (v:=.ty "tuple") rfl (B.at "tuple") PyProof.Rows.boot_tuple rfl) af))) af)))) (ag (aR (PW.pt (gz (aO (qO K rfl hr.units) (ak (x:="isinstance") (dc K rfl) rfl (B.at "isinstance") PyProof.Rows.boot_isinstance (aa (pv 1) (aa (aV (x:="list") (v:=.ty "list") rfl (B.at "list") PyProof.Rows.boot_list rfl) af))) (ak (x:="isinstance") (dc K rfl) rfl (B.at "isinstance") PyProof.Rows.boot_isinstance (aa (pv 0) (aa (aV (x:="list") (v:=.ty "list") rfl (B.at "list") PyProof.Rows.boot_list rfl) af))) (aK _)) (fo (aO (qO K rfl hr.units) (ak (x:="isinstance") (dc K rfl) rfl (B.at "isinstance") PyProof.Rows.boot_isinstance (aa (pv 1) (aa (aV (x:="tuple") (v:=.ty "tuple") rfl (B.at "tuple") PyProof.Rows.boot_tuple rfl) af))) (ak (x:="isinstance") (dc K rfl) rfl (B.at "isinstance") PyProof.Rows.boot_isinstance (aa (pv 0) (aa (aV (x:="tuple") (v:=.ty "tuple") rfl (B.at "tuple") PyProof.Rows.boot_tuple rfl) af))) (aK _))))) (ai (aB fj)) aL) (ai (aB (cR (bJ (fT K rfl hr.units) (ak (x:="len") (dw K rfl) rfl (B.at "len") PySem.boot_len (aa (pv 0) af)) (ak (x:="len") (dw K rfl) rfl (B.at "len") PySem.boot_len (aa (pv 1) af)) (aK _)) (cU (ak (x:="all") (mi K rfl rfl) rfl (B.at "all") PyProof.Rows.boot_all (aa (bT (N:=["_law_one","_law_two"]) (js:=[none,none]) rfl rfl rfl (dy K rfl false false rfl (B.at "zip") (aa (pv 0) (aa (pv 1) af))) (fun _ _ _ _ _=>(gD K rfl (n:=2) rfl (aD (aA (i:=0) (show List.Nodup (["_law_one","_law_two"]:List Str) by decide+kernel) rfl (Or.inl rfl)) (aD (aA (i:=1) (show List.Nodup (["_law_one","_law_two"]:List Str) by decide+kernel) rfl (Or.inl rfl)) aZ)))) (fun _ _ _ _ _=>bM) (fun _ _ _ _ _=>(aE hL_alike (hr.mono (by omega)) rfl (aa (pv 0) (aa (pv 1) af))))) af))))))) aL) (ag (aR (bh (ak (x:="isinstance") (dc K rfl) rfl (B.at "isinstance") PyProof.Rows.boot_isinstance (aa (pv 1) (aa (aV (x:="str") (v:=.ty "str") rfl (B.at "str") PyProof.Rows.boot_str rfl) af)))) (ai (aB (cR (ak (x:="isinstance") (dc K rfl) rfl (B.at "isinstance") PyProof.Rows.boot_isinstance (aa (pv 0) (aa (aV (x:="str") (v:=.ty "str") rfl (B.at "str") PyProof.Rows.boot_str rfl) af))) (cU (bJ (fT K rfl hr.units) (pv 0) (pv 1) (aK _)))))) aL) (ai (aB (cR (aE hL_number (hr.mono (by omega)) rfl (aa (pv 0) af)) (cU (bJ (fT K rfl hr.units) (pv 0) (pv 1) (aK _)))))))),?_⟩
     cases rv.str_inv;cases ru.str_inv;refine⟨_,rfl,aQ _ (Nat.le_of_ble_eq_true rfl),fun tt H1 n1=>.inr ⟨_,"str",tt,["list","tuple"],_,rfl,n1.at',rfl,by decide,rfl,_,rfl,bw ?_⟩⟩;refine⟨_,rfl,.inl ⟨_,"str","str",_,rfl,rfl,by decide,rfl,_,rfl,bK ?_⟩⟩;refine⟨_,rfl,.inl ⟨_,"str","str",_,rfl,rfl,by decide,rfl,_,rfl,bK ?_⟩⟩;refine⟨_,rfl,_,rfl,.inr ⟨_,_,bQ _,bQ _,sh,sh,?_⟩⟩;rw[eq];exact k H1 n1.same
   · refine⟨_,(ag (aR (bh (ak (x:="isinstance") (dc K rfl) rfl (B.at "isinstance") PyProof.Rows.boot_isinstance (aa (pv 1) (aa (bF (aa (aV (x:="list") (v:=.ty "list") rfl (B.at "list") PyProof.Rows.boot_list rfl) (aa (aV (x:="tuple") (v:=.ty "tuple") rfl (B.at "tuple") PyProof.Rows.boot_tuple rfl) af))) af)))) (ag (aR (PW.pt (gz (aO (qO K rfl hr.units) (ak (x:="isinstance") (dc K rfl) rfl (B.at "isinstance") PyProof.Rows.boot_isinstance (aa (pv 1) (aa (aV (x:="list") (v:=.ty "list") rfl (B.at "list") PyProof.Rows.boot_list rfl) af))) (ak (x:="isinstance") (dc K rfl) rfl (B.at "isinstance") PyProof.Rows.boot_isinstance (aa (pv 0) (aa (aV (x:="list") (v:=.ty "list") rfl (B.at "list") PyProof.Rows.boot_list rfl) af))) (aK _)) (fo (aO (qO K rfl hr.units) (ak (x:="isinstance") (dc K rfl) rfl (B.at "isinstance") PyProof.Rows.boot_isinstance (aa (pv 1) (aa (aV (x:="tuple") (v:=.ty "tuple") rfl (B.at "tuple") PyProof.Rows.boot_tuple rfl) af))) (ak (x:="isinstance") (dc K rfl) rfl (B.at "isinstance") PyProof.Rows.boot_isinstance (aa (pv 0) (aa (aV (x:="tuple") (v:=.ty "tuple") rfl (B.at "tuple") PyProof.Rows.boot_tuple rfl) af))) (aK _))))) (ai (aB fj)) aL) (ai (aB (cR (bJ (fT K rfl hr.units) (ak (x:="len") (dw K rfl) rfl (B.at "len") PySem.boot_len (aa (pv 0) af)) (ak (x:="len") (dw K rfl) rfl (B.at "len") PySem.boot_len (aa (pv 1) af)) (aK _)) (cU (ak (x:="all") (mi K rfl rfl) rfl (B.at "all") PyProof.Rows.boot_all (aa (bT (N:=["_law_one","_law_two"]) (js:=[none,none]) rfl rfl rfl (dy K rfl false false rfl (B.at "zip") (aa (pv 0) (aa (pv 1) af))) (fun _ _ _ _ _=>(gD K rfl (n:=2) rfl (aD (aA (i:=0) (show List.Nodup (["_law_one","_law_two"]:List Str) by decide+kernel) rfl (Or.inl rfl)) (aD (aA (i:=1) (show List.Nodup (["_law_one","_law_two"]:List Str) by decide+kernel) rfl (Or.inl rfl)) aZ)))) (fun _ _ _ _ _=>bM) (fun _ _ _ _ _=>(aE hL_alike (hr.mono (by omega)) rfl (aa (pv 0) (aa (pv 1) af))))) af))))))) aL) (ag (aR (bh (ak (x:="isinstance") (dc K rfl) rfl (B.at "isinstance") PyProof.Rows.boot_isinstance (aa (pv 1) (aa (aV (x:="str") (v:=.ty "str") rfl (B.at "str") PyProof.Rows.boot_str rfl) af)))) (ai (aB (cR (ak (x:="isinstance") (dc K rfl) rfl (B.at "isinstance") PyProof.Rows.boot_isinstance (aa (pv 0) (aa (aV (x:="str") (v:=.ty "str") rfl (B.at "str") PyProof.Rows.boot_str rfl) af))) (cU (bJ (fT K rfl hr.units) (pv 0) (pv 1) (aK _)))))) aL) (ai (aB (cR (aE hL_number (hr.mono (by omega)) rfl (aa (pv 0) af)) (cU (bJ (fT K rfl hr.units) (pv 0) (pv 1) (aK _)))))))),?_⟩
     obtain⟨va,xs,rfl,hV,hxs⟩:=rv.bu;obtain⟨ua,ys,rfl,hU,hys⟩:=ru.bu;have lx:=hxs.length;have ly:=hys.length;refine⟨_,rfl,aQ _ (Nat.le_of_ble_eq_true rfl),fun tt H1 n1=>.inr ⟨_,"tuple",tt,["list","tuple"],_,rfl,n1.at',.inr ⟨rfl,_,hU.go n1.same⟩,by decide,rfl,_,rfl,bK ?_⟩⟩;have s1:=n1.same;refine⟨_,rfl,.inl ⟨_,"tuple","list",_,rfl,.inr ⟨rfl,_,hU.go s1⟩,by decide,HS,_,rfl,.inl ⟨_,"tuple","list",_,rfl,.inr ⟨rfl,_,hV.go s1⟩,by decide,HS,.inr ⟨.bool false,.bool false,ij _,ij _,rfl,rfl,_,rfl,bw ?_⟩⟩⟩⟩;refine⟨_,rfl,.inl ⟨_,"tuple","tuple",_,rfl,.inr ⟨rfl,_,hU.go s1⟩,by decide,GP,_,rfl,.inl ⟨_,"tuple","tuple",_,rfl,.inr ⟨rfl,_,hV.go s1⟩,by decide,GP,.inr ⟨.bool true,.bool true,ij _,ij _,rfl,rfl,_,rfl,bw ?_⟩⟩⟩⟩;refine⟨_,rfl,va,_,rfl,.inr (hV.go s1),_,rfl,ua,_,rfl,.inr (hU.go s1),.inl ⟨_,_,rfl,rfl,_,rfl,?_⟩⟩;rw[decide_eq_true (show(xs.length:Int)=(ys.length:Int) by omega)];refine bK ?_;refine⟨_,rfl,_,rfl,va,ua,rfl,⟨_,hV.go s1⟩,⟨_,hU.go s1⟩,fun D2 H2 n2=>?_⟩;refine lL (K:=K) (b1:=false) (b2:=false) (xs:=xs) (ys:=ys) (bs:=List.replicate ds.length true) _ rfl (hV.go s1) (hU.go s1) n2 (by rw[List.length_replicate];omega) (by rw[List.length_replicate];omega) ?_ ?_
     · intro q x y b H3 Q' ex ey eb s3 hq
       have eb':b=true:=by
        rw[List.getElem?_replicate]at eb;split at eb
        ·exact(Option.some.inj eb).symm
        ·cases eb
       subst eb';have s13:=s1.trans s3;obtain⟨d1,e1,r1⟩:=hxs.get' q ex;obtain⟨d2,e2,r2⟩:=hys.get' q ey;rw[e1]at e2;cases e2;exact⟨_,rfl,_,rfl,x,y,d1,rfl,RD.mono s13 _ r1,RD.mono s13 _ r2,hA d1 (List.mem_of_getElem? e1),fun H4 s4=>hq H4 s4⟩
     · intro H3 s3 d3
       refine⟨D2,_,rfl,bc.of d3,?_⟩;rw[tJ];exact k H3 (s1.trans s3)
   · refine⟨_,(ag (aR (bh (ak (x:="isinstance") (dc K rfl) rfl (B.at "isinstance") PyProof.Rows.boot_isinstance (aa (pv 1) (aa (bF (aa (aV (x:="list") (v:=.ty "list") rfl (B.at "list") PyProof.Rows.boot_list rfl) (aa (aV (x:="tuple") (v:=.ty "tuple") rfl (B.at "tuple") PyProof.Rows.boot_tuple rfl) af))) af)))) (ag (aR (PW.pt (gz (aO (qO K rfl hr.units) (ak (x:="isinstance") (dc K rfl) rfl (B.at "isinstance") PyProof.Rows.boot_isinstance (aa (pv 1) (aa (aV (x:="list") (v:=.ty "list") rfl (B.at "list") PyProof.Rows.boot_list rfl) af))) (ak (x:="isinstance") (dc K rfl) rfl (B.at "isinstance") PyProof.Rows.boot_isinstance (aa (pv 0) (aa (aV (x:="list") (v:=.ty "list") rfl (B.at "list") PyProof.Rows.boot_list rfl) af))) (aK _)) (fo (aO (qO K rfl hr.units) (ak (x:="isinstance") (dc K rfl) rfl (B.at "isinstance") PyProof.Rows.boot_isinstance (aa (pv 1) (aa (aV (x:="tuple") (v:=.ty "tuple") rfl (B.at "tuple") PyProof.Rows.boot_tuple rfl) af))) (ak (x:="isinstance") (dc K rfl) rfl (B.at "isinstance") PyProof.Rows.boot_isinstance (aa (pv 0) (aa (aV (x:="tuple") (v:=.ty "tuple") rfl (B.at "tuple") PyProof.Rows.boot_tuple rfl) af))) (aK _))))) (ai (aB fj)) aL) (ai (aB (cR (bJ (fT K rfl hr.units) (ak (x:="len") (dw K rfl) rfl (B.at "len") PySem.boot_len (aa (pv 0) af)) (ak (x:="len") (dw K rfl) rfl (B.at "len") PySem.boot_len (aa (pv 1) af)) (aK _)) (cU (ak (x:="all") (mi K rfl rfl) rfl (B.at "all") PyProof.Rows.boot_all (aa (bT (N:=["_law_one","_law_two"]) (js:=[none,none]) rfl rfl rfl (dy K rfl true true rfl (B.at "zip") (aa (pv 0) (aa (pv 1) af))) (fun _ _ _ _ _=>(gD K rfl (n:=2) rfl (aD (aA (i:=0) (show List.Nodup (["_law_one","_law_two"]:List Str) by decide+kernel) rfl (Or.inl rfl)) (aD (aA (i:=1) (show List.Nodup (["_law_one","_law_two"]:List Str) by decide+kernel) rfl (Or.inl rfl)) aZ)))) (fun _ _ _ _ _=>bM) (fun _ _ _ _ _=>(aE hL_alike (hr.mono (by omega)) rfl (aa (pv 0) (aa (pv 1) af))))) af))))))) aL) (ag (aR (bh (ak (x:="isinstance") (dc K rfl) rfl (B.at "isinstance") PyProof.Rows.boot_isinstance (aa (pv 1) (aa (aV (x:="str") (v:=.ty "str") rfl (B.at "str") PyProof.Rows.boot_str rfl) af)))) (ai (aB (cR (ak (x:="isinstance") (dc K rfl) rfl (B.at "isinstance") PyProof.Rows.boot_isinstance (aa (pv 0) (aa (aV (x:="str") (v:=.ty "str") rfl (B.at "str") PyProof.Rows.boot_str rfl) af))) (cU (bJ (fT K rfl hr.units) (pv 0) (pv 1) (aK _)))))) aL) (ai (aB (cR (aE hL_number (hr.mono (by omega)) rfl (aa (pv 0) af)) (cU (bJ (fT K rfl hr.units) (pv 0) (pv 1) (aK _)))))))),?_⟩
     obtain⟨va,xs,rfl,hV,hxs⟩:=rv.lst_inv;obtain⟨ua,ys,rfl,hU,hys⟩:=ru.lst_inv;have lx:=hxs.length;have ly:=hys.length;refine⟨_,rfl,aQ _ (Nat.le_of_ble_eq_true rfl),fun tt H1 n1=>.inr ⟨_,"list",tt,["list","tuple"],_,rfl,n1.at',.inl ⟨rfl,_,hU.go n1.same⟩,by decide,rfl,_,rfl,bK ?_⟩⟩;have s1:=n1.same;refine⟨_,rfl,.inl ⟨_,"list","list",_,rfl,.inl ⟨rfl,_,hU.go s1⟩,by decide,GQ,_,rfl,.inl ⟨_,"list","list",_,rfl,.inl ⟨rfl,_,hV.go s1⟩,by decide,GQ,.inr ⟨.bool true,.bool true,ij _,ij _,rfl,rfl,_,rfl,bw ?_⟩⟩⟩⟩;refine⟨_,rfl,.inl ⟨_,"list","tuple",_,rfl,.inl ⟨rfl,_,hU.go s1⟩,by decide,HU,_,rfl,.inl ⟨_,"list","tuple",_,rfl,.inl ⟨rfl,_,hV.go s1⟩,by decide,HU,.inr ⟨.bool false,.bool false,ij _,ij _,rfl,rfl,_,rfl,bw ?_⟩⟩⟩⟩;refine⟨_,rfl,va,_,rfl,.inl (hV.go s1),_,rfl,ua,_,rfl,.inl (hU.go s1),.inl ⟨_,_,rfl,rfl,_,rfl,?_⟩⟩;rw[decide_eq_true (show(xs.length:Int)=(ys.length:Int) by omega)];refine bK ?_;refine⟨_,rfl,_,rfl,va,ua,rfl,⟨_,hV.go s1⟩,⟨_,hU.go s1⟩,fun D2 H2 n2=>?_⟩;refine lL (K:=K) (b1:=true) (b2:=true) (xs:=xs) (ys:=ys) (bs:=List.replicate ds.length true) _ rfl (hV.go s1) (hU.go s1) n2 (by rw[List.length_replicate];omega) (by rw[List.length_replicate];omega) ?_ ?_
     · intro q x y b H3 Q' ex ey eb s3 hq
       have eb':b=true:=by
        rw[List.getElem?_replicate]at eb;split at eb
        ·exact(Option.some.inj eb).symm
        ·cases eb
       subst eb';have s13:=s1.trans s3;obtain⟨d1,e1,r1⟩:=hxs.get' q ex;obtain⟨d2,e2,r2⟩:=hys.get' q ey;rw[e1]at e2;cases e2;exact⟨_,rfl,_,rfl,x,y,d1,rfl,RD.mono s13 _ r1,RD.mono s13 _ r2,hA d1 (List.mem_of_getElem? e1),fun H4 s4=>hq H4 s4⟩
     · intro H3 s3 d3
       refine⟨D2,_,rfl,bc.of d3,?_⟩;rw[tJ];exact k H3 (s1.trans s3)
end
end Lw
set_option maxHeartbeats 4000000
namespace Lw
open PySem PySem.Spec PyProof.Rows L2 Rt Ln Cn Pn Wk Rn
open Ow (topR cornO mnO betR atO ownF leadF ownL OkI OkIs)
section
variable {P:Program}{w:World}{K:PySem.W.Frag}{mg:Str->Option Value}{base:Heap}
theorem lX{z:Str}{n:Nat}(h:SeqAt.shaped (.str z)=true):hW n (.str z):=⟨SeqAt.canLay_of_shaped h,Nat.zero_le _⟩
theorem FG{z:Str}(h:z="step"\/z="wait"\/z="tool"\/z="mark"):SeqAt.shaped (.str z)=true:=by rcases h with rfl|rfl|rfl|rfl<;>decide+kernel
abbrev A0:PyData->Prop:=fun _=>False
theorem fS{A:PyData->Prop}(z:Int):Nx A (.int z):=.inl (.inl ⟨z,rfl⟩)
theorem mV{A:PyData->Prop}{s:Str}{n:Nat}(hn:n<=8)(h:hW n (.str s)):Nx A (.str s):=.inl (.inr ⟨s,rfl,h.shaped (by omega),h.refl⟩)
theorem AS(ti:Int)(zs:List Int)(q:Rat)(hz:zs.length<=1000):Nx (Nx (Nx A0)) (j0 ti zs q):=by
 refine .inr ⟨_,.inl rfl,(by simp),fun x hx=>?_⟩;simp only[List.mem_cons,List.not_mem_nil,or_false]at hx;rcases hx with rfl|rfl|rfl|rfl
 ·exact mV (n:=0) (by decide) (lX (FG (.inl rfl)))
 · refine .inr ⟨_,.inl rfl,by rw[List.length_map];omega,fun y hy=>?_⟩
   obtain⟨z,_,rfl⟩:=List.mem_map.mp hy;exact fS z
 ·exact fS _
 · refine .inr ⟨_,.inl rfl,(by simp),fun y hy=>?_⟩
   simp only[List.mem_cons,List.not_mem_nil,or_false]at hy;rcases hy with rfl|rfl<;>exact fS _
theorem zt{d:PyData}(h:oj d):Nx (Nx (Nx A0)) d:=by
 rcases h with⟨n,rfl,_⟩|⟨w,s,rfl,hw,h,_⟩
 · refine .inr ⟨_,.inl rfl,(by simp),fun x hx=>?_⟩
   simp only[List.mem_cons,List.not_mem_nil,or_false]at hx;rcases hx with rfl|rfl
   ·exact mV (n:=0) (by decide) (lX (FG (.inr (.inl rfl))))
   ·exact fS _
 · refine .inr ⟨_,.inl rfl,(by simp),fun x hx=>?_⟩
   simp only[List.mem_cons,List.not_mem_nil,or_false]at hx;rcases hx with rfl|rfl
   ·exact mV (n:=0) (by decide) (lX (FG (.inr (.inr hw))))
   ·exact mV (by decide) h
theorem AU{n:Nat}{ns:List Int}{sp:Int}(h:iD n 100 ns)(hn:n<=1000):Nx (Nx (Nx A0)) (cZ ns sp):=by
 refine .inr ⟨_,.inl rfl,(by simp),fun x hx=>?_⟩;simp only[List.mem_cons,List.not_mem_nil,or_false]at hx;rcases hx with rfl|rfl|rfl
 ·exact .inl (.inr ⟨_,rfl,lQ,by decide+kernel⟩)
 · refine .inr ⟨_,.inl rfl,by rw[List.length_map,h.len];omega,fun y hy=>?_⟩
   obtain⟨z,_,rfl⟩:=List.mem_map.mp hy;exact fS z
 ·exact fS _
theorem Fl{n:Nat}{ds:List PyData}{os:List Itm}(h:dM n ds os)(hw:RowW ds os)(hn:n<=1000)(hl:ds.length<=1000):Nx (Nx (Nx (Nx A0))) (.list ds):=by refine .inr ⟨_,.inr rfl,by omega,fun x hx=>?_⟩;obtain⟨i,hi⟩:=List.mem_iff_getElem?.mp hx;obtain⟨o,eo,it⟩:=h.get hi;cases o with |none=>exact zt (hw i x eo hi) |some z=>obtain⟨ns,sp⟩:=z;rw[dG it];exact AU (h.ok i ns sp eo).1 hn
theorem HV{pl:List Int}(h:pl.length<=1000):Nx (Nx (Nx (Nx A0))) (jL pl):=by refine .inr ⟨_,.inl rfl,by rw[List.length_map];omega,fun y hy=>?_⟩;obtain⟨z,_,rfl⟩:=List.mem_map.mp hy;exact fS z
theorem Fm(q:Rat):Nx (Nx (Nx (Nx A0))) (cN q):=by refine .inr ⟨_,.inl rfl,(by simp),fun y hy=>?_⟩;simp only[List.mem_cons,List.not_mem_nil,or_false]at hy;rcases hy with rfl|rfl<;>exact fS _
theorem uQ{a:Addr}{xs:List V}{bs:List Bool}{te:TE}{Q:VK}{D:Addr}{H H0:Hp}{n:Nat}(Pr:V->V->Prop)(rest:L2.St)(hn:n=2)(hx:bc K H a xs)(nw:Nw H H0 D (.lst []))(hl:xs.length=bs.length)(hz:xs.length<=1000) (hp:∀(i:Nat)(x:V),xs[i]? =some x->∃p y z,x= .ref p/\bG K H p [y,z]/\Pr y z) (hs:∀(i:Nat)(y z:V)(b:Bool)(H2:Hp)(Q':VK),Pr y z->bs[i]? =some b->aI H H2->(∀H3,aI H2 H3->Q' (.bl b) H3)->te (some y::some z::rest) H2 Q') (hq:∀H',aI H H'->H' D=some (.lst (bs.map V.bl))->Q (.ref D) H'):fk (Fw K a) (m3 K n (fz (cS 0) (fz (cS 1) nj))) gC te Q D (none::none::rest) H0:=by
  subst hn;have hD:=nw.no;refine fK xs.length (fun i σ H2=>aI H H2/\H2 D=some (.lst ((bs.take i).map V.bl))/\∃v v',σ=v::v'::rest) ?_ ?_ ?_
  ·exact⟨nw.same,nw.at',none,none,rfl⟩
  · rintro i σ H2 hi ⟨s2,d2,v,v',rfl⟩
    have hib:i<bs.length:=by rw[<-hl];exact hi
    have ex:=List.getElem?_eq_getElem hi;have eb:=List.getElem?_eq_getElem hib;refine⟨⟨xs,_,hx.go s2,ex⟩,fun y' H3 hy'=>?_⟩;obtain⟨rfl,k1⟩:=hy';have e1:=k1 _ (hx.go s2);rw[ex]at e1;cases e1;obtain⟨p,y,z,ep,hpp,pr⟩:=hp i _ ex;rw[ep]at ex⊢;refine⟨p,_,rfl,hpp.go s2,rfl,_,_,rfl,_,_,rfl,rfl,?_⟩;refine yes (bK ?_);refine hs i y z _ _ _ pr eb s2 fun H4 s4=>?_;refine⟨_,s4 _ _ d2,?_,xs.length-(i+1),by omega,rfl,by omega,fun b o e=>?_,?_,_,_,rfl⟩
    · rw[List.length_map,List.length_take]
      have:(1000:Nat)<sizeLine:=by decide
      omega
    ·rw[aj (aX e hD)];exact s4 b o (s2 b o e)
    ·rw[au,List.take_succ,eb,List.map_append];rfl
  · rintro σ H2 ⟨s2,d2,v,v',rfl⟩
    refine⟨⟨xs,hx.go s2,Nat.le_refl _⟩,hq H2 s2 ?_⟩;rw[d2,hl,List.take_length]
def AV(es:List PyData):Prop:=SeqAt.shaped (.list es)=true/\PyData.eqv (.list es) (.list es)=true/\cD es=true
def zu(K:PySem.W.Frag)(H:Hp)(td:Addr):Prop:=∃ts,H td=some (.lst ts)/\ts.length<=100/\∀t∈ts,∃p l ta us es,t=V.ref p/\bG K H p [.ref l,.ref ta]/\H l=some (.lst us)/\bG K H ta us/\bj K H us es/\AV es
inductive zv(K:PySem.W.Frag)(C:Addr)(vs:List V)(H:Hp)(Q:VK):Prop |mk (a:_)(q:_)(d:_)(qd:_)(td:_)(M:_)(D:_)(S:_)(h0:vs=[.ref a,.ref d])(h1:bL K C H a q M S)(h2:cA K H d qd td M S)(h3:eR M D S)(h4:M.Ok)(h5:zu K H td)(h6:∀H',aI H H'->Q (.bl true) H'):zv K C vs H Q
def zw(K:PySem.W.Frag)(C:Addr):Sp:=fun vs H Q _=>zv K C vs H Q
abbrev Fo:Stmt:=top 89
theorem CG:aH ["_law_runner","_law_sim_here","_law_found"] ["_law_runner","_law_sim_here"] (ao Fo):=⟨rfl,rfl,rfl,by decide+kernel,rfl,by decide+kernel,by decide+kernel⟩
theorem Fp{C:Addr}(F:FA K mg "_law_right" Fo)(B:dv mg)(TC:fH K C)(hL_alike:aw P w K mg base "_law_alike" 5 (zr (Nx (Nx (Nx (Nx A0)))) K))(hR_waiting:bN P w K mg base C "waiting" 1 (cE K C fun _ S H Q=>∀l ys H',H l=none->H' l=some (.lst ys)->bj K H' ys S.ds->aI H H'->Q (.ref l) H'))(hR_place:bN P w K mg base C "place" 3 (cE K C fun _ S H Q=>∀v H',RD K H' v (jL (cg S))->aI H H'->Q v H'))(hR_square:bN P w K mg base C "square" 1 (cE K C (JC K)))(hR_is_held:bN P w K mg base C "is_held" 1 (cE K C fun _ S H Q=>Q (.bl S.stp.isSome) H)):aw P w K mg base "_law_right" 6 (zw K C):=by
 refine F.has CG (fun vs H Q E h=>?_) (fun _ _ _ _ _ _ us hl=>match us,hl with|[_,_],_=>rfl) (fun fa cdv A outer s H vs Q E hr h=>?_)
 · obtain⟨a,q,d,qd,td,M,D,S,rfl,_⟩:=h
   rfl
 · obtain⟨a,q,d,qd,td,M,D,S,rfl,R,Z,ok,okm,T,k⟩:=h
   have nd:=CG.nd;have no:=ok.row.no;have l20:=ok.len;have lrs:=okm.len;obtain⟨dx,mv0,bv0,pcv,tv,e,q1,q2,q3,q4⟩:=R.ob;obtain⟨mv,lv,gv,sv,bv,cv,rv,ez,r1,r2,r3,r4,r5,r6⟩:=Z.ob;obtain⟨ys,eq,rq⟩:=Z.qu;obtain⟨ts,et,lt,ht⟩:=T;refine⟨_,(ag (aF (i:=2) nd rfl (Or.inl rfl) (dP hR_waiting TC.cl (hr.mono (by decide)) (pv 0))) (ag (aR (PW.pt (gz (cf (bh (aE hL_alike (hr.mono (by decide)) rfl (aa (pv 2) (aa (aU (df hr.units) (pv 1) aJ (fun _ _=>rfl)) af))))) (fo (cf (bh (aE hL_alike (hr.mono (by decide)) rfl (aa (dP hR_place TC.cl (hr.mono (by decide)) (pv 0)) (aa (aU (df hr.units) (pv 1) aJ (fun _ _=>rfl)) af)))))))) (ai (aB fj)) aL) (ag (cj (DD K rfl (pv 2))) (ag (cj (fA K rfl (pv 2) (aa (bF (aa aJ (aa ah af))) af))) (ag (aR (bh (ak (x:="any") (Gb K rfl rfl) rfl (B.at "any") PyProof.Rows.boot_any (aa (bT (N:=["_law_one","_law_kept"]) (js:=[none,none]) rfl rfl rfl (Ik K rfl (aU (df hr.units) (pv 1) aJ (fun _ _=>rfl))) (fun _ _ _ _ _=>(gD K rfl (n:=2) rfl (aD (aA (i:=0) (show List.Nodup (["_law_one","_law_kept"]:List Str) by decide+kernel) rfl (Or.inl rfl)) (aD (aA (i:=1) (show List.Nodup (["_law_one","_law_kept"]:List Str) by decide+kernel) rfl (Or.inl rfl)) aZ)))) (fun _ _ _ _ _=>bM) (fun _ _ _ _ _=>(bJ (qO K rfl hr.units) (pv 0) (bI (x:="list") (vT K rfl) rfl (B.at "list") PyProof.Rows.boot_list (aa (pv 1) af)) (aK _)))) af))) (ai (aB fj)) aL) (ai (aB (cR (aE hL_alike (hr.mono (by decide)) rfl (aa (dP hR_square TC.cl (hr.mono (by decide)) (pv 0)) (aa (aU (df hr.units) (pv 1) aJ (fun _ _=>rfl)) af))) (cU (bJ (fT K rfl hr.units) (dP hR_is_held TC.cl (hr.mono (by decide)) (pv 0)) (bJ iG (aU (df hr.units) (pv 1) aJ (fun _ _=>rfl)) dN (aK _)) (aK _))))))))))),?_⟩;refine⟨_,rfl,a,dx,_,rfl,e,rfl,a,q,M,D,S,rfl,R,ok,okm,fun l zs H1 nl dl rl s1=>?_⟩;refine⟨_,rfl,_,rfl,d,_,rfl,dg (s1 _ _ ez) dH,.ref l,.ref qd,.list S.ds,rfl,gH (bc.of dl) rl,gH (bc.of (s1 _ _ eq)) (bj.mono s1 _ rq),Fl ok.row ok.rw (by omega) (by omega),fun H2 s2=>?_⟩;have s12:=s1.trans s2;refine⟨_,rfl,bw ?_⟩;refine⟨_,rfl,a,dx,_,rfl,s12 _ _ e,rfl,a,q,M,D,S,rfl,R.same no s12,ok,okm,fun pv' H3 rp s3=>?_⟩;have s13:=s12.trans s3;refine⟨_,rfl,d,_,rfl,dg (s13 _ _ ez) tm,pv',lv,jL (cg S),rfl,rp,RD.mono s13 _ r2,HV (by rw[tI ok];omega),fun H4 s4=>?_⟩;refine⟨_,rfl,bw ?_⟩;have s14:=s13.trans s4;have dl4:=(s2.trans (s3.trans s4)) _ _ dl;refine⟨_,rfl,.inl ⟨rfl,_,bc.of dl4⟩,l,zs,rfl,rfl,dl4,?_⟩;have h24:sizeLine=16777216:=by decide
   have lz:=rl.length;refine⟨_,rfl,.inl ⟨rfl,_,bc.of au⟩,aQ _ (Nat.le_of_ble_eq_true rfl),fun t6 H6 n6=>?_⟩;have dl6:=n6.same _ _ (au (H:=H4) (a:=l) (o:=.lst zs.reverse));refine⟨l,_,_,rfl,rfl,dl6,by rw[List.length_reverse];omega,?_⟩;have s07:aI H (L2.upd H6 l (.lst (zs.reverse++[.ref t6]))):=fun b o' eb=>by
    have hb:b≠l:=fun z=>by rw[z,nl]at eb;cases eb
    rw[aj hb];exact n6.same _ _ (by rw[aj hb];exact s14 _ _ eb)
   generalize L2.upd H6 l (.lst (zs.reverse++[.ref t6]))=H7 at s07⊢;refine⟨_,rfl,d,_,rfl,dg (s07 _ _ ez) zc,td,rfl,⟨_,bc.of (s07 _ _ et)⟩,fun D1 H8 n8=>?_⟩;refine uQ (K:=K) (bs:=ts.map fun _=>false) (fun y z=>∃l ta us es,y= .ref l/\z= .ref ta/\H l=some (.lst us)/\bG K H ta us/\bj K H us es/\AV es) [] rfl (bc.of (s07 _ _ et)) n8 (by rw[List.length_map]) (by omega) (fun i x ex=>?_) (fun i y z b H9 Q' pr eb s9 kq=>?_) fun H9 s9 d9=>?_
   · obtain⟨p,l',ta,us,es,rfl,hp,h1,h2,h3,h4⟩:=ht x (List.mem_of_getElem? ex)
     exact⟨p,_,_,rfl,hp.go s07,l',ta,us,es,rfl,rfl,h1,h2,h3,h4⟩
   · obtain⟨l',ta,us,es,rfl,rfl,hl',hta,res,eok⟩:=pr
     have s09:=s07.trans s9;have eb:b=false:=by rw[List.getElem?_map]at eb;cases h:ts[i]? with |none=>rw[h]at eb;cases eb |some c=>rw[h]at eb;cases eb;rfl
     subst eb;refine⟨_,rfl,_,rfl,ta,us,rfl,.inr (hta.go s09),fun l2 HA nA=>?_⟩;refine .inr ⟨.list es,.list es,gH (bc.of (nA.same _ _ (s09 _ _ hl'))) (bj.mono (s09.trans nA.same) _ res),gH (bc.of nA.at') (bj.mono (s09.trans nA.same) _ res),eok.1,eok.1,?_⟩;rw[eok.2.1];exact kq _ nA.same
   · refine⟨D1,_,rfl,bc.of d9,_,rfl,?_⟩
     have ef:(ts.map fun _=>false).any id=false:=by rw[List.any_map,List.any_eq_false];simp
     rw[ef];refine bw ?_;have s09:=s07.trans s9;refine⟨_,rfl,a,dx,_,rfl,s09 _ _ e,rfl,a,q,M,D,S,rfl,R.same no s09,ok,okm,fun v rv'=>?_⟩;refine⟨_,rfl,d,_,rfl,dg (s09 _ _ ez) gh,v,sv,cN S.pc,rfl,rv'.rd,(r4.go s09).rd,Fm _,fun HA sA=>?_⟩;have s0A:=s09.trans sA;refine⟨_,rfl,bK ?_⟩;refine⟨_,rfl,a,dx,_,rfl,s0A _ _ e,rfl,a,q,M,D,S,rfl,R.same no s0A,ok,okm,?_⟩;refine⟨_,rfl,d,_,rfl,dg (s0A _ _ ez) j6,rfl,?_⟩;have eB:(!decide (bv= .cG))=S.stp.isSome:=by cases hs:S.stp with |none=>rw[hs]at r5;rw[r5.1];rfl |some z=>obtain⟨sq,st,gn⟩:=z;rw[hs]at r5;obtain⟨ta,su,rfl,_⟩:=r5;rfl
     refine .inr ⟨.bool _,.bool _,ij _,ij _,rfl,rfl,?_⟩;rw[eB];have:PyData.eqv (.bool S.stp.isSome) (.bool S.stp.isSome)=true:=by cases S.stp.isSome<;>rfl
     rw[this];exact k _ s0A
end
end Lw
namespace Lw
open PySem PySem.Spec PyProof.Rows L2 Rt Ln Cn Pn Wk Rn
open Ow (topR cornO mnO betR atO ownF leadF ownL OkI OkIs)
section
variable {P:Program}{w:World}{K:PySem.W.Frag}{mg:Str->Option Value}{base:Heap}
structure Ad where
 a:Addr
 q:Addr
 d:Addr
 e:Addr
 t:Addr
def Ad.all(x:Ad):List Addr:=[x.a,x.q,x.d,x.e,x.t]
def j7(K:PySem.W.Frag)(H:Hp)(td:Addr)(n:Nat)(X:Addr->Prop):Prop:=∃ts,H td=some (.lst ts)/\ts.length<=n/\∀t∈ts,∃p l ta us es,t=V.ref p/\bG K H p [.ref l,.ref ta]/\H l=some (.lst us)/\bG K H ta us/\bj K H us es/\AV es/\¬X l
theorem j7.at{H:Hp}{td:Addr}{n:Nat}{X:Addr->Prop}(h:j7 K H td n X)(hn:n<=100):zu K H td:=by obtain⟨ts,e,l,ht⟩:=h;refine⟨ts,e,by omega,fun t m=>?_⟩;obtain⟨p,l,ta,us,es,h1,h2,h3,h4,h5,h6,_⟩:=ht t m;exact⟨p,l,ta,us,es,h1,h2,h3,h4,h5,h6⟩
theorem j7.go{H H':Hp}{td:Addr}{n m:Nat}{X X':Addr->Prop}(h:j7 K H td n X)(hm:n<=m)(s:aW H H')(et:∀o,H td=some o->H' td=some o)(hl:∀l us,¬X l->H l=some (.lst us)->H' l=some (.lst us)/\¬X' l):j7 K H' td m X':=by obtain⟨ts,e,l,ht⟩:=h;refine⟨ts,et _ e,by omega,fun t m=>?_⟩;obtain⟨p,l,ta,us,es,h1,h2,h3,h4,h5,h6,h7⟩:=ht t m;obtain⟨g1,g2⟩:=hl l us h7 h3;exact⟨p,l,ta,us,es,h1,bG.v s h2,g1,bG.v s h4,bj.v s _ h6.2.2 h5,h6,g2⟩
structure gR(K:PySem.W.Frag)(C:Addr)(H:Hp)(M:dC)(n:Nat)(A:Nat->Ad)(S:Nat->cJ):Prop where
 run:∀i,i<2->bL K C H (A i).a (A i).q M (S i)
 sim:∀i,i<2->cA K H (A i).d (A i).e (A i).t M (S i)
 ok:∀i,i<2->eR M (64+10*n) (S i)
 told:∀i,i<2->j7 K H (A i).t n (fun l=>∃j,j<2/\l∈(A j).all)
 nd:∀i,i<2->(A i).all.Nodup
 dj:∀i j,i<2->j<2->i≠j->∀x∈(A i).all,x∉(A j).all
theorem gR.same{C:Addr}{H H':Hp}{M:dC}{n:Nat}{A:Nat->Ad}{S:Nat->cJ}(h:gR K C H M n A S)(s:aI H H'):gR K C H' M n A S:=⟨fun i hi=>(h.run i hi).same (h.ok i hi).row.no s,fun i hi=>(h.sim i hi).same (h.ok i hi).row.no s,h.ok,fun i hi=>(h.told i hi).go (Nat.le_refl _) s.v (fun o e=>s _ _ e) fun l us hx e=>⟨s _ _ e,hx⟩,h.nd,h.dj⟩
theorem eR.mono{M:dC}{D D':Nat}{S:cJ}(h:eR M D S)(h1:D<=D')(h2:D'<=1500):eR M D' S:=by refine⟨h.row,h.rw,h.len,h.rt1,h.rt2,h.dn,h.pl,h.pd.mono (by omega),h.pm,?_,by have:=h.D1;omega,h2⟩;have:=h.stp;cases hs:S.stp with |none=>trivial |some z=>obtain⟨sq,st,gn⟩:=z;rw[hs]at this;obtain⟨g0,g1,g2,hd,hl,hz,hh⟩:=this;exact⟨g0,g1,g2,hd.mono h1,hl,hz,hh⟩
theorem gR.here{C:Addr}{H:Hp}{M:dC}{n:Nat}{A:Nat->Ad}{S:Nat->cJ}(h:gR K C H M n A S){i:Nat}(hi:i<2):∀x∈(A i).all,H x≠none:=by
 intro x hx;obtain⟨dx,mv0,bv0,pcv,tv,e,_⟩:=(h.run i hi).ob;obtain⟨zs,eq,_⟩:=(h.run i hi).qu;obtain⟨mv,lv,gv,sv,bv,cv,rv,ez,_⟩:=(h.sim i hi).ob;obtain⟨ys,ee,_⟩:=(h.sim i hi).qu;obtain⟨ts,et,_⟩:=h.told i hi;simp only[Ad.all,List.mem_cons,List.not_mem_nil,or_false]at hx;rcases hx with rfl|rfl|rfl|rfl|rfl
 ·rw[e];simp
 ·rw[eq];simp
 ·rw[ez];simp
 ·rw[ee];simp
 ·rw[et];simp
theorem gR.v{C:Addr}{H H':Hp}{M:dC}{n:Nat}{A:Nat->Ad}{S:Nat->cJ}(h:gR K C H M n A S){i:Nat}(hi:i<2)(b:dZ (A i).all H H'):aW H H':=by
 obtain⟨dx,mv0,bv0,pcv,tv,e,_⟩:=(h.run i hi).ob;obtain⟨zs,eq,_⟩:=(h.run i hi).qu;obtain⟨mv,lv,gv,sv,bv,cv,rv,ez,_⟩:=(h.sim i hi).ob;obtain⟨ys,ee,_⟩:=(h.sim i hi).qu;obtain⟨ts,et,_⟩:=h.told i hi;refine b.v fun x hx o eo=>?_;simp only[Ad.all,List.mem_cons,List.not_mem_nil,or_false]at hx;rcases hx with rfl|rfl|rfl|rfl|rfl
 ·rw[e]at eo;cases eo;trivial
 ·rw[eq]at eo;cases eo;trivial
 ·rw[ez]at eo;cases eo;trivial
 ·rw[ee]at eo;cases eo;trivial
 ·rw[et]at eo;cases eo;trivial
def jN{α:Type}(f:Nat->α)(i:Nat)(x:α):Nat->α:=fun j=>if j=i then x else f j
theorem dJ{α:Type}{f:Nat->α}{i:Nat}{x:α}:jN f i x i=x:=if_pos rfl
theorem da{α:Type}{f:Nat->α}{i j:Nat}{x:α}(h:j≠i):jN f i x j=f j:=if_neg h
theorem gR.upd{C:Addr}{H H':Hp}{M:dC}{n:Nat}{A:Nat->Ad}{S:Nat->cJ}(h:gR K C H M n A S){i:Nat}(hi:i<2)(q':Addr)(S':cJ)(b:dZ (A i).all H H')(nq:q'=(A i).q\/H q'=none) (R:bL K C H' (A i).a q' M S')(Z:cA K H' (A i).d (A i).e (A i).t M S')(ok:eR M (64+10*(n+1)) S')(hn:n<=100) (T:j7 K H' (A i).t (n+1) (fun l=>(∃j,j<2/\l∈(A j).all)\/l=q'))(hq:q'≠(A i).t/\q'≠(A i).e):gR K C H' M (n+1) (jN A i {A i with q:=q'}) (jN S i S'):=by
  have sv:=h.v hi b;have eo:∀j,j<2->j≠i->∀x∈(A j).all,∀o,H x=some o->H' x=some o:=fun j hj hne x hx o e=>b x o e (h.dj j i hj hi hne x hx);have nq':∀j,j<2->q'∈(A j).all->q'=(A i).q:=fun j hj m=>nq.elim id fun z=>absurd z (h.here hj _ m);refine⟨fun j hj=>?_,fun j hj=>?_,fun j hj=>?_,fun j hj=>?_,fun j hj=>?_,?_⟩
  · by_cases c:j=i
    ·subst c;rw[dJ,dJ];exact R
    · rw[da c,da c]
      exact(h.run j hj).go (h.ok j hj).row.no sv (fun o e=>eo j hj c _ (by simp[Ad.all]) o e) (fun o e=>eo j hj c _ (by simp[Ad.all]) o e)
  · by_cases c:j=i
    ·subst c;rw[dJ,dJ];exact Z
    · rw[da c,da c]
      exact(h.sim j hj).go (h.ok j hj).row.no sv (fun o e=>eo j hj c _ (by simp[Ad.all]) o e) (fun o e=>eo j hj c _ (by simp[Ad.all]) o e)
  · by_cases c:j=i
    ·subst c;rw[dJ];exact ok
    ·rw[da c];exact(h.ok j hj).mono (by omega) (by omega)
  · have nx:∀l,¬((∃j,j<2/\l∈(A j).all)\/l=q')->¬∃j,j<2/\l∈(jN A i {A i with q:=q'} j).all:=by
      rintro l hx ⟨m,hm,hl⟩;by_cases c:m=i
      · subst c
        rw[dJ]at hl;simp only[Ad.all,List.mem_cons,List.not_mem_nil,or_false]at hl;rcases hl with z|z|z|z|z
        ·exact hx (.inl ⟨m,hm,by rw[z];simp[Ad.all]⟩)
        ·exact hx (.inr z)
        ·exact hx (.inl ⟨m,hm,by rw[z];simp[Ad.all]⟩)
        ·exact hx (.inl ⟨m,hm,by rw[z];simp[Ad.all]⟩)
        ·exact hx (.inl ⟨m,hm,by rw[z];simp[Ad.all]⟩)
      · rw[da c]at hl
        exact hx (.inl ⟨m,hm,hl⟩)
    by_cases c:j=i
    · subst c;rw[dJ]
      exact T.go (Nat.le_refl _) (fun _ _ _ e=>e) (fun _ e=>e) fun l us hx e=>⟨e,nx l hx⟩
    · rw[da c]
      refine(h.told j hj).go (by omega) sv (fun o e=>eo j hj c _ (by simp[Ad.all]) o e) fun l us hx e=>⟨b l _ e fun m=>hx ⟨i,hi,m⟩,nx l fun z=>z.elim hx fun z=>?_⟩;rcases nq with z2|z2
      ·exact hx ⟨i,hi,by rw[z,z2];simp[Ad.all]⟩
      ·rw[<-z,e]at z2;cases z2
  · by_cases c:j=i
    · subst c;rw[dJ]
      have:=h.nd j hj;have e1:=R.ne;have e2:q'≠(A j).d:=fun z=>by obtain⟨mv,lv,gv,sv,bv,cv,rv,ez,_⟩:=Z.ob;obtain⟨zs,eq,_⟩:=R.qu;rw[z,ez]at eq;cases eq
      simp only[Ad.all,List.nodup_cons,List.mem_cons,List.not_mem_nil,or_false,not_or]at this⊢;obtain⟨⟨t1,t2,t3,t4⟩,⟨t5,t6,t7⟩,t8⟩:=this;exact⟨⟨e1,t2,t3,t4⟩,⟨e2,hq.2,hq.1⟩,t8⟩
    ·rw[da c];exact h.nd j hj
  · have key:∀j,j<2->j≠i->∀x,x∈(A j).all->x∉({A i with q:=q'}:Ad).all:=fun j hj hne x hx m=>by
      have h0:=h.dj j i hj hi hne x hx;have:x∈(A i).all\/x=q':=by simp only[Ad.all,List.mem_cons,List.not_mem_nil,or_false]at m⊢;rcases m with z|z|z|z|z<;>simp[z]
      rcases this with z|z
      ·exact h0 z
      · rw[z]at hx h0
        rw[nq' j hj hx]at h0;exact h0 (by simp[Ad.all])
    intro j m hj hm hne x hx;by_cases c1:j=i
    · subst c1
      rw[dJ]at hx;rw[da (Ne.symm hne)];exact fun z=>key m hm (Ne.symm hne) x z hx
    · rw[da c1]at hx
      by_cases c2:m=i
      · subst c2
        rw[dJ];exact key j hj c1 x hx
      · rw[da c2]
        exact h.dj j m hj hm hne x hx
theorem AW{c:TT}{ta tb:TS}{D:Ends}{σ:L2.St}{H:Hp}(hb:tb D σ H)(h:tb D σ H->oW c ta tb D σ H):oW c ta tb D σ H:=h hb
theorem AX{c:TT}{ta tb:TS}{D:Ends}{σ:L2.St}{H:Hp}(p:Prop)(ha:p->ta D σ H)(hb:tb D σ H)(h:(p->ta D σ H)->tb D σ H->oW c ta tb D σ H):oW c ta tb D σ H:=h ha hb
theorem uR(M:dC)(S:cJ):bP (fw M S)=bP S:=by unfold fw;split<;>rfl
theorem One.goal{M:dC}{D:Nat}{S S1:cJ}{e:PyData}(ok:eR M D S)(o:One M S e S1):bP S1=bP S:=by cases o with |line eo nh=>exact tF eo |oA eo ed nh=>obtain⟨_,_,_,_,h⟩:=oP (d:=e) ok eo;exact h
theorem Run.goal{M:dC}{D:Nat}{S S1:cJ}{es:List PyData}(ok:eR M D S)(okm:M.Ok)(r:Run M S es S1):bP S1=bP S:=by induction r with |nil=>rfl |cons o _ ih=>rw[ih (One.ok ok okm o),o.goal ok]
theorem One.det{M:dC}{S S1 S2:cJ}{e f:PyData}(h:One M S e S1)(g:One M S f S2):e=f/\S1=S2:=by cases h with
 |line h1 _=>cases g with |line g1 _=>rw[h1]at g1;cases g1;exact⟨rfl,rfl⟩ |oA g1 _ _=>rw[h1]at g1;cases g1
 |oA h1 h2 _=>cases g with |line g1 _=>rw[h1]at g1;cases g1 |oA g1 g2 _=>rw[h2]at g2;cases g2;exact⟨rfl,rfl⟩
theorem One.go{M:dC}{S S1:cJ}{e:PyData}(h:One M S e S1):¬(S.os=[]\/Halt S.pc S.stp):=by
 rintro(z|z)
 ·cases h with |line h1 _=>rw[z]at h1;simp at h1 |oA h1 _ _=>rw[z]at h1;simp at h1
 ·cases h with |line _ nh=>exact nh z |oA _ _ nh=>exact nh z
theorem Run.Js{M:dC}{S S1 S2:cJ}{es fs:List PyData}(h:Run M S es S1){n:Int}(l1:(es.length:Int)<=n)(c1:(es.length:Int)=n\/S1.os=[]\/Halt S1.pc S1.stp)(g:Run M S fs S2)(l2:(fs.length:Int)<=n)(c2:(fs.length:Int)=n\/S2.os=[]\/Halt S2.pc S2.stp):es=fs/\S1=S2:=by induction h generalizing fs n with
 |nil=>cases g with |nil=>exact⟨rfl,rfl⟩ |cons o r=>
     rcases c1 with z|z
     ·simp only[List.length_cons,List.length_nil]at z l2;omega
     ·exact(o.go z).elim
 |cons o r ih=>cases g with
   |nil=>
     rcases c2 with z|z
     ·simp only[List.length_cons,List.length_nil]at z l1;omega
     ·exact(o.go z).elim |cons o2 r2=>obtain⟨e,z⟩:=o.det o2;subst e z;simp only[List.length_cons]at l1 c1 l2 c2;obtain⟨e1,e2⟩:=ih (n:=n-1) (by omega) (c1.imp (fun h=>by omega) id) r2 (by omega) (c2.imp (fun h=>by omega) id);exact⟨by rw[e1],e2⟩
theorem AY(ti:Int)(zs:List Int)(q:Rat):hW 2 (j0 ti zs q):=by refine fI.tup (.cons (lX (FG (.inl rfl))) (.cons (fI.tup fun d hd=>?_) (.cons (.int _) (.cons (fI.tup (.cons (.int _) (.cons (.int _) .nil))) .nil))));obtain⟨a,_,rfl⟩:=List.mem_map.mp hd;exact .int _
theorem Fq{d:PyData}(h:oj d):hW 2 d:=by
 rcases h with⟨n,rfl,_⟩|⟨w,s,rfl,hw,h,_⟩
 ·exact fI.tup (.cons (lX (FG (.inr (.inl rfl)))) (.cons (.int _) .nil))
 ·exact fI.tup (.cons (lX (FG (.inr (.inr hw)))) (.cons (h.le (by decide)) .nil))
theorem Run.ent{M:dC}{D:Nat}{S S1:cJ}{es:List PyData}(ok:eR M D S)(okm:M.Ok)(r:Run M S es S1):∀d∈es,hW 2 d/\Nx (Nx (Nx A0)) d:=by induction r with |nil=>exact nofun |@cons S S1 S2 e es o r ih=>
   intro d hd;rcases List.mem_cons.mp hd with rfl|hd
   ·cases o with |@line ns sp eo nh=>refine⟨AY _ _ _,AS _ _ _ ?_⟩;have h1:=(ok.row.ok 0 ns sp eo).1.len;have h2:=okm.len;simp only[gd,List.length_map];omega |oA eo ed nh=>have:=ok.rw 0 d eo ed;exact⟨Fq this,zt this⟩
   ·exact ih (One.ok ok okm o) d hd
theorem I0{es:List PyData}(h:∀d∈es,hW 2 d)(hn:cD es=true):AV es:=by have:hW 3 (.list es):=fI.lst h;exact⟨this.shaped (by decide),this.refl,hn⟩
structure kU(K:PySem.W.Frag)(C:Addr)(a lr ls:Addr)(mv:V)(scr:List Int)(M:dC)(H:Hp)(n:Nat)(A:Nat->Ad)(S:Nat->cJ):Prop where
 two:gR K C H M n A S
 hr:H lr=some (.lst [.ref (A 0).a,.ref (A 1).a])
 hs:H ls=some (.lst [.ref (A 0).d,.ref (A 1).d])
 sc:(∀H2,bc K H2 a (scr.map V.int))\/((∃o,H a=some o)/\bc K H a (scr.map V.int)/\∀j,j<2->a∉(A j).all)
 rm:RD K H mv M.D
 on:∀i,i<2->pI M.rs (bP (S i))
 nx:∀y,y=lr\/y=ls->∀j,j<2->y∉(A j).all
section
variable {C a lr ls:Addr}{mv:V}{scr:List Int}{M:dC}{H H':Hp}{n:Nat}{A:Nat->Ad}{S:Nat->cJ}
theorem kU.same(h:kU K C a lr ls mv scr M H n A S)(s:aI H H'):kU K C a lr ls mv scr M H' n A S:=⟨h.two.same s,s _ _ h.hr,s _ _ h.hs,h.sc.imp id fun⟨⟨o,e⟩,h1,h2⟩=>⟨⟨o,s _ _ e⟩,s.seq h1,h2⟩,RD.mono s _ h.rm,h.on,h.nx⟩
theorem kU.upd(h:kU K C a lr ls mv scr M H n A S){i:Nat}(hi:i<2)(q':Addr)(S':cJ)(b:dZ (A i).all H H')(nq:q'=(A i).q\/H q'=none) (R:bL K C H' (A i).a q' M S')(Z:cA K H' (A i).d (A i).e (A i).t M S')(ok:eR M (64+10*(n+1)) S')(hn:n<=100) (T:j7 K H' (A i).t (n+1) (fun l=>(∃j,j<2/\l∈(A j).all)\/l=q'))(hq:q'≠(A i).t/\q'≠(A i).e)(on:pI M.rs (bP S')):kU K C a lr ls mv scr M H' (n+1) (jN A i {A i with q:=q'}) (jN S i S'):=by
  have eA:∀j,(jN A i {A i with q:=q'} j).a=(A j).a/\(jN A i {A i with q:=q'} j).d=(A j).d:=fun j=>by
   by_cases c:j=i
   ·subst c;rw[dJ];exact⟨rfl,rfl⟩
   ·rw[da c];exact⟨rfl,rfl⟩
  have out:∀y o,H y=some o->(∀j,j<2->y∉(A j).all)->∀j,j<2->y∉(jN A i {A i with q:=q'} j).all:=fun y o ey hy j hj m=>by
   by_cases c:j=i
   · subst c
     rw[dJ]at m;have:y∈(A j).all\/y=q':=by simp only[Ad.all,List.mem_cons,List.not_mem_nil,or_false]at m⊢;rcases m with z|z|z|z|z<;>simp[z]
     rcases this with z|z
     ·exact hy j hj z
     · rcases nq with z2|z2
       ·exact hy j hj (by rw[z,z2];simp[Ad.all])
       ·rw[<-z,ey]at z2;cases z2
   · rw[da c]at m
     exact hy j hj m
  refine⟨h.two.upd hi q' S' b nq R Z ok hn T hq,?_,?_,?_,RD.v (h.two.v hi b) _ (cm _ _ _ _ _) h.rm,fun j hj=>?_,fun y hy j hj m=>?_⟩
  ·rw[(eA 0).1,(eA 1).1];exact b _ _ h.hr (h.nx _ (.inl rfl) i hi)
  ·rw[(eA 0).2,(eA 1).2];exact b _ _ h.hs (h.nx _ (.inr rfl) i hi)
  · rcases h.sc with h1|⟨⟨o,e⟩,h1,h2⟩
    ·exact .inl h1
    · have e':=b _ _ e (h2 i hi)
      refine .inr ⟨⟨o,e'⟩,h1.imp (fun r=>r.imp (fun z=>?_) fun⟨o',z⟩=>?_) id,out a o e h2⟩
      ·exact b _ _ z (h2 i hi)
      ·exact⟨o',b _ _ z (h2 i hi)⟩
  · by_cases c:j=i
    ·subst c;rw[dJ];exact on
    ·rw[da c];exact h.on j hj
  · rcases hy with rfl|rfl
    ·exact out _ _ h.hr (h.nx _ (.inl rfl)) j hj m
    ·exact out _ _ h.hs (h.nx _ (.inr rfl)) j hj m
theorem kU.Fs(h:kU K C a lr ls mv scr M H n A S){i:Nat}(hi:i<2)(S':cJ)(b:dZ (A i).all H H')(et:∀o,H (A i).t=some o->H' (A i).t=some o) (R:bL K C H' (A i).a (A i).q M S')(Z:cA K H' (A i).d (A i).e (A i).t M S')(ok:eR M (64+10*(n+1)) S')(hn:n<=100)(on:pI M.rs (bP S')):kU K C a lr ls mv scr M H' (n+1) (jN A i {A i with q:=(A i).q}) (jN S i S'):=by have hnd:=h.two.nd i hi;simp only[Ad.all,List.nodup_cons,List.mem_cons,List.not_mem_nil,or_false,not_or]at hnd;obtain⟨⟨t1,t2,t3,t4⟩,⟨t5,t6,t7⟩,t8⟩:=hnd;refine h.upd hi _ S' b (.inl rfl) R Z ok hn ((h.two.told i hi).go (by omega) (h.two.v hi b) et fun l us hx e=>⟨b _ _ e fun m=>hx ⟨i,hi,m⟩,fun z=>z.elim hx fun z=>hx ⟨i,hi,by rw[z];simp[Ad.all]⟩⟩) ⟨t7,t6⟩ on
theorem kU.uS(h:kU K C a lr ls mv scr M H n A S):bc K H a (scr.map V.int):=h.sc.elim (fun z=>z H) fun z=>z.2.1
theorem kU.mono(h:kU K C a lr ls mv scr M H n A S){m:Nat}(h1:n<=m)(h2:m<=140):kU K C a lr ls mv scr M H m A S:=⟨⟨h.two.run,h.two.sim,fun i hi=>(h.two.ok i hi).mono (by omega) (by omega),fun i hi=>(h.two.told i hi).go h1 (fun _ _ _ e=>e) (fun _ e=>e) fun l us hx e=>⟨e,hx⟩,h.two.nd,h.two.dj⟩,h.hr,h.hs,h.sc,h.rm,h.on,h.nx⟩
end
end
end Lw
namespace Lw
open PySem PySem.Spec PyProof.Rows L2 Rt Ln Cn Pn Wk Rn
open Ow (topR cornO mnO betR atO ownF leadF ownL OkI OkIs)
section
variable {P:Program}{w:World}{K:PySem.W.Frag}{mg:Str->Option Value}{base:Heap}
def CH(K:PySem.W.Frag):Sp:=fun vs H Q _=>∃(a:Addr)(ns:List Int),vs=[.ref a]/\bc K H a (ns.map V.int)/\ns.length<=63/\∀H',Q (.bl true) H'
theorem aI.but{S:List Addr}{H0 H H':Hp}(s:aI H0 H)(b:dZ S H H')(hn:∀x∈S,H0 x=none):aI H0 H':=fun b' o e=>b _ _ (s _ _ e) (fun hm=>by rw[hn _ hm]at e;cases e)
theorem aI.none{H0 H:Hp}{x:Addr}(s:aI H0 H)(h:H x=none):H0 x=none:=by cases e:H0 x with |none=>rfl |some o=>have:=s _ _ e;rw[h]at this;cases this
theorem nn{H H':Hp}{x y:Addr}(s:aI H H')(hx:H x≠none)(hy:H' y=none):x≠y:=fun e=>by cases h:H x with |none=>exact hx h |some o=>have:=s _ _ h;rw[e,hy]at this;cases this
theorem Ia{H:Hp}{x y:Addr}(hx:H x≠none)(hy:H y=none):x≠y:=fun e=>hx (by rw[e];exact hy)
theorem AZ{H H':Hp}{x:Addr}(s:aI H H')(hx:H x≠none):H' x≠none:=by cases h:H x with |none=>exact(hx h).elim |some o=>rw[s _ _ h];simp
theorem kU.first{C a lr ls x q0 d0 e0 t0 x1 q1 d1 e1 t1:Addr}{mv:V}{scr:List Int}{M:dC}{pl:List Int}{H H5 H6 H7 H8 H9 H10 H11:Hp}(nx:H5 x=none)(nq0:H5 q0=none)(R6:bL K C H6 x q0 M (yO pl))(s6:aI H5 H6)(nx1:H6 x1=none)(nq1:H6 q1=none)(R7:bL K C H7 x1 q1 M (yO pl))(s7:aI H6 H7)(n8:Nw H7 H8 lr (.lst [.ref x,.ref x1]))(Z0:cA K H9 d0 e0 t0 M (yO pl))(T0:H9 t0=some (.lst []))(nd0:H8 d0=none)(ne0:H8 e0=none)(nt0:H8 t0=none)(g1:d0≠t0)(g2:e0≠t0)(s9:aI H8 H9)(Z1:cA K H10 d1 e1 t1 M (yO pl))(T1:H10 t1=some (.lst []))(nd1:H9 d1=none)(ne1:H9 e1=none)(nt1:H9 t1=none)(g3:d1≠t1)(g4:e1≠t1)(s10:aI H9 H10)(n11:Nw H10 H11 ls (.lst [.ref d0,.ref d1]))(s5:aI H H5)(hS:bc K H a (scr.map V.int))(rm:RD K H5 mv M.D)(on:pI M.rs pl)(hl:pl.length=M.rs.length): kU K C a lr ls mv scr M H11 0 (fun i=>if i=0 then⟨x,q0,d0,e0,t0⟩else⟨x1,q1,d1,e1,t1⟩) (fun _=>yO pl):=by
  have px:H6 x≠none:=by obtain⟨_,_,_,_,_,e,_⟩:=R6.ob;rw[e];simp
  have pq:H6 q0≠none:=by obtain⟨_,e,_⟩:=R6.qu;rw[e];simp
  have px1:H7 x1≠none:=by obtain⟨_,_,_,_,_,e,_⟩:=R7.ob;rw[e];simp
  have pq1:H7 q1≠none:=by obtain⟨_,e,_⟩:=R7.qu;rw[e];simp
  have pd0:H9 d0≠none:=by obtain⟨_,_,_,_,_,_,_,e,_⟩:=Z0.ob;rw[e];simp
  have pe0:H9 e0≠none:=by obtain⟨_,e,_⟩:=Z0.qu;rw[e];simp
  have pt0:H9 t0≠none:=by rw[T0];simp
  have pd1:H10 d1≠none:=by obtain⟨_,_,_,_,_,_,_,e,_⟩:=Z1.ob;rw[e];simp
  have pe1:H10 e1≠none:=by obtain⟨_,e,_⟩:=Z1.qu;rw[e];simp
  have pt1:H10 t1≠none:=by rw[T1];simp
  have s78:=n8.same;have s68:=s7.trans s78;have s69:=s68.trans s9;have s79:=s78.trans s9;have s1011:=n11.same;have s911:=s10.trans s1011;have s811:=s9.trans s911;have s711:=s78.trans s811;have s611:=s7.trans s711;have P6:∀u∈[x,q0],H6 u≠none:=by simp[px,pq]
  have N6:∀v∈[x1,q1],H6 v=none:=by simp[nx1,nq1]
  have P7:∀v∈[x1,q1],H7 v≠none:=by simp[px1,pq1]
  have N8:∀u∈[d0,e0,t0],H8 u=none:=by simp[nd0,ne0,nt0]
  have P9:∀u∈[d0,e0,t0],H9 u≠none:=by simp[pd0,pe0,pt0]
  have N9:∀v∈[d1,e1,t1],H9 v=none:=by simp[nd1,ne1,nt1]
  have P10:∀v∈[d1,e1,t1],H10 v≠none:=by simp[pd1,pe1,pt1]
  have spl:∀{u a b c d e:Addr},u∈[a,b,c,d,e]->u∈[a,b]\/u∈[c,d,e]:=fun h=>by simp only[List.mem_cons,List.not_mem_nil,or_false]at h⊢;rcases h with h|h|h|h|h<;>simp[h]
  have D01:∀u∈[x,q0,d0,e0,t0],∀v∈[x1,q1,d1,e1,t1],u≠v:=fun u hu v hv=>by
   rcases spl hu with h|h<;>rcases spl hv with g|g
   ·exact Ia (P6 u h) (N6 v g)
   ·exact nn s69 (P6 u h) (N9 v g)
   ·exact(nn s78 (P7 v g) (N8 u h)).symm
   ·exact Ia (P9 u h) (N9 v g)
  have nd0':([x,q0,d0,e0,t0]:List Addr).Nodup:=by simp only[List.nodup_cons,List.mem_cons,List.not_mem_nil,or_false,not_or,List.nodup_nil,not_false_eq_true,and_true];exact⟨⟨R6.ne,nn s68 px nd0,nn s68 px ne0,nn s68 px nt0⟩,⟨nn s68 pq nd0,nn s68 pq ne0,nn s68 pq nt0⟩,⟨Z0.ne,g1⟩,g2⟩
  have nd1':([x1,q1,d1,e1,t1]:List Addr).Nodup:=by simp only[List.nodup_cons,List.mem_cons,List.not_mem_nil,or_false,not_or,List.nodup_nil,not_false_eq_true,and_true];exact⟨⟨R7.ne,nn s79 px1 nd1,nn s79 px1 ne1,nn s79 px1 nt1⟩,⟨nn s79 pq1 nd1,nn s79 pq1 ne1,nn s79 pq1 nt1⟩,⟨Z1.ne,g3⟩,g4⟩
  have two:∀{i:Nat},i<2->i=0\/i=1:=fun h=>by omega
  refine⟨⟨fun i hi=>?_,fun i hi=>?_,fun i hi=>Jo hl,fun i hi=>?_,fun i hi=>?_,fun i j hi hj hne u hu hv=>?_⟩,s811 _ _ n8.at',n11.at',?_,RD.mono (s6.trans s611) _ rm,fun i hi=>?_,fun y hy j hj m=>?_⟩
  · rcases two hi with rfl|rfl
    ·exact R6.same rfl s611
    ·exact R7.same rfl s711
  · rcases two hi with rfl|rfl
    ·exact Z0.same rfl s911
    ·exact Z1.same rfl s1011
  · rcases two hi with rfl|rfl
    ·exact⟨[],s911 _ _ T0,Nat.le_refl _,nofun⟩
    ·exact⟨[],s1011 _ _ T1,Nat.le_refl _,nofun⟩
  · rcases two hi with rfl|rfl
    ·exact nd0'
    ·exact nd1'
  · rcases two hi with rfl|rfl<;>rcases two hj with rfl|rfl
    ·exact hne rfl
    ·exact D01 u hu u hv rfl
    ·exact D01 u hv u hu rfl
    ·exact hne rfl
  · rcases hS with hS|hS
    · have ho:H a≠none:=by rcases hS with h|⟨o,h⟩<;>(rw[h];simp)
      have s11:=s5.trans (s6.trans s611);obtain⟨o,eo⟩:∃o,H11 a=some o:=Option.ne_none_iff_exists'.mp (AZ s11 ho);refine .inr ⟨⟨o,eo⟩,s11.seq (.inl hS),fun j hj m=>?_⟩;rcases two hj with rfl|rfl
      · rcases spl (show a∈[x,q0,d0,e0,t0]from m)with h|h
        · simp only[List.mem_cons,List.not_mem_nil,or_false]at h
          rcases h with z|z
          ·exact nn s5 ho nx z
          ·exact nn s5 ho nq0 z
        ·exact nn ((s5.trans s6).trans s68) ho (N8 a h) rfl
      · rcases spl (show a∈[x1,q1,d1,e1,t1]from m)with h|h
        ·exact nn (s5.trans s6) ho (N6 a h) rfl
        ·exact nn ((s5.trans s6).trans s69) ho (N9 a h) rfl
    ·exact .inl fun H2=>.inr hS
  ·exact on
  · have plr:H8 lr≠none:=by rw[n8.at'];simp
    rcases hy with rfl|rfl
    · rcases two hj with rfl|rfl
      · rcases spl (show y∈[x,q0,d0,e0,t0]from m)with h|h
        ·exact nn s7 (P6 y h) n8.no rfl
        ·exact Ia plr (N8 y h) rfl
      · rcases spl (show y∈[x1,q1,d1,e1,t1]from m)with h|h
        ·exact Ia (P7 y h) n8.no rfl
        ·exact nn s9 plr (N9 y h) rfl
    · rcases two hj with rfl|rfl
      · rcases spl (show y∈[x,q0,d0,e0,t0]from m)with h|h
        ·exact nn (s69.trans s10) (P6 y h) n11.no rfl
        ·exact nn s10 (P9 y h) n11.no rfl
      · rcases spl (show y∈[x1,q1,d1,e1,t1]from m)with h|h
        ·exact nn (s79.trans s10) (P7 y h) n11.no rfl
        ·exact Ia (P10 y h) n11.no rfl
abbrev zx:Stmt:=top 90
theorem CI:aH ["_law_script","_law_bag_here","_law_machine_here","_law_place_here","_law_runners","_law_sims","_law_k","_law_which","_law_kind","_law_runner","_law_sim_here","_law_item","_law_turn","_law_end","_law_fits","_law_n","_law_found"] ["_law_script"] (ao zx):=⟨rfl,rfl,rfl,by decide+kernel,rfl,by decide+kernel,by decide+kernel⟩
theorem Ft{f C:Addr}{fd:FuncData}(F:vN K "law" "law" zx f fd)(TC:fH K C)(B:dv mg)(hL_bag:aw P w K mg base "_law_bag" 1 (BJ K))(hL_take:aw P w K mg base "_law_take" 1 jq)(hL_machine:aw P w K mg base "_law_machine" 2 (xH K))(hL_place:aw P w K mg base "_law_place" 2 (GZ K))(hL_line:aw P w K mg base "_law_line" 2 (yj K))(hRunner:rB P w K mg base C "Runner" 1 (C4 K C))(hL_sim:aw P w K mg base "_law_sim" 1 (Cr K))(hR_feed:bN P w K mg base C "feed" 5 (C6 K C))(hL_sim_feed:aw P w K mg base "_law_sim_feed" 1 (Cu K))(hR_hold:bN P w K mg base C "hold" 2 (Cj K C))(hL_sim_hold:aw P w K mg base "_law_sim_hold" 2 (Cp K))(hR_go:bN P w K mg base C "go" 1 (Cf K C))(hR_entries:bN P w K mg base C "entries" 12 (Cd K C))(hL_sim_entries:aw P w K mg base "_law_sim_entries" 6 (CC K))(hL_alike:aw P w K mg base "_law_alike" 5 (zr (Nx (Nx (Nx (Nx A0)))) K))(hL_right:aw P w K mg base "_law_right" 6 (zw K C)):hJ P w K mg base u7 13 f fd ["_law_script"] (CH K):=by
 refine F.ok CI (fun vs H Q E h=>?_) (fun cdv A outer s H vs Q E hr h=>?_)
 · obtain⟨a,ns,rfl,_⟩:=h
   rfl
 · obtain⟨a,ns,rfl,hS,hlen,k⟩:=h
   have nd:=CI.nd;refine⟨_,(ag (aF (i:=1) nd rfl (Or.inl rfl) (aE hL_bag (hr.mono (by decide)) rfl (aa (pv 0) (aa ah af)))) (ag (aF (i:=2) nd rfl (Or.inl rfl) (aE hL_machine (hr.mono (by decide)) rfl (aa (pv 1) af))) (ag (aF (i:=3) nd rfl (Or.inl rfl) (aE hL_place (hr.mono (by decide)) rfl (aa (pv 1) (aa (pv 2) af)))) (ag (aF (i:=4) nd rfl (Or.inl rfl) (bE (aa (BE hRunner (hr.mono (by decide)) rfl (aa (pv 2) (aa (pv 3) af))) (aa (BE hRunner (hr.mono (by decide)) rfl (aa (pv 2) (aa (pv 3) af))) af)))) (ag (aF (i:=5) nd rfl (Or.inl rfl) (bE (aa (aE hL_sim (hr.mono (by decide)) rfl (aa (pv 2) (aa (pv 3) af))) (aa (aE hL_sim (hr.mono (by decide)) rfl (aa (pv 2) (aa (pv 3) af))) af)))) (ag (fc PassesOwn.never rfl (fV rfl (B.at "range") (aa (ak (x:="max") (lg rfl) rfl (B.at "max") PyProof.Rows.boot_max (aa ah (aa (ak (x:="min") (jd rfl) rfl (B.at "min") PyProof.Rows.boot_min (aa (ak (x:="len") (dw K rfl) rfl (B.at "len") PySem.boot_len (aa (pv 0) af)) (aa ah af))) af))) af)) (aA (i:=6) nd rfl (Or.inl rfl)) (ag (aF (i:=1) nd rfl (Or.inl rfl) (aE hL_bag (hr.mono (by decide)) rfl (aa (pv 0) (aa (az bo (pv 6) ah) af)))) (ag (aF (i:=7) nd rfl (Or.inl rfl) (aE hL_take (hr.mono (by decide)) rfl (aa (pv 1) (aa ah af)))) (ag (aF (i:=8) nd rfl (Or.inl rfl) (aE hL_take (hr.mono (by decide)) rfl (aa (pv 1) (aa ah af)))) (ag (fR (i:=9) (j:=10) rfl nd rfl rfl (by decide) rfl rfl (aa (aM (cw K rfl) (pv 4) (pv 7) (fun _ _=>rfl)) (aa (aM (cw K rfl) (pv 5) (pv 7) (fun _ _=>rfl)) af)) rfl) (ag (cL (aR (PW.pt (fQ (aO ft (pv 8) ah (aK _)) (gm (aO ft (ak (x:="len") (dw K rfl) rfl (B.at "len") PySem.boot_len (aa (aU (df hr.units) (pv 10) aJ (fun _ _=>rfl)) af)) ah (aK _))))) (ag (aF (i:=11) nd rfl (Or.inl rfl) (aE hL_line (hr.mono (by decide)) rfl (aa (pv 1) (aa (pv 2) (aa (aU (df hr.units) (pv 10) aJ (fun _ _=>rfl)) (aa ah af)))))) (ai (fc PassesOwn.never rfl (fV rfl (B.at "range") (aa ah af)) (aA (i:=12) nd rfl (Or.inl rfl)) (ag (aF (i:=13) nd rfl (Or.inl rfl) (bI (x:="tuple") (fe K rfl) rfl (B.at "tuple") PyProof.Rows.boot_tuple (aa (bT (N:=["_law_stand_here","_law_step"]) (js:=[none,none]) rfl rfl rfl (dy K rfl false false rfl (B.at "zip") (aa (aU (df hr.units) (aM (cw K rfl) (pv 5) (pv 12) (fun _ _=>rfl)) aJ (fun _ _=>rfl)) (aa (aM (cw K rfl) (pv 11) ah (fun _ _=>rfl)) af))) (fun _ _ _ _ _=>(gD K rfl (n:=2) rfl (aD (aA (i:=0) (show List.Nodup (["_law_stand_here","_law_step"]:List Str) by decide+kernel) rfl (Or.inl rfl)) (aD (aA (i:=1) (show List.Nodup (["_law_stand_here","_law_step"]:List Str) by decide+kernel) rfl (Or.inl rfl)) aZ)))) (fun _ _ _ _ _=>bM) (fun _ _ _ _ _=>(az bo (pv 0) (pv 1)))) af))) (ag (aF (i:=14) nd rfl (Or.inl rfl) (ak (x:="all") (mi K rfl rfl) rfl (B.at "all") PyProof.Rows.boot_all (aa (bT (N:=["_law_stand_here","_law_rail"]) (js:=[none,none]) rfl rfl rfl (dy K rfl false false rfl (B.at "zip") (aa (pv 13) (aa (aM (cw K rfl) (pv 2) ah (fun _ _=>rfl)) af))) (fun _ _ _ _ _=>(gD K rfl (n:=2) rfl (aD (aA (i:=0) (show List.Nodup (["_law_stand_here","_law_rail"]:List Str) by decide+kernel) rfl (Or.inl rfl)) (aD (aA (i:=1) (show List.Nodup (["_law_stand_here","_law_rail"]:List Str) by decide+kernel) rfl (Or.inl rfl)) aZ)))) (fun _ _ _ _ _=>bM) (fun _ _ _ _ _=>(kb jz jz ah (pv 0) (pv 1)))) af))) (ai (aR (PW.pt (fQ (bh (pv 14)) (fQ (aO ft (ak (x:="len") (dw K rfl) rfl (B.at "len") PySem.boot_len (aa (aU (df hr.units) (aM (cw K rfl) (pv 5) (pv 12) (fun _ _=>rfl)) aJ (fun _ _=>rfl)) af)) ah (aK _)) (gm (PW.pt (gz (aO (fT K rfl hr.units) (pv 12) (pv 7) (aK _)) (fo (aO (fT K rfl hr.units) (pv 8) ah (aK _))))))))) (ai (aR (cf (bh (aE hL_alike (hr.mono (by decide)) rfl (aa (nX hR_feed TC.cl (hr.mono (by decide)) (aM (cw K rfl) (pv 4) (pv 12) (fun _ _=>rfl)) (aa (pv 11) af)) (aa (aE hL_sim_feed (hr.mono (by decide)) rfl (aa (aM (cw K rfl) (pv 5) (pv 12) (fun _ _=>rfl)) (aa (pv 11) af))) af))))) (ai (aB fj)) aL)) aL))))))) (ai (aR (aO (fT K rfl hr.units) (pv 8) ah (aK _)) (ai (aR (cf (bh (aE hL_alike (hr.mono (by decide)) rfl (aa (dP hR_hold TC.cl (hr.mono (by decide)) (pv 9)) (aa (aE hL_sim_hold (hr.mono (by decide)) rfl (aa (pv 10) af)) af))))) (ai (aB fj)) aL)) (ai (aR (aO (fT K rfl hr.units) (pv 8) ah (aK _)) (ag (bZ (df hr.units) (pv 10) aJ dN rfl) (ai (cj (dP hR_go TC.cl (hr.mono (by decide)) (pv 9))))) (ag (aF (i:=15) nd rfl (Or.inl rfl) (aE hL_take (hr.mono (by decide)) rfl (aa (pv 1) (aa ah af)))) (ag (aF (i:=16) nd rfl (Or.inl rfl) (nX hR_entries TC.cl (hr.mono (by decide)) (pv 9) (aa (pv 15) af))) (ag (aR (cf (bh (aE hL_alike (hr.mono (by decide)) rfl (aa (pv 16) (aa (aE hL_sim_entries (hr.mono (by decide)) rfl (aa (pv 10) (aa (pv 15) af))) af))))) (ai (aB fj)) aL) (ag (cL (aR (aO (fT K rfl hr.units) (az gq (pv 15) ah) ah (aK _)) (ai (cj (A6 K rfl (pv 16)))) aL)) (ai (cj (fA K rfl (aU (df hr.units) (pv 10) aJ (fun _ _=>rfl)) (aa (bF (aa (pv 16) (aa (bI (x:="tuple") (fe K rfl) rfl (B.at "tuple") PyProof.Rows.boot_tuple (aa (pv 16) af)) af))) af)))))))))))))) (ai (aR (PW.pt (gz (cf (bh (aE hL_right (hr.mono (by decide)) rfl (aa (aM (cw K rfl) (pv 4) ah (fun _ _=>rfl)) (aa (aM (cw K rfl) (pv 5) ah (fun _ _=>rfl)) af))))) (fo (cf (bh (aE hL_right (hr.mono (by decide)) rfl (aa (aM (cw K rfl) (pv 4) ah (fun _ _=>rfl)) (aa (aM (cw K rfl) (pv 5) ah (fun _ _=>rfl)) af)))))))) (ai (aB fj)) aL)))))))) (ai (aB fj)))))))),?_⟩;refine cX fun R1 hR1=>?_;refine⟨_,rfl,a,ns,_,rfl,hS,hlen,by omega,by omega,fun p H3 np bg3 s3=>?_⟩;refine hR1 _ _ _ ?_;refine cX fun R2 hR2=>?_;refine⟨_,rfl,p,rfl,bg3,fun mv rs r f j ti H4 rm okm b4=>?_⟩;have nm:=cm rs r f j ti;refine hR2 _ _ _ ?_;refine cX fun R3 hR3=>?_;refine⟨_,rfl,_,rfl,p,mv,rs,r,f,j,ti,rfl,b4.bag,rm,okm,fun plv pl H5 rpl on b5=>?_⟩;have rm5:=RD.t (bR.t b4.bag b5) _ nm rm;obtain⟨M,rmM,okM,eRs⟩:∃M:dC,RD K H5 mv M.D/\M.Ok/\M.rs=rs:=⟨⟨rs,r,f,j,ti⟩,rm5,okm,rfl⟩;have onM:pI M.rs pl:=by rw[eRs];exact on
   have s5:aI H H5:=bR.ji (bR.ji s3 np b4) np b5;refine hR3 _ _ _ ?_;refine cX fun R4 hR4=>?_;refine⟨_,rfl,_,rfl,fun x dx nx ndx nex=>⟨x,dx,mv,plv,M,pl,rfl,au,?_,?_,fun q0 H6 R6 nq0 b6=>?_⟩⟩
   ·exact RD.mono (aI.new ndx|>.trans (aI.new (by rw[aj nex.symm];exact nx))) _ rmM
   ·exact RD.mono (aI.new ndx|>.trans (aI.new (by rw[aj nex.symm];exact nx))) _ rpl
   have sm6:aI H5 (L2.upd (L2.upd H5 dx (.own x)) x (.ins C dx [])):=aI.new ndx|>.trans (aI.new (by rw[aj nex.symm];exact nx));have s6:aI H5 H6:=aI.but sm6 b6 (by simpa using nx);have nq05:H5 q0=none:=aI.none sm6 nq0;refine⟨rfl,_,rfl,_,rfl,fun x1 dx1 nx1 ndx1 nex1=>⟨x1,dx1,mv,plv,M,pl,rfl,au,?_,?_,fun q1 H7 R7 nq1 b7=>?_⟩⟩
   ·exact RD.mono (s6.trans (aI.new ndx1|>.trans (aI.new (by rw[aj nex1.symm];exact nx1)))) _ rmM
   ·exact RD.mono (s6.trans (aI.new ndx1|>.trans (aI.new (by rw[aj nex1.symm];exact nx1)))) _ rpl
   have sm7:aI H6 (L2.upd (L2.upd H6 dx1 (.own x1)) x1 (.ins C dx1 [])):=aI.new ndx1|>.trans (aI.new (by rw[aj nex1.symm];exact nx1));have s7:aI H6 H7:=aI.but sm7 b7 (by simpa using nx1);have nq16:H6 q1=none:=aI.none sm7 nq1;refine⟨rfl,aQ _ (Nat.le_of_ble_eq_true rfl),fun lr H8 n8=>?_⟩;have s58:=s6.trans (s7.trans n8.same);refine hR4 _ _ _ ?_;refine cX fun R5 hR5=>?_;refine⟨_,rfl,_,rfl,mv,plv,M,pl,rfl,RD.mono s58 _ rmM,RD.mono s58 _ rpl,fun d0 e0 t0 H9 Z0 T0 nd0 ne0 nt0 g1 g2 s9=>?_⟩;refine⟨_,rfl,_,rfl,mv,plv,M,pl,rfl,RD.mono (s58.trans s9) _ rmM,RD.mono (s58.trans s9) _ rpl,fun d1 e1 t1 H10 Z1 T1 nd1 ne1 nt1 g3 g4 s10=>?_⟩;refine⟨aQ _ (Nat.le_of_ble_eq_true rfl),fun ls H11 n11=>?_⟩;have s911:=s10.trans n11.same;have s811:=s9.trans s911;have s511:=s58.trans s811;have s711:=n8.same.trans s811;have L:kU K C a lr ls mv ns M H11 0 (fun i=>if i=0 then⟨x,q0,d0,e0,t0⟩else⟨x1,q1,d1,e1,t1⟩) (fun _=>yO pl):=kU.first nx nq05 R6 s6 nx1 nq16 R7 s7 n8 Z0 T0 nd0 ne0 nt0 g1 g2 s9 Z1 T1 nd1 ne1 nt1 g3 g4 s10 n11 s5 hS rmM onM onM.len;have scr11:bc K H11 a (ns.map V.int):=(s5.trans s511).seq hS;refine hR5 _ _ _ ?_;refine⟨_,rfl,a,_,rfl,.inl scr11,_,_,rfl,_,_,rfl,_,rfl,?_,?_,?_⟩
   ·split<;>omega
   ·rw[List.length_map];split<;>(try split)<;>omega
   have hN:(if(if(30:Int)<((ns.map V.int).length:Int)then(30:Int)else((ns.map V.int).length:Int))>8 then(if(30:Int)<((ns.map V.int).length:Int)then(30:Int)else((ns.map V.int).length:Int))else(8:Int)).toNat<=30:=by split<;>(try split)<;>omega
   refine fW (Pv:=fun i σ H2=>∃A S,kU K C a lr ls mv ns M H2 (3*i) A S/\∃v1 v6 v7 v8 v9 v10 v11 v12 v13 v14 v15 v16,σ=[some (.ref a),v1,some mv,some plv,some (.ref lr),some (.ref ls),v6,v7,v8,v9,v10,v11,v12,v13,v14,v15,v16]) ?_ ?_ ?_
   ·exact⟨_,_,L,_,none,none,none,none,none,none,none,none,none,none,none,rfl⟩
   · rintro i σ H2 hi ⟨A,S,L2',v1,v6,v7,v8,v9,v10,v11,v12,v13,v14,v15,v16,rfl⟩
     have hi8:i<30:=Nat.lt_of_lt_of_le hi hN;refine cX fun R10 hR10=>?_;refine⟨_,rfl,_,rfl,_,_,rfl,rfl,a,ns,_,rfl,L2'.uS,hlen,by omega,by omega,fun p H3 np bg3 s3=>?_⟩;refine hR10 _ _ _ ?_;refine cX fun R11 hR11=>?_;refine⟨_,rfl,p,2,rfl,bg3,by decide,by decide,fun wh H4 w0 w1 b4=>?_⟩;refine hR11 _ _ _ ?_;refine cX fun R12 hR12=>?_;refine⟨_,rfl,p,7,rfl,b4.bag,by decide,by decide,fun kd H5 k0 k1 b5=>?_⟩;have s25:aI H2 H5:=bR.ji (bR.ji s3 np b4) np b5;have L5:=L2'.same s25;obtain⟨c,hc,rfl⟩:∃c:Nat,c<2/\wh=(c:Int):=⟨wh.toNat,by omega,by omega⟩;have at4:jJ [V.ref (A 0).a,.ref (A 1).a] (c:Int)=some (.ref (A c).a):=by rcases(show c=0\/c=1 by omega)with rfl|rfl<;>rfl
     have at5:jJ [V.ref (A 0).d,.ref (A 1).d] (c:Int)=some (.ref (A c).d):=by rcases(show c=0\/c=1 by omega)with rfl|rfl<;>rfl
     refine hR12 _ _ _ ?_;refine cX fun R13 hR13=>?_;refine⟨_,rfl,_,rfl,.inl ⟨lr,_,_,_,rfl,rfl,bc.of L5.hr,at4,_,rfl,_,rfl,.inl ⟨ls,_,_,_,rfl,rfl,bc.of L5.hs,at5,_,_,rfl,?_⟩⟩⟩;refine hR13 _ _ _ ?_;refine⟨fun σ H6=>∃A S,kU K C a lr ls mv ns M H6 (3*i+2) A S/\∃v1 v6 v7 v8 v9 v10 v11 v12 v13 v14 v15 v16,σ=[some (.ref a),v1,some mv,some plv,some (.ref lr),some (.ref ls),v6,v7,v8,v9,v10,v11,v12,v13,v14,v15,v16],?_,?_⟩
     · have hR:=L5.two.run c hc
       have hZ:=L5.two.sim c hc;have hok:=L5.two.ok c hc;have hT:=L5.two.told c hc;have hno:=hok.row.no;have hnd:=L5.two.nd c hc;simp only[Ad.all,List.nodup_cons,List.mem_cons,List.not_mem_nil,or_false,not_or]at hnd;have ad:=hnd.1.2.1;have ae:=hnd.1.2.2.1;have at':=hnd.1.2.2.2;have qd:=hnd.2.1.1;have qe:=hnd.2.1.2.1;have qt:=hnd.2.1.2.2;have de:=hnd.2.2.1.1;have dt:=hnd.2.2.1.2;have et:=hnd.2.2.2.1;obtain⟨dx,mv0,bv0,pcv,tv,hrr⟩:=hR.ob;have er:=hrr.1;obtain⟨mvz,lv,gv,sv,bv,cv,rv,hzz⟩:=hZ.ob;have ez:=hzz.1;have r1:=hzz.2.1;have r2:=hzz.2.2.1;have r3:=hzz.2.2.2.1;have r4:=hzz.2.2.2.2.1;have r5:=hzz.2.2.2.2.2.1;have r6:=hzz.2.2.2.2.2.2;obtain⟨ys,hqq⟩:=hZ.qu;have eq:=hqq.1;have rq:=hqq.2;refine AW ?_ fun hels=>?_
       · refine⟨_,rfl,.inl ⟨_,_,rfl,rfl,_,rfl,?_⟩⟩
         refine dk (fun h3=>?_) (fun h3=>?_)
         ·--hold
           refine⟨_,rfl,(A c).a,dx,_,rfl,er,rfl,(A c).a,(A c).q,M,_,S c,rfl,hR,hok,okM,fun H6 R6 b6=>?_⟩;have v56:=hR.v (b6.mono (S':=[(A c).a,(A c).q]) fun x hx=>by rw[List.mem_singleton]at hx;rw[hx];simp);have Z6:=hZ.go hno v56 (fun o e=>b6 _ _ e (by rw[List.mem_singleton];exact Ne.symm ad)) (fun o e=>b6 _ _ e (by rw[List.mem_singleton];exact Ne.symm ae));refine⟨_,rfl,(A c).d,(A c).e,(A c).t,M,_,S c,rfl,Z6,hok,okM,fun H7 Z7 b7=>?_⟩;refine⟨_,_,.int _,rfl,bU _,bU _,fS _,fun H8 s8=>⟨_,rfl,bw ?_⟩⟩;have okh:eR M (64+10*(3*i+1)) (fw M (S c)):=by have:=hok.hold okM (by omega);rw[show 64+10*(3*i+1)=64+10*(3*i)+10 by omega];exact this
           have v67:=Z6.v (b7.mono (S':=[(A c).d,(A c).e]) fun x hx=>by rw[List.mem_singleton]at hx;rw[hx];simp);have R7:=R6.go okh.row.no v67 (fun o e=>b7 _ _ e (by rw[List.mem_singleton];exact ad)) (fun o e=>b7 _ _ e (by rw[List.mem_singleton];exact qd));refine⟨_,_,(L5.Fs hc (fw M (S c)) (fun b o eb hb=>s8 _ _ (b7 _ _ (b6 _ _ eb ?_) ?_)) (fun o e=>s8 _ _ (b7 _ _ (b6 _ _ e ?_) ?_)) (R7.same okh.row.no s8) (Z7.same okh.row.no s8) okh (by omega) (by rw[uR];exact L5.on c hc)).mono (by omega) (by omega),_,_,_,_,_,_,_,_,_,_,_,_,rfl⟩
           ·rw[List.mem_singleton];exact fun z=>hb (by rw[z];simp[Ad.all])
           ·rw[List.mem_singleton];exact fun z=>hb (by rw[z];simp[Ad.all])
           ·rw[List.mem_singleton];exact Ne.symm at'
           ·rw[List.mem_singleton];exact Ne.symm dt
         · refine⟨_,rfl,.inl ⟨_,_,rfl,rfl,_,rfl,?_⟩⟩
           refine dk (fun h4=>?_) (fun h4=>?_)
           ·--go
             refine⟨_,rfl,(A c).d,_,rfl,dp ez tE cW,?_⟩;have b6:dZ [(A c).d] H5 (L2.upd H5 (A c).d (.dK (cK mvz lv gv sv (.int (S c).rate) (.str (S c).side) (.str (S c).mark) (.ref (A c).e) (.int (S c).dn) .cG cv rv (.ref (A c).t)))):=gu (by simp);have e6:(L2.upd H5 (A c).d (.dK (cK mvz lv gv sv (.int (S c).rate) (.str (S c).side) (.str (S c).mark) (.ref (A c).e) (.int (S c).dn) .cG cv rv (.ref (A c).t)))) (A c).d=some (.dK (cK mvz lv gv sv (.int (S c).rate) (.str (S c).side) (.str (S c).mark) (.ref (A c).e) (.int (S c).dn) .cG cv rv (.ref (A c).t))):=au;generalize L2.upd H5 (A c).d (.dK (cK mvz lv gv sv (.int (S c).rate) (.str (S c).side) (.str (S c).mark) (.ref (A c).e) (.int (S c).dn) .cG cv rv (.ref (A c).t)))=H6 at b6 e6⊢;have v56:=hZ.v (b6.mono (S':=[(A c).d,(A c).e]) fun x hx=>by rw[List.mem_singleton]at hx;rw[hx];simp);have nin:∀{x},x≠(A c).d->x∉[(A c).d]:=fun h=>by rw[List.mem_singleton];exact h
             have R6:=hR.go hno v56 (fun o e=>b6 _ _ e (nin ad)) (fun o e=>b6 _ _ e (nin qd));have okg:eR M (64+10*(3*i+1)) {S c with stp:=none}:=eR.mono (D:=64+10*(3*i)) ⟨hok.row,hok.rw,hok.len,hok.rt1,hok.rt2,hok.dn,hok.pl,hok.pd,hok.pm,trivial,hok.D1,hok.D2⟩ (by omega) (by omega);have cvI:∃z,cv= .int z:=by cases hs:(S c).stp with |none=>rw[hs]at r5;exact r5.2 |some z=>obtain⟨sq,st,gn⟩:=z;rw[hs]at r5;obtain⟨_,_,_,_,_,h⟩:=r5;exact⟨_,h⟩
             refine⟨_,rfl,(A c).a,dx,_,rfl,b6 _ _ er (nin ad),rfl,(A c).a,(A c).q,M,_,S c,rfl,R6,hok,fun H7 R7 b7=>?_⟩;have v67:=R6.v (b7.mono (S':=[(A c).a,(A c).q]) fun x hx=>by rw[List.mem_singleton]at hx;rw[hx];simp);have v57:=v56.trans v67;have nia:∀{x},x≠(A c).a->x∉[(A c).a]:=fun h=>by rw[List.mem_singleton];exact h
             have Z7:cA K H7 (A c).d (A c).e (A c).t M {S c with stp:=none}:=⟨⟨mvz,lv,gv,sv,.cG,cv,rv,b7 _ _ e6 (nia (Ne.symm ad)),RD.v v57 _ (cm _ _ _ _ _) r1,RD.v v57 _ (cT _) r2,RD.v v57 _ (cT _) r3,r4.v v57,⟨rfl,cvI⟩,r6.v v57⟩,ys,b7 _ _ (b6 _ _ eq (nin (Ne.symm de))) (nia (Ne.symm ae)),bj.v v57 _ hno rq⟩;refine⟨_,_,(L5.Fs hc {S c with stp:=none} (fun b o eb hb=>b7 _ _ (b6 _ _ eb (nin ?_)) (nia ?_)) (fun o e=>b7 _ _ (b6 _ _ e (nin (Ne.symm dt))) (nia (Ne.symm at'))) R7 Z7 okg (by omega) (L5.on c hc)).mono (by omega) (by omega),_,_,_,_,_,_,_,_,_,_,_,_,rfl⟩
             ·exact fun z=>hb (by rw[z];simp[Ad.all])
             ·exact fun z=>hb (by rw[z];simp[Ad.all])
           ·--entries
             refine⟨_,rfl,p,12,rfl,b5.bag,by decide,by decide,fun n H6 n0 n1 b6=>?_⟩;have L6:=L2'.same (bR.ji s25 np b6);have hR:=L6.two.run c hc;have hZ:=L6.two.sim c hc;have hok:=L6.two.ok c hc;have hT:=L6.two.told c hc;obtain⟨dx,mv0,bv0,pcv,tv,hrr⟩:=hR.ob;have er:=hrr.1;obtain⟨mvz,lv,gv,sv,bv,cv,rv,hzz⟩:=hZ.ob;have ez:=hzz.1;have r1:=hzz.2.1;have r2:=hzz.2.2.1;have r3:=hzz.2.2.2.1;have r4:=hzz.2.2.2.2.1;have r5:=hzz.2.2.2.2.2.1;have r6:=hzz.2.2.2.2.2.2;obtain⟨ts,hT'⟩:=hT;have ets:=hT'.1;have lts:=hT'.2.1;have hts:=hT'.2.2;refine⟨_,rfl,(A c).a,dx,_,rfl,er,rfl,_,rfl,(A c).a,(A c).q,M,_,S c,n,rfl,hR,hok,okM,n0,by omega,fun l us es S' q' H7 nl dl rd run he hend R7 mv7 lq=>?_⟩;have b67:=mv7.but;have v67:=hR.v b67;have niq:∀{x},x≠(A c).a->x≠(A c).q->x∉[(A c).a,(A c).q]:=fun h1 h2=>by simp[h1,h2]
             have Z7:=hZ.go hno v67 (fun o e=>b67 _ _ e (niq (Ne.symm ad) (Ne.symm qd))) (fun o e=>b67 _ _ e (niq (Ne.symm ae) (Ne.symm qe)));refine⟨_,rfl,_,rfl,_,rfl,(A c).d,(A c).e,(A c).t,M,_,S c,n,rfl,Z7,hok,okM,n0,by omega,fun l2 us2 es2 S2 H8 nl2 dl2 rd2 run2 he2 hend2 Z8 b8=>?_⟩;obtain⟨e1,e2⟩:=run.Js he hend run2 he2 hend2;subst e1 e2;have ent:=run.ent hok okM;have esn:=run.no hok okM;have okS:=run.ok hok okM;have len11:es.length<=11:=by omega
             have ld:l≠(A c).d:=fun z=>by rw[z,ez]at nl;cases nl
             have le':l≠(A c).e:=fun z=>by obtain⟨_,e,_⟩:=hZ.qu;rw[z,e]at nl;cases nl
             have lt':l≠(A c).t:=fun z=>by rw[z,ets]at nl;cases nl
             have la:l≠(A c).a:=fun z=>by rw[z,er]at nl;cases nl
             have ide:∀{x},x≠(A c).d->x≠(A c).e->x∉[(A c).d,(A c).e]:=fun h1 h2=>by simp[h1,h2]
             have v78:=Z7.v b8;have dl8:=b8 _ _ dl (ide ld le');have rd8:=bj.v v78 _ esn rd;refine⟨.ref l,.ref l2,.list es,rfl,gH (bc.of dl8) rd8,gH (bc.of dl2) rd2,.inr ⟨_,.inr rfl,by omega,fun d hd=>(ent d hd).2⟩,fun H9 s9=>⟨_,rfl,bw ?_⟩⟩;have q'd:q'≠(A c).d:=fun z=>by
              rcases mv7.nq with h|h
              ·exact qd (h▸z)
              ·rw[z,ez]at h;cases h
             have q'e:q'≠(A c).e:=fun z=>by
              rcases mv7.nq with h|h
              ·exact qe (h▸z)
              ·obtain⟨_,e,_⟩:=hZ.qu;rw[z,e]at h;cases h
             have q't:q'≠(A c).t:=fun z=>by
              rcases mv7.nq with h|h
              ·exact qt (h▸z)
              ·rw[z,ets]at h;cases h
             have R8:=R7.go okS.row.no v78 (fun o e=>b8 _ _ e (ide ad ae)) (fun o e=>b8 _ _ e (ide q'd q'e));have R9:=R8.same okS.row.no s9;have Z9:=Z8.same okS.row.no s9;have dl9:=s9 _ _ dl8;have rd9:=bj.mono s9 _ rd8;have b69:∀x o,x∉(A c).all->H6 x=some o->H9 x=some o:=fun x o hx e=>s9 _ _ (b8 _ _ (b67 _ _ e (niq (fun z=>hx (by rw[z];simp[Ad.all])) (fun z=>hx (by rw[z];simp[Ad.all])))) (ide (fun z=>hx (by rw[z];simp[Ad.all])) (fun z=>hx (by rw[z];simp[Ad.all]))));have et9:H9 (A c).t=some (.lst ts):=s9 _ _ (b8 _ _ (b67 _ _ ets (niq (Ne.symm at') (Ne.symm qt))) (ide (Ne.symm dt) (Ne.symm et)));have h24:sizeLine=16777216:=by decide
             refine⟨fun σ HA=>∃us' es',σ=[some (.ref a),some (.ref p),some mv,some plv,some (.ref lr),some (.ref ls),some (.int (0+(i:Int))),some (.int (c:Int)),some (.int kd),some (.ref (A c).a),some (.ref (A c).d),v11,v12,v13,v14,some (.int n),some (.ref l)]/\dZ [l] H9 HA/\HA l=some (.lst us')/\bj K HA us' es'/\(∀d∈es',hW 2 d)/\cD es'=true/\us'.length<=11,?_,?_⟩
             · refine⟨_,rfl,_,_,rfl,rfl,?_,.inl ⟨_,_,rfl,rfl,_,rfl,?_⟩⟩
               ·exact(by decide:(0:Int)<2)
               refine dk (fun h1=>?_) (fun h1=>?_)
               · refine⟨_,rfl,.inl ⟨rfl,_,bc.of dl9⟩,l,us,rfl,rfl,dl9,?_⟩
                 exact⟨[],[],rfl,gu (by simp),au,ba,nofun,rfl,by simp⟩
               ·exact⟨us,es,rfl,dZ.refl _ _,dl9,rd9,fun d hd=>(ent d hd).1,esn,by rw[rd.length];exact len11⟩
             · rintro σ HA ⟨us',es',rfl,hA'⟩
               have bA:=hA'.1;have dA:=hA'.2.1;have rA:=hA'.2.2.1;have eA:=hA'.2.2.2.1;have nA:=hA'.2.2.2.2.1;have lA:=hA'.2.2.2.2.2;have v9A:aW H9 HA:=bA.v fun x hx o eo=>by rw[List.mem_singleton]at hx;rw[hx,dl9]at eo;cases eo;trivial
               have nil':∀{x},x≠l->x∉[l]:=fun h=>by rw[List.mem_singleton];exact h
               obtain⟨m',l',g',s',b',c',rr',ezA,_⟩:=Z9.ob;have q'l:q'≠l:=Ne.symm lq;have RA:=R9.go okS.row.no v9A (fun o e=>bA _ _ e (nil' (Ne.symm la))) (fun o e=>bA _ _ e (nil' q'l));have ZA:=Z9.go okS.row.no v9A (fun o e=>bA _ _ e (nil' (Ne.symm ld))) (fun o e=>bA _ _ e (nil' (Ne.symm le')));have etA:=bA _ _ et9 (nil' (Ne.symm lt'));refine⟨_,rfl,(A c).d,_,rfl,dg (bA _ _ ezA (nil' (Ne.symm ld))) zc,.inl ⟨rfl,_,bc.of etA⟩,?_⟩;refine⟨_,rfl,_,rfl,l,us',rfl,.inl ⟨bc.of dA,fun tt HB nB=>?_⟩⟩;refine⟨aQ _ (Nat.le_of_ble_eq_true rfl),fun tp HC nC=>?_⟩;have sAC:=nB.same.trans nC.same;have etC:=sAC _ _ etA;refine⟨(A c).t,ts,_,rfl,rfl,etC,by omega,?_⟩;have vD:aW HC (L2.upd HC (A c).t (.lst (ts++[.ref tp]))):=.upd etC trivial;have bD:∀x o,x≠(A c).t->HC x=some o->(L2.upd HC (A c).t (.lst (ts++[.ref tp]))) x=some o:=fun x o hx e=>by rw[aj hx];exact e
               have eD:(L2.upd HC (A c).t (.lst (ts++[.ref tp]))) (A c).t=some (.lst (ts++[.ref tp])):=au;generalize L2.upd HC (A c).t (.lst (ts++[.ref tp]))=HD at vD bD eD⊢;have RD':=(RA.same okS.row.no sAC).go okS.row.no vD (fun o e=>bD _ _ at' e) (fun o e=>bD _ _ q't e);have ZD:=(ZA.same okS.row.no sAC).go okS.row.no vD (fun o e=>bD _ _ dt e) (fun o e=>bD _ _ et e);have b6D:∀x o,x∉(A c).all->H6 x=some o->HD x=some o:=fun x o hx e=>by
                have xl:x≠l:=fun z=>by rw[z,nl]at e;cases e
                exact bD _ _ (fun z=>hx (by rw[z];simp[Ad.all])) (sAC _ _ (bA _ _ (b69 x o hx e) (nil' xl)))
               have v6D:=L6.two.v hc (H':=HD) fun x o e hx=>b6D x o hx e;have vAD:=sAC.v.trans vD;have nlx:¬((∃j,j<2/\l∈(A j).all)\/l=q'):=by
                rintro(⟨j,hj,m⟩|z)
                ·exact L6.two.here hj l m nl
                ·exact lq z
               have T:j7 K HD (A c).t (3*i+1) (fun l=>(∃j,j<2/\l∈(A j).all)\/l=q'):=by
                refine⟨ts++[.ref tp],eD,by rw[List.length_append];show ts.length+1<=_;omega,fun t ht=>?_⟩;rcases List.mem_append.mp ht with ht|ht
                · obtain⟨p0,l0,ta,u0,e0,h1,h2,h3,h4,h5,h6,h7⟩:=hts t ht
                  refine⟨p0,l0,ta,u0,e0,h1,bG.v v6D h2,b6D _ _ (fun m=>h7 ⟨c,hc,m⟩) h3,bG.v v6D h4,bj.v v6D _ h6.2.2 h5,h6,fun z=>z.elim h7 fun z=>?_⟩;rcases mv7.nq with g|g
                  ·exact h7 ⟨c,hc,by rw[z,g];simp[Ad.all]⟩
                  ·rw[<-z,h3]at g;cases g
                · rw[List.mem_singleton]at ht
                  exact⟨tp,l,tt,us',es',ht,bG.v vD (bG.of nC.at'),bD _ _ lt' (sAC _ _ dA),bG.v vD ((bG.of nB.at').go nC.same),bj.v vAD _ nA rA,I0 eA nA,nlx⟩
               have ok1:eR M (64+10*(3*i+1)) S':=okS.mono (by omega) (by omega);exact⟨_,_,(L6.upd hc q' S' (fun x o e hx=>b6D x o hx e) mv7.nq RD' ZD ok1 (by omega) T ⟨q't,q'e⟩ (by rw[run.goal hok okM];exact L6.on c hc)).mono (by omega) (by omega),_,_,_,_,_,_,_,_,_,_,_,_,rfl⟩
       · refine⟨_,rfl,_,_,rfl,rfl,_,rfl,?_⟩
         refine dk (fun h3=>?_) (fun h3=>hels);refine⟨_,rfl,(A c).d,_,rfl,dg ez dH,(A c).e,ys,rfl,.inl (bc.of eq),_,_,rfl,rfl,_,rfl,?_⟩;refine dk (fun h20=>?_) (fun h20=>hels);clear hels;refine⟨_,rfl,_,rfl,_,rfl,(A c).d,_,rfl,dg ez qw,p,mv,M.rs,M.r,M.f,M.j,M.t,gv,bP (S c),12,rfl,b5.bag,L5.rm,okM,r3,L5.on c hc,by decide,by decide,fun iv ms sp H6 rl okl sp1 sp2 onl b6=>?_⟩;obtain⟨A0',eA0⟩:∃A0',A0'=A:=⟨_,rfl⟩;have L6:=L2'.same (bR.ji s25 np b6);obtain⟨ia,ib,rfl,_,_⟩:=cH rl;refine⟨_,rfl,by decide,by decide,?_⟩;refine fW (Pv:=fun t σ H7=>∃A S,kU K C a lr ls mv ns M H7 (3*i+t) A S/\RD K H7 (.ref ia) (cZ ms sp)/\∃v12 v13 v14,σ=[some (.ref a),some (.ref p),some mv,some plv,some (.ref lr),some (.ref ls),some (.int (0+(i:Int))),some (.int (c:Int)),some (.int kd),some (.ref (A0' c).a),some (.ref (A0' c).d),some (.ref ia),v12,v13,v14,v15,v16]) ?_ ?_ ?_
         ·exact⟨A,S,L6,rl,_,_,_,by rw[eA0];rfl⟩
         · rintro t σ H7 ht ⟨A,S,L7,rl7,v12,v13,v14,rfl⟩
           have ht2:t<2:=ht;have eT:(0:Int)+(t:Int)=(t:Int):=by omega
           have at4:jJ [V.ref (A 0).a,.ref (A 1).a] (0+(t:Int))=some (.ref (A t).a):=by rcases(show t=0\/t=1 by omega)with rfl|rfl<;>rfl
           have at5:jJ [V.ref (A 0).d,.ref (A 1).d] (0+(t:Int))=some (.ref (A t).d):=by rcases(show t=0\/t=1 by omega)with rfl|rfl<;>rfl
           have hok:=L7.two.ok t ht2;obtain⟨mvz,lv,gv,sv,bv,cv,rv,hzz⟩:=(L7.two.sim t ht2).ob;have ez:=hzz.1;have r1:=hzz.2.1;have r2:=hzz.2.2.1;have r3:=hzz.2.2.2.1;have r4:=hzz.2.2.2.2.1;have r5:=hzz.2.2.2.2.2.1;have r6:=hzz.2.2.2.2.2.2;obtain⟨ia',ib',ei,hia,hib⟩:=cH rl7;cases ei;obtain⟨ga,rfl,hg⟩:=gP r3;have lrs:=okM.len;have gl:(bP (S t)).length=M.rs.length:=(L7.on t ht2).len;have ln:ms.length=(bP (S t)).length:=by rw[gl];exact okl.len
           refine⟨_,rfl,_,rfl,.inl ⟨ls,_,_,_,rfl,rfl,bc.of L7.hs,at5,(A t).d,_,rfl,dg ez qw,_,rfl,.inr ⟨ia,_,1,.ref ib',rfl,rfl,hia,rfl,ga,ib',rfl,⟨_,hg⟩,⟨_,hib⟩,fun D1 H8 n8=>?_⟩⟩⟩;refine jy hg hib ln (by omega) n8 (fun x y H Q h=>⟨_,rfl,_,rfl,_,_,rfl,rfl,h⟩) fun H9 s9 d9=>?_;refine⟨D1,_,rfl,.inl ⟨bc.of d9,fun te H10 n10=>?_⟩⟩;have s10:=s9.trans n10.same;obtain⟨ma,mb,emv,hma,hmb⟩:=cI (RD.mono s10 _ L7.rm);have hte:bG K H10 te ((eK (bP (S t)) ms).map V.int):=bG.of n10.at';have la:(eK (bP (S t)) ms).length=M.rs.length:=by rw[eL ln];exact gl
           subst emv;refine⟨_,rfl,_,rfl,.inr ⟨ma,_,0,.ref mb,rfl,rfl,hma,rfl,te,mb,rfl,⟨_,hte⟩,⟨_,hmb⟩,fun D2 H11 n11=>?_⟩⟩;refine oK hte hmb la (by omega) n11 (fun x y H Q h=>?_) fun H12 bs s12 d12 eb=>?_
           · refine⟨_,rfl,_,_,rfl,rfl,_,rfl,?_⟩
             refine dk (fun h0=>?_) (fun h0=>?_)
             · rw[h0,Bool.true_and]at h
               exact⟨_,rfl,_,_,rfl,rfl,h⟩
             · rw[Bool.eq_false_iff.mpr h0,Bool.false_and]at h
               exact h
           refine⟨D2,_,rfl,bc.of d12,?_⟩;rw[eb];have s712:=s10.trans s12;have L8:=L7.same s712;have rl8:=RD.mono s712 _ rl7;have hR:=L8.two.run t ht2;have hZ:=L8.two.sim t ht2;have hno:=hok.row.no;have hnd:=L8.two.nd t ht2;simp only[Ad.all,List.nodup_cons,List.mem_cons,List.not_mem_nil,or_false,not_or]at hnd;have ad:=hnd.1.2.1;have ae:=hnd.1.2.2.1;have at':=hnd.1.2.2.2;have qd:=hnd.2.1.1;have qe:=hnd.2.1.2.1;have qt:=hnd.2.1.2.2;have de:=hnd.2.2.1.1;have dt:=hnd.2.2.1.2;have et:=hnd.2.2.2.1;obtain⟨dx,mv0,bv0,pcv,tv,hrr⟩:=hR.ob;have er:=hrr.1;obtain⟨zs,hqq⟩:=hZ.qu;have eqz:=hqq.1;have rqz:=hqq.2;have lz:=rqz.length;have ez8:=s712 _ _ ez;have iok:uH M.rs.length (cZ ms sp) (some (ms,sp)):=⟨.inl ⟨ms,sp,rfl,rfl⟩,fun n' s' e=>by cases e;exact⟨okl,sp1,sp2⟩,fun e=>by cases e⟩;dsimp only[cS];refine AX (zD M.rs (eK (bP (S t)) ms)=true/\(S t).ds.length<20) (fun g=>?_) ?_ (fun hy hn=>?_)
           · have onr:pI M.rs (gy (bP (S t)) (some (ms,sp))):=(Ac la).mp g.1
             refine⟨_,rfl,_,rfl,.inl ⟨lr,_,_,_,rfl,rfl,bc.of L8.hr,at4,(A t).a,dx,_,rfl,er,rfl,_,rfl,(A t).a,(A t).q,M,_,S t,.ref ia,cZ ms sp,some (ms,sp),rfl,hR,hok,okM,rl8,iok,onr,g.2,fun H13 R13 b13=>?_⟩⟩;have v13:=hR.v b13;have niq:∀{x},x≠(A t).a->x≠(A t).q->x∉[(A t).a,(A t).q]:=fun h1 h2=>by simp[h1,h2]
             have ide:∀{x},x≠(A t).d->x≠(A t).e->x∉[(A t).d,(A t).e]:=fun h1 h2=>by simp[h1,h2]
             have Z13:=hZ.go hno v13 (fun o e=>b13 _ _ e (niq (Ne.symm ad) (Ne.symm qd))) (fun o e=>b13 _ _ e (niq (Ne.symm ae) (Ne.symm qe)));have hs13:=b13 _ _ L8.hs (fun m=>L8.nx _ (.inr rfl) t ht2 (by simp[Ad.all]at m⊢;rcases m with m|m<;>simp[m]));have rl13:=RD.v v13 _ (gL _ _) rl8;refine⟨_,rfl,_,rfl,.inl ⟨ls,_,_,_,rfl,rfl,bc.of hs13,at5,_,rfl,(A t).d,(A t).e,(A t).t,M,_,S t,.ref ia,cZ ms sp,some (ms,sp),rfl,Z13,hok,okM,rl13,iok,fun ho=>?_,fun _ hl=>?_,fun _ _ H14 Z14 b14=>?_⟩⟩
             ·rw[show zD M.rs (gy (bP (S t)) (some (ms,sp)))=true from g.1]at ho;cases ho
             ·exact absurd hl (by omega)
             refine⟨_,_,.int _,rfl,bU _,bU _,fS _,fun H15 s15=>⟨_,rfl,bw ?_⟩⟩;have okf:eR M (64+10*(3*i+t+1)) (kK (S t) (cZ ms sp) (some (ms,sp))):=(hok.JR iok g.2).mono (by omega) (by omega);have v14:=Z13.v b14;have R14:=R13.go okf.row.no v14 (fun o e=>b14 _ _ e (ide ad ae)) (fun o e=>b14 _ _ e (ide qd qe));have rl15:=RD.mono s15 _ (RD.v v14 _ (gL _ _) rl13);refine⟨_,_,L8.Fs ht2 (kK (S t) (cZ ms sp) (some (ms,sp))) (fun b o eb hb=>s15 _ _ (b14 _ _ (b13 _ _ eb (niq ?_ ?_)) (ide ?_ ?_))) (fun o e=>s15 _ _ (b14 _ _ (b13 _ _ e (niq (Ne.symm at') (Ne.symm qt))) (ide (Ne.symm dt) (Ne.symm et)))) (R14.same okf.row.no s15) (Z14.same okf.row.no s15) okf (by omega) (by rw[oM];exact onr),rl15,_,_,_,rfl⟩;all_goals exact fun z=>hb (by rw[z];simp[Ad.all])
           ·exact⟨A,S,L8.mono (by omega) (by omega),rl8,_,_,_,rfl⟩
           · refine⟨_,rfl,_,rfl,?_⟩
             refine dk (fun c1=>?_) (fun c1=>hn);refine⟨_,rfl,_,rfl,.inl ⟨ls,_,_,_,rfl,rfl,bc.of L8.hs,at5,(A t).d,_,rfl,dg ez8 dH,(A t).e,zs,rfl,.inl (bc.of eqz),_,_,rfl,rfl,_,rfl,?_⟩⟩;refine dk (fun c2=>?_) (fun c2=>hn);have c2':((zs.length:Nat):Int)<20:=of_decide_eq_true c2;have hy:=hy ⟨c1,by omega⟩;refine⟨_,rfl,_,rfl,.inl ⟨_,_,rfl,rfl,_,rfl,?_⟩⟩;refine dk (fun c3=>hy) (fun c3=>?_);refine⟨_,rfl,.inl ⟨_,_,rfl,rfl,_,rfl,?_⟩⟩;exact dk (fun c4=>hy) (fun c4=>hn)
         · rintro σ H7 ⟨A,S,L7,rl7,v12,v13,v14,rfl⟩
           exact⟨A,S,L7.mono (by show 3*i+2<=_;omega) (by omega),_,_,_,_,_,_,_,_,_,_,_,_,rfl⟩
     · rintro σ H6 ⟨A,S,L6,v1,v6,v7,v8,v9,v10,v11,v12,v13,v14,v15,v16,rfl⟩
       have rt:∀{H7:Hp}(j:Nat)(Q':VK),j<2->aI H6 H7->(∀H8,aI H7 H8->Q' (.bl true) H8)->zw K C [.ref (A j).a,.ref (A j).d] H7 Q' E0:=fun{H7} j Q' hj s7 kq=>by have T:=L6.two.same s7;exact⟨_,_,_,_,_,M,_,_,rfl,T.run j hj,T.sim j hj,T.ok j hj,okM,(T.told j hj).at (by omega),kq⟩
       refine⟨_,rfl,.inl ⟨lr,_,0,_,rfl,rfl,bc.of L6.hr,rfl,_,rfl,.inl ⟨ls,_,0,_,rfl,rfl,bc.of L6.hs,rfl,?_⟩⟩⟩;refine rt 0 _ (by decide) (aI.refl _) fun H7 s7=>⟨_,rfl,bw ?_⟩;refine⟨_,rfl,.inl ⟨lr,_,1,_,rfl,rfl,bc.of (s7 _ _ L6.hr),rfl,_,rfl,.inl ⟨ls,_,1,_,rfl,rfl,bc.of (s7 _ _ L6.hs),rfl,?_⟩⟩⟩;refine rt 1 _ (by decide) s7 fun H8 s8=>⟨_,rfl,bw ?_⟩;exact⟨A,S,(L6.same (s7.trans s8)).mono (by omega) (by omega),_,_,_,_,_,_,_,_,_,_,_,_,rfl⟩
   · rintro σ H2 ⟨A,S,L2',v1,v6,v7,v8,v9,v10,v11,v12,v13,v14,v15,v16,rfl⟩
     exact k _
end
end Lw
namespace Lw
open PySem PySem.Spec PyProof.Rows L2
structure Ib(K:PySem.W.Frag)(mg:Str->Option Value)(C:Addr):Prop where
 tc:fH K C
 init:CA K mg C "Runner" "Runner.__init__" EB
 m_place:MA K C "place" "Runner.place" Ew
 m_leads_to:MA K C "leads_to" "Runner.leads_to" Ez
 m_square:MA K C "square" "Runner.square" Ee
 m_rate:MA K C "rate" "Runner.rate" Eg
 m_tool:MA K C "tool" "Runner.tool" Ei
 m_waiting:MA K C "waiting" "Runner.waiting" Ek
 m_is_held:MA K C "is_held" "Runner.is_held" Em
 m_stands:MA K C "stands" "Runner.stands" Eo
 m_is_halted:MA K C "is_halted" "Runner.is_halted" Er
 m_feed:MA K C "feed" "Runner.feed" EE
 m_entries:MA K C "entries" "Runner.entries" EO
 m_entries_of_first:MA K C "entries_of_first" "Runner.entries_of_first" EM
 m_steps_of_first:MA K C "steps_of_first" "Runner.steps_of_first" EK
 m_next_square:MA K C "next_square" "Runner.next_square" EI
 m_end_first:MA K C "end_first" "Runner.end_first" EG
 m_stops_in:MA K C "stops_in" "Runner.stops_in" EU
 m_hold:MA K C "hold" "Runner.hold" EW
 m_go:MA K C "go" "Runner.go" ES
structure All(K:PySem.W.Frag)(mg:Str->Option Value):Prop where
 B:dv mg
 g_NOUGHT:GT K mg "NOUGHT" [.int 0,.int 1]
 g_SIDES:GT K mg "SIDES" [.str "up",.str "down"]
 g_LEAST_RATE:GV mg "LEAST_RATE" (.int 10)
 g_GREATEST_RATE:GV mg "GREATEST_RATE" (.int 200)
 g_FIRST_RATE:GV mg "FIRST_RATE" (.int 100)
 g_MOST_WAITING:GV mg "MOST_WAITING" (.int 20)
 g_MOST_STEPS:GV mg "MOST_STEPS" (.int 100)
 g_GREATEST_SPEED:GV mg "GREATEST_SPEED" (.int 20)
 g_LONGEST_WAIT:GV mg "LONGEST_WAIT" (.int 1000)
 g_LONGEST_NAME:GV mg "LONGEST_NAME" (.int 8)
 g_LETTERS:GV mg "LETTERS" (.str FC)
 f_is_whole:FA K mg "is_whole" J8
 f_is_whole_within:FA K mg "is_whole_within" Jb
 f_fraction:FA K mg "fraction" Ja
 f_plus:FA K mg "plus" xA
 f_plus_whole:FA K mg "plus_whole" Jc
 f_minus:FA K mg "minus" pQ
 f_times:FA K mg "times" pR
 f_is_less:FA K mg "is_less" xE
 f_least:FA K mg "least" pS
 f_lowest_terms:FA K mg "lowest_terms" J9
 f_common_divisor:FA K mg "common_divisor" J6
 f_lead_of:FA K mg "lead_of" pP
 f_ways_of:FA K mg "ways_of" xR
 f_stand_at:FA K mg "stand_at" qh
 f_step_rows:FA K mg "step_rows" yo
 f_nearest:FA K mg "nearest" qf
 f_corner_square:FA K mg "corner_square" pW
 f_top_square:FA K mg "top_square" DV
 f_is_rate:FA K mg "is_rate" mG
 f_greatest_turn:FA K mg "greatest_turn" xV
 f_is_place:FA K mg "is_place" Jn
 f_is_item:FA K mg "is_item" Jm
 f_is_line:FA K mg "is_line" xO
 f_place_behind:FA K mg "place_behind" mJ
 f_moved:FA K mg "moved" qo
 f_are_steps:FA K mg "are_steps" Jk
 f_is_short_item:FA K mg "is_short_item" Jj
 f_is_name:FA K mg "is_name" Ji
 f_own_bounds:FA K mg "own_bounds" Aw
 f_bound_between:FA K mg "bound_between" DY
 f_kept_by_fall:FA K mg "kept_by_fall" yb
 f_ticks_of:FA K mg "ticks_of" qj
 f_are_enough:FA K mg "are_enough" Jf
 f_step_entry:FA K mg "step_entry" E5
 f_reach_behind_first:FA K mg "reach_behind_first" E7
 f__law_bag:FA K mg "_law_bag" DS
 f__law_take:FA K mg "_law_take" xj
 f__law_number:FA K mg "_law_number" xM
 f__law_frac:FA K mg "_law_frac" pT
 f__law_sum:FA K mg "_law_sum" yd
 f__law_less:FA K mg "_law_less" pZ
 f__law_min:FA K mg "_law_min" yg
 f__law_machine:FA K mg "_law_machine" xI
 f__law_place:FA K mg "_law_place" Jd
 f__law_line:FA K mg "_law_line" E3
 f__law_lead:FA K mg "_law_lead" xu
 f__law_stand:FA K mg "_law_stand" mQ
 f__law_top:FA K mg "_law_top" y4
 f__law_bounds:FA K mg "_law_bounds" EY
 f__law_ticks:FA K mg "_law_ticks" mO
 f__law_alike:FA K mg "_law_alike" mS
 f__law_sim:FA K mg "_law_sim" F6
 f__law_sim_feed:FA K mg "_law_sim_feed" F8
 f__law_reach:FA K mg "_law_reach" Fc
 f__law_sim_step:FA K mg "_law_sim_step" Ff
 f__law_sim_entries:FA K mg "_law_sim_entries" Fh
 f__law_sim_stops:FA K mg "_law_sim_stops" F2
 f__law_sim_hold:FA K mg "_law_sim_hold" F4
 f__law_right:FA K mg "_law_right" Fo
 law:FA K mg "law" zx
 rc:∃C,Ib K mg C
theorem B0{P:Program}{w:World}{K:PySem.W.Frag}{mg:Str->Option Value}{base:Heap}{f:Addr}{fd:FuncData}(A:All K mg)(F:vN K "law" "law" zx f fd):hJ P w K mg base u7 13 f fd ["_law_script"] (CH K):=by have tk:aw P w K mg base "_law_take" 1 jq:=Ai A.f__law_take A.B;have cd:aw P w K mg base "common_divisor" 1 xp:=GH A.f_common_divisor A.B;have lt:aw P w K mg base "lowest_terms" 2 lN:=GL A.f_lowest_terms A.B cd;have iw:aw P w K mg base "is_whole" 1 (lO K):=GJ A.f_is_whole A.B;have ww:aw P w K mg base "is_whole_within" 2 (pU K):=GW A.f_is_whole_within A.B iw;have fn:aw P w K mg base "fraction" 3 (uB K):=GO A.f_fraction A.B iw lt;have ld:aw P w K mg base "lead_of" 1 (fq K):=xy A.f_lead_of A.B;have ls:aw P w K mg base "is_less" 1 (jr K):=Am A.f_is_less A.B;have cp:aw P w K mg base "corner_square" 6 (pV K):=xX A.f_corner_square A.B (As A.f_greatest_turn A.B (Aq A.f_ways_of A.B ld fn) (xC A.f_minus A.B lt) ls) fn;have irt:aw P w K mg base "is_rate" 3 (pX K):=uC A.f_is_rate A.B A.g_LEAST_RATE A.g_GREATEST_RATE ww;have tp:aw P w K mg base "top_square" 4 (sm K):=DW A.f_top_square A.B irt fn;have isl:aw P w K mg base "is_line" 1 (jt K):=Ap A.f_is_line A.B;have lst:aw P w K mg base "least" 2 (cQ K):=xG A.f_least A.B ls;have bet:aw P w K mg base "bound_between" 7 (sy K):=DZ A.f_bound_between A.B A.g_NOUGHT isl tp cp lst;have own:aw P w K mg base "own_bounds" 8 (BQ K):=E2 A.f_own_bounds A.B A.g_NOUGHT bet;have pw:aw P w K mg base "plus_whole" 4 (Ax K):=GY A.f_plus_whole A.B (Al A.f_plus A.B lt);have nr:aw P w K mg base "nearest" 1 qc:=yl A.f_nearest A.B;have stn:aw P w K mg base "stand_at" 2 (jU K):=yn A.f_stand_at A.B ld nr;have sr:aw P w K mg base "step_rows" 3 (qi K):=AB A.f_step_rows A.B ld stn;have ent:aw P w K mg base "step_entry" 3 (yA K):=E6 A.f_step_entry A.B (yu A.f_ticks_of A.B (Hf A.f_are_enough A.B));have ln:aw P w K mg base "_law_line" 2 (yj K):=E4 A.f__law_line A.B tk;have itm:aw P w K mg base "is_item" 4 (yI K):=Hu A.f_is_item A.B A.g_GREATEST_SPEED ww (Hs A.f_are_steps A.B A.g_MOST_STEPS ww) (Hn A.f_is_short_item A.B A.g_LONGEST_WAIT A.g_SIDES ww (Hk A.f_is_name A.B A.g_LONGEST_NAME A.g_LETTERS));have isp:aw P w K mg base "is_place" 3 (yK K):=Hw A.f_is_place A.B ww;have mvd:aw P w K mg base "moved" 1 (jV K):=yL A.f_moved A.B;have bhd:aw P w K mg base "place_behind" 2 (ox K):=uF A.f_place_behind A.B isl mvd;have tms:aw P w K mg base "times" 3 (kT (·*·) K):=xD A.f_times A.B lt;have rch:aw P w K mg base "reach_behind_first" 9 (mI K):=E8 A.f_reach_behind_first A.B (AD A.f_own_bounds A.B A.g_NOUGHT bet) (yC A.f_kept_by_fall A.B isl ld pw lst);obtain⟨C,R⟩:=A.rc;have TC:=R.tc;have rhd:=En (P:=P) (w:=w) (mg:=mg) (base:=base) R.m_is_held TC;have rsd:=Ep (P:=P) (w:=w) (base:=base) R.m_stands TC A.g_NOUGHT;have rhl:=Es R.m_is_halted TC rhd rsd;have rlt:=EA R.m_leads_to TC bhd;have rfd:=EF R.m_feed TC A.B A.g_MOST_WAITING itm isp bhd rlt;have rnx:=EJ R.m_next_square TC pw tms fn lst rhd;have ref:=EH R.m_end_first TC bhd;have rsf:=EL R.m_steps_of_first TC A.B ld sr tp rch ent rhl rnx ref;have reo:=EN R.m_entries_of_first TC isl rsf ref;have ren:=ER R.m_entries TC A.B rhl reo;have rsi:=EV (P:=P) (w:=w) (mg:=mg) (base:=base) R.m_stops_in TC;have rho:=EX R.m_hold TC rsi rhd;have rgo:=ET (P:=P) (w:=w) (base:=base) R.m_go TC A.B;have rpl:=Ey R.m_place TC mvd stn;have rwt:=El (P:=P) (w:=w) (base:=base) R.m_waiting TC A.B;have rsq:=Ef (P:=P) (w:=w) (mg:=mg) (base:=base) R.m_square TC;have rrt:=Eh (P:=P) (w:=w) (mg:=mg) (base:=base) R.m_rate TC;have rto:=Ej (P:=P) (w:=w) (mg:=mg) (base:=base) R.m_tool TC;have lfr:=xK (P:=P) (w:=w) (base:=base) A.f__law_frac A.B;have lmn:=Az A.f__law_min A.B (yf (P:=P) (w:=w) (base:=base) A.f__law_less A.B);have lsm:=Ay A.f__law_sum A.B lfr;have ltp:=AA A.f__law_top A.B lfr;have lle:=Aj (P:=P) (w:=w) (base:=base) A.f__law_lead A.B;have sst:=F3 (P:=P) (w:=w) (base:=base) A.f__law_sim_stops A.B;have ssp:=Fg A.f__law_sim_step A.B lle (Fd A.f__law_reach A.B (AJ A.f__law_bounds A.B lle lmn ltp lfr) lsm lle lmn) ltp lsm lfr (uK A.f__law_stand A.B lle) lmn (uJ A.f__law_ticks A.B);have lnu:=Ao (P:=P) (w:=w) (base:=base) A.f__law_number A.B;have al:=mU (by decide) A.f__law_alike A.B lnu (mU (by decide) A.f__law_alike A.B lnu (mU (by decide) A.f__law_alike A.B lnu (mU (by decide) A.f__law_alike A.B lnu (Fj (P:=P) (w:=w) (base:=base) A.f__law_alike A.B))));exact Ft F TC A.B (DT A.f__law_bag A.B) tk (An A.f__law_machine A.B tk) (Hb A.f__law_place A.B tk) ln (EC R.init TC A.g_NOUGHT A.g_FIRST_RATE) (F7 A.f__law_sim A.B) rfd (F9 A.f__law_sim_feed A.B) rho (F5 A.f__law_sim_hold A.B sst) rgo ren (Fi A.f__law_sim_entries A.B ssp) al (Fp A.f__law_right A.B TC al rwt rpl rsq rhd)
end Lw
def PySem.W.Fast.tw4606897854939335726:PySem.Program:=PySem.Challenge.pw_glidequeue_k44_two_runners
theorem PySem.W.Fast.te4606897854939335726:PySem.Challenge.pw_glidequeue_k44_two_runners=PySem.W.Fast.tw4606897854939335726:=rfl
def PySem.W.Fast.tw7652239356269963625:Nat:=0
def PySem.W.Fast.tw7306325765646170182:Nat:=0
def PySem.W.Fast.tw9884626147265467582:Nat:=0
def PySem.W.Fast.tw8592317191570274574:Nat:=0
def PySem.W.Fast.tw17777353727450526802:Nat:=0
def PySem.W.Fast.tw5167446127631913355:Nat:=0
def PySem.W.Fast.tw15553329264239487532:Nat:=0
def PySem.W.Fast.tw18323200778721113255:Nat:=0
def PySem.W.Fast.tw17824063167110385986:Nat:=0
def PySem.W.Fast.tw17477068806100786730:Nat:=0
def PySem.W.Fast.tw11843961846144147221:Nat:=0
def PySem.W.Fast.tw15931449226775757884:Nat:=0
def PySem.W.Fast.tw18595032491540352:Nat:=0
def PySem.W.Fast.tw8293092189370345762:Nat:=0
def PySem.W.Fast.tw3678816393716055864:Nat:=0
def PySem.W.Fast.tw18302420942622452433:Nat:=0
def PySem.W.Fast.tw4347779457132944587:Nat:=0
def PySem.W.Fast.tw705019804015198843:Nat:=0
def PySem.W.Fast.tw12014356013060441452:Nat:=0
def PySem.W.Fast.tw17076835994655446090:Nat:=0
def PySem.W.Fast.tw4586452963839151641:Nat:=0
def PySem.W.Fast.tw6807972240061933924:Nat:=0
def PySem.W.Fast.tw10920001304745640107:Nat:=0
def PySem.W.Fast.tw10262487746665623370:Nat:=0
def PySem.W.Fast.tw11376718439518433265:Nat:=0
def PySem.W.Fast.tw1279365103434596976:Nat:=0
def PySem.W.Fast.tw13791403775852563492:Nat:=0
def PySem.W.Fast.tw6401604264057081269:Nat:=0
def PySem.W.Fast.tw16464917062716489224:Nat:=0
def PySem.W.Fast.tw9399362270228127782:Nat:=0
def PySem.W.Fast.tw7531933410762801910:Nat:=0
def PySem.W.Fast.tw16751149731550938959:Nat:=0
def PySem.W.Fast.tw15917880843171641574:Nat:=0
def PySem.W.Fast.tw15423911021560815141:Nat:=0
def PySem.W.Fast.tw533080731401590589:Nat:=0
def PySem.W.Fast.tw10493368951941699798:Nat:=0
def PySem.W.Fast.tw8772679008046478870:Nat:=0
def PySem.W.Fast.tw10300153963653972656:Nat:=0
def PySem.W.Fast.tw3262778068862412804:Nat:=0
def PySem.W.Fast.tw15318581548320090978:Nat:=0
def PySem.W.Fast.tw7085315756426697967:Nat:=0
def PySem.W.Fast.tw6901404116296700758:Nat:=0
def PySem.W.Fast.tw15768345036384540851:Nat:=0
def PySem.W.Fast.tw10509269433218761477:Nat:=0
def PySem.W.Fast.tw14362086813078727852:Nat:=0
def PySem.W.Fast.tw5142926155375785459:Nat:=0
def PySem.W.Fast.tw3659339427625124432:Nat:=0
def PySem.W.Fast.tw6572550511425584017:Nat:=0
def PySem.W.Fast.tw1918783079601221891:Nat:=0
def PySem.W.Fast.tw4146221611575857324:Nat:=0
def PySem.W.Fast.tw1214880230093950606:Nat:=0
def PySem.W.Fast.tw11391812935045078354:Nat:=0
def PySem.W.Fast.tw9806416822374127375:Nat:=0
def PySem.W.Fast.tw7359035769804877666:Nat:=0
def PySem.W.Fast.tw17155709525538505132:Nat:=0
def PySem.W.Fast.tw2307692527028428427:Nat:=0
def PySem.W.Fast.tw17069689408975041014:Nat:=0
def PySem.W.Fast.tw2389449579115366262:Nat:=0
def PySem.W.Fast.tw5792018112130671472:Nat:=0
def PySem.W.Fast.tw9140496073407403440:Nat:=0
def PySem.W.Fast.tw14000547558458636386:Nat:=0
def PySem.W.Fast.tw11779794787515992246:Nat:=0
def PySem.W.Fast.tw16725639419284265259:Nat:=0
def PySem.W.Fast.tw14771100254111333809:Nat:=0
def PySem.W.Fast.tw15616281808846703568:Nat:=0
def PySem.W.Fast.tw3083627396522426762:Nat:=0
def PySem.W.Fast.tw16079575047820977548:Nat:=0
def PySem.W.Fast.tw18200942404152327906:Nat:=0
def PySem.W.Fast.tw15666539987432932214:Nat:=0
def PySem.W.Fast.tw7494505048354038180:Nat:=0
def PySem.W.Fast.tw5584332278656580219:Nat:=0
def PySem.W.Fast.tw10980583920466521190:Nat:=0
def PySem.W.Fast.tw13929677548088279341:Nat:=0
def PySem.W.Fast.tw7278986794659693824:Nat:=0
def PySem.W.Fast.tw12215362609782190966:Nat:=0
def PySem.W.Fast.tw6367342242385768826:Nat:=0
def PySem.W.Fast.tw4250096504704443285:Nat:=0
def PySem.W.Fast.tw7808745990910859909:Nat:=0
def PySem.W.Fast.tw12169761427444606804:Nat:=0
def PySem.W.Fast.tw3169229955043940999:Nat:=0
def PySem.W.Fast.tw3454480980585413194:Nat:=0
def PySem.W.Fast.tw17297285114071748290:Nat:=0
def PySem.W.Fast.tw18229231453707959221:Nat:=0
def PySem.W.Fast.tw11666442388807694866:Nat:=0
def PySem.W.Fast.tw12136342856934996170:Nat:=0
def PySem.W.Fast.tw2486149427721478923:Nat:=0
def PySem.W.Fast.tw3504882929662229080:Nat:=0
def PySem.W.Fast.tw13462702304286863452:Nat:=0
def PySem.W.Fast.tw7569243817362850247:Nat:=0
def PySem.W.Fast.tw16551450360325518168:Nat:=0
def PySem.W.Fast.tw5184832485023986731:Nat:=0
def PySem.W.Fast.tw6448545149003846324:Nat:=0
def PySem.W.Fast.tw10039056131046962235:Nat:=0
def PySem.W.Fast.tw15620457989263725164:Nat:=0
def PySem.W.Fast.tw2167754829158075485:Nat:=0
def PySem.W.Fast.tw13391153299235755007:Nat:=0
def PySem.W.Fast.tw7427548071700184007:Nat:=0
def PySem.W.Fast.tw8943359602855048313:Nat:=0
def PySem.W.Fast.tw9281777884966457828:Nat:=0
def PySem.W.Fast.tw14648690832492534406:Nat:=0
def PySem.W.Fast.tw10903144697874406892:Nat:=0
def PySem.W.Fast.tw16201264131390065516:Nat:=0
def PySem.W.Fast.tw18308834044818483649:Nat:=0
def PySem.W.Fast.tw3599601617204810080:Nat:=0
def PySem.W.Fast.tw9078665533938229523:Nat:=0
def PySem.W.Fast.tw14444062333911634138:Nat:=0
def PySem.W.Fast.tw6642153753623225106:Nat:=0
def PySem.W.Fast.tw18069493948235654846:Nat:=0
def PySem.W.Fast.tw11249133652139714346:Nat:=0
def PySem.W.Fast.tw14299157067956977522:Nat:=0
def PySem.W.Fast.tw7313438253699471430:Nat:=0
def PySem.W.Fast.tw8010559577016424985:Nat:=0
def PySem.W.Fast.tw11607032987792446130:Nat:=0
def PySem.W.Fast.tw8327540266571721312:Nat:=0
def PySem.W.Fast.tw6770939702008704714:Nat:=0
def PySem.W.Fast.tw12025943694049263130:Nat:=0
def PySem.W.Fast.tw5898776345252591904:Nat:=0
def PySem.W.Fast.tw17572697738589590894:Nat:=0
def PySem.W.Fast.tw16485701094490389088:Nat:=0
open PySem PySem.W PyProof.Rows
set_option maxRecDepth 100000 in
set_option maxHeartbeats 0 in
theorem PySem.Challenge.cw_glidequeue_k44_two_runners_holds : PySem.Challenge.rw_glidequeue_k44_two_runners.Holds := by
 w_on; o_law; k_head; (case hw=>w_witness2)
 k_fill
 refine L2.vS (l:=PySem.Challenge.rw_glidequeue_k44_two_runners) (k:=13) (x:="_law_script") (st:=Lw.zx) rfl rfl ⟨rfl,by decide,by decide⟩ (fun w h Y=>PySem.W.kIn_of Y) Lw.All ?F (fun _ _ A=>A.law) (fun _ _ _ _ _ _ _=>rfl) (fun _ _ _ _ _ _ _ A F=>Lw.B0 A F)
 case F=>
  intro w mg h KX G
  refine⟨L2.Ds KX G ?b,?x1,?x2,?x3,?x4,?x5,?x6,?x7,?x8,?x9,?x10,?x11,?x12,?x13,?x14,?x15,?x16,?x17,?x18,?x19,?x20,?x21,?x22,?x23,?x24,?x25,?x26,?x27,?x28,?x29,?x30,?x31,?x32,?x33,?x34,?x35,?x36,?x37,?x38,?x39,?x40,?x41,?x42,?x43,?x44,?x45,?x46,?x47,?x48,?x49,?x50,?x51,?x52,?x53,?x54,?x55,?x56,?x57,?x58,?x59,?x60,?x61,?x62,?x63,?x64,?x65,?x66,?x67,?x68,?x69,?x70,?x71,?x72⟩
  case b=>(unfold L2.iJ; repeat (refine L2.Bp.cons ?z ?_; (case z=>k_is))); exact L2.Bp.nil
  case x1=>refine' L2.Bt KX G ?a ?l ?z ?r; (case a=>k_is); (case l=>k_is); (case z=>decide); (case r=>exact .cons ⟨_,rfl⟩ (.cons ⟨_,rfl⟩ .nil))
  case x2=>refine' L2.Bt KX G ?a ?l ?z ?r; (case a=>k_is); (case l=>k_is); (case z=>decide); (case r=>exact .cons ⟨_,rfl⟩ (.cons ⟨_,rfl⟩ .nil))
  case x3=>(refine' L2.gI KX G ?z; (case z=>k_is))
  case x4=>(refine' L2.gI KX G ?z; (case z=>k_is))
  case x5=>(refine' L2.gI KX G ?z; (case z=>k_is))
  case x6=>(refine' L2.gI KX G ?z; (case z=>k_is))
  case x7=>(refine' L2.gI KX G ?z; (case z=>k_is))
  case x8=>(refine' L2.gI KX G ?z; (case z=>k_is))
  case x9=>(refine' L2.gI KX G ?z; (case z=>k_is))
  case x10=>(refine' L2.gI KX G ?z; (case z=>k_is))
  case x11=>(refine' L2.DQ KX G ?z; (case z=>k_is))
  case x12=>(refine' L2.bf KX G ?a ?l ?c ?k; (case a=>k_is); (case l=>k_is); (case c=>k_is); (case k=>k_is))
  case x13=>(refine' L2.bf KX G ?a ?l ?c ?k; (case a=>k_is); (case l=>k_is); (case c=>k_is); (case k=>k_is))
  case x14=>(refine' L2.bf KX G ?a ?l ?c ?k; (case a=>k_is); (case l=>k_is); (case c=>k_is); (case k=>k_is))
  case x15=>(refine' L2.bf KX G ?a ?l ?c ?k; (case a=>k_is); (case l=>k_is); (case c=>k_is); (case k=>k_is))
  case x16=>(refine' L2.bf KX G ?a ?l ?c ?k; (case a=>k_is); (case l=>k_is); (case c=>k_is); (case k=>k_is))
  case x17=>(refine' L2.bf KX G ?a ?l ?c ?k; (case a=>k_is); (case l=>k_is); (case c=>k_is); (case k=>k_is))
  case x18=>(refine' L2.bf KX G ?a ?l ?c ?k; (case a=>k_is); (case l=>k_is); (case c=>k_is); (case k=>k_is))
  case x19=>(refine' L2.bf KX G ?a ?l ?c ?k; (case a=>k_is); (case l=>k_is); (case c=>k_is); (case k=>k_is))
  case x20=>(refine' L2.bf KX G ?a ?l ?c ?k; (case a=>k_is); (case l=>k_is); (case c=>k_is); (case k=>k_is))
  case x21=>(refine' L2.bf KX G ?a ?l ?c ?k; (case a=>k_is); (case l=>k_is); (case c=>k_is); (case k=>k_is))
  case x22=>(refine' L2.bf KX G ?a ?l ?c ?k; (case a=>k_is); (case l=>k_is); (case c=>k_is); (case k=>k_is))
  case x23=>(refine' L2.bf KX G ?a ?l ?c ?k; (case a=>k_is); (case l=>k_is); (case c=>k_is); (case k=>k_is))
  case x24=>(refine' L2.bf KX G ?a ?l ?c ?k; (case a=>k_is); (case l=>k_is); (case c=>k_is); (case k=>k_is))
  case x25=>(refine' L2.bf KX G ?a ?l ?c ?k; (case a=>k_is); (case l=>k_is); (case c=>k_is); (case k=>k_is))
  case x26=>(refine' L2.bf KX G ?a ?l ?c ?k; (case a=>k_is); (case l=>k_is); (case c=>k_is); (case k=>k_is))
  case x27=>(refine' L2.bf KX G ?a ?l ?c ?k; (case a=>k_is); (case l=>k_is); (case c=>k_is); (case k=>k_is))
  case x28=>(refine' L2.bf KX G ?a ?l ?c ?k; (case a=>k_is); (case l=>k_is); (case c=>k_is); (case k=>k_is))
  case x29=>(refine' L2.bf KX G ?a ?l ?c ?k; (case a=>k_is); (case l=>k_is); (case c=>k_is); (case k=>k_is))
  case x30=>(refine' L2.bf KX G ?a ?l ?c ?k; (case a=>k_is); (case l=>k_is); (case c=>k_is); (case k=>k_is))
  case x31=>(refine' L2.bf KX G ?a ?l ?c ?k; (case a=>k_is); (case l=>k_is); (case c=>k_is); (case k=>k_is))
  case x32=>(refine' L2.bf KX G ?a ?l ?c ?k; (case a=>k_is); (case l=>k_is); (case c=>k_is); (case k=>k_is))
  case x33=>(refine' L2.bf KX G ?a ?l ?c ?k; (case a=>k_is); (case l=>k_is); (case c=>k_is); (case k=>k_is))
  case x34=>(refine' L2.bf KX G ?a ?l ?c ?k; (case a=>k_is); (case l=>k_is); (case c=>k_is); (case k=>k_is))
  case x35=>(refine' L2.bf KX G ?a ?l ?c ?k; (case a=>k_is); (case l=>k_is); (case c=>k_is); (case k=>k_is))
  case x36=>(refine' L2.bf KX G ?a ?l ?c ?k; (case a=>k_is); (case l=>k_is); (case c=>k_is); (case k=>k_is))
  case x37=>(refine' L2.bf KX G ?a ?l ?c ?k; (case a=>k_is); (case l=>k_is); (case c=>k_is); (case k=>k_is))
  case x38=>(refine' L2.bf KX G ?a ?l ?c ?k; (case a=>k_is); (case l=>k_is); (case c=>k_is); (case k=>k_is))
  case x39=>(refine' L2.bf KX G ?a ?l ?c ?k; (case a=>k_is); (case l=>k_is); (case c=>k_is); (case k=>k_is))
  case x40=>(refine' L2.bf KX G ?a ?l ?c ?k; (case a=>k_is); (case l=>k_is); (case c=>k_is); (case k=>k_is))
  case x41=>(refine' L2.bf KX G ?a ?l ?c ?k; (case a=>k_is); (case l=>k_is); (case c=>k_is); (case k=>k_is))
  case x42=>(refine' L2.bf KX G ?a ?l ?c ?k; (case a=>k_is); (case l=>k_is); (case c=>k_is); (case k=>k_is))
  case x43=>(refine' L2.bf KX G ?a ?l ?c ?k; (case a=>k_is); (case l=>k_is); (case c=>k_is); (case k=>k_is))
  case x44=>(refine' L2.bf KX G ?a ?l ?c ?k; (case a=>k_is); (case l=>k_is); (case c=>k_is); (case k=>k_is))
  case x45=>(refine' L2.bf KX G ?a ?l ?c ?k; (case a=>k_is); (case l=>k_is); (case c=>k_is); (case k=>k_is))
  case x46=>(refine' L2.bf KX G ?a ?l ?c ?k; (case a=>k_is); (case l=>k_is); (case c=>k_is); (case k=>k_is))
  case x47=>(refine' L2.bf KX G ?a ?l ?c ?k; (case a=>k_is); (case l=>k_is); (case c=>k_is); (case k=>k_is))
  case x48=>(refine' L2.bf KX G ?a ?l ?c ?k; (case a=>k_is); (case l=>k_is); (case c=>k_is); (case k=>k_is))
  case x49=>(refine' L2.bf KX G ?a ?l ?c ?k; (case a=>k_is); (case l=>k_is); (case c=>k_is); (case k=>k_is))
  case x50=>(refine' L2.bf KX G ?a ?l ?c ?k; (case a=>k_is); (case l=>k_is); (case c=>k_is); (case k=>k_is))
  case x51=>(refine' L2.bf KX G ?a ?l ?c ?k; (case a=>k_is); (case l=>k_is); (case c=>k_is); (case k=>k_is))
  case x52=>(refine' L2.bf KX G ?a ?l ?c ?k; (case a=>k_is); (case l=>k_is); (case c=>k_is); (case k=>k_is))
  case x53=>(refine' L2.bf KX G ?a ?l ?c ?k; (case a=>k_is); (case l=>k_is); (case c=>k_is); (case k=>k_is))
  case x54=>(refine' L2.bf KX G ?a ?l ?c ?k; (case a=>k_is); (case l=>k_is); (case c=>k_is); (case k=>k_is))
  case x55=>(refine' L2.bf KX G ?a ?l ?c ?k; (case a=>k_is); (case l=>k_is); (case c=>k_is); (case k=>k_is))
  case x56=>(refine' L2.bf KX G ?a ?l ?c ?k; (case a=>k_is); (case l=>k_is); (case c=>k_is); (case k=>k_is))
  case x57=>(refine' L2.bf KX G ?a ?l ?c ?k; (case a=>k_is); (case l=>k_is); (case c=>k_is); (case k=>k_is))
  case x58=>(refine' L2.bf KX G ?a ?l ?c ?k; (case a=>k_is); (case l=>k_is); (case c=>k_is); (case k=>k_is))
  case x59=>(refine' L2.bf KX G ?a ?l ?c ?k; (case a=>k_is); (case l=>k_is); (case c=>k_is); (case k=>k_is))
  case x60=>(refine' L2.bf KX G ?a ?l ?c ?k; (case a=>k_is); (case l=>k_is); (case c=>k_is); (case k=>k_is))
  case x61=>(refine' L2.bf KX G ?a ?l ?c ?k; (case a=>k_is); (case l=>k_is); (case c=>k_is); (case k=>k_is))
  case x62=>(refine' L2.bf KX G ?a ?l ?c ?k; (case a=>k_is); (case l=>k_is); (case c=>k_is); (case k=>k_is))
  case x63=>(refine' L2.bf KX G ?a ?l ?c ?k; (case a=>k_is); (case l=>k_is); (case c=>k_is); (case k=>k_is))
  case x64=>(refine' L2.bf KX G ?a ?l ?c ?k; (case a=>k_is); (case l=>k_is); (case c=>k_is); (case k=>k_is))
  case x65=>(refine' L2.bf KX G ?a ?l ?c ?k; (case a=>k_is); (case l=>k_is); (case c=>k_is); (case k=>k_is))
  case x66=>(refine' L2.bf KX G ?a ?l ?c ?k; (case a=>k_is); (case l=>k_is); (case c=>k_is); (case k=>k_is))
  case x67=>(refine' L2.bf KX G ?a ?l ?c ?k; (case a=>k_is); (case l=>k_is); (case c=>k_is); (case k=>k_is))
  case x68=>(refine' L2.bf KX G ?a ?l ?c ?k; (case a=>k_is); (case l=>k_is); (case c=>k_is); (case k=>k_is))
  case x69=>(refine' L2.bf KX G ?a ?l ?c ?k; (case a=>k_is); (case l=>k_is); (case c=>k_is); (case k=>k_is))
  case x70=>(refine' L2.bf KX G ?a ?l ?c ?k; (case a=>k_is); (case l=>k_is); (case c=>k_is); (case k=>k_is))
  case x71=>(refine' L2.bf KX G ?a ?l ?c ?k; (case a=>k_is); (case l=>k_is); (case c=>k_is); (case k=>k_is))
  case x72=>
   refine' Exists.intro _ (Lw.Ib.mk (Lw.fH.mk (L2.qC.mk ?pg ?hd ?po ?sa) ?n1 ?n2 ?n3 ?n4 ?n5 ?n6 ?n7 ?n8 ?n9) (L2.Gv KX G ?aC ?mk ?kc ?ia ?ii ?il ?ic ?ik) (L2.eU ?a0 ?i0 ?l0 ?c0 ?k0) (L2.eU ?a1 ?i1 ?l1 ?c1 ?k1) (L2.eU ?a2 ?i2 ?l2 ?c2 ?k2) (L2.eU ?a3 ?i3 ?l3 ?c3 ?k3) (L2.eU ?a4 ?i4 ?l4 ?c4 ?k4) (L2.eU ?a5 ?i5 ?l5 ?c5 ?k5) (L2.eU ?a6 ?i6 ?l6 ?c6 ?k6) (L2.eU ?a7 ?i7 ?l7 ?c7 ?k7) (L2.eU ?a8 ?i8 ?l8 ?c8 ?k8) (L2.eU ?a9 ?i9 ?l9 ?c9 ?k9) (L2.eU ?a10 ?i10 ?l10 ?c10 ?k10) (L2.eU ?a11 ?i11 ?l11 ?c11 ?k11) (L2.eU ?a12 ?i12 ?l12 ?c12 ?k12) (L2.eU ?a13 ?i13 ?l13 ?c13 ?k13) (L2.eU ?a14 ?i14 ?l14 ?c14 ?k14) (L2.eU ?a15 ?i15 ?l15 ?c15 ?k15) (L2.eU ?a16 ?i16 ?l16 ?c16 ?k16) (L2.eU ?a17 ?i17 ?l17 ?c17 ?k17))
   (case aC=>k_is)
   (case pg=>(k_is))
   (case hd=>(k_is))
   (case po=>(k_is))
   (case sa=>(k_is))
   (case n1=>(unfold L2.cy; k_is))
   (case n2=>(unfold L2.cy; k_is))
   (case n3=>(unfold L2.cy; k_is))
   (case n4=>(unfold L2.cy; k_is))
   (case n5=>(unfold L2.cy; k_is))
   (case n6=>(unfold L2.cy; k_is))
   (case n7=>(unfold L2.cy; k_is))
   (case n8=>(unfold L2.cy; k_is))
   (case n9=>(unfold L2.cy; k_is))
   (case mk=>(k_is))
   (case kc=>(k_is))
   (case ia=>(k_is))
   (case ii=>(k_is))
   (case il=>(k_is))
   (case ic=>(k_is))
   (case ik=>(k_is))
   (case a0=>k_is)
   (case i0=>k_is)
   (case l0=>k_is)
   (case c0=>k_is)
   (case k0=>k_is)
   (case a1=>k_is)
   (case i1=>k_is)
   (case l1=>k_is)
   (case c1=>k_is)
   (case k1=>k_is)
   (case a2=>k_is)
   (case i2=>k_is)
   (case l2=>k_is)
   (case c2=>k_is)
   (case k2=>k_is)
   (case a3=>k_is)
   (case i3=>k_is)
   (case l3=>k_is)
   (case c3=>k_is)
   (case k3=>k_is)
   (case a4=>k_is)
   (case i4=>k_is)
   (case l4=>k_is)
   (case c4=>k_is)
   (case k4=>k_is)
   (case a5=>k_is)
   (case i5=>k_is)
   (case l5=>k_is)
   (case c5=>k_is)
   (case k5=>k_is)
   (case a6=>k_is)
   (case i6=>k_is)
   (case l6=>k_is)
   (case c6=>k_is)
   (case k6=>k_is)
   (case a7=>k_is)
   (case i7=>k_is)
   (case l7=>k_is)
   (case c7=>k_is)
   (case k7=>k_is)
   (case a8=>k_is)
   (case i8=>k_is)
   (case l8=>k_is)
   (case c8=>k_is)
   (case k8=>k_is)
   (case a9=>k_is)
   (case i9=>k_is)
   (case l9=>k_is)
   (case c9=>k_is)
   (case k9=>k_is)
   (case a10=>k_is)
   (case i10=>k_is)
   (case l10=>k_is)
   (case c10=>k_is)
   (case k10=>k_is)
   (case a11=>k_is)
   (case i11=>k_is)
   (case l11=>k_is)
   (case c11=>k_is)
   (case k11=>k_is)
   (case a12=>k_is)
   (case i12=>k_is)
   (case l12=>k_is)
   (case c12=>k_is)
   (case k12=>k_is)
   (case a13=>k_is)
   (case i13=>k_is)
   (case l13=>k_is)
   (case c13=>k_is)
   (case k13=>k_is)
   (case a14=>k_is)
   (case i14=>k_is)
   (case l14=>k_is)
   (case c14=>k_is)
   (case k14=>k_is)
   (case a15=>k_is)
   (case i15=>k_is)
   (case l15=>k_is)
   (case c15=>k_is)
   (case k15=>k_is)
   (case a16=>k_is)
   (case i16=>k_is)
   (case l16=>k_is)
   (case c16=>k_is)
   (case k16=>k_is)
   (case a17=>k_is)
   (case i17=>k_is)
   (case l17=>k_is)
   (case c17=>k_is)
   (case k17=>k_is)
#print axioms PySem.Challenge.cw_glidequeue_k44_two_runners_holds
