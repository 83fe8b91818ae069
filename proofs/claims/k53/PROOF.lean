import PyProof.Rows.All
import Wide.All
import OpenK.AllK
import Wide.FinOn
import Lean
import PyProof.EqAt
import PyProof.EqKinds
import PyProof.TupleCall
import PySem.Challenge.RW_glidequeue_k53_items_read
set_option Elab.async false
set_option linter.all false
set_option maxRecDepth 100000
namespace L2
open PySem PySem.Spec PyProof.Rows
abbrev Key:=Sum Int Str
def keyIs:Key->Value->Bool
  | .inl k,v=>Value.isInt k v
  | .inr x,v=>Value.isStrOf x v
def keyH (w:World):Key->Int
  | .inl k=>hashInt k
  | .inr x=>hashStr w x
theorem keyIs_shape:∀ {k:Key} {v:Value},keyIs k v=true->(∃i t,k=Sum.inl i/\v=Value.int i t) \/ (∃x t,k=Sum.inr x/\v=Value.str x t)
  | .inl i,v,h=>by
    obtain⟨t,e⟩:=Value.isInt_shape (k:=i) (v:=v) h
    exact .inl ⟨i,t,rfl,e⟩
  | .inr x,v,h=>by
    obtain⟨t,e⟩:=Value.isStrOf_shape (x:=x) (v:=v) h
    exact .inr ⟨x,t,rfl,e⟩
theorem key_ll (a b:Int):decide ((Sum.inl a:Key)=Sum.inl b)=(a == b):=by
 by_cases e:a=b
 · subst e; simp
 · have h:¬(Sum.inl a:Key)=Sum.inl b:=fun q=>e (Sum.inl.inj q)
   rw [decide_eq_false h]
   exact (beq_eq_false_iff_ne.mpr e).symm
theorem key_rr (a b:Str):decide ((Sum.inr a:Key)=Sum.inr b)=decide (a=b):=by
 by_cases e:a=b
 · subst e; simp
 · have h:¬(Sum.inr a:Key)=Sum.inr b:=fun q=>e (Sum.inr.inj q)
   rw [decide_eq_false h,decide_eq_false e]
theorem key_lr (a:Int) (b:Str):decide ((Sum.inl a:Key)=Sum.inr b)=false:=decide_eq_false (fun q=>nomatch q)
theorem key_rl (a:Str) (b:Int):decide ((Sum.inr a:Key)=Sum.inl b)=false:=decide_eq_false (fun q=>nomatch q)
def mixKind (prog:Program) (w:World):PySem.KeyKind prog w Key where
 is:=keyIs
 hash:=keyH w
 inj:=fun v a b ha hb=>by
  rcases keyIs_shape ha with ⟨i,t,rfl,rfl⟩ | ⟨x,t,rfl,rfl⟩
  · rcases keyIs_shape hb with ⟨j,u,rfl,e⟩ | ⟨y,u,rfl,e⟩
    · injection e with e1 _; rw [e1]
    · exact nomatch e
  · rcases keyIs_shape hb with ⟨j,u,rfl,e⟩ | ⟨y,u,rfl,e⟩
    · exact nomatch e
    · injection e with e1 _; rw [e1]
 byValue:=fun k v h=>by
  rcases keyIs_shape h with ⟨i,t,rfl,rfl⟩ | ⟨x,t,rfl,rfl⟩ <;> rfl
 pyHash:=fun hv h=>by
  rcases keyIs_shape hv with ⟨i,t,rfl,rfl⟩ | ⟨x,t,rfl,rfl⟩
  · exact wpAny_pyHash_int h
  · exact wpAny_pyHash_str h
 eqBool:=fun hu hv h=>by
  rcases keyIs_shape hu with ⟨i,t,rfl,rfl⟩ | ⟨x,t,rfl,rfl⟩
  · rcases keyIs_shape hv with ⟨j,u,rfl,rfl⟩ | ⟨y,u,rfl,rfl⟩
    · rw [key_ll] at h; exact wpAny_eqBool_int h
    · rw [key_lr] at h; exact SeqAt.EqAt.int_str i t y u _ _ _ _ h
  · rcases keyIs_shape hv with ⟨j,u,rfl,rfl⟩ | ⟨y,u,rfl,rfl⟩
    · rw [key_rl] at h; exact SeqAt.EqAt.str_int x t j u _ _ _ _ h
    · rw [key_rr] at h; exact wpAny_eqBool_str h
 «strs»:=fun k x t v h=>by
  rcases keyIs_shape h with ⟨i,u,rfl,e⟩ | ⟨y,u,rfl,e⟩
  · exact nomatch e
  · injection e with e1 _
    subst e1
    cases v <;> rfl
end L2
namespace L2
open PySem PySem.Spec PyProof.Rows
inductive V where
 | non | bl (b:Bool) | int (i:Int) | str (x:Str) | byt (b:Array UInt8) | flt (b:UInt64) | ref (a:Addr) | ty (n:String)
 deriving DecidableEq
def RelV:V->Value->Prop
  | .non,u=>u=Value.none
  | .bl b,u=>u=Value.bool b
  | .int i,u=>∃t,u=Value.int i t
  | .str x,u=>∃t,u=Value.str x t
  | .byt b,u=>∃t,u=Value.bytes b t
  | .flt b,u=>∃t,u=Value.float b t
  | .ref a,u=>u=Value.ref a
  | .ty n,u=>u=Value.type n
abbrev Vals:List V->List Value->Prop:=Paired RelV
theorem Vals.length {xs:List V} {us:List Value} (r:Vals xs us):xs.length=us.length:=Paired.length r
theorem Vals.get:∀ {xs:List V} {us:List Value} {i:Nat} {x:V},Vals xs us->xs[i]? = some x -> ∃u,us[i]? = some u/\RelV x u
  | _,_,_,_,.nil,e=>by simp at e
  | _,_,0,_,.cons r _,e=>by simp at e; subst e; exact⟨_,rfl,r⟩
  | _,_,i+1,x,.cons _ t,e=>by
    obtain⟨u,h1,h2⟩:=Vals.get (i:=i) (x:=x) t (by simpa using e)
    exact⟨u,by simpa using h1,h2⟩
theorem Vals.set {x:V} {u:Value} (r:RelV x u):∀ {xs:List V} {us:List Value} (i:Nat),Vals xs us->Vals (xs.set i x) (us.set i u)
  | _,_,_,.nil=>.nil
  | _,_,0,.cons _ t=>.cons r t
  | _,_,i+1,.cons q t=>.cons q (Vals.set r i t)
theorem Vals.append:∀ {xs ys:List V} {us ws:List Value},Vals xs us->Vals ys ws->Vals (xs++ys) (us++ws)
  | _,_,_,_,.nil,s=>s
  | _,_,_,_,.cons r t,s=>.cons r (Vals.append t s)
theorem Vals.take:∀ {xs:List V} {us:List Value} (n:Nat),Vals xs us->Vals (xs.take n) (us.take n)
  | _,_,0,_=>.nil
  | _,_,_+1,.nil=>.nil
  | _,_,n+1,.cons r t=>.cons r (Vals.take n t)
theorem Vals.drop:∀ {xs:List V} {us:List Value} (n:Nat),Vals xs us->Vals (xs.drop n) (us.drop n)
  | _,_,0,r=>r
  | _,_,_+1,.nil=>.nil
  | _,_,n+1,.cons _ t=>Vals.drop n t
def RelO:Option V->Option Value->Prop
  | some v,some u=>RelV v u
  | none,none=>True
  | _,_=>False
def KV {κ : Type}:List (κ × V)->List (κ × Value)->Prop:=Paired fun (p : κ × V) (q : κ × Value)=>p.1=q.1/\RelV p.2 q.2
def kV:Key->V
  | .inl i=>.int i
  | .inr x=>.str x
inductive HO where
 /-- a list -/
 | lst (xs:List V)
 /-- a tuple (never changes) -/
 | tup (xs:List V)
 /-- a dict whose keys are ints and texts; one whose keys are tuples of ints and texts (the empty one is both) -/
 | dK (kvs:List (Key × V)) | dT (kvs:List (List Key × V))
 /-- a set of ints: its members,its size -/
 | set (S:Int->Bool) (n:Nat)
 /-- an instance of the class at C,its dict at dx,its attributes -/
 | ins (C dx:Addr) (fs:List (Str × V))
 /-- the dict of the instance at x -/
 | own (x:Addr)
 /-- the dict of an exception -/
 | xd (fs:List (Str × V))
 /-- a bound method,f of x -/
 | met (f x:Addr)
 /-- a range object lo,lo+1,.. below hi -/
 | rng (lo hi:Int)
 /-- a thing that is known to the object (the script; a dict while a loop walks it): read,never written while it is so -/
 | frz (o:Obj) (u:HO)
 /-- a code object's table -/
 | tbl (ps:Array Value)
 /-- any other thing,by what is true of its one object (a def of one's own: SetO a S n:=HO.ext fun h=>..) -/
 | ext (φ : Heap->Prop)
abbrev Hp:=Addr->Option HO
def upd (H:Hp) (a:Addr) (o:HO):Hp:=fun b=>if b=a then some o else H b
theorem upd_same {H:Hp} {a:Addr} {o:HO}:upd H a o a=some o:=by unfold upd; rw [if_pos rfl]
theorem upd_ne {H:Hp} {a b:Addr} {o:HO} (h:b≠a):upd H a o b=H b:=by unfold upd; rw [if_neg h]
theorem ne_of {H:Hp} {a b:Addr} {o u:HO} (h:H a=some o) (h':H b=some u) (d:o≠u):a≠b:=by
 intro e; subst e; rw [h] at h'; exact d (Option.some.inj h')
theorem ne_of_none {H:Hp} {a b:Addr} {o:HO} (h:H a=some o) (h':H b=none):a≠b:=by
 intro e; subst e; rw [h] at h'; cases h'
section
variable (P:Program) (w:World)
def ObjOk (H:Hp) (h:Heap) (a:Addr):HO->Prop
  | .lst xs=>xs.length<=sizeLine /\ ∃(its:List Value) (n:Nat),Vals xs its/\h.get? a=some { cls:=.type "list",data:=.seq its.toArray n }
  | .tup xs=>xs.length<=sizeLine /\ ∃its:List Value,Vals xs its/\IsTup h a its.toArray
  | .dK kvs=>kvs.length<=sizeLine/\(a == sysModules)=false /\ ∃vs,KV kvs vs/\h.DictOf (mixKind P w) a vs
  | .dT kvs=>kvs.length<=sizeLine/\(a == sysModules)=false /\ ∃xs:List (List Key × Addr × Value),
      Paired (fun (p:List Key × V) (q:List Key × Addr × Value)=>p.1=q.1/\H q.2.1=some (.tup (p.1.map kV))/\RelV p.2 q.2.2) kvs xs /\
      ∃o es ep,h.get? a=some o/\o.ExactDict/\o.data = .dict es ep/\es.toList=xs.map (entryOfKey (tupleKind (mixKind P w)))/\(xs.map (·.1)).Nodup
  | .set S n=>h.SetOf (intKind P w) a S n
  | .ins C dx fs=>H dx=some (.own a)/\fs.length<=1000/\dx≠a/\h.get? a=some (PySem.W.instObj C dx) /\
      ∃mA,h.Ns1 dx mA/\(∀f,RelO (fs.lookup f) (mA f))/\PySem.Within mA (fs.map (·.1))
  | .own _=>∃o,h.get? a=some o
  | .xd fs=>∃mA,h.Ns1 a mA /\ ∀f,RelO (fs.lookup f) (mA f)
  | .rng lo hi=>∃t u v,h.get? a=some { cls:=.type "range",data:=.fields #[.int lo t,.int hi u,.int 1 v] }
  | .frz o u=>h.get? a=some o/\ObjOk H h a u
  | .tbl ps=>h.get? a=some { cls:=.none,data:=.fields ps }
  | .met f x=>h.get? a=some (PySem.W.methodObj (.ref f) (.ref x))
  | .ext φ=>φ h/\(∃o,h.get? a=some o) /\ ∀h1 h2:Heap,φ h1->(∀o,h1.get? a=some o->h2.get? a=some o) -> φ h2
def HOk (H:Hp) (h:Heap):Prop:=∀a o,H a=some o->ObjOk P w H h a o
end
section
variable {P:Program} {w:World} {H H':Hp} {h h':Heap} {a:Addr} {o:HO}
theorem ObjOk.lt (x:ObjOk P w H h a o):a<h.objs.size:=by
 cases o with
 | lst xs=>obtain⟨_,_,_,_,e⟩:=x; exact Heap.lt_size e
 | tup xs=>obtain⟨_,_,_,p⟩:=x; exact p.lt
 | dK kvs=>obtain⟨_,_,_,_,o,_,_,e,_⟩:=x; exact Heap.lt_size e
 | dT kvs=>obtain⟨_,_,_,_,o,_,_,e,_⟩:=x; exact Heap.lt_size e
 | set S n=>obtain⟨o,_,_,_,e,_⟩:=x; exact Heap.lt_size e
 | ins C dx fs=>obtain⟨_,_,_,e,_⟩:=x; exact Heap.lt_size e
 | own y=>obtain⟨_,e⟩:=x; exact Heap.lt_size e
 | xd fs=>obtain⟨_,⟨_,_,_,e,_⟩,_⟩:=x; exact Heap.lt_size e
 | rng lo hi=>obtain⟨_,_,_,e⟩:=x; exact Heap.lt_size e
 | frz ob u=>obtain⟨e,_⟩:=x; exact Heap.lt_size e
 | tbl ps=>exact Heap.lt_size (show h.get? a=some _ from x)
 | met f y=>exact Heap.lt_size (show h.get? a=some _ from x)
 | ext φ=>obtain⟨_,⟨_,e⟩,_⟩:=x; exact Heap.lt_size e
theorem Paired.mapP {α β : Type} {F G : α -> β -> Prop}:∀ {l₁ : List α} {l₂ : List β},Paired F l₁ l₂ -> (∀a b,F a b->G a b)->Paired G l₁ l₂
  | _,_,.nil,_=>.nil
  | _,_,.cons r t,f=>.cons (f _ _ r) (Paired.mapP t f)
theorem ObjOk.stay (x:ObjOk P w H h a o) (k:∀b u,(b=a \/ H b=some (.own a))->h.get? b=some u->h'.get? b=some u)
    (ho:∀b,H b=some (.own a)->H' b=some (.own a)) (ht:∀b xs,H b=some (.tup xs)->H' b=some (.tup xs)):ObjOk P w H' h' a o:=by
  induction o with
  | lst xs=>obtain⟨z,its,n,r,e⟩:=x; exact⟨z,its,n,r,k _ _ (.inl rfl) e⟩
  | tup xs=>obtain⟨z,its,r,ob,e,c⟩:=x; exact⟨z,its,r,ob,k _ _ (.inl rfl) e,c⟩
  | dK kvs=>obtain⟨z,y,vs,r,ob,es,ep,e,c⟩:=x; exact⟨z,y,vs,r,ob,es,ep,k _ _ (.inl rfl) e,c⟩
  | dT kvs=>
    obtain⟨z,y,xs,r,ob,es,ep,e,c⟩:=x
    exact⟨z,y,xs,Paired.mapP r fun p q z=>⟨z.1,ht _ _ z.2.1,z.2.2⟩,ob,es,ep,k _ _ (.inl rfl) e,c⟩
  | set S n=>obtain⟨ob,es,ep,t,e,c⟩:=x; exact⟨ob,es,ep,t,k _ _ (.inl rfl) e,c⟩
  | ins C dx fs=>
    obtain⟨d,z,ne,e,mA,⟨od,es,ep,e2,c⟩,r⟩:=x
    exact⟨ho _ d,z,ne,k _ _ (.inl rfl) e,mA,⟨od,es,ep,k _ _ (.inr d) e2,c⟩,r⟩
  | own y=>obtain⟨ob,e⟩:=x; exact⟨ob,k _ _ (.inl rfl) e⟩
  | xd fs=>obtain⟨mA,⟨od,es,ep,e,c⟩,r⟩:=x; exact⟨mA,⟨od,es,ep,k _ _ (.inl rfl) e,c⟩,r⟩
  | rng lo hi=>obtain⟨t,u,v,e⟩:=x; exact⟨t,u,v,k _ _ (.inl rfl) e⟩
  | frz ob u ih=>obtain⟨e,q⟩:=x; exact⟨k _ _ (.inl rfl) e,ih q⟩
  | tbl ps=>
    have e:h.get? a=some { cls:=.none,data:=.fields ps }:=x
    show h'.get? a=some { cls:=.none,data:=.fields ps }
    exact k a _ (.inl rfl) e
  | met f y=>
    have e:h.get? a=some (PySem.W.methodObj (.ref f) (.ref y)):=x
    show h'.get? a=some (PySem.W.methodObj (.ref f) (.ref y))
    exact k a _ (.inl rfl) e
  | ext φ=>obtain⟨p,⟨o,e⟩,st⟩:=x; exact⟨st _ _ p fun o q=>k _ _ (.inl rfl) q,⟨o,k _ _ (.inl rfl) e⟩,st⟩
theorem HOk.lt (x:HOk P w H h) (e:H a=some o):a<h.objs.size:=(x a o e).lt
theorem HOk.fresh (x:HOk P w H h) (e:h.objs.size<=a):H a=none:=by
 cases q:H a with
 | none=>rfl
 | some u=>exact absurd (Nat.lt_of_lt_of_le (x.lt q) e) (Nat.lt_irrefl _)
theorem HOk.kept (x:HOk P w H h) (k:∀b u,h.get? b=some u->h'.get? b=some u):HOk P w H h':=fun a o e=>
 (x a o e).stay (fun b u _ q=>k b u q) (fun _ q=>q) fun _ _ q=>q
theorem HOk.laid (x:HOk P w H h) (k:∀b u,h.get? b=some u->h'.get? b=some u) (hp:h.objs.size<=a) (new:ObjOk P w (upd H a o) h' a o):HOk P w (upd H a o) h':=fun b u e=>by
 have hn:=x.fresh hp
 by_cases hb:b=a
 · subst hb; rw [upd_same] at e; cases e; exact new
 · rw [upd_ne hb] at e
   exact (x b u e).stay (fun c v _ q=>k c v q) (fun c q=>by rw [upd_ne (ne_of_none q hn)]; exact q) fun c xs q=>by rw [upd_ne (ne_of_none q hn)]; exact q
end
def Rd (H:Hp) (a:Addr) (u:HO):Prop:=H a=some u \/ ∃o,H a=some (.frz o u)
theorem Rd.ok {P:Program} {w:World} {H:Hp} {h:Heap} {a:Addr} {u:HO} (r:Rd H a u) (x:HOk P w H h):ObjOk P w H h a u:=by
 rcases r with r | ⟨o,r⟩
 · exact x a u r
 · obtain⟨_,q⟩:=x a _ r
   exact q
def Mut:Option HO->Prop
  | some (.lst _)=>True
  | some (.dK _)=>True
  | some (.dT _)=>True
  | some (.set _ _)=>True
  | some (.ins _ _ _)=>True
  | some (.ext _)=>True
  | _=>False
section
variable {P:Program} {w:World} {H:Hp} {h h':Heap} {x e:Addr} {o':HO}
theorem HOk.write (ok:HOk P w H h) (mu:Mut (H x)) (he:e=x \/ H e=some (.own x)) (k:∀b u,b≠e->h.get? b=some u->h'.get? b=some u) (heo:∃u,h'.get? e=some u)
    (new:ObjOk P w (upd H x o') h' x o'):HOk P w (upd H x o') h':=fun b u q=>by
  have nown:∀c y,H c=some (.own y)->c≠x:=fun c y r z=>by subst z; rw [r] at mu; exact mu
  have ntup:∀c xs,H c=some (.tup xs)->c≠x:=fun c xs r z=>by subst z; rw [r] at mu; exact mu
  by_cases hb:b=x
  · subst hb; rw [upd_same] at q; cases q; exact new
  · rw [upd_ne hb] at q
    by_cases hbe:b=e
    · have q':H b=some (.own x):=by
        rcases he with z | z
        · exact absurd (hbe.trans z) hb
        · rw [hbe]; exact z
      rw [q] at q'; cases q'
      obtain⟨v,hv⟩:=heo
      exact⟨v,by rw [hbe]; exact hv⟩
    · refine (ok b u q).stay (fun c v hc r=>k c v ?_ r) (fun c r=>by rw [upd_ne (nown c b r)]; exact r) fun c xs r=>by rw [upd_ne (ntup c xs r)]; exact r
      rcases hc with rfl | hc
      · exact hbe
      · rintro rfl
        rcases he with z | z
        · exact nown c b hc z
        · rw [hc] at z; cases z; exact hb rfl
end
structure Un (fs ex:List Addr) (H H':Hp) (h h':Heap):Prop where
 keep:∀b o,h.get? b=some o->H b=none->b ∉ fs->b ∉ ex->h'.get? b=some o
 slot:∀b o,h.get? b=some o->H b=none->b∈fs->b ∉ ex -> ∃sl,h'.get? b=some { o with slots:=sl }
 free:∀b o,h.get? b=some o->H b=none->b ∉ ex->H' b=none
 there:∀b o,h.get? b=some o->b ∉ ex -> ∃o',h'.get? b=some o'
 tups:∀b xs,H b=some (.tup xs)->H' b=some (.tup xs)
 frzs:∀b o u,H b=some (.frz o u)->H' b=some (.frz o u)
 tbls:∀b ps,H b=some (.tbl ps) -> ∃more,H' b=some (.tbl (ps++more))
section
variable {fs fs' ex ex':List Addr} {H H1 H2:Hp} {h h1 h2 h':Heap} {a x e:Addr} {o:HO}
theorem Un.any (u:Un fs ex H H1 h h1) {b:Addr} {ob:Obj} (q:h.get? b=some ob) (n:H b=none) (hx:b ∉ ex):∃sl,h1.get? b=some { ob with slots:=sl }:=by
 by_cases hb:b∈fs
 · exact u.slot b ob q n hb hx
 · exact⟨ob.slots,u.keep b ob q n hb hx⟩
theorem Un.kept (k:∀b u,h.get? b=some u->h'.get? b=some u):Un fs ex H H h h':=
 ⟨fun b ob q _ _ _=>k b ob q,fun b ob q _ _ _=>⟨ob.slots,k b ob q⟩,fun _ _ _ n _=>n,fun b ob q _=>⟨ob,k b ob q⟩,fun _ _ q=>q,fun _ _ _ q=>q,fun _ ps q=>⟨#[],by rw [q]; simp⟩⟩
theorem Un.refl:Un fs ex H H h h:=Un.kept fun _ _ q=>q
theorem Un.laid (k:∀b u,h.get? b=some u->h'.get? b=some u) (hp:h.objs.size<=a) (hn:H a=none):Un fs ex H (upd H a o) h h' where
 keep:=fun b u q _ _ _=>k b u q
 slot:=fun b u q _ _ _=>⟨u.slots,k b u q⟩
 free:=fun b u q n _=>by rw [upd_ne (Nat.ne_of_lt (Nat.lt_of_lt_of_le (Heap.lt_size q) hp))]; exact n
 there:=fun b u q _=>⟨u,k b u q⟩
 tups:=fun b xs q=>by rw [upd_ne (ne_of_none q hn)]; exact q
 frzs:=fun b u xs q=>by rw [upd_ne (ne_of_none q hn)]; exact q
 tbls:=fun b ps q=>⟨#[],by rw [upd_ne (ne_of_none q hn),q]; simp⟩
theorem Un.write (mu:Mut (H x)) (he:e=x \/ H e=some (.own x)) (k:∀b u,b≠e->h.get? b=some u->h'.get? b=some u) (heo:∃u,h'.get? e=some u):Un fs ex H (upd H x o) h h':=by
 have hx:∀b,H b=none->b≠x:=fun b n z=>by subst z; rw [n] at mu; exact mu
 have hb:∀b,H b=none->b≠e:=fun b n z=>by
  subst z
  rcases he with r | r
  · exact hx b n r
  · rw [n] at r; cases r
 have hm:∀b u,H b=some u -> ¬Mut (some u)->b≠x:=fun b u q nm z=>by subst z; rw [q] at mu; exact nm mu
 refine ⟨fun b u q n _ _=>k b u (hb b n) q,fun b u q n _ _=>⟨u.slots,k b u (hb b n) q⟩,fun b u q n _=>by rw [upd_ne (hx b n)]; exact n,fun b u q _=>?_,
   fun b xs q=>by rw [upd_ne (hm b _ q fun z=>z)]; exact q,fun b u xs q=>by rw [upd_ne (hm b _ q fun z=>z)]; exact q,fun b ps q=>⟨#[],by rw [upd_ne (hm b _ q fun z=>z),q]; simp⟩⟩
 by_cases hbe:b=e
 · subst hbe; exact heo
 · exact⟨u,k b u hbe q⟩
end
def trk (h:Heap) (H:Hp):List Addr:=(List.range h.objs.size).filter fun a=>(H a).isSome
def hidT (h:Heap) (H:Hp):Heap:=PySem.W.hideAll h (trk h H)
theorem hidT_size (h:Heap) (H:Hp):(hidT h H).objs.size=h.objs.size:=PySem.W.hideAll_size _ _
theorem hidT_get {h:Heap} {H:Hp} {b:Addr} {o:Obj} (e:h.get? b=some o) (n:H b=none):(hidT h H).get? b=some o:=
 PySem.W.hideAll_get _ e fun hm=>by
  have q:(H b).isSome=true:=(List.mem_filter.mp hm).2
  rw [n] at q; simp at q
theorem of_hidT {h:Heap} {H:Hp} {b:Addr} {o:Obj} (e:(hidT h H).get? b=some o):h.get? b=some o/\H b=none:=by
 have e':h.get? b=some o:=PySem.W.of_hideAll (trk h H) e
 refine⟨e',?_⟩
 cases q:H b with
 | none=>rfl
 | some x=>
   have hm:b∈trk h H:=List.mem_filter.mpr ⟨List.mem_range.mpr (Heap.lt_size e'),by simp [q]⟩
   have z:(hidT h H).get? b=none:=PySem.W.hideAll_none (trk h H) hm
   rw [z] at e; cases e
end L2
namespace L2
open PySem PySem.Spec PyProof.Rows
structure Mod (K:PySem.W.Frag) (mg:Str->Option Value) (base:Heap):Prop where
 kin:K.In base
 glob:base.Ns mainGlobals mg
 blt:∃mb,base.Ns builtinsNs mb /\ ∀x:Str,x ≠ "__name__" -> mb x=bootBuiltins x
 nolimit:base.NoLimit
structure Cx where
 prog:Program
 w:World
 K:PySem.W.Frag
 mg:Str->Option Value
 base:Heap
 A:Around
 N:List Str
 s₀ : Shared
 H₀ : Hp
 env:Env
 outer:List Env
 stack:List Env
 ex:List Addr
 fn:Str->Bool
 calm:Bool
 pn:List (Addr × Obj)
 xe:Value->Shared->Prop
def frs (l:List Env):List Addr:=l.filterMap (·.frame)
abbrev Cx.fs (X:Cx):List Addr:=frs X.outer
def Vis (sc:Scope) (x:Str):Prop:=sc.names.lookup x=some .local \/ sc.names.lookup x=some .cell \/ sc.names.lookup x=some .free
def Loc (sc:Scope) (x:Str):Prop:=sc.names.lookup x=some .local \/ sc.names.lookup x=some .cell
def Look (env:Env) (h:Heap) (m:Str->Option Value) (x:Str) (u:Value):Prop:=
 (env.kindOf x=some .local/\m x=some u) \/ ((env.kindOf x=some .cell \/ env.kindOf x=some .free) /\ ∃c,env.cells.lookup x=some c/\h.IsCell c (some u))
structure Cx.Ok (X:Cx):Prop where
 mod:Mod X.K X.mg X.base
 kind:X.env.scope.kind = .function
 glob:X.env.globals=mainGlobals
 blt:X.env.builtins=builtinsNs
 above:X.s₀.heap.objs.size<=X.env.locals
 inj:∀x y c,X.env.cells.lookup x=some c->X.env.cells.lookup y=some c->x=y
 has:∀x,(X.env.kindOf x=some .cell \/ X.env.kindOf x=some .free) -> ∃c,X.env.cells.lookup x=some c
 cab:∀x c,X.fn x=true->X.env.cells.lookup x=some c->X.s₀.heap.objs.size<=c
 hd:X.calm=true->X.A.handled=none
 frames:X.A.frames=some X.stack
 stk:X.stack=X.outer \/ (X.stack=X.env::X.outer/\X.env.frame=some X.env.locals)
 exf:∀b∈X.ex,b≠X.env.locals /\ ∀x c,X.env.cells.lookup x=some c->c≠b
 bs:∀b o,X.base.get? b=some o->X.s₀.heap.get? b=some o/\X.H₀ b=none
 bsz:X.base.objs.size<=X.s₀.heap.objs.size
 noex:∀b o,X.base.get? b=some o->b ∉ X.ex
 exfs:∀b∈X.ex,b ∉ X.fs
 funs:X.s₀.heap.FunFrames X.base X.outer
 frf:∀b∈X.fs,X.H₀ b=none
structure Inv (X:Cx) (pins:List (Addr × Obj)) (σ : List (Option V)) (H:Hp) (s:Shared):Prop where
 ok:X.Ok
 os:s.os=X.s₀.os
 bare:AllBare s.gens
 base:Un X.fs X.ex X.H₀ H X.s₀.heap s.heap
 loc:∃m,s.heap.Ns X.env.locals m /\ ∀(i:Nat) (x:Str) (v:V),X.N[i]? = some x -> σ[i]? = some (some v)->Vis X.env.scope x -> ∃u,RelV v u/\Look X.env s.heap m x u
 cell:∀x c,X.env.cells.lookup x=some c -> ∃v,s.heap.IsCell c v
 free:H X.env.locals=none
 freeC:∀x c,X.env.cells.lookup x=some c->H c=none
 pin:∀p∈X.pn++pins,s.heap.get? p.1=some p.2/\H p.1=none/\p.1≠X.env.locals/\p.1 ∉ X.fs /\ ∀v,p.2.data ≠ .cell v
 hok:HOk X.prog X.w H s.heap
 len : σ.length=X.N.length
section
variable {X:Cx} {pins:List (Addr × Obj)} {σ : List (Option V)} {H H':Hp} {s:Shared} {h':Heap}
theorem Cx.Ok.nofr (ok:X.Ok) {b:Addr} {o:Obj} (e:X.base.get? b=some o):b ∉ X.fs:=fun hb=>by
 have:=(ok.funs.mem hb).1
 rw [e] at this; cases this
theorem Inv.bs (I:Inv X pins σ H s):∀b o,X.base.get? b=some o->s.heap.get? b=some o/\H b=none:=fun b o e=>
 ⟨I.base.keep b o (I.ok.bs b o e).1 (I.ok.bs b o e).2 (I.ok.nofr e) (I.ok.noex b o e),I.base.free b o (I.ok.bs b o e).1 (I.ok.bs b o e).2 (I.ok.noex b o e)⟩
theorem Inv.bk (I:Inv X pins σ H s):∀b o,X.base.get? b=some o->s.heap.get? b=some o:=fun b o e=>(I.bs b o e).1
theorem Inv.mod (I:Inv X pins σ H s):Mod X.K X.mg X.base:=I.ok.mod
theorem Inv.kIn (I:Inv X pins σ H s):X.K.In s.heap:=I.ok.mod.kin.keeps I.bk
theorem Inv.lt (I:Inv X pins σ H s):X.env.locals<s.heap.objs.size:=let ⟨_,hn,_⟩:=I.loc; hn.lt
theorem Inv.sz (I:Inv X pins σ H s):X.s₀.heap.objs.size<=s.heap.objs.size:=Nat.le_trans I.ok.above (Nat.le_of_lt I.lt)
theorem Inv.nofs (I:Inv X pins σ H s) {a:Addr} (h:s.heap.objs.size<=a):a ∉ X.fs:=fun hb=>by
 obtain⟨_,o,ho,_⟩:=I.ok.funs.mem hb
 exact absurd (Nat.lt_of_lt_of_le (Heap.lt_size ho) (Nat.le_trans I.sz h)) (Nat.lt_irrefl _)
theorem Inv.cne (I:Inv X pins σ H s):∀x c,X.env.cells.lookup x=some c->c≠X.env.locals:=fun x c e z=>by
 obtain⟨v,o,ho,hd⟩:=I.cell x c e
 obtain⟨m,⟨o',es,ep,ho',hd',_⟩,_⟩:=I.loc
 rw [z,ho'] at ho; cases ho; rw [hd'] at hd; cases hd
theorem Inv.funs (I:Inv X pins σ H s):s.heap.FunFrames X.base X.outer:=by
 have all:∀(l:List Env),(∀b∈frs l,b∈X.fs)->X.s₀.heap.FunFrames X.base l->s.heap.FunFrames X.base l:=by
  intro l
  induction l with
  | nil=>intro _ _; trivial
  | cons env r ih=>
    intro hs hl
    obtain⟨hk,⟨L,o,hf,hn,ho,hd⟩,hr⟩:=hl
    have hL:L∈X.fs:=hs L (by unfold frs; rw [List.filterMap_cons,hf]; exact List.mem_cons_self)
    obtain⟨sl,e⟩:=I.base.slot L o ho (I.ok.frf L hL) hL fun z=>I.ok.exfs L z hL
    exact⟨hk,⟨L,_,hf,hn,e,hd⟩,ih (fun b hb=>hs b (by unfold frs; rw [List.filterMap_cons,hf]; exact List.mem_cons_of_mem _ hb)) hr⟩
 exact all X.outer (fun _ hb=>hb) I.ok.funs
theorem Inv.stack (I:Inv X pins σ H s):s.heap.FunFrames X.base X.stack:=by
 rcases I.ok.stk with e | ⟨e,hf⟩
 · rw [e]; exact I.funs
 · rw [e]
   obtain⟨m,hn,_⟩:=I.loc
   refine .cons (by rw [I.ok.kind]; decide) hf hn ?_ I.funs
   exact Heap.get?_none_of_le (Nat.le_trans I.ok.bsz I.ok.above)
theorem Inv.stkSub (I:Inv X pins σ H s):∀b∈frs X.stack,b∈X.env.locals::X.fs:=fun b hb=>by
 rcases I.ok.stk with e | ⟨e,hf⟩
 · rw [e] at hb; exact List.mem_cons_of_mem _ hb
 · rw [e] at hb
   unfold frs at hb
   rw [List.filterMap_cons,hf] at hb
   exact hb
theorem Inv.stkFree (I:Inv X pins σ H s):∀b∈frs X.stack,H b=none:=fun b hb=>by
 rcases List.mem_cons.mp (I.stkSub b hb) with e | hb
 · rw [e]; exact I.free
 · obtain⟨_,o,ho,_⟩:=I.ok.funs.mem hb
   exact I.base.free b o ho (I.ok.frf b hb) fun z=>I.ok.exfs b z hb
theorem Inv.step {g':Array GenState} {t':Nat} {d':Drawn} {ch:List Addr} (I:Inv X pins σ H s)
    (hch:∀b∈ch,(b∈X.ex \/ X.s₀.heap.objs.size<=b)/\b≠X.env.locals/\(∀x c,X.env.cells.lookup x=some c->c≠b) /\ ∀p∈X.pn++pins,p.1≠b)
    (keep:∀b o,b≠X.env.locals->b ∉ X.fs->b ∉ ch->s.heap.get? b=some o->H b=none->h'.get? b=some o)
    (slot:∀b o,b≠X.env.locals->b∈X.fs->b ∉ ch->s.heap.get? b=some o->H b=none -> ∃sl,h'.get? b=some { o with slots:=sl }) (free:∀b o,b ∉ ch->s.heap.get? b=some o->H b=none->H' b=none)
    (there:∀b o,b ∉ ch->s.heap.get? b=some o -> ∃o',h'.get? b=some o')
    (tups:∀b xs,H b=some (.tup xs)->H' b=some (.tup xs)) (frzs:∀b o u,H b=some (.frz o u)->H' b=some (.frz o u)) (tbls:∀b ps,H b=some (.tbl ps) -> ∃more,H' b=some (.tbl (ps++more)))
    (ns:∀m,s.heap.Ns X.env.locals m->h'.Ns X.env.locals m) (hok:HOk X.prog X.w H' h') (hg:AllBare g') :
    Inv X pins σ H' { s with heap:=h',gens:=g',drawn:=d',toks:=t' }:=by
  have neL:∀b o,X.s₀.heap.get? b=some o->b≠X.env.locals:=fun b o e=>Nat.ne_of_lt (Nat.lt_of_lt_of_le (Heap.lt_size e) I.ok.above)
  have neC:∀b o,X.s₀.heap.get? b=some o->b ∉ X.ex->b ∉ ch:=fun b o e hx hb=>by
   rcases (hch b hb).1 with z | z
   · exact hx z
   · exact absurd (Nat.lt_of_lt_of_le (Heap.lt_size e) z) (Nat.lt_irrefl _)
  have cellK:∀x c,X.env.cells.lookup x=some c -> ∀v,s.heap.IsCell c v->h'.IsCell c v:=fun x c e v ⟨o,ho,hd⟩=>by
   have nch:c ∉ ch:=fun z=>(hch c z).2.2.1 x c e rfl
   by_cases hc:c∈X.fs
   · obtain⟨sl,q⟩:=slot c o (I.cne x c e) hc nch ho (I.freeC x c e)
     exact⟨_,q,hd⟩
   · exact⟨o,keep c o (I.cne x c e) hc nch ho (I.freeC x c e),hd⟩
  refine⟨I.ok,I.os,hg,⟨fun b o e n hb hx=>?_,fun b o e n hb hx=>?_,fun b o e n hx=>?_,fun b o e hx=>?_,fun b xs e=>tups b xs (I.base.tups b xs e),fun b o xs e=>frzs b o xs (I.base.frzs b o xs e),fun b ps e=>?_⟩,?_,fun x c e=>?_,?_,fun x c e=>?_,fun p hp=>?_,hok,I.len⟩
  · exact keep b o (neL b o e) hb (neC b o e hx) (I.base.keep b o e n hb hx) (I.base.free b o e n hx)
  · obtain⟨sl,e1⟩:=I.base.slot b o e n hb hx
    obtain⟨sl',e2⟩:=slot b _ (neL b o e) hb (neC b o e hx) e1 (I.base.free b o e n hx)
    exact⟨sl',e2⟩
  · obtain⟨o',e1⟩:=I.base.there b o e hx
    exact free b o' (neC b o e hx) e1 (I.base.free b o e n hx)
  · obtain⟨o',e1⟩:=I.base.there b o e hx
    exact there b o' (neC b o e hx) e1
  · obtain⟨m1,e1⟩:=I.base.tbls b ps e
    obtain⟨m2,e2⟩:=tbls b _ e1
    exact⟨m1++m2,by rw [e2,Array.append_assoc]⟩
  · obtain⟨m,hn,hl⟩:=I.loc
    refine⟨m,ns m hn,fun i x v e1 e2 e3=>?_⟩
    obtain⟨u,r,l⟩:=hl i x v e1 e2 e3
    refine⟨u,r,?_⟩
    rcases l with l | ⟨k,c,e,z⟩
    · exact .inl l
    · exact .inr ⟨k,c,e,cellK x c e _ z⟩
  · obtain⟨v,z⟩:=I.cell x c e
    exact⟨v,cellK x c e v z⟩
  · obtain⟨m,⟨o,_,_,ho,_⟩,_⟩:=I.loc
    exact free _ o (fun z=>(hch _ z).2.1 rfl) ho I.free
  · obtain⟨v,o,ho,hd⟩:=I.cell x c e
    exact free c o (fun z=>(hch c z).2.2.1 x c e rfl) ho (I.freeC x c e)
  · obtain⟨e,n,ne,nf,d⟩:=I.pin p hp
    have nch:p.1 ∉ ch:=fun z=>(hch p.1 z).2.2.2 p hp rfl
    exact⟨keep p.1 p.2 ne nf nch e n,free p.1 p.2 nch e n,ne,nf,d⟩
theorem Inv.un {t':Nat} (I:Inv X pins σ H s) (u:Un X.fs [] H H' s.heap h') (hok:HOk X.prog X.w H' h'):Inv X pins σ H' { s with heap:=h',toks:=t' }:=by
 obtain⟨m,⟨o,es,ep,ho,r⟩,_⟩:=id I.loc
 obtain⟨sl,hL⟩:=u.any ho I.free (by simp)
 exact I.step (g':=s.gens) (d':=s.drawn) (ch:=[]) (fun _ z=>nomatch z) (fun b o _ hb _ e n=>u.keep b o e n hb (by simp)) (fun b o _ hb _ e n=>u.slot b o e n hb (by simp)) (fun b o _ e n=>u.free b o e n (by simp)) (fun b o _ e=>u.there b o e (by simp)) u.tups u.frzs u.tbls (fun m' hm=>by
  obtain⟨o',es',ep',ho',r'⟩:=hm
  rw [ho] at ho'; cases ho'
  exact⟨_,es',ep',hL,r'⟩) hok I.bare
theorem Inv.call {g':Array GenState} {t':Nat} {d':Drawn} {ch:List Addr} (I:Inv X pins σ H s) (u:Un (frs X.stack) ch H H' s.heap h') (hok:HOk X.prog X.w H' h') (hg:AllBare g')
    (hch:∀b∈ch,(b∈X.ex \/ X.s₀.heap.objs.size<=b)/\b≠X.env.locals/\(∀x c,X.env.cells.lookup x=some c->c≠b) /\ ∀p∈X.pn++pins,p.1≠b) :
    Inv X pins σ H' { s with heap:=h',gens:=g',drawn:=d',toks:=t' }:=by
  obtain⟨m,⟨o,es,ep,ho,r⟩,_⟩:=id I.loc
  obtain⟨sl,hL⟩:=u.any ho I.free fun z=>(hch _ z).2.1 rfl
  exact I.step (ch:=ch) hch (fun b o hL hb hc e n=>u.keep b o e n (fun z=>(List.mem_cons.mp (I.stkSub b z)).elim hL hb) hc) (fun b o _ _ hc e n=>u.any e n hc) (fun b o hc e n=>u.free b o e n hc) (fun b o hc e=>u.there b o e hc) u.tups u.frzs u.tbls (fun m' hm=>by
   obtain⟨o',es',ep',ho',r'⟩:=hm
   rw [ho] at ho'; cases ho'
   exact⟨_,es',ep',hL,r'⟩) hok hg
theorem Inv.turned {t':Nat} {it:Addr} (I:Inv X pins σ H s) (k:∀b o,b≠it->s.heap.get? b=some o->h'.get? b=some o) (hn:H it=none) (hL:it≠X.env.locals)
    (h1:it∈X.ex \/ X.s₀.heap.objs.size<=it) (h2:∀x c,X.env.cells.lookup x=some c->c≠it) (h3:∀p∈X.pn++pins,p.1≠it):Inv X pins σ H { s with heap:=h',toks:=t' }:=by
  have nit:∀b u,H b=some u->b≠it:=fun b u e z=>by rw [z,hn] at e; cases e
  refine I.step (g':=s.gens) (d':=s.drawn) (ch:=[it]) (fun b hb=>?_) (fun b o _ _ hc e _=>k b o (fun z=>hc (by simp [z])) e) (fun b o _ _ hc e _=>⟨o.slots,k b o (fun z=>hc (by simp [z])) e⟩) (fun _ _ _ _ n=>n)
    (fun b o hc e=>⟨o,k b o (fun z=>hc (by simp [z])) e⟩) (fun _ _ e=>e) (fun _ _ _ e=>e) (fun b ps e=>⟨#[],by rw [e]; simp⟩) (fun m hm=>?_) (fun b u e=>?_) I.bare
  · have e:b=it:=by simpa using hb
    subst e
    exact⟨h1,hL,h2,h3⟩
  · obtain⟨o,es,ep,ho,r⟩:=hm
    exact⟨o,es,ep,k _ o (Ne.symm hL) ho,r⟩
  · refine (I.hok b u e).stay (fun c v hc q=>k c v ?_ q) (fun _ q=>q) fun _ _ q=>q
    rcases hc with z | z
    · rw [z]; exact nit b u e
    · exact nit c _ z
theorem Inv.tok (I:Inv X pins σ H s) (t:Nat):Inv X pins σ H { s with toks:=t }:=I.un (h':=s.heap) (t':=t) Un.refl I.hok
theorem Inv.kept {t':Nat} (I:Inv X pins σ H s) (k:∀b u,s.heap.get? b=some u->h'.get? b=some u):Inv X pins σ H { s with heap:=h',toks:=t' }:=I.un (Un.kept k) (I.hok.kept k)
theorem Inv.laid {a:Addr} {o:HO} {t':Nat} (I:Inv X pins σ H s) (k:∀b u,s.heap.get? b=some u->h'.get? b=some u) (hp:s.heap.objs.size<=a) (new:ObjOk X.prog X.w (upd H a o) h' a o) :
    Inv X pins σ (upd H a o) { s with heap:=h',toks:=t' }:=I.un (Un.laid k hp (I.hok.fresh hp)) (I.hok.laid k hp new)
theorem Inv.write {x e:Addr} {o:HO} {t':Nat} (I:Inv X pins σ H s) (mu:Mut (H x)) (he:e=x \/ H e=some (.own x)) (k:∀b u,b≠e->s.heap.get? b=some u->h'.get? b=some u) (heo:∃u,h'.get? e=some u)
    (new:ObjOk X.prog X.w (upd H x o) h' x o):Inv X pins σ (upd H x o) { s with heap:=h',toks:=t' }:=I.un (Un.write mu he k heo) (I.hok.write mu he k heo new)
theorem Inv.pins_of {pins':List (Addr × Obj)} (I:Inv X pins σ H s) (h:∀p∈pins',s.heap.get? p.1=some p.2/\H p.1=none/\p.1≠X.env.locals/\p.1 ∉ X.fs /\ ∀v,p.2.data ≠ .cell v):Inv X pins' σ H s:=
 ⟨I.ok,I.os,I.bare,I.base,I.loc,I.cell,I.free,I.freeC,fun p hp=>(List.mem_append.mp hp).elim (fun z=>I.pin p (List.mem_append_left _ z)) (h p),I.hok,I.len⟩
theorem nodup_ix {N:List Str} (hN:N.Nodup) {i j:Nat} {x:Str} (a:N[i]? = some x) (b:N[j]? = some x):i=j:=by
 obtain⟨h1,e1⟩:=List.getElem?_eq_some_iff.mp a
 obtain⟨h2,e2⟩:=List.getElem?_eq_some_iff.mp b
 exact (List.getElem_inj hN).mp (e1.trans e2.symm)
theorem store_ok2 {M:Model} {A:Around} {E:Value->Shared->Prop} {i:Nat} {x:Str} {v:V} {u:Value} {Q:Unit->Shared->Prop} (I:Inv X pins σ H s) (hN:X.N.Nodup) (hi:X.N[i]? = some x) (hx:Loc X.env.scope x) (r:RelV v u)
    (h:∀s',Inv X pins (σ.set i (some v)) H s'->(∃a,Heap.SameBut a s.heap s'.heap/\(a=X.env.locals \/ X.env.cells.lookup x=some a))->Q () s') (hf:X.fn x=true \/ X.env.scope.names.lookup x=some .local:=by first | exact .inl rfl | exact .inr rfl | assumption):wpAny M A (storeName X.env x u) Q E s:=by
  obtain⟨m,hn,hl⟩:=id I.loc
  have hcls:(X.env.scope.kind == .class || (X.env.scope.kind == .module && X.env.locals != X.env.globals))=false:=by rw [I.ok.kind]; rfl
  have hiσ : i < σ.length:=by rw [I.len]; exact (List.getElem?_eq_some_iff.mp hi).1
  have cne:=I.cne
  have tracked:∀ {a:Addr} {h':Heap},(∃o,s.heap.get? a=some o/\H a=none)->Heap.SameBut a s.heap h'->HOk X.prog X.w H h':=fun {a h'} ha hs b ob e=>by
   obtain⟨_,_,hfree⟩:=ha
   refine (I.hok b ob e).stay (fun c w' hc q=>(hs.2 c ?_).trans q) (fun _ q=>q) fun _ _ q=>q
   rintro rfl
   rcases hc with rfl | hc
   · rw [hfree] at e; cases e
   · rw [hfree] at hc; cases hc
  rcases hx with hk | hk
  · refine wpAny_storeName_local hk hn (fun h' hn' hs=>?_) hcls
    obtain⟨oL,_,_,hoL,_⟩:=id hn
    refine h _ ⟨I.ok,I.os,I.bare,⟨fun b o e n hb hx=>?_,fun b o e n hb hx=>?_,I.base.free,fun b o e hx=>?_,I.base.tups,I.base.frzs,I.base.tbls⟩,⟨_,hn',fun j y v' e1 e2 e3=>?_⟩,fun y c e=>?_,I.free,I.freeC,fun p hp=>?_,tracked ⟨oL,hoL,I.free⟩ hs,by simpa using I.len⟩ ⟨_,hs,.inl rfl⟩
    · exact (hs.2 b (Nat.ne_of_lt (Nat.lt_of_lt_of_le (Heap.lt_size e) I.ok.above))).trans (I.base.keep b o e n hb hx)
    · obtain⟨sl,e1⟩:=I.base.slot b o e n hb hx
      exact⟨sl,(hs.2 b (Nat.ne_of_lt (Nat.lt_of_lt_of_le (Heap.lt_size e) I.ok.above))).trans e1⟩
    · obtain⟨o',e1⟩:=I.base.there b o e hx
      exact⟨o',(hs.2 b (Nat.ne_of_lt (Nat.lt_of_lt_of_le (Heap.lt_size e) I.ok.above))).trans e1⟩
    · by_cases hj:j=i
      · subst hj
        rw [hi] at e1; cases e1
        rw [List.getElem?_set_self hiσ] at e2
        cases e2
        exact⟨u,r,.inl ⟨hk,by simp⟩⟩
      · rw [List.getElem?_set_ne (Ne.symm hj)] at e2
        obtain⟨u',r',q⟩:=hl j y v' e1 e2 e3
        refine⟨u',r',?_⟩
        rcases q with ⟨k,e⟩ | ⟨k,c,e,z⟩
        · refine .inl ⟨k,?_⟩
          have:y≠x:=fun e=>hj (nodup_ix hN e1 (e ▸ hi))
          simp [this,e]
        · exact .inr ⟨k,c,e,z.sameBut hs (cne y c e)⟩
    · obtain⟨w',z⟩:=I.cell y c e
      exact⟨w',z.sameBut hs (cne y c e)⟩
    · obtain⟨e,n,ne,nf,d⟩:=I.pin p hp
      exact⟨(hs.2 p.1 ne).trans e,n,ne,nf,d⟩
  · have hfn:X.fn x=true:=by
      rcases hf with z | z
      · exact z
      · rw [z] at hk; cases hk
    obtain⟨c,hc⟩:=I.ok.has x (.inl hk)
    obtain⟨w',z⟩:=I.cell x c hc
    refine wpAny_storeName_cell I.ok.kind hk hc z (fun h' hc' hs=>?_)
    obtain⟨oc,hoc,hocd⟩:=id z
    refine h { s with heap:=h' } ⟨I.ok,I.os,I.bare,⟨fun b o e n hb hx=>?_,fun b o e n hb hx=>?_,I.base.free,fun b o e hx=>?_,I.base.tups,I.base.frzs,I.base.tbls⟩,⟨m,hn.sameBut hs (Ne.symm (cne x c hc)),fun j y v' e1 e2 e3=>?_⟩,fun y c' e=>?_,I.free,I.freeC,fun p hp=>?_,tracked ⟨oc,hoc,I.freeC x c hc⟩ hs,by simpa using I.len⟩ ⟨c,hs,.inr hc⟩
    · exact (hs.2 b (Nat.ne_of_lt (Nat.lt_of_lt_of_le (Heap.lt_size e) (I.ok.cab x c hfn hc)))).trans (I.base.keep b o e n hb hx)
    · obtain⟨sl,e1⟩:=I.base.slot b o e n hb hx
      exact⟨sl,(hs.2 b (Nat.ne_of_lt (Nat.lt_of_lt_of_le (Heap.lt_size e) (I.ok.cab x c hfn hc)))).trans e1⟩
    · obtain⟨o',e1⟩:=I.base.there b o e hx
      exact⟨o',(hs.2 b (Nat.ne_of_lt (Nat.lt_of_lt_of_le (Heap.lt_size e) (I.ok.cab x c hfn hc)))).trans e1⟩
    · by_cases hj:j=i
      · subst hj
        rw [hi] at e1; cases e1
        rw [List.getElem?_set_self hiσ] at e2
        cases e2
        exact⟨u,r,.inr ⟨.inl hk,c,hc,hc'⟩⟩
      · rw [List.getElem?_set_ne (Ne.symm hj)] at e2
        obtain⟨u',r',q⟩:=hl j y v' e1 e2 e3
        refine⟨u',r',?_⟩
        rcases q with q | ⟨k,c',e,z'⟩
        · exact .inl q
        · refine .inr ⟨k,c',e,z'.sameBut hs ?_⟩
          rintro rfl
          exact hj (nodup_ix hN e1 (I.ok.inj _ _ _ e hc ▸ hi))
    · by_cases hcc:c'=c
      · subst hcc; exact⟨_,hc'⟩
      · obtain⟨w2,z2⟩:=I.cell y c' e
        exact⟨w2,z2.sameBut hs hcc⟩
    · obtain⟨e,n,ne,nf,d⟩:=I.pin p hp
      refine⟨(hs.2 p.1 ?_).trans e,n,ne,nf,d⟩
      intro q
      rw [q,hoc] at e
      have q':oc=p.2:=Option.some.inj e
      exact d w' (by rw [<- q']; exact hocd)
theorem store_ok {M:Model} {A:Around} {E:Value->Shared->Prop} {i:Nat} {x:Str} {v:V} {u:Value} {Q:Unit->Shared->Prop} (I:Inv X pins σ H s) (hN:X.N.Nodup) (hi:X.N[i]? = some x) (hx:Loc X.env.scope x) (r:RelV v u)
    (h:∀s',Inv X pins (σ.set i (some v)) H s'->Q () s') (hf:X.fn x=true \/ X.env.scope.names.lookup x=some .local:=by first | exact .inl rfl | exact .inr rfl | assumption):wpAny M A (storeName X.env x u) Q E s:=
  store_ok2 I hN hi hx r (fun s' I' _=>h s' I') hf
theorem Inv.call' {s':Shared} {ch:List Addr} (I:Inv X pins σ H s) (ho:s'.os=s.os) (u:Un (frs X.stack) ch H H' s.heap s'.heap) (hok:HOk X.prog X.w H' s'.heap) (hg:AllBare s'.gens)
    (hch:∀b∈ch,(b∈X.ex \/ X.s₀.heap.objs.size<=b)/\b≠X.env.locals/\(∀x c,X.env.cells.lookup x=some c->c≠b) /\ ∀p∈X.pn++pins,p.1≠b):Inv X pins σ H' s':=by
  obtain⟨h',g',d',t',o'⟩:=s'
  have e:o'=s.os:=ho
  subst e
  exact I.call (g':=g') (t':=t') (d':=d') u hok hg hch
end
abbrev XK:=Value->Option Addr->Hp->Prop
abbrev St:=List (Option V)
abbrev VK:=V->Hp->Prop
abbrev TE:=St->Hp->VK->Prop
abbrev TT:=St->Hp->(Bool->Hp->Prop)->Prop
abbrev TA:=St->Hp->(List V->Hp->Prop)->Prop
structure Ends where
 nx:St->Hp->Prop
 rt:VK
 bk:St->Hp->Prop:=fun _ _=>False
 ct:St->Hp->Prop:=fun _ _=>False
abbrev TS:=Ends->St->Hp->Prop
def EP (X:Cx) (pins:List (Addr × Obj)) (σ : St) (Q:VK) (u:Value) (s':Shared):Prop:=∃v H',Inv X pins σ H' s'/\RelV v u/\Q v H'
def TP (X:Cx) (pins:List (Addr × Obj)) (σ : St) (Q:Bool->Hp->Prop) (b:Bool) (s':Shared):Prop:=∃H',Inv X pins σ H' s'/\Q b H'
def AP (X:Cx) (pins:List (Addr × Obj)) (σ : St) (Q:List V->Hp->Prop) (us:List Value) (s':Shared):Prop:=∃vs H',Inv X pins σ H' s'/\Vals vs us/\Q vs H'
def SP (X:Cx) (pins:List (Addr × Obj)) (D:Ends) (f:Flow) (s':Shared):Prop:=
 match f with
 | .next=>∃ σ' H',Inv X pins σ' H' s'/\D.nx σ' H'
 | .brk=>∃ σ' H',Inv X pins σ' H' s'/\D.bk σ' H'
 | .cont=>∃ σ' H',Inv X pins σ' H' s'/\D.ct σ' H'
 | .ret u=>∃v σ' H',Inv X pins σ' H' s'/\RelV v u/\D.rt v H'
def PE (X:Cx) (e:Expr) (t:TE):Prop:=
 ∀(pins:List (Addr × Obj)) (s:Shared) (σ : St) (H:Hp) (Q:VK),Inv X pins σ H s->t σ H Q->wpAny (model X.prog X.w) X.A (eval e X.env) (EP X pins σ Q) X.xe s
def PT (X:Cx) (e:Expr) (t:TT):Prop:=
 ∀(pins:List (Addr × Obj)) (s:Shared) (σ : St) (H:Hp) (Q:Bool->Hp->Prop),Inv X pins σ H s->t σ H Q->wpAny (model X.prog X.w) X.A (isTrue e X.env (eval e X.env)) (TP X pins σ Q) X.xe s
def PW (X:Cx) (e:Expr) (t:TT):Prop:=
 ∀(whole:Sem Value) (pins:List (Addr × Obj)) (s:Shared) (σ : St) (H:Hp) (Q:Bool->Hp->Prop),Inv X pins σ H s->t σ H Q->wpAny (model X.prog X.w) X.A (isTrue e X.env whole) (TP X pins σ Q) X.xe s
theorem PW.pt {X:Cx} {e:Expr} {t:TT} (h:PW X e t):PT X e t:=h _
def PA (X:Cx) (es:List Expr) (t:TA):Prop:=
 ∀(pos:Pos) (pins:List (Addr × Obj)) (s:Shared) (σ : St) (H:Hp) (Q:List V->Hp->Prop),Inv X pins σ H s->t σ H Q->wpAny (model X.prog X.w) X.A (spliced (backTo pos (starEach es X.env))) (AP X pins σ Q) X.xe s
def PS (X:Cx) (st:Stmt) (t:TS):Prop:=
 ∀(pins:List (Addr × Obj)) (s:Shared) (σ : St) (H:Hp) (D:Ends),Inv X pins σ H s->t D σ H->wpAny (model X.prog X.w) X.A (exec st X.env) (SP X pins D) X.xe s
def PSs (X:Cx) (st:List Stmt) (t:TS):Prop:=
 ∀(pins:List (Addr × Obj)) (s:Shared) (σ : St) (H:Hp) (D:Ends),Inv X pins σ H s->t D σ H->wpAny (model X.prog X.w) X.A (execs st X.env) (SP X pins D) X.xe s
theorem thn {α : Type} {t:Sem α} {Q Q' : α -> Shared->Prop} {M:Model} {A:Around} {E:Value->Shared->Prop} {s:Shared} (h:wpAny M A t Q E s) (hQ:∀a s,Q a s->Q' a s):wpAny M A t Q' E s:=wpAny_mono h hQ fun _ _ x=>x
end L2
namespace L2
open PySem PySem.Spec PyProof.Rows
section
variable {X:Cx}
inductive ItVar (i:Nat) (σ : St) (H:Hp) (Q:VK):Prop
  | mk (v:_) (h0 : σ[i]? = some (some v)) (h1:Q v H):ItVar i σ H Q
def tVar (i:Nat):TE:=fun σ H Q=>ItVar i σ H Q
def tC (v:V):TE:=fun _ H Q=>Q v H
theorem pe_var {i:Nat} {x:Str} {pos:Pos} (hN:X.N[i]? = some x) (hv:Vis X.env.scope x) (hd:(x == ("__debug__" : Str))=false:=by decide) (hcd:(x == ("__classdict__" : Str))=false:=by decide):PE X (.Name x pos) (tVar i):=by
 intro pins s σ H Q I h
 obtain⟨v,e,h⟩:=h
 obtain⟨m,hn,hl⟩:=I.loc
 obtain⟨u,r,l⟩:=hl i x v hN e hv
 have fin:EP X pins σ Q u s:=⟨v,H,I,r,h⟩
 rcases l with ⟨hk,hm⟩ | ⟨hk,c,hc,hcell⟩
 · exact wpAny_Name (wpAny_loadName_local I.ok.kind hk hn hm fin) hd
 · rcases hk with hk | hk
   · exact wpAny_Name (wpAny_loadName_cell I.ok.kind hk hc hcell fin) hd
   · exact wpAny_Name (wpAny_loadName_free I.ok.kind hk hc hcell fin hcd) hd
theorem pe_int {i j pos}:PE X (.Constant (.int i) j pos) (tC (.int i)):=fun _ _ _ H _ I h=>wpAny_Constant_int ⟨.int i,H,I.tok _,⟨_,rfl⟩,h⟩
theorem pe_bl {b j pos}:PE X (.Constant (.bool b) j pos) (tC (.bl b)):=fun _ _ _ H _ I h=>Constant_bool ⟨.bl b,H,I,rfl,h⟩
theorem pe_non {j pos}:PE X (.Constant .none j pos) (tC .non):=fun _ _ _ H _ I h=>Constant_none ⟨.non,H,I,rfl,h⟩
theorem pe_str {x j pos}:PE X (.Constant (.str x) j pos) (tC (.str x)):=fun _ _ _ H _ I h=>Calls.Constant_str ⟨.str x,H,I.tok _,⟨_,rfl⟩,h⟩
def Gl (X:Cx) (x:Str):Prop:=X.env.kindOf x=some .globalImplicit
theorem ld_glob {E:Value->Shared->Prop} {pins:List (Addr × Obj)} {s:Shared} {σ : St} {H:Hp} {x:Str} {u:Value} {pos:Pos} {Q:Value->Shared->Prop} (I:Inv X pins σ H s) (hg:Gl X x) (hm:X.mg x=some u) (h:Q u s)
    (hd:(x == ("__debug__" : Str))=false:=by decide):wpAny (model X.prog X.w) X.A (eval (.Name x pos) X.env) Q E s:=
  Calls.Name_function_global I.ok.kind hg (Calls.loadGlobal_global (by rw [I.ok.glob]; exact I.mod.glob.keeps I.bk) hm h) hd
theorem ld_blt {E:Value->Shared->Prop} {pins:List (Addr × Obj)} {s:Shared} {σ : St} {H:Hp} {x:Str} {u:Value} {pos:Pos} {Q:Value->Shared->Prop} (I:Inv X pins σ H s) (hg:Gl X x) (hm:X.mg x=none) (hv:bootBuiltins x=some u) (h:Q u s)
    (hn:x ≠ "__name__":=by decide) (hd:(x == ("__debug__" : Str))=false:=by decide):wpAny (model X.prog X.w) X.A (eval (.Name x pos) X.env) Q E s:=by
  obtain⟨mb,h1,h2⟩:=I.mod.blt
  exact Calls.Name_function_global I.ok.kind hg (Calls.loadGlobal_builtin (by rw [I.ok.glob]; exact I.mod.glob.keeps I.bk) hm (by rw [I.ok.blt]; exact h1.keeps I.bk) ((h2 x hn).trans hv) h) hd
theorem pe_glob {x:Str} {v:V} {u:Value} {pos:Pos} (hg:Gl X x) (hm:X.mg x=some u) (r:RelV v u) (hd:(x == ("__debug__" : Str))=false:=by decide):PE X (.Name x pos) (tC v):=
 fun _ _ _ H _ I h=>ld_glob I hg hm ⟨v,H,I,r,h⟩ hd
theorem pe_bltn {x:Str} {v:V} {u:Value} {pos:Pos} (hg:Gl X x) (hm:X.mg x=none) (hv:bootBuiltins x=some u) (r:RelV v u) (hn:x ≠ "__name__":=by decide) (hd:(x == ("__debug__" : Str))=false:=by decide):PE X (.Name x pos) (tC v):=
 fun _ _ _ H _ I h=>ld_blt I hg hm hv ⟨v,H,I,r,h⟩ hn hd
variable {a b:Expr} {ta tb:TE} {pos:Pos}
inductive ItB (Q:Bool->Hp->Prop) (x:V) (H1:Hp):Prop
  | mk (c:_) (h0:x = .bl c) (h1:Q c H1):ItB Q x H1
def tB (t:TE):TT:=fun σ H Q=>t σ H fun x H1=>ItB Q x H1
theorem pt_val {e:Expr} {t:TE} (h:PE X e t) (he:∀whole,isTrue e X.env whole=(do let v <- whole; standAt e.pos; holding [v] (truthy v)):=by intro _; rfl):PT X e (tB t):=by
 intro pins s σ H Q I hw
 refine isTrue_plain (thn (h pins s σ H _ I hw) fun v s1 ⟨x,H1,I1,r1,q1⟩=>?_) (he _)
 obtain⟨d,rfl,q⟩:=q1
 cases r1
 exact wpAny_truthy_bool ⟨H1,I1,q⟩
variable {tA tB':TT} {rest:List Expr}
def tAnd (t u:TT):TT:=fun σ H Q=>t σ H fun c H1=>if c=true then u σ H1 Q else Q false H1
def tOr (t u:TT):TT:=fun σ H Q=>t σ H fun c H1=>if c=true then Q true H1 else u σ H1 Q
def tNot (t:TT):TT:=fun σ H Q=>t σ H fun c H1=>Q (!c) H1
theorem pw_and1 (ha:PT X a tA):PW X (.BoolOp .And [a] pos) tA:=by
 intro wh pins s σ H Q I h
 refine isTrue_and (thn (ha pins s σ H Q I h) fun c s1 e=>?_)
 cases c with
 | true=>exact isTrue_and_nil e
 | false=>exact e
theorem pw_or1 (ha:PT X a tA):PW X (.BoolOp .Or [a] pos) tA:=by
 intro wh pins s σ H Q I h
 refine isTrue_or (thn (ha pins s σ H Q I h) fun c s1 e=>?_)
 cases c with
 | false=>exact isTrue_or_nil e
 | true=>exact e
theorem pw_and (ha:PT X a tA) (hb:PW X (.BoolOp .And (b::rest) pos) tB'):PW X (.BoolOp .And (a::b::rest) pos) (tAnd tA tB'):=by
 intro wh pins s σ H Q I h
 refine isTrue_and (thn (ha pins s σ H _ I h) fun c s1 ⟨H1,I1,q1⟩=>?_)
 cases c with
 | true=>exact hb wh pins s1 σ H1 Q I1 q1
 | false=>exact⟨H1,I1,q1⟩
theorem pw_or (ha:PT X a tA) (hb:PW X (.BoolOp .Or (b::rest) pos) tB'):PW X (.BoolOp .Or (a::b::rest) pos) (tOr tA tB'):=by
 intro wh pins s σ H Q I h
 refine isTrue_or (thn (ha pins s σ H _ I h) fun c s1 ⟨H1,I1,q1⟩=>?_)
 cases c with
 | true=>exact⟨H1,I1,q1⟩
 | false=>exact hb wh pins s1 σ H1 Q I1 q1
theorem pt_not (ha:PT X a tA):PT X (.UnaryOp .Not a pos) (tNot tA):=by
 intro pins s σ H Q I h
 exact isTrue_not (ha pins s σ H (fun c H1=>Q (!c) H1) I h)
inductive ItAndV (tb:TE) (σ : St) (Q:VK) (x:V) (H1:Hp):Prop
  | mk (c:_) (h0:x = .bl c) (h1:if c=true then tb σ H1 Q else Q (.bl false) H1):ItAndV tb σ Q x H1
def tAndV (ta tb:TE):TE:=fun σ H Q=>ta σ H fun x H1=>ItAndV tb σ Q x H1
inductive ItOrV (tb:TE) (σ : St) (Q:VK) (x:V) (H1:Hp):Prop
  | mk (c:_) (h0:x = .bl c) (h1:if c=true then Q (.bl true) H1 else tb σ H1 Q):ItOrV tb σ Q x H1
def tOrV (ta tb:TE):TE:=fun σ H Q=>ta σ H fun x H1=>ItOrV tb σ Q x H1
inductive ItNotV (Q:VK) (x:V) (H1:Hp):Prop
  | mk (c:_) (h0:x = .bl c) (h1:Q (.bl (!c)) H1):ItNotV Q x H1
def tNotV (ta:TE):TE:=fun σ H Q=>ta σ H fun x H1=>ItNotV Q x H1
theorem pe_one {op} {t:TE} (h:PE X a t):PE X (.BoolOp op [a] pos) t:=fun pins s σ H Q I hw=>BoolOp_one (h pins s σ H Q I hw)
theorem pe_and (ha:PE X a ta) (hb:PE X (.BoolOp .And (b::rest) pos) tb):PE X (.BoolOp .And (a::b::rest) pos) (tAndV ta tb):=by
 intro pins s σ H Q I h
 refine BoolOp_and (thn (ha pins s σ H _ I h) fun v s1 ⟨x,H1,I1,r1,q1⟩=>?_)
 obtain⟨c,rfl,q1⟩:=q1
 cases r1
 refine wpAny_truthy_bool ?_
 cases c with
 | true=>exact hb pins s1 σ H1 Q I1 q1
 | false=>exact⟨.bl false,H1,I1,rfl,q1⟩
theorem pe_or (ha:PE X a ta) (hb:PE X (.BoolOp .Or (b::rest) pos) tb):PE X (.BoolOp .Or (a::b::rest) pos) (tOrV ta tb):=by
 intro pins s σ H Q I h
 refine BoolOp_or (thn (ha pins s σ H _ I h) fun v s1 ⟨x,H1,I1,r1,q1⟩=>?_)
 obtain⟨c,rfl,q1⟩:=q1
 cases r1
 refine wpAny_truthy_bool ?_
 cases c with
 | false=>exact hb pins s1 σ H1 Q I1 q1
 | true=>exact⟨.bl true,H1,I1,rfl,q1⟩
theorem pe_not (ha:PE X a ta):PE X (.UnaryOp .Not a pos) (tNotV ta):=by
 intro pins s σ H Q I h
 refine UnaryOp_ (thn (ha pins s σ H _ I h) fun v s1 ⟨x,H1,I1,r1,q1⟩=>?_)
 obtain⟨c,rfl,q1⟩:=q1
 cases r1
 exact not_of (wpAny_truthy_bool ⟨.bl (!c),H1,I1,rfl,q1⟩)
def tIf (t:TT) (ta tb:TE):TE:=fun σ H Q=>t σ H fun c H1=>if c=true then ta σ H1 Q else tb σ H1 Q
theorem pe_ifExp {c:Expr} (hc:PT X c tA) (ha:PE X a ta) (hb:PE X b tb):PE X (.IfExp c a b pos) (tIf tA ta tb):=by
 intro pins s σ H Q I h
 refine wpAny_IfExp (thn (hc pins s σ H _ I h) fun d s1 ⟨H1,I1,q1⟩=>?_)
 cases d with
 | true=>exact ha pins s1 σ H1 Q I1 q1
 | false=>exact hb pins s1 σ H1 Q I1 q1
end
end L2
namespace L2
open PySem PySem.Spec PyProof.Rows
def SqL (K:PySem.W.Frag) (H:Hp) (a:Addr) (xs:List V):Prop:=
 Rd H a (.lst xs) \/
   ∃(o:Obj) (its:Array Value) (n:Nat),K.lookup a=some o/\o.cls = .type "list" /\ o.dict=none/\o.data = .seq its n/\its.size<=sizeLine/\Vals xs its.toList
def SqT (K:PySem.W.Frag) (H:Hp) (a:Addr) (xs:List V):Prop:=
 Rd H a (.tup xs) \/
   ∃(o:Obj) (its:Array Value) (n:Nat),K.lookup a=some o/\o.cls = .type "tuple" /\ o.data = .seq its n/\its.size<=sizeLine/\Vals xs its.toList
def absV:Value->Option V
  | .none=>some .non
  | .bool b=>some (.bl b)
  | .int i _=>some (.int i)
  | .str x _=>some (.str x)
  | .bytes b _=>some (.byt b)
  | .float b _=>some (.flt b)
  | .ref a=>some (.ref a)
  | .type n=>some (.ty n)
  | _=>none
theorem RelV.abs {x:V} {u:Value} (r:RelV x u):absV u=some x:=by
 cases x with
 | non=>cases r; rfl
 | bl _=>cases r; rfl
 | int _=>obtain⟨t,rfl⟩:=r; rfl
 | str _=>obtain⟨t,rfl⟩:=r; rfl
 | byt _=>obtain⟨t,rfl⟩:=r; rfl
 | flt _=>obtain⟨t,rfl⟩:=r; rfl
 | ref _=>cases r; rfl
 | ty _=>cases r; rfl
theorem RelV.inj {x y:V} {u:Value} (r:RelV x u) (q:RelV y u):x=y:=Option.some.inj (r.abs.symm.trans q.abs)
theorem Vals.inj:∀ {xs ys:List V} {us:List Value},Vals xs us->Vals ys us->xs=ys
  | _,_,_,.nil,.nil=>rfl
  | _,_,_,.cons r t,.cons r' t'=>by rw [r.inj r',Vals.inj t t']
section
variable {X:Cx} {pins:List (Addr × Obj)} {σ : St} {H:Hp} {s:Shared} {a:Addr} {xs ys:List V}
theorem SqL.of {K:PySem.W.Frag} (h:H a=some (.lst xs)):SqL K H a xs:=.inl (.inl h)
theorem SqT.of {K:PySem.W.Frag} (h:H a=some (.tup xs)):SqT K H a xs:=.inl (.inl h)
theorem Inv.list (I:Inv X pins σ H s) (h:SqL X.K H a xs):∃its:List Value,Vals xs its/\PlainL s.heap a its.toArray/\xs.length<=sizeLine:=by
 rcases h with h | ⟨o,its,n,hk,hc,hd,hs,hz,r⟩
 · obtain⟨z,its,n,r,e⟩:=h.ok I.hok
   exact⟨its,r,⟨_,n,e,rfl,rfl,rfl⟩,z⟩
 · refine⟨its.toList,r,⟨o,n,I.kIn a o hk,hc,hd,by simpa using hs⟩,?_⟩
   have e:=r.length
   simp only [Array.length_toList] at e
   omega
theorem Inv.tuple (I:Inv X pins σ H s) (h:SqT X.K H a xs):∃its:List Value,Vals xs its/\IsTup s.heap a its.toArray/\xs.length<=sizeLine:=by
 rcases h with h | ⟨o,its,n,hk,hc,hs,hz,r⟩
 · obtain⟨z,its,r,p⟩:=h.ok I.hok
   exact⟨its,r,p,z⟩
 · refine⟨its.toList,r,⟨o,I.kIn a o hk,hc,n,by simpa using hs⟩,?_⟩
   have e:=r.length
   simp only [Array.length_toList] at e
   omega
theorem Inv.list_inj (I:Inv X pins σ H s) (h:SqL X.K H a xs) (h':SqL X.K H a ys):xs=ys:=by
 obtain⟨its,r,⟨o,n,e,_,_,d⟩,_⟩:=I.list h
 obtain⟨its',r',⟨o',n',e',_,_,d'⟩,_⟩:=I.list h'
 rw [e] at e'; cases e'
 rw [d] at d'
 injection d' with d1 _
 have:its=its':=by simpa using congrArg Array.toList d1
 subst this
 exact r.inj r'
theorem Inv.tuple_inj (I:Inv X pins σ H s) (h:SqT X.K H a xs) (h':SqT X.K H a ys):xs=ys:=by
 obtain⟨its,r,⟨o,e,_,n,d⟩,_⟩:=I.tuple h
 obtain⟨its',r',⟨o',e',_,n',d'⟩,_⟩:=I.tuple h'
 rw [e] at e'; cases e'
 rw [d] at d'
 injection d' with d1 _
 have:its=its':=by simpa using congrArg Array.toList d1
 subst this
 exact r.inj r'
end
abbrev Cx.wish (X:Cx) (E:Value->Shared->Prop):Cx:={ X with xe:=E }
abbrev Cx.nox (X:Cx):Cx:=X.wish fun _ _=>False
theorem Cx.Ok.wish {X:Cx} (ok:X.Ok) (E:Value->Shared->Prop):(X.wish E).Ok:=
 ⟨ok.mod,ok.kind,ok.glob,ok.blt,ok.above,ok.inj,ok.has,ok.cab,ok.hd,ok.frames,ok.stk,ok.exf,ok.bs,ok.bsz,ok.noex,ok.exfs,ok.funs,ok.frf⟩
theorem Cx.Ok.unwish {X:Cx} {E:Value->Shared->Prop} (ok:(X.wish E).Ok):X.Ok:=
 ⟨ok.mod,ok.kind,ok.glob,ok.blt,ok.above,ok.inj,ok.has,ok.cab,ok.hd,ok.frames,ok.stk,ok.exf,ok.bs,ok.bsz,ok.noex,ok.exfs,ok.funs,ok.frf⟩
section
variable {X:Cx} {pins:List (Addr × Obj)} {σ : St} {H:Hp} {s:Shared} {E:Value->Shared->Prop}
theorem Inv.wish (I:Inv X pins σ H s) (E:Value->Shared->Prop):Inv (X.wish E) pins σ H s:=⟨I.ok.wish E,I.os,I.bare,I.base,I.loc,I.cell,I.free,I.freeC,I.pin,I.hok,I.len⟩
theorem Inv.unwish (I:Inv (X.wish E) pins σ H s):Inv X pins σ H s:=⟨I.ok.unwish,I.os,I.bare,I.base,I.loc,I.cell,I.free,I.freeC,I.pin,I.hok,I.len⟩
theorem SP.unwish {D:Ends} {f:Flow} {s':Shared} (h:SP (X.wish E) pins D f s'):SP X pins D f s':=by
 cases f with
 | next=>obtain⟨σ',H',I,q⟩:=h; exact⟨σ',H',I.unwish,q⟩
 | brk=>obtain⟨σ',H',I,q⟩:=h; exact⟨σ',H',I.unwish,q⟩
 | cont=>obtain⟨σ',H',I,q⟩:=h; exact⟨σ',H',I.unwish,q⟩
 | ret u=>obtain⟨v,σ',H',I,r,q⟩:=h; exact⟨v,σ',H',I.unwish,r,q⟩
theorem PSs.nox {st:List Stmt} {t:TS} (h:PSs X.nox st t):PSs X st t:=fun pins s σ H D I hw=>
 wpAny_mono (h pins s σ H D (I.wish _) hw) (fun _ _ q=>q.unwish) fun _ _ z=>False.elim z
end
section
variable {X:Cx} {st:Stmt} {rest:List Stmt} {t u:TS} {e:Expr} {te:TE} {pos:Pos}
def tNext:TS:=fun D σ H=>D.nx σ H
def tSeq (t u:TS):TS:=fun D σ H=>t { D with nx:=u D } σ H
theorem pss_nil:PSs X [] tNext:=fun _ _ σ H _ I h=>wpAny_execs_nil ⟨σ,H,I,h⟩
theorem pss_cons (h1:PS X st t) (h2:PSs X rest u):PSs X (st::rest) (tSeq t u):=by
 intro pins s σ H D I h
 refine wpAny_execs_cons (thn (h1 pins s σ H { D with nx:=u D } I h) fun f s1 q=>?_)
 cases f with
 | next=>
   obtain⟨σ',H',I',q⟩:=q
   exact h2 pins s1 σ' H' D I' q
 | ret v=>exact q
 | brk=>exact q
 | cont=>exact q
theorem pss_one (h1:PS X st t):PSs X [st] t:=by
 intro pins s σ H D I h
 refine wpAny_execs_cons (thn (h1 pins s σ H D I h) fun f s1 q=>?_)
 cases f with
 | next=>exact wpAny_execs_nil q
 | ret v=>exact q
 | brk=>exact q
 | cont=>exact q
theorem Inv.quiet {pins:List (Addr × Obj)} {σ : St} {H:Hp} {s:Shared} (I:Inv X pins σ H s):interactive X.env=false:=by simp [interactive,I.ok.kind]
def tDrop (te:TE):TS:=fun D σ H=>te σ H fun _ H1=>D.nx σ H1
theorem ps_expr (he:PE X e te) (hs:swapsWith e none pos.line X.env=pure false:=by rfl):PS X (.Expr e pos) (tDrop te):=by
 intro pins s σ H D I h
 exact wpAny_Expr_any (thn (he pins s σ H _ I h) fun v s1 ⟨x,H1,I1,r1,q1⟩=>⟨σ,H1,I1,q1⟩) I.quiet hs
def tRet (te:TE):TS:=fun D σ H=>te σ H D.rt
theorem ps_ret (he:PE X e te):PS X (.Return (some e) pos) (tRet te):=by
 intro pins s σ H D I h
 exact wpAny_Return_some (thn (he pins s σ H _ I h) fun v s1 ⟨x,H1,I1,r1,q1⟩=>⟨x,σ,H1,I1,r1,q1⟩)
def tIfS (c:TT) (t u:TS):TS:=fun D σ H=>c σ H fun b H1=>if b=true then t D σ H1 else u D σ H1
theorem ps_if {c:Expr} {a b:List Stmt} {tc:TT} (hc:PT X c tc) (ha:PSs X a t) (hb:PSs X b u):PS X (.If c a b pos) (tIfS tc t u):=by
 intro pins s σ H D I h
 refine wpAny_If (thn (hc pins s σ H _ I h) fun d s1 ⟨H1,I1,q1⟩=>?_)
 cases d with
 | true=>exact ha pins s1 σ H1 D I1 q1
 | false=>exact hb pins s1 σ H1 D I1 q1
def tNever:TS:=fun _ _ _=>False
theorem ps_never:PS X st tNever:=fun _ _ _ _ _ _ h=>h.elim
end
abbrev TG:=V->St->Hp->(St->Hp->Prop)->Prop
abbrev TGs:=List V->St->Hp->(St->Hp->Prop)->Prop
def PG (X:Cx) (target:Expr) (t:TG):Prop:=
 ∀ (pins:List (Addr × Obj)) (s:Shared) (σ : St) (H:Hp) (v:V) (u:Value) (Q:St->Hp->Prop),Inv X pins σ H s->RelV v u->t v σ H Q ->
   wpAny (model X.prog X.w) X.A (assign target X.env u) (fun _ s'=>∃ σ' H',Inv X pins σ' H' s'/\Q σ' H') X.xe s
def PGs (X:Cx) (ts:List Expr) (t:TGs):Prop:=
 ∀ (pins:List (Addr × Obj)) (s:Shared) (σ : St) (H:Hp) (vs:List V) (us:List Value) (Q:St->Hp->Prop),Inv X pins σ H s->Vals vs us->t vs σ H Q ->
   wpAny (model X.prog X.w) X.A (assignInOrder ((assignEach ts X.env).map (·.2)) us) (fun _ s'=>∃ σ' H',Inv X pins σ' H' s'/\Q σ' H') X.xe s
abbrev TSet:=V->V->V->Hp->(Hp->Prop)->Prop
def PSet (X:Cx) (t:TSet):Prop:=
 ∀ (pins:List (Addr × Obj)) (s:Shared) (σ : St) (H:Hp) (o i v:V) (ov iv u:Value) (Q:Hp->Prop),Inv X pins σ H s->RelV o ov->RelV i iv->RelV v u->t o i v H Q ->
   wpAny (model X.prog X.w) X.A (setItem ov iv u) (fun _ s'=>∃H',Inv X pins σ H' s'/\Q H') X.xe s
section
variable {X:Cx} {pos:Pos}
def gName (i:Nat):TG:=fun v σ H Q=>Q (σ.set i (some v)) H
theorem pg_name {i:Nat} {x:Str} (hN:X.N.Nodup) (hi:X.N[i]? = some x) (hx:Loc X.env.scope x) (hf:X.fn x=true \/ X.env.scope.names.lookup x=some .local:=by first | exact .inl rfl | exact .inr rfl | assumption):PG X (.Name x pos) (gName i):=by
 intro pins s σ H v u Q I r h
 exact wpAny_assign_Name (store_ok I hN hi hx r (fun s' I'=>⟨_,H,I',h⟩) hf)
def gNil:TGs:=fun vs σ H Q=>vs=[]/\Q σ H
inductive IgCons (t:TG) (u:TGs) (vs:List V) (σ : St) (H:Hp) (Q:St->Hp->Prop):Prop
  | mk (v:_) (r:_) (h0:vs=v::r) (h1:t v σ H fun σ' H'=>u r σ' H' Q):IgCons t u vs σ H Q
def gCons (t:TG) (u:TGs):TGs:=fun vs σ H Q=>IgCons t u vs σ H Q
theorem pgs_nil:PGs X [] gNil:=by
 intro pins s σ H vs us Q I r h
 obtain⟨e,h⟩:=h
 subst e
 cases r
 exact assignInOrder_nil ⟨σ,H,I,h⟩
theorem pgs_cons {e:Expr} {es:List Expr} {t:TG} {u:TGs} (h1:PG X e t) (h2:PGs X es u)
    (hs:(assignEach (e::es) X.env).map (·.2)=assign e X.env::(assignEach es X.env).map (·.2):=by rfl):PGs X (e::es) (gCons t u):=by
  intro pins s σ H vs us Q I r h
  obtain⟨v,vr,e1,h⟩:=h
  subst e1
  cases r with
  | cons r rr=>
    rw [hs]
    refine assignInOrder_cons (thn (h1 pins s σ H _ _ _ I r h) fun _ s1 ⟨σ1,H1,I1,q1⟩=>?_)
    exact h2 pins s1 σ1 H1 _ _ Q I1 rr q1
inductive IgTup (K:PySem.W.Frag) (n:Nat) (t:TGs) (v:V) (σ : St) (H:Hp) (Q:St->Hp->Prop):Prop
  | mk (a:_) (xs:_) (h0:v = .ref a) (h1:SqT K H a xs) (h2:xs.length=n) (h3:t xs σ H Q):IgTup K n t v σ H Q
def gTup (K:PySem.W.Frag) (n:Nat) (t:TGs):TG:=fun v σ H Q=>IgTup K n t v σ H Q
theorem pg_tup {es:List Expr} {k:Nat} {t:TGs} {n:Nat} (hc:X.calm=true) (h:PGs X es t)
    (hn:(assignEach es X.env).length=n:=by rfl) (hst:(assignEach es X.env).findIdx? (·.1)=none:=by rfl):PG X (.Tuple es k pos) (gTup X.K n t):=by
  intro pins s σ H v u Q I r hw
  obtain⟨a,xs,e1,hq,hl,hw⟩:=hw
  subst e1
  cases r
  obtain⟨its,rv,ht,hz⟩:=I.tuple hq
  refine assign_Tuple_tuple (I.ok.hd hc) ht (by simp [hn,<- hl,rv.length]) hst fun h' hx=>?_
  have I1:Inv X pins σ H { s with heap:=h' }:=I.kept (t':=s.toks) fun b o e=>hx b o (Nat.ne_of_lt (Heap.lt_size e)) e
  exact h pins _ σ H xs _ Q I1 (by simpa using rv) hw
def gSub (to ti:TE) (t:TSet):TG:=fun v σ H Q=>to σ H fun o H1=>ti σ H1 fun i H2=>t o i v H2 fun H3=>Q σ H3
theorem pg_sub {o i:Expr} {to ti:TE} {t:TSet} (ho:PE X o to) (hi:PE X i ti) (hs:PSet X t)
    (ha:∀v,assign (.Subscript o i pos) X.env v=(do
     let ov <- holding [v] (eval o X.env)
     let iv <- holding [v,ov] (eval i X.env)
     standAt pos
     holding [v,ov,iv] (setItem ov iv v)
     release [v,ov,iv] []):=by intro _; rfl):PG X (.Subscript o i pos) (gSub to ti t):=by
  intro pins s σ H v u Q I r h
  rw [ha]
  refine wpAny_bind (wpAny_holding (thn (ho pins s σ H _ I h) fun ov s1 ⟨x,H1,I1,r1,q1⟩=>?_))
  refine wpAny_bind (wpAny_holding (thn (hi pins s1 σ H1 _ I1 q1) fun iv s2 ⟨y,H2,I2,r2,q2⟩=>?_))
  refine wpAny_bind (wpAny_standAt (wpAny_bind (wpAny_holding (thn (hs pins s2 σ H2 x y v ov iv u _ I2 r1 r2 r q2) fun _ s3 ⟨H3,I3,q3⟩=>?_))))
  exact wpAny_release ⟨σ,H3,I3,q3⟩
def tAsg (te:TE) (g:TG):TS:=fun D σ H=>te σ H fun x H1=>g x σ H1 D.nx
theorem ps_asg {tg e:Expr} {te:TE} {g:TG} (he:PE X e te) (hg:PG X tg g) (hs:swapsWithSole [tg] e pos.line X.env=pure false:=by rfl) (hw:swappedStores [tg] e X.env=pure none:=by rfl)
    (h1:(assignEach [tg] X.env).map (·.2)=[assign tg X.env]:=by rfl):PS X (.Assign [tg] e pos) (tAsg te g):=by
  intro pins s σ H D I h
  refine wpAny_Assign_stores (thn (he pins s σ H _ I h) fun v s1 ⟨x,H1,I1,r1,q1⟩=>?_) hs hw
  rw [h1]
  exact thn (hg pins s1 σ H1 x v _ I1 r1 q1) fun _ s2 q=>q
theorem ps_set {i:Nat} {x:Str} {e:Expr} {te:TE} {pos':Pos} (hN:X.N.Nodup) (hi:X.N[i]? = some x) (hx:Loc X.env.scope x) (he:PE X e te) (hs:swapsWith e (some (.Name x pos')) pos.line X.env=pure false:=by rfl) (hf:X.fn x=true \/ X.env.scope.names.lookup x=some .local:=by first | exact .inl rfl | exact .inr rfl | assumption) :
    PS X (.Assign [.Name x pos'] e pos) (tAsg te (gName i)):=by
  intro pins s σ H D I h
  refine wpAny_Assign_Name (thn (he pins s σ H _ I h) fun v s1 ⟨y,H1,I1,r1,q1⟩=>?_) hs
  exact store_ok I1 hN hi hx r1 (fun s2 I2=>⟨_,H1,I2,q1⟩) hf
end
section
variable {X:Cx} {pos:Pos}
def tWhile (c:TT) (tb:TS):TS:=fun D σ H=>∃W:Nat->St->Hp->Prop,(∃m,W m σ H) /\ ∀m σ H,W m σ H ->
  c σ H fun b H1=>if b=true then ∃N:St->Hp->Prop,(∀ σ' H',N σ' H' -> ∃m',m'<m/\W m' σ' H')/\tb { D with nx:=N,ct:=N,bk:=D.nx } σ H1 else D.nx σ H1
theorem ps_while {c:Expr} {body:List Stmt} {tc:TT} {tb:TS} (hp:PassesOwn (model X.prog X.w) X.A X.env X.xe) (hc:PT X c tc) (hb:PSs X body tb):PS X (.While c body [] pos) (tWhile tc tb):=by
 intro pins s σ H D I h
 obtain⟨W,⟨m0,w0⟩,turn⟩:=h
 refine wpAny_While (codeAny_whileLoop (fun n s'=>∃ σ' H',Inv X pins σ' H' s'/\W n σ' H') ?_ m0 ⟨σ,H,I,w0⟩)
 rintro n s1 ⟨σ1,H1,I1,w1⟩
 refine wpAny_passesOwn hp (thn (hc pins s1 σ1 H1 _ I1 (turn n σ1 H1 w1)) fun b s2 ⟨H2,I2,q2⟩=>?_)
 cases b with
 | true=>
   obtain⟨N,hN,q2⟩:=q2
   rw [if_pos rfl]
   refine wpAny_passesOwn hp (thn (hb pins s2 σ1 H2 _ I2 q2) fun f s3 q3=>?_)
   cases f with
   | next=>
     obtain⟨σ3,H3,I3,n3⟩:=q3
     obtain⟨m',hm,w3⟩:=hN σ3 H3 n3
     exact⟨m',hm,σ3,H3,I3,w3⟩
   | cont=>
     obtain⟨σ3,H3,I3,n3⟩:=q3
     obtain⟨m',hm,w3⟩:=hN σ3 H3 n3
     exact⟨m',hm,σ3,H3,I3,w3⟩
   | brk=>exact q3
   | ret v=>exact q3
 | false=>
   rw [if_neg Bool.false_ne_true]
   exact wpAny_execs_nil ⟨σ1,H2,I2,q2⟩
end
structure It where
 go:Nat->Hp->Prop
 yld:Nat->Hp->V->Hp->Prop
 stop:Nat->Hp->Prop
def FpOk (X:Cx) (pins:List (Addr × Obj)) (H:Hp) (b:Addr):Prop:=
 H b=none/\b≠X.env.locals/\b ∉ X.fs/\(b∈X.ex \/ X.s₀.heap.objs.size<=b)/\(∀x c,X.env.cells.lookup x=some c->c≠b) /\ ∀p∈X.pn++pins,p.1≠b
theorem Inv.fpOk {X:Cx} {pins:List (Addr × Obj)} {σ : St} {H H':Hp} {s:Shared} {b:Addr} (I:Inv X pins σ H s) (hb:s.heap.objs.size<=b) (hn:H' b=none):FpOk X pins H' b:=by
 refine⟨hn,Nat.ne_of_gt (Nat.lt_of_lt_of_le I.lt hb),I.nofs hb,.inr (Nat.le_trans I.sz hb),fun x c e z=>?_,fun p hp z=>?_⟩
 · obtain⟨v,q⟩:=I.cell x c e
   exact absurd (Nat.lt_of_lt_of_le q.lt (by rw [z]; exact hb)) (Nat.lt_irrefl _)
 · exact absurd (Nat.lt_of_lt_of_le (Heap.lt_size (I.pin p hp).1) (by rw [z]; exact hb)) (Nat.lt_irrefl _)
structure Turn (P:Program) (w:World) (K:PySem.W.Frag) (tg:Expr) (J:It) (fp:List Addr) (it:Addr) (tn:Nat->Heap->Prop):Prop where
 mem:it∈fp
 obj:∀i h,tn i h -> ∀b∈fp,∃o,h.get? b=some o /\ ∀v,o.data ≠ .cell v
 keep:∀i h h',tn i h->(∀b∈fp,∀o,h.get? b=some o->h'.get? b=some o)->tn i h'
 item:∀(X:Cx),X.prog=P->X.w=w->X.K=K->X.calm=true -> ∀(i:Nat) (pins:List (Addr × Obj)) (s:Shared) (σ : St) (H:Hp) (E:Value->Shared->Prop),Inv X pins σ H s->(∀b∈fp,FpOk X pins H b)->tn i s.heap->J.go i H ->
   wpAny (model P w) X.A (pyNext (.ref it)) (fun r s1=>∃u,r=some u /\
     wpAny (model P w) X.A (letOwnedTupleGo tg (.ref it) u) (fun _ s2=>∃x H',Inv X pins σ H' s2/\RelV x u/\J.yld i H x H'/\tn (i+1) s2.heap /\ ∀b∈fp,H' b=none) E s1) E s
 done:∀(X:Cx),X.prog=P->X.w=w->X.K=K->X.calm=true -> ∀(i:Nat) (pins:List (Addr × Obj)) (s:Shared) (σ : St) (H:Hp) (E:Value->Shared->Prop),Inv X pins σ H s->(∀b∈fp,FpOk X pins H b)->tn i s.heap->J.stop i H ->
   wpAny (model P w) X.A (pyNext (.ref it)) (fun r s1=>r=none/\Inv X pins σ H s1) E s
 self:∀(A:Around) (i:Nat) (s:Shared) (Q:Value->Shared->Prop) (E:Value->Shared->Prop),tn i s.heap->Q (.ref it) s->wpAny (model P w) A (pyIter (.ref it)) Q E s
abbrev TI:=St->Hp->(It->Hp->Prop)->Prop
def PIE (X:Cx) (pins:List (Addr × Obj)) (σ : St) (tg:Expr) (R:It->Hp->Prop) (itv:Value) (s2:Shared):Prop:=
 ∃(it:Addr) (fp:List Addr) (tn:Nat->Heap->Prop) (J:It) (H':Hp),itv = .ref it/\Inv X pins σ H' s2/\Turn X.prog X.w X.K tg J fp it tn/\tn 0 s2.heap/\(∀b∈fp,FpOk X pins H' b)/\R J H'
def PI (X:Cx) (tg iter:Expr) (wi:TI):Prop:=
 ∀ (pins:List (Addr × Obj)) (s:Shared) (σ : St) (H:Hp) (R:It->Hp->Prop),Inv X pins σ H s->wi σ H R ->
   wpAny (model X.prog X.w) X.A (eval iter X.env) (fun v s1=>wpAny (model X.prog X.w) X.A (pyIter v) (PIE X pins σ tg R) X.xe s1) X.xe s
theorem go_of {M:Model} {A:Around} {E:Value->Shared->Prop} {s:Shared} {tg:Expr} {it:Addr} {u:Value} {o:Obj} {n:String} {vs:Array Value} {Q:Unit->Shared->Prop} (ho:s.heap.get? it=some o) (hc:o.cls = .type n) (hd:o.data = .fields vs)
    (hn:["enumerate","zip","dict_itemiterator","dict_reverseitemiterator","odict_iterator","itertools.zip_longest","itertools.pairwise"].contains n=false) (hQ:Q () s):wpAny M A (letOwnedTupleGo tg (.ref it) u) Q E s:=by
  unfold letOwnedTupleGo
  cases tg <;> first
    | exact wpAny_pure hQ
    | (cases u <;> first
        | exact wpAny_pure hQ
        | (refine wpAny_bind (wpAny_load ho ?_)
           rw [hc,hd]
           show wpAny M A (if (["enumerate","zip","dict_itemiterator","dict_reverseitemiterator","odict_iterator","itertools.zip_longest","itertools.pairwise"].contains n && vs[0]? == some (rawInt _))=true then _ else _) Q E s
           rw [if_neg (by intro h; rw [hn,Bool.false_and] at h; cases h)]
           exact wpAny_pure hQ))
def Itl (K:PySem.W.Frag) (a:Addr):It:=
 ⟨fun i H=>∃xs x,SqL K H a xs/\xs[i]? = some x,fun i H x H'=>H'=H /\ ∀xs,SqL K H a xs->xs[i]? = some x,fun i H=>∃xs,SqL K H a xs/\xs.length<=i⟩
def Itt (K:PySem.W.Frag) (a:Addr):It:=
 ⟨fun i H=>∃xs x,SqT K H a xs/\xs[i]? = some x,fun i H x H'=>H'=H /\ ∀xs,SqT K H a xs->xs[i]? = some x,fun i H=>∃xs,SqT K H a xs/\xs.length<=i⟩
def Itr (lo:Int) (n:Nat):It:=⟨fun i _=>i<n,fun i H x H'=>H'=H/\x = .int (lo+i),fun i _=>n<=i⟩
theorem turn_list {P:Program} {w:World} {K:PySem.W.Frag} {tg:Expr} (a it:Addr):Turn P w K tg (Itl K a) [it] it (fun i h=>h.IsListIter it a i) where
 mem:=by simp
 obj:=fun i h st b hb=>by
  have e:b=it:=by simpa using hb
  subst e
  obtain⟨o,e,c,d⟩:=st
  exact⟨o,e,fun v z=>by rw [d] at z; cases z⟩
 keep:=fun i h h' st k=>st.at fun o e=>k it (by simp) o e
 item:=by
  intro X hP hw hK hc i pins s σ H E I hf st hg
  subst hP hw hK
  obtain⟨xs,x,hq,hx⟩:=hg
  obtain⟨its,rv,p,hz⟩:=I.list hq
  obtain⟨u,hu,ru⟩:=rv.get hx
  obtain⟨f0,f1,f2,f3,f4,f5⟩:=hf it (by simp)
  refine wpAny_pyNext_list_item st p.isList (x:=u) (by simpa using hu) fun h' st' sb=>?_
  have I1:Inv X pins σ H { s with heap:=h' }:=I.turned (t':=s.toks) (fun b o hb e=>(sb.2 b hb).trans e) f0 f1 f3 f4 f5
  obtain⟨o,e,c,d⟩:=id st'
  exact⟨u,rfl,go_of (s:={ s with heap:=h' }) e c d (by decide) ⟨x,H,I1,ru,⟨rfl,fun ys hy=>by rw [I.list_inj hy hq]; exact hx⟩,st',fun b hb=>(hf b hb).1⟩⟩
 done:=by
  intro X hP hw hK hc i pins s σ H E I hf st hg
  subst hP hw hK
  obtain⟨xs,hq,hx⟩:=hg
  obtain⟨its,rv,p,hz⟩:=I.list hq
  obtain⟨f0,f1,f2,f3,f4,f5⟩:=hf it (by simp)
  have hl:=rv.length
  exact wpAny_pyNext_list_end (I.ok.hd hc) st p.isList (by simp; omega) fun h' eb=>⟨rfl,I.turned (t':=s.toks) (fun b o hb e=>eb b o hb e) f0 f1 f3 f4 f5⟩
 self:=fun _ _ _ _ _ st h=>wpAny_pyIter_listiter st h
theorem turn_tuple {P:Program} {w:World} {K:PySem.W.Frag} {tg:Expr} (a it:Addr):Turn P w K tg (Itt K a) [it] it (fun i h=>h.IsTupleIter it a i) where
 mem:=by simp
 obj:=fun i h st b hb=>by
  have e:b=it:=by simpa using hb
  subst e
  obtain⟨o,e,c,d⟩:=st
  exact⟨o,e,fun v z=>by rw [d] at z; cases z⟩
 keep:=fun i h h' st k=>st.at fun o e=>k it (by simp) o e
 item:=by
  intro X hP hw hK hc i pins s σ H E I hf st hg
  subst hP hw hK
  obtain⟨xs,x,hq,hx⟩:=hg
  obtain⟨its,rv,p,hz⟩:=I.tuple hq
  obtain⟨u,hu,ru⟩:=rv.get hx
  obtain⟨f0,f1,f2,f3,f4,f5⟩:=hf it (by simp)
  refine wpAny_pyNext_tuple_item st (show s.heap.IsTuple a its.toArray from p) (x:=u) (by simpa using hu) fun h' st' sb=>?_
  have I1:Inv X pins σ H { s with heap:=h' }:=I.turned (t':=s.toks) (fun b o hb e=>(sb.2 b hb).trans e) f0 f1 f3 f4 f5
  obtain⟨o,e,c,d⟩:=id st'
  exact⟨u,rfl,go_of (s:={ s with heap:=h' }) e c d (by decide) ⟨x,H,I1,ru,⟨rfl,fun ys hy=>by rw [I.tuple_inj hy hq]; exact hx⟩,st',fun b hb=>(hf b hb).1⟩⟩
 done:=by
  intro X hP hw hK hc i pins s σ H E I hf st hg
  subst hP hw hK
  obtain⟨xs,hq,hx⟩:=hg
  obtain⟨its,rv,p,hz⟩:=I.tuple hq
  obtain⟨f0,f1,f2,f3,f4,f5⟩:=hf it (by simp)
  have hl:=rv.length
  exact wpAny_pyNext_tuple_end (I.ok.hd hc) st (show s.heap.IsTuple a its.toArray from p) (by simp; omega) fun h' eb=>⟨rfl,I.turned (t':=s.toks) (fun b o hb e=>eb b o hb e) f0 f1 f3 f4 f5⟩
 self:=fun _ _ _ _ _ st h=>wpAny_pyIter_tupleiter st h
theorem turn_range {P:Program} {w:World} {K:PySem.W.Frag} {tg:Expr} (it:Addr) (lo:Int) (n:Nat):Turn P w K tg (Itr lo n) [it] it (fun i h=>IsRangeIter h it (lo+(i:Nat)*1) ((n:Int)-(i:Nat)) 1) where
 mem:=by simp
 obj:=fun i h st b hb=>by
  have e:b=it:=by simpa using hb
  subst e
  exact ⟨_,st,fun v z=>by
   have z':Data.fields _=Data.cell v:=z
   cases z'⟩
 keep:=fun i h h' st k=>k it (by simp) _ st
 item:=by
  intro X hP hw hK hc i pins s σ H E I hf st hg
  subst hP hw hK
  obtain⟨f0,f1,f2,f3,f4,f5⟩:=hf it (by simp)
  have W:=Walks.range (prog:=X.prog) (w:=X.w) (I.ok.hd hc) it lo 1 n
  refine W.item i s _ _ hg st fun v h' tk hv st' kk=>?_
  obtain⟨t,rfl⟩:=hv
  have I1:Inv X pins σ H { s with heap:=h',toks:=tk }:=I.turned (fun b o hb e=>kk b o (by simpa using hb) e) f0 f1 f3 f4 f5
  refine⟨_,rfl,go_of (s:={ s with heap:=h',toks:=tk }) (n:="range_iterator") st' rfl rfl (by decide) ⟨.int (lo+i),H,I1,⟨t,?_⟩,⟨rfl,rfl⟩,st',fun b hb=>(hf b hb).1⟩⟩
  rw [Int.mul_one]
 done:=by
  intro X hP hw hK hc i pins s σ H E I hf st hg
  subst hP hw hK
  obtain⟨f0,f1,f2,f3,f4,f5⟩:=hf it (by simp)
  exact wpAny_pyNext_range_end (I.ok.hd hc) st (by have:n<=i:=hg; omega) fun h' eb=>⟨rfl,I.turned (t':=s.toks) (fun b o hb e=>eb b o hb e) f0 f1 f3 f4 f5⟩
 self:=fun _ _ _ _ _ st h=>wpAny_pyIter_rangeiter st h
end L2
namespace L2
open PySem PySem.Spec PyProof.Rows
section
variable {X:Cx} {tg:Expr}
inductive IiList (K:PySem.W.Frag) (R:It->Hp->Prop) (x:V) (H1:Hp):Prop
  | mk (a:_) (h0:x = .ref a) (h1:(∃xs,SqL K H1 a xs)) (h2:R (Itl K a) H1):IiList K R x H1
def iList (K:PySem.W.Frag) (tl:TE):TI:=fun σ H R=>tl σ H fun x H1=>IiList K R x H1
inductive IiTup (K:PySem.W.Frag) (R:It->Hp->Prop) (x:V) (H1:Hp):Prop
  | mk (a:_) (h0:x = .ref a) (h1:(∃xs,SqT K H1 a xs)) (h2:R (Itt K a) H1):IiTup K R x H1
def iTup (K:PySem.W.Frag) (tl:TE):TI:=fun σ H R=>tl σ H fun x H1=>IiTup K R x H1
theorem pi_list {l:Expr} {tl:TE} (hl:PE X l tl):PI X tg l (iList X.K tl):=by
 intro pins s σ H R I h
 refine thn (hl pins s σ H _ I h) fun v s1 ⟨x,H1,I1,r1,q1⟩=>?_
 obtain⟨a,e,⟨xs,hq⟩,q⟩:=q1
 subst e
 cases r1
 obtain⟨its,rv,p,hz⟩:=I1.list hq
 refine wpAny_pyIter_list p.isList ?_
 refine⟨s1.heap.objs.size,[s1.heap.objs.size],_,_,H1,rfl,I1.kept (t':=s1.toks) fun b o e=>Heap.get?_push_of_some _ e,turn_list a _,⟨_,Heap.get?_push_size _ rfl,rfl,rfl⟩,fun b hb=>?_,q⟩
 have e:b=s1.heap.objs.size:=by simpa using hb
 subst e
 exact I1.fpOk (Nat.le_refl _) (I1.hok.fresh (Nat.le_refl _))
theorem pi_tup {l:Expr} {tl:TE} (hl:PE X l tl):PI X tg l (iTup X.K tl):=by
 intro pins s σ H R I h
 refine thn (hl pins s σ H _ I h) fun v s1 ⟨x,H1,I1,r1,q1⟩=>?_
 obtain⟨a,e,⟨xs,hq⟩,q⟩:=q1
 subst e
 cases r1
 obtain⟨its,rv,p,hz⟩:=I1.tuple hq
 refine wpAny_pyIter_tuple (show s1.heap.IsTuple a its.toArray from p) ?_
 refine⟨s1.heap.objs.size,[s1.heap.objs.size],_,_,H1,rfl,I1.kept (t':=s1.toks) fun b o e=>Heap.get?_push_of_some _ e,turn_tuple a _,⟨_,Heap.get?_push_size _ rfl,rfl,rfl⟩,fun b hb=>?_,q⟩
 have e:b=s1.heap.objs.size:=by simpa using hb
 subst e
 exact I1.fpOk (Nat.le_refl _) (I1.hok.fresh (Nat.le_refl _))
theorem range_it {pins:List (Addr × Obj)} {σ : St} {H:Hp} {s:Shared} {R:It->Hp->Prop} {E:Value->Shared->Prop} {lo hi:Int} {t u v:Tok} {tk:Nat} (I:Inv X pins σ H s) (h1 : -(2^62)<=lo) (h2:lo<2^62) (h3 : -(2^62)<=hi) (h4:hi<2^62)
    (q:R (Itr lo (hi-lo).toNat) H):wpAny (model X.prog X.w) X.A (pyIter (.ref s.heap.objs.size)) (PIE X pins σ tg R) E { s with heap:=s.heap.push { cls:=.type "range",data:=.fields #[.int lo t,.int hi u,.int 1 v] },toks:=tk }:=by
  refine wpAny_pyIter_range (IsRange.new ..) (small_one h1 h2 h3 h4) ?_
  have I1:Inv X pins σ H { s with heap:=s.heap.push { cls:=.type "range",data:=.fields #[.int lo t,.int hi u,.int 1 v] },toks:=tk }:=I.kept fun b o e=>Heap.get?_push_of_some _ e
  refine ⟨(s.heap.push { cls:=.type "range",data:=.fields #[.int lo t,.int hi u,.int 1 v] }).objs.size,[(s.heap.push { cls:=.type "range",data:=.fields #[.int lo t,.int hi u,.int 1 v] }).objs.size],_,_,H,rfl,
    I1.kept (t':=tk) fun b o e=>Heap.get?_push_of_some _ e,turn_range _ lo (hi-lo).toNat,?_,fun b hb=>?_,q⟩
  · have e1:lo+((0:Nat):Int)*1=lo:=by simp
    have e2:(((hi-lo).toNat:Nat):Int)-((0:Nat):Int)=Builtin.Range.rangeSize lo hi 1:=by rw [rangeSize_one]; split <;> omega
    show IsRangeIter _ _ (lo+((0:Nat):Int)*1) ((((hi-lo).toNat:Nat):Int)-((0:Nat):Int)) 1
    rw [e1,e2]
    exact Heap.get?_push_size _ rfl
  · have e:b=(s.heap.push { cls:=.type "range",data:=.fields #[.int lo t,.int hi u,.int 1 v] }).objs.size:=by simpa using hb
    subst e
    exact I1.fpOk (Nat.le_refl _) (I1.hok.fresh (Nat.le_refl _))
inductive IiRng1 (R:It->Hp->Prop) (vs:List V) (H1:Hp):Prop
  | mk (j:Int) (h0:vs=[.int j]) (h1 : -(2^62)<=j) (h2:j<2^62) (h3:R (Itr 0 j.toNat) H1):IiRng1 R vs H1
def iRng1 (ta:TA):TI:=fun σ H R=>ta σ H fun vs H1=>IiRng1 R vs H1
theorem pi_range1 {a:Expr} {ta:TA} {p pos:Pos} (hg:Gl X "range") (hm:X.mg "range" = none) (ha:PA X [a] ta) (hs:starEach [a] X.env=[(false,eval a X.env)]:=by rfl):PI X tg (.Call (.Name "range" p) [a] [] pos) (iRng1 ta):=by
 intro pins s σ H R I h
 refine Call_ (ld_blt I hg hm boot_range (PyProof.Rows.callWith_type1 (thn (ha pos pins s σ H _ I h) fun us s1 ⟨vs,H1,I1,r1,q1⟩=>?_) hs rfl))
 obtain⟨j,e,q1,q2,q⟩:=q1
 subst e
 cases r1 with
 | cons r rr=>
   cases rr
   obtain⟨t,rfl⟩:=r
   exact call_range_1 (range_it I1 (by omega) (by omega) q1 q2 (by simpa using q))
def tFor (wi:TI) (g:TG) (tb:TS):TS:=fun D σ H=>wi σ H fun J H1=>∃W:Nat->Nat->St->Hp->Prop,(∃m,W 0 m σ H1) /\ ∀i m σ H,W i m σ H ->
  (J.stop i H/\D.nx σ H) \/ (J.go i H /\ ∃N:St->Hp->Prop,(∀ σ' H',N σ' H' -> ∃m',m'<m/\W (i+1) m' σ' H') /\ ∀x H',J.yld i H x H'->g x σ H' fun σ2 H2=>tb { D with nx:=N,ct:=N,bk:=D.nx } σ2 H2)
def pinsAt (fp:List Addr) (h:Heap):List (Addr × Obj):=fp.filterMap fun b=>(h.get? b).map fun o=>(b,o)
theorem mem_pinsAt {fp:List Addr} {h:Heap} {b:Addr} {o:Obj} (hb:b∈fp) (e:h.get? b=some o):(b,o)∈pinsAt fp h:=List.mem_filterMap.mpr ⟨b,hb,by rw [e]; rfl⟩
theorem of_pinsAt {fp:List Addr} {h:Heap} {p:Addr × Obj} (hp:p∈pinsAt fp h):p.1∈fp/\h.get? p.1=some p.2:=by
 obtain⟨b,hb,e⟩:=List.mem_filterMap.mp hp
 cases q:h.get? b with
 | none=>rw [q] at e; cases e
 | some o=>
   rw [q] at e
   have e':(b,o)=p:=Option.some.inj e
   subst e'
   exact⟨hb,q⟩
theorem Inv.pinned {pins:List (Addr × Obj)} {σ : St} {H:Hp} {s:Shared} {fp:List Addr} (I:Inv X pins σ H s) (hf:∀b∈fp,FpOk X pins H b) (ho:∀b∈fp,∃o,s.heap.get? b=some o /\ ∀v,o.data ≠ .cell v):Inv X (pins++pinsAt fp s.heap) σ H s:=
 I.pins_of fun p hp=>(List.mem_append.mp hp).elim (fun z=>I.pin p (List.mem_append_right _ z)) fun z=>by
  obtain⟨hb,e⟩:=of_pinsAt z
  obtain⟨f0,f1,f2,_⟩:=hf p.1 hb
  obtain⟨o,e',d⟩:=ho p.1 hb
  rw [e] at e'; cases e'
  exact⟨e,f0,f1,f2,d⟩
theorem Inv.unpinned {pins pl:List (Addr × Obj)} {σ : St} {H:Hp} {s:Shared} (I:Inv X (pins++pl) σ H s):Inv X pins σ H s:=I.pins_of fun p hp=>I.pin p (List.mem_append_right _ (List.mem_append_left _ hp))
theorem ps_for {iter:Expr} {body:List Stmt} {wi:TI} {g:TG} {tb:TS} {pos:Pos} (hp:PassesOwn (model X.prog X.w) X.A X.env X.xe) (hc:X.calm=true) (hi:PI X tg iter wi) (hg:PG X tg g) (hb:PSs X body tb)
    (hs:∀x,foldedSetIterable iter X.env x=pure x:=by intro _; rfl):PS X (.For tg iter body [] pos) (tFor wi g tb):=by
  intro pins s σ H D I h
  refine wpAny_For (thn (hi pins s σ H _ I h) fun v s1 h1=>thn h1 fun itv s2 h2=>?_) hs
  obtain⟨it,fp,tn,J,H2,e,I2,T,st2,f2,W,⟨m0,w0⟩,turn⟩:=h2
  subst e
  have stat:∀ {H':Hp},(∀b∈fp,H' b=none) -> ∀b∈fp,FpOk X pins H' b:=fun hn b hb=>⟨hn b hb,(f2 b hb).2⟩
  refine codeAny_forLoop_any (fun n s'=>∃i σ' H',Inv X pins σ' H' s'/\tn i s'.heap/\(∀b∈fp,H' b=none)/\W i n σ' H') ?_ m0 ⟨0,σ,H2,I2,st2,fun b hb=>(f2 b hb).1,w0⟩
  rintro n s3 ⟨i,σ3,H3,I3,st3,fr3,w3⟩
  rcases turn i n σ3 H3 w3 with ⟨stop,qn⟩ | ⟨go,N,hN,step⟩
  · refine wpAny_passesOwn hp (thn (T.done X rfl rfl rfl hc i pins s3 σ3 H3 X.xe I3 (stat fr3) st3 stop) fun r s4 ⟨hr,I4⟩=>?_)
    subst hr
    exact wpAny_execs_nil ⟨σ3,H3,I4,qn⟩
  · refine wpAny_passesOwn hp (thn (T.item X rfl rfl rfl hc i pins s3 σ3 H3 X.xe I3 (stat fr3) st3 go) fun r s4 ⟨u,hr,h4⟩=>?_)
    subst hr
    refine wpAny_passesOwn hp (thn h4 fun _ s5 ⟨x,H5,I5,r5,y5,st5,fr5⟩=>?_)
    have I5':=I5.pinned (stat fr5) (T.obj _ _ st5)
    refine wpAny_passesOwn hp (thn (hg _ s5 σ3 H5 x u _ I5' r5 (step x H5 y5)) fun _ s6 ⟨σ6,H6,I6,q6⟩=>?_)
    refine wpAny_passesOwn hp (thn (hb _ s6 σ6 H6 _ I6 q6) fun f s7 q7=>?_)
    have again:∀ {σ7:St} {H7:Hp},Inv X (pins++pinsAt fp s5.heap) σ7 H7 s7->N σ7 H7 -> ∃m,m<n /\ ∃i σ' H',Inv X pins σ' H' s7/\tn i s7.heap/\(∀b∈fp,H' b=none)/\W i m σ' H':=fun {σ7 H7} I7 n7=>by
     obtain⟨m',hm,w7⟩:=hN σ7 H7 n7
     refine⟨m',hm,i+1,σ7,H7,I7.unpinned,T.keep _ _ _ st5 fun b hb o e=>(I7.pin (b,o) (List.mem_append_right _ (List.mem_append_right _ (mem_pinsAt hb e)))).1,fun b hb=>?_,w7⟩
     obtain⟨o,e,d⟩:=T.obj _ _ st5 b hb
     exact (I7.pin (b,o) (List.mem_append_right _ (List.mem_append_right _ (mem_pinsAt hb e)))).2.1
    cases f with
    | next=>obtain⟨σ7,H7,I7,n7⟩:=q7; exact again I7 n7
    | cont=>obtain⟨σ7,H7,I7,n7⟩:=q7; exact again I7 n7
    | brk=>obtain⟨σ7,H7,I7,q7⟩:=q7; exact⟨σ7,H7,I7.unpinned,q7⟩
    | ret v=>obtain⟨x7,σ7,H7,I7,r7,q7⟩:=q7; exact⟨x7,σ7,H7,I7.unpinned,r7,q7⟩
end
theorem for_list {K:PySem.W.Frag} {a:Addr} {xs:List V} {g:TG} {tb:TS} {D:Ends} {σ : St} {H:Hp} (Pv:Nat->St->Hp->Prop) (h0:Pv 0 σ H) (hl:∀i σ H,i<=xs.length->Pv i σ H->SqL K H a xs)
    (hs:∀i x σ H,xs[i]? = some x->Pv i σ H->g x σ H fun σ2 H2=>tb { D with nx:=Pv (i+1),ct:=Pv (i+1),bk:=D.nx } σ2 H2) (hd:∀ σ H,Pv xs.length σ H->D.nx σ H) :
    ∃ W:Nat->Nat->St->Hp->Prop,(∃m,W 0 m σ H) /\ ∀i m σ H,W i m σ H ->
      ((Itl K a).stop i H/\D.nx σ H) \/ ((Itl K a).go i H /\ ∃N:St->Hp->Prop,(∀ σ' H',N σ' H' -> ∃m',m'<m/\W (i+1) m' σ' H') /\ ∀x H',(Itl K a).yld i H x H'->g x σ H' fun σ2 H2=>tb { D with nx:=N,ct:=N,bk:=D.nx } σ2 H2):=by
  refine⟨fun i m σ H=>m=xs.length-i/\i<=xs.length/\Pv i σ H,⟨xs.length,by simp,Nat.zero_le _,h0⟩,?_⟩
  rintro i m σ H ⟨rfl,hi,p⟩
  have q:=hl i σ H hi p
  by_cases hlt:i<xs.length
  · refine .inr ⟨⟨xs,xs[i],q,by simp [hlt]⟩,Pv (i+1),fun σ' H' p'=>⟨xs.length-(i+1),by omega,rfl,hlt,p'⟩,fun x H' y=>?_⟩
    obtain⟨e,y⟩:=y
    subst e
    exact hs i x σ _ (y xs q) p
  · have e:i=xs.length:=by omega
    subst e
    exact .inl ⟨⟨xs,q,Nat.le_refl _⟩,hd σ H p⟩
theorem for_range {lo:Int} {n:Nat} {g:TG} {tb:TS} {D:Ends} {σ : St} {H:Hp} (Pv:Nat->St->Hp->Prop) (h0:Pv 0 σ H)
    (hs:∀i σ H,i<n->Pv i σ H->g (.int (lo+i)) σ H fun σ2 H2=>tb { D with nx:=Pv (i+1),ct:=Pv (i+1),bk:=D.nx } σ2 H2) (hd:∀ σ H,Pv n σ H->D.nx σ H) :
    ∃ W:Nat->Nat->St->Hp->Prop,(∃m,W 0 m σ H) /\ ∀i m σ H,W i m σ H ->
      ((Itr lo n).stop i H/\D.nx σ H) \/ ((Itr lo n).go i H /\ ∃N:St->Hp->Prop,(∀ σ' H',N σ' H' -> ∃m',m'<m/\W (i+1) m' σ' H') /\ ∀x H',(Itr lo n).yld i H x H'->g x σ H' fun σ2 H2=>tb { D with nx:=N,ct:=N,bk:=D.nx } σ2 H2):=by
  refine⟨fun i m σ H=>m=n-i/\i<=n/\Pv i σ H,⟨n,by simp,Nat.zero_le _,h0⟩,?_⟩
  rintro i m σ H ⟨rfl,hi,p⟩
  by_cases hlt:i<n
  · refine .inr ⟨hlt,Pv (i+1),fun σ' H' p'=>⟨n-(i+1),by omega,rfl,hlt,p'⟩,fun x H' y=>?_⟩
    obtain⟨e,y⟩:=y
    subst e y
    exact hs i σ _ hlt p
  · have e:i=n:=by omega
    subst e
    exact .inl ⟨Nat.le_refl _,hd σ H p⟩
theorem while_by {c:TT} {tb:TS} {D:Ends} {σ : St} {H:Hp} (Pv:St->Hp->Prop) (μ : St->Hp->Nat) (h0:Pv σ H)
    (hs:∀ σ H,Pv σ H->c σ H fun b H1=>if b=true then tb { D with nx:=fun σ' H'=>Pv σ' H' /\ μ σ' H' < μ σ H,ct:=fun σ' H'=>Pv σ' H' /\ μ σ' H' < μ σ H,bk:=D.nx } σ H1 else D.nx σ H1)
    (mono:∀ σ H Q Q',(∀b H1,Q b H1->Q' b H1)->c σ H Q->c σ H Q'):tWhile c tb D σ H:=by
  refine⟨fun m σ H=>m = μ σ H/\Pv σ H,⟨_,rfl,h0⟩,?_⟩
  rintro m σ H ⟨rfl,p⟩
  refine mono σ H _ _ (fun b H1 q=>?_) (hs σ H p)
  cases b with
  | true=>exact⟨_,fun σ' H' ⟨p',l⟩=>⟨_,l,rfl,p'⟩,q⟩
  | false=>exact q
end L2
namespace L2
open PySem PySem.Spec PyProof.Rows
abbrev R2:=V->V->Hp->VK->Prop
def OpR (X:Cx) (f:Value->Value->Sem Value) (r:R2):Prop:=
 ∀ (pins:List (Addr × Obj)) (s:Shared) (σ : St) (H:Hp) (x y:V) (v u:Value) (Q:VK),Inv X pins σ H s->RelV x v->RelV y u->r x y H Q ->
   wpAny (model X.prog X.w) X.A (f v u) (EP X pins σ Q) X.xe s
def UnR (X:Cx) (f:Value->Sem Value) (r:V->Hp->VK->Prop):Prop:=
 ∀ (pins:List (Addr × Obj)) (s:Shared) (σ : St) (H:Hp) (x:V) (v:Value) (Q:VK),Inv X pins σ H s->RelV x v->r x H Q ->
   wpAny (model X.prog X.w) X.A (f v) (EP X pins σ Q) X.xe s
def CallR (X:Cx) (f:Value) (r:List V->Hp->VK->Prop):Prop:=
 ∀ (pins:List (Addr × Obj)) (s:Shared) (σ : St) (H:Hp) (xs:List V) (us:List Value) (Q:VK),Inv X pins σ H s->Vals xs us->r xs H Q ->
   wpAny (model X.prog X.w) X.A (call f us) (EP X pins σ Q) X.xe s
def TruR (X:Cx) (r:V->Hp->(Bool->Hp->Prop)->Prop):Prop:=
 ∀ (pins:List (Addr × Obj)) (s:Shared) (σ : St) (H:Hp) (x:V) (v:Value) (Q:Bool->Hp->Prop),Inv X pins σ H s->RelV x v->r x H Q ->
   wpAny (model X.prog X.w) X.A (truthy v) (TP X pins σ Q) X.xe s
def tOp (r:R2) (ta tb:TE):TE:=fun σ H Q=>ta σ H fun x H1=>tb σ H1 fun y H2=>r x y H2 Q
def tUn (r:V->Hp->VK->Prop) (ta:TE):TE:=fun σ H Q=>ta σ H fun x H1=>r x H1 Q
inductive IrI (C:Int->Int->Prop) (g:Int->Int->V) (x:V) (y:V) (H:Hp) (Q:VK):Prop
  | mk (i:_) (j:_) (h0:x = .int i) (h1:y = .int j) (h2:C i j) (h3:Q (g i j) H):IrI C g x y H Q
def rI (C:Int->Int->Prop) (g:Int->Int->V):R2:=fun x y H Q=>IrI C g x y H Q
inductive IrI0 (g:Int->Int->V) (x:V) (y:V) (H:Hp) (Q:VK):Prop
  | mk (i:_) (j:_) (h0:x = .int i) (h1:y = .int j) (h2:Q (g i j) H):IrI0 g x y H Q
def rI0 (g:Int->Int->V):R2:=fun x y H Q=>IrI0 g x y H Q
inductive IrU (g:Int->V) (x:V) (H:Hp) (Q:VK):Prop
  | mk (i:_) (h0:x = .int i) (h1:Q (g i) H):IrU g x H Q
def rU (g:Int->V):V->Hp->VK->Prop:=fun x H Q=>IrU g x H Q
section
variable {X:Cx} {a b c:Expr} {ta tb tc:TE} {pos:Pos}
theorem binT (ha:PE X a ta) (hb:PE X b tb) {pins:List (Addr × Obj)} {s:Shared} {σ : St} {H:Hp} {R:V->V->Hp->Prop} (I:Inv X pins σ H s)
    (h:ta σ H fun x H1=>tb σ H1 fun y H2=>R x y H2) {Q:Value->Shared->Prop} {f:Value->Value->Sem Value}
    (hf:∀v u s2 x y H2,Inv X pins σ H2 s2->RelV x v->RelV y u->R x y H2->wpAny (model X.prog X.w) X.A (f v u) Q X.xe s2) :
    wpAny (model X.prog X.w) X.A (eval a X.env) (fun v s₁=>wpAny (model X.prog X.w) X.A (eval b X.env) (fun u s₂=>wpAny (model X.prog X.w) X.A (f v u) Q X.xe s₂) X.xe s₁) X.xe s:=by
  refine thn (ha pins s σ H _ I h) fun v s1 ⟨x,H1,I1,r1,q1⟩=>?_
  refine thn (hb pins s1 σ H1 _ I1 q1) fun u s2 ⟨y,H2,I2,r2,q2⟩=>?_
  exact hf v u s2 x y H2 I2 r1 r2 q2
theorem pe_op {op:Operator} {r:R2} (ho:OpR X (binaryOp op) r) (ha:PE X a ta) (hb:PE X b tb):PE X (.BinOp a op b pos) (tOp r ta tb):=by
 intro pins s σ H Q I h
 exact wpAny_BinOp (binT ha hb I h fun v u s2 x y H2 I2 rx ry q=>ho pins s2 σ H2 x y v u Q I2 rx ry q)
theorem pe_un {op:UnaryOp} {r:V->Hp->VK->Prop} (ho:UnR X (unaryOp op) r) (ha:PE X a ta):PE X (.UnaryOp op a pos) (tUn r ta):=by
 intro pins s σ H Q I h
 exact UnaryOp_ (thn (ha pins s σ H _ I h) fun v s1 ⟨x,H1,I1,r1,q1⟩=>ho pins s1 σ H1 x v Q I1 r1 q1)
theorem opI {f:Value->Value->Sem Value} {C:Int->Int->Prop} {g:Int->Int->Int}
    (rule:∀(i j:Int) (t u:Tok) (s:Shared) (Q:Value->Shared->Prop) (E:Value->Shared->Prop),C i j->Q (.int (g i j) s.toks) { s with toks:=s.toks+1 } -> wpAny (model X.prog X.w) X.A (f (.int i t) (.int j u)) Q E s) :
    OpR X f (rI C fun i j=>.int (g i j)):=by
  intro pins s σ H x y v u Q I rx ry h
  obtain⟨i,j,rfl,rfl,hc,q⟩:=h
  obtain⟨t,rfl⟩:=rx
  obtain⟨t',rfl⟩:=ry
  exact rule i j t t' s _ _ hc ⟨.int (g i j),H,I.tok _,⟨_,rfl⟩,q⟩
theorem opI0 {f:Value->Value->Sem Value} {g:Int->Int->Int}
    (rule:∀(i j:Int) (t u:Tok) (s:Shared) (Q:Value->Shared->Prop) (E:Value->Shared->Prop),Q (.int (g i j) s.toks) { s with toks:=s.toks+1 } -> wpAny (model X.prog X.w) X.A (f (.int i t) (.int j u)) Q E s) :
    OpR X f (rI0 fun i j=>.int (g i j)):=by
  intro pins s σ H x y v u Q I rx ry h
  obtain⟨i,j,rfl,rfl,q⟩:=h
  obtain⟨t,rfl⟩:=rx
  obtain⟨t',rfl⟩:=ry
  exact rule i j t t' s _ _ ⟨.int (g i j),H,I.tok _,⟨_,rfl⟩,q⟩
theorem opB0 {f:Value->Value->Sem Value} {g:Int->Int->Bool}
    (rule:∀(i j:Int) (t u:Tok) (s:Shared) (Q:Value->Shared->Prop) (E:Value->Shared->Prop),Q (.bool (g i j)) s->wpAny (model X.prog X.w) X.A (f (.int i t) (.int j u)) Q E s) :
    OpR X f (rI0 fun i j=>.bl (g i j)):=by
  intro pins s σ H x y v u Q I rx ry h
  obtain⟨i,j,rfl,rfl,q⟩:=h
  obtain⟨t,rfl⟩:=rx
  obtain⟨t',rfl⟩:=ry
  exact rule i j t t' s _ _ ⟨.bl (g i j),H,I,rfl,q⟩
def CPow (i j:Int):Prop:=0<=j/\j<=1000000/\i.natAbs<2^64
theorem op_add:OpR X (binaryOp .Add) (rI0 fun i j=>.int (i+j)):=opI0 fun _ _ _ _ _ _ _ q=>add_int q
theorem op_sub:OpR X (binaryOp .Sub) (rI0 fun i j=>.int (i-j)):=opI0 fun _ _ _ _ _ _ _ q=>sub_int q
theorem op_mod:OpR X (binaryOp .Mod) (rI (fun _ j=>0<j) fun i j=>.int (i % j)):=opI fun i j _ _ _ _ _ hc q=>by
 have h1:(0:Int)<j:=hc
 exact mod_int' (by omega) (by rw [Int.fmod_eq_emod_of_nonneg i (by omega)]; exact q)
theorem op_pow:OpR X (binaryOp .Pow) (rI CPow fun i j=>.int (i^j.toNat)):=opI fun _ _ _ _ _ _ _ hc q=>pow_int_small hc.1 hc.2.1 hc.2.2 q
theorem unI {f:Value->Sem Value} {g:Int->Int}
    (rule:∀(i:Int) (t:Tok) (s:Shared) (Q:Value->Shared->Prop) (E:Value->Shared->Prop),Q (.int (g i) s.toks) { s with toks:=s.toks+1 } -> wpAny (model X.prog X.w) X.A (f (.int i t)) Q E s) :
    UnR X f (rU fun i=>.int (g i)):=by
  intro pins s σ H x v Q I rx h
  obtain⟨i,rfl,q⟩:=h
  obtain⟨t,rfl⟩:=rx
  exact rule i t s _ _ ⟨.int (g i),H,I.tok _,⟨_,rfl⟩,q⟩
theorem un_neg:UnR X (unaryOp .USub) (rU fun i=>.int (-i)):=unI fun _ _ _ _ _ q=>neg_int q
end
def scal:V->V->Bool
  | .non,.non=>true | .non,.int _=>true | .int _,.non=>true | .non,.bl _=>true | .bl _,.non=>true | .non,.str _=>true | .str _,.non=>true
  | .int _,.int _=>true | .bl _,.bl _=>true | .str _,.str _=>true | .byt _,.byt _=>true
  | .int _,.str _=>true | .str _,.int _=>true | .bl _,.str _=>true | .str _,.bl _=>true
  | _,_=>false
def rEq:R2:=fun x y H Q=>scal x y=true/\Q (.bl (decide (x=y))) H
def rNe:R2:=fun x y H Q=>scal x y=true/\Q (.bl (!decide (x=y))) H
theorem dec_int {i j:Int}:decide (V.int i=V.int j)=(i == j):=by
 rw [Bool.eq_iff_iff]
 simp
theorem dec_bl {i j:Bool}:decide (V.bl i=V.bl j)=(i == j):=by
 rw [Bool.eq_iff_iff]
 simp
theorem dec_str {i j:Str}:decide (V.str i=V.str j)=(i == j):=by
 rw [Bool.eq_iff_iff]
 simp
theorem dec_byt {i j:Array UInt8}:decide (V.byt i=V.byt j)=(i.toList == j.toList):=by
 rw [Bool.eq_iff_iff]
 cases i
 cases j
 simp
section
variable {X:Cx} {a b c:Expr} {ta tb tc:TE} {pos:Pos}
theorem fin_bl {pins:List (Addr × Obj)} {σ : St} {H:Hp} {s:Shared} {Q:VK} {k k':Bool} (I:Inv X pins σ H s) (q:Q (.bl k) H) (e:k=k'):EP X pins σ Q (.bool k') s:=by
 subst e
 exact⟨.bl k,H,I,rfl,q⟩
theorem op_eq:OpR X (compareOp .Eq) rEq:=by
 intro pins s σ H x y v u Q I rx ry h
 obtain⟨hs,q⟩:=h
 cases x with
 | non=>
   cases rx
   cases y with
   | non=>cases ry; exact PySem.EqNone.eq_none_none (fin_bl I q (by simp))
   | bl j=>cases ry; exact PySem.EqNone.eq_none_bool (fin_bl I q (by simp))
   | int j=>obtain⟨t',rfl⟩:=ry; exact PySem.EqNone.eq_none_int (fin_bl I q (by simp))
   | str j=>obtain⟨t',rfl⟩:=ry; exact PySem.EqNone.eq_none_str (fin_bl I q (by simp))
   | _=>exact absurd (show false=true from hs) Bool.false_ne_true
 | bl i=>
   cases rx
   cases y with
   | non=>cases ry; exact PySem.EqNone.eq_bool_none (fin_bl I q (by simp))
   | bl j=>cases ry; exact eq_bool (fin_bl I q dec_bl)
   | str j=>obtain⟨t',rfl⟩:=ry; exact PySem.EqMixed.eq_bool_str (fin_bl I q (by simp))
   | _=>exact absurd (show false=true from hs) Bool.false_ne_true
 | int i=>
   obtain⟨t,rfl⟩:=rx
   cases y with
   | non=>cases ry; exact PySem.EqNone.eq_int_none (fin_bl I q (by simp))
   | int j=>obtain⟨t',rfl⟩:=ry; exact eq_int (fin_bl I q dec_int)
   | str j=>obtain⟨t',rfl⟩:=ry; exact PySem.EqMixed.eq_int_str (fin_bl I q (by simp))
   | _=>exact absurd (show false=true from hs) Bool.false_ne_true
 | str i=>
   obtain⟨t,rfl⟩:=rx
   cases y with
   | non=>cases ry; exact PySem.EqNone.eq_str_none (fin_bl I q (by simp))
   | bl j=>cases ry; exact PySem.EqMixed.eq_str_bool (fin_bl I q (by simp))
   | int j=>obtain⟨t',rfl⟩:=ry; exact PySem.EqMixed.eq_str_int (fin_bl I q (by simp))
   | str j=>obtain⟨t',rfl⟩:=ry; exact eq_str (fin_bl I q dec_str)
   | _=>exact absurd (show false=true from hs) Bool.false_ne_true
 | byt i=>
   obtain⟨t,rfl⟩:=rx
   cases y with
   | byt j=>obtain⟨t',rfl⟩:=ry; exact PySem.W.eq_bytes (fin_bl I q dec_byt)
   | _=>exact absurd (show false=true from hs) Bool.false_ne_true
 | _=>cases y <;> exact absurd (show false=true from hs) Bool.false_ne_true
theorem op_ne:OpR X (compareOp .NotEq) rNe:=by
 intro pins s σ H x y v u Q I rx ry h
 obtain⟨hs,q⟩:=h
 cases x with
 | non=>
   cases rx
   cases y with
   | non=>cases ry; exact PySem.EqNone.ne_none_none (fin_bl I q (by simp))
   | bl j=>cases ry; exact PySem.EqNone.ne_none_bool (fin_bl I q (by simp))
   | int j=>obtain⟨t',rfl⟩:=ry; exact PySem.EqNone.ne_none_int (fin_bl I q (by simp))
   | str j=>obtain⟨t',rfl⟩:=ry; exact PySem.EqNone.ne_none_str (fin_bl I q (by simp))
   | _=>exact absurd (show false=true from hs) Bool.false_ne_true
 | bl i=>
   cases rx
   cases y with
   | non=>cases ry; exact PySem.EqNone.ne_bool_none (fin_bl I q (by simp))
   | bl j=>cases ry; exact ne_bool (fin_bl I q (congrArg not dec_bl))
   | str j=>obtain⟨t',rfl⟩:=ry; exact PySem.EqMixed.ne_bool_str (fin_bl I q (by simp))
   | _=>exact absurd (show false=true from hs) Bool.false_ne_true
 | int i=>
   obtain⟨t,rfl⟩:=rx
   cases y with
   | non=>cases ry; exact PySem.EqNone.ne_int_none (fin_bl I q (by simp))
   | int j=>obtain⟨t',rfl⟩:=ry; exact ne_int (fin_bl I q (congrArg not dec_int))
   | str j=>obtain⟨t',rfl⟩:=ry; exact PySem.EqMixed.ne_int_str (fin_bl I q (by simp))
   | _=>exact absurd (show false=true from hs) Bool.false_ne_true
 | str i=>
   obtain⟨t,rfl⟩:=rx
   cases y with
   | non=>cases ry; exact PySem.EqNone.ne_str_none (fin_bl I q (by simp))
   | bl j=>cases ry; exact PySem.EqMixed.ne_str_bool (fin_bl I q (by simp))
   | int j=>obtain⟨t',rfl⟩:=ry; exact PySem.EqMixed.ne_str_int (fin_bl I q (by simp))
   | str j=>obtain⟨t',rfl⟩:=ry; exact ne_str (fin_bl I q (congrArg not dec_str))
   | _=>exact absurd (show false=true from hs) Bool.false_ne_true
 | byt i=>
   obtain⟨t,rfl⟩:=rx
   cases y with
   | byt j=>obtain⟨t',rfl⟩:=ry; exact PySem.W.ne_bytes (fin_bl I q (congrArg not dec_byt))
   | _=>exact absurd (show false=true from hs) Bool.false_ne_true
 | _=>cases y <;> exact absurd (show false=true from hs) Bool.false_ne_true
theorem op_lt:OpR X (compareOp .Lt) (rI0 fun i j=>.bl (decide (i<j))):=opB0 fun _ _ _ _ _ _ _ q=>lt_int q
theorem op_le:OpR X (compareOp .LtE) (rI0 fun i j=>.bl (decide (i<=j))):=opB0 fun _ _ _ _ _ _ _ q=>le_int q
theorem op_gt:OpR X (compareOp .Gt) (rI0 fun i j=>.bl (decide (j<i))):=opB0 fun _ _ _ _ _ _ _ q=>gt_int q
theorem op_in_str:OpR X (compareOp .In) (fun x y H Q=>∃i j,x = .str i/\y = .str j/\Q (.bl (!(Builtin.Str.occurrences j i 0 j.length 1).isEmpty)) H):=by
 intro pins s σ H x y v u Q I rx ry h
 obtain⟨i,j,rfl,rfl,q⟩:=h
 obtain⟨t,rfl⟩:=rx
 obtain⟨t',rfl⟩:=ry
 exact in_str (fin_bl I q rfl)
theorem op_isN:OpR X (compareOp .Is) (fun x y H Q=>y = .non/\Q (.bl (decide (x = .non))) H):=by
 intro pins s σ H x y v u Q I rx ry h
 obtain⟨rfl,q⟩:=h
 cases ry
 refine is_none_gen (fin_bl I q ?_)
 cases x <;> first
   | (cases rx; rfl)
   | (obtain⟨t,rfl⟩:=rx; rfl)
theorem OpR.or {f:Value->Value->Sem Value} {r r':R2} (h:OpR X f r) (h':OpR X f r'):OpR X f (fun x y H Q=>r x y H Q \/ r' x y H Q):=by
 intro pins s σ H x y v u Q I rx ry q
 rcases q with q | q
 · exact h pins s σ H x y v u Q I rx ry q
 · exact h' pins s σ H x y v u Q I rx ry q
theorem nomark (b:Expr) {op:CmpOp} (h:op ≠ .In:=by decide) (h2:op ≠ .NotIn:=by decide):behindInMarks op b=false:=by
 have e1:(op == CmpOp.In)=false:=by cases op <;> first | rfl | exact absurd rfl h
 have e2:(op == CmpOp.NotIn)=false:=by cases op <;> first | rfl | exact absurd rfl h2
 cases b <;> simp [behindInMarks,e1,e2]
theorem pe_cmpR {op:CmpOp} {r:R2} (ho:OpR X (compareOp op) r) (ha:PE X a ta) (hb:PE X b tb) (hm:behindInMarks op b=false):PE X (.Compare a [op] [b] pos) (tOp r ta tb):=by
 intro pins s σ H Q I h
 exact wpAny_Compare1 (binT ha hb I h fun v u s2 x y H2 I2 rx ry q=>ho pins s2 σ H2 x y v u Q I2 rx ry q) hm
inductive ItTest (Q:Bool->Hp->Prop) (x:V) (H':Hp):Prop
  | mk (k:_) (h0:x = .bl k) (h1:Q k H'):ItTest Q x H'
def tTest (t:TE):TT:=fun σ H Q=>t σ H fun x H'=>ItTest Q x H'
theorem pt_cmpR {op:CmpOp} {r:R2} (ho:OpR X (compareOp op) r) (ha:PE X a ta) (hb:PE X b tb) (hm:behindInMarks op b=false):PT X (.Compare a [op] [b] pos) (tTest (tOp r ta tb)):=by
 intro pins s σ H Q I h
 refine wpAny_isTrue_Compare1 (thn (ha pins s σ H _ I h) fun v s1 ⟨x,H1,I1,r1,q1⟩=>thn (hb pins s1 σ H1 _ I1 q1) fun u s2 ⟨y,H2,I2,r2,q2⟩=>
  thn (ho pins s2 σ H2 x y v u _ I2 r1 r2 q2) fun c s3 ⟨z,H3,I3,r3,k,e,q3⟩=>?_) hm
 subst e
 cases r3
 exact wpAny_truthy_bool ⟨H3,I3,q3⟩
inductive ItChain (r':R2) (tc:TE) (σ : St) (Q:VK) (y:V) (z:V) (H3:Hp):Prop
  | mk (k:_) (h0:z = .bl k) (h1:(if k=true then tc σ H3 fun w' H4=>r' y w' H4 Q else Q (.bl false) H3)):ItChain r' tc σ Q y z H3
def tChain (r r':R2) (ta tb tc:TE):TE:=fun σ H Q=>ta σ H fun x H1=>tb σ H1 fun y H2=>r x y H2 fun z H3=>ItChain r' tc σ Q y z H3
theorem pe_chain {op op':CmpOp} {r r':R2} (ho:OpR X (compareOp op) r) (ho':OpR X (compareOp op') r') (ha:PE X a ta) (hb:PE X b tb) (hc:PE X c tc)
    (hm:lastMarks [op,op'] [b,c]=false:=by with_unfolding_all rfl):PE X (.Compare a [op,op'] [b,c] pos) (tChain r r' ta tb tc):=by
  intro pins s σ H Q I h
  refine Compare_chain (thn (ha pins s σ H _ I h) fun v s1 ⟨x,H1,I1,r1,q1⟩=>chain_link (thn (hb pins s1 σ H1 _ I1 q1) fun u s2 ⟨y,H2,I2,r2,q2⟩=>
   thn (ho pins s2 σ H2 x y v u _ I2 r1 r2 q2) fun d s3 ⟨z,H3,I3,r3,k,e,q3⟩=>?_)) hm
  subst e
  cases r3
  refine wpAny_truthy_bool ?_
  cases k with
  | false=>exact ite_ff ⟨.bl false,H3,I3,rfl,q3⟩
  | true=>exact ite_tt (chain_last (thn (hc pins s3 σ H3 _ I3 q3) fun w' s4 ⟨z',H4,I4,r4,q4⟩=>ho' pins s4 σ H4 y z' u w' Q I4 r2 r4 q4))
theorem pt_chain {op op':CmpOp} {r r':R2} (ho:OpR X (compareOp op) r) (ho':OpR X (compareOp op') r') (ha:PE X a ta) (hb:PE X b tb) (hc:PE X c tc)
    (hm:lastMarks [op,op'] [b,c]=false:=by with_unfolding_all rfl):PT X (.Compare a [op,op'] [b,c] pos) (tTest (tChain r r' ta tb tc)):=by
  intro pins s σ H Q I h
  refine isTrue_chain (thn (ha pins s σ H _ I h) fun v s1 ⟨x,H1,I1,r1,q1⟩=>test_link (thn (hb pins s1 σ H1 _ I1 q1) fun u s2 ⟨y,H2,I2,r2,q2⟩=>
   thn (ho pins s2 σ H2 x y v u _ I2 r1 r2 q2) fun d s3 ⟨z,H3,I3,r3,k,e,q3⟩=>?_)) hm
  subst e
  cases r3
  refine wpAny_truthy_bool ?_
  cases k with
  | false=>
    obtain⟨k',e',q'⟩:=q3
    cases e'
    exact ite_ff ⟨H3,I3,q'⟩
  | true=>
    refine ite_tt (test_last (thn (hc pins s3 σ H3 _ I3 q3) fun w' s4 ⟨z',H4,I4,r4,q4⟩=>thn (ho' pins s4 σ H4 y z' u w' _ I4 r2 r4 q4) fun d' s5 ⟨z2,H5,I5,r5,k2,e2,q5⟩=>?_))
    subst e2
    cases r5
    exact wpAny_truthy_bool ⟨H5,I5,q5⟩
def TruV (K:PySem.W.Frag) (x:V) (H:Hp) (k:Bool):Prop:=
 match x with
 | .non=>k=false
 | .bl b=>k=b
 | .int i=>k=(i != 0)
 | .str y=>y.length<=sizeLine/\k=((y.length:Int) != 0)
 | .byt y=>y.size<=sizeLine/\k=((y.size:Int) != 0)
 | .ref p=>(∃xs,SqL K H p xs/\k = !xs.isEmpty) \/ (∃xs,SqT K H p xs/\k = !xs.isEmpty) \/ ∃kvs,H p=some (.dK kvs)/\k = !kvs.isEmpty
 | _=>False
theorem isEmpty_kv {κ : Type} {kvs:List (κ × V)} {vs:List (κ × Value)} (r:KV kvs vs):(!vs.isEmpty) = !kvs.isEmpty:=by
 cases r <;> rfl
theorem isEmpty_of {xs:List V} {its:List Value} (r:Vals xs its):(!its.toArray.isEmpty) = !xs.isEmpty:=by
 cases r <;> simp
theorem line63:(sizeLine:Nat)<2^63:=by rw [sizeLine_eq]; decide
theorem tru_ok:TruR X (fun x H Q=>∃k,TruV X.K x H k/\Q k H):=by
 intro pins s σ H x v Q I rx h
 obtain⟨k,e,q⟩:=h
 have hl:=line63
 have hs:sizeLine=16777216:=sizeLine_eq
 cases x with
 | non=>
   cases rx
   have e':k=false:=e
   subst e'
   exact truthy_none ⟨H,I,q⟩
 | bl b=>
   cases rx
   have e':k=b:=e
   subst e'
   exact wpAny_truthy_bool ⟨H,I,q⟩
 | int i=>
   obtain⟨t,rfl⟩:=rx
   have e':k=(i != 0):=e
   subst e'
   exact PySem.P.truthy_int ⟨H,I,q⟩
 | str y=>
   obtain⟨t,rfl⟩:=rx
   obtain⟨hy,e'⟩ : y.length<=sizeLine/\k=((y.length:Int) != 0):=e
   subst e'
   exact PySem.P.truthy_str (by omega) ⟨H,I.tok _,q⟩
 | byt y=>
   obtain⟨t,rfl⟩:=rx
   obtain⟨hy,e'⟩ : y.size<=sizeLine/\k=((y.size:Int) != 0):=e
   subst e'
   exact PySem.W.truthy_bytes (by omega) ⟨H,I.tok _,q⟩
 | ref p=>
   cases rx
   have e':(∃xs,SqL X.K H p xs/\k = !xs.isEmpty) \/ (∃xs,SqT X.K H p xs/\k = !xs.isEmpty) \/ ∃kvs,H p=some (.dK kvs)/\k = !kvs.isEmpty:=e
   rcases e' with ⟨xs,hx,e'⟩ | ⟨xs,hx,e'⟩ | ⟨kvs,hx,e'⟩
   · subst e'
     obtain⟨its,r,pl,hz⟩:=I.list hx
     have hlen:=r.length
     exact wpAny_truthy_list pl.isList (by simp only [List.size_toArray]; omega) ⟨H,I.tok _,by rw [isEmpty_of r]; exact q⟩
   · subst e'
     obtain⟨its,r,pl,hz⟩:=I.tuple hx
     have hlen:=r.length
     exact truthy_tuple pl (by simp only [List.size_toArray]; omega) ⟨H,I.tok _,by rw [isEmpty_of r]; exact q⟩
   · subst e'
     obtain⟨hz,hS,vs,r,m⟩ : kvs.length<=sizeLine/\(p == sysModules)=false /\ ∃vs,KV kvs vs/\s.heap.DictOf (mixKind X.prog X.w) p vs:=I.hok p _ hx
     have hlen:kvs.length=vs.length:=Paired.length r
     exact wpAny_truthy_dict hS m (by omega) ⟨H,I.tok _,by rw [isEmpty_kv r]; exact q⟩
 | _=>exact (show False from e).elim
theorem pt_truth (ha:PE X a ta) (he:∀whole,isTrue a X.env whole=(do let v <- whole; standAt a.pos; holding [v] (truthy v))) :
    PT X a (fun σ H Q=>ta σ H fun x H'=>∃k,TruV X.K x H' k/\Q k H'):=by
  intro pins s σ H Q I h
  exact isTrue_plain (thn (ha pins s σ H _ I h) fun v s1 ⟨x,H1,I1,r1,q1⟩=>tru_ok pins s1 σ H1 x v Q I1 r1 q1) (he _)
theorem op_add_str:OpR X (binaryOp .Add) (fun x y H Q=>∃i j,x = .str i/\y = .str j/\i.length+j.length<=sizeLine/\Q (.str (i++j)) H):=by
 intro pins s σ H x y v u Q I rx ry h
 obtain⟨i,j,rfl,rfl,hz,q⟩:=h
 obtain⟨t,rfl⟩:=rx
 obtain⟨t',rfl⟩:=ry
 exact add_str (fun t' tk=>⟨.str (i++j),H,I.tok _,⟨_,rfl⟩,q⟩) hz
theorem vals1 {x:V} {us:List Value} (r:Vals [x] us):∃u,us=[u]/\RelV x u:=by
 cases r with
 | cons r1 r2=>cases r2; exact⟨_,rfl,r1⟩
theorem vals2 {x y:V} {us:List Value} (r:Vals [x,y] us):∃u w',us=[u,w']/\RelV x u/\RelV y w':=by
 cases r with
 | cons r1 r2=>
   cases r2 with
   | cons r3 r4=>cases r4; exact⟨_,_,rfl,r1,r3⟩
theorem call_abs:CallR X (.builtin "abs") (fun xs H Q=>∃i,xs=[.int i]/\Q (.int (if i<0 then -i else i)) H):=by
 intro pins s σ H xs us Q I r h
 obtain⟨i,rfl,q⟩:=h
 obtain⟨u,rfl,t,rfl⟩:=vals1 r
 exact call_abs_int fun u tk=>⟨.int (if i<0 then -i else i),H,I.tok _,⟨_,rfl⟩,q⟩
theorem call_max2 (hc:X.calm=true):CallR X (.builtin "max") (fun xs H Q=>∃i j,xs=[.int i,.int j]/\Q (.int (if j > i then j else i)) H):=by
 intro pins s σ H xs us Q I r h
 obtain⟨i,j,rfl,q⟩:=h
 obtain⟨u,w',rfl,⟨t,rfl⟩,⟨t',rfl⟩⟩:=vals2 r
 refine max_two_ints (I.ok.hd hc) fun h' tk k=>⟨_,H,I.kept k,?_,q⟩
 by_cases hj:j > i
 · rw [if_pos hj,if_pos hj]; exact⟨_,rfl⟩
 · rw [if_neg hj,if_neg hj]; exact⟨_,rfl⟩
theorem call_min2 (hc:X.calm=true):CallR X (.builtin "min") (fun xs H Q=>∃i j,xs=[.int i,.int j]/\Q (.int (if j<i then j else i)) H):=by
 intro pins s σ H xs us Q I r h
 obtain⟨i,j,rfl,q⟩:=h
 obtain⟨u,w',rfl,⟨t,rfl⟩,⟨t',rfl⟩⟩:=vals2 r
 refine min_two_ints (I.ok.hd hc) fun h' tk k=>⟨_,H,I.kept k,?_,q⟩
 by_cases hj:j<i
 · rw [if_pos hj,if_pos hj]; exact⟨_,rfl⟩
 · rw [if_neg hj,if_neg hj]; exact⟨_,rfl⟩
end
end L2
namespace L2
open PySem PySem.Spec PyProof.Rows
section
variable {prog:Program} {w:World} {A:Around} {E:Value->Shared->Prop} {s:Shared} {K:PySem.W.Frag} {x dx C f:Addr} {mA:Str->Option Value} {name:Str} {v:Value}
end
section
variable {P:Program} {w:World} {H H':Hp} {h h':Heap} {a C dx:Addr} {fs fs':List (Str × V)}
end
section
variable {X:Cx} {pins:List (Addr × Obj)} {σ : St} {H:Hp} {s:Shared} {a C dx:Addr} {fs:List (Str × V)} {f:Str} {v:V} {A:Around} {E:Value->Shared->Prop}
end
section
variable {X:Cx} {o e value:Expr} {f:Str} {pos pos' tpos:Pos} {ta tv:TE}
end
section
variable {X:Cx} {pins:List (Addr × Obj)} {σ : St} {H:Hp} {s:Shared} {A:Around} {E:Value->Shared->Prop} {Q:Value->Shared->Prop} {c:Value} {b:Bool}
end
end L2
namespace L2
open PySem PySem.Spec PyProof.Rows
structure Room (k:Nat) (A:Around):Prop where
 hd:A.handled=none
 dp:A.depth+3*k+5<recursionLimit
 un:A.units+16*k+200<cLine
theorem Room.mono {j k:Nat} {A:Around} (r:Room k A) (h:j<=k):Room j A:=⟨r.hd,by have:=r.dp; omega,by have:=r.un; omega⟩
theorem Room.deeper {k:Nat} {A:Around} (r:Room (k+1) A) (env:Env):Room k (A.deeper env):=
 ⟨r.hd,by have:=r.dp; show A.depth+1+3*k+5<_; omega,by have:=r.un; show A.units+3+16*k+200<_; omega⟩
theorem Room.depth {k:Nat} {A:Around} (r:Room k A):A.depth<recursionLimit:=by have:=r.dp; omega
theorem Room.units {k:Nat} {A:Around} (r:Room k A):A.units+64<cLine:=by have:=r.un; omega
def tNil:TA:=fun _ H Q=>Q [] H
def tCons (ta:TE) (tr:TA):TA:=fun σ H Q=>ta σ H fun x H1=>tr σ H1 fun xs H2=>Q (x::xs) H2
section
variable {X:Cx} {e:Expr} {es:List Expr} {te:TE} {t:TA} {pos:Pos}
theorem pa_nil:PA X [] tNil:=fun _ _ _ _ H Q I h=>Calls.spliced_nil ⟨[],H,I,.nil,h⟩
theorem pa_cons (ha:PE X e te) (hr:PA X es t) (hs:starEach (e::es) X.env=(false,eval e X.env)::starEach es X.env:=by rfl):PA X (e::es) (tCons te t):=by
 intro pos pins s σ H Q I h
 rw [hs]
 show wpAny _ _ (spliced ((false,eval e X.env)::backTo pos (starEach es X.env))) _ _ s
 refine Calls.spliced_cons (thn (ha pins s σ H _ I h) fun u s1 ⟨x,H1,I1,r1,q1⟩=>?_)
 exact thn (hr pos pins s1 σ H1 _ I1 q1) fun us s2 ⟨xs,H2,I2,r2,q2⟩=>⟨x::xs,H2,I2,.cons r1 r2,q2⟩
end
abbrev Sp:=List V->Hp->VK->XK->Prop
abbrev CXT:=List Env->Hp->Shared->XK->Value->Shared->Prop
structure Env0 (P:Program) (w:World) (K:PySem.W.Frag) (mg:Str->Option Value) (base:Heap) (A:Around) (outer:List Env) (s:Shared) (H:Hp):Prop where
 frames:A.frames=some outer
 mod:Mod K mg base
 bs:∀b o,base.get? b=some o->s.heap.get? b=some o/\H b=none
 bsz:base.objs.size<=s.heap.objs.size
 funs:s.heap.FunFrames base outer
 frf:∀b∈frs outer,H b=none
 hok:HOk P w H s.heap
 bare:AllBare s.gens
def CE (outer:List Env) (P:Program) (w:World) (H:Hp) (s:Shared) (Q:VK) (u:Value) (s':Shared):Prop:=
 ∃v H',s'.os=s.os/\AllBare s'.gens/\Un (frs outer) [] H H' s.heap s'.heap/\HOk P w H' s'.heap/\RelV v u/\Q v H'
def CR (CX:CXT) (outer:List Env) (P:Program) (w:World) (H:Hp) (s:Shared) (Q:VK) (E:XK) (r:Result) (s':Shared):Prop:=
 match r with
 | .ok (.ret u)=>CE outer P w H s Q u s'
 | .ok _=>False
 | .error e=>CX outer H s E e s'
structure FnOk (P:Program) (w:World) (K:PySem.W.Frag) (mg:Str->Option Value) (base:Heap) (CX:CXT) (k:Nat) (f:Addr) (fd:FuncData) (ps:List Str) (sp:Sp):Prop where
 len:∀vs H Q E,sp vs H Q E->vs.length=ps.length
 run:∀(A:Around) (outer:List Env) (s:Shared) (H:Hp) (args:Args) (us:List Value) (vs:List V) (Q:VK) (E:XK),Room k A->Env0 P w K mg base A outer s H->BindsTo s fd args (ps.zip us)->Vals vs us->sp vs H Q E ->
   codeAny (model P w) A (.call (.ref f) args) (CR CX outer P w H s Q E) s
section
variable {X:Cx} {pins:List (Addr × Obj)} {σ : St} {H:Hp} {s s':Shared}
theorem Inv.env0 (I:Inv X pins σ H s):Env0 X.prog X.w X.K X.mg X.base X.A X.stack s H:=
 ⟨I.ok.frames,I.ok.mod,I.bs,Nat.le_trans I.ok.bsz I.sz,I.stack,I.stkFree,I.hok,I.bare⟩
theorem Inv.after {Q:VK} {u:Value} (I:Inv X pins σ H s) (h:CE X.stack X.prog X.w H s Q u s'):EP X pins σ Q u s':=by
 obtain⟨v,H',os,bare,un,hok,r,q⟩:=h
 obtain⟨hh,g,d,t,os'⟩:=s'
 obtain rfl:os'=s.os:=os
 exact⟨v,H',I.call (h':=hh) (g':=g) (d':=d) (t':=t) (ch:=[]) un hok bare (fun b z=>absurd z (by simp)),r,q⟩
end
def tCall (sp:Sp) (dvs:List V) (E:XK) (t:TA):TE:=fun σ H Q=>t σ H fun vs H1=>sp (vs++dvs) H1 Q E
def Binds (K:PySem.W.Frag) (fd:FuncData) (ps:List Str) (ds:List Value):Prop:=
 ∀(s:Shared) (us:List Value),K.In s.heap->(us++ds).length=ps.length->BindsTo s fd ⟨us,[]⟩ (ps.zip (us++ds))
theorem Binds.all {K:PySem.W.Frag} {fd:FuncData} {ps:List Str} (h:∀us:List Value,us.length=ps.length->bindArgs fd ⟨us,[]⟩=pure (ps.zip us)):Binds K fd ps []:=fun s us _ hl=>by
 rw [List.append_nil] at hl ⊢
 exact .of_eq (h us hl)
def Passes (CX:CXT) (X:Cx) (E:XK):Prop:=∀(pins:List (Addr × Obj)) (σ : St) (H:Hp) (s:Shared) (e:Value) (s':Shared),Inv X pins σ H s->CX X.stack H s E e s'->X.xe e s'
section
variable {X:Cx} {CX:CXT} {k:Nat} {f C:Addr} {fd:FuncData} {ps:List Str} {sp:Sp} {dvs:List V} {ds:List Value} {E:XK} {x m:Str} {p pos apos:Pos} {e o:Expr} {es:List Expr} {ta:TE} {t:TA}
theorem run_fn {pins:List (Addr × Obj)} {σ : St} {H:Hp} {s:Shared} {Q:VK} {us:List Value} {vs:List V} (F:FnOk X.prog X.w X.K X.mg X.base CX k f fd ps sp) (hr:Room k X.A) (hb:Binds X.K fd ps ds) (hd:Vals dvs ds) (hx:Passes CX X E)
    (I:Inv X pins σ H s) (r:Vals vs us) (h:sp (vs++dvs) H Q E):wpAny (model X.prog X.w) X.A (call (.ref f) us) (EP X pins σ Q) X.xe s:=by
  have r2:Vals (vs++dvs) (us++ds):=r.append hd
  have hl:(us++ds).length=ps.length:=by rw [<- r2.length]; exact F.len _ _ _ _ h
  refine wpAny_call (codeAny_mono (F.run X.A X.stack s H ⟨us,[]⟩ (us++ds) (vs++dvs) Q E hr I.env0 (hb s us I.kIn hl) r2 h) fun r s' hq=>?_)
  cases r with
  | error e=>exact hx pins σ H s e s' I hq
  | ok fl=>
    cases fl with
    | ret u=>exact I.after hq
    | next=>exact False.elim hq
    | brk=>exact False.elim hq
    | cont=>exact False.elim hq
theorem pe_call (F:FnOk X.prog X.w X.K X.mg X.base CX k f fd ps sp) (hr:Room k X.A) (hg:Gl X x) (hm:X.mg x=some (.ref f)) (hk:PySem.W.keepIn X.K (.ref f)=true) (hb:Binds X.K fd ps ds) (hd:Vals dvs ds) (hx:Passes CX X E)
    (ha:PA X (e::es) t) (hdb:(x == ("__debug__" : Str))=false:=by decide) (he:starEach (e::es) X.env=(false,eval e X.env)::starEach es X.env:=by rfl) (hpl:(backTo pos (starEach es X.env)).any (·.1)=false:=by rfl) :
    PE X (.Call (.Name x p) (e::es) [] pos) (tCall sp dvs E t):=by
  intro pins s σ H Q I h
  refine wpAny_Call_Name_kw (ld_glob I hg hm ?_ hdb)
  refine PySem.W.callWith_K (h₀:=X.base) I.ok.mod.kin hk (thn (ha pos pins s σ H _ I h) fun us s1 ⟨vs,H1,I1,r,q⟩=>⟨I1.kIn,?_⟩) he hpl
  exact run_fn F hr hb hd hx I1 r q
end
section
variable {X:Cx} {CX:CXT} {k:Nat} {f C:Addr} {fd:FuncData} {ps ks:List Str} {sp:Sp} {E:XK} {x m:Str} {p pos apos kpos:Pos} {e o:Expr} {es:List Expr} {kws:List Keyword} {te ta:TE} {t tk:TA} {nm:Option Str}
variable {g:List Value->List Value->List Value} {gV:List V->List V->List V}
end
structure FnScope (N P:List Str) (sc:Scope):Prop where
 kind:sc.kind = .function
 co:sc.isCoroutine=false
 gen:sc.isGenerator=false
 nd:N.Nodup
 pre:N.take P.length=P
 par:∀x∈P,sc.names.lookup x=some .local \/ sc.names.lookup x=some .cell
 nofree:∀y∈sc.names,y.2 ≠ .free
theorem bindL_out {kindOf:Str->Option NameKind} {x:Str}:∀ {binds:List (Str × Value)} {m:Str->Option Value},(∀v,(x,v) ∉ binds)->bindL kindOf binds m x=m x
  | [],_,_=>rfl
  | (n,v)::r,m,h=>by
    unfold bindL
    rw [bindL_out fun w hw=>h w (List.mem_cons_of_mem _ hw)]
    split
    · have:x≠n:=by rintro rfl; exact h v List.mem_cons_self
      simp [this]
    · rfl
theorem bindC_out {kindOf:Str->Option NameKind} {x:Str}:∀ {binds:List (Str × Value)} {m:Str->Option Value},(∀v,(x,v) ∉ binds)->bindC kindOf binds m x=m x
  | [],_,_=>rfl
  | (n,v)::r,m,h=>by
    unfold bindC
    rw [bindC_out fun w hw=>h w (List.mem_cons_of_mem _ hw)]
    split
    · rfl
    · have:x≠n:=by rintro rfl; exact h v List.mem_cons_self
      simp [this]
theorem bindL_get {kindOf:Str->Option NameKind} {x:Str} {v:Value}:∀ {P:List Str} {vs:List Value} {i:Nat} {m:Str->Option Value},P.Nodup->P[i]? = some x->vs[i]? = some v->kindOf x=some .local ->
    bindL kindOf (P.zip vs) m x=some v
  | [],_,_,_,_,h,_,_=>by simp at h
  | _::_,[],_,_,_,_,h,_=>by simp at h
  | p::P,w::vs,0,m,nd,h1,h2,hk=>by
    simp at h1 h2; subst h1; subst h2
    show bindL kindOf ((p,w)::P.zip vs) m p=_
    unfold bindL
    rw [bindL_out fun v hv=>(List.nodup_cons.mp nd).1 (List.of_mem_zip hv).1,if_pos hk]
    simp
  | p::P,w::vs,i+1,m,nd,h1,h2,hk=>by
    show bindL kindOf ((p,w)::P.zip vs) m x=_
    unfold bindL
    exact bindL_get (i:=i) (List.nodup_cons.mp nd).2 (by simpa using h1) (by simpa using h2) hk
theorem bindC_get {kindOf:Str->Option NameKind} {x:Str} {v:Value}:∀ {P:List Str} {vs:List Value} {i:Nat} {m:Str->Option Value},P.Nodup->P[i]? = some x->vs[i]? = some v->kindOf x≠some .local ->
    bindC kindOf (P.zip vs) m x=some v
  | [],_,_,_,_,h,_,_=>by simp at h
  | _::_,[],_,_,_,_,h,_=>by simp at h
  | p::P,w::vs,0,m,nd,h1,h2,hk=>by
    simp at h1 h2; subst h1; subst h2
    show bindC kindOf ((p,w)::P.zip vs) m p=_
    unfold bindC
    rw [bindC_out fun v hv=>(List.nodup_cons.mp nd).1 (List.of_mem_zip hv).1,if_neg hk]
    simp
  | p::P,w::vs,i+1,m,nd,h1,h2,hk=>by
    show bindC kindOf ((p,w)::P.zip vs) m x=_
    unfold bindC
    exact bindC_get (i:=i) (List.nodup_cons.mp nd).2 (by simpa using h1) (by simpa using h2) hk
def start (N:List Str) (vs:List V):St:=vs.map some++List.replicate (N.length-vs.length) none
def cxOf (CX:CXT) (P:Program) (w:World) (K:PySem.W.Frag) (mg:Str->Option Value) (base:Heap) (N:List Str) (qual:Str) (scope:Scope) (f:Addr) (cd:Value) (A:Around) (outer:List Env) (s:Shared) (H:Hp) (E:XK):Cx where
 prog:=P
 w:=w
 K:=K
 mg:=mg
 base:=base
 A:=A.deeper (envOfC qual scope s.heap.objs.size f cd)
 N:=N
 s₀:=s
 H₀:=H
 env:=envOfC qual scope s.heap.objs.size f cd
 outer:=outer
 stack:=envOfC qual scope s.heap.objs.size f cd::outer
 ex:=[]
 calm:=true
 fn:=fun _=>true
 pn:=[]
 xe:=fun e s'=>wpAny (model P w) (A.deeper (envOfC qual scope s.heap.objs.size f cd)) (leaving (envOfC qual scope s.heap.objs.size f cd) e) (fun _ s''=>CX outer H s E e s'') (fun e' s''=>CX outer H s E e' s'') s'
theorem cell_has {sc:Scope} {n:Nat} {x:Str} (h:sc.names.lookup x=some .cell):∃c,(cellsFrom n sc.names []).lookup x=some c:=by
 have q:=PySem.W.cellsFrom_some sc.names n [] (.inl h)
 exact Option.isSome_iff_exists.mp q
theorem inv_start {CX:CXT} {P:Program} {w:World} {K:PySem.W.Frag} {mg:Str->Option Value} {base:Heap} {N ps:List Str} {qual:Str} {scope:Scope} {f:Addr} {cd:Value} {A:Around} {outer:List Env} {s s1:Shared} {H:Hp} {E:XK} {us:List Value} {vs:List V}
    (S:FnScope N ps scope) (hd:A.handled=none) (e0:Env0 P w K mg base A outer s H) (hl:vs.length=ps.length) (r:Vals vs us)
    (x:InCallC s s.heap.objs.size (bindL (envOfC qual scope s.heap.objs.size f cd).kindOf (ps.zip us) fun _=>none) (cellsFrom (s.heap.objs.size+1) scope.names []) (bindC (envOfC qual scope s.heap.objs.size f cd).kindOf (ps.zip us) fun _=>none) s1) :
    Inv (cxOf CX P w K mg base N qual scope f cd A outer s H E) [] (start N vs) H s1:=by
  have hpl:ps.length<=N.length:=by have:=congrArg List.length S.pre; rw [List.length_take] at this; omega
  obtain⟨h1,tk,rfl,hk⟩:=x.done
  have noA:∀b:Addr,b ∉ (cxOf CX P w K mg base N qual scope f cd A outer s H E).ex:=fun b z=>absurd (show b∈([]:List Addr) from z) (by simp)
  refine ⟨⟨e0.mod,S.kind,rfl,rfl,Nat.le_refl _,fun y z c h1 h2=>?_,fun y hy=>?_,fun y c _ h=>?_,fun _=>hd,Around.frames_deeper e0.frames,.inr ⟨rfl,rfl⟩,fun b z=>absurd z (noA b),e0.bs,e0.bsz,fun b _ _=>noA b,fun b z=>absurd z (noA b),e0.funs,e0.frf⟩,
    rfl,e0.bare,Un.kept hk,⟨_,x.toInCall.ns,fun i y v h1 h2 h3=>?_⟩,fun y c h=>⟨_,x.cell y c h⟩,e0.hok.fresh (Nat.le_refl _),fun y c h=>?_,fun p hp=>absurd (show p∈([]:List (Addr × Obj)) from hp) (by simp),e0.hok.kept hk,?_⟩
  · exact name_of_addr x.apart (PySem.mem_of_lookup h1) (PySem.mem_of_lookup h2)
  · have hy:scope.names.lookup y=some .cell \/ scope.names.lookup y=some .free:=hy
    rcases hy with hy | hy
    · exact cell_has hy
    · exact absurd rfl (S.nofree _ (PySem.mem_of_lookup hy))
  · exact Nat.le_of_lt (x.above y c (PySem.mem_of_lookup h))
  · have hi:i<vs.length:=by
      unfold start at h2
      by_cases hi:i<vs.length
      · exact hi
      · rw [List.getElem?_append_right (by simpa using hi)] at h2
        rw [List.getElem?_replicate] at h2
        split at h2 <;> cases h2
    have ha:vs[i]? = some v:=by
     unfold start at h2
     rw [List.getElem?_append_left (by simpa using hi),List.getElem?_map] at h2
     cases e:vs[i]? with
     | none=>rw [e] at h2; cases h2
     | some a=>rw [e] at h2; cases h2; rfl
    obtain⟨u,hu,rv⟩:=r.get ha
    have hp:ps[i]? = some y:=by
     rw [<- S.pre,List.getElem?_take_of_lt (by omega)]; exact h1
    have ndP:ps.Nodup:=by rw [<- S.pre]; exact S.nd.sublist (List.take_sublist _ _)
    refine⟨u,rv,?_⟩
    rcases S.par y (List.mem_of_getElem? hp) with k | k
    · exact .inl ⟨k,bindL_get ndP hp hu k⟩
    · obtain⟨c,e⟩:=cell_has (n:=s.heap.objs.size+1) k
      refine .inr ⟨.inl k,c,e,?_⟩
      have q:=x.cell y c e
      rw [bindC_get ndP hp hu (by show scope.names.lookup y≠_; rw [k]; decide)] at q
      exact q
  · exact e0.hok.fresh (Nat.le_of_lt (x.above y c (PySem.mem_of_lookup h)))
  · unfold start
    show _=N.length
    rw [List.length_append,List.length_map,List.length_replicate]
    omega
theorem fn_of {CX:CXT} {P:Program} {w:World} {K:PySem.W.Frag} {mg:Str->Option Value} {base:Heap} {k:Nat} {f:Addr} {name qual:Str} {params:Arguments} {body:List Stmt} {scope:Scope} {dV kV doc pm cdv ct oc:Value} {an od:Option Addr}
    {osl:Array (Option Value)} {N ps:List Str} {sp:Sp} (lk:K.lookup f=some ⟨oc,od,.func (PySem.W.fnOf name qual params body scope dV kV doc pm an cdv ct),osl⟩) (hcd:PySem.W.codeIn K cdv qual=true) (S:FnScope N ps scope)
    (len:∀vs H Q E,sp vs H Q E->vs.length=ps.length)
    (hbody:∀(A:Around) (outer:List Env) (s:Shared) (H:Hp) (vs:List V) (Q:VK) (E:XK),Room k (A.deeper (envOfC qual scope s.heap.objs.size f cdv))->sp vs H Q E ->
      ∃t,PSs (cxOf CX P w K mg base N qual scope f cdv A outer s H E) body t/\t { nx:=fun _ H'=>Q .non H',rt:=Q } (start N vs) H) :
    FnOk P w K mg base CX (k+1) f (PySem.W.fnOf name qual params body scope dV kV doc pm an cdv ct) ps sp:=by
  refine⟨len,fun A outer s H args us vs Q E hr e0 hb r hsp=>?_⟩
  have hl:=len _ _ _ _ hsp
  have KX:K.In s.heap:=e0.mod.kin.keeps fun b o e=>(e0.bs b o e).1
  have lim:s.heap.NoLimit:=e0.mod.nolimit.keeps fun b o e=>(e0.bs b o e).1
  have hkind:∀y∈ps.zip us,scope.names.lookup y.1=some .local \/ (scope.names.lookup y.1=some .cell/\((cellsFrom (s.heap.objs.size+1) scope.names []).lookup y.1).isSome=true):=fun⟨n,v⟩ hy=>by
   rcases S.par n (List.of_mem_zip hy).1 with q | q
   · exact .inl q
   · exact .inr ⟨q,PySem.W.cellsFrom_some _ _ _ (.inl q)⟩
  refine codeAny_call_function hr.depth (KX _ _ lk) rfl S.co S.gen rfl (PySem.W.codeRec_of KX hcd) (hb _ _ _ _ ?_)
  refine wpAny_newFunctionEnv_cells S.kind hkind fun env he s1 x=>?_
  subst he
  refine⟨lim.keeps x.toInCall.keep,codeAny_func ?_⟩
  obtain⟨t,ht,hq⟩:=hbody A outer s H vs Q E (hr.deeper _) hsp
  have I:Inv (cxOf CX P w K mg base N qual scope f cdv A outer s H E) [] (start N vs) H s1:=inv_start S hr.hd e0 hl r x
  refine wpAny_mono (ht [] s1 (start N vs) H _ I hq) (fun fl s' hs=>?_) fun e s' hs=>hs
  have fin:∀ {σ':St} {H':Hp} {v:V} {u:Value},Inv (cxOf CX P w K mg base N qual scope f cdv A outer s H E) [] σ' H' s'->RelV v u->Q v H'->CE outer P w H s Q u s':=
   fun {σ' H' v u} J rv q=>⟨v,H',J.os,J.bare,J.base,J.hok,rv,q⟩
  cases fl with
  | ret u=>
    obtain⟨v,σ',H',J,rv,q⟩:=hs
    exact fin J rv q
  | next=>
    obtain⟨σ',H',J,q⟩:=hs
    exact fin (v:=V.non) (u:=Value.none) J rfl q
  | brk=>
    obtain⟨_,_,_,q⟩:=hs
    exact False.elim q
  | cont=>
    obtain⟨_,_,_,q⟩:=hs
    exact False.elim q
end L2
namespace L2
open PySem PySem.Spec PyProof.Rows
section
variable {X:Cx} {x:Str} {p pos:Pos} {e:Expr} {es:List Expr} {t:TA} {id T:String} {r:List V->Hp->VK->Prop}
def tCB (r:List V->Hp->VK->Prop) (t:TA):TE:=fun σ H Q=>t σ H fun vs H1=>r vs H1 Q
theorem pe_callB (hc:CallR X (.builtin id) r) (hg:Gl X x) (hm:X.mg x=none) (hv:bootBuiltins x=some (.builtin id)) (ha:PA X (e::es) t) (hn:x ≠ "__name__":=by decide) (hdb:(x == ("__debug__" : Str))=false:=by decide)
    (he:starEach (e::es) X.env=(false,eval e X.env)::starEach es X.env:=by rfl) (hpl:(backTo pos (starEach es X.env)).any (·.1)=false:=by rfl):PE X (.Call (.Name x p) (e::es) [] pos) (tCB r t):=by
  intro pins s σ H Q I h
  refine wpAny_Call_Name_kw (ld_blt I hg hm hv ?_ hn hdb)
  exact PyProof.Rows.callWith_builtin1 (thn (ha pos pins s σ H _ I h) fun us s1 ⟨vs,H1,I1,r1,q1⟩=>hc pins s1 σ H1 vs us Q I1 r1 q1) he hpl
theorem pe_callTy (hc:CallR X (.type T) r) (hg:Gl X x) (hm:X.mg x=none) (hv:bootBuiltins x=some (.type T)) (ha:PA X (e::es) t) (hn:x ≠ "__name__":=by decide) (hdb:(x == ("__debug__" : Str))=false:=by decide)
    (he:starEach (e::es) X.env=(false,eval e X.env)::starEach es X.env:=by rfl) (hpl:(backTo pos (starEach es X.env)).any (·.1)=false:=by rfl):PE X (.Call (.Name x p) (e::es) [] pos) (tCB r t):=by
  intro pins s σ H Q I h
  refine wpAny_Call_Name_kw (ld_blt I hg hm hv ?_ hn hdb)
  exact PyProof.Rows.callWith_type1 (thn (ha pos pins s σ H _ I h) fun us s1 ⟨vs,H1,I1,r1,q1⟩=>hc pins s1 σ H1 vs us Q I1 r1 q1) he hpl
end
end L2
namespace HT
open PySem PyProof.Rows
section
open PySem.SeqAt
open PySem.AutoSeq1 (wpAny_loadPart')
open PySem.MeetsSeq PySem.MeetsSeq2 PySem.MeetsSeq3
end
section
variable {prog:Program} {w:World} {A:Around} {E:Value->Shared->Prop} {s:Shared}
theorem cat_tup {t b:Addr} {vs ws:List Value} {Q:Value->Shared->Prop} (ht:IsTup s.heap t vs.toArray) (hb:IsTup s.heap b ws.toArray) (hv:vs≠[])
    (h1:ws=[]->Q (.ref t) s) (h2:ws≠[]->Q (.ref s.heap.objs.size) { s with heap:=s.heap.push { cls:=.type "tuple",data:=.seq (vs++ws).toArray } })
    (hsz:vs.length+ws.length<=sizeLine):wpAny (model prog w) A (binaryOp .Add (.ref t) (.ref b)) Q E s:=by
  obtain⟨⟨cls,dd,data,sl⟩,ho,hc,n,hd⟩:=id ht
  obtain⟨⟨cls2,dd2,data2,sl2⟩,ho2,hc2,n2,hd2⟩:=id hb
  simp only at hc hd hc2 hd2
  subst hc hd hc2 hd2
  have e:vs.toArray++ws.toArray=(vs++ws).toArray:=by simp
  by_cases hw:ws=[]
  · exact concat_meets ⟨_,ho,rfl⟩ ⟨_,ho2,rfl⟩ noFill_tuple_add seq_tuple_add PySem.F.slot_tuple_add PySem.F.entry_tuple_add (PySem.F.args_tuple_add_2 _ _)
      (tuple_addW1 t b vs.toArray ws.toArray n n2 dd dd2 sl sl2 (by simpa using hv) (by simp [hw])) ⟨ho,ho2,h1 hw⟩
  · refine concat_meets ⟨_,ho,rfl⟩ ⟨_,ho2,rfl⟩ noFill_tuple_add seq_tuple_add PySem.F.slot_tuple_add PySem.F.entry_tuple_add (PySem.F.args_tuple_add_2 _ _)
      (tuple_addW2 t b vs.toArray ws.toArray n n2 dd dd2 sl sl2 (by simpa using hv) (by simpa using hw) (by rw [List.size_toArray,List.size_toArray]; exact hsz)) ⟨ho,ho2,?_⟩
    rw [e]
    exact h2 hw
def sIx (n d:Nat):Option Int->Nat
  | none=>d
  | some v=>if v<0 then (v+(n:Int)).toNat else min v.toNat n
theorem sIx_none (n d:Nat):sIx n d none=d:=rfl
theorem sIx_le (n d:Nat) (hd:d<=n) (o:Option Int):sIx n d o<=n:=by
 cases o with
 | none=>exact hd
 | some v=>
   show (if v<0 then (v+(n:Int)).toNat else min v.toNat n)<=n
   by_cases hv:v<0
   · rw [if_pos hv]; omega
   · rw [if_neg hv]; exact Nat.min_le_right _ _
theorem clip_eq (v:Int) (n d:Nat):(if v<0 then max (v+(n:Int)) 0 else min v (n:Int))=((sIx n d (some v):Nat):Int):=by
 show (if v<0 then max (v+(n:Int)) 0 else min v (n:Int))=(((if v<0 then (v+(n:Int)).toNat else min v.toNat n):Nat):Int)
 by_cases hv:v<0
 · simp only [if_pos hv]; omega
 · simp only [if_neg hv]; omega
theorem adjust_gen (lo hi:Option Int) (n:Nat):Builtin.Slice.sliceAdjust lo hi 1 (n:Int)=(((sIx n 0 lo:Nat):Int),((sIx n n hi:Nat):Int)):=by
 have h1:¬((1:Int)<0):=by omega
 unfold Builtin.Slice.sliceAdjust
 simp only [h1,if_false]
 refine Prod.ext ?_ ?_
 · cases lo with
   | none=>rfl
   | some v=>exact clip_eq v n 0
 · cases hi with
   | none=>rfl
   | some v=>exact clip_eq v n n
theorem places_gen (i j:Nat):Builtin.Slice.slicePlaces (i:Int) (j:Int) 1=j-i:=by
 unfold Builtin.Slice.slicePlaces
 have h1:(1:Int) > 0:=by omega
 simp only [h1,if_true,Int.ediv_one]
 split <;> omega
theorem slicePart_ {v:Value} {o:Option Int} {Q:Option Int->Shared->Prop} (p:IsPart v o) (h:Q o s):wpAny (model prog w) A (Builtin.Slice.slicePartIndex v) Q E s:=by
 cases p with
 | none=>exact slicePart_none h
 | int i t=>exact slicePart_int h
theorem sliceApplied_gen {sl:Addr} {vl vu:Value} {lo hi:Option Int} {n:Nat} {Q:Int × Int × Nat->Shared->Prop} (hs:s.heap.IsSliceOf sl vl vu .none) (pl:IsPart vl lo) (pu:IsPart vu hi)
    (h:Q (((sIx n 0 lo:Nat):Int),1,sIx n n hi-sIx n 0 lo) s):wpAny (model prog w) A (Builtin.Slice.sliceApplied (.ref sl) (pure (n:Int))) Q E s:=by
  obtain⟨os,hos,hcs,hds⟩:=id hs
  unfold Builtin.Slice.sliceApplied Builtin.Slice.sliceFields
  refine wpAny_bind (wpAny_bind (wpAny_field hos hds (x:=vl) rfl (wpAny_bind (wpAny_field hos hds (x:=vu) rfl (wpAny_bind (wpAny_field hos hds (x:=.none) rfl (wpAny_pure ?_)))))))
  refine wpAny_bind (slicePart_none ?_)
  show wpAny _ _ (if ((1:Int) == 0)=true then _ else _) _ _ s
  rw [if_neg (by decide)]
  refine wpAny_bind (slicePart_ pl (wpAny_bind (slicePart_ pu (wpAny_bind (wpAny_pure ?_)))))
  show wpAny _ _ (match Builtin.Slice.sliceAdjust lo hi 1 (n:Int) with | (lo,hi)=>pure (lo,(1:Int),Builtin.Slice.slicePlaces lo hi 1)) _ _ s
  rw [adjust_gen lo hi n]
  show wpAny _ _ (pure (((sIx n 0 lo:Nat):Int),(1:Int),Builtin.Slice.slicePlaces ((sIx n 0 lo:Nat):Int) ((sIx n n hi:Nat):Int) 1)) _ _ s
  rw [places_gen]
  exact wpAny_pure h
theorem pick_gen (xs:Array Value) (i k:Nat):((List.range k).filterMap fun (m:Nat)=>xs[((i:Int)+(m:Int)*1).toNat]?).toArray=((xs.toList.drop i).take k).toArray:=by
 have e:(fun (m:Nat)=>xs[((i:Int)+(m:Int)*1).toNat]?)=fun m=>xs[i+m]?:=by
  funext m
  have:((i:Int)+(m:Int)*1).toNat=i+m:=by omega
  rw [this]
 rw [e]
 have:=pick_run xs i k
 rw [List.filterMap_map] at this
 have e2:((fun x=>xs[x]?) ∘ fun x=>i+x)=fun m=>xs[i+m]?:=rfl
 rw [e2] at this
 rw [this]
theorem getItem_tuple_cut {t sl:Addr} {items:Array Value} {vl vu:Value} {lo hi:Option Int} {Q:Value->Shared->Prop} (ht:IsTup s.heap t items) (hs:s.heap.IsSliceOf sl vl vu .none) (pl:IsPart vl lo) (pu:IsPart vu hi)
    (hw:¬(sIx items.size 0 lo=0/\sIx items.size items.size hi=items.size))
    (h:Q (.ref s.heap.objs.size) { s with heap:=s.heap.push { cls:=.type "tuple",data:=.seq ((items.toList.drop (sIx items.size 0 lo)).take (sIx items.size items.size hi-sIx items.size 0 lo)).toArray } })
    (hsz:items.size<=sizeLine):wpAny (model prog w) A (getItem (.ref t) (.ref sl)) Q E s:=by
  have htake:sizeOk (.seq ((items.toList.drop (sIx items.size 0 lo)).take (sIx items.size items.size hi-sIx items.size 0 lo)).toArray):=by
   show ((items.toList.drop (sIx items.size 0 lo)).take (sIx items.size items.size hi-sIx items.size 0 lo)).toArray.size<=sizeLine
   rw [List.size_toArray,List.length_take,List.length_drop,Array.length_toList]
   omega
  have hj:sIx items.size items.size hi<=items.size:=sIx_le _ _ (Nat.le_refl _) hi
  obtain⟨os,hos,hcs,hds⟩:=id hs
  have hTs:s.TypeIs (.ref sl) "slice":=⟨os,hos,hcs⟩
  unfold getItem
  try with_reducible refine wpAny_holding ?_
  first | refine wpAny_bind (wpAny_pure ?_) | skip
  refine wpAny_bind (wpAny_sequenceKey ht.typeIs (by decide) ?_)
  refine wpAny_bind (wpAny_callSpecial?_slot (name:=Str.ofString "__getitem__") ht.typeIs PyProof.Rows.slot_tuple_getitem
    (wpAny_call_entry PyProof.Rows.slot_tuple_getitem ht.typeIs entry_tuple_getitem ?_ (args_tuple_getitem _ _)))
  show wpAny _ _ (Builtin.Tuple.tupleItemsOf (.ref t) >>= _) _ _ s
  refine wpAny_bind (tupleItemsOf_ ht ?_)
  refine wpAny_bind (wpAny_typeOf hTs ?_)
  rw [if_pos (by decide)]
  refine wpAny_bind (sliceApplied_gen hs pl pu ?_)
  have hno:¬((((sIx items.size 0 lo:Nat):Int) == 0 && (1:Int) == 1 && (sIx items.size items.size hi-sIx items.size 0 lo) == items.size)=true):=by
   intro q
   rw [Bool.and_eq_true,Bool.and_eq_true] at q
   have q1:((sIx items.size 0 lo:Nat):Int)=0:=eq_of_beq q.1.1
   have q2:sIx items.size items.size hi-sIx items.size 0 lo=items.size:=eq_of_beq q.2
   exact hw ⟨by omega,by omega⟩
  show wpAny _ _ (if (((sIx items.size 0 lo:Nat):Int) == 0 && (1:Int) == 1 && (sIx items.size items.size hi-sIx items.size 0 lo) == items.size)=true then _ else _) _ _ s
  rw [if_neg hno,pick_gen]
  first
    | exact wpAny_bind (m:=Builtin.Tuple.tupleExact _) (wpAny_newObj_type (wpAny_pure ⟨_,rfl,wpAny_pure h⟩) htake)
    | exact wpAny_bind (m:=Builtin.Tuple.tupleExact _) (wpAny_newObj_type (wpAny_bind (wpAny_pure (wpAny_pure ⟨_,rfl,wpAny_pure h⟩))) htake)
    | exact wpAny_bind (wpAny_bind (m:=Builtin.Tuple.tupleExact _) (wpAny_newObj_type (wpAny_pure (wpAny_pure ⟨_,rfl,wpAny_pure h⟩)) htake))
    | exact wpAny_bind (wpAny_bind (m:=Builtin.Tuple.tupleExact _) (wpAny_newObj_type (wpAny_pure ⟨_,rfl,wpAny_pure h⟩) htake))
end
end HT
namespace L2
open PySem PySem.Spec PyProof.Rows
abbrev TO:=St->Hp->(Option Int->Hp->Prop)->Prop
def PO (X:Cx) (e:Option Expr) (t:TO):Prop:=
 ∀ (pins:List (Addr × Obj)) (s:Shared) (σ : St) (H:Hp) (Q:Option Int->Hp->Prop),Inv X pins σ H s->t σ H Q ->
   wpAny (model X.prog X.w) X.A (evalPart e X.env) (fun u s'=>∃o H',Inv X pins σ H' s'/\IsPart u o/\Q o H') X.xe s
def tNoPart:TO:=fun _ H Q=>Q none H
inductive ItPart (Q:Option Int->Hp->Prop) (x:V) (H1:Hp):Prop
  | mk (i:_) (h0:x = .int i) (h1:Q (some i) H1):ItPart Q x H1
def tPart (t:TE):TO:=fun σ H Q=>t σ H fun x H1=>ItPart Q x H1
section
variable {X:Cx} {e:Expr} {te:TE} {lo hi:Option Expr} {tl th:TO} {pos p2:Pos}
theorem po_none:PO X none tNoPart:=by
 intro pins s σ H Q I h
 rw [evalPart_none]
 exact wpAny_pure ⟨none,H,I,.none,h⟩
theorem po_some (h:PE X e te):PO X (some e) (tPart te):=by
 intro pins s σ H Q I hw
 rw [evalPart_some]
 refine thn (h pins s σ H _ I hw) fun u s1 ⟨x,H1,I1,r1,q1⟩=>?_
 obtain⟨i,rfl,q⟩:=q1
 obtain⟨t,rfl⟩:=r1
 exact⟨some i,H1,I1,.int i t,q⟩
def SlR (X:Cx) (r:V->Option Int->Option Int->Hp->VK->Prop):Prop:=
 ∀ (pins:List (Addr × Obj)) (s:Shared) (σ : St) (H:Hp) (x:V) (v vl vu:Value) (lo hi:Option Int) (sl:Addr) (Q:VK),Inv X pins σ H s->RelV x v->s.heap.IsSliceOf sl vl vu .none->IsPart vl lo->IsPart vu hi->r x lo hi H Q ->
   ∃T id,typeLookup (.type T) "__getitem__" = pure (some (.builtin id))/\s.TypeIs v T/\wpAny (model X.prog X.w) X.A (getItem v (.ref sl)) (EP X pins σ Q) X.xe s
def tSl (r:V->Option Int->Option Int->Hp->VK->Prop) (te:TE) (tl th:TO):TE:=fun σ H Q=>te σ H fun x H1=>tl σ H1 fun l H2=>th σ H2 fun u H3=>r x l u H3 Q
theorem pe_slice {r:V->Option Int->Option Int->Hp->VK->Prop} (hr:SlR X r) (he:PE X e te) (hl:PO X lo tl) (hu:PO X hi th):PE X (.Subscript e (.Slice lo hi none p2) pos) (tSl r te tl th):=by
 intro pins s σ H Q I h
 refine Subscript_ (thn (he pins s σ H _ I h) fun v s1 ⟨x,H1,I1,r1,q1⟩=>?_)
 refine wpAny_Slice (thn (hl pins s1 σ H1 _ I1 q1) fun vl s2 ⟨l,H2,I2,pl,q2⟩=>thn (hu pins s2 σ H2 _ I2 q2) fun vu s3 ⟨u,H3,I3,pu,q3⟩=>?_)
 rw [evalPart_none]
 refine wpAny_pure ?_
 have I4:Inv X pins σ H3 { s3 with heap:=s3.heap.push { cls:=.type "slice",data:=.fields #[vl,vu,.none] } }:=I3.kept (t':=s3.toks) fun b ob q=>Heap.get?_push_of_some _ q
 obtain⟨T,id,hT,ht,hg⟩:=hr pins { s3 with heap:=s3.heap.push { cls:=.type "slice",data:=.fields #[vl,vu,.none] } } σ H3 x v vl vu l u s3.heap.objs.size Q I4 r1 (Heap.IsSliceOf.new ..) pl pu q3
 show wpAny (model X.prog X.w) X.A (subscriptTail e (.Slice lo hi none p2) v (.ref s3.heap.objs.size)) (EP X pins σ Q) X.xe { s3 with heap:=s3.heap.push { cls:=.type "slice",data:=.fields #[vl,vu,.none] } }
 exact tail_any (ops:=[.ref s3.heap.objs.size,v]) ht hT hg (by with_unfolding_all rfl)
def cutV (xs:List V) (lo hi:Option Int):List V:=(xs.drop (HT.sIx xs.length 0 lo)).take (HT.sIx xs.length xs.length hi-HT.sIx xs.length 0 lo)
theorem cutV_length (xs:List V) (lo hi:Option Int):(cutV xs lo hi).length<=xs.length:=by
 unfold cutV
 rw [List.length_take,List.length_drop]
 omega
inductive IrSlT (K:PySem.W.Frag) (x:V) (lo:Option Int) (hi:Option Int) (H:Hp) (Q:VK):Prop
  | mk (a:_) (xs:_) (h0:x = .ref a) (h1:SqT K H a xs) (h2:¬(HT.sIx xs.length 0 lo=0/\HT.sIx xs.length xs.length hi=xs.length)) (h3:∀p,H p=none->Q (.ref p) (upd H p (.tup (cutV xs lo hi)))):IrSlT K x lo hi H Q
def rSlT (K:PySem.W.Frag):V->Option Int->Option Int->Hp->VK->Prop:=fun x lo hi H Q=>IrSlT K x lo hi H Q
theorem sl_tup:SlR X (rSlT X.K):=by
 intro pins s σ H x v vl vu lo hi sl Q I rx hs pl pu h
 obtain⟨a,xs,rfl,hx,hw,q⟩:=h
 cases rx
 obtain⟨its,r,ht,hz⟩:=I.tuple hx
 have hlen:its.toArray.size=xs.length:=by rw [List.size_toArray]; exact r.length.symm
 refine⟨"tuple",_,PyProof.Rows.slot_tuple_getitem.lookup,ht.typeIs,?_⟩
 refine HT.getItem_tuple_cut ht hs pl pu (by rw [hlen]; exact hw) ?_ (by rw [hlen]; exact hz)
 rw [hlen]
 refine⟨.ref s.heap.objs.size,_,I.laid (t':=s.toks) (o:=.tup (cutV xs lo hi)) (fun b ob q=>Heap.get?_push_of_some _ q) (Nat.le_refl _) ?_,rfl,q _ (I.hok.fresh (Nat.le_refl _))⟩
 exact⟨Nat.le_trans (cutV_length xs lo hi) hz,_,(r.drop (HT.sIx xs.length 0 lo)).take (HT.sIx xs.length xs.length hi-HT.sIx xs.length 0 lo),IsTup.new _ _⟩
theorem Vals.nil_iff {xs:List V} {us:List Value} (r:Vals xs us):us=[]↔xs=[]:=by
 cases r with
 | nil=>simp
 | cons _ _=>simp
end
end L2
namespace L2
open PySem PySem.Spec PyProof.Rows
def ixN (n:Nat) (i:Int):Option Nat:=if 0<=i then (if i<n then some i.toNat else none) else if -(n:Int)<=i then some (i+n).toNat else none
def atI {α : Type} (xs:List α) (i:Int):Option α:=(ixN xs.length i).bind fun j=>xs[j]?
theorem ixN_seq {n:Nat} {i:Int} {j:Nat} (h:ixN n i=some j):seqIndex? i n=some j/\j<n /\ -(n:Int)<=i/\i<n:=by
 unfold ixN at h
 by_cases h0:0<=i
 · rw [if_pos h0] at h
   by_cases h1:i<n
   · rw [if_pos h1] at h
     have e:i.toNat=j:=Option.some.inj h
     exact⟨by rw [seqIndex_of h0 h1,e],by omega,by omega,h1⟩
   · rw [if_neg h1] at h; cases h
 · rw [if_neg h0] at h
   by_cases h1 : -(n:Int)<=i
   · rw [if_pos h1] at h
     have e:(i+n).toNat=j:=Option.some.inj h
     exact⟨by rw [seqIndex_neg (by omega) h1,e],by omega,h1,by omega⟩
   · rw [if_neg h1] at h; cases h
theorem atI_get {α : Type} {xs:List α} {i:Int} {v : α} (h:atI xs i=some v):∃j,seqIndex? i xs.length=some j/\xs[j]? = some v/\j<xs.length /\ -(xs.length:Int)<=i/\i<xs.length:=by
 unfold atI at h
 cases e:ixN xs.length i with
 | none=>rw [e] at h; cases h
 | some j=>
   rw [e] at h
   obtain⟨h1,h2,h3,h4⟩:=ixN_seq e
   exact⟨j,h1,h,h2,h3,h4⟩
theorem atI_nat {α : Type} {xs:List α} {j:Nat} {v : α} (h:xs[j]? = some v):atI xs (j:Int)=some v:=by
 have hj:j<xs.length:=(List.getElem?_eq_some_iff.mp h).1
 have e:ixN xs.length (j:Int)=some j:=by
  unfold ixN
  rw [if_pos (by omega),if_pos (by omega)]; simp
 unfold atI; rw [e]; exact h
def PlainIx (b:Expr):Prop:=∀o i,subscripted b false o i=operate [o,i] (getItem o i)
def IxR (X:Cx) (r:R2):Prop:=
 ∀ (value slice:Expr) (pins:List (Addr × Obj)) (s:Shared) (σ : St) (H:Hp) (x y:V) (v u:Value) (Q:VK),Inv X pins σ H s->RelV x v->RelV y u->r x y H Q ->
   subscripted slice false v u=operate [v,u] (getItem v u)->wpAny (model X.prog X.w) X.A (subscriptTail value slice v u) (EP X pins σ Q) X.xe s
def MtR (X:Cx) (id:String) (r:V->List V->Hp->VK->Prop):Prop:=
 ∀ (pins:List (Addr × Obj)) (s:Shared) (σ : St) (H:Hp) (x:V) (xs:List V) (v:Value) (us:List Value) (Q:VK),Inv X pins σ H s->RelV x v->Vals xs us->r x xs H Q ->
   wpAny (model X.prog X.w) X.A (call (.builtin id) (v::us)) (EP X pins σ Q) X.xe s
section
variable {X:Cx} {a b:Expr} {ta tb:TE} {pos:Pos}
theorem IxR.or {r r':R2} (h:IxR X r) (h':IxR X r'):IxR X (fun x y H Q=>r x y H Q \/ r' x y H Q):=by
 intro value slice pins s σ H x y v u Q I rx ry q hs
 rcases q with q | q
 · exact h value slice pins s σ H x y v u Q I rx ry q hs
 · exact h' value slice pins s σ H x y v u Q I rx ry q hs
theorem pe_ix {r:R2} (hr:IxR X r) (ha:PE X a ta) (hb:PE X b tb) (hs:PlainIx b):PE X (.Subscript a b pos) (tOp r ta tb):=by
 intro pins s σ H Q I h
 exact Subscript_ (binT ha hb I h fun v u s2 x y H2 I2 rx ry q=>hr a b pins s2 σ H2 x y v u Q I2 rx ry q (hs _ _))
inductive IrIxL (K:PySem.W.Frag) (x:V) (y:V) (H:Hp) (Q:VK):Prop
  | mk (p:_) (xs:_) (i:_) (v:_) (h0:x = .ref p) (h1:y = .int i) (h2:SqL K H p xs) (h3:atI xs i=some v) (h4:Q v H):IrIxL K x y H Q
def rIxL (K:PySem.W.Frag):R2:=fun x y H Q=>IrIxL K x y H Q
inductive IrIxT (K:PySem.W.Frag) (x:V) (y:V) (H:Hp) (Q:VK):Prop
  | mk (p:_) (xs:_) (i:_) (v:_) (h0:x = .ref p) (h1:y = .int i) (h2:SqT K H p xs) (h3:atI xs i=some v) (h4:Q v H):IrIxT K x y H Q
def rIxT (K:PySem.W.Frag):R2:=fun x y H Q=>IrIxT K x y H Q
inductive IrIxS (x:V) (y:V) (H:Hp) (Q:VK):Prop
  | mk (z:_) (i:_) (c:_) (h0:x = .str z) (h1:y = .int i) (h2:z.length<=sizeLine) (h3:atI z.cps.toList i=some c) (h4:Q (.str ⟨#[c]⟩) H):IrIxS x y H Q
def rIxS:R2:=fun x y H Q=>IrIxS x y H Q
theorem ix_list:IxR X (rIxL X.K):=by
 intro value slice pins s σ H x y v u Q I rx ry h hs
 obtain⟨p,xs,i,z,rfl,rfl,hq,he,q⟩:=h
 cases rx
 obtain⟨t,rfl⟩:=ry
 obtain⟨its,r,pl,hz⟩:=I.list hq
 obtain⟨j,h1,h2,h3,h4,h5⟩:=atI_get he
 obtain⟨w,ew,rw'⟩:=r.get h2
 have hl:=r.length
 have hn:=line63
 have fin:EP X pins σ Q w s:=⟨z,H,I,rw',q⟩
 by_cases h0:0<=i
 · have hj:i.toNat=j:=by
     rw [seqIndex_of h0 h5] at h1
     exact Option.some.inj h1
   exact item_listR pl.isList h0 (by omega) (by rw [hj]; simpa using ew) fin hs
 · have hj:(i+(its.toArray.size:Int)).toNat=j:=by
     rw [seqIndex_neg (by omega) h4] at h1
     rw [List.size_toArray,<- hl]
     exact Option.some.inj h1
   exact subscriptTail_builtinR (x:=w) pl.isList.typeIs slot_list_getitem.lookup
     (wpAny_getItem_list_neg (Q:=fun r s'=>r=w/\EP X pins σ Q r s') pl.isList (by omega) (by rw [List.size_toArray] <;> omega) (by omega) (by rw [hj]; simpa using ew) ⟨rfl,fin⟩) hs
theorem ix_tup:IxR X (rIxT X.K):=by
 intro value slice pins s σ H x y v u Q I rx ry h hs
 obtain⟨p,xs,i,z,rfl,rfl,hq,he,q⟩:=h
 cases rx
 obtain⟨t,rfl⟩:=ry
 obtain⟨its,r,pl,hz⟩:=I.tuple hq
 obtain⟨j,h1,h2,h3,h4,h5⟩:=atI_get he
 obtain⟨w,ew,rw'⟩:=r.get h2
 have hl:=r.length
 have hn:=line63
 have fin:EP X pins σ Q w s:=⟨z,H,I,rw',q⟩
 exact subscriptTail_builtinR (x:=w) pl.typeIs slot_tuple_getitem.lookup
   (getItem_tuple (j:=j) (Q:=fun r s'=>r=w/\EP X pins σ Q r s') pl (by omega) (by omega) (by rw [List.size_toArray,<- hl]; exact h1) (by simpa using ew) ⟨rfl,fin⟩) hs
theorem ix_str:IxR X rIxS:=by
 intro value slice pins s σ H x y v u Q I rx ry h hs
 obtain⟨z,i,c,rfl,rfl,hz,he,q⟩:=h
 obtain⟨t,rfl⟩:=rx
 obtain⟨t',rfl⟩:=ry
 obtain⟨j,h1,h2,h3,h4,h5⟩:=atI_get he
 have hl:z.cps.toList.length=z.length:=by simp [Str.length]
 rw [hl] at h1 h4 h5
 have hn:=line63
 exact tail_any (typeIs_str s z t) slot_str_getitem.lookup (getItem_str (c:=c) (by
  have e1:decide (i < -(2^63:Int))=false:=decide_eq_false (by omega)
  have e2:decide (i >= 2^63)=false:=decide_eq_false (by omega)
  rw [e1,e2,Bool.or_false]) (by rw [h1]; simpa using h2) ⟨.str ⟨#[c]⟩,H,I.tok _,⟨_,rfl⟩,q⟩) hs
theorem mapSeq_set (its:List Value) (n j:Nat) (u:Value):Obj.mapSeq (·.setIfInBounds j u) { cls:=.type "list",data:=.seq its.toArray n } = { cls:=.type "list",data:=.seq (its.set j u).toArray n }:=by
 simp [Obj.mapSeq]
theorem Inv.lst {pins:List (Addr × Obj)} {σ : St} {H:Hp} {s:Shared} {p:Addr} {xs:List V} (I:Inv X pins σ H s) (h:H p=some (.lst xs)) :
    ∃(its:List Value) (n:Nat),Vals xs its/\s.heap.get? p=some { cls:=.type "list",data:=.seq its.toArray n } /\ xs.length<=sizeLine:=by
  obtain⟨z,its,n,r,e⟩:=I.hok p _ h
  exact⟨its,n,r,e,z⟩
theorem Inv.lstUpd {pins:List (Addr × Obj)} {σ : St} {H:Hp} {s:Shared} {p:Addr} {xs ys:List V} {its its':List Value} {n n':Nat} {f:Obj->Obj} (I:Inv X pins σ H s) (h:H p=some (.lst xs))
    (ho:s.heap.get? p=some { cls:=.type "list",data:=.seq its.toArray n }) (hf:f { cls:=.type "list",data:=.seq its.toArray n } = { cls:=.type "list",data:=.seq its'.toArray n' }) (r:Vals ys its') (hz:ys.length<=sizeLine) (t:Nat) :
    Inv X pins σ (upd H p (.lst ys)) { s with heap:=s.heap.update p f,toks:=t }:=by
  have e:(s.heap.update p f).get? p=some { cls:=.type "list",data:=.seq its'.toArray n' }:=by
   rw [Heap.get?_update_self f ho (by rw [hf] <;> rfl),hf]
  refine I.write (x:=p) (e:=p) (by rw [h]; trivial) (.inl rfl) (fun b u hb q=>(Heap.get?_update_other _ _ (Ne.symm hb)).trans q) ⟨_,e⟩ ?_
  exact⟨hz,its',n',r,e⟩
inductive IrSetL (o:V) (i:V) (v:V) (H:Hp) (Q:Hp->Prop):Prop
  | mk (p:_) (xs:_) (k:_) (j:_) (h0:o = .ref p) (h1:i = .int k) (h2:H p=some (.lst xs)) (h3:ixN xs.length k=some j) (h4:Q (upd H p (.lst (xs.set j v)))):IrSetL o i v H Q
def rSetL:V->V->V->Hp->(Hp->Prop)->Prop:=fun o i v H Q=>IrSetL o i v H Q
theorem set_list:PSet X rSetL:=by
 intro pins s σ H o i v ov iv u Q I ro ri rv h
 obtain⟨p,xs,k,j,rfl,rfl,hp,hj,q⟩:=h
 cases ro
 obtain⟨t,rfl⟩:=ri
 obtain⟨its,n,r,ho,hz⟩:=I.lst hp
 obtain⟨h1,h2,h3,h4⟩:=ixN_seq hj
 have hl:=r.length
 have hn:=line63
 have I':Inv X pins σ (upd H p (.lst (xs.set j v))) { s with heap:=s.heap.update p (Obj.mapSeq (·.setIfInBounds j u)) }:=
  I.lstUpd hp ho (mapSeq_set its n j u) (r.set rv j) (by rw [List.length_set]; exact hz) s.toks
 by_cases h0:0<=k
 · have hk:k.toNat=j:=by
     rw [seqIndex_of h0 h4] at h1
     exact Option.some.inj h1
   exact PySem.W.ki_setAt ho h0 (by omega) (by rw [List.size_toArray,<- hl]; exact h4) (by rw [hk]; exact⟨_,I',q⟩)
 · have hk:(k+(its.toArray.size:Int)).toNat=j:=by
     rw [seqIndex_neg (by omega) h3] at h1
     rw [List.size_toArray,<- hl]
     exact Option.some.inj h1
   exact PySem.W.ki_setBack ho (by omega) (by rw [List.size_toArray,<- hl]; exact h3) (by omega) (by rw [hk]; exact⟨_,I',q⟩)
theorem slice_bounds (lo hi:Option Int) (n:Nat):(sliceBounds lo hi none n).1=((HT.sIx n 0 lo:Nat):Int)/\(sliceBounds lo hi none n).2.1=((HT.sIx n n hi:Nat):Int)/\(sliceBounds lo hi none n).2.2=1:=by
 refine⟨?_,?_,rfl⟩
 · cases lo with
   | none=>simp [sliceBounds,HT.sIx]
   | some i=>
     simp only [sliceBounds,HT.sIx,Option.getD_none,show (1:Int) > 0 by decide,if_true]
     by_cases h:i<0
     · simp only [h,if_true] <;> omega
     · simp only [h,if_false] <;> omega
 · cases hi with
   | none=>simp [sliceBounds,HT.sIx]
   | some i=>
     simp only [sliceBounds,HT.sIx,Option.getD_none,show (1:Int) > 0 by decide,if_true]
     by_cases h:i<0
     · simp only [h,if_true] <;> omega
     · simp only [h,if_false] <;> omega
theorem slicePick_cut (its:List Value) (lo hi:Option Int):slicePick its.toArray lo hi none=((its.drop (HT.sIx its.length 0 lo)).take (HT.sIx its.length its.length hi-HT.sIx its.length 0 lo)).toArray:=by
 obtain⟨h1,h2,h3⟩:=slice_bounds lo hi its.toArray.size
 unfold slicePick
 rw [h1,h2,h3]
 simp only [sliceRange_one,pick_run,List.size_toArray] <;> rfl
inductive IrSlL (K:PySem.W.Frag) (x:V) (lo:Option Int) (hi:Option Int) (H:Hp) (Q:VK):Prop
  | mk (a:_) (xs:_) (h0:x = .ref a) (h1:SqL K H a xs) (h2:∀p,H p=none->Q (.ref p) (upd H p (.lst (cutV xs lo hi)))):IrSlL K x lo hi H Q
def rSlL (K:PySem.W.Frag):V->Option Int->Option Int->Hp->VK->Prop:=fun x lo hi H Q=>IrSlL K x lo hi H Q
theorem sl_list:SlR X (rSlL X.K):=by
 intro pins s σ H x v vl vu lo hi sl Q I rx hs pl pu h
 obtain⟨a,xs,rfl,hx,q⟩:=h
 cases rx
 obtain⟨its,r,ht,hz⟩:=I.list hx
 have hlen:=r.length
 refine⟨"list",_,slot_list_getitem.lookup,ht.isList.typeIs,?_⟩
 refine wpAny_getItem_list_slice ht.isList hs pl pu .none (by simp) ?_ (by rw [List.size_toArray] <;> omega)
 rw [slicePick_cut,<- hlen]
 refine⟨.ref s.heap.objs.size,_,I.laid (t':=s.toks) (o:=.lst (cutV xs lo hi)) (fun b ob q=>Heap.get?_push_of_some _ q) (Nat.le_refl _) ?_,rfl,q _ (I.hok.fresh (Nat.le_refl _))⟩
 exact⟨Nat.le_trans (cutV_length xs lo hi) hz,_,0,(r.drop (HT.sIx xs.length 0 lo)).take (HT.sIx xs.length xs.length hi-HT.sIx xs.length 0 lo),Heap.get?_push_size _ rfl⟩
theorem call_len_seq:CallR X (.builtin "len") (fun xs H Q=>∃p ys,xs=[.ref p]/\(SqL X.K H p ys \/ SqT X.K H p ys)/\Q (.int ys.length) H):=by
 intro pins s σ H xs us Q I r h
 obtain⟨p,ys,rfl,hq,q⟩:=h
 obtain⟨u,rfl,rx⟩:=vals1 r
 cases rx
 have hn:=line63
 rcases hq with hq | hq
 · obtain⟨its,r',pl,hz⟩:=I.list hq
   have hlen:=r'.length
   exact Calls.call_len_list pl.isList (by simp only [List.size_toArray] <;> omega) ⟨.int ys.length,H,I.tok _,⟨s.toks+1,by rw [List.size_toArray,hlen]⟩,q⟩
 · obtain⟨its,r',pl,hz⟩:=I.tuple hq
   have hlen:=r'.length
   exact len_tuple pl (by simp only [List.size_toArray] <;> omega) ⟨.int ys.length,H,I.tok _,⟨s.toks+1,by rw [List.size_toArray,hlen]⟩,q⟩
theorem call_len_str:CallR X (.builtin "len") (fun xs H Q=>∃z,xs=[.str z]/\z.length<=sizeLine/\Q (.int z.length) H):=by
 intro pins s σ H xs us Q I r h
 obtain⟨z,rfl,hz,q⟩:=h
 obtain⟨u,rfl,t,rfl⟩:=vals1 r
 have hn:=line63
 exact len_str (by omega) ⟨.int z.length,H,I.tok _,⟨_,rfl⟩,q⟩
theorem CallR.or {f:Value} {r r':List V->Hp->VK->Prop} (h:CallR X f r) (h':CallR X f r'):CallR X f (fun xs H Q=>r xs H Q \/ r' xs H Q):=by
 intro pins s σ H xs us Q I rs q
 rcases q with q | q
 · exact h pins s σ H xs us Q I rs q
 · exact h' pins s σ H xs us Q I rs q
theorem call_tuple_of:CallR X (.type "tuple") (fun xs H Q=>∃p ys,xs=[.ref p]/\((SqL X.K H p ys /\ ∀l,H l=none->Q (.ref l) (upd H l (.tup ys))) \/ (SqT X.K H p ys/\Q (.ref p) H))):=by
 intro pins s σ H xs us Q I r h
 obtain⟨p,ys,rfl,h⟩:=h
 obtain⟨u,rfl,rx⟩:=vals1 r
 cases rx
 rcases h with ⟨hq,q⟩ | ⟨hq,q⟩
 · obtain⟨its,r',pl,hz⟩:=I.list hq
   have hlen:=r'.length
   refine call_tuple_list pl.isList (fun h' kp=>?_) (by simp only [List.size_toArray] <;> omega)
   have I1:Inv X pins σ H { s with heap:=h' }:=I.kept (t':=s.toks) kp
   have I2:Inv X pins σ (upd H h'.objs.size (.tup ys)) { s with heap:=h'.push { cls:=.type "tuple",data:=.seq its.toArray } }:=
    I1.laid (t':=s.toks) (fun b o e=>Heap.get?_push_of_some _ e) (Nat.le_refl _) (show ObjOk X.prog X.w _ _ _ (.tup ys) from ⟨hz,its,r',IsTup.new _ _⟩)
   exact⟨.ref h'.objs.size,_,I2,rfl,q _ (I1.hok.fresh (Nat.le_refl _))⟩
 · obtain⟨its,r',pl,hz⟩:=I.tuple hq
   exact call_tuple_same pl ⟨.ref p,H,I,rfl,q⟩
def tyV (K:PySem.W.Frag) (T:String) (x:V) (H:Hp):Prop:=match x with
 | .str _=>T = "str"
 | .int _=>T = "int"
 | .ref p=>(T = "list" /\ ∃xs,SqL K H p xs) \/ (T = "tuple" /\ ∃o,K.lookup p=some o/\o.cls = .type "tuple" /\ o.dict=none) \/
     (T = "dict" /\ ((∃kvs,H p=some (.dK kvs)) \/ ∃kvs,H p=some (.dT kvs))) \/ (T = "set" /\ ∃S n,H p=some (.set S n))
 | _=>False
theorem tyV_is {pins:List (Addr × Obj)} {σ : St} {H:Hp} {s:Shared} {T:String} {x:V} {v:Value} (I:Inv X pins σ H s) (r:RelV x v) (ty:tyV X.K T x H) :
    s.TypeIs v T /\ ∀a,v = .ref a -> ∃ob,s.heap.get? a=some ob/\ob.dict=none:=by
  cases x with
  | str z=>
    obtain⟨t,rfl⟩:=r
    cases (show T = "str" from ty)
    exact⟨typeIs_str s z t,fun _ e=>nomatch e⟩
  | int i=>
    obtain⟨t,rfl⟩:=r
    cases (show T = "int" from ty)
    exact⟨typeIs_int s i t,fun _ e=>nomatch e⟩
  | ref p=>
    cases r
    rcases ty with ⟨rfl,xs,hq⟩ | ⟨rfl,o,hk,hc,hd⟩ | ⟨rfl,hk⟩ | ⟨rfl,S,n,hk⟩
    · obtain⟨its,_,pl,_⟩:=I.list hq
      refine⟨pl.isList.typeIs,fun a e=>?_⟩
      cases e
      obtain⟨o,n,e,c,hd,_⟩:=pl
      exact⟨o,e,hd⟩
    · refine⟨⟨o,I.kIn p o hk,hc⟩,fun a e=>?_⟩
      cases e
      exact⟨o,I.kIn _ o hk,hd⟩
    · have z:∃o,s.heap.get? p=some o/\o.ExactDict:=by
        rcases hk with ⟨kvs,hk⟩ | ⟨kvs,hk⟩
        · obtain⟨_,_,_,_,o,_,_,e,ex,_⟩:=I.hok p _ hk
          exact⟨o,e,ex⟩
        · obtain⟨_,_,_,_,o,_,_,e,ex,_⟩:=I.hok p _ hk
          exact⟨o,e,ex⟩
      obtain⟨o,e,ex⟩:=z
      refine⟨⟨o,e,ex.1⟩,fun a e2=>?_⟩
      cases e2
      exact⟨o,e,ex.2.1⟩
    · obtain⟨o,_,_,_,e,ex,_⟩:=I.hok p _ hk
      refine⟨⟨o,e,ex.1⟩,fun a e2=>?_⟩
      cases e2
      exact⟨o,e,ex.2.1⟩
  | _=>exact False.elim ty
def tBM (K:PySem.W.Frag) (T:String) (r:V->List V->Hp->VK->Prop) (to:TE) (t:TA):TE:=fun σ H Q=>to σ H fun x H1=>tyV K T x H1/\t σ H1 fun xs H2=>r x xs H2 Q
variable {o e:Expr} {es:List Expr} {to:TE} {t:TA} {name:Str} {apos cpos:Pos} {T id:String} {r:V->List V->Hp->VK->Prop}
theorem pe_bm (pa:PlainAttrs T) (slot:Slot T name id) (hty:typeOf (.builtin id)=pure (.type "method_descriptor")) (hm:MtR X id r) (ho:PE X o to) (ha:PA X (e::es) t)
    (hbase:attributeBase o name X.env (eval o X.env)=eval o X.env:=by rfl)
    (hfew:((backTo cpos (starEach (e::es) X.env)).all (fun x=>!x.1) && (backToKw cpos (keywordEach [] X.env)).all (fun x=>x.1.isSome)
      && decide ((e::es).length+([]:List Keyword).length+(if ([]:List Keyword).isEmpty then 0 else 1)<30))=true:=by rfl)
    (hline:(apos.endLine == cpos.line)=true:=by rfl) (hs:starEach (e::es) X.env=(false,eval e X.env)::starEach es X.env:=by rfl) (hplain:(backTo cpos (starEach es X.env)).any (·.1)=false:=by rfl) :
    PE X (.Call (.Attribute o name apos) (e::es) [] cpos) (tBM X.K T r to t):=by
  intro pins s σ H Q I h
  refine wpAny_Call_method_late hbase hfew hline rfl (thn (ho pins s σ H _ I h) fun v s1 ⟨x,H1,I1,r1,ty,q1⟩=>?_)
  obtain⟨h1,h2⟩:=tyV_is I1 r1 ty
  refine⟨T,id,pa,slot,hty,h1,h2,?_⟩
  have hA:=ha cpos pins s1 σ H1 _ I1 q1
  rw [hs] at hA ⊢
  refine Calls.callWith_builtin (by show (false || (backTo cpos (starEach es X.env)).any (·.1))=false; rw [hplain] <;> rfl) (Calls.evalArgs_plain ?_)
  exact thn hA fun us s2 ⟨vs,H2,I2,r2,q2⟩=>hm pins s2 σ H2 x vs v us Q I2 r1 r2 q2
end
end L2
namespace L2
open PySem PySem.Spec PyProof.Rows
def MtM (X:Cx) (id:String) (r:V->List V->Hp->VK->Prop):Prop:=
 ∀ (pins:List (Addr × Obj)) (s:Shared) (σ : St) (H:Hp) (x:V) (xs:List V) (v:Value) (us:List Value) (Q:VK),Inv X pins σ H s->RelV x v->Vals xs us->r x xs H Q ->
   wpAny (model X.prog X.w) X.A (call (.builtin id) (v::us)) (EP X pins σ Q) X.xe s
theorem Vals.one:∀ {x:V} {us:List Value},Vals [x] us -> ∃u,us=[u]/\RelV x u
  | _,_,.cons r .nil=>⟨_,rfl,r⟩
section
variable {X:Cx} {pins:List (Addr × Obj)} {σ : St} {H:Hp} {s:Shared} {l b:Addr} {xs ys zs:List V}
theorem Inv.lset {its its':List Value} {n:Nat} {f:Array Value->Array Value} {t':Nat} (I:Inv X pins σ H s) (hH:H l=some (.lst xs))
    (e:s.heap.get? l=some { cls:=.type "list",data:=.seq its.toArray n }) (hf:f its.toArray=its'.toArray) (hv:Vals ys its') (hz:ys.length<=sizeLine) :
    Inv X pins σ (upd H l (.lst ys)) { s with heap:=s.heap.update l (Obj.mapSeq f),toks:=t' }:=by
  have q:=PySem.IsL.update e f
  rw [hf] at q
  refine I.write (x:=l) (e:=l) (by rw [hH]; exact trivial) (.inl rfl) (fun b' u hb hu=>(Heap.get?_update_other s.heap (Obj.mapSeq f) (Ne.symm hb)).trans hu) ⟨_,q⟩ ?_
  exact⟨hz,its',_,hv,q⟩
theorem Inv.lnew {its:List Value} {t':Nat} (I:Inv X pins σ H s) (hv:Vals ys its) (hz:ys.length<=sizeLine) :
    Inv X pins σ (upd H s.heap.objs.size (.lst ys)) { s with heap:=s.heap.push { cls:=.type "list",data:=.seq its.toArray },toks:=t' }:=
  I.laid (fun _ _ q=>Heap.get?_push_of_some _ q) (Nat.le_refl _) ⟨hz,its,0,hv,Heap.get?_push_size _ rfl⟩
theorem Inv.lstM (I:Inv X pins σ H s) (hH:H l=some (.lst xs)):xs.length<=sizeLine /\ ∃(its:List Value) (n:Nat),Vals xs its/\xs.length=its.length/\s.heap.get? l=some { cls:=.type "list",data:=.seq its.toArray n }:=by
 obtain⟨z,its,n,r,e⟩:=I.hok l _ hH
 exact⟨z,its,n,r,r.length,e⟩
end
section
variable {X:Cx}
inductive IrAppend (x:V) (vs:List V) (H:Hp) (Q:VK):Prop
  | mk (l:_) (xs:_) (y:_) (h0:x = .ref l) (h1:vs=[y]) (h2:H l=some (.lst xs)) (h3:xs.length<sizeLine) (h4:Q .non (upd H l (.lst (xs++[y])))):IrAppend x vs H Q
def rAppend:V->List V->Hp->VK->Prop:=fun x vs H Q=>IrAppend x vs H Q
theorem mt_append:MtM X "list.append" rAppend:=by
 intro pins s σ H x vs v us Q I rx rv h
 obtain⟨l,xs,y,rfl,rfl,hH,hz,q⟩:=h
 cases rx
 obtain⟨u,rfl,ru⟩:=rv.one
 obtain⟨z,its,n,r,hl,e⟩:=I.lstM hH
 refine call_meets F.slot_list_append ⟨_,e,rfl⟩ F.entry_list_append (F.args_list_append_2 _ _) (PySem.list_append l its.toArray n u (by rw [List.size_toArray]; omega)) ⟨e,?_⟩
 refine⟨.non,_,I.lset (its':=its++[u]) hH e (by simp) (r.append (.cons ru .nil)) ?_,rfl,q⟩
 rw [List.length_append,List.length_singleton]
 omega
end
section
variable {prog:Program} {w:World} {A:Around} {E:Value->Shared->Prop} {s:Shared}
end
section
variable {X:Cx}
end
end L2
namespace Att
open PySem PySem.W PySem.Calls PyProof.Rows
theorem ints_of_wellAll {P:Params} {h:Heap}:∀(ns:List Int) (vs:List Value),WellAll P h vs (ns.map WData.int)->IntsAre vs ns:=by
 intro ns
 induction ns with
 | nil=>
   intro vs w
   rw [List.map_nil] at w
   cases w
   exact .nil
 | cons n ns ih=>
   intro vs w
   rw [List.map_cons] at w
   cases w with
   | cons a b=>
     cases a
     exact .cons _ _ (ih _ b)
theorem script_of {l:OpenLaw} {n:Nat} (hn:l.most=some n) {P:Params} {h:Heap} {args:List WData} {vals:List Value}
    (hpre:l.row.toRowW.claim.pre args=true) (hwl:WellAll P h vals args) :
    ∃a vs ns,vals=[Value.ref a]/\args=[WData.list (ns.map WData.int)]/\h.get? a=some { cls:=.type "list",data:=.seq vs.toArray } /\ IntsAre vs ns/\ns.length<=n:=by
  have hsh:WShape.hasAll [] args [.list .int]=true:=(pre_splitW hpre).1
  have hc:l.pre.holds [] { args:=args } = true:=(pre_splitW hpre).2
  obtain⟨d,r,rfl,h1,h2⟩:=hasAllW_cons hsh
  obtain rfl:=hasAllW_nil h2
  obtain⟨xs,rfl,h3⟩:=hasW_list h1
  obtain⟨ns,rfl⟩:=items_int h3
  have hlen:ns.length<=n:=by
   unfold OpenLaw.pre at hc
   have h4:(WTm.not (.lt (.lit (.int (n:Int))) (.len (.arg 0)))).holds [] { args:=[.list (ns.map .int)] } = true:=by
    have h4:=(holds_andW hc).1
    rw [hn] at h4
    exact h4
   have h5:=condW_of h4 (w_not (w_lt w_lit (w_len_list (w_arg rfl))))
   rw [List.length_map] at h5
   refine Nat.le_of_not_lt fun q=>?_
   have q':(n:Int)<((ns.length:Nat):Int):=by omega
   first
     | (rw [decide_eq_true q'] at h5; exact absurd h5 (by decide))
     | (simp at h5; omega)
  cases hwl with
  | cons w1 w2=>
    cases w2
    cases w1 with
    | list ho hall=>exact⟨_,_,ns,rfl,rfl,ho,ints_of_wellAll ns _ hall,hlen⟩
theorem post_true (l:OpenLaw) (args:List WData):l.row.toRowW.claim.post args (.bool true) args=true:=
 postW_of (r:=l.row.toRowW) (X:=(true == true))
   (show WShape.has [] (.bool true) .bool=true by first | rfl | decide | simp [WShape.has,WShape.arms,WShape.armsAll])
   (show (WTm.eq .res (.lit (.bool true))).value [] { args:=args,res:=some (.bool true),after:=args } = some (.bool (true == true)) from w_eq_bool (w_res rfl) w_lit) rfl
theorem attach_call {l:OpenLaw} {n:Nat} {q:Program} {loose:List Str} {XP:(Str->Option Value)->Heap->Prop} {YP:World->Heap->Prop} {d:DefRec}
    (hn:l.most=some n) (hdf:d.params.defaults=[])
    (call:∀(w:World) (s₀ s₁ : Shared) (mg mb:Str->Option Value) (fa:Addr) (o:Obj) (pm cd doc:Value) (a:Addr) (vs:List Value) (ns:List Int),
      Ground q loose [] XP w s₀ mg mb s₁.heap->YP w s₁.heap ->
      s₁.heap.get? fa=some o->o.data = .func (docDef d.name d.params d.body d.scope pm cd doc)->s₁.heap.CodeRec cd d.name->mg d.name=some (.ref fa) ->
      s₁.heap.get? a=some { cls:=.type "list",data:=.seq vs.toArray } -> IntsAre vs ns->ns.length<=n->s₁.gens = #[] ->
      codeAny (model l.prog w) callerA (.call (.ref fa) ⟨[.ref a],[]⟩) (fun r s'=>r = .ok (.ret (.bool true))/\OldK s₁.heap s'.heap/\s'.os=s₁.os/\AllBare s'.gens) s₁) :
    WalkO q loose XP YP l.row.toRowW d [] (fun f vs=>PySem.call f vs):=by
  intro w s₀ s₁ mg mb G Y fa o pm cd doc dV kV ho hd hcd hD hmg hg args vals as hpre hlay hrd hwl hlo
  obtain rfl:dV = .none:=Dflts.none hD hdf
  obtain rfl:kV = .none:=Dflts.noKw hD
  obtain⟨a,vs,ns,rfl,rfl,hobj,hints,hlen⟩:=script_of hn hpre hwl
  refine enter_call (codeAny_mono (call w s₀ s₁ mg mb fa o pm cd doc a vs ns G Y ho (fd_plain hd) hcd hmg hobj hints hlen hg) fun r s' hq=>?_)
  obtain⟨rfl,h2,h3,h4⟩:=hq
  exact⟨.inl ⟨.bool true,.bool true,[],rfl,fun _=>rfl,.bool true,post_true l _,fun _=>⟨List.Pairwise.nil,fun _ hm=>(nomatch hm)⟩⟩,h2,h3,h4⟩
section
variable {prog:Program} {w:World} {A:Around} {E:Value->Shared->Prop} {s:Shared} {K:Frag}
end
end Att
namespace L2
open PySem PySem.Spec PyProof.Rows
theorem vals_ints:∀ {vs:List Value} {ns:List Int},IntsAre vs ns->Vals (ns.map V.int) vs
  | _,_,.nil=>.nil
  | _,_,.cons n t h=>.cons ⟨t,rfl⟩ (vals_ints h)
def Only (H:Hp):Prop:=∀b,H b=none \/ ∃o xs,H b=some (.frz o (.lst xs))
theorem law_call {P:Program} {w:World} {K:PySem.W.Frag} {mg mb:Str->Option Value} {CX:CXT} {k:Nat} {fa a:Addr} {fd:FuncData} {x:Str} {sp:Sp} {s₁ : Shared} {vs:List Value} {ns:List Int}
    (KX:K.In s₁.heap) (hns:s₁.heap.Ns mainGlobals mg) (hb:s₁.heap.Ns builtinsNs mb) (hbb:∀x:Str,x ≠ "__name__" -> mb x=bootBuiltins x) (hlim:s₁.heap.NoLimit) (hg:s₁.gens = #[])
    (ha:s₁.heap.get? a=some { cls:=.type "list",data:=.seq vs.toArray }) (hi:IntsAre vs ns) (hl:ns.length<=sizeLine) (hr:Room k callerA)
    (F:∀base:Heap,K.In base->base.Ns mainGlobals mg->FnOk P w K mg base CX k fa fd [x] sp) (hbind:∀(s:Shared) (u:Value),BindsTo s fd ⟨[u],[]⟩ [(x,u)])
    (hsp:∀H:Hp,Only H->SqL K H a (ns.map V.int)->sp [.ref a] H (fun v _=>v = .bl true) fun _ _ _=>False)
    (hCX:∀H e s',CX [] H s₁ (fun _ _ _=>False) e s'->False) :
    codeAny (model P w) callerA (.call (.ref fa) ⟨[.ref a],[]⟩) (fun r s'=>r = .ok (.ret (.bool true))/\OldK s₁.heap s'.heap/\s'.os=s₁.os/\AllBare s'.gens) s₁:=by
  have rv:=vals_ints hi
  have lenV:=hi.length
  have core:∀H:Hp,Only H->SqL K H a (ns.map V.int)->HOk P w H s₁.heap->(∀b,H b≠none->b=a)->(H a≠none->K.lookup a=none) ->
      codeAny (model P w) callerA (.call (.ref fa) ⟨[.ref a],[]⟩) (fun r s'=>r = .ok (.ret (.bool true))/\OldK s₁.heap s'.heap/\s'.os=s₁.os/\AllBare s'.gens) s₁:=by
    intro H hO hS hok hA hK
    have base_of:∀ {b:Addr} {o:Obj},s₁.heap.get? b=some o->H b=none->(hidT s₁.heap H).get? b=some o:=fun e n=>hidT_get e n
    have noA:∀ {b:Addr} {o:Obj} {es:Array DictEntry} {ep:Nat},s₁.heap.get? b=some o->o.data = .dict es ep->H b=none:=fun {b o es ep} e d=>by
     cases q:H b with
     | none=>rfl
     | some u=>
       have e':b=a:=hA b (by rw [q]; simp)
       subst e'
       rw [ha] at e; cases e
       have d':Data.seq vs.toArray _=Data.dict es ep:=d
       cases d'
    have nsK:∀ {b:Addr} {m:Str->Option Value},s₁.heap.Ns b m->(hidT s₁.heap H).Ns b m:=fun {b m} ⟨o,es,ep,e,d,r⟩=>⟨o,es,ep,base_of e (noA e d),d,r⟩
    have hKb:K.In (hidT s₁.heap H):=fun b o e=>base_of (KX b o e) (by
     cases q:H b with
     | none=>rfl
     | some u=>
       have e':b=a:=hA b (by rw [q]; simp)
       subst e'
       rw [hK (by rw [q]; simp)] at e; cases e)
    have hM:Mod K mg (hidT s₁.heap H):=⟨hKb,nsK hns,⟨mb,nsK hb,hbb⟩,let ⟨mc,h1,h2⟩:=hlim; ⟨mc,nsK h1,h2⟩⟩
    have e0:Env0 P w K mg (hidT s₁.heap H) callerA [] s₁ H:=⟨rfl,hM,fun b o e=>of_hidT e,Nat.le_of_eq (hidT_size _ _),trivial,fun b hb=>absurd (show b∈([]:List Addr) from hb) (by simp),hok,.of_eq hg⟩
    refine codeAny_mono ((F _ hKb (nsK hns)).run callerA [] s₁ H ⟨[.ref a],[]⟩ [.ref a] [.ref a] _ _ hr e0 (hbind s₁ (.ref a)) (.cons rfl .nil) (hsp H hO hS)) fun r s' h=>?_
    cases r with
    | error e=>exact (hCX H e s' h).elim
    | ok fl=>
      cases fl with
      | next=>exact False.elim h
      | brk=>exact False.elim h
      | cont=>exact False.elim h
      | ret u=>
        obtain⟨v,H',os,bare,un,hok',r',q⟩:=h
        have q':v = .bl true:=q
        subst q'
        obtain rfl:u=Value.bool true:=r'
        refine⟨rfl,OldK.of_keep fun b o e=>?_,os,bare⟩
        cases q:H b with
        | none=>exact un.keep b o e q (by intro z; exact absurd (show b∈([]:List Addr) from z) (by simp)) (by simp)
        | some u=>
          rcases hO b with z | ⟨ob,xs,z⟩
          · rw [q] at z; cases z
          · have z2:=un.frzs b ob _ z
            obtain⟨e1,_⟩:=hok b _ z
            obtain⟨e2,_⟩:=hok' b _ z2
            rw [e] at e1; cases e1
            exact e2
  cases hk:K.lookup a with
  | some o=>
    have e:=KX a o hk
    rw [ha] at e
    cases e
    refine core (fun _=>none) (fun _=>.inl rfl) (.inr ⟨_,vs.toArray,_,hk,rfl,rfl,rfl,by rw [List.size_toArray,lenV]; exact hl,by simpa using rv⟩) (fun b u z=>by have z':(none:Option HO)=some u:=z; cases z') (fun b z=>absurd rfl z) fun z=>absurd rfl z
  | none=>
    refine core (fun b=>if b=a then some (.frz { cls:=.type "list",data:=.seq vs.toArray } (.lst (ns.map V.int))) else none) (fun b=>?_) (.inl (.inr ⟨{ cls:=.type "list",data:=.seq vs.toArray },if_pos rfl⟩)) (fun b u z=>?_) (fun b z=>?_) fun _=>hk
    · by_cases hb:b=a
      · exact .inr ⟨_,_,if_pos hb⟩
      · exact .inl (if_neg hb)
    · by_cases hb:b=a
      · have z':=(if_pos hb).symm.trans z
        cases z'
        subst hb
        exact⟨ha,by rw [List.length_map]; exact hl,vs,_,rv,ha⟩
      · have z':=(if_neg hb).symm.trans z
        cases z'
    · by_cases hb:b=a
      · exact hb
      · exact absurd (if_neg hb) z
end L2
namespace L2
open PySem PySem.Spec PyProof.Rows
theorem walk_of {l:PySem.W.OpenLaw} {n k:Nat} {q:Program} {loose:List Str} {XP:(Str->Option Value)->Heap->Prop} {YP:World->Heap->Prop} {d:DefRec} {K:Params->PySem.W.Frag} {CX:World->CXT} {sp:World->Sp} {x:Str}
    (hn:l.most=some n) (hn2:n<=sizeLine) (hdf:d.params.defaults=[]) (hr:Room k callerA)
    (hY:∀(w:World) (h:Heap),YP w h->(K w.params).In h)
    (F : ∀(w:World) (mg:Str->Option Value) (fa:Addr) (h:Heap),(K w.params).In h->h.Ns mainGlobals mg->mg d.name=some (.ref fa) ->
      ∃ fd:FuncData,(∀(s:Shared) (u:Value),BindsTo s fd ⟨[u],[]⟩ [(x,u)]) /\
        ∀base:Heap,(K w.params).In base->base.Ns mainGlobals mg->FnOk l.prog w (K w.params) mg base (CX w) k fa fd [x] (sp w))
    (hsp:∀(w:World) (H:Hp) (a:Addr) (ns:List Int),ns.length<=n->Only H->SqL (K w.params) H a (ns.map V.int)->sp w [.ref a] H (fun v _=>v = .bl true) fun _ _ _=>False)
    (hCX:∀(w:World) (H:Hp) (s:Shared) (e:Value) (s':Shared),CX w [] H s (fun _ _ _=>False) e s'->False) :
    PySem.W.WalkO q loose XP YP l.row.toRowW d [] (fun f vs=>PySem.call f vs):=by
  refine Att.attach_call hn hdf fun w s₀ s₁ mg mb fa o pm cd doc a vs ns G Y ho hd hcd hmg hobj hints hlen hg=>?_
  have KX:=hY w _ Y
  obtain⟨fd,hb,hF⟩:=F w mg fa _ KX G.T.g hmg
  exact law_call KX G.T.g G.T.b G.T.builtins G.T.nolimit hg hobj hints (Nat.le_trans hlen hn2) hr hF hb (fun H hO hS=>hsp w H a ns hlen hO hS) fun H e s'=>hCX w H s₁ e s'
end L2
namespace L2
open PySem PySem.Spec PyProof.Rows
def defArgs (s:Stmt):Arguments:=match s with
 | .FunctionDef _ a _ _ _ _ _ _ _ _=>a
 | _=>{ posonlyargs:=[],args:=[],vararg:=none,kwonlyargs:=[],kw_defaults:=[],kwarg:=none,defaults:=[] }
def defBody (s:Stmt):List Stmt:=match s with
 | .FunctionDef _ _ b _ _ _ _ _ _ _=>b
 | _=>[]
def defScope (s:Stmt):Scope:=match s with
 | .FunctionDef _ _ _ _ _ _ sc _ _ _=>sc
 | _=>{ kind:=.function,names:=[],isGenerator:=false,isCoroutine:=false }
abbrev CX0:CXT:=fun _ _ _ _ _ _=>False
abbrev E0:XK:=fun _ _ _=>False
theorem pass0 {X:Cx}:Passes CX0 X E0:=fun _ _ _ _ _ _ _ h=>h.elim
structure Fun (K:PySem.W.Frag) (x qual:Str) (st:Stmt) (f:Addr) (fd:FuncData):Prop where
 ex : ∃(oc:Value) (od:Option Addr) (kV doc pm:Value) (an:Option Addr) (cdv ct:Value) (osl:Array (Option Value)),
   fd=PySem.W.fnOf x qual (defArgs st) (defBody st) (defScope st) .none kV doc pm an cdv ct/\K.lookup f=some ⟨oc,od,.func fd,osl⟩/\PySem.W.codeIn K cdv qual=true
 kp:PySem.W.keepIn K (.ref f)=true
section
variable {P:Program} {w:World} {K:PySem.W.Frag} {mg:Str->Option Value} {base:Heap}
theorem Fun.ok {x qual:Str} {st:Stmt} {f:Addr} {fd:FuncData} {N ps:List Str} {k:Nat} {sp:Sp} (F:Fun K x qual st f fd) (S:FnScope N ps (defScope st)) (len:∀vs H Q E,sp vs H Q E->vs.length=ps.length)
    (hbody:∀(cdv:Value) (A:Around) (outer:List Env) (s:Shared) (H:Hp) (vs:List V) (Q:VK) (E:XK),Room k (A.deeper (envOfC qual (defScope st) s.heap.objs.size f cdv))->sp vs H Q E ->
      ∃t,PSs (cxOf CX0 P w K mg base N qual (defScope st) f cdv A outer s H E).nox (defBody st) t/\t { nx:=fun _ H'=>Q .non H',rt:=Q } (start N vs) H):FnOk P w K mg base CX0 (k+1) f fd ps sp:=by
  obtain⟨oc,od,kV,doc,pm,an,cdv,ct,osl,rfl,lk,hcd⟩:=F.ex
  refine fn_of lk hcd S len fun A outer s H vs Q E hr hsp=>?_
  obtain⟨t,h,q⟩:=hbody cdv A outer s H vs Q E hr hsp
  exact⟨t,h.nox,q⟩
theorem Fun.binds {x qual:Str} {st:Stmt} {f:Addr} {fd:FuncData} {ps:List Str} (F:Fun K x qual st f fd)
    (h:∀(kV doc pm:Value) (an:Option Addr) (cdv ct:Value) (us:List Value),us.length=ps.length->bindArgs (PySem.W.fnOf x qual (defArgs st) (defBody st) (defScope st) .none kV doc pm an cdv ct) ⟨us,[]⟩=pure (ps.zip us)):Binds K fd ps []:=by
  obtain⟨oc,od,kV,doc,pm,an,cdv,ct,osl,rfl,lk,hcd⟩:=F.ex
  exact .all (h kV doc pm an cdv ct)
theorem fun_mk {x qual:Str} {st:Stmt} {f:Addr} {oc:Value} {od an:Option Addr} {osl:Array (Option Value)} {kV doc pm cdv ct:Value} (l:K.lookup f=some ⟨oc,od,.func (PySem.W.fnOf x qual (defArgs st) (defBody st) (defScope st) .none kV doc pm an cdv ct),osl⟩)
    (c:PySem.W.codeIn K cdv qual=true) (k:PySem.W.keepIn K (.ref f)=true):Fun K x qual st f (PySem.W.fnOf x qual (defArgs st) (defBody st) (defScope st) .none kV doc pm an cdv ct):=⟨⟨oc,od,kV,doc,pm,an,cdv,ct,osl,rfl,l,c⟩,k⟩
end
section
variable {X:Cx}
theorem pv (i:Nat) {x:Str} {pos:Pos} (hN:X.N[i]? = some x:=by rfl) (hv:Vis X.env.scope x:=by first | exact Or.inl rfl | exact Or.inr (Or.inl rfl) | exact Or.inr (Or.inr rfl)) (hd:(x == ("__debug__" : Str))=false:=by decide)
    (hcd:(x == ("__classdict__" : Str))=false:=by decide):PE X (.Name x pos) (tVar i):=pe_var hN hv hd hcd
end
theorem iteF {A B:Prop} (h:B):if false=true then A else B:=by
 rw [if_neg Bool.false_ne_true]
 exact h
theorem iteT {A B:Prop} (h:A):if true=true then A else B:=by
 rw [if_pos rfl]
 exact h
theorem ite2 {c A B:Prop} [Decidable c] (h1:c->A) (h2:¬c->B):if c then A else B:=by
 by_cases h:c
 · rw [if_pos h]
   exact h1 h
 · rw [if_neg h]
   exact h2 h
def Same (H H':Hp):Prop:=∀b o,H b=some o->H' b=some o
theorem Same.refl (H:Hp):Same H H:=fun _ _ h=>h
theorem Same.trans {H H1 H2:Hp} (a:Same H H1) (b:Same H1 H2):Same H H2:=fun c o h=>b c o (a c o h)
theorem Same.seq {K:PySem.W.Frag} {H H':Hp} {a:Addr} {xs:List V} (e:Same H H') (h:SqL K H a xs):SqL K H' a xs:=by
 rcases h with (h | ⟨o,h⟩) | h
 · exact .inl (.inl (e _ _ h))
 · exact .inl (.inr ⟨o,e _ _ h⟩)
 · exact .inr h
end L2
set_option Elab.async false
set_option linter.all false
set_option maxRecDepth 100000
namespace L2
open PySem PySem.Spec PyProof.Rows
def Wd (i:Int):Prop:=i.natAbs<2^5000
theorem Wd.log {i:Int} (h:Wd i):i.natAbs.log2<9000:=by
 by_cases e:i.natAbs=0
 · rw [e]; decide
 · have h1:i.natAbs.log2<5000:=(Nat.log2_lt e).mpr h
   omega
section
variable {X:Cx}
theorem op_fdivW:OpR X (binaryOp .FloorDiv) (rI (fun _ j=>0<j/\Wd j) fun i j=>.int (i / j)):=opI fun i j _ _ _ _ _ hc q=>by
 have h1:(0:Int)<j:=hc.1
 exact floordiv_int (by omega) (by rw [Int.fdiv_eq_ediv_of_nonneg i (by omega)]; exact q) (.inl (PyProof.noPylong_of_log2 hc.2.log))
end
def TyN (K:PySem.W.Frag) (H:Hp) (x:V) (T:String):Prop:=
 match x with
 | .non=>T = "NoneType"
 | .bl _=>T = "bool"
 | .int _=>T = "int"
 | .str _=>T = "str"
 | .ref a=>(T = "list" /\ ∃xs,SqL K H a xs) \/ (T = "tuple" /\ ∃xs,SqT K H a xs)
 | _=>False
def tyIs (T n:String):Bool:=T == n || (T == "bool" && n == "int")
def tyNames:List String:=["NoneType","bool","int","str","list","tuple"]
def tyWords:List String:=["bool","int","str","list","tuple"]
theorem kit_ty {K:PySem.W.Frag} {T n:String} (h1:T∈tyNames) (h2:n∈tyWords):PySem.W.kitOne K (.type T) (.type n)=some (tyIs T n):=by
 have all:tyNames.all (fun T=>tyWords.all fun n=>PySem.W.kitOne [] (.type T) (.type n) == some (tyIs T n))=true:=by decide +kernel
 have a1:=List.all_eq_true.mp all T h1
 have a2:=List.all_eq_true.mp a1 n h2
 have e:PySem.W.kitOne K (.type T) (.type n)=PySem.W.kitOne [] (.type T) (.type n):=by
  unfold PySem.W.kitOne PySem.W.kitCls PySem.W.subIn
  rfl
 rw [e]
 exact beq_iff_eq.mp a2
section
variable {X:Cx}
theorem TyN.mem {K:PySem.W.Frag} {H:Hp} {x:V} {T:String} (h:TyN K H x T):T∈tyNames:=by
 cases x with
 | non=>cases (show T = "NoneType" from h); decide
 | bl b=>cases (show T = "bool" from h); decide
 | int b=>cases (show T = "int" from h); decide
 | str b=>cases (show T = "str" from h); decide
 | ref a=>rcases (show (T = "list" /\ ∃xs,SqL K H a xs) \/ (T = "tuple" /\ ∃xs,SqT K H a xs) from h) with ⟨e,_⟩ | ⟨e,_⟩ <;> cases e <;> decide
 | _=>exact (show False from h).elim
theorem kit_of {pins:List (Addr × Obj)} {s:Shared} {σ : St} {H:Hp} {x:V} {u:Value} {T:String} (I:Inv X pins σ H s) (rx:RelV x u) (ty:TyN X.K H x T) :
    ∃P:Heap->Prop,PySem.W.KitX X.K u (.type T) P/\P s.heap/\u ≠ .builtin "__main__.__loader__#opaque":=by
  cases x with
  | non=>cases (show T = "NoneType" from ty); cases (show u=Value.none from rx); exact⟨_,PySem.W.kitx_none,True.intro,fun z=>nomatch z⟩
  | bl b=>cases (show T = "bool" from ty); cases (show u=Value.bool b from rx); exact⟨_,PySem.W.kitx_bool,True.intro,fun z=>nomatch z⟩
  | int b=>cases (show T = "int" from ty); obtain⟨t,q⟩:=(show ∃t,u=Value.int b t from rx); cases q; exact⟨_,PySem.W.kitx_int,True.intro,fun z=>nomatch z⟩
  | str b=>cases (show T = "str" from ty); obtain⟨t,q⟩:=(show ∃t,u=Value.str b t from rx); cases q; exact⟨_,PySem.W.kitx_str,True.intro,fun z=>nomatch z⟩
  | ref a=>
    cases (show u=Value.ref a from rx)
    rcases (show (T = "list" /\ ∃xs,SqL X.K H a xs) \/ (T = "tuple" /\ ∃xs,SqT X.K H a xs) from ty) with ⟨e,xs,hx⟩ | ⟨e,xs,hx⟩
    · cases e
      obtain⟨its,r,⟨o,n,h1,h2,_⟩,_⟩:=I.list hx
      exact⟨_,PySem.W.kitx_list,⟨o,h1,h2⟩,fun z=>nomatch z⟩
    · cases e
      obtain⟨its,r,⟨o,h1,h2,_⟩,_⟩:=I.tuple hx
      exact⟨_,PySem.W.kitx_tuple,⟨o,h1,h2⟩,fun z=>nomatch z⟩
  | _=>exact (show False from ty).elim
inductive IrIsi (K:PySem.W.Frag) (xs:List V) (H:Hp) (Q:VK):Prop
  | mk (x:_) (T:_) (n:_) (b:_) (h0:xs=[x,.ty n]) (h1:TyN K H x T) (h2:n∈tyWords) (h3:tyIs T n=b) (h4:Q (.bl b) H):IrIsi K xs H Q
def rIsi (K:PySem.W.Frag):List V->Hp->VK->Prop:=fun xs H Q=>IrIsi K xs H Q
theorem call_isi:CallR X (.builtin "isinstance") (rIsi X.K):=by
 intro pins s σ H xs us Q I r h
 obtain⟨x,T,n,b,rfl,ty,hn,rfl,q⟩:=h
 obtain⟨u,c,rfl,rx,rc⟩:=vals2 r
 cases (show c=Value.type n from rc)
 obtain⟨P,Z,p,hx⟩:=kit_of I rx ty
 exact PySem.W.kia_one Z I.kIn p (kit_ty ty.mem hn) hx fun tk=>⟨.bl (tyIs T n),H,I.tok _,rfl,q⟩
inductive IrIsiT (K:PySem.W.Frag) (xs:List V) (H:Hp) (Q:VK):Prop
  | mk (x:V) (T:String) (p:Addr) (ns:List String) (b:Bool) (h0:xs=[x,.ref p]) (h1:H p=some (.tup (ns.map V.ty))) (h2:TyN K H x T) (h3:(∀n∈ns,n∈tyWords)) (h4:ns.any (tyIs T)=b) (h5:Q (.bl b) H):IrIsiT K xs H Q
def rIsiT (K:PySem.W.Frag):List V->Hp->VK->Prop:=fun xs H Q=>IrIsiT K xs H Q
theorem kit_tys {K:PySem.W.Frag} {T:String} (h1:T∈tyNames):∀ {ns:List String},(∀n∈ns,n∈tyWords)->PySem.W.kitAny K (.type T) (ns.map Value.type)=some (ns.any (tyIs T))
  | [],_=>rfl
  | n::r,h=>by
    have e:=kit_ty (K:=K) h1 (h n (List.mem_cons_self ..))
    have ih:=kit_tys (K:=K) h1 (ns:=r) fun m hm=>h m (List.mem_cons_of_mem _ hm)
    rw [List.map_cons,PySem.W.kitAny,e,List.any_cons]
    cases tyIs T n with
    | true=>rfl
    | false=>simpa using ih
theorem vals_ty:∀ {ns:List String} {us:List Value},Vals (ns.map V.ty) us->us=ns.map Value.type
  | [],_,.nil=>rfl
  | n::r,_,.cons q t=>by
    cases (show _=Value.type n from q)
    rw [vals_ty t]; rfl
theorem call_isiT:CallR X (.builtin "isinstance") (rIsiT X.K):=by
 intro pins s σ H xs us Q I r h
 obtain⟨x,T,p,ns,b,rfl,hp,ty,hn,rfl,q⟩:=h
 obtain⟨u,c,rfl,rx,rc⟩:=vals2 r
 cases (show c=Value.ref p from rc)
 obtain⟨P,Z,pp,hx⟩:=kit_of I rx ty
 obtain⟨_,its,rv,⟨cls,dd,dt,sl⟩,h1,h2,n,h3⟩:=(show ObjOk X.prog X.w H s.heap p (.tup (ns.map V.ty)) from I.hok p _ hp)
 simp only at h2 h3
 subst h2 h3
 have e:=vals_ty rv
 subst e
 exact PySem.W.kia_tup Z I.kIn pp h1 (kit_tys ty.mem hn) hx fun tk=>⟨.bl _,H,I.tok _,rfl,q⟩
end
mutual
def RD (K:PySem.W.Frag) (H:Hp):V->PyData->Prop
  | x,.none=>x = .non
  | x,.bool b=>x = .bl b
  | x,.int i=>x = .int i
  | x,.str y=>x = .str y
  | x,.list ds=>∃a xs,x = .ref a/\SqL K H a xs/\RDs K H xs ds
  | x,.tuple ds=>∃a xs,x = .ref a/\SqT K H a xs/\RDs K H xs ds
  | _,.dict _=>False
def RDs (K:PySem.W.Frag) (H:Hp):List V->List PyData->Prop
  | xs,[]=>xs=[]
  | xs,d::ds=>∃y ys,xs=y::ys/\RD K H y d/\RDs K H ys ds
end
section
variable {X:Cx}
mutual
theorem RD.reads {pins:List (Addr × Obj)} {s:Shared} {σ : St} {H:Hp} (I:Inv X pins σ H s):∀ {x:V} {u:Value} (d:PyData),RelV x u->RD X.K H x d -> ∃as,Reads s.heap u d as
  | x,u,.none,r,h=>by cases (show x = .non from by simpa [RD] using h); cases (show u=Value.none from r); exact⟨_,.none⟩
  | x,u,.bool b,r,h=>by cases (show x = .bl b from by simpa [RD] using h); cases (show u=Value.bool b from r); exact⟨_,.bool b⟩
  | x,u,.int i,r,h=>by cases (show x = .int i from by simpa [RD] using h); obtain⟨t,q⟩:=(show ∃t,u=Value.int i t from r); cases q; exact⟨_,.int i t⟩
  | x,u,.str y,r,h=>by cases (show x = .str y from by simpa [RD] using h); obtain⟨t,q⟩:=(show ∃t,u=Value.str y t from r); cases q; exact⟨_,.str y t⟩
  | x,u,.list ds,r,h=>by
    rw [RD] at h
    obtain⟨a,xs,rfl,hx,hd⟩:=h
    cases (show u=Value.ref a from r)
    obtain⟨its,rv,⟨o,n,h1,h2,h3,h4⟩,_⟩:=I.list hx
    obtain⟨as,q⟩:=RDs.reads I ds rv hd
    exact⟨_,.list h1 h2 h4 (by simpa using q)⟩
  | x,u,.tuple ds,r,h=>by
    rw [RD] at h
    obtain⟨a,xs,rfl,hx,hd⟩:=h
    cases (show u=Value.ref a from r)
    obtain⟨its,rv,⟨o,h1,h2,n,h4⟩,_⟩:=I.tuple hx
    obtain⟨as,q⟩:=RDs.reads I ds rv hd
    exact⟨_,.tuple h1 h2 h4 (by simpa using q)⟩
  | x,u,.dict _,r,h=>by simp [RD] at h
theorem RDs.reads {pins:List (Addr × Obj)} {s:Shared} {σ : St} {H:Hp} (I:Inv X pins σ H s):∀ {xs:List V} {us:List Value} (ds:List PyData),Vals xs us->RDs X.K H xs ds -> ∃as,ReadsAll s.heap us ds as
  | xs,us,[],r,h=>by
    cases (show xs=[] from by simpa [RDs] using h)
    cases r
    exact⟨_,.nil⟩
  | xs,us,d::ds,r,h=>by
    rw [RDs] at h
    obtain⟨y,ys,rfl,h1,h2⟩:=h
    cases r with
    | cons ra rb=>
      obtain⟨as,q⟩:=RD.reads I d ra h1
      obtain⟨bs,q'⟩:=RDs.reads I ds rb h2
      exact⟨_,.cons q q'⟩
end
inductive IrEqD (K:PySem.W.Frag) (x:V) (y:V) (H:Hp) (Q:VK):Prop
  | mk (d:_) (e:_) (h0:RD K H x d) (h1:RD K H y e) (h2:SeqAt.shaped d=true) (h3:SeqAt.shaped e=true) (h4:Q (.bl (PyData.eqv d e)) H):IrEqD K x y H Q
def rEqD (K:PySem.W.Frag):R2:=fun x y H Q=>IrEqD K x y H Q
inductive IrNeD (K:PySem.W.Frag) (x:V) (y:V) (H:Hp) (Q:VK):Prop
  | mk (d:_) (e:_) (h0:RD K H x d) (h1:RD K H y e) (h2:SeqAt.shaped d=true) (h3:SeqAt.shaped e=true) (h4:Q (.bl (!PyData.eqv d e)) H):IrNeD K x y H Q
def rNeD (K:PySem.W.Frag):R2:=fun x y H Q=>IrNeD K x y H Q
theorem op_eqD (hu:X.A.units+64<cLine):OpR X (compareOp .Eq) (rEqD X.K):=by
 intro pins s σ H x y v u Q I rx ry h
 obtain⟨d,e,hd,he,sd,se,q⟩:=h
 obtain⟨as,ra⟩:=RD.reads I d rx hd
 obtain⟨bs,rb⟩:=RD.reads I e ry he
 exact eq_dataH ra rb sd se hu ⟨.bl _,H,I,rfl,q⟩
theorem op_neD (hu:X.A.units+64<cLine):OpR X (compareOp .NotEq) (rNeD X.K):=by
 intro pins s σ H x y v u Q I rx ry h
 obtain⟨d,e,hd,he,sd,se,q⟩:=h
 obtain⟨as,ra⟩:=RD.reads I d rx hd
 obtain⟨bs,rb⟩:=RD.reads I e ry he
 exact ne_dataH ra rb sd se hu ⟨.bl _,H,I,rfl,q⟩
end
end L2
set_option Elab.async false
set_option linter.all false
set_option maxRecDepth 100000
namespace L2
open PySem PySem.Spec PyProof.Rows
theorem Same.new {H:Hp} {t:Addr} {o:HO} (ht:H t=none):Same H (upd H t o):=fun b o' e=>by rw [upd_ne (ne_of_none e ht)]; exact e
structure Nw (H H':Hp) (p:Addr) (o:HO):Prop where
 no:H p=none
 at':H' p=some o
 same:Same H H'
 eq:H'=upd H p o
theorem Nw.of {H:Hp} {p:Addr} {o:HO} (h:H p=none):Nw H (upd H p o) p o:=⟨h,upd_same,.new h,rfl⟩
def bltNames:List Str:=["len","abs","min","max","range","isinstance","int","bool","str","tuple","list","any","all","sum","zip","enumerate","sorted","reversed","ord","chr","divmod","repr","dict","set"]
def Blt (mg:Str->Option Value):Prop:=∀x∈bltNames,mg x=none
theorem Blt.at {mg:Str->Option Value} (B:Blt mg) (x:Str) (h:x∈bltNames:=by decide):mg x=none:=B x h
structure FA (K:PySem.W.Frag) (mg:Str->Option Value) (x:Str) (st:Stmt):Prop where
 ex:∃f fd,mg x=some (.ref f)/\Fun K x x st f fd
def FnHas (P:Program) (w:World) (K:PySem.W.Frag) (mg:Str->Option Value) (base:Heap) (x:Str) (k:Nat) (sp:Sp):Prop:=
 ∃f fd ps,FnOk P w K mg base CX0 k f fd ps sp/\mg x=some (.ref f)/\PySem.W.keepIn K (.ref f)=true/\Binds K fd ps []
section
variable {P:Program} {w:World} {K:PySem.W.Frag} {mg:Str->Option Value} {base:Heap}
theorem fa_mk {h:Heap} {x:Str} {st:Stmt} {f:Addr} {oc:Value} {od an:Option Addr} {osl:Array (Option Value)} {kV doc pm cdv ct:Value} (X:K.In h) (G:h.Ns mainGlobals mg)
    (a:PySem.W.nsIn K mainGlobals x=some (some (.ref f)))
    (l:K.lookup f=some ⟨oc,od,.func (PySem.W.fnOf x x (defArgs st) (defBody st) (defScope st) .none kV doc pm an cdv ct),osl⟩)
    (c:PySem.W.codeIn K cdv x=true) (k:PySem.W.keepIn K (.ref f)=true):FA K mg x st:=
  ⟨f,_,PySem.W.mg_of X G a,fun_mk l c k⟩
theorem FA.has {x:Str} {st:Stmt} {N ps:List Str} {k:Nat} {sp:Sp} (F:FA K mg x st) (S:FnScope N ps (defScope st)) (len:∀vs H Q E,sp vs H Q E->vs.length=ps.length)
    (hb:∀(kV doc pm:Value) (an:Option Addr) (cdv ct:Value) (us:List Value),us.length=ps.length->bindArgs (PySem.W.fnOf x x (defArgs st) (defBody st) (defScope st) .none kV doc pm an cdv ct) ⟨us,[]⟩=pure (ps.zip us))
    (hbody:∀(f:Addr) (cdv:Value) (A:Around) (outer:List Env) (s:Shared) (H:Hp) (vs:List V) (Q:VK) (E:XK),Room k (A.deeper (envOfC x (defScope st) s.heap.objs.size f cdv))->sp vs H Q E ->
      ∃t,PSs (cxOf CX0 P w K mg base N x (defScope st) f cdv A outer s H E).nox (defBody st) t/\t { nx:=fun _ H'=>Q .non H',rt:=Q } (start N vs) H):FnHas P w K mg base x (k+1) sp:=by
  obtain⟨f,fd,hm,F⟩:=F.ex
  exact⟨f,fd,ps,F.ok S len fun cdv A outer s H vs Q E=>hbody f cdv A outer s H vs Q E,hm,F.kp,F.binds hb⟩
end
section
variable {X:Cx} {k:Nat} {x:Str} {p pos:Pos} {e:Expr} {es:List Expr} {t:TA} {sp:Sp}
def tFn (sp:Sp) (t:TA):TE:=fun σ H Q=>t σ H fun vs H1=>sp vs H1 Q E0
theorem pe_fn (F:FnHas X.prog X.w X.K X.mg X.base x k sp) (hr:Room k X.A) (hg:Gl X x) (ha:PA X (e::es) t) (hdb:(x == ("__debug__" : Str))=false:=by decide)
    (he:starEach (e::es) X.env=(false,eval e X.env)::starEach es X.env:=by rfl) (hpl:(backTo pos (starEach es X.env)).any (·.1)=false:=by rfl) :
    PE X (.Call (.Name x p) (e::es) [] pos) (tFn sp t):=by
  obtain⟨f,fd,ps,F,hm,hk,hb⟩:=F
  have h:=pe_call (pos:=pos) (p:=p) F hr hg hm hk hb .nil pass0 ha hdb he hpl
  intro pins s σ H Q I hq
  refine h pins s σ H Q I ?_
  have e1:(fun (vs:List V) H1=>sp (vs++[]) H1 Q E0)=fun vs H1=>sp vs H1 Q E0:=by
   funext vs H1; rw [List.append_nil]
  show t σ H fun vs H1=>sp (vs++[]) H1 Q E0
  rw [e1]
  exact hq
theorem op_mulG:OpR X (binaryOp .Mult) (rI (fun i j=>IntMulOk i j) fun i j=>.int (i*j)):=opI fun _ _ _ _ _ _ _ hc q=>mul_int q hc
theorem op_eqI:OpR X (compareOp .Eq) (rI0 fun i j=>.bl (decide (i=j))):=opB0 fun _ _ _ _ _ _ _ q=>eq_int (by rw [Bool.beq_eq_decide_eq]; exact q)
theorem op_neI:OpR X (compareOp .NotEq) (rI0 fun i j=>.bl (!decide (i=j))):=opB0 fun _ _ _ _ _ _ _ q=>ne_int (by rw [bne,Bool.beq_eq_decide_eq]; exact q)
theorem op_eqA (hu:X.A.units+64<cLine):OpR X (compareOp .Eq) (fun x y H Q=>rI0 (fun i j=>.bl (decide (i=j))) x y H Q \/ rEqD X.K x y H Q):=op_eqI.or (op_eqD hu)
theorem op_neA (hu:X.A.units+64<cLine):OpR X (compareOp .NotEq) (fun x y H Q=>rI0 (fun i j=>.bl (!decide (i=j))) x y H Q \/ rNeD X.K x y H Q):=op_neI.or (op_neD hu)
mutual
theorem eqv_refl:∀d:PyData,d.canLay0=true->PyData.eqv d d=true
  | .none,_=>by simp [PyData.eqv]
  | .bool b,_=>by simp [PyData.eqv]
  | .int i,_=>by simp [PyData.eqv]
  | .str x,_=>by simp [PyData.eqv]
  | .list ds,h=>by simp only [PyData.eqv]; exact eqvAll_refl ds (by simpa [PyData.canLay0] using h)
  | .tuple ds,h=>by simp only [PyData.eqv]; exact eqvAll_refl ds (by simpa [PyData.canLay0] using h)
  | .dict _,h=>by simp [PyData.canLay0] at h
theorem eqvAll_refl:∀ds:List PyData,PyData.canLayAll0 ds=true->PyData.eqvAll ds ds=true
  | [],_=>by simp [PyData.eqvAll]
  | d::ds,h=>by
    simp only [PyData.canLayAll0,Bool.and_eq_true] at h
    simp only [PyData.eqvAll,Bool.and_eq_true]
    exact⟨eqv_refl d h.1,eqvAll_refl ds h.2⟩
end
theorem rd_int {K:PySem.W.Frag} {H:Hp} (i:Int):RD K H (.int i) (.int i):=by simp [RD]
theorem rd_str {K:PySem.W.Frag} {H:Hp} (x:Str):RD K H (.str x) (.str x):=by simp [RD]
theorem rd_non {K:PySem.W.Frag} {H:Hp}:RD K H .non .none:=by simp [RD]
theorem rd_tup {K:PySem.W.Frag} {H:Hp} {p:Addr} {xs:List V} {ds:List PyData} (h:SqT K H p xs) (r:RDs K H xs ds):RD K H (.ref p) (.tuple ds):=by rw [RD]; exact⟨p,xs,rfl,h,r⟩
theorem rds_nil {K:PySem.W.Frag} {H:Hp}:RDs K H [] []:=by simp [RDs]
theorem rds_cons {K:PySem.W.Frag} {H:Hp} {x:V} {xs:List V} {d:PyData} {ds:List PyData} (h:RD K H x d) (r:RDs K H xs ds):RDs K H (x::xs) (d::ds):=by rw [RDs]; exact⟨x,xs,rfl,h,r⟩
inductive ItMid (t:TS) (D:Ends) (σ : St) (H:Hp):Prop
  | mk (Mid:St->Hp->Prop) (h0:t { D with nx:=Mid } σ H) (h1:∀ σ' H',Mid σ' H'->D.nx σ' H'):ItMid t D σ H
def tMid (t:TS):TS:=fun D σ H=>ItMid t D σ H
theorem ps_mid {st:Stmt} {t:TS} (h:PS X st t):PS X st (tMid t):=by
 intro pins s σ H D I hq
 obtain⟨Mid,q,m⟩:=hq
 refine thn (h pins s σ H _ I q) fun f s1 q1=>?_
 cases f with
 | next=>obtain⟨σ',H',I',q'⟩:=q1; exact⟨σ',H',I',m _ _ q'⟩
 | brk=>exact q1
 | cont=>exact q1
 | ret u=>exact q1
end
end L2
namespace L2
open PySem PySem.Spec PyProof.Rows
def NoG (K:PySem.W.Frag) (xs:List Str):Prop:=∀x∈xs,PySem.W.nsIn K mainGlobals x=some none
theorem NoG.nil {K:PySem.W.Frag}:NoG K []:=fun _ h=>nomatch h
theorem NoG.cons {K:PySem.W.Frag} {x:Str} {xs:List Str} (a:PySem.W.nsIn K mainGlobals x=some none) (r:NoG K xs):NoG K (x::xs):=fun y hy=>by
 rcases List.mem_cons.mp hy with e | e
 · rw [e]; exact a
 · exact r y e
theorem blt_mk {K:PySem.W.Frag} {mg:Str->Option Value} {h:Heap} (X:K.In h) (G:h.Ns mainGlobals mg) (a:NoG K bltNames):Blt mg:=fun x hx=>
 PySem.W.mg_none_of X G (a x hx)
theorem law_walk {l:PySem.W.OpenLaw} {q:Program} {loose:List Str} {XP:(Str->Option Value)->Heap->Prop} {YP:World->Heap->Prop} {d:DefRec} {K:Params->PySem.W.Frag} {k:Nat} {x:Str} {st:Stmt} (hn:l.most=some 63) (hdf:d.params.defaults=[])
    (hr:Room k callerA) (hY:∀(w:World) (h:Heap),YP w h->(K w.params).In h) (All:PySem.W.Frag->(Str->Option Value)->Prop)
    (F:∀(w:World) (mg:Str->Option Value) (h:Heap),(K w.params).In h->h.Ns mainGlobals mg->All (K w.params) mg)
    (L:∀(K:PySem.W.Frag) (mg:Str->Option Value),All K mg->FA K mg d.name st)
    (hb:∀(kV doc pm:Value) (an:Option Addr) (cdv ct u:Value),bindArgs (PySem.W.fnOf d.name d.name (defArgs st) (defBody st) (defScope st) .none kV doc pm an cdv ct) ⟨[u],[]⟩=pure [(x,u)])
    (ok:∀(P:Program) (w:World) (K:PySem.W.Frag) (mg:Str->Option Value) (base:Heap) (f:Addr) (fd:FuncData),All K mg->Fun K d.name d.name st f fd->FnOk P w K mg base CX0 k f fd [x]
      (fun vs H Q _=>∃(a:Addr) (ns:List Int),vs=[.ref a]/\SqL K H a (ns.map V.int)/\ns.length<=63 /\ ∀H',Q (.bl true) H')) :
    PySem.W.WalkO q loose XP YP l.row.toRowW d [] (fun f vs=>PySem.call f vs):=
  L2.walk_of (n:=63) (k:=k) (x:=x) (CX:=fun _=>CX0) (sp:=fun w=>fun vs H Q _=>∃(a:Addr) (ns:List Int),vs=[.ref a]/\SqL (K w.params) H a (ns.map V.int)/\ns.length<=63 /\ ∀H',Q (.bl true) H') hn (by decide) hdf hr hY
    (fun w mg fa h KX G hmg=>by
     have A:=F w mg h KX G
     obtain⟨f,fd,hm,Fn⟩:=(L _ _ A).ex
     have e:fa=f:=by
      rw [hmg] at hm
      injection (Option.some.inj hm)
     subst e
     refine⟨fd,fun s u=>?_,fun base _ _=>ok l.prog w _ mg base fa fd A Fn⟩
     obtain⟨oc,od,kV,doc,pm,an,cdv,ct,osl,rfl,lk,hcd⟩:=Fn.ex
     exact .of_eq (hb kV doc pm an cdv ct u))
    (fun _ _ a ns hl _ hS=>⟨a,ns,rfl,hS,hl,fun _=>rfl⟩) fun _ _ _ _ _ z=>z
end L2
set_option Elab.async false
set_option linter.all false
set_option maxRecDepth 100000
namespace L2
open PySem PySem.Spec PyProof.Rows
theorem closure_ok {env:Env}:∀(ns:List (Str × NameKind)) (cs:List (Str × Addr)),(∀x∈ns,x.2 = .free -> ∃c,env.cells.lookup x.1=some c)->(∀x c,cs.lookup x=some c->env.cells.lookup x=some c) ->
    ∃ cl,(forIn ns cs (fun x r=>if (x.2 == NameKind.free)=true then do let a <- cellOf env x.1; pure (ForInStep.yield ((x.1,a)::r)) else pure (ForInStep.yield r)):Sem (List (Str × Addr)))=pure cl /\
      (∀x c,cl.lookup x=some c->env.cells.lookup x=some c)/\(∀x c,cs.lookup x=some c -> ∃c',cl.lookup x=some c') /\ ∀x∈ns,x.2 = .free -> ∃c,cl.lookup x.1=some c
  | [],cs,_,h2=>⟨cs,rfl,h2,fun x c e=>⟨c,e⟩,fun _ h=>nomatch h⟩
  | (n,k)::r,cs,h1,h2=>by
    by_cases hk:k = .free
    · subst hk
      obtain⟨c,hc⟩:=h1 (n,.free) (.head _) rfl
      have e1:cellOf env n=pure c:=by
       unfold cellOf
       rw [show env.cells.lookup n=some c from hc]
      obtain ⟨cl,a1,a2,a3,a4⟩:=closure_ok r ((n,c)::cs) (fun x hx=>h1 x (.tail _ hx)) (fun x d e=>by
       rw [List.lookup_cons] at e
       cases z:x == n with
       | true=>
         rw [z] at e
         cases e
         rw [beq_iff_eq.mp z]; exact hc
       | false=>rw [z] at e; exact h2 x d e)
      refine⟨cl,?_,a2,fun x d e=>?_,fun x hx hf=>?_⟩
      · rw [List.forIn_cons]
        show (do let r' <- (if (NameKind.free == NameKind.free)=true then do let a <- cellOf env n; pure (ForInStep.yield ((n,a)::cs)) else pure (ForInStep.yield cs)); _)=_
        rw [if_pos (by rfl),e1]
        exact a1
      · by_cases z:x == n
        · exact a3 x c (by rw [List.lookup_cons,z])
        · exact a3 x d (by rw [List.lookup_cons,Bool.eq_false_iff.mpr z]; exact e)
      · rcases List.mem_cons.mp hx with rfl | hx
        · exact a3 n c (by rw [List.lookup_cons,beq_self_eq_true])
        · exact a4 x hx hf
    · obtain⟨cl,a1,a2,a3,a4⟩:=closure_ok r cs (fun x hx=>h1 x (.tail _ hx)) h2
      refine⟨cl,?_,a2,a3,fun x hx hf=>?_⟩
      · rw [List.forIn_cons]
        show (do let r' <- (if (k == NameKind.free)=true then do let a <- cellOf env n; pure (ForInStep.yield ((n,a)::cs)) else pure (ForInStep.yield cs)); _)=_
        rw [if_neg (by simpa using hk)]
        exact a1
      · rcases List.mem_cons.mp hx with rfl | hx
        · exact absurd hf hk
        · exact a4 x hx hf
theorem closureFor_ok {env:Env} {scope:Scope} (h1:∀x∈scope.names,x.2 = .free -> ∃c,env.cells.lookup x.1=some c) :
    ∃cl,closureFor scope env=pure cl/\(∀x c,cl.lookup x=some c->env.cells.lookup x=some c) /\ ∀x∈scope.names,x.2 = .free -> ∃c,cl.lookup x.1=some c:=by
  obtain⟨cl,a1,a2,_,a4⟩:=closure_ok (env:=env) scope.names [] h1 (fun x c e=>nomatch e)
  refine⟨cl,?_,a2,a4⟩
  unfold closureFor
  show (forIn scope.names ([]:List (Str × Addr)) (fun (x:Str × NameKind) r=>match x with | (name,kind)=>if (kind == NameKind.free)=true then do let a <- cellOf env name; pure (ForInStep.yield ((name,a)::r)) else pure (ForInStep.yield r)) >>= fun r=>(pure r:Sem (List (Str × Addr))))=pure cl
  have ef:(fun (x:Str × NameKind) (r:List (Str × Addr))=>match x with | (name,kind)=>(if (kind == NameKind.free)=true then do let a <- cellOf env name; pure (ForInStep.yield ((name,a)::r)) else pure (ForInStep.yield r):Sem (ForInStep (List (Str × Addr)))))
      = fun x r=>if (x.2 == NameKind.free)=true then do let a <- cellOf env x.1; pure (ForInStep.yield ((x.1,a)::r)) else pure (ForInStep.yield r):=by
    funext x r
    obtain⟨n,k⟩:=x
    rfl
  rw [ef,a1]
  rfl
theorem lookup_relabel_free {env:Env} (hk:env.scope.kind = .function) {x:Str} (hx:env.kindOf x=some .cell):∀ {names:List (Str × NameKind)},names.lookup x=some .free ->
    (names.map fun (n,k)=>if (k == NameKind.free && env.scope.kind == .function && env.kindOf n == some .cell) then (n,NameKind.cell) else (n,k)).lookup x=some .cell
  | [],h=>nomatch h
  | (n,k)::r,h=>by
    have ih:=@lookup_relabel_free env hk x hx r
    show List.lookup x ((if (k == NameKind.free && env.scope.kind == .function && env.kindOf n == some .cell)=true then (n,NameKind.cell) else (n,k))::_)=_
    cases z:x == n with
    | true=>
      simp only [List.lookup_cons,z] at h
      cases h
      have e:=beq_iff_eq.mp z
      subst e
      rw [if_pos (by rw [hk,hx]; rfl),List.lookup_cons,z]
    | false=>
      simp only [List.lookup_cons,z] at h
      split <;> (simp only [List.lookup_cons,z]; exact ih h)
def compCx (X:Cx) (N:List Str) (scope:Scope) (cl:List (Str × Addr)) (s:Shared) (H:Hp) (fp:List Addr) (pins:List (Addr × Obj)):Cx:=
 { prog:=X.prog,w:=X.w,K:=X.K,mg:=X.mg,base:=X.base,A:=X.A,N:=N,s₀:=s,H₀:=H,env:=compEnvC scope cl s.heap.objs.size X.env,outer:=X.stack,stack:=X.stack,ex:=fp,fn:=fun _=>false,calm:=X.calm,
   pn:=X.pn++pins,xe:=fun _ _=>False }
def stC (js:List (Option Nat)) (σ : St):St:=js.map fun | none=>none | some j=>(σ[j]?).join
def chkC (X:Cx) (N:List Str) (js:List (Option Nat)) (scope:Scope):Bool:=
 N.length == js.length && (N.zip js).all fun p=>match p.2 with | none=>true | some j=>X.N[j]? == some p.1 && scope.names.lookup p.1 == some NameKind.free && X.env.kindOf p.1 == some NameKind.cell
def chkS (X:Cx) (scope:Scope):Bool:=scope.kind == .function && X.env.scope.kind == .function && scope.names.all fun x=>match x.2 with
 | .free=>X.env.kindOf x.1 == some NameKind.cell
 | .cell=>false
 | .local=>scope.names.lookup x.1 == some NameKind.local
 | _=>true
section
variable {X:Cx} {pins:List (Addr × Obj)} {σ : St} {H:Hp} {s:Shared}
theorem lookup_mem {α β : Type} [BEq α] [LawfulBEq α]:∀ {l:List (α × β)} {x : α} {b : β},l.lookup x=some b->(x,b)∈l
  | [],_,_,h=>nomatch h
  | (n,k)::r,x,b,h=>by
    rw [List.lookup_cons] at h
    cases z:x == n with
    | true=>rw [z] at h; cases h; rw [beq_iff_eq.mp z]; exact .head _
    | false=>rw [z] at h; exact .tail _ (lookup_mem h)
theorem relabel_inv {env:Env} {x:Str} {k:NameKind}:∀ {names:List (Str × NameKind)},(names.map fun (n,k)=>if (k == NameKind.free && env.scope.kind == .function && env.kindOf n == some .cell) then (n,NameKind.cell) else (n,k)).lookup x=some k ->
    names.lookup x=some k \/ (k = .cell/\names.lookup x=some .free)
  | [],h=>nomatch h
  | (n,k')::r,h=>by
    have ih:=@relabel_inv env x k r
    have h':List.lookup x ((if (k' == NameKind.free && env.scope.kind == .function && env.kindOf n == some .cell)=true then (n,NameKind.cell) else (n,k'))::(r.map fun (n,k)=>if (k == NameKind.free && env.scope.kind == .function && env.kindOf n == some .cell) then (n,NameKind.cell) else (n,k)))=some k:=h
    cases z:x == n with
    | true=>
      split at h'
      · rename_i hc
        simp only [List.lookup_cons,z] at h'
        cases h'
        rw [Bool.and_eq_true,Bool.and_eq_true] at hc
        have e:k' = .free:=beq_iff_eq.mp hc.1.1
        subst e
        exact .inr ⟨rfl,by rw [List.lookup_cons,z]⟩
      · simp only [List.lookup_cons,z] at h'
        cases h'
        exact .inl (by rw [List.lookup_cons,z])
    | false=>
      rw [List.lookup_cons,z]
      refine ih ?_
      split at h'
      · simpa only [List.lookup_cons,z] using h'
      · simpa only [List.lookup_cons,z] using h'
theorem Inv.comp {N:List Str} {js:List (Option Nat)} {scope:Scope} {cl:List (Str × Addr)} {fp:List Addr} {h':Heap} {tk:Nat} (I:Inv X pins σ H s) (hN:chkC X N js scope=true) (hS:chkS X scope=true)
    (c1:∀x c,cl.lookup x=some c->X.env.cells.lookup x=some c) (c2:∀x∈scope.names,x.2 = .free -> ∃c,cl.lookup x.1=some c) (hf:∀b∈fp,FpOk X pins H b) (hfl:∀b∈fp,b<s.heap.objs.size)
    (hn:h'.Ns s.heap.objs.size fun _=>none) (hk:∀b o,s.heap.get? b=some o->h'.get? b=some o):Inv (compCx X N scope cl s H fp pins) [] (stC js σ) H { s with heap:=h',toks:=tk }:=by
  unfold chkS at hS
  rw [Bool.and_eq_true,Bool.and_eq_true] at hS
  obtain⟨⟨s1,s2⟩,s3⟩:=hS
  have hkind:scope.kind = .function:=beq_iff_eq.mp s1
  have hkindX:X.env.scope.kind = .function:=beq_iff_eq.mp s2
  unfold chkC at hN
  rw [Bool.and_eq_true] at hN
  obtain⟨n1,n2⟩:=hN
  have hlen:N.length=js.length:=beq_iff_eq.mp n1
  have inC:∀x k,(relabel scope X.env).names.lookup x=some k->scope.names.lookup x=some k \/ (k = .cell/\scope.names.lookup x=some .free):=fun x k e=>relabel_inv e
  have noCell:∀x,scope.names.lookup x≠some .cell:=fun x e=>by
   have:=List.all_eq_true.mp s3 _ (lookup_mem e)
   exact Bool.false_ne_true this
  have fs_sub:∀b∈(compCx X N scope cl s H fp pins).fs,b∈X.env.locals::X.fs:=I.stkSub
  have ok:(compCx X N scope cl s H fp pins).Ok:={
    mod:=I.ok.mod
    kind:=hkind
    glob:=I.ok.glob
    blt:=I.ok.blt
    above:=Nat.le_refl _
    inj:=fun x y c e1 e2=>I.ok.inj x y c (c1 x c e1) (c1 y c e2)
    has:=fun x hx=>by
     have fr:scope.names.lookup x=some .free -> ∃c,cl.lookup x=some c:=fun e=>c2 (x,.free) (lookup_mem e) rfl
     rcases hx with e | e
     · rcases inC x _ e with e | ⟨_,e⟩
       · exact absurd e (noCell x)
       · exact fr e
     · rcases inC x _ e with e | ⟨z,_⟩
       · exact fr e
       · cases z
    cab:=fun x c e=>nomatch e
    hd:=I.ok.hd
    frames:=I.ok.frames
    stk:=.inl rfl
    exf:=fun b hb=>⟨Nat.ne_of_lt (hfl b hb),fun x c e=>(hf b hb).2.2.2.2.1 x c (c1 x c e)⟩
    bs:=I.bs
    bsz:=Nat.le_trans I.ok.bsz I.sz
    noex:=fun b o e hb=>by
     rcases (hf b hb).2.2.2.1 with z | z
     · exact I.ok.noex b o e z
     · exact absurd (Nat.lt_of_lt_of_le (Heap.lt_size e) (Nat.le_trans I.ok.bsz z)) (Nat.lt_irrefl _)
    exfs:=fun b hb z=>by
     obtain⟨_,q1,q2,_⟩:=hf b hb
     rcases List.mem_cons.mp (fs_sub b z) with e | e
     · exact q1 e
     · exact q2 e
    funs:=I.stack
    frf:=I.stkFree }
  refine⟨ok,rfl,I.bare,Un.kept hk,⟨_,hn,fun i x v e1 e2 e3=>?_⟩,fun x c e=>?_,I.hok.fresh (Nat.le_refl _),fun x c e=>I.freeC x c (c1 x c e),fun p hp=>?_,I.hok.kept hk,?_⟩
  · have e2':(js.map fun | none=>none | some j=>(σ[j]?).join)[i]? = some (some v):=e2
    rw [List.getElem?_map] at e2'
    cases hj:js[i]? with
    | none=>rw [hj] at e2'; cases e2'
    | some o=>
      rw [hj] at e2'
      cases o with
      | none=>cases e2'
      | some j=>
        have hz:(N.zip js)[i]? = some (x,some j):=by
         rw [List.getElem?_zip_eq_some]; exact⟨e1,hj⟩
        have chk:=List.all_eq_true.mp n2 _ (List.mem_of_getElem? hz)
        simp only [Bool.and_eq_true,beq_iff_eq] at chk
        obtain⟨⟨h1,h2⟩,h3⟩:=chk
        have e3':(σ[j]?).join=some v:=by simpa using e2'
        have hσ : σ[j]? = some (some v):=by
         cases q : σ[j]? with
         | none=>rw [q] at e3'; cases e3'
         | some o=>
           rw [q] at e3'
           have:o=some v:=by simpa using e3'
           rw [this]
        obtain⟨m,hm,hl⟩:=I.loc
        obtain⟨u,r,l⟩:=hl j x v h1 hσ (.inr (.inl h3))
        refine⟨u,r,?_⟩
        rcases l with ⟨k,_⟩ | ⟨_,c,hc,hcell⟩
        · rw [h3] at k; cases k
        · obtain⟨c',hc'⟩:=c2 (x,.free) (lookup_mem h2) rfl
          have:=c1 x c' hc'
          rw [hc] at this; cases this
          refine .inr ⟨.inl (lookup_relabel_free hkindX h3 h2),c,hc',?_⟩
          obtain⟨ob,ho,hd⟩:=hcell
          exact⟨ob,hk _ _ ho,hd⟩
  · obtain⟨v,ob,ho,hd⟩:=I.cell x c (c1 x c e)
    exact⟨v,ob,hk _ _ ho,hd⟩
  · have hp':p∈X.pn++pins:=by simpa [compCx] using hp
    obtain⟨a1,a2,a3,a4,a5⟩:=I.pin p hp'
    refine⟨hk _ _ a1,a2,Nat.ne_of_lt (Heap.lt_size a1),fun z=>?_,a5⟩
    rcases List.mem_cons.mp (fs_sub p.1 z) with e | e
    · exact a3 e
    · exact a4 e
  · show (js.map _).length=N.length
    rw [List.length_map,hlen]
end
theorem compLoop_gen {prog:Program} {w:World} {A:Around} {R:Result->Shared->Prop} {s:Shared} {elt target iter:Expr} {ifs:List Expr} {scope:Scope} {pos:Pos} {it acc:Value} {env:Env} (I:Nat->Shared->Prop)
    (turn:∀n s,I n s->wpAny (model prog w) A (pyNext it) (fun r s₁=>match r with
     | none=>R (.ok .next) s₁
     | some v=>wpAny (model prog w) A (letOwnedTupleGo target it v) (fun _ s₁=>wpAny (model prog w) A (assign target env v) (fun _ s₂=>
         wpAny (model prog w) A (forIn ifs true fun c r=>if r=true then do let ok <- isTrue c env (eval c env); pure (ForInStep.yield ok) else pure (ForInStep.yield r)) (fun ok s₃=>
          if ok=true then wpAny (model prog w) A (eval elt env) (fun x s₄=>
           wpAny (model prog w) A (call (.builtin "list.append") [acc,x]) (fun _ s₅=>∃m,m<n/\I m s₅) (fun _ _=>False) s₄) (fun _ _=>False) s₃
          else ∃m,m<n/\I m s₃) (fun _ _=>False) s₂) (fun _ _=>False) s₁) (fun _ _=>False) s₁) (fun _ _=>False) s)
    (n:Nat) (h:I n s):codeAny (model prog w) A (.compLoop (.ListComp elt [⟨target,iter,ifs,0⟩] scope pos) 0 it acc env) R s:=by
  refine codeAny_loop rfl I (fun n s hI=>?_) n h
  show wpAny _ A ((compTurn (.ListComp elt [⟨target,iter,ifs,0⟩] scope pos) 0 it acc env).onRaise (fun x=>do noteFrame x env; theTreesLotGoes x)) _ _ s
  refine wpAny_noted ?_
  rw [compTurn_list]
  refine wpAny_bind (wpAny_standAt (wpAny_bind (wpAny_mono (turn n s hI) (fun r s₁ h₁=>?_) fun _ _ h'=>h'.elim)))
  cases r with
  | none=>exact wpAny_pure h₁
  | some v=>
    refine wpAny_bind (wpAny_mono h₁ (fun _ s₁' h₁=>?_) fun _ _ h'=>h'.elim)
    refine wpAny_bind (wpAny_mono h₁ (fun _ s₂ h₂=>wpAny_bind (wpAny_mono h₂ (fun ok s₃ h₃=>?_) fun _ _ h'=>h'.elim)) fun _ _ h'=>h'.elim)
    cases ok with
    | false=>exact wpAny_pure ⟨rfl,h₃⟩
    | true=>
      exact wpAny_bind (wpAny_bind (wpAny_mono h₃ (fun x s₄ h₄=>wpAny_bind (wpAny_mono h₄ (fun _ s₅ h₅=>wpAny_pure (wpAny_pure ⟨rfl,h₅⟩)) fun _ _ h'=>h'.elim)) fun _ _ h'=>h'.elim))
def PTs (X:Cx) (ifs:List Expr) (t:TT):Prop:=
 ∀ (pins:List (Addr × Obj)) (s:Shared) (σ : St) (H:Hp) (Q:Bool->Hp->Prop),Inv X pins σ H s->t σ H Q ->
   wpAny (model X.prog X.w) X.A (forIn ifs true fun c r=>if r=true then do let ok <- isTrue c X.env (eval c X.env); pure (ForInStep.yield ok) else pure (ForInStep.yield r)) (TP X pins σ Q) X.xe s
def tYes:TT:=fun _ H Q=>Q true H
theorem pts_nil {X:Cx}:PTs X [] tYes:=fun _ _ _ H _ I h=>wpAny_tests_nil ⟨H,I,h⟩
def CompW (J:It) (g:TG) (tt:TT) (te:TE) (Q:VK) (D:Addr) (σ : St) (H:Hp):Prop:=∃W:Nat->Nat->St->Hp->Prop,(∃m,W 0 m σ H) /\ ∀i m σ' H',W i m σ' H' ->
  (J.stop i H'/\Q (.ref D) H') \/ (J.go i H' /\ ∀x H2,J.yld i H' x H2->g x σ' H2 fun σ3 H3=>tt σ3 H3 fun ok H4=>if ok=true then
   te σ3 H4 fun y H5=>∃ys,H5 D=some (.lst ys)/\ys.length<sizeLine /\ ∃m',m'<m/\W (i+1) m' σ3 (upd H5 D (.lst (ys++[y])))
   else ∃m',m'<m/\W (i+1) m' σ3 H4)
def tComp (js:List (Option Nat)) (wi:TI) (g:TG) (tt:TT) (te:TE):TE:=fun σ H Q=>wi σ H fun J H1=>∀D H2,Nw H1 H2 D (.lst [])->CompW J g tt te Q D (stC js σ) H2
theorem HOk.but {P:Program} {w:World} {H:Hp} {h h':Heap} {C:Addr} (ok:HOk P w H h) (hn:H C=none) (hs:Heap.SameBut C h h'):HOk P w H h':=fun b ob e=>by
 refine (ok b ob e).stay (fun c w' hc q=>(hs.2 c ?_).trans q) (fun _ q=>q) fun _ _ q=>q
 rintro rfl
 rcases hc with rfl | hc
 · rw [hn] at e; cases e
 · rw [hn] at hc; cases hc
set_option maxHeartbeats 1000000 in
theorem pe_comp {X:Cx} {N:List Str} {js:List (Option Nat)} {elt tg iter:Expr} {ifs:List Expr} {scope:Scope} {pos:Pos} {wi:TI} {g:TG} {tt:TT} {te:TE} (hc:X.calm=true) (hN:chkC X N js scope=true) (hS:chkS X scope=true)
    (hi:PI X tg iter wi) (hg:∀cl s H fp pins,PG (compCx X N scope cl s H fp pins) tg g) (ht:∀cl s H fp pins,PTs (compCx X N scope cl s H fp pins) ifs tt) (he:∀cl s H fp pins,PE (compCx X N scope cl s H fp pins) elt te)
    (hs:∀x,foldedSetIterable iter X.env x=pure x:=by intro _; rfl):PE X (.ListComp elt [⟨tg,iter,ifs,0⟩] scope pos) (tComp js wi g tt te):=by
  intro pins s σ H Q I h
  have hS':=hS
  unfold chkS at hS'
  rw [Bool.and_eq_true,Bool.and_eq_true] at hS'
  obtain⟨⟨k1,k2⟩,k3⟩:=hS'
  have hkind:scope.kind = .function:=beq_iff_eq.mp k1
  have hfree:∀x∈scope.names,x.2 = .free -> ∃c,X.env.cells.lookup x.1=some c:=fun x hx e=>by
   have:=List.all_eq_true.mp k3 x hx
   rw [e] at this
   exact I.ok.has x.1 (.inl (beq_iff_eq.mp this))
  have hcell:∀x∈scope.names,x.2 ≠ .cell:=fun x hx e=>by
   have:=List.all_eq_true.mp k3 x hx
   rw [e] at this
   exact Bool.false_ne_true this
  have hnames:∀x∈scope.names,x.2 = .local->scope.names.lookup x.1=some .local:=fun x hx e=>by
   have:=List.all_eq_true.mp k3 x hx
   rw [e] at this
   exact beq_iff_eq.mp this
  obtain⟨cl,hclos,c1,c2⟩:=closureFor_ok hfree
  rw [eval_ListComp]
  refine wpAny_comprehension_free (use:=none) rfl hs hclos hkind hnames (thn (hi pins s σ H _ I h) fun v s1 h1=>thn h1 fun itv s2 h2=>?_)
  obtain⟨it,fp,tn,J,H2,e,I2,T,st2,f2,h2⟩:=h2
  subst e
  have hD:H2 s2.heap.objs.size=none:=I2.hok.fresh (Nat.le_refl _)
  obtain⟨W,⟨m0,w0⟩,turn⟩:=h2 _ _ (Nw.of hD)
  refine wpAny_newObj_type (wpAny_newFunctionEnv hcell (by intro y hy; simp at hy) (fun h₁ hns₁ hsb₁=>?_) hkind)
  have fpl:∀b∈fp,b<s2.heap.objs.size:=fun b hb=>by
   obtain⟨o,e,_⟩:=T.obj _ _ st2 b hb
   exact Heap.lt_size e
  have I3:Inv X pins σ (upd H2 s2.heap.objs.size (.lst [])) { s2 with heap:=s2.heap.push { cls:=.type "list",dict:=none,data:=.seq ([]:List Value).toArray } }:=I2.lnew (its:=[]) (t':=s2.toks) .nil (Nat.zero_le _)
  generalize hH3:s2.heap.push { cls:=.type "list",dict:=none,data:=.seq ([]:List Value).toArray } = h3 at I3 hns₁ hsb₁
  have sz3:h3.objs.size=s2.heap.objs.size+1:=by rw [<- hH3,Heap.size_push]
  have keep23:∀b o,s2.heap.get? b=some o->h3.get? b=some o:=fun b o e=>by rw [<- hH3]; exact Heap.get?_push_of_some _ e
  have f3:∀b∈fp,FpOk X pins (upd H2 s2.heap.objs.size (.lst [])) b:=fun b hb=>⟨by rw [upd_ne (Nat.ne_of_lt (fpl b hb))]; exact (f2 b hb).1,(f2 b hb).2⟩
  have keep31:∀b o,h3.get? b=some o->h₁.get? b=some o:=fun b o e=>(hsb₁.2 b (Nat.ne_of_lt (Heap.lt_size e))).trans (Heap.get?_push_of_some _ e)
  have I4:Inv (compCx X N scope cl { s2 with heap:=h3 } (upd H2 s2.heap.objs.size (.lst [])) fp pins) [] (stC js σ) (upd H2 s2.heap.objs.size (.lst [])) { s2 with heap:=h₁,toks:=s2.toks+([]:List (Str × Value)).length }:=
   I3.comp (s:={ s2 with heap:=h3 }) hN hS c1 c2 f3 (fun b hb=>by show b<h3.objs.size; rw [sz3]; exact Nat.lt_succ_of_lt (fpl b hb)) (by simpa using hns₁) keep31
  have st4:tn 0 h₁:=T.keep _ _ _ st2 fun b _ o e=>keep31 b o (keep23 b o e)
  have loop:codeAny (model X.prog X.w) X.A (.compLoop (.ListComp elt [⟨tg,iter,ifs,0⟩] scope pos) 0 (.ref it) (.ref s2.heap.objs.size) (compEnvC scope cl h3.objs.size X.env))
      (compPost (model X.prog X.w) X.A X.xe none (EP X pins σ Q) (.ref s2.heap.objs.size) h3.objs.size) { s2 with heap:=h₁,toks:=s2.toks+([]:List (Str × Value)).length }:=by
    refine compLoop_gen (fun n s'=>∃i σ' H',Inv (compCx X N scope cl { s2 with heap:=h3 } (upd H2 s2.heap.objs.size (.lst [])) fp pins) [] σ' H' s'/\tn i s'.heap/\(∀b∈fp,H' b=none)/\W i n σ' H') ?_ m0
      ⟨0,_,_,I4,st4,fun b hb=>(f3 b hb).1,w0⟩
    rintro n s5 ⟨i,σ5,H5,I5,st5,fr5,w5⟩
    have stat:∀ {H':Hp},(∀b∈fp,H' b=none) -> ∀b∈fp,FpOk (compCx X N scope cl { s2 with heap:=h3 } (upd H2 s2.heap.objs.size (.lst [])) fp pins) [] H' b:=fun {H'} hn b hb=>by
     obtain⟨_,q1,q2,q3,q4,q5⟩:=f3 b hb
     refine⟨hn b hb,fun z=>?_,I4.ok.exfs b hb,.inl hb,fun x c e=>q4 x c (c1 x c e),fun p hp=>q5 p (by simpa [compCx] using hp)⟩
     have hlt:b<h3.objs.size:=by rw [sz3]; exact Nat.lt_succ_of_lt (fpl b hb)
     exact Nat.ne_of_lt hlt z
    rcases turn i n σ5 H5 w5 with ⟨stop,qn⟩ | ⟨go,step⟩
    · refine thn (T.done (compCx X N scope cl { s2 with heap:=h3 } (upd H2 s2.heap.objs.size (.lst [])) fp pins) rfl rfl rfl hc i [] s5 σ5 H5 _ I5 (stat fr5) st5 stop) fun r s6 ⟨hr,I6⟩=>?_
      subst hr
      obtain⟨m,hm,_⟩:=I6.loc
      refine⟨m,hm,fun h7 hs7=>?_⟩
      have u0:Un (frs X.stack) fp (upd H2 s2.heap.objs.size (.lst [])) H5 h3 s6.heap:=I6.base
      have ne:∀b o,h3.get? b=some o->b≠h3.objs.size:=fun b o e=>Nat.ne_of_lt (Heap.lt_size e)
      have u:Un (frs X.stack) fp (upd H2 s2.heap.objs.size (.lst [])) H5 h3 h7:=⟨fun b o e n hb hx=>(hs7.2 b (ne b o e)).trans (u0.keep b o e n hb hx),
        fun b o e n hb hx=>let ⟨sl,q⟩:=u0.slot b o e n hb hx; ⟨sl,(hs7.2 b (ne b o e)).trans q⟩,u0.free,fun b o e hx=>let ⟨o',q⟩:=u0.there b o e hx; ⟨o',(hs7.2 b (ne b o e)).trans q⟩,u0.tups,u0.frzs,u0.tbls⟩
      have I7:Inv X pins σ H5 { s6 with heap:=h7 }:=I3.call' (s':={ s6 with heap:=h7 }) (ch:=fp) I6.os u (I6.hok.but I6.free hs7) I6.bare fun b hb=>⟨(f3 b hb).2.2.2.1,(f3 b hb).2.1,(f3 b hb).2.2.2.2.1,(f3 b hb).2.2.2.2.2⟩
      exact⟨.ref s2.heap.objs.size,H5,I7,rfl,qn⟩
    · refine thn (T.item (compCx X N scope cl { s2 with heap:=h3 } (upd H2 s2.heap.objs.size (.lst [])) fp pins) rfl rfl rfl hc i [] s5 σ5 H5 _ I5 (stat fr5) st5 go) fun r s6 ⟨u,hr,h6⟩=>?_
      subst hr
      refine thn h6 fun _ s7 ⟨x,H7,I7,r7,y7,st7,fr7⟩=>?_
      have I7':=I7.pinned (stat fr7) (T.obj _ _ st7)
      refine thn (hg _ _ _ _ _ _ s7 σ5 H7 x u _ I7' r7 (step x H7 y7)) fun _ s8 ⟨σ8,H8,I8,q8⟩=>?_
      refine thn (ht _ _ _ _ _ _ s8 σ8 H8 _ I8 q8) fun ok s9 ⟨H9,I9,q9⟩=>?_
      have again:∀ {s':Shared} {σ7:St} {H7:Hp},Inv (compCx X N scope cl { s2 with heap:=h3 } (upd H2 s2.heap.objs.size (.lst [])) fp pins) ([]++pinsAt fp s7.heap) σ7 H7 s'->(∃m',m'<n/\W (i+1) m' σ7 H7) ->
          ∃m,m<n /\ ∃i σ' H',Inv (compCx X N scope cl { s2 with heap:=h3 } (upd H2 s2.heap.objs.size (.lst [])) fp pins) [] σ' H' s'/\tn i s'.heap/\(∀b∈fp,H' b=none)/\W i m σ' H':=fun {s' σ7 H7} J7 n7=>by
        obtain⟨m',hm,w7⟩:=n7
        refine⟨m',hm,i+1,σ7,H7,J7.unpinned,T.keep _ _ _ st7 fun b hb o e=>(J7.pin (b,o) (List.mem_append_right _ (List.mem_append_right _ (mem_pinsAt hb e)))).1,fun b hb=>?_,w7⟩
        obtain⟨o,e,d⟩:=T.obj _ _ st7 b hb
        exact (J7.pin (b,o) (List.mem_append_right _ (List.mem_append_right _ (mem_pinsAt hb e)))).2.1
      cases ok with
      | false=>
        rw [if_neg Bool.false_ne_true] at q9 ⊢
        exact again I9 q9
      | true=>
        rw [if_pos rfl] at q9 ⊢
        refine thn (he _ _ _ _ _ _ s9 σ8 H9 _ I9 q9) fun yv s10 ⟨y,H10,I10,r10,ys,hys,hz,w10⟩=>?_
        refine thn (mt_append _ s10 σ8 H10 (.ref s2.heap.objs.size) [y] (.ref s2.heap.objs.size) [yv] (fun _ H11=>∃m',m'<n/\W (i+1) m' σ8 H11) I10 rfl (.cons r10 .nil) ⟨_,ys,y,rfl,rfl,hys,hz,w10⟩) fun _ s11 ⟨v11,H11,I11,r11,q11⟩=>?_
        exact again I11 q11
  exact codeAny_compStart_list loop (T.self _ 0 _ _ _ st4 loop)
end L2
set_option Elab.async false
set_option linter.all false
set_option maxRecDepth 100000
namespace L2
open PySem PySem.Spec PyProof.Rows
theorem bools_are:∀ {bs:List Bool} {us:List Value},Vals (bs.map V.bl) us->us=bs.map Value.bool
  | [],_,.nil=>rfl
  | b::r,_,.cons q t=>by
    cases (show _=Value.bool b from q)
    rw [bools_are t]; rfl
section
variable {X:Cx}
theorem call_all_list (hc:X.calm=true):CallR X (.builtin "all") (fun xs H Q=>∃(l:Addr) (bs:List Bool),xs=[.ref l]/\SqL X.K H l (bs.map V.bl)/\Q (.bl (bs.all id)) H):=by
 intro pins s σ H xs us Q I r h
 obtain⟨l,bs,rfl,hl,q⟩:=h
 obtain⟨u,rfl,ru⟩:=vals1 r
 cases (show u=Value.ref l from ru)
 obtain⟨its,rv,pl,hz⟩:=I.list hl
 have e:=bools_are rv
 subst e
 have hl':=pl.isList
 have hlt:l<s.heap.objs.size:=by obtain⟨_,e,_⟩:=hl'; exact Heap.lt_size e
 have hh:=I.ok.hd hc
 refine call_all_walk (wpAny_pyIter_list hl' ?_)
 refine ⟨s.heap.objs.size,[s.heap.objs.size,l],[s.heap.objs.size],(bs.map Value.bool).toArray.size,_,_,fun i=>(bs[i]?).getD true,rfl,Walks.list (A:=X.A.in1) hh _ l (Nat.ne_of_lt hlt) (bs.map Value.bool).toArray,
   ⟨⟨_,Heap.get?_push_size _ rfl,rfl,rfl⟩,hl'.push _⟩,fun i v s' Q' E' hP hQ=>?_,fun h' tk hk=>?_⟩
 · have hP':(bs.map Value.bool)[i]? = some v:=by simpa using hP
   rw [List.getElem?_map] at hP'
   cases e:bs[i]? with
   | none=>rw [e] at hP'; cases hP'
   | some b=>
     rw [e] at hP'
     cases hP'
     simp only [e,Option.getD_some] at hQ
     exact wpAny_truthy_bool hQ
 · have e:((List.range (bs.map Value.bool).toArray.size).all fun i=>(bs[i]?).getD true)=bs.all id:=by
     rw [List.size_toArray,List.length_map]; exact LSm.range_all bs
   rw [e]
   exact⟨.bl _,H,I.kept (LSm.kept_iter hk),rfl,q⟩
theorem call_any_list (hc:X.calm=true):CallR X (.builtin "any") (fun xs H Q=>∃(l:Addr) (bs:List Bool),xs=[.ref l]/\SqL X.K H l (bs.map V.bl)/\Q (.bl (bs.any id)) H):=by
 intro pins s σ H xs us Q I r h
 obtain⟨l,bs,rfl,hl,q⟩:=h
 obtain⟨u,rfl,ru⟩:=vals1 r
 cases (show u=Value.ref l from ru)
 obtain⟨its,rv,pl,hz⟩:=I.list hl
 have e:=bools_are rv
 subst e
 have hl':=pl.isList
 have hlt:l<s.heap.objs.size:=by obtain⟨_,e,_⟩:=hl'; exact Heap.lt_size e
 have hh:=I.ok.hd hc
 refine call_any_walk (wpAny_pyIter_list hl' ?_)
 refine ⟨s.heap.objs.size,[s.heap.objs.size,l],[s.heap.objs.size],(bs.map Value.bool).toArray.size,_,_,fun i=>(bs[i]?).getD false,rfl,Walks.list (A:=X.A.in1) hh _ l (Nat.ne_of_lt hlt) (bs.map Value.bool).toArray,
   ⟨⟨_,Heap.get?_push_size _ rfl,rfl,rfl⟩,hl'.push _⟩,fun i v s' Q' E' hP hQ=>?_,fun h' tk hk=>?_⟩
 · have hP':(bs.map Value.bool)[i]? = some v:=by simpa using hP
   rw [List.getElem?_map] at hP'
   cases e:bs[i]? with
   | none=>rw [e] at hP'; cases hP'
   | some b=>
     rw [e] at hP'
     cases hP'
     simp only [e,Option.getD_some] at hQ
     exact wpAny_truthy_bool hQ
 · have e:((List.range (bs.map Value.bool).toArray.size).any fun i=>(bs[i]?).getD false)=bs.any id:=by
     rw [List.size_toArray,List.length_map]; exact LSm.range_any bs
   rw [e]
   exact⟨.bl _,H,I.kept (LSm.kept_iter hk),rfl,q⟩
end
theorem comp_by {J:It} {g:TG} {tt:TT} {te:TE} {Q:VK} {D:Addr} {σ : St} {H:Hp} (n:Nat) (Pv:Nat->St->Hp->Prop) (h0:Pv 0 σ H)
    (hs:∀i σ H,i<n->Pv i σ H->J.go i H /\ ∀x H2,J.yld i H x H2->g x σ H2 fun σ3 H3=>tt σ3 H3 fun ok H4=>if ok=true then te σ3 H4 fun y H5=>∃ys,H5 D=some (.lst ys)/\ys.length<sizeLine /\ ∃m',m'<n-i/\m'=n-(i+1)/\i+1<=n/\Pv (i+1) σ3 (upd H5 D (.lst (ys++[y])))
      else ∃m',m'<n-i/\m'=n-(i+1)/\i+1<=n/\Pv (i+1) σ3 H4)
    (hd:∀ σ H,Pv n σ H->J.stop n H/\Q (.ref D) H) :
    CompW J g tt te Q D σ H:=by
  refine⟨fun i m σ H=>m=n-i/\i<=n/\Pv i σ H,⟨n,by simp,Nat.zero_le _,h0⟩,?_⟩
  rintro i m σ H ⟨rfl,hi,p⟩
  by_cases hlt:i<n
  · exact .inr (hs i σ H hlt p)
  · have e:i=n:=by omega
    subst e
    exact .inl (hd σ H p)
end L2
namespace L2
open PySem PySem.Spec PyProof.Rows
section
variable {X:Cx} {tg:Expr}
theorem ixK (K:PySem.W.Frag) (h:X.K=K):IxR X (fun x y H Q=>rIxL K x y H Q \/ rIxT K x y H Q):=by subst h; exact ix_list.or ix_tup
inductive IrSlA (K:PySem.W.Frag) (x:V) (lo:Option Int) (hi:Option Int) (H:Hp) (Q:VK):Prop
  | mk (a:_) (xs:_) (h0:x = .ref a) (h1:((SqL K H a xs /\ ∀p H',Nw H H' p (.lst (cutV xs lo hi))->Q (.ref p) H') \/
  (SqT K H a xs /\ ¬(HT.sIx xs.length 0 lo=0/\HT.sIx xs.length xs.length hi=xs.length) /\ ∀p H',Nw H H' p (.tup (cutV xs lo hi))->Q (.ref p) H'))):IrSlA K x lo hi H Q
def rSlA (K:PySem.W.Frag):V->Option Int->Option Int->Hp->VK->Prop:=fun x lo hi H Q=>IrSlA K x lo hi H Q
theorem slK (K:PySem.W.Frag) (h:X.K=K):SlR X (rSlA K):=by
 subst h
 intro pins s σ H x v vl vu lo hi sl Q I rx hs pl pu hq
 obtain⟨a,xs,e,hq⟩:=hq
 rcases hq with ⟨h1,k⟩ | ⟨h1,h2,k⟩
 · exact sl_list pins s σ H x v vl vu lo hi sl Q I rx hs pl pu ⟨a,xs,e,h1,fun p hp=>k p _ (.of hp)⟩
 · exact sl_tup pins s σ H x v vl vu lo hi sl Q I rx hs pl pu ⟨a,xs,e,h1,h2,fun p hp=>k p _ (.of hp)⟩
theorem lenK (K:PySem.W.Frag) (h:X.K=K):CallR X (.builtin "len") (fun xs H Q=>∃p ys,xs=[.ref p]/\(SqL K H p ys \/ SqT K H p ys)/\Q (.int ys.length) H):=by subst h; exact call_len_seq
theorem isiK (K:PySem.W.Frag) (h:X.K=K):CallR X (.builtin "isinstance") (fun xs H Q=>rIsi K xs H Q \/ rIsiT K xs H Q):=by subst h; exact call_isi.or call_isiT
theorem eqK (K:PySem.W.Frag) (h:X.K=K) (hu:X.A.units+64<cLine):OpR X (compareOp .Eq) (fun x y H Q=>rI0 (fun i j=>.bl (decide (i=j))) x y H Q \/ rEqD K x y H Q):=by subst h; exact op_eqA hu
theorem neK (K:PySem.W.Frag) (h:X.K=K) (hu:X.A.units+64<cLine):OpR X (compareOp .NotEq) (fun x y H Q=>rI0 (fun i j=>.bl (!decide (i=j))) x y H Q \/ rNeD K x y H Q):=by subst h; exact op_neA hu
theorem allK (K:PySem.W.Frag) (h:X.K=K) (hc:X.calm=true):CallR X (.builtin "all") (fun xs H Q=>∃(l:Addr) (bs:List Bool),xs=[.ref l]/\SqL K H l (bs.map V.bl)/\Q (.bl (bs.all id)) H):=by subst h; exact call_all_list hc
theorem anyK (K:PySem.W.Frag) (h:X.K=K) (hc:X.calm=true):CallR X (.builtin "any") (fun xs H Q=>∃(l:Addr) (bs:List Bool),xs=[.ref l]/\SqL K H l (bs.map V.bl)/\Q (.bl (bs.any id)) H):=by subst h; exact call_any_list hc
theorem tupleK (K:PySem.W.Frag) (h:X.K=K):CallR X (.type "tuple") (fun xs H Q=>∃p ys,xs=[.ref p]/\((SqL K H p ys /\ ∀l H',Nw H H' l (.tup ys)->Q (.ref l) H') \/ (SqT K H p ys/\Q (.ref p) H))):=by
 subst h
 intro pins s σ H xs us Q I r hq
 obtain⟨p,ys,e,h1⟩:=hq
 exact call_tuple_of pins s σ H xs us Q I r ⟨p,ys,e,h1.imp (fun⟨a,k⟩=>⟨a,fun l hl=>k l _ (.of hl)⟩) id⟩
def tTupA (t:TA):TE:=fun σ H Q=>t σ H fun xs H1=>xs.length<=sizeLine /\ ∀p H',Nw H1 H' p (.tup xs)->Q (.ref p) H'
def tLstA (t:TA):TE:=fun σ H Q=>t σ H fun xs H1=>xs.length<=sizeLine /\ ∀p H',Nw H1 H' p (.lst xs)->Q (.ref p) H'
theorem pe_tupA {es:List Expr} {t:TA} {pos:Pos} {x1} (h:PA X es t):PE X (.Tuple es x1 pos) (tTupA t):=by
 intro pins s σ H Q I hq
 refine wpAny_Tuple_spliced (thn (h pos pins s σ H _ I hq) fun us s1 ⟨xs,H1,I1,r,z,q⟩=>⟨by rw [<- r.length]; exact z,?_⟩)
 have hf:H1 s1.heap.objs.size=none:=I1.hok.fresh (Nat.le_refl _)
 refine⟨.ref s1.heap.objs.size,upd H1 s1.heap.objs.size (.tup xs),I1.laid (t':=s1.toks) (fun b u e=>Heap.get?_push_of_some _ e) (Nat.le_refl _) ?_,rfl,q _ _ (.of hf)⟩
 exact⟨z,us,r,⟨_,Heap.get?_push_size _ rfl,rfl,_,rfl⟩⟩
theorem pe_lstA {es:List Expr} {t:TA} {pos:Pos} (h:PA X es t):PE X (.List es pos) (tLstA t):=by
 intro pins s σ H Q I hq
 refine wpAny_List_spliced (thn (h pos pins s σ H _ I hq) fun us s1 ⟨xs,H1,I1,r,z,q⟩=>⟨by rw [<- r.length]; exact z,?_⟩)
 have hf:H1 s1.heap.objs.size=none:=I1.hok.fresh (Nat.le_refl _)
 refine⟨.ref s1.heap.objs.size,upd H1 s1.heap.objs.size (.lst xs),I1.laid (t':=s1.toks) (fun b u e=>Heap.get?_push_of_some _ e) (Nat.le_refl _) ?_,rfl,q _ _ (.of hf)⟩
 exact⟨z,us,0,r,Heap.get?_push_size _ rfl⟩
theorem piL (K:PySem.W.Frag) (h:X.K=K) {l:Expr} {tl:TE} (hl:PE X l tl):PI X tg l (iList K tl):=by subst h; exact pi_list hl
theorem piT (K:PySem.W.Frag) (h:X.K=K) {l:Expr} {tl:TE} (hl:PE X l tl):PI X tg l (iTup K tl):=by subst h; exact pi_tup hl
theorem pgT (K:PySem.W.Frag) (h:X.K=K) {es:List Expr} {k:Nat} {t:TGs} {n:Nat} {pos:Pos} (hc:X.calm=true) (hg:PGs X es t) (hn:(assignEach es X.env).length=n:=by rfl) (hst:(assignEach es X.env).findIdx? (·.1)=none:=by rfl) :
    PG X (.Tuple es k pos) (gTup K n t):=by subst h; exact pg_tup hc hg hn hst
theorem peApp (K:PySem.W.Frag) (h:X.K=K) {o e:Expr} {to:TE} {t:TA} {apos cpos:Pos} (ho:PE X o to) (ha:PA X [e] t)
    (hbase:attributeBase o "append" X.env (eval o X.env)=eval o X.env:=by rfl)
    (hfew:((backTo cpos (starEach [e] X.env)).all (fun x=>!x.1) && (backToKw cpos (keywordEach [] X.env)).all (fun x=>x.1.isSome)
      && decide ([e].length+([]:List Keyword).length+(if ([]:List Keyword).isEmpty then 0 else 1)<30))=true:=by rfl)
    (hline:(apos.endLine == cpos.line)=true:=by rfl) (hs:starEach [e] X.env=(false,eval e X.env)::starEach [] X.env:=by rfl) (hplain:(backTo cpos (starEach [] X.env)).any (·.1)=false:=by rfl) :
    PE X (.Call (.Attribute o "append" apos) [e] [] cpos) (tBM K "list" rAppend to t):=by subst h; exact pe_bm PySem.F.plainAttrs_list PySem.F.slot_list_append PySem.F.type_list_append mt_append ho ha hbase hfew hline hs hplain
theorem yesN {j:Nat} {x:V} {σ : St} {H:Hp} {A B:St->Hp->Prop} (h:A (σ.set j (some x)) H):gName j x σ H fun σ3 H3=>tYes σ3 H3 fun ok H4=>if ok=true then A σ3 H4 else B σ3 H4:=by
 show if true=true then A (σ.set j (some x)) H else B (σ.set j (some x)) H
 rw [if_pos rfl]; exact h
theorem yes {σ : St} {H:Hp} {Q:Bool->Hp->Prop} (h:Q true H):tYes σ H Q:=h
end
end L2
set_option Elab.async false
set_option linter.all false
set_option maxRecDepth 100000
namespace L2
open PySem PySem.Spec PyProof.Rows
theorem SqL.go {K:PySem.W.Frag} {H H':Hp} {a:Addr} {xs:List V} (s:Same H H') (h:SqL K H a xs):SqL K H' a xs:=h.imp (fun r=>r.imp (s _ _) fun⟨o,e⟩=>⟨o,s _ _ e⟩) id
theorem SqT.go {K:PySem.W.Frag} {H H':Hp} {a:Addr} {xs:List V} (s:Same H H') (h:SqT K H a xs):SqT K H' a xs:=h.imp (fun r=>r.imp (s _ _) fun⟨o,e⟩=>⟨o,s _ _ e⟩) id
mutual
theorem RD.mono {K:PySem.W.Frag} {H H':Hp} (s:Same H H'):∀ {x:V} (d:PyData),RD K H x d->RD K H' x d
  | x,.none,h=>by simpa [RD] using h
  | x,.bool b,h=>by simpa [RD] using h
  | x,.int i,h=>by simpa [RD] using h
  | x,.str y,h=>by simpa [RD] using h
  | x,.list ds,h=>by
    rw [RD] at h ⊢
    obtain⟨a,xs,e,h1,h2⟩:=h
    exact⟨a,xs,e,h1.go s,RDs.mono s ds h2⟩
  | x,.tuple ds,h=>by
    rw [RD] at h ⊢
    obtain⟨a,xs,e,h1,h2⟩:=h
    exact⟨a,xs,e,h1.go s,RDs.mono s ds h2⟩
  | x,.dict _,h=>by simp [RD] at h
theorem RDs.mono {K:PySem.W.Frag} {H H':Hp} (s:Same H H'):∀ {xs:List V} (ds:List PyData),RDs K H xs ds->RDs K H' xs ds
  | xs,[],h=>by simpa [RDs] using h
  | xs,d::ds,h=>by
    rw [RDs] at h ⊢
    obtain⟨y,ys,e,h1,h2⟩:=h
    exact⟨y,ys,e,RD.mono s d h1,RDs.mono s ds h2⟩
end
section
variable {K:PySem.W.Frag} {H H':Hp}
theorem RDs.nil_inv {xs:List V} (h:RDs K H xs []):xs=[]:=by simpa [RDs] using h
theorem RDs.cons_inv {xs:List V} {d:PyData} {ds:List PyData} (h:RDs K H xs (d::ds)):∃y ys,xs=y::ys/\RD K H y d/\RDs K H ys ds:=by rw [RDs] at h; exact h
theorem RD.tup_inv {x:V} {ds:List PyData} (h:RD K H x (.tuple ds)):∃a xs,x = .ref a/\SqT K H a xs/\RDs K H xs ds:=by rw [RD] at h; exact h
theorem RD.lst_inv {x:V} {ds:List PyData} (h:RD K H x (.list ds)):∃a xs,x = .ref a/\SqL K H a xs/\RDs K H xs ds:=by rw [RD] at h; exact h
theorem RD.int_inv {x:V} {i:Int} (h:RD K H x (.int i)):x = .int i:=by rw [RD] at h; exact h
theorem RD.bl_inv {x:V} {i:Bool} (h:RD K H x (.bool i)):x = .bl i:=by rw [RD] at h; exact h
theorem RD.str_inv {x:V} {i:Str} (h:RD K H x (.str i)):x = .str i:=by rw [RD] at h; exact h
theorem RD.non_inv {x:V} (h:RD K H x .none):x = .non:=by rw [RD] at h; exact h
theorem RDs.length:∀ {xs:List V} {ds:List PyData},RDs K H xs ds->xs.length=ds.length
  | xs,[],h=>by rw [h.nil_inv]; rfl
  | xs,d::ds,h=>by
    obtain⟨y,ys,rfl,_,h2⟩:=h.cons_inv
    rw [List.length_cons,List.length_cons,RDs.length h2]
theorem RDs.append:∀ {xs ys:List V} {ds es:List PyData},RDs K H xs ds->RDs K H ys es->RDs K H (xs++ys) (ds++es)
  | xs,ys,[],es,h,g=>by rw [h.nil_inv]; exact g
  | xs,ys,d::ds,es,h,g=>by
    obtain⟨y,zs,rfl,h1,h2⟩:=h.cons_inv
    exact rds_cons h1 (RDs.append h2 g)
theorem RDs.take:∀(n:Nat) {xs:List V} {ds:List PyData},RDs K H xs ds->RDs K H (xs.take n) (ds.take n)
  | 0,xs,ds,h=>by rw [List.take_zero,List.take_zero]; exact rds_nil
  | n+1,xs,[],h=>by rw [h.nil_inv]; exact rds_nil
  | n+1,xs,d::ds,h=>by
    obtain⟨y,zs,rfl,h1,h2⟩:=h.cons_inv
    exact rds_cons h1 (RDs.take n h2)
theorem RDs.get:∀(n:Nat) {xs:List V} {ds:List PyData} {d:PyData},RDs K H xs ds->ds[n]? = some d -> ∃x,xs[n]? = some x/\RD K H x d
  | n,xs,[],d,h,e=>by simp at e
  | 0,xs,d'::ds,d,h,e=>by
    obtain⟨y,zs,rfl,h1,h2⟩:=h.cons_inv
    have e':d'=d:=by simpa using e
    subst e'
    exact⟨y,rfl,h1⟩
  | n+1,xs,d'::ds,d,h,e=>by
    obtain⟨y,zs,rfl,h1,h2⟩:=h.cons_inv
    exact RDs.get n h2 (by simpa using e)
theorem RDs.get' (n:Nat) {xs:List V} {ds:List PyData} {x:V} (h:RDs K H xs ds) (e:xs[n]? = some x):∃d,ds[n]? = some d/\RD K H x d:=by
 have hl:n<ds.length:=by rw [<- h.length]; exact (List.getElem?_eq_some_iff.mp e).1
 obtain⟨y,e1,r⟩:=h.get n (List.getElem?_eq_getElem hl)
 rw [e] at e1
 cases e1
 exact⟨_,List.getElem?_eq_getElem hl,r⟩
def tyD:PyData->String
  | .none=>"NoneType"
  | .bool _=>"bool"
  | .int _=>"int"
  | .str _=>"str"
  | .list _=>"list"
  | .tuple _=>"tuple"
  | .dict _=>"dict"
theorem RD.ty {x:V}:∀ {d:PyData},RD K H x d->TyN K H x (tyD d)
  | .none,h=>by rw [h.non_inv]; rfl
  | .bool b,h=>by rw [h.bl_inv]; rfl
  | .int b,h=>by rw [h.int_inv]; rfl
  | .str b,h=>by rw [h.str_inv]; rfl
  | .list ds,h=>by obtain⟨a,xs,rfl,h1,_⟩:=h.lst_inv; exact .inl ⟨rfl,xs,h1⟩
  | .tuple ds,h=>by obtain⟨a,xs,rfl,h1,_⟩:=h.tup_inv; exact .inr ⟨rfl,xs,h1⟩
  | .dict _,h=>by simp [RD] at h
structure OkD (n:Nat) (d:PyData):Prop where
 lay:d.canLay0=true
 dep:d.depth<=n
def OkDs (n:Nat) (ds:List PyData):Prop:=∀d∈ds,OkD n d
theorem OkD.le {n m:Nat} {d:PyData} (h:OkD n d) (l:n<=m):OkD m d:=⟨h.lay,Nat.le_trans h.dep l⟩
theorem okds_iff {n:Nat}:∀ {ds:List PyData},OkDs n ds↔(PyData.canLayAll0 ds=true/\PyData.depthAll ds<=n)
  | []=>⟨fun _=>⟨rfl,Nat.zero_le _⟩,fun _ _ h=>nomatch h⟩
  | d::ds=>by
    have ih:=okds_iff (n:=n) (ds:=ds)
    simp only [PyData.canLayAll0,PyData.depthAll,Bool.and_eq_true]
    constructor
    · intro h
      have h1:=h d (.head _)
      have h2:=ih.mp fun x hx=>h x (.tail _ hx)
      exact⟨⟨h1.lay,h2.1⟩,Nat.max_le.mpr ⟨h1.dep,h2.2⟩⟩
    · rintro⟨⟨a,b⟩,c⟩ x hx
      have c':=Nat.max_le.mp c
      rcases List.mem_cons.mp hx with rfl | hx
      · exact⟨a,c'.1⟩
      · exact ih.mpr ⟨b,c'.2⟩ x hx
theorem OkDs.tup {n:Nat} {ds:List PyData} (h:OkDs n ds):OkD (n+1) (.tuple ds):=⟨by simpa [PyData.canLay0] using (okds_iff.mp h).1,by simpa [PyData.depth] using (okds_iff.mp h).2⟩
theorem OkD.tup_inv {n:Nat} {ds:List PyData} (h:OkD (n+1) (.tuple ds)):OkDs n ds:=okds_iff.mpr ⟨by simpa [PyData.canLay0] using h.lay,by simpa [PyData.depth] using h.dep⟩
theorem OkD.int {n:Nat} (i:Int):OkD n (.int i):=⟨rfl,Nat.zero_le _⟩
theorem OkD.non {n:Nat}:OkD n .none:=⟨rfl,Nat.zero_le _⟩
theorem OkDs.nil {n:Nat}:OkDs n []:=fun _ h=>nomatch h
theorem OkDs.cons {n:Nat} {d:PyData} {ds:List PyData} (h:OkD n d) (g:OkDs n ds):OkDs n (d::ds):=fun x hx=>by
 rcases List.mem_cons.mp hx with rfl | hx
 · exact h
 · exact g x hx
theorem OkD.shaped {n:Nat} {d:PyData} (h:OkD n d) (l:n<=64):SeqAt.shaped d=true:=by
 unfold SeqAt.shaped
 rw [h.lay,Bool.true_and]
 exact decide_eq_true (Nat.le_trans h.dep l)
variable {p:Addr} {n m:Nat} {v:V} {vs:List V} {d:PyData} {ds es:List PyData}
end
section
variable {X:Cx}
end
end L2
namespace HT
open PySem PySem.Spec PyProof.Rows
section
variable {prog:Program} {w:World} {A:Around} {E:Value->Shared->Prop} {s:Shared}
theorem getItem_tuple_whole {t sl:Addr} {items:Array Value} {vl vu:Value} {lo hi:Option Int} {Q:Value->Shared->Prop} (ht:IsTup s.heap t items) (hs:s.heap.IsSliceOf sl vl vu .none) (pl:IsPart vl lo) (pu:IsPart vu hi)
    (hw:sIx items.size 0 lo=0/\sIx items.size items.size hi=items.size) (h:Q (.ref t) s):wpAny (model prog w) A (getItem (.ref t) (.ref sl)) Q E s:=by
  obtain⟨os,hos,hcs,hds⟩:=id hs
  have hTs:s.TypeIs (.ref sl) "slice":=⟨os,hos,hcs⟩
  unfold getItem
  try with_reducible refine wpAny_holding ?_
  first | refine wpAny_bind (wpAny_pure ?_) | skip
  refine wpAny_bind (wpAny_sequenceKey ht.typeIs (by decide) ?_)
  refine wpAny_bind (wpAny_callSpecial?_slot (name:=Str.ofString "__getitem__") ht.typeIs PyProof.Rows.slot_tuple_getitem
    (wpAny_call_entry PyProof.Rows.slot_tuple_getitem ht.typeIs entry_tuple_getitem ?_ (args_tuple_getitem _ _)))
  show wpAny _ _ (Builtin.Tuple.tupleItemsOf (.ref t) >>= _) _ _ s
  refine wpAny_bind (tupleItemsOf_ ht ?_)
  refine wpAny_bind (wpAny_typeOf hTs ?_)
  rw [if_pos (by decide)]
  refine wpAny_bind (sliceApplied_gen hs pl pu ?_)
  have hyes:(((sIx items.size 0 lo:Nat):Int) == 0 && (1:Int) == 1 && (sIx items.size items.size hi-sIx items.size 0 lo) == items.size)=true:=by
   rw [hw.1,hw.2]; simp
  show wpAny _ _ (if (((sIx items.size 0 lo:Nat):Int) == 0 && (1:Int) == 1 && (sIx items.size items.size hi-sIx items.size 0 lo) == items.size)=true then _ else _) _ _ s
  rw [if_pos hyes]
  show wpAny _ _ (Builtin.Tuple.tupleIsExact (.ref t) >>= _) _ _ s
  refine wpAny_bind (m:=Builtin.Tuple.tupleIsExact _) (wpAny_bind (wpAny_typeOf ht.typeIs (wpAny_pure ?_)))
  rw [if_pos (by decide)]
  wp_walk
  exact⟨_,rfl,wpAny_pure h⟩
end
end HT
namespace L2
open PySem PySem.Spec PyProof.Rows
section
variable {X:Cx}
end
section
variable {X:Cx}
end
end L2
namespace L2
theorem atI_of {α : Type} {xs:List α} {i:Int} {v : α} (h0:0<=i) (h:xs[i.toNat]? = some v):atI xs i=some v:=by
 have hl:i.toNat<xs.length:=(List.getElem?_eq_some_iff.mp h).1
 unfold atI ixN
 rw [if_pos h0,if_pos (by omega)]
 exact h
end L2
namespace L2
open PySem PySem.Spec PyProof.Rows
theorem smallN (n:Nat) (h:n<=1000):n<=sizeLine:=Nat.le_trans h (by decide)
end L2
namespace L2
open PySem PySem.Spec PyProof.Rows
end L2
set_option Elab.async false
set_option linter.all false
set_option maxRecDepth 100000
namespace L2
open PySem PySem.Spec PyProof.Rows
def GV (mg:Str->Option Value) (x:Str) (v:V):Prop:=∃u,mg x=some u/\RelV v u
def GT (K:PySem.W.Frag) (mg:Str->Option Value) (x:Str) (vs:List V):Prop:=∃a,GV mg x (.ref a) /\ ∀H,SqT K H a vs
theorem pe_gv {X:Cx} {x:Str} {v:V} {pos:Pos} (hg:Gl X x) (h:GV X.mg x v) (hd:(x == ("__debug__" : Str))=false:=by decide):PE X (.Name x pos) (tC v):=by
 obtain⟨u,hm,r⟩:=h
 exact pe_glob hg hm r hd
section
variable {K:PySem.W.Frag} {mg:Str->Option Value} {h:Heap}
theorem gv_int {x:Str} {i:Int} {t:Tok} (X:K.In h) (G:h.Ns mainGlobals mg) (a:PySem.W.nsIn K mainGlobals x=some (some (.int i t))):GV mg x (.int i):=⟨_,PySem.W.mg_of X G a,t,rfl⟩
theorem gt_mk {x:Str} {vs:List V} {b:Addr} {its:Array Value} {n:Nat} {od:Option Addr} {osl:Array (Option Value)} (X:K.In h) (G:h.Ns mainGlobals mg) (a:PySem.W.nsIn K mainGlobals x=some (some (.ref b)))
    (l:K.lookup b=some ⟨.type "tuple",od,.seq its n,osl⟩) (hz:its.size<=sizeLine) (r:Vals vs its.toList):GT K mg x vs:=
  ⟨b,⟨_,PySem.W.mg_of X G a,rfl⟩,fun H=>.inr ⟨_,its,n,l,rfl,rfl,hz,r⟩⟩
end
section
variable {X:Cx}
end
theorem comp_bl {J:It} {xs:List V} {bs:List Bool} {te:TE} {Q:VK} {D:Addr} {H H0:Hp} (rest:St) (nw:Nw H H0 D (.lst [])) (hl:xs.length=bs.length) (hz:xs.length<=1000)
    (go:∀i x H2,xs[i]? = some x->Same H H2->J.go i H2 /\ ∀y H3,J.yld i H2 y H3->H3=H2/\y=x) (stop:∀H2,Same H H2->J.stop xs.length H2)
    (hs:∀(i:Nat) (x:V) (b:Bool) (H2:Hp) (Q':VK),xs[i]? = some x->bs[i]? = some b->Same H H2->(∀H3,Same H2 H3->Q' (.bl b) H3)->te (some x::rest) H2 Q')
    (hq:∀H',Same H H'->H' D=some (.lst (bs.map V.bl))->Q (.ref D) H'):CompW J (gName 0) tYes te Q D (none::rest) H0:=by
  have hD:=nw.no
  refine comp_by xs.length (fun i σ H2=>Same H H2/\H2 D=some (.lst ((bs.take i).map V.bl)) /\ ∃v,σ = v::rest) ?_ ?_ ?_
  · exact⟨nw.same,nw.at',none,rfl⟩
  · rintro i σ H2 hi ⟨s2,d2,v,rfl⟩
    have hib:i<bs.length:=by rw [<- hl]; exact hi
    have ex:=List.getElem?_eq_getElem hi
    have eb:=List.getElem?_eq_getElem hib
    obtain⟨g1,g2⟩:=go i _ H2 ex s2
    refine⟨g1,fun y H3 hy=>?_⟩
    obtain⟨rfl,rfl⟩:=g2 y H3 hy
    refine yesN ?_
    refine hs i _ _ _ _ ex eb s2 fun H4 s4=>?_
    refine⟨_,s4 _ _ d2,?_,xs.length-(i+1),by omega,rfl,by omega,fun b o e=>?_,?_,_,rfl⟩
    · rw [List.length_map,List.length_take]
      have:(1000:Nat)<sizeLine:=by decide
      omega
    · rw [upd_ne (ne_of_none e hD)]; exact s4 b o (s2 b o e)
    · rw [upd_same,List.take_succ,eb,List.map_append]; rfl
  · rintro σ H2 ⟨s2,d2,v,rfl⟩
    refine⟨stop H2 s2,hq H2 s2 ?_⟩
    rw [d2,hl,List.take_length]
theorem comp_blT {K:PySem.W.Frag} {a:Addr} {xs:List V} {bs:List Bool} {te:TE} {Q:VK} {D:Addr} {H H0:Hp} (rest:St) (hx:SqT K H a xs) (nw:Nw H H0 D (.lst [])) (hl:xs.length=bs.length) (hz:xs.length<=1000)
    (hs:∀(i:Nat) (x:V) (b:Bool) (H2:Hp) (Q':VK),xs[i]? = some x->bs[i]? = some b->Same H H2->(∀H3,Same H2 H3->Q' (.bl b) H3)->te (some x::rest) H2 Q')
    (hq:∀H',Same H H'->H' D=some (.lst (bs.map V.bl))->Q (.ref D) H'):CompW (Itt K a) (gName 0) tYes te Q D (none::rest) H0:=
  comp_bl rest nw hl hz (fun i x H2 e s=>⟨⟨xs,x,hx.go s,e⟩,fun y H3 ⟨e3,y3⟩=>⟨e3,by have:=y3 _ (hx.go s); rw [e] at this; exact (Option.some.inj this).symm⟩⟩) (fun H2 s=>⟨xs,hx.go s,Nat.le_refl _⟩) hs hq
theorem map_get {ds:List PyData} {f:PyData->Bool} {i:Nat} {b:Bool} (h:(ds.map f)[i]? = some b):∃d,ds[i]? = some d/\f d=b:=by
 rw [List.getElem?_map] at h
 cases e:ds[i]? with
 | none=>rw [e] at h; cases h
 | some d=>rw [e] at h; exact⟨d,rfl,Option.some.inj h⟩
theorem all_map {ds:List PyData} {f:PyData->Bool}:(ds.map f).all id=ds.all f:=by rw [List.all_map]; rfl
end L2
set_option Elab.async false
set_option linter.all false
set_option maxRecDepth 100000
namespace L2
open PySem PySem.Spec PyProof.Rows
section
variable {X:Cx}
open Classical in
noncomputable def eqD (h:Heap) (d:PyData) (w:Value):Bool:=if q:∃e as,Reads h w e as then PyData.eqv q.choose d else false
theorem eqD_of {h:Heap} {d e:PyData} {w:Value} {as:List Addr} (r:Reads h w e as):eqD h d w=PyData.eqv e d:=by
 have q:∃e as,Reads h w e as:=⟨e,as,r⟩
 unfold eqD
 rw [dif_pos q]
 obtain⟨as',r'⟩:=q.choose_spec
 rw [(Reads.unique r' e as r).1]
theorem eqs_of {pins:List (Addr × Obj)} {s:Shared} {σ : St} {H:Hp} (I:Inv X pins σ H s) (hu:X.A.units+65<cLine) {x:V} {u:Value} {d:PyData} (rx:RelV x u) (hd:RD X.K H x d) (sd:SeqAt.shaped d=true) :
    ∀ {xs:List V} {us:List Value} {ds:List PyData},Vals xs us->RDs X.K H xs ds->(∀e∈ds,SeqAt.shaped e=true)->(∀w∈us,SeqAt.EqAt X.A.in1 s w u (eqD s.heap d w))/\us.any (eqD s.heap d)=ds.any fun e=>PyData.eqv e d
  | xs,us,[],rv,h,_=>by
    cases h.nil_inv
    cases rv
    exact⟨fun _ h=>(List.not_mem_nil h).elim,rfl⟩
  | xs,us,e::ds,rv,h,se=>by
    obtain⟨y,ys,rfl,h1,h2⟩:=h.cons_inv
    cases rv with
    | cons ra rb=>
      rename_i w ws
      obtain⟨as,q1⟩:=RD.reads I e ra h1
      obtain⟨bs,q2⟩:=RD.reads I d rx hd
      have key:SeqAt.EqAt X.A.in1 s w u (PyData.eqv e d):=SeqAt.eqAt_reads e d X.A.in1 s w u as bs q1 q2 (SeqAt.canLay_of_shaped (se e (.head _))) (SeqAt.canLay_of_shaped sd) (SeqAt.room_of_shaped (se e (.head _)) (by show X.A.units+1+64<cLine; omega))
      obtain⟨k1,k2⟩:=eqs_of I hu rx hd sd rb h2 (fun e' he=>se e' (.tail _ he))
      have ew:eqD s.heap d w=PyData.eqv e d:=eqD_of q1
      refine⟨fun z hz=>?_,?_⟩
      · rcases List.mem_cons.mp hz with rfl | hz
        · rw [ew]; exact key
        · exact k1 z hz
      · rw [List.any_cons,List.any_cons,ew,k2]
end
end L2
namespace L2
theorem Room.units1 {k:Nat} {A:PySem.Around} (r:Room k A):A.units+65<PySem.cLine:=by have:=r.un; omega
end L2
set_option Elab.async false
set_option linter.all false
set_option maxRecDepth 100000
namespace L2
open PySem PySem.Spec PyProof.Rows
def ItO (b:Bool) (h:Heap) (it l:Addr) (k:Nat):Prop:=match b with | true=>h.IsListIter it l k | false=>h.IsTupleIter it l k
def SqO (b:Bool) (h:Heap) (l:Addr) (xs:Array Value):Prop:=match b with | true=>h.IsList l xs | false=>h.IsTuple l xs
def cnO (b:Bool):String:=match b with | true=>"list_iterator" | false=>"tuple_iterator"
theorem ItO.to {b:Bool} {h g:Heap} {it l:Addr} {k:Nat} (x:ItO b h it l k) (e:∀o,h.get? it=some o->g.get? it=some o):ItO b g it l k:=by
 cases b <;> (obtain⟨o,ho,r⟩:=x; exact⟨o,e o ho,r⟩)
theorem SqO.to {b:Bool} {h g:Heap} {l:Addr} {xs:Array Value} (x:SqO b h l xs) (e:∀o,h.get? l=some o->g.get? l=some o):SqO b g l xs:=by
 cases b <;> (obtain⟨o,ho,r⟩:=x; exact⟨o,e o ho,r⟩)
theorem ItO.ob {b:Bool} {h:Heap} {it l:Addr} {k:Nat} (x:ItO b h it l k):∃o,h.get? it=some o/\o.cls = .type (cnO b) /\ ∀v,o.data ≠ .cell v:=by
 cases b <;> (obtain⟨o,ho,c,d⟩:=x; exact⟨o,ho,c,fun v z=>by rw [d] at z; cases z⟩)
section
variable {prog:Program} {w:World} {A:Around} {E:Value->Shared->Prop} {s:Shared}
theorem newO {b:Bool} {l:Addr} {xs:Array Value} {Q:Value->Shared->Prop} (x:SqO b s.heap l xs)
    (q:Q (.ref s.heap.objs.size) { s with heap:=s.heap.push { cls:=.type (cnO b),data:=.fields #[.ref l,.int 0 0] } }):wpAny (model prog w) A (pyIter (.ref l)) Q E s:=by
  cases b
  · exact wpAny_pyIter_tuple x q
  · exact wpAny_pyIter_list x q
theorem nx_tup {it t:Addr} {k:Nat} {ts:Array Value} {x:Value} {Q:Value->Shared->Prop} (hi:s.heap.IsTupleIter it t k) (ht:s.heap.IsTuple t ts) (hx:ts[k]? = some x)
    (q:∀g,g.IsTupleIter it t (k+1)->Heap.SameBut it s.heap g->Q x { s with heap:=g }):wpAny (model prog w) A (Builtin.SmallTypes.nextOf (.ref it)) Q E s:=by
  obtain⟨oi,hoi,ci,di⟩:=id hi
  obtain⟨ot,hot,_,nt,dt⟩:=ht
  unfold Builtin.SmallTypes.nextOf
  refine wpAny_bind (wpAny_callSpecial?_slot (name:=Str.ofString "__next__") hi.typeIs PySem.F.slot_tuple_iterator_next (wpAny_call_entry PySem.F.slot_tuple_iterator_next hi.typeIs PySem.F.entry_tuple_iterator_next ?_ (PySem.F.args_tuple_iterator_next_1 _)))
  show wpAny _ _ (field (.ref it) 0 >>= _) _ _ s; refine wpAny_bind (wpAny_field hoi di (x:=.ref t) rfl ?_)
  show wpAny _ _ (if (Value.ref t == Value.none)=true then _ else _) _ _ s; rw [if_neg (show ¬((Value.ref t == Value.none)=true) from Bool.false_ne_true)]
  show wpAny _ _ (field (.ref it) 1 >>= _) _ _ s; refine wpAny_bind (wpAny_field hoi di (x:=.int k 0) rfl ?_)
  show wpAny _ _ (seqItems? (.ref t) >>= _) _ _ s; refine wpAny_bind (wpAny_seqItems hot dt ?_)
  simp only [Int.toNat_natCast,hx]
  refine wpAny_bind (wpAny_setField hoi di (by simp) (wpAny_pure ⟨x,rfl,wpAny_pure (q _ ?_ (Heap.SameBut.update ..))⟩))
  exact⟨_,Heap.get?_update_self _ hoi (Obj.isFreed_of_fields (Obj.data_mapFields di _)),(Obj.cls_mapFields ..).trans ci,by rw [Obj.data_mapFields di]; simp [rawInt]⟩
theorem en_tup {it t:Addr} {k:Nat} {ts:Array Value} {Q:Value->Shared->Prop} (hh:A.handled=none) (hi:s.heap.IsTupleIter it t k) (ht:s.heap.IsTuple t ts) (hx:ts[k]? = none)
    (q:∀g e,Heap.ExtBut it s.heap g->(∃o,g.get? e=some o/\o.cls = .type "StopIteration")->E (.ref e) { s with heap:=g }):wpAny (model prog w) A (Builtin.SmallTypes.nextOf (.ref it)) Q E s:=by
  obtain⟨oi,hoi,ci,di⟩:=id hi
  obtain⟨ot,hot,_,nt,dt⟩:=ht
  unfold Builtin.SmallTypes.nextOf
  refine wpAny_bind (wpAny_callSpecial?_slot (name:=Str.ofString "__next__") hi.typeIs PySem.F.slot_tuple_iterator_next (wpAny_call_entry PySem.F.slot_tuple_iterator_next hi.typeIs PySem.F.entry_tuple_iterator_next ?_ (PySem.F.args_tuple_iterator_next_1 _)))
  show wpAny _ _ (field (.ref it) 0 >>= _) _ _ s; refine wpAny_bind (wpAny_field hoi di (x:=.ref t) rfl ?_)
  show wpAny _ _ (if (Value.ref t == Value.none)=true then _ else _) _ _ s; rw [if_neg (show ¬((Value.ref t == Value.none)=true) from Bool.false_ne_true)]
  show wpAny _ _ (field (.ref it) 1 >>= _) _ _ s; refine wpAny_bind (wpAny_field hoi di (x:=.int k 0) rfl ?_)
  show wpAny _ _ (seqItems? (.ref t) >>= _) _ _ s; refine wpAny_bind (wpAny_seqItems hot dt ?_)
  simp only [Int.toNat_natCast,hx]
  refine wpAny_bind (wpAny_rule (wpAny_bind (wpAny_setField hoi di (by simp) ?_)))
  show wpAny _ _ (newExc (.type "StopIteration") [] >>= _) _ _ _; refine wpAny_bind ?_; simp only [newExc,newTuple]
  refine wpAny_bind (wpAny_newObj_type ?_ (by size_fits)); refine wpAny_bind (m:=firstArgMember _ _) (wpAny_of_eq (a:=Value.none) (by first | rfl | (simp only [firstArgMember]; rfl)) ?_)
  refine wpAny_newObj_type ?_ (by size_fits); simp only [raiseNew]; refine wpAny_bind (wpAny_handled ?_)
  first | rw [show A.in1.handled=none from hh] | rw [hh]
  exact wpAny_bind (wpAny_pure (wpAny_throw (q _ _ (((Heap.SameBut.update ..).extBut.push _).push _) ⟨_,Heap.get?_push_size _ rfl,rfl⟩)))
theorem nxO {b:Bool} {it l:Addr} {k:Nat} {xs:Array Value} {x:Value} {Q:Value->Shared->Prop} (hi:ItO b s.heap it l k) (hl:SqO b s.heap l xs) (hx:xs[k]? = some x)
    (q:∀g,ItO b g it l (k+1)->Heap.SameBut it s.heap g->Q x { s with heap:=g }):wpAny (model prog w) A (Builtin.SmallTypes.nextOf (.ref it)) Q E s:=by
  cases b
  · exact nx_tup hi hl hx q
  · exact wpAny_nextOf_list_item hi hl hx q
theorem enO {b:Bool} {it l:Addr} {k:Nat} {xs:Array Value} {Q:Value->Shared->Prop} (hh:A.handled=none) (hi:ItO b s.heap it l k) (hl:SqO b s.heap l xs) (hx:xs[k]? = none)
    (q:∀g e,Heap.ExtBut it s.heap g->(∃o,g.get? e=some o/\o.cls = .type "StopIteration")->E (.ref e) { s with heap:=g }):wpAny (model prog w) A (Builtin.SmallTypes.nextOf (.ref it)) Q E s:=by
  cases b
  · exact en_tup hh hi hl hx q
  · exact wpAny_nextOf_list_end hh hi hl hx q
structure Zp (b1 b2:Bool) (h:Heap) (z TI TO i1 i2 l1 l2:Addr) (f0:Value) (k:Nat):Prop where
 zz:IsZip h z TI TO f0
 ti:IsPair h TI (.ref i1) (.ref i2)
 to:∃a b,IsPair h TO a b
 n1:ItO b1 h i1 l1 k
 n2:ItO b2 h i2 l2 k
theorem ownFree {z TI TO:Addr} {Q:Bool->Shared->Prop} (hz:IsZip s.heap z TI TO .none) (q:Q true s):wpAny (model prog w) A (Builtin.SmallTypes.ownedTupleIsFree (.ref z)) Q E s:=by
 unfold Builtin.SmallTypes.ownedTupleIsFree
 exact wpAny_bind (wpAny_field hz rfl (x:=.none) rfl (wpAny_pure q))
theorem zpItem {b1 b2:Bool} {z TI TO i1 i2 l1 l2:Addr} {k:Nat} {xs ys:Array Value} {x y:Value} {Q:Value->Shared->Prop} (D:ZipApart z TI TO i1 i2 l1 l2) (Z:Zp b1 b2 s.heap z TI TO i1 i2 l1 l2 .none k)
    (hl1:SqO b1 s.heap l1 xs) (hl2:SqO b2 s.heap l2 ys) (hx:xs[k]? = some x) (hy:ys[k]? = some y)
    (q:∀g,Zp b1 b2 g z TI TO i1 i2 l1 l2 (rawInt s.heap.objs.size) (k+1)->IsPair g s.heap.objs.size x y->(∀c o,c≠z->c≠TO->c≠i1->c≠i2->s.heap.get? c=some o->g.get? c=some o)->Q (.ref s.heap.objs.size) { s with heap:=g }) :
    wpAny (model prog w) A (Builtin.«zip.__next__» ⟨[.ref z],[]⟩) (fun r s'=>∃v,r = .done (.ret v)/\Q v s') E s:=by
  obtain⟨hz,hTI,⟨a,b,hTO⟩,h1,h2⟩:=Z
  show wpAny _ _ (field (.ref z) 2 >>= _) _ _ _; refine wpAny_bind (wpAny_field hz rfl (x:=.bool false) rfl ?_); show wpAny _ _ (field (.ref z) 3 >>= _) _ _ _
  refine wpAny_bind (wpAny_field hz rfl (x:=.ref TI) rfl (wpAny_bind (wpAny_seqItems hTI rfl ?_)))
  show wpAny _ _ (Builtin.SmallTypes.ownedTupleIsFree (.ref z) >>= _) _ _ _; refine wpAny_bind (ownFree hz ?_); simp only [if_true]
  refine wpAny_bind (wpAny_rule (wpAny_bind (wpAny_field hz rfl (x:=.ref TO) rfl (wpAny_bind (wpAny_setField_rec hz (by simp) fun g1 z1 e1=>?_)))))
  replace z1:IsZip g1 z TI TO .ellipsis:=z1
  refine wpAny_bind ?_; simp only [List.zipIdx_cons,List.zipIdx_nil,List.forIn_cons,List.forIn_nil]; refine wpAny_bind (wpAny_bind (wpAny_onRaise ?_))
  show wpAny _ _ (Builtin.SmallTypes.nextOf (.ref i1) >>= _) _ _ _
  refine wpAny_bind (nxO (h1.to fun o e=>e1.extBut _ _ D.i1z e) (hl1.to fun o e=>e1.extBut _ _ D.l1z e) hx fun g2 n1 e2=>wpAny_pure ?_)
  have t2:IsPair g2 TO a b:=e2.extBut _ _ D.TOi1 (e1.extBut _ _ D.TOz hTO)
  refine wpAny_bind (wpAny_seqItems t2 rfl (wpAny_bind (wpAny_updateSeq_pair t2 fun g3 t3 e3=>?_)))
  replace t3:IsPair g3 TO x b:=t3
  refine wpAny_bind (wpAny_letGo (wpAny_pure ?_)); refine wpAny_bind (wpAny_bind (wpAny_onRaise ?_)); show wpAny _ _ (Builtin.SmallTypes.nextOf (.ref i2) >>= _) _ _ _
  refine wpAny_bind (nxO (h2.to fun o e=>e3.extBut _ _ D.TOi2.symm (e2.extBut _ _ D.i12.symm (e1.extBut _ _ D.i2z e))) (hl2.to fun o e=>e3.extBut _ _ D.l2TO (e2.extBut _ _ D.l2i1 (e1.extBut _ _ D.l2z e))) hy fun g4 n2 e4=>wpAny_pure ?_)
  have t4:IsPair g4 TO x b:=e4.extBut _ _ D.TOi2 t3
  refine wpAny_bind (wpAny_seqItems t4 rfl (wpAny_bind (wpAny_updateSeq_pair t4 fun g5 t5 e5=>?_)))
  replace t5:IsPair g5 TO x y:=t5
  refine wpAny_bind (wpAny_letGo (wpAny_pure (wpAny_pure ?_))); refine wpAny_bind (wpAny_seqItems t5 rfl (wpAny_bind (wpAny_newTuple ?_)))
  have sz:g5.objs.size=s.heap.objs.size:=by rw [e5.1,e4.1,e3.1,e2.1,e1.1]
  have z5:IsZip g5 z TI TO .ellipsis:=e5.extBut _ _ D.TOz.symm (e4.extBut _ _ D.i2z.symm (e3.extBut _ _ D.TOz.symm (e2.extBut _ _ D.i1z.symm z1)))
  have kp:∀c o,c≠z->c≠TO->c≠i1->c≠i2->s.heap.get? c=some o->g5.get? c=some o:=fun c o c1 c2 c3 c4 e=>e5.extBut _ _ c2 (e4.extBut _ _ c4 (e3.extBut _ _ c2 (e2.extBut _ _ c3 (e1.extBut _ _ c1 e))))
  have m1:ItO b1 g5 i1 l1 (k+1):=n1.to fun o e=>e5.extBut _ _ D.TOi1.symm (e4.extBut _ _ D.i12 (e3.extBut _ _ D.TOi1.symm e))
  have m2:ItO b2 g5 i2 l2 (k+1):=n2.to fun o e=>e5.extBut _ _ D.TOi2.symm e
  have zlt:z<g5.objs.size:=Heap.lt_size z5
  show wpAny _ _ (Builtin.SmallTypes.ownedTupleHandOut (.ref z) (.ref g5.objs.size) >>= _) _ _ _; refine wpAny_bind ?_; unfold Builtin.SmallTypes.ownedTupleHandOut
  have z6:IsZip (g5.push { cls:=.type "tuple",data:=.seq #[x,y] }) z TI TO .ellipsis:=Heap.get?_push_of_some _ z5
  refine wpAny_bind (wpAny_setField_rec z6 (by simp) fun g7 z7 e7=>?_)
  replace z7:IsZip g7 z TI TO (rawInt g5.objs.size):=z7
  refine wpAny_setField_rec z7 (by simp) fun g8 z8 e8=>?_
  replace z8:IsZip g8 z TI TO (rawInt g5.objs.size):=z8
  have up:∀c o,c≠z->g5.get? c=some o->g8.get? c=some o:=fun c o c1 e=>e8.extBut _ _ c1 (e7.extBut _ _ c1 (Heap.get?_push_of_some _ e))
  have t8:IsPair g8 g5.objs.size x y:=e8.extBut _ _ (Nat.ne_of_gt zlt) (e7.extBut _ _ (Nat.ne_of_gt zlt) (Heap.get?_push_size _ rfl))
  rw [sz] at z8 t8
  refine wpAny_pure ⟨_,rfl,?_⟩
  show Q (.ref g5.objs.size) _
  rw [sz]
  exact q g8 ⟨z8,up _ _ D.TIz (kp _ _ D.TIz D.TITO D.TIi1 D.TIi2 hTI),⟨_,_,up _ _ D.TOz t5⟩,m1.to fun o e=>up _ o D.i1z e,m2.to fun o e=>up _ o D.i2z e⟩ t8 fun c o c1 c2 c3 c4 e=>up c o c1 (kp c o c1 c2 c3 c4 e)
theorem zpEnd {b1 b2:Bool} {z TI TO i1 i2 l1 l2:Addr} {k:Nat} {xs ys:Array Value} {Q:Fin->Shared->Prop} (hh:A.handled=none) (D:ZipApart z TI TO i1 i2 l1 l2) (Z:Zp b1 b2 s.heap z TI TO i1 i2 l1 l2 .none k)
    (hl1:SqO b1 s.heap l1 xs) (hl2:SqO b2 s.heap l2 ys) (hend:xs[k]? = none \/ ys[k]? = none)
    (q:∀g e,(∀c o,c≠z->c≠TO->c≠i1->c≠i2->s.heap.get? c=some o->g.get? c=some o)->(∃o,g.get? e=some o/\o.cls = .type "StopIteration")->E (.ref e) { s with heap:=g }) :
    wpAny (model prog w) A (Builtin.«zip.__next__» ⟨[.ref z],[]⟩) Q E s:=by
  obtain⟨hz,hTI,⟨a,b,hTO⟩,h1,h2⟩:=Z
  show wpAny _ _ (field (.ref z) 2 >>= _) _ _ _; refine wpAny_bind (wpAny_field hz rfl (x:=.bool false) rfl ?_); show wpAny _ _ (field (.ref z) 3 >>= _) _ _ _
  refine wpAny_bind (wpAny_field hz rfl (x:=.ref TI) rfl (wpAny_bind (wpAny_seqItems hTI rfl ?_)))
  show wpAny _ _ (Builtin.SmallTypes.ownedTupleIsFree (.ref z) >>= _) _ _ _; refine wpAny_bind (ownFree hz ?_); simp only [if_true]
  refine wpAny_bind (wpAny_rule (wpAny_bind (wpAny_field hz rfl (x:=.ref TO) rfl (wpAny_bind (wpAny_setField_rec hz (by simp) fun g1 z1 e1=>?_)))))
  replace z1:IsZip g1 z TI TO .ellipsis:=z1
  refine wpAny_bind ?_; simp only [List.zipIdx_cons,List.zipIdx_nil,List.forIn_cons,List.forIn_nil]; refine wpAny_bind (wpAny_bind (wpAny_onRaise ?_))
  show wpAny _ _ (Builtin.SmallTypes.nextOf (.ref i1) >>= _) _ _ _
  have j1:=h1.to fun o e=>e1.extBut _ _ D.i1z e
  have k1:=hl1.to fun o e=>e1.extBut _ _ D.l1z e
  cases hx:xs[k]? with
  | none=>
    refine wpAny_bind (enO hh j1 k1 hx fun g2 er e2 ⟨oe,hoe,hce⟩=>?_)
    have z2:IsZip g2 z TI TO .ellipsis:=e2 _ _ D.i1z.symm z1
    have nz:er≠z:=fun v=>by subst v; rw [z2] at hoe; cases hoe; simp at hce
    refine wpAny_setField_rec z2 (by simp) fun g3 _ e3=>q g3 er (fun c o c1 _ c3 _ v=>e3.extBut _ _ c1 (e2 _ _ c3 (e1.extBut _ _ c1 v))) ⟨oe,e3.extBut _ _ nz hoe,hce⟩
  | some x=>
    have hy:ys[k]? = none:=by rcases hend with h | h; rw [hx] at h; cases h; exact h
    refine wpAny_bind (nxO j1 k1 hx fun g2 n1 e2=>wpAny_pure ?_)
    have t2:IsPair g2 TO a b:=e2.extBut _ _ D.TOi1 (e1.extBut _ _ D.TOz hTO)
    refine wpAny_bind (wpAny_seqItems t2 rfl (wpAny_bind (wpAny_updateSeq_pair t2 fun g3 t3 e3=>?_)))
    refine wpAny_bind (wpAny_letGo (wpAny_pure ?_)); refine wpAny_bind (wpAny_bind (wpAny_onRaise ?_)); show wpAny _ _ (Builtin.SmallTypes.nextOf (.ref i2) >>= _) _ _ _
    refine wpAny_bind (enO hh (h2.to fun o e=>e3.extBut _ _ D.TOi2.symm (e2.extBut _ _ D.i12.symm (e1.extBut _ _ D.i2z e))) (hl2.to fun o e=>e3.extBut _ _ D.l2TO (e2.extBut _ _ D.l2i1 (e1.extBut _ _ D.l2z e))) hy fun g4 er e4 ⟨oe,hoe,hce⟩=>?_)
    have z4:IsZip g4 z TI TO .ellipsis:=e4 _ _ D.i2z.symm (e3.extBut _ _ D.TOz.symm (e2.extBut _ _ D.i1z.symm z1))
    have nz:er≠z:=fun v=>by subst v; rw [z4] at hoe; cases hoe; simp at hce
    refine wpAny_setField_rec z4 (by simp) fun g5 _ e5=>q g5 er (fun c o c1 c2 c3 c4 v=>e5.extBut _ _ c1 (e4 _ _ c4 (e3.extBut _ _ c2 (e2.extBut _ _ c3 (e1.extBut _ _ c1 v))))) ⟨oe,e5.extBut _ _ nz hoe,hce⟩
abbrev zh1 (b1:Bool) (h:Heap) (l1:Addr):Heap:=h.push { cls:=.type (cnO b1),data:=.fields #[.ref l1,.int 0 0] }
abbrev zh2 (b1 b2:Bool) (h:Heap) (l1 l2:Addr):Heap:=(zh1 b1 h l1).push { cls:=.type (cnO b2),data:=.fields #[.ref l2,.int 0 0] }
abbrev zh3 (b1 b2:Bool) (h:Heap) (l1 l2:Addr):Heap:=(zh2 b1 b2 h l1 l2).push { cls:=.type "tuple",data:=.seq #[.ref h.objs.size,.ref (zh1 b1 h l1).objs.size] }
abbrev zh4 (b1 b2:Bool) (h:Heap) (l1 l2:Addr):Heap:=(zh3 b1 b2 h l1 l2).push { cls:=.type "tuple",data:=.seq #[.none,.none] }
abbrev zh5 (b1 b2:Bool) (h:Heap) (l1 l2:Addr):Heap:=(zh4 b1 b2 h l1 l2).push { cls:=.type "zip",data:=.fields #[.none,.bool false,.bool false,.ref (zh2 b1 b2 h l1 l2).objs.size,.ref (zh3 b1 b2 h l1 l2).objs.size] }
theorem zpNew (b1 b2:Bool) (l1 l2:Addr) (xs ys:Array Value):Meets (Builtin.«zip.__new__» ⟨[.type "zip",.ref l1,.ref l2],[]⟩) (fun _ R s=>SqO b1 s.heap l1 xs/\SqO b2 s.heap l2 ys /\
    R (.ok (.ret (.ref (zh4 b1 b2 s.heap l1 l2).objs.size))) { s with heap:=zh5 b1 b2 s.heap l1 l2 }):=
  .of_wp fun prog w A R s h=>by
   obtain⟨hp,gg,d,tk,os⟩:=s
   obtain⟨hl1,hl2,h⟩:=h
   have hsub:=sub_zip
   have hL1:SqO b1 (Shared.heap ⟨hp,gg,d,tk,os⟩) l1 xs:=hl1
   have hL2:SqO b2 (Shared.heap ⟨hp.push { cls:=.type (cnO b1),data:=.fields #[.ref l1,.int 0 0] },gg,d,tk,os⟩) l2 ys:=hl2.to fun o e=>Heap.get?_push_of_some _ e
   wp_walk using newO hL1,newO hL2
   exact⟨_,rfl,h⟩
theorem zpCall {b1 b2:Bool} {l1 l2:Addr} {xs ys:Array Value} {Q:Value->Shared->Prop} (hl1:SqO b1 s.heap l1 xs) (hl2:SqO b2 s.heap l2 ys)
    (q:∀g,Zp b1 b2 g (s.heap.objs.size+4) (s.heap.objs.size+2) (s.heap.objs.size+3) s.heap.objs.size (s.heap.objs.size+1) l1 l2 .none 0->(∀c o,s.heap.get? c=some o->g.get? c=some o)->Q (.ref (s.heap.objs.size+4)) { s with heap:=g }) :
    wpAny (model prog w) A (call (.type "zip") [.ref l1,.ref l2]) Q E s:=by
  refine callType_new PySem.F.called_zip (by decide) (PySem.F.typeCall_zip_2 _ _) (PySem.F.newCall_zip_2 _ _) (fun obj=>PySem.F.args_object_init_3 obj _ _) PySem.F.entry_zip_new (zpNew b1 b2 l1 l2 xs ys) ⟨hl1,hl2,?_⟩
  have z1:(zh1 b1 s.heap l1).objs.size=s.heap.objs.size+1:=Heap.size_push ..
  have z2:(zh2 b1 b2 s.heap l1 l2).objs.size=s.heap.objs.size+2:=by rw [Heap.size_push,z1]
  have z3:(zh3 b1 b2 s.heap l1 l2).objs.size=s.heap.objs.size+3:=by rw [Heap.size_push,z2]
  have z4:(zh4 b1 b2 s.heap l1 l2).objs.size=s.heap.objs.size+4:=by rw [Heap.size_push,z3]
  have g5:(zh5 b1 b2 s.heap l1 l2).get? (zh4 b1 b2 s.heap l1 l2).objs.size=some _:=Heap.get?_push_size _ rfl
  have g4:(zh5 b1 b2 s.heap l1 l2).get? (zh3 b1 b2 s.heap l1 l2).objs.size=some _:=Heap.get?_push_of_some _ (Heap.get?_push_size _ rfl)
  have g3:(zh5 b1 b2 s.heap l1 l2).get? (zh2 b1 b2 s.heap l1 l2).objs.size=some _:=Heap.get?_push_of_some _ (Heap.get?_push_of_some _ (Heap.get?_push_size _ rfl))
  have g2:(zh5 b1 b2 s.heap l1 l2).get? (zh1 b1 s.heap l1).objs.size=some _:=Heap.get?_push_of_some _ (Heap.get?_push_of_some _ (Heap.get?_push_of_some _ (Heap.get?_push_size _ rfl)))
  have g1:(zh5 b1 b2 s.heap l1 l2).get? s.heap.objs.size=some _:=Heap.get?_push_of_some _ (Heap.get?_push_of_some _ (Heap.get?_push_of_some _ (Heap.get?_push_of_some _ (Heap.get?_push_size _ rfl))))
  show _/\_
  rw [z2,z3,z4] at g5
  rw [z1,z2] at g3
  rw [z3] at g4
  rw [z1] at g2
  rw [z4]
  refine⟨⟨_,g5,rfl⟩,q _ ⟨g5,g3,⟨_,_,g4⟩,?_,?_⟩ fun c o e=>Heap.get?_push_of_some _ (Heap.get?_push_of_some _ (Heap.get?_push_of_some _ (Heap.get?_push_of_some _ (Heap.get?_push_of_some _ e))))⟩
  · cases b1 <;> exact⟨_,g1,rfl,rfl⟩
  · cases b2 <;> exact⟨_,g2,rfl,rfl⟩
end
section
variable {X:Cx} {pins:List (Addr × Obj)} {σ : St} {H:Hp} {s:Shared} {h':Heap}
theorem Inv.turnedL {t':Nat} {fp:List Addr} (I:Inv X pins σ H s) (k:∀b o,b ∉ fp->s.heap.get? b=some o->h'.get? b=some o) (hf:∀b∈fp,FpOk X pins H b):Inv X pins σ H { s with heap:=h',toks:=t' }:=by
 have nit:∀b u,H b=some u->b ∉ fp:=fun b u e z=>by rw [(hf b z).1] at e; cases e
 have hL:X.env.locals ∉ fp:=fun z=>(hf _ z).2.1 rfl
 refine I.step (g':=s.gens) (d':=s.drawn) (ch:=fp) (fun b hb=>?_) (fun b o _ _ hc e _=>k b o hc e) (fun b o _ _ hc e _=>⟨o.slots,k b o hc e⟩) (fun _ _ _ _ n=>n)
   (fun b o hc e=>⟨o,k b o hc e⟩) (fun _ _ e=>e) (fun _ _ _ e=>e) (fun b ps e=>⟨#[],by rw [e]; simp⟩) (fun m hm=>?_) (fun b u e=>?_) I.bare
 · obtain⟨f0,f1,f2,f3,f4,f5⟩:=hf b hb
   exact⟨f3,f1,f4,f5⟩
 · obtain⟨o,es,ep,ho,r⟩:=hm
   exact⟨o,es,ep,k _ o hL ho,r⟩
 · refine (I.hok b u e).stay (fun c v hc q=>k c v ?_ q) (fun _ q=>q) fun _ _ q=>q
   rcases hc with z | z
   · rw [z]; exact nit b u e
   · exact nit c _ z
end
def SqV (b:Bool) (K:PySem.W.Frag) (H:Hp) (a:Addr) (xs:List V):Prop:=match b with | true=>SqL K H a xs | false=>SqT K H a xs
theorem SqV.get {X:Cx} {pins:List (Addr × Obj)} {σ : St} {H:Hp} {s:Shared} {b:Bool} {a:Addr} {xs:List V} (I:Inv X pins σ H s) (h:SqV b X.K H a xs):∃its:List Value,Vals xs its/\SqO b s.heap a its.toArray:=by
 cases b
 · obtain⟨its,r,p,_⟩:=I.tuple h; exact⟨its,r,p⟩
 · obtain⟨its,r,p,_⟩:=I.list h; exact⟨its,r,p.isList⟩
theorem SqV.inj {X:Cx} {pins:List (Addr × Obj)} {σ : St} {H:Hp} {s:Shared} {b:Bool} {a:Addr} {xs ys:List V} (I:Inv X pins σ H s) (h:SqV b X.K H a xs) (g:SqV b X.K H a ys):xs=ys:=by
 cases b
 · exact I.tuple_inj h g
 · exact I.list_inj h g
def Itz (K:PySem.W.Frag) (b1 b2:Bool) (l1 l2:Addr):It:=
 ⟨fun i H=>∃xs ys x y,SqV b1 K H l1 xs/\SqV b2 K H l2 ys/\xs[i]? = some x/\ys[i]? = some y,
  fun i H v H'=>∃T x y,v = .ref T/\(∀xs,SqV b1 K H l1 xs->xs[i]? = some x)/\(∀ys,SqV b2 K H l2 ys->ys[i]? = some y)/\Nw H H' T (.tup [x,y]),
  fun i H=>∃xs ys,SqV b1 K H l1 xs/\SqV b2 K H l2 ys/\(xs.length<=i \/ ys.length<=i)⟩
theorem turn_zip {P:Program} {w:World} {K:PySem.W.Frag} {elts:List Expr} {kt:Nat} {pos:Pos} {b1 b2:Bool} {z TI TO i1 i2 l1 l2:Addr} (D:ZipApart z TI TO i1 i2 l1 l2) :
    Turn P w K (.Tuple elts kt pos) (Itz K b1 b2 l1 l2) [z,TI,TO,i1,i2] z (fun i h=>Zp b1 b2 h z TI TO i1 i2 l1 l2 .none i) where
  mem:=by simp
  obj:=fun i h st b hb=>by
   obtain⟨hz,hTI,⟨a,c,hTO⟩,h1,h2⟩:=st
   simp only [List.mem_cons,List.not_mem_nil,or_false] at hb
   rcases hb with rfl | rfl | rfl | rfl | rfl
   · exact⟨_,hz,fun v e=>by cases e⟩
   · exact⟨_,hTI,fun v e=>by cases e⟩
   · exact⟨_,hTO,fun v e=>by cases e⟩
   · obtain⟨o,e,_,n⟩:=h1.ob; exact⟨o,e,n⟩
   · obtain⟨o,e,_,n⟩:=h2.ob; exact⟨o,e,n⟩
  keep:=fun i h h' st k=>by
   obtain⟨hz,hTI,⟨a,c,hTO⟩,h1,h2⟩:=st
   exact⟨k z (by simp) _ hz,k TI (by simp) _ hTI,⟨a,c,k TO (by simp) _ hTO⟩,h1.to fun o e=>k i1 (by simp) o e,h2.to fun o e=>k i2 (by simp) o e⟩
  item:=by
   intro X hP hw hK hc i pins s σ H E I hf st hg
   subst hP hw hK
   obtain⟨xs,ys,x,y,q1,q2,e1,e2⟩:=hg
   obtain⟨its1,r1,p1⟩:=q1.get I
   obtain⟨its2,r2,p2⟩:=q2.get I
   obtain⟨u1,hu1,ru1⟩:=r1.get e1
   obtain⟨u2,hu2,ru2⟩:=r2.get e2
   have hT:s.TypeIs (.ref z) "zip":=⟨_,st.zz,rfl⟩
   unfold pyNext
   refine wpAny_bind (wpAny_attempt (wpAny_callSpecial?_slot (name:=Str.ofString "__next__") hT PySem.F.slot_zip_next (wpAny_call_entry PySem.F.slot_zip_next hT PySem.F.entry_zip_next
     (zpItem D st p1 p2 (x:=u1) (y:=u2) (by simpa using hu1) (by simpa using hu2) fun g zg tg kp=>wpAny_pure ?_) (PySem.F.args_zip_next_1 _))))
   refine⟨_,rfl,?_⟩
   refine wpAny_letOwnedTupleGo_zip zg.zz fun g' zz' sb=>?_
   have hs:=sb.extBut
   have zlt:z<s.heap.objs.size:=Heap.lt_size st.zz
   have nw:Nw H (upd H s.heap.objs.size (.tup [x,y])) s.heap.objs.size (.tup [x,y]):=.of (I.hok.fresh (Nat.le_refl _))
   have I1:Inv X pins σ (upd H s.heap.objs.size (.tup [x,y])) { s with heap:=s.heap.push { cls:=.type "tuple",data:=.seq #[u1,u2] } }:=
    I.laid (t':=s.toks) (fun b ob q=>Heap.get?_push_of_some _ q) (Nat.le_refl _) ⟨by show 2<=sizeLine; decide,[u1,u2],.cons ru1 (.cons ru2 .nil),⟨_,Heap.get?_push_size _ rfl,rfl,_,rfl⟩⟩
   have lts:∀b∈[z,TI,TO,i1,i2],b<s.heap.objs.size:=fun b hb=>by
    simp only [List.mem_cons,List.not_mem_nil,or_false] at hb
    obtain⟨hz,hTI,⟨a,c,hTO⟩,h1,h2⟩:=st
    rcases hb with rfl | rfl | rfl | rfl | rfl
    · exact Heap.lt_size hz
    · exact Heap.lt_size hTI
    · exact Heap.lt_size hTO
    · obtain⟨o,e,_⟩:=h1.ob; exact Heap.lt_size e
    · obtain⟨o,e,_⟩:=h2.ob; exact Heap.lt_size e
   have hn:∀b∈[z,TI,TO,i1,i2],upd H s.heap.objs.size (.tup [x,y]) b=none:=fun b hb=>by
    rw [upd_ne (Nat.ne_of_lt (lts b hb))]; exact (hf b hb).1
   have I2:Inv X pins σ (upd H s.heap.objs.size (.tup [x,y])) { s with heap:=g' }:=Inv.turnedL (s:={ s with heap:=s.heap.push { cls:=.type "tuple",data:=.seq #[u1,u2] } }) (t':=s.toks) (fp:=[z,TI,TO,i1,i2]) I1 (fun b o hb e=>by
    have e:(s.heap.push { cls:=.type "tuple",data:=.seq #[u1,u2] }).get? b=some o:=e
    have nz:b≠z:=fun q=>hb (by simp [q])
    rcases Heap.get?_push_cases e with ⟨hbT,rfl⟩ | e'
    · subst hbT
      exact hs _ _ nz tg
    · exact hs _ _ nz (kp b o nz (fun q=>hb (by simp [q])) (fun q=>hb (by simp [q])) (fun q=>hb (by simp [q])) e')) (fun b hb=>by
      obtain⟨f0,f1,f2,f3,f4,f5⟩:=hf b hb
      exact⟨hn b hb,f1,f2,f3,f4,f5⟩)
   refine⟨.ref s.heap.objs.size,_,I2,rfl,⟨s.heap.objs.size,x,y,rfl,fun zs hz=>?_,fun zs hz=>?_,nw⟩,?_,hn⟩
   · rw [SqV.inj I hz q1]; exact e1
   · rw [SqV.inj I hz q2]; exact e2
   · obtain⟨_,hTI,⟨a,c,hTO⟩,h1,h2⟩:=zg
     exact⟨zz',hs _ _ D.TIz hTI,⟨a,c,hs _ _ D.TOz hTO⟩,h1.to fun o e=>hs _ o D.i1z e,h2.to fun o e=>hs _ o D.i2z e⟩
  done:=by
   intro X hP hw hK hc i pins s σ H E I hf st hg
   subst hP hw hK
   obtain⟨xs,ys,q1,q2,hend⟩:=hg
   obtain⟨its1,r1,p1⟩:=q1.get I
   obtain⟨its2,r2,p2⟩:=q2.get I
   have hT:s.TypeIs (.ref z) "zip":=⟨_,st.zz,rfl⟩
   have l1:=r1.length
   have l2:=r2.length
   unfold pyNext
   refine wpAny_bind (wpAny_attempt (wpAny_callSpecial?_slot (name:=Str.ofString "__next__") hT PySem.F.slot_zip_next (wpAny_call_entry PySem.F.slot_zip_next hT PySem.F.entry_zip_next
     (zpEnd (I.ok.hd hc) D st p1 p2 (hend.imp (fun h=>by simp; omega) fun h=>by simp; omega) fun g e kp he=>?_) (PySem.F.args_zip_next_1 _))))
   obtain⟨o,ho,hcl⟩:=he
   refine wpAny_bind (wpAny_isInstance (T:="StopIteration") (b:=true) ⟨o,ho,hcl⟩ isSubtype_stop (wpAny_pure ⟨rfl,?_⟩))
   exact I.turnedL (t':=s.toks) (fp:=[z,TI,TO,i1,i2]) (fun b o hb e=>kp b o (fun q=>hb (by simp [q])) (fun q=>hb (by simp [q])) (fun q=>hb (by simp [q])) (fun q=>hb (by simp [q])) e) hf
  self:=fun _ _ _ _ _ st h=>wpAny_pyIter_zip st.zz h
inductive IiZip (K:PySem.W.Frag) (b1:Bool) (b2:Bool) (R:It->Hp->Prop) (vs:List V) (H1:Hp):Prop
  | mk (l1:_) (l2:_) (h0:vs=[.ref l1,.ref l2]) (h1:(∃xs,SqV b1 K H1 l1 xs)) (h2:(∃ys,SqV b2 K H1 l2 ys)) (h3:R (Itz K b1 b2 l1 l2) H1):IiZip K b1 b2 R vs H1
def iZip (K:PySem.W.Frag) (b1 b2:Bool) (ta:TA):TI:=fun σ H R=>ta σ H fun vs H1=>IiZip K b1 b2 R vs H1
theorem pi_zip (K:PySem.W.Frag) {X:Cx} (hK:X.K=K) (b1 b2:Bool) {elts:List Expr} {kt:Nat} {tpos:Pos} {a b:Expr} {ta:TA} {p pos:Pos} (hg:Gl X "zip") (hm:X.mg "zip" = none) (ha:PA X [a,b] ta) (hs:starEach [a,b] X.env=[(false,eval a X.env),(false,eval b X.env)]:=by rfl) (hs2:starEach [b] X.env=[(false,eval b X.env)]:=by rfl) :
    PI X (.Tuple elts kt tpos) (.Call (.Name "zip" p) [a,b] [] pos) (iZip K b1 b2 ta):=by
  subst hK
  intro pins s σ H R I h
  refine Call_ (ld_blt I hg hm PyProof.Rows.boot_zip (PyProof.Rows.callWith_type1 (thn (ha pos pins s σ H _ I h) fun us s1 ⟨vs,H1,I1,r1,q1⟩=>?_) (by rw [hs,hs2]) (by rw [hs2]; rfl)))
  obtain⟨l1,l2,e,⟨xs,h1⟩,⟨ys,h2⟩,q⟩:=q1
  subst e
  obtain⟨u1,u2,rfl,ru1,ru2⟩:=vals2 r1
  cases (show u1=Value.ref l1 from ru1)
  cases (show u2=Value.ref l2 from ru2)
  obtain⟨its1,v1,p1⟩:=h1.get I1
  obtain⟨its2,v2,p2⟩:=h2.get I1
  have a1:l1<s1.heap.objs.size:=by cases b1 <;> (obtain⟨o,e,_⟩:=p1; exact Heap.lt_size e)
  have a2:l2<s1.heap.objs.size:=by cases b2 <;> (obtain⟨o,e,_⟩:=p2; exact Heap.lt_size e)
  refine zpCall p1 p2 fun g zg kp=>wpAny_pyIter_zip zg.zz ?_
  refine⟨_,_,_,_,H1,rfl,I1.kept (t':=s1.toks) kp,turn_zip (zipApart_new a1 a2),zg,fun c hc=>?_,q⟩
  have hle:s1.heap.objs.size<=c:=by
   simp only [List.mem_cons,List.not_mem_nil,or_false] at hc
   rcases hc with rfl | rfl | rfl | rfl | rfl <;> first | exact Nat.le_refl _ | exact Nat.le_add_right _ _
  exact I1.fpOk hle (I1.hok.fresh hle)
end L2
set_option Elab.async false
set_option linter.all false
set_option maxRecDepth 100000
namespace L2
open PySem PySem.Spec PyProof.Rows
theorem SqV.go {b:Bool} {K:PySem.W.Frag} {H H':Hp} {a:Addr} {xs:List V} (s:Same H H') (h:SqV b K H a xs):SqV b K H' a xs:=by
 cases b
 · exact SqT.go s h
 · exact SqL.go s h
theorem comp_blZ {K:PySem.W.Frag} {b1 b2:Bool} {l1 l2:Addr} {xs ys:List V} {bs:List Bool} {te:TE} {Q:VK} {D:Addr} {H H0:Hp} {n:Nat} (rest:St) (hn:n=2) (h1:SqV b1 K H l1 xs) (h2:SqV b2 K H l2 ys) (nw:Nw H H0 D (.lst []))
    (hl:min xs.length ys.length=bs.length) (hz:bs.length<=1000)
    (hs:∀(i:Nat) (x y:V) (b:Bool) (H2:Hp) (Q':VK),xs[i]? = some x->ys[i]? = some y->bs[i]? = some b->Same H H2->(∀H3,Same H2 H3->Q' (.bl b) H3)->te (some x::some y::rest) H2 Q')
    (hq:∀H',Same H H'->H' D=some (.lst (bs.map V.bl))->Q (.ref D) H'):CompW (Itz K b1 b2 l1 l2) (gTup K n (gCons (gName 0) (gCons (gName 1) gNil))) tYes te Q D (none::none::rest) H0:=by
  subst hn
  have hD:=nw.no
  refine comp_by bs.length (fun i σ H2=>Same H H2/\H2 D=some (.lst ((bs.take i).map V.bl)) /\ ∃v v',σ = v::v'::rest) ?_ ?_ ?_
  · exact⟨nw.same,nw.at',none,none,rfl⟩
  · rintro i σ H2 hi ⟨s2,d2,v,v',rfl⟩
    have hx:i<xs.length:=by omega
    have hy:i<ys.length:=by omega
    have ex:=List.getElem?_eq_getElem hx
    have ey:=List.getElem?_eq_getElem hy
    have eb:=List.getElem?_eq_getElem hi
    refine⟨⟨xs,ys,_,_,h1.go s2,h2.go s2,ex,ey⟩,fun y' H3 hy'=>?_⟩
    obtain⟨T,x0,y0,rfl,k1,k2,n3⟩:=hy'
    have e1:=k1 _ (h1.go s2)
    have e2:=k2 _ (h2.go s2)
    rw [ex] at e1
    rw [ey] at e2
    cases e1
    cases e2
    refine⟨T,_,rfl,SqT.of n3.at',rfl,_,_,rfl,_,_,rfl,rfl,?_⟩
    refine yes (iteT ?_)
    refine hs i _ _ _ _ _ ex ey eb (s2.trans n3.same) fun H4 s4=>?_
    refine⟨_,s4 _ _ (n3.same _ _ d2),?_,bs.length-(i+1),by omega,rfl,by omega,fun b o e=>?_,?_,_,_,rfl⟩
    · rw [List.length_map,List.length_take]
      have:(1000:Nat)<sizeLine:=by decide
      omega
    · rw [upd_ne (ne_of_none e hD)]; exact s4 b o (n3.same b o (s2 b o e))
    · rw [upd_same,List.take_succ,eb,List.map_append]; rfl
  · rintro σ H2 ⟨s2,d2,v,v',rfl⟩
    refine⟨⟨xs,ys,h1.go s2,h2.go s2,by omega⟩,hq H2 s2 ?_⟩
    rw [d2,List.take_length]
end L2
set_option Elab.async false
set_option linter.all false
set_option maxRecDepth 100000
namespace L2
open PySem PySem.Spec PyProof.Rows
section
variable {P:Program} {w:World} {K:PySem.W.Frag} {mg:Str->Option Value} {base:Heap} {N:List Str} {qual:Str} {scope:Scope} {f:Addr} {cd:Value} {A:Around} {outer:List Env} {s:Shared} {H:Hp} {E:XK} {pins:List (Addr × Obj)} {σ : St} {H1:Hp} {s1:Shared} {h2:Heap} {ex:Addr} {cls:Value} {vs:List Value}
end
section
variable {X:Cx} {x:Str} {C:Addr} {bmB:List Value} {newId initId B:String} {e:Expr} {t:TA} {np cpos pos:Pos}
end
end L2
set_option Elab.async false
set_option linter.all false
set_option maxRecDepth 100000
namespace L2
open PySem PySem.Spec PyProof.Rows
section
variable {M:Model} {A:Around} {Ex:Value->Shared->Prop}
end
section
variable {X:Cx} {k:Nat} {x:Str} {p pos:Pos} {e:Expr} {es:List Expr} {t:TA} {sp:Sp}
end
section
variable {X:Cx} {pins:List (Addr × Obj)} {σ : St} {H:Hp} {s:Shared}
end
section
variable {X:Cx} {i:Nat} {n y:Str} {Dc:Addr} {bmD:List Value} {newD:String} {body suite:List Stmt} {b0:Stmt} {np hpos pos:Pos} {tb:XK->TS} {th:TS} {Cs:Addr->Prop}
end
end L2
set_option Elab.async false
set_option linter.all false
set_option maxRecDepth 100000
namespace L2
open PySem PySem.Spec PyProof.Rows PySem.W Builtin.Getset_descriptor
section
variable {prog:Program} {w:World} {A:Around} {E:Value->Shared->Prop} {h:Heap} {g:Array GenState} {d:Drawn} {t:Nat} {os:OsState} {K:Frag} {x C:Addr} {o:Obj}
end
end L2
set_option Elab.async false
set_option linter.all false
set_option maxRecDepth 100000
namespace L2
open PySem PySem.Spec PyProof.Rows
section
variable {X:Cx}
end
end L2
namespace L2
open PySem PySem.Spec PyProof.Rows
end L2
namespace L2
open PySem PySem.Spec PyProof.Rows
end L2
namespace Ar
end Ar
namespace Rt
open Rat
section
variable {n m:Nat} {r s:Rat}
end
end Rt
set_option Elab.async false
set_option linter.all false
set_option maxRecDepth 100000
namespace L2
open PySem PySem.Spec PyProof.Rows
def SameT (H H':Hp):Prop:=∀b o,(∀xs,o ≠ .lst xs)->H b=some o->H' b=some o
section
variable {K:PySem.W.Frag} {H H' H2:Hp}
theorem SameT.trans (a:SameT H H') (b:SameT H' H2):SameT H H2:=fun c o n e=>b c o n (a c o n e)
theorem SameT.updL {D:Addr} {xs ys:List V} (h:H D=some (.lst xs)):SameT H (upd H D (.lst ys)):=fun b o n e=>by
 rw [upd_ne (ne_of e h (n xs))]; exact e
theorem SqT.t {a:Addr} {xs:List V} (s:SameT H H') (h:SqT K H a xs):SqT K H' a xs:=
 h.imp (fun r=>r.imp (s _ _ fun _ z=>nomatch z) fun⟨o,e⟩=>⟨o,s _ _ (fun _ z=>nomatch z) e⟩) id
mutual
def noL:PyData->Bool
  | .list _=>false
  | .dict _=>false
  | .tuple ds=>noLs ds
  | .none=>true
  | .bool _=>true
  | .int _=>true
  | .str _=>true
def noLs:List PyData->Bool
  | []=>true
  | d::ds=>noL d && noLs ds
end
theorem noLs_mem:∀ {ds:List PyData},noLs ds=true ↔ ∀d∈ds,noL d=true
  | []=>⟨fun _ _ h=>(nomatch h),fun _=>by simp [noLs]⟩
  | d::ds=>by
    rw [noLs,Bool.and_eq_true,noLs_mem (ds:=ds)]
    constructor
    · rintro⟨a,b⟩ x hx
      rcases List.mem_cons.mp hx with rfl | hx
      · exact a
      · exact b x hx
    · intro h
      exact⟨h d (.head _),fun x hx=>h x (.tail _ hx)⟩
theorem noLs_ints (ns:List Int):noLs (ns.map PyData.int)=true:=noLs_mem.mpr fun d hd=>by
 obtain⟨i,_,rfl⟩:=List.mem_map.mp hd
 simp [noL]
mutual
theorem RD.t (s:SameT H H'):∀ {x:V} (d:PyData),noL d=true->RD K H x d->RD K H' x d
  | x,.none,_,h=>by simpa [RD] using h
  | x,.bool b,_,h=>by simpa [RD] using h
  | x,.int i,_,h=>by simpa [RD] using h
  | x,.str y,_,h=>by simpa [RD] using h
  | x,.list ds,n,h=>by simp [noL] at n
  | x,.tuple ds,n,h=>by
    rw [RD] at h ⊢
    obtain⟨a,xs,e,h1,h2⟩:=h
    exact⟨a,xs,e,h1.t s,RDs.t s ds (by simpa [noL] using n) h2⟩
  | x,.dict _,_,h=>by simp [RD] at h
theorem RDs.t (s:SameT H H'):∀ {xs:List V} (ds:List PyData),noLs ds=true->RDs K H xs ds->RDs K H' xs ds
  | xs,[],_,h=>by simpa [RDs] using h
  | xs,d::ds,n,h=>by
    rw [RDs] at h ⊢
    rw [noLs,Bool.and_eq_true] at n
    obtain⟨y,ys,e,h1,h2⟩:=h
    exact⟨y,ys,e,RD.t s d n.1 h1,RDs.t s ds n.2 h2⟩
end
theorem RDs.ints_inv:∀ {xs:List V} {ns:List Int},RDs K H xs (ns.map PyData.int)->xs=ns.map V.int
  | xs,[],h=>h.nil_inv
  | xs,n::ns,h=>by
    obtain⟨y,ys,rfl,h1,h2⟩:=h.cons_inv
    rw [h1.int_inv,RDs.ints_inv h2]; rfl
theorem rds_ints:∀(ns:List Int),RDs K H (ns.map V.int) (ns.map PyData.int)
  | []=>rds_nil
  | n::ns=>rds_cons (rd_int n) (rds_ints ns)
theorem comp_rd {J:It} {xs:List V} {ds:List PyData} {te:TE} {Q:VK} {D:Addr} {H0:Hp} (rest:St) (nw:Nw H H0 D (.lst [])) (hl:xs.length=ds.length) (hz:xs.length<=1000) (hn:noLs ds=true)
    (go:∀i x H2,xs[i]? = some x->Same H H2->J.go i H2 /\ ∀y H3,J.yld i H2 y H3->H3=H2/\y=x) (stop:∀H2,Same H H2->J.stop xs.length H2)
    (hs:∀(i:Nat) (x:V) (d:PyData) (H2:Hp) (Q':VK),xs[i]? = some x->ds[i]? = some d->Same H H2->(∀y H3,Same H2 H3->RD K H3 y d->Q' y H3)->te (some x::rest) H2 Q')
    (hq:∀H' ys,Same H H'->H' D=some (.lst ys)->RDs K H' ys ds->Q (.ref D) H'):CompW J (gName 0) tYes te Q D (none::rest) H0:=by
  have hD:=nw.no
  refine comp_by xs.length (fun i σ H2=>Same H H2/\(∃ys,H2 D=some (.lst ys)/\RDs K H2 ys (ds.take i)) /\ ∃v,σ = v::rest) ?_ ?_ ?_
  · exact⟨nw.same,⟨[],nw.at',rds_nil⟩,none,rfl⟩
  · rintro i σ H2 hi ⟨s2,⟨ys,d2,r2⟩,v,rfl⟩
    have hib:i<ds.length:=by rw [<- hl]; exact hi
    have ex:=List.getElem?_eq_getElem hi
    have eb:=List.getElem?_eq_getElem hib
    obtain⟨g1,g2⟩:=go i _ H2 ex s2
    refine⟨g1,fun y H3 hy=>?_⟩
    obtain⟨rfl,rfl⟩:=g2 y H3 hy
    refine yesN ?_
    refine hs i _ _ _ _ ex eb s2 fun z H4 s4 r4=>?_
    have d4:=s4 _ _ d2
    have len:=r2.length
    rw [List.length_take] at len
    refine⟨ys,d4,?_,xs.length-(i+1),by omega,rfl,by omega,fun b o e=>?_,⟨ys++[z],upd_same,?_⟩,_,rfl⟩
    · have:(1000:Nat)<sizeLine:=by decide
      omega
    · rw [upd_ne (ne_of_none e hD)]; exact s4 b o (s2 b o e)
    · have t:SameT H4 (upd H4 D (.lst (ys++[z]))):=.updL d4
      rw [List.take_succ,eb]
      have n1:noLs (ds.take i)=true:=noLs_mem.mpr fun d hd=>noLs_mem.mp hn d (List.mem_of_mem_take hd)
      exact (RDs.t t _ n1 (RDs.mono s4 _ r2)).append (rds_cons (RD.t t _ (noLs_mem.mp hn _ (List.getElem_mem hib)) r4) rds_nil)
  · rintro σ H2 ⟨s2,⟨ys,d2,r2⟩,v,rfl⟩
    refine⟨stop H2 s2,hq H2 ys s2 d2 ?_⟩
    rw [hl,List.take_length] at r2
    exact r2
theorem comp_rdT {a:Addr} {xs:List V} {ds:List PyData} {te:TE} {Q:VK} {D:Addr} {H0:Hp} (rest:St) (hx:SqT K H a xs) (nw:Nw H H0 D (.lst [])) (hl:xs.length=ds.length) (hz:xs.length<=1000) (hn:noLs ds=true)
    (hs:∀(i:Nat) (x:V) (d:PyData) (H2:Hp) (Q':VK),xs[i]? = some x->ds[i]? = some d->Same H H2->(∀y H3,Same H2 H3->RD K H3 y d->Q' y H3)->te (some x::rest) H2 Q')
    (hq:∀H' ys,Same H H'->H' D=some (.lst ys)->RDs K H' ys ds->Q (.ref D) H'):CompW (Itt K a) (gName 0) tYes te Q D (none::rest) H0:=
  comp_rd rest nw hl hz hn (fun i x H2 e s=>⟨⟨xs,x,hx.go s,e⟩,fun y H3 ⟨e3,y3⟩=>⟨e3,by have:=y3 _ (hx.go s); rw [e] at this; exact (Option.some.inj this).symm⟩⟩) (fun H2 s=>⟨xs,hx.go s,Nat.le_refl _⟩) hs hq
theorem comp_rdL {a:Addr} {xs:List V} {ds:List PyData} {te:TE} {Q:VK} {D:Addr} {H0:Hp} (rest:St) (hx:SqL K H a xs) (nw:Nw H H0 D (.lst [])) (hl:xs.length=ds.length) (hz:xs.length<=1000) (hn:noLs ds=true)
    (hs:∀(i:Nat) (x:V) (d:PyData) (H2:Hp) (Q':VK),xs[i]? = some x->ds[i]? = some d->Same H H2->(∀y H3,Same H2 H3->RD K H3 y d->Q' y H3)->te (some x::rest) H2 Q')
    (hq:∀H' ys,Same H H'->H' D=some (.lst ys)->RDs K H' ys ds->Q (.ref D) H'):CompW (Itl K a) (gName 0) tYes te Q D (none::rest) H0:=
  comp_rd rest nw hl hz hn (fun i x H2 e s=>⟨⟨xs,x,hx.go s,e⟩,fun y H3 ⟨e3,y3⟩=>⟨e3,by have:=y3 _ (hx.go s); rw [e] at this; exact (Option.some.inj this).symm⟩⟩) (fun H2 s=>⟨xs,hx.go s,Nat.le_refl _⟩) hs hq
end
section
variable {X:Cx}
theorem ints_at' {ns:List Int} {us:List Value} (r:Vals (ns.map V.int) us) {i:Nat} {v:Value} (h:us[i]? = some v):∃n t,ns[i]? = some n/\v=Value.int n t:=by
 have hl:=r.length
 rw [List.length_map] at hl
 have hi:i<ns.length:=by rw [hl]; exact (List.getElem?_eq_some_iff.mp h).1
 obtain⟨u,e,ru⟩:=r.get (i:=i) (x:=.int ns[i]) (by rw [List.getElem?_map,List.getElem?_eq_getElem hi]; rfl)
 rw [h] at e
 cases e
 obtain⟨t,rfl⟩:=(show ∃t,v=Value.int ns[i] t from ru)
 exact⟨_,t,List.getElem?_eq_getElem hi,rfl⟩
theorem range_anyI (ns:List Int):((List.range ns.length).any fun i=>((ns.map (· != 0))[i]?).getD false)=ns.any (· != 0):=by
 have:=LSm.range_any (ns.map (· != 0))
 rw [List.length_map] at this
 rw [this,List.any_map]; rfl
theorem anyIK (K:PySem.W.Frag) (hK:X.K=K) (hc:X.calm=true):CallR X (.builtin "any") (fun xs H Q=>∃(l:Addr) (ns:List Int),xs=[.ref l]/\(SqL K H l (ns.map V.int) \/ SqT K H l (ns.map V.int))/\Q (.bl (ns.any (· != 0))) H):=by
 subst hK
 intro pins s σ H xs us Q I r h
 obtain⟨l,ns,rfl,hl,q⟩:=h
 obtain⟨u,rfl,ru⟩:=vals1 r
 cases (show u=Value.ref l from ru)
 have hh:=I.ok.hd hc
 have fin:∀(its:List Value),Vals (ns.map V.int) its->((List.range its.toArray.size).any fun i=>((ns.map (· != 0))[i]?).getD false)=ns.any (· != 0):=fun its rv=>by
  rw [List.size_toArray,<- rv.length,List.length_map]; exact range_anyI ns
 rcases hl with hl | hl
 · obtain⟨its,rv,pl,hz⟩:=I.list hl
   have hl':=pl.isList
   have hlt:l<s.heap.objs.size:=by obtain⟨_,e,_⟩:=hl'; exact Heap.lt_size e
   refine call_any_walk (wpAny_pyIter_list hl' ?_)
   refine ⟨s.heap.objs.size,[s.heap.objs.size,l],[s.heap.objs.size],its.toArray.size,_,_,fun i=>((ns.map (· != 0))[i]?).getD false,rfl,Walks.list (A:=X.A.in1) hh _ l (Nat.ne_of_lt hlt) its.toArray,
     ⟨⟨_,Heap.get?_push_size _ rfl,rfl,rfl⟩,hl'.push _⟩,fun i v s' Q' E' hP hQ=>?_,fun h' tk hk=>?_⟩
   · obtain⟨n,t,e,rfl⟩:=ints_at' rv (i:=i) (v:=v) (by simpa using hP)
     simp only [List.getElem?_map,e] at hQ
     exact truthy_int hQ
   · rw [fin its rv]
     exact⟨.bl _,H,I.kept (LSm.kept_iter hk),rfl,q⟩
 · obtain⟨its,rv,pl,hz⟩:=I.tuple hl
   have hl':s.heap.IsTuple l its.toArray:=by
    obtain⟨⟨cls,dd,data,sl⟩,ho,hc',n,hd⟩:=pl
    exact⟨_,ho,hc',by simpa using ⟨n,hd⟩⟩
   have hlt:l<s.heap.objs.size:=by obtain⟨_,e,_⟩:=hl'; exact Heap.lt_size e
   refine call_any_walk (wpAny_pyIter_tuple hl' ?_)
   refine ⟨s.heap.objs.size,[s.heap.objs.size,l],[s.heap.objs.size],its.toArray.size,_,_,fun i=>((ns.map (· != 0))[i]?).getD false,rfl,Walks.tuple (A:=X.A.in1) hh _ l (Nat.ne_of_lt hlt) its.toArray,
     ⟨⟨_,Heap.get?_push_size _ rfl,rfl,rfl⟩,hl'.push _⟩,fun i v s' Q' E' hP hQ=>?_,fun h' tk hk=>?_⟩
   · obtain⟨n,t,e,rfl⟩:=ints_at' rv (i:=i) (v:=v) (by simpa using hP)
     simp only [List.getElem?_map,e] at hQ
     exact truthy_int hQ
   · rw [fin its rv]
     exact⟨.bl _,H,I.kept (LSm.kept_iter hk),rfl,q⟩
end
end L2
set_option Elab.async false
set_option linter.all false
set_option maxRecDepth 100000
set_option maxHeartbeats 1000000
namespace Lw
open PySem PySem.Spec PyProof.Rows L2
def OkCM (c m:Int):Prop:=0<=c/\0<=m/\m<2147483648
def IsBag (H:Hp) (p:Addr):Prop:=∃c m,H p=some (.lst [.int c,.int m])/\OkCM c m
structure BagX (p:Addr) (H H':Hp):Prop where
 bag:IsBag H' p
 same:∀b o,b≠p->H b=some o->H' b=some o
theorem BagX.refl {p:Addr} {H:Hp} (h:IsBag H p):BagX p H H:=⟨h,fun _ _ _ e=>e⟩
theorem BagX.trans {p:Addr} {H H1 H2:Hp} (a:BagX p H H1) (b:BagX p H1 H2):BagX p H H2:=⟨b.bag,fun c o n e=>b.same c o n (a.same c o n e)⟩
theorem BagX.upd {p:Addr} {H:Hp} {c m:Int} (h:OkCM c m):BagX p H (L2.upd H p (.lst [.int c,.int m])):=⟨⟨c,m,upd_same,h⟩,fun b o n e=>by rw [upd_ne n]; exact e⟩
theorem BagX.ofSame {p:Addr} {H H':Hp} (h:IsBag H p) (s:Same H H'):BagX p H H':=by
 obtain⟨c,m,e,ok⟩:=h
 exact⟨⟨c,m,s _ _ e,ok⟩,fun b o _ e=>s b o e⟩
theorem wd40 {j:Int} (h0:0<=j) (h:j<=10^40):Wd j:=by
 have:j.natAbs<=10^40:=by omega
 exact Nat.lt_of_le_of_lt this (by decide +kernel)
theorem IsBag.ne {H:Hp} {p:Addr} (h:IsBag H p):H p≠none:=by
 obtain⟨c,m,e,_⟩:=h
 rw [e]; exact fun z=>nomatch z
theorem IsBag.ne_tup' {H:Hp} {p:Addr} {q:Addr} {o:HO} (h:IsBag H p) (e:H q=some o) (n:∀xs,o ≠ .lst xs):q≠p:=by
 obtain⟨c,m,e',_⟩:=h
 exact ne_of e e' (n _)
theorem BagX.t {p:Addr} {H H':Hp} (bg:IsBag H p) (b:BagX p H H'):SameT H H':=fun c o n e=>b.same c o (bg.ne_tup' e n) e
theorem BagX.sameOf {p:Addr} {H0 H H':Hp} (s:Same H0 H) (hp:H0 p=none) (b:BagX p H H'):Same H0 H':=fun c o e=>b.same c o (ne_of_none e hp) (s c o e)
section
variable {K:PySem.W.Frag}
theorem comp_bag {J:It} {te:TE} {Q:VK} {D p:Addr} {H H0:Hp} (n:Nat) (rest:L2.St) (nw:Nw H H0 D (.lst [])) (bg:IsBag H p) (hn:n<=1000) (xv:Nat->V)
    (go:∀i H2,i<n->BagX p H H2->J.go i H2 /\ ∀y H3,J.yld i H2 y H3->H3=H2/\y=xv i) (stop:∀H2,BagX p H H2->J.stop n H2) (Pz:Int->Prop)
    (hs:∀i H2 (Q':VK),i<n->BagX p H H2->(∀z H3,Pz z->BagX p H2 H3->Q' (.int z) H3)->te (some (xv i)::rest) H2 Q')
    (hq:∀H' (is:List Int),BagX p H H'->H' D=some (.lst (is.map V.int))->is.length=n->(∀z∈is,Pz z)->Q (.ref D) H'):CompW J (gName 0) tYes te Q D (none::rest) H0:=by
  have hDp:D≠p:=fun e=>bg.ne (e ▸ nw.no)
  refine comp_by n (fun i σ H3=>BagX p H H3/\(∃is:List Int,H3 D=some (.lst (is.map V.int))/\is.length=i /\ ∀z∈is,Pz z) /\ ∃v,σ = v::rest) ?_ ?_ ?_
  · exact⟨.ofSame bg nw.same,⟨[],nw.at',rfl,fun _ h=>(List.not_mem_nil h).elim⟩,none,rfl⟩
  · rintro i σ H3 hi ⟨b3,⟨is,d3,li,pi⟩,v,rfl⟩
    obtain⟨g1,g2⟩:=go i H3 hi b3
    refine⟨g1,fun y H4 hy=>?_⟩
    obtain⟨rfl,rfl⟩:=g2 y H4 hy
    refine yesN ?_
    refine hs i _ _ hi b3 fun z H5 pz b5=>?_
    refine⟨_,b5.same _ _ hDp d3,?_,n-(i+1),by omega,rfl,by omega,?_,⟨is++[z],?_,?_,?_⟩,_,rfl⟩
    · rw [List.length_map,li]
      have:(1000:Nat)<sizeLine:=by decide
      omega
    · have b35:=b3.trans b5
      refine⟨?_,fun b o n e=>?_⟩
      · obtain⟨c,m,e,ok⟩:=b35.bag
        exact⟨c,m,by rw [upd_ne hDp.symm]; exact e,ok⟩
      · rw [upd_ne (ne_of_none e nw.no)]; exact b35.same b o n e
    · rw [upd_same,List.map_append]; rfl
    · rw [List.length_append,li]; rfl
    · intro y hy
      rcases List.mem_append.mp hy with h | h
      · exact pi y h
      · rw [List.mem_singleton.mp h]; exact pz
  · rintro σ H3 ⟨b3,⟨is,d3,li,pi⟩,v,rfl⟩
    exact⟨stop H3 b3,hq H3 is b3 d3 li pi⟩
theorem ints_ix (ns:List Int) {i:Int} (h0:0<=i) (h:i<ns.length):∃z,z∈ns/\atI (ns.map V.int) i=some (.int z):=by
 have hl:i.toNat<ns.length:=by omega
 exact⟨ns[i.toNat],List.getElem_mem hl,atI_of h0 (by rw [List.getElem?_map,List.getElem?_eq_getElem hl]; rfl)⟩
theorem comp_rdB {J:It} {te:TE} {Q:VK} {D p:Addr} {H H0:Hp} (n:Nat) (rest:L2.St) (nw:Nw H H0 D (.lst [])) (bg:IsBag H p) (hn:n<=1000) (xv:Nat->V)
    (go:∀i H2,i<n->BagX p H H2->J.go i H2 /\ ∀y H3,J.yld i H2 y H3->H3=H2/\y=xv i) (stop:∀H2,BagX p H H2->J.stop n H2) (Pd:Nat->PyData->Prop)
    (hs:∀i H2 (Q':VK),i<n->BagX p H H2->(∀y d H3,Pd i d->noL d=true->RD K H3 y d->BagX p H2 H3->Q' y H3)->te (some (xv i)::rest) H2 Q')
    (hq:∀H' ys ds,BagX p H H'->H' D=some (.lst ys)->RDs K H' ys ds->ds.length=n->noLs ds=true->(∀i d,ds[i]? = some d->Pd i d)->Q (.ref D) H'):CompW J (gName 0) tYes te Q D (none::rest) H0:=by
  have hDp:D≠p:=fun e=>bg.ne (e ▸ nw.no)
  refine comp_by n (fun i σ H3=>BagX p H H3/\(∃ys ds,H3 D=some (.lst ys)/\RDs K H3 ys ds/\ds.length=i/\noLs ds=true /\ ∀j d,ds[j]? = some d->Pd j d) /\ ∃v,σ = v::rest) ?_ ?_ ?_
  · exact⟨.ofSame bg nw.same,⟨[],[],nw.at',rds_nil,rfl,rfl,fun j d e=>by simp at e⟩,none,rfl⟩
  · rintro i σ H3 hi ⟨b3,⟨ys,ds,d3,r3,li,ni,pi⟩,v,rfl⟩
    obtain⟨g1,g2⟩:=go i H3 hi b3
    refine⟨g1,fun y H4 hy=>?_⟩
    obtain⟨rfl,rfl⟩:=g2 y H4 hy
    refine yesN ?_
    refine hs i _ _ hi b3 fun z d H5 pz nz rz b5=>?_
    have d5:=b5.same _ _ hDp d3
    have t:SameT H5 (L2.upd H5 D (.lst (ys++[z]))):=.updL d5
    refine⟨ys,d5,?_,n-(i+1),by omega,rfl,by omega,?_,⟨ys++[z],ds++[d],upd_same,?_,?_,?_,?_⟩,_,rfl⟩
    · rw [r3.length,li]
      have:(1000:Nat)<sizeLine:=by decide
      omega
    · have b35:=b3.trans b5
      refine⟨?_,fun b o n e=>?_⟩
      · obtain⟨c,m,e,ok⟩:=b35.bag
        exact⟨c,m,by rw [upd_ne hDp.symm]; exact e,ok⟩
      · rw [upd_ne (ne_of_none e nw.no)]; exact b35.same b o n e
    · exact (RDs.t ((BagX.t b3.bag b5).trans t) _ ni r3).append (rds_cons (RD.t t _ nz rz) rds_nil)
    · rw [List.length_append,li]; rfl
    · exact noLs_mem.mpr fun x hx=>by
        rcases List.mem_append.mp hx with h | h
        · exact noLs_mem.mp ni x h
        · rw [List.mem_singleton.mp h]; exact nz
    · intro j e he
      by_cases hj:j<ds.length
      · rw [List.getElem?_append_left hj] at he
        exact pi j e he
      · have hj2:j=ds.length:=by
          have:=(List.getElem?_eq_some_iff.mp he).1
          rw [List.length_append] at this
          have:j<ds.length+1:=this
          omega
        subst hj2
        rw [List.getElem?_append_right (Nat.le_refl _),Nat.sub_self] at he
        cases he
        rw [li]; exact pz
  · rintro σ H3 ⟨b3,⟨ys,ds,d3,r3,li,ni,pi⟩,v,rfl⟩
    exact⟨stop H3 b3,hq H3 ys ds b3 d3 r3 li ni pi⟩
end
end Lw
set_option Elab.async false
set_option linter.all false
set_option maxRecDepth 100000
namespace Ln
open PySem L2
end Ln
set_option Elab.async false
set_option linter.all false
set_option maxRecDepth 100000
namespace L2
open PySem PySem.Spec PyProof.Rows
end L2
set_option Elab.async false
set_option linter.all false
set_option maxRecDepth 100000
namespace L2
open PySem PySem.Spec PyProof.Rows
abbrev eh1 (b:Bool) (h:Heap) (l:Addr):Heap:=h.push { cls:=.type (cnO b),data:=.fields #[.ref l,.int 0 0] }
abbrev eh2 (b:Bool) (h:Heap) (l:Addr):Heap:=(eh1 b h l).push { cls:=.type "enumerate",data:=.fields #[.none,.bool false,.ref h.objs.size,rawInt 0,.none,.none] }
theorem enNew (b:Bool) (l:Addr) (xs:Array Value):Meets (Builtin.«enumerate.__new__» ⟨[.type "enumerate",.ref l],[]⟩) (fun _ R s=>SqO b s.heap l xs /\
    R (.ok (.ret (.ref (eh1 b s.heap l).objs.size))) { s with heap:=eh2 b s.heap l }):=
  .of_wp fun prog w A R s h=>by
   obtain⟨hp,gg,d,tk,os⟩:=s
   obtain⟨hl,h⟩:=h
   have hsub:=sub_enumerate
   have hL:SqO b (Shared.heap ⟨hp,gg,d,tk,os⟩) l xs:=hl
   wp_walk using newO hL
   refine wpAny_stack_any fun st=>wpAny_pure ?_
   split
   · rename_i c _ _ _ _ _
     cases (c == Value.type "enumerate")
     · wp_walk using newO hL
       exact⟨_,rfl,h⟩
     · wp_walk using newO hL
       exact⟨_,rfl,h⟩
   · wp_walk using newO hL
     exact⟨_,rfl,h⟩
section
variable {prog:Program} {w:World} {A:Around} {E:Value->Shared->Prop} {s:Shared}
theorem enCall {b:Bool} {l:Addr} {xs:Array Value} {Q:Value->Shared->Prop} (hl:SqO b s.heap l xs)
    (q:∀g,IsEnum g (s.heap.objs.size+1) s.heap.objs.size 0 .none->ItO b g s.heap.objs.size l 0->(∀c o,s.heap.get? c=some o->g.get? c=some o)->Q (.ref (s.heap.objs.size+1)) { s with heap:=g }) :
    wpAny (model prog w) A (call (.type "enumerate") [.ref l]) Q E s:=by
  refine callType_new PySem.F.called_enumerate (by decide) (PySem.F.typeCall_enumerate_1 _) (PySem.F.newCall_enumerate_1 _) (fun obj=>PySem.F.args_object_init_2 obj _) PySem.F.entry_enumerate_new (enNew b l xs) ⟨hl,?_⟩
  have z1:(eh1 b s.heap l).objs.size=s.heap.objs.size+1:=Heap.size_push ..
  have g2:(eh2 b s.heap l).get? (eh1 b s.heap l).objs.size=some _:=Heap.get?_push_size _ rfl
  have g1:(eh2 b s.heap l).get? s.heap.objs.size=some _:=Heap.get?_push_of_some _ (Heap.get?_push_size _ rfl)
  show _/\_
  rw [z1] at g2 ⊢
  refine⟨⟨_,g2,rfl⟩,q _ g2 ?_ fun c o e=>Heap.get?_push_of_some _ (Heap.get?_push_of_some _ e)⟩
  cases b <;> exact⟨_,g1,rfl,rfl⟩
theorem enDraws {b:Bool} {it l:Addr} {xs:Array Value} (hh:A.handled=none) (ne:l≠it):Draws prog w A it [it,l] xs.size (fun i x=>xs[i]? = some x) (fun i h=>ItO b h it l i/\SqO b h l xs) where
 live:=fun i h st=>by obtain⟨o,e,_⟩:=st.1.ob; exact⟨o,e⟩
 frame:=fun i h h' st k=>⟨st.1.to fun o e=>k it (by simp) o e,st.2.to fun o e=>k l (by simp) o e⟩
 item:=fun i s Q E hi st hQ=>nxO st.1 st.2 (x:=xs[i]) (by simp [hi]) fun g gi sb=>hQ _ g s.toks (by simp [hi]) ⟨gi,st.2.to fun o e=>sb.extBut _ _ ne e⟩ sb
 done:=fun s Q E st hE=>enO hh st.1 st.2 (by simp) fun g e a b=>hE g e a b
end
def Ite (K:PySem.W.Frag) (b:Bool) (l:Addr):It:=
 ⟨fun i H=>∃xs x,SqV b K H l xs/\xs[i]? = some x,
  fun i H v H'=>∃T x,v = .ref T/\(∀xs,SqV b K H l xs->xs[i]? = some x)/\Nw H H' T (.tup [.int i,x]),
  fun i H=>∃xs,SqV b K H l xs/\xs.length=i⟩
theorem turn_enum {P:Program} {w:World} {K:PySem.W.Frag} {elts:List Expr} {kt:Nat} {pos:Pos} {b:Bool} {e it l:Addr} (D:e≠it) :
    Turn P w K (.Tuple elts kt pos) (Ite K b l) [e,it] e (fun i h=>(∃old,IsEnum h e it i old)/\ItO b h it l i) where
  mem:=by simp
  obj:=fun i h st c hc=>by
   obtain⟨⟨old,he⟩,h1⟩:=st
   simp only [List.mem_cons,List.not_mem_nil,or_false] at hc
   rcases hc with rfl | rfl
   · exact⟨_,he,fun v e=>by cases e⟩
   · obtain⟨o,e,_,n⟩:=h1.ob; exact⟨o,e,n⟩
  keep:=fun i h h' st k=>by
   obtain⟨⟨old,he⟩,h1⟩:=st
   exact⟨⟨old,k e (by simp) _ he⟩,h1.to fun o q=>k it (by simp) o q⟩
  item:=by
   intro X hP hw hK hc i pins s σ H E I hf st hg
   subst hP hw hK
   obtain⟨xs,x,q1,e1⟩:=hg
   obtain⟨its,r1,p1⟩:=q1.get I
   obtain⟨u1,hu1,ru1⟩:=r1.get e1
   obtain⟨⟨old,he⟩,h1⟩:=st
   obtain⟨oi,hoi,ci,_⟩:=h1.ob
   have lcls:∃o,s.heap.get? l=some o/\(o.cls = .type "list" \/ o.cls = .type "tuple"):=by
    cases b <;> (obtain⟨o,ho,cc,_⟩:=p1; first | exact⟨o,ho,.inl cc⟩ | exact⟨o,ho,.inr cc⟩)
   obtain⟨ol,hol,cl⟩:=lcls
   have nel:e≠l:=fun z=>by
    subst z
    rw [he] at hol; cases hol
    rcases cl with h | h <;> simp at h
   have nil:l≠it:=fun z=>by
    subst z
    rw [hoi] at hol; cases hol
    rw [ci] at cl
    cases b <;> (rcases cl with h | h <;> simp [cnO] at h)
   have hlt:i<its.toArray.size:=by
    rw [List.size_toArray,<- r1.length]; exact (List.getElem?_eq_some_iff.mp e1).1
   refine wpAny_pyNext_enum_itemD (enDraws (I.ok.hd hc) nil) he ⟨h1,p1⟩ hlt D (by simp [D,nel]) fun y h' tk hPy ho hst hT hsz kp=>⟨_,rfl,?_⟩
   have ey:y=u1:=by
    have a1:its.toArray[i]? = some y:=hPy
    have a2:its.toArray[i]? = some u1:=by simpa using hu1
    rw [a1] at a2; exact Option.some.inj a2
   subst ey
   refine wpAny_letOwnedTupleGo_enum ho fun g' he' sb=>?_
   have hs:=sb.extBut
   have elt:e<s.heap.objs.size:=Heap.lt_size he
   have ilt:it<s.heap.objs.size:=Heap.lt_size hoi
   have nw:Nw H (upd H s.heap.objs.size (.tup [.int i,x])) s.heap.objs.size (.tup [.int i,x]):=.of (I.hok.fresh (Nat.le_refl _))
   have I1:Inv X pins σ (upd H s.heap.objs.size (.tup [.int i,x])) { s with heap:=s.heap.push { cls:=.type "tuple",data:=.seq #[.int i tk,y] },toks:=tk+1 }:=
    I.laid (t':=tk+1) (fun b ob q=>Heap.get?_push_of_some _ q) (Nat.le_refl _) ⟨by show 2<=sizeLine; decide,[.int i tk,y],.cons ⟨tk,rfl⟩ (.cons ru1 .nil),⟨_,Heap.get?_push_size _ rfl,rfl,_,rfl⟩⟩
   have lts:∀c∈[e,it],c<s.heap.objs.size:=fun c hc=>by
    simp only [List.mem_cons,List.not_mem_nil,or_false] at hc
    rcases hc with rfl | rfl
    · exact elt
    · exact ilt
   have hn:∀c∈[e,it],upd H s.heap.objs.size (.tup [.int i,x]) c=none:=fun c hc=>by
    rw [upd_ne (Nat.ne_of_lt (lts c hc))]; exact (hf c hc).1
   have I2:Inv X pins σ (upd H s.heap.objs.size (.tup [.int i,x])) { s with heap:=g',toks:=tk+1 }:=Inv.turnedL (s:={ s with heap:=s.heap.push { cls:=.type "tuple",data:=.seq #[.int i tk,y] },toks:=tk+1 }) (t':=tk+1) (fp:=[e,it]) I1 (fun c o hc q=>by
    have q:(s.heap.push { cls:=.type "tuple",data:=.seq #[.int i tk,y] }).get? c=some o:=q
    have nz:c≠e:=fun z=>hc (by simp [z])
    rcases Heap.get?_push_cases q with ⟨hbT,rfl⟩ | q'
    · subst hbT
      exact hs _ _ nz hT
    · exact hs _ _ nz (kp c o nz (fun z=>hc (by simp [z])) q')) (fun c hc=>by
      obtain⟨f0,f1,f2,f3,f4,f5⟩:=hf c hc
      exact⟨hn c hc,f1,f2,f3,f4,f5⟩)
   refine⟨.ref s.heap.objs.size,_,I2,rfl,⟨s.heap.objs.size,x,rfl,fun zs hz=>?_,nw⟩,⟨⟨_,by simpa using he'⟩,hst.1.to fun o q=>hs _ o (Ne.symm D) q⟩,hn⟩
   rw [SqV.inj I hz q1]; exact e1
  done:=by
   intro X hP hw hK hc i pins s σ H E I hf st hg
   subst hP hw hK
   obtain⟨xs,q1,hend⟩:=hg
   obtain⟨its,r1,p1⟩:=q1.get I
   obtain⟨⟨old,he⟩,h1⟩:=st
   obtain⟨oi,hoi,ci,_⟩:=h1.ob
   have lcls:∃o,s.heap.get? l=some o/\(o.cls = .type "list" \/ o.cls = .type "tuple"):=by
    cases b <;> (obtain⟨o,ho,cc,_⟩:=p1; first | exact⟨o,ho,.inl cc⟩ | exact⟨o,ho,.inr cc⟩)
   obtain⟨ol,hol,cl⟩:=lcls
   have nil:l≠it:=fun z=>by
    subst z
    rw [hoi] at hol; cases hol
    rw [ci] at cl
    cases b <;> (rcases cl with h | h <;> simp [cnO] at h)
   have hi:i=its.toArray.size:=by rw [List.size_toArray,<- r1.length]; exact hend.symm
   subst hi
   refine wpAny_pyNext_enum_endD (enDraws (I.ok.hd hc) nil) he ⟨h1,p1⟩ fun h' kp=>⟨rfl,?_⟩
   exact I.turnedL (t':=s.toks) (fp:=[e,it]) (fun c o hc q=>kp c o (fun z=>hc (by simp [z])) q) hf
  self:=fun _ _ _ _ _ st h=>by
   obtain⟨⟨old,he⟩,_⟩:=st
   exact wpAny_pyIter_enum he h
inductive IiEnum (K:PySem.W.Frag) (b:Bool) (R:It->Hp->Prop) (vs:List V) (H1:Hp):Prop
  | mk (l:_) (h0:vs=[.ref l]) (h1:(∃xs,SqV b K H1 l xs)) (h2:R (Ite K b l) H1):IiEnum K b R vs H1
def iEnum (K:PySem.W.Frag) (b:Bool) (ta:TA):TI:=fun σ H R=>ta σ H fun vs H1=>IiEnum K b R vs H1
theorem pi_enum (K:PySem.W.Frag) {X:Cx} (hK:X.K=K) (b:Bool) {elts:List Expr} {kt:Nat} {tpos:Pos} {a:Expr} {ta:TA} {p pos:Pos} (hg:Gl X "enumerate") (hm:X.mg "enumerate" = none) (ha:PA X [a] ta) (hs:starEach [a] X.env=[(false,eval a X.env)]:=by rfl) (hs2:starEach [] X.env=[]:=by rfl) :
    PI X (.Tuple elts kt tpos) (.Call (.Name "enumerate" p) [a] [] pos) (iEnum K b ta):=by
  subst hK
  intro pins s σ H R I h
  refine Call_ (ld_blt I hg hm PyProof.Rows.boot_enumerate (PyProof.Rows.callWith_type1 (thn (ha pos pins s σ H _ I h) fun us s1 ⟨vs,H1,I1,r1,q1⟩=>?_) (by rw [hs,hs2]) (by rw [hs2]; rfl)))
  obtain⟨l,e,⟨xs,h1⟩,q⟩:=q1
  subst e
  obtain⟨u1,rfl,ru1⟩:=vals1 r1
  cases (show u1=Value.ref l from ru1)
  obtain⟨its1,v1,p1⟩:=h1.get I1
  refine enCall p1 fun g zg ig kp=>wpAny_pyIter_enum zg ?_
  refine⟨_,_,_,_,H1,rfl,I1.kept (t':=s1.toks) kp,turn_enum (Nat.ne_of_gt (Nat.lt_succ_self _)),⟨⟨_,zg⟩,ig⟩,fun c hc=>?_,q⟩
  have hle:s1.heap.objs.size<=c:=by
   simp only [List.mem_cons,List.not_mem_nil,or_false] at hc
   rcases hc with rfl | rfl <;> first | exact Nat.le_refl _ | exact Nat.le_add_right _ _
  exact I1.fpOk hle (I1.hok.fresh hle)
theorem for_enum {K:PySem.W.Frag} {b:Bool} {a:Addr} {xs:List V} {g:TG} {tb:TS} {D:Ends} {σ : St} {H:Hp} (Pv:Nat->St->Hp->Prop) (h0:Pv 0 σ H) (hl:∀i σ H,i<=xs.length->Pv i σ H->SqV b K H a xs)
    (hs:∀i x σ H,xs[i]? = some x->Pv i σ H -> ∀T H',Nw H H' T (.tup [.int i,x])->g (.ref T) σ H' fun σ2 H2=>tb { D with nx:=Pv (i+1),ct:=Pv (i+1),bk:=D.nx } σ2 H2) (hd:∀ σ H,Pv xs.length σ H->D.nx σ H) :
    ∃ W:Nat->Nat->St->Hp->Prop,(∃m,W 0 m σ H) /\ ∀i m σ H,W i m σ H ->
      ((Ite K b a).stop i H/\D.nx σ H) \/ ((Ite K b a).go i H /\ ∃N:St->Hp->Prop,(∀ σ' H',N σ' H' -> ∃m',m'<m/\W (i+1) m' σ' H') /\ ∀x H',(Ite K b a).yld i H x H'->g x σ H' fun σ2 H2=>tb { D with nx:=N,ct:=N,bk:=D.nx } σ2 H2):=by
  refine⟨fun i m σ H=>m=xs.length-i/\i<=xs.length/\Pv i σ H,⟨xs.length,by simp,Nat.zero_le _,h0⟩,?_⟩
  rintro i m σ H ⟨rfl,hi,p⟩
  have q:=hl i σ H hi p
  by_cases hlt:i<xs.length
  · refine .inr ⟨⟨xs,xs[i],q,by simp [hlt]⟩,Pv (i+1),fun σ' H' p'=>⟨xs.length-(i+1),by omega,rfl,hlt,p'⟩,fun x H' y=>?_⟩
    obtain⟨T,z,rfl,ez,nw⟩:=y
    exact hs i z σ H (ez xs q) p T H' nw
  · have e:i=xs.length:=by omega
    subst e
    exact .inl ⟨⟨xs,q,rfl⟩,hd σ H p⟩
end L2
set_option Elab.async false
set_option linter.all false
set_option maxRecDepth 100000
namespace L2
open PySem PySem.Spec PyProof.Rows
section
variable {X:Cx}
end
end L2
set_option Elab.async false
set_option linter.all false
set_option maxRecDepth 100000
namespace L2
open PySem PySem.Spec PyProof.Rows
set_option maxHeartbeats 1000000 in
theorem ps_setC {X:Cx} {N:List Str} {js:List (Option Nat)} {elt tg iter:Expr} {ifs:List Expr} {scope:Scope} {pos:Pos} {wi:TI} {g:TG} {tt:TT} {te:TE} {i0:Nat} {x0:Str} {px0 spos:Pos} (hNd:X.N.Nodup) (hix:X.N[i0]? = some x0) (hx0:Loc X.env.scope x0) (hc:X.calm=true) (hN:chkC X N js scope=true) (hS:chkS X scope=true)
    (hi:PI X tg iter wi) (hg:∀cl s H fp pins,PG (compCx X N scope cl s H fp pins) tg g) (ht:∀cl s H fp pins,PTs (compCx X N scope cl s H fp pins) ifs tt) (he:∀cl s H fp pins,PE (compCx X N scope cl s H fp pins) elt te)
    (hsw:swapsWith (.ListComp elt [⟨tg,iter,ifs,0⟩] scope pos) (some (.Name x0 px0)) spos.line X.env=pure true:=by rfl) (hf0:X.fn x0=true \/ X.env.scope.names.lookup x0=some .local:=by first | exact .inl rfl | exact .inr rfl)
    (hs:∀x,foldedSetIterable iter X.env x=pure x:=by intro _; rfl):PS X (.Assign [.Name x0 px0] (.ListComp elt [⟨tg,iter,ifs,0⟩] scope pos) spos) (tAsg (tComp js wi g tt te) (gName i0)):=by
  intro pins s σ H D0 I h
  have hS':=hS
  unfold chkS at hS'
  rw [Bool.and_eq_true,Bool.and_eq_true] at hS'
  obtain⟨⟨k1,k2⟩,k3⟩:=hS'
  have hkind:scope.kind = .function:=beq_iff_eq.mp k1
  have hfree:∀x∈scope.names,x.2 = .free -> ∃c,X.env.cells.lookup x.1=some c:=fun x hx e=>by
   have:=List.all_eq_true.mp k3 x hx
   rw [e] at this
   exact I.ok.has x.1 (.inl (beq_iff_eq.mp this))
  have hcell:∀x∈scope.names,x.2 ≠ .cell:=fun x hx e=>by
   have:=List.all_eq_true.mp k3 x hx
   rw [e] at this
   exact Bool.false_ne_true this
  have hnames:∀x∈scope.names,x.2 = .local->scope.names.lookup x.1=some .local:=fun x hx e=>by
   have:=List.all_eq_true.mp k3 x hx
   rw [e] at this
   exact beq_iff_eq.mp this
  obtain⟨cl,hclos,c1,c2⟩:=closureFor_ok hfree
  rw [exec_Assign_Name_used _ _ _ _ hsw]
  refine wpAny_bind (wpAny_standAt (wpAny_bind ?_))
  show wpAny _ X.A (do let _ <- comprehension (.ListComp elt [⟨tg,iter,ifs,0⟩] scope pos) scope X.env _ (newList []) false (eval iter X.env) (some (assign (.Name x0 px0) X.env))) _ _ s
  refine wpAny_bind (wpAny_mono (wpAny_comprehension_free (use:=some (assign (.Name x0 px0) X.env)) (Q:=fun _ s'=>SP X pins D0 .next s') rfl hs hclos hkind hnames (thn (hi pins s σ H _ I h) fun v s1 h1=>thn h1 fun itv s2 h2=>?_)) (fun _ s' hq=>wpAny_pure (wpAny_pure hq)) fun _ _ e=>e)
  obtain⟨it,fp,tn,J,H2,e,I2,T,st2,f2,h2⟩:=h2
  subst e
  have hD:H2 s2.heap.objs.size=none:=I2.hok.fresh (Nat.le_refl _)
  obtain⟨W,⟨m0,w0⟩,turn⟩:=h2 _ _ (Nw.of hD)
  refine wpAny_newObj_type (wpAny_newFunctionEnv hcell (by intro y hy; simp at hy) (fun h₁ hns₁ hsb₁=>?_) hkind)
  have fpl:∀b∈fp,b<s2.heap.objs.size:=fun b hb=>by
   obtain⟨o,e,_⟩:=T.obj _ _ st2 b hb
   exact Heap.lt_size e
  have I3:Inv X pins σ (upd H2 s2.heap.objs.size (.lst [])) { s2 with heap:=s2.heap.push { cls:=.type "list",dict:=none,data:=.seq ([]:List Value).toArray } }:=I2.lnew (its:=[]) (t':=s2.toks) .nil (Nat.zero_le _)
  generalize hH3:s2.heap.push { cls:=.type "list",dict:=none,data:=.seq ([]:List Value).toArray } = h3 at I3 hns₁ hsb₁
  have sz3:h3.objs.size=s2.heap.objs.size+1:=by rw [<- hH3,Heap.size_push]
  have keep23:∀b o,s2.heap.get? b=some o->h3.get? b=some o:=fun b o e=>by rw [<- hH3]; exact Heap.get?_push_of_some _ e
  have f3:∀b∈fp,FpOk X pins (upd H2 s2.heap.objs.size (.lst [])) b:=fun b hb=>⟨by rw [upd_ne (Nat.ne_of_lt (fpl b hb))]; exact (f2 b hb).1,(f2 b hb).2⟩
  have keep31:∀b o,h3.get? b=some o->h₁.get? b=some o:=fun b o e=>(hsb₁.2 b (Nat.ne_of_lt (Heap.lt_size e))).trans (Heap.get?_push_of_some _ e)
  have I4:Inv (compCx X N scope cl { s2 with heap:=h3 } (upd H2 s2.heap.objs.size (.lst [])) fp pins) [] (stC js σ) (upd H2 s2.heap.objs.size (.lst [])) { s2 with heap:=h₁,toks:=s2.toks+([]:List (Str × Value)).length }:=
   I3.comp (s:={ s2 with heap:=h3 }) hN hS c1 c2 f3 (fun b hb=>by show b<h3.objs.size; rw [sz3]; exact Nat.lt_succ_of_lt (fpl b hb)) (by simpa using hns₁) keep31
  have st4:tn 0 h₁:=T.keep _ _ _ st2 fun b _ o e=>keep31 b o (keep23 b o e)
  have loop:codeAny (model X.prog X.w) X.A (.compLoop (.ListComp elt [⟨tg,iter,ifs,0⟩] scope pos) 0 (.ref it) (.ref s2.heap.objs.size) (compEnvC scope cl h3.objs.size X.env))
      (compPost (model X.prog X.w) X.A X.xe (some (assign (.Name x0 px0) X.env)) (fun _ s'=>SP X pins D0 .next s') (.ref s2.heap.objs.size) h3.objs.size) { s2 with heap:=h₁,toks:=s2.toks+([]:List (Str × Value)).length }:=by
    refine compLoop_gen (fun n s'=>∃i σ' H',Inv (compCx X N scope cl { s2 with heap:=h3 } (upd H2 s2.heap.objs.size (.lst [])) fp pins) [] σ' H' s'/\tn i s'.heap/\(∀b∈fp,H' b=none)/\W i n σ' H') ?_ m0
      ⟨0,_,_,I4,st4,fun b hb=>(f3 b hb).1,w0⟩
    rintro n s5 ⟨i,σ5,H5,I5,st5,fr5,w5⟩
    have stat:∀ {H':Hp},(∀b∈fp,H' b=none) -> ∀b∈fp,FpOk (compCx X N scope cl { s2 with heap:=h3 } (upd H2 s2.heap.objs.size (.lst [])) fp pins) [] H' b:=fun {H'} hn b hb=>by
     obtain⟨_,q1,q2,q3,q4,q5⟩:=f3 b hb
     refine⟨hn b hb,fun z=>?_,I4.ok.exfs b hb,.inl hb,fun x c e=>q4 x c (c1 x c e),fun p hp=>q5 p (by simpa [compCx] using hp)⟩
     have hlt:b<h3.objs.size:=by rw [sz3]; exact Nat.lt_succ_of_lt (fpl b hb)
     exact Nat.ne_of_lt hlt z
    rcases turn i n σ5 H5 w5 with ⟨stop,qn⟩ | ⟨go,step⟩
    · refine thn (T.done (compCx X N scope cl { s2 with heap:=h3 } (upd H2 s2.heap.objs.size (.lst [])) fp pins) rfl rfl rfl hc i [] s5 σ5 H5 _ I5 (stat fr5) st5 stop) fun r s6 ⟨hr,I6⟩=>?_
      subst hr
      obtain⟨m,hm,_⟩:=I6.loc
      have u0:Un (frs X.stack) fp (upd H2 s2.heap.objs.size (.lst [])) H5 h3 s6.heap:=I6.base
      have I7:Inv X pins σ H5 s6:=I3.call' (s':=s6) (ch:=fp) I6.os u0 I6.hok I6.bare fun b hb=>⟨(f3 b hb).2.2.2.1,(f3 b hb).2.1,(f3 b hb).2.2.2.2.1,(f3 b hb).2.2.2.2.2⟩
      have hC:FpOk X pins H5 h3.objs.size:=I3.fpOk (Nat.le_refl _) I6.free
      show wpAny _ X.A (assign (.Name x0 px0) X.env (.ref s2.heap.objs.size)) _ _ s6
      refine wpAny_assign_Name (store_ok2 I7 hNd hix hx0 (show RelV (.ref s2.heap.objs.size) (.ref s2.heap.objs.size) from rfl) (fun s8 I8 hsb=>?_) hf0)
      obtain⟨a,sb,ha⟩:=hsb
      have hCa:h3.objs.size≠a:=by
       rcases ha with rfl | ha
       · exact hC.2.1
       · exact fun z=>hC.2.2.2.2.1 x0 a ha z.symm
      refine⟨m,hm.sameBut sb hCa,fun h9 hs9=>⟨_,H5,?_,qn⟩⟩
      exact I8.turnedL (t':=s8.toks) (fp:=[h3.objs.size]) (fun b o hb e=>hs9.extBut b o (fun z=>hb (by simp [z])) e) fun b hb=>by rw [List.mem_singleton.mp hb]; exact hC
    · refine thn (T.item (compCx X N scope cl { s2 with heap:=h3 } (upd H2 s2.heap.objs.size (.lst [])) fp pins) rfl rfl rfl hc i [] s5 σ5 H5 _ I5 (stat fr5) st5 go) fun r s6 ⟨u,hr,h6⟩=>?_
      subst hr
      refine thn h6 fun _ s7 ⟨x,H7,I7,r7,y7,st7,fr7⟩=>?_
      have I7':=I7.pinned (stat fr7) (T.obj _ _ st7)
      refine thn (hg _ _ _ _ _ _ s7 σ5 H7 x u _ I7' r7 (step x H7 y7)) fun _ s8 ⟨σ8,H8,I8,q8⟩=>?_
      refine thn (ht _ _ _ _ _ _ s8 σ8 H8 _ I8 q8) fun ok s9 ⟨H9,I9,q9⟩=>?_
      have again:∀ {s':Shared} {σ7:St} {H7:Hp},Inv (compCx X N scope cl { s2 with heap:=h3 } (upd H2 s2.heap.objs.size (.lst [])) fp pins) ([]++pinsAt fp s7.heap) σ7 H7 s'->(∃m',m'<n/\W (i+1) m' σ7 H7) ->
          ∃m,m<n /\ ∃i σ' H',Inv (compCx X N scope cl { s2 with heap:=h3 } (upd H2 s2.heap.objs.size (.lst [])) fp pins) [] σ' H' s'/\tn i s'.heap/\(∀b∈fp,H' b=none)/\W i m σ' H':=fun {s' σ7 H7} J7 n7=>by
        obtain⟨m',hm,w7⟩:=n7
        refine⟨m',hm,i+1,σ7,H7,J7.unpinned,T.keep _ _ _ st7 fun b hb o e=>(J7.pin (b,o) (List.mem_append_right _ (List.mem_append_right _ (mem_pinsAt hb e)))).1,fun b hb=>?_,w7⟩
        obtain⟨o,e,d⟩:=T.obj _ _ st7 b hb
        exact (J7.pin (b,o) (List.mem_append_right _ (List.mem_append_right _ (mem_pinsAt hb e)))).2.1
      cases ok with
      | false=>
        rw [if_neg Bool.false_ne_true] at q9 ⊢
        exact again I9 q9
      | true=>
        rw [if_pos rfl] at q9 ⊢
        refine thn (he _ _ _ _ _ _ s9 σ8 H9 _ I9 q9) fun yv s10 ⟨y,H10,I10,r10,ys,hys,hz,w10⟩=>?_
        refine thn (mt_append _ s10 σ8 H10 (.ref s2.heap.objs.size) [y] (.ref s2.heap.objs.size) [yv] (fun _ H11=>∃m',m'<n/\W (i+1) m' σ8 H11) I10 rfl (.cons r10 .nil) ⟨_,ys,y,rfl,rfl,hys,hz,w10⟩) fun _ s11 ⟨v11,H11,I11,r11,q11⟩=>?_
        exact again I11 q11
  exact codeAny_compStart_list loop (T.self _ 0 _ _ _ st4 loop)
end L2
set_option Elab.async false
set_option linter.all false
set_option maxRecDepth 100000
namespace L2
open PySem PySem.Spec PyProof.Rows
end L2
set_option Elab.async false
set_option linter.all false
set_option maxRecDepth 100000
namespace L2
open PySem PySem.Spec PyProof.Rows
theorem carried_strs:∀ {zs:List Str} {us:List Value},Vals (zs.map V.str) us->CarriedAll us (zs.map PyData.str)
  | [],_,.nil=>.nil
  | z::zs,_,.cons q r=>by
    obtain⟨t,rfl⟩:=(show ∃t,_=Value.str z t from q)
    exact .cons (.str z t) (carried_strs r)
section
variable {X:Cx}
end
end L2
set_option Elab.async false
set_option linter.all false
set_option maxRecDepth 100000
namespace L2
open PySem PySem.Spec PyProof.Rows
section
variable {X:Cx} {pins:List (Addr × Obj)} {σ : St} {H:Hp} {s:Shared}
end
end L2
set_option Elab.async false
set_option linter.all false
set_option maxRecDepth 100000
namespace L2
open PySem PySem.Spec PyProof.Rows
section
variable {X:Cx}
end
end L2
set_option Elab.async false
set_option linter.all false
set_option maxRecDepth 100000
namespace L2
open PySem PySem.Spec PyProof.Rows
section
variable {prog:Program} {w:World} {A:Around} {E:Value->Shared->Prop} {s:Shared}
end
end L2
namespace L2
open PySem PySem.Spec PyProof.Rows
theorem pt_truK (K:PySem.W.Frag) {X:Cx} (hK:X.K=K) {a:Expr} {ta:TE} (ha:PE X a ta) (he:∀whole,isTrue a X.env whole=(do let v <- whole; standAt a.pos; holding [v] (truthy v)):=by intro _; rfl) :
    PT X a (fun σ H Q=>ta σ H fun x H'=>∃k,TruV K x H' k/\Q k H'):=by
  subst hK
  exact pt_truth ha he
end L2
set_option Elab.async false
set_option linter.all false
namespace Cn
open Ln
end Cn
set_option Elab.async false
set_option linter.all false
namespace Pn
section
variable (n:Nat) (own:Nat->Rat) (L:Nat->Option Nat) (r f:Int)
end
section
variable {n:Nat} {own g:Nat->Rat} {L:Nat->Option Nat} {r f:Int}
end
open Rt
end Pn
set_option Elab.async false
set_option linter.all false
namespace Ow
open Pn Cn Ln Rt
end Ow
set_option Elab.async false
set_option linter.all false
namespace Wk
open PySem L2
end Wk
set_option Elab.async false
set_option linter.all false
set_option maxRecDepth 100000
set_option maxHeartbeats 1000000
namespace L2
open PySem PySem.Spec PyProof.Rows
def Its (z:Str):It:=⟨fun i _=>i<z.cps.size,fun i H x H'=>H'=H /\ ∃c,z.cps.toList[i]? = some c/\x = .str ⟨#[c]⟩,fun i _=>z.cps.size<=i⟩
theorem turn_str {P:Program} {w:World} {K:PySem.W.Frag} {tg:Expr} (it:Addr) (z:Str) (t:Tok) (ty:String) (hty:["enumerate","zip","dict_itemiterator","dict_reverseitemiterator","odict_iterator","itertools.zip_longest","itertools.pairwise"].contains ty=false)
    (W:∀A':Around,A'.handled=none->Walks P w A' it [it] [it] z.cps.size (SignAt z) (fun i h=>h.IsStrIter it ty z t i))
    (self:∀(A:Around) (i:Nat) (s:Shared) (Q:Value->Shared->Prop) (E:Value->Shared->Prop),s.heap.IsStrIter it ty z t i->Q (.ref it) s->wpAny (model P w) A (pyIter (.ref it)) Q E s) :
    Turn P w K tg (Its z) [it] it (fun i h=>h.IsStrIter it ty z t i/\i<=z.cps.size) where
  mem:=by simp
  obj:=fun i h st b hb=>by
   have e:b=it:=by simpa using hb
   subst e
   obtain⟨⟨o,e,c,d⟩,_⟩:=st
   exact⟨o,e,fun v z=>by rw [d] at z; cases z⟩
  keep:=fun i h h' st k=>⟨let ⟨o,e,r⟩:=st.1; ⟨o,k it (by simp) o e,r⟩,st.2⟩
  item:=by
   intro X hP hw hK hc i pins s σ H E I hf st hg
   subst hP hw hK
   obtain⟨f0,f1,f2,f3,f4,f5⟩:=hf it (by simp)
   refine (W X.A (I.ok.hd hc)).item i s _ _ hg st.1 fun v h' tk hv st' kk=>?_
   obtain⟨c,u,ec,rfl⟩:=hv
   have I1:Inv X pins σ H { s with heap:=h',toks:=tk }:=I.turned (fun b o hb e=>kk b o (by simpa using hb) e) f0 f1 f3 f4 f5
   obtain⟨o,e,cl,d⟩:=id st'
   exact⟨_,rfl,go_of (s:={ s with heap:=h',toks:=tk }) e cl d hty ⟨.str ⟨#[c]⟩,H,I1,⟨u,rfl⟩,⟨rfl,c,by simpa using ec,rfl⟩,⟨st',hg⟩,fun b hb=>(hf b hb).1⟩⟩
  done:=by
   intro X hP hw hK hc i pins s σ H E I hf st hg
   subst hP hw hK
   obtain⟨f0,f1,f2,f3,f4,f5⟩:=hf it (by simp)
   obtain⟨st,hle⟩:=st
   have ei:i=z.cps.size:=Nat.le_antisymm hle hg
   subst ei
   exact (W X.A (I.ok.hd hc)).done s _ _ st fun h' tk eb=>⟨rfl,I.turned (fun b o hb e=>eb b o (by simpa using hb) e) f0 f1 f3 f4 f5⟩
  self:=fun A i s Q E st h=>self A i s Q E st.1 h
section
variable {X:Cx} {tg:Expr}
inductive IiStr (R:It->Hp->Prop) (x:V) (H1:Hp):Prop
  | mk (z:_) (h0:x = .str z) (h1:R (Its z) H1):IiStr R x H1
def iStr (tl:TE):TI:=fun σ H R=>tl σ H fun x H1=>IiStr R x H1
theorem pi_str {l:Expr} {tl:TE} (hl:PE X l tl):PI X tg l (iStr tl):=by
 intro pins s σ H R I h
 refine thn (hl pins s σ H _ I h) fun v s1 ⟨x,H1,I1,r1,q1⟩=>?_
 obtain⟨z,e,q⟩:=q1
 subst e
 obtain⟨t,rfl⟩:=r1
 have fin:∀ty,["enumerate","zip","dict_itemiterator","dict_reverseitemiterator","odict_iterator","itertools.zip_longest","itertools.pairwise"].contains ty=false ->
     (∀A':Around,A'.handled=none->Walks X.prog X.w A' s1.heap.objs.size [s1.heap.objs.size] [s1.heap.objs.size] z.cps.size (SignAt z) (fun i h=>h.IsStrIter s1.heap.objs.size ty z t i)) ->
     (∀(A:Around) (i:Nat) (s:Shared) (Q:Value->Shared->Prop) (E:Value->Shared->Prop),s.heap.IsStrIter s1.heap.objs.size ty z t i->Q (.ref s1.heap.objs.size) s->wpAny (model X.prog X.w) A (pyIter (.ref s1.heap.objs.size)) Q E s) ->
     PIE X pins σ tg R (.ref s1.heap.objs.size) { s1 with heap:=s1.heap.push { cls:=.type ty,data:=.fields #[.str z t,.int 0 0] } }:=fun ty h1 h2 h3=>by
   refine⟨s1.heap.objs.size,[s1.heap.objs.size],_,_,H1,rfl,I1.kept (t':=s1.toks) fun b o e=>Heap.get?_push_of_some _ e,turn_str _ z t ty h1 h2 h3,⟨⟨_,Heap.get?_push_size _ rfl,rfl,rfl⟩,Nat.zero_le _⟩,fun b hb=>?_,q⟩
   have e:b=s1.heap.objs.size:=by simpa using hb
   subst e
   exact I1.fpOk (Nat.le_refl _) (I1.hok.fresh (Nat.le_refl _))
 cases ha:z.cps.all (· < 128)
 · exact wpAny_pyIter_wide ha (fin "str_iterator" (by decide) (fun A' hA=>Walks.strWide hA _ z t) (fun _ _ _ _ _ st h=>wpAny_pyIter_striter_wide st h))
 · exact wpAny_pyIter_ascii ha (fin "str_ascii_iterator" (by decide) (fun A' hA=>Walks.strAscii hA _ z t) (fun _ _ _ _ _ st h=>wpAny_pyIter_striter_ascii st h))
theorem comp_blS {z:Str} {f:Nat->Bool} {te:TE} {Q:VK} {D:Addr} {H H0:Hp} (rest:St) (nw:Nw H H0 D (.lst [])) (hz:z.length<=1000)
    (hs:∀(c:Nat) (H2:Hp) (Q':VK),c∈z.cps.toList->Same H H2->(∀H3,Same H2 H3->Q' (.bl (f c)) H3)->te (some (.str ⟨#[c]⟩)::rest) H2 Q')
    (hq:∀H',Same H H'->H' D=some (.lst ((z.cps.toList.map f).map V.bl))->Q (.ref D) H'):CompW (Its z) (gName 0) tYes te Q D (none::rest) H0:=by
  have hl:z.cps.toList.length=z.cps.size:=by simp
  refine comp_bl (xs:=z.cps.toList.map fun c=>V.str ⟨#[c]⟩) (bs:=z.cps.toList.map f) rest nw (by simp) (by simpa [Str.length] using hz) ?_ ?_ ?_ hq
  · intro i x H2 ex s2
    rw [List.getElem?_map] at ex
    cases ec:z.cps.toList[i]? with
    | none=>rw [ec] at ex; cases ex
    | some c=>
      rw [ec] at ex
      cases ex
      refine⟨by have:=(List.getElem?_eq_some_iff.mp ec).1; show i<z.cps.size; omega,fun y H3 ⟨e3,c',ec',e⟩=>⟨e3,?_⟩⟩
      rw [ec] at ec'
      cases ec'
      exact e
  · intro H2 s2
    show z.cps.size<=(z.cps.toList.map _).length
    rw [List.length_map,hl]
    exact Nat.le_refl _
  · intro i x b H2 Q' ex eb s2 hq'
    rw [List.getElem?_map] at ex eb
    cases ec:z.cps.toList[i]? with
    | none=>rw [ec] at ex; cases ex
    | some c=>
      rw [ec] at ex eb
      cases ex
      cases eb
      exact hs c H2 Q' (List.mem_of_getElem? ec) s2 hq'
theorem op_in1:OpR X (compareOp .In) (fun x y H Q=>∃c j,x = .str ⟨#[c]⟩/\y = .str j/\Q (.bl (decide (c∈j.cps.toList))) H):=by
 intro pins s σ H x y v u Q I rx ry h
 obtain⟨c,j,rfl,rfl,q⟩:=h
 refine op_in_str pins s σ H _ _ v u Q I rx ry ⟨_,_,rfl,rfl,?_⟩
 rw [PySem.StrLaws.found_one]
 exact q
inductive IrInT (K:PySem.W.Frag) (x:V) (y:V) (H:Hp) (Q:VK):Prop
  | mk (p:_) (xs:_) (d:_) (ds:_) (h0:y = .ref p) (h1:SqT K H p xs) (h2:RD K H x d) (h3:RDs K H xs ds) (h4:SeqAt.shaped d=true) (h5:(∀e∈ds,SeqAt.shaped e=true)) (h6:Q (.bl (ds.any fun e=>PyData.eqv e d)) H):IrInT K x y H Q
def rInT (K:PySem.W.Frag):R2:=fun x y H Q=>IrInT K x y H Q
theorem inDT (K:PySem.W.Frag) (hK:X.K=K) (hu:X.A.units+65<cLine):OpR X (compareOp .In) (rInT K):=by
 subst hK
 intro pins s σ H x y v u Q I rx ry h
 obtain⟨p,xs,d,ds,rfl,hx,hd,hds,sd,sds,q⟩:=h
 cases ry
 obtain⟨its,r,pl,hz⟩:=I.tuple hx
 obtain⟨k1,k2⟩:=eqs_of I hu rx hd sd r hds sds
 refine SeqAt.in_tupleAt (eqD s.heap d) (show s.heap.IsTuple p its.toArray from pl) (fun w hw=>k1 w (by simpa using hw)) ⟨.bl _,H,I,rfl,?_⟩
 have e:its.toArray.any (eqD s.heap d)=ds.any fun e=>PyData.eqv e d:=by rw [<- k2]; simp
 rw [e]
 exact q
end
end L2
set_option Elab.async false
set_option linter.all false
set_option maxRecDepth 100000
namespace L2
open PySem PySem.Spec PyProof.Rows
inductive IrCatU (K:PySem.W.Frag) (x:V) (y:V) (H:Hp) (Q:VK):Prop
  | mk (a:_) (b:_) (xs:_) (ys:_) (h0:x = .ref a) (h1:y = .ref b) (h2:SqT K H a xs) (h3:SqT K H b ys) (h4:xs.length+ys.length<=sizeLine) (h5:∀c H',Same H H'->SqT K H' c (xs++ys)->Q (.ref c) H'):IrCatU K x y H Q
def rCatU (K:PySem.W.Frag):R2:=fun x y H Q=>IrCatU K x y H Q
inductive IrSlU (K:PySem.W.Frag) (x:V) (lo:Option Int) (hi:Option Int) (H:Hp) (Q:VK):Prop
  | mk (a:_) (xs:_) (h0:x = .ref a) (h1:SqT K H a xs) (h2:∀c H',Same H H'->SqT K H' c (cutV xs lo hi)->Q (.ref c) H'):IrSlU K x lo hi H Q
def rSlU (K:PySem.W.Frag):V->Option Int->Option Int->Hp->VK->Prop:=fun x lo hi H Q=>IrSlU K x lo hi H Q
theorem cutV_whole {xs:List V} {lo hi:Option Int} (h1:HT.sIx xs.length 0 lo=0) (h2:HT.sIx xs.length xs.length hi=xs.length):cutV xs lo hi=xs:=by
 unfold cutV
 rw [h1,h2]; simp
section
variable {X:Cx}
theorem catU (K:PySem.W.Frag) (hK:X.K=K):OpR X (binaryOp .Add) (rCatU K):=by
 subst hK
 intro pins s σ H x y v u Q I rx ry h
 obtain⟨a,b,xs,ys,rfl,rfl,ha,hb,hz,q⟩:=h
 cases rx
 cases ry
 obtain⟨its,r1,p1,_⟩:=I.tuple ha
 obtain⟨its2,r2,p2,_⟩:=I.tuple hb
 by_cases e0:xs=[]
 · subst e0
   have i0:its=[]:=r1.nil_iff.mpr rfl
   subst i0
   obtain⟨⟨cls,dd,data,sl⟩,ho,hc,n,hd⟩:=id p1
   obtain⟨⟨cls2,dd2,data2,sl2⟩,ho2,hc2,n2,hd2⟩:=id p2
   simp only at hc hd hc2 hd2
   subst hc hd hc2 hd2
   exact concat_meets ⟨_,ho,rfl⟩ ⟨_,ho2,rfl⟩ noFill_tuple_add seq_tuple_add PySem.F.slot_tuple_add PySem.F.entry_tuple_add (PySem.F.args_tuple_add_2 _ _)
     (tuple_addW0 a b _ its2.toArray n n2 dd dd2 sl sl2 (by simp)) ⟨ho,ho2,⟨.ref b,H,I,rfl,q _ _ (Same.refl H) hb⟩⟩
 · refine HT.cat_tup p1 p2 (fun z=>e0 (r1.nil_iff.mp z)) (fun z=>⟨.ref a,H,I,rfl,?_⟩) (fun z=>?_) (by rw [<- r1.length,<- r2.length]; exact hz)
   · have e1:ys=[]:=r2.nil_iff.mp z
     subst e1
     exact q _ _ (Same.refl H) (by rw [List.append_nil]; exact ha)
   · have hf:H s.heap.objs.size=none:=I.hok.fresh (Nat.le_refl _)
     have nw:Nw H (upd H s.heap.objs.size (.tup (xs++ys))) s.heap.objs.size (.tup (xs++ys)):=.of hf
     refine⟨.ref s.heap.objs.size,_,I.laid (t':=s.toks) (o:=.tup (xs++ys)) (fun b ob q=>Heap.get?_push_of_some _ q) (Nat.le_refl _) ?_,rfl,q _ _ nw.same (SqT.of nw.at')⟩
     exact⟨by rw [List.length_append]; exact hz,_,r1.append r2,IsTup.new _ _⟩
theorem slU (K:PySem.W.Frag) (hK:X.K=K):SlR X (rSlU K):=by
 subst hK
 intro pins s σ H x v vl vu lo hi sl Q I rx hs pl pu h
 obtain⟨a,xs,rfl,ha',q⟩:=h
 by_cases hw:HT.sIx xs.length 0 lo=0/\HT.sIx xs.length xs.length hi=xs.length
 · cases rx
   obtain⟨its,r,ht,hz⟩:=I.tuple ha'
   have hlen:its.toArray.size=xs.length:=by rw [List.size_toArray]; exact r.length.symm
   refine⟨"tuple",_,PyProof.Rows.slot_tuple_getitem.lookup,ht.typeIs,?_⟩
   refine HT.getItem_tuple_whole ht hs pl pu (by rw [hlen]; exact hw) ⟨.ref a,H,I,rfl,q _ _ (Same.refl H) ?_⟩
   rw [cutV_whole hw.1 hw.2]; exact ha'
 · refine sl_tup pins s σ H _ v vl vu lo hi sl Q I rx hs pl pu ⟨a,xs,rfl,ha',hw,fun r hr=>?_⟩
   have nw:Nw H (upd H r (.tup (cutV xs lo hi))) r (.tup (cutV xs lo hi)):=.of hr
   exact q _ _ nw.same (SqT.of nw.at')
end
theorem cut_init (xs:List V):cutV xs none (some (-1))=xs.take (xs.length-1):=by
 unfold cutV
 have e:=HT.clip_eq (-1) xs.length xs.length
 rw [HT.sIx_none]
 have e2:HT.sIx xs.length xs.length (some (-1))=xs.length-1:=by
  simp at e
  omega
 rw [e2]; simp
end L2
namespace L2
open PySem PySem.Spec PyProof.Rows
end L2
set_option Elab.async false
set_option linter.all false
namespace L2
open PySem PySem.Spec PyProof.Rows
section
variable {X:Cx}
end
end L2
namespace L2
open PySem PySem.Spec PyProof PyProof.Rows
section
variable {X:Cx}
end
end L2
namespace L2
open PySem PySem.Spec PyProof.Rows
end L2
namespace L2
open PySem PySem.Spec PyProof.Rows
section
variable {K:PySem.W.Frag} {H H' H2:Hp}
end
end L2
set_option Elab.async false
set_option linter.all false
set_option maxRecDepth 100000
namespace L2
open PySem PySem.Spec PyProof.Rows
section
variable {X:Cx} {tg:Expr}
end
end L2
set_option Elab.async false
set_option linter.all false
set_option maxRecDepth 100000
namespace L2
open PySem PySem.Spec PyProof.Rows
section
variable {P:Program} {w:World} {K:PySem.W.Frag} {mg:Str->Option Value} {base:Heap}
end
section
variable {X:Cx} {k:Nat} {x m:Str} {C:Addr} {p pos apos:Pos} {o e:Expr} {es:List Expr} {t:TA} {ta:TE} {sp:Sp}
end
section
variable {K:PySem.W.Frag} {H H' H2:Hp}
end
end L2
set_option Elab.async false
set_option linter.all false
set_option maxRecDepth 100000
namespace L2
open PySem PySem.Spec PyProof.Rows
section
variable {X:Cx}
end
theorem gv_str {K:PySem.W.Frag} {mg:Str->Option Value} {x z:Str} {t:Tok} {h:Heap} (X:K.In h) (G:h.Ns mainGlobals mg) (a:PySem.W.nsIn K mainGlobals x=some (some (.str z t))):GV mg x (.str z):=⟨_,PySem.W.mg_of X G a,t,rfl⟩
end L2
set_option Elab.async false
set_option linter.all false
set_option maxRecDepth 100000
set_option exponentiation.threshold 6000
namespace L2
open PySem PySem.Spec PyProof.Rows
section
variable {X:Cx}
theorem call_str1:CallR X (.type "str") (fun xs H Q=>(∃i,xs=[.int i]/\i.natAbs.log2<1920/\Q (.str (toString i)) H) \/ ∃z,xs=[.str z]/\Q (.str z) H):=by
 intro pins s σ H xs us Q I r h
 rcases h with ⟨i,rfl,hz,q⟩ | ⟨z,rfl,q⟩
 · obtain⟨u,rfl,t,rfl⟩:=vals1 r
   exact PySem.P.str_of_int hz ⟨.str _,H,I.tok _,⟨_,rfl⟩,q⟩
 · obtain⟨u,rfl,t,rfl⟩:=vals1 r
   exact PySem.P.str_of_str ⟨.str _,H,I,⟨_,rfl⟩,q⟩
def rFv (x:V) (H:Hp) (Q:VK):Prop:=(∃i,x = .int i/\i.natAbs.log2<1920/\Q (.str (toString i)) H) \/ ∃z,x = .str z/\z.length<=sizeLine/\Q (.str z) H
theorem pe_fv {e:Expr} {te:TE} {pos:Pos} (h:PE X e te):PE X (.FormattedValue e (-1) none pos) (fun σ H Q=>te σ H fun x H'=>rFv x H' Q):=by
 intro pins s σ H Q I ht
 refine wpAny_FormattedValue_plain (thn (h pins s σ H _ I ht) fun v s1 ⟨x,H1,I1,r1,q1⟩=>?_)
 rcases q1 with ⟨i,rfl,hz,q⟩ | ⟨z,rfl,hz,q⟩
 · obtain⟨t,rfl⟩:=r1
   exact wpAny_formatField_int hz ⟨.str _,H1,I1.tok _,⟨_,rfl⟩,q⟩
 · obtain⟨t,rfl⟩:=r1
   exact wpAny_formatField_str ⟨.str _,H1,I1,⟨_,rfl⟩,q⟩ ⟨.str _,H1,I1.tok _,⟨_,rfl⟩,q⟩ hz
abbrev TJ:=Str->St->Hp->VK->Prop
def PJ (X:Cx) (es:List Expr) (t:TJ):Prop:=
 ∀ (pins:List (Addr × Obj)) (s:Shared) (σ : St) (H:Hp) (Q:VK) (acc:Str),Inv X pins σ H s->t acc σ H Q ->
   Joins (model X.prog X.w) X.A X.xe (evalEach es X.env) acc (fun out s₁=>out.length<=sizeLine/\EP X pins σ Q (.str out s₁.toks) { s₁ with toks:=s₁.toks+1 }) s
theorem pj_nil:PJ X [] (fun acc σ H Q=>acc.length<=sizeLine/\Q (.str acc) H):=by
 intro pins s σ H Q acc I h
 exact⟨h.1,.str _,H,I.tok _,⟨_,rfl⟩,h.2⟩
theorem pj_cons {e:Expr} {es:List Expr} {te:TE} {tj:TJ} (h:PE X e te) (hj:PJ X es tj) (he:evalEach (e::es) X.env=eval e X.env::evalEach es X.env:=by rfl) :
    PJ X (e::es) (fun acc σ H Q=>te σ H fun x H'=>∃y,x = .str y/\(acc++y).length<=sizeLine/\tj (acc++y) σ H' Q):=by
  intro pins s σ H Q acc I ht
  rw [he]
  refine thn (h pins s σ H _ I ht) fun v s1 ⟨x,H1,I1,r1,q1⟩=>?_
  obtain⟨y,rfl,hl,q⟩:=q1
  obtain⟨t,rfl⟩:=r1
  exact⟨y,t,rfl,hl,hj pins s1 σ H1 Q _ I1 q⟩
theorem pe_js {e1 e2:Expr} {es:List Expr} {t:TJ} {pos:Pos} (h:PJ X (e1::e2::es) t):PE X (.JoinedStr (e1::e2::es) pos) (fun σ H Q=>t Str.empty σ H Q):=
 fun pins s σ H Q I ht=>wpAny_JoinedStr (h pins s σ H Q _ I ht)
theorem join_len (sep:Str) {B:Nat}:∀(zs:List Str),(∀z∈zs,z.length<=B)->(Txt.join sep zs).length<=zs.length*(B+sep.length)
  | [],_=>Nat.zero_le _
  | a::r,h=>by
    show (Builtin.Str.glued sep (a::r)).length<=_
    rw [StrLaws.glued_eq_join,len_join_cons]
    have:=sumLen_le_of_bound id B (a::r) h
    rw [List.map_id] at this
    rw [List.length_cons] at this ⊢
    have e1:(r.length+1)*(B+sep.length)=B*(r.length+1)+(r.length*sep.length+sep.length):=by
     rw [Nat.mul_add,Nat.mul_comm (r.length+1) B,Nat.add_mul r.length 1 sep.length,Nat.one_mul]
    omega
inductive IrJoinT (K:PySem.W.Frag) (x:V) (vs:List V) (H:Hp) (Q:VK):Prop
  | mk (sep:Str) (l:Addr) (zs:List Str) (h0:x = .str sep) (h1:vs=[.ref l]) (h2:SqL K H l (zs.map V.str)) (h3:(∀z∈zs,z.length<=4000)) (h4:sep.length<=8) (h5:zs.length<=1000) (h6:Q (.str (Txt.join sep zs)) H):IrJoinT K x vs H Q
def rJoinT (K:PySem.W.Frag):V->List V->Hp->VK->Prop:=fun x vs H Q=>IrJoinT K x vs H Q
theorem mtJoinT (K:PySem.W.Frag) (hK:X.K=K):MtR X "str.join" (rJoinT K):=by
 subst hK
 intro pins s σ H x vs v us Q I rx rv h
 obtain⟨sep,l,zs,rfl,rfl,hl,hz,hs,hn,q⟩:=h
 obtain⟨t,rfl⟩:=rx
 obtain⟨u,rfl,ru⟩:=vals1 rv
 cases (show u=Value.ref l from ru)
 obtain⟨its,r,pl,_⟩:=I.list hl
 have hsum:=sumLen_le_of_bound id 4000 zs hz
 rw [List.map_id] at hsum
 have h1:zs.length*sep.length<=1000*8:=Nat.mul_le_mul hn hs
 refine join_list (ys:=zs) pl.isList (StrsAre.of_carried (carried_strs r)) (by omega) fun t' k=>?_
 exact⟨.str _,H,I.tok _,⟨_,rfl⟩,q⟩
theorem peJoinT (K:PySem.W.Frag) (h:X.K=K) {o e:Expr} {to:TE} {t:TA} {apos cpos:Pos} (ho:PE X o to) (ha:PA X [e] t)
    (hbase:attributeBase o "join" X.env (eval o X.env)=eval o X.env:=by rfl)
    (hfew:((backTo cpos (starEach [e] X.env)).all (fun x=>!x.1) && (backToKw cpos (keywordEach [] X.env)).all (fun x=>x.1.isSome)
      && decide ([e].length+([]:List Keyword).length+(if ([]:List Keyword).isEmpty then 0 else 1)<30))=true:=by rfl)
    (hline:(apos.endLine == cpos.line)=true:=by rfl) (hs:starEach [e] X.env=(false,eval e X.env)::starEach [] X.env:=by rfl) (hplain:(backTo cpos (starEach [] X.env)).any (·.1)=false:=by rfl) :
    PE X (.Call (.Attribute o "join" apos) [e] [] cpos) (tBM K "str" (rJoinT K) to t):=by
  subst h; exact pe_bm PySem.F.plainAttrs_str PySem.F.slot_str_join PySem.F.type_str_join (mtJoinT X.K rfl) ho ha hbase hfew hline hs hplain
theorem txt_len {i:Int} (h:i.natAbs<10^40):(Str.ofString (toString i)).length<=41:=by
 rw [PySem.ofString_length]
 exact int_text_length_le10 (k:=40) (by decide) h
theorem log_of {i:Int} (h:i.natAbs<10^40):i.natAbs.log2<1920:=by
 by_cases h0:i.natAbs=0
 · rw [h0]; decide
 · exact (Nat.log2_lt h0).mpr (Nat.lt_trans h (by decide))
end
end L2
set_option Elab.async false
set_option linter.all false
set_option maxRecDepth 100000
namespace L2
open PySem PySem.Spec PyProof.Rows
section
variable {X:Cx}
theorem carried_mk:∀(l:List (Str × Tok)),Vals ((l.map (·.1)).map V.str) (strValues l)
  | []=>.nil
  | (z,t)::l=>.cons ⟨t,rfl⟩ (carried_mk l)
theorem split_len (x y:Str):(Txt.split x y).length<=x.length+2:=by
 unfold Txt.split
 split
 · simp
 · split
   · simp
   · have e1:=StrLaws.occ_length_le x y 0 x.length (x.length+1)
     rw [length_partsBetween]; omega
inductive IrSplit (x:V) (vs:List V) (H:Hp) (Q:VK):Prop
  | mk (z y:Str) (h0:x = .str z) (h1:vs=[.str y]) (h2:(y.length == 0)=false) (h3:z.length+2<=sizeLine) (h4:∀p H',Nw H H' p (.lst ((Txt.split z y).map V.str))->Q (.ref p) H'):IrSplit x vs H Q
def rSplit:V->List V->Hp->VK->Prop:=fun x vs H Q=>IrSplit x vs H Q
theorem mtSplit:MtR X "str.split" rSplit:=by
 intro pins s σ H x0 vs v us Q I rx rv h
 obtain⟨x,y,rfl,rfl,hy,hz,q⟩:=h
 obtain⟨t,rfl⟩:=rx
 obtain⟨u0,rfl,u,rfl⟩:=vals1 rv
 have key:∀(l:List (Str × Tok)) (k:Nat),l.map (·.1)=Txt.split x y->EP X pins σ Q (.ref s.heap.objs.size) { s with toks:=k,heap:=s.heap.push { cls:=.type "list",data:=.seq (strValues l).toArray } }:=fun l k e=>by
  have nw:Nw H (upd H s.heap.objs.size (.lst ((Txt.split x y).map V.str))) s.heap.objs.size (.lst ((Txt.split x y).map V.str)):=.of (I.hok.fresh (Nat.le_refl _))
  refine⟨.ref s.heap.objs.size,_,I.laid (t':=k) (o:=.lst ((Txt.split x y).map V.str)) (fun b ob q=>Heap.get?_push_of_some _ q) (Nat.le_refl _) ?_,rfl,q _ _ nw⟩
  have:=split_len x y
  exact⟨by rw [List.length_map]; omega,_,0,by rw [<- e]; exact carried_mk l,Heap.get?_push_size _ rfl⟩
 cases h1:(decide (x.length<y.length) || decide (Builtin.Str.strKind x<Builtin.Str.strKind y))
 · cases hf:(Builtin.Str.occurrences x y 0 x.length (x.length+1)).isEmpty
   · have e1:=StrLaws.occ_length_le x y 0 x.length (x.length+1)
     refine call_meets F.slot_str_split (typeIs_str _ _ _) F.entry_str_split (F.args_str_split_2 _ _) (meets_str_split_sep x y t u h1 hy hf (by omega) (by rw [length_partsBetween]; omega)) ?_
     show wants _ _ _ { s with toks:=_,heap:=s.heap.push { cls:=.type "list",data:=.seq (strsFrom s.toks (Builtin.Str.partsBetween x (Builtin.Str.occurrences x y 0 x.length (x.length+1)) y.length)).toArray } }
     rw [strsFrom_eq]
     exact key (numbered s.toks _) _ ((numbered_texts _ _).trans ((if_neg (ne_true_of_eq_false h1)).trans (if_neg (ne_true_of_eq_false hf))).symm)
   · exact call_meets F.slot_str_split (typeIs_str _ _ _) F.entry_str_split (F.args_str_split_2 _ _) (meets_str_split_not_found x y t u h1 hy hf) (key [(x,t)] s.toks ((if_neg (ne_true_of_eq_false h1)).trans (if_pos hf)).symm)
 · exact call_meets F.slot_str_split (typeIs_str _ _ _) F.entry_str_split (F.args_str_split_2 _ _) (meets_str_split_cannot_occur x y t u h1) (key [(x,t)] s.toks (if_pos h1).symm)
theorem peSplit (K:PySem.W.Frag) (h:X.K=K) {o e:Expr} {to:TE} {t:TA} {apos cpos:Pos} (ho:PE X o to) (ha:PA X [e] t)
    (hbase:attributeBase o "split" X.env (eval o X.env)=eval o X.env:=by rfl)
    (hfew:((backTo cpos (starEach [e] X.env)).all (fun x=>!x.1) && (backToKw cpos (keywordEach [] X.env)).all (fun x=>x.1.isSome)
      && decide ([e].length+([]:List Keyword).length+(if ([]:List Keyword).isEmpty then 0 else 1)<30))=true:=by rfl)
    (hline:(apos.endLine == cpos.line)=true:=by rfl) (hs:starEach [e] X.env=(false,eval e X.env)::starEach [] X.env:=by rfl) (hplain:(backTo cpos (starEach [] X.env)).any (·.1)=false:=by rfl) :
    PE X (.Call (.Attribute o "split" apos) [e] [] cpos) (tBM K "str" rSplit to t):=by
  subst h; exact pe_bm PySem.F.plainAttrs_str PySem.F.slot_str_split PySem.F.type_str_split mtSplit ho ha hbase hfew hline hs hplain
inductive IrRmp (x:V) (vs:List V) (H:Hp) (Q:VK):Prop
  | mk (z y:Str) (h0:x = .str z) (h1:vs=[.str y]) (h3:z.length<=sizeLine) (h4:Q (.str (Txt.removeprefix z y)) H):IrRmp x vs H Q
def rRmp:V->List V->Hp->VK->Prop:=fun x vs H Q=>IrRmp x vs H Q
theorem mtRmp:MtR X "str.removeprefix" rRmp:=by
 intro pins s σ H x0 vs v us Q I rx rv h
 obtain⟨x,y,rfl,rfl,hz,q⟩:=h
 obtain⟨t,rfl⟩:=rx
 obtain⟨u0,rfl,u,rfl⟩:=vals1 rv
 exact SC.removeprefix (fun t' k=>⟨.str _,H,I.kept (t':=k) (fun _ _ e=>e),⟨_,rfl⟩,q⟩) (hsz:=hz)
theorem peRmp (K:PySem.W.Frag) (h:X.K=K) {o e:Expr} {to:TE} {t:TA} {apos cpos:Pos} (ho:PE X o to) (ha:PA X [e] t)
    (hbase:attributeBase o "removeprefix" X.env (eval o X.env)=eval o X.env:=by rfl)
    (hfew:((backTo cpos (starEach [e] X.env)).all (fun x=>!x.1) && (backToKw cpos (keywordEach [] X.env)).all (fun x=>x.1.isSome)
      && decide ([e].length+([]:List Keyword).length+(if ([]:List Keyword).isEmpty then 0 else 1)<30))=true:=by rfl)
    (hline:(apos.endLine == cpos.line)=true:=by rfl) (hs:starEach [e] X.env=(false,eval e X.env)::starEach [] X.env:=by rfl) (hplain:(backTo cpos (starEach [] X.env)).any (·.1)=false:=by rfl) :
    PE X (.Call (.Attribute o "removeprefix" apos) [e] [] cpos) (tBM K "str" rRmp to t):=by
  subst h; exact pe_bm PySem.F.plainAttrs_str PySem.F.slot_str_removeprefix PySem.F.type_str_removeprefix mtRmp ho ha hbase hfew hline hs hplain
inductive IrIntS (xs:List V) (H:Hp) (Q:VK):Prop
  | mk (z:Str) (n:Int) (h0:xs=[.str z]) (h1:PySem.intText? z=some n) (h2:z.length<=640) (h3:Q (.int n) H):IrIntS xs H Q
theorem call_intS:CallR X (.type "int") (fun xs H Q=>IrIntS xs H Q):=by
 intro pins s σ H xs us Q I r h
 obtain⟨z,n,rfl,hn,hl,q⟩:=h
 obtain⟨u,rfl,t,rfl⟩:=vals1 r
 exact PySem.W.KIN.call_text hn hl ⟨.int _,H,I.tok _,⟨_,rfl⟩,q⟩
end
section
variable {X:Cx}
inductive IgStar (K:PySem.W.Frag) (t1 t2:TG) (v:V) (σ : St) (H:Hp) (Q:St->Hp->Prop):Prop
  | mk (a:Addr) (x:V) (xs:List V) (h0:v = .ref a) (h1:SqL K H a (x::xs)) (h2:xs.length<=16000) (h3:∀p H',Nw H H' p (.lst xs)->t1 x σ H' fun σ1 H1=>t2 (.ref p) σ1 H1 Q):IgStar K t1 t2 v σ H Q
def gStar (K:PySem.W.Frag) (t1 t2:TG):TG:=fun v σ H Q=>IgStar K t1 t2 v σ H Q
theorem pgStar (K:PySem.W.Frag) (hK:X.K=K) {e1 e2:Expr} {k:Nat} {t1 t2:TG} {sp pos:Pos} (hc:X.calm=true) (h1:PG X e1 t1) (h2:PG X e2 t2)
    (hs:assignEach [e1,.Starred e2 sp] X.env=[(false,assign e1 X.env),(true,assign e2 X.env)]:=by rfl):PG X (.Tuple [e1,.Starred e2 sp] k pos) (gStar K t1 t2):=by
  subst hK
  intro pins s σ H v u Q I r hw
  obtain⟨a,x,xs,e,hq,hl,hw⟩:=hw
  subst e
  cases r
  obtain⟨its,rv,ht,hz⟩:=I.list hq
  have hh:X.A.handled=none:=I.ok.hd hc
  have hlist:=ht.isList
  cases rv with
  | cons r1 rr=>
    rename_i ux uxs
    have hlen:=rr.length
    have hlt:a≠s.heap.objs.size:=by obtain⟨o,ho,_⟩:=hlist; exact Nat.ne_of_lt (Heap.lt_size ho)
    rw [assign_Tuple]
    refine wpAny_bind (wpAny_standAt ?_)
    unfold unpack
    rw [hs]
    refine wpAny_bind (wpAny_holding ?_)
    show wpAny _ _ (unpackItems (.ref a) 2 (some 1)) _ _ _
    unfold unpackItems
    refine wpAny_bind ?_
    unfold notIterableAtAll
    refine wpAny_bind (wpAny_specialOf hlist.typeIs slot_list_iter.lookup ?_)
    refine wpAny_pure ?_
    simp only [Bool.false_eq_true,if_false]
    refine wpAny_bind (wpAny_holding (wpAny_pyIter_list hlist ?_))
    have sz:(ux::uxs).toArray.size=xs.length+1:=by rw [List.size_toArray,List.length_cons,hlen]
    refine wpAny_bind (wpAny_holding (PySem.W.kun_draw hlt 1 0 _ _ ⟨_,Heap.get?_push_size _ rfl,rfl,rfl⟩ (hlist.push _) (by omega) fun h₁ hit₁ hs₁=>?_))
    have hl₁ : h₁.IsList a (ux::uxs).toArray:=(hlist.push _).extBut hs₁.extBut hlt
    rw [Nat.zero_add] at hit₁
    have hit₁':=hit₁
    obtain⟨oi,hoi,_⟩:=hit₁'
    have hl₁':=hl₁
    obtain⟨ol,hol,_⟩:=hl₁'
    rw [if_neg (by simp)]
    refine wpAny_bind (wpAny_holding (PySem.W.kun_collect (s:={ s with heap:=h₁ }) (T:="list_iterator") (.inr (.inr (.inl rfl))) (Walks.list (A:=X.A.in1) hh s.heap.objs.size a hlt (ux::uxs).toArray) (fun j u st=>st.1.typeIs) (k:=1) (by omega) ⟨hit₁,hl₁⟩ (Heap.lt_size hoi) (Heap.lt_size hol) (fun h₂ tk hk=>?_) (by rw [sizeLine_eq]; omega)))
    have ea:(ux::uxs).toArray.toList.drop 1=uxs:=by simp
    rw [ea]
    show wpAny _ _ (if uxs.length<2-1-1 then _ else _) _ _ _
    rw [if_neg (by omega)]
    show wpAny _ _ (newList (uxs.take (uxs.length-(2-1-1))) >>= fun d=>pure ((ux::uxs).toArray.toList.take 1++[d]++uxs.drop (uxs.length-(2-1-1)))) _ _ _
    have eb:uxs.take (uxs.length-(2-1-1))=uxs:=List.take_of_length_le (by omega)
    have ec:uxs.drop (uxs.length-(2-1-1))=[]:=List.drop_eq_nil_of_le (by omega)
    rw [eb,ec]
    have he:Heap.ExtBut s.heap.objs.size s.heap h₂:=fun b o hb e=>hk b o hb (hs₁.extBut b o hb (Heap.get?_push_of_some _ e))
    refine wpAny_bind (wpAny_newList (s:={ s with heap:=h₂,toks:=tk }) (wpAny_pure ?_) ?_)
    · have I2:Inv X pins σ H { s with heap:=h₂,toks:=tk }:=I.kept (t':=tk) fun b o e=>he b o (Nat.ne_of_lt (Heap.lt_size e)) e
      have nw:Nw H (upd H h₂.objs.size (.lst xs)) h₂.objs.size (.lst xs):=.of (I2.hok.fresh (Nat.le_refl _))
      have I3:Inv X pins σ (upd H h₂.objs.size (.lst xs)) { s with heap:=h₂.push { cls:=.type "list",data:=.seq uxs.toArray },toks:=tk }:=I2.laid (t':=tk) (o:=.lst xs) (fun b ob q=>Heap.get?_push_of_some _ q) (Nat.le_refl _) ⟨by rw [List.length_cons] at hz; omega,uxs,0,rr,Heap.get?_push_size _ rfl⟩
      show wpAny _ _ (assignInOrder (assign e1 X.env::[assign e2 X.env]) (ux::[Value.ref h₂.objs.size])) _ _ _
      refine assignInOrder_cons (thn (h1 pins _ σ _ _ _ _ I3 r1 (hw _ _ nw)) fun _ s1 ⟨σ1,H1,I1,q1⟩=>?_)
      refine assignInOrder_cons (thn (h2 pins s1 σ1 H1 (.ref h₂.objs.size) _ _ I1 rfl q1) fun _ s2 ⟨σ2,H2,I2,q2⟩=>?_)
      exact assignInOrder_nil ⟨σ2,H2,I2,q2⟩
    · rw [<- hlen,sizeLine_eq]; omega
end
end L2
set_option Elab.async false
set_option linter.all false
set_option maxRecDepth 100000
namespace Tm
open PySem PySem.Spec PyProof.Rows PySem.NumText
def Free (c:Nat) (z:Str):Prop:=c ∉ z.cps.toList
def gl (c:Nat):List (List Nat)->List Nat
  | []=>[]
  | [x]=>x
  | x::y::r=>x++c::gl c (y::r)
theorem gl_join (c:Nat):∀zs:List Str,(PySem.Str.join ⟨#[c]⟩ zs).cps.toList=gl c (zs.map fun z=>z.cps.toList)
  | []=>by simp [PySem.Str.join,PySem.Str.empty,gl]
  | [x]=>rfl
  | x::y::r=>by
    show ((x++⟨#[c]⟩)++PySem.Str.join ⟨#[c]⟩ (y::r)).cps.toList=_
    rw [PySem.Str.cps_append,PySem.Str.cps_append,Array.toList_append,Array.toList_append,gl_join c (y::r)]
    show (x.cps.toList++[c])++gl c _=x.cps.toList++c::gl c _
    rw [List.append_assoc]; rfl
theorem cut_at {c:Nat}:∀ {a b r s:List Nat},c ∉ a->c ∉ b->a++c::r=b++c::s->a=b/\r=s
  | [],[],r,s,_,_,e=>by simpa using e
  | [],y::b,r,s,_,h,e=>by simp at e; exact (h (by rw [e.1]; exact .head _)).elim
  | x::a,[],r,s,h,_,e=>by simp at e; exact (h (by rw [<- e.1]; exact .head _)).elim
  | x::a,y::b,r,s,h1,h2,e=>by
    simp only [List.cons_append,List.cons.injEq] at e
    obtain⟨e1,e2⟩:=cut_at (fun z=>h1 (.tail _ z)) (fun z=>h2 (.tail _ z)) e.2
    exact⟨by rw [e.1,e1],e2⟩
theorem gl_inj {c:Nat}:∀ {as bs:List (List Nat)},as≠[]->bs≠[]->(∀a∈as,c ∉ a)->(∀b∈bs,c ∉ b)->gl c as=gl c bs->as=bs
  | [],_,h,_,_,_,_=>(h rfl).elim
  | _,[],_,h,_,_,_=>(h rfl).elim
  | [a],[b],_,_,_,_,e=>by rw [show a=b from e]
  | [a],b::b'::r,_,_,ha,_,e=>by
    have:c∈a:=by rw [show a=b++c::gl c (b'::r) from e]; simp
    exact (ha a (.head _) this).elim
  | a::a'::r,[b],_,_,_,hb,e=>by
    have:c∈b:=by rw [<- show a++c::gl c (a'::r)=b from e]; simp
    exact (hb b (.head _) this).elim
  | a::a'::r,b::b'::s,_,_,ha,hb,e=>by
    obtain⟨e1,e2⟩:=cut_at (ha a (.head _)) (hb b (.head _)) (show a++c::gl c (a'::r)=b++c::gl c (b'::s) from e)
    rw [e1,gl_inj (by simp) (by simp) (fun x hx=>ha x (.tail _ hx)) (fun x hx=>hb x (.tail _ hx)) e2]
theorem cps_inj {x y:Str} (h:x.cps.toList=y.cps.toList):x=y:=PySem.Str.ext' (Array.toList_inj.mp h)
theorem map_inj:∀ {xs ys:List Str},xs.map (fun z=>z.cps.toList)=ys.map (fun z=>z.cps.toList)->xs=ys
  | [],[],_=>rfl
  | [],y::ys,h=>by simp at h
  | x::xs,[],h=>by simp at h
  | x::xs,y::ys,h=>by
    simp only [List.map_cons,List.cons.injEq] at h
    rw [cps_inj h.1,map_inj h.2]
theorem split_ne (x y:Str):Txt.split x y≠[]:=by
 unfold Txt.split
 split
 · simp
 · split
   · simp
   · rw [StrLaws.partsBetween_eq]
     obtain⟨p,r,e⟩:=StrLaws.partsFrom_ne x y.length 0 (Builtin.Str.occurrences x y 0 x.length (x.length+1))
     rw [e]; simp
theorem split_join {c:Nat} {zs:List Str} (hne:zs≠[]) (hf:∀z∈zs,Free c z):Txt.split (Txt.join ⟨#[c]⟩ zs) ⟨#[c]⟩=zs:=by
 have e:=StrLaws.join_split (Txt.join ⟨#[c]⟩ zs) ⟨#[c]⟩
 have fr:=StrLaws.split_free (Txt.join ⟨#[c]⟩ zs) c
 have e2:Txt.join ⟨#[c]⟩ zs=PySem.Str.join ⟨#[c]⟩ zs:=StrLaws.glued_eq_join _ _
 have e3:=congrArg (fun z:Str=>z.cps.toList) (e.trans e2)
 simp only [gl_join] at e3
 refine map_inj (gl_inj (by simpa using split_ne _ _) (by simpa using hne) (fun a ha=>?_) (fun b hb=>?_) e3)
 · obtain⟨z,hz,rfl⟩:=List.mem_map.mp ha
   exact fr z hz
 · obtain⟨z,hz,rfl⟩:=List.mem_map.mp hb
   exact hf z hz
theorem split_one {c:Nat} {z:Str} (h:Free c z):Txt.split z ⟨#[c]⟩=[z]:=split_join (zs:=[z]) (by simp) (fun y hy=>by rw [List.mem_singleton.mp hy]; exact h)
def numS (i:Int):Str:=Str.ofString (toString i)
def isFig (c:Nat):Bool:=decide (48<=c) && decide (c<=57)
def figs (z:Str):List Nat:=match z.cps.toList with
 | 45::r=>r
 | l=>l
def numIn? (z:Str):Option Int:=bif (figs z).isEmpty || !(figs z).all isFig then none else bif decide ((figs z)[0]? = some 48) && !decide (z = "0") then none else intText? z
theorem fig_dig {cs:List Nat} (h:cs.all isFig=true):AllDigits cs:=fun c hc=>by
 have:=List.all_eq_true.mp h c hc
 simpa [isFig] using this
theorem dig_fig {cs:List Nat} (h:AllDigits cs):cs.all isFig=true:=List.all_eq_true.mpr fun c hc=>by
 have:=h c hc
 simpa [isFig] using this
theorem cps_nat (m:Nat):(numS (m:Int)).cps.toList=(Nat.toDigits 10 m).map Char.toNat:=PySem.W.KIN.signs_num m
theorem cps_neg (m:Nat):(numS (Int.negSucc m)).cps.toList=45::(Nat.toDigits 10 (m+1)).map Char.toNat:=by
 unfold numS
 rw [signs_ofString]
 show ("-" ++ Nat.repr (m+1)).toList.map Char.toNat=_
 rw [String.toList_append,List.map_append,Nat.toList_repr]
 rfl
theorem dig_all (m:Nat):AllDigits ((Nat.toDigits 10 m).map Char.toNat):=fun c hc=>by
 obtain⟨ch,hch,e⟩:=List.mem_map.mp hc
 have r:=digit_range (Nat.isDigit_of_mem_toDigits (by decide) (by decide) hch)
 rw [<- e]
 exact r
theorem dig_ne (m:Nat):(Nat.toDigits 10 m).map Char.toNat≠[]:=fun e=>by
 have h:=toDigits_len_ge 10 m
 rw [List.map_eq_nil_iff.mp e] at h
 exact absurd h (by decide)
theorem dc_ne:∀d:Nat,d<10->d≠0->(Nat.digitChar d).toNat≠48:=by decide
theorem lead_ne (m:Nat) (h0:m≠0):((Nat.toDigits 10 m).map Char.toNat)[0]? ≠ some 48:=by
 induction m using Nat.strongRecOn with
 | _ m ih=>
   by_cases h:m<10
   · rw [Nat.toDigits_of_lt_base h]
     simpa using dc_ne m h h0
   · have hm:m % 10<10:=Nat.mod_lt m (by decide)
     have t:Nat.toDigits 10 (m / 10)++Nat.toDigits 10 (m % 10)=Nat.toDigits 10 (10*(m / 10)+m % 10):=Nat.toDigits_append_toDigits (by decide) (by omega) hm
     rw [Nat.div_add_mod] at t
     rw [<- t,List.map_append,List.getElem?_append_left (List.length_pos_iff.mpr (dig_ne _))]
     exact ih (m / 10) (by omega) (by omega)
theorem dig_head (m:Nat):((Nat.toDigits 10 m).map Char.toNat).head? ≠ some 45:=fun e=>by
 have:=dig_all m 45 (List.mem_of_mem_head? e)
 omega
theorem figs_of {z:Str} {l:List Nat} (h:z.cps.toList=l) (hh:l.head? ≠ some 45):figs z=l:=by
 unfold figs
 rw [h]
 split
 · simp at hh
 · rfl
theorem figs_nat (m:Nat):figs (numS (m:Int))=(Nat.toDigits 10 m).map Char.toNat:=figs_of (cps_nat m) (dig_head m)
theorem figs_neg (m:Nat):figs (numS (Int.negSucc m))=(Nat.toDigits 10 (m+1)).map Char.toNat:=by
 unfold figs
 rw [cps_neg]
 rfl
theorem emp_ne (m:Nat):((Nat.toDigits 10 m).map Char.toNat).isEmpty=false:=by
 have:=dig_ne m
 cases h:(Nat.toDigits 10 m).map Char.toNat with
 | nil=>exact (this h).elim
 | cons=>rfl
theorem num_in {i:Int} (hl:(numS i).length<=4300):numIn? (numS i)=some i:=by
 unfold numIn?
 cases i with
 | ofNat m=>
   have ef:figs (numS (Int.ofNat m))=(Nat.toDigits 10 m).map Char.toNat:=figs_nat m
   have ec:(numS (Int.ofNat m)).cps.toList=(Nat.toDigits 10 m).map Char.toNat:=cps_nat m
   have e:=intText_digits (x:=numS (Int.ofNat m)) (by rw [ec]; exact dig_all m) (by rw [ec]; exact dig_ne m) hl
   rw [ec,PySem.W.KIN.val_back] at e
   rw [ef,dig_fig (dig_all m),emp_ne,e]
   have h2:(decide (((Nat.toDigits 10 m).map Char.toNat)[0]? = some 48) && !decide (numS (Int.ofNat m) = "0"))=false:=by
    by_cases h0:m=0
    · subst h0; decide +kernel
    · rw [decide_eq_false (lead_ne m h0)]; rfl
   rw [h2]; rfl
 | negSucc m=>
   have e:=intText_neg (x:=numS (Int.negSucc m)) (cps_neg m) (dig_all (m+1)) (dig_ne (m+1)) hl
   rw [PySem.W.KIN.val_back] at e
   rw [figs_neg,dig_fig (dig_all (m+1)),emp_ne,decide_eq_false (lead_ne (m+1) (by omega)),e]
   exact congrArg some (Int.negSucc_eq m).symm
theorem num_free {i:Int} {c:Nat} (h:c≠45) (h1:c<48):Free c (numS i):=fun hc=>by
 cases i with
 | ofNat m=>
   rw [show (numS (Int.ofNat m)).cps.toList=_ from cps_nat m] at hc
   have:=dig_all m c hc
   omega
 | negSucc m=>
   rw [cps_neg] at hc
   rcases List.mem_cons.mp hc with e | hc
   · exact h e
   · have:=dig_all (m+1) c hc
     omega
theorem int_some {z:Str} (h1:figs z≠[]) (h2:(figs z).all isFig=true) (hl:z.length<=4300):∃n,intText? z=some n:=by
 unfold figs at h1 h2
 split at h1
 · rename_i r h
   rw [h] at h2
   exact⟨_,intText_neg h (fig_dig h2) h1 hl⟩
 · rename_i h
   split at h2
   · rename_i r h'
     exact (h r h').elim
   · exact⟨_,intText_digits (fig_dig h2) h1 hl⟩
theorem rmp_figs (z:Str):(Txt.removeprefix z "-").cps.toList=figs z:=by
 rw [StrLaws.removeprefix_eq]
 have e1:(Str.ofString "-").cps.toList=[45]:=by decide +kernel
 have e2:(Str.ofString "-").length=1:=by decide +kernel
 have hn:z.cps.toList.length=z.length:=by simp [Str.length]
 rw [e2,StrLaws.subAt_eq,e1,e2,List.drop_zero]
 unfold figs
 cases hz:z.cps.toList with
 | nil=>
   rw [hz] at hn
   have h0:z.length=0:=hn.symm
   rw [if_neg (by simp)]
   exact hz
 | cons a r=>
   rw [hz] at hn
   simp only [List.length_cons] at hn
   by_cases ha:a=45
   · subst ha
     rw [if_pos (by simp; omega)]
     show ((List.drop 1 (45::r)).take _).toArray.toList=r
     rw [List.drop_one,List.tail_cons,List.take_of_length_le (by omega)]
   · rw [if_neg (by simp; intro _; exact fun e=>ha (by simpa using e))]
     rw [hz]
     split
     · rename_i h; simp at h; exact (ha h.1).elim
     · rfl
end Tm
set_option Elab.async false
set_option linter.all false
set_option maxRecDepth 100000
set_option maxHeartbeats 1000000
namespace Lw
open PySem PySem.Spec PyProof.Rows L2
def top (i:Nat):Stmt:=PySem.Challenge.pw_glidequeue_k53_items_read.main.body.getD i (.Pass ⟨0,0,0,0⟩)
section
variable {P:Program} {w:World} {K:PySem.W.Frag} {mg:Str->Option Value} {base:Heap}
inductive IspTake (vs:List V) (H:Hp) (Q:VK):Prop
  | mk (p:_) (many:_) (h0:vs=[.ref p,.int many]) (h1:IsBag H p) (h2:1<=many) (h3:many<=10^40) (h4:∀d H',0<=d->d<many->BagX p H H'->Q (.int d) H'):IspTake vs H Q
def spTake:Sp:=fun vs H Q _=>IspTake vs H Q
abbrev sTake:Stmt:=top 30
theorem scTake:FnScope ["_law_bag_here","_law_many","_law_digit","_law_number","_law_room"] ["_law_bag_here","_law_many"] (defScope sTake):=⟨rfl,rfl,rfl,by decide +kernel,rfl,by decide +kernel,by decide +kernel⟩
theorem ok_take (F:FA K mg "_law_take" sTake) (B:Blt mg):FnHas P w K mg base "_law_take" 1 spTake:=by
 refine F.has scTake (fun vs H Q E h=>?_) (fun _ _ _ _ _ _ us hl=>match us,hl with | [_,_],_=>rfl) (fun f cdv A outer s H vs Q E hr h=>?_)
 · obtain⟨p,many,rfl,_⟩:=h
   rfl
 · obtain⟨p,many,rfl,⟨c,m,hp,ok⟩,h1,h2,k⟩:=h
   obtain⟨c0,m0,m1⟩:=id ok
   have nd:=scTake.nd
   refine⟨_,(pss_cons (ps_if (pt_cmpR op_gt (pe_ix (ixK K rfl) (pv 0) pe_int (fun _ _=>rfl)) pe_int (nomark _))
   (pss_cons (ps_set (i:=2) nd rfl (Or.inl rfl) (pe_op op_mod (pe_ix (ixK K rfl) (pv 0) pe_int (fun _ _=>rfl)) (pv 1)))
   (pss_cons (ps_asg (pe_op op_fdivW (pe_ix (ixK K rfl) (pv 0) pe_int (fun _ _=>rfl)) (pv 1)) (pg_sub (pv 0) pe_int set_list))
   (pss_one (ps_ret (pv 2)))))
   pss_nil)
   (pss_cons (ps_set (i:=3) nd rfl (Or.inl rfl) pe_int)
   (pss_cons (ps_set (i:=4) nd rfl (Or.inl rfl) pe_int)
   (pss_cons (ps_while PassesOwn.never (pt_cmpR op_lt (pv 4) (pv 1) (nomark _))
   (pss_cons (ps_asg (pe_op op_mod (pe_op op_pow (pe_op op_add (pe_op op_mulG (pe_ix (ixK K rfl) (pv 0) pe_int (fun _ _=>rfl)) pe_int) pe_int) pe_int) pe_int) (pg_sub (pv 0) pe_int set_list))
   (pss_cons (ps_set (i:=3) nd rfl (Or.inl rfl) (pe_op op_add (pe_op op_mulG (pv 3) pe_int) (pe_op op_mod (pe_op op_mulG (pe_op op_fdivW (pe_ix (ixK K rfl) (pv 0) pe_int (fun _ _=>rfl)) pe_int) pe_int) pe_int)))
   (pss_one (ps_set (i:=4) nd rfl (Or.inl rfl) (pe_op op_mulG (pv 4) pe_int))))))
   (pss_one (ps_ret (pe_op op_mod (pv 3) (pv 1)))))))),?_⟩
   refine⟨_,rfl,.inl ⟨p,_,0,.int c,rfl,rfl,SqL.of hp,rfl,_,_,rfl,rfl,_,rfl,?_⟩⟩
   refine ite2 (fun hc=>?_) (fun _=>?_)
   · refine⟨_,rfl,.inl ⟨p,_,0,.int c,rfl,rfl,SqL.of hp,rfl,_,rfl,_,_,rfl,rfl,h1,?_⟩⟩
     refine⟨_,rfl,.inl ⟨p,_,0,.int c,rfl,rfl,SqL.of hp,rfl,_,rfl,_,_,rfl,rfl,⟨h1,wd40 (by omega) h2⟩,?_⟩⟩
     refine⟨_,rfl,p,_,0,0,rfl,rfl,hp,rfl,?_⟩
     refine⟨_,rfl,?_⟩
     exact k _ _ (Int.emod_nonneg _ (by omega)) (Int.emod_lt_of_pos _ (by omega)) (BagX.upd ⟨Int.ediv_nonneg c0 (by omega),m0,m1⟩)
   · refine while_by (fun σ H2=>∃(v:Option V) (n r:Int),σ = [some (.ref p),some (.int many),v,some (.int n),some (.int r)]/\BagX p H H2/\1<=r) (fun σ _=>match σ with | [_,_,_,_,some (.int r)]=>(many-r).toNat | _=>0) ?_ ?_ ?_
     · exact⟨none,0,1,rfl,.refl ⟨c,m,hp,ok⟩,Int.le_refl _⟩
     · rintro σ H2 ⟨v,n,r,rfl,bx,hr1⟩
       obtain⟨c',m',hp',c0',m0',m1'⟩:=id bx.bag
       refine⟨_,rfl,_,rfl,_,_,rfl,rfl,_,rfl,?_⟩
       refine ite2 (fun hc=>?_) (fun hc=>?_)
       · have hlt:r<many:=of_decide_eq_true hc
         refine⟨_,rfl,.inl ⟨p,_,1,.int m',rfl,rfl,SqL.of hp',rfl,_,_,rfl,rfl,.of_right (intBits_le_64 (by decide) (by decide)),_,_,rfl,rfl,_,_,rfl,rfl,⟨by decide,by decide,?_⟩,_,_,rfl,rfl,(by show (0:Int)<2147483629; decide),?_⟩⟩
         · have h64:(2:Nat)^64=18446744073709551616:=by decide
           rw [h64]; omega
         refine⟨_,rfl,p,_,1,1,rfl,rfl,hp',rfl,?_⟩
         have g0:0<=((m'*48271+7919)^(3:Int).toNat) % 2147483629:=Int.emod_nonneg _ (by decide)
         have g1:((m'*48271+7919)^(3:Int).toNat) % 2147483629<2147483629:=Int.emod_lt_of_pos _ (by decide)
         have bx2:BagX p H (L2.upd H2 p (.lst [.int c',.int (((m'*48271+7919)^(3:Int).toNat) % 2147483629)])):=bx.trans (.upd ⟨c0',g0,Int.lt_trans g1 (by decide)⟩)
         refine⟨_,rfl,_,_,rfl,rfl,.of_right (intBits_le_64 (by decide) (by decide)),_,rfl,.inl ⟨p,_,1,.int _,rfl,rfl,SqL.of upd_same,rfl,_,_,rfl,rfl,⟨by decide,wd40 (by decide) (by decide)⟩,_,_,rfl,rfl,.of_right (intBits_le_64 (by decide) (by decide)),_,_,rfl,rfl,(by show (0:Int)<1073741789; decide),_,_,rfl,rfl,?_⟩⟩
         refine⟨_,rfl,_,_,rfl,rfl,.of_right (intBits_le_64 (by decide) (by decide)),?_⟩
         refine⟨⟨v,_,_,rfl,bx2,?_⟩,?_⟩
         · omega
         · show (many-r*1073741789).toNat<(many-r).toNat
           omega
       · refine⟨_,rfl,_,rfl,_,_,rfl,rfl,h1,?_⟩
         exact k _ _ (Int.emod_nonneg _ (by omega)) (Int.emod_lt_of_pos _ (by omega)) bx
     · rintro σ H2 Q1 Q2 hq ⟨v1,e1,v2,e2,i,j,e3,e4,kk,e5,q⟩
       exact⟨v1,e1,v2,e2,i,j,e3,e4,kk,e5,hq _ _ q⟩
end
end Lw
set_option Elab.async false
set_option linter.all false
set_option maxRecDepth 100000
set_option maxHeartbeats 1000000
namespace Lw
open PySem PySem.Spec PyProof.Rows L2
section
variable {P:Program} {w:World} {K:PySem.W.Frag} {mg:Str->Option Value} {base:Heap}
inductive IspBag (K:PySem.W.Frag) (vs:List V) (H:Hp) (Q:VK):Prop
  | mk (a:Addr) (ns:List Int) (at':Int) (h0:vs=[.ref a,.int at']) (h1:SqL K H a (ns.map V.int)) (h2:ns.length<=63) (h3:0<=at') (h4:at'<=100) (h5:∀p H',H p=none->IsBag H' p->Same H H'->Q (.ref p) H'):IspBag K vs H Q
def spBag (K:PySem.W.Frag):Sp:=fun vs H Q _=>IspBag K vs H Q
abbrev sBag:Stmt:=top 29
theorem scBag:FnScope ["_law_script","_law_at","_law_cell","_law_mix","_law_k"] ["_law_script","_law_at"] (defScope sBag):=⟨rfl,rfl,rfl,by decide +kernel,rfl,by decide +kernel,by decide +kernel⟩
theorem ints_at {ns:List Int} {j:Nat} (h:j<ns.length):∃z,atI (ns.map V.int) (j:Int)=some (.int z):=
 ⟨ns[j],atI_nat (by simp [h])⟩
theorem ok_bag (F:FA K mg "_law_bag" sBag) (B:Blt mg):FnHas P w K mg base "_law_bag" 1 (spBag K):=by
 refine F.has scBag (fun vs H Q E h=>?_) (fun _ _ _ _ _ _ us hl=>match us,hl with | [_,_],_=>rfl) (fun f cdv A outer s H vs Q E hr h=>?_)
 · obtain⟨a,ns,at',rfl,_⟩:=h
   rfl
 · obtain⟨a,ns,at',rfl,hS,hlen,h0,h1,k⟩:=h
   obtain⟨j,rfl⟩ : ∃j:Nat,at'=(j:Int):=⟨at'.toNat,by omega⟩
   have nd:=scBag.nd
   refine⟨_,(pss_cons (ps_set (i:=2) nd rfl (Or.inl rfl) pe_int)
   (pss_cons (ps_mid (ps_if (pt_cmpR op_lt (pv 1) (pe_callB (x:="len") (lenK K rfl) rfl (B.at "len") PySem.boot_len (pa_cons (pv 0) pa_nil)) (nomark _))
   (pss_one (ps_set (i:=2) nd rfl (Or.inl rfl) (pe_callB (x:="abs") call_abs rfl (B.at "abs") PyProof.Rows.boot_abs (pa_cons (pe_ix (ixK K rfl) (pv 0) (pv 1) (fun _ _=>rfl)) pa_nil))))
   pss_nil))
   (pss_cons (ps_set (i:=3) nd rfl (Or.inl rfl) (pe_op op_add (pe_op op_add (pe_op op_mulG (pe_op op_mulG pe_int (pv 1)) (pv 1)) (pe_op op_mulG pe_int (pv 1))) pe_int))
   (pss_cons (ps_for PassesOwn.never rfl (pi_range1 rfl (B.at "range") (pa_cons (pe_callB (x:="min") (call_min2 rfl) rfl (B.at "min") PyProof.Rows.boot_min (pa_cons (pe_callB (x:="len") (lenK K rfl) rfl (B.at "len") PySem.boot_len (pa_cons (pv 0) pa_nil)) (pa_cons pe_int pa_nil))) pa_nil)) (pg_name (i:=4) nd rfl (Or.inl rfl))
   (pss_one (ps_set (i:=3) nd rfl (Or.inl rfl) (pe_op op_mod (pe_op op_pow (pe_op op_add (pe_op op_add (pe_op op_mulG (pv 3) pe_int) (pe_op op_mod (pe_ix (ixK K rfl) (pv 0) (pv 4) (fun _ _=>rfl)) pe_int)) (pe_op op_mulG (pv 4) (pv 4))) pe_int) pe_int))))
   (pss_cons (ps_mid (ps_if (pt_cmpR op_lt (pv 2) (pe_op op_pow pe_int pe_int) (nomark _))
   (pss_one (ps_set (i:=2) nd rfl (Or.inl rfl) pe_int))
   pss_nil))
   (pss_one (ps_ret (pe_lstA (pa_cons (pv 2) (pa_cons (pv 3) pa_nil)))))))))),?_⟩
   refine⟨fun σ H'=>H'=H /\ ∃c:Int,σ = [some (.ref a),some (.int (j:Int)),some (.int c),none,none]/\0<=c,?_,?_⟩
   · refine⟨_,rfl,_,rfl,a,_,rfl,.inl hS,_,_,rfl,rfl,_,rfl,?_⟩
     refine ite2 (fun hc=>?_) (fun _=>?_)
     · have hj:(j:Int)<((ns.map V.int).length:Int):=of_decide_eq_true hc
       rw [List.length_map] at hj
       obtain⟨z,hz⟩:=ints_at (ns:=ns) (j:=j) (by omega)
       refine⟨_,rfl,_,rfl,.inl ⟨a,_,_,_,rfl,rfl,hS,hz,z,rfl,?_⟩⟩
       exact⟨rfl,_,rfl,by split <;> omega⟩
     · exact⟨rfl,0,rfl,Int.le_refl _⟩
   rintro σ H' ⟨rfl,c,rfl,c0⟩
   refine⟨_,rfl,_,_,rfl,rfl,.of_left (intBits_le_64 (by decide) (by decide)),_,rfl,_,_,rfl,rfl,.of_right (intBits_le_64 (by omega) (by omega)),_,rfl,_,_,rfl,rfl,.of_left (intBits_le_64 (by decide) (by decide)),_,_,rfl,rfl,_,_,rfl,rfl,?_⟩
   refine⟨_,rfl,a,_,rfl,.inl hS,_,_,rfl,_,rfl,?_,?_,?_⟩
   · split <;> omega
   · split <;> (try rw [List.length_map]) <;> omega
   refine for_range (Pv:=fun i σ H2=>H2=H' /\ ∃(m:Int) (v:Option V),σ = [some (.ref a),some (.int (j:Int)),some (.int c),some (.int m),v]/\0<=m/\m<2147483648) ?_ ?_ ?_
   · refine⟨rfl,_,none,rfl,?_,?_⟩
     · have:(0:Int)<=(j:Int)*(j:Int):=Int.mul_nonneg (by omega) (by omega)
       rw [Int.mul_assoc]; omega
     · have:(j:Int)*(j:Int)<=100*100:=Int.mul_le_mul (by omega) (by omega) (by omega) (by omega)
       rw [Int.mul_assoc]; omega
   · rintro i σ H2 hi ⟨rfl,m,v,rfl,m0,m1⟩
     have hi':i<ns.length:=by
      rw [List.length_map] at hi
      split at hi <;> omega
     obtain⟨z,hz⟩:=ints_at (ns:=ns) (j:=i) hi'
     rw [<- Int.zero_add (i:Int)] at hz
     have hz0:0<=z % 2147483647:=Int.emod_nonneg _ (by decide)
     have hz1:z % 2147483647<2147483647:=Int.emod_lt_of_pos _ (by decide)
     have hii0:(0:Int)<=(0+(i:Int))*(0+(i:Int)):=Int.mul_nonneg (by omega) (by omega)
     have hii:(0+(i:Int))*(0+(i:Int))<=100*100:=Int.mul_le_mul (by omega) (by omega) (by omega) (by omega)
     refine⟨_,rfl,_,_,rfl,rfl,.of_right (intBits_le_64 (by decide) (by decide)),_,rfl,_,rfl,.inl ⟨a,_,_,_,rfl,rfl,hS,hz,_,_,rfl,rfl,(by show (0:Int)<2147483647; decide),_,_,rfl,rfl,_,rfl,_,rfl,_,_,rfl,rfl,.of_right (intBits_le_64 (by omega) (by omega)),_,_,rfl,rfl,_,_,rfl,rfl,⟨by decide,by decide,?_⟩,_,_,rfl,rfl,(by show (0:Int)<2147483629; decide),?_⟩⟩
     · have h64:(2:Nat)^64=18446744073709551616:=by decide
       rw [h64]
       generalize (0+(i:Int))*(0+(i:Int))=ii at hii0 hii ⊢
       generalize z % 2147483647=zz at hz0 hz1 ⊢
       omega
     · exact⟨rfl,_,_,rfl,Int.emod_nonneg _ (by decide),Int.lt_trans (Int.emod_lt_of_pos _ (by decide)) (by decide)⟩
   · rintro σ H2 ⟨rfl,m,v,rfl,m0,m1⟩
     refine⟨fun σ H3=>H3=H2 /\ ∃c:Int,σ = [some (.ref a),some (.int (j:Int)),some (.int c),some (.int m),v]/\0<=c,?_,?_⟩
     · refine⟨_,rfl,_,_,rfl,rfl,⟨by decide,by decide,by decide⟩,_,_,rfl,rfl,_,rfl,?_⟩
       refine ite2 (fun hc=>?_) (fun _=>?_)
       · exact⟨rfl,0,rfl,Int.le_refl _⟩
       · exact⟨rfl,c,rfl,c0⟩
     rintro σ H3 ⟨rfl,c,rfl,c0⟩
     refine⟨_,rfl,_,rfl,(by show 2<=sizeLine; decide),fun p H4 nw=>?_⟩
     exact k p H4 nw.no ⟨c,m,nw.at',c0,m0,m1⟩ nw.same
end
end Lw
set_option Elab.async false
set_option linter.all false
set_option maxRecDepth 100000
set_option maxHeartbeats 1000000
namespace Lw
open PySem PySem.Spec PyProof.Rows L2
section
variable {P:Program} {w:World} {K:PySem.W.Frag} {mg:Str->Option Value} {base:Heap}
end
end Lw
set_option Elab.async false
set_option linter.all false
set_option maxRecDepth 100000
set_option maxHeartbeats 1000000
namespace Lw
open PySem PySem.Spec PyProof.Rows L2
section
variable {P:Program} {w:World} {K:PySem.W.Frag} {mg:Str->Option Value} {base:Heap}
def isW (T:String):Bool:=tyIs T "int" && !tyIs T "bool"
inductive IspIsW (K:PySem.W.Frag) (vs:List V) (H:Hp) (Q:VK):Prop
  | mk (v:_) (T:_) (h0:vs=[v]) (h1:TyN K H v T) (h2:Q (.bl (isW T)) H):IspIsW K vs H Q
def spIsW (K:PySem.W.Frag):Sp:=fun vs H Q _=>IspIsW K vs H Q
end
end Lw
set_option Elab.async false
set_option linter.all false
set_option maxRecDepth 100000
set_option maxHeartbeats 1000000
namespace Lw
open PySem PySem.Spec PyProof.Rows L2
section
variable {P:Program} {w:World} {K:PySem.W.Frag} {mg:Str->Option Value} {base:Heap}
abbrev sLW:Stmt:=top 31
theorem scLW:FnScope ["_law_thing"] ["_law_thing"] (defScope sLW):=⟨rfl,rfl,rfl,by decide +kernel,rfl,by decide +kernel,by decide +kernel⟩
theorem ok_lw (F:FA K mg "_law_is_whole" sLW) (B:Blt mg):FnHas P w K mg base "_law_is_whole" 1 (spIsW K):=by
 refine F.has scLW (fun vs H Q E h=>?_) (fun _ _ _ _ _ _ us hl=>match us,hl with | [_],_=>rfl) (fun f cdv A outer s H vs Q E hr h=>?_)
 · obtain⟨v,T,rfl,_⟩:=h
   rfl
 · obtain⟨v,T,rfl,ty,k⟩:=h
   have nd:=scLW.nd
   refine⟨_,(pss_one (ps_ret (pe_and (pe_callB (x:="isinstance") (isiK K rfl) rfl (B.at "isinstance") PyProof.Rows.boot_isinstance (pa_cons (pv 0) (pa_cons (pe_bltn (x:="int") (v:=.ty "int") rfl (B.at "int") PyProof.Rows.boot_int rfl) pa_nil))) (pe_one (pe_not (pe_callB (x:="isinstance") (isiK K rfl) rfl (B.at "isinstance") PyProof.Rows.boot_isinstance (pa_cons (pv 0) (pa_cons (pe_bltn (x:="bool") (v:=.ty "bool") rfl (B.at "bool") PyProof.Rows.boot_bool rfl) pa_nil)))))))),?_⟩
   refine⟨_,rfl,.inl ⟨_,T,"int",_,rfl,ty,by decide,rfl,_,rfl,?_⟩⟩
   unfold isW at k
   refine ite2 (fun hc=>?_) (fun hc=>?_)
   · refine⟨_,rfl,.inl ⟨_,T,"bool",_,rfl,ty,by decide,rfl,_,rfl,?_⟩⟩
     rw [hc,Bool.true_and] at k
     exact k
   · rw [Bool.eq_false_iff.mpr hc,Bool.false_and] at k
     exact k
abbrev sIW:Stmt:=top 4
theorem scIW:FnScope ["thing"] ["thing"] (defScope sIW):=⟨rfl,rfl,rfl,by decide +kernel,rfl,by decide +kernel,by decide +kernel⟩
theorem ok_iw (F:FA K mg "is_whole" sIW) (B:Blt mg):FnHas P w K mg base "is_whole" 1 (spIsW K):=by
 refine F.has scIW (fun vs H Q E h=>?_) (fun _ _ _ _ _ _ us hl=>match us,hl with | [_],_=>rfl) (fun f cdv A outer s H vs Q E hr h=>?_)
 · obtain⟨v,T,rfl,_⟩:=h
   rfl
 · obtain⟨v,T,rfl,ty,k⟩:=h
   have nd:=scIW.nd
   refine⟨_,(pss_one (ps_ret (pe_and (pe_callB (x:="isinstance") (isiK K rfl) rfl (B.at "isinstance") PyProof.Rows.boot_isinstance (pa_cons (pv 0) (pa_cons (pe_bltn (x:="int") (v:=.ty "int") rfl (B.at "int") PyProof.Rows.boot_int rfl) pa_nil))) (pe_one (pe_not (pe_callB (x:="isinstance") (isiK K rfl) rfl (B.at "isinstance") PyProof.Rows.boot_isinstance (pa_cons (pv 0) (pa_cons (pe_bltn (x:="bool") (v:=.ty "bool") rfl (B.at "bool") PyProof.Rows.boot_bool rfl) pa_nil)))))))),?_⟩
   refine⟨_,rfl,.inl ⟨_,T,"int",_,rfl,ty,by decide,rfl,_,rfl,?_⟩⟩
   unfold isW at k
   refine ite2 (fun hc=>?_) (fun hc=>?_)
   · refine⟨_,rfl,.inl ⟨_,T,"bool",_,rfl,ty,by decide,rfl,_,rfl,?_⟩⟩
     rw [hc,Bool.true_and] at k
     exact k
   · rw [Bool.eq_false_iff.mpr hc,Bool.false_and] at k
     exact k
end
end Lw
set_option Elab.async false
set_option linter.all false
set_option maxRecDepth 100000
set_option maxHeartbeats 1000000
namespace Lw
open PySem PySem.Spec PyProof.Rows L2 Ln
section
variable {P:Program} {w:World} {K:PySem.W.Frag} {mg:Str->Option Value} {base:Heap}
def lineD (ns:List Int) (sp:Int):PyData:=.tuple [.str "line",.tuple (ns.map PyData.int),.int sp]
theorem lineD_no (ns:List Int) (sp:Int):noL (lineD ns sp)=true:=by simp [lineD,noL,noLs,noLs_ints]
structure OkL (ax:Nat) (m:Int) (ns:List Int):Prop where
 len:ns.length=ax
 bd:∀z∈ns,(z.natAbs:Int)<=m
 nz:∃z∈ns,z≠0
theorem line_inv {H:Hp} {v:V} {ns:List Int} {sp:Int} (h:RD K H v (lineD ns sp)):∃a b,v = .ref a/\SqT K H a [.str "line",.ref b,.int sp]/\SqT K H b (ns.map V.int):=by
 obtain⟨a,xs,rfl,h1,h2⟩:=h.tup_inv
 obtain⟨x1,r1,rfl,e1,h2⟩:=h2.cons_inv
 obtain⟨x2,r2,rfl,e2,h2⟩:=h2.cons_inv
 obtain⟨x3,r3,rfl,e3,h2⟩:=h2.cons_inv
 cases h2.nil_inv
 cases e1.str_inv
 cases e3.int_inv
 obtain⟨b,ys,rfl,h3,h4⟩:=e2.tup_inv
 rw [h4.ints_inv] at h3
 exact⟨a,b,rfl,h1,h3⟩
end
end Lw
set_option Elab.async false
set_option linter.all false
set_option maxRecDepth 100000
set_option maxHeartbeats 1000000
set_option exponentiation.threshold 6000
namespace Lw
open PySem PySem.Spec PyProof.Rows L2 Rt
section
variable {P:Program} {w:World} {K:PySem.W.Frag} {mg:Str->Option Value} {base:Heap}
end
end Lw
set_option Elab.async false
set_option linter.all false
set_option maxRecDepth 100000
set_option maxHeartbeats 1000000
set_option exponentiation.threshold 6000
namespace Lw
open PySem PySem.Spec PyProof.Rows L2 Rt Ln
section
variable {P:Program} {w:World} {K:PySem.W.Frag} {mg:Str->Option Value} {base:Heap}
def machD (rs:List Int) (r f j t:Int):PyData:=.tuple [.tuple (rs.map PyData.int),.int r,.int f,.int j,.int t]
theorem machD_no (rs:List Int) (r f j t:Int):noL (machD rs r f j t)=true:=by simp [machD,noL,noLs,noLs_ints]
theorem mach_inv {H:Hp} {v:V} {rs:List Int} {r f j t:Int} (h:RD K H v (machD rs r f j t)):∃a b,v = .ref a/\SqT K H a [.ref b,.int r,.int f,.int j,.int t]/\SqT K H b (rs.map V.int):=by
 obtain⟨a,xs,rfl,h1,h2⟩:=h.tup_inv
 obtain⟨x1,r1,rfl,e1,h2⟩:=h2.cons_inv
 obtain⟨x2,r2,rfl,e2,h2⟩:=h2.cons_inv
 obtain⟨x3,r3,rfl,e3,h2⟩:=h2.cons_inv
 obtain⟨x4,r4,rfl,e4,h2⟩:=h2.cons_inv
 obtain⟨x5,r5,rfl,e5,h2⟩:=h2.cons_inv
 cases h2.nil_inv
 cases e2.int_inv
 cases e3.int_inv
 cases e4.int_inv
 cases e5.int_inv
 obtain⟨b,ys,rfl,h3,h4⟩:=e1.tup_inv
 rw [h4.ints_inv] at h3
 exact⟨a,b,rfl,h1,h3⟩
structure OkM (rs:List Int) (r f j t:Int):Prop where
 len:rs.length=2 \/ rs.length=3
 rl:∀z∈rs,1<=z/\z<=100
 r1:1<=r/\r<=50
 f1:1<=f/\f<=50
 j1:1<=j/\j<=50
 t1:1<=t/\t<=100
inductive IspMach (K:PySem.W.Frag) (vs:List V) (H:Hp) (Q:VK):Prop
  | mk (p:_) (h0:vs=[.ref p]) (h1:IsBag H p) (h2:∀v rs r f j t H',RD K H' v (machD rs r f j t)->OkM rs r f j t->BagX p H H'->Q v H'):IspMach K vs H Q
def spMach (K:PySem.W.Frag):Sp:=fun vs H Q _=>IspMach K vs H Q
end
end Lw
set_option Elab.async false
set_option linter.all false
set_option maxRecDepth 100000
set_option maxHeartbeats 1000000
set_option exponentiation.threshold 6000
namespace Lw
open PySem PySem.Spec PyProof.Rows L2 Rt Ln
section
variable {P:Program} {w:World} {K:PySem.W.Frag} {mg:Str->Option Value} {base:Heap}
abbrev Itm:=Option (List Int × Int)
def itR (d:PyData) (o:Itm):Prop:=(∃ns sp,d=lineD ns sp/\o=some (ns,sp)) \/ ∃w x,d = .tuple [.str w,x]/\(w = "wait" \/ w = "tool" \/ w = "mark")/\noL x=true/\o=none
theorem it_word {H:Hp} {v:V} {d:PyData} {o:Itm} (h:RD K H v d) (i:itR d o):∃a w ys,v = .ref a/\SqT K H a (.str w::ys)/\(PyData.eqv (.str w) (.str "line")=o.isSome)/\SeqAt.shaped (.str w)=true:=by
 rcases i with ⟨ns,sp,rfl,rfl⟩ | ⟨w,x,rfl,hw,_,rfl⟩
 · obtain⟨a,b,rfl,h1,_⟩:=line_inv h
   exact⟨a,_,_,rfl,h1,(by show PyData.eqv (.str "line") (.str "line")=true; decide +kernel),by decide +kernel⟩
 · obtain⟨a,xs,rfl,h1,h2⟩:=h.tup_inv
   obtain⟨x1,r1,rfl,e1,h2⟩:=h2.cons_inv
   cases e1.str_inv
   refine⟨a,w,r1,rfl,h1,?_,?_⟩
   · show PyData.eqv (.str w) (.str "line")=false
     rcases hw with rfl | rfl | rfl <;> decide +kernel
   · rcases hw with rfl | rfl | rfl <;> decide +kernel
theorem lineW:SeqAt.shaped (.str "line")=true:=by decide +kernel
theorem it_line {d:PyData} {ns:List Int} {sp:Int} (h:itR d (some (ns,sp))):d=lineD ns sp:=by
 rcases h with ⟨ns',sp',e1,e2⟩ | ⟨_,_,_,_,_,e2⟩
 · cases e2; exact e1
 · cases e2
inductive IspIsLn (K:PySem.W.Frag) (vs:List V) (H:Hp) (Q:VK):Prop
  | mk (v:_) (d:_) (o:_) (h0:vs=[v]) (h1:RD K H v d) (h2:itR d o) (h3:Q (.bl o.isSome) H):IspIsLn K vs H Q
def spIsLn (K:PySem.W.Frag):Sp:=fun vs H Q _=>IspIsLn K vs H Q
abbrev sIsLn:Stmt:=top 14
theorem scIsLn:FnScope ["item"] ["item"] (defScope sIsLn):=⟨rfl,rfl,rfl,by decide +kernel,rfl,by decide +kernel,by decide +kernel⟩
theorem ok_isln (F:FA K mg "is_line" sIsLn) (B:Blt mg):FnHas P w K mg base "is_line" 1 (spIsLn K):=by
 refine F.has scIsLn (fun vs H Q E h=>?_) (fun _ _ _ _ _ _ us hl=>match us,hl with | [_],_=>rfl) (fun f cdv A outer s H vs Q E hr h=>?_)
 · obtain⟨v,d,o,rfl,_⟩:=h
   rfl
 · obtain⟨v,d,o,rfl,ri,it,k⟩:=h
   have nd:=scIsLn.nd
   refine⟨_,(pss_one (ps_ret (pe_cmpR (eqK K rfl hr.units) (pe_ix (ixK K rfl) (pv 0) pe_int (fun _ _=>rfl)) pe_str (nomark _)))),?_⟩
   obtain⟨a,wd,ys,rfl,h1,ew,sw⟩:=it_word ri it
   refine⟨_,rfl,.inr ⟨a,_,0,.str wd,rfl,rfl,h1,atI_of (Int.le_refl 0) rfl,.inr ⟨_,_,rd_str _,rd_str _,sw,lineW,?_⟩⟩⟩
   rw [ew]
   exact k
theorem strs_inv {H:Hp}:∀ {xs:List V} {zs:List Str},RDs K H xs (zs.map PyData.str)->xs=zs.map V.str
  | xs,[],h=>h.nil_inv
  | xs,n::ns,h=>by
    obtain⟨y,ys,rfl,h1,h2⟩:=h.cons_inv
    rw [h1.str_inv,strs_inv h2]; rfl
def abc:Str:="abcdefghijklmnopqrstuvwxyz"
theorem abc_len:abc.cps.toList.length=26:=by decide +kernel
end
end Lw
set_option Elab.async false
set_option linter.all false
set_option maxRecDepth 100000
set_option maxHeartbeats 1000000
set_option exponentiation.threshold 6000
namespace Lw
open PySem PySem.Spec PyProof.Rows L2 Rt Ln
section
variable {P:Program} {w:World} {K:PySem.W.Frag} {mg:Str->Option Value} {base:Heap}
theorem at_last {α : Type} {xs:List α} {x : α} (h:xs.getLast? = some x):atI xs (-1)=some x:=by
 unfold atI ixN
 have hl:xs≠[]:=by intro e; rw [e] at h; cases h
 have h0:0<xs.length:=List.length_pos_iff.mpr hl
 rw [if_neg (by decide),if_pos (by omega)]
 rw [List.getLast?_eq_getElem?] at h
 show xs[((-1:Int)+(xs.length:Int)).toNat]? = some x
 have e:((-1:Int)+(xs.length:Int)).toNat=xs.length-1:=by omega
 rw [e]; exact h
end
end Lw
set_option Elab.async false
set_option linter.all false
set_option maxRecDepth 100000
set_option maxHeartbeats 1000000
set_option exponentiation.threshold 6000
namespace Lw
open PySem PySem.Spec PyProof.Rows L2 Rt
section
variable {P:Program} {w:World} {K:PySem.W.Frag} {mg:Str->Option Value} {base:Heap}
end
end Lw
set_option Elab.async false
set_option linter.all false
set_option maxRecDepth 100000
set_option maxHeartbeats 1000000
namespace Lw
open PySem PySem.Spec PyProof.Rows L2
section
variable {P:Program} {w:World} {K:PySem.W.Frag} {mg:Str->Option Value} {base:Heap}
end
end Lw
set_option Elab.async false
set_option linter.all false
set_option maxRecDepth 100000
set_option maxHeartbeats 1000000
namespace Lw
open PySem PySem.Spec PyProof.Rows L2
section
variable {P:Program} {w:World} {K:PySem.W.Frag} {mg:Str->Option Value} {base:Heap}
theorem tyT:tyIs "tuple" "tuple" = true:=by decide
theorem whole_cases (d:PyData):(∃i,d = .int i/\isW (tyD d)=true) \/ (isW (tyD d)=false /\ ∀i,d ≠ .int i):=by
 cases d with
 | int i=>exact .inl ⟨i,rfl,by simp [tyD]; decide⟩
 | _=>exact .inr ⟨by simp [tyD]; decide,fun _ z=>nomatch z⟩
theorem tup_cases (d:PyData):(∃ds,d = .tuple ds) \/ (tyIs (tyD d) "tuple" = false /\ ∀ds,d ≠ .tuple ds):=by
 cases d with
 | tuple ds=>exact .inl ⟨ds,rfl⟩
 | _=>exact .inr ⟨by simp [tyD]; decide,fun _ z=>nomatch z⟩
def inW (lo hi:Int):PyData->Bool
  | .int i=>decide (lo<=i) && decide (i<=hi)
  | _=>false
theorem inW_no {lo hi:Int} {d:PyData} (h:∀i,d ≠ .int i):inW lo hi d=false:=by
 cases d <;> first | rfl | exact absurd rfl (h _)
inductive IspWW (K:PySem.W.Frag) (vs:List V) (H:Hp) (Q:VK):Prop
  | mk (v:_) (d:_) (lo:_) (hi:_) (h0:vs=[v,.int lo,.int hi]) (h1:RD K H v d) (h2:Q (.bl (inW lo hi d)) H):IspWW K vs H Q
def spWW (K:PySem.W.Frag):Sp:=fun vs H Q _=>IspWW K vs H Q
abbrev sWW:Stmt:=top 5
theorem scWW:FnScope ["thing","low","high"] ["thing","low","high"] (defScope sWW):=⟨rfl,rfl,rfl,by decide +kernel,rfl,by decide +kernel,by decide +kernel⟩
theorem ok_ww (F:FA K mg "is_whole_within" sWW) (B:Blt mg) (his_whole:FnHas P w K mg base "is_whole" 1 (spIsW K)):FnHas P w K mg base "is_whole_within" 2 (spWW K):=by
 refine F.has scWW (fun vs H Q E h=>?_) (fun _ _ _ _ _ _ us hl=>match us,hl with | [_,_,_],_=>rfl) (fun f cdv A outer s H vs Q E hr h=>?_)
 · obtain⟨v,d,lo,hi,rfl,_⟩:=h
   rfl
 · obtain⟨v,d,lo,hi,rfl,rd,k⟩:=h
   have nd:=scWW.nd
   refine⟨_,(pss_one (ps_ret (pe_and (pe_fn his_whole (hr.mono (by decide)) rfl (pa_cons (pv 0) pa_nil)) (pe_one (pe_chain op_le op_le (pv 1) (pv 0) (pv 2)))))),?_⟩
   refine⟨_,rfl,_,_,rfl,rd.ty,_,rfl,?_⟩
   rcases whole_cases d with ⟨i,rfl,e⟩ | ⟨e,hn⟩
   · cases rd.int_inv
     rw [e]
     refine iteT ?_
     have k:Q (.bl (decide (lo<=i) && decide (i<=hi))) H:=k
     refine⟨_,rfl,_,rfl,_,_,rfl,rfl,_,rfl,?_⟩
     refine ite2 (fun hc=>?_) (fun hc=>?_)
     · have hc':decide (lo<=i)=true:=hc
       rw [hc',Bool.true_and] at k
       exact⟨_,rfl,_,_,rfl,rfl,k⟩
     · have hc':decide (lo<=i)=false:=Bool.eq_false_iff.mpr hc
       rw [hc',Bool.false_and] at k
       exact k
   · rw [e]
     refine iteF ?_
     rw [inW_no hn] at k
     exact k
end
end Lw
set_option Elab.async false
set_option linter.all false
set_option maxRecDepth 100000
set_option maxHeartbeats 1000000
set_option exponentiation.threshold 6000
namespace Lw
open PySem PySem.Spec PyProof.Rows L2 Rt Ln Cn
section
variable {P:Program} {w:World} {K:PySem.W.Frag} {mg:Str->Option Value} {base:Heap}
end
end Lw
set_option Elab.async false
set_option linter.all false
set_option maxRecDepth 100000
set_option maxHeartbeats 1000000
set_option exponentiation.threshold 6000
namespace Lw
open PySem PySem.Spec PyProof.Rows L2 Rt Ln Cn Pn
section
variable {P:Program} {w:World} {K:PySem.W.Frag} {mg:Str->Option Value} {base:Heap}
end
end Lw
set_option Elab.async false
set_option linter.all false
set_option maxRecDepth 100000
set_option maxHeartbeats 1000000
set_option exponentiation.threshold 6000
namespace Lw
open PySem PySem.Spec PyProof.Rows L2 Rt Ln Cn Pn
section
variable {P:Program} {w:World} {K:PySem.W.Frag} {mg:Str->Option Value} {base:Heap}
end
end Lw
set_option Elab.async false
set_option linter.all false
set_option maxRecDepth 100000
set_option maxHeartbeats 1000000
set_option exponentiation.threshold 6000
namespace Lw
open PySem PySem.Spec PyProof.Rows L2 Rt Ln Cn Pn
section
variable {P:Program} {w:World} {K:PySem.W.Frag} {mg:Str->Option Value} {base:Heap}
end
end Lw
set_option Elab.async false
set_option linter.all false
set_option maxRecDepth 100000
set_option maxHeartbeats 1000000
set_option exponentiation.threshold 6000
namespace Lw
open PySem PySem.Spec PyProof.Rows L2 Rt Ln Cn Pn
section
variable {P:Program} {w:World} {K:PySem.W.Frag} {mg:Str->Option Value} {base:Heap}
end
end Lw
set_option Elab.async false
set_option linter.all false
set_option maxRecDepth 100000
set_option maxHeartbeats 1000000
set_option exponentiation.threshold 6000
namespace Lw
open PySem PySem.Spec PyProof.Rows L2 Rt Ln Cn Pn
section
variable {P:Program} {w:World} {K:PySem.W.Frag} {mg:Str->Option Value} {base:Heap}
end
end Lw
set_option Elab.async false
set_option linter.all false
set_option maxRecDepth 100000
set_option maxHeartbeats 1000000
set_option exponentiation.threshold 6000
namespace Lw
open PySem PySem.Spec PyProof.Rows L2 Rt Ln Wk
section
variable {P:Program} {w:World} {K:PySem.W.Frag} {mg:Str->Option Value} {base:Heap}
end
end Lw
set_option Elab.async false
set_option linter.all false
set_option maxRecDepth 100000
set_option maxHeartbeats 1000000
namespace Lw
open PySem PySem.Spec PyProof.Rows L2 Ln Wk
section
variable {P:Program} {w:World} {K:PySem.W.Frag} {mg:Str->Option Value} {base:Heap}
theorem mach_invE {H:Hp} {v:V} {rs:List Int} {es:List PyData} (h:RD K H v (.tuple (.tuple (rs.map PyData.int)::es))):∃a b ys,v = .ref a/\SqT K H a (.ref b::ys)/\SqT K H b (rs.map V.int):=by
 obtain⟨a,xs,rfl,h1,h2⟩:=h.tup_inv
 obtain⟨x1,r1,rfl,e1,h2⟩:=h2.cons_inv
 obtain⟨b,ys,rfl,h3,h4⟩:=e1.tup_inv
 rw [h4.ints_inv] at h3
 exact⟨a,b,r1,rfl,h1,h3⟩
def isT (z:Str):PyData->Bool
  | .str x=>x == z
  | _=>false
theorem eqv_T (z:Str) (d:PyData):PyData.eqv d (.str z)=isT z d:=by cases d <;> simp [PyData.eqv,isT]
theorem eqv_T' (z:Str) (d:PyData):PyData.eqv (.str z) d=isT z d:=by
 cases d <;> simp [PyData.eqv,isT]
 rw [Bool.eq_iff_iff]; simp; exact eq_comm
theorem str_cases (d:PyData):(∃z,d = .str z) \/ (tyIs (tyD d) "str" = false /\ ∀z,d ≠ .str z):=by
 cases d with
 | str z=>exact .inl ⟨z,rfl⟩
 | _=>exact .inr ⟨by simp [tyD]; decide,fun _ z=>nomatch z⟩
theorem tyS:tyIs "str" "str" = true:=by decide
def isSide (d:PyData):Bool:=isT "up" d || isT "down" d
def okC (c:Nat):Bool:=decide (97<=c) && decide (c<=122)
def isNm:PyData->Bool
  | .str x=>(decide (1<=x.length) && decide (x.length<=8)) && x.cps.toList.all okC
  | _=>false
def isShort (wd v:PyData):Bool:=if isT "wait" wd then inW 1 1000 v else if isT "tool" wd then isSide v else isT "mark" wd && isNm v
def nzD:PyData->Bool
  | .int i=>i != 0
  | _=>true
def okSt (n:Nat):PyData->Bool
  | .tuple ds=>(ds.length == n && ds.all (inW (-100) 100)) && ds.any nzD
  | _=>false
def isItm (n:Nat):PyData->Bool
  | .tuple [wd,a,b]=>isT "line" wd && (okSt n a && inW 1 20 b)
  | .tuple [wd,v]=>isShort wd v
  | _=>false
def shE:PyData->Bool
  | .str x=>decide (x.length<=900)
  | _=>true
def shT:PyData->Bool
  | .tuple ds=>ds.all shE
  | _=>true
inductive IspTx (f:PyData->Bool) (K:PySem.W.Frag) (vs:List V) (H:Hp) (Q:VK):Prop
  | mk (v:_) (d:_) (h0:vs=[v]) (h1:RD K H v d) (h2:shE d=true) (h3:∀H',Same H H'->Q (.bl (f d)) H'):IspTx f K vs H Q
def spTx (f:PyData->Bool) (K:PySem.W.Frag):Sp:=fun vs H Q _=>IspTx f K vs H Q
theorem sh_len {z:Str} (h:shE (.str z)=true):z.length<=900:=of_decide_eq_true h
theorem nat_le (n:Nat):decide ((1:Int)<=(n:Int))=decide (1<=n):=by rw [Bool.eq_iff_iff]; simp; omega
theorem nat_le8 (n:Nat):decide ((n:Int)<=8)=decide (n<=8):=by rw [Bool.eq_iff_iff]; simp; omega
theorem all_nat {l:List Nat} {f:Nat->Bool}:(l.map f).all id=l.all f:=by rw [List.all_map]; rfl
theorem abc_lo:∀c<128,decide (c∈abc.cps.toList)=okC c:=by decide +kernel
theorem abc_hi:∀c∈abc.cps.toList,c<128:=by decide +kernel
theorem abc_in (c:Nat):decide (c∈abc.cps.toList)=okC c:=by
 by_cases h:c<128
 · exact abc_lo c h
 · rw [decide_eq_false (fun hc=>h (abc_hi c hc)),okC,decide_eq_false (show ¬c<=122 by omega),Bool.and_false]
abbrev sIN:Stmt:=top 17
theorem scIN:FnScope ["thing"] ["thing"] (defScope sIN):=⟨rfl,rfl,rfl,by decide +kernel,rfl,by decide +kernel,by decide +kernel⟩
theorem ok_in (F:FA K mg "is_name" sIN) (B:Blt mg) (h_LONGEST_NAME:GV mg "LONGEST_NAME" (.int 8)) (h_LETTERS:GV mg "LETTERS" (.str abc)):FnHas P w K mg base "is_name" 1 (spTx isNm K):=by
 refine F.has scIN (fun vs H Q E h=>?_) (fun _ _ _ _ _ _ us hl=>match us,hl with | [_],_=>rfl) (fun f cdv A outer s H vs Q E hr h=>?_)
 · obtain⟨v,d,rfl,_⟩:=h
   rfl
 · obtain⟨v,d,rfl,rd,sh,k⟩:=h
   have nd:=scIN.nd
   refine⟨_,(pss_cons (ps_if (PW.pt (pw_or (pt_not (pt_val (pe_callB (x:="isinstance") (isiK K rfl) rfl (B.at "isinstance") PyProof.Rows.boot_isinstance (pa_cons (pv 0) (pa_cons (pe_bltn (x:="str") (v:=.ty "str") rfl (B.at "str") PyProof.Rows.boot_str rfl) pa_nil))))) (pw_or1 (pt_not (pt_chain op_le op_le pe_int (pe_callB (x:="len") call_len_str rfl (B.at "len") PySem.boot_len (pa_cons (pv 0) pa_nil)) (pe_gv (x:="LONGEST_NAME") rfl h_LONGEST_NAME))))))
   (pss_one (ps_ret pe_bl))
   pss_nil)
   (pss_one (ps_ret (pe_callB (x:="all") (allK K rfl rfl) rfl (B.at "all") PyProof.Rows.boot_all (pa_cons (pe_comp (N:=["letter"]) (js:=[none]) rfl rfl rfl (pi_str (pv 0)) (fun _ _ _ _ _=>(pg_name (i:=0) (show List.Nodup (["letter"]:List Str) by decide +kernel) rfl (Or.inl rfl))) (fun _ _ _ _ _=>pts_nil) (fun _ _ _ _ _=>(pe_cmpR op_in1 (pv 0) (pe_gv (x:="LETTERS") rfl h_LETTERS) (by with_unfolding_all rfl)))) pa_nil))))),?_⟩
   rcases str_cases d with ⟨z,rfl⟩ | ⟨ht,hn⟩
   · refine⟨_,rfl,.inl ⟨_,_,"str",true,rfl,rd.ty,by decide,tyS,_,rfl,iteF ?_⟩⟩
     cases rd.str_inv
     have hl:=sh_len sh
     have k:∀H',Same H H'->Q (.bl ((decide (1<=z.length) && decide (z.length<=8)) && z.cps.toList.all okC)) H':=k
     refine⟨_,rfl,z,rfl,Nat.le_trans hl (by decide),_,_,rfl,rfl,_,rfl,?_⟩
     refine ite2 (fun h1=>?_) (fun h1=>?_)
     · rw [<- nat_le,show decide ((1:Int)<=(z.length:Int))=true from h1,Bool.true_and] at k
       refine⟨_,_,rfl,rfl,_,rfl,?_⟩
       rw [nat_le8]
       cases e8:decide (z.length<=8) with
       | false=>
         rw [e8,Bool.false_and] at k
         exact iteT (k H (Same.refl _))
       | true=>
         rw [e8,Bool.true_and] at k
         refine iteF ⟨_,rfl,z,rfl,fun D H0 nw=>?_⟩
         refine comp_blS (f:=okC) [] nw (by omega) (fun c H2 Q' hc s2 hq=>?_) (fun H2 s2 d2=>?_)
         · refine⟨_,rfl,c,abc,rfl,rfl,?_⟩
           rw [abc_in]
           exact hq _ (Same.refl _)
         · refine⟨D,_,rfl,SqL.of d2,?_⟩
           rw [all_nat]
           exact k H2 s2
     · rw [<- nat_le,show decide ((1:Int)<=(z.length:Int))=false from Bool.eq_false_iff.mpr h1,Bool.false_and,Bool.false_and] at k
       exact⟨_,rfl,iteT (k H (Same.refl _))⟩
   · have e:isNm d=false:=by cases d <;> first | rfl | exact absurd rfl (hn _)
     rw [e] at k
     refine⟨_,rfl,.inl ⟨_,_,"str",false,rfl,rd.ty,by decide,ht,_,rfl,iteT ?_⟩⟩
     exact k H (Same.refl _)
inductive IspSho (K:PySem.W.Frag) (vs:List V) (H:Hp) (Q:VK):Prop
  | mk (x:_) (v:_) (wd:_) (d:_) (h0:vs=[x,v]) (h1:RD K H x wd) (h2:RD K H v d) (h3:OkD 8 wd) (h4:OkD 8 d) (h5:shE d=true) (h6:∀H',Same H H'->Q (.bl (isShort wd d)) H'):IspSho K vs H Q
def spSho (K:PySem.W.Frag):Sp:=fun vs H Q _=>IspSho K vs H Q
theorem shp {d:PyData} (h:OkD 8 d):SeqAt.shaped d=true:=h.shaped (by decide)
abbrev sIS:Stmt:=top 16
theorem scIS:FnScope ["word","value"] ["word","value"] (defScope sIS):=⟨rfl,rfl,rfl,by decide +kernel,rfl,by decide +kernel,by decide +kernel⟩
theorem ok_is (F:FA K mg "is_short_item" sIS) (B:Blt mg) (h_LONGEST_WAIT:GV mg "LONGEST_WAIT" (.int 1000)) (gS:GT K mg "SIDES" [.str "up",.str "down"]) (his_whole_within:FnHas P w K mg base "is_whole_within" 2 (spWW K)) (his_name:FnHas P w K mg base "is_name" 1 (spTx isNm K)):FnHas P w K mg base "is_short_item" 3 (spSho K):=by
 refine F.has scIS (fun vs H Q E h=>?_) (fun _ _ _ _ _ _ us hl=>match us,hl with | [_,_],_=>rfl) (fun f cdv A outer s H vs Q E hr h=>?_)
 · obtain⟨x,v,wd,d,rfl,_⟩:=h
   rfl
 · obtain⟨x,v,wd,d,rfl,rw1,rd,okw,okd,sh,k⟩:=h
   have nd:=scIS.nd
   obtain⟨aS,h_SIDES,sqS⟩:=gS
   refine⟨_,(pss_cons (ps_if (pt_cmpR (eqK K rfl hr.units) (pv 0) pe_str (nomark _))
   (pss_one (ps_ret (pe_fn his_whole_within (hr.mono (by decide)) rfl (pa_cons (pv 1) (pa_cons pe_int (pa_cons (pe_gv (x:="LONGEST_WAIT") rfl h_LONGEST_WAIT) pa_nil))))))
   pss_nil)
   (pss_cons (ps_if (pt_cmpR (eqK K rfl hr.units) (pv 0) pe_str (nomark _))
   (pss_one (ps_ret (pe_cmpR (inDT K rfl (hr.units1)) (pv 1) (pe_gv (x:="SIDES") rfl h_SIDES) (by with_unfolding_all rfl))))
   pss_nil)
   (pss_one (ps_ret (pe_and (pe_cmpR (eqK K rfl hr.units) (pv 0) pe_str (nomark _)) (pe_one (pe_fn his_name (hr.mono (by decide)) rfl (pa_cons (pv 1) pa_nil)))))))),?_⟩
   have k:∀H',Same H H'->Q (.bl (if isT "wait" wd then inW 1 1000 d else if isT "tool" wd then isSide d else isT "mark" wd && isNm d)) H':=k
   refine⟨_,rfl,.inr ⟨_,_,rw1,rd_str _,shp okw,by decide +kernel,_,rfl,?_⟩⟩
   rw [eqv_T]
   cases e1:isT "wait" wd with
   | true=>
     rw [e1,if_pos rfl] at k
     exact iteT ⟨_,rfl,_,d,1,1000,rfl,rd,k H (Same.refl _)⟩
   | false=>
     rw [e1,if_neg Bool.false_ne_true] at k
     refine iteF ⟨_,rfl,.inr ⟨_,_,rw1,rd_str _,shp okw,by decide +kernel,_,rfl,?_⟩⟩
     rw [eqv_T]
     cases e2:isT "tool" wd with
     | true=>
       rw [e2,if_pos rfl] at k
       refine iteT ⟨_,rfl,aS,_,d,[.str "up",.str "down"],rfl,sqS H,rd,rds_cons (rd_str _) (rds_cons (rd_str _) rds_nil),shp okd,?_,?_⟩
       · intro e he
         rcases List.mem_cons.mp he with rfl | he
         · decide +kernel
         rcases List.mem_cons.mp he with rfl | he
         · decide +kernel
         · exact (List.not_mem_nil he).elim
       · have e:([.str "up",.str "down"]:List PyData).any (fun e=>PyData.eqv e d)=isSide d:=by
           rw [List.any_cons,List.any_cons,List.any_nil,eqv_T',eqv_T',Bool.or_false]; rfl
         rw [e]
         exact k H (Same.refl _)
     | false=>
       rw [e2,if_neg Bool.false_ne_true] at k
       refine iteF ⟨_,rfl,.inr ⟨_,_,rw1,rd_str _,shp okw,by decide +kernel,_,rfl,?_⟩⟩
       rw [eqv_T]
       cases e3:isT "mark" wd with
       | true=>
         rw [e3,Bool.true_and] at k
         exact iteT ⟨_,rfl,_,d,rfl,rd,sh,k⟩
       | false=>
         rw [e3,Bool.false_and] at k
         exact iteF (k H (Same.refl _))
theorem nz_ne (i:Int):(!decide (i=0))=(i != 0):=by rw [Bool.eq_iff_iff]; simp
theorem inW_int {lo hi:Int} {d:PyData} (h:inW lo hi d=true):∃i,d = .int i:=by
 cases d <;> simp [inW] at h
 exact⟨_,rfl⟩
theorem any_map' {ds:List PyData} {f:PyData->Bool}:(ds.map f).any id=ds.any f:=by rw [List.any_map]; rfl
inductive IspSt (K:PySem.W.Frag) (vs:List V) (H:Hp) (Q:VK):Prop
  | mk (m:V) (v:V) (rs:List Int) (es:List PyData) (d:PyData) (h0:vs=[m,v]) (h1:RD K H m ((.tuple (.tuple (rs.map PyData.int)::es)))) (h2:RD K H v d) (h3:rs.length<=3) (h4:∀H',Same H H'->Q (.bl (okSt rs.length d)) H'):IspSt K vs H Q
def spSt (K:PySem.W.Frag):Sp:=fun vs H Q _=>IspSt K vs H Q
abbrev sAS:Stmt:=top 15
theorem scAS:FnScope ["machine","thing","rails"] ["machine","thing"] (defScope sAS):=⟨rfl,rfl,rfl,by decide +kernel,rfl,by decide +kernel,by decide +kernel⟩
theorem ok_as (F:FA K mg "are_steps" sAS) (B:Blt mg) (h_MOST_STEPS:GV mg "MOST_STEPS" (.int 100)) (his_whole_within:FnHas P w K mg base "is_whole_within" 2 (spWW K)):FnHas P w K mg base "are_steps" 3 (spSt K):=by
 refine F.has scAS (fun vs H Q E h=>?_) (fun _ _ _ _ _ _ us hl=>match us,hl with | [_,_],_=>rfl) (fun f cdv A outer s H vs Q E hr h=>?_)
 · obtain⟨m,v,rs,es,d,rfl,_⟩:=h
   rfl
 · obtain⟨m,v,rs,es,d,rfl,rm,rd,l3,k⟩:=h
   have nd:=scAS.nd
   refine⟨_,(pss_cons (ps_set (i:=2) nd rfl (Or.inl rfl) (pe_ix (ixK K rfl) (pv 0) pe_int (fun _ _=>rfl)))
   (pss_cons (ps_if (PW.pt (pw_or (pt_not (pt_val (pe_callB (x:="isinstance") (isiK K rfl) rfl (B.at "isinstance") PyProof.Rows.boot_isinstance (pa_cons (pv 1) (pa_cons (pe_bltn (x:="tuple") (v:=.ty "tuple") rfl (B.at "tuple") PyProof.Rows.boot_tuple rfl) pa_nil))))) (pw_or1 (pt_cmpR (neK K rfl hr.units) (pe_callB (x:="len") (lenK K rfl) rfl (B.at "len") PySem.boot_len (pa_cons (pv 1) pa_nil)) (pe_callB (x:="len") (lenK K rfl) rfl (B.at "len") PySem.boot_len (pa_cons (pv 2) pa_nil)) (nomark _)))))
   (pss_one (ps_ret pe_bl))
   pss_nil)
   (pss_cons (ps_if (pt_not (pt_val (pe_callB (x:="all") (allK K rfl rfl) rfl (B.at "all") PyProof.Rows.boot_all (pa_cons (pe_comp (N:=["step"]) (js:=[none]) rfl rfl rfl (piT K rfl (pv 1)) (fun _ _ _ _ _=>(pg_name (i:=0) (show List.Nodup (["step"]:List Str) by decide +kernel) rfl (Or.inl rfl))) (fun _ _ _ _ _=>pts_nil) (fun _ _ _ _ _=>(pe_fn his_whole_within (hr.mono (by decide)) rfl (pa_cons (pv 0) (pa_cons (pe_un un_neg (pe_gv (x:="MOST_STEPS") rfl h_MOST_STEPS)) (pa_cons (pe_gv (x:="MOST_STEPS") rfl h_MOST_STEPS) pa_nil)))))) pa_nil))))
   (pss_one (ps_ret pe_bl))
   pss_nil)
   (pss_one (ps_ret (pe_callB (x:="any") (anyK K rfl rfl) rfl (B.at "any") PyProof.Rows.boot_any (pa_cons (pe_comp (N:=["step"]) (js:=[none]) rfl rfl rfl (piT K rfl (pv 1)) (fun _ _ _ _ _=>(pg_name (i:=0) (show List.Nodup (["step"]:List Str) by decide +kernel) rfl (Or.inl rfl))) (fun _ _ _ _ _=>pts_nil) (fun _ _ _ _ _=>(pe_cmpR (neK K rfl hr.units) (pv 0) pe_int (nomark _)))) pa_nil))))))),?_⟩
   obtain⟨am,ar,ym,rfl,hm,har⟩:=mach_invE rm
   refine⟨_,rfl,.inr ⟨am,_,0,_,rfl,rfl,hm,atI_of (Int.le_refl 0) rfl,?_⟩⟩
   rcases tup_cases d with ⟨ds,rfl⟩ | ⟨ht,hn⟩
   · refine⟨_,rfl,.inl ⟨_,_,"tuple",true,rfl,rd.ty,by decide,tyT,_,rfl,iteF ?_⟩⟩
     obtain⟨av,xs,rfl,hx,hd⟩:=rd.tup_inv
     have hl:=hd.length
     refine⟨_,rfl,av,_,rfl,.inr hx,_,rfl,ar,_,rfl,.inr har,.inl ⟨_,_,rfl,rfl,_,rfl,?_⟩⟩
     have k:∀H',Same H H'->Q (.bl ((ds.length == rs.length && ds.all (inW (-100) 100)) && ds.any nzD)) H':=k
     have e0:(!decide ((xs.length:Int)=((rs.map V.int).length:Int))) = !(ds.length == rs.length):=by
      rw [hl,List.length_map]; congr 1; rw [Bool.eq_iff_iff]; simp; omega
     rw [e0]
     cases e:(ds.length == rs.length) with
     | false=>
       rw [e,Bool.false_and,Bool.false_and] at k
       exact iteT (k H (Same.refl _))
     | true=>
       rw [e,Bool.true_and] at k
       refine iteF ?_
       have el:ds.length=rs.length:=beq_iff_eq.mp e
       refine⟨_,rfl,av,rfl,⟨_,hx⟩,fun D H0 nw=>?_⟩
       refine comp_blT (xs:=xs) (bs:=ds.map (inW (-100) 100)) [] hx nw (by rw [List.length_map,hl]) (by omega) ?_ ?_
       · intro i x b H2 Q' ex eb s2 hq
         obtain⟨d,ed,rfl⟩:=map_get eb
         obtain⟨x',ex',rx⟩:=hd.get i ed
         rw [ex] at ex'
         cases ex'
         exact⟨_,rfl,_,rfl,_,d,-100,100,rfl,RD.mono s2 _ rx,hq _ (Same.refl _)⟩
       · intro H2 s2 d2
         refine⟨D,_,rfl,SqL.of d2,_,rfl,?_⟩
         rw [all_map]
         cases e1:ds.all (inW (-100) 100) with
         | false=>
           rw [e1,Bool.false_and] at k
           exact iteT (k H2 s2)
         | true=>
           rw [e1,Bool.true_and] at k
           refine iteF ⟨_,rfl,av,rfl,⟨_,hx.go s2⟩,fun D2 H3 n3=>?_⟩
           refine comp_blT (xs:=xs) (bs:=ds.map nzD) [] (hx.go s2) n3 (by rw [List.length_map,hl]) (by omega) ?_ ?_
           · intro i x b H4 Q' ex eb s4 hq
             obtain⟨d,ed,rfl⟩:=map_get eb
             obtain⟨x',ex',rx⟩:=hd.get i ed
             rw [ex] at ex'
             cases ex'
             obtain⟨z,rfl⟩:=inW_int (List.all_eq_true.mp e1 d (List.mem_of_getElem? ed))
             cases rx.int_inv
             refine⟨_,rfl,.inl ⟨_,_,rfl,rfl,?_⟩⟩
             show Q' (.bl (!decide (z=0))) H4
             rw [nz_ne]
             exact hq _ (Same.refl _)
           · intro H4 s4 d4
             refine⟨D2,_,rfl,SqL.of d4,?_⟩
             rw [any_map']
             exact k H4 (s2.trans s4)
   · have e:okSt rs.length d=false:=by cases d <;> first | rfl | exact absurd rfl (hn _)
     rw [e] at k
     refine⟨_,rfl,.inl ⟨_,_,"tuple",false,rfl,rd.ty,by decide,ht,_,rfl,iteT ?_⟩⟩
     exact k H (Same.refl _)
theorem item_cases (n:Nat) (d:PyData):(∃wd a b,d = .tuple [wd,a,b]) \/ (∃wd v,d = .tuple [wd,v]) \/ (∃ds,d = .tuple ds/\ds.length≠3/\ds.length≠2/\isItm n d=false) \/ (tyIs (tyD d) "tuple" = false/\isItm n d=false):=by
 rcases tup_cases d with ⟨ds,rfl⟩ | ⟨ht,hn⟩
 · match ds with
   | [r,a,b]=>exact .inl ⟨r,a,b,rfl⟩
   | [r,a]=>exact .inr (.inl ⟨r,a,rfl⟩)
   | []=>exact .inr (.inr (.inl ⟨_,rfl,by simp,by simp,by simp [isItm]⟩))
   | [_]=>exact .inr (.inr (.inl ⟨_,rfl,by simp,by simp,by simp [isItm]⟩))
   | _::_::_::_::_=>exact .inr (.inr (.inl ⟨_,rfl,by simp,by simp,by simp [isItm]⟩))
 · exact .inr (.inr (.inr ⟨ht,by cases d <;> first | rfl | exact absurd rfl (hn _)⟩))
inductive IspItm (K:PySem.W.Frag) (vs:List V) (H:Hp) (Q:VK):Prop
  | mk (m:V) (v:V) (rs:List Int) (es:List PyData) (d:PyData) (h0:vs=[m,v]) (h1:RD K H m ((.tuple (.tuple (rs.map PyData.int)::es)))) (h2:RD K H v d) (h3:rs.length<=3) (h4:OkD 8 d) (h5:shT d=true) (h6:∀H',Same H H'->Q (.bl (isItm rs.length d)) H'):IspItm K vs H Q
def spItm (K:PySem.W.Frag):Sp:=fun vs H Q _=>IspItm K vs H Q
theorem ok8 {ds:List PyData} (h:OkD 8 (.tuple ds)) {d:PyData} (hd:d∈ds):OkD 8 d:=((OkD.tup_inv (n:=7) h) d hd).le (by decide)
theorem sh8 {ds:List PyData} (h:shT (.tuple ds)=true) {d:PyData} (hd:d∈ds):shE d=true:=List.all_eq_true.mp (show ds.all shE=true from h) d hd
abbrev sII:Stmt:=top 13
theorem scII:FnScope ["machine","thing","word","steps","speed","value"] ["machine","thing"] (defScope sII):=⟨rfl,rfl,rfl,by decide +kernel,rfl,by decide +kernel,by decide +kernel⟩
theorem ok_ii (F:FA K mg "is_item" sII) (B:Blt mg) (h_GREATEST_SPEED:GV mg "GREATEST_SPEED" (.int 20)) (his_whole_within:FnHas P w K mg base "is_whole_within" 2 (spWW K)) (hare_steps:FnHas P w K mg base "are_steps" 3 (spSt K)) (his_short_item:FnHas P w K mg base "is_short_item" 3 (spSho K)):FnHas P w K mg base "is_item" 4 (spItm K):=by
 refine F.has scII (fun vs H Q E h=>?_) (fun _ _ _ _ _ _ us hl=>match us,hl with | [_,_],_=>rfl) (fun f cdv A outer s H vs Q E hr h=>?_)
 · obtain⟨m,v,rs,es,d,rfl,_⟩:=h
   rfl
 · obtain⟨m,v,rs,es,d,rfl,rm,rd,l3,okd,sh,k⟩:=h
   have nd:=scII.nd
   refine⟨_,(pss_cons (ps_if (pt_not (pt_val (pe_callB (x:="isinstance") (isiK K rfl) rfl (B.at "isinstance") PyProof.Rows.boot_isinstance (pa_cons (pv 1) (pa_cons (pe_bltn (x:="tuple") (v:=.ty "tuple") rfl (B.at "tuple") PyProof.Rows.boot_tuple rfl) pa_nil)))))
   (pss_one (ps_ret pe_bl))
   pss_nil)
   (pss_cons (ps_if (pt_cmpR (eqK K rfl hr.units) (pe_callB (x:="len") (lenK K rfl) rfl (B.at "len") PySem.boot_len (pa_cons (pv 1) pa_nil)) pe_int (nomark _))
   (pss_cons (ps_asg (pv 1) (pgT K rfl (n:=3) rfl (pgs_cons (pg_name (i:=2) nd rfl (Or.inl rfl)) (pgs_cons (pg_name (i:=3) nd rfl (Or.inl rfl)) (pgs_cons (pg_name (i:=4) nd rfl (Or.inl rfl)) pgs_nil)))))
   (pss_one (ps_ret (pe_and (pe_cmpR (eqK K rfl hr.units) (pv 2) pe_str (nomark _)) (pe_and (pe_fn hare_steps (hr.mono (by decide)) rfl (pa_cons (pv 0) (pa_cons (pv 3) pa_nil))) (pe_one (pe_fn his_whole_within (hr.mono (by decide)) rfl (pa_cons (pv 4) (pa_cons pe_int (pa_cons (pe_gv (x:="GREATEST_SPEED") rfl h_GREATEST_SPEED) pa_nil))))))))))
   pss_nil)
   (pss_cons (ps_if (pt_cmpR (eqK K rfl hr.units) (pe_callB (x:="len") (lenK K rfl) rfl (B.at "len") PySem.boot_len (pa_cons (pv 1) pa_nil)) pe_int (nomark _))
   (pss_cons (ps_asg (pv 1) (pgT K rfl (n:=2) rfl (pgs_cons (pg_name (i:=2) nd rfl (Or.inl rfl)) (pgs_cons (pg_name (i:=5) nd rfl (Or.inl rfl)) pgs_nil))))
   (pss_one (ps_ret (pe_fn his_short_item (hr.mono (by decide)) rfl (pa_cons (pv 2) (pa_cons (pv 5) pa_nil))))))
   pss_nil)
   (pss_one (ps_ret pe_bl))))),?_⟩
   rcases item_cases rs.length d with ⟨wd,a,b,rfl⟩ | ⟨wd,a,rfl⟩ | ⟨ds,rfl,h3,h2,hf⟩ | ⟨ht,hf⟩
   · refine⟨_,rfl,.inl ⟨_,_,"tuple",true,rfl,rd.ty,by decide,tyT,_,rfl,iteF ?_⟩⟩
     obtain⟨p,xs,rfl,hx,hd⟩:=rd.tup_inv
     obtain⟨u1,ys,rfl,r1,hd⟩:=hd.cons_inv
     obtain⟨u2,ys,rfl,r2,hd⟩:=hd.cons_inv
     obtain⟨u3,ys,rfl,r3,hd⟩:=hd.cons_inv
     cases hd.nil_inv
     have k:∀H',Same H H'->Q (.bl (isT "line" wd && (okSt rs.length a && inW 1 20 b))) H':=k
     refine⟨_,rfl,p,_,rfl,.inr hx,.inl ⟨_,_,rfl,rfl,_,rfl,iteT ?_⟩⟩
     refine⟨_,rfl,p,_,rfl,hx,rfl,_,_,rfl,_,_,rfl,_,_,rfl,rfl,?_⟩
     refine⟨_,rfl,.inr ⟨_,_,r1,rd_str _,shp (ok8 okd (by simp)),by decide +kernel,_,rfl,?_⟩⟩
     rw [eqv_T]
     cases e1:isT "line" wd with
     | false=>
       rw [e1,Bool.false_and] at k
       exact iteF (k H (Same.refl _))
     | true=>
       rw [e1,Bool.true_and] at k
       refine iteT ⟨_,rfl,_,rfl,_,_,rs,es,a,rfl,rm,r2,l3,fun H1 s1=>⟨_,rfl,?_⟩⟩
       cases e2:okSt rs.length a with
       | false=>
         rw [e2,Bool.false_and] at k
         exact iteF (k H1 s1)
       | true=>
         rw [e2,Bool.true_and] at k
         exact iteT ⟨_,rfl,_,b,1,20,rfl,RD.mono s1 _ r3,k H1 s1⟩
   · refine⟨_,rfl,.inl ⟨_,_,"tuple",true,rfl,rd.ty,by decide,tyT,_,rfl,iteF ?_⟩⟩
     obtain⟨p,xs,rfl,hx,hd⟩:=rd.tup_inv
     obtain⟨u1,ys,rfl,r1,hd⟩:=hd.cons_inv
     obtain⟨u2,ys,rfl,r2,hd⟩:=hd.cons_inv
     cases hd.nil_inv
     have k:∀H',Same H H'->Q (.bl (isShort wd a)) H':=k
     refine⟨_,rfl,p,_,rfl,.inr hx,.inl ⟨_,_,rfl,rfl,_,rfl,iteF ?_⟩⟩
     refine⟨_,rfl,p,_,rfl,.inr hx,.inl ⟨_,_,rfl,rfl,_,rfl,iteT ?_⟩⟩
     refine⟨_,rfl,p,_,rfl,hx,rfl,_,_,rfl,_,_,rfl,rfl,?_⟩
     exact⟨_,rfl,_,rfl,_,_,wd,a,rfl,r1,r2,ok8 okd (by simp),ok8 okd (by simp),sh8 sh (by simp),k⟩
   · rw [hf] at k
     refine⟨_,rfl,.inl ⟨_,_,"tuple",true,rfl,rd.ty,by decide,tyT,_,rfl,iteF ?_⟩⟩
     obtain⟨p,xs,rfl,hx,hd⟩:=rd.tup_inv
     have hl:=hd.length
     refine⟨_,rfl,p,_,rfl,.inr hx,.inl ⟨_,_,rfl,rfl,_,rfl,?_⟩⟩
     rw [show decide ((xs.length:Int)=3)=false from decide_eq_false (by omega)]
     refine iteF ⟨_,rfl,p,_,rfl,.inr hx,.inl ⟨_,_,rfl,rfl,_,rfl,?_⟩⟩
     rw [show decide ((xs.length:Int)=2)=false from decide_eq_false (by omega)]
     exact iteF (k H (Same.refl _))
   · rw [hf] at k
     refine⟨_,rfl,.inl ⟨_,_,"tuple",false,rfl,rd.ty,by decide,ht,_,rfl,iteT ?_⟩⟩
     exact k H (Same.refl _)
end
end Lw
set_option Elab.async false
set_option linter.all false
set_option maxRecDepth 100000
set_option maxHeartbeats 1000000
namespace Lw
open PySem PySem.Spec PyProof.Rows L2 Ln Wk
open Tm (numS numIn? figs isFig Free)
section
variable {P:Program} {w:World} {K:PySem.W.Frag} {mg:Str->Option Value} {base:Heap}
def oV:Option Int->V
  | some i=>.int i
  | none=>.non
def oD:Option Int->PyData
  | some i=>.int i
  | none=>.none
def figS:Str:="0123456789"
theorem fig_lo:∀c<128,decide (c∈figS.cps.toList)=isFig c:=by decide +kernel
theorem fig_hi:∀c∈figS.cps.toList,c<128:=by decide +kernel
theorem fig_in (c:Nat):decide (c∈figS.cps.toList)=isFig c:=by
 by_cases h:c<128
 · exact fig_lo c h
 · rw [decide_eq_false (fun hc=>h (fig_hi c hc)),isFig,decide_eq_false (show ¬c<=57 by omega),Bool.and_false]
inductive IspNumIn (vs:List V) (H:Hp) (Q:VK):Prop
  | mk (z:Str) (h0:vs=[.str z]) (h1:z.length<=640) (h2:∀H',Same H H'->Q (oV (numIn? z)) H'):IspNumIn vs H Q
def spNumIn:Sp:=fun vs H Q _=>IspNumIn vs H Q
abbrev sNIn:Stmt:=top 27
theorem scNIn:FnScope ["word","figures"] ["word"] (defScope sNIn):=⟨rfl,rfl,rfl,by decide +kernel,rfl,by decide +kernel,by decide +kernel⟩
theorem ok_nin (F:FA K mg "number_in" sNIn) (B:Blt mg) (h_FIGURES:GV mg "FIGURES" (.str figS)):FnHas P w K mg base "number_in" 1 spNumIn:=by
 refine F.has scNIn (fun vs H Q E h=>?_) (fun _ _ _ _ _ _ us hl=>match us,hl with | [_],_=>rfl) (fun f cdv A outer s H vs Q E hr h=>?_)
 · obtain⟨z,rfl,_⟩:=h
   rfl
 · obtain⟨z,rfl,hl,k⟩:=h
   have nd:=scNIn.nd
   have h24:sizeLine=16777216:=by decide
   refine⟨_,(pss_cons (ps_set (i:=1) nd rfl (Or.inl rfl) (peRmp K rfl (pv 0) (pa_cons pe_str pa_nil)))
   (pss_cons (ps_if (PW.pt (pw_or (pt_cmpR op_eq (pv 1) pe_str (nomark _)) (pw_or1 (pt_not (pt_val (pe_callB (x:="all") (allK K rfl rfl) rfl (B.at "all") PyProof.Rows.boot_all (pa_cons (pe_comp (N:=["sign"]) (js:=[none]) rfl rfl rfl (pi_str (pv 1)) (fun _ _ _ _ _=>(pg_name (i:=0) (show List.Nodup (["sign"]:List Str) by decide +kernel) rfl (Or.inl rfl))) (fun _ _ _ _ _=>pts_nil) (fun _ _ _ _ _=>(pe_cmpR op_in1 (pv 0) (pe_gv (x:="FIGURES") rfl h_FIGURES) (by with_unfolding_all rfl)))) pa_nil)))))))
   (pss_one (ps_ret pe_non))
   pss_nil)
   (pss_cons (ps_if (PW.pt (pw_and (pt_cmpR op_eq (pe_ix ix_str (pv 1) pe_int (fun _ _=>rfl)) pe_str (nomark _)) (pw_and1 (pt_cmpR op_ne (pv 0) pe_str (nomark _)))))
   (pss_one (ps_ret pe_non))
   pss_nil)
   (pss_one (ps_ret (pe_callTy (x:="int") call_intS rfl (B.at "int") PyProof.Rows.boot_int (pa_cons (pv 0) pa_nil))))))),?_⟩
   refine⟨_,rfl,rfl,z,"-",rfl,rfl,by omega,?_⟩
   have ef:=Tm.rmp_figs z
   generalize hz:Txt.removeprefix z "-" = y at ef
   unfold numIn? at k
   rw [<- ef] at k
   have hly:y.length<=z.length:=by
    have e1:y.cps.toList.length=(figs z).length:=by rw [ef]
    have e2:(figs z).length<=z.cps.toList.length:=by
     unfold figs
     split
     · rename_i h; rw [h]; simp
     · rename_i h _; exact Nat.le_refl _
    simpa [Str.length] using Nat.le_trans (Nat.le_of_eq e1) e2
   refine⟨_,rfl,rfl,_,rfl,?_⟩
   refine ite2 (fun h0=>?_) (fun h0=>?_)
   · have hy:y = "":=by simpa using h0
     rw [hy] at k
     exact iteT (k H (Same.refl _))
   · have hy:y ≠ "":=by simpa using h0
     have hne:y.cps.toList≠[]:=fun e=>hy (Tm.cps_inj (by rw [e]; rfl))
     have he:y.cps.toList.isEmpty=false:=by cases h:y.cps.toList with | nil=>exact (hne h).elim | cons=>rfl
     rw [he,Bool.false_or] at k
     refine⟨_,rfl,y,rfl,fun D H0 nw=>?_⟩
     refine comp_blS (f:=isFig) [] nw (by omega) (fun c H2 Q' hc s2 hq=>?_) (fun H2 s2 d2=>?_)
     · refine⟨_,rfl,c,figS,rfl,rfl,?_⟩
       rw [fig_in]
       exact hq _ (Same.refl _)
     · refine⟨D,_,rfl,SqL.of d2,?_⟩
       rw [all_nat]
       refine⟨_,rfl,?_⟩
       cases hf:y.cps.toList.all isFig with
       | false=>
         rw [hf] at k
         exact iteT (k H2 s2)
       | true=>
         rw [hf] at k
         refine iteF ?_
         obtain⟨n,hn⟩:=Tm.int_some (z:=z) (by rw [<- ef]; exact hne) (by rw [<- ef]; exact hf) (by omega)
         rw [hn] at k
         cases hc:y.cps.toList with
         | nil=>exact (hne hc).elim
         | cons c r=>
           refine⟨_,rfl,y,0,c,rfl,rfl,by omega,atI_of (Int.le_refl 0) (by rw [hc]; rfl),rfl,_,rfl,?_⟩
           have e0:decide (y.cps.toList[0]? = some 48)=decide (V.str ⟨#[c]⟩=V.str "0"):=by
            rw [hc,Bool.eq_iff_iff]
            simp only [decide_eq_true_eq]
            refine⟨fun h=>?_,fun h=>?_⟩
            · have h:c=48:=by simpa using h
              rw [h]; decide +kernel
            · have h:(⟨#[c]⟩ : Str) = "0":=by simpa using h
              have h2:[c]=[48]:=(congrArg (fun z:Str=>z.cps.toList) h).trans (by decide +kernel)
              simpa using h2
           rw [e0] at k
           have e1:(!decide (z = "0")) = !decide (V.str z=V.str "0"):=by simp
           rw [e1] at k
           cases h1:decide (V.str ⟨#[c]⟩=V.str "0") with
           | true=>
             rw [h1,Bool.true_and] at k
             refine iteT ⟨_,rfl,rfl,_,rfl,?_⟩
             cases h2 : !decide (V.str z=V.str "0") with
             | true=>
               rw [h2] at k
               exact iteT (k H2 s2)
             | false=>
               rw [h2] at k
               exact iteF ⟨_,rfl,z,n,rfl,hn,hl,k H2 s2⟩
           | false=>
             rw [h1,Bool.false_and] at k
             exact iteF ⟨_,rfl,z,n,rfl,hn,hl,k H2 s2⟩
inductive IspNumsIn (K:PySem.W.Frag) (vs:List V) (H:Hp) (Q:VK):Prop
  | mk (l:Addr) (zs:List Str) (h0:vs=[.ref l]) (h1:SqL K H l (zs.map V.str)) (h2:zs.length<=1000) (h3:(∀z∈zs,z.length<=640)) (h4:∀p H',Same H H'->H p=none->H' p=some (.lst (zs.map fun z=>oV (numIn? z)))->Q (.ref p) H'):IspNumsIn K vs H Q
def spNumsIn (K:PySem.W.Frag):Sp:=fun vs H Q _=>IspNumsIn K vs H Q
theorem oV_rd {H:Hp} (o:Option Int):RD K H (oV o) (oD o):=by
 cases o with
 | none=>exact rd_non
 | some i=>exact rd_int _
theorem oV_inv {H:Hp} {v:V} {o:Option Int} (h:RD K H v (oD o)):v=oV o:=by
 cases o with
 | none=>exact h.non_inv
 | some i=>exact h.int_inv
theorem oVs_inv {H:Hp}:∀ {xs:List V} {zs:List Str},RDs K H xs (zs.map fun z=>oD (numIn? z))->xs=zs.map fun z=>oV (numIn? z)
  | xs,[],h=>h.nil_inv
  | xs,n::ns,h=>by
    obtain⟨y,ys,rfl,h1,h2⟩:=h.cons_inv
    rw [oV_inv h1,oVs_inv h2]; rfl
theorem oD_no (zs:List Str):noLs (zs.map fun z=>oD (numIn? z))=true:=noLs_mem.mpr fun d hd=>by
 obtain⟨z,_,rfl⟩:=List.mem_map.mp hd
 cases numIn? z <;> rfl
abbrev sNsI:Stmt:=top 26
theorem scNsI:FnScope ["words"] ["words"] (defScope sNsI):=⟨rfl,rfl,rfl,by decide +kernel,rfl,by decide +kernel,by decide +kernel⟩
theorem ok_nsi (F:FA K mg "numbers_in" sNsI) (B:Blt mg) (hnumber_in:FnHas P w K mg base "number_in" 1 spNumIn):FnHas P w K mg base "numbers_in" 2 (spNumsIn K):=by
 refine F.has scNsI (fun vs H Q E h=>?_) (fun _ _ _ _ _ _ us hl=>match us,hl with | [_],_=>rfl) (fun f cdv A outer s H vs Q E hr h=>?_)
 · obtain⟨l,zs,rfl,_⟩:=h
   rfl
 · obtain⟨l,zs,rfl,hl,hn,hz,k⟩:=h
   have nd:=scNsI.nd
   refine⟨_,(pss_one (ps_ret (pe_comp (N:=["word"]) (js:=[none]) rfl rfl rfl (piL K rfl (pv 0)) (fun _ _ _ _ _=>(pg_name (i:=0) (show List.Nodup (["word"]:List Str) by decide +kernel) rfl (Or.inl rfl))) (fun _ _ _ _ _=>pts_nil) (fun _ _ _ _ _=>(pe_fn hnumber_in (hr.mono (by decide)) rfl (pa_cons (pv 0) pa_nil)))))),?_⟩
   refine⟨_,rfl,l,rfl,⟨_,hl⟩,fun D H1 n1=>?_⟩
   refine comp_rdL (K:=K) (ds:=zs.map fun z=>oD (numIn? z)) _ hl n1 (by simp) (by simp; omega) (oD_no _) ?_ ?_
   · intro i x d H2 Q' ex ed s2 hq
     rw [List.getElem?_map] at ex ed
     obtain⟨z,ez,rfl⟩:=Option.map_eq_some_iff.mp ex
     rw [ez] at ed
     cases ed
     exact⟨_,rfl,z,rfl,hz z (List.mem_of_getElem? ez),fun H3 s3=>hq _ _ s3 (oV_rd _)⟩
   · intro H2 ys s2 d2 r2
     rw [oVs_inv r2] at d2
     exact k D H2 s2 n1.no d2
def TxOk (z:Str):Prop:=∀c∈z.cps.toList,c<0x110000
theorem okd_tx {n:Nat} {z:Str} (h:TxOk z):OkD n (.str z):=⟨by
 show PyData.strOk z=true
 unfold PyData.strOk
 rw [Array.all_eq_true_iff_forall_mem]
 exact fun c hc=>decide_eq_true (h c (by simpa using hc)),Nat.zero_le _⟩
theorem gl_mem {c x:Nat}:∀ {as:List (List Nat)} {a:List Nat},a∈as->x∈a->x∈Tm.gl c as
  | [],a,h,_=>nomatch h
  | [b],a,h,hx=>by rw [List.mem_singleton.mp h] at hx; exact hx
  | b::d::r,a,h,hx=>by
    show x∈b++c::Tm.gl c (d::r)
    rcases List.mem_cons.mp h with rfl | h
    · exact List.mem_append_left _ hx
    · exact List.mem_append_right _ (.tail _ (gl_mem h hx))
theorem gl_len {c:Nat}:∀ {as:List (List Nat)} {a:List Nat},a∈as->a.length<=(Tm.gl c as).length
  | [],a,h=>nomatch h
  | [b],a,h=>by rw [List.mem_singleton.mp h]; exact Nat.le_refl _
  | b::d::r,a,h=>by
    show a.length<=(b++c::Tm.gl c (d::r)).length
    rw [List.length_append,List.length_cons]
    rcases List.mem_cons.mp h with rfl | h
    · omega
    · have:=gl_len (c:=c) h; omega
theorem split_gl (z:Str) (c:Nat):Tm.gl c ((Txt.split z ⟨#[c]⟩).map fun y=>y.cps.toList)=z.cps.toList:=by
 rw [<- Tm.gl_join,StrLaws.join_split]
theorem split_tx {z y:Str} {c:Nat} (h:TxOk z) (hy:y∈Txt.split z ⟨#[c]⟩):TxOk y:=fun x hx=>h x (by
 rw [<- split_gl z c]
 exact gl_mem (List.mem_map.mpr ⟨y,hy,rfl⟩) hx)
theorem split_le {z y:Str} {c:Nat} (hy:y∈Txt.split z ⟨#[c]⟩):y.length<=z.length:=by
 have:=gl_len (c:=c) (List.mem_map.mpr ⟨y,hy,rfl⟩ : y.cps.toList∈(Txt.split z ⟨#[c]⟩).map fun y=>y.cps.toList)
 rw [split_gl] at this
 simpa [Str.length] using this
theorem sp_is:(" " : Str)=⟨#[32]⟩:=by decide +kernel
theorem nl_is:("\n" : Str)=⟨#[10]⟩:=by decide +kernel
def nI (z:Str):PyData:=oD (numIn? z)
def thingD:List Str->PyData
  | []=>.none
  | w :: rest=>if w = "line" then (match rest with
      | []=>.none
      | r::rs=>.tuple [.str w,.tuple (((r::rs).map nI).take rs.length),((r::rs).map nI).getLastD .none])
    else match rest with
     | [r]=>.tuple [.str w,if w = "wait" then nI r else .str r]
     | _=>.none
def itemD (n:Nat) (z:Str):PyData:=bif isItm n (thingD (Txt.split z " ")) then thingD (Txt.split z " ") else .none
theorem oVs_rd {H:Hp}:∀(zs:List Str),RDs K H (zs.map fun z=>oV (numIn? z)) (zs.map nI)
  | []=>by simp [RDs]
  | z::zs=>by
    rw [List.map_cons,List.map_cons,RDs]
    exact⟨_,_,rfl,oV_rd _,oVs_rd zs⟩
theorem rdsC {H:Hp} {x:V} {xs:List V} {d:PyData} {ds:List PyData} (h:RD K H x d) (r:RDs K H xs ds):RDs K H (x::xs) (d::ds):=by rw [RDs]; exact⟨_,_,rfl,h,r⟩
theorem rdsN {H:Hp}:RDs K H [] []:=by simp [RDs]
theorem nI_ok {n:Nat} (z:Str):OkD n (nI z):=by
 unfold nI
 cases numIn? z with
 | none=>exact .non
 | some i=>exact .int i
theorem nI_sh (z:Str):shE (nI z)=true:=by
 unfold nI
 cases numIn? z <;> rfl
theorem thing_line0:thingD ["line"] = .none:=by unfold thingD; dsimp only; rw [if_pos rfl]
theorem thing_line {r:Str} {rs:List Str}:thingD ("line" :: r::rs) = .tuple [.str "line",.tuple (((r::rs).map nI).take rs.length),((r::rs).map nI).getLastD .none]:=by unfold thingD; dsimp only; rw [if_pos rfl]
theorem thing_one {w r:Str} (h:w ≠ "line"):thingD [w,r] = .tuple [.str w,if w = "wait" then nI r else .str r]:=by unfold thingD; dsimp only; rw [if_neg h]
theorem thing_oth {w:Str} {ws:List Str} (h:w ≠ "line") (hl:ws.length≠1):thingD (w::ws) = .none:=by
 unfold thingD; dsimp only; rw [if_neg h]
 split
 · exact (hl rfl).elim
 · rfl
theorem thing_ok {ws:List Str} (h:∀w∈ws,TxOk w/\w.length<=640):OkD 8 (thingD ws)/\shT (thingD ws)=true:=by
 cases ws with
 | nil=>exact⟨.non,rfl⟩
 | cons w rest=>
   obtain⟨hw,hl⟩:=h w (.head _)
   have sw:shE (.str w)=true:=decide_eq_true (by omega)
   by_cases hx:w = "line"
   · subst hx
     cases rest with
     | nil=>rw [thing_line0]; exact⟨.non,rfl⟩
     | cons r rs=>
       rw [thing_line]
       have hm:∀d∈(r::rs).map nI,OkD 0 d:=fun d hd=>by
        obtain⟨z,_,rfl⟩:=List.mem_map.mp hd
        exact nI_ok z
       have hlast:OkD 0 (((r::rs).map nI).getLastD .none)/\shE (((r::rs).map nI).getLastD .none)=true:=by
        rw [List.getLastD_eq_getLast?]
        cases e:((r::rs).map nI).getLast? with
        | none=>exact⟨.non,rfl⟩
        | some d=>
          obtain⟨z,_,rfl⟩:=List.mem_map.mp (List.mem_of_getLast? e)
          exact⟨nI_ok z,nI_sh z⟩
       have hs:OkDs 2 [.str "line",.tuple (((r::rs).map nI).take rs.length),((r::rs).map nI).getLastD .none]:=fun d hd=>by
        simp only [List.mem_cons,List.not_mem_nil,or_false] at hd
        rcases hd with rfl | rfl | rfl
        · exact okd_tx hw
        · exact (OkDs.tup (n:=0) fun d hd=>hm d (List.mem_of_mem_take hd)).le (by decide)
        · exact hlast.1.le (by decide)
       refine⟨hs.tup.le (by decide),?_⟩
       show [_,_,_].all shE=true
       simp only [List.all_cons,List.all_nil,Bool.and_true,sw,hlast.2]
       rfl
   · match rest,h with
     | [],_=>rw [thing_oth hx (by simp)]; exact⟨.non,rfl⟩
     | [r],h=>
       rw [thing_one hx]
       obtain⟨hr,hlr⟩:=h r (.tail _ (.head _))
       have hv:OkD 0 (if w = "wait" then nI r else .str r)/\shE (if w = "wait" then nI r else .str r)=true:=by
        split
        · exact⟨nI_ok r,nI_sh r⟩
        · exact⟨okd_tx hr,decide_eq_true (by omega)⟩
       have hs:OkDs 1 [.str w,if w = "wait" then nI r else .str r]:=fun d hd=>by
        simp only [List.mem_cons,List.not_mem_nil,or_false] at hd
        rcases hd with rfl | rfl
        · exact okd_tx hw
        · exact hv.1.le (by decide)
       refine⟨hs.tup.le (by decide),?_⟩
       show [_,_].all shE=true
       simp only [List.all_cons,List.all_nil,Bool.and_true,sw,hv.2]
     | _::_::_,_=>rw [thing_oth hx (by simp)]; exact⟨.non,rfl⟩
inductive IspItmIn (K:PySem.W.Frag) (vs:List V) (H:Hp) (Q:VK):Prop
  | mk (m:V) (rs:List Int) (es:List PyData) (z:Str) (h0:vs=[m,.str z]) (h1:RD K H m (.tuple (.tuple (rs.map PyData.int)::es))) (h2:noLs es=true) (h3:rs.length<=3) (h4:z.length<=600) (h5:TxOk z) (h6:∀v H',Same H H'->RD K H' v (itemD rs.length z)->Q v H'):IspItmIn K vs H Q
def spItmIn (K:PySem.W.Frag):Sp:=fun vs H Q _=>IspItmIn K vs H Q
abbrev sItI:Stmt:=top 25
theorem scItI:FnScope ["machine","row","word","rest","thing","numbers"] ["machine","row"] (defScope sItI):=⟨rfl,rfl,rfl,by decide +kernel,rfl,by decide +kernel,by decide +kernel⟩
theorem ok_iti (F:FA K mg "item_in" sItI) (B:Blt mg) (hnumber_in:FnHas P w K mg base "number_in" 1 spNumIn) (hnumbers_in:FnHas P w K mg base "numbers_in" 2 (spNumsIn K)) (his_item:FnHas P w K mg base "is_item" 4 (spItm K)):FnHas P w K mg base "item_in" 5 (spItmIn K):=by
 refine F.has scItI (fun vs H Q E h=>?_) (fun _ _ _ _ _ _ us hl=>match us,hl with | [_,_],_=>rfl) (fun f cdv A outer s H vs Q E hr h=>?_)
 · obtain⟨m,rs,es,z,rfl,_⟩:=h
   rfl
 · obtain⟨m,rs,es,z,rfl,rm,ne,l3,hz,tz,k⟩:=h
   have nd:=scItI.nd
   have h24:sizeLine=16777216:=by decide
   have hwl:∀y∈Txt.split z " ",TxOk y/\y.length<=640:=fun y hy=>by
    rw [sp_is] at hy
    have:=split_le hy
    exact⟨split_tx tz hy,by omega⟩
   have hsl:=split_len z " "
   refine⟨_,(pss_cons (ps_asg (peSplit K rfl (pv 1) (pa_cons pe_str pa_nil)) (pgStar K rfl rfl (pg_name (i:=2) nd rfl (Or.inl rfl)) (pg_name (i:=3) nd rfl (Or.inl rfl))))
   (pss_cons (ps_set (i:=4) nd rfl (Or.inl rfl) pe_non)
   (pss_cons (ps_mid (ps_if (pt_cmpR op_eq (pv 2) pe_str (nomark _))
   (pss_cons (ps_set (i:=5) nd rfl (Or.inl rfl) (pe_fn hnumbers_in (hr.mono (by decide)) rfl (pa_cons (pv 3) pa_nil)))
   (pss_one (ps_set (i:=4) nd rfl (Or.inl rfl) (pe_ifExp (pt_truK K rfl (pv 5)) (pe_tupA (pa_cons (pv 2) (pa_cons (pe_callTy (x:="tuple") (tupleK K rfl) rfl (B.at "tuple") PyProof.Rows.boot_tuple (pa_cons (pe_slice (slK K rfl) (pv 5) po_none (po_some (pe_un un_neg pe_int))) pa_nil)) (pa_cons (pe_ix (ixK K rfl) (pv 5) (pe_un un_neg pe_int) (fun _ _=>rfl)) pa_nil)))) pe_non))))
   (pss_one (ps_if (pt_cmpR op_eq (pe_callB (x:="len") (lenK K rfl) rfl (B.at "len") PySem.boot_len (pa_cons (pv 3) pa_nil)) pe_int (nomark _))
   (pss_one (ps_set (i:=4) nd rfl (Or.inl rfl) (pe_tupA (pa_cons (pv 2) (pa_cons (pe_ifExp (pt_cmpR op_eq (pv 2) pe_str (nomark _)) (pe_fn hnumber_in (hr.mono (by decide)) rfl (pa_cons (pe_ix (ixK K rfl) (pv 3) pe_int (fun _ _=>rfl)) pa_nil)) (pe_ix (ixK K rfl) (pv 3) pe_int (fun _ _=>rfl))) pa_nil)))))
   pss_nil))))
   (pss_one (ps_ret (pe_ifExp (pt_val (pe_fn his_item (hr.mono (by decide)) rfl (pa_cons (pv 0) (pa_cons (pv 4) pa_nil)))) (pv 4) pe_non)))))),?_⟩
   refine⟨_,rfl,rfl,z," ",rfl,rfl,by decide +kernel,by omega,fun l H1 n1=>?_⟩
   obtain ⟨x,ws,ew⟩ : ∃x ws,Txt.split z " " = x::ws:=by
    cases e:Txt.split z " " with
    | nil=>exact (Tm.split_ne _ _ e).elim
    | cons x ws=>exact⟨x,ws,rfl⟩
   unfold itemD at k
   rw [ew] at n1 hwl hsl k
   rw [List.length_cons] at hsl
   refine⟨l,.str x,ws.map V.str,rfl,SqL.of n1.at',by rw [List.length_map]; omega,fun p H2 n2=>?_⟩
   have s2:=n1.same.trans n2.same
   have hws:∀y∈ws,y.length<=640:=fun y hy=>(hwl y (.tail _ hy)).2
   refine⟨fun σ H3=>∃t w5,σ = [some m,some (.str z),some (.str x),some (.ref p),some t,w5]/\Same H H3/\RD K H3 t (thingD (x::ws)),?_,?_⟩
   · refine⟨_,rfl,rfl,_,rfl,?_⟩
     refine ite2 (fun h0=>?_) (fun h0=>?_)
     · have hx:x = "line":=by simpa using h0
       subst hx
       refine⟨_,rfl,p,ws,rfl,SqL.of n2.at',by omega,hws,fun q H3 s3 nq e3=>?_⟩
       refine⟨_,rfl,!(ws.map fun z=>oV (numIn? z)).isEmpty,.inl ⟨_,SqL.of e3,rfl⟩,?_⟩
       cases ws with
       | nil=>
         refine iteF ⟨.non,_,rfl,s2.trans s3,?_⟩
         rw [thing_line0]; exact rd_non
       | cons r rs'=>
         refine iteT ⟨_,rfl,?_⟩
         refine⟨_,rfl,1,rfl,_,rfl,q,_,rfl,.inl ⟨SqL.of e3,fun q2 H4 n4=>?_⟩⟩
         rw [cut_init] at n4
         have n4':=n4.at'
         refine⟨q2,_,rfl,.inl ⟨SqL.of n4',fun q3 H5 n5=>?_⟩⟩
         obtain⟨v,ev⟩ : ∃v,((r::rs').map fun z=>oV (numIn? z)).getLast? = some v:=⟨_,List.getLast?_eq_some_getLast (by simp)⟩
         have e5:=n5.same _ _ (n4.same _ _ e3)
         refine⟨_,rfl,1,rfl,.inl ⟨q,_,-1,v,rfl,rfl,SqL.of e5,at_last ev,?_⟩⟩
         refine⟨by show 3<=sizeLine; omega,fun q6 H6 n6=>?_⟩
         have s6:=(((s2.trans s3).trans n4.same).trans n5.same).trans n6.same
         refine⟨_,_,rfl,s6,?_⟩
         rw [thing_line]
         have el:((r::rs').map nI).getLastD .none=oD (numIn? ((r::rs').getLast (by simp))):=by
          rw [List.getLastD_eq_getLast?,List.getLast?_map,List.getLast?_eq_some_getLast (by simp)]; rfl
         have evv:v=oV (numIn? ((r::rs').getLast (by simp))):=by
          rw [List.getLast?_map,List.getLast?_eq_some_getLast (by simp)] at ev
          exact (Option.some.inj ev).symm
         refine rd_tup (SqT.of n6.at') (rdsC (rd_str _) (rdsC ?_ (rdsC ?_ rdsN)))
         · refine rd_tup (SqT.of (n6.same _ _ n5.at')) ?_
           rw [List.length_map,List.length_cons,Nat.add_sub_cancel]
           exact (oVs_rd (r::rs')).take _
         · rw [el,evv]; exact oV_rd _
     · have hx:x ≠ "line":=by simpa using h0
       refine⟨_,rfl,p,_,rfl,.inl (SqL.of n2.at'),rfl,_,rfl,?_⟩
       refine ite2 (fun h1=>?_) (fun h1=>?_)
       · have hl1:ws.length=1:=by
           have h1:=of_decide_eq_true h1
           rw [List.length_map] at h1
           injection h1 with h1
           omega
         match ws,hl1,n2,hws,k with
         | [r],_,n2,hws,k=>
           refine⟨_,rfl,_,rfl,rfl,_,rfl,?_⟩
           refine ite2 (fun h2=>?_) (fun h2=>?_)
           · have hwt:x = "wait":=by simpa using h2
             refine⟨_,rfl,.inl ⟨p,_,0,.str r,rfl,rfl,SqL.of n2.at',rfl,?_⟩⟩
             refine⟨r,rfl,hws r (.head _),fun H3 s3=>?_⟩
             refine⟨by show 2<=sizeLine; omega,fun q6 H6 n6=>?_⟩
             refine⟨_,_,rfl,(s2.trans s3).trans n6.same,?_⟩
             rw [thing_one hx,if_pos hwt]
             exact rd_tup (SqT.of n6.at') (rdsC (rd_str _) (rdsC (oV_rd _) rdsN))
           · have hwt:x ≠ "wait":=by simpa using h2
             refine⟨_,rfl,.inl ⟨p,_,0,.str r,rfl,rfl,SqL.of n2.at',rfl,?_⟩⟩
             refine⟨by show 2<=sizeLine; omega,fun q6 H6 n6=>?_⟩
             refine⟨_,_,rfl,s2.trans n6.same,?_⟩
             rw [thing_one hx,if_neg hwt]
             exact rd_tup (SqT.of n6.at') (rdsC (rd_str _) (rdsC (rd_str _) rdsN))
       · have hl1:ws.length≠1:=fun e=>h1 (decide_eq_true (by rw [List.length_map,e]; rfl))
         refine⟨.non,_,rfl,s2,?_⟩
         rw [thing_oth hx hl1]; exact rd_non
   · rintro σ H3 ⟨t,w5,rfl,s3,rt⟩
     have ok:=thing_ok (ws:=x::ws) hwl
     refine⟨_,rfl,_,rfl,m,t,rs,es,thingD (x::ws),rfl,RD.mono s3 _ rm,rt,l3,ok.1,ok.2,fun H4 s4=>⟨_,rfl,?_⟩⟩
     cases hi:isItm rs.length (thingD (x::ws)) with
     | true=>
       rw [hi] at k
       exact iteT ⟨_,rfl,k _ _ (s3.trans s4) (RD.mono s4 _ rt)⟩
     | false=>
       rw [hi] at k
       exact iteF (k _ _ (s3.trans s4) rd_non)
inductive IspRead (K:PySem.W.Frag) (vs:List V) (H:Hp) (Q:VK):Prop
  | mk (m:V) (rs:List Int) (es:List PyData) (z:Str) (ds:List PyData) (h0:vs=[m,.str z]) (h1:RD K H m (.tuple (.tuple (rs.map PyData.int)::es))) (h2:noLs es=true) (h3:rs.length<=3) (h4:z.length<=20000) (h5:ds.length<=20) (h6:((z = "" /\ ds=[]) \/ (z ≠ "" /\ (Txt.split z "\n").map (itemD rs.length)=ds/\(∀y∈Txt.split z "\n",y.length<=600/\TxOk y)))) (h7:(∀d∈ds,d ≠ .none/\noL d=true)) (h8:∀v H',Same H H'->RD K H' v (.tuple ds)->Q v H'):IspRead K vs H Q
def spRead (K:PySem.W.Frag):Sp:=fun vs H Q _=>IspRead K vs H Q
abbrev sRdI:Stmt:=top 24
theorem scRdI:FnScope ["machine","text","told","at","row","item"] ["machine","text"] (defScope sRdI):=⟨rfl,rfl,rfl,by decide +kernel,rfl,by decide +kernel,by decide +kernel⟩
theorem ok_rdi (F:FA K mg "read_items" sRdI) (B:Blt mg) (h_MOST_ITEMS:GV mg "MOST_ITEMS" (.int 20)) (hitem_in:FnHas P w K mg base "item_in" 5 (spItmIn K)):FnHas P w K mg base "read_items" 6 (spRead K):=by
 refine F.has scRdI (fun vs H Q E h=>?_) (fun _ _ _ _ _ _ us hl=>match us,hl with | [_,_],_=>rfl) (fun f cdv A outer s H vs Q E hr h=>?_)
 · obtain⟨m,rs,es,z,ds,rfl,_⟩:=h
   rfl
 · obtain⟨m,rs,es,z,ds,rfl,rm,ne,l3,lz,ld,hz,hd,k⟩:=h
   have nd:=scRdI.nd
   have h24:sizeLine=16777216:=by decide
   refine⟨_,(pss_cons (ps_if (pt_not (pt_val (pe_callB (x:="isinstance") (isiK K rfl) rfl (B.at "isinstance") PyProof.Rows.boot_isinstance (pa_cons (pv 1) (pa_cons (pe_bltn (x:="str") (v:=.ty "str") rfl (B.at "str") PyProof.Rows.boot_str rfl) pa_nil)))))
   (pss_one ps_never)
   pss_nil)
   (pss_cons (ps_if (pt_cmpR op_eq (pv 1) pe_str (nomark _))
   (pss_one (ps_ret (pe_tupA pa_nil)))
   pss_nil)
   (pss_cons (ps_set (i:=2) nd rfl (Or.inl rfl) (pe_lstA pa_nil))
   (pss_cons (ps_for PassesOwn.never rfl (pi_enum K rfl true rfl (B.at "enumerate") (pa_cons (peSplit K rfl (pv 1) (pa_cons pe_str pa_nil)) pa_nil)) (pgT K rfl (n:=2) rfl (pgs_cons (pg_name (i:=3) nd rfl (Or.inl rfl)) (pgs_cons (pg_name (i:=4) nd rfl (Or.inl rfl)) pgs_nil)))
   (pss_cons (ps_set (i:=5) nd rfl (Or.inl rfl) (pe_fn hitem_in (hr.mono (by decide)) rfl (pa_cons (pv 0) (pa_cons (pv 4) pa_nil))))
   (pss_cons (ps_if (PW.pt (pw_or (pt_cmpR op_isN (pv 5) pe_non (nomark _)) (pw_or1 (pt_cmpR op_eq (pv 3) (pe_gv (x:="MOST_ITEMS") rfl h_MOST_ITEMS) (nomark _)))))
   (pss_one ps_never)
   pss_nil)
   (pss_one (ps_expr (peApp K rfl (pv 2) (pa_cons (pv 5) pa_nil)))))))
   (pss_one (ps_ret (pe_callTy (x:="tuple") (tupleK K rfl) rfl (B.at "tuple") PyProof.Rows.boot_tuple (pa_cons (pv 2) pa_nil)))))))),?_⟩
   refine⟨_,rfl,.inl ⟨_,_,"str",true,rfl,(rd_str z).ty,by decide,tyS,_,rfl,iteF ?_⟩⟩
   refine⟨_,rfl,rfl,_,rfl,?_⟩
   rcases hz with ⟨rfl,rfl⟩ | ⟨hz,es',hy⟩
   · refine iteT ⟨Nat.zero_le _,fun p H1 n1=>?_⟩
     exact k _ _ n1.same (rd_tup (SqT.of n1.at') rdsN)
   · refine ite2 (fun h0=>(hz (by simpa using h0)).elim) (fun _=>?_)
     refine⟨Nat.zero_le _,fun D H1 n1=>?_⟩
     refine⟨_,rfl,rfl,z,"\n",rfl,rfl,by decide +kernel,by omega,fun q H2 n2=>?_⟩
     have lr:(Txt.split z "\n").length=ds.length:=by rw [<- es',List.length_map]
     have Dq:D≠q:=ne_of_none n1.at' n2.no
     have s2:=n1.same.trans n2.same
     have nq:H q=none:=by
      cases e:H q with
      | none=>rfl
      | some o=>have:=n1.same _ _ e; rw [n2.no] at this; cases this
     refine⟨q,rfl,⟨_,SqL.of n2.at'⟩,for_enum (K:=K) (b:=true) (a:=q) (xs:=(Txt.split z "\n").map V.str) (fun i σ H3=>Same H H3 /\ ∃ys v1 v2 v3,H3 D=some (.lst ys)/\H3 q=some (.lst ((Txt.split z "\n").map V.str))/\RDs K H3 ys (ds.take i) /\ σ = [some m,some (.str z),some (.ref D),v1,v2,v3]) ?_ ?_ ?_ ?_⟩
     · exact⟨s2,[],none,none,none,n2.same _ _ n1.at',n2.at',rds_nil,rfl⟩
     · rintro i σ H3 _ ⟨_,ys,v1,v2,v3,_,eq,_⟩
       exact SqL.of eq
     · rintro i y σ H3 hy' ⟨s3,ys,v1,v2,v3,dD,dq,ry,rfl⟩ T H4 n4
       rw [List.getElem?_map] at hy'
       obtain⟨r,er,rfl⟩:=Option.map_eq_some_iff.mp hy'
       obtain⟨hr1,hr2⟩:=hy r (List.mem_of_getElem? er)
       have ed:ds[i]? = some (itemD rs.length r):=by rw [<- es',List.getElem?_map,er]; rfl
       obtain⟨hn,hno⟩:=hd _ (List.mem_of_getElem? ed)
       have hi:i<ds.length:=(List.getElem?_eq_some_iff.mp ed).1
       have s4:=s3.trans n4.same
       refine⟨T,_,rfl,SqT.of n4.at',rfl,_,_,rfl,_,_,rfl,rfl,?_⟩
       refine⟨_,rfl,_,rfl,m,rs,es,r,rfl,RD.mono s4 _ rm,ne,l3,hr1,hr2,fun v H5 s5 rv=>?_⟩
       have vn:v ≠ .non:=fun e=>by
        rw [e] at rv
        have:itemD rs.length r = .none:=by
         generalize itemD rs.length r=d at rv
         cases d with
         | none=>rfl
         | bool b=>have:=rv.bl_inv; cases this
         | int b=>have:=rv.int_inv; cases this
         | str b=>have:=rv.str_inv; cases this
         | list b=>obtain⟨_,_,h,_⟩:=rv.lst_inv; cases h
         | tuple b=>obtain⟨_,_,h,_⟩:=rv.tup_inv; cases h
         | _=>rw [RD] at rv; exact rv.elim
        exact hn this
       have t5:=n4.same.trans s5
       have dD5:=t5 _ _ dD
       have dq5:=t5 _ _ dq
       have ly:=ry.length
       rw [List.length_take] at ly
       refine⟨_,rfl,rfl,_,rfl,?_⟩
       rw [decide_eq_false vn]
       refine iteF ⟨_,rfl,rfl,_,rfl,?_⟩
       rw [decide_eq_false (show ¬V.int (i:Int)=V.int 20 from fun e=>by injection e with e; omega)]
       refine iteF ?_
       refine⟨_,rfl,.inl ⟨rfl,_,SqL.of dD5⟩,_,rfl,D,ys,_,rfl,rfl,dD5,by omega,?_⟩
       have sT:SameT H5 (L2.upd H5 D (.lst (ys++[v]))):=.updL dD5
       refine⟨fun b o e=>?_,ys++[v],_,_,_,upd_same,?_,?_,rfl⟩
       · rw [upd_ne (ne_of_none e n1.no)]; exact t5 _ _ (s3 _ _ e)
       · rw [upd_ne Dq.symm]; exact dq5
       · rw [List.take_succ,ed]
         have no1:noLs (ds.take i)=true:=noLs_mem.mpr fun d hd'=>(hd d (List.mem_of_mem_take hd')).2
         exact (RDs.t sT _ no1 (RDs.mono t5 _ ry)).append (rds_cons (RD.t sT _ hno rv) rds_nil)
     · rintro σ H3 ⟨s3,ys,v1,v2,v3,dD,dq,ry,rfl⟩
       rw [List.length_map,lr,List.take_of_length_le (Nat.le_refl _)] at ry
       refine⟨_,rfl,D,_,rfl,.inl ⟨SqL.of dD,fun p H4 n4=>?_⟩⟩
       exact k _ _ (s3.trans n4.same) (rd_tup (SqT.of n4.at') (RDs.mono n4.same _ ry))
end
end Lw
set_option Elab.async false
set_option linter.all false
set_option maxRecDepth 100000
set_option maxHeartbeats 2000000
set_option exponentiation.threshold 6000
namespace Lw
open PySem PySem.Spec PyProof.Rows L2 Ln Wk
open Tm (numS numIn? figs isFig Free)
section
variable {P:Program} {w:World} {K:PySem.W.Frag} {mg:Str->Option Value} {base:Heap}
def valS:PyData->Str
  | .int i=>numS i
  | .str z=>z
  | _=>Str.empty
def numsS (ns:List Int):Str:=Txt.join " " (ns.map numS)
def itmS:PyData->Str
  | .tuple [.str _,.tuple xs,.int sp]=>"line " ++ Txt.join " " (xs.map valS) ++ " " ++ numS sp
  | .tuple [.str w,u]=>w ++ " " ++ valS u
  | _=>Str.empty
def Nm (i:Int):Prop:=i.natAbs<10^40
def WOk (w:Str):Prop:=w = "wait" \/ w = "tool" \/ w = "mark"
def TI (d:PyData):Prop:=(∃ns sp,d=lineD ns sp/\ns.length<=3/\(∀n∈ns,Nm n)/\Nm sp) \/ (∃w i,d = .tuple [.str w,.int i]/\WOk w/\Nm i) \/ ∃w z,d = .tuple [.str w,.str z]/\WOk w/\z.length<=100
theorem map_val (ns:List Int):(ns.map PyData.int).map valS=ns.map numS:=by rw [List.map_map]; rfl
theorem itm_line (ns:List Int) (sp:Int):itmS (lineD ns sp) = "line " ++ numsS ns ++ " " ++ numS sp:=by
 show Str.ofString "line " ++ Txt.join " " ((ns.map PyData.int).map valS) ++ " " ++ numS sp=_
 rw [map_val]; rfl
theorem num_len {i:Int} (h:Nm i):(numS i).length<=41:=txt_len h
theorem nums_len {ns:List Int} (h:∀n∈ns,Nm n) (hl:ns.length<=3):(numsS ns).length<=126:=by
 have:=join_len " " (B:=41) (ns.map numS) (fun z hz=>by
  obtain⟨n,hn,rfl⟩:=List.mem_map.mp hz
  exact num_len (h n hn))
 rw [List.length_map] at this
 have e:Str.length " " = 1:=by decide +kernel
 rw [e] at this
 unfold numsS
 omega
theorem word_len {w:Str} (h:WOk w):w.length=4:=by rcases h with rfl | rfl | rfl <;> decide +kernel
theorem itm_len {d:PyData} (h:TI d):(itmS d).length<=400:=by
 have e1:Str.length " " = 1:=by decide +kernel
 have e2:Str.length "line " = 5:=by decide +kernel
 rcases h with ⟨ns,sp,rfl,hl,hb,hs⟩ | ⟨w,i,rfl,hw,hi⟩ | ⟨w,z,rfl,hw,hz⟩
 · rw [itm_line]
   have h1:=nums_len hb hl
   have h2:=num_len hs
   simp only [strLen_append]
   omega
 · show (w ++ " " ++ numS i).length<=400
   have h2:=num_len hi
   have h3:=word_len hw
   simp only [strLen_append]
   omega
 · show (w ++ " " ++ z).length<=400
   have h3:=word_len hw
   simp only [strLen_append]
   omega
theorem lineA:SeqAt.shaped (.str "line")=true:=by decide +kernel
theorem eqvS (x y:Str):PyData.eqv (.str x) (.str y)=decide (x=y):=by
 show (x == y)=decide (x=y)
 rw [Bool.eq_iff_iff]; simp
theorem ti_word {H:Hp} {v:V} {d:PyData} (h:RD K H v d) (i:TI d):(∃ns sp a b,d=lineD ns sp/\v = .ref a/\SqT K H a [.str "line",.ref b,.int sp]/\RD K H (.ref b) (.tuple (ns.map PyData.int))/\ns.length<=3/\(∀n∈ns,Nm n)/\Nm sp) \/ ∃w u a y,d = .tuple [.str w,u]/\WOk w/\v = .ref a/\SqT K H a [.str w,y]/\RD K H y u/\((∃i,u = .int i/\y = .int i/\Nm i) \/ ∃z,u = .str z/\y = .str z/\z.length<=100):=by
 rcases i with ⟨ns,sp,rfl,hl,hb,hs⟩ | ⟨w,i,rfl,hw,hi⟩ | ⟨w,z,rfl,hw,hz⟩
 · obtain⟨a,xs,rfl,h1,h2⟩:=h.tup_inv
   obtain⟨x1,r,rfl,e1,h2⟩:=h2.cons_inv
   obtain⟨x2,r,rfl,e2,h2⟩:=h2.cons_inv
   obtain⟨x3,r,rfl,e3,h2⟩:=h2.cons_inv
   cases h2.nil_inv
   cases e1.str_inv
   cases e3.int_inv
   obtain⟨b,ys,rfl,_,_⟩:=id e2.tup_inv
   exact .inl ⟨ns,sp,a,b,rfl,rfl,h1,e2,hl,hb,hs⟩
 · obtain⟨a,xs,rfl,h1,h2⟩:=h.tup_inv
   obtain⟨x1,r,rfl,e1,h2⟩:=h2.cons_inv
   obtain⟨x2,r,rfl,e2,h2⟩:=h2.cons_inv
   cases h2.nil_inv
   cases e1.str_inv
   cases e2.int_inv
   exact .inr ⟨w,_,a,_,rfl,hw,rfl,h1,e2,.inl ⟨i,rfl,rfl,hi⟩⟩
 · obtain⟨a,xs,rfl,h1,h2⟩:=h.tup_inv
   obtain⟨x1,r,rfl,e1,h2⟩:=h2.cons_inv
   obtain⟨x2,r,rfl,e2,h2⟩:=h2.cons_inv
   cases h2.nil_inv
   cases e1.str_inv
   cases e2.str_inv
   exact .inr ⟨w,_,a,_,rfl,hw,rfl,h1,e2,.inr ⟨z,rfl,rfl,hz⟩⟩
theorem word_sh {w:Str} (h:WOk w):SeqAt.shaped (.str w)=true:=by rcases h with rfl | rfl | rfl <;> decide +kernel
theorem word_ne {w:Str} (h:WOk w):decide (w = "line")=false/\decide (w = "step")=false:=by rcases h with rfl | rfl | rfl <;> decide +kernel
inductive IspNums (K:PySem.W.Frag) (vs:List V) (H:Hp) (Q:VK):Prop
  | mk (v:_) (ns:_) (h0:vs=[v]) (h1:RD K H v (.tuple (ns.map PyData.int))) (h2:ns.length<=3) (h3:(∀n∈ns,Nm n)) (h4:∀H',Same H H'->Q (.str (numsS ns)) H'):IspNums K vs H Q
def spNums (K:PySem.W.Frag):Sp:=fun vs H Q _=>IspNums K vs H Q
theorem noLs_strs (zs:List Str):noLs (zs.map PyData.str)=true:=noLs_mem.mpr fun d hd=>by
 obtain⟨z,_,rfl⟩:=List.mem_map.mp hd
 rfl
abbrev sSNs:Stmt:=top 21
theorem scSNs:FnScope ["numbers"] ["numbers"] (defScope sSNs):=⟨rfl,rfl,rfl,by decide +kernel,rfl,by decide +kernel,by decide +kernel⟩
theorem ok_sns (F:FA K mg "show_numbers" sSNs) (B:Blt mg):FnHas P w K mg base "show_numbers" 1 (spNums K):=by
 refine F.has scSNs (fun vs H Q E h=>?_) (fun _ _ _ _ _ _ us hl=>match us,hl with | [_],_=>rfl) (fun f cdv A outer s H vs Q E hr h=>?_)
 · obtain⟨v,ns,rfl,_⟩:=h
   rfl
 · obtain⟨v,ns,rfl,rv,hl,hb,k⟩:=h
   have nd:=scSNs.nd
   refine⟨_,(pss_one (ps_ret (peJoinT K rfl pe_str (pa_cons (pe_comp (N:=["number"]) (js:=[none]) rfl rfl rfl (piT K rfl (pv 0)) (fun _ _ _ _ _=>(pg_name (i:=0) (show List.Nodup (["number"]:List Str) by decide +kernel) rfl (Or.inl rfl))) (fun _ _ _ _ _=>pts_nil) (fun _ _ _ _ _=>(pe_callTy (x:="str") call_str1 rfl (B.at "str") PyProof.Rows.boot_str (pa_cons (pv 0) pa_nil)))) pa_nil)))),?_⟩
   obtain⟨a,xs,rfl,h1,h2⟩:=rv.tup_inv
   rw [h2.ints_inv] at h1
   refine⟨rfl,?_⟩
   refine⟨_,rfl,a,rfl,⟨_,h1⟩,fun D H1 n1=>?_⟩
   refine comp_rdT (K:=K) (ds:=(ns.map numS).map PyData.str) _ h1 n1 (by simp) (by simp; omega) (noLs_strs _) ?_ ?_
   · intro i x d H2 Q' ex ed s2 hq
     rw [List.getElem?_map] at ex
     obtain⟨n,en,rfl⟩:=Option.map_eq_some_iff.mp ex
     rw [List.getElem?_map,List.getElem?_map,en] at ed
     cases ed
     have hn:=hb n (List.mem_of_getElem? en)
     exact⟨_,rfl,.inl ⟨n,rfl,log_of hn,hq _ _ (Same.refl _) (rd_str _)⟩⟩
   · intro H2 zs s2 d2 r2
     rw [strs_inv r2] at d2
     refine⟨" ",D,ns.map numS,rfl,rfl,SqL.of d2,fun z hz=>?_,by decide +kernel,by rw [List.length_map]; omega,k _ s2⟩
     obtain⟨n,hn,rfl⟩:=List.mem_map.mp hz
     have:=num_len (hb n hn)
     omega
inductive IspIsl (K:PySem.W.Frag) (vs:List V) (H:Hp) (Q:VK):Prop
  | mk (v:_) (d:_) (h0:vs=[v]) (h1:RD K H v d) (h2:TI d) (h3:(∀b:Bool,(b=true ↔ ∃ns sp,d=lineD ns sp)->Q (.bl b) H)):IspIsl K vs H Q
def spIsl (K:PySem.W.Frag):Sp:=fun vs H Q _=>IspIsl K vs H Q
theorem ti_not {w:Str} {u:PyData} (h:WOk w):¬ ∃ns sp,PyData.tuple [.str w,u]=lineD ns sp:=by
 rintro⟨ns,sp,e⟩
 unfold lineD at e
 injection e with e
 injection e with e1 e2
 injection e2 with e2 e3
 cases e3
abbrev sIsL:Stmt:=top 14
theorem scIsL:FnScope ["item"] ["item"] (defScope sIsL):=⟨rfl,rfl,rfl,by decide +kernel,rfl,by decide +kernel,by decide +kernel⟩
theorem ok_isl (F:FA K mg "is_line" sIsL) (B:Blt mg):FnHas P w K mg base "is_line" 1 (spIsl K):=by
 refine F.has scIsL (fun vs H Q E h=>?_) (fun _ _ _ _ _ _ us hl=>match us,hl with | [_],_=>rfl) (fun f cdv A outer s H vs Q E hr h=>?_)
 · obtain⟨v,d,rfl,_⟩:=h
   rfl
 · obtain⟨v,d,rfl,rv,ti,k⟩:=h
   have nd:=scIsL.nd
   refine⟨_,(pss_one (ps_ret (pe_cmpR (eqK K rfl hr.units) (pe_ix (ixK K rfl) (pv 0) pe_int (fun _ _=>rfl)) pe_str (nomark _)))),?_⟩
   rcases ti_word rv ti with ⟨ns,sp,a,b,rfl,rfl,h1,_⟩ | ⟨w,u,a,y,rfl,hw,rfl,h1,_⟩
   · refine⟨_,rfl,.inr ⟨a,_,0,.str "line",rfl,rfl,h1,atI_of (Int.le_refl 0) rfl,.inr ⟨_,_,rd_str _,rd_str _,lineA,lineA,?_⟩⟩⟩
     rw [eqvS,decide_eq_true rfl]
     exact k true ⟨fun _=>⟨_,_,rfl⟩,fun _=>rfl⟩
   · refine⟨_,rfl,.inr ⟨a,_,0,.str w,rfl,rfl,h1,atI_of (Int.le_refl 0) rfl,.inr ⟨_,_,rd_str _,rd_str _,word_sh hw,lineA,?_⟩⟩⟩
     rw [eqvS,(word_ne hw).1]
     exact k false ⟨fun z=>(by cases z),fun z=>(ti_not hw z).elim⟩
inductive IspItx (K:PySem.W.Frag) (vs:List V) (H:Hp) (Q:VK):Prop
  | mk (v:_) (d:_) (h0:vs=[v]) (h1:RD K H v d) (h2:TI d) (h3:∀H',Same H H'->Q (.str (itmS d)) H'):IspItx K vs H Q
def spItx (K:PySem.W.Frag):Sp:=fun vs H Q _=>IspItx K vs H Q
abbrev sSIt:Stmt:=top 22
theorem scSIt:FnScope ["item","word","steps","speed","value"] ["item"] (defScope sSIt):=⟨rfl,rfl,rfl,by decide +kernel,rfl,by decide +kernel,by decide +kernel⟩
theorem ok_sit (F:FA K mg "show_item" sSIt) (B:Blt mg) (his_line:FnHas P w K mg base "is_line" 1 (spIsl K)) (hshow_numbers:FnHas P w K mg base "show_numbers" 1 (spNums K)):FnHas P w K mg base "show_item" 2 (spItx K):=by
 refine F.has scSIt (fun vs H Q E h=>?_) (fun _ _ _ _ _ _ us hl=>match us,hl with | [_],_=>rfl) (fun f cdv A outer s H vs Q E hr h=>?_)
 · obtain⟨v,d,rfl,_⟩:=h
   rfl
 · obtain⟨v,d,rfl,rv,ti,k⟩:=h
   have nd:=scSIt.nd
   have h24:sizeLine=16777216:=by decide
   have e1:Str.length " " = 1:=by decide +kernel
   have e2:Str.length "line" = 4:=by decide +kernel
   have e0:Str.empty.length=0:=by decide +kernel
   refine⟨_,(pss_cons (ps_if (pt_val (pe_fn his_line (hr.mono (by decide)) rfl (pa_cons (pv 0) pa_nil)))
   (pss_cons (ps_asg (pv 0) (pgT K rfl (n:=3) rfl (pgs_cons (pg_name (i:=1) nd rfl (Or.inl rfl)) (pgs_cons (pg_name (i:=2) nd rfl (Or.inl rfl)) (pgs_cons (pg_name (i:=3) nd rfl (Or.inl rfl)) pgs_nil)))))
   (pss_one (ps_ret (pe_js (pj_cons (pe_fv (pv 1)) (pj_cons pe_str (pj_cons (pe_fv (pe_fn hshow_numbers (hr.mono (by decide)) rfl (pa_cons (pv 2) pa_nil))) (pj_cons pe_str (pj_cons (pe_fv (pv 3)) pj_nil)))))))))
   pss_nil)
   (pss_cons (ps_asg (pv 0) (pgT K rfl (n:=2) rfl (pgs_cons (pg_name (i:=1) nd rfl (Or.inl rfl)) (pgs_cons (pg_name (i:=4) nd rfl (Or.inl rfl)) pgs_nil))))
   (pss_one (ps_ret (pe_js (pj_cons (pe_fv (pv 1)) (pj_cons pe_str (pj_cons (pe_fv (pv 4)) pj_nil)))))))),?_⟩
   refine⟨_,rfl,v,d,rfl,rv,ti,fun b hb=>⟨_,rfl,?_⟩⟩
   rcases ti_word rv ti with ⟨ns,sp,a,b',rfl,rfl,h1,r2,hl,hn,hs⟩ | ⟨w,u,a,y,rfl,hw,rfl,h1,ry,hv⟩
   · cases (hb.mpr ⟨_,_,rfl⟩)
     refine iteT ?_
     have h126:=nums_len hn hl
     have h41:=num_len hs
     refine⟨_,rfl,a,_,rfl,h1,rfl,_,_,rfl,_,_,rfl,_,_,rfl,rfl,?_⟩
     refine⟨_,rfl,.inr ⟨"line",rfl,by omega,_,rfl,by simp only [strLen_append]; omega,?_⟩⟩
     refine⟨_,rfl,by simp only [strLen_append]; omega,?_⟩
     refine⟨_,rfl,.ref b',ns,rfl,r2,hl,hn,fun H1 s1=>.inr ⟨_,rfl,by omega,_,rfl,by simp only [strLen_append]; omega,?_⟩⟩
     refine⟨_,rfl,by simp only [strLen_append]; omega,?_⟩
     refine⟨_,rfl,.inl ⟨sp,rfl,log_of hs,_,rfl,by simp only [strLen_append]; change _+(numS sp).length<=_; omega,?_⟩⟩
     refine⟨by simp only [strLen_append]; change _+(numS sp).length<=_; omega,?_⟩
     have e:Str.empty ++ "line" ++ " " ++ numsS ns ++ " " ++ numS sp=itmS (lineD ns sp):=by
      rw [itm_line,Str.empty_append]
      have:(Str.ofString "line" ++ Str.ofString " ")=Str.ofString "line ":=by decide +kernel
      rw [this]
     have:=k H1 s1
     rw [<- e] at this
     exact this
   · have hb':b=false:=by
       cases b with
       | false=>rfl
       | true=>exact (ti_not hw (hb.mp rfl)).elim
     subst hb'
     refine iteF ?_
     have w4:=word_len hw
     refine⟨_,rfl,a,_,rfl,h1,rfl,_,_,rfl,_,_,rfl,rfl,?_⟩
     refine⟨_,rfl,.inr ⟨w,rfl,by omega,_,rfl,by simp only [strLen_append]; omega,?_⟩⟩
     refine⟨_,rfl,by simp only [strLen_append]; omega,?_⟩
     have fin:=k H (Same.refl _)
     have e:Str.empty++w ++ " " ++ valS u=itmS (.tuple [.str w,u]):=by
      rw [Str.empty_append]
      rcases hv with ⟨i,rfl,_⟩ | ⟨z,rfl,_⟩ <;> rfl
     rw [<- e] at fin
     rcases hv with ⟨i,rfl,rfl,hi⟩ | ⟨z,rfl,rfl,hz⟩
     · have h41:=num_len hi
       refine⟨_,rfl,.inl ⟨i,rfl,log_of hi,_,rfl,by simp only [strLen_append]; change _+(numS i).length<=_; omega,?_⟩⟩
       exact⟨by simp only [strLen_append]; change _+(numS i).length<=_; omega,fin⟩
     · refine⟨_,rfl,.inr ⟨z,rfl,by omega,_,rfl,by simp only [strLen_append]; omega,?_⟩⟩
       exact⟨by simp only [strLen_append]; omega,fin⟩
theorem sz:sizeLine=16777216:=by decide
theorem sp1:Str.length " " = 1:=by decide +kernel
inductive IspItxs (K:PySem.W.Frag) (vs:List V) (H:Hp) (Q:VK):Prop
  | mk (v:_) (ds:_) (h0:vs=[v]) (h1:RD K H v (.tuple ds)) (h2:(∀d∈ds,TI d)) (h3:noLs ds=true) (h4:ds.length<=30) (h5:∀H',Same H H'->Q (.str (Txt.join "\n" (ds.map itmS))) H'):IspItxs K vs H Q
def spItxs (K:PySem.W.Frag):Sp:=fun vs H Q _=>IspItxs K vs H Q
abbrev sSIs:Stmt:=top 23
theorem scSIs:FnScope ["items"] ["items"] (defScope sSIs):=⟨rfl,rfl,rfl,by decide +kernel,rfl,by decide +kernel,by decide +kernel⟩
theorem ok_sis (F:FA K mg "show_items" sSIs) (B:Blt mg) (hshow_item:FnHas P w K mg base "show_item" 2 (spItx K)):FnHas P w K mg base "show_items" 3 (spItxs K):=by
 refine F.has scSIs (fun vs H Q E h=>?_) (fun _ _ _ _ _ _ us hl=>match us,hl with | [_],_=>rfl) (fun f cdv A outer s H vs Q E hr h=>?_)
 · obtain⟨v,ds,rfl,_⟩:=h
   rfl
 · obtain⟨v,ds,rfl,rv,ti,no,hl,k⟩:=h
   have nd:=scSIs.nd
   refine⟨_,(pss_one (ps_ret (peJoinT K rfl pe_str (pa_cons (pe_comp (N:=["item"]) (js:=[none]) rfl rfl rfl (piT K rfl (pv 0)) (fun _ _ _ _ _=>(pg_name (i:=0) (show List.Nodup (["item"]:List Str) by decide +kernel) rfl (Or.inl rfl))) (fun _ _ _ _ _=>pts_nil) (fun _ _ _ _ _=>(pe_fn hshow_item (hr.mono (by decide)) rfl (pa_cons (pv 0) pa_nil)))) pa_nil)))),?_⟩
   obtain⟨a,xs,rfl,h1,h2⟩:=rv.tup_inv
   have lx:=h2.length
   refine⟨rfl,?_⟩
   refine⟨_,rfl,a,rfl,⟨_,h1⟩,fun D H1 n1=>?_⟩
   refine comp_rdT (K:=K) (ds:=(ds.map itmS).map PyData.str) _ h1 n1 (by simp; exact lx) (by omega) (noLs_strs _) ?_ ?_
   · intro i x d H2 Q' ex ed s2 hq
     obtain⟨d',ed',rx⟩:=h2.get' i ex
     rw [List.getElem?_map,List.getElem?_map,ed'] at ed
     cases ed
     exact⟨_,rfl,x,d',rfl,RD.mono s2 _ rx,ti d' (List.mem_of_getElem? ed'),fun H3 s3=>hq _ _ s3 (rd_str _)⟩
   · intro H2 zs s2 d2 r2
     rw [strs_inv r2] at d2
     refine⟨"\n",D,ds.map itmS,rfl,rfl,SqL.of d2,fun z hz=>?_,by decide +kernel,by rw [List.length_map]; omega,k _ s2⟩
     obtain⟨d,hd,rfl⟩:=List.mem_map.mp hz
     have:=itm_len (ti d hd)
     omega
abbrev sLIt:Stmt:=top 35
theorem scLIt:FnScope ["_law_item_here"] ["_law_item_here"] (defScope sLIt):=⟨rfl,rfl,rfl,by decide +kernel,rfl,by decide +kernel,by decide +kernel⟩
theorem ok_lit (F:FA K mg "_law_item_text" sLIt) (B:Blt mg):FnHas P w K mg base "_law_item_text" 1 (spItx K):=by
 refine F.has scLIt (fun vs H Q E h=>?_) (fun _ _ _ _ _ _ us hl=>match us,hl with | [_],_=>rfl) (fun f cdv A outer s H vs Q E hr h=>?_)
 · obtain⟨v,d,rfl,_⟩:=h
   rfl
 · obtain⟨v,d,rfl,rv,ti,k⟩:=h
   have nd:=scLIt.nd
   refine⟨_,(pss_cons (ps_if (pt_cmpR (eqK K rfl hr.units) (pe_ix (ixK K rfl) (pv 0) pe_int (fun _ _=>rfl)) pe_str (nomark _))
   (pss_one (ps_ret (pe_op op_add_str (pe_op op_add_str (pe_op op_add_str pe_str (peJoinT K rfl pe_str (pa_cons (pe_comp (N:=["_law_step"]) (js:=[none]) rfl rfl rfl (piT K rfl (pe_ix (ixK K rfl) (pv 0) pe_int (fun _ _=>rfl))) (fun _ _ _ _ _=>(pg_name (i:=0) (show List.Nodup (["_law_step"]:List Str) by decide +kernel) rfl (Or.inl rfl))) (fun _ _ _ _ _=>pts_nil) (fun _ _ _ _ _=>(pe_callTy (x:="str") call_str1 rfl (B.at "str") PyProof.Rows.boot_str (pa_cons (pv 0) pa_nil)))) pa_nil))) pe_str) (pe_callTy (x:="str") call_str1 rfl (B.at "str") PyProof.Rows.boot_str (pa_cons (pe_ix (ixK K rfl) (pv 0) pe_int (fun _ _=>rfl)) pa_nil)))))
   pss_nil)
   (pss_one (ps_ret (pe_op op_add_str (pe_op op_add_str (pe_ix (ixK K rfl) (pv 0) pe_int (fun _ _=>rfl)) pe_str) (pe_callTy (x:="str") call_str1 rfl (B.at "str") PyProof.Rows.boot_str (pa_cons (pe_ix (ixK K rfl) (pv 0) pe_int (fun _ _=>rfl)) pa_nil)))))),?_⟩
   have hs:=sz
   have h1':=sp1
   have h5:Str.length "line " = 5:=by decide +kernel
   rcases ti_word rv ti with ⟨ns,sp,a,b,rfl,rfl,h1,r2,hl,hn,hsp⟩ | ⟨w,u,a,y,rfl,hw,rfl,h1,ry,hv⟩
   · refine⟨_,rfl,.inr ⟨a,_,0,.str "line",rfl,rfl,h1,atI_of (Int.le_refl 0) rfl,.inr ⟨_,_,rd_str _,rd_str _,lineA,lineA,_,rfl,?_⟩⟩⟩
     rw [eqvS,decide_eq_true rfl]
     refine iteT ?_
     have h126:=nums_len hn hl
     have h41:=num_len hsp
     obtain⟨b',xs,e',g1,g2⟩:=r2.tup_inv
     cases e'
     rw [g2.ints_inv] at g1
     refine⟨rfl,?_⟩
     refine⟨_,rfl,.inr ⟨a,_,1,.ref b,rfl,rfl,h1,atI_of (by decide) rfl,b,rfl,⟨_,g1⟩,fun D H1 n1=>?_⟩⟩
     refine comp_rdT (K:=K) (ds:=(ns.map numS).map PyData.str) _ g1 n1 (by simp) (by simp; omega) (noLs_strs _) ?_ ?_
     · intro i x d H2 Q' ex ed s2 hq
       rw [List.getElem?_map] at ex
       obtain⟨n,en,rfl⟩:=Option.map_eq_some_iff.mp ex
       rw [List.getElem?_map,List.getElem?_map,en] at ed
       cases ed
       have hn:=hn n (List.mem_of_getElem? en)
       exact⟨_,rfl,.inl ⟨n,rfl,log_of hn,hq _ _ (Same.refl _) (rd_str _)⟩⟩
     · intro H2 zs s2 d2 r2
       rw [strs_inv r2] at d2
       refine⟨" ",D,ns.map numS,rfl,rfl,SqL.of d2,fun z hz=>?_,by decide +kernel,by rw [List.length_map]; omega,?_⟩
       · obtain⟨n,hn',rfl⟩:=List.mem_map.mp hz
         have:=num_len (hn n hn')
         omega
       refine⟨_,_,rfl,rfl,by change _+(numsS ns).length<=_; omega,?_⟩
       refine⟨_,_,rfl,rfl,by simp only [strLen_append]; change _+(numsS ns).length+_<=_; omega,?_⟩
       refine⟨_,rfl,.inr ⟨a,_,2,.int sp,rfl,rfl,h1.go s2,atI_of (by decide) rfl,.inl ⟨sp,rfl,log_of hsp,?_⟩⟩⟩
       refine⟨_,_,rfl,rfl,by simp only [strLen_append]; change _+(numsS ns).length+_+(numS sp).length<=_; omega,?_⟩
       have:=k H2 s2
       rw [itm_line] at this
       exact this
   · refine⟨_,rfl,.inr ⟨a,_,0,.str w,rfl,rfl,h1,atI_of (Int.le_refl 0) rfl,.inr ⟨_,_,rd_str _,rd_str _,word_sh hw,lineA,_,rfl,?_⟩⟩⟩
     rw [eqvS,(word_ne hw).1]
     refine iteF ?_
     have w4:=word_len hw
     have fin:=k H (Same.refl _)
     refine⟨_,rfl,.inr ⟨a,_,0,.str w,rfl,rfl,h1,atI_of (Int.le_refl 0) rfl,?_⟩⟩
     refine⟨_,_,rfl,rfl,by omega,?_⟩
     refine⟨_,rfl,.inr ⟨a,_,1,y,rfl,rfl,h1,atI_of (by decide) rfl,?_⟩⟩
     rcases hv with ⟨i,rfl,rfl,hi⟩ | ⟨z,rfl,rfl,hz⟩
     · have h41:=num_len hi
       exact .inl ⟨i,rfl,log_of hi,_,_,rfl,rfl,by simp only [strLen_append]; change _+(numS i).length<=_; omega,fin⟩
     · exact .inr ⟨z,rfl,_,_,rfl,rfl,by simp only [strLen_append]; omega,fin⟩
end
end Lw
set_option Elab.async false
set_option linter.all false
set_option maxRecDepth 100000
set_option maxHeartbeats 1000000
set_option exponentiation.threshold 6000
namespace Lw
open PySem PySem.Spec PyProof.Rows L2 Rt Ln Wk
section
variable {P:Program} {w:World} {K:PySem.W.Frag} {mg:Str->Option Value} {base:Heap}
def OkS (z:Str):Prop:=∀c∈z.cps.toList,c<0x110000
theorem OkS.app {a b:Str} (ha:OkS a) (hb:OkS b):OkS (a++b):=fun c hc=>by
 rw [PySem.Str.cps_append,Array.toList_append,List.mem_append] at hc
 exact hc.elim (ha c) (hb c)
theorem OkS.joined {sep:Str} (hs:OkS sep):∀l:List Str,(∀a∈l,OkS a)->OkS (PySem.Str.join sep l)
  | [],_=>fun c hc=>by simp [PySem.Str.join,PySem.Str.empty] at hc
  | [x],h=>h x (.head _)
  | x::y::r,h=>((h x (.head _)).app hs).app (OkS.joined hs (y::r) fun a ha=>h a (.tail _ ha))
theorem OkS.join {sep:Str} {l:List Str} (hs:OkS sep) (h:∀a∈l,OkS a):OkS (Txt.join sep l):=by
 show OkS (Builtin.Str.glued sep l)
 rw [StrLaws.glued_eq_join]
 exact OkS.joined hs l h
theorem okd_str {n:Nat} {z:Str} (h:OkS z):OkD n (.str z):=⟨by
 show PyData.strOk z=true
 unfold PyData.strOk
 rw [Array.all_eq_true_iff_forall_mem]
 exact fun c hc=>decide_eq_true (h c (by simpa using hc)),Nat.zero_le _⟩
theorem oks_of {n:Nat} {z:Str} (h:OkD n (.str z)):OkS z:=fun c hc=>by
 have q:PyData.strOk z=true:=h.lay
 unfold PyData.strOk at q
 rw [Array.all_eq_true_iff_forall_mem] at q
 exact of_decide_eq_true (q c (by simpa using hc))
theorem oks_lit {z:Str} (h:z.cps.all (· < 0x110000)=true):OkS z:=oks_of (n:=0) ⟨h,Nat.zero_le _⟩
theorem str_list2:∀(ds:List PyData),(∀d∈ds,∃z:Str,d = .str z/\z.length=1/\OkS z/\z.cps.toList.all (fun c=>decide (97<=c) && decide (c<=122))=true) -> ∃zs:List Str,ds=zs.map PyData.str /\ ∀z∈zs,z.length=1/\OkS z/\z.cps.toList.all (fun c=>decide (97<=c) && decide (c<=122))=true
  | [],_=>⟨[],rfl,fun _ h=>nomatch h⟩
  | d::ds,h=>by
    obtain⟨z,rfl,e⟩:=h d (.head _)
    obtain⟨zs,rfl,q⟩:=str_list2 ds fun x hx=>h x (.tail _ hx)
    exact ⟨z::zs,rfl,fun y hy=>by
     rcases List.mem_cons.mp hy with rfl | hy
     · exact e
     · exact q y hy⟩
theorem abc_ok:OkS abc:=oks_lit (by decide +kernel)
def lwC (c:Nat):Bool:=decide (97<=c) && decide (c<=122)
def nameB (s:Str):Bool:=(decide (1<=s.length) && decide (s.length<=8)) && s.cps.toList.all lwC
def othN (w s:Str):Prop:=(w = "tool" /\ (s = "up" \/ s = "down")) \/ (w = "mark" /\ nameB s=true)
def OthOk (d:PyData):Prop:=(∃n,d = .tuple [.str "wait",.int n]/\1<=n/\n<=1000) \/ ∃w s,d = .tuple [.str w,.str s]/\(w = "tool" \/ w = "mark")/\OkD 0 (.str s)/\othN w s
theorem glue_cps:∀l:List Str,(PySem.Str.join ("" : Str) l).cps.toList=(l.map fun z=>z.cps.toList).flatten
  | []=>by simp [PySem.Str.join,PySem.Str.empty]
  | [x]=>by simp [PySem.Str.join]
  | x::y::r=>by
    show ((x++("" : Str))++PySem.Str.join ("" : Str) (y::r)).cps.toList=_
    rw [PySem.Str.cps_append,PySem.Str.cps_append,Array.toList_append,Array.toList_append,glue_cps (y::r)]
    have:(("" : Str)).cps.toList=[]:=by decide +kernel
    rw [this]
    simp
theorem name_glue {l:List Str} (h1:1<=l.length) (h8:l.length<=8) (h:∀z∈l,z.length=1/\z.cps.toList.all lwC=true):nameB (Txt.join ("" : Str) l)=true:=by
 have e:(Txt.join ("" : Str) l).cps.toList=(l.map fun z=>z.cps.toList).flatten:=by
  show (Builtin.Str.glued ("" : Str) l).cps.toList=_
  rw [StrLaws.glued_eq_join]; exact glue_cps l
 have el:(Txt.join ("" : Str) l).length=l.length:=by
  show (Txt.join ("" : Str) l).cps.size=_
  rw [<- Array.length_toList,e,List.length_flatten,List.map_map]
  have:∀(l:List Str),(∀z∈l,z.length=1/\z.cps.toList.all lwC=true)->(l.map (List.length ∘ fun z=>z.cps.toList)).sum=l.length:=by
   intro l
   induction l with
   | nil=>intro _; rfl
   | cons a r ih=>
     intro h
     rw [List.map_cons,List.sum_cons,ih fun z hz=>h z (.tail _ hz),List.length_cons]
     have:=(h a (.head _)).1
     have e2:(List.length ∘ fun z:Str=>z.cps.toList) a=1:=by
      show a.cps.toList.length=1
      rw [Array.length_toList]; exact this
     rw [e2,Nat.add_comm]
  exact this l h
 unfold nameB
 rw [el,e,decide_eq_true h1,decide_eq_true h8,Bool.true_and,Bool.true_and,List.all_eq_true]
 intro c hc
 obtain⟨cs,hcs,hc2⟩:=List.mem_flatten.mp hc
 obtain⟨z,hz,rfl⟩:=List.mem_map.mp hcs
 exact List.all_eq_true.mp (h z hz).2 c hc2
theorem OthOk.it {d:PyData} (h:OthOk d):itR d none:=by
 rcases h with ⟨n,rfl,_⟩ | ⟨w,s,rfl,hw | hw,_⟩
 · exact .inr ⟨_,_,rfl,.inl rfl,rfl,rfl⟩
 · exact .inr ⟨_,_,rfl,.inr (.inl hw),rfl,rfl⟩
 · exact .inr ⟨_,_,rfl,.inr (.inr hw),rfl,rfl⟩
end
end Lw
set_option Elab.async false
set_option linter.all false
set_option maxRecDepth 100000
set_option maxHeartbeats 1000000
set_option exponentiation.threshold 6000
namespace Lw
open PySem PySem.Spec PyProof.Rows L2 Rt Ln Wk
section
variable {P:Program} {w:World} {K:PySem.W.Frag} {mg:Str->Option Value} {base:Heap}
structure ItOk (n:Nat) (d:PyData) (o:Itm):Prop where
 it:itR d o
 ln:∀ns sp,o=some (ns,sp)->OkL n 100 ns/\1<=sp/\sp<=20
 ot:o=none->OthOk d
theorem name_is {z:Str} (h:nameB z=true):isNm (.str z)=true:=h
theorem any_nz:∀ {ns:List Int},(∃z∈ns,z≠0)->(ns.map PyData.int).any nzD=true:=fun {ns} ⟨z,hz,h⟩=>List.any_eq_true.mpr ⟨.int z,List.mem_map.mpr ⟨z,hz,rfl⟩,by show (z != 0)=true; simpa using h⟩
theorem all_in {ns:List Int} (h:∀z∈ns,(z.natAbs:Int)<=100):(ns.map PyData.int).all (inW (-100) 100)=true:=by
 rw [List.all_eq_true]
 intro d hd
 obtain⟨z,hz,rfl⟩:=List.mem_map.mp hd
 have:=h z hz
 show (decide (-100<=z) && decide (z<=100))=true
 rw [decide_eq_true (by omega),decide_eq_true (by omega)]; rfl
theorem ItOk.is {n:Nat} {d:PyData} {o:Itm} (h:ItOk n d o):isItm n d=true/\OkD 8 d/\shT d=true:=by
 cases o with
 | some q=>
   obtain⟨ns,sp⟩:=q
   have ed:=it_line h.it
   subst ed
   obtain⟨okn,s1,s2⟩:=h.ln ns sp rfl
   refine⟨?_,?_,rfl⟩
   · show (isT "line" (.str "line") && (okSt n (.tuple (ns.map PyData.int)) && inW 1 20 (.int sp)))=true
     have e1:isT "line" (.str "line")=true:=by decide +kernel
     have e2:okSt n (.tuple (ns.map PyData.int))=true:=by
      show (((ns.map PyData.int).length == n && (ns.map PyData.int).all (inW (-100) 100)) && (ns.map PyData.int).any nzD)=true
      rw [all_in okn.bd,any_nz okn.nz,List.length_map,okn.len,beq_self_eq_true]; rfl
     have e3:inW 1 20 (.int sp)=true:=by
      show (decide (1<=sp) && decide (sp<=20))=true
      rw [decide_eq_true s1,decide_eq_true s2]; rfl
     rw [e1,e2,e3]; rfl
   · refine (OkDs.tup (n:=1) (.cons ⟨by decide +kernel,Nat.zero_le _⟩ (.cons (OkDs.tup (n:=0) fun d hd=>?_) (.cons (.int _) .nil)))).le (by decide)
     obtain⟨a,_,rfl⟩:=List.mem_map.mp hd
     exact .int _
 | none=>
   rcases h.ot rfl with ⟨z,rfl,z1,z2⟩ | ⟨w,s,rfl,hw,oks,on⟩
   · refine⟨?_,(OkDs.tup (n:=0) (.cons ⟨by decide +kernel,Nat.zero_le _⟩ (.cons (.int _) .nil))).le (by decide),rfl⟩
     show isShort (.str "wait") (.int z)=true
     unfold isShort
     rw [if_pos (by decide +kernel)]
     show (decide (1<=z) && decide (z<=1000))=true
     rw [decide_eq_true z1,decide_eq_true z2]; rfl
   · have l900:shE (.str s)=true:=by
       refine decide_eq_true ?_
       rcases on with ⟨_,rfl | rfl⟩ | ⟨_,hn⟩
       · decide +kernel
       · decide +kernel
       · unfold nameB at hn
         simp only [Bool.and_eq_true,decide_eq_true_eq] at hn
         omega
     refine⟨?_,(OkDs.tup (n:=0) (.cons ?_ (.cons oks .nil))).le (by decide),?_⟩
     · rcases on with ⟨rfl,hs⟩ | ⟨rfl,hn⟩
       · show isShort (.str "tool") (.str s)=true
         unfold isShort
         rw [if_neg (by decide +kernel),if_pos (by decide +kernel)]
         rcases hs with rfl | rfl <;> decide +kernel
       · show isShort (.str "mark") (.str s)=true
         unfold isShort
         rw [if_neg (by decide +kernel),if_neg (by decide +kernel)]
         rw [name_is hn]; decide +kernel
     · rcases hw with rfl | rfl <;> exact⟨by decide +kernel,Nat.zero_le _⟩
     · show ([.str w,.str s]:List PyData).all shE=true
       rw [List.all_cons,List.all_cons,List.all_nil,l900]
       rcases hw with rfl | rfl <;> decide +kernel
end
end Lw
set_option Elab.async false
set_option linter.all false
set_option maxRecDepth 100000
set_option maxHeartbeats 1000000
set_option exponentiation.threshold 6000
namespace Lw
open PySem PySem.Spec PyProof.Rows L2 Rt Ln Wk
section
variable {P:Program} {w:World} {K:PySem.W.Frag} {mg:Str->Option Value} {base:Heap}
abbrev sMach:Stmt:=top 32
theorem scMach:FnScope ["_law_bag_here","_law_axes","_law_far","_law_rails","_law_bounds"] ["_law_bag_here"] (defScope sMach):=⟨rfl,rfl,rfl,by decide +kernel,rfl,by decide +kernel,by decide +kernel⟩
theorem ok_mach (F:FA K mg "_law_machine" sMach) (B:Blt mg) (hL_take:FnHas P w K mg base "_law_take" 1 spTake):FnHas P w K mg base "_law_machine" 2 (spMach K):=by
 refine F.has scMach (fun vs H Q E h=>?_) (fun _ _ _ _ _ _ us hl=>match us,hl with | [_],_=>rfl) (fun f cdv A outer s H vs Q E hr h=>?_)
 · obtain⟨p,rfl,_⟩:=h
   rfl
 · obtain⟨p,rfl,bg,k⟩:=h
   have nd:=scMach.nd
   refine⟨_,(pss_cons (ps_set (i:=1) nd rfl (Or.inl rfl) (pe_op op_add pe_int (pe_fn hL_take (hr.mono (by decide)) rfl (pa_cons (pv 0) (pa_cons pe_int pa_nil)))))
   (pss_cons (ps_set (i:=2) nd rfl (Or.inr rfl) (pe_ix (ixK K rfl) (pe_lstA (pa_cons pe_int (pa_cons pe_int pa_nil))) (pe_fn hL_take (hr.mono (by decide)) rfl (pa_cons (pv 0) (pa_cons pe_int pa_nil))) (fun _ _=>rfl)))
   (pss_cons (ps_set (i:=3) nd rfl (Or.inl rfl) (pe_callTy (x:="tuple") (tupleK K rfl) rfl (B.at "tuple") PyProof.Rows.boot_tuple (pa_cons (pe_comp (N:=["_law_axis","_law_bag_here","_law_far"]) (js:=[none,some 0,some 2]) rfl rfl rfl (pi_range1 rfl (B.at "range") (pa_cons (pv 1) pa_nil)) (fun _ _ _ _ _=>(pg_name (i:=0) (show List.Nodup (["_law_axis","_law_bag_here","_law_far"]:List Str) by decide +kernel) rfl (Or.inl rfl))) (fun _ _ _ _ _=>pts_nil) (fun _ _ _ _ _=>(pe_op op_add pe_int (pe_fn hL_take (hr.mono (by decide)) rfl (pa_cons (pv 1) (pa_cons (pv 2) pa_nil)))))) pa_nil)))
   (pss_cons (ps_set (i:=4) nd rfl (Or.inl rfl) (pe_callTy (x:="tuple") (tupleK K rfl) rfl (B.at "tuple") PyProof.Rows.boot_tuple (pa_cons (pe_comp (N:=["_law_k","_law_bag_here"]) (js:=[none,some 0]) rfl rfl rfl (pi_range1 rfl (B.at "range") (pa_cons pe_int pa_nil)) (fun _ _ _ _ _=>(pg_name (i:=0) (show List.Nodup (["_law_k","_law_bag_here"]:List Str) by decide +kernel) rfl (Or.inl rfl))) (fun _ _ _ _ _=>pts_nil) (fun _ _ _ _ _=>(pe_op op_add pe_int (pe_fn hL_take (hr.mono (by decide)) rfl (pa_cons (pv 1) (pa_cons pe_int pa_nil)))))) pa_nil)))
   (pss_one (ps_ret (pe_op (catU K rfl) (pe_op (catU K rfl) (pe_tupA (pa_cons (pv 3) pa_nil)) (pv 4)) (pe_tupA (pa_cons (pe_op op_add pe_int (pe_fn hL_take (hr.mono (by decide)) rfl (pa_cons (pv 0) (pa_cons pe_int pa_nil)))) pa_nil))))))))),?_⟩
   refine⟨_,rfl,p,2,rfl,bg,by decide,by decide,fun t0 H1 t00 t01 b1=>?_⟩
   refine⟨_,_,rfl,rfl,?_⟩
   refine⟨smallN _ (Nat.le_of_ble_eq_true rfl),fun l H2 nw=>?_⟩
   have b2:BagX p H1 H2:=.ofSame b1.bag nw.same
   have lne:l≠p:=fun e=>b1.bag.ne (e ▸ nw.no)
   refine⟨_,rfl,p,2,rfl,b2.bag,by decide,by decide,fun i H3 i0 i1 b3=>?_⟩
   obtain⟨far,mf,ef⟩:=ints_ix [100,20] i0 i1
   have f1:1<=far/\far<=100:=by
    rcases List.mem_cons.mp mf with rfl | mf
    · exact⟨by decide,by decide⟩
    rcases List.mem_cons.mp mf with rfl | mf
    · exact⟨by decide,by decide⟩
    · exact (List.not_mem_nil mf).elim
   refine .inl ⟨l,_,_,_,rfl,rfl,SqL.of (b3.same _ _ lne nw.at'),ef,?_⟩
   refine⟨_,rfl,_,rfl,by omega,by omega,fun D H4 n4=>?_⟩
   have hN:(2+t0).toNat<=1000:=by omega
   refine comp_bag (2+t0).toNat [some (.ref p),some (.int far)] n4 b3.bag hN (fun i=>.int (0+(i:Int))) (fun i H5 hi b5=>⟨hi,fun y H6 ⟨e1,e2⟩=>⟨e1,e2⟩⟩) (fun H5 b5=>Nat.le_refl _) (fun z=>1<=z/\z<=100) ?_ ?_
   · intro i H5 Q' hi b5 hq
     refine⟨_,rfl,_,rfl,p,far,rfl,b5.bag,f1.1,by omega,fun z H6 z0 z1 b6=>?_⟩
     exact⟨_,_,rfl,rfl,hq _ _ ⟨by omega,by omega⟩ b6⟩
   intro H5 rs b5 d5 lr pr
   refine⟨D,_,rfl,.inl ⟨SqL.of d5,fun q H6 n6=>?_⟩⟩
   have b6:BagX p H5 H6:=.ofSame b5.bag n6.same
   refine⟨3,rfl,by decide,by decide,fun D2 H7 n7=>?_⟩
   refine comp_bag 3 [some (.ref p)] n7 b6.bag (by decide) (fun i=>.int (0+(i:Int))) (fun i H8 hi b8=>⟨hi,fun y H9 ⟨e1,e2⟩=>⟨e1,e2⟩⟩) (fun H8 b8=>Nat.le_refl _) (fun z=>1<=z/\z<=50) ?_ ?_
   · intro i H8 Q' hi b8 hq
     refine⟨_,rfl,p,50,rfl,b8.bag,by decide,by decide,fun z H9 z0 z1 b9=>?_⟩
     exact⟨_,_,rfl,rfl,hq _ _ ⟨by omega,by omega⟩ b9⟩
   intro H8 bs b8 d8 lb pb
   refine⟨D2,_,rfl,.inl ⟨SqL.of d8,fun q2 H9 n9=>?_⟩⟩
   have b9:BagX p H8 H9:=.ofSame b8.bag n9.same
   refine⟨_,rfl,smallN _ (Nat.le_of_ble_eq_true rfl),fun t1 H10 n10=>?_⟩
   have b10:BagX p H9 H10:=.ofSame b9.bag n10.same
   match bs,lb,pb,n9 with
   | [x1,x2,x3],_,pb,n9=>
     have p1:=pb x1 (.head _)
     have p2:=pb x2 (.tail _ (.head _))
     have p3:=pb x3 (.tail _ (.tail _ (.head _)))
     refine⟨_,rfl,t1,q2,_,_,rfl,rfl,SqT.of n10.at',SqT.of (n10.same _ _ n9.at'),smallN _ (Nat.le_of_ble_eq_true rfl),fun v1 H11 s11 a11=>?_⟩
     have b11:BagX p H10 H11:=.ofSame b10.bag s11
     refine⟨_,rfl,p,100,rfl,b11.bag,by decide,by decide,fun z H12 z0 z1 b12=>?_⟩
     refine⟨_,_,rfl,rfl,smallN _ (Nat.le_of_ble_eq_true rfl),fun t2 H13 n13=>?_⟩
     have b13:BagX p H12 H13:=.ofSame b12.bag n13.same
     refine⟨v1,t2,_,_,rfl,rfl,(SqT.t (BagX.t b11.bag b12) a11).go n13.same,SqT.of n13.at',smallN _ (Nat.le_of_ble_eq_true rfl),fun v2 H14 s14 a14=>?_⟩
     have b14:BagX p H13 H14:=.ofSame b13.bag s14
     have sq:SqT K H14 q (rs.map V.int):=SqT.t (BagX.t b6.bag (b8.trans (b9.trans (b10.trans (b11.trans (b12.trans (b13.trans b14))))))) (SqT.of n6.at')
     refine k (.ref v2) rs x1 x2 x3 (1+z) H14 (rd_tup a14 (rds_cons (rd_tup sq (rds_ints rs)) (rds_cons (rd_int _) (rds_cons (rd_int _) (rds_cons (rd_int _) (rds_cons (rd_int _) rds_nil)))))) ⟨by omega,pr,p1,p2,p3,by omega⟩ (b1.trans (b2.trans (b3.trans (b5.trans (b6.trans (b8.trans (b9.trans (b10.trans (b11.trans (b12.trans (b13.trans b14)))))))))))
inductive IspName (vs:List V) (H:Hp) (Q:VK):Prop
  | mk (p:_) (h0:vs=[.ref p]) (h1:IsBag H p) (h2:∀z H',OkD 0 (.str z)->nameB z=true->BagX p H H'->Q (.str z) H'):IspName vs H Q
def spName (K:PySem.W.Frag):Sp:=fun vs H Q _=>IspName vs H Q
abbrev sName:Stmt:=top 33
theorem scName:FnScope ["_law_bag_here"] ["_law_bag_here"] (defScope sName):=⟨rfl,rfl,rfl,by decide +kernel,rfl,by decide +kernel,by decide +kernel⟩
theorem ok_name (F:FA K mg "_law_name" sName) (B:Blt mg) (hL_take:FnHas P w K mg base "_law_take" 1 spTake):FnHas P w K mg base "_law_name" 2 (spName K):=by
 refine F.has scName (fun vs H Q E h=>?_) (fun _ _ _ _ _ _ us hl=>match us,hl with | [_],_=>rfl) (fun f cdv A outer s H vs Q E hr h=>?_)
 · obtain⟨p,rfl,_⟩:=h
   rfl
 · obtain⟨p,rfl,bg,k⟩:=h
   have nd:=scName.nd
   refine⟨_,(pss_one (ps_ret (peJoinT K rfl pe_str (pa_cons (pe_comp (N:=["_law_k","_law_bag_here"]) (js:=[none,some 0]) rfl rfl rfl (pi_range1 rfl (B.at "range") (pa_cons (pe_op op_add pe_int (pe_fn hL_take (hr.mono (by decide)) rfl (pa_cons (pv 0) (pa_cons pe_int pa_nil)))) pa_nil)) (fun _ _ _ _ _=>(pg_name (i:=0) (show List.Nodup (["_law_k","_law_bag_here"]:List Str) by decide +kernel) rfl (Or.inl rfl))) (fun _ _ _ _ _=>pts_nil) (fun _ _ _ _ _=>(pe_ix ix_str pe_str (pe_fn hL_take (hr.mono (by decide)) rfl (pa_cons (pv 1) (pa_cons pe_int pa_nil))) (fun _ _=>rfl)))) pa_nil)))),?_⟩
   refine⟨rfl,?_⟩
   refine⟨_,rfl,p,8,rfl,bg,by decide,by decide,fun n H1 n0 n1 b1=>?_⟩
   refine⟨_,_,rfl,rfl,_,rfl,by omega,by omega,fun D H2 nD=>?_⟩
   refine comp_rdB (K:=K) (J:=Itr 0 (1+n).toNat) (p:=p) (H:=H1) (1+n).toNat _ nD b1.bag (by omega) (fun i=>.int (0+(i:Int))) (fun i H3 hi _=>⟨hi,fun y H4 ⟨e,q⟩=>⟨e,q⟩⟩) (fun H3 _=>Nat.le_refl _) (fun _ d=>∃z:Str,d = .str z/\z.length=1/\OkS z/\z.cps.toList.all (fun c=>decide (97<=c) && decide (c<=122))=true) ?_ ?_
   · intro i H3 Q' hi b3 hq
     refine⟨_,rfl,p,26,rfl,b3.bag,by decide,by decide,fun d H4 d0 d1 b4=>?_⟩
     have hd:d.toNat<abc.cps.toList.length:=by rw [abc_len]; omega
     refine⟨abc,d,abc.cps.toList[d.toNat],rfl,rfl,by decide +kernel,atI_of d0 (List.getElem?_eq_getElem hd),?_⟩
     have ok1:OkS ⟨#[abc.cps.toList[d.toNat]]⟩:=fun c hc=>by
      have hc':c=abc.cps.toList[d.toNat]:=List.mem_singleton.mp hc
      rw [hc']; exact abc_ok _ (List.getElem_mem hd)
     have ok2:(⟨#[abc.cps.toList[d.toNat]]⟩ : Str).cps.toList.all (fun c=>decide (97<=c) && decide (c<=122))=true:=by
      have:=List.all_eq_true.mp (show abc.cps.toList.all (fun c=>decide (97<=c) && decide (c<=122))=true by decide +kernel) _ (List.getElem_mem hd)
      show ([abc.cps.toList[d.toNat]]:List Nat).all _=true
      rw [List.all_cons,List.all_nil,Bool.and_true]; exact this
     exact hq _ _ _ ⟨_,rfl,rfl,ok1,ok2⟩ rfl (rd_str _) b4
   · intro H3 ys ds b3 d3 r3 l3 nl pd
     obtain ⟨zs,rfl,hz⟩:=str_list2 ds fun d hd=>by
      obtain⟨i,hi⟩:=List.mem_iff_getElem?.mp hd
      exact pd i d hi
     rw [strs_inv r3] at d3
     rw [List.length_map] at l3
     refine⟨"",D,zs,rfl,rfl,SqL.of d3,fun z hz'=>by rw [(hz z hz').1]; decide,by decide,by omega,?_⟩
     exact k _ _ (okd_str (OkS.join (oks_lit (by decide +kernel)) fun a ha=>(hz a ha).2.1)) (name_glue (by omega) (by omega) fun z hz'=>⟨(hz z hz').1,(hz z hz').2.2⟩) (b1.trans b3)
inductive IspItem (K:PySem.W.Frag) (vs:List V) (H:Hp) (Q:VK):Prop
  | mk (p:Addr) (ax:Nat) (h0:vs=[.ref p,.int ax]) (h1:IsBag H p) (h2:1<=ax) (h3:ax<=3) (h4:∀v d o H',RD K H' v d->ItOk ax d o->BagX p H H'->Q v H'):IspItem K vs H Q
def spItem (K:PySem.W.Frag):Sp:=fun vs H Q _=>IspItem K vs H Q
theorem ItOk.oth {n:Nat} {d:PyData} (h:OthOk d):ItOk n d none:=⟨h.it,(fun _ _ z=>nomatch z),fun _=>h⟩
abbrev sItem:Stmt:=top 34
theorem scItem:FnScope ["_law_bag_here","_law_axes","_law_sort","_law_speed","_law_most","_law_steps"] ["_law_bag_here","_law_axes"] (defScope sItem):=⟨rfl,rfl,rfl,by decide +kernel,rfl,by decide +kernel,by decide +kernel⟩
theorem ok_item (F:FA K mg "_law_item" sItem) (B:Blt mg) (hL_take:FnHas P w K mg base "_law_take" 1 spTake) (hL_name:FnHas P w K mg base "_law_name" 2 (spName K)):FnHas P w K mg base "_law_item" 3 (spItem K):=by
 refine F.has scItem (fun vs H Q E h=>?_) (fun _ _ _ _ _ _ us hl=>match us,hl with | [_,_],_=>rfl) (fun f cdv A outer s H vs Q E hr h=>?_)
 · obtain⟨p,ax,rfl,_⟩:=h
   rfl
 · obtain⟨p,ax,rfl,bg,ax1,ax2,k⟩:=h
   have nd:=scItem.nd
   refine⟨_,(pss_cons (ps_set (i:=2) nd rfl (Or.inl rfl) (pe_fn hL_take (hr.mono (by decide)) rfl (pa_cons (pv 0) (pa_cons pe_int pa_nil))))
   (pss_cons (ps_if (pt_cmpR (eqK K rfl hr.units) (pv 2) pe_int (nomark _))
   (pss_one (ps_ret (pe_tupA (pa_cons pe_str (pa_cons (pe_op op_add pe_int (pe_fn hL_take (hr.mono (by decide)) rfl (pa_cons (pv 0) (pa_cons pe_int pa_nil)))) pa_nil)))))
   pss_nil)
   (pss_cons (ps_if (pt_cmpR (eqK K rfl hr.units) (pv 2) pe_int (nomark _))
   (pss_one (ps_ret (pe_tupA (pa_cons pe_str (pa_cons (pe_ix (ixK K rfl) (pe_lstA (pa_cons pe_str (pa_cons pe_str pa_nil))) (pe_fn hL_take (hr.mono (by decide)) rfl (pa_cons (pv 0) (pa_cons pe_int pa_nil))) (fun _ _=>rfl)) pa_nil)))))
   pss_nil)
   (pss_cons (ps_if (pt_cmpR (eqK K rfl hr.units) (pv 2) pe_int (nomark _))
   (pss_one (ps_ret (pe_tupA (pa_cons pe_str (pa_cons (pe_fn hL_name (hr.mono (by decide)) rfl (pa_cons (pv 0) pa_nil)) pa_nil)))))
   pss_nil)
   (pss_cons (ps_set (i:=3) nd rfl (Or.inl rfl) (pe_op op_add pe_int (pe_fn hL_take (hr.mono (by decide)) rfl (pa_cons (pv 0) (pa_cons pe_int pa_nil)))))
   (pss_cons (ps_set (i:=4) nd rfl (Or.inr rfl) (pe_ix (ixK K rfl) (pe_lstA (pa_cons pe_int (pa_cons pe_int (pa_cons pe_int pa_nil)))) (pe_fn hL_take (hr.mono (by decide)) rfl (pa_cons (pv 0) (pa_cons pe_int pa_nil))) (fun _ _=>rfl)))
   (pss_cons (ps_setC (i0:=5) nd rfl (Or.inl rfl) (N:=["_law_axis","_law_most","_law_bag_here"]) (js:=[none,some 4,some 0]) rfl rfl rfl (pi_range1 rfl (B.at "range") (pa_cons (pv 1) pa_nil)) (fun _ _ _ _ _=>(pg_name (i:=0) (show List.Nodup (["_law_axis","_law_most","_law_bag_here"]:List Str) by decide +kernel) rfl (Or.inl rfl))) (fun _ _ _ _ _=>pts_nil) (fun _ _ _ _ _=>(pe_op op_sub (pe_fn hL_take (hr.mono (by decide)) rfl (pa_cons (pv 2) (pa_cons (pe_op op_add (pe_op op_mulG pe_int (pv 1)) pe_int) pa_nil))) (pv 1))))
   (pss_cons (ps_mid (ps_if (pt_not (pt_val (pe_callB (x:="any") (anyIK K rfl rfl) rfl (B.at "any") PyProof.Rows.boot_any (pa_cons (pv 5) pa_nil))))
   (pss_one (ps_asg pe_int (pg_sub (pv 5) (pe_fn hL_take (hr.mono (by decide)) rfl (pa_cons (pv 0) (pa_cons (pv 1) pa_nil))) set_list)))
   pss_nil))
   (pss_one (ps_ret (pe_tupA (pa_cons pe_str (pa_cons (pe_callTy (x:="tuple") (tupleK K rfl) rfl (B.at "tuple") PyProof.Rows.boot_tuple (pa_cons (pv 5) pa_nil)) (pa_cons (pv 3) pa_nil)))))))))))))),?_⟩
   refine⟨_,rfl,p,6,rfl,bg,by decide,by decide,fun so H1 s0 s1 b1=>?_⟩
   refine⟨_,rfl,.inl ⟨_,_,rfl,rfl,_,rfl,?_⟩⟩
   refine ite2 (fun hc=>?_) (fun hc=>?_)
   · refine⟨_,rfl,p,1000,rfl,b1.bag,by decide,by decide,fun n H2 n0 n1 b2=>?_⟩
     refine⟨_,_,rfl,rfl,smallN _ (Nat.le_of_ble_eq_true rfl),fun t H3 n3=>?_⟩
     exact k (.ref t) _ none H3 (rd_tup (SqT.of n3.at') (rds_cons (rd_str _) (rds_cons (rd_int _) rds_nil))) (.oth (.inl ⟨_,rfl,by omega,by omega⟩)) (b1.trans (b2.trans (.ofSame b2.bag n3.same)))
   refine⟨_,rfl,.inl ⟨_,_,rfl,rfl,_,rfl,?_⟩⟩
   refine ite2 (fun hc=>?_) (fun hc=>?_)
   · refine⟨smallN _ (Nat.le_of_ble_eq_true rfl),fun c H2 n2=>?_⟩
     have b2:BagX p H1 H2:=.ofSame b1.bag n2.same
     have cp:c≠p:=fun z=>b1.bag.ne (z ▸ n2.no)
     refine⟨_,rfl,p,2,rfl,b2.bag,by decide,by decide,fun i H3 i0 i1 b3=>?_⟩
     have hi:∃z:Str,atI ([.str "up",.str "down"]:List V) i=some (.str z)/\OkD 0 (.str z)/\othN "tool" z:=by
      rcases (show i=0 \/ i=1 by omega) with rfl | rfl
      · exact⟨"up",rfl,⟨by decide +kernel,by decide +kernel⟩,.inl ⟨rfl,.inl rfl⟩⟩
      · exact⟨"down",rfl,⟨by decide +kernel,by decide +kernel⟩,.inl ⟨rfl,.inr rfl⟩⟩
     obtain⟨z,ez,okz,onz⟩:=hi
     refine .inl ⟨c,_,_,_,rfl,rfl,SqL.of (b3.same _ _ cp n2.at'),ez,smallN _ (Nat.le_of_ble_eq_true rfl),fun t H4 n4=>?_⟩
     exact k (.ref t) _ none H4 (rd_tup (SqT.of n4.at') (rds_cons (rd_str _) (rds_cons (rd_str _) rds_nil))) (.oth (.inr ⟨_,_,rfl,.inl rfl,okz,onz⟩)) (b1.trans (b2.trans (b3.trans (.ofSame b3.bag n4.same))))
   refine⟨_,rfl,.inl ⟨_,_,rfl,rfl,_,rfl,?_⟩⟩
   refine ite2 (fun hc=>?_) (fun hc=>?_)
   · refine⟨_,rfl,p,rfl,b1.bag,fun z H2 okz nz b2=>⟨smallN _ (Nat.le_of_ble_eq_true rfl),fun t H3 n3=>?_⟩⟩
     exact k (.ref t) _ none H3 (rd_tup (SqT.of n3.at') (rds_cons (rd_str _) (rds_cons (rd_str _) rds_nil))) (.oth (.inr ⟨_,_,rfl,.inr rfl,okz,.inr ⟨rfl,nz⟩⟩)) (b1.trans (b2.trans (.ofSame b2.bag n3.same)))
   refine⟨_,rfl,p,20,rfl,b1.bag,by decide,by decide,fun sp H2 p0 p1 b2=>?_⟩
   refine⟨_,_,rfl,rfl,?_⟩
   refine⟨smallN _ (Nat.le_of_ble_eq_true rfl),fun c H3 n3=>?_⟩
   have b3:BagX p H2 H3:=.ofSame b2.bag n3.same
   have cp:c≠p:=fun z=>b2.bag.ne (z ▸ n3.no)
   refine⟨_,rfl,p,3,rfl,b3.bag,by decide,by decide,fun i H4 i0 i1 b4=>?_⟩
   have hm:∃m:Int,atI ([.int 3,.int 20,.int 100]:List V) i=some (.int m)/\1<=m/\m<=100:=by
    rcases (show i=0 \/ i=1 \/ i=2 by omega) with rfl | rfl | rfl
    · exact⟨3,rfl,by decide,by decide⟩
    · exact⟨20,rfl,by decide,by decide⟩
    · exact⟨100,rfl,by decide,by decide⟩
   obtain⟨m,em,m1,m2⟩:=hm
   refine .inl ⟨c,_,_,_,rfl,rfl,SqL.of (b4.same _ _ cp n3.at'),em,?_⟩
   have b14:=b1.trans (b2.trans (b3.trans b4))
   refine⟨_,rfl,_,rfl,by omega,by omega,fun D H5 nD=>?_⟩
   refine comp_bag (J:=Itr 0 ax) (p:=p) (H:=H4) ax _ nD b14.bag (by omega) (fun i=>.int (0+(i:Int))) (fun i H3 hi _=>⟨hi,fun y H4 ⟨e,q⟩=>⟨e,q⟩⟩) (fun H3 _=>Nat.le_refl _) (fun z=>(z.natAbs:Int)<=m) ?_ ?_
   · intro i H6 Q' hi b6 hq
     refine⟨_,rfl,_,rfl,_,_,rfl,rfl,.of_left (intBits_le_64 (by decide) (by decide)),_,_,rfl,rfl,p,2*m+1,rfl,b6.bag,by omega,by omega,fun d H7 d0 d1 b7=>?_⟩
     exact⟨_,rfl,_,_,rfl,rfl,hq _ _ (by omega) b7⟩
   intro H6 is b6 d6 l6 bd6
   have b16:=b14.trans b6
   have lp:D≠p:=fun z=>b14.bag.ne (z ▸ nD.no)
   have nl:H D=none:=by
    cases e:H D with
    | none=>rfl
    | some o=>have:=b14.same _ _ lp e; rw [nD.no] at this; cases this
   refine⟨fun σ H7=>BagX p H H7 /\ ∃(is:List Int),H7 D=some (.lst (is.map V.int))/\OkL ax 100 is /\ σ = [some (.ref p),some (.int ax),some (.int so),some (.int (1+sp)),some (.int m),some (.ref D)],?_,?_⟩
   · refine⟨_,rfl,D,is,rfl,.inl (SqL.of d6),_,rfl,?_⟩
     cases ha:is.any (· != 0) with
     | false=>
       refine iteT ?_
       refine⟨_,rfl,_,rfl,_,rfl,p,(ax:Int),rfl,b16.bag,by omega,by omega,fun ix H7 i0 i1 b7=>?_⟩
       have d7:=b7.same _ _ lp d6
       refine⟨D,_,ix,ix.toNat,rfl,rfl,d7,?_,?_⟩
       · unfold ixN; rw [if_pos i0,if_pos (by rw [List.length_map,l6]; exact i1)]
       refine⟨?_,is.set ix.toNat 1,?_,⟨?_,?_,?_⟩,rfl⟩
       · have b17:=b16.trans b7
         refine⟨?_,fun b o n e=>?_⟩
         · obtain⟨c',m',e,ok⟩:=b17.bag
           exact⟨c',m',by rw [upd_ne lp.symm]; exact e,ok⟩
         · rw [upd_ne (ne_of_none e nl)]; exact b17.same b o n e
       · rw [upd_same,List.map_set]
       · rw [List.length_set]; exact l6
       · intro z hz
         rcases List.mem_or_eq_of_mem_set hz with h | h
         · have:=bd6 z h; omega
         · rw [h]; decide
       · exact⟨1,List.mem_iff_getElem.mpr ⟨ix.toNat,by rw [List.length_set]; omega,by rw [List.getElem_set_self]⟩,by decide⟩
     | true=>
       refine iteF ?_
       refine⟨b16,is,d6,⟨l6,fun z hz=>by have:=bd6 z hz; omega,?_⟩,rfl⟩
       obtain⟨z,hz,h0⟩:=List.any_eq_true.mp ha
       exact⟨z,hz,by simpa using h0⟩
   rintro σ H7 ⟨b7,is,d7,ok,rfl⟩
   refine⟨_,rfl,D,_,rfl,.inl ⟨SqL.of d7,fun q H8 n8=>?_⟩⟩
   refine⟨_,rfl,smallN _ (Nat.le_of_ble_eq_true rfl),fun t H9 n9=>?_⟩
   refine k (.ref t) (lineD is (1+sp)) (some (is,1+sp)) H9 (rd_tup (SqT.of n9.at') (rds_cons (rd_str _) (rds_cons (rd_tup (SqT.of (n9.same _ _ n8.at')) (rds_ints is)) (rds_cons (rd_int _) rds_nil)))) ⟨.inl ⟨is,_,rfl,rfl⟩,fun ns sp e=>by cases e; exact⟨ok,by omega,by omega⟩,fun z=>nomatch z⟩ (b7.trans (.ofSame b7.bag (n8.same.trans n9.same)))
end
end Lw
set_option Elab.async false
set_option linter.all false
set_option maxRecDepth 100000
set_option maxHeartbeats 2000000
set_option exponentiation.threshold 6000
namespace Lw
open PySem PySem.Spec PyProof.Rows L2 Ln Wk
open Tm (numS numIn? figs isFig Free)
section
variable {P:Program} {w:World} {K:PySem.W.Frag} {mg:Str->Option Value} {base:Heap}
theorem join_two (sep a:Str) (as:List Str) (h:as≠[]):Txt.join sep (a::as)=a++sep++Txt.join sep as:=by
 show Builtin.Str.glued sep (a::as)=a++sep++Builtin.Str.glued sep as
 rw [StrLaws.glued_eq_join,StrLaws.glued_eq_join]
 cases as with
 | nil=>exact (h rfl).elim
 | cons b r=>rfl
theorem join_snoc (sep b:Str):∀(as:List Str),as≠[]->Txt.join sep (as++[b])=Txt.join sep as++sep++b
  | [],h=>(h rfl).elim
  | [a],_=>rfl
  | a::c::r,_=>by
    have e:=join_snoc sep b (c::r) (by simp)
    rw [List.cons_append,join_two sep a (c::r++[b]) (by simp),e,join_two sep a (c::r) (by simp)]
    simp only [PySem.Str.append_assoc]
theorem line_join (ns:List Int) (sp:Int) (h:ns≠[]):itmS (lineD ns sp)=Txt.join ⟨#[32]⟩ ("line" :: (ns.map numS++[numS sp])):=by
 have hn:ns.map numS≠[]:=by simpa using h
 rw [itm_line,<- sp_is,join_two _ _ _ (by simp),join_snoc _ _ _ hn]
 have e:("line " : Str) = "line" ++ " ":=by decide +kernel
 rw [e]
 unfold numsS
 simp only [PySem.Str.append_assoc]
theorem free_app {c:Nat} {a b:Str} (ha:Free c a) (hb:Free c b):Free c (a++b):=fun h=>by
 rw [PySem.Str.cps_append,Array.toList_append,List.mem_append] at h
 exact h.elim ha hb
theorem free_join {c:Nat} {sep:Str} (hs:Free c sep):∀l:List Str,(∀a∈l,Free c a)->Free c (Txt.join sep l)
  | [],_=>fun h=>by
    have e:(Txt.join sep []).cps.toList=[]:=rfl
    rw [e] at h; cases h
  | [x],h=>h x (.head _)
  | x::y::r,h=>by
    rw [join_two _ _ _ (by simp)]
    exact free_app (free_app (h x (.head _)) hs) (free_join hs (y::r) fun a ha=>h a (.tail _ ha))
theorem num_ok (i:Int):OkS (numS i):=fun c hc=>by
 cases i with
 | ofNat m=>
   rw [show (numS (Int.ofNat m)).cps.toList=_ from Tm.cps_nat m] at hc
   have:=Tm.dig_all m c hc
   omega
 | negSucc m=>
   rw [Tm.cps_neg] at hc
   rcases List.mem_cons.mp hc with e | hc
   · omega
   · have:=Tm.dig_all (m+1) c hc
     omega
structure ItTx (n:Nat) (d:PyData):Prop where
 rt:itemD n (itmS d)=d
 len:(itmS d).length<=400
 ok:TxOk (itmS d)
 fr:Free 10 (itmS d)
 ti:TI d
 okd:OkD 8 d
theorem free_of {c:Nat} {z:Str} (h:(z.cps.toList.all fun x=>x != c)=true):Free c z:=fun hc=>by
 have:=List.all_eq_true.mp h c hc
 simp at this
theorem name_free {c:Nat} {z:Str} (h:nameB z=true) (hc:c<97):Free c z:=fun h'=>by
 unfold nameB at h
 rw [Bool.and_eq_true] at h
 have:=List.all_eq_true.mp h.2 c h'
 unfold lwC at this
 simp at this
 omega
theorem oth_free {c:Nat} {w s:Str} (h:othN w s) (hc:c=10 \/ c=32):Free c s:=by
 rcases h with ⟨_,rfl | rfl⟩ | ⟨_,hn⟩
 · rcases hc with rfl | rfl <;> exact free_of (by decide +kernel)
 · rcases hc with rfl | rfl <;> exact free_of (by decide +kernel)
 · exact name_free hn (by omega)
theorem nI_num {i:Int} (h:i.natAbs<10^40):nI (numS i) = .int i:=by
 unfold nI
 have:(numS i).length<=41:=txt_len h
 rw [Tm.num_in (by omega)]; rfl
theorem nI_nums {ns:List Int} (h:∀z∈ns,z.natAbs<10^40):(ns.map numS).map nI=ns.map PyData.int:=by
 rw [List.map_map]
 exact List.map_congr_left fun z hz=>nI_num (h z hz)
theorem item_of {n:Nat} {d:PyData} {ws:List Str} (e:itmS d=Txt.join ⟨#[32]⟩ ws) (hn:ws≠[]) (hf:∀z∈ws,Free 32 z) (ht:thingD ws=d) (hi:isItm n d=true):itemD n (itmS d)=d:=by
 unfold itemD
 rw [e,sp_is,Tm.split_join hn hf,ht,hi]; rfl
theorem ItOk.tx {n:Nat} {d:PyData} {o:Itm} (h:ItOk n d o) (n1:1<=n) (n3:n<=3):ItTx n d:=by
 have hi:=h.is.1
 have sp1:OkS (" " : Str):=oks_lit (by decide +kernel)
 have fsp:Free 10 (" " : Str):=free_of (by decide +kernel)
 cases o with
 | some q=>
   obtain⟨ns,sp⟩:=q
   have ed:=it_line h.it
   subst ed
   obtain⟨okn,s1,s2⟩:=h.ln ns sp rfl
   have hb:∀z∈ns,z.natAbs<10^40:=fun z hz=>by have:=okn.bd z hz; omega
   have hs:sp.natAbs<10^40:=by omega
   have hne:ns≠[]:=fun e=>by rw [e] at okn; have:=okn.len; simp at this; omega
   have ti:TI (lineD ns sp):=.inl ⟨ns,sp,rfl,by rw [okn.len]; exact n3,hb,hs⟩
   refine⟨item_of (line_join ns sp hne) (by simp) (fun z hz=>?_) ?_ hi,itm_len ti,?_,?_,ti,h.is.2.1⟩
   · rcases List.mem_cons.mp hz with rfl | hz
     · exact free_of (by decide +kernel)
     · rcases List.mem_append.mp hz with hz | hz
       · obtain⟨i,_,rfl⟩:=List.mem_map.mp hz
         exact Tm.num_free (by decide) (by decide)
       · rw [List.mem_singleton.mp hz]; exact Tm.num_free (by decide) (by decide)
   · obtain⟨x,xs,rfl⟩ : ∃x xs,ns=x::xs:=by cases ns with | nil=>exact (hne rfl).elim | cons x xs=>exact⟨x,xs,rfl⟩
     have e1:(x::xs).map numS++[numS sp]=numS x::(xs.map numS++[numS sp]):=rfl
     have e2:(numS x::(xs.map numS++[numS sp])).map nI=(x::xs).map PyData.int++[.int sp]:=by
      rw [<- e1,List.map_append,nI_nums hb]
      show _++[nI (numS sp)]=_
      rw [nI_num hs]
     rw [e1,thing_line,e2,List.length_append,List.length_map,List.length_singleton,List.take_left' (by simp),List.getLastD_eq_getLast?,List.getLast?_append,List.getLast?_singleton]
     rfl
   · rw [line_join ns sp hne,<- sp_is]
     refine OkS.join sp1 fun a ha=>?_
     rcases List.mem_cons.mp ha with rfl | ha
     · exact oks_lit (by decide +kernel)
     · rcases List.mem_append.mp ha with ha | ha
       · obtain⟨i,_,rfl⟩:=List.mem_map.mp ha
         exact num_ok i
       · rw [List.mem_singleton.mp ha]; exact num_ok sp
   · rw [line_join ns sp hne,<- sp_is]
     refine free_join fsp _ fun a ha=>?_
     rcases List.mem_cons.mp ha with rfl | ha
     · exact free_of (by decide +kernel)
     · rcases List.mem_append.mp ha with ha | ha
       · obtain⟨i,_,rfl⟩:=List.mem_map.mp ha
         exact Tm.num_free (by decide) (by decide)
       · rw [List.mem_singleton.mp ha]; exact Tm.num_free (by decide) (by decide)
 | none=>
   have key:∀(w y:Str) (u:PyData),d = .tuple [.str w,u]->itmS d=w ++ " " ++ y->w ≠ "line" -> (if w = "wait" then nI y else .str y)=u->Free 32 w->Free 32 y->Free 10 w->Free 10 y->OkS w->OkS y->TI d->ItTx n d:=fun w y u e1 e2 hw hu f1 f2 f3 f4 o1 o2 ti=>by
    have ej:itmS d=Txt.join ⟨#[32]⟩ [w,y]:=by rw [e2,<- sp_is]; rfl
    refine⟨item_of ej (by simp) (fun z hz=>?_) ?_ hi,itm_len ti,?_,?_,ti,h.is.2.1⟩
    · simp only [List.mem_cons,List.not_mem_nil,or_false] at hz
      rcases hz with rfl | rfl
      · exact f1
      · exact f2
    · rw [thing_one hw,hu,e1]
    · rw [e2]; exact (o1.app sp1).app o2
    · rw [e2]; exact free_app (free_app f3 fsp) f4
   rcases h.ot rfl with ⟨z,rfl,z1,z2⟩ | ⟨w,s,rfl,hw,oks,on⟩
   · have hb:z.natAbs<10^40:=by omega
     exact key "wait" (numS z) (.int z) rfl rfl (by decide +kernel) (by rw [if_pos rfl,nI_num hb]) (free_of (by decide +kernel)) (Tm.num_free (by decide) (by decide)) (free_of (by decide +kernel)) (Tm.num_free (by decide) (by decide)) (oks_lit (by decide +kernel)) (num_ok z) (.inr (.inl ⟨_,_,rfl,.inl rfl,hb⟩))
   · have hl:s.length<=100:=by
       rcases on with ⟨_,rfl | rfl⟩ | ⟨_,hn⟩
       · decide +kernel
       · decide +kernel
       · unfold nameB at hn
         simp only [Bool.and_eq_true,decide_eq_true_eq] at hn
         omega
     have hne:w ≠ "line" /\ w ≠ "wait" /\ Free 32 w/\Free 10 w/\OkS w:=by
      rcases hw with rfl | rfl
      · exact⟨by decide +kernel,by decide +kernel,free_of (by decide +kernel),free_of (by decide +kernel),oks_lit (by decide +kernel)⟩
      · exact⟨by decide +kernel,by decide +kernel,free_of (by decide +kernel),free_of (by decide +kernel),oks_lit (by decide +kernel)⟩
     exact key w s (.str s) rfl rfl hne.1 (by rw [if_neg hne.2.1]) hne.2.2.1 (oth_free on (.inr rfl)) hne.2.2.2.1 (oth_free on (.inl rfl)) hne.2.2.2.2 (oks_of oks) (.inr (.inr ⟨_,_,rfl,.inr hw,hl⟩))
theorem ItTx.no {n:Nat} {d:PyData} (h:ItTx n d):noL d=true:=by
 rcases h.ti with ⟨ns,sp,rfl,_⟩ | ⟨w,i,rfl,_⟩ | ⟨w,z,rfl,_⟩
 · exact lineD_no _ _
 · rfl
 · rfl
theorem ItTx.ne {n:Nat} {d:PyData} (h:ItTx n d):d ≠ .none:=by
 rcases h.ti with ⟨ns,sp,rfl,_⟩ | ⟨w,i,rfl,_⟩ | ⟨w,z,rfl,_⟩ <;> exact fun z=>nomatch z
end
end Lw
set_option Elab.async false
set_option linter.all false
set_option maxRecDepth 100000
set_option maxHeartbeats 2000000
set_option exponentiation.threshold 6000
namespace Lw
open PySem PySem.Spec PyProof.Rows L2 Ln Wk
open Tm (numS numIn? figs isFig Free)
section
variable {P:Program} {w:World} {K:PySem.W.Frag} {mg:Str->Option Value} {base:Heap}
inductive IspRIt (K:PySem.W.Frag) (vs:List V) (H:Hp) (Q:VK):Prop
  | mk (x:_) (y:_) (d:_) (n:_) (h0:vs=[x,y]) (h1:RD K H x d) (h2:RD K H y d) (h3:ItTx n d) (h4:∀H',Same H H'->Q (.bl true) H'):IspRIt K vs H Q
def spRIt (K:PySem.W.Frag):Sp:=fun vs H Q _=>IspRIt K vs H Q
abbrev sRIt:Stmt:=top 37
theorem scRIt:FnScope ["_law_told","_law_due"] ["_law_told","_law_due"] (defScope sRIt):=⟨rfl,rfl,rfl,by decide +kernel,rfl,by decide +kernel,by decide +kernel⟩
theorem ok_rit (F:FA K mg "_law_is_right_item" sRIt) (B:Blt mg) (hL_is_whole:FnHas P w K mg base "_law_is_whole" 1 (spIsW K)):FnHas P w K mg base "_law_is_right_item" 2 (spRIt K):=by
 refine F.has scRIt (fun vs H Q E h=>?_) (fun _ _ _ _ _ _ us hl=>match us,hl with | [_,_],_=>rfl) (fun f cdv A outer s H vs Q E hr h=>?_)
 · obtain⟨x,y,d,n,rfl,_⟩:=h
   rfl
 · obtain⟨x,y,d,n,rfl,rx,ry,it,k⟩:=h
   have nd:=scRIt.nd
   refine⟨_,(pss_cons (ps_if (PW.pt (pw_or (pt_not (pt_val (pe_callB (x:="isinstance") (isiK K rfl) rfl (B.at "isinstance") PyProof.Rows.boot_isinstance (pa_cons (pv 0) (pa_cons (pe_bltn (x:="tuple") (v:=.ty "tuple") rfl (B.at "tuple") PyProof.Rows.boot_tuple rfl) pa_nil))))) (pw_or (pt_cmpR (neK K rfl hr.units) (pv 0) (pv 1) (nomark _)) (pw_or1 (pt_not (pt_val (pe_callB (x:="isinstance") (isiK K rfl) rfl (B.at "isinstance") PyProof.Rows.boot_isinstance (pa_cons (pe_ix (ixK K rfl) (pv 0) pe_int (fun _ _=>rfl)) (pa_cons (pe_bltn (x:="str") (v:=.ty "str") rfl (B.at "str") PyProof.Rows.boot_str rfl) pa_nil)))))))))
   (pss_one (ps_ret pe_bl))
   pss_nil)
   (pss_cons (ps_if (pt_cmpR (eqK K rfl hr.units) (pe_ix (ixK K rfl) (pv 1) pe_int (fun _ _=>rfl)) pe_str (nomark _))
   (pss_one (ps_ret (pe_and (pe_callB (x:="isinstance") (isiK K rfl) rfl (B.at "isinstance") PyProof.Rows.boot_isinstance (pa_cons (pe_ix (ixK K rfl) (pv 0) pe_int (fun _ _=>rfl)) (pa_cons (pe_bltn (x:="tuple") (v:=.ty "tuple") rfl (B.at "tuple") PyProof.Rows.boot_tuple rfl) pa_nil))) (pe_one (pe_callB (x:="all") (allK K rfl rfl) rfl (B.at "all") PyProof.Rows.boot_all (pa_cons (pe_comp (N:=["_law_one"]) (js:=[none]) rfl rfl rfl (piT K rfl (pe_op (catU K rfl) (pe_ix (ixK K rfl) (pv 0) pe_int (fun _ _=>rfl)) (pe_slice (slU K rfl) (pv 0) (po_some pe_int) po_none))) (fun _ _ _ _ _=>(pg_name (i:=0) (show List.Nodup (["_law_one"]:List Str) by decide +kernel) rfl (Or.inl rfl))) (fun _ _ _ _ _=>pts_nil) (fun _ _ _ _ _=>(pe_fn hL_is_whole (hr.mono (by decide)) rfl (pa_cons (pv 0) pa_nil)))) pa_nil))))))
   pss_nil)
   (pss_one (ps_ret (pe_or (pe_callB (x:="isinstance") (isiK K rfl) rfl (B.at "isinstance") PyProof.Rows.boot_isinstance (pa_cons (pe_ix (ixK K rfl) (pv 0) pe_int (fun _ _=>rfl)) (pa_cons (pe_bltn (x:="str") (v:=.ty "str") rfl (B.at "str") PyProof.Rows.boot_str rfl) pa_nil))) (pe_one (pe_fn hL_is_whole (hr.mono (by decide)) rfl (pa_cons (pe_ix (ixK K rfl) (pv 0) pe_int (fun _ _=>rfl)) pa_nil)))))))),?_⟩
   have sh:=shp it.okd
   have ev:PyData.eqv d d=true:=eqv_refl _ it.okd.lay
   rcases ti_word rx it.ti with ⟨ns,sp,a,b,rfl,rfl,h1,r2,hl,hn,hs⟩ | ⟨w,u,a,yv,rfl,hw,rfl,h1,ru,hv⟩
   · refine⟨_,rfl,.inl ⟨_,_,"tuple",true,rfl,rx.ty,by decide,tyT,_,rfl,iteF ?_⟩⟩
     refine⟨_,rfl,_,rfl,.inr ⟨_,_,rx,ry,sh,sh,?_⟩⟩
     rw [ev]
     refine⟨_,rfl,iteF ?_⟩
     refine⟨_,rfl,.inr ⟨a,_,0,.str "line",rfl,rfl,h1,rfl,?_⟩⟩
     refine .inl ⟨_,_,"str",true,rfl,(rd_str (K:=K) (H:=H) "line").ty,by decide,tyS,_,rfl,iteF ?_⟩
     obtain⟨ya,ys,rfl,hy,hys⟩:=id ry.tup_inv
     obtain⟨y1,yr,rfl,e1,_⟩:=hys.cons_inv
     cases e1.str_inv
     refine⟨_,rfl,.inr ⟨ya,_,0,.str "line",rfl,rfl,hy,atI_of (Int.le_refl 0) rfl,?_⟩⟩
     refine .inr ⟨_,_,rd_str _,rd_str _,lineA,lineA,?_⟩
     rw [eqvS,decide_eq_true rfl]
     refine⟨_,rfl,iteT ?_⟩
     refine⟨_,rfl,.inr ⟨a,_,1,.ref b,rfl,rfl,h1,rfl,?_⟩⟩
     refine .inl ⟨_,_,"tuple",true,rfl,r2.ty,by decide,tyT,_,rfl,iteT ?_⟩
     obtain⟨b',bs,e',hb,hbs⟩:=id r2.tup_inv
     cases e'
     rw [hbs.ints_inv] at hb
     refine⟨_,rfl,.inr ⟨a,_,1,.ref b,rfl,rfl,h1,rfl,?_⟩⟩
     refine⟨_,rfl,2,rfl,a,_,rfl,h1,fun c H1 s1 h2=>?_⟩
     have h2:SqT K H1 c [.int sp]:=h2
     refine⟨b,c,_,_,rfl,rfl,hb.go s1,h2,?_,fun c2 H2 s2 h3=>?_⟩
     · have h24:sizeLine=16777216:=by decide
       rw [List.length_map,List.length_singleton]; omega
     refine⟨c2,rfl,⟨_,h3⟩,fun D H3 n3=>?_⟩
     refine comp_blT (K:=K) (bs:=List.replicate (ns.length+1) true) [] h3 n3 (by simp) (by simp; omega) (fun i x b' H4 Q' ex eb s4 hq=>?_) (fun H4 s4 d4=>?_)
     · have eb':b'=true:=by
         rw [List.getElem?_replicate] at eb
         split at eb
         · exact (Option.some.inj eb).symm
         · cases eb
       subst eb'
       obtain ⟨z,rfl⟩ : ∃z,x = .int z:=by
        have hm:=List.mem_of_getElem? ex
        rcases List.mem_append.mp hm with hm | hm
        · obtain⟨z,_,rfl⟩:=List.mem_map.mp hm; exact⟨z,rfl⟩
        · exact⟨sp,List.mem_singleton.mp hm⟩
       exact⟨_,rfl,_,_,rfl,(rd_int (K:=K) (H:=H4) z).ty,hq _ (Same.refl _)⟩
     · refine⟨D,_,rfl,SqL.of d4,?_⟩
       rw [show (List.replicate (ns.length+1) true).all id=true by simp]
       exact k _ ((s1.trans s2).trans s4)
   · refine⟨_,rfl,.inl ⟨_,_,"tuple",true,rfl,rx.ty,by decide,tyT,_,rfl,iteF ?_⟩⟩
     refine⟨_,rfl,_,rfl,.inr ⟨_,_,rx,ry,sh,sh,?_⟩⟩
     rw [ev]
     refine⟨_,rfl,iteF ?_⟩
     refine⟨_,rfl,.inr ⟨a,_,0,.str w,rfl,rfl,h1,rfl,?_⟩⟩
     refine .inl ⟨_,_,"str",true,rfl,(rd_str (K:=K) (H:=H) w).ty,by decide,tyS,_,rfl,iteF ?_⟩
     obtain⟨ya,ys,rfl,hy,hys⟩:=id ry.tup_inv
     obtain⟨y1,yr,rfl,e1,_⟩:=hys.cons_inv
     cases e1.str_inv
     refine⟨_,rfl,.inr ⟨ya,_,0,.str w,rfl,rfl,hy,atI_of (Int.le_refl 0) rfl,?_⟩⟩
     refine .inr ⟨_,_,rd_str _,rd_str _,word_sh hw,lineA,?_⟩
     rw [eqvS,(word_ne hw).1]
     refine⟨_,rfl,iteF ?_⟩
     refine⟨_,rfl,.inr ⟨a,_,1,yv,rfl,rfl,h1,rfl,?_⟩⟩
     rcases hv with ⟨i,rfl,rfl,_⟩ | ⟨z,rfl,rfl,_⟩
     · refine .inl ⟨_,_,"str",false,rfl,(rd_int (K:=K) (H:=H) i).ty,by decide,(by show tyIs "int" "str" = false; decide),_,rfl,iteF ?_⟩
       refine⟨_,rfl,.inr ⟨a,_,1,.int i,rfl,rfl,h1,rfl,?_⟩⟩
       exact⟨_,_,rfl,(rd_int (K:=K) (H:=H) i).ty,k _ (Same.refl _)⟩
     · exact .inl ⟨_,_,"str",true,rfl,(rd_str (K:=K) (H:=H) z).ty,by decide,tyS,_,rfl,iteT (k _ (Same.refl _))⟩
inductive IspRgs (K:PySem.W.Frag) (vs:List V) (H:Hp) (Q:VK):Prop
  | mk (x:_) (y:_) (ds:_) (n:_) (h0:vs=[x,y]) (h1:RD K H x (.tuple ds)) (h2:RD K H y (.tuple ds)) (h3:(∀d∈ds,ItTx n d)) (h4:ds.length<=30) (h5:∀H',Same H H'->Q (.bl true) H'):IspRgs K vs H Q
def spRgs (K:PySem.W.Frag):Sp:=fun vs H Q _=>IspRgs K vs H Q
abbrev sRgs:Stmt:=top 38
theorem scRgs:FnScope ["_law_told","_law_due"] ["_law_told","_law_due"] (defScope sRgs):=⟨rfl,rfl,rfl,by decide +kernel,rfl,by decide +kernel,by decide +kernel⟩
theorem ok_rgs (F:FA K mg "_law_right" sRgs) (B:Blt mg) (hL_is_right_item:FnHas P w K mg base "_law_is_right_item" 2 (spRIt K)):FnHas P w K mg base "_law_right" 3 (spRgs K):=by
 refine F.has scRgs (fun vs H Q E h=>?_) (fun _ _ _ _ _ _ us hl=>match us,hl with | [_,_],_=>rfl) (fun f cdv A outer s H vs Q E hr h=>?_)
 · obtain⟨x,y,ds,n,rfl,_⟩:=h
   rfl
 · obtain⟨x,y,ds,n,rfl,rx,ry,it,l30,k⟩:=h
   have nd:=scRgs.nd
   refine⟨_,(pss_cons (ps_if (PW.pt (pw_or (pt_not (pt_val (pe_callB (x:="isinstance") (isiK K rfl) rfl (B.at "isinstance") PyProof.Rows.boot_isinstance (pa_cons (pv 0) (pa_cons (pe_bltn (x:="tuple") (v:=.ty "tuple") rfl (B.at "tuple") PyProof.Rows.boot_tuple rfl) pa_nil))))) (pw_or1 (pt_cmpR (neK K rfl hr.units) (pe_callB (x:="len") (lenK K rfl) rfl (B.at "len") PySem.boot_len (pa_cons (pv 0) pa_nil)) (pe_callB (x:="len") (lenK K rfl) rfl (B.at "len") PySem.boot_len (pa_cons (pv 1) pa_nil)) (nomark _)))))
   (pss_one (ps_ret pe_bl))
   pss_nil)
   (pss_one (ps_ret (pe_callB (x:="all") (allK K rfl rfl) rfl (B.at "all") PyProof.Rows.boot_all (pa_cons (pe_comp (N:=["_law_one","_law_other"]) (js:=[none,none]) rfl rfl rfl (pi_zip K rfl false false rfl (B.at "zip") (pa_cons (pv 0) (pa_cons (pv 1) pa_nil))) (fun _ _ _ _ _=>(pgT K rfl (n:=2) rfl (pgs_cons (pg_name (i:=0) (show List.Nodup (["_law_one","_law_other"]:List Str) by decide +kernel) rfl (Or.inl rfl)) (pgs_cons (pg_name (i:=1) (show List.Nodup (["_law_one","_law_other"]:List Str) by decide +kernel) rfl (Or.inl rfl)) pgs_nil)))) (fun _ _ _ _ _=>pts_nil) (fun _ _ _ _ _=>(pe_fn hL_is_right_item (hr.mono (by decide)) rfl (pa_cons (pv 0) (pa_cons (pv 1) pa_nil))))) pa_nil))))),?_⟩
   obtain⟨a,xs,rfl,hx,hxs⟩:=id rx.tup_inv
   obtain⟨b,ys,rfl,hy,hys⟩:=id ry.tup_inv
   have lx:=hxs.length
   have ly:=hys.length
   refine⟨_,rfl,.inl ⟨_,_,"tuple",true,rfl,rx.ty,by decide,tyT,_,rfl,iteF ?_⟩⟩
   refine⟨_,rfl,a,_,rfl,.inr hx,_,rfl,b,_,rfl,.inr hy,.inl ⟨_,_,rfl,rfl,_,rfl,?_⟩⟩
   rw [lx,ly,decide_eq_true rfl]
   refine iteF ?_
   refine⟨_,rfl,_,rfl,a,b,rfl,⟨_,hx⟩,⟨_,hy⟩,fun D H1 n1=>?_⟩
   refine comp_blZ (K:=K) (b1:=false) (b2:=false) (xs:=xs) (ys:=ys) (bs:=List.replicate ds.length true) _ rfl hx hy n1 (by rw [List.length_replicate]; omega) (by rw [List.length_replicate]; omega) (fun i x y b' H2 Q' ex ey eb s2 hq=>?_) (fun H2 s2 d2=>?_)
   · have eb':b'=true:=by
       rw [List.getElem?_replicate] at eb
       split at eb
       · exact (Option.some.inj eb).symm
       · cases eb
     subst eb'
     obtain⟨d,ed,rd⟩:=hxs.get' i ex
     obtain⟨d',ed',rd'⟩:=hys.get' i ey
     rw [ed] at ed'
     cases ed'
     exact⟨_,rfl,_,rfl,x,y,d,n,rfl,RD.mono s2 _ rd,RD.mono s2 _ rd',it d (List.mem_of_getElem? ed),fun H3 s3=>hq _ s3⟩
   · refine⟨D,_,rfl,SqL.of d2,?_⟩
     rw [show (List.replicate ds.length true).all id=true by simp]
     exact k _ s2
end
end Lw
set_option Elab.async false
set_option linter.all false
set_option maxRecDepth 100000
set_option maxHeartbeats 2000000
set_option exponentiation.threshold 6000
namespace Lw
open PySem PySem.Spec PyProof.Rows L2 Ln Wk
open Tm (numS numIn? figs isFig Free)
section
variable {P:Program} {w:World} {K:PySem.W.Frag} {mg:Str->Option Value} {base:Heap}
theorem text_read {n:Nat} {ds:List PyData} (it:∀d∈ds,ItTx n d) (l20:ds.length<=20):(Txt.join "\n" (ds.map itmS)).length<=20000/\((Txt.join "\n" (ds.map itmS) = "" /\ ds=[]) \/ (Txt.join "\n" (ds.map itmS) ≠ "" /\ (Txt.split (Txt.join "\n" (ds.map itmS)) "\n").map (itemD n)=ds/\(∀y∈Txt.split (Txt.join "\n" (ds.map itmS)) "\n",y.length<=600/\TxOk y))):=by
 have e1:Str.length "\n" = 1:=by decide +kernel
 refine⟨?_,?_⟩
 · have:=join_len "\n" (B:=400) (ds.map itmS) (fun z hz=>by
     obtain⟨d,hd,rfl⟩:=List.mem_map.mp hz
     exact (it d hd).len)
   rw [List.length_map,e1] at this
   have h2:ds.length*(400+1)<=20*401:=Nat.mul_le_mul l20 (Nat.le_refl _)
   omega
 · cases ds with
   | nil=>exact .inl ⟨rfl,rfl⟩
   | cons d r=>
     have hs:Txt.split (Txt.join "\n" ((d::r).map itmS)) "\n" = (d::r).map itmS:=by
      rw [nl_is]
      refine Tm.split_join (by simp) fun z hz=>?_
      obtain⟨x,hx,rfl⟩:=List.mem_map.mp hz
      exact (it x hx).fr
     refine .inr ⟨fun e=>?_,?_,fun y hy=>?_⟩
     · rw [e] at hs
       have e0:Txt.split "" "\n" = [("" : Str)]:=by
        rw [nl_is]
        exact Tm.split_one (free_of (by decide +kernel))
       rw [e0,List.map_cons] at hs
       injection hs with h1 h2
       have hd:=it d (.head _)
       have:=hd.rt
       rw [<- h1] at this
       have e2:itemD n "" = .none:=by
        unfold itemD
        have e3:Txt.split "" " " = [("" : Str)]:=by
         rw [sp_is]
         exact Tm.split_one (free_of (by decide +kernel))
        rw [e3,thing_oth (by decide +kernel) (by simp)]
        rfl
       rw [e2] at this
       exact hd.ne this.symm
     · rw [hs,List.map_map]
       exact (List.map_congr_left fun x hx=>(it x hx).rt).trans (List.map_id _)
     · rw [hs] at hy
       obtain⟨x,hx,rfl⟩:=List.mem_map.mp hy
       have:=(it x hx).len
       exact⟨by omega,(it x hx).ok⟩
def spLaw (K:PySem.W.Frag):Sp:=fun vs H Q _=>∃(a:Addr) (ns:List Int),vs=[.ref a]/\SqL K H a (ns.map V.int)/\ns.length<=63 /\ ∀H',Q (.bl true) H'
abbrev sLaw:Stmt:=top 39
theorem scLaw:FnScope ["_law_script","_law_at","_law_bag_here","_law_machine_here","_law_items","_law_text","_law_told"] ["_law_script"] (defScope sLaw):=⟨rfl,rfl,rfl,by decide +kernel,rfl,by decide +kernel,by decide +kernel⟩
theorem ok_law {f:Addr} {fd:FuncData} (F:Fun K "law" "law" sLaw f fd) (B:Blt mg) (hL_bag:FnHas P w K mg base "_law_bag" 1 (spBag K)) (hL_take:FnHas P w K mg base "_law_take" 1 spTake) (hL_machine:FnHas P w K mg base "_law_machine" 2 (spMach K)) (hL_item:FnHas P w K mg base "_law_item" 3 (spItem K)) (hL_item_text:FnHas P w K mg base "_law_item_text" 1 (spItx K)) (hread_items:FnHas P w K mg base "read_items" 6 (spRead K)) (hshow_items:FnHas P w K mg base "show_items" 3 (spItxs K)) (hL_right:FnHas P w K mg base "_law_right" 3 (spRgs K)):FnOk P w K mg base CX0 7 f fd ["_law_script"] (spLaw K):=by
 refine F.ok scLaw (fun vs H Q E h=>?_) (fun cdv A outer s H vs Q E hr h=>?_)
 · obtain⟨a,ns,rfl,_⟩:=h
   rfl
 · obtain⟨a,ns,rfl,hS,hlen,k⟩:=h
   have nd:=scLaw.nd
   refine⟨_,(pss_cons (ps_for PassesOwn.never rfl (pi_range1 rfl (B.at "range") (pa_cons (pe_callB (x:="max") (call_max2 rfl) rfl (B.at "max") PyProof.Rows.boot_max (pa_cons pe_int (pa_cons (pe_callB (x:="min") (call_min2 rfl) rfl (B.at "min") PyProof.Rows.boot_min (pa_cons pe_int (pa_cons (pe_callB (x:="len") (lenK K rfl) rfl (B.at "len") PySem.boot_len (pa_cons (pv 0) pa_nil)) pa_nil))) pa_nil))) pa_nil)) (pg_name (i:=1) nd rfl (Or.inl rfl))
   (pss_cons (ps_set (i:=2) nd rfl (Or.inr rfl) (pe_fn hL_bag (hr.mono (by decide)) rfl (pa_cons (pv 0) (pa_cons (pv 1) pa_nil))))
   (pss_cons (ps_set (i:=3) nd rfl (Or.inr rfl) (pe_fn hL_machine (hr.mono (by decide)) rfl (pa_cons (pv 2) pa_nil)))
   (pss_cons (ps_set (i:=4) nd rfl (Or.inl rfl) (pe_callTy (x:="tuple") (tupleK K rfl) rfl (B.at "tuple") PyProof.Rows.boot_tuple (pa_cons (pe_comp (N:=["_law_k","_law_bag_here","_law_machine_here"]) (js:=[none,some 2,some 3]) rfl rfl rfl (pi_range1 rfl (B.at "range") (pa_cons (pe_fn hL_take (hr.mono (by decide)) rfl (pa_cons (pv 2) (pa_cons pe_int pa_nil))) pa_nil)) (fun _ _ _ _ _=>(pg_name (i:=0) (show List.Nodup (["_law_k","_law_bag_here","_law_machine_here"]:List Str) by decide +kernel) rfl (Or.inl rfl))) (fun _ _ _ _ _=>pts_nil) (fun _ _ _ _ _=>(pe_fn hL_item (hr.mono (by decide)) rfl (pa_cons (pv 1) (pa_cons (pe_callB (x:="len") (lenK K rfl) rfl (B.at "len") PySem.boot_len (pa_cons (pe_ix (ixK K rfl) (pv 2) pe_int (fun _ _=>rfl)) pa_nil)) pa_nil))))) pa_nil)))
   (pss_cons (ps_set (i:=5) nd rfl (Or.inl rfl) (peJoinT K rfl pe_str (pa_cons (pe_comp (N:=["_law_item_here"]) (js:=[none]) rfl rfl rfl (piT K rfl (pv 4)) (fun _ _ _ _ _=>(pg_name (i:=0) (show List.Nodup (["_law_item_here"]:List Str) by decide +kernel) rfl (Or.inl rfl))) (fun _ _ _ _ _=>pts_nil) (fun _ _ _ _ _=>(pe_fn hL_item_text (hr.mono (by decide)) rfl (pa_cons (pv 0) pa_nil)))) pa_nil)))
   (pss_one (ps_for PassesOwn.never rfl (piL K rfl (pe_lstA (pa_cons (pe_fn hread_items (hr.mono (by decide)) rfl (pa_cons (pv 3) (pa_cons (pv 5) pa_nil))) (pa_cons (pe_fn hread_items (hr.mono (by decide)) rfl (pa_cons (pv 3) (pa_cons (pe_fn hshow_items (hr.mono (by decide)) rfl (pa_cons (pv 4) pa_nil)) pa_nil))) (pa_cons (pe_fn hread_items (hr.mono (by decide)) rfl (pa_cons (pv 3) (pa_cons (pv 5) pa_nil))) pa_nil))))) (pg_name (i:=6) nd rfl (Or.inl rfl))
   (pss_one (ps_if (pt_not (pt_val (pe_fn hL_right (hr.mono (by decide)) rfl (pa_cons (pv 6) (pa_cons (pv 4) pa_nil)))))
   (pss_one (ps_ret pe_bl))
   pss_nil)))))))))
   (pss_one (ps_ret pe_bl))),?_⟩
   refine⟨_,rfl,a,_,rfl,.inl hS,_,_,rfl,_,_,rfl,_,rfl,?_,?_,?_⟩
   · split <;> (try split) <;> omega
   · split <;> (try split) <;> (try rw [List.length_map]) <;> omega
   have hN:(if (if ((ns.map V.int).length:Int)<8 then ((ns.map V.int).length:Int) else 8) > 1 then (if ((ns.map V.int).length:Int)<8 then ((ns.map V.int).length:Int) else 8) else 1).toNat<=12:=by
    split <;> (try split) <;> omega
   refine for_range (Pv:=fun i σ H2=>Same H H2 /\ ∃v1 v2 v3 v4 v5 v6,σ = [some (.ref a),v1,v2,v3,v4,v5,v6]) ?_ ?_ ?_
   · exact⟨Same.refl _,none,none,none,none,none,none,rfl⟩
   · rintro i σ H2 hi ⟨s2,v1,v2,v3,v4,v5,v6,rfl⟩
     have hi8:i<12:=Nat.lt_of_lt_of_le hi hN
     refine⟨_,rfl,_,rfl,a,ns,_,rfl,s2.seq hS,hlen,by omega,by omega,fun p H3 np bg3 s3=>?_⟩
     refine⟨_,rfl,p,rfl,bg3,fun mv rs r fl j t0 H4 rm okm b4=>?_⟩
     have lr:=okm.len
     refine⟨_,rfl,p,21,rfl,b4.bag,by decide,by decide,fun n H5 n0 n1 b5=>?_⟩
     refine⟨_,rfl,by omega,by omega,fun D H6 nD=>?_⟩
     have b45:=b4.trans b5
     obtain⟨ma,mb,rfl,hma,hmb⟩:=mach_inv rm
     have hma5:=SqT.t (BagX.t b4.bag b5) hma
     have hmb5:=SqT.t (BagX.t b4.bag b5) hmb
     have rm5:=RD.t (BagX.t b4.bag b5) _ (machD_no _ _ _ _ _) rm
     refine comp_rdB (K:=K) (J:=Itr 0 n.toNat) (p:=p) (H:=H5) n.toNat _ nD b5.bag (by omega) (fun i=>.int (0+(i:Int))) (fun i H3 hi _=>⟨hi,fun y H4 ⟨e,q⟩=>⟨e,q⟩⟩) (fun H3 _=>Nat.le_refl _) (fun _ d=>ItTx rs.length d) ?_ ?_
     · intro i H7 Q' hi b7 hq
       have t7:=BagX.t b5.bag b7
       refine⟨_,rfl,_,rfl,.inr ⟨ma,_,0,.ref mb,rfl,rfl,SqT.t t7 hma5,rfl,?_⟩⟩
       refine⟨mb,_,rfl,.inr (SqT.t t7 hmb5),?_⟩
       rw [List.length_map]
       exact⟨p,rs.length,rfl,b7.bag,by omega,by omega,fun v d o H8 rv it b8=>hq _ _ _ (it.tx (by omega) (by omega)) (it.tx (by omega) (by omega)).no rv b8⟩
     intro H7 ys ds b7 d7 r7 l7 nl pd
     have allT:∀d∈ds,ItTx rs.length d:=fun d hd=>by
      obtain⟨j,hj⟩:=List.mem_iff_getElem?.mp hd
      exact pd j d hj
     have ld:ds.length<=20:=by have:=r7.length; omega
     have b47:=b45.trans b7
     refine⟨D,_,rfl,.inl ⟨SqL.of d7,fun t H8 n8=>?_⟩⟩
     have b8:BagX p H7 H8:=.ofSame b47.bag n8.same
     have rt8:RD K H8 (.ref t) (.tuple ds):=rd_tup (SqT.of n8.at') (RDs.mono n8.same _ r7)
     have rm8:=RD.t (BagX.t b5.bag (b7.trans b8)) _ (machD_no _ _ _ _ _) rm5
     have s8:Same H2 H8:=(b47.trans b8).sameOf s3 np
     obtain⟨t',xs,e',h1,h2⟩:=id rt8.tup_inv
     cases e'
     have lx:=h2.length
     refine⟨rfl,?_⟩
     refine⟨_,rfl,t,rfl,⟨_,h1⟩,fun D2 H11 n11=>?_⟩
     refine comp_rdT (K:=K) (ds:=(ds.map itmS).map PyData.str) _ h1 n11 (by simp; exact lx) (by omega) (noLs_strs _) ?_ ?_
     · intro i x d H12 Q' ex ed' s12 hq
       obtain⟨d',ed2,rx⟩:=h2.get' i ex
       rw [List.getElem?_map,List.getElem?_map,ed2] at ed'
       cases ed'
       exact⟨_,rfl,x,d',rfl,RD.mono s12 _ rx,(allT d' (List.mem_of_getElem? ed2)).ti,fun H13 s13=>hq _ _ s13 (rd_str _)⟩
     intro H12 zs s12 d12 r12
     rw [strs_inv r12] at d12
     refine⟨"\n",D2,ds.map itmS,rfl,rfl,SqL.of d12,fun z hz=>?_,by decide +kernel,by rw [List.length_map]; omega,?_⟩
     · obtain⟨d,hd,rfl⟩:=List.mem_map.mp hz
       have:=(allT d hd).len
       omega
     obtain⟨lz,cs⟩:=text_read allT ld
     have hno:∀d∈ds,d ≠ .none/\noL d=true:=fun d hd=>⟨(allT d hd).ne,(allT d hd).no⟩
     have nes:noLs [PyData.int r,.int fl,.int j,.int t0]=true:=rfl
     have rm12:=RD.mono s12 _ rm8
     have rt12:=RD.mono s12 _ rt8
     have l3:rs.length<=3:=by omega
     refine⟨_,rfl,_,rfl,.ref ma,rs,[PyData.int r,.int fl,.int j,.int t0],_,ds,rfl,rm12,nes,l3,lz,ld,cs,hno,fun w1 H13 s13 r13=>?_⟩
     refine⟨_,rfl,_,rfl,.ref t,ds,rfl,RD.mono s13 _ rt12,fun d hd=>(allT d hd).ti,nl,by omega,fun H14 s14=>?_⟩
     have s124:=s13.trans s14
     refine⟨.ref ma,rs,[PyData.int r,.int fl,.int j,.int t0],_,ds,rfl,RD.mono s124 _ rm12,nes,l3,lz,ld,cs,hno,fun w2 H15 s15 r15=>?_⟩
     have s125:=s124.trans s15
     refine⟨_,rfl,_,rfl,.ref ma,rs,[PyData.int r,.int fl,.int j,.int t0],_,ds,rfl,RD.mono s125 _ rm12,nes,l3,lz,ld,cs,hno,fun w3 H16 s16 r16=>?_⟩
     refine⟨smallN _ (Nat.le_of_ble_eq_true rfl),fun q H17 n17=>?_⟩
     have s127:=(s125.trans s16).trans n17.same
     have s1317:=((s14.trans s15).trans s16).trans n17.same
     have s1517:=s16.trans n17.same
     refine⟨q,rfl,⟨_,SqL.of n17.at'⟩,for_list (K:=K) (a:=q) (xs:=[w1,w2,w3]) (fun c σ H18=>Same H17 H18 /\ ∃w6,σ = [some (.ref a),some (.int (0+(i:Int))),some (.ref p),some (.ref ma),some (.ref t),some (.str (Txt.join "\n" (ds.map itmS))),w6]) ⟨Same.refl _,_,rfl⟩ ?_ ?_ ?_⟩
     · rintro c σ H18 _ ⟨s18,_⟩
       exact SqL.of (s18 _ _ n17.at')
     · rintro c x σ H18 hx ⟨s18,w6,rfl⟩
       have rx:RD K H18 x (.tuple ds):=by
        match c,hx with
        | 0,hx=>cases hx; exact RD.mono (s1317.trans s18) _ r13
        | 1,hx=>cases hx; exact RD.mono (s1517.trans s18) _ r15
        | 2,hx=>cases hx; exact RD.mono (n17.same.trans s18) _ r16
       refine⟨_,rfl,_,rfl,x,.ref t,ds,rs.length,rfl,rx,RD.mono (s127.trans s18) _ rt12,allT,by omega,fun H19 s19=>?_⟩
       exact⟨_,rfl,iteF ⟨s18.trans s19,_,rfl⟩⟩
     · rintro σ H18 ⟨s18,w6,rfl⟩
       exact⟨s2.trans (s8.trans (s12.trans (s127.trans s18))),_,_,_,_,_,_,rfl⟩
   · rintro σ H2 ⟨s2,v1,v2,v3,v4,v5,v6,rfl⟩
     exact k _
end
end Lw
set_option Elab.async false
set_option linter.all false
namespace Lw
open PySem PySem.Spec PyProof.Rows L2
structure All (K:PySem.W.Frag) (mg:Str->Option Value):Prop where
 B:Blt mg
 g_SIDES:GT K mg "SIDES" [.str "up",.str "down"]
 g_FIGURES:GV mg "FIGURES" (.str figS)
 g_MOST_STEPS:GV mg "MOST_STEPS" (.int 100)
 g_GREATEST_SPEED:GV mg "GREATEST_SPEED" (.int 20)
 g_LONGEST_WAIT:GV mg "LONGEST_WAIT" (.int 1000)
 g_LONGEST_NAME:GV mg "LONGEST_NAME" (.int 8)
 g_LETTERS:GV mg "LETTERS" (.str abc)
 g_MOST_ITEMS:GV mg "MOST_ITEMS" (.int 20)
 f_is_whole:FA K mg "is_whole" sIW
 f_is_whole_within:FA K mg "is_whole_within" sWW
 f_is_item:FA K mg "is_item" sII
 f_is_line:FA K mg "is_line" sIsLn
 f_are_steps:FA K mg "are_steps" sAS
 f_is_short_item:FA K mg "is_short_item" sIS
 f_is_name:FA K mg "is_name" sIN
 f_show_numbers:FA K mg "show_numbers" sSNs
 f_show_item:FA K mg "show_item" sSIt
 f_show_items:FA K mg "show_items" sSIs
 f_read_items:FA K mg "read_items" sRdI
 f_item_in:FA K mg "item_in" sItI
 f_numbers_in:FA K mg "numbers_in" sNsI
 f_number_in:FA K mg "number_in" sNIn
 f__law_bag:FA K mg "_law_bag" sBag
 f__law_take:FA K mg "_law_take" sTake
 f__law_is_whole:FA K mg "_law_is_whole" sLW
 f__law_machine:FA K mg "_law_machine" sMach
 f__law_name:FA K mg "_law_name" sName
 f__law_item:FA K mg "_law_item" sItem
 f__law_item_text:FA K mg "_law_item_text" sLIt
 f__law_is_right_item:FA K mg "_law_is_right_item" sRIt
 f__law_right:FA K mg "_law_right" sRgs
 law:FA K mg "law" sLaw
theorem all_law {P:Program} {w:World} {K:PySem.W.Frag} {mg:Str->Option Value} {base:Heap} {f:Addr} {fd:FuncData} (A:All K mg) (F:Fun K "law" "law" sLaw f fd):FnOk P w K mg base CX0 7 f fd ["_law_script"] (spLaw K):=by
 have tk:FnHas P w K mg base "_law_take" 1 spTake:=ok_take A.f__law_take A.B
 have iw:FnHas P w K mg base "is_whole" 1 (spIsW K):=ok_iw A.f_is_whole A.B
 have ww:FnHas P w K mg base "is_whole_within" 2 (spWW K):=ok_ww A.f_is_whole_within A.B iw
 have isl:FnHas P w K mg base "is_line" 1 (spIsLn K):=ok_isln A.f_is_line A.B
 have itm:FnHas P w K mg base "is_item" 4 (spItm K):=ok_ii A.f_is_item A.B A.g_GREATEST_SPEED ww (ok_as A.f_are_steps A.B A.g_MOST_STEPS ww) (ok_is A.f_is_short_item A.B A.g_LONGEST_WAIT A.g_SIDES ww (ok_in A.f_is_name A.B A.g_LONGEST_NAME A.g_LETTERS))
 have nin:FnHas P w K mg base "number_in" 1 spNumIn:=ok_nin A.f_number_in A.B A.g_FIGURES
 have iti:FnHas P w K mg base "item_in" 5 (spItmIn K):=ok_iti A.f_item_in A.B nin (ok_nsi A.f_numbers_in A.B nin) itm
 exact ok_law F A.B (ok_bag A.f__law_bag A.B) tk (ok_mach A.f__law_machine A.B tk) (ok_item A.f__law_item A.B tk (ok_name A.f__law_name A.B tk)) (ok_lit A.f__law_item_text A.B) (ok_rdi A.f_read_items A.B A.g_MOST_ITEMS iti) (ok_sis A.f_show_items A.B (ok_sit A.f_show_item A.B (ok_isl A.f_is_line A.B) (ok_sns A.f_show_numbers A.B))) (ok_rgs A.f__law_right A.B (ok_rit A.f__law_is_right_item A.B (ok_lw A.f__law_is_whole A.B)))
end Lw
def PySem.W.Fast.tw15827075415330270013:PySem.Program:=PySem.Challenge.pw_glidequeue_k53_items_read
theorem PySem.W.Fast.te15827075415330270013:PySem.Challenge.pw_glidequeue_k53_items_read=PySem.W.Fast.tw15827075415330270013:=rfl
def PySem.W.Fast.tw3677820303758372922:Nat:=0
def PySem.W.Fast.tw232671828842233375:Nat:=0
def PySem.W.Fast.tw6338759431568965845:Nat:=0
def PySem.W.Fast.tw13884819659931212643:Nat:=0
def PySem.W.Fast.tw16229629686418628333:Nat:=0
def PySem.W.Fast.tw16144989562518456519:Nat:=0
def PySem.W.Fast.tw4597239470629746580:Nat:=0
def PySem.W.Fast.tw2754701604710686089:Nat:=0
def PySem.W.Fast.tw17357841106038669103:Nat:=0
def PySem.W.Fast.tw3070545169176325331:Nat:=0
def PySem.W.Fast.tw11012991579133846732:Nat:=0
def PySem.W.Fast.tw13552707909570854139:Nat:=0
def PySem.W.Fast.tw14044463965550110679:Nat:=0
def PySem.W.Fast.tw7673455064951395456:Nat:=0
def PySem.W.Fast.tw1557820962731696842:Nat:=0
def PySem.W.Fast.tw10425537864619678155:Nat:=0
def PySem.W.Fast.tw8575466707050134283:Nat:=0
def PySem.W.Fast.tw11042102989901203715:Nat:=0
def PySem.W.Fast.tw4646945560577631716:Nat:=0
def PySem.W.Fast.tw15783293161180022013:Nat:=0
def PySem.W.Fast.tw8229552483672797849:Nat:=0
def PySem.W.Fast.tw13253184154245820419:Nat:=0
def PySem.W.Fast.tw13538903554931888042:Nat:=0
def PySem.W.Fast.tw13546955381110418438:Nat:=0
def PySem.W.Fast.tw14651809008322426479:Nat:=0
def PySem.W.Fast.tw13213433247526851733:Nat:=0
def PySem.W.Fast.tw6054474821047984663:Nat:=0
def PySem.W.Fast.tw4346988237821898985:Nat:=0
def PySem.W.Fast.tw6078504738876532844:Nat:=0
def PySem.W.Fast.tw4356040227080222579:Nat:=0
def PySem.W.Fast.tw5682798860782565822:Nat:=0
def PySem.W.Fast.tw17288806135820543637:Nat:=0
def PySem.W.Fast.tw5711666127980689356:Nat:=0
def PySem.W.Fast.tw3477107618937084172:Nat:=0
def PySem.W.Fast.tw17175418681708903329:Nat:=0
def PySem.W.Fast.tw3454602618933736204:Nat:=0
def PySem.W.Fast.tw8700497632705633957:Nat:=0
def PySem.W.Fast.tw6580044057507753192:Nat:=0
def PySem.W.Fast.tw8076779540198218506:Nat:=0
def PySem.W.Fast.tw2667852728535750680:Nat:=0
def PySem.W.Fast.tw11620243118485651588:Nat:=0
def PySem.W.Fast.tw15682342211219568557:Nat:=0
def PySem.W.Fast.tw16512721099099943894:Nat:=0
def PySem.W.Fast.tw11722894863464396853:Nat:=0
def PySem.W.Fast.tw7814276483097308100:Nat:=0
def PySem.W.Fast.tw3393926658387694185:Nat:=0
open PySem PySem.W PyProof.Rows
set_option maxRecDepth 100000 in
set_option maxHeartbeats 0 in
theorem PySem.Challenge.cw_glidequeue_k53_items_read_holds : PySem.Challenge.rw_glidequeue_k53_items_read.Holds := by
 w_on; o_law; k_head; (case hw=>w_witness2)
 k_fill
 refine L2.law_walk (l:=PySem.Challenge.rw_glidequeue_k53_items_read) (k:=7) (x:="_law_script") (st:=Lw.sLaw) rfl rfl ⟨rfl,by decide,by decide⟩ (fun w h Y=>PySem.W.kIn_of Y) Lw.All ?F (fun _ _ A=>A.law) (fun _ _ _ _ _ _ _=>rfl) (fun _ _ _ _ _ _ _ A F=>Lw.all_law A F)
 case F=>
  intro w mg h KX G
  refine⟨L2.blt_mk KX G ?b,?x1,?x2,?x3,?x4,?x5,?x6,?x7,?x8,?x9,?x10,?x11,?x12,?x13,?x14,?x15,?x16,?x17,?x18,?x19,?x20,?x21,?x22,?x23,?x24,?x25,?x26,?x27,?x28,?x29,?x30,?x31,?x32⟩
  case b=>(unfold L2.bltNames; repeat (refine L2.NoG.cons ?z ?_; (case z=>k_is))); exact L2.NoG.nil
  case x1=>refine' L2.gt_mk KX G ?a ?l ?z ?r; (case a=>k_is); (case l=>k_is); (case z=>decide); (case r=>exact .cons ⟨_,rfl⟩ (.cons ⟨_,rfl⟩ .nil))
  case x2=>(refine' L2.gv_str KX G ?z; (case z=>k_is))
  case x3=>(refine' L2.gv_int KX G ?z; (case z=>k_is))
  case x4=>(refine' L2.gv_int KX G ?z; (case z=>k_is))
  case x5=>(refine' L2.gv_int KX G ?z; (case z=>k_is))
  case x6=>(refine' L2.gv_int KX G ?z; (case z=>k_is))
  case x7=>(refine' L2.gv_str KX G ?z; (case z=>k_is))
  case x8=>(refine' L2.gv_int KX G ?z; (case z=>k_is))
  case x9=>(refine' L2.fa_mk KX G ?a ?l ?c ?k; (case a=>k_is); (case l=>k_is); (case c=>k_is); (case k=>k_is))
  case x10=>(refine' L2.fa_mk KX G ?a ?l ?c ?k; (case a=>k_is); (case l=>k_is); (case c=>k_is); (case k=>k_is))
  case x11=>(refine' L2.fa_mk KX G ?a ?l ?c ?k; (case a=>k_is); (case l=>k_is); (case c=>k_is); (case k=>k_is))
  case x12=>(refine' L2.fa_mk KX G ?a ?l ?c ?k; (case a=>k_is); (case l=>k_is); (case c=>k_is); (case k=>k_is))
  case x13=>(refine' L2.fa_mk KX G ?a ?l ?c ?k; (case a=>k_is); (case l=>k_is); (case c=>k_is); (case k=>k_is))
  case x14=>(refine' L2.fa_mk KX G ?a ?l ?c ?k; (case a=>k_is); (case l=>k_is); (case c=>k_is); (case k=>k_is))
  case x15=>(refine' L2.fa_mk KX G ?a ?l ?c ?k; (case a=>k_is); (case l=>k_is); (case c=>k_is); (case k=>k_is))
  case x16=>(refine' L2.fa_mk KX G ?a ?l ?c ?k; (case a=>k_is); (case l=>k_is); (case c=>k_is); (case k=>k_is))
  case x17=>(refine' L2.fa_mk KX G ?a ?l ?c ?k; (case a=>k_is); (case l=>k_is); (case c=>k_is); (case k=>k_is))
  case x18=>(refine' L2.fa_mk KX G ?a ?l ?c ?k; (case a=>k_is); (case l=>k_is); (case c=>k_is); (case k=>k_is))
  case x19=>(refine' L2.fa_mk KX G ?a ?l ?c ?k; (case a=>k_is); (case l=>k_is); (case c=>k_is); (case k=>k_is))
  case x20=>(refine' L2.fa_mk KX G ?a ?l ?c ?k; (case a=>k_is); (case l=>k_is); (case c=>k_is); (case k=>k_is))
  case x21=>(refine' L2.fa_mk KX G ?a ?l ?c ?k; (case a=>k_is); (case l=>k_is); (case c=>k_is); (case k=>k_is))
  case x22=>(refine' L2.fa_mk KX G ?a ?l ?c ?k; (case a=>k_is); (case l=>k_is); (case c=>k_is); (case k=>k_is))
  case x23=>(refine' L2.fa_mk KX G ?a ?l ?c ?k; (case a=>k_is); (case l=>k_is); (case c=>k_is); (case k=>k_is))
  case x24=>(refine' L2.fa_mk KX G ?a ?l ?c ?k; (case a=>k_is); (case l=>k_is); (case c=>k_is); (case k=>k_is))
  case x25=>(refine' L2.fa_mk KX G ?a ?l ?c ?k; (case a=>k_is); (case l=>k_is); (case c=>k_is); (case k=>k_is))
  case x26=>(refine' L2.fa_mk KX G ?a ?l ?c ?k; (case a=>k_is); (case l=>k_is); (case c=>k_is); (case k=>k_is))
  case x27=>(refine' L2.fa_mk KX G ?a ?l ?c ?k; (case a=>k_is); (case l=>k_is); (case c=>k_is); (case k=>k_is))
  case x28=>(refine' L2.fa_mk KX G ?a ?l ?c ?k; (case a=>k_is); (case l=>k_is); (case c=>k_is); (case k=>k_is))
  case x29=>(refine' L2.fa_mk KX G ?a ?l ?c ?k; (case a=>k_is); (case l=>k_is); (case c=>k_is); (case k=>k_is))
  case x30=>(refine' L2.fa_mk KX G ?a ?l ?c ?k; (case a=>k_is); (case l=>k_is); (case c=>k_is); (case k=>k_is))
  case x31=>(refine' L2.fa_mk KX G ?a ?l ?c ?k; (case a=>k_is); (case l=>k_is); (case c=>k_is); (case k=>k_is))
  case x32=>(refine' L2.fa_mk KX G ?a ?l ?c ?k; (case a=>k_is); (case l=>k_is); (case c=>k_is); (case k=>k_is))
#print axioms PySem.Challenge.cw_glidequeue_k53_items_read_holds
