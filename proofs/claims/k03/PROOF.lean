import PyProof.Rows.All
import Wide.All
import OpenK.AllK
import Wide.FinOn
import Lean
import PyProof.EqAt
import PyProof.EqKinds
import PyProof.TupleCall
import PySem.Challenge.RW_glidequeue_k03_fractions_reckoned
set_option Elab.async false
set_option linter.all false
set_option maxRecDepth 100000
namespace L2
open PySem PySem.Spec PyProof.Rows
abbrev Key:=Sum Int Str
def keyIs:Key->Value->Bool
  | .inl k,v=>Value.isInt k v
  | .inr x,v=>Value.isStrOf x v
def keyH (w:World):Key->Int
  | .inl k=>hashInt k
  | .inr x=>hashStr w x
theorem keyIs_shape:∀ {k:Key} {v:Value},keyIs k v=true->(∃i t,k=Sum.inl i/\v=Value.int i t) \/ (∃x t,k=Sum.inr x/\v=Value.str x t)
  | .inl i,v,h=>by
    obtain⟨t,e⟩:=Value.isInt_shape (k:=i) (v:=v) h
    exact .inl ⟨i,t,rfl,e⟩
  | .inr x,v,h=>by
    obtain⟨t,e⟩:=Value.isStrOf_shape (x:=x) (v:=v) h
    exact .inr ⟨x,t,rfl,e⟩
theorem key_ll (a b:Int):decide ((Sum.inl a:Key)=Sum.inl b)=(a == b):=by
 by_cases e:a=b
 · subst e; simp
 · have h:¬(Sum.inl a:Key)=Sum.inl b:=fun q=>e (Sum.inl.inj q)
   rw [decide_eq_false h]
   exact (beq_eq_false_iff_ne.mpr e).symm
theorem key_rr (a b:Str):decide ((Sum.inr a:Key)=Sum.inr b)=decide (a=b):=by
 by_cases e:a=b
 · subst e; simp
 · have h:¬(Sum.inr a:Key)=Sum.inr b:=fun q=>e (Sum.inr.inj q)
   rw [decide_eq_false h,decide_eq_false e]
theorem key_lr (a:Int) (b:Str):decide ((Sum.inl a:Key)=Sum.inr b)=false:=decide_eq_false (fun q=>nomatch q)
theorem key_rl (a:Str) (b:Int):decide ((Sum.inr a:Key)=Sum.inl b)=false:=decide_eq_false (fun q=>nomatch q)
def mixKind (prog:Program) (w:World):PySem.KeyKind prog w Key where
 is:=keyIs
 hash:=keyH w
 inj:=fun v a b ha hb=>by
  rcases keyIs_shape ha with ⟨i,t,rfl,rfl⟩ | ⟨x,t,rfl,rfl⟩
  · rcases keyIs_shape hb with ⟨j,u,rfl,e⟩ | ⟨y,u,rfl,e⟩
    · injection e with e1 _; rw [e1]
    · exact nomatch e
  · rcases keyIs_shape hb with ⟨j,u,rfl,e⟩ | ⟨y,u,rfl,e⟩
    · exact nomatch e
    · injection e with e1 _; rw [e1]
 byValue:=fun k v h=>by
  rcases keyIs_shape h with ⟨i,t,rfl,rfl⟩ | ⟨x,t,rfl,rfl⟩ <;> rfl
 pyHash:=fun hv h=>by
  rcases keyIs_shape hv with ⟨i,t,rfl,rfl⟩ | ⟨x,t,rfl,rfl⟩
  · exact wpAny_pyHash_int h
  · exact wpAny_pyHash_str h
 eqBool:=fun hu hv h=>by
  rcases keyIs_shape hu with ⟨i,t,rfl,rfl⟩ | ⟨x,t,rfl,rfl⟩
  · rcases keyIs_shape hv with ⟨j,u,rfl,rfl⟩ | ⟨y,u,rfl,rfl⟩
    · rw [key_ll] at h; exact wpAny_eqBool_int h
    · rw [key_lr] at h; exact SeqAt.EqAt.int_str i t y u _ _ _ _ h
  · rcases keyIs_shape hv with ⟨j,u,rfl,rfl⟩ | ⟨y,u,rfl,rfl⟩
    · rw [key_rl] at h; exact SeqAt.EqAt.str_int x t j u _ _ _ _ h
    · rw [key_rr] at h; exact wpAny_eqBool_str h
 «strs»:=fun k x t v h=>by
  rcases keyIs_shape h with ⟨i,u,rfl,e⟩ | ⟨y,u,rfl,e⟩
  · exact nomatch e
  · injection e with e1 _
    subst e1
    cases v <;> rfl
end L2
namespace L2
open PySem PySem.Spec PyProof.Rows
inductive V where
 | non | bl (b:Bool) | int (i:Int) | str (x:Str) | byt (b:Array UInt8) | flt (b:UInt64) | ref (a:Addr) | ty (n:String)
 deriving DecidableEq
def RelV:V->Value->Prop
  | .non,u=>u=Value.none
  | .bl b,u=>u=Value.bool b
  | .int i,u=>∃t,u=Value.int i t
  | .str x,u=>∃t,u=Value.str x t
  | .byt b,u=>∃t,u=Value.bytes b t
  | .flt b,u=>∃t,u=Value.float b t
  | .ref a,u=>u=Value.ref a
  | .ty n,u=>u=Value.type n
abbrev Vals:List V->List Value->Prop:=Paired RelV
theorem Vals.length {xs:List V} {us:List Value} (r:Vals xs us):xs.length=us.length:=Paired.length r
theorem Vals.get:∀ {xs:List V} {us:List Value} {i:Nat} {x:V},Vals xs us->xs[i]? = some x -> ∃u,us[i]? = some u/\RelV x u
  | _,_,_,_,.nil,e=>by simp at e
  | _,_,0,_,.cons r _,e=>by simp at e; subst e; exact⟨_,rfl,r⟩
  | _,_,i+1,x,.cons _ t,e=>by
    obtain⟨u,h1,h2⟩:=Vals.get (i:=i) (x:=x) t (by simpa using e)
    exact⟨u,by simpa using h1,h2⟩
theorem Vals.set {x:V} {u:Value} (r:RelV x u):∀ {xs:List V} {us:List Value} (i:Nat),Vals xs us->Vals (xs.set i x) (us.set i u)
  | _,_,_,.nil=>.nil
  | _,_,0,.cons _ t=>.cons r t
  | _,_,i+1,.cons q t=>.cons q (Vals.set r i t)
theorem Vals.append:∀ {xs ys:List V} {us ws:List Value},Vals xs us->Vals ys ws->Vals (xs++ys) (us++ws)
  | _,_,_,_,.nil,s=>s
  | _,_,_,_,.cons r t,s=>.cons r (Vals.append t s)
def RelO:Option V->Option Value->Prop
  | some v,some u=>RelV v u
  | none,none=>True
  | _,_=>False
def KV {κ : Type}:List (κ × V)->List (κ × Value)->Prop:=Paired fun (p : κ × V) (q : κ × Value)=>p.1=q.1/\RelV p.2 q.2
def kV:Key->V
  | .inl i=>.int i
  | .inr x=>.str x
inductive HO where
 /-- a list -/
 | lst (xs:List V)
 /-- a tuple (never changes) -/
 | tup (xs:List V)
 /-- a dict whose keys are ints and texts; one whose keys are tuples of ints and texts (the empty one is both) -/
 | dK (kvs:List (Key × V)) | dT (kvs:List (List Key × V))
 /-- a set of ints: its members,its size -/
 | set (S:Int->Bool) (n:Nat)
 /-- an instance of the class at C,its dict at dx,its attributes -/
 | ins (C dx:Addr) (fs:List (Str × V))
 /-- the dict of the instance at x -/
 | own (x:Addr)
 /-- the dict of an exception -/
 | xd (fs:List (Str × V))
 /-- a bound method,f of x -/
 | met (f x:Addr)
 /-- a range object lo,lo+1,.. below hi -/
 | rng (lo hi:Int)
 /-- a thing that is known to the object (the script; a dict while a loop walks it): read,never written while it is so -/
 | frz (o:Obj) (u:HO)
 /-- a code object's table -/
 | tbl (ps:Array Value)
 /-- any other thing,by what is true of its one object (a def of one's own: SetO a S n:=HO.ext fun h=>..) -/
 | ext (φ : Heap->Prop)
abbrev Hp:=Addr->Option HO
def upd (H:Hp) (a:Addr) (o:HO):Hp:=fun b=>if b=a then some o else H b
theorem upd_same {H:Hp} {a:Addr} {o:HO}:upd H a o a=some o:=by unfold upd; rw [if_pos rfl]
theorem upd_ne {H:Hp} {a b:Addr} {o:HO} (h:b≠a):upd H a o b=H b:=by unfold upd; rw [if_neg h]
theorem ne_of {H:Hp} {a b:Addr} {o u:HO} (h:H a=some o) (h':H b=some u) (d:o≠u):a≠b:=by
 intro e; subst e; rw [h] at h'; exact d (Option.some.inj h')
theorem ne_of_none {H:Hp} {a b:Addr} {o:HO} (h:H a=some o) (h':H b=none):a≠b:=by
 intro e; subst e; rw [h] at h'; cases h'
section
variable (P:Program) (w:World)
def ObjOk (H:Hp) (h:Heap) (a:Addr):HO->Prop
  | .lst xs=>xs.length<=sizeLine /\ ∃(its:List Value) (n:Nat),Vals xs its/\h.get? a=some { cls:=.type "list",data:=.seq its.toArray n }
  | .tup xs=>xs.length<=sizeLine /\ ∃its:List Value,Vals xs its/\IsTup h a its.toArray
  | .dK kvs=>kvs.length<=sizeLine/\(a == sysModules)=false /\ ∃vs,KV kvs vs/\h.DictOf (mixKind P w) a vs
  | .dT kvs=>kvs.length<=sizeLine/\(a == sysModules)=false /\ ∃xs:List (List Key × Addr × Value),
      Paired (fun (p:List Key × V) (q:List Key × Addr × Value)=>p.1=q.1/\H q.2.1=some (.tup (p.1.map kV))/\RelV p.2 q.2.2) kvs xs /\
      ∃o es ep,h.get? a=some o/\o.ExactDict/\o.data = .dict es ep/\es.toList=xs.map (entryOfKey (tupleKind (mixKind P w)))/\(xs.map (·.1)).Nodup
  | .set S n=>h.SetOf (intKind P w) a S n
  | .ins C dx fs=>H dx=some (.own a)/\fs.length<=1000/\dx≠a/\h.get? a=some (PySem.W.instObj C dx) /\
      ∃mA,h.Ns1 dx mA/\(∀f,RelO (fs.lookup f) (mA f))/\PySem.Within mA (fs.map (·.1))
  | .own _=>∃o,h.get? a=some o
  | .xd fs=>∃mA,h.Ns1 a mA /\ ∀f,RelO (fs.lookup f) (mA f)
  | .rng lo hi=>∃t u v,h.get? a=some { cls:=.type "range",data:=.fields #[.int lo t,.int hi u,.int 1 v] }
  | .frz o u=>h.get? a=some o/\ObjOk H h a u
  | .tbl ps=>h.get? a=some { cls:=.none,data:=.fields ps }
  | .met f x=>h.get? a=some (PySem.W.methodObj (.ref f) (.ref x))
  | .ext φ=>φ h/\(∃o,h.get? a=some o) /\ ∀h1 h2:Heap,φ h1->(∀o,h1.get? a=some o->h2.get? a=some o) -> φ h2
def HOk (H:Hp) (h:Heap):Prop:=∀a o,H a=some o->ObjOk P w H h a o
end
section
variable {P:Program} {w:World} {H H':Hp} {h h':Heap} {a:Addr} {o:HO}
theorem ObjOk.lt (x:ObjOk P w H h a o):a<h.objs.size:=by
 cases o with
 | lst xs=>obtain⟨_,_,_,_,e⟩:=x; exact Heap.lt_size e
 | tup xs=>obtain⟨_,_,_,p⟩:=x; exact p.lt
 | dK kvs=>obtain⟨_,_,_,_,o,_,_,e,_⟩:=x; exact Heap.lt_size e
 | dT kvs=>obtain⟨_,_,_,_,o,_,_,e,_⟩:=x; exact Heap.lt_size e
 | set S n=>obtain⟨o,_,_,_,e,_⟩:=x; exact Heap.lt_size e
 | ins C dx fs=>obtain⟨_,_,_,e,_⟩:=x; exact Heap.lt_size e
 | own y=>obtain⟨_,e⟩:=x; exact Heap.lt_size e
 | xd fs=>obtain⟨_,⟨_,_,_,e,_⟩,_⟩:=x; exact Heap.lt_size e
 | rng lo hi=>obtain⟨_,_,_,e⟩:=x; exact Heap.lt_size e
 | frz ob u=>obtain⟨e,_⟩:=x; exact Heap.lt_size e
 | tbl ps=>exact Heap.lt_size (show h.get? a=some _ from x)
 | met f y=>exact Heap.lt_size (show h.get? a=some _ from x)
 | ext φ=>obtain⟨_,⟨_,e⟩,_⟩:=x; exact Heap.lt_size e
theorem Paired.mapP {α β : Type} {F G : α -> β -> Prop}:∀ {l₁ : List α} {l₂ : List β},Paired F l₁ l₂ -> (∀a b,F a b->G a b)->Paired G l₁ l₂
  | _,_,.nil,_=>.nil
  | _,_,.cons r t,f=>.cons (f _ _ r) (Paired.mapP t f)
theorem ObjOk.stay (x:ObjOk P w H h a o) (k:∀b u,(b=a \/ H b=some (.own a))->h.get? b=some u->h'.get? b=some u)
    (ho:∀b,H b=some (.own a)->H' b=some (.own a)) (ht:∀b xs,H b=some (.tup xs)->H' b=some (.tup xs)):ObjOk P w H' h' a o:=by
  induction o with
  | lst xs=>obtain⟨z,its,n,r,e⟩:=x; exact⟨z,its,n,r,k _ _ (.inl rfl) e⟩
  | tup xs=>obtain⟨z,its,r,ob,e,c⟩:=x; exact⟨z,its,r,ob,k _ _ (.inl rfl) e,c⟩
  | dK kvs=>obtain⟨z,y,vs,r,ob,es,ep,e,c⟩:=x; exact⟨z,y,vs,r,ob,es,ep,k _ _ (.inl rfl) e,c⟩
  | dT kvs=>
    obtain⟨z,y,xs,r,ob,es,ep,e,c⟩:=x
    exact⟨z,y,xs,Paired.mapP r fun p q z=>⟨z.1,ht _ _ z.2.1,z.2.2⟩,ob,es,ep,k _ _ (.inl rfl) e,c⟩
  | set S n=>obtain⟨ob,es,ep,t,e,c⟩:=x; exact⟨ob,es,ep,t,k _ _ (.inl rfl) e,c⟩
  | ins C dx fs=>
    obtain⟨d,z,ne,e,mA,⟨od,es,ep,e2,c⟩,r⟩:=x
    exact⟨ho _ d,z,ne,k _ _ (.inl rfl) e,mA,⟨od,es,ep,k _ _ (.inr d) e2,c⟩,r⟩
  | own y=>obtain⟨ob,e⟩:=x; exact⟨ob,k _ _ (.inl rfl) e⟩
  | xd fs=>obtain⟨mA,⟨od,es,ep,e,c⟩,r⟩:=x; exact⟨mA,⟨od,es,ep,k _ _ (.inl rfl) e,c⟩,r⟩
  | rng lo hi=>obtain⟨t,u,v,e⟩:=x; exact⟨t,u,v,k _ _ (.inl rfl) e⟩
  | frz ob u ih=>obtain⟨e,q⟩:=x; exact⟨k _ _ (.inl rfl) e,ih q⟩
  | tbl ps=>
    have e:h.get? a=some { cls:=.none,data:=.fields ps }:=x
    show h'.get? a=some { cls:=.none,data:=.fields ps }
    exact k a _ (.inl rfl) e
  | met f y=>
    have e:h.get? a=some (PySem.W.methodObj (.ref f) (.ref y)):=x
    show h'.get? a=some (PySem.W.methodObj (.ref f) (.ref y))
    exact k a _ (.inl rfl) e
  | ext φ=>obtain⟨p,⟨o,e⟩,st⟩:=x; exact⟨st _ _ p fun o q=>k _ _ (.inl rfl) q,⟨o,k _ _ (.inl rfl) e⟩,st⟩
theorem HOk.lt (x:HOk P w H h) (e:H a=some o):a<h.objs.size:=(x a o e).lt
theorem HOk.fresh (x:HOk P w H h) (e:h.objs.size<=a):H a=none:=by
 cases q:H a with
 | none=>rfl
 | some u=>exact absurd (Nat.lt_of_lt_of_le (x.lt q) e) (Nat.lt_irrefl _)
theorem HOk.kept (x:HOk P w H h) (k:∀b u,h.get? b=some u->h'.get? b=some u):HOk P w H h':=fun a o e=>
 (x a o e).stay (fun b u _ q=>k b u q) (fun _ q=>q) fun _ _ q=>q
theorem HOk.laid (x:HOk P w H h) (k:∀b u,h.get? b=some u->h'.get? b=some u) (hp:h.objs.size<=a) (new:ObjOk P w (upd H a o) h' a o):HOk P w (upd H a o) h':=fun b u e=>by
 have hn:=x.fresh hp
 by_cases hb:b=a
 · subst hb; rw [upd_same] at e; cases e; exact new
 · rw [upd_ne hb] at e
   exact (x b u e).stay (fun c v _ q=>k c v q) (fun c q=>by rw [upd_ne (ne_of_none q hn)]; exact q) fun c xs q=>by rw [upd_ne (ne_of_none q hn)]; exact q
end
def Rd (H:Hp) (a:Addr) (u:HO):Prop:=H a=some u \/ ∃o,H a=some (.frz o u)
theorem Rd.ok {P:Program} {w:World} {H:Hp} {h:Heap} {a:Addr} {u:HO} (r:Rd H a u) (x:HOk P w H h):ObjOk P w H h a u:=by
 rcases r with r | ⟨o,r⟩
 · exact x a u r
 · obtain⟨_,q⟩:=x a _ r
   exact q
def Mut:Option HO->Prop
  | some (.lst _)=>True
  | some (.dK _)=>True
  | some (.dT _)=>True
  | some (.set _ _)=>True
  | some (.ins _ _ _)=>True
  | some (.ext _)=>True
  | _=>False
section
variable {P:Program} {w:World} {H:Hp} {h h':Heap} {x e:Addr} {o':HO}
theorem HOk.write (ok:HOk P w H h) (mu:Mut (H x)) (he:e=x \/ H e=some (.own x)) (k:∀b u,b≠e->h.get? b=some u->h'.get? b=some u) (heo:∃u,h'.get? e=some u)
    (new:ObjOk P w (upd H x o') h' x o'):HOk P w (upd H x o') h':=fun b u q=>by
  have nown:∀c y,H c=some (.own y)->c≠x:=fun c y r z=>by subst z; rw [r] at mu; exact mu
  have ntup:∀c xs,H c=some (.tup xs)->c≠x:=fun c xs r z=>by subst z; rw [r] at mu; exact mu
  by_cases hb:b=x
  · subst hb; rw [upd_same] at q; cases q; exact new
  · rw [upd_ne hb] at q
    by_cases hbe:b=e
    · have q':H b=some (.own x):=by
        rcases he with z | z
        · exact absurd (hbe.trans z) hb
        · rw [hbe]; exact z
      rw [q] at q'; cases q'
      obtain⟨v,hv⟩:=heo
      exact⟨v,by rw [hbe]; exact hv⟩
    · refine (ok b u q).stay (fun c v hc r=>k c v ?_ r) (fun c r=>by rw [upd_ne (nown c b r)]; exact r) fun c xs r=>by rw [upd_ne (ntup c xs r)]; exact r
      rcases hc with rfl | hc
      · exact hbe
      · rintro rfl
        rcases he with z | z
        · exact nown c b hc z
        · rw [hc] at z; cases z; exact hb rfl
end
structure Un (fs ex:List Addr) (H H':Hp) (h h':Heap):Prop where
 keep:∀b o,h.get? b=some o->H b=none->b ∉ fs->b ∉ ex->h'.get? b=some o
 slot:∀b o,h.get? b=some o->H b=none->b∈fs->b ∉ ex -> ∃sl,h'.get? b=some { o with slots:=sl }
 free:∀b o,h.get? b=some o->H b=none->b ∉ ex->H' b=none
 there:∀b o,h.get? b=some o->b ∉ ex -> ∃o',h'.get? b=some o'
 tups:∀b xs,H b=some (.tup xs)->H' b=some (.tup xs)
 frzs:∀b o u,H b=some (.frz o u)->H' b=some (.frz o u)
 tbls:∀b ps,H b=some (.tbl ps) -> ∃more,H' b=some (.tbl (ps++more))
section
variable {fs fs' ex ex':List Addr} {H H1 H2:Hp} {h h1 h2 h':Heap} {a x e:Addr} {o:HO}
theorem Un.any (u:Un fs ex H H1 h h1) {b:Addr} {ob:Obj} (q:h.get? b=some ob) (n:H b=none) (hx:b ∉ ex):∃sl,h1.get? b=some { ob with slots:=sl }:=by
 by_cases hb:b∈fs
 · exact u.slot b ob q n hb hx
 · exact⟨ob.slots,u.keep b ob q n hb hx⟩
theorem Un.kept (k:∀b u,h.get? b=some u->h'.get? b=some u):Un fs ex H H h h':=
 ⟨fun b ob q _ _ _=>k b ob q,fun b ob q _ _ _=>⟨ob.slots,k b ob q⟩,fun _ _ _ n _=>n,fun b ob q _=>⟨ob,k b ob q⟩,fun _ _ q=>q,fun _ _ _ q=>q,fun _ ps q=>⟨#[],by rw [q]; simp⟩⟩
theorem Un.refl:Un fs ex H H h h:=Un.kept fun _ _ q=>q
theorem Un.laid (k:∀b u,h.get? b=some u->h'.get? b=some u) (hp:h.objs.size<=a) (hn:H a=none):Un fs ex H (upd H a o) h h' where
 keep:=fun b u q _ _ _=>k b u q
 slot:=fun b u q _ _ _=>⟨u.slots,k b u q⟩
 free:=fun b u q n _=>by rw [upd_ne (Nat.ne_of_lt (Nat.lt_of_lt_of_le (Heap.lt_size q) hp))]; exact n
 there:=fun b u q _=>⟨u,k b u q⟩
 tups:=fun b xs q=>by rw [upd_ne (ne_of_none q hn)]; exact q
 frzs:=fun b u xs q=>by rw [upd_ne (ne_of_none q hn)]; exact q
 tbls:=fun b ps q=>⟨#[],by rw [upd_ne (ne_of_none q hn),q]; simp⟩
theorem Un.write (mu:Mut (H x)) (he:e=x \/ H e=some (.own x)) (k:∀b u,b≠e->h.get? b=some u->h'.get? b=some u) (heo:∃u,h'.get? e=some u):Un fs ex H (upd H x o) h h':=by
 have hx:∀b,H b=none->b≠x:=fun b n z=>by subst z; rw [n] at mu; exact mu
 have hb:∀b,H b=none->b≠e:=fun b n z=>by
  subst z
  rcases he with r | r
  · exact hx b n r
  · rw [n] at r; cases r
 have hm:∀b u,H b=some u -> ¬Mut (some u)->b≠x:=fun b u q nm z=>by subst z; rw [q] at mu; exact nm mu
 refine ⟨fun b u q n _ _=>k b u (hb b n) q,fun b u q n _ _=>⟨u.slots,k b u (hb b n) q⟩,fun b u q n _=>by rw [upd_ne (hx b n)]; exact n,fun b u q _=>?_,
   fun b xs q=>by rw [upd_ne (hm b _ q fun z=>z)]; exact q,fun b u xs q=>by rw [upd_ne (hm b _ q fun z=>z)]; exact q,fun b ps q=>⟨#[],by rw [upd_ne (hm b _ q fun z=>z),q]; simp⟩⟩
 by_cases hbe:b=e
 · subst hbe; exact heo
 · exact⟨u,k b u hbe q⟩
end
def trk (h:Heap) (H:Hp):List Addr:=(List.range h.objs.size).filter fun a=>(H a).isSome
def hidT (h:Heap) (H:Hp):Heap:=PySem.W.hideAll h (trk h H)
theorem hidT_size (h:Heap) (H:Hp):(hidT h H).objs.size=h.objs.size:=PySem.W.hideAll_size _ _
theorem hidT_get {h:Heap} {H:Hp} {b:Addr} {o:Obj} (e:h.get? b=some o) (n:H b=none):(hidT h H).get? b=some o:=
 PySem.W.hideAll_get _ e fun hm=>by
  have q:(H b).isSome=true:=(List.mem_filter.mp hm).2
  rw [n] at q; simp at q
theorem of_hidT {h:Heap} {H:Hp} {b:Addr} {o:Obj} (e:(hidT h H).get? b=some o):h.get? b=some o/\H b=none:=by
 have e':h.get? b=some o:=PySem.W.of_hideAll (trk h H) e
 refine⟨e',?_⟩
 cases q:H b with
 | none=>rfl
 | some x=>
   have hm:b∈trk h H:=List.mem_filter.mpr ⟨List.mem_range.mpr (Heap.lt_size e'),by simp [q]⟩
   have z:(hidT h H).get? b=none:=PySem.W.hideAll_none (trk h H) hm
   rw [z] at e; cases e
end L2
namespace L2
open PySem PySem.Spec PyProof.Rows
structure Mod (K:PySem.W.Frag) (mg:Str->Option Value) (base:Heap):Prop where
 kin:K.In base
 glob:base.Ns mainGlobals mg
 blt:∃mb,base.Ns builtinsNs mb /\ ∀x:Str,x ≠ "__name__" -> mb x=bootBuiltins x
 nolimit:base.NoLimit
structure Cx where
 prog:Program
 w:World
 K:PySem.W.Frag
 mg:Str->Option Value
 base:Heap
 A:Around
 N:List Str
 s₀ : Shared
 H₀ : Hp
 env:Env
 outer:List Env
 stack:List Env
 ex:List Addr
 fn:Str->Bool
 calm:Bool
 pn:List (Addr × Obj)
 xe:Value->Shared->Prop
def frs (l:List Env):List Addr:=l.filterMap (·.frame)
abbrev Cx.fs (X:Cx):List Addr:=frs X.outer
def Vis (sc:Scope) (x:Str):Prop:=sc.names.lookup x=some .local \/ sc.names.lookup x=some .cell \/ sc.names.lookup x=some .free
def Loc (sc:Scope) (x:Str):Prop:=sc.names.lookup x=some .local \/ sc.names.lookup x=some .cell
def Look (env:Env) (h:Heap) (m:Str->Option Value) (x:Str) (u:Value):Prop:=
 (env.kindOf x=some .local/\m x=some u) \/ ((env.kindOf x=some .cell \/ env.kindOf x=some .free) /\ ∃c,env.cells.lookup x=some c/\h.IsCell c (some u))
structure Cx.Ok (X:Cx):Prop where
 mod:Mod X.K X.mg X.base
 kind:X.env.scope.kind = .function
 glob:X.env.globals=mainGlobals
 blt:X.env.builtins=builtinsNs
 above:X.s₀.heap.objs.size<=X.env.locals
 inj:∀x y c,X.env.cells.lookup x=some c->X.env.cells.lookup y=some c->x=y
 has:∀x,(X.env.kindOf x=some .cell \/ X.env.kindOf x=some .free) -> ∃c,X.env.cells.lookup x=some c
 cab:∀x c,X.fn x=true->X.env.cells.lookup x=some c->X.s₀.heap.objs.size<=c
 hd:X.calm=true->X.A.handled=none
 frames:X.A.frames=some X.stack
 stk:X.stack=X.outer \/ (X.stack=X.env::X.outer/\X.env.frame=some X.env.locals)
 exf:∀b∈X.ex,b≠X.env.locals /\ ∀x c,X.env.cells.lookup x=some c->c≠b
 bs:∀b o,X.base.get? b=some o->X.s₀.heap.get? b=some o/\X.H₀ b=none
 bsz:X.base.objs.size<=X.s₀.heap.objs.size
 noex:∀b o,X.base.get? b=some o->b ∉ X.ex
 exfs:∀b∈X.ex,b ∉ X.fs
 funs:X.s₀.heap.FunFrames X.base X.outer
 frf:∀b∈X.fs,X.H₀ b=none
structure Inv (X:Cx) (pins:List (Addr × Obj)) (σ : List (Option V)) (H:Hp) (s:Shared):Prop where
 ok:X.Ok
 os:s.os=X.s₀.os
 bare:AllBare s.gens
 base:Un X.fs X.ex X.H₀ H X.s₀.heap s.heap
 loc:∃m,s.heap.Ns X.env.locals m /\ ∀(i:Nat) (x:Str) (v:V),X.N[i]? = some x -> σ[i]? = some (some v)->Vis X.env.scope x -> ∃u,RelV v u/\Look X.env s.heap m x u
 cell:∀x c,X.env.cells.lookup x=some c -> ∃v,s.heap.IsCell c v
 free:H X.env.locals=none
 freeC:∀x c,X.env.cells.lookup x=some c->H c=none
 pin:∀p∈X.pn++pins,s.heap.get? p.1=some p.2/\H p.1=none/\p.1≠X.env.locals/\p.1 ∉ X.fs /\ ∀v,p.2.data ≠ .cell v
 hok:HOk X.prog X.w H s.heap
 len : σ.length=X.N.length
section
variable {X:Cx} {pins:List (Addr × Obj)} {σ : List (Option V)} {H H':Hp} {s:Shared} {h':Heap}
theorem Cx.Ok.nofr (ok:X.Ok) {b:Addr} {o:Obj} (e:X.base.get? b=some o):b ∉ X.fs:=fun hb=>by
 have:=(ok.funs.mem hb).1
 rw [e] at this; cases this
theorem Inv.bs (I:Inv X pins σ H s):∀b o,X.base.get? b=some o->s.heap.get? b=some o/\H b=none:=fun b o e=>
 ⟨I.base.keep b o (I.ok.bs b o e).1 (I.ok.bs b o e).2 (I.ok.nofr e) (I.ok.noex b o e),I.base.free b o (I.ok.bs b o e).1 (I.ok.bs b o e).2 (I.ok.noex b o e)⟩
theorem Inv.bk (I:Inv X pins σ H s):∀b o,X.base.get? b=some o->s.heap.get? b=some o:=fun b o e=>(I.bs b o e).1
theorem Inv.mod (I:Inv X pins σ H s):Mod X.K X.mg X.base:=I.ok.mod
theorem Inv.kIn (I:Inv X pins σ H s):X.K.In s.heap:=I.ok.mod.kin.keeps I.bk
theorem Inv.lt (I:Inv X pins σ H s):X.env.locals<s.heap.objs.size:=let ⟨_,hn,_⟩:=I.loc; hn.lt
theorem Inv.sz (I:Inv X pins σ H s):X.s₀.heap.objs.size<=s.heap.objs.size:=Nat.le_trans I.ok.above (Nat.le_of_lt I.lt)
theorem Inv.nofs (I:Inv X pins σ H s) {a:Addr} (h:s.heap.objs.size<=a):a ∉ X.fs:=fun hb=>by
 obtain⟨_,o,ho,_⟩:=I.ok.funs.mem hb
 exact absurd (Nat.lt_of_lt_of_le (Heap.lt_size ho) (Nat.le_trans I.sz h)) (Nat.lt_irrefl _)
theorem Inv.cne (I:Inv X pins σ H s):∀x c,X.env.cells.lookup x=some c->c≠X.env.locals:=fun x c e z=>by
 obtain⟨v,o,ho,hd⟩:=I.cell x c e
 obtain⟨m,⟨o',es,ep,ho',hd',_⟩,_⟩:=I.loc
 rw [z,ho'] at ho; cases ho; rw [hd'] at hd; cases hd
theorem Inv.funs (I:Inv X pins σ H s):s.heap.FunFrames X.base X.outer:=by
 have all:∀(l:List Env),(∀b∈frs l,b∈X.fs)->X.s₀.heap.FunFrames X.base l->s.heap.FunFrames X.base l:=by
  intro l
  induction l with
  | nil=>intro _ _; trivial
  | cons env r ih=>
    intro hs hl
    obtain⟨hk,⟨L,o,hf,hn,ho,hd⟩,hr⟩:=hl
    have hL:L∈X.fs:=hs L (by unfold frs; rw [List.filterMap_cons,hf]; exact List.mem_cons_self)
    obtain⟨sl,e⟩:=I.base.slot L o ho (I.ok.frf L hL) hL fun z=>I.ok.exfs L z hL
    exact⟨hk,⟨L,_,hf,hn,e,hd⟩,ih (fun b hb=>hs b (by unfold frs; rw [List.filterMap_cons,hf]; exact List.mem_cons_of_mem _ hb)) hr⟩
 exact all X.outer (fun _ hb=>hb) I.ok.funs
theorem Inv.stack (I:Inv X pins σ H s):s.heap.FunFrames X.base X.stack:=by
 rcases I.ok.stk with e | ⟨e,hf⟩
 · rw [e]; exact I.funs
 · rw [e]
   obtain⟨m,hn,_⟩:=I.loc
   refine .cons (by rw [I.ok.kind]; decide) hf hn ?_ I.funs
   exact Heap.get?_none_of_le (Nat.le_trans I.ok.bsz I.ok.above)
theorem Inv.stkSub (I:Inv X pins σ H s):∀b∈frs X.stack,b∈X.env.locals::X.fs:=fun b hb=>by
 rcases I.ok.stk with e | ⟨e,hf⟩
 · rw [e] at hb; exact List.mem_cons_of_mem _ hb
 · rw [e] at hb
   unfold frs at hb
   rw [List.filterMap_cons,hf] at hb
   exact hb
theorem Inv.stkFree (I:Inv X pins σ H s):∀b∈frs X.stack,H b=none:=fun b hb=>by
 rcases List.mem_cons.mp (I.stkSub b hb) with e | hb
 · rw [e]; exact I.free
 · obtain⟨_,o,ho,_⟩:=I.ok.funs.mem hb
   exact I.base.free b o ho (I.ok.frf b hb) fun z=>I.ok.exfs b z hb
theorem Inv.step {g':Array GenState} {t':Nat} {d':Drawn} {ch:List Addr} (I:Inv X pins σ H s)
    (hch:∀b∈ch,(b∈X.ex \/ X.s₀.heap.objs.size<=b)/\b≠X.env.locals/\(∀x c,X.env.cells.lookup x=some c->c≠b) /\ ∀p∈X.pn++pins,p.1≠b)
    (keep:∀b o,b≠X.env.locals->b ∉ X.fs->b ∉ ch->s.heap.get? b=some o->H b=none->h'.get? b=some o)
    (slot:∀b o,b≠X.env.locals->b∈X.fs->b ∉ ch->s.heap.get? b=some o->H b=none -> ∃sl,h'.get? b=some { o with slots:=sl }) (free:∀b o,b ∉ ch->s.heap.get? b=some o->H b=none->H' b=none)
    (there:∀b o,b ∉ ch->s.heap.get? b=some o -> ∃o',h'.get? b=some o')
    (tups:∀b xs,H b=some (.tup xs)->H' b=some (.tup xs)) (frzs:∀b o u,H b=some (.frz o u)->H' b=some (.frz o u)) (tbls:∀b ps,H b=some (.tbl ps) -> ∃more,H' b=some (.tbl (ps++more)))
    (ns:∀m,s.heap.Ns X.env.locals m->h'.Ns X.env.locals m) (hok:HOk X.prog X.w H' h') (hg:AllBare g') :
    Inv X pins σ H' { s with heap:=h',gens:=g',drawn:=d',toks:=t' }:=by
  have neL:∀b o,X.s₀.heap.get? b=some o->b≠X.env.locals:=fun b o e=>Nat.ne_of_lt (Nat.lt_of_lt_of_le (Heap.lt_size e) I.ok.above)
  have neC:∀b o,X.s₀.heap.get? b=some o->b ∉ X.ex->b ∉ ch:=fun b o e hx hb=>by
   rcases (hch b hb).1 with z | z
   · exact hx z
   · exact absurd (Nat.lt_of_lt_of_le (Heap.lt_size e) z) (Nat.lt_irrefl _)
  have cellK:∀x c,X.env.cells.lookup x=some c -> ∀v,s.heap.IsCell c v->h'.IsCell c v:=fun x c e v ⟨o,ho,hd⟩=>by
   have nch:c ∉ ch:=fun z=>(hch c z).2.2.1 x c e rfl
   by_cases hc:c∈X.fs
   · obtain⟨sl,q⟩:=slot c o (I.cne x c e) hc nch ho (I.freeC x c e)
     exact⟨_,q,hd⟩
   · exact⟨o,keep c o (I.cne x c e) hc nch ho (I.freeC x c e),hd⟩
  refine⟨I.ok,I.os,hg,⟨fun b o e n hb hx=>?_,fun b o e n hb hx=>?_,fun b o e n hx=>?_,fun b o e hx=>?_,fun b xs e=>tups b xs (I.base.tups b xs e),fun b o xs e=>frzs b o xs (I.base.frzs b o xs e),fun b ps e=>?_⟩,?_,fun x c e=>?_,?_,fun x c e=>?_,fun p hp=>?_,hok,I.len⟩
  · exact keep b o (neL b o e) hb (neC b o e hx) (I.base.keep b o e n hb hx) (I.base.free b o e n hx)
  · obtain⟨sl,e1⟩:=I.base.slot b o e n hb hx
    obtain⟨sl',e2⟩:=slot b _ (neL b o e) hb (neC b o e hx) e1 (I.base.free b o e n hx)
    exact⟨sl',e2⟩
  · obtain⟨o',e1⟩:=I.base.there b o e hx
    exact free b o' (neC b o e hx) e1 (I.base.free b o e n hx)
  · obtain⟨o',e1⟩:=I.base.there b o e hx
    exact there b o' (neC b o e hx) e1
  · obtain⟨m1,e1⟩:=I.base.tbls b ps e
    obtain⟨m2,e2⟩:=tbls b _ e1
    exact⟨m1++m2,by rw [e2,Array.append_assoc]⟩
  · obtain⟨m,hn,hl⟩:=I.loc
    refine⟨m,ns m hn,fun i x v e1 e2 e3=>?_⟩
    obtain⟨u,r,l⟩:=hl i x v e1 e2 e3
    refine⟨u,r,?_⟩
    rcases l with l | ⟨k,c,e,z⟩
    · exact .inl l
    · exact .inr ⟨k,c,e,cellK x c e _ z⟩
  · obtain⟨v,z⟩:=I.cell x c e
    exact⟨v,cellK x c e v z⟩
  · obtain⟨m,⟨o,_,_,ho,_⟩,_⟩:=I.loc
    exact free _ o (fun z=>(hch _ z).2.1 rfl) ho I.free
  · obtain⟨v,o,ho,hd⟩:=I.cell x c e
    exact free c o (fun z=>(hch c z).2.2.1 x c e rfl) ho (I.freeC x c e)
  · obtain⟨e,n,ne,nf,d⟩:=I.pin p hp
    have nch:p.1 ∉ ch:=fun z=>(hch p.1 z).2.2.2 p hp rfl
    exact⟨keep p.1 p.2 ne nf nch e n,free p.1 p.2 nch e n,ne,nf,d⟩
theorem Inv.un {t':Nat} (I:Inv X pins σ H s) (u:Un X.fs [] H H' s.heap h') (hok:HOk X.prog X.w H' h'):Inv X pins σ H' { s with heap:=h',toks:=t' }:=by
 obtain⟨m,⟨o,es,ep,ho,r⟩,_⟩:=id I.loc
 obtain⟨sl,hL⟩:=u.any ho I.free (by simp)
 exact I.step (g':=s.gens) (d':=s.drawn) (ch:=[]) (fun _ z=>nomatch z) (fun b o _ hb _ e n=>u.keep b o e n hb (by simp)) (fun b o _ hb _ e n=>u.slot b o e n hb (by simp)) (fun b o _ e n=>u.free b o e n (by simp)) (fun b o _ e=>u.there b o e (by simp)) u.tups u.frzs u.tbls (fun m' hm=>by
  obtain⟨o',es',ep',ho',r'⟩:=hm
  rw [ho] at ho'; cases ho'
  exact⟨_,es',ep',hL,r'⟩) hok I.bare
theorem Inv.call {g':Array GenState} {t':Nat} {d':Drawn} {ch:List Addr} (I:Inv X pins σ H s) (u:Un (frs X.stack) ch H H' s.heap h') (hok:HOk X.prog X.w H' h') (hg:AllBare g')
    (hch:∀b∈ch,(b∈X.ex \/ X.s₀.heap.objs.size<=b)/\b≠X.env.locals/\(∀x c,X.env.cells.lookup x=some c->c≠b) /\ ∀p∈X.pn++pins,p.1≠b) :
    Inv X pins σ H' { s with heap:=h',gens:=g',drawn:=d',toks:=t' }:=by
  obtain⟨m,⟨o,es,ep,ho,r⟩,_⟩:=id I.loc
  obtain⟨sl,hL⟩:=u.any ho I.free fun z=>(hch _ z).2.1 rfl
  exact I.step (ch:=ch) hch (fun b o hL hb hc e n=>u.keep b o e n (fun z=>(List.mem_cons.mp (I.stkSub b z)).elim hL hb) hc) (fun b o _ _ hc e n=>u.any e n hc) (fun b o hc e n=>u.free b o e n hc) (fun b o hc e=>u.there b o e hc) u.tups u.frzs u.tbls (fun m' hm=>by
   obtain⟨o',es',ep',ho',r'⟩:=hm
   rw [ho] at ho'; cases ho'
   exact⟨_,es',ep',hL,r'⟩) hok hg
theorem Inv.turned {t':Nat} {it:Addr} (I:Inv X pins σ H s) (k:∀b o,b≠it->s.heap.get? b=some o->h'.get? b=some o) (hn:H it=none) (hL:it≠X.env.locals)
    (h1:it∈X.ex \/ X.s₀.heap.objs.size<=it) (h2:∀x c,X.env.cells.lookup x=some c->c≠it) (h3:∀p∈X.pn++pins,p.1≠it):Inv X pins σ H { s with heap:=h',toks:=t' }:=by
  have nit:∀b u,H b=some u->b≠it:=fun b u e z=>by rw [z,hn] at e; cases e
  refine I.step (g':=s.gens) (d':=s.drawn) (ch:=[it]) (fun b hb=>?_) (fun b o _ _ hc e _=>k b o (fun z=>hc (by simp [z])) e) (fun b o _ _ hc e _=>⟨o.slots,k b o (fun z=>hc (by simp [z])) e⟩) (fun _ _ _ _ n=>n)
    (fun b o hc e=>⟨o,k b o (fun z=>hc (by simp [z])) e⟩) (fun _ _ e=>e) (fun _ _ _ e=>e) (fun b ps e=>⟨#[],by rw [e]; simp⟩) (fun m hm=>?_) (fun b u e=>?_) I.bare
  · have e:b=it:=by simpa using hb
    subst e
    exact⟨h1,hL,h2,h3⟩
  · obtain⟨o,es,ep,ho,r⟩:=hm
    exact⟨o,es,ep,k _ o (Ne.symm hL) ho,r⟩
  · refine (I.hok b u e).stay (fun c v hc q=>k c v ?_ q) (fun _ q=>q) fun _ _ q=>q
    rcases hc with z | z
    · rw [z]; exact nit b u e
    · exact nit c _ z
theorem Inv.tok (I:Inv X pins σ H s) (t:Nat):Inv X pins σ H { s with toks:=t }:=I.un (h':=s.heap) (t':=t) Un.refl I.hok
theorem Inv.kept {t':Nat} (I:Inv X pins σ H s) (k:∀b u,s.heap.get? b=some u->h'.get? b=some u):Inv X pins σ H { s with heap:=h',toks:=t' }:=I.un (Un.kept k) (I.hok.kept k)
theorem Inv.laid {a:Addr} {o:HO} {t':Nat} (I:Inv X pins σ H s) (k:∀b u,s.heap.get? b=some u->h'.get? b=some u) (hp:s.heap.objs.size<=a) (new:ObjOk X.prog X.w (upd H a o) h' a o) :
    Inv X pins σ (upd H a o) { s with heap:=h',toks:=t' }:=I.un (Un.laid k hp (I.hok.fresh hp)) (I.hok.laid k hp new)
theorem Inv.write {x e:Addr} {o:HO} {t':Nat} (I:Inv X pins σ H s) (mu:Mut (H x)) (he:e=x \/ H e=some (.own x)) (k:∀b u,b≠e->s.heap.get? b=some u->h'.get? b=some u) (heo:∃u,h'.get? e=some u)
    (new:ObjOk X.prog X.w (upd H x o) h' x o):Inv X pins σ (upd H x o) { s with heap:=h',toks:=t' }:=I.un (Un.write mu he k heo) (I.hok.write mu he k heo new)
theorem Inv.pins_of {pins':List (Addr × Obj)} (I:Inv X pins σ H s) (h:∀p∈pins',s.heap.get? p.1=some p.2/\H p.1=none/\p.1≠X.env.locals/\p.1 ∉ X.fs /\ ∀v,p.2.data ≠ .cell v):Inv X pins' σ H s:=
 ⟨I.ok,I.os,I.bare,I.base,I.loc,I.cell,I.free,I.freeC,fun p hp=>(List.mem_append.mp hp).elim (fun z=>I.pin p (List.mem_append_left _ z)) (h p),I.hok,I.len⟩
theorem nodup_ix {N:List Str} (hN:N.Nodup) {i j:Nat} {x:Str} (a:N[i]? = some x) (b:N[j]? = some x):i=j:=by
 obtain⟨h1,e1⟩:=List.getElem?_eq_some_iff.mp a
 obtain⟨h2,e2⟩:=List.getElem?_eq_some_iff.mp b
 exact (List.getElem_inj hN).mp (e1.trans e2.symm)
theorem store_ok2 {M:Model} {A:Around} {E:Value->Shared->Prop} {i:Nat} {x:Str} {v:V} {u:Value} {Q:Unit->Shared->Prop} (I:Inv X pins σ H s) (hN:X.N.Nodup) (hi:X.N[i]? = some x) (hx:Loc X.env.scope x) (r:RelV v u)
    (h:∀s',Inv X pins (σ.set i (some v)) H s'->(∃a,Heap.SameBut a s.heap s'.heap/\(a=X.env.locals \/ X.env.cells.lookup x=some a))->Q () s') (hf:X.fn x=true \/ X.env.scope.names.lookup x=some .local:=by first | exact .inl rfl | exact .inr rfl | assumption):wpAny M A (storeName X.env x u) Q E s:=by
  obtain⟨m,hn,hl⟩:=id I.loc
  have hcls:(X.env.scope.kind == .class || (X.env.scope.kind == .module && X.env.locals != X.env.globals))=false:=by rw [I.ok.kind]; rfl
  have hiσ : i < σ.length:=by rw [I.len]; exact (List.getElem?_eq_some_iff.mp hi).1
  have cne:=I.cne
  have tracked:∀ {a:Addr} {h':Heap},(∃o,s.heap.get? a=some o/\H a=none)->Heap.SameBut a s.heap h'->HOk X.prog X.w H h':=fun {a h'} ha hs b ob e=>by
   obtain⟨_,_,hfree⟩:=ha
   refine (I.hok b ob e).stay (fun c w' hc q=>(hs.2 c ?_).trans q) (fun _ q=>q) fun _ _ q=>q
   rintro rfl
   rcases hc with rfl | hc
   · rw [hfree] at e; cases e
   · rw [hfree] at hc; cases hc
  rcases hx with hk | hk
  · refine wpAny_storeName_local hk hn (fun h' hn' hs=>?_) hcls
    obtain⟨oL,_,_,hoL,_⟩:=id hn
    refine h _ ⟨I.ok,I.os,I.bare,⟨fun b o e n hb hx=>?_,fun b o e n hb hx=>?_,I.base.free,fun b o e hx=>?_,I.base.tups,I.base.frzs,I.base.tbls⟩,⟨_,hn',fun j y v' e1 e2 e3=>?_⟩,fun y c e=>?_,I.free,I.freeC,fun p hp=>?_,tracked ⟨oL,hoL,I.free⟩ hs,by simpa using I.len⟩ ⟨_,hs,.inl rfl⟩
    · exact (hs.2 b (Nat.ne_of_lt (Nat.lt_of_lt_of_le (Heap.lt_size e) I.ok.above))).trans (I.base.keep b o e n hb hx)
    · obtain⟨sl,e1⟩:=I.base.slot b o e n hb hx
      exact⟨sl,(hs.2 b (Nat.ne_of_lt (Nat.lt_of_lt_of_le (Heap.lt_size e) I.ok.above))).trans e1⟩
    · obtain⟨o',e1⟩:=I.base.there b o e hx
      exact⟨o',(hs.2 b (Nat.ne_of_lt (Nat.lt_of_lt_of_le (Heap.lt_size e) I.ok.above))).trans e1⟩
    · by_cases hj:j=i
      · subst hj
        rw [hi] at e1; cases e1
        rw [List.getElem?_set_self hiσ] at e2
        cases e2
        exact⟨u,r,.inl ⟨hk,by simp⟩⟩
      · rw [List.getElem?_set_ne (Ne.symm hj)] at e2
        obtain⟨u',r',q⟩:=hl j y v' e1 e2 e3
        refine⟨u',r',?_⟩
        rcases q with ⟨k,e⟩ | ⟨k,c,e,z⟩
        · refine .inl ⟨k,?_⟩
          have:y≠x:=fun e=>hj (nodup_ix hN e1 (e ▸ hi))
          simp [this,e]
        · exact .inr ⟨k,c,e,z.sameBut hs (cne y c e)⟩
    · obtain⟨w',z⟩:=I.cell y c e
      exact⟨w',z.sameBut hs (cne y c e)⟩
    · obtain⟨e,n,ne,nf,d⟩:=I.pin p hp
      exact⟨(hs.2 p.1 ne).trans e,n,ne,nf,d⟩
  · have hfn:X.fn x=true:=by
      rcases hf with z | z
      · exact z
      · rw [z] at hk; cases hk
    obtain⟨c,hc⟩:=I.ok.has x (.inl hk)
    obtain⟨w',z⟩:=I.cell x c hc
    refine wpAny_storeName_cell I.ok.kind hk hc z (fun h' hc' hs=>?_)
    obtain⟨oc,hoc,hocd⟩:=id z
    refine h { s with heap:=h' } ⟨I.ok,I.os,I.bare,⟨fun b o e n hb hx=>?_,fun b o e n hb hx=>?_,I.base.free,fun b o e hx=>?_,I.base.tups,I.base.frzs,I.base.tbls⟩,⟨m,hn.sameBut hs (Ne.symm (cne x c hc)),fun j y v' e1 e2 e3=>?_⟩,fun y c' e=>?_,I.free,I.freeC,fun p hp=>?_,tracked ⟨oc,hoc,I.freeC x c hc⟩ hs,by simpa using I.len⟩ ⟨c,hs,.inr hc⟩
    · exact (hs.2 b (Nat.ne_of_lt (Nat.lt_of_lt_of_le (Heap.lt_size e) (I.ok.cab x c hfn hc)))).trans (I.base.keep b o e n hb hx)
    · obtain⟨sl,e1⟩:=I.base.slot b o e n hb hx
      exact⟨sl,(hs.2 b (Nat.ne_of_lt (Nat.lt_of_lt_of_le (Heap.lt_size e) (I.ok.cab x c hfn hc)))).trans e1⟩
    · obtain⟨o',e1⟩:=I.base.there b o e hx
      exact⟨o',(hs.2 b (Nat.ne_of_lt (Nat.lt_of_lt_of_le (Heap.lt_size e) (I.ok.cab x c hfn hc)))).trans e1⟩
    · by_cases hj:j=i
      · subst hj
        rw [hi] at e1; cases e1
        rw [List.getElem?_set_self hiσ] at e2
        cases e2
        exact⟨u,r,.inr ⟨.inl hk,c,hc,hc'⟩⟩
      · rw [List.getElem?_set_ne (Ne.symm hj)] at e2
        obtain⟨u',r',q⟩:=hl j y v' e1 e2 e3
        refine⟨u',r',?_⟩
        rcases q with q | ⟨k,c',e,z'⟩
        · exact .inl q
        · refine .inr ⟨k,c',e,z'.sameBut hs ?_⟩
          rintro rfl
          exact hj (nodup_ix hN e1 (I.ok.inj _ _ _ e hc ▸ hi))
    · by_cases hcc:c'=c
      · subst hcc; exact⟨_,hc'⟩
      · obtain⟨w2,z2⟩:=I.cell y c' e
        exact⟨w2,z2.sameBut hs hcc⟩
    · obtain⟨e,n,ne,nf,d⟩:=I.pin p hp
      refine⟨(hs.2 p.1 ?_).trans e,n,ne,nf,d⟩
      intro q
      rw [q,hoc] at e
      have q':oc=p.2:=Option.some.inj e
      exact d w' (by rw [<- q']; exact hocd)
theorem store_ok {M:Model} {A:Around} {E:Value->Shared->Prop} {i:Nat} {x:Str} {v:V} {u:Value} {Q:Unit->Shared->Prop} (I:Inv X pins σ H s) (hN:X.N.Nodup) (hi:X.N[i]? = some x) (hx:Loc X.env.scope x) (r:RelV v u)
    (h:∀s',Inv X pins (σ.set i (some v)) H s'->Q () s') (hf:X.fn x=true \/ X.env.scope.names.lookup x=some .local:=by first | exact .inl rfl | exact .inr rfl | assumption):wpAny M A (storeName X.env x u) Q E s:=
  store_ok2 I hN hi hx r (fun s' I' _=>h s' I') hf
theorem Inv.call' {s':Shared} {ch:List Addr} (I:Inv X pins σ H s) (ho:s'.os=s.os) (u:Un (frs X.stack) ch H H' s.heap s'.heap) (hok:HOk X.prog X.w H' s'.heap) (hg:AllBare s'.gens)
    (hch:∀b∈ch,(b∈X.ex \/ X.s₀.heap.objs.size<=b)/\b≠X.env.locals/\(∀x c,X.env.cells.lookup x=some c->c≠b) /\ ∀p∈X.pn++pins,p.1≠b):Inv X pins σ H' s':=by
  obtain⟨h',g',d',t',o'⟩:=s'
  have e:o'=s.os:=ho
  subst e
  exact I.call (g':=g') (t':=t') (d':=d') u hok hg hch
end
abbrev XK:=Value->Option Addr->Hp->Prop
abbrev St:=List (Option V)
abbrev VK:=V->Hp->Prop
abbrev TE:=St->Hp->VK->Prop
abbrev TT:=St->Hp->(Bool->Hp->Prop)->Prop
abbrev TA:=St->Hp->(List V->Hp->Prop)->Prop
structure Ends where
 nx:St->Hp->Prop
 rt:VK
 bk:St->Hp->Prop:=fun _ _=>False
 ct:St->Hp->Prop:=fun _ _=>False
abbrev TS:=Ends->St->Hp->Prop
def EP (X:Cx) (pins:List (Addr × Obj)) (σ : St) (Q:VK) (u:Value) (s':Shared):Prop:=∃v H',Inv X pins σ H' s'/\RelV v u/\Q v H'
def TP (X:Cx) (pins:List (Addr × Obj)) (σ : St) (Q:Bool->Hp->Prop) (b:Bool) (s':Shared):Prop:=∃H',Inv X pins σ H' s'/\Q b H'
def AP (X:Cx) (pins:List (Addr × Obj)) (σ : St) (Q:List V->Hp->Prop) (us:List Value) (s':Shared):Prop:=∃vs H',Inv X pins σ H' s'/\Vals vs us/\Q vs H'
def SP (X:Cx) (pins:List (Addr × Obj)) (D:Ends) (f:Flow) (s':Shared):Prop:=
 match f with
 | .next=>∃ σ' H',Inv X pins σ' H' s'/\D.nx σ' H'
 | .brk=>∃ σ' H',Inv X pins σ' H' s'/\D.bk σ' H'
 | .cont=>∃ σ' H',Inv X pins σ' H' s'/\D.ct σ' H'
 | .ret u=>∃v σ' H',Inv X pins σ' H' s'/\RelV v u/\D.rt v H'
def PE (X:Cx) (e:Expr) (t:TE):Prop:=
 ∀(pins:List (Addr × Obj)) (s:Shared) (σ : St) (H:Hp) (Q:VK),Inv X pins σ H s->t σ H Q->wpAny (model X.prog X.w) X.A (eval e X.env) (EP X pins σ Q) X.xe s
def PT (X:Cx) (e:Expr) (t:TT):Prop:=
 ∀(pins:List (Addr × Obj)) (s:Shared) (σ : St) (H:Hp) (Q:Bool->Hp->Prop),Inv X pins σ H s->t σ H Q->wpAny (model X.prog X.w) X.A (isTrue e X.env (eval e X.env)) (TP X pins σ Q) X.xe s
def PW (X:Cx) (e:Expr) (t:TT):Prop:=
 ∀(whole:Sem Value) (pins:List (Addr × Obj)) (s:Shared) (σ : St) (H:Hp) (Q:Bool->Hp->Prop),Inv X pins σ H s->t σ H Q->wpAny (model X.prog X.w) X.A (isTrue e X.env whole) (TP X pins σ Q) X.xe s
theorem PW.pt {X:Cx} {e:Expr} {t:TT} (h:PW X e t):PT X e t:=h _
def PA (X:Cx) (es:List Expr) (t:TA):Prop:=
 ∀(pos:Pos) (pins:List (Addr × Obj)) (s:Shared) (σ : St) (H:Hp) (Q:List V->Hp->Prop),Inv X pins σ H s->t σ H Q->wpAny (model X.prog X.w) X.A (spliced (backTo pos (starEach es X.env))) (AP X pins σ Q) X.xe s
def PS (X:Cx) (st:Stmt) (t:TS):Prop:=
 ∀(pins:List (Addr × Obj)) (s:Shared) (σ : St) (H:Hp) (D:Ends),Inv X pins σ H s->t D σ H->wpAny (model X.prog X.w) X.A (exec st X.env) (SP X pins D) X.xe s
def PSs (X:Cx) (st:List Stmt) (t:TS):Prop:=
 ∀(pins:List (Addr × Obj)) (s:Shared) (σ : St) (H:Hp) (D:Ends),Inv X pins σ H s->t D σ H->wpAny (model X.prog X.w) X.A (execs st X.env) (SP X pins D) X.xe s
theorem thn {α : Type} {t:Sem α} {Q Q' : α -> Shared->Prop} {M:Model} {A:Around} {E:Value->Shared->Prop} {s:Shared} (h:wpAny M A t Q E s) (hQ:∀a s,Q a s->Q' a s):wpAny M A t Q' E s:=wpAny_mono h hQ fun _ _ x=>x
end L2
namespace L2
open PySem PySem.Spec PyProof.Rows
section
variable {X:Cx}
inductive ItVar (i:Nat) (σ : St) (H:Hp) (Q:VK):Prop
  | mk (v:_) (h0 : σ[i]? = some (some v)) (h1:Q v H):ItVar i σ H Q
def tVar (i:Nat):TE:=fun σ H Q=>ItVar i σ H Q
def tC (v:V):TE:=fun _ H Q=>Q v H
theorem pe_var {i:Nat} {x:Str} {pos:Pos} (hN:X.N[i]? = some x) (hv:Vis X.env.scope x) (hd:(x == ("__debug__" : Str))=false:=by decide) (hcd:(x == ("__classdict__" : Str))=false:=by decide):PE X (.Name x pos) (tVar i):=by
 intro pins s σ H Q I h
 obtain⟨v,e,h⟩:=h
 obtain⟨m,hn,hl⟩:=I.loc
 obtain⟨u,r,l⟩:=hl i x v hN e hv
 have fin:EP X pins σ Q u s:=⟨v,H,I,r,h⟩
 rcases l with ⟨hk,hm⟩ | ⟨hk,c,hc,hcell⟩
 · exact wpAny_Name (wpAny_loadName_local I.ok.kind hk hn hm fin) hd
 · rcases hk with hk | hk
   · exact wpAny_Name (wpAny_loadName_cell I.ok.kind hk hc hcell fin) hd
   · exact wpAny_Name (wpAny_loadName_free I.ok.kind hk hc hcell fin hcd) hd
theorem pe_int {i j pos}:PE X (.Constant (.int i) j pos) (tC (.int i)):=fun _ _ _ H _ I h=>wpAny_Constant_int ⟨.int i,H,I.tok _,⟨_,rfl⟩,h⟩
theorem pe_bl {b j pos}:PE X (.Constant (.bool b) j pos) (tC (.bl b)):=fun _ _ _ H _ I h=>Constant_bool ⟨.bl b,H,I,rfl,h⟩
def Gl (X:Cx) (x:Str):Prop:=X.env.kindOf x=some .globalImplicit
theorem ld_glob {E:Value->Shared->Prop} {pins:List (Addr × Obj)} {s:Shared} {σ : St} {H:Hp} {x:Str} {u:Value} {pos:Pos} {Q:Value->Shared->Prop} (I:Inv X pins σ H s) (hg:Gl X x) (hm:X.mg x=some u) (h:Q u s)
    (hd:(x == ("__debug__" : Str))=false:=by decide):wpAny (model X.prog X.w) X.A (eval (.Name x pos) X.env) Q E s:=
  Calls.Name_function_global I.ok.kind hg (Calls.loadGlobal_global (by rw [I.ok.glob]; exact I.mod.glob.keeps I.bk) hm h) hd
theorem ld_blt {E:Value->Shared->Prop} {pins:List (Addr × Obj)} {s:Shared} {σ : St} {H:Hp} {x:Str} {u:Value} {pos:Pos} {Q:Value->Shared->Prop} (I:Inv X pins σ H s) (hg:Gl X x) (hm:X.mg x=none) (hv:bootBuiltins x=some u) (h:Q u s)
    (hn:x ≠ "__name__":=by decide) (hd:(x == ("__debug__" : Str))=false:=by decide):wpAny (model X.prog X.w) X.A (eval (.Name x pos) X.env) Q E s:=by
  obtain⟨mb,h1,h2⟩:=I.mod.blt
  exact Calls.Name_function_global I.ok.kind hg (Calls.loadGlobal_builtin (by rw [I.ok.glob]; exact I.mod.glob.keeps I.bk) hm (by rw [I.ok.blt]; exact h1.keeps I.bk) ((h2 x hn).trans hv) h) hd
theorem pe_bltn {x:Str} {v:V} {u:Value} {pos:Pos} (hg:Gl X x) (hm:X.mg x=none) (hv:bootBuiltins x=some u) (r:RelV v u) (hn:x ≠ "__name__":=by decide) (hd:(x == ("__debug__" : Str))=false:=by decide):PE X (.Name x pos) (tC v):=
 fun _ _ _ H _ I h=>ld_blt I hg hm hv ⟨v,H,I,r,h⟩ hn hd
variable {a b:Expr} {ta tb:TE} {pos:Pos}
inductive ItB (Q:Bool->Hp->Prop) (x:V) (H1:Hp):Prop
  | mk (c:_) (h0:x = .bl c) (h1:Q c H1):ItB Q x H1
def tB (t:TE):TT:=fun σ H Q=>t σ H fun x H1=>ItB Q x H1
theorem pt_val {e:Expr} {t:TE} (h:PE X e t) (he:∀whole,isTrue e X.env whole=(do let v <- whole; standAt e.pos; holding [v] (truthy v)):=by intro _; rfl):PT X e (tB t):=by
 intro pins s σ H Q I hw
 refine isTrue_plain (thn (h pins s σ H _ I hw) fun v s1 ⟨x,H1,I1,r1,q1⟩=>?_) (he _)
 obtain⟨d,rfl,q⟩:=q1
 cases r1
 exact wpAny_truthy_bool ⟨H1,I1,q⟩
variable {tA tB':TT} {rest:List Expr}
def tOr (t u:TT):TT:=fun σ H Q=>t σ H fun c H1=>if c=true then Q true H1 else u σ H1 Q
def tNot (t:TT):TT:=fun σ H Q=>t σ H fun c H1=>Q (!c) H1
theorem pw_or1 (ha:PT X a tA):PW X (.BoolOp .Or [a] pos) tA:=by
 intro wh pins s σ H Q I h
 refine isTrue_or (thn (ha pins s σ H Q I h) fun c s1 e=>?_)
 cases c with
 | false=>exact isTrue_or_nil e
 | true=>exact e
theorem pw_or (ha:PT X a tA) (hb:PW X (.BoolOp .Or (b::rest) pos) tB'):PW X (.BoolOp .Or (a::b::rest) pos) (tOr tA tB'):=by
 intro wh pins s σ H Q I h
 refine isTrue_or (thn (ha pins s σ H _ I h) fun c s1 ⟨H1,I1,q1⟩=>?_)
 cases c with
 | true=>exact⟨H1,I1,q1⟩
 | false=>exact hb wh pins s1 σ H1 Q I1 q1
theorem pt_not (ha:PT X a tA):PT X (.UnaryOp .Not a pos) (tNot tA):=by
 intro pins s σ H Q I h
 exact isTrue_not (ha pins s σ H (fun c H1=>Q (!c) H1) I h)
inductive ItAndV (tb:TE) (σ : St) (Q:VK) (x:V) (H1:Hp):Prop
  | mk (c:_) (h0:x = .bl c) (h1:if c=true then tb σ H1 Q else Q (.bl false) H1):ItAndV tb σ Q x H1
def tAndV (ta tb:TE):TE:=fun σ H Q=>ta σ H fun x H1=>ItAndV tb σ Q x H1
inductive ItNotV (Q:VK) (x:V) (H1:Hp):Prop
  | mk (c:_) (h0:x = .bl c) (h1:Q (.bl (!c)) H1):ItNotV Q x H1
def tNotV (ta:TE):TE:=fun σ H Q=>ta σ H fun x H1=>ItNotV Q x H1
theorem pe_one {op} {t:TE} (h:PE X a t):PE X (.BoolOp op [a] pos) t:=fun pins s σ H Q I hw=>BoolOp_one (h pins s σ H Q I hw)
theorem pe_and (ha:PE X a ta) (hb:PE X (.BoolOp .And (b::rest) pos) tb):PE X (.BoolOp .And (a::b::rest) pos) (tAndV ta tb):=by
 intro pins s σ H Q I h
 refine BoolOp_and (thn (ha pins s σ H _ I h) fun v s1 ⟨x,H1,I1,r1,q1⟩=>?_)
 obtain⟨c,rfl,q1⟩:=q1
 cases r1
 refine wpAny_truthy_bool ?_
 cases c with
 | true=>exact hb pins s1 σ H1 Q I1 q1
 | false=>exact⟨.bl false,H1,I1,rfl,q1⟩
theorem pe_not (ha:PE X a ta):PE X (.UnaryOp .Not a pos) (tNotV ta):=by
 intro pins s σ H Q I h
 refine UnaryOp_ (thn (ha pins s σ H _ I h) fun v s1 ⟨x,H1,I1,r1,q1⟩=>?_)
 obtain⟨c,rfl,q1⟩:=q1
 cases r1
 exact not_of (wpAny_truthy_bool ⟨.bl (!c),H1,I1,rfl,q1⟩)
end
end L2
namespace L2
open PySem PySem.Spec PyProof.Rows
def SqL (K:PySem.W.Frag) (H:Hp) (a:Addr) (xs:List V):Prop:=
 Rd H a (.lst xs) \/
   ∃(o:Obj) (its:Array Value) (n:Nat),K.lookup a=some o/\o.cls = .type "list" /\ o.dict=none/\o.data = .seq its n/\its.size<=sizeLine/\Vals xs its.toList
def SqT (K:PySem.W.Frag) (H:Hp) (a:Addr) (xs:List V):Prop:=
 Rd H a (.tup xs) \/
   ∃(o:Obj) (its:Array Value) (n:Nat),K.lookup a=some o/\o.cls = .type "tuple" /\ o.data = .seq its n/\its.size<=sizeLine/\Vals xs its.toList
def absV:Value->Option V
  | .none=>some .non
  | .bool b=>some (.bl b)
  | .int i _=>some (.int i)
  | .str x _=>some (.str x)
  | .bytes b _=>some (.byt b)
  | .float b _=>some (.flt b)
  | .ref a=>some (.ref a)
  | .type n=>some (.ty n)
  | _=>none
theorem RelV.abs {x:V} {u:Value} (r:RelV x u):absV u=some x:=by
 cases x with
 | non=>cases r; rfl
 | bl _=>cases r; rfl
 | int _=>obtain⟨t,rfl⟩:=r; rfl
 | str _=>obtain⟨t,rfl⟩:=r; rfl
 | byt _=>obtain⟨t,rfl⟩:=r; rfl
 | flt _=>obtain⟨t,rfl⟩:=r; rfl
 | ref _=>cases r; rfl
 | ty _=>cases r; rfl
theorem RelV.inj {x y:V} {u:Value} (r:RelV x u) (q:RelV y u):x=y:=Option.some.inj (r.abs.symm.trans q.abs)
theorem Vals.inj:∀ {xs ys:List V} {us:List Value},Vals xs us->Vals ys us->xs=ys
  | _,_,_,.nil,.nil=>rfl
  | _,_,_,.cons r t,.cons r' t'=>by rw [r.inj r',Vals.inj t t']
section
variable {X:Cx} {pins:List (Addr × Obj)} {σ : St} {H:Hp} {s:Shared} {a:Addr} {xs ys:List V}
theorem SqL.of {K:PySem.W.Frag} (h:H a=some (.lst xs)):SqL K H a xs:=.inl (.inl h)
theorem SqT.of {K:PySem.W.Frag} (h:H a=some (.tup xs)):SqT K H a xs:=.inl (.inl h)
theorem Inv.list (I:Inv X pins σ H s) (h:SqL X.K H a xs):∃its:List Value,Vals xs its/\PlainL s.heap a its.toArray/\xs.length<=sizeLine:=by
 rcases h with h | ⟨o,its,n,hk,hc,hd,hs,hz,r⟩
 · obtain⟨z,its,n,r,e⟩:=h.ok I.hok
   exact⟨its,r,⟨_,n,e,rfl,rfl,rfl⟩,z⟩
 · refine⟨its.toList,r,⟨o,n,I.kIn a o hk,hc,hd,by simpa using hs⟩,?_⟩
   have e:=r.length
   simp only [Array.length_toList] at e
   omega
theorem Inv.tuple (I:Inv X pins σ H s) (h:SqT X.K H a xs):∃its:List Value,Vals xs its/\IsTup s.heap a its.toArray/\xs.length<=sizeLine:=by
 rcases h with h | ⟨o,its,n,hk,hc,hs,hz,r⟩
 · obtain⟨z,its,r,p⟩:=h.ok I.hok
   exact⟨its,r,p,z⟩
 · refine⟨its.toList,r,⟨o,I.kIn a o hk,hc,n,by simpa using hs⟩,?_⟩
   have e:=r.length
   simp only [Array.length_toList] at e
   omega
theorem Inv.tuple_inj (I:Inv X pins σ H s) (h:SqT X.K H a xs) (h':SqT X.K H a ys):xs=ys:=by
 obtain⟨its,r,⟨o,e,_,n,d⟩,_⟩:=I.tuple h
 obtain⟨its',r',⟨o',e',_,n',d'⟩,_⟩:=I.tuple h'
 rw [e] at e'; cases e'
 rw [d] at d'
 injection d' with d1 _
 have:its=its':=by simpa using congrArg Array.toList d1
 subst this
 exact r.inj r'
end
abbrev Cx.wish (X:Cx) (E:Value->Shared->Prop):Cx:={ X with xe:=E }
abbrev Cx.nox (X:Cx):Cx:=X.wish fun _ _=>False
theorem Cx.Ok.wish {X:Cx} (ok:X.Ok) (E:Value->Shared->Prop):(X.wish E).Ok:=
 ⟨ok.mod,ok.kind,ok.glob,ok.blt,ok.above,ok.inj,ok.has,ok.cab,ok.hd,ok.frames,ok.stk,ok.exf,ok.bs,ok.bsz,ok.noex,ok.exfs,ok.funs,ok.frf⟩
theorem Cx.Ok.unwish {X:Cx} {E:Value->Shared->Prop} (ok:(X.wish E).Ok):X.Ok:=
 ⟨ok.mod,ok.kind,ok.glob,ok.blt,ok.above,ok.inj,ok.has,ok.cab,ok.hd,ok.frames,ok.stk,ok.exf,ok.bs,ok.bsz,ok.noex,ok.exfs,ok.funs,ok.frf⟩
section
variable {X:Cx} {pins:List (Addr × Obj)} {σ : St} {H:Hp} {s:Shared} {E:Value->Shared->Prop}
theorem Inv.wish (I:Inv X pins σ H s) (E:Value->Shared->Prop):Inv (X.wish E) pins σ H s:=⟨I.ok.wish E,I.os,I.bare,I.base,I.loc,I.cell,I.free,I.freeC,I.pin,I.hok,I.len⟩
theorem Inv.unwish (I:Inv (X.wish E) pins σ H s):Inv X pins σ H s:=⟨I.ok.unwish,I.os,I.bare,I.base,I.loc,I.cell,I.free,I.freeC,I.pin,I.hok,I.len⟩
theorem SP.unwish {D:Ends} {f:Flow} {s':Shared} (h:SP (X.wish E) pins D f s'):SP X pins D f s':=by
 cases f with
 | next=>obtain⟨σ',H',I,q⟩:=h; exact⟨σ',H',I.unwish,q⟩
 | brk=>obtain⟨σ',H',I,q⟩:=h; exact⟨σ',H',I.unwish,q⟩
 | cont=>obtain⟨σ',H',I,q⟩:=h; exact⟨σ',H',I.unwish,q⟩
 | ret u=>obtain⟨v,σ',H',I,r,q⟩:=h; exact⟨v,σ',H',I.unwish,r,q⟩
theorem PSs.nox {st:List Stmt} {t:TS} (h:PSs X.nox st t):PSs X st t:=fun pins s σ H D I hw=>
 wpAny_mono (h pins s σ H D (I.wish _) hw) (fun _ _ q=>q.unwish) fun _ _ z=>False.elim z
end
section
variable {X:Cx} {st:Stmt} {rest:List Stmt} {t u:TS} {e:Expr} {te:TE} {pos:Pos}
def tNext:TS:=fun D σ H=>D.nx σ H
def tSeq (t u:TS):TS:=fun D σ H=>t { D with nx:=u D } σ H
theorem pss_nil:PSs X [] tNext:=fun _ _ σ H _ I h=>wpAny_execs_nil ⟨σ,H,I,h⟩
theorem pss_cons (h1:PS X st t) (h2:PSs X rest u):PSs X (st::rest) (tSeq t u):=by
 intro pins s σ H D I h
 refine wpAny_execs_cons (thn (h1 pins s σ H { D with nx:=u D } I h) fun f s1 q=>?_)
 cases f with
 | next=>
   obtain⟨σ',H',I',q⟩:=q
   exact h2 pins s1 σ' H' D I' q
 | ret v=>exact q
 | brk=>exact q
 | cont=>exact q
theorem pss_one (h1:PS X st t):PSs X [st] t:=by
 intro pins s σ H D I h
 refine wpAny_execs_cons (thn (h1 pins s σ H D I h) fun f s1 q=>?_)
 cases f with
 | next=>exact wpAny_execs_nil q
 | ret v=>exact q
 | brk=>exact q
 | cont=>exact q
def tRet (te:TE):TS:=fun D σ H=>te σ H D.rt
theorem ps_ret (he:PE X e te):PS X (.Return (some e) pos) (tRet te):=by
 intro pins s σ H D I h
 exact wpAny_Return_some (thn (he pins s σ H _ I h) fun v s1 ⟨x,H1,I1,r1,q1⟩=>⟨x,σ,H1,I1,r1,q1⟩)
def tIfS (c:TT) (t u:TS):TS:=fun D σ H=>c σ H fun b H1=>if b=true then t D σ H1 else u D σ H1
theorem ps_if {c:Expr} {a b:List Stmt} {tc:TT} (hc:PT X c tc) (ha:PSs X a t) (hb:PSs X b u):PS X (.If c a b pos) (tIfS tc t u):=by
 intro pins s σ H D I h
 refine wpAny_If (thn (hc pins s σ H _ I h) fun d s1 ⟨H1,I1,q1⟩=>?_)
 cases d with
 | true=>exact ha pins s1 σ H1 D I1 q1
 | false=>exact hb pins s1 σ H1 D I1 q1
end
abbrev TG:=V->St->Hp->(St->Hp->Prop)->Prop
abbrev TGs:=List V->St->Hp->(St->Hp->Prop)->Prop
def PG (X:Cx) (target:Expr) (t:TG):Prop:=
 ∀ (pins:List (Addr × Obj)) (s:Shared) (σ : St) (H:Hp) (v:V) (u:Value) (Q:St->Hp->Prop),Inv X pins σ H s->RelV v u->t v σ H Q ->
   wpAny (model X.prog X.w) X.A (assign target X.env u) (fun _ s'=>∃ σ' H',Inv X pins σ' H' s'/\Q σ' H') X.xe s
def PGs (X:Cx) (ts:List Expr) (t:TGs):Prop:=
 ∀ (pins:List (Addr × Obj)) (s:Shared) (σ : St) (H:Hp) (vs:List V) (us:List Value) (Q:St->Hp->Prop),Inv X pins σ H s->Vals vs us->t vs σ H Q ->
   wpAny (model X.prog X.w) X.A (assignInOrder ((assignEach ts X.env).map (·.2)) us) (fun _ s'=>∃ σ' H',Inv X pins σ' H' s'/\Q σ' H') X.xe s
abbrev TSet:=V->V->V->Hp->(Hp->Prop)->Prop
def PSet (X:Cx) (t:TSet):Prop:=
 ∀ (pins:List (Addr × Obj)) (s:Shared) (σ : St) (H:Hp) (o i v:V) (ov iv u:Value) (Q:Hp->Prop),Inv X pins σ H s->RelV o ov->RelV i iv->RelV v u->t o i v H Q ->
   wpAny (model X.prog X.w) X.A (setItem ov iv u) (fun _ s'=>∃H',Inv X pins σ H' s'/\Q H') X.xe s
section
variable {X:Cx} {pos:Pos}
def gName (i:Nat):TG:=fun v σ H Q=>Q (σ.set i (some v)) H
theorem pg_name {i:Nat} {x:Str} (hN:X.N.Nodup) (hi:X.N[i]? = some x) (hx:Loc X.env.scope x) (hf:X.fn x=true \/ X.env.scope.names.lookup x=some .local:=by first | exact .inl rfl | exact .inr rfl | assumption):PG X (.Name x pos) (gName i):=by
 intro pins s σ H v u Q I r h
 exact wpAny_assign_Name (store_ok I hN hi hx r (fun s' I'=>⟨_,H,I',h⟩) hf)
def gNil:TGs:=fun vs σ H Q=>vs=[]/\Q σ H
inductive IgCons (t:TG) (u:TGs) (vs:List V) (σ : St) (H:Hp) (Q:St->Hp->Prop):Prop
  | mk (v:_) (r:_) (h0:vs=v::r) (h1:t v σ H fun σ' H'=>u r σ' H' Q):IgCons t u vs σ H Q
def gCons (t:TG) (u:TGs):TGs:=fun vs σ H Q=>IgCons t u vs σ H Q
theorem pgs_nil:PGs X [] gNil:=by
 intro pins s σ H vs us Q I r h
 obtain⟨e,h⟩:=h
 subst e
 cases r
 exact assignInOrder_nil ⟨σ,H,I,h⟩
theorem pgs_cons {e:Expr} {es:List Expr} {t:TG} {u:TGs} (h1:PG X e t) (h2:PGs X es u)
    (hs:(assignEach (e::es) X.env).map (·.2)=assign e X.env::(assignEach es X.env).map (·.2):=by rfl):PGs X (e::es) (gCons t u):=by
  intro pins s σ H vs us Q I r h
  obtain⟨v,vr,e1,h⟩:=h
  subst e1
  cases r with
  | cons r rr=>
    rw [hs]
    refine assignInOrder_cons (thn (h1 pins s σ H _ _ _ I r h) fun _ s1 ⟨σ1,H1,I1,q1⟩=>?_)
    exact h2 pins s1 σ1 H1 _ _ Q I1 rr q1
inductive IgTup (K:PySem.W.Frag) (n:Nat) (t:TGs) (v:V) (σ : St) (H:Hp) (Q:St->Hp->Prop):Prop
  | mk (a:_) (xs:_) (h0:v = .ref a) (h1:SqT K H a xs) (h2:xs.length=n) (h3:t xs σ H Q):IgTup K n t v σ H Q
def gTup (K:PySem.W.Frag) (n:Nat) (t:TGs):TG:=fun v σ H Q=>IgTup K n t v σ H Q
theorem pg_tup {es:List Expr} {k:Nat} {t:TGs} {n:Nat} (hc:X.calm=true) (h:PGs X es t)
    (hn:(assignEach es X.env).length=n:=by rfl) (hst:(assignEach es X.env).findIdx? (·.1)=none:=by rfl):PG X (.Tuple es k pos) (gTup X.K n t):=by
  intro pins s σ H v u Q I r hw
  obtain⟨a,xs,e1,hq,hl,hw⟩:=hw
  subst e1
  cases r
  obtain⟨its,rv,ht,hz⟩:=I.tuple hq
  refine assign_Tuple_tuple (I.ok.hd hc) ht (by simp [hn,<- hl,rv.length]) hst fun h' hx=>?_
  have I1:Inv X pins σ H { s with heap:=h' }:=I.kept (t':=s.toks) fun b o e=>hx b o (Nat.ne_of_lt (Heap.lt_size e)) e
  exact h pins _ σ H xs _ Q I1 (by simpa using rv) hw
def gSub (to ti:TE) (t:TSet):TG:=fun v σ H Q=>to σ H fun o H1=>ti σ H1 fun i H2=>t o i v H2 fun H3=>Q σ H3
theorem pg_sub {o i:Expr} {to ti:TE} {t:TSet} (ho:PE X o to) (hi:PE X i ti) (hs:PSet X t)
    (ha:∀v,assign (.Subscript o i pos) X.env v=(do
     let ov <- holding [v] (eval o X.env)
     let iv <- holding [v,ov] (eval i X.env)
     standAt pos
     holding [v,ov,iv] (setItem ov iv v)
     release [v,ov,iv] []):=by intro _; rfl):PG X (.Subscript o i pos) (gSub to ti t):=by
  intro pins s σ H v u Q I r h
  rw [ha]
  refine wpAny_bind (wpAny_holding (thn (ho pins s σ H _ I h) fun ov s1 ⟨x,H1,I1,r1,q1⟩=>?_))
  refine wpAny_bind (wpAny_holding (thn (hi pins s1 σ H1 _ I1 q1) fun iv s2 ⟨y,H2,I2,r2,q2⟩=>?_))
  refine wpAny_bind (wpAny_standAt (wpAny_bind (wpAny_holding (thn (hs pins s2 σ H2 x y v ov iv u _ I2 r1 r2 r q2) fun _ s3 ⟨H3,I3,q3⟩=>?_))))
  exact wpAny_release ⟨σ,H3,I3,q3⟩
def tAsg (te:TE) (g:TG):TS:=fun D σ H=>te σ H fun x H1=>g x σ H1 D.nx
theorem ps_asg {tg e:Expr} {te:TE} {g:TG} (he:PE X e te) (hg:PG X tg g) (hs:swapsWithSole [tg] e pos.line X.env=pure false:=by rfl) (hw:swappedStores [tg] e X.env=pure none:=by rfl)
    (h1:(assignEach [tg] X.env).map (·.2)=[assign tg X.env]:=by rfl):PS X (.Assign [tg] e pos) (tAsg te g):=by
  intro pins s σ H D I h
  refine wpAny_Assign_stores (thn (he pins s σ H _ I h) fun v s1 ⟨x,H1,I1,r1,q1⟩=>?_) hs hw
  rw [h1]
  exact thn (hg pins s1 σ H1 x v _ I1 r1 q1) fun _ s2 q=>q
theorem ps_set {i:Nat} {x:Str} {e:Expr} {te:TE} {pos':Pos} (hN:X.N.Nodup) (hi:X.N[i]? = some x) (hx:Loc X.env.scope x) (he:PE X e te) (hs:swapsWith e (some (.Name x pos')) pos.line X.env=pure false:=by rfl) (hf:X.fn x=true \/ X.env.scope.names.lookup x=some .local:=by first | exact .inl rfl | exact .inr rfl | assumption) :
    PS X (.Assign [.Name x pos'] e pos) (tAsg te (gName i)):=by
  intro pins s σ H D I h
  refine wpAny_Assign_Name (thn (he pins s σ H _ I h) fun v s1 ⟨y,H1,I1,r1,q1⟩=>?_) hs
  exact store_ok I1 hN hi hx r1 (fun s2 I2=>⟨_,H1,I2,q1⟩) hf
inductive ItPar (i:Nat) (j:Nat) (D:Ends) (σ : St) (vs:List V) (H1:Hp):Prop
  | mk (v:_) (w:_) (h0:vs=[v,w]) (h1:D.nx ((σ.set i (some v)).set j (some w)) H1):ItPar i j D σ vs H1
def tPar (i j:Nat) (ta:TA):TS:=fun D σ H=>ta σ H fun vs H1=>ItPar i j D σ vs H1
theorem ps_par {i j:Nat} {x y:Str} {a b:Expr} {ta:TA} {px py pt:Pos} {kt k2 pt2} (hc:X.calm=true) (hN:X.N.Nodup) (hi:X.N[i]? = some x) (hj:X.N[j]? = some y) (hij:i≠j)
    (hx:X.env.scope.names.lookup x=some .local) (hy:X.env.scope.names.lookup y=some .local) (ha:PA X [a,b] ta)
    (hw:swappedStores [.Tuple [.Name x px,.Name y py] kt pt] (.Tuple [a,b] k2 pt2) X.env=pure (some [x,y]))
    (hs:swapsWithSole [.Tuple [.Name x px,.Name y py] kt pt] (.Tuple [a,b] k2 pt2) pos.line X.env=pure false:=by rfl) :
    PS X (.Assign [.Tuple [.Name x px,.Name y py] kt pt] (.Tuple [a,b] k2 pt2) pos) (tPar i j ta):=by
  intro pins s σ H D I h
  rw [exec_Assign_arm]
  refine wpAny_bind (wpAny_standAt ?_)
  rw [hs]
  refine wpAny_bind (wpAny_pure ?_)
  rw [if_neg (by decide)]
  refine wpAny_bind (Tuple_ (thn (ha _ pins s σ H _ I h) fun us s1 ⟨vs,H1,I1,r1,q1⟩=>?_))
  obtain⟨v,w,e1,q1⟩:=q1
  subst e1
  obtain ⟨u1,u2,rfl,rv,rw'⟩ : ∃u1 u2,us=[u1,u2]/\RelV v u1/\RelV w u2:=by
   cases r1 with
   | cons p q=>
     cases q with
     | cons p' q'=>
       cases q'
       exact⟨_,_,rfl,p,p'⟩
  refine wpAny_newObj_type ?_ (by show 2<=sizeLine; decide)
  have I2:Inv X pins σ H1 { s1 with heap:=s1.heap.push { cls:=.type "tuple",data:=.seq [u1,u2].toArray } }:=I1.kept (t':=s1.toks) fun b o e=>Heap.get?_push_of_some _ e
  rw [hw]
  refine wpAny_bind (wpAny_pure ?_)
  show wpAny (model X.prog X.w) X.A (do rule "assign.swapped-stores"; let items <- unpackItems (.ref s1.heap.objs.size) 2 none; assignInOrder [fun v=>bindName X.env y v,fun v=>bindName X.env x v] items.reverse; pure Flow.next) _ _ _
  refine wpAny_bind (wpAny_rule (wpAny_bind (unpackItems_tuple (items:=#[u1,u2]) (I.ok.hd hc) (IsTup.new s1.heap _) fun h' hx'=>?_)))
  have I3:=I2.kept (h':=h') (t':=s1.toks) fun b o e=>hx' b o (Nat.ne_of_lt (Heap.lt_size e)) e
  show wpAny _ _ (assignInOrder [fun v=>bindName X.env y v,fun v=>bindName X.env x v] [u2,u1] >>= fun _=>pure Flow.next) _ _ _
  refine wpAny_bind (assignInOrder_cons (wpAny_bindName (store_ok I3 hN hj (.inl hy) rw' (fun s2 I4=>?_) (.inr hy))))
  refine assignInOrder_cons (wpAny_bindName (store_ok I4 hN hi (.inl hx) rv (fun s3 I5=>assignInOrder_nil (wpAny_pure ?_)) (.inr hx)))
  rw [List.set_comm _ _ (Ne.symm hij)] at I5
  exact⟨_,H1,I5,q1⟩
end
section
variable {X:Cx} {pos:Pos}
def tWhile (c:TT) (tb:TS):TS:=fun D σ H=>∃W:Nat->St->Hp->Prop,(∃m,W m σ H) /\ ∀m σ H,W m σ H ->
  c σ H fun b H1=>if b=true then ∃N:St->Hp->Prop,(∀ σ' H',N σ' H' -> ∃m',m'<m/\W m' σ' H')/\tb { D with nx:=N,ct:=N,bk:=D.nx } σ H1 else D.nx σ H1
theorem ps_while {c:Expr} {body:List Stmt} {tc:TT} {tb:TS} (hp:PassesOwn (model X.prog X.w) X.A X.env X.xe) (hc:PT X c tc) (hb:PSs X body tb):PS X (.While c body [] pos) (tWhile tc tb):=by
 intro pins s σ H D I h
 obtain⟨W,⟨m0,w0⟩,turn⟩:=h
 refine wpAny_While (codeAny_whileLoop (fun n s'=>∃ σ' H',Inv X pins σ' H' s'/\W n σ' H') ?_ m0 ⟨σ,H,I,w0⟩)
 rintro n s1 ⟨σ1,H1,I1,w1⟩
 refine wpAny_passesOwn hp (thn (hc pins s1 σ1 H1 _ I1 (turn n σ1 H1 w1)) fun b s2 ⟨H2,I2,q2⟩=>?_)
 cases b with
 | true=>
   obtain⟨N,hN,q2⟩:=q2
   rw [if_pos rfl]
   refine wpAny_passesOwn hp (thn (hb pins s2 σ1 H2 _ I2 q2) fun f s3 q3=>?_)
   cases f with
   | next=>
     obtain⟨σ3,H3,I3,n3⟩:=q3
     obtain⟨m',hm,w3⟩:=hN σ3 H3 n3
     exact⟨m',hm,σ3,H3,I3,w3⟩
   | cont=>
     obtain⟨σ3,H3,I3,n3⟩:=q3
     obtain⟨m',hm,w3⟩:=hN σ3 H3 n3
     exact⟨m',hm,σ3,H3,I3,w3⟩
   | brk=>exact q3
   | ret v=>exact q3
 | false=>
   rw [if_neg Bool.false_ne_true]
   exact wpAny_execs_nil ⟨σ1,H2,I2,q2⟩
end
structure It where
 go:Nat->Hp->Prop
 yld:Nat->Hp->V->Hp->Prop
 stop:Nat->Hp->Prop
def FpOk (X:Cx) (pins:List (Addr × Obj)) (H:Hp) (b:Addr):Prop:=
 H b=none/\b≠X.env.locals/\b ∉ X.fs/\(b∈X.ex \/ X.s₀.heap.objs.size<=b)/\(∀x c,X.env.cells.lookup x=some c->c≠b) /\ ∀p∈X.pn++pins,p.1≠b
theorem Inv.fpOk {X:Cx} {pins:List (Addr × Obj)} {σ : St} {H H':Hp} {s:Shared} {b:Addr} (I:Inv X pins σ H s) (hb:s.heap.objs.size<=b) (hn:H' b=none):FpOk X pins H' b:=by
 refine⟨hn,Nat.ne_of_gt (Nat.lt_of_lt_of_le I.lt hb),I.nofs hb,.inr (Nat.le_trans I.sz hb),fun x c e z=>?_,fun p hp z=>?_⟩
 · obtain⟨v,q⟩:=I.cell x c e
   exact absurd (Nat.lt_of_lt_of_le q.lt (by rw [z]; exact hb)) (Nat.lt_irrefl _)
 · exact absurd (Nat.lt_of_lt_of_le (Heap.lt_size (I.pin p hp).1) (by rw [z]; exact hb)) (Nat.lt_irrefl _)
structure Turn (P:Program) (w:World) (K:PySem.W.Frag) (tg:Expr) (J:It) (fp:List Addr) (it:Addr) (tn:Nat->Heap->Prop):Prop where
 mem:it∈fp
 obj:∀i h,tn i h -> ∀b∈fp,∃o,h.get? b=some o /\ ∀v,o.data ≠ .cell v
 keep:∀i h h',tn i h->(∀b∈fp,∀o,h.get? b=some o->h'.get? b=some o)->tn i h'
 item:∀(X:Cx),X.prog=P->X.w=w->X.K=K->X.calm=true -> ∀(i:Nat) (pins:List (Addr × Obj)) (s:Shared) (σ : St) (H:Hp) (E:Value->Shared->Prop),Inv X pins σ H s->(∀b∈fp,FpOk X pins H b)->tn i s.heap->J.go i H ->
   wpAny (model P w) X.A (pyNext (.ref it)) (fun r s1=>∃u,r=some u /\
     wpAny (model P w) X.A (letOwnedTupleGo tg (.ref it) u) (fun _ s2=>∃x H',Inv X pins σ H' s2/\RelV x u/\J.yld i H x H'/\tn (i+1) s2.heap /\ ∀b∈fp,H' b=none) E s1) E s
 done:∀(X:Cx),X.prog=P->X.w=w->X.K=K->X.calm=true -> ∀(i:Nat) (pins:List (Addr × Obj)) (s:Shared) (σ : St) (H:Hp) (E:Value->Shared->Prop),Inv X pins σ H s->(∀b∈fp,FpOk X pins H b)->tn i s.heap->J.stop i H ->
   wpAny (model P w) X.A (pyNext (.ref it)) (fun r s1=>r=none/\Inv X pins σ H s1) E s
 self:∀(A:Around) (i:Nat) (s:Shared) (Q:Value->Shared->Prop) (E:Value->Shared->Prop),tn i s.heap->Q (.ref it) s->wpAny (model P w) A (pyIter (.ref it)) Q E s
abbrev TI:=St->Hp->(It->Hp->Prop)->Prop
def PIE (X:Cx) (pins:List (Addr × Obj)) (σ : St) (tg:Expr) (R:It->Hp->Prop) (itv:Value) (s2:Shared):Prop:=
 ∃(it:Addr) (fp:List Addr) (tn:Nat->Heap->Prop) (J:It) (H':Hp),itv = .ref it/\Inv X pins σ H' s2/\Turn X.prog X.w X.K tg J fp it tn/\tn 0 s2.heap/\(∀b∈fp,FpOk X pins H' b)/\R J H'
def PI (X:Cx) (tg iter:Expr) (wi:TI):Prop:=
 ∀ (pins:List (Addr × Obj)) (s:Shared) (σ : St) (H:Hp) (R:It->Hp->Prop),Inv X pins σ H s->wi σ H R ->
   wpAny (model X.prog X.w) X.A (eval iter X.env) (fun v s1=>wpAny (model X.prog X.w) X.A (pyIter v) (PIE X pins σ tg R) X.xe s1) X.xe s
theorem go_of {M:Model} {A:Around} {E:Value->Shared->Prop} {s:Shared} {tg:Expr} {it:Addr} {u:Value} {o:Obj} {n:String} {vs:Array Value} {Q:Unit->Shared->Prop} (ho:s.heap.get? it=some o) (hc:o.cls = .type n) (hd:o.data = .fields vs)
    (hn:["enumerate","zip","dict_itemiterator","dict_reverseitemiterator","odict_iterator","itertools.zip_longest","itertools.pairwise"].contains n=false) (hQ:Q () s):wpAny M A (letOwnedTupleGo tg (.ref it) u) Q E s:=by
  unfold letOwnedTupleGo
  cases tg <;> first
    | exact wpAny_pure hQ
    | (cases u <;> first
        | exact wpAny_pure hQ
        | (refine wpAny_bind (wpAny_load ho ?_)
           rw [hc,hd]
           show wpAny M A (if (["enumerate","zip","dict_itemiterator","dict_reverseitemiterator","odict_iterator","itertools.zip_longest","itertools.pairwise"].contains n && vs[0]? == some (rawInt _))=true then _ else _) Q E s
           rw [if_neg (by intro h; rw [hn,Bool.false_and] at h; cases h)]
           exact wpAny_pure hQ))
def Itt (K:PySem.W.Frag) (a:Addr):It:=
 ⟨fun i H=>∃xs x,SqT K H a xs/\xs[i]? = some x,fun i H x H'=>H'=H /\ ∀xs,SqT K H a xs->xs[i]? = some x,fun i H=>∃xs,SqT K H a xs/\xs.length<=i⟩
def Itr (lo:Int) (n:Nat):It:=⟨fun i _=>i<n,fun i H x H'=>H'=H/\x = .int (lo+i),fun i _=>n<=i⟩
theorem turn_tuple {P:Program} {w:World} {K:PySem.W.Frag} {tg:Expr} (a it:Addr):Turn P w K tg (Itt K a) [it] it (fun i h=>h.IsTupleIter it a i) where
 mem:=by simp
 obj:=fun i h st b hb=>by
  have e:b=it:=by simpa using hb
  subst e
  obtain⟨o,e,c,d⟩:=st
  exact⟨o,e,fun v z=>by rw [d] at z; cases z⟩
 keep:=fun i h h' st k=>st.at fun o e=>k it (by simp) o e
 item:=by
  intro X hP hw hK hc i pins s σ H E I hf st hg
  subst hP hw hK
  obtain⟨xs,x,hq,hx⟩:=hg
  obtain⟨its,rv,p,hz⟩:=I.tuple hq
  obtain⟨u,hu,ru⟩:=rv.get hx
  obtain⟨f0,f1,f2,f3,f4,f5⟩:=hf it (by simp)
  refine wpAny_pyNext_tuple_item st (show s.heap.IsTuple a its.toArray from p) (x:=u) (by simpa using hu) fun h' st' sb=>?_
  have I1:Inv X pins σ H { s with heap:=h' }:=I.turned (t':=s.toks) (fun b o hb e=>(sb.2 b hb).trans e) f0 f1 f3 f4 f5
  obtain⟨o,e,c,d⟩:=id st'
  exact⟨u,rfl,go_of (s:={ s with heap:=h' }) e c d (by decide) ⟨x,H,I1,ru,⟨rfl,fun ys hy=>by rw [I.tuple_inj hy hq]; exact hx⟩,st',fun b hb=>(hf b hb).1⟩⟩
 done:=by
  intro X hP hw hK hc i pins s σ H E I hf st hg
  subst hP hw hK
  obtain⟨xs,hq,hx⟩:=hg
  obtain⟨its,rv,p,hz⟩:=I.tuple hq
  obtain⟨f0,f1,f2,f3,f4,f5⟩:=hf it (by simp)
  have hl:=rv.length
  exact wpAny_pyNext_tuple_end (I.ok.hd hc) st (show s.heap.IsTuple a its.toArray from p) (by simp; omega) fun h' eb=>⟨rfl,I.turned (t':=s.toks) (fun b o hb e=>eb b o hb e) f0 f1 f3 f4 f5⟩
 self:=fun _ _ _ _ _ st h=>wpAny_pyIter_tupleiter st h
theorem turn_range {P:Program} {w:World} {K:PySem.W.Frag} {tg:Expr} (it:Addr) (lo:Int) (n:Nat):Turn P w K tg (Itr lo n) [it] it (fun i h=>IsRangeIter h it (lo+(i:Nat)*1) ((n:Int)-(i:Nat)) 1) where
 mem:=by simp
 obj:=fun i h st b hb=>by
  have e:b=it:=by simpa using hb
  subst e
  exact ⟨_,st,fun v z=>by
   have z':Data.fields _=Data.cell v:=z
   cases z'⟩
 keep:=fun i h h' st k=>k it (by simp) _ st
 item:=by
  intro X hP hw hK hc i pins s σ H E I hf st hg
  subst hP hw hK
  obtain⟨f0,f1,f2,f3,f4,f5⟩:=hf it (by simp)
  have W:=Walks.range (prog:=X.prog) (w:=X.w) (I.ok.hd hc) it lo 1 n
  refine W.item i s _ _ hg st fun v h' tk hv st' kk=>?_
  obtain⟨t,rfl⟩:=hv
  have I1:Inv X pins σ H { s with heap:=h',toks:=tk }:=I.turned (fun b o hb e=>kk b o (by simpa using hb) e) f0 f1 f3 f4 f5
  refine⟨_,rfl,go_of (s:={ s with heap:=h',toks:=tk }) (n:="range_iterator") st' rfl rfl (by decide) ⟨.int (lo+i),H,I1,⟨t,?_⟩,⟨rfl,rfl⟩,st',fun b hb=>(hf b hb).1⟩⟩
  rw [Int.mul_one]
 done:=by
  intro X hP hw hK hc i pins s σ H E I hf st hg
  subst hP hw hK
  obtain⟨f0,f1,f2,f3,f4,f5⟩:=hf it (by simp)
  exact wpAny_pyNext_range_end (I.ok.hd hc) st (by have:n<=i:=hg; omega) fun h' eb=>⟨rfl,I.turned (t':=s.toks) (fun b o hb e=>eb b o hb e) f0 f1 f3 f4 f5⟩
 self:=fun _ _ _ _ _ st h=>wpAny_pyIter_rangeiter st h
end L2
namespace L2
open PySem PySem.Spec PyProof.Rows
section
variable {X:Cx} {tg:Expr}
inductive IiTup (K:PySem.W.Frag) (R:It->Hp->Prop) (x:V) (H1:Hp):Prop
  | mk (a:_) (h0:x = .ref a) (h1:(∃xs,SqT K H1 a xs)) (h2:R (Itt K a) H1):IiTup K R x H1
def iTup (K:PySem.W.Frag) (tl:TE):TI:=fun σ H R=>tl σ H fun x H1=>IiTup K R x H1
theorem pi_tup {l:Expr} {tl:TE} (hl:PE X l tl):PI X tg l (iTup X.K tl):=by
 intro pins s σ H R I h
 refine thn (hl pins s σ H _ I h) fun v s1 ⟨x,H1,I1,r1,q1⟩=>?_
 obtain⟨a,e,⟨xs,hq⟩,q⟩:=q1
 subst e
 cases r1
 obtain⟨its,rv,p,hz⟩:=I1.tuple hq
 refine wpAny_pyIter_tuple (show s1.heap.IsTuple a its.toArray from p) ?_
 refine⟨s1.heap.objs.size,[s1.heap.objs.size],_,_,H1,rfl,I1.kept (t':=s1.toks) fun b o e=>Heap.get?_push_of_some _ e,turn_tuple a _,⟨_,Heap.get?_push_size _ rfl,rfl,rfl⟩,fun b hb=>?_,q⟩
 have e:b=s1.heap.objs.size:=by simpa using hb
 subst e
 exact I1.fpOk (Nat.le_refl _) (I1.hok.fresh (Nat.le_refl _))
theorem range_it {pins:List (Addr × Obj)} {σ : St} {H:Hp} {s:Shared} {R:It->Hp->Prop} {E:Value->Shared->Prop} {lo hi:Int} {t u v:Tok} {tk:Nat} (I:Inv X pins σ H s) (h1 : -(2^62)<=lo) (h2:lo<2^62) (h3 : -(2^62)<=hi) (h4:hi<2^62)
    (q:R (Itr lo (hi-lo).toNat) H):wpAny (model X.prog X.w) X.A (pyIter (.ref s.heap.objs.size)) (PIE X pins σ tg R) E { s with heap:=s.heap.push { cls:=.type "range",data:=.fields #[.int lo t,.int hi u,.int 1 v] },toks:=tk }:=by
  refine wpAny_pyIter_range (IsRange.new ..) (small_one h1 h2 h3 h4) ?_
  have I1:Inv X pins σ H { s with heap:=s.heap.push { cls:=.type "range",data:=.fields #[.int lo t,.int hi u,.int 1 v] },toks:=tk }:=I.kept fun b o e=>Heap.get?_push_of_some _ e
  refine ⟨(s.heap.push { cls:=.type "range",data:=.fields #[.int lo t,.int hi u,.int 1 v] }).objs.size,[(s.heap.push { cls:=.type "range",data:=.fields #[.int lo t,.int hi u,.int 1 v] }).objs.size],_,_,H,rfl,
    I1.kept (t':=tk) fun b o e=>Heap.get?_push_of_some _ e,turn_range _ lo (hi-lo).toNat,?_,fun b hb=>?_,q⟩
  · have e1:lo+((0:Nat):Int)*1=lo:=by simp
    have e2:(((hi-lo).toNat:Nat):Int)-((0:Nat):Int)=Builtin.Range.rangeSize lo hi 1:=by rw [rangeSize_one]; split <;> omega
    show IsRangeIter _ _ (lo+((0:Nat):Int)*1) ((((hi-lo).toNat:Nat):Int)-((0:Nat):Int)) 1
    rw [e1,e2]
    exact Heap.get?_push_size _ rfl
  · have e:b=(s.heap.push { cls:=.type "range",data:=.fields #[.int lo t,.int hi u,.int 1 v] }).objs.size:=by simpa using hb
    subst e
    exact I1.fpOk (Nat.le_refl _) (I1.hok.fresh (Nat.le_refl _))
inductive IiRng1 (R:It->Hp->Prop) (vs:List V) (H1:Hp):Prop
  | mk (j:Int) (h0:vs=[.int j]) (h1 : -(2^62)<=j) (h2:j<2^62) (h3:R (Itr 0 j.toNat) H1):IiRng1 R vs H1
def iRng1 (ta:TA):TI:=fun σ H R=>ta σ H fun vs H1=>IiRng1 R vs H1
theorem pi_range1 {a:Expr} {ta:TA} {p pos:Pos} (hg:Gl X "range") (hm:X.mg "range" = none) (ha:PA X [a] ta) (hs:starEach [a] X.env=[(false,eval a X.env)]:=by rfl):PI X tg (.Call (.Name "range" p) [a] [] pos) (iRng1 ta):=by
 intro pins s σ H R I h
 refine Call_ (ld_blt I hg hm boot_range (PyProof.Rows.callWith_type1 (thn (ha pos pins s σ H _ I h) fun us s1 ⟨vs,H1,I1,r1,q1⟩=>?_) hs rfl))
 obtain⟨j,e,q1,q2,q⟩:=q1
 subst e
 cases r1 with
 | cons r rr=>
   cases rr
   obtain⟨t,rfl⟩:=r
   exact call_range_1 (range_it I1 (by omega) (by omega) q1 q2 (by simpa using q))
def tFor (wi:TI) (g:TG) (tb:TS):TS:=fun D σ H=>wi σ H fun J H1=>∃W:Nat->Nat->St->Hp->Prop,(∃m,W 0 m σ H1) /\ ∀i m σ H,W i m σ H ->
  (J.stop i H/\D.nx σ H) \/ (J.go i H /\ ∃N:St->Hp->Prop,(∀ σ' H',N σ' H' -> ∃m',m'<m/\W (i+1) m' σ' H') /\ ∀x H',J.yld i H x H'->g x σ H' fun σ2 H2=>tb { D with nx:=N,ct:=N,bk:=D.nx } σ2 H2)
def pinsAt (fp:List Addr) (h:Heap):List (Addr × Obj):=fp.filterMap fun b=>(h.get? b).map fun o=>(b,o)
theorem mem_pinsAt {fp:List Addr} {h:Heap} {b:Addr} {o:Obj} (hb:b∈fp) (e:h.get? b=some o):(b,o)∈pinsAt fp h:=List.mem_filterMap.mpr ⟨b,hb,by rw [e]; rfl⟩
theorem of_pinsAt {fp:List Addr} {h:Heap} {p:Addr × Obj} (hp:p∈pinsAt fp h):p.1∈fp/\h.get? p.1=some p.2:=by
 obtain⟨b,hb,e⟩:=List.mem_filterMap.mp hp
 cases q:h.get? b with
 | none=>rw [q] at e; cases e
 | some o=>
   rw [q] at e
   have e':(b,o)=p:=Option.some.inj e
   subst e'
   exact⟨hb,q⟩
theorem Inv.pinned {pins:List (Addr × Obj)} {σ : St} {H:Hp} {s:Shared} {fp:List Addr} (I:Inv X pins σ H s) (hf:∀b∈fp,FpOk X pins H b) (ho:∀b∈fp,∃o,s.heap.get? b=some o /\ ∀v,o.data ≠ .cell v):Inv X (pins++pinsAt fp s.heap) σ H s:=
 I.pins_of fun p hp=>(List.mem_append.mp hp).elim (fun z=>I.pin p (List.mem_append_right _ z)) fun z=>by
  obtain⟨hb,e⟩:=of_pinsAt z
  obtain⟨f0,f1,f2,_⟩:=hf p.1 hb
  obtain⟨o,e',d⟩:=ho p.1 hb
  rw [e] at e'; cases e'
  exact⟨e,f0,f1,f2,d⟩
theorem Inv.unpinned {pins pl:List (Addr × Obj)} {σ : St} {H:Hp} {s:Shared} (I:Inv X (pins++pl) σ H s):Inv X pins σ H s:=I.pins_of fun p hp=>I.pin p (List.mem_append_right _ (List.mem_append_left _ hp))
theorem ps_for {iter:Expr} {body:List Stmt} {wi:TI} {g:TG} {tb:TS} {pos:Pos} (hp:PassesOwn (model X.prog X.w) X.A X.env X.xe) (hc:X.calm=true) (hi:PI X tg iter wi) (hg:PG X tg g) (hb:PSs X body tb)
    (hs:∀x,foldedSetIterable iter X.env x=pure x:=by intro _; rfl):PS X (.For tg iter body [] pos) (tFor wi g tb):=by
  intro pins s σ H D I h
  refine wpAny_For (thn (hi pins s σ H _ I h) fun v s1 h1=>thn h1 fun itv s2 h2=>?_) hs
  obtain⟨it,fp,tn,J,H2,e,I2,T,st2,f2,W,⟨m0,w0⟩,turn⟩:=h2
  subst e
  have stat:∀ {H':Hp},(∀b∈fp,H' b=none) -> ∀b∈fp,FpOk X pins H' b:=fun hn b hb=>⟨hn b hb,(f2 b hb).2⟩
  refine codeAny_forLoop_any (fun n s'=>∃i σ' H',Inv X pins σ' H' s'/\tn i s'.heap/\(∀b∈fp,H' b=none)/\W i n σ' H') ?_ m0 ⟨0,σ,H2,I2,st2,fun b hb=>(f2 b hb).1,w0⟩
  rintro n s3 ⟨i,σ3,H3,I3,st3,fr3,w3⟩
  rcases turn i n σ3 H3 w3 with ⟨stop,qn⟩ | ⟨go,N,hN,step⟩
  · refine wpAny_passesOwn hp (thn (T.done X rfl rfl rfl hc i pins s3 σ3 H3 X.xe I3 (stat fr3) st3 stop) fun r s4 ⟨hr,I4⟩=>?_)
    subst hr
    exact wpAny_execs_nil ⟨σ3,H3,I4,qn⟩
  · refine wpAny_passesOwn hp (thn (T.item X rfl rfl rfl hc i pins s3 σ3 H3 X.xe I3 (stat fr3) st3 go) fun r s4 ⟨u,hr,h4⟩=>?_)
    subst hr
    refine wpAny_passesOwn hp (thn h4 fun _ s5 ⟨x,H5,I5,r5,y5,st5,fr5⟩=>?_)
    have I5':=I5.pinned (stat fr5) (T.obj _ _ st5)
    refine wpAny_passesOwn hp (thn (hg _ s5 σ3 H5 x u _ I5' r5 (step x H5 y5)) fun _ s6 ⟨σ6,H6,I6,q6⟩=>?_)
    refine wpAny_passesOwn hp (thn (hb _ s6 σ6 H6 _ I6 q6) fun f s7 q7=>?_)
    have again:∀ {σ7:St} {H7:Hp},Inv X (pins++pinsAt fp s5.heap) σ7 H7 s7->N σ7 H7 -> ∃m,m<n /\ ∃i σ' H',Inv X pins σ' H' s7/\tn i s7.heap/\(∀b∈fp,H' b=none)/\W i m σ' H':=fun {σ7 H7} I7 n7=>by
     obtain⟨m',hm,w7⟩:=hN σ7 H7 n7
     refine⟨m',hm,i+1,σ7,H7,I7.unpinned,T.keep _ _ _ st5 fun b hb o e=>(I7.pin (b,o) (List.mem_append_right _ (List.mem_append_right _ (mem_pinsAt hb e)))).1,fun b hb=>?_,w7⟩
     obtain⟨o,e,d⟩:=T.obj _ _ st5 b hb
     exact (I7.pin (b,o) (List.mem_append_right _ (List.mem_append_right _ (mem_pinsAt hb e)))).2.1
    cases f with
    | next=>obtain⟨σ7,H7,I7,n7⟩:=q7; exact again I7 n7
    | cont=>obtain⟨σ7,H7,I7,n7⟩:=q7; exact again I7 n7
    | brk=>obtain⟨σ7,H7,I7,q7⟩:=q7; exact⟨σ7,H7,I7.unpinned,q7⟩
    | ret v=>obtain⟨x7,σ7,H7,I7,r7,q7⟩:=q7; exact⟨x7,σ7,H7,I7.unpinned,r7,q7⟩
end
theorem for_range {lo:Int} {n:Nat} {g:TG} {tb:TS} {D:Ends} {σ : St} {H:Hp} (Pv:Nat->St->Hp->Prop) (h0:Pv 0 σ H)
    (hs:∀i σ H,i<n->Pv i σ H->g (.int (lo+i)) σ H fun σ2 H2=>tb { D with nx:=Pv (i+1),ct:=Pv (i+1),bk:=D.nx } σ2 H2) (hd:∀ σ H,Pv n σ H->D.nx σ H) :
    ∃ W:Nat->Nat->St->Hp->Prop,(∃m,W 0 m σ H) /\ ∀i m σ H,W i m σ H ->
      ((Itr lo n).stop i H/\D.nx σ H) \/ ((Itr lo n).go i H /\ ∃N:St->Hp->Prop,(∀ σ' H',N σ' H' -> ∃m',m'<m/\W (i+1) m' σ' H') /\ ∀x H',(Itr lo n).yld i H x H'->g x σ H' fun σ2 H2=>tb { D with nx:=N,ct:=N,bk:=D.nx } σ2 H2):=by
  refine⟨fun i m σ H=>m=n-i/\i<=n/\Pv i σ H,⟨n,by simp,Nat.zero_le _,h0⟩,?_⟩
  rintro i m σ H ⟨rfl,hi,p⟩
  by_cases hlt:i<n
  · refine .inr ⟨hlt,Pv (i+1),fun σ' H' p'=>⟨n-(i+1),by omega,rfl,hlt,p'⟩,fun x H' y=>?_⟩
    obtain⟨e,y⟩:=y
    subst e y
    exact hs i σ _ hlt p
  · have e:i=n:=by omega
    subst e
    exact .inl ⟨Nat.le_refl _,hd σ H p⟩
theorem while_by {c:TT} {tb:TS} {D:Ends} {σ : St} {H:Hp} (Pv:St->Hp->Prop) (μ : St->Hp->Nat) (h0:Pv σ H)
    (hs:∀ σ H,Pv σ H->c σ H fun b H1=>if b=true then tb { D with nx:=fun σ' H'=>Pv σ' H' /\ μ σ' H' < μ σ H,ct:=fun σ' H'=>Pv σ' H' /\ μ σ' H' < μ σ H,bk:=D.nx } σ H1 else D.nx σ H1)
    (mono:∀ σ H Q Q',(∀b H1,Q b H1->Q' b H1)->c σ H Q->c σ H Q'):tWhile c tb D σ H:=by
  refine⟨fun m σ H=>m = μ σ H/\Pv σ H,⟨_,rfl,h0⟩,?_⟩
  rintro m σ H ⟨rfl,p⟩
  refine mono σ H _ _ (fun b H1 q=>?_) (hs σ H p)
  cases b with
  | true=>exact⟨_,fun σ' H' ⟨p',l⟩=>⟨_,l,rfl,p'⟩,q⟩
  | false=>exact q
end L2
namespace L2
open PySem PySem.Spec PyProof.Rows
abbrev R2:=V->V->Hp->VK->Prop
def OpR (X:Cx) (f:Value->Value->Sem Value) (r:R2):Prop:=
 ∀ (pins:List (Addr × Obj)) (s:Shared) (σ : St) (H:Hp) (x y:V) (v u:Value) (Q:VK),Inv X pins σ H s->RelV x v->RelV y u->r x y H Q ->
   wpAny (model X.prog X.w) X.A (f v u) (EP X pins σ Q) X.xe s
def UnR (X:Cx) (f:Value->Sem Value) (r:V->Hp->VK->Prop):Prop:=
 ∀ (pins:List (Addr × Obj)) (s:Shared) (σ : St) (H:Hp) (x:V) (v:Value) (Q:VK),Inv X pins σ H s->RelV x v->r x H Q ->
   wpAny (model X.prog X.w) X.A (f v) (EP X pins σ Q) X.xe s
def CallR (X:Cx) (f:Value) (r:List V->Hp->VK->Prop):Prop:=
 ∀ (pins:List (Addr × Obj)) (s:Shared) (σ : St) (H:Hp) (xs:List V) (us:List Value) (Q:VK),Inv X pins σ H s->Vals xs us->r xs H Q ->
   wpAny (model X.prog X.w) X.A (call f us) (EP X pins σ Q) X.xe s
def tOp (r:R2) (ta tb:TE):TE:=fun σ H Q=>ta σ H fun x H1=>tb σ H1 fun y H2=>r x y H2 Q
def tUn (r:V->Hp->VK->Prop) (ta:TE):TE:=fun σ H Q=>ta σ H fun x H1=>r x H1 Q
inductive IrI (C:Int->Int->Prop) (g:Int->Int->V) (x:V) (y:V) (H:Hp) (Q:VK):Prop
  | mk (i:_) (j:_) (h0:x = .int i) (h1:y = .int j) (h2:C i j) (h3:Q (g i j) H):IrI C g x y H Q
def rI (C:Int->Int->Prop) (g:Int->Int->V):R2:=fun x y H Q=>IrI C g x y H Q
inductive IrI0 (g:Int->Int->V) (x:V) (y:V) (H:Hp) (Q:VK):Prop
  | mk (i:_) (j:_) (h0:x = .int i) (h1:y = .int j) (h2:Q (g i j) H):IrI0 g x y H Q
def rI0 (g:Int->Int->V):R2:=fun x y H Q=>IrI0 g x y H Q
inductive IrU (g:Int->V) (x:V) (H:Hp) (Q:VK):Prop
  | mk (i:_) (h0:x = .int i) (h1:Q (g i) H):IrU g x H Q
def rU (g:Int->V):V->Hp->VK->Prop:=fun x H Q=>IrU g x H Q
section
variable {X:Cx} {a b c:Expr} {ta tb tc:TE} {pos:Pos}
theorem binT (ha:PE X a ta) (hb:PE X b tb) {pins:List (Addr × Obj)} {s:Shared} {σ : St} {H:Hp} {R:V->V->Hp->Prop} (I:Inv X pins σ H s)
    (h:ta σ H fun x H1=>tb σ H1 fun y H2=>R x y H2) {Q:Value->Shared->Prop} {f:Value->Value->Sem Value}
    (hf:∀v u s2 x y H2,Inv X pins σ H2 s2->RelV x v->RelV y u->R x y H2->wpAny (model X.prog X.w) X.A (f v u) Q X.xe s2) :
    wpAny (model X.prog X.w) X.A (eval a X.env) (fun v s₁=>wpAny (model X.prog X.w) X.A (eval b X.env) (fun u s₂=>wpAny (model X.prog X.w) X.A (f v u) Q X.xe s₂) X.xe s₁) X.xe s:=by
  refine thn (ha pins s σ H _ I h) fun v s1 ⟨x,H1,I1,r1,q1⟩=>?_
  refine thn (hb pins s1 σ H1 _ I1 q1) fun u s2 ⟨y,H2,I2,r2,q2⟩=>?_
  exact hf v u s2 x y H2 I2 r1 r2 q2
theorem pe_op {op:Operator} {r:R2} (ho:OpR X (binaryOp op) r) (ha:PE X a ta) (hb:PE X b tb):PE X (.BinOp a op b pos) (tOp r ta tb):=by
 intro pins s σ H Q I h
 exact wpAny_BinOp (binT ha hb I h fun v u s2 x y H2 I2 rx ry q=>ho pins s2 σ H2 x y v u Q I2 rx ry q)
theorem pe_un {op:UnaryOp} {r:V->Hp->VK->Prop} (ho:UnR X (unaryOp op) r) (ha:PE X a ta):PE X (.UnaryOp op a pos) (tUn r ta):=by
 intro pins s σ H Q I h
 exact UnaryOp_ (thn (ha pins s σ H _ I h) fun v s1 ⟨x,H1,I1,r1,q1⟩=>ho pins s1 σ H1 x v Q I1 r1 q1)
theorem opI {f:Value->Value->Sem Value} {C:Int->Int->Prop} {g:Int->Int->Int}
    (rule:∀(i j:Int) (t u:Tok) (s:Shared) (Q:Value->Shared->Prop) (E:Value->Shared->Prop),C i j->Q (.int (g i j) s.toks) { s with toks:=s.toks+1 } -> wpAny (model X.prog X.w) X.A (f (.int i t) (.int j u)) Q E s) :
    OpR X f (rI C fun i j=>.int (g i j)):=by
  intro pins s σ H x y v u Q I rx ry h
  obtain⟨i,j,rfl,rfl,hc,q⟩:=h
  obtain⟨t,rfl⟩:=rx
  obtain⟨t',rfl⟩:=ry
  exact rule i j t t' s _ _ hc ⟨.int (g i j),H,I.tok _,⟨_,rfl⟩,q⟩
theorem opI0 {f:Value->Value->Sem Value} {g:Int->Int->Int}
    (rule:∀(i j:Int) (t u:Tok) (s:Shared) (Q:Value->Shared->Prop) (E:Value->Shared->Prop),Q (.int (g i j) s.toks) { s with toks:=s.toks+1 } -> wpAny (model X.prog X.w) X.A (f (.int i t) (.int j u)) Q E s) :
    OpR X f (rI0 fun i j=>.int (g i j)):=by
  intro pins s σ H x y v u Q I rx ry h
  obtain⟨i,j,rfl,rfl,q⟩:=h
  obtain⟨t,rfl⟩:=rx
  obtain⟨t',rfl⟩:=ry
  exact rule i j t t' s _ _ ⟨.int (g i j),H,I.tok _,⟨_,rfl⟩,q⟩
theorem opB0 {f:Value->Value->Sem Value} {g:Int->Int->Bool}
    (rule:∀(i j:Int) (t u:Tok) (s:Shared) (Q:Value->Shared->Prop) (E:Value->Shared->Prop),Q (.bool (g i j)) s->wpAny (model X.prog X.w) X.A (f (.int i t) (.int j u)) Q E s) :
    OpR X f (rI0 fun i j=>.bl (g i j)):=by
  intro pins s σ H x y v u Q I rx ry h
  obtain⟨i,j,rfl,rfl,q⟩:=h
  obtain⟨t,rfl⟩:=rx
  obtain⟨t',rfl⟩:=ry
  exact rule i j t t' s _ _ ⟨.bl (g i j),H,I,rfl,q⟩
def CPow (i j:Int):Prop:=0<=j/\j<=1000000/\i.natAbs<2^64
theorem op_add:OpR X (binaryOp .Add) (rI0 fun i j=>.int (i+j)):=opI0 fun _ _ _ _ _ _ _ q=>add_int q
theorem op_sub:OpR X (binaryOp .Sub) (rI0 fun i j=>.int (i-j)):=opI0 fun _ _ _ _ _ _ _ q=>sub_int q
theorem op_mod:OpR X (binaryOp .Mod) (rI (fun _ j=>0<j) fun i j=>.int (i % j)):=opI fun i j _ _ _ _ _ hc q=>by
 have h1:(0:Int)<j:=hc
 exact mod_int' (by omega) (by rw [Int.fmod_eq_emod_of_nonneg i (by omega)]; exact q)
theorem op_modN:OpR X (binaryOp .Mod) (rI (fun _ j=>j≠0) fun i j=>.int (i.fmod j)):=opI fun _ _ _ _ _ _ _ hc q=>mod_int' hc q
theorem op_pow:OpR X (binaryOp .Pow) (rI CPow fun i j=>.int (i^j.toNat)):=opI fun _ _ _ _ _ _ _ hc q=>pow_int_small hc.1 hc.2.1 hc.2.2 q
theorem op_shl:OpR X (binaryOp .LShift) (rI CPow fun i j=>.int (i*2^j.toNat)):=opI fun _ _ _ _ _ _ _ hc q=>lshift_int_small hc.1 hc.2.1 hc.2.2 q
theorem unI {f:Value->Sem Value} {g:Int->Int}
    (rule:∀(i:Int) (t:Tok) (s:Shared) (Q:Value->Shared->Prop) (E:Value->Shared->Prop),Q (.int (g i) s.toks) { s with toks:=s.toks+1 } -> wpAny (model X.prog X.w) X.A (f (.int i t)) Q E s) :
    UnR X f (rU fun i=>.int (g i)):=by
  intro pins s σ H x v Q I rx h
  obtain⟨i,rfl,q⟩:=h
  obtain⟨t,rfl⟩:=rx
  exact rule i t s _ _ ⟨.int (g i),H,I.tok _,⟨_,rfl⟩,q⟩
theorem un_neg:UnR X (unaryOp .USub) (rU fun i=>.int (-i)):=unI fun _ _ _ _ _ q=>neg_int q
end
section
variable {X:Cx} {a b c:Expr} {ta tb tc:TE} {pos:Pos}
theorem op_lt:OpR X (compareOp .Lt) (rI0 fun i j=>.bl (decide (i<j))):=opB0 fun _ _ _ _ _ _ _ q=>lt_int q
theorem op_gt:OpR X (compareOp .Gt) (rI0 fun i j=>.bl (decide (j<i))):=opB0 fun _ _ _ _ _ _ _ q=>gt_int q
theorem OpR.or {f:Value->Value->Sem Value} {r r':R2} (h:OpR X f r) (h':OpR X f r'):OpR X f (fun x y H Q=>r x y H Q \/ r' x y H Q):=by
 intro pins s σ H x y v u Q I rx ry q
 rcases q with q | q
 · exact h pins s σ H x y v u Q I rx ry q
 · exact h' pins s σ H x y v u Q I rx ry q
theorem nomark (b:Expr) {op:CmpOp} (h:op ≠ .In:=by decide) (h2:op ≠ .NotIn:=by decide):behindInMarks op b=false:=by
 have e1:(op == CmpOp.In)=false:=by cases op <;> first | rfl | exact absurd rfl h
 have e2:(op == CmpOp.NotIn)=false:=by cases op <;> first | rfl | exact absurd rfl h2
 cases b <;> simp [behindInMarks,e1,e2]
theorem pe_cmpR {op:CmpOp} {r:R2} (ho:OpR X (compareOp op) r) (ha:PE X a ta) (hb:PE X b tb) (hm:behindInMarks op b=false):PE X (.Compare a [op] [b] pos) (tOp r ta tb):=by
 intro pins s σ H Q I h
 exact wpAny_Compare1 (binT ha hb I h fun v u s2 x y H2 I2 rx ry q=>ho pins s2 σ H2 x y v u Q I2 rx ry q) hm
inductive ItTest (Q:Bool->Hp->Prop) (x:V) (H':Hp):Prop
  | mk (k:_) (h0:x = .bl k) (h1:Q k H'):ItTest Q x H'
def tTest (t:TE):TT:=fun σ H Q=>t σ H fun x H'=>ItTest Q x H'
theorem pt_cmpR {op:CmpOp} {r:R2} (ho:OpR X (compareOp op) r) (ha:PE X a ta) (hb:PE X b tb) (hm:behindInMarks op b=false):PT X (.Compare a [op] [b] pos) (tTest (tOp r ta tb)):=by
 intro pins s σ H Q I h
 refine wpAny_isTrue_Compare1 (thn (ha pins s σ H _ I h) fun v s1 ⟨x,H1,I1,r1,q1⟩=>thn (hb pins s1 σ H1 _ I1 q1) fun u s2 ⟨y,H2,I2,r2,q2⟩=>
  thn (ho pins s2 σ H2 x y v u _ I2 r1 r2 q2) fun c s3 ⟨z,H3,I3,r3,k,e,q3⟩=>?_) hm
 subst e
 cases r3
 exact wpAny_truthy_bool ⟨H3,I3,q3⟩
theorem line63:(sizeLine:Nat)<2^63:=by rw [sizeLine_eq]; decide
theorem vals1 {x:V} {us:List Value} (r:Vals [x] us):∃u,us=[u]/\RelV x u:=by
 cases r with
 | cons r1 r2=>cases r2; exact⟨_,rfl,r1⟩
theorem vals2 {x y:V} {us:List Value} (r:Vals [x,y] us):∃u w',us=[u,w']/\RelV x u/\RelV y w':=by
 cases r with
 | cons r1 r2=>
   cases r2 with
   | cons r3 r4=>cases r4; exact⟨_,_,rfl,r1,r3⟩
theorem call_abs:CallR X (.builtin "abs") (fun xs H Q=>∃i,xs=[.int i]/\Q (.int (if i<0 then -i else i)) H):=by
 intro pins s σ H xs us Q I r h
 obtain⟨i,rfl,q⟩:=h
 obtain⟨u,rfl,t,rfl⟩:=vals1 r
 exact call_abs_int fun u tk=>⟨.int (if i<0 then -i else i),H,I.tok _,⟨_,rfl⟩,q⟩
theorem call_max2 (hc:X.calm=true):CallR X (.builtin "max") (fun xs H Q=>∃i j,xs=[.int i,.int j]/\Q (.int (if j > i then j else i)) H):=by
 intro pins s σ H xs us Q I r h
 obtain⟨i,j,rfl,q⟩:=h
 obtain⟨u,w',rfl,⟨t,rfl⟩,⟨t',rfl⟩⟩:=vals2 r
 refine max_two_ints (I.ok.hd hc) fun h' tk k=>⟨_,H,I.kept k,?_,q⟩
 by_cases hj:j > i
 · rw [if_pos hj,if_pos hj]; exact⟨_,rfl⟩
 · rw [if_neg hj,if_neg hj]; exact⟨_,rfl⟩
theorem call_min2 (hc:X.calm=true):CallR X (.builtin "min") (fun xs H Q=>∃i j,xs=[.int i,.int j]/\Q (.int (if j<i then j else i)) H):=by
 intro pins s σ H xs us Q I r h
 obtain⟨i,j,rfl,q⟩:=h
 obtain⟨u,w',rfl,⟨t,rfl⟩,⟨t',rfl⟩⟩:=vals2 r
 refine min_two_ints (I.ok.hd hc) fun h' tk k=>⟨_,H,I.kept k,?_,q⟩
 by_cases hj:j<i
 · rw [if_pos hj,if_pos hj]; exact⟨_,rfl⟩
 · rw [if_neg hj,if_neg hj]; exact⟨_,rfl⟩
end
end L2
namespace L2
open PySem PySem.Spec PyProof.Rows
section
variable {prog:Program} {w:World} {A:Around} {E:Value->Shared->Prop} {s:Shared} {K:PySem.W.Frag} {x dx C f:Addr} {mA:Str->Option Value} {name:Str} {v:Value}
end
section
variable {P:Program} {w:World} {H H':Hp} {h h':Heap} {a C dx:Addr} {fs fs':List (Str × V)}
end
section
variable {X:Cx} {pins:List (Addr × Obj)} {σ : St} {H:Hp} {s:Shared} {a C dx:Addr} {fs:List (Str × V)} {f:Str} {v:V} {A:Around} {E:Value->Shared->Prop}
end
section
variable {X:Cx} {o e value:Expr} {f:Str} {pos pos' tpos:Pos} {ta tv:TE}
end
section
variable {X:Cx} {pins:List (Addr × Obj)} {σ : St} {H:Hp} {s:Shared} {A:Around} {E:Value->Shared->Prop} {Q:Value->Shared->Prop} {c:Value} {b:Bool}
end
end L2
namespace L2
open PySem PySem.Spec PyProof.Rows
structure Room (k:Nat) (A:Around):Prop where
 hd:A.handled=none
 dp:A.depth+3*k+5<recursionLimit
 un:A.units+16*k+200<cLine
theorem Room.mono {j k:Nat} {A:Around} (r:Room k A) (h:j<=k):Room j A:=⟨r.hd,by have:=r.dp; omega,by have:=r.un; omega⟩
theorem Room.deeper {k:Nat} {A:Around} (r:Room (k+1) A) (env:Env):Room k (A.deeper env):=
 ⟨r.hd,by have:=r.dp; show A.depth+1+3*k+5<_; omega,by have:=r.un; show A.units+3+16*k+200<_; omega⟩
theorem Room.depth {k:Nat} {A:Around} (r:Room k A):A.depth<recursionLimit:=by have:=r.dp; omega
theorem Room.units {k:Nat} {A:Around} (r:Room k A):A.units+64<cLine:=by have:=r.un; omega
def tNil:TA:=fun _ H Q=>Q [] H
def tCons (ta:TE) (tr:TA):TA:=fun σ H Q=>ta σ H fun x H1=>tr σ H1 fun xs H2=>Q (x::xs) H2
section
variable {X:Cx} {e:Expr} {es:List Expr} {te:TE} {t:TA} {pos:Pos}
theorem pa_nil:PA X [] tNil:=fun _ _ _ _ H Q I h=>Calls.spliced_nil ⟨[],H,I,.nil,h⟩
theorem pa_cons (ha:PE X e te) (hr:PA X es t) (hs:starEach (e::es) X.env=(false,eval e X.env)::starEach es X.env:=by rfl):PA X (e::es) (tCons te t):=by
 intro pos pins s σ H Q I h
 rw [hs]
 show wpAny _ _ (spliced ((false,eval e X.env)::backTo pos (starEach es X.env))) _ _ s
 refine Calls.spliced_cons (thn (ha pins s σ H _ I h) fun u s1 ⟨x,H1,I1,r1,q1⟩=>?_)
 exact thn (hr pos pins s1 σ H1 _ I1 q1) fun us s2 ⟨xs,H2,I2,r2,q2⟩=>⟨x::xs,H2,I2,.cons r1 r2,q2⟩
end
abbrev Sp:=List V->Hp->VK->XK->Prop
abbrev CXT:=List Env->Hp->Shared->XK->Value->Shared->Prop
structure Env0 (P:Program) (w:World) (K:PySem.W.Frag) (mg:Str->Option Value) (base:Heap) (A:Around) (outer:List Env) (s:Shared) (H:Hp):Prop where
 frames:A.frames=some outer
 mod:Mod K mg base
 bs:∀b o,base.get? b=some o->s.heap.get? b=some o/\H b=none
 bsz:base.objs.size<=s.heap.objs.size
 funs:s.heap.FunFrames base outer
 frf:∀b∈frs outer,H b=none
 hok:HOk P w H s.heap
 bare:AllBare s.gens
def CE (outer:List Env) (P:Program) (w:World) (H:Hp) (s:Shared) (Q:VK) (u:Value) (s':Shared):Prop:=
 ∃v H',s'.os=s.os/\AllBare s'.gens/\Un (frs outer) [] H H' s.heap s'.heap/\HOk P w H' s'.heap/\RelV v u/\Q v H'
def CR (CX:CXT) (outer:List Env) (P:Program) (w:World) (H:Hp) (s:Shared) (Q:VK) (E:XK) (r:Result) (s':Shared):Prop:=
 match r with
 | .ok (.ret u)=>CE outer P w H s Q u s'
 | .ok _=>False
 | .error e=>CX outer H s E e s'
structure FnOk (P:Program) (w:World) (K:PySem.W.Frag) (mg:Str->Option Value) (base:Heap) (CX:CXT) (k:Nat) (f:Addr) (fd:FuncData) (ps:List Str) (sp:Sp):Prop where
 len:∀vs H Q E,sp vs H Q E->vs.length=ps.length
 run:∀(A:Around) (outer:List Env) (s:Shared) (H:Hp) (args:Args) (us:List Value) (vs:List V) (Q:VK) (E:XK),Room k A->Env0 P w K mg base A outer s H->BindsTo s fd args (ps.zip us)->Vals vs us->sp vs H Q E ->
   codeAny (model P w) A (.call (.ref f) args) (CR CX outer P w H s Q E) s
section
variable {X:Cx} {pins:List (Addr × Obj)} {σ : St} {H:Hp} {s s':Shared}
theorem Inv.env0 (I:Inv X pins σ H s):Env0 X.prog X.w X.K X.mg X.base X.A X.stack s H:=
 ⟨I.ok.frames,I.ok.mod,I.bs,Nat.le_trans I.ok.bsz I.sz,I.stack,I.stkFree,I.hok,I.bare⟩
theorem Inv.after {Q:VK} {u:Value} (I:Inv X pins σ H s) (h:CE X.stack X.prog X.w H s Q u s'):EP X pins σ Q u s':=by
 obtain⟨v,H',os,bare,un,hok,r,q⟩:=h
 obtain⟨hh,g,d,t,os'⟩:=s'
 obtain rfl:os'=s.os:=os
 exact⟨v,H',I.call (h':=hh) (g':=g) (d':=d) (t':=t) (ch:=[]) un hok bare (fun b z=>absurd z (by simp)),r,q⟩
end
def tCall (sp:Sp) (dvs:List V) (E:XK) (t:TA):TE:=fun σ H Q=>t σ H fun vs H1=>sp (vs++dvs) H1 Q E
def Binds (K:PySem.W.Frag) (fd:FuncData) (ps:List Str) (ds:List Value):Prop:=
 ∀(s:Shared) (us:List Value),K.In s.heap->(us++ds).length=ps.length->BindsTo s fd ⟨us,[]⟩ (ps.zip (us++ds))
theorem Binds.all {K:PySem.W.Frag} {fd:FuncData} {ps:List Str} (h:∀us:List Value,us.length=ps.length->bindArgs fd ⟨us,[]⟩=pure (ps.zip us)):Binds K fd ps []:=fun s us _ hl=>by
 rw [List.append_nil] at hl ⊢
 exact .of_eq (h us hl)
def Passes (CX:CXT) (X:Cx) (E:XK):Prop:=∀(pins:List (Addr × Obj)) (σ : St) (H:Hp) (s:Shared) (e:Value) (s':Shared),Inv X pins σ H s->CX X.stack H s E e s'->X.xe e s'
section
variable {X:Cx} {CX:CXT} {k:Nat} {f C:Addr} {fd:FuncData} {ps:List Str} {sp:Sp} {dvs:List V} {ds:List Value} {E:XK} {x m:Str} {p pos apos:Pos} {e o:Expr} {es:List Expr} {ta:TE} {t:TA}
theorem run_fn {pins:List (Addr × Obj)} {σ : St} {H:Hp} {s:Shared} {Q:VK} {us:List Value} {vs:List V} (F:FnOk X.prog X.w X.K X.mg X.base CX k f fd ps sp) (hr:Room k X.A) (hb:Binds X.K fd ps ds) (hd:Vals dvs ds) (hx:Passes CX X E)
    (I:Inv X pins σ H s) (r:Vals vs us) (h:sp (vs++dvs) H Q E):wpAny (model X.prog X.w) X.A (call (.ref f) us) (EP X pins σ Q) X.xe s:=by
  have r2:Vals (vs++dvs) (us++ds):=r.append hd
  have hl:(us++ds).length=ps.length:=by rw [<- r2.length]; exact F.len _ _ _ _ h
  refine wpAny_call (codeAny_mono (F.run X.A X.stack s H ⟨us,[]⟩ (us++ds) (vs++dvs) Q E hr I.env0 (hb s us I.kIn hl) r2 h) fun r s' hq=>?_)
  cases r with
  | error e=>exact hx pins σ H s e s' I hq
  | ok fl=>
    cases fl with
    | ret u=>exact I.after hq
    | next=>exact False.elim hq
    | brk=>exact False.elim hq
    | cont=>exact False.elim hq
theorem pe_call (F:FnOk X.prog X.w X.K X.mg X.base CX k f fd ps sp) (hr:Room k X.A) (hg:Gl X x) (hm:X.mg x=some (.ref f)) (hk:PySem.W.keepIn X.K (.ref f)=true) (hb:Binds X.K fd ps ds) (hd:Vals dvs ds) (hx:Passes CX X E)
    (ha:PA X (e::es) t) (hdb:(x == ("__debug__" : Str))=false:=by decide) (he:starEach (e::es) X.env=(false,eval e X.env)::starEach es X.env:=by rfl) (hpl:(backTo pos (starEach es X.env)).any (·.1)=false:=by rfl) :
    PE X (.Call (.Name x p) (e::es) [] pos) (tCall sp dvs E t):=by
  intro pins s σ H Q I h
  refine wpAny_Call_Name_kw (ld_glob I hg hm ?_ hdb)
  refine PySem.W.callWith_K (h₀:=X.base) I.ok.mod.kin hk (thn (ha pos pins s σ H _ I h) fun us s1 ⟨vs,H1,I1,r,q⟩=>⟨I1.kIn,?_⟩) he hpl
  exact run_fn F hr hb hd hx I1 r q
end
section
variable {X:Cx} {CX:CXT} {k:Nat} {f C:Addr} {fd:FuncData} {ps ks:List Str} {sp:Sp} {E:XK} {x m:Str} {p pos apos kpos:Pos} {e o:Expr} {es:List Expr} {kws:List Keyword} {te ta:TE} {t tk:TA} {nm:Option Str}
variable {g:List Value->List Value->List Value} {gV:List V->List V->List V}
end
structure FnScope (N P:List Str) (sc:Scope):Prop where
 kind:sc.kind = .function
 co:sc.isCoroutine=false
 gen:sc.isGenerator=false
 nd:N.Nodup
 pre:N.take P.length=P
 par:∀x∈P,sc.names.lookup x=some .local \/ sc.names.lookup x=some .cell
 nofree:∀y∈sc.names,y.2 ≠ .free
theorem bindL_out {kindOf:Str->Option NameKind} {x:Str}:∀ {binds:List (Str × Value)} {m:Str->Option Value},(∀v,(x,v) ∉ binds)->bindL kindOf binds m x=m x
  | [],_,_=>rfl
  | (n,v)::r,m,h=>by
    unfold bindL
    rw [bindL_out fun w hw=>h w (List.mem_cons_of_mem _ hw)]
    split
    · have:x≠n:=by rintro rfl; exact h v List.mem_cons_self
      simp [this]
    · rfl
theorem bindC_out {kindOf:Str->Option NameKind} {x:Str}:∀ {binds:List (Str × Value)} {m:Str->Option Value},(∀v,(x,v) ∉ binds)->bindC kindOf binds m x=m x
  | [],_,_=>rfl
  | (n,v)::r,m,h=>by
    unfold bindC
    rw [bindC_out fun w hw=>h w (List.mem_cons_of_mem _ hw)]
    split
    · rfl
    · have:x≠n:=by rintro rfl; exact h v List.mem_cons_self
      simp [this]
theorem bindL_get {kindOf:Str->Option NameKind} {x:Str} {v:Value}:∀ {P:List Str} {vs:List Value} {i:Nat} {m:Str->Option Value},P.Nodup->P[i]? = some x->vs[i]? = some v->kindOf x=some .local ->
    bindL kindOf (P.zip vs) m x=some v
  | [],_,_,_,_,h,_,_=>by simp at h
  | _::_,[],_,_,_,_,h,_=>by simp at h
  | p::P,w::vs,0,m,nd,h1,h2,hk=>by
    simp at h1 h2; subst h1; subst h2
    show bindL kindOf ((p,w)::P.zip vs) m p=_
    unfold bindL
    rw [bindL_out fun v hv=>(List.nodup_cons.mp nd).1 (List.of_mem_zip hv).1,if_pos hk]
    simp
  | p::P,w::vs,i+1,m,nd,h1,h2,hk=>by
    show bindL kindOf ((p,w)::P.zip vs) m x=_
    unfold bindL
    exact bindL_get (i:=i) (List.nodup_cons.mp nd).2 (by simpa using h1) (by simpa using h2) hk
theorem bindC_get {kindOf:Str->Option NameKind} {x:Str} {v:Value}:∀ {P:List Str} {vs:List Value} {i:Nat} {m:Str->Option Value},P.Nodup->P[i]? = some x->vs[i]? = some v->kindOf x≠some .local ->
    bindC kindOf (P.zip vs) m x=some v
  | [],_,_,_,_,h,_,_=>by simp at h
  | _::_,[],_,_,_,_,h,_=>by simp at h
  | p::P,w::vs,0,m,nd,h1,h2,hk=>by
    simp at h1 h2; subst h1; subst h2
    show bindC kindOf ((p,w)::P.zip vs) m p=_
    unfold bindC
    rw [bindC_out fun v hv=>(List.nodup_cons.mp nd).1 (List.of_mem_zip hv).1,if_neg hk]
    simp
  | p::P,w::vs,i+1,m,nd,h1,h2,hk=>by
    show bindC kindOf ((p,w)::P.zip vs) m x=_
    unfold bindC
    exact bindC_get (i:=i) (List.nodup_cons.mp nd).2 (by simpa using h1) (by simpa using h2) hk
def start (N:List Str) (vs:List V):St:=vs.map some++List.replicate (N.length-vs.length) none
def cxOf (CX:CXT) (P:Program) (w:World) (K:PySem.W.Frag) (mg:Str->Option Value) (base:Heap) (N:List Str) (qual:Str) (scope:Scope) (f:Addr) (cd:Value) (A:Around) (outer:List Env) (s:Shared) (H:Hp) (E:XK):Cx where
 prog:=P
 w:=w
 K:=K
 mg:=mg
 base:=base
 A:=A.deeper (envOfC qual scope s.heap.objs.size f cd)
 N:=N
 s₀:=s
 H₀:=H
 env:=envOfC qual scope s.heap.objs.size f cd
 outer:=outer
 stack:=envOfC qual scope s.heap.objs.size f cd::outer
 ex:=[]
 calm:=true
 fn:=fun _=>true
 pn:=[]
 xe:=fun e s'=>wpAny (model P w) (A.deeper (envOfC qual scope s.heap.objs.size f cd)) (leaving (envOfC qual scope s.heap.objs.size f cd) e) (fun _ s''=>CX outer H s E e s'') (fun e' s''=>CX outer H s E e' s'') s'
theorem cell_has {sc:Scope} {n:Nat} {x:Str} (h:sc.names.lookup x=some .cell):∃c,(cellsFrom n sc.names []).lookup x=some c:=by
 have q:=PySem.W.cellsFrom_some sc.names n [] (.inl h)
 exact Option.isSome_iff_exists.mp q
theorem inv_start {CX:CXT} {P:Program} {w:World} {K:PySem.W.Frag} {mg:Str->Option Value} {base:Heap} {N ps:List Str} {qual:Str} {scope:Scope} {f:Addr} {cd:Value} {A:Around} {outer:List Env} {s s1:Shared} {H:Hp} {E:XK} {us:List Value} {vs:List V}
    (S:FnScope N ps scope) (hd:A.handled=none) (e0:Env0 P w K mg base A outer s H) (hl:vs.length=ps.length) (r:Vals vs us)
    (x:InCallC s s.heap.objs.size (bindL (envOfC qual scope s.heap.objs.size f cd).kindOf (ps.zip us) fun _=>none) (cellsFrom (s.heap.objs.size+1) scope.names []) (bindC (envOfC qual scope s.heap.objs.size f cd).kindOf (ps.zip us) fun _=>none) s1) :
    Inv (cxOf CX P w K mg base N qual scope f cd A outer s H E) [] (start N vs) H s1:=by
  have hpl:ps.length<=N.length:=by have:=congrArg List.length S.pre; rw [List.length_take] at this; omega
  obtain⟨h1,tk,rfl,hk⟩:=x.done
  have noA:∀b:Addr,b ∉ (cxOf CX P w K mg base N qual scope f cd A outer s H E).ex:=fun b z=>absurd (show b∈([]:List Addr) from z) (by simp)
  refine ⟨⟨e0.mod,S.kind,rfl,rfl,Nat.le_refl _,fun y z c h1 h2=>?_,fun y hy=>?_,fun y c _ h=>?_,fun _=>hd,Around.frames_deeper e0.frames,.inr ⟨rfl,rfl⟩,fun b z=>absurd z (noA b),e0.bs,e0.bsz,fun b _ _=>noA b,fun b z=>absurd z (noA b),e0.funs,e0.frf⟩,
    rfl,e0.bare,Un.kept hk,⟨_,x.toInCall.ns,fun i y v h1 h2 h3=>?_⟩,fun y c h=>⟨_,x.cell y c h⟩,e0.hok.fresh (Nat.le_refl _),fun y c h=>?_,fun p hp=>absurd (show p∈([]:List (Addr × Obj)) from hp) (by simp),e0.hok.kept hk,?_⟩
  · exact name_of_addr x.apart (PySem.mem_of_lookup h1) (PySem.mem_of_lookup h2)
  · have hy:scope.names.lookup y=some .cell \/ scope.names.lookup y=some .free:=hy
    rcases hy with hy | hy
    · exact cell_has hy
    · exact absurd rfl (S.nofree _ (PySem.mem_of_lookup hy))
  · exact Nat.le_of_lt (x.above y c (PySem.mem_of_lookup h))
  · have hi:i<vs.length:=by
      unfold start at h2
      by_cases hi:i<vs.length
      · exact hi
      · rw [List.getElem?_append_right (by simpa using hi)] at h2
        rw [List.getElem?_replicate] at h2
        split at h2 <;> cases h2
    have ha:vs[i]? = some v:=by
     unfold start at h2
     rw [List.getElem?_append_left (by simpa using hi),List.getElem?_map] at h2
     cases e:vs[i]? with
     | none=>rw [e] at h2; cases h2
     | some a=>rw [e] at h2; cases h2; rfl
    obtain⟨u,hu,rv⟩:=r.get ha
    have hp:ps[i]? = some y:=by
     rw [<- S.pre,List.getElem?_take_of_lt (by omega)]; exact h1
    have ndP:ps.Nodup:=by rw [<- S.pre]; exact S.nd.sublist (List.take_sublist _ _)
    refine⟨u,rv,?_⟩
    rcases S.par y (List.mem_of_getElem? hp) with k | k
    · exact .inl ⟨k,bindL_get ndP hp hu k⟩
    · obtain⟨c,e⟩:=cell_has (n:=s.heap.objs.size+1) k
      refine .inr ⟨.inl k,c,e,?_⟩
      have q:=x.cell y c e
      rw [bindC_get ndP hp hu (by show scope.names.lookup y≠_; rw [k]; decide)] at q
      exact q
  · exact e0.hok.fresh (Nat.le_of_lt (x.above y c (PySem.mem_of_lookup h)))
  · unfold start
    show _=N.length
    rw [List.length_append,List.length_map,List.length_replicate]
    omega
theorem fn_of {CX:CXT} {P:Program} {w:World} {K:PySem.W.Frag} {mg:Str->Option Value} {base:Heap} {k:Nat} {f:Addr} {name qual:Str} {params:Arguments} {body:List Stmt} {scope:Scope} {dV kV doc pm cdv ct oc:Value} {an od:Option Addr}
    {osl:Array (Option Value)} {N ps:List Str} {sp:Sp} (lk:K.lookup f=some ⟨oc,od,.func (PySem.W.fnOf name qual params body scope dV kV doc pm an cdv ct),osl⟩) (hcd:PySem.W.codeIn K cdv qual=true) (S:FnScope N ps scope)
    (len:∀vs H Q E,sp vs H Q E->vs.length=ps.length)
    (hbody:∀(A:Around) (outer:List Env) (s:Shared) (H:Hp) (vs:List V) (Q:VK) (E:XK),Room k (A.deeper (envOfC qual scope s.heap.objs.size f cdv))->sp vs H Q E ->
      ∃t,PSs (cxOf CX P w K mg base N qual scope f cdv A outer s H E) body t/\t { nx:=fun _ H'=>Q .non H',rt:=Q } (start N vs) H) :
    FnOk P w K mg base CX (k+1) f (PySem.W.fnOf name qual params body scope dV kV doc pm an cdv ct) ps sp:=by
  refine⟨len,fun A outer s H args us vs Q E hr e0 hb r hsp=>?_⟩
  have hl:=len _ _ _ _ hsp
  have KX:K.In s.heap:=e0.mod.kin.keeps fun b o e=>(e0.bs b o e).1
  have lim:s.heap.NoLimit:=e0.mod.nolimit.keeps fun b o e=>(e0.bs b o e).1
  have hkind:∀y∈ps.zip us,scope.names.lookup y.1=some .local \/ (scope.names.lookup y.1=some .cell/\((cellsFrom (s.heap.objs.size+1) scope.names []).lookup y.1).isSome=true):=fun⟨n,v⟩ hy=>by
   rcases S.par n (List.of_mem_zip hy).1 with q | q
   · exact .inl q
   · exact .inr ⟨q,PySem.W.cellsFrom_some _ _ _ (.inl q)⟩
  refine codeAny_call_function hr.depth (KX _ _ lk) rfl S.co S.gen rfl (PySem.W.codeRec_of KX hcd) (hb _ _ _ _ ?_)
  refine wpAny_newFunctionEnv_cells S.kind hkind fun env he s1 x=>?_
  subst he
  refine⟨lim.keeps x.toInCall.keep,codeAny_func ?_⟩
  obtain⟨t,ht,hq⟩:=hbody A outer s H vs Q E (hr.deeper _) hsp
  have I:Inv (cxOf CX P w K mg base N qual scope f cdv A outer s H E) [] (start N vs) H s1:=inv_start S hr.hd e0 hl r x
  refine wpAny_mono (ht [] s1 (start N vs) H _ I hq) (fun fl s' hs=>?_) fun e s' hs=>hs
  have fin:∀ {σ':St} {H':Hp} {v:V} {u:Value},Inv (cxOf CX P w K mg base N qual scope f cdv A outer s H E) [] σ' H' s'->RelV v u->Q v H'->CE outer P w H s Q u s':=
   fun {σ' H' v u} J rv q=>⟨v,H',J.os,J.bare,J.base,J.hok,rv,q⟩
  cases fl with
  | ret u=>
    obtain⟨v,σ',H',J,rv,q⟩:=hs
    exact fin J rv q
  | next=>
    obtain⟨σ',H',J,q⟩:=hs
    exact fin (v:=V.non) (u:=Value.none) J rfl q
  | brk=>
    obtain⟨_,_,_,q⟩:=hs
    exact False.elim q
  | cont=>
    obtain⟨_,_,_,q⟩:=hs
    exact False.elim q
end L2
namespace L2
open PySem PySem.Spec PyProof.Rows
section
variable {X:Cx} {x:Str} {p pos:Pos} {e:Expr} {es:List Expr} {t:TA} {id T:String} {r:List V->Hp->VK->Prop}
def tCB (r:List V->Hp->VK->Prop) (t:TA):TE:=fun σ H Q=>t σ H fun vs H1=>r vs H1 Q
theorem pe_callB (hc:CallR X (.builtin id) r) (hg:Gl X x) (hm:X.mg x=none) (hv:bootBuiltins x=some (.builtin id)) (ha:PA X (e::es) t) (hn:x ≠ "__name__":=by decide) (hdb:(x == ("__debug__" : Str))=false:=by decide)
    (he:starEach (e::es) X.env=(false,eval e X.env)::starEach es X.env:=by rfl) (hpl:(backTo pos (starEach es X.env)).any (·.1)=false:=by rfl):PE X (.Call (.Name x p) (e::es) [] pos) (tCB r t):=by
  intro pins s σ H Q I h
  refine wpAny_Call_Name_kw (ld_blt I hg hm hv ?_ hn hdb)
  exact PyProof.Rows.callWith_builtin1 (thn (ha pos pins s σ H _ I h) fun us s1 ⟨vs,H1,I1,r1,q1⟩=>hc pins s1 σ H1 vs us Q I1 r1 q1) he hpl
end
end L2
namespace HT
open PySem PyProof.Rows
section
open PySem.SeqAt
open PySem.AutoSeq1 (wpAny_loadPart')
open PySem.MeetsSeq PySem.MeetsSeq2 PySem.MeetsSeq3
end
section
variable {prog:Program} {w:World} {A:Around} {E:Value->Shared->Prop} {s:Shared}
end
end HT
namespace L2
open PySem PySem.Spec PyProof.Rows
section
variable {X:Cx} {e:Expr} {te:TE} {lo hi:Option Expr} {tl th:TO} {pos p2:Pos}
end
end L2
namespace L2
open PySem PySem.Spec PyProof.Rows
def ixN (n:Nat) (i:Int):Option Nat:=if 0<=i then (if i<n then some i.toNat else none) else if -(n:Int)<=i then some (i+n).toNat else none
def atI {α : Type} (xs:List α) (i:Int):Option α:=(ixN xs.length i).bind fun j=>xs[j]?
theorem ixN_seq {n:Nat} {i:Int} {j:Nat} (h:ixN n i=some j):seqIndex? i n=some j/\j<n /\ -(n:Int)<=i/\i<n:=by
 unfold ixN at h
 by_cases h0:0<=i
 · rw [if_pos h0] at h
   by_cases h1:i<n
   · rw [if_pos h1] at h
     have e:i.toNat=j:=Option.some.inj h
     exact⟨by rw [seqIndex_of h0 h1,e],by omega,by omega,h1⟩
   · rw [if_neg h1] at h; cases h
 · rw [if_neg h0] at h
   by_cases h1 : -(n:Int)<=i
   · rw [if_pos h1] at h
     have e:(i+n).toNat=j:=Option.some.inj h
     exact⟨by rw [seqIndex_neg (by omega) h1,e],by omega,h1,by omega⟩
   · rw [if_neg h1] at h; cases h
theorem atI_get {α : Type} {xs:List α} {i:Int} {v : α} (h:atI xs i=some v):∃j,seqIndex? i xs.length=some j/\xs[j]? = some v/\j<xs.length /\ -(xs.length:Int)<=i/\i<xs.length:=by
 unfold atI at h
 cases e:ixN xs.length i with
 | none=>rw [e] at h; cases h
 | some j=>
   rw [e] at h
   obtain⟨h1,h2,h3,h4⟩:=ixN_seq e
   exact⟨j,h1,h,h2,h3,h4⟩
theorem atI_nat {α : Type} {xs:List α} {j:Nat} {v : α} (h:xs[j]? = some v):atI xs (j:Int)=some v:=by
 have hj:j<xs.length:=(List.getElem?_eq_some_iff.mp h).1
 have e:ixN xs.length (j:Int)=some j:=by
  unfold ixN
  rw [if_pos (by omega),if_pos (by omega)]; simp
 unfold atI; rw [e]; exact h
def PlainIx (b:Expr):Prop:=∀o i,subscripted b false o i=operate [o,i] (getItem o i)
def IxR (X:Cx) (r:R2):Prop:=
 ∀ (value slice:Expr) (pins:List (Addr × Obj)) (s:Shared) (σ : St) (H:Hp) (x y:V) (v u:Value) (Q:VK),Inv X pins σ H s->RelV x v->RelV y u->r x y H Q ->
   subscripted slice false v u=operate [v,u] (getItem v u)->wpAny (model X.prog X.w) X.A (subscriptTail value slice v u) (EP X pins σ Q) X.xe s
section
variable {X:Cx} {a b:Expr} {ta tb:TE} {pos:Pos}
theorem IxR.or {r r':R2} (h:IxR X r) (h':IxR X r'):IxR X (fun x y H Q=>r x y H Q \/ r' x y H Q):=by
 intro value slice pins s σ H x y v u Q I rx ry q hs
 rcases q with q | q
 · exact h value slice pins s σ H x y v u Q I rx ry q hs
 · exact h' value slice pins s σ H x y v u Q I rx ry q hs
theorem pe_ix {r:R2} (hr:IxR X r) (ha:PE X a ta) (hb:PE X b tb) (hs:PlainIx b):PE X (.Subscript a b pos) (tOp r ta tb):=by
 intro pins s σ H Q I h
 exact Subscript_ (binT ha hb I h fun v u s2 x y H2 I2 rx ry q=>hr a b pins s2 σ H2 x y v u Q I2 rx ry q (hs _ _))
inductive IrIxL (K:PySem.W.Frag) (x:V) (y:V) (H:Hp) (Q:VK):Prop
  | mk (p:_) (xs:_) (i:_) (v:_) (h0:x = .ref p) (h1:y = .int i) (h2:SqL K H p xs) (h3:atI xs i=some v) (h4:Q v H):IrIxL K x y H Q
def rIxL (K:PySem.W.Frag):R2:=fun x y H Q=>IrIxL K x y H Q
inductive IrIxT (K:PySem.W.Frag) (x:V) (y:V) (H:Hp) (Q:VK):Prop
  | mk (p:_) (xs:_) (i:_) (v:_) (h0:x = .ref p) (h1:y = .int i) (h2:SqT K H p xs) (h3:atI xs i=some v) (h4:Q v H):IrIxT K x y H Q
def rIxT (K:PySem.W.Frag):R2:=fun x y H Q=>IrIxT K x y H Q
theorem ix_list:IxR X (rIxL X.K):=by
 intro value slice pins s σ H x y v u Q I rx ry h hs
 obtain⟨p,xs,i,z,rfl,rfl,hq,he,q⟩:=h
 cases rx
 obtain⟨t,rfl⟩:=ry
 obtain⟨its,r,pl,hz⟩:=I.list hq
 obtain⟨j,h1,h2,h3,h4,h5⟩:=atI_get he
 obtain⟨w,ew,rw'⟩:=r.get h2
 have hl:=r.length
 have hn:=line63
 have fin:EP X pins σ Q w s:=⟨z,H,I,rw',q⟩
 by_cases h0:0<=i
 · have hj:i.toNat=j:=by
     rw [seqIndex_of h0 h5] at h1
     exact Option.some.inj h1
   exact item_listR pl.isList h0 (by omega) (by rw [hj]; simpa using ew) fin hs
 · have hj:(i+(its.toArray.size:Int)).toNat=j:=by
     rw [seqIndex_neg (by omega) h4] at h1
     rw [List.size_toArray,<- hl]
     exact Option.some.inj h1
   exact subscriptTail_builtinR (x:=w) pl.isList.typeIs slot_list_getitem.lookup
     (wpAny_getItem_list_neg (Q:=fun r s'=>r=w/\EP X pins σ Q r s') pl.isList (by omega) (by rw [List.size_toArray] <;> omega) (by omega) (by rw [hj]; simpa using ew) ⟨rfl,fin⟩) hs
theorem ix_tup:IxR X (rIxT X.K):=by
 intro value slice pins s σ H x y v u Q I rx ry h hs
 obtain⟨p,xs,i,z,rfl,rfl,hq,he,q⟩:=h
 cases rx
 obtain⟨t,rfl⟩:=ry
 obtain⟨its,r,pl,hz⟩:=I.tuple hq
 obtain⟨j,h1,h2,h3,h4,h5⟩:=atI_get he
 obtain⟨w,ew,rw'⟩:=r.get h2
 have hl:=r.length
 have hn:=line63
 have fin:EP X pins σ Q w s:=⟨z,H,I,rw',q⟩
 exact subscriptTail_builtinR (x:=w) pl.typeIs slot_tuple_getitem.lookup
   (getItem_tuple (j:=j) (Q:=fun r s'=>r=w/\EP X pins σ Q r s') pl (by omega) (by omega) (by rw [List.size_toArray,<- hl]; exact h1) (by simpa using ew) ⟨rfl,fin⟩) hs
theorem mapSeq_set (its:List Value) (n j:Nat) (u:Value):Obj.mapSeq (·.setIfInBounds j u) { cls:=.type "list",data:=.seq its.toArray n } = { cls:=.type "list",data:=.seq (its.set j u).toArray n }:=by
 simp [Obj.mapSeq]
theorem Inv.lst {pins:List (Addr × Obj)} {σ : St} {H:Hp} {s:Shared} {p:Addr} {xs:List V} (I:Inv X pins σ H s) (h:H p=some (.lst xs)) :
    ∃(its:List Value) (n:Nat),Vals xs its/\s.heap.get? p=some { cls:=.type "list",data:=.seq its.toArray n } /\ xs.length<=sizeLine:=by
  obtain⟨z,its,n,r,e⟩:=I.hok p _ h
  exact⟨its,n,r,e,z⟩
theorem Inv.lstUpd {pins:List (Addr × Obj)} {σ : St} {H:Hp} {s:Shared} {p:Addr} {xs ys:List V} {its its':List Value} {n n':Nat} {f:Obj->Obj} (I:Inv X pins σ H s) (h:H p=some (.lst xs))
    (ho:s.heap.get? p=some { cls:=.type "list",data:=.seq its.toArray n }) (hf:f { cls:=.type "list",data:=.seq its.toArray n } = { cls:=.type "list",data:=.seq its'.toArray n' }) (r:Vals ys its') (hz:ys.length<=sizeLine) (t:Nat) :
    Inv X pins σ (upd H p (.lst ys)) { s with heap:=s.heap.update p f,toks:=t }:=by
  have e:(s.heap.update p f).get? p=some { cls:=.type "list",data:=.seq its'.toArray n' }:=by
   rw [Heap.get?_update_self f ho (by rw [hf] <;> rfl),hf]
  refine I.write (x:=p) (e:=p) (by rw [h]; trivial) (.inl rfl) (fun b u hb q=>(Heap.get?_update_other _ _ (Ne.symm hb)).trans q) ⟨_,e⟩ ?_
  exact⟨hz,its',n',r,e⟩
inductive IrSetL (o:V) (i:V) (v:V) (H:Hp) (Q:Hp->Prop):Prop
  | mk (p:_) (xs:_) (k:_) (j:_) (h0:o = .ref p) (h1:i = .int k) (h2:H p=some (.lst xs)) (h3:ixN xs.length k=some j) (h4:Q (upd H p (.lst (xs.set j v)))):IrSetL o i v H Q
def rSetL:V->V->V->Hp->(Hp->Prop)->Prop:=fun o i v H Q=>IrSetL o i v H Q
theorem set_list:PSet X rSetL:=by
 intro pins s σ H o i v ov iv u Q I ro ri rv h
 obtain⟨p,xs,k,j,rfl,rfl,hp,hj,q⟩:=h
 cases ro
 obtain⟨t,rfl⟩:=ri
 obtain⟨its,n,r,ho,hz⟩:=I.lst hp
 obtain⟨h1,h2,h3,h4⟩:=ixN_seq hj
 have hl:=r.length
 have hn:=line63
 have I':Inv X pins σ (upd H p (.lst (xs.set j v))) { s with heap:=s.heap.update p (Obj.mapSeq (·.setIfInBounds j u)) }:=
  I.lstUpd hp ho (mapSeq_set its n j u) (r.set rv j) (by rw [List.length_set]; exact hz) s.toks
 by_cases h0:0<=k
 · have hk:k.toNat=j:=by
     rw [seqIndex_of h0 h4] at h1
     exact Option.some.inj h1
   exact PySem.W.ki_setAt ho h0 (by omega) (by rw [List.size_toArray,<- hl]; exact h4) (by rw [hk]; exact⟨_,I',q⟩)
 · have hk:(k+(its.toArray.size:Int)).toNat=j:=by
     rw [seqIndex_neg (by omega) h3] at h1
     rw [List.size_toArray,<- hl]
     exact Option.some.inj h1
   exact PySem.W.ki_setBack ho (by omega) (by rw [List.size_toArray,<- hl]; exact h3) (by omega) (by rw [hk]; exact⟨_,I',q⟩)
theorem call_len_seq:CallR X (.builtin "len") (fun xs H Q=>∃p ys,xs=[.ref p]/\(SqL X.K H p ys \/ SqT X.K H p ys)/\Q (.int ys.length) H):=by
 intro pins s σ H xs us Q I r h
 obtain⟨p,ys,rfl,hq,q⟩:=h
 obtain⟨u,rfl,rx⟩:=vals1 r
 cases rx
 have hn:=line63
 rcases hq with hq | hq
 · obtain⟨its,r',pl,hz⟩:=I.list hq
   have hlen:=r'.length
   exact Calls.call_len_list pl.isList (by simp only [List.size_toArray] <;> omega) ⟨.int ys.length,H,I.tok _,⟨s.toks+1,by rw [List.size_toArray,hlen]⟩,q⟩
 · obtain⟨its,r',pl,hz⟩:=I.tuple hq
   have hlen:=r'.length
   exact len_tuple pl (by simp only [List.size_toArray] <;> omega) ⟨.int ys.length,H,I.tok _,⟨s.toks+1,by rw [List.size_toArray,hlen]⟩,q⟩
theorem CallR.or {f:Value} {r r':List V->Hp->VK->Prop} (h:CallR X f r) (h':CallR X f r'):CallR X f (fun xs H Q=>r xs H Q \/ r' xs H Q):=by
 intro pins s σ H xs us Q I rs q
 rcases q with q | q
 · exact h pins s σ H xs us Q I rs q
 · exact h' pins s σ H xs us Q I rs q
variable {o e:Expr} {es:List Expr} {to:TE} {t:TA} {name:Str} {apos cpos:Pos} {T id:String} {r:V->List V->Hp->VK->Prop}
end
end L2
namespace L2
open PySem PySem.Spec PyProof.Rows
def MtM (X:Cx) (id:String) (r:V->List V->Hp->VK->Prop):Prop:=
 ∀ (pins:List (Addr × Obj)) (s:Shared) (σ : St) (H:Hp) (x:V) (xs:List V) (v:Value) (us:List Value) (Q:VK),Inv X pins σ H s->RelV x v->Vals xs us->r x xs H Q ->
   wpAny (model X.prog X.w) X.A (call (.builtin id) (v::us)) (EP X pins σ Q) X.xe s
theorem Vals.one:∀ {x:V} {us:List Value},Vals [x] us -> ∃u,us=[u]/\RelV x u
  | _,_,.cons r .nil=>⟨_,rfl,r⟩
section
variable {X:Cx} {pins:List (Addr × Obj)} {σ : St} {H:Hp} {s:Shared} {l b:Addr} {xs ys zs:List V}
theorem Inv.lset {its its':List Value} {n:Nat} {f:Array Value->Array Value} {t':Nat} (I:Inv X pins σ H s) (hH:H l=some (.lst xs))
    (e:s.heap.get? l=some { cls:=.type "list",data:=.seq its.toArray n }) (hf:f its.toArray=its'.toArray) (hv:Vals ys its') (hz:ys.length<=sizeLine) :
    Inv X pins σ (upd H l (.lst ys)) { s with heap:=s.heap.update l (Obj.mapSeq f),toks:=t' }:=by
  have q:=PySem.IsL.update e f
  rw [hf] at q
  refine I.write (x:=l) (e:=l) (by rw [hH]; exact trivial) (.inl rfl) (fun b' u hb hu=>(Heap.get?_update_other s.heap (Obj.mapSeq f) (Ne.symm hb)).trans hu) ⟨_,q⟩ ?_
  exact⟨hz,its',_,hv,q⟩
theorem Inv.lnew {its:List Value} {t':Nat} (I:Inv X pins σ H s) (hv:Vals ys its) (hz:ys.length<=sizeLine) :
    Inv X pins σ (upd H s.heap.objs.size (.lst ys)) { s with heap:=s.heap.push { cls:=.type "list",data:=.seq its.toArray },toks:=t' }:=
  I.laid (fun _ _ q=>Heap.get?_push_of_some _ q) (Nat.le_refl _) ⟨hz,its,0,hv,Heap.get?_push_size _ rfl⟩
theorem Inv.lstM (I:Inv X pins σ H s) (hH:H l=some (.lst xs)):xs.length<=sizeLine /\ ∃(its:List Value) (n:Nat),Vals xs its/\xs.length=its.length/\s.heap.get? l=some { cls:=.type "list",data:=.seq its.toArray n }:=by
 obtain⟨z,its,n,r,e⟩:=I.hok l _ hH
 exact⟨z,its,n,r,r.length,e⟩
end
section
variable {X:Cx}
inductive IrAppend (x:V) (vs:List V) (H:Hp) (Q:VK):Prop
  | mk (l:_) (xs:_) (y:_) (h0:x = .ref l) (h1:vs=[y]) (h2:H l=some (.lst xs)) (h3:xs.length<sizeLine) (h4:Q .non (upd H l (.lst (xs++[y])))):IrAppend x vs H Q
def rAppend:V->List V->Hp->VK->Prop:=fun x vs H Q=>IrAppend x vs H Q
theorem mt_append:MtM X "list.append" rAppend:=by
 intro pins s σ H x vs v us Q I rx rv h
 obtain⟨l,xs,y,rfl,rfl,hH,hz,q⟩:=h
 cases rx
 obtain⟨u,rfl,ru⟩:=rv.one
 obtain⟨z,its,n,r,hl,e⟩:=I.lstM hH
 refine call_meets F.slot_list_append ⟨_,e,rfl⟩ F.entry_list_append (F.args_list_append_2 _ _) (PySem.list_append l its.toArray n u (by rw [List.size_toArray]; omega)) ⟨e,?_⟩
 refine⟨.non,_,I.lset (its':=its++[u]) hH e (by simp) (r.append (.cons ru .nil)) ?_,rfl,q⟩
 rw [List.length_append,List.length_singleton]
 omega
end
section
variable {prog:Program} {w:World} {A:Around} {E:Value->Shared->Prop} {s:Shared}
end
section
variable {X:Cx}
end
end L2
namespace Att
open PySem PySem.W PySem.Calls PyProof.Rows
theorem ints_of_wellAll {P:Params} {h:Heap}:∀(ns:List Int) (vs:List Value),WellAll P h vs (ns.map WData.int)->IntsAre vs ns:=by
 intro ns
 induction ns with
 | nil=>
   intro vs w
   rw [List.map_nil] at w
   cases w
   exact .nil
 | cons n ns ih=>
   intro vs w
   rw [List.map_cons] at w
   cases w with
   | cons a b=>
     cases a
     exact .cons _ _ (ih _ b)
theorem script_of {l:OpenLaw} {n:Nat} (hn:l.most=some n) {P:Params} {h:Heap} {args:List WData} {vals:List Value}
    (hpre:l.row.toRowW.claim.pre args=true) (hwl:WellAll P h vals args) :
    ∃a vs ns,vals=[Value.ref a]/\args=[WData.list (ns.map WData.int)]/\h.get? a=some { cls:=.type "list",data:=.seq vs.toArray } /\ IntsAre vs ns/\ns.length<=n:=by
  have hsh:WShape.hasAll [] args [.list .int]=true:=(pre_splitW hpre).1
  have hc:l.pre.holds [] { args:=args } = true:=(pre_splitW hpre).2
  obtain⟨d,r,rfl,h1,h2⟩:=hasAllW_cons hsh
  obtain rfl:=hasAllW_nil h2
  obtain⟨xs,rfl,h3⟩:=hasW_list h1
  obtain⟨ns,rfl⟩:=items_int h3
  have hlen:ns.length<=n:=by
   unfold OpenLaw.pre at hc
   have h4:(WTm.not (.lt (.lit (.int (n:Int))) (.len (.arg 0)))).holds [] { args:=[.list (ns.map .int)] } = true:=by
    have h4:=(holds_andW hc).1
    rw [hn] at h4
    exact h4
   have h5:=condW_of h4 (w_not (w_lt w_lit (w_len_list (w_arg rfl))))
   rw [List.length_map] at h5
   refine Nat.le_of_not_lt fun q=>?_
   have q':(n:Int)<((ns.length:Nat):Int):=by omega
   first
     | (rw [decide_eq_true q'] at h5; exact absurd h5 (by decide))
     | (simp at h5; omega)
  cases hwl with
  | cons w1 w2=>
    cases w2
    cases w1 with
    | list ho hall=>exact⟨_,_,ns,rfl,rfl,ho,ints_of_wellAll ns _ hall,hlen⟩
theorem post_true (l:OpenLaw) (args:List WData):l.row.toRowW.claim.post args (.bool true) args=true:=
 postW_of (r:=l.row.toRowW) (X:=(true == true))
   (show WShape.has [] (.bool true) .bool=true by first | rfl | decide | simp [WShape.has,WShape.arms,WShape.armsAll])
   (show (WTm.eq .res (.lit (.bool true))).value [] { args:=args,res:=some (.bool true),after:=args } = some (.bool (true == true)) from w_eq_bool (w_res rfl) w_lit) rfl
theorem attach_call {l:OpenLaw} {n:Nat} {q:Program} {loose:List Str} {XP:(Str->Option Value)->Heap->Prop} {YP:World->Heap->Prop} {d:DefRec}
    (hn:l.most=some n) (hdf:d.params.defaults=[])
    (call:∀(w:World) (s₀ s₁ : Shared) (mg mb:Str->Option Value) (fa:Addr) (o:Obj) (pm cd doc:Value) (a:Addr) (vs:List Value) (ns:List Int),
      Ground q loose [] XP w s₀ mg mb s₁.heap->YP w s₁.heap ->
      s₁.heap.get? fa=some o->o.data = .func (docDef d.name d.params d.body d.scope pm cd doc)->s₁.heap.CodeRec cd d.name->mg d.name=some (.ref fa) ->
      s₁.heap.get? a=some { cls:=.type "list",data:=.seq vs.toArray } -> IntsAre vs ns->ns.length<=n->s₁.gens = #[] ->
      codeAny (model l.prog w) callerA (.call (.ref fa) ⟨[.ref a],[]⟩) (fun r s'=>r = .ok (.ret (.bool true))/\OldK s₁.heap s'.heap/\s'.os=s₁.os/\AllBare s'.gens) s₁) :
    WalkO q loose XP YP l.row.toRowW d [] (fun f vs=>PySem.call f vs):=by
  intro w s₀ s₁ mg mb G Y fa o pm cd doc dV kV ho hd hcd hD hmg hg args vals as hpre hlay hrd hwl hlo
  obtain rfl:dV = .none:=Dflts.none hD hdf
  obtain rfl:kV = .none:=Dflts.noKw hD
  obtain⟨a,vs,ns,rfl,rfl,hobj,hints,hlen⟩:=script_of hn hpre hwl
  refine enter_call (codeAny_mono (call w s₀ s₁ mg mb fa o pm cd doc a vs ns G Y ho (fd_plain hd) hcd hmg hobj hints hlen hg) fun r s' hq=>?_)
  obtain⟨rfl,h2,h3,h4⟩:=hq
  exact⟨.inl ⟨.bool true,.bool true,[],rfl,fun _=>rfl,.bool true,post_true l _,fun _=>⟨List.Pairwise.nil,fun _ hm=>(nomatch hm)⟩⟩,h2,h3,h4⟩
section
variable {prog:Program} {w:World} {A:Around} {E:Value->Shared->Prop} {s:Shared} {K:Frag}
end
end Att
namespace L2
open PySem PySem.Spec PyProof.Rows
theorem vals_ints:∀ {vs:List Value} {ns:List Int},IntsAre vs ns->Vals (ns.map V.int) vs
  | _,_,.nil=>.nil
  | _,_,.cons n t h=>.cons ⟨t,rfl⟩ (vals_ints h)
def Only (H:Hp):Prop:=∀b,H b=none \/ ∃o xs,H b=some (.frz o (.lst xs))
theorem law_call {P:Program} {w:World} {K:PySem.W.Frag} {mg mb:Str->Option Value} {CX:CXT} {k:Nat} {fa a:Addr} {fd:FuncData} {x:Str} {sp:Sp} {s₁ : Shared} {vs:List Value} {ns:List Int}
    (KX:K.In s₁.heap) (hns:s₁.heap.Ns mainGlobals mg) (hb:s₁.heap.Ns builtinsNs mb) (hbb:∀x:Str,x ≠ "__name__" -> mb x=bootBuiltins x) (hlim:s₁.heap.NoLimit) (hg:s₁.gens = #[])
    (ha:s₁.heap.get? a=some { cls:=.type "list",data:=.seq vs.toArray }) (hi:IntsAre vs ns) (hl:ns.length<=sizeLine) (hr:Room k callerA)
    (F:∀base:Heap,K.In base->base.Ns mainGlobals mg->FnOk P w K mg base CX k fa fd [x] sp) (hbind:∀(s:Shared) (u:Value),BindsTo s fd ⟨[u],[]⟩ [(x,u)])
    (hsp:∀H:Hp,Only H->SqL K H a (ns.map V.int)->sp [.ref a] H (fun v _=>v = .bl true) fun _ _ _=>False)
    (hCX:∀H e s',CX [] H s₁ (fun _ _ _=>False) e s'->False) :
    codeAny (model P w) callerA (.call (.ref fa) ⟨[.ref a],[]⟩) (fun r s'=>r = .ok (.ret (.bool true))/\OldK s₁.heap s'.heap/\s'.os=s₁.os/\AllBare s'.gens) s₁:=by
  have rv:=vals_ints hi
  have lenV:=hi.length
  have core:∀H:Hp,Only H->SqL K H a (ns.map V.int)->HOk P w H s₁.heap->(∀b,H b≠none->b=a)->(H a≠none->K.lookup a=none) ->
      codeAny (model P w) callerA (.call (.ref fa) ⟨[.ref a],[]⟩) (fun r s'=>r = .ok (.ret (.bool true))/\OldK s₁.heap s'.heap/\s'.os=s₁.os/\AllBare s'.gens) s₁:=by
    intro H hO hS hok hA hK
    have base_of:∀ {b:Addr} {o:Obj},s₁.heap.get? b=some o->H b=none->(hidT s₁.heap H).get? b=some o:=fun e n=>hidT_get e n
    have noA:∀ {b:Addr} {o:Obj} {es:Array DictEntry} {ep:Nat},s₁.heap.get? b=some o->o.data = .dict es ep->H b=none:=fun {b o es ep} e d=>by
     cases q:H b with
     | none=>rfl
     | some u=>
       have e':b=a:=hA b (by rw [q]; simp)
       subst e'
       rw [ha] at e; cases e
       have d':Data.seq vs.toArray _=Data.dict es ep:=d
       cases d'
    have nsK:∀ {b:Addr} {m:Str->Option Value},s₁.heap.Ns b m->(hidT s₁.heap H).Ns b m:=fun {b m} ⟨o,es,ep,e,d,r⟩=>⟨o,es,ep,base_of e (noA e d),d,r⟩
    have hKb:K.In (hidT s₁.heap H):=fun b o e=>base_of (KX b o e) (by
     cases q:H b with
     | none=>rfl
     | some u=>
       have e':b=a:=hA b (by rw [q]; simp)
       subst e'
       rw [hK (by rw [q]; simp)] at e; cases e)
    have hM:Mod K mg (hidT s₁.heap H):=⟨hKb,nsK hns,⟨mb,nsK hb,hbb⟩,let ⟨mc,h1,h2⟩:=hlim; ⟨mc,nsK h1,h2⟩⟩
    have e0:Env0 P w K mg (hidT s₁.heap H) callerA [] s₁ H:=⟨rfl,hM,fun b o e=>of_hidT e,Nat.le_of_eq (hidT_size _ _),trivial,fun b hb=>absurd (show b∈([]:List Addr) from hb) (by simp),hok,.of_eq hg⟩
    refine codeAny_mono ((F _ hKb (nsK hns)).run callerA [] s₁ H ⟨[.ref a],[]⟩ [.ref a] [.ref a] _ _ hr e0 (hbind s₁ (.ref a)) (.cons rfl .nil) (hsp H hO hS)) fun r s' h=>?_
    cases r with
    | error e=>exact (hCX H e s' h).elim
    | ok fl=>
      cases fl with
      | next=>exact False.elim h
      | brk=>exact False.elim h
      | cont=>exact False.elim h
      | ret u=>
        obtain⟨v,H',os,bare,un,hok',r',q⟩:=h
        have q':v = .bl true:=q
        subst q'
        obtain rfl:u=Value.bool true:=r'
        refine⟨rfl,OldK.of_keep fun b o e=>?_,os,bare⟩
        cases q:H b with
        | none=>exact un.keep b o e q (by intro z; exact absurd (show b∈([]:List Addr) from z) (by simp)) (by simp)
        | some u=>
          rcases hO b with z | ⟨ob,xs,z⟩
          · rw [q] at z; cases z
          · have z2:=un.frzs b ob _ z
            obtain⟨e1,_⟩:=hok b _ z
            obtain⟨e2,_⟩:=hok' b _ z2
            rw [e] at e1; cases e1
            exact e2
  cases hk:K.lookup a with
  | some o=>
    have e:=KX a o hk
    rw [ha] at e
    cases e
    refine core (fun _=>none) (fun _=>.inl rfl) (.inr ⟨_,vs.toArray,_,hk,rfl,rfl,rfl,by rw [List.size_toArray,lenV]; exact hl,by simpa using rv⟩) (fun b u z=>by have z':(none:Option HO)=some u:=z; cases z') (fun b z=>absurd rfl z) fun z=>absurd rfl z
  | none=>
    refine core (fun b=>if b=a then some (.frz { cls:=.type "list",data:=.seq vs.toArray } (.lst (ns.map V.int))) else none) (fun b=>?_) (.inl (.inr ⟨{ cls:=.type "list",data:=.seq vs.toArray },if_pos rfl⟩)) (fun b u z=>?_) (fun b z=>?_) fun _=>hk
    · by_cases hb:b=a
      · exact .inr ⟨_,_,if_pos hb⟩
      · exact .inl (if_neg hb)
    · by_cases hb:b=a
      · have z':=(if_pos hb).symm.trans z
        cases z'
        subst hb
        exact⟨ha,by rw [List.length_map]; exact hl,vs,_,rv,ha⟩
      · have z':=(if_neg hb).symm.trans z
        cases z'
    · by_cases hb:b=a
      · exact hb
      · exact absurd (if_neg hb) z
end L2
namespace L2
open PySem PySem.Spec PyProof.Rows
theorem walk_of {l:PySem.W.OpenLaw} {n k:Nat} {q:Program} {loose:List Str} {XP:(Str->Option Value)->Heap->Prop} {YP:World->Heap->Prop} {d:DefRec} {K:Params->PySem.W.Frag} {CX:World->CXT} {sp:World->Sp} {x:Str}
    (hn:l.most=some n) (hn2:n<=sizeLine) (hdf:d.params.defaults=[]) (hr:Room k callerA)
    (hY:∀(w:World) (h:Heap),YP w h->(K w.params).In h)
    (F : ∀(w:World) (mg:Str->Option Value) (fa:Addr) (h:Heap),(K w.params).In h->h.Ns mainGlobals mg->mg d.name=some (.ref fa) ->
      ∃ fd:FuncData,(∀(s:Shared) (u:Value),BindsTo s fd ⟨[u],[]⟩ [(x,u)]) /\
        ∀base:Heap,(K w.params).In base->base.Ns mainGlobals mg->FnOk l.prog w (K w.params) mg base (CX w) k fa fd [x] (sp w))
    (hsp:∀(w:World) (H:Hp) (a:Addr) (ns:List Int),ns.length<=n->Only H->SqL (K w.params) H a (ns.map V.int)->sp w [.ref a] H (fun v _=>v = .bl true) fun _ _ _=>False)
    (hCX:∀(w:World) (H:Hp) (s:Shared) (e:Value) (s':Shared),CX w [] H s (fun _ _ _=>False) e s'->False) :
    PySem.W.WalkO q loose XP YP l.row.toRowW d [] (fun f vs=>PySem.call f vs):=by
  refine Att.attach_call hn hdf fun w s₀ s₁ mg mb fa o pm cd doc a vs ns G Y ho hd hcd hmg hobj hints hlen hg=>?_
  have KX:=hY w _ Y
  obtain⟨fd,hb,hF⟩:=F w mg fa _ KX G.T.g hmg
  exact law_call KX G.T.g G.T.b G.T.builtins G.T.nolimit hg hobj hints (Nat.le_trans hlen hn2) hr hF hb (fun H hO hS=>hsp w H a ns hlen hO hS) fun H e s'=>hCX w H s₁ e s'
end L2
namespace L2
open PySem PySem.Spec PyProof.Rows
def defArgs (s:Stmt):Arguments:=match s with
 | .FunctionDef _ a _ _ _ _ _ _ _ _=>a
 | _=>{ posonlyargs:=[],args:=[],vararg:=none,kwonlyargs:=[],kw_defaults:=[],kwarg:=none,defaults:=[] }
def defBody (s:Stmt):List Stmt:=match s with
 | .FunctionDef _ _ b _ _ _ _ _ _ _=>b
 | _=>[]
def defScope (s:Stmt):Scope:=match s with
 | .FunctionDef _ _ _ _ _ _ sc _ _ _=>sc
 | _=>{ kind:=.function,names:=[],isGenerator:=false,isCoroutine:=false }
abbrev CX0:CXT:=fun _ _ _ _ _ _=>False
abbrev E0:XK:=fun _ _ _=>False
theorem pass0 {X:Cx}:Passes CX0 X E0:=fun _ _ _ _ _ _ _ h=>h.elim
structure Fun (K:PySem.W.Frag) (x qual:Str) (st:Stmt) (f:Addr) (fd:FuncData):Prop where
 ex : ∃(oc:Value) (od:Option Addr) (kV doc pm:Value) (an:Option Addr) (cdv ct:Value) (osl:Array (Option Value)),
   fd=PySem.W.fnOf x qual (defArgs st) (defBody st) (defScope st) .none kV doc pm an cdv ct/\K.lookup f=some ⟨oc,od,.func fd,osl⟩/\PySem.W.codeIn K cdv qual=true
 kp:PySem.W.keepIn K (.ref f)=true
section
variable {P:Program} {w:World} {K:PySem.W.Frag} {mg:Str->Option Value} {base:Heap}
theorem Fun.ok {x qual:Str} {st:Stmt} {f:Addr} {fd:FuncData} {N ps:List Str} {k:Nat} {sp:Sp} (F:Fun K x qual st f fd) (S:FnScope N ps (defScope st)) (len:∀vs H Q E,sp vs H Q E->vs.length=ps.length)
    (hbody:∀(cdv:Value) (A:Around) (outer:List Env) (s:Shared) (H:Hp) (vs:List V) (Q:VK) (E:XK),Room k (A.deeper (envOfC qual (defScope st) s.heap.objs.size f cdv))->sp vs H Q E ->
      ∃t,PSs (cxOf CX0 P w K mg base N qual (defScope st) f cdv A outer s H E).nox (defBody st) t/\t { nx:=fun _ H'=>Q .non H',rt:=Q } (start N vs) H):FnOk P w K mg base CX0 (k+1) f fd ps sp:=by
  obtain⟨oc,od,kV,doc,pm,an,cdv,ct,osl,rfl,lk,hcd⟩:=F.ex
  refine fn_of lk hcd S len fun A outer s H vs Q E hr hsp=>?_
  obtain⟨t,h,q⟩:=hbody cdv A outer s H vs Q E hr hsp
  exact⟨t,h.nox,q⟩
theorem Fun.binds {x qual:Str} {st:Stmt} {f:Addr} {fd:FuncData} {ps:List Str} (F:Fun K x qual st f fd)
    (h:∀(kV doc pm:Value) (an:Option Addr) (cdv ct:Value) (us:List Value),us.length=ps.length->bindArgs (PySem.W.fnOf x qual (defArgs st) (defBody st) (defScope st) .none kV doc pm an cdv ct) ⟨us,[]⟩=pure (ps.zip us)):Binds K fd ps []:=by
  obtain⟨oc,od,kV,doc,pm,an,cdv,ct,osl,rfl,lk,hcd⟩:=F.ex
  exact .all (h kV doc pm an cdv ct)
theorem fun_mk {x qual:Str} {st:Stmt} {f:Addr} {oc:Value} {od an:Option Addr} {osl:Array (Option Value)} {kV doc pm cdv ct:Value} (l:K.lookup f=some ⟨oc,od,.func (PySem.W.fnOf x qual (defArgs st) (defBody st) (defScope st) .none kV doc pm an cdv ct),osl⟩)
    (c:PySem.W.codeIn K cdv qual=true) (k:PySem.W.keepIn K (.ref f)=true):Fun K x qual st f (PySem.W.fnOf x qual (defArgs st) (defBody st) (defScope st) .none kV doc pm an cdv ct):=⟨⟨oc,od,kV,doc,pm,an,cdv,ct,osl,rfl,l,c⟩,k⟩
end
theorem small1000 {n:Nat} (h:n<=1000):n<sizeLine:=Nat.lt_of_le_of_lt h (by decide)
section
variable {X:Cx}
theorem pv (i:Nat) {x:Str} {pos:Pos} (hN:X.N[i]? = some x:=by rfl) (hv:Vis X.env.scope x:=by first | exact Or.inl rfl | exact Or.inr (Or.inl rfl) | exact Or.inr (Or.inr rfl)) (hd:(x == ("__debug__" : Str))=false:=by decide)
    (hcd:(x == ("__classdict__" : Str))=false:=by decide):PE X (.Name x pos) (tVar i):=pe_var hN hv hd hcd
end
theorem iteF {A B:Prop} (h:B):if false=true then A else B:=by
 rw [if_neg Bool.false_ne_true]
 exact h
theorem iteT {A B:Prop} (h:A):if true=true then A else B:=by
 rw [if_pos rfl]
 exact h
theorem ite2 {c A B:Prop} [Decidable c] (h1:c->A) (h2:¬c->B):if c then A else B:=by
 by_cases h:c
 · rw [if_pos h]
   exact h1 h
 · rw [if_neg h]
   exact h2 h
def Same (H H':Hp):Prop:=∀b o,H b=some o->H' b=some o
theorem Same.refl (H:Hp):Same H H:=fun _ _ h=>h
theorem Same.trans {H H1 H2:Hp} (a:Same H H1) (b:Same H1 H2):Same H H2:=fun c o h=>b c o (a c o h)
theorem Same.seq {K:PySem.W.Frag} {H H':Hp} {a:Addr} {xs:List V} (e:Same H H') (h:SqL K H a xs):SqL K H' a xs:=by
 rcases h with (h | ⟨o,h⟩) | h
 · exact .inl (.inl (e _ _ h))
 · exact .inl (.inr ⟨o,e _ _ h⟩)
 · exact .inr h
end L2
set_option Elab.async false
set_option linter.all false
set_option maxRecDepth 100000
namespace L2
open PySem PySem.Spec PyProof.Rows
def Wd (i:Int):Prop:=i.natAbs<2^5000
theorem Wd.bits {i:Int} (h:Wd i):Builtin.Int.intBits i<=2^20:=
 Nat.le_trans (PyProof.Rows.intBits_le h) (by decide)
theorem Wd.log {i:Int} (h:Wd i):i.natAbs.log2<9000:=by
 by_cases e:i.natAbs=0
 · rw [e]; decide
 · have h1:i.natAbs.log2<5000:=(Nat.log2_lt e).mpr h
   omega
section
variable {X:Cx}
theorem op_fdivW:OpR X (binaryOp .FloorDiv) (rI (fun _ j=>0<j/\Wd j) fun i j=>.int (i / j)):=opI fun i j _ _ _ _ _ hc q=>by
 have h1:(0:Int)<j:=hc.1
 exact floordiv_int (by omega) (by rw [Int.fdiv_eq_ediv_of_nonneg i (by omega)]; exact q) (.inl (PyProof.noPylong_of_log2 hc.2.log))
theorem op_fdivNW:OpR X (binaryOp .FloorDiv) (rI (fun _ j=>j≠0/\Wd j) fun i j=>.int (i.fdiv j)):=opI fun _ _ _ _ _ _ _ hc q=>floordiv_int hc.1 q (.inl (PyProof.noPylong_of_log2 hc.2.log))
end
def TyN (K:PySem.W.Frag) (H:Hp) (x:V) (T:String):Prop:=
 match x with
 | .non=>T = "NoneType"
 | .bl _=>T = "bool"
 | .int _=>T = "int"
 | .str _=>T = "str"
 | .ref a=>(T = "list" /\ ∃xs,SqL K H a xs) \/ (T = "tuple" /\ ∃xs,SqT K H a xs)
 | _=>False
def tyIs (T n:String):Bool:=T == n || (T == "bool" && n == "int")
def tyNames:List String:=["NoneType","bool","int","str","list","tuple"]
def tyWords:List String:=["bool","int","str","list","tuple"]
theorem kit_ty {K:PySem.W.Frag} {T n:String} (h1:T∈tyNames) (h2:n∈tyWords):PySem.W.kitOne K (.type T) (.type n)=some (tyIs T n):=by
 have all:tyNames.all (fun T=>tyWords.all fun n=>PySem.W.kitOne [] (.type T) (.type n) == some (tyIs T n))=true:=by decide +kernel
 have a1:=List.all_eq_true.mp all T h1
 have a2:=List.all_eq_true.mp a1 n h2
 have e:PySem.W.kitOne K (.type T) (.type n)=PySem.W.kitOne [] (.type T) (.type n):=by
  unfold PySem.W.kitOne PySem.W.kitCls PySem.W.subIn
  rfl
 rw [e]
 exact beq_iff_eq.mp a2
section
variable {X:Cx}
theorem TyN.mem {K:PySem.W.Frag} {H:Hp} {x:V} {T:String} (h:TyN K H x T):T∈tyNames:=by
 cases x with
 | non=>cases (show T = "NoneType" from h); decide
 | bl b=>cases (show T = "bool" from h); decide
 | int b=>cases (show T = "int" from h); decide
 | str b=>cases (show T = "str" from h); decide
 | ref a=>rcases (show (T = "list" /\ ∃xs,SqL K H a xs) \/ (T = "tuple" /\ ∃xs,SqT K H a xs) from h) with ⟨e,_⟩ | ⟨e,_⟩ <;> cases e <;> decide
 | _=>exact (show False from h).elim
theorem kit_of {pins:List (Addr × Obj)} {s:Shared} {σ : St} {H:Hp} {x:V} {u:Value} {T:String} (I:Inv X pins σ H s) (rx:RelV x u) (ty:TyN X.K H x T) :
    ∃P:Heap->Prop,PySem.W.KitX X.K u (.type T) P/\P s.heap/\u ≠ .builtin "__main__.__loader__#opaque":=by
  cases x with
  | non=>cases (show T = "NoneType" from ty); cases (show u=Value.none from rx); exact⟨_,PySem.W.kitx_none,True.intro,fun z=>nomatch z⟩
  | bl b=>cases (show T = "bool" from ty); cases (show u=Value.bool b from rx); exact⟨_,PySem.W.kitx_bool,True.intro,fun z=>nomatch z⟩
  | int b=>cases (show T = "int" from ty); obtain⟨t,q⟩:=(show ∃t,u=Value.int b t from rx); cases q; exact⟨_,PySem.W.kitx_int,True.intro,fun z=>nomatch z⟩
  | str b=>cases (show T = "str" from ty); obtain⟨t,q⟩:=(show ∃t,u=Value.str b t from rx); cases q; exact⟨_,PySem.W.kitx_str,True.intro,fun z=>nomatch z⟩
  | ref a=>
    cases (show u=Value.ref a from rx)
    rcases (show (T = "list" /\ ∃xs,SqL X.K H a xs) \/ (T = "tuple" /\ ∃xs,SqT X.K H a xs) from ty) with ⟨e,xs,hx⟩ | ⟨e,xs,hx⟩
    · cases e
      obtain⟨its,r,⟨o,n,h1,h2,_⟩,_⟩:=I.list hx
      exact⟨_,PySem.W.kitx_list,⟨o,h1,h2⟩,fun z=>nomatch z⟩
    · cases e
      obtain⟨its,r,⟨o,h1,h2,_⟩,_⟩:=I.tuple hx
      exact⟨_,PySem.W.kitx_tuple,⟨o,h1,h2⟩,fun z=>nomatch z⟩
  | _=>exact (show False from ty).elim
inductive IrIsi (K:PySem.W.Frag) (xs:List V) (H:Hp) (Q:VK):Prop
  | mk (x:_) (T:_) (n:_) (b:_) (h0:xs=[x,.ty n]) (h1:TyN K H x T) (h2:n∈tyWords) (h3:tyIs T n=b) (h4:Q (.bl b) H):IrIsi K xs H Q
def rIsi (K:PySem.W.Frag):List V->Hp->VK->Prop:=fun xs H Q=>IrIsi K xs H Q
theorem call_isi:CallR X (.builtin "isinstance") (rIsi X.K):=by
 intro pins s σ H xs us Q I r h
 obtain⟨x,T,n,b,rfl,ty,hn,rfl,q⟩:=h
 obtain⟨u,c,rfl,rx,rc⟩:=vals2 r
 cases (show c=Value.type n from rc)
 obtain⟨P,Z,p,hx⟩:=kit_of I rx ty
 exact PySem.W.kia_one Z I.kIn p (kit_ty ty.mem hn) hx fun tk=>⟨.bl (tyIs T n),H,I.tok _,rfl,q⟩
inductive IrIsiT (K:PySem.W.Frag) (xs:List V) (H:Hp) (Q:VK):Prop
  | mk (x:V) (T:String) (p:Addr) (ns:List String) (b:Bool) (h0:xs=[x,.ref p]) (h1:H p=some (.tup (ns.map V.ty))) (h2:TyN K H x T) (h3:(∀n∈ns,n∈tyWords)) (h4:ns.any (tyIs T)=b) (h5:Q (.bl b) H):IrIsiT K xs H Q
def rIsiT (K:PySem.W.Frag):List V->Hp->VK->Prop:=fun xs H Q=>IrIsiT K xs H Q
theorem kit_tys {K:PySem.W.Frag} {T:String} (h1:T∈tyNames):∀ {ns:List String},(∀n∈ns,n∈tyWords)->PySem.W.kitAny K (.type T) (ns.map Value.type)=some (ns.any (tyIs T))
  | [],_=>rfl
  | n::r,h=>by
    have e:=kit_ty (K:=K) h1 (h n (List.mem_cons_self ..))
    have ih:=kit_tys (K:=K) h1 (ns:=r) fun m hm=>h m (List.mem_cons_of_mem _ hm)
    rw [List.map_cons,PySem.W.kitAny,e,List.any_cons]
    cases tyIs T n with
    | true=>rfl
    | false=>simpa using ih
theorem vals_ty:∀ {ns:List String} {us:List Value},Vals (ns.map V.ty) us->us=ns.map Value.type
  | [],_,.nil=>rfl
  | n::r,_,.cons q t=>by
    cases (show _=Value.type n from q)
    rw [vals_ty t]; rfl
theorem call_isiT:CallR X (.builtin "isinstance") (rIsiT X.K):=by
 intro pins s σ H xs us Q I r h
 obtain⟨x,T,p,ns,b,rfl,hp,ty,hn,rfl,q⟩:=h
 obtain⟨u,c,rfl,rx,rc⟩:=vals2 r
 cases (show c=Value.ref p from rc)
 obtain⟨P,Z,pp,hx⟩:=kit_of I rx ty
 obtain⟨_,its,rv,⟨cls,dd,dt,sl⟩,h1,h2,n,h3⟩:=(show ObjOk X.prog X.w H s.heap p (.tup (ns.map V.ty)) from I.hok p _ hp)
 simp only at h2 h3
 subst h2 h3
 have e:=vals_ty rv
 subst e
 exact PySem.W.kia_tup Z I.kIn pp h1 (kit_tys ty.mem hn) hx fun tk=>⟨.bl _,H,I.tok _,rfl,q⟩
end
mutual
def RD (K:PySem.W.Frag) (H:Hp):V->PyData->Prop
  | x,.none=>x = .non
  | x,.bool b=>x = .bl b
  | x,.int i=>x = .int i
  | x,.str y=>x = .str y
  | x,.list ds=>∃a xs,x = .ref a/\SqL K H a xs/\RDs K H xs ds
  | x,.tuple ds=>∃a xs,x = .ref a/\SqT K H a xs/\RDs K H xs ds
  | _,.dict _=>False
def RDs (K:PySem.W.Frag) (H:Hp):List V->List PyData->Prop
  | xs,[]=>xs=[]
  | xs,d::ds=>∃y ys,xs=y::ys/\RD K H y d/\RDs K H ys ds
end
section
variable {X:Cx}
mutual
theorem RD.reads {pins:List (Addr × Obj)} {s:Shared} {σ : St} {H:Hp} (I:Inv X pins σ H s):∀ {x:V} {u:Value} (d:PyData),RelV x u->RD X.K H x d -> ∃as,Reads s.heap u d as
  | x,u,.none,r,h=>by cases (show x = .non from by simpa [RD] using h); cases (show u=Value.none from r); exact⟨_,.none⟩
  | x,u,.bool b,r,h=>by cases (show x = .bl b from by simpa [RD] using h); cases (show u=Value.bool b from r); exact⟨_,.bool b⟩
  | x,u,.int i,r,h=>by cases (show x = .int i from by simpa [RD] using h); obtain⟨t,q⟩:=(show ∃t,u=Value.int i t from r); cases q; exact⟨_,.int i t⟩
  | x,u,.str y,r,h=>by cases (show x = .str y from by simpa [RD] using h); obtain⟨t,q⟩:=(show ∃t,u=Value.str y t from r); cases q; exact⟨_,.str y t⟩
  | x,u,.list ds,r,h=>by
    rw [RD] at h
    obtain⟨a,xs,rfl,hx,hd⟩:=h
    cases (show u=Value.ref a from r)
    obtain⟨its,rv,⟨o,n,h1,h2,h3,h4⟩,_⟩:=I.list hx
    obtain⟨as,q⟩:=RDs.reads I ds rv hd
    exact⟨_,.list h1 h2 h4 (by simpa using q)⟩
  | x,u,.tuple ds,r,h=>by
    rw [RD] at h
    obtain⟨a,xs,rfl,hx,hd⟩:=h
    cases (show u=Value.ref a from r)
    obtain⟨its,rv,⟨o,h1,h2,n,h4⟩,_⟩:=I.tuple hx
    obtain⟨as,q⟩:=RDs.reads I ds rv hd
    exact⟨_,.tuple h1 h2 h4 (by simpa using q)⟩
  | x,u,.dict _,r,h=>by simp [RD] at h
theorem RDs.reads {pins:List (Addr × Obj)} {s:Shared} {σ : St} {H:Hp} (I:Inv X pins σ H s):∀ {xs:List V} {us:List Value} (ds:List PyData),Vals xs us->RDs X.K H xs ds -> ∃as,ReadsAll s.heap us ds as
  | xs,us,[],r,h=>by
    cases (show xs=[] from by simpa [RDs] using h)
    cases r
    exact⟨_,.nil⟩
  | xs,us,d::ds,r,h=>by
    rw [RDs] at h
    obtain⟨y,ys,rfl,h1,h2⟩:=h
    cases r with
    | cons ra rb=>
      obtain⟨as,q⟩:=RD.reads I d ra h1
      obtain⟨bs,q'⟩:=RDs.reads I ds rb h2
      exact⟨_,.cons q q'⟩
end
inductive IrEqD (K:PySem.W.Frag) (x:V) (y:V) (H:Hp) (Q:VK):Prop
  | mk (d:_) (e:_) (h0:RD K H x d) (h1:RD K H y e) (h2:SeqAt.shaped d=true) (h3:SeqAt.shaped e=true) (h4:Q (.bl (PyData.eqv d e)) H):IrEqD K x y H Q
def rEqD (K:PySem.W.Frag):R2:=fun x y H Q=>IrEqD K x y H Q
inductive IrNeD (K:PySem.W.Frag) (x:V) (y:V) (H:Hp) (Q:VK):Prop
  | mk (d:_) (e:_) (h0:RD K H x d) (h1:RD K H y e) (h2:SeqAt.shaped d=true) (h3:SeqAt.shaped e=true) (h4:Q (.bl (!PyData.eqv d e)) H):IrNeD K x y H Q
def rNeD (K:PySem.W.Frag):R2:=fun x y H Q=>IrNeD K x y H Q
theorem op_eqD (hu:X.A.units+64<cLine):OpR X (compareOp .Eq) (rEqD X.K):=by
 intro pins s σ H x y v u Q I rx ry h
 obtain⟨d,e,hd,he,sd,se,q⟩:=h
 obtain⟨as,ra⟩:=RD.reads I d rx hd
 obtain⟨bs,rb⟩:=RD.reads I e ry he
 exact eq_dataH ra rb sd se hu ⟨.bl _,H,I,rfl,q⟩
theorem op_neD (hu:X.A.units+64<cLine):OpR X (compareOp .NotEq) (rNeD X.K):=by
 intro pins s σ H x y v u Q I rx ry h
 obtain⟨d,e,hd,he,sd,se,q⟩:=h
 obtain⟨as,ra⟩:=RD.reads I d rx hd
 obtain⟨bs,rb⟩:=RD.reads I e ry he
 exact ne_dataH ra rb sd se hu ⟨.bl _,H,I,rfl,q⟩
end
end L2
set_option Elab.async false
set_option linter.all false
set_option maxRecDepth 100000
namespace L2
open PySem PySem.Spec PyProof.Rows
theorem Same.new {H:Hp} {t:Addr} {o:HO} (ht:H t=none):Same H (upd H t o):=fun b o' e=>by rw [upd_ne (ne_of_none e ht)]; exact e
structure Nw (H H':Hp) (p:Addr) (o:HO):Prop where
 no:H p=none
 at':H' p=some o
 same:Same H H'
 eq:H'=upd H p o
theorem Nw.of {H:Hp} {p:Addr} {o:HO} (h:H p=none):Nw H (upd H p o) p o:=⟨h,upd_same,.new h,rfl⟩
def bltNames:List Str:=["len","abs","min","max","range","isinstance","int","bool","str","tuple","list","any","all","sum","zip","enumerate","sorted","reversed","ord","chr","divmod","repr","dict","set"]
def Blt (mg:Str->Option Value):Prop:=∀x∈bltNames,mg x=none
theorem Blt.at {mg:Str->Option Value} (B:Blt mg) (x:Str) (h:x∈bltNames:=by decide):mg x=none:=B x h
theorem al1 {α : Type} {C:List α -> Prop} (h:∀a,C [a]):∀us:List α,us.length=1->C us
  | [_],_=>h _
theorem al2 {α : Type} {C:List α -> Prop} (h:∀a b,C [a,b]):∀us:List α,us.length=2->C us
  | [_,_],_=>h _ _
def fsB (N P:List Str) (sc:Scope):Bool:=decide (sc.kind = .function) && !sc.isCoroutine && !sc.isGenerator && decide N.Nodup && decide (N.take P.length=P) && P.all (fun x=>decide (sc.names.lookup x=some .local \/ sc.names.lookup x=some .cell)) && sc.names.all fun y=>decide (y.2 ≠ .free)
theorem scOf {N P:List Str} {sc:Scope} (h:fsB N P sc=true):FnScope N P sc:=by
 unfold fsB at h
 simp only [Bool.and_eq_true,decide_eq_true_eq,Bool.not_eq_true',List.all_eq_true] at h
 obtain⟨⟨⟨⟨⟨⟨h1,h2⟩,h3⟩,h4⟩,h5⟩,h6⟩,h7⟩:=h
 exact⟨h1,h2,h3,h4,h5,h6,h7⟩
structure FA (K:PySem.W.Frag) (mg:Str->Option Value) (x:Str) (st:Stmt):Prop where
 ex:∃f fd,mg x=some (.ref f)/\Fun K x x st f fd
def FnHas (P:Program) (w:World) (K:PySem.W.Frag) (mg:Str->Option Value) (base:Heap) (x:Str) (k:Nat) (sp:Sp):Prop:=
 ∃f fd ps,FnOk P w K mg base CX0 k f fd ps sp/\mg x=some (.ref f)/\PySem.W.keepIn K (.ref f)=true/\Binds K fd ps []
section
variable {P:Program} {w:World} {K:PySem.W.Frag} {mg:Str->Option Value} {base:Heap}
theorem fa_mk {h:Heap} {x:Str} {st:Stmt} {f:Addr} {oc:Value} {od an:Option Addr} {osl:Array (Option Value)} {kV doc pm cdv ct:Value} (X:K.In h) (G:h.Ns mainGlobals mg)
    (a:PySem.W.nsIn K mainGlobals x=some (some (.ref f)))
    (l:K.lookup f=some ⟨oc,od,.func (PySem.W.fnOf x x (defArgs st) (defBody st) (defScope st) .none kV doc pm an cdv ct),osl⟩)
    (c:PySem.W.codeIn K cdv x=true) (k:PySem.W.keepIn K (.ref f)=true):FA K mg x st:=
  ⟨f,_,PySem.W.mg_of X G a,fun_mk l c k⟩
theorem FA.has {x:Str} {st:Stmt} {N ps:List Str} {k:Nat} {sp:Sp} (F:FA K mg x st) (S:FnScope N ps (defScope st)) (len:∀vs H Q E,sp vs H Q E->vs.length=ps.length)
    (hb:∀(kV doc pm:Value) (an:Option Addr) (cdv ct:Value) (us:List Value),us.length=ps.length->bindArgs (PySem.W.fnOf x x (defArgs st) (defBody st) (defScope st) .none kV doc pm an cdv ct) ⟨us,[]⟩=pure (ps.zip us))
    (hbody:∀(f:Addr) (cdv:Value) (A:Around) (outer:List Env) (s:Shared) (H:Hp) (vs:List V) (Q:VK) (E:XK),Room k (A.deeper (envOfC x (defScope st) s.heap.objs.size f cdv))->sp vs H Q E ->
      ∃t,PSs (cxOf CX0 P w K mg base N x (defScope st) f cdv A outer s H E).nox (defBody st) t/\t { nx:=fun _ H'=>Q .non H',rt:=Q } (start N vs) H):FnHas P w K mg base x (k+1) sp:=by
  obtain⟨f,fd,hm,F⟩:=F.ex
  exact⟨f,fd,ps,F.ok S len fun cdv A outer s H vs Q E=>hbody f cdv A outer s H vs Q E,hm,F.kp,F.binds hb⟩
end
section
variable {X:Cx} {k:Nat} {x:Str} {p pos:Pos} {e:Expr} {es:List Expr} {t:TA} {sp:Sp}
def tFn (sp:Sp) (t:TA):TE:=fun σ H Q=>t σ H fun vs H1=>sp vs H1 Q E0
theorem pe_fn (F:FnHas X.prog X.w X.K X.mg X.base x k sp) (hr:Room k X.A) (hg:Gl X x) (ha:PA X (e::es) t) (hdb:(x == ("__debug__" : Str))=false:=by decide)
    (he:starEach (e::es) X.env=(false,eval e X.env)::starEach es X.env:=by rfl) (hpl:(backTo pos (starEach es X.env)).any (·.1)=false:=by rfl) :
    PE X (.Call (.Name x p) (e::es) [] pos) (tFn sp t):=by
  obtain⟨f,fd,ps,F,hm,hk,hb⟩:=F
  have h:=pe_call (pos:=pos) (p:=p) F hr hg hm hk hb .nil pass0 ha hdb he hpl
  intro pins s σ H Q I hq
  refine h pins s σ H Q I ?_
  have e1:(fun (vs:List V) H1=>sp (vs++[]) H1 Q E0)=fun vs H1=>sp vs H1 Q E0:=by
   funext vs H1; rw [List.append_nil]
  show t σ H fun vs H1=>sp (vs++[]) H1 Q E0
  rw [e1]
  exact hq
theorem pf {j:Nat} (F:FnHas X.prog X.w X.K X.mg X.base x j sp) (hr:Room k X.A) (ha:PA X (e::es) t) (hjk:j<=k:=by decide) (hg:Gl X x:=by rfl) (hdb:(x == ("__debug__" : Str))=false:=by decide) (he:starEach (e::es) X.env=(false,eval e X.env)::starEach es X.env:=by rfl) (hpl:(backTo pos (starEach es X.env)).any (·.1)=false:=by rfl):PE X (.Call (.Name x p) (e::es) [] pos) (tFn sp t):=pe_fn F (hr.mono hjk) hg ha hdb he hpl
theorem op_mulG:OpR X (binaryOp .Mult) (rI (fun i j=>IntMulOk i j) fun i j=>.int (i*j)):=opI fun _ _ _ _ _ _ _ hc q=>mul_int q hc
theorem op_eqI:OpR X (compareOp .Eq) (rI0 fun i j=>.bl (decide (i=j))):=opB0 fun _ _ _ _ _ _ _ q=>eq_int (by rw [Bool.beq_eq_decide_eq]; exact q)
theorem op_neI:OpR X (compareOp .NotEq) (rI0 fun i j=>.bl (!decide (i=j))):=opB0 fun _ _ _ _ _ _ _ q=>ne_int (by rw [bne,Bool.beq_eq_decide_eq]; exact q)
theorem op_eqA (hu:X.A.units+64<cLine):OpR X (compareOp .Eq) (fun x y H Q=>rI0 (fun i j=>.bl (decide (i=j))) x y H Q \/ rEqD X.K x y H Q):=op_eqI.or (op_eqD hu)
theorem op_neA (hu:X.A.units+64<cLine):OpR X (compareOp .NotEq) (fun x y H Q=>rI0 (fun i j=>.bl (!decide (i=j))) x y H Q \/ rNeD X.K x y H Q):=op_neI.or (op_neD hu)
mutual
theorem eqv_refl:∀d:PyData,d.canLay0=true->PyData.eqv d d=true
  | .none,_=>by simp [PyData.eqv]
  | .bool b,_=>by simp [PyData.eqv]
  | .int i,_=>by simp [PyData.eqv]
  | .str x,_=>by simp [PyData.eqv]
  | .list ds,h=>by simp only [PyData.eqv]; exact eqvAll_refl ds (by simpa [PyData.canLay0] using h)
  | .tuple ds,h=>by simp only [PyData.eqv]; exact eqvAll_refl ds (by simpa [PyData.canLay0] using h)
  | .dict _,h=>by simp [PyData.canLay0] at h
theorem eqvAll_refl:∀ds:List PyData,PyData.canLayAll0 ds=true->PyData.eqvAll ds ds=true
  | [],_=>by simp [PyData.eqvAll]
  | d::ds,h=>by
    simp only [PyData.canLayAll0,Bool.and_eq_true] at h
    simp only [PyData.eqvAll,Bool.and_eq_true]
    exact⟨eqv_refl d h.1,eqvAll_refl ds h.2⟩
end
theorem rd_int {K:PySem.W.Frag} {H:Hp} (i:Int):RD K H (.int i) (.int i):=by simp [RD]
theorem rd_tup {K:PySem.W.Frag} {H:Hp} {p:Addr} {xs:List V} {ds:List PyData} (h:SqT K H p xs) (r:RDs K H xs ds):RD K H (.ref p) (.tuple ds):=by rw [RD]; exact⟨p,xs,rfl,h,r⟩
theorem rds_nil {K:PySem.W.Frag} {H:Hp}:RDs K H [] []:=by simp [RDs]
theorem rds_cons {K:PySem.W.Frag} {H:Hp} {x:V} {xs:List V} {d:PyData} {ds:List PyData} (h:RD K H x d) (r:RDs K H xs ds):RDs K H (x::xs) (d::ds):=by rw [RDs]; exact⟨x,xs,rfl,h,r⟩
inductive ItMid (t:TS) (D:Ends) (σ : St) (H:Hp):Prop
  | mk (Mid:St->Hp->Prop) (h0:t { D with nx:=Mid } σ H) (h1:∀ σ' H',Mid σ' H'->D.nx σ' H'):ItMid t D σ H
def tMid (t:TS):TS:=fun D σ H=>ItMid t D σ H
theorem ps_mid {st:Stmt} {t:TS} (h:PS X st t):PS X st (tMid t):=by
 intro pins s σ H D I hq
 obtain⟨Mid,q,m⟩:=hq
 refine thn (h pins s σ H _ I q) fun f s1 q1=>?_
 cases f with
 | next=>obtain⟨σ',H',I',q'⟩:=q1; exact⟨σ',H',I',m _ _ q'⟩
 | brk=>exact q1
 | cont=>exact q1
 | ret u=>exact q1
end
end L2
namespace L2
open PySem PySem.Spec PyProof.Rows
def NoG (K:PySem.W.Frag) (xs:List Str):Prop:=∀x∈xs,PySem.W.nsIn K mainGlobals x=some none
theorem NoG.nil {K:PySem.W.Frag}:NoG K []:=fun _ h=>nomatch h
theorem NoG.cons {K:PySem.W.Frag} {x:Str} {xs:List Str} (a:PySem.W.nsIn K mainGlobals x=some none) (r:NoG K xs):NoG K (x::xs):=fun y hy=>by
 rcases List.mem_cons.mp hy with e | e
 · rw [e]; exact a
 · exact r y e
theorem blt_mk {K:PySem.W.Frag} {mg:Str->Option Value} {h:Heap} (X:K.In h) (G:h.Ns mainGlobals mg) (a:NoG K bltNames):Blt mg:=fun x hx=>
 PySem.W.mg_none_of X G (a x hx)
theorem law_walk {l:PySem.W.OpenLaw} {q:Program} {loose:List Str} {XP:(Str->Option Value)->Heap->Prop} {YP:World->Heap->Prop} {d:DefRec} {K:Params->PySem.W.Frag} {k:Nat} {x:Str} {st:Stmt} (hn:l.most=some 63) (hdf:d.params.defaults=[])
    (hr:Room k callerA) (hY:∀(w:World) (h:Heap),YP w h->(K w.params).In h) (All:PySem.W.Frag->(Str->Option Value)->Prop)
    (F:∀(w:World) (mg:Str->Option Value) (h:Heap),(K w.params).In h->h.Ns mainGlobals mg->All (K w.params) mg)
    (L:∀(K:PySem.W.Frag) (mg:Str->Option Value),All K mg->FA K mg d.name st)
    (hb:∀(kV doc pm:Value) (an:Option Addr) (cdv ct u:Value),bindArgs (PySem.W.fnOf d.name d.name (defArgs st) (defBody st) (defScope st) .none kV doc pm an cdv ct) ⟨[u],[]⟩=pure [(x,u)])
    (ok:∀(P:Program) (w:World) (K:PySem.W.Frag) (mg:Str->Option Value) (base:Heap) (f:Addr) (fd:FuncData),All K mg->Fun K d.name d.name st f fd->FnOk P w K mg base CX0 k f fd [x]
      (fun vs H Q _=>∃(a:Addr) (ns:List Int),vs=[.ref a]/\SqL K H a (ns.map V.int)/\ns.length<=63 /\ ∀H',Q (.bl true) H')) :
    PySem.W.WalkO q loose XP YP l.row.toRowW d [] (fun f vs=>PySem.call f vs):=
  L2.walk_of (n:=63) (k:=k) (x:=x) (CX:=fun _=>CX0) (sp:=fun w=>fun vs H Q _=>∃(a:Addr) (ns:List Int),vs=[.ref a]/\SqL (K w.params) H a (ns.map V.int)/\ns.length<=63 /\ ∀H',Q (.bl true) H') hn (by decide) hdf hr hY
    (fun w mg fa h KX G hmg=>by
     have A:=F w mg h KX G
     obtain⟨f,fd,hm,Fn⟩:=(L _ _ A).ex
     have e:fa=f:=by
      rw [hmg] at hm
      injection (Option.some.inj hm)
     subst e
     refine⟨fd,fun s u=>?_,fun base _ _=>ok l.prog w _ mg base fa fd A Fn⟩
     obtain⟨oc,od,kV,doc,pm,an,cdv,ct,osl,rfl,lk,hcd⟩:=Fn.ex
     exact .of_eq (hb kV doc pm an cdv ct u))
    (fun _ _ a ns hl _ hS=>⟨a,ns,rfl,hS,hl,fun _=>rfl⟩) fun _ _ _ _ _ z=>z
end L2
set_option Elab.async false
set_option linter.all false
set_option maxRecDepth 100000
namespace L2
open PySem PySem.Spec PyProof.Rows
theorem closure_ok {env:Env}:∀(ns:List (Str × NameKind)) (cs:List (Str × Addr)),(∀x∈ns,x.2 = .free -> ∃c,env.cells.lookup x.1=some c)->(∀x c,cs.lookup x=some c->env.cells.lookup x=some c) ->
    ∃ cl,(forIn ns cs (fun x r=>if (x.2 == NameKind.free)=true then do let a <- cellOf env x.1; pure (ForInStep.yield ((x.1,a)::r)) else pure (ForInStep.yield r)):Sem (List (Str × Addr)))=pure cl /\
      (∀x c,cl.lookup x=some c->env.cells.lookup x=some c)/\(∀x c,cs.lookup x=some c -> ∃c',cl.lookup x=some c') /\ ∀x∈ns,x.2 = .free -> ∃c,cl.lookup x.1=some c
  | [],cs,_,h2=>⟨cs,rfl,h2,fun x c e=>⟨c,e⟩,fun _ h=>nomatch h⟩
  | (n,k)::r,cs,h1,h2=>by
    by_cases hk:k = .free
    · subst hk
      obtain⟨c,hc⟩:=h1 (n,.free) (.head _) rfl
      have e1:cellOf env n=pure c:=by
       unfold cellOf
       rw [show env.cells.lookup n=some c from hc]
      obtain ⟨cl,a1,a2,a3,a4⟩:=closure_ok r ((n,c)::cs) (fun x hx=>h1 x (.tail _ hx)) (fun x d e=>by
       rw [List.lookup_cons] at e
       cases z:x == n with
       | true=>
         rw [z] at e
         cases e
         rw [beq_iff_eq.mp z]; exact hc
       | false=>rw [z] at e; exact h2 x d e)
      refine⟨cl,?_,a2,fun x d e=>?_,fun x hx hf=>?_⟩
      · rw [List.forIn_cons]
        show (do let r' <- (if (NameKind.free == NameKind.free)=true then do let a <- cellOf env n; pure (ForInStep.yield ((n,a)::cs)) else pure (ForInStep.yield cs)); _)=_
        rw [if_pos (by rfl),e1]
        exact a1
      · by_cases z:x == n
        · exact a3 x c (by rw [List.lookup_cons,z])
        · exact a3 x d (by rw [List.lookup_cons,Bool.eq_false_iff.mpr z]; exact e)
      · rcases List.mem_cons.mp hx with rfl | hx
        · exact a3 n c (by rw [List.lookup_cons,beq_self_eq_true])
        · exact a4 x hx hf
    · obtain⟨cl,a1,a2,a3,a4⟩:=closure_ok r cs (fun x hx=>h1 x (.tail _ hx)) h2
      refine⟨cl,?_,a2,a3,fun x hx hf=>?_⟩
      · rw [List.forIn_cons]
        show (do let r' <- (if (k == NameKind.free)=true then do let a <- cellOf env n; pure (ForInStep.yield ((n,a)::cs)) else pure (ForInStep.yield cs)); _)=_
        rw [if_neg (by simpa using hk)]
        exact a1
      · rcases List.mem_cons.mp hx with rfl | hx
        · exact absurd hf hk
        · exact a4 x hx hf
theorem closureFor_ok {env:Env} {scope:Scope} (h1:∀x∈scope.names,x.2 = .free -> ∃c,env.cells.lookup x.1=some c) :
    ∃cl,closureFor scope env=pure cl/\(∀x c,cl.lookup x=some c->env.cells.lookup x=some c) /\ ∀x∈scope.names,x.2 = .free -> ∃c,cl.lookup x.1=some c:=by
  obtain⟨cl,a1,a2,_,a4⟩:=closure_ok (env:=env) scope.names [] h1 (fun x c e=>nomatch e)
  refine⟨cl,?_,a2,a4⟩
  unfold closureFor
  show (forIn scope.names ([]:List (Str × Addr)) (fun (x:Str × NameKind) r=>match x with | (name,kind)=>if (kind == NameKind.free)=true then do let a <- cellOf env name; pure (ForInStep.yield ((name,a)::r)) else pure (ForInStep.yield r)) >>= fun r=>(pure r:Sem (List (Str × Addr))))=pure cl
  have ef:(fun (x:Str × NameKind) (r:List (Str × Addr))=>match x with | (name,kind)=>(if (kind == NameKind.free)=true then do let a <- cellOf env name; pure (ForInStep.yield ((name,a)::r)) else pure (ForInStep.yield r):Sem (ForInStep (List (Str × Addr)))))
      = fun x r=>if (x.2 == NameKind.free)=true then do let a <- cellOf env x.1; pure (ForInStep.yield ((x.1,a)::r)) else pure (ForInStep.yield r):=by
    funext x r
    obtain⟨n,k⟩:=x
    rfl
  rw [ef,a1]
  rfl
theorem lookup_relabel_free {env:Env} (hk:env.scope.kind = .function) {x:Str} (hx:env.kindOf x=some .cell):∀ {names:List (Str × NameKind)},names.lookup x=some .free ->
    (names.map fun (n,k)=>if (k == NameKind.free && env.scope.kind == .function && env.kindOf n == some .cell) then (n,NameKind.cell) else (n,k)).lookup x=some .cell
  | [],h=>nomatch h
  | (n,k)::r,h=>by
    have ih:=@lookup_relabel_free env hk x hx r
    show List.lookup x ((if (k == NameKind.free && env.scope.kind == .function && env.kindOf n == some .cell)=true then (n,NameKind.cell) else (n,k))::_)=_
    cases z:x == n with
    | true=>
      simp only [List.lookup_cons,z] at h
      cases h
      have e:=beq_iff_eq.mp z
      subst e
      rw [if_pos (by rw [hk,hx]; rfl),List.lookup_cons,z]
    | false=>
      simp only [List.lookup_cons,z] at h
      split <;> (simp only [List.lookup_cons,z]; exact ih h)
def compCx (X:Cx) (N:List Str) (scope:Scope) (cl:List (Str × Addr)) (s:Shared) (H:Hp) (fp:List Addr) (pins:List (Addr × Obj)):Cx:=
 { prog:=X.prog,w:=X.w,K:=X.K,mg:=X.mg,base:=X.base,A:=X.A,N:=N,s₀:=s,H₀:=H,env:=compEnvC scope cl s.heap.objs.size X.env,outer:=X.stack,stack:=X.stack,ex:=fp,fn:=fun _=>false,calm:=X.calm,
   pn:=X.pn++pins,xe:=fun _ _=>False }
def stC (js:List (Option Nat)) (σ : St):St:=js.map fun | none=>none | some j=>(σ[j]?).join
def chkC (X:Cx) (N:List Str) (js:List (Option Nat)) (scope:Scope):Bool:=
 N.length == js.length && (N.zip js).all fun p=>match p.2 with | none=>true | some j=>X.N[j]? == some p.1 && scope.names.lookup p.1 == some NameKind.free && X.env.kindOf p.1 == some NameKind.cell
def chkS (X:Cx) (scope:Scope):Bool:=scope.kind == .function && X.env.scope.kind == .function && scope.names.all fun x=>match x.2 with
 | .free=>X.env.kindOf x.1 == some NameKind.cell
 | .cell=>false
 | .local=>scope.names.lookup x.1 == some NameKind.local
 | _=>true
section
variable {X:Cx} {pins:List (Addr × Obj)} {σ : St} {H:Hp} {s:Shared}
theorem lookup_mem {α β : Type} [BEq α] [LawfulBEq α]:∀ {l:List (α × β)} {x : α} {b : β},l.lookup x=some b->(x,b)∈l
  | [],_,_,h=>nomatch h
  | (n,k)::r,x,b,h=>by
    rw [List.lookup_cons] at h
    cases z:x == n with
    | true=>rw [z] at h; cases h; rw [beq_iff_eq.mp z]; exact .head _
    | false=>rw [z] at h; exact .tail _ (lookup_mem h)
theorem relabel_inv {env:Env} {x:Str} {k:NameKind}:∀ {names:List (Str × NameKind)},(names.map fun (n,k)=>if (k == NameKind.free && env.scope.kind == .function && env.kindOf n == some .cell) then (n,NameKind.cell) else (n,k)).lookup x=some k ->
    names.lookup x=some k \/ (k = .cell/\names.lookup x=some .free)
  | [],h=>nomatch h
  | (n,k')::r,h=>by
    have ih:=@relabel_inv env x k r
    have h':List.lookup x ((if (k' == NameKind.free && env.scope.kind == .function && env.kindOf n == some .cell)=true then (n,NameKind.cell) else (n,k'))::(r.map fun (n,k)=>if (k == NameKind.free && env.scope.kind == .function && env.kindOf n == some .cell) then (n,NameKind.cell) else (n,k)))=some k:=h
    cases z:x == n with
    | true=>
      split at h'
      · rename_i hc
        simp only [List.lookup_cons,z] at h'
        cases h'
        rw [Bool.and_eq_true,Bool.and_eq_true] at hc
        have e:k' = .free:=beq_iff_eq.mp hc.1.1
        subst e
        exact .inr ⟨rfl,by rw [List.lookup_cons,z]⟩
      · simp only [List.lookup_cons,z] at h'
        cases h'
        exact .inl (by rw [List.lookup_cons,z])
    | false=>
      rw [List.lookup_cons,z]
      refine ih ?_
      split at h'
      · simpa only [List.lookup_cons,z] using h'
      · simpa only [List.lookup_cons,z] using h'
theorem Inv.comp {N:List Str} {js:List (Option Nat)} {scope:Scope} {cl:List (Str × Addr)} {fp:List Addr} {h':Heap} {tk:Nat} (I:Inv X pins σ H s) (hN:chkC X N js scope=true) (hS:chkS X scope=true)
    (c1:∀x c,cl.lookup x=some c->X.env.cells.lookup x=some c) (c2:∀x∈scope.names,x.2 = .free -> ∃c,cl.lookup x.1=some c) (hf:∀b∈fp,FpOk X pins H b) (hfl:∀b∈fp,b<s.heap.objs.size)
    (hn:h'.Ns s.heap.objs.size fun _=>none) (hk:∀b o,s.heap.get? b=some o->h'.get? b=some o):Inv (compCx X N scope cl s H fp pins) [] (stC js σ) H { s with heap:=h',toks:=tk }:=by
  unfold chkS at hS
  rw [Bool.and_eq_true,Bool.and_eq_true] at hS
  obtain⟨⟨s1,s2⟩,s3⟩:=hS
  have hkind:scope.kind = .function:=beq_iff_eq.mp s1
  have hkindX:X.env.scope.kind = .function:=beq_iff_eq.mp s2
  unfold chkC at hN
  rw [Bool.and_eq_true] at hN
  obtain⟨n1,n2⟩:=hN
  have hlen:N.length=js.length:=beq_iff_eq.mp n1
  have inC:∀x k,(relabel scope X.env).names.lookup x=some k->scope.names.lookup x=some k \/ (k = .cell/\scope.names.lookup x=some .free):=fun x k e=>relabel_inv e
  have noCell:∀x,scope.names.lookup x≠some .cell:=fun x e=>by
   have:=List.all_eq_true.mp s3 _ (lookup_mem e)
   exact Bool.false_ne_true this
  have fs_sub:∀b∈(compCx X N scope cl s H fp pins).fs,b∈X.env.locals::X.fs:=I.stkSub
  have ok:(compCx X N scope cl s H fp pins).Ok:={
    mod:=I.ok.mod
    kind:=hkind
    glob:=I.ok.glob
    blt:=I.ok.blt
    above:=Nat.le_refl _
    inj:=fun x y c e1 e2=>I.ok.inj x y c (c1 x c e1) (c1 y c e2)
    has:=fun x hx=>by
     have fr:scope.names.lookup x=some .free -> ∃c,cl.lookup x=some c:=fun e=>c2 (x,.free) (lookup_mem e) rfl
     rcases hx with e | e
     · rcases inC x _ e with e | ⟨_,e⟩
       · exact absurd e (noCell x)
       · exact fr e
     · rcases inC x _ e with e | ⟨z,_⟩
       · exact fr e
       · cases z
    cab:=fun x c e=>nomatch e
    hd:=I.ok.hd
    frames:=I.ok.frames
    stk:=.inl rfl
    exf:=fun b hb=>⟨Nat.ne_of_lt (hfl b hb),fun x c e=>(hf b hb).2.2.2.2.1 x c (c1 x c e)⟩
    bs:=I.bs
    bsz:=Nat.le_trans I.ok.bsz I.sz
    noex:=fun b o e hb=>by
     rcases (hf b hb).2.2.2.1 with z | z
     · exact I.ok.noex b o e z
     · exact absurd (Nat.lt_of_lt_of_le (Heap.lt_size e) (Nat.le_trans I.ok.bsz z)) (Nat.lt_irrefl _)
    exfs:=fun b hb z=>by
     obtain⟨_,q1,q2,_⟩:=hf b hb
     rcases List.mem_cons.mp (fs_sub b z) with e | e
     · exact q1 e
     · exact q2 e
    funs:=I.stack
    frf:=I.stkFree }
  refine⟨ok,rfl,I.bare,Un.kept hk,⟨_,hn,fun i x v e1 e2 e3=>?_⟩,fun x c e=>?_,I.hok.fresh (Nat.le_refl _),fun x c e=>I.freeC x c (c1 x c e),fun p hp=>?_,I.hok.kept hk,?_⟩
  · have e2':(js.map fun | none=>none | some j=>(σ[j]?).join)[i]? = some (some v):=e2
    rw [List.getElem?_map] at e2'
    cases hj:js[i]? with
    | none=>rw [hj] at e2'; cases e2'
    | some o=>
      rw [hj] at e2'
      cases o with
      | none=>cases e2'
      | some j=>
        have hz:(N.zip js)[i]? = some (x,some j):=by
         rw [List.getElem?_zip_eq_some]; exact⟨e1,hj⟩
        have chk:=List.all_eq_true.mp n2 _ (List.mem_of_getElem? hz)
        simp only [Bool.and_eq_true,beq_iff_eq] at chk
        obtain⟨⟨h1,h2⟩,h3⟩:=chk
        have e3':(σ[j]?).join=some v:=by simpa using e2'
        have hσ : σ[j]? = some (some v):=by
         cases q : σ[j]? with
         | none=>rw [q] at e3'; cases e3'
         | some o=>
           rw [q] at e3'
           have:o=some v:=by simpa using e3'
           rw [this]
        obtain⟨m,hm,hl⟩:=I.loc
        obtain⟨u,r,l⟩:=hl j x v h1 hσ (.inr (.inl h3))
        refine⟨u,r,?_⟩
        rcases l with ⟨k,_⟩ | ⟨_,c,hc,hcell⟩
        · rw [h3] at k; cases k
        · obtain⟨c',hc'⟩:=c2 (x,.free) (lookup_mem h2) rfl
          have:=c1 x c' hc'
          rw [hc] at this; cases this
          refine .inr ⟨.inl (lookup_relabel_free hkindX h3 h2),c,hc',?_⟩
          obtain⟨ob,ho,hd⟩:=hcell
          exact⟨ob,hk _ _ ho,hd⟩
  · obtain⟨v,ob,ho,hd⟩:=I.cell x c (c1 x c e)
    exact⟨v,ob,hk _ _ ho,hd⟩
  · have hp':p∈X.pn++pins:=by simpa [compCx] using hp
    obtain⟨a1,a2,a3,a4,a5⟩:=I.pin p hp'
    refine⟨hk _ _ a1,a2,Nat.ne_of_lt (Heap.lt_size a1),fun z=>?_,a5⟩
    rcases List.mem_cons.mp (fs_sub p.1 z) with e | e
    · exact a3 e
    · exact a4 e
  · show (js.map _).length=N.length
    rw [List.length_map,hlen]
end
theorem compLoop_gen {prog:Program} {w:World} {A:Around} {R:Result->Shared->Prop} {s:Shared} {elt target iter:Expr} {ifs:List Expr} {scope:Scope} {pos:Pos} {it acc:Value} {env:Env} (I:Nat->Shared->Prop)
    (turn:∀n s,I n s->wpAny (model prog w) A (pyNext it) (fun r s₁=>match r with
     | none=>R (.ok .next) s₁
     | some v=>wpAny (model prog w) A (letOwnedTupleGo target it v) (fun _ s₁=>wpAny (model prog w) A (assign target env v) (fun _ s₂=>
         wpAny (model prog w) A (forIn ifs true fun c r=>if r=true then do let ok <- isTrue c env (eval c env); pure (ForInStep.yield ok) else pure (ForInStep.yield r)) (fun ok s₃=>
          if ok=true then wpAny (model prog w) A (eval elt env) (fun x s₄=>
           wpAny (model prog w) A (call (.builtin "list.append") [acc,x]) (fun _ s₅=>∃m,m<n/\I m s₅) (fun _ _=>False) s₄) (fun _ _=>False) s₃
          else ∃m,m<n/\I m s₃) (fun _ _=>False) s₂) (fun _ _=>False) s₁) (fun _ _=>False) s₁) (fun _ _=>False) s)
    (n:Nat) (h:I n s):codeAny (model prog w) A (.compLoop (.ListComp elt [⟨target,iter,ifs,0⟩] scope pos) 0 it acc env) R s:=by
  refine codeAny_loop rfl I (fun n s hI=>?_) n h
  show wpAny _ A ((compTurn (.ListComp elt [⟨target,iter,ifs,0⟩] scope pos) 0 it acc env).onRaise (fun x=>do noteFrame x env; theTreesLotGoes x)) _ _ s
  refine wpAny_noted ?_
  rw [compTurn_list]
  refine wpAny_bind (wpAny_standAt (wpAny_bind (wpAny_mono (turn n s hI) (fun r s₁ h₁=>?_) fun _ _ h'=>h'.elim)))
  cases r with
  | none=>exact wpAny_pure h₁
  | some v=>
    refine wpAny_bind (wpAny_mono h₁ (fun _ s₁' h₁=>?_) fun _ _ h'=>h'.elim)
    refine wpAny_bind (wpAny_mono h₁ (fun _ s₂ h₂=>wpAny_bind (wpAny_mono h₂ (fun ok s₃ h₃=>?_) fun _ _ h'=>h'.elim)) fun _ _ h'=>h'.elim)
    cases ok with
    | false=>exact wpAny_pure ⟨rfl,h₃⟩
    | true=>
      exact wpAny_bind (wpAny_bind (wpAny_mono h₃ (fun x s₄ h₄=>wpAny_bind (wpAny_mono h₄ (fun _ s₅ h₅=>wpAny_pure (wpAny_pure ⟨rfl,h₅⟩)) fun _ _ h'=>h'.elim)) fun _ _ h'=>h'.elim))
def PTs (X:Cx) (ifs:List Expr) (t:TT):Prop:=
 ∀ (pins:List (Addr × Obj)) (s:Shared) (σ : St) (H:Hp) (Q:Bool->Hp->Prop),Inv X pins σ H s->t σ H Q ->
   wpAny (model X.prog X.w) X.A (forIn ifs true fun c r=>if r=true then do let ok <- isTrue c X.env (eval c X.env); pure (ForInStep.yield ok) else pure (ForInStep.yield r)) (TP X pins σ Q) X.xe s
def tYes:TT:=fun _ H Q=>Q true H
theorem pts_nil {X:Cx}:PTs X [] tYes:=fun _ _ _ H _ I h=>wpAny_tests_nil ⟨H,I,h⟩
theorem pts_one {X:Cx} {c:Expr} {t:TT} (h:PT X c t):PTs X [c] t:=fun pins s σ H Q I hq=>wpAny_tests_one (h pins s σ H Q I hq)
def CompW (J:It) (g:TG) (tt:TT) (te:TE) (Q:VK) (D:Addr) (σ : St) (H:Hp):Prop:=∃W:Nat->Nat->St->Hp->Prop,(∃m,W 0 m σ H) /\ ∀i m σ' H',W i m σ' H' ->
  (J.stop i H'/\Q (.ref D) H') \/ (J.go i H' /\ ∀x H2,J.yld i H' x H2->g x σ' H2 fun σ3 H3=>tt σ3 H3 fun ok H4=>if ok=true then
   te σ3 H4 fun y H5=>∃ys,H5 D=some (.lst ys)/\ys.length<sizeLine /\ ∃m',m'<m/\W (i+1) m' σ3 (upd H5 D (.lst (ys++[y])))
   else ∃m',m'<m/\W (i+1) m' σ3 H4)
def tComp (js:List (Option Nat)) (wi:TI) (g:TG) (tt:TT) (te:TE):TE:=fun σ H Q=>wi σ H fun J H1=>∀D H2,Nw H1 H2 D (.lst [])->CompW J g tt te Q D (stC js σ) H2
theorem HOk.but {P:Program} {w:World} {H:Hp} {h h':Heap} {C:Addr} (ok:HOk P w H h) (hn:H C=none) (hs:Heap.SameBut C h h'):HOk P w H h':=fun b ob e=>by
 refine (ok b ob e).stay (fun c w' hc q=>(hs.2 c ?_).trans q) (fun _ q=>q) fun _ _ q=>q
 rintro rfl
 rcases hc with rfl | hc
 · rw [hn] at e; cases e
 · rw [hn] at hc; cases hc
set_option maxHeartbeats 1000000 in
theorem pe_comp {X:Cx} {N:List Str} {js:List (Option Nat)} {elt tg iter:Expr} {ifs:List Expr} {scope:Scope} {pos:Pos} {wi:TI} {g:TG} {tt:TT} {te:TE} (hc:X.calm=true) (hN:chkC X N js scope=true) (hS:chkS X scope=true)
    (hi:PI X tg iter wi) (hg:∀cl s H fp pins,PG (compCx X N scope cl s H fp pins) tg g) (ht:∀cl s H fp pins,PTs (compCx X N scope cl s H fp pins) ifs tt) (he:∀cl s H fp pins,PE (compCx X N scope cl s H fp pins) elt te)
    (hs:∀x,foldedSetIterable iter X.env x=pure x:=by intro _; rfl):PE X (.ListComp elt [⟨tg,iter,ifs,0⟩] scope pos) (tComp js wi g tt te):=by
  intro pins s σ H Q I h
  have hS':=hS
  unfold chkS at hS'
  rw [Bool.and_eq_true,Bool.and_eq_true] at hS'
  obtain⟨⟨k1,k2⟩,k3⟩:=hS'
  have hkind:scope.kind = .function:=beq_iff_eq.mp k1
  have hfree:∀x∈scope.names,x.2 = .free -> ∃c,X.env.cells.lookup x.1=some c:=fun x hx e=>by
   have:=List.all_eq_true.mp k3 x hx
   rw [e] at this
   exact I.ok.has x.1 (.inl (beq_iff_eq.mp this))
  have hcell:∀x∈scope.names,x.2 ≠ .cell:=fun x hx e=>by
   have:=List.all_eq_true.mp k3 x hx
   rw [e] at this
   exact Bool.false_ne_true this
  have hnames:∀x∈scope.names,x.2 = .local->scope.names.lookup x.1=some .local:=fun x hx e=>by
   have:=List.all_eq_true.mp k3 x hx
   rw [e] at this
   exact beq_iff_eq.mp this
  obtain⟨cl,hclos,c1,c2⟩:=closureFor_ok hfree
  rw [eval_ListComp]
  refine wpAny_comprehension_free (use:=none) rfl hs hclos hkind hnames (thn (hi pins s σ H _ I h) fun v s1 h1=>thn h1 fun itv s2 h2=>?_)
  obtain⟨it,fp,tn,J,H2,e,I2,T,st2,f2,h2⟩:=h2
  subst e
  have hD:H2 s2.heap.objs.size=none:=I2.hok.fresh (Nat.le_refl _)
  obtain⟨W,⟨m0,w0⟩,turn⟩:=h2 _ _ (Nw.of hD)
  refine wpAny_newObj_type (wpAny_newFunctionEnv hcell (by intro y hy; simp at hy) (fun h₁ hns₁ hsb₁=>?_) hkind)
  have fpl:∀b∈fp,b<s2.heap.objs.size:=fun b hb=>by
   obtain⟨o,e,_⟩:=T.obj _ _ st2 b hb
   exact Heap.lt_size e
  have I3:Inv X pins σ (upd H2 s2.heap.objs.size (.lst [])) { s2 with heap:=s2.heap.push { cls:=.type "list",dict:=none,data:=.seq ([]:List Value).toArray } }:=I2.lnew (its:=[]) (t':=s2.toks) .nil (Nat.zero_le _)
  generalize hH3:s2.heap.push { cls:=.type "list",dict:=none,data:=.seq ([]:List Value).toArray } = h3 at I3 hns₁ hsb₁
  have sz3:h3.objs.size=s2.heap.objs.size+1:=by rw [<- hH3,Heap.size_push]
  have keep23:∀b o,s2.heap.get? b=some o->h3.get? b=some o:=fun b o e=>by rw [<- hH3]; exact Heap.get?_push_of_some _ e
  have f3:∀b∈fp,FpOk X pins (upd H2 s2.heap.objs.size (.lst [])) b:=fun b hb=>⟨by rw [upd_ne (Nat.ne_of_lt (fpl b hb))]; exact (f2 b hb).1,(f2 b hb).2⟩
  have keep31:∀b o,h3.get? b=some o->h₁.get? b=some o:=fun b o e=>(hsb₁.2 b (Nat.ne_of_lt (Heap.lt_size e))).trans (Heap.get?_push_of_some _ e)
  have I4:Inv (compCx X N scope cl { s2 with heap:=h3 } (upd H2 s2.heap.objs.size (.lst [])) fp pins) [] (stC js σ) (upd H2 s2.heap.objs.size (.lst [])) { s2 with heap:=h₁,toks:=s2.toks+([]:List (Str × Value)).length }:=
   I3.comp (s:={ s2 with heap:=h3 }) hN hS c1 c2 f3 (fun b hb=>by show b<h3.objs.size; rw [sz3]; exact Nat.lt_succ_of_lt (fpl b hb)) (by simpa using hns₁) keep31
  have st4:tn 0 h₁:=T.keep _ _ _ st2 fun b _ o e=>keep31 b o (keep23 b o e)
  have loop:codeAny (model X.prog X.w) X.A (.compLoop (.ListComp elt [⟨tg,iter,ifs,0⟩] scope pos) 0 (.ref it) (.ref s2.heap.objs.size) (compEnvC scope cl h3.objs.size X.env))
      (compPost (model X.prog X.w) X.A X.xe none (EP X pins σ Q) (.ref s2.heap.objs.size) h3.objs.size) { s2 with heap:=h₁,toks:=s2.toks+([]:List (Str × Value)).length }:=by
    refine compLoop_gen (fun n s'=>∃i σ' H',Inv (compCx X N scope cl { s2 with heap:=h3 } (upd H2 s2.heap.objs.size (.lst [])) fp pins) [] σ' H' s'/\tn i s'.heap/\(∀b∈fp,H' b=none)/\W i n σ' H') ?_ m0
      ⟨0,_,_,I4,st4,fun b hb=>(f3 b hb).1,w0⟩
    rintro n s5 ⟨i,σ5,H5,I5,st5,fr5,w5⟩
    have stat:∀ {H':Hp},(∀b∈fp,H' b=none) -> ∀b∈fp,FpOk (compCx X N scope cl { s2 with heap:=h3 } (upd H2 s2.heap.objs.size (.lst [])) fp pins) [] H' b:=fun {H'} hn b hb=>by
     obtain⟨_,q1,q2,q3,q4,q5⟩:=f3 b hb
     refine⟨hn b hb,fun z=>?_,I4.ok.exfs b hb,.inl hb,fun x c e=>q4 x c (c1 x c e),fun p hp=>q5 p (by simpa [compCx] using hp)⟩
     have hlt:b<h3.objs.size:=by rw [sz3]; exact Nat.lt_succ_of_lt (fpl b hb)
     exact Nat.ne_of_lt hlt z
    rcases turn i n σ5 H5 w5 with ⟨stop,qn⟩ | ⟨go,step⟩
    · refine thn (T.done (compCx X N scope cl { s2 with heap:=h3 } (upd H2 s2.heap.objs.size (.lst [])) fp pins) rfl rfl rfl hc i [] s5 σ5 H5 _ I5 (stat fr5) st5 stop) fun r s6 ⟨hr,I6⟩=>?_
      subst hr
      obtain⟨m,hm,_⟩:=I6.loc
      refine⟨m,hm,fun h7 hs7=>?_⟩
      have u0:Un (frs X.stack) fp (upd H2 s2.heap.objs.size (.lst [])) H5 h3 s6.heap:=I6.base
      have ne:∀b o,h3.get? b=some o->b≠h3.objs.size:=fun b o e=>Nat.ne_of_lt (Heap.lt_size e)
      have u:Un (frs X.stack) fp (upd H2 s2.heap.objs.size (.lst [])) H5 h3 h7:=⟨fun b o e n hb hx=>(hs7.2 b (ne b o e)).trans (u0.keep b o e n hb hx),
        fun b o e n hb hx=>let ⟨sl,q⟩:=u0.slot b o e n hb hx; ⟨sl,(hs7.2 b (ne b o e)).trans q⟩,u0.free,fun b o e hx=>let ⟨o',q⟩:=u0.there b o e hx; ⟨o',(hs7.2 b (ne b o e)).trans q⟩,u0.tups,u0.frzs,u0.tbls⟩
      have I7:Inv X pins σ H5 { s6 with heap:=h7 }:=I3.call' (s':={ s6 with heap:=h7 }) (ch:=fp) I6.os u (I6.hok.but I6.free hs7) I6.bare fun b hb=>⟨(f3 b hb).2.2.2.1,(f3 b hb).2.1,(f3 b hb).2.2.2.2.1,(f3 b hb).2.2.2.2.2⟩
      exact⟨.ref s2.heap.objs.size,H5,I7,rfl,qn⟩
    · refine thn (T.item (compCx X N scope cl { s2 with heap:=h3 } (upd H2 s2.heap.objs.size (.lst [])) fp pins) rfl rfl rfl hc i [] s5 σ5 H5 _ I5 (stat fr5) st5 go) fun r s6 ⟨u,hr,h6⟩=>?_
      subst hr
      refine thn h6 fun _ s7 ⟨x,H7,I7,r7,y7,st7,fr7⟩=>?_
      have I7':=I7.pinned (stat fr7) (T.obj _ _ st7)
      refine thn (hg _ _ _ _ _ _ s7 σ5 H7 x u _ I7' r7 (step x H7 y7)) fun _ s8 ⟨σ8,H8,I8,q8⟩=>?_
      refine thn (ht _ _ _ _ _ _ s8 σ8 H8 _ I8 q8) fun ok s9 ⟨H9,I9,q9⟩=>?_
      have again:∀ {s':Shared} {σ7:St} {H7:Hp},Inv (compCx X N scope cl { s2 with heap:=h3 } (upd H2 s2.heap.objs.size (.lst [])) fp pins) ([]++pinsAt fp s7.heap) σ7 H7 s'->(∃m',m'<n/\W (i+1) m' σ7 H7) ->
          ∃m,m<n /\ ∃i σ' H',Inv (compCx X N scope cl { s2 with heap:=h3 } (upd H2 s2.heap.objs.size (.lst [])) fp pins) [] σ' H' s'/\tn i s'.heap/\(∀b∈fp,H' b=none)/\W i m σ' H':=fun {s' σ7 H7} J7 n7=>by
        obtain⟨m',hm,w7⟩:=n7
        refine⟨m',hm,i+1,σ7,H7,J7.unpinned,T.keep _ _ _ st7 fun b hb o e=>(J7.pin (b,o) (List.mem_append_right _ (List.mem_append_right _ (mem_pinsAt hb e)))).1,fun b hb=>?_,w7⟩
        obtain⟨o,e,d⟩:=T.obj _ _ st7 b hb
        exact (J7.pin (b,o) (List.mem_append_right _ (List.mem_append_right _ (mem_pinsAt hb e)))).2.1
      cases ok with
      | false=>
        rw [if_neg Bool.false_ne_true] at q9 ⊢
        exact again I9 q9
      | true=>
        rw [if_pos rfl] at q9 ⊢
        refine thn (he _ _ _ _ _ _ s9 σ8 H9 _ I9 q9) fun yv s10 ⟨y,H10,I10,r10,ys,hys,hz,w10⟩=>?_
        refine thn (mt_append _ s10 σ8 H10 (.ref s2.heap.objs.size) [y] (.ref s2.heap.objs.size) [yv] (fun _ H11=>∃m',m'<n/\W (i+1) m' σ8 H11) I10 rfl (.cons r10 .nil) ⟨_,ys,y,rfl,rfl,hys,hz,w10⟩) fun _ s11 ⟨v11,H11,I11,r11,q11⟩=>?_
        exact again I11 q11
  exact codeAny_compStart_list loop (T.self _ 0 _ _ _ st4 loop)
end L2
set_option Elab.async false
set_option linter.all false
set_option maxRecDepth 100000
namespace L2
open PySem PySem.Spec PyProof.Rows
theorem bools_are:∀ {bs:List Bool} {us:List Value},Vals (bs.map V.bl) us->us=bs.map Value.bool
  | [],_,.nil=>rfl
  | b::r,_,.cons q t=>by
    cases (show _=Value.bool b from q)
    rw [bools_are t]; rfl
section
variable {X:Cx}
theorem call_any_list (hc:X.calm=true):CallR X (.builtin "any") (fun xs H Q=>∃(l:Addr) (bs:List Bool),xs=[.ref l]/\SqL X.K H l (bs.map V.bl)/\Q (.bl (bs.any id)) H):=by
 intro pins s σ H xs us Q I r h
 obtain⟨l,bs,rfl,hl,q⟩:=h
 obtain⟨u,rfl,ru⟩:=vals1 r
 cases (show u=Value.ref l from ru)
 obtain⟨its,rv,pl,hz⟩:=I.list hl
 have e:=bools_are rv
 subst e
 have hl':=pl.isList
 have hlt:l<s.heap.objs.size:=by obtain⟨_,e,_⟩:=hl'; exact Heap.lt_size e
 have hh:=I.ok.hd hc
 refine call_any_walk (wpAny_pyIter_list hl' ?_)
 refine ⟨s.heap.objs.size,[s.heap.objs.size,l],[s.heap.objs.size],(bs.map Value.bool).toArray.size,_,_,fun i=>(bs[i]?).getD false,rfl,Walks.list (A:=X.A.in1) hh _ l (Nat.ne_of_lt hlt) (bs.map Value.bool).toArray,
   ⟨⟨_,Heap.get?_push_size _ rfl,rfl,rfl⟩,hl'.push _⟩,fun i v s' Q' E' hP hQ=>?_,fun h' tk hk=>?_⟩
 · have hP':(bs.map Value.bool)[i]? = some v:=by simpa using hP
   rw [List.getElem?_map] at hP'
   cases e:bs[i]? with
   | none=>rw [e] at hP'; cases hP'
   | some b=>
     rw [e] at hP'
     cases hP'
     simp only [e,Option.getD_some] at hQ
     exact wpAny_truthy_bool hQ
 · have e:((List.range (bs.map Value.bool).toArray.size).any fun i=>(bs[i]?).getD false)=bs.any id:=by
     rw [List.size_toArray,List.length_map]; exact LSm.range_any bs
   rw [e]
   exact⟨.bl _,H,I.kept (LSm.kept_iter hk),rfl,q⟩
end
theorem comp_by {J:It} {g:TG} {tt:TT} {te:TE} {Q:VK} {D:Addr} {σ : St} {H:Hp} (n:Nat) (Pv:Nat->St->Hp->Prop) (h0:Pv 0 σ H)
    (hs:∀i σ H,i<n->Pv i σ H->J.go i H /\ ∀x H2,J.yld i H x H2->g x σ H2 fun σ3 H3=>tt σ3 H3 fun ok H4=>if ok=true then te σ3 H4 fun y H5=>∃ys,H5 D=some (.lst ys)/\ys.length<sizeLine /\ ∃m',m'<n-i/\m'=n-(i+1)/\i+1<=n/\Pv (i+1) σ3 (upd H5 D (.lst (ys++[y])))
      else ∃m',m'<n-i/\m'=n-(i+1)/\i+1<=n/\Pv (i+1) σ3 H4)
    (hd:∀ σ H,Pv n σ H->J.stop n H/\Q (.ref D) H) :
    CompW J g tt te Q D σ H:=by
  refine⟨fun i m σ H=>m=n-i/\i<=n/\Pv i σ H,⟨n,by simp,Nat.zero_le _,h0⟩,?_⟩
  rintro i m σ H ⟨rfl,hi,p⟩
  by_cases hlt:i<n
  · exact .inr (hs i σ H hlt p)
  · have e:i=n:=by omega
    subst e
    exact .inl (hd σ H p)
end L2
namespace L2
open PySem PySem.Spec PyProof.Rows
section
variable {X:Cx} {tg:Expr}
theorem ixK (K:PySem.W.Frag) (h:X.K=K):IxR X (fun x y H Q=>rIxL K x y H Q \/ rIxT K x y H Q):=by subst h; exact ix_list.or ix_tup
theorem lenK (K:PySem.W.Frag) (h:X.K=K):CallR X (.builtin "len") (fun xs H Q=>∃p ys,xs=[.ref p]/\(SqL K H p ys \/ SqT K H p ys)/\Q (.int ys.length) H):=by subst h; exact call_len_seq
theorem isiK (K:PySem.W.Frag) (h:X.K=K):CallR X (.builtin "isinstance") (fun xs H Q=>rIsi K xs H Q \/ rIsiT K xs H Q):=by subst h; exact call_isi.or call_isiT
theorem eqK (K:PySem.W.Frag) (h:X.K=K) (hu:X.A.units+64<cLine):OpR X (compareOp .Eq) (fun x y H Q=>rI0 (fun i j=>.bl (decide (i=j))) x y H Q \/ rEqD K x y H Q):=by subst h; exact op_eqA hu
theorem neK (K:PySem.W.Frag) (h:X.K=K) (hu:X.A.units+64<cLine):OpR X (compareOp .NotEq) (fun x y H Q=>rI0 (fun i j=>.bl (!decide (i=j))) x y H Q \/ rNeD K x y H Q):=by subst h; exact op_neA hu
theorem anyK (K:PySem.W.Frag) (h:X.K=K) (hc:X.calm=true):CallR X (.builtin "any") (fun xs H Q=>∃(l:Addr) (bs:List Bool),xs=[.ref l]/\SqL K H l (bs.map V.bl)/\Q (.bl (bs.any id)) H):=by subst h; exact call_any_list hc
def tTupA (t:TA):TE:=fun σ H Q=>t σ H fun xs H1=>xs.length<=sizeLine /\ ∀p H',Nw H1 H' p (.tup xs)->Q (.ref p) H'
def tLstA (t:TA):TE:=fun σ H Q=>t σ H fun xs H1=>xs.length<=sizeLine /\ ∀p H',Nw H1 H' p (.lst xs)->Q (.ref p) H'
theorem pe_tupA {es:List Expr} {t:TA} {pos:Pos} {x1} (h:PA X es t):PE X (.Tuple es x1 pos) (tTupA t):=by
 intro pins s σ H Q I hq
 refine wpAny_Tuple_spliced (thn (h pos pins s σ H _ I hq) fun us s1 ⟨xs,H1,I1,r,z,q⟩=>⟨by rw [<- r.length]; exact z,?_⟩)
 have hf:H1 s1.heap.objs.size=none:=I1.hok.fresh (Nat.le_refl _)
 refine⟨.ref s1.heap.objs.size,upd H1 s1.heap.objs.size (.tup xs),I1.laid (t':=s1.toks) (fun b u e=>Heap.get?_push_of_some _ e) (Nat.le_refl _) ?_,rfl,q _ _ (.of hf)⟩
 exact⟨z,us,r,⟨_,Heap.get?_push_size _ rfl,rfl,_,rfl⟩⟩
theorem pe_lstA {es:List Expr} {t:TA} {pos:Pos} (h:PA X es t):PE X (.List es pos) (tLstA t):=by
 intro pins s σ H Q I hq
 refine wpAny_List_spliced (thn (h pos pins s σ H _ I hq) fun us s1 ⟨xs,H1,I1,r,z,q⟩=>⟨by rw [<- r.length]; exact z,?_⟩)
 have hf:H1 s1.heap.objs.size=none:=I1.hok.fresh (Nat.le_refl _)
 refine⟨.ref s1.heap.objs.size,upd H1 s1.heap.objs.size (.lst xs),I1.laid (t':=s1.toks) (fun b u e=>Heap.get?_push_of_some _ e) (Nat.le_refl _) ?_,rfl,q _ _ (.of hf)⟩
 exact⟨z,us,0,r,Heap.get?_push_size _ rfl⟩
theorem piT (K:PySem.W.Frag) (h:X.K=K) {l:Expr} {tl:TE} (hl:PE X l tl):PI X tg l (iTup K tl):=by subst h; exact pi_tup hl
theorem pgT (K:PySem.W.Frag) (h:X.K=K) {es:List Expr} {k:Nat} {t:TGs} {n:Nat} {pos:Pos} (hc:X.calm=true) (hg:PGs X es t) (hn:(assignEach es X.env).length=n:=by rfl) (hst:(assignEach es X.env).findIdx? (·.1)=none:=by rfl) :
    PG X (.Tuple es k pos) (gTup K n t):=by subst h; exact pg_tup hc hg hn hst
theorem yesN {j:Nat} {x:V} {σ : St} {H:Hp} {A B:St->Hp->Prop} (h:A (σ.set j (some x)) H):gName j x σ H fun σ3 H3=>tYes σ3 H3 fun ok H4=>if ok=true then A σ3 H4 else B σ3 H4:=by
 show if true=true then A (σ.set j (some x)) H else B (σ.set j (some x)) H
 rw [if_pos rfl]; exact h
end
end L2
set_option Elab.async false
set_option linter.all false
set_option maxRecDepth 100000
namespace L2
open PySem PySem.Spec PyProof.Rows
section
variable {K:PySem.W.Frag} {H H':Hp}
variable {p:Addr} {n m:Nat} {v:V} {vs:List V} {d:PyData} {ds es:List PyData}
end
section
variable {X:Cx}
end
end L2
namespace HT
open PySem PySem.Spec PyProof.Rows
section
variable {prog:Program} {w:World} {A:Around} {E:Value->Shared->Prop} {s:Shared}
end
end HT
namespace L2
open PySem PySem.Spec PyProof.Rows
section
variable {X:Cx}
end
section
variable {X:Cx}
end
end L2
namespace L2
end L2
namespace L2
open PySem PySem.Spec PyProof.Rows
end L2
namespace L2
open PySem PySem.Spec PyProof.Rows
end L2
namespace L2
open PySem PySem.Spec PyProof.Rows
section
variable {X:Cx} {p pos pos':Pos} {a b e:Expr} {es:List Expr} {ta tb te:TE} {t:TA} {x:Str}
theorem px (K:PySem.W.Frag) (ha:PE X a ta) (hb:PE X b tb) (hK:X.K=K:=by rfl) (hp:PlainIx b:=by exact fun _ _=>rfl):PE X (.Subscript a b pos) (tOp (fun x y H Q=>rIxL K x y H Q \/ rIxT K x y H Q) ta tb):=pe_ix (ixK K hK) ha hb hp
theorem pIs (K:PySem.W.Frag) (B:Blt X.mg) (ha:PA X (e::es) t) (hK:X.K=K:=by rfl) (hg:Gl X "isinstance":=by rfl) (he:starEach (e::es) X.env=(false,eval e X.env)::starEach es X.env:=by rfl) (hpl:(backTo pos (starEach es X.env)).any (·.1)=false:=by rfl):PE X (.Call (.Name "isinstance" p) (e::es) [] pos) (tCB (fun xs H Q=>rIsi K xs H Q \/ rIsiT K xs H Q) t):=pe_callB (isiK K hK) hg (B.at "isinstance") PyProof.Rows.boot_isinstance ha (by decide) (by decide) he hpl
theorem pLen (K:PySem.W.Frag) (B:Blt X.mg) (ha:PA X (e::es) t) (hK:X.K=K:=by rfl) (hg:Gl X "len":=by rfl) (he:starEach (e::es) X.env=(false,eval e X.env)::starEach es X.env:=by rfl) (hpl:(backTo pos (starEach es X.env)).any (·.1)=false:=by rfl):PE X (.Call (.Name "len" p) (e::es) [] pos) (tCB (fun xs H Q=>∃p ys,xs=[.ref p]/\(SqL K H p ys \/ SqT K H p ys)/\Q (.int ys.length) H) t):=pe_callB (lenK K hK) hg (B.at "len") PySem.boot_len ha (by decide) (by decide) he hpl
theorem pS (i:Nat) (hN:X.N.Nodup) (he:PE X e te) (hi:X.N[i]? = some x:=by rfl) (hx:Loc X.env.scope x:=by first | exact Or.inl rfl | exact Or.inr rfl) (hs:swapsWith e (some (.Name x pos')) pos.line X.env=pure false:=by rfl) (hf:X.fn x=true \/ X.env.scope.names.lookup x=some .local:=by first | exact .inl rfl | exact .inr rfl | assumption):PS X (.Assign [.Name x pos'] e pos) (tAsg te (gName i)):=ps_set hN hi hx he hs hf
theorem pgn (i:Nat) (hN:X.N.Nodup) (hi:X.N[i]? = some x:=by rfl) (hx:Loc X.env.scope x:=by first | exact Or.inl rfl | exact Or.inr rfl) (hf:X.fn x=true \/ X.env.scope.names.lookup x=some .local:=by first | exact .inl rfl | exact .inr rfl | assumption):PG X (.Name x pos) (gName i):=pg_name hN hi hx hf
theorem nd1 (a:Str):[a].Nodup:=by simp
end
end L2
set_option Elab.async false
set_option linter.all false
set_option maxRecDepth 100000
namespace L2
open PySem PySem.Spec PyProof.Rows
section
variable {K:PySem.W.Frag} {mg:Str->Option Value} {h:Heap}
end
section
variable {X:Cx}
end
end L2
set_option Elab.async false
set_option linter.all false
set_option maxRecDepth 100000
namespace L2
open PySem PySem.Spec PyProof.Rows
section
variable {X:Cx}
open Classical in
end
end L2
namespace L2
end L2
set_option Elab.async false
set_option linter.all false
set_option maxRecDepth 100000
namespace L2
open PySem PySem.Spec PyProof.Rows
section
variable {prog:Program} {w:World} {A:Around} {E:Value->Shared->Prop} {s:Shared}
end
section
variable {X:Cx} {pins:List (Addr × Obj)} {σ : St} {H:Hp} {s:Shared} {h':Heap}
end
end L2
set_option Elab.async false
set_option linter.all false
set_option maxRecDepth 100000
namespace L2
open PySem PySem.Spec PyProof.Rows
end L2
set_option Elab.async false
set_option linter.all false
set_option maxRecDepth 100000
namespace L2
open PySem PySem.Spec PyProof.Rows
section
variable {P:Program} {w:World} {K:PySem.W.Frag} {mg:Str->Option Value} {base:Heap} {N:List Str} {qual:Str} {scope:Scope} {f:Addr} {cd:Value} {A:Around} {outer:List Env} {s:Shared} {H:Hp} {E:XK} {pins:List (Addr × Obj)} {σ : St} {H1:Hp} {s1:Shared} {h2:Heap} {ex:Addr} {cls:Value} {vs:List Value}
end
section
variable {X:Cx} {x:Str} {C:Addr} {bmB:List Value} {newId initId B:String} {e:Expr} {t:TA} {np cpos pos:Pos}
end
end L2
set_option Elab.async false
set_option linter.all false
set_option maxRecDepth 100000
namespace L2
open PySem PySem.Spec PyProof.Rows
section
variable {M:Model} {A:Around} {Ex:Value->Shared->Prop}
end
section
variable {X:Cx} {k:Nat} {x:Str} {p pos:Pos} {e:Expr} {es:List Expr} {t:TA} {sp:Sp}
end
section
variable {X:Cx} {pins:List (Addr × Obj)} {σ : St} {H:Hp} {s:Shared}
end
section
variable {X:Cx} {i:Nat} {n y:Str} {Dc:Addr} {bmD:List Value} {newD:String} {body suite:List Stmt} {b0:Stmt} {np hpos pos:Pos} {tb:XK->TS} {th:TS} {Cs:Addr->Prop}
end
end L2
set_option Elab.async false
set_option linter.all false
set_option maxRecDepth 100000
namespace L2
open PySem PySem.Spec PyProof.Rows PySem.W Builtin.Getset_descriptor
section
variable {prog:Program} {w:World} {A:Around} {E:Value->Shared->Prop} {h:Heap} {g:Array GenState} {d:Drawn} {t:Nat} {os:OsState} {K:Frag} {x C:Addr} {o:Obj}
end
end L2
set_option Elab.async false
set_option linter.all false
set_option maxRecDepth 100000
namespace L2
open PySem PySem.Spec PyProof.Rows
section
variable {X:Cx}
end
end L2
namespace L2
open PySem PySem.Spec PyProof.Rows
end L2
namespace L2
open PySem PySem.Spec PyProof.Rows
end L2
namespace Ar
theorem gcd_fm (a b:Int):Int.gcd b (a.fmod b)=Int.gcd a b:=by
 rw [Int.fmod_def,Int.gcd_sub_mul_left_right,Int.gcd_comm]
theorem fm_lt {a b:Int} (h:b≠0):(a.fmod b).natAbs<b.natAbs:=by
 rw [Int.fmod_eq_emod]
 have h0:=Int.emod_nonneg a h
 have h1:=Int.emod_lt a h
 by_cases hb:0<=b
 · rw [if_pos (.inl hb)]; omega
 · by_cases hd:b ∣ a
   · rw [if_pos (.inr hd),Int.emod_eq_zero_of_dvd hd]; omega
   · have:a % b≠0:=fun z=>hd (Int.dvd_of_emod_eq_zero z)
     rw [if_neg (by simp [hb,hd])]; omega
theorem gcd_em {a b:Int} (h:0<b):Int.gcd b (a % b)=Int.gcd a b:=by
 rw [<- Int.fmod_eq_emod_of_nonneg a (Int.le_of_lt h)]; exact gcd_fm a b
def sg (p q:Int):Int:=if q<0 then -(Int.gcd p q:Int) else (Int.gcd p q:Int)
def lowP (p q:Int):Int:=p.fdiv (sg p q)
def lowQ (p q:Int):Int:=q.fdiv (sg p q)
theorem gcd_pos {p q:Int} (h:q≠0):0<(Int.gcd p q:Int):=by
 have:Int.gcd p q≠0:=fun z=>h (Int.gcd_eq_zero_iff.mp z).2
 omega
theorem sg_ne {p q:Int} (h:q≠0):sg p q≠0:=by
 have:=gcd_pos (p:=p) h
 unfold sg; split <;> omega
theorem sg_dvd_left (p q:Int):sg p q ∣ p:=by
 unfold sg; split
 · exact Int.neg_dvd.mpr (Int.gcd_dvd_left p q)
 · exact Int.gcd_dvd_left p q
theorem sg_dvd_right (p q:Int):sg p q ∣ q:=by
 unfold sg; split
 · exact Int.neg_dvd.mpr (Int.gcd_dvd_right p q)
 · exact Int.gcd_dvd_right p q
theorem lowP_mul (p q:Int):sg p q*lowP p q=p:=by
 unfold lowP; rw [Int.fdiv_eq_ediv_of_dvd (sg_dvd_left p q)]; exact Int.mul_ediv_cancel' (sg_dvd_left p q)
theorem lowQ_mul (p q:Int):sg p q*lowQ p q=q:=by
 unfold lowQ; rw [Int.fdiv_eq_ediv_of_dvd (sg_dvd_right p q)]; exact Int.mul_ediv_cancel' (sg_dvd_right p q)
theorem sg_abs (p q:Int):(sg p q).natAbs=Int.gcd p q:=by unfold sg; split <;> omega
theorem low_cop {p q:Int} (h:q≠0):Int.gcd (lowP p q) (lowQ p q)=1:=by
 have e:Int.gcd (sg p q*lowP p q) (sg p q*lowQ p q)=(sg p q).natAbs*Int.gcd (lowP p q) (lowQ p q):=Int.gcd_mul_left _ _ _
 rw [lowP_mul,lowQ_mul,sg_abs] at e
 have g:=gcd_pos (p:=p) h
 have g':0<Int.gcd p q:=by omega
 have e':Int.gcd p q*1=Int.gcd p q*Int.gcd (lowP p q) (lowQ p q):=by omega
 exact (Nat.eq_of_mul_eq_mul_left g' e').symm
theorem lowQ_pos {p q:Int} (h:q≠0):0<lowQ p q:=by
 have e:=lowQ_mul p q
 have g:=gcd_pos (p:=p) h
 by_cases hq:q<0
 · have es:sg p q = -(Int.gcd p q:Int):=by unfold sg; rw [if_pos hq]
   rw [es] at e
   refine Int.not_le.mp fun hl=>?_
   have:0 <= -(Int.gcd p q:Int)*lowQ p q:=Int.mul_nonneg_of_nonpos_of_nonpos (by omega) hl
   omega
 · have es:sg p q=(Int.gcd p q:Int):=by unfold sg; rw [if_neg hq]
   rw [es] at e
   refine Int.not_le.mp fun hl=>?_
   have:(Int.gcd p q:Int)*lowQ p q<=0:=Int.mul_nonpos_of_nonneg_of_nonpos (by omega) hl
   omega
theorem abs_le_of_mul {s x y:Int} (hs:s≠0) (e:s*x=y):x.natAbs<=y.natAbs:=by
 rw [<- e,Int.natAbs_mul]
 exact Nat.le_mul_of_pos_left _ (by omega)
theorem lowP_le {p q:Int} (h:q≠0):(lowP p q).natAbs<=p.natAbs:=abs_le_of_mul (sg_ne h) (lowP_mul p q)
theorem lowQ_le {p q:Int} (h:q≠0):(lowQ p q).natAbs<=q.natAbs:=abs_le_of_mul (sg_ne h) (lowQ_mul p q)
theorem sg_le {p q:Int} (h:q≠0):(sg p q).natAbs<=q.natAbs:=by
 rw [sg_abs]
 exact Nat.le_of_dvd (by omega) (Int.gcd_dvd_natAbs_right p q)
end Ar
namespace Rt
open Rat
theorem low_rat {a b:Int} (hb:b≠0):Ar.lowP a b=(Rat.divInt a b).num/\Ar.lowQ a b=((Rat.divInt a b).den:Int):=by
 have hp:=Ar.lowQ_pos (p:=a) hb
 have hc:=Ar.low_cop (p:=a) hb
 have hden:(Ar.lowQ a b).natAbs≠0:=by omega
 have hcop:(Ar.lowP a b).natAbs.Coprime (Ar.lowQ a b).natAbs:=hc
 have e1:Rat.divInt a b=Rat.divInt (Ar.lowP a b) (Ar.lowQ a b):=by
  have h:=Rat.divInt_mul_left (a:=Ar.sg a b) (n:=Ar.lowP a b) (d:=Ar.lowQ a b) (Ar.sg_ne hb)
  rw [Ar.lowP_mul,Ar.lowQ_mul] at h
  exact h
 have e2:(⟨Ar.lowP a b,(Ar.lowQ a b).natAbs,hden,hcop⟩ : Rat)=Rat.divInt (Ar.lowP a b) (((Ar.lowQ a b).natAbs:Nat):Int):=Rat.mk_eq_divInt
 have e3:(((Ar.lowQ a b).natAbs:Nat):Int)=Ar.lowQ a b:=by omega
 rw [e3] at e2
 rw [e1,<- e2]
 exact⟨rfl,e3.symm⟩
theorem mul_div (r s:Rat):r*s=Rat.divInt (r.num*s.num) (r.den*s.den):=by
 have h:=Rat.divInt_mul_divInt r.num s.num (d₁:=r.den) (d₂:=s.den)
 rw [Rat.num_divInt_den,Rat.num_divInt_den] at h
 exact h
section
variable {n m:Nat} {r s:Rat}
end
end Rt
set_option Elab.async false
set_option linter.all false
set_option maxRecDepth 100000
namespace L2
open PySem PySem.Spec PyProof.Rows
section
variable {K:PySem.W.Frag} {H H' H2:Hp}
end
section
variable {X:Cx}
end
end L2
set_option Elab.async false
set_option linter.all false
set_option maxRecDepth 100000
set_option maxHeartbeats 1000000
namespace Lw
open PySem PySem.Spec PyProof.Rows L2
def OkCM (c m:Int):Prop:=0<=c/\0<=m/\m<2147483648
def IsBag (H:Hp) (p:Addr):Prop:=∃c m,H p=some (.lst [.int c,.int m])/\OkCM c m
structure BagX (p:Addr) (H H':Hp):Prop where
 bag:IsBag H' p
 same:∀b o,b≠p->H b=some o->H' b=some o
theorem BagX.refl {p:Addr} {H:Hp} (h:IsBag H p):BagX p H H:=⟨h,fun _ _ _ e=>e⟩
theorem BagX.trans {p:Addr} {H H1 H2:Hp} (a:BagX p H H1) (b:BagX p H1 H2):BagX p H H2:=⟨b.bag,fun c o n e=>b.same c o n (a.same c o n e)⟩
theorem BagX.upd {p:Addr} {H:Hp} {c m:Int} (h:OkCM c m):BagX p H (L2.upd H p (.lst [.int c,.int m])):=⟨⟨c,m,upd_same,h⟩,fun b o n e=>by rw [upd_ne n]; exact e⟩
theorem BagX.ofSame {p:Addr} {H H':Hp} (h:IsBag H p) (s:Same H H'):BagX p H H':=by
 obtain⟨c,m,e,ok⟩:=h
 exact⟨⟨c,m,s _ _ e,ok⟩,fun b o _ e=>s b o e⟩
theorem wd40 {j:Int} (h0:0<=j) (h:j<=10^40):Wd j:=by
 have:j.natAbs<=10^40:=by omega
 exact Nat.lt_of_le_of_lt this (by decide +kernel)
theorem IsBag.ne_tup {H:Hp} {p q:Addr} {xs:List V} (h:IsBag H p) (e:H q=some (.tup xs)):q≠p:=by
 obtain⟨c,m,e',_⟩:=h
 exact ne_of e e' (by intro z; cases z)
section
variable {K:PySem.W.Frag}
end
end Lw
set_option Elab.async false
set_option linter.all false
set_option maxRecDepth 100000
namespace Ln
open PySem L2
end Ln
set_option Elab.async false
set_option linter.all false
set_option maxRecDepth 100000
set_option maxHeartbeats 1000000
namespace Lw
open PySem PySem.Spec PyProof.Rows L2
def top (i:Nat):Stmt:=PySem.Challenge.pw_glidequeue_k03_fractions_reckoned.main.body.getD i (.Pass ⟨0,0,0,0⟩)
section
variable {P:Program} {w:World} {K:PySem.W.Frag} {mg:Str->Option Value} {base:Heap}
inductive IspTake (vs:List V) (H:Hp) (Q:VK):Prop
  | mk (p:_) (many:_) (h0:vs=[.ref p,.int many]) (h1:IsBag H p) (h2:1<=many) (h3:many<=10^40) (h4:∀d H',0<=d->d<many->BagX p H H'->Q (.int d) H'):IspTake vs H Q
def spTake:Sp:=fun vs H Q _=>IspTake vs H Q
abbrev sTake:Stmt:=top 8
theorem scTake:FnScope ["_law_bag_here","_law_many","_law_digit","_law_number_here","_law_room"] ["_law_bag_here","_law_many"] (defScope sTake):=scOf (by decide +kernel)
theorem ok_take (F:FA K mg "_law_take" sTake) (B:Blt mg):FnHas P w K mg base "_law_take" 1 spTake:=by
 refine F.has scTake (fun vs H Q E h=>?_) (fun _ _ _ _ _ _=>al2 fun _ _=>rfl) (fun f cdv A outer s H vs Q E hr h=>?_)
 · obtain⟨p,many,rfl,_⟩:=h
   rfl
 · obtain⟨p,many,rfl,⟨c,m,hp,ok⟩,h1,h2,k⟩:=h
   obtain⟨c0,m0,m1⟩:=id ok
   have nd:=scTake.nd
   refine⟨_,(pss_cons (ps_if (pt_cmpR op_gt (px K (pv 0) pe_int) pe_int (nomark _))
   (pss_cons (pS 2 nd (pe_op op_mod (px K (pv 0) pe_int) (pv 1)))
   (pss_cons (ps_asg (pe_op op_fdivW (px K (pv 0) pe_int) (pv 1)) (pg_sub (pv 0) pe_int set_list))
   (pss_one (ps_ret (pv 2)))))
   pss_nil)
   (pss_cons (pS 3 nd pe_int)
   (pss_cons (pS 4 nd pe_int)
   (pss_cons (ps_while PassesOwn.never (pt_cmpR op_lt (pv 4) (pv 1) (nomark _))
   (pss_cons (ps_asg (pe_op op_mod (pe_op op_pow (pe_op op_add (pe_op op_mulG (px K (pv 0) pe_int) pe_int) pe_int) pe_int) pe_int) (pg_sub (pv 0) pe_int set_list))
   (pss_cons (pS 3 nd (pe_op op_add (pe_op op_mulG (pv 3) pe_int) (pe_op op_mod (pe_op op_mulG (pe_op op_fdivW (px K (pv 0) pe_int) pe_int) pe_int) pe_int)))
   (pss_one (pS 4 nd (pe_op op_mulG (pv 4) pe_int))))))
   (pss_one (ps_ret (pe_op op_mod (pv 3) (pv 1)))))))),?_⟩
   refine⟨_,rfl,.inl ⟨p,_,0,.int c,rfl,rfl,SqL.of hp,rfl,_,_,rfl,rfl,_,rfl,?_⟩⟩
   refine ite2 (fun hc=>?_) (fun _=>?_)
   · refine⟨_,rfl,.inl ⟨p,_,0,.int c,rfl,rfl,SqL.of hp,rfl,_,rfl,_,_,rfl,rfl,h1,?_⟩⟩
     refine⟨_,rfl,.inl ⟨p,_,0,.int c,rfl,rfl,SqL.of hp,rfl,_,rfl,_,_,rfl,rfl,⟨h1,wd40 (by omega) h2⟩,?_⟩⟩
     refine⟨_,rfl,p,_,0,0,rfl,rfl,hp,rfl,?_⟩
     refine⟨_,rfl,?_⟩
     exact k _ _ (Int.emod_nonneg _ (by omega)) (Int.emod_lt_of_pos _ (by omega)) (BagX.upd ⟨Int.ediv_nonneg c0 (by omega),m0,m1⟩)
   · refine while_by (fun σ H2=>∃(v:Option V) (n r:Int),σ = [some (.ref p),some (.int many),v,some (.int n),some (.int r)]/\BagX p H H2/\1<=r) (fun σ _=>match σ with | [_,_,_,_,some (.int r)]=>(many-r).toNat | _=>0) ?_ ?_ ?_
     · exact⟨none,0,1,rfl,.refl ⟨c,m,hp,ok⟩,Int.le_refl _⟩
     · rintro σ H2 ⟨v,n,r,rfl,bx,hr1⟩
       obtain⟨c',m',hp',c0',m0',m1'⟩:=id bx.bag
       refine⟨_,rfl,_,rfl,_,_,rfl,rfl,_,rfl,?_⟩
       refine ite2 (fun hc=>?_) (fun hc=>?_)
       · have hlt:r<many:=of_decide_eq_true hc
         refine⟨_,rfl,.inl ⟨p,_,1,.int m',rfl,rfl,SqL.of hp',rfl,_,_,rfl,rfl,.of_right (intBits_le_64 (by decide) (by decide)),_,_,rfl,rfl,_,_,rfl,rfl,⟨by decide,by decide,?_⟩,_,_,rfl,rfl,(by show (0:Int)<2147483629; decide),?_⟩⟩
         · have h64:(2:Nat)^64=18446744073709551616:=by decide
           rw [h64]; omega
         refine⟨_,rfl,p,_,1,1,rfl,rfl,hp',rfl,?_⟩
         have g0:0<=((m'*48271+7919)^(3:Int).toNat) % 2147483629:=Int.emod_nonneg _ (by decide)
         have g1:((m'*48271+7919)^(3:Int).toNat) % 2147483629<2147483629:=Int.emod_lt_of_pos _ (by decide)
         have bx2:BagX p H (L2.upd H2 p (.lst [.int c',.int (((m'*48271+7919)^(3:Int).toNat) % 2147483629)])):=bx.trans (.upd ⟨c0',g0,Int.lt_trans g1 (by decide)⟩)
         refine⟨_,rfl,_,_,rfl,rfl,.of_right (intBits_le_64 (by decide) (by decide)),_,rfl,.inl ⟨p,_,1,.int _,rfl,rfl,SqL.of upd_same,rfl,_,_,rfl,rfl,⟨by decide,wd40 (by decide) (by decide)⟩,_,_,rfl,rfl,.of_right (intBits_le_64 (by decide) (by decide)),_,_,rfl,rfl,(by show (0:Int)<1073741789; decide),_,_,rfl,rfl,?_⟩⟩
         refine⟨_,rfl,_,_,rfl,rfl,.of_right (intBits_le_64 (by decide) (by decide)),?_⟩
         refine⟨⟨v,_,_,rfl,bx2,?_⟩,?_⟩
         · omega
         · show (many-r*1073741789).toNat<(many-r).toNat
           omega
       · refine⟨_,rfl,_,rfl,_,_,rfl,rfl,h1,?_⟩
         exact k _ _ (Int.emod_nonneg _ (by omega)) (Int.emod_lt_of_pos _ (by omega)) bx
     · rintro σ H2 Q1 Q2 hq ⟨v1,e1,v2,e2,i,j,e3,e4,kk,e5,q⟩
       exact⟨v1,e1,v2,e2,i,j,e3,e4,kk,e5,hq _ _ q⟩
end
end Lw
set_option Elab.async false
set_option linter.all false
set_option maxRecDepth 100000
set_option maxHeartbeats 1000000
namespace Lw
open PySem PySem.Spec PyProof.Rows L2
section
variable {P:Program} {w:World} {K:PySem.W.Frag} {mg:Str->Option Value} {base:Heap}
inductive IspBag (K:PySem.W.Frag) (vs:List V) (H:Hp) (Q:VK):Prop
  | mk (a:Addr) (ns:List Int) (at':Int) (h0:vs=[.ref a,.int at']) (h1:SqL K H a (ns.map V.int)) (h2:ns.length<=63) (h3:0<=at') (h4:at'<=100) (h5:∀p H',H p=none->IsBag H' p->Same H H'->Q (.ref p) H'):IspBag K vs H Q
def spBag (K:PySem.W.Frag):Sp:=fun vs H Q _=>IspBag K vs H Q
abbrev sBag:Stmt:=top 7
theorem scBag:FnScope ["_law_script","_law_at","_law_cell","_law_mix","_law_k"] ["_law_script","_law_at"] (defScope sBag):=scOf (by decide +kernel)
theorem ints_at {ns:List Int} {j:Nat} (h:j<ns.length):∃z,atI (ns.map V.int) (j:Int)=some (.int z):=
 ⟨ns[j],atI_nat (by simp [h])⟩
theorem ok_bag (F:FA K mg "_law_bag" sBag) (B:Blt mg):FnHas P w K mg base "_law_bag" 1 (spBag K):=by
 refine F.has scBag (fun vs H Q E h=>?_) (fun _ _ _ _ _ _=>al2 fun _ _=>rfl) (fun f cdv A outer s H vs Q E hr h=>?_)
 · obtain⟨a,ns,at',rfl,_⟩:=h
   rfl
 · obtain⟨a,ns,at',rfl,hS,hlen,h0,h1,k⟩:=h
   obtain⟨j,rfl⟩ : ∃j:Nat,at'=(j:Int):=⟨at'.toNat,by omega⟩
   have nd:=scBag.nd
   refine⟨_,(pss_cons (pS 2 nd pe_int)
   (pss_cons (ps_mid (ps_if (pt_cmpR op_lt (pv 1) (pLen K B (pa_cons (pv 0) pa_nil)) (nomark _))
   (pss_one (pS 2 nd (pe_callB (x:="abs") call_abs rfl (B.at "abs") PyProof.Rows.boot_abs (pa_cons (px K (pv 0) (pv 1)) pa_nil))))
   pss_nil))
   (pss_cons (pS 3 nd (pe_op op_add (pe_op op_add (pe_op op_mulG (pe_op op_mulG pe_int (pv 1)) (pv 1)) (pe_op op_mulG pe_int (pv 1))) pe_int))
   (pss_cons (ps_for PassesOwn.never rfl (pi_range1 rfl (B.at "range") (pa_cons (pe_callB (x:="min") (call_min2 rfl) rfl (B.at "min") PyProof.Rows.boot_min (pa_cons (pLen K B (pa_cons (pv 0) pa_nil)) (pa_cons pe_int pa_nil))) pa_nil)) (pgn 4 nd)
   (pss_one (pS 3 nd (pe_op op_mod (pe_op op_pow (pe_op op_add (pe_op op_add (pe_op op_mulG (pv 3) pe_int) (pe_op op_mod (px K (pv 0) (pv 4)) pe_int)) (pe_op op_mulG (pv 4) (pv 4))) pe_int) pe_int))))
   (pss_cons (ps_mid (ps_if (pt_cmpR op_lt (pv 2) (pe_op op_pow pe_int pe_int) (nomark _))
   (pss_one (pS 2 nd pe_int))
   pss_nil))
   (pss_one (ps_ret (pe_lstA (pa_cons (pv 2) (pa_cons (pv 3) pa_nil)))))))))),?_⟩
   refine⟨fun σ H'=>H'=H /\ ∃c:Int,σ = [some (.ref a),some (.int (j:Int)),some (.int c),none,none]/\0<=c,?_,?_⟩
   · refine⟨_,rfl,_,rfl,a,_,rfl,.inl hS,_,_,rfl,rfl,_,rfl,?_⟩
     refine ite2 (fun hc=>?_) (fun _=>?_)
     · have hj:(j:Int)<((ns.map V.int).length:Int):=of_decide_eq_true hc
       rw [List.length_map] at hj
       obtain⟨z,hz⟩:=ints_at (ns:=ns) (j:=j) (by omega)
       refine⟨_,rfl,_,rfl,.inl ⟨a,_,_,_,rfl,rfl,hS,hz,z,rfl,?_⟩⟩
       exact⟨rfl,_,rfl,by split <;> omega⟩
     · exact⟨rfl,0,rfl,Int.le_refl _⟩
   rintro σ H' ⟨rfl,c,rfl,c0⟩
   refine⟨_,rfl,_,_,rfl,rfl,.of_left (intBits_le_64 (by decide) (by decide)),_,rfl,_,_,rfl,rfl,.of_right (intBits_le_64 (by omega) (by omega)),_,rfl,_,_,rfl,rfl,.of_left (intBits_le_64 (by decide) (by decide)),_,_,rfl,rfl,_,_,rfl,rfl,?_⟩
   refine⟨_,rfl,a,_,rfl,.inl hS,_,_,rfl,_,rfl,?_,?_,?_⟩
   · split <;> omega
   · split <;> (try rw [List.length_map]) <;> omega
   refine for_range (Pv:=fun i σ H2=>H2=H' /\ ∃(m:Int) (v:Option V),σ = [some (.ref a),some (.int (j:Int)),some (.int c),some (.int m),v]/\0<=m/\m<2147483648) ?_ ?_ ?_
   · refine⟨rfl,_,none,rfl,?_,?_⟩
     · have:(0:Int)<=(j:Int)*(j:Int):=Int.mul_nonneg (by omega) (by omega)
       rw [Int.mul_assoc]; omega
     · have:(j:Int)*(j:Int)<=100*100:=Int.mul_le_mul (by omega) (by omega) (by omega) (by omega)
       rw [Int.mul_assoc]; omega
   · rintro i σ H2 hi ⟨rfl,m,v,rfl,m0,m1⟩
     have hi':i<ns.length:=by
      rw [List.length_map] at hi
      split at hi <;> omega
     obtain⟨z,hz⟩:=ints_at (ns:=ns) (j:=i) hi'
     rw [<- Int.zero_add (i:Int)] at hz
     have hz0:0<=z % 2147483647:=Int.emod_nonneg _ (by decide)
     have hz1:z % 2147483647<2147483647:=Int.emod_lt_of_pos _ (by decide)
     have hii0:(0:Int)<=(0+(i:Int))*(0+(i:Int)):=Int.mul_nonneg (by omega) (by omega)
     have hii:(0+(i:Int))*(0+(i:Int))<=100*100:=Int.mul_le_mul (by omega) (by omega) (by omega) (by omega)
     refine⟨_,rfl,_,_,rfl,rfl,.of_right (intBits_le_64 (by decide) (by decide)),_,rfl,_,rfl,.inl ⟨a,_,_,_,rfl,rfl,hS,hz,_,_,rfl,rfl,(by show (0:Int)<2147483647; decide),_,_,rfl,rfl,_,rfl,_,rfl,_,_,rfl,rfl,.of_right (intBits_le_64 (by omega) (by omega)),_,_,rfl,rfl,_,_,rfl,rfl,⟨by decide,by decide,?_⟩,_,_,rfl,rfl,(by show (0:Int)<2147483629; decide),?_⟩⟩
     · have h64:(2:Nat)^64=18446744073709551616:=by decide
       rw [h64]
       generalize (0+(i:Int))*(0+(i:Int))=ii at hii0 hii ⊢
       generalize z % 2147483647=zz at hz0 hz1 ⊢
       omega
     · exact⟨rfl,_,_,rfl,Int.emod_nonneg _ (by decide),Int.lt_trans (Int.emod_lt_of_pos _ (by decide)) (by decide)⟩
   · rintro σ H2 ⟨rfl,m,v,rfl,m0,m1⟩
     refine⟨fun σ H3=>H3=H2 /\ ∃c:Int,σ = [some (.ref a),some (.int (j:Int)),some (.int c),some (.int m),v]/\0<=c,?_,?_⟩
     · refine⟨_,rfl,_,_,rfl,rfl,⟨by decide,by decide,by decide⟩,_,_,rfl,rfl,_,rfl,?_⟩
       refine ite2 (fun hc=>?_) (fun _=>?_)
       · exact⟨rfl,0,rfl,Int.le_refl _⟩
       · exact⟨rfl,c,rfl,c0⟩
     rintro σ H3 ⟨rfl,c,rfl,c0⟩
     refine⟨_,rfl,_,rfl,(by show 2<=sizeLine; decide),fun p H4 nw=>?_⟩
     exact k p H4 nw.no ⟨c,m,nw.at',c0,m0,m1⟩ nw.same
inductive IspDiv (vs:List V) (H:Hp) (Q:VK):Prop
  | mk (a:Int) (b:Int) (h0:vs=[.int a,.int b]) (h1:Q (.int (Int.gcd a b)) H):IspDiv vs H Q
def spDiv:Sp:=fun vs H Q _=>IspDiv vs H Q
abbrev sDiv:Stmt:=top 10
theorem scDiv:FnScope ["_law_one","_law_other"] ["_law_one","_law_other"] (defScope sDiv):=scOf (by decide +kernel)
theorem ok_div (F:FA K mg "_law_divisor" sDiv) (B:Blt mg):FnHas P w K mg base "_law_divisor" 1 spDiv:=by
 refine F.has scDiv (fun vs H Q E h=>?_) (fun _ _ _ _ _ _=>al2 fun _ _=>rfl) (fun f cdv A outer s H vs Q E hr h=>?_)
 · obtain⟨a,b,rfl,_⟩:=h
   rfl
 · obtain⟨a,b,rfl,k⟩:=h
   have nd:=scDiv.nd
   refine⟨_,(pss_cons (ps_while PassesOwn.never (pt_cmpR (neK K rfl hr.units) (pv 1) pe_int (nomark _))
   (pss_one (ps_par (i:=0) (j:=1) rfl nd rfl rfl (by decide) rfl rfl (pa_cons (pv 1) (pa_cons (pe_op op_modN (pv 0) (pv 1)) pa_nil)) rfl)))
   (pss_one (ps_ret (pe_callB (x:="abs") call_abs rfl (B.at "abs") PyProof.Rows.boot_abs (pa_cons (pv 0) pa_nil))))),?_⟩
   refine while_by (fun σ H2=>H2=H /\ ∃(x y:Int),σ = [some (.int x),some (.int y)]/\Int.gcd x y=Int.gcd a b) (fun σ _=>match σ with | [_,some (.int y)]=>y.natAbs | _=>0) ?_ ?_ ?_
   · exact⟨rfl,a,b,rfl,rfl⟩
   · rintro σ H2 ⟨rfl,x,y,rfl,e⟩
     refine⟨_,rfl,.inl ⟨_,_,rfl,rfl,_,rfl,?_⟩⟩
     refine ite2 (fun hc=>?_) (fun hc=>?_)
     · have hy:y≠0:=by simpa using hc
       refine⟨_,rfl,_,rfl,_,rfl,_,_,rfl,rfl,hy,_,_,rfl,?_⟩
       exact⟨⟨rfl,_,_,rfl,(Ar.gcd_fm x y).trans e⟩,Ar.fm_lt hy⟩
     · have hy:y=0:=by simpa using hc
       subst hy
       refine⟨_,rfl,_,rfl,?_⟩
       rw [Int.gcd_zero_right] at e
       have e2:(if x<0 then -x else x)=((Int.gcd a b:Nat):Int):=by rw [<- e]; split <;> omega
       rw [e2]
       exact k
   · rintro σ H2 Q1 Q2 hq ⟨v1,e1,h⟩
     refine⟨v1,e1,?_⟩
     rcases h with ⟨i,j,e3,e4,kk,e5,q⟩ | ⟨d,e,r1,r2,s1,s2,kk,e5,q⟩
     · exact .inl ⟨i,j,e3,e4,kk,e5,hq _ _ q⟩
     · exact .inr ⟨d,e,r1,r2,s1,s2,kk,e5,hq _ _ q⟩
end
end Lw
set_option Elab.async false
set_option linter.all false
set_option maxRecDepth 100000
set_option maxHeartbeats 1000000
namespace Lw
open PySem PySem.Spec PyProof.Rows L2
section
variable {P:Program} {w:World} {K:PySem.W.Frag} {mg:Str->Option Value} {base:Heap}
inductive IspNum (vs:List V) (H:Hp) (Q:VK):Prop
  | mk (p:_) (h0:vs=[.ref p]) (h1:IsBag H p) (h2:∀d H',0<=d->d<10^30->BagX p H H'->Q (.int d) H'):IspNum vs H Q
def spNum:Sp:=fun vs H Q _=>IspNum vs H Q
abbrev sNum:Stmt:=top 11
theorem scNum:FnScope ["_law_bag_here","_law_how"] ["_law_bag_here"] (defScope sNum):=scOf (by decide +kernel)
theorem ok_num (F:FA K mg "_law_number" sNum) (B:Blt mg) (hL_take:FnHas P w K mg base "_law_take" 1 spTake):FnHas P w K mg base "_law_number" 2 spNum:=by
 refine F.has scNum (fun vs H Q E h=>?_) (fun _ _ _ _ _ _=>al1 fun _=>rfl) (fun f cdv A outer s H vs Q E hr h=>?_)
 · obtain⟨p,rfl,_⟩:=h
   rfl
 · obtain⟨p,rfl,bg,k⟩:=h
   have nd:=scNum.nd
   refine⟨_,(pss_cons (pS 1 nd (pf hL_take hr (pa_cons (pv 0) (pa_cons pe_int pa_nil))))
   (pss_cons (ps_if (pt_cmpR op_lt (pv 1) pe_int (nomark _))
   (pss_one (ps_ret (pf hL_take hr (pa_cons (pv 0) (pa_cons (px K (pe_lstA (pa_cons pe_int (pa_cons pe_int pa_nil))) (pv 1)) pa_nil)))))
   pss_nil)
   (pss_cons (ps_if (pt_cmpR (eqK K rfl hr.units) (pv 1) pe_int (nomark _))
   (pss_one (ps_ret (pf hL_take hr (pa_cons (pv 0) (pa_cons (pe_op op_pow pe_int pe_int) pa_nil)))))
   pss_nil)
   (pss_one (ps_ret (pe_op op_add (pe_op op_sub (pe_op op_shl pe_int (pf hL_take hr (pa_cons (pv 0) (pa_cons pe_int pa_nil)))) pe_int) (pf hL_take hr (pa_cons (pv 0) (pa_cons pe_int pa_nil))))))))),?_⟩
   refine⟨_,rfl,p,4,rfl,bg,by decide,by decide,fun d H1 d0 d1 b1=>?_⟩
   refine⟨_,rfl,_,_,rfl,rfl,_,rfl,?_⟩
   refine ite2 (fun hc=>?_) (fun hc=>?_)
   · have hd:d<2:=of_decide_eq_true hc
     refine⟨_,rfl,(by show 2<=sizeLine; decide),fun l H1' nw=>?_⟩
     have bl:BagX p H1 H1':=.ofSame b1.bag nw.same
     rcases (show d=0 \/ d=1 by omega) with rfl | rfl
     · refine⟨_,rfl,.inl ⟨l,_,_,.int 7,rfl,rfl,SqL.of nw.at',rfl,p,7,rfl,bl.bag,by decide,by decide,fun e H2 e0 e1 b2=>?_⟩⟩
       exact k e H2 e0 (by omega) (b1.trans (bl.trans b2))
     · refine⟨_,rfl,.inl ⟨l,_,_,.int 100,rfl,rfl,SqL.of nw.at',rfl,p,100,rfl,bl.bag,by decide,by decide,fun e H2 e0 e1 b2=>?_⟩⟩
       exact k e H2 e0 (by omega) (b1.trans (bl.trans b2))
   · refine⟨_,rfl,.inl ⟨_,_,rfl,rfl,_,rfl,?_⟩⟩
     refine ite2 (fun hc=>?_) (fun hc=>?_)
     · refine⟨_,rfl,_,_,rfl,rfl,⟨by decide,by decide,by decide⟩,p,10^30,rfl,b1.bag,by decide,by decide,fun e H2 e0 e1 b2=>?_⟩
       exact k e H2 e0 e1 (b1.trans b2)
     · refine⟨_,rfl,p,99,rfl,b1.bag,by decide,by decide,fun e H2 e0 e1 b2=>?_⟩
       refine⟨_,_,rfl,rfl,⟨e0,by omega,by decide⟩,_,_,rfl,rfl,_,rfl,p,3,rfl,b2.bag,by decide,by decide,fun g H3 g0 g1 b3=>?_⟩
       refine⟨_,_,rfl,rfl,?_⟩
       have hp0:(1:Int)<=1*2^e.toNat:=by
        rw [Int.one_mul,two_pow_cast]
        have:0<2^e.toNat:=Nat.two_pow_pos _
        omega
       have hp1:(1:Int)*2^e.toNat<=2^98:=by
        rw [Int.one_mul,two_pow_cast,two_pow_cast]
        have:2^e.toNat<=2^98:=Nat.pow_le_pow_right (by decide) (by omega)
        omega
       have h98:(2:Int)^98=316912650057057350374175801344:=by decide
       rw [h98] at hp1
       exact k _ H3 (by omega) (by omega) (b1.trans (b2.trans b3))
inductive IspLow (vs:List V) (H:Hp) (Q:VK):Prop
  | mk (a:Int) (b:Int) (h0:vs=[.int a,.int b]) (h1:b≠0) (h2:Wd b) (h3:∀t H',Nw H H' t (.tup [.int (Ar.lowP a b),.int (Ar.lowQ a b)])->Q (.ref t) H'):IspLow vs H Q
def spLow:Sp:=fun vs H Q _=>IspLow vs H Q
abbrev sLow:Stmt:=top 12
theorem scLow:FnScope ["_law_p","_law_q","_law_common"] ["_law_p","_law_q"] (defScope sLow):=scOf (by decide +kernel)
theorem ok_low (F:FA K mg "_law_lowest" sLow) (B:Blt mg) (hL_divisor:FnHas P w K mg base "_law_divisor" 1 spDiv):FnHas P w K mg base "_law_lowest" 2 spLow:=by
 refine F.has scLow (fun vs H Q E h=>?_) (fun _ _ _ _ _ _=>al2 fun _ _=>rfl) (fun f cdv A outer s H vs Q E hr h=>?_)
 · obtain⟨a,b,rfl,_⟩:=h
   rfl
 · obtain⟨a,b,rfl,hb,wb,k⟩:=h
   have nd:=scLow.nd
   have sw:Wd (Ar.sg a b):=Nat.lt_of_le_of_lt (Ar.sg_le hb) wb
   refine⟨_,(pss_cons (pS 2 nd (pf hL_divisor hr (pa_cons (pv 0) (pa_cons (pv 1) pa_nil))))
   (pss_cons (ps_mid (ps_if (pt_cmpR op_lt (pv 1) pe_int (nomark _))
   (pss_one (pS 2 nd (pe_un un_neg (pv 2))))
   pss_nil))
   (pss_one (ps_ret (pe_tupA (pa_cons (pe_op op_fdivNW (pv 0) (pv 2)) (pa_cons (pe_op op_fdivNW (pv 1) (pv 2)) pa_nil))))))),?_⟩
   refine⟨_,rfl,_,rfl,a,b,rfl,?_⟩
   refine⟨fun σ H'=>H'=H /\ σ = [some (.int a),some (.int b),some (.int (Ar.sg a b))],?_,?_⟩
   · refine⟨_,rfl,_,_,rfl,rfl,_,rfl,?_⟩
     refine ite2 (fun hc=>?_) (fun hc=>?_)
     · have hd:b<0:=of_decide_eq_true hc
       refine⟨_,rfl,_,rfl,?_⟩
       refine⟨rfl,?_⟩
       unfold Ar.sg; rw [if_pos hd]; rfl
     · have hd:¬b<0:=fun z=>hc (decide_eq_true z)
       refine⟨rfl,?_⟩
       unfold Ar.sg; rw [if_neg hd]; rfl
   rintro σ H' ⟨rfl,rfl⟩
   refine⟨_,rfl,_,rfl,_,_,rfl,rfl,⟨Ar.sg_ne hb,sw⟩,_,rfl,_,rfl,_,_,rfl,rfl,⟨Ar.sg_ne hb,sw⟩,(by show 2<=sizeLine; decide),fun t H4 nw=>?_⟩
   exact k t H4 nw
structure Fr30 (a b:Int):Prop where
 pos:0<b
 cop:Int.gcd a b=1
 na:a.natAbs<10^30
 nb:b<10^30
def FrAt (H:Hp) (v:V) (a b:Int):Prop:=∃p,v = .ref p/\H p=some (.tup [.int a,.int b])
inductive IspFrac (vs:List V) (H:Hp) (Q:VK):Prop
  | mk (p:_) (h0:vs=[.ref p]) (h1:IsBag H p) (h2:∀v a b H',Fr30 a b->FrAt H' v a b->BagX p H H'->Q v H'):IspFrac vs H Q
def spFrac:Sp:=fun vs H Q _=>IspFrac vs H Q
abbrev sFrac:Stmt:=top 13
theorem scFrac:FnScope ["_law_bag_here","_law_sign"] ["_law_bag_here"] (defScope sFrac):=scOf (by decide +kernel)
theorem ok_frac (F:FA K mg "_law_fraction" sFrac) (B:Blt mg) (hL_take:FnHas P w K mg base "_law_take" 1 spTake) (hL_number:FnHas P w K mg base "_law_number" 2 spNum) (hL_lowest:FnHas P w K mg base "_law_lowest" 2 spLow):FnHas P w K mg base "_law_fraction" 3 spFrac:=by
 refine F.has scFrac (fun vs H Q E h=>?_) (fun _ _ _ _ _ _=>al1 fun _=>rfl) (fun f cdv A outer s H vs Q E hr h=>?_)
 · obtain⟨p,rfl,_⟩:=h
   rfl
 · obtain⟨p,rfl,bg,k⟩:=h
   have nd:=scFrac.nd
   refine⟨_,(pss_cons (pS 1 nd (pe_op op_sub pe_int (pe_op op_mulG pe_int (pf hL_take hr (pa_cons (pv 0) (pa_cons pe_int pa_nil))))))
   (pss_one (ps_ret (pf hL_lowest hr (pa_cons (pe_op op_mulG (pv 1) (pf hL_number hr (pa_cons (pv 0) pa_nil))) (pa_cons (pe_op op_add pe_int (pe_op op_mod (pf hL_number hr (pa_cons (pv 0) pa_nil)) (pe_op op_sub (pe_op op_pow pe_int pe_int) pe_int))) pa_nil)))))),?_⟩
   refine⟨_,rfl,p,2,rfl,bg,by decide,by decide,fun d H1 d0 d1 b1=>?_⟩
   refine⟨_,_,rfl,rfl,.of_left (intBits_le_64 (by decide) (by decide)),_,_,rfl,rfl,?_⟩
   refine⟨_,rfl,_,rfl,p,rfl,b1.bag,fun n H2 n0 n1 b2=>?_⟩
   refine⟨_,_,rfl,rfl,.of_left (intBits_le_64 (by omega) (by omega)),_,rfl,p,rfl,b2.bag,fun m H3 m0 m1 b3=>?_⟩
   refine⟨_,_,rfl,rfl,⟨by decide,by decide,by decide⟩,_,_,rfl,rfl,_,_,rfl,rfl,(by show (0:Int)<10^30-1; decide),_,_,rfl,rfl,?_⟩
   have q0:0<=m % (10^30-1):=Int.emod_nonneg _ (by decide)
   have q1:m % (10^30-1)<10^30-1:=Int.emod_lt_of_pos _ (by decide)
   generalize hq:m % (10^30-1)=q at q0 q1
   have wq:Wd (1+q):=wd40 (by omega) (by omega)
   have hne:1+q≠0:=by omega
   have hA:((1-2*d)*n).natAbs<10^30:=by
    rw [Int.natAbs_mul]
    have e1:(1-2*d).natAbs=1:=by omega
    rw [e1,Nat.one_mul]; omega
   refine⟨_,_,rfl,(by show 1+m % (10^30-1)≠0; rw [hq]; exact hne),(by show Wd (1+m % (10^30-1)); rw [hq]; exact wq),fun t H4 nw=>?_⟩
   have at4:H4 t=some (.tup [.int (Ar.lowP ((1-2*d)*n) (1+q)),.int (Ar.lowQ ((1-2*d)*n) (1+q))]):=by rw [<- hq]; exact nw.at'
   refine k _ _ _ _ ⟨Ar.lowQ_pos hne,Ar.low_cop hne,Nat.lt_of_le_of_lt (Ar.lowP_le hne) hA,?_⟩ ⟨t,rfl,at4⟩ (b1.trans (b2.trans (b3.trans (.ofSame b3.bag nw.same))))
   have:=Ar.lowQ_le (p:=(1-2*d)*n) hne
   have:=Ar.lowQ_pos (p:=(1-2*d)*n) hne
   omega
end
end Lw
set_option Elab.async false
set_option linter.all false
set_option maxRecDepth 100000
set_option maxHeartbeats 1000000
namespace Lw
open PySem PySem.Spec PyProof.Rows L2
section
variable {P:Program} {w:World} {K:PySem.W.Frag} {mg:Str->Option Value} {base:Heap}
theorem wd30 {a:Int} (h:a.natAbs<10^30):Wd a:=Nat.lt_trans h (by decide +kernel)
theorem Fr30.wa {a b:Int} (h:Fr30 a b):Wd a:=wd30 h.na
theorem Fr30.wb {a b:Int} (h:Fr30 a b):Wd b:=wd30 (by have:=h.pos; have:=h.nb; omega)
abbrev FA3:=Addr × Int × Int
def FIn (H:Hp) (f:FA3):Prop:=H f.1=some (.tup [.int f.2.1,.int f.2.2])/\Fr30 f.2.1 f.2.2
theorem FIn.same {H H':Hp} {f:FA3} (h:FIn H f) (s:Same H H'):FIn H' f:=⟨s _ _ h.1,h.2⟩
theorem Fr30.bd {a b c d:Int} (h:Fr30 a b) (g:Fr30 c d):b*d≠0/\Wd (b*d):=by
 have h1:=h.pos
 have h2:=g.pos
 refine⟨Int.ne_of_gt (Int.mul_pos h1 h2),?_⟩
 have e1:b.natAbs<10^30:=by have:=h.nb; omega
 have e2:d.natAbs<10^30:=by have:=g.nb; omega
 show (b*d).natAbs<2^5000
 rw [Int.natAbs_mul]
 exact Nat.lt_trans (Nat.mul_lt_mul'' e1 e2) (by decide +kernel)
def isW (T:String):Bool:=tyIs T "int" && !tyIs T "bool"
inductive IspIsW (K:PySem.W.Frag) (vs:List V) (H:Hp) (Q:VK):Prop
  | mk (v:_) (T:_) (h0:vs=[v]) (h1:TyN K H v T) (h2:Q (.bl (isW T)) H):IspIsW K vs H Q
def spIsW (K:PySem.W.Frag):Sp:=fun vs H Q _=>IspIsW K vs H Q
abbrev sCD:Stmt:=top 5
theorem scCD:FnScope ["p","q","high","low"] ["p","q"] (defScope sCD):=scOf (by decide +kernel)
theorem ok_cd (F:FA K mg "common_divisor" sCD) (B:Blt mg):FnHas P w K mg base "common_divisor" 1 spDiv:=by
 refine F.has scCD (fun vs H Q E h=>?_) (fun _ _ _ _ _ _=>al2 fun _ _=>rfl) (fun f cdv A outer s H vs Q E hr h=>?_)
 · obtain⟨a,b,rfl,_⟩:=h
   rfl
 · obtain⟨a,b,rfl,k⟩:=h
   have nd:=scCD.nd
   refine⟨_,(pss_cons (ps_par (i:=2) (j:=3) rfl nd rfl rfl (by decide) rfl rfl (pa_cons (pe_callB (x:="abs") call_abs rfl (B.at "abs") PyProof.Rows.boot_abs (pa_cons (pv 0) pa_nil)) (pa_cons (pe_callB (x:="abs") call_abs rfl (B.at "abs") PyProof.Rows.boot_abs (pa_cons (pv 1) pa_nil)) pa_nil)) rfl)
   (pss_cons (ps_while PassesOwn.never (pt_cmpR (neK K rfl hr.units) (pv 3) pe_int (nomark _))
   (pss_one (ps_par (i:=2) (j:=3) rfl nd rfl rfl (by decide) rfl rfl (pa_cons (pv 3) (pa_cons (pe_op op_mod (pv 2) (pv 3)) pa_nil)) rfl)))
   (pss_one (ps_ret (pv 2))))),?_⟩
   refine⟨_,rfl,_,rfl,_,rfl,_,rfl,_,_,rfl,?_⟩
   refine while_by (fun σ H2=>H2=H /\ ∃(x y:Int),σ = [some (.int a),some (.int b),some (.int x),some (.int y)]/\0<=x/\0<=y/\Int.gcd x y=Int.gcd a b) (fun σ _=>match σ with | [_,_,_,some (.int y)]=>y.natAbs | _=>0) ?_ ?_ ?_
   · refine⟨rfl,_,_,rfl,by split <;> omega,by split <;> omega,?_⟩
     have h1:(if a<0 then -a else a).natAbs=a.natAbs:=by split <;> omega
     have h2:(if b<0 then -b else b).natAbs=b.natAbs:=by split <;> omega
     unfold Int.gcd
     rw [h1,h2]
   · rintro σ H2 ⟨rfl,x,y,rfl,x0,y0,e⟩
     refine⟨_,rfl,.inl ⟨_,_,rfl,rfl,_,rfl,?_⟩⟩
     refine ite2 (fun hc=>?_) (fun hc=>?_)
     · have hy:y≠0:=by simpa using hc
       have hy':0<y:=by omega
       refine⟨_,rfl,_,rfl,_,rfl,_,_,rfl,rfl,hy',_,_,rfl,?_⟩
       refine⟨⟨rfl,_,_,rfl,y0,Int.emod_nonneg _ hy,(Ar.gcd_em hy').trans e⟩,?_⟩
       show (x % y).natAbs<y.natAbs
       have:=Int.emod_nonneg x hy
       have:=Int.emod_lt_of_pos x hy'
       omega
     · have hy:y=0:=by simpa using hc
       subst hy
       refine⟨_,rfl,?_⟩
       rw [Int.gcd_zero_right] at e
       have e2:x=((Int.gcd a b:Nat):Int):=by omega
       rw [e2]
       exact k
   · rintro σ H2 Q1 Q2 hq ⟨v1,e1,h⟩
     refine⟨v1,e1,?_⟩
     rcases h with ⟨i,j,e3,e4,kk,e5,q⟩ | ⟨d,e,r1,r2,s1,s2,kk,e5,q⟩
     · exact .inl ⟨i,j,e3,e4,kk,e5,hq _ _ q⟩
     · exact .inr ⟨d,e,r1,r2,s1,s2,kk,e5,hq _ _ q⟩
end
end Lw
set_option Elab.async false
set_option linter.all false
set_option maxRecDepth 100000
set_option maxHeartbeats 1000000
namespace Lw
open PySem PySem.Spec PyProof.Rows L2
section
variable {P:Program} {w:World} {K:PySem.W.Frag} {mg:Str->Option Value} {base:Heap}
abbrev sLW:Stmt:=top 9
theorem scLW:FnScope ["_law_thing"] ["_law_thing"] (defScope sLW):=scOf (by decide +kernel)
theorem ok_lw (F:FA K mg "_law_is_whole" sLW) (B:Blt mg):FnHas P w K mg base "_law_is_whole" 1 (spIsW K):=by
 refine F.has scLW (fun vs H Q E h=>?_) (fun _ _ _ _ _ _=>al1 fun _=>rfl) (fun f cdv A outer s H vs Q E hr h=>?_)
 · obtain⟨v,T,rfl,_⟩:=h
   rfl
 · obtain⟨v,T,rfl,ty,k⟩:=h
   have nd:=scLW.nd
   refine⟨_,(pss_one (ps_ret (pe_and (pIs K B (pa_cons (pv 0) (pa_cons (pe_bltn (x:="int") (v:=.ty "int") rfl (B.at "int") PyProof.Rows.boot_int rfl) pa_nil))) (pe_one (pe_not (pIs K B (pa_cons (pv 0) (pa_cons (pe_bltn (x:="bool") (v:=.ty "bool") rfl (B.at "bool") PyProof.Rows.boot_bool rfl) pa_nil)))))))),?_⟩
   refine⟨_,rfl,.inl ⟨_,T,"int",_,rfl,ty,by decide,rfl,_,rfl,?_⟩⟩
   unfold isW at k
   refine ite2 (fun hc=>?_) (fun hc=>?_)
   · refine⟨_,rfl,.inl ⟨_,T,"bool",_,rfl,ty,by decide,rfl,_,rfl,?_⟩⟩
     rw [hc,Bool.true_and] at k
     exact k
   · rw [Bool.eq_false_iff.mpr hc,Bool.false_and] at k
     exact k
end
end Lw
set_option Elab.async false
set_option linter.all false
set_option maxRecDepth 100000
set_option maxHeartbeats 1000000
namespace Lw
open PySem PySem.Spec PyProof.Rows L2
section
variable {P:Program} {w:World} {K:PySem.W.Frag} {mg:Str->Option Value} {base:Heap}
abbrev sLT:Stmt:=top 4
theorem scLT:FnScope ["p","q","divisor"] ["p","q"] (defScope sLT):=scOf (by decide +kernel)
theorem ok_lt (F:FA K mg "lowest_terms" sLT) (B:Blt mg) (hcommon_divisor:FnHas P w K mg base "common_divisor" 1 spDiv):FnHas P w K mg base "lowest_terms" 2 spLow:=by
 refine F.has scLT (fun vs H Q E h=>?_) (fun _ _ _ _ _ _=>al2 fun _ _=>rfl) (fun f cdv A outer s H vs Q E hr h=>?_)
 · obtain⟨a,b,rfl,_⟩:=h
   rfl
 · obtain⟨a,b,rfl,hb,wb,k⟩:=h
   have nd:=scLT.nd
   have sw:Wd (Ar.sg a b):=Nat.lt_of_le_of_lt (Ar.sg_le hb) wb
   refine⟨_,(pss_cons (pS 2 nd (pf hcommon_divisor hr (pa_cons (pv 0) (pa_cons (pv 1) pa_nil))))
   (pss_cons (ps_mid (ps_if (pt_cmpR op_lt (pv 1) pe_int (nomark _))
   (pss_one (pS 2 nd (pe_un un_neg (pv 2))))
   pss_nil))
   (pss_one (ps_ret (pe_tupA (pa_cons (pe_op op_fdivNW (pv 0) (pv 2)) (pa_cons (pe_op op_fdivNW (pv 1) (pv 2)) pa_nil))))))),?_⟩
   refine⟨_,rfl,_,rfl,a,b,rfl,?_⟩
   refine⟨fun σ H'=>H'=H /\ σ = [some (.int a),some (.int b),some (.int (Ar.sg a b))],?_,?_⟩
   · refine⟨_,rfl,_,_,rfl,rfl,_,rfl,?_⟩
     refine ite2 (fun hc=>?_) (fun hc=>?_)
     · have hd:b<0:=of_decide_eq_true hc
       refine⟨_,rfl,_,rfl,?_⟩
       refine⟨rfl,?_⟩
       unfold Ar.sg; rw [if_pos hd]; rfl
     · have hd:¬b<0:=fun z=>hc (decide_eq_true z)
       refine⟨rfl,?_⟩
       unfold Ar.sg; rw [if_neg hd]; rfl
   rintro σ H' ⟨rfl,rfl⟩
   refine⟨_,rfl,_,rfl,_,_,rfl,rfl,⟨Ar.sg_ne hb,sw⟩,_,rfl,_,rfl,_,_,rfl,rfl,⟨Ar.sg_ne hb,sw⟩,(by show 2<=sizeLine; decide),fun t H4 nw=>?_⟩
   exact k t H4 nw
theorem xr_dvd {a:Int} {b:Nat} {x:Rat} (hb:b≠0) (hx:Rat.divInt a b=x):∃g,a=x.num*g/\(b:Int)=x.den*g:=by
 obtain⟨g,_,p⟩:=Rat.divInt_num_den (z':=x.den_nz) (c:=x.reduced) (by omega) hx
 exact⟨g,p⟩
theorem xr_mul {r s x y:Rat} (hx:Rat.divInt r.num s.den=x) (hy:Rat.divInt s.num r.den=y) (m:r*s=Rat.divInt (r.num*s.num) (r.den*s.den)):x.num*y.num=(r*s).num/\(y.den:Int)*x.den=(r*s).den:=by
 obtain⟨g,h1,h2⟩:=xr_dvd s.den_nz hx
 obtain⟨h,h3,h4⟩:=xr_dvd r.den_nz hy
 have w:∀ {q:Rat} {a b g h:Int},q.num=a*g->q.den=b*h->a.natAbs.Coprime b.natAbs:=fun {q a b g h} p z=>by
  have c:Int.gcd q.num q.den=1:=q.reduced
  rw [p,z,Int.gcd_eq_natAbs_gcd_natAbs,Int.natAbs_mul,Int.natAbs_mul] at c
  exact Nat.Coprime.coprime_mul_right_right (Nat.Coprime.coprime_mul_right c)
 have c:(x.num*y.num).natAbs.gcd (x.den*y.den)=1:=by
  rw [Int.natAbs_mul]; exact Nat.Coprime.mul_left (Nat.Coprime.mul_right x.reduced (w h1 h4)) (Nat.Coprime.mul_right (w h3 h2) y.reduced)
 have e:r*s=x*y:=by rw [m,<- hx,<- hy,Rat.divInt_mul_divInt,Int.mul_comm (s.den:Int)]
 rw [e,Rat.num_mul,Rat.den_mul,c,Nat.div_one,Nat.mul_comm x.den]
 exact⟨(Int.ediv_one _).symm,rfl⟩
theorem xr_low {a b c d:Int} (pb:0<b) (pd:0<d) (e:Int.gcd a b=1) (e':Int.gcd c d=1):Ar.lowP a d*Ar.lowP c b=Ar.lowP (a*c) (b*d)/\Ar.lowQ c b*Ar.lowQ a d=Ar.lowQ (a*c) (b*d):=by
 obtain⟨m,rfl⟩:=Int.eq_ofNat_of_zero_le (Int.le_of_lt pb)
 obtain⟨n,rfl⟩:=Int.eq_ofNat_of_zero_le (Int.le_of_lt pd)
 have h:=xr_mul (r:=⟨a,m,by omega,e⟩) (s:=⟨c,n,by omega,e'⟩) rfl rfl (Rt.mul_div _ _)
 rw [Rt.mul_div] at h
 obtain⟨p1,q1⟩:=Rt.low_rat (a:=a) (b:=n) (by omega)
 obtain⟨p2,q2⟩:=Rt.low_rat (a:=c) (b:=m) (by omega)
 obtain⟨p3,q3⟩:=Rt.low_rat (a:=a*c) (b:=m*n) (Int.ne_of_gt (Int.mul_pos pb pd))
 rw [p1,p2,p3,q1,q2,q3]
 exact h
structure NS (H H':Hp) (p:Addr) (o:HO):Prop where
 at':H' p=some o
 same:Same H H'
inductive IspTwo (p:Int->Int->Int->Int->Int) (q:Int->Int->Int->Int->Int) (vs:List V) (H:Hp) (Q:VK):Prop
  | mk (f:FA3) (g:FA3) (h0:vs=[.ref f.1,.ref g.1]) (h1:FIn H f) (h2:FIn H g) (h3:∀t H',NS H H' t (.tup [.int (Ar.lowP (p f.2.1 f.2.2 g.2.1 g.2.2) (f.2.2*g.2.2)),.int (Ar.lowQ (q f.2.1 f.2.2 g.2.1 g.2.2) (f.2.2*g.2.2))])->Q (.ref t) H'):IspTwo p q vs H Q
def spTwo (p q:Int->Int->Int->Int->Int):Sp:=fun vs H Q _=>IspTwo p q vs H Q
abbrev pPlus (a b c d:Int):Int:=a*d+c*b
abbrev pMinus (a b c d:Int):Int:=a*d-c*b
abbrev pTimes (a b c d:Int):Int:=a*c
abbrev sPlus:Stmt:=top 1
theorem scPlus:FnScope ["one","other","p","q","r","s"] ["one","other"] (defScope sPlus):=scOf (by decide +kernel)
theorem ok_plus (F:FA K mg "plus" sPlus) (B:Blt mg) (hlowest_terms:FnHas P w K mg base "lowest_terms" 2 spLow):FnHas P w K mg base "plus" 3 (spTwo pPlus pPlus):=by
 refine F.has scPlus (fun vs H Q E h=>?_) (fun _ _ _ _ _ _=>al2 fun _ _=>rfl) (fun f cdv A outer s H vs Q E hr h=>?_)
 · obtain⟨f,g,rfl,_⟩:=h
   rfl
 · obtain⟨f,g,rfl,⟨hf,f3⟩,⟨hg,g3⟩,k⟩:=h
   have nd:=scPlus.nd
   refine⟨_,(pss_cons (ps_asg (pv 0) (pgT K rfl (n:=2) rfl (pgs_cons (pgn 2 nd) (pgs_cons (pgn 3 nd) pgs_nil))))
   (pss_cons (ps_asg (pv 1) (pgT K rfl (n:=2) rfl (pgs_cons (pgn 4 nd) (pgs_cons (pgn 5 nd) pgs_nil))))
   (pss_one (ps_ret (pf hlowest_terms hr (pa_cons (pe_op op_add (pe_op op_mulG (pv 2) (pv 5)) (pe_op op_mulG (pv 4) (pv 3))) (pa_cons (pe_op op_mulG (pv 3) (pv 5)) pa_nil))))))),?_⟩
   refine⟨_,rfl,_,_,rfl,SqT.of hf,rfl,_,_,rfl,_,_,rfl,rfl,?_⟩
   refine⟨_,rfl,_,_,rfl,SqT.of hg,rfl,_,_,rfl,_,_,rfl,rfl,?_⟩
   refine⟨_,rfl,_,rfl,_,_,rfl,rfl,IntMulOk.of_bits f3.wa.bits g3.wb.bits,_,rfl,_,rfl,_,_,rfl,rfl,IntMulOk.of_bits g3.wa.bits f3.wb.bits,_,_,rfl,rfl,_,rfl,_,rfl,_,_,rfl,rfl,IntMulOk.of_bits f3.wb.bits g3.wb.bits,?_⟩
   exact⟨_,_,rfl,(f3.bd g3).1,(f3.bd g3).2,fun t H' n=>k t H' ⟨n.at',n.same⟩⟩
abbrev sMinus:Stmt:=top 2
theorem scMinus:FnScope ["one","other","p","q","r","s"] ["one","other"] (defScope sMinus):=scOf (by decide +kernel)
theorem ok_minus (F:FA K mg "minus" sMinus) (B:Blt mg) (hlowest_terms:FnHas P w K mg base "lowest_terms" 2 spLow):FnHas P w K mg base "minus" 3 (spTwo pMinus pMinus):=by
 refine F.has scMinus (fun vs H Q E h=>?_) (fun _ _ _ _ _ _=>al2 fun _ _=>rfl) (fun f cdv A outer s H vs Q E hr h=>?_)
 · obtain⟨f,g,rfl,_⟩:=h
   rfl
 · obtain⟨f,g,rfl,⟨hf,f3⟩,⟨hg,g3⟩,k⟩:=h
   have nd:=scMinus.nd
   refine⟨_,(pss_cons (ps_asg (pv 0) (pgT K rfl (n:=2) rfl (pgs_cons (pgn 2 nd) (pgs_cons (pgn 3 nd) pgs_nil))))
   (pss_cons (ps_asg (pv 1) (pgT K rfl (n:=2) rfl (pgs_cons (pgn 4 nd) (pgs_cons (pgn 5 nd) pgs_nil))))
   (pss_one (ps_ret (pf hlowest_terms hr (pa_cons (pe_op op_sub (pe_op op_mulG (pv 2) (pv 5)) (pe_op op_mulG (pv 4) (pv 3))) (pa_cons (pe_op op_mulG (pv 3) (pv 5)) pa_nil))))))),?_⟩
   refine⟨_,rfl,_,_,rfl,SqT.of hf,rfl,_,_,rfl,_,_,rfl,rfl,?_⟩
   refine⟨_,rfl,_,_,rfl,SqT.of hg,rfl,_,_,rfl,_,_,rfl,rfl,?_⟩
   refine⟨_,rfl,_,rfl,_,_,rfl,rfl,IntMulOk.of_bits f3.wa.bits g3.wb.bits,_,rfl,_,rfl,_,_,rfl,rfl,IntMulOk.of_bits g3.wa.bits f3.wb.bits,_,_,rfl,rfl,_,rfl,_,rfl,_,_,rfl,rfl,IntMulOk.of_bits f3.wb.bits g3.wb.bits,?_⟩
   exact⟨_,_,rfl,(f3.bd g3).1,(f3.bd g3).2,fun t H' n=>k t H' ⟨n.at',n.same⟩⟩
abbrev sTimes:Stmt:=top 3
theorem scTimes:FnScope ["one","other","p","s","r","q"] ["one","other"] (defScope sTimes):=scOf (by decide +kernel)
theorem ok_times (F:FA K mg "times" sTimes) (B:Blt mg) (hlowest_terms:FnHas P w K mg base "lowest_terms" 2 spLow):FnHas P w K mg base "times" 3 (spTwo pTimes pTimes):=by
 refine F.has scTimes (fun vs H Q E h=>?_) (fun _ _ _ _ _ _=>al2 fun _ _=>rfl) (fun f cdv A outer s H vs Q E hr h=>?_)
 · obtain⟨f,g,rfl,_⟩:=h
   rfl
 · obtain⟨f,g,rfl,⟨hf,f3⟩,⟨hg,g3⟩,k⟩:=h
   have nd:=scTimes.nd
   have nf:=Int.ne_of_gt f3.pos
   have ng:=Int.ne_of_gt g3.pos
   refine⟨_,(pss_cons (ps_asg (pf hlowest_terms hr (pa_cons (px K (pv 0) pe_int) (pa_cons (px K (pv 1) pe_int) pa_nil))) (pgT K rfl (n:=2) rfl (pgs_cons (pgn 2 nd) (pgs_cons (pgn 3 nd) pgs_nil))))
   (pss_cons (ps_asg (pf hlowest_terms hr (pa_cons (px K (pv 1) pe_int) (pa_cons (px K (pv 0) pe_int) pa_nil))) (pgT K rfl (n:=2) rfl (pgs_cons (pgn 4 nd) (pgs_cons (pgn 5 nd) pgs_nil))))
   (pss_one (ps_ret (pe_tupA (pa_cons (pe_op op_mulG (pv 2) (pv 4)) (pa_cons (pe_op op_mulG (pv 5) (pv 3)) pa_nil))))))),?_⟩
   refine⟨_,rfl,Or.inr ⟨_,_,_,_,rfl,rfl,SqT.of hf,rfl,_,rfl,Or.inr ⟨_,_,_,_,rfl,rfl,SqT.of hg,rfl,_,_,rfl,ng,g3.wb,fun t1 H1 n1=>?_⟩⟩⟩
   refine⟨_,_,rfl,SqT.of n1.at',rfl,_,_,rfl,_,_,rfl,rfl,?_⟩
   refine⟨_,rfl,Or.inr ⟨_,_,_,_,rfl,rfl,SqT.of (n1.same _ _ hg),rfl,_,rfl,Or.inr ⟨_,_,_,_,rfl,rfl,SqT.of (n1.same _ _ hf),rfl,_,_,rfl,nf,f3.wb,fun t2 H2 n2=>?_⟩⟩⟩
   refine⟨_,_,rfl,SqT.of n2.at',rfl,_,_,rfl,_,_,rfl,rfl,?_⟩
   have l1:Wd (Ar.lowP f.2.1 g.2.2):=Nat.lt_of_le_of_lt (Ar.lowP_le ng) f3.wa
   have l2:Wd (Ar.lowQ f.2.1 g.2.2):=Nat.lt_of_le_of_lt (Ar.lowQ_le ng) g3.wb
   have l3:Wd (Ar.lowP g.2.1 f.2.2):=Nat.lt_of_le_of_lt (Ar.lowP_le nf) g3.wa
   have l4:Wd (Ar.lowQ g.2.1 f.2.2):=Nat.lt_of_le_of_lt (Ar.lowQ_le nf) f3.wb
   refine⟨_,rfl,_,rfl,_,_,rfl,rfl,IntMulOk.of_bits l1.bits l3.bits,_,rfl,_,rfl,_,_,rfl,rfl,IntMulOk.of_bits l4.bits l2.bits,(by show 2<=sizeLine; decide),fun t H' n=>?_⟩
   obtain⟨e1,e2⟩:=xr_low f3.pos g3.pos f3.cop g3.cop
   refine k t H' ⟨?_,n1.same.trans (n2.same.trans n.same)⟩
   show H' t=some (.tup [.int (Ar.lowP (f.2.1*g.2.1) _),.int (Ar.lowQ (f.2.1*g.2.1) _)])
   rw [<- e1,<- e2]; exact n.at'
end
end Lw
set_option Elab.async false
set_option linter.all false
set_option maxRecDepth 100000
set_option maxHeartbeats 1000000
namespace Lw
open PySem PySem.Spec PyProof.Rows L2
section
variable {P:Program} {w:World} {K:PySem.W.Frag} {mg:Str->Option Value} {base:Heap}
inductive IspRight (vs:List V) (H:Hp) (Q:VK):Prop
  | mk (t:Addr) (u:Addr) (a:Int) (b:Int) (h0:vs=[.ref t,.ref u]) (h1:H t=some (.tup [.int a,.int b])) (h2:H u=some (.tup [.int a,.int b])) (h3:∀H',Same H H'->Q (.bl true) H'):IspRight vs H Q
def spRight:Sp:=fun vs H Q _=>IspRight vs H Q
abbrev sRight:Stmt:=top 14
theorem scRight:FnScope ["_law_told","_law_due"] ["_law_told","_law_due"] (defScope sRight):=scOf (by decide +kernel)
theorem rd_2 {H:Hp} {t:Addr} {a b:Int} (h:H t=some (.tup [.int a,.int b])):RD K H (.ref t) (.tuple [.int a,.int b]):=rd_tup (SqT.of h) (rds_cons (rd_int _) (rds_cons (rd_int _) rds_nil))
theorem sh_2 (a b:Int):SeqAt.shaped (.tuple [.int a,.int b])=true:=by
 unfold SeqAt.shaped
 simp [PyData.canLay0,PyData.canLayAll0,PyData.depth,PyData.depthAll]
theorem ok_right (F:FA K mg "_law_right" sRight) (B:Blt mg) (hL_is_whole:FnHas P w K mg base "_law_is_whole" 1 (spIsW K)):FnHas P w K mg base "_law_right" 2 spRight:=by
 refine F.has scRight (fun vs H Q E h=>?_) (fun _ _ _ _ _ _=>al2 fun _ _=>rfl) (fun f cdv A outer s H vs Q E hr h=>?_)
 · obtain⟨t,u,a,b,rfl,_⟩:=h
   rfl
 · obtain⟨t,u,a,b,rfl,ht,hu,k⟩:=h
   have nd:=scRight.nd
   refine⟨_,(pss_one (ps_ret (pe_and (pIs K B (pa_cons (pv 0) (pa_cons (pe_bltn (x:="tuple") (v:=.ty "tuple") rfl (B.at "tuple") PyProof.Rows.boot_tuple rfl) pa_nil))) (pe_and (pe_cmpR (eqK K rfl hr.units) (pv 0) (pv 1) (nomark _)) (pe_one (pe_not (pe_callB (x:="any") (anyK K rfl rfl) rfl (B.at "any") PyProof.Rows.boot_any (pa_cons (pe_comp (N:=["_law_one"]) (js:=[none]) rfl rfl rfl (piT K rfl (pv 0)) (fun _ _ _ _ _=>(pgn 0 (nd1 _))) (fun _ _ _ _ _=>pts_nil) (fun _ _ _ _ _=>(pe_not (pf hL_is_whole hr (pa_cons (pv 0) pa_nil))))) pa_nil)))))))),?_⟩
   refine⟨_,rfl,.inl ⟨_,"tuple","tuple",true,rfl,.inr ⟨rfl,_,SqT.of ht⟩,by decide,by decide,_,rfl,?_⟩⟩
   refine iteT ?_
   refine⟨_,rfl,_,rfl,.inr ⟨_,_,rd_2 ht,rd_2 hu,sh_2 a b,sh_2 a b,_,rfl,?_⟩⟩
   rw [eqv_refl _ (Bool.and_eq_true_iff.mp (sh_2 a b)).1]
   refine iteT ?_
   refine⟨_,rfl,t,rfl,⟨_,SqT.of ht⟩,fun D H0 nw=>?_⟩
   have hD:=nw.no
   refine comp_by 2 (fun i σ H2=>Same H H2/\H2 D=some (.lst (([false,false].take i).map V.bl)) /\ ∃v,σ = [v]) ?_ ?_ ?_
   · exact⟨nw.same,nw.at',none,rfl⟩
   · rintro i σ H2 hi ⟨s2,d2,v,rfl⟩
     have tu:SqT K H2 t [.int a,.int b]:=SqT.of (s2 _ _ ht)
     have hx:∃z,([V.int a,V.int b]:List V)[i]? = some (.int z):=by
      rcases (show i=0 \/ i=1 by omega) with rfl | rfl
      · exact⟨a,rfl⟩
      · exact⟨b,rfl⟩
     obtain⟨z,hz⟩:=hx
     refine⟨⟨_,_,tu,hz⟩,fun x H3 ⟨e3,y3⟩=>?_⟩
     subst e3
     have ex:=y3 _ tu
     rw [hz] at ex
     cases ex
     refine yesN ?_
     refine⟨_,rfl,_,"int",rfl,rfl,_,rfl,?_⟩
     refine⟨_,d2,?_,2-(i+1),by omega,rfl,by omega,fun b o e=>?_,?_,_,rfl⟩
     · exact small1000 (by simp; omega)
     · rw [upd_ne (ne_of_none e hD)]; exact s2 b o e
     · rw [upd_same]
       rcases (show i=0 \/ i=1 by omega) with rfl | rfl <;> rfl
   · rintro σ H2 ⟨s2,d2,v,rfl⟩
     refine⟨⟨_,SqT.of (s2 _ _ ht),Nat.le_refl _⟩,D,[false,false],rfl,SqL.of d2,_,rfl,?_⟩
     exact k H2 s2
inductive IspAR (vs:List V) (H:Hp) (Q:VK):Prop
  | mk (f:FA3) (g:FA3) (h0:vs=[.ref f.1,.ref g.1]) (h1:FIn H f) (h2:FIn H g) (h3:∀H',Same H H'->Q (.bl true) H'):IspAR vs H Q
def spAR:Sp:=fun vs H Q _=>IspAR vs H Q
abbrev sAR:Stmt:=top 15
theorem scAR:FnScope ["_law_one","_law_other","_law_p","_law_r","_law_below","_law_due","_law_told"] ["_law_one","_law_other"] (defScope sAR):=scOf (by decide +kernel)
theorem ok_ar (F:FA K mg "_law_all_right" sAR) (B:Blt mg) (hL_lowest:FnHas P w K mg base "_law_lowest" 2 spLow) (hplus:FnHas P w K mg base "plus" 3 (spTwo pPlus pPlus)) (hminus:FnHas P w K mg base "minus" 3 (spTwo pMinus pMinus)) (htimes:FnHas P w K mg base "times" 3 (spTwo pTimes pTimes))
    (hL_right:FnHas P w K mg base "_law_right" 2 spRight):FnHas P w K mg base "_law_all_right" 4 spAR:=by
  refine F.has scAR (fun vs H Q E h=>?_) (fun _ _ _ _ _ _=>al2 fun _ _=>rfl) (fun f cdv A outer s H vs Q E hr h=>?_)
  · obtain⟨f,g,rfl,_⟩:=h
    rfl
  · obtain⟨f,g,rfl,hf0,hg0,k⟩:=h
    obtain⟨hf,f3⟩:=id hf0
    obtain⟨hg,g3⟩:=id hg0
    have nd:=scAR.nd
    obtain⟨bd0,bdW⟩:=f3.bd g3
    refine⟨_,(pss_cons (pS 2 nd (pe_op op_mulG (px K (pv 0) pe_int) (px K (pv 1) pe_int)))
    (pss_cons (pS 3 nd (pe_op op_mulG (px K (pv 1) pe_int) (px K (pv 0) pe_int)))
    (pss_cons (pS 4 nd (pe_op op_mulG (px K (pv 0) pe_int) (px K (pv 1) pe_int)))
    (pss_cons (pS 5 nd (pe_lstA (pa_cons (pf hL_lowest hr (pa_cons (pe_op op_add (pv 2) (pv 3)) (pa_cons (pv 4) pa_nil))) (pa_cons (pf hL_lowest hr (pa_cons (pe_op op_sub (pv 2) (pv 3)) (pa_cons (pv 4) pa_nil))) (pa_cons (pf hL_lowest hr (pa_cons (pe_op op_mulG (px K (pv 0) pe_int) (px K (pv 1) pe_int)) (pa_cons (pv 4) pa_nil))) pa_nil)))))
    (pss_cons (pS 6 nd (pe_lstA (pa_cons (pf hplus hr (pa_cons (pv 0) (pa_cons (pv 1) pa_nil))) (pa_cons (pf hminus hr (pa_cons (pv 0) (pa_cons (pv 1) pa_nil))) (pa_cons (pf htimes hr (pa_cons (pv 0) (pa_cons (pv 1) pa_nil))) pa_nil)))))
    (pss_one (ps_ret (pe_cmpR (eqK K rfl hr.units) (pLen K B (pa_cons (pe_comp (N:=["_law_k","_law_told","_law_due"]) (js:=[none,some 6,some 5]) rfl rfl rfl (pi_range1 rfl (B.at "range") (pa_cons pe_int pa_nil)) (fun _ _ _ _ _=>(pgn 0 (show List.Nodup (["_law_k","_law_told","_law_due"]:List Str) by decide +kernel))) (fun _ _ _ _ _=>(pts_one (pt_not (pt_val (pf hL_right hr (pa_cons (px K (pv 1) (pv 0)) (pa_cons (px K (pv 2) (pv 0)) pa_nil))))))) (fun _ _ _ _ _=>(pv 0))) pa_nil)) pe_int (nomark _))))))))),?_⟩
    refine⟨_,rfl,.inr ⟨_,_,0,_,rfl,rfl,SqT.of hf,rfl,_,rfl,.inr ⟨_,_,1,_,rfl,rfl,SqT.of hg,rfl,_,_,rfl,rfl,IntMulOk.of_bits f3.wa.bits g3.wb.bits,?_⟩⟩⟩
    refine⟨_,rfl,.inr ⟨_,_,0,_,rfl,rfl,SqT.of hg,rfl,_,rfl,.inr ⟨_,_,1,_,rfl,rfl,SqT.of hf,rfl,_,_,rfl,rfl,IntMulOk.of_bits g3.wa.bits f3.wb.bits,?_⟩⟩⟩
    refine⟨_,rfl,.inr ⟨_,_,1,_,rfl,rfl,SqT.of hf,rfl,_,rfl,.inr ⟨_,_,1,_,rfl,rfl,SqT.of hg,rfl,_,_,rfl,rfl,IntMulOk.of_bits f3.wb.bits g3.wb.bits,?_⟩⟩⟩
    refine⟨_,rfl,_,rfl,_,_,rfl,rfl,_,rfl,_,_,rfl,bd0,bdW,fun t1 H1 n1=>?_⟩
    refine⟨_,rfl,_,rfl,_,_,rfl,rfl,_,rfl,_,_,rfl,bd0,bdW,fun t2 H2 n2=>?_⟩
    have sA:=n1.same.trans n2.same
    refine⟨_,rfl,.inr ⟨_,_,0,_,rfl,rfl,SqT.of (sA _ _ hf),rfl,_,rfl,.inr ⟨_,_,0,_,rfl,rfl,SqT.of (sA _ _ hg),rfl,_,_,rfl,rfl,IntMulOk.of_bits f3.wa.bits g3.wa.bits,_,rfl,_,_,rfl,bd0,bdW,fun t3 H3 n3=>?_⟩⟩⟩
    refine⟨(by show 3<=sizeLine; decide),fun l H4 n4=>?_⟩
    have e1:=n4.same _ _ (n3.same _ _ (n2.same _ _ n1.at'))
    have e2:=n4.same _ _ (n3.same _ _ n2.at')
    have e3:=n4.same _ _ n3.at'
    have sB:=sA.trans (n3.same.trans n4.same)
    refine⟨_,rfl,_,rfl,f,g,rfl,hf0.same sB,hg0.same sB,fun u1 H5 m1=>?_⟩
    have sC1:=sB.trans m1.same
    refine⟨_,rfl,_,rfl,f,g,rfl,hf0.same sC1,hg0.same sC1,fun u2 H6 m2=>?_⟩
    have sC2:=sC1.trans m2.same
    refine⟨_,rfl,_,rfl,f,g,rfl,hf0.same sC2,hg0.same sC2,fun u3 H7 m3=>?_⟩
    refine⟨(by show 3<=sizeLine; decide),fun l' H8 m4=>?_⟩
    have rr:=m1.same.trans (m2.same.trans (m3.same.trans m4.same))
    have d1:=m4.same _ _ (m3.same _ _ (m2.same _ _ m1.at'))
    have d2:=m4.same _ _ (m3.same _ _ m2.at')
    have d3:=m4.same _ _ m3.at'
    have dl:=m4.at'
    have sC:=sB.trans rr
    have e1':=rr _ _ e1
    have e2':=rr _ _ e2
    have e3':=rr _ _ e3
    have el':=rr _ _ n4.at'
    refine⟨3,rfl,by decide,by decide,fun D H9 nw=>?_⟩
    refine comp_by 3 (fun i σ H2=>Same H8 H2/\H2 D=some (.lst []) /\ ∃v,σ = [v,some (.ref l'),some (.ref l)]) ?_ ?_ ?_
    · exact⟨nw.same,nw.at',none,rfl⟩
    · rintro i σ H2 hi ⟨s5,d5,v,rfl⟩
      refine⟨hi,fun x H3 ⟨eH,ex⟩=>?_⟩
      subst eH ex
      have fin:∀H',Same H3 H' -> ∃m',m'<3-i/\m'=3-(i+1)/\i+1<=3/\(Same H8 H'/\H' D=some (.lst []) /\ ∃v',[some (V.int (0+(i:Int))),some (.ref l'),some (.ref l)]=[v',some (V.ref l'),some (V.ref l)]):=fun H' s6=>
       ⟨3-(i+1),by omega,rfl,by omega,s5.trans s6,s6 _ _ d5,_,rfl⟩
      rcases (show i=0 \/ i=1 \/ i=2 by omega) with rfl | rfl | rfl
      · refine⟨_,rfl,_,rfl,.inl ⟨l',_,_,.ref u1,rfl,rfl,SqL.of (s5 _ _ dl),rfl,_,rfl,_,rfl,.inl ⟨l,_,_,.ref t1,rfl,rfl,SqL.of (s5 _ _ el'),rfl,u1,t1,_,_,rfl,s5 _ _ d1,s5 _ _ e1',fun H' s6=>?_⟩⟩⟩
        exact⟨_,rfl,iteF (fin H' s6)⟩
      · refine⟨_,rfl,_,rfl,.inl ⟨l',_,_,.ref u2,rfl,rfl,SqL.of (s5 _ _ dl),rfl,_,rfl,_,rfl,.inl ⟨l,_,_,.ref t2,rfl,rfl,SqL.of (s5 _ _ el'),rfl,u2,t2,_,_,rfl,s5 _ _ d2,s5 _ _ e2',fun H' s6=>?_⟩⟩⟩
        exact⟨_,rfl,iteF (fin H' s6)⟩
      · refine⟨_,rfl,_,rfl,.inl ⟨l',_,_,.ref u3,rfl,rfl,SqL.of (s5 _ _ dl),rfl,_,rfl,_,rfl,.inl ⟨l,_,_,.ref t3,rfl,rfl,SqL.of (s5 _ _ el'),rfl,u3,t3,_,_,rfl,s5 _ _ d3,s5 _ _ e3',fun H' s6=>?_⟩⟩⟩
        exact⟨_,rfl,iteF (fin H' s6)⟩
    · rintro σ H2 ⟨s5,d5,v,rfl⟩
      refine⟨Nat.le_refl _,D,_,rfl,.inl (SqL.of d5),.inl ⟨_,_,rfl,rfl,?_⟩⟩
      exact k H2 (sC.trans s5)
end
end Lw
set_option Elab.async false
set_option linter.all false
set_option maxRecDepth 100000
set_option maxHeartbeats 1000000
namespace Lw
open PySem PySem.Spec PyProof.Rows L2
section
variable {P:Program} {w:World} {K:PySem.W.Frag} {mg:Str->Option Value} {base:Heap}
def spLaw (K:PySem.W.Frag):Sp:=fun vs H Q _=>∃(a:Addr) (ns:List Int),vs=[.ref a]/\SqL K H a (ns.map V.int)/\ns.length<=63 /\ ∀H',Q (.bl true) H'
theorem Fr30.neg {a b:Int} (h:Fr30 a b):Fr30 (-a) b:=⟨h.pos,by rw [Int.neg_gcd]; exact h.cop,by rw [Int.natAbs_neg]; exact h.na,h.nb⟩
abbrev sLaw:Stmt:=top 16
theorem scLaw:FnScope ["_law_script","_law_at","_law_bag_here","_law_how","_law_one","_law_other","_law_again"] ["_law_script"] (defScope sLaw):=scOf (by decide +kernel)
theorem ok_law {f:Addr} {fd:FuncData} (F:Fun K "law" "law" sLaw f fd) (B:Blt mg) (hL_bag:FnHas P w K mg base "_law_bag" 1 (spBag K)) (hL_take:FnHas P w K mg base "_law_take" 1 spTake) (hL_fraction:FnHas P w K mg base "_law_fraction" 3 spFrac)
    (hL_all_right:FnHas P w K mg base "_law_all_right" 4 spAR):FnOk P w K mg base CX0 5 f fd ["_law_script"] (spLaw K):=by
  refine F.ok scLaw (fun vs H Q E h=>?_) (fun cdv A outer s H vs Q E hr h=>?_)
  · obtain⟨a,ns,rfl,_⟩:=h
    rfl
  · obtain⟨a,ns,rfl,hS,hlen,k⟩:=h
    have nd:=scLaw.nd
    refine⟨_,(pss_cons (ps_for PassesOwn.never rfl (pi_range1 rfl (B.at "range") (pa_cons (pe_callB (x:="max") (call_max2 rfl) rfl (B.at "max") PyProof.Rows.boot_max (pa_cons pe_int (pa_cons (pe_callB (x:="min") (call_min2 rfl) rfl (B.at "min") PyProof.Rows.boot_min (pa_cons pe_int (pa_cons (pLen K B (pa_cons (pv 0) pa_nil)) pa_nil))) pa_nil))) pa_nil)) (pgn 1 nd)
    (pss_cons (pS 2 nd (pf hL_bag hr (pa_cons (pv 0) (pa_cons (pv 1) pa_nil))))
    (pss_cons (pS 3 nd (pf hL_take hr (pa_cons (pv 2) (pa_cons pe_int pa_nil))))
    (pss_cons (pS 4 nd (pf hL_fraction hr (pa_cons (pv 2) pa_nil)))
    (pss_cons (pS 5 nd (pf hL_fraction hr (pa_cons (pv 2) pa_nil)))
    (pss_cons (ps_mid (ps_if (pt_cmpR (eqK K rfl hr.units) (pv 3) pe_int (nomark _))
    (pss_one (pS 5 nd (pv 4)))
    pss_nil))
    (pss_cons (ps_mid (ps_if (pt_cmpR (eqK K rfl hr.units) (pv 3) pe_int (nomark _))
    (pss_one (pS 5 nd (pe_tupA (pa_cons (pe_un un_neg (px K (pv 4) pe_int)) (pa_cons (px K (pv 4) pe_int) pa_nil)))))
    pss_nil))
    (pss_one (ps_for PassesOwn.never rfl (pi_range1 rfl (B.at "range") (pa_cons pe_int pa_nil)) (pgn 6 nd)
    (pss_one (ps_if (PW.pt (pw_or (pt_not (pt_val (pf hL_all_right hr (pa_cons (pv 4) (pa_cons (pv 5) pa_nil))))) (pw_or1 (pt_not (pt_val (pf hL_all_right hr (pa_cons (pv 5) (pa_cons (pv 4) pa_nil))))))))
    (pss_one (ps_ret pe_bl))
    pss_nil)))))))))))
    (pss_one (ps_ret pe_bl))),?_⟩
    refine⟨_,rfl,a,_,rfl,.inl hS,_,_,rfl,_,_,rfl,_,rfl,?_,?_,?_⟩
    · split <;> (try split) <;> omega
    · split <;> (try split) <;> (try rw [List.length_map]) <;> omega
    have hN:(if (if ((ns.map V.int).length:Int)<12 then ((ns.map V.int).length:Int) else 12) > 1 then (if ((ns.map V.int).length:Int)<12 then ((ns.map V.int).length:Int) else 12) else 1).toNat<=12:=by
     split <;> (try split) <;> omega
    refine for_range (Pv:=fun i σ H2=>Same H H2 /\ ∃v1 v2 v3 v4 v5 v6,σ = [some (.ref a),v1,v2,v3,v4,v5,v6]) ?_ ?_ ?_
    · exact⟨Same.refl _,none,none,none,none,none,none,rfl⟩
    · rintro i σ H2 hi ⟨s2,v1,v2,v3,v4,v5,v6,rfl⟩
      have hi8:i<12:=Nat.lt_of_lt_of_le hi hN
      refine⟨_,rfl,_,rfl,a,ns,_,rfl,s2.seq hS,hlen,by omega,by omega,fun p H3 np bg3 s3=>?_⟩
      refine⟨_,rfl,p,8,rfl,bg3,by decide,by decide,fun d H4 d0 d1 b4=>?_⟩
      refine⟨_,rfl,p,rfl,b4.bag,fun v a1 b1 H5 f5 ⟨q,hv,hq⟩ b5=>?_⟩
      subst hv
      refine⟨_,rfl,p,rfl,b5.bag,fun v a2 b2 H6 f6 ⟨q2,hv2,hq2⟩ b6=>?_⟩
      subst hv2
      have bb:=b4.trans (b5.trans b6)
      have s6:Same H H6:=fun b o e=>bb.same b o (by
       intro z; subst z
       exact absurd (s2 b o e) (by rw [np]; exact fun z=>nomatch z)) (s3 b o (s2 b o e))
      have fi:FIn H6 (q,a1,b1):=⟨b6.same _ _ (b5.bag.ne_tup hq) hq,f5⟩
      have gi:FIn H6 (q2,a2,b2):=⟨hq2,f6⟩
      refine⟨fun σ H7=>H7=H6 /\ ∃g:FA3,FIn H6 g /\ σ = [some (.ref a),some (.int (0+(i:Int))),some (.ref p),some (.int d),some (.ref q),some (.ref g.1),v6],?_,?_⟩
      · refine⟨_,rfl,.inl ⟨_,_,rfl,rfl,_,rfl,?_⟩⟩
        refine ite2 (fun _=>?_) (fun _=>?_)
        · exact⟨_,rfl,rfl,(q,a1,b1),fi,rfl⟩
        · exact⟨rfl,(q2,a2,b2),gi,rfl⟩
      rintro σ H7 ⟨rfl,g,hg,rfl⟩
      refine⟨fun σ H8=>Same H7 H8 /\ ∃g:FA3,FIn H8 g /\ σ = [some (.ref a),some (.int (0+(i:Int))),some (.ref p),some (.int d),some (.ref q),some (.ref g.1),v6],?_,?_⟩
      · refine⟨_,rfl,.inl ⟨_,_,rfl,rfl,_,rfl,?_⟩⟩
        refine ite2 (fun _=>?_) (fun _=>?_)
        · refine⟨_,rfl,.inr ⟨q,_,0,_,rfl,rfl,SqT.of fi.1,rfl,_,rfl,_,rfl,.inr ⟨q,_,1,_,rfl,rfl,SqT.of fi.1,rfl,(by show 2<=sizeLine; decide),fun t H8 nw=>?_⟩⟩⟩
          exact⟨nw.same,(t,-a1,b1),⟨nw.at',f5.neg⟩,rfl⟩
        · exact⟨Same.refl _,g,hg,rfl⟩
      rintro σ H8 ⟨s8,g,hg,rfl⟩
      refine⟨2,rfl,by decide,by decide,?_⟩
      refine for_range (Pv:=fun _ σ H9=>Same H8 H9 /\ ∃v6,σ = [some (.ref a),some (.int (0+(i:Int))),some (.ref p),some (.int d),some (.ref q),some (.ref g.1),v6]) ⟨Same.refl _,v6,rfl⟩ ?_ ?_
      · rintro j σ H9 hj ⟨s9,v6,rfl⟩
        have f9:=(fi.same s8).same s9
        have g9:=hg.same s9
        refine⟨_,rfl,_,rfl,(q,a1,b1),g,rfl,f9,g9,fun H10 s10=>⟨_,rfl,?_⟩⟩
        refine iteF ?_
        refine⟨_,rfl,_,rfl,g,(q,a1,b1),rfl,g9.same s10,f9.same s10,fun H11 s11=>⟨_,rfl,?_⟩⟩
        refine iteF ?_
        exact⟨s9.trans (s10.trans s11),_,rfl⟩
      · rintro σ H9 ⟨s9,v6,rfl⟩
        exact⟨s6.trans (s8.trans s9),_,_,_,_,_,_,rfl⟩
    · rintro σ H2 ⟨_,v1,v2,v3,v4,v5,v6,rfl⟩
      exact k H2
end
structure All (K:PySem.W.Frag) (mg:Str->Option Value):Prop where
 B:Blt mg
 plus:FA K mg "plus" sPlus
 minus:FA K mg "minus" sMinus
 times:FA K mg "times" sTimes
 lt:FA K mg "lowest_terms" sLT
 cd:FA K mg "common_divisor" sCD
 bag:FA K mg "_law_bag" sBag
 take:FA K mg "_law_take" sTake
 lw:FA K mg "_law_is_whole" sLW
 div:FA K mg "_law_divisor" sDiv
 num:FA K mg "_law_number" sNum
 low:FA K mg "_law_lowest" sLow
 frac:FA K mg "_law_fraction" sFrac
 right:FA K mg "_law_right" sRight
 ar:FA K mg "_law_all_right" sAR
 law:FA K mg "law" sLaw
theorem all_law {P:Program} {w:World} {K:PySem.W.Frag} {mg:Str->Option Value} {base:Heap} {f:Addr} {fd:FuncData} (A:All K mg) (F:Fun K "law" "law" sLaw f fd):FnOk P w K mg base CX0 5 f fd ["_law_script"] (spLaw K):=by
 have tk:FnHas P w K mg base "_law_take" 1 spTake:=ok_take A.take A.B
 have lw:FnHas P w K mg base "_law_lowest" 2 spLow:=ok_low A.low A.B (ok_div A.div A.B)
 have nm:FnHas P w K mg base "_law_number" 2 spNum:=ok_num A.num A.B tk
 have fr:FnHas P w K mg base "_law_fraction" 3 spFrac:=ok_frac A.frac A.B tk nm lw
 have lt:FnHas P w K mg base "lowest_terms" 2 spLow:=ok_lt A.lt A.B (ok_cd A.cd A.B)
 exact ok_law F A.B (ok_bag A.bag A.B) tk fr (ok_ar A.ar A.B lw (ok_plus A.plus A.B lt) (ok_minus A.minus A.B lt) (ok_times A.times A.B lt) (ok_right A.right A.B (ok_lw A.lw A.B)))
end Lw
open PySem PySem.W PyProof.Rows
set_option maxRecDepth 100000 in
set_option maxHeartbeats 0 in
theorem PySem.Challenge.cw_glidequeue_k03_fractions_reckoned_holds : PySem.Challenge.rw_glidequeue_k03_fractions_reckoned.Holds := by
 w_on; o_law; k_head; (case hw=>w_witness2)
 k_fill
 refine L2.law_walk (l:=PySem.Challenge.rw_glidequeue_k03_fractions_reckoned) (k:=5) (x:="_law_script") (st:=Lw.sLaw) rfl rfl ⟨rfl,by decide,by decide⟩ (fun w h Y=>PySem.W.kIn_of Y) Lw.All ?F (fun _ _ A=>A.law) (fun _ _ _ _ _ _ _=>rfl) (fun _ _ _ _ _ _ _ A F=>Lw.all_law A F)
 case F=>
  intro w mg h KX G
  refine⟨L2.blt_mk KX G ?b,?f1,?f2,?f3,?f4,?f5,?f6,?f7,?f8,?f9,?f10,?f11,?f12,?f13,?f14,?f15⟩
  case b=>(unfold L2.bltNames; repeat (refine L2.NoG.cons ?z ?_; (case z=>k_is))); exact L2.NoG.nil
  all_goals (refine' L2.fa_mk KX G ?a ?l ?c ?k; (case a=>k_is); (case l=>k_is); (case c=>k_is); (case k=>k_is))
#print axioms PySem.Challenge.cw_glidequeue_k03_fractions_reckoned_holds
