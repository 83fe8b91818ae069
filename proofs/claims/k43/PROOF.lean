import PyProof.Rows.All
import Wide.All
import OpenK.AllK
import Wide.FinOn
import Lean
import PyProof.EqAt
import PyProof.EqKinds
import PyProof.TupleCall
import PySem.Challenge.RW_glidequeue_k43_rates_turned
set_option Elab.async false
set_option linter.all false
set_option maxRecDepth 100000
def PySem.pq9:Nat->Lean.Syntax->Lean.MacroM (Lean.TSyntax `rcasesPat)
|0,_=>Lean.Macro.throwUnsupported
|n+1,s=>do
 if s.isOfKind `ident then let x:Lean.Ident:=⟨s⟩;`(rcasesPat|$x:ident)
 else if s.isOfKind `Lean.Parser.Term.hole then `(rcasesPat|_)
 else
  let as:=if s.isOfKind `Lean.Parser.Term.tuple then #[s[1][0]]++s[1][2].getSepArgs else s[1].getSepArgs
  let ps<-as.mapM (PySem.pq9 n)
  `(rcasesPat|⟨$ps,*⟩)
local macro_rules|`(tactic|erw[$r,*])=>do
 let t:=r.getElems.map λr=>(⟨r.raw[1]⟩:Lean.Term)
 if t.size==1 then `(tactic|refine $(t[0]!)) else `(tactic|refine ⟨$t,*⟩)
local macro_rules|`(tactic|let $p:term:=$t)=>do
 let q<-PySem.pq9 9 p
 `(tactic|obtain $q:rcasesPat:=$t)
local macro_rules|`(#[$a,$b,*])=>`(⟨$a,$b,*⟩)
noncomputable section
local macro_rules|`(command|def $i:declId $s:optDeclSig $v:declVal)=>`(command|noncomputable def $i:declId $s:optDeclSig $v:declVal)
local macro_rules|`(command|abbrev $i:declId $s:optDeclSig $v:declVal)=>`(command|noncomputable abbrev $i:declId $s:optDeclSig $v:declVal)
local macro_rules|`(tactic|trivial)=>`(tactic|first|exact Or.inl rfl|exact Or.inr rfl|exact Or.inr (Or.inl rfl)|exact Or.inr (Or.inr rfl)|assumption|exact fun _=>rfl|exact fun _ _=>rfl)
theorem r8_(h:True:=by rfl):True:=h
theorem q8_(h:True:=by decide):True:=h
theorem d8_(h:True:=by trivial):True:=h
theorem f8_(h:True:=by with_unfolding_all rfl):True:=h
abbrev cw:=PySem.Str->Option PySem.Value
theorem aD{p:Prop}(h:autoParam (p) q8_._auto_1):p:=h
theorem bf{p:Prop}(h:p:=by decide+kernel):p:=h
theorem aw {p:Prop} (h:p:=by lia):p:=h
theorem fH{p:Prop}(h:p:=by omega):p:=h
theorem Z {α : Sort _} {a : α}:a=a:=rfl
abbrev aa:=PySem.W.Frag
abbrev ae:=PySem.Shared
abbrev ah:=PySem.Program
abbrev ai:=PySem.PyData
abbrev aj:=PySem.Around
abbrev aW:=@PySem.wpAny_bind
abbrev bE:=@if_pos
abbrev bI:=@if_neg
abbrev bJ:=@List.mem_cons
abbrev bW:=@List.mem_singleton
abbrev ck:=@Nat.le_refl
abbrev cC:=@List.getElem?_eq_getElem
abbrev cD:=@List.not_mem_nil
abbrev cE:=@PySem.intBits_le_64
abbrev cI:=@PySem.wpAny_pure
abbrev cJ:=@List.length_map
abbrev cU:=@decide_eq_true
abbrev cV:=@List.getElem?_map
abbrev cW:=@PySem.Heap.get?_push_of_some
abbrev cX:=@or_false
abbrev cY:=@PySem.Heap.lt_size
abbrev dy:=@Ne.symm
abbrev eQ:=@List.getElem?_eq_some_iff
abbrev fe:=@Option.some.inj
abbrev fo:=@decide_eq_false
abbrev fz:=@Rat.le_trans
abbrev fC:=@List.size_toArray
abbrev fD:=@Bool.and_eq_true
abbrev fN:=@List.length_append
abbrev fO:=@PySem.Heap.get?_push_size
abbrev gq:=@Nat.ne_of_lt
abbrev gB:=@PyProof.Rows.boot_tuple
abbrev gC:=@Int.pow_succ
abbrev gD:=@Int.natAbs_mul
abbrev gJ:=@beq_iff_eq
abbrev gK:=@Nat.zero_le
abbrev gP:=@Nat.lt_of_lt_of_le
abbrev hO:=@List.mem_of_getElem?
abbrev hW:=@Int.le_refl
abbrev iJ:=@PySem.PassesOwn.never
abbrev iK:=@Nat.le_trans
abbrev iV:=@Bool.false_ne_true
abbrev jf:=@List.mem_cons_of_mem
abbrev jg:=@PySem.IntMulOk.of_bits
abbrev jh:=@Int.mul_pos
abbrev jq:=@List.all_eq_true
abbrev jJ:=@of_decide_eq_true
abbrev jK:=@List.lookup_cons
abbrev kg:=@PySem.wpAny_field
abbrev kh:=@List.mem_map
abbrev ki:=@Int.mul_nonneg
abbrev kI:=@PySem.wpAny_mono
abbrev lE:=@List.length_cons
abbrev lF:=@Bool.true_and
abbrev lT:=@PyProof.Rows.boot_list
abbrev lU:=@Int.one_mul
abbrev lV:=@Bool.false_and
abbrev mL:=@List.mem_append_right
abbrev mM:=@List.getElem?_eq_none
abbrev mO:=@Int.pow_zero
abbrev nv:=@List.nodup_cons
abbrev oh:=@not_or
abbrev oj:=@Nat.mul_le_mul
abbrev pO:=@PySem.wpAny_truthy_bool
abbrev pP:=@decide_eq_true_iff
abbrev pQ:=@List.mem_filterMap
abbrev pR:=@List.map_cons
abbrev pT:=@List.map_append
abbrev pU:=@List.length_take
abbrev pV:=@Int.emod_nonneg
abbrev pW:=@Bool.eq_iff_iff
abbrev rW:=@PySem.wpAny_newObj_type
abbrev rX:=@Rat.le_refl
abbrev rY:=@PyProof.Rows.boot_str
abbrev rZ:=@PyProof.Rows.boot_abs
abbrev sf:=@Nat.lt_of_le_of_lt
abbrev si:=@Nat.lt_irrefl
abbrev sj:=@List.take_succ
abbrev sx:=@List.mem_iff_getElem?
abbrev sy:=@List.any_cons
abbrev uC:=@Rat.num_divInt_den
abbrev uD:=@PyProof.Rows.boot_all
abbrev uE:=@Nat.pow_le_pow_right
abbrev uF:=@List.ext_getElem?
abbrev uG:=@Int.mul_assoc
abbrev uH:=@Int.emod_lt_of_pos
abbrev uI:=@PySem.Heap.size_push
abbrev wN:=@PySem.wpAny_seqItems
abbrev wO:=@PySem.wpAny_holding
abbrev wQ:=@if_true
abbrev wR:=@PySem.mem_of_lookup
abbrev wU:=@PyProof.Rows.boot_isinstance
abbrev wV:=@List.take_length
abbrev wW:=@List.mem_append
abbrev wX:=@List.length_set
abbrev wY:=@List.getElem_range
abbrev zh:=@PySem.wpAny_passesOwn
abbrev zi:=@PySem.call_meets
abbrev zj:=@Rat.divInt_nonneg_iff_of_pos_right
abbrev zk:=@PySem.W.mg_of
abbrev zl:=@PyProof.Rows.callWith_type1
abbrev zm:=@List.getElem?_zip_eq_some
abbrev zo:=@List.getElem?_append_left
abbrev zp:=@Bool.eq_false_iff
abbrev Bw:=@PySem.wpAny_setField_rec
abbrev Bx:=@PySem.wpAny_of_eq
abbrev Bz:=@PySem.wpAny_execs_nil
abbrev BA:=@PySem.wpAny_call
abbrev BB:=@PySem.wpAny_Call_Name_kw
abbrev BC:=@PySem.codeAny_mono
abbrev BD:=@Rat.not_lt
abbrev BE:=@PySem.F.plainAttrs_list
abbrev BF:=@List.of_mem_zip
abbrev BG:=@List.map_set
abbrev BH:=@List.getElem?_set_self
abbrev BI:=@List.getElem?_append_right
abbrev BJ:=@List.find?_cons
abbrev BK:=@List.all_cons
abbrev BL:=@Int.zero_mul
abbrev BM:=@PySem.Heap.get?_update_other
abbrev BN:=@Array.length_toList
abbrev Fi:=@PySem.wpAny_setField
abbrev Fj:=@PySem.wpAny_pyIter_list
abbrev Fm:=@PySem.wpAny_onRaise
abbrev Fo:=@PySem.wpAny_call_entry
abbrev Fp:=@PySem.wpAny_callSpecial?_slot
abbrev Fq:=@decide_eq_true_eq
abbrev Fs:=@beq_eq_false_iff_ne
abbrev Ft:=@Rat.lt_iff
abbrev Fu:=@Rat.le_antisymm
abbrev Fv:=@PyProof.Rows.boot_max
abbrev Fw:=@PySem.Obj.data_mapFields
abbrev Fx:=@Nat.ne_of_gt
abbrev Fy:=@List.take_of_length_le
abbrev Fz:=@List.mem_of_mem_take
abbrev FC:=@List.length_replicate
abbrev FD:=@List.length_eq_zero_iff
abbrev FE:=@List.getElem_mem
abbrev FF:=@List.getElem?_zipWith
abbrev FG:=@List.forIn_cons
abbrev FH:=@List.append_nil
abbrev FI:=@Int.mul_le_mul
abbrev FJ:=@Int.le_of_lt
abbrev FK:=@Array.toList_append
abbrev Nh:=@PySem.wpAny_pyIter_rangeiter
abbrev Ni:=@PySem.codeAmong.eq_def
abbrev Nj:=@beq_self_eq_true
abbrev Nk:=@Std.lt_of_le_of_ne
abbrev Nl:=@Rat.num_nonneg
abbrev Nm:=@Rat.num_intCast
abbrev Np:=@Rat.le_of_lt
abbrev Nq:=@Rat.den_intCast
abbrev Nr:=@PySem.W.hideAll_get
abbrev Nt:=@PySem.F.slot_zip_next
abbrev Nu:=@PySem.F.slot_tuple_iterator_next
abbrev Nv:=@PySem.F.excBase_ValueError
abbrev Ny:=@PyProof.Rows.boot_int
abbrev Nz:=@Nat.sub_self
abbrev NA:=@Nat.lt_trans
abbrev NB:=@Nat.lt_succ_of_lt
abbrev NC:=@Nat.lt_succ_iff_lt_or_eq
abbrev ND:=@Nat.le_of_lt
abbrev NF:=@Nat.le_of_ble_eq_true
abbrev NG:=@List.set_set
abbrev NH:=@List.mem_cons_self
abbrev NI:=@List.length_pos_iff
abbrev NJ:=@List.length_nil
abbrev NK:=@List.length_drop
abbrev NL:=@List.getElem?_set_ne
abbrev NM:=@Int.mul_ne_zero
abbrev NN:=@Int.mul_le_mul_of_nonneg_right
abbrev NO:=@Int.mul_le_mul_of_nonneg_left
abbrev NP:=@Int.mul_comm
abbrev NQ:=@Int.lt_or_le
abbrev NR:=@PySem.Heap.get?_update_self
abbrev NS:=@Bool.and_true
abbrev NT:=@Array.getElem?_eq_some_iff
abbrev XJ:=@PySem.wpAny_updateSeq_pair
abbrev XM:=@PySem.wpAny_pyNext_range_end
abbrev XN:=@PySem.wpAny_newFunctionEnv
abbrev XO:=@PySem.SeqAt.canLay_of_shaped
abbrev XQ:=@Rat.intCast_lt_intCast
abbrev XR:=@Rat.divInt_sub_divInt
abbrev XS:=@Rat.divInt_mul_divInt
abbrev XT:=@PySem.W.plainGet_of
abbrev XU:=@PySem.W.callWith_K
abbrev XW:=@PySem.Str.cps_append
abbrev XX:=@PyProof.Rows.slot_tuple_getitem
abbrev XY:=@PyProof.Rows.boot_min
abbrev XZ:=@PyProof.Rows.boot_bool
abbrev Y0:=@PyProof.Rows.boot_any
abbrev Y1:=@PySem.Obj.isFreed_of_fields
abbrev Y2:=@Nat.succ_le_succ
abbrev Y3:=@Nat.lt_succ_self
abbrev Y4:=@List.mem_iff_getElem
abbrev Y5:=@List.mem_append_left
abbrev Y6:=@List.getElem?_replicate
abbrev Y7:=@List.foldl_append
abbrev Y8:=@List.filterMap_cons
abbrev Y9:=@Int.toNat_natCast
abbrev Ya:=@Int.natAbs_of_nonneg
abbrev Yb:=@Int.mul_nonneg_of_nonpos_of_nonpos
abbrev Yc:=@Int.lt_trichotomy
abbrev Yd:=@Int.fdiv_eq_ediv_of_nonneg
abbrev Ye:=@PySem.F.slot_range_reversed
abbrev Yf:=@Bool.not_eq_true'
abbrev afw:=@PySem.F.entry_tuple_iterator_next
abbrev afx:=@PySem.F.args_tuple_iterator_next_1
abbrev afy:=@Array.all_eq_true_iff_forall_mem
namespace _L
open PySem PySem.Spec PyProof.Rows
abbrev Key:=Sum Int Str
def yh:Key->Value->Bool | .inl k,v=>Value.isInt k v | .inr x,v=>Value.isStrOf x v
def a6g(w:World):Key->Int | .inl k=>hashInt k | .inr x=>hashStr w x
theorem qH:∀{k:Key}{v:Value},yh k v=true->(∃i t,k=Sum.inl i/\v=Value.int i t)\/(∃x t,k=Sum.inr x/\v=Value.str x t) | .inl i,v,h=>by let(t,e):=Value.isInt_shape (k:=i) (v:=v) h;erw[.inl #[i,t,Z,e]] | .inr x,v,h=>by let(t,e):=Value.isStrOf_shape (x:=x) (v:=v) h;erw[.inr #[x,t,Z,e]]
theorem a6f(i:Int)(t:Tok):yh (.inl i) (.int i t)=true:=by simp[yh,Value.isInt]
theorem a6e(x:Str)(t:Tok):yh (.inr x) (.str x t)=true:=by simp[yh,Value.isStrOf]
theorem a6d(a b:Int):decide ((Sum.inl a:Key)=Sum.inl b)=(a==b):=by
 by_cases e:a=b
 ·subst e;simp
 ·have h:¬(Sum.inl a:Key)=Sum.inl b:=λq=>e (Sum.inl.inj q)
  rw[fo h];exact(Fs.mpr e).symm
theorem a6a(a b:Str):decide ((Sum.inr a:Key)=Sum.inr b)=decide (a=b):=by
 by_cases e:a=b
 ·subst e;simp
 ·have h:¬(Sum.inr a:Key)=Sum.inr b:=λq=>e (Sum.inr.inj q)
  rw[fo h,fo e]
theorem a6c(a:Int)(b:Str):decide ((Sum.inl a:Key)=Sum.inr b)=false:=fo (λq=>nomatch q)
theorem a6b(a:Str)(b:Int):decide ((Sum.inr a:Key)=Sum.inl b)=false:=fo (λq=>nomatch q)
def ky(prog:ah)(w:World):PySem.KeyKind prog w Key where
 is:=yh
 hash:=a6g w
 inj:=λv a b ha hb=>by
  rcases qH ha with⟨i,t,rfl,rfl⟩|⟨x,t,rfl,rfl⟩
  ·rcases qH hb with⟨j,u,rfl,e⟩|⟨y,u,rfl,e⟩
   ·injection e with e1 _;rw[e1]
   ·erw[nomatch e]
  ·rcases qH hb with⟨j,u,rfl,e⟩|⟨y,u,rfl,e⟩
   ·erw[nomatch e]
   ·injection e with e1 _;rw[e1]
 byValue:=λk v h=>by rcases qH h with⟨i,t,rfl,rfl⟩|⟨x,t,rfl,rfl⟩<;>rfl
 pyHash:=λhv h=>by
  rcases qH hv with⟨i,t,rfl,rfl⟩|⟨x,t,rfl,rfl⟩
  ·erw[wpAny_pyHash_int h]
  ·erw[wpAny_pyHash_str h]
 eqBool:=λhu hv h=>by
  rcases qH hu with⟨i,t,rfl,rfl⟩|⟨x,t,rfl,rfl⟩
  ·rcases qH hv with⟨j,u,rfl,rfl⟩|⟨y,u,rfl,rfl⟩
   ·rw[a6d]at h;erw[wpAny_eqBool_int h]
   ·rw[a6c]at h;erw[SeqAt.EqAt.int_str i t y u _ _ _ _ h]
  ·rcases qH hv with⟨j,u,rfl,rfl⟩|⟨y,u,rfl,rfl⟩
   ·rw[a6b]at h;erw[SeqAt.EqAt.str_int x t j u _ _ _ _ h]
   ·rw[a6a]at h;erw[wpAny_eqBool_str h]
 «strs»:=λk x t v h=>by
  rcases qH h with⟨i,u,rfl,e⟩|⟨y,u,rfl,e⟩
  ·erw[nomatch e]
  ·injection e with e1 _
   subst e1;cases v<;>rfl
theorem a5b(prog:ah)(w:World)(i:Int)(t:Tok):(ky prog w).is (.inl i) (.int i t)=true:=a6f i t
theorem a5a(prog:ah)(w:World)(x:Str)(t:Tok):(ky prog w).is (.inr x) (.str x t)=true:=a6e x t
inductive V where |bF|bl (b:Bool)|int (i:Int)|str (x:Str)|yX (b:Array UInt8)|Et (b:UInt64)|ref (a:Addr)|ty (n:String) deriving DecidableEq
def RelV:V->Value->Prop | .bF,u=>u=Value.none | .bl b,u=>u=Value.bool b | .int i,u=>∃t,u=Value.int i t | .str x,u=>∃t,u=Value.str x t | .yX b,u=>∃t,u=Value.bytes b t | .Et b,u=>∃t,u=Value.float b t | .ref a,u=>u=Value.ref a | .ty n,u=>u=Value.type n
abbrev Vals:List V->List Value->Prop:=Paired RelV
theorem Vals.length{xs:List V}{us:List Value}(r:Vals xs us):xs.length=us.length:=Paired.length r
theorem Vals.get:∀{xs:List V}{us:List Value}{i:Nat}{x:V},Vals xs us->xs[i]? =some x->∃u,us[i]? =some u/\RelV x u |_,_,_,_,.nil,e=>by simp at e |_,_,0,_,.cons r _,e=>by simp at e;subst e;erw[_,rfl,r] |_,_,i+1,x,.cons _ t,e=>by let(u,h1,h2):=Vals.get (i:=i) (x:=x) t (by simpa using e);erw[u,by simpa using h1,h2]
theorem Vals.set{x:V}{u:Value}(r:RelV x u):∀{xs:List V}{us:List Value}(i:Nat),Vals xs us->Vals (xs.set i x) (us.set i u) |_,_,_,.nil=>.nil |_,_,0,.cons _ t=>.cons r t |_,_,i+1,.cons q t=>.cons q (Vals.set r i t)
theorem Vals.append:∀{xs ys:List V}{us ws:List Value},Vals xs us->Vals ys ws->Vals (xs++ys) (us++ws) |_,_,_,_,.nil,s=>s |_,_,_,_,.cons r t,s=>.cons r (Vals.append t s)
theorem Vals.take:∀{xs:List V}{us:List Value}(n:Nat),Vals xs us->Vals (xs.take n) (us.take n) |_,_,0,_=>.nil |_,_,_+1,.nil=>.nil |_,_,n+1,.cons r t=>.cons r (Vals.take n t)
theorem Vals.drop:∀{xs:List V}{us:List Value}(n:Nat),Vals xs us->Vals (xs.drop n) (us.drop n) |_,_,0,r=>r |_,_,_+1,.nil=>.nil |_,_,n+1,.cons _ t=>Vals.drop n t
def kF:Option V->Option Value->Prop |some v,some u=>RelV v u |none,none=>True |_,_=>False
def KV{κ:Type}:List (κ×V)->List (κ×Value)->Prop:=Paired λ(p:κ×V)(q:κ×Value)=>p.1=q.1/\RelV p.2 q.2
def kV:Key->V | .inl i=>.int i | .inr x=>.str x
inductive HO where /--a list -/ |lst (xs:List V) /--a tuple (never changes) -/ |tup (xs:List V) /--a dict Yo keys are ints and texts; one Yo keys are tuples of ints and texts (xh empty one is both) -/ |dK (aU:List (Key×V))|dT (aU:List (List Key×V)) /--a set of ints: its members,its size -/ |set (S:Int->Bool)(n:Nat) /--an instance of xh class at C,its dict at dx,its attributes -/ |ins (C dx:Addr)(fs:List (Str×V)) /--xh dict of xh instance at x -/ |own (x:Addr) /--xh dict of an exception -/ |xd (fs:List (Str×V)) /--a bound method,f of x -/ |met (f x:Addr) /--a range object lo,lo+1,.. below hi -/ |vc (lo hi:Int) /--a xg afM is known to xh object (xh Gy; a dict while a loop walks it): read,never written while it is so -/ |nV (o:Obj)(u:HO) /--a code ag9 table -/ |fq (ps:Array Value) /--any other xg,by what is true of its one object (a def of ag8 own: ahn a S n:=HO.ext λh=>..) -/ |ext (φ:Heap->Prop)
abbrev Hp:=Addr->Option HO
def upd(H:Hp)(a:Addr)(o:HO):Hp:=λb=>if b=a then some o else H b
theorem bo:upd H a o a=some o:=by unfold upd;rw[bE rfl]
theorem aR(h:b≠a):upd H a o b=H b:=by unfold upd;rw[bI h]
theorem Ab{H:Hp}{a b:Addr}{o u:HO}(h:H a=some o)(h':H b=some u)(d:o≠u):a≠b:=by intro e;subst e;rw[h]at h';erw[d (fe h')]
theorem fZ{H:Hp}{a b:Addr}{o:HO}(h:H a=some o)(h':H b=none):a≠b:=by intro e;subst e;rw[h]at h';cases h'
section
variable (P:ah) (w:World)
def gA(H:Hp)(h:Heap)(a:Addr):HO->Prop | .lst xs=>xs.length<=sizeLine/\∃(its:List Value)(n:Nat),Vals xs its/\h.get? a=some {cls:=.type "list",data:=.seq its.toArray n} | .tup xs=>xs.length<=sizeLine/\∃its:List Value,Vals xs its/\IsTup h a its.toArray | .dK aU=>aU.length<=sizeLine/\(a==sysModules)=false/\∃vs,KV aU vs/\h.DictOf (ky P w) a vs | .dT aU=>aU.length<=sizeLine/\(a==sysModules)=false/\∃xs:List (List Key×Addr×Value),Paired (λ(p:List Key×V)(q:List Key×Addr×Value)=>p.1=q.1/\H q.2.1=some (.tup (p.1.map kV))/\RelV p.2 q.2.2) aU xs/\∃o es ep,h.get? a=some o/\o.ExactDict/\o.data= .dict es ep/\es.toList=xs.map (entryOfKey (tupleKind (ky P w)))/\(xs.map (·.1)).Nodup | .set S n=>h.SetOf (intKind P w) a S n | .ins C dx fs=>H dx=some (.own a)/\fs.length<=1000/\dx≠a/\h.get? a=some (PySem.W.instObj C dx)/\∃mA,h.Ns1 dx mA/\(∀f,kF (fs.lookup f) (mA f))/\PySem.Within mA (fs.map (·.1)) | .own _=>∃o,h.get? a=some o | .xd fs=>∃mA,h.Ns1 a mA/\∀f,kF (fs.lookup f) (mA f) | .vc lo hi=>∃t u v,h.get? a=some {cls:=.type "range",data:=.fields (List.toArray [.int lo t,.int hi u,.int 1 v])} | .nV o u=>h.get? a=some o/\gA H h a u | .fq ps=>h.get? a=some {cls:=.none,data:=.fields ps} | .met f x=>h.get? a=some (PySem.W.methodObj (.ref f) (.ref x)) | .ext φ=>φ h/\(∃o,h.get? a=some o)/\∀h1 h2:Heap,φ h1->(∀o,h1.get? a=some o->h2.get? a=some o)->φ h2
def fb(H:Hp)(h:Heap):Prop:=∀a o,H a=some o->gA P w H h a o
end
section
variable {P:ah}{w:World}{H H':Hp}{h h':Heap}{a:Addr}{o:HO}
theorem gA.lt(x:gA P w H h a o):a<h.objs.size:=by cases o with |lst xs=>let(_,_,_,_,e):=x;erw[cY e] |tup xs=>let(_,_,_,p):=x;erw[p.lt] |dK aU=>let(_,_,_,_,o,_,_,e,_):=x;erw[cY e] |dT aU=>let(_,_,_,_,o,_,_,e,_):=x;erw[cY e] |set S n=>let(o,_,_,_,e,_):=x;erw[cY e] |ins C dx fs=>let(_,_,_,e,_):=x;erw[cY e] |own y=>let(_,e):=x;erw[cY e] |xd fs=>let(_,(_,_,_,e,_),_):=x;erw[cY e] |vc lo hi=>let(_,_,_,e):=x;erw[cY e] |nV ob u=>let(e,_):=x;erw[cY e] |fq ps=>erw[cY (show h.get? a=some _ from x)] |met f y=>erw[cY (show h.get? a=some _ from x)] |ext φ=>let(_,(_,e),_):=x;erw[cY e]
theorem Paired.K8{α β:Type}{F G:α->β->Prop}:∀{l₁:List α}{l₂:List β},Paired F l₁ l₂->(∀a b,F a b->G a b)->Paired G l₁ l₂ |_,_,.nil,_=>.nil |_,_,.cons r t,f=>.cons (f _ _ r) (Paired.K8 t f)
theorem gA.ny(x:gA P w H h a o)(k:∀b u,(b=a\/H b=some (.own a))->h.get? b=some u->h'.get? b=some u) (ho:∀b,H b=some (.own a)->H' b=some (.own a))(ht:∀b xs,H b=some (.tup xs)->H' b=some (.tup xs)):gA P w H' h' a o:=by induction o with |lst xs=>let(z,its,n,r,e):=x;erw[z,its,n,r,k _ _ (.inl Z) e] |tup xs=>let(z,its,r,ob,e,c):=x;erw[z,its,r,ob,k _ _ (.inl Z) e,c] |dK aU=>let(z,y,vs,r,ob,es,ep,e,c):=x;erw[z,y,vs,r,ob,es,ep,k _ _ (.inl Z) e,c] |dT aU=>let(z,y,xs,r,ob,es,ep,e,c):=x;erw[z,y,xs,Paired.K8 r λp q z=>#[z.1,ht _ _ z.2.1,z.2.2],ob,es,ep,k _ _ (.inl Z) e,c] |set S n=>let(ob,es,ep,t,e,c):=x;erw[ob,es,ep,t,k _ _ (.inl Z) e,c] |ins C dx fs=>let(d,z,ne,e,mA,(od,es,ep,e2,c),r):=x;erw[ho _ d,z,ne,k _ _ (.inl Z) e,mA,#[od,es,ep,k _ _ (.inr d) e2,c],r] |own y=>let(ob,e):=x;erw[ob,k _ _ (.inl Z) e] |xd fs=>let(mA,(od,es,ep,e,c),r):=x;erw[mA,#[od,es,ep,k _ _ (.inl Z) e,c],r] |vc lo hi=>let(t,u,v,e):=x;erw[t,u,v,k _ _ (.inl Z) e] |nV ob u ih=>let(e,q):=x;erw[k _ _ (.inl Z) e,ih q] |fq ps=>have e:h.get? a=some {cls:=.none,data:=.fields ps}:=x;show h'.get? a=some {cls:=.none,data:=.fields ps};erw[k a _ (.inl Z) e] |met f y=>have e:h.get? a=some (PySem.W.methodObj (.ref f) (.ref y)):=x;show h'.get? a=some (PySem.W.methodObj (.ref f) (.ref y));erw[k a _ (.inl Z) e] |ext φ=>let(p,(o,e),st):=x;erw[st _ _ p λo q=>k _ _ (.inl Z) q,#[o,k _ _ (.inl Z) e],st]
theorem fb.lt(x:fb P w H h)(e:H a=some o):a<h.objs.size:=(x a o e).lt
theorem fb.fresh(x:fb P w H h)(e:h.objs.size<=a):H a=none:=by cases q:H a with |none=>rfl |some u=>erw[absurd (gP (x.lt q) e) (si _)]
theorem fb.kept(x:fb P w H h)(k:∀b u,h.get? b=some u->h'.get? b=some u):fb P w H h':=λa o e=>(x a o e).ny (λb u _ q=>k b u q) (λ_ q=>q) λ_ _ q=>q
theorem fb.laid(x:fb P w H h)(k:∀b u,h.get? b=some u->h'.get? b=some u)(hp:h.objs.size<=a)(new:gA P w (upd H a o) h' a o):fb P w (upd H a o) h':=λb u e=>by
 have hn:=x.fresh hp;by_cases hb:b=a
 ·subst hb;rw[bo]at e;cases e;erw[new]
 ·rw[aR hb]at e
  exact(x b u e).ny (λc v _ q=>k c v q) (λc q=>by rw[aR (fZ q hn)];erw[q]) λc xs q=>by rw[aR (fZ q hn)];erw[q]
end
def Rd(H:Hp)(a:Addr)(u:HO):Prop:=H a=some u\/∃o,H a=some (.nV o u)
theorem Rd.ok{P:ah}{w:World}{H:Hp}{h:Heap}{a:Addr}{u:HO}(r:Rd H a u)(x:fb P w H h):gA P w H h a u:=by
 rcases r with r|⟨o,r⟩
 ·erw[x a u r]
 ·let(_,q):=x a _ r
  erw[q]
def Bm:Option HO->Prop |some (.lst _)=>True |some (.dK _)=>True |some (.dT _)=>True |some (.set _ _)=>True |some (.ins _ _ _)=>True |some (.ext _)=>True |_=>False
section
variable {P:ah}{w:World}{H:Hp}{h h':Heap}{x e:Addr}{o':HO}
theorem fb.write(ok:fb P w H h)(mu:Bm (H x))(he:e=x\/H e=some (.own x))(k:∀b u,b≠e->h.get? b=some u->h'.get? b=some u)(yz:∃u,h'.get? e=some u) (new:gA P w (upd H x o') h' x o'):fb P w (upd H x o') h':=λb u q=>by
 have SX:∀c y,H c=some (.own y)->c≠x:=λc y r z=>by subst z;rw[r]at mu;erw[mu]
 have a4z:∀c xs,H c=some (.tup xs)->c≠x:=λc xs r z=>by subst z;rw[r]at mu;erw[mu]
 by_cases hb:b=x
 ·subst hb;rw[bo]at q;cases q;erw[new]
 ·rw[aR hb]at q
  by_cases vV:b=e
  ·have q':H b=some (.own x):=by
    rcases he with z|z
    ·erw[absurd (vV.trans z) hb]
    ·rw[vV];erw[z]
   rw[q]at q';cases q';let(v,hv):=yz;erw[v,by rw[vV];erw[hv]]
  ·refine(ok b u q).ny (λc v hc r=>k c v ?_ r) (λc r=>by rw[aR (SX c b r)];erw[r]) λc xs r=>by rw[aR (a4z c xs r)];erw[r]
   rcases hc with rfl|hc
   ·erw[vV]
   ·rintro rfl
    rcases he with z|z
    ·erw[SX c b hc z]
    ·rw[hc]at z;cases z;erw[hb rfl]
end
structure Un(fs ex:List Addr)(H H':Hp)(h h':Heap):Prop where
 keep:∀b o,h.get? b=some o->H b=none->b∉fs->b∉ex->h'.get? b=some o
 slot:∀b o,h.get? b=some o->H b=none->b∈fs->b∉ex->∃sl,h'.get? b=some {o with slots:=sl}
 free:∀b o,h.get? b=some o->H b=none->b∉ex->H' b=none
 there:∀b o,h.get? b=some o->b∉ex->∃o',h'.get? b=some o'
 lG:∀b xs,H b=some (.tup xs)->H' b=some (.tup xs)
 kY:∀b o u,H b=some (.nV o u)->H' b=some (.nV o u)
 kL:∀b ps,H b=some (.fq ps)->∃more,H' b=some (.fq (ps++more))
section
variable {fs fs' ex qZ:List Addr}{H H1 H2:Hp}{h h1 h2 h':Heap}{a x e:Addr}{o:HO}
theorem Un.any(u:Un fs ex H H1 h h1){b:Addr}{ob:Obj}(q:h.get? b=some ob)(n:H b=none)(hx:b∉ex):∃sl,h1.get? b=some {ob with slots:=sl}:=by
 by_cases hb:b∈fs
 ·erw[u.slot b ob q n hb hx]
 ·erw[ob.slots,u.keep b ob q n hb hx]
theorem Un.kept(k:∀b u,h.get? b=some u->h'.get? b=some u):Un fs ex H H h h':=#[λb ob q _ _ _=>k b ob q,λb ob q _ _ _=>#[ob.slots,k b ob q],λ_ _ _ n _=>n,λb ob q _=>#[ob,k b ob q],λ_ _ q=>q,λ_ _ _ q=>q,λ_ ps q=>#[#[],by rw[q];simp]]
theorem Un.refl:Un fs ex H H h h:=Un.kept λ_ _ q=>q
theorem Un.laid(k:∀b u,h.get? b=some u->h'.get? b=some u)(hp:h.objs.size<=a)(hn:H a=none):Un fs ex H (upd H a o) h h' where
 keep:=λb u q _ _ _=>k b u q
 slot:=λb u q _ _ _=>#[u.slots,k b u q]
 free:=λb u q n _=>by rw[aR (gq (gP (cY q) hp))];erw[n]
 there:=λb u q _=>#[u,k b u q]
 lG:=λb xs q=>by rw[aR (fZ q hn)];erw[q]
 kY:=λb u xs q=>by rw[aR (fZ q hn)];erw[q]
 kL:=λb ps q=>#[#[],by rw[aR (fZ q hn),q];simp]
theorem Un.write(mu:Bm (H x))(he:e=x\/H e=some (.own x))(k:∀b u,b≠e->h.get? b=some u->h'.get? b=some u)(yz:∃u,h'.get? e=some u):Un fs ex H (upd H x o) h h':=by
 have hx:∀b,H b=none->b≠x:=λb n z=>by subst z;rw[n]at mu;erw[mu]
 have hb:∀b,H b=none->b≠e:=λb n z=>by
  subst z;rcases he with r|r
  ·erw[hx b n r]
  ·rw[n]at r;cases r
 have hm:∀b u,H b=some u->¬Bm (some u)->b≠x:=λb u q nm z=>by subst z;rw[q]at mu;erw[nm mu]
 erw[λb u q n _ _=>k b u (hb b n) q,λb u q n _ _=>#[u.slots,k b u (hb b n) q],λb u q n _=>by rw[aR (hx b n)];erw[n],λb u q _=>?_,λb xs q=>by rw[aR (hm b _ q λz=>z)];erw[q],λb u xs q=>by rw[aR (hm b _ q λz=>z)];erw[q],λb ps q=>#[#[],by rw[aR (hm b _ q λz=>z),q];simp]];by_cases vV:b=e
 ·subst vV;erw[yz]
 ·erw[u,k b u vV q]
end
def C6(h:Heap)(H:Hp):List Addr:=(List.range h.objs.size).filter λa=>(H a).isSome
def oY(h:Heap)(H:Hp):Heap:=PySem.W.hideAll h (C6 h H)
theorem a7S(h:Heap)(H:Hp):(oY h H).objs.size=h.objs.size:=PySem.W.hideAll_size _ _
theorem a7T(e:h.get? b=some o)(n:H b=none):(oY h H).get? b=some o:=Nr _ e λhm=>by have q:(H b).isSome=true:=(List.mem_filter.mp hm).2;rw[n]at q;simp at q
theorem a4v(e:(oY h H).get? b=some o):h.get? b=some o/\H b=none:=by have e':h.get? b=some o:=PySem.W.of_hideAll (C6 h H) e;erw[e',?_];cases q:H b with |none=>rfl |some x=>have hm:b∈C6 h H:=List.mem_filter.mpr #[List.mem_range.mpr (cY e'),by simp[q]];have z:(oY h H).get? b=none:=PySem.W.hideAll_none (C6 h H) hm;rw[z]at e;cases e
structure Mod(K:aa)(mg:cw)(aB:Heap):Prop where
 qG:K.In aB
 glob:aB.Ns mainGlobals mg
 blt:∃mb,aB.Ns builtinsNs mb/\∀x:Str,x≠"__name__"->mb x=bootBuiltins x
 nolimit:aB.NoLimit
structure Cx where
 prog:ah
 w:World
 K:aa
 mg:cw
 aB:Heap
 A:aj
 N:List Str
 s₀:ae
 H₀:Hp
 env:Env
 outer:List Env
 stack:List Env
 ex:List Addr
 fn:Str->Bool
 calm:Bool
 pn:List (Addr×Obj)
 xe:Value->ae->Prop
def dJ(l:List Env):List Addr:=l.filterMap (·.frame)
abbrev Cx.fs(X:Cx):List Addr:=dJ X.outer
def F3(sc:Scope)(x:Str):Prop:=sc.names.lookup x=some .local\/sc.names.lookup x=some .cell\/sc.names.lookup x=some .free
def Loc(sc:Scope)(x:Str):Prop:=sc.names.lookup x=some .local\/sc.names.lookup x=some .cell
def Look(env:Env)(h:Heap)(m:cw)(x:Str)(u:Value):Prop:=(env.kindOf x=some .local/\m x=some u)\/((env.kindOf x=some .cell\/env.kindOf x=some .free)/\∃c,env.cells.lookup x=some c/\h.IsCell c (some u))
structure Cx.Ok(X:Cx):Prop where
 mod:Mod X.K X.mg X.aB
 kind:X.env.scope.kind= .function
 glob:X.env.globals=mainGlobals
 blt:X.env.builtins=builtinsNs
 above:X.s₀.heap.objs.size<=X.env.locals
 inj:∀x y c,X.env.cells.lookup x=some c->X.env.cells.lookup y=some c->x=y
 has:∀x,(X.env.kindOf x=some .cell\/X.env.kindOf x=some .free)->∃c,X.env.cells.lookup x=some c
 uo:∀x c,X.fn x=true->X.env.cells.lookup x=some c->X.s₀.heap.objs.size<=c
 hd:X.calm=true->X.A.handled=none
 frames:X.A.frames=some X.stack
 xn:X.stack=X.outer\/(X.stack=X.env::X.outer/\X.env.frame=some X.env.locals)
 Ew:∀b∈X.ex,b≠X.env.locals/\∀x c,X.env.cells.lookup x=some c->c≠b
 bs:∀b o,X.aB.get? b=some o->X.s₀.heap.get? b=some o/\X.H₀ b=none
 ng:X.aB.objs.size<=X.s₀.heap.objs.size
 vk:∀b o,X.aB.get? b=some o->b∉X.ex
 ud:∀b∈X.ex,b∉X.fs
 kD:X.s₀.heap.FunFrames X.aB X.outer
 p8:∀b∈X.fs,X.H₀ b=none
structure Inv(X:Cx)(ay:List (Addr×Obj))(O:List (Option V))(H:Hp)(s:ae):Prop where
 ok:X.Ok
 os:s.os=X.s₀.os
 bare:AllBare s.gens
 aB:Un X.fs X.ex X.H₀ H X.s₀.heap s.heap
 loc:∃m,s.heap.Ns X.env.locals m/\∀(i:Nat)(x:Str)(v:V),X.N[i]? =some x->O[i]? =some (some v)->F3 X.env.scope x->∃u,RelV v u/\Look X.env s.heap m x u
 cell:∀x c,X.env.cells.lookup x=some c->∃v,s.heap.IsCell c v
 free:H X.env.locals=none
 kZ:∀x c,X.env.cells.lookup x=some c->H c=none
 pin:∀p∈X.pn++ay,s.heap.get? p.1=some p.2/\H p.1=none/\p.1≠X.env.locals/\p.1∉X.fs/\∀v,p.2.data≠ .cell v
 bB:fb X.prog X.w H s.heap
 len:O.length=X.N.length
section
variable {X:Cx}{ay:List (Addr×Obj)}{O:List (Option V)}{H H':Hp}{s:ae}{h':Heap}
theorem Cx.Ok.a4H(ok:X.Ok){b:Addr}{o:Obj}(e:X.aB.get? b=some o):b∉X.fs:=λhb=>by have:=(ok.kD.mem hb).1;rw[e]at this;cases this
theorem Inv.bs(I:Inv X ay O H s):∀b o,X.aB.get? b=some o->s.heap.get? b=some o/\H b=none:=λb o e=>#[I.aB.keep b o (I.ok.bs b o e).1 (I.ok.bs b o e).2 (I.ok.a4H e) (I.ok.vk b o e),I.aB.free b o (I.ok.bs b o e).1 (I.ok.bs b o e).2 (I.ok.vk b o e)]
theorem Inv.bk(I:Inv X ay O H s):∀b o,X.aB.get? b=some o->s.heap.get? b=some o:=λb o e=>(I.bs b o e).1
theorem Inv.mod(I:Inv X ay O H s):Mod X.K X.mg X.aB:=I.ok.mod
theorem Inv.iq(I:Inv X ay O H s):X.K.In s.heap:=I.ok.mod.qG.keeps I.bk
theorem Inv.lt(I:Inv X ay O H s):X.env.locals<s.heap.objs.size:=let#[_,hn,_]:=I.loc;hn.lt
theorem Inv.sz(I:Inv X ay O H s):X.s₀.heap.objs.size<=s.heap.objs.size:=iK I.ok.above (ND I.lt)
theorem Inv.T5(I:Inv X ay O H s){a:Addr}(h:s.heap.objs.size<=a):a∉X.fs:=λhb=>by let(_,o,ho,_):=I.ok.kD.mem hb;erw[absurd (gP (cY ho) (iK I.sz h)) (si _)]
theorem Inv.lg(I:Inv X ay O H s):∀x c,X.env.cells.lookup x=some c->c≠X.env.locals:=λx c e z=>by let(v,o,ho,hd):=I.cell x c e;let(m,(o',es,ep,nP,yA,_),_):=I.loc;rw[z,nP]at ho;cases ho;rw[yA]at hd;cases hd
theorem Inv.kD(I:Inv X ay O H s):s.heap.FunFrames X.aB X.outer:=by
 have all:∀(l:List Env),(∀b∈dJ l,b∈X.fs)->X.s₀.heap.FunFrames X.aB l->s.heap.FunFrames X.aB l:=by intro l;induction l with |nil=>intro _ _;trivial |cons env r ih=>intro hs hl;let(hk,(L,o,hf,hn,ho,hd),hr):=hl;have hL:L∈X.fs:=hs L (by unfold dJ;rw[Y8,hf];erw[NH]);let(sl,e):=I.aB.slot L o ho (I.ok.p8 L hL) hL λz=>I.ok.ud L z hL;erw[hk,#[L,_,hf,hn,e,hd],ih (λb hb=>hs b (by unfold dJ;rw[Y8,hf];erw[jf _ hb])) hr]
 erw[all X.outer (λ_ hb=>hb) I.ok.kD]
theorem Inv.stack(I:Inv X ay O H s):s.heap.FunFrames X.aB X.stack:=by
 rcases I.ok.xn with e|⟨e,hf⟩
 ·rw[e];erw[I.kD]
 ·rw[e]
  let(m,hn,_):=I.loc;erw[.cons (by rw[I.ok.kind];decide) hf hn ?_ I.kD];erw[Heap.get?_none_of_le (iK I.ok.ng I.ok.above)]
theorem Inv.zF(I:Inv X ay O H s):∀b∈dJ X.stack,b∈X.env.locals::X.fs:=λb hb=>by
 rcases I.ok.xn with e|⟨e,hf⟩
 ·rw[e]at hb;erw[jf _ hb]
 ·rw[e]at hb
  unfold dJ at hb;rw[Y8,hf]at hb;erw[hb]
theorem Inv.Cf(I:Inv X ay O H s):∀b∈dJ X.stack,H b=none:=λb hb=>by
 rcases bJ.mp (I.zF b hb)with e|hb
 ·rw[e];erw[I.free]
 ·let(_,o,ho,_):=I.ok.kD.mem hb
  erw[I.aB.free b o ho (I.ok.p8 b hb) λz=>I.ok.ud b z hb]
theorem Inv.step{t':Nat}{ch:List Addr}(I:Inv X ay O H s) (oZ:∀b∈ch,(b∈X.ex\/X.s₀.heap.objs.size<=b)/\b≠X.env.locals/\(∀x c,X.env.cells.lookup x=some c->c≠b)/\∀p∈X.pn++ay,p.1≠b) (keep:∀b o,b≠X.env.locals->b∉X.fs->b∉ch->s.heap.get? b=some o->H b=none->h'.get? b=some o) (slot:∀b o,b≠X.env.locals->b∈X.fs->b∉ch->s.heap.get? b=some o->H b=none->∃sl,h'.get? b=some {o with slots:=sl})(free:∀b o,b∉ch->s.heap.get? b=some o->H b=none->H' b=none) (there:∀b o,b∉ch->s.heap.get? b=some o->∃o',h'.get? b=some o') (lG:∀b xs,H b=some (.tup xs)->H' b=some (.tup xs))(kY:∀b o u,H b=some (.nV o u)->H' b=some (.nV o u))(kL:∀b ps,H b=some (.fq ps)->∃more,H' b=some (.fq (ps++more))) (ns:∀m,s.heap.Ns X.env.locals m->h'.Ns X.env.locals m)(bB:fb X.prog X.w H' h')(hg:AllBare g'): Inv X ay O H' {s with heap:=h',gens:=g',drawn:=d',toks:=t'}:=by
 have Tg:∀b o,X.s₀.heap.get? b=some o->b≠X.env.locals:=λb o e=>gq (gP (cY e) I.ok.above);have Di:∀b o,X.s₀.heap.get? b=some o->b∉X.ex->b∉ch:=λb o e hx hb=>by
  rcases(oZ b hb).1 with z|z
  ·erw[hx z]
  ·erw[absurd (gP (cY e) z) (si _)]
 have cellK:∀x c,X.env.cells.lookup x=some c->∀v,s.heap.IsCell c v->h'.IsCell c v:=λx c e v #[o,ho,hd]=>by
  have Ac:c∉ch:=λz=>(oZ c z).2.2.1 x c e rfl;by_cases hc:c∈X.fs
  ·let(sl,q):=slot c o (I.lg x c e) hc Ac ho (I.kZ x c e)
   erw[_,q,hd]
  ·erw[o,keep c o (I.lg x c e) hc Ac ho (I.kZ x c e),hd]
 erw[I.ok,I.os,hg,#[λb o e n hb hx=>?_,λb o e n hb hx=>?_,λb o e n hx=>?_,λb o e hx=>?_,λb xs e=>lG b xs (I.aB.lG b xs e),λb o xs e=>kY b o xs (I.aB.kY b o xs e),λb ps e=>?_],?_,λx c e=>?_,?_,λx c e=>?_,λp hp=>?_,bB,I.len]
 ·erw[keep b o (Tg b o e) hb (Di b o e hx) (I.aB.keep b o e n hb hx) (I.aB.free b o e n hx)]
 ·let(sl,e1):=I.aB.slot b o e n hb hx
  let(Gv,e2):=slot b _ (Tg b o e) hb (Di b o e hx) e1 (I.aB.free b o e n hx);erw[Gv,e2]
 ·let(o',e1):=I.aB.there b o e hx
  erw[free b o' (Di b o e hx) e1 (I.aB.free b o e n hx)]
 ·let(o',e1):=I.aB.there b o e hx
  erw[there b o' (Di b o e hx) e1]
 ·let(m1,e1):=I.aB.kL b ps e
  let(m2,e2):=kL b _ e1;erw[m1++m2,by rw[e2,Array.append_assoc]]
 ·let(m,hn,hl):=I.loc
  erw[m,ns m hn,λi x v e1 e2 e3=>?_];let(u,r,l):=hl i x v e1 e2 e3;erw[u,r,?_];rcases l with l|⟨k,c,e,z⟩
  ·erw[.inl l]
  ·erw[.inr #[k,c,e,cellK x c e _ z]]
 ·let(v,z):=I.cell x c e
  erw[v,cellK x c e v z]
 ·let(m,(o,_,_,ho,_),_):=I.loc
  erw[free _ o (λz=>(oZ _ z).2.1 Z) ho I.free]
 ·let(v,o,ho,hd):=I.cell x c e
  erw[free c o (λz=>(oZ c z).2.2.1 x c e Z) ho (I.kZ x c e)]
 ·let(e,n,ne,nf,d):=I.pin p hp
  have Ac:p.1∉ch:=λz=>(oZ p.1 z).2.2.2 p hp rfl;erw[keep p.1 p.2 ne nf Ac e n,free p.1 p.2 Ac e n,ne,nf,d]
theorem Inv.un(I:Inv X ay O H s)(u:Un X.fs [] H H' s.heap h')(bB:fb X.prog X.w H' h'):Inv X ay O H' {s with heap:=h',toks:=t'}:=by let(m,(o,es,ep,ho,r),_):=id I.loc;let(sl,hL):=u.any ho I.free (by simp);erw[I.step (g':=s.gens) (d':=s.drawn) (ch:=[]) (λ_ z=>nomatch z) (λb o _ hb _ e n=>u.keep b o e n hb (by simp)) (λb o _ hb _ e n=>u.slot b o e n hb (by simp)) (λb o _ e n=>u.free b o e n (by simp)) (λb o _ e=>u.there b o e (by simp)) u.lG u.kY u.kL (λm' hm=>by let(o',rA,Mo,nP,r'):=hm;rw[ho]at nP;cases nP;erw[_,rA,Mo,hL,r']) bB I.bare]
theorem Inv.call(I:Inv X ay O H s)(u:Un (dJ X.stack) ch H H' s.heap h')(bB:fb X.prog X.w H' h')(hg:AllBare g') (oZ:∀b∈ch,(b∈X.ex\/X.s₀.heap.objs.size<=b)/\b≠X.env.locals/\(∀x c,X.env.cells.lookup x=some c->c≠b)/\∀p∈X.pn++ay,p.1≠b): Inv X ay O H' {s with heap:=h',gens:=g',drawn:=d',toks:=t'}:=by let(m,(o,es,ep,ho,r),_):=id I.loc;let(sl,hL):=u.any ho I.free λz=>(oZ _ z).2.1 rfl;erw[I.step (ch:=ch) oZ (λb o hL hb hc e n=>u.keep b o e n (λz=>(bJ.mp (I.zF b z)).elim hL hb) hc) (λb o _ _ hc e n=>u.any e n hc) (λb o hc e n=>u.free b o e n hc) (λb o hc e=>u.there b o e hc) u.lG u.kY u.kL (λm' hm=>by let(o',rA,Mo,nP,r'):=hm;rw[ho]at nP;cases nP;erw[_,rA,Mo,hL,r']) bB hg]
theorem Inv.turned{it:Addr}(I:Inv X ay O H s)(k:∀b o,b≠it->s.heap.get? b=some o->h'.get? b=some o)(hn:H it=none)(hL:it≠X.env.locals) (h1:it∈X.ex\/X.s₀.heap.objs.size<=it)(h2:∀x c,X.env.cells.lookup x=some c->c≠it)(h3:∀p∈X.pn++ay,p.1≠it):Inv X ay O H {s with heap:=h',toks:=t'}:=by
 have Aa:∀b u,H b=some u->b≠it:=λb u e z=>by rw[z,hn]at e;cases e
 erw[I.step (g':=s.gens) (d':=s.drawn) (ch:=[it]) (λb hb=>?_) (λb o _ _ hc e _=>k b o (λz=>hc (by simp[z])) e) (λb o _ _ hc e _=>#[o.slots,k b o (λz=>hc (by simp[z])) e]) (λ_ _ _ _ n=>n) (λb o hc e=>#[o,k b o (λz=>hc (by simp[z])) e]) (λ_ _ e=>e) (λ_ _ _ e=>e) (λb ps e=>#[#[],by rw[e];simp]) (λm hm=>?_) (λb u e=>?_) I.bare]
 ·have e:b=it:=by simpa using hb
  subst e;erw[h1,hL,h2,h3]
 ·let(o,es,ep,ho,r):=hm
  erw[o,es,ep,k _ o (dy hL) ho,r]
 ·refine(I.bB b u e).ny (λc v hc q=>k c v ?_ q) (λ_ q=>q) λ_ _ q=>q
  rcases hc with z|z
  ·rw[z];erw[Aa b u e]
  ·erw[Aa c _ z]
theorem Inv.tok(I:Inv X ay O H s)(t:Nat):Inv X ay O H {s with toks:=t}:=I.un (h':=s.heap) (t':=t) Un.refl I.bB
theorem Inv.kept(I:Inv X ay O H s)(k:∀b u,s.heap.get? b=some u->h'.get? b=some u):Inv X ay O H {s with heap:=h',toks:=t'}:=I.un (Un.kept k) (I.bB.kept k)
theorem Inv.laid{a:Addr}{o:HO}{t':Nat}(I:Inv X ay O H s)(k:∀b u,s.heap.get? b=some u->h'.get? b=some u)(hp:s.heap.objs.size<=a)(new:gA X.prog X.w (upd H a o) h' a o): Inv X ay O (upd H a o) {s with heap:=h',toks:=t'}:=I.un (Un.laid k hp (I.bB.fresh hp)) (I.bB.laid k hp new)
theorem Inv.write(I:Inv X ay O H s)(mu:Bm (H x))(he:e=x\/H e=some (.own x))(k:∀b u,b≠e->s.heap.get? b=some u->h'.get? b=some u)(yz:∃u,h'.get? e=some u) (new:gA X.prog X.w (upd H x o) h' x o):Inv X ay O (upd H x o) {s with heap:=h',toks:=t'}:=I.un (Un.write mu he k yz) (I.bB.write mu he k yz new)
theorem Inv.Sd(I:Inv X ay O H s)(h:∀p∈Jy,s.heap.get? p.1=some p.2/\H p.1=none/\p.1≠X.env.locals/\p.1∉X.fs/\∀v,p.2.data≠ .cell v):Inv X Jy O H s:=#[I.ok,I.os,I.bare,I.aB,I.loc,I.cell,I.free,I.kZ,λp hp=>(wW.mp hp).elim (λz=>I.pin p (Y5 _ z)) (h p),I.bB,I.len]
theorem JU{N:List Str}(hN:N.Nodup){i j:Nat}{x:Str}(a:N[i]? =some x)(b:N[j]? =some x):i=j:=by let(h1,e1):=eQ.mp a;let(h2,e2):=eQ.mp b;exact(List.getElem_inj hN).mp (e1.trans e2.symm)
theorem OE{M:Model}{A:aj}{E:Value->ae->Prop}{i:Nat}{x:Str}{v:V}{u:Value}{Q:Unit->ae->Prop}(I:Inv X ay O H s)(hN:X.N.Nodup)(hi:X.N[i]? =some x)(hx:Loc X.env.scope x)(r:RelV v u) (h:∀s',Inv X ay (O.set i (some v)) H s'->(∃a,Heap.SameBut a s.heap s'.heap/\(a=X.env.locals\/X.env.cells.lookup x=some a))->Q () s')(hf:autoParam (X.fn x=true\/X.env.scope.names.lookup x=some .local) d8_._auto_1):wpAny M A (storeName X.env x u) Q E s:=by
 let(m,hn,hl):=id I.loc;have AF:(X.env.scope.kind== .class||(X.env.scope.kind== .module&&X.env.locals !=X.env.globals))=false:=by rw[I.ok.kind];rfl
 have E1:i<O.length:=by rw[I.len];exact(eQ.mp hi).1
 have lg:=I.lg;have tracked:∀{a:Addr}{h':Heap},(∃o,s.heap.get? a=some o/\H a=none)->Heap.SameBut a s.heap h'->fb X.prog X.w H h':=λ{a h'} ha hs b ob e=>by
  let(_,_,yy):=ha;refine(I.bB b ob e).ny (λc w' hc q=>(hs.2 c ?_).trans q) (λ_ q=>q) λ_ _ q=>q;rintro rfl;rcases hc with rfl|hc
  ·rw[yy]at e;cases e
  ·rw[yy]at hc;cases hc
 rcases hx with hk|hk
 ·erw[wpAny_storeName_local hk hn (λh' vP hs=>?_) AF]
  let(oL,_,_,UO,_):=id hn;erw[h _ #[I.ok,I.os,I.bare,#[λb o e n hb hx=>?_,λb o e n hb hx=>?_,I.aB.free,λb o e hx=>?_,I.aB.lG,I.aB.kY,I.aB.kL],#[_,vP,λj y v' e1 e2 e3=>?_],λy c e=>?_,I.free,I.kZ,λp hp=>?_,tracked #[oL,UO,I.free] hs,by simpa using I.len] #[_,hs,.inl rfl]]
  ·exact(hs.2 b (gq (gP (cY e) I.ok.above))).trans (I.aB.keep b o e n hb hx)
  ·let(sl,e1):=I.aB.slot b o e n hb hx
   erw[sl,(hs.2 b (gq (gP (cY e) I.ok.above))).trans e1]
  ·let(o',e1):=I.aB.there b o e hx
   erw[o',(hs.2 b (gq (gP (cY e) I.ok.above))).trans e1]
  ·by_cases hj:j=i
   ·subst hj
    rw[hi]at e1;cases e1;rw[BH E1]at e2;cases e2;erw[u,r,.inl #[hk,by simp]]
   ·rw[NL (dy hj)]at e2
    let(u',r',q):=hl j y v' e1 e2 e3;erw[u',r',?_];rcases q with⟨k,e⟩|⟨k,c,e,z⟩
    ·erw[.inl #[k,?_]]
     have:y≠x:=λe=>hj (JU hN e1 (e▸hi));simp[this,e]
    ·erw[.inr #[k,c,e,z.sameBut hs (lg y c e)]]
  ·let(w',z):=I.cell y c e
   erw[w',z.sameBut hs (lg y c e)]
  ·let(e,n,ne,nf,d):=I.pin p hp
   erw[(hs.2 p.1 ne).trans e,n,ne,nf,d]
 ·have tV:X.fn x=true:=by
   rcases hf with z|z
   ·erw[z]
   ·rw[z]at hk;cases hk
  let(c,hc):=I.ok.has x (.inl hk);let(w',z):=I.cell x c hc;erw[wpAny_storeName_cell I.ok.kind hk hc z (λh' iu hs=>?_)];let(oc,UN,a7n):=id z;erw[h {s with heap:=h'} #[I.ok,I.os,I.bare,#[λb o e n hb hx=>?_,λb o e n hb hx=>?_,I.aB.free,λb o e hx=>?_,I.aB.lG,I.aB.kY,I.aB.kL],#[m,hn.sameBut hs (dy (lg x c hc)),λj y v' e1 e2 e3=>?_],λy c' e=>?_,I.free,I.kZ,λp hp=>?_,tracked #[oc,UN,I.kZ x c hc] hs,by simpa using I.len] #[c,hs,.inr hc]]
  ·exact(hs.2 b (gq (gP (cY e) (I.ok.uo x c tV hc)))).trans (I.aB.keep b o e n hb hx)
  ·let(sl,e1):=I.aB.slot b o e n hb hx
   erw[sl,(hs.2 b (gq (gP (cY e) (I.ok.uo x c tV hc)))).trans e1]
  ·let(o',e1):=I.aB.there b o e hx
   erw[o',(hs.2 b (gq (gP (cY e) (I.ok.uo x c tV hc)))).trans e1]
  ·by_cases hj:j=i
   ·subst hj
    rw[hi]at e1;cases e1;rw[BH E1]at e2;cases e2;erw[u,r,.inr #[.inl hk,c,hc,iu]]
   ·rw[NL (dy hj)]at e2
    let(u',r',q):=hl j y v' e1 e2 e3;erw[u',r',?_];rcases q with q|⟨k,c',e,z'⟩
    ·erw[.inl q]
    ·erw[.inr #[k,c',e,z'.sameBut hs ?_]]
     rintro rfl;erw[hj (JU hN e1 (I.ok.inj _ _ _ e hc▸hi))]
  ·by_cases V0:c'=c
   ·subst V0;erw[_,iu]
   ·let(w2,z2):=I.cell y c' e
    erw[w2,z2.sameBut hs V0]
  ·let(e,n,ne,nf,d):=I.pin p hp
   erw[(hs.2 p.1 ?_).trans e,n,ne,nf,d];intro q;rw[q,UN]at e;have q':oc=p.2:=fe e;erw[d w' (by rw[<-q'];erw[a7n])]
theorem xl{M:Model}{A:aj}{E:Value->ae->Prop}{i:Nat}{x:Str}{v:V}{u:Value}{Q:Unit->ae->Prop}(I:Inv X ay O H s)(hN:X.N.Nodup)(hi:X.N[i]? =some x)(hx:Loc X.env.scope x)(r:RelV v u) (h:∀s',Inv X ay (O.set i (some v)) H s'->Q () s')(hf:autoParam (X.fn x=true\/X.env.scope.names.lookup x=some .local) d8_._auto_1):wpAny M A (storeName X.env x u) Q E s:=OE I hN hi hx r (λs' I' _=>h s' I') hf
theorem Inv.ER(I:Inv X ay O H s)(ho:s'.os=s.os)(u:Un (dJ X.stack) ch H H' s.heap s'.heap)(bB:fb X.prog X.w H' s'.heap)(hg:AllBare s'.gens) (oZ:∀b∈ch,(b∈X.ex\/X.s₀.heap.objs.size<=b)/\b≠X.env.locals/\(∀x c,X.env.cells.lookup x=some c->c≠b)/\∀p∈X.pn++ay,p.1≠b):Inv X ay O H' s':=by let(h',g',d',t',o'):=s';have e:o'=s.os:=ho;subst e;erw[I.call (g':=g') (t':=t') (d':=d') u bB hg oZ]
end
abbrev XK:=Value->Option Addr->Hp->Prop
abbrev St:=List (Option V)
abbrev VK:=V->Hp->Prop
abbrev TE:=St->Hp->VK->Prop
abbrev TT:=St->Hp->(Bool->Hp->Prop)->Prop
abbrev TA:=St->Hp->(List V->Hp->Prop)->Prop
structure Ends where
 nx:St->Hp->Prop
 rt:VK
 bk:St->Hp->Prop:=λ_ _=>False
 ct:St->Hp->Prop:=λ_ _=>False
abbrev TS:=Ends->St->Hp->Prop
def EP(X:Cx)(ay:List (Addr×Obj))(O:St)(Q:VK)(u:Value)(s':ae):Prop:=∃v H',Inv X ay O H' s'/\RelV v u/\Q v H'
def TP(X:Cx)(ay:List (Addr×Obj))(O:St)(Q:Bool->Hp->Prop)(b:Bool)(s':ae):Prop:=∃H',Inv X ay O H' s'/\Q b H'
def AP(X:Cx)(ay:List (Addr×Obj))(O:St)(Q:List V->Hp->Prop)(us:List Value)(s':ae):Prop:=∃vs H',Inv X ay O H' s'/\Vals vs us/\Q vs H'
def SP(X:Cx)(ay:List (Addr×Obj))(D:Ends)(f:Flow)(s':ae):Prop:=match f with | .next=>∃σ' H',Inv X ay σ' H' s'/\D.nx σ' H' | .brk=>∃σ' H',Inv X ay σ' H' s'/\D.bk σ' H' | .cont=>∃σ' H',Inv X ay σ' H' s'/\D.ct σ' H' | .ret u=>∃v σ' H',Inv X ay σ' H' s'/\RelV v u/\D.rt v H'
def PE(X:Cx)(e:Expr)(t:TE):Prop:=∀(ay:List (Addr×Obj))(s:ae)(O:St)(H:Hp)(Q:VK),Inv X ay O H s->t O H Q->wpAny (model X.prog X.w) X.A (eval e X.env) (EP X ay O Q) X.xe s
def PT(X:Cx)(e:Expr)(t:TT):Prop:=∀(ay:List (Addr×Obj))(s:ae)(O:St)(H:Hp)(Q:Bool->Hp->Prop),Inv X ay O H s->t O H Q->wpAny (model X.prog X.w) X.A (isTrue e X.env (eval e X.env)) (TP X ay O Q) X.xe s
def PW(X:Cx)(e:Expr)(t:TT):Prop:=∀(whole:Sem Value)(ay:List (Addr×Obj))(s:ae)(O:St)(H:Hp)(Q:Bool->Hp->Prop),Inv X ay O H s->t O H Q->wpAny (model X.prog X.w) X.A (isTrue e X.env whole) (TP X ay O Q) X.xe s
theorem PW.pt{t:TT}(h:PW X e t):PT X e t:=h _
def PA(X:Cx)(es:List Expr)(t:TA):Prop:=∀(pos:Pos)(ay:List (Addr×Obj))(s:ae)(O:St)(H:Hp)(Q:List V->Hp->Prop),Inv X ay O H s->t O H Q->wpAny (model X.prog X.w) X.A (spliced (backTo pos (starEach es X.env))) (AP X ay O Q) X.xe s
def PS(X:Cx)(st:Stmt)(t:TS):Prop:=∀(ay:List (Addr×Obj))(s:ae)(O:St)(H:Hp)(D:Ends),Inv X ay O H s->t D O H->wpAny (model X.prog X.w) X.A (exec st X.env) (SP X ay D) X.xe s
def iU(X:Cx)(st:List Stmt)(t:TS):Prop:=∀(ay:List (Addr×Obj))(s:ae)(O:St)(H:Hp)(D:Ends),Inv X ay O H s->t D O H->wpAny (model X.prog X.w) X.A (execs st X.env) (SP X ay D) X.xe s
theorem bw{α:Type}{t:Sem α}{Q Q':α->ae->Prop}{M:Model}{A:aj}{E:Value->ae->Prop}{s:ae}(h:wpAny M A t Q E s)(hQ:∀a s,Q a s->Q' a s):wpAny M A t Q' E s:=kI h hQ λ_ _ x=>x
section
variable {X:Cx}
inductive ado(i:Nat)(O:St)(H:Hp)(Q:VK):Prop |mk (v:_)(h0:O[i]? =some (some v))(h1:Q v H)
def lH(i:Nat):TE:=λO H Q=>ado i O H Q
def tC (v:V):TE:=λ_ H Q=>Q v H
theorem Sf(hN:X.N[i]? =some x)(hv:F3 X.env.scope x)(hd:autoParam ((x==("__debug__":Str))=false) q8_._auto_1)(iR:autoParam ((x==("__classdict__":Str))=false) q8_._auto_1):PE X (.Name x pos) (lH i):=by
 intro ay s O H Q I h;let(v,e,h):=h;let(m,hn,hl):=I.loc;let(u,r,l):=hl i x v hN e hv;have fin:EP X ay O Q u s:=#[v,H,I,r,h];rcases l with⟨hk,hm⟩|⟨hk,c,hc,nQ⟩
 ·erw[wpAny_Name (wpAny_loadName_local I.ok.kind hk hn hm fin) hd]
 ·rcases hk with hk|hk
  ·erw[wpAny_Name (wpAny_loadName_cell I.ok.kind hk hc nQ fin) hd]
  ·erw[wpAny_Name (wpAny_loadName_free I.ok.kind hk hc nQ fin iR) hd]
theorem aF{i j pos}:PE X (.Constant (.int i) j pos) (tC (.int i)):=λ_ _ _ H _ I h=>wpAny_Constant_int #[.int i,H,I.tok _,#[_,Z],h]
theorem gL{b j pos}:PE X (.Constant (.bool b) j pos) (tC (.bl b)):=λ_ _ _ H _ I h=>Constant_bool #[.bl b,H,I,Z,h]
theorem j7{j pos}:PE X (.Constant .none j pos) (tC .bF):=λ_ _ _ H _ I h=>Constant_none #[.bF,H,I,Z,h]
theorem bh{x j pos}:PE X (.Constant (.str x) j pos) (tC (.str x)):=λ_ _ _ H _ I h=>Calls.Constant_str #[.str x,H,I.tok _,#[_,Z],h]
def Gl(X:Cx)(x:Str):Prop:=X.env.kindOf x=some .globalImplicit
theorem yg{E:Value->ae->Prop}{ay:List (Addr×Obj)}{s:ae}{O:St}{H:Hp}{x:Str}{u:Value}{pos:Pos}{Q:Value->ae->Prop}(I:Inv X ay O H s)(hg:Gl X x)(hm:X.mg x=some u)(h:Q u s) (hd:autoParam ((x==("__debug__":Str))=false) q8_._auto_1):wpAny (model X.prog X.w) X.A (eval (.Name x pos) X.env) Q E s:=Calls.Name_function_global I.ok.kind hg (Calls.loadGlobal_global (by rw[I.ok.glob];erw[I.mod.glob.keeps I.bk]) hm h) hd
theorem qF{E:Value->ae->Prop}{ay:List (Addr×Obj)}{s:ae}{O:St}{H:Hp}{x:Str}{u:Value}{pos:Pos}{Q:Value->ae->Prop}(I:Inv X ay O H s)(hg:Gl X x)(hm:X.mg x=none)(hv:bootBuiltins x=some u)(h:Q u s) (hn:autoParam (x≠"__name__") q8_._auto_1)(hd:autoParam ((x==("__debug__":Str))=false) q8_._auto_1):wpAny (model X.prog X.w) X.A (eval (.Name x pos) X.env) Q E s:=by let(mb,h1,h2):=I.mod.blt;erw[Calls.Name_function_global I.ok.kind hg (Calls.loadGlobal_builtin (by rw[I.ok.glob];erw[I.mod.glob.keeps I.bk]) hm (by rw[I.ok.blt];erw[h1.keeps I.bk]) ((h2 x hn).trans hv) h) hd]
theorem a2r{v:V}(hg:Gl X x)(hm:X.mg x=some u)(r:RelV v u)(hd:autoParam ((x==("__debug__":Str))=false) q8_._auto_1):PE X (.Name x pos) (tC v):=λ_ _ _ H _ I h=>yg I hg hm #[v,H,I,r,h] hd
theorem dR{v:V}(hg:Gl X x)(hm:X.mg x=none)(hv:bootBuiltins x=some u)(r:RelV v u)(hn:autoParam (x≠"__name__") q8_._auto_1)(hd:autoParam ((x==("__debug__":Str))=false) q8_._auto_1):PE X (.Name x pos) (tC v):=λ_ _ _ H _ I h=>qF I hg hm hv #[v,H,I,r,h] hn hd
variable {a b:Expr}{ta tb:TE}{pos:Pos}
inductive ItB(Q:Bool->Hp->Prop)(x:V)(H1:Hp):Prop |mk (c:_)(h0:x= .bl c)(h1:Q c H1)
def tB(t:TE):TT:=λO H Q=>t O H λx H1=>ItB Q x H1
theorem cP{t:TE}(h:PE X e t)(he:autoParam (∀whole,isTrue e X.env whole=(do let v<-whole;standAt e.pos;holding [v] (truthy v))) d8_._auto_1):PT X e (tB t):=by intro ay s O H Q I hw;erw[isTrue_plain (bw (h ay s O H _ I hw) λv s1 #[x,H1,I1,r1,q1]=>?_) (he _)];let(d,rfl,q):=q1;cases r1;erw[pO #[H1,I1,q]]
variable {tA Cc:TT} {rest:List Expr}
def ZA(t u:TT):TT:=λO H Q=>t O H λc H1=>if c=true then u O H1 Q else Q false H1
def Zl(t u:TT):TT:=λO H Q=>t O H λc H1=>if c=true then Q true H1 else u O H1 Q
def Zn(t:TT):TT:=λO H Q=>t O H λc H1=>Q (!c) H1
theorem sX(ha:PT X a tA):PW X (.BoolOp .And [a] pos) tA:=by intro wh ay s O H Q I h;erw[isTrue_and (bw (ha ay s O H Q I h) λc s1 e=>?_)];cases c with |true=>erw[isTrue_and_nil e] |false=>erw[e]
theorem lK(ha:PT X a tA):PW X (.BoolOp .Or [a] pos) tA:=by intro wh ay s O H Q I h;erw[isTrue_or (bw (ha ay s O H Q I h) λc s1 e=>?_)];cases c with |false=>erw[isTrue_or_nil e] |true=>erw[e]
theorem oJ(ha:PT X a tA)(hb:PW X (.BoolOp .And (b::rest) pos) Cc):PW X (.BoolOp .And (a::b::rest) pos) (ZA tA Cc):=by intro wh ay s O H Q I h;erw[isTrue_and (bw (ha ay s O H _ I h) λc s1 #[H1,I1,q1]=>?_)];cases c with |true=>erw[hb wh ay s1 O H1 Q I1 q1] |false=>erw[H1,I1,q1]
theorem kM(ha:PT X a tA)(hb:PW X (.BoolOp .Or (b::rest) pos) Cc):PW X (.BoolOp .Or (a::b::rest) pos) (Zl tA Cc):=by intro wh ay s O H Q I h;erw[isTrue_or (bw (ha ay s O H _ I h) λc s1 #[H1,I1,q1]=>?_)];cases c with |true=>erw[H1,I1,q1] |false=>erw[hb wh ay s1 O H1 Q I1 q1]
theorem dX(ha:PT X a tA):PT X (.UnaryOp .Not a pos) (Zn tA):=by intro ay s O H Q I h;erw[isTrue_not (ha ay s O H (λc H1=>Q (!c) H1) I h)]
inductive adA(tb:TE)(O:St)(Q:VK)(x:V)(H1:Hp):Prop |mk (c:_)(h0:x= .bl c)(h1:if c=true then tb O H1 Q else Q (.bl false) H1)
def Zz(ta tb:TE):TE:=λO H Q=>ta O H λx H1=>adA tb O Q x H1
inductive adu(tb:TE)(O:St)(Q:VK)(x:V)(H1:Hp):Prop |mk (c:_)(h0:x= .bl c)(h1:if c=true then Q (.bl true) H1 else tb O H1 Q)
def Zk(ta tb:TE):TE:=λO H Q=>ta O H λx H1=>adu tb O Q x H1
inductive adv(Q:VK)(x:V)(H1:Hp):Prop |mk (c:_)(h0:x= .bl c)(h1:Q (.bl (!c)) H1)
def Zm(ta:TE):TE:=λO H Q=>ta O H λx H1=>adv Q x H1
theorem j6{op}{t:TE}(h:PE X a t):PE X (.BoolOp op [a] pos) t:=λay s O H Q I hw=>BoolOp_one (h ay s O H Q I hw)
theorem j9(ha:PE X a ta)(hb:PE X (.BoolOp .And (b::rest) pos) tb):PE X (.BoolOp .And (a::b::rest) pos) (Zz ta tb):=by intro ay s O H Q I h;erw[BoolOp_and (bw (ha ay s O H _ I h) λv s1 #[x,H1,I1,r1,q1]=>?_)];let(c,rfl,q1):=q1;cases r1;erw[pO ?_];cases c with |true=>erw[hb ay s1 O H1 Q I1 q1] |false=>erw[.bl false,H1,I1,Z,q1]
theorem a2n(ha:PE X a ta)(hb:PE X (.BoolOp .Or (b::rest) pos) tb):PE X (.BoolOp .Or (a::b::rest) pos) (Zk ta tb):=by intro ay s O H Q I h;erw[BoolOp_or (bw (ha ay s O H _ I h) λv s1 #[x,H1,I1,r1,q1]=>?_)];let(c,rfl,q1):=q1;cases r1;erw[pO ?_];cases c with |false=>erw[hb ay s1 O H1 Q I1 q1] |true=>erw[.bl true,H1,I1,Z,q1]
theorem Sg(ha:PE X a ta):PE X (.UnaryOp .Not a pos) (Zm ta):=by intro ay s O H Q I h;erw[UnaryOp_ (bw (ha ay s O H _ I h) λv s1 #[x,H1,I1,r1,q1]=>?_)];let(c,rfl,q1):=q1;cases r1;erw[not_of (pO #[.bl (!c),H1,I1,Z,q1])]
def Zu(t:TT)(ta tb:TE):TE:=λO H Q=>t O H λc H1=>if c=true then ta O H1 Q else tb O H1 Q
theorem Sm(hc:PT X c tA)(ha:PE X a ta)(hb:PE X b tb):PE X (.IfExp c a b pos) (Zu tA ta tb):=by intro ay s O H Q I h;erw[wpAny_IfExp (bw (hc ay s O H _ I h) λd s1 #[H1,I1,q1]=>?_)];cases d with |true=>erw[ha ay s1 O H1 Q I1 q1] |false=>erw[hb ay s1 O H1 Q I1 q1]
end
def aK(K:aa)(H:Hp)(a:Addr)(xs:List V):Prop:=Rd H a (.lst xs)\/ ∃(o:Obj)(its:Array Value)(n:Nat),K.lookup a=some o/\o.cls= .type "list"/\o.dict=none/\o.data= .seq its n/\its.size<=sizeLine/\Vals xs its.toList
def aV(K:aa)(H:Hp)(a:Addr)(xs:List V):Prop:=Rd H a (.tup xs)\/ ∃(o:Obj)(its:Array Value)(n:Nat),K.lookup a=some o/\o.cls= .type "tuple"/\o.data= .seq its n/\its.size<=sizeLine/\Vals xs its.toList
def ad1:Value->Option V | .none=>some .bF | .bool b=>some (.bl b) | .int i _=>some (.int i) | .str x _=>some (.str x) | .bytes b _=>some (.yX b) | .float b _=>some (.Et b) | .ref a=>some (.ref a) | .type n=>some (.ty n) |_=>none
theorem RelV.abs(r:RelV x u):ad1 u=some x:=by cases x with |bF=>cases r;rfl |bl _=>cases r;rfl |int _=>let(t,rfl):=r;rfl |str _=>let(t,rfl):=r;rfl |yX _=>let(t,rfl):=r;rfl |Et _=>let(t,rfl):=r;rfl |ref _=>cases r;rfl |ty _=>cases r;rfl
theorem RelV.inj{x y:V}{u:Value}(r:RelV x u)(q:RelV y u):x=y:=fe (r.abs.symm.trans q.abs)
theorem Vals.inj:∀{xs ys:List V}{us:List Value},Vals xs us->Vals ys us->xs=ys |_,_,_,.nil,.nil=>rfl |_,_,_,.cons r t,.cons r' t'=>by rw[r.inj r',Vals.inj t t']
section
variable {X:Cx}{ay:List (Addr×Obj)}{O:St}{H:Hp}{s:ae}{a:Addr}{xs ys:List V}
theorem aK.of{K:aa}(h:H a=some (.lst xs)):aK K H a xs:=.inl (.inl h)
theorem aV.of{K:aa}(h:H a=some (.tup xs)):aV K H a xs:=.inl (.inl h)
theorem Inv.list(I:Inv X ay O H s)(h:aK X.K H a xs):∃its:List Value,Vals xs its/\PlainL s.heap a its.toArray/\xs.length<=sizeLine:=by
 rcases h with h|⟨o,its,n,hk,hc,hd,hs,hz,r⟩
 ·let(z,its,n,r,e):=h.ok I.bB
  erw[its,r,#[_,n,e,Z,Z,Z],z]
 ·erw[its.toList,r,#[o,n,I.iq a o hk,hc,hd,by simpa using hs],?_]
  have e:=r.length;simp only[BN]at e
  lia
theorem Inv.tuple(I:Inv X ay O H s)(h:aV X.K H a xs):∃its:List Value,Vals xs its/\IsTup s.heap a its.toArray/\xs.length<=sizeLine:=by
 rcases h with h|⟨o,its,n,hk,hc,hs,hz,r⟩
 ·let(z,its,r,p):=h.ok I.bB
  erw[its,r,p,z]
 ·erw[its.toList,r,#[o,I.iq a o hk,hc,n,by simpa using hs],?_]
  have e:=r.length;simp only[BN]at e
  lia
theorem Inv.U6(I:Inv X ay O H s)(h:aK X.K H a xs)(h':aK X.K H a ys):xs=ys:=by
 let(its,r,(o,n,e,_,_,d),_):=I.list h;let(its',r',(o',n',e',_,_,d'),_):=I.list h';rw[e]at e';cases e';rw[d]at d';injection d' with d1 _;have:its=its':=by simpa using congrArg Array.toList d1
 subst this;erw[r.inj r']
theorem Inv.Og(I:Inv X ay O H s)(h:aV X.K H a xs)(h':aV X.K H a ys):xs=ys:=by
 let(its,r,(o,e,_,n,d),_):=I.tuple h;let(its',r',(o',e',_,n',d'),_):=I.tuple h';rw[e]at e';cases e';rw[d]at d';injection d' with d1 _;have:its=its':=by simpa using congrArg Array.toList d1
 subst this;erw[r.inj r']
end
abbrev Cx.jL(X:Cx)(E:Value->ae->Prop):Cx:={X with xe:=E}
abbrev Cx.qC(X:Cx):Cx:=X.jL λ_ _=>False
theorem Cx.Ok.jL{X:Cx}(ok:X.Ok)(E:Value->ae->Prop):(X.jL E).Ok:=#[ok.mod,ok.kind,ok.glob,ok.blt,ok.above,ok.inj,ok.has,ok.uo,ok.hd,ok.frames,ok.xn,ok.Ew,ok.bs,ok.ng,ok.vk,ok.ud,ok.kD,ok.p8]
theorem Cx.Ok.ou{X:Cx}{E:Value->ae->Prop}(ok:(X.jL E).Ok):X.Ok:=#[ok.mod,ok.kind,ok.glob,ok.blt,ok.above,ok.inj,ok.has,ok.uo,ok.hd,ok.frames,ok.xn,ok.Ew,ok.bs,ok.ng,ok.vk,ok.ud,ok.kD,ok.p8]
section
variable {X:Cx}{ay:List (Addr×Obj)}{O:St}{H:Hp}{s:ae}{E:Value->ae->Prop}
theorem Inv.jL(I:Inv X ay O H s)(E:Value->ae->Prop):Inv (X.jL E) ay O H s:=#[I.ok.jL E,I.os,I.bare,I.aB,I.loc,I.cell,I.free,I.kZ,I.pin,I.bB,I.len]
theorem Inv.ou(I:Inv (X.jL E) ay O H s):Inv X ay O H s:=#[I.ok.ou,I.os,I.bare,I.aB,I.loc,I.cell,I.free,I.kZ,I.pin,I.bB,I.len]
theorem SP.ou{D:Ends}(h:SP (X.jL E) ay D f s'):SP X ay D f s':=by cases f with |next=>let(σ',H',I,q):=h;erw[σ',H',I.ou,q] |brk=>let(σ',H',I,q):=h;erw[σ',H',I.ou,q] |cont=>let(σ',H',I,q):=h;erw[σ',H',I.ou,q] |ret u=>let(v,σ',H',I,r,q):=h;erw[v,σ',H',I.ou,r,q]
theorem iU.qC{st:List Stmt}{t:TS}(h:iU X.qC st t):iU X st t:=λay s O H D I hw=>kI (h ay s O H D (I.jL _) hw) (λ_ _ q=>q.ou) λ_ _ z=>False.elim z
end
section
variable {X:Cx}{st:Stmt}{rest:List Stmt}{t u:TS}{e:Expr}{te:TE}{pos:Pos}
def uO:TS:=λD O H=>D.nx O H
def uN(t u:TS):TS:=λD O H=>t {D with nx:=u D} O H
theorem bV:iU X [] uO:=λ_ _ O H _ I h=>Bz #[O,H,I,h]
theorem aG(h1:PS X st t)(h2:iU X rest u):iU X (st::rest) (uN t u):=by intro ay s O H D I h;erw[wpAny_execs_cons (bw (h1 ay s O H {D with nx:=u D} I h) λf s1 q=>?_)];cases f with |next=>let(σ',H',I',q):=q;erw[h2 ay s1 σ' H' D I' q] |ret v=>erw[q] |brk=>erw[q] |cont=>erw[q]
theorem aI(h1:PS X st t):iU X [st] t:=by intro ay s O H D I h;erw[wpAny_execs_cons (bw (h1 ay s O H D I h) λf s1 q=>?_)];cases f with |next=>erw[Bz q] |ret v=>erw[q] |brk=>erw[q] |cont=>erw[q]
theorem Inv.quiet{ay:List (Addr×Obj)}{O:St}{H:Hp}{s:ae}(I:Inv X ay O H s):interactive X.env=false:=by simp[interactive,I.ok.kind]
def Zw(te:TE):TS:=λD O H=>te O H λ_ H1=>D.nx O H1
theorem ie(he:PE X e te)(hs:autoParam (swapsWith e none pos.line X.env=pure false) r8_._auto_1):PS X (.Expr e pos) (Zw te):=by intro ay s O H D I h;erw[wpAny_Expr_any (bw (he ay s O H _ I h) λv s1 #[x,H1,I1,r1,q1]=>#[O,H1,I1,q1]) I.quiet hs]
def Zg(te:TE):TS:=λD O H=>te O H D.rt
theorem aZ(he:PE X e te):PS X (.Return (some e) pos) (Zg te):=by intro ay s O H D I h;erw[wpAny_Return_some (bw (he ay s O H _ I h) λv s1 #[x,H1,I1,r1,q1]=>#[x,O,H1,I1,r1,q1])]
def zD(c:TT)(t u:TS):TS:=λD O H=>c O H λb H1=>if b=true then t D O H1 else u D O H1
theorem bQ(hc:PT X c tc)(ha:iU X a t)(hb:iU X b u):PS X (.If c a b pos) (zD tc t u):=by intro ay s O H D I h;erw[wpAny_If (bw (hc ay s O H _ I h) λd s1 #[H1,I1,q1]=>?_)];cases d with |true=>erw[ha ay s1 O H1 D I1 q1] |false=>erw[hb ay s1 O H1 D I1 q1]
def Zq:TS:=λ_ _ _=>False
theorem nK:PS X st Zq:=λ_ _ _ _ _ _ h=>h.elim
end
abbrev TG:=V->St->Hp->(St->Hp->Prop)->Prop
abbrev pH:=List V->St->Hp->(St->Hp->Prop)->Prop
def PG(X:Cx)(target:Expr)(t:TG):Prop:=∀(ay:List (Addr×Obj))(s:ae)(O:St)(H:Hp)(v:V)(u:Value)(Q:St->Hp->Prop),Inv X ay O H s->RelV v u->t v O H Q->wpAny (model X.prog X.w) X.A (assign target X.env u) (λ_ s'=>∃σ' H',Inv X ay σ' H' s'/\Q σ' H') X.xe s
def Bl(X:Cx)(ts:List Expr)(t:pH):Prop:=∀(ay:List (Addr×Obj))(s:ae)(O:St)(H:Hp)(vs:List V)(us:List Value)(Q:St->Hp->Prop),Inv X ay O H s->Vals vs us->t vs O H Q->wpAny (model X.prog X.w) X.A (assignInOrder ((assignEach ts X.env).map (·.2)) us) (λ_ s'=>∃σ' H',Inv X ay σ' H' s'/\Q σ' H') X.xe s
abbrev F7:=V->V->V->Hp->(Hp->Prop)->Prop
def N6(X:Cx)(t:F7):Prop:=∀(ay:List (Addr×Obj))(s:ae)(O:St)(H:Hp)(o i v:V)(ov iv u:Value)(Q:Hp->Prop),Inv X ay O H s->RelV o ov->RelV i iv->RelV v u->t o i v H Q->wpAny (model X.prog X.w) X.A (setItem ov iv u) (λ_ s'=>∃H',Inv X ay O H' s'/\Q H') X.xe s
abbrev Xo:=V->V->Hp->VK->Prop
def PIp(X:Cx)(op:Operator)(t:Xo):Prop:=∀(ay:List (Addr×Obj))(s:ae)(O:St)(H:Hp)(x y:V)(v u:Value)(Q:VK),Inv X ay O H s->RelV x v->RelV y u->t x y H Q->wpAny (model X.prog X.w) X.A (inplaceOp op v u) (EP X ay O Q) X.xe s
section
variable {X:Cx} {pos:Pos}
def pT9(O:St)(i:Nat)(v:V):St:=O.set i (some v)
def cZ9(v:V)(O:St):St:=some v::O
def fK(i:Nat):TG:=λv O H Q=>Q (pT9 O i v) H
theorem a2m(hN:X.N.Nodup)(hi:X.N[i]? =some x)(hx:Loc X.env.scope x)(hf:autoParam (X.fn x=true\/X.env.scope.names.lookup x=some .local) d8_._auto_1):PG X (.Name x pos) (fK i):=by intro ay s O H v u Q I r h;erw[wpAny_assign_Name (xl I hN hi hx r (λs' I'=>#[_,H,I',h]) hf)]
def u9:pH:=λvs O H Q=>vs=[]/\Q O H
inductive afn(t:TG)(u:pH)(vs:List V)(O:St)(H:Hp)(Q:St->Hp->Prop):Prop |mk (v:_)(r:_)(h0:vs=v::r)(h1:t v O H λσ' H'=>u r σ' H' Q)
def kX(t:TG)(u:pH):pH:=λvs O H Q=>afn t u vs O H Q
theorem dZ:Bl X [] u9:=by intro ay s O H vs us Q I r h;let(e,h):=h;subst e;cases r;erw[assignInOrder_nil #[O,H,I,h]]
theorem cf{t:TG}(h1:PG X e t)(h2:Bl X es u) (hs:autoParam ((assignEach (e::es) X.env).map (·.2)=assign e X.env::(assignEach es X.env).map (·.2)) r8_._auto_1):Bl X (e::es) (kX t u):=by intro ay s O H vs us Q I r h;let(v,vr,e1,h):=h;subst e1;cases r with |cons r rr=>rw[hs];erw[assignInOrder_cons (bw (h1 ay s O H _ _ _ I r h) λ_ s1 #[σ1,H1,I1,q1]=>?_)];erw[h2 ay s1 σ1 H1 _ _ Q I1 rr q1]
inductive afm(K:aa)(n:Nat)(t:pH)(v:V)(O:St)(H:Hp)(Q:St->Hp->Prop):Prop |mk (a:_)(xs:_)(h0:v= .ref a)(h1:aV K H a xs)(h2:xs.length=n)(h3:t xs O H Q)
def qU(K:aa)(n:Nat)(t:pH):TG:=λv O H Q=>afm K n t v O H Q
theorem a2l{k:Nat}{t:pH}(hc:X.calm=true)(h:Bl X es t) (hn:autoParam ((assignEach es X.env).length=n) r8_._auto_1)(iQ:autoParam ((assignEach es X.env).findIdx? (·.1)=none) r8_._auto_1):PG X (.Tuple es k pos) (qU X.K n t):=by intro ay s O H v u Q I r hw;let(a,xs,e1,hq,hl,hw):=hw;subst e1;cases r;let(its,rv,ht,hz):=I.tuple hq;erw[assign_Tuple_tuple (I.ok.hd hc) ht (by simp[hn,<-hl,rv.length]) iQ λh' hx=>?_];have I1:Inv X ay O H {s with heap:=h'}:=I.kept (t':=s.toks) λb o e=>hx b o (gq (cY e)) e;erw[h ay _ O H xs _ Q I1 (by simpa using rv) hw]
def a9v(to ti:TE)(t:F7):TG:=λv O H Q=>to O H λo H1=>ti O H1 λi H2=>t o i v H2 λH3=>Q O H3
theorem j4{to:TE}{t:F7}(ho:PE X o to)(hi:PE X i ti)(hs:N6 X t) (ha:∀v,assign (.Subscript o i pos) X.env v=(do
 let ov<-holding [v] (eval o X.env)
 let iv<-holding [v,ov] (eval i X.env)
 standAt pos
 holding [v,ov,iv] (setItem ov iv v)
 release [v,ov,iv] []):=by intro _;rfl):PG X (.Subscript o i pos) (a9v to ti t):=by
 intro ay s O H v u Q I r h;rw[ha];erw[aW (wO (bw (ho ay s O H _ I h) λov s1 #[x,H1,I1,r1,q1]=>?_))];erw[aW (wO (bw (hi ay s1 O H1 _ I1 q1) λiv s2 #[y,H2,I2,r2,q2]=>?_))];erw[aW (wpAny_standAt (aW (wO (bw (hs ay s2 O H2 x y v ov iv u _ I2 r1 r2 r q2) λ_ s3 #[H3,I3,q3]=>?_))))];erw[wpAny_release #[O,H3,I3,q3]]
def xi(te:TE)(g:TG):TS:=λD O H=>te O H λx H1=>g x O H1 D.nx
theorem fP(he:PE X e te)(hg:PG X tg g)(hs:autoParam (swapsWithSole [tg] e pos.line X.env=pure false) r8_._auto_1)(hw:autoParam (swappedStores [tg] e X.env=pure none) r8_._auto_1) (h1:autoParam ((assignEach [tg] X.env).map (·.2)=[assign tg X.env]) r8_._auto_1):PS X (.Assign [tg] e pos) (xi te g):=by intro ay s O H D I h;erw[wpAny_Assign_stores (bw (he ay s O H _ I h) λv s1 #[x,H1,I1,r1,q1]=>?_) hs hw];rw[h1];erw[bw (hg ay s1 O H1 x v _ I1 r1 q1) λ_ s2 q=>q]
theorem a23(hN:X.N.Nodup)(hi:X.N[i]? =some x)(hx:Loc X.env.scope x)(he:PE X e te)(hs:autoParam (swapsWith e (some (.Name x pos')) pos.line X.env=pure false) r8_._auto_1)(hf:autoParam (X.fn x=true\/X.env.scope.names.lookup x=some .local) d8_._auto_1): PS X (.Assign [.Name x pos'] e pos) (xi te (fK i)):=by intro ay s O H D I h;erw[wpAny_Assign_Name (bw (he ay s O H _ I h) λv s1 #[y,H1,I1,r1,q1]=>?_) hs];erw[xl I1 hN hi hx r1 (λs2 I2=>#[_,H1,I2,q1]) hf]
inductive adt(i:Nat)(j:Nat)(D:Ends)(O:St)(vs:List V)(H1:Hp):Prop |mk (v:_)(w:_)(h0:vs=[v,w])(h1:D.nx ((O.set i (some v)).set j (some w)) H1)
def Zj(i j:Nat)(ta:TA):TS:=λD O H=>ta O H λvs H1=>adt i j D O vs H1
theorem qv{px pt:Pos}{kt k2 Js}(hc:X.calm=true)(hN:X.N.Nodup)(hi:X.N[i]? =some x)(hj:X.N[j]? =some y)(hij:i≠j) (hx:X.env.scope.names.lookup x=some .local)(hy:X.env.scope.names.lookup y=some .local)(ha:PA X [a,b] ta) (hw:swappedStores [.Tuple [.Name x px,.Name y py] kt pt] (.Tuple [a,b] k2 Js) X.env=pure (some [x,y])) (hs:autoParam (swapsWithSole [.Tuple [.Name x px,.Name y py] kt pt] (.Tuple [a,b] k2 Js) pos.line X.env=pure false) r8_._auto_1): PS X (.Assign [.Tuple [.Name x px,.Name y py] kt pt] (.Tuple [a,b] k2 Js) pos) (Zj i j ta):=by
 intro ay s O H D I h;rw[exec_Assign_arm];erw[aW (wpAny_standAt ?_)];rw[hs];erw[aW (cI ?_)];rw[bI aD];erw[aW (Tuple_ (bw (ha _ ay s O H _ I h) λus s1 #[vs,H1,I1,r1,q1]=>?_))];let(v,w,e1,q1):=q1;subst e1;obtain⟨u1,u2,rfl,rv,jN⟩:∃u1 u2,us=[u1,u2]/\RelV v u1/\RelV w u2:=by cases r1 with |cons p q=>cases q with |cons p' q'=>cases q';erw[_,_,Z,p,p']
 erw[rW ?_ (by show 2<=sizeLine;decide)];have I2:Inv X ay O H1 {s1 with heap:=s1.heap.push {cls:=.type "tuple",data:=.seq [u1,u2].toArray}}:=I1.kept (t':=s1.toks) λb o e=>cW _ e;rw[hw];erw[aW (cI ?_)];show wpAny (model X.prog X.w) X.A (do rule "assign.swapped-stores";let items<-unpackItems (.ref s1.heap.objs.size) 2 none;assignInOrder [λv=>bindName X.env y v,λv=>bindName X.env x v] items.reverse;pure Flow.next) _ _ _;erw[aW (wpAny_rule (aW (unpackItems_tuple (items:=(List.toArray [u1,u2])) (I.ok.hd hc) (IsTup.new s1.heap _) λh' hx'=>?_)))];have I3:=I2.kept (h':=h') (t':=s1.toks) λb o e=>hx' b o (gq (cY e)) e;show wpAny _ _ (assignInOrder [λv=>bindName X.env y v,λv=>bindName X.env x v] [u2,u1]>>=λ_=>pure Flow.next) _ _ _;erw[aW (assignInOrder_cons (wpAny_bindName (xl I3 hN hj (.inl hy) jN (λs2 I4=>?_) (.inr hy))))];erw[assignInOrder_cons (wpAny_bindName (xl I4 hN hi (.inl hx) rv (λs3 I5=>assignInOrder_nil (cI ?_)) (.inr hx)))];rw[List.set_comm _ _ (dy hij)]at I5;erw[_,H1,I5,q1]
inductive afc(f:Int->Int->Int)(x:V)(y:V)(H:Hp)(Q:VK):Prop |mk (i:_)(j:_)(h0:x= .int i)(h1:y= .int j)(h2:Q (.int (f i j)) H)
def ipI(f:Int->Int->Int):Xo:=λx y H Q=>afc f x y H Q
theorem a6t:PIp X .Add (ipI λi j=>i+j):=by intro ay s O H x y v u Q I r1 r2 h;let(i,j,e1,e2,q):=h;subst e1;subst e2;let(t,rfl):=r1;let(t',rfl):=r2;erw[iadd_int #[.int _,H,I.tok _,#[_,Z],q]]
def Ol(c:TT)(tb:TS):TS:=λD O H=>∃W:Nat->St->Hp->Prop,(∃m,W m O H)/\∀m O H,W m O H->c O H λb H1=>if b=true then∃N:St->Hp->Prop,(∀σ' H',N σ' H'->∃m',m'<m/\W m' σ' H')/\tb {D with nx:=N,ct:=N,bk:=D.nx} O H1 else D.nx O H1
theorem oK(hp:PassesOwn (model X.prog X.w) X.A X.env X.xe)(hc:PT X c tc)(hb:iU X body tb):PS X (.While c body [] pos) (Ol tc tb):=by intro ay s O H D I h;let(W,(m0,w0),turn):=h;erw[wpAny_While (codeAny_whileLoop (λn s'=>∃σ' H',Inv X ay σ' H' s'/\W n σ' H') ?_ m0 #[O,H,I,w0])];rintro n s1 ⟨σ1,H1,I1,w1⟩;erw[zh hp (bw (hc ay s1 σ1 H1 _ I1 (turn n σ1 H1 w1)) λb s2 #[H2,I2,q2]=>?_)];cases b with
 |true=>let(N,hN,q2):=q2;rw[bE rfl];erw[zh hp (bw (hb ay s2 σ1 H2 _ I2 q2) λf s3 q3=>?_)];cases f with |next=>let(σ3,H3,I3,n3):=q3;let(m',hm,w3):=hN σ3 H3 n3;erw[m',hm,σ3,H3,I3,w3] |cont=>let(σ3,H3,I3,n3):=q3;let(m',hm,w3):=hN σ3 H3 n3;erw[m',hm,σ3,H3,I3,w3] |brk=>erw[q3] |ret v=>erw[q3]
 |false=>rw[bI iV];erw[Bz #[σ1,H2,I2,q2]]
end
structure It where
 go:Nat->Hp->Prop
 kJ:Nat->Hp->V->Hp->Prop
 stop:Nat->Hp->Prop
def mK(X:Cx)(ay:List (Addr×Obj))(H:Hp)(b:Addr):Prop:=H b=none/\b≠X.env.locals/\b∉X.fs/\(b∈X.ex\/X.s₀.heap.objs.size<=b)/\(∀x c,X.env.cells.lookup x=some c->c≠b)/\∀p∈X.pn++ay,p.1≠b
theorem Inv.qV{X:Cx}{ay:List (Addr×Obj)}{O:St}{H H':Hp}{s:ae}{b:Addr}(I:Inv X ay O H s)(hb:s.heap.objs.size<=b)(hn:H' b=none):mK X ay H' b:=by
 erw[hn,Fx (gP I.lt hb),I.T5 hb,.inr (iK I.sz hb),λx c e z=>?_,λp hp z=>?_]
 ·let(v,q):=I.cell x c e
  erw[absurd (gP q.lt (by rw[z];erw[hb])) (si _)]
 ·erw[absurd (gP (cY (I.pin p hp).1) (by rw[z];erw[hb])) (si _)]
structure Turn(P:ah)(w:World)(K:aa)(tg:Expr)(J:It)(fp:List Addr)(it:Addr)(tn:Nat->Heap->Prop):Prop where
 mem:it∈fp
 obj:∀i h,tn i h->∀b∈fp,∃o,h.get? b=some o/\∀v,o.data≠ .cell v
 keep:∀i h h',tn i h->(∀b∈fp,∀o,h.get? b=some o->h'.get? b=some o)->tn i h'
 item:∀(X:Cx),X.prog=P->X.w=w->X.K=K->X.calm=true->∀(i:Nat)(ay:List (Addr×Obj))(s:ae)(O:St)(H:Hp)(E:Value->ae->Prop),Inv X ay O H s->(∀b∈fp,mK X ay H b)->tn i s.heap->J.go i H->wpAny (model P w) X.A (pyNext (.ref it)) (λr s1=>∃u,r=some u/\wpAny (model P w) X.A (letOwnedTupleGo tg (.ref it) u) (λ_ s2=>∃x H',Inv X ay O H' s2/\RelV x u/\J.kJ i H x H'/\tn (i+1) s2.heap/\∀b∈fp,H' b=none) E s1) E s
 done:∀(X:Cx),X.prog=P->X.w=w->X.K=K->X.calm=true->∀(i:Nat)(ay:List (Addr×Obj))(s:ae)(O:St)(H:Hp)(E:Value->ae->Prop),Inv X ay O H s->(∀b∈fp,mK X ay H b)->tn i s.heap->J.stop i H->wpAny (model P w) X.A (pyNext (.ref it)) (λr s1=>r=none/\Inv X ay O H s1) E s
 self:∀(A:aj)(i:Nat)(s:ae)(Q:Value->ae->Prop)(E:Value->ae->Prop),tn i s.heap->Q (.ref it) s->wpAny (model P w) A (pyIter (.ref it)) Q E s
abbrev TI:=St->Hp->(It->Hp->Prop)->Prop
def Fg(X:Cx)(ay:List (Addr×Obj))(O:St)(tg:Expr)(R:It->Hp->Prop)(DI:Value)(s2:ae):Prop:=∃(it:Addr)(fp:List Addr)(tn:Nat->Heap->Prop)(J:It)(H':Hp),DI= .ref it/\Inv X ay O H' s2/\Turn X.prog X.w X.K tg J fp it tn/\tn 0 s2.heap/\(∀b∈fp,mK X ay H' b)/\R J H'
def PI(X:Cx)(tg iter:Expr)(wi:TI):Prop:=∀(ay:List (Addr×Obj))(s:ae)(O:St)(H:Hp)(R:It->Hp->Prop),Inv X ay O H s->wi O H R->wpAny (model X.prog X.w) X.A (eval iter X.env) (λv s1=>wpAny (model X.prog X.w) X.A (pyIter v) (Fg X ay O tg R) X.xe s1) X.xe s
theorem yD{M:Model}{A:aj}{E:Value->ae->Prop}{s:ae}{tg:Expr}{it:Addr}{u:Value}{o:Obj}{n:String}{vs:Array Value}{Q:Unit->ae->Prop}(ho:s.heap.get? it=some o)(hc:o.cls= .type n)(hd:o.data= .fields vs) (hn:["enumerate","zip","dict_itemiterator","dict_reverseitemiterator","odict_iterator","itertools.zip_longest","itertools.pairwise"].contains n=false)(hQ:Q () s):wpAny M A (letOwnedTupleGo tg (.ref it) u) Q E s:=by unfold letOwnedTupleGo;cases tg<;>first |erw[cI hQ] |(cases u<;>first
        |erw[cI hQ]
        | (erw[aW (wpAny_load ho ?_)]
           rw[hc,hd];show wpAny M A (if(["enumerate","zip","dict_itemiterator","dict_reverseitemiterator","odict_iterator","itertools.zip_longest","itertools.pairwise"].contains n&&vs[0]? ==some (rawInt _))=true then _ else _) Q E s;rw[bI (by intro h;rw[hn,lV]at h;cases h)];erw[cI hQ]))
def uA(K:aa)(a:Addr):It:=#[λi H=>∃xs x,aK K H a xs/\xs[i]? =some x,λi H x H'=>H'=H/\∀xs,aK K H a xs->xs[i]? =some x,λi H=>∃xs,aK K H a xs/\xs.length<=i]
def uz(K:aa)(a:Addr):It:=#[λi H=>∃xs x,aV K H a xs/\xs[i]? =some x,λi H x H'=>H'=H/\∀xs,aV K H a xs->xs[i]? =some x,λi H=>∃xs,aV K H a xs/\xs.length<=i]
def pJ(lo:Int)(n:Nat):It:=#[λi _=>i<n,λi H x H'=>H'=H/\x= .int (lo+i),λi _=>n<=i]
theorem YU{P:ah}{w:World}{K:aa}{tg:Expr}(a it:Addr):Turn P w K tg (uA K a) [it] it (λi h=>h.IsListIter it a i) where
 mem:=by simp
 obj:=λi h st b hb=>by
  have e:b=it:=by simpa using hb
  subst e;let(o,e,c,d):=st;erw[o,e,λv z=>by rw[d]at z;cases z]
 keep:=λi h h' st k=>st.at λo e=>k it (by simp) o e
 item:=by intro X hP hw hK hc i ay s O H E I hf st hg;subst hP hw hK;let(xs,x,hq,hx):=hg;let(its,rv,p,hz):=I.list hq;let(u,hu,ru):=rv.get hx;let(f0,f1,f2,f3,f4,f5):=hf it (by simp);erw[wpAny_pyNext_list_item st p.isList (x:=u) (by simpa using hu) λh' iB sb=>?_];have I1:Inv X ay O H {s with heap:=h'}:=I.turned (t':=s.toks) (λb o hb e=>(sb.2 b hb).trans e) f0 f1 f3 f4 f5;let(o,e,c,d):=id iB;erw[u,Z,yD (s:={s with heap:=h'}) e c d aD #[x,H,I1,ru,#[Z,λys hy=>by rw[I.U6 hy hq];erw[hx]],iB,λb hb=>(hf b hb).1]]
 done:=by intro X hP hw hK hc i ay s O H E I hf st hg;subst hP hw hK;let(xs,hq,hx):=hg;let(its,rv,p,hz):=I.list hq;let(f0,f1,f2,f3,f4,f5):=hf it (by simp);have hl:=rv.length;erw[wpAny_pyNext_list_end (I.ok.hd hc) st p.isList (by simp;lia) λh' eb=>#[Z,I.turned (t':=s.toks) (λb o hb e=>eb b o hb e) f0 f1 f3 f4 f5]]
 self:=λ_ _ _ _ _ st h=>wpAny_pyIter_listiter st h
theorem YQ{P:ah}{w:World}{K:aa}{tg:Expr}(a it:Addr):Turn P w K tg (uz K a) [it] it (λi h=>h.IsTupleIter it a i) where
 mem:=by simp
 obj:=λi h st b hb=>by
  have e:b=it:=by simpa using hb
  subst e;let(o,e,c,d):=st;erw[o,e,λv z=>by rw[d]at z;cases z]
 keep:=λi h h' st k=>st.at λo e=>k it (by simp) o e
 item:=by intro X hP hw hK hc i ay s O H E I hf st hg;subst hP hw hK;let(xs,x,hq,hx):=hg;let(its,rv,p,hz):=I.tuple hq;let(u,hu,ru):=rv.get hx;let(f0,f1,f2,f3,f4,f5):=hf it (by simp);erw[wpAny_pyNext_tuple_item st (show s.heap.IsTuple a its.toArray from p) (x:=u) (by simpa using hu) λh' iB sb=>?_];have I1:Inv X ay O H {s with heap:=h'}:=I.turned (t':=s.toks) (λb o hb e=>(sb.2 b hb).trans e) f0 f1 f3 f4 f5;let(o,e,c,d):=id iB;erw[u,Z,yD (s:={s with heap:=h'}) e c d aD #[x,H,I1,ru,#[Z,λys hy=>by rw[I.Og hy hq];erw[hx]],iB,λb hb=>(hf b hb).1]]
 done:=by intro X hP hw hK hc i ay s O H E I hf st hg;subst hP hw hK;let(xs,hq,hx):=hg;let(its,rv,p,hz):=I.tuple hq;let(f0,f1,f2,f3,f4,f5):=hf it (by simp);have hl:=rv.length;erw[wpAny_pyNext_tuple_end (I.ok.hd hc) st (show s.heap.IsTuple a its.toArray from p) (by simp;lia) λh' eb=>#[Z,I.turned (t':=s.toks) (λb o hb e=>eb b o hb e) f0 f1 f3 f4 f5]]
 self:=λ_ _ _ _ _ st h=>wpAny_pyIter_tupleiter st h
theorem YT{P:ah}{w:World}{K:aa}{tg:Expr}(it:Addr)(lo:Int)(n:Nat):Turn P w K tg (pJ lo n) [it] it (λi h=>IsRangeIter h it (lo+(i:Nat)*1) ((n:Int)-(i:Nat)) 1) where
 mem:=by simp
 obj:=λi h st b hb=>by
  have e:b=it:=by simpa using hb
  subst e;erw[_,st,λv z=>by have z':Data.fields _=Data.cell v:=z;cases z']
 keep:=λi h h' st k=>k it (by simp) _ st
 item:=by intro X hP hw hK hc i ay s O H E I hf st hg;subst hP hw hK;let(f0,f1,f2,f3,f4,f5):=hf it (by simp);have W:=Walks.range (prog:=X.prog) (w:=X.w) (I.ok.hd hc) it lo 1 n;erw[W.item i s _ _ hg st λv h' tk hv iB kk=>?_];let(t,rfl):=hv;have I1:Inv X ay O H {s with heap:=h',toks:=tk}:=I.turned (λb o hb e=>kk b o (by simpa using hb) e) f0 f1 f3 f4 f5;erw[_,Z,yD (s:={s with heap:=h',toks:=tk}) (n:="range_iterator") iB rfl rfl aD #[.int (lo+i),H,I1,#[t,?_],#[Z,Z],iB,λb hb=>(hf b hb).1]];rw[Int.mul_one]
 done:=by intro X hP hw hK hc i ay s O H E I hf st hg;subst hP hw hK;let(f0,f1,f2,f3,f4,f5):=hf it (by simp);erw[XM (I.ok.hd hc) st (by have:n<=i:=hg;lia) λh' eb=>#[Z,I.turned (t':=s.toks) (λb o hb e=>eb b o hb e) f0 f1 f3 f4 f5]]
 self:=λ_ _ _ _ _ st h=>Nh st h
section
variable {X:Cx} {tg:Expr}
inductive afk(K:aa)(R:It->Hp->Prop)(x:V)(H1:Hp):Prop |mk (a:_)(h0:x= .ref a)(h1:(∃xs,aK K H1 a xs))(h2:R (uA K a) H1)
def UB(K:aa)(tl:TE):TI:=λO H R=>tl O H λx H1=>afk K R x H1
inductive afe(K:aa)(R:It->Hp->Prop)(x:V)(H1:Hp):Prop |mk (a:_)(h0:x= .ref a)(h1:(∃xs,aV K H1 a xs))(h2:R (uz K a) H1)
def UA(K:aa)(tl:TE):TI:=λO H R=>tl O H λx H1=>afe K R x H1
theorem a2j(hl:PE X l tl):PI X tg l (UB X.K tl):=by
 intro ay s O H R I h;erw[bw (hl ay s O H _ I h) λv s1 #[x,H1,I1,r1,q1]=>?_];let(a,e,(xs,hq),q):=q1;subst e;cases r1;let(its,rv,p,hz):=I1.list hq;erw[Fj p.isList ?_];erw[s1.heap.objs.size,[s1.heap.objs.size],_,_,H1,Z,I1.kept (t':=s1.toks) λb o e=>cW _ e,YU a _,#[_,fO _ Z,Z,Z],λb hb=>?_,q];have e:b=s1.heap.objs.size:=by simpa using hb
 subst e;erw[I1.qV (ck _) (I1.bB.fresh (ck _))]
theorem a2f(hl:PE X l tl):PI X tg l (UA X.K tl):=by
 intro ay s O H R I h;erw[bw (hl ay s O H _ I h) λv s1 #[x,H1,I1,r1,q1]=>?_];let(a,e,(xs,hq),q):=q1;subst e;cases r1;let(its,rv,p,hz):=I1.tuple hq;erw[wpAny_pyIter_tuple (show s1.heap.IsTuple a its.toArray from p) ?_];erw[s1.heap.objs.size,[s1.heap.objs.size],_,_,H1,Z,I1.kept (t':=s1.toks) λb o e=>cW _ e,YQ a _,#[_,fO _ Z,Z,Z],λb hb=>?_,q];have e:b=s1.heap.objs.size:=by simpa using hb
 subst e;erw[I1.qV (ck _) (I1.bB.fresh (ck _))]
theorem S0{ay:List (Addr×Obj)}{O:St}{H:Hp}{s:ae}{R:It->Hp->Prop}{E:Value->ae->Prop}{lo hi:Int}{t u v:Tok}{tk:Nat}(I:Inv X ay O H s)(h1:-(2^62)<=lo)(h2:lo<2^62)(h3:-(2^62)<=hi)(h4:hi<2^62) (q:R (pJ lo (hi-lo).toNat) H):wpAny (model X.prog X.w) X.A (pyIter (.ref s.heap.objs.size)) (Fg X ay O tg R) E {s with heap:=s.heap.push {cls:=.type "range",data:=.fields (List.toArray [.int lo t,.int hi u,.int 1 v])},toks:=tk}:=by
 erw[wpAny_pyIter_range (IsRange.new ..) (small_one h1 h2 h3 h4) ?_];have I1:Inv X ay O H {s with heap:=s.heap.push {cls:=.type "range",data:=.fields (List.toArray [.int lo t,.int hi u,.int 1 v])},toks:=tk}:=I.kept λb o e=>cW _ e;erw[(s.heap.push {cls:=.type "range",data:=.fields (List.toArray [.int lo t,.int hi u,.int 1 v])}).objs.size,[(s.heap.push {cls:=.type "range",data:=.fields (List.toArray [.int lo t,.int hi u,.int 1 v])}).objs.size],_,_,H,Z,I1.kept (t':=tk) λb o e=>cW _ e,YT _ lo (hi-lo).toNat,?_,λb hb=>?_,q]
 ·have e1:lo+((0:Nat):Int)*1=lo:=by simp
  have e2:(((hi-lo).toNat:Nat):Int)-((0:Nat):Int)=Builtin.Range.rangeSize lo hi 1:=by rw[rangeSize_one];split<;>lia
  show IsRangeIter _ _ (lo+((0:Nat):Int)*1) ((((hi-lo).toNat:Nat):Int)-((0:Nat):Int)) 1;rw[e1,e2];erw[fO _ rfl]
 ·have e:b=(s.heap.push {cls:=.type "range",data:=.fields (List.toArray [.int lo t,.int hi u,.int 1 v])}).objs.size:=by simpa using hb
  subst e;erw[I1.qV (ck _) (I1.bB.fresh (ck _))]
inductive afi(R:It->Hp->Prop)(vs:List V)(H1:Hp):Prop |mk (j:Int)(h0:vs=[.int j])(h1:-(2^62)<=j)(h2:j<2^62)(h3:R (pJ 0 j.toNat) H1)
def a6J(ta:TA):TI:=λO H R=>ta O H λvs H1=>afi R vs H1
inductive afh(R:It->Hp->Prop)(vs:List V)(H1:Hp):Prop |mk (i:Int)(j:Int)(h0:vs=[.int i,.int j])(h1:(-(2^62)<=i/\i<2^62/\-(2^62)<=j/\j<2^62))(h2:R (pJ i (j-i).toNat) H1)
def a6I(ta:TA):TI:=λO H R=>ta O H λvs H1=>afh R vs H1
theorem xN(hg:Gl X "range")(hm:X.mg "range"=none)(ha:PA X [a] ta)(hs:autoParam (starEach [a] X.env=[(false,eval a X.env)]) r8_._auto_1):PI X tg (.Call (.Name "range" p) [a] [] pos) (a6J ta):=by intro ay s O H R I h;erw[Call_ (qF I hg hm boot_range (zl (bw (ha pos ay s O H _ I h) λus s1 #[vs,H1,I1,r1,q1]=>?_) hs Z))];let(j,e,q1,q2,q):=q1;subst e;cases r1 with |cons r rr=>cases rr;let(t,rfl):=r;erw[call_range_1 (S0 I1 aw aw q1 q2 (by simpa using q))]
theorem Se(hg:Gl X "range")(hm:X.mg "range"=none)(ha:PA X [a,b] ta)(hs:autoParam (starEach [a,b] X.env=[(false,eval a X.env),(false,eval b X.env)]) r8_._auto_1)(jU:autoParam (starEach [b] X.env=[(false,eval b X.env)]) r8_._auto_1): PI X tg (.Call (.Name "range" p) [a,b] [] pos) (a6I ta):=by intro ay s O H R I h;erw[Call_ (qF I hg hm boot_range (zl (bw (ha pos ay s O H _ I h) λus s1 #[vs,H1,I1,r1,q1]=>?_) (by rw[hs,jU]) (by rw[jU];rfl)))];let(i,j,e,(q1,q2,q3,q4),q):=q1;subst e;cases r1 with |cons r rr=>cases rr with |cons r' rr=>cases rr;let(t,rfl):=r;let(t',rfl):=r';erw[call_range_2 (S0 I1 q1 q2 q3 q4 q)]
def Zv(wi:TI)(g:TG)(tb:TS):TS:=λD O H=>wi O H λJ H1=>∃W:Nat->Nat->St->Hp->Prop,(∃m,W 0 m O H1)/\∀i m O H,W i m O H->(J.stop i H/\D.nx O H)\/(J.go i H/\∃N:St->Hp->Prop,(∀σ' H',N σ' H'->∃m',m'<m/\W (i+1) m' σ' H')/\∀x H',J.kJ i H x H'->g x O H' λσ2 H2=>tb {D with nx:=N,ct:=N,bk:=D.nx} σ2 H2)
def xM(fp:List Addr)(h:Heap):List (Addr×Obj):=fp.filterMap λb=>(h.get? b).map λo=>(b,o)
theorem yd(hb:b∈fp)(e:h.get? b=some o):(b,o)∈xM fp h:=pQ.mpr #[b,hb,by rw[e];rfl]
theorem a4u(hp:p∈xM fp h):p.1∈fp/\h.get? p.1=some p.2:=by let(b,hb,e):=pQ.mp hp;cases q:h.get? b with |none=>rw[q]at e;cases e |some o=>rw[q]at e;have e':(b,o)=p:=fe e;subst e';erw[hb,q]
theorem Inv.pinned{ay:List (Addr×Obj)}{O:St}{H:Hp}{s:ae}{fp:List Addr}(I:Inv X ay O H s)(hf:∀b∈fp,mK X ay H b)(ho:∀b∈fp,∃o,s.heap.get? b=some o/\∀v,o.data≠ .cell v):Inv X (ay++xM fp s.heap) O H s:=I.Sd λp hp=>(wW.mp hp).elim (λz=>I.pin p (mL _ z)) λz=>by let(hb,e):=a4u z;let(f0,f1,f2,_):=hf p.1 hb;let(o,e',d):=ho p.1 hb;rw[e]at e';cases e';erw[e,f0,f1,f2,d]
theorem Inv.zu{ay pl:List (Addr×Obj)}{O:St}{H:Hp}{s:ae}(I:Inv X (ay++pl) O H s):Inv X ay O H s:=I.Sd λp hp=>I.pin p (mL _ (Y5 _ hp))
theorem m9(hp:PassesOwn (model X.prog X.w) X.A X.env X.xe)(hc:X.calm=true)(hi:PI X tg iter wi)(hg:PG X tg g)(hb:iU X body tb) (hs:autoParam (∀x,foldedSetIterable iter X.env x=pure x) d8_._auto_1):PS X (.For tg iter body [] pos) (Zv wi g tb):=by
 intro ay s O H D I h;erw[wpAny_For (bw (hi ay s O H _ I h) λv s1 h1=>bw h1 λDI s2 h2=>?_) hs];let(it,fp,tn,J,H2,e,I2,T,uQ,f2,W,(m0,w0),turn):=h2;subst e;have nH:∀{H':Hp},(∀b∈fp,H' b=none)->∀b∈fp,mK X ay H' b:=λhn b hb=>#[hn b hb,(f2 b hb).2];erw[codeAny_forLoop_any (λn s'=>∃i σ' H',Inv X ay σ' H' s'/\tn i s'.heap/\(∀b∈fp,H' b=none)/\W i n σ' H') ?_ m0 #[0,O,H2,I2,uQ,λb hb=>(f2 b hb).1,w0]];rintro n s3 ⟨i,σ3,H3,I3,OI,Vw,w3⟩;rcases turn i n σ3 H3 w3 with⟨stop,qn⟩|⟨go,N,hN,step⟩
 ·erw[zh hp (bw (T.done X Z Z Z hc i ay s3 σ3 H3 X.xe I3 (nH Vw) OI stop) λr s4 #[hr,I4]=>?_)]
  subst hr;erw[Bz #[σ3,H3,I4,qn]]
 ·erw[zh hp (bw (T.item X Z Z Z hc i ay s3 σ3 H3 X.xe I3 (nH Vw) OI go) λr s4 #[u,hr,h4]=>?_)]
  subst hr;erw[zh hp (bw h4 λ_ s5 #[x,H5,I5,r5,y5,qj,wj]=>?_)];have I5':=I5.pinned (nH wj) (T.obj _ _ qj);erw[zh hp (bw (hg _ s5 σ3 H5 x u _ I5' r5 (step x H5 y5)) λ_ s6 #[σ6,H6,I6,q6]=>?_)];erw[zh hp (bw (hb _ s6 σ6 H6 _ I6 q6) λf s7 q7=>?_)];have again:∀{σ7:St}{H7:Hp},Inv X (ay++xM fp s5.heap) σ7 H7 s7->N σ7 H7->∃m,m<n/\∃i σ' H',Inv X ay σ' H' s7/\tn i s7.heap/\(∀b∈fp,H' b=none)/\W i m σ' H':=λ{σ7 H7} I7 n7=>by let(m',hm,w7):=hN σ7 H7 n7;erw[m',hm,i+1,σ7,H7,I7.zu,T.keep _ _ _ qj λb hb o e=>(I7.pin (b,o) (mL _ (mL _ (yd hb e)))).1,λb hb=>?_,w7];let(o,e,d):=T.obj _ _ qj b hb;exact(I7.pin (b,o) (mL _ (mL _ (yd hb e)))).2.1
  cases f with |next=>let(σ7,H7,I7,n7):=q7;erw[again I7 n7] |cont=>let(σ7,H7,I7,n7):=q7;erw[again I7 n7] |brk=>let(σ7,H7,I7,q7):=q7;erw[σ7,H7,I7.zu,q7] |ret v=>let(x7,σ7,H7,I7,r7,q7):=q7;erw[x7,σ7,H7,I7.zu,r7,q7]
end
theorem M0{K:aa}{a:Addr}{xs:List V}{g:TG}{tb:TS}{D:Ends}{O:St}{H:Hp}(Pv:Nat->St->Hp->Prop)(h0:Pv 0 O H)(hl:∀i O H,i<=xs.length->Pv i O H->aK K H a xs) (hs:∀i x O H,xs[i]? =some x->Pv i O H->g x O H λσ2 H2=>tb {D with nx:=Pv (i+1),ct:=Pv (i+1),bk:=D.nx} σ2 H2)(hd:∀O H,Pv xs.length O H->D.nx O H): ∃W:Nat->Nat->St->Hp->Prop,(∃m,W 0 m O H)/\∀i m O H,W i m O H->((uA K a).stop i H/\D.nx O H)\/((uA K a).go i H/\∃N:St->Hp->Prop,(∀σ' H',N σ' H'->∃m',m'<m/\W (i+1) m' σ' H')/\∀x H',(uA K a).kJ i H x H'->g x O H' λσ2 H2=>tb {D with nx:=N,ct:=N,bk:=D.nx} σ2 H2):=by
 erw[λi m O H=>m=xs.length-i/\i<=xs.length/\Pv i O H,#[xs.length,by simp,gK _,h0],?_];rintro i m O H ⟨rfl,hi,p⟩;have q:=hl i O H hi p;by_cases cK:i<xs.length
 ·erw[.inr #[#[xs,xs[i],q,by simp[cK]],Pv (i+1),λσ' H' p'=>#[xs.length-(i+1),aw,Z,cK,p'],λx H' y=>?_]]
  let(e,y):=y;subst e;erw[hs i x O _ (y xs q) p]
 ·have e:i=xs.length:=by lia
  subst e;erw[.inl #[#[xs,q,ck _],hd O H p]]
theorem a9y{K:aa}{a:Addr}{xs:List V}{g:TG}{tb:TS}{D:Ends}{O:St}{H:Hp}(Pv:Nat->St->Hp->Prop)(h0:Pv 0 O H)(hl:∀i O H,i<=xs.length->Pv i O H->aV K H a xs) (hs:∀i x O H,xs[i]? =some x->Pv i O H->g x O H λσ2 H2=>tb {D with nx:=Pv (i+1),ct:=Pv (i+1),bk:=D.nx} σ2 H2)(hd:∀O H,Pv xs.length O H->D.nx O H): ∃W:Nat->Nat->St->Hp->Prop,(∃m,W 0 m O H)/\∀i m O H,W i m O H->((uz K a).stop i H/\D.nx O H)\/((uz K a).go i H/\∃N:St->Hp->Prop,(∀σ' H',N σ' H'->∃m',m'<m/\W (i+1) m' σ' H')/\∀x H',(uz K a).kJ i H x H'->g x O H' λσ2 H2=>tb {D with nx:=N,ct:=N,bk:=D.nx} σ2 H2):=by
 erw[λi m O H=>m=xs.length-i/\i<=xs.length/\Pv i O H,#[xs.length,by simp,gK _,h0],?_];rintro i m O H ⟨rfl,hi,p⟩;have q:=hl i O H hi p;by_cases cK:i<xs.length
 ·erw[.inr #[#[xs,xs[i],q,by simp[cK]],Pv (i+1),λσ' H' p'=>#[xs.length-(i+1),fH,Z,cK,p'],λx H' y=>?_]]
  let(e,y):=y;subst e;erw[hs i x O _ (y xs q) p]
 ·have e:i=xs.length:=by omega
  subst e;erw[.inl #[#[xs,q,ck _],hd O H p]]
theorem AS{lo:Int}{n:Nat}{g:TG}{tb:TS}{D:Ends}{O:St}{H:Hp}(Pv:Nat->St->Hp->Prop)(h0:Pv 0 O H) (hs:∀i O H,i<n->Pv i O H->g (.int (lo+i)) O H λσ2 H2=>tb {D with nx:=Pv (i+1),ct:=Pv (i+1),bk:=D.nx} σ2 H2)(hd:∀O H,Pv n O H->D.nx O H): ∃W:Nat->Nat->St->Hp->Prop,(∃m,W 0 m O H)/\∀i m O H,W i m O H->((pJ lo n).stop i H/\D.nx O H)\/((pJ lo n).go i H/\∃N:St->Hp->Prop,(∀σ' H',N σ' H'->∃m',m'<m/\W (i+1) m' σ' H')/\∀x H',(pJ lo n).kJ i H x H'->g x O H' λσ2 H2=>tb {D with nx:=N,ct:=N,bk:=D.nx} σ2 H2):=by
 erw[λi m O H=>m=n-i/\i<=n/\Pv i O H,#[n,by simp,gK _,h0],?_];rintro i m O H ⟨rfl,hi,p⟩;by_cases cK:i<n
 ·erw[.inr #[cK,Pv (i+1),λσ' H' p'=>#[n-(i+1),aw,Z,cK,p'],λx H' y=>?_]]
  let(e,y):=y;subst e y;erw[hs i O _ cK p]
 ·have e:i=n:=by lia
  subst e;erw[.inl #[ck _,hd O H p]]
theorem om{D:Ends}(Pv:St->Hp->Prop)(μ:St->Hp->Nat)(h0:Pv O H) (hs:∀O H,Pv O H->c O H λb H1=>if b=true then tb {D with nx:=λσ' H'=>Pv σ' H'/\μ σ' H'<μ O H,ct:=λσ' H'=>Pv σ' H'/\μ σ' H'<μ O H,bk:=D.nx} O H1 else D.nx O H1) (mono:∀O H Q Q',(∀b H1,Q b H1->Q' b H1)->c O H Q->c O H Q'):Ol c tb D O H:=by erw[λm O H=>m=μ O H/\Pv O H,#[_,Z,h0],?_];rintro m O H ⟨rfl,p⟩;erw[mono O H _ _ (λb H1 q=>?_) (hs O H p)];cases b with |true=>erw[_,λσ' H' #[p',l]=>#[_,l,Z,p'],q] |false=>erw[q]
abbrev R2:=V->V->Hp->VK->Prop
def dU(X:Cx)(f:Value->Value->Sem Value)(r:R2):Prop:=∀(ay:List (Addr×Obj))(s:ae)(O:St)(H:Hp)(x y:V)(v u:Value)(Q:VK),Inv X ay O H s->RelV x v->RelV y u->r x y H Q->wpAny (model X.prog X.w) X.A (f v u) (EP X ay O Q) X.xe s
def N1(X:Cx)(f:Value->Sem Value)(r:V->Hp->VK->Prop):Prop:=∀(ay:List (Addr×Obj))(s:ae)(O:St)(H:Hp)(x:V)(v:Value)(Q:VK),Inv X ay O H s->RelV x v->r x H Q->wpAny (model X.prog X.w) X.A (f v) (EP X ay O Q) X.xe s
def gb(X:Cx)(f:Value)(r:List V->Hp->VK->Prop):Prop:=∀(ay:List (Addr×Obj))(s:ae)(O:St)(H:Hp)(xs:List V)(us:List Value)(Q:VK),Inv X ay O H s->Vals xs us->r xs H Q->wpAny (model X.prog X.w) X.A (call f us) (EP X ay O Q) X.xe s
def ada(X:Cx)(r:V->Hp->(Bool->Hp->Prop)->Prop):Prop:=∀(ay:List (Addr×Obj))(s:ae)(O:St)(H:Hp)(x:V)(v:Value)(Q:Bool->Hp->Prop),Inv X ay O H s->RelV x v->r x H Q->wpAny (model X.prog X.w) X.A (truthy v) (TP X ay O Q) X.xe s
def sJ(r:R2)(ta tb:TE):TE:=λO H Q=>ta O H λx H1=>tb O H1 λy H2=>r x y H2 Q
def C9(r:V->Hp->VK->Prop)(ta:TE):TE:=λO H Q=>ta O H λx H1=>r x H1 Q
inductive IrI(C:Int->Int->Prop)(g:Int->Int->V)(x:V)(y:V)(H:Hp)(Q:VK):Prop |mk (i:_)(j:_)(h0:x= .int i)(h1:y= .int j)(h2:C i j)(h3:Q (g i j) H)
def rI(C:Int->Int->Prop)(g:Int->Int->V):R2:=λx y H Q=>IrI C g x y H Q
inductive af4(g:Int->Int->V)(x:V)(y:V)(H:Hp)(Q:VK):Prop |mk (i:_)(j:_)(h0:x= .int i)(h1:y= .int j)(h2:Q (g i j) H)
def lJ(g:Int->Int->V):R2:=λx y H Q=>af4 g x y H Q
inductive IrU(g:Int->V)(x:V)(H:Hp)(Q:VK):Prop |mk (i:_)(h0:x= .int i)(h1:Q (g i) H)
def rU(g:Int->V):V->Hp->VK->Prop:=λx H Q=>IrU g x H Q
section
variable {X:Cx}{a b c:Expr}{ta tb tc:TE}{pos:Pos}
theorem MR(ha:PE X a ta)(hb:PE X b tb){ay:List (Addr×Obj)}{s:ae}{O:St}{H:Hp}{R:V->V->Hp->Prop}(I:Inv X ay O H s) (h:ta O H λx H1=>tb O H1 λy H2=>R x y H2){Q:Value->ae->Prop}{f:Value->Value->Sem Value} (hf:∀v u s2 x y H2,Inv X ay O H2 s2->RelV x v->RelV y u->R x y H2->wpAny (model X.prog X.w) X.A (f v u) Q X.xe s2): wpAny (model X.prog X.w) X.A (eval a X.env) (λv s₁=>wpAny (model X.prog X.w) X.A (eval b X.env) (λu s₂=>wpAny (model X.prog X.w) X.A (f v u) Q X.xe s₂) X.xe s₁) X.xe s:=by erw[bw (ha ay s O H _ I h) λv s1 #[x,H1,I1,r1,q1]=>?_];erw[bw (hb ay s1 O H1 _ I1 q1) λu s2 #[y,H2,I2,r2,q2]=>?_];erw[hf v u s2 x y H2 I2 r1 r2 q2]
theorem aL(ho:dU X (binaryOp op) r)(ha:PE X a ta)(hb:PE X b tb):PE X (.BinOp a op b pos) (sJ r ta tb):=by intro ay s O H Q I h;erw[wpAny_BinOp (MR ha hb I h λv u s2 x y H2 I2 rx ry q=>ho ay s2 O H2 x y v u Q I2 rx ry q)]
theorem qw(ho:N1 X (unaryOp op) r)(ha:PE X a ta):PE X (.UnaryOp op a pos) (C9 r ta):=by intro ay s O H Q I h;erw[UnaryOp_ (bw (ha ay s O H _ I h) λv s1 #[x,H1,I1,r1,q1]=>ho ay s1 O H1 x v Q I1 r1 q1)]
theorem A3{f:Value->Value->Sem Value}{C:Int->Int->Prop}{g:Int->Int->Int} (rule:∀(i j:Int)(t u:Tok)(s:ae)(Q:Value->ae->Prop)(E:Value->ae->Prop),C i j->Q (.int (g i j) s.toks) {s with toks:=s.toks+1}->wpAny (model X.prog X.w) X.A (f (.int i t) (.int j u)) Q E s): dU X f (rI C λi j=>.int (g i j)):=by intro ay s O H x y v u Q I rx ry h;let(i,j,rfl,rfl,hc,q):=h;let(t,rfl):=rx;let(t',rfl):=ry;erw[rule i j t t' s _ _ hc #[.int (g i j),H,I.tok _,#[_,Z],q]]
theorem SJ{f:Value->Value->Sem Value}{g:Int->Int->Int} (rule:∀(i j:Int)(t u:Tok)(s:ae)(Q:Value->ae->Prop)(E:Value->ae->Prop),Q (.int (g i j) s.toks) {s with toks:=s.toks+1}->wpAny (model X.prog X.w) X.A (f (.int i t) (.int j u)) Q E s): dU X f (lJ λi j=>.int (g i j)):=by intro ay s O H x y v u Q I rx ry h;let(i,j,rfl,rfl,q):=h;let(t,rfl):=rx;let(t',rfl):=ry;erw[rule i j t t' s _ _ #[.int (g i j),H,I.tok _,#[_,Z],q]]
theorem xS{f:Value->Value->Sem Value}{g:Int->Int->Bool} (rule:∀(i j:Int)(t u:Tok)(s:ae)(Q:Value->ae->Prop)(E:Value->ae->Prop),Q (.bool (g i j)) s->wpAny (model X.prog X.w) X.A (f (.int i t) (.int j u)) Q E s): dU X f (lJ λi j=>.bl (g i j)):=by intro ay s O H x y v u Q I rx ry h;let(i,j,rfl,rfl,q):=h;let(t,rfl):=rx;let(t',rfl):=ry;erw[rule i j t t' s _ _ #[.bl (g i j),H,I,Z,q]]
def Ng(i j:Int):Prop:=0<=j/\j<=1000000/\i.natAbs<2^64
theorem cZ:dU X (binaryOp .Add) (lJ λi j=>.int (i+j)):=SJ λ_ _ _ _ _ _ _ q=>add_int q
theorem gX:dU X (binaryOp .Sub) (lJ λi j=>.int (i-j)):=SJ λ_ _ _ _ _ _ _ q=>sub_int q
theorem nL:dU X (binaryOp .Mod) (rI (λ_ j=>0<j) λi j=>.int (i%j)):=A3 λi j _ _ _ _ _ hc q=>by have h1:(0:Int)<j:=hc;erw[mod_int' aw (by rw[Int.fmod_eq_emod_of_nonneg i aw];erw[q])]
theorem tD:dU X (binaryOp .Pow) (rI Ng λi j=>.int (i^j.toNat)):=A3 λ_ _ _ _ _ _ _ hc q=>pow_int_small hc.1 hc.2.1 hc.2.2 q
theorem YJ{f:Value->Sem Value}{g:Int->Int} (rule:∀(i:Int)(t:Tok)(s:ae)(Q:Value->ae->Prop)(E:Value->ae->Prop),Q (.int (g i) s.toks) {s with toks:=s.toks+1}->wpAny (model X.prog X.w) X.A (f (.int i t)) Q E s): N1 X f (rU λi=>.int (g i)):=by intro ay s O H x v Q I rx h;let(i,rfl,q):=h;let(t,rfl):=rx;erw[rule i t s _ _ #[.int (g i),H,I.tok _,#[_,Z],q]]
theorem pY:N1 X (unaryOp .USub) (rU λi=>.int (-i)):=YJ λ_ _ _ _ _ q=>neg_int q
theorem M6{ay:List (Addr×Obj)}{O:St}{H:Hp}{s:ae}{Q:VK}{k k':Bool}(I:Inv X ay O H s)(q:Q (.bl k) H)(e:k=k'):EP X ay O Q (.bool k') s:=by subst e;erw[.bl k,H,I,Z,q]
theorem ko:dU X (compareOp .Lt) (lJ λi j=>.bl (decide (i<j))):=xS λ_ _ _ _ _ _ _ q=>lt_int q
theorem xR:dU X (compareOp .LtE) (lJ λi j=>.bl (decide (i<=j))):=xS λ_ _ _ _ _ _ _ q=>le_int q
theorem tE:dU X (compareOp .Gt) (lJ λi j=>.bl (decide (j<i))):=xS λ_ _ _ _ _ _ _ q=>gt_int q
theorem D7:dU X (compareOp .GtE) (lJ λi j=>.bl (decide (j<=i))):=xS λ_ _ _ _ _ _ _ q=>ge_int q
theorem a2N:dU X (compareOp .In) (λx y H Q=>∃i j,x= .str i/\y= .str j/\Q (.bl (!(Builtin.Str.occurrences j i 0 j.length 1).isEmpty)) H):=by intro ay s O H x y v u Q I rx ry h;let(i,j,rfl,rfl,q):=h;let(t,rfl):=rx;let(t',rfl):=ry;erw[in_str (M6 I q Z)]
theorem JJ:dU X (compareOp .Is) (λx y H Q=>y= .bF/\Q (.bl (decide (x= .bF))) H):=by intro ay s O H x y v u Q I rx ry h;let(rfl,q):=h;cases ry;erw[is_none_gen (M6 I q ?_)];cases x<;>first |(cases rx;rfl) |(let(t,rfl):=rx;rfl)
theorem zZ:dU X (compareOp .IsNot) (λx y H Q=>y= .bF/\Q (.bl (!decide (x= .bF))) H):=by intro ay s O H x y v u Q I rx ry h;let(rfl,q):=h;cases ry;erw[isnot_none_gen (M6 I q ?_)];cases x<;>first |(cases rx;rfl) |(let(t,rfl):=rx;rfl)
theorem dU.or(h:dU X f r)(h':dU X f r'):dU X f (λx y H Q=>r x y H Q\/r' x y H Q):=by
 intro ay s O H x y v u Q I rx ry q;rcases q with q|q
 ·erw[h ay s O H x y v u Q I rx ry q]
 ·erw[h' ay s O H x y v u Q I rx ry q]
theorem bM(b:Expr){op:CmpOp}(h:autoParam (op≠ .In) q8_._auto_1)(h2:autoParam (op≠ .NotIn) q8_._auto_1):behindInMarks op b=false:=by
 have e1:(op==CmpOp.In)=false:=by cases op<;>first|rfl|erw[absurd rfl h]
 have e2:(op==CmpOp.NotIn)=false:=by cases op<;>first|rfl|erw[absurd rfl h2]
 cases b<;>simp[behindInMarks,e1,e2]
theorem fS(ho:dU X (compareOp op) r)(ha:PE X a ta)(hb:PE X b tb)(hm:behindInMarks op b=false):PE X (.Compare a [op] [b] pos) (sJ r ta tb):=by intro ay s O H Q I h;erw[wpAny_Compare1 (MR ha hb I h λv u s2 x y H2 I2 rx ry q=>ho ay s2 O H2 x y v u Q I2 rx ry q) hm]
inductive adq(Q:Bool->Hp->Prop)(x:V)(H':Hp):Prop |mk (k:_)(h0:x= .bl k)(h1:Q k H')
def Om(t:TE):TT:=λO H Q=>t O H λx H'=>adq Q x H'
theorem cy(ho:dU X (compareOp op) r)(ha:PE X a ta)(hb:PE X b tb)(hm:behindInMarks op b=false):PT X (.Compare a [op] [b] pos) (Om (sJ r ta tb)):=by intro ay s O H Q I h;erw[wpAny_isTrue_Compare1 (bw (ha ay s O H _ I h) λv s1 #[x,H1,I1,r1,q1]=>bw (hb ay s1 O H1 _ I1 q1) λu s2 #[y,H2,I2,r2,q2]=>bw (ho ay s2 O H2 x y v u _ I2 r1 r2 q2) λc s3 #[z,H3,I3,r3,k,e,q3]=>?_) hm];subst e;cases r3;erw[pO #[H3,I3,q3]]
inductive ady(r':R2)(tc:TE)(O:St)(Q:VK)(y:V)(z:V)(H3:Hp):Prop |mk (k:_)(h0:z= .bl k)(h1:(if k=true then tc O H3 λw' H4=>r' y w' H4 Q else Q (.bl false) H3))
def Oy(r r':R2)(ta tb tc:TE):TE:=λO H Q=>ta O H λx H1=>tb O H1 λy H2=>r x y H2 λz H3=>ady r' tc O Q y z H3
theorem Sn(ho:dU X (compareOp op) r)(nP:dU X (compareOp vh) r')(ha:PE X a ta)(hb:PE X b tb)(hc:PE X c tc) (hm:autoParam (lastMarks [op,vh] [b,c]=false) f8_._auto_1):PE X (.Compare a [op,vh] [b,c] pos) (Oy r r' ta tb tc):=by intro ay s O H Q I h;erw[Compare_chain (bw (ha ay s O H _ I h) λv s1 #[x,H1,I1,r1,q1]=>chain_link (bw (hb ay s1 O H1 _ I1 q1) λu s2 #[y,H2,I2,r2,q2]=>bw (ho ay s2 O H2 x y v u _ I2 r1 r2 q2) λd s3 #[z,H3,I3,r3,k,e,q3]=>?_)) hm];subst e;cases r3;erw[pO ?_];cases k with |false=>erw[ite_ff #[.bl false,H3,I3,Z,q3]] |true=>erw[ite_tt (chain_last (bw (hc ay s3 O H3 _ I3 q3) λw' s4 #[z',H4,I4,r4,q4]=>nP ay s4 O H4 y z' u w' Q I4 r2 r4 q4))]
theorem a21(ho:dU X (compareOp op) r)(nP:dU X (compareOp vh) r')(ha:PE X a ta)(hb:PE X b tb)(hc:PE X c tc) (hm:autoParam (lastMarks [op,vh] [b,c]=false) f8_._auto_1):PT X (.Compare a [op,vh] [b,c] pos) (Om (Oy r r' ta tb tc)):=by intro ay s O H Q I h;erw[isTrue_chain (bw (ha ay s O H _ I h) λv s1 #[x,H1,I1,r1,q1]=>test_link (bw (hb ay s1 O H1 _ I1 q1) λu s2 #[y,H2,I2,r2,q2]=>bw (ho ay s2 O H2 x y v u _ I2 r1 r2 q2) λd s3 #[z,H3,I3,r3,k,e,q3]=>?_)) hm];subst e;cases r3;erw[pO ?_];cases k with |false=>let(k',e',q'):=q3;cases e';erw[ite_ff #[H3,I3,q']] |true=>erw[ite_tt (test_last (bw (hc ay s3 O H3 _ I3 q3) λw' s4 #[z',H4,I4,r4,q4]=>bw (nP ay s4 O H4 y z' u w' _ I4 r2 r4 q4) λd' s5 #[z2,H5,I5,r5,k2,e2,q5]=>?_))];subst e2;cases r5;erw[pO #[H5,I5,q5]]
def N2(K:aa)(x:V)(H:Hp)(k:Bool):Prop:=match x with | .bF=>k=false | .bl b=>k=b | .int i=>k=(i !=0) | .str y=>y.length<=sizeLine/\k=((y.length:Int) !=0) | .yX y=>y.size<=sizeLine/\k=((y.size:Int) !=0) | .ref p=>(∃xs,aK K H p xs/\k= !xs.isEmpty)\/(∃xs,aV K H p xs/\k= !xs.isEmpty)\/∃aU,H p=some (.dK aU)/\k= !aU.isEmpty |_=>False
theorem a6s{aU:List (κ×V)}{vs:List (κ×Value)}(r:KV aU vs):(!vs.isEmpty)= !aU.isEmpty:=by cases r<;>rfl
theorem Us(r:Vals xs its):(!its.toArray.isEmpty)= !xs.isEmpty:=by cases r<;>simp
theorem vx:(sizeLine:Nat)<2^63:=by rw[sizeLine_eq];decide
theorem YX:ada X (λx H Q=>∃k,N2 X.K x H k/\Q k H):=by intro ay s O H x v Q I rx h;let(k,e,q):=h;have hl:=vx;have hs:sizeLine=16777216:=sizeLine_eq;cases x with |bF=>cases rx;have e':k=false:=e;subst e';erw[truthy_none #[H,I,q]] |bl b=>cases rx;have e':k=b:=e;subst e';erw[pO #[H,I,q]] |int i=>let(t,rfl):=rx;have e':k=(i !=0):=e;subst e';erw[PySem.P.truthy_int #[H,I,q]] |str y=>let(t,rfl):=rx;obtain⟨hy,e'⟩:y.length<=sizeLine/\k=((y.length:Int) !=0):=e;subst e';erw[PySem.P.truthy_str aw #[H,I.tok _,q]] |yX y=>let(t,rfl):=rx;obtain⟨hy,e'⟩:y.size<=sizeLine/\k=((y.size:Int) !=0):=e;subst e';erw[PySem.W.truthy_bytes aw #[H,I.tok _,q]] |ref p=>
 cases rx;have e':(∃xs,aK X.K H p xs/\k= !xs.isEmpty)\/(∃xs,aV X.K H p xs/\k= !xs.isEmpty)\/∃aU,H p=some (.dK aU)/\k= !aU.isEmpty:=e;rcases e' with⟨xs,hx,e'⟩|⟨xs,hx,e'⟩|⟨aU,hx,e'⟩
 ·subst e'
  let(its,r,pl,hz):=I.list hx;have hlen:=r.length;erw[wpAny_truthy_list pl.isList (by simp only[fC];lia) #[H,I.tok _,by rw[Us r];erw[q]]]
 ·subst e'
  let(its,r,pl,hz):=I.tuple hx;have hlen:=r.length;erw[truthy_tuple pl (by simp only[fC];lia) #[H,I.tok _,by rw[Us r];erw[q]]]
 ·subst e'
  obtain⟨hz,hS,vs,r,m⟩:aU.length<=sizeLine/\(p==sysModules)=false/\∃vs,KV aU vs/\s.heap.DictOf (ky X.prog X.w) p vs:=I.bB p _ hx;have hlen:aU.length=vs.length:=Paired.length r;erw[wpAny_truthy_dict hS m aw #[H,I.tok _,by rw[a6s r];erw[q]]] |_=>exact(show False from e).elim
theorem a1Z(ha:PE X a ta)(he:∀whole,isTrue a X.env whole=(do let v<-whole;standAt a.pos;holding [v] (truthy v))): PT X a (λO H Q=>ta O H λx H'=>∃k,N2 X.K x H' k/\Q k H'):=by intro ay s O H Q I h;erw[isTrue_plain (bw (ha ay s O H _ I h) λv s1 #[x,H1,I1,r1,q1]=>YX ay s1 O H1 x v Q I1 r1 q1) (he _)]
theorem a2T:dU X (binaryOp .Add) (λx y H Q=>∃i j,x= .str i/\y= .str j/\i.length+j.length<=sizeLine/\Q (.str (i++j)) H):=by intro ay s O H x y v u Q I rx ry h;let(i,j,rfl,rfl,hz,q):=h;let(t,rfl):=rx;let(t',rfl):=ry;erw[add_str (λt' tk=>#[.str (i++j),H,I.tok _,#[_,Z],q]) hz]
theorem vals1(r:Vals [x] us):∃u,us=[u]/\RelV x u:=by cases r with |cons r1 r2=>cases r2;erw[_,rfl,r1]
theorem vals2(r:Vals [x,y] us):∃u w',us=[u,w']/\RelV x u/\RelV y w':=by cases r with |cons r1 r2=>cases r2 with |cons r3 r4=>cases r4;erw[_,_,rfl,r1,r3]
theorem pF:gb X (.builtin "abs") (λxs H Q=>∃i,xs=[.int i]/\Q (.int (if i<0 then-i else i)) H):=by intro ay s O H xs us Q I r h;let(i,rfl,q):=h;let(u,rfl,t,rfl):=vals1 r;erw[call_abs_int λu tk=>#[.int (if i<0 then-i else i),H,I.tok _,#[_,Z],q]]
theorem WW(hc:X.calm=true):gb X (.builtin "max") (λxs H Q=>∃i j,xs=[.int i,.int j]/\Q (.int (if j>i then j else i)) H):=by
 intro ay s O H xs us Q I r h;let(i,j,rfl,q):=h;let(u,w',rfl,(t,rfl),(t',rfl)):=vals2 r;erw[max_two_ints (I.ok.hd hc) λh' tk k=>#[_,H,I.kept k,?_,q]];by_cases hj:j>i
 ·rw[bE hj,bE hj];erw[_,Z]
 ·rw[bI hj,bI hj];erw[_,Z]
theorem MM(hc:X.calm=true):gb X (.builtin "min") (λxs H Q=>∃i j,xs=[.int i,.int j]/\Q (.int (if j<i then j else i)) H):=by
 intro ay s O H xs us Q I r h;let(i,j,rfl,q):=h;let(u,w',rfl,(t,rfl),(t',rfl)):=vals2 r;erw[min_two_ints (I.ok.hd hc) λh' tk k=>#[_,H,I.kept k,?_,q]];by_cases hj:j<i
 ·rw[bE hj,bE hj];erw[_,Z]
 ·rw[bI hj,bI hj];erw[_,Z]
theorem WX:gb X (.type "int") (λxs H Q=>(∃i,xs=[.int i]/\Q (.int i) H)\/∃k,xs=[.bl k]/\Q (.int (if k then 1 else 0)) H):=by
 intro ay s O H xs us Q I r h;rcases h with⟨i,rfl,q⟩|⟨k,rfl,q⟩
 ·let(u,rfl,t,rfl):=vals1 r
  erw[call_int_int #[.int i,H,I,#[_,Z],q]]
 ·let(u,rfl,r1):=vals1 r
  cases r1;erw[call_int_bool #[.int (if k then 1 else 0),H,I.tok _,#[_,Z],q]]
end
structure wJ(h:Heap)(x dx C:Addr)(mA:cw):Prop where
 obj:h.get? x=some (PySem.W.instObj C dx)
 ns:h.Ns1 dx mA
 ne:dx≠x
theorem a5P{h:Heap}{dx:Addr}{mA:cw}(n:h.Ns1 dx mA):∃od,h.get? dx=some od/\∀name,PySem.W.lookIn name od=some (mA name):=by
 let(o,es,ep,ho,hd,hk,_,hm):=n;erw[o,ho,λname=>?_];have e:=hm name;unfold nsFind findBy at e;rw[<-Array.find?_toList]at e;unfold PySem.W.lookIn;rw[hd];dsimp only;split
 ·rename_i y q
  rw[q]at e;erw[congrArg some e]
 ·rename_i q
  rw[q]at e;have a:es.toList.any (·.refKey)=false:=by rw[List.any_eq_false];intro y hy;let(z,t,a7F):=hk y (Array.mem_toList_iff.mp hy);simp[DictEntry.refKey,a7F]
  have a':¬es.toList.any (·.refKey)=true:=by rw[a];erw[iV]
  rw[bI a'];erw[congrArg some e]
theorem wJ.look(I:wJ h x dx C mA):∃od,PySem.W.InstAt h x (PySem.W.instObj C dx) C (some od)/\∀name,PySem.W.lookIn name od=some (mA name):=let#[od,ho,hl]:=a5P I.ns
 #[od,#[I.obj,Z,Z,ho],hl]
section
variable {prog:ah}{w:World}{A:aj}{E:Value->ae->Prop}{s:ae}{K:aa}{x dx C f:Addr}{mA:cw}{name:Str}{v:Value}
theorem get_map{expr:Bool}{Q:Value->ae->Prop}(X:K.In s.heap)(I:wJ s.heap x dx C mA)(hg:PySem.W.plainGet K C name=true)(hh:PySem.W.hasDictIn K C=true) (ha:PySem.W.findIn K (.ref C) name=some none)(hv:mA name=some v)(hv':PySem.W.handedIn v=true)(h:Q v {s with toks:=s.toks+1}): wpAny (model prog w) A (getAttr (.ref x) name expr) Q E s:=by let(od,J,hl):=I.look;erw[PySem.W.get_value X J (XT hg).1 (PySem.W.findObj_own hh ha Z (by rw[hl,hv])) hv' h]
theorem a9f{pl:Sem Bool}{Q:Value×List Value->ae->Prop}(X:K.In s.heap)(I:wJ s.heap x dx C mA)(hg:PySem.W.plainGet K C name=true) (hf:PySem.W.findIn K (.ref C) name=some (some (.ref f)))(ht:PySem.W.isFn K (.ref f)=true)(hv:mA name=none)(h:Q (.ref f,[.ref x]) s): wpAny (model prog w) A (getMethod (.ref x) name pl) Q E s:=by let(od,J,hl):=I.look;erw[PySem.W.method_fn X J (XT hg).1 (XT hg).2 hf (gJ.mp ht) (by show(PySem.W.lookIn name od).map (·.isSome)=some false;rw[hl,hv];rfl) h]
theorem a0l{ns:List Str}{Q:Unit->ae->Prop}(X:K.In s.heap)(I:wJ s.heap x dx C mA) (hs:PySem.W.findIn K (.ref C) "__setattr__"=some (some (.builtin "object.__setattr__")))(hp:PySem.W.plainOver K C=true)(ht:PySem.W.takerIn K C name=some none)(hh:PySem.W.hasDictIn K C=true) (hw:PySem.Within mA ns)(hsz:ns.length<=sizeLine) (h:∀h',wJ h' x dx C (λy=>if y=name then some v else mA y)->Heap.SameBut dx s.heap h'->Q () {s with heap:=h',toks:=s.toks+2}): wpAny (model prog w) A (setAttr (.ref x) name v) Q E s:=by let(od,J,hl):=I.look;erw[PySem.W.set_plain X J hs (PySem.W.osa_open (s:={s with toks:=s.toks+1}) (r:=none) X J hp ht λb=>?_)];let(cd,hc,yA):=PySem.W.any_some hh;have hx:s.heap.get? x=some #[.ref C,some dx,.plain,#[]]:=I.obj;erw[aW (cI (aW (aW (wpAny_loadPart hx (aW (PySem.W.Looks.here (s:={s with toks:=s.toks+1}) (PySem.W.looks_clsIn X hc) ?_))))))];rw[yA];erw[cI (a:=some dx) (aW (cI (aW ?_)))];erw[wpAny_nsSet1 (s:={s with toks:=s.toks+1}) I.ns λh' DX jU=>?_];let(oD,esD,epD,hoD,hdD,hcD):=DX.count (PySem.Within.cons name v hw);erw[aW (wpAny_lookBehind hoD (by rw[hdD];erw[pastItsLine_dict (iK hcD (by rw[lE];lia))]) ?_)];erw[cI (h _ #[(jU.2 _ (dy I.ne)).trans I.obj,DX,I.ne] jU)]
theorem a5g{R:Result->ae->Prop}{vs:List Value}{kw:List (Str×Value)}(X:K.In s.heap)(hm:PySem.W.makesIn K C=true) (hi:PySem.W.findIn K (.ref C) "__init__"=some (some (.ref f)))(hf:PySem.W.typeIn K (.ref f)=some (.type "function")) (h:codeAny (model prog w) (A.under (.builtin "type.__call__" #[.ref C::vs,kw])) (.call (.ref f) #[.ref (s.heap.objs.size+1)::vs,kw]) (PySem.W.InitBack (s.heap.objs.size+1) R) {s with heap:=(s.heap.push PySem.W.emptyDict).push (PySem.W.instObj C s.heap.objs.size)}): codeAny (model prog w) A (.call (.ref C) #[vs,kw]) R s:=by let(hh,g,d,t,os):=s;erw[PySem.W.make_core (PySem.W.makes_of X hm) (PySem.W.looks_findIn X hi) (λself=>PySem.W.bind_fn X self hf) (.inl Z) h]
end
def jP(f:Str)(v:V):List (Str×V)->List (Str×V) |[]=>[(f,v)] |(g,x)::r=>if g=f then(g,v)::r else(g,x)::jP f v r
theorem TX(f g:Str)(v:V):∀fs:List (Str×V),(jP f v fs).lookup g=if g=f then some v else fs.lookup g
 |[]=>by
  show List.lookup g [(f,v)]=_;by_cases h:g=f
  ·have hb:(g==f)=true:=gJ.mpr h
   simp only[List.lookup,hb,bE h]
  ·have hb:(g==f)=false:=Fs.mpr h
   simp only[List.lookup,hb,bI h] |(k,x)::r=>by
  have ih:=TX f g v r;rw[show jP f v ((k,x)::r)=(if k=f then(k,v)::r else(k,x)::jP f v r)from rfl];by_cases hk:k=f
  ·rw[bE hk]
   by_cases h:g=k
   ·have hb:(g==k)=true:=gJ.mpr h
    simp only[List.lookup,hb,bE (h.trans hk)]
   ·have hb:(g==k)=false:=Fs.mpr h
    simp only[List.lookup,hb,bI (λe:g=f=>h (e.trans hk.symm))]
  ·rw[bI hk]
   by_cases h:g=k
   ·have hb:(g==k)=true:=gJ.mpr h
    simp only[List.lookup,hb,bI (λe:g=f=>hk (h.symm.trans e))]
   ·have hb:(g==k)=false:=Fs.mpr h
    simp only[List.lookup,hb];erw[ih]
theorem Kn(f:Str)(v:V):∀fs:List (Str×V),f∈(jP f v fs).map (·.1)/\∀g,g∈fs.map (·.1)->g∈(jP f v fs).map (·.1)
 |[]=>#[by simp[jP],λg h=>by simp at h] |(k,x)::r=>by
  let(i1,i2):=Kn f v r;rw[show jP f v ((k,x)::r)=(if k=f then(k,v)::r else(k,x)::jP f v r)from rfl];by_cases hk:k=f
  ·rw[bE hk]
   subst hk;erw[by simp,λg h=>by simpa using h]
  ·rw[bI hk]
   erw[?_,λg h=>?_]
   ·rw[pR]
    erw[jf _ i1]
   ·rw[pR]at h⊢
    rcases bJ.mp h with e|e
    ·erw[bJ.mpr (.inl e)]
    ·erw[jf _ (i2 g e)]
theorem U7(f:Str)(v:V):∀fs:List (Str×V),(jP f v fs).length<=fs.length+1
 |[]=>by simp[jP] |(k,x)::r=>by
  have ih:=U7 f v r;rw[show jP f v ((k,x)::r)=(if k=f then(k,v)::r else(k,x)::jP f v r)from rfl];by_cases hk:k=f
  ·rw[bE hk,lE,lE];lia
  ·rw[bI hk,lE,lE];lia
theorem kF.some_of{v:V}(r:kF (some v) o):∃u,o=some u/\RelV v u:=by cases o with |none=>exact(show False from r).elim |some u=>erw[u,Z,r]
theorem kF.none_of(r:kF none o):o=none:=by cases o with |none=>rfl |some u=>exact(show False from r).elim
theorem a8g{v:V}(r:RelV v u):PySem.W.handedIn u=true:=by cases v with |bF=>cases(show u=Value.none from r);rfl |bl b=>cases(show u=Value.bool b from r);rfl |int i=>let(t,e):=(show∃t,u=Value.int i t from r);cases e;rfl |str x=>let(t,e):=(show∃t,u=Value.str x t from r);cases e;rfl |yX b=>let(t,e):=(show∃t,u=Value.bytes b t from r);cases e;rfl |Et b=>let(t,e):=(show∃t,u=Value.float b t from r);cases e;rfl |ref a=>cases(show u=Value.ref a from r);rfl |ty n=>cases(show u=Value.type n from r);rfl
section
variable {P:ah}{w:World}{H H':Hp}{h h':Heap}{a C dx:Addr}{fs fs':List (Str×V)}
theorem Kx(bB:fb P w H h)(e:H a=some (.ins C dx fs)):∃mA,wJ h a dx C mA/\(∀f,kF (fs.lookup f) (mA f))/\PySem.Within mA (fs.map (·.1))/\fs.length<=1000/\H dx=some (.own a):=by let(d,z,ne,ob,mA,n,r,q):=(show gA P w H h a (.ins C dx fs)from bB a _ e);erw[mA,#[ob,n,ne],r,q,z,d]
end
structure kH(K:aa)(C:Addr):Prop where
 pg:PySem.W.plainGet K C Str.empty=true
 hd:PySem.W.hasDictIn K C=true
 po:PySem.W.plainOver K C=true
 sa:PySem.W.findIn K (.ref C) "__setattr__"=some (some (.builtin "object.__setattr__"))
theorem kH.get{K:aa}{C:Addr}(c:kH K C)(f:Str):PySem.W.plainGet K C f=true:=c.pg
def jZ(K:aa)(C:Addr)(f:Str):Prop:=PySem.W.findIn K (.ref C) f=some none
theorem jZ.Zd{K:aa}(n:jZ K C f):PySem.W.takerIn K C f=some none:=by unfold PySem.W.takerIn;rw[show PySem.W.findIn K (.ref C) f=some none from n];rfl
structure Meth(K:aa)(C:Addr)(m:Str)(f:Addr):Prop where
 at_:PySem.W.findIn K (.ref C) m=some (some (.ref f))
 fn:PySem.W.isFn K (.ref f)=true
 kp:PySem.W.keepIn K (.ref f)=true
section
variable {X:Cx}{ay:List (Addr×Obj)}{O:St}{H:Hp}{s:ae}{a C dx:Addr}{fs:List (Str×V)}{f:Str}{v:V}{A:aj}{E:Value->ae->Prop}
theorem Vn{b:Bool}{Q:Value->ae->Prop}(I:Inv X ay O H s)(e:H a=some (.ins C dx fs))(c:kH X.K C)(n:jZ X.K C f)(l:fs.lookup f=some v) (h:∀u s',Inv X ay O H s'->RelV v u->Q u s'):wpAny (model X.prog X.w) A (getAttr (.ref a) f b) Q E s:=by let(mA,ahu,r,_,_,_):=Kx I.bB e;let(u,hu,ru):=kF.some_of (v:=v) (o:=mA f) (by rw[<-l];erw[r f]);erw[get_map I.iq ahu (c.get f) c.hd n hu (a8g ru) (h u _ (I.tok _) ru)]
theorem Vm{pl:Sem Bool}{Q:Value×List Value->ae->Prop}(I:Inv X ay O H s)(e:H a=some (.ins C dx fs))(c:kH X.K C)(k:Meth X.K C m g)(l:fs.lookup m=none) (h:Q (.ref g,[.ref a]) s):wpAny (model X.prog X.w) A (getMethod (.ref a) m pl) Q E s:=by let(mA,ahu,r,_,_,_):=Kx I.bB e;have hn:mA m=none:=kF.none_of (by rw[<-l];erw[r m]);erw[a9f I.iq ahu (c.get m) k.at_ k.fn hn h]
theorem PD{y:V}{u:Value}{Q:Unit->ae->Prop}(I:Inv X ay O H s)(e:H a=some (.ins C dx fs))(c:kH X.K C)(n:jZ X.K C f)(hl:fs.length<1000)(ry:RelV y u) (h:∀s',Inv X ay O (upd H a (.ins C dx (jP f y fs))) s'->Q () s'):wpAny (model X.prog X.w) A (setAttr (.ref a) f u) Q E s:=by
 let(mA,ahu,r,wi,_,ho):=Kx I.bB e;have hz:(fs.map (·.1)).length<=sizeLine:=by rw[cJ,sizeLine_eq];lia
 erw[a0l I.iq ahu c.sa c.po n.Zd c.hd wi hz λh' O' sb=>h _ ?_];have hd:∃o,h'.get? dx=some o:=let#[o,_,_,e',_]:=O'.ns;#[o,e'];erw[I.write (x:=a) (e:=dx) (by rw[e];erw[True.intro]) (.inr ho) (λb q hb z=>(sb.2 b hb).trans z) hd ?_];erw[by rw[aR ahu.ne];erw[ho],?_,ahu.ne,O'.obj,_,O'.ns,λg=>?_,λg hg=>?_]
 ·have:=U7 f y fs;lia
 ·show kF ((jP f y fs).lookup g) (if g=f then some u else mA g)
  rw[TX];by_cases q:g=f
  ·rw[bE q,bE q];erw[ry]
  ·rw[bI q,bI q];erw[r g]
 ·by_cases q:g=f
  ·rw[q];exact(Kn f y fs).1
  ·refine(Kn f y fs).2 g (wi g λz=>hg ?_)
   show(if g=f then some u else mA g)=none;rw[bI q];erw[z]
theorem Inv.made(I:Inv X ay O H s):Inv X ay O (upd (upd H s.heap.objs.size (.own (s.heap.objs.size+1))) (s.heap.objs.size+1) (.ins C s.heap.objs.size [])) {s with heap:=(s.heap.push PySem.W.emptyDict).push (PySem.W.instObj C s.heap.objs.size)}:=by
 have e1:(s.heap.push PySem.W.emptyDict).get? s.heap.objs.size=some PySem.W.emptyDict:=fO s.heap rfl;have e2:((s.heap.push PySem.W.emptyDict).push (PySem.W.instObj C s.heap.objs.size)).get? (s.heap.objs.size+1)=some (PySem.W.instObj C s.heap.objs.size):=by have:=fO (s.heap.push PySem.W.emptyDict) (o:=PySem.W.instObj C s.heap.objs.size) rfl;rwa [uI]at this
 have e3:(s.heap.push PySem.W.emptyDict).Ns s.heap.objs.size (λ_=>none):=#[PySem.W.emptyDict,#[],_,e1,Z,(λe he=>absurd he (by simp)),λ_=>rfl];have I1:=I.laid (a:=s.heap.objs.size) (o:=.own (s.heap.objs.size+1)) (h':=s.heap.push PySem.W.emptyDict) (t':=s.toks) (λb u q=>cW _ q) (ck _) #[_,e1];erw[I1.laid (a:=s.heap.objs.size+1) (o:=.ins C s.heap.objs.size []) (t':=s.toks) (λb u q=>cW _ q) (Nat.le_of_eq (uI _ _)) ?_];have ne:s.heap.objs.size≠s.heap.objs.size+1:=gq (Y3 _);erw[by rw[aR ne,bo],gK _,ne,e2,λ_=>none,(Heap.Ns1.of_empty e3).at λo q=>cW _ q,λ_=>True.intro,λy hy=>absurd rfl hy]
theorem acL{prog:ah}{w:World}{env:Env}{e:Expr}{f:Str}{pos:Pos}{s:ae}{Q:Value->ae->Prop}(hb:attributeBase e f env (eval e env)=eval e env) (h:wpAny (model prog w) A (eval e env) (λo s₁=>wpAny (model prog w) A (getAttr o f true) Q E s₁) E s):wpAny (model prog w) A (eval (.Attribute e f pos) env) Q E s:=Attribute_any_ h (by rw[arm_eval_Attribute,hb])
end
def afb(X:Cx)(op:Operator)(rd:V->V->Hp->VK->Prop):Prop:=∀(ay:List (Addr×Obj))(s:ae)(O:St)(H:Hp)(x y:V)(u v:Value)(Q:VK),Inv X ay O H s->RelV x u->RelV y v->rd x y H Q->wpAny (model X.prog X.w) X.A (inplaceOp op u v) (EP X ay O Q) X.xe s
section
variable {X:Cx}{o e value:Expr}{f:Str}{pos pos' qc:Pos}{ta tv:TE}
end
section
variable {X:Cx}{ay:List (Addr×Obj)}{O:St}{H:Hp}{s:ae}{A:aj}{E:Value->ae->Prop}{Q:Value->ae->Prop}{c:Value}{b:Bool}
end
structure dh(k:Nat)(A:aj):Prop where
 hd:A.handled=none
 dp:A.depth+3*k+5<recursionLimit
 un:A.units+16*k+200<cLine
theorem dh.mono{k:Nat}(r:dh k A)(h:j<=k):dh j A:=#[r.hd,by have:=r.dp;lia,by have:=r.un;lia]
theorem dh.deeper{k:Nat}(r:dh (k+1) A)(env:Env):dh k (A.deeper env):=#[r.hd,by have:=r.dp;show A.depth+1+3*k+5<_;lia,by have:=r.un;show A.units+3+16*k+200<_;lia]
theorem a5h{A:aj}{C:Addr}{us:List Value}{kw:List (Str×Value)}:(A.under (.builtin "type.__call__" #[.ref C::us,kw])).depth=A.depth+1:=by first|rfl|simp[Around.under,Code.weight,Code.isCreation,Code.isGuard,Code.isCaller,Code.frames,Code.isFrame,guardIds]
theorem a5f{A:aj}{C:Addr}{us:List Value}{kw:List (Str×Value)}:(A.under (.builtin "type.__call__" #[.ref C::us,kw])).units=A.units+1:=by first|rfl|simp[Around.under,Code.cUnits,Code.frames,Code.isFrame]
theorem dh.make{k:Nat}(r:dh (k+1) A)(C:Addr)(us:List Value)(kw:List (Str×Value)):dh k (A.under (.builtin "type.__call__" #[.ref C::us,kw])):=#[r.hd,by have:=r.dp;rw[a5h];omega,by have:=r.un;rw[a5f];omega]
theorem dh.depth{k:Nat}(r:dh k A):A.depth<recursionLimit:=by have:=r.dp;lia
theorem dh.units{k:Nat}(r:dh k A):A.units+64<cLine:=by have:=r.un;lia
def jM:TA:=λ_ H Q=>Q [] H
def sM(ta:TE)(tr:TA):TA:=λO H Q=>ta O H λx H1=>tr O H1 λxs H2=>Q (x::xs) H2
section
variable {X:Cx}{e:Expr}{es:List Expr}{te:TE}{t:TA}{pos:Pos}
theorem az:PA X [] jM:=λ_ _ _ _ H Q I h=>Calls.spliced_nil #[[],H,I,.nil,h]
theorem au(ha:PE X e te)(hr:PA X es t)(hs:autoParam (starEach (e::es) X.env=(false,eval e X.env)::starEach es X.env) r8_._auto_1):PA X (e::es) (sM te t):=by intro pos ay s O H Q I h;rw[hs];show wpAny _ _ (spliced ((false,eval e X.env)::backTo pos (starEach es X.env))) _ _ s;erw[Calls.spliced_cons (bw (ha ay s O H _ I h) λu s1 #[x,H1,I1,r1,q1]=>?_)];erw[bw (hr pos ay s1 O H1 _ I1 q1) λus s2 #[xs,H2,I2,r2,q2]=>#[x::xs,H2,I2,.cons r1 r2,q2]]
end
abbrev Sp:=List V->Hp->VK->XK->Prop
abbrev lD:=List Env->Hp->ae->XK->Value->ae->Prop
structure pM(P:ah)(w:World)(K:aa)(mg:cw)(aB:Heap)(A:aj)(outer:List Env)(s:ae)(H:Hp):Prop where
 frames:A.frames=some outer
 mod:Mod K mg aB
 bs:∀b o,aB.get? b=some o->s.heap.get? b=some o/\H b=none
 ng:aB.objs.size<=s.heap.objs.size
 kD:s.heap.FunFrames aB outer
 p8:∀b∈dJ outer,H b=none
 bB:fb P w H s.heap
 bare:AllBare s.gens
def CE(outer:List Env)(P:ah)(w:World)(H:Hp)(s:ae)(Q:VK)(u:Value)(s':ae):Prop:=∃v H',s'.os=s.os/\AllBare s'.gens/\Un (dJ outer) [] H H' s.heap s'.heap/\fb P w H' s'.heap/\RelV v u/\Q v H'
def CR(CX:lD)(outer:List Env)(P:ah)(w:World)(H:Hp)(s:ae)(Q:VK)(E:XK)(r:Result)(s':ae):Prop:=match r with | .ok (.ret u)=>CE outer P w H s Q u s' | .ok _=>False | .error e=>CX outer H s E e s'
structure jG(P:ah)(w:World)(K:aa)(mg:cw)(aB:Heap)(CX:lD)(k:Nat)(f:Addr)(fd:FuncData)(ps:List Str)(sp:Sp):Prop where
 len:∀vs H Q E,sp vs H Q E->vs.length=ps.length
 run:∀(A:aj)(outer:List Env)(s:ae)(H:Hp)(args:Args)(us:List Value)(vs:List V)(Q:VK)(E:XK),dh k A->pM P w K mg aB A outer s H->BindsTo s fd args (ps.zip us)->Vals vs us->sp vs H Q E->codeAny (model P w) A (.call (.ref f) args) (CR CX outer P w H s Q E) s
theorem pM.make{P:ah}{w:World}{K:aa}{mg:cw}{aB:Heap}(e:pM P w K mg aB A outer s H)(C:Addr)(us:List Value)(kw:List (Str×Value)): pM P w K mg aB (A.under (.builtin "type.__call__" #[.ref C::us,kw])) outer s H:=#[by first|erw[e.frames]|(simpa[Around.under,Code.envs,Code.isFrame,pushEnvs]using e.frames),e.mod,e.bs,e.ng,e.kD,e.p8,e.bB,e.bare]
section
variable {X:Cx}{ay:List (Addr×Obj)}{O:St}{H:Hp}{s s':ae}
theorem Inv.EE(I:Inv X ay O H s):pM X.prog X.w X.K X.mg X.aB X.A X.stack s H:=#[I.ok.frames,I.ok.mod,I.bs,iK I.ok.ng I.sz,I.stack,I.Cf,I.bB,I.bare]
theorem Inv.after(I:Inv X ay O H s)(h:CE X.stack X.prog X.w H s Q u s'):EP X ay O Q u s':=by let(v,H',os,bare,un,bB,r,q):=h;let(hh,g,d,t,gF):=s';obtain rfl:gF=s.os:=os;erw[v,H',I.call (h':=hh) (g':=g) (d':=d) (t':=t) (ch:=[]) un bB bare (λb z=>absurd z (by simp)),r,q]
end
def Zy(sp:Sp)(iy:List V)(E:XK)(t:TA):TE:=λO H Q=>t O H λvs H1=>sp (vs++iy) H1 Q E
inductive wK(C:Addr)(m:Str)(sp:Sp)(iy:List V)(E:XK)(t:TA)(O:St)(Q:VK)(x:V)(H1:Hp):Prop |mk (a:_)(dx:_)(fs:_)(h0:x= .ref a)(h1:H1 a=some (.ins C dx fs))(h2:fs.lookup m=none)(h3:t O H1 λvs H2=>sp (x::(vs++iy)) H2 Q E)
def Oq(C:Addr)(m:Str)(sp:Sp)(iy:List V)(E:XK)(ta:TE)(t:TA):TE:=λO H Q=>ta O H λx H1=>wK C m sp iy E t O Q x H1
def Zt(C:Addr)(sp:Sp)(iy:List V)(E:XK)(t:TA):TE:=λO H Q=>t O H λvs H1=>∀x dx,H1 x=none->H1 dx=none->dx≠x->sp (.ref x::(vs++iy)) (upd (upd H1 dx (.own x)) x (.ins C dx [])) (λv H2=>v= .bF/\Q (.ref x) H2) E
def Binds(K:aa)(fd:FuncData)(ps:List Str)(ds:List Value):Prop:=∀(s:ae)(us:List Value),K.In s.heap->(us++ds).length=ps.length->BindsTo s fd #[us,[]] (ps.zip (us++ds))
theorem Binds.all{K:aa}(h:∀us:List Value,us.length=ps.length->bindArgs fd #[us,[]]=pure (ps.zip us)):Binds K fd ps []:=λs us _ hl=>by rw[FH]at hl⊢;erw[.of_eq (h us hl)]
def Passes(CX:lD)(X:Cx)(E:XK):Prop:=∀(ay:List (Addr×Obj))(O:St)(H:Hp)(s:ae)(e:Value)(s':ae),Inv X ay O H s->CX X.stack H s E e s'->X.xe e s'
section
variable {X:Cx}{CX:lD}{k:Nat}{f C:Addr}{fd:FuncData}{ps:List Str}{sp:Sp}{iy:List V}{ds:List Value}{E:XK}{x m:Str}{p pos apos:Pos}{e o:Expr}{es:List Expr}{ta:TE}{t:TA}
theorem IY{ay:List (Addr×Obj)}{O:St}{H:Hp}{s:ae}{Q:VK}{us:List Value}{vs:List V}(F:jG X.prog X.w X.K X.mg X.aB CX k f fd ps sp)(hr:dh k X.A)(hb:Binds X.K fd ps ds)(hd:Vals iy ds)(hx:Passes CX X E) (I:Inv X ay O H s)(r:Vals vs us)(h:sp (vs++iy) H Q E):wpAny (model X.prog X.w) X.A (call (.ref f) us) (EP X ay O Q) X.xe s:=by
 have r2:Vals (vs++iy) (us++ds):=r.append hd;have hl:(us++ds).length=ps.length:=by rw[<-r2.length];erw[F.len _ _ _ _ h]
 erw[BA (BC (F.run X.A X.stack s H #[us,[]] (us++ds) (vs++iy) Q E hr I.EE (hb s us I.iq hl) r2 h) λr s' hq=>?_)];cases r with |error e=>erw[hx ay O H s e s' I hq] |ok fl=>cases fl with |ret u=>erw[I.after hq] |next=>erw[False.elim hq] |brk=>erw[False.elim hq] |cont=>erw[False.elim hq]
theorem a2u(F:jG X.prog X.w X.K X.mg X.aB CX k f fd ps sp)(hr:dh k X.A)(hg:Gl X x)(hm:X.mg x=some (.ref f))(hk:PySem.W.keepIn X.K (.ref f)=true)(hb:Binds X.K fd ps ds)(hd:Vals iy ds)(hx:Passes CX X E) (ha:PA X (e::es) t)(jW:autoParam ((x==("__debug__":Str))=false) q8_._auto_1)(he:autoParam (starEach (e::es) X.env=(false,eval e X.env)::starEach es X.env) r8_._auto_1)(gY:autoParam ((backTo pos (starEach es X.env)).any (·.1)=false) r8_._auto_1): PE X (.Call (.Name x p) (e::es) [] pos) (Zy sp iy E t):=by intro ay s O H Q I h;erw[BB (yg I hg hm ?_ jW)];erw[XU (h₀:=X.aB) I.ok.mod.qG hk (bw (ha pos ay s O H _ I h) λus s1 #[vs,H1,I1,r,q]=>#[I1.iq,?_]) he gY];erw[IY F hr hb hd hx I1 r q]
theorem Sk{pl:Sem Bool}(he:PE X o ta)(c:kH X.K C)(hm:Meth X.K C m f)(F:jG X.prog X.w X.K X.mg X.aB CX k f fd ps sp)(hr:dh k X.A)(hb:Binds X.K fd ps ds)(hd:Vals iy ds)(hx:Passes CX X E)(ha:PA X (e::es) t) (iQ:autoParam (starEach (e::es) X.env=(false,eval e X.env)::starEach es X.env) r8_._auto_1)(gY:autoParam ((backTo pos (starEach es X.env)).any (·.1)=false) r8_._auto_1) (ht:eval (.Call (.Attribute o m apos) (e::es) [] pos) X.env=(do
 let ov<-eval o X.env
 standAt apos.atName
 let(f,first)<-holding [ov] (getMethod ov m pl)
 callWith pos f first (backTo pos (starEach (e::es) X.env)) (backToKw pos (keywordEach [] X.env))):=by rfl): PE X (.Call (.Attribute o m apos) (e::es) [] pos) (Oq C m sp iy E ta t):=by
 intro ay s O H Q I h;erw[PySem.W.methodCall_KW (pl:=pl) (bw (he ay s O H _ I h) λu s1 #[x,H1,I1,rx,a,dx,fs,ex,ea,l,q]=>?_) ht];subst ex;obtain rfl:u=Value.ref a:=rx;erw[Vm I1 ea c hm l ?_];erw[XU (first:=[.ref a]) (h₀:=X.aB) I.ok.mod.qG hm.kp (bw (ha pos ay s1 O H1 _ I1 q) λus s2 #[vs,H2,I2,r,q2]=>#[I2.iq,?_]) iQ gY];erw[IY (us:=.ref a::us) (vs:=.ref a::vs) F hr hb hd hx I2 (.cons Z r) q2]
theorem Sj{pl:Sem Bool}(he:PE X o ta)(c:kH X.K C)(hm:Meth X.K C m f)(F:jG X.prog X.w X.K X.mg X.aB CX k f fd ps sp)(hr:dh k X.A)(hb:Binds X.K fd ps ds)(hd:Vals iy ds)(hx:Passes CX X E) (ht:eval (.Call (.Attribute o m apos) [] [] pos) X.env=(do
 let ov<-eval o X.env
 standAt apos.atName
 let(f,first)<-holding [ov] (getMethod ov m pl)
 callWith pos f first (backTo pos (starEach [] X.env)) (backToKw pos (keywordEach [] X.env))):=by rfl): PE X (.Call (.Attribute o m apos) [] [] pos) (Oq C m sp iy E ta jM):=by
 intro ay s O H Q I h;erw[PySem.W.methodCall_KW (pl:=pl) (bw (he ay s O H _ I h) λu s1 #[x,H1,I1,rx,a,dx,fs,ex,ea,l,q]=>?_) ht];subst ex;obtain rfl:u=Value.ref a:=rx;erw[Vm I1 ea c hm l ?_];erw[PySem.W.callWith_K0 (first:=[.ref a]) I1.iq hm.kp (IY (us:=[.ref a]) (vs:=[.ref a]) F hr hb hd hx I1 (.cons rfl .nil) q)]
structure Mk(K:aa)(C f:Addr):Prop where
 makes:PySem.W.makesIn K C=true
 init:PySem.W.findIn K (.ref C) "__init__"=some (some (.ref f))
 fn:PySem.W.isFn K (.ref f)=true
 kp:PySem.W.keepIn K (.ref C)=true
theorem a0M{ay:List (Addr×Obj)}{O:St}{H:Hp}{s:ae}{Q:VK}{us:List Value}{vs:List V}(M:Mk X.K C f)(F:jG X.prog X.w X.K X.mg X.aB CX k f fd ps sp)(hr:dh (k+1) X.A)(hb:Binds X.K fd ps ds)(hd:Vals iy ds) (hx:Passes CX X E)(I:Inv X ay O H s)(r:Vals vs us) (h:∀x dx,H x=none->H dx=none->dx≠x->sp (.ref x::(vs++iy)) (upd (upd H dx (.own x)) x (.ins C dx [])) (λv H2=>v= .bF/\Q (.ref x) H2) E): wpAny (model X.prog X.w) X.A (call (.ref C) us) (EP X ay O Q) X.xe s:=by
 have hq:=h (s.heap.objs.size+1) s.heap.objs.size (I.bB.fresh (Nat.le_succ _)) (I.bB.fresh (ck _)) (gq (Y3 _));have I2:=Inv.made (C:=C) I;have r2:Vals (V.ref (s.heap.objs.size+1)::(vs++iy)) (Value.ref (s.heap.objs.size+1)::(us++ds)):=.cons Z (r.append hd);have hl:(Value.ref (s.heap.objs.size+1)::us++ds).length=ps.length:=by have e:=r2.length;rw[F.len _ _ _ _ hq]at e;erw[e.symm]
 erw[BA (a5g (f:=f) I.iq M.makes M.init (gJ.mp M.fn) (BC (F.run _ X.stack _ _ #[Value.ref (s.heap.objs.size+1)::us,[]] (Value.ref (s.heap.objs.size+1)::(us++ds)) _ _ E (hr.make C us []) (I2.EE.make C us []) (hb _ (Value.ref (s.heap.objs.size+1)::us) I2.iq hl) r2 hq) λr s' kS=>?_))];cases r with |error e=>erw[hx ay O _ _ e s' I2 kS] |ok fl=>cases fl with |ret u=>let(v,H',I3,rv,ev,q3):=I2.after kS;subst ev;erw[rv,#[V.ref (s.heap.objs.size+1),H',I3,Z,q3]] |next=>erw[False.elim kS] |brk=>erw[False.elim kS] |cont=>erw[False.elim kS]
theorem a2p(M:Mk X.K C f)(F:jG X.prog X.w X.K X.mg X.aB CX k f fd ps sp)(hr:dh (k+1) X.A)(hg:Gl X x)(hm:X.mg x=some (.ref C))(hb:Binds X.K fd ps ds)(hd:Vals iy ds)(hx:Passes CX X E) (ha:PA X (e::es) t)(jW:autoParam ((x==("__debug__":Str))=false) q8_._auto_1)(he:autoParam (starEach (e::es) X.env=(false,eval e X.env)::starEach es X.env) r8_._auto_1)(gY:autoParam ((backTo pos (starEach es X.env)).any (·.1)=false) r8_._auto_1): PE X (.Call (.Name x p) (e::es) [] pos) (Zt C sp iy E t):=by intro ay s O H Q I h;erw[BB (yg I hg hm ?_ jW)];erw[XU (h₀:=X.aB) I.ok.mod.qG M.kp (bw (ha pos ay s O H _ I h) λus s1 #[vs,H1,I1,r,q]=>#[I1.iq,?_]) he gY];erw[a0M M F hr hb hd hx I1 r q]
end
section
variable {X:Cx}{CX:lD}{k:Nat}{f C:Addr}{fd:FuncData}{ps ks:List Str}{sp:Sp}{E:XK}{x m:Str}{p pos apos agz:Pos}{e o:Expr}{es:List Expr}{kws:List Keyword}{te ta:TE}{t tk:TA}{nm:Option Str}
variable {g:List Value->List Value->List Value}{gV:List V->List V->List V}
end
structure bN(N P:List Str)(sc:Scope):Prop where
 kind:sc.kind= .function
 co:sc.isCoroutine=false
 gen:sc.isGenerator=false
 nd:N.Nodup
 pre:N.take P.length=P
 par:∀x∈P,sc.names.lookup x=some .local\/sc.names.lookup x=some .cell
 a4G:∀y∈sc.names,y.2≠ .free
theorem X2{kindOf:Str->Option NameKind}{x:Str}:∀{binds:List (Str×Value)}{m:cw},(∀v,(x,v)∉binds)->bindL kindOf binds m x=m x
 |[],_,_=>rfl |(n,v)::r,m,h=>by
  unfold bindL;rw[X2 λw hw=>h w (jf _ hw)];split
  ·have:x≠n:=by rintro rfl;erw[h v NH]
   simp[this]
  ·rfl
theorem X4{kindOf:Str->Option NameKind}{x:Str}:∀{binds:List (Str×Value)}{m:cw},(∀v,(x,v)∉binds)->bindC kindOf binds m x=m x
 |[],_,_=>rfl |(n,v)::r,m,h=>by
  unfold bindC;rw[X4 λw hw=>h w (jf _ hw)];split
  ·rfl
  ·have:x≠n:=by rintro rfl;erw[h v NH]
   simp[this]
theorem X3{kindOf:Str->Option NameKind}{x:Str}{v:Value}:∀{P:List Str}{vs:List Value}{i:Nat}{m:cw},P.Nodup->P[i]? =some x->vs[i]? =some v->kindOf x=some .local->bindL kindOf (P.zip vs) m x=some v |[],_,_,_,_,h,_,_=>by simp at h |_::_,[],_,_,_,_,h,_=>by simp at h |p::P,w::vs,0,m,nd,h1,h2,hk=>by simp at h1 h2;subst h1;subst h2;show bindL kindOf ((p,w)::P.zip vs) m p=_;unfold bindL;rw[X2 λv hv=>(nv.mp nd).1 (BF hv).1,bE hk];simp |p::P,w::vs,i+1,m,nd,h1,h2,hk=>by show bindL kindOf ((p,w)::P.zip vs) m x=_;unfold bindL;erw[X3 (i:=i) (nv.mp nd).2 (by simpa using h1) (by simpa using h2) hk]
theorem X5{kindOf:Str->Option NameKind}{x:Str}{v:Value}:∀{P:List Str}{vs:List Value}{i:Nat}{m:cw},P.Nodup->P[i]? =some x->vs[i]? =some v->kindOf x≠some .local->bindC kindOf (P.zip vs) m x=some v |[],_,_,_,_,h,_,_=>by simp at h |_::_,[],_,_,_,_,h,_=>by simp at h |p::P,w::vs,0,m,nd,h1,h2,hk=>by simp at h1 h2;subst h1;subst h2;show bindC kindOf ((p,w)::P.zip vs) m p=_;unfold bindC;rw[X4 λv hv=>(nv.mp nd).1 (BF hv).1,bI hk];simp |p::P,w::vs,i+1,m,nd,h1,h2,hk=>by show bindC kindOf ((p,w)::P.zip vs) m x=_;unfold bindC;erw[X5 (i:=i) (nv.mp nd).2 (by simpa using h1) (by simpa using h2) hk]
def start(N:List Str)(vs:List V):St:=vs.map some++List.replicate (N.length-vs.length) none
def jE(CX:lD)(P:ah)(w:World)(K:aa)(mg:cw)(aB:Heap)(N:List Str)(qual:Str)(scope:Scope)(f:Addr)(cd:Value)(A:aj)(outer:List Env)(s:ae)(H:Hp)(E:XK):Cx where
 prog:=P
 w:=w
 K:=K
 mg:=mg
 aB:=aB
 A:=A.deeper (envOfC qual scope s.heap.objs.size f cd)
 N:=N
 s₀:=s
 H₀:=H
 env:=envOfC qual scope s.heap.objs.size f cd
 outer:=outer
 stack:=envOfC qual scope s.heap.objs.size f cd::outer
 ex:=[]
 calm:=true
 fn:=λ_=>true
 pn:=[]
 xe:=λe s'=>wpAny (model P w) (A.deeper (envOfC qual scope s.heap.objs.size f cd)) (leaving (envOfC qual scope s.heap.objs.size f cd) e) (λ_ uZ=>CX outer H s E e uZ) (λe' uZ=>CX outer H s E e' uZ) s'
theorem WT{sc:Scope}{n:Nat}{x:Str}(h:sc.names.lookup x=some .cell):∃c,(cellsFrom n sc.names []).lookup x=some c:=by have q:=PySem.W.cellsFrom_some sc.names n [] (.inl h);erw[Option.isSome_iff_exists.mp q]
theorem Ut{CX:lD}{P:ah}{w:World}{K:aa}{mg:cw}{aB:Heap}{N ps:List Str}{qual:Str}{scope:Scope}{f:Addr}{cd:Value}{A:aj}{outer:List Env}{s s1:ae}{H:Hp}{E:XK}{us:List Value}{vs:List V} (S:bN N ps scope)(hd:A.handled=none)(e0:pM P w K mg aB A outer s H)(hl:vs.length=ps.length)(r:Vals vs us) (x:InCallC s s.heap.objs.size (bindL (envOfC qual scope s.heap.objs.size f cd).kindOf (ps.zip us) λ_=>none) (cellsFrom (s.heap.objs.size+1) scope.names []) (bindC (envOfC qual scope s.heap.objs.size f cd).kindOf (ps.zip us) λ_=>none) s1): Inv (jE CX P w K mg aB N qual scope f cd A outer s H E) [] (start N vs) H s1:=by
 have gY:ps.length<=N.length:=by have:=congrArg List.length S.pre;rw[pU]at this;lia
 let(h1,tk,rfl,hk):=x.done;have vm:∀b:Addr,b∉(jE CX P w K mg aB N qual scope f cd A outer s H E).ex:=λb z=>absurd (show b∈([]:List Addr)from z) (by simp);erw[#[e0.mod,S.kind,Z,Z,ck _,λy z c h1 h2=>?_,λy hy=>?_,λy c _ h=>?_,λ_=>hd,Around.frames_deeper e0.frames,.inr #[Z,Z],λb z=>absurd z (vm b),e0.bs,e0.ng,λb _ _=>vm b,λb z=>absurd z (vm b),e0.kD,e0.p8],rfl,e0.bare,Un.kept hk,#[_,x.toInCall.ns,λi y v h1 h2 h3=>?_],λy c h=>#[_,x.cell y c h],e0.bB.fresh (ck _),λy c h=>?_,λp hp=>absurd (show p∈([]:List (Addr×Obj))from hp) (by simp),e0.bB.kept hk,?_]
 ·erw[name_of_addr x.apart (wR h1) (wR h2)]
 ·have hy:scope.names.lookup y=some .cell\/scope.names.lookup y=some .free:=hy
  rcases hy with hy|hy
  ·erw[WT hy]
  ·erw[absurd Z (S.a4G _ (wR hy))]
 ·erw[ND (x.above y c (wR h))]
 ·have hi:i<vs.length:=by
   unfold start at h2;by_cases hi:i<vs.length
   ·erw[hi]
   ·rw[BI (by simpa using hi)]at h2
    rw[Y6]at h2;split at h2<;>cases h2
  have ha:vs[i]? =some v:=by unfold start at h2;rw[zo (by simpa using hi),cV]at h2;cases e:vs[i]? with |none=>rw[e]at h2;cases h2 |some a=>rw[e]at h2;cases h2;rfl
  let(u,hu,rv):=r.get ha;have hp:ps[i]? =some y:=by rw[<-S.pre,List.getElem?_take_of_lt aw];erw[h1]
  have Ti:ps.Nodup:=by rw[<-S.pre];erw[S.nd.sublist (List.take_sublist _ _)]
  erw[u,rv,?_];rcases S.par y (hO hp)with k|k
  ·erw[.inl #[k,X3 Ti hp hu k]]
  ·let(c,e):=WT (n:=s.heap.objs.size+1) k
   erw[.inr #[.inl k,c,e,?_]];have q:=x.cell y c e;rw[X5 Ti hp hu (by show scope.names.lookup y≠_;rw[k];decide)]at q;erw[q]
 ·erw[e0.bB.fresh (ND (x.above y c (wR h)))]
 ·unfold start
  show _=N.length;rw[fN,cJ,FC]
  lia
def eZ9(Q:VK):Ends:={nx:=λ_ H'=>Q .bF H',rt:=Q}
theorem M1{P:ah}{w:World}{K:aa}{mg:cw}{aB:Heap}{k:Nat}{kV:Value}(lk:K.lookup f=some #[oc,od,.func (PySem.W.fnOf name qual params body scope dV kV doc pm an aQ ct),gW])(iR:PySem.W.codeIn K aQ qual=true)(S:bN N ps scope) (len:∀vs H Q E,sp vs H Q E->vs.length=ps.length) (ji:∀(A:aj)(outer:List Env)(s:ae)(H:Hp)(vs:List V)(Q:VK)(E:XK),dh k (A.deeper (envOfC qual scope s.heap.objs.size f aQ))->sp vs H Q E->∃t,iU (jE CX P w K mg aB N qual scope f aQ A outer s H E) body t/\t (eZ9 Q) (start N vs) H): jG P w K mg aB CX (k+1) f (PySem.W.fnOf name qual params body scope dV kV doc pm an aQ ct) ps sp:=by
 erw[len,λA outer s H args us vs Q E hr e0 hb r jT=>?_];have hl:=len _ _ _ _ jT;have KX:K.In s.heap:=e0.mod.qG.keeps λb o e=>(e0.bs b o e).1;have lim:s.heap.NoLimit:=e0.mod.nolimit.keeps λb o e=>(e0.bs b o e).1;have qN:∀y∈ps.zip us,scope.names.lookup y.1=some .local\/(scope.names.lookup y.1=some .cell/\((cellsFrom (s.heap.objs.size+1) scope.names []).lookup y.1).isSome=true):=λ#[n,v] hy=>by
  rcases S.par n (BF hy).1 with q|q
  ·erw[.inl q]
  ·erw[.inr #[q,PySem.W.cellsFrom_some _ _ _ (.inl q)]]
 erw[codeAny_call_function hr.depth (KX _ _ lk) Z S.co S.gen Z (PySem.W.codeRec_of KX iR) (hb _ _ _ _ ?_)];erw[wpAny_newFunctionEnv_cells S.kind qN λenv he s1 x=>?_];subst he;erw[lim.keeps x.toInCall.keep,codeAny_func ?_];let(t,ht,hq):=ji A outer s H vs Q E (hr.deeper _) jT;have I:Inv (jE CX P w K mg aB N qual scope f aQ A outer s H E) [] (start N vs) H s1:=Ut S hr.hd e0 hl r x;erw[kI (ht [] s1 (start N vs) H _ I hq) (λfl s' hs=>?_) λe s' hs=>hs];have fin:∀{σ':St}{H':Hp}{v:V}{u:Value},Inv (jE CX P w K mg aB N qual scope f aQ A outer s H E) [] σ' H' s'->RelV v u->Q v H'->CE outer P w H s Q u s':=λ{σ' H' v u} J rv q=>#[v,H',J.os,J.bare,J.aB,J.bB,rv,q];cases fl with |ret u=>let(v,σ',H',J,rv,q):=hs;erw[fin J rv q] |next=>let(σ',H',J,q):=hs;erw[fin (v:=V.bF) (u:=Value.none) J Z q] |brk=>let(_,_,_,q):=hs;erw[False.elim q] |cont=>let(_,_,_,q):=hs;erw[False.elim q]
section
variable {X:Cx}{x:Str}{p pos:Pos}{e:Expr}{es:List Expr}{t:TA}{id T:String}{r:List V->Hp->VK->Prop}
def Cb(r:List V->Hp->VK->Prop)(t:TA):TE:=λO H Q=>t O H λvs H1=>r vs H1 Q
theorem eG(hc:gb X (.builtin id) r)(hg:Gl X x)(hm:X.mg x=none)(hv:bootBuiltins x=some (.builtin id))(ha:PA X (e::es) t)(hn:autoParam (x≠"__name__") q8_._auto_1)(jW:autoParam ((x==("__debug__":Str))=false) q8_._auto_1) (he:autoParam (starEach (e::es) X.env=(false,eval e X.env)::starEach es X.env) r8_._auto_1)(gY:autoParam ((backTo pos (starEach es X.env)).any (·.1)=false) r8_._auto_1):PE X (.Call (.Name x p) (e::es) [] pos) (Cb r t):=by intro ay s O H Q I h;erw[BB (qF I hg hm hv ?_ hn jW)];erw[PyProof.Rows.callWith_builtin1 (bw (ha pos ay s O H _ I h) λus s1 #[vs,H1,I1,r1,q1]=>hc ay s1 O H1 vs us Q I1 r1 q1) he gY]
theorem j8(hc:gb X (.type T) r)(hg:Gl X x)(hm:X.mg x=none)(hv:bootBuiltins x=some (.type T))(ha:PA X (e::es) t)(hn:autoParam (x≠"__name__") q8_._auto_1)(jW:autoParam ((x==("__debug__":Str))=false) q8_._auto_1) (he:autoParam (starEach (e::es) X.env=(false,eval e X.env)::starEach es X.env) r8_._auto_1)(gY:autoParam ((backTo pos (starEach es X.env)).any (·.1)=false) r8_._auto_1):PE X (.Call (.Name x p) (e::es) [] pos) (Cb r t):=by intro ay s O H Q I h;erw[BB (qF I hg hm hv ?_ hn jW)];erw[zl (bw (ha pos ay s O H _ I h) λus s1 #[vs,H1,I1,r1,q1]=>hc ay s1 O H1 vs us Q I1 r1 q1) he gY]
end
end _L
namespace _H
open PySem PyProof.Rows
section
open PySem.SeqAt
open PySem.AutoSeq1 (wpAny_loadPart')
open PySem.MeetsSeq PySem.MeetsSeq2 PySem.MeetsSeq3
end
section
variable {prog:ah}{w:World}{A:aj}{E:Value->ae->Prop}{s:ae}
def cN(n d:Nat):Option Int->Nat |none=>d |some v=>if v<0 then(v+(n:Int)).toNat else min v.toNat n
theorem a0B(n d:Nat):cN n d none=d:=rfl
theorem Rh(n d k:Nat):cN n d (some (k:Int))=min k n:=by show(if(k:Int)<0 then((k:Int)+(n:Int)).toNat else min (k:Int).toNat n)=min k n;rw[bI aw,Y9]
theorem a0C(n d:Nat)(hd:d<=n)(o:Option Int):cN n d o<=n:=by cases o with |none=>erw[hd] |some v=>
 show(if v<0 then(v+(n:Int)).toNat else min v.toNat n)<=n;by_cases hv:v<0
 ·rw[bE hv];lia
 ·rw[bI hv];erw[Nat.min_le_right _ _]
theorem WN(v:Int)(n d:Nat):(if v<0 then max (v+(n:Int)) 0 else min v (n:Int))=((cN n d (some v):Nat):Int):=by
 show(if v<0 then max (v+(n:Int)) 0 else min v (n:Int))=(((if v<0 then(v+(n:Int)).toNat else min v.toNat n):Nat):Int);by_cases hv:v<0
 ·simp only[bE hv];lia
 ·simp only[bI hv];lia
theorem acY(lo hi:Option Int)(n:Nat):Builtin.Slice.sliceAdjust lo hi 1 (n:Int)=(((cN n 0 lo:Nat):Int),((cN n n hi:Nat):Int)):=by
 have h1:¬((1:Int)<0):=by lia
 unfold Builtin.Slice.sliceAdjust;simp only[h1,if_false];erw[Prod.ext ?_ ?_]
 ·cases lo with |none=>rfl |some v=>erw[WN v n 0]
 ·cases hi with |none=>rfl |some v=>erw[WN v n n]
theorem a28(i j:Nat):Builtin.Slice.slicePlaces (i:Int) (j:Int) 1=j-i:=by
 unfold Builtin.Slice.slicePlaces;have h1:(1:Int)>0:=by lia
 simp only[h1,wQ,Int.ediv_one];split<;>lia
theorem Pq{v:Value}{o:Option Int}{Q:Option Int->ae->Prop}(p:IsPart v o)(h:Q o s):wpAny (model prog w) A (Builtin.Slice.slicePartIndex v) Q E s:=by cases p with |none=>erw[slicePart_none h] |int i t=>erw[slicePart_int h]
theorem a0b{sl:Addr}{vl vu:Value}{lo hi:Option Int}{n:Nat}{Q:Int×Int×Nat->ae->Prop}(hs:s.heap.IsSliceOf sl vl vu .none)(pl:IsPart vl lo)(pu:IsPart vu hi) (h:Q (((cN n 0 lo:Nat):Int),1,cN n n hi-cN n 0 lo) s):wpAny (model prog w) A (Builtin.Slice.sliceApplied (.ref sl) (pure (n:Int))) Q E s:=by let(os,kB,E8,tY):=id hs;unfold Builtin.Slice.sliceApplied Builtin.Slice.sliceFields;erw[aW (aW (kg kB tY (x:=vl) Z (aW (kg kB tY (x:=vu) Z (aW (kg kB tY (x:=.none) Z (cI ?_)))))))];erw[aW (slicePart_none ?_)];show wpAny _ _ (if((1:Int)==0)=true then _ else _) _ _ s;rw[bI aD];erw[aW (Pq pl (aW (Pq pu (aW (cI ?_)))))];show wpAny _ _ (match Builtin.Slice.sliceAdjust lo hi 1 (n:Int)with|(lo,hi)=>pure (lo,(1:Int),Builtin.Slice.slicePlaces lo hi 1)) _ _ s;rw[acY lo hi n];show wpAny _ _ (pure (((cN n 0 lo:Nat):Int),(1:Int),Builtin.Slice.slicePlaces ((cN n 0 lo:Nat):Int) ((cN n n hi:Nat):Int) 1)) _ _ s;rw[a28];erw[cI h]
theorem a2e(xs:Array Value)(i k:Nat):((List.range k).filterMap λ(m:Nat)=>xs[((i:Int)+(m:Int)*1).toNat]?).toArray=((xs.toList.drop i).take k).toArray:=by
 have e:(λ(m:Nat)=>xs[((i:Int)+(m:Int)*1).toNat]?)=λm=>xs[i+m]?:=by
  funext m;have:((i:Int)+(m:Int)*1).toNat=i+m:=by lia
  rw[this]
 rw[e];have:=pick_run xs i k;rw[List.filterMap_map]at this;have e2:((λx=>xs[x]?)∘λx=>i+x)=λm=>xs[i+m]?:=rfl;rw[e2]at this;rw[this]
theorem a9g{t sl:Addr}{items:Array Value}{vl vu:Value}{lo hi:Option Int}{Q:Value->ae->Prop}(ht:IsTup s.heap t items)(hs:s.heap.IsSliceOf sl vl vu .none)(pl:IsPart vl lo)(pu:IsPart vu hi) (hw:¬(cN items.size 0 lo=0/\cN items.size items.size hi=items.size)) (h:Q (.ref s.heap.objs.size) {s with heap:=s.heap.push {cls:=.type "tuple",data:=.seq ((items.toList.drop (cN items.size 0 lo)).take (cN items.size items.size hi-cN items.size 0 lo)).toArray}}) (hsz:items.size<=sizeLine):wpAny (model prog w) A (getItem (.ref t) (.ref sl)) Q E s:=by
 have DN:sizeOk (.seq ((items.toList.drop (cN items.size 0 lo)).take (cN items.size items.size hi-cN items.size 0 lo)).toArray):=by show((items.toList.drop (cN items.size 0 lo)).take (cN items.size items.size hi-cN items.size 0 lo)).toArray.size<=sizeLine;rw[fC,pU,NK,BN];omega
 have hj:cN items.size items.size hi<=items.size:=a0C _ _ (ck _) hi;let(os,kB,E8,tY):=id hs;have Ea:s.TypeIs (.ref sl) "slice":=#[os,kB,E8];unfold getItem
 try with_reducible erw[wO ?_]
 first|erw[aW (cI ?_)]|skip
 erw[aW (wpAny_sequenceKey ht.typeIs aD ?_)];erw[aW (Fp (name:=Str.ofString "__getitem__") ht.typeIs XX (Fo XX ht.typeIs entry_tuple_getitem ?_ (args_tuple_getitem _ _)))];show wpAny _ _ (Builtin.Tuple.tupleItemsOf (.ref t)>>=_) _ _ s;erw[aW (tupleItemsOf_ ht ?_)];erw[aW (wpAny_typeOf Ea ?_)];rw[bE aD];erw[aW (a0b hs pl pu ?_)];have mr:¬((((cN items.size 0 lo:Nat):Int)==0&&(1:Int)==1&&(cN items.size items.size hi-cN items.size 0 lo)==items.size)=true):=by intro q;rw[fD,fD]at q;have q1:((cN items.size 0 lo:Nat):Int)=0:=eq_of_beq q.1.1;have q2:cN items.size items.size hi-cN items.size 0 lo=items.size:=eq_of_beq q.2;erw[hw #[fH,fH]]
 show wpAny _ _ (if(((cN items.size 0 lo:Nat):Int)==0&&(1:Int)==1&&(cN items.size items.size hi-cN items.size 0 lo)==items.size)=true then _ else _) _ _ s;rw[bI mr,a2e]
 first |erw[aW (m:=Builtin.Tuple.tupleExact _) (rW (cI #[_,Z,cI h]) DN)] |erw[aW (m:=Builtin.Tuple.tupleExact _) (rW (aW (cI (cI #[_,Z,cI h]))) DN)] |erw[aW (aW (m:=Builtin.Tuple.tupleExact _) (rW (cI (cI #[_,Z,cI h])) DN))] |erw[aW (aW (m:=Builtin.Tuple.tupleExact _) (rW (cI #[_,Z,cI h]) DN))]
end
end _H
namespace _L
open PySem PySem.Spec PyProof.Rows
abbrev TO:=St->Hp->(Option Int->Hp->Prop)->Prop
def PO(X:Cx)(e:Option Expr)(t:TO):Prop:=∀(ay:List (Addr×Obj))(s:ae)(O:St)(H:Hp)(Q:Option Int->Hp->Prop),Inv X ay O H s->t O H Q->wpAny (model X.prog X.w) X.A (evalPart e X.env) (λu s'=>∃o H',Inv X ay O H' s'/\IsPart u o/\Q o H') X.xe s
def Zo:TO:=λ_ H Q=>Q none H
inductive ads(Q:Option Int->Hp->Prop)(x:V)(H1:Hp):Prop |mk (i:_)(h0:x= .int i)(h1:Q (some i) H1)
def Zi(t:TE):TO:=λO H Q=>t O H λx H1=>ads Q x H1
section
variable {X:Cx}{e:Expr}{te:TE}{lo hi:Option Expr}{tl th:TO}{pos p2:Pos}
theorem Jv:PO X none Zo:=by intro ay s O H Q I h;rw[evalPart_none];erw[cI #[none,H,I,.none,h]]
theorem Ju(h:PE X e te):PO X (some e) (Zi te):=by intro ay s O H Q I hw;rw[evalPart_some];erw[bw (h ay s O H _ I hw) λu s1 #[x,H1,I1,r1,q1]=>?_];let(i,rfl,q):=q1;let(t,rfl):=r1;erw[some i,H1,I1,.int i t,q]
def Fb(X:Cx)(r:V->Option Int->Option Int->Hp->VK->Prop):Prop:=∀(ay:List (Addr×Obj))(s:ae)(O:St)(H:Hp)(x:V)(v vl vu:Value)(lo hi:Option Int)(sl:Addr)(Q:VK),Inv X ay O H s->RelV x v->s.heap.IsSliceOf sl vl vu .none->IsPart vl lo->IsPart vu hi->r x lo hi H Q->∃T id,typeLookup (.type T) "__getitem__"=pure (some (.builtin id))/\s.TypeIs v T/\wpAny (model X.prog X.w) X.A (getItem v (.ref sl)) (EP X ay O Q) X.xe s
def Zf(r:V->Option Int->Option Int->Hp->VK->Prop)(te:TE)(tl th:TO):TE:=λO H Q=>te O H λx H1=>tl O H1 λl H2=>th O H2 λu H3=>r x l u H3 Q
theorem Jz(hr:Fb X r)(he:PE X e te)(hl:PO X lo tl)(hu:PO X hi th):PE X (.Subscript e (.Slice lo hi none p2) pos) (Zf r te tl th):=by intro ay s O H Q I h;erw[Subscript_ (bw (he ay s O H _ I h) λv s1 #[x,H1,I1,r1,q1]=>?_)];erw[wpAny_Slice (bw (hl ay s1 O H1 _ I1 q1) λvl s2 #[l,H2,I2,pl,q2]=>bw (hu ay s2 O H2 _ I2 q2) λvu s3 #[u,H3,I3,pu,q3]=>?_)];rw[evalPart_none];erw[cI ?_];have I4:Inv X ay O H3 {s3 with heap:=s3.heap.push {cls:=.type "slice",data:=.fields (List.toArray [vl,vu,.none])}}:=I3.kept (t':=s3.toks) λb ob q=>cW _ q;let(T,id,hT,ht,hg):=hr ay {s3 with heap:=s3.heap.push {cls:=.type "slice",data:=.fields (List.toArray [vl,vu,.none])}} O H3 x v vl vu l u s3.heap.objs.size Q I4 r1 (Heap.IsSliceOf.new ..) pl pu q3;show wpAny (model X.prog X.w) X.A (subscriptTail e (.Slice lo hi none p2) v (.ref s3.heap.objs.size)) (EP X ay O Q) X.xe {s3 with heap:=s3.heap.push {cls:=.type "slice",data:=.fields (List.toArray [vl,vu,.none])}};erw[tail_any (ops:=[.ref s3.heap.objs.size,v]) ht hT hg (by with_unfolding_all rfl)]
def nZ(xs:List V)(lo hi:Option Int):List V:=(xs.drop (_H.cN xs.length 0 lo)).take (_H.cN xs.length xs.length hi-_H.cN xs.length 0 lo)
theorem Wz(xs:List V)(lo hi:Option Int):(nZ xs lo hi).length<=xs.length:=by
 unfold nZ;rw[pU,NK]
 lia
inductive aeN(K:aa)(x:V)(lo:Option Int)(hi:Option Int)(H:Hp)(Q:VK):Prop |mk (a:_)(xs:_)(h0:x= .ref a)(h1:aV K H a xs)(h2:¬(_H.cN xs.length 0 lo=0/\_H.cN xs.length xs.length hi=xs.length))(h3:∀p,H p=none->Q (.ref p) (upd H p (.tup (nZ xs lo hi))))
def a1H(K:aa):V->Option Int->Option Int->Hp->VK->Prop:=λx lo hi H Q=>aeN K x lo hi H Q
theorem a0c:Fb X (a1H X.K):=by
 intro ay s O H x v vl vu lo hi sl Q I rx hs pl pu h;let(a,xs,rfl,hx,hw,q):=h;cases rx;let(its,r,ht,hz):=I.tuple hx;have hlen:its.toArray.size=xs.length:=by rw[fC];erw[r.length.symm]
 erw["tuple",_,XX.lookup,ht.typeIs,?_];erw[_H.a9g ht hs pl pu (by rw[hlen];erw[hw]) ?_ (by rw[hlen];erw[hz])];rw[hlen];erw[.ref s.heap.objs.size,_,I.laid (t':=s.toks) (o:=.tup (nZ xs lo hi)) (λb ob q=>cW _ q) (ck _) ?_,Z,q _ (I.bB.fresh (ck _))];erw[iK (Wz xs lo hi) hz,_,(r.drop (_H.cN xs.length 0 lo)).take (_H.cN xs.length xs.length hi-_H.cN xs.length 0 lo),IsTup.new _ _]
end
def kz(n:Nat)(i:Int):Option Nat:=if 0<=i then(if i<n then some i.toNat else none)else if-(n:Int)<=i then some (i+n).toNat else none
def fW{α:Type}(xs:List α)(i:Int):Option α:=(kz xs.length i).bind λj=>xs[j]?
theorem Um(h:kz n i=some j):seqIndex? i n=some j/\j<n/\-(n:Int)<=i/\i<n:=by
 unfold kz at h;by_cases h0:0<=i
 ·rw[bE h0]at h
  by_cases h1:i<n
  ·rw[bE h1]at h
   have e:i.toNat=j:=fe h;erw[by rw[seqIndex_of h0 h1,e],aw,aw,h1]
  ·rw[bI h1]at h;cases h
 ·rw[bI h0]at h
  by_cases h1:-(n:Int)<=i
  ·rw[bE h1]at h
   have e:(i+n).toNat=j:=fe h;erw[by rw[seqIndex_neg aw h1,e],aw,h1,aw]
  ·rw[bI h1]at h;cases h
theorem MW{v:α}(h:fW xs i=some v):∃j,seqIndex? i xs.length=some j/\xs[j]? =some v/\j<xs.length/\-(xs.length:Int)<=i/\i<xs.length:=by unfold fW at h;cases e:kz xs.length i with |none=>rw[e]at h;cases h |some j=>rw[e]at h;let(h1,h2,h3,h4):=Um e;erw[j,h1,h,h2,h3,h4]
theorem acP{xs:List α}{j:Nat}{v:α}(h:xs[j]? =some v):fW xs (j:Int)=some v:=by
 have hj:j<xs.length:=(eQ.mp h).1;have e:kz xs.length (j:Int)=some j:=by unfold kz;rw[bE aw,bE aw];simp
 unfold fW;rw[e];erw[h]
def Xx(b:Expr):Prop:=∀o i,subscripted b false o i=operate [o,i] (getItem o i)
def rS(X:Cx)(r:R2):Prop:=∀(value slice:Expr)(ay:List (Addr×Obj))(s:ae)(O:St)(H:Hp)(x y:V)(v u:Value)(Q:VK),Inv X ay O H s->RelV x v->RelV y u->r x y H Q->subscripted slice false v u=operate [v,u] (getItem v u)->wpAny (model X.prog X.w) X.A (subscriptTail value slice v u) (EP X ay O Q) X.xe s
def Bn(X:Cx)(id:String)(r:V->List V->Hp->VK->Prop):Prop:=∀(ay:List (Addr×Obj))(s:ae)(O:St)(H:Hp)(x:V)(xs:List V)(v:Value)(us:List Value)(Q:VK),Inv X ay O H s->RelV x v->Vals xs us->r x xs H Q->wpAny (model X.prog X.w) X.A (call (.builtin id) (v::us)) (EP X ay O Q) X.xe s
section
variable {X:Cx}{a b:Expr}{ta tb:TE}{pos:Pos}
theorem rS.or(h:rS X r)(h':rS X r'):rS X (λx y H Q=>r x y H Q\/r' x y H Q):=by
 intro value slice ay s O H x y v u Q I rx ry q hs;rcases q with q|q
 ·erw[h value slice ay s O H x y v u Q I rx ry q hs]
 ·erw[h' value slice ay s O H x y v u Q I rx ry q hs]
theorem Sl(hr:rS X r)(ha:PE X a ta)(hb:PE X b tb)(hs:Xx b):PE X (.Subscript a b pos) (sJ r ta tb):=by intro ay s O H Q I h;erw[Subscript_ (MR ha hb I h λv u s2 x y H2 I2 rx ry q=>hr a b ay s2 O H2 x y v u Q I2 rx ry q (hs _ _))]
inductive aeX(K:aa)(x:V)(y:V)(H:Hp)(Q:VK):Prop |mk (p:_)(xs:_)(i:_)(v:_)(h0:x= .ref p)(h1:y= .int i)(h2:aK K H p xs)(h3:fW xs i=some v)(h4:Q v H)
def Jk(K:aa):R2:=λx y H Q=>aeX K x y H Q
inductive aeV(K:aa)(x:V)(y:V)(H:Hp)(Q:VK):Prop |mk (p:_)(xs:_)(i:_)(v:_)(h0:x= .ref p)(h1:y= .int i)(h2:aV K H p xs)(h3:fW xs i=some v)(h4:Q v H)
def Jj(K:aa):R2:=λx y H Q=>aeV K x y H Q
inductive aeW(x:V)(y:V)(H:Hp)(Q:VK):Prop |mk (z:_)(i:_)(c:_)(h0:x= .str z)(h1:y= .int i)(h2:z.length<=sizeLine)(h3:fW z.cps.toList i=some c)(h4:Q (.str ⟨#[c]⟩) H)
def a1N:R2:=λx y H Q=>aeW x y H Q
theorem a6m:rS X (Jk X.K):=by
 intro value slice ay s O H x y v u Q I rx ry h hs;let(p,xs,i,z,rfl,rfl,hq,he,q):=h;cases rx;let(t,rfl):=ry;let(its,r,pl,hz):=I.list hq;let(j,h1,h2,h3,h4,h5):=MW he;let(w,ew,jN):=r.get h2;have hl:=r.length;have hn:=vx;have fin:EP X ay O Q w s:=#[z,H,I,jN,q];by_cases h0:0<=i
 ·have hj:i.toNat=j:=by rw[seqIndex_of h0 h5]at h1;erw[fe h1]
  erw[item_listR pl.isList h0 aw (by rw[hj];simpa using ew) fin hs]
 ·have hj:(i+(its.toArray.size:Int)).toNat=j:=by rw[seqIndex_neg aw h4]at h1;rw[fC,<-hl];erw[fe h1]
  erw[subscriptTail_builtinR (x:=w) pl.isList.typeIs slot_list_getitem.lookup (wpAny_getItem_list_neg (Q:=λr s'=>r=w/\EP X ay O Q r s') pl.isList aw (by rw[fC]<;>lia) aw (by rw[hj];simpa using ew) #[Z,fin]) hs]
theorem a6k:rS X (Jj X.K):=by intro value slice ay s O H x y v u Q I rx ry h hs;let(p,xs,i,z,rfl,rfl,hq,he,q):=h;cases rx;let(t,rfl):=ry;let(its,r,pl,hz):=I.tuple hq;let(j,h1,h2,h3,h4,h5):=MW he;let(w,ew,jN):=r.get h2;have hl:=r.length;have hn:=vx;have fin:EP X ay O Q w s:=#[z,H,I,jN,q];erw[subscriptTail_builtinR (x:=w) pl.typeIs slot_tuple_getitem.lookup (getItem_tuple (j:=j) (Q:=λr s'=>r=w/\EP X ay O Q r s') pl aw aw (by rw[fC,<-hl];erw[h1]) (by simpa using ew) #[Z,fin]) hs]
theorem a6l:rS X a1N:=by
 intro value slice ay s O H x y v u Q I rx ry h hs;let(z,i,c,rfl,rfl,hz,he,q):=h;let(t,rfl):=rx;let(t',rfl):=ry;let(j,h1,h2,h3,h4,h5):=MW he;have hl:z.cps.toList.length=z.length:=by simp[Str.length]
 rw[hl]at h1 h4 h5;have hn:=vx;erw[tail_any (typeIs_str s z t) slot_str_getitem.lookup (getItem_str (c:=c) (by have e1:decide (i< -(2^63:Int))=false:=fo aw;have e2:decide (i>=2^63)=false:=fo aw;rw[e1,e2,Bool.or_false]) (by rw[h1];simpa using h2) #[.str ⟨#[c]⟩,H,I.tok _,#[_,Z],q]) hs]
theorem a5e(its:List Value)(n j:Nat)(u:Value):Obj.mapSeq (·.setIfInBounds j u) {cls:=.type "list",data:=.seq its.toArray n}={cls:=.type "list",data:=.seq (its.set j u).toArray n}:=by simp[Obj.mapSeq]
theorem Inv.lst{ay:List (Addr×Obj)}{O:St}{H:Hp}{s:ae}{p:Addr}{xs:List V}(I:Inv X ay O H s)(h:H p=some (.lst xs)): ∃(its:List Value)(n:Nat),Vals xs its/\s.heap.get? p=some {cls:=.type "list",data:=.seq its.toArray n}/\xs.length<=sizeLine:=by let(z,its,n,r,e):=I.bB p _ h;erw[its,n,r,e,z]
theorem Inv.a5F{ay:List (Addr×Obj)}{O:St}{H:Hp}{s:ae}{p:Addr}{xs ys:List V}{its its':List Value}{n n':Nat}{f:Obj->Obj}(I:Inv X ay O H s)(h:H p=some (.lst xs)) (ho:s.heap.get? p=some {cls:=.type "list",data:=.seq its.toArray n})(hf:f {cls:=.type "list",data:=.seq its.toArray n}={cls:=.type "list",data:=.seq its'.toArray n'})(r:Vals ys its')(hz:ys.length<=sizeLine)(t:Nat): Inv X ay O (upd H p (.lst ys)) {s with heap:=s.heap.update p f,toks:=t}:=by
 have e:(s.heap.update p f).get? p=some {cls:=.type "list",data:=.seq its'.toArray n'}:=by rw[NR f ho (by rw[hf]<;>rfl),hf]
 erw[I.write (x:=p) (e:=p) (by rw[h];trivial) (.inl Z) (λb u hb q=>(BM _ _ (dy hb)).trans q) #[_,e] ?_];erw[hz,its',n',r,e]
inductive aeQ(o:V)(i:V)(v:V)(H:Hp)(Q:Hp->Prop):Prop |mk (p:_)(xs:_)(k:_)(j:_)(h0:o= .ref p)(h1:i= .int k)(h2:H p=some (.lst xs))(h3:kz xs.length k=some j)(h4:Q (upd H p (.lst (xs.set j v))))
def a1K:V->V->V->Hp->(Hp->Prop)->Prop:=λo i v H Q=>aeQ o i v H Q
theorem set_list:N6 X a1K:=by
 intro ay s O H o i v ov iv u Q I ro ri rv h;let(p,xs,k,j,rfl,rfl,hp,hj,q):=h;cases ro;let(t,rfl):=ri;let(its,n,r,ho,hz):=I.lst hp;let(h1,h2,h3,h4):=Um hj;have hl:=r.length;have hn:=vx;have I':Inv X ay O (upd H p (.lst (xs.set j v))) {s with heap:=s.heap.update p (Obj.mapSeq (·.setIfInBounds j u))}:=I.a5F hp ho (a5e its n j u) (r.set rv j) (by rw[wX];erw[hz]) s.toks;by_cases h0:0<=k
 ·have hk:k.toNat=j:=by rw[seqIndex_of h0 h4]at h1;erw[fe h1]
  erw[PySem.W.ki_setAt ho h0 aw (by rw[fC,<-hl];erw[h4]) (by rw[hk];erw[_,I',q])]
 ·have hk:(k+(its.toArray.size:Int)).toNat=j:=by rw[seqIndex_neg aw h3]at h1;rw[fC,<-hl];erw[fe h1]
  erw[PySem.W.ki_setBack ho aw (by rw[fC,<-hl];erw[h3]) aw (by rw[hk];erw[_,I',q])]
theorem a09(lo hi:Option Int)(n:Nat):(sliceBounds lo hi none n).1=((_H.cN n 0 lo:Nat):Int)/\(sliceBounds lo hi none n).2.1=((_H.cN n n hi:Nat):Int)/\(sliceBounds lo hi none n).2.2=1:=by
 erw[?_,?_,Z]
 ·cases lo with |none=>simp[sliceBounds,_H.cN] |some i=>
  simp only[sliceBounds,_H.cN,Option.getD_none,show(1:Int)>0 by decide,wQ];by_cases h:i<0
  ·simp only[h,wQ]<;>lia
  ·simp only[h,if_false]<;>lia
 ·cases hi with |none=>simp[sliceBounds,_H.cN] |some i=>
  simp only[sliceBounds,_H.cN,Option.getD_none,show(1:Int)>0 by decide,wQ];by_cases h:i<0
  ·simp only[h,wQ]<;>lia
  ·simp only[h,if_false]<;>lia
theorem a0a(its:List Value)(lo hi:Option Int):slicePick its.toArray lo hi none=((its.drop (_H.cN its.length 0 lo)).take (_H.cN its.length its.length hi-_H.cN its.length 0 lo)).toArray:=by let(h1,h2,h3):=a09 lo hi its.toArray.size;unfold slicePick;rw[h1,h2,h3];simp only[sliceRange_one,pick_run,fC]<;>rfl
inductive aeO(K:aa)(x:V)(lo:Option Int)(hi:Option Int)(H:Hp)(Q:VK):Prop |mk (a:_)(xs:_)(h0:x= .ref a)(h1:aK K H a xs)(h2:∀p,H p=none->Q (.ref p) (upd H p (.lst (nZ xs lo hi))))
def a1I(K:aa):V->Option Int->Option Int->Hp->VK->Prop:=λx lo hi H Q=>aeO K x lo hi H Q
theorem a0d:Fb X (a1I X.K):=by intro ay s O H x v vl vu lo hi sl Q I rx hs pl pu h;let(a,xs,rfl,hx,q):=h;cases rx;let(its,r,ht,hz):=I.list hx;have hlen:=r.length;erw["list",_,slot_list_getitem.lookup,ht.isList.typeIs,?_];erw[wpAny_getItem_list_slice ht.isList hs pl pu .none (by simp) ?_ (by rw[fC]<;>lia)];rw[a0a,<-hlen];erw[.ref s.heap.objs.size,_,I.laid (t':=s.toks) (o:=.lst (nZ xs lo hi)) (λb ob q=>cW _ q) (ck _) ?_,Z,q _ (I.bB.fresh (ck _))];erw[iK (Wz xs lo hi) hz,_,0,(r.drop (_H.cN xs.length 0 lo)).take (_H.cN xs.length xs.length hi-_H.cN xs.length 0 lo),fO _ Z]
def ub:V->Bool | .bF=>true | .bl _=>true | .int _=>true | .str _=>true |_=>false
def ug:V->V->Bool | .bF,.bF=>true | .bl a,.bl b=>a==b | .bl a,.int b=>(if a then 1 else 0)==b | .int a,.bl b=>a==(if b then 1 else 0) | .int a,.int b=>a==b | .str a,.str b=>a==b |_,_=>false
theorem ab2{A:aj}{s:ae}{y x:V}{u v:Value}(ry:RelV y u)(rx:RelV x v)(fy:ub y=true)(fx:ub x=true):SeqAt.EqAt A s u v (ug y x):=by cases y with
 |bF=>cases ry;cases x with |bF=>cases rx;erw[SeqAt.EqAt.same _] |bl b=>cases rx;erw[SeqAt.EqAt.none_bool b] |int b=>let(t,rfl):=rx;erw[SeqAt.EqAt.none_int b t] |str b=>let(t,rfl):=rx;erw[SeqAt.EqAt.none_str b t] |_=>erw[absurd (show false=true from fx) iV]
 |bl a=>cases ry;cases x with |bF=>cases rx;erw[SeqAt.EqAt.bool_none a] |bl b=>cases rx;erw[SeqAt.EqAt.bool_bool a b] |int b=>let(t,rfl):=rx;erw[SeqAt.EqAt.bool_int a b t] |str b=>let(t,rfl):=rx;erw[SeqAt.EqAt.bool_str a b t] |_=>erw[absurd (show false=true from fx) iV]
 |int a=>let(t',rfl):=ry;cases x with |bF=>cases rx;erw[SeqAt.EqAt.int_none a t'] |bl b=>cases rx;erw[SeqAt.EqAt.int_bool a t' b] |int b=>let(t,rfl):=rx;erw[SeqAt.EqAt.int_int a t' b t] |str b=>let(t,rfl):=rx;erw[SeqAt.EqAt.int_str a t' b t] |_=>erw[absurd (show false=true from fx) iV]
 |str a=>let(t',rfl):=ry;cases x with |bF=>cases rx;erw[SeqAt.EqAt.str_none a t'] |bl b=>cases rx;erw[SeqAt.EqAt.str_bool a t' b] |int b=>let(t,rfl):=rx;erw[SeqAt.EqAt.str_int a t' b t] |str b=>let(t,rfl):=rx;erw[SeqAt.EqAt.str_str a t' b t] |_=>erw[absurd (show false=true from fx) iV]
 |_=>erw[absurd (show false=true from fy) iV]
def mZ(x:V)(u:Value):Bool:=match u with | .none=>ug .bF x | .bool b=>ug (.bl b) x | .int i _=>ug (.int i) x | .str z _=>ug (.str z) x |_=>false
theorem VX(r:RelV y u)(f:ub y=true):mZ x u=ug y x:=by cases y with |bF=>cases r;rfl |bl b=>cases r;rfl |int i=>let(t,rfl):=r;rfl |str z=>let(t,rfl):=r;rfl |_=>erw[absurd (show false=true from f) iV]
theorem MZ{x:V}:∀{xs:List V}{us:List Value},Vals xs us->xs.all ub=true->us.any (mZ x)=xs.any λy=>ug y x |_,_,.nil,_=>rfl |y::xs,u::us,.cons r t,f=>by rw[BK,fD]at f;rw[sy,sy,VX r f.1,MZ t f.2]
theorem K6{A:aj}{s:ae}{x:V}{v:Value}(rx:RelV x v)(fx:ub x=true):∀{xs:List V}{us:List Value},Vals xs us->xs.all ub=true->∀u∈us,SeqAt.EqAt A s u v (mZ x u)
 |_,_,.nil,_=>λu hu=>by cases hu |y::xs,u::us,.cons r t,f=>λu' hu=>by
  rw[BK,fD]at f;rcases bJ.mp hu with rfl|hu
  ·rw[VX r f.1];erw[ab2 r rx f.1 fx]
  ·erw[K6 rx fx t f.2 u' hu]
def Ux(x:V)(xs:List V):Bool:=xs.any λy=>ug y x
inductive af3(K:aa)(neg:Bool)(x:V)(y:V)(H:Hp)(Q:VK):Prop |mk (p:_)(xs:_)(h0:y= .ref p)(h1:(aK K H p xs\/aV K H p xs))(h2:ub x=true)(h3:xs.all ub=true)(h4:Q (.bl (if neg then !Ux x xs else Ux x xs)) H)
def S5(K:aa)(neg:Bool):R2:=λx y H Q=>af3 K neg x y H Q
theorem a2O:dU X (compareOp .In) (S5 X.K false):=by
 intro ay s O H x y v u Q I rx ry h;let(p,xs,rfl,hq,fx,fs,q):=h;cases ry;rcases hq with hq|hq
 ·let(its,r,pl,hz):=I.list hq
  erw[SeqAt.in_listAt (mZ x) pl.isList (λw hw=>K6 rx fx r fs w (by simpa using hw)) #[.bl _,H,I,Z,?_]];rw[show its.toArray.any (mZ x)=its.any (mZ x) by simp,MZ r fs];erw[q]
 ·let(its,r,pl,hz):=I.tuple hq
  erw[SeqAt.in_tupleAt (mZ x) pl (λw hw=>K6 rx fx r fs w (by simpa using hw)) #[.bl _,H,I,Z,?_]];rw[show its.toArray.any (mZ x)=its.any (mZ x) by simp,MZ r fs];erw[q]
theorem ace:gb X (.builtin "len") (λxs H Q=>∃p ys,xs=[.ref p]/\(aK X.K H p ys\/aV X.K H p ys)/\Q (.int ys.length) H):=by
 intro ay s O H xs us Q I r h;let(p,ys,rfl,hq,q):=h;let(u,rfl,rx):=vals1 r;cases rx;have hn:=vx;rcases hq with hq|hq
 ·let(its,r',pl,hz):=I.list hq
  have hlen:=r'.length;erw[Calls.call_len_list pl.isList (by simp only[fC]<;>lia) #[.int ys.length,H,I.tok _,#[s.toks+1,by rw[fC,hlen]],q]]
 ·let(its,r',pl,hz):=I.tuple hq
  have hlen:=r'.length;erw[len_tuple pl (by simp only[fC]<;>lia) #[.int ys.length,H,I.tok _,#[s.toks+1,by rw[fC,hlen]],q]]
theorem acd:gb X (.builtin "len") (λxs H Q=>∃z,xs=[.str z]/\z.length<=sizeLine/\Q (.int z.length) H):=by intro ay s O H xs us Q I r h;let(z,rfl,hz,q):=h;let(u,rfl,t,rfl):=vals1 r;have hn:=vx;erw[len_str aw #[.int z.length,H,I.tok _,#[_,Z],q]]
theorem gb.or(h:gb X f r)(h':gb X f r'):gb X f (λxs H Q=>r xs H Q\/r' xs H Q):=by
 intro ay s O H xs us Q I rs q;rcases q with q|q
 ·erw[h ay s O H xs us Q I rs q]
 ·erw[h' ay s O H xs us Q I rs q]
theorem acb:gb X (.type "list") (λxs H Q=>∃p ys,xs=[.ref p]/\(aK X.K H p ys\/aV X.K H p ys)/\∀l,H l=none->Q (.ref l) (upd H l (.lst ys))):=by
 intro ay s O H xs us Q I r h;let(p,ys,rfl,hq,q):=h;let(u,rfl,rx):=vals1 r;cases rx;have fin:∀(its:List Value),Vals ys its->ys.length<=sizeLine->∀(h':Heap)(c':Nat),(∀b o',s.heap.get? b=some o'->h'.get? b=some o')->h'.get? s.heap.objs.size=some {cls:=.type "list",dict:=none,data:=.seq its.toArray c',slots:=#[]}->EP X ay O Q (.ref s.heap.objs.size) {s with heap:=h'}:=λits r' hz h' c' kp e=>#[.ref s.heap.objs.size,_,I.laid (t':=s.toks) kp (ck _) (show gA X.prog X.w _ h' _ (.lst ys)from#[hz,its,c',r',e]),Z,q _ (I.bB.fresh (ck _))];rcases hq with hq|hq
 ·let(its,r',pl,hz):=I.list hq
  have hlen:=r'.length;let(o,ho,hc,n,hd):=pl.isList;erw[call_list_seq p (.inl Z) ho hc hd (λh' c' kp e=>fin its r' hz h' c' kp e) (by simp only[fC]<;>lia)]
 ·let(its,r',pl,hz):=I.tuple hq
  have hlen:=r'.length;let(o,ho,hc,n,hd):=pl;erw[call_list_seq p (.inr Z) ho hc hd (λh' c' kp e=>fin its r' hz h' c' kp e) (by simp only[fC]<;>lia)]
theorem ac6:gb X (.type "tuple") (λxs H Q=>∃p ys,xs=[.ref p]/\((aK X.K H p ys/\∀l,H l=none->Q (.ref l) (upd H l (.tup ys)))\/(aV X.K H p ys/\Q (.ref p) H))):=by
 intro ay s O H xs us Q I r h;let(p,ys,rfl,h):=h;let(u,rfl,rx):=vals1 r;cases rx;rcases h with⟨hq,q⟩|⟨hq,q⟩
 ·let(its,r',pl,hz):=I.list hq
  have hlen:=r'.length;erw[call_tuple_list pl.isList (λh' kp=>?_) (by simp only[fC]<;>lia)];have I1:Inv X ay O H {s with heap:=h'}:=I.kept (t':=s.toks) kp;have I2:Inv X ay O (upd H h'.objs.size (.tup ys)) {s with heap:=h'.push {cls:=.type "tuple",data:=.seq its.toArray}}:=I1.laid (t':=s.toks) (λb o e=>cW _ e) (ck _) (show gA X.prog X.w _ _ _ (.tup ys)from#[hz,its,r',IsTup.new _ _]);erw[.ref h'.objs.size,_,I2,Z,q _ (I1.bB.fresh (ck _))]
 ·let(its,r',pl,hz):=I.tuple hq
  erw[call_tuple_same pl #[.ref p,H,I,Z,q]]
def FX(K:aa)(T:String)(x:V)(H:Hp):Prop:=match x with | .str _=>T="str" | .int _=>T="int" | .ref p=>(T="list"/\∃xs,aK K H p xs)\/(T="tuple"/\∃o,K.lookup p=some o/\o.cls= .type "tuple"/\o.dict=none)\/ (T="dict"/\((∃aU,H p=some (.dK aU))\/∃aU,H p=some (.dT aU)))\/(T="set"/\∃S n,H p=some (.set S n)) |_=>False
theorem Ob{ay:List (Addr×Obj)}{O:St}{H:Hp}{s:ae}{T:String}{x:V}{v:Value}(I:Inv X ay O H s)(r:RelV x v)(ty:FX X.K T x H): s.TypeIs v T/\∀a,v= .ref a->∃ob,s.heap.get? a=some ob/\ob.dict=none:=by cases x with
 |str z=>let(t,rfl):=r;cases(show T="str" from ty);erw[typeIs_str s z t,λ_ e=>nomatch e] |int i=>let(t,rfl):=r;cases(show T="int" from ty);erw[typeIs_int s i t,λ_ e=>nomatch e] |ref p=>
  cases r;rcases ty with⟨rfl,xs,hq⟩|⟨rfl,o,hk,hc,hd⟩|⟨rfl,hk⟩|⟨rfl,S,n,hk⟩
  ·let(its,_,pl,_):=I.list hq
   erw[pl.isList.typeIs,λa e=>?_];cases e;let(o,n,e,c,hd,_):=pl;erw[o,e,hd]
  ·erw[#[o,I.iq p o hk,hc],λa e=>?_]
   cases e;erw[o,I.iq _ o hk,hd]
  ·have z:∃o,s.heap.get? p=some o/\o.ExactDict:=by
    rcases hk with⟨aU,hk⟩|⟨aU,hk⟩
    ·let(_,_,_,_,o,_,_,e,ex,_):=I.bB p _ hk
     erw[o,e,ex]
    ·let(_,_,_,_,o,_,_,e,ex,_):=I.bB p _ hk
     erw[o,e,ex]
   let(o,e,ex):=z;erw[#[o,e,ex.1],λa e2=>?_];cases e2;erw[o,e,ex.2.1]
  ·let(o,_,_,_,e,ex,_):=I.bB p _ hk
   erw[#[o,e,ex.1],λa e2=>?_];cases e2;erw[o,e,ex.2.1] |_=>erw[False.elim ty]
def Oz(K:aa)(T:String)(r:V->List V->Hp->VK->Prop)(to:TE):TE:=λO H Q=>to O H λx H1=>FX K T x H1/\r x [] H1 Q
def uP(K:aa)(T:String)(r:V->List V->Hp->VK->Prop)(to:TE)(t:TA):TE:=λO H Q=>to O H λx H1=>FX K T x H1/\t O H1 λxs H2=>r x xs H2 Q
variable {o e:Expr}{es:List Expr}{to:TE}{t:TA}{name:Str}{apos da:Pos}{T id:String}{r:V->List V->Hp->VK->Prop}
theorem a2v(pa:PlainAttrs T)(slot:Slot T name id)(Aw:typeOf (.builtin id)=pure (.type "method_descriptor"))(hm:Bn X id r)(ho:PE X o to) (jX:autoParam (attributeBase o name X.env (eval o X.env)=eval o X.env) r8_._auto_1)(jV:autoParam ((apos.endLine==da.line)=true) r8_._auto_1):PE X (.Call (.Attribute o name apos) [] [] da) (Oz X.K T r to):=by intro ay s O H Q I h;erw[wpAny_Call_method0_late jX jV (bw (ho ay s O H _ I h) λv s1 #[x,H1,I1,r1,ty,q1]=>?_)];let(h1,h2):=Ob I1 r1 ty;erw[T,id,pa,slot,Aw,h1,h2,Calls.callWith_builtin Z (PySem.evalArgs_none (hm ay s1 O H1 x [] v [] Q I1 r1 .nil q1))]
theorem xO(pa:PlainAttrs T)(slot:Slot T name id)(Aw:typeOf (.builtin id)=pure (.type "method_descriptor"))(hm:Bn X id r)(ho:PE X o to)(ha:PA X (e::es) t) (jX:autoParam (attributeBase o name X.env (eval o X.env)=eval o X.env) r8_._auto_1) (mx:autoParam (((backTo da (starEach (e::es) X.env)).all (λx=>!x.1)&&(backToKw da (keywordEach [] X.env)).all (λx=>x.1.isSome) &&decide ((e::es).length+([]:List Keyword).length+(if([]:List Keyword).isEmpty then 0 else 1)<30))=true) r8_._auto_1) (jV:autoParam ((apos.endLine==da.line)=true) r8_._auto_1)(hs:autoParam (starEach (e::es) X.env=(false,eval e X.env)::starEach es X.env) r8_._auto_1)(mm:autoParam ((backTo da (starEach es X.env)).any (·.1)=false) r8_._auto_1): PE X (.Call (.Attribute o name apos) (e::es) [] da) (uP X.K T r to t):=by intro ay s O H Q I h;erw[wpAny_Call_method_late jX mx jV Z (bw (ho ay s O H _ I h) λv s1 #[x,H1,I1,r1,ty,q1]=>?_)];let(h1,h2):=Ob I1 r1 ty;erw[T,id,pa,slot,Aw,h1,h2,?_];have hA:=ha da ay s1 O H1 _ I1 q1;rw[hs]at hA⊢;erw[Calls.callWith_builtin (by show(false||(backTo da (starEach es X.env)).any (·.1))=false;rw[mm]<;>rfl) (Calls.evalArgs_plain ?_)];erw[bw hA λus s2 #[vs,H2,I2,r2,q2]=>hm ay s2 O H2 x vs v us Q I2 r1 r2 q2]
end
def Fh(X:Cx)(id:String)(r:V->List V->Hp->VK->Prop):Prop:=∀(ay:List (Addr×Obj))(s:ae)(O:St)(H:Hp)(x:V)(xs:List V)(v:Value)(us:List Value)(Q:VK),Inv X ay O H s->RelV x v->Vals xs us->r x xs H Q->wpAny (model X.prog X.w) X.A (call (.builtin id) (v::us)) (EP X ay O Q) X.xe s
theorem Vals.one:∀{x:V}{us:List Value},Vals [x] us->∃u,us=[u]/\RelV x u |_,_,.cons r .nil=>#[_,Z,r]
theorem Vals.zero:∀{us:List Value},Vals [] us->us=[] |_,.nil=>rfl
theorem Vals.eraseIdx:∀{xs:List V}{us:List Value}(i:Nat),Vals xs us->Vals (xs.eraseIdx i) (us.eraseIdx i) |_,_,_,.nil=>.nil |_,_,0,.cons _ t=>t |_,_,i+1,.cons r t=>.cons r (Vals.eraseIdx i t)
theorem U9{α:Type}:∀(l:List α)(i:Nat),(l.eraseIdx i).length<=l.length |[],_=>ck _ |_::_,0=>Nat.le_succ _ |_::r,i+1=>Y2 (U9 r i)
section
variable {X:Cx}{ay:List (Addr×Obj)}{O:St}{H:Hp}{s:ae}{l b:Addr}{xs ys zs:List V}
theorem Inv.Dt{its its':List Value}{n:Nat}{t':Nat}(I:Inv X ay O H s)(hH:H l=some (.lst xs)) (e:s.heap.get? l=some {cls:=.type "list",data:=.seq its.toArray n})(hf:f its.toArray=its'.toArray)(hv:Vals ys its')(hz:ys.length<=sizeLine): Inv X ay O (upd H l (.lst ys)) {s with heap:=s.heap.update l (Obj.mapSeq f),toks:=t'}:=by have q:=PySem.IsL.update e f;rw[hf]at q;erw[I.write (x:=l) (e:=l) (by rw[hH];erw[trivial]) (.inl Z) (λb' u hb hu=>(BM s.heap (Obj.mapSeq f) (dy hb)).trans hu) #[_,q] ?_];erw[hz,its',_,hv,q]
theorem Inv.U0(I:Inv X ay O H s)(hv:Vals ys its)(hz:ys.length<=sizeLine): Inv X ay O (upd H s.heap.objs.size (.lst ys)) {s with heap:=s.heap.push {cls:=.type "list",data:=.seq its.toArray},toks:=t'}:=I.laid (λ_ _ q=>cW _ q) (ck _) #[hz,its,0,hv,fO _ Z]
theorem Inv.Ak(I:Inv X ay O H s)(hH:H l=some (.lst xs)):xs.length<=sizeLine/\∃(its:List Value)(n:Nat),Vals xs its/\xs.length=its.length/\s.heap.get? l=some {cls:=.type "list",data:=.seq its.toArray n}:=by let(z,its,n,r,e):=I.bB l _ hH;erw[z,its,n,r,r.length,e]
theorem a4E(h:n<=sizeLine):Builtin.List.listTooLong n=false:=by unfold Builtin.List.listTooLong;erw[fo aw]
end
section
variable {X:Cx}
inductive afa(x:V)(vs:List V)(H:Hp)(Q:VK):Prop |mk (l:_)(xs:_)(y:_)(h0:x= .ref l)(h1:vs=[y])(h2:H l=some (.lst xs))(h3:xs.length<sizeLine)(h4:Q .bF (upd H l (.lst (xs++[y]))))
def S8:V->List V->Hp->VK->Prop:=λx vs H Q=>afa x vs H Q
theorem K4:Fh X "list.append" S8:=by
 intro ay s O H x vs v us Q I rx rv h;let(l,xs,y,rfl,rfl,hH,hz,q):=h;cases rx;let(u,rfl,ru):=rv.one;let(z,its,n,r,hl,e):=I.Ak hH;erw[zi F.slot_list_append #[_,e,Z] F.entry_list_append (F.args_list_append_2 _ _) (PySem.list_append l its.toArray n u (by rw[fC];lia)) #[e,?_]];erw[.bF,_,I.Dt (its':=its++[u]) hH e (by simp) (r.append (.cons ru .nil)) ?_,Z,q];rw[fN,List.length_singleton]
 lia
inductive af6(x:V)(vs:List V)(H:Hp)(Q:VK):Prop |mk (l:_)(b:_)(xs:_)(zs:_)(h0:x= .ref l)(h1:vs=[.ref b])(h2:H l=some (.lst xs))(h3:H b=some (.lst zs))(h4:xs.length+zs.length<=sizeLine)(h5:Q .bF (upd H l (.lst (xs++zs))))
def S6:V->List V->Hp->VK->Prop:=λx vs H Q=>af6 x vs H Q
theorem a53:Fh X "list.extend" S6:=by
 intro ay s O H x vs v us Q I rx rv h;let(l,b,xs,zs,rfl,rfl,hH,hB,hz,q):=h;cases rx;let(u,rfl,ru):=rv.one;cases ru;let(z,its,n,r,hl,e):=I.Ak hH;let(z2,nO,n2,r2,tQ,e2):=I.Ak hB;have hsz:its.toArray.size+nO.toArray.size<=sizeLine:=by rw[fC,fC];lia
 have a7z:¬(!its.toArray.isEmpty&&Builtin.List.listTooLong (its.toArray.size+nO.toArray.size))=true:=by rw[a4E hsz,Bool.and_false];erw[iV]
 erw[zi F.slot_list_extend #[_,e,Z] F.entry_list_extend (F.args_list_extend_2 _ _) (AutoSeq1.list_extend_list_list_0 l its.toArray n b nO.toArray n2 a7z (by rw[fC];lia) aw) #[e,e2,?_]];erw[.bF,_,I.Dt (its':=its++nO) hH e (by simp) (r.append r2) ?_,Z,q];rw[fN]
 lia
inductive aeS(x:V)(vs:List V)(H:Hp)(Q:VK):Prop |mk (l:_)(xs:_)(i:_)(k:_)(y:_)(h0:x= .ref l)(h1:vs=[.int i])(h2:H l=some (.lst xs))(h3:-(2^63)<=i)(h4:i<2^63)(h5:seqIndex? i xs.length=some k)(h6:xs[k]? =some y)(h7:Q y (upd H l (.lst (xs.eraseIdx k))))
def S4:V->List V->Hp->VK->Prop:=λx vs H Q=>aeS x vs H Q
theorem a52:Fh X "list.pop" S4:=by
 intro ay s O H x vs v us Q I rx rv h;let(l,xs,i,k,y,rfl,rfl,hH,h1,h2,hk,hy,q):=h;cases rx;let(u,rfl,ru):=rv.one;let(t,rfl):=ru;let(z,its,n,r,hl,e):=I.Ak hH;let(w,hw,jN):=r.get hy;erw[zi F.slot_list_pop #[_,e,Z] F.entry_list_pop (F.args_list_pop_2 _ _) (MeetsSeq.list_pop_at l its.toArray n i t k w (fitsIndex_both h1 h2) (by rw[fC,<-hl];erw[hk]) (by rw[<-Array.getElem?_toList];erw[hw]) (by rw[fC];lia)) #[e,?_]];erw[y,_,I.Dt (its':=its.eraseIdx k) hH e ?_ (r.eraseIdx k) ?_,jN,q]
 ·show its.toArray.eraseIdxIfInBounds k=(its.eraseIdx k).toArray
  rw[List.eraseIdxIfInBounds_toArray]
 ·have:=U9 xs k
  lia
inductive af8(x:V)(vs:List V)(H:Hp)(Q:VK):Prop |mk (l:_)(xs:_)(h0:x= .ref l)(h1:vs=[])(h2:H l=some (.lst xs))(h3:Q .bF (upd H l (.lst [])))
def S7:V->List V->Hp->VK->Prop:=λx vs H Q=>af8 x vs H Q
theorem a54:Fh X "list.clear" S7:=by intro ay s O H x vs v us Q I rx rv h;let(l,xs,rfl,rfl,hH,q):=h;cases rx;have hus:=rv.zero;subst hus;let(z,its,n,r,hl,e):=I.Ak hH;erw[zi F.slot_list_clear #[_,e,Z] F.entry_list_clear (F.args_list_clear_1 _) (AutoSeq1.list_clear_list_0 l its.toArray n (by rw[fC];lia)) #[e,?_]];erw[.bF,_,I.Dt (its':=[]) (ys:=[]) hH e Z .nil (gK _),Z,q]
end
section
variable {prog:ah}{w:World}{A:aj}{E:Value->ae->Prop}{s:ae}
end
section
variable {X:Cx}
end
end _L
namespace _AA
open PySem PySem.W PySem.Calls PyProof.Rows
theorem a6w{P:Params}:∀(ns:List Int)(vs:List Value),WellAll P h vs (ns.map WData.int)->IntsAre vs ns:=by intro ns;induction ns with |nil=>intro vs w;rw[List.map_nil]at w;cases w;erw[.nil] |cons n ns ih=>intro vs w;rw[pR]at w;cases w with |cons a b=>cases a;erw[.cons _ _ (ih _ b)]
theorem a0p{l:OpenLaw}{n:Nat}(hn:l.most=some n){P:Params}{h:Heap}{args:List WData}{vals:List Value} (DS:l.row.toRowW.claim.pre args=true)(KG:WellAll P h vals args): ∃a vs ns,vals=[Value.ref a]/\args=[WData.list (ns.map WData.int)]/\h.get? a=some {cls:=.type "list",data:=.seq vs.toArray}/\IntsAre vs ns/\ns.length<=n:=by
 have hsh:WShape.hasAll [] args [.list .int]=true:=(pre_splitW DS).1;have hc:l.pre.holds [] {args:=args}=true:=(pre_splitW DS).2;let(d,r,rfl,h1,h2):=hasAllW_cons hsh;obtain rfl:=hasAllW_nil h2;let(xs,rfl,h3):=hasW_list h1;let(ns,rfl):=items_int h3;have hlen:ns.length<=n:=by
  unfold OpenLaw.pre at hc;have h4:(WTm.not (.lt (.lit (.int (n:Int))) (.len (.arg 0)))).holds [] {args:=[.list (ns.map .int)]}=true:=by have h4:=(holds_andW hc).1;rw[hn]at h4;erw[h4]
  have h5:=condW_of h4 (w_not (w_lt w_lit (w_len_list (w_arg Z))));rw[cJ]at h5;erw[Nat.le_of_not_lt λq=>?_];have q':(n:Int)<((ns.length:Nat):Int):=by omega
  first |(rw[cU q']at h5;erw[absurd h5 aD]) |(simp at h5;omega)
 cases KG with |cons w1 w2=>cases w2;cases w1 with |list ho Lu=>erw[_,_,ns,Z,Z,ho,a6w ns _ Lu,hlen]
theorem a26(l:OpenLaw)(args:List WData):l.row.toRowW.claim.post args (.bool true) args=true:=postW_of (r:=l.row.toRowW) (X:=(true==true)) (show WShape.has [] (.bool true) .bool=true by first|rfl|decide|simp[WShape.has,WShape.arms,WShape.armsAll]) (show(WTm.eq .res (.lit (.bool true))).value [] {args:=args,res:=some (.bool true),after:=args}=some (.bool (true==true))from w_eq_bool (w_res Z) w_lit) rfl
theorem acM{l:OpenLaw}{n:Nat}{q:ah}{loose:List Str}{XP:(cw)->Heap->Prop}{YP:World->Heap->Prop}{d:DefRec} (hn:l.most=some n)(vU:d.params.defaults=[]) (call:∀(w:World)(s₀ s₁:ae)(mg mb:cw)(fa:Addr)(o:Obj)(pm cd doc:Value)(a:Addr)(vs:List Value)(ns:List Int),Ground q loose [] XP w s₀ mg mb s₁.heap->YP w s₁.heap->s₁.heap.get? fa=some o->o.data= .func (docDef d.name d.params d.body d.scope pm cd doc)->s₁.heap.CodeRec cd d.name->mg d.name=some (.ref fa)->s₁.heap.get? a=some {cls:=.type "list",data:=.seq vs.toArray}->IntsAre vs ns->ns.length<=n->s₁.gens=#[]->codeAny (model l.prog w) callerA (.call (.ref fa) #[[.ref a],[]]) (λr s'=>r= .ok (.ret (.bool true))/\OldK s₁.heap s'.heap/\s'.os=s₁.os/\AllBare s'.gens) s₁): WalkO q loose XP YP l.row.toRowW d [] (λf vs=>PySem.call f vs):=by intro w s₀ s₁ mg mb G Y fa o pm cd doc dV kV ho hd iR hD Lf hg args vals as DS agL hrd KG hlo;obtain rfl:dV= .none:=Dflts.none hD vU;obtain rfl:kV= .none:=Dflts.noKw hD;let(a,vs,ns,rfl,rfl,KS,hints,hlen):=a0p hn DS KG;erw[enter_call (BC (call w s₀ s₁ mg mb fa o pm cd doc a vs ns G Y ho (fd_plain hd) iR Lf KS hints hlen hg) λr s' hq=>?_)];let(rfl,h2,h3,h4):=hq;erw[.inl #[.bool true,.bool true,[],Z,λ_=>rfl,.bool true,a26 l _,λ_=>#[List.Pairwise.nil,λ_ hm=>(nomatch hm)]],h2,h3,h4]
section
variable {prog:ah}{w:World}{A:aj}{E:Value->ae->Prop}{s:ae}{K:Frag}
end
end _AA
namespace _L
open PySem PySem.Spec PyProof.Rows
theorem O0:∀{vs:List Value}{ns:List Int},IntsAre vs ns->Vals (ns.map V.int) vs |_,_,.nil=>.nil |_,_,.cons n t h=>.cons #[t,Z] (O0 h)
def inClass(s:Stmt)(j:Nat):Stmt:=match s with | .ClassDef _ _ _ body _ _ _ _ _ _ _=>body.getD j (.Pass #[0,0,0,0]) |_=>.Pass #[0,0,0,0]
def lb(s:Stmt):Arguments:=match s with | .FunctionDef _ a _ _ _ _ _ _ _ _=>a |_=>{posonlyargs:=[],args:=[],vararg:=none,kwonlyargs:=[],kw_defaults:=[],kwarg:=none,defaults:=[]}
def iz(s:Stmt):List Stmt:=match s with | .FunctionDef _ _ b _ _ _ _ _ _ _=>b |_=>[]
def bj(s:Stmt):Scope:=match s with | .FunctionDef _ _ _ _ _ _ sc _ _ _=>sc |_=>{kind:=.function,names:=[],isGenerator:=false,isCoroutine:=false}
abbrev ka:lD:=λ_ _ _ _ _ _=>False
abbrev E0:XK:=λ_ _ _=>False
theorem D6:Passes ka X E0:=λ_ _ _ _ _ _ _ h=>h.elim
structure lB(K:aa)(x qual:Str)(st:Stmt)(f:Addr)(fd:FuncData):Prop where
 ex:∃(oc:Value)(od:Option Addr)(kV doc pm:Value)(an:Option Addr)(aQ ct:Value)(gW:Array (Option Value)),fd=PySem.W.fnOf x qual (lb st) (iz st) (bj st) .none kV doc pm an aQ ct/\K.lookup f=some #[oc,od,.func fd,gW]/\PySem.W.codeIn K aQ qual=true
 kp:PySem.W.keepIn K (.ref f)=true
section
variable {P:ah}{w:World}{K:aa}{mg:cw}{aB:Heap}
theorem lB.ok{x qual:Str}{st:Stmt}{f:Addr}{fd:FuncData}{N ps:List Str}{k:Nat}{sp:Sp}(F:lB K x qual st f fd)(S:bN N ps (bj st))(len:∀vs H Q E,sp vs H Q E->vs.length=ps.length) (ji:∀(aQ:Value)(A:aj)(outer:List Env)(s:ae)(H:Hp)(vs:List V)(Q:VK)(E:XK),dh k (A.deeper (envOfC qual (bj st) s.heap.objs.size f aQ))->sp vs H Q E->∃t,iU (jE ka P w K mg aB N qual (bj st) f aQ A outer s H E).qC (iz st) t/\t (eZ9 Q) (start N vs) H):jG P w K mg aB ka (k+1) f fd ps sp:=by let(oc,od,kV,doc,pm,an,aQ,ct,gW,rfl,lk,iR):=F.ex;erw[M1 lk iR S len λA outer s H vs Q E hr jT=>?_];let(t,h,q):=ji aQ A outer s H vs Q E hr jT;erw[t,h.qC,q]
theorem lB.binds{x qual:Str}{st:Stmt}{f:Addr}{fd:FuncData}{ps:List Str}(F:lB K x qual st f fd) (h:∀(kV doc pm:Value)(an:Option Addr)(aQ ct:Value)(us:List Value),us.length=ps.length->bindArgs (PySem.W.fnOf x qual (lb st) (iz st) (bj st) .none kV doc pm an aQ ct) #[us,[]]=pure (ps.zip us)):Binds K fd ps []:=by let(oc,od,kV,doc,pm,an,aQ,ct,gW,rfl,lk,iR):=F.ex;erw[.all (h kV doc pm an aQ ct)]
theorem Es{x qual:Str}{st:Stmt}{f:Addr}{oc:Value}{od an:Option Addr}{gW:Array (Option Value)}{kV doc pm aQ ct:Value}(l:K.lookup f=some #[oc,od,.func (PySem.W.fnOf x qual (lb st) (iz st) (bj st) .none kV doc pm an aQ ct),gW]) (c:PySem.W.codeIn K aQ qual=true)(k:PySem.W.keepIn K (.ref f)=true):lB K x qual st f (PySem.W.fnOf x qual (lb st) (iz st) (bj st) .none kV doc pm an aQ ct):=#[#[oc,od,kV,doc,pm,an,aQ,ct,gW,Z,l,c],k]
end
section
variable {X:Cx}
theorem pv(i:Nat){x:Str}{pos:Pos}(hN:autoParam (X.N[i]? =some x) r8_._auto_1)(hv:autoParam (F3 X.env.scope x) d8_._auto_1)(hd:autoParam ((x==("__debug__":Str))=false) q8_._auto_1) (iR:autoParam ((x==("__classdict__":Str))=false) q8_._auto_1):PE X (.Name x pos) (lH i):=Sf hN hv hd iR
end
theorem bK{A B:Prop}(h:B):if false=true then A else B:=by rw[bI iV];erw[h]
theorem cx{A B:Prop}(h:A):if true=true then A else B:=by rw[bE rfl];erw[h]
theorem eL{c A B:Prop}[Decidable c](h1:c->A)(h2:¬c->B):if c then A else B:=by
 by_cases h:c
 ·rw[bE h]
  erw[h1 h]
 ·rw[bI h]
  erw[h2 h]
def aH(H H':Hp):Prop:=∀b o,H b=some o->H' b=some o
theorem aH.refl(H:Hp):aH H H:=λ_ _ h=>h
theorem aH.trans(a:aH H H1)(b:aH H1 H2):aH H H2:=λc o h=>b c o (a c o h)
theorem aH.seq{K:aa}(e:aH H H')(h:aK K H a xs):aK K H' a xs:=by
 rcases h with(h|⟨o,h⟩)|h
 ·erw[.inl (.inl (e _ _ h))]
 ·erw[.inl (.inr #[o,e _ _ h])]
 ·erw[.inr h]
def Wd (i:Int):Prop:=i.natAbs<2^5000
theorem Wd.bits(h:Wd i):Builtin.Int.intBits i<=2^20:=iK (PyProof.Rows.intBits_le h) aD
theorem Wd.log(h:Wd i):i.natAbs.log2<9000:=by
 by_cases e:i.natAbs=0
 ·rw[e];decide
 ·have h1:i.natAbs.log2<5000:=(Nat.log2_lt e).mpr h
  lia
section
variable {X:Cx}
theorem nM:dU X (binaryOp .FloorDiv) (rI (λ_ j=>0<j/\Wd j) λi j=>.int (i/j)):=A3 λi j _ _ _ _ _ hc q=>by have h1:(0:Int)<j:=hc.1;erw[floordiv_int aw (by rw[Yd i aw];erw[q]) (.inl (PyProof.noPylong_of_log2 hc.2.log))]
theorem SI:dU X (binaryOp .FloorDiv) (rI (λ_ j=>j≠0/\Wd j) λi j=>.int (i.fdiv j)):=A3 λ_ _ _ _ _ _ _ hc q=>floordiv_int hc.1 q (.inl (PyProof.noPylong_of_log2 hc.2.log))
end
def wH(K:aa)(H:Hp)(x:V)(T:String):Prop:=match x with | .bF=>T="NoneType" | .bl _=>T="bool" | .int _=>T="int" | .str _=>T="str" | .ref a=>(T="list"/\∃xs,aK K H a xs)\/(T="tuple"/\∃xs,aV K H a xs) |_=>False
def jr(T n:String):Bool:=T==n||(T=="bool"&&n=="int")
def C3:List String:=["NoneType","bool","int","str","list","tuple"]
def zv:List String:=["bool","int","str","list","tuple"]
theorem Uk{K:aa}(h1:T∈C3)(h2:n∈zv):PySem.W.kitOne K (.type T) (.type n)=some (jr T n):=by
 have all:C3.all (λT=>zv.all λn=>PySem.W.kitOne [] (.type T) (.type n)==some (jr T n))=true:=by decide+kernel
 have a1:=jq.mp all T h1;have a2:=jq.mp a1 n h2;have e:PySem.W.kitOne K (.type T) (.type n)=PySem.W.kitOne [] (.type T) (.type n):=by unfold PySem.W.kitOne PySem.W.kitCls PySem.W.subIn;rfl
 rw[e];erw[gJ.mp a2]
section
variable {X:Cx}
theorem wH.mem{K:aa}(h:wH K H x T):T∈C3:=by cases x with |bF=>cases(show T="NoneType" from h);decide |bl b=>cases(show T="bool" from h);decide |int b=>cases(show T="int" from h);decide |str b=>cases(show T="str" from h);decide |ref a=>rcases(show(T="list"/\∃xs,aK K H a xs)\/(T="tuple"/\∃xs,aV K H a xs)from h)with⟨e,_⟩|⟨e,_⟩<;>cases e<;>decide |_=>exact(show False from h).elim
theorem Ul{ay:List (Addr×Obj)}{s:ae}{O:St}{H:Hp}{x:V}{u:Value}{T:String}(I:Inv X ay O H s)(rx:RelV x u)(ty:wH X.K H x T): ∃P:Heap->Prop,PySem.W.KitX X.K u (.type T) P/\P s.heap/\u≠ .builtin "__main__.__loader__#opaque":=by cases x with
 |bF=>cases(show T="NoneType" from ty);cases(show u=Value.none from rx);erw[_,PySem.W.kitx_none,True.intro,λz=>nomatch z] |bl b=>cases(show T="bool" from ty);cases(show u=Value.bool b from rx);erw[_,PySem.W.kitx_bool,True.intro,λz=>nomatch z] |int b=>cases(show T="int" from ty);let(t,q):=(show∃t,u=Value.int b t from rx);cases q;erw[_,PySem.W.kitx_int,True.intro,λz=>nomatch z] |str b=>cases(show T="str" from ty);let(t,q):=(show∃t,u=Value.str b t from rx);cases q;erw[_,PySem.W.kitx_str,True.intro,λz=>nomatch z] |ref a=>
  cases(show u=Value.ref a from rx);rcases(show(T="list"/\∃xs,aK X.K H a xs)\/(T="tuple"/\∃xs,aV X.K H a xs)from ty)with⟨e,xs,hx⟩|⟨e,xs,hx⟩
  ·cases e
   let(its,r,(o,n,h1,h2,_),_):=I.list hx;erw[_,PySem.W.kitx_list,#[o,h1,h2],λz=>nomatch z]
  ·cases e
   let(its,r,(o,h1,h2,_),_):=I.tuple hx;erw[_,PySem.W.kitx_tuple,#[o,h1,h2],λz=>nomatch z] |_=>exact(show False from ty).elim
inductive aeZ(K:aa)(xs:List V)(H:Hp)(Q:VK):Prop |mk (x:_)(T:_)(n:_)(b:_)(h0:xs=[x,.ty n])(h1:wH K H x T)(h2:n∈zv)(h3:jr T n=b)(h4:Q (.bl b) H)
def Jm(K:aa):List V->Hp->VK->Prop:=λxs H Q=>aeZ K xs H Q
theorem acg:gb X (.builtin "isinstance") (Jm X.K):=by intro ay s O H xs us Q I r h;let(x,T,n,b,rfl,ty,hn,rfl,q):=h;let(u,c,rfl,rx,rc):=vals2 r;cases(show c=Value.type n from rc);let(P,aht,p,hx):=Ul I rx ty;erw[PySem.W.kia_one aht I.iq p (Uk ty.mem hn) hx λtk=>#[.bl (jr T n),H,I.tok _,Z,q]]
inductive aeY(K:aa)(xs:List V)(H:Hp)(Q:VK):Prop |mk (x:V)(T:String)(p:Addr)(ns:List String)(b:Bool)(h0:xs=[x,.ref p])(h1:H p=some (.tup (ns.map V.ty)))(h2:wH K H x T)(h3:(∀n∈ns,n∈zv))(h4:ns.any (jr T)=b)(h5:Q (.bl b) H)
def Jl(K:aa):List V->Hp->VK->Prop:=λxs H Q=>aeY K xs H Q
theorem Uj{K:aa}{T:String}(h1:T∈C3):∀{ns:List String},(∀n∈ns,n∈zv)->PySem.W.kitAny K (.type T) (ns.map Value.type)=some (ns.any (jr T)) |[],_=>rfl |n::r,h=>by have e:=Uk (K:=K) h1 (h n (NH ..));have ih:=Uj (K:=K) h1 (ns:=r) λm hm=>h m (jf _ hm);rw[pR,PySem.W.kitAny,e,sy];cases jr T n with |true=>rfl |false=>simpa using ih
theorem NY:∀{ns:List String}{us:List Value},Vals (ns.map V.ty) us->us=ns.map Value.type |[],_,.nil=>rfl |n::r,_,.cons q t=>by cases(show _=Value.type n from q);rw[NY t];rfl
theorem acf:gb X (.builtin "isinstance") (Jl X.K):=by intro ay s O H xs us Q I r h;let(x,T,p,ns,b,rfl,hp,ty,hn,rfl,q):=h;let(u,c,rfl,rx,rc):=vals2 r;cases(show c=Value.ref p from rc);let(P,aht,pp,hx):=Ul I rx ty;let(_,its,rv,(cls,dd,dt,sl),h1,h2,n,h3):=(show gA X.prog X.w H s.heap p (.tup (ns.map V.ty))from I.bB p _ hp);simp only at h2 h3;subst h2 h3;have e:=NY rv;subst e;erw[PySem.W.kia_tup aht I.iq pp h1 (Uj ty.mem hn) hx λtk=>#[.bl _,H,I.tok _,Z,q]]
end
mutual
def RD(K:aa)(H:Hp):V->ai->Prop |x,.none=>x= .bF |x,.bool b=>x= .bl b |x,.int i=>x= .int i |x,.str y=>x= .str y |x,.list ds=>∃a xs,x= .ref a/\aK K H a xs/\aO K H xs ds |x,.tuple ds=>∃a xs,x= .ref a/\aV K H a xs/\aO K H xs ds |_,.dict _=>False
def aO (K:aa)(H:Hp):List V->List ai->Prop |xs,[]=>xs=[] |xs,d::ds=>∃y ys,xs=y::ys/\RD K H y d/\aO K H ys ds
end
section
variable {X:Cx}
mutual
theorem RD.reads{ay:List (Addr×Obj)}{s:ae}{O:St}{H:Hp}(I:Inv X ay O H s):∀{x:V}{u:Value}(d:ai),RelV x u->RD X.K H x d->∃as,Reads s.heap u d as |x,u,.none,r,h=>by cases(show x= .bF from by simpa[RD]using h);cases(show u=Value.none from r);erw[_,.none] |x,u,.bool b,r,h=>by cases(show x= .bl b from by simpa[RD]using h);cases(show u=Value.bool b from r);erw[_,.bool b] |x,u,.int i,r,h=>by cases(show x= .int i from by simpa[RD]using h);let(t,q):=(show∃t,u=Value.int i t from r);cases q;erw[_,.int i t] |x,u,.str y,r,h=>by cases(show x= .str y from by simpa[RD]using h);let(t,q):=(show∃t,u=Value.str y t from r);cases q;erw[_,.str y t] |x,u,.list ds,r,h=>by rw[RD]at h;let(a,xs,rfl,hx,hd):=h;cases(show u=Value.ref a from r);let(its,rv,(o,n,h1,h2,h3,h4),_):=I.list hx;let(as,q):=aO.reads I ds rv hd;erw[_,.list h1 h2 h4 (by simpa using q)] |x,u,.tuple ds,r,h=>by rw[RD]at h;let(a,xs,rfl,hx,hd):=h;cases(show u=Value.ref a from r);let(its,rv,(o,h1,h2,n,h4),_):=I.tuple hx;let(as,q):=aO.reads I ds rv hd;erw[_,.tuple h1 h2 h4 (by simpa using q)] |x,u,.dict _,r,h=>by simp[RD]at h
theorem aO.reads {ay:List (Addr×Obj)}{s:ae}{O:St}{H:Hp}(I:Inv X ay O H s):∀{xs:List V}{us:List Value}(ds:List ai),Vals xs us->aO X.K H xs ds->∃as,ReadsAll s.heap us ds as |xs,us,[],r,h=>by cases(show xs=[]from by simpa[aO]using h);cases r;erw[_,.nil] |xs,us,d::ds,r,h=>by rw[aO]at h;let(y,ys,rfl,h1,h2):=h;cases r with |cons ra rb=>let(as,q):=RD.reads I d ra h1;let(bs,q'):=aO.reads I ds rb h2;erw[_,.cons q q']
end
inductive af7(K:aa)(x:V)(y:V)(H:Hp)(Q:VK):Prop |mk (d:_)(e:_)(h0:RD K H x d)(h1:RD K H y e)(h2:SeqAt.shaped d=true)(h3:SeqAt.shaped e=true)(h4:Q (.bl (PyData.eqv d e)) H)
def Jn(K:aa):R2:=λx y H Q=>af7 K x y H Q
inductive aeT(K:aa)(x:V)(y:V)(H:Hp)(Q:VK):Prop |mk (d:_)(e:_)(h0:RD K H x d)(h1:RD K H y e)(h2:SeqAt.shaped d=true)(h3:SeqAt.shaped e=true)(h4:Q (.bl (!PyData.eqv d e)) H)
def Ji(K:aa):R2:=λx y H Q=>aeT K x y H Q
theorem a2R(hu:X.A.units+64<cLine):dU X (compareOp .Eq) (Jn X.K):=by intro ay s O H x y v u Q I rx ry h;let(d,e,hd,he,sd,se,q):=h;let(as,ra):=RD.reads I d rx hd;let(bs,rb):=RD.reads I e ry he;erw[eq_dataH ra rb sd se hu #[.bl _,H,I,Z,q]]
theorem a2L(hu:X.A.units+64<cLine):dU X (compareOp .NotEq) (Ji X.K):=by intro ay s O H x y v u Q I rx ry h;let(d,e,hd,he,sd,se,q):=h;let(as,ra):=RD.reads I d rx hd;let(bs,rb):=RD.reads I e ry he;erw[ne_dataH ra rb sd se hu #[.bl _,H,I,Z,q]]
end
theorem aH.new{t:Addr}(ht:H t=none):aH H (upd H t o):=λb o' e=>by rw[aR (fZ e ht)];erw[e]
structure Nw(H H':Hp)(p:Addr)(o:HO):Prop where
 no:H p=none
 at':H' p=some o
 same:aH H H'
 eq:H'=upd H p o
theorem Nw.of(h:H p=none):Nw H (upd H p o) p o:=#[h,bo,.new h,Z]
def ET:List Str:=["len","abs","min","max","range","isinstance","int","bool","str","tuple","list","any","all","sum","zip","enumerate","sorted","reversed","ord","chr","divmod","repr","dict","set"]
def cn (mg:cw):Prop:=∀x∈ET,mg x=none
theorem cn.at{mg:cw}(B:cn mg)(x:Str)(h:autoParam (x∈ET) q8_._auto_1):mg x=none:=B x h
theorem fj{α:Type}{C:List α->Prop}(h:∀a,C [a]):∀us:List α,us.length=1->C us |[_],_=>h _
theorem dS{α:Type}{C:List α->Prop}(h:∀a b,C [a,b]):∀us:List α,us.length=2->C us |[_,_],_=>h _ _
theorem pG{α:Type}{C:List α->Prop}(h:∀a b c,C [a,b,c]):∀us:List α,us.length=3->C us |[_,_,_],_=>h _ _ _
theorem EZ{α:Type}{C:List α->Prop}(h:∀a b c d,C [a,b,c,d]):∀us:List α,us.length=4->C us |[_,_,_,_],_=>h _ _ _ _
def Vu(N P:List Str)(sc:Scope):Bool:=decide (sc.kind= .function)&& !sc.isCoroutine&& !sc.isGenerator&&decide N.Nodup&&decide (N.take P.length=P)&&P.all (λx=>decide (sc.names.lookup x=some .local\/sc.names.lookup x=some .cell))&&sc.names.all λy=>decide (y.2≠ .free)
theorem bZ{P:List Str}(h:Vu N P sc=true):bN N P sc:=by unfold Vu at h;simp only[fD,Fq,Yf,jq]at h;let((((((h1,h2),h3),h4),h5),h6),h7):=h;erw[h1,h2,h3,h4,h5,h6,h7]
structure FA(K:aa)(mg:cw)(x:Str)(st:Stmt):Prop where ex:∃f fd,mg x=some (.ref f)/\lB K x x st f fd
def aJ(P:ah)(w:World)(K:aa)(mg:cw)(aB:Heap)(x:Str)(k:Nat)(sp:Sp):Prop:=∃f fd ps,jG P w K mg aB ka k f fd ps sp/\mg x=some (.ref f)/\PySem.W.keepIn K (.ref f)=true/\Binds K fd ps []
section
variable {P:ah}{w:World}{K:aa}{mg:cw}{aB:Heap}
theorem a9N{h:Heap}{x:Str}{st:Stmt}{f:Addr}{oc:Value}{od an:Option Addr}{gW:Array (Option Value)}{kV doc pm aQ ct:Value}(X:K.In h)(G:h.Ns mainGlobals mg) (a:PySem.W.nsIn K mainGlobals x=some (some (.ref f))) (l:K.lookup f=some #[oc,od,.func (PySem.W.fnOf x x (lb st) (iz st) (bj st) .none kV doc pm an aQ ct),gW]) (c:PySem.W.codeIn K aQ x=true)(k:PySem.W.keepIn K (.ref f)=true):FA K mg x st:=#[f,_,zk X G a,Es l c k]
theorem FA.has{x:Str}{st:Stmt}{N ps:List Str}{k:Nat}{sp:Sp}(F:FA K mg x st)(S:bN N ps (bj st))(len:∀vs H Q E,sp vs H Q E->vs.length=ps.length) (hb:∀(kV doc pm:Value)(an:Option Addr)(aQ ct:Value)(us:List Value),us.length=ps.length->bindArgs (PySem.W.fnOf x x (lb st) (iz st) (bj st) .none kV doc pm an aQ ct) #[us,[]]=pure (ps.zip us)) (ji:∀(f:Addr)(aQ:Value)(A:aj)(outer:List Env)(s:ae)(H:Hp)(vs:List V)(Q:VK)(E:XK),dh k (A.deeper (envOfC x (bj st) s.heap.objs.size f aQ))->sp vs H Q E->∃t,iU (jE ka P w K mg aB N x (bj st) f aQ A outer s H E).qC (iz st) t/\t (eZ9 Q) (start N vs) H):aJ P w K mg aB x (k+1) sp:=by let(f,fd,hm,F):=F.ex;erw[f,fd,ps,F.ok S len λaQ A outer s H vs Q E=>ji f aQ A outer s H vs Q E,hm,F.kp,F.binds hb]
end
section
variable {X:Cx}{k:Nat}{x:Str}{p pos:Pos}{e:Expr}{es:List Expr}{t:TA}{sp:Sp}
def Ou(sp:Sp)(t:TA):TE:=λO H Q=>t O H λvs H1=>sp vs H1 Q E0
theorem qx(F:aJ X.prog X.w X.K X.mg X.aB x k sp)(hr:dh k X.A)(hg:Gl X x)(ha:PA X (e::es) t)(jW:autoParam ((x==("__debug__":Str))=false) q8_._auto_1) (he:autoParam (starEach (e::es) X.env=(false,eval e X.env)::starEach es X.env) r8_._auto_1)(gY:autoParam ((backTo pos (starEach es X.env)).any (·.1)=false) r8_._auto_1): PE X (.Call (.Name x p) (e::es) [] pos) (Ou sp t):=by
 let(f,fd,ps,F,hm,hk,hb):=F;have h:=a2u (pos:=pos) (p:=p) F hr hg hm hk hb .nil D6 ha jW he gY;intro ay s O H Q I hq;erw[h ay s O H Q I ?_];have e1:(λ(vs:List V) H1=>sp (vs++[]) H1 Q E0)=λvs H1=>sp vs H1 Q E0:=by funext vs H1;rw[FH]
 show t O H λvs H1=>sp (vs++[]) H1 Q E0;rw[e1];erw[hq]
theorem pf(F:aJ X.prog X.w X.K X.mg X.aB x j sp)(hr:dh k X.A)(ha:PA X (e::es) t)(hjk:autoParam (j<=k) q8_._auto_1)(hg:autoParam (Gl X x) r8_._auto_1)(jW:autoParam ((x==("__debug__":Str))=false) q8_._auto_1)(he:autoParam (starEach (e::es) X.env=(false,eval e X.env)::starEach es X.env) r8_._auto_1)(gY:autoParam ((backTo pos (starEach es X.env)).any (·.1)=false) r8_._auto_1):PE X (.Call (.Name x p) (e::es) [] pos) (Ou sp t):=qx F (hr.mono hjk) hg ha jW he gY
theorem cg:dU X (binaryOp .Mult) (rI (λi j=>IntMulOk i j) λi j=>.int (i*j)):=A3 λ_ _ _ _ _ _ _ hc q=>mul_int q hc
theorem a2Q:dU X (compareOp .Eq) (lJ λi j=>.bl (decide (i=j))):=xS λ_ _ _ _ _ _ _ q=>eq_int (by rw[Bool.beq_eq_decide_eq];erw[q])
theorem a2K:dU X (compareOp .NotEq) (lJ λi j=>.bl (!decide (i=j))):=xS λ_ _ _ _ _ _ _ q=>ne_int (by rw[bne,Bool.beq_eq_decide_eq];erw[q])
theorem a2S(hu:X.A.units+64<cLine):dU X (compareOp .Eq) (λx y H Q=>lJ (λi j=>.bl (decide (i=j))) x y H Q\/Jn X.K x y H Q):=a2Q.or (a2R hu)
theorem a2M(hu:X.A.units+64<cLine):dU X (compareOp .NotEq) (λx y H Q=>lJ (λi j=>.bl (!decide (i=j))) x y H Q\/Ji X.K x y H Q):=a2K.or (a2L hu)
mutual
theorem eqv_refl:∀d:ai,d.canLay0=true->PyData.eqv d d=true | .none,_=>by simp[PyData.eqv] | .bool b,_=>by simp[PyData.eqv] | .int i,_=>by simp[PyData.eqv] | .str x,_=>by simp[PyData.eqv] | .list ds,h=>by simp only[PyData.eqv];erw[eqvAll_refl ds (by simpa[PyData.canLay0]using h)] | .tuple ds,h=>by simp only[PyData.eqv];erw[eqvAll_refl ds (by simpa[PyData.canLay0]using h)] | .dict _,h=>by simp[PyData.canLay0]at h
theorem eqvAll_refl:∀ds:List ai,PyData.canLayAll0 ds=true->PyData.eqvAll ds ds=true |[],_=>by simp[PyData.eqvAll] |d::ds,h=>by simp only[PyData.canLayAll0,fD]at h;simp only[PyData.eqvAll,fD];erw[eqv_refl d h.1,eqvAll_refl ds h.2]
end
theorem m4{K:aa}(b:Bool):RD K H (.bl b) (.bool b):=by simp[RD]
theorem cF{K:aa}(i:Int):RD K H (.int i) (.int i):=by simp[RD]
theorem df{K:aa}(x:Str):RD K H (.str x) (.str x):=by simp[RD]
theorem RV{K:aa}:RD K H .bF .none:=by simp[RD]
theorem gR{K:aa}{H:Hp}{p:Addr}{xs:List V}{ds:List ai}(h:aV K H p xs)(r:aO K H xs ds):RD K H (.ref p) (.tuple ds):=by rw[RD];erw[p,xs,Z,h,r]
theorem jO{K:aa}{H:Hp}{p:Addr}{xs:List V}{ds:List ai}(h:aK K H p xs)(r:aO K H xs ds):RD K H (.ref p) (.list ds):=by rw[RD];erw[p,xs,Z,h,r]
theorem dc{K:aa}:aO K H [] []:=by simp[aO]
theorem cj{K:aa}{H:Hp}{x:V}{xs:List V}{d:ai}{ds:List ai}(h:RD K H x d)(r:aO K H xs ds):aO K H (x::xs) (d::ds):=by rw[aO];erw[x,xs,Z,h,r]
inductive adw(t:TS)(D:Ends)(O:St)(H:Hp):Prop |mk (N8:St->Hp->Prop)(h0:t {D with nx:=N8} O H)(h1:∀σ' H',N8 σ' H'->D.nx σ' H')
def Zs(t:TS):TS:=λD O H=>adw t D O H
theorem ib{st:Stmt}{t:TS}(h:PS X st t):PS X st (Zs t):=by intro ay s O H D I hq;let(N8,q,m):=hq;erw[bw (h ay s O H _ I q) λf s1 q1=>?_];cases f with |next=>let(σ',H',I',q'):=q1;erw[σ',H',I',m _ _ q'] |brk=>erw[q1] |cont=>erw[q1] |ret u=>erw[q1]
end
def ux(K:aa)(xs:List Str):Prop:=∀x∈xs,PySem.W.nsIn K mainGlobals x=some none
theorem ux.nil{K:aa}:ux K []:=λ_ h=>nomatch h
theorem ux.cons{K:aa}{x:Str}{xs:List Str}(a:PySem.W.nsIn K mainGlobals x=some none)(r:ux K xs):ux K (x::xs):=λy hy=>by
 rcases bJ.mp hy with e|e
 ·rw[e];erw[a]
 ·erw[r y e]
theorem acr{K:aa}{mg:cw}(X:K.In h)(G:h.Ns mainGlobals mg)(a:ux K ET):cn mg:=λx hx=>PySem.W.mg_none_of X G (a x hx)
theorem ML{env:Env}:∀(ns:List (Str×NameKind))(cs:List (Str×Addr)),(∀x∈ns,x.2= .free->∃c,env.cells.lookup x.1=some c)->(∀x c,cs.lookup x=some c->env.cells.lookup x=some c)->∃cl,(forIn ns cs (λx r=>if(x.2==NameKind.free)=true then do let a<-cellOf env x.1;pure (ForInStep.yield ((x.1,a)::r))else pure (ForInStep.yield r)):Sem (List (Str×Addr)))=pure cl/\(∀x c,cl.lookup x=some c->env.cells.lookup x=some c)/\(∀x c,cs.lookup x=some c->∃c',cl.lookup x=some c')/\∀x∈ns,x.2= .free->∃c,cl.lookup x.1=some c
 |[],cs,_,h2=>#[cs,Z,h2,λx c e=>#[c,e],λ_ h=>nomatch h] |(n,k)::r,cs,h1,h2=>by
  by_cases hk:k= .free
  ·subst hk
   let(c,hc):=h1 (n,.free) (.head _) rfl;have e1:cellOf env n=pure c:=by unfold cellOf;rw[show env.cells.lookup n=some c from hc]
   let(cl,a1,a2,a3,a4):=ML r ((n,c)::cs) (λx hx=>h1 x (.tail _ hx)) (λx d e=>by rw[jK]at e;cases z:x==n with |true=>rw[z]at e;cases e;rw[gJ.mp z];erw[hc] |false=>rw[z]at e;erw[h2 x d e]);erw[cl,?_,a2,λx d e=>?_,λx hx hf=>?_]
   ·rw[FG]
    show(do let r'<-(if(NameKind.free==NameKind.free)=true then do let a<-cellOf env n;pure (ForInStep.yield ((n,a)::cs))else pure (ForInStep.yield cs));_)=_;rw[bE (by rfl),e1];erw[a1]
   ·by_cases z:x==n
    ·erw[a3 x c (by rw[jK,z])]
    ·erw[a3 x d (by rw[jK,zp.mpr z];erw[e])]
   ·rcases bJ.mp hx with rfl|hx
    ·erw[a3 n c (by rw[jK,Nj])]
    ·erw[a4 x hx hf]
  ·let(cl,a1,a2,a3,a4):=ML r cs (λx hx=>h1 x (.tail _ hx)) h2
   erw[cl,?_,a2,a3,λx hx hf=>?_]
   ·rw[FG]
    show(do let r'<-(if(k==NameKind.free)=true then do let a<-cellOf env n;pure (ForInStep.yield ((n,a)::cs))else pure (ForInStep.yield cs));_)=_;rw[bI (by simpa using hk)];erw[a1]
   ·rcases bJ.mp hx with rfl|hx
    ·erw[absurd hf hk]
    ·erw[a4 x hx hf]
theorem WM(h1:∀x∈scope.names,x.2= .free->∃c,env.cells.lookup x.1=some c): ∃cl,closureFor scope env=pure cl/\(∀x c,cl.lookup x=some c->env.cells.lookup x=some c)/\∀x∈scope.names,x.2= .free->∃c,cl.lookup x.1=some c:=by
 let(cl,a1,a2,_,a4):=ML (env:=env) scope.names [] h1 (λx c e=>nomatch e);erw[cl,?_,a2,a4];unfold closureFor;show(forIn scope.names ([]:List (Str×Addr)) (λ(x:Str×NameKind) r=>match x with|(name,kind)=>if(kind==NameKind.free)=true then do let a<-cellOf env name;pure (ForInStep.yield ((name,a)::r))else pure (ForInStep.yield r))>>=λr=>(pure r:Sem (List (Str×Addr))))=pure cl;have ef:(λ(x:Str×NameKind)(r:List (Str×Addr))=>match x with|(name,kind)=>(if(kind==NameKind.free)=true then do let a<-cellOf env name;pure (ForInStep.yield ((name,a)::r))else pure (ForInStep.yield r):Sem (ForInStep (List (Str×Addr))))) =λx r=>if(x.2==NameKind.free)=true then do let a<-cellOf env x.1;pure (ForInStep.yield ((x.1,a)::r))else pure (ForInStep.yield r):=by funext x r;let(n,k):=x;rfl
 rw[ef,a1];rfl
theorem TV{env:Env}(hk:env.scope.kind= .function){x:Str}(hx:env.kindOf x=some .cell):∀{names:List (Str×NameKind)},names.lookup x=some .free->(names.map λ(n,k)=>if(k==NameKind.free&&env.scope.kind== .function&&env.kindOf n==some .cell)then(n,NameKind.cell)else(n,k)).lookup x=some .cell |[],h=>nomatch h |(n,k)::r,h=>by have ih:=@TV env hk x hx r;show List.lookup x ((if(k==NameKind.free&&env.scope.kind== .function&&env.kindOf n==some .cell)=true then(n,NameKind.cell)else(n,k))::_)=_;cases z:x==n with |true=>simp only[jK,z]at h;cases h;have e:=gJ.mp z;subst e;rw[bE (by rw[hk,hx];rfl),jK,z] |false=>simp only[jK,z]at h;split<;>(simp only[jK,z];erw[ih h])
def gI(X:Cx)(N:List Str)(scope:Scope)(cl:List (Str×Addr))(s:ae)(H:Hp)(fp:List Addr)(ay:List (Addr×Obj)):Cx:={prog:=X.prog,w:=X.w,K:=X.K,mg:=X.mg,aB:=X.aB,A:=X.A,N:=N,s₀:=s,H₀:=H,env:=compEnvC scope cl s.heap.objs.size X.env,outer:=X.stack,stack:=X.stack,ex:=fp,fn:=λ_=>false,calm:=X.calm,pn:=X.pn++ay,xe:=λ_ _=>False}
def stC(js:List (Option Nat))(O:St):St:=js.map λ|none=>none|some j=>(O[j]?).join
def EO(X:Cx)(N:List Str)(js:List (Option Nat))(scope:Scope):Bool:=N.length==js.length&&(N.zip js).all λp=>match p.2 with|none=>true|some j=>X.N[j]? ==some p.1&&scope.names.lookup p.1==some NameKind.free&&X.env.kindOf p.1==some NameKind.cell
def yV(X:Cx)(scope:Scope):Bool:=scope.kind== .function&&X.env.scope.kind== .function&&scope.names.all λx=>match x.2 with | .free=>X.env.kindOf x.1==some NameKind.cell | .cell=>false | .local=>scope.names.lookup x.1==some NameKind.local |_=>true
section
variable {X:Cx}{ay:List (Addr×Obj)}{O:St}{H:Hp}{s:ae}
theorem lookup_mem{α β:Type}[BEq α][LawfulBEq α]:∀{l:List (α×β)}{x:α}{b:β},l.lookup x=some b->(x,b)∈l |[],_,_,h=>nomatch h |(n,k)::r,x,b,h=>by rw[jK]at h;cases z:x==n with |true=>rw[z]at h;cases h;rw[gJ.mp z];erw[.head _] |false=>rw[z]at h;erw[.tail _ (lookup_mem h)]
theorem RP{env:Env}{x:Str}{k:NameKind}:∀{names:List (Str×NameKind)},(names.map λ(n,k)=>if(k==NameKind.free&&env.scope.kind== .function&&env.kindOf n==some .cell)then(n,NameKind.cell)else(n,k)).lookup x=some k->names.lookup x=some k\/(k= .cell/\names.lookup x=some .free) |[],h=>nomatch h |(n,k')::r,h=>by have ih:=@RP env x k r;have h':List.lookup x ((if(k'==NameKind.free&&env.scope.kind== .function&&env.kindOf n==some .cell)=true then(n,NameKind.cell)else(n,k'))::(r.map λ(n,k)=>if(k==NameKind.free&&env.scope.kind== .function&&env.kindOf n==some .cell)then(n,NameKind.cell)else(n,k)))=some k:=h;cases z:x==n with
 |true=>
  split at h'
  ·rename_i hc
   simp only[jK,z]at h';cases h';rw[fD,fD]at hc;have e:k'= .free:=gJ.mp hc.1.1;subst e;erw[.inr #[Z,by rw[jK,z]]]
  ·simp only[jK,z]at h'
   cases h';erw[.inl (by rw[jK,z])] |false=>
  rw[jK,z];erw[ih ?_];split at h'
  ·simpa only[jK,z]using h'
  ·simpa only[jK,z]using h'
theorem Inv.comp{N:List Str}{js:List (Option Nat)}{cl:List (Str×Addr)}{fp:List Addr}{tk:Nat}(I:Inv X ay O H s)(hN:EO X N js scope=true)(hS:yV X scope=true) (c1:∀x c,cl.lookup x=some c->X.env.cells.lookup x=some c)(c2:∀x∈scope.names,x.2= .free->∃c,cl.lookup x.1=some c)(hf:∀b∈fp,mK X ay H b)(hfl:∀b∈fp,b<s.heap.objs.size) (hn:h'.Ns s.heap.objs.size λ_=>none)(hk:∀b o,s.heap.get? b=some o->h'.get? b=some o):Inv (gI X N scope cl s H fp ay) [] (stC js O) H {s with heap:=h',toks:=tk}:=by
 unfold yV at hS;rw[fD,fD]at hS;let((s1,s2),s3):=hS;have qN:scope.kind= .function:=gJ.mp s1;have a7E:X.env.scope.kind= .function:=gJ.mp s2;unfold EO at hN;rw[fD]at hN;let(n1,n2):=hN;have hlen:N.length=js.length:=gJ.mp n1;have Uy:∀x k,(relabel scope X.env).names.lookup x=some k->scope.names.lookup x=some k\/(k= .cell/\scope.names.lookup x=some .free):=λx k e=>RP e;have a4J:∀x,scope.names.lookup x≠some .cell:=λx e=>by have:=jq.mp s3 _ (lookup_mem e);erw[iV this]
 have Vt:∀b∈(gI X N scope cl s H fp ay).fs,b∈X.env.locals::X.fs:=I.zF;have ok:(gI X N scope cl s H fp ay).Ok:={
  mod:=I.ok.mod
  kind:=qN
  glob:=I.ok.glob
  blt:=I.ok.blt
  above:=ck _
  inj:=λx y c e1 e2=>I.ok.inj x y c (c1 x c e1) (c1 y c e2)
  has:=λx hx=>by
   have fr:scope.names.lookup x=some .free->∃c,cl.lookup x=some c:=λe=>c2 (x,.free) (lookup_mem e) rfl;rcases hx with e|e
   ·rcases Uy x _ e with e|⟨_,e⟩
    ·erw[absurd e (a4J x)]
    ·erw[fr e]
   ·rcases Uy x _ e with e|⟨z,_⟩
    ·erw[fr e]
    ·cases z
  uo:=λx c e=>nomatch e
  hd:=I.ok.hd
  frames:=I.ok.frames
  xn:=.inl rfl
  Ew:=λb hb=>#[gq (hfl b hb),λx c e=>(hf b hb).2.2.2.2.1 x c (c1 x c e)]
  bs:=I.bs
  ng:=iK I.ok.ng I.sz
  vk:=λb o e hb=>by
   rcases(hf b hb).2.2.2.1 with z|z
   ·erw[I.ok.vk b o e z]
   ·erw[absurd (gP (cY e) (iK I.ok.ng z)) (si _)]
  ud:=λb hb z=>by
   let(_,q1,q2,_):=hf b hb;rcases bJ.mp (Vt b z)with e|e
   ·erw[q1 e]
   ·erw[q2 e]
  kD:=I.stack
  p8:=I.Cf};erw[ok,Z,I.bare,Un.kept hk,#[_,hn,λi x v e1 e2 e3=>?_],λx c e=>?_,I.bB.fresh (ck _),λx c e=>I.kZ x c (c1 x c e),λp hp=>?_,I.bB.kept hk,?_]
 ·have yQ:(js.map λ|none=>none|some j=>(O[j]?).join)[i]? =some (some v):=e2
  rw[cV]at yQ;cases hj:js[i]? with |none=>rw[hj]at yQ;cases yQ |some o=>rw[hj]at yQ;cases o with |none=>cases yQ |some j=>
   have hz:(N.zip js)[i]? =some (x,some j):=by rw[zm];erw[e1,hj]
   have WS:=jq.mp n2 _ (hO hz);simp only[fD,gJ]at WS;let((h1,h2),h3):=WS;have EI:(O[j]?).join=some v:=by simpa using yQ
   have hσ:O[j]? =some (some v):=by cases q:O[j]? with |none=>rw[q]at EI;cases EI |some o=>
    rw[q]at EI;have:o=some v:=by simpa using EI
    rw[this]
   let(m,hm,hl):=I.loc;let(u,r,l):=hl j x v h1 hσ (.inr (.inl h3));erw[u,r,?_];rcases l with⟨k,_⟩|⟨_,c,hc,nQ⟩
   ·rw[h3]at k;cases k
   ·let(c',iu):=c2 (x,.free) (lookup_mem h2) rfl
    have:=c1 x c' iu;rw[hc]at this;cases this;erw[.inr #[.inl (TV a7E h3 h2),c,iu,?_]];let(ob,ho,hd):=nQ;erw[ob,hk _ _ ho,hd]
 ·let(v,ob,ho,hd):=I.cell x c (c1 x c e)
  erw[v,ob,hk _ _ ho,hd]
 ·have yn:p∈X.pn++ay:=by simpa[gI]using hp
  let(a1,a2,a3,a4,a5):=I.pin p yn;erw[hk _ _ a1,a2,gq (cY a1),λz=>?_,a5];rcases bJ.mp (Vt p.1 z)with e|e
  ·erw[a3 e]
  ·erw[a4 e]
 ·show(js.map _).length=N.length
  rw[cJ,hlen]
end
theorem WI{prog:ah}{w:World}{A:aj}{R:Result->ae->Prop}{s:ae}{elt target iter:Expr}{ifs:List Expr}{scope:Scope}{pos:Pos}{it acc:Value}{env:Env}(I:Nat->ae->Prop) (turn:∀n s,I n s->wpAny (model prog w) A (pyNext it) (λr s₁=>match r with |none=>R (.ok .next) s₁ |some v=>wpAny (model prog w) A (letOwnedTupleGo target it v) (λ_ s₁=>wpAny (model prog w) A (assign target env v) (λ_ s₂=>wpAny (model prog w) A (forIn ifs true λc r=>if r=true then do let ok<-isTrue c env (eval c env);pure (ForInStep.yield ok)else pure (ForInStep.yield r)) (λok s₃=>if ok=true then wpAny (model prog w) A (eval elt env) (λx s₄=>wpAny (model prog w) A (call (.builtin "list.append") [acc,x]) (λ_ s₅=>∃m,m<n/\I m s₅) (λ_ _=>False) s₄) (λ_ _=>False) s₃ else∃m,m<n/\I m s₃) (λ_ _=>False) s₂) (λ_ _=>False) s₁) (λ_ _=>False) s₁) (λ_ _=>False) s) (n:Nat)(h:I n s):codeAny (model prog w) A (.compLoop (.ListComp elt [#[target,iter,ifs,0]] scope pos) 0 it acc env) R s:=by erw[codeAny_loop Z I (λn s hI=>?_) n h];show wpAny _ A ((compTurn (.ListComp elt [#[target,iter,ifs,0]] scope pos) 0 it acc env).onRaise (λx=>do noteFrame x env;theTreesLotGoes x)) _ _ s;erw[wpAny_noted ?_];rw[compTurn_list];erw[aW (wpAny_standAt (aW (kI (turn n s hI) (λr s₁ h₁=>?_) λ_ _ h'=>h'.elim)))];cases r with |none=>erw[cI h₁] |some v=>erw[aW (kI h₁ (λ_ afU h₁=>?_) λ_ _ h'=>h'.elim)];erw[aW (kI h₁ (λ_ s₂ h₂=>aW (kI h₂ (λok s₃ h₃=>?_) λ_ _ h'=>h'.elim)) λ_ _ h'=>h'.elim)];cases ok with |false=>erw[cI #[Z,h₃]] |true=>erw[aW (aW (kI h₃ (λx s₄ h₄=>aW (kI h₄ (λ_ s₅ h₅=>cI (cI #[Z,h₅])) λ_ _ h'=>h'.elim)) λ_ _ h'=>h'.elim))]
def N5(X:Cx)(ifs:List Expr)(t:TT):Prop:=∀(ay:List (Addr×Obj))(s:ae)(O:St)(H:Hp)(Q:Bool->Hp->Prop),Inv X ay O H s->t O H Q->wpAny (model X.prog X.w) X.A (forIn ifs true λc r=>if r=true then do let ok<-isTrue c X.env (eval c X.env);pure (ForInStep.yield ok)else pure (ForInStep.yield r)) (TP X ay O Q) X.xe s
def iX:TT:=λ_ H Q=>Q true H
theorem gs:N5 X [] iX:=λ_ _ _ H _ I h=>wpAny_tests_nil #[H,I,h]
def jo(J:It)(g:TG)(tt:TT)(te:TE)(Q:VK)(D:Addr)(O:St)(H:Hp):Prop:=∃W:Nat->Nat->St->Hp->Prop,(∃m,W 0 m O H)/\∀i m σ' H',W i m σ' H'->(J.stop i H'/\Q (.ref D) H')\/(J.go i H'/\∀x H2,J.kJ i H' x H2->g x σ' H2 λσ3 H3=>tt σ3 H3 λok H4=>if ok=true then te σ3 H4 λy H5=>∃ys,H5 D=some (.lst ys)/\ys.length<sizeLine/\∃m',m'<m/\W (i+1) m' σ3 (upd H5 D (.lst (ys++[y]))) else∃m',m'<m/\W (i+1) m' σ3 H4)
def Ox(js:List (Option Nat))(wi:TI)(g:TG)(tt:TT)(te:TE):TE:=λO H Q=>wi O H λJ H1=>∀D H2,Nw H1 H2 D (.lst [])->jo J g tt te Q D (stC js O) H2
theorem fb.but{P:ah}{w:World}(ok:fb P w H h)(hn:H C=none)(hs:Heap.SameBut C h h'):fb P w H h':=λb ob e=>by
 refine(ok b ob e).ny (λc w' hc q=>(hs.2 c ?_).trans q) (λ_ q=>q) λ_ _ q=>q;rintro rfl;rcases hc with rfl|hc
 ·rw[hn]at e;cases e
 ·rw[hn]at hc;cases hc
set_option maxHeartbeats 1000000 in
theorem gU{X:Cx}{N:List Str}{js:List (Option Nat)}{elt tg iter:Expr}{ifs:List Expr}{scope:Scope}{pos:Pos}{wi:TI}{g:TG}{tt:TT}{te:TE}(hc:X.calm=true)(hN:EO X N js scope=true)(hS:yV X scope=true) (hi:PI X tg iter wi)(hg:∀cl s H fp ay,PG (gI X N scope cl s H fp ay) tg g)(ht:∀cl s H fp ay,N5 (gI X N scope cl s H fp ay) ifs tt)(he:∀cl s H fp ay,PE (gI X N scope cl s H fp ay) elt te) (hs:autoParam (∀x,foldedSetIterable iter X.env x=pure x) d8_._auto_1):PE X (.ListComp elt [#[tg,iter,ifs,0]] scope pos) (Ox js wi g tt te):=by
 intro ay s O H Q I h;have vZ:=hS;unfold yV at vZ;rw[fD,fD]at vZ;let((k1,k2),k3):=vZ;have qN:scope.kind= .function:=gJ.mp k1;have yy:∀x∈scope.names,x.2= .free->∃c,X.env.cells.lookup x.1=some c:=λx hx e=>by have:=jq.mp k3 x hx;rw[e]at this;erw[I.ok.has x.1 (.inl (gJ.mp this))]
 have nQ:∀x∈scope.names,x.2≠ .cell:=λx hx e=>by have:=jq.mp k3 x hx;rw[e]at this;erw[iV this]
 have KY:∀x∈scope.names,x.2= .local->scope.names.lookup x.1=some .local:=λx hx e=>by have:=jq.mp k3 x hx;rw[e]at this;erw[gJ.mp this]
 let(cl,Lp,c1,c2):=WM yy;rw[eval_ListComp];erw[wpAny_comprehension_free (use:=none) Z hs Lp qN KY (bw (hi ay s O H _ I h) λv s1 h1=>bw h1 λDI s2 h2=>?_)];let(it,fp,tn,J,H2,e,I2,T,uQ,f2,h2):=h2;subst e;have hD:H2 s2.heap.objs.size=none:=I2.bB.fresh (ck _);let(W,(m0,w0),turn):=h2 _ _ (Nw.of hD);erw[rW (XN nQ (by intro y hy;simp at hy) (λh₁ AA Ax=>?_) qN)];have wk:∀b∈fp,b<s2.heap.objs.size:=λb hb=>by let(o,e,_):=T.obj _ _ uQ b hb;erw[cY e]
 have I3:Inv X ay O (upd H2 s2.heap.objs.size (.lst [])) {s2 with heap:=s2.heap.push {cls:=.type "list",dict:=none,data:=.seq ([]:List Value).toArray}}:=I2.U0 (its:=[]) (t':=s2.toks) .nil (gK _);generalize AL:s2.heap.push {cls:=.type "list",dict:=none,data:=.seq ([]:List Value).toArray}=h3 at I3 AA Ax;have zE:h3.objs.size=s2.heap.objs.size+1:=by rw[<-AL,uI]
 have Kp:∀b o,s2.heap.get? b=some o->h3.get? b=some o:=λb o e=>by rw[<-AL];erw[cW _ e]
 have f3:∀b∈fp,mK X ay (upd H2 s2.heap.objs.size (.lst [])) b:=λb hb=>#[by rw[aR (gq (wk b hb))];exact(f2 b hb).1,(f2 b hb).2];have Ap:∀b o,h3.get? b=some o->h₁.get? b=some o:=λb o e=>(Ax.2 b (gq (cY e))).trans (cW _ e);have I4:Inv (gI X N scope cl {s2 with heap:=h3} (upd H2 s2.heap.objs.size (.lst [])) fp ay) [] (stC js O) (upd H2 s2.heap.objs.size (.lst [])) {s2 with heap:=h₁,toks:=s2.toks+([]:List (Str×Value)).length}:=I3.comp (s:={s2 with heap:=h3}) hN hS c1 c2 f3 (λb hb=>by show b<h3.objs.size;rw[zE];erw[NB (wk b hb)]) (by simpa using AA) Ap;have zG:tn 0 h₁:=T.keep _ _ _ uQ λb _ o e=>Ap b o (Kp b o e);have loop:codeAny (model X.prog X.w) X.A (.compLoop (.ListComp elt [#[tg,iter,ifs,0]] scope pos) 0 (.ref it) (.ref s2.heap.objs.size) (compEnvC scope cl h3.objs.size X.env)) (compPost (model X.prog X.w) X.A X.xe none (EP X ay O Q) (.ref s2.heap.objs.size) h3.objs.size) {s2 with heap:=h₁,toks:=s2.toks+([]:List (Str×Value)).length}:=by
  erw[WI (λn s'=>∃i σ' H',Inv (gI X N scope cl {s2 with heap:=h3} (upd H2 s2.heap.objs.size (.lst [])) fp ay) [] σ' H' s'/\tn i s'.heap/\(∀b∈fp,H' b=none)/\W i n σ' H') ?_ m0 #[0,_,_,I4,zG,λb hb=>(f3 b hb).1,w0]];rintro n s5 ⟨i,σ5,H5,I5,qj,wj,w5⟩;have nH:∀{H':Hp},(∀b∈fp,H' b=none)->∀b∈fp,mK (gI X N scope cl {s2 with heap:=h3} (upd H2 s2.heap.objs.size (.lst [])) fp ay) [] H' b:=λ{H'} hn b hb=>by
   let(_,q1,q2,q3,q4,q5):=f3 b hb;erw[hn b hb,λz=>?_,I4.ok.ud b hb,.inl hb,λx c e=>q4 x c (c1 x c e),λp hp=>q5 p (by simpa[gI]using hp)];have cK:b<h3.objs.size:=by rw[zE];erw[NB (wk b hb)]
   erw[gq cK z]
  rcases turn i n σ5 H5 w5 with⟨stop,qn⟩|⟨go,step⟩
  ·erw[bw (T.done (gI X N scope cl {s2 with heap:=h3} (upd H2 s2.heap.objs.size (.lst [])) fp ay) rfl rfl rfl hc i [] s5 σ5 H5 _ I5 (nH wj) qj stop) λr s6 #[hr,I6]=>?_]
   subst hr;let(m,hm,_):=I6.loc;erw[m,hm,λh7 DQ=>?_];have u0:Un (dJ X.stack) fp (upd H2 s2.heap.objs.size (.lst [])) H5 h3 s6.heap:=I6.aB;have ne:∀b o,h3.get? b=some o->b≠h3.objs.size:=λb o e=>gq (cY e);have u:Un (dJ X.stack) fp (upd H2 s2.heap.objs.size (.lst [])) H5 h3 h7:=#[λb o e n hb hx=>(DQ.2 b (ne b o e)).trans (u0.keep b o e n hb hx),λb o e n hb hx=>let#[sl,q]:=u0.slot b o e n hb hx;#[sl,(DQ.2 b (ne b o e)).trans q],u0.free,λb o e hx=>let#[o',q]:=u0.there b o e hx;#[o',(DQ.2 b (ne b o e)).trans q],u0.lG,u0.kY,u0.kL];have I7:Inv X ay O H5 {s6 with heap:=h7}:=I3.ER (s':={s6 with heap:=h7}) (ch:=fp) I6.os u (I6.bB.but I6.free DQ) I6.bare λb hb=>#[(f3 b hb).2.2.2.1,(f3 b hb).2.1,(f3 b hb).2.2.2.2.1,(f3 b hb).2.2.2.2.2];erw[.ref s2.heap.objs.size,H5,I7,Z,qn]
  ·erw[bw (T.item (gI X N scope cl {s2 with heap:=h3} (upd H2 s2.heap.objs.size (.lst [])) fp ay) rfl rfl rfl hc i [] s5 σ5 H5 _ I5 (nH wj) qj go) λr s6 #[u,hr,h6]=>?_]
   subst hr;erw[bw h6 λ_ s7 #[x,H7,I7,r7,y7,qi,LZ]=>?_];have Nc:=I7.pinned (nH LZ) (T.obj _ _ qi);erw[bw (hg _ _ _ _ _ _ s7 σ5 H7 x u _ Nc r7 (step x H7 y7)) λ_ s8 #[σ8,H8,I8,q8]=>?_];erw[bw (ht _ _ _ _ _ _ s8 σ8 H8 _ I8 q8) λok s9 #[H9,I9,q9]=>?_];have again:∀{s':ae}{σ7:St}{H7:Hp},Inv (gI X N scope cl {s2 with heap:=h3} (upd H2 s2.heap.objs.size (.lst [])) fp ay) ([]++xM fp s7.heap) σ7 H7 s'->(∃m',m'<n/\W (i+1) m' σ7 H7)->∃m,m<n/\∃i σ' H',Inv (gI X N scope cl {s2 with heap:=h3} (upd H2 s2.heap.objs.size (.lst [])) fp ay) [] σ' H' s'/\tn i s'.heap/\(∀b∈fp,H' b=none)/\W i m σ' H':=λ{s' σ7 H7} J7 n7=>by let(m',hm,w7):=n7;erw[m',hm,i+1,σ7,H7,J7.zu,T.keep _ _ _ qi λb hb o e=>(J7.pin (b,o) (mL _ (mL _ (yd hb e)))).1,λb hb=>?_,w7];let(o,e,d):=T.obj _ _ qi b hb;exact(J7.pin (b,o) (mL _ (mL _ (yd hb e)))).2.1
   cases ok with |false=>rw[bI iV]at q9⊢;erw[again I9 q9] |true=>rw[bE rfl]at q9⊢;erw[bw (he _ _ _ _ _ _ s9 σ8 H9 _ I9 q9) λyv oF #[y,kG,zd,Jp,ys,qJ,hz,lW]=>?_];erw[bw (K4 _ oF σ8 kG (.ref s2.heap.objs.size) [y] (.ref s2.heap.objs.size) [yv] (λ_ jn=>∃m',m'<n/\W (i+1) m' σ8 jn) zd Z (.cons Jp .nil) #[_,ys,y,Z,Z,qJ,hz,lW]) λ_ CL #[v11,jn,Nd,r11,zW]=>?_];erw[again Nd zW]
 erw[codeAny_compStart_list loop (T.self _ 0 _ _ _ zG loop)]
theorem MO:∀{bs:List Bool}{us:List Value},Vals (bs.map V.bl) us->us=bs.map Value.bool |[],_,.nil=>rfl |b::r,_,.cons q t=>by cases(show _=Value.bool b from q);rw[MO t];rfl
section
variable {X:Cx}
theorem aci(hc:X.calm=true):gb X (.builtin "all") (λxs H Q=>∃(l:Addr)(bs:List Bool),xs=[.ref l]/\aK X.K H l (bs.map V.bl)/\Q (.bl (bs.all id)) H):=by
 intro ay s O H xs us Q I r h;let(l,bs,rfl,hl,q):=h;let(u,rfl,ru):=vals1 r;cases(show u=Value.ref l from ru);let(its,rv,pl,hz):=I.list hl;have e:=MO rv;subst e;have fw:=pl.isList;have cK:l<s.heap.objs.size:=by let(_,e,_):=fw;erw[cY e]
 have hh:=I.ok.hd hc;erw[call_all_walk (Fj fw ?_)];erw[s.heap.objs.size,[s.heap.objs.size,l],[s.heap.objs.size],(bs.map Value.bool).toArray.size,_,_,λi=>(bs[i]?).getD true,Z,Walks.list (A:=X.A.in1) hh _ l (gq cK) (bs.map Value.bool).toArray,#[#[_,fO _ Z,Z,Z],fw.push _],λi v s' Q' E' hP hQ=>?_,λh' tk hk=>?_]
 ·have nU:(bs.map Value.bool)[i]? =some v:=by simpa using hP
  rw[cV]at nU;cases e:bs[i]? with |none=>rw[e]at nU;cases nU |some b=>rw[e]at nU;cases nU;simp only[e,Option.getD_some]at hQ;erw[pO hQ]
 ·have e:((List.range (bs.map Value.bool).toArray.size).all λi=>(bs[i]?).getD true)=bs.all id:=by rw[fC,cJ];erw[LSm.range_all bs]
  rw[e];erw[.bl _,H,I.kept (LSm.kept_iter hk),Z,q]
theorem ach(hc:X.calm=true):gb X (.builtin "any") (λxs H Q=>∃(l:Addr)(bs:List Bool),xs=[.ref l]/\aK X.K H l (bs.map V.bl)/\Q (.bl (bs.any id)) H):=by
 intro ay s O H xs us Q I r h;let(l,bs,rfl,hl,q):=h;let(u,rfl,ru):=vals1 r;cases(show u=Value.ref l from ru);let(its,rv,pl,hz):=I.list hl;have e:=MO rv;subst e;have fw:=pl.isList;have cK:l<s.heap.objs.size:=by let(_,e,_):=fw;erw[cY e]
 have hh:=I.ok.hd hc;erw[call_any_walk (Fj fw ?_)];erw[s.heap.objs.size,[s.heap.objs.size,l],[s.heap.objs.size],(bs.map Value.bool).toArray.size,_,_,λi=>(bs[i]?).getD false,Z,Walks.list (A:=X.A.in1) hh _ l (gq cK) (bs.map Value.bool).toArray,#[#[_,fO _ Z,Z,Z],fw.push _],λi v s' Q' E' hP hQ=>?_,λh' tk hk=>?_]
 ·have nU:(bs.map Value.bool)[i]? =some v:=by simpa using hP
  rw[cV]at nU;cases e:bs[i]? with |none=>rw[e]at nU;cases nU |some b=>rw[e]at nU;cases nU;simp only[e,Option.getD_some]at hQ;erw[pO hQ]
 ·have e:((List.range (bs.map Value.bool).toArray.size).any λi=>(bs[i]?).getD false)=bs.any id:=by rw[fC,cJ];erw[LSm.range_any bs]
  rw[e];erw[.bl _,H,I.kept (LSm.kept_iter hk),Z,q]
end
theorem uj{D:Addr}(n:Nat)(Pv:Nat->St->Hp->Prop)(h0:Pv 0 O H) (hs:∀i O H,i<n->Pv i O H->J.go i H/\∀x H2,J.kJ i H x H2->g x O H2 λσ3 H3=>tt σ3 H3 λok H4=>if ok=true then te σ3 H4 λy H5=>∃ys,H5 D=some (.lst ys)/\ys.length<sizeLine/\∃m',m'<n-i/\m'=n-(i+1)/\i+1<=n/\Pv (i+1) σ3 (upd H5 D (.lst (ys++[y]))) else∃m',m'<n-i/\m'=n-(i+1)/\i+1<=n/\Pv (i+1) σ3 H4) (hd:∀O H,Pv n O H->J.stop n H/\Q (.ref D) H): jo J g tt te Q D O H:=by
 erw[λi m O H=>m=n-i/\i<=n/\Pv i O H,#[n,by simp,gK _,h0],?_];rintro i m O H ⟨rfl,hi,p⟩;by_cases cK:i<n
 ·erw[.inr (hs i O H cK p)]
 ·have e:i=n:=by lia
  subst e;erw[.inl (hd O H p)]
section
variable {X:Cx} {tg:Expr}
theorem ixK(K:aa)(h:X.K=K):rS X (λx y H Q=>Jk K x y H Q\/Jj K x y H Q):=by subst h;erw[a6m.or a6k]
inductive aeP(K:aa)(x:V)(lo:Option Int)(hi:Option Int)(H:Hp)(Q:VK):Prop |mk (a:_)(xs:_)(h0:x= .ref a)(h1:((aK K H a xs/\∀p H',Nw H H' p (.lst (nZ xs lo hi))->Q (.ref p) H')\/ (aV K H a xs/\¬(_H.cN xs.length 0 lo=0/\_H.cN xs.length xs.length hi=xs.length)/\∀p H',Nw H H' p (.tup (nZ xs lo hi))->Q (.ref p) H')))
def a1J(K:aa):V->Option Int->Option Int->Hp->VK->Prop:=λx lo hi H Q=>aeP K x lo hi H Q
theorem Gs(K:aa)(h:X.K=K):Fb X (a1J K):=by
 subst h;intro ay s O H x v vl vu lo hi sl Q I rx hs pl pu hq;let(a,xs,e,hq):=hq;rcases hq with⟨h1,k⟩|⟨h1,h2,k⟩
 ·erw[a0d ay s O H x v vl vu lo hi sl Q I rx hs pl pu #[a,xs,e,h1,λp hp=>k p _ (.of hp)]]
 ·erw[a0c ay s O H x v vl vu lo hi sl Q I rx hs pl pu #[a,xs,e,h1,h2,λp hp=>k p _ (.of hp)]]
theorem a5W(K:aa)(h:X.K=K):gb X (.builtin "len") (λxs H Q=>∃p ys,xs=[.ref p]/\(aK K H p ys\/aV K H p ys)/\Q (.int ys.length) H):=by subst h;erw[ace]
theorem a6q(K:aa)(h:X.K=K):gb X (.builtin "isinstance") (λxs H Q=>Jm K xs H Q\/Jl K xs H Q):=by subst h;erw[acg.or acf]
theorem dF(K:aa)(h:X.K=K)(hu:X.A.units+64<cLine):dU X (compareOp .Eq) (λx y H Q=>lJ (λi j=>.bl (decide (i=j))) x y H Q\/Jn K x y H Q):=by subst h;erw[a2S hu]
theorem jy(K:aa)(h:X.K=K)(hu:X.A.units+64<cLine):dU X (compareOp .NotEq) (λx y H Q=>lJ (λi j=>.bl (!decide (i=j))) x y H Q\/Ji K x y H Q):=by subst h;erw[a2M hu]
theorem rJ(K:aa)(h:X.K=K)(hc:X.calm=true):gb X (.builtin "all") (λxs H Q=>∃(l:Addr)(bs:List Bool),xs=[.ref l]/\aK K H l (bs.map V.bl)/\Q (.bl (bs.all id)) H):=by subst h;erw[aci hc]
theorem Xh(K:aa)(h:X.K=K)(hc:X.calm=true):gb X (.builtin "any") (λxs H Q=>∃(l:Addr)(bs:List Bool),xs=[.ref l]/\aK K H l (bs.map V.bl)/\Q (.bl (bs.any id)) H):=by subst h;erw[ach hc]
theorem Ki(K:aa)(h:X.K=K):gb X (.type "list") (λxs H Q=>∃p ys,xs=[.ref p]/\(aK K H p ys\/aV K H p ys)/\∀l H',Nw H H' l (.lst ys)->Q (.ref l) H'):=by subst h;intro ay s O H xs us Q I r hq;let(p,ys,e,h1,k):=hq;erw[acb ay s O H xs us Q I r #[p,ys,e,h1,λl hl=>k l _ (.of hl)]]
theorem lX(K:aa)(h:X.K=K):gb X (.type "tuple") (λxs H Q=>∃p ys,xs=[.ref p]/\((aK K H p ys/\∀l H',Nw H H' l (.tup ys)->Q (.ref l) H')\/(aV K H p ys/\Q (.ref p) H))):=by subst h;intro ay s O H xs us Q I r hq;let(p,ys,e,h1):=hq;erw[ac6 ay s O H xs us Q I r #[p,ys,e,h1.imp (λ#[a,k]=>#[a,λl hl=>k l _ (.of hl)]) id]]
def G4(t:TA):TE:=λO H Q=>t O H λxs H1=>xs.length<=sizeLine/\∀p H',Nw H1 H' p (.tup xs)->Q (.ref p) H'
def Ot(t:TA):TE:=λO H Q=>t O H λxs H1=>xs.length<=sizeLine/\∀p H',Nw H1 H' p (.lst xs)->Q (.ref p) H'
theorem cQ{t:TA}{x1}(h:PA X es t):PE X (.Tuple es x1 pos) (G4 t):=by intro ay s O H Q I hq;erw[wpAny_Tuple_spliced (bw (h pos ay s O H _ I hq) λus s1 #[xs,H1,I1,r,z,q]=>#[by rw[<-r.length];erw[z],?_])];have hf:H1 s1.heap.objs.size=none:=I1.bB.fresh (ck _);erw[.ref s1.heap.objs.size,upd H1 s1.heap.objs.size (.tup xs),I1.laid (t':=s1.toks) (λb u e=>cW _ e) (ck _) ?_,Z,q _ _ (.of hf)];erw[z,us,r,#[_,fO _ Z,Z,_,Z]]
theorem dC{t:TA}(h:PA X es t):PE X (.List es pos) (Ot t):=by intro ay s O H Q I hq;erw[wpAny_List_spliced (bw (h pos ay s O H _ I hq) λus s1 #[xs,H1,I1,r,z,q]=>#[by rw[<-r.length];erw[z],?_])];have hf:H1 s1.heap.objs.size=none:=I1.bB.fresh (ck _);erw[.ref s1.heap.objs.size,upd H1 s1.heap.objs.size (.lst xs),I1.laid (t':=s1.toks) (λb u e=>cW _ e) (ck _) ?_,Z,q _ _ (.of hf)];erw[z,us,0,r,fO _ Z]
theorem zX(K:aa)(h:X.K=K){l:Expr}{tl:TE}(hl:PE X l tl):PI X tg l (UB K tl):=by subst h;erw[a2j hl]
theorem sY(K:aa)(h:X.K=K){l:Expr}{tl:TE}(hl:PE X l tl):PI X tg l (UA K tl):=by subst h;erw[a2f hl]
theorem eg(K:aa)(h:X.K=K){es:List Expr}{k:Nat}{t:pH}{n:Nat}{pos:Pos}(hc:X.calm=true)(hg:Bl X es t)(hn:autoParam ((assignEach es X.env).length=n) r8_._auto_1)(iQ:autoParam ((assignEach es X.env).findIdx? (·.1)=none) r8_._auto_1): PG X (.Tuple es k pos) (qU K n t):=by subst h;erw[a2l hc hg hn iQ]
theorem jR(K:aa)(h:X.K=K){o e:Expr}{to:TE}{t:TA}{apos da:Pos}(ho:PE X o to)(ha:PA X [e] t) (jX:autoParam (attributeBase o "append" X.env (eval o X.env)=eval o X.env) r8_._auto_1) (mx:autoParam (((backTo da (starEach [e] X.env)).all (λx=>!x.1)&&(backToKw da (keywordEach [] X.env)).all (λx=>x.1.isSome) &&decide ([e].length+([]:List Keyword).length+(if([]:List Keyword).isEmpty then 0 else 1)<30))=true) r8_._auto_1) (jV:autoParam ((apos.endLine==da.line)=true) r8_._auto_1)(hs:autoParam (starEach [e] X.env=(false,eval e X.env)::starEach [] X.env) r8_._auto_1)(mm:autoParam ((backTo da (starEach [] X.env)).any (·.1)=false) r8_._auto_1): PE X (.Call (.Attribute o "append" apos) [e] [] da) (uP K "list" S8 to t):=by subst h;erw[xO BE PySem.F.slot_list_append PySem.F.type_list_append K4 ho ha jX mx jV hs mm]
theorem BS{j:Nat}{x:V}{O:St}{H:Hp}{A B:St->Hp->Prop}(h:A (O.set j (some x)) H):fK j x O H λσ3 H3=>iX σ3 H3 λok H4=>if ok=true then A σ3 H4 else B σ3 H4:=by show if true=true then A (O.set j (some x)) H else B (O.set j (some x)) H;rw[bE rfl];erw[h]
theorem yes(h:Q true H):iX O H Q:=h
end
theorem aK.go{K:aa}(s:aH H H')(h:aK K H a xs):aK K H' a xs:=h.imp (λr=>r.imp (s _ _) λ#[o,e]=>#[o,s _ _ e]) id
theorem aV.go{K:aa}(s:aH H H')(h:aV K H a xs):aV K H' a xs:=h.imp (λr=>r.imp (s _ _) λ#[o,e]=>#[o,s _ _ e]) id
mutual
theorem RD.mono{K:aa}{H H':Hp}(s:aH H H'):∀{x:V}(d:ai),RD K H x d->RD K H' x d |x,.none,h=>by simpa[RD]using h |x,.bool b,h=>by simpa[RD]using h |x,.int i,h=>by simpa[RD]using h |x,.str y,h=>by simpa[RD]using h |x,.list ds,h=>by rw[RD]at h⊢;let(a,xs,e,h1,h2):=h;erw[a,xs,e,h1.go s,aO.mono s ds h2] |x,.tuple ds,h=>by rw[RD]at h⊢;let(a,xs,e,h1,h2):=h;erw[a,xs,e,h1.go s,aO.mono s ds h2] |x,.dict _,h=>by simp[RD]at h
theorem aO.mono {K:aa}{H H':Hp}(s:aH H H'):∀{xs:List V}(ds:List ai),aO K H xs ds->aO K H' xs ds |xs,[],h=>by simpa[aO]using h |xs,d::ds,h=>by rw[aO]at h⊢;let(y,ys,e,h1,h2):=h;erw[y,ys,e,RD.mono s d h1,aO.mono s ds h2]
end
section
variable {K:aa} {H H':Hp}
theorem aO.nil_inv(h:aO K H xs []):xs=[]:=by simpa[aO]using h
theorem aO.cons_inv(h:aO K H xs (d::ds)):∃y ys,xs=y::ys/\RD K H y d/\aO K H ys ds:=by rw[aO]at h;erw[h]
theorem RD.fE(h:RD K H x (.tuple ds)):∃a xs,x= .ref a/\aV K H a xs/\aO K H xs ds:=by rw[RD]at h;erw[h]
theorem RD.lst_inv(h:RD K H x (.list ds)):∃a xs,x= .ref a/\aK K H a xs/\aO K H xs ds:=by rw[RD]at h;erw[h]
theorem RD.int_inv(h:RD K H x (.int i)):x= .int i:=by rw[RD]at h;erw[h]
theorem RD.acu(h:RD K H x (.bool i)):x= .bl i:=by rw[RD]at h;erw[h]
theorem RD.str_inv(h:RD K H x (.str i)):x= .str i:=by rw[RD]at h;erw[h]
theorem RD.T4(h:RD K H x .none):x= .bF:=by rw[RD]at h;erw[h]
theorem aO.length:∀{xs:List V}{ds:List ai},aO K H xs ds->xs.length=ds.length |xs,[],h=>by rw[h.nil_inv];rfl |xs,d::ds,h=>by let(y,ys,rfl,_,h2):=h.cons_inv;rw[lE,lE,aO.length h2]
theorem aO.append:∀{xs ys:List V}{ds es:List ai},aO K H xs ds->aO K H ys es->aO K H (xs++ys) (ds++es) |xs,ys,[],es,h,g=>by rw[h.nil_inv];erw[g] |xs,ys,d::ds,es,h,g=>by let(y,zs,rfl,h1,h2):=h.cons_inv;erw[cj h1 (aO.append h2 g)]
theorem aO.drop:∀(n:Nat){xs:List V}{ds:List ai},aO K H xs ds->aO K H (xs.drop n) (ds.drop n) |0,xs,ds,h=>h |n+1,xs,[],h=>by rw[h.nil_inv];erw[dc] |n+1,xs,d::ds,h=>by let(y,zs,rfl,h1,h2):=h.cons_inv;erw[aO.drop n h2]
theorem aO.get:∀(n:Nat){xs:List V}{ds:List ai}{d:ai},aO K H xs ds->ds[n]? =some d->∃x,xs[n]? =some x/\RD K H x d
 |n,xs,[],d,h,e=>by simp at e |0,xs,d'::ds,d,h,e=>by
  let(y,zs,rfl,h1,h2):=h.cons_inv;have e':d'=d:=by simpa using e
  subst e';erw[y,Z,h1] |n+1,xs,d'::ds,d,h,e=>by let(y,zs,rfl,h1,h2):=h.cons_inv;erw[aO.get n h2 (by simpa using e)]
theorem aO.get'(n:Nat){xs:List V}{ds:List ai}{x:V}(h:aO K H xs ds)(e:xs[n]? =some x):∃d,ds[n]? =some d/\RD K H x d:=by
 have hl:n<ds.length:=by rw[<-h.length];exact(eQ.mp e).1
 let(y,e1,r):=h.get n (cC hl);rw[e]at e1;cases e1;erw[_,cC hl,r]
def ow:ai->String | .none=>"NoneType" | .bool _=>"bool" | .int _=>"int" | .str _=>"str" | .list _=>"list" | .tuple _=>"tuple" | .dict _=>"dict"
theorem RD.ty{x:V}:∀{d:ai},RD K H x d->wH K H x (ow d) | .none,h=>by rw[h.T4];rfl | .bool b,h=>by rw[h.acu];rfl | .int b,h=>by rw[h.int_inv];rfl | .str b,h=>by rw[h.str_inv];rfl | .list ds,h=>by let(a,xs,rfl,h1,_):=h.lst_inv;erw[.inl #[Z,xs,h1]] | .tuple ds,h=>by let(a,xs,rfl,h1,_):=h.fE;erw[.inr #[Z,xs,h1]] | .dict _,h=>by simp[RD]at h
structure eO(n:Nat)(d:ai):Prop where
 lay:d.canLay0=true
 dep:d.depth<=n
def hJ(n:Nat)(ds:List ai):Prop:=∀d∈ds,eO n d
theorem eO.le(h:eO n d)(l:n<=m):eO m d:=#[h.lay,iK h.dep l]
theorem xU{n:Nat}:∀{ds:List ai},hJ n ds↔(PyData.canLayAll0 ds=true/\PyData.depthAll ds<=n)
 |[]=>#[λ_=>#[Z,gK _],λ_ _ h=>nomatch h] |d::ds=>by
  have ih:=xU (n:=n) (ds:=ds);simp only[PyData.canLayAll0,PyData.depthAll,fD];constructor
  ·intro h
   have h1:=h d (.head _);have h2:=ih.mp λx hx=>h x (.tail _ hx);erw[#[h1.lay,h2.1],Nat.max_le.mpr #[h1.dep,h2.2]]
  ·rintro⟨⟨a,b⟩,c⟩ x hx
   have c':=Nat.max_le.mp c;rcases bJ.mp hx with rfl|hx
   ·erw[a,c'.1]
   ·erw[ih.mpr #[b,c'.2] x hx]
theorem hJ.tup(h:hJ n ds):eO (n+1) (.tuple ds):=#[by simpa[PyData.canLay0]using(xU.mp h).1,by simpa[PyData.depth]using(xU.mp h).2]
theorem hJ.lst{n:Nat}{ds:List ai}(h:hJ n ds):eO (n+1) (.list ds):=#[by simpa[PyData.canLay0]using(xU.mp h).1,by simpa[PyData.depth]using(xU.mp h).2]
theorem eO.fE(h:eO (n+1) (.tuple ds)):hJ n ds:=xU.mpr #[by simpa[PyData.canLay0]using h.lay,by simpa[PyData.depth]using h.dep]
theorem eO.int(i:Int):eO n (.int i):=#[Z,gK _]
theorem hJ.nil:hJ n []:=λ_ h=>nomatch h
theorem hJ.cons{n:Nat}{d:ai}{ds:List ai}(h:eO n d)(g:hJ n ds):hJ n (d::ds):=λx hx=>by
 rcases bJ.mp hx with rfl|hx
 ·erw[h]
 ·erw[g x hx]
theorem eO.shaped(h:eO n d)(l:n<=64):SeqAt.shaped d=true:=by unfold SeqAt.shaped;rw[h.lay,lF];erw[cU (iK h.dep l)]
theorem eO.refl(h:eO n d):PyData.eqv d d=true:=eqv_refl d h.lay
variable {p:Addr}{n m:Nat}{v:V}{vs:List V}{d:ai}{ds es:List ai}
end
section
variable {X:Cx}
end
end _L
namespace _H
open PySem PySem.Spec PyProof.Rows
section
variable {prog:ah}{w:World}{A:aj}{E:Value->ae->Prop}{s:ae}
end
end _H
namespace _L
open PySem PySem.Spec PyProof.Rows
section
variable {X:Cx}
end
end _L
namespace _L
theorem dQ{v:α}(h0:0<=i)(h:xs[i.toNat]? =some v):fW xs i=some v:=by have hl:i.toNat<xs.length:=(eQ.mp h).1;unfold fW kz;rw[bE h0,bE aw];erw[h]
end _L
namespace _L
open PySem PySem.Spec PyProof.Rows
theorem zK(n:Nat)(h:n<=1000):n<=sizeLine:=iK h aD
section
variable {X:Cx}{p pos pos':Pos}{a b e:Expr}{es:List Expr}{ta tb te:TE}{t:TA}{x:Str}
theorem px(K:aa)(ha:PE X a ta)(hb:PE X b tb)(hK:autoParam (X.K=K) r8_._auto_1)(hp:autoParam (Xx b) d8_._auto_1):PE X (.Subscript a b pos) (sJ (λx y H Q=>Jk K x y H Q\/Jj K x y H Q) ta tb):=Sl (ixK K hK) ha hb hp
theorem eV(K:aa)(B:cn X.mg)(ha:PA X (e::es) t)(hK:autoParam (X.K=K) r8_._auto_1)(hg:autoParam (Gl X "isinstance") r8_._auto_1)(he:autoParam (starEach (e::es) X.env=(false,eval e X.env)::starEach es X.env) r8_._auto_1)(gY:autoParam ((backTo pos (starEach es X.env)).any (·.1)=false) r8_._auto_1):PE X (.Call (.Name "isinstance" p) (e::es) [] pos) (Cb (λxs H Q=>Jm K xs H Q\/Jl K xs H Q) t):=eG (a6q K hK) hg (B.at "isinstance") wU ha aD aD he gY
theorem eK(K:aa)(B:cn X.mg)(ha:PA X (e::es) t)(hK:autoParam (X.K=K) r8_._auto_1)(hg:autoParam (Gl X "len") r8_._auto_1)(he:autoParam (starEach (e::es) X.env=(false,eval e X.env)::starEach es X.env) r8_._auto_1)(gY:autoParam ((backTo pos (starEach es X.env)).any (·.1)=false) r8_._auto_1):PE X (.Call (.Name "len" p) (e::es) [] pos) (Cb (λxs H Q=>∃p ys,xs=[.ref p]/\(aK K H p ys\/aV K H p ys)/\Q (.int ys.length) H) t):=eG (a5W K hK) hg (B.at "len") PySem.boot_len ha aD aD he gY
theorem pS(i:Nat)(hN:X.N.Nodup)(he:PE X e te)(hi:autoParam (X.N[i]? =some x) r8_._auto_1)(hx:autoParam (Loc X.env.scope x) d8_._auto_1)(hs:autoParam (swapsWith e (some (.Name x pos')) pos.line X.env=pure false) r8_._auto_1)(hf:autoParam (X.fn x=true\/X.env.scope.names.lookup x=some .local) d8_._auto_1):PS X (.Assign [.Name x pos'] e pos) (xi te (fK i)):=a23 hN hi hx he hs hf
theorem bR(i:Nat)(hN:X.N.Nodup)(hi:autoParam (X.N[i]? =some x) r8_._auto_1)(hx:autoParam (Loc X.env.scope x) d8_._auto_1)(hf:autoParam (X.fn x=true\/X.env.scope.names.lookup x=some .local) d8_._auto_1):PG X (.Name x pos) (fK i):=a2m hN hi hx hf
theorem vp (a:Str):[a].Nodup:=by simp
theorem gG{a b:Str}(h:(a==b)=false):[a,b].Nodup:=by
 have:a≠b:=λz=>by rw[z,Nj]at h;cases h
 simp[this]
theorem bU{n:Nat}(h:Nat.ble n 1000=true):n<=sizeLine:=zK n (NF h)
end
def GV(mg:cw)(x:Str)(v:V):Prop:=∃u,mg x=some u/\RelV v u
def GT(K:aa)(mg:cw)(x:Str)(vs:List V):Prop:=∃a,GV mg x (.ref a)/\∀H,aV K H a vs
theorem fG{v:V}(hg:Gl X x)(h:GV X.mg x v)(hd:autoParam ((x==("__debug__":Str))=false) q8_._auto_1):PE X (.Name x pos) (tC v):=by let(u,hm,r):=h;erw[a2r hg hm r hd]
section
variable {K:aa} {mg:cw} {h:Heap}
theorem u7{t:Tok}(X:K.In h)(G:h.Ns mainGlobals mg)(a:PySem.W.nsIn K mainGlobals x=some (some (.int i t))):GV mg x (.int i):=#[_,zk X G a,t,Z]
theorem Vj(X:K.In h)(G:h.Ns mainGlobals mg)(a:PySem.W.nsIn K mainGlobals x=some (some (.ref b))) (l:K.lookup b=some #[.type "tuple",od,.seq its n,gW])(hz:its.size<=sizeLine)(r:Vals vs its.toList):GT K mg x vs:=#[b,#[_,zk X G a,Z],λH=>.inr #[_,its,n,l,Z,Z,hz,r]]
end
section
variable {X:Cx}
theorem inK(K:aa)(h:X.K=K):dU X (compareOp .In) (S5 K false):=by subst h;erw[a2O]
end
theorem MK{xs:List V}{bs:List Bool}{D:Addr}(rest:St)(nw:Nw H H0 D (.lst []))(hl:xs.length=bs.length)(hz:xs.length<=1000) (go:∀i x H2,xs[i]? =some x->aH H H2->J.go i H2/\∀y H3,J.kJ i H2 y H3->H3=H2/\y=x)(stop:∀H2,aH H H2->J.stop xs.length H2) (hs:∀(i:Nat)(x:V)(b:Bool)(H2:Hp)(Q':VK),xs[i]? =some x->bs[i]? =some b->aH H H2->(∀H3,aH H2 H3->Q' (.bl b) H3)->te (some x::rest) H2 Q') (hq:∀H',aH H H'->H' D=some (.lst (bs.map V.bl))->Q (.ref D) H'):jo J (fK 0) iX te Q D (none::rest) H0:=by
 have hD:=nw.no;erw[uj xs.length (λi O H2=>aH H H2/\H2 D=some (.lst ((bs.take i).map V.bl))/\∃v,O=v::rest) ?_ ?_ ?_]
 ·erw[nw.same,nw.at',none,Z]
 ·rintro i O H2 hi ⟨s2,d2,v,rfl⟩
  have yx:i<bs.length:=by rw[<-hl];erw[hi]
  have ex:=cC hi;have eb:=cC yx;let(g1,g2):=go i _ H2 ex s2;erw[g1,λy H3 hy=>?_];let(rfl,rfl):=g2 y H3 hy;erw[BS ?_];erw[hs i _ _ _ _ ex eb s2 λH4 s4=>?_];erw[_,s4 _ _ d2,?_,xs.length-(i+1),aw,Z,aw,λb o e=>?_,?_,_,Z]
  ·rw[cJ,pU]
   have:(1000:Nat)<sizeLine:=by decide
   lia
  ·rw[aR (fZ e hD)];erw[s4 b o (s2 b o e)]
  ·rw[bo,sj,eb,pT];rfl
 ·rintro O H2 ⟨s2,d2,v,rfl⟩
  erw[stop H2 s2,hq H2 s2 ?_];rw[d2,hl,wV]
theorem WG{K:aa}{bs:List Bool}{D:Addr}(rest:St)(hx:aV K H a xs)(nw:Nw H H0 D (.lst []))(hl:xs.length=bs.length)(hz:xs.length<=1000) (hs:∀(i:Nat)(x:V)(b:Bool)(H2:Hp)(Q':VK),xs[i]? =some x->bs[i]? =some b->aH H H2->(∀H3,aH H2 H3->Q' (.bl b) H3)->te (some x::rest) H2 Q') (hq:∀H',aH H H'->H' D=some (.lst (bs.map V.bl))->Q (.ref D) H'):jo (uz K a) (fK 0) iX te Q D (none::rest) H0:=MK rest nw hl hz (λi x H2 e s=>#[#[xs,x,hx.go s,e],λy H3 #[e3,y3]=>#[e3,by have:=y3 _ (hx.go s);rw[e]at this;exact(fe this).symm]]) (λH2 s=>#[xs,hx.go s,ck _]) hs hq
theorem abX{K:aa}{bs:List Bool}{D:Addr}(rest:St)(hx:aK K H a xs)(nw:Nw H H0 D (.lst []))(hl:xs.length=bs.length)(hz:xs.length<=1000) (hs:∀(i:Nat)(x:V)(b:Bool)(H2:Hp)(Q':VK),xs[i]? =some x->bs[i]? =some b->aH H H2->(∀H3,aH H2 H3->Q' (.bl b) H3)->te (some x::rest) H2 Q') (hq:∀H',aH H H'->H' D=some (.lst (bs.map V.bl))->Q (.ref D) H'):jo (uA K a) (fK 0) iX te Q D (none::rest) H0:=MK rest nw hl hz (λi x H2 e s=>#[#[xs,x,hx.go s,e],λy H3 #[e3,y3]=>#[e3,by have:=y3 _ (hx.go s);rw[e]at this;exact(fe this).symm]]) (λH2 s=>#[xs,hx.go s,ck _]) hs hq
theorem TM{ds:List ai}{i:Nat}{b:Bool}(h:(ds.map f)[i]? =some b):∃d,ds[i]? =some d/\f d=b:=by rw[cV]at h;cases e:ds[i]? with |none=>rw[e]at h;cases h |some d=>rw[e]at h;erw[d,Z,fe h]
theorem all_map{ds:List ai}:(ds.map f).all id=ds.all f:=by rw[List.all_map];rfl
section
variable {X:Cx}
inductive af9(K:aa)(x:V)(y:V)(H:Hp)(Q:VK):Prop |mk (a:_)(b:_)(xs:_)(ys:_)(h0:x= .ref a)(h1:y= .ref b)(h2:aK K H a xs)(h3:aK K H b ys)(h4:xs.length+ys.length<=sizeLine)(h5:∀p H',Nw H H' p (.lst (xs++ys))->Q (.ref p) H')
def a1R(K:aa):R2:=λx y H Q=>af9 K x y H Q
theorem yW(K:aa)(hK:X.K=K):dU X (binaryOp .Add) (a1R K):=by
 subst hK;intro ay s O H x y v u Q I rx ry h;let(a,b,xs,ys,rfl,rfl,ha,hb,hz,q):=h;cases rx;cases ry;let(its,r1,p1,_):=I.list ha;let(nO,r2,p2,_):=I.list hb;let((cls,dd,data,sl),n,ho,hc,hdd,hd):=id p1;let((ahd,dd2,data2,Gu),n2,yo,E9,agT,hd2):=id p2;simp only at hc hd E9 hd2;subst hc hd E9 hd2;have e:its.toArray++nO.toArray=(its++nO).toArray:=by simp
 erw[concat_meets #[_,ho,Z] #[_,yo,Z] noFill_list_add seq_list_add PySem.F.slot_list_add PySem.F.entry_list_add (PySem.F.args_list_add_2 _ _) (list_addW a b its.toArray nO.toArray n n2 dd dd2 sl Gu (by rw[fC,fC,<-r1.length,<-r2.length];erw[hz])) #[ho,yo,?_]];rw[e];have nw:Nw H (upd H s.heap.objs.size (.lst (xs++ys))) s.heap.objs.size (.lst (xs++ys)):=.of (I.bB.fresh (ck _));erw[.ref s.heap.objs.size,_,I.laid (t':=s.toks) (o:=.lst (xs++ys)) (λb ob q=>cW _ q) (ck _) ?_,Z,q _ _ nw];erw[by rw[fN];erw[hz],_,0,r1.append r2,fO _ Z]
open Classical in
noncomputable def wm(h:Heap)(d:ai)(w:Value):Bool:=if q:∃e as,Reads h w e as then PyData.eqv q.choose d else false
theorem ab1{h:Heap}{d e:ai}{w:Value}{as:List Addr}(r:Reads h w e as):wm h d w=PyData.eqv e d:=by have q:∃e as,Reads h w e as:=#[e,as,r];unfold wm;rw[dif_pos q];let(as',r'):=q.choose_spec;rw[(Reads.unique r' e as r).1]
theorem VU{ay:List (Addr×Obj)}{s:ae}{O:St}{H:Hp}(I:Inv X ay O H s)(hu:X.A.units+65<cLine){x:V}{u:Value}{d:ai}(rx:RelV x u)(hd:RD X.K H x d)(sd:SeqAt.shaped d=true): ∀{xs:List V}{us:List Value}{ds:List ai},Vals xs us->aO X.K H xs ds->(∀e∈ds,SeqAt.shaped e=true)->(∀w∈us,SeqAt.EqAt X.A.in1 s w u (wm s.heap d w))/\us.any (wm s.heap d)=ds.any λe=>PyData.eqv e d |xs,us,[],rv,h,_=>by cases h.nil_inv;cases rv;erw[λ_ h=>(cD h).elim,Z] |xs,us,e::ds,rv,h,se=>by let(y,ys,rfl,h1,h2):=h.cons_inv;cases rv with |cons ra rb=>
 rename_i w ws;let(as,q1):=RD.reads I e ra h1;let(bs,q2):=RD.reads I d rx hd;have key:SeqAt.EqAt X.A.in1 s w u (PyData.eqv e d):=SeqAt.eqAt_reads e d X.A.in1 s w u as bs q1 q2 (XO (se e (.head _))) (XO sd) (SeqAt.room_of_shaped (se e (.head _)) (by show X.A.units+1+64<cLine;omega));let(k1,k2):=VU I hu rx hd sd rb h2 (λe' he=>se e' (.tail _ he));have ew:wm s.heap d w=PyData.eqv e d:=ab1 q1;erw[λz hz=>?_,?_]
 ·rcases bJ.mp hz with rfl|hz
  ·rw[ew];erw[key]
  ·erw[k1 z hz]
 ·rw[sy,sy,ew,k2]
end
end _L
namespace _L
theorem dh.YH{k:Nat}{A:PySem.Around}(r:dh k A):A.units+65<PySem.cLine:=by have:=r.un;lia
end _L
namespace _L
open PySem PySem.Spec PyProof.Rows
def lj(b:Bool)(h:Heap)(it l:Addr)(k:Nat):Prop:=match b with|true=>h.IsListIter it l k|false=>h.IsTupleIter it l k
def iS(b:Bool)(h:Heap)(l:Addr)(xs:Array Value):Prop:=match b with|true=>h.IsList l xs|false=>h.IsTuple l xs
def uk(b:Bool):String:=match b with|true=>"list_iterator"|false=>"tuple_iterator"
theorem lj.to{it:Addr}{k:Nat}(x:lj b h it l k)(e:∀o,h.get? it=some o->g.get? it=some o):lj b g it l k:=by cases b<;>(let(o,ho,r):=x;erw[o,e o ho,r])
theorem iS.to(x:iS b h l xs)(e:∀o,h.get? l=some o->g.get? l=some o):iS b g l xs:=by cases b<;>(let(o,ho,r):=x;erw[o,e o ho,r])
theorem lj.ob{it:Addr}{k:Nat}(x:lj b h it l k):∃o,h.get? it=some o/\o.cls= .type (uk b)/\∀v,o.data≠ .cell v:=by cases b<;>(let(o,ho,c,d):=x;erw[o,ho,c,λv z=>by rw[d]at z;cases z])
section
variable {prog:ah}{w:World}{A:aj}{E:Value->ae->Prop}{s:ae}
theorem y6{b:Bool}{l:Addr}{xs:Array Value}{Q:Value->ae->Prop}(x:iS b s.heap l xs) (q:Q (.ref s.heap.objs.size) {s with heap:=s.heap.push {cls:=.type (uk b),data:=.fields (List.toArray [.ref l,.int 0 0])}}):wpAny (model prog w) A (pyIter (.ref l)) Q E s:=by
 cases b
 ·erw[wpAny_pyIter_tuple x q]
 ·erw[Fj x q]
theorem a4x{it t:Addr}{k:Nat}{ts:Array Value}{x:Value}{Q:Value->ae->Prop}(hi:s.heap.IsTupleIter it t k)(ht:s.heap.IsTuple t ts)(hx:ts[k]? =some x) (q:∀g,g.IsTupleIter it t (k+1)->Heap.SameBut it s.heap g->Q x {s with heap:=g}):wpAny (model prog w) A (Builtin.SmallTypes.nextOf (.ref it)) Q E s:=by let(oi,mq,ci,di):=id hi;let(ot,KR,_,nt,dt):=ht;unfold Builtin.SmallTypes.nextOf;erw[aW (Fp (name:=Str.ofString "__next__") hi.typeIs Nu (Fo Nu hi.typeIs afw ?_ (afx _)))];show wpAny _ _ (field (.ref it) 0>>=_) _ _ s;erw[aW (kg mq di (x:=.ref t) Z ?_)];show wpAny _ _ (if(Value.ref t==Value.none)=true then _ else _) _ _ s;rw[bI (show¬((Value.ref t==Value.none)=true)from iV)];show wpAny _ _ (field (.ref it) 1>>=_) _ _ s;erw[aW (kg mq di (x:=.int k 0) Z ?_)];show wpAny _ _ (seqItems? (.ref t)>>=_) _ _ s;erw[aW (wN KR dt ?_)];simp only[Y9,hx];erw[aW (Fi mq di (by simp) (cI #[x,Z,cI (q _ ?_ (Heap.SameBut.update ..))]))];erw[_,NR _ mq (Y1 (Fw di _)),(Obj.cls_mapFields ..).trans ci,by rw[Fw di];simp[rawInt]]
theorem ab7{it t:Addr}{k:Nat}{ts:Array Value}{Q:Value->ae->Prop}(hh:A.handled=none)(hi:s.heap.IsTupleIter it t k)(ht:s.heap.IsTuple t ts)(hx:ts[k]? =none) (q:∀g e,Heap.ExtBut it s.heap g->(∃o,g.get? e=some o/\o.cls= .type "StopIteration")->E (.ref e) {s with heap:=g}):wpAny (model prog w) A (Builtin.SmallTypes.nextOf (.ref it)) Q E s:=by
 let(oi,mq,ci,di):=id hi;let(ot,KR,_,nt,dt):=ht;unfold Builtin.SmallTypes.nextOf;erw[aW (Fp (name:=Str.ofString "__next__") hi.typeIs Nu (Fo Nu hi.typeIs afw ?_ (afx _)))];show wpAny _ _ (field (.ref it) 0>>=_) _ _ s;erw[aW (kg mq di (x:=.ref t) Z ?_)];show wpAny _ _ (if(Value.ref t==Value.none)=true then _ else _) _ _ s;rw[bI (show¬((Value.ref t==Value.none)=true)from iV)];show wpAny _ _ (field (.ref it) 1>>=_) _ _ s;erw[aW (kg mq di (x:=.int k 0) Z ?_)];show wpAny _ _ (seqItems? (.ref t)>>=_) _ _ s;erw[aW (wN KR dt ?_)];simp only[Y9,hx];erw[aW (wpAny_rule (aW (Fi mq di (by simp) ?_)))];show wpAny _ _ (newExc (.type "StopIteration") []>>=_) _ _ _;erw[aW ?_];simp only[newExc,newTuple];erw[aW (rW ?_ (by size_fits))];erw[aW (m:=firstArgMember _ _) (Bx (a:=Value.none) (by first|rfl|(simp only[firstArgMember];rfl)) ?_)];erw[rW ?_ (by size_fits)];simp only[raiseNew];erw[aW (wpAny_handled ?_)]
 first|rw[show A.in1.handled=none from hh]|rw[hh]
 erw[aW (cI (wpAny_throw (q _ _ (((Heap.SameBut.update ..).extBut.push _).push _) #[_,fO _ Z,Z])))]
theorem Df{b:Bool}{it l:Addr}{k:Nat}{xs:Array Value}{x:Value}{Q:Value->ae->Prop}(hi:lj b s.heap it l k)(hl:iS b s.heap l xs)(hx:xs[k]? =some x) (q:∀g,lj b g it l (k+1)->Heap.SameBut it s.heap g->Q x {s with heap:=g}):wpAny (model prog w) A (Builtin.SmallTypes.nextOf (.ref it)) Q E s:=by
 cases b
 ·erw[a4x hi hl hx q]
 ·erw[wpAny_nextOf_list_item hi hl hx q]
theorem Mr{b:Bool}{it l:Addr}{k:Nat}{xs:Array Value}{Q:Value->ae->Prop}(hh:A.handled=none)(hi:lj b s.heap it l k)(hl:iS b s.heap l xs)(hx:xs[k]? =none) (q:∀g e,Heap.ExtBut it s.heap g->(∃o,g.get? e=some o/\o.cls= .type "StopIteration")->E (.ref e) {s with heap:=g}):wpAny (model prog w) A (Builtin.SmallTypes.nextOf (.ref it)) Q E s:=by
 cases b
 ·erw[ab7 hh hi hl hx q]
 ·erw[wpAny_nextOf_list_end hh hi hl hx q]
structure Zp(b1 b2:Bool)(h:Heap)(z TI TO i1 i2 l1 l2:Addr)(f0:Value)(k:Nat):Prop where
 zz:IsZip h z TI TO f0
 ti:IsPair h TI (.ref i1) (.ref i2)
 to:∃a b,IsPair h TO a b
 n1:lj b1 h i1 l1 k
 n2:lj b2 h i2 l2 k
theorem Sz{z TI TO:Addr}{Q:Bool->ae->Prop}(hz:IsZip s.heap z TI TO .none)(q:Q true s):wpAny (model prog w) A (Builtin.SmallTypes.ownedTupleIsFree (.ref z)) Q E s:=by unfold Builtin.SmallTypes.ownedTupleIsFree;erw[aW (kg hz Z (x:=.none) Z (cI q))]
theorem Yi{b1 b2:Bool}{z TI TO i1 i2 l1 l2:Addr}{k:Nat}{xs ys:Array Value}{x y:Value}{Q:Value->ae->Prop}(D:ZipApart z TI TO i1 i2 l1 l2)(aht:Zp b1 b2 s.heap z TI TO i1 i2 l1 l2 .none k) (vS:iS b1 s.heap l1 xs)(tQ:iS b2 s.heap l2 ys)(hx:xs[k]? =some x)(hy:ys[k]? =some y) (q:∀g,Zp b1 b2 g z TI TO i1 i2 l1 l2 (rawInt s.heap.objs.size) (k+1)->IsPair g s.heap.objs.size x y->(∀c o,c≠z->c≠TO->c≠i1->c≠i2->s.heap.get? c=some o->g.get? c=some o)->Q (.ref s.heap.objs.size) {s with heap:=g}): wpAny (model prog w) A (Builtin.«zip.__next__» #[[.ref z],[]]) (λr s'=>∃v,r= .done (.ret v)/\Q v s') E s:=by
 let(hz,mY,(a,b,nS),h1,h2):=aht;show wpAny _ _ (field (.ref z) 2>>=_) _ _ _;erw[aW (kg hz Z (x:=.bool false) Z ?_)];show wpAny _ _ (field (.ref z) 3>>=_) _ _ _;erw[aW (kg hz Z (x:=.ref TI) Z (aW (wN mY Z ?_)))];show wpAny _ _ (Builtin.SmallTypes.ownedTupleIsFree (.ref z)>>=_) _ _ _;erw[aW (Sz hz ?_)];simp only[wQ];erw[aW (wpAny_rule (aW (kg hz Z (x:=.ref TO) Z (aW (Bw hz (by simp) λg1 z1 e1=>?_)))))];replace z1:IsZip g1 z TI TO .ellipsis:=z1;erw[aW ?_];simp only[List.zipIdx_cons,List.zipIdx_nil,FG,List.forIn_nil];erw[aW (aW (Fm ?_))];show wpAny _ _ (Builtin.SmallTypes.nextOf (.ref i1)>>=_) _ _ _;erw[aW (Df (h1.to λo e=>e1.extBut _ _ D.i1z e) (vS.to λo e=>e1.extBut _ _ D.l1z e) hx λg2 n1 e2=>cI ?_)];have t2:IsPair g2 TO a b:=e2.extBut _ _ D.TOi1 (e1.extBut _ _ D.TOz nS);erw[aW (wN t2 Z (aW (XJ t2 λg3 t3 e3=>?_)))];replace t3:IsPair g3 TO x b:=t3;erw[aW (wpAny_letGo (cI ?_))];erw[aW (aW (Fm ?_))];show wpAny _ _ (Builtin.SmallTypes.nextOf (.ref i2)>>=_) _ _ _;erw[aW (Df (h2.to λo e=>e3.extBut _ _ D.TOi2.symm (e2.extBut _ _ D.i12.symm (e1.extBut _ _ D.i2z e))) (tQ.to λo e=>e3.extBut _ _ D.l2TO (e2.extBut _ _ D.l2i1 (e1.extBut _ _ D.l2z e))) hy λg4 n2 e4=>cI ?_)];have t4:IsPair g4 TO x b:=e4.extBut _ _ D.TOi2 t3;erw[aW (wN t4 Z (aW (XJ t4 λg5 t5 e5=>?_)))];replace t5:IsPair g5 TO x y:=t5;erw[aW (wpAny_letGo (cI (cI ?_)))];erw[aW (wN t5 Z (aW (wpAny_newTuple ?_)))];have sz:g5.objs.size=s.heap.objs.size:=by rw[e5.1,e4.1,e3.1,e2.1,e1.1]
 have z5:IsZip g5 z TI TO .ellipsis:=e5.extBut _ _ D.TOz.symm (e4.extBut _ _ D.i2z.symm (e3.extBut _ _ D.TOz.symm (e2.extBut _ _ D.i1z.symm z1)));have kp:∀c o,c≠z->c≠TO->c≠i1->c≠i2->s.heap.get? c=some o->g5.get? c=some o:=λc o c1 c2 c3 c4 e=>e5.extBut _ _ c2 (e4.extBut _ _ c4 (e3.extBut _ _ c2 (e2.extBut _ _ c3 (e1.extBut _ _ c1 e))));have m1:lj b1 g5 i1 l1 (k+1):=n1.to λo e=>e5.extBut _ _ D.TOi1.symm (e4.extBut _ _ D.i12 (e3.extBut _ _ D.TOi1.symm e));have m2:lj b2 g5 i2 l2 (k+1):=n2.to λo e=>e5.extBut _ _ D.TOi2.symm e;have FL:z<g5.objs.size:=cY z5;show wpAny _ _ (Builtin.SmallTypes.ownedTupleHandOut (.ref z) (.ref g5.objs.size)>>=_) _ _ _;erw[aW ?_];unfold Builtin.SmallTypes.ownedTupleHandOut;have z6:IsZip (g5.push {cls:=.type "tuple",data:=.seq (List.toArray [x,y])}) z TI TO .ellipsis:=cW _ z5;erw[aW (Bw z6 (by simp) λg7 z7 e7=>?_)];replace z7:IsZip g7 z TI TO (rawInt g5.objs.size):=z7;erw[Bw z7 (by simp) λg8 z8 e8=>?_];replace z8:IsZip g8 z TI TO (rawInt g5.objs.size):=z8;have up:∀c o,c≠z->g5.get? c=some o->g8.get? c=some o:=λc o c1 e=>e8.extBut _ _ c1 (e7.extBut _ _ c1 (cW _ e));have t8:IsPair g8 g5.objs.size x y:=e8.extBut _ _ (Fx FL) (e7.extBut _ _ (Fx FL) (fO _ Z));rw[sz]at z8 t8;erw[cI #[_,Z,?_]];show Q (.ref g5.objs.size) _;rw[sz];erw[q g8 #[z8,up _ _ D.TIz (kp _ _ D.TIz D.TITO D.TIi1 D.TIi2 mY),#[_,_,up _ _ D.TOz t5],m1.to λo e=>up _ o D.i1z e,m2.to λo e=>up _ o D.i2z e] t8 λc o c1 c2 c3 c4 e=>up c o c1 (kp c o c1 c2 c3 c4 e)]
theorem Yj{b1 b2:Bool}{z TI TO i1 i2 l1 l2:Addr}{k:Nat}{xs ys:Array Value}{Q:Fin->ae->Prop}(hh:A.handled=none)(D:ZipApart z TI TO i1 i2 l1 l2)(aht:Zp b1 b2 s.heap z TI TO i1 i2 l1 l2 .none k) (vS:iS b1 s.heap l1 xs)(tQ:iS b2 s.heap l2 ys)(mz:xs[k]? =none\/ys[k]? =none) (q:∀g e,(∀c o,c≠z->c≠TO->c≠i1->c≠i2->s.heap.get? c=some o->g.get? c=some o)->(∃o,g.get? e=some o/\o.cls= .type "StopIteration")->E (.ref e) {s with heap:=g}): wpAny (model prog w) A (Builtin.«zip.__next__» #[[.ref z],[]]) Q E s:=by let(hz,mY,(a,b,nS),h1,h2):=aht;show wpAny _ _ (field (.ref z) 2>>=_) _ _ _;erw[aW (kg hz Z (x:=.bool false) Z ?_)];show wpAny _ _ (field (.ref z) 3>>=_) _ _ _;erw[aW (kg hz Z (x:=.ref TI) Z (aW (wN mY Z ?_)))];show wpAny _ _ (Builtin.SmallTypes.ownedTupleIsFree (.ref z)>>=_) _ _ _;erw[aW (Sz hz ?_)];simp only[wQ];erw[aW (wpAny_rule (aW (kg hz Z (x:=.ref TO) Z (aW (Bw hz (by simp) λg1 z1 e1=>?_)))))];replace z1:IsZip g1 z TI TO .ellipsis:=z1;erw[aW ?_];simp only[List.zipIdx_cons,List.zipIdx_nil,FG,List.forIn_nil];erw[aW (aW (Fm ?_))];show wpAny _ _ (Builtin.SmallTypes.nextOf (.ref i1)>>=_) _ _ _;have j1:=h1.to λo e=>e1.extBut _ _ D.i1z e;have k1:=vS.to λo e=>e1.extBut _ _ D.l1z e;cases hx:xs[k]? with
 |none=>
  erw[aW (Mr hh j1 k1 hx λg2 er e2 #[oe,vO,AG]=>?_)];have z2:IsZip g2 z TI TO .ellipsis:=e2 _ _ D.i1z.symm z1;have nz:er≠z:=λv=>by subst v;rw[z2]at vO;cases vO;simp at AG
  erw[Bw z2 (by simp) λg3 _ e3=>q g3 er (λc o c1 _ c3 _ v=>e3.extBut _ _ c1 (e2 _ _ c3 (e1.extBut _ _ c1 v))) #[oe,e3.extBut _ _ nz vO,AG]] |some x=>
  have hy:ys[k]? =none:=by rcases mz with h|h;rw[hx]at h;cases h;erw[h]
  erw[aW (Df j1 k1 hx λg2 n1 e2=>cI ?_)];have t2:IsPair g2 TO a b:=e2.extBut _ _ D.TOi1 (e1.extBut _ _ D.TOz nS);erw[aW (wN t2 Z (aW (XJ t2 λg3 t3 e3=>?_)))];erw[aW (wpAny_letGo (cI ?_))];erw[aW (aW (Fm ?_))];show wpAny _ _ (Builtin.SmallTypes.nextOf (.ref i2)>>=_) _ _ _;erw[aW (Mr hh (h2.to λo e=>e3.extBut _ _ D.TOi2.symm (e2.extBut _ _ D.i12.symm (e1.extBut _ _ D.i2z e))) (tQ.to λo e=>e3.extBut _ _ D.l2TO (e2.extBut _ _ D.l2i1 (e1.extBut _ _ D.l2z e))) hy λg4 er e4 #[oe,vO,AG]=>?_)];have z4:IsZip g4 z TI TO .ellipsis:=e4 _ _ D.i2z.symm (e3.extBut _ _ D.TOz.symm (e2.extBut _ _ D.i1z.symm z1));have nz:er≠z:=λv=>by subst v;rw[z4]at vO;cases vO;simp at AG
  erw[Bw z4 (by simp) λg5 _ e5=>q g5 er (λc o c1 c2 c3 c4 v=>e5.extBut _ _ c1 (e4 _ _ c4 (e3.extBut _ _ c2 (e2.extBut _ _ c3 (e1.extBut _ _ c1 v))))) #[oe,e5.extBut _ _ nz vO,AG]]
abbrev BR(b1:Bool)(h:Heap)(l1:Addr):Heap:=h.push {cls:=.type (uk b1),data:=.fields (List.toArray [.ref l1,.int 0 0])}
abbrev BQ(b1 b2:Bool)(h:Heap)(l1 l2:Addr):Heap:=(BR b1 h l1).push {cls:=.type (uk b2),data:=.fields (List.toArray [.ref l2,.int 0 0])}
abbrev BP(b1 b2:Bool)(h:Heap)(l1 l2:Addr):Heap:=(BQ b1 b2 h l1 l2).push {cls:=.type "tuple",data:=.seq (List.toArray [.ref h.objs.size,.ref (BR b1 h l1).objs.size])}
abbrev BO(b1 b2:Bool)(h:Heap)(l1 l2:Addr):Heap:=(BP b1 b2 h l1 l2).push {cls:=.type "tuple",data:=.seq (List.toArray [.none,.none])}
abbrev wZ(b1 b2:Bool)(h:Heap)(l1 l2:Addr):Heap:=(BO b1 b2 h l1 l2).push {cls:=.type "zip",data:=.fields (List.toArray [.none,.bool false,.bool false,.ref (BQ b1 b2 h l1 l2).objs.size,.ref (BP b1 b2 h l1 l2).objs.size])}
theorem Yh(b1 b2:Bool)(l1 l2:Addr)(xs ys:Array Value):Meets (Builtin.«zip.__new__» #[[.type "zip",.ref l1,.ref l2],[]]) (λ_ R s=>iS b1 s.heap l1 xs/\iS b2 s.heap l2 ys/\R (.ok (.ret (.ref (BO b1 b2 s.heap l1 l2).objs.size))) {s with heap:=wZ b1 b2 s.heap l1 l2}):=.of_wp λprog w A R s h=>by
 let(hp,gg,d,tk,os):=s;let(vS,tQ,h):=h;have KI:=sub_zip;have hL1:iS b1 (Shared.heap #[hp,gg,d,tk,os]) l1 xs:=vS;have AK:iS b2 (Shared.heap #[hp.push {cls:=.type (uk b1),data:=.fields (List.toArray [.ref l1,.int 0 0])},gg,d,tk,os]) l2 ys:=tQ.to λo e=>cW _ e
 wp_walk using y6 hL1,y6 AK;erw[_,Z,h]
theorem Yk{b1 b2:Bool}{l1 l2:Addr}{xs ys:Array Value}{Q:Value->ae->Prop}(vS:iS b1 s.heap l1 xs)(tQ:iS b2 s.heap l2 ys) (q:∀g,Zp b1 b2 g (s.heap.objs.size+4) (s.heap.objs.size+2) (s.heap.objs.size+3) s.heap.objs.size (s.heap.objs.size+1) l1 l2 .none 0->(∀c o,s.heap.get? c=some o->g.get? c=some o)->Q (.ref (s.heap.objs.size+4)) {s with heap:=g}): wpAny (model prog w) A (call (.type "zip") [.ref l1,.ref l2]) Q E s:=by
 erw[callType_new PySem.F.called_zip aD (PySem.F.typeCall_zip_2 _ _) (PySem.F.newCall_zip_2 _ _) (λobj=>PySem.F.args_object_init_3 obj _ _) PySem.F.entry_zip_new (Yh b1 b2 l1 l2 xs ys) #[vS,tQ,?_]];have z1:(BR b1 s.heap l1).objs.size=s.heap.objs.size+1:=uI ..;have z2:(BQ b1 b2 s.heap l1 l2).objs.size=s.heap.objs.size+2:=by rw[uI,z1]
 have z3:(BP b1 b2 s.heap l1 l2).objs.size=s.heap.objs.size+3:=by rw[uI,z2]
 have z4:(BO b1 b2 s.heap l1 l2).objs.size=s.heap.objs.size+4:=by rw[uI,z3]
 have g5:(wZ b1 b2 s.heap l1 l2).get? (BO b1 b2 s.heap l1 l2).objs.size=some _:=fO _ rfl;have g4:(wZ b1 b2 s.heap l1 l2).get? (BP b1 b2 s.heap l1 l2).objs.size=some _:=cW _ (fO _ Z);have g3:(wZ b1 b2 s.heap l1 l2).get? (BQ b1 b2 s.heap l1 l2).objs.size=some _:=cW _ (cW _ (fO _ Z));have g2:(wZ b1 b2 s.heap l1 l2).get? (BR b1 s.heap l1).objs.size=some _:=cW _ (cW _ (cW _ (fO _ Z)));have g1:(wZ b1 b2 s.heap l1 l2).get? s.heap.objs.size=some _:=cW _ (cW _ (cW _ (cW _ (fO _ Z))));show _/\_;rw[z2,z3,z4]at g5;rw[z1,z2]at g3;rw[z3]at g4;rw[z1]at g2;rw[z4];erw[#[_,g5,Z],q _ #[g5,g3,#[_,_,g4],?_,?_] λc o e=>cW _ (cW _ (cW _ (cW _ (cW _ e))))]
 ·cases b1<;>erw[_,g1,rfl,rfl]
 ·cases b2<;>erw[_,g2,rfl,rfl]
end
section
variable {X:Cx}{ay:List (Addr×Obj)}{O:St}{H:Hp}{s:ae}{h':Heap}
theorem Inv.zx{t':Nat}{fp:List Addr}(I:Inv X ay O H s)(k:∀b o,b∉fp->s.heap.get? b=some o->h'.get? b=some o)(hf:∀b∈fp,mK X ay H b):Inv X ay O H {s with heap:=h',toks:=t'}:=by
 have Aa:∀b u,H b=some u->b∉fp:=λb u e z=>by rw[(hf b z).1]at e;cases e
 have hL:X.env.locals∉fp:=λz=>(hf _ z).2.1 rfl;erw[I.step (g':=s.gens) (d':=s.drawn) (ch:=fp) (λb hb=>?_) (λb o _ _ hc e _=>k b o hc e) (λb o _ _ hc e _=>#[o.slots,k b o hc e]) (λ_ _ _ _ n=>n) (λb o hc e=>#[o,k b o hc e]) (λ_ _ e=>e) (λ_ _ _ e=>e) (λb ps e=>#[#[],by rw[e];simp]) (λm hm=>?_) (λb u e=>?_) I.bare]
 ·let(f0,f1,f2,f3,f4,f5):=hf b hb
  erw[f3,f1,f4,f5]
 ·let(o,es,ep,ho,r):=hm
  erw[o,es,ep,k _ o hL ho,r]
 ·refine(I.bB b u e).ny (λc v hc q=>k c v ?_ q) (λ_ q=>q) λ_ _ q=>q
  rcases hc with z|z
  ·rw[z];erw[Aa b u e]
  ·erw[Aa c _ z]
end
def fL(b:Bool)(K:aa)(H:Hp)(a:Addr)(xs:List V):Prop:=match b with|true=>aK K H a xs|false=>aV K H a xs
theorem fL.get{X:Cx}{ay:List (Addr×Obj)}{O:St}{H:Hp}{s:ae}{b:Bool}{a:Addr}{xs:List V}(I:Inv X ay O H s)(h:fL b X.K H a xs):∃its:List Value,Vals xs its/\iS b s.heap a its.toArray:=by
 cases b
 ·let(its,r,p,_):=I.tuple h;erw[its,r,p]
 ·let(its,r,p,_):=I.list h;erw[its,r,p.isList]
theorem fL.inj{X:Cx}{ay:List (Addr×Obj)}{O:St}{H:Hp}{s:ae}{b:Bool}{a:Addr}{xs ys:List V}(I:Inv X ay O H s)(h:fL b X.K H a xs)(g:fL b X.K H a ys):xs=ys:=by
 cases b
 ·erw[I.Og h g]
 ·erw[I.U6 h g]
def og(K:aa)(b1 b2:Bool)(l1 l2:Addr):It:=#[λi H=>∃xs ys x y,fL b1 K H l1 xs/\fL b2 K H l2 ys/\xs[i]? =some x/\ys[i]? =some y,λi H v H'=>∃T x y,v= .ref T/\(∀xs,fL b1 K H l1 xs->xs[i]? =some x)/\(∀ys,fL b2 K H l2 ys->ys[i]? =some y)/\Nw H H' T (.tup [x,y]),λi H=>∃xs ys,fL b1 K H l1 xs/\fL b2 K H l2 ys/\(xs.length<=i\/ys.length<=i)]
theorem YO{P:ah}{w:World}{K:aa}{elts:List Expr}{kt:Nat}{pos:Pos}{b1 b2:Bool}{z TI TO i1 i2 l1 l2:Addr}(D:ZipApart z TI TO i1 i2 l1 l2): Turn P w K (.Tuple elts kt pos) (og K b1 b2 l1 l2) [z,TI,TO,i1,i2] z (λi h=>Zp b1 b2 h z TI TO i1 i2 l1 l2 .none i) where
 mem:=by simp
 obj:=λi h st b hb=>by
  let(hz,mY,(a,c,nS),h1,h2):=st;simp only[bJ,cD,cX]at hb;rcases hb with rfl|rfl|rfl|rfl|rfl
  ·erw[_,hz,λv e=>by cases e]
  ·erw[_,mY,λv e=>by cases e]
  ·erw[_,nS,λv e=>by cases e]
  ·let(o,e,_,n):=h1.ob;erw[o,e,n]
  ·let(o,e,_,n):=h2.ob;erw[o,e,n]
 keep:=λi h h' st k=>by let(hz,mY,(a,c,nS),h1,h2):=st;erw[k z (by simp) _ hz,k TI (by simp) _ mY,#[a,c,k TO (by simp) _ nS],h1.to λo e=>k i1 (by simp) o e,h2.to λo e=>k i2 (by simp) o e]
 item:=by
  intro X hP hw hK hc i ay s O H E I hf st hg;subst hP hw hK;let(xs,ys,x,y,q1,q2,e1,e2):=hg;let(Ks,r1,p1):=q1.get I;let(nO,r2,p2):=q2.get I;let(u1,fi,lZ):=r1.get e1;let(u2,hu2,vb):=r2.get e2;have hT:s.TypeIs (.ref z) "zip":=#[_,st.zz,Z];unfold pyNext;erw[aW (wpAny_attempt (Fp (name:=Str.ofString "__next__") hT Nt (Fo Nt hT PySem.F.entry_zip_next (Yi D st p1 p2 (x:=u1) (y:=u2) (by simpa using fi) (by simpa using hu2) λg zg tg kp=>cI ?_) (PySem.F.args_zip_next_1 _))))];erw[_,Z,?_];erw[wpAny_letOwnedTupleGo_zip zg.zz λg' Yg sb=>?_];have hs:=sb.extBut;have FL:z<s.heap.objs.size:=cY st.zz;have nw:Nw H (upd H s.heap.objs.size (.tup [x,y])) s.heap.objs.size (.tup [x,y]):=.of (I.bB.fresh (ck _));have I1:Inv X ay O (upd H s.heap.objs.size (.tup [x,y])) {s with heap:=s.heap.push {cls:=.type "tuple",data:=.seq (List.toArray [u1,u2])}}:=I.laid (t':=s.toks) (λb ob q=>cW _ q) (ck _) #[by show 2<=sizeLine;decide,[u1,u2],.cons lZ (.cons vb .nil),#[_,fO _ Z,Z,_,Z]];have Dq:∀b∈[z,TI,TO,i1,i2],b<s.heap.objs.size:=λb hb=>by
   simp only[bJ,cD,cX]at hb;let(hz,mY,(a,c,nS),h1,h2):=st;rcases hb with rfl|rfl|rfl|rfl|rfl
   ·erw[cY hz]
   ·erw[cY mY]
   ·erw[cY nS]
   ·let(o,e,_):=h1.ob;erw[cY e]
   ·let(o,e,_):=h2.ob;erw[cY e]
  have hn:∀b∈[z,TI,TO,i1,i2],upd H s.heap.objs.size (.tup [x,y]) b=none:=λb hb=>by rw[aR (gq (Dq b hb))];exact(hf b hb).1
  have I2:Inv X ay O (upd H s.heap.objs.size (.tup [x,y])) {s with heap:=g'}:=Inv.zx (s:={s with heap:=s.heap.push {cls:=.type "tuple",data:=.seq (List.toArray [u1,u2])}}) (t':=s.toks) (fp:=[z,TI,TO,i1,i2]) I1 (λb o hb e=>by
   have e:(s.heap.push {cls:=.type "tuple",data:=.seq (List.toArray [u1,u2])}).get? b=some o:=e;have nz:b≠z:=λq=>hb (by simp[q]);rcases Heap.get?_push_cases e with⟨yB,rfl⟩|e'
   ·subst yB
    erw[hs _ _ nz tg]
   ·erw[hs _ _ nz (kp b o nz (λq=>hb (by simp[q])) (λq=>hb (by simp[q])) (λq=>hb (by simp[q])) e')]) (λb hb=>by let(f0,f1,f2,f3,f4,f5):=hf b hb;erw[hn b hb,f1,f2,f3,f4,f5]);erw[.ref s.heap.objs.size,_,I2,Z,#[s.heap.objs.size,x,y,Z,λzs hz=>?_,λzs hz=>?_,nw],?_,hn]
  ·rw[fL.inj I hz q1];erw[e1]
  ·rw[fL.inj I hz q2];erw[e2]
  ·let(_,mY,(a,c,nS),h1,h2):=zg
   erw[Yg,hs _ _ D.TIz mY,#[a,c,hs _ _ D.TOz nS],h1.to λo e=>hs _ o D.i1z e,h2.to λo e=>hs _ o D.i2z e]
 done:=by intro X hP hw hK hc i ay s O H E I hf st hg;subst hP hw hK;let(xs,ys,q1,q2,mz):=hg;let(Ks,r1,p1):=q1.get I;let(nO,r2,p2):=q2.get I;have hT:s.TypeIs (.ref z) "zip":=#[_,st.zz,Z];have l1:=r1.length;have l2:=r2.length;unfold pyNext;erw[aW (wpAny_attempt (Fp (name:=Str.ofString "__next__") hT Nt (Fo Nt hT PySem.F.entry_zip_next (Yj (I.ok.hd hc) D st p1 p2 (mz.imp (λh=>by simp;lia) λh=>by simp;lia) λg e kp he=>?_) (PySem.F.args_zip_next_1 _))))];let(o,ho,mX):=he;erw[aW (wpAny_isInstance (T:="StopIteration") (b:=true) #[o,ho,mX] isSubtype_stop (cI #[Z,?_]))];erw[I.zx (t':=s.toks) (fp:=[z,TI,TO,i1,i2]) (λb o hb e=>kp b o (λq=>hb (by simp[q])) (λq=>hb (by simp[q])) (λq=>hb (by simp[q])) (λq=>hb (by simp[q])) e) hf]
 self:=λ_ _ _ _ _ st h=>wpAny_pyIter_zip st.zz h
inductive afd(K:aa)(b1:Bool)(b2:Bool)(R:It->Hp->Prop)(vs:List V)(H1:Hp):Prop |mk (l1:_)(l2:_)(h0:vs=[.ref l1,.ref l2])(h1:(∃xs,fL b1 K H1 l1 xs))(h2:(∃ys,fL b2 K H1 l2 ys))(h3:R (og K b1 b2 l1 l2) H1)
def a6F(K:aa)(b1 b2:Bool)(ta:TA):TI:=λO H R=>ta O H λvs H1=>afd K b1 b2 R vs H1
theorem kN(K:aa){X:Cx}(hK:X.K=K)(b1 b2:Bool){elts:List Expr}{kt:Nat}{qc:Pos}{a b:Expr}{ta:TA}{p pos:Pos}(hg:Gl X "zip")(hm:X.mg "zip"=none)(ha:PA X [a,b] ta)(hs:autoParam (starEach [a,b] X.env=[(false,eval a X.env),(false,eval b X.env)]) r8_._auto_1)(jU:autoParam (starEach [b] X.env=[(false,eval b X.env)]) r8_._auto_1): PI X (.Tuple elts kt qc) (.Call (.Name "zip" p) [a,b] [] pos) (a6F K b1 b2 ta):=by
 subst hK;intro ay s O H R I h;erw[Call_ (qF I hg hm PyProof.Rows.boot_zip (zl (bw (ha pos ay s O H _ I h) λus s1 #[vs,H1,I1,r1,q1]=>?_) (by rw[hs,jU]) (by rw[jU];rfl)))];let(l1,l2,e,(xs,h1),(ys,h2),q):=q1;subst e;let(u1,u2,rfl,lZ,vb):=vals2 r1;cases(show u1=Value.ref l1 from lZ);cases(show u2=Value.ref l2 from vb);let(Ks,v1,p1):=h1.get I1;let(nO,v2,p2):=h2.get I1;have a1:l1<s1.heap.objs.size:=by cases b1<;>(let(o,e,_):=p1;erw[cY e])
 have a2:l2<s1.heap.objs.size:=by cases b2<;>(let(o,e,_):=p2;erw[cY e])
 erw[Yk p1 p2 λg zg kp=>wpAny_pyIter_zip zg.zz ?_];erw[_,_,_,_,H1,Z,I1.kept (t':=s1.toks) kp,YO (zipApart_new a1 a2),zg,λc hc=>?_,q];have hle:s1.heap.objs.size<=c:=by simp only[bJ,cD,cX]at hc;rcases hc with rfl|rfl|rfl|rfl|rfl<;>first|erw[ck _]|erw[Nat.le_add_right _ _]
 erw[I1.qV hle (I1.bB.fresh hle)]
theorem fL.go{K:aa}(s:aH H H')(h:fL b K H a xs):fL b K H' a xs:=by
 cases b
 ·erw[aV.go s h]
 ·erw[aK.go s h]
theorem WE{K:aa}{bs:List Bool}{D:Addr}(rest:St)(hn:n=2)(h1:fL b1 K H l1 xs)(h2:fL b2 K H l2 ys)(nw:Nw H H0 D (.lst [])) (hl:min xs.length ys.length=bs.length)(hz:bs.length<=1000) (hs:∀(i:Nat)(x y:V)(b:Bool)(H2:Hp)(Q':VK),xs[i]? =some x->ys[i]? =some y->bs[i]? =some b->aH H H2->(∀H3,aH H2 H3->Q' (.bl b) H3)->te (some x::some y::rest) H2 Q') (hq:∀H',aH H H'->H' D=some (.lst (bs.map V.bl))->Q (.ref D) H'):jo (og K b1 b2 l1 l2) (qU K n (kX (fK 0) (kX (fK 1) u9))) iX te Q D (none::none::rest) H0:=by
 subst hn;have hD:=nw.no;erw[uj bs.length (λi O H2=>aH H H2/\H2 D=some (.lst ((bs.take i).map V.bl))/\∃v v',O=v::v'::rest) ?_ ?_ ?_]
 ·erw[nw.same,nw.at',none,none,Z]
 ·rintro i O H2 hi ⟨s2,d2,v,v',rfl⟩
  have hx:i<xs.length:=by lia
  have hy:i<ys.length:=by lia
  have ex:=cC hx;have ey:=cC hy;have eb:=cC hi;erw[#[xs,ys,_,_,h1.go s2,h2.go s2,ex,ey],λy' H3 kQ=>?_];let(T,x0,y0,rfl,k1,k2,n3):=kQ;have e1:=k1 _ (h1.go s2);have e2:=k2 _ (h2.go s2);rw[ex]at e1;rw[ey]at e2;cases e1;cases e2;erw[T,_,Z,aV.of n3.at',Z,_,_,Z,_,_,Z,Z,?_];erw[yes (cx ?_)];erw[hs i _ _ _ _ _ ex ey eb (s2.trans n3.same) λH4 s4=>?_];erw[_,s4 _ _ (n3.same _ _ d2),?_,bs.length-(i+1),aw,Z,aw,λb o e=>?_,?_,_,_,Z]
  ·rw[cJ,pU]
   have:(1000:Nat)<sizeLine:=by decide
   lia
  ·rw[aR (fZ e hD)];erw[s4 b o (n3.same b o (s2 b o e))]
  ·rw[bo,sj,eb,pT];rfl
 ·rintro O H2 ⟨s2,d2,v,v',rfl⟩
  erw[#[xs,ys,h1.go s2,h2.go s2,aw],hq H2 s2 ?_];rw[d2,wV]
theorem gA.there{P:ah}{w:World}(x:gA P w H h a o):∃ob,h.get? a=some ob:=by induction o with |lst xs=>let(_,_,_,_,e):=x;erw[_,e] |tup xs=>let(_,_,_,ob,e,_):=x;erw[ob,e] |dK aU=>let(_,_,_,_,ob,_,_,e,_):=x;erw[ob,e] |dT aU=>let(_,_,_,_,ob,_,_,e,_):=x;erw[ob,e] |set S n=>let(ob,_,_,_,e,_):=x;erw[ob,e] |ins C dx fs=>let(_,_,_,e,_):=x;erw[_,e] |own y=>erw[x] |xd fs=>let(_,(ob,_,_,e,_),_):=x;erw[ob,e] |vc lo hi=>let(_,_,_,e):=x;erw[_,e] |nV ob u=>erw[_,x.1] |fq ps=>erw[_,x] |met f y=>erw[_,x] |ext φ=>erw[x.2.1]
structure Fl(P:ah)(w:World)(outer:List Env)(H:Hp)(h₁:Heap)(ex:Addr)(H':Hp)(B h:Heap):Prop where
 un:Un (dJ outer) [] H H' h₁ h
 bB:fb P w H' h
 k1:∀b o,h₁.get? b=some o->H b=none->b∉dJ outer->B.get? b=some o
 k2:∀b o,H' b=some o->∃ob,B.get? b=some ob
 k3:∀b o,h₁.get? b=some o->b∉dJ outer->∃ob,B.get? b=some ob
 fr:∀b∈dJ outer,H' b=none
 nw:h₁.get? ex=none
 ne:H' ex=none
theorem Fl.step{P:ah}{w:World}{aB:Heap}(F:Fl P w outer H h₁ ex H' B h)(st:B.StaysIn h)(iB:B.StaysIn h')(up:h.UpToSlots h')(ff:h.FunFrames aB outer):Fl P w outer H h₁ ex H' B h':=by
 have slot:∀b o,h₁.get? b=some o->H b=none->b∈dJ outer->∃sl,h'.get? b=some {o with slots:=sl}:=λb o e n hb=>by let(sl,e1):=F.un.slot b o e n hb (by simp);let(_,o2,e2,hd):=ff.mem hb;rw[e1]at e2;cases e2;let(Gv,e3):=up b _ e1 (λvs=>hd vs);erw[Gv,e3]
 erw[#[λb o e n hb _=>iB b o (F.k1 b o e n hb),λb o e n hb _=>slot b o e n hb,F.un.free,λb o e hx=>?_,F.un.lG,F.un.kY,F.un.kL],λb u e=>?_,F.k1,F.k2,F.k3,F.fr,F.nw,F.ne]
 ·by_cases hb:b∈dJ outer
  ·let(_,o2,e2,hd):=ff.mem hb
   let(sl,e3):=up b o2 e2 hd;erw[_,e3]
  ·let(ob,e1):=F.k3 b o e hb
   erw[ob,iB b ob e1]
 ·refine(F.bB b u e).ny (λc v hc q=>?_) (λ_ q=>q) λ_ _ q=>q
  have inB:∃ob,B.get? c=some ob:=by
   rcases hc with z|z
   ·rw[z];erw[F.k2 b u e]
   ·erw[F.k2 c _ z]
  let(ob,e1):=inB;have e2:=st c ob e1;rw[q]at e2;cases e2;erw[iB c _ e1]
section
variable {P:ah}{w:World}{K:aa}{mg:cw}{aB:Heap}{N:List Str}{qual:Str}{scope:Scope}{f:Addr}{cd:Value}{A:aj}{outer:List Env}{s:ae}{H:Hp}{E:XK}{ay:List (Addr×Obj)}{O:St}{H1:Hp}{s1:ae}{h2:Heap}{ex:Addr}{cls:Value}{vs:List Value}
end
structure Exc(K:aa)(mg:cw)(x:Str)(C:Addr)(o9:List Value)(newId:String):Prop where
 at':mg x=some (.ref C)
 ok:PySem.W.excIn K C o9 newId=true
theorem Exc.own{K:aa}{mg:cw}(e:Exc K mg x C o9 newId)(X:K.In h):OwnCls x C o9 newId mg h:=by
 erw[e.at',?_];have q:=e.ok;unfold PySem.W.excIn at q;split at q
 ·rename_i dd cd sl ho
  split at q
  ·rename_i D2 bl a0 a1 a2 a3 nn a5 hm hs
   simp only[gJ,fD,Yf]at q;let(((((r1,r2),UX),ht),bB),DW):=q;subst r1 r2;let(c1,c2,c3,c4,c5,c6,c7,c8,c9,c10,c11):=cd;dsimp only at hm UX bB DW;subst hm UX;obtain⟨l⟩:=sl;simp only at hs;subst hs;erw[bl,c4,c1,c5,c2,c6,c7,c8,c9,c10,dd,a0,a1,a2,a3,a5,_,X _ _ ho,.of_isNs (PySem.W.isNs_of_in X bB),PySem.W.nsMap_none_of_in X bB DW,PySem.W.tail_of_in X ht]
  ·cases q
 ·cases q
section
variable {X:Cx}{x:Str}{C:Addr}{o9:List Value}{newId Ky B:String}{e:Expr}{t:TA}{np da pos:Pos}
def Zh(E:XK)(cls:Value)(t:TA):TS:=λ_ O H=>t O H λvs H1=>vs.length<=sizeLine/\E cls none H1
theorem CW(hx:∀ay O H s h2 ex vs,Inv X ay O H s->Heap.MadeExcOf s.heap h2 ex (.ref C) vs->E (.ref C) none H->X.xe (.ref ex) {s with heap:=h2})(EC:Exc X.K X.mg x C o9 newId)(FB:ExcBaseFacts B newId Ky o9)(hh:X.A.handled=none)(hg:Gl X x)(ha:PA X [e] t) (he:autoParam (starEach [e] X.env=[(false,eval e X.env)]) r8_._auto_1)(hd:autoParam ((x==("__debug__":Str))=false) q8_._auto_1): PS X (.Raise (some (.Call (.Name x np) [e] [] da)) none pos) (Zh E (.ref C) t):=by intro ay s O H D I h;let(tl,Nn,nm,q,bs,hdct,sn,sub,ab,col,dd,k0,k1,k2,k3,k5,mN,hC,hN,DW,T):=(EC.own I.ok.mod.qG).obj;erw[wpAny_Raise_call_subT (C:=C) (nm:=nm) (q:=q) (N:=Nn) (bs:=bs) (bm:=tl) (hdct:=hdct) (sn:=sn) (sub:=sub) (ab:=ab) (col:=col) (dd:=dd) (k0:=k0) (k1:=k1) (k2:=k2) (k3:=k3) (k5:=k5) FB (mN:=mN) (T.hasType FB.hasBase) hh (by rw[he];rfl) DW (yg I hg EC.at' #[Z,?_] hd)];have hA:=ha da ay s O H _ I h;rw[he]at hA⊢;erw[Calls.evalArgs_plain (bw hA λus s2 #[vs,H1,I1,r1,z,w1]=>#[Z,by rw[<-r1.length];erw[z],I1.bk _ _ hC,hN.keeps I1.bk,T.keeps I1.bk,λh' ex hm=>hx ay O H1 s2 h' ex us I1 hm w1])]
end
section
variable {M:Model}{A:aj}{Ex:Value->ae->Prop}
theorem aaR{h:Heap}{g:Array GenState}{d:Drawn}{tk:Nat}{os:OsState}{e:Addr}{oe:Obj}{Q:Bool->ae->Prop}{C D N N':Addr}{nm Td q q':Str}{bs X1 bm MQ:List Value}{hdct UY:Bool}{sn Pm:List Str}{sub OB:List Value}{ab Xn:Bool}{col WJ:Option Bool}{dd pC:Option Addr}{k0 k1 k2 k3 k5 j0 j1 j2 j3 j5:Option Value}{newId a4M:String} (hC:h.get? C=some (excClassObj nm q C N bs bm hdct sn sub ab col dd k0 k1 k2 k3 k5 newId))(hD:h.get? D=some (excClassObj Td q' D N' X1 MQ UY Pm OB Xn WJ pC j0 j1 j2 j3 j5 a4M)) (he:h.get? e=some oe)(AF:oe.cls= .ref C)(hb:MQ.contains (.type "BaseException")=true)(hs:(Value.ref C::bm).contains (.ref D)=true) (hq:Q true #[h,g,d,tk,os]):wpAny M A (excMatches (.ref e) (.ref D)) Q Ex #[h,g,d,tk,os]:=by
 have hcB:(Value.ref D::MQ).contains (.type "BaseException")=true:=by rw[List.contains_cons,hb,Bool.or_true]
 have f:=tc_notTuple;unfold excMatches
 repeat (first|(with_reducible erw[wpAny_loadPart_at he ?_];rw[AF])|with_reducible erw[wpAny_loadPart_at hD ?_]|(with_reducible erw[wpAny_isSubtype_exc hD ?_];rw[hcB])|(with_reducible erw[wpAny_isSubtype_exc hC ?_];rw[hs])|with_reducible erw[wpAny_loadPart_at hC ?_]|wp_step)
 erw[hq]
end
section
variable {X:Cx}{k:Nat}{x:Str}{p pos:Pos}{e:Expr}{es:List Expr}{t:TA}{sp:Sp}
end
abbrev Cx.hand(X:Cx)(ex:Addr):Cx:={X with A:=X.A.mark (some (.ref ex)),calm:=false,xe:=λ_ _=>False}
section
variable {X:Cx}{ay:List (Addr×Obj)}{O:St}{H:Hp}{s:ae}
theorem Inv.hand(I:Inv X ay O H s)(ex:Addr):Inv (X.hand ex) ay O H s:=#[#[I.ok.mod,I.ok.kind,I.ok.glob,I.ok.blt,I.ok.above,I.ok.inj,I.ok.has,I.ok.uo,λh=>(iV h).elim,I.ok.frames,I.ok.xn,I.ok.Ew,I.ok.bs,I.ok.ng,I.ok.vk,I.ok.ud,I.ok.kD,I.ok.p8],I.os,I.bare,I.aB,I.loc,I.cell,I.free,I.kZ,I.pin,I.bB,I.len]
theorem Inv.back(ok:X.Ok)(I:Inv (X.hand ex) ay O H s):Inv X ay O H s:=#[ok,I.os,I.bare,I.aB,I.loc,I.cell,I.free,I.kZ,I.pin,I.bB,I.len]
theorem YI{M:Model}{A:aj}{E:Value->ae->Prop}{i:Nat}{x:Str}{v:V}{pos:Pos}{Q:Unit->ae->Prop}(I:Inv X ay O H s)(hN:X.N.Nodup)(hi:X.N[i]? =some x)(hk:X.env.kindOf x=some .local)(hs:X.env.scope.names.lookup x=some .local) (hv:O[i]? =some (some v))(h:∀s',Inv X ay (O.set i none) H s'->Q () s'):wpAny M A (unbindBehindTheSuite X.env x pos) Q E s:=by
 let(m,hn,hl):=id I.loc;have AF:(X.env.scope.kind== .class||(X.env.scope.kind== .module&&X.env.locals !=X.env.globals))=false:=by rw[I.ok.kind];rfl
 have E1:i<O.length:=by rw[I.len];exact(eQ.mp hi).1
 have lg:=I.lg;let(u,r,look):=hl i x v hi hv (.inl hs);have hm:m x=some u:=by
  rcases look with⟨_,e⟩|⟨k,_⟩
  ·erw[e]
  ·rcases k with k|k<;>(rw[hk]at k;cases k)
 unfold unbindBehindTheSuite;erw[Fm (wpAny_unbindName_local hk hn hm AF λh' u' vP vG=>?_)];let(oL,_,_,UO,_):=id hn;have tr:fb X.prog X.w H h':=λb ob e=>by
  refine(I.bB b ob e).ny (λc w' hc q=>(vG.2 c ?_).trans q) (λ_ q=>q) λ_ _ q=>q;rintro rfl;rcases hc with rfl|hc
  ·rw[I.free]at e;cases e
  ·rw[I.free]at hc;cases hc
 have lt:∀b o,X.s₀.heap.get? b=some o->b≠X.env.locals:=λb o e=>gq (gP (cY e) I.ok.above);erw[h _ #[I.ok,I.os,I.bare,#[λb o e n hb hx=>(vG.2 b (lt b o e)).trans (I.aB.keep b o e n hb hx),λb o e n hb hx=>?_,I.aB.free,λb o e hx=>?_,I.aB.lG,I.aB.kY,I.aB.kL],#[_,vP,λj y v' e1 e2 e3=>?_],λy c e=>?_,I.free,I.kZ,λp hp=>?_,tr,by simpa using I.len]]
 ·let(sl,e1):=I.aB.slot b o e n hb hx
  erw[sl,(vG.2 b (lt b o e)).trans e1]
 ·let(o',e1):=I.aB.there b o e hx
  erw[o',(vG.2 b (lt b o e)).trans e1]
 ·by_cases hj:j=i
  ·subst hj
   rw[BH E1]at e2;cases e2
  ·rw[NL (dy hj)]at e2
   let(u2,r2,q):=hl j y v' e1 e2 e3;erw[u2,r2,?_];rcases q with⟨k,e⟩|⟨k,c,e,z⟩
   ·have:y≠x:=λe=>hj (JU hN e1 (e▸hi))
    erw[.inl #[k,by simp[this,e]]]
   ·erw[.inr #[k,c,e,z.sameBut vG (lg y c e)]]
 ·let(w',z):=I.cell y c e
  erw[w',z.sameBut vG (lg y c e)]
 ·let(e,n,ne,nf,d):=I.pin p hp
  erw[(vG.2 p.1 ne).trans e,n,ne,nf,d]
end
def Bk(X:Cx)(st:List Stmt)(t:TS):Prop:=∀(s:ae)(O:St)(H:Hp)(D:Ends),Inv X [] O H s->t D O H->wpAny (model X.prog X.w) X.A (execs st X.env) (SP X [] D) X.xe s
def Xy(X:Cx)(st:Stmt)(t:TS):Prop:=∀(s:ae)(O:St)(H:Hp)(D:Ends),Inv X [] O H s->t D O H->wpAny (model X.prog X.w) X.A (exec st X.env) (SP X [] D) X.xe s
theorem Bk.one{X:Cx}{st:Stmt}{t:TS}(h:Xy X st t):Bk X [st] t:=by intro s O H D I q;erw[wpAny_execs_cons (bw (h s O H D I q) λf s1 q=>?_)];cases f with |next=>erw[Bz q] |ret v=>erw[q] |brk=>erw[q] |cont=>erw[q]
theorem Inv.acB{X:Cx}{ay:List (Addr×Obj)}{O:St}{H:Hp}{s:ae}(I:Inv X ay O H s):Inv X [] O H s:=#[I.ok,I.os,I.bare,I.aB,I.loc,I.cell,I.free,I.kZ,λp hp=>I.pin p (Y5 _ (by simpa using hp)),I.bB,I.len]
def ExcAt(ex:Addr)(cls:Value)(h:Heap):Prop:=∃o,h.get? ex=some o/\o.cls=cls
def takes(K:aa)(C D:Addr):Prop:=PySem.W.mroIn K C (.ref D)=some true
section
variable {X:Cx}{i:Nat}{n y:Str}{Dc:Addr}{MP:List Value}{newD:String}{body Cd:List Stmt}{b0:Stmt}{np vK pos:Pos}{tb:XK->TS}{th:TS}{Cs:Addr->Prop}
end
end _L
namespace _L
open PySem PySem.Spec PyProof.Rows PySem.W Builtin.Getset_descriptor
section
variable {prog:ah}{w:World}{A:aj}{E:Value->ae->Prop}{h:Heap}{g:Array GenState}{d:Drawn}{t:Nat}{os:OsState}{K:Frag}{x C:Addr}{o:Obj}
theorem VG(h1:h.get? x=some o)(h2:o.cls= .ref C):Looks M h (typeOf (.ref x)) (.ref C):=h2▸(Looks.ld h1).andThen .now
structure pK(K:Frag)(C:Addr):Prop where
 ga:findIn K (.ref C) "__getattribute__"=some (some (.builtin "BaseException.__getattribute__"))
 gx:findIn K (.ref C) "__getattr__"=some none
 cl:findIn K (.ref C) "__class__"=some (some (.builtin "object.__class__"))
 gt:specialIn K (.builtin "object.__class__") "__get__"=some (some (.builtin "getset_descriptor.__get__"))
 tk:takesIn K (.builtin "object.__class__")=some true
 ob:mroIn K C (.type "object")=some true
 be:mroIn K C (.type "BaseException")=some true
 is:hasDictIn K C=true
theorem a5O(X:K.In h)(k:pK K C):Looks M h (Builtin.ObjectAttr.find (.ref x) (.ref C) "__class__") (.bind (.builtin "getset_descriptor.__get__") (.builtin "object.__class__")):=by have L1:=looks_findIn (M:=M) X k.cl;have _L:Looks M h (Builtin.ObjectAttr.getOf (some (.builtin "object.__class__"))) (some (.builtin "getset_descriptor.__get__")):=looks_specialIn X k.gt;have L3:=looks_takesIn (M:=M) X k.tk;unfold Builtin.ObjectAttr.find;erw[L1.andThen (_L.andThen ?_)];have L4:Looks M h (Builtin.ObjectAttr.dataDescriptor? (some (.builtin "object.__class__")) (some (.builtin "getset_descriptor.__get__"))) (some (.builtin "getset_descriptor.__get__",.builtin "object.__class__")):=L3.andThen .now;erw[L4.andThen (Looks.tag .now)]
theorem a9i{M:Model}{Tr:Value}{Q:Unit->ae->Prop}(X:K.In h)(k:pK K C)(L0:Looks M h (typeOf (.ref x)) (.ref C))(hq:Q () #[h,g,d,t,os]): wpAny M A (checkBuiltinCall "BaseException.__getattribute__" #[[.ref x,Tr],[]]) Q E #[h,g,d,t,os]:=by
 have hk:builtinKind "BaseException.__getattribute__"=some .slot:=by decide+kernel
 have jT:splitId "BaseException.__getattribute__"=some ("BaseException","__getattribute__"):=by decide+kernel
 have ha:=PySem.F.args_bexc_ga (.ref x) Tr;have L1:=looks_mroIn (M:=M) X k.be;simp only[checkBuiltinCall,hk,jT];erw[aW ?_];unfold isInstance;erw[aW (L0.at (L1.at ?_))]
 repeat (first|assumption|wp_step)
theorem get_cls{R:Result->ae->Prop}{tp:Value}(X:K.In h)(k:pK K C)(L0:Looks (model prog w) h (typeOf (.ref x)) (.ref C))(hq:R (.ok (.ret (.ref C))) #[h,g,d,t,os]): codeAny (model prog w) A (.call (.builtin "getset_descriptor.__get__") #[[.builtin "object.__class__",.ref x,tp],[]]) R #[h,g,d,t,os]:=by
 have L1:=looks_mroIn (M:=model prog w) X k.ob;erw[codeAny_call_builtin KF.slot_gs.plain KF.entry_gs (KF.slot_gs.check _ _ _ _ _ _ _ _ KF.type_class (KF.args_gs _ _ _) ?_)];unfold Builtin.«getset_descriptor.__get__»descrGet;rw[dga_obj];erw[aW (cI ?_)];unfold descrGetter descrCheckInstance descrNameAndClass isInstance;simp only[KF.owner_class];repeat lk
 erw[Code.quiet_builtin _ bf,codeAny_builtin KF.entry_class ?_];unfold Builtin.«object.__class__»shownTypeOf;repeat lk
 erw[hq]
theorem a9j{tk:Tok}{Q:Fin->ae->Prop}(X:K.In h)(k:pK K C)(L0:Looks (model prog w) h (typeOf (.ref x)) (.ref C)) (hq:Q (.done (.ret (.ref C))) #[h,g,d,t,os]):wpAny (model prog w) A (Builtin.«object.__getattribute__» #[[.ref x,.str "__class__" tk],[]]) Q E #[h,g,d,t,os]:=by have L1:=a5O (M:=model prog w) (x:=x) X k;erw[aW (cI (aW (cI (aW (L0.at (aW (L1.at ?_)))))))];show wpAny _ _ (Builtin.ObjectAttr.bindTo _ _ (.ref x) (.ref C)) _ _ _;unfold Builtin.ObjectAttr.bindTo;show wpAny _ _ (holding [_] (call (.builtin "getset_descriptor.__get__") [.builtin "object.__class__",.ref x,.ref C])>>=_) _ _ _;erw[aW (wO (BA (get_cls X k L0 (cI hq))))]
theorem ac2{Q:Option Value->ae->Prop}(X:K.In h)(k:pK K C)(L0:Looks (model prog w) h (typeOf (.ref x)) (.ref C)) (hq:Q (some (.ref C)) #[h,g,d,t+1,os]):wpAny (model prog w) A (getAttr? (.ref x) "__class__") Q E #[h,g,d,t,os]:=by
 have L1:=looks_findIn (M:=model prog w) X k.ga;have _L:=looks_findIn (M:=model prog w) X k.gx;have f3:=PySem.F.excAttr_ValueError.ga.bind (.ref x);have hx2:(Value.builtin "BaseException.__getattribute__"==Value.builtin "object.__getattribute__")=false:=by decide+kernel
 unfold getAttr? getAttrBy? getAttrBy;erw[aW (wpAny_mkText (aW (wpAny_attempt (wO (aW (L0.at (aW (L1.at ?_))))))))];show wpAny _ _ (if(onTheHeap (Value.ref C)&&Value.builtin "BaseException.__getattribute__"==Value.builtin "object.__getattribute__")=true then _ else _) _ _ _;rw[hx2,Bool.and_false,bI aD];unfold getAttrByItsOwn hookBefore;erw[aW ?_];show wpAny _ _ (typeLookup (.ref C) "__getattr__") _ _ _;erw[_L.at (aW (wpAny_attempt (wO ?_)))];unfold callGetattribute;show wpAny _ _ (boundAndCalled _ _ _) _ _ _;unfold boundAndCalled;rw[f3];erw[aW (cI (BA ?_))];erw[codeAny_call_builtin PySem.F.excAttr_ValueError.ga.plain PySem.F.entry_bexc_ga (a9i X k L0 (a9j X k L0 ?_))];erw[handed_on Z (cI hq)]
theorem Ui(k:pK K C):KitX K (.ref x) (.ref C) (ExcAt x (.ref C)) where
 ty:=λM h _ p=>by let(o,h1,h2):=p;erw[VG h1 h2]
 it:=λ_ _ X _=>by
  let(cd,hc,_):=any_some k.is;unfold clsIn at hc;split at hc
  ·rename_i c1 d1 cd1 sl1 ho
   intro A' Q' E' s' kk q;unfold isType loadHead;erw[aW (wpAny_loadPart (kk _ _ (X _ _ ho)) (cI q))]
  ·cases hc
 ne:=λh tp dd its n sl X KH=>by
  let(cd,hc,_):=any_some k.is;erw[zp.mpr λq=>?_];have e:C=tp:=Value.ref.inj (gJ.mp q);subst e;unfold clsIn at hc;split at hc
  ·rename_i c1 d1 cd1 sl1 ho
   cases(X _ _ ho).symm.trans KH
  ·cases hc
 ca:=λ{prog w A E Q s} X p q=>by let(o,h1,h2):=p;let(h0,g0,d0,t0,SH):=s;erw[ac2 X k (VG h1 h2) q]
end
end _L
namespace _L
open PySem PySem.Spec PyProof.Rows
def ac3:V->Option Value | .ref D=>some (.ref D) | .ty n=>some (.type n) |_=>none
theorem NZ:∀{Ds:List Addr}{us:List Value},Vals (Ds.map V.ref) us->us=Ds.map Value.ref |[],_,.nil=>rfl |n::r,_,.cons q t=>by cases(show _=Value.ref n from q);rw[NZ t];rfl
section
variable {X:Cx}
end
theorem acq:bootBuiltins "ValueError"=some (.type "ValueError"):=by kernel_rfl
@[reducible]def mI:List Value:=[.type "ValueError",.type "Exception",.type "BaseException",.type "object"]
@[reducible]def mU:String:="ValueError.__new__"
end _L
namespace _A
theorem a9h(a b:Int):Int.gcd b (a.fmod b)=Int.gcd a b:=by rw[Int.fmod_def,Int.gcd_sub_mul_left_right,Int.gcd_comm]
theorem Vo(h:0<b):Int.gcd b (a%b)=Int.gcd a b:=by rw[<-Int.fmod_eq_emod_of_nonneg a (FJ h)];erw[a9h a b]
def sg(p q:Int):Int:=if q<0 then-(Int.gcd p q:Int)else(Int.gcd p q:Int)
def lowP (p q:Int):Int:=p.fdiv (sg p q)
def iG (p q:Int):Int:=q.fdiv (sg p q)
theorem En{q:Int}(h:q≠0):0<(Int.gcd p q:Int):=by
 have:Int.gcd p q≠0:=λz=>h (Int.gcd_eq_zero_iff.mp z).2
 lia
theorem zM{q:Int}(h:q≠0):sg p q≠0:=by have:=En (p:=p) h;unfold sg;split<;>omega
theorem Py(p q:Int):sg p q∣p:=by
 unfold sg;split
 ·erw[Int.neg_dvd.mpr (Int.gcd_dvd_left p q)]
 ·erw[Int.gcd_dvd_left p q]
theorem Px(p q:Int):sg p q∣q:=by
 unfold sg;split
 ·erw[Int.neg_dvd.mpr (Int.gcd_dvd_right p q)]
 ·erw[Int.gcd_dvd_right p q]
theorem Kd(p q:Int):sg p q*lowP p q=p:=by unfold lowP;rw[Int.fdiv_eq_ediv_of_dvd (Py p q)];erw[Int.mul_ediv_cancel' (Py p q)]
theorem Dw(p q:Int):sg p q*iG p q=q:=by unfold iG;rw[Int.fdiv_eq_ediv_of_dvd (Px p q)];erw[Int.mul_ediv_cancel' (Px p q)]
theorem PB(p q:Int):(sg p q).natAbs=Int.gcd p q:=by unfold sg;split<;>lia
theorem a5L{q:Int}(h:q≠0):Int.gcd (lowP p q) (iG p q)=1:=by
 have e:Int.gcd (sg p q*lowP p q) (sg p q*iG p q)=(sg p q).natAbs*Int.gcd (lowP p q) (iG p q):=Int.gcd_mul_left _ _ _;rw[Kd,Dw,PB]at e;have g:=En (p:=p) h;have g':0<Int.gcd p q:=by lia
 have e':Int.gcd p q*1=Int.gcd p q*Int.gcd (lowP p q) (iG p q):=by lia
 exact(Nat.eq_of_mul_eq_mul_left g' e').symm
theorem a5M{q:Int}(h:q≠0):0<iG p q:=by
 have e:=Dw p q;have g:=En (p:=p) h;by_cases hq:q<0
 ·have es:sg p q=-(Int.gcd p q:Int):=by unfold sg;rw[bE hq]
  rw[es]at e;erw[Int.not_le.mp λhl=>?_];have:0<=-(Int.gcd p q:Int)*iG p q:=Yb aw hl
  lia
 ·have es:sg p q=(Int.gcd p q:Int):=by unfold sg;rw[bI hq]
  rw[es]at e;erw[Int.not_le.mp λhl=>?_];have:(Int.gcd p q:Int)*iG p q<=0:=Int.mul_nonpos_of_nonneg_of_nonpos aw hl
  lia
theorem Xm{s x y:Int}(hs:s≠0)(e:s*x=y):x.natAbs<=y.natAbs:=by rw[<-e,gD];erw[Nat.le_mul_of_pos_left _ aw]
theorem a5N{q:Int}(h:q≠0):(lowP p q).natAbs<=p.natAbs:=Xm (zM h) (Kd p q)
theorem TU{q:Int}(h:q≠0):(iG p q).natAbs<=q.natAbs:=Xm (zM h) (Dw p q)
theorem Pw{q:Int}(h:q≠0):(sg p q).natAbs<=q.natAbs:=by rw[PB];erw[Nat.le_of_dvd aw (Int.gcd_dvd_natAbs_right p q)]
end _A
namespace _r
open Rat
theorem Dv(hb:b≠0):_A.lowP a b=(Rat.divInt a b).num/\_A.iG a b=((Rat.divInt a b).den:Int):=by
 have hp:=_A.a5M (p:=a) hb;have hc:=_A.a5L (p:=a) hb;have Lo:(_A.iG a b).natAbs≠0:=by lia
 have a86:(_A.lowP a b).natAbs.Coprime (_A.iG a b).natAbs:=hc;have e1:Rat.divInt a b=Rat.divInt (_A.lowP a b) (_A.iG a b):=by have h:=Rat.divInt_mul_left (a:=_A.sg a b) (n:=_A.lowP a b) (d:=_A.iG a b) (_A.zM hb);rw[_A.Kd,_A.Dw]at h;erw[h]
 have e2:(#[_A.lowP a b,(_A.iG a b).natAbs,Lo,a86]:Rat)=Rat.divInt (_A.lowP a b) (((_A.iG a b).natAbs:Nat):Int):=Rat.mk_eq_divInt;have e3:(((_A.iG a b).natAbs:Nat):Int)=_A.iG a b:=by lia
 rw[e3]at e2;rw[e1,<-e2];erw[Z,e3.symm]
theorem den_pos(r:Rat):(0:Int)<(r.den:Int):=by have:=r.den_pos;omega
structure Bd(n:Nat)(r:Rat):Prop where
 num:r.num.natAbs<2^n
 den:r.den<2^n
theorem Bd.mono(h:Bd n r)(l:n<=m):Bd m r:=#[gP h.num (uE aD l),gP h.den (uE aD l)]
theorem mh(h:a<2^n)(g:b<2^m):a*b<2^(n+m):=by rw[Nat.pow_add];erw[Nat.mul_lt_mul'' h g]
theorem lM(hb:b≠0)(h1:a.natAbs<2^n)(h2:b.natAbs<2^n):Bd n (Rat.divInt a b):=by
 let(e1,e2):=Dv (a:=a) hb;have l1:=_A.a5N (p:=a) hb;have l2:=_A.TU (p:=a) hb;erw[?_,?_]
 ·rw[<-e1];lia
 ·lia
theorem rC(r s:Rat):(r.den:Int)*(s.den:Int)≠0:=Int.ne_of_gt (jh (den_pos r) (den_pos s))
theorem add_div(r s:Rat):r+s=Rat.divInt (r.num*s.den+s.num*r.den) (r.den*s.den):=by have h:=Rat.divInt_add_divInt r.num s.num (d₁:=r.den) (d₂:=s.den) (by have:=den_pos r;lia) (by have:=den_pos s;lia);rw[uC,uC]at h;erw[h]
theorem ZS(r s:Rat):r-s=Rat.divInt (r.num*s.den-s.num*r.den) (r.den*s.den):=by have h:=XR r.num s.num (d₁:=r.den) (d₂:=s.den) (by have:=den_pos r;lia) (by have:=den_pos s;lia);rw[uC,uC]at h;erw[h]
theorem mul_div(r s:Rat):r*s=Rat.divInt (r.num*s.num) (r.den*s.den):=by have h:=XS r.num s.num (d₁:=r.den) (d₂:=s.den);rw[uC,uC]at h;erw[h]
section
variable {n m:Nat} {r s:Rat}
theorem abN(h:Bd n r)(g:Bd m s):(r.num*s.den).natAbs<2^(n+m):=by rw[gD];erw[mh h.num (by have:=g.den;omega)]
theorem abM(h:Bd n r)(g:Bd m s):(s.num*r.den).natAbs<2^(n+m):=by rw[gD,Nat.mul_comm];erw[mh (by have:=h.den;lia) g.num]
theorem ME(h:Bd n r)(g:Bd m s):((r.den:Int)*(s.den:Int)).natAbs<2^(n+m):=by rw[gD];erw[mh (by have:=h.den;lia) (by have:=g.den;lia)]
theorem Bd.add(h:Bd n r)(g:Bd m s):Bd (n+m+1) (r+s):=by
 rw[add_div];have h1:=abN h g;have h2:=abM h g;have h3:=ME h g;have e:2^(n+m+1)=2^(n+m)+2^(n+m):=by rw[Nat.pow_succ];omega
 erw[lM (rC r s) fH fH]
theorem Bd.mul(h:Bd n r)(g:Bd m s):Bd (n+m) (r*s):=by rw[mul_div];erw[lM (rC r s) (by rw[gD];erw[mh h.num g.num]) (ME h g)]
end
end _r
namespace _L
open PySem PySem.Spec PyProof.Rows
def jm(H H':Hp):Prop:=∀b o,(∀xs,o≠ .lst xs)->H b=some o->H' b=some o
section
variable {K:aa} {H H' H2:Hp}
theorem jm.trans(a:jm H H')(b:jm H' H2):jm H H2:=λc o n e=>b c o n (a c o n e)
theorem jm.sH{D:Addr}(h:H D=some (.lst xs)):jm H (upd H D (.lst ys)):=λb o n e=>by rw[aR (Ab e h (n xs))];erw[e]
theorem aV.t(s:jm H H')(h:aV K H a xs):aV K H' a xs:=h.imp (λr=>r.imp (s _ _ λ_ z=>nomatch z) λ#[o,e]=>#[o,s _ _ (λ_ z=>nomatch z) e]) id
mutual
def fQ:ai->Bool | .list _=>false | .dict _=>false | .tuple ds=>du ds | .none=>true | .bool _=>true | .int _=>true | .str _=>true
def du:List ai->Bool |[]=>true |d::ds=>fQ d&&du ds
end
theorem iM:∀{ds:List ai},du ds=true↔∀d∈ds,fQ d=true
 |[]=>#[λ_ _ h=>(nomatch h),λ_=>by simp[du]] |d::ds=>by
  rw[du,fD,iM (ds:=ds)];constructor
  ·rintro⟨a,b⟩ x hx
   rcases bJ.mp hx with rfl|hx
   ·erw[a]
   ·erw[b x hx]
  ·intro h
   erw[h d (.head _),λx hx=>h x (.tail _ hx)]
theorem me(ns:List Int):du (ns.map PyData.int)=true:=iM.mpr λd hd=>by let(i,_,rfl):=kh.mp hd;simp[fQ]
mutual
theorem RD.t(s:jm H H'):∀{x:V}(d:ai),fQ d=true->RD K H x d->RD K H' x d |x,.none,_,h=>by simpa[RD]using h |x,.bool b,_,h=>by simpa[RD]using h |x,.int i,_,h=>by simpa[RD]using h |x,.str y,_,h=>by simpa[RD]using h |x,.list ds,n,h=>by simp[fQ]at n |x,.tuple ds,n,h=>by rw[RD]at h⊢;let(a,xs,e,h1,h2):=h;erw[a,xs,e,h1.t s,aO.t s ds (by simpa[fQ]using n) h2] |x,.dict _,_,h=>by simp[RD]at h
theorem aO.t (s:jm H H'):∀{xs:List V}(ds:List ai),du ds=true->aO K H xs ds->aO K H' xs ds |xs,[],_,h=>by simpa[aO]using h |xs,d::ds,n,h=>by rw[aO]at h⊢;rw[du,fD]at n;let(y,ys,e,h1,h2):=h;erw[y,ys,e,RD.t s d n.1 h1,aO.t s ds n.2 h2]
end
theorem aO.jC:∀{xs:List V}{ns:List Int},aO K H xs (ns.map PyData.int)->xs=ns.map V.int |xs,[],h=>h.nil_inv |xs,n::ns,h=>by let(y,ys,rfl,h1,h2):=h.cons_inv;rw[h1.int_inv,aO.jC h2];rfl
theorem xI:∀(ns:List Int),aO K H (ns.map V.int) (ns.map PyData.int) |[]=>dc |n::ns=>cj (cF n) (xI ns)
theorem WC{xs:List V}{ds:List ai}{D:Addr}(rest:St)(nw:Nw H H0 D (.lst []))(hl:xs.length=ds.length)(hz:xs.length<=1000)(hn:du ds=true) (go:∀i x H2,xs[i]? =some x->aH H H2->J.go i H2/\∀y H3,J.kJ i H2 y H3->H3=H2/\y=x)(stop:∀H2,aH H H2->J.stop xs.length H2) (hs:∀(i:Nat)(x:V)(d:ai)(H2:Hp)(Q':VK),xs[i]? =some x->ds[i]? =some d->aH H H2->(∀y H3,aH H2 H3->RD K H3 y d->Q' y H3)->te (some x::rest) H2 Q') (hq:∀H' ys,aH H H'->H' D=some (.lst ys)->aO K H' ys ds->Q (.ref D) H'):jo J (fK 0) iX te Q D (none::rest) H0:=by
 have hD:=nw.no;erw[uj xs.length (λi O H2=>aH H H2/\(∃ys,H2 D=some (.lst ys)/\aO K H2 ys (ds.take i))/\∃v,O=v::rest) ?_ ?_ ?_]
 ·erw[nw.same,#[[],nw.at',dc],none,Z]
 ·rintro i O H2 hi ⟨s2,⟨ys,d2,r2⟩,v,rfl⟩
  have yx:i<ds.length:=by rw[<-hl];erw[hi]
  have ex:=cC hi;have eb:=cC yx;let(g1,g2):=go i _ H2 ex s2;erw[g1,λy H3 hy=>?_];let(rfl,rfl):=g2 y H3 hy;erw[BS ?_];erw[hs i _ _ _ _ ex eb s2 λz H4 s4 r4=>?_];have d4:=s4 _ _ d2;have len:=r2.length;rw[pU]at len;erw[ys,d4,?_,xs.length-(i+1),aw,Z,aw,λb o e=>?_,#[ys++[z],bo,?_],_,Z]
  ·have:(1000:Nat)<sizeLine:=by decide
   lia
  ·rw[aR (fZ e hD)];erw[s4 b o (s2 b o e)]
  ·have t:jm H4 (upd H4 D (.lst (ys++[z]))):=.sH d4
   rw[sj,eb];have n1:du (ds.take i)=true:=iM.mpr λd hd=>iM.mp hn d (Fz hd);exact(aO.t t _ n1 (aO.mono s4 _ r2)).append (cj (RD.t t _ (iM.mp hn _ (FE yx)) r4) dc)
 ·rintro O H2 ⟨s2,⟨ys,d2,r2⟩,v,rfl⟩
  erw[stop H2 s2,hq H2 ys s2 d2 ?_];rw[hl,wV]at r2;erw[r2]
theorem EN{D:Addr}(rest:St)(hx:aV K H a xs)(nw:Nw H H0 D (.lst []))(hl:xs.length=ds.length)(hz:xs.length<=1000)(hn:du ds=true) (hs:∀(i:Nat)(x:V)(d:ai)(H2:Hp)(Q':VK),xs[i]? =some x->ds[i]? =some d->aH H H2->(∀y H3,aH H2 H3->RD K H3 y d->Q' y H3)->te (some x::rest) H2 Q') (hq:∀H' ys,aH H H'->H' D=some (.lst ys)->aO K H' ys ds->Q (.ref D) H'):jo (uz K a) (fK 0) iX te Q D (none::rest) H0:=WC rest nw hl hz hn (λi x H2 e s=>#[#[xs,x,hx.go s,e],λy H3 #[e3,y3]=>#[e3,by have:=y3 _ (hx.go s);rw[e]at this;exact(fe this).symm]]) (λH2 s=>#[xs,hx.go s,ck _]) hs hq
theorem abT{lo:Int}{n:Nat}{ds:List ai}{D:Addr}(rest:St)(nw:Nw H H0 D (.lst []))(hl:n=ds.length)(hz:n<=1000)(hn:du ds=true) (hs:∀(i:Nat)(d:ai)(H2:Hp)(Q':VK),ds[i]? =some d->aH H H2->(∀y H3,aH H2 H3->RD K H3 y d->Q' y H3)->te (some (.int (lo+i))::rest) H2 Q') (hq:∀H' ys,aH H H'->H' D=some (.lst ys)->aO K H' ys ds->Q (.ref D) H'):jo (pJ lo n) (fK 0) iX te Q D (none::rest) H0:=by
 have hx:∀i x,((List.range n).map λi:Nat=>V.int (lo+i))[i]? =some x->i<n/\x= .int (lo+i):=λi x e=>by rw[cV]at e;cases h:(List.range n)[i]? with |none=>rw[h]at e;cases e |some j=>rw[h]at e;let(h1,h2):=eQ.mp h;rw[wY]at h2;subst h2;erw[by simpa using h1,(fe e).symm]
 erw[WC (xs:=(List.range n).map λi:Nat=>V.int (lo+i)) rest nw (by simpa using hl) (by simpa using hz) hn (λi x H2 e s=>?_) (λH2 s=>?_) (λi x d H2 Q' e1 e2 s k=>?_) hq]
 ·let(h1,rfl):=hx i x e
  erw[h1,λy H3 #[e3,y3]=>#[e3,y3]]
 ·show n<=_
  simp
 ·let(h1,rfl):=hx i x e1
  erw[hs i d H2 Q' e2 s k]
theorem wB{D:Addr}(rest:St)(DX:n=2)(h1:fL b1 K H l1 xs)(h2:fL b2 K H l2 ys)(nw:Nw H H0 D (.lst [])) (hl:min xs.length ys.length=ds.length)(hz:ds.length<=1000)(hn:du ds=true) (hs:∀(i:Nat)(x y:V)(d:ai)(H2:Hp)(Q':VK),xs[i]? =some x->ys[i]? =some y->ds[i]? =some d->aH H H2->(∀z H3,aH H2 H3->RD K H3 z d->Q' z H3)->te (some x::some y::rest) H2 Q') (hq:∀H' zs,aH H H'->H' D=some (.lst zs)->aO K H' zs ds->Q (.ref D) H'):jo (og K b1 b2 l1 l2) (qU K n (kX (fK 0) (kX (fK 1) u9))) iX te Q D (none::none::rest) H0:=by
 subst DX;have hD:=nw.no;erw[uj ds.length (λi O H2=>aH H H2/\(∃zs,H2 D=some (.lst zs)/\aO K H2 zs (ds.take i))/\∃v v',O=v::v'::rest) ?_ ?_ ?_]
 ·erw[nw.same,#[[],nw.at',dc],none,none,Z]
 ·rintro i O H2 hi ⟨s2,⟨zs,d2,r2⟩,v,v',rfl⟩
  have hx:i<xs.length:=by lia
  have hy:i<ys.length:=by lia
  have ex:=cC hx;have ey:=cC hy;have eb:=cC hi;erw[#[xs,ys,_,_,h1.go s2,h2.go s2,ex,ey],λy' H3 kQ=>?_];let(T,x0,y0,rfl,k1,k2,n3):=kQ;have e1:=k1 _ (h1.go s2);have e2:=k2 _ (h2.go s2);rw[ex]at e1;rw[ey]at e2;cases e1;cases e2;erw[T,_,Z,aV.of n3.at',Z,_,_,Z,_,_,Z,Z,?_];erw[yes (cx ?_)];erw[hs i _ _ _ _ _ ex ey eb (s2.trans n3.same) λz H4 s4 r4=>?_];have qo:=n3.same.trans s4;have d4:=qo _ _ d2;have len:=r2.length;rw[pU]at len;erw[zs,d4,?_,ds.length-(i+1),aw,Z,aw,λb o e=>?_,#[zs++[z],bo,?_],_,_,Z]
  ·have:(1000:Nat)<sizeLine:=by decide
   lia
  ·rw[aR (fZ e hD)];erw[qo b o (s2 b o e)]
  ·have t:jm H4 (upd H4 D (.lst (zs++[z]))):=.sH d4
   rw[sj,eb];have n1:du (ds.take i)=true:=iM.mpr λd hd=>iM.mp hn d (Fz hd);exact(aO.t t _ n1 (aO.mono qo _ r2)).append (cj (RD.t t _ (iM.mp hn _ (FE hi)) r4) dc)
 ·rintro O H2 ⟨s2,⟨zs,d2,r2⟩,v,v',rfl⟩
  erw[#[xs,ys,h1.go s2,h2.go s2,aw],hq H2 zs s2 d2 ?_];rw[wV]at r2;erw[r2]
end
theorem Uu:∀{ns:List Int}{us:List Value},Vals (ns.map V.int) us->(∀v∈us,∃a t,v=Value.int a t)/\numsOf us=ns
 |[],_,.nil=>#[λ_ h=>(nomatch h),rfl] |n::ns,_,.cons q r=>by
  let(t,rfl):=(show∃t,_=Value.int n t from q);let(h1,h2):=Uu r;erw[λv hv=>?_,?_]
  ·rcases bJ.mp hv with rfl|hv
   ·erw[n,t,Z]
   ·erw[h1 v hv]
  ·show n::numsOf _=_
   rw[h2]
section
variable {X:Cx}
theorem K7(K:aa)(hK:X.K=K)(hc:X.calm=true):gb X (.builtin "max") (λxs H Q=>∃(l:Addr)(ns:List Int),xs=[.ref l]/\aK K H l (ns.map V.int)/\ns≠[]/\∀M,M∈ns->(∀a∈ns,a<=M)->Q (.int M) H):=by
 subst hK;intro ay s O H xs us Q I r h;let(l,ns,rfl,hl,eZ,q):=h;let(u,rfl,ru):=vals1 r;cases(show u=Value.ref l from ru);let(its,rv,pl,hz):=I.list hl;let(a1,a2):=Uu rv;have all:AllInts its.toArray:=λv hv=>a1 v (by simpa using hv);let(ps,UL):=all.items;have e0:numsOf (intItems ps).toList=ns:=by rw[<-UL];erw[a2]
 rw[nums_intItems]at e0;have hlen:ps.size=ns.length:=by rw[<-e0,cJ,BN]
 have vK:0<ps.size:=by rw[hlen];erw[NI.mpr eZ]
 erw[max_intList (I.ok.hd hc) (by rw[<-UL];erw[pl.isList]) vK λv h' tk hv hk=>?_];let(t,rfl):=intItems_at hv;let(h1,h2):=argBest_gt (numAt ps) (ps.size-1);erw[.int _,H,I.kept hk,#[_,Z],q _ ?_ λa ha=>?_]
 ·rw[numAt_eq,e0];erw[getD_mem fH]
 ·let(j,hj,rfl):=mem_getD ha
  rw[<-e0,<-numAt_eq];erw[h2 j fH]
theorem Uv{ns:List Int}{us:List Value}(r:Vals (ns.map V.int) us){i:Nat}{v:Value}(h:us[i]? =some v):∃n t,ns[i]? =some n/\v=Value.int n t:=by
 have hl:=r.length;rw[cJ]at hl;have hi:i<ns.length:=by rw[hl];exact(eQ.mp h).1
 let(u,e,ru):=r.get (i:=i) (x:=.int ns[i]) (by rw[cV,cC hi];rfl);rw[h]at e;cases e;let(t,rfl):=(show∃t,v=Value.int ns[i] t from ru);erw[_,t,cC hi,Z]
theorem a1E(ns:List Int):((List.range ns.length).any λi=>((ns.map (· !=0))[i]?).getD false)=ns.any (· !=0):=by have:=LSm.range_any (ns.map (· !=0));rw[cJ]at this;rw[this,List.any_map];rfl
theorem acS(K:aa)(hK:X.K=K)(hc:X.calm=true):gb X (.builtin "any") (λxs H Q=>∃(l:Addr)(ns:List Int),xs=[.ref l]/\(aK K H l (ns.map V.int)\/aV K H l (ns.map V.int))/\Q (.bl (ns.any (· !=0))) H):=by
 subst hK;intro ay s O H xs us Q I r h;let(l,ns,rfl,hl,q):=h;let(u,rfl,ru):=vals1 r;cases(show u=Value.ref l from ru);have hh:=I.ok.hd hc;have fin:∀(its:List Value),Vals (ns.map V.int) its->((List.range its.toArray.size).any λi=>((ns.map (· !=0))[i]?).getD false)=ns.any (· !=0):=λits rv=>by rw[fC,<-rv.length,cJ];erw[a1E ns]
 rcases hl with hl|hl
 ·let(its,rv,pl,hz):=I.list hl
  have fw:=pl.isList;have cK:l<s.heap.objs.size:=by let(_,e,_):=fw;erw[cY e]
  erw[call_any_walk (Fj fw ?_)];erw[s.heap.objs.size,[s.heap.objs.size,l],[s.heap.objs.size],its.toArray.size,_,_,λi=>((ns.map (· !=0))[i]?).getD false,Z,Walks.list (A:=X.A.in1) hh _ l (gq cK) its.toArray,#[#[_,fO _ Z,Z,Z],fw.push _],λi v s' Q' E' hP hQ=>?_,λh' tk hk=>?_]
  ·let(n,t,e,rfl):=Uv rv (i:=i) (v:=v) (by simpa using hP)
   simp only[cV,e]at hQ;erw[truthy_int hQ]
  ·rw[fin its rv]
   erw[.bl _,H,I.kept (LSm.kept_iter hk),Z,q]
 ·let(its,rv,pl,hz):=I.tuple hl
  have fw:s.heap.IsTuple l its.toArray:=by let((cls,dd,data,sl),ho,iu,n,hd):=pl;erw[_,ho,iu,by simpa using#[n,hd]]
  have cK:l<s.heap.objs.size:=by let(_,e,_):=fw;erw[cY e]
  erw[call_any_walk (wpAny_pyIter_tuple fw ?_)];erw[s.heap.objs.size,[s.heap.objs.size,l],[s.heap.objs.size],its.toArray.size,_,_,λi=>((ns.map (· !=0))[i]?).getD false,Z,Walks.tuple (A:=X.A.in1) hh _ l (gq cK) its.toArray,#[#[_,fO _ Z,Z,Z],fw.push _],λi v s' Q' E' hP hQ=>?_,λh' tk hk=>?_]
  ·let(n,t,e,rfl):=Uv rv (i:=i) (v:=v) (by simpa using hP)
   simp only[cV,e]at hQ;erw[truthy_int hQ]
  ·rw[fin its rv]
   erw[.bl _,H,I.kept (LSm.kept_iter hk),Z,q]
end
end _L
set_option maxHeartbeats 1000000
namespace _c
open PySem PySem.Spec PyProof.Rows _L
def Xz(c m:Int):Prop:=0<=c/\0<=m/\m<2147483648
def fm(H:Hp)(p:Addr):Prop:=∃c m,H p=some (.lst [.int c,.int m])/\Xz c m
structure bS(p:Addr)(H H':Hp):Prop where
 bu:fm H' p
 same:∀b o,b≠p->H b=some o->H' b=some o
theorem bS.refl(h:fm H p):bS p H H:=#[h,λ_ _ _ e=>e]
theorem bS.trans(a:bS p H H1)(b:bS p H1 H2):bS p H H2:=#[b.bu,λc o n e=>b.same c o n (a.same c o n e)]
theorem bS.upd(h:Xz c m):bS p H (_L.upd H p (.lst [.int c,.int m])):=#[#[c,m,bo,h],λb o n e=>by rw[aR n];erw[e]]
theorem bS.fT(h:fm H p)(s:aH H H'):bS p H H':=by let(c,m,e,ok):=h;erw[#[c,m,s _ _ e,ok],λb o _ e=>s b o e]
theorem NX(h0:0<=j)(h:j<=10^40):Wd j:=by
 have:j.natAbs<=10^40:=by lia
 erw[sf this bf]
theorem fm.ne(h:fm H p):H p≠none:=by let(c,m,e,_):=h;rw[e];erw[λz=>nomatch z]
theorem fm.a4T{q:Addr}(h:fm H p)(e:H q=some o)(n:∀xs,o≠ .lst xs):q≠p:=by let(c,m,e',_):=h;erw[Ab e e' (n _)]
theorem bS.t(bg:fm H p)(b:bS p H H'):jm H H':=λc o n e=>b.same c o (bg.a4T e n) e
theorem bS.GB(s:aH H0 H)(hp:H0 p=none)(b:bS p H H'):aH H0 H':=λc o e=>b.same c o (fZ e hp) (s c o e)
section
variable {K:aa}
theorem abZ{D:Addr}(n:Nat)(rest:_L.St)(nw:Nw H H0 D (.lst []))(bg:fm H p)(hn:n<=1000)(xv:Nat->V) (go:∀i H2,i<n->bS p H H2->J.go i H2/\∀y H3,J.kJ i H2 y H3->H3=H2/\y=xv i)(stop:∀H2,bS p H H2->J.stop n H2)(Pz:Int->Prop) (hs:∀i H2 (Q':VK),i<n->bS p H H2->(∀z H3,Pz z->bS p H2 H3->Q' (.int z) H3)->te (some (xv i)::rest) H2 Q') (hq:∀H' (is:List Int),bS p H H'->H' D=some (.lst (is.map V.int))->is.length=n->(∀z∈is,Pz z)->Q (.ref D) H'):jo J (fK 0) iX te Q D (none::rest) H0:=by
 have AM:D≠p:=λe=>bg.ne (e▸nw.no);erw[uj n (λi O H3=>bS p H H3/\(∃is:List Int,H3 D=some (.lst (is.map V.int))/\is.length=i/\∀z∈is,Pz z)/\∃v,O=v::rest) ?_ ?_ ?_]
 ·erw[.fT bg nw.same,#[[],nw.at',Z,λ_ h=>(cD h).elim],none,Z]
 ·rintro i O H3 hi ⟨b3,⟨is,d3,li,pi⟩,v,rfl⟩
  let(g1,g2):=go i H3 hi b3;erw[g1,λy H4 hy=>?_];let(rfl,rfl):=g2 y H4 hy;erw[BS ?_];erw[hs i _ _ hi b3 λz H5 pz b5=>?_];erw[_,b5.same _ _ AM d3,?_,n-(i+1),aw,Z,aw,?_,#[is++[z],?_,?_,?_],_,Z]
  ·rw[cJ,li]
   have:(1000:Nat)<sizeLine:=by decide
   lia
  ·have Ba:=b3.trans b5
   erw[?_,λb o n e=>?_]
   ·let(c,m,e,ok):=Ba.bu
    erw[c,m,by rw[aR AM.symm];erw[e],ok]
   ·rw[aR (fZ e nw.no)];erw[Ba.same b o n e]
  ·rw[bo,pT];rfl
  ·rw[fN,li];rfl
  ·intro y hy
   rcases wW.mp hy with h|h
   ·erw[pi y h]
   ·rw[bW.mp h];erw[pz]
 ·rintro O H3 ⟨b3,⟨is,d3,li,pi⟩,v,rfl⟩
  erw[stop H3 b3,hq H3 is b3 d3 li pi]
theorem a6x(ns:List Int){i:Int}(h0:0<=i)(h:i<ns.length):∃z,z∈ns/\fW (ns.map V.int) i=some (.int z):=by
 have hl:i.toNat<ns.length:=by omega
 erw[ns[i.toNat],FE hl,dQ h0 (by rw[cV,cC hl];rfl)]
theorem WB{D:Addr}(n:Nat)(rest:_L.St)(nw:Nw H H0 D (.lst []))(bg:fm H p)(hn:n<=1000)(xv:Nat->V) (go:∀i H2,i<n->bS p H H2->J.go i H2/\∀y H3,J.kJ i H2 y H3->H3=H2/\y=xv i)(stop:∀H2,bS p H H2->J.stop n H2)(Pd:Nat->ai->Prop) (hs:∀i H2 (Q':VK),i<n->bS p H H2->(∀y d H3,Pd i d->fQ d=true->RD K H3 y d->bS p H2 H3->Q' y H3)->te (some (xv i)::rest) H2 Q') (hq:∀H' ys ds,bS p H H'->H' D=some (.lst ys)->aO K H' ys ds->ds.length=n->du ds=true->(∀i d,ds[i]? =some d->Pd i d)->Q (.ref D) H'):jo J (fK 0) iX te Q D (none::rest) H0:=by
  have AM:D≠p:=λe=>bg.ne (e▸nw.no);erw[uj n (λi O H3=>bS p H H3/\(∃ys ds,H3 D=some (.lst ys)/\aO K H3 ys ds/\ds.length=i/\du ds=true/\∀j d,ds[j]? =some d->Pd j d)/\∃v,O=v::rest) ?_ ?_ ?_]
  ·erw[.fT bg nw.same,#[[],[],nw.at',dc,Z,Z,λj d e=>by simp at e],none,Z]
  · rintro i O H3 hi ⟨b3,⟨ys,ds,d3,r3,li,ni,pi⟩,v,rfl⟩
    let(g1,g2):=go i H3 hi b3;erw[g1,λy H4 hy=>?_];let(rfl,rfl):=g2 y H4 hy;erw[BS ?_];erw[hs i _ _ hi b3 λz d H5 pz nz rz b5=>?_];have d5:=b5.same _ _ AM d3;have t:jm H5 (_L.upd H5 D (.lst (ys++[z]))):=.sH d5;erw[ys,d5,?_,n-(i+1),aw,Z,aw,?_,#[ys++[z],ds++[d],bo,?_,?_,?_,?_],_,Z]
    · rw[r3.length,li]
      have:(1000:Nat)<sizeLine:=by decide
      lia
    · have Ba:=b3.trans b5
      erw[?_,λb o n e=>?_]
      · let(c,m,e,ok):=Ba.bu
        erw[c,m,by rw[aR AM.symm];erw[e],ok]
      ·rw[aR (fZ e nw.no)];erw[Ba.same b o n e]
    ·exact(aO.t ((bS.t b3.bu b5).trans t) _ ni r3).append (cj (RD.t t _ nz rz) dc)
    ·rw[fN,li];rfl
    ·exact iM.mpr λx hx=>by
        rcases wW.mp hx with h|h
        ·erw[iM.mp ni x h]
        ·rw[bW.mp h];erw[nz]
    · intro j e he
      by_cases hj:j<ds.length
      · rw[zo hj]at he
        erw[pi j e he]
      · have qO:j=ds.length:=by
          have:=(eQ.mp he).1;rw[fN]at this;have:j<ds.length+1:=this
          lia
        subst qO;rw[BI (ck _),Nz]at he;cases he;rw[li];erw[pz]
  · rintro O H3 ⟨b3,⟨ys,ds,d3,r3,li,ni,pi⟩,v,rfl⟩
    erw[stop H3 b3,hq H3 ys ds b3 d3 r3 li ni pi]
end
end _c
namespace _l
open PySem _L
def jk(i:Int):Int:=if i<0 then-i else i
theorem Bg(i:Int):jk i=(i.natAbs:Int):=by unfold jk;split<;>lia
def aP(ns:List Int):Nat:=ns.foldr (λz m=>max z.natAbs m) 0
theorem Kl:∀{ns:List Int}{z:Int},z∈ns->z.natAbs<=aP ns
 |n::ns,z,h=>by
  show z.natAbs<=max n.natAbs (aP ns);rcases bJ.mp h with rfl|h
  ·erw[Nat.le_max_left _ _]
  ·erw[iK (Kl h) (Nat.le_max_right _ _)]
theorem Kk:∀{ns:List Int},ns≠[]->∃z∈ns,z.natAbs=aP ns
 |[],h=>absurd Z h |[n],_=>#[n,.head _,by show n.natAbs=max n.natAbs 0;lia] |n::m::ns,_=>by
  let(z,hz,e):=Kk (ns:=m::ns) (by simp);by_cases h:n.natAbs<=aP (m::ns)
  ·erw[z,.tail _ hz,by show _=max n.natAbs (aP (m::ns));lia]
  ·erw[n,.head _,by show _=max n.natAbs (aP (m::ns));lia]
theorem oV(h:∀z∈ns,z.natAbs<=m):aP ns<=m:=by cases ns with |nil=>erw[gK _] |cons a r=>let(z,hz,e):=Kk (ns:=a::r) (by simp);rw[<-e];erw[h z hz]
theorem a60(h:∃z∈ns,z≠0):0<aP ns:=by
 let(z,hz,h0):=h;have:=Kl hz
 lia
theorem Kj(eZ:ns≠[]){M:Int}(h1:M∈ns.map jk)(h2:∀a∈ns.map jk,a<=M):M=(aP ns:Int):=by
 let(z,hz,e):=kh.mp h1;let(y,hy,ey):=Kk eZ;have a1:=Kl hz;have a2:=h2 (jk y) (kh.mpr #[y,hy,Z]);rw[Bg]at e a2
 lia
def jv(p q:Int):Int:=(2*(p.natAbs:Int)+q)/(2*q)
def fU(p q:Int):Int:=if p>=0 then jv p q else-jv p q
structure zb(x p q:Int):Prop where
 lo:-q<=2*(x*q-p)
 hi:2*(x*q-p)<=q
 far:2*(x*q-p)=q\/2*(x*q-p)=-q->p.natAbs<=(x*q).natAbs
theorem Pt{q:Int}(hq:0<q):2*q*jv p q<=2*(p.natAbs:Int)+q/\2*(p.natAbs:Int)+q<2*q*jv p q+2*q:=by have h:=Int.mul_ediv_add_emod (2*(p.natAbs:Int)+q) (2*q);have h0:=pV (2*(p.natAbs:Int)+q) (show 2*q≠0 by omega);have h1:=uH (2*(p.natAbs:Int)+q) (show 0<2*q by omega);unfold jv;constructor<;>omega
theorem Pu{q:Int}(hq:0<q):0<=jv p q:=Int.ediv_nonneg aw aw
theorem near_is{q:Int}(hq:0<q):zb (fU p q) p q:=by
 let(h1,h2):=Pt (p:=p) hq;have h0:=Pu (p:=p) hq;rw[uG,NP q]at h1 h2;have hs0:0<=jv p q*q:=ki h0 (FJ hq);unfold fU;split
 ·erw[?_,?_,λh=>?_]<;>(generalize jv p q*q=s at*;omega)
 ·erw[?_,?_,?_]<;>rw[Int.neg_mul]<;>(generalize jv p q*q=s at*;omega)
theorem Af{q:Int}(hq:0<q)(h:x<y):x*q+q<=y*q:=by have:(x+1)*q<=y*q:=NN aw aw;rw[Int.add_mul,lU]at this;erw[this]
theorem a4O{q:Int}(hq:0<q)(a:zb x p q)(b:zb y p q):x=y:=by
 have key:∀{x y:Int},zb x p q->zb y p q->¬x<y:=λ{x y} a b h=>by
  have g:=Af hq h;have e1:=a.lo;have e2:=a.hi;have e3:=b.lo;have e4:=b.hi;have f1:=a.far;have f2:=b.far;have hx:x*q=0\/q<=x*q\/x*q<=-q:=by
   rcases Yc x 0 with h|h|h
   ·have:=Af hq h;lia
   ·left;rw[h,BL]
   ·have:=Af hq h;lia
  have hy:y*q=0\/q<=y*q\/y*q<=-q:=by
   rcases Yc y 0 with h|h|h
   ·have:=Af hq h;lia
   ·left;rw[h,BL]
   ·have:=Af hq h;lia
  generalize x*q=u at*;generalize y*q=v at*;have hu:=f1 aw;have hv:=f2 aw
  lia
 rcases Yc x y with h|h|h
 ·erw[absurd h (key a b)]
 ·erw[h]
 ·erw[absurd h (key b a)]
theorem JY{q:Int}(hq:0<q)(a:zb x p q):x=fU p q:=a4O hq a (near_is hq)
theorem JX{q:Int}(hq:0<q):fU 0 q=0:=(JY hq #[aw,aw,λh=>by lia]).symm
theorem a4R{q:Int}(hq:0<q):fU (q*n) q=n:=by refine(JY hq #[?_,?_,?_]).symm<;>rw[NP n q]<;>lia
theorem a4Q{q:Int}(hq:0<q):fU (-p) q=-fU p q:=by let(a,b,c):=near_is (p:=p) hq;refine(JY hq ?_).symm;erw[?_,?_,?_]<;>rw[Int.neg_mul]<;>omega
theorem a4P{q:Int}(hq:0<q)(hp:0<=p):0<=fU p q:=by unfold fU;rw[bE hp];erw[Pu hq]
end _l
namespace _L
open PySem PySem.Spec PyProof.Rows
abbrev EF(b:Bool)(h:Heap)(l:Addr):Heap:=h.push {cls:=.type (uk b),data:=.fields (List.toArray [.ref l,.int 0 0])}
abbrev Ms(b:Bool)(h:Heap)(l:Addr):Heap:=(EF b h l).push {cls:=.type "enumerate",data:=.fields (List.toArray [.none,.bool false,.ref h.objs.size,rawInt 0,.none,.none])}
theorem ab8(b:Bool)(l:Addr)(xs:Array Value):Meets (Builtin.«enumerate.__new__» #[[.type "enumerate",.ref l],[]]) (λ_ R s=>iS b s.heap l xs/\R (.ok (.ret (.ref (EF b s.heap l).objs.size))) {s with heap:=Ms b s.heap l}):=.of_wp λprog w A R s h=>by
 let(hp,gg,d,tk,os):=s;let(hl,h):=h;have KI:=sub_enumerate;have hL:iS b (Shared.heap #[hp,gg,d,tk,os]) l xs:=hl
 wp_walk using y6 hL;erw[wpAny_stack_any λst=>cI ?_];split
 ·rename_i c _ _ _ _ _
  cases(c==Value.type "enumerate")
  ·wp_walk using y6 hL
   erw[_,Z,h]
  ·wp_walk using y6 hL
   erw[_,Z,h]
 ·wp_walk using y6 hL
  erw[_,Z,h]
section
variable {prog:ah}{w:World}{A:aj}{E:Value->ae->Prop}{s:ae}
theorem ab9{b:Bool}{l:Addr}{xs:Array Value}{Q:Value->ae->Prop}(hl:iS b s.heap l xs) (q:∀g,IsEnum g (s.heap.objs.size+1) s.heap.objs.size 0 .none->lj b g s.heap.objs.size l 0->(∀c o,s.heap.get? c=some o->g.get? c=some o)->Q (.ref (s.heap.objs.size+1)) {s with heap:=g}): wpAny (model prog w) A (call (.type "enumerate") [.ref l]) Q E s:=by erw[callType_new PySem.F.called_enumerate aD (PySem.F.typeCall_enumerate_1 _) (PySem.F.newCall_enumerate_1 _) (λobj=>PySem.F.args_object_init_2 obj _) PySem.F.entry_enumerate_new (ab8 b l xs) #[hl,?_]];have z1:(EF b s.heap l).objs.size=s.heap.objs.size+1:=uI ..;have g2:(Ms b s.heap l).get? (EF b s.heap l).objs.size=some _:=fO _ rfl;have g1:(Ms b s.heap l).get? s.heap.objs.size=some _:=cW _ (fO _ Z);show _/\_;rw[z1]at g2⊢;erw[#[_,g2,Z],q _ g2 ?_ λc o e=>cW _ (cW _ e)];cases b<;>erw[_,g1,rfl,rfl]
theorem W4{b:Bool}{it l:Addr}{xs:Array Value}(hh:A.handled=none)(ne:l≠it):Draws prog w A it [it,l] xs.size (λi x=>xs[i]? =some x) (λi h=>lj b h it l i/\iS b h l xs) where
 live:=λi h st=>by let(o,e,_):=st.1.ob;erw[o,e]
 frame:=λi h h' st k=>#[st.1.to λo e=>k it (by simp) o e,st.2.to λo e=>k l (by simp) o e]
 item:=λi s Q E hi st hQ=>Df st.1 st.2 (x:=xs[i]) (by simp[hi]) λg gi sb=>hQ _ g s.toks (by simp[hi]) #[gi,st.2.to λo e=>sb.extBut _ _ ne e] sb
 done:=λs Q E st hE=>Mr hh st.1 st.2 (by simp) λg e a b=>hE g e a b
end
def Bq(K:aa)(b:Bool)(l:Addr):It:=#[λi H=>∃xs x,fL b K H l xs/\xs[i]? =some x,λi H v H'=>∃T x,v= .ref T/\(∀xs,fL b K H l xs->xs[i]? =some x)/\Nw H H' T (.tup [.int i,x]),λi H=>∃xs,fL b K H l xs/\xs.length=i]
theorem YV{P:ah}{w:World}{K:aa}{elts:List Expr}{kt:Nat}{pos:Pos}{b:Bool}{e it l:Addr}(D:e≠it): Turn P w K (.Tuple elts kt pos) (Bq K b l) [e,it] e (λi h=>(∃old,IsEnum h e it i old)/\lj b h it l i) where
 mem:=by simp
 obj:=λi h st c hc=>by
  let((old,he),h1):=st;simp only[bJ,cD,cX]at hc;rcases hc with rfl|rfl
  ·erw[_,he,λv e=>by cases e]
  ·let(o,e,_,n):=h1.ob;erw[o,e,n]
 keep:=λi h h' st k=>by let((old,he),h1):=st;erw[#[old,k e (by simp) _ he],h1.to λo q=>k it (by simp) o q]
 item:=by
  intro X hP hw hK hc i ay s O H E I hf st hg;subst hP hw hK;let(xs,x,q1,e1):=hg;let(its,r1,p1):=q1.get I;let(u1,fi,lZ):=r1.get e1;let((old,he),h1):=st;let(oi,mq,ci,_):=h1.ob;have Km:∃o,s.heap.get? l=some o/\(o.cls= .type "list"\/o.cls= .type "tuple"):=by cases b<;>(let(o,ho,cc,_):=p1;first|erw[o,ho,.inl cc]|erw[o,ho,.inr cc])
  let(ol,vN,cl):=Km;have nel:e≠l:=λz=>by subst z;rw[he]at vN;cases vN;rcases cl with h|h<;>simp at h
  have nil:l≠it:=λz=>by subst z;rw[mq]at vN;cases vN;rw[ci]at cl;cases b<;>(rcases cl with h|h<;>simp[uk]at h)
  have cK:i<its.toArray.size:=by rw[fC,<-r1.length];exact(eQ.mp e1).1
  erw[wpAny_pyNext_enum_itemD (W4 (I.ok.hd hc) nil) he #[h1,p1] cK D (by simp[D,nel]) λy h' tk hPy ho iQ hT hsz kp=>#[_,Z,?_]];have ey:y=u1:=by
   have a1:its.toArray[i]? =some y:=hPy;have a2:its.toArray[i]? =some u1:=by simpa using fi
   rw[a1]at a2;erw[fe a2]
  subst ey;erw[wpAny_letOwnedTupleGo_enum ho λg' Lm sb=>?_];have hs:=sb.extBut;have elt:e<s.heap.objs.size:=cY he;have ilt:it<s.heap.objs.size:=cY mq;have nw:Nw H (upd H s.heap.objs.size (.tup [.int i,x])) s.heap.objs.size (.tup [.int i,x]):=.of (I.bB.fresh (ck _));have I1:Inv X ay O (upd H s.heap.objs.size (.tup [.int i,x])) {s with heap:=s.heap.push {cls:=.type "tuple",data:=.seq (List.toArray [.int i tk,y])},toks:=tk+1}:=I.laid (t':=tk+1) (λb ob q=>cW _ q) (ck _) #[by show 2<=sizeLine;decide,[.int i tk,y],.cons #[tk,Z] (.cons lZ .nil),#[_,fO _ Z,Z,_,Z]];have Dq:∀c∈[e,it],c<s.heap.objs.size:=λc hc=>by
   simp only[bJ,cD,cX]at hc;rcases hc with rfl|rfl
   ·erw[elt]
   ·erw[ilt]
  have hn:∀c∈[e,it],upd H s.heap.objs.size (.tup [.int i,x]) c=none:=λc hc=>by rw[aR (gq (Dq c hc))];exact(hf c hc).1
  have I2:Inv X ay O (upd H s.heap.objs.size (.tup [.int i,x])) {s with heap:=g',toks:=tk+1}:=Inv.zx (s:={s with heap:=s.heap.push {cls:=.type "tuple",data:=.seq (List.toArray [.int i tk,y])},toks:=tk+1}) (t':=tk+1) (fp:=[e,it]) I1 (λc o hc q=>by
   have q:(s.heap.push {cls:=.type "tuple",data:=.seq (List.toArray [.int i tk,y])}).get? c=some o:=q;have nz:c≠e:=λz=>hc (by simp[z]);rcases Heap.get?_push_cases q with⟨yB,rfl⟩|q'
   ·subst yB
    erw[hs _ _ nz hT]
   ·erw[hs _ _ nz (kp c o nz (λz=>hc (by simp[z])) q')]) (λc hc=>by let(f0,f1,f2,f3,f4,f5):=hf c hc;erw[hn c hc,f1,f2,f3,f4,f5]);erw[.ref s.heap.objs.size,_,I2,Z,#[s.heap.objs.size,x,Z,λzs hz=>?_,nw],#[#[_,by simpa using Lm],iQ.1.to λo q=>hs _ o (dy D) q],hn];rw[fL.inj I hz q1];erw[e1]
 done:=by
  intro X hP hw hK hc i ay s O H E I hf st hg;subst hP hw hK;let(xs,q1,mz):=hg;let(its,r1,p1):=q1.get I;let((old,he),h1):=st;let(oi,mq,ci,_):=h1.ob;have Km:∃o,s.heap.get? l=some o/\(o.cls= .type "list"\/o.cls= .type "tuple"):=by cases b<;>(let(o,ho,cc,_):=p1;first|erw[o,ho,.inl cc]|erw[o,ho,.inr cc])
  let(ol,vN,cl):=Km;have nil:l≠it:=λz=>by subst z;rw[mq]at vN;cases vN;rw[ci]at cl;cases b<;>(rcases cl with h|h<;>simp[uk]at h)
  have hi:i=its.toArray.size:=by rw[fC,<-r1.length];erw[mz.symm]
  subst hi;erw[wpAny_pyNext_enum_endD (W4 (I.ok.hd hc) nil) he #[h1,p1] λh' kp=>#[Z,?_]];erw[I.zx (t':=s.toks) (fp:=[e,it]) (λc o hc q=>kp c o (λz=>hc (by simp[z])) q) hf]
 self:=λ_ _ _ _ _ st h=>by let((old,he),_):=st;erw[wpAny_pyIter_enum he h]
inductive afl(K:aa)(b:Bool)(R:It->Hp->Prop)(vs:List V)(H1:Hp):Prop |mk (l:_)(h0:vs=[.ref l])(h1:(∃xs,fL b K H1 l xs))(h2:R (Bq K b l) H1)
def a6L(K:aa)(b:Bool)(ta:TA):TI:=λO H R=>ta O H λvs H1=>afl K b R vs H1
theorem a2k(K:aa){X:Cx}(hK:X.K=K)(b:Bool){elts:List Expr}{kt:Nat}{qc:Pos}{a:Expr}{ta:TA}{p pos:Pos}(hg:Gl X "enumerate")(hm:X.mg "enumerate"=none)(ha:PA X [a] ta)(hs:autoParam (starEach [a] X.env=[(false,eval a X.env)]) r8_._auto_1)(jU:autoParam (starEach [] X.env=[]) r8_._auto_1): PI X (.Tuple elts kt qc) (.Call (.Name "enumerate" p) [a] [] pos) (a6L K b ta):=by
 subst hK;intro ay s O H R I h;erw[Call_ (qF I hg hm PyProof.Rows.boot_enumerate (zl (bw (ha pos ay s O H _ I h) λus s1 #[vs,H1,I1,r1,q1]=>?_) (by rw[hs,jU]) (by rw[jU];rfl)))];let(l,e,(xs,h1),q):=q1;subst e;let(u1,rfl,lZ):=vals1 r1;cases(show u1=Value.ref l from lZ);let(Ks,v1,p1):=h1.get I1;erw[ab9 p1 λg zg ig kp=>wpAny_pyIter_enum zg ?_];erw[_,_,_,_,H1,Z,I1.kept (t':=s1.toks) kp,YV (Fx (Y3 _)),#[#[_,zg],ig],λc hc=>?_,q];have hle:s1.heap.objs.size<=c:=by simp only[bJ,cD,cX]at hc;rcases hc with rfl|rfl<;>first|erw[ck _]|erw[Nat.le_add_right _ _]
 erw[I1.qV hle (I1.bB.fresh hle)]
theorem a9A{K:aa}{b:Bool}{a:Addr}{xs:List V}{g:TG}{tb:TS}{D:Ends}{O:St}{H:Hp}(Pv:Nat->St->Hp->Prop)(h0:Pv 0 O H)(hl:∀i O H,i<=xs.length->Pv i O H->fL b K H a xs) (hs:∀i x O H,xs[i]? =some x->Pv i O H->∀T H',Nw H H' T (.tup [.int i,x])->g (.ref T) O H' λσ2 H2=>tb {D with nx:=Pv (i+1),ct:=Pv (i+1),bk:=D.nx} σ2 H2)(hd:∀O H,Pv xs.length O H->D.nx O H): ∃W:Nat->Nat->St->Hp->Prop,(∃m,W 0 m O H)/\∀i m O H,W i m O H->((Bq K b a).stop i H/\D.nx O H)\/((Bq K b a).go i H/\∃N:St->Hp->Prop,(∀σ' H',N σ' H'->∃m',m'<m/\W (i+1) m' σ' H')/\∀x H',(Bq K b a).kJ i H x H'->g x O H' λσ2 H2=>tb {D with nx:=N,ct:=N,bk:=D.nx} σ2 H2):=by
 erw[λi m O H=>m=xs.length-i/\i<=xs.length/\Pv i O H,#[xs.length,by simp,gK _,h0],?_];rintro i m O H ⟨rfl,hi,p⟩;have q:=hl i O H hi p;by_cases cK:i<xs.length
 ·erw[.inr #[#[xs,xs[i],q,by simp[cK]],Pv (i+1),λσ' H' p'=>#[xs.length-(i+1),aw,Z,cK,p'],λx H' y=>?_]]
  let(T,z,rfl,ez,nw):=y;erw[hs i z O H (ez xs q) p T H' nw]
 ·have e:i=xs.length:=by lia
  subst e;erw[.inl #[#[xs,q,Z],hd O H p]]
theorem a9x{K:aa}{b1 b2:Bool}{a1 a2:Addr}{xs ys:List V}{g:TG}{tb:TS}{D:Ends}{O:St}{H:Hp}(n:Nat)(hn:n=min xs.length ys.length)(Pv:Nat->St->Hp->Prop)(h0:Pv 0 O H)(hl:∀i O H,i<=n->Pv i O H->fL b1 K H a1 xs/\fL b2 K H a2 ys) (hs:∀i x y O H,xs[i]? =some x->ys[i]? =some y->Pv i O H->∀T H',Nw H H' T (.tup [x,y])->g (.ref T) O H' λσ2 H2=>tb {D with nx:=Pv (i+1),ct:=Pv (i+1),bk:=D.nx} σ2 H2)(hd:∀O H,Pv n O H->D.nx O H): ∃W:Nat->Nat->St->Hp->Prop,(∃m,W 0 m O H)/\∀i m O H,W i m O H->((og K b1 b2 a1 a2).stop i H/\D.nx O H)\/((og K b1 b2 a1 a2).go i H/\∃N:St->Hp->Prop,(∀σ' H',N σ' H'->∃m',m'<m/\W (i+1) m' σ' H')/\∀x H',(og K b1 b2 a1 a2).kJ i H x H'->g x O H' λσ2 H2=>tb {D with nx:=N,ct:=N,bk:=D.nx} σ2 H2):=by
 erw[λi m O H=>m=n-i/\i<=n/\Pv i O H,#[n,by simp,gK _,h0],?_];rintro i m O H ⟨rfl,hi,p⟩;let(q1,q2):=hl i O H hi p;by_cases cK:i<n
 ·have l1:i<xs.length:=by lia
  have l2:i<ys.length:=by lia
  erw[.inr #[#[xs,ys,xs[i],ys[i],q1,q2,by simp[l1],by simp[l2]],Pv (i+1),λσ' H' p'=>#[n-(i+1),aw,Z,cK,p'],λx H' y=>?_]];let(T,z1,z2,rfl,e1,e2,nw):=y;erw[hs i z1 z2 O H (e1 xs q1) (e2 ys q2) p T H' nw]
 ·have e:i=n:=by lia
  subst e;erw[.inl #[#[xs,ys,q1,q2,aw],hd O H p]]
section
variable {X:Cx}
theorem a2A(K:aa)(h:X.K=K){o:Expr}{to:TE}{apos da:Pos}(ho:PE X o to)(jX:autoParam (attributeBase o "clear" X.env (eval o X.env)=eval o X.env) r8_._auto_1)(jV:autoParam ((apos.endLine==da.line)=true) r8_._auto_1): PE X (.Call (.Attribute o "clear" apos) [] [] da) (Oz K "list" S7 to):=by subst h;erw[a2v BE PySem.F.slot_list_clear PySem.F.type_list_clear a54 ho jX jV]
theorem So(K:aa)(h:X.K=K){o e:Expr}{to:TE}{t:TA}{apos da:Pos}(ho:PE X o to)(ha:PA X [e] t) (jX:autoParam (attributeBase o "pop" X.env (eval o X.env)=eval o X.env) r8_._auto_1) (mx:autoParam (((backTo da (starEach [e] X.env)).all (λx=>!x.1)&&(backToKw da (keywordEach [] X.env)).all (λx=>x.1.isSome) &&decide ([e].length+([]:List Keyword).length+(if([]:List Keyword).isEmpty then 0 else 1)<30))=true) r8_._auto_1) (jV:autoParam ((apos.endLine==da.line)=true) r8_._auto_1)(hs:autoParam (starEach [e] X.env=(false,eval e X.env)::starEach [] X.env) r8_._auto_1)(mm:autoParam ((backTo da (starEach [] X.env)).any (·.1)=false) r8_._auto_1): PE X (.Call (.Attribute o "pop" apos) [e] [] da) (uP K "list" S4 to t):=by subst h;erw[xO BE PySem.F.slot_list_pop PySem.F.type_list_pop a52 ho ha jX mx jV hs mm]
end
set_option maxHeartbeats 1000000 in
theorem Jt{X:Cx}{N:List Str}{js:List (Option Nat)}{elt tg iter:Expr}{ifs:List Expr}{scope:Scope}{pos:Pos}{wi:TI}{g:TG}{tt:TT}{te:TE}{i0:Nat}{x0:Str}{xJ OL:Pos}(hNd:X.N.Nodup)(hix:X.N[i0]? =some x0)(KD:Loc X.env.scope x0)(hc:X.calm=true)(hN:EO X N js scope=true)(hS:yV X scope=true) (hi:PI X tg iter wi)(hg:∀cl s H fp ay,PG (gI X N scope cl s H fp ay) tg g)(ht:∀cl s H fp ay,N5 (gI X N scope cl s H fp ay) ifs tt)(he:∀cl s H fp ay,PE (gI X N scope cl s H fp ay) elt te) (hsw:autoParam (swapsWith (.ListComp elt [#[tg,iter,ifs,0]] scope pos) (some (.Name x0 xJ)) OL.line X.env=pure true) r8_._auto_1)(hf0:autoParam (X.fn x0=true\/X.env.scope.names.lookup x0=some .local) d8_._auto_1) (hs:autoParam (∀x,foldedSetIterable iter X.env x=pure x) d8_._auto_1):PS X (.Assign [.Name x0 xJ] (.ListComp elt [#[tg,iter,ifs,0]] scope pos) OL) (xi (Ox js wi g tt te) (fK i0)):=by
 intro ay s O H D0 I h;have vZ:=hS;unfold yV at vZ;rw[fD,fD]at vZ;let((k1,k2),k3):=vZ;have qN:scope.kind= .function:=gJ.mp k1;have yy:∀x∈scope.names,x.2= .free->∃c,X.env.cells.lookup x.1=some c:=λx hx e=>by have:=jq.mp k3 x hx;rw[e]at this;erw[I.ok.has x.1 (.inl (gJ.mp this))]
 have nQ:∀x∈scope.names,x.2≠ .cell:=λx hx e=>by have:=jq.mp k3 x hx;rw[e]at this;erw[iV this]
 have KY:∀x∈scope.names,x.2= .local->scope.names.lookup x.1=some .local:=λx hx e=>by have:=jq.mp k3 x hx;rw[e]at this;erw[gJ.mp this]
 let(cl,Lp,c1,c2):=WM yy;rw[exec_Assign_Name_used _ _ _ _ hsw];erw[aW (wpAny_standAt (aW ?_))];show wpAny _ X.A (do let _<-comprehension (.ListComp elt [#[tg,iter,ifs,0]] scope pos) scope X.env _ (newList []) false (eval iter X.env) (some (assign (.Name x0 xJ) X.env))) _ _ s;erw[aW (kI (wpAny_comprehension_free (use:=some (assign (.Name x0 xJ) X.env)) (Q:=λ_ s'=>SP X ay D0 .next s') Z hs Lp qN KY (bw (hi ay s O H _ I h) λv s1 h1=>bw h1 λDI s2 h2=>?_)) (λ_ s' hq=>cI (cI hq)) λ_ _ e=>e)];let(it,fp,tn,J,H2,e,I2,T,uQ,f2,h2):=h2;subst e;have hD:H2 s2.heap.objs.size=none:=I2.bB.fresh (ck _);let(W,(m0,w0),turn):=h2 _ _ (Nw.of hD);erw[rW (XN nQ (by intro y hy;simp at hy) (λh₁ AA Ax=>?_) qN)];have wk:∀b∈fp,b<s2.heap.objs.size:=λb hb=>by let(o,e,_):=T.obj _ _ uQ b hb;erw[cY e]
 have I3:Inv X ay O (upd H2 s2.heap.objs.size (.lst [])) {s2 with heap:=s2.heap.push {cls:=.type "list",dict:=none,data:=.seq ([]:List Value).toArray}}:=I2.U0 (its:=[]) (t':=s2.toks) .nil (gK _);generalize AL:s2.heap.push {cls:=.type "list",dict:=none,data:=.seq ([]:List Value).toArray}=h3 at I3 AA Ax;have zE:h3.objs.size=s2.heap.objs.size+1:=by rw[<-AL,uI]
 have Kp:∀b o,s2.heap.get? b=some o->h3.get? b=some o:=λb o e=>by rw[<-AL];erw[cW _ e]
 have f3:∀b∈fp,mK X ay (upd H2 s2.heap.objs.size (.lst [])) b:=λb hb=>#[by rw[aR (gq (wk b hb))];exact(f2 b hb).1,(f2 b hb).2];have Ap:∀b o,h3.get? b=some o->h₁.get? b=some o:=λb o e=>(Ax.2 b (gq (cY e))).trans (cW _ e);have I4:Inv (gI X N scope cl {s2 with heap:=h3} (upd H2 s2.heap.objs.size (.lst [])) fp ay) [] (stC js O) (upd H2 s2.heap.objs.size (.lst [])) {s2 with heap:=h₁,toks:=s2.toks+([]:List (Str×Value)).length}:=I3.comp (s:={s2 with heap:=h3}) hN hS c1 c2 f3 (λb hb=>by show b<h3.objs.size;rw[zE];erw[NB (wk b hb)]) (by simpa using AA) Ap;have zG:tn 0 h₁:=T.keep _ _ _ uQ λb _ o e=>Ap b o (Kp b o e);have loop:codeAny (model X.prog X.w) X.A (.compLoop (.ListComp elt [#[tg,iter,ifs,0]] scope pos) 0 (.ref it) (.ref s2.heap.objs.size) (compEnvC scope cl h3.objs.size X.env)) (compPost (model X.prog X.w) X.A X.xe (some (assign (.Name x0 xJ) X.env)) (λ_ s'=>SP X ay D0 .next s') (.ref s2.heap.objs.size) h3.objs.size) {s2 with heap:=h₁,toks:=s2.toks+([]:List (Str×Value)).length}:=by
  erw[WI (λn s'=>∃i σ' H',Inv (gI X N scope cl {s2 with heap:=h3} (upd H2 s2.heap.objs.size (.lst [])) fp ay) [] σ' H' s'/\tn i s'.heap/\(∀b∈fp,H' b=none)/\W i n σ' H') ?_ m0 #[0,_,_,I4,zG,λb hb=>(f3 b hb).1,w0]];rintro n s5 ⟨i,σ5,H5,I5,qj,wj,w5⟩;have nH:∀{H':Hp},(∀b∈fp,H' b=none)->∀b∈fp,mK (gI X N scope cl {s2 with heap:=h3} (upd H2 s2.heap.objs.size (.lst [])) fp ay) [] H' b:=λ{H'} hn b hb=>by
   let(_,q1,q2,q3,q4,q5):=f3 b hb;erw[hn b hb,λz=>?_,I4.ok.ud b hb,.inl hb,λx c e=>q4 x c (c1 x c e),λp hp=>q5 p (by simpa[gI]using hp)];have cK:b<h3.objs.size:=by rw[zE];erw[NB (wk b hb)]
   erw[gq cK z]
  rcases turn i n σ5 H5 w5 with⟨stop,qn⟩|⟨go,step⟩
  ·erw[bw (T.done (gI X N scope cl {s2 with heap:=h3} (upd H2 s2.heap.objs.size (.lst [])) fp ay) rfl rfl rfl hc i [] s5 σ5 H5 _ I5 (nH wj) qj stop) λr s6 #[hr,I6]=>?_]
   subst hr;let(m,hm,_):=I6.loc;have u0:Un (dJ X.stack) fp (upd H2 s2.heap.objs.size (.lst [])) H5 h3 s6.heap:=I6.aB;have I7:Inv X ay O H5 s6:=I3.ER (s':=s6) (ch:=fp) I6.os u0 I6.bB I6.bare λb hb=>#[(f3 b hb).2.2.2.1,(f3 b hb).2.1,(f3 b hb).2.2.2.2.1,(f3 b hb).2.2.2.2.2];have hC:mK X ay H5 h3.objs.size:=I3.qV (ck _) I6.free;show wpAny _ X.A (assign (.Name x0 xJ) X.env (.ref s2.heap.objs.size)) _ _ s6;erw[wpAny_assign_Name (OE I7 hNd hix KD (show RelV (.ref s2.heap.objs.size) (.ref s2.heap.objs.size)from Z) (λs8 I8 KL=>?_) hf0)];let(a,sb,ha):=KL;have hCa:h3.objs.size≠a:=by
    rcases ha with rfl|ha
    ·erw[hC.2.1]
    ·erw[λz=>hC.2.2.2.2.1 x0 a ha z.symm]
   erw[m,hm.sameBut sb hCa,λh9 hs9=>#[_,H5,?_,qn]];erw[I8.zx (t':=s8.toks) (fp:=[h3.objs.size]) (λb o hb e=>hs9.extBut b o (λz=>hb (by simp[z])) e) λb hb=>by rw[bW.mp hb];erw[hC]]
  ·erw[bw (T.item (gI X N scope cl {s2 with heap:=h3} (upd H2 s2.heap.objs.size (.lst [])) fp ay) rfl rfl rfl hc i [] s5 σ5 H5 _ I5 (nH wj) qj go) λr s6 #[u,hr,h6]=>?_]
   subst hr;erw[bw h6 λ_ s7 #[x,H7,I7,r7,y7,qi,LZ]=>?_];have Nc:=I7.pinned (nH LZ) (T.obj _ _ qi);erw[bw (hg _ _ _ _ _ _ s7 σ5 H7 x u _ Nc r7 (step x H7 y7)) λ_ s8 #[σ8,H8,I8,q8]=>?_];erw[bw (ht _ _ _ _ _ _ s8 σ8 H8 _ I8 q8) λok s9 #[H9,I9,q9]=>?_];have again:∀{s':ae}{σ7:St}{H7:Hp},Inv (gI X N scope cl {s2 with heap:=h3} (upd H2 s2.heap.objs.size (.lst [])) fp ay) ([]++xM fp s7.heap) σ7 H7 s'->(∃m',m'<n/\W (i+1) m' σ7 H7)->∃m,m<n/\∃i σ' H',Inv (gI X N scope cl {s2 with heap:=h3} (upd H2 s2.heap.objs.size (.lst [])) fp ay) [] σ' H' s'/\tn i s'.heap/\(∀b∈fp,H' b=none)/\W i m σ' H':=λ{s' σ7 H7} J7 n7=>by let(m',hm,w7):=n7;erw[m',hm,i+1,σ7,H7,J7.zu,T.keep _ _ _ qi λb hb o e=>(J7.pin (b,o) (mL _ (mL _ (yd hb e)))).1,λb hb=>?_,w7];let(o,e,d):=T.obj _ _ qi b hb;exact(J7.pin (b,o) (mL _ (mL _ (yd hb e)))).2.1
   cases ok with |false=>rw[bI iV]at q9⊢;erw[again I9 q9] |true=>rw[bE rfl]at q9⊢;erw[bw (he _ _ _ _ _ _ s9 σ8 H9 _ I9 q9) λyv oF #[y,kG,zd,Jp,ys,qJ,hz,lW]=>?_];erw[bw (K4 _ oF σ8 kG (.ref s2.heap.objs.size) [y] (.ref s2.heap.objs.size) [yv] (λ_ jn=>∃m',m'<n/\W (i+1) m' σ8 jn) zd Z (.cons Jp .nil) #[_,ys,y,Z,Z,qJ,hz,lW]) λ_ CL #[v11,jn,Nd,r11,zW]=>?_];erw[again Nd zW]
 erw[codeAny_compStart_list loop (T.self _ 0 _ _ _ zG loop)]
theorem WV:∀{zs:List Str}{us:List Value},Vals (zs.map V.str) us->CarriedAll us (zs.map PyData.str) |[],_,.nil=>.nil |z::zs,_,.cons q r=>by let(t,rfl):=(show∃t,_=Value.str z t from q);erw[.cons (.str z t) (WV r)]
section
variable {X:Cx}
inductive aeU(K:aa)(x:V)(vs:List V)(H:Hp)(Q:VK):Prop |mk (sep:Str)(l:Addr)(zs:List Str)(h0:x= .str sep)(h1:vs=[.ref l])(h2:aK K H l (zs.map V.str))(h3:(∀z∈zs,z.length<=8))(h4:sep.length<=8)(h5:zs.length<=1000)(h6:Q (.str (Txt.join sep zs)) H)
def rJoin(K:aa):V->List V->Hp->VK->Prop:=λx vs H Q=>aeU K x vs H Q
theorem a55(K:aa)(hK:X.K=K):Bn X "str.join" (rJoin K):=by subst hK;intro ay s O H x vs v us Q I rx rv h;let(sep,l,zs,rfl,rfl,hl,hz,hs,hn,q):=h;let(t,rfl):=rx;let(u,rfl,ru):=vals1 rv;cases(show u=Value.ref l from ru);let(its,r,pl,_):=I.list hl;erw[join_madeW (l:=zs) (g:=id) 8 pl.isList (by rw[List.map_id];erw[WV r]) (λa ha=>hz a ha) aw aw λt' k=>?_];rw[List.map_id];erw[.str _,H,I.tok _,#[_,Z],q]
theorem a2w(K:aa)(h:X.K=K){o e:Expr}{to:TE}{t:TA}{apos da:Pos}(ho:PE X o to)(ha:PA X [e] t) (jX:autoParam (attributeBase o "join" X.env (eval o X.env)=eval o X.env) r8_._auto_1) (mx:autoParam (((backTo da (starEach [e] X.env)).all (λx=>!x.1)&&(backToKw da (keywordEach [] X.env)).all (λx=>x.1.isSome) &&decide ([e].length+([]:List Keyword).length+(if([]:List Keyword).isEmpty then 0 else 1)<30))=true) r8_._auto_1) (jV:autoParam ((apos.endLine==da.line)=true) r8_._auto_1)(hs:autoParam (starEach [e] X.env=(false,eval e X.env)::starEach [] X.env) r8_._auto_1)(mm:autoParam ((backTo da (starEach [] X.env)).any (·.1)=false) r8_._auto_1): PE X (.Call (.Attribute o "join" apos) [e] [] da) (uP K "str" (rJoin K) to t):=by subst h;erw[xO PySem.F.plainAttrs_str PySem.F.slot_str_join PySem.F.type_str_join (a55 X.K rfl) ho ha jX mx jV hs mm]
end
section
variable {X:Cx}{ay:List (Addr×Obj)}{O:St}{H:Hp}{s:ae}
end
section
variable {X:Cx}
theorem aca:gb X (.type "range") (λxs H Q=>∃n,xs=[.int n]/\∀p H',Nw H H' p (.vc 0 n)->Q (.ref p) H'):=by intro ay s O H xs us Q I r h;let(n,rfl,q):=h;let(u,rfl,t,rfl):=vals1 r;erw[call_range_1 ?_];have hf:H s.heap.objs.size=none:=I.bB.fresh (ck _);erw[.ref s.heap.objs.size,upd H s.heap.objs.size (.vc 0 n),I.laid (t':=s.toks+1+1) (λb u e=>cW _ e) (ck _) ?_,Z,q _ _ (.of hf)];erw[_,_,_,fO _ Z]
end
theorem ZR:isSubtype (.type "range_iterator") (.type "reversed")=pure false:=by rw[isSubtype_type];kernel_rfl
section
variable {prog:ah}{w:World}{A:aj}{E:Value->ae->Prop}{s:ae}
abbrev zT(n:Nat):Obj:={cls:=.type "range_iterator",data:=.fields (List.toArray [rawInt (0+((n:Int)-1)*1),rawInt (n:Int),rawInt (-1)])}
abbrev IW(n:Nat):Bool:=Builtin.Range.rangeFitsLong 0&&Builtin.Range.rangeFitsLong n&&Builtin.Range.rangeFitsLong 1&&Builtin.Range.rangeFitsLong (-1)&&Builtin.Range.rangeFitsLong (0-1)&&Builtin.Range.rangeFitsLong (Builtin.Range.rangeSize 0 n 1)
theorem RG(h:n<2^62):IW n=true:=by unfold IW;rw[rangeSize_one];simp only[Builtin.Range.rangeFitsLong,fD,Fq];split<;>lia
theorem a1n(r:Addr)(a b c:Int)(t u v:Tok)(hc0:¬(!(Builtin.Range.rangeFitsLong a&&Builtin.Range.rangeFitsLong b&&Builtin.Range.rangeFitsLong c&&Builtin.Range.rangeFitsLong (-c)&&Builtin.Range.rangeFitsLong (a-c)&&Builtin.Range.rangeFitsLong (Builtin.Range.rangeSize a b c)))=true):Meets (Builtin.«range.__reversed__» #[[.ref r],[]]) (λ_ R s=>s.heap.get? r=some {cls:=.type "range",dict:=none,data:=.fields (List.toArray [.int a t,.int b u,.int c v]),slots:=#[]}/\R (.ok (.ret (.ref s.heap.objs.size))) {s with heap:=s.heap.push {cls:=.type (if(Builtin.Range.rangeFitsLong a&&Builtin.Range.rangeFitsLong b&&Builtin.Range.rangeFitsLong c&&Builtin.Range.rangeFitsLong (-c)&&Builtin.Range.rangeFitsLong (a-c)&&Builtin.Range.rangeFitsLong (Builtin.Range.rangeSize a b c))=true then "range_iterator" else "longrange_iterator"),data:=.fields (List.toArray [rawInt (a+(Builtin.Range.rangeSize a b c-1)*c),rawInt (Builtin.Range.rangeSize a b c),rawInt (-c)])},toks:=s.toks}):=.of_wp λprog w A R s h=>by
 let(hp,g,d,tk,os):=s;let(hl,h):=h
 wp_walk;erw[_,Z,h]
theorem ac8{l:Addr}{n:Nat}{t u v:Tok}{Q:Value->ae->Prop}(hn:n<2^62)(hl:s.heap.get? l=some {cls:=.type "range",data:=.fields (List.toArray [.int 0 t,.int n u,.int 1 v])}) (h:Q (.ref s.heap.objs.size) {s with heap:=s.heap.push (zT n)}):wpAny (model prog w) A (call (.builtin "range.__reversed__") [.ref l]) Q E s:=by
 have hT:s.TypeIs (.ref l) "range":=#[_,hl,Z];erw[zi Ye hT F.entry_range_reversed (F.args_range_reversed_1 _) (a1n l 0 n 1 t u v (by have:=RG hn;unfold IW at this;rw[this];decide)) #[hl,?_]];rw[bE (RG hn)];have e:Builtin.Range.rangeSize 0 n 1=n:=by rw[rangeSize_one];split<;>lia
 rw[e];erw[h]
theorem ac0{l:Addr}{n:Nat}{t u v:Tok}{Q₁:Value->ae->Prop}(hn:n<2^62)(hl:s.heap.get? l=some {cls:=.type "range",data:=.fields (List.toArray [.int 0 t,.int n u,.int 1 v])}) (h:Q₁ (.ref s.heap.objs.size) {s with heap:=s.heap.push (zT n)}): codeAny (model prog w) A (.call (.builtin "reversed.__new__") #[[.type "reversed",.ref l],[]]) (wants Q₁ E) s:=by
 have hT:s.TypeIs (.ref l) "range":=#[_,hl,Z];erw[codeAny_of_tree ?_];show wpAny _ A.in1 (do checkBuiltinCall "reversed.__new__" #[[.type "reversed",.ref l],[]];again (.builtin "reversed.__new__" #[[.type "reversed",.ref l],[]])) _ _ s;erw[aW (Bx (F.newCall_reversed_1 _) (cI #[plainId_quiet F.plain_reversed_new _,codeAny_builtin F.entry_reversed_new ?_]))];rw[Around.under_plainId F.plain_reversed_new _];unfold Builtin.«reversed.__new__»;erw[aW (Bx (newClass_reversed _) ?_)]
 try dsimp only
 erw[aW (Bx (a:=()) (by first|rfl|kernel_rfl) ?_)];erw[aW (Bx (a:=()) (by first|rfl|kernel_rfl) ?_)]
 try dsimp only
 erw[aW (wpAny_specialOf hT Ye.lookup ?_)]
 try dsimp only
 erw[aW (Bx (Ye.bind _) ?_)]
 try dsimp only
 first |rw[bI (show¬((Value.builtin "range.__reversed__"==Value.none)=true)from iV)] |(show wpAny _ _ (if(Value.builtin "range.__reversed__"==Value.none)=true then _ else _) _ _ _;rw[bI (show¬((Value.builtin "range.__reversed__"==Value.none)=true)from iV)])
 erw[aW (wpAny_rule ?_)];erw[aW (m:=runValue (.call (.builtin "range.__reversed__") #[[.ref l],[]])) (show wpAny _ _ (call (.builtin "range.__reversed__") [.ref l]) _ _ _ from ac8 hn hl ?_)]
 first |erw[cI h] |erw[aW (cI (cI h))]
theorem ac9{l:Addr}{n:Nat}{t u v:Tok}{Q:Value->ae->Prop}(hn:n<2^62)(hl:s.heap.get? l=some {cls:=.type "range",data:=.fields (List.toArray [.int 0 t,.int n u,.int 1 v])}) (h:Q (.ref s.heap.objs.size) {s with heap:=s.heap.push (zT n)}):wpAny (model prog w) A (call (.type "reversed") [.ref l]) Q E s:=by erw[callType_other (U:="range_iterator") (Q₁:=λobj s₁=>obj= .ref s.heap.objs.size/\s₁={s with heap:=s.heap.push (zT n)}) bf F.create_reversed #[_,_,F.mro_reversed] F.made_reversed ZR (F.typeCall_reversed_1 _) (ac0 hn hl #[Z,Z]) ?_];rintro obj s₁ ⟨rfl,rfl⟩;erw[#[_,fO _ Z,Z],h]
end
def Bp(n:Nat):It:=#[λi _=>i<n,λi H x H'=>H'=H/\x= .int ((n:Int)-1-i),λi _=>n<=i]
theorem YS{P:ah}{w:World}{K:aa}{tg:Expr}(it:Addr)(n:Nat):Turn P w K tg (Bp n) [it] it (λi h=>IsRangeIter h it ((0+((n:Int)-1)*1)+(i:Nat)*(-1)) ((n:Int)-(i:Nat)) (-1)) where
 mem:=by simp
 obj:=λi h st b hb=>by
  have e:b=it:=by simpa using hb
  subst e;erw[_,st,λv z=>by have z':Data.fields _=Data.cell v:=z;cases z']
 keep:=λi h h' st k=>k it (by simp) _ st
 item:=by
  intro X hP hw hK hc i ay s O H E I hf st hg;subst hP hw hK;let(f0,f1,f2,f3,f4,f5):=hf it (by simp);have W:=Walks.range (prog:=X.prog) (w:=X.w) (I.ok.hd hc) it (0+((n:Int)-1)*1) (-1) n;erw[W.item i s _ _ hg st λv h' tk hv iB kk=>?_];let(t,rfl):=hv;have I1:Inv X ay O H {s with heap:=h',toks:=tk}:=I.turned (λb o hb e=>kk b o (by simpa using hb) e) f0 f1 f3 f4 f5;erw[_,Z,yD (s:={s with heap:=h',toks:=tk}) (n:="range_iterator") iB rfl rfl aD #[.int ((n:Int)-1-i),H,I1,#[t,?_],#[Z,Z],iB,λb hb=>(hf b hb).1]];have e:(0+((n:Int)-1)*1)+(i:Int)*(-1)=(n:Int)-1-i:=by lia
  rw[e]
 done:=by intro X hP hw hK hc i ay s O H E I hf st hg;subst hP hw hK;let(f0,f1,f2,f3,f4,f5):=hf it (by simp);erw[XM (I.ok.hd hc) st (by have:n<=i:=hg;lia) λh' eb=>#[Z,I.turned (t':=s.toks) (λb o hb e=>eb b o hb e) f0 f1 f3 f4 f5]]
 self:=λ_ _ _ _ _ st h=>Nh st h
inductive afj(R:It->Hp->Prop)(vs:List V)(H1:Hp):Prop |mk (p:_)(n:_)(h0:vs=[.ref p])(h1:H1 p=some (.vc 0 n))(h2:0<=n)(h3:n<2^62)(h4:R (Bp n.toNat) H1)
def a6K(ta:TA):TI:=λO H R=>ta O H λvs H1=>afj R vs H1
theorem a2h(hg:Gl X "reversed")(hm:X.mg "reversed"=none)(ha:PA X [a] ta)(hs:autoParam (starEach [a] X.env=[(false,eval a X.env)]) r8_._auto_1)(jU:autoParam (starEach [] X.env=[]) r8_._auto_1): PI X tg (.Call (.Name "reversed" p) [a] [] pos) (a6K ta):=by
 intro ay s O H R I h;erw[Call_ (qF I hg hm PyProof.Rows.boot_reversed (zl (bw (ha pos ay s O H _ I h) λus s1 #[vs,H1,I1,r1,q1]=>?_) (by rw[hs,jU]) (by rw[jU];rfl)))];let(l,n,e,hl,n0,n1,q):=q1;subst e;let(u1,rfl,lZ):=vals1 r1;cases(show u1=Value.ref l from lZ);obtain⟨t,u,v,e⟩:∃t u v,s1.heap.get? l=some {cls:=.type "range",data:=.fields (List.toArray [.int 0 t,.int n u,.int 1 v])}:=I1.bB l _ hl;obtain⟨m,rfl⟩:∃m:Nat,n=m:=#[n.toNat,aw];erw[ac9 aw e ?_];have hit:IsRangeIter (s1.heap.push (zT m)) s1.heap.objs.size ((0+((m:Int)-1)*1)+((0:Nat):Int)*(-1)) ((m:Int)-((0:Nat):Int)) (-1):=by
  have e1:(0+((m:Int)-1)*1)+((0:Nat):Int)*(-1)=0+((m:Int)-1)*1:=by lia
  have e2:(m:Int)-((0:Nat):Int)=m:=by lia
  rw[e1,e2];erw[fO _ rfl]
 erw[Nh hit ?_];erw[s1.heap.objs.size,[s1.heap.objs.size],_,_,H1,Z,I1.kept (t':=s1.toks) λb o e=>cW _ e,YS _ m,hit,λb hb=>?_,q];have e:b=s1.heap.objs.size:=by simpa using hb
 subst e;erw[I1.qV (ck _) (I1.bB.fresh (ck _))]
theorem a9z{n:Nat}{g:TG}{tb:TS}{D:Ends}{O:St}{H:Hp}(Pv:Nat->St->Hp->Prop)(h0:Pv 0 O H) (hs:∀i O H,i<n->Pv i O H->g (.int ((n:Int)-1-i)) O H λσ2 H2=>tb {D with nx:=Pv (i+1),ct:=Pv (i+1),bk:=D.nx} σ2 H2)(hd:∀O H,Pv n O H->D.nx O H): ∃W:Nat->Nat->St->Hp->Prop,(∃m,W 0 m O H)/\∀i m O H,W i m O H->((Bp n).stop i H/\D.nx O H)\/((Bp n).go i H/\∃N:St->Hp->Prop,(∀σ' H',N σ' H'->∃m',m'<m/\W (i+1) m' σ' H')/\∀x H',(Bp n).kJ i H x H'->g x O H' λσ2 H2=>tb {D with nx:=N,ct:=N,bk:=D.nx} σ2 H2):=by
 erw[λi m O H=>m=n-i/\i<=n/\Pv i O H,#[n,by simp,gK _,h0],?_];rintro i m O H ⟨rfl,hi,p⟩;by_cases cK:i<n
 ·erw[.inr #[cK,Pv (i+1),λσ' H' q=>#[n-(i+1),aw,Z,cK,q],λx H' hy=>?_]]
  let(rfl,rfl):=hy;erw[hs i O _ cK p]
 ·have e:i=n:=by lia
  subst e;erw[.inl #[ck _,hd O H p]]
theorem Jr(K:aa){X:Cx}(hK:X.K=K){a:Expr}{ta:TE}(ha:PE X a ta)(he:autoParam (∀whole,isTrue a X.env whole=(do let v<-whole;standAt a.pos;holding [v] (truthy v))) d8_._auto_1): PT X a (λO H Q=>ta O H λx H'=>∃k,N2 K x H' k/\Q k H'):=by subst hK;erw[a1Z ha he]
end _L
namespace _C
open _l
def eu(ns ms:List Int):List Int:=(ns.zip ms).map λp=>p.1*(aP ms:Int)-p.2*(aP ns:Int)
theorem a5d(h:z∈eu ns ms):∃a b,a∈ns/\b∈ms/\z=a*(aP ms:Int)-b*(aP ns:Int):=by let((a,b),hp,rfl):=kh.mp h;erw[a,b,(BF hp).1,(BF hp).2,Z]
theorem mi{a b:Int}{m n:Nat}(h:a.natAbs<=m)(g:b.natAbs<=n):(a*b).natAbs<=m*n:=by rw[gD];erw[oj h g]
theorem EM(h1:∀z∈ns,z.natAbs<=1000)(h2:∀z∈ms,z.natAbs<=1000):∀z∈eu ns ms,z.natAbs<=2000000:=λz hz=>by let(a,b,ha,hb,rfl):=a5d hz;have l1:=oV h1;have l2:=oV h2;have e1:=mi (b:=(aP ms:Int)) (n:=1000) (h1 a ha) fH;have e2:=mi (b:=(aP ns:Int)) (n:=1000) (h2 b hb) fH;omega
def tS(zs:List Int)(i:Nat):Nat:=aP (zs.take i)
theorem Ua:∀(xs ys:List Int),aP (xs++ys)=max (aP xs) (aP ys) |[],ys=>by simp[aP] |x::xs,ys=>by show max x.natAbs (aP (xs++ys))=max (max x.natAbs (aP xs)) (aP ys);rw[Ua xs ys];lia
theorem a7U(h:zs[i]? =some z):tS zs (i+1)=max (tS zs i) z.natAbs:=by
 unfold tS;rw[sj,h,Ua];show max _ (max z.natAbs 0)=_
 lia
def wG(r:Rat):Rat:=if r.num<0 then-r else r
theorem ad2(r:Rat):(wG r).num=jk r.num:=by
 unfold wG jk;split
 ·rfl
 ·rfl
theorem ad4(r:Rat):(wG r).den=r.den:=by
 unfold wG;split
 ·rfl
 ·rfl
theorem aby(hb:0<b):0<=(Rat.divInt a b).num↔0<=a:=by rw[Nl,zj hb]
theorem ad3(hL:0<L):wG (Rat.divInt c L)=Rat.divInt (jk c) L:=by
 have h:=aby (a:=c) hL;unfold wG jk;by_cases hc:c<0
 ·rw[bE hc,bE aw,Rat.neg_divInt]
 ·rw[bI hc,bI aw]
theorem Ws(hL:0<L):Rat.divInt a L<=Rat.divInt b L↔a<=b:=by
 rw[Rat.le_iff_sub_nonneg,XR _ _ aw aw,zj (jh hL hL),<-Int.sub_mul];constructor
 ·intro h
  have:=Int.nonneg_of_mul_nonneg_left h hL
  lia
 ·intro h
  erw[ki aw aw]
theorem Wr(hL:0<L):Rat.divInt a L<Rat.divInt b L↔a<b:=by rw[<-Rat.not_le,Ws hL];lia
theorem ZQ(h1:0<l1)(h2:0<l2):Rat.divInt b l2-Rat.divInt a l1=Rat.divInt (b*l1-a*l2) (l1*l2):=by rw[XR _ _ aw aw,NP l2 l1]
theorem abP{q:Int}(hp:p≠0)(hh:h≠0)(e:p*L=h*q):Rat.divInt (j*j*q*q) (p*p)=Rat.divInt ((j*L)^2) (h^2):=by
 rw[Rat.divInt_eq_divInt_iff (NM hp hp) (by rw[gC,gC,mO,lU];erw[NM hh hh])];have e2:(p*L)*(p*L)=(h*q)*(h*q):=by rw[e]
 rw[gC,gC,mO,lU,gC,gC,mO,lU];have a1:j*j*q*q*(h*h)=(j*j)*((h*q)*(h*q)):=by ac_rfl
 have a2:j*L*(j*L)*(p*p)=(j*j)*((p*L)*(p*L)):=by ac_rfl
 rw[a1,a2,e2]
end _C
namespace _P
def mn(a b:Rat):Rat:=if b<a then b else a
theorem ip(a b:Rat):mn a b<=a:=by
 unfold mn;split
 ·next h=>erw[Np h]
 ·erw[rX]
theorem lN(a b:Rat):mn a b<=b:=by
 unfold mn;split
 ·erw[rX]
 ·next h=>erw[BD.mp h]
theorem ml(h1:c<=a)(h2:c<=b):c<=mn a b:=by unfold mn;split<;>assumption
theorem Ah(a b:Rat):mn a b=a\/mn a b=b:=by
 unfold mn;split
 ·erw[.inr rfl]
 ·erw[.inl rfl]
theorem oS(hc:c=a\/c=b)(h1:c<=a)(h2:c<=b):mn a b=c:=by
 rcases hc with rfl|rfl
 ·erw[Fu (ip _ _) (ml h1 h2)]
 ·erw[Fu (lN _ _) (ml h1 h2)]
theorem Ud{a b c:Rat}(h:a<=b)(hc:0<=c):a<=b+c:=fz h (by have:=(Rat.add_le_add_left (c:=b)).mpr hc;rwa [Rat.add_zero]at this)
section
variable (n:Nat)(own:Nat->Rat)(L:Nat->Option Nat)(r f:Int)
def Pz(g:Nat->Rat):Nat->Rat |0=>g n |k+1=>match L (n-(k+1))with |some m=>mn (g (n-(k+1))) (Pz g k+((f*(m:Int):Int):Rat)) |none=>g (n-(k+1))
def fl(g:Nat->Rat)(i:Nat):Rat:=Pz n L f g (n-i)
end
section
variable {n:Nat}{own g:Nat->Rat}{L:Nat->Option Nat}{r f:Int}
theorem yH:fl n L f g n=g n:=by unfold fl;rw[Nz];rfl
theorem yI(hi:i<n)(h:L i=some m):fl n L f g i=mn (g i) (fl n L f g (i+1)+((f*(m:Int):Int):Rat)):=by
 unfold fl;have e:n-i=(n-(i+1))+1:=by omega
 rw[e];show(match L (n-((n-(i+1))+1))with|some m=>_|none=>_)=_;have e2:n-((n-(i+1))+1)=i:=by omega
 rw[e2,h]
theorem yG(hi:i<n)(h:L i=none):fl n L f g i=g i:=by
 unfold fl;have e:n-i=(n-(i+1))+1:=by lia
 rw[e];show(match L (n-((n-(i+1))+1))with|some m=>_|none=>_)=_;have e2:n-((n-(i+1))+1)=i:=by lia
 rw[e2,h]
theorem a51{a:Int}{m:Nat}(h:0<=a):(0:Rat)<=((a*(m:Int):Int):Rat):=by have:((0:Int):Rat)<=((a*(m:Int):Int):Rat):=Rat.intCast_le_intCast.mpr (ki h aw);erw[this]
theorem down{C:Nat->Prop}(hn:C n)(hs:∀i,i<n->C (i+1)->C i):∀i,i<=n->C i:=by
 have key:∀k,k<=n->C (n-k):=λk=>by induction k with |zero=>intro _;erw[hn] |succ k ih=>
  intro hk;erw[hs _ fH ?_];have e:n-(k+1)+1=n-k:=by omega
  rw[e];erw[ih fH]
 intro i hi;have:=key (n-i) fH;have e:n-(n-i)=i:=by omega
 rwa [e]at this
end
open _r
theorem Ai(h1:Bd n a)(h2:Bd n b):Bd n (mn a b):=by rcases Ah a b with e|e<;>rw[e]<;>assumption
theorem F1{n:Nat}{q:Rat}{z:Int}(h:Bd n q)(hz:z.natAbs<2^24):Bd (n+25) (q+(z:Rat)):=by have b:Bd 24 (z:Rat):=#[hz,by show 1<2^24;decide];exact(h.add b).mono aw
theorem Vx{n b:Nat}{g:Nat->Rat}{L:Nat->Option Nat}{f:Int}(ho:∀i,i<=n->Bd b (g i))(hL:∀i m,L i=some m->(f*(m:Int)).natAbs<2^24):∀i,i<=n->Bd (b+25*(n-i)) (fl n L f g i):=by
 erw[down ?_ λi hi ih=>?_]
 ·rw[yH];exact(ho n (ck _)).mono aw
 ·cases h:L i with |none=>rw[yG hi h];exact(ho i aw).mono aw |some m=>rw[yI hi h];erw[Ai ((ho i aw).mono aw) ((F1 ih (hL i m h)).mono aw)]
def lst(n:Nat)(g:Nat->Rat):List Rat:=(List.range (n+1)).map g
theorem tO(n:Nat)(g:Nat->Rat):(lst n g).length=n+1:=by simp[lst]
theorem tP(g:Nat->Rat){i:Nat}(h:i<=n):(lst n g)[i]? =some (g i):=by unfold lst;rw[cV,cC (by simp;lia),wY];rfl
theorem a5E(h:∀k,k<=n->k≠i->g' k=g k):(lst n g).set i (g' i)=lst n g':=by
 apply uF;intro k;by_cases hk:k<=n
 ·rw[tP g' hk,List.getElem?_set]
  by_cases e:i=k
  ·subst e;rw[bE rfl,bE (by rw[tO];lia)]
  ·rw[bI e,tP g hk,h k hk (λz=>e z.symm)]
 ·rw[mM (by rw[wX,tO];lia),mM (by rw[tO];lia)]
theorem Kc(h:∀k,k<=n->g' k=g k):lst n g=lst n g':=by
 apply uF;intro k;by_cases hk:k<=n
 ·rw[tP g hk,tP g' hk,h k hk]
 ·rw[mM (by rw[tO];lia),mM (by rw[tO];lia)]
end _P
namespace _O
open _P _C _l _r
abbrev Itm:=Option (List Int × Int)
def topR(aE sp:Int):Rat:=Rat.divInt ((sp*aE)^2) 10000
def cornO(j:Int)(ns ms:List Int):Option Rat:=if aP (eu ns ms)=0 then none else some (Rat.divInt ((j*aP ns*aP ms)^2) ((aP (eu ns ms):Int)^2))
def mnO(a:Rat):Option Rat->Rat |none=>a |some c=>mn a c
def betR(j aE:Int):Itm->Itm->Rat |some (ns,sp),some (ms,sq)=>mnO (mn (topR aE sp) (topR aE sq)) (cornO j ns ms) |_,_=>0
def atO(os:List Itm)(i:Nat):Itm:=(os[i]?).join
def ownF(j aE:Int)(os:List Itm):Nat->Rat |0=>0 |i+1=>betR j aE (atO os i) (atO os (i+1))
def leadF(os:List Itm)(i:Nat):Option Nat:=(atO os i).map λq=>aP q.1
def ownL(j aE:Int)(os:List Itm):List Rat:=(List.range (os.length+1)).map (ownF j aE os)
theorem rH(h:os[i]? =some o):atO os i=o:=by unfold atO;rw[h];rfl
theorem acO(h:os.length<=i):atO os i=none:=by unfold atO;rw[mM h];rfl
theorem EU(j aE:Int)(o:Itm):betR j aE o none=0:=by unfold betR;split<;>simp_all
theorem X6(j aE:Int)(o:Itm):betR j aE none o=0:=by unfold betR;split<;>simp_all
theorem JG(j aE:Int)(os:List Itm):∀n,n=os.length->ownF j aE os n=0 |0,_=>rfl |n+1,h=>by show betR j aE (atO os n) (atO os (n+1))=0;rw[acO (i:=n+1) aw];erw[EU _ _ _]
theorem Sw(j aE:Int)(os:List Itm):(ownL j aE os).length=os.length+1:=by simp[ownL]
theorem Sx(j aE:Int)(os:List Itm){i:Nat}(h:i<=os.length):(ownL j aE os)[i]? =some (ownF j aE os i):=by unfold ownL;rw[cV,cC (by simp;lia),wY];rfl
theorem Sy(j aE:Int){os:List Itm}(h:os≠[]):ownL j aE os=[0]++(List.range (os.length-1)).map (λi=>ownF j aE os (i+1))++[0]:=by
 have h0:0<os.length:=NI.mpr h;apply uF;intro i;by_cases hi:i<=os.length
 ·rw[Sx j aE os hi]
  rcases Nat.eq_zero_or_pos i with rfl|hp
  ·rfl
  ·by_cases hl:i=os.length
   ·rw[BI (by simp;lia),hl,JG j aE os _ rfl]
    have:os.length-([0]++List.map (λi=>ownF j aE os (i+1)) (List.range (os.length-1))).length=0:=by simp;lia
    rw[this];rfl
   ·rw[zo (by simp;lia),BI (by simp;lia),cV]
    have e:i-[(0:Rat)].length=i-1:=rfl;rw[e,cC (by simp;lia),wY];show some _=some (ownF j aE os (i-1+1));rw[Nat.sub_add_cancel hp]
 ·rw[mM (by rw[Sw];lia),mM (by simp;lia)]
theorem C8(aE sp:Int):0<=topR aE sp:=by
 unfold topR;rw[zj aD,gC,gC,mO,lU];rcases Int.le_total 0 (sp*aE)with h|h
 ·erw[ki h h]
 ·erw[Yb h h]
theorem a02(a:Int):0<=a^2:=by
 rw[gC,gC,mO,lU];rcases Int.le_total 0 a with h|h
 ·erw[ki h h]
 ·erw[Yb h h]
theorem abQ(h:cornO j ns ms=some c):0<=c:=by
 unfold cornO at h;split at h
 ·cases h
 ·next h0=>
  cases h;rw[zj]
  ·erw[a02 _]
  ·rw[gC,gC,mO,lU];erw[jh aw aw]
theorem acw(j aE:Int)(o p:Itm):0<=betR j aE o p:=by
 unfold betR;split
 ·next ns sp ms sq=>
  have h:=ml (C8 aE sp) (C8 aE sq);unfold mnO;split
  ·erw[h]
  ·next c e=>erw[ml h (abQ e)]
 ·erw[rX]
theorem SA(j aE:Int)(os:List Itm):∀i,0<=ownF j aE os i |0=>rX |i+1=>acw _ _ _ _
def OkI(o:Itm):Prop:=∀ns sp,o=some (ns,sp)->(∀z∈ns,(z.natAbs:Int)<=100)/\1<=sp/\sp<=20
theorem G8{a:Int}{m:Nat}(h:a.natAbs<=m):(a^2).natAbs<=m*m:=by rw[gC,gC,mO,lU];erw[mi h h]
theorem xb{aE:Int}(h1:1<=sp)(h2:sp<=20)(h3:10<=aE)(h4:aE<=200):Bd 64 (topR aE sp):=by
 have mD:(2:Nat)^64=18446744073709551616:=by decide
 have a:=G8 (mi (a:=sp) (b:=aE) (m:=20) (n:=200) aw aw);erw[lM aD (by rw[mD];lia) aD]
theorem MJ(h1:1<=j)(h2:j<=50)(hn:∀z∈ns,(z.natAbs:Int)<=100)(hm:∀z∈ms,(z.natAbs:Int)<=100)(h:cornO j ns ms=some c):Bd 64 c:=by
 have mD:(2:Nat)^64=18446744073709551616:=by decide
 have cb:=EM (λz hz=>by have:=hn z hz;lia) (λz hz=>by have:=hm z hz;lia) (ns:=ns) (ms:=ms);have hb:=oV cb;have l1:=oV (ns:=ns) (m:=100) λz hz=>by have:=hn z hz;lia
 have l2:=oV (ns:=ms) (m:=100) λz hz=>by have:=hm z hz;lia
 unfold cornO at h;split at h
 ·cases h
 ·next h0=>cases h;have a:=G8 (mi (mi (a:=j) (b:=(aP ns:Int)) (m:=50) (n:=100) aw aw) (b:=(aP ms:Int)) (n:=100) aw);have b:=G8 (a:=(aP (eu ns ms):Int)) (m:=2000000) aw;erw[lM ?_ (by rw[mD];lia) (by rw[mD];lia)];rw[gC,gC,mO,lU];erw[NM aw aw]
theorem Ai(h1:Bd n a)(h2:Bd n b):Bd n (mn a b):=by rcases Ah a b with e|e<;>rw[e]<;>assumption
theorem NV:Bd 64 (0:Rat):=#[ aD,aD]
theorem acx{aE:Int}(h1:1<=j)(h2:j<=50)(h3:10<=aE)(h4:aE<=200)(ho:OkI o)(hp:OkI p):Bd 64 (betR j aE o p):=by
 unfold betR;split
 ·next ns sp ms sq=>
  let(a1,a2,a3):=ho ns sp rfl;let(b1,b2,b3):=hp ms sq rfl;have h:=Ai (xb a2 a3 h3 h4) (xb b2 b3 h3 h4);unfold mnO;split
  ·erw[h]
  ·next c e=>erw[Ai h (MJ h1 h2 a1 b1 e)]
 ·erw[NV]
def OkIs(os:List Itm):Prop:=∀i,OkI (atO os i)
theorem JH{j aE:Int}{os:List Itm}(h1:1<=j)(h2:j<=50)(h3:10<=aE)(h4:aE<=200)(ho:OkIs os):∀i,Bd 64 (ownF j aE os i) |0=>NV |i+1=>acx h1 h2 h3 h4 (ho i) (ho (i+1))
end _O
namespace _W
open PySem _L
def fg(pl ns:List Int):List Int:=List.zipWith (λa b=>a+b) pl ns
theorem rK{pl:List Int}(h:ns.length=pl.length):(fg pl ns).length=pl.length:=by unfold fg;rw[List.length_zipWith,h];erw[Nat.min_self _]
theorem Bf{pl ns:List Int}{i:Nat}{a b:Int}(h1:pl[i]? =some a)(h2:ns[i]? =some b):(fg pl ns)[i]? =some (a+b):=by unfold fg;rw[FF,h1,h2]
def tG(rs pl:List Int):Bool:=(pl.zip rs).all λp=>decide (0<=p.1)&&decide (p.1<=p.2)
structure fh(rs pl:List Int):Prop where
 len:pl.length=rs.length
 at':∀(i:Nat)(x r:Int),pl[i]? =some x->rs[i]? =some r->0<=x/\x<=r
theorem JK{pl:List Int}(h:pl.length=rs.length):tG rs pl=true↔fh rs pl:=by
 unfold tG;rw[jq];constructor
 ·intro a
  erw[h,λi x r e1 e2=>?_];have:=a (x,r) (hO ((zm (z:=(x,r))).mpr #[e1,e2]));rw[fD,pP,pP]at this;erw[this]
 ·rintro a ⟨x,r⟩ hp
  let(i,hi):=sx.mp hp;let(e1,e2):=(zm (z:=(x,r))).mp hi;have:=a.at' i x r e1 e2;rw[fD,pP,pP];erw[this]
end _W
namespace _L
open PySem PySem.Spec PyProof.Rows
section
variable {X:Cx}
theorem a2y(K:aa)(h:X.K=K){o e:Expr}{to:TE}{t:TA}{apos da:Pos}(ho:PE X o to)(ha:PA X [e] t) (jX:autoParam (attributeBase o "extend" X.env (eval o X.env)=eval o X.env) r8_._auto_1) (mx:autoParam (((backTo da (starEach [e] X.env)).all (λx=>!x.1)&&(backToKw da (keywordEach [] X.env)).all (λx=>x.1.isSome) &&decide ([e].length+([]:List Keyword).length+(if([]:List Keyword).isEmpty then 0 else 1)<30))=true) r8_._auto_1) (jV:autoParam ((apos.endLine==da.line)=true) r8_._auto_1)(hs:autoParam (starEach [e] X.env=(false,eval e X.env)::starEach [] X.env) r8_._auto_1)(mm:autoParam ((backTo da (starEach [] X.env)).any (·.1)=false) r8_._auto_1): PE X (.Call (.Attribute o "extend" apos) [e] [] da) (uP K "list" S6 to t):=by subst h;erw[xO BE PySem.F.slot_list_extend PySem.F.type_list_extend a53 ho ha jX mx jV hs mm]
open PyProof
end
end _L
namespace _L
open PySem PySem.Spec PyProof.Rows
section
variable {K:aa} {H H' H2:Hp}
end
def Nb(z:Str):It:=#[λi _=>i<z.cps.size,λi H x H'=>H'=H/\∃c,z.cps.toList[i]? =some c/\x= .str ⟨#[c]⟩,λi _=>z.cps.size<=i]
theorem YR{P:ah}{w:World}{K:aa}{tg:Expr}(it:Addr)(z:Str)(t:Tok)(ty:String)(Aw:["enumerate","zip","dict_itemiterator","dict_reverseitemiterator","odict_iterator","itertools.zip_longest","itertools.pairwise"].contains ty=false) (W:∀A':aj,A'.handled=none->Walks P w A' it [it] [it] z.cps.size (SignAt z) (λi h=>h.IsStrIter it ty z t i)) (self:∀(A:aj)(i:Nat)(s:ae)(Q:Value->ae->Prop)(E:Value->ae->Prop),s.heap.IsStrIter it ty z t i->Q (.ref it) s->wpAny (model P w) A (pyIter (.ref it)) Q E s): Turn P w K tg (Nb z) [it] it (λi h=>h.IsStrIter it ty z t i/\i<=z.cps.size) where
 mem:=by simp
 obj:=λi h st b hb=>by
  have e:b=it:=by simpa using hb
  subst e;let((o,e,c,d),_):=st;erw[o,e,λv z=>by rw[d]at z;cases z]
 keep:=λi h h' st k=>#[let#[o,e,r]:=st.1;#[o,k it (by simp) o e,r],st.2]
 item:=by intro X hP hw hK hc i ay s O H E I hf st hg;subst hP hw hK;let(f0,f1,f2,f3,f4,f5):=hf it (by simp);refine(W X.A (I.ok.hd hc)).item i s _ _ hg st.1 λv h' tk hv iB kk=>?_;let(c,u,ec,rfl):=hv;have I1:Inv X ay O H {s with heap:=h',toks:=tk}:=I.turned (λb o hb e=>kk b o (by simpa using hb) e) f0 f1 f3 f4 f5;let(o,e,cl,d):=id iB;erw[_,Z,yD (s:={s with heap:=h',toks:=tk}) e cl d Aw #[.str ⟨#[c]⟩,H,I1,#[u,Z],#[Z,c,by simpa using ec,Z],#[iB,hg],λb hb=>(hf b hb).1]]
 done:=by intro X hP hw hK hc i ay s O H E I hf st hg;subst hP hw hK;let(f0,f1,f2,f3,f4,f5):=hf it (by simp);let(st,hle):=st;have ei:i=z.cps.size:=Nat.le_antisymm hle hg;subst ei;exact(W X.A (I.ok.hd hc)).done s _ _ st λh' tk eb=>#[Z,I.turned (λb o hb e=>eb b o (by simpa using hb) e) f0 f1 f3 f4 f5]
 self:=λA i s Q E st h=>self A i s Q E st.1 h
section
variable {X:Cx} {tg:Expr}
inductive aff(R:It->Hp->Prop)(x:V)(H1:Hp):Prop |mk (z:_)(h0:x= .str z)(h1:R (Nb z) H1)
def a6G(tl:TE):TI:=λO H R=>tl O H λx H1=>aff R x H1
theorem a2g(hl:PE X l tl):PI X tg l (a6G tl):=by
 intro ay s O H R I h;erw[bw (hl ay s O H _ I h) λv s1 #[x,H1,I1,r1,q1]=>?_];let(z,e,q):=q1;subst e;let(t,rfl):=r1;have fin:∀ty,["enumerate","zip","dict_itemiterator","dict_reverseitemiterator","odict_iterator","itertools.zip_longest","itertools.pairwise"].contains ty=false->(∀A':aj,A'.handled=none->Walks X.prog X.w A' s1.heap.objs.size [s1.heap.objs.size] [s1.heap.objs.size] z.cps.size (SignAt z) (λi h=>h.IsStrIter s1.heap.objs.size ty z t i))->(∀(A:aj)(i:Nat)(s:ae)(Q:Value->ae->Prop)(E:Value->ae->Prop),s.heap.IsStrIter s1.heap.objs.size ty z t i->Q (.ref s1.heap.objs.size) s->wpAny (model X.prog X.w) A (pyIter (.ref s1.heap.objs.size)) Q E s)->Fg X ay O tg R (.ref s1.heap.objs.size) {s1 with heap:=s1.heap.push {cls:=.type ty,data:=.fields (List.toArray [.str z t,.int 0 0])}}:=λty h1 h2 h3=>by
  erw[s1.heap.objs.size,[s1.heap.objs.size],_,_,H1,Z,I1.kept (t':=s1.toks) λb o e=>cW _ e,YR _ z t ty h1 h2 h3,#[#[_,fO _ Z,Z,Z],gK _],λb hb=>?_,q];have e:b=s1.heap.objs.size:=by simpa using hb
  subst e;erw[I1.qV (ck _) (I1.bB.fresh (ck _))]
 cases ha:z.cps.all (·<128)
 ·erw[wpAny_pyIter_wide ha (fin "str_iterator" aD (λA' hA=>Walks.strWide hA _ z t) (λ_ _ _ _ _ st h=>wpAny_pyIter_striter_wide st h))]
 ·erw[wpAny_pyIter_ascii ha (fin "str_ascii_iterator" aD (λA' hA=>Walks.strAscii hA _ z t) (λ_ _ _ _ _ st h=>wpAny_pyIter_striter_ascii st h))]
theorem abW{D:Addr}(rest:St)(nw:Nw H H0 D (.lst []))(hz:z.length<=1000) (hs:∀(c:Nat)(H2:Hp)(Q':VK),c∈z.cps.toList->aH H H2->(∀H3,aH H2 H3->Q' (.bl (f c)) H3)->te (some (.str ⟨#[c]⟩)::rest) H2 Q') (hq:∀H',aH H H'->H' D=some (.lst ((z.cps.toList.map f).map V.bl))->Q (.ref D) H'):jo (Nb z) (fK 0) iX te Q D (none::rest) H0:=by
 have hl:z.cps.toList.length=z.cps.size:=by simp
 erw[MK (xs:=z.cps.toList.map λc=>V.str ⟨#[c]⟩) (bs:=z.cps.toList.map f) rest nw (by simp) (by simpa[Str.length]using hz) ?_ ?_ ?_ hq]
 ·intro i x H2 ex s2
  rw[cV]at ex;cases ec:z.cps.toList[i]? with |none=>rw[ec]at ex;cases ex |some c=>rw[ec]at ex;cases ex;erw[by have:=(eQ.mp ec).1;show i<z.cps.size;omega,λy H3 #[e3,c',Wa,e]=>#[e3,?_]];rw[ec]at Wa;cases Wa;erw[e]
 ·intro H2 s2
  show z.cps.size<=(z.cps.toList.map _).length;rw[cJ,hl];erw[ck _]
 ·intro i x b H2 Q' ex eb s2 kS
  rw[cV]at ex eb;cases ec:z.cps.toList[i]? with |none=>rw[ec]at ex;cases ex |some c=>rw[ec]at ex eb;cases ex;cases eb;erw[hs c H2 Q' (hO ec) s2 kS]
theorem a2P:dU X (compareOp .In) (λx y H Q=>∃c j,x= .str ⟨#[c]⟩/\y= .str j/\Q (.bl (decide (c∈j.cps.toList))) H):=by intro ay s O H x y v u Q I rx ry h;let(c,j,rfl,rfl,q):=h;erw[a2N ay s O H _ _ v u Q I rx ry #[_,_,Z,Z,?_]];rw[PySem.StrLaws.found_one];erw[q]
inductive af2(K:aa)(x:V)(y:V)(H:Hp)(Q:VK):Prop |mk (p:_)(xs:_)(d:_)(ds:_)(h0:y= .ref p)(h1:aV K H p xs)(h2:RD K H x d)(h3:aO K H xs ds)(h4:SeqAt.shaped d=true)(h5:(∀e∈ds,SeqAt.shaped e=true))(h6:Q (.bl (ds.any λe=>PyData.eqv e d)) H)
def a1Q(K:aa):R2:=λx y H Q=>af2 K x y H Q
theorem a6B(K:aa)(hK:X.K=K)(hu:X.A.units+65<cLine):dU X (compareOp .In) (a1Q K):=by
 subst hK;intro ay s O H x y v u Q I rx ry h;let(p,xs,d,ds,rfl,hx,hd,tY,sd,sds,q):=h;cases ry;let(its,r,pl,hz):=I.tuple hx;let(k1,k2):=VU I hu rx hd sd r tY sds;erw[SeqAt.in_tupleAt (wm s.heap d) (show s.heap.IsTuple p its.toArray from pl) (λw hw=>k1 w (by simpa using hw)) #[.bl _,H,I,Z,?_]];have e:its.toArray.any (wm s.heap d)=ds.any λe=>PyData.eqv e d:=by rw[<-k2];simp
 rw[e];erw[q]
end
def zc(lo:Int)(n:Nat):It:=#[λi _=>i<n,λi H x H'=>H'=H/\x= .int (lo-i),λi _=>n<=i]
theorem YW{P:ah}{w:World}{K:aa}{tg:Expr}(it:Addr)(lo:Int)(n:Nat):Turn P w K tg (zc lo n) [it] it (λi h=>IsRangeIter h it (lo+(i:Nat)*(-1)) ((n:Int)-(i:Nat)) (-1)) where
 mem:=by simp
 obj:=λi h st b hb=>by
  have e:b=it:=by simpa using hb
  subst e;erw[_,st,λv z=>by have z':Data.fields _=Data.cell v:=z;cases z']
 keep:=λi h h' st k=>k it (by simp) _ st
 item:=by
  intro X hP hw hK hc i ay s O H E I hf st hg;subst hP hw hK;let(f0,f1,f2,f3,f4,f5):=hf it (by simp);have W:=Walks.range (prog:=X.prog) (w:=X.w) (I.ok.hd hc) it lo (-1) n;erw[W.item i s _ _ hg st λv h' tk hv iB kk=>?_];let(t,rfl):=hv;have I1:Inv X ay O H {s with heap:=h',toks:=tk}:=I.turned (λb o hb e=>kk b o (by simpa using hb) e) f0 f1 f3 f4 f5;erw[_,Z,yD (s:={s with heap:=h',toks:=tk}) (n:="range_iterator") iB rfl rfl aD #[.int (lo-i),H,I1,#[t,?_],#[Z,Z],iB,λb hb=>(hf b hb).1]];have e:lo+(i:Int)*(-1)=lo-i:=by lia
  rw[e]
 done:=by intro X hP hw hK hc i ay s O H E I hf st hg;subst hP hw hK;let(f0,f1,f2,f3,f4,f5):=hf it (by simp);erw[XM (I.ok.hd hc) st (by have:n<=i:=hg;lia) λh' eb=>#[Z,I.turned (t':=s.toks) (λb o hb e=>eb b o hb e) f0 f1 f3 f4 f5]]
 self:=λ_ _ _ _ _ st h=>Nh st h
theorem a06(ha:-(2^62)<=a)(V9:a<2^62)(hb:-(2^62)<=b)(lP:b<2^62):Builtin.Range.small a b (-1)=true:=by unfold Builtin.Range.small Builtin.Range.rangeSize;rw[bI aD,show(-(-1):Int)=1 by decide,Int.ediv_one];simp only[Builtin.Range.rangeFitsLong,fD,Bool.or_eq_true,Fq,gJ,show¬((-1:Int)>0) by decide,if_false];split<;>lia
theorem a0f(a b:Int):Builtin.Range.rangeSize a b (-1)=(((a-b).toNat:Nat):Int):=by unfold Builtin.Range.rangeSize;rw[bI aD,show(-(-1):Int)=1 by decide,Int.ediv_one];split<;>lia
inductive afg(R:It->Hp->Prop)(vs:List V)(H1:Hp):Prop |mk (i:Int)(j:Int)(h0:vs=[.int i,.int j,.int (-1)])(h1:(-(2^62)<=i/\i<2^62/\-(2^62)<=j/\j<2^62))(h2:R (zc i (i-j).toNat) H1)
def a6H(ta:TA):TI:=λO H R=>ta O H λvs H1=>afg R vs H1
section
variable {X:Cx} {tg:Expr}
theorem a1D{ay:List (Addr×Obj)}{O:St}{H:Hp}{s:ae}{R:It->Hp->Prop}{E:Value->ae->Prop}{lo hi:Int}{t u v:Tok}{tk:Nat}(I:Inv X ay O H s)(h1:-(2^62)<=lo)(h2:lo<2^62)(h3:-(2^62)<=hi)(h4:hi<2^62) (q:R (zc lo (lo-hi).toNat) H):wpAny (model X.prog X.w) X.A (pyIter (.ref s.heap.objs.size)) (Fg X ay O tg R) E {s with heap:=s.heap.push {cls:=.type "range",data:=.fields (List.toArray [.int lo t,.int hi u,.int (-1) v])},toks:=tk}:=by
 erw[wpAny_pyIter_range (IsRange.new ..) (a06 h1 h2 h3 h4) ?_];have I1:Inv X ay O H {s with heap:=s.heap.push {cls:=.type "range",data:=.fields (List.toArray [.int lo t,.int hi u,.int (-1) v])},toks:=tk}:=I.kept λb o e=>cW _ e;erw[(s.heap.push {cls:=.type "range",data:=.fields (List.toArray [.int lo t,.int hi u,.int (-1) v])}).objs.size,[(s.heap.push {cls:=.type "range",data:=.fields (List.toArray [.int lo t,.int hi u,.int (-1) v])}).objs.size],_,_,H,Z,I1.kept (t':=tk) λb o e=>cW _ e,YW _ lo (lo-hi).toNat,?_,λb hb=>?_,q]
 ·have e1:lo+((0:Nat):Int)*(-1)=lo:=by simp
  have e2:(((lo-hi).toNat:Nat):Int)-((0:Nat):Int)=Builtin.Range.rangeSize lo hi (-1):=by rw[a0f];lia
  show IsRangeIter _ _ (lo+((0:Nat):Int)*(-1)) ((((lo-hi).toNat:Nat):Int)-((0:Nat):Int)) (-1);rw[e1,e2];erw[fO _ rfl]
 ·have e:b=(s.heap.push {cls:=.type "range",data:=.fields (List.toArray [.int lo t,.int hi u,.int (-1) v])}).objs.size:=by simpa using hb
  subst e;erw[I1.qV (ck _) (I1.bB.fresh (ck _))]
theorem a2i(hg:Gl X "range")(hm:X.mg "range"=none)(ha:PA X [a,b,c] ta)(hs:autoParam (starEach [a,b,c] X.env=[(false,eval a X.env),(false,eval b X.env),(false,eval c X.env)]) r8_._auto_1)(jU:autoParam (starEach [b,c] X.env=[(false,eval b X.env),(false,eval c X.env)]) r8_._auto_1): PI X tg (.Call (.Name "range" p) [a,b,c] [] pos) (a6H ta):=by intro ay s O H R I h;erw[Call_ (qF I hg hm boot_range (zl (bw (ha pos ay s O H _ I h) λus s1 #[vs,H1,I1,r1,q1]=>?_) (by rw[hs,jU]) (by rw[jU];rfl)))];let(i,j,e,(q1,q2,q3,q4),q):=q1;subst e;cases r1 with |cons r rr=>cases rr with |cons r' rr=>cases rr with |cons r'' rr=>cases rr;let(t,rfl):=r;let(t',rfl):=r';let(t'',rfl):=r'';erw[call_range_3 aD (a1D I1 q1 q2 q3 q4 q) (Or.inl (PyProof.noPylong_small aw))]
theorem a9B{lo:Int}{n:Nat}{g:TG}{tb:TS}{D:Ends}{O:St}{H:Hp}(Pv:Nat->St->Hp->Prop)(h0:Pv 0 O H) (hs:∀i O H,i<n->Pv i O H->g (.int (lo-i)) O H λσ2 H2=>tb {D with nx:=Pv (i+1),ct:=Pv (i+1),bk:=D.nx} σ2 H2)(hd:∀O H,Pv n O H->D.nx O H): ∃W:Nat->Nat->St->Hp->Prop,(∃m,W 0 m O H)/\∀i m O H,W i m O H->((zc lo n).stop i H/\D.nx O H)\/((zc lo n).go i H/\∃N:St->Hp->Prop,(∀σ' H',N σ' H'->∃m',m'<m/\W (i+1) m' σ' H')/\∀x H',(zc lo n).kJ i H x H'->g x O H' λσ2 H2=>tb {D with nx:=N,ct:=N,bk:=D.nx} σ2 H2):=by
 erw[λi m O H=>m=n-i/\i<=n/\Pv i O H,#[n,by simp,gK _,h0],?_];rintro i m O H ⟨rfl,hi,hp⟩;by_cases h:i<n
 ·erw[.inr #[h,Pv (i+1),λσ' H' yn=>#[n-(i+1),aw,Z,aw,yn],?_]]
  rintro x H' ⟨rfl,rfl⟩;erw[hs i O H' h hp]
 ·have e:i=n:=by lia
  subst e;erw[.inl #[ck _,hd O H hp]]
end
theorem WD{K:aa}{bs:List Bool}{D:Addr}(rest:St)(hn:n=2)(h1:fL b1 K H l1 xs)(h2:fL b2 K H l2 ys)(nw:Nw H H0 D (.lst [])) (hl:min xs.length ys.length=bs.length)(hz:bs.length<=100000) (hs:∀(i:Nat)(x y:V)(b:Bool)(H2:Hp)(Q':VK),xs[i]? =some x->ys[i]? =some y->bs[i]? =some b->aH H H2->(∀H3,aH H2 H3->Q' (.bl b) H3)->te (some x::some y::rest) H2 Q') (hq:∀H',aH H H'->H' D=some (.lst (bs.map V.bl))->Q (.ref D) H'):jo (og K b1 b2 l1 l2) (qU K n (kX (fK 0) (kX (fK 1) u9))) iX te Q D (none::none::rest) H0:=by
 subst hn;have hD:=nw.no;erw[uj bs.length (λi O H2=>aH H H2/\H2 D=some (.lst ((bs.take i).map V.bl))/\∃v v',O=v::v'::rest) ?_ ?_ ?_]
 ·erw[nw.same,nw.at',none,none,Z]
 ·rintro i O H2 hi ⟨s2,d2,v,v',rfl⟩
  have hx:i<xs.length:=by lia
  have hy:i<ys.length:=by lia
  have ex:=cC hx;have ey:=cC hy;have eb:=cC hi;erw[#[xs,ys,_,_,h1.go s2,h2.go s2,ex,ey],λy' H3 kQ=>?_];let(T,x0,y0,rfl,k1,k2,n3):=kQ;have e1:=k1 _ (h1.go s2);have e2:=k2 _ (h2.go s2);rw[ex]at e1;rw[ey]at e2;cases e1;cases e2;erw[T,_,Z,aV.of n3.at',Z,_,_,Z,_,_,Z,Z,?_];erw[yes (cx ?_)];erw[hs i _ _ _ _ _ ex ey eb (s2.trans n3.same) λH4 s4=>?_];erw[_,s4 _ _ (n3.same _ _ d2),?_,bs.length-(i+1),aw,Z,aw,λb o e=>?_,?_,_,_,Z]
  ·rw[cJ,pU]
   have:(100000:Nat)<sizeLine:=by decide
   lia
  ·rw[aR (fZ e hD)];erw[s4 b o (n3.same b o (s2 b o e))]
  ·rw[bo,sj,eb,pT];rfl
 ·rintro O H2 ⟨s2,d2,v,v',rfl⟩
  erw[#[xs,ys,h1.go s2,h2.go s2,aw],hq H2 s2 ?_];rw[d2,wV]
structure MA(K:aa)(C:Addr)(m qual:Str)(st:Stmt):Prop where ex:∃f fd,Meth K C m f/\lB K m qual st f fd
def cS(P:ah)(w:World)(K:aa)(mg:cw)(aB:Heap)(C:Addr)(m:Str)(k:Nat)(sp:Sp):Prop:=∃f fd ps,jG P w K mg aB ka k f fd ps sp/\Meth K C m f/\Binds K fd ps []
structure CA(K:aa)(mg:cw)(C:Addr)(x qual:Str)(st:Stmt):Prop where
 mgC:mg x=some (.ref C)
 ex:∃f fd,Mk K C f/\lB K "__init__" qual st f fd
def Bo(P:ah)(w:World)(K:aa)(mg:cw)(aB:Heap)(C:Addr)(x:Str)(k:Nat)(sp:Sp):Prop:=∃f fd ps,jG P w K mg aB ka k f fd ps sp/\Mk K C f/\Binds K fd ps []/\mg x=some (.ref C)
section
variable {P:ah}{w:World}{K:aa}{mg:cw}{aB:Heap}
theorem iO{C:Addr}{m qual:Str}{st:Stmt}{f:Addr}{oc:Value}{od an:Option Addr}{gW:Array (Option Value)}{kV doc pm aQ ct:Value} (a:PySem.W.findIn K (.ref C) m=some (some (.ref f)))(i:PySem.W.isFn K (.ref f)=true) (l:K.lookup f=some #[oc,od,.func (PySem.W.fnOf m qual (lb st) (iz st) (bj st) .none kV doc pm an aQ ct),gW]) (c:PySem.W.codeIn K aQ qual=true)(k:PySem.W.keepIn K (.ref f)=true):MA K C m qual st:=#[f,_,#[a,i,k],Es l c k]
theorem acj{h:Heap}{C:Addr}{x qual:Str}{st:Stmt}{f:Addr}{oc:Value}{od an:Option Addr}{gW:Array (Option Value)}{kV doc pm aQ ct:Value}(X:K.In h)(G:h.Ns mainGlobals mg) (aC:PySem.W.nsIn K mainGlobals x=some (some (.ref C)))(mk:PySem.W.makesIn K C=true)(kc:PySem.W.keepIn K (.ref C)=true) (a:PySem.W.findIn K (.ref C) "__init__"=some (some (.ref f)))(i:PySem.W.isFn K (.ref f)=true) (l:K.lookup f=some #[oc,od,.func (PySem.W.fnOf "__init__" qual (lb st) (iz st) (bj st) .none kV doc pm an aQ ct),gW]) (c:PySem.W.codeIn K aQ qual=true)(k:PySem.W.keepIn K (.ref f)=true):CA K mg C x qual st:=#[zk X G aC,f,_,#[mk,a,i,kc],Es l c k]
theorem MA.has{C:Addr}{m qual:Str}{st:Stmt}{N ps:List Str}{k:Nat}{sp:Sp}(F:MA K C m qual st)(S:bN N ps (bj st))(len:∀vs H Q E,sp vs H Q E->vs.length=ps.length) (hb:∀(kV doc pm:Value)(an:Option Addr)(aQ ct:Value)(us:List Value),us.length=ps.length->bindArgs (PySem.W.fnOf m qual (lb st) (iz st) (bj st) .none kV doc pm an aQ ct) #[us,[]]=pure (ps.zip us)) (ji:∀(f:Addr)(aQ:Value)(A:aj)(outer:List Env)(s:ae)(H:Hp)(vs:List V)(Q:VK)(E:XK),dh k (A.deeper (envOfC qual (bj st) s.heap.objs.size f aQ))->sp vs H Q E->∃t,iU (jE ka P w K mg aB N qual (bj st) f aQ A outer s H E).qC (iz st) t/\t (eZ9 Q) (start N vs) H):cS P w K mg aB C m (k+1) sp:=by let(f,fd,hm,F):=F.ex;erw[f,fd,ps,F.ok S len λaQ A outer s H vs Q E=>ji f aQ A outer s H vs Q E,hm,F.binds hb]
theorem CA.has{C:Addr}{x qual:Str}{st:Stmt}{N ps:List Str}{k:Nat}{sp:Sp}(F:CA K mg C x qual st)(S:bN N ps (bj st))(len:∀vs H Q E,sp vs H Q E->vs.length=ps.length) (hb:∀(kV doc pm:Value)(an:Option Addr)(aQ ct:Value)(us:List Value),us.length=ps.length->bindArgs (PySem.W.fnOf "__init__" qual (lb st) (iz st) (bj st) .none kV doc pm an aQ ct) #[us,[]]=pure (ps.zip us)) (ji:∀(f:Addr)(aQ:Value)(A:aj)(outer:List Env)(s:ae)(H:Hp)(vs:List V)(Q:VK)(E:XK),dh k (A.deeper (envOfC qual (bj st) s.heap.objs.size f aQ))->sp vs H Q E->∃t,iU (jE ka P w K mg aB N qual (bj st) f aQ A outer s H E).qC (iz st) t/\t (eZ9 Q) (start N vs) H):Bo P w K mg aB C x (k+1) sp:=by let(f,fd,hm,F'):=F.ex;erw[f,fd,ps,F'.ok S len λaQ A outer s H vs Q E=>ji f aQ A outer s H vs Q E,hm,F'.binds hb,F.mgC]
end
section
variable {X:Cx}{k:Nat}{x m:Str}{C:Addr}{p pos apos:Pos}{o e:Expr}{es:List Expr}{t:TA}{ta:TE}{sp:Sp}
inductive XC(C:Addr)(m:Str)(sp:Sp)(t:TA)(O:St)(Q:VK)(x:V)(H1:Hp):Prop |mk (a:_)(dx:_)(fs:_)(h0:x= .ref a)(h1:H1 a=some (.ins C dx fs))(h2:fs.lookup m=none)(h3:t O H1 λvs H2=>sp (x::vs) H2 Q E0)
def Oo(C:Addr)(m:Str)(sp:Sp)(ta:TE)(t:TA):TE:=λO H Q=>ta O H λx H1=>XC C m sp t O Q x H1
theorem Tw{O:St}{Q:VK}{x:V}{H1:Hp}:wK C m sp [] E0 t O Q x H1=XC C m sp t O Q x H1:=by
 have e1:(λ(vs:List V) H1=>sp (x::(vs++[])) H1 Q E0)=λvs H1=>sp (x::vs) H1 Q E0:=by funext vs H1;rw[FH]
 erw[propext #[λ#[a,dx,fs,h0,h1,h2,h3]=>#[a,dx,fs,h0,h1,h2,?_],λ#[a,dx,fs,h0,h1,h2,h3]=>#[a,dx,fs,h0,h1,h2,?_]]]
 ·rw[<-e1];erw[h3]
 ·rw[e1];erw[h3]
theorem tj{pl:Sem Bool}(F:cS X.prog X.w X.K X.mg X.aB C m k sp)(c:kH X.K C)(hr:dh k X.A)(he:PE X o ta)(ha:PA X (e::es) t) (iQ:autoParam (starEach (e::es) X.env=(false,eval e X.env)::starEach es X.env) r8_._auto_1)(gY:autoParam ((backTo pos (starEach es X.env)).any (·.1)=false) r8_._auto_1) (ht:eval (.Call (.Attribute o m apos) (e::es) [] pos) X.env=(do
 let ov<-eval o X.env
 standAt apos.atName
 let(f,first)<-holding [ov] (getMethod ov m pl)
 callWith pos f first (backTo pos (starEach (e::es) X.env)) (backToKw pos (keywordEach [] X.env))):=by rfl): PE X (.Call (.Attribute o m apos) (e::es) [] pos) (Oo C m sp ta t):=by
 let(f,fd,ps,F,hm,hb):=F;have h:=Sk (pos:=pos) (apos:=apos) (pl:=pl) he c hm F hr hb .nil D6 ha iQ gY ht;intro ay s O H Q I hq;erw[h ay s O H Q I ?_];show ta O H λx H1=>wK C m sp [] E0 t O Q x H1;simp only[Tw];erw[hq]
theorem gu{pl:Sem Bool}(F:cS X.prog X.w X.K X.mg X.aB C m k sp)(c:kH X.K C)(hr:dh k X.A)(he:PE X o ta) (ht:eval (.Call (.Attribute o m apos) [] [] pos) X.env=(do
 let ov<-eval o X.env
 standAt apos.atName
 let(f,first)<-holding [ov] (getMethod ov m pl)
 callWith pos f first (backTo pos (starEach [] X.env)) (backToKw pos (keywordEach [] X.env))):=by rfl): PE X (.Call (.Attribute o m apos) [] [] pos) (Oo C m sp ta jM):=by
 let(f,fd,ps,F,hm,hb):=F;have h:=Sj (pos:=pos) (apos:=apos) (pl:=pl) he c hm F hr hb .nil D6 ht;intro ay s O H Q I hq;erw[h ay s O H Q I ?_];show ta O H λx H1=>wK C m sp [] E0 jM O Q x H1;simp only[Tw];erw[hq]
def Zr(C:Addr)(sp:Sp)(t:TA):TE:=λO H Q=>t O H λvs H1=>∀x dx,H1 x=none->H1 dx=none->dx≠x->sp (.ref x::vs) (upd (upd H1 dx (.own x)) x (.ins C dx [])) (λv H2=>v= .bF/\Q (.ref x) H2) E0
theorem Si(F:Bo X.prog X.w X.K X.mg X.aB C x k sp)(hr:dh (k+1) X.A)(hg:Gl X x)(ha:PA X (e::es) t)(jW:autoParam ((x==("__debug__":Str))=false) q8_._auto_1) (he:autoParam (starEach (e::es) X.env=(false,eval e X.env)::starEach es X.env) r8_._auto_1)(gY:autoParam ((backTo pos (starEach es X.env)).any (·.1)=false) r8_._auto_1): PE X (.Call (.Name x p) (e::es) [] pos) (Zr C sp t):=by
 let(f,fd,ps,F,M,hb,hm):=F;have h:=a2p (pos:=pos) (p:=p) M F hr hg hm hb .nil D6 ha jW he gY;intro ay s O H Q I hq;erw[h ay s O H Q I ?_];have e1:(λ(vs:List V) H1=>∀x dx,H1 x=none->H1 dx=none->dx≠x->sp (.ref x::(vs++[])) (upd (upd H1 dx (.own x)) x (.ins C dx [])) (λv H2=>v= .bF/\Q (.ref x) H2) E0) =λvs H1=>∀x dx,H1 x=none->H1 dx=none->dx≠x->sp (.ref x::vs) (upd (upd H1 dx (.own x)) x (.ins C dx [])) (λv H2=>v= .bF/\Q (.ref x) H2) E0:=by funext vs H1;rw[FH]
 show t O H λvs H1=>∀x dx,H1 x=none->H1 dx=none->dx≠x->sp (.ref x::(vs++[])) (upd (upd H1 dx (.own x)) x (.ins C dx [])) (λv H2=>v= .bF/\Q (.ref x) H2) E0;rw[e1];erw[hq]
inductive IAt(C:Addr)(x:Str)(Q:VK)(v:V)(H1:Hp):Prop |mk (a dx:Addr)(fs:List (Str×V))(u:V)(h0:v= .ref a)(h1:H1 a=some (.ins C dx fs))(h2:fs.lookup x=some u)(h3:Q u H1)
theorem dj(T:kH X.K C)(hn:jZ X.K C x)(he:PE X e ta)(hb:autoParam (attributeBase e x X.env (eval e X.env)=eval e X.env) r8_._auto_1): PE X (.Attribute e x pos) (λO H Q=>ta O H λv H1=>IAt C x Q v H1):=by intro ay s O H Q I h;erw[acL hb (bw (he ay s O H _ I h) λu s1 #[v,H1,I1,rx,a,dx,fs,w,ex,ea,l,q]=>?_)];subst ex;obtain rfl:u=Value.ref a:=rx;erw[Vn I1 ea T hn l λu' s2 I2 ru=>#[w,H1,I2,ru,q]]
inductive afp(C:Addr)(x:Str)(D:Ends)(O:St)(y v:V)(H2:Hp):Prop |mk (a dx:Addr)(fs:List (Str×V))(h0:v= .ref a)(h1:H2 a=some (.ins C dx fs))(h2:fs.length<1000)(h3:D.nx O (upd H2 a (.ins C dx (jP x y fs))))
inductive afr(C a:Addr)(x:Str)(D:Ends)(O:St)(z:V)(H3:Hp):Prop |mk (wz:Addr)(fs':List (Str×V))(h0:H3 a=some (.ins C wz fs'))(h1:fs'.length<1000)(h2:D.nx O (upd H3 a (.ins C wz (jP x z fs'))))
inductive afs(C:Addr)(x:Str)(tv:TE)(rd:V->V->Hp->VK->Prop)(D:Ends)(O:St)(v:V)(H1:Hp):Prop |mk (a dx:Addr)(fs:List (Str×V))(u:V)(h0:v= .ref a)(h1:H1 a=some (.ins C dx fs))(h2:fs.lookup x=some u)(h3:tv O H1 λy H2=>rd u y H2 λz H3=>afr C a x D O z H3)
theorem ij(T:kH X.K C)(hn:jZ X.K C x)(ha:PE X o ta)(hv:PE X value tv)(hs:autoParam (swapsWith value (some (.Attribute o x pos')) pos.line X.env=pure false) r8_._auto_1): PS X (.Assign [.Attribute o x pos'] value pos) (λD O H=>tv O H λy H1=>ta O H1 λv H2=>afp C x D O y v H2):=by intro ay s O H D I h;erw[plainObj_wpAny_Assign_Attribute (bw (hv ay s O H _ I h) λu s1 #[y,H1,I1,ry,q]=>bw (ha ay s1 O H1 _ I1 q) λov s2 #[v,H2,I2,rx,a,dx,fs,ex,ea,l,q2]=>?_) hs];subst ex;obtain rfl:ov=Value.ref a:=rx;erw[PD I2 ea T hn l ry λs3 I3=>#[O,_,I3,q2]]
theorem a24{rd:V->V->Hp->VK->Prop}(T:kH X.K C)(hn:jZ X.K C x)(ha:PE X o ta)(hv:PE X value tv)(hop:afb X op rd): PS X (.AugAssign (.Attribute o x qc) op value pos) (λD O H=>ta O H λv H1=>afs C x tv rd D O v H1):=by intro ay s O H D I h;erw[wpAny_AugAssign_AttributeAny (bw (ha ay s O H _ I h) λov s1 #[v,H1,I1,rx,a,dx,fs,u,ex,ea,l,q]=>?_)];subst ex;obtain rfl:ov=Value.ref a:=rx;erw[Vn I1 ea T hn l λu s2 I2 ru=>bw (hv ay s2 O H1 _ I2 q) λw3 s3 #[y,H2,I3,ry,q3]=>bw (hop ay s3 O H2 _ y u w3 _ I3 ru ry q3) λw4 s4 #[z,H3,I4,rz,wz,fs',pk,l',q4]=>?_];erw[PD I4 pk T hn l' rz λs5 I5=>#[O,_,I5,q4]]
end
def aX(S:List Addr)(H H':Hp):Prop:=∀b o,H b=some o->b∉S->H' b=some o
theorem aX.refl(S:List Addr)(H:Hp):aX S H H:=λ_ _ e _=>e
theorem aX.of(s:aH H H'):aX S H H':=λb o e _=>s b o e
theorem aX.trans(a:aX S H H1)(b:aX S H1 H2):aX S H H2:=λc o e n=>b c o (a c o e n) n
theorem aX.mono(h:∀x,x∈S->x∈S')(a:aX S H H1):aX S' H H1:=λc o e n=>a c o e λz=>n (h c z)
theorem o8(h:a∈S):aX S H (upd H a o):=λb o' e n=>by have hb:b≠a:=λz=>n (by rw[z];erw[h]);rw[aR hb];erw[e]
def Bv:HO->Prop | .lst _=>True | .ins _ _ _=>True | .dK _=>True | .fq _=>True |_=>False
def cm(H H':Hp):Prop:=∀b o,¬Bv o->H b=some o->H' b=some o
section
variable {K:aa} {H H' H2:Hp}
theorem cm.refl:cm H H:=λ_ _ _ e=>e
theorem cm.trans(a:cm H H')(b:cm H' H2):cm H H2:=λc o n e=>b c o n (a c o n e)
theorem jm.v(s:jm H H'):cm H H':=λb o n e=>s b o (λxs z=>n (by rw[z];trivial)) e
theorem aH.v(s:aH H H'):cm H H':=λb o _ e=>s b o e
theorem aX.v(s:aX S H H')(h:∀x∈S,∀o,H x=some o->Bv o):cm H H':=λb o n e=>s b o e λz=>n (h b z o e)
theorem cm.upd(h:H a=some o)(m:Bv o):cm H (upd H a o'):=λb p n e=>by
 have hb:b≠a:=λz=>by rw[z,h]at e;cases e;erw[n m]
 rw[aR hb];erw[e]
theorem aV.v(s:cm H H')(h:aV K H a xs):aV K H' a xs:=h.imp (λr=>r.imp (s _ _ (λz=>z)) λ#[o,e]=>#[o,s _ _ (λz=>z) e]) id
mutual
theorem RD.v(s:cm H H'):∀{x:V}(d:ai),fQ d=true->RD K H x d->RD K H' x d |x,.none,_,h=>by simpa[RD]using h |x,.bool b,_,h=>by simpa[RD]using h |x,.int i,_,h=>by simpa[RD]using h |x,.str y,_,h=>by simpa[RD]using h |x,.list ds,n,h=>by simp[fQ]at n |x,.tuple ds,n,h=>by rw[RD]at h⊢;let(a,xs,e,h1,h2):=h;erw[a,xs,e,h1.v s,aO.v s ds (by simpa[fQ]using n) h2] |x,.dict _,_,h=>by simp[RD]at h
theorem aO.v (s:cm H H'):∀{xs:List V}(ds:List ai),du ds=true->aO K H xs ds->aO K H' xs ds |xs,[],_,h=>by simpa[aO]using h |xs,d::ds,n,h=>by rw[aO]at h⊢;rw[du,fD]at n;let(y,ys,e,h1,h2):=h;erw[y,ys,e,RD.v s d n.1 h1,aO.v s ds n.2 h2]
end
end
end _L
namespace _P
section
variable {n:Nat}{own:Nat->Rat}{L:Nat->Option Nat}{r f:Int}
end
end _P
namespace _O
open _P _l _C
end _O
namespace _P
section
variable {n:Nat}{own JI:Nat->Rat}{L L':Nat->Option Nat}{r f:Int}
end
section
variable {n:Nat}{own JI q:Nat->Rat}{L:Nat->Option Nat}{r f r' f':Int}
end
end _P
namespace _O
open _P _l _C
end _O
namespace _P
section
variable {n:Nat}{own JI:Nat->Rat}{L L':Nat->Option Nat}{r f:Int}{c:Nat}
end
end _P
namespace _O
open _P
section
variable (j aE:Int) (os1 os2:List Itm)
end
end _O
namespace _P
section
variable {n:Nat}{own:Nat->Rat}{L:Nat->Option Nat}{r f:Int}
theorem a9F(hi:i<=n):fl n L f g i<=g i:=by
 rcases Nat.lt_or_ge i n with h|h
 ·cases e:L i with |none=>rw[yG h e];erw[rX] |some m=>rw[yI h e];erw[ip _ _]
 ·have:i=n:=by lia
  subst this;rw[yH];erw[rX]
theorem a9E(hf:0<=f)(h0:∀i,i<=n->0<=g i):∀i,i<=n->0<=fl n L f g i:=by
 erw[down ?_ ?_]
 ·rw[yH];erw[h0 n (ck _)]
 ·intro i hi ih
  cases e:L i with |none=>rw[yG hi e];erw[h0 i aw] |some m=>rw[yI hi e];erw[ml (h0 i aw) (Ud ih (a51 hf))]
end
end _P
namespace _R
open _P _r _l
open _O (topR ownF leadF Itm OkIs)
theorem EK(hb:b≠0)(h2:b.natAbs<2^n):(Rat.divInt a b).den<2^n:=by obtain⟨-,e⟩:=Dv (a:=a) hb;have l2:=_A.TU (p:=a) hb;omega
structure Dd(D:Nat)(q:Rat):Prop where
 nn:0<=q
 den:q.den<2^D
theorem Dd.mono{D:Nat}{q:Rat}(h:Dd D q)(l:D<=E):Dd E q:=#[h.nn,gP h.den (uE aD l)]
theorem Dd.bd{D:Nat}{q:Rat}(h:Dd D q)(hl:q<=2000):Bd (D+11) q:=by
 have h1:=Nl.mpr h.nn;have wg:¬((2000:Rat)<q):=BD.mpr hl;rw[Ft]at wg;have e1:(2000:Rat).num=2000:=rfl;have e2:(2000:Rat).den=1:=rfl;rw[e1,e2]at wg;have h2:q.num<=2000*(q.den:Int):=by lia
 erw[?_,gP h.den (uE aD aw)];have h3:=h.den;have h4:q.num.natAbs<=2000*q.den:=by lia
 have h5:(2:Nat)^(D+11)=2^D*2048:=by rw[Nat.pow_add]
 rw[h5];have h6:2000*q.den<2000*2^D:=Nat.mul_lt_mul_of_pos_left h3 aD
 lia
theorem Dd.mn{D:Nat}(h1:Dd D a)(h2:Dd D b):Dd D (mn a b):=by rcases Ah a b with e|e<;>rw[e]<;>assumption
theorem Dd.add{D:Nat}{q:Rat}(h:Dd D q){z:Int}(hz:0<=z):Dd D (q+(z:Rat)):=by
 erw[Ud h.nn (by have:=Rat.intCast_le_intCast.mpr hz;erw[this]),?_];rw[add_div,Nm,Nq];have e:(q.den:Int)*((1:Nat):Int)=(q.den:Int):=by lia
 rw[e];have hd:=q.den_pos;erw[EK aw (by have:=h.den;lia)]
theorem Wq(ha:0<=a)(hb:0<b):0<=Rat.divInt a b:=(zj hb).mpr ha
theorem div_pos(ha:0<a)(hb:0<b):0<Rat.divInt a b:=by
 have h0:=Wq (FJ ha) hb;erw[Nk h0 λe=>?_];have h2:0<=Rat.divInt (-a) b:=by rw[<-Rat.neg_divInt,<-e];decide
 have:=(zj hb).mp h2
 lia
theorem Dd.mul{D:Nat}{q:Rat}(h:Dd D q){a s:Int}(ha:0<=a)(hs:0<s)(hm:s.natAbs<2^m):Dd (D+m) (q*Rat.divInt a s):=by erw[Rat.mul_nonneg h.nn (Wq ha hs),?_];have h1:(Rat.divInt a s).den<2^m:=EK aw hm;rw[mul_div];have hd:=q.den_pos;have hd2:=(Rat.divInt a s).den_pos;erw[EK (rC _ _) ?_];rw[gD];erw[mh (by have:=h.den;lia) aw]
theorem G2(aE sp:Int):Dd 14 (topR aE sp):=#[_O.C8 _ _,EK aD aD]
theorem C7{aE:Int}(h1:1<=sp)(h2:sp<=20)(h3:10<=aE)(h4:aE<=200):topR aE sp<=1600:=by
 have e:(1600:Rat)=Rat.divInt 16000000 10000:=by decide+kernel
 rw[e];refine(_C.Ws aD).mpr ?_;have hp:sp*aE<=20*200:=FI h2 h4 aw aw;have DU:0<=sp*aE:=ki aw aw;rw[gC,gC,mO,lU];have:=FI hp hp DU aD
 lia
theorem a2I{aE:Int}(h1:1<=j)(h2:j<=50)(h3:10<=aE)(h4:aE<=200)(ho:OkIs os)(i:Nat):Dd 64 (ownF j aE os i):=#[_O.SA _ _ _ _,(_O.JH h1 h2 h3 h4 ho i).den]
theorem a9G{D:Nat}(hf:0<=f)(h:∀i,i<=n->Dd D (g i)):∀i,i<=n->Dd D (fl n L f g i):=by
 erw[down ?_ ?_]
 ·rw[yH];erw[h n (ck _)]
 ·intro i hi ih
  cases e:L i with |none=>rw[yG hi e];erw[h i aw] |some m=>rw[yI hi e];exact(h i aw).mn (ih.add (ki hf aw))
theorem acv{aE:Int}(h3:10<=aE)(h4:aE<=200)(ho:_O.OkI o):_O.betR j aE o p<=1600:=by cases o with |none=>rw[_O.X6];decide+kernel |some q=>cases p with |none=>rw[_O.EU];decide+kernel |some q'=>let(ns,sp):=q;let(ms,sq):=q';obtain⟨-,a1,a2⟩:=ho ns sp rfl;have ht:=C7 a1 a2 h3 h4;show _O.mnO (mn (topR aE sp) (topR aE sq)) (_O.cornO j ns ms)<=1600;cases _O.cornO j ns ms with |none=>erw[fz (ip _ _) ht] |some c=>erw[fz (ip _ _) (fz (ip _ _) ht)]
theorem a2H{j aE:Int}{os:List Itm}(h3:10<=aE)(h4:aE<=200)(ho:OkIs os):∀i,ownF j aE os i<=1600 |0=>by show(0:Rat)<=1600;decide+kernel |i+1=>acv h3 h4 (ho i)
abbrev gO:=Option (Rat × Int × Int)
def mT(r f:Int)(pc top R:Rat)(left:Int):gO->Rat |none=>mn (mn (pc+(r:Rat)) top) (R+((f*(2*left-1):Int):Rat)) |some (sq,st,gn)=>mn (mn (mn (pc+(r:Rat)) top) (R+((f*(2*left-1):Int):Rat))) (sq*Rat.divInt (2*(st-gn-1)+1) (2*st))
def qA(r f:Int)(pc top R:Rat)(left:Int):gO->Rat |none=>mn (mn (pc+((2*r:Int):Rat)) top) (R+((2*f*(left-1):Int):Rat)) |some (sq,st,gn)=>mn (mn (mn (pc+((2*r:Int):Rat)) top) (R+((2*f*(left-1):Int):Rat))) (sq*Rat.divInt (st-gn-1) st)
def De:gO->gO |none=>none |some (sq,st,gn)=>some (sq,st,gn+1)
def uv(D:Nat)(pc:Rat):gO->Prop |none=>True |some (sq,st,gn)=>0<=gn/\gn<=st/\st<=1000/\Dd D sq/\sq<=2000/\(st=0->pc=0)/\pc*(st:Rat)<=sq*((st-gn:Int):Rat)
def Halt(pc:Rat)(aY:gO):Prop:=aY≠none/\pc=0
theorem xX{D:Nat}(h:uv D pc (some (sq,st,gn)))(hp:0<=pc)(hn:¬Halt pc (some (sq,st,gn))):gn<st/\0<sq/\0<pc:=by
 let(g0,g1,g2,hd,hl,hz,hh):=h;have Az:0<pc:=Nk hp λe=>hn #[by simp,e.symm];have iQ:gn<st:=by
  rcases NQ gn st with h|h
  ·erw[h]
  ·have e:st-gn=0:=by lia
   rw[e]at hh;have e0:sq*((0:Int):Rat)=0:=Rat.mul_zero sq;rw[e0]at hh;exfalso;rcases NQ 0 st with h3|h3
   ·have h4:(0:Rat)<(st:Rat):=XQ.mpr h3
    have h5:=Rat.mul_pos Az h4;erw[absurd (Std.lt_of_lt_of_le h5 hh) (Rat.lt_irrefl)]
   ·rw[hz aw]at Az;erw[absurd Az (Rat.lt_irrefl)]
 erw[iQ,?_,Az];erw[Nk hd.nn λe=>?_];rw[<-e,Rat.zero_mul]at hh;have h4:(0:Rat)<(st:Rat):=XQ.mpr (show(0:Int)<st by lia);erw[absurd (Std.lt_of_lt_of_le (Rat.mul_pos Az h4) hh) (Rat.lt_irrefl)]
section
variable {D:Nat}{r f:Int}{pc top R:Rat}{left:Int}{aY:gO}
theorem ab5:qA r f pc top R left aY<=top:=by cases aY with |none=>erw[fz (ip _ _) (lN _ _)] |some q=>let(sq,st,gn):=q;erw[fz (ip _ _) (fz (ip _ _) (lN _ _))]
theorem TH:mT r f pc top R left aY<=top:=by cases aY with |none=>erw[fz (ip _ _) (lN _ _)] |some q=>let(sq,st,gn):=q;erw[fz (ip _ _) (fz (ip _ _) (lN _ _))]
theorem ab6(hr:0<=r)(hf:0<=f)(hl:1<=left)(hp:Dd (D+10) pc)(ht:Dd (D+10) top)(hR:Dd (D+10) R)(hs:uv D pc aY)(hn:¬Halt pc aY):Dd (D+10) (qA r f pc top R left aY):=by have h1:=(hp.add (z:=2*r) aw).mn ht;have h2:=hR.add (z:=2*f*(left-1)) (ki aw aw);cases aY with |none=>erw[h1.mn h2] |some q=>let(sq,st,gn):=q;let(a,b,c):=xX hs hp.nn hn;let(g0,g1,g2,hd,hl,hz,hh):=hs;exact(h1.mn h2).mn (hd.mul (m:=10) aw aw aw)
theorem TK(hr:0<=r)(hf:0<=f)(hl:1<=left)(hp:Dd (D+10) pc)(ht:Dd (D+10) top)(hR:Dd (D+10) R)(hs:uv D pc aY)(hn:¬Halt pc aY):Dd (D+11) (mT r f pc top R left aY):=by have h1:=((hp.add (z:=r) aw).mn ht).mono (show D+10<=D+11 by lia);have h2:=(hR.add (z:=f*(2*left-1)) (ki aw aw)).mono (show D+10<=D+11 by lia);cases aY with |none=>erw[h1.mn h2] |some q=>let(sq,st,gn):=q;let(a,b,c):=xX hs hp.nn hn;let(g0,g1,g2,hd,hl,hz,hh):=hs;exact(h1.mn h2).mn (hd.mul (m:=11) aw aw aw)
theorem add_pos{x:Rat}{z:Int}(hx:0<=x)(hz:0<z):0<x+(z:Rat):=by have h1:((0:Int):Rat)<(z:Rat):=XQ.mpr hz;have h2:x+((0:Int):Rat)<x+(z:Rat):=Rat.add_lt_add_left.mpr h1;rw[show((0:Int):Rat)=0 from Z,Rat.add_zero]at h2;erw[Std.lt_of_le_of_lt hx h2]
theorem K5(ha:0<a)(hb:0<b):0<mn a b:=by rcases Ah a b with e|e<;>rw[e]<;>assumption
theorem TJ(hr:1<=r)(hf:1<=f)(hl:1<=left)(hp:0<=pc)(ht:0<top)(hR:0<=R)(hs:uv D pc aY)(hn:¬Halt pc aY):0<mT r f pc top R left aY:=by have h1:=K5 (K5 (add_pos hp (show 0<r by lia)) ht) (add_pos hR (show 0<f*(2*left-1)from jh aw aw));cases aY with |none=>erw[h1] |some q=>let(sq,st,gn):=q;let(a,b,c):=xX hs hp hn;let(g0,g1,g2,hd,hl,hz,hh):=hs;erw[K5 h1 (Rat.mul_pos b (div_pos aw aw))]
theorem Wo(a:Int):Rat.divInt a 1=(a:Rat):=by
 conv=>rhs;rw[<-uC (a:Rat)]
 rfl
theorem abz(hs:0<s):Rat.divInt a s*(s:Rat)=(a:Rat):=by
 have e:(s:Rat)=Rat.divInt s 1:=by rw[Wo]
 rw[e,XS _ _,Int.mul_one,NP a s];have e2:Rat.divInt (s*a) s=Rat.divInt (s*a) (s*1):=by rw[Int.mul_one]
 rw[e2,Rat.divInt_mul_left aw,Wo]
theorem ZW(hs:uv D pc aY)(hp:0<=pc)(hn:¬Halt pc aY):uv D (qA r f pc top R left aY) (De aY):=by cases aY with |none=>trivial |some q=>
 let(sq,st,gn):=q;let(a,b,c):=xX hs hp hn;let(g0,g1,g2,hd,hl,hz,hh):=hs;erw[aw,aw,g2,hd,hl,λe=>by lia,?_];have h1:qA r f pc top R left (some (sq,st,gn))<=sq*Rat.divInt (st-gn-1) st:=lN _ _;have h2:(0:Rat)<=(st:Rat):=Rat.intCast_nonneg.mpr aw;have h3:=Rat.mul_le_mul_of_nonneg_right h1 h2;have h4:sq*Rat.divInt (st-gn-1) st*(st:Rat)=sq*((st-(gn+1):Int):Rat):=by
  rw[Rat.mul_assoc,abz aw];congr 2
  lia
 rw[h4]at h3;erw[h3]
end
end _R
namespace _L
open PySem PySem.Spec PyProof.Rows
section
variable {κ : Type} [DecidableEq κ]
def gE(aU:List (κ×V))(k:κ):Option V:=(aU.find? λkv=>decide (kv.1=k)).map (·.2)
def putK(aU:List (κ×V))(k:κ)(v:V):List (κ×V):=if(aU.any λkv=>decide (kv.1=k))=true then aU.map (λkv=>if kv.1=k then(kv.1,v)else kv)else aU++[(k,v)]
theorem FP{k:κ}(e:p.1=k):gE (p::r) k=some p.2:=by simp[gE,BJ,e]
theorem FQ{k:κ}(e:¬p.1=k):gE (p::r) k=gE r k:=by simp[gE,BJ,e]
theorem O1(k:κ):∀aU:List (κ×V),(aU.any λkv=>decide (kv.1=k))=(gE aU k).isSome
 |[]=>rfl |p::r=>by
  rw[sy];by_cases e:p.1=k
  ·simp only[FP e,cU e,Bool.true_or,Option.isSome_some]
  ·rw[FQ e,fo e,Bool.false_or];erw[O1 k r]
theorem DB(aU:List (κ×V))(k:κ)(v:V):(putK aU k v).length<=aU.length+1:=by
 unfold putK;split
 ·rw[cJ];lia
 ·rw[fN,lE,NJ];lia
theorem kF.a6r(r:kF o u):o.isSome=u.isSome:=by cases o with
 |none=>cases u with |none=>rfl |some _=>exact(show False from r).elim
 |some _=>cases u with |none=>exact(show False from r).elim |some _=>rfl
theorem KV.val(r:KV aU vs)(k:κ):kF (gE aU k) (valueAt vs k):=by unfold KV at r;induction r with |nil=>erw[True.intro] |@cons p q ps qs h t ih=>
 let(h1,h2):=h;by_cases e:p.1=k
 ·have e':q.1=k:=h1.symm.trans e
  have b:valueAt (q::qs) k=some q.2:=by simp[valueAt,BJ,e']
  rw[FP e,b];erw[h2]
 ·have e':¬q.1=k:=λz=>e (h1.trans z)
  have b:valueAt (q::qs) k=valueAt qs k:=by simp[valueAt,BJ,e']
  rw[FQ e,b];erw[ih]
theorem KV.any(r:KV aU vs)(k:κ):(aU.any λkv=>decide (kv.1=k))=vs.any λkv=>decide (kv.1=k):=by unfold KV at r;induction r with |nil=>rfl |cons h t ih=>rw[sy,sy,ih,h.1]
theorem KV.Ja(r:KV aU vs)(k:κ){y:V}{u:Value}(ry:RelV y u): KV (aU.map λkv=>if kv.1=k then(kv.1,y)else kv) (vs.map λkv=>if kv.1=k then(kv.1,u)else kv):=by unfold KV at r⊢;induction r with |nil=>erw[.nil] |@cons p q ps qs h t ih=>
 rw[pR,pR];erw[.cons ?_ ih];let(h1,h2):=h;by_cases e:p.1=k
 ·rw[bE e,bE (h1.symm.trans e)];erw[h1,ry]
 ·rw[bI e,bI (λz=>e (h1.trans z))];erw[h1,h2]
theorem KV.put(r:KV aU vs)(k:κ){y:V}{u:Value}(ry:RelV y u):KV (putK aU k y) (stored vs k u):=by
 unfold putK stored;rw[r.any k];by_cases e:(vs.any λkv=>decide (kv.1=k))=true
 ·rw[bE e,bE e];erw[r.Ja k ry]
 ·rw[bI e,bI e];erw[Paired.snoc r #[Z,ry]]
theorem KV.length{aU:List (κ×V)}{vs:List (κ×Value)}(r:KV aU vs):aU.length=vs.length:=Paired.length r
end
theorem DG{P:ah}{w:World}{k:Key}(r:RelV (kV k) u):(ky P w).is k u=true:=by cases k with |inl i=>let(t,e):=(show∃t,u=Value.int i t from r);subst e;erw[a5b P w i t] |inr x=>let(t,e):=(show∃t,u=Value.str x t from r);subst e;erw[a5a P w x t]
theorem Up{P:ah}{w:World}:∀{ks:List Key}{us:List Value},Vals (ks.map kV) us->ItemsAre (ky P w) ks us |[],_,r=>by rw[List.map_nil]at r;cases r;erw[.nil] |k::ks,_,r=>by rw[pR]at r;cases r with |cons h t=>erw[.cons (DG h) (Up t)]
abbrev KT(H:Hp):List (List Key×V)->List (List Key×Addr×Value)->Prop:=Paired λp q=>p.1=q.1/\H q.2.1=some (.tup (p.1.map kV))/\RelV p.2 q.2.2
theorem KT.val(r:KT H aU xs)(k:List Key):kF (gE aU k) ((atKey xs k).map (·.2)):=by induction r with |nil=>erw[True.intro] |@cons p q ps qs h t ih=>
 let(h1,_,h2):=h;by_cases e:p.1=k
 ·have e':q.1=k:=h1.symm.trans e
  have b:atKey (q::qs) k=some q.2:=by simp[atKey,BJ,e']
  rw[FP e,b];erw[h2]
 ·have e':¬q.1=k:=λz=>e (h1.trans z)
  have b:atKey (q::qs) k=atKey qs k:=by simp[atKey,BJ,e']
  rw[FQ e,b];erw[ih]
theorem KT.Ja(r:KT H aU xs)(k:List Key){y:V}{u:Value}(ry:RelV y u): KT H (aU.map λkv=>if kv.1=k then(kv.1,y)else kv) (xs.map (putAt k u)):=by induction r with |nil=>erw[.nil] |@cons p q ps qs h t ih=>
 rw[pR,pR];erw[.cons ?_ ih];let(h1,h2,h3):=h;unfold putAt;by_cases e:p.1=k
 ·rw[bE e,bE (h1.symm.trans e)];erw[h1,h2,ry]
 ·rw[bI e,bI (λz=>e (h1.trans z))];erw[h1,h2,h3]
theorem KT.put(r:KT H aU xs)(k:List Key){b:Addr}{y:V}{u:Value}(hb:H b=some (.tup (k.map kV)))(ry:RelV y u): KT H (putK aU k y) (storedH xs k b u):=by
 have e:(aU.any λkv=>decide (kv.1=k))=(atKey xs k).isSome:=by rw[O1,(r.val k).a6r,Option.isSome_map]
 unfold putK storedH;rw[e];by_cases q:(atKey xs k).isSome=true
 ·rw[bE q,bE q];erw[r.Ja k ry]
 ·rw[bI q,bI q];erw[Paired.snoc r #[Z,hb,ry]]
theorem KT.keeps(r:KT H aU xs)(ht:∀b ys,H b=some (.tup ys)->H' b=some (.tup ys)):KT H' aU xs:=Paired.K8 r λ_ _ z=>#[z.1,ht _ _ z.2.1,z.2.2]
section
variable {P:ah}{w:World}{H:Hp}{h:Heap}{a:Addr}
theorem RU(ok:fb P w H h)(e:Rd H a u):gA P w H h a u:=e.ok ok
theorem MC(ok:fb P w H h)(e:Rd H a (.dK aU)):aU.length<=sizeLine/\(a==sysModules)=false/\∃vs,KV aU vs/\h.DictOf (ky P w) a vs:=show gA P w H h a (.dK aU)from RU ok e
theorem Wm(ok:fb P w H h)(e:H a=some (.dK aU)):aU.length<=sizeLine/\(a==sysModules)=false/\∃vs,KV aU vs/\h.DictOf (ky P w) a vs:=MC ok (.inl e)
theorem Ko(ok:fb P w H h)(e:H a=some (.tup (ks.map kV))):(tupleKind (ky P w)).is h ks a:=by let(_,its,r,o,h1,h2,n,h3):=(show gA P w H h a (.tup (ks.map kV))from ok a _ e);erw[o,its.toArray,n,h1,h2,h3,by simpa using Up r]
theorem My(ok:fb P w H h)(e:Rd H a (.dT aU)):aU.length<=sizeLine/\(a==sysModules)=false/\∃xs,KT H aU xs/\h.DictOfH (tupleKind (ky P w)) a xs:=by
 let(z,y,xs,r,o,es,ep,h1,h2,h3,h4,h5):=(show gA P w H h a (.dT aU)from RU ok e);erw[z,y,xs,r,o,es,ep,h1,h2,h3,h4,λx hx=>?_,h5];have all:∀{l:List (List Key×V)}{m:List (List Key×Addr×Value)},KT H l m->∀x∈m,(tupleKind (ky P w)).is h x.1 x.2.1:=by intro l m q;induction q with |nil=>intro x hx;erw[nomatch hx] |@cons p q ps qs hq t ih=>
  intro x hx;rcases bJ.mp hx with e|hx
  ·subst e
   erw[Ko ok (by rw[<-hq.1];erw[hq.2.1])]
  ·erw[ih x hx]
 erw[all r x hx]
theorem abm(ok:fb P w H h)(e:H a=some (.dT aU)):aU.length<=sizeLine/\(a==sysModules)=false/\∃xs,KT H aU xs/\h.DictOfH (tupleKind (ky P w)) a xs:=My ok (.inl e)
end
def wL(H:Hp)(a:Addr)(y:V)(r:Option V):Prop:=(∃aU k,Rd H a (.dK aU)/\y=kV k/\r=gE aU k)\/∃aU k b,Rd H a (.dT aU)/\y= .ref b/\H b=some (.tup (k.map kV))/\r=gE aU k
def rV(H:Hp)(a:Addr)(y v:V)(H':Hp):Prop:=(∃aU k,H a=some (.dK aU)/\y=kV k/\aU.length<sizeLine/\H'=upd H a (.dK (putK aU k v)))\/ ∃aU k b,H a=some (.dT aU)/\y= .ref b/\H b=some (.tup (k.map kV))/\aU.length<sizeLine/\H'=upd H a (.dT (putK aU k v))
theorem wL.k{k:Key}(e:H a=some (.dK aU)):wL H a (kV k) (gE aU k):=.inl #[aU,k,.inl e,Z,Z]
theorem rV.k{k:Key}{v:V}(e:H a=some (.dK aU))(hl:aU.length<sizeLine):rV H a (kV k) v (upd H a (.dK (putK aU k v))):=.inl #[aU,k,e,Z,hl,Z]
section
variable {X:Cx}{ay:List (Addr×Obj)}{O:St}{H:Hp}{s:ae}{a:Addr}{y v:V}{u r:Value}{o:Option V}{A:aj}{E:Value->ae->Prop}
theorem Inv.big(I:Inv X ay O H s):sysModules<s.heap.objs.size:=by have h:mainGlobals<s.heap.objs.size:=(I.mod.glob.keeps I.bk).lt;erw[NA aD h]
theorem abF{Q:Value->ae->Prop}(hu:A.units+1<cLine)(I:Inv X ay O H s)(g:wL H a y (some v))(ry:RelV y u)(h:∀w' s',Inv X ay O H s'->RelV v w'->Q w' s'): wpAny (model X.prog X.w) A (getItem (.ref a) u) Q E s:=by
 rcases g with⟨aU,k,e,ey,l⟩|⟨aU,k,b,e,ey,eb,l⟩
 ·subst ey
  let(z,hd,vs,rel,dd):=MC I.bB e;let(w',hw,jN):=kF.some_of (v:=v) (o:=valueAt vs k) (by rw[l];erw[rel.val k]);erw[wpAny_getItem_of (DG ry) dd.mapOf hw (h w' _ (I.tok _) jN)]
 ·subst ey
  cases(show u=Value.ref b from ry);let(z,hd,xs,rel,dd):=My I.bB e;let(w',hw,jN):=kF.some_of (v:=v) (o:=(atKey xs k).map (·.2)) (by rw[l];erw[rel.val k]);let(p,hp,DT):=Option.map_eq_some_iff.mp hw;erw[wpAny_getItem_heap (tupleKind_room_in1 hu) (Ko I.bB eb) dd hp ?_];rw[DT];erw[h w' _ (I.tok _) jN]
theorem MG{ob:HO}(I:Inv X ay O H s)(mu:Bm (H a))(hs:Heap.SameBut a s.heap h')(he:∃q,h'.get? a=some q)(new:gA X.prog X.w (upd H a ob) h' a ob): Inv X ay O (upd H a ob) {s with heap:=h',toks:=t'}:=I.write (x:=a) (e:=a) mu (.inl Z) (λb q hb z=>(hs.2 b hb).trans z) he new
theorem Wn{P:ah}{w:World}(z:aU.length<=sizeLine)(hd:(a==sysModules)=false)(rel:KV aU vs)(dd:h'.DictOf (ky P w) a vs): gA P w H' h' a (.dK aU):=#[z,hd,vs,rel,dd]
theorem Ww{H':Hp}{Q:Unit->ae->Prop}(hu:A.units+1<cLine)(I:Inv X ay O H s)(g:rV H a y v H')(ry:RelV y u)(rv:RelV v r)(h:∀s',Inv X ay O H' s'->Q () s'): wpAny (model X.prog X.w) A (setItem (.ref a) u r) Q E s:=by
 rcases g with⟨aU,k,e,ey,l,eH⟩|⟨aU,k,b,e,ey,eb,l,eH⟩
 ·subst ey eH
  let(z,hd,vs,rel,dd):=Wm I.bB e;have hz:vs.length<=sizeLine:=by rw[<-rel.length];erw[z]
  have hl:(putK aU k v).length<=sizeLine:=by have:=DB aU k v;lia
  erw[wpAny_setItem_pairs (hsz:=hz) (DG ry) dd λh' pC hs=>h _ ?_];have he:∃q,h'.get? a=some q:=let#[q,_,_,hq,_]:=pC;#[q,hq];erw[MG I (by rw[e];erw[True.intro]) hs he (Wn hl hd (rel.put k rv) pC)]
 ·subst ey eH
  cases(show u=Value.ref b from ry);let(z,hd,xs,rel,dd):=abm I.bB e;have hz:xs.length<=sizeLine:=by rw[<-Paired.length rel];erw[z]
  have hl:(putK aU k v).length<=sizeLine:=by have:=DB aU k v;lia
  erw[wpAny_setItem_heap (hsz:=hz) (tupleKind_room_in1 hu) (Ko I.bB eb) dd λh' pC hs=>h _ ?_];let(q,es,ep,hq,h2,h3,h4,_,h5):=pC;erw[MG I (by rw[e];erw[True.intro]) hs #[q,hq] #[hl,hd,_,(rel.put k eb rv).keeps λc ys ec=>?_,q,es,ep,hq,h2,h3,h4,h5]];rw[aR (Ab ec e (λz=>nomatch z))];erw[ec]
end
section
variable {X:Cx}{ay:List (Addr×Obj)}{O:St}{H:Hp}{s:ae}{a:Addr}{aU:List (Key×V)}{k:Key}{u:Value}{A:aj}{E:Value->ae->Prop}
end
def N7(i:Expr):Prop:=∀ov iv,subscripted i false ov iv=operate [ov,iv] (getItem ov iv)
theorem ZT{prog:ah}{w:World}{A:aj}{E:Value->ae->Prop}{s:ae}{env:Env}{value slice:Expr}{pos:Pos}{T id:String}{Q:Value->ae->Prop} (hl:typeLookup (.type T) "__getitem__"=pure (some (.builtin id)))(hs:N7 slice) (h:wpAny (model prog w) A (eval value env) (λo s₁=>wpAny (model prog w) A (eval slice env) (λi s₂=>s₂.TypeIs o T/\wpAny (model prog w) A (getItem o i) Q E s₂) E s₁) E s): wpAny (model prog w) A (eval (.Subscript value slice pos) env) Q E s:=by
 erw[Subscript_ (kI h (λo s₁ h₁=>kI h₁ (λi s₂ h₂=>?_) λ_ _ x=>x) λ_ _ x=>x)];let(hT,h₂):=h₂;unfold subscriptTail;erw[aW ?_];rw[getitemInPython_of_ne hT.not_modules];erw[aW (wpAny_specialOf hT hl ?_)];have fin:wpAny (model prog w) A (subscripted slice false o i) (λr s₃=>wpAny (model prog w) A (letTemporaryGo value o r>>=λ_=>pure r) Q E s₃) E s₂:=by rw[hs o i];erw[wpAny_operating (kI h₂ (λr s₃ h₃=>aW (wpAny_letTemporaryGo (cI h₃))) λ_ _ x=>x)]
 first |erw[cI (aW fin)] |erw[aW (cI (aW fin))] |erw[aW fin]
theorem abA{X:Cx}{ay:List (Addr×Obj)}{O:St}{H:Hp}{s:ae}{a:Addr}{y:V}{o:Option V}(I:Inv X ay O H s)(g:wL H a y o):s.TypeIs (.ref a) "dict":=by
 rcases g with⟨aU,k,e,_,_⟩|⟨aU,k,b,e,_,_,_⟩
 ·let(_,_,vs,_,dd):=MC I.bB e
  erw[dd.typeIs]
 ·let(_,_,xs,_,dd):=My I.bB e
  erw[dd.typeIs]
inductive adx(Q:VK)(x:V)(y:V)(H2:Hp):Prop |mk (a:_)(v:_)(h0:x= .ref a)(h1:wL H2 a y (some v))(h2:Q v H2)
def Ov(td ty:TE):TE:=λO H Q=>td O H λx H1=>ty O H1 λy H2=>adx Q x y H2
inductive aeL(D:Ends)(O:St)(v:V)(x:V)(y:V)(H3:Hp):Prop |mk (a:_)(H4:_)(h0:x= .ref a)(h1:rV H3 a y v H4)(h2:D.nx O H4)
def a0D(td ty tv:TE):TS:=λD O H=>tv O H λv H1=>td O H1 λx H2=>ty O H2 λy H3=>aeL D O v x y H3
section
variable {X:Cx}{o i e value:Expr}{pos pos' qc:Pos}{td ty tv:TE}
theorem a2t(hu:X.A.units+1<cLine)(ho:PE X o td)(hi:PE X i ty)(hs:N7 i):PE X (.Subscript o i pos) (Ov td ty):=by intro ay s O H Q I h;erw[ZT PySem.F.slot_dict_getitem.lookup hs (bw (ho ay s O H _ I h) λu s1 #[x,H1,I1,rx,q1]=>bw (hi ay s1 O H1 _ I1 q1) λiv s2 #[y,H2,I2,ry,a,v,ex,g,q2]=>?_)];subst ex;obtain rfl:u=Value.ref a:=rx;erw[abA I2 g,abF hu I2 g ry λw' s3 I3 jN=>#[v,H2,I3,jN,q2]]
theorem jQ(hu:X.A.units+1<cLine)(ho:PE X o td)(hi:PE X i ty)(hv:PE X value tv)(hs:swapsWith value (some (.Subscript o i pos')) pos.line X.env=pure false): PS X (.Assign [.Subscript o i pos'] value pos) (a0D td ty tv):=by intro ay s O H D I h;erw[wpAny_Assign_Subscript (bw (hv ay s O H _ I h) λr s1 #[v,H1,I1,rv,q1]=>bw (ho ay s1 O H1 _ I1 q1) λu s2 #[x,H2,I2,rx,q2]=>bw (hi ay s2 O H2 _ I2 q2) λiv s3 #[y,H3,I3,ry,a,H4,ex,g,q3]=>?_) hs];subst ex;obtain rfl:u=Value.ref a:=rx;erw[Ww hu I3 g ry rv λs4 I4=>#[O,H4,I4,q3]]
end
theorem abx{P:ah}{w:World}(h:Heap)(hb:sysModules<h.objs.size):gA P w H (h.push {cls:=.type "dict",data:=.dict #[]}) h.objs.size (.dK []):=#[gK _,Fs.mpr (dy (gq hb)),[],.nil,Heap.DictOf.new h]
section
variable {X:Cx} {pos:Pos}
end
def G5:List (TE×TE)->St->Hp->(List (V×V)->Hp->Prop)->Prop |[],_,H,Q=>Q [] H |(tk,tv)::r,O,H,Q=>tk O H λx H1=>tv O H1 λy H2=>G5 r O H2 λps H3=>Q ((x,y)::ps) H3
abbrev VV:List (V×V)->List (Value×Value)->Prop:=Paired λp q=>RelV p.1 q.1/\RelV p.2 q.2
def Ff(X:Cx)(pos:Pos)(keys:List (Option Expr))(values:List Expr)(pZ:List (TE×TE)):Prop:=∀(ay:List (Addr×Obj))(s:ae)(O:St)(H:Hp)(Q:List (V×V)->Hp->Prop),Inv X ay O H s->G5 pZ O H Q->wpAny (model X.prog X.w) X.A (evalPairs (pairTrees keys values X.env pos)) (λvs s'=>∃ps H',Inv X ay O H' s'/\VV ps vs/\Q ps H') X.xe s
theorem a25:Ff X pos [] [] []:=λay s O H Q I h=>pairTrees_nil_walk #[[],H,I,.nil,h]
theorem CY{k v:Expr}(hk:PE X k tk)(hv:PE X v tv)(hr:Ff X pos ks vs pZ): Ff X pos (some k::ks) (v::vs) ((tk,tv)::pZ):=λay s O H Q I h=>pairTrees_cons_walk (bw (hk ay s O H _ I h) λu s1 #[x,H1,I1,rx,q1]=>bw (hv ay s1 O H1 _ I1 q1) λw2 s2 #[y,H2,I2,ry,q2]=>bw (hr ay s2 O H2 _ I2 q2) λws s3 #[ps,H3,I3,rel,q3]=>#[(x,y)::ps,H3,I3,.cons #[rx,ry] rel,q3])
def tN(aU more:List (Key×V)):List (Key×V):=more.foldl (λacc kv=>putK acc kv.1 kv.2) aU
theorem KV.merge:∀{more:List (Key×V)}{rs:List (Key×Value)}{aU:List (Key×V)}{vs:List (Key×Value)},KV more rs->KV aU vs->KV (tN aU more) (merged vs rs):=by intro more rs aU vs r;unfold KV at r;induction r generalizing aU vs with |nil=>intro q;erw[q] |@cons p q ps qs h t ih=>
 intro r0;have e:KV (putK aU p.1 p.2) (stored vs q.1 q.2):=by have:=r0.put p.1 h.2;rw[<-h.1];erw[this]
 erw[ih e]
theorem U8:∀(more aU:List (Key×V)),(tN aU more).length<=aU.length+more.length |[],aU=>by show aU.length<=aU.length+0;lia |p::r,aU=>by have h1:=U8 r (putK aU p.1 p.2);have h2:=DB aU p.1 p.2;show(tN (putK aU p.1 p.2) r).length<=_;rw[lE];lia
theorem WU{P:ah}{w:World}:∀{aU:List (Key×V)}{ws:List (Value×Value)},VV (aU.map λkv=>(kV kv.1,kv.2)) ws->∃rs,Carries (ky P w) ws rs/\KV aU rs |[],_,r=>by rw[List.map_nil]at r;cases r;erw[[],True.intro,.nil] |p::aU,_,r=>by rw[pR]at r;cases r with |@cons a b as bs h t=>let(rs,c,q):=WU (P:=P) (w:=w) t;let(b1,b2):=b;erw[(p.1,b2)::rs,#[DG h.1,Z,c],.cons #[Z,h.2] q]
def Zx(pZ:List (TE×TE)):TE:=λO H Q=>∀p,H p=none->G5 pZ O (upd H p (.dK [])) λps H2=>H2 p=some (.dK [])/\∃aU:List (Key×V),ps=aU.map (λkv=>(kV kv.1,kv.2))/\aU.length<=15/\Q (.ref p) (upd H2 p (.dK (tN [] aU)))
theorem a2s(h:Ff X pos keys values pZ)(Lu:keys.all (·.isSome)=true)(hl:keys.length=values.length)(h0:keys≠[]) (Vg:keys.length<=15):PE X (.Dict keys values pos) (Zx pZ):=by
 intro ay s O H Q I q;have hn:=I.bB.fresh (ck s.heap.objs.size);have I1:=I.laid (a:=s.heap.objs.size) (o:=.dK []) (h':=s.heap.push {cls:=.type "dict",data:=.dict #[]}) (t':=s.toks) (λ_ _ q=>cW _ q) (ck _) (abx s.heap I.big);erw[wpAny_Dict_walk (knd:=ky X.prog X.w) Lu hl h0 Vg (bw (h ay _ O _ _ I1 (q _ hn)) λws s2 #[ps,H2,I2,rel,e,aU,ep,lk,q2]=>?_)];subst ep;let(rs,c,rk):=WU (P:=X.prog) (w:=X.w) rel;let(z,hd,vs0,r0,dd):=Wm I2.bB e;cases r0;erw[rs,c,dd,λh' pC hs=>#[.ref s.heap.objs.size,_,?_,Z,q2]];have hz:(tN [] aU).length<=sizeLine:=by have h1:=U8 aU [];rw[NJ]at h1;rw[sizeLine_eq];lia
 have he:∃q,h'.get? s.heap.objs.size=some q:=let#[q,_,_,hq,_]:=pC;#[q,hq];erw[MG I2 (by rw[e];erw[True.intro]) hs he (Wn hz hd (rk.merge .nil) pC)]
section
variable {X:Cx}{ay:List (Addr×Obj)}{O:St}{H:Hp}{s:ae}{a:Addr}{y d:V}{u r:Value}{o:Option V}{A:aj}{E:Value->ae->Prop}
end
section
variable {X:Cx}{o e f:Expr}{apos da:Pos}{td ty tx:TE}
end
section
variable {X:Cx}{ay:List (Addr×Obj)}{O:St}{H:Hp}{s:ae}{a:Addr}{aU:List (Key×V)}{A:aj}{E:Value->ae->Prop}
end
section
variable {X:Cx}{ay:List (Addr×Obj)}{O:St}{H:Hp}{s:ae}{a:Addr}{y:V}{u:Value}{A:aj}{E:Value->ae->Prop}
end
section
variable {X:Cx}
inductive aeR(o i v:V)(H:Hp)(Q:Hp->Prop):Prop |mk (a:Addr)(H':Hp)(h0:o= .ref a)(h1:rV H a i v H')(h2:Q H')
def a1L:F7:=λo i v H Q=>aeR o i v H Q
theorem set_dict(hu:X.A.units+1<cLine):N6 X a1L:=by intro ay s O H o i v ov iv u Q I ro ri rv h;let(a,H',rfl,g,q):=h;obtain rfl:ov=Value.ref a:=ro;erw[Ww hu I g ri rv λs' I'=>#[H',I',q]]
end
theorem a9a{K:aa}{mg:cw}{t:Tok}(X:K.In h)(G:h.Ns mainGlobals mg)(a:PySem.W.nsIn K mainGlobals x=some (some (.str z t))):GV mg x (.str z):=#[_,zk X G a,t,Z]
end _L
set_option exponentiation.threshold 6000
namespace _L
open PySem PySem.Spec PyProof.Rows
section
variable {X:Cx}
theorem ac7:gb X (.type "str") (λxs H Q=>(∃i,xs=[.int i]/\i.natAbs.log2<1920/\Q (.str (toString i)) H)\/∃z,xs=[.str z]/\Q (.str z) H):=by
 intro ay s O H xs us Q I r h;rcases h with⟨i,rfl,hz,q⟩|⟨z,rfl,q⟩
 ·let(u,rfl,t,rfl):=vals1 r
  erw[PySem.P.str_of_int hz #[.str _,H,I.tok _,#[_,Z],q]]
 ·let(u,rfl,t,rfl):=vals1 r
  erw[PySem.P.str_of_str #[.str _,H,I,#[_,Z],q]]
theorem YM{i:Int}(h:i.natAbs<10^40):(Str.ofString (toString i)).length<=41:=by rw[PySem.ofString_length];erw[int_text_length_le10 (k:=40) aD h]
theorem a5Q{i:Int}(h:i.natAbs<10^40):i.natAbs.log2<1920:=by
 by_cases h0:i.natAbs=0
 ·rw[h0];decide
 ·exact(Nat.log2_lt h0).mpr (NA h aD)
end
end _L
namespace _T
open _l
end _T
namespace _P
theorem Tz(a b:Rat):mn a b=mn b a:=Fu (ml (lN _ _) (ip _ _)) (ml (lN _ _) (ip _ _))
section
variable {n:Nat}{own JI:Nat->Rat}{L L':Nat->Option Nat}{r f:Int}
end
end _P
namespace _O
open _P _l _C _T
end _O
namespace _L
open PySem PySem.Spec PyProof.Rows
theorem abB(f:Array Value->Array Value)(o:Obj):(o.mapFields f).dict=o.dict:=by let(c,d,dt,sl):=o;cases dt<;>rfl
def TrD(h B:Heap)(ex:Addr)(cls:Value)(dx:Option Addr)(fl:Value):Prop:=∃ob fs tb ot ts,h.get? ex=some ob/\ob.cls=cls/\ob.dict=dx/\ob.data= .fields fs/\fs[1]? =some (.ref tb)/\B.get? tb=none/\tb≠ex/\h.get? tb=some ot/\ot.data= .fields ts/\ts[3]? =some fl
def lS(B:Heap)(l:List Env)(ex:Addr)(cls:Value)(dx:Option Addr)(fl:Value)(h:Heap):Prop:=B.StaysIn h/\B.get? ex=none/\h.FunFrames B l/\TrD h B ex cls dx fl
theorem lS.there{cls fl:Value}(x:lS B l ex cls dx fl h):∃ob,h.get? ex=some ob/\ob.cls=cls/\ob.dict=dx/\∃fs,ob.data= .fields fs:=by let(_,_,_,ob,fs,_,_,_,e,c,d,z,_):=x;erw[ob,e,c,d,fs,z]
section
variable {M:Model}{A:aj}{E:Value->ae->Prop}{s:ae}{B:Heap}{env:Env}{outer:List Env}{L ex:Addr}{ob:Obj}{fs:Array Value}{head:Value}{nx:Bool}{Q:Unit->ae->Prop}{cls fl:Value}{dx:Option Addr}
theorem VY(hA:A.frames=some (env::outer))(ff:s.heap.FunFrames B (env::outer))(hL:env.frame=some L)(ho:s.heap.get? ex=some ob)(st:B.StaysIn s.heap)(hB:B.get? ex=none)(hd:ob.data= .fields fs)(hz:1<fs.size) (q:∀h',lS B (env::outer) ex ob.cls ob.dict (rawInt L) h'->s.heap.UpToSlots h'->Q () {s with heap:=h'}): wpAny M A (do let a<-frameOf env;let pl<-entryPlaceOf L nx;let b<-EntryCells.newEntry head a .none (rawInt L) .none pl;setField (.ref ex) 1 b) Q E s:=by
 have tK:ex∉(env::outer).filterMap (·.frame):=λhm=>by let(_,o,e1,nf):=ff.mem hm;rw[ho]at e1;cases e1;erw[nf fs hd]
 erw[aW (wpAny_frameOf_fun hA ff hL λg1 k1=>aW (wpAny_entryPlaceOf λpl hp=>?_))];unfold EntryCells.newEntry newFields;erw[aW (rW ?_ (hp.sizeOk5 _ _ _ _ _))];have o1:g1.get? ex=some ob:=(k1.2.1 ex tK).trans ho;have Cg:B.StaysIn g1:=λb o e=>(k1.2.1 b λhm=>by rw[(ff.mem hm).1]at e;cases e).trans (st b o e);generalize hT:({cls:=.type "traceback",dict:=none,data:=.fields ([head,.ref L,.none,rawInt L,.none]++(if pl.isEmpty then List.replicate 6 Value.none else pl)).toArray}:Obj)=T;have o2:(g1.push T).get? ex=some ob:=cW T o1;erw[Fi o2 hd hz (q _ ?_ ?_)];all_goals have ne:g1.objs.size≠ex:=Fx (cY o1)
 all_goals have keep:∀b o,b≠ex->g1.get? b=some o->((g1.push T).update ex (Obj.mapFields (·.setIfInBounds 1 (Value.ref g1.objs.size)))).get? b=some o:=λb o nb e=>by rw[BM _ _ (dy nb)];erw[cW _ e]
 all_goals have tI:∀b o,s.heap.get? b=some o->(∀vs,o.data≠ .fields vs)->b≠ex:=λb o e nf z=>by rw[z,ho]at e;cases e;erw[nf fs hd]
 ·have d3:=Fw hd (·.setIfInBounds 1 (Value.ref g1.objs.size))
  have o3:=NR (Obj.mapFields (·.setIfInBounds 1 (Value.ref g1.objs.size))) o2 (Y1 d3);erw[λb o e=>keep b o (λz=>by rw[z,hB]at e;cases e) (Cg b o e),hB,ff.of_keeps λb o e nf=>?_,?_]
  ·let(sl,e1):=k1.2.2 b o e
   erw[_,keep b _ (tI b o e nf) e1,Z]
  ·erw[_,_,g1.objs.size,T,_,o3,Obj.cls_mapFields _ _,abB _ _,d3,by simp[hz],Cg.fresh,ne,?_,by rw[<-hT],?_]
   ·rw[BM _ _ (dy ne)];erw[fO g1 (by rw[<-hT];rfl)]
   ·first|(simp;done)|(rcases hp with rfl|⟨_,_,_,_,_,_,_,rfl⟩<;>simp)
 ·intro b o e nf
  let(sl,e1):=k1.2.2 b o e;erw[sl,keep b _ (tI b o e nf) e1]
theorem a4D(hA:A.frames=some (env::outer))(ff:s.heap.FunFrames B (env::outer))(hL:env.frame=some L)(ho:s.heap.get? ex=some ob)(st:B.StaysIn s.heap)(hB:B.get? ex=none)(hd:ob.data= .fields fs)(h1:fs[1]? =some .none) (q:∀h',lS B (env::outer) ex ob.cls ob.dict (rawInt L) h'->s.heap.UpToSlots h'->Q () {s with heap:=h'}):wpAny M A (noteFrame (.ref ex) env) Q E s:=by unfold noteFrame;simp only[hL];erw[aW (kg ho hd h1 ?_)];rw[bI aD];erw[VY hA ff hL ho st hB hd (NT.mp h1).1 q]
theorem SY(hA:A.frames=some (env::outer))(hL:env.frame=some L)(x:lS B (env::outer) ex cls dx .none s.heap) (q:∀h',lS B (env::outer) ex cls dx (rawInt L) h'->s.heap.UpToSlots h'->Q () {s with heap:=h'}):wpAny M A (noteFrame (.ref ex) env) Q E s:=by
 let(st,hB,ff,ob,fs,tb,ot,ts,ho,rfl,rfl,hd,h1,Ei,nt,ht,tX,h3):=x;unfold noteFrame;simp only[hL];erw[aW (kg ho hd h1 ?_)];rw[bE (show(Value.ref tb !=Value.none)=true from by simp)];erw[aW (kg ht tX h3 ?_)];rw[bI (show¬((Value.none==rawInt L)=true)from by simp[rawInt])];erw[aW (Fi ht tX (NT.mp h3).1 ?_)];have other:∀b,b≠tb->(s.heap.update tb (Obj.mapFields (·.setIfInBounds 3 Value.none))).get? b=s.heap.get? b:=λb nb=>BM _ _ (dy nb);have tI:∀b o,s.heap.get? b=some o->(∀vs,o.data≠ .fields vs)->b≠tb:=λb o e nf z=>by rw[z,ht]at e;cases e;erw[nf ts tX]
 erw[VY (s:={s with heap:=s.heap.update tb (Obj.mapFields (·.setIfInBounds 3 Value.none))}) hA (ff.of_keeps λb o e nf=>#[o,(other b (tI b o e nf)).trans e,Z]) hL ((other ex (dy nt)).trans ho) (λb o e=>(other b λz=>by rw[z,Ei]at e;cases e).trans (st b o e)) hB hd (NT.mp h1).1 λh' y up=>q h' y λb o e nf=>up b o ((other b (tI b o e nf)).trans e) nf]
theorem Eu(x:lS B l ex cls dx fl s.heap)(q:∀h',lS B l ex cls dx .none h'->s.heap.UpToSlots h'->Q () {s with heap:=h'}):wpAny M A (setFlight (.ref ex) none) Q E s:=by
 let(st,hB,ff,ob,fs,tb,ot,ts,ho,hc,hx,hd,h1,Ei,nt,ht,tX,h3):=x;have z3:3<ts.size:=(NT.mp h3).1;have other:∀b,b≠tb->(s.heap.update tb (Obj.mapFields (·.setIfInBounds 3 ((none:Option Addr).elim Value.none λf=>rawInt f)))).get? b=s.heap.get? b:=λb nb=>BM _ _ (dy nb);have tI:∀b o,s.heap.get? b=some o->(∀vs,o.data≠ .fields vs)->b≠tb:=λb o e nf z=>by rw[z,ht]at e;cases e;erw[nf ts tX]
 unfold setFlight;erw[aW (kg ho hd h1 ?_)];rw[bE (show(Value.ref tb !=Value.none)=true from by simp)];erw[Fi ht tX z3 (q _ #[λb o e=>(other b λz=>by rw[z,Ei]at e;cases e).trans (st b o e),hB,ff.of_keeps λb o e nf=>#[o,(other b (tI b o e nf)).trans e,rfl],?_] λb o e nf=>#[o.slots,(other b (tI b o e nf)).trans e])];erw[ob,fs,tb,_,_,(other ex (dy nt)).trans ho,hc,hx,hd,h1,Ei,nt,NR _ ht (Y1 (Fw tX _)),Fw tX _,by simp[z3]]
theorem a5Y(hA:A.frames=some (env::outer))(ff:s.heap.FunFrames B (env::outer))(hL:env.frame=some L)(ho:s.heap.get? ex=some ob)(st:B.StaysIn s.heap)(hB:B.get? ex=none)(hd:ob.data= .fields fs)(h1:fs[1]? =some .none) (q:∀h',lS B outer ex ob.cls ob.dict .none h'->s.heap.UpToSlots h'->Q () {s with heap:=h'}):wpAny M A (leaving env (.ref ex)) Q E s:=by unfold leaving;erw[aW (a4D hA ff hL ho st hB hd h1 λh1 x1 u1=>Eu x1 λh2 x2 u2=>q h2 ?_ (u1.trans u2))];let(a,b,(_,_,c),d):=x2;erw[a,b,c,d]
theorem a5X(hA:A.frames=some (env::outer))(hL:env.frame=some L)(x:lS B (env::outer) ex cls dx .none s.heap) (q:∀h',lS B outer ex cls dx .none h'->s.heap.UpToSlots h'->Q () {s with heap:=h'}):wpAny M A (leaving env (.ref ex)) Q E s:=by unfold leaving;erw[aW (SY hA hL x λh1 x1 u1=>Eu x1 λh2 x2 u2=>q h2 ?_ (u1.trans u2))];let(a,b,(_,_,c),d):=x2;erw[a,b,c,d]
end
end _L
namespace _L
open PySem PySem.Spec PyProof.Rows
open Builtin Builtin.ObjectAttr
section
variable {prog:ah}{w:World}{A:aj}{E:Value->ae->Prop}{s:ae}{K:aa}{x C:Addr}{ox:Obj}{fs:Array Value}{name:Str}{v:Value}{Q:Unit->ae->Prop}
end
end _L
namespace _L
open PySem PySem.Spec PyProof.Rows
section
variable {X:Cx}{o e value:Expr}{f:Str}{pos pos' qc:Pos}{ta tv:TE}
end
section
variable {prog:ah}{w:World}{A:aj}{E:Value->ae->Prop}{h:Heap}{g:Array GenState}{d:Drawn}{t:Nat}{os:OsState}
variable {nm q:Str}{C N fI:Addr}{bs bm o9:List Value}{hdct:Bool}{sn:List Str}{sub:List Value}{ab:Bool}{col:Option Bool}{dd:Option Addr}{k0 k1 k2 k3 k5:Option Value}{B newId Ky:String}{mN:cw}{rest:List Value}{oI:Obj}
end
section
variable {M:Model}{A:aj}{E:Value->ae->Prop}{env:Env}{nm q:Str}{C N:Addr}{bs bm:List Value}{hdct:Bool}{sn:List Str}{sub:List Value}{ab:Bool}{col:Option Bool}{dd:Option Addr}{k0 k1 k2 k3 k5:Option Value}{newId:String}
end
def jI(P:ah)(w:World):lD:=λouter H s E e s'=>∃(ex:Addr)(cls:Value)(dx:Option Addr)(H':Hp)(B:Heap),e= .ref ex/\s'.os=s.os/\AllBare s'.gens/\lS B outer ex cls dx .none s'.heap/\Fl P w outer H s.heap ex H' B s'.heap/\E cls dx H'
section
variable {P:ah}{w:World}{K:aa}{mg:cw}{aB:Heap}{N:List Str}{qual:Str}{scope:Scope}{f:Addr}{cd:Value}{A:aj}{outer:List Env}{s:ae}{H:Hp}{E:XK}{ay:List (Addr×Obj)}{O:St}{H1:Hp}{s1:ae}{ex:Addr}{C:Addr}{dx:Addr}
end
section
variable {X:Cx}{x:Str}{C fI:Addr}{o9:List Value}{newId Ky B:String}{e:Expr}{t:TA}{np da pos:Pos}{k:Nat}{fd:FuncData}{ps:List Str}{sp:Sp}
end
def pL(ex:Addr)(cls:Value)(dx:Option Addr)(h:Heap):Prop:=∃o,h.get? ex=some o/\o.cls=cls/\o.dict=dx/\∃fs,o.data= .fields fs
def ClsAt(K:aa)(C:Addr):Prop:=∀h,K.In h->∃nm q N bs tl hdct sn sub ab col dd k0 k1 k2 k3 k5 newId,h.get? C=some (excClassObj nm q C N bs tl hdct sn sub ab col dd k0 k1 k2 k3 k5 newId)
theorem Exc.cls{K:aa}{mg:cw}(e:Exc K mg x C o9 newId):ClsAt K C:=λh X=>by let(tl,N,nm,q,bs,hdct,sn,sub,ab,col,dd,k0,k1,k2,k3,k5,mN,hC,_):=(e.own X).obj;erw[nm,q,N,bs,tl,hdct,sn,sub,ab,col,dd,k0,k1,k2,k3,k5,newId,hC]
inductive adp(i:Nat)(Cs:Addr->Prop)(tb:XK->TS)(th:TS)(D:Ends)(O:St)(H:Hp):Prop |mk (E:XK)(h0:tb E D O H)(h1:(∀cls dx H',E cls dx H'->∃C,cls= .ref C/\Cs C))(h2:∀(C ex:Addr)(dx:Option Addr)(σ':St)(H':Hp),σ'.length=O.length->E (.ref C) dx H'->H' ex=none->th {nx:=λσ2 H2=>D.nx (σ2.set i none) H2,rt:=D.rt,bk:=λσ2 H2=>D.bk (σ2.set i none) H2,ct:=λσ2 H2=>D.ct (σ2.set i none) H2} (σ'.set i (some (.ref ex))) (upd H' ex (.ext (pL ex (.ref C) dx))))
def Ze(i:Nat)(Cs:Addr->Prop)(tb:XK->TS)(th:TS):TS:=λD O H=>adp i Cs tb th D O H
section
variable {X:Cx}{i:Nat}{n y:Str}{Dc:Addr}{MP:List Value}{newD:String}{body Cd:List Stmt}{b0:Stmt}{np vK pos:Pos}{tb:XK->TS}{th:TS}{Cs:Addr->Prop}
theorem a22(iQ:X.stack=X.env::X.outer)(hfr:X.env.frame=some X.env.locals)(hN:X.N.Nodup)(hi:X.N[i]? =some n)(hk:X.env.kindOf n=some .local)(hs:X.env.scope.names.lookup n=some .local) (hb:∀(E:XK)(xe:Value->ae->Prop),Passes (jI X.prog X.w) (X.jL xe) E->iU (X.jL xe) body (tb E)) (hg:Gl X y)(hy:Exc X.K X.mg y Dc MP newD)(Lr:MP.contains (.type "BaseException")=true)(LS:∀C,Cs C->ClsAt X.K C/\takes X.K C Dc) (hh:∀ex,iU (X.hand ex) (b0::Cd) th)(jW:autoParam ((y==("__debug__":Str))=false) q8_._auto_1): Xy X (.Try body [.ExceptHandler (some (.Name y np)) (some n) (b0::Cd) vK] [] [] pos) (Ze i Cs tb th):=by
 intro s O H D I h;let(E,hq,mX,hth):=h;erw[wpAny_Try_except ?_];have ps:Passes (jI X.prog X.w) (X.jL λe s₁=>wpAny (model X.prog X.w) X.A (noteFrame e X.env) (λ_ s₂=>wpAny (model X.prog X.w) X.A (setFlight e none) (λ_ s₃=>wpAny (model X.prog X.w) X.A (handleBy e X.env [.ExceptHandler (some (.Name y np)) (some n) (b0::Cd) vK]) (SP X [] D) X.xe s₃) X.xe s₂) X.xe s₁) E:=by
  intro Jy σ' H1 s1 ev s2 I1 hx;let(ex,cls,dx,H',B,rfl,ho,UT,qW,F,hE):=hx;let(C,rfl,hC):=mX cls dx H' hE;have I0:Inv X [] σ' H1 s1:=I1.ou.acB;let(DT,g2,d2,t2,o2):=s2;have a9D:lS B (X.env::X.outer) ex (.ref C) dx .none DT:=by rw[<-iQ];erw[qW]
  have hA:X.A.frames=some (X.env::X.outer):=by rw[<-iQ];erw[I0.ok.frames]
  erw[SY (s:=#[DT,g2,d2,t2,o2]) hA hfr a9D λh4 E7 YG=>?_];erw[Eu E7 λh5 AU YF=>?_];have F4:=F.step qW.1 E7.1 YG qW.2.2.1;have ff4:h4.FunFrames B X.stack:=by rw[iQ];erw[E7.2.2.1]
  have F5:=F4.step E7.1 AU.1 YF ff4;have ff5:h5.FunFrames B X.stack:=by rw[iQ];erw[AU.2.2.1]
  have I5:Inv X [] σ' H' #[h5,g2,d2,t2,o2]:=I0.ER (s':=#[h5,g2,d2,t2,o2]) ho F5.un F5.bB UT (λb hb=>(cD hb).elim);erw[wpAny_handleBy_cons (codeAny_handlers_test (yg (X:=X.hand ex) (I5.hand ex) hg hy.at' ?_ jW)) (by intro q;cases q)];let(eC,tk):=LS C hC;let(nm,q,Nn,bs,tl,hdct,sn,sub,ab,col,dd,k0,k1,k2,k3,k5,nw,oC):=eC _ I5.iq;let(tl',Nn',Td,q',X1,UY,Pm,OB,Xn,WJ,pC,j0,j1,j2,j3,j5,mN',oD,agZ,agH,TL'):=(hy.own I5.iq).obj;let(ob,hob,a7o,_):=AU.there;have KI:(Value.ref C::tl).contains (.ref Dc)=true:=by
   let(cd,ha,lP):=Option.bind_eq_some_iff.mp tk;split at lP
   ·cases lP
   ·have hc:=fe lP
    unfold PySem.W.clsIn at ha;split at ha
    ·rename_i c1 c2 cd' c4 hl
     cases ha;have e1:=I5.iq _ _ hl;rw[show(Shared.heap #[h5,g2,d2,t2,o2]).get? C=some _ from oC]at e1;have e2:=fe e1;unfold excClassObj at e2;injection e2 with _ _ e3 _;injection e3 with e4;rw[<-e4]at hc;erw[hc]
    ·cases ha
  erw[aaR oC oD hob a7o (TL'.hasType Lr) KI ?_];erw[codeAny_handlers_suite_as ?_];erw[Eu (s:=#[h5,g2,d2,t2,o2]) AU λh6 Vy YE=>?_];have F6:=F5.step AU.1 Vy.1 YE ff5;have YK:Un (dJ X.stack) [] H1 (upd H' ex (.ext (pL ex (.ref C) dx))) s1.heap h6:=by
   have nb:∀b u,H' b=some u->b≠ex:=λb u e z=>by rw[z,F6.ne]at e;cases e
   erw[F6.un.keep,F6.un.slot,λb o e n hx=>?_,F6.un.there,λb xs e=>?_,λb o u e=>?_,λb ps e=>?_]
   ·rw[aR (λz=>by rw[z,F6.nw]at e;cases e)];erw[F6.un.free b o e n hx]
   ·have:=F6.un.lG b xs e;rw[aR (nb b _ this)];erw[this]
   ·have:=F6.un.kY b o u e;rw[aR (nb b _ this)];erw[this]
   ·let(more,e1):=F6.un.kL b ps e;erw[more,by rw[aR (nb b _ e1)];erw[e1]]
  have a7m:fb X.prog X.w (upd H' ex (.ext (pL ex (.ref C) dx))) h6:=λb u e=>by
   by_cases V1:b=ex
   ·subst V1
    rw[bo]at e;cases e;let(o6,e6,c6):=Vy.there;erw[#[o6,e6,c6],#[o6,e6],λg1 g3 #[o7,e7,c7] k=>#[o7,k o7 e7,c7]]
   ·rw[aR V1]at e
    refine(F6.bB b u e).ny (λc v hc q=>q) (λc q=>?_) λc xs q=>?_
    ·rw[aR (λz=>by rw[z,F6.ne]at q;cases q)];erw[q]
    ·rw[aR (λz=>by rw[z,F6.ne]at q;cases q)];erw[q]
  have I6:Inv X [] σ' (upd H' ex (.ext (pL ex (.ref C) dx))) #[h6,g2,d2,t2,o2]:=I0.ER (s':=#[h6,g2,d2,t2,o2]) ho YK a7m UT (λb hb=>(cD hb).elim);erw[xl (X:=X.hand ex) (I6.hand ex) hN hi (.inl hs) (v:=.ref ex) Z (λs7 I7=>?_) (.inr hs)];erw[kI (hh ex [] s7 _ _ _ I7 (hth C ex dx σ' H' (I0.len.trans I.len.symm) hE F.ne)) (λf s8 q=>?_) λe s8 q=>False.elim q];have un:∀(σ2:St)(H2:Hp)(Q:Unit->ae->Prop),Inv (X.hand ex) [] σ2 H2 s8->(∀s9,Inv X [] (σ2.set i none) H2 s9->Q () s9)->wpAny (model X.prog X.w) X.A (do bindName X.env n .none;unbindBehindTheSuite X.env n vK) Q X.xe s8:=λσ2 H2 Q I8 hq=>by
   have XF:=I8.back I0.ok;have cK:i<σ2.length:=by rw[XF.len];exact(eQ.mp hi).1
   unfold bindName;erw[aW (aW (wO (wpAny_point (aW (xl XF hN hi (.inl hs) (v:=.bF) Z (λs9 I9=>wpAny_point ?_) (.inr hs))))))];erw[YI I9 hN hi hk hs (v:=.bF) (BH cK) λoF zd=>hq oF ?_];rw[NG]at zd;erw[zd]
  cases f with |next=>let(σ2,H2,I8,dq):=q;erw[un σ2 H2 _ I8 λs9 I9=>#[_,H2,I9,dq]] |brk=>let(σ2,H2,I8,dq):=q;erw[un σ2 H2 _ I8 λs9 I9=>#[_,H2,I9,dq]] |cont=>let(σ2,H2,I8,dq):=q;erw[un σ2 H2 _ I8 λs9 I9=>#[_,H2,I9,dq]] |ret u=>let(v,σ2,H2,I8,r8,dq):=q;erw[un σ2 H2 _ I8 λs9 I9=>#[v,_,H2,I9,r8,dq]]
 erw[kI (hb E _ ps [] s O H D (I.jL _) hq) (λf s1 q=>?_) λe s1 q=>q];have q':=q.ou;cases f with |next=>erw[Bz q'] |brk=>erw[q'] |cont=>erw[q'] |ret u=>erw[q']
end
end _L
namespace _L
open PySem PySem.Spec PyProof.Rows PySem.W
section
variable {prog:ah}{w:World}{A:aj}{E:Value->ae->Prop}{h:Heap}{g:Array GenState}{d:Drawn}{t:Nat}{os:OsState}{K:Frag}{x C:Addr}{ox:Obj}{od:Obj}{f:Str}{v:Value}
end
section
variable {X:Cx}{e:Expr}{f:Str}{pos:Pos}{ta:TE}
inductive af1(K:Frag)(xs:List V)(H:Hp)(Q:VK):Prop |mk (ex:Addr)(C:Addr)(dx:Option Addr)(c:V)(cv:Value)(b:Bool)(h0:xs=[.ref ex,c])(h1:H ex=some (.ext (pL ex (.ref C) dx)))(h2:pK K C)(h3:ac3 c=some cv)(h4:kitOne K (.ref C) cv=some b)(h5:Q (.bl b) H)
def a1P(K:Frag):List V->Hp->VK->Prop:=λxs H Q=>af1 K xs H Q
inductive af0(K:Frag)(xs:List V)(H:Hp)(Q:VK):Prop |mk (ex:Addr)(C:Addr)(p:Addr)(dx:Option Addr)(Ds:List Addr)(b:Bool)(h0:xs=[.ref ex,.ref p])(h1:H ex=some (.ext (pL ex (.ref C) dx)))(h2:pK K C)(h3:H p=some (.tup (Ds.map V.ref)))(h4:kitAny K (.ref C) (Ds.map Value.ref)=some b)(h5:Q (.bl b) H)
def a1O(K:Frag):List V->Hp->VK->Prop:=λxs H Q=>af0 K xs H Q
theorem vz(K:Frag)(hK:X.K=K):gb X (.builtin "isinstance") (λxs H Q=>a1P K xs H Q\/a1O K xs H Q):=by
 subst hK;intro ay s O H xs us Q I r h;rcases h with⟨ex,C,dx,c,cv,b,rfl,he,k,hc,kb,q⟩|⟨ex,C,p,dx,Ds,b,rfl,he,k,hp,kb,q⟩
 ·let(u,v,rfl,rx,rc):=vals2 r
  cases(show u=Value.ref ex from rx);have hv:v=cv:=by cases c with |ref D=>cases(show v=Value.ref D from rc);erw[fe hc] |ty n=>cases(show v=Value.type n from rc);erw[fe hc] |_=>cases hc
  subst hv;let(o,o1,o2,_):=(I.bB ex _ he).1;erw[kia_one (Ui k) I.iq #[o,o1,o2] kb (λz=>nomatch z) λtk=>#[.bl b,H,I.tok _,rfl,q]]
 ·let(u,v,rfl,rx,rc):=vals2 r
  cases(show u=Value.ref ex from rx);cases(show v=Value.ref p from rc);let(o,o1,o2,_):=(I.bB ex _ he).1;let(_,its,rv,(cls,dd,dt,sl),h1,h2,n,h3):=(show gA X.prog X.w H s.heap p (.tup (Ds.map V.ref))from I.bB p _ hp);simp only at h2 h3;subst h2 h3;have e:=NZ rv;subst e;erw[kia_tup (Ui k) I.iq #[o,o1,o2] h1 kb (λz=>nomatch z) λtk=>#[.bl b,H,I.tok _,rfl,q]]
end
end _L
namespace _L
open PySem PySem.Spec PyProof.Rows
section
variable {X:Cx}{k:Nat}{x:Str}{p pos:Pos}{e:Expr}{es:List Expr}{t:TA}{sp:Sp}
end
section
variable {P:ah}{w:World}{K:aa}{mg:cw}{aB:Heap}{N:List Str}{qual:Str}{scope:Scope}{f:Addr}{cd:Value}{A:aj}{outer:List Env}{s:ae}{H:Hp}{E E0:XK}
end
end _L
namespace _L
open PySem PySem.Spec PyProof.Rows
open Builtin Builtin.ObjectAttr
section
variable {prog:ah}{w:World}{A:aj}{E:Value->ae->Prop}{s:ae}{K:aa}{x C dx:Addr}{ox:Obj}{fs:Array Value}{name:Str}{v:Value}{Q:Unit->ae->Prop}{mA:cw}{ks:List Str}
end
section
variable {X:Cx}{o e value:Expr}{f:Str}{pos pos' qc:Pos}{ta tv:TE}
end
end _L
namespace _L
open PySem PySem.Spec PyProof.Rows
def rP(P:ah)(w:World)(K:aa)(mg:cw)(aB:Heap)(C:Addr)(m:Str)(k:Nat)(sp:Sp):Prop:=∃f fd ps,jG P w K mg aB (jI P w) k f fd ps sp/\Meth K C m f/\Binds K fd ps []
section
variable {P:ah}{w:World}{K:aa}{mg:cw}{aB:Heap}
theorem lB.okD{m qual:Str}{st:Stmt}{f:Addr}{fd:FuncData}{N ps:List Str}{k:Nat}{sp:Sp}(F:lB K m qual st f fd)(S:bN N ps (bj st))(len:∀vs H Q E,sp vs H Q E->vs.length=ps.length) (ji:∀(aQ:Value)(A:aj)(outer:List Env)(s:ae)(H:Hp)(vs:List V)(Q:VK)(E:XK),dh k (A.deeper (envOfC qual (bj st) s.heap.objs.size f aQ))->sp vs H Q E->∃t,iU (jE (jI P w) P w K mg aB N qual (bj st) f aQ A outer s H E) (iz st) t/\t (eZ9 Q) (start N vs) H):jG P w K mg aB (jI P w) (k+1) f fd ps sp:=by let(oc,od,kV,doc,pm,an,aQ,ct,gW,rfl,lk,iR):=F.ex;erw[M1 lk iR S len λA outer s H vs Q E hr jT=>ji aQ A outer s H vs Q E hr jT]
theorem MA.Ls{C:Addr}{m qual:Str}{st:Stmt}{N ps:List Str}{k:Nat}{sp:Sp}(F:MA K C m qual st)(S:bN N ps (bj st))(len:∀vs H Q E,sp vs H Q E->vs.length=ps.length) (hb:∀(kV doc pm:Value)(an:Option Addr)(aQ ct:Value)(us:List Value),us.length=ps.length->bindArgs (PySem.W.fnOf m qual (lb st) (iz st) (bj st) .none kV doc pm an aQ ct) #[us,[]]=pure (ps.zip us)) (ji:∀(f:Addr)(aQ:Value)(A:aj)(outer:List Env)(s:ae)(H:Hp)(vs:List V)(Q:VK)(E:XK),dh k (A.deeper (envOfC qual (bj st) s.heap.objs.size f aQ))->sp vs H Q E->∃t,iU (jE (jI P w) P w K mg aB N qual (bj st) f aQ A outer s H E) (iz st) t/\t (eZ9 Q) (start N vs) H):rP P w K mg aB C m (k+1) sp:=by let(f,fd,hm,F):=F.ex;erw[f,fd,ps,F.okD S len λaQ A outer s H vs Q E=>ji f aQ A outer s H vs Q E,hm,F.binds hb]
end
section
variable {X:Cx}{k:Nat}{x m:Str}{C:Addr}{p pos apos:Pos}{o e:Expr}{es:List Expr}{t:TA}{ta:TE}{sp:Sp}{E:XK}
inductive XB(C:Addr)(m:Str)(sp:Sp)(E:XK)(t:TA)(O:St)(Q:VK)(x:V)(H1:Hp):Prop |mk (a:Addr)(dx:Addr)(fs:List (Str×V))(h0:x= .ref a)(h1:H1 a=some (.ins C dx fs))(h2:fs.lookup m=none)(h3:t O H1 λvs H2=>sp (x::vs) H2 Q E)
def sL(C:Addr)(m:Str)(sp:Sp)(E:XK)(ta:TE)(t:TA):TE:=λO H Q=>ta O H λx H1=>XB C m sp E t O Q x H1
theorem Tx{O:St}{Q:VK}{x:V}{H1:Hp}:wK C m sp [] E t O Q x H1=XB C m sp E t O Q x H1:=by
 have e1:(λ(vs:List V) H1=>sp (x::(vs++[])) H1 Q E)=λvs H1=>sp (x::vs) H1 Q E:=by funext vs H1;rw[FH]
 erw[propext #[λ#[a,dx,fs,h0,h1,h2,h3]=>#[a,dx,fs,h0,h1,h2,?_],λ#[a,dx,fs,h0,h1,h2,h3]=>#[a,dx,fs,h0,h1,h2,?_]]]
 ·rw[<-e1];erw[h3]
 ·rw[e1];erw[h3]
theorem Sh{pl:Sem Bool}(F:rP X.prog X.w X.K X.mg X.aB C m k sp)(hp:Passes (jI X.prog X.w) X E)(c:kH X.K C)(hr:dh k X.A)(he:PE X o ta)(ha:PA X (e::es) t) (iQ:autoParam (starEach (e::es) X.env=(false,eval e X.env)::starEach es X.env) r8_._auto_1)(gY:autoParam ((backTo pos (starEach es X.env)).any (·.1)=false) r8_._auto_1) (ht:eval (.Call (.Attribute o m apos) (e::es) [] pos) X.env=(do
 let ov<-eval o X.env
 standAt apos.atName
 let(f,first)<-holding [ov] (getMethod ov m pl)
 callWith pos f first (backTo pos (starEach (e::es) X.env)) (backToKw pos (keywordEach [] X.env))):=by rfl): PE X (.Call (.Attribute o m apos) (e::es) [] pos) (sL C m sp E ta t):=by
 let(f,fd,ps,F,hm,hb):=F;have h:=Sk (pos:=pos) (apos:=apos) (pl:=pl) he c hm F hr hb .nil hp ha iQ gY ht;intro ay s O H Q I hq;erw[h ay s O H Q I ?_];show ta O H λx H1=>wK C m sp [] E t O Q x H1;simp only[Tx];erw[hq]
theorem a2o{pl:Sem Bool}(F:rP X.prog X.w X.K X.mg X.aB C m k sp)(hp:Passes (jI X.prog X.w) X E)(c:kH X.K C)(hr:dh k X.A)(he:PE X o ta) (ht:eval (.Call (.Attribute o m apos) [] [] pos) X.env=(do
 let ov<-eval o X.env
 standAt apos.atName
 let(f,first)<-holding [ov] (getMethod ov m pl)
 callWith pos f first (backTo pos (starEach [] X.env)) (backToKw pos (keywordEach [] X.env))):=by rfl): PE X (.Call (.Attribute o m apos) [] [] pos) (sL C m sp E ta jM):=by
 let(f,fd,ps,F,hm,hb):=F;have h:=Sj (pos:=pos) (apos:=apos) (pl:=pl) he c hm F hr hb .nil hp ht;intro ay s O H Q I hq;erw[h ay s O H Q I ?_];show ta O H λx H1=>wK C m sp [] E jM O Q x H1;simp only[Tx];erw[hq]
end
end _L
namespace _L
open PySem PySem.Spec PyProof.Rows SeqAt
section
variable {X:Cx}{k:Nat}{x:Str}{p pos:Pos}{e:Expr}{es:List Expr}{t:TA}{sp:Sp}{E:XK}
end
section
variable {X:Cx}
theorem FO:∀{bs:List Bool}{us:List Value},Vals (bs.map V.bl) us->us=bs.map Value.bool |[],_,.nil=>rfl |b::bs,_,.cons q r=>by cases(show _=Value.bool b from q);rw[FO r];rfl
def vB:Value->Bool | .bool b=>b |_=>false
theorem VW{bs:List Bool}(A:aj)(s:ae):∀y,y∈(bs.map Value.bool).toArray->EqAt A s y (.bool true) (vB y):=λy hy=>by let(b,_,rfl):=kh.mp (List.mem_toArray.mp hy);have:=EqAt.bool_bool (A:=A) (s:=s) b true;cases b<;>erw[this]
theorem abO(bs:List Bool):(bs.map Value.bool).countP vB=bs.count true:=by induction bs with |nil=>rfl |cons b r ih=>cases b<;>simp[List.countP_cons,vB,ih,List.count_cons]
inductive XE(K:aa)(x:V)(vs:List V)(H:Hp)(Q:VK):Prop |mk (l:Addr)(bs:List Bool)(h0:x= .ref l)(h1:vs=[.bl true])(h2:aK K H l (bs.map V.bl))(h3:Q (.int (bs.count true:Nat)) H)
theorem a57(K:aa)(hK:X.K=K):Bn X "list.count" (λx vs H Q=>XE K x vs H Q):=by subst hK;intro ay s O H x vs v us Q I rx rv h;let(l,bs,rfl,rfl,hl,q):=h;cases rx;let(u,rfl,ru):=vals1 rv;cases(show u=Value.bool true from ru);let(its,r,pl,_):=I.list hl;rw[FO r]at pl;let((cls,dd,data,sl),ho,hc,n,hd):=id pl.isList;simp only at hc hd;subst hc hd;erw[zi PySem.F.slot_list_count #[_,ho,Z] PySem.F.entry_list_count (PySem.F.args_list_count_2 _ _) (list_countAt l _ n dd sl (.bool true) vB) #[ho,VW _ _,?_]];rw[show(bs.map Value.bool).toArray.toList=bs.map Value.bool from Z,abO];erw[.int _,H,I.tok _,#[_,Z],q]
inductive XD(K:aa)(x:V)(vs:List V)(H:Hp)(Q:VK):Prop |mk (l:Addr)(bs:List Bool)(j:Nat)(h0:x= .ref l)(h1:vs=[.bl true])(h2:aK K H l (bs.map V.bl))(h3:bs[j]? =some true)(h4:∀m,m<j->bs[m]? =some false)(h5:j<1000)(h6:Q (.int (j:Nat)) H)
theorem a56(K:aa)(hK:X.K=K):Bn X "list.index" (λx vs H Q=>XD K x vs H Q):=by
 subst hK;intro ay s O H x vs v us Q I rx rv h;let(l,bs,j,rfl,rfl,hl,hj,hm,ah0,q):=h;cases rx;let(u,rfl,ru):=vals1 rv;cases(show u=Value.bool true from ru);let(its,r,pl,_):=I.list hl;rw[FO r]at pl;let((cls,dd,data,sl),ho,hc,n,hd):=id pl.isList;simp only at hc hd;subst hc hd;have UP:=(eQ.mp hj);let(hj1,qO):=UP;erw[zi PySem.F.slot_list_index #[_,ho,Z] PySem.F.entry_list_index (PySem.F.args_list_index_2 _ _) (list_indexAt l _ n dd sl (.bool true) vB j (by simpa using hj1) aw ?_ (λm hm1 DZ=>?_)) #[ho,VW _ _,#[.int _,H,I.tok _,#[_,Z],q]]]
 ·simp[qO,vB]
 ·have:=hm m DZ
  let(h1,h2):=eQ.mp this;simp[h2,vB]
theorem a2z(K:aa)(h:X.K=K){o e:Expr}{to:TE}{t:TA}{apos da:Pos}(ho:PE X o to)(ha:PA X [e] t) (jX:autoParam (attributeBase o "count" X.env (eval o X.env)=eval o X.env) r8_._auto_1) (mx:autoParam (((backTo da (starEach [e] X.env)).all (λx=>!x.1)&&(backToKw da (keywordEach [] X.env)).all (λx=>x.1.isSome) &&decide ([e].length+([]:List Keyword).length+(if([]:List Keyword).isEmpty then 0 else 1)<30))=true) r8_._auto_1) (jV:autoParam ((apos.endLine==da.line)=true) r8_._auto_1)(hs:autoParam (starEach [e] X.env=(false,eval e X.env)::starEach [] X.env) r8_._auto_1)(mm:autoParam ((backTo da (starEach [] X.env)).any (·.1)=false) r8_._auto_1): PE X (.Call (.Attribute o "count" apos) [e] [] da) (uP K "list" (λx vs H Q=>XE K x vs H Q) to t):=by subst h;erw[xO BE PySem.F.slot_list_count PySem.F.type_list_count (a57 X.K rfl) ho ha jX mx jV hs mm]
theorem a2x(K:aa)(h:X.K=K){o e:Expr}{to:TE}{t:TA}{apos da:Pos}(ho:PE X o to)(ha:PA X [e] t) (jX:autoParam (attributeBase o "index" X.env (eval o X.env)=eval o X.env) r8_._auto_1) (mx:autoParam (((backTo da (starEach [e] X.env)).all (λx=>!x.1)&&(backToKw da (keywordEach [] X.env)).all (λx=>x.1.isSome) &&decide ([e].length+([]:List Keyword).length+(if([]:List Keyword).isEmpty then 0 else 1)<30))=true) r8_._auto_1) (jV:autoParam ((apos.endLine==da.line)=true) r8_._auto_1)(hs:autoParam (starEach [e] X.env=(false,eval e X.env)::starEach [] X.env) r8_._auto_1)(mm:autoParam ((backTo da (starEach [] X.env)).any (·.1)=false) r8_._auto_1): PE X (.Call (.Attribute o "index" apos) [e] [] da) (uP K "list" (λx vs H Q=>XD K x vs H Q) to t):=by subst h;erw[xO BE PySem.F.slot_list_index PySem.F.type_list_index (a56 X.K rfl) ho ha jX mx jV hs mm]
end
end _L
namespace _L
open PySem PySem.Spec PyProof.Rows PySem.W
abbrev wI:=List Env->ae->Sp
structure XI(P:ah)(w:World)(K:Frag)(mg:cw)(aB:Heap)(CX:lD)(k:Nat)(f:Addr)(fd:FuncData)(ps:List Str)(sp:wI):Prop where
 len:∀outer s vs H Q E,sp outer s vs H Q E->vs.length=ps.length
 run:∀(A:aj)(outer:List Env)(s:ae)(H:Hp)(args:Args)(us:List Value)(vs:List V)(Q:VK)(E:XK),dh k A->pM P w K mg aB A outer s H->BindsTo s fd args (ps.zip us)->Vals vs us->sp outer s vs H Q E->codeAny (model P w) A (.call (.ref f) args) (CR CX outer P w H s Q E) s
theorem a9C{P:ah}{w:World}{K:Frag}{mg:cw}{aB:Heap}{k:Nat}{kV:Value}(lk:K.lookup f=some #[oc,od,.func (fnOf name qual params body scope dV kV doc pm an aQ ct),gW])(iR:codeIn K aQ qual=true)(S:bN N ps scope)(len:∀outer s vs H Q E,sp outer s vs H Q E->vs.length=ps.length) (ji:∀(A:aj)(outer:List Env)(s:ae)(H:Hp)(vs:List V)(Q:VK)(E:XK),dh k (A.deeper (envOfC qual scope s.heap.objs.size f aQ))->sp outer s vs H Q E->∃t,Bk (jE CX P w K mg aB N qual scope f aQ A outer s H E) body t/\t (eZ9 Q) (start N vs) H): XI P w K mg aB CX (k+1) f (fnOf name qual params body scope dV kV doc pm an aQ ct) ps sp:=by erw[len,λA outer s H args us vs Q E hr e0 hb r jT=>?_];have hl:=len _ _ _ _ _ _ jT;have KX:K.In s.heap:=e0.mod.qG.keeps λb o e=>(e0.bs b o e).1;have lim:s.heap.NoLimit:=e0.mod.nolimit.keeps λb o e=>(e0.bs b o e).1;erw[codeAny_call_function hr.depth (KX _ _ lk) Z S.co S.gen Z (codeRec_of KX iR) (hb _ _ _ _ (wpAny_newFunctionEnv_cells S.kind (λ#[n,v] hy=>(S.par n (BF hy).1).imp id λq=>#[q,cellsFrom_some _ _ _ (.inl q)]) λenv he s1 x=>?_))];subst he;let(t,ht,hq):=ji A outer s H vs Q E (hr.deeper _) jT;have I:Inv (jE CX P w K mg aB N qual scope f aQ A outer s H E) [] (start N vs) H s1:=Ut S hr.hd e0 hl r x;erw[lim.keeps x.toInCall.keep,codeAny_func (kI (ht s1 (start N vs) H _ I hq) (λfl s' hs=>?_) λe s' hs=>hs)];have fin:∀{σ':St}{H':Hp}{v:V}{u:Value},Inv (jE CX P w K mg aB N qual scope f aQ A outer s H E) [] σ' H' s'->RelV v u->Q v H'->CE outer P w H s Q u s':=λ{σ' H' v u} J rv q=>#[v,H',J.os,J.bare,J.aB,J.bB,rv,q];cases fl with |ret u=>let(v,σ',H',J,rv,q):=hs;erw[fin J rv q] |next=>let(σ',H',J,q):=hs;erw[fin (v:=V.bF) (u:=Value.none) J Z q] |brk=>let(_,_,_,q):=hs;erw[False.elim q] |cont=>let(_,_,_,q):=hs;erw[False.elim q]
def Br(P:ah)(w:World)(K:Frag)(mg:cw)(aB:Heap)(x:Str)(k:Nat)(sp:wI):Prop:=∃f fd ps,XI P w K mg aB ka k f fd ps sp/\mg x=some (.ref f)/\keepIn K (.ref f)=true/\Binds K fd ps []
def jH(c:Addr)(q:Str)(h:Heap):Prop:=h.CodeRec (.ref c) q
theorem ac1{P:ah}{w:World}{q:Str}(e:h.CodeRec (.ref c) q):gA P w H h c (.ext (jH c q)):=by let(c',o,vs,t,e1,e2,e3,e4):=id e;cases e1;erw[e,#[o,e2],λh1 h2 y k=>?_];let(c2,o2,Yr,t2,y1,y2,y3,y4):=y;cases y1;erw[c,o2,Yr,t2,Z,k _ y2,y3,y4]
structure ade(H:Hp)(q:Str)(ps:Array Value):Prop where
 tr:TriplesOk ps.toList
 at':∀pos v,codeAmong pos ps.toList=some v->∃c,v= .ref c/\H c=some (.ext (jH c q))
def TabAt(H:Hp)(T:Addr)(q:Str):Prop:=∃ps,H T=some (.fq ps)/\ade H q ps
theorem TabAt.first{q:Str}(h:H T=some (.fq #[])):TabAt H T q:=#[#[],h,trivial,λpos v e=>by rw[Ni]at e;cases e]
theorem TabAt.keep{q:Str}(h:TabAt H T q)(e1:∀ps,H T=some (.fq ps)->H' T=some (.fq ps))(e2:∀b φ,H b=some (.ext φ)->H' b=some (.ext φ)):TabAt H' T q:=by let(ps,e,tr,ha):=h;erw[ps,e1 _ e,tr,λpos v ev=>?_];let(c,rfl,hc):=ha pos v ev;erw[c,Z,e2 _ _ hc]
theorem WY{v:Value}(l:List Value)(ht:TriplesOk l)(h:codeAmong p (l++[rawInt a,rawInt b,c])=some v):codeAmong p l=some v\/v=c:=by
 rw[TriplesOk.eq_def]at ht;split at ht
 ·rw[Ni]at h
  simp only[List.nil_append]at h;split at h
  ·rename_i e
   cases e;split at h
   ·cases h;erw[.inr rfl]
   ·rw[Ni]at h;cases h
  ·cases h
 ·rename_i i t j u x r
  rw[Ni]at h⊢;simp only[List.cons_append]at h;dsimp only at h⊢;split at h
  ·erw[.inl (by rw[bE (by assumption)];erw[h])]
  ·rename_i hn
   rw[bI hn];erw[WY r ht h]
 ·erw[ht.elim]
termination_by l.length
def uy(h:Heap)(H:Hp)(fs:List Addr)(f:Addr)(pr:Arguments)(b:Expr)(sc:Scope)(q:Str)(c:Addr)(cl:List (Str×Addr)):Prop:=∃pm ct,h.get? f=some (kla_obj "<lambda>" q pr b sc cl pm c ct)/\H f=none/\f∉fs
structure pN(h:Heap)(H:Hp)(fs:List Addr)(cl:List (Str×Addr))(N:List Str)(vs:List V):Prop where
 cell:∀x c,cl.lookup x=some c->∃u,h.IsCell c u
 free:∀x c,cl.lookup x=some c->H c=none
 nf:∀x c,cl.lookup x=some c->c∉fs
 inj:∀x y c,cl.lookup x=some c->cl.lookup y=some c->x=y
 val:∀(i:Nat) x v,N[i]? =some x->vs[i]? =some v->∃c u,cl.lookup x=some c/\h.IsCell c (some u)/\RelV v u
structure rQ(N:List Str)(sc:Scope):Prop where
 kind:sc.kind= .function
 co:sc.isCoroutine=false
 gen:sc.isGenerator=false
 T9:∀y∈sc.names,y.2≠ .cell
 fr:∀x∈N,sc.names.lookup x=some .free
 only:∀x,sc.names.lookup x=some .free->x∈N
def oW(CX:lD)(P:ah)(w:World)(K:Frag)(mg:cw)(aB:Heap)(N:List Str)(qual:Str)(scope:Scope)(f:Addr)(cd:Value)(cl:List (Str×Addr))(A:aj)(outer:List Env)(s:ae)(H:Hp)(E:XK):Cx where
 prog:=P
 w:=w
 K:=K
 mg:=mg
 aB:=aB
 A:=A.deeper (envX qual scope s.heap.objs.size f cd cl)
 N:=N
 s₀:=s
 H₀:=H
 env:=envX qual scope s.heap.objs.size f cd cl
 outer:=outer
 stack:=envX qual scope s.heap.objs.size f cd cl::outer
 ex:=[]
 calm:=true
 fn:=λ_=>false
 pn:=[]
 xe:=λe s'=>wpAny (model P w) (A.deeper (envX qual scope s.heap.objs.size f cd cl)) (leaving (envX qual scope s.heap.objs.size f cd cl) e) (λ_ uZ=>CX outer H s E e uZ) (λe' uZ=>CX outer H s E e' uZ) s'
theorem a6v{CX:lD}{P:ah}{w:World}{K:Frag}{mg:cw}{aB:Heap}{N:List Str}{qual:Str}{scope:Scope}{f:Addr}{cd:Value}{cl:List (Str×Addr)}{A:aj}{outer:List Env}{s:ae}{H:Hp}{E:XK}{vs:List V}{h':Heap}{tk:Nat}{m:cw}{fs:List Addr} (S:rQ N scope)(hd:A.handled=none)(e0:pM P w K mg aB A outer s H)(hl:vs.length=N.length)(C:pN s.heap H fs cl N vs)(yp:h'.Ns s.heap.objs.size m)(hk:∀b u,s.heap.get? b=some u->h'.get? b=some u): Inv (oW CX P w K mg aB N qual scope f cd cl A outer s H E) [] (vs.map some) H #[h',s.gens,s.drawn,tk,s.os]:=by
 have vm:∀b:Addr,b∉([]:List Addr):=λb=>by simp
 have Ur:∀{c:Addr}{v:Option Value},s.heap.IsCell c v->h'.IsCell c v:=λ#[o,e,d]=>#[o,hk _ _ e,d];erw[#[e0.mod,S.kind,Z,Z,ck _,C.inj,λy hy=>?_,λy c z=>(nomatch z),λ_=>hd,Around.frames_deeper e0.frames,.inr #[rfl,rfl],λb z=>absurd z (vm b),e0.bs,e0.ng,λb _ _=>vm b,λb z=>absurd z (vm b),e0.kD,e0.p8],rfl,e0.bare,Un.kept hk,#[_,yp,λi y v h1 h2 h3=>?_],λy c h=>?_,e0.bB.fresh (ck _),C.free,λp hp=>absurd hp (by simp[oW]),e0.bB.kept hk,by rw[cJ];erw[hl]]
 ·have hy:scope.names.lookup y=some .cell\/scope.names.lookup y=some .free:=hy
  rcases hy with hy|hy
  ·erw[absurd Z (S.T9 _ (wR hy))]
  ·let(i,hi):=sx.mp (S.only y hy)
   obtain⟨v,hv⟩:∃v,vs[i]? =some v:=#[_,cC (by rw[hl];exact(eQ.mp hi).1)];let(c,u,e,_):=C.val i y v hi hv;erw[c,e]
 ·rw[cV]at h2
  cases e:vs[i]? with |none=>rw[e]at h2;cases h2 |some v'=>rw[e]at h2;cases h2;let(c,u,e1,e2,r):=C.val i y v h1 e;erw[u,r,.inr #[.inr (S.fr y (hO h1)),c,e1,Ur e2]]
 ·let(u,e):=C.cell y c h
  erw[u,Ur e]
theorem a63{P:ah}{w:World}{K:Frag}{mg:cw}{aB:Heap}{k:Nat}{t:TE}{fs:List Addr}(S:rQ N sc)(hb:∀pm cd ct,bindArgs (kla_fn "<lambda>" qual pr b sc cl pm cd ct) #[[],[]]=pure [])(hr:dh (k+1) A)(e0:pM P w K mg aB A outer s H)(L:uy s.heap H fs f pr b sc qual c cl)(hc:H c=some (.ext (jH c qual)))(hl:vs.length=N.length)(C:pN s.heap H fs' cl N vs) (ht:PE (oW CX P w K mg aB N qual sc f (.ref c) cl A outer s H E) b t)(hq:t (vs.map some) H Q):codeAny (model P w) A (.call (.ref f) #[[],[]]) (CR CX outer P w H s Q E) s:=by
 let(pm,ct,ho,hf,hn):=L;have lim:s.heap.NoLimit:=e0.mod.nolimit.keeps λb o e=>(e0.bs b o e).1;have cr:s.heap.CodeRec (.ref c) qual:=(e0.bB c _ hc).1;erw[kla_callFunE hr.depth ho Z S.co S.gen Z cr ?_];rw[hb];erw[cI (XN (λx hx=>S.T9 x hx) (λx hx=>nomatch hx) (λh' yp KL=>?_) S.kind)];have hk:∀b u,s.heap.get? b=some u->h'.get? b=some u:=λb u e=>by
  have eZ:b≠s.heap.objs.size:=λz=>by have:=cY e;rw[z]at this;erw[si _ this]
  rw[KL.2 b eZ];erw[cW _ e]
 erw[lim.keeps hk,kla_codeExpr ?_];have I:Inv (oW CX P w K mg aB N qual sc f (.ref c) cl A outer s H E) [] (vs.map some) H #[h',s.gens,s.drawn,s.toks+([]:List (Str×Value)).length,s.os]:=a6v S hr.hd e0 hl C yp hk;erw[kI (ht [] _ (vs.map some) H _ I hq) (λu s' #[v,H',J,rv,q]=>?_) λe s' h=>h];erw[v,H',J.os,J.bare,J.aB,J.bB,rv,q]
section
variable {P:ah}{w:World}{K:Frag}{mg:cw}{aB:Heap}{N:List Str}{qual:Str}{scope:Scope}{f:Addr}{cd:Value}{cl:List (Str×Addr)}{A:aj}{outer:List Env}{s:ae}{H:Hp}{E E0:XK}
theorem JD(he:∀cls dx H',E cls dx H'->E0 cls dx H'):Passes (jI P w) (oW (jI P w) P w K mg aB N qual scope f cd cl A outer s H E0) E:=by
 intro ay O H1 s1 e s2 I hx;let(ex,cls,dx,H',B,rfl,ho,hg,qW,F,q):=hx;have qW:lS B (envX qual scope s.heap.objs.size f cd cl::outer) ex cls dx .none s2.heap:=qW;show wpAny (model P w) (A.deeper (envX qual scope s.heap.objs.size f cd cl)) (leaving (envX qual scope s.heap.objs.size f cd cl) (.ref ex)) _ _ _;erw[a5X (L:=s.heap.objs.size) I.ok.frames Z qW λh' x1 x2=>?_];have F2:=F.step qW.1 x1.1 x2 qW.2.2.1;have sub:∀b,b∈dJ outer->b∈dJ (envX qual scope s.heap.objs.size f cd cl::outer):=λb hb=>by let(env,h1,h2):=pQ.mp hb;erw[pQ.mpr #[env,.tail _ h1,h2]]
 have tK:∀b o,s.heap.get? b=some o->b∉dJ outer->b∉dJ (envX qual scope s.heap.objs.size f cd cl::outer):=λb o e hb hm=>by
  let(env,h1,h2):=pQ.mp hm;rcases bJ.mp h1 with z|h1
  ·subst z
   have e1:s.heap.objs.size=b:=fe h2;have e2:=cY e;rw[<-e1]at e2;erw[absurd e2 (si _)]
  ·erw[hb (pQ.mpr #[env,h1,h2])]
 have nx:∀b:Addr,b∉([]:List Addr):=λ_=>cD;erw[ex,cls,dx,H',B,Z,ho.trans I.os,hg,x1,#[#[λb o e n hb _=>?_,λb o e n hb _=>?_,λb o e n _=>?_,λb o e _=>?_,λb xs e=>F2.un.lG b xs (I.aB.lG b xs e),λb o u e=>F2.un.kY b o u (I.aB.kY b o u e),λb ps e=>?_],F2.bB,λb o e n hb=>?_,F2.k2,λb o e hb=>?_,λb hb=>F2.fr b (sub b hb),?_,F2.ne],he _ _ _ q]
 ·erw[F2.un.keep b o (I.aB.keep b o e n hb (nx b)) (I.aB.free b o e n (nx b)) (tK b o e hb) (nx b)]
 ·let(sl,e1):=I.aB.slot b o e n hb (nx b)
  let(Gu,e2):=F2.un.slot b _ e1 (I.aB.free b o e n (nx b)) (sub b hb) (nx b);erw[Gu,e2]
 ·let(sl,e1):=I.aB.any e n (nx b)
  erw[F2.un.free b _ e1 (I.aB.free b o e n (nx b)) (nx b)]
 ·let(o1,e1):=I.aB.there b o e (nx b)
  erw[F2.un.there b o1 e1 (nx b)]
 ·let(m1,e1):=I.aB.kL b ps e
  let(m2,e2):=F2.un.kL b _ e1;erw[m1++m2,by rw[<-Array.append_assoc];erw[e2]]
 ·erw[F2.k1 b o (I.aB.keep b o e n hb (nx b)) (I.aB.free b o e n (nx b)) (tK b o e hb)]
 ·let(o1,e1):=I.aB.there b o e (nx b)
  erw[F2.k3 b o1 e1 (tK b o e hb)]
 ·cases e:s.heap.get? ex with |none=>rfl |some o=>let(o1,e1):=I.aB.there ex o e (nx ex);rw[F2.nw]at e1;cases e1
end
section
variable {X:Cx}{x:Str}{p pos:Pos}{E:XK}
inductive afq(X:Cx)(i:Nat)(E:XK)(O:St)(H:Hp)(Q:VK):Prop |mk (f c:Addr)(cl:List (Str×Addr))(pr:Arguments)(b:Expr)(sc:Scope)(q:Str)(N:List Str)(vs:List V)(t:XK->TE)(k:Nat)(h0:O[i]? =some (some (.ref f)))(h1:H=X.H₀)(h2:uy X.s₀.heap X.H₀ X.fs f pr b sc q c cl)(h3:H c=some (.ext (jH c q)))(h4:pN X.s₀.heap X.H₀ X.fs cl N vs)(h5:vs.length=N.length)(h6:rQ N sc)(h7:∀pm cd ct,bindArgs (kla_fn "<lambda>" q pr b sc cl pm cd ct) #[[],[]]=pure [])(h8:dh (k+1) X.A) (h9:∀(A:aj)(outer:List Env)(s:ae)(H:Hp)(E:XK),dh k (A.deeper (envX q sc s.heap.objs.size f (.ref c) cl))->PE (oW (jI X.prog X.w) X.prog X.w X.K X.mg X.aB N q sc f (.ref c) cl A outer s H E) b (t E))(AO:t E (vs.map some) H Q)
theorem a2q(i:Nat)(hp:Passes (jI X.prog X.w) (X.jL xe) E)(hex:autoParam (X.ex=[]) r8_._auto_1)(hN:autoParam (X.N[i]? =some x) r8_._auto_1)(hv:autoParam (F3 X.env.scope x) d8_._auto_1)(hd:autoParam ((x==("__debug__":Str))=false) q8_._auto_1) (iR:autoParam ((x==("__classdict__":Str))=false) q8_._auto_1):PE (X.jL xe) (.Call (.Name x p) [] [] pos) (λO H Q=>afq X i E O H Q):=by
 intro ay s O H Q I h;let(f,c,cl,pr,b,sc,q,N,vs,t,k,h0,h1,(pm,ct,L1,_L,L3),h3,C,h5,h6,h7,h8,h9,AO):=h;have nx:∀b:Addr,b∉X.ex:=λb=>by rw[hex];erw[cD]
 erw[BB (bw (Sf (X:=X.jL xe) (pos:=p) hN hv hd iR ay s O H (λv H'=>v= .ref f/\H'=H) I #[_,h0,Z,Z]) λu s1 #[v,H1,I1,rv,e1,e2]=>?_)];subst e1 e2;cases(show u=Value.ref f from rv);have hf:=I1.aB.keep f _ L1 _L L3 (nx f);have kc:∀{x c u},cl.lookup x=some c->X.s₀.heap.IsCell c u->s1.heap.IsCell c u:=λ{x c u} e #[o,e1,e2]=>#[o,I1.aB.keep c o e1 (C.free x c e) (C.nf x c e) (nx c),e2];have C2:pN s1.heap H1 X.fs cl N vs:=#[λx c e=>(C.cell x c e).imp λu z=>kc e z,λx c e=>by rw[h1];erw[C.free x c e],C.nf,C.inj,λi x v a b=>by let(c,u,e,z,r):=C.val i x v a b;erw[c,u,e,kc e z,r]];erw[callWith_F0 #[_,_,_,_,hf] (BA (BC (a63 (k:=k) (fs:=X.fs) (fs':=X.fs) h6 h7 h8 I1.EE #[pm,ct,hf,by rw[h1];erw[_L],L3] h3 h5 C2 (h9 _ _ _ _ E (h8.deeper _)) AO) λr s' hq=>?_))];cases r with |error e=>erw[hp ay O H1 s1 e s' I1 hq] |ok fl=>cases fl with |ret u=>erw[I1.after hq] |next=>erw[False.elim hq] |brk=>erw[False.elim hq] |cont=>erw[False.elim hq]
end
def pE(cells:List (Str×Addr)):List (Str×NameKind)->List (Str×Addr)->List (Str×Addr) |[],cs=>cs |(n,k)::r,cs=>pE cells r (if k== .free then(n,(cells.lookup n).getD 0)::cs else cs)
theorem WL{env:Env}:∀(l:List (Str×NameKind))(cs:List (Str×Addr)),(∀y∈l,y.2= .free->∃c,env.cells.lookup y.1=some c)->(forIn l cs (λ(x:Str×NameKind)(cs:List (Str×Addr))=>match x with |(name,kind)=>if(kind==NameKind.free)=true then(do let c<-cellOf env name;pure (ForInStep.yield ((name,c)::cs)))else pure (ForInStep.yield cs)):Sem (List (Str×Addr)))=pure (pE env.cells l cs)
 |[],cs,_=>rfl |(n,k)::r,cs,h=>by
  rw[FG];have ih:=λcs=>WL r cs λy hy=>h y (.tail _ hy);unfold pE;by_cases hk:(k==NameKind.free)=true
  ·let(c,e):=h (n,k) (.head _) (by cases k<;>first|rfl|cases hk)
   simp only[hk,wQ];unfold cellOf;rw[e];erw[ih _]
  ·simp only[hk]
   erw[ih _]
theorem WO{cells:List (Str×Addr)}{x:Str}{c:Addr}:∀(l:List (Str×NameKind))(cs:List (Str×Addr)),(∀y∈l,y.2= .free->∃c,cells.lookup y.1=some c)->(pE cells l cs).lookup x=some c->cs.lookup x=some c\/cells.lookup x=some c
 |[],cs,_,h=>.inl h |(n,k)::r,cs,ha,h=>by
  unfold pE at h;rcases WO r _ (λy hy=>ha y (.tail _ hy)) h with z|z
  ·by_cases hk:(k==NameKind.free)=true
   ·rw[bE hk,jK]at z
    split at z
    ·rename_i e
     let(c',e'):=ha (n,k) (.head _) (by cases k<;>first|rfl|cases hk);rw[show cells.lookup n=some c' from e']at z;cases z;rw[gJ.mp e];erw[.inr e']
    ·erw[.inl z]
   ·rw[bI hk]at z;erw[.inl z]
  ·erw[.inr z]
theorem WQ{cells:List (Str×Addr)}{x:Str}:∀(l:List (Str×NameKind))(cs:List (Str×Addr)),(x,NameKind.free)∈l\/(∃c,cs.lookup x=some c)->∃c,(pE cells l cs).lookup x=some c
 |[],cs,h=>by
  rcases h with h|h
  ·cases h
  ·erw[h] |(n,k)::r,cs,h=>by
  unfold pE;erw[WQ r _ ?_];rcases h with h|⟨c,h⟩
  ·rcases bJ.mp h with e|e
   ·cases e
    erw[.inr #[(cells.lookup x).getD 0,by simp[jK]]]
   ·erw[.inl e]
  ·erw[.inr ?_]
   split
   ·rw[jK]
    split
    ·erw[_,Z]
    ·erw[c,h]
   ·erw[c,h]
theorem ac4(h:∀y∈sc.names,y.2= .free->∃c,env.cells.lookup y.1=some c):closureFor sc env=pure (pE env.cells sc.names []):=by unfold closureFor;have:=WL sc.names [] h;simp only[this];rfl
theorem acs{h h':Heap}{mg:cw}{T:Addr}(b:h.BuiltinsAt mg T)(k:∀b o,h.get? b=some o->h'.get? b=some o):h'.BuiltinsAt mg T:=by let(bm,o,b1,b2,b3,b4,b5,b6):=b;erw[bm,o,b1,b2,b3,b4,k _ _ b5,b6]
section
variable {X:Cx}{ay:List (Addr×Obj)}{O:St}{H:Hp}{s:ae}{pr:Arguments}{bd:Expr}{sc:Scope}{gh:Pos}{cl:List (Str×Addr)}{T c:Addr}{q:Str}
theorem Inv.SN(I:Inv X ay O H s){f:Addr}(h:s.heap.objs.size<=f):f∉dJ X.stack:=λhb=>by
 rcases bJ.mp (I.zF f hb)with e|e
 ·rw[e]at h;erw[absurd I.lt (Nat.not_lt.mpr h)]
 ·erw[I.T5 h e]
theorem a64{Xw:Value->ae->Prop}(I:Inv X ay O H s)(hc:X.env.code= .ref c)(hd:CodeHd X.aB c T)(hB:X.aB.BuiltinsAt X.mg T)(mX:closureFor sc X.env=pure cl)(vU:defaultsOf pr X.env=([],[]))(KQ:X.env.qual++Str.ofString "<lambda>"=q)(ht:TabAt H T q) (hq:∀f c' H' s',Inv X ay O H' s'->uy s'.heap H' (dJ X.stack) f pr bd sc q c' cl->H' c'=some (.ext (jH c' q))->TabAt H' T q->aX [T] H H'->(∀b,b≠T->H b=none->(∃o,s.heap.get? b=some o)->H' b=none/\∀o,s.heap.get? b=some o->s'.heap.get? b=some o)->Xw (.ref f) s'): wpAny (model X.prog X.w) X.A (eval (.Lambda pr bd sc gh) X.env) Xw X.xe s:=by
 erw[kla_eval vU ?_];rw[KQ];let(ps,hT,tr,vW):=ht;have kb:=I.bk;have UU:=I.ok.mod.glob.keeps kb;have UZ:CodeHd s.heap c T:=CodeHd.keeps hd kb;have Ea:s.heap.get? T=some (tabObj ps):=I.bB T _ hT;have Ve:=acs hB kb;have gT:mainGlobals≠T:=λz=>by let(o,es,ep,e,_):=I.ok.mod.glob;have:=(I.bs _ _ e).2;rw[z,hT]at this;cases this
 cases ha:codeAmong gh ps.toList with |some v=>let(c',rfl,iu):=vW gh v ha;erw[kla_makeFunctionHit mX I.ok.glob UU hc UZ Ea tr ha Ve λpD h' tk hk hsz=>?_];have oX:∀b o,s.heap.get? b=some o->(h'.push {cls:=Value.type "function",data:=Data.func (kla_fn (Str.ofString "<lambda>") q pr bd sc cl ((X.mg (Str.ofString "__name__")).getD Value.none) (Value.ref c') pD)}).get? b=some o:=λb o e=>cW _ (hk b o e);erw[hq h'.objs.size c' H _ (I.kept oX) #[_,pD,fO _ Z,I.bB.fresh hsz,I.SN hsz] iu #[ps,hT,tr,vW] (λb o e _=>e) λb _ hb _=>#[hb,λo e=>oX b o e]] |none=>
  erw[kla_makeFunction mX I.ok.glob UU hc UZ Ea tr ha gT Ve λc' pD h' tk hx E6 cK a78 htb=>?_];have fc:H c'=none:=I.bB.fresh E6;have cT:c'≠T:=λz=>by rw[z,hT]at fc;cases fc
  have oX:∀b o,b≠T->s.heap.get? b=some o->(h'.push (kla_obj (Str.ofString "<lambda>") q pr bd sc cl ((X.mg (Str.ofString "__name__")).getD Value.none) c' pD)).get? b=some o:=λb o hb e=>cW _ (hx b o hb e);have WA:(h'.push (kla_obj (Str.ofString "<lambda>") q pr bd sc cl ((X.mg (Str.ofString "__name__")).getD Value.none) c' pD)).CodeRec (.ref c') q:=by let(c2,o,vs,t,e1,e2,e3):=a78;erw[c2,o,vs,t,e1,cW _ e2,e3]
  have Lz:(h'.push (kla_obj (Str.ofString "<lambda>") q pr bd sc cl ((X.mg (Str.ofString "__name__")).getD Value.none) c' pD)).get? T=some (tabObj (ps++(List.toArray [rawInt ↑gh.line,rawInt ↑gh.col,Value.ref c']))):=cW _ htb;have Vs:s.heap.objs.size<=h'.objs.size:=ND (sf E6 cK);have hf:(h'.push (kla_obj (Str.ofString "<lambda>") q pr bd sc cl ((X.mg (Str.ofString "__name__")).getD Value.none) c' pD)).get? h'.objs.size=some (kla_obj (Str.ofString "<lambda>") q pr bd sc cl ((X.mg (Str.ofString "__name__")).getD Value.none) c' pD):=fO _ rfl;have eU:∀b o,b≠T->H b=some o->upd (upd H T (.fq (ps++(List.toArray [rawInt ↑gh.line,rawInt ↑gh.col,Value.ref c'])))) c' (.ext (jH c' q)) b=some o:=λb o hb e=>by rw[aR (fZ e fc),aR hb];erw[e]
  have eN:∀b,b≠T->b≠c'->H b=none->upd (upd H T (.fq (ps++(List.toArray [rawInt ↑gh.line,rawInt ↑gh.col,Value.ref c'])))) c' (.ext (jH c' q)) b=none:=λb hb nR e=>by rw[aR nR,aR hb];erw[e]
  have eT:upd (upd H T (.fq (ps++(List.toArray [rawInt ↑gh.line,rawInt ↑gh.col,Value.ref c'])))) c' (.ext (jH c' q)) T=some (.fq (ps++(List.toArray [rawInt ↑gh.line,rawInt ↑gh.col,Value.ref c']))):=by rw[aR cT.symm];erw[bo]
  have eC:upd (upd H T (.fq (ps++(List.toArray [rawInt ↑gh.line,rawInt ↑gh.col,Value.ref c'])))) c' (.ext (jH c' q)) c'=some (.ext (jH c' q)):=bo;have eX:∀b o,upd (upd H T (.fq (ps++(List.toArray [rawInt ↑gh.line,rawInt ↑gh.col,Value.ref c'])))) c' (.ext (jH c' q)) b=some o->(b=c'/\o= .ext (jH c' q))\/(b=T/\o= .fq (ps++(List.toArray [rawInt ↑gh.line,rawInt ↑gh.col,Value.ref c'])))\/(b≠T/\H b=some o):=λb o e=>by
   by_cases h1:b=c'
   ·subst h1;rw[bo]at e;cases e;erw[.inl #[rfl,rfl]]
   ·rw[aR h1]at e
    by_cases h2:b=T
    ·subst h2;rw[bo]at e;cases e;erw[.inr (.inl #[rfl,rfl])]
    ·rw[aR h2]at e;erw[.inr (.inr #[h2,e])]
  generalize upd (upd H T (.fq (ps++(List.toArray [rawInt ↑gh.line,rawInt ↑gh.col,Value.ref c'])))) c' (.ext (jH c' q))=H' at eU eN eT eC eX;generalize hhn:h'.push (kla_obj (Str.ofString "<lambda>") q pr bd sc cl ((X.mg (Str.ofString "__name__")).getD Value.none) c' pD)=hn at oX WA Lz hf⊢;have Dr:∀{b o},s.heap.get? b=some o->b≠c':=λ{b o} e z=>by have:=cY e;rw[z]at this;erw[absurd this (Nat.not_lt.mpr E6)]
  have nT:∀{b},H b=none->b≠T:=λ{b} e z=>by rw[z,hT]at e;cases e
  have un:Un (dJ X.stack) [] H H' s.heap hn:=by
   erw[λb o e n _ _=>oX b o (nT n) e,λb o e n _ _=>#[o.slots,oX b o (nT n) e],λb o e n _=>eN b (nT n) (Dr e) n,λb o e _=>?_,λb xs e=>eU b _ (λz=>by rw[z,hT]at e;cases e) e,λb o u e=>eU b _ (λz=>by rw[z,hT]at e;cases e) e,λb ps' e=>?_]
   ·by_cases hb:b=T
    ·rw[hb];erw[_,Lz]
    ·erw[o,oX b o hb e]
   ·by_cases hb:b=T
    ·rw[hb,hT]at e
     cases e;rw[hb];erw[_,eT]
    ·erw[#[],by rw[Array.append_empty];erw[eU b _ hb e]]
  have ho:fb X.prog X.w H' hn:=λa o e=>by
   rcases eX a o e with⟨rfl,rfl⟩|⟨rfl,rfl⟩|⟨eZ,e⟩
   ·erw[ac1 WA]
   ·erw[Lz]
   ·refine(I.bB a o e).ny (λb' u hb e'=>oX b' u (λz=>?_) e') (λb' e'=>eU b' _ (λz=>by rw[z,hT]at e';cases e') e') λb' xs e'=>eU b' _ (λz=>by rw[z,hT]at e';cases e') e'
    rcases hb with z2|z2
    ·erw[eZ (z2▸z)]
    ·rw[z,hT]at z2;cases z2
  have I':Inv X ay O H' #[hn,s.gens,s.drawn,tk,s.os]:=I.call (ch:=[]) un ho I.bare λb hb=>(cD hb).elim;erw[hq h'.objs.size c' H' _ I' #[_,pD,hf,?_,I.SN Vs] eC #[_,eT,?_,λp v e=>?_] (λb o e hb=>eU b o (λz=>hb (by rw[z];erw[.head _])) e) λb hb hn0 he=>?_]
  ·have tV:H h'.objs.size=none:=I.bB.fresh Vs
   erw[eN _ (nT tV) (λz=>absurd cK (by rw[<-z];erw[si _])) tV]
  ·rw[FK];erw[TriplesOk_snoc _ _ _ _ tr]
  ·rw[FK]at e
   rcases WY _ tr e with z|z
   ·let(c2,r1,r2):=vW p v z
    erw[c2,r1,eU c2 _ (λz=>by rw[z,hT]at r2;cases r2) r2]
   ·erw[c',z,eC]
  ·let(o,e):=he
   erw[eN b hb (Dr e) hn0,λo e=>oX b o hb e]
end
def rE(K:Frag)(cd:Value)(T:Addr):Bool:=match cd with
 | .ref c=>match K.lookup c with |some #[.type n,_,.fields vs,_]=>n=="code"&&(match(vs[11]? :Option Value),(vs.getD 11 .none:Value),(vs.getD 18 .none:Value),(vs.getD 7 .none:Value),(vs.getD 9 .none:Value),(vs.getD 10 .none:Value)with |some (.ref P),.ref P2,.str _ _,.int _ _,.bool _,.int _ _=>P==T&&P2==T&&c !=T |_,_,_,_,_,_=>false) |_=>false
 |_=>false
theorem WK{K:Frag}(e:rE K cd T=true)(X:K.In h):∃c,cd= .ref c/\CodeHd h c T:=by
 unfold rE at e;split at e
 ·rename_i c
  split at e
  ·rename_i n d vs sl hl
   rw[fD]at e;let(e1,e2):=e;split at e2
   ·rename_i P P2 f tf fl tg b t tt h1 h2 h3 h4 h5 h6
    simp only[fD,gJ,bne_iff_ne]at e1 e2;let((e3,e4),e5):=e2;subst e1 e3;rw[e4]at h2;erw[c,Z,_,vs,f,tf,fl,tg,b,t,tt,X _ _ hl,Z,Z,h1,h2,h3,h4,h5,h6,e5]
   ·cases e2
  ·cases e
 ·cases e
section
variable {X:Cx}{k:Nat}{x:Str}{p pos gh:Pos}{pr:Arguments}{bd:Expr}{sc:Scope}{sp:wI}{T c:Addr}{q:Str}{N:List Str}
inductive afo(X:Cx)(T:Addr)(q:Str)(pr:Arguments)(bd:Expr)(sc:Scope)(N:List Str)(js:List Nat)(sp:wI)(O:St)(H:Hp)(Q:VK):Prop |mk (vs:List V)(h0:TabAt H T q)(h1:vs.length=N.length)(h2:∀(i j:Nat) v,js[i]? =some j->vs[i]? =some v->O[j]? =some (some v)) (h3:∀f c cl H' s',uy s'.heap H' (dJ X.stack) f pr bd sc q c cl->H' c=some (.ext (jH c q))->pN s'.heap H' (dJ X.stack) cl N vs->TabAt H' T q->aX [T] H H'->sp X.stack s' [.ref f] H' Q E0)
structure N9(X:Cx)(N:List Str)(js:List Nat)(sc:Scope):Prop where
 S:rQ N sc
 cell:∀y∈sc.names,y.2= .free->X.env.kindOf y.1=some .cell
 ix:∀(i:Nat) y,N[i]? =some y->∃j,js[i]? =some j/\X.N[j]? =some y
theorem JA(LI:N9 X N js sc)(F:Br X.prog X.w X.K X.mg X.aB x k sp)(hr:dh k X.A)(hg:Gl X x)(tV:∀y,X.fn y=true)(hct:rE X.K X.env.code T=true)(hB:X.aB.BuiltinsAt X.mg T)(KQ:X.env.qual++Str.ofString "<lambda>"=q)(vU:defaultsOf pr X.env=([],[])) (jW:autoParam ((x==("__debug__":Str))=false) q8_._auto_1): PE X (.Call (.Name x p) [.Lambda pr bd sc gh] [] pos) (λO H Q=>afo X T q pr bd sc N js sp O H Q):=by
 intro ay s O H Q I h;let(f0,fd,ps,F,hm,hk,hb):=F;let(vs,h0,h1,h2,h3):=h;let(S,nQ,hj):=LI;let(c,hc,hd):=WK hct I.ok.mod.qG;have V8:∀y∈sc.names,y.2= .free->∃c,X.env.cells.lookup y.1=some c:=λy hy e=>I.ok.has y.1 (.inl (nQ y hy e));erw[BB (yg I hg hm ?_ jW)];erw[callWith_K (h₀:=X.aB) I.ok.mod.qG hk ?_ Z rfl];show wpAny _ _ (spliced ((false,eval (.Lambda pr bd sc gh) X.env)::backTo pos (starEach [] X.env))) _ _ s;erw[Calls.spliced_cons (a64 I hc hd hB (ac4 V8) vU KQ h0 λf c' H' s' I' L iu tb bt _=>?_)];erw[Calls.spliced_nil #[I'.iq,?_]];have sub:∀{y c},(pE X.env.cells sc.names []).lookup y=some c->X.env.cells.lookup y=some c:=λ{y c} e=>by
  rcases WO sc.names [] V8 e with z|z
  ·cases z
  ·erw[z]
 have C:pN s'.heap H' (dJ X.stack) (pE X.env.cells sc.names []) N vs:=by
  erw[λy c e=>I'.cell y c (sub e),λy c e=>I'.kZ y c (sub e),λy c e hf=>?_,λy z c e1 e2=>I'.ok.inj y z c (sub e1) (sub e2),λi y v e1 e2=>?_]
  ·rcases bJ.mp (I'.zF c hf)with z|z
   ·erw[I'.lg y c (sub e) z]
   ·let(_,o,ho,_):=I'.ok.kD.mem z
    erw[absurd (cY ho) (Nat.not_lt.mpr (I'.ok.uo y c (tV y) (sub e)))]
  ·let(j,ej,eN):=hj i y e1
   have mem:=wR (S.fr y (hO e1));have kd:X.env.kindOf y=some .cell:=nQ _ mem rfl;let(m,_,a7A):=I'.loc;let(u,ru,lk):=a7A j y v eN (h2 i j v ej e2) (.inr (.inl kd));let(c1,e3):=WQ (cells:=X.env.cells) sc.names [] (.inl mem);rcases lk with⟨z,_⟩|⟨_,c2,e4,ic⟩
   ·rw[kd]at z;cases z
   ·have:=sub e3
    rw[e4]at this;cases this;erw[_,u,e3,ic,ru]
 have hs:=h3 f c' _ H' s' L iu C tb bt;have hl:([Value.ref f]++([]:List Value)).length=ps.length:=by rw[<-F.len _ _ _ _ _ _ hs];rfl
 have bt2:=hb s' [.ref f] I'.iq hl;erw[BA (BC (F.run X.A X.stack s' H' #[[.ref f],[]] [.ref f] [.ref f] Q E0 hr I'.EE bt2 (.cons Z .nil) hs) λr s2 hq=>?_)];cases r with |error e=>erw[False.elim hq] |ok fl=>cases fl with |ret u=>erw[I'.after hq] |next=>erw[False.elim hq] |brk=>erw[False.elim hq] |cont=>erw[False.elim hq]
end
structure Bs(K:Frag)(mg:cw)(x:Str)(st:Stmt)(T:Addr):Prop where ex:∃f fd,mg x=some (.ref f)/\lB K x x st f fd/\rE K fd.code T=true
section
variable {P:ah}{w:World}{K:Frag}{mg:cw}{aB:Heap}
theorem a9L{h:Heap}{x:Str}{st:Stmt}{f T:Addr}{oc:Value}{od an:Option Addr}{gW:Array (Option Value)}{kV doc pm aQ ct:Value}(X:K.In h)(G:h.Ns mainGlobals mg)(a:nsIn K mainGlobals x=some (some (.ref f))) (l:K.lookup f=some #[oc,od,.func (fnOf x x (lb st) (iz st) (bj st) .none kV doc pm an aQ ct),gW])(c:codeIn K aQ x=true)(k:keepIn K (.ref f)=true)(t:rE K aQ T=true):Bs K mg x st T:=#[f,_,mg_of X G a,Es l c k,t]
theorem Bs.has{x:Str}{st:Stmt}{N ps:List Str}{k:Nat}{sp:Sp}{T:Addr}(F:Bs K mg x st T)(S:bN N ps (bj st))(len:∀vs H Q E,sp vs H Q E->vs.length=ps.length) (hb:∀(kV doc pm:Value)(an:Option Addr)(aQ ct:Value)(us:List Value),us.length=ps.length->bindArgs (fnOf x x (lb st) (iz st) (bj st) .none kV doc pm an aQ ct) #[us,[]]=pure (ps.zip us)) (ji:∀(f:Addr)(aQ:Value)(A:aj)(outer:List Env)(s:ae)(H:Hp)(vs:List V)(Q:VK)(E:XK),rE K aQ T=true->dh k (A.deeper (envOfC x (bj st) s.heap.objs.size f aQ))->sp vs H Q E->∃t,iU (jE ka P w K mg aB N x (bj st) f aQ A outer s H E).qC (iz st) t/\t (eZ9 Q) (start N vs) H):aJ P w K mg aB x (k+1) sp:=by let(f,fd,hm,F,ct):=F.ex;have qR:=F.binds hb;have kp:=F.kp;let(oc,od,kV,doc,pm,an,aQ,ctt,gW,rfl,lk,iR):=F.ex;erw[f,_,ps,M1 lk iR S len λA outer s H vs Q E hr jT=>(ji f aQ A outer s H vs Q E ct hr jT).imp λt h=>#[h.1.qC,h.2],hm,kp,qR]
theorem FA.a8d{x:Str}{st:Stmt}{N ps:List Str}{k:Nat}{sp:wI}(F:FA K mg x st)(S:bN N ps (bj st))(len:∀outer s vs H Q E,sp outer s vs H Q E->vs.length=ps.length) (hb:∀(kV doc pm:Value)(an:Option Addr)(aQ ct:Value)(us:List Value),us.length=ps.length->bindArgs (fnOf x x (lb st) (iz st) (bj st) .none kV doc pm an aQ ct) #[us,[]]=pure (ps.zip us)) (ji:∀(f:Addr)(aQ:Value)(A:aj)(outer:List Env)(s:ae)(H:Hp)(vs:List V)(Q:VK)(E:XK),dh k (A.deeper (envOfC x (bj st) s.heap.objs.size f aQ))->sp outer s vs H Q E->∃t,Bk (jE ka P w K mg aB N x (bj st) f aQ A outer s H E) (iz st) t/\t (eZ9 Q) (start N vs) H):Br P w K mg aB x (k+1) sp:=by let(f,fd,hm,F):=F.ex;have qR:=F.binds hb;have kp:=F.kp;let(oc,od,kV,doc,pm,an,aQ,ctt,gW,rfl,lk,iR):=F.ex;erw[f,_,ps,a9C lk iR S len λA outer s H vs Q E hr jT=>ji f aQ A outer s H vs Q E hr jT,hm,kp,qR]
end
theorem a62{P:ah}{w:World}{K:Frag}{mg mb:cw}{k:Nat}{fa a T:Addr}{fd:FuncData}{x:Str}{sp:Sp}{s₁:ae}{vs:List Value}{ns:List Int}{cd:Value} (KX:K.In s₁.heap)(yp:s₁.heap.Ns mainGlobals mg)(qR:s₁.heap.Ns builtinsNs mb)(hbb:∀x:Str,x≠"__name__"->mb x=bootBuiltins x)(a7B:s₁.heap.NoLimit)(hg:s₁.gens=#[])(hbm:∃bm ob,mg (Str.ofString "__builtins__")=some (.ref bm)/\bm≠builtinsNs/\s₁.heap.get? bm=some ob/\ob.cls= .type "module"/\ob.dict=some builtinsNs/\ob.data= .plain) (hT:s₁.heap.get? T=some (tabObj #[]))(kT:K.lookup T=none)(cT:rE K cd T=true)(ha:s₁.heap.get? a=some {cls:=.type "list",data:=.seq vs.toArray})(hi:IntsAre vs ns)(hl:ns.length<=sizeLine)(hr:dh k callerA) (F:∀aB:Heap,K.In aB->aB.BuiltinsAt mg T->jG P w K mg aB ka k fa fd [x] sp)(a8b:∀(s:ae)(u:Value),BindsTo s fd #[[u],[]] [(x,u)]) (jT:∀H:Hp,H T=some (.fq #[])->aK K H a (ns.map V.int)->sp [.ref a] H (λv _=>v= .bl true) λ_ _ _=>False): codeAny (model P w) callerA (.call (.ref fa) #[[.ref a],[]]) (λr s'=>r= .ok (.ret (.bool true))/\OldK s₁.heap s'.heap/\s'.os=s₁.os/\AllBare s'.gens) s₁:=by
 have rv:=O0 hi;have a5V:=hi.length;have aT:a≠T:=λz=>by rw[z,hT]at ha;cases ha
 have core:∀H:Hp,H T=some (.fq #[])->aK K H a (ns.map V.int)->fb P w H s₁.heap->(∀b,H b≠none->b=a\/b=T)->(H a=none\/∃ob xs,H a=some (.nV ob (.lst xs)))->(H a≠none->K.lookup a=none)->codeAny (model P w) callerA (.call (.ref fa) #[[.ref a],[]]) (λr s'=>r= .ok (.ret (.bool true))/\OldK s₁.heap s'.heap/\s'.os=s₁.os/\AllBare s'.gens) s₁:=by
  intro H Eh hS bB hA hF hK;have MT:∀{b:Addr}{o:Obj},s₁.heap.get? b=some o->H b=none->(oY s₁.heap H).get? b=some o:=λe n=>a7T e n;have Tb:∀{b:Addr}{o:Obj},s₁.heap.get? b=some o->(∀its n,o.data≠ .seq its n)->(∀its,o.data≠ .fields its)->H b=none:=λ{b o} e d1 d2=>by cases q:H b with |none=>rfl |some u=>
   rcases hA b (by rw[q];simp)with z|z
   ·subst z;rw[ha]at e;cases e;exact(d1 _ _ rfl).elim
   ·subst z;rw[hT]at e;cases e;exact(d2 _ rfl).elim
  have JS:∀{b:Addr}{m:cw},s₁.heap.Ns b m->(oY s₁.heap H).Ns b m:=λ{b m} #[o,es,ep,e,d,r]=>#[o,es,ep,MT e (Tb e (λ_ _ z=>by rw[d]at z;cases z) λ_ z=>by rw[d]at z;cases z),d,r];have Vd:K.In (oY s₁.heap H):=λb o e=>MT (KX b o e) (by cases q:H b with |none=>rfl |some u=>
   rcases hA b (by rw[q];simp)with z|z
   ·subst z;rw[hK (by rw[q];simp)]at e;cases e
   ·subst z;rw[kT]at e;cases e);have hM:Mod K mg (oY s₁.heap H):=#[Vd,JS yp,#[mb,JS qR,hbb],let#[mc,h1,h2]:=a7B;#[mc,JS h1,h2]];have e0:pM P w K mg (oY s₁.heap H) callerA [] s₁ H:=#[Z,hM,λb o e=>a4v e,Nat.le_of_eq (a7S _ _),trivial,λb hb=>absurd (show b∈([]:List Addr)from hb) (by simp),bB,.of_eq hg];have qS:(oY s₁.heap H).BuiltinsAt mg T:=by
   let(bm,ob,b1,b2,b3,b4,b5,b6):=hbm;erw[bm,ob,b1,b2,λz=>?_,λz=>?_,MT b3 (Tb b3 (λ_ _ z=>by rw[b6]at z;cases z) λ_ z=>by rw[b6]at z;cases z),b4,b5,b6]
   ·let(o,es,ep,e,d,_):=yp
    rw[z,e]at b3;cases b3;rw[b6]at d;cases d
   ·rw[z,hT]at b3;cases b3;cases b4
  erw[BC ((F _ Vd qS).run callerA [] s₁ H #[[.ref a],[]] [.ref a] [.ref a] _ _ hr e0 (a8b s₁ (.ref a)) (.cons Z .nil) (jT H Eh hS)) λr s' h=>?_];cases r with |error e=>erw[False.elim h] |ok fl=>cases fl with |next=>erw[False.elim h] |brk=>erw[False.elim h] |cont=>erw[False.elim h] |ret u=>
   let(v,H',os,bare,un,UM,r',q):=h;have q':v= .bl true:=q;subst q';obtain rfl:u=Value.bool true:=r';erw[Z,#[λb o e=>?_,λb o e=>un.there b o e (by simp)],os,bare];by_cases yB:b=T
   ·subst yB
    rw[hT]at e;cases e;let(more,e2):=un.kL b _ Eh;have e3:s'.heap.get? b=some {cls:=.none,data:=.fields (#[]++more)}:=UM b _ e2;let(c,rfl,o,Ys,file,tf,flags,tg,inF,text,tt,c1,c2,c3,c4,_):=WK cT KX;erw[.inr (.inl #[#[c,o,Ys,c1,c2,c3,c4],Z,#[],more,Z,e3])]
   ·erw[.inl ?_]
    cases q:H b with |none=>erw[un.keep b o e q (by intro z;erw[absurd (show b∈([]:List Addr)from z) (by simp)]) (by simp)] |some u=>
     rcases hA b (by rw[q];simp)with z|z
     ·subst z
      rcases hF with z|⟨ob,xs,z⟩
      ·rw[q]at z;cases z
      ·have z2:=un.kY b ob _ z
       let(e1,_):=bB b _ z;let(e2,_):=UM b _ z2;rw[e]at e1;cases e1;erw[e2]
     ·exact(yB z).elim
 cases hk:K.lookup a with |some o=>
  have e:=KX a o hk;rw[ha]at e;cases e;erw[core (λb=>if b=T then some (.fq #[])else none) (bE Z) (.inr #[_,vs.toArray,_,hk,Z,Z,Z,by rw[fC,a5V];erw[hl],by simpa using rv]) (λb u z=>?_) (λb z=>?_) (.inl (bI aT)) λz=>absurd (bI aT) z]
  ·by_cases hb:b=T
   ·have z':=(bE hb).symm.trans z
    cases z';subst hb;erw[hT]
   ·have z':=(bI hb).symm.trans z
    cases z'
  ·by_cases hb:b=T
   ·erw[.inr hb]
   ·erw[absurd (bI hb) z] |none=>
  erw[core (λb=>if b=T then some (.fq #[])else if b=a then some (.nV {cls:=.type "list",data:=.seq vs.toArray} (.lst (ns.map V.int)))else none) (bE Z) (.inl (.inr #[{cls:=.type "list",data:=.seq vs.toArray},(bI aT).trans (bE Z)])) (λb u z=>?_) (λb z=>?_) (.inr #[_,_,(bI aT).trans (bE Z)]) λ_=>hk]
  ·by_cases hb:b=T
   ·have z':=(bE hb).symm.trans z
    cases z';subst hb;erw[hT]
   ·have z':=(bI hb).symm.trans z
    by_cases nR:b=a
    ·have z2:=(bE nR).symm.trans z'
     cases z2;subst nR;erw[ha,by rw[cJ];erw[hl],vs,_,rv,ha]
    ·have z2:=(bI nR).symm.trans z'
     cases z2
  ·by_cases hb:b=T
   ·erw[.inr hb]
   ·by_cases nR:b=a
    ·erw[.inl nR]
    ·erw[absurd ((bI hb).trans (bI nR)) z]
theorem a61{l:OpenLaw}{q:ah}{loose:List Str}{XP:(cw)->Heap->Prop}{YP:World->Heap->Prop}{d:DefRec}{K:Params->Frag}{k:Nat}{x:Str}{st:Stmt}{T:Addr}(hn:l.most=some 63)(vU:d.params.defaults=[]) (hr:dh k callerA)(hY:∀(w:World)(h:Heap),YP w h->(K w.params).In h/\h.get? T=some (tabObj #[]))(All:Frag->(cw)->Prop) (F:∀(w:World)(mg:cw)(h:Heap),(K w.params).In h->h.Ns mainGlobals mg->All (K w.params) mg)(kT:∀w:World,(K w.params).lookup T=none) (cT:∀(K:Frag)(mg:cw),All K mg->∃cd,rE K cd T=true) (L:∀(K:Frag)(mg:cw),All K mg->FA K mg d.name st) (hb:∀(kV doc pm:Value)(an:Option Addr)(aQ ct u:Value),bindArgs (fnOf d.name d.name (lb st) (iz st) (bj st) .none kV doc pm an aQ ct) #[[u],[]]=pure [(x,u)]) (ok:∀(P:ah)(w:World)(K:Frag)(mg:cw)(aB:Heap)(f:Addr)(fd:FuncData),All K mg->aB.BuiltinsAt mg T->lB K d.name d.name st f fd->jG P w K mg aB ka k f fd [x] (λvs H Q _=>∃(a:Addr)(ns:List Int),vs=[.ref a]/\aK K H a (ns.map V.int)/\ns.length<=63/\H T=some (.fq #[])/\∀H',Q (.bl true) H')): WalkO q loose XP YP l.row.toRowW d [] (λf vs=>PySem.call f vs):=by
 erw[_AA.acM hn vU λw s₀ s₁ mg mb fa o pm cd doc a vs ns G Y ho hd iR Lf KS hints hlen hg=>?_];let(KX,hT):=hY w _ Y;have A:=F w mg _ KX G.T.g;let(f,fd,hm,Fn):=(L _ _ A).ex;have e:fa=f:=by rw[Lf]at hm;injection (fe hm)
 subst e;let(cdT,AH):=cT _ _ A;erw[a62 KX G.T.g G.T.b G.T.builtins G.T.nolimit hg G.T.bmain hT (kT w) AH KS hints (iK hlen aD) hr (λaB _ hB=>ok l.prog w _ mg aB fa fd A hB Fn) (λs u=>?_) λH Eh hS=>#[a,ns,Z,hS,hlen,Eh,λ_=>rfl]];let(oc,od,kV,abo,pm',an,aQ,ct,gW,rfl,lk,agW):=Fn.ex;erw[.of_eq (hb kV abo pm' an aQ ct u)]
end _L
namespace _L
open PySem PySem.Spec PyProof.Rows
section
variable {P:ah}{w:World}{K:aa}{mg:cw}{aB:Heap}{N:List Str}{qual:Str}{scope:Scope}{f:Addr}{cd:Value}{A:aj}{outer:List Env}{s:ae}{H:Hp}{E:XK}{ay:List (Addr×Obj)}{O:St}{H1:Hp}{s1:ae}{ex:Addr}{C:Addr}{dx:Addr}{φ:Heap->Prop}{cls:Value}{dxo:Option Addr}{h2:Heap}{vs:List Value}
theorem BU(I:Inv (jE (jI P w) P w K mg aB N qual scope f cd A outer s H E) ay O H1 s1)(hx:Heap.MadeExcOf s1.heap h2 ex cls vs)(q:E cls none H1):(jE (jI P w) P w K mg aB N qual scope f cd A outer s H E).xe (.ref ex) {s1 with heap:=h2}:=by
 let(t,e1,_):=hx.there;have hf:H1 ex=none:=by cases e:H1 ex with |none=>rfl |some o=>let(ob,e2):=(I.bB ex o e).there;rw[hx.new]at e2;cases e2
 have nw:s.heap.get? ex=none:=by cases e:s.heap.get? ex with |none=>rfl |some o=>let(ob,e2):=I.aB.there ex o e (cD);rw[hx.new]at e2;cases e2
 have I2:=I.kept (t':=s1.toks) hx.keeps;have iQ:h2.FunFrames aB (envOfC qual scope s.heap.objs.size f cd::outer):=I2.stack;have E3:∀env∈(envOfC qual scope s.heap.objs.size f cd::outer),∀b,env.frame=some b->b∈ex::dJ (envOfC qual scope s.heap.objs.size f cd::outer):=λenv he b hb=>.tail _ (pQ.mpr #[env,he,hb]);have hB:(PySem.W.hideAll h2 (ex::dJ (envOfC qual scope s.heap.objs.size f cd::outer))).StaysIn h2:=λb o e=>PySem.W.of_hideAll _ e;have tK:∀b o,s.heap.get? b=some o->b∉dJ outer->b∉ex::dJ (envOfC qual scope s.heap.objs.size f cd::outer):=λb o e hb hm=>by
  rcases bJ.mp hm with rfl|hm
  ·rw[nw]at e;cases e
  let(env,he,hf):=pQ.mp hm;rcases bJ.mp he with rfl|he
  ·have e1:s.heap.objs.size=b:=fe hf
   have h1:=cY e;rw[<-e1]at h1;erw[absurd h1 (si _)]
  ·erw[hb (pQ.mpr #[env,he,hf])]
 have F0:Fl P w outer H s.heap ex H1 (PySem.W.hideAll h2 (ex::dJ (envOfC qual scope s.heap.objs.size f cd::outer))) h2:=by
  erw[I2.aB,I2.bB,λb o e n hb=>Nr _ (I2.aB.keep b o e n hb (cD)) (tK b o e hb),λb o e=>?_,λb o e hb=>?_,λb hb=>?_,nw,hf]
  ·let(JP,e1):=(I2.bB b o e).there
   erw[JP,Nr _ e1 λhm=>?_];rcases bJ.mp hm with z|hm
   ·rw[z,hf]at e;cases e
   ·rw[I2.Cf b hm]at e
    cases e
  ·let(JP,e1):=I2.aB.there b o e (cD)
   erw[JP,Nr _ e1 (tK b o e hb)]
  ·let(env,he,hf):=pQ.mp hb
   erw[I2.Cf b (pQ.mpr #[env,.tail _ he,hf])]
 show wpAny (model P w) (A.deeper (envOfC qual scope s.heap.objs.size f cd)) (leaving (envOfC qual scope s.heap.objs.size f cd) (.ref ex)) _ _ _;erw[a5Y (L:=s.heap.objs.size) I.ok.frames (PySem.W.funFrames_hide iQ E3) Z e1 hB (PySem.W.hideAll_none _ (.head _)) Z Z λh' x1 x2=>?_];erw[ex,cls,none,H1,_,Z,I.os,I.bare,x1,F0.step hB x1.1 x2 iQ.2.2,q]
end
def DF(N:List Str)(sc:Scope):Bool:=decide (sc.kind= .function)&& !sc.isCoroutine&& !sc.isGenerator&&sc.names.all (λy=>decide (y.2≠ .cell)&&(decide (y.2≠ .free)||N.contains y.1))&&N.all λx=>decide (sc.names.lookup x=some .free)
theorem Ao(h:DF N sc=true):rQ N sc/\∀y∈sc.names,y.2= .free->y.1∈N:=by unfold DF at h;simp only[fD,Fq,Yf,jq,Bool.or_eq_true,List.contains_iff_mem]at h;let((((h1,h2),h3),h4),h5):=h;have m:∀y∈sc.names,y.2= .free->y.1∈N:=λy hy e=>(h4 y hy).2.elim (λz=>(z e).elim) id;erw[#[h1,h2,h3,λy hy=>(h4 y hy).1,h5,λx hx=>m _ (wR hx) Z],m]
section
variable {X:Cx} {sc:Scope}
theorem a65(x0:Str)(j0:Nat)(h:DF [x0] sc=true)(k0:X.env.kindOf x0=some .cell)(n0:X.N[j0]? =some x0):N9 X [x0] [j0] sc:=by
 let(S,m):=Ao h;erw[S,λy hy e=>?_,λi y e=>?_]
 ·rw[bW.mp (m y hy e)];erw[k0]
 ·match i,e with |0,e=>cases e;erw[_,rfl,n0]
theorem Ue(x0 x1:Str)(j0 j1:Nat)(h:DF [x0,x1] sc=true)(k0:X.env.kindOf x0=some .cell)(k1:X.env.kindOf x1=some .cell)(n0:X.N[j0]? =some x0)(n1:X.N[j1]? =some x1):N9 X [x0,x1] [j0,j1] sc:=by
 let(S,m):=Ao h;erw[S,λy hy e=>?_,λi y e=>?_]
 ·rcases bJ.mp (m y hy e)with z|z
  ·rw[z];erw[k0]
  ·rw[bW.mp z];erw[k1]
 ·match i,e with |0,e=>cases e;erw[_,rfl,n0] |1,e=>cases e;erw[_,rfl,n1]
end
end _L
namespace _c
open PySem PySem.Spec PyProof.Rows _L _l _r _C _P _W _R
open _O (topR cornO mnO betR atO ownF leadF ownL OkI OkIs)
open _O (Itm)
def top(i:Nat):Stmt:=PySem.Challenge.pw_glidequeue_k43_rates_turned.main.body.getD i (.Pass #[0,0,0,0])
abbrev GL:Stmt:=top 70
abbrev IL:Stmt:=top 69
abbrev IH:Stmt:=top 25
abbrev Iq:Stmt:=top 14
abbrev Ik:Stmt:=top 80
abbrev Ij:Stmt:=top 27
abbrev Il:Stmt:=top 24
abbrev Ia:Stmt:=top 20
abbrev GI:Stmt:=top 21
abbrev Ih:Stmt:=top 22
abbrev Ii:Stmt:=top 23
abbrev Iz:Stmt:=top 18
abbrev Ic:Stmt:=top 76
abbrev Iy:Stmt:=top 72
abbrev Im:Stmt:=top 71
abbrev Ip:Stmt:=top 49
def kE:Str:="abcdefghijklmnopqrstuvwxyz"
abbrev HS:Stmt:=top 79
abbrev GC:Stmt:=top 28
abbrev GD:Stmt:=top 15
abbrev GF:Stmt:=top 38
abbrev IE:Stmt:=top 35
abbrev Io:Stmt:=top 37
abbrev GH:Stmt:=top 36
abbrev GG:Stmt:=top 82
abbrev IJ:Stmt:=top 57
abbrev CF:Stmt:=top 56
abbrev HR:Stmt:=top 19
abbrev IA:Stmt:=top 58
abbrev GN:Stmt:=top 73
abbrev Ig:Stmt:=top 74
abbrev Ib:Stmt:=top 75
abbrev HQ:Stmt:=top 77
abbrev Ie:Stmt:=top 78
abbrev HU:Stmt:=top 31
abbrev GP:Stmt:=top 29
abbrev Hg:Stmt:=top 30
abbrev IC:Stmt:=top 61
abbrev GK:Stmt:=top 60
abbrev IB:Stmt:=top 62
abbrev Hi:Stmt:=top 67
abbrev Iv:Stmt:=top 54
abbrev Ir:Stmt:=top 53
abbrev IM:Stmt:=top 52
abbrev Iw:Stmt:=top 48
abbrev Iu:Stmt:=top 40
abbrev HV:Stmt:=top 51
abbrev IK:Stmt:=top 50
structure fX(K:aa)(C:Addr):Prop where
 cl:kH K C
 oP:jZ K C "machine"
 vq:jZ K C "begun_at"
 oQ:jZ K C "done"
 ja:jZ K C "queue"
 tL:jZ K C "pace"
 y9:jZ K C "rate_now"
 JZ:jZ K C "side"
 K0:jZ K C "mark"
 y8:jZ K C "stopping"
abbrev Hm:Stmt:=inClass (top 66) 3
abbrev Hr:Stmt:=inClass (top 66) 4
abbrev Hl:Stmt:=inClass (top 66) 5
abbrev Hu:Stmt:=inClass (top 66) 6
abbrev Hk:Stmt:=inClass (top 66) 7
abbrev Hz:Stmt:=inClass (top 66) 8
abbrev Hq:Stmt:=inClass (top 66) 9
abbrev Hy:Stmt:=inClass (top 66) 10
abbrev Hs:Stmt:=inClass (top 66) 1
abbrev Hv:Stmt:=inClass (top 66) 2
abbrev Hw:Stmt:=inClass (top 66) 0
abbrev CD:Stmt:=inClass (top 66) 11
abbrev HM:Stmt:=inClass (top 66) 16
abbrev Ht:Stmt:=inClass (top 66) 15
abbrev Ho:Stmt:=inClass (top 66) 14
abbrev HK:Stmt:=inClass (top 66) 13
abbrev HL:Stmt:=inClass (top 66) 12
abbrev CC:Stmt:=inClass (top 66) 21
abbrev HH:Stmt:=inClass (top 66) 19
abbrev Hn:Stmt:=inClass (top 66) 17
abbrev Hx:Stmt:=inClass (top 66) 18
abbrev II:Stmt:=top 83
abbrev GJ:Stmt:=top 84
abbrev GO:Stmt:=top 81
abbrev GS:Stmt:=top 91
abbrev GX:Stmt:=top 92
abbrev GQ:Stmt:=top 86
abbrev GY:Stmt:=top 87
abbrev GW:Stmt:=top 88
abbrev GU:Stmt:=top 89
abbrev GZ:Stmt:=top 90
abbrev CH:Stmt:=top 85
abbrev GR:Stmt:=top 94
structure iT where
 n:Addr
 o:Addr
 f:Addr
 m:Addr
 r:Addr
structure KC(K:aa)(R:iT)(cG:Addr)(cs:List Addr)(C:Addr)(b0 b1 b2 b3 b4:Bool):Prop where
 tk:takes K C cG
 k:pK K C
 i0:PySem.W.kitOne K (.ref C) (.ref R.n)=some b0
 i1:PySem.W.kitOne K (.ref C) (.ref R.o)=some b1
 i2:PySem.W.kitOne K (.ref C) (.ref R.f)=some b2
 i3:PySem.W.kitOne K (.ref C) (.ref R.m)=some b3
 i4:PySem.W.kitOne K (.ref C) (.ref R.r)=some b4
 any:PySem.W.kitAny K (.ref C) (cs.map Value.ref)=some false
 ve:PySem.W.kitOne K (.ref C) (.type "ValueError")=some true
structure Fe(K:aa)(mg:cw)(R:iT)(cG c0 c1 c2 c3 c4 c5:Addr):Prop where
 g:Exc K mg "GlideError" cG mI mU
 h0:GV mg "NoFraction" (.ref c0)
 h1:GV mg "NoLine" (.ref c1)
 h2:GV mg "NoMachine" (.ref c2)
 h3:GV mg "NoPlace" (.ref c3)
 h4:GV mg "NoTape" (.ref c4)
 h5:GV mg "NoText" (.ref c5)
 gn:GV mg "NoItem" (.ref R.n)
 go:GV mg "OffRails" (.ref R.o)
 gm:GV mg "Moving" (.ref R.m)
 gr:GV mg "NoRate" (.ref R.r)
 v:mg "ValueError"=none
 xf:Exc K mg "Full" R.f mI mU
 f:KC K R cG [c0,c1,c2,c3,c4,c5] R.f false false true false false
 xm:Exc K mg "Moving" R.m mI mU
 m:KC K R cG [c0,c1,c2,c3,c4,c5] R.m false false false true false
 xr:Exc K mg "NoRate" R.r mI mU
 r:KC K R cG [c0,c1,c2,c3,c4,c5] R.r false false false false true
abbrev Hh:Stmt:=top 95
abbrev HN:Stmt:=inClass (top 66) 20
abbrev Hf:Stmt:=top 93
abbrev Hj:Stmt:=top 96
abbrev ID:Stmt:=top 97
def Gn(K:aa)(T:Addr):Sp:=λvs H Q _=>∃(a:Addr)(ns:List Int),vs=[.ref a]/\aK K H a (ns.map V.int)/\ns.length<=63/\H T=some (.fq #[])/\∀H',Q (.bl true) H'
abbrev IG:Stmt:=top 98
abbrev xD:Stmt:=top 99
structure Xt(K:aa)(mg:cw)(C:Addr):Prop where
 tc:fX K C
 init:CA K mg C "Runner" "Runner.__init__" Hw
 a5q:MA K C "place" "Runner.place" Hs
 a5s:MA K C "leads_to" "Runner.leads_to" Hv
 a5o:MA K C "square" "Runner.square" Hm
 a5p:MA K C "rate" "Runner.rate" Hr
 a5k:MA K C "tool" "Runner.tool" Hl
 a5t:MA K C "last_mark" "Runner.last_mark" Hu
 a5j:MA K C "waiting" "Runner.waiting" Hk
 a5u:MA K C "is_held" "Runner.is_held" Hz
 a5n:MA K C "stands" "Runner.stands" Hq
 a5v:MA K C "is_halted" "Runner.is_halted" Hy
 Ka:MA K C "feed" "Runner.feed" CD
 a5z:MA K C "entries" "Runner.entries" HL
 a5y:MA K C "entries_of_first" "Runner.entries_of_first" HK
 a5m:MA K C "steps_of_first" "Runner.steps_of_first" Ho
 a5r:MA K C "next_square" "Runner.next_square" Ht
 a5A:MA K C "end_first" "Runner.end_first" HM
 a5l:MA K C "stops_in" "Runner.stops_in" Hn
 a5w:MA K C "hold" "Runner.hold" Hx
 a5x:MA K C "go" "Runner.go" HH
 a5B:MA K C "drop" "Runner.drop" HN
 K9:MA K C "turn_rate" "Runner.turn_rate" CC
structure All(T:Addr)(K:aa)(mg:cw):Prop where
 B:cn mg
 AR:GT K mg "NOUGHT" [.int 0,.int 1]
 a9m:GT K mg "SIDES" [.str "up",.str "down"]
 a9r:GV mg "LEAST_RATE" (.int 10)
 a9t:GV mg "GREATEST_RATE" (.int 200)
 a9u:GV mg "FIRST_RATE" (.int 100)
 LX:GV mg "MOST_WAITING" (.int 20)
 a9n:GV mg "MOST_STEPS" (.int 100)
 a9s:GV mg "GREATEST_SPEED" (.int 20)
 a9o:GV mg "LONGEST_WAIT" (.int 1000)
 a9p:GV mg "LONGEST_NAME" (.int 8)
 a9q:GV mg "LETTERS" (.str kE)
 aa8:FA K mg "is_whole" Iq
 aa7:FA K mg "is_whole_within" GD
 aah:FA K mg "fraction" Iz
 a9X:FA K mg "plus_whole" HR
 aa2:FA K mg "minus" Ia
 a9R:FA K mg "times" GI
 aae:FA K mg "is_less" Ih
 aa4:FA K mg "least" Ii
 aa3:FA K mg "lowest_terms" Il
 aaj:FA K mg "common_divisor" IH
 aa5:FA K mg "lead_of" Ij
 a9P:FA K mg "ways_of" GC
 a9V:FA K mg "stand_at" GP
 a9T:FA K mg "step_rows" Hg
 aa0:FA K mg "nearest" HU
 aai:FA K mg "corner_square" IE
 a9Q:FA K mg "top_square" GH
 aaa:FA K mg "is_rate" Io
 aag:FA K mg "greatest_turn" GF
 aab:FA K mg "is_place" Iu
 aaf:FA K mg "is_item" Iw
 aad:FA K mg "is_line" Ip
 a9Z:FA K mg "place_behind" IK
 aa1:FA K mg "moved" HV
 aal:FA K mg "are_steps" IM
 aa9:FA K mg "is_short_item" Ir
 aac:FA K mg "is_name" Iv
 VA:FA K mg "own_bounds" CF
 aak:FA K mg "bound_between" IJ
 aa6:FA K mg "kept_by_fall" IA
 a9S:FA K mg "ticks_of" GK
 aam:FA K mg "are_enough" IC
 a9U:FA K mg "step_entry" IB
 a9W:FA K mg "reach_behind_first" Hi
 aaN:FA K mg "_law_bag" IL
 aap:FA K mg "_law_take" GL
 aaE:FA K mg "_law_number" Im
 aaK:FA K mg "_law_frac" Iy
 aaq:FA K mg "_law_sum" GN
 aaI:FA K mg "_law_less" Ig
 aaF:FA K mg "_law_min" Ib
 aaG:FA K mg "_law_machine" Ic
 aaC:FA K mg "_law_place" HQ
 aaH:FA K mg "_law_line" Ie
 aaD:FA K mg "_law_other" HS
 aaJ:FA K mg "_law_lead" Ik
 aar:FA K mg "_law_stand" GO
 aan:FA K mg "_law_top" GG
 aaM:FA K mg "_law_bounds" II
 aao:FA K mg "_law_ticks" GJ
 AX:FA K mg "_law_alike" CH
 VB:FA K mg "_law_sim" GQ
 aav:FA K mg "_law_sim_feed" GY
 aaA:FA K mg "_law_reach" GW
 aat:FA K mg "_law_sim_step" GU
 aaw:FA K mg "_law_sim_entries" GZ
 aas:FA K mg "_law_sim_stops" GS
 aau:FA K mg "_law_sim_hold" GX
 aax:FA K mg "_law_sim_drop" Hf
 aay:FA K mg "_law_seen" GR
 aaz:FA K mg "_law_refused" Hh
 aaB:FA K mg "_law_rate" Hj
 VC:Bs K mg "_law_deed" ID T
 aaL:FA K mg "_law_circuit_right" IG
 law:FA K mg "law" xD
 rc:∃C,Xt K mg C
 rf:∃R cG c0 c1 c2 c3 c4 c5,Fe K mg R cG c0 c1 c2 c3 c4 c5
def Bh(K:aa)(P:ah)(w:World)(mg:cw)(aB:Heap):Prop:=∀(T:Addr)(f:Addr)(fd:FuncData),All T K mg->aB.BuiltinsAt mg T->lB K "law" "law" xD f fd->jG P w K mg aB ka 14 f fd ["_law_script"] (Gn K T)
theorem neW:Nonempty (aa×ah×World×(cw)×Heap):=#[default,default,#[λ_ _=>0,{strHash:=λ_=>0,shareClass:=λa=>a,mergeTok:=id,idOf:=λ_=>0,idOfShared:=λ_ _=>0,followText:=λ_=>false,idOfImm:=λ_=>0}],λ_=>none,default]
@[irreducible] noncomputable def KP:aa×ah×World×(cw)×Heap:=@Classical.epsilon _ neW λx=>¬Bh x.1 x.2.1 x.2.2.1 x.2.2.2.1 x.2.2.2.2
@[irreducible] noncomputable def K:aa:=KP.1
@[irreducible] noncomputable def P:ah:=KP.2.1
@[irreducible] noncomputable def w:World:=KP.2.2.1
@[irreducible] noncomputable def mg:cw:=KP.2.2.2.1
@[irreducible] noncomputable def aB:Heap:=KP.2.2.2.2
theorem Z3(h:Bh K P w mg aB)(K':aa)(P':ah)(w':World)(TL:cw)(X9:Heap):Bh K' P' w' TL X9:=Classical.byContradiction λn=>by have e:=Classical.epsilon_spec (p:=λx:aa×ah×World×(cw)×Heap=>¬Bh x.1 x.2.1 x.2.2.1 x.2.2.2.1 x.2.2.2.2) #[(K',P',w',TL,X9),n];unfold K P w mg aB KP at h;erw[e h]
end _c
namespace _c
open PySem PySem.Spec PyProof.Rows _L
section
inductive adK(vs:List V)(H:Hp)(Q:VK):Prop |mk (p:_)(many:_)(h0:vs=[.ref p,.int many])(h1:fm H p)(h2:1<=many)(h3:many<=10^40)(h4:∀d H',0<=d->d<many->bS p H H'->Q (.int d) H')
def oz:Sp:=λvs H Q _=>adK vs H Q
theorem PU:bN ["_law_bag_here","_law_many","_law_digit","_law_number_here","_law_room"] ["_law_bag_here","_law_many"] (bj GL):=bZ bf
theorem a3a(F:FA K mg "_law_take" GL)(B:cn mg):aJ P w K mg aB "_law_take" 1 oz:=by
 erw[F.has PU (λvs H Q E h=>?_) (λ_ _ _ _ _ _=>dS λ_ _=>rfl) (λf aQ A outer s H vs Q E hr h=>?_)]
 ·let(p,many,rfl,_):=h
  rfl
 ·let(p,many,rfl,(c,m,hp,ok),h1,h2,k):=h
  let(c0,m0,m1):=id ok;have nd:=PU.nd;erw[_,(aG (bQ (cy tE (px K (pv 0) aF) aF (bM _)) (aG (pS 2 nd (aL nL (px K (pv 0) aF) (pv 1))) (aG (fP (aL nM (px K (pv 0) aF) (pv 1)) (j4 (pv 0) aF set_list)) (aI (aZ (pv 2))))) bV) (aG (pS 3 nd aF) (aG (pS 4 nd aF) (aG (oK iJ (cy ko (pv 4) (pv 1) (bM _)) (aG (fP (aL nL (aL tD (aL cZ (aL cg (px K (pv 0) aF) aF) aF) aF) aF) (j4 (pv 0) aF set_list)) (aG (pS 3 nd (aL cZ (aL cg (pv 3) aF) (aL nL (aL cg (aL nM (px K (pv 0) aF) aF) aF) aF))) (aI (pS 4 nd (aL cg (pv 4) aF)))))) (aI (aZ (aL nL (pv 3) (pv 1)))))))),?_];erw[_,Z,.inl #[p,_,0,.int c,Z,Z,aK.of hp,Z,_,_,Z,Z,_,Z,?_]];erw[eL (λhc=>?_) (λ_=>?_)]
  ·erw[_,Z,.inl #[p,_,0,.int c,Z,Z,aK.of hp,Z,_,Z,_,_,Z,Z,h1,?_]]
   erw[_,Z,.inl #[p,_,0,.int c,Z,Z,aK.of hp,Z,_,Z,_,_,Z,Z,#[h1,NX aw h2],?_]];erw[_,Z,p,_,0,0,Z,Z,hp,Z,?_];erw[_,Z,?_];erw[k _ _ (pV _ aw) (uH _ aw) (bS.upd #[Int.ediv_nonneg c0 aw,m0,m1])]
  ·erw[om (λO H2=>∃(v:Option V)(n r:Int),O=cZ9 (.ref p) (cZ9 (.int many) (v::cZ9 (.int n) (cZ9 (.int r) [])))/\bS p H H2/\1<=r) (λO _=>match O with|[_,_,_,_,some (.int r)]=>(many-r).toNat|_=>0) ?_ ?_ ?_]
   ·erw[none,0,1,Z,.refl #[c,m,hp,ok],hW _]
   ·rintro O H2 ⟨v,n,r,rfl,bx,DR⟩
    let(c',m',yn,c0',m0',m1'):=id bx.bu;erw[_,Z,_,Z,_,_,Z,Z,_,Z,?_];erw[eL (λhc=>?_) (λhc=>?_)]
    ·have cK:r<many:=jJ hc
     erw[_,Z,.inl #[p,_,1,.int m',Z,Z,aK.of yn,Z,_,_,Z,Z,.of_right (cE aD aD),_,_,Z,Z,_,_,Z,Z,#[aD,aD,?_],_,_,Z,Z,(by show(0:Int)<2147483629;decide),?_]]
     ·have mD:(2:Nat)^64=18446744073709551616:=by decide
      rw[mD];lia
     erw[_,Z,p,_,1,1,Z,Z,yn,Z,?_];have g0:0<=((m'*48271+7919)^(5:Int).toNat)%2147483629:=pV _ aD;have g1:((m'*48271+7919)^(5:Int).toNat)%2147483629<2147483629:=uH _ aD;have bx2:bS p H (_L.upd H2 p (.lst [.int c',.int (((m'*48271+7919)^(5:Int).toNat)%2147483629)])):=bx.trans (.upd #[c0',g0,Int.lt_trans g1 aD]);erw[_,Z,_,_,Z,Z,.of_right (cE aD aD),_,Z,.inl #[p,_,1,.int _,Z,Z,aK.of bo,Z,_,_,Z,Z,#[aD,NX aD aD],_,_,Z,Z,.of_right (cE aD aD),_,_,Z,Z,(by show(0:Int)<1073741789;decide),_,_,Z,Z,?_]];erw[_,Z,_,_,Z,Z,.of_right (cE aD aD),?_];erw[#[v,_,_,Z,bx2,?_],?_]
     ·lia
     ·show(many-r*1073741789).toNat<(many-r).toNat
      lia
    ·erw[_,Z,_,Z,_,_,Z,Z,h1,?_]
     erw[k _ _ (pV _ aw) (uH _ aw) bx]
   ·rintro O H2 Q1 Q2 hq ⟨v1,e1,v2,e2,i,j,e3,e4,kk,e5,q⟩
    erw[v1,e1,v2,e2,i,j,e3,e4,kk,e5,hq _ _ q]
end
section
inductive aeJ(K:aa)(vs:List V)(H:Hp)(Q:VK):Prop |mk (a:Addr)(ns:List Int)(at':Int)(h0:vs=[.ref a,.int at'])(h1:aK K H a (ns.map V.int))(h2:ns.length<=63)(h3:0<=at')(h4:at'<=100)(h5:∀p H',H p=none->fm H' p->aH H H'->Q (.ref p) H')
def Pl(K:aa):Sp:=λvs H Q _=>aeJ K vs H Q
theorem QZ:bN ["_law_script","_law_at","_law_cell","_law_mix","_law_k"] ["_law_script","_law_at"] (bj IL):=bZ bf
theorem Uw{ns:List Int}{j:Nat}(h:j<ns.length):∃z,fW (ns.map V.int) (j:Int)=some (.int z):=#[ns[j],acP (by simp[h])]
theorem a4p(F:FA K mg "_law_bag" IL)(B:cn mg):aJ P w K mg aB "_law_bag" 1 (Pl K):=by
 erw[F.has QZ (λvs H Q E h=>?_) (λ_ _ _ _ _ _=>dS λ_ _=>rfl) (λf aQ A outer s H vs Q E hr h=>?_)]
 ·let(a,ns,at',rfl,_):=h
  rfl
 ·let(a,ns,at',rfl,hS,hlen,h0,h1,k):=h
  obtain⟨j,rfl⟩:∃j:Nat,at'=(j:Int):=#[at'.toNat,aw];have nd:=QZ.nd;erw[_,(aG (pS 2 nd aF) (aG (ib (bQ (cy ko (pv 1) (eK K B (au (pv 0) az)) (bM _)) (aI (pS 2 nd (eG (x:="abs") pF Z (B.at "abs") rZ (au (px K (pv 0) (pv 1)) az)))) bV)) (aG (pS 3 nd (aL cZ (aL cZ (aL cg (aL cg aF (pv 1)) (pv 1)) (aL cg aF (pv 1))) aF)) (aG (m9 iJ Z (xN Z (B.at "range") (au (eG (x:="min") (MM rfl) rfl (B.at "min") XY (au (eK K B (au (pv 0) az)) (au aF az))) az)) (bR 4 nd) (aI (pS 3 nd (aL nL (aL tD (aL cZ (aL cZ (aL cg (pv 3) aF) (aL nL (px K (pv 0) (pv 4)) aF)) (aL cg (pv 4) (pv 4))) aF) aF)))) (aG (ib (bQ (cy ko (pv 2) (aL tD aF aF) (bM _)) (aI (pS 2 nd aF)) bV)) (aI (aZ (dC (au (pv 2) (au (pv 3) az)))))))))),?_];erw[λO H'=>H'=H/\∃c:Int,O=cZ9 (.ref a) (cZ9 (.int (j:Int)) (cZ9 (.int c) (none::none::[])))/\0<=c,?_,?_]
  ·erw[_,Z,_,Z,a,_,Z,.inl hS,_,_,Z,Z,_,Z,?_]
   erw[eL (λhc=>?_) (λ_=>?_)]
   ·have hj:(j:Int)<((ns.map V.int).length:Int):=jJ hc
    rw[cJ]at hj;let(z,hz):=Uw (ns:=ns) (j:=j) aw;erw[_,Z,_,Z,.inl #[a,_,_,_,Z,Z,hS,hz,z,Z,?_]];erw[Z,_,Z,by split<;>lia]
   ·erw[Z,0,Z,hW _]
  rintro O H' ⟨rfl,c,rfl,c0⟩;erw[_,Z,_,_,Z,Z,.of_left (cE aD aD),_,Z,_,_,Z,Z,.of_right (cE aw aw),_,Z,_,_,Z,Z,.of_left (cE aD aD),_,_,Z,Z,_,_,Z,Z,?_];erw[_,Z,a,_,Z,.inl hS,_,_,Z,_,Z,?_,?_,?_]
  ·split<;>lia
  ·split<;>(try rw[cJ])<;>lia
  erw[AS (Pv:=λi O H2=>H2=H'/\∃(m:Int)(v:Option V),O=cZ9 (.ref a) (cZ9 (.int (j:Int)) (cZ9 (.int c) (cZ9 (.int m) (v::[]))))/\0<=m/\m<2147483648) ?_ ?_ ?_]
  ·erw[Z,_,none,Z,?_,?_]
   ·have:(0:Int)<=(j:Int)*(j:Int):=ki aw aw
    rw[uG];lia
   ·have:(j:Int)*(j:Int)<=100*100:=FI aw aw aw aw
    rw[uG];lia
  ·rintro i O H2 hi ⟨rfl,m,v,rfl,m0,m1⟩
   have E4:i<ns.length:=by rw[cJ]at hi;split at hi<;>lia
   let(z,hz):=Uw (ns:=ns) (j:=i) E4;rw[<-Int.zero_add (i:Int)]at hz;have hz0:0<=z%2147483647:=pV _ aD;have hz1:z%2147483647<2147483647:=uH _ aD;have a7Q:(0:Int)<=(0+(i:Int))*(0+(i:Int)):=ki aw aw;have hii:(0+(i:Int))*(0+(i:Int))<=100*100:=FI aw aw aw aw;erw[_,Z,_,_,Z,Z,.of_right (cE aD aD),_,Z,_,Z,.inl #[a,_,_,_,Z,Z,hS,hz,_,_,Z,Z,(by show(0:Int)<2147483647;decide),_,_,Z,Z,_,Z,_,Z,_,_,Z,Z,.of_right (cE aw aw),_,_,Z,Z,_,_,Z,Z,#[aD,aD,?_],_,_,Z,Z,(by show(0:Int)<2147483629;decide),?_]]
   ·have mD:(2:Nat)^64=18446744073709551616:=by decide
    rw[mD];generalize(0+(i:Int))*(0+(i:Int))=ii at a7Q hii⊢;generalize z%2147483647=zz at hz0 hz1⊢
    lia
   ·erw[Z,_,_,Z,pV _ aD,Int.lt_trans (uH _ aD) aD]
  ·rintro O H2 ⟨rfl,m,v,rfl,m0,m1⟩
   erw[λO H3=>H3=H2/\∃c:Int,O=cZ9 (.ref a) (cZ9 (.int (j:Int)) (cZ9 (.int c) (cZ9 (.int m) (v::[]))))/\0<=c,?_,?_]
   ·erw[_,Z,_,_,Z,Z,#[aD,aD,aD],_,_,Z,Z,_,Z,?_]
    erw[eL (λhc=>?_) (λ_=>?_)]
    ·erw[Z,0,Z,hW _]
    ·erw[Z,c,Z,c0]
   rintro O H3 ⟨rfl,c,rfl,c0⟩;erw[_,Z,_,Z,(by show 2<=sizeLine;decide),λp H4 nw=>?_];erw[k p H4 nw.no #[c,m,nw.at',c0,m0,m1] nw.same]
inductive aeC(vs:List V)(H:Hp)(Q:VK):Prop |mk (a:Int)(b:Int)(h0:vs=[.int a,.int b])(h1:Q (.int (Int.gcd a b)) H)
def Gq:Sp:=λvs H Q _=>aeC vs H Q
end
section
inductive aep(vs:List V)(H:Hp)(Q:VK):Prop |mk (a:Int)(b:Int)(h0:vs=[.int a,.int b])(h1:b≠0)(h2:Wd b)(h3:∀t H',Nw H H' t (.tup [.int (_A.lowP a b),.int (_A.iG a b)])->Q (.ref t) H')
def xq:Sp:=λvs H Q _=>aep vs H Q
end
section
def yj(T:String):Bool:=jr T "int"&& !jr T "bool"
inductive aev(K:aa)(vs:List V)(H:Hp)(Q:VK):Prop |mk (v:_)(T:_)(h0:vs=[v])(h1:wH K H v T)(h2:Q (.bl (yj T)) H)
def xu(K:aa):Sp:=λvs H Q _=>aev K vs H Q
theorem QV:bN ["p","q","high","low"] ["p","q"] (bj IH):=bZ bf
theorem a4l(F:FA K mg "common_divisor" IH)(B:cn mg):aJ P w K mg aB "common_divisor" 1 Gq:=by
 erw[F.has QV (λvs H Q E h=>?_) (λ_ _ _ _ _ _=>dS λ_ _=>rfl) (λf aQ A outer s H vs Q E hr h=>?_)]
 ·let(a,b,rfl,_):=h
  rfl
 ·let(a,b,rfl,k):=h
  have nd:=QV.nd;erw[_,(aG (qv (i:=2) (j:=3) Z nd Z Z aD Z Z (au (eG (x:="abs") pF Z (B.at "abs") rZ (au (pv 0) az)) (au (eG (x:="abs") pF rfl (B.at "abs") rZ (au (pv 1) az)) az)) rfl) (aG (oK iJ (cy (jy K Z hr.units) (pv 3) aF (bM _)) (aI (qv (i:=2) (j:=3) Z nd Z Z aD Z Z (au (pv 3) (au (aL nL (pv 2) (pv 3)) az)) Z))) (aI (aZ (pv 2))))),?_];erw[_,Z,_,Z,_,Z,_,Z,_,_,Z,?_];erw[om (λO H2=>H2=H/\∃(x y:Int),O=cZ9 (.int a) (cZ9 (.int b) (cZ9 (.int x) (cZ9 (.int y) [])))/\0<=x/\0<=y/\Int.gcd x y=Int.gcd a b) (λO _=>match O with|[_,_,_,some (.int y)]=>y.natAbs|_=>0) ?_ ?_ ?_]
  ·erw[Z,_,_,Z,by split<;>lia,by split<;>lia,?_]
   have h1:(if a<0 then-a else a).natAbs=a.natAbs:=by split<;>lia
   have h2:(if b<0 then-b else b).natAbs=b.natAbs:=by split<;>lia
   unfold Int.gcd;rw[h1,h2]
  ·rintro O H2 ⟨rfl,x,y,rfl,x0,y0,e⟩
   erw[_,Z,.inl #[_,_,Z,Z,_,Z,?_]];erw[eL (λhc=>?_) (λhc=>?_)]
   ·have hy:y≠0:=by simpa using hc
    have kQ:0<y:=by lia
    erw[_,Z,_,Z,_,Z,_,_,Z,Z,kQ,_,_,Z,?_];erw[#[Z,_,_,Z,y0,pV _ hy,(_A.Vo kQ).trans e],?_];show(x%y).natAbs<y.natAbs;have:=pV x hy;have:=uH x kQ
    lia
   ·have hy:y=0:=by simpa using hc
    subst hy;erw[_,Z,?_];rw[Int.gcd_zero_right]at e;have e2:x=((Int.gcd a b:Nat):Int):=by lia
    rw[e2];erw[k]
  ·rintro O H2 Q1 Q2 hq ⟨v1,e1,h⟩
   erw[v1,e1,?_];rcases h with⟨i,j,e3,e4,kk,e5,q⟩|⟨d,e,r1,r2,s1,s2,kk,e5,q⟩
   ·erw[.inl #[i,j,e3,e4,kk,e5,hq _ _ q]]
   ·erw[.inr #[d,e,r1,r2,s1,s2,kk,e5,hq _ _ q]]
end
section
theorem QI:bN ["thing"] ["thing"] (bj Iq):=bZ bf
theorem a46(F:FA K mg "is_whole" Iq)(B:cn mg):aJ P w K mg aB "is_whole" 1 (xu K):=by
 erw[F.has QI (λvs H Q E h=>?_) (λ_ _ _ _ _ _=>fj λ_=>rfl) (λf aQ A outer s H vs Q E hr h=>?_)]
 ·let(v,T,rfl,_):=h
  rfl
 ·let(v,T,rfl,ty,k):=h
  have nd:=QI.nd;erw[_,(aI (aZ (j9 (eV K B (au (pv 0) (au (dR (x:="int") (v:=.ty "int") Z (B.at "int") Ny rfl) az))) (j6 (Sg (eV K B (au (pv 0) (au (dR (x:="bool") (v:=.ty "bool") rfl (B.at "bool") XZ rfl) az)))))))),?_];erw[_,Z,.inl #[_,T,"int",_,Z,ty,aD,Z,_,Z,?_]];unfold yj at k;erw[eL (λhc=>?_) (λhc=>?_)]
  ·erw[_,Z,.inl #[_,T,"bool",_,Z,ty,aD,Z,_,Z,?_]]
   rw[hc,lF]at k;erw[k]
  ·rw[zp.mpr hc,lV]at k
   erw[k]
end
end _c
namespace _c
open PySem PySem.Spec PyProof.Rows _L _l
section
def iP(ns:List Int)(sp:Int):ai:=.tuple [.str "line",.tuple (ns.map PyData.int),.int sp]
theorem Dz(ns:List Int)(sp:Int):fQ (iP ns sp)=true:=by simp[iP,fQ,du,me]
structure fM(ax:Nat)(m:Int)(ns:List Int):Prop where
 len:ns.length=ax
 bd:∀z∈ns,(z.natAbs:Int)<=m
 nz:∃z∈ns,z≠0
theorem fM.lead(h:fM ax m ns):0<aP ns/\(aP ns:Int)<=m:=by
 erw[a60 h.nz,?_];have hm:0<=m:=by let(z,hz,_):=h.nz;have:=h.bd z hz;lia
 have:=oV (ns:=ns) (m:=m.toNat) λz hz=>by have:=h.bd z hz;lia
 lia
theorem fM.ne(h:fM ax m ns):ns≠[]:=by let(z,hz,_):=h.nz;intro e;subst e;cases hz
theorem mV{v:V}(h:RD K H v (iP ns sp)):∃a b,v= .ref a/\aV K H a [.str "line",.ref b,.int sp]/\aV K H b (ns.map V.int):=by let(a,xs,rfl,h1,h2):=h.fE;let(x1,r1,rfl,e1,h2):=h2.cons_inv;let(x2,r2,rfl,e2,h2):=h2.cons_inv;let(x3,r3,rfl,e3,h2):=h2.cons_inv;cases h2.nil_inv;cases e1.str_inv;cases e3.int_inv;let(b,ys,rfl,h3,h4):=e2.fE;rw[h4.jC]at h3;erw[a,b,Z,h1,h3]
inductive aet(K:aa)(vs:List V)(H:Hp)(Q:VK):Prop |mk (v:_)(ns:_)(sp:_)(h0:vs=[v])(h1:RD K H v (iP ns sp))(h2:ns≠[])(h3:ns.length<=1000)(h4:∀H',aH H H'->Q (.int (aP ns)) H')
def mQ(K:aa):Sp:=λvs H Q _=>aet K vs H Q
theorem nN{ns:List Int}{f:Int->ai}{i:Nat}{d:ai}(h:(ns.map f)[i]? =some d):∃n,ns[i]? =some n/\f n=d:=by rw[cV]at h;cases e:ns[i]? with |none=>rw[e]at h;cases h |some n=>rw[e]at h;erw[n,Z,fe h]
theorem Aj{ns:List Int}{i:Nat}{n:Int}(h:(ns.map V.int)[i]? =some x)(e:ns[i]? =some n):x= .int n:=by rw[cV,e]at h;exact(fe h).symm
theorem QC:bN ["_law_line_here"] ["_law_line_here"] (bj Ik):=bZ bf
theorem a44(F:FA K mg "_law_lead" Ik)(B:cn mg):aJ P w K mg aB "_law_lead" 1 (mQ K):=by
 erw[F.has QC (λvs H Q E h=>?_) (λ_ _ _ _ _ _=>fj λ_=>rfl) (λf aQ A outer s H vs Q E hr h=>?_)]
 ·let(v,ns,sp,rfl,_):=h
  rfl
 ·let(v,ns,sp,rfl,rd,eZ,hz,k):=h
  have nd:=QC.nd;let(a,b,rfl,ha,hb):=mV rd;erw[_,(aI (aZ (eG (x:="max") (K7 K Z Z) Z (B.at "max") Fv (au (gU (N:=["_law_step"]) (js:=[none]) rfl rfl rfl (sY K rfl (px K (pv 0) aF)) (λ_ _ _ _ _=>(bR 0 (vp _))) (λ_ _ _ _ _=>gs) (λ_ _ _ _ _=>(eG (x:="abs") pF rfl (B.at "abs") rZ (au (pv 0) az)))) az)))),?_];erw[_,Z,.inr #[a,_,1,.ref b,Z,Z,ha,Z,b,Z,#[_,hb],λD H0 nw=>?_]];erw[EN (K:=K) (xs:=ns.map V.int) (ds:=(ns.map jk).map PyData.int) [] hb nw (by simp) (by simpa using hz) (me _) ?_ ?_]
  ·intro i x d H2 Q' ex ed s2 hq
   let(m,em,rfl):=nN ed;rw[cV]at em;cases en:ns[i]? with |none=>rw[en]at em;cases em |some n=>rw[en]at em;cases em;cases Aj ex en;erw[_,Z,n,Z,hq _ _ (aH.refl _) (cF _)]
  ·intro H' ys s2 d2 r2
   rw[r2.jC]at d2;erw[D,_,Z,aK.of d2,by simpa using eZ,λM h1 h2=>?_];rw[Kj eZ h1 h2];erw[k H' s2]
theorem QB:bN ["line"] ["line"] (bj Ij):=bZ bf
theorem a43(F:FA K mg "lead_of" Ij)(B:cn mg):aJ P w K mg aB "lead_of" 1 (mQ K):=by
 erw[F.has QB (λvs H Q E h=>?_) (λ_ _ _ _ _ _=>fj λ_=>rfl) (λf aQ A outer s H vs Q E hr h=>?_)]
 ·let(v,ns,sp,rfl,_):=h
  rfl
 ·let(v,ns,sp,rfl,rd,eZ,hz,k):=h
  have nd:=QB.nd;let(a,b,rfl,ha,hb):=mV rd;erw[_,(aI (aZ (eG (x:="max") (K7 K Z Z) Z (B.at "max") Fv (au (gU (N:=["step"]) (js:=[none]) rfl rfl rfl (sY K rfl (px K (pv 0) aF)) (λ_ _ _ _ _=>(bR 0 (vp _))) (λ_ _ _ _ _=>gs) (λ_ _ _ _ _=>(eG (x:="abs") pF rfl (B.at "abs") rZ (au (pv 0) az)))) az)))),?_];erw[_,Z,.inr #[a,_,1,.ref b,Z,Z,ha,Z,b,Z,#[_,hb],λD H0 nw=>?_]];erw[EN (K:=K) (xs:=ns.map V.int) (ds:=(ns.map jk).map PyData.int) [] hb nw (by simp) (by simpa using hz) (me _) ?_ ?_]
  ·intro i x d H2 Q' ex ed s2 hq
   let(m,em,rfl):=nN ed;rw[cV]at em;cases en:ns[i]? with |none=>rw[en]at em;cases em |some n=>rw[en]at em;cases em;cases Aj ex en;erw[_,Z,n,Z,hq _ _ (aH.refl _) (cF _)]
  ·intro H' ys s2 d2 r2
   rw[r2.jC]at d2;erw[D,_,Z,aK.of d2,by simpa using eZ,λM h1 h2=>?_];rw[Kj eZ h1 h2];erw[k H' s2]
end
end _c
namespace _c
open PySem PySem.Spec PyProof.Rows _L _r
section
theorem QE:bN ["p","q","divisor"] ["p","q"] (bj Il):=bZ bf
theorem a3X(F:FA K mg "lowest_terms" Il)(B:cn mg)(a87:aJ P w K mg aB "common_divisor" 1 Gq):aJ P w K mg aB "lowest_terms" 2 xq:=by
 erw[F.has QE (λvs H Q E h=>?_) (λ_ _ _ _ _ _=>dS λ_ _=>rfl) (λf aQ A outer s H vs Q E hr h=>?_)]
 ·let(a,b,rfl,_):=h
  rfl
 ·let(a,b,rfl,hb,wb,k):=h
  have nd:=QE.nd;have sw:Wd (_A.sg a b):=sf (_A.Pw hb) wb;erw[_,(aG (pS 2 nd (pf a87 hr (au (pv 0) (au (pv 1) az)))) (aG (ib (bQ (cy ko (pv 1) aF (bM _)) (aI (pS 2 nd (qw pY (pv 2)))) bV)) (aI (aZ (cQ (au (aL SI (pv 0) (pv 2)) (au (aL SI (pv 1) (pv 2)) az))))))),?_];erw[_,Z,_,Z,a,b,Z,?_];erw[λO H'=>H'=H/\O=cZ9 (.int a) (cZ9 (.int b) (cZ9 (.int (_A.sg a b)) [])),?_,?_]
  ·erw[_,Z,_,_,Z,Z,_,Z,?_]
   erw[eL (λhc=>?_) (λhc=>?_)]
   ·have hd:b<0:=jJ hc
    erw[_,Z,_,Z,?_];erw[Z,?_];unfold _A.sg;rw[bE hd];rfl
   ·have hd:¬b<0:=λz=>hc (cU z)
    erw[Z,?_];unfold _A.sg;rw[bI hd];rfl
  rintro O H' ⟨rfl,rfl⟩;erw[_,Z,_,Z,_,_,Z,Z,#[_A.zM hb,sw],_,Z,_,Z,_,_,Z,Z,#[_A.zM hb,sw],(by show 2<=sizeLine;decide),λt H4 nw=>?_];erw[k t H4 nw]
def bO(K:aa)(H:Hp)(v:V)(r:Rat):Prop:=∃p,v= .ref p/\aV K H p [.int r.num,.int r.den]
theorem bO.go{v:V}(h:bO K H v r)(s:aH H H'):bO K H' v r:=by let(p,e,q):=h;erw[p,e,q.go s]
def dk(r:Rat):ai:=.tuple [.int r.num,.int r.den]
theorem bO.rd{v:V}(h:bO K H v r):RD K H v (dk r):=by let(p,rfl,q):=h;erw[gR q (cj (cF _) (cj (cF _) dc))]
theorem RZ(r:Rat):eO 1 (dk r):=hJ.tup (.cons (.int _) (.cons (.int _) .nil))
theorem a1C(r:Rat):SeqAt.shaped (dk r)=true:=(RZ r).shaped aD
theorem eqR(h:r=s):PyData.eqv (dk r) (dk s)=true:=by rw[h];exact(RZ s).refl
theorem iW(h:i.natAbs<2^n)(l:n<=5000):Wd i:=gP h (uE aD l)
theorem _root_._r.Bd.wn(h:Bd 2000 r):Wd r.num:=iW h.num aD
theorem _root_._r.Bd.wd(h:Bd 2000 r):Wd (r.den:Int):=iW (n:=2000) (by have:=h.den;omega) aD
theorem BW(h:Bd 2000 r)(g:Bd 2000 s):Wd ((r.den:Int)*(s.den:Int)):=iW (n:=4000) (ME h g) aD
theorem CT{t:Addr}(hb:b≠0)(e:r=Rat.divInt a b)(h:H' t=some (.tup [.int (_A.lowP a b),.int (_A.iG a b)])):bO K H' (.ref t) r:=by let(e1,e2):=Dv (a:=a) hb;rw[e1,e2,<-e]at h;erw[t,Z,aV.of h]
inductive aef(op:Rat->Rat->Rat)(K:aa)(vs:List V)(H:Hp)(Q:VK):Prop |mk (v1:_)(v2:_)(r:_)(s:_)(h0:vs=[v1,v2])(h1:bO K H v1 r)(h2:bO K H v2 s)(h3:Bd 2000 r)(h4:Bd 2000 s)(h5:∀v H',bO K H' v (op r s)->aH H H'->Q v H')
def oB(op:Rat->Rat->Rat)(K:aa):Sp:=λvs H Q _=>aef op K vs H Q
theorem Qu:bN ["one","other","p","q","r","s"] ["one","other"] (bj Ia):=bZ bf
theorem a3U(F:FA K mg "minus" Ia)(B:cn mg)(vR:aJ P w K mg aB "lowest_terms" 2 xq):aJ P w K mg aB "minus" 3 (oB (·-·) K):=by
 erw[F.has Qu (λvs H Q E h=>?_) (λ_ _ _ _ _ _=>dS λ_ _=>rfl) (λf aQ A outer s H vs Q E hr h=>?_)]
 ·let(v1,v2,r,s,rfl,_):=h
  rfl
 ·let(v1,v2,r,s,rfl,(p,rfl,hp),(q,rfl,hq),br,bs,k):=h
  have nd:=Qu.nd;erw[_,(aG (fP (pv 0) (eg K Z (n:=2) Z (cf (bR 2 nd) (cf (bR 3 nd) dZ)))) (aG (fP (pv 1) (eg K Z (n:=2) Z (cf (bR 4 nd) (cf (bR 5 nd) dZ)))) (aI (aZ (pf vR hr (au (aL gX (aL cg (pv 2) (pv 5)) (aL cg (pv 4) (pv 3))) (au (aL cg (pv 3) (pv 5)) az))))))),?_];erw[_,Z,_,_,Z,hp,Z,_,_,Z,_,_,Z,Z,?_];erw[_,Z,_,_,Z,hq,Z,_,_,Z,_,_,Z,Z,?_];erw[_,Z,_,Z,_,_,Z,Z,jg br.wn.bits bs.wd.bits,_,Z,_,Z,_,_,Z,Z,jg bs.wn.bits br.wd.bits,_,_,Z,Z,_,Z,_,Z,_,_,Z,Z,jg br.wd.bits bs.wd.bits,?_];erw[_,_,Z,rC r s,BW br bs,λt H' nw=>k _ _ (CT (rC r s) (ZS r s) nw.at') nw.same]
theorem xr_dvd {a : Int} {b : Nat} {x : Rat} (hb : b ≠ 0) (hx : Rat.divInt a b = x) : ∃ g, a = x.num * g ∧ (b : Int) = x.den * g := by
  obtain ⟨g, _, p⟩ := Rat.divInt_num_den (z' := x.den_nz) (c := x.reduced) (by omega) hx
  exact ⟨g, p⟩
theorem xr_mul {r s x y : Rat} (hx : Rat.divInt r.num s.den = x) (hy : Rat.divInt s.num r.den = y) (m : r * s = Rat.divInt (r.num * s.num) (r.den * s.den)) : x.num * y.num = (r * s).num ∧ (y.den : Int) * x.den = (r * s).den := by
  obtain ⟨g, h1, h2⟩ := xr_dvd s.den_nz hx
  obtain ⟨h, h3, h4⟩ := xr_dvd r.den_nz hy
  have w : ∀ {q : Rat} {a b g h : Int}, q.num = a * g → q.den = b * h → a.natAbs.Coprime b.natAbs := fun {q a b g h} p z => by
    have c : Int.gcd q.num q.den = 1 := q.reduced
    rw [p, z, Int.gcd_eq_natAbs_gcd_natAbs, Int.natAbs_mul, Int.natAbs_mul] at c
    exact Nat.Coprime.coprime_mul_right_right (Nat.Coprime.coprime_mul_right c)
  have c : (x.num * y.num).natAbs.gcd (x.den * y.den) = 1 := by
    rw [Int.natAbs_mul]; exact Nat.Coprime.mul_left (Nat.Coprime.mul_right x.reduced (w h1 h4)) (Nat.Coprime.mul_right (w h3 h2) y.reduced)
  have e : r * s = x * y := by rw [m, ← hx, ← hy, Rat.divInt_mul_divInt, Int.mul_comm (s.den : Int)]
  rw [e, Rat.num_mul, Rat.den_mul, c, Nat.div_one, Nat.mul_comm x.den]
  exact ⟨(Int.ediv_one _).symm, rfl⟩
theorem PN:bN ["one","other","p","s","r","q"] ["one","other"] (bj GI):=bZ bf
theorem a37(F:FA K mg "times" GI)(B:cn mg)(vR:aJ P w K mg aB "lowest_terms" 2 xq):aJ P w K mg aB "times" 3 (oB (·*·) K):=by
 erw[F.has PN (λvs H Q E h=>?_) (λ_ _ _ _ _ _=>dS λ_ _=>rfl) (λf aQ A outer s H vs Q E hr h=>?_)]
 ·let(v1,v2,r,s,rfl,_):=h
  rfl
 ·let(v1,v2,r,s,rfl,(p,rfl,hp),(q,rfl,hq),br,bs,k):=h
  have nd:=PN.nd;have nr:=Int.ne_of_gt (den_pos r);have ns:=Int.ne_of_gt (den_pos s)
  refine ⟨_,(aG (fP (pf vR hr (au (px K (pv 0) aF) (au (px K (pv 1) aF) az))) (eg K Z (n:=2) Z (cf (bR 2 nd) (cf (bR 3 nd) dZ)))) (aG (fP (pf vR hr (au (px K (pv 1) aF) (au (px K (pv 0) aF) az))) (eg K Z (n:=2) Z (cf (bR 4 nd) (cf (bR 5 nd) dZ)))) (aI (aZ (cQ (au (aL cg (pv 2) (pv 4)) (au (aL cg (pv 5) (pv 3)) az))))))),?_⟩
  refine ⟨_,rfl,Or.inr ⟨_,_,_,_,rfl,rfl,hp,rfl,_,rfl,Or.inr ⟨_,_,_,_,rfl,rfl,hq,rfl,_,_,rfl,ns,bs.wd,fun t1 H1 n1=>?_⟩⟩⟩
  obtain ⟨_,e,g1⟩:=CT ns rfl n1.at';cases e
  refine ⟨_,_,rfl,g1,rfl,_,_,rfl,_,_,rfl,rfl,?_⟩
  refine ⟨_,rfl,Or.inr ⟨_,_,_,_,rfl,rfl,hq.go n1.same,rfl,_,rfl,Or.inr ⟨_,_,_,_,rfl,rfl,hp.go n1.same,rfl,_,_,rfl,nr,br.wd,fun t2 H2 n2=>?_⟩⟩⟩
  obtain ⟨_,e,g2⟩:=CT nr rfl n2.at';cases e
  refine ⟨_,_,rfl,g2,rfl,_,_,rfl,_,_,rfl,rfl,?_⟩
  have b1:Bd 2000 _:=lM ns br.num (by have:=bs.den;omega)
  have b2:Bd 2000 _:=lM nr bs.num (by have:=br.den;omega)
  refine ⟨_,rfl,_,rfl,_,_,rfl,rfl,jg b1.wn.bits b2.wn.bits,_,rfl,_,rfl,_,_,rfl,rfl,jg b2.wd.bits b1.wd.bits,bU Z,fun t H' n=>k _ _ ⟨t,rfl,aV.of ?_⟩ (n1.same.trans (n2.same.trans n.same))⟩
  obtain ⟨e1,e2⟩:=xr_mul rfl rfl (mul_div r s)
  rw [← e1,← e2]; exact n.at'
inductive aer(K:aa)(vs:List V)(H:Hp)(Q:VK):Prop |mk (v1:_)(v2:_)(r:_)(s:_)(h0:vs=[v1,v2])(h1:bO K H v1 r)(h2:bO K H v2 s)(h3:Bd 2000 r)(h4:Bd 2000 s)(h5:Q (.bl (decide (r<s))) H)
def xt(K:aa):Sp:=λvs H Q _=>aer K vs H Q
theorem Qz:bN ["one","other","p","q","r","s"] ["one","other"] (bj Ih):=bZ bf
theorem a41(F:FA K mg "is_less" Ih)(B:cn mg):aJ P w K mg aB "is_less" 1 (xt K):=by
 erw[F.has Qz (λvs H Q E h=>?_) (λ_ _ _ _ _ _=>dS λ_ _=>rfl) (λf aQ A outer s H vs Q E hr h=>?_)]
 ·let(v1,v2,r,s,rfl,_):=h
  rfl
 ·let(v1,v2,r,s,rfl,(p,rfl,hp),(q,rfl,hq),br,bs,k):=h
  have nd:=Qz.nd;erw[_,(aG (fP (pv 0) (eg K Z (n:=2) Z (cf (bR 2 nd) (cf (bR 3 nd) dZ)))) (aG (fP (pv 1) (eg K Z (n:=2) Z (cf (bR 4 nd) (cf (bR 5 nd) dZ)))) (aI (aZ (fS ko (aL cg (pv 2) (pv 5)) (aL cg (pv 4) (pv 3)) (bM _)))))),?_];erw[_,Z,_,_,Z,hp,Z,_,_,Z,_,_,Z,Z,?_];erw[_,Z,_,_,Z,hq,Z,_,_,Z,_,_,Z,Z,?_];erw[_,Z,_,Z,_,_,Z,Z,jg br.wn.bits bs.wd.bits,_,Z,_,Z,_,_,Z,Z,jg bs.wn.bits br.wd.bits,_,_,Z,Z,?_];have e:decide (r.num*(s.den:Int)<s.num*(r.den:Int))=decide (r<s):=by rw[pW,pP,pP,Ft]
  show Q (.bl (decide (r.num*(s.den:Int)<s.num*(r.den:Int)))) H;rw[e];erw[k]
def uw(K:aa)(H:Hp):List V->List Rat->Prop |[],[]=>True |v::vs,r::rs=>bO K H v r/\Bd 2000 r/\uw K H vs rs |_,_=>False
theorem uw.length{H:Hp}:∀{vs:List V}{rs:List Rat},uw K H vs rs->vs.length=rs.length |[],[],_=>rfl |v::vs,r::rs,h=>by rw[lE,lE,uw.length h.2.2] |[],_::_,h=>h.elim |_::_,[],h=>h.elim
theorem uw.get{H:Hp}:∀{vs:List V}{rs:List Rat}{i:Nat}{v:V},uw K H vs rs->vs[i]? =some v->∃r,rs[i]? =some r/\bO K H v r/\Bd 2000 r
 |[],[],i,v,_,e=>by simp at e |v::vs,r::rs,0,v',h,e=>by
  have e':v=v':=by simpa using e
  subst e';erw[r,Z,h.1,h.2.1] |v::vs,r::rs,i+1,v',h,e=>by let(r',e1,q):=uw.get h.2.2 (show vs[i]? =some v' by simpa using e);erw[r',by simpa using e1,q] |[],_::_,_,_,h,_=>h.elim |_::_,[],_,_,h,_=>h.elim
inductive aes(K:aa)(vs:List V)(H:Hp)(Q:VK):Prop |mk (l:_)(xs:_)(rs:_)(h0:vs=[.ref l])(h1:aK K H l xs)(h2:uw K H xs rs)(h3:xs≠[])(h4:∀(i:Nat)(v:V)(r:Rat),xs[i]? =some v->rs[i]? =some r->(∀s∈rs,r<=s)->Q v H)
def kj(K:aa):Sp:=λvs H Q _=>aes K vs H Q
theorem QA:bN ["some","best","one"] ["some"] (bj Ii):=bZ bf
theorem a42(F:FA K mg "least" Ii)(B:cn mg)(Li:aJ P w K mg aB "is_less" 1 (xt K)):aJ P w K mg aB "least" 2 (kj K):=by
 erw[F.has QA (λvs H Q E h=>?_) (λ_ _ _ _ _ _=>fj λ_=>rfl) (λf aQ A outer s H vs Q E hr h=>?_)]
 ·let(l,xs,rs,rfl,_):=h
  rfl
 ·let(l,xs,rs,rfl,hl,kR,eZ,k):=h
  have nd:=QA.nd;erw[_,(aG (pS 1 nd (px K (pv 0) aF)) (aG (m9 iJ Z (zX K Z (pv 0)) (bR 2 nd) (aI (bQ (cP (pf Li hr (au (pv 2) (au (pv 1) az)))) (aI (pS 1 nd (pv 2))) bV))) (aI (aZ (pv 1))))),?_];have hlen:=kR.length;have h0:0<xs.length:=NI.mpr eZ;have e0:=cC h0;erw[_,Z,.inl #[l,xs,0,xs[0],Z,Z,hl,dQ aD e0,?_]];erw[_,Z,l,Z,#[_,hl],M0 (K:=K) (a:=l) (xs:=xs) (λi O H2=>H2=H/\∃(j:Nat)(b:V)(r:Rat)(v:Option V),xs[j]? =some b/\rs[j]? =some r/\(∀(m:Nat)(s:Rat),m<i->rs[m]? =some s->r<=s)/\O=cZ9 (.ref l) (cZ9 b (v::[]))) ?_ (λi O H2 _ h=>by rw[h.1];erw[hl]) ?_ ?_]
  ·let(r,e1,_):=kR.get e0
   erw[Z,0,_,r,none,e0,e1,λm s hm=>absurd hm (Nat.not_lt_zero _),Z]
  ·rintro i x O H2 hx ⟨rfl,j,b,r,v,eb,er,hm,rfl⟩
   let(t,et,rt,bt):=kR.get hx;let(r2,p9,rb,bb):=kR.get eb;rw[er]at p9;cases p9;erw[_,Z,_,Z,x,b,t,r,Z,rt,rb,bt,bb,_,Z,?_];erw[eL (λhc=>?_) (λhc=>?_)]
   ·have cK:t<r:=jJ hc
    erw[_,Z,?_];erw[Z,i,x,t,_,hx,et,λm s vQ es=>?_,Z];rcases NC.mp vQ with h|h
    ·erw[fz (Np cK) (hm m s h es)]
    ·subst h
     rw[et]at es;cases es;erw[rX]
   ·have KW:¬t<r:=λz=>hc (cU z)
    erw[Z,j,b,r,_,eb,er,λm s vQ es=>?_,Z];rcases NC.mp vQ with h|h
    ·erw[hm m s h es]
    ·subst h
     rw[et]at es;cases es;erw[BD.mp KW]
  ·rintro O H2 ⟨rfl,j,b,r,v,eb,er,hm,rfl⟩
   erw[_,Z,k j b r eb er λs hs=>?_];let(m,Le,em):=Y4.mp hs;erw[hm m s aw (by rw[cC Le,em])]
inductive aen(K:aa)(vs:List V)(H:Hp)(Q:VK):Prop |mk (a:_)(b:_)(h0:vs=[.int a,.int b])(h1:b≠0)(h2:Wd b)(h3:∀v H',bO K H' v (Rat.divInt a b)->aH H H'->Q v H')
def xp(K:aa):Sp:=λvs H Q _=>aen K vs H Q
theorem QO:bN ["p","q"] ["p","q"] (bj Iz):=bZ bf
theorem a4e(F:FA K mg "fraction" Iz)(B:cn mg)(E2:aJ P w K mg aB "is_whole" 1 (xu K))(vR:aJ P w K mg aB "lowest_terms" 2 xq):aJ P w K mg aB "fraction" 3 (xp K):=by
 erw[F.has QO (λvs H Q E h=>?_) (λ_ _ _ _ _ _=>dS λ_ _=>rfl) (λf aQ A outer s H vs Q E hr h=>?_)]
 ·let(a,b,rfl,_):=h
  rfl
 ·let(a,b,rfl,hb,wb,k):=h
  have nd:=QO.nd;erw[_,(aG (bQ (PW.pt (kM (dX (cP (pf E2 hr (au (pv 0) az)))) (lK (dX (cP (pf E2 hr (au (pv 1) az))))))) (aI nK) bV) (aG (bQ (cy (dF K Z hr.units) (pv 1) aF (bM _)) (aI nK) bV) (aI (aZ (pf vR hr (au (pv 0) (au (pv 1) az))))))),?_];have iw:yj "int"=true:=by decide
  erw[_,Z,_,"int",Z,Z,_,Z,?_];rw[iw];erw[bK ?_];erw[_,Z,_,"int",Z,Z,_,Z,?_];rw[iw];erw[bK ?_];erw[_,Z,.inl #[_,_,Z,Z,_,Z,?_]];rw[fo hb];erw[bK ?_];erw[_,Z,_,Z,_,_,Z,hb,wb,λt H' nw=>k _ _ (CT hb Z nw.at') nw.same]
end
end _c
namespace _c
open PySem PySem.Spec PyProof.Rows _L _r _l
section
def jA(rs:List Int)(r f j t:Int):ai:=.tuple [.tuple (rs.map PyData.int),.int r,.int f,.int j,.int t]
theorem iE(rs:List Int)(r f j t:Int):fQ (jA rs r f j t)=true:=by simp[jA,fQ,du,me]
theorem mj{v:V}{t:Int}(h:RD K H v (jA rs r f j t)):∃a b,v= .ref a/\aV K H a [.ref b,.int r,.int f,.int j,.int t]/\aV K H b (rs.map V.int):=by let(a,xs,rfl,h1,h2):=h.fE;let(x1,r1,rfl,e1,h2):=h2.cons_inv;let(x2,r2,rfl,e2,h2):=h2.cons_inv;let(x3,r3,rfl,e3,h2):=h2.cons_inv;let(x4,r4,rfl,e4,h2):=h2.cons_inv;let(x5,r5,rfl,e5,h2):=h2.cons_inv;cases h2.nil_inv;cases e2.int_inv;cases e3.int_inv;cases e4.int_inv;cases e5.int_inv;let(b,ys,rfl,h3,h4):=e1.fE;rw[h4.jC]at h3;erw[a,b,Z,h1,h3]
structure pI(rs:List Int)(r f j t:Int):Prop where
 len:rs.length=2\/rs.length=3
 rl:∀z∈rs,1<=z/\z<=100
 r1:1<=r/\r<=50
 f1:1<=f/\f<=50
 j1:1<=j/\j<=50
 t1:1<=t/\t<=100
inductive aeo(K:aa)(vs:List V)(H:Hp)(Q:VK):Prop |mk (p:_)(h0:vs=[.ref p])(h1:fm H p)(h2:∀v rs r f j t H',RD K H' v (jA rs r f j t)->pI rs r f j t->bS p H H'->Q v H')
def Pe(K:aa):Sp:=λvs H Q _=>aeo K vs H Q
theorem Qw:bN ["_law_bag_here","_law_kind","_law_most","_law_rails"] ["_law_bag_here"] (bj Ic):=bZ bf
theorem a3W(F:FA K mg "_law_machine" Ic)(B:cn mg)(dv:aJ P w K mg aB "_law_take" 1 oz):aJ P w K mg aB "_law_machine" 2 (Pe K):=by
 erw[F.has Qw (λvs H Q E h=>?_) (λ_ _ _ _ _ _=>fj λ_=>rfl) (λf aQ A outer s H vs Q E hr h=>?_)]
 ·let(p,rfl,_):=h
  rfl
 ·let(p,rfl,bg,k):=h
  have nd:=Qw.nd;erw[_,(aG (pS 1 nd (pf dv hr (au (pv 0) (au aF az)))) (aG (pS 2 nd (px K (dC (au aF (au aF (au aF (au aF (au aF (au aF (au aF (au aF az))))))))) (pv 1))) (aG (pS 3 nd (j8 (x:="tuple") (lX K Z) Z (B.at "tuple") gB (au (gU (N:=["_law_axis","_law_bag_here","_law_most"]) (js:=[none,some 0,some 2]) rfl rfl rfl (xN rfl (B.at "range") (au (aL cZ aF (pf dv hr (au (pv 0) (au aF az)))) az)) (λ_ _ _ _ _=>(bR 0 (show List.Nodup (["_law_axis","_law_bag_here","_law_most"]:List Str) by decide+kernel))) (λ_ _ _ _ _=>gs) (λ_ _ _ _ _=>(aL cZ aF (pf dv hr (au (pv 1) (au (pv 2) az)))))) az))) (aG (bQ (cy (dF K Z hr.units) (pv 1) aF (bM _)) (aI (aZ (cQ (au (pv 3) (au (aL cZ aF (aL cg aF (pf dv hr (au (pv 0) (au aF az))))) (au (aL cZ aF (aL cg aF (pf dv hr (au (pv 0) (au aF az))))) (au (aL cZ aF (aL cg aF (pf dv hr (au (pv 0) (au aF az))))) (au aF az)))))))) bV) (aI (aZ (cQ (au (pv 3) (au (aL cZ aF (pf dv hr (au (pv 0) (au aF az)))) (au (aL cZ aF (pf dv hr (au (pv 0) (au aF az)))) (au (aL cZ aF (pf dv hr (au (pv 0) (au aF az)))) (au (aL cZ aF (pf dv hr (au (pv 0) (au aF az)))) az)))))))))))),?_];erw[_,Z,p,8,Z,bg,aD,aD,λkd H1 k0 k1 b1=>?_];erw[bU Z,λl H2 nw=>?_];have b2:bS p H1 H2:=.fT b1.bu nw.same;let(far,mf,ef):=a6x [100,100,100,60,60,20,5,100] k0 k1;have f1:1<=far/\far<=100:=by
   have h:∀z∈([100,100,100,60,60,20,5,100]:List Int),1<=z/\z<=100:=by decide
   erw[h far mf]
  erw[_,Z,.inl #[l,_,_,_,Z,Z,aK.of nw.at',ef,?_]];erw[_,Z,p,2,Z,b2.bu,aD,aD,λax H3 a0 a1 b3=>?_];erw[_,_,Z,Z,_,Z,aw,aw,λD H4 n4=>?_];erw[abZ (J:=pJ 0 (2+ax).toNat) (p:=p) (H:=H3) (2+ax).toNat _ n4 b3.bu aw (λi=>.int (0+(i:Int))) (λi H5 hi _=>#[hi,λy H6 #[e,q]=>#[e,q]]) (λH5 _=>ck _) (λz=>1<=z/\z<=100) ?_ ?_]
  ·intro i H5 Q' hi b5 hq
   erw[_,Z,_,Z,p,far,Z,b5.bu,f1.1,aw,λd H6 d0 d1 b6=>?_];erw[_,_,Z,Z,hq _ _ aw b6]
  intro H5 is b5 d5 l5 X8;have ur:=b1.trans (b2.trans (b3.trans b5));erw[D,_,Z,.inl #[aK.of d5,λq H6 n6=>?_]];have b6:bS p H5 H6:=.fT ur.bu n6.same;have q6:aV K H6 q (is.map V.int):=aV.of n6.at';erw[_,Z,.inl #[_,_,Z,Z,_,Z,?_]];erw[eL (λhc=>?_) (λhc=>?_)]
  ·erw[_,Z,_,Z,p,2,Z,b6.bu,aD,aD,λri H7 ri0 ri1 b7=>?_]
   erw[_,_,Z,Z,.of_left (cE aD aD),_,_,Z,Z,?_];erw[_,Z,p,2,Z,b7.bu,aD,aD,λfa H8 fa0 qX b8=>?_];erw[_,_,Z,Z,.of_left (cE aD aD),_,_,Z,Z,?_];erw[_,Z,p,2,Z,b8.bu,aD,aD,λju H9 ju0 ju1 b9=>?_];erw[_,_,Z,Z,.of_left (cE aD aD),_,_,Z,Z,?_];erw[bU Z,λt kG kP=>?_];have EY:bS p H9 kG:=.fT b9.bu kP.same;have Xb:=b7.trans (b8.trans (b9.trans EY));have q10:aV K kG q (is.map V.int):=aV.t (bS.t b6.bu Xb) q6;erw[k (.ref t) is (1+49*ri) (1+49*fa) (1+49*ju) 100 kG (gR (aV.of kP.at') (cj (gR q10 (xI is)) (cj (cF _) (cj (cF _) (cj (cF _) (cj (cF _) dc)))))) #[aw,X8,aw,aw,aw,aw] (ur.trans (b6.trans Xb))]
  ·erw[_,Z,_,Z,p,50,Z,b6.bu,aD,aD,λri H7 ri0 ri1 b7=>?_]
   erw[_,_,Z,Z,?_];erw[_,Z,p,50,Z,b7.bu,aD,aD,λfa H8 fa0 qX b8=>?_];erw[_,_,Z,Z,?_];erw[_,Z,p,50,Z,b8.bu,aD,aD,λju H9 ju0 ju1 b9=>?_];erw[_,_,Z,Z,?_];erw[_,Z,p,100,Z,b9.bu,aD,aD,λti kG ti0 ti1 EY=>?_];erw[_,_,Z,Z,bU Z,λt jn kx=>?_];have Bc:bS p kG jn:=.fT EY.bu kx.same;have Xa:=b7.trans (b8.trans (b9.trans (EY.trans Bc)));have zW:aV K jn q (is.map V.int):=aV.t (bS.t b6.bu Xa) q6;erw[k (.ref t) is (1+ri) (1+fa) (1+ju) (1+ti) jn (gR (aV.of kx.at') (cj (gR zW (xI is)) (cj (cF _) (cj (cF _) (cj (cF _) (cj (cF _) dc)))))) #[aw,X8,aw,aw,aw,aw] (ur.trans (b6.trans Xa))]
inductive aey(K:aa)(vs:List V)(H:Hp)(Q:VK):Prop |mk (a:_)(b:_)(h0:vs=[.int a,.int b])(h1:0<b)(h2:Wd b)(h3:∀v H',bO K H' v (Rat.divInt a b)->aH H H'->Q v H')
def zI(K:aa):Sp:=λvs H Q _=>aey K vs H Q
theorem QN:bN ["_law_p","_law_q","_law_one","_law_other_here"] ["_law_p","_law_q"] (bj Iy):=bZ bf
theorem a4d(F:FA K mg "_law_frac" Iy)(B:cn mg):aJ P w K mg aB "_law_frac" 1 (zI K):=by
 erw[F.has QN (λvs H Q E h=>?_) (λ_ _ _ _ _ _=>dS λ_ _=>rfl) (λf aQ A outer s H vs Q E hr h=>?_)]
 ·let(a,b,rfl,_):=h
  rfl
 ·let(a,b,rfl,hb,wb,k):=h
  have nd:=QN.nd;erw[_,(aG (qv (i:=2) (j:=3) Z nd Z Z aD Z Z (au (eG (x:="abs") pF Z (B.at "abs") rZ (au (pv 0) az)) (au (pv 1) az)) rfl) (aG (oK iJ (cy tE (pv 3) aF (bM _)) (aI (qv (i:=2) (j:=3) Z nd Z Z aD Z Z (au (pv 3) (au (aL nL (pv 2) (pv 3)) az)) Z))) (aI (aZ (cQ (au (aL nM (pv 0) (pv 2)) (au (aL nM (pv 1) (pv 2)) az))))))),?_];erw[_,Z,_,Z,_,Z,_,_,Z,?_];erw[om (λO H2=>H2=H/\∃(x y:Int),O=cZ9 (.int a) (cZ9 (.int b) (cZ9 (.int x) (cZ9 (.int y) [])))/\0<=x/\0<=y/\Int.gcd x y=Int.gcd a b) (λO _=>match O with|[_,_,_,some (.int y)]=>y.natAbs|_=>0) ?_ ?_ ?_]
  ·erw[Z,_,_,Z,by split<;>lia,aw,?_]
   have h1:(if a<0 then-a else a).natAbs=a.natAbs:=by split<;>lia
   unfold Int.gcd;rw[h1]
  ·rintro O H2 ⟨rfl,x,y,rfl,x0,y0,e⟩
   erw[_,Z,_,_,Z,Z,_,Z,?_];erw[eL (λhc=>?_) (λhc=>?_)]
   ·have kQ:0<y:=jJ hc
    have hy:y≠0:=by lia
    erw[_,Z,_,Z,_,Z,_,_,Z,Z,kQ,_,_,Z,?_];erw[#[Z,_,_,Z,y0,pV _ hy,(_A.Vo kQ).trans e],?_];show(x%y).natAbs<y.natAbs;have:=pV x hy;have:=uH x kQ
    lia
   ·have hy:y=0:=by
     have:¬y>0:=λz=>hc (cU z)
     lia
    subst hy;rw[Int.gcd_zero_right]at e;have ex:x=((Int.gcd a b:Nat):Int):=by lia
    have qR:b≠0:=by lia
    have gp:=_A.En (p:=a) qR;have es:_A.sg a b=(Int.gcd a b:Int):=by unfold _A.sg;rw[bI aw]
    have gw:Wd (Int.gcd a b:Int):=by rw[<-es];erw[sf (_A.Pw qR) wb]
    let(e1,e2):=Dv (a:=a) qR;have f1:a/(Int.gcd a b:Int)=(Rat.divInt a b).num:=by rw[<-e1];unfold _A.lowP;rw[es,Yd _ aw]
    have f2:b/(Int.gcd a b:Int)=((Rat.divInt a b).den:Int):=by rw[<-e2];unfold _A.iG;rw[es,Yd _ aw]
    subst ex;erw[_,Z,_,Z,_,_,Z,Z,#[gp,gw],_,Z,_,Z,_,_,Z,Z,#[gp,gw],bU Z,λt H6 n6=>?_];have Xg:=n6.at';simp only[f1,f2]at Xg;erw[k _ _ #[t,Z,aV.of Xg] n6.same]
  ·rintro O H2 Q1 Q2 hq ⟨v1,e1,i,j,e3,e4,kk,e5,q⟩
   erw[v1,e1,i,j,e3,e4,kk,e5,hq _ _ q]
theorem QF:bN ["_law_thing"] ["_law_thing"] (bj Im):=bZ bf
theorem a3Y(F:FA K mg "_law_number" Im)(B:cn mg):aJ P w K mg aB "_law_number" 1 (xu K):=by
 erw[F.has QF (λvs H Q E h=>?_) (λ_ _ _ _ _ _=>fj λ_=>rfl) (λf aQ A outer s H vs Q E hr h=>?_)]
 ·let(v,T,rfl,_):=h
  rfl
 ·let(v,T,rfl,ty,k):=h
  have nd:=QF.nd;erw[_,(aI (aZ (j9 (eV K B (au (pv 0) (au (dR (x:="int") (v:=.ty "int") Z (B.at "int") Ny rfl) az))) (j6 (Sg (eV K B (au (pv 0) (au (dR (x:="bool") (v:=.ty "bool") rfl (B.at "bool") XZ rfl) az)))))))),?_];erw[_,Z,.inl #[_,T,"int",_,Z,ty,aD,Z,_,Z,?_]];unfold yj at k;erw[eL (λhc=>?_) (λhc=>?_)]
  ·erw[_,Z,.inl #[_,T,"bool",_,Z,ty,aD,Z,_,Z,?_]]
   rw[hc,lF]at k;erw[k]
  ·rw[zp.mpr hc,lV]at k
   erw[k]
end
section
theorem Oc:jr "tuple" "tuple"=true:=by decide
theorem Of:jr "list" "list"=true:=by decide
abbrev Itm:=Option (List Int × Int)
def itR(d:ai)(o:Itm):Prop:=(∃ns sp,d=iP ns sp/\o=some (ns,sp))\/∃w x,d= .tuple [.str w,x]/\(w="wait"\/w="tool"\/w="mark")/\fQ x=true/\o=none
theorem itR.no(h:itR d o):fQ d=true:=by
 rcases h with⟨ns,sp,rfl,_⟩|⟨w,x,rfl,_,h,_⟩
 ·erw[Dz _ _]
 ·simp[fQ,du,h]
theorem yi{v:V}(h:RD K H v d)(i:itR d o):∃a w ys,v= .ref a/\aV K H a (.str w::ys)/\(PyData.eqv (.str w) (.str "line")=o.isSome)/\SeqAt.shaped (.str w)=true:=by
 rcases i with⟨ns,sp,rfl,rfl⟩|⟨w,x,rfl,hw,_,rfl⟩
 ·let(a,b,rfl,h1,_):=mV h
  erw[a,_,_,Z,h1,(by show PyData.eqv (.str "line") (.str "line")=true;decide+kernel),bf]
 ·let(a,xs,rfl,h1,h2):=h.fE
  let(x1,r1,rfl,e1,h2):=h2.cons_inv;cases e1.str_inv;erw[a,w,r1,Z,h1,?_,?_]
  ·show PyData.eqv (.str w) (.str "line")=false
   rcases hw with rfl|rfl|rfl<;>decide+kernel
  ·rcases hw with rfl|rfl|rfl<;>decide+kernel
theorem vw:SeqAt.shaped (.str "line")=true:=by decide+kernel
theorem lO(h:itR d (some (ns,sp))):d=iP ns sp:=by
 rcases h with⟨A7,zJ,e1,e2⟩|⟨_,_,_,_,_,e2⟩
 ·cases e2;erw[e1]
 ·cases e2
structure iI(ax:Nat)(ds:List ai)(os:List Itm):Prop where
 len:ds.length=os.length
 it:∀(i:Nat)(d:ai)(o:Itm),ds[i]? =some d->os[i]? =some o->itR d o
 ok:∀(i:Nat)(ns:List Int)(sp:Int),os[i]? =some (some (ns,sp))->fM ax 100 ns/\1<=sp/\sp<=20
theorem iI.nil:iI ax [] []:=#[Z,λi d o e=>by simp at e,λi ns sp e=>by simp at e]
theorem uU{α:Type}{xs:List α}{x y:α}{j:Nat}(e:(xs++[x])[j]? =some y):xs[j]? =some y\/(j=xs.length/\y=x):=by
 by_cases hj:j<xs.length
 ·rw[zo hj]at e;erw[.inl e]
 ·have qO:j=xs.length:=by
   have:=(eQ.mp e).1;rw[fN]at this;have:j<xs.length+1:=this
   lia
  rw[qO,BI (ck _),Nz]at e;erw[.inr #[qO,(fe e).symm]]
theorem iI.snoc{ax:Nat}{ds:List ai}{os:List Itm}{d:ai}{o:Itm}(h:iI ax ds os)(i:itR d o)(g:∀ns sp,o=some (ns,sp)->fM ax 100 ns/\1<=sp/\sp<=20):iI ax (ds++[d]) (os++[o]):=by
 have hl:=h.len;erw[by rw[fN,fN,h.len];rfl,λj d' o' e1 e2=>?_,λj ns sp e=>?_]
 ·rcases uU e1 with e1|⟨j1,rfl⟩
  ·rcases uU e2 with e2|⟨j2,rfl⟩
   ·erw[h.it j d' o' e1 e2]
   ·have:=(eQ.mp e1).1;lia
  ·rcases uU e2 with e2|⟨j2,rfl⟩
   ·have:=(eQ.mp e2).1;lia
   ·erw[i]
 ·rcases uU e with e|⟨_,e⟩
  ·erw[h.ok j ns sp e]
  ·erw[g ns sp e.symm]
theorem iI.no{ax:Nat}{ds:List ai}{os:List Itm}(h:iI ax ds os):du ds=true:=iM.mpr λd hd=>by let(i,hi):=sx.mp hd;have hl:=(eQ.mp hi).1;exact(h.it i d _ hi (cC (by rw[<-h.len];erw[hl]))).no
theorem iI.get{ax:Nat}{ds:List ai}{os:List Itm}(h:iI ax ds os){i:Nat}{d:ai}(e:ds[i]? =some d):∃o,os[i]? =some o/\itR d o:=by have hl:=(eQ.mp e).1;have e2:=cC (show i<os.length by rw[<-h.len];erw[hl]);erw[_,e2,h.it i d _ e e2]
inductive aex(K:aa)(vs:List V)(H:Hp)(Q:VK):Prop |mk (v:_)(d:_)(o:_)(h0:vs=[v])(h1:RD K H v d)(h2:itR d o)(h3:Q (.bl o.isSome) H)
def xx(K:aa):Sp:=λvs H Q _=>aex K vs H Q
theorem QH:bN ["item"] ["item"] (bj Ip):=bZ bf
theorem a48(F:FA K mg "is_line" Ip)(B:cn mg):aJ P w K mg aB "is_line" 1 (xx K):=by
 erw[F.has QH (λvs H Q E h=>?_) (λ_ _ _ _ _ _=>fj λ_=>rfl) (λf aQ A outer s H vs Q E hr h=>?_)]
 ·let(v,d,o,rfl,_):=h
  rfl
 ·let(v,d,o,rfl,ri,it,k):=h
  have nd:=QH.nd;erw[_,(aI (aZ (fS (dF K Z hr.units) (px K (pv 0) aF) bh (bM _)))),?_];let(a,wd,ys,rfl,h1,ew,sw):=yi ri it;erw[_,Z,.inr #[a,_,0,.str wd,Z,Z,h1,dQ (hW 0) Z,.inr #[_,_,df _,df _,sw,vw,?_]]];rw[ew];erw[k]
theorem OC{H:Hp}:∀{xs:List V}{zs:List Str},aO K H xs (zs.map PyData.str)->xs=zs.map V.str |xs,[],h=>h.nil_inv |xs,n::ns,h=>by let(y,ys,rfl,h1,h2):=h.cons_inv;rw[h1.str_inv,OC h2];rfl
theorem ad7:kE.cps.toList.length=26:=by decide+kernel
theorem Qr:bN ["_law_bag_here","_law_kind","_law_letters"] ["_law_bag_here"] (bj HS):=bZ bf
end
section
end
end _c
namespace _c
open PySem PySem.Spec PyProof.Rows _L _r
section
def Yq(ns:List Int):ai:=.tuple (ns.map λz=>dk (Rat.divInt z (_l.aP ns)))
theorem sW(r:Rat):fQ (dk r)=true:=by simp[dk,fQ,du]
theorem Ta{α:Type}{f:α->ai}(h:∀a,fQ (f a)=true)(l:List α):du (l.map f)=true:=iM.mpr λd hd=>by let(a,_,rfl):=kh.mp hd;erw[h a]
inductive adB(K:aa)(vs:List V)(H:Hp)(Q:VK):Prop |mk (v:_)(ns:_)(sp:_)(h0:vs=[v])(h1:RD K H v (iP ns sp))(h2:fM ns.length 1000 ns)(h3:ns.length<=1000)(h4:∀v' H',RD K H' v' (Yq ns)->aH H H'->Q v' H')
def OM(K:aa):Sp:=λvs H Q _=>adB K vs H Q
theorem PH:bN ["line","lead"] ["line"] (bj GC):=bZ bf
theorem a33(F:FA K mg "ways_of" GC)(B:cn mg)(qL:aJ P w K mg aB "lead_of" 1 (mQ K))(tT:aJ P w K mg aB "fraction" 3 (xp K)):aJ P w K mg aB "ways_of" 4 (OM K):=by
 erw[F.has PH (λvs H Q E h=>?_) (λ_ _ _ _ _ _=>fj λ_=>rfl) (λf aQ A outer s H vs Q E hr h=>?_)]
 ·let(v,ns,sp,rfl,_):=h
  rfl
 ·let(v,ns,sp,rfl,rd,ok,hz,k):=h
  have nd:=PH.nd;erw[_,(aG (pS 1 nd (pf qL hr (au (pv 0) az))) (aI (aZ (j8 (x:="tuple") (lX K Z) Z (B.at "tuple") gB (au (gU (N:=["step","lead"]) (js:=[none,some 1]) rfl rfl rfl (sY K rfl (px K (pv 0) aF)) (λ_ _ _ _ _=>(bR 0 (gG aD))) (λ_ _ _ _ _=>gs) (λ_ _ _ _ _=>(pf tT hr (au (pv 0) (au (pv 1) az))))) az))))),?_];erw[_,Z,v,ns,sp,Z,rd,ok.ne,hz,λH1 s1=>?_];let(a,b,rfl,ha,hb):=mV (RD.mono s1 _ rd);let(lp,lm):=ok.lead;erw[_,Z,.inr #[a,_,1,.ref b,Z,Z,ha,Z,b,Z,#[_,hb],λD H0 nw=>?_]];erw[EN (K:=K) (xs:=ns.map V.int) (ds:=ns.map λz=>dk (Rat.divInt z (_l.aP ns))) _ hb nw (by simp) (by simpa using hz) (Ta (λ_=>sW _) _) ?_ ?_]
  ·intro i x d H2 Q' ex ed s2 hq
   let(n,en,rfl):=nN ed;cases Aj ex en;erw[_,Z,_,Z,n,_,Z,fH,iW (n:=20) fH aD,λv3 H3 r3 s3=>?_];erw[hq _ _ s3 r3.rd]
  ·intro H' ys s2 d2 r2
   erw[D,_,Z,.inl #[aK.of d2,λt H4 n4=>?_]];erw[k _ _ (gR (aV.of n4.at') (aO.mono n4.same _ r2)) (s1.trans (s2.trans n4.same))]
end
end _c
namespace _c
open PySem PySem.Spec PyProof.Rows _L
section
end
section
theorem zw:jr "tuple" "tuple"=true:=by decide
theorem Yp(d:ai):(∃i,d= .int i/\yj (ow d)=true)\/(yj (ow d)=false/\∀i,d≠ .int i):=by cases d with |int i=>erw[.inl #[i,Z,by simp[ow];decide]] |_=>erw[.inr #[by simp[ow];decide,λ_ z=>nomatch z]]
theorem FZ(d:ai):(∃ds,d= .tuple ds)\/(jr (ow d) "tuple"=false/\∀ds,d≠ .tuple ds):=by cases d with |tuple ds=>erw[.inl #[ds,Z]] |_=>erw[.inr #[by simp[ow];decide,λ_ z=>nomatch z]]
def ir(lo hi:Int):ai->Bool | .int i=>decide (lo<=i)&&decide (i<=hi) |_=>false
theorem a6y{lo hi:Int}(h:∀i,d≠ .int i):ir lo hi d=false:=by cases d<;>first|rfl|erw[absurd rfl (h _)]
inductive adC(K:aa)(vs:List V)(H:Hp)(Q:VK):Prop |mk (v:_)(d:_)(lo:_)(hi:_)(h0:vs=[v,.int lo,.int hi])(h1:RD K H v d)(h2:Q (.bl (ir lo hi d)) H)
def uT(K:aa):Sp:=λvs H Q _=>adC K vs H Q
theorem PJ:bN ["thing","low","high"] ["thing","low","high"] (bj GD):=bZ bf
theorem a32(F:FA K mg "is_whole_within" GD)(B:cn mg)(E2:aJ P w K mg aB "is_whole" 1 (xu K)):aJ P w K mg aB "is_whole_within" 2 (uT K):=by
 erw[F.has PJ (λvs H Q E h=>?_) (λ_ _ _ _ _ _=>pG λ_ _ _=>rfl) (λf aQ A outer s H vs Q E hr h=>?_)]
 ·let(v,d,lo,hi,rfl,_):=h
  rfl
 ·let(v,d,lo,hi,rfl,rd,k):=h
  have nd:=PJ.nd;erw[_,(aI (aZ (j9 (pf E2 hr (au (pv 0) az)) (j6 (Sn xR xR (pv 1) (pv 0) (pv 2)))))),?_];erw[_,Z,_,_,Z,rd.ty,_,Z,?_];rcases Yp d with⟨i,rfl,e⟩|⟨e,hn⟩
  ·cases rd.int_inv
   rw[e];erw[cx ?_];have k:Q (.bl (decide (lo<=i)&&decide (i<=hi))) H:=k;erw[_,Z,_,Z,_,_,Z,Z,_,Z,?_];erw[eL (λhc=>?_) (λhc=>?_)]
   ·have iu:decide (lo<=i)=true:=hc
    rw[iu,lF]at k;erw[_,Z,_,_,Z,Z,k]
   ·have iu:decide (lo<=i)=false:=zp.mpr hc
    rw[iu,lV]at k;erw[k]
  ·rw[e]
   erw[bK ?_];rw[a6y hn]at k;erw[k]
end
end _c
namespace _c
open PySem PySem.Spec PyProof.Rows _L _r _l _C
section
theorem NU{ns ms:List Int}{i:Nat}{a b:Int}(h1:ns[i]? =some a)(h2:ms[i]? =some b):(eu ns ms)[i]? =some (a*(aP ms:Int)-b*(aP ns:Int)):=by unfold eu;rw[cV,(zm (z:=(a,b))).mpr #[h1,h2]];rfl
def B7(j:Int)(ns ms:List Int):ai:=if aP (eu ns ms)=0 then .none else dk (Rat.divInt ((j*aP ns*aP ms)^2) ((aP (eu ns ms):Int)^2))
inductive aeE(K:aa)(vs:List V)(H:Hp)(Q:VK):Prop |mk (v:_)(v1:_)(v2:_)(rs:_)(r:_)(f:_)(j:_)(t:_)(ns:_)(ms:_)(hZ:_)(iY:_)(h0:vs=[v,v1,v2])(h1:RD K H v (jA rs r f j t))(h2:RD K H v1 (iP ns hZ))(h3:RD K H v2 (iP ms iY))(h4:fM ns.length 1000 ns)(h5:fM ns.length 1000 ms)(h6:ns.length<=1000)(h7:1<=j)(h8:j<=50)(h9:∀v' H',RD K H' v' (B7 j ns ms)->aH H H'->Q v' H')
def Gr(K:aa):Sp:=λvs H Q _=>aeE K vs H Q
theorem zip2{ns ms:List Int}(h:ms.length=ns.length){i:Nat}{x y:V}(ex:(ns.map V.int)[i]? =some x)(ey:(ms.map V.int)[i]? =some y):∃a b,ns[i]? =some a/\ms[i]? =some b/\x= .int a/\y= .int b:=by rw[cV]at ex ey;cases e1:ns[i]? with |none=>rw[e1]at ex;cases ex |some a=>cases e2:ms[i]? with |none=>rw[e2]at ey;cases ey |some b=>rw[e1]at ex;rw[e2]at ey;erw[a,b,Z,Z,(fe ex).symm,(fe ey).symm]
inductive adE(K:aa)(vs:List V)(H:Hp)(Q:VK):Prop |mk (v1:_)(v2:_)(ns:_)(ms:_)(hZ:_)(iY:_)(h0:vs=[v1,v2])(h1:RD K H v1 (iP ns hZ))(h2:RD K H v2 (iP ms iY))(h3:fM ns.length 1000 ns)(h4:fM ns.length 1000 ms)(h5:ns.length<=1000)(h6:∀v' H',bO K H' v' (Rat.divInt (aP (eu ns ms)) ((aP ns:Int)*aP ms))->aH H H'->Q v' H')
def OO(K:aa):Sp:=λvs H Q _=>adE K vs H Q
theorem PK:bN ["one","other","greatest","way","new_way","p","q","difference"] ["one","other"] (bj GF):=bZ bf
theorem a34(F:FA K mg "greatest_turn" GF)(B:cn mg)(UE:aJ P w K mg aB "ways_of" 4 (OM K))(a7x:aJ P w K mg aB "minus" 3 (oB (·-·) K))(Li:aJ P w K mg aB "is_less" 1 (xt K)):aJ P w K mg aB "greatest_turn" 5 (OO K):=by
 erw[F.has PK (λvs H Q E h=>?_) (λ_ _ _ _ _ _=>dS λ_ _=>rfl) (λf aQ A outer s H vs Q E hr h=>?_)]
 ·let(v1,v2,ns,ms,hZ,iY,rfl,_):=h
  rfl
 ·let(v1,v2,ns,ms,hZ,iY,rfl,Je,mR,gy,fJ,hz,k):=h
  have nd:=PK.nd;let(lp1,lm1):=gy.lead;let(lp2,Kh):=fJ.lead;have UC:ms.length<=1000:=by rw[fJ.len];erw[hz]
  have a4t:fM ms.length 1000 ms:=#[Z,fJ.bd,fJ.nz];have cb:=EM (λz hz=>by have:=gy.bd z hz;lia) (λz hz=>by have:=fJ.bd z hz;lia) (ns:=ns) (ms:=ms);have L0:(0:Int)<(aP ns:Int)*aP ms:=jh aw aw;have Lb:((aP ns:Int)*aP ms).natAbs<=1000*1000:=mi aw aw;have ahe:(eu ns ms).length=ns.length:=by simp[eu,fJ.len]
  have V2:∀c:Int,c.natAbs<=2000000->Bd 2000 (Rat.divInt c ((aP ns:Int)*aP ms)):=λc hc=>(lM (n:=30) aw aw aw).mono aD;erw[_,(aG (pS 2 nd (cQ (au aF (au aF az)))) (aG (m9 iJ Z (kN K Z false false Z (B.at "zip") (au (pf UE hr (au (pv 0) az)) (au (pf UE hr (au (pv 1) az)) az))) (eg K rfl (n:=2) rfl (cf (bR 3 nd) (cf (bR 4 nd) dZ))) (aG (fP (pf a7x hr (au (pv 4) (au (pv 3) az))) (eg K Z (n:=2) Z (cf (bR 5 nd) (cf (bR 6 nd) dZ)))) (aG (pS 7 nd (cQ (au (eG (x:="abs") pF Z (B.at "abs") rZ (au (pv 5) az)) (au (pv 6) az)))) (aI (bQ (cP (pf Li hr (au (pv 2) (au (pv 7) az)))) (aI (pS 2 nd (pv 7))) bV))))) (aI (aZ (pv 2))))),?_];erw[bU Z,λg0 H1 n1=>?_];erw[_,Z,v1,ns,hZ,Z,RD.mono n1.same _ Je,gy,hz,λw1 H2 r2 s2=>?_];have t2:=n1.same.trans s2;erw[_,Z,v2,ms,iY,Z,RD.mono t2 _ mR,a4t,UC,λw2 H3 r3 s3=>?_];have t3:=t2.trans s3;let(c1,xs1,rfl,h1,q1):=(RD.mono s3 _ r2).fE;let(c2,xs2,rfl,h2,q2):=r3.fE;have l1:=q1.length;have l2:=q2.length;rw[cJ]at l1 l2;erw[c1,c2,Z,#[_,h1],#[_,h2],?_];erw[a9x (K:=K) (b1:=false) (b2:=false) (xs:=xs1) (ys:=xs2) ns.length (by rw[l1,l2,fJ.len];lia) (λi O H4=>aH H3 H4/\∃g u1 u2 u3 u4 u5,bO K H4 g (Rat.divInt (tS (eu ns ms) i) ((aP ns:Int)*aP ms))/\O=cZ9 v1 (cZ9 v2 (cZ9 g (u1::u2::u3::u4::u5::[])))) ?_ (λi O H4 _ h=>#[h1.go h.1,h2.go h.1]) ?_ ?_]
  ·erw[aH.refl _,.ref g0,none,none,none,none,none,#[g0,Z,?_],Z]
   have e0:Rat.divInt ((tS (eu ns ms) 0:Nat):Int) ((aP ns:Int)*aP ms)=0:=by show Rat.divInt 0 _=0;erw[Rat.zero_divInt _]
   rw[e0];erw[aV.of (s3 _ _ (s2 _ _ n1.at'))]
  ·rintro i x y O H4 ex ey ⟨s4,g,u1,u2,u3,u4,u5,rg,rfl⟩ T H5 n5
   let(d1,e1,rx):=q1.get' i ex;let(d2,e2,ry):=q2.get' i ey;let(a,ea,rfl):=nN e1;let(b,eb,rfl):=nN e2;have qa:=gy.bd a (hO ea);have qb:=fJ.bd b (hO eb);have cz:=NU ea eb;have czb:=cb _ (hO cz);have t5:=s4.trans n5.same;erw[T,_,Z,aV.of n5.at',Z,_,_,Z,_,_,Z,Z,?_];have oH:∀{H':Hp}{v:V}{r:Rat},RD K H' v (dk r)->bO K H' v r:=λ{H' v r} h=>by let(p,xs,rfl,h1,h2):=h.fE;have:=h2.jC (ns:=[r.num,r.den]);subst this;erw[p,Z,h1]
   erw[_,Z,_,Z,y,x,_,_,Z,oH (RD.mono t5 _ ry),oH (RD.mono t5 _ rx),(lM (n:=30) aw aw aw).mono aD,(lM (n:=30) aw aw aw).mono aD,λv6 H6 r6 s6=>?_];have ed:Rat.divInt b (aP ms)-Rat.divInt a (aP ns)=Rat.divInt (b*aP ns-a*aP ms) ((aP ns:Int)*aP ms):=ZQ aw aw;have r6:bO K H6 v6 (Rat.divInt b (aP ms)-Rat.divInt a (aP ns)):=r6;rw[ed]at r6;let(p6,rfl,h6):=r6;erw[p6,_,Z,h6,Z,_,_,Z,_,_,Z,Z,?_];erw[_,Z,_,Z,_,Z,bU Z,λdd H7 n7=>?_];have oE:=s6.trans n7.same;have rD:bO K H7 (.ref dd) (Rat.divInt (((a*(aP ms:Int)-b*(aP ns:Int)).natAbs:Nat):Int) ((aP ns:Int)*aP ms)):=by
    have e:Rat.divInt (((a*(aP ms:Int)-b*(aP ns:Int)).natAbs:Nat):Int) ((aP ns:Int)*aP ms)=wG (Rat.divInt (b*aP ns-a*aP ms) ((aP ns:Int)*aP ms)):=by rw[ad3 L0,Bg];congr 1;lia
    rw[e];erw[dd,Z,?_];rw[ad2,ad4];erw[aV.of n7.at']
   have rG:bO K H7 g _:=(rg.go n5.same).go oE;have hG:tS (eu ns ms) i<=2000000:=oV λz hz=>cb z (Fz hz);erw[_,Z,_,Z,g,.ref dd,_,_,Z,rG,rD,V2 _ aw,V2 _ aw,_,Z,?_];have hs:=a7U cz;erw[eL (λhc=>?_) (λhc=>?_)]
   ·have cK:=(Wr L0).mp (jJ hc)
    erw[_,Z,?_];erw[t5.trans oE,_,_,_,_,_,_,?_,Z];rw[hs,Nat.max_eq_right aw];erw[rD]
   ·have E6:¬_:=λz=>hc (cU ((Wr L0).mpr z))
    erw[t5.trans oE,_,_,_,_,_,_,?_,Z];rw[hs,Nat.max_eq_left aw];erw[rG]
  ·rintro O H4 ⟨s4,g,u1,u2,u3,u4,u5,rg,rfl⟩
   erw[_,Z,k _ _ ?_ (t3.trans s4)];have:tS (eu ns ms) ns.length=aP (eu ns ms):=by unfold tS;rw[Fy aw]
   rw[this]at rg;erw[rg]
theorem QT:bN ["machine","one","other","jump","p","q"] ["machine","one","other"] (bj IE):=bZ bf
theorem a4j(F:FA K mg "corner_square" IE)(B:cn mg)(a7W:aJ P w K mg aB "greatest_turn" 5 (OO K))(tT:aJ P w K mg aB "fraction" 3 (xp K)):aJ P w K mg aB "corner_square" 6 (Gr K):=by
 erw[F.has QT (λvs H Q E h=>?_) (λ_ _ _ _ _ _=>pG λ_ _ _=>rfl) (λf aQ A outer s H vs Q E hr h=>?_)]
 ·let(v,v1,v2,rs,r,f',j,t,ns,ms,hZ,iY,rfl,_):=h
  rfl
 ·let(v,v1,v2,rs,r,f',j,t,ns,ms,hZ,iY,rfl,rd,Je,mR,gy,fJ,hz,j1,j2,k):=h
  have nd:=QT.nd;let(lp1,lm1):=gy.lead;let(lp2,Kh):=fJ.lead;have L0:(0:Int)<(aP ns:Int)*aP ms:=jh aw aw;have Lb:((aP ns:Int)*aP ms).natAbs<=1000*1000:=mi aw aw;have cb:=EM (λz hz=>by have:=gy.bd z hz;lia) (λz hz=>by have:=fJ.bd z hz;lia) (ns:=ns) (ms:=ms);have hH:=oV cb;erw[_,(aG (pS 3 nd (px K (pv 0) aF)) (aG (fP (pf a7W hr (au (pv 1) (au (pv 2) az))) (eg K Z (n:=2) Z (cf (bR 4 nd) (cf (bR 5 nd) dZ)))) (aG (bQ (cy (dF K Z hr.units) (pv 4) aF (bM _)) (aI (aZ j7)) bV) (aI (aZ (pf tT hr (au (aL cg (aL cg (aL cg (pv 3) (pv 3)) (pv 5)) (pv 5)) (au (aL cg (pv 4) (pv 4)) az)))))))),?_];let(am,bm,rfl,iH,kC):=mj rd;erw[_,Z,.inr #[am,_,3,.int j,Z,Z,iH,Z,?_]];erw[_,Z,_,Z,v1,v2,ns,ms,hZ,iY,Z,Je,mR,gy,fJ,hz,λv3 H3 r3 s3=>?_];obtain⟨MU⟩:Nonempty (Bd 30 (Rat.divInt (aP (eu ns ms)) ((aP ns:Int)*aP ms))):=⟨lM (n:=30) aw aw aw⟩;have en:=uC (Rat.divInt (aP (eu ns ms)) ((aP ns:Int)*aP ms));obtain⟨R,hR⟩:∃R,Rat.divInt (aP (eu ns ms)) ((aP ns:Int)*aP ms)=R:=#[_,Z];rw[hR]at r3 MU en;have dp:=den_pos R;have B6:R.num*((aP ns:Int)*aP ms)=aP (eu ns ms)*R.den:=by rw[<-hR]at en;have:=(Rat.divInt_eq_divInt_iff (by rw[hR];lia) aw).mp en;rw[hR]at this;erw[this]
  have nb:=MU.num;have db:=MU.den;let(p3,rfl,h3):=r3;erw[p3,_,Z,h3,Z,_,_,Z,_,_,Z,Z,?_];erw[_,Z,.inl #[_,_,Z,Z,_,Z,?_]];erw[eL (λhc=>?_) (λhc=>?_)]
  ·have h0:R.num=0:=by simpa using hc
   have hl:aP (eu ns ms)=0:=by
    rw[h0,BL]at B6;rcases Int.mul_eq_zero.mp B6.symm with h|h
    ·lia
    ·lia
   erw[k .bF H3 ?_ s3];unfold B7;rw[bE hl];erw[RV]
  ·have h0:R.num≠0:=by simpa using hc
   have hl:aP (eu ns ms)≠0:=by
    intro z;rw[z]at B6;have:R.num*((aP ns:Int)*aP ms)=0:=by rw[B6];erw[BL _]
    rcases Int.mul_eq_zero.mp this with h|h
    ·erw[h0 h]
    ·lia
   have m1:(j*j).natAbs<=50*50:=mi aw aw;have mD:(2:Nat)^64=18446744073709551616:=by decide
   erw[_,Z,_,Z,_,_,Z,Z,.of_left (cE aw aw),_,Z,_,_,Z,Z,.of_left (cE aw aw),_,Z,_,_,Z,Z,.of_right (cE aw aw),?_];erw[_,Z,_,Z,_,_,Z,Z,.of_left (cE aw aw),?_];erw[_,_,Z,NM h0 h0,?_,λv4 H4 r4 s4=>?_]
   ·erw[iW (n:=60) ?_ aD]
    rw[gD];erw[mh (n:=30) (m:=30) nb nb]
   ·erw[k _ _ ?_ (s3.trans s4)]
    unfold B7;rw[bI hl];have e:=abP (j:=j) (p:=R.num) (q:=R.den) (h:=aP (eu ns ms)) (L:=(aP ns:Int)*aP ms) h0 aw B6;rw[e,<-uG]at r4;erw[r4.rd]
def mS (d:ai):Bool:=ir 10 200 d
inductive ae0(K:aa)(vs:List V)(H:Hp)(Q:VK):Prop |mk (v:_)(d:_)(h0:vs=[v])(h1:RD K H v d)(h2:Q (.bl (mS d)) H)
def zH(K:aa):Sp:=λvs H Q _=>ae0 K vs H Q
theorem QG:bN ["thing"] ["thing"] (bj Io):=bZ bf
theorem a47(F:FA K mg "is_rate" Io)(B:cn mg)(a8y:GV mg "LEAST_RATE" (.int 10))(a8A:GV mg "GREATEST_RATE" (.int 200))(qP:aJ P w K mg aB "is_whole_within" 2 (uT K)):aJ P w K mg aB "is_rate" 3 (zH K):=by
 erw[F.has QG (λvs H Q E h=>?_) (λ_ _ _ _ _ _=>fj λ_=>rfl) (λf aQ A outer s H vs Q E hr h=>?_)]
 ·let(v,d,rfl,_):=h
  rfl
 ·let(v,d,rfl,rd,k):=h
  have nd:=QG.nd;erw[_,(aI (aZ (pf qP hr (au (pv 0) (au (fG (x:="LEAST_RATE") Z a8y) (au (fG (x:="GREATEST_RATE") Z a8A) az)))))),?_];erw[_,Z,v,d,10,200,Z,rd,k]
inductive adG(K:aa)(vs:List V)(H:Hp)(Q:VK):Prop |mk (v:_)(ns:_)(sp:_)(r:_)(h0:vs=[v,.int r])(h1:RD K H v (iP ns sp))(h2:1<=sp)(h3:sp<=20)(h4:10<=r)(h5:r<=200)(h6:∀v' H',bO K H' v' (Rat.divInt ((sp*r)^2) 10000)->aH H H'->Q v' H')
def Cj(K:aa):Sp:=λvs H Q _=>adG K vs H Q
theorem OK(a b:Int):a*a*b*b=(a*b)^2:=by rw[gC,gC,mO,lU];ac_rfl
theorem a1A(h1:10<=r)(h2:r<=200):mS (.int r)=true:=by show(decide (10<=r)&&decide (r<=200))=true;rw[cU h1,cU h2];rfl
theorem PM:bN ["line","rate","speed"] ["line","rate"] (bj GH):=bZ bf
theorem a36(F:FA K mg "top_square" GH)(B:cn mg)(AB:aJ P w K mg aB "is_rate" 3 (zH K))(tT:aJ P w K mg aB "fraction" 3 (xp K)):aJ P w K mg aB "top_square" 4 (Cj K):=by
 erw[F.has PM (λvs H Q E h=>?_) (λ_ _ _ _ _ _=>dS λ_ _=>rfl) (λf aQ A outer s H vs Q E hr h=>?_)]
 ·let(v,ns,sp,r,rfl,_):=h
  rfl
 ·let(v,ns,sp,r,rfl,rd,s1,s2,r1,r2,k):=h
  have nd:=PM.nd;erw[_,(aG (bQ (dX (cP (pf AB hr (au (pv 1) az)))) (aI nK) bV) (aG (pS 2 nd (px K (pv 0) aF)) (aI (aZ (pf tT hr (au (aL cg (aL cg (aL cg (pv 2) (pv 2)) (pv 1)) (pv 1)) (au (aL cg aF aF) az))))))),?_];erw[_,Z,_,.int r,Z,cF r,_,Z,?_];rw[a1A r1 r2];erw[bK ?_];let(a,b,rfl,ha,hb):=mV rd;erw[_,Z,.inr #[a,_,2,.int sp,Z,Z,ha,Z,?_]];have m1:(sp*sp).natAbs<=20*20:=by rw[gD];erw[oj aw aw]
  erw[_,Z,_,Z,_,_,Z,Z,.of_left (cE aw aw),_,Z,_,_,Z,Z,.of_left (cE aw aw),_,Z,_,_,Z,Z,.of_right (cE aw aw),?_];erw[_,_,Z,Z,.of_left (cE aD aD),?_];erw[_,_,Z,aD,iW (n:=20) aD aD,λv' H' r' s'=>k v' H' ?_ s'];rw[OK]at r';erw[r']
inductive adF(K:aa)(vs:List V)(H:Hp)(Q:VK):Prop |mk (v:_)(ns:_)(sp:_)(r:_)(h0:vs=[v,.int r])(h1:RD K H v (iP ns sp))(h2:1<=sp)(h3:sp<=20)(h4:10<=r)(h5:r<=200)(h6:∀v' H',bO K H' v' (Rat.divInt ((sp*r)^2) 10000)->aH H H'->Q v' H')
def G9(K:aa):Sp:=λvs H Q _=>adF K vs H Q
theorem PL:bN ["_law_line_here","_law_rate_here"] ["_law_line_here","_law_rate_here"] (bj GG):=bZ bf
end
end _c
namespace _c
open PySem PySem.Spec PyProof.Rows _L _r _l _C _P
open _O (topR cornO mnO betR atO ownF leadF ownL OkI OkIs)
section
theorem a07(n:Nat)(h:n<=1000):n<sizeLine:=sf h aD
theorem oH{v:V}(h:RD K H v (dk r)):bO K H v r:=by let(p,xs,rfl,h1,h2):=h.fE;have:=h2.jC (ns:=[r.num,r.den]);subst this;erw[p,Z,h1]
theorem fM.up(h:fM ax 100 ns):fM ns.length 1000 ns:=#[Z,λz hz=>by have:=h.bd z hz;lia,h.nz]
theorem iI.xV{ax:Nat}{ds:List ai}{os:List Itm}(h:iI ax ds os):OkIs os:=λi ns sp e=>by unfold atO at e;cases ho:os[i]? with |none=>rw[ho]at e;cases e |some o=>rw[ho]at e;have e':o=some (ns,sp):=e;subst e';let(a,b,c):=h.ok i ns sp ho;erw[a.bd,b,c]
theorem qD(h:aV K H a [.int 0,.int 1]):bO K H (.ref a) 0:=#[a,Z,h]
theorem abR(j:Int)(ns ms:List Int):B7 j ns ms=match cornO j ns ms with|none=>.none|some c=>dk c:=by unfold B7 cornO;split<;>rfl
inductive aeH(K:aa)(vs:List V)(H:Hp)(Q:VK):Prop |mk (m:_)(v1:_)(v2:_)(aE:_)(rs:_)(r:_)(f:_)(j:_)(t:_)(d1:_)(d2:_)(o1:_)(o2:_)(ax:_)(h0:vs=[m,v1,v2,.int aE])(h1:RD K H m (jA rs r f j t))(h2:1<=j)(h3:j<=50)(h4:RD K H v1 d1)(h5:RD K H v2 d2)(h6:itR d1 o1)(h7:itR d2 o2)(h8:(∀ns sp,o1=some (ns,sp)->fM ax 100 ns/\1<=sp/\sp<=20))(h9:(∀ns sp,o2=some (ns,sp)->fM ax 100 ns/\1<=sp/\sp<=20))(AO:ax<=100)(Vi:10<=aE)(AN:aE<=200)(Vh:∀v H',bO K H' v (betR j aE o1 o2)->aH H H'->Q v H')
def Cw(K:aa):Sp:=λvs H Q _=>aeH K vs H Q
theorem QX:bN ["machine","one","other","rate","squares","corner"] ["machine","one","other","rate"] (bj IJ):=bZ bf
theorem a4n(F:FA K mg "bound_between" IJ)(B:cn mg)(gN:GT K mg "NOUGHT" [.int 0,.int 1])(tR:aJ P w K mg aB "is_line" 1 (xx K))(DM:aJ P w K mg aB "top_square" 4 (Cj K))(a85:aJ P w K mg aB "corner_square" 6 (Gr K))(yt:aJ P w K mg aB "least" 2 (kj K)):aJ P w K mg aB "bound_between" 7 (Cw K):=by
 let(aN,mC,oy):=gN;erw[F.has QX (λvs H Q E h=>?_) (λ_ _ _ _ _ _=>EZ λ_ _ _ _=>rfl) (λf aQ A outer s H vs Q E hr h=>?_)]
 ·let(m,v1,v2,aE,rs,r,f,j,t,d1,d2,o1,o2,ax,rfl,_):=h
  rfl
 ·let(m,v1,v2,aE,rs,r,f,j,t,d1,d2,o1,o2,ax,rfl,rm,j1,j2,r1,r2,i1,i2,k1,k2,V5,dG,dN,k):=h
  have nd:=QX.nd;erw[_,(aG (bQ (PW.pt (kM (dX (cP (pf tR hr (au (pv 1) az)))) (lK (dX (cP (pf tR hr (au (pv 2) az))))))) (aI (aZ (fG (x:="NOUGHT") Z mC))) bV) (aG (pS 4 nd (dC (au (pf DM hr (au (pv 1) (au (pv 3) az))) (au (pf DM hr (au (pv 2) (au (pv 3) az))) az)))) (aG (pS 5 nd (pf a85 hr (au (pv 0) (au (pv 1) (au (pv 2) az))))) (aG (ib (bQ (cy zZ (pv 5) j7 (bM _)) (aI (ie (jR K Z (pv 4) (au (pv 5) az)))) bV)) (aI (aZ (pf yt hr (au (pv 4) az)))))))),?_];erw[_,Z,v1,d1,o1,Z,r1,i1,_,Z,?_];cases o1 with |none=>erw[cx (cx ?_)];have:=k _ H (qD (oy H)) (aH.refl _);erw[this] |some q1=>let(ns,sp):=q1;erw[bK ?_];erw[_,Z,v2,d2,o2,Z,r2,i2,_,Z,?_];cases o2 with |none=>erw[cx ?_];erw[k _ H (qD (oy H)) (aH.refl _)] |some q2=>let(ms,sq):=q2;erw[bK ?_];have e1:=lO i1;have e2:=lO i2;subst e1 e2;let(gy,a1,a2):=k1 ns sp rfl;let(fJ,b1,b2):=k2 ms sq rfl;erw[_,Z,_,Z,v1,ns,sp,aE,Z,r1,a1,a2,dG,dN,λt1 H1 J2 s1=>?_];erw[_,Z,_,Z,v2,ms,sq,aE,Z,RD.mono s1 _ r2,b1,b2,dG,dN,λt2 H2 J1 s2=>?_];erw[bU Z,λl H3 n3=>?_];have t3:=s1.trans (s2.trans n3.same);have lL:fM ns.length 1000 ms:=#[by rw[gy.len,fJ.len],fJ.up.bd,fJ.nz];erw[_,Z,_,Z,_,Z,m,v1,v2,rs,r,f,j,t,ns,ms,sp,sq,Z,RD.mono t3 _ rm,RD.mono t3 _ r1,RD.mono t3 _ r2,gy.up,lL,by rw[gy.len];lia,j1,j2,λc H4 rc s4=>?_];have T1:Bd 2000 (topR aE sp):=(_O.xb a1 a2 dG dN).mono aD;have T2:Bd 2000 (topR aE sq):=(_O.xb b1 b2 dG dN).mono aD;have R1:bO K H4 t1 (topR aE sp):=((J2.go s2).go n3.same).go s4;have R2:bO K H4 t2 (topR aE sq):=(J1.go n3.same).go s4;have t4:=t3.trans s4;rw[abR]at rc;cases hc:cornO j ns ms with
   |none=>
    rw[hc]at rc;cases rc.T4;erw[λO H5=>H5=H4/\O=cZ9 m (cZ9 v1 (cZ9 v2 (cZ9 (.int aE) (cZ9 (.ref l) (cZ9 .bF []))))),?_,?_]
    ·erw[_,Z,Z,_,Z,bK ?_]
     erw[Z,Z]
    rintro O H5 ⟨rfl,rfl⟩;erw[_,Z,l,[t1,t2],[topR aE sp,topR aE sq],Z,aK.of (s4 _ _ n3.at'),#[R1,T1,R2,T2,trivial],by simp,λi v q e1 e2 hq=>?_];have vJ:betR j aE (some (ns,sp)) (some (ms,sq))=q:=by
     show mnO (mn _ _) (cornO j ns ms)=q;rw[hc];erw[oS ?_ (hq _ (by simp)) (hq _ (by simp))]
     match i,e2 with |0,e2=>cases e2;erw[.inl rfl] |1,e2=>cases e2;erw[.inr rfl]
    erw[k v _ ?_ t4];rw[vJ]
    match i,e1,e2 with |0,e1,e2=>cases e1;cases e2;erw[R1] |1,e1,e2=>cases e1;cases e2;erw[R2]
   |some cq=>
    rw[hc]at rc;have Rc:bO K H4 c cq:=oH rc;have Tc:Bd 2000 cq:=(_O.MJ j1 j2 gy.bd fJ.bd hc).mono aD;have la:=s4 _ _ n3.at';have tU:jm H4 (_L.upd H4 l (.lst ([t1,t2]++[c]))):=.sH la;erw[λO H5=>H5=_L.upd H4 l (.lst ([t1,t2]++[c]))/\O=cZ9 m (cZ9 v1 (cZ9 v2 (cZ9 (.int aE) (cZ9 (.ref l) (cZ9 c []))))),?_,?_]
    ·let(pc,rfl,_):=id Rc
     erw[_,Z,Z,_,Z,cx ?_];erw[_,Z,.inl #[Z,_,aK.of la],_,Z,l,[t1,t2],_,Z,Z,la,a07 _ (NF Z),?_];erw[Z,Z]
    rintro O H5 ⟨rfl,rfl⟩;have up:∀{v:V}{q:Rat},bO K H4 v q->bO K (_L.upd H4 l (.lst ([t1,t2]++[c]))) v q:=λ{v q} h=>oH (RD.t tU _ (sW q) h.rd);erw[_,Z,l,[t1,t2,c],[topR aE sp,topR aE sq,cq],Z,aK.of bo,#[up R1,T1,up R2,T2,up Rc,Tc,trivial],by simp,λi v q e1 e2 hq=>?_];have vJ:betR j aE (some (ns,sp)) (some (ms,sq))=q:=by
     show mnO (mn _ _) (cornO j ns ms)=q;rw[hc];show mn (mn _ _) cq=q;have h1:=hq _ (show topR aE sp∈[topR aE sp,topR aE sq,cq] by simp);have h2:=hq _ (show topR aE sq∈[topR aE sp,topR aE sq,cq] by simp);have h3:=hq _ (show cq∈[topR aE sp,topR aE sq,cq] by simp);erw[oS ?_ (ml h1 h2) h3]
     match i,e2 with |0,e2=>cases e2;erw[.inl (oS (.inl rfl) h1 h2).symm] |1,e2=>cases e2;erw[.inl (oS (.inr rfl) h1 h2).symm] |2,e2=>cases e2;erw[.inr rfl]
    have sU:aH H (_L.upd H4 l (.lst ([t1,t2]++[c]))):=λb o e=>by have h0:H2 l=none:=n3.no;have e2:=s2 b o (s1 b o e);rw[aR (fZ e2 h0)];erw[t4 b o e]
    erw[k v _ ?_ sU];rw[vJ]
    match i,e1,e2 with |0,e1,e2=>cases e1;cases e2;erw[up R1] |1,e1,e2=>cases e1;cases e2;erw[up R2] |2,e1,e2=>cases e1;cases e2;erw[up Rc]
end
section
theorem xY(qs:List Rat):du (qs.map dk)=true:=Ta sW qs
theorem aO.Gx(dl:H l=some (.lst ys))(r:aO K H ys ds)(rd:RD K H y d)(n1:du ds=true)(n2:fQ d=true):aO K (_L.upd H l (.lst (ys.set i y))) (ys.set i y) (ds.set i d):=by have t:jm H (_L.upd H l (.lst (ys.set i y))):=.sH dl;have r':=aO.t t _ n1 r;have RW:=RD.t t _ n2 rd;clear r rd dl t;generalize _L.upd H l (.lst (ys.set i y))=H' at r' RW;induction ds generalizing ys i with |nil=>cases r'.nil_inv;erw[dc] |cons d0 ds ih=>
 let(y0,yr,rfl,h1,h2):=r'.cons_inv;have n1':du ds=true:=by rw[du,fD]at n1;erw[n1.2]
 cases i with |zero=>erw[cj RW h2] |succ i=>erw[cj h1 (ih n1' h2)]
theorem MH(xs:List V):nZ xs (some 1) none=xs.drop 1:=by unfold nZ;have e:_H.cN xs.length 0 (some 1)=min 1 xs.length:=_H.Rh _ _ 1;rw[e,_H.a0B];cases xs with |nil=>rfl |cons x xs=>
 have e2:min 1 (x::xs).length=1:=by simp
 rw[e2,Fy (by simp)]
inductive aej(K:aa)(vs:List V)(H:Hp)(Q:VK):Prop |mk (m:_)(iv:_)(aE:_)(rs:_)(r:_)(f:_)(j:_)(t:_)(ds:_)(os:_)(h0:vs=[m,iv,.int aE])(h1:RD K H m (jA rs r f j t))(h2:pI rs r f j t)(h3:RD K H iv (.tuple ds))(h4:iI rs.length ds os)(h5:ds.length<=100)(h6:10<=aE)(h7:aE<=200)(h8:∀l ys H',H l=none->H' l=some (.lst ys)->aO K H' ys ((ownL j aE os).map dk)->aH H H'->Q (.ref l) H')
def Pb(K:aa):Sp:=λvs H Q _=>aej K vs H Q
theorem CB:bN ["machine","items","rate","between"] ["machine","items","rate"] (bj CF):=bZ bf
theorem a3Q(F:FA K mg "own_bounds" CF)(B:cn mg)(gN:GT K mg "NOUGHT" [.int 0,.int 1])(Lq:aJ P w K mg aB "bound_between" 7 (Cw K)):aJ P w K mg aB "own_bounds" 8 (Pb K):=by
 let(aN,mC,oy):=gN;erw[F.has CB (λvs H Q E h=>?_) (λ_ _ _ _ _ _=>pG λ_ _ _=>rfl) (λf aQ A outer s H vs Q E hr h=>?_)]
 ·let(m,iv,aE,rs,r,f,j,t,ds,os,rfl,_):=h
  rfl
 ·let(m,iv,aE,rs,r,f,j,t,ds,os,rfl,rm,aM,ri,row,hz,dG,dN,k):=h
  have nd:=CB.nd;have rN:∀H',RD K H' (.ref aN) (dk 0):=λH'=>(qD (oy H')).rd;erw[_,(aG (bQ (dX (Jr K Z (pv 1))) (aI (aZ (dC (au (fG (x:="NOUGHT") Z mC) az)))) bV) (aG (Jt (i0:=3) nd Z (Or.inl Z) (N:=["one","other","machine","rate"]) (js:=[none,none,some 0,some 2]) Z Z Z (kN K Z false false Z (B.at "zip") (au (pv 1) (au (Jz (Gs K rfl) (pv 1) (Ju aF) Jv) az))) (λ_ _ _ _ _=>(eg K rfl (n:=2) rfl (cf (bR 0 (show List.Nodup (["one","other","machine","rate"]:List Str) by decide+kernel)) (cf (bR 1 (show List.Nodup (["one","other","machine","rate"]:List Str) by decide+kernel)) dZ)))) (λ_ _ _ _ _=>gs) (λ_ _ _ _ _=>(pf Lq hr (au (pv 2) (au (pv 0) (au (pv 1) (au (pv 3) az))))))) (aI (aZ (aL (yW K Z) (aL (yW K Z) (dC (au (fG (x:="NOUGHT") Z mC) az)) (pv 3)) (dC (au (fG (x:="NOUGHT") Z mC) az))))))),?_];let(ia,xs,rfl,hi,jc):=ri.fE;have lx:=jc.length;have ll:=row.len;erw[_,Z,_,.inr (.inl #[_,hi,Z]),?_];cases hd:xs with
  |nil=>
   subst hd;erw[cx ?_];erw[bU Z,λl H1 n1=>?_];erw[k l [.ref aN] H1 n1.no n1.at' ?_ n1.same];have e:os=[]:=by
    have:os.length=0:=by rw[<-ll,<-lx];rfl
    erw[FD.mp this]
   rw[e];erw[cj (rN H1) dc] |cons x0 xr=>
   erw[bK ?_];have eZ:os≠[]:=by intro e;rw[e]at ll;rw[hd]at lx;simp at ll lx;rw[ll]at lx;cases lx
   have KD:0<xs.length:=by rw[hd];simp
   erw[_,Z,_,Z,1,Z,ia,xs,Z,.inr #[hi,?_,λtl H1 n1=>?_]]
   ·rintro⟨h1,_⟩
    have e:_H.cN xs.length 0 (some 1)=min 1 xs.length:=_H.Rh _ _ 1;rw[e]at h1
    lia
   erw[ia,tl,Z,#[_,hi.go n1.same],#[_,aV.of n1.at'],λD H2 n2=>?_];have et:=n1.at';rw[MH]at et;have A4:∀(i:Nat)(o:Itm),os[i]? =some o->∀(ns:List Int)(sp:Int),o=some (ns,sp)->fM rs.length 100 ns/\1<=sp/\sp<=20:=λi o e ns sp e'=>row.ok i ns sp (by rw[e,e']);have lr:=aM.len;erw[wB (K:=K) (b1:=false) (b2:=false) (xs:=xs) (ys:=xs.drop 1) (ds:=((List.range (os.length-1)).map (λi=>ownF j aE os (i+1))).map dk) _ Z (hi.go n1.same) (aV.of et) n2 (by rw[NK];simp;lia) (by simp;lia) (xY _) ?_ ?_]
   ·intro i x y d H3 Q' ex ey ed s3 hq
    have dM:=n1.same.trans s3;rw[List.getElem?_drop]at ey;let(d1,e1,r1):=jc.get' i ex;let(d2,e2,r2):=jc.get' (1+i) ey;let(o1,pj,i1):=row.get e1;let(o2,nc,i2):=row.get e2;have US:1+i<os.length:=(eQ.mp nc).1;have mH:d=dk (betR j aE o1 o2):=by rw[cV,cV,cC (by simp;lia),wY]at ed;have:=(fe ed).symm;rw[this];show dk (betR j aE (atO os i) (atO os (i+1)))=_;rw[_O.rH pj,_O.rH (show os[i+1]? =some o2 by rw[Nat.add_comm];erw[nc])]
    subst mH;erw[_,Z,_,Z,_,Z,_,Z,m,x,y,aE,rs,r,f,j,t,d1,d2,o1,o2,rs.length,Z,RD.mono dM _ rm,aM.j1.1,aM.j1.2,RD.mono dM _ r1,RD.mono dM _ r2,i1,i2,A4 _ _ pj,A4 _ _ nc,aw,dG,dN,λv H4 rv s4=>?_];erw[hq _ _ s4 rv.rd]
   ·intro H3 zs s3 d3 r3
    have lz:=r3.length;simp at lz;erw[bU Z,λl1 H4 n4=>?_];erw[_,Z,l1,D,_,zs,Z,Z,aK.of n4.at',aK.of (n4.same _ _ d3),zK _ (by simp;lia),λl2 H5 n5=>?_];erw[bU Z,λl3 H6 n6=>?_];erw[l2,l3,_,_,Z,Z,aK.of (n6.same _ _ n5.at'),aK.of n6.at',zK _ (by simp;lia),λl H7 n7=>?_];have zP:aH H H6:=n1.same.trans (s3.trans (n4.same.trans (n5.same.trans n6.same)));have nl:H l=none:=by cases e:H l with |none=>rfl |some o=>have:=zP _ _ e;rw[n7.no]at this;cases this
    erw[k l _ H7 nl n7.at' ?_ (zP.trans n7.same)];rw[_O.Sy j aE eZ,pT,pT];exact((cj (rN H7) dc).append (aO.mono (n4.same.trans (n5.same.trans (n6.same.trans n7.same))) _ r3)).append (cj (rN H7) dc)
end
section
end
section
inductive aeh(K:aa)(vs:List V)(H:Hp)(Q:VK):Prop |mk (v:_)(r:_)(z:_)(h0:vs=[v,.int z])(h1:bO K H v r)(h2:Bd 2000 r)(h3:z.natAbs<2^24)(h4:∀v H',bO K H' v (r+(z:Rat))->aH H H'->Q v H')
def Cr(K:aa):Sp:=λvs H Q _=>aeh K vs H Q
theorem xr_addz {r : Rat} {z : Int} (m : r + (z : Rat) = Rat.divInt (r.num * (1:Nat) + z * r.den) (r.den * (1:Nat))) : r.num + z * r.den = (r + (z : Rat)).num ∧ (r.den : Int) = (r + (z : Rat)).den := by
  have c : (r.num + z * r.den).natAbs.Coprime r.den := (Int.gcd_add_mul_right_left (r.den : Int) r.num z).trans r.reduced
  have e : r + (z : Rat) = ⟨r.num + z * r.den, r.den, r.den_nz, c⟩ := by
    rw [m, Rat.mk_eq_divInt, Int.natCast_one, Int.mul_one, Int.mul_one]
  rw [e]
  exact ⟨rfl, rfl⟩
theorem Qq:bN ["one","more","p","q"] ["one","more"] (bj HR):=bZ bf
theorem a3M(F:FA K mg "plus_whole" HR)(B:cn mg):aJ P w K mg aB "plus_whole" 4 (Cr K):=by
 erw[F.has Qq (λvs H Q E h=>?_) (λ_ _ _ _ _ _=>dS λ_ _=>rfl) (λf aQ A outer s H vs Q E hr h=>?_)]
 ·let(v,r,z,rfl,_):=h
  rfl
 ·let(v,r,z,rfl,rv,br,hz,k):=h
  have nd:=Qq.nd
  obtain ⟨p,rfl,hp⟩:=rv
  refine ⟨_,(aG (fP (pv 0) (eg K Z (n:=2) Z (cf (bR 2 nd) (cf (bR 3 nd) dZ)))) (aI (aZ (cQ (au (aL cZ (pv 2) (aL cg (pv 1) (pv 3))) (au (pv 3) az)))))),?_⟩
  refine ⟨_,rfl,_,_,rfl,hp,rfl,_,_,rfl,_,_,rfl,rfl,?_⟩
  have bz:Bd 24 (z:Rat):=#[hz,by show 1<2^24;decide]
  obtain ⟨e1,e2⟩:=xr_addz (add_div r z)
  refine ⟨_,rfl,_,rfl,_,rfl,_,_,rfl,rfl,jg (bz.mono aD).wn.bits br.wd.bits,_,_,rfl,rfl,_,rfl,bU Z,fun t H' n=>k _ _ ⟨t,rfl,aV.of ?_⟩ n.same⟩
  rw [← e1,← e2]; exact n.at'
theorem DE{os:List Itm}{i:Nat}{ns:List Int}{sp:Int}(h:os[i]? =some (some (ns,sp))):leadF os i=some (aP ns):=by unfold leadF;rw[_O.rH h];rfl
theorem Ub{os:List Itm}{i:Nat}(h:os[i]? =some none):leadF os i=none:=by unfold leadF;rw[_O.rH h];rfl
theorem Uc{os:List Itm}(h:OkIs os){i m:Nat}(e:leadF os i=some m):m<=100:=by unfold leadF at e;cases ho:atO os i with |none=>rw[ho]at e;cases e |some q=>rw[ho]at e;cases e;let(a,_,_):=h i q.1 q.2 ho;erw[oV λz hz=>by have:=a z hz;lia]
theorem Oa{r:Int}{m:Nat}(h1:1<=r)(h2:r<=50)(h3:m<=100):(2*r*(m:Int)).natAbs<2^24:=by
 have jY:(2:Nat)^24=16777216:=by decide
 have:=mi (a:=2*r) (b:=(m:Int)) (m:=100) (n:=100) aw aw;rw[jY];lia
end
section
theorem QP:bN ["machine","items","squares","fall","kept","i"] ["machine","items","squares"] (bj IA):=bZ bf
end
section
theorem PV:bN ["_law_one","_law_other_here"] ["_law_one","_law_other_here"] (bj GN):=bZ bf
theorem a3b(F:FA K mg "_law_sum" GN)(B:cn mg)(u6:aJ P w K mg aB "_law_frac" 1 (zI K)):aJ P w K mg aB "_law_sum" 2 (oB (·+·) K):=by
 erw[F.has PV (λvs H Q E h=>?_) (λ_ _ _ _ _ _=>dS λ_ _=>rfl) (λf aQ A outer s H vs Q E hr h=>?_)]
 ·let(v1,v2,r,s,rfl,_):=h
  rfl
 ·let(v1,v2,r,s,rfl,(p,rfl,hp),(q,rfl,hq),br,bs,k):=h
  have nd:=PV.nd;erw[_,(aI (aZ (pf u6 hr (au (aL cZ (aL cg (px K (pv 0) aF) (px K (pv 1) aF)) (aL cg (px K (pv 1) aF) (px K (pv 0) aF))) (au (aL cg (px K (pv 0) aF) (px K (pv 1) aF)) az))))),?_];erw[_,Z,.inr #[p,_,0,.int r.num,Z,Z,hp,Z,_,Z,.inr #[q,_,1,.int s.den,Z,Z,hq,Z,_,_,Z,Z,jg br.wn.bits bs.wd.bits,?_]]];erw[_,Z,.inr #[q,_,0,.int s.num,Z,Z,hq,Z,_,Z,.inr #[p,_,1,.int r.den,Z,Z,hp,Z,_,_,Z,Z,jg bs.wn.bits br.wd.bits,?_]]];erw[_,_,Z,Z,?_];erw[_,Z,.inr #[p,_,1,.int r.den,Z,Z,hp,Z,_,Z,.inr #[q,_,1,.int s.den,Z,Z,hq,Z,_,_,Z,Z,jg br.wd.bits bs.wd.bits,?_]]];erw[_,_,Z,jh (den_pos r) (den_pos s),BW br bs,λv H' r' s'=>k v H' ?_ s'];show bO K H' v (r+s);rw[add_div];erw[r']
theorem Qy:bN ["_law_one","_law_other_here"] ["_law_one","_law_other_here"] (bj Ig):=bZ bf
theorem a40(F:FA K mg "_law_less" Ig)(B:cn mg):aJ P w K mg aB "_law_less" 1 (xt K):=by
 erw[F.has Qy (λvs H Q E h=>?_) (λ_ _ _ _ _ _=>dS λ_ _=>rfl) (λf aQ A outer s H vs Q E hr h=>?_)]
 ·let(v1,v2,r,s,rfl,_):=h
  rfl
 ·let(v1,v2,r,s,rfl,(p,rfl,hp),(q,rfl,hq),br,bs,k):=h
  have nd:=Qy.nd;erw[_,(aI (aZ (fS ko (aL cg (px K (pv 0) aF) (px K (pv 1) aF)) (aL cg (px K (pv 1) aF) (px K (pv 0) aF)) (bM _)))),?_];erw[_,Z,.inr #[p,_,0,.int r.num,Z,Z,hp,Z,_,Z,.inr #[q,_,1,.int s.den,Z,Z,hq,Z,_,_,Z,Z,jg br.wn.bits bs.wd.bits,?_]]];erw[_,Z,.inr #[q,_,0,.int s.num,Z,Z,hq,Z,_,Z,.inr #[p,_,1,.int r.den,Z,Z,hp,Z,_,_,Z,Z,jg bs.wn.bits br.wd.bits,?_]]];erw[_,_,Z,Z,?_];have e:decide (r.num*(s.den:Int)<s.num*(r.den:Int))=decide (r<s):=by rw[pW,pP,pP,Ft]
  show Q (.bl (decide (r.num*(s.den:Int)<s.num*(r.den:Int)))) H;rw[e];erw[k]
theorem Qv:bN ["_law_some","_law_best","_law_one"] ["_law_some"] (bj Ib):=bZ bf
theorem a3V(F:FA K mg "_law_min" Ib)(B:cn mg)(a91:aJ P w K mg aB "_law_less" 1 (xt K)):aJ P w K mg aB "_law_min" 2 (kj K):=by
 erw[F.has Qv (λvs H Q E h=>?_) (λ_ _ _ _ _ _=>fj λ_=>rfl) (λf aQ A outer s H vs Q E hr h=>?_)]
 ·let(l,xs,rs,rfl,_):=h
  rfl
 ·let(l,xs,rs,rfl,hl,kR,eZ,k):=h
  have nd:=Qv.nd;erw[_,(aG (pS 1 nd (px K (pv 0) aF)) (aG (m9 iJ Z (zX K Z (pv 0)) (bR 2 nd) (aI (bQ (cP (pf a91 hr (au (pv 2) (au (pv 1) az)))) (aI (pS 1 nd (pv 2))) bV))) (aI (aZ (pv 1))))),?_];have hlen:=kR.length;have h0:0<xs.length:=NI.mpr eZ;have e0:=cC h0;erw[_,Z,.inl #[l,xs,0,xs[0],Z,Z,hl,dQ aD e0,?_]];erw[_,Z,l,Z,#[_,hl],M0 (K:=K) (a:=l) (xs:=xs) (λi O H2=>H2=H/\∃(j:Nat)(b:V)(r:Rat)(v:Option V),xs[j]? =some b/\rs[j]? =some r/\(∀(m:Nat)(s:Rat),m<i->rs[m]? =some s->r<=s)/\O=cZ9 (.ref l) (cZ9 b (v::[]))) ?_ (λi O H2 _ h=>by rw[h.1];erw[hl]) ?_ ?_]
  ·let(r,e1,_):=kR.get e0
   erw[Z,0,_,r,none,e0,e1,λm s hm=>absurd hm (Nat.not_lt_zero _),Z]
  ·rintro i x O H2 hx ⟨rfl,j,b,r,v,eb,er,hm,rfl⟩
   let(t,et,rt,bt):=kR.get hx;let(r2,p9,rb,bb):=kR.get eb;rw[er]at p9;cases p9;erw[_,Z,_,Z,x,b,t,r,Z,rt,rb,bt,bb,_,Z,?_];erw[eL (λhc=>?_) (λhc=>?_)]
   ·have cK:t<r:=jJ hc
    erw[_,Z,?_];erw[Z,i,x,t,_,hx,et,λm s vQ es=>?_,Z];rcases NC.mp vQ with h|h
    ·erw[fz (Np cK) (hm m s h es)]
    ·subst h
     rw[et]at es;cases es;erw[rX]
   ·have KW:¬t<r:=λz=>hc (cU z)
    erw[Z,j,b,r,_,eb,er,λm s vQ es=>?_,Z];rcases NC.mp vQ with h|h
    ·erw[hm m s h es]
    ·subst h
     rw[et]at es;cases es;erw[BD.mp KW]
  ·rintro O H2 ⟨rfl,j,b,r,v,eb,er,hm,rfl⟩
   erw[_,Z,k j b r eb er λs hs=>?_];let(m,Le,em):=Y4.mp hs;erw[hm m s aw (by rw[cC Le,em])]
theorem a35(F:FA K mg "_law_top" GG)(B:cn mg)(u6:aJ P w K mg aB "_law_frac" 1 (zI K)):aJ P w K mg aB "_law_top" 2 (G9 K):=by
 erw[F.has PL (λvs H Q E h=>?_) (λ_ _ _ _ _ _=>dS λ_ _=>rfl) (λf aQ A outer s H vs Q E hr h=>?_)]
 ·let(v,ns,sp,r,rfl,_):=h
  rfl
 ·let(v,ns,sp,r,rfl,rd,s1,s2,r1,r2,k):=h
  have nd:=PL.nd;erw[_,(aI (aZ (pf u6 hr (au (aL cg (aL cg (aL cg (px K (pv 0) aF) (px K (pv 0) aF)) (pv 1)) (pv 1)) (au aF az))))),?_];let(a,b,rfl,ha,hb):=mV rd;have m1:(sp*sp).natAbs<=20*20:=by rw[gD];erw[oj fH fH]
  have m2:(sp*sp*r).natAbs<=400*200:=by rw[gD];erw[oj fH fH]
  erw[_,Z,.inr #[a,_,2,.int sp,Z,Z,ha,Z,_,Z,.inr #[a,_,2,.int sp,Z,Z,ha,Z,_,_,Z,Z,.of_left (cE fH fH),?_]]];erw[_,Z,_,_,Z,Z,.of_left (cE fH fH),_,Z,_,_,Z,Z,.of_left (cE fH fH),?_];erw[_,_,Z,aD,iW (n:=20) aD aD,λv' H' r' s'=>k v' H' ?_ s'];rw[OK]at r';erw[r']
theorem mn3{q:Rat}(h:q=x\/q=y\/q=z)(h1:q<=x)(h2:q<=y)(h3:q<=z):mn (mn x y) z=q:=by
 erw[Fu ?_ (ml (ml h1 h2) h3)];rcases h with h|h|h
 ·rw[h];erw[fz (ip _ _) (ip _ _)]
 ·rw[h];erw[fz (ip _ _) (lN _ _)]
 ·rw[h];erw[lN _ _]
theorem An(h:fM n 100 ns):aP ns<=100:=by have:=h.lead;lia
end
end _c
namespace _c
open PySem PySem.Spec PyProof.Rows _L _r _l _W
section
def fF(pl:List Int):ai:=.tuple (pl.map PyData.int)
theorem gd(pl:List Int):fQ (fF pl)=true:=by rw[fF,fQ];erw[me pl]
theorem vg{v:V}{pl:List Int}(h:RD K H v (fF pl)):∃a,v= .ref a/\aV K H a (pl.map V.int):=by let(a,xs,rfl,h1,h2):=h.fE;rw[h2.jC]at h1;erw[a,Z,h1]
theorem xK{pl:List Int}(h:aV K H a (pl.map V.int)):RD K H (.ref a) (fF pl):=gR h (xI pl)
def gz(pl:List Int):Itm->List Int |none=>pl |some (ns,_)=>fg pl ns
theorem bS.putL(b:bS p H H1)(hp:l≠p)(nl:H l=none):bS p H (_L.upd H1 l (.lst xs)):=by
 erw[?_,λc o n e=>?_]
 ·let(c',m',e,ok):=b.bu
  erw[c',m',by rw[aR hp.symm];erw[e],ok]
 ·rw[aR (fZ e nl)];erw[b.same c o n e]
inductive aeg(K:aa)(vs:List V)(H:Hp)(Q:VK):Prop |mk (p:_)(m:_)(rs:_)(r:_)(f:_)(j:_)(t:_)(h0:vs=[.ref p,m])(h1:fm H p)(h2:RD K H m (jA rs r f j t))(h3:pI rs r f j t)(h4:∀v pl H',RD K H' v (fF pl)->fh rs pl->bS p H H'->Q v H')
def P9(K:aa):Sp:=λvs H Q _=>aeg K vs H Q
theorem Qp:bN ["_law_bag_here","_law_machine_here"] ["_law_bag_here","_law_machine_here"] (bj HQ):=bZ bf
theorem a3O(F:FA K mg "_law_place" HQ)(B:cn mg)(dv:aJ P w K mg aB "_law_take" 1 oz):aJ P w K mg aB "_law_place" 2 (P9 K):=by
 erw[F.has Qp (λvs H Q E h=>?_) (λ_ _ _ _ _ _=>dS λ_ _=>rfl) (λf aQ A outer s H vs Q E hr h=>?_)]
 ·let(p,m,rs,r,f,j,t,rfl,_):=h
  rfl
 ·let(p,m,rs,r,f,j,t,rfl,bg,rm,xT,k):=h
  have nd:=Qp.nd;erw[_,(aI (aZ (j8 (x:="tuple") (lX K Z) Z (B.at "tuple") gB (au (gU (N:=["_law_rail","_law_bag_here"]) (js:=[none,some 0]) rfl rfl rfl (sY K rfl (px K (pv 1) aF)) (λ_ _ _ _ _=>(bR 0 (gG aD))) (λ_ _ _ _ _=>gs) (λ_ _ _ _ _=>(pf dv hr (au (pv 1) (au (aL cZ (pv 0) aF) az))))) az)))),?_];let(ma,mb,rfl,iH,kC):=mj rm;have lr:=xT.len;erw[_,Z,.inr #[ma,_,0,.ref mb,Z,Z,iH,dQ (hW 0) Z,mb,Z,#[_,kC],λD H1 n1=>?_]];erw[WB (K:=K) (J:=uz K mb) (p:=p) (H:=H) rs.length _ n1 bg aw (λi=>.int (rs.getD i 0)) (λi H2 hi b2=>?_) (λH2 b2=>?_) (λi d=>∃z r,d= .int z/\rs[i]? =some r/\0<=z/\z<=r) ?_ ?_]
  ·have DZ:=kC.t (bS.t bg b2)
   have e:(rs.map V.int)[i]? =some (.int (rs.getD i 0)):=by rw[cV,List.getD_eq_getElem?_getD,cC hi];rfl
   erw[#[_,_,DZ,e],λy H3 #[e3,y3]=>#[e3,by have:=y3 _ DZ;rw[e]at this;exact(fe this).symm]]
  ·erw[_,kC.t (bS.t bg b2),by rw[cJ];erw[ck _]]
  ·intro i H2 Q' hi b2 hq
   have er:rs[i]? =some (rs.getD i 0):=by rw[List.getD_eq_getElem?_getD,cC hi];rfl
   let(r0,r1):=xT.rl _ (hO er);erw[_,Z,_,Z,_,_,Z,Z,p,_,Z,b2.bu,aw,aw,λz H3 z0 z1 b3=>?_];erw[hq _ _ _ #[z,_,Z,er,z0,aw] Z (cF z) b3]
  ·intro H2 ys ds b2 d2 r2 l2 nl pd
   have tY:∃pl:List Int,ds=pl.map PyData.int/\fh rs pl:=by
    have key:∀(ds:List ai),(∀d∈ds,∃z:Int,d= .int z)->∃pl:List Int,ds=pl.map PyData.int:=by intro ds;induction ds with |nil=>erw[λ_=>#[[],Z]] |cons d ds ih=>intro h;let(z,rfl):=h d (.head _);let(pl,rfl):=ih λx hx=>h x (.tail _ hx);erw[z::pl,Z]
    let(pl,rfl):=key ds λd hd=>by let(i,hi):=sx.mp hd;let(z,_,e,_):=pd i d hi;erw[z,e]
    erw[pl,Z,by simpa using l2,λi x r e1 e2=>?_];let(z,r',e,er,h0,h1):=pd i (.int x) (by rw[cV,e1];rfl);cases e;rw[e2]at er;cases er;erw[h0,h1]
   let(pl,rfl,on):=tY;erw[D,_,Z,.inl #[aK.of d2,λt H3 n3=>?_]];have et:=n3.at';rw[r2.jC]at et;erw[k (.ref t) pl H3 (xK (aV.of et)) on (b2.trans (.fT b2.bu n3.same))]
inductive aeq(K:aa)(vs:List V)(H:Hp)(Q:VK):Prop |mk (p:_)(m:_)(rs:_)(r:_)(f:_)(j:_)(t:_)(x:_)(pl:_)(mo:_)(h0:vs=[.ref p,m,x,.int mo])(h1:fm H p)(h2:RD K H m (jA rs r f j t))(h3:pI rs r f j t)(h4:RD K H x (fF pl))(h5:fh rs pl)(h6:1<=mo)(h7:mo<=100)(h8:∀v ns sp H',RD K H' v (iP ns sp)->fM rs.length 100 ns->1<=sp->sp<=20->fh rs (fg pl ns)->bS p H H'->Q v H')
def Gm(K:aa):Sp:=λvs H Q _=>aeq K vs H Q
def gO(rs pl is:List Int)(mo:Int):Prop:=∀(j:Nat)(z a r:Int),is[j]? =some z->pl[j]? =some a->rs[j]? =some r->0<=a+z/\a+z<=r/\(z.natAbs:Int)<=mo
theorem gO.on{pl is:List Int}(h:gO rs pl is mo)(lp:pl.length=rs.length)(ls:is.length=pl.length):fh rs (fg pl is):=by
 erw[by rw[rK ls];erw[lp],?_];intro j x r ej ph;have hj:j<pl.length:=by have:=(eQ.mp ej).1;rw[rK ls]at this;erw[this]
 have W6:=Bf (cC hj) (cC (show j<is.length by lia));rw[ej]at W6;have ej3:=fe W6;have:=h j _ _ r (cC (show j<is.length by lia)) (cC hj) ph
 lia
theorem gO.bd{pl is:List Int}(h:gO rs pl is mo)(lp:pl.length=rs.length)(ls:is.length=pl.length):∀z∈is,(z.natAbs:Int)<=mo:=λz mW=>by let(j,hj):=sx.mp mW;have UP:=(eQ.mp hj).1;exact(h j z _ _ hj (cC (show j<pl.length by lia)) (cC (show j<rs.length by lia))).2.2
theorem gO.snoc{rs pl is:List Int}{mo z a r:Int}(h:gO rs pl is mo)(ea:pl[is.length]? =some a)(er:rs[is.length]? =some r)(hz:0<=a+z/\a+z<=r/\(z.natAbs:Int)<=mo):gO rs pl (is++[z]) mo:=by
 intro j z' a' r' ej pk ph;by_cases hj:j<is.length
 ·rw[zo hj]at ej
  erw[h j z' a' r' ej pk ph]
 ·have qO:j=is.length:=by
   have:=(eQ.mp ej).1;rw[fN]at this;have:j<is.length+1:=this
   lia
  rw[qO,BI (ck _),Nz]at ej;cases ej;rw[qO]at pk ph;rw[ea]at pk;rw[er]at ph;cases pk;cases ph;erw[hz]
theorem gO.set{pl is:List Int}(h:gO rs pl is mo)(ea:pl[i]? =some a)(er:rs[i]? =some r)(hz:0<=a+z/\a+z<=r/\(z.natAbs:Int)<=mo):gO rs pl (is.set i z) mo:=by
 intro j z' a' r' ej pk ph;by_cases hj:j=i
 ·subst hj
  rw[ea]at pk;rw[er]at ph;cases pk;cases ph;have hl:j<is.length:=by have:=(eQ.mp ej).1;rwa [wX]at this
  rw[BH hl]at ej;cases ej;erw[hz]
 ·rw[NL (dy hj)]at ej
  erw[h j z' a' r' ej pk ph]
theorem Qx:bN ["_law_bag_here","_law_machine_here","_law_place_here","_law_most","_law_steps","_law_flat","_law_axis","_law_stand_here","_law_low","_law_high"] ["_law_bag_here","_law_machine_here","_law_place_here","_law_most"] (bj Ie):=bZ bf
theorem a3Z(F:FA K mg "_law_line" Ie)(B:cn mg)(dv:aJ P w K mg aB "_law_take" 1 oz):aJ P w K mg aB "_law_line" 2 (Gm K):=by
 erw[F.has Qx (λvs H Q E h=>?_) (λ_ _ _ _ _ _=>EZ λ_ _ _ _=>rfl) (λfa aQ A outer s H vs Q E hr h=>?_)]
 ·let(p,m,rs,r,f,j,t,x,pl,mo,rfl,_):=h
  rfl
 ·let(p,m,rs,r,f,j,t,x,pl,mo,rfl,bg,rm,xT,rx,on,mo1,mo2,k):=h
  have nd:=Qx.nd;erw[_,(aG (pS 4 nd (dC az)) (aG (pS 5 nd (pf dv hr (au (pv 0) (au aF az)))) (aG (m9 iJ Z (a2k K Z false Z (B.at "enumerate") (au (pv 2) az)) (eg K rfl (n:=2) rfl (cf (bR 6 nd) (cf (bR 7 nd) dZ))) (aG (pS 8 nd (eG (x:="max") (WW Z) Z (B.at "max") Fv (au aF (au (aL gX (pv 7) (pv 3)) az)))) (aG (pS 9 nd (eG (x:="min") (MM Z) Z (B.at "min") XY (au (px K (px K (pv 1) aF) (pv 6)) (au (aL cZ (pv 7) (pv 3)) az)))) (aG (ie (jR K Z (pv 4) (au (aL gX (aL cZ (pv 8) (pf dv hr (au (pv 0) (au (aL cZ (aL gX (pv 9) (pv 8)) aF) az)))) (pv 7)) az))) (aI (bQ (cy (dF K Z hr.units) (pv 5) (pv 6) (bM _)) (aI (fP aF (j4 (pv 4) (pv 6) set_list))) bV)))))) (aG (ib (bQ (dX (cP (eG (x:="any") (acS K Z Z) Z (B.at "any") Y0 (au (pv 4) az)))) (aG (pS 6 nd (pf dv hr (au (pv 0) (au (eK K B (au (pv 4) az)) az)))) (aI (fP (aL gX aF (aL cg aF (j8 (x:="int") WX Z (B.at "int") Ny (au (fS tE (px K (pv 2) (pv 6)) aF (bM _)) az)))) (j4 (pv 4) (pv 6) set_list)))) bV)) (aI (aZ (cQ (au bh (au (j8 (x:="tuple") (lX K Z) Z (B.at "tuple") gB (au (pv 4) az)) (au (aL cZ aF (pf dv hr (au (pv 0) (au aF az)))) az)))))))))),?_];have lr:=xT.len;have lp:=on.len;let(ma,mb,rfl,iH,kC):=mj rm;let(xa,rfl,KA):=vg rx;erw[bU Z,λl H1 n1=>?_];have b1:bS p H H1:=.fT bg n1.same;have yf:l≠p:=λz=>bg.ne (z▸n1.no);erw[_,Z,p,4,Z,b1.bu,aD,aD,λfl H2 f0 f1 b2=>?_];have Xd:=b1.trans b2;have ZK:=bS.t bg Xd;erw[_,Z,xa,Z,#[_,KA.t ZK],a9A (K:=K) (b:=false) (a:=xa) (xs:=pl.map V.int) (λi O H3=>bS p H H3/\∃(is:List Int)(v1 v2 v3 v4:Option V),H3 l=some (.lst (is.map V.int))/\is.length=i/\gO rs pl is mo/\O=cZ9 (.ref p) (cZ9 (.ref ma) (cZ9 (.ref xa) (cZ9 (.int mo) (cZ9 (.ref l) (cZ9 (.int fl) (v1::v2::v3::v4::[]))))))) ?_ (λi O H3 _ h=>KA.t (bS.t bg h.1)) ?_ ?_]
  ·erw[Xd,[],none,none,none,none,b2.same _ _ yf n1.at',Z,λj z a r e=>by simp at e,Z]
  ·rintro i y O H3 hy ⟨b3,is,v1,v2,v3,v4,dl,li,hz,rfl⟩ T H4 n4
   rw[cV]at hy;let(a,ea,rfl):=Option.map_eq_some_iff.mp hy;have UQ:i<pl.length:=(eQ.mp ea).1;obtain⟨rl,er⟩:∃rl,rs[i]? =some rl:=#[_,cC (show i<rs.length by lia)];let(a0,a1):=on.at' i a rl ea er;let(r0,r1):=xT.rl rl (hO er);have b4:bS p H H4:=b3.trans (.fT b3.bu n4.same);have t4:=bS.t bg b4;have la:=n4.same _ _ dl;have atr:fW (rs.map V.int) (i:Int)=some (.int rl):=dQ aw (by rw[cV];simp[er]);erw[T,_,Z,aV.of n4.at',Z,_,_,Z,_,_,Z,Z,?_];erw[_,Z,_,Z,_,_,Z,Z,_,_,Z,?_];obtain⟨low,aba,lo0,lo1,lo2⟩:∃low:Int,(if a-mo>0 then a-mo else 0)=low/\0<=low/\a-mo<=low/\low<=a:=#[_,Z,by split<;>lia,by split<;>lia,by split<;>lia];rw[aba];erw[_,Z,.inr #[ma,_,0,.ref mb,Z,Z,iH.t t4,Z,_,Z,.inr #[mb,_,_,.int rl,Z,Z,kC.t t4,atr,_,Z,_,Z,_,_,Z,Z,_,_,Z,?_]]];obtain⟨hi,wo,hi0,hi1,US⟩:∃hi:Int,(if a+mo<rl then a+mo else rl)=hi/\a<=hi/\hi<=rl/\hi<=a+mo:=#[_,Z,by split<;>lia,by split<;>lia,by split<;>lia];rw[wo];erw[_,Z,.inl #[Z,_,aK.of la],?_];erw[_,Z,_,Z,_,Z,_,Z,_,_,Z,Z,_,_,Z,Z,p,hi-low+1,Z,b4.bu,aw,aw,λd H5 d0 d1 b5=>?_];erw[_,_,Z,Z,_,Z,_,_,Z,Z,l,_,_,Z,Z,b5.same _ _ yf la,?_,?_]
   ·rw[cJ,li]
    have:(1000:Nat)<sizeLine:=by decide
    lia
   have b6:bS p H (_L.upd H5 l (.lst (is.map V.int++[.int (low+d-a)]))):=(b4.trans b5).putL yf n1.no;have e6:(_L.upd H5 l (.lst (is.map V.int++[.int (low+d-a)]))) l=some (.lst ((is++[low+d-a]).map V.int)):=by rw[bo,pT];rfl
   generalize _L.upd H5 l (.lst (is.map V.int++[.int (low+d-a)]))=H6 at b6 e6⊢;rw[<-li]at ea er;have OH:=hz.snoc ea er (z:=low+d-a) aw;erw[_,Z,_,Z,.inl #[_,_,Z,Z,_,Z,?_]];erw[eL (λhc=>?_) (λhc=>?_)]
   ·have ix:kz ((is++[low+d-a]).map V.int).length (i:Int)=some i:=by unfold kz;rw[bE aw,bE (by rw[cJ,fN];show(i:Int)<((is.length+1:Nat):Int);lia)];simp
    erw[_,Z,_,Z,l,_,_,_,Z,Z,e6,ix,?_];erw[b6.putL yf n1.no,(is++[low+d-a]).set i 0,_,_,_,_,by rw[bo,BG],by rw[wX,fN,li];rfl,?_,Z];rw[li]at ea er;erw[OH.set ea er aw]
   ·erw[b6,is++[low+d-a],_,_,_,_,e6,by rw[fN,li];rfl,OH,Z]
  ·rintro O H3 ⟨b3,is,v1,v2,v3,v4,dl,li,hz,rfl⟩
   rw[cJ]at li;have t3:=bS.t bg b3;erw[λO H4=>bS p H H4/\∃(is:List Int)(v1:Option V),H4 l=some (.lst (is.map V.int))/\fM rs.length 100 is/\fh rs (fg pl is)/\O=cZ9 (.ref p) (cZ9 (.ref ma) (cZ9 (.ref xa) (cZ9 (.int mo) (cZ9 (.ref l) (cZ9 (.int fl) (v1::v2::v3::v4::[])))))),?_,?_]
   ·erw[_,Z,l,is,Z,.inl (aK.of dl),_,Z,?_]
    cases ha:is.any (· !=0)with |false=>
     erw[cx ?_];erw[_,Z,_,Z,l,_,Z,.inl (aK.of dl),p,_,Z,b3.bu,(by rw[cJ];lia),(by rw[cJ];lia),λax H4 a0 a1 b4=>?_];rw[cJ]at a1;have Xc:=b3.trans b4;have V5:ax.toNat<pl.length:=by lia
     have ea:=cC V5;have er:=cC (show ax.toNat<rs.length by lia);let(q0,q1):=on.at' _ _ _ ea er;let(r0,r1):=xT.rl _ (hO er);have Xf:fW (pl.map V.int) ax=some (.int pl[ax.toNat]):=dQ a0 (by rw[cV,ea];rfl);generalize pl[ax.toNat]=qa at ea q0 q1 Xf;generalize rs[ax.toNat]=qr at er q1 r0 r1;erw[_,Z,_,Z,.inr #[xa,_,_,_,Z,Z,KA.t (bS.t bg Xc),Xf,?_]];erw[_,_,Z,Z,.inr #[_,Z,?_]];erw[_,_,Z,Z,.of_left (cE aD aD),_,_,Z,Z,?_];obtain⟨y,ey,y1,y2,y3⟩:∃y:Int,(1-2*(if decide (qa>0)=true then 1 else 0):Int)=y/\y.natAbs=1/\0<=qa+y/\qa+y<=qr:=by
      by_cases h:qa>0
      ·rw[cU h];erw[-1,Z,Z,aw,aw]
      ·rw[fo h];erw[1,Z,Z,aw,aw]
     have la:=b4.same _ _ yf dl;have ix:kz (is.map V.int).length ax=some ax.toNat:=by unfold kz;rw[bE a0,bE (by rw[cJ];lia)]
     erw[_,Z,_,Z,l,_,_,_,Z,Z,la,ix,?_];have st:=hz.set (i:=ax.toNat) ea er (z:=y) aw;have ls:(is.set ax.toNat y).length=pl.length:=by rw[wX];lia
     erw[Xc.putL yf n1.no,is.set ax.toNat y,_,?_,#[aw,λz mW=>?_,?_],st.on lp ls,Z]
     ·rw[bo,<-BG]
      simp only[ey]
     ·have:=st.bd lp ls z mW;lia
     ·erw[y,Y4.mpr #[ax.toNat,by rw[wX];lia,by rw[List.getElem_set_self]],aw] |true=>
     erw[bK ?_];have ls:is.length=pl.length:=by lia
     erw[b3,is,_,dl,#[aw,λz mW=>?_,?_],hz.on lp ls,Z]
     ·have:=hz.bd lp ls z mW;lia
     ·let(z,mW,h0):=List.any_eq_true.mp ha
      erw[z,mW,by simpa using h0]
   rintro O H4 ⟨b4,is,v1,dl,ok,on2,rfl⟩;erw[_,Z,l,_,Z,.inl #[aK.of dl,λq H5 n5=>?_]];have b5:bS p H H5:=b4.trans (.fT b4.bu n5.same);have qp:q≠p:=λe=>b4.bu.ne (e▸n5.no);erw[_,Z,p,20,Z,b5.bu,aD,aD,λsp H6 p0 p1 b6=>?_];erw[_,_,Z,Z,bU Z,λt H7 n7=>?_];have b7:=b5.trans (b6.trans (.fT b6.bu n7.same));erw[k (.ref t) is (1+sp) H7 (gR (aV.of n7.at') (cj (df _) (cj (gR (aV.of (n7.same _ _ (b6.same _ _ qp n5.at'))) (xI is)) (cj (cF _) dc)))) ok aw aw on2 b7]
end
section
def gZ(z:Str):Prop:=∀c∈z.cps.toList,c<0x110000
theorem gZ.app(ha:gZ a)(hb:gZ b):gZ (a++b):=λc hc=>by rw[XW,FK,wW]at hc;erw[hc.elim (ha c) (hb c)]
theorem gZ.joined{sep:Str}(hs:gZ sep):∀l:List Str,(∀a∈l,gZ a)->gZ (PySem.Str.join sep l) |[],_=>λc hc=>by simp[PySem.Str.join,PySem.Str.empty]at hc |[x],h=>h x (.head _) |x::y::r,h=>((h x (.head _)).app hs).app (gZ.joined hs (y::r) λa ha=>h a (.tail _ ha))
theorem gZ.join(hs:gZ sep)(h:∀a∈l,gZ a):gZ (Txt.join sep l):=by show gZ (Builtin.Str.glued sep l);rw[StrLaws.glued_eq_join];erw[gZ.joined hs l h]
theorem a31(h:gZ z):eO n (.str z):=#[by show PyData.strOk z=true;unfold PyData.strOk;rw[afy];erw[λc hc=>cU (h c (by simpa using hc))],gK _]
theorem a2Z(h:eO n (.str z)):gZ z:=λc hc=>by have q:PyData.strOk z=true:=h.lay;unfold PyData.strOk at q;rw[afy]at q;erw[jJ (q c (by simpa using hc))]
theorem SO(h:z.cps.all (·<0x110000)=true):gZ z:=a2Z (n:=0) #[h,gK _]
theorem OD:∀(ds:List ai),(∀d∈ds,∃z:Str,d= .str z/\z.length=1/\gZ z/\z.cps.toList.all (λc=>decide (97<=c)&&decide (c<=122))=true)->∃zs:List Str,ds=zs.map PyData.str/\∀z∈zs,z.length=1/\gZ z/\z.cps.toList.all (λc=>decide (97<=c)&&decide (c<=122))=true |[],_=>#[[],Z,λ_ h=>nomatch h] |d::ds,h=>by let(z,rfl,e):=h d (.head _);let(zs,rfl,q):=OD ds λx hx=>h x (.tail _ hx);erw[z::zs,Z,λy hy=>by
 rcases bJ.mp hy with rfl|hy
 ·erw[e]
 ·erw[q y hy]]
theorem ad5:gZ kE:=SO bf
def Kb(c:Nat):Bool:=decide (97<=c)&&decide (c<=122)
def Ae(s:Str):Bool:=(decide (1<=s.length)&&decide (s.length<=8))&&s.cps.toList.all Kb
def SG(w s:Str):Prop:=(w="tool"/\(s="up"\/s="down"))\/(w="mark"/\Ae s=true)
def rO(d:ai):Prop:=(∃n,d= .tuple [.str "wait",.int n]/\1<=n/\n<=1000)\/∃w s,d= .tuple [.str w,.str s]/\(w="tool"\/w="mark")/\eO 0 (.str s)/\SG w s
theorem Vl:∀l:List Str,(PySem.Str.join ("":Str) l).cps.toList=(l.map λz=>z.cps.toList).flatten
 |[]=>by simp[PySem.Str.join,PySem.Str.empty] |[x]=>by simp[PySem.Str.join] |x::y::r=>by
  show((x++("":Str))++PySem.Str.join ("":Str) (y::r)).cps.toList=_;rw[XW,XW,FK,FK,Vl (y::r)];have:(("":Str)).cps.toList=[]:=by decide+kernel
  rw[this];simp
theorem a4X(h1:1<=l.length)(h8:l.length<=8)(h:∀z∈l,z.length=1/\z.cps.toList.all Kb=true):Ae (Txt.join ("":Str) l)=true:=by
 have e:(Txt.join ("":Str) l).cps.toList=(l.map λz=>z.cps.toList).flatten:=by show(Builtin.Str.glued ("":Str) l).cps.toList=_;rw[StrLaws.glued_eq_join];erw[Vl l]
 have el:(Txt.join ("":Str) l).length=l.length:=by
  show(Txt.join ("":Str) l).cps.size=_;rw[<-BN,e,List.length_flatten,List.map_map];have:∀(l:List Str),(∀z∈l,z.length=1/\z.cps.toList.all Kb=true)->(l.map (List.length∘λz=>z.cps.toList)).sum=l.length:=by intro l;induction l with |nil=>intro _;rfl |cons a r ih=>
   intro h;rw[pR,List.sum_cons,ih λz hz=>h z (.tail _ hz),lE];have:=(h a (.head _)).1;have e2:(List.length∘λz:Str=>z.cps.toList) a=1:=by show a.cps.toList.length=1;rw[BN];erw[this]
   rw[e2,Nat.add_comm]
  erw[this l h]
 unfold Ae;rw[el,e,cU h1,cU h8,lF,lF,jq];intro c hc;let(cs,E8,E9):=List.mem_flatten.mp hc;let(z,hz,rfl):=kh.mp E8;erw[jq.mp (h z hz).2 c E9]
theorem rO.it(h:rO d):itR d none:=by
 rcases h with⟨n,rfl,_⟩|⟨w,s,rfl,hw|hw,_⟩
 ·erw[.inr #[_,_,Z,.inl Z,Z,Z]]
 ·erw[.inr #[_,_,Z,.inr (.inl hw),Z,Z]]
 ·erw[.inr #[_,_,Z,.inr (.inr hw),Z,Z]]
inductive aek(K:aa)(vs:List V)(H:Hp)(Q:VK):Prop |mk (p:Addr)(h0:vs=[.ref p])(h1:fm H p)(h2:∀v d H',RD K H' v d->rO d->bS p H H'->Q v H')
def Pc(K:aa):Sp:=λvs H Q _=>aek K vs H Q
theorem a3R(F:FA K mg "_law_other" HS)(B:cn mg)(dv:aJ P w K mg aB "_law_take" 1 oz):aJ P w K mg aB "_law_other" 2 (Pc K):=by
 erw[F.has Qr (λvs H Q E h=>?_) (λ_ _ _ _ _ _=>fj λ_=>rfl) (λf aQ A outer s H vs Q E hr h=>?_)]
 ·let(p,rfl,_):=h
  rfl
 ·let(p,rfl,bg,k):=h
  have nd:=Qr.nd;erw[_,(aG (pS 1 nd (pf dv hr (au (pv 0) (au aF az)))) (aG (bQ (cy (dF K Z hr.units) (pv 1) aF (bM _)) (aI (aZ (cQ (au bh (au (aL cZ aF (pf dv hr (au (pv 0) (au (px K (dC (au aF (au aF az))) (pf dv hr (au (pv 0) (au aF az)))) az)))) az))))) bV) (aG (bQ (cy (dF K Z hr.units) (pv 1) aF (bM _)) (aI (aZ (cQ (au bh (au (px K (dC (au bh (au bh az))) (pf dv hr (au (pv 0) (au aF az)))) az))))) bV) (aG (pS 2 nd bh) (aI (aZ (cQ (au bh (au (a2w K Z bh (au (gU (N:=["_law_turn","_law_letters","_law_bag_here"]) (js:=[none,some 2,some 0]) Z Z Z (xN Z (B.at "range") (au (aL cZ aF (pf dv hr (au (pv 0) (au aF az)))) az)) (λ_ _ _ _ _=>(bR 0 (show List.Nodup (["_law_turn","_law_letters","_law_bag_here"]:List Str) by decide+kernel))) (λ_ _ _ _ _=>gs) (λ_ _ _ _ _=>(Sl a6l (pv 1) (pf dv hr (au (pv 2) (au aF az))) (λ_ _=>rfl)))) az)) az))))))))),?_];erw[_,Z,p,3,Z,bg,aD,aD,λso H1 s0 s1 b1=>?_];erw[_,Z,.inl #[_,_,Z,Z,_,Z,?_]];erw[eL (λhc=>?_) (λhc=>?_)]
  ·erw[_,Z,bU Z,λc H2' K2=>?_]
   have uq:bS p H1 H2':=.fT b1.bu K2.same;have cp:c≠p:=λz=>b1.bu.ne (z▸K2.no);erw[_,Z,p,2,Z,uq.bu,aD,aD,λi H3' i0 i1 z9=>?_];have hi:∃z:Int,fW ([.int 1000,.int 2]:List V) i=some (.int z)/\2<=z/\z<=1000:=by
    rcases(show i=0\/i=1 by lia)with rfl|rfl
    ·erw[1000,Z,aD,aD]
    ·erw[2,Z,aD,aD]
   let(z,ez,z2,afC):=hi;erw[.inl #[c,_,_,_,Z,Z,aK.of (z9.same _ _ cp K2.at'),ez,?_]];erw[p,z,Z,z9.bu,aw,aw,λn H2 n0 n1 acJ=>?_];have b2:=uq.trans (z9.trans acJ);erw[_,_,Z,Z,bU Z,λt H3 n3=>?_];erw[k (.ref t) _ H3 (gR (aV.of n3.at') (cj (df _) (cj (cF _) dc))) (.inl #[_,Z,aw,aw]) (b1.trans (b2.trans (.fT b2.bu n3.same)))]
  erw[_,Z,.inl #[_,_,Z,Z,_,Z,?_]];erw[eL (λhc=>?_) (λhc=>?_)]
  ·erw[bU Z,λc H2 n2=>?_]
   have b2:bS p H1 H2:=.fT b1.bu n2.same;have cp:c≠p:=λz=>b1.bu.ne (z▸n2.no);erw[_,Z,p,2,Z,b2.bu,aD,aD,λi H3 i0 i1 b3=>?_];have hi:∃z:Str,fW ([.str "up",.str "down"]:List V) i=some (.str z)/\eO 0 (.str z)/\SG "tool" z:=by
    rcases(show i=0\/i=1 by lia)with rfl|rfl
    ·erw["up",Z,#[bf,bf],.inl #[Z,.inl Z]]
    ·erw["down",Z,#[bf,bf],.inl #[Z,.inr Z]]
   let(z,ez,okz,onz):=hi;erw[.inl #[c,_,_,_,Z,Z,aK.of (b3.same _ _ cp n2.at'),ez,bU Z,λt H4 n4=>?_]];erw[k (.ref t) _ H4 (gR (aV.of n4.at') (cj (df _) (cj (df _) dc))) (.inr #[_,_,Z,.inl Z,okz,onz]) (b1.trans (b2.trans (b3.trans (.fT b3.bu n4.same))))]
  erw[Z,?_];erw[_,Z,p,8,Z,b1.bu,aD,aD,λn H2 n0 n1 b2=>?_];erw[_,_,Z,Z,_,Z,aw,aw,λD H3 nD=>?_];erw[WB (K:=K) (J:=pJ 0 (1+n).toNat) (p:=p) (H:=H2) (1+n).toNat _ nD b2.bu aw (λi=>.int (0+(i:Int))) (λi H3 hi _=>#[hi,λy H4 #[e,q]=>#[e,q]]) (λH3 _=>ck _) (λ_ d=>∃z:Str,d= .str z/\z.length=1/\gZ z/\z.cps.toList.all (λc=>decide (97<=c)&&decide (c<=122))=true) ?_ ?_]
  ·intro i H3 Q' hi b3 hq
   erw[_,Z,_,Z,p,26,Z,b3.bu,aD,aD,λd H4 d0 d1 b4=>?_];have hd:d.toNat<kE.cps.toList.length:=by rw[ad7];lia
   erw[kE,d,kE.cps.toList[d.toNat],Z,Z,bf,dQ d0 (cC hd),?_];have gy:gZ ⟨#[kE.cps.toList[d.toNat]]⟩:=λc hc=>by have iu:c=kE.cps.toList[d.toNat]:=bW.mp hc;rw[iu];erw[ad5 _ (FE hd)]
   have fJ:(⟨#[kE.cps.toList[d.toNat]]⟩:Str).cps.toList.all (λc=>decide (97<=c)&&decide (c<=122))=true:=by have:=jq.mp (show kE.cps.toList.all (λc=>decide (97<=c)&&decide (c<=122))=true by decide+kernel) _ (FE hd);show([kE.cps.toList[d.toNat]]:List Nat).all _=true;rw[BK,List.all_nil,NS];erw[this]
   erw[hq _ _ _ #[_,Z,Z,gy,fJ] Z (df _) b4]
  ·intro H3 ys ds b3 d3 r3 l3 nl pd
   let(zs,rfl,hz):=OD ds λd hd=>by let(i,hi):=sx.mp hd;erw[pd i d hi]
   rw[OC r3]at d3;rw[cJ]at l3;erw["",D,zs,Z,Z,aK.of d3,λz mW=>by rw[(hz z mW).1];decide,aD,aw,bU Z,λt H4 n4=>?_];erw[k (.ref t) _ H4 (gR (aV.of n4.at') (cj (df _) (cj (df _) dc))) (.inr #[_,_,Z,.inr Z,a31 (gZ.join (SO bf) λa ha=>(hz a ha).2.1),.inr #[Z,a4X aw aw λz mW=>#[(hz z mW).1,(hz z mW).2.2]]]) (b1.trans (b2.trans (b3.trans (.fT b3.bu n4.same))))]
end
section
def RowW(ds:List ai)(os:List Itm):Prop:=∀(i:Nat)(d:ai),os[i]? =some none->ds[i]? =some d->rO d
theorem RowW.snoc{ds:List ai}{os:List Itm}{d:ai}{o:Itm}(h:RowW ds os)(hl:ds.length=os.length)(hd:o=none->rO d):RowW (ds++[d]) (os++[o]):=by
 intro i x e1 e2;rcases uU e1 with h1|⟨h1,h1'⟩
 ·rcases uU e2 with h2|⟨h2,_⟩
  ·erw[h i x h1 h2]
  ·have:=(eQ.mp h1).1;lia
 ·rcases uU e2 with h2|⟨_,wg⟩
  ·have:=(eQ.mp h2).1;lia
  ·subst wg;erw[hd h1'.symm]
end
end _c
namespace _c
open PySem PySem.Spec PyProof.Rows _L _l
section
theorem NW(h:j.natAbs<2^64):Wd j:=NA h bf
inductive ael(vs:List V)(H:Hp)(Q:VK):Prop |mk (p:Int)(q:Int)(h0:vs=[.int p,.int q])(h1:0<q)(h2:q<=10^6)(h3:p.natAbs<=10^9)(h4:Q (.int (fU p q)) H)
def Gk:Sp:=λvs H Q _=>ael vs H Q
theorem Qs:bN ["p","q","size"] ["p","q"] (bj HU):=bZ bf
theorem a3S(F:FA K mg "nearest" HU)(B:cn mg):aJ P w K mg aB "nearest" 1 Gk:=by
 erw[F.has Qs (λvs H Q E h=>?_) (λ_ _ _ _ _ _=>dS λ_ _=>rfl) (λf aQ A outer s H vs Q E hr h=>?_)]
 ·let(p,q,rfl,_):=h
  rfl
 ·let(p,q,rfl,q0,q1,p1,k):=h
  have nd:=Qs.nd;erw[_,(aG (pS 2 nd (aL nM (aL cZ (aL cg aF (eG (x:="abs") pF Z (B.at "abs") rZ (au (pv 0) az))) (pv 1)) (aL cg aF (pv 1)))) (aI (aZ (Sm (cy D7 (pv 0) aF (bM _)) (pv 2) (qw pY (pv 2)))))),?_];erw[_,Z,p,Z,_,_,Z,Z,.of_left (cE aD aD),_,Z,_,_,Z,Z,_,Z,_,_,Z,Z,.of_left (cE aD aD),_,_,Z,Z,#[aw,NW aw],?_];have e:(2*(if p<0 then-p else p)+q)/(2*q)=jv p q:=by unfold jv;rw[<-Bg];rfl
  erw[_,Z,_,_,Z,Z,_,Z,?_];unfold fU at k;rw[<-e]at k;erw[eL (λhc=>?_) (λhc=>?_)]
  ·have hp:p>=0:=jJ hc
   rw[bE hp]at k;erw[_,Z,k]
  ·have hp:¬p>=0:=λz=>hc (cU z)
   rw[bI hp]at k;erw[_,Z,_,Z,k]
def G7(ns:List Int)(k:Int):ai:=.tuple ((ns.map λz=>fU (k*z) (aP ns)).map PyData.int)
theorem Sa{k:Int}(h:k.natAbs<=10^6)(g:(z.natAbs:Int)<=1000):(k*z).natAbs<=10^9:=by rw[gD];erw[iK (oj h (show z.natAbs<=1000 by lia)) aD]
inductive adM(K:aa)(vs:List V)(H:Hp)(Q:VK):Prop |mk (v:_)(ns:_)(sp:_)(k:_)(h0:vs=[v,.int k])(h1:RD K H v (iP ns sp))(h2:fM ns.length 1000 ns)(h3:ns.length<=1000)(h4:k.natAbs<=10^6)(h5:∀v' H',RD K H' v' (G7 ns k)->aH H H'->Q v' H')
def Ck(K:aa):Sp:=λvs H Q _=>adM K vs H Q
theorem PY:bN ["line","k","lead"] ["line","k"] (bj GP):=bZ bf
theorem a3d(F:FA K mg "stand_at" GP)(B:cn mg)(qL:aJ P w K mg aB "lead_of" 1 (mQ K))(a7t:aJ P w K mg aB "nearest" 1 Gk):aJ P w K mg aB "stand_at" 2 (Ck K):=by
 erw[F.has PY (λvs H Q E h=>?_) (λ_ _ _ _ _ _=>dS λ_ _=>rfl) (λf aQ A outer s H vs Q E hr h=>?_)]
 ·let(v,ns,sp,k,rfl,_):=h
  rfl
 ·let(v,ns,sp,kk,rfl,rd,ok,hz,hk,k):=h
  have nd:=PY.nd;erw[_,(aG (pS 2 nd (pf qL hr (au (pv 0) az))) (aI (aZ (j8 (x:="tuple") (lX K Z) Z (B.at "tuple") gB (au (gU (N:=["step","lead","k"]) (js:=[none,some 2,some 1]) rfl rfl rfl (sY K rfl (px K (pv 0) aF)) (λ_ _ _ _ _=>(bR 0 (show List.Nodup (["step","lead","k"]:List Str) by decide+kernel))) (λ_ _ _ _ _=>gs) (λ_ _ _ _ _=>(pf a7t hr (au (aL cg (pv 2) (pv 0)) (au (pv 1) az))))) az))))),?_];erw[_,Z,v,ns,sp,Z,rd,ok.ne,hz,λH1 s1=>?_];let(a,b,rfl,ha,hb):=mV (RD.mono s1 _ rd);let(lp,lm):=ok.lead;erw[_,Z,.inr #[a,_,1,.ref b,Z,Z,ha,Z,b,Z,#[_,hb],λD H0 nw=>?_]];erw[EN (K:=K) (xs:=ns.map V.int) (ds:=(ns.map λz=>fU (kk*z) (aP ns)).map PyData.int) _ hb nw (by simp) (by simpa using hz) (me _) ?_ ?_]
  ·intro i x d H2 Q' ex ed s2 hq
   rw[List.map_map]at ed;let(n,en,rfl):=nN ed;cases Aj ex en;erw[_,Z,_,Z,_,_,Z,Z,.of_left (cE aw aw),_,Z,_,_,Z,aw,aw,Sa hk (ok.bd n (hO en)),?_];erw[hq _ _ (aH.refl _) (cF _)]
  ·intro H' ys s2 d2 r2
   erw[D,_,Z,.inl #[aK.of d2,λt H4 n4=>?_]];erw[k _ _ (gR (aV.of n4.at') (aO.mono n4.same _ r2)) (s1.trans (s2.trans n4.same))]
end
section
def iZ(ns:List Int)(j:Nat):List Int:=ns.map λz=>fU (((j:Int)+1)*z) (aP ns)-fU ((j:Int)*z) (aP ns)
def qt(ns:List Int):List ai:=(List.range (aP ns)).map λj=>.tuple ((iZ ns j).map PyData.int)
theorem J5(zs:List Int):fQ (.tuple (zs.map PyData.int))=true:=by rw[fQ];erw[me zs]
theorem J3(ns:List Int):du (qt ns)=true:=iM.mpr λd hd=>by let(j,_,rfl):=kh.mp hd;erw[J5 _]
theorem RI(h:i<aP ns):(qt ns)[i]? =some (.tuple ((iZ ns i).map PyData.int)):=by unfold qt;rw[cV,cC (by simpa using h),wY];rfl
theorem J4(ns:List Int):(qt ns).length=aP ns:=by simp[qt]
inductive adY(K:aa)(vs:List V)(H:Hp)(Q:VK):Prop |mk (v:_)(ns:_)(sp:_)(h0:vs=[v])(h1:RD K H v (iP ns sp))(h2:fM ns.length 1000 ns)(h3:ns.length<=1000)(h4:∀l ys H',H l=none->H' l=some (.lst ys)->aO K H' ys (qt ns)->aH H H'->Q (.ref l) H')
def Gf(K:aa):Sp:=λvs H Q _=>adY K vs H Q
theorem Qa:bN ["line","rows","before","k","behind"] ["line"] (bj Hg):=bZ bf
theorem a3v(F:FA K mg "step_rows" Hg)(B:cn mg)(qL:aJ P w K mg aB "lead_of" 1 (mQ K))(DP:aJ P w K mg aB "stand_at" 2 (Ck K)):aJ P w K mg aB "step_rows" 3 (Gf K):=by
 erw[F.has Qa (λvs H Q E h=>?_) (λ_ _ _ _ _ _=>fj λ_=>rfl) (λf aQ A outer s H vs Q E hr h=>?_)]
 ·let(v,ns,sp,rfl,_):=h
  rfl
 ·let(v,ns,sp,rfl,rd,ok,hz,k):=h
  have nd:=Qa.nd;let(lp,lm):=ok.lead;erw[_,(aG (pS 1 nd (dC az)) (aG (pS 2 nd (pf DP hr (au (pv 0) (au aF az)))) (aG (m9 iJ Z (Se Z (B.at "range") (au aF (au (aL cZ (pf qL hr (au (pv 0) az)) aF) az))) (bR 3 nd) (aG (pS 4 nd (pf DP hr (au (pv 0) (au (pv 3) az)))) (aG (ie (jR K Z (pv 1) (au (j8 (x:="tuple") (lX K Z) Z (B.at "tuple") gB (au (gU (N:=["new","old"]) (js:=[none,none]) rfl rfl rfl (kN K rfl false false rfl (B.at "zip") (au (pv 4) (au (pv 2) az))) (λ_ _ _ _ _=>(eg K rfl (n:=2) rfl (cf (bR 0 (gG aD)) (cf (bR 1 (gG aD)) dZ)))) (λ_ _ _ _ _=>gs) (λ_ _ _ _ _=>(aL gX (pv 0) (pv 1)))) az)) az))) (aI (pS 2 nd (pv 4)))))) (aI (aZ (pv 1)))))),?_];erw[bU Z,λl H1 n1=>?_];erw[_,Z,v,ns,sp,0,Z,RD.mono n1.same _ rd,ok,hz,aD,λu H2 ru s2=>?_];have t2:=n1.same.trans s2;erw[_,Z,v,ns,sp,Z,RD.mono t2 _ rd,ok.ne,hz,λH3 s3=>?_];erw[_,_,Z,Z,_,_,Z,#[aw,aw,aw,aw],?_];have t3:=t2.trans s3;have e3:((aP ns:Int)+1-1).toNat=aP ns:=by lia
  erw[AS (Pv:=λi O H4=>aH H H4/\(∃ys,H4 l=some (.lst ys)/\aO K H4 ys ((qt ns).take i))/\∃b v1 v2,RD K H4 b (G7 ns i)/\O=cZ9 v (cZ9 (.ref l) (cZ9 b (v1::v2::[])))) ?_ ?_ ?_]
  ·erw[t3,#[[],s3 _ _ (s2 _ _ n1.at'),dc],u,none,none,RD.mono s3 _ ru,Z]
  ·rintro i O H4 hi ⟨t4,⟨ys,dl,ry⟩,b,v1,v2,rb,rfl⟩
   have E4:i<aP ns:=by lia
   erw[_,Z,_,Z,v,ns,sp,_,Z,RD.mono t4 _ rd,ok,hz,aw,λb2 H5 Jg s5=>?_];erw[_,Z,.inl #[Z,_,aK.of (s5 _ _ dl)],?_];let(a1,xs1,rfl,h1,q1):=Jg.fE;have e1:=q1.jC;subst e1;let(a0,xs0,rfl,h0,q0):=(RD.mono s5 _ rb).fE;have e0:=q0.jC;subst e0;erw[_,Z,_,Z,a1,a0,Z,#[_,h1],#[_,h0],λD H6 nw=>?_];erw[wB (K:=K) (b1:=false) (b2:=false) (ds:=(iZ ns i).map PyData.int) [] rfl h1 h0 nw (by simp[iZ]) (by simpa[iZ]using hz) (me _) ?_ ?_]
   ·intro j x y d H7 Q' ex ey ed s7 hq
    let(m,em,rfl):=nN ed;unfold iZ at em;rw[cV]at em ex ey;rw[cV]at ex ey;cases en:ns[j]? with |none=>rw[en]at em;cases em |some n=>
     rw[en]at em ex ey;cases em;cases ex;cases ey;erw[_,Z,_,Z,_,_,Z,Z,?_];have ee:(1:Int)+(i:Int)=(i:Int)+1:=by lia
     rw[ee];erw[hq _ _ (aH.refl _) (cF _)]
   ·intro H7 zs s7 d7 r7
    erw[D,_,Z,.inl #[aK.of d7,λt H8 n8=>?_]];have IT:=s5.trans (s7.trans n8.same);have nY:=IT _ _ dl;have len:=ry.length;rw[pU,J4]at len;erw[l,ys,_,Z,Z,nY,?_,?_]
    ·have:(1000:Nat)<sizeLine:=by decide
     lia
    erw[_,Z,?_];have tt:jm H8 (_L.upd H8 l (.lst (ys++[.ref t]))):=.sH nY;erw[λb o e=>?_,#[_,bo,?_],_,_,_,?_,Z]
    ·rw[aR (fZ e n1.no)];erw[IT b o (t4 b o e)]
    ·rw[sj,RI E4]
     have nt:du ((qt ns).take i)=true:=iM.mpr λd hd=>iM.mp (J3 ns) d (Fz hd);exact(aO.t tt _ nt (aO.mono IT _ ry)).append (cj (RD.t tt _ (J5 _) (gR (aV.of n8.at') (aO.mono n8.same _ r7))) dc)
    ·have ee:(1:Int)+(i:Int)=((i+1:Nat):Int):=by lia
     rw[ee]at Jg;erw[RD.t tt _ (J5 _) (RD.mono (s7.trans n8.same) _ Jg)]
  ·rintro O H4 ⟨t4,⟨ys,dl,ry⟩,b,v1,v2,rb,rfl⟩
   rw[e3,Fy (by rw[J4];erw[ck _])]at ry;erw[_,Z,k l ys H4 n1.no dl ry t4]
end
end _c
namespace _c
open PySem PySem.Spec PyProof.Rows _L _r _l
section
def gM(ti:Int)(q:Rat)(t:Int):Bool:=decide (ti*ti*(q.den:Int)<=t*t*q.num)
inductive aeB(K:aa)(vs:List V)(H:Hp)(Q:VK):Prop |mk (m:_)(sq:_)(t:_)(rs:_)(r:_)(f:_)(j:_)(ti:_)(q:_)(h0:vs=[m,sq,.int t])(h1:RD K H m (jA rs r f j ti))(h2:bO K H sq q)(h3:Bd 2000 q)(h4:1<=ti)(h5:ti<=100)(h6:0<=t)(h7:t.natAbs<2^2400)(h8:Q (.bl (gM ti q t)) H)
def Pg(K:aa):Sp:=λvs H Q _=>aeB K vs H Q
theorem QR:bN ["machine","square","t","p","q","ticks"] ["machine","square","t"] (bj IC):=bZ bf
theorem a4h(F:FA K mg "are_enough" IC)(B:cn mg):aJ P w K mg aB "are_enough" 1 (Pg K):=by
 erw[F.has QR (λvs H Q E h=>?_) (λ_ _ _ _ _ _=>pG λ_ _ _=>rfl) (λf aQ A outer s H vs Q E hr h=>?_)]
 ·let(m,sq,t,rs,r,f,j,ti,q,rfl,_):=h
  rfl
 ·let(m,sq,t,rs,r,f,j,ti,q,rfl,rm,(p,rfl,hp),bq,t1,t2,t0,tw,k):=h
  have nd:=QR.nd;erw[_,(aG (fP (pv 1) (eg K Z (n:=2) Z (cf (bR 3 nd) (cf (bR 4 nd) dZ)))) (aG (pS 5 nd (px K (pv 0) aF)) (aI (aZ (fS D7 (aL cg (aL cg (pv 2) (pv 2)) (pv 3)) (aL cg (aL cg (pv 5) (pv 5)) (pv 4)) (bM _)))))),?_];let(a,b,rfl,ha,hb):=mj rm;have wt:Wd t:=iW tw aD;have BV:Wd (t*t):=iW (n:=4800) (by rw[gD];erw[mh (n:=2400) (m:=2400) tw tw]) aD;have m1:(ti*ti).natAbs<=100*100:=by rw[gD];erw[oj fH fH]
  erw[_,Z,_,_,Z,hp,Z,_,_,Z,_,_,Z,Z,?_];erw[_,Z,.inr #[a,_,4,.int ti,Z,Z,ha,Z,?_]];erw[_,Z,_,Z,_,_,Z,Z,jg wt.bits wt.bits,_,Z,_,_,Z,Z,jg BV.bits bq.wn.bits,?_];erw[_,Z,_,Z,_,_,Z,Z,.of_left (cE fH fH),_,Z,_,_,Z,Z,.of_left (cE fH fH),?_];erw[_,_,Z,Z,k]
theorem W3{t:Int}{q:Rat}(hq:0<q.num)(h0:0<=t)(h:ti*ti*(q.den:Int)<=t):gM ti q t=true:=by
 erw[cU (Int.le_trans h ?_)];by_cases ht:t=0
 ·subst ht;simp
 ·have e1:t*1<=t*t:=NO aw h0
  have e2:t*t*1<=t*t*q.num:=NO aw (ki h0 h0)
  lia
theorem VZ{q:Rat}(h1:1<=ti):gM ti q 0=false:=by
 erw[fo λh=>?_];have:=jh (jh (show 0<ti by lia) (show 0<ti by lia)) (den_pos q);simp only[BL]at h
 lia
inductive adI(K:aa)(vs:List V)(H:Hp)(Q:VK):Prop |mk (m:_)(sq:_)(rs:_)(r:_)(f:_)(j:_)(ti:_)(q:_)(h0:vs=[m,sq])(h1:RD K H m (jA rs r f j ti))(h2:bO K H sq q)(h3:Bd 2000 q)(h4:1<=ti)(h5:ti<=100)(h6:0<q.num)(h7:∀T,1<=T->T.natAbs<2^2400->gM ti q T=true->gM ti q (T-1)=false->Q (.int T) H)
def OQ(K:aa):Sp:=λvs H Q _=>adI K vs H Q
theorem PR:bN ["machine","square","enough","too_few","between"] ["machine","square"] (bj GK):=bZ bf
theorem a39(F:FA K mg "ticks_of" GK)(B:cn mg)(V6:aJ P w K mg aB "are_enough" 1 (Pg K)):aJ P w K mg aB "ticks_of" 2 (OQ K):=by
 erw[F.has PR (λvs H Q E h=>?_) (λ_ _ _ _ _ _=>dS λ_ _=>rfl) (λf aQ A outer s H vs Q E hr h=>?_)]
 ·let(m,sq,rs,r,f,j,ti,q,rfl,_):=h
  rfl
 ·let(m,sq,rs,r,f,j,ti,q,rfl,rm,rq,bq,t1,t2,hq,k):=h
  have nd:=PR.nd;erw[_,(aG (pS 2 nd aF) (aG (oK iJ (dX (cP (pf V6 hr (au (pv 0) (au (pv 1) (au (pv 2) az)))))) (aI (pS 2 nd (aL cg aF (pv 2))))) (aG (pS 3 nd (aL nM (pv 2) aF)) (aG (oK iJ (cy tE (aL gX (pv 2) (pv 3)) aF (bM _)) (aG (pS 4 nd (aL nM (aL cZ (pv 3) (pv 2)) aF)) (aI (bQ (cP (pf V6 hr (au (pv 0) (au (pv 1) (au (pv 4) az))))) (aI (pS 2 nd (pv 4))) (aI (pS 3 nd (pv 4))))))) (aI (aZ (pv 2))))))),?_];have lim:(ti*ti*(q.den:Int)).natAbs<2^2399:=by
   have m1:(ti*ti).natAbs<=100*100:=by rw[gD];erw[oj aw aw]
   have hd:=bq.den;rw[gD];have:(q.den:Int).natAbs=q.den:=rfl;rw[this];have:=mh (n:=14) (m:=2000) (a:=(ti*ti).natAbs) (b:=q.den) (sf m1 aD) hd;erw[gP this (uE aD aD)]
  have p0:0<ti*ti*(q.den:Int):=jh (jh aw aw) (den_pos q);have e2:(2:Nat)^2400=2^2399*2:=Nat.pow_succ 2 2399;generalize hL:ti*ti*(q.den:Int)=L at lim p0;erw[om (λO H2=>H2=H/\∃(x:Int),O=cZ9 m (cZ9 sq (cZ9 (.int x) (none::none::[])))/\1<=x/\x<=2*L/\gM ti q (x/2)=false) (λO _=>match O with|[_,_,some (.int x),_,_]=>(L-x).toNat|_=>0) ?_ ?_ ?_]
  ·erw[Z,1,Z,aw,aw,VZ t1]
  ·rintro O H2 ⟨rfl,x,rfl,x1,xL,hx⟩
   have xw:x.natAbs<2^2400:=by lia
   erw[_,Z,_,Z,_,Z,m,sq,x,rs,r,f,j,ti,q,Z,rm,rq,bq,t1,t2,aw,xw,_,Z,?_];cases qQ:gM ti q x with
   |false=>
    have cK:x<L:=by
     by_cases cK:x<L
     ·erw[cK]
     ·rw[W3 hq aw aw]at qQ;cases qQ
    erw[eL (λhc=>?_) (λhc=>(hc Z).elim)];erw[_,Z,_,_,Z,Z,.of_left (cE aD aD),?_];erw[#[Z,_,Z,aw,aw,?_],?_]
    ·have:2*x/2=x:=by lia
     rw[this];erw[qQ]
    ·show(L-2*x).toNat<(L-x).toNat
     lia |true=>
    erw[eL (λhc=>nomatch hc) (λhc=>?_)];erw[_,Z,_,_,Z,Z,#[aD,iW (n:=2) aD aD],?_];erw[om (λO H3=>H3=H2/\∃(lo hi:Int)(v:Option V),O=cZ9 m (cZ9 sq (cZ9 (.int hi) (cZ9 (.int lo) (v::[]))))/\0<=lo/\lo<hi/\hi<=2*L/\gM ti q lo=false/\gM ti q hi=true) (λO _=>match O with|[_,_,some (.int x),some (.int y),_]=>(x-y).toNat|_=>0) ?_ ?_ ?_]
    ·erw[Z,x/2,x,none,Z,aw,aw,xL,hx,qQ]
    ·rintro O H3 ⟨rfl,lo,hi,v,rfl,l0,lh,AK,B0,wo⟩
     erw[_,Z,_,Z,_,_,Z,Z,_,_,Z,Z,_,Z,?_];erw[eL (λhc=>?_) (λhc=>?_)]
     ·have hgt:hi-lo>1:=jJ hc
      erw[_,Z,_,Z,_,_,Z,Z,_,_,Z,Z,#[aD,iW (n:=2) aD aD],?_];have mw:((lo+hi)/2).natAbs<2^2400:=by lia
      erw[_,Z,_,Z,_,Z,m,sq,(lo+hi)/2,rs,r,f,j,ti,q,Z,rm,rq,bq,t1,t2,aw,mw,_,Z,?_];cases hm:gM ti q ((lo+hi)/2)with
      |true=>
       erw[cx ?_];erw[_,Z,#[Z,lo,_,_,Z,l0,aw,aw,B0,hm],?_];show((lo+hi)/2-lo).toNat<(hi-lo).toNat
       lia |false=>
       erw[bK ?_];erw[_,Z,#[Z,_,hi,_,Z,aw,aw,AK,hm,wo],?_];show(hi-(lo+hi)/2).toNat<(hi-lo).toNat
       lia
     ·have hle:¬hi-lo>1:=λz=>hc (cU z)
      have e:lo=hi-1:=by lia
      subst e;erw[_,Z,k hi aw aw wo B0]
    ·rintro O H2 Q1 Q2 hq ⟨v1,e1,v2,e2,i,j,e3,e4,i2,j2,e5,e6,kk,e7,q⟩
     erw[v1,e1,v2,e2,i,j,e3,e4,i2,j2,e5,e6,kk,e7,hq _ _ q]
  ·rintro O H2 Q1 Q2 hq ⟨v1,e1,v2,e2,v3,e3,m',sq',x',rs',r',f',j',YZ,q',e4,h1,h2,h3,h4,h5,h6,h7,b,eb,q⟩
   erw[v1,e1,v2,e2,v3,e3,m',sq',x',rs',r',f',j',YZ,q',e4,h1,h2,h3,h4,h5,h6,h7,b,eb,hq _ _ q]
end
end _c
namespace _c
open PySem PySem.Spec PyProof.Rows _L _r _l _C _P
open _O (topR cornO mnO betR atO ownF leadF ownL OkI OkIs)
section
def Bi(ti:Int)(q:Rat)(T:Int):Prop:=1<=T/\gM ti q T=true/\gM ti q (T-1)=false
open Classical in
noncomputable def G3(ti:Int)(q:Rat):Int:=if h:∃T,Bi ti q T then h.choose else 0
theorem W0{q:Rat}{t:Int}(hq:0<=q.num)(h0:0<=s)(h:s<=t)(e:gM ti q s=true):gM ti q t=true:=by erw[cU (Int.le_trans (jJ e) ?_)];erw[NN (FI h h h0 aw) hq]
theorem Z9{q:Rat}(hq:0<=q.num)(h1:Bi ti q S)(h2:Bi ti q T):S=T:=by
 let(a1,a2,a3):=h1;let(b1,b2,b3):=h2;by_cases h:S<=T-1
 ·have:=W0 hq aw h a2
  rw[b3]at this;cases this
 ·by_cases h':T<=S-1
  ·have:=W0 hq aw h' b2
   rw[a3]at this;cases this
  ·lia
theorem Oi{q:Rat}(hq:0<=q.num)(h:Bi ti q T):G3 ti q=T:=by have hx:∃T,Bi ti q T:=#[T,h];unfold G3;rw[dif_pos hx];erw[Z9 hq hx.choose_spec h]
theorem JR{q:Rat}(h:0<q):0<q.num:=by
 have h1:=Nl.mpr (Np h);have h2:q.num≠0:=λe=>by rw[Rat.num_eq_zero.mp e]at h;erw[absurd h aD]
 lia
noncomputable def qh(ti:Int)(zs:List Int)(q:Rat):ai:=.tuple [.str "step",.tuple (zs.map PyData.int),.int (G3 ti q),dk q]
theorem G6(ti:Int)(zs:List Int)(q:Rat):fQ (qh ti zs q)=true:=by simp[qh,fQ,du,me,sW]
inductive aeA(K:aa)(vs:List V)(H:Hp)(Q:VK):Prop |mk (m:_)(rv:_)(sq:_)(rs:_)(r:_)(f:_)(j:_)(ti:_)(zs:_)(q:_)(h0:vs=[m,rv,sq])(h1:RD K H m (jA rs r f j ti))(h2:pI rs r f j ti)(h3:RD K H rv (.tuple (zs.map PyData.int)))(h4:bO K H sq q)(h5:Bd 2000 q)(h6:0<q)(h7:∀v H',RD K H' v (qh ti zs q)->aH H H'->Q v H')
def Gp(K:aa):Sp:=λvs H Q _=>aeA K vs H Q
theorem QQ:bN ["machine","row","square"] ["machine","row","square"] (bj IB):=bZ bf
theorem a4g(F:FA K mg "step_entry" IB)(B:cn mg)(a6U:aJ P w K mg aB "ticks_of" 2 (OQ K)):aJ P w K mg aB "step_entry" 3 (Gp K):=by
 erw[F.has QQ (λvs H Q E h=>?_) (λ_ _ _ _ _ _=>pG λ_ _ _=>rfl) (λf aQ A outer s H vs Q E hr h=>?_)]
 ·let(m,rv,sq,rs,r,f,j,ti,zs,q,rfl,_):=h
  rfl
 ·let(m,rv,sq,rs,r,f,j,ti,zs,q,rfl,rm,aM,rr,Rq,bq,q0,k):=h
  have nd:=QQ.nd;erw[_,(aI (aZ (cQ (au bh (au (pv 1) (au (pf a6U hr (au (pv 0) (au (pv 2) az))) (au (pv 2) az))))))),?_];have t1:=aM.t1;have qn:0<q.num:=JR q0;erw[_,Z,_,Z,_,Z,m,sq,rs,r,f,j,ti,q,Z,rm,Rq,bq,t1.1,t1.2,qn,λT T1 _ T2 T3=>?_];erw[_,Z,bU Z,λt H1 n1=>k (.ref t) H1 ?_ n1.same];have e:=Oi aw #[T1,T2,T3];unfold qh;rw[e];erw[gR (aV.of n1.at') (cj (df _) (cj (RD.mono n1.same _ rr) (cj (cF _) (cj (Rq.go n1.same).rd dc))))]
theorem Oh{aE:Int}(h1:1<=sp)(h2:10<=aE):0<topR aE sp:=by
 have h0:=_O.C8 aE sp;erw[Nk h0 λe=>?_];have hp:0<(sp*aE)^2:=by rw[gC,gC,mO,lU];erw[jh (jh aw aw) (jh aw aw)]
 have h2:0<=Rat.divInt (-((sp*aE)^2)) 10000:=by rw[<-Rat.neg_divInt];show 0<=-(topR aE sp);rw[<-e];decide
 have:=(zj aD).mp h2
 lia
end
section
end
end _c
namespace _c
open PySem PySem.Spec PyProof.Rows _L _r _l _W
section
end
end _c
namespace _c
open PySem PySem.Spec PyProof.Rows _L _r _l _C _P
open _O (topR cornO mnO betR atO ownF leadF ownL OkI OkIs)
section
inductive aei(K:aa)(vs:List V)(H:Hp)(Q:VK):Prop |mk (m:_)(iv:_)(aE:_)(rs:_)(r:_)(f:_)(j:_)(t:_)(ds:_)(os:_)(h0:vs=[m,iv,.int aE])(h1:RD K H m (jA rs r f j t))(h2:pI rs r f j t)(h3:RD K H iv (.list ds))(h4:iI rs.length ds os)(h5:ds.length<=100)(h6:10<=aE)(h7:aE<=200)(h8:∀l ys H',H l=none->H' l=some (.lst ys)->aO K H' ys ((ownL j aE os).map dk)->aH H H'->Q (.ref l) H')
def Pa(K:aa):Sp:=λvs H Q _=>aei K vs H Q
theorem a3P(F:FA K mg "own_bounds" CF)(B:cn mg)(gN:GT K mg "NOUGHT" [.int 0,.int 1])(Lq:aJ P w K mg aB "bound_between" 7 (Cw K)):aJ P w K mg aB "own_bounds" 8 (Pa K):=by
 let(aN,mC,oy):=gN;erw[F.has CB (λvs H Q E h=>?_) (λ_ _ _ _ _ _=>pG λ_ _ _=>rfl) (λf aQ A outer s H vs Q E hr h=>?_)]
 ·let(m,iv,aE,rs,r,f,j,t,ds,os,rfl,_):=h
  rfl
 ·let(m,iv,aE,rs,r,f,j,t,ds,os,rfl,rm,aM,ri,row,hz,dG,dN,k):=h
  have nd:=CB.nd;have rN:∀H',RD K H' (.ref aN) (dk 0):=λH'=>(qD (oy H')).rd;erw[_,(aG (bQ (dX (Jr K Z (pv 1))) (aI (aZ (dC (au (fG (x:="NOUGHT") Z mC) az)))) bV) (aG (Jt (i0:=3) nd Z (Or.inl Z) (N:=["one","other","machine","rate"]) (js:=[none,none,some 0,some 2]) Z Z Z (kN K Z true true Z (B.at "zip") (au (pv 1) (au (Jz (Gs K rfl) (pv 1) (Ju aF) Jv) az))) (λ_ _ _ _ _=>(eg K rfl (n:=2) rfl (cf (bR 0 (show List.Nodup (["one","other","machine","rate"]:List Str) by decide+kernel)) (cf (bR 1 (show List.Nodup (["one","other","machine","rate"]:List Str) by decide+kernel)) dZ)))) (λ_ _ _ _ _=>gs) (λ_ _ _ _ _=>(pf Lq hr (au (pv 2) (au (pv 0) (au (pv 1) (au (pv 3) az))))))) (aI (aZ (aL (yW K Z) (aL (yW K Z) (dC (au (fG (x:="NOUGHT") Z mC) az)) (pv 3)) (dC (au (fG (x:="NOUGHT") Z mC) az))))))),?_];let(ia,xs,rfl,hi,jc):=ri.lst_inv;have lx:=jc.length;have ll:=row.len;erw[_,Z,_,.inl #[_,hi,Z],?_];cases hd:xs with
  |nil=>
   subst hd;erw[cx ?_];erw[bU Z,λl H1 n1=>?_];erw[k l [.ref aN] H1 n1.no n1.at' ?_ n1.same];have e:os=[]:=by
    have:os.length=0:=by rw[<-ll,<-lx];rfl
    erw[FD.mp this]
   rw[e];erw[cj (rN H1) dc] |cons x0 xr=>
   erw[bK ?_];have eZ:os≠[]:=by intro e;rw[e]at ll;rw[hd]at lx;simp at ll lx;rw[ll]at lx;cases lx
   have KD:0<xs.length:=by rw[hd];simp
   erw[_,Z,_,Z,1,Z,ia,xs,Z,.inl #[hi,λtl H1 n1=>?_]];erw[ia,tl,Z,#[_,hi.go n1.same],#[_,aK.of n1.at'],λD H2 n2=>?_];have et:=n1.at';rw[MH]at et;have A4:∀(i:Nat)(o:Itm),os[i]? =some o->∀(ns:List Int)(sp:Int),o=some (ns,sp)->fM rs.length 100 ns/\1<=sp/\sp<=20:=λi o e ns sp e'=>row.ok i ns sp (by rw[e,e']);have lr:=aM.len;erw[wB (K:=K) (b1:=true) (b2:=true) (xs:=xs) (ys:=xs.drop 1) (ds:=((List.range (os.length-1)).map (λi=>ownF j aE os (i+1))).map dk) _ Z (hi.go n1.same) (aK.of et) n2 (by rw[NK];simp;lia) (by simp;lia) (xY _) ?_ ?_]
   ·intro i x y d H3 Q' ex ey ed s3 hq
    have dM:=n1.same.trans s3;rw[List.getElem?_drop]at ey;let(d1,e1,r1):=jc.get' i ex;let(d2,e2,r2):=jc.get' (1+i) ey;let(o1,pj,i1):=row.get e1;let(o2,nc,i2):=row.get e2;have US:1+i<os.length:=(eQ.mp nc).1;have mH:d=dk (betR j aE o1 o2):=by rw[cV,cV,cC (by simp;lia),wY]at ed;have:=(fe ed).symm;rw[this];show dk (betR j aE (atO os i) (atO os (i+1)))=_;rw[_O.rH pj,_O.rH (show os[i+1]? =some o2 by rw[Nat.add_comm];erw[nc])]
    subst mH;erw[_,Z,_,Z,_,Z,_,Z,m,x,y,aE,rs,r,f,j,t,d1,d2,o1,o2,rs.length,Z,RD.mono dM _ rm,aM.j1.1,aM.j1.2,RD.mono dM _ r1,RD.mono dM _ r2,i1,i2,A4 _ _ pj,A4 _ _ nc,aw,dG,dN,λv H4 rv s4=>?_];erw[hq _ _ s4 rv.rd]
   ·intro H3 zs s3 d3 r3
    have lz:=r3.length;simp at lz;erw[bU Z,λl1 H4 n4=>?_];erw[_,Z,l1,D,_,zs,Z,Z,aK.of n4.at',aK.of (n4.same _ _ d3),zK _ (by simp;lia),λl2 H5 n5=>?_];erw[bU Z,λl3 H6 n6=>?_];erw[l2,l3,_,_,Z,Z,aK.of (n6.same _ _ n5.at'),aK.of n6.at',zK _ (by simp;lia),λl H7 n7=>?_];have zP:aH H H6:=n1.same.trans (s3.trans (n4.same.trans (n5.same.trans n6.same)));have nl:H l=none:=by cases e:H l with |none=>rfl |some o=>have:=zP _ _ e;rw[n7.no]at this;cases this
    erw[k l _ H7 nl n7.at' ?_ (zP.trans n7.same)];rw[_O.Sy j aE eZ,pT,pT];exact((cj (rN H7) dc).append (aO.mono (n4.same.trans (n5.same.trans (n6.same.trans n7.same))) _ r3)).append (cj (rN H7) dc)
inductive aez(K:aa)(vs:List V)(H:Hp)(Q:VK):Prop |mk (m:_)(iv:_)(l:_)(ys:_)(rs:_)(r:_)(f:_)(j:_)(t:_)(ds:_)(os:_)(g:_)(h0:vs=[m,iv,.ref l])(h1:RD K H m (jA rs r f j t))(h2:pI rs r f j t)(h3:RD K H iv (.list ds))(h4:iI rs.length ds os)(h5:ds.length<=30)(h6:H l=some (.lst ys))(h7:aO K H ys ((lst os.length g).map dk))(h8:(∀i,i<=os.length->Bd 900 (g i)))(h9:∀l ys H',H l=none->H' l=some (.lst ys)->aO K H' ys ((lst os.length (fl os.length (leadF os) (2*f) g)).map dk)->aH H H'->Q (.ref l) H')
def Pf(K:aa):Sp:=λvs H Q _=>aez K vs H Q
theorem a4f(F:FA K mg "kept_by_fall" IA)(B:cn mg)(tR:aJ P w K mg aB "is_line" 1 (xx K))(qL:aJ P w K mg aB "lead_of" 1 (mQ K))(yl:aJ P w K mg aB "plus_whole" 4 (Cr K))(yt:aJ P w K mg aB "least" 2 (kj K)):aJ P w K mg aB "kept_by_fall" 5 (Pf K):=by
 erw[F.has QP (λvs H Q E h=>?_) (λ_ _ _ _ _ _=>pG λ_ _ _=>rfl) (λfa aQ A outer s H vs Q E hr h=>?_)]
 · let(m,iv,l,ys,rs,r,f,j,t,ds,os,g,rfl,_):=h
   rfl
 · let(m,iv,l,ys,rs,r,f,j,t,ds,os,g,rfl,rm,aM,ri,row,hz,dl,sS,bg,k):=h
   have nd:=QP.nd;erw[_,(aG (pS 3 nd (px K (pv 0) aF)) (aG (pS 4 nd (j8 (x:="list") (Ki K Z) Z (B.at "list") lT (au (pv 2) az))) (aG (m9 iJ Z (a2h Z (B.at "reversed") (au (j8 (x:="range") aca rfl (B.at "range") PyProof.Rows.boot_range (au (eK K B (au (pv 1) az)) az)) az)) (bR 5 nd) (aI (bQ (cP (pf tR hr (au (px K (pv 1) (pv 5)) az))) (aI (fP (pf yt hr (au (dC (au (px K (pv 4) (pv 5)) (au (pf yl hr (au (px K (pv 4) (aL cZ (pv 5) aF)) (au (aL cg (aL cg aF (pv 3)) (pf qL hr (au (px K (pv 1) (pv 5)) az))) az))) az))) az)) (j4 (pv 4) (pv 5) set_list))) bV))) (aI (aZ (pv 4)))))),?_];let(ma,mb,rfl,iH,kC):=mj rm;let(ia,xs,rfl,hi,jc):=ri.lst_inv;have lx:=jc.length;have ll:=row.len;have lr:=aM.len;have hL:∀i m,leadF os i=some m->(2*f*(m:Int)).natAbs<2^24:=λi m e=>Oa aM.f1.1 aM.f1.2 (Uc row.xV e);have FB:∀i,i<=os.length->Bd 1700 (fl os.length (leadF os) (2*f) g i):=λi hi=>(Vx bg hL i hi).mono aw;erw[_,Z,.inr #[ma,_,2,.int f,Z,Z,iH,Z,?_]];erw[_,Z,l,ys,Z,.inl (aK.of dl),λD H1 n1=>?_];erw[_,Z,ia,_,Z,.inl (hi.go n1.same),_,Z,λpr H2 n2=>?_];erw[pr,_,Z,n2.at',aw,aw,?_];have eN:((xs.length:Int)).toNat=os.length:=by lia
   rw[eN];erw[a9z (Pv:=λi O H5=>aH H H5/\∃zs v1,H5 D=some (.lst zs)/\aO K H5 zs ((lst os.length λk=>if os.length<=k+i then fl os.length (leadF os) (2*f) g k else g k).map dk)/\O=cZ9 (.ref ma) (cZ9 (.ref ia) (cZ9 (.ref l) (cZ9 (.int f) (cZ9 (.ref D) (v1::[])))))) ?_ ?_ ?_]
   · erw[n1.same.trans n2.same,ys,none,n2.same _ _ n1.at',?_,Z]
     rw[Kc (g:=λk=>if os.length<=k+0 then fl os.length (leadF os) (2*f) g k else g k) (g':=g)]
     ·erw[aO.mono (n1.same.trans n2.same) _ sS]
     · intro k hk
       show g k=if os.length<=k+0 then _ else g k;split
       · next h => have:k=os.length:=by lia
                   subst this;erw[yH.symm]
       ·rfl
   · rintro i O H3 E3 ⟨s3,zs,v1,dz,rz,rfl⟩
     obtain⟨x,hx⟩:∃x,xs[os.length-1-i]? =some x:=#[_,cC (show os.length-1-i<xs.length by lia)];generalize hc:os.length-1-i=c at hx;have mX:c<os.length:=by lia
     have eI:((os.length:Int)-1-(i:Int))=(c:Int):=by lia
     rw[eI];let(d,ed,rd):=jc.get' c hx;let(o,eo,it):=row.get ed;have lz:=rz.length;rw[cJ,tO]at lz;have Be:fW xs (c:Int)=some x:=dQ aw (by simpa using hx);erw[_,Z,_,Z,.inl #[ia,_,_,_,Z,Z,hi.go s3,Be,?_]];erw[x,d,o,Z,RD.mono s3 _ rd,it,_,Z,?_];cases o with
     |none=>
       erw[bK ?_];erw[s3,zs,_,dz,?_,Z];rw[Kc (g:=λk=>if os.length<=k+(i+1)then fl os.length (leadF os) (2*f) g k else g k) (g':=λk=>if os.length<=k+i then fl os.length (leadF os) (2*f) g k else g k)]
       ·erw[rz]
       · intro k _
         show(if os.length<=k+i then _ else g k)=if os.length<=k+(i+1)then _ else g k;by_cases h1:os.length<=k+i
         ·rw[bE h1,bE aw]
         · rw[bI h1]
           by_cases h2:k=c
           ·subst h2;rw[bE aw,yG mX (Ub eo)]
           ·rw[bI aw] |some q=>
       let(ns,sp):=q;erw[cx ?_];have mH:=lO it;subst mH;let(fA,_,_):=row.ok c ns sp eo;obtain⟨z1,VF⟩:∃z,zs[c+1]? =some z:=#[_,cC (show c+1<zs.length by lia)];obtain⟨z0,AZ⟩:∃z,zs[c]? =some z:=#[_,cC (show c<zs.length by lia)];have R1:bO K H3 z1 (fl os.length (leadF os) (2*f) g (c+1)):=by
        let(d1,e1,r1):=rz.get' (c+1) VF;rw[cV,tP _ (show c+1<=os.length by lia)]at e1;cases e1;have:os.length<=c+1+i:=by lia
        simp only[bE this]at r1;erw[oH r1]
       have R0:bO K H3 z0 (g c):=by
        let(d1,e1,r1):=rz.get' c AZ;rw[cV,tP _ (show c<=os.length by lia)]at e1;cases e1;have:¬os.length<=c+i:=by lia
        simp only[bI this]at r1;erw[oH r1]
       have Mx:((c:Int)+1).toNat=c+1:=by lia
       have MX:fW zs ((c:Int)+1)=some z1:=dQ aw (by rw[Mx];erw[VF]);have MY:fW zs (c:Int)=some z0:=dQ aw (by simpa using AZ);erw[_,Z,_,Z,.inl #[D,_,_,_,Z,Z,aK.of dz,MY,?_]];erw[_,Z,_,Z,_,_,Z,Z,.inl #[D,_,_,_,Z,Z,aK.of dz,MX,?_]];erw[_,Z,_,_,Z,Z,.of_left (cE aD aD),?_];erw[_,Z,_,Z,.inl #[ia,_,_,_,Z,Z,hi.go s3,Be,?_]];erw[x,ns,sp,Z,RD.mono s3 _ rd,fA.ne,by rw[fA.len];lia,λH4 s4=>?_];have uc:=aM.f1;erw[_,_,Z,Z,.of_left (cE aw aw),?_];have us:=hL c _ (DE eo);erw[z1,_,_,Z,R1.go s4,(FB (c+1) aw).mono aD,us,λu H5 ru s5=>?_];erw[bU Z,λl2 H6 n6=>?_];have sR:=s4.trans (s5.trans n6.same);have Xr:=R0.go sR;have Ru:=ru.go n6.same;have B1:Bd 2000 (g c):=(bg _ aw).mono aD;have B2:Bd 2000 (fl os.length (leadF os) (2*f) g (c+1)+((2*f*(aP ns:Int):Int):Rat)):=(F1 (FB (c+1) aw) us).mono aD;erw[l2,[z0,u],[_,_],Z,aK.of n6.at',#[Xr,B1,Ru,B2,trivial],by simp,λc' v q e1 e2 hq=>?_];have vJ:mn (g c) (fl os.length (leadF os) (2*f) g (c+1)+((2*f*(aP ns:Int):Int):Rat))=q:=by
        erw[oS ?_ (hq _ (by simp)) (hq _ (by simp))]
        match c',e2 with |0,e2=>cases e2;erw[.inl rfl] |1,e2=>cases e2;erw[.inr rfl]
       have Rv:bO K H6 v q:=by match c',e1,e2 with |0,e1,e2=>cases e1;cases e2;erw[Xr] |1,e1,e2=>cases e1;cases e2;erw[Ru]
       have Wc:=sR _ _ dz;have vy:kz zs.length (c:Int)=some c:=by unfold kz;rw[bE aw,bE aw];simp
       erw[_,Z,_,Z,D,zs,_,_,Z,Z,Wc,vy,?_];erw[λb o e=>?_,_,_,bo,?_,Z]
       ·rw[aR (fZ e n1.no)];erw[sR b o (s3 b o e)]
       · have h:=aO.Gx (i:=c) Wc (aO.mono sR _ rz) Rv.rd (xY _) (sW _)
         rw[<-BG]at h;have e:(lst os.length λk=>if os.length<=k+i then fl os.length (leadF os) (2*f) g k else g k).set c q=lst os.length λk=>if os.length<=k+(i+1)then fl os.length (leadF os) (2*f) g k else g k:=by
          rw[<-a5E (g:=λk=>if os.length<=k+i then fl os.length (leadF os) (2*f) g k else g k) (g':=λk=>if os.length<=k+(i+1)then fl os.length (leadF os) (2*f) g k else g k) (i:=c)]
          · have:os.length<=c+(i+1):=by lia
            simp only[bE this];rw[yI mX (DE eo),vJ]
          · intro k _ hk
            show(if os.length<=k+(i+1)then _ else g k)=if os.length<=k+i then _ else g k;by_cases h1:os.length<=k+i
            ·rw[bE h1,bE aw]
            ·rw[bI h1,bI aw]
         rw[e]at h;erw[h]
   · rintro O H3 ⟨s3,zs,v1,dz,rz,rfl⟩
     rw[Kc (g:=λk=>if os.length<=k+os.length then fl os.length (leadF os) (2*f) g k else g k) (g':=fl os.length (leadF os) (2*f) g) (λk hk=>by show _=if os.length<=k+os.length then _ else _;rw[bE aw])]at rz;erw[_,Z,k D zs H3 n1.no dz rz s3]
def xH(f j aE:Int)(os:List Itm):Rat:=fl os.length (leadF os) (2*f) (ownF j aE os) 1
inductive adZ(K:aa)(vs:List V)(H:Hp)(Q:VK):Prop |mk (m:_)(iv:_)(aE:_)(rs:_)(r:_)(f:_)(j:_)(t:_)(ds:_)(os:_)(h0:vs=[m,iv,.int aE])(h1:RD K H m (jA rs r f j t))(h2:pI rs r f j t)(h3:RD K H iv (.list ds))(h4:iI rs.length ds os)(h5:ds.length<=30)(h6:1<=ds.length)(h7:10<=aE)(h8:aE<=200)(h9:∀v H',bO K H' v (xH f j aE os)->aH H H'->Q v H')
def Gg(K:aa):Sp:=λvs H Q _=>adZ K vs H Q
theorem Qc:bN ["machine","items","rate"] ["machine","items","rate"] (bj Hi):=bZ bf
theorem a3K(F:FA K mg "reach_behind_first" Hi)(B:cn mg)(a7g:aJ P w K mg aB "own_bounds" 8 (Pa K))(a7G:aJ P w K mg aB "kept_by_fall" 5 (Pf K)):aJ P w K mg aB "reach_behind_first" 9 (Gg K):=by
 erw[F.has Qc (λvs H Q E h=>?_) (λ_ _ _ _ _ _=>pG λ_ _ _=>rfl) (λfa aQ A outer s H vs Q E hr h=>?_)]
 ·let(m,iv,aE,rs,r,f,j,t,ds,os,rfl,_):=h
  rfl
 ·let(m,iv,aE,rs,r,f,j,t,ds,os,rfl,rm,aM,ri,row,hz,h1,dG,dN,k):=h
  have nd:=Qc.nd;erw[_,(aI (aZ (px K (pf a7G hr (au (pv 0) (au (pv 1) (au (pf a7g hr (au (pv 0) (au (pv 1) (au (pv 2) az)))) az)))) aF))),?_];have ll:=row.len;have hB:=_O.JH aM.j1.1 aM.j1.2 dG dN row.xV;erw[_,Z,_,Z,_,Z,_,Z,_,Z,m,iv,aE,rs,r,f,j,t,ds,os,Z,rm,aM,ri,row,aw,dG,dN,λl1 y1 H1 nl1 d1 r1 s1=>?_];erw[m,iv,l1,y1,rs,r,f,j,t,ds,os,ownF j aE os,Z,RD.mono s1 _ rm,aM,RD.mono s1 _ ri,row,hz,d1,r1,λi _=>(hB i).mono aD,λl2 y2 H2 Dh d2 r2 s2=>?_];have ly:=r2.length;rw[cJ,tO]at ly;obtain⟨z,ez⟩:∃z,y2[1]? =some z:=#[_,cC (show 1<y2.length by lia)];erw[.inl #[l2,_,1,z,Z,Z,aK.of d2,dQ aD ez,?_]];let(d,ed,rd):=r2.get' 1 ez;rw[cV,tP _ (show 1<=os.length by lia)]at ed;cases ed;erw[k z H2 (oH rd) (s1.trans s2)]
end
end _c
namespace _c
open PySem PySem.Spec PyProof.Rows _L _l _W
open _O (Itm)
section
theorem a5i{v:V}{rs:List Int}{es:List ai}(h:RD K H v (.tuple (.tuple (rs.map PyData.int)::es))):∃a b ys,v= .ref a/\aV K H a (.ref b::ys)/\aV K H b (rs.map V.int):=by let(a,xs,rfl,h1,h2):=h.fE;let(x1,r1,rfl,e1,h2):=h2.cons_inv;let(b,ys,rfl,h3,h4):=e1.fE;rw[h4.jC]at h3;erw[a,b,r1,Z,h1,h3]
def jb(z:Str):ai->Bool | .str x=>x==z |_=>false
theorem EB(z:Str)(d:ai):PyData.eqv d (.str z)=jb z d:=by cases d<;>simp[PyData.eqv,jb]
theorem VT(z:Str)(d:ai):PyData.eqv (.str z) d=jb z d:=by cases d<;>simp[PyData.eqv,jb];rw[pW];simp;erw[eq_comm]
theorem ZV(d:ai):(∃z,d= .str z)\/(jr (ow d) "str"=false/\∀z,d≠ .str z):=by cases d with |str z=>erw[.inl #[z,Z]] |_=>erw[.inr #[by simp[ow];decide,λ_ z=>nomatch z]]
theorem YL:jr "str" "str"=true:=by decide
def Kv(d:ai):Bool:=jb "up" d||jb "down" d
def xW(c:Nat):Bool:=decide (97<=c)&&decide (c<=122)
def isNm:ai->Bool | .str x=>(decide (1<=x.length)&&decide (x.length<=8))&&x.cps.toList.all xW |_=>false
def qI(wd v:ai):Bool:=if jb "wait" wd then ir 1 1000 v else if jb "tool" wd then Kv v else jb "mark" wd&&isNm v
def A6:ai->Bool | .int i=>i !=0 |_=>true
def vi(n:Nat):ai->Bool | .tuple ds=>(ds.length==n&&ds.all (ir (-100) 100))&&ds.any A6 |_=>false
def vF(n:Nat):ai->Bool | .tuple [wd,a,b]=>jb "line" wd&&(vi n a&&ir 1 20 b) | .tuple [wd,v]=>qI wd v |_=>false
def sP:ai->Bool | .str x=>decide (x.length<=900) |_=>true
def Gw:ai->Bool | .tuple ds=>ds.all sP |_=>true
inductive adD(f:ai->Bool)(K:aa)(vs:List V)(H:Hp)(Q:VK):Prop |mk (v:_)(d:_)(h0:vs=[v])(h1:RD K H v d)(h2:sP d=true)(h3:∀H',aH H H'->Q (.bl (f d)) H')
def ON(f:ai->Bool)(K:aa):Sp:=λvs H Q _=>adD f K vs H Q
theorem a0i(h:sP (.str z)=true):z.length<=900:=jJ h
theorem Tq(n:Nat):decide ((1:Int)<=(n:Int))=decide (1<=n):=by rw[pW];simp;omega
theorem a4V(n:Nat):decide ((n:Int)<=8)=decide (n<=8):=by rw[pW];simp;omega
theorem acU{l:List Nat}:(l.map f).all id=l.all f:=by rw[List.all_map];rfl
theorem ad6:∀c<128,decide (c∈kE.cps.toList)=xW c:=by decide+kernel
theorem ad9:∀c∈kE.cps.toList,c<128:=by decide+kernel
theorem ad8(c:Nat):decide (c∈kE.cps.toList)=xW c:=by
 by_cases h:c<128
 ·erw[ad6 c h]
 ·rw[fo (λhc=>h (ad9 c hc)),xW,fo (show¬c<=122 by omega),Bool.and_false]
theorem QL:bN ["thing"] ["thing"] (bj Iv):=bZ bf
theorem a4b(F:FA K mg "is_name" Iv)(B:cn mg)(a8w:GV mg "LONGEST_NAME" (.int 8))(a8x:GV mg "LETTERS" (.str kE)):aJ P w K mg aB "is_name" 1 (ON isNm K):=by
 erw[F.has QL (λvs H Q E h=>?_) (λ_ _ _ _ _ _=>fj λ_=>rfl) (λf aQ A outer s H vs Q E hr h=>?_)]
 ·let(v,d,rfl,_):=h
  rfl
 ·let(v,d,rfl,rd,sh,k):=h
  have nd:=QL.nd;erw[_,(aG (bQ (PW.pt (kM (dX (cP (eV K B (au (pv 0) (au (dR (x:="str") (v:=.ty "str") Z (B.at "str") rY rfl) az))))) (lK (dX (a21 xR xR aF (eG (x:="len") acd rfl (B.at "len") PySem.boot_len (au (pv 0) az)) (fG (x:="LONGEST_NAME") rfl a8w)))))) (aI (aZ gL)) bV) (aI (aZ (eG (x:="all") (rJ K Z Z) Z (B.at "all") uD (au (gU (N:=["letter"]) (js:=[none]) rfl rfl rfl (a2g (pv 0)) (λ_ _ _ _ _=>(bR 0 (vp _))) (λ_ _ _ _ _=>gs) (λ_ _ _ _ _=>(fS a2P (pv 0) (fG (x:="LETTERS") rfl a8x) (by with_unfolding_all rfl)))) az))))),?_];rcases ZV d with⟨z,rfl⟩|⟨ht,hn⟩
  ·erw[_,Z,.inl #[_,_,"str",true,Z,rd.ty,aD,YL,_,Z,bK ?_]]
   cases rd.str_inv;have hl:=a0i sh;have k:∀H',aH H H'->Q (.bl ((decide (1<=z.length)&&decide (z.length<=8))&&z.cps.toList.all xW)) H':=k;erw[_,Z,z,Z,iK hl aD,_,_,Z,Z,_,Z,?_];erw[eL (λh1=>?_) (λh1=>?_)]
   ·rw[<-Tq,show decide ((1:Int)<=(z.length:Int))=true from h1,lF]at k
    erw[_,_,Z,Z,_,Z,?_];rw[a4V];cases e8:decide (z.length<=8)with |false=>rw[e8,lV]at k;erw[cx (k H (aH.refl _))] |true=>
     rw[e8,lF]at k;erw[bK #[_,Z,z,Z,λD H0 nw=>?_]];erw[abW (f:=xW) [] nw aw (λc H2 Q' hc s2 hq=>?_) (λH2 s2 d2=>?_)]
     ·erw[_,Z,c,kE,Z,Z,?_]
      rw[ad8];erw[hq _ (aH.refl _)]
     ·erw[D,_,Z,aK.of d2,?_]
      rw[acU];erw[k H2 s2]
   ·rw[<-Tq,show decide ((1:Int)<=(z.length:Int))=false from zp.mpr h1,lV,lV]at k
    erw[_,Z,cx (k H (aH.refl _))]
  ·have e:isNm d=false:=by cases d<;>first|rfl|erw[absurd rfl (hn _)]
   rw[e]at k;erw[_,Z,.inl #[_,_,"str",false,Z,rd.ty,aD,ht,_,Z,cx ?_]];erw[k H (aH.refl _)]
inductive adP(K:aa)(vs:List V)(H:Hp)(Q:VK):Prop |mk (x:_)(v:_)(wd:_)(d:_)(h0:vs=[x,v])(h1:RD K H x wd)(h2:RD K H v d)(h3:eO 8 wd)(h4:eO 8 d)(h5:sP d=true)(h6:∀H',aH H H'->Q (.bl (qI wd d)) H')
def OU(K:aa):Sp:=λvs H Q _=>adP K vs H Q
theorem zL(h:eO 8 d):SeqAt.shaped d=true:=h.shaped aD
theorem QJ:bN ["word","value"] ["word","value"] (bj Ir):=bZ bf
theorem a49(F:FA K mg "is_short_item" Ir)(B:cn mg)(a8v:GV mg "LONGEST_WAIT" (.int 1000))(gS:GT K mg "SIDES" [.str "up",.str "down"])(qP:aJ P w K mg aB "is_whole_within" 2 (uT K))(a7M:aJ P w K mg aB "is_name" 1 (ON isNm K)):aJ P w K mg aB "is_short_item" 3 (OU K):=by
 erw[F.has QJ (λvs H Q E h=>?_) (λ_ _ _ _ _ _=>dS λ_ _=>rfl) (λf aQ A outer s H vs Q E hr h=>?_)]
 ·let(x,v,wd,d,rfl,_):=h
  rfl
 ·let(x,v,wd,d,rfl,IV,rd,JL,A5,sh,k):=h
  have nd:=QJ.nd;let(aS,a8k,sqS):=gS;erw[_,(aG (bQ (cy (dF K Z hr.units) (pv 0) bh (bM _)) (aI (aZ (pf qP hr (au (pv 1) (au aF (au (fG (x:="LONGEST_WAIT") Z a8v) az)))))) bV) (aG (bQ (cy (dF K Z hr.units) (pv 0) bh (bM _)) (aI (aZ (fS (a6B K Z (hr.YH)) (pv 1) (fG (x:="SIDES") Z a8k) (by with_unfolding_all rfl)))) bV) (aI (aZ (j9 (fS (dF K Z hr.units) (pv 0) bh (bM _)) (j6 (pf a7M hr (au (pv 1) az)))))))),?_];have k:∀H',aH H H'->Q (.bl (if jb "wait" wd then ir 1 1000 d else if jb "tool" wd then Kv d else jb "mark" wd&&isNm d)) H':=k;erw[_,Z,.inr #[_,_,IV,df _,zL JL,bf,_,Z,?_]];rw[EB];cases e1:jb "wait" wd with |true=>rw[e1,bE rfl]at k;erw[cx #[_,Z,_,d,1,1000,Z,rd,k H (aH.refl _)]] |false=>rw[e1,bI iV]at k;erw[bK #[_,Z,.inr #[_,_,IV,df _,zL JL,bf,_,Z,?_]]];rw[EB];cases e2:jb "tool" wd with
   |true=>
    rw[e2,bE rfl]at k;erw[cx #[_,Z,aS,_,d,[.str "up",.str "down"],Z,sqS H,rd,cj (df _) (cj (df _) dc),zL A5,?_,?_]]
    ·intro e he
     rcases bJ.mp he with rfl|he
     ·decide+kernel
     rcases bJ.mp he with rfl|he
     ·decide+kernel
     ·exact(cD he).elim
    ·have e:([.str "up",.str "down"]:List ai).any (λe=>PyData.eqv e d)=Kv d:=by rw[sy,sy,List.any_nil,VT,VT,Bool.or_false];rfl
     rw[e];erw[k H (aH.refl _)] |false=>rw[e2,bI iV]at k;erw[bK #[_,Z,.inr #[_,_,IV,df _,zL JL,bf,_,Z,?_]]];rw[EB];cases e3:jb "mark" wd with |true=>rw[e3,lF]at k;erw[cx #[_,Z,_,d,Z,rd,sh,k]] |false=>rw[e3,lV]at k;erw[bK (k H (aH.refl _))]
theorem a4w(i:Int):(!decide (i=0))=(i !=0):=by rw[pW];simp
theorem a6z{lo hi:Int}(h:ir lo hi d=true):∃i,d= .int i:=by cases d<;>simp[ir]at h;erw[_,Z]
theorem any_map'{ds:List ai}:(ds.map f).any id=ds.any f:=by rw[List.any_map];rfl
inductive adN(K:aa)(vs:List V)(H:Hp)(Q:VK):Prop |mk (m:V)(v:V)(rs:List Int)(es:List ai)(d:ai)(h0:vs=[m,v])(h1:RD K H m ((.tuple (.tuple (rs.map PyData.int)::es))))(h2:RD K H v d)(h3:rs.length<=3)(h4:∀H',aH H H'->Q (.bl (vi rs.length d)) H')
def OT(K:aa):Sp:=λvs H Q _=>adN K vs H Q
theorem Rg:bN ["machine","thing","rails"] ["machine","thing"] (bj IM):=bZ bf
theorem a4q(F:FA K mg "are_steps" IM)(B:cn mg)(Va:GV mg "MOST_STEPS" (.int 100))(qP:aJ P w K mg aB "is_whole_within" 2 (uT K)):aJ P w K mg aB "are_steps" 3 (OT K):=by
 erw[F.has Rg (λvs H Q E h=>?_) (λ_ _ _ _ _ _=>dS λ_ _=>rfl) (λf aQ A outer s H vs Q E hr h=>?_)]
 ·let(m,v,rs,es,d,rfl,_):=h
  rfl
 ·let(m,v,rs,es,d,rfl,rm,rd,l3,k):=h
  have nd:=Rg.nd;erw[_,(aG (pS 2 nd (px K (pv 0) aF)) (aG (bQ (PW.pt (kM (dX (cP (eV K B (au (pv 1) (au (dR (x:="tuple") (v:=.ty "tuple") Z (B.at "tuple") gB rfl) az))))) (lK (cy (jy K rfl hr.units) (eK K B (au (pv 1) az)) (eK K B (au (pv 2) az)) (bM _))))) (aI (aZ gL)) bV) (aG (bQ (dX (cP (eG (x:="all") (rJ K Z Z) Z (B.at "all") uD (au (gU (N:=["step"]) (js:=[none]) rfl rfl rfl (sY K rfl (pv 1)) (λ_ _ _ _ _=>(bR 0 (vp _))) (λ_ _ _ _ _=>gs) (λ_ _ _ _ _=>(pf qP hr (au (pv 0) (au (qw pY (fG (x:="MOST_STEPS") rfl Va)) (au (fG (x:="MOST_STEPS") rfl Va) az)))))) az)))) (aI (aZ gL)) bV) (aI (aZ (eG (x:="any") (Xh K Z Z) Z (B.at "any") Y0 (au (gU (N:=["step"]) (js:=[none]) rfl rfl rfl (sY K rfl (pv 1)) (λ_ _ _ _ _=>(bR 0 (vp _))) (λ_ _ _ _ _=>gs) (λ_ _ _ _ _=>(fS (jy K rfl hr.units) (pv 0) aF (bM _)))) az))))))),?_];let(am,ar,ym,rfl,hm,har):=a5i rm;erw[_,Z,.inr #[am,_,0,_,Z,Z,hm,dQ (hW 0) Z,?_]];rcases FZ d with⟨ds,rfl⟩|⟨ht,hn⟩
  ·erw[_,Z,.inl #[_,_,"tuple",true,Z,rd.ty,aD,zw,_,Z,bK ?_]]
   let(av,xs,rfl,hx,hd):=rd.fE;have hl:=hd.length;erw[_,Z,av,_,Z,.inr hx,_,Z,ar,_,Z,.inr har,.inl #[_,_,Z,Z,_,Z,?_]];have k:∀H',aH H H'->Q (.bl ((ds.length==rs.length&&ds.all (ir (-100) 100))&&ds.any A6)) H':=k;have e0:(!decide ((xs.length:Int)=((rs.map V.int).length:Int)))= !(ds.length==rs.length):=by rw[hl,cJ];congr 1;rw[pW];simp;lia
   rw[e0];cases e:(ds.length==rs.length)with |false=>rw[e,lV,lV]at k;erw[cx (k H (aH.refl _))] |true=>
    rw[e,lF]at k;erw[bK ?_];have el:ds.length=rs.length:=gJ.mp e;erw[_,Z,av,Z,#[_,hx],λD H0 nw=>?_];erw[WG (xs:=xs) (bs:=ds.map (ir (-100) 100)) [] hx nw (by rw[cJ,hl]) aw ?_ ?_]
    ·intro i x b H2 Q' ex eb s2 hq
     let(d,ed,rfl):=TM eb;let(x',qZ,rx):=hd.get i ed;rw[ex]at qZ;cases qZ;erw[_,Z,_,Z,_,d,-100,100,Z,RD.mono s2 _ rx,hq _ (aH.refl _)]
    ·intro H2 s2 d2
     erw[D,_,Z,aK.of d2,_,Z,?_];rw[all_map];cases e1:ds.all (ir (-100) 100)with |false=>rw[e1,lV]at k;erw[cx (k H2 s2)] |true=>
      rw[e1,lF]at k;erw[bK #[_,Z,av,Z,#[_,hx.go s2],λD2 H3 n3=>?_]];erw[WG (xs:=xs) (bs:=ds.map A6) [] (hx.go s2) n3 (by rw[cJ,hl]) aw ?_ ?_]
      ·intro i x b H4 Q' ex eb s4 hq
       let(d,ed,rfl):=TM eb;let(x',qZ,rx):=hd.get i ed;rw[ex]at qZ;cases qZ;let(z,rfl):=a6z (jq.mp e1 d (hO ed));cases rx.int_inv;erw[_,Z,.inl #[_,_,Z,Z,?_]];show Q' (.bl (!decide (z=0))) H4;rw[a4w];erw[hq _ (aH.refl _)]
      ·intro H4 s4 d4
       erw[D2,_,Z,aK.of d4,?_];rw[any_map'];erw[k H4 (s2.trans s4)]
  ·have e:vi rs.length d=false:=by cases d<;>first|rfl|erw[absurd rfl (hn _)]
   rw[e]at k;erw[_,Z,.inl #[_,_,"tuple",false,Z,rd.ty,aD,ht,_,Z,cx ?_]];erw[k H (aH.refl _)]
theorem item_cases(n:Nat)(d:ai):(∃wd a b,d= .tuple [wd,a,b])\/(∃wd v,d= .tuple [wd,v])\/(∃ds,d= .tuple ds/\ds.length≠3/\ds.length≠2/\vF n d=false)\/(jr (ow d) "tuple"=false/\vF n d=false):=by
 rcases FZ d with⟨ds,rfl⟩|⟨ht,hn⟩
 ·match ds with |[r,a,b]=>erw[.inl #[r,a,b,Z]] |[r,a]=>erw[.inr (.inl #[r,a,Z])] |[]=>erw[.inr (.inr (.inl #[_,Z,by simp,by simp,by simp[vF]]))] |[_]=>erw[.inr (.inr (.inl #[_,Z,by simp,by simp,by simp[vF]]))] |_::_::_::_::_=>erw[.inr (.inr (.inl #[_,Z,by simp,by simp,by simp[vF]]))]
 ·erw[.inr (.inr (.inr #[ht,by cases d<;>first|rfl|erw[absurd rfl (hn _)]]))]
inductive aeu(K:aa)(vs:List V)(H:Hp)(Q:VK):Prop |mk (m:V)(v:V)(rs:List Int)(es:List ai)(d:ai)(h0:vs=[m,v])(h1:RD K H m ((.tuple (.tuple (rs.map PyData.int)::es))))(h2:RD K H v d)(h3:rs.length<=3)(h4:eO 8 d)(h5:Gw d=true)(h6:∀H',aH H H'->Q (.bl (vF rs.length d)) H')
def Cu(K:aa):Sp:=λvs H Q _=>aeu K vs H Q
theorem JO{ds:List ai}(h:eO 8 (.tuple ds)){d:ai}(hd:d∈ds):eO 8 d:=((eO.fE (n:=7) h) d hd).le aD
theorem sh8{ds:List ai}(h:Gw (.tuple ds)=true){d:ai}(hd:d∈ds):sP d=true:=jq.mp (show ds.all sP=true from h) d hd
theorem QM:bN ["machine","thing","word","steps","speed","value"] ["machine","thing"] (bj Iw):=bZ bf
theorem a4c(F:FA K mg "is_item" Iw)(B:cn mg)(a8z:GV mg "GREATEST_SPEED" (.int 20))(qP:aJ P w K mg aB "is_whole_within" 2 (uT K))(a8e:aJ P w K mg aB "are_steps" 3 (OT K))(a7L:aJ P w K mg aB "is_short_item" 3 (OU K)):aJ P w K mg aB "is_item" 4 (Cu K):=by
 erw[F.has QM (λvs H Q E h=>?_) (λ_ _ _ _ _ _=>dS λ_ _=>rfl) (λf aQ A outer s H vs Q E hr h=>?_)]
 ·let(m,v,rs,es,d,rfl,_):=h
  rfl
 ·let(m,v,rs,es,d,rfl,rm,rd,l3,A5,sh,k):=h
  have nd:=QM.nd;erw[_,(aG (bQ (dX (cP (eV K B (au (pv 1) (au (dR (x:="tuple") (v:=.ty "tuple") Z (B.at "tuple") gB rfl) az))))) (aI (aZ gL)) bV) (aG (bQ (cy (dF K Z hr.units) (eK K B (au (pv 1) az)) aF (bM _)) (aG (fP (pv 1) (eg K Z (n:=3) Z (cf (bR 2 nd) (cf (bR 3 nd) (cf (bR 4 nd) dZ))))) (aI (aZ (j9 (fS (dF K Z hr.units) (pv 2) bh (bM _)) (j9 (pf a8e hr (au (pv 0) (au (pv 3) az))) (j6 (pf qP hr (au (pv 4) (au aF (au (fG (x:="GREATEST_SPEED") Z a8z) az)))))))))) bV) (aG (bQ (cy (dF K Z hr.units) (eK K B (au (pv 1) az)) aF (bM _)) (aG (fP (pv 1) (eg K Z (n:=2) Z (cf (bR 2 nd) (cf (bR 5 nd) dZ)))) (aI (aZ (pf a7L hr (au (pv 2) (au (pv 5) az)))))) bV) (aI (aZ gL))))),?_];rcases item_cases rs.length d with⟨wd,a,b,rfl⟩|⟨wd,a,rfl⟩|⟨ds,rfl,h3,h2,hf⟩|⟨ht,hf⟩
  ·erw[_,Z,.inl #[_,_,"tuple",true,Z,rd.ty,aD,zw,_,Z,bK ?_]]
   let(p,xs,rfl,hx,hd):=rd.fE;let(u1,ys,rfl,r1,hd):=hd.cons_inv;let(u2,ys,rfl,r2,hd):=hd.cons_inv;let(u3,ys,rfl,r3,hd):=hd.cons_inv;cases hd.nil_inv;have k:∀H',aH H H'->Q (.bl (jb "line" wd&&(vi rs.length a&&ir 1 20 b))) H':=k;erw[_,Z,p,_,Z,.inr hx,.inl #[_,_,Z,Z,_,Z,cx ?_]];erw[_,Z,p,_,Z,hx,Z,_,_,Z,_,_,Z,_,_,Z,Z,?_];erw[_,Z,.inr #[_,_,r1,df _,zL (JO A5 (by simp)),bf,_,Z,?_]];rw[EB];cases e1:jb "line" wd with |false=>rw[e1,lV]at k;erw[bK (k H (aH.refl _))] |true=>rw[e1,lF]at k;erw[cx #[_,Z,_,Z,_,_,rs,es,a,Z,rm,r2,l3,λH1 s1=>#[_,Z,?_]]];cases e2:vi rs.length a with |false=>rw[e2,lV]at k;erw[bK (k H1 s1)] |true=>rw[e2,lF]at k;erw[cx #[_,Z,_,b,1,20,Z,RD.mono s1 _ r3,k H1 s1]]
  ·erw[_,Z,.inl #[_,_,"tuple",true,Z,rd.ty,aD,zw,_,Z,bK ?_]]
   let(p,xs,rfl,hx,hd):=rd.fE;let(u1,ys,rfl,r1,hd):=hd.cons_inv;let(u2,ys,rfl,r2,hd):=hd.cons_inv;cases hd.nil_inv;have k:∀H',aH H H'->Q (.bl (qI wd a)) H':=k;erw[_,Z,p,_,Z,.inr hx,.inl #[_,_,Z,Z,_,Z,bK ?_]];erw[_,Z,p,_,Z,.inr hx,.inl #[_,_,Z,Z,_,Z,cx ?_]];erw[_,Z,p,_,Z,hx,Z,_,_,Z,_,_,Z,Z,?_];erw[_,Z,_,Z,_,_,wd,a,Z,r1,r2,JO A5 (by simp),JO A5 (by simp),sh8 sh (by simp),k]
  ·rw[hf]at k
   erw[_,Z,.inl #[_,_,"tuple",true,Z,rd.ty,aD,zw,_,Z,bK ?_]];let(p,xs,rfl,hx,hd):=rd.fE;have hl:=hd.length;erw[_,Z,p,_,Z,.inr hx,.inl #[_,_,Z,Z,_,Z,?_]];rw[show decide ((xs.length:Int)=3)=false from fo aw];erw[bK #[_,Z,p,_,Z,.inr hx,.inl #[_,_,Z,Z,_,Z,?_]]];rw[show decide ((xs.length:Int)=2)=false from fo aw];erw[bK (k H (aH.refl _))]
  ·rw[hf]at k
   erw[_,Z,.inl #[_,_,"tuple",false,Z,rd.ty,aD,ht,_,Z,cx ?_]];erw[k H (aH.refl _)]
def Kw(rs:List Int):ai->Bool | .tuple es=>es.length==rs.length&&((es.zip rs).map λp=>ir 0 p.2 p.1).all id |_=>false
inductive aew(K:aa)(vs:List V)(H:Hp)(Q:VK):Prop |mk (m:V)(v:V)(rs:List Int)(ds:List ai)(d:ai)(h0:vs=[m,v])(h1:RD K H m (.tuple (.tuple (rs.map PyData.int)::ds)))(h2:RD K H v d)(h3:rs.length<=3)(h4:∀H',aH H H'->Q (.bl (Kw rs d)) H')
def Cv(K:aa):Sp:=λvs H Q _=>aew K vs H Q
theorem zip_get{es:List ai}{rs:List Int}{i:Nat}{b:Bool}(h:((es.zip rs).map λp=>ir 0 p.2 p.1)[i]? =some b):∃e r,es[i]? =some e/\rs[i]? =some r/\ir 0 r e=b:=by rw[cV]at h;cases q:(es.zip rs)[i]? with |none=>rw[q]at h;cases h |some p=>rw[q]at h;let(e1,e2):=zm.mp q;erw[p.1,p.2,e1,e2,fe h]
theorem ints_get{rs:List Int}{i:Nat}{r:Int}(h:rs[i]? =some r):(rs.map V.int)[i]? =some (.int r):=by rw[cV,h];rfl
theorem QK:bN ["machine","thing","rails"] ["machine","thing"] (bj Iu):=bZ bf
theorem a4a(F:FA K mg "is_place" Iu)(B:cn mg)(qP:aJ P w K mg aB "is_whole_within" 2 (uT K)):aJ P w K mg aB "is_place" 3 (Cv K):=by
 erw[F.has QK (λvs H Q E h=>?_) (λ_ _ _ _ _ _=>dS λ_ _=>rfl) (λf aQ A outer s H vs Q E hr h=>?_)]
 ·let(m,v,rs,ds,d,rfl,_):=h
  rfl
 ·let(m,v,rs,ds,d,rfl,rm,rd,l3,k):=h
  have nd:=QK.nd;erw[_,(aG (pS 2 nd (px K (pv 0) aF)) (aG (bQ (PW.pt (kM (dX (cP (eV K B (au (pv 1) (au (dR (x:="tuple") (v:=.ty "tuple") Z (B.at "tuple") gB rfl) az))))) (lK (cy (jy K rfl hr.units) (eK K B (au (pv 1) az)) (eK K B (au (pv 2) az)) (bM _))))) (aI (aZ gL)) bV) (aI (aZ (eG (x:="all") (rJ K Z Z) Z (B.at "all") uD (au (gU (N:=["number","rail"]) (js:=[none,none]) rfl rfl rfl (kN K rfl false false rfl (B.at "zip") (au (pv 1) (au (pv 2) az))) (λ_ _ _ _ _=>(eg K rfl (n:=2) rfl (cf (bR 0 (gG aD)) (cf (bR 1 (gG aD)) dZ)))) (λ_ _ _ _ _=>gs) (λ_ _ _ _ _=>(pf qP hr (au (pv 0) (au aF (au (pv 1) az)))))) az)))))),?_];let(am,xm,rfl,hm,hdm):=rm.fE;let(yr,ym,rfl,r1,agS):=hdm.cons_inv;let(ar,xr,rfl,DR,hdr):=r1.fE;cases hdr.jC;erw[_,Z,.inr #[am,_,0,_,Z,Z,hm,dQ (hW 0) Z,?_]];rcases FZ d with⟨es,rfl⟩|⟨ht,hn⟩
  ·erw[_,Z,.inl #[_,_,"tuple",true,Z,rd.ty,aD,zw,_,Z,bK ?_]]
   let(av,xs,rfl,hx,hd):=rd.fE;have hl:=hd.length;erw[_,Z,av,_,Z,.inr hx,_,Z,ar,_,Z,.inr DR,.inl #[_,_,Z,Z,_,Z,?_]];have k:∀H',aH H H'->Q (.bl (es.length==rs.length&&((es.zip rs).map λp=>ir 0 p.2 p.1).all id)) H':=k;have e0:(decide ((xs.length:Int)=((rs.map V.int).length:Int)))=(es.length==rs.length):=by rw[hl,cJ,pW];simp;lia
   rw[e0];cases e:(es.length==rs.length)with |false=>rw[e,lV]at k;erw[cx (k H (aH.refl _))] |true=>
    rw[e,lF]at k;erw[bK ?_];have el:es.length=rs.length:=gJ.mp e;erw[_,Z,_,Z,av,ar,Z,#[_,hx],#[_,DR],λD H0 nw=>?_];erw[WE (b1:=false) (b2:=false) (xs:=xs) (ys:=rs.map V.int) (bs:=(es.zip rs).map λp=>ir 0 p.2 p.1) [] rfl hx DR nw (by rw[cJ,cJ,List.length_zip,hl]) (by rw[cJ,List.length_zip];lia) ?_ ?_]
    ·intro i x y b H2 Q' ex ey eb s2 hq
     let(e',r,ee,er,rfl):=zip_get eb;let(x',qZ,rx):=hd.get i ee;rw[ex]at qZ;cases qZ;rw[ints_get er]at ey;cases ey;erw[_,Z,_,Z,_,e',0,r,Z,RD.mono s2 _ rx,hq _ (aH.refl _)]
    ·intro H2 s2 d2
     erw[D,_,Z,aK.of d2,k H2 s2]
  ·have e:Kw rs d=false:=by cases d<;>first|rfl|erw[absurd rfl (hn _)]
   rw[e]at k;erw[_,Z,.inl #[_,_,"tuple",false,Z,rd.ty,aD,ht,_,Z,cx ?_]];erw[k H (aH.refl _)]
inductive aem(K:aa)(vs:List V)(H:Hp)(Q:VK):Prop |mk (pw:_)(b:_)(pl:_)(ns:_)(h0:vs=[pw,.ref b])(h1:RD K H pw (fF pl))(h2:aV K H b (ns.map V.int))(h3:ns.length=pl.length)(h4:pl.length<=1000)(h5:∀v' H',RD K H' v' (fF (fg pl ns))->aH H H'->Q v' H')
def Ct(K:aa):Sp:=λvs H Q _=>aem K vs H Q
theorem Qt:bN ["place","steps"] ["place","steps"] (bj HV):=bZ bf
theorem a3T(F:FA K mg "moved" HV)(B:cn mg):aJ P w K mg aB "moved" 1 (Ct K):=by
 erw[F.has Qt (λvs H Q E h=>?_) (λ_ _ _ _ _ _=>dS λ_ _=>rfl) (λf aQ A outer s H vs Q E hr h=>?_)]
 ·let(pw,b,pl,ns,rfl,_):=h
  rfl
 ·let(pw,b,pl,ns,rfl,rp,hb,ln,hz,k):=h
  have nd:=Qt.nd;erw[_,(aI (aZ (j8 (x:="tuple") (lX K Z) Z (B.at "tuple") gB (au (gU (N:=["number","step"]) (js:=[none,none]) rfl rfl rfl (kN K rfl false false rfl (B.at "zip") (au (pv 0) (au (pv 1) az))) (λ_ _ _ _ _=>(eg K rfl (n:=2) rfl (cf (bR 0 (gG aD)) (cf (bR 1 (gG aD)) dZ)))) (λ_ _ _ _ _=>gs) (λ_ _ _ _ _=>(aL cZ (pv 0) (pv 1)))) az)))),?_];let(pa,rfl,hp):=vg rp;erw[_,Z,_,Z,pa,b,Z,#[_,hp],#[_,hb],λD H1 n1=>?_];erw[wB (K:=K) (b1:=false) (b2:=false) (xs:=pl.map V.int) (ys:=ns.map V.int) (ds:=(fg pl ns).map PyData.int) [] rfl hp hb n1 (by simp[rK ln,ln]) (by rw[cJ,rK ln];erw[hz]) (me _) ?_ ?_]
  ·intro i x y d H2 Q' ex ey ed s2 hq
   let(m,em,rfl):=nN ed;rw[cV]at ex ey;cases e1:pl[i]? with |none=>rw[e1]at ex;cases ex |some u=>cases e2:ns[i]? with |none=>rw[e2]at ey;cases ey |some v=>rw[e1]at ex;rw[e2]at ey;cases ex;cases ey;rw[Bf e1 e2]at em;cases em;erw[_,Z,_,Z,_,_,Z,Z,hq _ _ (aH.refl _) (cF _)]
  ·intro H2 zs s2 d2 r2
   erw[D,_,Z,.inl #[aK.of d2,λt H3 n3=>?_]];have et:=n3.at';rw[r2.jC]at et;erw[k (.ref t) H3 (xK (aV.of et)) (s2.trans n3.same)]
inductive aeI(K:aa)(vs:List V)(H:Hp)(Q:VK):Prop |mk (pw:_)(iv:_)(pl:_)(d:_)(o:_)(h0:vs=[pw,iv])(h1:RD K H pw (fF pl))(h2:RD K H iv d)(h3:itR d o)(h4:(∀ns sp,o=some (ns,sp)->ns.length=pl.length))(h5:pl.length<=1000)(h6:∀v' H',RD K H' v' (fF (gz pl o))->aH H H'->Q v' H')
def xy(K:aa):Sp:=λvs H Q _=>aeI K vs H Q
theorem QY:bN ["place","item"] ["place","item"] (bj IK):=bZ bf
theorem a4o(F:FA K mg "place_behind" IK)(B:cn mg)(tR:aJ P w K mg aB "is_line" 1 (xx K))(KZ:aJ P w K mg aB "moved" 1 (Ct K)):aJ P w K mg aB "place_behind" 2 (xy K):=by
 erw[F.has QY (λvs H Q E h=>?_) (λ_ _ _ _ _ _=>dS λ_ _=>rfl) (λf aQ A outer s H vs Q E hr h=>?_)]
 ·let(pw,iv,pl,d,o,rfl,_):=h
  rfl
 ·let(pw,iv,pl,d,o,rfl,rp,ri,it,hl,hz,k):=h
  have nd:=QY.nd;erw[_,(aI (aZ (Sm (cP (pf tR hr (au (pv 1) az))) (pf KZ hr (au (pv 0) (au (px K (pv 1) aF) az))) (pv 0)))),?_];erw[_,Z,iv,d,o,Z,ri,it,_,Z,?_];cases o with |some q=>let(ns,sp):=q;erw[cx ?_];have ed:=lO it;subst ed;let(a,b,rfl,ha,hb):=mV ri;erw[_,Z,_,Z,.inr #[a,_,1,.ref b,Z,Z,ha,Z,pw,b,pl,ns,Z,rp,hb,hl ns sp Z,hz,λv' H' r s=>k v' H' r s]] |none=>erw[bK ?_];erw[_,Z,k pw H rp (aH.refl _)]
end
end _c
namespace _c
open PySem PySem.Spec PyProof.Rows _L _r _l _C _P _W _R
open _O (topR cornO mnO betR atO ownF leadF ownL OkI OkIs)
section
def gc(m b d q p r s k t:V):List (Str×V):=[("machine",m),("begun_at",b),("done",d),("queue",q),("pace",p),("rate_now",r),("side",s),("mark",k),("stopping",t)]
structure bP where
 rs:List Int
 r:Int
 f:Int
 j:Int
 t:Int
abbrev bP.D(M:bP):ai:=jA M.rs M.r M.f M.j M.t
abbrev bP.Ok(M:bP):Prop:=pI M.rs M.r M.f M.j M.t
structure bp where
 pl:List Int
 dn:Nat
 ds:List ai
 os:List Itm
 pc:Rat
 aE:Int
 side:Str
 mark:Str
 aY:_R.gO
def za(K:aa)(H:Hp)(v:V):_R.gO->Prop |none=>v= .bF |some (sq,st,gn)=>∃a u,v= .ref a/\aV K H a [u,.int st,.int gn]/\bO K H u sq
structure cu(M:bP)(D:Nat)(S:bp):Prop where
 row:iI M.rs.length S.ds S.os
 rw:RowW S.ds S.os
 len:S.ds.length<=20
 dG:10<=S.aE
 dN:S.aE<=200
 dn:S.dn=0\/∃ns sp,S.os[0]? =some (some (ns,sp))/\S.dn<aP ns
 pl:S.pl.length=M.rs.length
 pd:Dd (D+10) S.pc
 pm:S.pc<=1600
 aY:uv D S.pc S.aY
 D1:64<=D
 D2:D<=1500
structure cB(K:aa)(C:Addr)(H:Hp)(a q:Addr)(M:bP)(S:bp):Prop where
 ob:∃dx mv bv cA tv,H a=some (.ins C dx (gc mv bv (.int S.dn) (.ref q) cA (.int S.aE) (.str S.side) (.str S.mark) tv))/\RD K H mv M.D/\RD K H bv (fF S.pl)/\bO K H cA S.pc/\za K H tv S.aY
 qu:∃ys,H q=some (.lst ys)/\aO K H ys S.ds
theorem bO.v{v:V}{q:Rat}(s:cm H H')(h:bO K H v q):bO K H' v q:=by let(p,rfl,hp):=h;erw[p,Z,aV.v s hp]
theorem za.v{v:V}{t:_R.gO}(s:cm H H')(h:za K H v t):za K H' v t:=by cases t with |none=>erw[h] |some q=>let(sq,st,gn):=q;let(a,u,rfl,h1,h2):=h;erw[a,u,Z,aV.v s h1,bO.v s h2]
theorem cB.go{q:Addr}(h:cB K C H a q M S)(hn:du S.ds=true)(s:cm H H')(ea:∀o,H a=some o->H' a=some o)(eq:∀o,H q=some o->H' q=some o):cB K C H' a q M S:=by let((dx,mv,bv,cA,tv,e,r1,r2,r3,r4),ys,mG,rq):=h;erw[#[dx,mv,bv,cA,tv,ea _ e,RD.v s _ (iE _ _ _ _ _) r1,RD.v s _ (gd _) r2,r3.v s,r4.v s],ys,eq _ mG,aO.v s _ hn rq]
theorem cB.same{q:Addr}(h:cB K C H a q M S)(hn:du S.ds=true)(s:aH H H'):cB K C H' a q M S:=h.go hn s.v (λo e=>s _ _ e) (λo e=>s _ _ e)
theorem cB.ne{q:Addr}(h:cB K C H a q M S):a≠q:=by let((dx,mv,bv,cA,tv,e,_),ys,mG,_):=h;erw[Ab e mG (by intro z;cases z)]
theorem cB.v{q:Addr}(h:cB K C H a q M S)(b:aX [a,q] H H'):cm H H':=by
 let((dx,mv,bv,cA,tv,e,_),ys,mG,_):=h;erw[b.v λx hx o eo=>?_];simp only[bJ,cD,cX]at hx;rcases hx with rfl|rfl
 ·rw[e]at eo;cases eo;trivial
 ·rw[mG]at eo;cases eo;trivial
inductive adJ(K:aa)(C:Addr)(G:bP->bp->Hp->VK->Prop)(vs:List V)(H:Hp)(Q:VK):Prop |mk (a:_)(q:_)(M:_)(D:_)(S:_)(h0:vs=[.ref a])(h1:cB K C H a q M S)(h2:cu M D S)(h3:M.Ok)(h4:G M S H Q)
def fu(K:aa)(C:Addr)(G:bP->bp->Hp->VK->Prop):Sp:=λvs H Q _=>adJ K C G vs H Q
theorem a0s:bN ["self"] ["self"] (bj Hm):=bZ bf
def Vr(K:aa):bP->bp->Hp->VK->Prop:=λ_ S H Q=>∀v,bO K H v S.pc->Q v H
theorem a3p(F:MA K C "square" "Runner.square" Hm)(TC:fX K C):cS P w K mg aB C "square" 1 (fu K C (Vr K)):=by
 erw[F.has a0s (λvs H Q E h=>?_) (λ_ _ _ _ _ _=>fj λ_=>rfl) (λf aQ A outer s H vs Q E hr h=>?_)]
 ·let(a,q,M,D,S,rfl,_):=h
  rfl
 ·let(a,q,M,D,S,rfl,R,ok,aM,k):=h
  let(dx,mv,bv,cA,tv,e,r1,r2,r3,r4):=R.ob;erw[_,(aI (aZ (dj TC.cl TC.tL (pv 0)))),_,Z,a,dx,_,_,Z,e,Z,k cA r3]
theorem a0u:bN ["self"] ["self"] (bj Hr):=bZ bf
theorem a3t(F:MA K C "rate" "Runner.rate" Hr)(TC:fX K C):cS P w K mg aB C "rate" 1 (fu K C λ_ S H Q=>Q (.int S.aE) H):=by
 erw[F.has a0u (λvs H Q E h=>?_) (λ_ _ _ _ _ _=>fj λ_=>rfl) (λf aQ A outer s H vs Q E hr h=>?_)]
 ·let(a,q,M,D,S,rfl,_):=h
  rfl
 ·let(a,q,M,D,S,rfl,R,ok,aM,k):=h
  let(dx,mv,bv,cA,tv,e,r1,r2,r3,r4):=R.ob;erw[_,(aI (aZ (dj TC.cl TC.y9 (pv 0)))),_,Z,a,dx,_,_,Z,e,Z,k]
theorem a0r:bN ["self"] ["self"] (bj Hl):=bZ bf
theorem a3n(F:MA K C "tool" "Runner.tool" Hl)(TC:fX K C):cS P w K mg aB C "tool" 1 (fu K C λ_ S H Q=>Q (.str S.side) H):=by
 erw[F.has a0r (λvs H Q E h=>?_) (λ_ _ _ _ _ _=>fj λ_=>rfl) (λf aQ A outer s H vs Q E hr h=>?_)]
 ·let(a,q,M,D,S,rfl,_):=h
  rfl
 ·let(a,q,M,D,S,rfl,R,ok,aM,k):=h
  let(dx,mv,bv,cA,tv,e,r1,r2,r3,r4):=R.ob;erw[_,(aI (aZ (dj TC.cl TC.JZ (pv 0)))),_,Z,a,dx,_,_,Z,e,Z,k]
theorem a0w:bN ["self"] ["self"] (bj Hu):=bZ bf
theorem a3x(F:MA K C "last_mark" "Runner.last_mark" Hu)(TC:fX K C):cS P w K mg aB C "last_mark" 1 (fu K C λ_ S H Q=>Q (.str S.mark) H):=by
 erw[F.has a0w (λvs H Q E h=>?_) (λ_ _ _ _ _ _=>fj λ_=>rfl) (λf aQ A outer s H vs Q E hr h=>?_)]
 ·let(a,q,M,D,S,rfl,_):=h
  rfl
 ·let(a,q,M,D,S,rfl,R,ok,aM,k):=h
  let(dx,mv,bv,cA,tv,e,r1,r2,r3,r4):=R.ob;erw[_,(aI (aZ (dj TC.cl TC.K0 (pv 0)))),_,Z,a,dx,_,_,Z,e,Z,k]
theorem a0q:bN ["self"] ["self"] (bj Hk):=bZ bf
theorem a3m(F:MA K C "waiting" "Runner.waiting" Hk)(TC:fX K C)(B:cn mg):cS P w K mg aB C "waiting" 1 (fu K C λ_ S H Q=>∀l ys H',H l=none->H' l=some (.lst ys)->aO K H' ys S.ds->aH H H'->Q (.ref l) H'):=by
 erw[F.has a0q (λvs H Q E h=>?_) (λ_ _ _ _ _ _=>fj λ_=>rfl) (λf aQ A outer s H vs Q E hr h=>?_)]
 ·let(a,q,M,D,S,rfl,_):=h
  rfl
 ·let(a,q,M,D,S,rfl,R,ok,aM,k):=h
  let(dx,mv,bv,cA,tv,e,r1,r2,r3,r4):=R.ob;let(ys,eq,rq):=R.qu;erw[_,(aI (aZ (j8 (x:="list") (Ki K Z) Z (B.at "list") lT (au (dj TC.cl TC.ja (pv 0)) az)))),_,Z,a,dx,_,_,Z,e,Z,q,ys,Z,.inl (aK.of eq),λl H1 n1=>?_];erw[k l ys H1 n1.no n1.at' (aO.mono n1.same _ rq) n1.same]
theorem a0z:bN ["self"] ["self"] (bj Hz):=bZ bf
theorem a3C(F:MA K C "is_held" "Runner.is_held" Hz)(TC:fX K C):cS P w K mg aB C "is_held" 1 (fu K C λ_ S H Q=>Q (.bl S.aY.isSome) H):=by
 erw[F.has a0z (λvs H Q E h=>?_) (λ_ _ _ _ _ _=>fj λ_=>rfl) (λf aQ A outer s H vs Q E hr h=>?_)]
 ·let(a,q,M,D,S,rfl,_):=h
  rfl
 ·let(a,q,M,D,S,rfl,R,ok,aM,k):=h
  let(dx,mv,bv,cA,tv,e,r1,r2,r3,r4):=R.ob;erw[_,(aI (aZ (fS zZ (dj TC.cl TC.y8 (pv 0)) j7 (bM _)))),_,Z,a,dx,_,_,Z,e,Z,?_];cases hs:S.aY with |none=>rw[hs]at r4 k;cases(show tv= .bF from r4);erw[Z,k] |some z=>rw[hs]at r4 k;let(sq,st,gn):=z;let(b,u,rfl,_):=r4;erw[Z,k]
theorem CS(q:Rat):PyData.eqv (dk q) (dk 0)=decide (q=0):=by
 by_cases h:q=0
 ·rw[cU h];erw[eqR h]
 ·rw[fo h]
  cases e:PyData.eqv (dk q) (dk 0)with |false=>rfl |true=>
   exfalso;apply h;have e':(PyData.eqv (.int q.num) (.int (0:Rat).num)&&(PyData.eqv (.int (q.den:Int)) (.int ((0:Rat).den:Int))&&true))=true:=e;rw[NS,fD]at e';let(a,b):=e';have h1:q.num=(0:Rat).num:=by simpa[PyData.eqv]using a
   have h2:(q.den:Int)=((0:Rat).den:Int):=by simpa[PyData.eqv]using b
   erw[Rat.ext h1 aw]
theorem a0t:bN ["self"] ["self"] (bj Hq):=bZ bf
theorem a3s(F:MA K C "stands" "Runner.stands" Hq)(TC:fX K C)(gN:GT K mg "NOUGHT" [.int 0,.int 1]):cS P w K mg aB C "stands" 1 (fu K C λ_ S H Q=>Q (.bl (decide (S.pc=0))) H):=by
 let(aN,mC,oy):=gN;erw[F.has a0t (λvs H Q E h=>?_) (λ_ _ _ _ _ _=>fj λ_=>rfl) (λf aQ A outer s H vs Q E hr h=>?_)]
 ·let(a,q,M,D,S,rfl,_):=h
  rfl
 ·let(a,q,M,D,S,rfl,R,ok,aM,k):=h
  let(dx,mv,bv,cA,tv,e,r1,r2,r3,r4):=R.ob;erw[_,(aI (aZ (fS (dF K Z hr.units) (dj TC.cl TC.tL (pv 0)) (fG (x:="NOUGHT") rfl mC) (bM _)))),_,Z,a,dx,_,_,Z,e,Z,.inr #[_,_,r3.rd,(qD (oy H)).rd,Z,Z,?_]];rw[CS];erw[k]
theorem a0y:bN ["self"] ["self"] (bj Hy):=bZ bf
theorem a3B(F:MA K C "is_halted" "Runner.is_halted" Hy)(TC:fX K C)(wc:cS P w K mg aB C "is_held" 1 (fu K C λ_ S H Q=>Q (.bl S.aY.isSome) H))(wa:cS P w K mg aB C "stands" 1 (fu K C λ_ S H Q=>Q (.bl (decide (S.pc=0))) H)):cS P w K mg aB C "is_halted" 2 (fu K C λ_ S H Q=>Q (.bl (S.aY.isSome&&decide (S.pc=0))) H):=by
 erw[F.has a0y (λvs H Q E h=>?_) (λ_ _ _ _ _ _=>fj λ_=>rfl) (λf aQ A outer s H vs Q E hr h=>?_)]
 ·let(a,q,M,D,S,rfl,_):=h
  rfl
 ·let(a,q,M,D,S,rfl,R,ok,aM,k):=h
  let(dx,mv,bv,cA,tv,e,r1,r2,r3,r4):=R.ob;erw[_,(aI (aZ (j9 (gu wc TC.cl (hr.mono aD) (pv 0)) (j6 (gu wa TC.cl (hr.mono aD) (pv 0)))))),_,Z,a,dx,_,Z,e,Z,a,q,M,D,S,Z,R,ok,aM,_,Z,?_];cases hs:S.aY.isSome with |false=>rw[hs]at k;erw[bK k] |true=>rw[hs]at k;erw[cx #[_,Z,a,dx,_,Z,e,Z,a,q,M,D,S,Z,R,ok,aM,?_]];erw[k]
end
end _c
namespace _c
open PySem PySem.Spec PyProof.Rows _L _r _l _W
open _O (Itm)
section
structure nk(n:Nat)(d:ai)(o:Itm):Prop where
 it:itR d o
 ln:∀ns sp,o=some (ns,sp)->fM n 100 ns/\1<=sp/\sp<=20
 ot:o=none->rO d
theorem a4W(h:Ae z=true):isNm (.str z)=true:=h
theorem acR:∀{ns:List Int},(∃z∈ns,z≠0)->(ns.map PyData.int).any A6=true:=λ{ns} #[z,hz,h]=>List.any_eq_true.mpr #[.int z,kh.mpr #[z,hz,Z],by show(z !=0)=true;simpa using h]
theorem acX{ns:List Int}(h:∀z∈ns,(z.natAbs:Int)<=100):(ns.map PyData.int).all (ir (-100) 100)=true:=by rw[jq];intro d hd;let(z,hz,rfl):=kh.mp hd;have:=h z hz;show(decide (-100<=z)&&decide (z<=100))=true;rw[cU fH,cU fH];rfl
theorem nk.is(h:nk n d o):vF n d=true/\eO 8 d/\Gw d=true:=by cases o with
 |some q=>
  let(ns,sp):=q;have ed:=lO h.it;subst ed;let(fA,s1,s2):=h.ln ns sp rfl;erw[?_,?_,Z]
  ·show(jb "line" (.str "line")&&(vi n (.tuple (ns.map PyData.int))&&ir 1 20 (.int sp)))=true
   have e1:jb "line" (.str "line")=true:=by decide+kernel
   have e2:vi n (.tuple (ns.map PyData.int))=true:=by show(((ns.map PyData.int).length==n&&(ns.map PyData.int).all (ir (-100) 100))&&(ns.map PyData.int).any A6)=true;rw[acX fA.bd,acR fA.nz,cJ,fA.len,Nj];rfl
   have e3:ir 1 20 (.int sp)=true:=by show(decide (1<=sp)&&decide (sp<=20))=true;rw[cU s1,cU s2];rfl
   rw[e1,e2,e3];rfl
  ·refine(hJ.tup (n:=1) (.cons #[bf,gK _] (.cons (hJ.tup (n:=0) λd hd=>?_) (.cons (.int _) .nil)))).le aD
   let(a,_,rfl):=kh.mp hd;erw[.int _] |none=>
  rcases h.ot rfl with⟨z,rfl,z1,z2⟩|⟨w,s,rfl,hw,tH,on⟩
  ·erw[?_,(hJ.tup (n:=0) (.cons #[bf,gK _] (.cons (.int _) .nil))).le aD,Z]
   show qI (.str "wait") (.int z)=true;unfold qI;rw[bE bf];show(decide (1<=z)&&decide (z<=1000))=true;rw[cU z1,cU z2];rfl
  ·have a67:sP (.str s)=true:=by
    erw[cU ?_];rcases on with⟨_,rfl|rfl⟩|⟨_,hn⟩
    ·decide+kernel
    ·decide+kernel
    ·unfold Ae at hn
     simp only[fD,Fq]at hn
     lia
   erw[?_,(hJ.tup (n:=0) (.cons ?_ (.cons tH .nil))).le aD,?_]
   ·rcases on with⟨rfl,hs⟩|⟨rfl,hn⟩
    ·show qI (.str "tool") (.str s)=true
     unfold qI;rw[bI bf,bE bf];rcases hs with rfl|rfl<;>decide+kernel
    ·show qI (.str "mark") (.str s)=true
     unfold qI;rw[bI bf,bI bf];rw[a4W hn];decide+kernel
   ·rcases hw with rfl|rfl<;>erw[bf,gK _]
   ·show([.str w,.str s]:List ai).all sP=true
    rw[BK,BK,List.all_nil,a67];rcases hw with rfl|rfl<;>decide+kernel
end
end _c
namespace _c
open PySem PySem.Spec PyProof.Rows _L _r _l _C _P _W _R
open _O (topR cornO mnO betR atO ownF leadF ownL OkI OkIs)
section
def gQ(ns:List Int)(k:Int):List Int:=ns.map λz=>fU (k*z) (aP ns)
def eR(S:bp):List Int:=if S.dn=0 then S.pl else match S.os[0]? with |some (some (ns,_))=>fg S.pl (gQ ns S.dn) |_=>S.pl
def cL(S:bp):List Int:=S.os.foldl gz S.pl
theorem wC{n:Nat}{pl:List Int}{o:Itm}(h:pl.length=n)(ho:∀ns sp,o=some (ns,sp)->ns.length=n):(gz pl o).length=n:=by cases o with |none=>erw[h] |some q=>let(ns,sp):=q;show(fg pl ns).length=n;rw[rK (by rw[ho ns sp Z,h])];erw[h]
theorem yF{n:Nat}:∀(os:List Itm)(pl:List Int),pl.length=n->(∀o∈os,∀ns sp,o=some (ns,sp)->ns.length=n)->(os.foldl gz pl).length=n |[],pl,h,_=>h |o::os,pl,h,ho=>yF os (gz pl o) (wC h (ho o (.head _))) λx hx=>ho x (.tail _ hx)
theorem cu.tH{D:Nat}(h:cu M D S):∀o∈S.os,∀ns sp,o=some (ns,sp)->ns.length=M.rs.length:=λo ho ns sp e=>by let(i,hi):=sx.mp ho;rw[e]at hi;exact(h.row.ok i ns sp hi).1.len
theorem cu.first{D:Nat}(h:cu M D S)(hn:S.dn≠0):∃ns sp,S.os[0]? =some (some (ns,sp))/\S.dn<aP ns:=by
 rcases h.dn with e|e
 ·exact(hn e).elim
 ·erw[e]
theorem a0v:bN ["self"] ["self"] (bj Hs):=bZ bf
theorem a3u(F:MA K C "place" "Runner.place" Hs)(TC:fX K C)(KZ:aJ P w K mg aB "moved" 1 (Ct K))(DP:aJ P w K mg aB "stand_at" 2 (Ck K)):cS P w K mg aB C "place" 3 (fu K C λ_ S H Q=>∀v H',RD K H' v (fF (eR S))->aH H H'->Q v H'):=by
 erw[F.has a0v (λvs H Q E h=>?_) (λ_ _ _ _ _ _=>fj λ_=>rfl) (λf aQ A outer s H vs Q E hr h=>?_)]
 ·let(a,q,M,D,S,rfl,_):=h
  rfl
 ·let(a,q,M,D,S,rfl,R,ok,aM,k):=h
  let(dx,mv,bv,cA,tv,e,r1,r2,r3,r4):=R.ob;let(ys,eq,rq):=R.qu;erw[_,(aG (bQ (cy (dF K Z hr.units) (dj TC.cl TC.oQ (pv 0)) aF (bM _)) (aI (aZ (dj TC.cl TC.vq (pv 0)))) bV) (aI (aZ (pf KZ hr (au (dj TC.cl TC.vq (pv 0)) (au (pf DP hr (au (px K (dj TC.cl TC.ja (pv 0)) aF) (au (dj TC.cl TC.oQ (pv 0)) az))) az)))))),_,Z,a,dx,_,_,Z,e,Z,.inl #[_,_,Z,Z,_,Z,?_]];by_cases h0:S.dn=0
  ·rw[cU aw]
   have ep:eR S=S.pl:=by unfold eR;rw[bE h0]
   rw[ep]at k;erw[cx #[_,Z,a,dx,_,_,Z,e,Z,k bv H r2 (aH.refl _)]]
  ·rw[fo aw]
   erw[bK ?_];let(ns,sp,eo,hd):=ok.first h0;let(fA,hZ,iY):=ok.row.ok 0 ns sp eo;have ep:eR S=fg S.pl (gQ ns S.dn):=by unfold eR;rw[bI h0,eo]
   rw[ep]at k;have ll:=ok.row.len;have qM:0<S.os.length:=(eQ.mp eo).1;obtain⟨d,ed⟩:∃d,S.ds[0]? =some d:=#[_,cC (show 0<S.ds.length by lia)];let(y,ey,ry):=rq.get 0 ed;have it:=ok.row.it 0 d _ ed eo;have mH:=lO it;subst mH;have Ug:=An fA;have lr:=aM.len;erw[_,Z,a,dx,_,_,Z,e,Z,?_];erw[_,Z,a,dx,_,_,Z,e,Z,.inl #[q,_,0,y,Z,Z,aK.of eq,dQ (hW 0) ey,?_]];erw[_,Z,a,dx,_,_,Z,e,Z,y,ns,sp,_,Z,ry,#[Z,λz hz=>by have:=fA.bd z hz;lia,fA.nz],by rw[fA.len];lia,aw,λu H1 ru s1=>?_];let(b,xs,rfl,hb,hx):=ru.fE;rw[hx.jC]at hb;erw[bv,b,S.pl,_,Z,RD.mono s1 _ r2,hb,by rw[cJ,fA.len,ok.pl],by rw[ok.pl];lia,λv H2 rv s2=>k v H2 rv (s1.trans s2)]
theorem Qi:bN ["self","here","item"] ["self"] (bj Hv):=bZ bf
theorem a3y(F:MA K C "leads_to" "Runner.leads_to" Hv)(TC:fX K C)(vL:aJ P w K mg aB "place_behind" 2 (xy K)):cS P w K mg aB C "leads_to" 3 (fu K C λ_ S H Q=>∀v H',RD K H' v (fF (cL S))->aH H H'->Q v H'):=by
 erw[F.has Qi (λvs H Q E h=>?_) (λ_ _ _ _ _ _=>fj λ_=>rfl) (λf aQ A outer s H vs Q E hr h=>?_)]
 ·let(a,q,M,D,S,rfl,_):=h
  rfl
 ·let(a,q,M,D,S,rfl,R,ok,aM,k):=h
  let(dx,mv,bv,cA,tv,e,r1,r2,r3,r4):=R.ob;let(ys,eq,rq):=R.qu;have nd:=Qi.nd;have ll:=ok.row.len;have ly:=rq.length;have lr:=aM.len;erw[_,(aG (pS 1 nd (dj TC.cl TC.vq (pv 0))) (aG (m9 iJ Z (zX K Z (dj TC.cl TC.ja (pv 0))) (bR 2 nd) (aI (pS 1 nd (pf vL hr (au (pv 1) (au (pv 2) az)))))) (aI (aZ (pv 1))))),_,Z,a,dx,_,_,Z,e,Z,_,Z,a,dx,_,_,Z,e,Z,q,Z,#[_,aK.of eq],?_];erw[M0 (K:=K) (a:=q) (xs:=ys) (λi O H1=>aH H H1/\∃hv v2,RD K H1 hv (fF ((S.os.take i).foldl gz S.pl))/\O=cZ9 (.ref a) (cZ9 hv (v2::[]))) #[aH.refl _,bv,none,r2,Z] (λi O H1 _ h=>aK.of (h.1 _ _ eq)) ?_ ?_]
  ·rintro i x O H1 hx ⟨s1,hv,v2,rh,rfl⟩
   let(d,ed,rd):=rq.get' i hx;let(o,eo,it):=ok.row.get ed;have lp:((S.os.take i).foldl gz S.pl).length=M.rs.length:=yF _ _ ok.pl λo ho=>ok.tH o (Fz ho);erw[_,Z,_,Z,hv,x,_,d,o,Z,rh,RD.mono s1 _ rd,it,λns sp e'=>by rw[lp];erw[ok.tH o (hO eo) ns sp e'],aw,λv H2 rv s2=>?_];erw[s1.trans s2,v,_,?_,Z];rw[sj,eo,Y7];erw[rv]
  ·rintro O H1 ⟨s1,hv,v2,rh,rfl⟩
   rw[ly,ll,wV]at rh;erw[_,Z,k hv H1 rh s1]
structure Mv(a q:Addr)(H:Hp)(q':Addr)(H':Hp):Prop where
 but:aX [a,q] H H'
 nq:q'=q\/H q'=none
theorem a0x:bN ["self","machine","place"] ["self","machine","place"] (bj Hw):=bZ bf
def lY(pl:List Int):bp:=#[pl,0,[],[],0,100,"up","",none]
inductive ae6(K:aa)(C:Addr)(vs:List V)(H:Hp)(Q:VK):Prop |mk (a:_)(dx:_)(mv:_)(vf:_)(M:_)(pl:_)(h0:vs=[.ref a,mv,vf])(h1:H a=some (.ins C dx []))(h2:RD K H mv (bP.D M))(h3:RD K H vf (fF pl))(h4:∀q H',cB K C H' a q M (lY pl)->H q=none->aX [a] H H'->Q .bF H')
def Gh(K:aa)(C:Addr):Sp:=λvs H Q _=>ae6 K C vs H Q
theorem a3z(F:CA K mg C "Runner" "Runner.__init__" Hw)(TC:fX K C)(gN:GT K mg "NOUGHT" [.int 0,.int 1])(a8C:GV mg "FIRST_RATE" (.int 100)):Bo P w K mg aB C "Runner" 1 (Gh K C):=by
 let(aN,mC,oy):=gN;erw[F.has a0x (λvs H Q E h=>?_) (λ_ _ _ _ _ _=>pG λ_ _ _=>rfl) (λf aQ A outer s H vs Q E hr h=>?_)]
 ·let(a,dx,mv,vf,M,pl,rfl,_):=h
  rfl
 ·let(a,dx,mv,vf,M,pl,rfl,e,rm,rp,k):=h
  erw[_,(aG (ij TC.cl TC.oP (pv 0) (pv 1)) (aG (ij TC.cl TC.vq (pv 0) (pv 2)) (aG (ij TC.cl TC.oQ (pv 0) aF) (aG (ij TC.cl TC.ja (pv 0) (dC az)) (aG (ij TC.cl TC.tL (pv 0) (fG (x:="NOUGHT") rfl mC)) (aG (ij TC.cl TC.y9 (pv 0) (fG (x:="FIRST_RATE") rfl a8C)) (aG (ij TC.cl TC.JZ (pv 0) bh) (aG (ij TC.cl TC.K0 (pv 0) bh) (aI (ij TC.cl TC.y8 (pv 0) j7)))))))))),?_];erw[_,Z,_,Z,a,dx,_,Z,e,aD,?_];erw[_,Z,_,Z,a,dx,_,Z,bo,by show 1<1000;decide,?_];erw[_,Z,a,dx,_,Z,bo,by show 2<1000;decide,?_];erw[bU Z,λq H1 n1=>?_];have aq:a≠q:=λz=>by have:=n1.no;rw[<-z,bo]at this;cases this
  have e1:=n1.same _ _ (bo (a:=a));erw[_,Z,a,dx,_,Z,e1,by show 3<1000;decide,?_];erw[_,Z,a,dx,_,Z,bo,by show 4<1000;decide,?_];erw[_,Z,a,dx,_,Z,bo,by show 5<1000;decide,?_];erw[_,Z,a,dx,_,Z,bo,by show 6<1000;decide,?_];erw[_,Z,a,dx,_,Z,bo,by show 7<1000;decide,?_];erw[_,Z,a,dx,_,Z,bo,by show 8<1000;decide,?_];have key:∀X:Hp,(∀b,b≠a->X b=H1 b)->Q .bF (_L.upd X a (.ins C dx (gc mv vf (.int 0) (.ref q) (.ref aN) (.int 100) (.str "up") (.str "") .bF))):=by
   intro X hX;have bt:aX [a] H (_L.upd X a (.ins C dx (gc mv vf (.int 0) (.ref q) (.ref aN) (.int 100) (.str "up") (.str "") .bF))):=λb o eb hb=>by have ha:b≠a:=λz=>hb (by rw[z];erw[.head _]);rw[aR ha,hX b ha];erw[n1.same _ _ (by rw[aR ha,aR ha,aR ha];erw[eb])]
   have sv:=bt.v λx hx o eo=>by rw[bW]at hx;rw[hx,e]at eo;cases eo;trivial
   erw[k q _ #[#[dx,mv,vf,.ref aN,.bF,bo,RD.v sv _ (iE _ _ _ _ _) rm,RD.v sv _ (gd _) rp,qD (oy _),Z],[],?_,dc] ?_ bt]
   ·rw[aR aq.symm,hX q aq.symm];erw[n1.at']
   ·have:=n1.no
    rw[aR aq.symm,aR aq.symm,aR aq.symm]at this;erw[this]
  erw[key _ (λb hb=>by rw[aR hb,aR hb,aR hb,aR hb,aR hb])]
theorem RJ{pl:List Int}(hp:pl.length=M.rs.length):cu M 64 (lY pl):=#[.nil,λi d e=>by simp[lY]at e,by simp[lY],(show(10:Int)<=100 by decide),(show(100:Int)<=200 by decide),.inl rfl,hp,#[(show(0:Rat)<=0 by decide),(show(0:Rat).den<2^74 by decide+kernel)],(show(0:Rat)<=1600 by decide+kernel),trivial,aD,aD]
theorem SK{pl:List Int}(h:fh rs pl):Kw rs (fF pl)=true:=by show((pl.map PyData.int).length==rs.length&&(((pl.map PyData.int).zip rs).map λp=>ir 0 p.2 p.1).all id)=true;rw[cJ,h.len,Nj,lF,jq];intro b hb;let((d,r),hm,rfl):=kh.mp hb;let(i,hi):=sx.mp hm;let(e1,e2):=(zm (z:=(d,r))).mp hi;rw[cV]at e1;cases e:pl[i]? with |none=>rw[e]at e1;cases e1 |some x=>rw[e]at e1;cases e1;let(a1,a2):=h.at' i x r e e2;show(decide (0<=x)&&decide (x<=r))=true;rw[cU a1,cU a2];rfl
def mF(S:bp)(d:ai)(o:Itm):bp:={S with ds:=S.ds++[d],os:=S.os++[o]}
theorem cu.AV{D:Nat}(h:cu M D S)(it:nk M.rs.length d o)(hl:S.ds.length<20):cu M D (mF S d o):=by
 have ll:=h.row.len;erw[h.row.snoc it.it it.ln,RowW.snoc h.rw ll it.ot,by show(S.ds++[d]).length<=20;rw[fN];show _+1<=20;lia,h.dG,h.dN,?_,h.pl,h.pd,h.pm,h.aY,h.D1,h.D2];rcases h.dn with e|⟨ns,sp,e,e2⟩
 ·erw[.inl e]
 ·erw[.inr #[ns,sp,?_,e2]]
  show(S.os++[o])[0]? =_;rw[zo (eQ.mp e).1];erw[e]
theorem Cz:bN ["self","item"] ["self","item"] (bj CD):=bZ bf
inductive aea(K:aa)(C:Addr)(vs:List V)(H:Hp)(Q:VK):Prop |mk (a:_)(q:_)(M:_)(D:_)(S:_)(v:_)(d:_)(o:_)(h0:vs=[.ref a,v])(h1:cB K C H a q M S)(h2:cu M D S)(h3:M.Ok)(h4:RD K H v d)(h5:nk M.rs.length d o)(h6:fh M.rs (gz (cL S) o))(h7:S.ds.length<20)(h8:∀H',cB K C H' a q M (mF S d o)->aX [a,q] H H'->Q (.int (S.ds.length+1:Nat)) H')
def P7(K:aa)(C:Addr):Sp:=λvs H Q _=>aea K C vs H Q
theorem SS(F:MA K C "feed" "Runner.feed" CD)(TC:fX K C)(B:cn mg)(Ly:GV mg "MOST_WAITING" (.int 20))(Lj:aJ P w K mg aB "is_item" 4 (Cu K))(Lh:aJ P w K mg aB "is_place" 3 (Cv K))(vL:aJ P w K mg aB "place_behind" 2 (xy K))(AI:cS P w K mg aB C "leads_to" 3 (fu K C λ_ S H Q=>∀v H',RD K H' v (fF (cL S))->aH H H'->Q v H')):cS P w K mg aB C "feed" 5 (P7 K C):=by
 erw[F.has Cz (λvs H Q E h=>?_) (λ_ _ _ _ _ _=>dS λ_ _=>rfl) (λf aQ A outer s H vs Q E hr h=>?_)]
 ·let(a,q,M,D,S,v,d,o,rfl,_):=h
  rfl
 ·let(a,q,M,D,S,v,d,o,rfl,R,ok,aM,rd,it,kO,hl,k):=h
  let(dx,mv,bv,cA,tv,e,r1,r2,r3,r4):=R.ob;let(ys,eq,rq):=R.qu;have nd:=Cz.nd;have lr:=aM.len;have ly:=rq.length;let(i1,i2,i3):=it.is;erw[_,(aG (bQ (dX (cP (pf Lj hr (au (dj TC.cl TC.oP (pv 0)) (au (pv 1) az))))) (aI nK) bV) (aG (bQ (dX (cP (pf Lh hr (au (dj TC.cl TC.oP (pv 0)) (au (pf vL hr (au (gu AI TC.cl (hr.mono aD) (pv 0)) (au (pv 1) az))) az))))) (aI nK) bV) (aG (bQ (cy D7 (eK K B (au (dj TC.cl TC.ja (pv 0)) az)) (fG (x:="MOST_WAITING") rfl Ly) (bM _)) (aI nK) bV) (aG (ie (jR K Z (dj TC.cl TC.ja (pv 0)) (au (pv 1) az))) (aI (aZ (eK K B (au (dj TC.cl TC.ja (pv 0)) az)))))))),?_];erw[_,Z,a,dx,_,_,Z,e,Z,_,Z,mv,v,M.rs,_,d,Z,r1,rd,aw,i2,i3,λH1 s1=>#[_,Z,?_]];rw[i1];erw[bK ?_];have e1:=s1 _ _ e;have R1:=R.same ok.row.no s1;erw[_,Z,a,dx,_,_,Z,e1,Z,?_];erw[_,Z,a,dx,_,Z,e1,Z,a,q,M,D,S,Z,R1,ok,aM,λg H2 rg s2=>?_];have kl:=s1.trans s2;have gl:(cL S).length=M.rs.length:=yF _ _ ok.pl ok.tH;erw[_,Z,g,v,cL S,d,o,Z,rg,RD.mono kl _ rd,it.it,λns sp e'=>by rw[gl];exact(it.ln ns sp e').1.len,aw,λu H3 ru s3=>?_];have dM:=kl.trans s3;erw[mv,u,M.rs,_,_,Z,RD.mono dM _ r1,ru,aw,λH4 s4=>#[_,Z,?_]];rw[SK kO];erw[bK ?_];have fY:=dM.trans s4;have e4:=fY _ _ e;have eq4:=fY _ _ eq;erw[_,Z,a,dx,_,_,Z,e4,Z,q,_,Z,.inl (aK.of eq4),_,_,Z,Z,_,Z,?_];rw[show decide ((ys.length:Int)>=20)=false from fo aw];erw[bK ?_];have jY:sizeLine=16777216:=by decide
  erw[_,Z,a,dx,_,_,Z,e4,Z,.inl #[Z,_,aK.of eq4],_,Z,q,ys,_,Z,Z,eq4,aw,?_];have aq:=R.ne;have tu:cm H4 (_L.upd H4 q (.lst (ys++[v]))):=.upd eq4 trivial;have e5:(_L.upd H4 q (.lst (ys++[v]))) a=some (.ins C dx (gc mv bv (.int S.dn) (.ref q) cA (.int S.aE) (.str S.side) (.str S.mark) tv)):=by rw[aR aq];erw[e4]
  erw[_,Z,a,dx,_,_,Z,e5,Z,q,_,Z,.inl (aK.of bo),?_];have sv:cm H (_L.upd H4 q (.lst (ys++[v]))):=fY.v.trans tu;have el:((ys++[v]).length:Int)=((S.ds.length+1:Nat):Int):=by rw[fN,ly];rfl
  rw[el];erw[k _ #[#[dx,mv,bv,cA,tv,e5,RD.v sv _ (iE _ _ _ _ _) r1,RD.v sv _ (gd _) r2,r3.v sv,r4.v sv],_,bo,?_] λb o' eb hb=>?_]
  ·exact(aO.v sv _ ok.row.no rq).append (cj (RD.v sv _ it.it.no rd) dc)
  ·have lP:b≠q:=λz=>hb (by rw[z];simp)
   rw[aR lP];erw[fY _ _ eb]
end
section
def je(S:bp):bp:=match S.os with |o::os=>{S with pl:=gz S.pl o,ds:=S.ds.tail,os:=os,dn:=0} |[]=>S
theorem iI.tail{n:Nat}{ds:List ai}{os:List Itm}(h:iI n (d::ds) (o::os)):iI n ds os:=#[by have:=h.len;simpa using this,λi d' o' e1 e2=>h.it (i+1) d' o' (by simpa using e1) (by simpa using e2),λi ns sp e=>h.ok (i+1) ns sp (by simpa using e)]
theorem RowW.tail{ds:List ai}{os:List Itm}(h:RowW (d::ds) (o::os)):RowW ds os:=λi d' e1 e2=>h (i+1) d' (by simpa using e1) (by simpa using e2)
structure lR(M:bP)(D:Nat)(S:bp):Prop where
 row:iI M.rs.length S.ds S.os
 rw:RowW S.ds S.os
 len:S.ds.length<=20
 dG:10<=S.aE
 dN:S.aE<=200
 pl:S.pl.length=M.rs.length
 pd:Dd (D+10) S.pc
 pm:S.pc<=1600
 aY:uv D S.pc S.aY
 D1:64<=D
 D2:D<=1500
theorem cu.raw{D:Nat}(h:cu M D S):lR M D S:=#[h.row,h.rw,h.len,h.dG,h.dN,h.pl,h.pd,h.pm,h.aY,h.D1,h.D2]
theorem lR.ok{M:bP}{D:Nat}{S:bp}(h:lR M D S)(hd:S.dn=0\/∃ns sp,S.os[0]? =some (some (ns,sp))/\S.dn<aP ns):cu M D S:=#[h.row,h.rw,h.len,h.dG,h.dN,hd,h.pl,h.pd,h.pm,h.aY,h.D1,h.D2]
theorem lR.end{D:Nat}(h:lR M D S)(hn:S.os≠[]):cu M D (je S):=by let(pl,dn,ds,os,pc,aE,side,mark,aY):=S;cases os with |nil=>exact(hn Z).elim |cons o os=>have ll:=h.row.len;cases ds with |nil=>simp at ll |cons d ds=>
 erw[h.row.tail,h.rw.tail,?_,h.dG,h.dN,.inl Z,?_,h.pd,h.pm,h.aY,h.D1,h.D2]
 ·have:=h.len
  simp only[lE]at this;show ds.length<=20
  lia
 ·erw[wC h.pl λns sp e=>(h.row.ok 0 ns sp (by rw[<-e];rfl)).1.len]
theorem abI(xs:List V):nZ xs (some 1) none=xs.drop 1:=MH xs
theorem Qm:bN ["self"] ["self"] (bj HM):=bZ bf
inductive aed(K:aa)(C:Addr)(vs:List V)(H:Hp)(Q:VK):Prop |mk (a:_)(q:_)(M:_)(D:_)(S:_)(h0:vs=[.ref a])(h1:cB K C H a q M S)(h2:lR M D S)(h3:M.Ok)(h4:S.os≠[])(h5:∀q' H',cB K C H' a q' M (je S)->H q'=none->aX [a] H H'->Q .bF H')
def Gj(K:aa)(C:Addr):Sp:=λvs H Q _=>aed K C vs H Q
theorem a3I(F:MA K C "end_first" "Runner.end_first" HM)(TC:fX K C)(vL:aJ P w K mg aB "place_behind" 2 (xy K)):cS P w K mg aB C "end_first" 3 (Gj K C):=by
 erw[F.has Qm (λvs H Q E h=>?_) (λ_ _ _ _ _ _=>fj λ_=>rfl) (λf aQ A outer s H vs Q E hr h=>?_)]
 ·let(a,q,M,D,S,rfl,_):=h
  rfl
 ·let(a,q,M,D,S,rfl,R,ok,aM,hn,k):=h
  let(dx,mv,bv,cA,tv,e,r1,r2,r3,r4):=R.ob;let(ys,eq,rq):=R.qu;have aq:=R.ne;have nd:=Qm.nd;have lr:=aM.len;have ll:=ok.row.len;erw[_,(aG (ij TC.cl TC.vq (pv 0) (pf vL hr (au (dj TC.cl TC.vq (pv 0)) (au (px K (dj TC.cl TC.ja (pv 0)) aF) az)))) (aG (ij TC.cl TC.ja (pv 0) (Jz (Gs K rfl) (dj TC.cl TC.ja (pv 0)) (Ju aF) Jv)) (aI (ij TC.cl TC.oQ (pv 0) aF)))),?_];let(pl,dn,ds,os,pc,aE,side,mark,aY):=S;cases os with |nil=>exact(hn Z).elim |cons o os=>cases ds with |nil=>simp at ll |cons d ds=>
   let(y,yr,rfl,ry,rr):=rq.cons_inv;have it:itR d o:=ok.row.it 0 d o Z rfl;have lp:pl.length=M.rs.length:=ok.pl;erw[_,Z,a,dx,_,_,Z,e,Z,?_];erw[_,Z,a,dx,_,_,Z,e,Z,.inl #[q,_,0,y,Z,Z,aK.of eq,dQ (hW 0) Z,?_]];erw[bv,y,pl,d,o,Z,r2,ry,it,λns sp e'=>by rw[lp];exact(ok.row.ok 0 ns sp (by rw[<-e'];rfl)).1.len,aw,λu H1 ru s1=>?_];have e1:=s1 _ _ e;erw[_,Z,a,dx,_,Z,e1,by show 9<1000;decide,?_];have eq1:(_L.upd H1 a (.ins C dx (gc mv u (.int dn) (.ref q) cA (.int aE) (.str side) (.str mark) tv))) q=some (.lst (y::yr)):=by rw[aR aq.symm];erw[s1 _ _ eq]
   erw[_,Z,a,dx,_,_,Z,bo,Z,_,Z,q,_,Z,.inl #[aK.of eq1,λq' H2 n2=>?_]];have e2:=n2.same _ _ (bo (a:=a));erw[_,Z,a,dx,_,Z,e2,by show 9<1000;decide,?_];erw[_,Z,a,dx,_,Z,bo,by show 9<1000;decide,?_];have uu:a≠q':=λz=>by have:=n2.no;rw[<-z,bo]at this;cases this
   have key:∀X:Hp,(∀b,b≠a->X b=H2 b)->Q .bF (_L.upd X a (.ins C dx (gc mv u (.int 0) (.ref q') cA (.int aE) (.str side) (.str mark) tv))):=by
    intro X hX;have bt:aX [a] H (_L.upd X a (.ins C dx (gc mv u (.int 0) (.ref q') cA (.int aE) (.str side) (.str mark) tv))):=λb o' eb hb=>by have ha:b≠a:=λz=>hb (by rw[z];erw[.head _]);rw[aR ha,hX b ha];erw[n2.same _ _ (by rw[aR ha];erw[s1 _ _ eb])]
    have sv:=bt.v λx hx o' eo=>by rw[bW]at hx;rw[hx,e]at eo;cases eo;trivial
    have xj:cm H1 (_L.upd X a (.ins C dx (gc mv u (.int 0) (.ref q') cA (.int aE) (.str side) (.str mark) tv))):=λb o' nb eb=>by
     have ha:b≠a:=λz=>by rw[z,e1]at eb;cases eb;erw[nb trivial]
     rw[aR ha,hX b ha];erw[n2.same _ _ (by rw[aR ha];erw[eb])]
    have kS:=n2.at';rw[abI]at kS;erw[k q' _ #[#[dx,mv,u,cA,tv,bo,RD.v sv _ (iE _ _ _ _ _) r1,RD.v xj _ (gd _) ru,r3.v sv,r4.v sv],yr,?_,?_] ?_ bt]
    ·rw[aR uu.symm,hX q' uu.symm];erw[kS]
    ·erw[aO.v sv _ ok.row.tail.no rr]
    ·cases e':H q' with |none=>rfl |some o'=>have h1:=s1 _ _ e';have h2:=n2.no;rw[aR uu.symm,h1]at h2;cases h2
   erw[key _ (λb hb=>by rw[aR hb])]
theorem mn4{q:Rat}(h:q=x\/q=y\/q=z\/q=u)(h1:q<=x)(h2:q<=y)(h3:q<=z)(h4:q<=u):mn (mn (mn x y) z) u=q:=by
 erw[Fu ?_ (ml (ml (ml h1 h2) h3) h4)];rcases h with h|h|h|h
 ·rw[h];erw[fz (ip _ _) (fz (ip _ _) (ip _ _))]
 ·rw[h];erw[fz (ip _ _) (fz (ip _ _) (lN _ _))]
 ·rw[h];erw[fz (ip _ _) (lN _ _)]
 ·rw[h];erw[lN _ _]
theorem DD(dl:H l=some (.lst [u1,u2,u3]))(R1:bO K H u1 x)(R2:bO K H u2 y)(R3:bO K H u3 z)(b1:Bd 2000 x)(b2:Bd 2000 y)(b3:Bd 2000 z)(k:∀v,bO K H v (mn (mn x y) z)->Q v H):kj K [.ref l] H Q E0:=by
 erw[l,[u1,u2,u3],[x,y,z],Z,aK.of dl,#[R1,b1,R2,b2,R3,b3,trivial],by simp,λc v q e1 e2 hq=>k v ?_];have e:mn (mn x y) z=q:=by
  erw[mn3 ?_ (hq _ (by simp)) (hq _ (by simp)) (hq _ (by simp))]
  match c,e2 with |0,e2=>cases e2;erw[.inl rfl] |1,e2=>cases e2;erw[.inr (.inl rfl)] |2,e2=>cases e2;erw[.inr (.inr rfl)]
 rw[e]
 match c,e1,e2 with |0,e1,e2=>cases e1;cases e2;erw[R1] |1,e1,e2=>cases e1;cases e2;erw[R2] |2,e1,e2=>cases e1;cases e2;erw[R3]
theorem DC{t:Rat}(dl:H l=some (.lst [u1,u2,u3,u4]))(R1:bO K H u1 x)(R2:bO K H u2 y)(R3:bO K H u3 z)(R4:bO K H u4 t)(b1:Bd 2000 x)(b2:Bd 2000 y)(b3:Bd 2000 z)(b4:Bd 2000 t)(k:∀v,bO K H v (mn (mn (mn x y) z) t)->Q v H):kj K [.ref l] H Q E0:=by
 erw[l,[u1,u2,u3,u4],[x,y,z,t],Z,aK.of dl,#[R1,b1,R2,b2,R3,b3,R4,b4,trivial],by simp,λc v q e1 e2 hq=>k v ?_];have e:mn (mn (mn x y) z) t=q:=by
  erw[mn4 ?_ (hq _ (by simp)) (hq _ (by simp)) (hq _ (by simp)) (hq _ (by simp))]
  match c,e2 with |0,e2=>cases e2;erw[.inl rfl] |1,e2=>cases e2;erw[.inr (.inl rfl)] |2,e2=>cases e2;erw[.inr (.inr (.inl rfl))] |3,e2=>cases e2;erw[.inr (.inr (.inr rfl))]
 rw[e]
 match c,e1,e2 with |0,e1,e2=>cases e1;cases e2;erw[R1] |1,e1,e2=>cases e1;cases e2;erw[R2] |2,e1,e2=>cases e1;cases e2;erw[R3] |3,e1,e2=>cases e1;cases e2;erw[R4]
theorem ui{D:Nat}{q:Rat}{z:Int}(h:Dd D q)(hl:q<=1600)(hz:0<=z)(UC:z<2^24)(hD:D<=1700):Bd 2000 (q+(z:Rat)):=by have b:Bd (D+11) q:=h.bd (fz hl bf);exact(F1 b aw).mono aw
theorem Qh:bN ["self","top","reach","left","rise","fall","middles","ends","square","steps","gone","still"] ["self","top","reach","left"] (bj Ht):=bZ bf
def JQ(M:bP)(S:bp)(top R:Rat)(left:Int):bp:={S with pc:=qA M.r M.f S.pc top R left S.aY,aY:=De S.aY}
inductive ae5(K:aa)(C:Addr)(vs:List V)(H:Hp)(Q:VK):Prop |mk (a:_)(q:_)(M:_)(D:_)(S:_)(tv:_)(Rv:_)(top:_)(R:_)(left:_)(h0:vs=[.ref a,tv,Rv,.int left])(h1:cB K C H a q M S)(h2:cu M D S)(h3:M.Ok)(h4:bO K H tv top)(h5:Dd 14 top)(h6:top<=1600)(h7:bO K H Rv R)(h8:Dd 64 R)(h9:R<=1600)(AO:1<=left)(Vi:left<=100)(AN:¬Halt S.pc S.aY)(Vh:∀v H',bO K H' v (mT M.r M.f S.pc top R left S.aY)->cB K C H' a q M (JQ M S top R left)->aX [a] H H'->Q v H')
def P4(K:aa)(C:Addr):Sp:=λvs H Q _=>ae5 K C vs H Q
theorem a3w(F:MA K C "next_square" "Runner.next_square" Ht)(TC:fX K C)(yl:aJ P w K mg aB "plus_whole" 4 (Cr K))(UG:aJ P w K mg aB "times" 3 (oB (·*·) K))(tT:aJ P w K mg aB "fraction" 3 (xp K))(yt:aJ P w K mg aB "least" 2 (kj K))(wc:cS P w K mg aB C "is_held" 1 (fu K C λ_ S H Q=>Q (.bl S.aY.isSome) H)):cS P w K mg aB C "next_square" 5 (P4 K C):=by
 erw[F.has Qh (λvs H Q E h=>?_) (λ_ _ _ _ _ _=>EZ λ_ _ _ _=>rfl) (λf aQ A outer s H vs Q E hr h=>?_)]
 ·let(a,q,M,D,S,tv,Rv,top,R,left,rfl,_):=h
  rfl
 ·let(a,q,M,D,S,tv,Rv,top,R,left,rfl,R0,ok,aM,rt,td,tl,rR,Rd,Rl,l1,l2,nh,k):=h
  let(dx,mv,bv,cA,sv,e,r1,r2,r3,r4):=R0.ob;let(ys,eq,rq):=R0.qu;have aq:=R0.ne;have nd:=Qh.nd;have CU:=aM.r1;have uc:=aM.f1;have D1:=ok.D1;have D2:=ok.D2;have jY:(2:Int)^24=16777216:=by decide
  let(ma,mb,rfl,iH,kC):=mj r1;erw[_,(aG (qv (i:=4) (j:=5) Z nd Z Z aD Z Z (au (px K (dj TC.cl TC.oP (pv 0)) aF) (au (px K (dj TC.cl TC.oP (pv 0)) aF) az)) rfl) (aG (pS 6 nd (dC (au (pf yl hr (au (dj TC.cl TC.tL (pv 0)) (au (pv 4) az))) (au (pv 1) (au (pf yl hr (au (pv 2) (au (aL cg (pv 5) (aL gX (aL cg aF (pv 3)) aF)) az))) az))))) (aG (pS 7 nd (dC (au (pf yl hr (au (dj TC.cl TC.tL (pv 0)) (au (aL cg aF (pv 4)) az))) (au (pv 1) (au (pf yl hr (au (pv 2) (au (aL cg (aL cg aF (pv 5)) (aL gX (pv 3) aF)) az))) az))))) (aG (ib (bQ (cP (gu wc TC.cl (hr.mono aD) (pv 0))) (aG (fP (dj TC.cl TC.y8 (pv 0)) (eg K rfl (n:=3) rfl (cf (bR 8 nd) (cf (bR 9 nd) (cf (bR 10 nd) dZ))))) (aG (pS 11 nd (aL gX (aL gX (pv 9) (pv 10)) aF)) (aG (ie (jR K Z (pv 6) (au (pf UG hr (au (pv 8) (au (pf tT hr (au (aL cZ (aL cg aF (pv 11)) aF) (au (aL cg aF (pv 9)) az))) az))) az))) (aG (ie (jR K Z (pv 7) (au (pf UG hr (au (pv 8) (au (pf tT hr (au (pv 11) (au (pv 9) az))) az))) az))) (aI (ij TC.cl TC.y8 (pv 0) (cQ (au (pv 8) (au (pv 9) (au (aL cZ (pv 10) aF) az)))))))))) bV)) (aG (ij TC.cl TC.tL (pv 0) (pf yt hr (au (pv 7) az))) (aI (aZ (pf yt hr (au (pv 6) az))))))))),?_];erw[_,Z,a,dx,_,_,Z,e,Z,.inr #[ma,_,1,.int M.r,Z,Z,iH,Z,?_]];erw[_,Z,a,dx,_,_,Z,e,Z,.inr #[ma,_,2,.int M.f,Z,Z,iH,Z,_,_,Z,?_]];have fl1:(M.f*(2*left-1)).natAbs<=50*200:=by rw[gD];erw[oj aw aw]
  have M5:0<=M.f*(2*left-1):=ki aw aw;have fl2:(2*M.f*(left-1)).natAbs<=100*100:=by rw[gD];erw[oj aw aw]
  have M4:0<=2*M.f*(left-1):=ki aw aw;have zY:Bd 2000 S.pc:=(ok.pd.bd (fz ok.pm bf)).mono aw;have RB:Bd 2000 R:=(Rd.bd (fz Rl bf)).mono aD;have tB:Bd 2000 top:=(td.bd (fz tl bf)).mono aD;have B1:Bd 2000 (S.pc+(M.r:Rat)):=ui ok.pd ok.pm aw aw aw;have B2:Bd 2000 (R+((M.f*(2*left-1):Int):Rat)):=ui Rd Rl M5 aw aw;have B3:Bd 2000 (S.pc+((2*M.r:Int):Rat)):=ui ok.pd ok.pm aw aw aw;have B4:Bd 2000 (R+((2*M.f*(left-1):Int):Rat)):=ui Rd Rl M4 aw aw;erw[_,Z,a,dx,_,_,Z,e,Z,_,Z,cA,_,_,Z,r3,zY,aw,λu1 H1 lZ s1=>?_];erw[_,Z,_,Z,_,Z,_,Z,_,_,Z,Z,.of_left (cE aD aD),_,_,Z,Z,_,_,Z,Z,.of_left (cE aw aw),Rv,_,_,Z,rR.go s1,RB,aw,λu2 H2 vb s2=>?_];erw[bU Z,λlm H3 n3=>?_];have dM:=s1.trans (s2.trans n3.same);erw[_,Z,a,dx,_,_,Z,dM _ _ e,Z,_,Z,_,_,Z,Z,.of_left (cE aD aD),cA,_,_,Z,r3.go dM,zY,aw,λu3 H4 J0 s4=>?_];have fY:=dM.trans s4;erw[_,Z,_,Z,_,Z,_,_,Z,Z,.of_left (cE aD aD),_,Z,_,_,Z,Z,_,_,Z,Z,.of_left (cE aw aw),Rv,_,_,Z,rR.go fY,RB,aw,λu4 H5 IZ s5=>?_];erw[bU Z,λle H6 n6=>?_];have lI:=fY.trans (s5.trans n6.same);have sR:=s4.trans (s5.trans n6.same);have e6:=lI _ _ e;have R6:=R0.same ok.row.no lI;have U1:=lZ.go (s2.trans (n3.same.trans sR));have U2:=vb.go (n3.same.trans sR);have U3:=J0.go (s5.trans n6.same);have U4:=IZ.go n6.same;have T6:=rt.go lI;have dm:=sR _ _ n3.at';have de:=n6.at';have N0:a≠lm:=λz=>by have:=n3.no;rw[<-z,(s1.trans s2) _ _ e]at this;cases this
  have Xl:a≠le:=λz=>by have:=n6.no;rw[<-z,(fY.trans s5) _ _ e]at this;cases this
  have Al:lm≠le:=λz=>by have:=n6.no;rw[<-z,(s4.trans s5) _ _ n3.at']at this;cases this
  have Dg:H lm=none:=by cases e':H lm with |none=>rfl |some o=>have:=(s1.trans s2) _ _ e';rw[n3.no]at this;cases this
  have A9:H le=none:=by cases e':H le with |none=>rfl |some o=>have:=(fY.trans s5) _ _ e';rw[n6.no]at this;cases this
  erw[λO H7=>∃sO w8 w9 lW pX um ue,O=cZ9 (.ref a) (cZ9 tv (cZ9 Rv (cZ9 (.int left) (cZ9 (.int M.r) (cZ9 (.int M.f) (cZ9 (.ref lm) (cZ9 (.ref le) (w8::w9::lW::pX::[]))))))))/\aX [a,lm,le] H6 H7/\H7 a=some (.ins C dx (gc (.ref ma) bv (.int S.dn) (.ref q) cA (.int S.aE) (.str S.side) (.str S.mark) sO))/\za K H7 sO (De S.aY)/\H7 lm=some (.lst um)/\H7 le=some (.lst ue)/\(∀H8 Q',cm H7 H8->H8 lm=some (.lst um)->(∀v,bO K H8 v (mT M.r M.f S.pc top R left S.aY)->Q' v H8)->kj K [.ref lm] H8 Q' E0)/\(∀H8 Q',cm H7 H8->H8 le=some (.lst ue)->(∀v,bO K H8 v (qA M.r M.f S.pc top R left S.aY)->Q' v H8)->kj K [.ref le] H8 Q' E0),?_,?_]
  ·erw[_,Z,a,dx,_,Z,e6,Z,a,q,M,D,S,Z,R6,ok,aM,_,Z,?_]
   cases hs:S.aY with |none=>rw[hs]at r4;erw[bK #[sv,_,_,_,_,_,_,Z,aX.refl _ _,e6,r4,dm,de,λH8 Q' sV d8 kq=>DD d8 (U1.v sV) (T6.v sV) (U2.v sV) B1 tB B2 kq,λH8 Q' sV d8 kq=>DD d8 (U3.v sV) (T6.v sV) (U4.v sV) B3 tB B4 kq]] |some z=>
    let(sq,st,gn):=z;rw[hs]at r4;have sk:=ok.aY;rw[hs]at sk nh;let(g1,g2,g3):=xX sk ok.pd.nn nh;let(gn0,gn1,Cg,uS,uR,_,_):=sk;let(ta,su,rfl,yk,hsu):=r4;erw[cx ?_];have a6X:=yk.go lI;have KJ:=hsu.go lI;have Ci:Bd 2000 sq:=(uS.bd uR).mono aw;erw[_,Z,a,dx,_,_,Z,e6,Z,ta,_,Z,a6X,Z,_,_,Z,_,_,Z,_,_,Z,Z,?_];erw[_,Z,_,Z,_,_,Z,Z,_,_,Z,Z,?_];have jY:sizeLine=16777216:=by decide
    erw[_,Z,.inl #[Z,_,aK.of dm],_,Z,_,Z,_,_,Z,Z,.of_left (cE aD aD),_,_,Z,Z,_,Z,_,_,Z,Z,.of_left (cE aD aD),_,_,Z,aw,iW (n:=64) aw aD,λfv H7 rf s7=>?_];have fB:Bd 2000 (Rat.divInt (2*(st-gn-1)+1) (2*st)):=(lM (n:=12) aw aw aw).mono aD;have fB2:Bd 2000 (Rat.divInt (st-gn-1) st):=(lM (n:=12) aw aw aw).mono aD;have pB:Bd 2000 (sq*Rat.divInt (2*(st-gn-1)+1) (2*st)):=((uS.bd uR).mul (lM (n:=12) aw aw aw)).mono aw;have JF:Bd 2000 (sq*Rat.divInt (st-gn-1) st):=((uS.bd uR).mul (lM (n:=12) aw aw aw)).mono aw;erw[su,fv,sq,_,Z,KJ.go s7,rf,Ci,fB,λx1 H8 zR s8=>?_];have xF:=s7.trans s8;have Wh:=xF _ _ dm;erw[lm,_,_,Z,Z,Wh,by show 3<sizeLine;lia,?_];have v8:cm H8 (_L.upd H8 lm (.lst ([u1,tv,u2]++[x1]))):=.upd Wh trivial;have Wu:(_L.upd H8 lm (.lst ([u1,tv,u2]++[x1]))) le=some (.lst [u3,tv,u4]):=by rw[aR Al.symm];erw[xF _ _ de]
    erw[_,Z,.inl #[Z,_,aK.of Wu],_,Z,_,Z,_,Z,_,_,Z,aw,iW (n:=64) aw aD,λgv H9 rg s9=>?_];erw[su,gv,sq,_,Z,((KJ.go xF).v v8).go s9,rg,Ci,fB2,λx2 kG zQ oF=>?_];have xE:=s9.trans oF;have Wv:=xE _ _ Wu;erw[le,_,_,Z,Z,Wv,by show 3<sizeLine;lia,?_];have v10:cm kG (_L.upd kG le (.lst ([u3,tv,u4]++[x2]))):=.upd Wv trivial;erw[_,Z,_,Z,_,Z,_,_,Z,Z,bU Z,λtn jn kx=>?_];have Yy:cm H6 kG:=(xF.v.trans v8).trans xE.v;have Yx:cm H6 jn:=(Yy.trans v10).trans kx.same.v;have e8:(_L.upd H8 lm (.lst ([u1,tv,u2]++[x1]))) a=some (.ins C dx (gc (.ref ma) bv (.int S.dn) (.ref q) cA (.int S.aE) (.str S.side) (.str S.mark) (.ref ta))):=by rw[aR N0];erw[xF _ _ e6]
    have Wb:jn a=some (.ins C dx (gc (.ref ma) bv (.int S.dn) (.ref q) cA (.int S.aE) (.str S.side) (.str S.mark) (.ref ta))):=kx.same _ _ (by rw[aR Xl];erw[xE _ _ e8]);erw[_,Z,a,dx,_,Z,Wb,by show 9<1000;decide,?_];have oq:cm jn (_L.upd jn a (.ins C dx (gc (.ref ma) bv (.int S.dn) (.ref q) cA (.int S.aE) (.str S.side) (.str S.mark) (.ref tn)))):=.upd Wb trivial;have uK:=Yx.trans oq;have Yv:=(((v8.trans xE.v).trans v10).trans kx.same.v).trans oq;have YB:=(v10.trans kx.same.v).trans oq;erw[.ref tn,_,_,_,_,[u1,tv,u2,x1],[u3,tv,u4,x2],Z,λb o' eb hb=>?_,bo,#[tn,su,Z,aV.v oq (aV.of kx.at'),KJ.v uK],?_,?_,λH' Q' sV d' kq=>?_,λH' Q' sV d' kq=>?_]
    ·have ha:b≠a:=λz=>hb (by rw[z];simp)
     have Lg:b≠lm:=λz=>hb (by rw[z];simp);have hle:b≠le:=λz=>hb (by rw[z];simp);rw[aR ha];erw[kx.same _ _ (by rw[aR hle];erw[xE _ _ (by rw[aR Lg];erw[xF _ _ eb])])]
    ·rw[aR N0.symm]
     erw[kx.same _ _ (by rw[aR Al];erw[xE _ _ bo])]
    ·rw[aR Xl.symm]
     erw[kx.same _ _ bo]
    ·erw[DC d' ((U1.v uK).v sV) ((T6.v uK).v sV) ((U2.v uK).v sV) ((zR.v Yv).v sV) B1 tB B2 pB kq]
    ·erw[DC d' ((U3.v uK).v sV) ((T6.v uK).v sV) ((U4.v uK).v sV) ((zQ.v YB).v sV) B3 tB B4 JF kq]
  ·rintro O H7 ⟨sO,w8,w9,lW,pX,um,ue,rfl,bt,e7,qi,dm7,de7,km,ke⟩
   erw[_,Z,?_];dsimp only[jM];erw[ke H7 _ .refl de7 λpe CO=>?_];erw[_,Z,a,dx,_,Z,e7,by show 9<1000;decide,?_];have v8:cm H7 (_L.upd H7 a (.ins C dx (gc (.ref ma) bv (.int S.dn) (.ref q) pe (.int S.aE) (.str S.side) (.str S.mark) sO))):=.upd e7 trivial;erw[_,Z,?_];dsimp only[jM];erw[km _ _ v8 (by rw[aR N0.symm];erw[dm7]) λv rv=>?_];have bH:aX [a] H (_L.upd H7 a (.ins C dx (gc (.ref ma) bv (.int S.dn) (.ref q) pe (.int S.aE) (.str S.side) (.str S.mark) sO))):=λb o' eb hb=>by
    have ha:b≠a:=λz=>hb (by rw[z];simp);rw[aR ha];erw[bt b o' (lI _ _ eb) λhm=>?_];simp only[bJ,cD,cX]at hm;rcases hm with h|h|h
    ·erw[ha h]
    ·rw[h,Dg]at eb;cases eb
    ·rw[h,A9]at eb;cases eb
   have vH:cm H (_L.upd H7 a (.ins C dx (gc (.ref ma) bv (.int S.dn) (.ref q) pe (.int S.aE) (.str S.side) (.str S.mark) sO))):=bH.v λx hx o' eo=>by rw[bW]at hx;rw[hx,e]at eo;cases eo;trivial
   erw[k v _ rv #[#[dx,.ref ma,bv,pe,sO,bo,RD.v vH _ (iE _ _ _ _ _) r1,RD.v vH _ (gd _) r2,CO.v v8,qi.v v8],ys,bH _ _ eq (by rw[bW];erw[aq.symm]),aO.v vH _ ok.row.no rq] bH]
end
end _c
set_option maxHeartbeats 2000000
namespace _c
open PySem PySem.Spec PyProof.Rows _L _r _l _C _P _W _R
open _O (topR cornO mnO betR atO ownF leadF ownL OkI OkIs)
section
noncomputable def fR(M:bP)(S:bp):Rat:=xH M.f M.j S.aE S.os
noncomputable def Ke(M:bP)(S:bp)(ns:List Int)(sp:Int):Rat:=mT M.r M.f S.pc (topR S.aE sp) (fR M S) ((aP ns:Int)-S.dn) S.aY
noncomputable def oU(M:bP)(S:bp)(ns:List Int)(sp:Int):ai:=qh M.t (iZ ns S.dn) (Ke M S ns sp)
noncomputable def gj(M:bP)(S:bp)(ns:List Int)(sp:Int):bp:={JQ M S (topR S.aE sp) (fR M S) ((aP ns:Int)-S.dn)with dn:=S.dn+1}
def gf(ns:List Int)(S:bp):bp:=if S.dn=aP ns then je S else S
def cH(d:ai)(S:bp):bp:=match d with | .tuple [.str w,.str s]=>if w="tool" then{S with side:=s}else if w="mark" then{S with mark:=s}else S |_=>S
inductive One(M:bP):bp->ai->bp->Prop |line {S:bp}{ns:List Int}{sp:Int}:S.os[0]? =some (some (ns,sp))->¬Halt S.pc S.aY->One M S (oU M S ns sp) (gf ns (gj M S ns sp)) |iL {S:bp}{d:ai}:S.os[0]? =some none->S.ds[0]? =some d->¬Halt S.pc S.aY->One M S d (je (cH d S))
inductive Run(M:bP):bp->List ai->bp->Prop |nil (S:bp):Run M S [] S |cons {S S1 S2:bp}{e:ai}{es:List ai}:One M S e S1->Run M S1 es S2->Run M S (e::es) S2
theorem Run.trans{fs:List ai}(h:Run M S es S1)(g:Run M S1 fs S2):Run M S (es++fs) S2:=by induction h with |nil=>erw[g] |cons o _ ih=>erw[.cons o (ih g)]
theorem Run.snoc{M:bP}{S S1 S2:bp}{es:List ai}{e:ai}(h:Run M S es S1)(g:One M S1 e S2):Run M S (es++[e]) S2:=h.trans (.cons g (.nil _))
theorem Cy{D:Nat}(h:lR M D S)(d:ai):lR M D (cH d S)/\(cH d S).os=S.os/\(cH d S).ds=S.ds/\(cH d S).dn=S.dn/\(cH d S).pl=S.pl:=by
 unfold cH;split
 ·split
  ·erw[#[h.row,h.rw,h.len,h.dG,h.dN,h.pl,h.pd,h.pm,h.aY,h.D1,h.D2],Z,Z,Z,Z]
  ·split
   ·erw[#[h.row,h.rw,h.len,h.dG,h.dN,h.pl,h.pd,h.pm,h.aY,h.D1,h.D2],Z,Z,Z,Z]
   ·erw[h,Z,Z,Z,Z]
 ·erw[h,Z,Z,Z,Z]
theorem Jf{D:Nat}(h:lR M D S)(aM:M.Ok)(hn:S.os≠[]):Dd 64 (fR M S)/\fR M S<=1600:=by
 have h1:1<=S.os.length:=by cases e:S.os with|nil=>exact(hn e).elim|cons _ _=>simp
 erw[a9G (by have:=aM.f1;lia) (λi _=>a2I aM.j1.1 aM.j1.2 h.dG h.dN h.row.xV i) 1 h1,?_];erw[fz (a9F h1) (a2H h.dG h.dN h.row.xV 1)]
theorem U5{D:Nat}(h:lR M D S)(aM:M.Ok)(eo:S.os[0]? =some (some (ns,sp)))(hd:S.dn<aP ns)(nh:¬Halt S.pc S.aY):lR M D (gj M S ns sp):=by
 have hn:S.os≠[]:=λe=>by rw[e]at eo;simp at eo
 let(R1,R2):=Jf h aM hn;let(fA,s1,s2):=h.row.ok 0 ns sp eo;have D1:=h.D1;have CU:=aM.r1;have uc:=aM.f1;erw[h.row,h.rw,h.len,h.dG,h.dN,h.pl,?_,?_,?_,h.D1,h.D2]
 ·erw[ab6 aw aw aw h.pd ((G2 _ _).mono aw) (R1.mono aw) h.aY nh]
 ·erw[fz ab5 (C7 s1 s2 h.dG h.dN)]
 ·erw[ZW h.aY h.pd.nn nh]
theorem One.ok{M:bP}{D:Nat}{S S1:bp}{e:ai}(h:cu M D S)(aM:M.Ok)(o:One M S e S1):cu M D S1:=by cases o with
 |@line ns sp eo nh=>
  have hd:S.dn<aP ns:=by
   rcases h.dn with e|⟨A7,zJ,e1,e2⟩
   ·rw[e];exact(h.row.ok 0 ns sp eo).1.lead.1
   ·rw[eo]at e1;cases e1;erw[e2]
  have raw:=U5 h.raw aM eo hd nh;have hn:S.os≠[]:=λe=>by rw[e]at eo;simp at eo
  unfold gf;split
  ·erw[raw.end hn]
  ·next eZ=>
   erw[raw.ok (.inr #[ns,sp,eo,?_])];have:(gj M S ns sp).dn=S.dn+1:=rfl
   lia |iL eo ed nh=>let(h1,h2,_):=Cy h.raw e;erw[h1.end ?_];rw[h2];intro z;rw[z]at eo;simp at eo
theorem Run.ok{M:bP}{D:Nat}{S S1:bp}{es:List ai}(h:cu M D S)(aM:M.Ok)(r:Run M S es S1):cu M D S1:=by induction r with |nil=>erw[h] |cons o _ ih=>erw[ih (o.ok h aM)]
theorem One.no{D:Nat}(h:cu M D S)(o:One M S e S1):fQ e=true:=by cases o with |line _ _=>erw[G6 _ _ _] |iL eo ed _=>erw[iM.mp h.row.no _ (hO ed)]
theorem Run.no{D:Nat}{es:List ai}(h:cu M D S)(aM:M.Ok)(r:Run M S es S1):du es=true:=by induction r with |nil=>rfl |cons o _ ih=>rw[du,fD];erw[o.no h,ih (o.ok h aM)]
theorem As{b:Bool}{A B A' B':Prop}(h1:A->A')(h2:B->B'):(if b=true then A else B)->(if b=true then A' else B'):=by
 cases b
 ·erw[h2]
 ·erw[h1]
theorem Qg:bN ["self","most","line","lead","rows","top","reach","told","middle"] ["self","most"] (bj Ho):=bZ bf
inductive ae4(K:aa)(C:Addr)(vs:List V)(H:Hp)(Q:VK):Prop |mk (a:_)(q:_)(M:_)(D:_)(S:_)(ns:_)(sp:_)(most:_)(h0:vs=[.ref a,.int most])(h1:cB K C H a q M S)(h2:cu M D S)(h3:M.Ok)(h4:S.os[0]? =some (some (ns,sp)))(h5:¬Halt S.pc S.aY)(h6:1<=most)(h7:most<=1000)(h8:∀l ys es S' q' H',H l=none->H' l=some (.lst ys)->aO K H' ys es->Run M S es S'->1<=es.length->(es.length:Int)<=most->cB K C H' a q' M S'->Mv a q H q' H'->l≠q'->Q (.ref l) H')
def P1(K:aa)(C:Addr):Sp:=λvs H Q _=>ae4 K C vs H Q
theorem a3r(F:MA K C "steps_of_first" "Runner.steps_of_first" Ho)(TC:fX K C)(B:cn mg)(qL:aJ P w K mg aB "lead_of" 1 (mQ K))(a71:aJ P w K mg aB "step_rows" 3 (Gf K))(DM:aJ P w K mg aB "top_square" 4 (Cj K))(a79:aJ P w K mg aB "reach_behind_first" 9 (Gg K))(a72:aJ P w K mg aB "step_entry" 3 (Gp K))(AJ:cS P w K mg aB C "is_halted" 2 (fu K C λ_ S H Q=>Q (.bl (S.aY.isSome&&decide (S.pc=0))) H))(a8J:cS P w K mg aB C "next_square" 5 (P4 K C))(LM:cS P w K mg aB C "end_first" 3 (Gj K C)):cS P w K mg aB C "steps_of_first" 10 (P1 K C):=by
 erw[F.has Qg (λvs H Q E h=>?_) (λ_ _ _ _ _ _=>dS λ_ _=>rfl) (λf aQ A outer s H vs Q E hr h=>?_)]
 ·let(a,q,M,D,S,ns,sp,most,rfl,_):=h
  rfl
 ·let(a,q,M,D,S,ns,sp,most,rfl,R0,ok,aM,eo,nh,m1,m2,k):=h
  let(dx,mv,bv,cA,tv,e,r1,r2,r3,r4):=R0.ob;let(ys,eq,rq):=R0.qu;have aq:=R0.ne;have nd:=Qg.nd;have lr:=aM.len;have CU:=aM.r1;have uc:=aM.f1;have ll:=ok.row.len;have kW:=ok.len;have qM:0<S.os.length:=(eQ.mp eo).1;have eZ:S.os≠[]:=λz=>by rw[z]at qM;erw[absurd qM aD]
  obtain⟨d,ed⟩:∃d,S.ds[0]? =some d:=#[_,cC (show 0<S.ds.length by lia)];let(y,ey,ry):=rq.get 0 ed;have mH:=lO (ok.row.it 0 d _ ed eo);subst mH;let(fA,hZ,iY):=ok.row.ok 0 ns sp eo;have D8:fM ns.length 1000 ns:=#[Z,λz hz=>by have:=fA.bd z hz;lia,fA.nz];have gh:=fA.lead.1;have Ug:=An fA;have nl3:ns.length<=3:=by rw[fA.len];lia
  have hd0:S.dn<aP ns:=by
   rcases ok.dn with e'|⟨A7,zJ,e1,e2⟩
   ·lia
   ·rw[eo]at e1;cases e1;erw[e2]
  let(Rd,Rl):=Jf ok.raw aM eZ;erw[_,(aG (pS 2 nd (px K (dj TC.cl TC.ja (pv 0)) aF)) (aG (pS 3 nd (pf qL hr (au (pv 2) az))) (aG (pS 4 nd (pf a71 hr (au (pv 2) az))) (aG (pS 5 nd (pf DM hr (au (pv 2) (au (dj TC.cl TC.y9 (pv 0)) az)))) (aG (pS 6 nd (pf a79 hr (au (dj TC.cl TC.oP (pv 0)) (au (dj TC.cl TC.ja (pv 0)) (au (dj TC.cl TC.y9 (pv 0)) az))))) (aG (pS 7 nd (dC az)) (aG (ib (oK iJ (PW.pt (oJ (cy ko (eK K B (au (pv 7) az)) (pv 1) (bM _)) (oJ (cy ko (dj TC.cl TC.oQ (pv 0)) (pv 3) (bM _)) (sX (dX (cP (gu AJ TC.cl (hr.mono aD) (pv 0)))))))) (aG (pS 8 nd (tj a8J TC.cl (hr.mono aD) (pv 0) (au (pv 5) (au (pv 6) (au (aL gX (pv 3) (dj TC.cl TC.oQ (pv 0))) az))))) (aG (ie (jR K Z (pv 7) (au (pf a72 hr (au (dj TC.cl TC.oP (pv 0)) (au (px K (pv 4) (dj TC.cl TC.oQ (pv 0))) (au (pv 8) az)))) az))) (aI (a24 TC.cl TC.oQ (pv 0) aF a6t)))))) (aG (ib (bQ (cy (dF K Z hr.units) (dj TC.cl TC.oQ (pv 0)) (pv 3) (bM _)) (aI (ie (gu LM TC.cl (hr.mono aD) (pv 0)))) bV)) (aI (aZ (pv 7))))))))))),?_];erw[_,Z,a,dx,_,_,Z,e,Z,.inl #[q,_,0,y,Z,Z,aK.of eq,dQ (hW 0) ey,?_]];erw[_,Z,y,ns,sp,Z,ry,fA.ne,aw,λH1 s1=>?_];erw[_,Z,y,ns,sp,Z,RD.mono s1 _ ry,D8,aw,λoT yr H2 nlr Wi RM s2=>?_];have kl:=s1.trans s2;erw[_,Z,_,Z,a,dx,_,_,Z,kl _ _ e,Z,y,ns,sp,S.aE,Z,RD.mono kl _ ry,hZ,iY,ok.dG,ok.dN,λuM H3 rtp s3=>?_];have dM:=kl.trans s3;have e3:=dM _ _ e;erw[_,Z,a,dx,_,_,Z,e3,Z,_,Z,a,dx,_,_,Z,e3,Z,_,Z,a,dx,_,_,Z,e3,Z,mv,.ref q,S.aE,M.rs,M.r,M.f,M.j,M.t,S.ds,S.os,Z,RD.mono dM _ r1,aM,jO (aK.of (dM _ _ eq)) (aO.mono dM _ rq),ok.row,aw,aw,ok.dG,ok.dN,λvd H4 rrc s4=>?_];have fY:=dM.trans s4;erw[bU Z,λl H5 n5=>?_];have xG:=fY.trans n5.same;have uW:aH H2 H5:=s3.trans (s4.trans n5.same);have nl:H l=none:=by cases e':H l with |none=>rfl |some o=>have:=fY _ _ e';rw[n5.no]at this;cases this
  have Te:H oT=none:=by cases e':H oT with |none=>rfl |some o=>have:=s1 _ _ e';rw[nlr]at this;cases this
  have al:a≠l:=λz=>by rw[<-z,e]at nl;cases nl
  have ql:q≠l:=λz=>by rw[<-z,eq]at nl;cases nl
  have Xi:a≠oT:=λz=>by rw[<-z,e]at Te;cases Te
  have llr:l≠oT:=λz=>by have:=n5.no;rw[z,(s3.trans s4) _ _ Wi]at this;cases this
  have Ym:=RM.length;rw[J4]at Ym;have td:=G2 S.aE sp;have tl:=C7 hZ iY ok.dG ok.dN;have tp:=Oh hZ ok.dG;have a4B:gf ns S=S:=by unfold gf;rw[bI aw]
  have jY:sizeLine=16777216:=by decide
  erw[λO H6=>∃T es us w8,O=cZ9 (.ref a) (cZ9 (.int most) (cZ9 y (cZ9 (.int (aP ns)) (cZ9 (.ref oT) (cZ9 uM (cZ9 vd (cZ9 (.ref l) (w8::[]))))))))/\aX [a,l] H5 H6/\cB K C H6 a q M T/\lR M D T/\T.os=S.os/\T.ds=S.ds/\T.aE=S.aE/\T.dn<=aP ns/\1<=es.length/\(es.length:Int)<=most/\H6 l=some (.lst us)/\aO K H6 us es/\du es=true/\Run M S es (gf ns T),?_,?_]
  ·erw[om (λO H6=>∃T es us w8,O=cZ9 (.ref a) (cZ9 (.int most) (cZ9 y (cZ9 (.int (aP ns)) (cZ9 (.ref oT) (cZ9 uM (cZ9 vd (cZ9 (.ref l) (w8::[]))))))))/\aX [a,l] H5 H6/\cB K C H6 a q M T/\lR M D T/\T.os=S.os/\T.ds=S.ds/\T.aE=S.aE/\T.dn=S.dn+es.length/\T.dn<=aP ns/\(es.length:Int)<=most/\H6 l=some (.lst us)/\aO K H6 us es/\du es=true/\Run M S es (gf ns T)/\(es=[]->¬Halt T.pc T.aY)) (λ_ H6=>match H6 l with|some (.lst us)=>2000-us.length|_=>0) ?_ ?_ ?_]
   ·erw[S,[],[],none,Z,aX.refl _ _,R0.same ok.row.no xG,ok.raw,Z,Z,Z,Z,aw,by simp;lia,n5.at',dc,Z,by rw[a4B];erw[.nil _],λ_=>nh]
   ·rintro O H6 ⟨T,es,us,w8,rfl,bt,RT,raw,jd,EG,yO,edn,UW,my,dl,rd,mr,run,hnh⟩
    have lu:=rd.length;let(wu,iD,bv6,a2B,YN,e6,t1,t2,t3,t4):=RT.ob;have FU:cm H5 H6:=bt.v λx hx o' dP=>by
     simp only[bJ,cD,cX]at hx;rcases hx with rfl|rfl
     ·rw[xG _ _ e]at dP;cases dP;trivial
     ·rw[n5.at']at dP;cases dP;trivial
    have nos:du T.ds=true:=by rw[EG];erw[ok.row.no]
    have uf:1<=es.length->∃T' rA kK BX,[some (.ref a),some (.int most),some y,some (.int (aP ns)),some (.ref oT),some uM,some vd,some (.ref l),w8]=cZ9 (.ref a) (cZ9 (.int most) (cZ9 y (cZ9 (.int (aP ns)) (cZ9 (.ref oT) (cZ9 uM (cZ9 vd (cZ9 (.ref l) (BX::[]))))))))/\aX [a,l] H5 H6/\cB K C H6 a q M T'/\lR M D T'/\T'.os=S.os/\T'.ds=S.ds/\T'.aE=S.aE/\T'.dn<=aP ns/\1<=rA.length/\(rA.length:Int)<=most/\H6 l=some (.lst kK)/\aO K H6 kK rA/\du rA=true/\Run M S rA (gf ns T'):=λh1=>#[T,es,us,w8,Z,bt,RT,raw,jd,EG,yO,UW,h1,my,dl,rd,mr,run];erw[_,Z,l,us,Z,.inl (aK.of dl),_,Z,_,_,Z,Z,_,Z,?_];show if decide ((us.length:Int)<most)=true then _ else _;by_cases c1:(us.length:Int)<most
    ·rw[cU c1]
     erw[cx ?_];erw[_,Z,a,wu,_,_,Z,e6,Z,_,Z,_,_,Z,Z,_,Z,?_];show if decide ((T.dn:Int)<(aP ns:Int))=true then _ else _;by_cases c2:T.dn<aP ns
     ·rw[cU aw]
      erw[cx ?_];have SU:cu M D T:=raw.ok (.inr #[ns,sp,by rw[jd];erw[eo],c2]);have a4A:gf ns T=T:=by unfold gf;rw[bI aw]
      erw[_,Z,a,wu,_,Z,e6,Z,a,q,M,D,T,Z,RT,SU,aM,_,Z,?_];by_cases c3:Halt T.pc T.aY
      ·have hb:(T.aY.isSome&&decide (T.pc=0))=true:=by let(h1,h2):=c3;rw[cU h2,NS];cases hs:T.aY with |none=>exact(h1 hs).elim |some _=>rfl
       rw[hb];erw[bK ?_];erw[uf ?_];cases es with |nil=>exact(hnh Z c3).elim |cons _ _=>simp
      ·have hb:(T.aY.isSome&&decide (T.pc=0))=false:=by cases hs:T.aY with |none=>rfl |some _=>show decide (T.pc=0)=false;erw[fo λh2=>c3 #[by rw[hs];simp,h2]]
       rw[hb];erw[cx ?_];have rT:fR M T=fR M S:=by unfold fR;rw[jd,yO]
       erw[_,Z,a,wu,_,Z,e6,Z,?_];erw[_,Z,_,Z,_,Z,_,Z,a,wu,_,_,Z,e6,Z,_,_,Z,Z,?_];have a0N:bO K H6 uM (topR S.aE sp):=((rtp.go s4).go n5.same).v FU;have a0W:bO K H6 vd (fR M S):=(rrc.go n5.same).v FU;erw[a,q,M,D,T,uM,vd,topR S.aE sp,fR M S,_,Z,RT,SU,aM,a0N,td,tl,a0W,Rd,Rl,aw,aw,c3,λmid H7 a1f R7 b7=>?_];let(uh,vv,ES,CZ,C4,e7',OA,ZF,ZE,ZD):=R7.ob;have e7:H7 a=some (.ins C uh (gc vv ES (.int T.dn) (.ref q) CZ (.int T.aE) (.str T.side) (.str T.mark) C4)):=e7';have C1:cm H6 H7:=b7.v λx hx o' dP=>by rw[bW]at hx;rw[hx,e6]at dP;cases dP;trivial
       have lQ:=b7 _ _ dl (by rw[bW];erw[al.symm]);have abu:=uW _ _ Wi;have abt:=bt _ _ abu (by simp;erw[Xi.symm,llr.symm]);have abr:=b7 _ _ abt (by rw[bW];erw[Xi.symm]);have a1g:aO K H7 yr (qt ns):=aO.v C1 _ (J3 ns) (aO.v FU _ (J3 ns) (aO.mono uW _ RM));obtain⟨rv,VR⟩:∃rv,yr[T.dn]? =some rv:=#[_,cC (show T.dn<yr.length by lia)];let(dr,W7,rdr):=a1g.get' T.dn VR;rw[RI c2]at W7;cases W7;have mB:Bd 2000 (mT M.r M.f T.pc (topR S.aE sp) (fR M S) ((aP ns:Int)-T.dn) T.aY):=by have D1:=raw.D1;have D2:=raw.D2;exact((TK aw aw aw raw.pd (td.mono aw) (Rd.mono aw) raw.aY c3).bd (fz TH (fz tl bf))).mono aw
       have mP:0<mT M.r M.f T.pc (topR S.aE sp) (fR M S) ((aP ns:Int)-T.dn) T.aY:=TJ CU.1 uc.1 aw raw.pd.nn tp Rd.nn raw.aY c3;erw[_,Z,.inl #[Z,_,aK.of lQ],?_];erw[_,Z,a,uh,_,_,Z,e7,Z,?_];erw[_,Z,_,Z,a,uh,_,_,Z,e7,Z,.inl #[oT,_,_,_,Z,Z,aK.of abr,dQ (show(0:Int)<=(T.dn:Int) by lia) (by simpa using VR),?_]];erw[_,Z,vv,rv,mid,M.rs,M.r,M.f,M.j,M.t,iZ ns T.dn,_,Z,OA,aM,rdr,a1f,mB,mP,λent H8 a1p s8=>?_];have nY:=s8 _ _ lQ;erw[l,us,_,Z,Z,nY,aw,?_];have e8:(_L.upd H8 l (.lst (us++[ent]))) a=some (.ins C uh (gc vv ES (.int T.dn) (.ref q) CZ (.int T.aE) (.str T.side) (.str T.mark) C4)):=by rw[aR al];erw[s8 _ _ e7]
       erw[_,Z,a,uh,_,_,Z,e8,Z,_,_,Z,Z,uh,_,e8,by show 9<1000;decide,?_];have vl:cm H8 (_L.upd H8 l (.lst (us++[ent]))):=.upd nY trivial;have va:cm (_L.upd H8 l (.lst (us++[ent]))) (_L.upd (_L.upd H8 l (.lst (us++[ent]))) a (.ins C uh (gc vv ES (.int ((T.dn:Int)+1)) (.ref q) CZ (.int T.aE) (.str T.side) (.str T.mark) C4))):=.upd e8 trivial;have v7:=(s8.v.trans vl).trans va;have eS:gj M T ns sp={JQ M T (topR S.aE sp) (fR M S) ((aP ns:Int)-T.dn)with dn:=T.dn+1}:=by unfold gj;rw[rT,yO]
       have eE:oU M T ns sp=qh M.t (iZ ns T.dn) (mT M.r M.f T.pc (topR S.aE sp) (fR M S) ((aP ns:Int)-T.dn) T.aY):=by unfold oU Ke;rw[rT,yO]
       have a7i:One M T (oU M T ns sp) (gf ns (gj M T ns sp)):=.line (by rw[jd];erw[eo]) c3;let(yq,eq7,rq7):=R7.qu;have JV:du (es++[oU M T ns sp])=true:=iM.mpr λd hd=>by
        rcases wW.mp hd with h|h
        ·erw[iM.mp mr d h]
        ·rw[bW]at h;rw[h];erw[G6 _ _ _]
       have q7l:q≠l:=ql;erw[#[gj M T ns sp,es++[oU M T ns sp],us++[ent],_,Z,λb o' eb hb=>?_,?_,U5 raw aM (by rw[jd];erw[eo]) c2 c3,jd,EG,yO,?_,?_,?_,?_,?_,?_,?_,λz=>by simp at z],?_]
       ·have ha:b≠a:=λz=>hb (by rw[z];simp)
        have fw:b≠l:=λz=>hb (by rw[z];simp);rw[aR ha,aR fw];erw[s8 _ _ (b7 _ _ (bt _ _ eb hb) (by rw[bW];erw[ha]))]
       ·rw[eS]
        erw[#[uh,vv,ES,CZ,C4,?_,RD.v v7 _ (iE _ _ _ _ _) OA,RD.v v7 _ (gd _) ZF,ZE.v v7,ZD.v v7],yq,?_,aO.v v7 _ nos rq7]
        ·erw[bo]
        ·rw[aR aq.symm,aR ql];erw[s8 _ _ eq7]
       ·show T.dn+1=_
        rw[fN];show _=_+(_+1);lia
       ·show T.dn+1<=_
        lia
       ·rw[fN];show((es.length+1:Nat):Int)<=most;lia
       ·rw[aR al.symm,bo]
       ·erw[aO.v va _ JV (aO.v vl _ JV ?_)]
        have r7:aO K H8 us es:=aO.mono s8 _ (aO.v C1 _ mr rd);erw[r7.append (cj ?_ dc)];rw[eE];erw[a1p]
       ·erw[JV]
       ·rw[a4A]at run
        erw[run.snoc a7i]
       ·show(match(_L.upd (_L.upd H8 l (.lst (us++[ent]))) a _) l with|some (.lst us)=>2000-us.length|_=>0)<(match H6 l with|some (.lst us)=>2000-us.length|_=>0)
        rw[aR al.symm,bo,dl];show 2000-(us++[ent]).length<2000-us.length;rw[fN];show 2000-(us.length+1)<_
        lia
     ·rw[fo aw]
      erw[bK ?_];erw[uf aw]
    ·rw[fo c1]
     erw[bK ?_];erw[uf aw]
   ·rintro O H6 Q1 Q2 hq ⟨v1,f1,l',kK,f2,f3,v2,f4,i1,i2,f5,f6,b1,f7,h⟩
    erw[v1,f1,l',kK,f2,f3,v2,f4,i1,i2,f5,f6,b1,f7,As ?_ (hq _ _) h];rintro⟨v3,f8,a',wz,fs',u',f9,yL,yK,v4,Mi,i3,i4,Mh,Mg,b2,AY,h⟩;erw[v3,f8,a',wz,fs',u',f9,yL,yK,v4,Mi,i3,i4,Mh,Mg,b2,AY,As ?_ (hq _ _) h];rintro⟨v5,Mf,a2,wy,LY,Me,Md,Mc,a3,q3,M3,D3,S3,Mb,Ma,M9,M8,b3,M7,h⟩;erw[v5,Mf,a2,wy,LY,Me,Md,Mc,a3,q3,M3,D3,S3,Mb,Ma,M9,M8,b3,M7,hq _ _ h]
  ·rintro O H6 ⟨T,es,us,w8,rfl,bt,RT,raw,jd,EG,yO,UW,h1,my,dl,rd,mr,run⟩
   let(wu,iD,bv6,a2B,YN,e6,t1,t2,t3,t4):=RT.ob;have a7u:T.os≠[]:=by rw[jd];erw[eZ]
   have bH:∀{H7:Hp},aX [a] H6 H7->aX [a,q] H H7:=λ{H7} b7 b o' eb hb=>by
    have ha:b≠a:=λz=>hb (by rw[z];simp);erw[b7 _ _ (bt _ _ (xG _ _ eb) λhm=>?_) (by rw[bW];erw[ha])];simp only[bJ,cD,cX]at hm;rcases hm with h|h
    ·erw[ha h]
    ·rw[h,nl]at eb;cases eb
   erw[λO H7=>∃q' BX,O=cZ9 (.ref a) (cZ9 (.int most) (cZ9 y (cZ9 (.int (aP ns)) (cZ9 (.ref oT) (cZ9 uM (cZ9 vd (cZ9 (.ref l) (BX::[]))))))))/\cB K C H7 a q' M (gf ns T)/\Mv a q H q' H7/\l≠q'/\∃kK,H7 l=some (.lst kK)/\aO K H7 kK es,?_,?_]
   ·erw[_,Z,a,wu,_,_,Z,e6,Z,_,Z,.inl #[_,_,Z,Z,_,Z,?_]]
    show if decide ((T.dn:Int)=(aP ns:Int))=true then _ else _;by_cases c:T.dn=aP ns
    ·rw[cU aw]
     erw[cx ?_];erw[_,Z,a,wu,_,Z,e6,Z,a,q,M,D,T,Z,RT,raw,aM,a7u,λq' H7 R7 nq b7=>?_];have C1:cm H6 H7:=b7.v λx hx o' dP=>by rw[bW]at hx;rw[hx,e6]at dP;cases dP;trivial
     erw[q',_,Z,by unfold gf;rw[bE c];erw[R7],#[bH b7,.inr ?_],λz=>?_,us,b7 _ _ dl (by rw[bW];erw[al.symm]),aO.v C1 _ mr rd]
     ·cases e':H q' with |none=>rfl |some o'=>
      have h5:=xG _ _ e';by_cases ha:q'=a
      ·rw[ha,e6]at nq;cases nq
      ·by_cases fw:q'=l
       ·rw[fw,nl]at e';cases e'
       ·have:=bt _ _ h5 (by simp;erw[ha,fw])
        rw[nq]at this;cases this
     ·rw[<-z,dl]at nq;cases nq
    ·rw[fo aw]
     erw[bK ?_];erw[q,_,Z,by unfold gf;rw[bI c];erw[RT],#[bH (aX.refl _ _),.inl Z],ql.symm,us,dl,rd]
   ·rintro O H7 ⟨q',BX,rfl,R7,vv,lq,kK,lQ,m7⟩
    erw[_,Z,k l kK es (gf ns T) q' H7 nl lQ m7 run h1 my R7 vv lq]
end
section
theorem Mv.trans{q:Addr}(m1:Mv a q H q1 H1)(m2:Mv a q1 H1 q2 H2)(ha:H1 a≠none):Mv a q H q2 H2:=by
 erw[λb o e hb=>?_,?_]
 ·erw[m2.but _ _ (m1.but _ _ e hb) λhm=>?_]
  simp only[bJ,cD,cX]at hm hb;rcases hm with h|h
  ·erw[hb (.inl h)]
  ·rcases m1.nq with h1|h1
   ·erw[hb (.inr (h.trans h1))]
   ·rw[<-h]at h1;rw[h1]at e;cases e
 ·rcases m2.nq with h|h
  ·rw[h];erw[m1.nq]
  ·cases e:H q2 with |none=>erw[.inr rfl] |some o=>
   by_cases h1:q2=q
   ·erw[.inl h1]
   ·by_cases h2:q2=a
    ·rw[h2]at h;exact(ha h).elim
    ·have:=m1.but _ _ e (by simp;erw[h2,h1])
     rw[h]at this;cases this
inductive aeb(K:aa)(C:Addr)(vs:List V)(H:Hp)(Q:VK):Prop |mk (a:_)(q:_)(M:_)(D:_)(S:_)(most:_)(h0:vs=[.ref a,.int most])(h1:cB K C H a q M S)(h2:cu M D S)(h3:M.Ok)(h4:S.os≠[])(h5:¬Halt S.pc S.aY)(h6:1<=most)(h7:most<=1000)(h8:∀l ys es S' q' H',H l=none->H' l=some (.lst ys)->aO K H' ys es->Run M S es S'->1<=es.length->(es.length:Int)<=most->cB K C H' a q' M S'->Mv a q H q' H'->l≠q'->Q (.ref l) H')
def P8(K:aa)(C:Addr):Sp:=λvs H Q _=>aeb K C vs H Q
theorem Qk:bN ["self","most","item"] ["self","most"] (bj HK):=bZ bf
theorem a3F(F:MA K C "entries_of_first" "Runner.entries_of_first" HK)(TC:fX K C)(tR:aJ P w K mg aB "is_line" 1 (xx K))(a8G:cS P w K mg aB C "steps_of_first" 10 (P1 K C))(LM:cS P w K mg aB C "end_first" 3 (Gj K C)):cS P w K mg aB C "entries_of_first" 11 (P8 K C):=by
 erw[F.has Qk (λvs H Q E h=>?_) (λ_ _ _ _ _ _=>dS λ_ _=>rfl) (λf aQ A outer s H vs Q E hr h=>?_)]
 · let(a,q,M,D,S,most,rfl,_):=h
   rfl
 · let(a,q,M,D,S,most,rfl,R0,ok,aM,eZ,nh,m1,m2,k):=h
   let(dx,mv,bv,cA,tv,e,r1,r2,r3,r4):=R0.ob;let(ys,eq,rq):=R0.qu;have aq:=R0.ne;have nd:=Qk.nd;have ll:=ok.row.len;have qM:0<S.os.length:=by cases h:S.os with|nil=>exact(eZ h).elim|cons _ _=>simp
   obtain⟨d,ed⟩:∃d,S.ds[0]? =some d:=#[_,cC (show 0<S.ds.length by lia)];let(y,ey,ry):=rq.get 0 ed;let(o,eo,it):=ok.row.get ed;erw[_,(aG (pS 2 nd (px K (dj TC.cl TC.ja (pv 0)) aF)) (aG (bQ (cP (pf tR hr (au (pv 2) az))) (aI (aZ (tj a8G TC.cl (hr.mono aD) (pv 0) (au (pv 1) az)))) bV) (aG (ib (bQ (cy (dF K Z hr.units) (px K (pv 2) aF) bh (bM _)) (aI (ij TC.cl TC.JZ (pv 0) (px K (pv 2) aF))) bV)) (aG (ib (bQ (cy (dF K Z hr.units) (px K (pv 2) aF) bh (bM _)) (aI (ij TC.cl TC.K0 (pv 0) (px K (pv 2) aF))) bV)) (aG (ie (gu LM TC.cl (hr.mono aD) (pv 0))) (aI (aZ (dC (au (pv 2) az))))))))),?_];erw[_,Z,a,dx,_,_,Z,e,Z,.inl #[q,_,0,y,Z,Z,aK.of eq,dQ (hW 0) ey,?_]];erw[_,Z,y,d,o,Z,ry,it,_,Z,?_];cases o with |some z=>let(ns,sp):=z;erw[cx ?_];erw[_,Z,a,dx,_,Z,e,Z,_,Z,a,q,M,D,S,ns,sp,most,Z,R0,ok,aM,eo,nh,m1,m2,k] |none=>
     erw[bK ?_];have iL:=ok.rw 0 d eo ed;have wd:∃z u ya yr,d= .tuple [.str z,u]/\y= .ref ya/\aV K H ya (.str z::[yr])/\RD K H yr u/\SeqAt.shaped (.str z)=true:=by
      rcases iL with⟨n,rfl,_⟩|⟨w',s',rfl,hw,_⟩
      · let(ya,xs,rfl,h1,h2):=ry.fE
        let(x1,rr,rfl,e1,h2):=h2.cons_inv;let(x2,rr,rfl,e2,h2):=h2.cons_inv;cases h2.nil_inv;cases e1.str_inv;erw[_,_,ya,x2,Z,Z,h1,e2,bf]
      · let(ya,xs,rfl,h1,h2):=ry.fE
        let(x1,rr,rfl,e1,h2):=h2.cons_inv;let(x2,rr,rfl,e2,h2):=h2.cons_inv;cases h2.nil_inv;cases e1.str_inv;erw[_,_,ya,x2,Z,Z,h1,e2,by rcases hw with rfl|rfl<;>decide+kernel]
     let(z,u,ya,yr,rfl,rfl,Av,RE,sz):=wd;have tU:SeqAt.shaped (.str "tool")=true:=by decide+kernel
     have tM:SeqAt.shaped (.str "mark")=true:=by decide+kernel
     have eqT:∀(x y:Str),PyData.eqv (.str x) (.str y)=decide (x=y):=λx y=>by show(x==y)=decide (x=y);rw[pW];simp
     erw[λO H1=>O=cZ9 (.ref a) (cZ9 (.int most) (cZ9 (.ref ya) []))/\aX [a] H H1/\H1 a=some (.ins C dx (gc mv bv (.int S.dn) (.ref q) cA (.int S.aE) (.str (if z="tool" then(cH (.tuple [.str z,u]) S).side else S.side)) (.str S.mark) tv)),?_,?_]
     · erw[_,Z,.inr #[ya,_,0,.str z,Z,Z,Av,dQ (hW 0) Z,.inr #[_,_,df _,df _,sz,tU,_,Z,?_]]]
       rw[eqT];by_cases c:z="tool"
       · rw[cU c]
         erw[cx ?_];have hu:∃s',u= .str s':=by
          rcases iL with⟨n,h,_⟩|⟨w',s',h,hw,_⟩
          ·cases h;erw[absurd c bf]
          ·cases h;erw[_,rfl]
         let(s',rfl):=hu;cases RE.str_inv;erw[_,Z,.inr #[ya,_,1,.str s',Z,Z,Av,dQ aD Z,_,Z,a,dx,_,Z,e,by show 9<1000;decide,?_]];erw[Z,o8 (by simp),?_];rw[bE c];have es:(cH (.tuple [.str z,.str s']) S).side=s':=by unfold cH;simp only[bE c]
         rw[es];erw[bo]
       · rw[fo c]
         erw[bK #[Z,aX.refl _ _,?_]];rw[bI c];erw[e]
     rintro O H1 ⟨rfl,b1,e1⟩;have YD:cm H H1:=b1.v λx hx o' dP=>by rw[bW]at hx;rw[hx,e]at dP;cases dP;trivial
     have UD:=aV.v YD Av;erw[λO H2=>O=cZ9 (.ref a) (cZ9 (.int most) (cZ9 (.ref ya) []))/\aX [a] H H2/\H2 a=some (.ins C dx (gc mv bv (.int S.dn) (.ref q) cA (.int S.aE) (.str (cH (.tuple [.str z,u]) S).side) (.str (cH (.tuple [.str z,u]) S).mark) tv)),?_,?_]
     · erw[_,Z,.inr #[ya,_,0,.str z,Z,Z,UD,dQ (hW 0) Z,.inr #[_,_,df _,df _,sz,tM,_,Z,?_]]]
       rw[eqT];by_cases c:z="mark"
       · rw[cU c]
         erw[cx ?_];have nt:¬z="tool":=by rw[c];decide+kernel
         rw[bI nt]at e1;have hu:∃s',u= .str s':=by
          rcases iL with⟨n,h,_⟩|⟨w',s',h,hw,_⟩
          ·cases h;erw[absurd c bf]
          ·cases h;erw[_,rfl]
         let(s',rfl):=hu;cases RE.str_inv;erw[_,Z,.inr #[ya,_,1,.str s',Z,Z,UD,dQ aD Z,_,Z,a,dx,_,Z,e1,by show 9<1000;decide,?_]];erw[Z,b1.trans (o8 (by simp)),?_];have es:(cH (.tuple [.str z,.str s']) S).side=S.side/\(cH (.tuple [.str z,.str s']) S).mark=s':=by constructor<;>(unfold cH;simp only[bI nt,bE c])
         rw[es.1,es.2];erw[bo]
       · rw[fo c]
         erw[bK #[Z,b1,?_]];have em:(cH (.tuple [.str z,u]) S).mark=S.mark:=by
          unfold cH;split
          · next h => cases h;split
                      ·rfl
                      ·first|rfl|rw[bI c]
          ·rfl
         have es:(if z="tool" then(cH (.tuple [.str z,u]) S).side else S.side)=(cH (.tuple [.str z,u]) S).side:=by
          by_cases c2:z="tool"
          ·rw[bE c2]
          · rw[bI c2]
            unfold cH;split
            ·next h=>cases h;first|rfl|rw[bI c2,bI c]
            ·rfl
         rw[es]at e1;rw[em];erw[e1]
     rintro O H2 ⟨rfl,b2,e2⟩;have zt:cm H H2:=b2.v λx hx o' dP=>by rw[bW]at hx;rw[hx,e]at dP;cases dP;trivial
     let(RX,gF,ds',dn',pl'):=Cy ok.raw (.tuple [.str z,u]);have fx:(cH (.tuple [.str z,u]) S).pc=S.pc/\(cH (.tuple [.str z,u]) S).aE=S.aE/\(cH (.tuple [.str z,u]) S).aY=S.aY:=by
      unfold cH;split
      · split
        ·erw[Z,Z,Z]
        ·split<;>erw[Z,Z,Z]
      ·erw[Z,Z,Z]
     have R2:cB K C H2 a q M (cH (.tuple [.str z,u]) S):=by
      erw[#[dx,mv,bv,cA,tv,?_,RD.v zt _ (iE _ _ _ _ _) r1,?_,?_,?_],ys,b2 _ _ eq (by rw[bW];erw[aq.symm]),?_]
      ·rw[dn',fx.2.1];erw[e2]
      ·rw[pl'];erw[RD.v zt _ (gd _) r2]
      ·rw[fx.1];erw[r3.v zt]
      ·rw[fx.2.2];erw[r4.v zt]
      ·rw[ds'];erw[aO.v zt _ ok.row.no rq]
     erw[_,Z,a,dx,_,Z,e2,Z,a,q,M,D,_,Z,R2,RX,aM,by rw[gF];erw[eZ],λq' H3 R3 nq b3=>?_];have MV:=b2.trans b3;have YC:cm H H3:=MV.v λx hx o' dP=>by rw[bW]at hx;rw[hx,e]at dP;cases dP;trivial
     have vj:H q'=none:=by cases e':H q' with |none=>rfl |some o'=>
        by_cases ha:q'=a
        ·rw[ha,e2]at nq;cases nq
        · have:=b2 _ _ e' (by rw[bW];erw[ha])
          rw[nq]at this;cases this
     refine⟨_,Z,bU Z,λl H4 n4=>?_⟩;have nl:H l=none:=by cases e':H l with |none=>rfl |some o'=>
        by_cases ha:l=a
        · let(dx3,_,_,_,_,e3,_):=R3.ob
          have:=n4.no;rw[ha,e3]at this;cases this
        · have:=MV _ _ e' (by rw[bW];erw[ha])
          rw[n4.no]at this;cases this
     have JN:cu M D (je (cH (.tuple [.str z,u]) S)):=RX.end (by rw[gF];erw[eZ]);erw[k l [.ref ya] [.tuple [.str z,u]] _ q' H4 nl n4.at' (cj (RD.v (YC.trans n4.same.v) _ (iM.mp ok.row.no _ (hO ed)) ry) dc) (.cons (.iL eo ed nh) (.nil _)) (by simp) (by simpa using m1) (R3.same JN.row.no n4.same) #[λb o' eb hb=>n4.same _ _ (MV _ _ eb (by rw[bW];intro h;erw[hb (by rw[h];simp)])),.inr vj] ?_];intro h;have:=n4.no;let(yq,eq3,_):=R3.qu;rw[h,eq3]at this;cases this
inductive aec(K:aa)(C:Addr)(vs:List V)(H:Hp)(Q:VK):Prop |mk (a:_)(q:_)(M:_)(D:_)(S:_)(n:_)(h0:vs=[.ref a,.int n])(h1:cB K C H a q M S)(h2:cu M D S)(h3:M.Ok)(h4:0<=n)(h5:n<=1000)(h6:∀l ys es S' q' H',H l=none->H' l=some (.lst ys)->aO K H' ys es->Run M S es S'->(es.length:Int)<=n->((es.length:Int)=n\/S'.os=[]\/Halt S'.pc S'.aY)->cB K C H' a q' M S'->Mv a q H q' H'->l≠q'->Q (.ref l) H')
def Gi(K:aa)(C:Addr):Sp:=λvs H Q _=>aec K C vs H Q
theorem Ql:bN ["self","n","told"] ["self","n"] (bj HL):=bZ bf
theorem a3G(F:MA K C "entries" "Runner.entries" HL)(TC:fX K C)(B:cn mg)(AJ:cS P w K mg aB C "is_halted" 2 (fu K C λ_ S H Q=>Q (.bl (S.aY.isSome&&decide (S.pc=0))) H))(a8N:cS P w K mg aB C "entries_of_first" 11 (P8 K C)):cS P w K mg aB C "entries" 12 (Gi K C):=by
 erw[F.has Ql (λvs H Q E h=>?_) (λ_ _ _ _ _ _=>dS λ_ _=>rfl) (λf aQ A outer s H vs Q E hr h=>?_)]
 ·let(a,q,M,D,S,n,rfl,_):=h
  rfl
 ·let(a,q,M,D,S,n,rfl,R0,ok,aM,n0,n1,k):=h
  have nd:=Ql.nd;erw[_,(aG (pS 2 nd (dC az)) (aG (ib (oK iJ (PW.pt (oJ (cy ko (eK K B (au (pv 2) az)) (pv 1) (bM _)) (oJ (Jr K Z (dj TC.cl TC.ja (pv 0))) (sX (dX (cP (gu AJ TC.cl (hr.mono aD) (pv 0)))))))) (aI (ie (a2y K Z (pv 2) (au (tj a8N TC.cl (hr.mono aD) (pv 0) (au (aL gX (pv 1) (eK K B (au (pv 2) az))) az)) az)))))) (aI (aZ (pv 2))))),?_];erw[bU Z,λl H1 nw=>?_];let(dx,mv,bv,cA,tv,e,r1,r2,r3,r4):=R0.ob;let(ys,eq,rq):=R0.qu;have al:a≠l:=λz=>by have:=nw.no;rw[<-z,e]at this;cases this
  have ql:q≠l:=λz=>by have:=nw.no;rw[<-z,eq]at this;cases this
  have hq0:H q≠none:=by rw[eq];simp
  have ha0:H a≠none:=by rw[e];simp
  erw[λO H2=>∃es S' q' us,O=cZ9 (.ref a) (cZ9 (.int n) (cZ9 (.ref l) []))/\cB K C H2 a q' M S'/\H2 l=some (.lst us)/\aO K H2 us es/\Run M S es S'/\(es.length:Int)<=n/\((es.length:Int)=n\/S'.os=[]\/Halt S'.pc S'.aY)/\Mv a q H q' H2/\l≠q',?_,?_]
  ·erw[om (λO H2=>∃es S' q' us,O=cZ9 (.ref a) (cZ9 (.int n) (cZ9 (.ref l) []))/\cB K C H2 a q' M S'/\H2 l=some (.lst us)/\aO K H2 us es/\Run M S es S'/\(es.length:Int)<=n/\Mv a q H q' H2/\l≠q') (λ_ H2=>match H2 l with|some (.lst us)=>2000-us.length|_=>0) ?_ ?_ ?_]
   ·erw[[],S,q,[],Z,R0.same ok.row.no nw.same,nw.at',dc,.nil _,by simpa using n0,#[.of nw.same,.inl rfl],ql.symm]
   ·rintro O H2 ⟨es,S',q',us,rfl,R2,dl,rd,run,my,yc,lq⟩
    have jS:=run.ok ok aM;have mr:=run.no ok aM;have lu:=rd.length;let(wy,mv2,bv2,ag5,tv2,e2,t1,t2,t3,t4):=R2.ob;let(yq,eq2,rq2):=R2.qu;have ye:=rq2.length;have Am:=jS.row.len;erw[_,Z,l,us,Z,.inl (aK.of dl),_,Z,_,_,Z,Z,_,Z,?_];show if decide ((us.length:Int)<n)=true then _ else _;by_cases c1:(us.length:Int)<n
    ·rw[cU c1]
     erw[cx ?_];erw[_,Z,a,wy,_,_,Z,e2,Z,_,.inl #[_,aK.of eq2,Z],?_];cases kB:S'.os with |nil=>have:yq=[]:=FD.mp (by rw[ye,Am,kB];rfl);subst this;erw[bK ?_];erw[es,S',q',us,Z,R2,dl,rd,run,my,.inr (.inl kB),yc,lq] |cons o os=>
      have eZ:S'.os≠[]:=by rw[kB];simp
      have:∃y yr,yq=y::yr:=by cases yq with |nil=>rw[Am,kB]at ye;simp at ye |cons y yr=>erw[y,yr,Z]
      let(y,yr,rfl):=this;erw[cx ?_];erw[_,Z,a,wy,_,Z,e2,Z,a,q',M,D,S',Z,R2,jS,aM,_,Z,?_];by_cases c3:Halt S'.pc S'.aY
      ·have hb:(S'.aY.isSome&&decide (S'.pc=0))=true:=by let(h1,h2):=c3;rw[cU h2,NS];cases hs:S'.aY with |none=>exact(h1 hs).elim |some _=>rfl
       rw[hb];erw[bK #[es,S',q',us,Z,R2,dl,rd,run,my,.inr (.inr c3),yc,lq]]
      ·have hb:(S'.aY.isSome&&decide (S'.pc=0))=false:=by cases hs:S'.aY with |none=>rfl |some _=>show decide (S'.pc=0)=false;erw[fo λh2=>c3 #[by rw[hs];simp,h2]]
       rw[hb];erw[cx ?_];erw[_,Z,.inl #[Z,_,aK.of dl],?_];erw[_,Z,a,wy,_,Z,e2,Z,_,Z,_,Z,l,us,Z,.inl (aK.of dl),_,_,Z,Z,?_];erw[a,q',M,D,S',_,Z,R2,jS,aM,eZ,c3,aw,aw,λl2 y2 fs S2 q2 H3 Dh wA mR qq f1 f2 R3 Dp lq2=>?_];have Yz:=R2.v Dp.but;have yT:=Dp.but _ _ dl (by simp;erw[al.symm,lq]);have Jd:=aO.v Yz _ mr rd;have ly2:=mR.length;have jY:sizeLine=16777216:=by decide
       erw[l,l2,us,y2,Z,Z,yT,wA,aw,?_];have vu:cm H3 (_L.upd H3 l (.lst (us++y2))):=.upd yT trivial;have a7r:=qq.no jS aM;have fJ:=qq.ok jS aM;have TR:l≠q2:=λz=>by
        rcases Dp.nq with h|h
        ·erw[lq (z.trans h)]
        ·rw[<-z,dl]at h;cases h
       erw[#[es++fs,S2,q2,us++y2,Z,R3.go fJ.row.no vu (λo' dP=>by rw[aR al];erw[dP]) (λo' dP=>by rw[aR TR.symm];erw[dP]),bo,(aO.v vu _ mr Jd).append (aO.v vu _ a7r mR),run.trans qq,by rw[fN];lia,?_,TR],?_]
       ·have m:=yc.trans Dp (by rw[e2];simp)
        erw[λb o' eb hb=>by
         have fw:b≠l:=λz=>by have:=nw.no;rw[<-z,eb]at this;cases this
         rw[aR fw];erw[m.but _ _ eb hb],m.nq]
       ·show(match(_L.upd H3 l (.lst (us++y2))) l with|some (.lst us)=>2000-us.length|_=>0)<(match H2 l with|some (.lst us)=>2000-us.length|_=>0)
        rw[bo,dl];show 2000-(us++y2).length<2000-us.length;rw[fN]
        lia
    ·rw[fo c1]
     erw[bK ?_];erw[es,S',q',us,Z,R2,dl,rd,run,my,.inl aw,yc,lq]
   ·rintro O H6 Q1 Q2 hq ⟨v1,f1,l',kK,f2,f3,v2,f4,i1,i2,f5,f6,b1,f7,h⟩
    erw[v1,f1,l',kK,f2,f3,v2,f4,i1,i2,f5,f6,b1,f7,As ?_ (hq _ _) h];rintro⟨v3,f8,a',wz,fs',u',f9,yL,yK,b2,AY,h⟩;erw[v3,f8,a',wz,fs',u',f9,yL,yK,b2,AY,As ?_ (hq _ _) h];rintro⟨v5,Mf,a2,wy,LY,Me,Md,Mc,a3,q3,M3,D3,S3,Mb,Ma,M9,M8,b3,M7,h⟩;erw[v5,Mf,a2,wy,LY,Me,Md,Mc,a3,q3,M3,D3,S3,Mb,Ma,M9,M8,b3,M7,hq _ _ h]
  ·rintro O H2 ⟨es,S',q',us,rfl,R2,dl,rd,run,my,mz,yc,lq⟩
   erw[_,Z,k l us es S' q' H2 nw.no dl rd run my mz R2 yc lq]
end
section
theorem cB.CV{q:Addr}(R:cB K C H a q M S)(e:H a=some (.ins C dx (gc mv bv (.int S.dn) (.ref q) cA (.int S.aE) (.str S.side) (.str S.mark) tv))){yY D5 C5:V}(hn:du S.ds=true)(hd:S'.ds=S.ds) (r1:RD K H mv M.D)(r2:RD K H yY (fF S'.pl))(r3:bO K H D5 S'.pc)(r4:za K H C5 S'.aY):cB K C (_L.upd H a (.ins C dx (gc mv yY (.int S'.dn) (.ref q) D5 (.int S'.aE) (.str S'.side) (.str S'.mark) C5))) a q M S':=by
 have v:cm H (_L.upd H a (.ins C dx (gc mv yY (.int S'.dn) (.ref q) D5 (.int S'.aE) (.str S'.side) (.str S'.mark) C5))):=.upd e trivial;let(ys,eq,rq):=R.qu;erw[#[dx,mv,yY,D5,C5,bo,RD.v v _ (iE _ _ _ _ _) r1,RD.v v _ (gd _) r2,r3.v v,r4.v v],ys,?_,?_]
 ·rw[aR R.ne.symm];erw[eq]
 ·rw[hd];erw[aO.v v _ hn rq]
theorem Qe:bN ["self","rate"] ["self","rate"] (bj CC):=bZ bf
inductive ae2(K:aa)(C:Addr)(vs:List V)(H:Hp)(Q:VK):Prop |mk (a:_)(q:_)(M:_)(D:_)(S:_)(aE:_)(h0:vs=[.ref a,.int aE])(h1:cB K C H a q M S)(h2:cu M D S)(h3:M.Ok)(h4:10<=aE)(h5:aE<=200)(h6:S.pc=0)(h7:∀H',cB K C H' a q M {S with aE:=aE}->aX [a] H H'->Q (.int aE) H')
def P0(K:aa)(C:Addr):Sp:=λvs H Q _=>ae2 K C vs H Q
theorem SR(F:MA K C "turn_rate" "Runner.turn_rate" CC)(TC:fX K C)(AB:aJ P w K mg aB "is_rate" 3 (zH K))(wa:cS P w K mg aB C "stands" 1 (fu K C λ_ S H Q=>Q (.bl (decide (S.pc=0))) H)):cS P w K mg aB C "turn_rate" 4 (P0 K C):=by
 erw[F.has Qe (λvs H Q E h=>?_) (λ_ _ _ _ _ _=>dS λ_ _=>rfl) (λf aQ A outer s H vs Q E hr h=>?_)]
 ·let(a,q,M,D,S,aE,rfl,_):=h
  rfl
 ·let(a,q,M,D,S,aE,rfl,R,ok,aM,h1,h2,hp,k):=h
  let(dx,mv,bv,cA,tv,e,r1,r2,r3,r4):=R.ob;erw[_,(aG (bQ (dX (cP (pf AB hr (au (pv 1) az)))) (aI nK) bV) (aG (bQ (dX (cP (gu wa TC.cl (hr.mono aD) (pv 0)))) (aI nK) bV) (aG (ij TC.cl TC.y9 (pv 0) (pv 1)) (aI (aZ (pv 1)))))),?_];erw[_,Z,_,.int aE,Z,cF _,_,Z,?_];have er:mS (.int aE)=true:=by show(decide (10<=aE)&&decide (aE<=200))=true;rw[cU h1,cU h2];rfl
  rw[er];erw[bK ?_];erw[_,Z,a,dx,_,Z,e,Z,a,q,M,D,S,Z,R,ok,aM,_,Z,?_];rw[cU hp];erw[bK ?_];erw[_,Z,_,Z,a,dx,_,Z,e,by show 9<1000;decide,?_];erw[_,Z,k _ (R.CV (S':={S with aE:=aE}) e ok.row.no rfl r1 r2 r3 r4) (o8 (by simp))]
theorem a0A:bN ["self"] ["self"] (bj HH):=bZ bf
inductive ae8(K:aa)(C:Addr)(vs:List V)(H:Hp)(Q:VK):Prop |mk (a:_)(q:_)(M:_)(D:_)(S:_)(h0:vs=[.ref a])(h1:cB K C H a q M S)(h2:cu M D S)(h3:∀H',cB K C H' a q M {S with aY:=none}->aX [a] H H'->Q (.int (S.ds.length:Nat)) H')
def P6(K:aa)(C:Addr):Sp:=λvs H Q _=>ae8 K C vs H Q
theorem a3D(F:MA K C "go" "Runner.go" HH)(TC:fX K C)(B:cn mg):cS P w K mg aB C "go" 1 (P6 K C):=by
 erw[F.has a0A (λvs H Q E h=>?_) (λ_ _ _ _ _ _=>fj λ_=>rfl) (λf aQ A outer s H vs Q E hr h=>?_)]
 ·let(a,q,M,D,S,rfl,_):=h
  rfl
 ·let(a,q,M,D,S,rfl,R,ok,k):=h
  let(dx,mv,bv,cA,tv,e,r1,r2,r3,r4):=R.ob;let(ys,eq,rq):=R.qu;erw[_,(aG (ij TC.cl TC.y8 (pv 0) j7) (aI (aZ (eK K B (au (dj TC.cl TC.ja (pv 0)) az))))),?_];erw[_,Z,a,dx,_,Z,e,by show 9<1000;decide,?_];have mG:(_L.upd H a (.ins C dx (gc mv bv (.int S.dn) (.ref q) cA (.int S.aE) (.str S.side) (.str S.mark) .bF))) q=some (.lst ys):=by rw[aR R.ne.symm];erw[eq]
  erw[_,Z,a,dx,_,_,Z,bo,Z,q,_,Z,.inl (aK.of mG),?_];rw[rq.length];erw[k _ (R.CV (S':={S with aY:=none}) e ok.row.no rfl r1 r2 r3 rfl) (o8 (by simp))]
def jt(f:Int)(pc:Rat):Int:=(pc.num+2*f*(pc.den:Int)-1)/(2*f*(pc.den:Int))
theorem ZX(hf:1<=f){pc:Rat}(h:0<=pc):(0<=jt f pc)/\(jt f pc=0->pc=0)/\pc<=((2*f*jt f pc:Int):Rat)/\(pc<=1600->jt f pc<=1000):=by
 have hn:=Nl.mpr h;have hd:0<2*f*(pc.den:Int):=jh aw (den_pos pc);have hd1:2*(pc.den:Int)<=2*f*(pc.den:Int):=by
  have:2*1*(pc.den:Int)<=2*f*(pc.den:Int):=NN aw aw
  lia
 unfold jt;generalize hD:2*f*(pc.den:Int)=dd at hd hd1;have q1:=Int.mul_ediv_add_emod (pc.num+dd-1) dd;have q2:=pV (pc.num+dd-1) (show dd≠0 by lia);have q3:=uH (pc.num+dd-1) hd;have q0:0<=(pc.num+dd-1)/dd:=Int.ediv_nonneg aw aw;generalize hQ:(pc.num+dd-1)/dd=Q at q0 q1;generalize(pc.num+dd-1)%dd=R at q1 q2 q3;have hle:pc.num<=dd*Q:=by lia
 erw[q0,λe=>?_,?_,λhm=>?_]
 ·rw[e,Int.mul_zero]at hle
  have:pc.num=0:=by lia
  erw[Rat.num_eq_zero.mp this]
 ·erw[BD.mp λcK=>?_]
  rw[Ft,Nm,Nq]at cK;have e1:2*f*Q*(pc.den:Int)=dd*Q:=by rw[<-hD,Int.mul_right_comm]
  rw[e1]at cK
  lia
 ·have wg:¬((1600:Rat)<pc):=BD.mpr hm
  rw[Ft]at wg;have e1:(1600:Rat).num=1600:=rfl;have e2:(1600:Rat).den=1:=rfl;rw[e1,e2]at wg;have h3:pc.num<=1600*(pc.den:Int):=by lia
  erw[Int.not_lt.mp λcK=>?_];have h4:dd*1001<=dd*Q:=NO aw aw
  lia
theorem Qf:bN ["self","p","q","in_one"] ["self"] (bj Hn):=bZ bf
theorem a3q(F:MA K C "stops_in" "Runner.stops_in" Hn)(TC:fX K C):cS P w K mg aB C "stops_in" 1 (fu K C λM S H Q=>Q (.int (jt M.f S.pc)) H):=by
 erw[F.has Qf (λvs H Q E h=>?_) (λ_ _ _ _ _ _=>fj λ_=>rfl) (λf aQ A outer s H vs Q E hr h=>?_)]
 ·let(a,q,M,D,S,rfl,_):=h
  rfl
 ·let(a,q,M,D,S,rfl,R,ok,aM,k):=h
  let(dx,mv,bv,cA,tv,e,r1,r2,(pa,rfl,vM),r4):=R.ob;have nd:=Qf.nd;have uc:=aM.f1;let(ma,mb,rfl,iH,kC):=mj r1;have bd:Bd 1600 S.pc:=(ok.pd.bd (fz ok.pm bf)).mono (by have:=ok.D2;lia);have hd:0<2*M.f*(S.pc.den:Int):=jh aw (den_pos S.pc);have wd:Wd (2*M.f*(S.pc.den:Int)):=by
   erw[iW (n:=1700) ?_ aD];rw[gD];have h1:(2*M.f).natAbs<2^7:=by lia
   have:=mh h1 bd.den;erw[gP this (uE aD aD)]
  erw[_,(aG (fP (dj TC.cl TC.tL (pv 0)) (eg K rfl (n:=2) rfl (cf (bR 1 nd) (cf (bR 2 nd) dZ)))) (aG (pS 3 nd (aL cg (aL cg aF (px K (dj TC.cl TC.oP (pv 0)) aF)) (pv 2))) (aI (aZ (aL nM (aL gX (aL cZ (pv 1) (pv 3)) aF) (pv 3)))))),?_];erw[_,Z,a,dx,_,_,Z,e,Z,pa,_,Z,vM,Z,_,_,Z,_,_,Z,Z,?_];erw[_,Z,a,dx,_,_,Z,e,Z,.inr #[ma,_,2,.int M.f,Z,Z,iH,Z,_,_,Z,Z,.of_left (cE aD aD),?_]];erw[_,Z,_,_,Z,Z,.of_left (cE aw aw),?_];erw[_,Z,_,Z,_,_,Z,Z,_,_,Z,Z,_,Z,_,_,Z,Z,#[hd,wd],?_];erw[k]
theorem Qj:bN ["self","steps"] ["self"] (bj Hx):=bZ bf
def jD(M:bP)(S:bp):bp:=match S.aY with |none=>{S with aY:=some (S.pc,jt M.f S.pc,0)} |some _=>S
inductive ae7(K:aa)(C:Addr)(vs:List V)(H:Hp)(Q:VK):Prop |mk (a:_)(q:_)(M:_)(D:_)(S:_)(h0:vs=[.ref a])(h1:cB K C H a q M S)(h2:cu M D S)(h3:M.Ok)(h4:∀H',cB K C H' a q M (jD M S)->aX [a] H H'->Q (.int (jt M.f S.pc)) H')
def P5(K:aa)(C:Addr):Sp:=λvs H Q _=>ae7 K C vs H Q
theorem cu.hold{D:Nat}(h:cu M D S)(aM:M.Ok)(hD:D<=1490):cu M (D+10) (jD M S):=by have D1:=h.D1;unfold jD;cases hs:S.aY with |some z=>show cu M (D+10) S;have st:=h.aY;erw[h.row,h.rw,h.len,h.dG,h.dN,h.dn,h.pl,h.pd.mono aw,h.pm,?_,aw,aw];rw[hs]at st⊢;let(sq,iB,gn):=z;let(a1,a2,a3,a4,a5):=st;erw[a1,a2,a3,a4.mono aw,a5] |none=>let(z1,z2,z3,z4):=ZX aM.f1.1 h.pd.nn;erw[h.row,h.rw,h.len,h.dG,h.dN,h.dn,h.pl,h.pd.mono aw,h.pm,?_,aw,aw];erw[hW _,z1,z4 h.pm,h.pd,fz h.pm bf,z2,?_];show S.pc*(jt M.f S.pc:Rat)<=S.pc*((jt M.f S.pc-0:Int):Rat);rw[Int.sub_zero];erw[rX]
theorem a3A(F:MA K C "hold" "Runner.hold" Hx)(TC:fX K C)(LJ:cS P w K mg aB C "stops_in" 1 (fu K C λM S H Q=>Q (.int (jt M.f S.pc)) H))(wc:cS P w K mg aB C "is_held" 1 (fu K C λ_ S H Q=>Q (.bl S.aY.isSome) H)):cS P w K mg aB C "hold" 2 (P5 K C):=by
 erw[F.has Qj (λvs H Q E h=>?_) (λ_ _ _ _ _ _=>fj λ_=>rfl) (λf aQ A outer s H vs Q E hr h=>?_)]
 ·let(a,q,M,D,S,rfl,_):=h
  rfl
 ·let(a,q,M,D,S,rfl,R,ok,aM,k):=h
  let(dx,mv,bv,cA,tv,e,r1,r2,r3,r4):=R.ob;have nd:=Qj.nd;erw[_,(aG (pS 1 nd (gu LJ TC.cl (hr.mono aD) (pv 0))) (aG (ib (bQ (dX (cP (gu wc TC.cl (hr.mono aD) (pv 0)))) (aI (ij TC.cl TC.y8 (pv 0) (cQ (au (dj TC.cl TC.tL (pv 0)) (au (pv 1) (au aF az)))))) bV)) (aI (aZ (pv 1))))),?_];erw[_,Z,a,dx,_,Z,e,Z,a,q,M,D,S,Z,R,ok,aM,?_];erw[λO H1=>O=cZ9 (.ref a) (cZ9 (.int (jt M.f S.pc)) [])/\cB K C H1 a q M (jD M S)/\aX [a] H H1,?_,?_]
  ·erw[_,Z,a,dx,_,Z,e,Z,a,q,M,D,S,Z,R,ok,aM,_,Z,?_]
   cases hs:S.aY with |some z=>erw[bK #[Z,?_,aX.refl _ _]];unfold jD;rw[hs];erw[R] |none=>
    erw[cx ?_];erw[_,Z,a,dx,_,_,Z,e,Z,_,Z,bU Z,λt H1 n1=>?_];have e1:=n1.same _ _ e;erw[_,Z,a,dx,_,Z,e1,by show 9<1000;decide,?_];have eh:jD M S={S with aY:=some (S.pc,jt M.f S.pc,0)}:=by unfold jD;rw[hs]
    erw[Z,?_,λb o' eb hb=>?_]
    ·rw[eh]
     exact(R.same ok.row.no n1.same).CV (S':={S with aY:=some (S.pc,jt M.f S.pc,0)}) e1 ok.row.no rfl (RD.mono n1.same _ r1) (RD.mono n1.same _ r2) (r3.go n1.same) #[t,cA,Z,aV.of n1.at',r3.go n1.same]
    ·have ha:b≠a:=λz=>hb (by rw[z];simp)
     rw[aR ha];erw[n1.same _ _ eb]
  ·rintro O H1 ⟨rfl,R1,b1⟩
   erw[_,Z,k H1 R1 b1]
end
end _c
set_option maxHeartbeats 1000000
namespace _c
open PySem PySem.Spec PyProof.Rows _L _r _l _C _P
open _O (topR cornO mnO betR atO ownF leadF ownL OkI OkIs)
section
inductive aeG(K:aa)(vs:List V)(H:Hp)(Q:VK):Prop |mk (m:_)(iv:_)(aE:_)(rs:_)(r:_)(f:_)(j:_)(t:_)(ds:_)(os:_)(h0:vs=[m,iv,.int aE])(h1:RD K H m (jA rs r f j t))(h2:pI rs r f j t)(h3:RD K H iv (.list ds))(h4:iI rs.length ds os)(h5:ds.length<=100)(h6:10<=aE)(h7:aE<=200)(h8:∀l ys H',H l=none->H' l=some (.lst ys)->aO K H' ys ((ownL j aE os).map dk)->aH H H'->Q (.ref l) H')
def Pk(K:aa):Sp:=λvs H Q _=>aeG K vs H Q
def kn(j aE:Int)(os:List Itm)(i:Nat):List Rat:=(List.range (os.length+1)).map λk=>if k<=i then ownF j aE os k else 0
theorem xQ(j aE:Int)(os:List Itm)(i:Nat){k:Nat}(h:k<=os.length):(kn j aE os i)[k]? =some (if k<=i then ownF j aE os k else 0):=by unfold kn;rw[cV,cC (by simp;lia),wY];rfl
theorem qy(j aE:Int)(os:List Itm)(i:Nat):(kn j aE os i).length=os.length+1:=by simp[kn]
theorem Sv(j aE:Int)(os:List Itm)(i:Nat)(h:i+1<=os.length):(kn j aE os i).set (i+1) (ownF j aE os (i+1))=kn j aE os (i+1):=by
 apply uF;intro k;by_cases hk:k<=os.length
 ·rw[xQ j aE os (i+1) hk,List.getElem?_set]
  by_cases e:i+1=k
  ·subst e
   rw[bE Z,bE (by rw[qy];lia),bE (ck _)]
  ·rw[bI e,xQ j aE os i hk]
   congr 1;by_cases h1:k<=i
   ·rw[bE h1,bE aw]
   ·rw[bI h1,bI aw]
 ·rw[mM (by rw[wX,qy];lia),mM (by rw[qy];lia)]
theorem a2J(j aE:Int)(os:List Itm)(i:Nat)(h:i+1<=os.length)(e:ownF j aE os (i+1)=0):kn j aE os (i+1)=kn j aE os i:=by
 apply uF;intro k;by_cases hk:k<=os.length
 ·rw[xQ j aE os (i+1) hk,xQ j aE os i hk]
  congr 1;by_cases h1:k<=i
  ·rw[bE h1,bE aw]
  ·rw[bI h1]
   by_cases h2:k=i+1
   ·subst h2;rw[bE (ck _),e]
   ·rw[bI aw]
 ·rw[mM (by rw[qy];lia),mM (by rw[qy];lia)]
theorem QW:bN ["_law_machine_here","_law_items","_law_rate_here","_law_found","_law_border","_law_one","_law_other_here","_law_a","_law_b","_law_gap","_law_corner"] ["_law_machine_here","_law_items","_law_rate_here"] (bj II):=bZ bf
theorem a4m(F:FA K mg "_law_bounds" II)(B:cn mg)(tZ:aJ P w K mg aB "_law_lead" 1 (mQ K))(we:aJ P w K mg aB "_law_min" 2 (kj K))(Ed:aJ P w K mg aB "_law_top" 2 (G9 K))(u6:aJ P w K mg aB "_law_frac" 1 (zI K)):aJ P w K mg aB "_law_bounds" 3 (Pk K):=by
 erw[F.has QW (λvs H Q E h=>?_) (λ_ _ _ _ _ _=>pG λ_ _ _=>rfl) (λf aQ A outer s H vs Q E hr h=>?_)]
 · let(m,iv,aE,rs,r,f,j,t,ds,os,rfl,_):=h
   rfl
 · let(m,iv,aE,rs,r,f,j,t,ds,os,rfl,rm,aM,ri,row,hz,dG,dN,k):=h
   have nd:=QW.nd;erw[_,(aG (Jt (i0:=3) nd Z (Or.inl Z) (N:=["_law_border"]) (js:=[none]) Z Z Z (xN Z (B.at "range") (au (aL cZ (eK K B (au (pv 1) az)) aF) az)) (λ_ _ _ _ _=>(bR 0 (vp _))) (λ_ _ _ _ _=>gs) (λ_ _ _ _ _=>(cQ (au aF (au aF az))))) (aG (m9 iJ Z (Se Z (B.at "range") (au aF (au (eK K B (au (pv 1) az)) az))) (bR 4 nd) (aG (qv (i:=5) (j:=6) Z nd Z Z aD Z Z (au (px K (pv 1) (aL gX (pv 4) aF)) (au (px K (pv 1) (pv 4)) az)) Z) (aI (bQ (PW.pt (oJ (cy (dF K Z hr.units) (px K (pv 5) aF) bh (bM _)) (sX (cy (dF K Z hr.units) (px K (pv 6) aF) bh (bM _))))) (aG (fP (cQ (au (pf tZ hr (au (pv 5) az)) (au (pf tZ hr (au (pv 6) az)) az))) (eg K Z (n:=2) Z (cf (bR 7 nd) (cf (bR 8 nd) dZ)))) (aG (pS 9 nd (eG (x:="max") (K7 K Z Z) Z (B.at "max") Fv (au (gU (N:=["_law_x","_law_y","_law_b","_law_a"]) (js:=[none,none,some 8,some 7]) rfl rfl rfl (kN K rfl false false rfl (B.at "zip") (au (px K (pv 5) aF) (au (px K (pv 6) aF) az))) (λ_ _ _ _ _=>(eg K rfl (n:=2) rfl (cf (bR 0 (show List.Nodup (["_law_x","_law_y","_law_b","_law_a"]:List Str) by decide+kernel)) (cf (bR 1 (show List.Nodup (["_law_x","_law_y","_law_b","_law_a"]:List Str) by decide+kernel)) dZ)))) (λ_ _ _ _ _=>gs) (λ_ _ _ _ _=>(eG (x:="abs") pF rfl (B.at "abs") rZ (au (aL gX (aL cg (pv 0) (pv 2)) (aL cg (pv 1) (pv 3))) az)))) az))) (aG (fP (pf we hr (au (dC (au (pf Ed hr (au (pv 5) (au (pv 2) az))) (au (pf Ed hr (au (pv 6) (au (pv 2) az))) az))) az)) (j4 (pv 3) (pv 4) set_list)) (aI (bQ (cy tE (pv 9) aF (bM _)) (aG (pS 10 nd (pf u6 hr (au (aL tD (aL cg (aL cg (px K (pv 0) aF) (pv 7)) (pv 8)) aF) (au (aL tD (pv 9) aF) az)))) (aI (fP (pf we hr (au (dC (au (px K (pv 3) (pv 4)) (au (pv 10) az))) az)) (j4 (pv 3) (pv 4) set_list)))) bV))))) bV)))) (aI (aZ (pv 3))))),?_];let(ia,xs,rfl,hi,jc):=ri.lst_inv;let(ma,mb,rfl,iH,kC):=mj rm;have lx:=jc.length;have ll:=row.len;have lr:=aM.len;erw[_,Z,ia,_,Z,.inl hi,_,_,Z,Z,_,Z,aw,aw,λD H1 n1=>?_];have eN:((xs.length:Int)+1).toNat=os.length+1:=by lia
   rw[eN];erw[abT (K:=K) (lo:=0) (n:=os.length+1) (ds:=(kn j aE os 0).map dk) _ n1 (by rw[cJ,qy]) aw (xY _) ?_ ?_]
   · intro i d H2 Q' ed s2 hq
     have UQ:i<=os.length:=by have:=(eQ.mp ed).1;rw[cJ,qy]at this;lia
     have e0:d=dk 0:=by
      rw[cV,xQ j aE os 0 UQ]at ed;have:=(fe ed).symm;rw[this];congr 1;split
      · next h => have:i=0:=by lia
                  subst this;rfl
      ·rfl
     subst e0;erw[bU Z,λz H3 n3=>?_];erw[hq _ _ n3.same (bO.rd #[z,Z,aV.of n3.at'])]
   intro H2 ys s2 d2 r2;erw[_,Z,ia,_,Z,.inl (hi.go s2),_,_,Z,#[aD,aD,aw,aw],?_];erw[AS (Pv:=λi O H5=>aH H H5/\∃(ys:List V)(v1 v2 v3 v4 v5 v6 v7:Option V),H5 D=some (.lst ys)/\aO K H5 ys ((kn j aE os i).map dk)/\O=cZ9 (.ref ma) (cZ9 (.ref ia) (cZ9 (.int aE) (cZ9 (.ref D) (v1::v2::v3::v4::v5::v6::v7::[]))))) ?_ ?_ ?_]
   ·erw[s2,ys,none,none,none,none,none,none,none,d2,r2,Z]
   · rintro i O H5 E3 ⟨s5,ys,v1,v2,v3,v4,v5,v6,v7,dl,sS,rfl⟩
     have hio:i+1<os.length:=by lia
     have pj:=cC (show i<os.length by lia);have nc:=cC hio;obtain⟨x1,uf⟩:∃x,xs[i]? =some x:=#[_,cC (show i<xs.length by lia)];obtain⟨x2,Ez⟩:∃x,xs[i+1]? =some x:=#[_,cC (show i+1<xs.length by lia)];let(d1,e1,r1):=jc.get' i uf;let(d2,e2,r2):=jc.get' (i+1) Ez;have i1:=row.it i d1 _ e1 pj;have i2:=row.it (i+1) d2 _ e2 nc;have DV:ownF j aE os (i+1)=betR j aE os[i] os[i+1]:=by show betR j aE (atO os i) (atO os (i+1))=_;rw[_O.rH pj,_O.rH nc]
     have Mx:((1:Int)+(i:Int)-1).toNat=i:=by lia
     have Mw:((1:Int)+(i:Int)).toNat=i+1:=by lia
     have MX:fW xs ((1:Int)+(i:Int)-1)=some x1:=dQ aw (by rw[Mx];erw[uf]);have at2:fW xs ((1:Int)+(i:Int))=some x2:=dQ aw (by rw[Mw];erw[Ez]);have UR:=hi.go s5;let(a1,w1,y1,rfl,h1,ew1,ZO):=yi (RD.mono s5 _ r1) i1;let(a2,w2,y2,rfl,h2,ew2,ZN):=yi (RD.mono s5 _ r2) i2;have same:os[i]=none\/os[i+1]=none->aO K H5 ys ((kn j aE os (i+1)).map dk):=λhn=>by
      rw[a2J j aE os i aw]
      ·erw[sS]
      · rw[DV]
        rcases hn with e|e
        ·rw[e];erw[_O.X6 _ _ _]
        ·rw[e];erw[_O.EU _ _ _]
     refine⟨_,Z,_,Z,_,_,Z,Z,.inl #[ia,_,_,_,Z,Z,UR,MX,_,Z,_,Z,.inl #[ia,_,_,_,Z,Z,UR,at2,_,_,Z,?_]]⟩;erw[_,Z,.inr #[a1,_,0,.str w1,Z,Z,h1,dQ (hW 0) Z,.inr #[_,_,df _,df _,ZO,vw,_,Z,?_]]];rw[ew1];cases KU:os[i]with |none=>erw[bK #[s5,ys,_,_,_,_,_,_,_,dl,same (.inl KU),Z]] |some q1=>erw[cx ?_];erw[_,Z,.inr #[a2,_,0,.str w2,Z,Z,h2,dQ (hW 0) Z,.inr #[_,_,df _,df _,ZN,vw,_,Z,?_]]];rw[ew2];cases yo:os[i+1]with |none=>erw[bK #[s5,ys,_,_,_,_,_,_,_,dl,same (.inr yo),Z]] |some q2=>
         erw[cx ?_];let(ns,sp):=q1;let(ms,sq):=q2;rw[KU]at i1 pj;rw[yo]at i2 nc;have EH:=lO i1;have ed2:=lO i2;subst EH ed2;let(gy,p1,p2):=row.ok i ns sp pj;let(fJ,q1,q2):=row.ok (i+1) ms sq nc;have T1:Bd 2000 (topR aE sp):=(_O.xb p1 p2 dG dN).mono aD;have T2:Bd 2000 (topR aE sq):=(_O.xb q1 q2 dG dN).mono aD;have l1:=An gy;have l2:=An fJ;have lq1:=gy.lead.1;have lq2:=fJ.lead.1;have ln1:ns.length<=3:=by rw[gy.len];lia
         have ln2:ms.length<=3:=by rw[fJ.len];lia
         have TZ:ms.length=ns.length:=by rw[gy.len,fJ.len]
         erw[_,Z,_,ns,sp,Z,RD.mono s5 _ r1,gy.ne,aw,λH6 s6=>?_];have Rm:=s5.trans s6;erw[_,Z,_,ms,sq,Z,RD.mono Rm _ r2,fJ.ne,aw,λH7 s7=>?_];erw[bU Z,λtq H7' K1=>?_];erw[tq,_,Z,aV.of K1.at',Z,_,_,Z,_,_,Z,Z,?_];have oE:=Rm.trans (s7.trans K1.same);have s67:=s6.trans (s7.trans K1.same);let(a1',b1,ea1,ha1,V4):=mV (RD.mono oE _ r1);let(a2',b2,ea2,ha2,nR):=mV (RD.mono oE _ r2);cases ea1;cases ea2;erw[_,Z,.inr #[a1,_,1,.ref b1,Z,Z,ha1,Z,_,Z,.inr #[a2,_,1,.ref b2,Z,Z,ha2,Z,b1,b2,Z,#[_,V4],#[_,nR],λD4 H8 n8=>?_]]];erw[wB (K:=K) (b1:=false) (b2:=false) (xs:=ns.map V.int) (ys:=ms.map V.int) (ds:=((eu ns ms).map jk).map PyData.int) _ Z V4 nR n8 (by simp[eu]) (by simp[eu];lia) (me _) ?_ ?_]
         · intro i x y d H9 Q' ex ey ed s9 hq
           let(a,b,e1,e2,rfl,rfl):=zip2 TZ ex ey;let(m,em,rfl):=nN ed;rw[cV,NU e1 e2]at em;cases em;have q1:=gy.bd a (hO e1);have q2:=fJ.bd b (hO e2);erw[_,Z,_,Z,_,_,Z,Z,.of_left (cE aw aw),?_];erw[_,Z,_,Z,_,_,Z,Z,.of_left (cE aw aw),?_];erw[_,_,Z,Z,_,Z,hq _ _ (aH.refl _) (cF _)]
         intro H9 zs s9 d9 r9;rw[r9.jC]at d9;have lg:eu ns ms≠[]:=by
          have hl:(eu ns ms).length=ns.length:=by simp[eu,TZ]
          intro e;rw[e]at hl;erw[gy.ne (FD.mp hl.symm)]
         erw[D4,_,Z,aK.of d9,by simpa using lg,λM h1 h2=>?_];have eM:=Kj lg h1 h2;subst eM;have Rk:=oE.trans s9;have s69:=s67.trans s9;erw[_,Z,_,Z,_,ns,sp,aE,Z,RD.mono Rk _ r1,p1,p2,dG,dN,λt1 kG J2 oF=>?_];erw[_,Z,_,Z,_,ms,sq,aE,Z,RD.mono (Rk.trans oF) _ r2,q1,q2,dG,dN,λt2 jn J1 CL=>?_];erw[bU Z,λlm uB Dn=>?_];have R1:bO K uB t1 (topR aE sp):=(J2.go CL).go Dn.same;have R2:bO K uB t2 (topR aE sq):=J1.go Dn.same;erw[lm,[t1,t2],[topR aE sp,topR aE sq],Z,aK.of Dn.at',#[R1,T1,R2,T2,trivial],by simp,λc lv q Mt W9 hq=>?_];have vJ:mn (topR aE sp) (topR aE sq)=q:=by
          erw[oS ?_ (hq _ (by simp)) (hq _ (by simp))]
          match c,W9 with |0,e2=>cases e2;erw[.inl rfl] |1,e2=>cases e2;erw[.inr rfl]
         have rl:bO K uB lv (mn (topR aE sp) (topR aE sq)):=by
          rw[vJ]
          match c,Mt,W9 with |0,e1,e2=>cases e1;cases e2;erw[R1] |1,e1,e2=>cases e1;cases e2;erw[R2]
         have a0F:=oF.trans (CL.trans Dn.same);have IQ:=s69.trans a0F;have MB:=IQ _ _ dl;have ly:=sS.length;rw[cJ,qy]at ly;have DH:kz ys.length ((1:Int)+(i:Int))=some (i+1):=by unfold kz;rw[bE aw,bE aw,Mw]
         erw[_,Z,_,Z,D,ys,_,_,Z,Z,MB,DH,?_];have Jc:=aO.Gx (i:=i+1) MB (aO.mono IQ _ sS) rl.rd (xY _) (sW _);have sD:∀{o:HO},aH H (_L.upd uB D o):=λ{o} b o' e=>by rw[aR (fZ e n1.no)];erw[IQ b o' (s5 b o' e)]
         have tU:jm uB (_L.upd uB D (.lst (ys.set (i+1) lv))):=.sH MB;erw[_,Z,_,_,Z,Z,_,Z,?_];rw[KU,yo]at DV;have cO:cornO j ns ms=if aP (eu ns ms)=0 then none else some (Rat.divInt ((j*aP ns*aP ms)^2) ((aP (eu ns ms):Int)^2)):=rfl;show if decide ((aP (eu ns ms):Int)>0)=true then _ else _;by_cases h0:aP (eu ns ms)=0
         · rw[fo aw]
           erw[bK ?_];rw[bE h0]at cO;erw[sD,ys.set (i+1) lv,_,_,_,_,_,_,_,bo,?_,Z];rw[<-BG]at Jc;have e:(kn j aE os i).set (i+1) (mn (topR aE sp) (topR aE sq))=kn j aE os (i+1):=by rw[<-Sv j aE os i aw,DV];show _=List.set _ _ (mnO _ (cornO j ns ms));rw[cO];rfl
           rw[<-e];erw[Jc]
         · rw[cU aw]
           erw[cx ?_];rw[bI h0]at cO;have jl:(j*aP ns).natAbs<=50*100:=mi (by have:=aM.j1;lia) aw;have jl2:(j*aP ns*aP ms).natAbs<=50*100*100:=mi jl aw;have cb:=EM (λz hz=>by have:=gy.bd z hz;lia) (λz hz=>by have:=fJ.bd z hz;lia) (ns:=ns) (ms:=ms);have lP:=oV cb;have mD:(2:Nat)^64=18446744073709551616:=by decide
           erw[_,Z,.inr #[ma,_,3,.int j,Z,Z,iH.go sD,Z,?_]];erw[_,Z,_,_,Z,Z,.of_left (cE (by have:=aM.j1;lia) (by have:=aM.j1;lia)),_,Z,_,_,Z,Z,.of_right (cE aw aw),?_];erw[_,_,Z,Z,#[aD,aD,by rw[mD];lia],_,Z,_,_,Z,Z,#[aD,aD,by rw[mD];lia],_,_,Z,?_,?_,λv6 Nf r6 dM=>?_]
           · show 0<(aP (eu ns ms):Int)^2
             rw[gC,gC,mO,lU];erw[jh aw aw]
           · erw[iW (n:=64) ?_ aD]
             show((aP (eu ns ms):Int)^2).natAbs<_;rw[gC,gC,mO,lU,mD];have:=mi (a:=(aP (eu ns ms):Int)) (b:=(aP (eu ns ms):Int)) (m:=2000000) (n:=2000000) aw aw
             lia
           have Rc:bO K Nf v6 (Rat.divInt ((j*aP ns*aP ms)^2) ((aP (eu ns ms):Int)^2)):=r6;have Tc:Bd 2000 (Rat.divInt ((j*aP ns*aP ms)^2) ((aP (eu ns ms):Int)^2)):=(_O.MJ aM.j1.1 aM.j1.2 gy.bd fJ.bd cO).mono aD;generalize Rat.divInt ((j*aP ns*aP ms)^2) ((aP (eu ns ms):Int)^2)=cq at Rc Tc cO;have Wl:=dM _ _ (bo (H:=uB) (a:=D) (o:=.lst (ys.set (i+1) lv)));have at3:fW (ys.set (i+1) lv) ((1:Int)+(i:Int))=some lv:=dQ aw (by rw[Mw,BH aw]);have adj:bO K Nf lv (mn (topR aE sp) (topR aE sq)):=oH (RD.mono dM _ (RD.t tU _ (sW _) rl.rd));erw[_,Z,_,Z,.inl #[D,_,_,_,Z,Z,aK.of Wl,at3,_,Z,?_]];erw[bU Z,λKh XG yb=>?_];have Xv:=adj.go yb.same;have Xu:=Rc.go yb.same;erw[Kh,[lv,v6],[mn (topR aE sp) (topR aE sq),cq],Z,aK.of yb.at',#[Xv,_O.Ai T1 T2,Xu,Tc,trivial],by simp,λc' lv2 q' abd W8 kS=>?_];have a7d:mn (mn (topR aE sp) (topR aE sq)) cq=q':=by
            erw[oS ?_ (kS _ (by simp)) (kS _ (by simp))]
            match c',W8 with |0,e2=>cases e2;erw[.inl rfl] |1,e2=>cases e2;erw[.inr rfl]
           have J8:bO K XG lv2 (mn (mn (topR aE sp) (topR aE sq)) cq):=by
            rw[a7d]
            match c',abd,W8 with |0,e1,e2=>cases e1;cases e2;erw[Xv] |1,e1,e2=>cases e1;cases e2;erw[Xu]
           have Wj:=yb.same _ _ Wl;erw[_,Z,_,Z,D,_,_,_,Z,Z,Wj,(by rw[wX];erw[DH]),?_];have RQ:=aO.Gx (i:=i+1) Wj (aO.mono (dM.trans yb.same) _ Jc) J8.rd (by rw[<-BG];erw[xY _]) (sW _);erw[λb o' e=>by rw[aR (fZ e n1.no)];erw[yb.same b o' (dM b o' (sD b o' e))],_,_,_,_,_,_,_,_,bo,?_,Z];rw[NG,NG,<-BG]at RQ;have e:(kn j aE os i).set (i+1) (mn (mn (topR aE sp) (topR aE sq)) cq)=kn j aE os (i+1):=by rw[<-Sv j aE os i aw,DV];show _=List.set _ _ (mnO _ (cornO j ns ms));rw[cO];rfl
           rw[<-e,NG];erw[RQ]
   · rintro O H5 ⟨s5,ys,v1,v2,v3,v4,v5,v6,v7,dl,sS,rfl⟩
     have e:kn j aE os ((xs.length:Int)-1).toNat=ownL j aE os:=by
      apply uF;intro k;by_cases hk:k<=os.length
      · rw[xQ j aE os _ hk,_O.Sx j aE os hk]
        congr 1;split
        ·rfl
        · have:k=os.length:=by lia
          exact(_O.JG j aE os k this).symm
      ·rw[mM (by rw[qy];lia),mM (by rw[_O.Sw];lia)]
     rw[e]at sS;erw[_,Z,k D ys H5 n1.no dl sS s5]
end
end _c
namespace _c
open PySem PySem.Spec PyProof.Rows _L _r _l
section
inductive adH(K:aa)(vs:List V)(H:Hp)(Q:VK):Prop |mk (m:_)(sq:_)(rs:_)(r:_)(f:_)(j:_)(ti:_)(q:_)(h0:vs=[m,sq])(h1:RD K H m (jA rs r f j ti))(h2:bO K H sq q)(h3:Bd 2000 q)(h4:1<=ti)(h5:ti<=100)(h6:0<q.num)(h7:∀T,1<=T->T.natAbs<2^2400->gM ti q T=true->gM ti q (T-1)=false->∀H',aH H H'->Q (.int T) H')
def OP(K:aa):Sp:=λvs H Q _=>adH K vs H Q
theorem PQ:bN ["_law_machine_here","_law_square","_law_wanted","_law_low","_law_high","_law_half"] ["_law_machine_here","_law_square"] (bj GJ):=bZ bf
theorem a38(F:FA K mg "_law_ticks" GJ)(B:cn mg):aJ P w K mg aB "_law_ticks" 1 (OP K):=by
 erw[F.has PQ (λvs H Q E h=>?_) (λ_ _ _ _ _ _=>dS λ_ _=>rfl) (λf aQ A outer s H vs Q E hr h=>?_)]
 · let(m,sq,rs,r,f,j,ti,q,rfl,_):=h
   rfl
 · let(m,sq,rs,r,f,j,ti,q,rfl,rm,(p,rfl,hp),bq,t1,t2,hq,k):=h
   have nd:=PQ.nd;erw[_,(aG (pS 2 nd (aL cg (aL tD (px K (pv 0) aF) aF) (px K (pv 1) aF))) (aG (fP (cQ (au aF (au aF az))) (eg K Z (n:=2) Z (cf (bR 3 nd) (cf (bR 4 nd) dZ)))) (aG (oK iJ (cy ko (aL cg (aL cg (pv 4) (pv 4)) (px K (pv 1) aF)) (pv 2) (bM _)) (aI (qv (i:=3) (j:=4) Z nd Z Z aD Z Z (au (pv 4) (au (aL cg aF (pv 4)) az)) Z))) (aG (oK iJ (cy tE (aL gX (pv 4) (pv 3)) aF (bM _)) (aG (pS 5 nd (aL nM (aL cZ (pv 3) (pv 4)) aF)) (aI (bQ (cy ko (aL cg (aL cg (pv 5) (pv 5)) (px K (pv 1) aF)) (pv 2) (bM _)) (aI (pS 3 nd (pv 5))) (aI (pS 4 nd (pv 5))))))) (aI (aZ (pv 4))))))),?_];let(a,b,rfl,ha,hb):=mj rm;have m1:(ti*ti).natAbs<=100*100:=by rw[gD];erw[oj aw aw]
   have eP:ti^(2:Int).toNat=ti*ti:=by show ti^2=ti*ti;rw[gC,gC,mO,lU]
   have lim:(ti*ti*(q.den:Int)).natAbs<2^2399:=by have hd:=bq.den;rw[gD];have:(q.den:Int).natAbs=q.den:=rfl;rw[this];have:=mh (n:=14) (m:=2000) (a:=(ti*ti).natAbs) (b:=q.den) (sf m1 aD) hd;erw[gP this (uE aD aD)]
   have p0:0<ti*ti*(q.den:Int):=jh (jh aw aw) (den_pos q);have e2:(2:Nat)^2400=2^2399*2:=Nat.pow_succ 2 2399;have BV:∀{t:Int},t.natAbs<2^2400->Wd (t*t):=λ{t} tw=>iW (n:=4800) (by rw[gD];erw[mh (n:=2400) (m:=2400) tw tw]) aD;have wt:∀{t:Int},t.natAbs<2^2400->Wd t:=λ{t} tw=>iW tw aD;erw[_,Z,.inr #[a,_,4,.int ti,Z,Z,ha,Z,?_]]
   refine ⟨_, _, rfl, rfl, ⟨by decide, by decide, by have:(2:Nat)^64=18446744073709551616:=by decide
                                                     lia⟩,?_⟩;erw[_,Z,.inr #[p,_,1,.int q.den,Z,Z,hp,Z,?_]];erw[_,_,Z,Z,by rw[eP];erw[.of_left (cE aw aw)],?_];have eW:ti^(2:Int).toNat*(q.den:Int)=ti*ti*(q.den:Int):=by rw[eP]
   have W5:∀t:Int,decide (t*t*q.num<ti^(2:Int).toNat*(q.den:Int))= !gM ti q t:=λt=>by unfold gM;rw[eW,<-decide_not];erw[decide_eq_decide.mpr aw]
   erw[bU Z,λc0 H0 n0=>?_];erw[c0,_,Z,aV.of n0.at',Z,_,_,Z,_,_,Z,Z,?_];have DU:=hp.go n0.same;have k':∀T:Int,1<=T->T.natAbs<2^2400->gM ti q T=true->gM ti q (T-1)=false->Q (.int T) H0:=λT a1 a2 a3 a4=>(k T a1 a2 a3 a4) H0 n0.same;generalize hL:ti*ti*(q.den:Int)=L at lim p0;erw[om (λO H2=>H2=H0/\∃(lo x:Int),O=cZ9 (.ref a) (cZ9 (.ref p) (cZ9 (.int (ti^(2:Int).toNat*(q.den:Int))) (cZ9 (.int lo) (cZ9 (.int x) (none::[])))))/\0<=lo/\lo<x/\x<=2*L/\gM ti q lo=false) (λO _=>match O with|[_,_,_,_,some (.int x),_]=>(L-x).toNat|_=>0) ?_ ?_ ?_]
   ·erw[Z,0,1,Z,aw,aw,aw,VZ t1]
   · rintro O H2 ⟨rfl,lo,x,rfl,l0,lx,xL,hx⟩
     have xw:x.natAbs<2^2400:=by lia
     erw[_,Z,_,Z,_,_,Z,Z,jg (wt xw).bits (wt xw).bits,_,Z,.inr #[p,_,0,.int q.num,Z,Z,DU,Z,_,_,Z,Z,jg (BV xw).bits bq.wn.bits,?_]];erw[_,Z,_,_,Z,Z,_,Z,?_];show if decide (x*x*q.num<ti^(2:Int).toNat*(q.den:Int))=true then _ else _;rw[W5];cases qQ:gM ti q x with
     |false=>
       have cK:x<L:=by
        by_cases cK:x<L
        ·erw[cK]
        ·rw[W3 hq aw aw]at qQ;cases qQ
       erw[cx ?_];erw[_,Z,_,Z,_,_,Z,Z,.of_left (cE aD aD),_,_,Z,?_];erw[#[Z,x,2*x,Z,aw,aw,aw,qQ],?_];show(L-2*x).toNat<(L-x).toNat
       lia |true=>
       erw[bK ?_];erw[om (λO H3=>H3=H2/\∃(lo hi:Int)(v:Option V),O=cZ9 (.ref a) (cZ9 (.ref p) (cZ9 (.int (ti^(2:Int).toNat*(q.den:Int))) (cZ9 (.int lo) (cZ9 (.int hi) (v::[])))))/\0<=lo/\lo<hi/\hi<=2*L/\gM ti q lo=false/\gM ti q hi=true) (λO _=>match O with|[_,_,_,some (.int y),some (.int x),_]=>(x-y).toNat|_=>0) ?_ ?_ ?_]
       ·erw[Z,lo,x,none,Z,aw,aw,xL,hx,qQ]
       · rintro O H3 ⟨rfl,lo,hi,v,rfl,l0,lh,AK,B0,wo⟩
         erw[_,Z,_,Z,_,_,Z,Z,_,_,Z,Z,_,Z,?_];erw[eL (λhc=>?_) (λhc=>?_)]
         · have hgt:hi-lo>1:=jJ hc
           erw[_,Z,_,Z,_,_,Z,Z,_,_,Z,Z,#[aD,iW (n:=2) aD aD],?_];have mw:((lo+hi)/2).natAbs<2^2400:=by lia
           erw[_,Z,_,Z,_,_,Z,Z,jg (wt mw).bits (wt mw).bits,_,Z,.inr #[p,_,0,.int q.num,Z,Z,DU,Z,_,_,Z,Z,jg (BV mw).bits bq.wn.bits,?_]];erw[_,Z,_,_,Z,Z,_,Z,?_];show if decide ((lo+hi)/2*((lo+hi)/2)*q.num<ti^(2:Int).toNat*(q.den:Int))=true then _ else _;rw[W5];cases hm:gM ti q ((lo+hi)/2)with
           |true=>
             erw[bK ?_];erw[_,Z,#[Z,lo,_,_,Z,l0,aw,aw,B0,hm],?_];show((lo+hi)/2-lo).toNat<(hi-lo).toNat
             lia |false=>
             erw[cx ?_];erw[_,Z,#[Z,_,hi,_,Z,aw,aw,AK,hm,wo],?_];show(hi-(lo+hi)/2).toNat<(hi-lo).toNat
             lia
         · have hle:¬hi-lo>1:=λz=>hc (cU z)
           have e:lo=hi-1:=by lia
           subst e;erw[_,Z,k' hi aw aw wo B0]
       · rintro O H2 Q1 Q2 hq ⟨v1,e1,v2,e2,i,j,e3,e4,i2,j2,e5,e6,kk,e7,q⟩
         erw[v1,e1,v2,e2,i,j,e3,e4,i2,j2,e5,e6,kk,e7,hq _ _ q]
   · rintro O H2 Q1 Q2 hq ⟨v1,e1,v2,e2,i,j,e3,e4,mo,v3,e5,h⟩
     erw[v1,e1,v2,e2,i,j,e3,e4,mo,v3,e5,?_];rcases h with⟨a,xs,ii,x,f1,f2,f3,f4,i2,j2,g1,g2,g3,v4,g4,i3,j3,g5,g6,kk,g7,q⟩|⟨a,xs,ii,x,f1,f2,f3,f4,i2,j2,g1,g2,g3,v4,g4,i3,j3,g5,g6,kk,g7,q⟩
     ·erw[.inl #[a,xs,ii,x,f1,f2,f3,f4,i2,j2,g1,g2,g3,v4,g4,i3,j3,g5,g6,kk,g7,hq _ _ q]]
     ·erw[.inr #[a,xs,ii,x,f1,f2,f3,f4,i2,j2,g1,g2,g3,v4,g4,i3,j3,g5,g6,kk,g7,hq _ _ q]]
end
end _c
namespace _c
open PySem PySem.Spec PyProof.Rows _L _l
section
inductive adL(K:aa)(vs:List V)(H:Hp)(Q:VK):Prop |mk (v:_)(ns:_)(sp:_)(k:_)(h0:vs=[v,.int k])(h1:RD K H v (iP ns sp))(h2:fM ns.length 1000 ns)(h3:ns.length<=1000)(h4:0<=k)(h5:k<=10^6)(h6:∀v' H',RD K H' v' (G7 ns k)->aH H H'->Q v' H')
def OS(K:aa):Sp:=λvs H Q _=>adL K vs H Q
theorem a9M{k q:Int}(hk:0<=k)(hq:0<q):(if n<0 then-((2*k*jk n+q)/(2*q))else(2*k*jk n+q)/(2*q))=fU (k*n) q:=by
 have e:2*k*jk n=2*((k*n).natAbs:Int):=by rw[Bg,gD,Int.natCast_mul,uG,Ya hk]
 rw[e];show(if n<0 then-(jv (k*n) q)else jv (k*n) q)=fU (k*n) q;rcases NQ n 0 with hn|hn
 ·rw[bE hn]
  rcases NQ 0 k with h0|h0
  ·have:k*n<0:=Int.mul_neg_of_pos_of_neg h0 hn
   unfold fU;rw[bI aw]
  ·have e0:k=0:=by lia
   rw[e0,BL,JX hq];have:=JX hq;unfold fU at this;rw[bE aw]at this
   lia
 ·rw[bI aw]
  have:0<=k*n:=ki hk hn;unfold fU;rw[bE this]
theorem PX:bN ["_law_line_here","_law_k","_law_lead_here","_law_found","_law_step","_law_far"] ["_law_line_here","_law_k"] (bj GO):=bZ bf
theorem a3c(F:FA K mg "_law_stand" GO)(B:cn mg)(tZ:aJ P w K mg aB "_law_lead" 1 (mQ K)):aJ P w K mg aB "_law_stand" 2 (OS K):=by
 erw[F.has PX (λvs H Q E h=>?_) (λ_ _ _ _ _ _=>dS λ_ _=>rfl) (λf aQ A outer s H vs Q E hr h=>?_)]
 ·let(v,ns,sp,k,rfl,_):=h
  rfl
 ·let(v,ns,sp,kk,rfl,rd,ok,hz,hk,oX,k):=h
  have nd:=PX.nd;erw[_,(aG (pS 2 nd (pf tZ hr (au (pv 0) az))) (aG (pS 3 nd (dC az)) (aG (m9 iJ Z (sY K Z (px K (pv 0) aF)) (bR 4 nd) (aG (pS 5 nd (aL nM (aL cZ (aL cg (aL cg aF (pv 1)) (eG (x:="abs") pF Z (B.at "abs") rZ (au (pv 4) az))) (pv 2)) (aL cg aF (pv 2)))) (aI (ie (jR K Z (pv 3) (au (px K (dC (au (pv 5) (au (qw pY (pv 5)) az))) (j8 (x:="int") WX Z (B.at "int") Ny (au (fS ko (pv 4) aF (bM _)) az))) az)))))) (aI (aZ (j8 (x:="tuple") (lX K Z) Z (B.at "tuple") gB (au (pv 3) az))))))),?_];erw[_,Z,v,ns,sp,Z,rd,ok.ne,hz,λH1 s1=>?_];let(lp,lm):=ok.lead;erw[bU Z,λl H2 n2=>?_];let(a,b,rfl,ha,hb):=mV (RD.mono (s1.trans n2.same) _ rd);erw[_,Z,.inr #[a,_,1,.ref b,Z,Z,ha,Z,b,Z,#[_,hb],a9y (K:=K) (a:=b) (xs:=ns.map V.int) (λi O H3=>aH H1 H3/\aV K H3 b (ns.map V.int)/\H3 l=some (.lst (((ns.map λz=>fU (kk*z) (aP ns)).take i).map V.int))/\∃v1 v2,O=cZ9 (.ref a) (cZ9 (.int kk) (cZ9 (.int (aP ns)) (cZ9 (.ref l) (v1::v2::[]))))) #[n2.same,hb,n2.at',none,none,Z] (λi O H3 _ h=>h.2.1) ?_ ?_]]
  ·rintro i x O H3 hx ⟨s3,V3,dl,v1,v2,rfl⟩
   obtain⟨n,en⟩:∃n,ns[i]? =some n:=by rw[cV]at hx;cases e:ns[i]? with |none=>rw[e]at hx;cases hx |some n=>erw[n,Z]
   cases Aj hx en;have nb:=ok.bd n (hO en);have hi:i<ns.length:=(eQ.mp en).1;have ab:jk n=(n.natAbs:Int):=Bg n;have pb:=Sa (k:=kk) (z:=n) aw nb;have eA:2*kk*jk n=2*((kk*n).natAbs:Int):=by rw[ab,gD,Int.natCast_mul,uG,Ya hk]
   erw[_,Z,_,_,Z,Z,.of_left (cE aD aD),_,Z,_,Z,_,_,Z,Z,.of_left (cE aw aw),_,Z,_,_,Z,Z,_,Z,_,_,Z,Z,.of_left (cE aD aD),_,_,Z,Z,#[aw,NW aw],?_];have fn:=a9M (n:=n) hk (show(0:Int)<aP ns by lia);erw[_,Z,.inl #[Z,_,aK.of dl],_,Z,_,Z,_,Z,bU Z,λc H4 n4=>?_];erw[_,Z,_,_,Z,Z,.inr #[_,Z,?_]];have Tn:=n4.same _ _ dl;have vW:fW ([.int ((2*kk*jk n+(aP ns:Int))/(2*(aP ns:Int))),.int (-((2*kk*jk n+(aP ns:Int))/(2*(aP ns:Int))))]:List V) (if decide (n<0)=true then 1 else 0)=some (.int (fU (kk*n) (aP ns))):=by
    rw[<-fn];by_cases hn:n<0
    ·rw[bE (cU hn),bE hn];rfl
    ·rw[bI (λz=>hn (jJ z)),bI hn];rfl
   erw[.inl #[c,_,_,_,Z,Z,aK.of n4.at',vW,?_]];erw[l,_,_,Z,Z,Tn,?_,?_]
   ·have:(1000:Nat)<sizeLine:=by decide
    rw[cJ,pU,cJ];lia
   erw[λb o e=>?_,aV.t (.sH Tn) (V3.go n4.same),?_,_,_,Z]
   ·rw[aR (fZ e n2.no)];erw[n4.same b o (s3 b o e)]
   ·rw[bo,sj,cV,en,pT];rfl
  ·rintro O H3 ⟨s3,V3,dl,v1,v2,rfl⟩
   rw[Fy (by simp)]at dl;erw[_,Z,l,_,Z,.inl #[aK.of dl,λt H4 n4=>?_]];erw[k _ _ (gR (aV.of n4.at') (xI _)) (s1.trans (s3.trans n4.same))]
end
end _c
set_option maxHeartbeats 2000000
namespace _c
open PySem PySem.Spec PyProof.Rows _L _r _l _C _P _W _R
open _O (topR cornO mnO betR atO ownF leadF ownL OkI OkIs)
section
theorem fi(h:n+64<cLine):n+1<cLine:=sf (Nat.add_le_add_left aD n) h
theorem cR{k:Nat}{ty:TE}(hr:dh k X.A)(ho:PE X o td)(hi:PE X i ty)(hs:autoParam (N7 i) d8_._auto_1):PE X (.Subscript o i pos) (Ov td ty):=a2t (fi hr.units) ho hi hs
def bT(m p g s r t k q n b c re td:V):List (Key×V):=[(.inr "machine",m),(.inr "place",p),(.inr "goal",g),(.inr "square",s),(.inr "rate",r),(.inr "tool",t),(.inr "mark",k),(.inr "queue",q),(.inr "gone",n),(.inr "told",td),(.inr "brake",b),(.inr "braked",c),(.inr "reach",re)]
section
variable {H:Hp}{a:Addr}{m p g s r t k q n b c re td x:V}
theorem dg{v:V}(h:H a=some (.dK aU))(e:gE aU (.inr z)=some v):wL H a (.str z) (some v):=by rw[<-e];erw[wL.k (k:=Sum.inr z) h]
theorem dp{v:V}(h:H a=some (.dK aU))(e:putK aU (.inr z) v=Uh)(hl:aU.length<=13):rV H a (.str z) v (_L.upd H a (.dK Uh)):=by rw[<-e];erw[rV.k (k:=Sum.inr z) h (sf hl aD)]
theorem AQ:gE (bT m p g s r t k q n b c re td) (.inr "machine")=some m:=by kernel_rfl
theorem LV:gE (bT m p g s r t k q n b c re td) (.inr "place")=some p:=by kernel_rfl
theorem LW:gE (bT m p g s r t k q n b c re td) (.inr "goal")=some g:=by kernel_rfl
theorem qT:gE (bT m p g s r t k q n b c re td) (.inr "square")=some s:=by kernel_rfl
theorem Ep:gE (bT m p g s r t k q n b c re td) (.inr "rate")=some r:=by kernel_rfl
theorem a9k:gE (bT m p g s r t k q n b c re td) (.inr "tool")=some t:=by kernel_rfl
theorem a9l:gE (bT m p g s r t k q n b c re td) (.inr "mark")=some k:=by kernel_rfl
theorem mE:gE (bT m p g s r t k q n b c re td) (.inr "queue")=some q:=by kernel_rfl
theorem Er:gE (bT m p g s r t k q n b c re td) (.inr "gone")=some n:=by kernel_rfl
theorem yE:gE (bT m p g s r t k q n b c re td) (.inr "brake")=some b:=by kernel_rfl
theorem Vq:gE (bT m p g s r t k q n b c re td) (.inr "braked")=some c:=by kernel_rfl
theorem Vp:gE (bT m p g s r t k q n b c re td) (.inr "reach")=some re:=by kernel_rfl
theorem Eo:gE (bT m p g s r t k q n b c re td) (.inr "told")=some td:=by kernel_rfl
theorem a2F:putK (bT m p g s r t k q n b c re td) (.inr "place") x=bT m x g s r t k q n b c re td:=by kernel_rfl
theorem Sr:putK (bT m p g s r t k q n b c re td) (.inr "goal") x=bT m p x s r t k q n b c re td:=by kernel_rfl
theorem a2D:putK (bT m p g s r t k q n b c re td) (.inr "square") x=bT m p g x r t k q n b c re td:=by kernel_rfl
theorem Sq:putK (bT m p g s r t k q n b c re td) (.inr "rate") x=bT m p g s x t k q n b c re td:=by kernel_rfl
theorem a2C:putK (bT m p g s r t k q n b c re td) (.inr "tool") x=bT m p g s r x k q n b c re td:=by kernel_rfl
theorem a2G:putK (bT m p g s r t k q n b c re td) (.inr "mark") x=bT m p g s r t x q n b c re td:=by kernel_rfl
theorem a2E:putK (bT m p g s r t k q n b c re td) (.inr "queue") x=bT m p g s r t k x n b c re td:=by kernel_rfl
theorem JE:putK (bT m p g s r t k q n b c re td) (.inr "gone") x=bT m p g s r t k q x b c re td:=by kernel_rfl
theorem Su:putK (bT m p g s r t k q n b c re td) (.inr "brake") x=bT m p g s r t k q n x c re td:=by kernel_rfl
theorem Ss:putK (bT m p g s r t k q n b c re td) (.inr "braked") x=bT m p g s r t k q n b x re td:=by kernel_rfl
theorem xP:putK (bT m p g s r t k q n b c re td) (.inr "reach") x=bT m p g s r t k q n b c x td:=by kernel_rfl
theorem iC:(bT m p g s r t k q n b c re td).length<=13:=ck _
end
def wM(K:aa)(H:Hp)(bv cv:V):_R.gO->Prop |none=>bv= .bF/\∃c,cv= .int c |some (sq,st,gn)=>∃a u,bv= .ref a/\aV K H a [u,.int st]/\bO K H u sq/\cv= .int gn
theorem wM.v{t:_R.gO}(s:cm H H')(h:wM K H bv cv t):wM K H' bv cv t:=by cases t with |none=>erw[h] |some q=>let(sq,st,gn):=q;let(a,u,rfl,h1,h2,h3):=h;erw[a,u,Z,aV.v s h1,bO.v s h2,h3]
def Bj(K:aa)(H:Hp)(M:bP)(S:bp)(rv:V):Prop:=rv= .bF\/bO K H rv (fR M S)
theorem Bj.v(s:cm H H')(h:Bj K H M S rv):Bj K H' M S rv:=h.imp id (bO.v s)
structure cM(K:aa)(H:Hp)(d q td:Addr)(M:bP)(S:bp):Prop where
 ob:∃mv lv gv sv bv cv rv,H d=some (.dK (bT mv lv gv sv (.int S.aE) (.str S.side) (.str S.mark) (.ref q) (.int S.dn) bv cv rv (.ref td)))/\RD K H mv M.D/\RD K H lv (fF (eR S))/\RD K H gv (fF (cL S))/\bO K H sv S.pc/\wM K H bv cv S.aY/\Bj K H M S rv
 qu:∃ys,H q=some (.lst ys)/\aO K H ys S.ds
theorem cM.go{q:Addr}(h:cM K H d q td M S)(hn:du S.ds=true)(s:cm H H')(ea:∀o,H d=some o->H' d=some o)(eq:∀o,H q=some o->H' q=some o):cM K H' d q td M S:=by let((mv,lv,gv,sv,bv,cv,rv,e,r1,r2,r3,r4,r5,r6),ys,mG,rq):=h;erw[#[mv,lv,gv,sv,bv,cv,rv,ea _ e,RD.v s _ (iE _ _ _ _ _) r1,RD.v s _ (gd _) r2,RD.v s _ (gd _) r3,r4.v s,r5.v s,r6.v s],ys,eq _ mG,aO.v s _ hn rq]
theorem cM.same{q:Addr}(h:cM K H d q td M S)(hn:du S.ds=true)(s:aH H H'):cM K H' d q td M S:=h.go hn s.v (λo e=>s _ _ e) (λo e=>s _ _ e)
theorem cM.ne{q:Addr}(h:cM K H d q td M S):d≠q:=by let((mv,lv,gv,sv,bv,cv,rv,e,_),ys,mG,_):=h;erw[Ab e mG (by intro z;cases z)]
theorem cM.v{q:Addr}(h:cM K H d q td M S)(b:aX [d,q] H H'):cm H H':=by
 let((mv,lv,gv,sv,bv,cv,rv,e,_),ys,mG,_):=h;erw[b.v λx hx o eo=>?_];simp only[bJ,cD,cX]at hx;rcases hx with rfl|rfl
 ·rw[e]at eo;cases eo;trivial
 ·rw[mG]at eo;cases eo;trivial
inductive adR(K:aa)(vs:List V)(H:Hp)(Q:VK):Prop |mk (d:_)(q:_)(td:_)(M:_)(D:_)(S:_)(h0:vs=[.ref d])(h1:cM K H d q td M S)(h2:cu M D S)(h3:M.Ok)(h4:Q (.int (jt M.f S.pc)) H)
def Gb(K:aa):Sp:=λvs H Q _=>adR K vs H Q
theorem Q3:bN ["_law_sim_here","_law_each"] ["_law_sim_here"] (bj GS):=bZ bf
theorem a3e(F:FA K mg "_law_sim_stops" GS)(B:cn mg):aJ P w K mg aB "_law_sim_stops" 1 (Gb K):=by
 erw[F.has Q3 (λvs H Q E h=>?_) (λ_ _ _ _ _ _=>fj λ_=>rfl) (λf aQ A outer s H vs Q E hr h=>?_)]
 ·let(d,q,td,M,D,S,rfl,_):=h
  rfl
 ·let(d,q,td,M,D,S,rfl,R,ok,aM,k):=h
  let(mv,lv,gv,sv,bv,cv,rv,e,r1,r2,r3,(pa,rfl,vM),r5,r6):=R.ob;have nd:=Q3.nd;have uc:=aM.f1;let(ma,mb,rfl,iH,kC):=mj r1;have bd:Bd 1600 S.pc:=(ok.pd.bd (fz ok.pm bf)).mono (by have:=ok.D2;lia);have hd:0<2*M.f*(S.pc.den:Int):=jh aw (den_pos S.pc);have wd:Wd (2*M.f*(S.pc.den:Int)):=by
   erw[iW (n:=1700) ?_ aD];rw[gD];have h1:(2*M.f).natAbs<2^7:=by lia
   have:=mh h1 bd.den;erw[gP this (uE aD aD)]
  erw[_,(aG (pS 1 nd (aL cg (aL cg aF (px K (cR hr (pv 0) bh) aF)) (px K (cR hr (pv 0) bh) aF))) (aI (aZ (aL nM (aL gX (aL cZ (px K (cR hr (pv 0) bh) aF) (pv 1)) aF) (pv 1))))),?_];erw[_,Z,d,_,Z,dg e AQ,.inr #[ma,_,2,.int M.f,Z,Z,iH,Z,_,_,Z,Z,.of_left (cE aD aD),?_]];erw[_,Z,d,_,Z,dg e qT,.inr #[pa,_,1,_,Z,Z,vM,Z,_,_,Z,Z,.of_left (cE aw aw),?_]];erw[_,Z,d,_,Z,dg e qT,.inr #[pa,_,0,_,Z,Z,vM,Z,_,Z,_,_,Z,Z,_,_,Z,Z,_,Z,_,_,Z,Z,#[hd,wd],?_]];erw[k]
end
section
inductive adU(K:aa)(vs:List V)(H:Hp)(Q:VK):Prop |mk (d:_)(q:_)(td:_)(M:_)(D:_)(S:_)(h0:vs=[.ref d])(h1:cM K H d q td M S)(h2:cu M D S)(h3:M.Ok)(h4:∀H',cM K H' d q td M (jD M S)->aX [d] H H'->Q (.int (jt M.f S.pc)) H')
def OX(K:aa):Sp:=λvs H Q _=>adU K vs H Q
theorem Q6:bN ["_law_sim_here","_law_many"] ["_law_sim_here"] (bj GX):=bZ bf
theorem a3h(F:FA K mg "_law_sim_hold" GX)(B:cn mg)(LN:aJ P w K mg aB "_law_sim_stops" 1 (Gb K)):aJ P w K mg aB "_law_sim_hold" 2 (OX K):=by
 erw[F.has Q6 (λvs H Q E h=>?_) (λ_ _ _ _ _ _=>fj λ_=>rfl) (λf aQ A outer s H vs Q E hr h=>?_)]
 ·let(d,q,td,M,D,S,rfl,_):=h
  rfl
 ·let(d,q,td,M,D,S,rfl,R,ok,aM,k):=h
  let(mv,lv,gv,sv,bv,cv,rv,e,r1,r2,r3,r4,r5,r6):=R.ob;let(ys,eq,rq):=R.qu;have dq:=R.ne;have nd:=Q6.nd;erw[_,(aG (pS 1 nd (pf LN hr (au (pv 0) az))) (aG (ib (bQ (cy JJ (cR hr (pv 0) bh) j7 (bM _)) (aG (jQ (fi hr.units) (pv 0) bh (cQ (au (cR hr (pv 0) bh) (au (pv 1) az))) Z) (aI (jQ (fi hr.units) (pv 0) bh aF Z))) bV)) (aI (aZ (pv 1))))),?_];erw[_,Z,d,q,td,M,D,S,Z,R,ok,aM,?_];erw[λO H1=>O=cZ9 (.ref d) (cZ9 (.int (jt M.f S.pc)) [])/\cM K H1 d q td M (jD M S)/\aX [d] H H1,?_,?_]
  ·erw[_,Z,d,_,Z,dg e yE,Z,_,Z,?_]
   cases hs:S.aY with |some z=>let(sq,st,gn):=z;have jw:=r5;rw[hs]at jw;let(a,u,rfl,_):=jw;erw[bK #[Z,?_,aX.refl _ _]];unfold jD;rw[hs];erw[R] |none=>
    have jw:=r5;rw[hs]at jw;let(rfl,_):=jw;erw[cx ?_];erw[_,Z,d,_,Z,dg e qT,_,Z,bU Z,λt H1 n1=>?_];have e1:=n1.same _ _ e;erw[_,Z,d,_,Z,dp e1 Su iC,?_];erw[_,Z,d,_,Z,dp bo Ss iC,Z,?_,λb o eb hb=>?_]
    ·have key:∀X:Hp,(∀b,b≠d->X b=H1 b)->cM K (_L.upd X d (.dK (bT mv lv gv sv (.int S.aE) (.str S.side) (.str S.mark) (.ref q) (.int S.dn) (.ref t) (.int 0) rv (.ref td)))) d q td M (jD M S):=by
      intro X hX;have xj:cm H1 (_L.upd X d (.dK (bT mv lv gv sv (.int S.aE) (.str S.side) (.str S.mark) (.ref q) (.int S.dn) (.ref t) (.int 0) rv (.ref td)))):=λb o nb eb=>by
       have hb:b≠d:=λz=>by rw[z,e1]at eb;cases eb;erw[nb trivial]
       rw[aR hb,hX b hb];erw[eb]
      have uY:=n1.same.v.trans xj;unfold jD;rw[hs];erw[#[mv,lv,gv,sv,.ref t,.int 0,rv,bo,RD.v uY _ (iE _ _ _ _ _) r1,RD.v uY _ (gd _) r2,RD.v uY _ (gd _) r3,r4.v uY,#[t,sv,Z,aV.v xj (aV.of n1.at'),r4.v uY,Z],r6.v uY],ys,?_,aO.v uY _ ok.row.no rq];rw[aR dq.symm,hX q dq.symm];erw[n1.same _ _ eq]
     erw[key _ (λb hb=>by rw[aR hb])]
    ·have lP:b≠d:=λz=>hb (by rw[z];erw[.head _])
     rw[aR lP,aR lP];erw[n1.same _ _ eb]
  ·rintro O H1 ⟨rfl,R1,b1⟩
   erw[_,Z,k _ R1 b1]
theorem rB{v:V}(h:H a=some (.dK aU))(hl:aU.length<=n)(hn:n<=13):rV H a (.str z) v (_L.upd H a (.dK (putK aU (.inr z) v)))/\(putK aU (.inr z) v).length<=n+1:=#[rV.k (k:=Sum.inr z) h (sf (iK hl hn) aD),iK (DB _ _ _) (Y2 hl)]
theorem a0g:putK (putK (putK (putK (putK (putK (putK (putK (putK (tN [] [(Sum.inr "machine",mv),(.inr "place",lv),(.inr "goal",lv),(.inr "square",s)]) (.inr "rate") (.int 100)) (.inr "tool") (.str "up")) (.inr "mark") (.str "")) (.inr "queue") q') (.inr "gone") (.int 0)) (.inr "told") t') (.inr "brake") .bF) (.inr "braked") (.int 0)) (.inr "reach") .bF=bT mv lv lv s (.int 100) (.str "up") (.str "") q' (.int 0) .bF (.int 0) .bF t':=by kernel_rfl
theorem a0h:(tN [] [(Sum.inr "machine",mv),(.inr "place",lv),(.inr "goal",lv),(.inr "square",s)]).length<=4:=by rw[show tN [] [(Sum.inr "machine",mv),(.inr "place",lv),(.inr "goal",lv),(.inr "square",s)]=([(.inr "machine",mv),(.inr "place",lv),(.inr "goal",lv),(.inr "square",s)]:List (Key×V)) by kernel_rfl];erw[ck _]
inductive adO(K:aa)(vs:List V)(H:Hp)(Q:VK):Prop |mk (mv:_)(lv:_)(M:_)(pl:_)(h0:vs=[mv,lv])(h1:RD K H mv (bP.D M))(h2:RD K H lv (fF pl))(h3:∀d q td H',cM K H' d q td M (lY pl)->H' td=some (.lst [])->H d=none->H q=none->H td=none->d≠td->q≠td->aH H H'->Q (.ref d) H')
def Ga(K:aa):Sp:=λvs H Q _=>adO K vs H Q
theorem PZ:bN ["_law_machine_here","_law_place_here","_law_sim_here"] ["_law_machine_here","_law_place_here"] (bj GQ):=bZ bf
theorem SQ(F:FA K mg "_law_sim" GQ)(B:cn mg):aJ P w K mg aB "_law_sim" 1 (Ga K):=by
 erw[F.has PZ (λvs H Q E h=>?_) (λ_ _ _ _ _ _=>dS λ_ _=>rfl) (λf aQ A outer s H vs Q E hr h=>?_)]
 ·let(mv,lv,M,pl,rfl,_):=h
  rfl
 ·let(mv,lv,M,pl,rfl,rm,rl,k):=h
  have nd:=PZ.nd;erw[_,(aG (pS 2 nd (a2s (CY bh (pv 0) (CY bh (pv 1) (CY bh (pv 1) (CY bh (cQ (au aF (au aF az))) a25)))) Z Z (by simp) aD)) (aG (fP (cQ (au aF (au bh (au bh az)))) (eg K Z (n:=3) Z (cf (j4 (pv 2) bh (set_dict (fi hr.units))) (cf (j4 (pv 2) bh (set_dict (fi hr.units))) (cf (j4 (pv 2) bh (set_dict (fi hr.units))) dZ))))) (aG (fP (cQ (au (dC az) (au aF (au (dC az) az)))) (eg K Z (n:=3) Z (cf (j4 (pv 2) bh (set_dict (fi hr.units))) (cf (j4 (pv 2) bh (set_dict (fi hr.units))) (cf (j4 (pv 2) bh (set_dict (fi hr.units))) dZ))))) (aG (fP (cQ (au j7 (au aF (au j7 az)))) (eg K Z (n:=3) Z (cf (j4 (pv 2) bh (set_dict (fi hr.units))) (cf (j4 (pv 2) bh (set_dict (fi hr.units))) (cf (j4 (pv 2) bh (set_dict (fi hr.units))) dZ))))) (aI (aZ (pv 2))))))),λd jz=>?_];erw[_,Z,_,Z,_,Z,bU Z,λt H1 n1=>?_];have td:t≠d:=λz=>by have:=n1.no;rw[z,bo]at this;cases this
  have e1:=n1.same _ _ (bo (a:=d) (o:=HO.dK []));erw[e1,[(.inr "machine",mv),(.inr "place",lv),(.inr "goal",lv),(.inr "square",.ref t)],Z,(by show 4<=15;decide),?_];erw[bU Z,λt1 HA nA=>?_];let(d1,l1):=rB (z:="rate") (v:=.int 100) (a:=d) (nA.same _ _ bo) a0h aD;let(d2,l2):=rB (H:=_L.upd HA d _) (z:="tool") (v:=.str "up") (a:=d) bo l1 aD;let(d3,l3):=rB (H:=_L.upd (_L.upd HA d _) d _) (z:="mark") (v:=.str "") (a:=d) bo l2 aD;erw[t1,_,Z,aV.of nA.at',Z,_,_,Z,_,Z,d,_,Z,d1,_,_,Z,_,Z,d,_,Z,d2,_,_,Z,_,Z,d,_,Z,d3,Z,?_];erw[gK _,λq HB nB=>#[gK _,λtl HC nC=>#[bU Z,λt2 HD nD=>?_]]];let(d4,l4):=rB (z:="queue") (v:=.ref q) (a:=d) (nD.same _ _ (nC.same _ _ (nB.same _ _ bo))) l3 aD;let(d5,l5):=rB (H:=_L.upd HD d _) (z:="gone") (v:=.int 0) (a:=d) bo l4 aD;let(d6,l6):=rB (H:=_L.upd (_L.upd HD d _) d _) (z:="told") (v:=.ref tl) (a:=d) bo l5 aD;erw[t2,_,Z,aV.of nD.at',Z,_,_,Z,_,Z,d,_,Z,d4,_,_,Z,_,Z,d,_,Z,d5,_,_,Z,_,Z,d,_,Z,d6,Z,?_];erw[bU Z,λt3 HE nE=>?_];let(d7,l7):=rB (z:="brake") (v:=.bF) (a:=d) (nE.same _ _ bo) l6 aD;let(d8,l8):=rB (H:=_L.upd HE d _) (z:="braked") (v:=.int 0) (a:=d) bo l7 aD;let(d9,l9):=rB (H:=_L.upd (_L.upd HE d _) d _) (z:="reach") (v:=.bF) (a:=d) bo l8 aD;erw[t3,_,Z,aV.of nE.at',Z,_,_,Z,_,Z,d,_,Z,d7,_,_,Z,_,Z,d,_,Z,d8,_,_,Z,_,Z,d,_,Z,d9,Z,_,Z,?_];rw[a0g];have kU:∀{X:Hp}{o':HO}{b:Addr},b≠d->(_L.upd X d o') b=X b:=λhb=>aR hb;have nu:∀{X:Hp}{o':HO}{y:Addr},(_L.upd X d o') y=none->y≠d/\X y=none:=λ{X o' y} h=>by
   have hy:y≠d:=λz=>by rw[z,bo]at h;cases h
   erw[hy,by rw[aR hy]at h;erw[h]]
  have qB:=nB.no;have lC:=nC.no;have qd:q≠d:=(nu qB).1;have dB:HB d≠none:=by rw[nB.same _ _ bo];simp
  have ld:tl≠d:=λz=>dB (by rw[<-z];erw[lC]);have ql:q≠tl:=λz=>by rw[<-z,nB.at']at lC;cases lC
  have g1:∀{b o},b≠d->H1 b=some o->HB b=some o:=λhb e=>nB.same _ _ (by rw[kU hb,kU hb,kU hb];erw[nA.same _ _ (by rw[kU hb];erw[e])]);have g2:∀{b o},b≠d->HC b=some o->HE b=some o:=λhb e=>nE.same _ _ (by rw[kU hb,kU hb,kU hb];erw[nD.same _ _ e]);have gH:∀{b o},H b=some o->H1 b=some o:=λ{b o} e=>n1.same _ _ (by rw[aR (fZ e jz)];erw[e]);have back:∀{X:Hp}{y:Addr},(∀b o,H b=some o->X b=some o)->X y=none->H y=none:=λ{X y} h hy=>by cases e:H y with |none=>rfl |some o=>rw[h y o e]at hy;cases hy
  have sE:∀b o,H b=some o->HE b=some o:=λb o e=>g2 (fZ e jz) (nC.same _ _ (g1 (fZ e jz) (gH e)));have s4:∀{o1 o2 o3:HO},aH H (_L.upd (_L.upd (_L.upd HE d o1) d o2) d o3):=λ{o1 o2 o3} b o e=>by have hb:=fZ e jz;rw[kU hb,kU hb,kU hb];erw[sE b o e]
  erw[k d q tl _ #[#[mv,lv,lv,.ref t,.bF,.int 0,.bF,bo,RD.mono s4 _ rm,RD.mono s4 _ rl,RD.mono s4 _ rl,#[t,Z,aV.of ?_],#[Z,_,Z],.inl Z],[],?_,dc] ?_ jz (back (λb o e=>?_) (nu qB).2) (back (λb o e=>?_) lC) (dy ld) ql s4]
  ·rw[kU td,kU td,kU td]
   erw[g2 td (nC.same _ _ (g1 td n1.at'))]
  ·rw[kU qd,kU qd,kU qd]
   erw[g2 qd (nC.same _ _ nB.at')]
  ·rw[kU ld,kU ld,kU ld]
   erw[g2 ld nC.at']
  ·have hb:=fZ e jz
   rw[kU hb,kU hb];erw[nA.same _ _ (by rw[kU hb];erw[gH e])]
  ·erw[g1 (fZ e jz) (gH e)]
end
section
theorem WH{pl:List Int}{D:Addr}(hp:aV K H pa (pl.map V.int))(hb:aV K H b (ns.map V.int))(ln:ns.length=pl.length)(hz:pl.length<=1000)(n1:Nw H H1 D (.lst [])) (ht:∀(x y:Int)(H:Hp)(Q:VK),Q (.int (x+y)) H->te [some (.int x),some (.int y)] H Q)(k:∀H2,aH H H2->H2 D=some (.lst ((fg pl ns).map V.int))->Q (.ref D) H2):jo (og K false false pa b) (qU K 2 (kX (fK 0) (kX (fK 1) u9))) iX te Q D [none,none] H1:=by
 erw[wB (K:=K) (b1:=false) (b2:=false) (xs:=pl.map V.int) (ys:=ns.map V.int) (ds:=(fg pl ns).map PyData.int) [] rfl hp hb n1 (by simp[rK ln,ln]) (by rw[cJ,rK ln];erw[hz]) (me _) ?_ ?_]
 ·intro i x y d H2 Q' ex ey ed s2 hq
  let(m,em,rfl):=nN ed;rw[cV]at ex ey;cases e1:pl[i]? with |none=>rw[e1]at ex;cases ex |some u=>cases e2:ns[i]? with |none=>rw[e2]at ey;cases ey |some v=>rw[e1]at ex;rw[e2]at ey;cases ex;cases ey;rw[Bf e1 e2]at em;cases em;erw[ht _ _ _ _ (hq _ _ (aH.refl _) (cF _))]
 ·intro H2 zs s2 d2 r2
  rw[r2.jC]at d2;erw[k H2 s2 d2]
theorem abU{pl:List Int}{D:Addr}(hp:aV K H pa (pl.map V.int))(hb:aV K H b (rs.map V.int))(ln:pl.length=rs.length)(hz:pl.length<=1000)(n1:Nw H H1 D (.lst [])) (ht:∀(x y:Int)(H:Hp)(Q:VK),Q (.bl (decide (0<=x)&&decide (x<=y))) H->te [some (.int x),some (.int y)] H Q)(k:∀(H2:Hp)(bs:List Bool),aH H H2->H2 D=some (.lst (bs.map V.bl))->bs.all id=tG rs pl->Q (.ref D) H2):jo (og K false false pa b) (qU K 2 (kX (fK 0) (kX (fK 1) u9))) iX te Q D [none,none] H1:=by
 erw[WE (K:=K) (b1:=false) (b2:=false) (xs:=pl.map V.int) (ys:=rs.map V.int) (bs:=(pl.zip rs).map λp=>decide (0<=p.1)&&decide (p.1<=p.2)) [] rfl hp hb n1 (by simp) (by simp;lia) (λi x y b' H2 Q' ex ey eb s2 hq=>?_) (λH2 s2 d2=>?_)]
 ·rw[cV]at ex ey
  cases e1:pl[i]? with |none=>rw[e1]at ex;cases ex |some u=>cases e2:rs[i]? with |none=>rw[e2]at ey;cases ey |some v=>rw[e1]at ex;rw[e2]at ey;cases ex;cases ey;rw[cV,zm.mpr (show pl[i]? =some (u,v).1/\rs[i]? =some (u,v).2 from#[e1,e2])]at eb;cases eb;erw[ht _ _ _ _ (hq _ (aH.refl _))]
 ·erw[k H2 _ s2 d2 (by unfold tG;rw[List.all_map];rfl)]
theorem El(S:bp)(d:ai)(o:Itm):cL (mF S d o)=gz (cL S) o:=by unfold cL mF;rw[Y7];rfl
theorem a2a{D:Nat}(h:cu M D S)(d:ai)(o:Itm):eR (mF S d o)=eR S:=by
 unfold eR;by_cases h0:S.dn=0
 ·rw[bE h0,bE (show(mF S d o).dn=0 from h0)];rfl
 ·let(ns,sp,eo,_):=h.first h0
  rw[bI h0,bI (show¬(mF S d o).dn=0 from h0),eo];have e2:(mF S d o).os[0]? =some (some (ns,sp)):=by show(S.os++[o])[0]? =_;rw[zo (eQ.mp eo).1];erw[eo]
  rw[e2];rfl
inductive adV(K:aa)(vs:List V)(H:Hp)(Q:VK):Prop |mk (d:_)(q:_)(td:_)(M:_)(D:_)(S:_)(v:_)(it:_)(o:_)(h0:vs=[.ref d,v])(h1:cM K H d q td M S)(h2:cu M D S)(h3:M.Ok)(h4:RD K H v it)(h5:nk M.rs.length it o)(h6:(tG M.rs (gz (cL S) o)=false->∀H',aH H H'->Q (.str ("rails "++Str.ofString (toString (S.ds.length:Int)))) H'))(h7:(tG M.rs (gz (cL S) o)=true->S.ds.length=20->∀H',aH H H'->Q (.str "full") H'))(h8:(tG M.rs (gz (cL S) o)=true->S.ds.length<20->∀H',cM K H' d q td M (mF S it o)->aX [d,q] H H'->Q (.int (S.ds.length+1:Nat)) H'))
def Gd(K:aa):Sp:=λvs H Q _=>adV K vs H Q
theorem Q7:bN ["_law_sim_here","_law_item","_law_goal"] ["_law_sim_here","_law_item"] (bj GY):=bZ bf
theorem a3i(F:FA K mg "_law_sim_feed" GY)(B:cn mg):aJ P w K mg aB "_law_sim_feed" 1 (Gd K):=by
 erw[F.has Q7 (λvs H Q E h=>?_) (λ_ _ _ _ _ _=>dS λ_ _=>rfl) (λf aQ A outer s H vs Q E hr h=>?_)]
 ·let(d,q,td,M,D,S,v,it,o,rfl,_):=h
  rfl
 ·let(d,q,td,M,D,S,v,it,o,rfl,R,ok,aM,rv,Au,k1,k2,k3):=h
  let(mv,lv,gv,sv,bv,cv,re,e,r1,r2,r3,r4,r5,r6):=R.ob;let(ys,eq,rq):=R.qu;have dq:=R.ne;have nd:=Q7.nd;have ly:=rq.length;have l20:=ok.len;have Du:=aM.len;have gl:(cL S).length=M.rs.length:=yF _ _ ok.pl ok.tH;have bl:(gz (cL S) o).length=M.rs.length:=wC gl λns sp eo=>(Au.ln ns sp eo).1.len;let(ma,mb,rfl,iH,kC):=mj r1;erw[_,(aG (pS 2 nd (cR hr (pv 0) bh)) (aG (ib (bQ (cy (dF K Z hr.units) (px K (pv 1) aF) bh (bM _)) (aI (pS 2 nd (j8 (x:="tuple") (lX K Z) Z (B.at "tuple") gB (au (gU (N:=["_law_stand_here","_law_step"]) (js:=[none,none]) rfl rfl rfl (kN K rfl false false rfl (B.at "zip") (au (pv 2) (au (px K (pv 1) aF) az))) (λ_ _ _ _ _=>(eg K rfl (n:=2) rfl (cf (bR 0 (gG aD)) (cf (bR 1 (gG aD)) dZ)))) (λ_ _ _ _ _=>gs) (λ_ _ _ _ _=>(aL cZ (pv 0) (pv 1)))) az)))) bV)) (aG (bQ (dX (cP (eG (x:="all") (rJ K Z Z) Z (B.at "all") uD (au (gU (N:=["_law_stand_here","_law_rail"]) (js:=[none,none]) rfl rfl rfl (kN K rfl false false rfl (B.at "zip") (au (pv 2) (au (px K (cR hr (pv 0) bh) aF) az))) (λ_ _ _ _ _=>(eg K rfl (n:=2) rfl (cf (bR 0 (gG aD)) (cf (bR 1 (gG aD)) dZ)))) (λ_ _ _ _ _=>gs) (λ_ _ _ _ _=>(Sn xR xR aF (pv 0) (pv 1)))) az)))) (aI (aZ (aL a2T bh (j8 (x:="str") ac7 Z (B.at "str") rY (au (eK K B (au (cR hr (pv 0) bh) az)) az))))) bV) (aG (bQ (cy (dF K Z hr.units) (eK K B (au (cR hr (pv 0) bh) az)) aF (bM _)) (aI (aZ bh)) bV) (aG (jQ (fi hr.units) (pv 0) bh (pv 2) Z) (aG (jQ (fi hr.units) (pv 0) bh j7 Z) (aG (ie (jR K Z (cR hr (pv 0) bh) (au (pv 1) az))) (aI (aZ (eK K B (au (cR hr (pv 0) bh) az))))))))))),?_];erw[_,Z,d,_,Z,dg e LW,?_];erw[λO H1=>∃ga,O=cZ9 (.ref d) (cZ9 v (cZ9 (.ref ga) []))/\aV K H1 ga ((gz (cL S) o).map V.int)/\aH H H1,?_,?_]
  ·let(a,wd,zs,rfl,ha,ew,sw):=yi rv Au.it
   erw[_,Z,.inr #[a,_,0,.str wd,Z,Z,ha,dQ (hW 0) Z,.inr #[_,_,df _,df _,sw,bf,?_]]];rw[ew];erw[_,Z,?_];cases o with |none=>let(ga,rfl,hg):=vg r3;erw[bK #[ga,Z,hg,aH.refl _]] |some z=>
    let(ns,sp):=z;erw[cx ?_];have ed:=lO Au.it;subst ed;let(a',b,ea,V9,hb):=mV rv;cases ea;let(ga,rfl,hg):=vg r3;have ln:ns.length=(cL S).length:=by rw[gl];exact(Au.ln ns sp Z).1.len
    erw[_,Z,_,Z,.inr #[a,_,1,.ref b,Z,Z,V9,Z,ga,b,Z,#[_,hg],#[_,hb],λD1 H1 n1=>?_]];erw[WH hg hb ln aw n1 (λx y H Q h=>#[_,Z,_,Z,_,_,Z,Z,h]) λH2 s2 d2=>?_];erw[D1,_,Z,.inl #[aK.of d2,λt H3 n3=>?_]];erw[t,Z,aV.of n3.at',s2.trans n3.same]
  ·rintro O H1 ⟨ga,rfl,hg,s1⟩
   have e1:=s1 _ _ e;erw[_,Z,_,Z,d,_,Z,dg e1 AQ,.inr #[ma,_,0,.ref mb,Z,Z,iH.go s1,Z,ga,mb,Z,#[_,hg],#[_,kC.go s1],λD1 H2 n2=>?_]];erw[abU hg (kC.go s1) bl aw n2 (λx y H Q h=>?_) λH3 bs s3 d3 eb=>?_]
   ·erw[_,Z,_,_,Z,Z,_,Z,?_]
    erw[eL (λh0=>?_) (λh0=>?_)]
    ·rw[h0,lF]at h
     erw[_,Z,_,_,Z,Z,h]
    ·rw[zp.mpr h0,lV]at h
     erw[h]
   erw[D1,_,Z,aK.of d3,?_];rw[eb];erw[_,Z,?_];have dM:=s1.trans s3;have e3:=dM _ _ e;have eq3:=dM _ _ eq;have jY:sizeLine=16777216:=by decide
   cases ho:tG M.rs (gz (cL S) o)with
   |false=>
    erw[cx ?_];erw[_,Z,d,_,Z,dg e3 mE,q,_,Z,.inl (aK.of eq3),.inl #[_,Z,?_,?_]]
    ·have:ys.length<=20:=by lia
     erw[a5Q (by show(ys.length:Int).natAbs<10^40;lia)]
    ·have el:((ys.length:Nat):Int)=(S.ds.length:Int):=by rw[ly]
     erw[_,_,Z,Z,?_,?_]
     ·rw[el]
      have e6:Str.length "rails "=6:=by decide+kernel
      have:(Str.ofString (toString (S.ds.length:Int))).length<=41:=YM aw
      lia
     ·rw[el];erw[k1 ho H3 dM] |true=>
    erw[bK ?_];erw[_,Z,d,_,Z,dg e3 mE,q,_,Z,.inl (aK.of eq3),.inl #[_,_,Z,Z,_,Z,?_]];erw[eL (λkW=>?_) (λkW=>?_)]
    ·have kW:((ys.length:Nat):Int)=20:=jJ kW
     erw[k2 ho aw H3 dM]
    ·have kW:¬((ys.length:Nat):Int)=20:=λz=>kW (cU z)
     erw[_,Z,_,Z,d,_,Z,dp e3 Sr iC,?_];erw[_,Z,d,_,Z,dp bo xP iC,?_];have mZ:∀{X:Hp}{o':HO},X q=some (.lst ys)->(_L.upd X d o') q=some (.lst ys):=λh=>by rw[aR dq.symm];erw[h]
     have eq5:=mZ (o':=.dK (bT (.ref ma) lv (.ref ga) sv (.int S.aE) (.str S.side) (.str S.mark) (.ref q) (.int S.dn) bv cv .bF (.ref td))) (mZ (o':=.dK (bT (.ref ma) lv (.ref ga) sv (.int S.aE) (.str S.side) (.str S.mark) (.ref q) (.int S.dn) bv cv re (.ref td))) eq3);erw[_,Z,d,_,Z,dg bo mE,.inl #[Z,_,aK.of eq5],_,Z,q,ys,_,Z,Z,eq5,aw,?_];have key:∀X:Hp,(∀b,b≠d->X b=H3 b)->X d=some (.dK (bT (.ref ma) lv (.ref ga) sv (.int S.aE) (.str S.side) (.str S.mark) (.ref q) (.int S.dn) bv cv .bF (.ref td)))->Q (.int (S.ds.length+1:Nat)) (_L.upd X q (.lst (ys++[v]))):=by
      intro X hX eX;have b3:aX [d,q] H (_L.upd X q (.lst (ys++[v]))):=λb o' eb hb=>by have hd:b≠d:=λz=>hb (by rw[z];simp);have hq:b≠q:=λz=>hb (by rw[z];simp);rw[aR hq,hX b hd];erw[dM _ _ eb]
      have v0:=R.v b3;have v3:cm H1 (_L.upd X q (.lst (ys++[v]))):=λb o' nb eb=>by
       have hd:b≠d:=λz=>by rw[z,e1]at eb;cases eb;erw[nb trivial]
       have hq:b≠q:=λz=>by rw[z,s1 _ _ eq]at eb;cases eb;erw[nb trivial]
       rw[aR hq,hX b hd];erw[s3 _ _ eb]
      have iv:=Au.it.no;erw[k3 ho aw _ #[#[.ref ma,lv,.ref ga,sv,bv,cv,.bF,by rw[aR dq];erw[eX],RD.v v0 _ (iE _ _ _ _ _) r1,?_,?_,r4.v v0,r5.v v0,.inl Z],ys++[v],bo,?_] b3]
      ·rw[a2a ok];erw[RD.v v0 _ (gd _) r2]
      ·rw[El];erw[xK (aV.v v3 hg)]
      ·exact(aO.v v0 _ ok.row.no rq).append (cj (RD.v v0 _ iv rv) dc)
     erw[_,Z,d,_,Z,dg (by rw[aR dq];erw[bo]) mE,q,_,Z,.inl (aK.of bo),?_];rw[fN,List.length_singleton,ly];erw[key _ (λb hb=>by rw[aR hb,aR hb]) bo]
end
section
theorem zq{z:Int}(h:z.natAbs<2^24):Bd 100 (z:Rat):=#[by rw[Nm];erw[NA h aD],by rw[Nq];decide]
theorem zV(h:aV K H a [.int z,.int 1]):bO K H (.ref a) (z:Rat):=by erw[a,Z,?_];rw[Nm,Nq];erw[h]
theorem a5Z(dl:H l=some (.lst [u1,u2]))(R1:bO K H u1 x)(R2:bO K H u2 y)(b1:Bd 2000 x)(b2:Bd 2000 y)(k:∀v,bO K H v (mn x y)->Q v H):kj K [.ref l] H Q E0:=by
 erw[l,[u1,u2],[x,y],Z,aK.of dl,#[R1,b1,R2,b2,trivial],by simp,λc v q e1 e2 hq=>k v ?_];have e:mn x y=q:=by
  erw[oS ?_ (hq _ (by simp)) (hq _ (by simp))]
  match c,e2 with |0,e2=>cases e2;erw[.inl rfl] |1,e2=>cases e2;erw[.inr rfl]
 rw[e]
 match c,e1,e2 with |0,e1,e2=>cases e1;cases e2;erw[R1] |1,e1,e2=>cases e1;cases e2;erw[R2]
inductive adT(K:aa)(vs:List V)(H:Hp)(Q:VK):Prop |mk (d:_)(q:_)(td:_)(M:_)(D:_)(S:_)(h0:vs=[.ref d])(h1:cM K H d q td M S)(h2:cu M D S)(h3:M.Ok)(h4:S.os≠[])(h5:∀v H',bO K H' v (fR M S)->aH H H'->Q v H')
def OW(K:aa):Sp:=λvs H Q _=>adT K vs H Q
theorem Q5:bN ["_law_sim_here","_law_machine_here","_law_items","_law_bounds_here","_law_reach_here","_law_border"] ["_law_sim_here"] (bj GW):=bZ bf
theorem a3g(F:FA K mg "_law_reach" GW)(B:cn mg)(a94:aJ P w K mg aB "_law_bounds" 3 (Pk K))(yC:aJ P w K mg aB "_law_sum" 2 (oB (·+·) K))(tZ:aJ P w K mg aB "_law_lead" 1 (mQ K))(we:aJ P w K mg aB "_law_min" 2 (kj K)):aJ P w K mg aB "_law_reach" 4 (OW K):=by
 erw[F.has Q5 (λvs H Q E h=>?_) (λ_ _ _ _ _ _=>fj λ_=>rfl) (λfa aQ A outer s H vs Q E hr h=>?_)]
 ·let(d,q,td,M,D,S,rfl,_):=h
  rfl
 ·let(d,q,td,M,D,S,rfl,R,ok,aM,eZ,k):=h
  let(mv,lv,gv,sv,bv,cv,re,e,r1,r2,r3,r4,r5,r6):=R.ob;let(ys,eq,rq):=R.qu;have nd:=Q5.nd;have ly:=rq.length;have l20:=ok.len;have ll:=ok.row.len;have vK:1<=S.os.length:=by cases e:S.os with|nil=>exact(eZ e).elim|cons _ _=>simp
  have uc:=aM.f1;have Du:=aM.len;have hB:=_O.JH aM.j1.1 aM.j1.2 ok.dG ok.dN ok.row.xV;have hN:=_O.SA M.j S.aE S.os;have h0:=_O.JG M.j S.aE S.os S.os.length rfl;have hL:∀i m,leadF S.os i=some m->(2*M.f*(m:Int)).natAbs<2^24:=λi m e=>Oa aM.f1.1 aM.f1.2 (Uc ok.row.xV e);have FB:∀i,i<=S.os.length->Bd 1700 (fl S.os.length (leadF S.os) (2*M.f) (ownF M.j S.aE S.os) i):=λi hi=>(Vx (λi _=>hB i) hL i hi).mono aw;have FN:=a9E (n:=S.os.length) (L:=leadF S.os) (f:=2*M.f) (g:=ownF M.j S.aE S.os) aw (λi _=>hN i);let(ma,mb,rfl,iH,kC):=mj r1;erw[_,(aG (qv (i:=1) (j:=2) Z nd Z Z aD Z Z (au (cR hr (pv 0) bh) (au (cR hr (pv 0) bh) az)) Z) (aG (pS 3 nd (pf a94 hr (au (pv 1) (au (pv 2) (au (cR hr (pv 0) bh) az))))) (aG (pS 4 nd (cQ (au aF (au aF az)))) (aG (m9 iJ Z (a2i Z (B.at "range") (au (aL gX (eK K B (au (pv 2) az)) aF) (au aF (au (qw pY aF) az)))) (bR 5 nd) (aG (ib (bQ (cy (dF K Z hr.units) (px K (px K (pv 2) (pv 5)) aF) bh (bM _)) (aI (pS 4 nd (pf yC hr (au (pv 4) (au (cQ (au (aL cg (aL cg aF (px K (pv 1) aF)) (pf tZ hr (au (px K (pv 2) (pv 5)) az))) (au aF az))) az))))) bV)) (aI (pS 4 nd (pf we hr (au (dC (au (pv 4) (au (px K (pv 3) (pv 5)) az))) az)))))) (aI (aZ (pv 4))))))),?_];erw[_,Z,d,_,Z,dg e AQ,_,Z,d,_,Z,dg e mE,_,_,Z,?_];erw[_,Z,_,Z,_,Z,d,_,Z,dg e Ep,?_];erw[.ref ma,.ref q,S.aE,M.rs,M.r,M.f,M.j,M.t,S.ds,S.os,Z,r1,aM,jO (aK.of eq) rq,ok.row,aw,ok.dG,ok.dN,λl zs H1 nl dl rz s1=>?_];erw[bU Z,λt H2 n2=>?_];have s2:=s1.trans n2.same;erw[_,Z,q,_,Z,.inl (aK.of (s2 _ _ eq)),_,_,Z,Z,_,Z,_,_,Z,#[aw,aw,aD,aD],?_];have eN:((ys.length:Int)-1-0).toNat=S.os.length-1:=by lia
  rw[eN];have rz:aO K H1 zs ((lst S.os.length (ownF M.j S.aE S.os)).map dk):=rz;have lz:=rz.length;rw[cJ,tO]at lz;erw[a9B (Pv:=λi O H5=>aH H2 H5/\∃v w5,bO K H5 v (fl S.os.length (leadF S.os) (2*M.f) (ownF M.j S.aE S.os) (S.os.length-i))/\O=cZ9 (.ref d) (cZ9 (.ref ma) (cZ9 (.ref q) (cZ9 (.ref l) (cZ9 v (w5::[])))))) ?_ ?_ ?_]
  ·erw[aH.refl _,.ref t,none,?_,Z]
   rw[Nat.sub_zero,yH,h0];erw[t,Z,aV.of n2.at']
  ·rintro i O H5 E3 ⟨s5,v,w5,rv,rfl⟩
   obtain⟨c,hc⟩:∃c,S.os.length-1-i=c:=#[_,Z];have mX:c<S.os.length:=by lia
   have eI:((ys.length:Int)-1-(i:Int))=(c:Int):=by lia
   rw[eI];have uW:=s2.trans s5;have Mt:S.os.length-i=c+1:=by lia
   rw[Mt]at rv;obtain⟨x,hx⟩:∃x,ys[c]? =some x:=#[_,cC (show c<ys.length by lia)];let(dd,ed,rd):=rq.get' c hx;let(o,eo,it):=ok.row.get ed;have Be:fW ys (c:Int)=some x:=dQ aw (by simpa using hx);obtain⟨z0,AZ⟩:∃z,zs[c]? =some z:=#[_,cC (show c<zs.length by lia)];have R0:bO K H1 z0 (ownF M.j S.aE S.os c):=by let(d1,e1,r1'):=rz.get' c AZ;rw[cV,tP _ (show c<=S.os.length by lia)]at e1;cases e1;erw[oH r1']
   have MY:fW zs (c:Int)=some z0:=dQ aw (by simpa using AZ);have eq5:=uW _ _ eq;let(a,wd,yw,rfl,h1,ew,sw):=yi (RD.mono uW _ rd) it;have ei:S.os.length-(i+1)=c:=by lia
   erw[λO H6=>aH H5 H6/\∃v' x',bO K H6 v' x'/\Bd 2000 x'/\mn x' (ownF M.j S.aE S.os c)=fl S.os.length (leadF S.os) (2*M.f) (ownF M.j S.aE S.os) c/\O=cZ9 (.ref d) (cZ9 (.ref ma) (cZ9 (.ref q) (cZ9 (.ref l) (cZ9 v' (cZ9 (.int c) []))))),?_,?_]
   ·erw[_,Z,_,Z,.inl #[q,_,_,_,Z,Z,aK.of eq5,Be,.inr #[a,_,0,.str wd,Z,Z,h1,dQ (hW 0) Z,.inr #[_,_,df _,df _,sw,vw,_,Z,?_]]]]
    rw[ew];cases o with |none=>
     erw[bK #[aH.refl _,v,_,rv,(FB (c+1) aw).mono aD,?_,Z]];have hz:ownF M.j S.aE S.os c=0:=by cases c with |zero=>rfl |succ c'=>show betR M.j S.aE (atO S.os c') (atO S.os (c'+1))=0;rw[_O.rH eo,_O.EU]
     rw[yG mX (Ub eo),hz];erw[oS (.inr Z) (FN (c+1) aw) (rX)] |some z=>let(ns,sp):=z;erw[cx ?_];have mH:=lO it;subst mH;let(fA,_,_):=ok.row.ok c ns sp eo;have us:=hL c _ (DE eo);erw[_,Z,_,Z,.inr #[ma,_,2,.int M.f,Z,Z,iH.go uW,Z,_,_,Z,Z,.of_left (cE aD aD),?_]];erw[_,Z,_,Z,.inl #[q,_,_,_,Z,Z,aK.of eq5,Be,?_]];erw[_,ns,sp,Z,RD.mono uW _ rd,fA.ne,by rw[fA.len];lia,λH6 s6=>?_];erw[_,_,Z,Z,.of_left (cE aw aw),?_];erw[bU Z,λtq H7 n7=>?_];erw[v,.ref tq,_,_,Z,(rv.go s6).go n7.same,zV (aV.of n7.at'),(FB (c+1) aw).mono aD,(zq us).mono aD,λu H8 ru s8=>?_];erw[s6.trans (n7.same.trans s8),u,_,ru,(F1 (FB (c+1) aw) us).mono aD,?_,Z];rw[yI mX (DE eo)];erw[oS ((Ah _ _).symm.imp id id) (lN _ _) (ip _ _)]
   ·rintro O H6 ⟨s6,v',x',dw,bx,ex,rfl⟩
    have lI:=n2.same.trans (s5.trans s6);erw[_,Z,_,Z,_,Z,.inl #[l,_,_,_,Z,Z,aK.of (lI _ _ dl),MY,?_]];erw[bU Z,λl2 H7 n7=>?_];erw[a5Z n7.at' (dw.go n7.same) (R0.go (lI.trans n7.same)) bx ((hB c).mono aD) λu ru=>?_];erw[s5.trans (s6.trans n7.same),u,_,?_,Z];rw[ei,<-ex];erw[ru]
  ·rintro O H5 ⟨s5,v,w5,rv,rfl⟩
   have e1:S.os.length-(S.os.length-1)=1:=by lia
   rw[e1]at rv;erw[_,Z,k v H5 rv (s2.trans s5)]
end
section
theorem ad0{pl:List Int}(h:ns.length=pl.length)(k:Nat):fg (fg pl (gQ ns k)) (iZ ns k)=fg pl (gQ ns (k+1)):=by
 apply uF;intro i;unfold fg gQ iZ;simp only[FF,cV];cases pl[i]? <;>cases ns[i]? <;>simp
 lia
theorem acZ{pl:List Int}(h:ns.length=pl.length)(hq:0<aP ns):fg pl (gQ ns 0)=pl:=by
 apply uF;intro i;unfold fg gQ;simp only[FF,cV];by_cases hi:i<pl.length
 ·rw[cC hi,cC (show i<ns.length by lia)]
  simp[JX (show(0:Int)<(aP ns:Int) by lia)]
 ·rw[mM aw]
theorem a00(hq:0<aP ns):gQ ns (aP ns)=ns:=by
 unfold gQ;have:(λz=>fU ((aP ns:Int)*z) (aP ns:Int))=λz=>z:=by funext z;erw[a4R aw]
 rw[this,List.map_id']
theorem a2c(eo:S.os[0]? =some (some (ns,sp)))(h:ns.length=S.pl.length)(hq:0<aP ns):eR S=fg S.pl (gQ ns S.dn):=by
 unfold eR;by_cases h0:S.dn=0
 ·rw[bE h0,h0];exact(acZ h hq).symm
 ·rw[bI h0,eo]
theorem a29(eo:S.os[0]? =some (some (ns,sp)))(h:ns.length=S.pl.length)(hq:0<aP ns)(hd:S.dn<aP ns):fg (eR S) (iZ ns S.dn)=eR (gf ns (gj M S ns sp)):=by
 rw[a2c eo h hq,ad0 h];unfold gf;by_cases he:S.dn+1=aP ns
 ·rw[bE (show(gj M S ns sp).dn=aP ns from he)]
  obtain⟨gF,jd⟩:∃gF,S.os=some (ns,sp)::gF:=by cases e:S.os with |nil=>rw[e]at eo;simp at eo |cons a r=>rw[e]at eo;cases eo;erw[r,rfl]
  have e1:((S.dn:Int)+1)=(aP ns:Int):=by lia
  rw[e1,a00 hq];unfold eR je;have:(gj M S ns sp).os=some (ns,sp)::gF:=jd;rw[this];rfl
 ·rw[bI (show¬(gj M S ns sp).dn=aP ns from he)]
  unfold eR;rw[bI (show¬(gj M S ns sp).dn=0 from Nat.succ_ne_zero _)];have:(gj M S ns sp).os[0]? =some (some (ns,sp)):=eo;rw[this];show _=fg S.pl (gQ ns ((S.dn+1:Nat):Int));rfl
theorem Vk(eo:S.os[0]? =some (some (ns,sp))):cL (gf ns (gj M S ns sp))=cL S:=by
 unfold gf;split
 ·obtain⟨gF,jd⟩:∃gF,S.os=some (ns,sp)::gF:=by cases e:S.os with |nil=>rw[e]at eo;simp at eo |cons a r=>rw[e]at eo;cases eo;erw[r,rfl]
  unfold cL je;have:(gj M S ns sp).os=some (ns,sp)::gF:=jd;rw[this,jd];rfl
 ·rfl
theorem TF(a b c:Rat):mn (mn b a) c=mn (mn a b) c:=by rw[Tz b a]
theorem TB(a b c d:Rat):mn (mn (mn b a) c) d=mn (mn (mn a b) c) d:=by rw[Tz b a]
theorem Vv(hb:b≠0):Rat.divInt (sq.num*a) ((sq.den:Int)*b)=sq*Rat.divInt a b:=by
 conv=>rhs;rw[<-uC sq]
 rw[XS]
end
end _c
set_option maxHeartbeats 4000000
namespace _c
open PySem PySem.Spec PyProof.Rows _L _r _l _C _P _W _R
open _O (topR cornO mnO betR atO ownF leadF ownL OkI OkIs)
section
theorem abS{D:Addr}(hp:aV K H pa (xs.map V.int))(hb:aV K H b (ys.map V.int))(ln:ys.length=xs.length)(hz:xs.length<=1000)(n1:Nw H H1 D (.lst [])) (ht:∀(x y:Int)(H:Hp)(Q:VK),Q (.int (y-x)) H->te [some (.int x),some (.int y)] H Q)(k:∀H2,aH H H2->H2 D=some (.lst ((List.zipWith (λx y=>y-x) xs ys).map V.int))->Q (.ref D) H2):jo (og K false false pa b) (qU K 2 (kX (fK 0) (kX (fK 1) u9))) iX te Q D [none,none] H1:=by
 erw[wB (K:=K) (b1:=false) (b2:=false) (xs:=xs.map V.int) (ys:=ys.map V.int) (ds:=(List.zipWith (λx y=>y-x) xs ys).map PyData.int) [] rfl hp hb n1 (by simp[ln]) (by rw[cJ,List.length_zipWith];lia) (me _) ?_ ?_]
 ·intro i x y d H2 Q' ex ey ed s2 hq
  let(m,em,rfl):=nN ed;rw[cV]at ex ey;cases e1:xs[i]? with |none=>rw[e1]at ex;cases ex |some u=>cases e2:ys[i]? with |none=>rw[e2]at ey;cases ey |some v=>rw[e1]at ex;rw[e2]at ey;cases ex;cases ey;rw[FF,e1,e2]at em;cases em;erw[ht _ _ _ _ (hq _ _ (aH.refl _) (cF _))]
 ·intro H2 zs s2 d2 r2
  rw[r2.jC]at d2;erw[k H2 s2 d2]
theorem a1b(ns:List Int)(k:Nat):List.zipWith (λx y=>y-x) (gQ ns (k:Int)) (gQ ns ((k:Int)+1))=iZ ns k:=by apply uF;intro i;unfold gQ iZ;simp only[FF,cV];cases ns[i]? <;>simp
theorem VS(h:aO K H ys ds):aO K H (ys.eraseIdx 0) ds.tail:=by have:=h.drop 1;rw[List.drop_one,List.drop_one]at this;rw[List.eraseIdx_zero];erw[this]
theorem Jx{D:Nat}(ok:cu M D S):(eR S).length=M.rs.length:=by
 unfold eR;split
 ·erw[ok.pl]
 ·split
  ·next ns sp eo=>rw[rK (by rw[ok.pl];simp[gQ];exact(ok.row.ok 0 ns sp eo).1.len)];erw[ok.pl]
  ·erw[ok.pl]
inductive adS(K:aa)(vs:List V)(H:Hp)(Q:VK):Prop |mk (d:_)(q:_)(td:_)(M:_)(D:_)(S:_)(ns:_)(sp:_)(h0:vs=[.ref d])(h1:cM K H d q td M S)(h2:cu M D S)(h3:M.Ok)(h4:S.os[0]? =some (some (ns,sp)))(h5:¬Halt S.pc S.aY)(h6:∀v H',RD K H' v (oU M S ns sp)->cM K H' d q td M (gf ns (gj M S ns sp))->aX [d,q] H H'->Q v H')
def OV(K:aa):Sp:=λvs H Q _=>adS K vs H Q
theorem Q4:bN ["_law_sim_here","_law_machine_here","_law_line_here","_law_w","_law_rest","_law_reach_here","_law_tops","_law_square","_law_behind","_law_start","_law_many","_law_more","_law_row"] ["_law_sim_here"] (bj GU):=bZ bf
theorem a3f(F:FA K mg "_law_sim_step" GU)(B:cn mg)(tZ:aJ P w K mg aB "_law_lead" 1 (mQ K))(a8V:aJ P w K mg aB "_law_reach" 4 (OW K))(Ed:aJ P w K mg aB "_law_top" 2 (G9 K))(yC:aJ P w K mg aB "_law_sum" 2 (oB (·+·) K))(u6:aJ P w K mg aB "_law_frac" 1 (zI K))(Vb:aJ P w K mg aB "_law_stand" 2 (OS K))(we:aJ P w K mg aB "_law_min" 2 (kj K))(a8R:aJ P w K mg aB "_law_ticks" 1 (OP K)):aJ P w K mg aB "_law_sim_step" 5 (OV K):=by
 erw[F.has Q4 (λvs H Q E h=>?_) (λ_ _ _ _ _ _=>fj λ_=>rfl) (λfa aQ A outer s H vs Q E hr h=>?_)]
 ·let(d,q,td,M,D,S,ns,sp,rfl,_):=h
  rfl
 ·let(d,q,td,M,D,S,ns,sp,rfl,R,ok,aM,eo,nh,k):=h
  let(mv,lv,gv,sv,bv,cv,rv,e,r1,r2,r3,r4,r5,r6):=R.ob;let(ys,eq,rq):=R.qu;have dq:=R.ne;have nd:=Q4.nd;have ll:=ok.row.len;have l20:=ok.len;have Du:=aM.len;have D1:=ok.D1;have D2:=ok.D2;have CU:=aM.r1;have uc:=aM.f1;have qM:0<S.os.length:=(eQ.mp eo).1;have eZ:S.os≠[]:=λz=>by rw[z]at qM;simp at qM
  obtain⟨dd,ed⟩:∃dd,S.ds[0]? =some dd:=#[_,cC (show 0<S.ds.length by lia)];let(y,ey,ry):=rq.get 0 ed;have mH:=lO (ok.row.it 0 dd _ ed eo);subst mH;let(fA,hZ,iY):=ok.row.ok 0 ns sp eo;have Ug:=An fA;have gh:=fA.lead.1;have hd:S.dn<aP ns:=by
   rcases ok.dn with z|⟨A7,zJ,e1,e2⟩
   ·rw[z];erw[gh]
   ·rw[eo]at e1;cases e1;erw[e2]
  let(Rd,Rl):=Jf ok.raw aM eZ;have Oj:=G2 S.aE sp;have tl:=C7 hZ iY ok.dG ok.dN;let(ma,mb,rfl,iH,kC):=mj r1;erw[_,(aG (qv (i:=1) (j:=2) Z nd Z Z aD Z Z (au (cR hr (pv 0) bh) (au (px K (cR hr (pv 0) bh) aF) az)) Z) (aG (pS 3 nd (cR hr (pv 0) bh)) (aG (pS 4 nd (aL gX (pf tZ hr (au (pv 2) az)) (cR hr (pv 0) bh))) (aG (ib (bQ (cy JJ (cR hr (pv 0) bh) j7 (bM _)) (aI (jQ (fi hr.units) (pv 0) bh (pf a8V hr (au (pv 0) az)) Z)) bV)) (aG (pS 5 nd (cR hr (pv 0) bh)) (aG (pS 6 nd (dC (au (pf Ed hr (au (pv 2) (au (cR hr (pv 0) bh) az))) az))) (aG (pS 7 nd (aL (yW K Z) (pv 6) (dC (au (pf yC hr (au (pv 3) (au (cQ (au (px K (pv 1) aF) (au aF az))) az))) (au (pf yC hr (au (pv 5) (au (cQ (au (aL cg (px K (pv 1) aF) (aL gX (aL cg aF (pv 4)) aF)) (au aF az))) az))) az))))) (aG (pS 8 nd (aL (yW K Z) (pv 6) (dC (au (pf yC hr (au (pv 3) (au (cQ (au (aL cg aF (px K (pv 1) aF)) (au aF az))) az))) (au (pf yC hr (au (pv 5) (au (cQ (au (aL cg (aL cg aF (px K (pv 1) aF)) (aL gX (pv 4) aF)) (au aF az))) az))) az))))) (aG (ib (bQ (cy zZ (cR hr (pv 0) bh) j7 (bM _)) (aG (fP (cR hr (pv 0) bh) (eg K Z (n:=2) Z (cf (bR 9 nd) (cf (bR 10 nd) dZ)))) (aG (jQ (fi hr.units) (pv 0) bh (aL cZ (cR hr (pv 0) bh) aF) Z) (aG (pS 11 nd (aL gX (pv 10) (cR hr (pv 0) bh))) (aG (ie (jR K Z (pv 7) (au (pf u6 hr (au (aL cg (px K (pv 9) aF) (aL cZ (aL cg aF (pv 11)) aF)) (au (aL cg (aL cg (px K (pv 9) aF) aF) (pv 10)) az))) az))) (aI (ie (jR K Z (pv 8) (au (pf u6 hr (au (aL cg (px K (pv 9) aF) (pv 11)) (au (aL cg (px K (pv 9) aF) (pv 10)) az))) az)))))))) bV)) (aG (pS 12 nd (j8 (x:="tuple") (lX K Z) Z (B.at "tuple") gB (au (gU (N:=["_law_a","_law_b"]) (js:=[none,none]) rfl rfl rfl (kN K rfl false false rfl (B.at "zip") (au (pf Vb hr (au (pv 2) (au (cR hr (pv 0) bh) az))) (au (pf Vb hr (au (pv 2) (au (aL cZ (cR hr (pv 0) bh) aF) az))) az))) (λ_ _ _ _ _=>(eg K rfl (n:=2) rfl (cf (bR 0 (gG aD)) (cf (bR 1 (gG aD)) dZ)))) (λ_ _ _ _ _=>gs) (λ_ _ _ _ _=>(aL gX (pv 1) (pv 0)))) az))) (aG (jQ (fi hr.units) (pv 0) bh (j8 (x:="tuple") (lX K Z) Z (B.at "tuple") gB (au (gU (N:=["_law_stand_here","_law_step"]) (js:=[none,none]) rfl rfl rfl (kN K rfl false false rfl (B.at "zip") (au (cR hr (pv 0) bh) (au (pv 12) az))) (λ_ _ _ _ _=>(eg K rfl (n:=2) rfl (cf (bR 0 (gG aD)) (cf (bR 1 (gG aD)) dZ)))) (λ_ _ _ _ _=>gs) (λ_ _ _ _ _=>(aL cZ (pv 0) (pv 1)))) az)) rfl) (aG (jQ (fi hr.units) (pv 0) bh (pf we hr (au (pv 8) az)) Z) (aG (jQ (fi hr.units) (pv 0) bh (aL cZ (cR hr (pv 0) bh) aF) Z) (aG (ib (bQ (cy (dF K Z hr.units) (pv 4) aF (bM _)) (aG (ie (So K Z (cR hr (pv 0) bh) (au aF az))) (aG (jQ (fi hr.units) (pv 0) bh aF Z) (aI (jQ (fi hr.units) (pv 0) bh j7 Z)))) bV)) (aG (pS 7 nd (pf we hr (au (pv 7) az))) (aI (aZ (cQ (au bh (au (pv 12) (au (pf a8R hr (au (pv 1) (au (pv 7) az))) (au (pv 7) az)))))))))))))))))))))),?_];erw[_,Z,d,_,Z,dg e AQ,_,Z,d,_,Z,dg e mE,.inl #[q,_,0,y,Z,Z,aK.of eq,dQ (hW 0) ey,_,_,Z,?_]];erw[_,Z,d,_,Z,dg e qT,?_];erw[_,Z,y,ns,sp,Z,ry,fA.ne,by rw[fA.len];lia,λH1 s1=>?_];erw[_,Z,d,_,Z,dg (s1 _ _ e) Er,_,_,Z,Z,?_];erw[λO H2=>∃dw w5 w6 w7 w8 w9 lW pX BZ,O=cZ9 (.ref d) (cZ9 (.ref ma) (cZ9 y (cZ9 sv (cZ9 (.int ((aP ns:Int)-S.dn)) (w5::w6::w7::w8::w9::lW::pX::BZ::[])))))/\aX [d] H H2/\H2 d=some (.dK (bT (.ref ma) lv gv sv (.int S.aE) (.str S.side) (.str S.mark) (.ref q) (.int S.dn) bv cv dw (.ref td)))/\bO K H2 dw (fR M S),?_,?_]
  ·erw[_,Z,d,_,Z,dg (s1 _ _ e) Vp,Z,_,Z,?_]
   rcases r6 with rfl|r6
   ·erw[cx ?_]
    erw[_,Z,d,q,td,M,D,S,Z,R.same ok.row.no s1,ok,aM,eZ,λv H2 Jo s2=>?_];have e2:=s2 _ _ (s1 _ _ e);erw[_,Z,d,_,Z,dp e2 xP iC,?_];have v2:cm H2 (_L.upd H2 d (.dK (bT (.ref ma) lv gv sv (.int S.aE) (.str S.side) (.str S.mark) (.ref q) (.int S.dn) bv cv v (.ref td)))):=.upd e2 trivial;erw[v,_,_,_,_,_,_,_,_,Z,λb o eb hb=>?_,bo,Jo.v v2];have lP:b≠d:=λz=>hb (by rw[z];erw[.head _]);rw[aR lP];erw[s2 _ _ (s1 _ _ eb)]
   ·let(ra,rfl,hra):=r6
    erw[bK #[_,_,_,_,_,_,_,_,_,Z,.of s1,s1 _ _ e,ra,Z,hra.go s1]]
  ·rintro O H2 ⟨dw,w5,w6,w7,w8,w9,lW,pX,BZ,rfl,Lk⟩
   have b2:=Lk.1;have e2:=Lk.2.1;have rR:=Lk.2.2;have v2:cm H H2:=b2.v λx hx o' dP=>by rw[bW]at hx;rw[hx,e]at dP;cases dP;trivial
   have R0:=r4.v v2;have ry2:=RD.v v2 _ (Dz ns sp) ry;have DY:=aV.v v2 iH;have l1:1<=(aP ns:Int)-S.dn:=by lia
   obtain⟨left,el⟩:∃left,(aP ns:Int)-S.dn=left:=#[_,Z];have l2:left<=100:=by lia
   rw[el]at l1⊢;have jY:(2:Int)^24=16777216:=by decide
   have fl1:(M.f*(2*left-1)).natAbs<=50*200:=by rw[gD];erw[oj aw aw]
   have M5:0<=M.f*(2*left-1):=ki aw aw;have fl2:(2*M.f*(left-1)).natAbs<=100*100:=by rw[gD];erw[oj aw aw]
   have M4:0<=2*M.f*(left-1):=ki aw aw;have zY:Bd 2000 S.pc:=(ok.pd.bd (fz ok.pm bf)).mono aw;have RB:Bd 2000 (fR M S):=(Rd.bd (fz Rl bf)).mono aD;have tB:Bd 2000 (topR S.aE sp):=(Oj.bd (fz tl bf)).mono aD;have B1:Bd 2000 (S.pc+(M.r:Rat)):=ui ok.pd ok.pm aw aw aw;have B2:Bd 2000 (fR M S+((M.f*(2*left-1):Int):Rat)):=ui Rd Rl M5 aw aw;have B3:Bd 2000 (S.pc+((2*M.r:Int):Rat)):=ui ok.pd ok.pm aw aw aw;have B4:Bd 2000 (fR M S+((2*M.f*(left-1):Int):Rat)):=ui Rd Rl M4 aw aw;erw[_,Z,d,_,Z,dg e2 Vp,?_];erw[_,Z,_,Z,d,_,Z,dg e2 Ep,y,ns,sp,S.aE,Z,ry2,hZ,iY,ok.dG,ok.dN,λtv H3 rt s3=>?_];have rt:bO K H3 tv (topR S.aE sp):=rt;erw[bU Z,λlt H4 n4=>?_];have qo:=s3.trans n4.same;erw[_,Z,_,Z,_,Z,.inr #[ma,_,1,.int M.r,Z,Z,DY.go qo,Z,bU Z,λt5 H5 n5=>?_]];erw[sv,.ref t5,_,_,Z,(R0.go qo).go n5.same,zV (aV.of n5.at'),zY,(zq aw).mono aD,λu1 H6 lZ s6=>?_];have Rr:=qo.trans (n5.same.trans s6);erw[_,Z,_,Z,.inr #[ma,_,2,.int M.f,Z,Z,DY.go Rr,Z,_,Z,_,_,Z,Z,.of_left (cE aD aD),_,_,Z,Z,_,_,Z,Z,.of_left (cE aw aw),bU Z,λt7 H7 n7=>?_]];erw[dw,.ref t7,_,_,Z,(rR.go Rr).go n7.same,zV (aV.of n7.at'),RB,(zq aw).mono aD,λu2 H8 vb s8=>?_];erw[bU Z,λl9 H9 n9=>?_];have IS:=(n5.same.trans s6).trans ((n7.same.trans s8).trans n9.same);erw[lt,l9,_,_,Z,Z,aK.of (IS _ _ n4.at'),aK.of n9.at',by show 3<=sizeLine;decide,λlm kG kP=>?_];have IU:=IS.trans kP.same;have zN:=qo.trans IU;erw[_,Z,_,Z,_,Z,.inr #[ma,_,1,.int M.r,Z,Z,DY.go zN,Z,_,_,Z,Z,.of_left (cE aD aD),bU Z,λZL jn kx=>?_]];erw[sv,.ref ZL,_,_,Z,(R0.go zN).go kx.same,zV (aV.of kx.at'),zY,(zq aw).mono aD,λu3 uB J0 kl=>?_];have Rx:=zN.trans (kx.same.trans kl);erw[_,Z,_,Z,.inr #[ma,_,2,.int M.f,Z,Z,DY.go Rx,Z,_,_,Z,Z,.of_left (cE aD aD),_,Z,_,_,Z,Z,_,_,Z,Z,.of_left (cE aw aw),bU Z,λZJ Nf Dm=>?_]];erw[dw,.ref ZJ,_,_,Z,(rR.go Rx).go Dm.same,zV (aV.of Dm.at'),RB,(zq aw).mono aD,λu4 XG IZ fY=>?_];erw[bU Z,λl15 H15 Dl=>?_];have CM:=(kx.same.trans kl).trans ((Dm.same.trans fY).trans Dl.same);erw[lt,l15,_,_,Z,Z,aK.of ((IU.trans CM) _ _ n4.at'),aK.of Dl.at',by show 3<=sizeLine;decide,λle mJ vt=>?_];have zO:=CM.trans vt.same;have CK:=zN.trans zO;have wq:=CK _ _ e2;have F8:=rt.go (n4.same.trans (IU.trans zO));have U1:=lZ.go ((n7.same.trans s8).trans (n9.same.trans (kP.same.trans zO)));have U2:=vb.go (n9.same.trans (kP.same.trans zO));have U3:=J0.go ((Dm.same.trans fY).trans (Dl.same.trans vt.same));have U4:=IZ.go (Dl.same.trans vt.same);have dm:mJ lm=some (.lst [tv,u1,u2]):=zO _ _ kP.at';have de:mJ le=some (.lst [tv,u3,u4]):=vt.at';have Rp:=qo.trans IS;have Rw:=zN.trans CM;have yS:d≠lm:=λz=>by have:=kP.no;rw[<-z,Rp _ _ e2]at this;cases this
   have EJ:d≠le:=λz=>by have:=vt.no;rw[<-z,Rw _ _ e2]at this;cases this
   have Al:lm≠le:=λz=>by have:=vt.no;rw[<-z,CM _ _ kP.at']at this;cases this
   have Dg:H lm=none:=by cases e':H lm with |none=>rfl |some o=>have:=Rp _ _ (b2 _ _ e' (by rw[bW];erw[yS.symm]));rw[kP.no]at this;cases this
   have A9:H le=none:=by cases e':H le with |none=>rfl |some o=>have:=Rw _ _ (b2 _ _ e' (by rw[bW];erw[EJ.symm]));rw[vt.no]at this;cases this
   have O2:cm H mJ:=v2.trans CK.v;erw[λO HA=>∃fV w9 lW pX BZ um ue,O=cZ9 (.ref d) (cZ9 (.ref ma) (cZ9 y (cZ9 sv (cZ9 (.int left) (cZ9 dw (cZ9 (.ref lt) (cZ9 (.ref lm) (cZ9 (.ref le) (w9::lW::pX::BZ::[])))))))))/\aX [d,lm,le] mJ HA/\HA d=some (.dK (bT (.ref ma) lv gv sv (.int S.aE) (.str S.side) (.str S.mark) (.ref q) (.int S.dn) bv fV dw (.ref td)))/\wM K HA bv fV (De S.aY)/\HA lm=some (.lst um)/\HA le=some (.lst ue)/\(∀H8 Q',cm HA H8->H8 lm=some (.lst um)->(∀v,bO K H8 v (mT M.r M.f S.pc (topR S.aE sp) (fR M S) left S.aY)->Q' v H8)->kj K [.ref lm] H8 Q' E0)/\(∀H8 Q',cm HA H8->H8 le=some (.lst ue)->(∀v,bO K H8 v (qA M.r M.f S.pc (topR S.aE sp) (fR M S) left S.aY)->Q' v H8)->kj K [.ref le] H8 Q' E0),?_,?_]
   ·erw[_,Z,d,_,Z,dg wq yE,Z,_,Z,?_]
    cases hs:S.aY with |none=>
     have jw:=r5.v O2;rw[hs]at jw;have a1S:=jw;let(rfl,_):=jw;erw[bK #[cv,_,_,_,_,_,_,Z,aX.refl _ _,wq,a1S,dm,de,λH8 Q' sV d8 kq=>DD d8 (F8.v sV) (U1.v sV) (U2.v sV) tB B1 B2 λv rv=>kq v ?_,λH8 Q' sV d8 kq=>DD d8 (F8.v sV) (U3.v sV) (U4.v sV) tB B3 B4 λv rv=>kq v ?_]]
     ·rw[TF]at rv;erw[rv]
     ·rw[TF]at rv;erw[rv] |some z=>
     let(sq,st,gn):=z;have jw:=r5.v O2;rw[hs]at jw;have sk:=ok.aY;rw[hs]at sk nh;let(g1,g2,g3):=xX sk ok.pd.nn nh;let(gn0,gn1,Cg,uS,uR,_,_):=sk;let(ta,su,rfl,yk,(sa,rfl,UH),rfl):=jw;erw[cx ?_];have Ci:Bd 2000 sq:=(uS.bd uR).mono aw;erw[_,Z,d,_,Z,dg wq yE,ta,_,Z,yk,Z,_,_,Z,_,_,Z,Z,?_];erw[_,Z,d,_,Z,dg wq Vq,_,_,Z,Z,_,Z,d,_,Z,dp wq Ss iC,?_];erw[_,Z,_,Z,d,_,Z,dg bo Vq,_,_,Z,Z,?_];have vA:cm mJ (_L.upd mJ d (.dK (bT (.ref ma) lv gv sv (.int S.aE) (.str S.side) (.str S.mark) (.ref q) (.int S.dn) (.ref ta) (.int (gn+1)) dw (.ref td)))):=.upd wq trivial;have yR:(_L.upd mJ d (.dK (bT (.ref ma) lv gv sv (.int S.aE) (.str S.side) (.str S.mark) (.ref q) (.int S.dn) (.ref ta) (.int (gn+1)) dw (.ref td)))) lm=some (.lst [tv,u1,u2]):=by rw[aR yS.symm];erw[dm]
     have EL:(_L.upd mJ d (.dK (bT (.ref ma) lv gv sv (.int S.aE) (.str S.side) (.str S.mark) (.ref q) (.int S.dn) (.ref ta) (.int (gn+1)) dw (.ref td)))) le=some (.lst [tv,u3,u4]):=by rw[aR EJ.symm];erw[de]
     have eA:(_L.upd mJ d (.dK (bT (.ref ma) lv gv sv (.int S.aE) (.str S.side) (.str S.mark) (.ref q) (.int S.dn) (.ref ta) (.int (gn+1)) dw (.ref td)))) d=some (.dK (bT (.ref ma) lv gv sv (.int S.aE) (.str S.side) (.str S.mark) (.ref q) (.int S.dn) (.ref ta) (.int (gn+1)) dw (.ref td))):=bo;have bA:∀b o,b≠d->mJ b=some o->(_L.upd mJ d (.dK (bT (.ref ma) lv gv sv (.int S.aE) (.str S.side) (.str S.mark) (.ref q) (.int S.dn) (.ref ta) (.int (gn+1)) dw (.ref td)))) b=some o:=λb o hb eb=>by rw[aR hb];erw[eb]
     generalize _L.upd mJ d (.dK (bT (.ref ma) lv gv sv (.int S.aE) (.str S.side) (.str S.mark) (.ref q) (.int S.dn) (.ref ta) (.int (gn+1)) dw (.ref td)))=HA at vA yR EL eA bA⊢;have KN:=aV.v vA UH;have Lo:=den_pos sq;have dW:∀z:Int,0<z->z<=2000->0<(sq.den:Int)*z/\Wd ((sq.den:Int)*z):=λz h1 h2=>by erw[jh Lo h1,iW (n:=2011) ?_ aD];rw[gD];erw[mh Ci.den (show z.natAbs<2^11 by lia)]
     have jY:sizeLine=16777216:=by decide
     erw[_,Z,.inl #[Z,_,aK.of yR],_,Z,.inr #[sa,_,0,_,Z,Z,KN,Z,_,Z,_,_,Z,Z,.of_left (cE aD aD),_,_,Z,Z,_,_,Z,Z,.of_right (cE aw aw),?_]];erw[_,Z,.inr #[sa,_,1,_,Z,Z,KN,Z,_,_,Z,Z,.of_right (cE aD aD),_,Z,_,_,Z,Z,.of_right (cE aw aw),?_]];have W1:=dW (2*st) aw aw;rw[<-uG]at W1;erw[_,_,Z,W1.1,W1.2,λx1 HB zR sB=>?_];have uf:Rat.divInt (sq.num*(2*(st-(gn+1))+1)) ((sq.den:Int)*2*st)=sq*Rat.divInt (2*(st-gn-1)+1) (2*st):=by rw[uG,Vv (show(2*st:Int)≠0 by lia),show st-(gn+1)=st-gn-1 by lia]
     have Ez:Rat.divInt (sq.num*(st-(gn+1))) ((sq.den:Int)*st)=sq*Rat.divInt (st-gn-1) st:=by rw[Vv (show(st:Int)≠0 by lia),show st-(gn+1)=st-gn-1 by lia]
     have zR:bO K HB x1 (sq*Rat.divInt (2*(st-gn-1)+1) (2*st)):=by rw[<-uf];erw[zR]
     have pB:Bd 2000 (sq*Rat.divInt (2*(st-gn-1)+1) (2*st)):=((uS.bd uR).mul (lM (n:=12) aw aw aw)).mono aw;have JF:Bd 2000 (sq*Rat.divInt (st-gn-1) st):=((uS.bd uR).mul (lM (n:=12) aw aw aw)).mono aw;have Wg:=sB _ _ yR;erw[lm,_,_,Z,Z,Wg,by show 3<sizeLine;lia,?_];have vC:cm HB (_L.upd HB lm (.lst ([tv,u1,u2]++[x1]))):=.upd Wg trivial;have MF:(_L.upd HB lm (.lst ([tv,u1,u2]++[x1]))) le=some (.lst [tv,u3,u4]):=by rw[aR Al.symm];erw[sB _ _ EL]
     have Wf:(_L.upd HB lm (.lst ([tv,u1,u2]++[x1]))) lm=some (.lst [tv,u1,u2,x1]):=bo;have eC:(_L.upd HB lm (.lst ([tv,u1,u2]++[x1]))) d=some (.dK (bT (.ref ma) lv gv sv (.int S.aE) (.str S.side) (.str S.mark) (.ref q) (.int S.dn) (.ref ta) (.int (gn+1)) dw (.ref td))):=by rw[aR yS];erw[sB _ _ eA]
     have bC:∀b o,b≠lm->HB b=some o->(_L.upd HB lm (.lst ([tv,u1,u2]++[x1]))) b=some o:=λb o hb eb=>by rw[aR hb];erw[eb]
     generalize _L.upd HB lm (.lst ([tv,u1,u2]++[x1]))=HC at vC MF Wf eC bC⊢;have UI:=aV.v vC (KN.go sB);erw[_,Z,.inl #[Z,_,aK.of MF],_,Z,.inr #[sa,_,0,_,Z,Z,UI,Z,_,Z,_,_,Z,Z,.of_right (cE aw aw),?_]];erw[_,Z,.inr #[sa,_,1,_,Z,Z,UI,Z,_,Z,_,_,Z,Z,.of_right (cE aw aw),?_]];have W2:=dW st aw aw;erw[_,_,Z,W2.1,W2.2,λx2 HD zQ sD=>?_];have zQ:bO K HD x2 (sq*Rat.divInt (st-gn-1) st):=by rw[<-Ez];erw[zQ]
     have Wt:=sD _ _ MF;erw[le,_,_,Z,Z,Wt,by show 3<sizeLine;lia,?_];have vE:cm HD (_L.upd HD le (.lst ([tv,u3,u4]++[x2]))):=.upd Wt trivial;have Yt:=sB.v.trans vC;have O3:=sD.v.trans vE;have sF:=vA.trans (Yt.trans O3);erw[.int (gn+1),_,_,_,_,[tv,u1,u2,x1],[tv,u3,u4,x2],Z,λb o' eb hb=>?_,?_,#[ta,.ref sa,Z,aV.v sF yk,#[sa,Z,aV.v sF UH],Z],?_,bo,λH' Q' sV d' kq=>?_,λH' Q' sV d' kq=>?_]
     ·have ha:b≠d:=λz=>hb (by rw[z];simp)
      have Lg:b≠lm:=λz=>hb (by rw[z];simp);have hle:b≠le:=λz=>hb (by rw[z];simp);rw[aR hle];erw[sD _ _ (bC _ _ Lg (sB _ _ (bA _ _ ha eb)))]
     ·rw[aR EJ];erw[sD _ _ eC]
     ·rw[aR Al];erw[sD _ _ Wf]
     ·erw[DC d' ((F8.v sF).v sV) ((U1.v sF).v sV) ((U2.v sF).v sV) (((zR.v vC).v O3).v sV) tB B1 B2 pB λv rv=>kq v ?_]
      rw[TB]at rv;erw[rv]
     ·erw[DC d' ((F8.v sF).v sV) ((U3.v sF).v sV) ((U4.v sF).v sV) ((zQ.v vE).v sV) tB B3 B4 JF λv rv=>kq v ?_]
      rw[TB]at rv;erw[rv]
   ·rintro O HA ⟨fV,w9,lW,pX,afE,um,ue,rfl,vT⟩
    have bt:=vT.1;have eA:=vT.2.1;have OG:=vT.2.2.1;have yR:=vT.2.2.2.1;have EL:=vT.2.2.2.2.1;have km:=vT.2.2.2.2.2.1;have ke:=vT.2.2.2.2.2.2;have EW:aX [d] H HA:=λb o' eb hb=>by
     have ha:b≠d:=λz=>hb (by rw[z];simp);erw[bt b o' (CK _ _ (b2 _ _ eb hb)) λhm=>?_];simp only[bJ,cD,cX]at hm;rcases hm with h|h|h
     ·erw[ha h]
     ·rw[h,Dg]at eb;cases eb
     ·rw[h,A9]at eb;cases eb
    have FT:cm H HA:=EW.v λx hx o' dP=>by rw[bW]at hx;rw[hx,e]at dP;cases dP;trivial
    have YA:cm mJ HA:=bt.v λx hx o' dP=>by
     simp only[bJ,cD,cX]at hx;rcases hx with h|h|h
     ·rw[h,wq]at dP;cases dP;trivial
     ·rw[h,dm]at dP;cases dP;trivial
     ·rw[h,de]at dP;cases dP;trivial
    have rRA:bO K HA dw (fR M S):=(rR.go CK).v YA;have RF:=RD.v FT _ (Dz ns sp) ry;have D8:fM ns.length 1000 ns:=fA.up;have TY:ns.length=M.rs.length:=fA.len;erw[_,Z,_,Z,d,_,Z,dg eA Er,y,ns,sp,_,Z,RF,D8,aw,aw,aw,λa1 HB ra1 sB=>?_];erw[_,Z,_,Z,d,_,Z,dg (sB _ _ eA) Er,_,_,Z,Z,y,ns,sp,_,Z,RD.mono sB _ RF,D8,aw,aw,aw,λa2 HC ra2 sC=>?_];let(p1,rfl,h1):=vg (pl:=gQ ns (S.dn:Int)) ra1;let(p2,rfl,h2):=vg (pl:=gQ ns ((S.dn:Int)+1)) ra2;erw[p1,p2,Z,#[_,h1.go sC],#[_,h2],λD1 HD nD=>?_];erw[abS (h1.go sC) h2 (by simp[gQ]) (by simp[gQ];lia) nD (λx y H Q h=>#[_,Z,_,Z,_,_,Z,Z,h]) λHE sE dE=>?_];erw[D1,_,Z,.inl #[aK.of dE,λjN HF nF=>?_]];have KO:aV K HF jN ((iZ ns S.dn).map V.int):=by rw[<-a1b];erw[aV.of nF.at']
    have uV:=sB.trans (sC.trans (sE.trans nF.same));have eF:=uV _ _ eA;have hlv:=(r2:RD K H lv (fF (eR S)));let(pa,rfl,vM):=vg (RD.v FT _ (gd _) r2);have lpl:(eR S).length=M.rs.length:=Jx ok;have a5G:(iZ ns S.dn).length=(eR S).length:=by rw[lpl];simp[iZ,TY]
    erw[_,Z,d,_,Z,dg eF LV,_,Z,pa,jN,Z,#[_,vM.go uV],#[_,KO],λD2 HG nG=>?_];erw[WH (vM.go uV) KO a5G aw nG (λx y H Q h=>#[_,Z,_,Z,_,_,Z,Z,h]) λHI sI dI=>?_];erw[D2,_,Z,.inl #[aK.of dI,λpt HJ nJ=>?_]];have CG:=sI.trans nJ.same;have eJ:=CG _ _ eF;have UK:aV K HJ pt ((fg (eR S) (iZ ns S.dn)).map V.int):=aV.of nJ.at';erw[_,Z,d,_,Z,dp eJ a2F iC,?_];have O4:cm HA HJ:=(uV.trans CG).v;have FR:cm HJ (_L.upd HJ d (.dK (bT (.ref ma) (.ref pt) gv sv (.int S.aE) (.str S.side) (.str S.mark) (.ref q) (.int S.dn) bv fV dw (.ref td)))):=.upd eJ trivial;have e1:(_L.upd HJ d (.dK (bT (.ref ma) (.ref pt) gv sv (.int S.aE) (.str S.side) (.str S.mark) (.ref q) (.int S.dn) bv fV dw (.ref td)))) d=some (.dK (bT (.ref ma) (.ref pt) gv sv (.int S.aE) (.str S.side) (.str S.mark) (.ref q) (.int S.dn) bv fV dw (.ref td))):=bo;have b1:∀b o,b≠d->HA b=some o->(_L.upd HJ d (.dK (bT (.ref ma) (.ref pt) gv sv (.int S.aE) (.str S.side) (.str S.mark) (.ref q) (.int S.dn) bv fV dw (.ref td)))) b=some o:=λb o hb eb=>by rw[aR hb];erw[CG _ _ (uV _ _ eb)]
    generalize _L.upd HJ d (.dK (bT (.ref ma) (.ref pt) gv sv (.int S.aE) (.str S.side) (.str S.mark) (.ref q) (.int S.dn) bv fV dw (.ref td)))=ze at FR e1 b1⊢;erw[_,Z,?_];dsimp only[jM];erw[ke ze _ (O4.trans FR) (b1 _ _ EJ.symm EL) λpe CO=>?_];erw[_,Z,d,_,Z,dp e1 a2D iC,?_];erw[_,Z,d,_,Z,dg bo Er,_,_,Z,Z,_,Z,d,_,Z,dp bo JE iC,?_];have vX:cm ze (_L.upd (_L.upd ze d (.dK (bT (.ref ma) (.ref pt) gv pe (.int S.aE) (.str S.side) (.str S.mark) (.ref q) (.int S.dn) bv fV dw (.ref td)))) d (.dK (bT (.ref ma) (.ref pt) gv pe (.int S.aE) (.str S.side) (.str S.mark) (.ref q) (.int ((S.dn:Int)+1)) bv fV dw (.ref td)))):=λb o nb eb=>by
     have hb:b≠d:=λz=>by rw[z,e1]at eb;cases eb;erw[nb trivial]
     rw[aR hb,aR hb];erw[eb]
    have eX:(_L.upd (_L.upd ze d (.dK (bT (.ref ma) (.ref pt) gv pe (.int S.aE) (.str S.side) (.str S.mark) (.ref q) (.int S.dn) bv fV dw (.ref td)))) d (.dK (bT (.ref ma) (.ref pt) gv pe (.int S.aE) (.str S.side) (.str S.mark) (.ref q) (.int ((S.dn:Int)+1)) bv fV dw (.ref td)))) d=some (.dK (bT (.ref ma) (.ref pt) gv pe (.int S.aE) (.str S.side) (.str S.mark) (.ref q) (.int ((S.dn:Int)+1)) bv fV dw (.ref td))):=bo;have bX:∀b o,b≠d->HA b=some o->(_L.upd (_L.upd ze d (.dK (bT (.ref ma) (.ref pt) gv pe (.int S.aE) (.str S.side) (.str S.mark) (.ref q) (.int S.dn) bv fV dw (.ref td)))) d (.dK (bT (.ref ma) (.ref pt) gv pe (.int S.aE) (.str S.side) (.str S.mark) (.ref q) (.int ((S.dn:Int)+1)) bv fV dw (.ref td)))) b=some o:=λb o hb eb=>by rw[aR hb,aR hb];erw[b1 _ _ hb eb]
    generalize(_L.upd (_L.upd ze d (.dK (bT (.ref ma) (.ref pt) gv pe (.int S.aE) (.str S.side) (.str S.mark) (.ref q) (.int S.dn) bv fV dw (.ref td)))) d (.dK (bT (.ref ma) (.ref pt) gv pe (.int S.aE) (.str S.side) (.str S.mark) (.ref q) (.int ((S.dn:Int)+1)) bv fV dw (.ref td))))=HX at vX eX bX⊢;have C0:=FR.trans vX;have zr:=O4.trans C0;have uJ:=FT.trans zr;have ED:HX q=some (.lst ys):=bX _ _ dq.symm (EW _ _ eq (by rw[bW];erw[dq.symm]));have qlm:q≠lm:=λz=>by rw[z,Dg]at eq;cases eq
    have Ts:0<mT M.r M.f S.pc (topR S.aE sp) (fR M S) left S.aY:=TJ aw aw l1 ok.pd.nn (Oh hZ ok.dG) Rd.nn ok.aY nh;have F9:eR (gf ns (gj M S ns sp))=fg (eR S) (iZ ns S.dn):=(a29 eo (by rw[TY,ok.pl]) gh hd).symm;have Fc:cL (gf ns (gj M S ns sp))=cL S:=Vk eo;erw[λO HY=>O=cZ9 (.ref d) (cZ9 (.ref ma) (cZ9 y (cZ9 sv (cZ9 (.int left) (cZ9 dw (cZ9 (.ref lt) (cZ9 (.ref lm) (cZ9 (.ref le) (w9::lW::pX::cZ9 (.ref jN) [])))))))))/\cM K HY d q td M (gf ns (gj M S ns sp))/\aX [d,q] H HY/\cm HX HY/\HY lm=some (.lst um),?_,?_]
    ·erw[_,Z,.inl #[_,_,Z,Z,_,Z,?_]]
     erw[eL (λh0=>?_) (λh0=>?_)]
     ·have hl:left=1:=jJ h0
      have Lm:(gj M S ns sp).dn=aP ns:=by show S.dn+1=aP ns;lia
      obtain⟨gF,jd⟩:∃gF,S.os=some (ns,sp)::gF:=by cases e:S.os with |nil=>rw[e]at eo;simp at eo |cons a r=>rw[e]at eo;cases eo;erw[r,rfl]
      have eN:gf ns (gj M S ns sp)={gj M S ns sp with pl:=gz S.pl (some (ns,sp)),ds:=S.ds.tail,os:=gF,dn:=0}:=by unfold gf;rw[bE Lm];unfold je;rw[show(gj M S ns sp).os=some (ns,sp)::gF from jd];rfl
      rw[eN]at F9 Fc⊢;have vy:seqIndex? 0 ys.length=some 0:=by have:0<ys.length:=(eQ.mp ey).1;unfold seqIndex?;simp[this]
      erw[_,Z,d,_,Z,dg eX mE,.inl #[Z,_,aK.of ED],q,ys,0,0,y,Z,Z,ED,aD,aD,vy,ey,?_];have e3:(_L.upd HX q (.lst (ys.eraseIdx 0))) d=some (.dK (bT (.ref ma) (.ref pt) gv pe (.int S.aE) (.str S.side) (.str S.mark) (.ref q) (.int ((S.dn:Int)+1)) bv fV dw (.ref td))):=by rw[aR dq];erw[eX]
      erw[_,Z,d,_,Z,dp e3 JE iC,?_];erw[_,Z,d,_,Z,dp bo xP iC,?_];have vY:cm HX (_L.upd (_L.upd (_L.upd HX q (.lst (ys.eraseIdx 0))) d (.dK (bT (.ref ma) (.ref pt) gv pe (.int S.aE) (.str S.side) (.str S.mark) (.ref q) (.int 0) bv fV dw (.ref td)))) d (.dK (bT (.ref ma) (.ref pt) gv pe (.int S.aE) (.str S.side) (.str S.mark) (.ref q) (.int 0) bv fV .bF (.ref td)))):=λb o nb eb=>by
       have hb:b≠d:=λz=>by rw[z,eX]at eb;cases eb;erw[nb trivial]
       have hq:b≠q:=λz=>by rw[z,ED]at eb;cases eb;erw[nb trivial]
       rw[aR hb,aR hb,aR hq];erw[eb]
      have bY:∀b o,b≠d->b≠q->HX b=some o->(_L.upd (_L.upd (_L.upd HX q (.lst (ys.eraseIdx 0))) d (.dK (bT (.ref ma) (.ref pt) gv pe (.int S.aE) (.str S.side) (.str S.mark) (.ref q) (.int 0) bv fV dw (.ref td)))) d (.dK (bT (.ref ma) (.ref pt) gv pe (.int S.aE) (.str S.side) (.str S.mark) (.ref q) (.int 0) bv fV .bF (.ref td)))) b=some o:=λb o hb hq eb=>by rw[aR hb,aR hb,aR hq];erw[eb]
      have eY:(_L.upd (_L.upd (_L.upd HX q (.lst (ys.eraseIdx 0))) d (.dK (bT (.ref ma) (.ref pt) gv pe (.int S.aE) (.str S.side) (.str S.mark) (.ref q) (.int 0) bv fV dw (.ref td)))) d (.dK (bT (.ref ma) (.ref pt) gv pe (.int S.aE) (.str S.side) (.str S.mark) (.ref q) (.int 0) bv fV .bF (.ref td)))) d=some (.dK (bT (.ref ma) (.ref pt) gv pe (.int S.aE) (.str S.side) (.str S.mark) (.ref q) (.int 0) bv fV .bF (.ref td))):=bo;have qY:(_L.upd (_L.upd (_L.upd HX q (.lst (ys.eraseIdx 0))) d (.dK (bT (.ref ma) (.ref pt) gv pe (.int S.aE) (.str S.side) (.str S.mark) (.ref q) (.int 0) bv fV dw (.ref td)))) d (.dK (bT (.ref ma) (.ref pt) gv pe (.int S.aE) (.str S.side) (.str S.mark) (.ref q) (.int 0) bv fV .bF (.ref td)))) q=some (.lst (ys.eraseIdx 0)):=by rw[aR dq.symm,aR dq.symm];erw[bo]
      erw[Z,#[#[.ref ma,.ref pt,gv,pe,bv,fV,.bF,eY,RD.v (uJ.trans vY) _ (iE _ _ _ _ _) r1,?_,?_,?_,OG.v (zr.trans vY),.inl Z],ys.eraseIdx 0,qY,?_],λb o eb hb=>?_,vY,bY _ _ yS.symm qlm.symm (bX _ _ yS.symm yR)]
      ·rw[F9];erw[xK (aV.v vY (aV.v C0 UK))]
      ·rw[Fc];erw[RD.v (uJ.trans vY) _ (gd _) r3]
      ·show bO K _ pe (qA M.r M.f S.pc (topR S.aE sp) (fR M S) ((aP ns:Int)-S.dn) S.aY)
       rw[el];exact(CO.v vX).v vY
      ·erw[VS (aO.v (uJ.trans vY) _ ok.row.no rq)]
      ·have ha:b≠d:=λz=>hb (by rw[z];simp)
       have hq:b≠q:=λz=>hb (by rw[z];simp);erw[bY _ _ ha hq (bX _ _ ha (EW _ _ eb (by rw[bW];erw[ha])))]
     ·have hl:left≠1:=λz=>h0 (cU z)
      have a7v:¬(gj M S ns sp).dn=aP ns:=λz=>hl (by have:S.dn+1=aP ns:=z;lia);have eN:gf ns (gj M S ns sp)=gj M S ns sp:=bI a7v;rw[eN]at F9 Fc⊢;erw[Z,#[#[.ref ma,.ref pt,gv,pe,bv,fV,dw,eX,RD.v uJ _ (iE _ _ _ _ _) r1,?_,?_,?_,OG.v zr,.inr (show bO K HX dw (fR M S)from rRA.v zr)],ys,ED,aO.v uJ _ ok.row.no rq],λb o eb hb=>?_,.refl,bX _ _ yS.symm yR]
      ·rw[F9];erw[xK (aV.v C0 UK)]
      ·rw[Fc];erw[RD.v uJ _ (gd _) r3]
      ·show bO K HX pe (qA M.r M.f S.pc (topR S.aE sp) (fR M S) ((aP ns:Int)-S.dn) S.aY)
       rw[el];erw[CO.v vX]
      ·have ha:b≠d:=λz=>hb (by rw[z];simp)
       erw[bX _ _ ha (EW _ _ eb (by rw[bW];erw[ha]))]
    ·rintro O HY ⟨rfl,E5⟩
     have RY:=E5.1;have bY:=E5.2.1;have vY:=E5.2.2.1;have dY:=E5.2.2.2;erw[_,Z,?_];dsimp only[jM];erw[km HY _ (zr.trans vY) dY λv rv=>?_];have t1:=aM.t1;have nB:Bd 2000 (mT M.r M.f S.pc (topR S.aE sp) (fR M S) left S.aY):=((TK (D:=D) aw aw l1 ok.pd (Oj.mono aw) (Rd.mono aw) ok.aY nh).bd (fz TH (fz tl bf))).mono aw;erw[_,Z,_,Z,_,Z,.ref ma,v,M.rs,M.r,M.f,M.j,M.t,_,Z,RD.v (uJ.trans vY) _ (iE _ _ _ _ _) r1,rv,nB,t1.1,t1.2,JR Ts,λT T1 _ T2 T3 HZ sZ=>?_];erw[_,Z,bU Z,λtt HW nW=>k (.ref tt) HW ?_ (RY.same (One.ok ok aM (.line eo nh)).row.no (sZ.trans nW.same)) (λb o eb hb=>(sZ.trans nW.same) _ _ (bY b o eb hb))];have etk:=Oi (FJ (JR Ts)) #[T1,T2,T3];unfold oU Ke qh;rw[el,etk];erw[gR (aV.of nW.at') (cj (df _) (cj (RD.mono (sZ.trans nW.same) _ (xK (aV.v (CG.v.trans (C0.trans vY)) KO))) (cj (cF _) (cj (rv.go (sZ.trans nW.same)).rd dc))))]
end
section
theorem ab4(q:Rat):PyData.eqv (dk q) (.tuple [.int 0,.int 1])=decide (q=0):=by have h:(q.num=0/\(q.den:Int)=1)↔q=0:=#[λh=>Rat.num_eq_zero.mp h.1,λh=>by rw[h];erw[Z,Z]];rw[pW,pP,<-h];simp[dk,PyData.eqv,PyData.eqvAll]
theorem a0m(d:ai)(S:bp):(cH d S).pc=S.pc/\(cH d S).aE=S.aE/\(cH d S).aY=S.aY:=by
 unfold cH;split
 ·split
  ·erw[Z,Z,Z]
  ·split<;>erw[Z,Z,Z]
 ·erw[Z,Z,Z]
theorem SD{D:Nat}(ok:cu M D S)(eo:S.os[0]? =some none):∃gF,S.os=none::gF/\je (cH d S)={cH d S with pl:=S.pl,ds:=S.ds.tail,os:=gF,dn:=0}/\eR (je (cH d S))=eR S/\cL (je (cH d S))=cL S:=by
 obtain⟨gF,jd⟩:∃gF,S.os=none::gF:=by cases e:S.os with |nil=>rw[e]at eo;simp at eo |cons a r=>rw[e]at eo;cases eo;erw[r,rfl]
 let(_,e1,e2,e3,e4):=Cy ok.raw d;have Mz:S.dn=0:=by
  rcases ok.dn with z|⟨A7,zJ,e1,e2⟩
  ·erw[z]
  ·rw[eo]at e1;cases e1
 have eE:je (cH d S)={cH d S with pl:=S.pl,ds:=S.ds.tail,os:=gF,dn:=0}:=by unfold je;rw[e1,jd,e2,e4];rfl
 erw[gF,jd,eE,?_,?_]
 ·rw[eE]
  unfold eR;rw[bE Z,bE Mz]
 ·rw[eE]
  unfold cL;rw[jd];rfl
theorem Uz{D:Ends}(G:Hp->Prop)(hr:∀H',G H'->rest D O H')(h:(∀H',G H'->rest D O H')->uN (zD c ts uO) rest D O H):uN (zD c ts uO) rest D O H:=h hr
inductive adW(K:aa)(vs:List V)(H:Hp)(Q:VK):Prop |mk (d:_)(q:_)(td:_)(M:_)(D:_)(S:_)(n:_)(h0:vs=[.ref d,.int n])(h1:cM K H d q td M S)(h2:cu M D S)(h3:M.Ok)(h4:0<=n)(h5:n<=1000)(h6:∀l ys es S' H',H l=none->H' l=some (.lst ys)->aO K H' ys es->Run M S es S'->(es.length:Int)<=n->((es.length:Int)=n\/S'.os=[]\/Halt S'.pc S'.aY)->cM K H' d q td M S'->aX [d,q] H H'->Q (.ref l) H')
def Ge(K:aa):Sp:=λvs H Q _=>adW K vs H Q
theorem Q8:bN ["_law_sim_here","_law_n","_law_found","_law_item"] ["_law_sim_here","_law_n"] (bj GZ):=bZ bf
theorem a3j(F:FA K mg "_law_sim_entries" GZ)(B:cn mg)(a8S:aJ P w K mg aB "_law_sim_step" 5 (OV K)):aJ P w K mg aB "_law_sim_entries" 6 (Ge K):=by
 erw[F.has Q8 (λvs H Q E h=>?_) (λ_ _ _ _ _ _=>dS λ_ _=>rfl) (λfa aQ A outer s H vs Q E hr h=>?_)]
 ·let(d,q,td,M,D,S,n,rfl,_):=h
  rfl
 ·let(d,q,td,M,D,S,n,rfl,R,ok,aM,n0,n1,k):=h
  have dq:=R.ne;have nd:=Q8.nd;erw[_,(aG (pS 2 nd (dC az)) (aG (oK iJ (PW.pt (oJ (cy ko (eK K B (au (pv 2) az)) (pv 1) (bM _)) (sX (cy tE (eK K B (au (cR hr (pv 0) bh) az)) aF (bM _))))) (aG (bQ (PW.pt (oJ (cy zZ (cR hr (pv 0) bh) j7 (bM _)) (sX (cy (dF K Z hr.units) (cR hr (pv 0) bh) (cQ (au aF (au aF az))) (bM _))))) (aI (aZ (pv 2))) bV) (aG (pS 3 nd (px K (cR hr (pv 0) bh) aF)) (aI (bQ (cy (dF K Z hr.units) (px K (pv 3) aF) bh (bM _)) (aI (ie (jR K Z (pv 2) (au (pf a8S hr (au (pv 0) az)) az)))) (aG (ib (bQ (cy (jy K Z hr.units) (px K (pv 3) aF) bh (bM _)) (aI (jQ (fi hr.units) (pv 0) (px K (pv 3) aF) (px K (pv 3) aF) Z)) bV)) (aG (ie (jR K Z (pv 2) (au (So K Z (cR hr (pv 0) bh) (au aF az)) az))) (aI (jQ (fi hr.units) (pv 0) bh j7 Z))))))))) (aI (aZ (pv 2))))),?_];erw[bU Z,λl H1 nw=>?_];let(mv,lv,gv,sv,bv,cv,rv,e,r1,r2,r3,r4,r5,r6):=R.ob;let(ys,eq,rq):=R.qu;have B5:d≠l:=λz=>by have:=nw.no;rw[<-z,e]at this;cases this
  have ql:q≠l:=λz=>by have:=nw.no;rw[<-z,eq]at this;cases this
  erw[om (λO H2=>∃es S' us w3,O=cZ9 (.ref d) (cZ9 (.int n) (cZ9 (.ref l) (w3::[])))/\cM K H2 d q td M S'/\H2 l=some (.lst us)/\aO K H2 us es/\Run M S es S'/\(es.length:Int)<=n/\aX [d,q] H H2) (λ_ H2=>match H2 l with|some (.lst us)=>2000-us.length|_=>0) ?_ ?_ ?_]
  ·erw[[],S,[],none,Z,R.same ok.row.no nw.same,nw.at',dc,.nil _,by simpa using n0,.of nw.same]
  ·rintro O H2 ⟨es,S',us,w3,rfl,R2,dl,rd,run,my,bt⟩
   have jS:=run.ok ok aM;have mr:=run.no ok aM;have lu:=rd.length;let(mv,lv,gv,sv,bv,cv,rv,e,r1,r2,r3,r4,r5,r6):=R2.ob;let(yq,eq2,rq):=R2.qu;have ye:=rq.length;have Am:=jS.row.len;have jY:sizeLine=16777216:=by decide
   erw[_,Z,l,us,Z,.inl (aK.of dl),_,Z,_,_,Z,Z,_,Z,?_];show if decide ((us.length:Int)<n)=true then _ else _;by_cases c1:(us.length:Int)<n
   ·rw[cU c1]
    erw[cx ?_];erw[_,Z,d,_,Z,dg e mE,q,yq,Z,.inl (aK.of eq2),_,_,Z,Z,_,Z,?_];cases kB:S'.os with |nil=>have:yq=[]:=FD.mp (by rw[ye,Am,kB];rfl);subst this;erw[bK ?_];erw[_,Z,k l us es S' H2 nw.no dl rd run my (.inr (.inl kB)) R2 bt] |cons o os=>
     have eZ:S'.os≠[]:=by rw[kB];simp
     have qM:0<yq.length:=by rw[ye,Am,kB];simp
     rw[cU (show(0:Int)<(yq.length:Int) by lia)];erw[cx ?_];have eo:S'.os[0]? =some o:=by rw[kB];rfl
     erw[Uz (λH3=>¬Halt S'.pc S'.aY/\aH H2 H3) (λH3 g=>?_) (λqK=>?_)]
     ·let(nh,s3):=g
      have R3:=R2.same jS.row.no s3;have e3:=s3 _ _ e;have eq3:=s3 _ _ eq2;have yT:=s3 _ _ dl;have Jd:=aO.mono s3 _ rd;have X0:aX [d,q] H H3:=λb o' eb hb=>s3 _ _ (bt b o' eb hb);have dlq:l∉[d,q]:=by simp;erw[B5.symm,ql.symm]
      obtain⟨dd,ed⟩:∃dd,S'.ds[0]? =some dd:=#[_,cC (show 0<S'.ds.length by lia)];let(y,ey,ry):=rq.get 0 ed;have it:=jS.row.it 0 dd _ ed eo;have CN:=RD.mono s3 _ ry;erw[_,Z,d,_,Z,dg e3 mE,.inl #[q,_,0,y,Z,Z,aK.of eq3,dQ (hW 0) ey,?_]];let(ya,wd,zs,rfl,Av,ew,sw):=yi CN it;erw[_,Z,.inr #[ya,_,0,.str wd,Z,Z,Av,dQ (hW 0) Z,.inr #[_,_,df _,df _,sw,vw,_,Z,?_]]];rw[ew];cases o with
      |some z=>
       let(ns,sp):=z;erw[cx ?_];erw[_,Z,.inl #[Z,_,aK.of yT],_,Z,d,q,td,M,D,S',ns,sp,Z,R3,jS,aM,eo,nh,λv H4 dw R4 b4=>?_];have FV:=R3.v b4;have la:=b4 _ _ yT dlq;erw[l,us,_,Z,Z,la,aw,?_];have vu:cm H4 (_L.upd H4 l (.lst (us++[v]))):=.upd la trivial;have one:One M S' (oU M S' ns sp) (gf ns (gj M S' ns sp)):=.line eo nh;have fJ:=One.ok jS aM one;erw[#[es++[oU M S' ns sp],_,us++[v],_,Z,R4.go fJ.row.no vu (λo' dP=>by rw[aR B5];erw[dP]) (λo' dP=>by rw[aR ql];erw[dP]),bo,(aO.v (FV.trans vu) _ mr Jd).append (cj (RD.v vu _ (G6 _ _ _) dw) dc),run.snoc one,by rw[fN];show((es.length+1:Nat):Int)<=n;lia,λb o' eb hb=>?_],?_]
       ·have fw:b≠l:=λz=>by have:=nw.no;rw[<-z,eb]at this;cases this
        rw[aR fw];erw[b4 _ _ (X0 _ _ eb hb) hb]
       ·show(match(_L.upd H4 l (.lst (us++[v]))) l with|some (.lst us)=>2000-us.length|_=>0)<(match H2 l with|some (.lst us)=>2000-us.length|_=>0)
        rw[bo,dl];show 2000-(us++[v]).length<2000-us.length;rw[fN];show 2000-(us.length+1)<2000-us.length
        lia |none=>
       erw[bK ?_];have iL:=jS.rw 0 dd eo ed;have tW:SeqAt.shaped (.str "wait")=true:=by decide+kernel
       have eqT:∀(x y:Str),PyData.eqv (.str x) (.str y)=decide (x=y):=λx y=>by show(x==y)=decide (x=y);rw[pW];simp
       erw[λO H4=>O=cZ9 (.ref d) (cZ9 (.int n) (cZ9 (.ref l) (cZ9 (.ref ya) [])))/\aX [d] H3 H4/\H4 d=some (.dK (bT mv lv gv sv (.int S'.aE) (.str (cH dd S').side) (.str (cH dd S').mark) (.ref q) (.int S'.dn) bv cv rv (.ref td))),?_,?_]
       ·rcases iL with⟨m,rfl,_⟩|⟨w',s',rfl,hw,_⟩
        ·let(Yn,xs,ea,h1,h2):=CN.fE
         cases ea;let(x1,rr,rfl,e1,h2):=h2.cons_inv;cases e1.str_inv;erw[_,Z,.inr #[ya,_,0,.str "wait",Z,Z,h1,dQ (hW 0) Z,.inr #[_,_,df _,df _,tW,tW,_,Z,?_]]];rw[eqT,cU rfl];erw[bK #[Z,aX.refl _ _,e3]]
        ·let(Yn,xs,ea,h1,h2):=CN.fE
         cases ea;let(x1,rr,rfl,e1,h2):=h2.cons_inv;let(x2,rr,rfl,e2,h2):=h2.cons_inv;cases h2.nil_inv;cases e1.str_inv;cases e2.str_inv;have sz:SeqAt.shaped (.str w')=true:=by rcases hw with rfl|rfl<;>decide+kernel
         have nw':¬w'="wait":=by rcases hw with rfl|rfl<;>decide+kernel
         erw[_,Z,.inr #[ya,_,0,.str w',Z,Z,h1,dQ (hW 0) Z,.inr #[_,_,df _,df _,sz,tW,_,Z,?_]]];rw[eqT,fo nw'];erw[cx ?_];rcases hw with rfl|rfl
         ·erw[_,Z,.inr #[ya,_,1,.str s',Z,Z,h1,dQ aD Z,_,Z,_,Z,.inr #[ya,_,0,.str "tool",Z,Z,h1,dQ (hW 0) Z,d,_,Z,dp e3 a2C iC,?_]]]
          erw[Z,o8 (by simp),bo]
         ·erw[_,Z,.inr #[ya,_,1,.str s',Z,Z,h1,dQ aD Z,_,Z,_,Z,.inr #[ya,_,0,.str "mark",Z,Z,h1,dQ (hW 0) Z,d,_,Z,dp e3 a2G iC,?_]]]
          erw[Z,o8 (by simp),bo]
       rintro O H4 ⟨rfl,b4,e4⟩;have FV:cm H3 H4:=b4.v λx hx o' dP=>by rw[bW]at hx;rw[hx,e3]at dP;cases dP;trivial
       have eq4:=b4 _ _ eq3 (by rw[bW];erw[dq.symm]);have la:=b4 _ _ yT (by rw[bW];erw[B5.symm]);have vy:seqIndex? 0 yq.length=some 0:=by unfold seqIndex?;simp[qM]
       have dl5:(_L.upd H4 q (.lst (yq.eraseIdx 0))) l=some (.lst us):=by rw[aR ql.symm];erw[la]
       erw[_,Z,.inl #[Z,_,aK.of la],_,Z,d,_,Z,dg e4 mE,.inl #[Z,_,aK.of eq4],q,yq,0,0,.ref ya,Z,Z,eq4,aD,aD,vy,ey,?_];erw[l,us,_,Z,Z,dl5,aw,?_];have e6:(_L.upd (_L.upd H4 q (.lst (yq.eraseIdx 0))) l (.lst (us++[.ref ya]))) d=some (.dK (bT mv lv gv sv (.int S'.aE) (.str (cH dd S').side) (.str (cH dd S').mark) (.ref q) (.int S'.dn) bv cv rv (.ref td))):=by rw[aR B5,aR dq];erw[e4]
       erw[_,Z,d,_,Z,dp e6 xP iC,?_];have O5:cm H4 (_L.upd (_L.upd (_L.upd H4 q (.lst (yq.eraseIdx 0))) l (.lst (us++[.ref ya]))) d (.dK (bT mv lv gv sv (.int S'.aE) (.str (cH dd S').side) (.str (cH dd S').mark) (.ref q) (.int S'.dn) bv cv .bF (.ref td)))):=λb o nb eb=>by
        have hb:b≠d:=λz=>by rw[z,e4]at eb;cases eb;erw[nb trivial]
        have hq:b≠q:=λz=>by rw[z,eq4]at eb;cases eb;erw[nb trivial]
        have fw:b≠l:=λz=>by rw[z,la]at eb;cases eb;erw[nb trivial]
        rw[aR hb,aR fw,aR hq];erw[eb]
       have b7:∀b o,b≠d->b≠q->b≠l->H4 b=some o->(_L.upd (_L.upd (_L.upd H4 q (.lst (yq.eraseIdx 0))) l (.lst (us++[.ref ya]))) d (.dK (bT mv lv gv sv (.int S'.aE) (.str (cH dd S').side) (.str (cH dd S').mark) (.ref q) (.int S'.dn) bv cv .bF (.ref td)))) b=some o:=λb o hb hq fw eb=>by rw[aR hb,aR fw,aR hq];erw[eb]
       have e7:(_L.upd (_L.upd (_L.upd H4 q (.lst (yq.eraseIdx 0))) l (.lst (us++[.ref ya]))) d (.dK (bT mv lv gv sv (.int S'.aE) (.str (cH dd S').side) (.str (cH dd S').mark) (.ref q) (.int S'.dn) bv cv .bF (.ref td)))) d=some (.dK (bT mv lv gv sv (.int S'.aE) (.str (cH dd S').side) (.str (cH dd S').mark) (.ref q) (.int S'.dn) bv cv .bF (.ref td))):=bo;have q7:(_L.upd (_L.upd (_L.upd H4 q (.lst (yq.eraseIdx 0))) l (.lst (us++[.ref ya]))) d (.dK (bT mv lv gv sv (.int S'.aE) (.str (cH dd S').side) (.str (cH dd S').mark) (.ref q) (.int S'.dn) bv cv .bF (.ref td)))) q=some (.lst (yq.eraseIdx 0)):=by rw[aR dq.symm,aR ql];erw[bo]
       have l7:(_L.upd (_L.upd (_L.upd H4 q (.lst (yq.eraseIdx 0))) l (.lst (us++[.ref ya]))) d (.dK (bT mv lv gv sv (.int S'.aE) (.str (cH dd S').side) (.str (cH dd S').mark) (.ref q) (.int S'.dn) bv cv .bF (.ref td)))) l=some (.lst (us++[.ref ya])):=by rw[aR B5.symm];erw[bo]
       generalize(_L.upd (_L.upd (_L.upd H4 q (.lst (yq.eraseIdx 0))) l (.lst (us++[.ref ya]))) d (.dK (bT mv lv gv sv (.int S'.aE) (.str (cH dd S').side) (.str (cH dd S').mark) (.ref q) (.int S'.dn) bv cv .bF (.ref td))))=H7 at O5 b7 e7 q7 l7⊢;have O6:=FV.trans O5;have uL:=s3.v.trans O6;let(gF,jd,eE,ePl,eGo):=SD (d:=dd) jS eo;have fx:=a0m dd S';have one:One M S' dd (je (cH dd S')):=.iL eo ed nh;have Mz:S'.dn=0:=by
        rcases jS.dn with z|⟨A7,zJ,e1,e2⟩
        ·erw[z]
        ·rw[eo]at e1;cases e1
       have nod:fQ dd=true:=iM.mp jS.row.no _ (hO ed);erw[#[es++[dd],je (cH dd S'),us++[.ref ya],_,Z,?_,l7,(aO.v uL _ mr rd).append (cj (RD.v O6 _ nod CN) dc),run.snoc one,by rw[fN];show((es.length+1:Nat):Int)<=n;lia,λb o' eb hb=>?_],?_]
       ·erw[#[mv,lv,gv,sv,bv,cv,.bF,?_,RD.v uL _ (iE _ _ _ _ _) r1,?_,?_,?_,?_,.inl Z],yq.eraseIdx 0,q7,?_]
        ·rw[eE]
         show H7 d=some (.dK (bT mv lv gv sv (.int (cH dd S').aE) (.str (cH dd S').side) (.str (cH dd S').mark) (.ref q) (.int 0) bv cv .bF (.ref td)));rw[fx.2.1,e7,Mz];rfl
        ·rw[ePl];erw[RD.v uL _ (gd _) r2]
        ·rw[eGo];erw[RD.v uL _ (gd _) r3]
        ·rw[eE]
         show bO K H7 sv (cH dd S').pc;rw[fx.1];erw[r4.v uL]
        ·rw[eE]
         show wM K H7 bv cv (cH dd S').aY;rw[fx.2.2];erw[r5.v uL]
        ·rw[eE]
         erw[VS (aO.v uL _ jS.row.no rq)]
       ·have fw:b≠l:=λz=>by have:=nw.no;rw[<-z,eb]at this;cases this
        have yA:b≠d:=λz=>hb (by rw[z];simp);have kS:b≠q:=λz=>hb (by rw[z];simp);erw[b7 _ _ yA kS fw (b4 _ _ (X0 _ _ eb hb) (by rw[bW];erw[yA]))]
       ·show(match H7 l with|some (.lst us)=>2000-us.length|_=>0)<(match H2 l with|some (.lst us)=>2000-us.length|_=>0)
        rw[l7,dl];show 2000-(us++[V.ref ya]).length<2000-us.length;rw[fN];show 2000-(us.length+1)<2000-us.length
        lia
     ·erw[_,Z,d,_,Z,dg e yE,Z,_,Z,?_]
      cases hs:S'.aY with |none=>have jw:=r5;rw[hs]at jw;let(rfl,_):=jw;erw[bK ?_];erw[qK H2 #[λh=>h.1 hs,aH.refl _]] |some z=>
       let(sq,st,gn):=z;have jw:=r5;rw[hs]at jw;let(ta,su,rfl,_):=jw;erw[cx ?_];erw[_,Z,d,_,Z,dg e qT,bU Z,λt H3 n3=>?_];have a0k:SeqAt.shaped (.tuple [.int 0,.int 1])=true:=by decide+kernel
       erw[.inr #[_,_,(r4.go n3.same).rd,gR (aV.of n3.at') (cj (cF _) (cj (cF _) dc)),a1C _,a0k,_,Z,?_]];rw[ab4];by_cases c3:S'.pc=0
       ·rw[cU c3]
        erw[cx ?_];have R3:=R2.same jS.row.no n3.same;erw[_,Z,k l us es S' H3 nw.no (n3.same _ _ dl) (aO.mono n3.same _ rd) run my (.inr (.inr #[by rw[hs];simp,c3])) R3 λb o' eb hb=>n3.same _ _ (bt b o' eb hb)]
       ·rw[fo c3]
        erw[bK ?_];erw[qK H3 #[λh=>c3 h.2,n3.same]]
   ·rw[fo c1]
    erw[bK ?_];erw[_,Z,k l us es S' H2 nw.no dl rd run my (.inl aw) R2 bt]
  ·rintro O H6 Q1 Q2 hq ⟨v1,f1,l',kK,f2,f3,v2,f4,i1,i2,f5,f6,b1,f7,h⟩
   erw[v1,f1,l',kK,f2,f3,v2,f4,i1,i2,f5,f6,b1,f7,As ?_ (hq _ _) h];rintro⟨v3,f8,a',k',f9,yL,p',y',yK,Mi,i3,i4,Mh,Mg,b2,AY,h⟩;erw[v3,f8,a',k',f9,yL,p',y',yK,Mi,i3,i4,Mh,Mg,b2,AY,hq _ _ h]
end
end _c
set_option maxHeartbeats 1000000
namespace _c
open PySem PySem.Spec PyProof.Rows _L _r _l
section
theorem Od:jr "tuple" "list"=false:=by decide
theorem Oe:jr "list" "tuple"=false:=by decide
theorem Xj(n:Nat):(List.replicate n true).all id=true:=by induction n with |zero=>rfl |succ n ih=>rw[List.replicate_succ,BK,ih];rfl
def adl(D:ai):Prop:=(∃z,D= .int z)\/∃s,D= .str s/\SeqAt.shaped (.str s)=true/\PyData.eqv (.str s) (.str s)=true
def Nx(A:ai->Prop)(D:ai):Prop:=adl D\/∃ds,(D= .tuple ds\/D= .list ds)/\ds.length<=100000/\∀x∈ds,A x
inductive aeK(A:ai->Prop)(K:aa)(vs:List V)(H:Hp)(Q:VK):Prop |mk (v:_)(u:_)(D:_)(h0:vs=[v,u])(h1:RD K H v D)(h2:RD K H u D)(h3:A D)(h4:∀H',aH H H'->Q (.bl true) H')
def xA(A:ai->Prop)(K:aa):Sp:=λvs H Q _=>aeK A K vs H Q
theorem Gz:bN ["_law_found","_law_due"] ["_law_found","_law_due"] (bj CH):=bZ bf
theorem a4r(F:FA K mg "_law_alike" CH)(B:cn mg):aJ P w K mg aB "_law_alike" 1 (xA (λ_=>False) K):=by
 erw[F.has Gz (λvs H Q E h=>?_) (λ_ _ _ _ _ _=>dS λ_ _=>rfl) (λf aQ A outer s H vs Q E hr h=>?_)]
 ·let(v,u,D,rfl,_,_,h,_):=h
  erw[h.elim]
 ·let(v,u,D,rfl,_,_,h,_):=h
  erw[h.elim]
theorem D9(hn:1<=n)(F:FA K mg "_law_alike" CH)(B:cn mg)(Eg:aJ P w K mg aB "_law_number" 1 (xu K))(jj:aJ P w K mg aB "_law_alike" n (xA A K)):aJ P w K mg aB "_law_alike" (n+1) (xA (Nx A) K):=by
 erw[F.has Gz (λvs H Q E h=>?_) (λ_ _ _ _ _ _=>dS λ_ _=>rfl) (λf aQ A' outer s H vs Q E hr h=>?_)]
 ·let(v,u,D,rfl,_):=h
  rfl
 ·let(v,u,D,rfl,rv,ru,hD,k):=h
  have nd:=Gz.nd;rcases hD with(⟨z,rfl⟩|⟨z,rfl,sh,eq⟩)|⟨ds,rfl|rfl,hz,hA⟩
  ·erw[_,(aG (bQ (cP (eV K B (au (pv 1) (au (cQ (au (dR (x:="list") (v:=.ty "list") Z (B.at "list") lT rfl) (au (dR (x:="tuple") (v:=.ty "tuple") rfl (B.at "tuple") gB rfl) az))) az)))) (aG (bQ (PW.pt (kM (cy (jy K Z hr.units) (eV K B (au (pv 1) (au (dR (x:="list") (v:=.ty "list") Z (B.at "list") lT rfl) az))) (eV K B (au (pv 0) (au (dR (x:="list") (v:=.ty "list") rfl (B.at "list") lT rfl) az))) (bM _)) (lK (cy (jy K rfl hr.units) (eV K B (au (pv 1) (au (dR (x:="tuple") (v:=.ty "tuple") rfl (B.at "tuple") gB rfl) az))) (eV K B (au (pv 0) (au (dR (x:="tuple") (v:=.ty "tuple") rfl (B.at "tuple") gB rfl) az))) (bM _))))) (aI (aZ gL)) bV) (aI (aZ (j9 (fS (dF K Z hr.units) (eK K B (au (pv 0) az)) (eK K B (au (pv 1) az)) (bM _)) (j6 (eG (x:="all") (rJ K Z Z) Z (B.at "all") uD (au (gU (N:=["_law_one","_law_two"]) (js:=[none,none]) rfl rfl rfl (kN K rfl false false rfl (B.at "zip") (au (pv 0) (au (pv 1) az))) (λ_ _ _ _ _=>(eg K rfl (n:=2) rfl (cf (bR 0 (gG aD)) (cf (bR 1 (gG aD)) dZ)))) (λ_ _ _ _ _=>gs) (λ_ _ _ _ _=>(qx jj (hr.mono aw) rfl (au (pv 0) (au (pv 1) az))))) az))))))) bV) (aG (bQ (cP (eV K B (au (pv 1) (au (dR (x:="str") (v:=.ty "str") Z (B.at "str") rY rfl) az)))) (aI (aZ (j9 (eV K B (au (pv 0) (au (dR (x:="str") (v:=.ty "str") Z (B.at "str") rY rfl) az))) (j6 (fS (dF K rfl hr.units) (pv 0) (pv 1) (bM _)))))) bV) (aI (aZ (j9 (qx Eg (hr.mono aw) Z (au (pv 0) az)) (j6 (fS (dF K Z hr.units) (pv 0) (pv 1) (bM _)))))))),?_]
   cases rv.int_inv;cases ru.int_inv;erw[_,Z,bU Z,λtt H1 n1=>.inr #[_,"int",tt,["list","tuple"],_,Z,n1.at',Z,aD,Z,_,Z,bK ?_]];erw[_,Z,.inl #[_,"int","str",_,Z,Z,aD,Z,_,Z,bK ?_]];erw[_,Z,_,"int",Z,Z,_,Z,cx ?_];erw[_,Z,_,Z,.inl #[_,_,Z,Z,?_]];show Q (.bl (decide (z=z))) H1;rw[cU rfl];erw[k H1 n1.same]
  ·erw[_,(aG (bQ (cP (eV K B (au (pv 1) (au (cQ (au (dR (x:="list") (v:=.ty "list") Z (B.at "list") lT rfl) (au (dR (x:="tuple") (v:=.ty "tuple") rfl (B.at "tuple") gB rfl) az))) az)))) (aG (bQ (PW.pt (kM (cy (jy K Z hr.units) (eV K B (au (pv 1) (au (dR (x:="list") (v:=.ty "list") Z (B.at "list") lT rfl) az))) (eV K B (au (pv 0) (au (dR (x:="list") (v:=.ty "list") rfl (B.at "list") lT rfl) az))) (bM _)) (lK (cy (jy K rfl hr.units) (eV K B (au (pv 1) (au (dR (x:="tuple") (v:=.ty "tuple") rfl (B.at "tuple") gB rfl) az))) (eV K B (au (pv 0) (au (dR (x:="tuple") (v:=.ty "tuple") rfl (B.at "tuple") gB rfl) az))) (bM _))))) (aI (aZ gL)) bV) (aI (aZ (j9 (fS (dF K Z hr.units) (eK K B (au (pv 0) az)) (eK K B (au (pv 1) az)) (bM _)) (j6 (eG (x:="all") (rJ K Z Z) Z (B.at "all") uD (au (gU (N:=["_law_one","_law_two"]) (js:=[none,none]) rfl rfl rfl (kN K rfl false false rfl (B.at "zip") (au (pv 0) (au (pv 1) az))) (λ_ _ _ _ _=>(eg K rfl (n:=2) rfl (cf (bR 0 (gG aD)) (cf (bR 1 (gG aD)) dZ)))) (λ_ _ _ _ _=>gs) (λ_ _ _ _ _=>(qx jj (hr.mono aw) rfl (au (pv 0) (au (pv 1) az))))) az))))))) bV) (aG (bQ (cP (eV K B (au (pv 1) (au (dR (x:="str") (v:=.ty "str") Z (B.at "str") rY rfl) az)))) (aI (aZ (j9 (eV K B (au (pv 0) (au (dR (x:="str") (v:=.ty "str") Z (B.at "str") rY rfl) az))) (j6 (fS (dF K rfl hr.units) (pv 0) (pv 1) (bM _)))))) bV) (aI (aZ (j9 (qx Eg (hr.mono aw) Z (au (pv 0) az)) (j6 (fS (dF K Z hr.units) (pv 0) (pv 1) (bM _)))))))),?_]
   cases rv.str_inv;cases ru.str_inv;erw[_,Z,bU Z,λtt H1 n1=>.inr #[_,"str",tt,["list","tuple"],_,Z,n1.at',Z,aD,Z,_,Z,bK ?_]];erw[_,Z,.inl #[_,"str","str",_,Z,Z,aD,Z,_,Z,cx ?_]];erw[_,Z,.inl #[_,"str","str",_,Z,Z,aD,Z,_,Z,cx ?_]];erw[_,Z,_,Z,.inr #[_,_,df _,df _,sh,sh,?_]];rw[eq];erw[k H1 n1.same]
  ·erw[_,(aG (bQ (cP (eV K B (au (pv 1) (au (cQ (au (dR (x:="list") (v:=.ty "list") Z (B.at "list") lT rfl) (au (dR (x:="tuple") (v:=.ty "tuple") rfl (B.at "tuple") gB rfl) az))) az)))) (aG (bQ (PW.pt (kM (cy (jy K Z hr.units) (eV K B (au (pv 1) (au (dR (x:="list") (v:=.ty "list") Z (B.at "list") lT rfl) az))) (eV K B (au (pv 0) (au (dR (x:="list") (v:=.ty "list") rfl (B.at "list") lT rfl) az))) (bM _)) (lK (cy (jy K rfl hr.units) (eV K B (au (pv 1) (au (dR (x:="tuple") (v:=.ty "tuple") rfl (B.at "tuple") gB rfl) az))) (eV K B (au (pv 0) (au (dR (x:="tuple") (v:=.ty "tuple") rfl (B.at "tuple") gB rfl) az))) (bM _))))) (aI (aZ gL)) bV) (aI (aZ (j9 (fS (dF K Z hr.units) (eK K B (au (pv 0) az)) (eK K B (au (pv 1) az)) (bM _)) (j6 (eG (x:="all") (rJ K Z Z) Z (B.at "all") uD (au (gU (N:=["_law_one","_law_two"]) (js:=[none,none]) rfl rfl rfl (kN K rfl false false rfl (B.at "zip") (au (pv 0) (au (pv 1) az))) (λ_ _ _ _ _=>(eg K rfl (n:=2) rfl (cf (bR 0 (gG aD)) (cf (bR 1 (gG aD)) dZ)))) (λ_ _ _ _ _=>gs) (λ_ _ _ _ _=>(qx jj (hr.mono aw) rfl (au (pv 0) (au (pv 1) az))))) az))))))) bV) (aG (bQ (cP (eV K B (au (pv 1) (au (dR (x:="str") (v:=.ty "str") Z (B.at "str") rY rfl) az)))) (aI (aZ (j9 (eV K B (au (pv 0) (au (dR (x:="str") (v:=.ty "str") Z (B.at "str") rY rfl) az))) (j6 (fS (dF K rfl hr.units) (pv 0) (pv 1) (bM _)))))) bV) (aI (aZ (j9 (qx Eg (hr.mono aw) Z (au (pv 0) az)) (j6 (fS (dF K Z hr.units) (pv 0) (pv 1) (bM _)))))))),?_]
   let(va,xs,rfl,hV,jc):=rv.fE;let(ua,ys,rfl,hU,qJ):=ru.fE;have lx:=jc.length;have ly:=qJ.length;erw[_,Z,bU Z,λtt H1 n1=>.inr #[_,"tuple",tt,["list","tuple"],_,Z,n1.at',.inr #[Z,_,hU.go n1.same],aD,Z,_,Z,cx ?_]];have s1:=n1.same;erw[_,Z,.inl #[_,"tuple","list",_,Z,.inr #[Z,_,hU.go s1],aD,Od,_,Z,.inl #[_,"tuple","list",_,Z,.inr #[Z,_,hV.go s1],aD,Od,.inr #[.bool false,.bool false,m4 _,m4 _,Z,Z,_,Z,bK ?_]]]];erw[_,Z,.inl #[_,"tuple","tuple",_,Z,.inr #[Z,_,hU.go s1],aD,Oc,_,Z,.inl #[_,"tuple","tuple",_,Z,.inr #[Z,_,hV.go s1],aD,Oc,.inr #[.bool true,.bool true,m4 _,m4 _,Z,Z,_,Z,bK ?_]]]];erw[_,Z,va,_,Z,.inr (hV.go s1),_,Z,ua,_,Z,.inr (hU.go s1),.inl #[_,_,Z,Z,_,Z,?_]];rw[cU (show(xs.length:Int)=(ys.length:Int) by lia)];erw[cx ?_];erw[_,Z,_,Z,va,ua,Z,#[_,hV.go s1],#[_,hU.go s1],λD2 H2 n2=>?_];erw[WD (K:=K) (b1:=false) (b2:=false) (xs:=xs) (ys:=ys) (bs:=List.replicate ds.length true) _ Z (hV.go s1) (hU.go s1) n2 (by rw[FC];lia) (by rw[FC];lia) ?_ ?_]
   ·intro q x y b H3 Q' ex ey eb s3 hq
    have Mu:b=true:=by
     rw[Y6]at eb;split at eb
     ·exact(fe eb).symm
     ·cases eb
    subst Mu;have dM:=s1.trans s3;let(d1,e1,r1):=jc.get' q ex;let(d2,e2,r2):=qJ.get' q ey;rw[e1]at e2;cases e2;erw[_,Z,_,Z,x,y,d1,Z,RD.mono dM _ r1,RD.mono dM _ r2,hA d1 (hO e1),λH4 s4=>hq H4 s4]
   ·intro H3 s3 d3
    erw[D2,_,Z,aK.of d3,?_];rw[Xj];erw[k H3 (s1.trans s3)]
  ·erw[_,(aG (bQ (cP (eV K B (au (pv 1) (au (cQ (au (dR (x:="list") (v:=.ty "list") Z (B.at "list") lT rfl) (au (dR (x:="tuple") (v:=.ty "tuple") rfl (B.at "tuple") gB rfl) az))) az)))) (aG (bQ (PW.pt (kM (cy (jy K Z hr.units) (eV K B (au (pv 1) (au (dR (x:="list") (v:=.ty "list") Z (B.at "list") lT rfl) az))) (eV K B (au (pv 0) (au (dR (x:="list") (v:=.ty "list") rfl (B.at "list") lT rfl) az))) (bM _)) (lK (cy (jy K rfl hr.units) (eV K B (au (pv 1) (au (dR (x:="tuple") (v:=.ty "tuple") rfl (B.at "tuple") gB rfl) az))) (eV K B (au (pv 0) (au (dR (x:="tuple") (v:=.ty "tuple") rfl (B.at "tuple") gB rfl) az))) (bM _))))) (aI (aZ gL)) bV) (aI (aZ (j9 (fS (dF K Z hr.units) (eK K B (au (pv 0) az)) (eK K B (au (pv 1) az)) (bM _)) (j6 (eG (x:="all") (rJ K Z Z) Z (B.at "all") uD (au (gU (N:=["_law_one","_law_two"]) (js:=[none,none]) rfl rfl rfl (kN K rfl true true rfl (B.at "zip") (au (pv 0) (au (pv 1) az))) (λ_ _ _ _ _=>(eg K rfl (n:=2) rfl (cf (bR 0 (gG aD)) (cf (bR 1 (gG aD)) dZ)))) (λ_ _ _ _ _=>gs) (λ_ _ _ _ _=>(qx jj (hr.mono aw) rfl (au (pv 0) (au (pv 1) az))))) az))))))) bV) (aG (bQ (cP (eV K B (au (pv 1) (au (dR (x:="str") (v:=.ty "str") Z (B.at "str") rY rfl) az)))) (aI (aZ (j9 (eV K B (au (pv 0) (au (dR (x:="str") (v:=.ty "str") Z (B.at "str") rY rfl) az))) (j6 (fS (dF K rfl hr.units) (pv 0) (pv 1) (bM _)))))) bV) (aI (aZ (j9 (qx Eg (hr.mono aw) Z (au (pv 0) az)) (j6 (fS (dF K Z hr.units) (pv 0) (pv 1) (bM _)))))))),?_]
   let(va,xs,rfl,hV,jc):=rv.lst_inv;let(ua,ys,rfl,hU,qJ):=ru.lst_inv;have lx:=jc.length;have ly:=qJ.length;erw[_,Z,bU Z,λtt H1 n1=>.inr #[_,"list",tt,["list","tuple"],_,Z,n1.at',.inl #[Z,_,hU.go n1.same],aD,Z,_,Z,cx ?_]];have s1:=n1.same;erw[_,Z,.inl #[_,"list","list",_,Z,.inl #[Z,_,hU.go s1],aD,Of,_,Z,.inl #[_,"list","list",_,Z,.inl #[Z,_,hV.go s1],aD,Of,.inr #[.bool true,.bool true,m4 _,m4 _,Z,Z,_,Z,bK ?_]]]];erw[_,Z,.inl #[_,"list","tuple",_,Z,.inl #[Z,_,hU.go s1],aD,Oe,_,Z,.inl #[_,"list","tuple",_,Z,.inl #[Z,_,hV.go s1],aD,Oe,.inr #[.bool false,.bool false,m4 _,m4 _,Z,Z,_,Z,bK ?_]]]];erw[_,Z,va,_,Z,.inl (hV.go s1),_,Z,ua,_,Z,.inl (hU.go s1),.inl #[_,_,Z,Z,_,Z,?_]];rw[cU (show(xs.length:Int)=(ys.length:Int) by lia)];erw[cx ?_];erw[_,Z,_,Z,va,ua,Z,#[_,hV.go s1],#[_,hU.go s1],λD2 H2 n2=>?_];erw[WD (K:=K) (b1:=true) (b2:=true) (xs:=xs) (ys:=ys) (bs:=List.replicate ds.length true) _ Z (hV.go s1) (hU.go s1) n2 (by rw[FC];lia) (by rw[FC];lia) ?_ ?_]
   ·intro q x y b H3 Q' ex ey eb s3 hq
    have Mu:b=true:=by
     rw[Y6]at eb;split at eb
     ·exact(fe eb).symm
     ·cases eb
    subst Mu;have dM:=s1.trans s3;let(d1,e1,r1):=jc.get' q ex;let(d2,e2,r2):=qJ.get' q ey;rw[e1]at e2;cases e2;erw[_,Z,_,Z,x,y,d1,Z,RD.mono dM _ r1,RD.mono dM _ r2,hA d1 (hO e1),λH4 s4=>hq H4 s4]
   ·intro H3 s3 d3
    erw[D2,_,Z,aK.of d3,?_];rw[Xj];erw[k H3 (s1.trans s3)]
end
end _c
set_option maxHeartbeats 4000000
namespace _c
open PySem PySem.Spec PyProof.Rows _L _r _l _C _P _W _R
open _O (topR cornO mnO betR atO ownF leadF ownL OkI OkIs)
section
theorem md(h:SeqAt.shaped (.str z)=true):eO n (.str z):=#[XO h,gK _]
theorem xB{z:Str}(h:z="step"\/z="wait"\/z="tool"\/z="mark"):SeqAt.shaped (.str z)=true:=by rcases h with rfl|rfl|rfl|rfl<;>decide+kernel
abbrev A0:ai->Prop:=λ_=>False
theorem ku(z:Int):Nx A (.int z):=.inl (.inl #[z,Z])
theorem oM(hn:n<=8)(h:eO n (.str s)):Nx A (.str s):=.inl (.inr #[s,Z,h.shaped aw,h.refl])
theorem ZZ(ti:Int)(zs:List Int)(q:Rat)(hz:zs.length<=1000):Nx (Nx (Nx A0)) (qh ti zs q):=by
 erw[.inr #[_,.inl Z,(by simp),λx hx=>?_]];simp only[bJ,cD,cX]at hx;rcases hx with rfl|rfl|rfl|rfl
 ·erw[oM (n:=0) aD (md (xB (.inl Z)))]
 ·erw[.inr #[_,.inl Z,by rw[cJ];lia,λy hy=>?_]]
  let(z,_,rfl):=kh.mp hy;erw[ku z]
 ·erw[ku _]
 ·erw[.inr #[_,.inl Z,(by simp),λy hy=>?_]]
  simp only[bJ,cD,cX]at hy;rcases hy with rfl|rfl<;>erw[ku _]
theorem SF(h:rO d):Nx (Nx (Nx A0)) d:=by
 rcases h with⟨n,rfl,_⟩|⟨w,s,rfl,hw,h,_⟩
 ·erw[.inr #[_,.inl Z,(by simp),λx hx=>?_]]
  simp only[bJ,cD,cX]at hx;rcases hx with rfl|rfl
  ·erw[oM (n:=0) aD (md (xB (.inr (.inl Z))))]
  ·erw[ku _]
 ·erw[.inr #[_,.inl Z,(by simp),λx hx=>?_]]
  simp only[bJ,cD,cX]at hx;rcases hx with rfl|rfl
  ·erw[oM (n:=0) aD (md (xB (.inr (.inr hw))))]
  ·erw[oM aD h]
theorem a5T(h:fM n 100 ns)(hn:n<=1000):Nx (Nx (Nx A0)) (iP ns sp):=by
 erw[.inr #[_,.inl Z,(by simp),λx hx=>?_]];simp only[bJ,cD,cX]at hx;rcases hx with rfl|rfl|rfl
 ·erw[.inl (.inr #[_,Z,vw,bf])]
 ·erw[.inr #[_,.inl Z,by rw[cJ,h.len];lia,λy hy=>?_]]
  let(z,_,rfl):=kh.mp hy;erw[ku z]
 ·erw[ku _]
theorem a1c{n:Nat}{ds:List ai}{os:List Itm}(h:iI n ds os)(hw:RowW ds os)(hn:n<=1000)(hl:ds.length<=1000):Nx (Nx (Nx (Nx A0))) (.list ds):=by erw[.inr #[_,.inr Z,aw,λx hx=>?_]];let(i,hi):=sx.mp hx;let(o,eo,it):=h.get hi;cases o with |none=>erw[SF (hw i x eo hi)] |some z=>let(ns,sp):=z;rw[lO it];erw[a5T (h.ok i ns sp eo).1 hn]
theorem abY{bs:List Bool}{D:Addr}(Pr:V->V->Prop)(rest:_L.St)(hn:n=2)(hx:aK K H a xs)(nw:Nw H H0 D (.lst []))(hl:xs.length=bs.length)(hz:xs.length<=1000) (hp:∀(i:Nat)(x:V),xs[i]? =some x->∃p y z,x= .ref p/\aV K H p [y,z]/\Pr y z) (hs:∀(i:Nat)(y z:V)(b:Bool)(H2:Hp)(Q':VK),Pr y z->bs[i]? =some b->aH H H2->(∀H3,aH H2 H3->Q' (.bl b) H3)->te (some y::some z::rest) H2 Q') (hq:∀H',aH H H'->H' D=some (.lst (bs.map V.bl))->Q (.ref D) H'):jo (uA K a) (qU K n (kX (fK 0) (kX (fK 1) u9))) iX te Q D (none::none::rest) H0:=by
 subst hn;have hD:=nw.no;erw[uj xs.length (λi O H2=>aH H H2/\H2 D=some (.lst ((bs.take i).map V.bl))/\∃v v',O=v::v'::rest) ?_ ?_ ?_]
 ·erw[nw.same,nw.at',none,none,Z]
 ·rintro i O H2 hi ⟨s2,d2,v,v',rfl⟩
  have yx:i<bs.length:=by rw[<-hl];erw[hi]
  have ex:=cC hi;have eb:=cC yx;erw[#[xs,_,hx.go s2,ex],λy' H3 kQ=>?_];let(rfl,k1):=kQ;have e1:=k1 _ (hx.go s2);rw[ex]at e1;cases e1;let(p,y,z,ep,hpp,pr):=hp i _ ex;rw[ep]at ex⊢;erw[p,_,Z,hpp.go s2,Z,_,_,Z,_,_,Z,Z,?_];erw[yes (cx ?_)];erw[hs i y z _ _ _ pr eb s2 λH4 s4=>?_];erw[_,s4 _ _ d2,?_,xs.length-(i+1),aw,Z,aw,λb o e=>?_,?_,_,_,Z]
  ·rw[cJ,pU]
   have:(1000:Nat)<sizeLine:=by decide
   lia
  ·rw[aR (fZ e hD)];erw[s4 b o (s2 b o e)]
  ·rw[bo,sj,eb,pT];rfl
 ·rintro O H2 ⟨s2,d2,v,v',rfl⟩
  erw[#[xs,hx.go s2,ck _],hq H2 s2 ?_];rw[d2,hl,wV]
def Bu(es:List ai):Prop:=SeqAt.shaped (.list es)=true/\PyData.eqv (.list es) (.list es)=true/\du es=true
end
section
structure Ad where
 a:Addr
 q:Addr
 d:Addr
 e:Addr
 t:Addr
def Ad.all(x:Ad):List Addr:=[x.a,x.q,x.d,x.e,x.t]
def nj(K:aa)(H:Hp)(td:Addr)(n:Nat)(X:Addr->Prop):Prop:=∃ts,H td=some (.lst ts)/\ts.length<=n/\∀t∈ts,∃p l ta us es,t=V.ref p/\aV K H p [.ref l,.ref ta]/\H l=some (.lst us)/\aV K H ta us/\aO K H us es/\Bu es/\¬X l
theorem nj.go(h:nj K H td n X)(hm:n<=m)(s:cm H H')(et:∀o,H td=some o->H' td=some o)(hl:∀l us,¬X l->H l=some (.lst us)->H' l=some (.lst us)/\¬X' l):nj K H' td m X':=by let(ts,e,l,ht):=h;erw[ts,et _ e,aw,λt m=>?_];let(p,l,ta,us,es,h1,h2,h3,h4,h5,h6,h7):=ht t m;let(g1,g2):=hl l us h7 h3;erw[p,l,ta,us,es,h1,aV.v s h2,g1,aV.v s h4,aO.v s _ h6.2.2 h5,h6,g2]
theorem cu.mono{D:Nat}(h:cu M D S)(h1:D<=D')(h2:D'<=1500):cu M D' S:=by erw[h.row,h.rw,h.len,h.dG,h.dN,h.dn,h.pl,h.pd.mono aw,h.pm,?_,by have:=h.D1;lia,h2];have:=h.aY;cases hs:S.aY with |none=>trivial |some z=>let(sq,st,gn):=z;rw[hs]at this;let(g0,g1,g2,hd,hl,hz,hh):=this;erw[g0,g1,g2,hd.mono h1,hl,hz,hh]
theorem a7l(M:bP)(S:bp):cL (jD M S)=cL S:=by unfold jD;split<;>rfl
theorem One.goal{D:Nat}(ok:cu M D S)(o:One M S e S1):cL S1=cL S:=by cases o with |line eo nh=>erw[Vk eo] |iL eo ed nh=>let(_,_,_,_,h):=SD (d:=e) ok eo;erw[h]
theorem Run.goal{D:Nat}(ok:cu M D S)(aM:M.Ok)(r:Run M S es S1):cL S1=cL S:=by induction r with |nil=>rfl |cons o _ ih=>rw[ih (One.ok ok aM o),o.goal ok]
theorem One.det(h:One M S e S1)(g:One M S f S2):e=f/\S1=S2:=by cases h with
 |line h1 _=>cases g with |line g1 _=>rw[h1]at g1;cases g1;erw[rfl,rfl] |iL g1 _ _=>rw[h1]at g1;cases g1
 |iL h1 h2 _=>cases g with |line g1 _=>rw[h1]at g1;cases g1 |iL g1 g2 _=>rw[h2]at g2;cases g2;erw[rfl,rfl]
theorem One.go(h:One M S e S1):¬(S.os=[]\/Halt S.pc S.aY):=by
 rintro(z|z)
 ·cases h with |line h1 _=>rw[z]at h1;simp at h1 |iL h1 _ _=>rw[z]at h1;simp at h1
 ·cases h with |line _ nh=>erw[nh z] |iL _ _ nh=>erw[nh z]
theorem Run.MD{fs:List ai}(h:Run M S es S1){n:Int}(l1:(es.length:Int)<=n)(c1:(es.length:Int)=n\/S1.os=[]\/Halt S1.pc S1.aY)(g:Run M S fs S2)(l2:(fs.length:Int)<=n)(c2:(fs.length:Int)=n\/S2.os=[]\/Halt S2.pc S2.aY):es=fs/\S1=S2:=by induction h generalizing fs n with
 |nil=>cases g with |nil=>erw[Z,Z] |cons o r=>
  rcases c1 with z|z
  ·simp only[lE,NJ]at z l2;lia
  ·exact(o.go z).elim
 |cons o r ih=>cases g with
  |nil=>
   rcases c2 with z|z
   ·simp only[lE,NJ]at z l1;lia
   ·exact(o.go z).elim |cons o2 r2=>let(e,z):=o.det o2;subst e z;simp only[lE]at l1 c1 l2 c2;let(e1,e2):=ih (n:=n-1) aw (c1.imp (λh=>by lia) id) r2 aw (c2.imp (λh=>by lia) id);erw[by rw[e1],e2]
theorem ZY(ti:Int)(zs:List Int)(q:Rat):eO 2 (qh ti zs q):=by erw[hJ.tup (.cons (md (xB (.inl Z))) (.cons (hJ.tup λd hd=>?_) (.cons (.int _) (.cons (hJ.tup (.cons (.int _) (.cons (.int _) .nil))) .nil))))];let(a,_,rfl):=kh.mp hd;erw[.int _]
theorem SE(h:rO d):eO 2 d:=by
 rcases h with⟨n,rfl,_⟩|⟨w,s,rfl,hw,h,_⟩
 ·erw[hJ.tup (.cons (md (xB (.inr (.inl Z)))) (.cons (.int _) .nil))]
 ·erw[hJ.tup (.cons (md (xB (.inr (.inr hw)))) (.cons (h.le aD) .nil))]
theorem Run.ent{D:Nat}(ok:cu M D S)(aM:M.Ok)(r:Run M S es S1):∀d∈es,eO 2 d/\Nx (Nx (Nx A0)) d:=by induction r with |nil=>erw[nofun] |@cons S S1 S2 e es o r ih=>
 intro d hd;rcases bJ.mp hd with rfl|hd
 ·cases o with
  |@line ns sp eo nh=>
   erw[ZY _ _ _,ZZ _ _ _ ?_];have h1:=(ok.row.ok 0 ns sp eo).1.len;have h2:=aM.len;simp only[iZ,cJ]
   lia |iL eo ed nh=>have:=ok.rw 0 d eo ed;erw[SE this,SF this]
 ·erw[ih (One.ok ok aM o) d hd]
theorem VP(h:∀d∈es,eO 2 d)(hn:du es=true):Bu es:=by have:eO 3 (.list es):=hJ.lst h;erw[this.shaped aD,this.refl,hn]
section
variable {C a lr ls:Addr}{mv:V}{qk:List Int}{M:bP}{H H':Hp}{n:Nat}{A:Nat->Ad}{S:Nat->bp}
end
end
section
def SM(S:bp):Prop:=eO 0 (.str S.side)/\eO 0 (.str S.mark)
theorem sm0(pl:List Int):SM (lY pl):=#[(md bf:eO 0 (.str "up")),(md bf:eO 0 (.str ""))]
theorem same_none(s:aH H0 H)(h:H x=none):H0 x=none:=by cases e:H0 x with |none=>rfl |some o=>have:=s _ _ e;rw[h]at this;cases this
theorem Mq(h:SM S):SM (je S):=by unfold je;split<;>erw[h]
theorem One.sm{D:Nat}(ok:cu M D S)(o:One M S e S1)(h:SM S):SM S1:=by cases o with
 |line eo nh=>
  unfold gf;split
  ·erw[Mq h]
  ·erw[h] |iL eo ed nh=>
  have oo:=ok.rw 0 e eo ed;rcases oo with⟨n,rfl,_⟩|⟨w,s,rfl,hw,hs,_⟩
  ·erw[Mq h]
  ·show SM (je (if w="tool" then{S with side:=s}else if w="mark" then{S with mark:=s}else S))
   erw[Mq ?_];split
   ·erw[hs,h.2]
   ·split
    ·erw[h.1,hs]
    ·erw[h]
theorem Run.sm{D:Nat}(ok:cu M D S)(aM:M.Ok)(r:Run M S es S1)(h:SM S):SM S1:=by induction r with |nil=>erw[h] |cons o _ ih=>erw[ih (One.ok ok aM o) (o.sm ok h)]
theorem a7j(h:SM S):SM (jD M S):=by unfold jD;split<;>erw[h]
theorem Sb{pl:List Int}(h:pl.length<=1000):Nx (Nx A) (fF pl):=by erw[.inr #[_,.inl Z,by rw[cJ];lia,λy hy=>?_]];let(z,_,rfl):=kh.mp hy;erw[ku z]
theorem a1B(q:Rat):Nx (Nx A) (dk q):=by erw[.inr #[_,.inl Z,(by simp),λy hy=>?_]];simp only[bJ,cD,cX]at hy;rcases hy with rfl|rfl<;>erw[ku _]
theorem Ek{D:Nat}(ok:cu M D S):(cL S).length=M.rs.length:=yF _ _ ok.pl ok.tH
def xC(S:bp):List ai:=[fF (eR S),fF (cL S),dk S.pc,.int S.aE,.str S.side,.str S.mark]
theorem a0n{D:Nat}(ok:cu M D S)(aM:M.Ok)(sm:SM S):Nx (Nx (Nx (Nx A0))) (.list (xC S)):=by
 have lr:=aM.len;erw[.inr #[_,.inr Z,(by simp[xC]),λx hx=>?_]];simp only[xC,bJ,cD,cX]at hx;rcases hx with rfl|rfl|rfl|rfl|rfl|rfl
 ·erw[Sb (by rw[Jx ok];lia)]
 ·erw[Sb (by rw[Ek ok];lia)]
 ·erw[a1B _]
 ·erw[ku _]
 ·erw[oM (n:=0) aD sm.1]
 ·erw[oM (n:=0) aD sm.2]
theorem a6o{D:Nat}(ok:cu M D S):Bu S.ds:=by erw[VP (λd hd=>?_) ok.row.no];let(i,hi):=sx.mp hd;let(o,eo,it):=ok.row.get hi;cases o with |none=>erw[SE (ok.rw i d eo hi)] |some z=>let(ns,sp):=z;rw[lO it];erw[hJ.tup (.cons (md vw) (.cons (hJ.tup λd hd=>?_) (.cons (.int _) .nil)))];let(a,_,rfl):=kh.mp hd;erw[.int _]
theorem abV{D:Addr}(hx:aK K H a [V.bl b0,.bl b1])(nw:Nw H H0 D (.lst []))(hs:∀(b:Bool)(H2:Hp)(Q':VK),Q' (.bl true) H2->te [some (V.bl b)] H2 Q')(hq:∀H',aH H H'->H' D=some (.lst ([true,true].map V.bl))->Q (.ref D) H'):jo (uA K a) (fK 0) iX te Q D [none] H0:=by
 erw[abX (bs:=[true,true]) [] hx nw Z (by simp) (λi x b H2 Q' ex eb s2 kq=>?_) hq];have hb:b=true:=by match i,eb with |0,eb=>cases eb;rfl |1,eb=>cases eb;rfl
 subst hb
 match i,ex with |0,ex=>cases ex;erw[hs _ _ _ (kq _ (aH.refl _))] |1,ex=>cases ex;erw[hs _ _ _ (kq _ (aH.refl _))]
inductive adQ(K:aa)(C:Addr)(vs:List V)(H:Hp)(Q:VK):Prop |mk (a:_)(q:_)(d:_)(e:_)(t:_)(M:_)(D:_)(S:_)(n:_)(X:_)(h0:vs=[.ref a,.ref d])(h1:cB K C H a q M S)(h2:cM K H d e t M S)(h3:cu M D S)(h4:M.Ok)(h5:SM S)(h6:nj K H t n X)(h7:40<=n)(h8:n<=900)(h9:(∀x,X x->H x≠none))(AO:X t)(Vi:t≠a)(AN:t≠q)(Vh:t≠d)(Ej:t≠e)(Vg:∀H',aX [t] H H'->nj K H' t n X->Q (.bl true) H')
def Cm(K:aa)(C:Addr):Sp:=λvs H Q _=>adQ K C vs H Q
theorem Q0:bN ["_law_runner","_law_sim_here","_law_found","_law_due","_law_waits"] ["_law_runner","_law_sim_here"] (bj GR):=bZ bf
theorem a3k(F:FA K mg "_law_seen" GR)(B:cn mg)(TC:fX K C)(jj:aJ P w K mg aB "_law_alike" 5 (xA (Nx (Nx (Nx (Nx A0)))) K))(LN:aJ P w K mg aB "_law_sim_stops" 1 (Gb K))(a8E:cS P w K mg aB C "waiting" 1 (fu K C λ_ S H Q=>∀l ys H',H l=none->H' l=some (.lst ys)->aO K H' ys S.ds->aH H H'->Q (.ref l) H'))(LK:cS P w K mg aB C "place" 3 (fu K C λ_ S H Q=>∀v H',RD K H' v (fF (eR S))->aH H H'->Q v H'))(AI:cS P w K mg aB C "leads_to" 3 (fu K C λ_ S H Q=>∀v H',RD K H' v (fF (cL S))->aH H H'->Q v H'))(a8H:cS P w K mg aB C "square" 1 (fu K C (Vr K)))(a8I:cS P w K mg aB C "rate" 1 (fu K C λ_ S H Q=>Q (.int S.aE) H))(a8F:cS P w K mg aB C "tool" 1 (fu K C λ_ S H Q=>Q (.str S.side) H))(a8K:cS P w K mg aB C "last_mark" 1 (fu K C λ_ S H Q=>Q (.str S.mark) H))(wc:cS P w K mg aB C "is_held" 1 (fu K C λ_ S H Q=>Q (.bl S.aY.isSome) H))(wa:cS P w K mg aB C "stands" 1 (fu K C λ_ S H Q=>Q (.bl (decide (S.pc=0))) H))(LJ:cS P w K mg aB C "stops_in" 1 (fu K C λM S H Q=>Q (.int (jt M.f S.pc)) H)):aJ P w K mg aB "_law_seen" 6 (Cm K C):=by
 erw[F.has Q0 (λvs H Q E h=>?_) (λ_ _ _ _ _ _=>dS λ_ _=>rfl) (λf aQ A outer s H vs Q E hr h=>?_)]
 ·let(a,q,d,e,t,M,D,S,n,X,rfl,_):=h
  rfl
 ·let(a,q,d,e,t,M,D,S,n,X,rfl,R,aht,ok,aM,sm,T,n40,agf,hX,hXt,ta,tq,td,te,k):=h
  let(dx,Tv,WZ,cA,tv,er,_):=R.ob;let(mv,lv,gv,sv,bv,cv,rv,ez,r1,r2,r3,r4,r5,r6):=aht.ob;let(ys,eq,rq):=aht.qu;let(ts,et,lt,ht):=T;have nd:=Q0.nd;have no:=ok.row.no;have Du:=aM.len;have l20:=ok.len;have jY:sizeLine=16777216:=by decide
  erw[_,(aG (pS 2 nd (dC (au (gu LK TC.cl (hr.mono aD) (pv 0)) (au (gu AI TC.cl (hr.mono aD) (pv 0)) (au (gu a8H TC.cl (hr.mono aD) (pv 0)) (au (gu a8I TC.cl (hr.mono aD) (pv 0)) (au (gu a8F TC.cl (hr.mono aD) (pv 0)) (au (gu a8K TC.cl (hr.mono aD) (pv 0)) az)))))))) (aG (pS 3 nd (dC (au (cR hr (pv 1) bh) (au (cR hr (pv 1) bh) (au (cR hr (pv 1) bh) (au (cR hr (pv 1) bh) (au (cR hr (pv 1) bh) (au (cR hr (pv 1) bh) az)))))))) (aG (pS 4 nd (gu a8E TC.cl (hr.mono aD) (pv 0))) (aG (bQ (PW.pt (kM (dX (cP (pf jj hr (au (pv 2) (au (pv 3) az))))) (lK (dX (cP (pf jj hr (au (pv 4) (au (cR hr (pv 1) bh) az)))))))) (aI (aZ gL)) bV) (aG (ib (bQ (cy ko (eK K B (au (cR hr (pv 1) bh) az)) aF (bM _)) (aI (ie (jR K Z (cR hr (pv 1) bh) (au (cQ (au (pv 4) (au (j8 (x:="tuple") (lX K Z) Z (B.at "tuple") gB (au (pv 4) az)) az))) az)))) bV)) (aG (bQ (cP (eG (x:="any") (Xh K Z Z) Z (B.at "any") Y0 (au (gU (N:=["_law_one","_law_kept"]) (js:=[none,none]) rfl rfl rfl (zX K rfl (cR hr (pv 1) bh)) (λ_ _ _ _ _=>(eg K rfl (n:=2) rfl (cf (bR 0 (gG aD)) (cf (bR 1 (gG aD)) dZ)))) (λ_ _ _ _ _=>gs) (λ_ _ _ _ _=>(fS (jy K rfl hr.units) (pv 0) (j8 (x:="list") (Ki K rfl) rfl (B.at "list") lT (au (pv 1) az)) (bM _)))) az))) (aI (aZ gL)) bV) (aG (pS 2 nd (dC (au (gu wc TC.cl (hr.mono aD) (pv 0)) (au (gu wa TC.cl (hr.mono aD) (pv 0)) az)))) (aG (pS 3 nd (dC (au (fS zZ (cR hr (pv 1) bh) j7 (bM _)) (au (fS (dF K Z hr.units) (cR hr (pv 1) bh) (cQ (au aF (au aF az))) (bM _)) az)))) (aG (bQ (PW.pt (kM (cy (jy K Z hr.units) (pv 2) (pv 3) (bM _)) (lK (dX (cP (eG (x:="all") (rJ K Z Z) Z (B.at "all") uD (au (gU (N:=["_law_one"]) (js:=[none]) rfl rfl rfl (zX K rfl (pv 2)) (λ_ _ _ _ _=>(bR 0 (vp _))) (λ_ _ _ _ _=>gs) (λ_ _ _ _ _=>(eV K B (au (pv 0) (au (dR (x:="bool") (v:=.ty "bool") rfl (B.at "bool") XZ rfl) az))))) az))))))) (aI (aZ gL)) bV) (aI (aZ (pf jj hr (au (gu LJ TC.cl (hr.mono aD) (pv 0)) (au (pf LN hr (au (pv 1) az)) az)))))))))))))),?_];erw[_,Z,a,dx,_,Z,er,Z,a,q,M,D,S,Z,R,ok,aM,λpv1 H1 rp s1=>?_];erw[_,Z,a,dx,_,Z,s1 _ _ er,Z,a,q,M,D,S,Z,R.same no s1,ok,aM,λgv1 H2 rg s2=>?_];have kl:=s1.trans s2;have R2:=R.same no kl;have p9:=kl _ _ er;erw[_,Z,a,dx,_,Z,p9,Z,a,q,M,D,S,Z,R2,ok,aM,λsq1 rs1=>?_];erw[_,Z,a,dx,_,Z,p9,Z,a,q,M,D,S,Z,R2,ok,aM,?_];erw[_,Z,a,dx,_,Z,p9,Z,a,q,M,D,S,Z,R2,ok,aM,?_];erw[_,Z,a,dx,_,Z,p9,Z,a,q,M,D,S,Z,R2,ok,aM,?_];erw[bU Z,λl1 H3 n3=>?_];have dM:=kl.trans n3.same;have rl1:aO K H3 [pv1,gv1,sq1,.int S.aE,.str S.side,.str S.mark] (xC S):=cj (RD.mono (s2.trans n3.same) _ rp) (cj (RD.mono n3.same _ rg) (cj (rs1.go n3.same).rd (cj (cF _) (cj (df _) (cj (df _) dc)))));have yM:=dM _ _ ez;erw[_,Z,d,_,Z,dg yM LV,?_];erw[_,Z,d,_,Z,dg yM LW,?_];erw[_,Z,d,_,Z,dg yM qT,?_];erw[_,Z,d,_,Z,dg yM Ep,?_];erw[_,Z,d,_,Z,dg yM a9k,?_];erw[_,Z,d,_,Z,dg yM a9l,?_];erw[bU Z,λl2 H4 n4=>?_];have fY:=dM.trans n4.same;have J8:aO K H4 [lv,gv,sv,.int S.aE,.str S.side,.str S.mark] (xC S):=cj (RD.mono fY _ r2) (cj (RD.mono fY _ r3) (cj (r4.go fY).rd (cj (cF _) (cj (df _) (cj (df _) dc)))));erw[_,Z,a,dx,_,Z,fY _ _ er,Z,a,q,M,D,S,Z,R.same no fY,ok,aM,λl zs H5 nl dl rl s5=>?_];have xG:=fY.trans s5;have Ro:=n4.same.trans s5;erw[_,Z,_,Z,.ref l1,.ref l2,.list (xC S),Z,jO (aK.of (Ro _ _ n3.at')) (aO.mono Ro _ rl1),jO (aK.of (s5 _ _ n4.at')) (aO.mono s5 _ J8),a0n ok aM sm,λH6 s6=>?_];have lI:=xG.trans s6;erw[_,Z,bK ?_];erw[_,Z,_,Z,d,_,Z,dg (lI _ _ ez) mE,.ref l,.ref e,.list S.ds,Z,jO (aK.of (s6 _ _ dl)) (aO.mono s6 _ rl),jO (aK.of (lI _ _ eq)) (aO.mono lI _ rq),a1c ok.row ok.rw aw aw,λH7 s7=>?_];have uX:=lI.trans s7;have oE:=s6.trans s7;erw[_,Z,bK ?_];have JW:H l=none:=same_none fY nl;have Dr:l≠t:=λz=>by rw[z,et]at JW;cases JW
  have lQ:=oE _ _ dl;have rl7:=aO.mono oE _ rl;have Mm:=uX _ _ et;have VE:=uX _ _ ez;have nXl:¬X l:=λz=>hX l z JW;have T7:nj K H7 t n X:=nj.go (H:=H) #[ts,et,lt,ht] (ck _) uX.v (λo e=>uX _ _ e) λl us hx e=>#[uX _ _ e,hx];erw[λO H8=>∃v2 v3,O=cZ9 (.ref a) (cZ9 (.ref d) (v2::v3::cZ9 (.ref l) []))/\aX [t] H H8/\nj K H8 t n X,?_,?_]
  ·erw[_,Z,d,_,Z,dg VE Eo,t,ts,Z,.inl (aK.of Mm),_,_,Z,Z,_,Z,?_]
   erw[eL (λLU=>?_) (λLU=>?_)]
   ·have LU:((ts.length:Nat):Int)<40:=jJ LU
    erw[_,Z,d,_,Z,dg VE Eo,.inl #[Z,_,aK.of Mm],?_];erw[_,Z,_,Z,l,zs,Z,.inl #[aK.of lQ,λtt HB nB=>?_]];erw[bU Z,λtp HC nC=>?_];have sQ:=nB.same.trans nC.same;have VN:=sQ _ _ Mm;erw[t,ts,_,Z,Z,VN,aw,?_];have vD:cm HC (_L.upd HC t (.lst (ts++[.ref tp]))):=.upd VN trivial;have bD:∀x o,x≠t->HC x=some o->(_L.upd HC t (.lst (ts++[.ref tp]))) x=some o:=λx o hx e=>by rw[aR hx];erw[e]
    have eD:(_L.upd HC t (.lst (ts++[.ref tp]))) t=some (.lst (ts++[.ref tp])):=bo;generalize _L.upd HC t (.lst (ts++[.ref tp]))=HD at vD bD eD⊢;have IP:=uX.trans sQ;erw[_,_,Z,λx o eb hb=>bD x o (λz=>hb (by rw[z];simp)) (IP _ _ eb),ts++[.ref tp],eD,by rw[fN];show ts.length+1<=_;lia,λy hy=>?_];rcases wW.mp hy with hy|hy
    ·let(p0,l0,zC,u0,e0,h1,h2,h3,h4,h5,h6,h7):=ht y hy
     have FW:=IP.v.trans vD;have l0t:l0≠t:=λz=>h7 (z▸hXt);erw[p0,l0,zC,u0,e0,h1,aV.v FW h2,bD _ _ l0t (IP _ _ h3),aV.v FW h4,aO.v FW _ h6.2.2 h5,h6,h7]
    ·rw[bW]at hy
     erw[tp,l,tt,zs,S.ds,hy,aV.v vD (aV.of nC.at'),bD _ _ Dr (sQ _ _ lQ),aV.v vD ((aV.of nB.at').go nC.same),aO.v (sQ.v.trans vD) _ no rl7,a6o ok,nXl]
   ·erw[_,_,Z,aX.of uX,T7]
  ·rintro O H8 ⟨v2,v3,rfl,b8,T8⟩
   have v8:cm H H8:=b8.v λx hx o eo=>by rw[bW]at hx;rw[hx,et]at eo;cases eo;trivial
   have xZ:∀{x},x≠t->x∉[t]:=λh=>by rw[bW];erw[h]
   have R8:=R.go no v8 (λo e=>b8 _ _ e (xZ ta.symm)) (λo e=>b8 _ _ e (xZ tq.symm));have Z8:=aht.go no v8 (λo e=>b8 _ _ e (xZ td.symm)) (λo e=>b8 _ _ e (xZ te.symm));have ez8:=b8 _ _ ez (xZ td.symm);have Mn:=b8 _ _ er (xZ ta.symm);let(G0,VO,lt8,ht8):=id T8;erw[_,Z,d,_,Z,dg ez8 Eo,t,Z,#[_,aK.of VO],λD1 H9 n9=>?_];erw[abY (bs:=G0.map λ_=>false) (λy z=>∃l ta us es,y= .ref l/\z= .ref ta/\H8 l=some (.lst us)/\aV K H8 ta us/\aO K H8 us es/\Bu es) [] rfl (aK.of VO) n9 (by rw[cJ]) aw (λi x ex=>?_) (λi y z b HA Q' pr eb sA kq=>?_) λHA sA dA=>?_]
   ·let(p,l',zC,us,es,rfl,hp,h1,h2,h3,h4,_):=ht8 x (hO ex)
    erw[p,_,_,Z,hp,l',zC,us,es,Z,Z,h1,h2,h3,h4]
   ·let(l',zC,us,es,rfl,rfl,fw,yk,res,yP):=pr
    have eb:b=false:=by rw[cV]at eb;cases h:G0[i]? with |none=>rw[h]at eb;cases eb |some c=>rw[h]at eb;cases eb;rfl
    subst eb;erw[_,Z,_,Z,zC,us,Z,.inr (yk.go sA),λl2 HB nB=>?_];erw[.inr #[.list es,.list es,jO (aK.of (nB.same _ _ (sA _ _ fw))) (aO.mono (sA.trans nB.same) _ res),jO (aK.of nB.at') (aO.mono (sA.trans nB.same) _ res),yP.1,yP.1,?_]];rw[yP.2.1];erw[kq _ nB.same]
   ·erw[D1,_,Z,aK.of dA,_,Z,?_]
    have ef:(G0.map λ_=>false).any id=false:=by rw[List.any_map,List.any_eq_false];simp
    rw[ef];erw[bK ?_];erw[_,Z,a,dx,_,Z,sA _ _ Mn,Z,a,q,M,D,S,Z,R8.same no sA,ok,aM,?_];erw[_,Z,a,dx,_,Z,sA _ _ Mn,Z,a,q,M,D,S,Z,R8.same no sA,ok,aM,?_];erw[bU Z,λl3 HB nB=>?_];have Rj:=sA.trans nB.same;let(mv',lv',gv',sO,yY,fV,dw,ez',q1,q2,q3,q4,q5,q6):=Z8.ob;have VD:=Rj _ _ ez';erw[_,Z,d,_,Z,dg VD yE,Z,?_];erw[_,Z,d,_,Z,dg VD qT,bU Z,λtz HE nE=>?_];have Ri:=Rj.trans nE.same;erw[.inr #[dk S.pc,dk 0,(q4.go Ri).rd,(qD (aV.of nE.at')).rd,Z,Z,?_]];rw[CS];erw[bU Z,λl4 HF nF=>?_];have uV:=Ri.trans nF.same;have eB:(!decide (yY= .bF))=S.aY.isSome:=by cases hs:S.aY with |none=>rw[hs]at q5;rw[q5.1];rfl |some z=>let(sq,st,gn):=z;rw[hs]at q5;let(ta,su,rfl,_):=q5;rfl
    rw[eB]at nF;have sBF:=nE.same.trans nF.same;have dB:=sBF _ _ nB.at';erw[_,Z,_,Z,.inr #[.list [.bool S.aY.isSome,.bool (decide (S.pc=0))],.list [.bool S.aY.isSome,.bool (decide (S.pc=0))],jO (aK.of dB) (cj (m4 _) (cj (m4 _) dc)),jO (aK.of nF.at') (cj (m4 _) (cj (m4 _) dc)),Z,Z,?_]];rw[show PyData.eqv (.list [.bool S.aY.isSome,.bool (decide (S.pc=0))]) (.list [.bool S.aY.isSome,.bool (decide (S.pc=0))])=true by cases S.aY.isSome<;>cases decide (S.pc=0)<;>rfl];erw[_,Z,bK ?_];erw[_,Z,l3,Z,#[_,aK.of dB],λD2 HC nC=>?_];erw[abV (aK.of dB) nC (λb H2 Q' hq=>?_) λHD sD dD=>?_]
    ·erw[_,Z,.inl #[_,"bool","bool",true,Z,Z,aD,aD,hq]]
    erw[D2,_,Z,aK.of dD,_,Z,bK ?_];have CJ:=uV.trans sD;erw[_,Z,a,dx,_,Z,CJ _ _ Mn,Z,a,q,M,D,S,Z,R8.same no CJ,ok,aM,?_];erw[_,Z,d,e,t,M,D,S,Z,Z8.same no CJ,ok,aM,?_];erw[_,_,.int _,Z,cF _,cF _,ku _,λHG sG=>?_];have CI:=CJ.trans sG;erw[k HG (λx o eb hb=>CI _ _ (b8 _ _ eb hb)) (T8.go (ck _) CI.v (λo e=>CI _ _ e) λl us hx e=>#[CI _ _ e,hx])]
end
end _c
set_option maxHeartbeats 1000000
namespace _c
open PySem PySem.Spec PyProof.Rows _L _r _l _C _P _W _R
open _O (topR cornO mnO betR atO ownF leadF ownL OkI OkIs)
section
inductive ae9(K:aa)(C:Addr)(R:iT)(vs:List V)(H:Hp)(Q:VK)(E:XK):Prop |mk (a:_)(q:_)(M:_)(D:_)(S:_)(v:_)(d:_)(o:_)(h0:vs=[.ref a,v])(h1:cB K C H a q M S)(h2:cu M D S)(h3:M.Ok)(h4:RD K H v d)(h5:nk M.rs.length d o)(h6:fh M.rs (gz (cL S) o))(h7:(S.ds.length=20->∀H',aH H H'->E (.ref R.f) none H'))(h8:(S.ds.length<20->∀H',cB K C H' a q M (mF S d o)->aX [a,q] H H'->Q (.int (S.ds.length+1:Nat)) H'))
def Cp(K:aa)(C:Addr)(R:iT):Sp:=λvs H Q E=>ae9 K C R vs H Q E
theorem a3E(F:MA K C "feed" "Runner.feed" CD)(TC:fX K C)(B:cn mg)(a97:Exc K mg "Full" R.f mI mU)(Ly:GV mg "MOST_WAITING" (.int 20))(Lj:aJ P w K mg aB "is_item" 4 (Cu K))(Lh:aJ P w K mg aB "is_place" 3 (Cv K))(vL:aJ P w K mg aB "place_behind" 2 (xy K))(AI:cS P w K mg aB C "leads_to" 3 (fu K C λ_ S H Q=>∀v H',RD K H' v (fF (cL S))->aH H H'->Q v H')):rP P w K mg aB C "feed" 5 (Cp K C R):=by
 erw[F.Ls Cz (λvs H Q E h=>?_) (λ_ _ _ _ _ _=>dS λ_ _=>rfl) (λf aQ A outer s H vs Q E hr h=>?_)]
 ·let(a,q,M,D,S,v,d,o,rfl,_):=h
  rfl
 ·let(a,q,M,D,S,v,d,o,rfl,Ra,ok,aM,rd,it,kO,kf,kd):=h
  let(i1,i2,i3):=it.is;let(dx,mv,bv,cA,tv,e,r1,r2,r3,r4):=Ra.ob;let(ys,eq,rq):=Ra.qu;have nd:=Cz.nd;have lr:=aM.len;have ly:=rq.length;erw[_,(aG (bQ (dX (cP (pf Lj hr (au (dj TC.cl TC.oP (pv 0)) (au (pv 1) az))))) (aI nK) bV) (aG (bQ (dX (cP (pf Lh hr (au (dj TC.cl TC.oP (pv 0)) (au (pf vL hr (au (gu AI TC.cl (hr.mono aD) (pv 0)) (au (pv 1) az))) az))))) (aI nK) bV) (aG (bQ (cy D7 (eK K B (au (dj TC.cl TC.ja (pv 0)) az)) (fG (x:="MOST_WAITING") rfl Ly) (bM _)) (aI (CW (λ_ _ _ _ _ _ _ I m q=>BU I m q) a97 Nv hr.hd Z (au bh az))) bV) (aG (ie (jR K Z (dj TC.cl TC.ja (pv 0)) (au (pv 1) az))) (aI (aZ (eK K B (au (dj TC.cl TC.ja (pv 0)) az)))))))),?_];erw[_,Z,a,dx,_,_,Z,e,Z,_,Z,mv,v,M.rs,_,d,Z,r1,rd,aw,i2,i3,λH1 s1=>#[_,Z,?_]];rw[i1];erw[bK ?_];have e1:=s1 _ _ e;have R1:=Ra.same ok.row.no s1;erw[_,Z,a,dx,_,_,Z,e1,Z,?_];erw[_,Z,a,dx,_,Z,e1,Z,a,q,M,D,S,Z,R1,ok,aM,λg H2 rg s2=>?_];have kl:=s1.trans s2;have gl:(cL S).length=M.rs.length:=yF _ _ ok.pl ok.tH;have bl:(gz (cL S) o).length=M.rs.length:=wC gl λns sp eo=>(it.ln ns sp eo).1.len;erw[_,Z,g,v,cL S,d,o,Z,rg,RD.mono kl _ rd,it.it,λns sp e'=>by rw[gl];exact(it.ln ns sp e').1.len,aw,λu H3 ru s3=>?_];have dM:=kl.trans s3;erw[mv,u,M.rs,_,_,Z,RD.mono dM _ r1,ru,aw,λH4 s4=>#[_,Z,?_]];rw[SK kO];erw[bK ?_];have fY:=dM.trans s4;have e4:=fY _ _ e;have eq4:=fY _ _ eq;erw[_,Z,a,dx,_,_,Z,e4,Z,q,_,Z,.inl (aK.of eq4),_,_,Z,Z,_,Z,?_];by_cases kW:S.ds.length=20
  ·rw[show decide ((ys.length:Int)>=20)=true from cU aw]
   erw[cx #[bU Z,kf kW _ fY]]
  have l20:=ok.len;rw[show decide ((ys.length:Int)>=20)=false from fo aw];erw[bK ?_];have jY:sizeLine=16777216:=by decide
  erw[_,Z,a,dx,_,_,Z,e4,Z,.inl #[Z,_,aK.of eq4],_,Z,q,ys,_,Z,Z,eq4,aw,?_];have aq:=Ra.ne;have tu:cm H4 (_L.upd H4 q (.lst (ys++[v]))):=.upd eq4 trivial;have e5:(_L.upd H4 q (.lst (ys++[v]))) a=some (.ins C dx (gc mv bv (.int S.dn) (.ref q) cA (.int S.aE) (.str S.side) (.str S.mark) tv)):=by rw[aR aq];erw[e4]
  erw[_,Z,a,dx,_,_,Z,e5,Z,q,_,Z,.inl (aK.of bo),?_];have sv:cm H (_L.upd H4 q (.lst (ys++[v]))):=fY.v.trans tu;have el:((ys++[v]).length:Int)=((S.ds.length+1:Nat):Int):=by rw[fN,ly];rfl
  rw[el];erw[kd aw _ #[#[dx,mv,bv,cA,tv,e5,RD.v sv _ (iE _ _ _ _ _) r1,RD.v sv _ (gd _) r2,r3.v sv,r4.v sv],_,bo,?_] λb o' eb hb=>?_]
  ·exact(aO.v sv _ ok.row.no rq).append (cj (RD.v sv _ it.it.no rd) dc)
  ·have lP:b≠q:=λz=>hb (by rw[z];simp)
   rw[aR lP];erw[fY _ _ eb]
end
end _c
namespace _c
open PySem PySem.Spec PyProof.Rows _L _r _l _C _P _W _R
section
inductive rL(R:iT):Addr->Bool->Bool->Bool->Nat->Str->Prop |f:rL R R.f true false false 2 "full" |m:rL R R.m false true false 3 "moving" |r:rL R R.r false false true 4 "rate"
def Xs(R:iT)(Q:VK):XK:=λcls dx H'=>∃C b2 b3 b4 j w,rL R C b2 b3 b4 j w/\cls= .ref C/\∀XH,aH H' XH->Q (.str w) XH
theorem rL.kc(A:Fe K mg R cG c0 c1 c2 c3 c4 c5)(h:rL R C b2 b3 b4 j z):KC K R cG [c0,c1,c2,c3,c4,c5] C false false b2 b3 b4/\ClsAt K C:=by
 cases h
 ·erw[A.f,A.xf.cls]
 ·erw[A.m,A.xm.cls]
 ·erw[A.r,A.xr.cls]
theorem rL.one{R:iT}{C:Addr}{b2 b3 b4:Bool}{j:Nat}{z:Str}(h:rL R C b2 b3 b4 j z):[false,false,b2,b3,b4].count true=1/\[false,false,b2,b3,b4][j]? =some true/\(∀m,m<j->[false,false,b2,b3,b4][m]? =some false)/\j<1000/\fW [V.str "item",.str "",.str "full",.str "moving",.str "rate"] (j:Nat)=some (.str z):=by
 cases h<;>erw[aD,rfl,λm hm=>?_,aD,rfl]
 ·match m,hm with|0,_=>rfl|1,_=>rfl
 ·match m,hm with|0,_=>rfl|1,_=>rfl|2,_=>rfl
 ·match m,hm with|0,_=>rfl|1,_=>rfl|2,_=>rfl|3,_=>rfl
def xo(P:ah)(w:World)(K:aa)(mg:cw)(aB:Heap)(R:iT)(k:Nat):wI:=λouter s vs H Q _=>∃(f c:Addr)(cl:List (Str×Addr))(pr:Arguments)(b:Expr)(sc:Scope)(q:Str)(N:List Str)(xs:List V)(t:XK->TE),vs=[.ref f]/\uy s.heap H (dJ outer) f pr b sc q c cl/\H c=some (.ext (jH c q))/\pN s.heap H (dJ outer) cl N xs/\xs.length=N.length/\rQ N sc/\(∀pm cd ct,bindArgs (PySem.W.kla_fn "<lambda>" q pr b sc cl pm cd ct) #[[],[]]=pure [])/\(∀(A:aj)(outer:List Env)(s:ae)(H:Hp)(E:XK),dh k (A.deeper (PySem.W.envX q sc s.heap.objs.size f (.ref c) cl))->PE (oW (jI P w) P w K mg aB N q sc f (.ref c) cl A outer s H E) b (t E))/\t (Xs R Q) (xs.map some) H Q
theorem Qb:bN ["_law_deed_here","e","_law_kinds","_law_others"] ["_law_deed_here"] (bj Hh):=bZ bf
theorem a3H{k:Nat}(F:FA K mg "_law_refused" Hh)(B:cn mg)(EA:Fe K mg R cG c0 c1 c2 c3 c4 c5):Br P w K mg aB "_law_refused" (k+2) (xo P w K mg aB R k):=by
 erw[F.a8d Qb (λouter s vs H Q E h=>?_) (λ_ _ _ _ _ _=>fj λ_=>rfl) (λf0 aQ A outer s H vs Q E hr h=>?_)]
 ·let(f,c,cl,pr,b,sc,q,N,xs,t,rfl,_):=h
  rfl
 ·let(f,c,cl,pr,b,sc,q,N,xs,t,rfl,L,hc,C,hl,S,hb,ht,hq):=h
  have nd:=Qb.nd;have hy:=EA.g;have Lr:(mI).contains (.type "BaseException")=true:=by decide
  have LS:∀C',(∃b2 b3 b4 j w,rL R C' b2 b3 b4 j w)->ClsAt K C'/\takes K C' cG:=λC' #[b2,b3,b4,j,w,h]=>#[(h.kc EA).2,(h.kc EA).1.tk];have a8s:=EA.gn;have a8l:=EA.go;have a8B:GV mg "Full" (.ref R.f):=#[_,EA.xf.at',Z];have a8u:=EA.gm;have a8o:=EA.gr;have a8t:=EA.h0;have a8r:=EA.h1;have a8q:=EA.h2;have a8p:=EA.h3;have a8n:=EA.h4;have a8m:=EA.h5;have a8j:=EA.v;erw[_,(Bk.one (a22 (i:=1) Z Z nd Z Z Z (λE xe hp=>(aI (aZ (a2q 0 hp)))) Z hy Lr LS (λex=>(aG (pS 2 nd (dC (au (eG (x:="isinstance") (vz K Z) Z (B.at "isinstance") wU (au (pv 1) (au (fG (x:="NoItem") rfl a8s) az))) (au (eG (x:="isinstance") (vz K rfl) rfl (B.at "isinstance") wU (au (pv 1) (au (fG (x:="OffRails") rfl a8l) az))) (au (eG (x:="isinstance") (vz K rfl) rfl (B.at "isinstance") wU (au (pv 1) (au (fG (x:="Full") rfl a8B) az))) (au (eG (x:="isinstance") (vz K rfl) rfl (B.at "isinstance") wU (au (pv 1) (au (fG (x:="Moving") rfl a8u) az))) az)))))) (aG (ie (jR K Z (pv 2) (au (eG (x:="isinstance") (vz K Z) Z (B.at "isinstance") wU (au (pv 1) (au (fG (x:="NoRate") rfl a8o) az))) az))) (aG (pS 3 nd (eG (x:="isinstance") (vz K Z) Z (B.at "isinstance") wU (au (pv 1) (au (cQ (au (fG (x:="NoFraction") rfl a8t) (au (fG (x:="NoLine") rfl a8r) (au (fG (x:="NoMachine") rfl a8q) (au (fG (x:="NoPlace") rfl a8p) (au (fG (x:="NoTape") rfl a8n) (au (fG (x:="NoText") rfl a8m) az))))))) az)))) (aG (bQ (PW.pt (kM (cy (jy K Z hr.units) (a2z K Z (pv 2) (au gL az)) aF (bM _)) (kM (cP (pv 3)) (lK (dX (cP (eG (x:="isinstance") (vz K Z) Z (B.at "isinstance") wU (au (pv 1) (au (dR (x:="ValueError") (v:=.ty "ValueError") rfl a8j acq rfl) az))))))))) (aI (aZ bh)) bV) (aG (bQ (cP (px K (pv 2) aF)) (aI nK) bV) (aI (aZ (px K (dC (au bh (au bh (au bh (au bh (au bh az)))))) (a2x K Z (pv 2) (au gL az))))))))))))),?_];erw[Xs R Q,?_,λcls dx H' h=>?_,?_]
  ·erw[f,c,cl,pr,b,sc,q,N,xs,t,k,Z,Z,L,hc,C,hl,S,hb,hr,ht,hq]
  ·let(C,b2,b3,b4,j,w,h,e,_):=h
   erw[C,e,b2,b3,b4,j,w,h]
  ·intro C' ex dx σ' H' fw hE hex
   have hl4:σ'.length=4:=fw;have e1:(_L.upd H' ex (.ext (pL ex (.ref C') dx))) ex=some (.ext (pL ex (.ref C') dx)):=bo;have sm:=aH.new (o:=.ext (pL ex (.ref C') dx)) hex;have jY:sizeLine=16777216:=by decide
   match σ',hl4 with
   |[u0,u1,u2,u3],_=>
    let(C,b2,b3,b4,j,z,hw,e,kq):=hE;cases e;let(cnt,o2,o3,o4,o5):=hw.one;have kc:=(hw.kc EA).1;erw[_,Z,.inl #[ex,C',dx,.ref R.n,.ref R.n,false,Z,e1,kc.k,Z,kc.i0,?_]];erw[_,Z,.inl #[ex,C',dx,.ref R.o,.ref R.o,false,Z,e1,kc.k,Z,kc.i1,?_]];erw[_,Z,.inl #[ex,C',dx,.ref R.f,.ref R.f,b2,Z,e1,kc.k,Z,kc.i2,?_]];erw[_,Z,.inl #[ex,C',dx,.ref R.m,.ref R.m,b3,Z,e1,kc.k,Z,kc.i3,?_]];erw[bU Z,λl H2 n2=>?_];have e2:=n2.same _ _ e1;erw[_,Z,.inl #[Z,_,aK.of n2.at'],_,Z,.inl #[ex,C',dx,.ref R.r,.ref R.r,b4,Z,e2,kc.k,Z,kc.i4,l,_,_,Z,Z,n2.at',by show 4<_;lia,?_]];have A9:ex≠l:=λz=>by have:=n2.no;rw[<-z,e1]at this;cases this
    have e3:(_L.upd H2 l (.lst ([V.bl false,.bl false,.bl b2,.bl b3]++[.bl b4]))) ex=some (.ext (pL ex (.ref C') dx)):=by rw[aR A9];erw[e2]
    have e4:(_L.upd H2 l (.lst ([V.bl false,.bl false,.bl b2,.bl b3]++[.bl b4]))) l=some (.lst ([false,false,b2,b3,b4].map V.bl)):=bo;have s3:aH H' (_L.upd H2 l (.lst ([V.bl false,.bl false,.bl b2,.bl b3]++[.bl b4]))):=λb' o' eb=>by
     have nb:b'≠l:=λz=>by have:=n2.no;rw[<-z,sm _ _ eb]at this;cases this
     rw[aR nb];erw[n2.same _ _ (sm _ _ eb)]
    generalize _L.upd H2 l (.lst ([V.bl false,.bl false,.bl b2,.bl b3]++[.bl b4]))=H3 at e3 e4 s3⊢;erw[_,Z,bU Z,λtp H4 n4=>?_];have e5:=n4.same _ _ e3;have e6:=n4.same _ _ e4;have s4:=s3.trans n4.same;erw[.inr #[ex,C',tp,dx,[c0,c1,c2,c3,c4,c5],false,Z,e5,kc.k,n4.at',kc.any,?_]];erw[_,Z,.inl #[Z,_,aK.of e6],l,_,Z,Z,aK.of e6,.inl #[_,_,Z,Z,_,Z,?_]];rw[show(!decide (((([false,false,b2,b3,b4].count true:Nat)):Int)=1))=false by rw[cnt];rfl];erw[bK #[_,Z,_,Z,bK ?_]];erw[_,Z,.inl #[ex,C',dx,.ty "ValueError",.type "ValueError",true,Z,e5,kc.k,Z,kc.ve,_,Z,bK ?_]];erw[_,Z,.inl #[l,_,1,.bl false,Z,Z,aK.of e6,Z,_,Z,?_]];erw[bK ?_];erw[bU Z,λlw H5 n5=>?_];erw[_,Z,.inl #[Z,_,aK.of (n5.same _ _ e6)],l,_,j,Z,Z,aK.of (n5.same _ _ e6),o2,o3,o4,?_];erw[.inl #[lw,_,_,_,Z,Z,aK.of n5.at',o5,kq _ (s4.trans n5.same)]]
end
end _c
set_option maxHeartbeats 4000000
namespace _c
open PySem PySem.Spec PyProof.Rows _L _r _l _C _P _W _R
open _O (topR cornO mnO betR atO ownF leadF ownL OkI OkIs)
section
structure bL(K:aa)(C T:Addr)(qn:Str)(H:Hp)(M:bP)(n:Nat)(A:Ad)(p:Addr)(S:bp):Prop where
 run:cB K C H A.a A.q M S
 sim:cM K H A.d A.e A.t M S
 ok:cu M (64+10*n) S
 sm:SM S
 told:nj K H A.t (40+n) (λl=>l∈A.all\/l=p)
 nd:A.all.Nodup
 tab:TabAt H T qn
 on:fh M.rs (cL S)
 bu:fm H p
 np:p∉A.all
section
variable {C T:Addr}{qn:Str}{H H':Hp}{M:bP}{n:Nat}{A:Ad}{p:Addr}{S:bp}
theorem bL.kind(h:bL K C T qn H M n A p S):∀x∈A.all,∃o,H x=some o/\Bv o/\∀ps,o≠ .fq ps:=by
 intro x hx;let(dx,Tv,WZ,cA,tv,e,_):=h.run.ob;let(zs,eq,_):=h.run.qu;let(mv,lv,gv,sv,bv,cv,rv,ez,_):=h.sim.ob;let(ys,ee,_):=h.sim.qu;let(ts,et,_):=h.told;simp only[Ad.all,bJ,cD,cX]at hx;rcases hx with rfl|rfl|rfl|rfl|rfl
 ·erw[_,e,trivial,λ_ z=>nomatch z]
 ·erw[_,eq,trivial,λ_ z=>nomatch z]
 ·erw[_,ez,trivial,λ_ z=>nomatch z]
 ·erw[_,ee,trivial,λ_ z=>nomatch z]
 ·erw[_,et,trivial,λ_ z=>nomatch z]
theorem bL.here(h:bL K C T qn H M n A p S):∀x,(x∈A.all\/x=p)->H x≠none:=by
 intro x hx;rcases hx with hx|rfl
 ·let(o,e,_):=h.kind x hx
  rw[e];simp
 ·let(c,m,e,_):=h.bu
  rw[e];simp
theorem bL.nT(h:bL K C T qn H M n A p S):T∉A.all:=λhx=>by let(o,e,_,hn):=h.kind T hx;let(ps,et,_):=h.tab;rw[e]at et;erw[hn _ (fe et)]
theorem bL.Dk(h:bL K C T qn H M n A p S):T≠p:=λhx=>by let(c,m,e,_):=h.bu;let(ps,et,_):=h.tab;rw[<-hx,et]at e;cases e
theorem bL.v(h:bL K C T qn H M n A p S)(b:aX (T::p::A.all) H H'):cm H H':=by
 erw[b.v λx hx o eo=>?_];rcases bJ.mp hx with z|hx
 ·let(ps,et,_):=h.tab
  rw[z,et]at eo;cases eo;trivial
 ·rcases bJ.mp hx with z|hx
  ·let(c,m,e,_):=h.bu
   rw[z,e]at eo;cases eo;trivial
  ·let(o',e,c,_):=h.kind x hx
   rw[eo]at e;cases e;erw[c]
theorem TabAt.but{q:Str}(h:TabAt H T q)(b:aX S' H H')(hT:T∉S')(hS:∀x∈S',∀φ,H x≠some (.ext φ)):TabAt H' T q:=h.keep (λps e=>b _ _ e hT) λx φ e=>b _ _ e λhx=>hS x hx φ e
theorem fm.but(h:fm H p)(b:aX S' H H')(hp:p∉S'):fm H' p:=by let(c,m,e,k):=h;erw[c,m,b _ _ e hp,k]
theorem bL.tJ(h:bL K C T qn H M n A p S):∀x∈p::A.all,∀φ,H x≠some (.ext φ):=λx hx φ e=>by
 rcases bJ.mp hx with z|hx
 ·let(c,m,e',_):=h.bu
  rw[z,e']at e;cases e
 ·let(o',e',c,_):=h.kind x hx
  rw[e]at e';cases e';erw[c]
theorem bL.iA(h:bL K C T qn H M n A p S)(x:bS p H H'):bL K C T qn H' M n A p S:=by have b:aX [p] H H':=λb o e hb=>x.same b o (λz=>hb (by rw[z];erw[.head _])) e;have v:=(bS.t h.bu x).v;have np:∀y∈A.all,∀o,H y=some o->H' y=some o:=λy hy o e=>x.same y o (λz=>h.np (z▸hy)) e;erw[h.run.go h.ok.row.no v (np _ (by simp[Ad.all])) (np _ (by simp[Ad.all])),h.sim.go h.ok.row.no v (np _ (by simp[Ad.all])) (np _ (by simp[Ad.all])),h.ok,h.sm,h.told.go (ck _) v (np _ (by simp[Ad.all])) λl us hx e=>#[x.same _ _ (λz=>hx (.inr z)) e,hx],h.nd,?_,h.on,x.bu,h.np];erw[TabAt.but h.tab b (by rw[bW];erw[h.Dk]) λy hy φ=>h.tJ y (by rw[bW.mp hy];erw[.head _]) φ]
theorem bL.same(h:bL K C T qn H M n A p S)(s:aH H H'):bL K C T qn H' M n A p S:=#[h.run.same h.ok.row.no s,h.sim.same h.ok.row.no s,h.ok,h.sm,h.told.go (ck _) s.v (λo e=>s _ _ e) λl us hx e=>#[s _ _ e,hx],h.nd,h.tab.keep (λps e=>s _ _ e) (λb φ e=>s _ _ e),h.on,by let(c,m,e,k):=h.bu;erw[c,m,s _ _ e,k],h.np]
theorem bL.a4L(h:bL K C T qn H M n A p S)(s:aH H H')(nw:H p'=none)(bg:fm H' p'):bL K C T qn H' M n A p' S:=by have h':=h.same s;erw[h'.run,h'.sim,h'.ok,h'.sm,h.told.go (ck _) s.v (λo e=>s _ _ e) λl us hx e=>#[s _ _ e,λz=>z.elim (λz=>hx (.inl z)) λz=>?_],h'.nd,h'.tab,h'.on,bg,λz=>h.here _ (.inl z) nw];rw[z,nw]at e;cases e
theorem bL.mono(h:bL K C T qn H M n A p S)(h1:n<=m)(h2:m<=100):bL K C T qn H M m A p S:=#[h.run,h.sim,h.ok.mono aw aw,h.sm,h.told.go aw (λ_ _ _ e=>e) (λ_ e=>e) λl us hx e=>#[e,hx],h.nd,h.tab,h.on,h.bu,h.np]
theorem bL.upd(h:bL K C T qn H M n A p S)(q':Addr)(b:aX (T::p::A.all) H H')(nq:q'=A.q\/H q'=none)(R:cB K C H' A.a q' M S')(aht:cM K H' A.d A.e A.t M S')(ok:cu M (64+10*(n+1)) S')(sm:SM S') (To:nj K H' A.t (40+(n+1)) (λl=>l∈A.all\/l=p\/l=q'))(tab:TabAt H' T qn)(on:fh M.rs (cL S'))(bu:fm H' p):bL K C T qn H' M (n+1) {A with q:=q'} p S':=by
 have Xk:∀x,x∈({A with q:=q'}:Ad).all->x∈A.all\/x=q':=λx m=>by simp only[Ad.all,bJ,cD,cX]at m⊢;rcases m with z|z|z|z|z<;>simp[z]
 have S9:q'=A.q\/(q'∉A.all/\q'≠p):=nq.imp id λz=>#[λm=>h.here _ (.inl m) z,λe=>h.here _ (.inr e) z];erw[R,aht,ok,sm,To.go (ck _) (λ_ _ _ e=>e) (λ_ e=>e) λl us hx e=>#[e,λz=>?_],?_,tab,on,bu,λz=>?_]
 ·rcases z with z|z
  ·erw[hx ((Xk _ z).elim .inl λz=>.inr (.inr z))]
  ·erw[hx (.inr (.inl z))]
 ·have nd:=h.nd
  rcases S9 with e|⟨e,_⟩
  ·rw[e];erw[nd]
  ·simp only[Ad.all,nv,bJ,cD,cX,oh]at nd e⊢
   let((t1,t2,t3,t4),(t5,t6,t7),t8):=nd;let(e1,e2,e3,e4,e5):=e;erw[#[dy e1,t2,t3,t4],#[e3,e4,e5],t8]
 ·rcases Xk _ z with z|z
  ·erw[h.np z]
  ·rcases S9 with e|⟨_,e⟩
   ·erw[h.np (by rw[z,e];simp[Ad.all])]
   ·erw[e z.symm]
theorem bL.O9(h:bL K C T qn H M n A p S)(q':Addr)(b:aX (T::p::A.all) H H')(et:∀o,H A.t=some o->H' A.t=some o)(nq:q'=A.q\/H q'=none)(R:cB K C H' A.a q' M S')(aht:cM K H' A.d A.e A.t M S')(ok:cu M (64+10*(n+1)) S')(sm:SM S') (tab:TabAt H' T qn)(on:fh M.rs (cL S'))(bu:fm H' p):bL K C T qn H' M (n+1) {A with q:=q'} p S':=by
 erw[h.upd q' b nq R aht ok sm (h.told.go aw (h.v b) et λl us hx e=>#[b _ _ e λm=>?_,λz=>?_]) tab on bu]
 ·rcases bJ.mp m with z|m
  ·let(ps,e',_):=h.tab
   rw[z,e']at e;cases e
  ·erw[hx ((bJ.mp m).elim .inr .inl)]
 ·rcases z with z|z|z
  ·erw[hx (.inl z)]
  ·erw[hx (.inr z)]
  ·rcases nq with g|g
   ·erw[hx (.inl (by rw[z,g];simp[Ad.all]))]
   ·rw[<-z,e]at g;cases g
end
section
variable {C T:Addr}{qn:Str}{H H' H1 H2:Hp}{M:bP}{n:Nat}{A:Ad}{p:Addr}{S S1:bp}{q':Addr}
theorem bL.qE(h:bL K C T qn H M n A p S):A.a∉[A.d,A.e]/\A.q∉[A.d,A.e]/\A.t∉[A.d,A.e]/\A.d∉[A.a,A.q]/\A.e∉[A.a,A.q]/\A.t∉[A.a,A.q]:=by have nd:=h.nd;simp only[Ad.all,nv,bJ,cD,cX,oh]at nd⊢;let((t1,t2,t3,t4),(t5,t6,t7),(t8,t9),sN,_):=nd;erw[#[t2,t3],#[t5,t6],#[dy t9,dy sN],#[dy t2,dy t5],#[dy t3,dy t6],#[dy t4,dy t7]]
theorem xk:∀x,x∈[A.a,A.q]->x∈T::p::A.all:=λx hx=>by simp only[Ad.all,bJ,cD,cX]at hx⊢;rcases hx with z|z<;>simp[z]
theorem Ce:∀x,x∈[A.d,A.e]->x∈T::p::A.all:=λx hx=>by simp only[Ad.all,bJ,cD,cX]at hx⊢;rcases hx with z|z<;>simp[z]
theorem bL.mid(h:bL K C T qn H M n A p S)(b1:aX [A.a,A.q] H H1):cM K H1 A.d A.e A.t M S:=h.sim.go h.ok.row.no (h.v (b1.mono xk)) (λo e=>b1 _ _ e h.qE.2.2.2.1) (λo e=>b1 _ _ e h.qE.2.2.2.2.1)
theorem bL.fin(h:bL K C T qn H M n A p S)(R1:cB K C H1 A.a q' M S1)(b1:aX [A.a,A.q] H H1)(nq:q'=A.q\/H q'=none)(Z2:cM K H2 A.d A.e A.t M S1)(b2:aX [A.d,A.e] H1 H2)(ok:cu M (64+10*(n+1)) S1)(sm:SM S1)(on:fh M.rs (cL S1)):bL K C T qn H2 M (n+1) {A with q:=q'} p S1/\aX (T::p::A.all) H H2:=by
 have bb:aX (T::p::A.all) H H2:=(b1.mono xk).trans (b2.mono Ce);let(n1,n2,n3,n4,n5,n6):=h.qE;have Z1:=h.mid b1;have oq:cm H1 H2:=Z1.v b2;have q2:q'∉[A.d,A.e]:=by
  rcases nq with z|z
  ·rw[z];erw[n2]
  ·intro m
   erw[h.here q' (.inl ?_) z];simp only[Ad.all,bJ,cD,cX]at m⊢;rcases m with e|e<;>simp[e]
 have pn:∀S':List Addr,(∀x∈S',x∈A.all)->p∉S':=λS' hs m=>h.np (hs p m);have in1:∀x∈[A.a,A.q],x∈A.all:=λx hx=>by simp only[Ad.all,bJ,cD,cX]at hx⊢;rcases hx with z|z<;>simp[z]
 have DL:∀x∈[A.d,A.e],x∈A.all:=λx hx=>by simp only[Ad.all,bJ,cD,cX]at hx⊢;rcases hx with z|z<;>simp[z]
 have zA:=TabAt.but h.tab b1 (λm=>h.nT (in1 _ m)) λx hx φ=>h.tJ x (.tail _ (in1 x hx)) φ;have zy:=TabAt.but zA b2 (λm=>h.nT (DL _ m)) λx hx φ e=>by
  let(o,eo,_,_):=h.kind x (DL x hx);have e1:H1 x=some o:=b1 _ _ eo (λm=>by
   simp only[bJ,cD,cX]at hx m;rcases hx with z|z<;>rcases m with g|g
   ·erw[n4 (by rw[<-z,g];simp)]
   ·erw[n4 (by rw[<-z,g];simp)]
   ·erw[n5 (by rw[<-z,g];simp)]
   ·erw[n5 (by rw[<-z,g];simp)]);rw[e]at e1;cases e1;erw[h.tJ x (.tail _ (DL x hx)) φ eo]
 erw[h.O9 q' bb (λo e=>b2 _ _ (b1 _ _ e n6) n3) nq (R1.go ok.row.no oq (λo e=>b2 _ _ e n1) (λo e=>b2 _ _ e q2)) Z2 ok sm zy on ((h.bu.but b1 (pn _ in1)).but b2 (pn _ DL)),bb]
end
section
variable {C T:Addr}{qn:Str}{H H':Hp}{M:bP}{n:Nat}{A:Ad}{p:Addr}{S:bp}
theorem bL.lam(h:bL K C T qn H M n A p S)(b:aX [T] H H')(tab:TabAt H' T qn):bL K C T qn H' M n A p S:=by
 have bb:aX (T::p::A.all) H H':=b.mono λx hx=>by rw[bW.mp hx];erw[.head _]
 have v:=h.v bb;have nT:∀{x},x∈A.all->x∉[T]:=λhx m=>h.nT (by rw[<-bW.mp m];erw[hx]);have k:∀{x},x∈A.all->∀o,H x=some o->H' x=some o:=λhx o e=>b _ _ e (nT hx);erw[h.run.go h.ok.row.no v (k (by simp[Ad.all])) (k (by simp[Ad.all])),h.sim.go h.ok.row.no v (k (by simp[Ad.all])) (k (by simp[Ad.all])),h.ok,h.sm,h.told.go (ck _) v (k (by simp[Ad.all])) λl us hx e=>#[b _ _ e λm=>?_,hx],h.nd,tab,h.on,h.bu.but b λm=>h.Dk (bW.mp m).symm,h.np];let(ps,e',_):=h.tab;rw[bW.mp m,e']at e;cases e
theorem a1r{q:Str}(L:uy s'.heap H (dJ outer) f pr b sc q c cl)(hc:H c=some (.ext (jH c q)))(CA:pN s'.heap H (dJ outer) cl N [.ref A.a,iv])(hN:N.length=2)(Sc:rQ N sc)(hb:∀pm cd ct,bindArgs (PySem.W.kla_fn "<lambda>" q pr b sc cl pm cd ct) #[[],[]]=pure []) (Ay:∀(A:aj)(outer:List Env)(s:ae)(H:Hp)(E:XK),dh 5 (A.deeper (PySem.W.envX q sc s.heap.objs.size f (.ref c) cl))->PE (oW (jI P w) P w K mg aB N q sc f (.ref c) cl A outer s H E) b (sL C "feed" (Cp K C R) E (lH 0) (sM (lH 1) jM))) (h:bL K C T qn H M n A p S)(rd:RD K H iv d)(it:nk M.rs.length d o)(aM:M.Ok)(kO:fh M.rs (gz (cL S) o))(kf:S.ds.length=20->∀H2,aH H H2->Q (.str "full") H2)(kd:S.ds.length<20->∀H2,cB K C H2 A.a A.q M (mF S d o)->aX [A.a,A.q] H H2->Q (.int (S.ds.length+1:Nat)) H2):xo P w K mg aB R 5 outer s' [.ref f] H Q E:=by let(dx,mv,bv,cA,tv,e,_):=h.run.ob;erw[f,c,cl,pr,b,sc,q,N,_,λE=>sL C "feed" (Cp K C R) E (lH 0) (sM (lH 1) jM),Z,L,hc,CA,hN.symm,Sc,hb,Ay,?_];erw[_,Z,A.a,dx,_,Z,e,Z,_,Z,A.a,A.q,M,_,S,iv,d,o,Z,h.run,h.ok,aM,rd,it,kO,λkW H2 s2=>#[R.f,_,_,_,2,"full",.f,Z,λH3 s3=>kf kW _ (s2.trans s3)],kd]
end
section
variable {C T:Addr}{qn:Str}{H H1 H2:Hp}{M:bP}{n:Nat}{A:Ad}{p:Addr}{S S1:bp}
theorem Mp{D:Nat}(ok:cu M D S)(aM:M.Ok)(r:Run M S es S1)(hl:es.length<=100000):Nx (Nx (Nx (Nx A0))) (.list es):=.inr #[_,.inr Z,hl,λx hx=>(r.ent ok aM x hx).2]
theorem bL.Em(h:bL K C T qn H M n A p S)(b:aX [A.d] H H1):cB K C H1 A.a A.q M S:=by
 have b':aX [A.d,A.e] H H1:=b.mono λx hx=>by rw[bW.mp hx];simp
 erw[h.run.go h.ok.row.no (h.v (b'.mono Ce)) (λo e=>b' _ _ e h.qE.1) (λo e=>b' _ _ e h.qE.2.1)]
theorem bL.brk(h:bL K C T qn H M n A p S)(b:aX [A.d] H H1)(e1:H1 A.d=some (.dK (bT mv lv gv sv (.int S.aE) (.str S.side) (.str S.mark) (.ref A.e) (.int S.dn) .bF cv rv (.ref A.t)))) (hz:H A.d=some (.dK (bT mv lv gv sv (.int S.aE) (.str S.side) (.str S.mark) (.ref A.e) (.int S.dn) bv cv rv (.ref A.t)))/\RD K H mv M.D/\RD K H lv (fF (eR S))/\RD K H gv (fF (cL S))/\bO K H sv S.pc/\wM K H bv cv S.aY/\Bj K H M S rv):cM K H1 A.d A.e A.t M {S with aY:=none}:=by
 have b':aX [A.d,A.e] H H1:=b.mono λx hx=>by rw[bW.mp hx];simp
 have v:=h.v (b'.mono Ce);let(_,r1,r2,r3,r4,r5,r6):=hz;let(ys,eq,rq):=h.sim.qu;have cvI:∃z,cv= .int z:=by cases hs:S.aY with |none=>rw[hs]at r5;erw[r5.2] |some z=>let(sq,st,gn):=z;rw[hs]at r5;let(_,_,_,_,_,g):=r5;erw[_,g]
 erw[#[mv,lv,gv,sv,.bF,cv,rv,e1,RD.v v _ (iE _ _ _ _ _) r1,RD.v v _ (gd _) r2,RD.v v _ (gd _) r3,r4.v v,#[Z,cvI],r6.v v],ys,b _ _ eq (by rw[bW];erw[h.sim.ne.symm]),aO.v v _ h.ok.row.no rq]
theorem bL.Vz(h:bL K C T qn H M n A p S)(b1:aX [A.d] H H1)(Z1:cM K H1 A.d A.e A.t M S1)(R2:cB K C H2 A.a A.q M S1)(b2:aX [A.a] H1 H2)(ok:cu M (64+10*(n+1)) S1)(sm:SM S1)(on:fh M.rs (cL S1)):bL K C T qn H2 M (n+1) A p S1/\aX (T::p::A.all) H H2:=by
 have Xe:aX [A.d,A.e] H H1:=b1.mono λx hx=>by rw[bW.mp hx];simp
 have uq:aX [A.a,A.q] H1 H2:=b2.mono λx hx=>by rw[bW.mp hx];simp
 have bb:aX (T::p::A.all) H H2:=(Xe.mono Ce).trans (uq.mono xk);let(n1,n2,n3,n4,n5,n6):=h.qE;have oq:cm H1 H2:=(h.Em b1).v uq;have dA:A.d∈A.all:=by simp[Ad.all]
 have aA:A.a∈A.all:=by simp[Ad.all]
 have s1:∀{x y:Addr},x≠y->x∉[y]:=λg=>by rw[bW];erw[g]
 have zA:=TabAt.but h.tab b1 (s1 λz=>h.nT (z▸dA)) λx hx φ=>h.tJ x (.tail _ (by rw[bW.mp hx];erw[dA])) φ;have zy:=TabAt.but zA b2 (s1 λz=>h.nT (z▸aA)) λx hx φ e=>by rw[bW.mp hx]at e;let(dx,mv,bv,cA,tv,er,_):=(h.Em b1).ob;rw[er]at e;cases e
 have st:=h.O9 A.q bb (λo e=>uq _ _ (Xe _ _ e n3) n6) (.inl Z) R2 (Z1.go ok.row.no oq (λo e=>uq _ _ e n4) (λo e=>uq _ _ e n5)) ok sm zy on ((h.bu.but b1 (s1 λz=>h.np (z▸dA))).but b2 (s1 λz=>h.np (z▸aA)));erw[st,bb]
end
theorem acT{T p q' x:Addr}{A:Ad}{H:Hp}{o:HO}(hx:x∉T::p::A.all)(nq:q'=A.q\/H q'=none)(e:H x=some o):x∉T::p::({A with q:=q'}:Ad).all:=λm=>by
 simp only[Ad.all,bJ,cD,cX,oh]at m hx;let(h1,h2,h3,h4,h5,h6,h7):=hx;rcases m with z|z|z|z|z|z|z
 ·erw[h1 z]
 ·erw[h2 z]
 ·erw[h3 z]
 ·rcases nq with g|g
  ·erw[h4 (z.trans g)]
  ·rw[z,g]at e;cases e
 ·erw[h5 z]
 ·erw[h6 z]
 ·erw[h7 z]
section
variable {C T:Addr}{qn:Str}{H H' H5 H6 H7 H8:Hp}{M:bP}{n:Nat}{A:Ad}{p l:Addr}{S S':bp}{q':Addr}{us:List V}{es:List ai}
theorem bL.ents(h:bL K C T qn H5 M n A p S)(aM:M.Ok)(R6:cB K C H6 A.a q' M S')(iD:Mv A.a A.q H5 q' H6)(nl:H5 l=none)(dl:H6 l=some (.lst us))(lq:l≠q')(rd:aO K H6 us es)(run:Run M S es S')(Z7:cM K H7 A.d A.e A.t M S')(b7:aX [A.d,A.e] H6 H7)(s8:aH H7 H8)(hn:n<=100): bL K C T qn H8 M (n+1) {A with q:=q'} p S'/\aX (T::p::A.all) H5 H8/\H7 l=some (.lst us)/\aO K H7 us es/\l∉T::p::({A with q:=q'}:Ad).all/\nj K H8 A.t (40+(n+1)) (λy=>(y∈({A with q:=q'}:Ad).all\/y=p)\/y=l):=by
 have JN:=run.ok h.ok aM;let(L7,b57):=h.fin R6 iD.but iD.nq Z7 b7 (JN.mono aw aw) (run.sm h.ok aM h.sm) (by rw[run.goal h.ok aM];erw[h.on]);have lA:l∉T::p::A.all:=λm=>by
  rcases bJ.mp m with z|m
  ·let(ps,e,_):=h.tab
   rw[z,e]at nl;cases nl
  ·erw[h.here l ((bJ.mp m).elim .inr .inl) nl]
 have lA':l∉T::p::({A with q:=q'}:Ad).all:=λm=>by
  simp only[Ad.all,bJ,cD,cX,oh]at m lA;let(h1,h2,h3,h4,h5,h6,h7):=lA;rcases m with z|z|z|z|z|z|z
  ·erw[h1 z]
  ·erw[h2 z]
  ·erw[h3 z]
  ·erw[lq z]
  ·erw[h5 z]
  ·erw[h6 z]
  ·erw[h7 z]
 have wF:aX (T::p::A.all) H5 H8:=λx o e hx=>s8 _ _ (b57 _ _ e hx);erw[L7.same s8,wF,b7 _ _ dl λm=>?_,aO.v (cM.v (h.mid iD.but) b7) _ (run.no h.ok aM) rd,lA',h.told.go aw (h.v wF) (λo e=>s8 _ _ (b7 _ _ (iD.but _ _ e h.qE.2.2.2.2.2) h.qE.2.2.1)) λy kK hx e=>#[wF _ _ e λm=>?_,λz=>?_]]
 ·erw[lA (jf _ (jf _ ?_))]
  simp only[Ad.all,bJ,cD,cX]at m⊢;rcases m with z|z<;>simp[z]
 ·rcases bJ.mp m with z|m
  ·let(ps,e',_):=h.tab
   rw[z,e']at e;cases e
  ·erw[hx ((bJ.mp m).elim .inr .inl)]
 ·rcases z with(z|z)|z
  ·erw[acT (T:=T) (p:=p) (A:=A) (λm=>?_) iD.nq e (jf _ (jf _ z))]
   rcases bJ.mp m with z|m
   ·let(ps,e',_):=h.tab
    rw[z,e']at e;cases e
   ·erw[hx ((bJ.mp m).elim .inr .inl)]
  ·erw[hx (.inr z)]
  ·rw[z,nl]at e;cases e
theorem bL.free(h:bL K C T qn H M n A p S)(To:nj K H A.t (40+n) (λy=>(y∈A.all\/y=p)\/y=l))(hl:l∉T::p::A.all)(el:H l=some (.lst us))(b:aX [l] H H'):bL K C T qn H' M n A p S:=by
 have v:cm H H':=b.v λx hx o eo=>by rw[bW.mp hx,el]at eo;cases eo;trivial
 have k:∀{x},x∈T::p::A.all->x∉[l]:=λhx m=>hl (by rw[<-bW.mp m];erw[hx]);have kA:∀{x},x∈A.all->∀o,H x=some o->H' x=some o:=λhx o e=>b _ _ e (k (jf _ (jf _ hx)));erw[h.run.go h.ok.row.no v (kA (by simp[Ad.all])) (kA (by simp[Ad.all])),h.sim.go h.ok.row.no v (kA (by simp[Ad.all])) (kA (by simp[Ad.all])),h.ok,h.sm,To.go (ck _) v (kA (by simp[Ad.all])) λy kK hx e=>#[b _ _ e λm=>hx (.inr (bW.mp m)),λz=>hx (.inl z)],h.nd,TabAt.but h.tab b (k (.head _)) λx hx φ e=>?_,h.on,h.bu.but b (k (.tail _ (.head _))),h.np];rw[bW.mp hx,el]at e;cases e
theorem bL.tell(h:bL K C T qn H M n A p S)(hl:l∉T::p::A.all)(el:H l=some (.lst us))(res:aO K H us es)(yP:Bu es)(sC:aH H HC)(htt:aV K HC tt us)(KH:aV K HC tp [.ref l,.ref tt])(et:HC A.t=some (.lst ts))(hn:n<=99):bL K C T qn (_L.upd HC A.t (.lst (ts++[.ref tp]))) M (n+1) A p S/\aX (T::p::A.all) H (_L.upd HC A.t (.lst (ts++[.ref tp]))):=by
 have LC:=(h.same sC).mono (Nat.le_succ n) aw;let(t0,e0,l0,ht):=(h.same sC).told;rw[et]at e0;cases e0;have vD:cm HC (_L.upd HC A.t (.lst (ts++[.ref tp]))):=.upd et trivial;have bD:aX [A.t] HC (_L.upd HC A.t (.lst (ts++[.ref tp]))):=o8 (by simp);have eD:(_L.upd HC A.t (.lst (ts++[.ref tp]))) A.t=some (.lst (ts++[.ref tp])):=bo;have tA:A.t∈A.all:=by simp[Ad.all]
 generalize _L.upd HC A.t (.lst (ts++[.ref tp]))=HD at vD bD eD⊢;have s1:∀{x:Addr},x≠A.t->x∉[A.t]:=λg=>by rw[bW];erw[g]
 have nd:=h.nd;simp only[Ad.all,nv,bJ,cD,cX,oh]at nd;let((t1,t2,t3,t4),(t5,t6,t7),(t8,t9),sN,_):=nd;have no:=LC.ok.row.no;erw[#[LC.run.go no vD (λo e=>bD _ _ e (s1 t4)) (λo e=>bD _ _ e (s1 t7)),LC.sim.go no vD (λo e=>bD _ _ e (s1 t9)) (λo e=>bD _ _ e (s1 sN)),LC.ok,LC.sm,#[ts++[.ref tp],eD,by rw[fN];show ts.length+1<=_;lia,λy hy=>?_],LC.nd,TabAt.but LC.tab bD (s1 λz=>LC.nT (by rw[z];erw[tA])) λx hx φ=>LC.tJ x (jf _ (by rw[bW.mp hx];erw[tA])) φ,LC.on,LC.bu.but bD (s1 λz=>LC.np (by rw[z];erw[tA])),LC.np],λx o e hx=>bD _ _ (sC _ _ e) (s1 λz=>hx (by rw[z];erw[jf _ (jf _ tA)]))];rcases wW.mp hy with hy|hy
 ·let(p0,l0',ta,u0,e0,h1,h2,h3,h4,h5,h6,h7):=ht y hy
  erw[p0,l0',ta,u0,e0,h1,aV.v vD h2,bD _ _ h3 (s1 λz=>h7 (.inl (by rw[z];erw[tA]))),aV.v vD h4,aO.v vD _ h6.2.2 h5,h6,h7]
 ·rw[bW]at hy
  erw[tp,l,tt,us,es,hy,aV.v vD KH,bD _ _ (sC _ _ el) (s1 λz=>hl (by rw[z];erw[jf _ (jf _ tA)])),aV.v vD htt,aO.v vD _ yP.2.2 (aO.mono sC _ res),yP,λz=>hl (z.elim (λz=>jf _ (jf _ z)) λz=>by rw[z];erw[.tail _ (.head _)])]
end
theorem Uq{M:bP}{ms:List Int}{sp:Int}(JM:fM M.rs.length 100 ms)(hZ:1<=sp)(iY:sp<=20):nk M.rs.length (iP ms sp) (some (ms,sp)):=#[.inl #[ms,sp,Z,Z],λn' s' e=>by cases e;erw[JM,hZ,iY],λe=>by cases e]
theorem a6p(h:rO d):nk n d none:=#[h.it,(λ_ _ e=>nomatch e),λ_=>h]
end
end _c
set_option maxHeartbeats 2000000
namespace _c
open PySem PySem.Spec PyProof.Rows _L _r _l _C _P _W _R
open _O (topR cornO mnO betR atO ownF leadF ownL OkI OkIs)
section
def nX(S:bp):bp:={S with pl:=eR S,dn:=0,ds:=[],os:=[]}
theorem cu.drop{D:Nat}(h:cu M D S):cu M D (nX S):=#[.nil,λi d e=>by simp[nX]at e,by simp[nX],h.dG,h.dN,.inl rfl,Jx h,h.pd,h.pm,h.aY,h.D1,h.D2]
theorem V7{t:_R.gO}:(t.isSome&&decide (pc=0))=true↔Halt pc t:=by unfold Halt;cases t with |none=>simp |some z=>simp
theorem Qn:bN ["self","dropped"] ["self"] (bj HN):=bZ bf
inductive aee(K:aa)(C:Addr)(R:iT)(vs:List V)(H:Hp)(Q:VK)(E:XK):Prop |mk (a:_)(q:_)(M:_)(D:_)(S:_)(h0:vs=[.ref a])(h1:cB K C H a q M S)(h2:cu M D S)(h3:M.Ok)(h4:(¬Halt S.pc S.aY->∀H',aH H H'->E (.ref R.m) none H'))(h5:(Halt S.pc S.aY->∀q' H',cB K C H' a q' M (nX S)->H q'=none->aX [a] H H'->Q (.int (S.ds.length:Nat)) H'))
def Cq(K:aa)(C:Addr)(R:iT):Sp:=λvs H Q E=>aee K C R vs H Q E
theorem a3J(F:MA K C "drop" "Runner.drop" HN)(TC:fX K C)(B:cn mg)(LR:Exc K mg "Moving" R.m mI mU)(AJ:cS P w K mg aB C "is_halted" 2 (fu K C λ_ S H Q=>Q (.bl (S.aY.isSome&&decide (S.pc=0))) H))(LK:cS P w K mg aB C "place" 3 (fu K C λ_ S H Q=>∀v H',RD K H' v (fF (eR S))->aH H H'->Q v H')):rP P w K mg aB C "drop" 5 (Cq K C R):=by
 erw[F.Ls Qn (λvs H Q E h=>?_) (λ_ _ _ _ _ _=>fj λ_=>rfl) (λf aQ A outer s H vs Q E hr h=>?_)]
 ·let(a,q,M,D,S,rfl,_):=h
  rfl
 ·let(a,q,M,D,S,rfl,Ra,ok,aM,k1,k2):=h
  let(dx,mv,bv,cA,tv,e,r1,r2,r3,r4):=Ra.ob;let(ys,eq,rq):=Ra.qu;have aq:=Ra.ne;have nd:=Qn.nd;have ly:=rq.length;erw[_,(aG (bQ (dX (cP (gu AJ TC.cl (hr.mono aD) (pv 0)))) (aI (CW (λ_ _ _ _ _ _ _ I m q=>BU I m q) LR Nv hr.hd Z (au bh az))) bV) (aG (pS 1 nd (eK K B (au (dj TC.cl TC.ja (pv 0)) az))) (aG (ij TC.cl TC.vq (pv 0) (gu LK TC.cl (hr.mono aD) (pv 0))) (aG (ij TC.cl TC.oQ (pv 0) aF) (aG (ij TC.cl TC.ja (pv 0) (dC az)) (aI (aZ (pv 1)))))))),?_];erw[_,Z,a,dx,_,Z,e,Z,a,q,M,D,S,Z,Ra,ok,aM,_,Z,?_];cases hh:(S.aY.isSome&&decide (S.pc=0))with |false=>erw[cx #[bU Z,k1 (λz=>by rw[V7.mpr z]at hh;cases hh) _ (aH.refl _)]] |true=>
   erw[bK ?_];have hH:=V7.mp hh;erw[_,Z,a,dx,_,_,Z,e,Z,q,_,Z,.inl (aK.of eq),?_];erw[_,Z,a,dx,_,Z,e,Z,a,q,M,D,S,Z,Ra,ok,aM,λu H1 ru s1=>?_];have e1:=s1 _ _ e;erw[_,Z,a,dx,_,Z,e1,by show 9<1000;decide,?_];erw[_,Z,a,dx,_,Z,bo,by show 9<1000;decide,?_];erw[bU Z,λq' H2 n2=>?_];have e2:=n2.same _ _ (bo (a:=a));erw[_,Z,a,dx,_,Z,e2,by show 9<1000;decide,?_];have uu:a≠q':=λz=>by have:=n2.no;rw[<-z,bo]at this;cases this
   have key:∀X:Hp,(∀b,b≠a->X b=H2 b)->Q (.int (S.ds.length:Nat)) (_L.upd X a (.ins C dx (gc mv u (.int 0) (.ref q') cA (.int S.aE) (.str S.side) (.str S.mark) tv))):=by
    intro X hX;have AN:∀b o',b≠a->H1 b=some o'->H2 b=some o':=λb o' ha eb=>n2.same _ _ (by rw[aR ha,aR ha];erw[eb]);have bt:aX [a] H (_L.upd X a (.ins C dx (gc mv u (.int 0) (.ref q') cA (.int S.aE) (.str S.side) (.str S.mark) tv))):=λb o' eb hb=>by have ha:b≠a:=λz=>hb (by rw[z];erw[.head _]);rw[aR ha,hX b ha];erw[AN _ _ ha (s1 _ _ eb)]
    have sv:=bt.v λx hx o' eo=>by rw[bW]at hx;rw[hx,e]at eo;cases eo;trivial
    have xj:cm H1 (_L.upd X a (.ins C dx (gc mv u (.int 0) (.ref q') cA (.int S.aE) (.str S.side) (.str S.mark) tv))):=λb o' nb eb=>by
     have ha:b≠a:=λz=>by rw[z,e1]at eb;cases eb;erw[nb trivial]
     rw[aR ha,hX b ha];erw[AN _ _ ha eb]
    erw[k2 hH q' _ #[#[dx,mv,u,cA,tv,bo,RD.v sv _ (iE _ _ _ _ _) r1,RD.v xj _ (gd _) ru,r3.v sv,r4.v sv],[],?_,dc] ?_ bt]
    ·rw[aR uu.symm,hX q' uu.symm];erw[n2.at']
    ·cases e':H q' with |none=>rfl |some o'=>have h1:=s1 _ _ e';have h2:=n2.no;rw[aR uu.symm,aR uu.symm,h1]at h2;cases h2
   erw[_,Z,?_];rw[ly];erw[key _ (λb hb=>rfl)]
inductive adX(K:aa)(vs:List V)(H:Hp)(Q:VK):Prop |mk (d:_)(q:_)(td:_)(M:_)(D:_)(S:_)(h0:vs=[.ref d])(h1:cM K H d q td M S)(h2:cu M D S)(h3:M.Ok)(h4:(¬Halt S.pc S.aY->∀H',aH H H'->Q (.str "moving") H'))(h5:(Halt S.pc S.aY->∀q' H',cM K H' d q' td M (nX S)->H q'=none->aX [d] H H'->Q (.int (S.ds.length:Nat)) H'))
def OY(K:aa):Sp:=λvs H Q _=>adX K vs H Q
theorem a2b(S:bp):eR (nX S)=eR S:=by show(if(0:Nat)=0 then eR S else _)=_;erw[bE rfl]
theorem Q9:bN ["_law_sim_here","_law_many"] ["_law_sim_here"] (bj Hf):=bZ bf
theorem a3l(F:FA K mg "_law_sim_drop" Hf)(B:cn mg):aJ P w K mg aB "_law_sim_drop" 1 (OY K):=by
 erw[F.has Q9 (λvs H Q E h=>?_) (λ_ _ _ _ _ _=>fj λ_=>rfl) (λf aQ A outer s H vs Q E hr h=>?_)]
 ·let(d,q,td,M,D,S,rfl,_):=h
  rfl
 ·let(d,q,td,M,D,S,rfl,R,ok,aM,k1,k2):=h
  let(mv,lv,gv,sv,bv,cv,rv,e,r1,r2,r3,r4,r5,r6):=R.ob;let(ys,eq,rq):=R.qu;have dq:=R.ne;have nd:=Q9.nd;have ly:=rq.length;erw[_,(aG (bQ (PW.pt (kM (cy JJ (cR hr (pv 0) bh) j7 (bM _)) (lK (cy (jy K Z hr.units) (cR hr (pv 0) bh) (cQ (au aF (au aF az))) (bM _))))) (aI (aZ bh)) bV) (aG (pS 1 nd (eK K B (au (cR hr (pv 0) bh) az))) (aG (fP (cQ (au (dC az) (au (cR hr (pv 0) bh) az))) (eg K Z (n:=2) Z (cf (j4 (pv 0) bh (set_dict (fi hr.units))) (cf (j4 (pv 0) bh (set_dict (fi hr.units))) dZ)))) (aG (fP (cQ (au aF (au j7 az))) (eg K Z (n:=2) Z (cf (j4 (pv 0) bh (set_dict (fi hr.units))) (cf (j4 (pv 0) bh (set_dict (fi hr.units))) dZ)))) (aI (aZ (pv 1))))))),?_];erw[_,Z,d,_,Z,dg e yE,Z,_,Z,?_];cases hs:S.aY with |none=>rw[hs]at r5;rw[r5.1];erw[cx (k1 (λz=>z.1 hs) _ (aH.refl _))] |some z=>
   have hb:bv≠ .bF:=by let(sq,st,gn):=z;rw[hs]at r5;let(_,_,rfl,_):=r5;intro g;cases g
   rw[fo hb];erw[bK ?_];erw[_,Z,d,_,Z,dg e qT,bU Z,λtz H1 n1=>?_];erw[.inr #[dk S.pc,dk 0,(r4.go n1.same).rd,(qD (aV.of n1.at')).rd,Z,Z,_,Z,?_]];rw[CS];by_cases hp:S.pc=0
   ·rw[cU hp]
    erw[bK ?_];have e1:=n1.same _ _ e;have eq1:=n1.same _ _ eq;erw[_,Z,d,_,Z,dg e1 mE,q,ys,Z,.inl (aK.of eq1),?_];erw[bU Z,λq' H2 n2=>?_];have e2:=n2.same _ _ e1;erw[_,Z,d,_,Z,dg e2 LV,bU Z,λt3 H3 n3=>?_];have e3:=n3.same _ _ e2;erw[t3,_,Z,aV.of n3.at',Z,_,_,Z,_,Z,d,_,Z,dp e3 a2E iC,_,_,Z,_,Z,d,_,Z,dp bo Sr iC,Z,?_];erw[bU Z,λt4 H4 n4=>?_];erw[t4,_,Z,aV.of n4.at',Z,_,_,Z,_,Z,d,_,Z,dp (n4.same _ _ bo) JE iC,_,_,Z,_,Z,d,_,Z,dp bo xP iC,Z,?_];erw[_,Z,?_];have We:d≠q':=λz=>by have:=n2.no;rw[<-z,e1]at this;cases this
    have jY:∀b o',b≠d->H2 b=some o'->H4 b=some o':=λb o' hb eb=>n4.same _ _ (by rw[aR hb,aR hb];erw[n3.same _ _ eb]);have key:∀X:Hp,(∀b,b≠d->X b=H4 b)->X d=some (.dK (bT mv lv lv sv (.int S.aE) (.str S.side) (.str S.mark) (.ref q') (.int 0) bv cv .bF (.ref td)))->Q (.int (S.ds.length:Nat)) X:=by
     intro X hX eX;have bt:aX [d] H X:=λb o' eb hb=>by have hd:b≠d:=λz=>hb (by rw[z];erw[.head _]);rw[hX b hd];erw[jY _ _ hd (n2.same _ _ (n1.same _ _ eb))]
     have v0:cm H X:=bt.v λx hx o' eo=>by rw[bW.mp hx,e]at eo;cases eo;trivial
     erw[k2 #[by rw[hs];simp,hp] q' X #[#[mv,lv,lv,sv,bv,cv,.bF,eX,RD.v v0 _ (iE _ _ _ _ _) r1,?_,RD.v v0 _ (gd _) r2,r4.v v0,r5.v v0,.inl rfl],[],?_,dc] ?_ bt]
     ·rw[a2b];erw[RD.v v0 _ (gd _) r2]
     ·rw[hX q' We.symm];erw[jY _ _ We.symm n2.at']
     ·cases e':H q' with |none=>rfl |some o'=>have h2:=n2.no;rw[n1.same _ _ e']at h2;cases h2
    rw[ly];erw[key _ (λb hb=>by rw[aR hb,aR hb]) bo]
   ·rw[fo hp]
    erw[cx (k1 (λz=>hp z.2) _ n1.same)]
end
end _c
set_option maxHeartbeats 4000000
namespace _c
open PySem PySem.Spec PyProof.Rows _L _r _l _C _P _W _R
open _O (topR cornO mnO betR atO ownF leadF ownL OkI OkIs)
section
theorem Tf{q k:Int}(hq:0<q)(hk:0<=k)(yu:k<=q)(hz:0<=z):0<=fU (k*z) q/\fU (k*z) q<=z:=by
 have hp:0<=k*z:=ki hk hz;erw[a4P hq hp,?_];have h1:k*z<=q*z:=NN yu hz;unfold fU;rw[bE hp];let(a,_):=Pt (p:=k*z) hq;have e:(((k*z).natAbs:Nat):Int)=k*z:=Ya hp;rw[e]at a;by_cases hh:jv (k*z) q<=z
 ·erw[hh]
 ·exfalso
  have h2:z+1<=jv (k*z) q:=by lia
  have h3:q*(z+1)<=q*jv (k*z) q:=NO h2 (FJ hq);have h4:q*(z+1)=q*z+q:=by rw[Int.mul_add,Int.mul_one]
  have h5:2*q*jv (k*z) q=2*(q*jv (k*z) q):=by rw[uG]
  rw[h5]at a
  lia
theorem a4S{q k:Int}(hq:0<q)(hk:0<=k)(yu:k<=q)(a0:0<=a)(a1:a<=r)(b0:0<=a+z)(b1:a+z<=r):0<=a+fU (k*z) q/\a+fU (k*z) q<=r:=by
 by_cases hz:0<=z
 ·have:=Tf hq hk yu hz
  lia
 ·have h:=Tf (z:=-z) hq hk yu aw
  rw[show k*-z=-(k*z) by rw[Int.mul_neg],a4Q hq]at h
  lia
theorem a2W{pl:List Int}{k:Int}(hn:ns.length=pl.length)(hq:0<(aP ns:Int))(hk:0<=k)(yu:k<=aP ns)(h0:fh rs pl)(h1:fh rs (fg pl ns)):fh rs (fg pl (gQ ns k)):=by
 have ls:(gQ ns k).length=pl.length:=by unfold gQ;rw[cJ];erw[hn]
 erw[by rw[rK ls];erw[h0.len],λi x r e1 e2=>?_];have hi:i<rs.length:=(eQ.mp e2).1;have hip:i<pl.length:=by rw[h0.len];erw[hi]
 obtain⟨a,ea⟩:∃a,pl[i]? =some a:=#[_,cC hip];obtain⟨z,ez⟩:∃z,ns[i]? =some z:=#[_,cC (show i<ns.length by lia)];have es:(gQ ns k)[i]? =some (fU (k*z) (aP ns)):=by unfold gQ;rw[cV,ez];rfl
 rw[Bf ea es]at e1;cases e1;have p0:=h0.at' i a r ea e2;have p1:=h1.at' i (a+z) r (Bf ea ez) e2;erw[a4S hq hk yu p0.1 p0.2 p1.1 p1.2]
def fk(M:bP)(S:bp):Prop:=∀i,i<=S.os.length->fh M.rs ((S.os.take i).foldl gz S.pl)
theorem fk.goal(h:fk M S):fh M.rs (cL S):=by have:=h S.os.length (ck _);rw[wV]at this;erw[this]
theorem fk.pl(h:fk M S):fh M.rs S.pl:=h 0 (gK _)
theorem fk.eq(h:fk M S)(e1:S'.os=S.os)(e2:S'.pl=S.pl):fk M S':=by unfold fk;rw[e1,e2];erw[h]
theorem fk.AV(h:fk M S)(ho:fh M.rs (gz (cL S) o)):fk M (mF S d o):=λi hi=>by
 show fh M.rs (((S.os++[o]).take i).foldl gz S.pl);have E4:i<=S.os.length+1:=by
  have:(mF S d o).os.length=S.os.length+1:=by show(S.os++[o]).length=_;rw[fN];rfl
  lia
 by_cases hl:i<=S.os.length
 ·rw[List.take_append_of_le_length hl]
  erw[h i hl]
 ·rw[Fy (by rw[fN];show S.os.length+1<=i;lia),Y7]
  erw[ho]
theorem fk.end(h:fk M S):fk M (je S):=by unfold je;cases e:S.os with |nil=>erw[h] |cons o os=>intro i hi;have:=h (i+1) (by rw[e];erw[Y2 hi]);rw[e]at this;erw[this]
theorem fk.place{D:Nat}(ok:cu M D S)(h:fk M S):fh M.rs (eR S):=by
 by_cases h0:S.dn=0
 ·unfold eR
  rw[bE h0];erw[h.pl]
 ·let(ns,sp,eo,hd):=ok.first h0
  have fA:=(ok.row.ok 0 ns sp eo).1;unfold eR;rw[bI h0,eo];have lp:=fA.lead.1;have h1:=h 1 (by have:=(eQ.mp eo).1;lia);have e1:(S.os.take 1).foldl gz S.pl=fg S.pl ns:=by cases e:S.os with |nil=>rw[e]at eo;simp at eo |cons o os=>rw[e]at eo;cases(fe eo);rfl
  rw[e1]at h1;erw[a2W (by rw[fA.len];erw[h.pl.len.symm]) aw aw aw h.pl h1]
theorem fk.drop{D:Nat}(ok:cu M D S)(h:fk M S):fk M (nX S):=λi hi=>by have:i=0:=Nat.le_zero.mp hi;rw[this];erw[h.place ok]
theorem One.qz{D:Nat}(ok:cu M D S)(o:One M S e S1)(h:fk M S):fk M S1:=by cases o with
 |@line ns sp eo nh=>
  have h1:fk M (gj M S ns sp):=h.eq Z rfl;unfold gf;split
  ·erw[h1.end]
  ·erw[h1] |iL eo ed nh=>let(_,e1,_,_,e2):=Cy ok.raw e;exact(h.eq e1 e2).end
theorem Run.qz{D:Nat}(ok:cu M D S)(aM:M.Ok)(r:Run M S es S1)(h:fk M S):fk M S1:=by induction r with |nil=>erw[h] |cons o _ ih=>erw[ih (One.ok ok aM o) (o.qz ok h)]
theorem a7k(h:fk M S):fk M (jD M S):=by
 unfold jD;split
 ·erw[h]
 ·erw[h]
def Ad.qe(A:Ad)(q' e':Addr):Ad:=#[A.a,q',A.d,e',A.t]
section
variable {C T:Addr}{qn:Str}{H H1 H2:Hp}{M:bP}{n:Nat}{A:Ad}{p:Addr}{S S1:bp}{q' e':Addr}
theorem Jq(m:x∈(A.qe q' e').all):x∈A.all\/x=q'\/x=e':=by simp only[Ad.all,Ad.qe,bJ,cD,cX]at m⊢;rcases m with z|z|z|z|z<;>simp[z]
theorem bL.drop(h:bL K C T qn H M n A p S)(R1:cB K C H1 A.a q' M S1)(b1:aX [A.a] H H1)(nq:H q'=none)(Z2:cM K H2 A.d e' A.t M S1)(b2:aX [A.d] H1 H2)(ne:H1 e'=none)(ok:cu M (64+10*(n+1)) S1)(sm:SM S1)(on:fh M.rs (cL S1)):bL K C T qn H2 M (n+1) (A.qe q' e') p S1/\aX (T::p::A.all) H H2:=by
 have aA:A.a∈A.all:=by simp[Ad.all]
 have dA:A.d∈A.all:=by simp[Ad.all]
 have tA:A.t∈A.all:=by simp[Ad.all]
 have s1:∀{x y:Addr},x≠y->x∉[y]:=λg=>by rw[bW];erw[g]
 have bb1:aX (T::p::A.all) H H1:=b1.mono λx hx=>by rw[bW.mp hx];erw[.tail _ (.tail _ aA)]
 have bb2:aX (T::p::A.all) H1 H2:=b2.mono λx hx=>by rw[bW.mp hx];erw[.tail _ (.tail _ dA)]
 have bb:aX (T::p::A.all) H H2:=bb1.trans bb2;have nd:=h.nd;simp only[Ad.all,nv,bJ,cD,cX,oh]at nd;let((t1,t2,t3,t4),(t5,t6,t7),(t8,t9),sN,_):=nd;have agR:=λx hx=>h.here x hx;have EH:∃o,H1 A.d=some o/\Bv o:=by let(o,eo,c,_):=h.kind A.d dA;erw[o,b1 _ _ eo (s1 (dy t2)),c]
 have oq:cm H1 H2:=b2.v λx hx o eo=>by let(o',e',c):=EH;rw[bW.mp hx,e']at eo;cases eo;erw[c]
 have Th:H e'=none:=by cases e:H e' with |none=>rfl |some o=>
  by_cases z:e'=A.a
  ·let(dx,mv,bv,cA,tv,e,_):=R1.ob
   rw[z,e]at ne;cases ne
  ·rw[b1 _ _ e (s1 z)]at ne;cases ne
 have q1:H1 q'≠none:=by let(ys,e,_):=R1.qu;rw[e];simp
 have qe:q'≠e':=λz=>q1 (by rw[z];erw[ne]);have A8:∀{x},x∈A.all\/x=p->x≠q':=λhx z=>h.here _ hx (by rw[z];erw[nq]);have Dj:∀{x},x∈A.all\/x=p->x≠e':=λhx z=>h.here _ hx (by rw[z];erw[Th]);have qd:q'≠A.d:=λz=>A8 (.inl dA) z.symm;have zA:=TabAt.but h.tab b1 (s1 λz=>h.nT (z▸aA)) λx hx φ=>h.tJ x (.tail _ (by rw[bW.mp hx];erw[aA])) φ;have zy:=TabAt.but zA b2 (s1 λz=>h.nT (z▸dA)) λx hx φ e=>by let(o',e',c):=EH;rw[bW.mp hx,e']at e;cases e;erw[c]
 erw[#[R1.go ok.row.no oq (λo e=>b2 _ _ e (s1 t2)) (λo e=>b2 _ _ e (s1 qd)),Z2,ok,sm,?_,?_,zy,on,(h.bu.but b1 (s1 λz=>h.np (z▸aA))).but b2 (s1 λz=>h.np (z▸dA)),?_],bb]
 ·erw[h.told.go aw (h.v bb) (λo e=>b2 _ _ (b1 _ _ e (s1 (dy t4))) (s1 (dy t9))) λl us hx e=>#[bb _ _ e λm=>?_,λz=>?_]]
  ·rcases bJ.mp m with z|m
   ·let(ps,e',_):=h.tab
    rw[z,e']at e;cases e
   ·erw[hx ((bJ.mp m).elim .inr .inl)]
  ·rcases z with z|z
   ·rcases Jq z with z|z|z
    ·erw[hx (.inl z)]
    ·rw[z,nq]at e;cases e
    ·rw[z,Th]at e;cases e
   ·erw[hx (.inr z)]
 ·have a1:=A8 (.inl aA)
  have a2:=Dj (.inl aA);have a3:=A8 (.inl dA);have a4:=Dj (.inl dA);have a5:=A8 (.inl tA);have a6:=Dj (.inl tA);simp only[Ad.all,Ad.qe,nv,bJ,cD,cX,oh,List.nodup_nil,not_false_eq_true,and_true];erw[#[a1,t2,a2,t4],#[dy a3,qe,dy a5],#[a4,t9],dy a6]
 ·intro z
  rcases Jq z with z|z|z
  ·erw[h.np z]
  ·erw[A8 (.inr Z) z]
  ·erw[Dj (.inr Z) z]
theorem a1s{q:Str}(L:uy s'.heap H (dJ outer) f pr b sc q c cl)(hc:H c=some (.ext (jH c q)))(CA:pN s'.heap H (dJ outer) cl N [.ref A.a])(hN:N.length=1)(Sc:rQ N sc)(hb:∀pm cd ct,bindArgs (PySem.W.kla_fn "<lambda>" q pr b sc cl pm cd ct) #[[],[]]=pure []) (Ay:∀(A:aj)(outer:List Env)(s:ae)(H:Hp)(E:XK),dh 5 (A.deeper (PySem.W.envX q sc s.heap.objs.size f (.ref c) cl))->PE (oW (jI P w) P w K mg aB N q sc f (.ref c) cl A outer s H E) b (sL C "drop" (Cq K C R) E (lH 0) jM)) (h:bL K C T qn H M n A p S)(aM:M.Ok)(kf:¬Halt S.pc S.aY->∀H2,aH H H2->Q (.str "moving") H2)(kd:Halt S.pc S.aY->∀q' H2,cB K C H2 A.a q' M (nX S)->H q'=none->aX [A.a] H H2->Q (.int (S.ds.length:Nat)) H2):xo P w K mg aB R 5 outer s' [.ref f] H Q E:=by let(dx,mv,bv,cA,tv,e,_):=h.run.ob;erw[f,c,cl,pr,b,sc,q,N,_,λE=>sL C "drop" (Cq K C R) E (lH 0) jM,Z,L,hc,CA,hN.symm,Sc,hb,Ay,?_];erw[_,Z,A.a,dx,_,Z,e,Z,A.a,A.q,M,_,S,Z,h.run,h.ok,aM,λhn H2 s2=>#[R.m,_,_,_,3,"moving",.m,Z,λH3 s3=>kf hn _ (s2.trans s3)],kd]
end
structure g9(T p:Addr)(A A':Ad)(H H':Hp):Prop where
 a:A'.a=A.a
 d:A'.d=A.d
 but:aX (T::p::A.all) H H'
 nw:∀x∈A'.all,x∈A.all\/H x=none
theorem g9.of(b:aX (T::p::A.all) H H'):g9 T p A A H H':=#[Z,Z,b,λ_ m=>.inl m]
theorem g9.q(b:aX (T::p::A.all) H H')(nq:q'=A.q\/H q'=none):g9 T p A {A with q:=q'} H H':=#[Z,Z,b,λx m=>by
 simp only[Ad.all,bJ,cD,cX]at m⊢;rcases m with z|z|z|z|z
 ·simp[z]
 ·rcases nq with g|g
  ·simp[z,g]
  ·erw[.inr (by rw[z];erw[g])]
 ·simp[z]
 ·simp[z]
 ·simp[z]]
theorem g9.same(m:g9 T p A A' H H')(s:aH H' H2):g9 T p A A' H H2:=#[m.a,m.d,λx o e hx=>s _ _ (m.but _ _ e hx),m.nw]
theorem g9.off(m:g9 T p A A' H H')(hx:x∉T::p::A.all)(e:H x=some o):x∉T::p::A'.all:=λh=>by
 rcases bJ.mp h with z|h
 ·erw[hx (by rw[z];erw[.head _])]
 ·rcases bJ.mp h with z|h
  ·erw[hx (by rw[z];erw[.tail _ (.head _)])]
  ·rcases m.nw x h with z|z
   ·erw[hx (.tail _ (.tail _ z))]
   ·rw[z]at e;cases e
theorem g9.trans(L:bL K C T qn H1 M n A1 p S1)(m1:g9 T p A A1 H H1)(m2:g9 T p A1 A2 H1 H2):g9 T p A A2 H H2:=by
 erw[m2.a.trans m1.a,m2.d.trans m1.d,λx o e hx=>m2.but _ _ (m1.but _ _ e hx) (m1.off hx e),λx hx=>?_];rcases m2.nw x hx with z|z
 ·erw[m1.nw x z]
 ·cases e:H x with |none=>erw[.inr rfl] |some o=>
  by_cases h:x∈T::p::A.all
  ·rcases bJ.mp h with g|h
   ·let(ps,et,_):=L.tab
    rw[g,et]at z;cases z
   ·rcases bJ.mp h with g|h
    ·erw[absurd z (L.here x (.inr g))]
    ·erw[.inl h]
  ·rw[m1.but _ _ e h]at z;cases z
theorem wD{T p:Addr}{A:Ad}{H H':Hp}(b:bS p H H'):aX (T::p::A.all) H H':=λx o e hx=>b.same x o (λz=>hx (by rw[z];simp)) e
theorem bL.dropped(h:bL K C T qn H M n A p S)(R1:cB K C H1 A.a q' M (nX S))(b1:aX [A.a] H H1)(nq:H q'=none)(Z2:cM K H2 A.d e' A.t M (nX S))(b2:aX [A.d] H1 H2)(ne:H1 e'=none)(on:fk M S)(hn:n<=100):bL K C T qn H2 M (n+1) (A.qe q' e') p (nX S)/\g9 T p A (A.qe q' e') H H2:=by
 let(L,b):=h.drop R1 b1 nq Z2 b2 ne (h.ok.drop.mono aw aw) h.sm (on.drop h.ok).goal;erw[L,Z,Z,b,λx m=>?_];rcases Jq m with z|z|z
 ·erw[.inl z]
 ·erw[.inr (by rw[z];erw[nq])]
 ·erw[.inr ?_]
  rw[z];cases e:H e' with |none=>rfl |some o=>
   by_cases z:e'=A.a
   ·let(dx,mv,bv,cA,tv,e,_):=R1.ob
    rw[z,e]at ne;cases ne
   ·rw[b1 _ _ e (by rw[bW];erw[z])]at ne;cases ne
end
section
def Ev(K:aa)(G:_L.St->Hp->Prop)(t:TE)(d:ai):Prop:=∀O H Q,G O H->(∀v H',RD K H' v d->aH H H'->Q v H')->t O H Q
def Bt(K:aa)(G:_L.St->Hp->Prop)(t:TA)(ds:List ai):Prop:=∀O H Q,G O H->(∀vs H',aO K H' vs ds->aH H H'->Q vs H')->t O H Q
def N3(G:_L.St->Hp->Prop):Prop:=∀O H H',G O H->aH H H'->G O H'
section
variable {G:_L.St->Hp->Prop}{t t1 t2:TE}{ta:TA}{d:ai}{ds ds1 ds2:List ai}
theorem rn(i:Int):Ev K G (tC (.int i)) (.int i):=λ_ _ _ _ k=>k _ _ (cF i) (aH.refl _)
theorem VI(i:Str):Ev K G (tC (.str i)) (.str i):=λ_ _ _ _ k=>k _ _ (df i) (aH.refl _)
theorem VM(i:Bool):Ev K G (tC (.bl i)) (.bool i):=λ_ _ _ _ k=>k _ _ (m4 i) (aH.refl _)
theorem aaW:Ev K G (tC .bF) .none:=λ_ _ _ _ k=>k _ _ RV (aH.refl _)
theorem aaX(i:Int):Ev K G (C9 (rU λi=>.int (-i)) (tC (.int i))) (.int (-i)):=λ_ _ _ _ k=>#[_,Z,k _ _ (cF _) (aH.refl _)]
theorem VH(h:∀O H,G O H->∃v,O[i]? =some (some v)/\RD K H v d):Ev K G (lH i) d:=λO H _ g k=>by let(v,e,r):=h O H g;erw[v,e,k _ _ r (aH.refl _)]
theorem rj:Bt K G jM []:=λ_ _ _ _ k=>k _ _ dc (aH.refl _)
theorem gk(hG:N3 G)(h1:Ev K G t d)(h2:Bt K G ta ds):Bt K G (sM t ta) (d::ds):=λO H _ g k=>h1 O H _ g λ_ H1 r1 s1=>h2 O H1 _ (hG _ _ _ g s1) λ_ _ r2 s2=>k _ _ (cj (RD.mono s2 _ r1) r2) (s1.trans s2)
theorem yN(h:Bt K G ta ds)(hl:autoParam (Nat.ble ds.length 1000=true) r8_._auto_1):Ev K G (G4 ta) (.tuple ds):=λO H _ g k=>h O H _ g λ_ _ r s=>#[by rw[r.length];erw[iK (NF hl) aD],λ_ _ nw=>k _ _ (gR (aV.of nw.at') (aO.mono nw.same _ r)) (s.trans nw.same)]
theorem Mj(h:Bt K G ta ds)(hl:autoParam (Nat.ble ds.length 1000=true) r8_._auto_1):Ev K G (Ot ta) (.list ds):=λO H _ g k=>h O H _ g λ_ _ r s=>#[by rw[r.length];erw[iK (NF hl) aD],λ_ _ nw=>k _ _ (jO (aK.of nw.at') (aO.mono nw.same _ r)) (s.trans nw.same)]
end
theorem aaY{t:TE}{D:Ends}(h:Ev K G t d)(g:G O H)(k:∀v H',RD K H' v d->aH H H'->rest D (O.set i (some v)) H'):uN (xi t (fK i)) rest D O H:=h O H _ g k
end
section
theorem a1z(h:mS d=true):∃aE:Int,d= .int aE/\10<=aE/\aE<=200:=by cases d with |int i=>have h:(decide (10<=i)&&decide (i<=200))=true:=h;rw[fD,pP,pP]at h;erw[i,Z,h] |_=>cases h
inductive ae3(K:aa)(C:Addr)(R:iT)(vs:List V)(H:Hp)(Q:VK)(E:XK):Prop |mk (a:_)(q:_)(M:_)(D:_)(S:_)(v:_)(d:_)(h0:vs=[.ref a,v])(h1:cB K C H a q M S)(h2:cu M D S)(h3:M.Ok)(h4:RD K H v d)(h5:(mS d=false->∀H',aH H H'->E (.ref R.r) none H'))(h6:(mS d=true->S.pc≠0->∀H',aH H H'->E (.ref R.m) none H'))(h7:(∀aE,d= .int aE->10<=aE->aE<=200->S.pc=0->∀H',cB K C H' a q M {S with aE:=aE}->aX [a] H H'->Q (.int aE) H'))
def Co(K:aa)(C:Addr)(R:iT):Sp:=λvs H Q E=>ae3 K C R vs H Q E
theorem a3o(F:MA K C "turn_rate" "Runner.turn_rate" CC)(TC:fX K C)(a96:Exc K mg "NoRate" R.r mI mU)(LR:Exc K mg "Moving" R.m mI mU)(AB:aJ P w K mg aB "is_rate" 3 (zH K))(wa:cS P w K mg aB C "stands" 1 (fu K C λ_ S H Q=>Q (.bl (decide (S.pc=0))) H)):rP P w K mg aB C "turn_rate" 5 (Co K C R):=by
 erw[F.Ls Qe (λvs H Q E h=>?_) (λ_ _ _ _ _ _=>dS λ_ _=>rfl) (λf aQ A outer s H vs Q E hr h=>?_)]
 ·let(a,q,M,D,S,v,d,rfl,_):=h
  rfl
 ·let(a,q,M,D,S,v,d,rfl,Ra,ok,aM,rd,k1,k2,k3):=h
  let(dx,mv,bv,cA,tv,e,r1,r2,r3,r4):=Ra.ob;erw[_,(aG (bQ (dX (cP (pf AB hr (au (pv 1) az)))) (aI (CW (λ_ _ _ _ _ _ _ I m q=>BU I m q) a96 Nv hr.hd Z (au bh az))) bV) (aG (bQ (dX (cP (gu wa TC.cl (hr.mono aD) (pv 0)))) (aI (CW (λ_ _ _ _ _ _ _ I m q=>BU I m q) LR Nv hr.hd Z (au bh az))) bV) (aG (ij TC.cl TC.y9 (pv 0) (pv 1)) (aI (aZ (pv 1)))))),?_];erw[_,Z,v,d,Z,rd,_,Z,?_];cases hd:mS d with |false=>erw[cx #[bU Z,k1 hd _ (aH.refl _)]] |true=>
   erw[bK ?_];erw[_,Z,a,dx,_,Z,e,Z,a,q,M,D,S,Z,Ra,ok,aM,_,Z,?_];by_cases hp:S.pc=0
   ·rw[cU hp]
    erw[bK ?_];let(aE,rfl,h1,h2):=a1z hd;cases rd.int_inv;erw[_,Z,_,Z,a,dx,_,Z,e,by show 9<1000;decide,?_];erw[_,Z,k3 aE Z h1 h2 hp _ (Ra.CV (S':={S with aE:=aE}) e ok.row.no rfl r1 r2 r3 r4) (o8 (by simp))]
   ·rw[fo hp]
    erw[cx #[bU Z,k2 hd hp _ (aH.refl _)]]
end
section
inductive Fd(K:aa)(H':Hp)(d e t:Addr)(M:bP)(S:bp)(dt:ai)(pA:V):Prop |bad (h1:mS dt=false)(h4:pA= .str "rate")(h5:cM K H' d e t M S):Fd K H' d e t M S dt pA |Ag (aE:Int)(h1:dt= .int aE)(h2:10<=aE/\aE<=200)(hp:S.pc≠0)(h4:pA= .str "moving")(h5:cM K H' d e t M S):Fd K H' d e t M S dt pA |ok (aE:Int)(h1:dt= .int aE)(h2:10<=aE/\aE<=200)(hp:S.pc=0)(h4:pA= .int aE)(h5:cM K H' d e t M {S with aE:=aE}):Fd K H' d e t M S dt pA
theorem cM.iA{t:Addr}(h:cM K H d e t M S)(no:du S.ds=true)(bg:fm H p)(pd:p≠d)(pe:p≠e)(b:bS p H H'):cM K H' d e t M S:=h.go no (bS.t bg b).v (λo eo=>b.same _ _ (dy pd) eo) (λo eo=>b.same _ _ (dy pe) eo)
section
variable {G:_L.St->Hp->Prop}
theorem VJ:Ev K G (sJ (rI Ng λi j=>.int (i^j.toNat)) (tC (.int 10)) (tC (.int 39))) (.int (10^39)):=λ_ _ _ _ k=>#[10,39,Z,Z,#[aD,aD,bf],k _ _ (cF _) (aH.refl _)]
theorem aaV:Ev K G (C9 (rU λi=>.int (-i)) (sJ (rI Ng λi j=>.int (i^j.toNat)) (tC (.int 10)) (tC (.int 39)))) (.int (-(10^39))):=λO H _ g k=>VJ O H _ g λv H' r s=>by cases r.int_inv;erw[_,Z,k _ _ (cF _) s]
end
def EV:List ai:=[.int 9,.int 201,.int 0,.int (-1),.bool true,.bool false,.none,.str "100",.tuple [.int 100],.list [.int 100],.int (10^39),.int (-(10^39)),.tuple [],.str ""]
theorem acC:∀d∈EV,mS d=false:=by decide+kernel
inductive ae1(K:aa)(vs:List V)(H:Hp)(Q:VK):Prop |mk (p:_)(d:_)(e:_)(t:_)(M:_)(D:_)(S:_)(h0:vs=[.ref p,.ref d])(h1:fm H p)(h2:p≠d)(h3:p≠e)(h4:cM K H d e t M S)(h5:cu M D S)(h6:M.Ok)(h7:∀tp xg pA dt H',aV K H' tp [xg,pA]->RD K H' xg dt->aX [p,d] H H'->fm H' p->Fd K H' d e t M S dt pA->Q (.ref tp) H')
def OZ(K:aa):Sp:=λvs H Q _=>ae1 K vs H Q
theorem Qd:bN ["_law_bag_here","_law_sim_here","_law_which","_law_some","_law_rate_here"] ["_law_bag_here","_law_sim_here"] (bj Hj):=bZ bf
theorem a3L(F:FA K mg "_law_rate" Hj)(B:cn mg)(dv:aJ P w K mg aB "_law_take" 1 oz):aJ P w K mg aB "_law_rate" 2 (OZ K):=by
 erw[F.has Qd (λvs H Q E h=>?_) (λ_ _ _ _ _ _=>dS λ_ _=>rfl) (λfa aQ A outer s H vs Q E hr h=>?_)]
 ·let(p,d,e,t,M,D,S,rfl,_):=h
  rfl
 ·let(p,d,e,t,M,D,S,rfl,bg,pd,pe,aht,ok,aM,k):=h
  have nd:=Qd.nd;have no:=ok.row.no;erw[_,(aG (pS 2 nd (pf dv hr (au (pv 0) (au aF az)))) (aG (pS 3 nd (dC (au aF (au aF (au aF (au (qw pY aF) (au gL (au gL (au j7 (au bh (au (cQ (au aF az)) (au (dC (au aF az)) (au (aL tD aF aF) (au (qw pY (aL tD aF aF)) (au (cQ az) (au bh az)))))))))))))))) (aG (bQ (cy ko (pv 2) aF (bM _)) (aI (aZ (cQ (au (px K (pv 3) (pv 2)) (au bh az))))) bV) (aG (pS 4 nd (px K (dC (au aF (au aF (au aF (au (aL cZ aF (pf dv hr (au (pv 0) (au aF az)))) az))))) (aL nL (pv 2) aF))) (aG (bQ (cy (jy K Z hr.units) (cR hr (pv 1) bh) (cQ (au aF (au aF az))) (bM _)) (aI (aZ (cQ (au (pv 4) (au bh az))))) bV) (aG (jQ (fi hr.units) (pv 1) bh (pv 4) Z) (aG (jQ (fi hr.units) (pv 1) bh j7 Z) (aI (aZ (cQ (au (pv 4) (au (pv 4) az)))))))))))),?_];erw[_,Z,p,26,Z,bg,aD,aD,λwh H1 w0 w1 b1=>?_];have bt:∀{H2:Hp},bS p H H2->aX [p,d] H H2:=λb2 x o eo hx=>b2.same x o (λz=>hx (by rw[z];erw[.head _])) eo;have sT:N3 (λ(_:_L.St)(_:Hp)=>True):=λ_ _ _ _ _=>trivial;erw[aaY (G:=λ_ _=>True) (d:=.list EV) (Mj (gk sT (rn _) (gk sT (rn _) (gk sT (rn _) (gk sT (aaX _) (gk sT (VM _) (gk sT (VM _) (gk sT aaW (gk sT (VI _) (gk sT (yN (gk sT (rn _) rj)) (gk sT (Mj (gk sT (rn _) rj)) (gk sT VJ (gk sT aaV (gk sT (yN rj) (gk sT (VI _) rj))))))))))))))) trivial λv2 H2 r2 s2=>?_];have b2:bS p H H2:=b1.trans (.fT b1.bu s2);erw[_,Z,_,_,Z,Z,_,Z,?_];erw[eL (λEj=>?_) (λEj=>?_)]
  ·have Ej:wh<14:=jJ Ej
   let(l,xs,rfl,hl,rl):=r2.lst_inv;have hw:wh.toNat<EV.length:=by show wh.toNat<14;lia
   obtain⟨dt,ed⟩:∃dt,EV[wh.toNat]? =some dt:=#[_,cC hw];let(v,Ml,rv):=aO.get wh.toNat rl ed;erw[_,Z,_,Z,.inl #[l,_,wh,v,Z,Z,hl,dQ w0 Ml,bU Z,λtp H3 n3=>?_]];have b3:bS p H H3:=b2.trans (.fT b2.bu n3.same);erw[k tp v _ dt H3 (aV.of n3.at') (RD.mono n3.same _ rv) (bt b3) b3.bu (.bad (acC dt (hO ed)) Z (aht.iA no bg pd pe b3))]
  ·erw[_,Z,p,191,Z,b2.bu,aD,aD,λz H3 z0 z1 b3=>#[_,_,Z,Z,?_]]
   erw[bU Z,λl H4 n4=>?_];have b4:bS p H H4:=(b2.trans b3).trans (.fT b3.bu n4.same);obtain⟨aE,hrt,dG,dN⟩:∃aE:Int,fW [V.int 10,.int 200,.int 100,.int (10+z)] (wh%4)=some (.int aE)/\10<=aE/\aE<=200:=by
    rcases(show wh%4=0\/wh%4=1\/wh%4=2\/wh%4=3 by lia)with h|h|h|h<;>rw[h]
    ·erw[10,Z,aD,aD]
    ·erw[200,Z,aD,aD]
    ·erw[100,Z,aD,aD]
    ·erw[10+z,Z,aw,aw]
   erw[_,Z,_,_,Z,Z,(by decide:(0:Int)<4),.inl #[l,_,_,_,Z,Z,aK.of n4.at',hrt,?_]];have Z4:=aht.iA no bg pd pe b4;let(mv,lv,gv,sv,bv,cv,rv,e4,r1,Jo,r3,r4,r5,r6):=Z4.ob;erw[_,Z,d,_,Z,dg e4 qT,bU Z,λtz H5 n5=>?_];have b5:bS p H H5:=b4.trans (.fT b4.bu n5.same);erw[.inr #[dk S.pc,dk 0,(r4.go n5.same).rd,(qD (aV.of n5.at')).rd,Z,Z,_,Z,?_]];rw[CS];by_cases hp:S.pc=0
   ·rw[cU hp]
    erw[bK ?_];have e5:=n5.same _ _ e4;erw[_,Z,_,Z,d,_,Z,dp e5 Sq iC,?_];erw[_,Z,d,_,Z,dp bo xP iC,?_];erw[_,Z,_,Z,bU Z,λtp H6 n6=>?_];let(ys,eq,rq):=Z4.qu;have dq:=Z4.ne;have hK:∀{b o},b≠d->H5 b=some o->H6 b=some o:=λhb eb=>n6.same _ _ (by rw[aR hb,aR hb];erw[eb]);have bd6:aX [d] H5 H6:=λb o eb hb=>hK (λz=>hb (by rw[z];erw[.head _])) eb;have v6:cm H4 H6:=n5.same.v.trans (bd6.v λx hx o eo=>by rw[bW.mp hx,e5]at eo;cases eo;trivial);erw[k tp (.int aE) (.int aE) (.int aE) H6 (aV.of n6.at') (cF _) (λx o eo hx=>?_) ?_ (.ok aE Z #[dG,dN] hp Z #[#[mv,lv,gv,sv,bv,cv,.bF,n6.same _ _ bo,RD.v v6 _ (iE _ _ _ _ _) r1,RD.v v6 _ (gd _) Jo,RD.v v6 _ (gd _) r3,r4.v v6,r5.v v6,.inl Z],ys,hK dq.symm (n5.same _ _ eq),aO.v v6 _ no rq])]
    ·erw[hK (λz=>hx (by rw[z];simp)) (b5.same x o (λz=>hx (by rw[z];erw[.head _])) eo)]
    ·let(c,m,ec,q):=b5.bu
     erw[c,m,hK pd ec,q]
   ·rw[fo hp]
    erw[cx ?_];erw[_,Z,bU Z,λtp H6 n6=>?_];have b6:bS p H H6:=b5.trans (.fT b5.bu n6.same);erw[k tp (.int aE) _ (.int aE) H6 (aV.of n6.at') (cF _) (bt b6) b6.bu (.Ag aE Z #[dG,dN] hp Z (aht.iA no bg pd pe b6))]
end
section
theorem RS(hT:∃ps,H T=some (.fq ps))(h:Rd H a o)(hn:∀ps,o≠ .fq ps):a≠T:=λz=>by
 let(ps,e):=hT;rcases h with h|⟨ob,h⟩
 ·rw[z,e]at h;cases h;erw[hn _ rfl]
 ·rw[z,e]at h;cases h
mutual
theorem RR{H H':Hp}{T:Addr}(b:aX [T] H H')(hT:∃ps,H T=some (.fq ps)):∀{x:V}(d:ai),RD K H x d->RD K H' x d
 |x,.none,h=>by simpa[RD]using h |x,.bool b,h=>by simpa[RD]using h |x,.int i,h=>by simpa[RD]using h |x,.str y,h=>by simpa[RD]using h |x,.list ds,h=>by
  rw[RD]at h⊢;let(a,xs,e,h1,h2):=h;erw[a,xs,e,?_,Jb b hT ds h2];rcases h1 with h1|h1
  ·have na:a∉[T]:=by rw[bW];erw[RS hT h1 (λ_ z=>nomatch z)]
   erw[.inl (h1.imp (λz=>b _ _ z na) λ#[o,z]=>#[o,b _ _ z na])]
  ·erw[.inr h1] |x,.tuple ds,h=>by
  rw[RD]at h⊢;let(a,xs,e,h1,h2):=h;erw[a,xs,e,?_,Jb b hT ds h2];rcases h1 with h1|h1
  ·have na:a∉[T]:=by rw[bW];erw[RS hT h1 (λ_ z=>nomatch z)]
   erw[.inl (h1.imp (λz=>b _ _ z na) λ#[o,z]=>#[o,b _ _ z na])]
  ·erw[.inr h1] |x,.dict _,h=>by simp[RD]at h
theorem Jb {H H':Hp}{T:Addr}(b:aX [T] H H')(hT:∃ps,H T=some (.fq ps)):∀{xs:List V}(ds:List ai),aO K H xs ds->aO K H' xs ds |xs,[],h=>by simpa[aO]using h |xs,d::ds,h=>by rw[aO]at h⊢;let(y,ys,e,h1,h2):=h;erw[y,ys,e,RR b hT d h1,Jb b hT ds h2]
end
section
variable {C T:Addr}{qn:Str}{H H7 H8 H9:Hp}{M:bP}{n:Nat}{A:Ad}{p:Addr}{S S':bp}
theorem bL.O8(h:bL K C T qn H M n A p S)(b:aX (T::p::A.all) H H9)(et:∀o,H A.t=some o->H9 A.t=some o)(R:cB K C H9 A.a A.q M S')(aht:cM K H9 A.d A.e A.t M S')(ok:cu M (64+10*n) S')(sm:SM S')(tab:TabAt H9 T qn)(on:fh M.rs (cL S'))(bu:fm H9 p):bL K C T qn H9 M n A p S':=by
 erw[R,aht,ok,sm,h.told.go (ck _) (h.v b) et λl us hx e=>#[b _ _ e λm=>?_,hx],h.nd,tab,on,bu,h.np];rcases bJ.mp m with z|m
 ·let(ps,e',_):=h.tab
  rw[z,e']at e;cases e
 ·erw[hx ((bJ.mp m).elim .inr .inl)]
theorem bL.ZU(x:Addr)(hx:x∈[p,A.d]):x∈T::p::A.all:=by simp only[Ad.all,bJ,cD,cX]at hx⊢;rcases hx with z|z<;>simp[z]
theorem bL.zB(h:bL K C T qn H M n A p S)(b:aX [p,A.d] H H7):TabAt H7 T qn:=by
 erw[TabAt.but h.tab b (λm=>?_) λx hx φ=>h.tJ x ?_ φ]
 ·simp only[bJ,cD,cX]at m
  rcases m with z|z
  ·erw[h.Dk z]
  ·erw[h.nT (by rw[z];simp[Ad.all])]
 ·simp only[Ad.all,bJ,cD,cX]at hx⊢
  rcases hx with z|z<;>simp[z]
theorem bL.half(h:bL K C T qn H M n A p S)(b:aX [p,A.d] H H7)(bg:fm H7 p)(aht:cM K H7 A.d A.e A.t M S')(no:du S'.ds=true)(bt:aX [T] H7 H8):cB K C H8 A.a A.q M S/\cM K H8 A.d A.e A.t M S'/\fm H8 p/\aX (T::p::A.all) H H8/\∀o,H A.t=some o->H8 A.t=some o:=by
 have b7:aX (T::p::A.all) H H7:=b.mono bL.ZU;have b78:aX (T::p::A.all) H7 H8:=bt.mono λx hx=>by rw[bW.mp hx];erw[.head _]
 have Zc:=h.zB b;have nT:∀{x},x∈A.all->x∉[T]:=λhx m=>h.nT (by rw[<-bW.mp m];erw[hx]);have nd:=h.nd;have np:=h.np;simp only[Ad.all,nv,bJ,cD,cX,oh]at nd np;let((t1,t2,t3,t4),(t5,t6,t7),(t8,t9),sN,_):=nd;let(p1,p2,p3,p4,p5):=np;have k3:∀{x:Addr},x≠p->x≠A.d->x∉[p,A.d]:=λh1 h2=>by simp[h1,h2]
 have Yw:cm H7 H8:=bt.v λx hx o eo=>by let(ps,et,_):=Zc;rw[bW.mp hx,et]at eo;cases eo;trivial
 have bb:=b7.trans b78;erw[h.run.go h.ok.row.no (h.v bb) (λo e=>bt _ _ (b _ _ e (k3 (dy p1) t2)) (nT (by simp[Ad.all]))) (λo e=>bt _ _ (b _ _ e (k3 (dy p2) t5)) (nT (by simp[Ad.all]))),aht.go no Yw (λo e=>bt _ _ e (nT (by simp[Ad.all]))) (λo e=>bt _ _ e (nT (by simp[Ad.all]))),fm.but bg bt (λm=>h.Dk (bW.mp m).symm),bb,λo e=>bt _ _ (b _ _ e (k3 (dy p5) (dy t9))) (nT (by simp[Ad.all]))]
theorem a1q{q:Addr}{D:Nat}(L:uy s'.heap H (dJ outer) f pr b sc qn c cl)(hc:H c=some (.ext (jH c qn)))(CA:pN s'.heap H (dJ outer) cl N [.ref a,iv])(hN:N.length=2)(Sc:rQ N sc)(hb:∀pm cd ct,bindArgs (PySem.W.kla_fn "<lambda>" qn pr b sc cl pm cd ct) #[[],[]]=pure []) (Ay:∀(A:aj)(outer:List Env)(s:ae)(H:Hp)(E:XK),dh 5 (A.deeper (PySem.W.envX qn sc s.heap.objs.size f (.ref c) cl))->PE (oW (jI P w) P w K mg aB N qn sc f (.ref c) cl A outer s H E) b (sL C "turn_rate" (Co K C R) E (lH 0) (sM (lH 1) jM))) (hR:cB K C H a q M S)(ok:cu M D S)(aM:M.Ok)(rd:RD K H iv d)(k1:mS d=false->∀H2,aH H H2->Q (.str "rate") H2)(k2:mS d=true->S.pc≠0->∀H2,aH H H2->Q (.str "moving") H2)(k3:∀aE,d= .int aE->10<=aE->aE<=200->S.pc=0->∀H2,cB K C H2 a q M {S with aE:=aE}->aX [a] H H2->Q (.int aE) H2):xo P w K mg aB R 5 outer s' [.ref f] H Q E:=by let(dx,mv,bv,cA,tv,e,_):=hR.ob;erw[f,c,cl,pr,b,sc,qn,N,_,λE=>sL C "turn_rate" (Co K C R) E (lH 0) (sM (lH 1) jM),Z,L,hc,CA,hN.symm,Sc,hb,Ay,?_];erw[_,Z,a,dx,_,Z,e,Z,_,Z,a,q,M,D,S,iv,d,Z,hR,ok,aM,rd,λh1 H2 s2=>#[R.r,_,_,_,4,"rate",.r,Z,λH3 s3=>k1 h1 _ (s2.trans s3)],λh1 h2 H2 s2=>#[R.m,_,_,_,3,"moving",.m,Z,λH3 s3=>k2 h1 h2 _ (s2.trans s3)],k3]
theorem bL.a6h(h:bL K C T qn H M n A p S)(b:aX [p,A.d] H H7)(bg:fm H7 p)(aht:cM K H7 A.d A.e A.t M S)(bt:aX [T] H7 H8)(tb:TabAt H8 T qn):bL K C T qn H8 M n A p S/\aX (T::p::A.all) H H8:=by let(R8,Z8,MS,b8,et):=h.half b bg aht h.ok.row.no bt;erw[h.O8 b8 et R8 Z8 h.ok h.sm tb h.on MS,b8]
theorem bL.a1y(h:bL K C T qn H M n A p S)(b:aX [p,A.d] H H7)(bg:fm H7 p)(aht:cM K H7 A.d A.e A.t M S')(bt:aX [T] H7 H8)(tb:TabAt H8 T qn)(R9:cB K C H9 A.a A.q M S')(b9:aX [A.a] H8 H9)(ok:cu M (64+10*n) S')(sm:SM S')(on:fh M.rs (cL S')):bL K C T qn H9 M n A p S'/\aX (T::p::A.all) H H9:=by
 let(R8,Z8,MS,b8,et):=h.half b bg aht ok.row.no bt;have rF:aX [A.a,A.q] H8 H9:=b9.mono λx hx=>by rw[bW.mp hx];simp
 have bb:aX (T::p::A.all) H H9:=b8.trans (rF.mono xk);have in1:∀x∈[A.a,A.q],x∈A.all:=λx hx=>by simp only[Ad.all,bJ,cD,cX]at hx⊢;rcases hx with z|z<;>simp[z]
 have Yu:cm H8 H9:=R8.v rF;let(n1,n2,n3,n4,n5,n6):=h.qE;have Za:=TabAt.but tb rF (λm=>h.nT (in1 _ m)) λx hx φ e=>by
  simp only[bJ,cD,cX]at hx;let(dx,mv,bv,cA,tv,er,_):=R8.ob;let(ys,eq,_):=R8.qu;rcases hx with z|z
  ·rw[z,er]at e;cases e
  ·rw[z,eq]at e;cases e
 erw[h.O8 bb (λo e=>rF _ _ (et o e) n6) R9 (Z8.go ok.row.no Yu (λo e=>rF _ _ e n4) (λo e=>rF _ _ e n5)) ok sm Za on (fm.but MS rF λm=>h.np (in1 _ m)),bb]
end
abbrev jB:Str:=(("_law_deed":Str)++Str.ofString ".<locals>.")++Str.ofString "<lambda>"
inductive aeD(K:aa)(C:Addr)(T:Addr)(vs:List V)(H:Hp)(Q:VK):Prop |mk (p:_)(A:_)(M:_)(n:_)(S:_)(far:_)(h0:vs=[.ref p,.ref (Ad.a A),.ref A.d,.int far])(h1:bL K C T jB H M n A p S)(h2:fk M S)(h3:M.Ok)(h4:1<=far)(h5:far<=100)(h6:n<=90)(h7:∀A' S' H',bL K C T jB H' M (n+3) A' p S'->fk M S'->g9 T p A A' H H'->Q (.bl true) H')
def Ph(K:aa)(C T:Addr):Sp:=λvs H Q _=>aeD K C T vs H Q
theorem QS:bN ["_law_bag_here","_law_runner","_law_sim_here","_law_far","_law_kind","_law_item","_law_n","_law_thing","_law_due","_law_found"] ["_law_bag_here","_law_runner","_law_sim_here","_law_far"] (bj ID):=bZ bf
theorem a4i(F:Bs K mg "_law_deed" ID T)(B:cn mg)(TC:fX K C)(qS:aB.BuiltinsAt mg T)(dv:aJ P w K mg aB "_law_take" 1 oz)(a90:aJ P w K mg aB "_law_line" 2 (Gm K))(a8Y:aJ P w K mg aB "_law_other" 2 (Pc K))(jj:aJ P w K mg aB "_law_alike" 5 (xA (Nx (Nx (Nx (Nx A0)))) K))(LQ:Br P w K mg aB "_law_refused" 7 (xo P w K mg aB R 5))(LL:rP P w K mg aB C "feed" 5 (Cp K C R))(LO:aJ P w K mg aB "_law_sim_feed" 1 (Gd K))(a8O:rP P w K mg aB C "drop" 5 (Cq K C R))(a8U:aJ P w K mg aB "_law_sim_drop" 1 (OY K))(LH:rP P w K mg aB C "turn_rate" 5 (Co K C R))(a8W:aJ P w K mg aB "_law_rate" 2 (OZ K))(a8L:cS P w K mg aB C "hold" 2 (P5 K C))(a8T:aJ P w K mg aB "_law_sim_hold" 2 (OX K))(a8M:cS P w K mg aB C "go" 1 (P6 K C))(Ec:cS P w K mg aB C "entries" 12 (Gi K C))(Ee:aJ P w K mg aB "_law_sim_entries" 6 (Ge K)):aJ P w K mg aB "_law_deed" 13 (Ph K C T):=by
 erw[F.has QS (λvs H Q E h=>?_) (λ_ _ _ _ _ _=>EZ λ_ _ _ _=>rfl) (λf aQ A0 outer s H vs Q E AH hr h=>?_)]
 ·let(p,A,M,n,S,far,rfl,_):=h
  rfl
 ·let(p,A,M,n,S,far,rfl,L,qz,aM,AW,yJ,n90,k):=h
  have nd:=QS.nd;have Du:=aM.len;erw[_,(aG (pS 4 nd (pf dv hr (au (pv 0) (au aF az)))) (aG (bQ (cy ko (pv 4) aF (bM _)) (aG (pS 5 nd (pf a90 hr (au (pv 0) (au (cR hr (pv 2) bh) (au (cR hr (pv 2) bh) (au (pv 3) az)))))) (aG (ib (bQ (PW.pt (oJ (cy (dF K Z hr.units) (pv 4) aF (bM _)) (sX (cy (dF K Z hr.units) (pf dv hr (au (pv 0) (au aF az))) aF (bM _))))) (aI (pS 5 nd (pf a8Y hr (au (pv 0) az)))) bV)) (aI (aZ (pf jj hr (au (JA (Ue "_law_runner" "_law_item" 1 5 bf Z Z Z Z) LQ (hr.mono aD) Z (λ_=>rfl) AH qS Z Z) (au (pf LO hr (au (pv 2) (au (pv 5) az))) az))))))) bV) (aG (ib (bQ (cy (dF K Z hr.units) (pv 4) aF (bM _)) (aG (bQ (dX (cP (pf jj hr (au (gu a8L TC.cl (hr.mono aD) (pv 1)) (au (pf a8T hr (au (pv 2) az)) az))))) (aI (aZ gL)) bV) (aG (pS 6 nd (px K (dC (au aF (au aF (au aF (au aF az))))) (pf dv hr (au (pv 0) (au aF az))))) (aI (bQ (dX (cP (pf jj hr (au (tj Ec TC.cl (hr.mono aD) (pv 1) (au (pv 6) az)) (au (pf Ee hr (au (pv 2) (au (pv 6) az))) az))))) (aI (aZ gL)) bV)))) bV)) (aG (bQ (cy (inK K Z) (pv 4) (cQ (au aF (au aF az))) (by with_unfolding_all rfl)) (aG (fP (pf a8W hr (au (pv 0) (au (pv 2) az))) (eg K Z (n:=2) Z (cf (bR 7 nd) (cf (bR 8 nd) dZ)))) (aG (bQ (dX (cP (pf jj hr (au (JA (Ue "_law_runner" "_law_thing" 1 7 bf Z Z Z Z) LQ (hr.mono aD) Z (λ_=>rfl) AH qS Z Z) (au (pv 8) az))))) (aI (aZ gL)) bV) (aI (aZ (a2n (fS tE (pf dv hr (au (pv 0) (au aF az))) aF (bM _)) (j6 (pf jj hr (au (JA (a65 "_law_runner" 1 bf Z Z) LQ (hr.mono aD) Z (λ_=>rfl) AH qS Z Z) (au (pf a8U hr (au (pv 2) az)) az))))))))) bV) (aG (bQ (cy (dF K Z hr.units) (pv 4) aF (bM _)) (aG (jQ (fi hr.units) (pv 2) bh j7 Z) (aI (aZ (pf jj hr (au (gu a8M TC.cl (hr.mono aD) (pv 1)) (au (eK K B (au (cR hr (pv 2) bh) az)) az)))))) bV) (aG (pS 6 nd (px K (dC (au aF (au aF (au aF (au (aL cZ aF (pf dv hr (au (pv 0) (au aF az)))) (au (pf dv hr (au (pv 0) (au aF az))) (au aF az))))))) (pf dv hr (au (pv 0) (au aF az))))) (aG (pS 9 nd (tj Ec TC.cl (hr.mono aD) (pv 1) (au (pv 6) az))) (aG (bQ (dX (cP (pf jj hr (au (pv 9) (au (pf Ee hr (au (pv 2) (au (pv 6) az))) az))))) (aI (aZ gL)) bV) (aG (ib (bQ (cy (dF K Z hr.units) (aL nL (pv 6) aF) aF (bM _)) (aI (ie (a2A K Z (pv 9)))) (aI (ie (jR K Z (cR hr (pv 2) bh) (au (cQ (au (pv 9) (au (j8 (x:="tuple") (lX K Z) Z (B.at "tuple") gB (au (pv 9) az)) az))) az)))))) (aI (aZ gL))))))))))),?_];erw[_,Z,p,9,Z,L.bu,aD,aD,λkd H1 k0 k1 b1=>?_];have L1:=L.iA b1;have Kr:∀A' S' H',bL K C T jB H' M (n+3) A' p S'->fk M S'->g9 T p A A' H1 H'->Q (.bl true) H':=λA' S' H' h1 h2 h3=>k A' S' H' h1 h2 (g9.trans L1 (.of (wD b1)) h3);clear k;erw[_,Z,_,_,Z,Z,_,Z,?_];erw[eL (λh3=>?_) (λh3=>?_)]
  ·--an item is AV
   let(mv,lv,gv,sv,bv,cv,rv,hz):=L1.sim.ob;have ez:=hz.1;erw[_,Z,_,Z,A.d,_,Z,dg ez AQ,_,Z,A.d,_,Z,dg ez LW,_,Z,p,mv,M.rs,M.r,M.f,M.j,M.t,gv,cL S,far,Z,L1.bu,hz.2.1,aM,hz.2.2.2.1,L1.on,AW,yJ,λiv ms sp H2 rl JM hZ iY onl b2=>?_];have jF:=L1.iA b2;erw[λO H3=>∃iv d o v6 v7 v8 v9,O=cZ9 (.ref p) (cZ9 (.ref A.a) (cZ9 (.ref A.d) (cZ9 (.int far) (cZ9 (.int kd) (cZ9 iv (v6::v7::v8::v9::[]))))))/\bL K C T jB H3 M n A p S/\bS p H1 H3/\RD K H3 iv d/\nk M.rs.length d o/\fh M.rs (gz (cL S) o),?_,?_]
   ·have line:∀H3,bL K C T jB H3 M n A p S->bS p H2 H3->∃Uo d o v6 v7 v8 v9,[some (V.ref p),some (.ref A.a),some (.ref A.d),some (.int far),some (.int kd),some iv,none,none,none,none]=cZ9 (.ref p) (cZ9 (.ref A.a) (cZ9 (.ref A.d) (cZ9 (.int far) (cZ9 (.int kd) (cZ9 Uo (v6::v7::v8::v9::[]))))))/\bL K C T jB H3 M n A p S/\bS p H1 H3/\RD K H3 Uo d/\nk M.rs.length d o/\fh M.rs (gz (cL S) o):=λH3 h b3=>#[iv,_,some (ms,sp),_,_,_,_,Z,h,b2.trans b3,RD.t (bS.t jF.bu b3) _ (Dz _ _) rl,Uq JM hZ iY,onl]
    erw[_,Z,.inl #[_,_,Z,Z,_,Z,?_]];erw[eL (λh2=>?_) (λh2=>line _ jF (bS.refl jF.bu))];erw[_,Z,p,3,Z,jF.bu,aD,aD,λz H3 z0 z1 b3=>.inl #[_,_,Z,Z,_,Z,?_]];erw[eL (λh4=>?_) (λh4=>line _ (jF.iA b3) b3)];erw[_,Z,p,Z,b3.bu,λv d H4 dw iL b4=>?_];erw[v,d,none,_,_,_,_,Z,(jF.iA b3).iA b4,(b2.trans b3).trans b4,dw,a6p iL,L1.on]
   ·rintro O H3 ⟨iv,d,o,v6,v7,v8,v9,rfl,L3,b13,dw,it,kO⟩
    erw[[.ref A.a,iv],L3.tab,Z,λi j v e1 e2=>?_,λf' c' WR H4 s' La iu Ca tb bt=>?_]
    ·match i,e1,e2 with |0,e1,e2=>cases e1;cases e2;rfl |1,e1,e2=>cases e1;cases e2;rfl
    have L4:=L3.lam bt tb;have IX:=RD.v (L3.v (bt.mono λx hx=>by rw[bW.mp hx];erw[.head _])) _ it.it.no dw;have Bb:aX (T::p::A.all) H1 H4:=(wD b13).trans (bt.mono λx hx=>by rw[bW.mp hx];erw[.head _]);erw[a1r La iu Ca Z (Ao bf).1 (λ_ _ _=>rfl) (λA outer s H E kR=>Sh LL (JD λ_ _ _ z=>z) TC.cl (kR.mono aD) (pv 0) (au (pv 1) az)) L4 IX it aM kO (λkW H5 s5=>?_) λkW H5 R5 b5=>?_]
    ·have L5:=L4.same s5
     erw[_,Z,_,Z,A.d,A.e,A.t,M,_,S,iv,d,o,Z,L5.sim,L5.ok,aM,RD.mono s5 _ IX,it,λho=>?_,λ_ _ H6 s6=>?_,λ_ hl=>?_]
     ·rw[(JK (wC (Ek L5.ok) λns sp eo=>(it.ln ns sp eo).1.len)).mpr kO]at ho;cases ho
     ·erw[_,_,.str "full",Z,df _,df _,oM (n:=0) aD (md bf),λH7 s7=>?_]
      erw[Kr A S H7 (((L5.same s6).same s7).mono aw aw) qz (.of (λx o' e hx=>s7 _ _ (s6 _ _ (s5 _ _ (Bb _ _ e hx)))))]
     ·erw[absurd hl aw]
    ·have Z5:=L4.mid b5
     have rv5:=RD.v (L4.v (b5.mono xk)) _ it.it.no IX;erw[_,Z,_,Z,A.d,A.e,A.t,M,_,S,iv,d,o,Z,Z5,L4.ok,aM,rv5,it,λho=>?_,λ_ hl=>?_,λ_ _ H6 Z6 b6=>?_]
     ·rw[(JK (wC (Ek L4.ok) λns sp eo=>(it.ln ns sp eo).1.len)).mpr kO]at ho;cases ho
     ·erw[absurd hl aw]
     ·erw[_,_,.int _,Z,cF _,cF _,ku _,λH7 s7=>?_]
      let(L6,b46):=L4.fin R5 b5 (.inl Z) Z6 b6 ((L4.ok.AV it kW).mono aw aw) L4.sm (by rw[El];erw[kO]);erw[Kr A _ H7 ((L6.same s7).mono aw aw) (qz.AV kO) (.of (λx o' e hx=>s7 _ _ (b46 _ _ (Bb _ _ e hx) hx)))]
  ·erw[λO H2=>∃A1 S1 v6 m,O=cZ9 (.ref p) (cZ9 (.ref (Ad.a A1)) (cZ9 (.ref A1.d) (cZ9 (.int far) (cZ9 (.int kd) (none::v6::none::none::none::[])))))/\bL K C T jB H2 M m A1 p S1/\m<=n+2/\(kd≠3->m=n)/\fk M S1/\g9 T p A A1 H1 H2,?_,?_]
   ·erw[_,Z,.inl #[_,_,Z,Z,_,Z,?_]]
    erw[eL (λh4=>?_) (λh4=>#[A,S,none,n,Z,L1,aw,λ_=>rfl,qz,.of (aX.refl _ _)])];have hk3:kd=3:=jJ h4;let(dx,Tv,WZ,cA,tv,hrr):=L1.run.ob;erw[_,Z,A.a,dx,_,Z,hrr.1,Z,A.a,A.q,M,_,S,Z,L1.run,L1.ok,aM,λH3 R3 b3=>?_];have z9:aX [A.a,A.q] H1 H3:=b3.mono λx hx=>by rw[bW.mp hx];simp
    erw[_,Z,A.d,A.e,A.t,M,_,S,Z,L1.mid z9,L1.ok,aM,λH4 Z4 b4=>?_];erw[_,_,.int _,Z,cF _,cF _,ku _,λG1 s5=>#[_,Z,bK ?_]];let(L4',b24):=L1.fin R3 z9 (.inl Z) Z4 (b4.mono λx hx=>by rw[bW.mp hx];simp) (L1.ok.hold aM aw) (a7j L1.sm) (by rw[a7l];erw[L1.on]);have LG:=L4'.same s5;have oG:=a7k qz;have bG:aX (T::p::A.all) H1 G1:=λx o e hx=>s5 _ _ (b24 _ _ e hx);erw[bU Z,λln H4 n4=>?_];have L4:=LG.same n4.same;erw[_,Z,p,4,Z,L4.bu,aD,aD,λix H5 vy DH b5=>?_];have L5:=L4.iA b5;obtain⟨n',vP,n0,n1⟩:∃n':Int,fW [V.int 0,.int 1,.int 100,.int 100] ix=some (.int n')/\0<=n'/\n'<=100:=by
     rcases(show ix=0\/ix=1\/ix=2\/ix=3 by lia)with rfl|rfl|rfl|rfl
     ·erw[0,Z,aD,aD]
     ·erw[1,Z,aD,aD]
     ·erw[100,Z,aD,aD]
     ·erw[100,Z,aD,aD]
    have Kf:H5 ln=some (.lst [V.int 0,.int 1,.int 100,.int 100]):=b5.same _ _ (λz=>LG.here _ (.inr Z) (z▸n4.no)) n4.at';erw[.inl #[ln,_,ix,_,Z,Z,aK.of Kf,vP,?_]];have ur:aX (T::p::A.all) H1 H5:=λx o e hx=>wD b5 _ _ (n4.same _ _ (bG _ _ e hx)) hx;let(wx,K3,MN,JB,FY,vI):=L5.run.ob;erw[_,Z,A.a,wx,_,Z,vI.1,Z,_,Z,A.a,A.q,M,_,_,n',Z,L5.run,L5.ok,aM,n0,aw,λl us es S' q' H6 nl dl rd run he mz R6 iD lq=>?_];erw[_,Z,_,Z,A.d,A.e,A.t,M,_,_,n',Z,L5.mid iD.but,L5.ok,aM,n0,aw,λl2 O7 VQ S2 H7 Dh wA mR qq AE AD Z7 b7=>?_];let(e1,e2):=run.MD he mz qq AE AD;subst e1 e2;let(_,_,lQ,m7,_,_):=L5.ents aM R6 iD nl dl lq rd run Z7 b7 (aH.refl _) aw;erw[_,_,.list es,Z,jO (aK.of lQ) m7,jO (aK.of wA) mR,Mp L5.ok aM run aw,λH8 s8=>#[_,Z,bK ?_]];let(L8,wF,_):=L5.ents aM R6 iD nl dl lq rd run Z7 b7 s8 aw;erw[{A with q:=q'},S',_,_,Z,L8,aw,λz=>absurd hk3 z,run.qz L5.ok aM oG,g9.trans L5 (.of ur) (.q wF iD.nq)]
   ·rintro O H2 ⟨A1,S1,v6,m,rfl,jF,hm,hm3,o2,m2⟩
    erw[_,Z,bU Z,λtz H3 n3=>#[tz,_,Z,.inr (aV.of n3.at'),Z,Z,_,Z,?_]];have L3:=jF.same n3.same;have m3:g9 T p A A1 H1 H3:=m2.same n3.same;have Aq:∀A' S' H',bL K C T jB H' M (n+3) A' p S'->fk M S'->g9 T p A1 A' H3 H'->Q (.bl true) H':=λA' S' H' h1 h2 h3=>Kr A' S' H' h1 h2 (g9.trans L3 m3 h3);erw[eL (λVf=>?_) (λVf=>?_)]
    ·--a aE
     have np:=L3.np;have pd:p≠A1.d:=λz=>np (by rw[z];simp[Ad.all]);have pe:p≠A1.e:=λz=>np (by rw[z];simp[Ad.all]);erw[_,Z,_,Z,p,A1.d,A1.e,A1.t,M,_,S1,Z,L3.bu,pd,pe,L3.sim,L3.ok,aM,λtp xg pA dt H7 hsq rt b7 B9 m7=>?_];erw[tp,_,Z,hsq,Z,_,_,Z,_,_,Z,Z,?_];dsimp only[uO];erw[Uz (λH'=>∃S',bL K C T jB H' M m A1 p S'/\fk M S'/\aX (T::p::A1.all) H3 H') (λG1 g=>?_) (λqK=>?_)]
     ·let(S',LG,oG,bG):=g
      erw[_,Z,p,3,Z,LG.bu,aD,aD,λz H9 z0 z1 b9=>#[_,_,Z,Z,_,Z,?_]];have L9:=LG.iA b9;have EX:aX (T::p::A1.all) H3 H9:=bG.trans (wD b9);erw[eL (λhz=>Aq A1 S' H9 (L9.mono aw aw) oG (.of EX)) (λhz=>?_)];erw[[.ref A1.a],L9.tab,Z,λi j v e1 e2=>?_,λf' c' WR HB s' La iu Ca tb bt=>?_]
      ·match i,e1,e2 with |0,e1,e2=>cases e1;cases e2;rfl
      have LB:=L9.lam bt tb;have mB:g9 T p A1 A1 H3 HB:=g9.trans L9 (.of EX) (.of (bt.mono λx hx=>by rw[bW.mp hx];erw[.head _]));erw[a1s La iu Ca Z (Ao bf).1 (λ_ _ _=>rfl) (λA outer s H E kR=>a2o a8O (JD λ_ _ _ z=>z) TC.cl (kR.mono aD) (pv 0)) LB aM (λhn H5 s5=>?_) λhH q' H5 R5 nq b5=>?_]
      ·have L5:=LB.same s5
       erw[_,Z,A1.d,A1.e,A1.t,M,_,S',Z,L5.sim,L5.ok,aM,λ_ H6 s6=>?_,λhH=>absurd hH hn];erw[_,_,.str "moving",Z,df _,df _,oM (n:=0) aD (md bf),λH7 s7=>?_];erw[Aq A1 S' H7 (((L5.same s6).same s7).mono aw aw) oG (mB.same ((s5.trans s6).trans s7))]
      ·have Z5:=LB.mid (b5.mono λx hx=>by rw[bW.mp hx];erw[.head _])
       erw[_,Z,A1.d,A1.e,A1.t,M,_,S',Z,Z5,LB.ok,aM,λhn=>absurd hH hn,λ_ e' H6 Z6 ne b6=>?_];erw[_,_,.int _,Z,cF _,cF _,ku _,λH7 s7=>?_];let(L6,m6):=LB.dropped R5 b5 nq Z6 b6 ne oG aw;erw[Aq _ _ H7 ((L6.same s7).mono aw aw) (oG.drop LB.ok) (g9.trans LB mB (m6.same s7))]
     ·have zB:=L3.zB b7
      erw[[.ref A1.a,xg],zB,Z,λi j v e1 e2=>?_,λf' c' WR H8 s' La iu Ca tb bt=>?_]
      ·match i,e1,e2 with |0,e1,e2=>cases e1;cases e2;rfl |1,e1,e2=>cases e1;cases e2;rfl
      have rt8:=RR bt (by let(ps,e,_):=zB;erw[ps,e]) _ rt;have R8:cB K C H8 A1.a A1.q M S1:=by cases m7 with |bad h1 h4 h5=>exact(L3.half b7 B9 h5 L3.ok.row.no bt).1 |Ag aE h1 h2 hp h4 h5=>exact(L3.half b7 B9 h5 L3.ok.row.no bt).1 |ok aE h1 h2 hp h4 h5=>exact(L3.half b7 B9 h5 L3.ok.row.no bt).1
      have Jh:∀{aE:Int},10<=aE/\aE<=200->mS (.int aE)=true:=λh=>by show(decide _&&decide _)=true;rw[cU h.1,cU h.2];rfl
      have keep:∀{HA:Hp},cM K H7 A1.d A1.e A1.t M S1->aH H8 HA->∃S',bL K C T jB HA M m A1 p S'/\fk M S'/\aX (T::p::A1.all) H3 HA:=λ{HA} h5 sA=>by let(L8,b38):=L3.a6h b7 B9 h5 bt tb;erw[S1,L8.same sA,o2,λx o e hx=>sA _ _ (b38 _ _ e hx)]
      erw[a1q La iu Ca Z (Ao bf).1 (λ_ _ _=>rfl) (λA outer s H E kR=>Sh LH (JD λ_ _ _ z=>z) TC.cl (kR.mono aD) (pv 0) (au (pv 1) az)) R8 L3.ok aM rt8 (λg1 H9 s9=>?_) (λg1 g2 H9 s9=>?_) (λafY g0 g1 g2 gp H9 R9 b9=>?_)]
      ·cases m7 with |bad h1 h4 h5=>subst h4;erw[_,Z,_,_,.str "rate",Z,df _,df _,oM (n:=0) aD (md bf),λHA sA=>#[_,Z,bK (qK _ (keep h5 (s9.trans sA)))]] |Ag aE h1 h2 hp h4 h5=>rw[h1,Jh h2]at g1;cases g1 |ok aE h1 h2 hp h4 h5=>rw[h1,Jh h2]at g1;cases g1
      ·cases m7 with |bad h1 h4 h5=>rw[h1]at g1;cases g1 |Ag aE h1 h2 hp h4 h5=>subst h4;erw[_,Z,_,_,.str "moving",Z,df _,df _,oM (n:=0) aD (md bf),λHA sA=>#[_,Z,bK (qK _ (keep h5 (s9.trans sA)))]] |ok aE h1 h2 hp h4 h5=>erw[absurd hp g2]
      ·cases m7 with |bad h1 h4 h5=>rw[g0,Jh #[g1,g2]]at h1;cases h1 |Ag aE h1 h2 hp h4 h5=>erw[absurd gp hp] |ok aE h1 h2 hp h4 h5=>rw[g0]at h1;cases h1;subst h4;erw[_,Z,_,_,.int _,Z,cF _,cF _,ku _,λHA sA=>#[_,Z,bK (qK _ ?_)]];have o:=L3.ok;let(L9,EX):=L3.a1y b7 B9 h5 bt tb R9 b9 #[o.row,o.rw,o.len,g1,g2,o.dn,o.pl,o.pd,o.pm,o.aY,o.D1,o.D2] L3.sm L3.on;erw[_,L9.same sA,o2.eq Z Z,λx o e hx=>sA _ _ (EX _ _ e hx)]
    ·have em:m=n:=hm3 λz=>Vf (by rw[z];rfl)
     rw[em]at L3;erw[_,Z,.inl #[_,_,Z,Z,_,Z,?_]];erw[eL (λh6=>?_) (λh6=>?_)]
     ·--let go on
      let(mv,lv,gv,sv,bv,cv,rv,hz):=L3.sim.ob;erw[_,Z,A1.d,_,Z,dp hz.1 Su iC,?_];have b9:aX [A1.d] H3 (_L.upd H3 A1.d (.dK (bT mv lv gv sv (.int S1.aE) (.str S1.side) (.str S1.mark) (.ref A1.e) (.int S1.dn) .bF cv rv (.ref A1.t)))):=o8 (by simp);have e9:(_L.upd H3 A1.d (.dK (bT mv lv gv sv (.int S1.aE) (.str S1.side) (.str S1.mark) (.ref A1.e) (.int S1.dn) .bF cv rv (.ref A1.t)))) A1.d=some (.dK (bT mv lv gv sv (.int S1.aE) (.str S1.side) (.str S1.mark) (.ref A1.e) (.int S1.dn) .bF cv rv (.ref A1.t))):=bo;generalize _L.upd H3 A1.d (.dK (bT mv lv gv sv (.int S1.aE) (.str S1.side) (.str S1.mark) (.ref A1.e) (.int S1.dn) .bF cv rv (.ref A1.t)))=H9 at b9 e9⊢;have Z8:cM K H9 A1.d A1.e A1.t M {S1 with aY:=none}:=L3.brk b9 e9 hz;have R9:=L3.Em b9;let(dx9,mv9,bv9,ag4,tv9,hr9):=R9.ob;erw[_,Z,A1.a,dx9,_,Z,hr9.1,Z,A1.a,A1.q,M,_,S1,Z,R9,L3.ok,λHA RA bA=>?_];have okg:cu M (64+10*(n+1)) {S1 with aY:=none}:=cu.mono (D:=64+10*n) #[L3.ok.row,L3.ok.rw,L3.ok.len,L3.ok.dG,L3.ok.dN,L3.ok.dn,L3.ok.pl,L3.ok.pd,L3.ok.pm,trivial,L3.ok.D1,L3.ok.D2] aw aw;let(LA,b8A):=L3.Vz b9 Z8 RA bA okg L3.sm L3.on;let(Yl,UJ):=LA.sim.qu;let(mvA,lvA,gvA,ZP,bvA,cvA,rvA,Kz):=LA.sim.ob;erw[_,Z,A1.d,_,Z,dg Kz.1 mE,A1.e,Yl,Z,.inl (aK.of UJ.1),?_];erw[_,_,.int (S1.ds.length:Nat),Z,cF _,by rw[UJ.2.length];erw[cF _],ku _,λHB sB=>?_];erw[Aq A1 _ HB ((LA.same sB).mono aw aw) (o2.eq Z Z) (.of (λx o e hx=>sB _ _ (b8A _ _ e hx)))]
     ·--entries
      erw[_,Z,p,20,Z,L3.bu,aD,aD,λz1 H2 z10 z11 b2=>#[_,_,Z,Z,?_]];erw[_,Z,p,101,Z,b2.bu,aD,aD,λz2 HX z20 z21 b3=>?_];erw[bU Z,λln H4 n4=>?_];have L4:=((L3.iA b2).iA b3).same n4.same;erw[_,Z,p,6,Z,L4.bu,aD,aD,λix H5 vy DH b5=>?_];have L5:=L4.iA b5;have ur:aX (T::p::A1.all) H3 H5:=λx o e hx=>wD b5 _ _ (n4.same _ _ (wD b3 _ _ (wD b2 _ _ e hx) hx)) hx;obtain⟨n',vP,n0,n1⟩:∃n':Int,fW [V.int 1,.int 2,.int 5,.int (1+z1),.int z2,.int 0] ix=some (.int n')/\0<=n'/\n'<=100:=by
       rcases(show ix=0\/ix=1\/ix=2\/ix=3\/ix=4\/ix=5 by lia)with rfl|rfl|rfl|rfl|rfl|rfl
       ·erw[1,Z,aD,aD]
       ·erw[2,Z,aD,aD]
       ·erw[5,Z,aD,aD]
       ·erw[1+z1,Z,aw,aw]
       ·erw[z2,Z,aw,aw]
       ·erw[0,Z,aD,aD]
      have Kf:H5 ln=some (.lst [V.int 1,.int 2,.int 5,.int (1+z1),.int z2,.int 0]):=b5.same _ _ (λz=>((L3.iA b2).iA b3).here _ (.inr Z) (z▸n4.no)) n4.at';erw[.inl #[ln,_,ix,_,Z,Z,aK.of Kf,vP,?_]];let(wx,K3,MN,JB,FY,vI):=L5.run.ob;erw[_,Z,A1.a,wx,_,Z,vI.1,Z,_,Z,A1.a,A1.q,M,_,_,n',Z,L5.run,L5.ok,aM,n0,aw,λl us es S' q' H6 nl dl rd run he mz R6 iD lq=>?_];erw[_,Z,_,Z,_,Z,A1.d,A1.e,A1.t,M,_,_,n',Z,L5.mid iD.but,L5.ok,aM,n0,aw,λl2 O7 VQ S2 H7 Dh wA mR qq AE AD Z7 b7=>?_];let(e1,e2):=run.MD he mz qq AE AD;subst e1 e2;let(_,_,lQ,m7,_,_):=L5.ents aM R6 iD nl dl lq rd run Z7 b7 (aH.refl _) aw;erw[_,_,.list es,Z,jO (aK.of lQ) m7,jO (aK.of wA) mR,Mp L5.ok aM run aw,λH8 s8=>#[_,Z,bK ?_]];let(L8,wF,_,_,lA,To):=L5.ents aM R6 iD nl dl lq rd run Z7 b7 s8 aw;have nY:=s8 _ _ lQ;have rd8:=aO.mono s8 _ m7;have m8:g9 T p A1 {A1 with q:=q'} H3 H8:=g9.trans L5 (.of ur) (.q wF iD.nq);erw[λ_ HA=>bL K C T jB HA M (n+2) {A1 with q:=q'} p S'/\g9 T p A1 {A1 with q:=q'} H3 HA,?_,?_]
      ·erw[_,Z,_,_,Z,Z,?_,.inl #[_,_,Z,Z,_,Z,?_]]
       ·exact(by decide:(0:Int)<2)
       erw[eL (λh1=>?_) (λh1=>?_)]
       ·erw[_,Z,.inl #[Z,_,aK.of nY],l,us,Z,Z,nY,?_]
        have bl:aX [l] H8 (_L.upd H8 l (.lst [])):=o8 (by simp);have bb:aX (T::p::A1.all) H3 (_L.upd H8 l (.lst [])):=λx o e hx=>bl _ _ (m8.but _ _ e hx) λm=>by have e5:=ur x o e hx;rw[bW.mp m,nl]at e5;cases e5
        erw[(L8.free To lA nY bl).mono aw aw,#[m8.a,m8.d,bb,m8.nw]]
       ·let(mvA,lvA,gvA,ZP,bvA,cvA,rvA,Kz):=L8.sim.ob
        let(ts,Eb):=L8.told;erw[_,Z,A1.d,_,Z,dg Kz.1 Eo,.inl #[Z,_,aK.of Eb.1],?_];erw[_,Z,_,Z,l,us,Z,.inl #[aK.of nY,λtt HB nB=>?_]];erw[bU Z,λtp HC nC=>?_];have sQ:=nB.same.trans nC.same;have jY:sizeLine=16777216:=by decide
        have Dq:=Eb.2.1;erw[A1.t,ts,_,Z,Z,sQ _ _ Eb.1,aw,?_];let(LD,bD):=L8.tell lA nY rd8 (VP (λd hd=>(run.ent L5.ok aM d hd).1) (run.no L5.ok aM)) sQ ((aV.of nB.at').go nC.same) (aV.of nC.at') (sQ _ _ Eb.1) aw;erw[LD,g9.trans L8 m8 (.of bD)]
      ·rintro O HA ⟨LA,mA⟩
       erw[Aq _ S' HA (LA.mono aw aw) (run.qz L5.ok aM o2) mA]
end
section
theorem jx{H:Hp}{x y:Addr}(hx:H x≠none)(hy:H y=none):x≠y:=λe=>hx (by rw[e];erw[hy])
theorem GA(s:aH H H')(hx:H x≠none):H' x≠none:=by cases h:H x with |none=>exact(hx h).elim |some o=>rw[s _ _ h];simp
theorem aH.but(s:aH H0 H)(b:aX S H H')(hn:∀x∈S,H0 x=none):aH H0 H':=λb' o e=>b _ _ (s _ _ e) (λhm=>by rw[hn _ hm]at e;cases e)
theorem bL.first{pl:List Int}(hT:H5 T=some (.fq #[]))(bg:fm H5 p)(nx:H5 x=none)(vj:H5 q0=none)(R6:cB K C H6 x q0 M (lY pl))(s6:aH H5 H6)(Z0:cM K H9 d0 e0 t0 M (lY pl))(T0:H9 t0=some (.lst []))(jz:H6 d0=none)(oO:H6 e0=none)(oN:H6 t0=none)(g1:d0≠t0)(g2:e0≠t0)(s9:aH H6 H9)(on:fh M.rs pl)(hl:pl.length=M.rs.length):bL K C T qn H9 M 0 #[x,q0,d0,e0,t0] p (lY pl):=by
 have px:H6 x≠none:=by let(_,_,_,_,_,e,_):=R6.ob;rw[e];simp
 have pq:H6 q0≠none:=by let(_,e,_):=R6.qu;rw[e];simp
 have pb:H5 p≠none:=by let(c,m,e,_):=bg;rw[e];simp
 have JC:=GA s6 pb;erw[R6.same Z s9,Z0,RJ hl,sm0 pl,#[[],T0,gK _,nofun],?_,.first (s9 _ _ (s6 _ _ hT)),on,?_,?_]
 ·simp only[Ad.all,nv,bJ,cD,cX,oh,List.nodup_nil,not_false_eq_true,and_true]
  erw[#[R6.ne,jx px jz,jx px oO,jx px oN],#[jx pq jz,jx pq oO,jx pq oN],#[Z0.ne,g1],g2]
 ·let(c,m,e,k):=bg
  erw[c,m,s9 _ _ (s6 _ _ e),k]
 ·simp only[Ad.all,bJ,cD,cX,oh]
  erw[jx pb nx,jx pb vj,jx JC jz,jx JC oO,jx JC oN]
def oa(K:aa)(H:Hp)(a:Addr)(qk:List Int)(L:List Addr):Prop:=(∀H2,aK K H2 a (qk.map V.int))\/(aK K H a (qk.map V.int)/\(∃o,H a=some o)/\a∉L)
theorem oa.Gy(h:oa K H a qk L):aK K H a (qk.map V.int):=h.elim (λh=>h H) λh=>h.1
theorem oa.but(h:oa K H a qk L)(b:aX L H H')(hn:∀x,x∈L'->x∈L\/H x=none):oa K H' a qk L':=by
 rcases h with h|⟨h1,⟨o,e⟩,h3⟩
 ·erw[.inl h]
 ·erw[.inr #[?_,#[o,b _ _ e h3],λm=>(hn a m).elim h3 λz=>by rw[z]at e;cases e]]
  rcases h1 with h1|h1
  ·erw[.inl (h1.imp (λz=>b _ _ z h3) λ#[o',z]=>#[o',b _ _ z h3])]
  ·erw[.inr h1]
end
section
def yU(far:Int)(i:Nat):List Int:=if i%4=0 then[0,0]else if i%4=1 then[far,0]else if i%4=2 then[far,far]else[0,far]
def cst(far:Int)(i:Nat):List Int:=if i%4=0 then[far,0]else if i%4=1 then[0,far]else if i%4=2 then[-far,0]else[0,-far]
theorem Wx(far:Int)(i:Nat):fg (yU far i) (cst far i)=yU far (i+1):=by
 unfold yU cst;rcases(show i%4=0\/i%4=1\/i%4=2\/i%4=3 by lia)with h|h|h|h
 ·rw[h,show(i+1)%4=1 by lia];simp[fg]
 ·rw[h,show(i+1)%4=2 by lia];simp[fg]
 ·rw[h,show(i+1)%4=3 by lia];simp[fg];lia
 ·rw[h,show(i+1)%4=0 by lia];simp[fg];lia
theorem Wy(h1:0<=far)(h2:far<=100)(i:Nat):fh [100,100] (yU far i):=by
 unfold yU;split
 ·erw[Z,λj x r e1 e2=>?_]
  match j,e1,e2 with |0,e1,e2=>cases e1;cases e2;lia |1,e1,e2=>cases e1;cases e2;lia
 ·split
  ·erw[Z,λj x r e1 e2=>?_]
   match j,e1,e2 with |0,e1,e2=>cases e1;cases e2;lia |1,e1,e2=>cases e1;cases e2;lia
  ·split
   ·erw[Z,λj x r e1 e2=>?_]
    match j,e1,e2 with |0,e1,e2=>cases e1;cases e2;lia |1,e1,e2=>cases e1;cases e2;lia
   ·erw[Z,λj x r e1 e2=>?_]
    match j,e1,e2 with |0,e1,e2=>cases e1;cases e2;lia |1,e1,e2=>cases e1;cases e2;lia
theorem abK(h1:1<=far)(h2:far<=100)(i:Nat):fM 2 100 (cst far i):=by
 unfold cst;split
 ·erw[Z,λz hz=>by simp at hz;rcases hz with rfl|rfl<;>lia,far,by simp,aw]
 ·split
  ·erw[Z,λz hz=>by simp at hz;rcases hz with rfl|rfl<;>lia,far,by simp,aw]
  ·split
   ·erw[Z,λz hz=>by simp at hz;rcases hz with rfl|rfl<;>lia,-far,by simp,aw]
   ·erw[Z,λz hz=>by simp at hz;rcases hz with rfl|rfl<;>lia,-far,by simp,aw]
def MI(far:Int):List ai:=[.tuple [.int far,.int 0],.tuple [.int 0,.int far],.tuple [.int (-far),.int 0],.tuple [.int 0,.int (-far)]]
theorem abL(far:Int)(i:Nat):(MI far)[i%4]? =some (.tuple ((cst far i).map PyData.int)):=by unfold cst MI;rcases(show i%4=0\/i%4=1\/i%4=2\/i%4=3 by omega)with h|h|h|h<;>rw[h]<;>rfl
theorem VL(h:∀O H,G O H->O[j]? =some (some (.int z))):Ev K G (C9 (rU λi=>.int (-i)) (lH j)) (.int (-z)):=λO H _ g k=>#[_,h O H g,_,Z,k _ _ (cF _) (aH.refl _)]
theorem a1w(f j r r':Int):xH f j r []=xH f j r' []:=rfl
theorem cM.aE{t:Addr}(aht:cM K H d e t M S)(SH:S.os=[])(no:du S.ds=true):∃aU,(∃o,H d=some (.dK o)/\putK o (.inr "rate") (.int z)=aU/\o.length<=13)/\cM K (_L.upd H d (.dK aU)) d e t M {S with aE:=z}/\gE aU (.inr "rate")=some (.int z):=by
 have dq:=aht.ne;let((mv,lv,gv,sv,bv,cv,rv,e1,r1,r2,r3,r4,r5,r6),ys,eq,rq):=aht;erw[_,#[_,e1,Sq,iC],?_,Ep];have v:cm H (_L.upd H d (.dK (bT mv lv gv sv (.int z) (.str S.side) (.str S.mark) (.ref e) (.int S.dn) bv cv rv (.ref t)))):=.upd e1 trivial;erw[#[mv,lv,gv,sv,bv,cv,rv,bo,RD.v v _ (iE _ _ _ _ _) r1,RD.v v _ (gd _) r2,RD.v v _ (gd _) r3,r4.v v,r5.v v,?_],ys,by rw[aR dq.symm];erw[eq],aO.v v _ no rq];refine(r6.v v).imp id λh=>?_;have:fR M {S with aE:=z}=fR M S:=by unfold fR;show xH M.f M.j z S.os=xH M.f M.j S.aE S.os;rw[SH];erw[a1w _ _ _ _]
 rw[this];erw[h]
end
section
inductive aeF(T:Addr)(vs:List V)(H:Hp)(Q:VK):Prop |mk (p:_)(h0:vs=[.ref p])(h1:fm H p)(h2:H T=some (.fq #[]))(h3:∀H',bS p H H'->Q (.bl true) H')
def Pj(K:aa)(T:Addr):Sp:=λvs H Q _=>aeF T vs H Q
theorem bS.but(b:bS p H H1)(c:aX L H1 H2)(hn:∀x∈L,H x=none)(hp:p∉L):bS p H H2:=#[b.bu.but c hp,λx o n e=>c _ _ (b.same x o n e) λm=>by rw[hn x m]at e;cases e]
theorem aaU{t:TE}{D:Ends}(h:Ev K G t d)(g:G O H)(k:∀v H',RD K H' v d->aH H H'->t2 O H' λy H2=>r v y H2 λz H3=>ta O H3 λxs H4=>(v0::z::xs).length<=sizeLine/\∀p H5,Nw H4 H5 p (.tup (v0::z::xs))->rest D (O.set i (some (.ref p))) H5):uN (xi (G4 (sM (tC v0) (sM (sJ r t t2) ta))) (fK i)) rest D O H:=h O H _ g k
theorem QU:bN ["_law_bag_here","_law_machine_here","_law_runner","_law_sim_here","_law_far","_law_turn","_law_item","_law_n"] ["_law_bag_here"] (bj IG):=bZ bf
theorem a4k(F:FA K mg "_law_circuit_right" IG)(B:cn mg)(TC:fX K C)(dv:aJ P w K mg aB "_law_take" 1 oz)(LF:Bo P w K mg aB C "Runner" 1 (Gh K C))(LP:aJ P w K mg aB "_law_sim" 1 (Ga K))(LH:cS P w K mg aB C "turn_rate" 4 (P0 K C))(jj:aJ P w K mg aB "_law_alike" 5 (xA (Nx (Nx (Nx (Nx A0)))) K))(LL:cS P w K mg aB C "feed" 5 (P7 K C))(LO:aJ P w K mg aB "_law_sim_feed" 1 (Gd K))(Ec:cS P w K mg aB C "entries" 12 (Gi K C))(Ee:aJ P w K mg aB "_law_sim_entries" 6 (Ge K))(Ef:aJ P w K mg aB "_law_seen" 6 (Cm K C)):aJ P w K mg aB "_law_circuit_right" 13 (Pj K T):=by
 erw[F.has QU (λvs H Q E h=>?_) (λ_ _ _ _ _ _=>fj λ_=>rfl) (λfa aQ A outer s H vs Q E hr h=>?_)]
 ·let(p,rfl,_):=h
  rfl
 ·let(p,rfl,bg,hT,k):=h
  have nd:=QU.nd;erw[_,(aG (pS 1 nd (cQ (au (cQ (au aF (au aF az))) (au (aL cZ aF (pf dv hr (au (pv 0) (au aF az)))) (au (aL cZ aF (pf dv hr (au (pv 0) (au aF az)))) (au (aL cZ aF (pf dv hr (au (pv 0) (au aF az)))) (au aF az))))))) (aG (pS 2 nd (Si LF (hr.mono aD) Z (au (pv 1) (au (cQ (au aF (au aF az))) az)))) (aG (pS 3 nd (pf LP hr (au (pv 1) (au (cQ (au aF (au aF az))) az)))) (aG (jQ (fi hr.units) (pv 3) bh (aL cZ aF (pf dv hr (au (pv 0) (au aF az)))) Z) (aG (ie (tj LH TC.cl (hr.mono aD) (pv 2) (au (cR hr (pv 3) bh) az))) (aG (pS 4 nd (aL cZ aF (pf dv hr (au (pv 0) (au aF az))))) (aG (m9 iJ Z (xN Z (B.at "range") (au (aL cZ aF (pf dv hr (au (pv 0) (au aF az)))) az)) (bR 5 nd) (aG (pS 6 nd (cQ (au bh (au (px K (dC (au (cQ (au (pv 4) (au aF az))) (au (cQ (au aF (au (pv 4) az))) (au (cQ (au (qw pY (pv 4)) (au aF az))) (au (cQ (au aF (au (qw pY (pv 4)) az))) az))))) (aL nL (pv 5) aF)) (au (aL cZ aF (pf dv hr (au (pv 0) (au aF az)))) az))))) (aI (bQ (dX (cP (pf jj hr (au (tj LL TC.cl (hr.mono aD) (pv 2) (au (pv 6) az)) (au (pf LO hr (au (pv 3) (au (pv 6) az))) az))))) (aI (aZ gL)) bV)))) (aG (pS 7 nd (aL cZ aF (pf dv hr (au (pv 0) (au aF az))))) (aI (aZ (j9 (pf jj hr (au (tj Ec TC.cl (hr.mono aD) (pv 2) (au (pv 7) az)) (au (pf Ee hr (au (pv 3) (au (pv 7) az))) az))) (j6 (pf Ef hr (au (pv 2) (au (pv 3) az))))))))))))))),?_];have Tp:T≠p:=λz=>by let(c,m,e,_):=bg;rw[<-z,hT]at e;cases e
  erw[bU Z,λt1 H1 n1=>?_];have b1:bS p H H1:=.fT bg n1.same;erw[_,Z,p,50,Z,b1.bu,aD,aD,λr0 H2 r00 r01 b2=>#[_,_,Z,Z,?_]];erw[_,Z,p,3,Z,b2.bu,aD,aD,λf0 H3 f00 f01 b3=>#[_,_,Z,Z,?_]];erw[_,Z,p,11,Z,b3.bu,aD,aD,λj0 H4 j00 j01 b4=>#[_,_,Z,Z,?_]];erw[bU Z,λtm H5 n5=>?_];have Bb:bS p H1 H4:=(b2.trans b3).trans b4;have b5:bS p H H5:=(b1.trans Bb).trans (.fT b4.bu n5.same);obtain⟨M,eM⟩:∃M:bP,M=#[[100,100],1+r0,1+f0,40+j0,100]:=#[_,Z];have lL:M.Ok:=by rw[eM];erw[.inl Z,λz hz=>by simp at hz;lia,#[by show 1<=1+r0;lia,by show 1+r0<=50;lia],#[by show 1<=1+f0;lia,by show 1+f0<=50;lia],#[by show 1<=40+j0;lia,by show 40+j0<=50;lia],#[by show(1:Int)<=100;decide,by show(100:Int)<=100;decide]]
  have rM:M.rs=[100,100]:=by rw[eM]
  have ZI:t1≠p:=λz=>bg.ne (z▸n1.no);have J6:RD K H5 (.ref tm) M.D:=by rw[eM];erw[gR (aV.of n5.at') (cj (gR (aV.of (n5.same _ _ (Bb.same _ _ ZI n1.at'))) (cj (cF _) (cj (cF _) dc))) (cj (cF _) (cj (cF _) (cj (cF _) (cj (cF _) dc)))))]
  erw[_,Z,bU Z,λt2 H6 n6=>?_];have b6:bS p H H6:=b5.trans (.fT b5.bu n6.same);have RL:=RD.mono n6.same _ J6;have rp6:RD K H6 (.ref t2) (fF [0,0]):=gR (aV.of n6.at') (cj (cF _) (cj (cF _) dc));erw[λx dx nx vo vn=>#[x,dx,.ref tm,.ref t2,M,[0,0],Z,bo,?_,?_,λq0 H7 R7 vj b7=>?_]]
  ·erw[RD.mono (aH.new vo|>.trans (aH.new (by rw[aR vn.symm];erw[nx]))) _ RL]
  ·erw[RD.mono (aH.new vo|>.trans (aH.new (by rw[aR vn.symm];erw[nx]))) _ rp6]
  have Po:aH H6 (_L.upd (_L.upd H6 dx (.own x)) x (.ins C dx [])):=aH.new vo|>.trans (aH.new (by rw[aR vn.symm];erw[nx]));have s7:aH H6 H7:=aH.but Po b7 (by simpa using nx);have JT:H6 q0=none:=same_none Po vj;erw[Z,?_];erw[_,Z,bU Z,λt3 H8 n8=>?_];have s8:=s7.trans n8.same;erw[.ref tm,.ref t3,M,[0,0],Z,RD.mono s8 _ RL,gR (aV.of n8.at') (cj (cF _) (cj (cF _) dc)),λd0 e0 t0 H9 Z0 T0 jz oO oN g1 g2 s9=>?_];have tF:fh M.rs [0,0]:=by rw[rM];erw[Wy (far:=1) aD aD 0]
  have L9:bL K C T jB H9 M 0 #[x,q0,d0,e0,t0] p (lY [0,0]):=bL.first (b6.same _ _ Tp hT) b6.bu nx JT (R7.same rfl n8.same) s8 Z0 T0 jz oO oN g1 g2 s9 tF tF.len;have b9:bS p H H9:=b6.trans (.fT b6.bu (s8.trans s9));have fr:∀y∈[x,q0,d0,e0,t0],H y=none:=λy hy=>by
   have back:∀{X:Hp}{y:Addr},bS p H X->y≠p->X y=none->H y=none:=λ{X y} b hn hy=>by cases e:H y with |none=>rfl |some o=>rw[b.same y o hn e]at hy;cases hy
   have b8:bS p H H8:=b6.trans (.fT b6.bu s8);have np:∀{X:Hp}{y:Addr},bS p H X->X y=none->y≠p:=λ{X y} b hy z=>b.bu.ne (by rw[<-z];erw[hy]);simp only[bJ,cD,cX]at hy;rcases hy with rfl|rfl|rfl|rfl|rfl
   ·erw[back b6 (np b6 nx) nx]
   ·erw[back b6 (np b6 JT) JT]
   ·erw[back b8 (np b8 jz) jz]
   ·erw[back b8 (np b8 oO) oO]
   ·erw[back b8 (np b8 oN) oN]
  obtain⟨dH,eA⟩:∃A:Ad,A=#[x,q0,d0,e0,t0]:=#[_,Z];have ex:x=dH.a:=by rw[eA]
  have ed:d0=dH.d:=by rw[eA]
  have Na:bL K C T jB H9 M 0 dH p (lY [0,0]):=by rw[eA];erw[L9]
  have frA:∀y∈dH.all,H y=none:=by rw[eA];erw[fr]
  have npA:=Na.np;have qX:∀{L:List Addr},(∀y∈L,y∈dH.all)->(∀y∈L,H y=none)/\p∉L:=λh=>#[λy hy=>frA y (h y hy),λm=>npA (h p m)];rw[ex,ed];clear L9 fr;erw[_,Z,p,51,Z,Na.bu,aD,aD,λz Ha z0 z1 ba=>#[_,_,Z,Z,?_]];have La:=Na.iA ba;let(aU,(o,eo,ek,lo),Zb,gv):=cM.aE (z:=150+z) La.sim Z rfl;erw[_,Z,dH.d,_,Z,dp eo ek lo,?_];have bb:aX [dH.d] Ha (_L.upd Ha dH.d (.dK aU)):=o8 (by simp);have eb:(_L.upd Ha dH.d (.dK aU)) dH.d=some (.dK aU):=bo;generalize _L.upd Ha dH.d (.dK aU)=Hb at bb eb Zb⊢;have Rb:=La.Em bb;let(dxb,mvb,bvb,ag3,tvb,hrb):=Rb.ob;have gy:cu M (64+10*(0+1)) {lY [0,0]with aE:=150+z}:=by have o:=RJ (M:=M) (pl:=[0,0]) tF.len;erw[cu.mono (D:=64) #[o.row,o.rw,o.len,by show 10<=150+z;lia,by show 150+z<=200;lia,o.dn,o.pl,o.pd,o.pm,o.aY,o.D1,o.D2] aw aw]
  erw[_,Z,dH.a,dxb,_,Z,hrb.1,Z,_,Z,dH.d,_,Z,dg eb gv,dH.a,dH.q,M,_,_,150+z,Z,Rb,La.ok,lL,aw,aw,Z,λHc Rc bc=>?_];let(Lc,_):=La.Vz bb Zb Rc bc gy La.sm tF;have Ry:=qX (L:=[dH.d]) λy hy=>by rw[bW.mp hy];simp[Ad.all]
  have Rz:=qX (L:=[dH.a]) λy hy=>by rw[bW.mp hy];simp[Ad.all]
  have xc:bS p H Hc:=((b9.trans ba).but bb Ry.1 Ry.2).but bc Rz.1 Rz.2;erw[_,Z,p,21,Z,Lc.bu,aD,aD,λf1 Hd yL yK bd=>#[_,_,Z,Z,?_]];have Ld:=Lc.iA bd;obtain⟨far,Ll,AW,yJ⟩:∃far:Int,80+f1=far/\1<=far/\far<=100:=#[_,Z,aw,aw];rw[Ll];erw[_,Z,p,13,Z,Ld.bu,aD,aD,λnn He jx nn1 be=>#[_,_,Z,Z,_,Z,aw,aw,?_]];erw[AS (Pv:=λi O H2=>∃S,bL K C T jB H2 M (i+1) dH p S/\S.ds.length=i/\cL S=yU far i/\bS p H H2/\∃v5 v6,O=cZ9 (.ref p) (cZ9 (.ref tm) (cZ9 (.ref dH.a) (cZ9 (.ref dH.d) (cZ9 (.int far) (v5::v6::none::[])))))) ?_ ?_ ?_]
  ·erw[_,Ld.iA be,Z,Z,(xc.trans bd).trans be,none,none,Z]
  ·rintro i O H2 hi ⟨S,jF,hl,hg,x2,v5,v6,rfl⟩
   have agN:i<20:=by lia
   have sG:N3 (λ(O:_L.St)(_:Hp)=>O[4]? =some (some (.int far))):=λ_ _ _ g _=>g;have v4:∀{O:_L.St}{H:Hp},O[4]? =some (some (.int far))->∃v,O[4]? =some (some v)/\RD K H v (.int far):=λg=>#[_,g,cF _];erw[aaU (G:=λO _=>O[4]? =some (some (.int far))) (d:=.list (MI far)) (Mj (gk sG (yN (gk sG (VH λ_ _ g=>v4 g) (gk sG (rn _) rj))) (gk sG (yN (gk sG (rn _) (gk sG (VH λ_ _ g=>v4 g) rj))) (gk sG (yN (gk sG (VL λ_ _ g=>g) (gk sG (rn _) rj))) (gk sG (yN (gk sG (rn _) (gk sG (VL λ_ _ g=>g) rj))) rj))))) Z λlv H3 r3 s3=>?_];let(l,xs,rfl,hl3,rl):=r3.lst_inv;let(v,Ml,rv):=aO.get (i%4) rl (abL far i);have vW:fW xs ((0+(i:Int))%4)=some v:=dQ aw (by rw[show((0+(i:Int))%4).toNat=i%4 by lia];erw[Ml]);have L3:=jF.same s3;erw[_,Z,_,_,Z,Z,(by decide:(0:Int)<4),.inl #[l,_,_,v,Z,Z,hl3,vW,?_]];erw[_,Z,p,6,Z,L3.bu,aD,aD,λsp H4 sp0 hZ b4=>#[_,_,Z,Z,bU Z,λti H5 n5=>?_]];have L5:=(L3.iA b4).same n5.same;have x5:bS p H H5:=((x2.trans (.fT jF.bu s3)).trans b4).trans (.fT b4.bu n5.same);have nI:fQ (.tuple ((cst far i).map PyData.int))=true:=by rw[fQ];erw[iM.mpr λd hd=>by let(z,_,rfl):=kh.mp hd;rfl]
   have rI:RD K H5 (.ref ti) (iP (cst far i) (15+sp)):=gR (aV.of n5.at') (cj (df _) (cj (RD.mono n5.same _ (RD.t (bS.t L3.bu b4) _ nI rv)) (cj (cF _) dc)));have it:nk M.rs.length (iP (cst far i) (15+sp)) (some (cst far i,15+sp)):=Uq (by rw[rM];erw[abK AW yJ i]) aw aw;have kO:fh M.rs (gz (cL S) (some (cst far i,15+sp))):=by show fh M.rs (fg (cL S) (cst far i));rw[hg,Wx,rM];erw[Wy aw yJ _]
   have cK:S.ds.length<20:=by lia
   let(wx,K3,MN,JB,FY,vI):=L5.run.ob;erw[_,Z,dH.a,wx,_,Z,vI.1,Z,_,Z,dH.a,dH.q,M,_,S,.ref ti,_,some (cst far i,15+sp),Z,L5.run,L5.ok,lL,rI,it,kO,cK,λH6 R6 b6=>?_];erw[_,Z,_,Z,dH.d,dH.e,dH.t,M,_,S,.ref ti,_,some (cst far i,15+sp),Z,L5.mid b6,L5.ok,lL,RD.v (L5.v (b6.mono xk)) _ it.it.no rI,it,λho=>?_,λ_ kW=>absurd kW aw,λ_ _ H7 Z7 b7=>?_]
   ·rw[(JK (wC (Ek L5.ok) λns sp eo=>(it.ln ns sp eo).1.len)).mpr kO]at ho;cases ho
   erw[_,_,.int _,Z,cF _,cF _,ku _,λH8 s8=>#[_,Z,bK ?_]];let(L7,_):=L5.fin R6 b6 (.inl Z) Z7 b7 ((L5.ok.AV it cK).mono aw aw) L5.sm (by rw[El];erw[kO]);have sa:=qX (L:=[dH.a,dH.q]) λy hy=>by simp only[Ad.all,bJ,cD,cX]at hy⊢;rcases hy with z|z<;>simp[z]
   have sd:=qX (L:=[dH.d,dH.e]) λy hy=>by simp only[Ad.all,bJ,cD,cX]at hy⊢;rcases hy with z|z<;>simp[z]
   have x7:=(x5.but b6 sa.1 sa.2).but b7 sd.1 sd.2;erw[_,L7.same s8,?_,?_,x7.trans (.fT x7.bu s8),_,_,Z]
   ·show(S.ds++[_]).length=i+1
    rw[fN,hl];rfl
   ·rw[El]
    show fg (cL S) (cst far i)=_;rw[hg,Wx]
  ·rintro O H2 ⟨S,jF,hl,hg,x2,v5,v6,rfl⟩
   erw[_,Z,p,61,Z,jF.bu,aD,aD,λn0 H3 n00 n01 b3=>#[_,_,Z,Z,?_]];have L3:=jF.iA b3;have hn:(8+nn).toNat<=20:=by lia
   let(wx,K3,MN,JB,FY,vI):=L3.run.ob;erw[_,Z,dH.a,wx,_,Z,vI.1,Z,_,Z,dH.a,dH.q,M,_,_,40+n0,Z,L3.run,L3.ok,lL,aw,aw,λl us es S' q' H6 nl dl rd run he mz R6 iD lq=>?_];erw[_,Z,_,Z,dH.d,dH.e,dH.t,M,_,_,40+n0,Z,L3.mid iD.but,L3.ok,lL,aw,aw,λl2 O7 VQ S2 H7 Dh wA mR qq AE AD Z7 b7=>?_];let(e1,e2):=run.MD he mz qq AE AD;subst e1 e2;let(_,_,lQ,m7,_,_):=L3.ents lL R6 iD nl dl lq rd run Z7 b7 (aH.refl _) aw;erw[_,_,.list es,Z,jO (aK.of lQ) m7,jO (aK.of wA) mR,Mp L3.ok lL run aw,λH8 s8=>#[_,Z,cx ?_]];let(L8,_):=L3.ents lL R6 iD nl dl lq rd run Z7 b7 s8 aw;have sa:=qX (L:=[dH.a,dH.q]) λy hy=>by simp only[Ad.all,bJ,cD,cX]at hy⊢;rcases hy with z|z<;>simp[z]
   have sd:=qX (L:=[dH.d,dH.e]) λy hy=>by simp only[Ad.all,bJ,cD,cX]at hy⊢;rcases hy with z|z<;>simp[z]
   have x7:=(((x2.trans b3).but iD.but sa.1 sa.2).but b7 sd.1 sd.2);have x8:bS p H H8:=x7.trans (.fT x7.bu s8);have Tj:=L8.nd;simp only[Ad.all,nv,bJ,cD,cX,oh]at Tj;let((t1',t2',t3',ZH),(t5',t6',ZG),(t8',ZC),ZM,_):=Tj;have st:=qX (L:=[dH.t]) λy hy=>by rw[bW.mp hy];simp[Ad.all]
   erw[_,Z,_,Z,dH.a,q',dH.d,dH.e,dH.t,M,_,S',_,_,Z,L8.run,L8.sim,L8.ok,lL,L8.sm,L8.told,aw,aw,λy hy=>L8.here y hy,.inl (by simp[Ad.all]),dy ZH,dy ZG,dy ZC,dy ZM,λH9' rF _=>k _ (x8.but rF st.1 st.2)]
end
section
theorem a6E{D:Ends}(G:Hp->Prop)(h:(∀H',G H'->rest D O H')->uN (zD c ts uO) rest D O H)(hr:∀H',G H'->rest D O H'):uN (zD c ts uO) rest D O H:=h hr
theorem QD:bN ["_law_script","_law_bag_here","_law_machine_here","_law_place_here","_law_runner","_law_sim_here","_law_far","_law_k","_law_quiet"] ["_law_script"] (bj xD):=bZ bf
theorem a45(F:lB K "law" "law" xD f fd)(TC:fX K C)(B:cn mg)(Vc:aJ P w K mg aB "_law_bag" 1 (Pl K))(dv:aJ P w K mg aB "_law_take" 1 oz)(a8Z:aJ P w K mg aB "_law_machine" 2 (Pe K))(a8X:aJ P w K mg aB "_law_place" 2 (P9 K))(LF:Bo P w K mg aB C "Runner" 1 (Gh K C))(LP:aJ P w K mg aB "_law_sim" 1 (Ga K))(a92:aJ P w K mg aB "_law_deed" 13 (Ph K C T))(Ef:aJ P w K mg aB "_law_seen" 6 (Cm K C))(a93:aJ P w K mg aB "_law_circuit_right" 13 (Pj K T)):jG P w K mg aB ka 14 f fd ["_law_script"] (Gn K T):=by
 erw[F.ok QD (λvs H Q E h=>?_) (λaQ A outer s H vs Q E hr h=>?_)]
 ·let(a,ns,rfl,_):=h
  rfl
 ·let(a,ns,rfl,hS,hlen,hT,k):=h
  have nd:=QD.nd;erw[_,(aG (pS 1 nd (pf Vc hr (au (pv 0) (au aF az)))) (aG (bQ (PW.pt (oJ (cy (dF K Z hr.units) (pf dv hr (au (pv 1) (au aF az))) aF (bM _)) (sX (dX (cP (pf a93 hr (au (pv 1) az))))))) (aI (aZ gL)) bV) (aG (pS 2 nd (pf a8Z hr (au (pv 1) az))) (aG (pS 3 nd (pf a8X hr (au (pv 1) (au (pv 2) az)))) (aG (pS 4 nd (Si LF (hr.mono aD) Z (au (pv 2) (au (pv 3) az)))) (aG (pS 5 nd (pf LP hr (au (pv 2) (au (pv 3) az)))) (aG (pS 6 nd (px K (dC (au aF (au aF (au aF az)))) (pf dv hr (au (pv 1) (au aF az))))) (aG (m9 iJ Z (xN Z (B.at "range") (au (eG (x:="max") (WW rfl) rfl (B.at "max") Fv (au aF (au (eG (x:="min") (MM rfl) rfl (B.at "min") XY (au (eK K B (au (pv 0) az)) (au aF az))) az))) az)) (bR 7 nd) (aG (pS 1 nd (pf Vc hr (au (pv 0) (au (aL cZ (pv 7) aF) az)))) (aG (pS 8 nd (fS (dF K Z hr.units) (pf dv hr (au (pv 1) (au aF az))) aF (bM _))) (aI (bQ (PW.pt (kM (dX (cP (pf a92 hr (au (pv 1) (au (pv 4) (au (pv 5) (au (pv 6) az))))))) (lK (PW.pt (oJ (dX (cP (pv 8))) (sX (dX (cP (pf Ef hr (au (pv 4) (au (pv 5) az))))))))))) (aI (aZ gL)) bV))))) (aI (aZ (pf Ef hr (au (pv 4) (au (pv 5) az))))))))))))),?_];erw[_,Z,a,ns,_,Z,hS,hlen,aw,aw,λp H3 np yZ s3=>?_];have Tp:T≠p:=λz=>by rw[<-z,hT]at np;cases np
  dsimp only[uO];erw[a6E (λH'=>bS p H3 H') (λqK=>?_) (λG1 bG=>?_)]
  ·erw[_,Z,p,6,Z,yZ,aD,aD,λz H4 z0 z1 b4=>.inl #[_,_,Z,Z,_,Z,?_]]
   erw[eL (λh6=>?_) (λh6=>qK _ b4)];erw[_,Z,p,Z,b4.bu,b4.same _ _ Tp (s3 _ _ hT),λH5 b5=>#[_,Z,bK (qK _ (b4.trans b5))]]
  have s3:aH H G1:=bS.GB s3 np bG;have yZ:=bG.bu;erw[_,Z,p,Z,yZ,λmv rs r f j ti H4 rm aM b4=>?_];have nm:=iE rs r f j ti;erw[_,Z,_,Z,p,mv,rs,r,f,j,ti,Z,b4.bu,rm,aM,λJw pl H5 zU on b5=>?_];have J6:=RD.t (bS.t b4.bu b5) _ nm rm;obtain⟨M,RK,lL,eRs⟩:∃M:bP,RD K H5 mv M.D/\M.Ok/\M.rs=rs:=#[#[rs,r,f,j,ti],J6,aM,Z];have tF:fh M.rs pl:=by rw[eRs];erw[on]
  have s5:aH H H5:=bS.GB (bS.GB s3 np b4) np b5;erw[_,Z,_,Z,λx dx nx vo vn=>#[x,dx,mv,Jw,M,pl,Z,bo,?_,?_,λq0 H6 R6 vj b6=>?_]]
  ·erw[RD.mono (aH.new vo|>.trans (aH.new (by rw[aR vn.symm];erw[nx]))) _ RK]
  ·erw[RD.mono (aH.new vo|>.trans (aH.new (by rw[aR vn.symm];erw[nx]))) _ zU]
  have Pp:aH H5 (_L.upd (_L.upd H5 dx (.own x)) x (.ins C dx [])):=aH.new vo|>.trans (aH.new (by rw[aR vn.symm];erw[nx]));have s6:aH H5 H6:=aH.but Pp b6 (by simpa using nx);have SV:H5 q0=none:=same_none Pp vj;erw[Z,?_];erw[_,Z,_,Z,mv,Jw,M,pl,Z,RD.mono s6 _ RK,RD.mono s6 _ zU,λd0 e0 t0 H9 Z0 T0 jz oO oN g1 g2 s9=>?_];have L9:bL K C T jB H9 M 0 #[x,q0,d0,e0,t0] p (lY pl):=bL.first (s5 _ _ hT) b5.bu nx SV R6 s6 Z0 T0 jz oO oN g1 g2 s9 tF tF.len;have RC:=s5.trans (s6.trans s9);have Sc9:oa K H9 a ns (T::p::[x,q0,d0,e0,t0]):=by
   rcases hS with hS|hS
   ·have ha:H a≠none:=by rcases hS with e|⟨o,e⟩<;>(rw[e];simp)
    let(o,e):=Option.ne_none_iff_exists'.mp ha;erw[.inr #[RC.seq (.inl hS),#[o,RC _ _ e],λm=>?_]];have Lx:=GA s5 ha;have Lv:=GA s6 Lx;simp only[bJ,cD,cX]at m;rcases m with z|z|z|z|z|z|z
    ·rw[z]at hS
     rcases hS with g|⟨o',g⟩<;>(rw[hT]at g;cases g)
    ·erw[jx ha np z]
    ·erw[jx Lx nx z]
    ·erw[jx Lx SV z]
    ·erw[jx Lv jz z]
    ·erw[jx Lv oO z]
    ·erw[jx Lv oN z]
   ·erw[.inl λH2=>.inr hS]
  erw[bU Z,λlf kG kP=>?_];have XA:=L9.same kP.same;erw[_,Z,p,3,Z,XA.bu,aD,aD,λzf jn z0 z1 Bc=>?_];obtain⟨far,Ll,AW,yJ⟩:∃far:Int,fW [V.int 3,.int 8,.int 25] zf=some (.int far)/\1<=far/\far<=100:=by
   rcases(show zf=0\/zf=1\/zf=2 by lia)with rfl|rfl|rfl
   ·erw[3,Z,aD,aD]
   ·erw[8,Z,aD,aD]
   ·erw[25,Z,aD,aD]
  have a5U:jn lf=some (.lst [V.int 3,.int 8,.int 25]):=Bc.same _ _ (λz=>L9.here _ (.inr Z) (z▸kP.no)) kP.at';erw[.inl #[lf,_,zf,_,Z,Z,aK.of a5U,Ll,?_]];have L11:=XA.iA Bc;have Xq:oa K jn a ns (T::p::Ad.all #[x,q0,d0,e0,t0]):=Sc9.but (λy o e hy=>Bc.same y o (λz=>hy (by rw[z];simp)) (kP.same _ _ e)) λy m=>.inl m;erw[_,Z,a,_,Z,.inl Xq.Gy,_,_,Z,_,_,Z,_,Z,?_,?_,?_]
  ·split<;>lia
  ·rw[cJ];split<;>(try split)<;>lia
  have hN:(if(if(26:Int)<((ns.map V.int).length:Int)then(26:Int)else((ns.map V.int).length:Int))>10 then(if(26:Int)<((ns.map V.int).length:Int)then(26:Int)else((ns.map V.int).length:Int))else(10:Int)).toNat<=26:=by split<;>(try split)<;>lia
  have seen:∀{H2:Hp}{A:Ad}{p':Addr}{S:bp}{n:Nat}(Q':VK),bL K C T jB H2 M n A p' S->n<=90->(∀H3,bL K C T jB H3 M n A p' S->aX (T::p'::A.all) H2 H3->Q' (.bl true) H3)->Cm K C [.ref A.a,.ref A.d] H2 Q' E0:=λ{H2 A p' S n} Q' L hn kq=>by
   have nd:=L.nd;simp only[Ad.all,nv,bJ,cD,cX,oh]at nd;let((t1,t2,t3,t4),(t5,t6,t7),(t8,t9),sN,_):=nd;erw[A.a,A.q,A.d,A.e,A.t,M,_,S,_,_,Z,L.run,L.sim,L.ok,lL,L.sm,L.told,aw,aw,λy hy=>L.here y hy,.inl (by simp[Ad.all]),dy t4,dy t7,dy t9,dy sN,λH3 b3 T3=>?_];have bb:aX (T::p'::A.all) H2 H3:=b3.mono λy hy=>by rw[bW.mp hy];simp[Ad.all]
   have v:=L.v bb;have no:=L.ok.row.no;have s1:∀{y:Addr},y≠A.t->y∉[A.t]:=λg=>by rw[bW];erw[g]
   erw[kq H3 #[L.run.go no v (λo e=>b3 _ _ e (s1 t4)) (λo e=>b3 _ _ e (s1 t7)),L.sim.go no v (λo e=>b3 _ _ e (s1 t9)) (λo e=>b3 _ _ e (s1 sN)),L.ok,L.sm,T3,L.nd,TabAt.but L.tab b3 (s1 λz=>L.nT (by rw[z];simp[Ad.all])) λy hy φ=>L.tJ y (jf _ (by rw[bW.mp hy];simp[Ad.all])) φ,L.on,L.bu.but b3 (s1 λz=>L.np (by rw[z];simp[Ad.all])),L.np] bb]
  erw[AS (Pv:=λi O H2=>∃A p S,bL K C T jB H2 M (3*i) A p S/\fk M S/\oa K H2 a ns (T::p::A.all)/\∃v1 v7 v8,O=cZ9 (.ref a) (v1::cZ9 mv (cZ9 Jw (cZ9 (.ref A.a) (cZ9 (.ref A.d) (cZ9 (.int far) (v7::v8::[]))))))) ?_ ?_ ?_]
  ·erw[_,p,_,L11,λi hi=>by rw[Nat.le_zero.mp hi];erw[tF],Xq,_,none,none,Z]
  ·rintro i O H2 hi ⟨A,p,S,jF,oA,N4,v1,v7,v8,rfl⟩
   have hi8:i<26:=gP hi hN;erw[_,Z,_,Z,_,_,Z,Z,a,ns,_,Z,N4.Gy,hlen,aw,aw,λp' H3 SW yZ s3=>?_];have L3:=jF.a4L s3 SW yZ;have Sc3:oa K H3 a ns (T::p'::A.all):=N4.but (λy o e _=>s3 _ _ e) λy m=>by
    rcases bJ.mp m with z|m
    ·erw[.inl (by rw[z];erw[.head _])]
    ·rcases bJ.mp m with z|m
     ·erw[.inr (by rw[z];erw[SW])]
     ·erw[.inl (.tail _ (.tail _ m))]
   erw[_,Z,p',3,Z,yZ,aD,aD,λz H4 z0 z1 b4=>.inl #[_,_,Z,Z,?_]];have L4:=L3.iA b4;have Sc4:oa K H4 a ns (T::p'::A.all):=Sc3.but (λy o e hy=>b4.same y o (λg=>hy (by rw[g];simp)) e) λy m=>.inl m;erw[_,Z,_,Z,_,Z,_,Z,p',A,M,_,S,far,Z,L4,oA,lL,AW,yJ,aw,λA' S' H5 L5 o5 m5=>?_];have Xp:oa K H5 a ns (T::p'::A'.all):=Sc4.but m5.but λy m=>by
    rcases bJ.mp m with z|m
    ·erw[.inl (by rw[z];erw[.head _])]
    ·rcases bJ.mp m with z|m
     ·erw[.inl (by rw[z];erw[.tail _ (.head _)])]
     ·exact(m5.nw y m).imp (λz=>.tail _ (.tail _ z)) id
   rw[<-m5.a,<-m5.d];erw[_,Z,bK ?_];erw[_,Z,_,Z,?_];erw[eL (λhq=>?_) (λhq=>?_)]
   ·erw[_,Z,_,Z,?_]
    erw[seen (A:=A') _ L5 (show 3*i+3<=90 by lia) λH6 L6 b6=>#[_,Z,bK ?_]];erw[_,p',S',L6.mono aw aw,o5,Xp.but b6 λy m=>.inl m,_,_,_,Z]
   ·erw[_,p',S',L5.mono aw aw,o5,Xp,_,_,_,Z]
  ·rintro O H2 ⟨A,p,S,jF,oA,N4,v1,v7,v8,rfl⟩
   erw[_,Z,_,Z,?_];erw[seen _ jF (iK (Nat.mul_le_mul_left 3 hN) aD) λH3 L3 b3=>k _]
end
end _c
namespace _c
open PySem PySem.Spec PyProof.Rows _L
theorem p7{K:aa}{mg:cw}(X:K.In h)(G:h.Ns mainGlobals mg)(a:PySem.W.nsIn K mainGlobals x=some (some (.ref c))):GV mg x (.ref c):=#[_,zk X G a,Z]
theorem Ey{K:aa}{mg:cw}(X:K.In h)(G:h.Ns mainGlobals mg)(a:PySem.W.nsIn K mainGlobals x=some (some (.ref c)))(q:PySem.W.excIn K c bm nw=true):Exc K mg x c bm nw:=#[zk X G a,q]
theorem Kq{K:aa}(t:takes K C cG)(k:pK K C)(i0:PySem.W.kitOne K (.ref C) (.ref n)=some b0)(i1:PySem.W.kitOne K (.ref C) (.ref o)=some b1)(i2:PySem.W.kitOne K (.ref C) (.ref f)=some b2)(i3:PySem.W.kitOne K (.ref C) (.ref m)=some b3)(i4:PySem.W.kitOne K (.ref C) (.ref r)=some b4)(any:PySem.W.kitAny K (.ref C) [.ref c0,.ref c1,.ref c2,.ref c3,.ref c4,.ref c5]=some false)(ve:PySem.W.kitOne K (.ref C) (.type "ValueError")=some true):KC K #[n,o,f,m,r] cG [c0,c1,c2,c3,c4,c5] C b0 b1 b2 b3 b4:=#[t,k,i0,i1,i2,i3,i4,any,ve]
theorem a1t{K:aa}{mg:cw}(X:K.In h)(G:h.Ns mainGlobals mg)(ag:PySem.W.nsIn K mainGlobals "GlideError"=some (some (.ref cG)))(qg:PySem.W.excIn K cG mI mU=true) (h0:PySem.W.nsIn K mainGlobals "NoFraction"=some (some (.ref c0)))(h1:PySem.W.nsIn K mainGlobals "NoLine"=some (some (.ref c1)))(h2:PySem.W.nsIn K mainGlobals "NoMachine"=some (some (.ref c2)))(h3:PySem.W.nsIn K mainGlobals "NoPlace"=some (some (.ref c3)))(h4:PySem.W.nsIn K mainGlobals "NoTape"=some (some (.ref c4)))(h5:PySem.W.nsIn K mainGlobals "NoText"=some (some (.ref c5))) (an:PySem.W.nsIn K mainGlobals "NoItem"=some (some (.ref n)))(ao:PySem.W.nsIn K mainGlobals "OffRails"=some (some (.ref o)))(am:PySem.W.nsIn K mainGlobals "Moving"=some (some (.ref m)))(ar:PySem.W.nsIn K mainGlobals "NoRate"=some (some (.ref r)))(v:PySem.W.nsIn K mainGlobals "ValueError"=some none)(af:PySem.W.nsIn K mainGlobals "Full"=some (some (.ref f)))(qf:PySem.W.excIn K f mI mU=true) (qm:PySem.W.excIn K m mI mU=true) (qr:PySem.W.excIn K r mI mU=true) (kf:KC K #[n,o,f,m,r] cG [c0,c1,c2,c3,c4,c5] f false false true false false) (km:KC K #[n,o,f,m,r] cG [c0,c1,c2,c3,c4,c5] m false false false true false) (kr:KC K #[n,o,f,m,r] cG [c0,c1,c2,c3,c4,c5] r false false false false true) :∃R cG c0 c1 c2 c3 c4 c5,Fe K mg R cG c0 c1 c2 c3 c4 c5:=#[#[n,o,f,m,r],cG,c0,c1,c2,c3,c4,c5,Ey X G ag qg,p7 X G h0,p7 X G h1,p7 X G h2,p7 X G h3,p7 X G h4,p7 X G h5,p7 X G an,p7 X G ao,p7 X G am,p7 X G ar,PySem.W.mg_none_of X G v,Ey X G af qf,kf,Ey X G am qm,km,Ey X G ar qr,kr]
theorem tab_of{K:aa}{mg:cw}(A:All T K mg):∃cd,rE K cd T=true:=by let(f,fd,_,_,h):=A.VC.ex;erw[_,h]
theorem acV:Bh K P w mg aB:=by intro T f fd A qS F;have tk:aJ P w K mg aB "_law_take" 1 oz:=a3a A.aap A.B;have cd:aJ P w K mg aB "common_divisor" 1 Gq:=a4l A.aaj A.B;have lt:aJ P w K mg aB "lowest_terms" 2 xq:=a3X A.aa3 A.B cd;have iw:aJ P w K mg aB "is_whole" 1 (xu K):=a46 A.aa8 A.B;have ww:aJ P w K mg aB "is_whole_within" 2 (uT K):=a32 A.aa7 A.B iw;have fn:aJ P w K mg aB "fraction" 3 (xp K):=a4e A.aah A.B iw lt;have ld:aJ P w K mg aB "lead_of" 1 (mQ K):=a43 A.aa5 A.B;have ls:aJ P w K mg aB "is_less" 1 (xt K):=a41 A.aae A.B;have cp:aJ P w K mg aB "corner_square" 6 (Gr K):=a4j A.aai A.B (a34 A.aag A.B (a33 A.a9P A.B ld fn) (a3U A.aa2 A.B lt) ls) fn;have DK:aJ P w K mg aB "is_rate" 3 (zH K):=a47 A.aaa A.B A.a9r A.a9t ww;have tp:aJ P w K mg aB "top_square" 4 (Cj K):=a36 A.a9Q A.B DK fn;have DJ:aJ P w K mg aB "is_line" 1 (xx K):=a48 A.aad A.B;have lst:aJ P w K mg aB "least" 2 (kj K):=a42 A.aa4 A.B ls;have X7:aJ P w K mg aB "bound_between" 7 (Cw K):=a4n A.aak A.B A.AR DJ tp cp lst;have own:aJ P w K mg aB "own_bounds" 8 (Pb K):=a3Q A.VA A.B A.AR X7;have pw:aJ P w K mg aB "plus_whole" 4 (Cr K):=a3M A.a9X A.B;have nr:aJ P w K mg aB "nearest" 1 Gk:=a3S A.aa0 A.B;have OF:aJ P w K mg aB "stand_at" 2 (Ck K):=a3d A.a9V A.B ld nr;have sr:aJ P w K mg aB "step_rows" 3 (Gf K):=a3v A.a9T A.B ld OF;have ent:aJ P w K mg aB "step_entry" 3 (Gp K):=a4g A.a9U A.B (a39 A.a9S A.B (a4h A.aam A.B));have ln:aJ P w K mg aB "_law_line" 2 (Gm K):=a3Z A.aaH A.B tk;have Kt:aJ P w K mg aB "is_item" 4 (Cu K):=a4c A.aaf A.B A.a9s ww (a4q A.aal A.B A.a9n ww) (a49 A.aa9 A.B A.a9o A.a9m ww (a4b A.aac A.B A.a9p A.a9q));have Ku:aJ P w K mg aB "is_place" 3 (Cv K):=a4a A.aab A.B ww;have Tt:aJ P w K mg aB "moved" 1 (Ct K):=a3T A.aa1 A.B;have B8:aJ P w K mg aB "place_behind" 2 (xy K):=a4o A.a9Z A.B DJ Tt;have YY:aJ P w K mg aB "times" 3 (oB (·*·) K):=a37 A.a9R A.B lt;have rch:aJ P w K mg aB "reach_behind_first" 9 (Gg K):=a3K A.a9W A.B (a3P A.VA A.B A.AR X7) (a4f A.aa6 A.B DJ ld pw lst);let(C,R):=A.rc;have TC:=R.tc;have CQ:=a3C R.a5u TC;have zS:=a3s R.a5n TC A.AR;have J9:=a3B R.a5v TC CQ zS;have CP:=a3y R.a5s TC B8;have rfd:=SS R.Ka TC A.B A.LX Kt Ku B8 CP;have rnx:=a3w R.a5r TC pw YY fn lst CQ;have ref:=a3I R.a5A TC B8;have rsf:=a3r R.a5m TC A.B ld sr tp rch ent J9 rnx ref;have reo:=a3F R.a5y TC DJ rsf ref;have RO:=a3G R.a5z TC A.B J9 reo;have RH:=a3q R.a5l TC;have rho:=a3A R.a5w TC RH CQ;have rgo:=a3D R.a5x TC A.B;have rtr:=SR R.K9 TC DK zS;have zU:=a3u R.a5q TC Tt OF;have rwt:=a3m R.a5j TC A.B;have rsq:=a3p R.a5o TC;have rrt:=a3t R.a5p TC;have rto:=a3n R.a5k TC;have rmk:=a3x R.a5t TC;let(Rf,cG,c0,c1,c2,c3,c4,c5,EA):=A.rf;have DA:=a4d A.aaK A.B;have Kg:=a3V A.aaF A.B (a40 A.aaI A.B);have TQ:=a3b A.aaq A.B DA;have TN:=a35 A.aan A.B DA;have Dy:=a44 A.aaJ A.B;have OJ:=a3e A.aas A.B;have ssp:=a3f A.aat A.B Dy (a3g A.aaA A.B (a4m A.aaM A.B Dy Kg TN DA) TQ Dy Kg) TN TQ DA (a3c A.aar A.B Dy) Kg (a38 A.aao A.B);have Dx:=a3Y A.aaE A.B;have al:=D9 aD A.AX A.B Dx (D9 aD A.AX A.B Dx (D9 aD A.AX A.B Dx (D9 aD A.AX A.B Dx (a4r A.AX A.B))));have rfe:=a3E R.Ka TC A.B EA.xf A.LX Kt Ku B8 CP;have a1m:Br P w K mg aB "_law_refused" 7 (xo P w K mg aB Rf 5):=a3H A.aaz A.B EA;have PF:=a3j A.aaw A.B ssp;have PC:=a3i A.aav A.B;have seen:=a3k A.aay A.B TC al OJ rwt zU CP rsq rrt rto rmk CQ zS RH;have RN:=a3z R.init TC A.AR A.a9u;have abC:=a4i A.VC A.B TC qS tk ln (a3R A.aaD A.B tk) al a1m rfe PC (a3J R.a5B TC A.B EA.xm J9 zU) (a3l A.aax A.B) (a3o R.K9 TC EA.xr EA.xm DK zS) (a3L A.aaB A.B tk) rho (a3h A.aau A.B OJ) rgo RO PF;erw[a45 F TC A.B (a4p A.aaN A.B) tk (a3W A.aaG A.B tk) (a3O A.aaC A.B tk) RN (SQ A.VB A.B) abC seen (a4k A.aaL A.B TC tk RN (SQ A.VB A.B) (SR R.K9 TC DK zS) al (SS R.Ka TC A.B A.LX Kt Ku B8 CP) PC RO PF seen)]
theorem acW{P:ah}{w:World}{K:aa}{mg:cw}{aB:Heap}(A:All T K mg)(qS:aB.BuiltinsAt mg T)(F:lB K "law" "law" xD f fd):jG P w K mg aB ka 14 f fd ["_law_script"] (Gn K T):=Z3 acV K P w mg aB T f fd A qS F
end _c
end
set_option maxHeartbeats 4000000
set_option exponentiation.threshold 6000
def PySem.W.Fast.tw3154525145273216434:PySem.Program:=PySem.Challenge.pw_glidequeue_k43_rates_turned
theorem PySem.W.Fast.te3154525145273216434:PySem.Challenge.pw_glidequeue_k43_rates_turned=PySem.W.Fast.tw3154525145273216434:=rfl
local macro_rules|`(command|universe $x:ident)=>return Lean.mkNullNode (<-((x.getId.toString.splitOn "_").drop 1).toArray.mapM fun i=>`(command|theorem $(Lean.mkIdent (`_root_.PySem.W.Fast++Lean.Name.mkSimple s!"tw{(`PySem.Challenge.cw_glidequeue_k43_rates_turned_holds++Lean.Name.mkSimple ((match i.front with|'h'=>"heap"|'t'=>"tree"|'v'=>"view"|'s'=>"sts"|'e'=>"env"|_=>"o")++"_"++(i.drop 1).toString)).hash}")):ident:True:=True.intro))
universe t_h942_h39_t814_t640_v39_t726_t470_t428_t363_t941_t285_s815_s900_s471_t234_o900_t219_o815_t204_s730_o730_o429_t182_s364_o471_s286_o364_o871_o869_t145_t899_s429_o927_o925_t160_t130_o911_o906_o904_o833_o286_o939_o835_o913_o941_o591_o584_t108_o582_o934_o804_s235_o932_o802_o563_o857_o854_o235_o635_o847_t93_o845_o866_o475_o809_o561_o342_o807_o449_o864_o878_o340_o447_o392_o876_o390_o852_o379_o384_o792_o416_o486_o220_o414_o442_o484_o382_o790_o426_o377_o440_o205_o920_o823_o183_o435_t78_o918_o821_o745_o433_o161_o743_o577_o899_o146_o356_o795_o575_o428_o626_o463_o897_o570_o337_o131_o568_o633_o335_o423_o842_o109_o456_o411_o840_o631_o421_o94_o294_o454_o644_o332_o285_o409_o354_o79_o292_o271_o64_o797_o283_o662_o363_o330_o269_o605_o766_o361_o660_o752_o301_o612_o750_o500_o308_o470_o49_o892_o603_o299_o610_o738_o461_o322_o764_o498_o598_o814_o327_o589_o587_o890_t63_o320_o812_o736_o596_o325_o885_o468_o315_o125_o278_o349_o263_o787_o256_o406_o759_o883_o800_o217_s161_o619_o177_o306_o276_o347_o261_o785_o757_o313_o404_o617_o773_o254_o372_o556_o580_o528_o634_o535_o175_o830_o937_o718_o771_o930_o554_o923_o375_o143
open PySem PySem.W PyProof.Rows
set_option maxRecDepth 100000 in
set_option maxHeartbeats 0 in
theorem PySem.Challenge.cw_glidequeue_k43_rates_turned_holds : PySem.Challenge.rw_glidequeue_k43_rates_turned.Holds := by
 w_on; o_law; k_head; (case hw=>w_witness2)
 k_fill
 refine _L.a61 (l:=PySem.Challenge.rw_glidequeue_k43_rates_turned) (k:=14) (x:="_law_script") (st:=_c.xD) rfl rfl ⟨rfl,by decide,by decide⟩ (fun w h Y=>⟨PySem.W.km_in_of Y,PySem.W.km_tabs_of Y _ (.head _)⟩) (_c.All _) ?F ?K (fun _ _ A=>_c.tab_of A) (fun _ _ A=>A.law) (fun _ _ _ _ _ _ _=>rfl) (fun _ _ _ _ _ _ _ A hB F=>_c.acW A hB F)
 case K=>exact fun w=>(by kernel_rfl)
 case F=>
  intro w mg h KX G
  refine⟨_L.acr KX G ?b,?x1,?x2,?x3,?x4,?x5,?x6,?x7,?x8,?x9,?x10,?x11,?x12,?x13,?x14,?x16,?x17,?x18,?x19,?x20,?x21,?x22,?x23,?x24,?x25,?x26,?x27,?x28,?x29,?x30,?x31,?x32,?x33,?x34,?x35,?x36,?x37,?x38,?x39,?x40,?x41,?x42,?x43,?x44,?x45,?x46,?x47,?x48,?x49,?x50,?x51,?x52,?x53,?x54,?x55,?x56,?x57,?x58,?x59,?x60,?x61,?x62,?x63,?x64,?x65,?x66,?x67,?x68,?x69,?x70,?x71,?x72,?x73,?x74,?x75,?x76,?x77,?x78,?x79⟩
  case b=>(unfold _L.ET; repeat (refine _L.ux.cons ?z ?_; (case z=>k_is))); exact _L.ux.nil
  case x1=>refine' _L.Vj KX G ?a ?l ?z ?r; (case a=>k_is); (case l=>k_is); (case z=>decide); (case r=>exact .cons ⟨_,rfl⟩ (.cons ⟨_,rfl⟩ .nil))
  case x2=>refine' _L.Vj KX G ?a ?l ?z ?r; (case a=>k_is); (case l=>k_is); (case z=>decide); (case r=>exact .cons ⟨_,rfl⟩ (.cons ⟨_,rfl⟩ .nil))
  case x3=>(refine' _L.u7 KX G ?z; (case z=>k_is))
  case x4=>(refine' _L.u7 KX G ?z; (case z=>k_is))
  case x5=>(refine' _L.u7 KX G ?z; (case z=>k_is))
  case x6=>(refine' _L.u7 KX G ?z; (case z=>k_is))
  case x7=>(refine' _L.u7 KX G ?z; (case z=>k_is))
  case x8=>(refine' _L.u7 KX G ?z; (case z=>k_is))
  case x9=>(refine' _L.u7 KX G ?z; (case z=>k_is))
  case x10=>(refine' _L.u7 KX G ?z; (case z=>k_is))
  case x11=>(refine' _L.a9a KX G ?z; (case z=>k_is))
  case x75=>(refine' _L.a9L KX G ?a ?l ?c ?k ?t; (case a=>k_is); (case l=>k_is); (case c=>k_is); (case k=>k_is); (case t=>kernel_rfl))
  case x78=>
   refine' Exists.intro _ (_c.Xt.mk (_c.fX.mk (_L.kH.mk ?pg ?hd ?po ?sa) ?n1 ?n2 ?n3 ?n4 ?n5 ?n6 ?n7 ?n8 ?n9) (_L.acj KX G ?aC ?mk ?kc ?ia ?ii ?il ?ic ?ik) (_L.iO ?a0 ?i0 ?l0 ?c0 ?k0) (_L.iO ?a1 ?i1 ?l1 ?c1 ?k1) (_L.iO ?a2 ?i2 ?l2 ?c2 ?k2) (_L.iO ?a3 ?i3 ?l3 ?c3 ?k3) (_L.iO ?a4 ?i4 ?l4 ?c4 ?k4) (_L.iO ?a5 ?i5 ?l5 ?c5 ?k5) (_L.iO ?a6 ?i6 ?l6 ?c6 ?k6) (_L.iO ?a7 ?i7 ?l7 ?c7 ?k7) (_L.iO ?a8 ?i8 ?l8 ?c8 ?k8) (_L.iO ?a9 ?i9 ?l9 ?c9 ?k9) (_L.iO ?a10 ?i10 ?l10 ?c10 ?k10) (_L.iO ?a11 ?i11 ?l11 ?c11 ?k11) (_L.iO ?a12 ?i12 ?l12 ?c12 ?k12) (_L.iO ?a13 ?i13 ?l13 ?c13 ?k13) (_L.iO ?a14 ?i14 ?l14 ?c14 ?k14) (_L.iO ?a15 ?i15 ?l15 ?c15 ?k15) (_L.iO ?a16 ?i16 ?l16 ?c16 ?k16) (_L.iO ?a17 ?i17 ?l17 ?c17 ?k17) (_L.iO ?a18 ?i18 ?l18 ?c18 ?k18) (_L.iO ?a19 ?i19 ?l19 ?c19 ?k19) (_L.iO ?a20 ?i20 ?l20 ?c20 ?k20))
   (case aC=>k_is)
   case n1 | n2 | n3 | n4 | n5 | n6 | n7 | n8 | n9=>(unfold _L.jZ; k_is)
   case pg | hd | po | sa | mk | kc | ia | ii | il | ic | ik | a0 | i0 | l0 | c0 | k0 | a1 | i1 | l1 | c1 | k1 | a2 | i2 | l2 | c2 | k2 | a3 | i3 | l3 | c3 | k3 | a4 | i4 | l4 | c4 | k4 | a5 | i5 | l5 | c5 | k5 | a6 | i6 | l6 | c6 | k6 | a7 | i7 | l7 | c7 | k7 | a8 | i8 | l8 | c8 | k8 | a9 | i9 | l9 | c9 | k9 | a10 | i10 | l10 | c10 | k10 | a11 | i11 | l11 | c11 | k11 | a12 | i12 | l12 | c12 | k12 | a13 | i13 | l13 | c13 | k13 | a14 | i14 | l14 | c14 | k14 | a15 | i15 | l15 | c15 | k15 | a16 | i16 | l16 | c16 | k16 | a17 | i17 | l17 | c17 | k17 | a18 | i18 | l18 | c18 | k18 | a19 | i19 | l19 | c19 | k19 | a20 | i20 | l20 | c20 | k20=>k_is
  case x79=>
   refine' _c.a1t KX G ?ag ?qg ?h0 ?h1 ?h2 ?h3 ?h4 ?h5 ?an ?ao ?am ?ar ?v ?af ?qf ?qm ?qr (_c.Kq ?ft ⟨?fk1,?fk2,?fk3,?fk4,?fk5,?fk6,?fk7,?fk8⟩ ?fi0 ?fi1 ?fi2 ?fi3 ?fi4 ?fany ?fve) (_c.Kq ?mt ⟨?mk1,?mk2,?mk3,?mk4,?mk5,?mk6,?mk7,?mk8⟩ ?mi0 ?mi1 ?mi2 ?mi3 ?mi4 ?many ?mve) (_c.Kq ?rt ⟨?rk1,?rk2,?rk3,?rk4,?rk5,?rk6,?rk7,?rk8⟩ ?ri0 ?ri1 ?ri2 ?ri3 ?ri4 ?rany ?rve)
   case ag | h0 | h1 | h2 | h3 | h4 | h5 | an | ao | am | ar | v | af=>k_is
   case qg | qf | qm | qr=>k_exc
   case ft=>(show PySem.W.mroIn _ _ _=_; k_is)
   case fk1 | fk2 | fk3 | fk4 | fk5 | fk6 | fk7 | fk8=>k_is
   case fi0 | fi1 | fi2 | fi3 | fi4 | fany | fve=>kit_is
   case mt=>(show PySem.W.mroIn _ _ _=_; k_is)
   case mk1 | mk2 | mk3 | mk4 | mk5 | mk6 | mk7 | mk8=>k_is
   case mi0 | mi1 | mi2 | mi3 | mi4 | many | mve=>kit_is
   case rt=>(show PySem.W.mroIn _ _ _=_; k_is)
   case rk1 | rk2 | rk3 | rk4 | rk5 | rk6 | rk7 | rk8=>k_is
   case ri0 | ri1 | ri2 | ri3 | ri4 | rany | rve=>kit_is
  all_goals (refine' _L.a9N KX G ?a ?l ?c ?k; (case a=>k_is); (case l=>k_is); (case c=>k_is); (case k=>k_is))
#print axioms PySem.Challenge.cw_glidequeue_k43_rates_turned_holds
