import PyProof.Rows.All
import Wide.All
import OpenK.AllK
import Wide.FinOn
import Lean
import PyProof.EqAt
import PyProof.EqKinds
import PyProof.TupleCall
import PySem.Challenge.RW_glidequeue_k59_whole_told_at_once_is_the
set_option Elab.async false
set_option linter.all false
set_option maxRecDepth 100000
def PySem.pq9:Nat->Lean.Syntax->Lean.MacroM (Lean.TSyntax `rcasesPat)
|0,_=>Lean.Macro.throwUnsupported
|n+1,s=>do
 if s.isOfKind `ident then let x:Lean.Ident:=⟨s⟩;`(rcasesPat|$x:ident)
 else if s.isOfKind `Lean.Parser.Term.hole then `(rcasesPat|_)
 else
  let as:=if s.isOfKind `Lean.Parser.Term.tuple then #[s[1][0]]++s[1][2].getSepArgs else s[1].getSepArgs
  let ps<-as.mapM (PySem.pq9 n)
  `(rcasesPat|⟨$ps,*⟩)
def PySem.pn9:Nat->Lean.Syntax->Nat
|0,_=>1
|n+1,s=>if s.isOfKind `ident||s.isOfKind `Lean.Parser.Term.hole then 1 else (if s.isOfKind `Lean.Parser.Term.tuple then #[s[1][0]]++s[1][2].getSepArgs else s[1].getSepArgs).foldl (fun k x=>k+PySem.pn9 n x) 0
noncomputable section
local macro_rules|`(command|def $i:declId $s:optDeclSig $v:declVal)=>`(command|noncomputable def $i:declId $s:optDeclSig $v:declVal)
local macro_rules|`(command|abbrev $i:declId $s:optDeclSig $v:declVal)=>`(command|noncomputable abbrev $i:declId $s:optDeclSig $v:declVal)
local macro_rules|`(tactic|trivial)=>`(tactic|first|exact Or.inl rfl|exact Or.inr rfl|exact Or.inr (Or.inl rfl)|exact Or.inr (Or.inr rfl)|assumption|exact fun _=>rfl|exact fun _ _=>rfl)
theorem r8_(h:True:=by rfl):True:=h
theorem q8_(h:True:=by decide):True:=h
theorem d8_(h:True:=by trivial):True:=h
theorem f8_(h:True:=by with_unfolding_all rfl):True:=h
theorem PySem.oq9{T:Prop}(h:∀G:Prop,(T->G)->G):T:=h T id
local macro_rules|`(tactic|erw[$r,*])=>do
 let t:=r.getElems.map λr=>(⟨r.raw[1]⟩:Lean.Term)
 if t.size==1 then `(tactic|refine $(t[0]!)) else `(tactic|refine ⟨$t,*⟩)
local macro_rules|`(tactic|let $p:term:=$t)=>do
 let q<-PySem.pq9 9 p
 if PySem.pn9 9 p<7 then `(tactic|obtain $q:rcasesPat:=$t) else `(tactic|first|(refine PySem.oq9 fun G e=>?_;obtain $q:rcasesPat:=$t;refine e ?_;clear e G)|obtain $q:rcasesPat:=$t)
local macro_rules|`(#[$a,$b,*])=>`(⟨$a,$b,*⟩)
abbrev ck:=PySem.Str->Option PySem.Value
theorem az{p:Prop}(h:autoParam (p) q8_._auto_1):p:=h
theorem aJ{p:Prop}(h:p:=by decide+kernel):p:=h
theorem ao {p:Prop} (h:p:=by lia):p:=h
theorem aO{p:Prop}(h:p:=by omega):p:=h
theorem Z {α : Sort _} {a : α}:a=a:=rfl
abbrev aa:=PySem.W.Frag
abbrev af:=PySem.Shared
abbrev ag:=PySem.Program
abbrev ah:=PySem.PyData
abbrev ai:=PySem.Around
abbrev aM:=@PySem.wpAny_bind
abbrev ba:=@List.length_map
abbrev bc:=@if_pos
abbrev bf:=@Nat.le_refl
abbrev bj:=@if_neg
abbrev bN:=@List.getElem?_eq_getElem
abbrev bP:=@List.getElem?_map
abbrev cn:=@PySem.wpAny_pure
abbrev cu:=@decide_eq_true
abbrev cD:=@List.length_append
abbrev cH:=@PySem.Heap.lt_size
abbrev cI:=@List.mem_map
abbrev cJ:=@List.getElem?_eq_some_iff
abbrev cM:=@Rat.le_trans
abbrev cN:=@PySem.Heap.get?_push_of_some
abbrev cO:=@List.mem_cons
abbrev df:=@Int.le_refl
abbrev dv:=@PySem.strLen_append
abbrev dF:=@PySem.intBits_le_64
abbrev dM:=@decide_eq_false
abbrev dN:=@List.mem_singleton
abbrev eH:=@Bool.false_ne_true
abbrev eP:=@List.size_toArray
abbrev eX:=@Option.some.inj
abbrev eY:=@Nat.ne_of_lt
abbrev eZ:=@PySem.Heap.get?_push_size
abbrev fz:=@Bool.and_eq_true
abbrev fE:=@Nat.zero_le
abbrev fL:=@beq_iff_eq
abbrev fR:=@List.mem_of_getElem?
abbrev fS:=@Int.pow_succ
abbrev g6:=@List.all_eq_true
abbrev gj:=@PySem.PassesOwn.never
abbrev gz:=@List.length_cons
abbrev gI:=@PySem.wpAny_mono
abbrev gJ:=@List.map_append
abbrev gR:=@Nat.lt_of_lt_of_le
abbrev gT:=@List.mem_append_right
abbrev gU:=@Int.mul_nonneg
abbrev ir:=@PyProof.Rows.boot_tuple
abbrev iu:=@List.not_mem_nil
abbrev iy:=@List.mem_append
abbrev iz:=@List.length_range
abbrev iI:=@Rat.le_refl
abbrev iJ:=@PyProof.Rows.boot_str
abbrev iK:=@Nat.le_trans
abbrev jk:=@Int.mul_pos
abbrev jD:=@Int.natAbs_mul
abbrev jE:=@Bool.true_and
abbrev jF:=@Bool.false_and
abbrev ki:=@PySem.wpAny_field
abbrev kj:=@Bool.eq_iff_iff
abbrev kH:=@or_false
abbrev kI:=@Ne.symm
abbrev kJ:=@List.lookup_cons
abbrev lA:=@congrArg
abbrev lC:=@List.take_succ
abbrev lF:=@Int.one_mul
abbrev m4:=@of_decide_eq_true
abbrev m5:=@Int.pow_zero
abbrev mS:=@List.getElem?_range
abbrev ou:=@List.mem_iff_getElem?
abbrev ow:=@List.getElem?_append_right
abbrev oz:=@List.getElem?_append_left
abbrev oA:=@List.append_nil
abbrev oB:=@PySem.IntMulOk.of_bits
abbrev pK:=@PySem.wpAny_truthy_bool
abbrev pL:=@PySem.wpAny_newObj_type
abbrev pM:=@Nat.mul_le_mul
abbrev pN:=@List.take_length
abbrev rn:=@Rat.le_antisymm
abbrev rA:=@List.map_cons
abbrev rC:=@List.getElem?_eq_none
abbrev rE:=@PySem.Heap.size_push
abbrev tZ:=@PySem.wpAny_standAt
abbrev u6:=@PySem.wpAny_holding
abbrev u7:=@Option.map_eq_some_iff
abbrev u9:=@List.take_of_length_le
abbrev ua:=@List.replicate_succ
abbrev uc:=@List.length_take
abbrev ud:=@Int.mul_assoc
abbrev wc:=@PySem.wpAny_seqItems
abbrev we:=@if_true
abbrev wg:=@PySem.call_meets
abbrev wj:=@Rat.num_divInt_den
abbrev wk:=@PySem.Str.cps_append
abbrev wm:=@Nat.pow_le_pow_right
abbrev wo:=@List.take_zero
abbrev wq:=@List.getElem_mem
abbrev wu:=@List.foldl_append
abbrev wx:=@Int.mul_le_mul
abbrev wy:=@Int.emod_nonneg
abbrev wz:=@Array.toList_append
abbrev yj:=@PySem.wpAny_passesOwn
abbrev yk:=@PySem.wpAny_of_eq
abbrev yn:=@PySem.codeAny_mono
abbrev yo:=@Rat.divInt_nonneg_iff_of_pos_right
abbrev yp:=@PyProof.Rows.boot_all
abbrev yt:=@PyProof.Rows.boot_abs
abbrev yu:=@Nat.lt_irrefl
abbrev yw:=@List.mem_cons_of_mem
abbrev yx:=@List.length_set
abbrev yy:=@List.any_eq_true
abbrev yz:=@List.any_cons
abbrev yA:=@List.all_cons
abbrev yC:=@Int.mul_one
abbrev yE:=@Int.emod_lt_of_pos
abbrev Bh:=@PySem.wpAny_setField_rec
abbrev Bi:=@PySem.wpAny_rule
abbrev Bj:=@PySem.wpAny_pyIter_list
abbrev Bk:=@PySem.StrLaws.glued_eq_join
abbrev Bl:=@Rat.intCast_le_intCast
abbrev Bm:=@Rat.intCast_add
abbrev Bn:=@Rat.add_zero
abbrev Bo:=@PySem.W.mg_of
abbrev Bp:=@PyProof.Rows.callWith_type1
abbrev Bq:=@Nat.sub_self
abbrev Br:=@Nat.lt_succ_of_lt
abbrev Bs:=@List.mem_of_mem_take
abbrev Bt:=@List.mem_filterMap
abbrev Bu:=@List.length_pos_iff
abbrev Bv:=@List.length_drop
abbrev Bw:=@List.getElem_range
abbrev Bx:=@List.getElem?_zip_eq_some
abbrev Bz:=@Int.mul_le_mul_of_nonneg_right
abbrev BA:=@PySem.Heap.get?_update_other
abbrev BB:=@Bool.and_true
abbrev BC:=@Array.length_toList
abbrev EB:=@PySem.wpAny_setField
abbrev EC:=@PySem.wpAny_call_entry
abbrev ED:=@PySem.wpAny_callSpecial?_slot
abbrev EE:=@PySem.wpAny_Call_Name_kw
abbrev EF:=@PySem.sizeLine_eq
abbrev EG:=@decide_eq_true_eq
abbrev EH:=@PyProof.Rows.assignInOrder_cons
abbrev EI:=@Rat.not_lt
abbrev EJ:=@PySem.mem_of_lookup
abbrev EK:=@PyProof.Rows.boot_list
abbrev EL:=@PySem.Obj.data_mapFields
abbrev EM:=@Nat.ne_of_gt
abbrev EN:=@Nat.lt_trans
abbrev EO:=@List.of_mem_zip
abbrev ER:=@List.map_set
abbrev ES:=@List.map_map
abbrev ET:=@List.flatten_cons
abbrev EU:=@List.append_assoc
abbrev EV:=@Int.zero_mul
abbrev EW:=@Int.mul_le_mul_of_nonneg_left
abbrev EX:=@Int.le_of_lt
abbrev EY:=@Bool.eq_false_iff
abbrev MJ:=@PySem.wpAny_execs_nil
abbrev MK:=@beq_self_eq_true
abbrev ML:=@beq_eq_false_iff_ne
abbrev MM:=@PySem.Str.empty_append
abbrev MN:=@Std.lt_of_le_of_ne
abbrev MO:=@Rat.intCast_nonneg
abbrev MP:=@Rat.intCast_mul
abbrev MQ:=@Rat.intCast_lt_intCast
abbrev MR:=@PySem.W.callWith_K
abbrev MS:=@PySem.F.slot_zip_next
abbrev MT:=@PySem.F.slot_tuple_iterator_next
abbrev MU:=@PyProof.Rows.boot_max
abbrev MV:=@PyProof.Rows.boot_any
abbrev MW:=@Option.mem_toList
abbrev MX:=@Nat.mul_le_mul_right
abbrev MY:=@Nat.lt_or_ge
abbrev MZ:=@Nat.lt_of_le_of_lt
abbrev N0:=@Nat.le_of_lt
abbrev N1:=@Nat.add_comm
abbrev N2:=@List.range_succ
abbrev N3:=@List.nodup_cons
abbrev N4:=@List.mem_cons_self
abbrev N5:=@List.length_singleton
abbrev N6:=@List.length_eq_zero_iff
abbrev N7:=@List.getLast?_eq_getElem?
abbrev N8:=@List.getD_eq_getElem?_getD
abbrev N9:=@List.forIn_cons
abbrev Na:=@List.all_nil
abbrev Nb:=@Int.mul_ne_zero
abbrev Nc:=@Int.mul_left_comm
abbrev Nd:=@Int.mul_comm
abbrev Nf:=@PySem.Heap.get?_update_self
abbrev Xm:=@PySem.wpAny_updateSeq_pair
abbrev Xn:=@PySem.wpAny_pyIter_rangeiter
abbrev Xo:=@PySem.wpAny_newFunctionEnv
abbrev Xp:=@PySem.wpAny_comprehension_free
abbrev Xq:=@ne_true_of_eq_false
abbrev Xr:=@PySem.codeAny_compStart_list
abbrev Xs:=@Rat.divInt_sub_divInt
abbrev Xt:=@PySem.W.plainGet_of
abbrev Xu:=@PySem.Str.append_assoc
abbrev Xv:=@PySem.F.slot_tuple_add
abbrev Xw:=@PySem.F.plainAttrs_str
abbrev Xx:=@PySem.F.entry_tuple_add
abbrev Xy:=@PySem.F.args_tuple_add_2
abbrev Xz:=@PyProof.Rows.slot_tuple_getitem
abbrev XA:=@PyProof.Rows.boot_min
abbrev XB:=@PyProof.Rows.boot_int
abbrev XC:=@PySem.Obj.isFreed_of_fields
abbrev XD:=@Nat.lt_succ_self
abbrev XE:=@Nat.le_of_ble_eq_true
abbrev XF:=@Nat.add_sub_cancel
abbrev XG:=@List.mem_iff_getElem
abbrev XH:=@List.mem_append_left
abbrev XI:=@List.getLastD_eq_getLast?
abbrev XJ:=@List.getLast?_eq_some_getLast
abbrev XM:=@List.getElem_set_self
abbrev XN:=@List.getElem?_drop
abbrev XO:=@List.filterMap_cons
abbrev XQ:=@List.ext_getElem?
abbrev XR:=@Int.toNat_natCast
abbrev XS:=@Int.mul_nonneg_of_nonpos_of_nonpos
abbrev XT:=@Int.lt_trichotomy
abbrev XU:=@PySem.F.slot_range_reversed
abbrev XW:=@Array.getElem?_eq_some_iff
abbrev XX:=@Array.all_eq_true_iff_forall_mem
abbrev afD:=@PySem.F.entry_tuple_iterator_next
abbrev afE:=@PySem.F.args_tuple_iterator_next_1
abbrev afF:=@List.take_append_of_le_length
namespace _L
open PySem PySem.Spec PyProof.Rows
abbrev Key:=Sum Int Str
def Us:Key->Value->Bool | .inl k,v=>Value.isInt k v | .inr x,v=>Value.isStrOf x v
def a67(w:World):Key->Int | .inl k=>hashInt k | .inr x=>hashStr w x
theorem qx:∀{k:Key}{v:Value},Us k v=true->(∃i t,k=Sum.inl i/\v=Value.int i t)\/(∃x t,k=Sum.inr x/\v=Value.str x t) | .inl i,v,h=>by let(t,e):=Value.isInt_shape (k:=i) (v:=v) h;erw[.inl #[i,t,Z,e]] | .inr x,v,h=>by let(t,e):=Value.isStrOf_shape (x:=x) (v:=v) h;erw[.inr #[x,t,Z,e]]
theorem a66(a b:Int):decide ((Sum.inl a:Key)=Sum.inl b)=(a==b):=by
 by_cases e:a=b
 ·subst e;simp
 ·have h:¬(Sum.inl a:Key)=Sum.inl b:=λq=>e (Sum.inl.inj q)
  rw[dM h];exact(ML.mpr e).symm
theorem a63(a b:Str):decide ((Sum.inr a:Key)=Sum.inr b)=decide (a=b):=by
 by_cases e:a=b
 ·subst e;simp
 ·have h:¬(Sum.inr a:Key)=Sum.inr b:=λq=>e (Sum.inr.inj q)
  rw[dM h,dM e]
theorem a65(a:Int)(b:Str):decide ((Sum.inl a:Key)=Sum.inr b)=false:=dM (λq=>nomatch q)
theorem a64(a:Str)(b:Int):decide ((Sum.inr a:Key)=Sum.inl b)=false:=dM (λq=>nomatch q)
def JR(prog:ag)(w:World):PySem.KeyKind prog w Key where
 is:=Us
 hash:=a67 w
 inj:=λv a b ha hb=>by
  rcases qx ha with⟨i,t,rfl,rfl⟩|⟨x,t,rfl,rfl⟩
  ·rcases qx hb with⟨j,u,rfl,e⟩|⟨y,u,rfl,e⟩
   ·injection e with e1 _;rw[e1]
   ·erw[nomatch e]
  ·rcases qx hb with⟨j,u,rfl,e⟩|⟨y,u,rfl,e⟩
   ·erw[nomatch e]
   ·injection e with e1 _;rw[e1]
 byValue:=λk v h=>by rcases qx h with⟨i,t,rfl,rfl⟩|⟨x,t,rfl,rfl⟩<;>rfl
 pyHash:=λhv h=>by
  rcases qx hv with⟨i,t,rfl,rfl⟩|⟨x,t,rfl,rfl⟩
  ·erw[wpAny_pyHash_int h]
  ·erw[wpAny_pyHash_str h]
 eqBool:=λhu hv h=>by
  rcases qx hu with⟨i,t,rfl,rfl⟩|⟨x,t,rfl,rfl⟩
  ·rcases qx hv with⟨j,u,rfl,rfl⟩|⟨y,u,rfl,rfl⟩
   ·rw[a66]at h;erw[wpAny_eqBool_int h]
   ·rw[a65]at h;erw[SeqAt.EqAt.int_str i t y u _ _ _ _ h]
  ·rcases qx hv with⟨j,u,rfl,rfl⟩|⟨y,u,rfl,rfl⟩
   ·rw[a64]at h;erw[SeqAt.EqAt.str_int x t j u _ _ _ _ h]
   ·rw[a63]at h;erw[wpAny_eqBool_str h]
 «strs»:=λk x t v h=>by
  rcases qx h with⟨i,u,rfl,e⟩|⟨y,u,rfl,e⟩
  ·erw[nomatch e]
  ·injection e with e1 _
   subst e1;cases v<;>rfl
inductive V where |bw|bl (b:Bool)|int (i:Int)|str (x:Str)|kY (b:Array UInt8)|DT (b:UInt64)|ref (a:Addr)|ty (n:String) deriving DecidableEq
def RelV:V->Value->Prop | .bw,u=>u=Value.none | .bl b,u=>u=Value.bool b | .int i,u=>∃t,u=Value.int i t | .str x,u=>∃t,u=Value.str x t | .kY b,u=>∃t,u=Value.bytes b t | .DT b,u=>∃t,u=Value.float b t | .ref a,u=>u=Value.ref a | .ty n,u=>u=Value.type n
abbrev Vals:List V->List Value->Prop:=Paired RelV
theorem Vals.length{xs:List V}{us:List Value}(r:Vals xs us):xs.length=us.length:=Paired.length r
theorem Vals.get:∀{xs:List V}{us:List Value}{i:Nat}{x:V},Vals xs us->xs[i]? =some x->∃u,us[i]? =some u/\RelV x u |_,_,_,_,.nil,e=>by simp at e |_,_,0,_,.cons r _,e=>by simp at e;subst e;erw[_,rfl,r] |_,_,i+1,x,.cons _ t,e=>by let(u,h1,h2):=Vals.get (i:=i) (x:=x) t (by simpa using e);erw[u,by simpa using h1,h2]
theorem Vals.set{x:V}{u:Value}(r:RelV x u):∀{xs:List V}{us:List Value}(i:Nat),Vals xs us->Vals (xs.set i x) (us.set i u) |_,_,_,.nil=>.nil |_,_,0,.cons _ t=>.cons r t |_,_,i+1,.cons q t=>.cons q (Vals.set r i t)
theorem Vals.append:∀{xs ys:List V}{us ws:List Value},Vals xs us->Vals ys ws->Vals (xs++ys) (us++ws) |_,_,_,_,.nil,s=>s |_,_,_,_,.cons r t,s=>.cons r (Vals.append t s)
theorem Vals.take:∀{xs:List V}{us:List Value}(n:Nat),Vals xs us->Vals (xs.take n) (us.take n) |_,_,0,_=>.nil |_,_,_+1,.nil=>.nil |_,_,n+1,.cons r t=>.cons r (Vals.take n t)
theorem Vals.drop:∀{xs:List V}{us:List Value}(n:Nat),Vals xs us->Vals (xs.drop n) (us.drop n) |_,_,0,r=>r |_,_,_+1,.nil=>.nil |_,_,n+1,.cons _ t=>Vals.drop n t
def pI:Option V->Option Value->Prop |some v,some u=>RelV v u |none,none=>True |_,_=>False
def KV{κ:Type}:List (κ×V)->List (κ×Value)->Prop:=Paired λ(p:κ×V)(q:κ×Value)=>p.1=q.1/\RelV p.2 q.2
def kV:Key->V | .inl i=>.int i | .inr x=>.str x
inductive HO where /--a list -/ |lst (xs:List V) /--a tuple (never changes) -/ |tup (xs:List V) /--a dict Y8 keys are ints and texts; one Y8 keys are tuples of ints and texts (rL empty one is both) -/ |dK (eV:List (Key×V))|dT (eV:List (List Key×V)) /--a set of ints: its members,its size -/ |set (S:Int->Bool)(n:Nat) /--an instance of rL class at C,its dict at dx,its attributes -/ |ins (C dx:Addr)(fs:List (Str×V)) /--rL dict of rL instance at x -/ |own (x:Addr) /--rL dict of an exception -/ |xd (fs:List (Str×V)) /--a bound method,f of x -/ |met (f x:Addr) /--a range object lo,lo+1,.. below hi -/ |wY (lo hi:Int) /--a YM afI is known to rL object (rL afO; a dict while a loop walks it): read,never written while it is so -/ |pj (o:Obj)(u:HO) /--a code afW table -/ |rM (ps:Array Value) /--any other YM,by what is true of its one object (a def of afV own: agV a S n:=HO.ext λh=>..) -/ |ext (φ:Heap->Prop)
abbrev Hp:=Addr->Option HO
def upd(H:Hp)(a:Addr)(o:HO):Hp:=λb=>if b=a then some o else H b
theorem cg{H:Hp}{a:Addr}{o:HO}:upd H a o a=some o:=by unfold upd;rw[bc rfl]
theorem aY{H:Hp}{a b:Addr}{o:HO}(h:b≠a):upd H a o b=H b:=by unfold upd;rw[bj h]
theorem zS{H:Hp}{a b:Addr}{o u:HO}(h:H a=some o)(h':H b=some u)(d:o≠u):a≠b:=by intro e;subst e;rw[h]at h';erw[d (eX h')]
theorem eJ{H:Hp}{a b:Addr}{o:HO}(h:H a=some o)(h':H b=none):a≠b:=by intro e;subst e;rw[h]at h';cases h'
section
variable (P:ag) (w:World)
def kb(H:Hp)(h:Heap)(a:Addr):HO->Prop | .lst xs=>xs.length<=sizeLine/\∃(its:List Value)(n:Nat),Vals xs its/\h.get? a=some {cls:=.type "list",data:=.seq its.toArray n} | .tup xs=>xs.length<=sizeLine/\∃its:List Value,Vals xs its/\IsTup h a its.toArray | .dK eV=>eV.length<=sizeLine/\(a==sysModules)=false/\∃vs,KV eV vs/\h.DictOf (JR P w) a vs | .dT eV=>eV.length<=sizeLine/\(a==sysModules)=false/\∃xs:List (List Key×Addr×Value),Paired (λ(p:List Key×V)(q:List Key×Addr×Value)=>p.1=q.1/\H q.2.1=some (.tup (p.1.map kV))/\RelV p.2 q.2.2) eV xs/\∃o es ep,h.get? a=some o/\o.ExactDict/\o.data= .dict es ep/\es.toList=xs.map (entryOfKey (tupleKind (JR P w)))/\(xs.map (·.1)).Nodup | .set S n=>h.SetOf (intKind P w) a S n | .ins C dx fs=>H dx=some (.own a)/\fs.length<=1000/\dx≠a/\h.get? a=some (PySem.W.instObj C dx)/\∃mA,h.Ns1 dx mA/\(∀f,pI (fs.lookup f) (mA f))/\PySem.Within mA (fs.map (·.1)) | .own _=>∃o,h.get? a=some o | .xd fs=>∃mA,h.Ns1 a mA/\∀f,pI (fs.lookup f) (mA f) | .wY lo hi=>∃t u v,h.get? a=some {cls:=.type "range",data:=.fields (List.toArray [.int lo t,.int hi u,.int 1 v])} | .pj o u=>h.get? a=some o/\kb H h a u | .rM ps=>h.get? a=some {cls:=.none,data:=.fields ps} | .met f x=>h.get? a=some (PySem.W.methodObj (.ref f) (.ref x)) | .ext φ=>φ h/\(∃o,h.get? a=some o)/\∀h1 h2:Heap,φ h1->(∀o,h1.get? a=some o->h2.get? a=some o)->φ h2
def fK(H:Hp)(h:Heap):Prop:=∀a o,H a=some o->kb P w H h a o
end
section
variable {P:ag}{w:World}{H H':Hp}{h h':Heap}{a:Addr}{o:HO}
theorem kb.lt(x:kb P w H h a o):a<h.objs.size:=by cases o with |lst xs=>let(_,_,_,_,e):=x;erw[cH e] |tup xs=>let(_,_,_,p):=x;erw[p.lt] |dK eV=>let(_,_,_,_,o,_,_,e,_):=x;erw[cH e] |dT eV=>let(_,_,_,_,o,_,_,e,_):=x;erw[cH e] |set S n=>let(o,_,_,_,e,_):=x;erw[cH e] |ins C dx fs=>let(_,_,_,e,_):=x;erw[cH e] |own y=>let(_,e):=x;erw[cH e] |xd fs=>let(_,(_,_,_,e,_),_):=x;erw[cH e] |wY lo hi=>let(_,_,_,e):=x;erw[cH e] |pj ob u=>let(e,_):=x;erw[cH e] |rM ps=>erw[cH (show h.get? a=some _ from x)] |met f y=>erw[cH (show h.get? a=some _ from x)] |ext φ=>let(_,(_,e),_):=x;erw[cH e]
theorem Paired.TR{α β:Type}{F G:α->β->Prop}:∀{l₁:List α}{l₂:List β},Paired F l₁ l₂->(∀a b,F a b->G a b)->Paired G l₁ l₂ |_,_,.nil,_=>.nil |_,_,.cons r t,f=>.cons (f _ _ r) (Paired.TR t f)
theorem kb.rP(x:kb P w H h a o)(k:∀b u,(b=a\/H b=some (.own a))->h.get? b=some u->h'.get? b=some u) (ho:∀b,H b=some (.own a)->H' b=some (.own a))(ht:∀b xs,H b=some (.tup xs)->H' b=some (.tup xs)):kb P w H' h' a o:=by induction o with |lst xs=>let(z,its,n,r,e):=x;erw[z,its,n,r,k _ _ (.inl Z) e] |tup xs=>let(z,its,r,ob,e,c):=x;erw[z,its,r,ob,k _ _ (.inl Z) e,c] |dK eV=>let(z,y,vs,r,ob,es,ep,e,c):=x;erw[z,y,vs,r,ob,es,ep,k _ _ (.inl Z) e,c] |dT eV=>let(z,y,xs,r,ob,es,ep,e,c):=x;erw[z,y,xs,Paired.TR r λp q z=>#[z.1,ht _ _ z.2.1,z.2.2],ob,es,ep,k _ _ (.inl Z) e,c] |set S n=>let(ob,es,ep,t,e,c):=x;erw[ob,es,ep,t,k _ _ (.inl Z) e,c] |ins C dx fs=>let(d,z,ne,e,mA,(od,es,ep,e2,c),r):=x;erw[ho _ d,z,ne,k _ _ (.inl Z) e,mA,#[od,es,ep,k _ _ (.inr d) e2,c],r] |own y=>let(ob,e):=x;erw[ob,k _ _ (.inl Z) e] |xd fs=>let(mA,(od,es,ep,e,c),r):=x;erw[mA,#[od,es,ep,k _ _ (.inl Z) e,c],r] |wY lo hi=>let(t,u,v,e):=x;erw[t,u,v,k _ _ (.inl Z) e] |pj ob u ih=>let(e,q):=x;erw[k _ _ (.inl Z) e,ih q] |rM ps=>have e:h.get? a=some {cls:=.none,data:=.fields ps}:=x;show h'.get? a=some {cls:=.none,data:=.fields ps};erw[k a _ (.inl Z) e] |met f y=>have e:h.get? a=some (PySem.W.methodObj (.ref f) (.ref y)):=x;show h'.get? a=some (PySem.W.methodObj (.ref f) (.ref y));erw[k a _ (.inl Z) e] |ext φ=>let(p,(o,e),st):=x;erw[st _ _ p λo q=>k _ _ (.inl Z) q,#[o,k _ _ (.inl Z) e],st]
theorem fK.lt(x:fK P w H h)(e:H a=some o):a<h.objs.size:=(x a o e).lt
theorem fK.fresh(x:fK P w H h)(e:h.objs.size<=a):H a=none:=by cases q:H a with |none=>rfl |some u=>erw[absurd (gR (x.lt q) e) (yu _)]
theorem fK.kept(x:fK P w H h)(k:∀b u,h.get? b=some u->h'.get? b=some u):fK P w H h':=λa o e=>(x a o e).rP (λb u _ q=>k b u q) (λ_ q=>q) λ_ _ q=>q
theorem fK.laid(x:fK P w H h)(k:∀b u,h.get? b=some u->h'.get? b=some u)(hp:h.objs.size<=a)(new:kb P w (upd H a o) h' a o):fK P w (upd H a o) h':=λb u e=>by
 have hn:=x.fresh hp;by_cases hb:b=a
 ·subst hb;rw[cg]at e;cases e;erw[new]
 ·rw[aY hb]at e
  exact(x b u e).rP (λc v _ q=>k c v q) (λc q=>by rw[aY (eJ q hn)];erw[q]) λc xs q=>by rw[aY (eJ q hn)];erw[q]
end
def Rd(H:Hp)(a:Addr)(u:HO):Prop:=H a=some u\/∃o,H a=some (.pj o u)
theorem Rd.ok{P:ag}{w:World}{H:Hp}{h:Heap}{a:Addr}{u:HO}(r:Rd H a u)(x:fK P w H h):kb P w H h a u:=by
 rcases r with r|⟨o,r⟩
 ·erw[x a u r]
 ·let(_,q):=x a _ r
  erw[q]
def Ew:Option HO->Prop |some (.lst _)=>True |some (.dK _)=>True |some (.dT _)=>True |some (.set _ _)=>True |some (.ins _ _ _)=>True |some (.ext _)=>True |_=>False
section
variable {P:ag}{w:World}{H:Hp}{h h':Heap}{x e:Addr}{o':HO}
theorem fK.write(ok:fK P w H h)(mu:Ew (H x))(he:e=x\/H e=some (.own x))(k:∀b u,b≠e->h.get? b=some u->h'.get? b=some u)(xJ:∃u,h'.get? e=some u) (new:kb P w (upd H x o') h' x o'):fK P w (upd H x o') h':=λb u q=>by
 have SV:∀c y,H c=some (.own y)->c≠x:=λc y r z=>by subst z;rw[r]at mu;erw[mu]
 have a4q:∀c xs,H c=some (.tup xs)->c≠x:=λc xs r z=>by subst z;rw[r]at mu;erw[mu]
 by_cases hb:b=x
 ·subst hb;rw[cg]at q;cases q;erw[new]
 ·rw[aY hb]at q
  by_cases vm:b=e
  ·have q':H b=some (.own x):=by
    rcases he with z|z
    ·erw[absurd (vm.trans z) hb]
    ·rw[vm];erw[z]
   rw[q]at q';cases q';let(v,hv):=xJ;erw[v,by rw[vm];erw[hv]]
  ·refine(ok b u q).rP (λc v hc r=>k c v ?_ r) (λc r=>by rw[aY (SV c b r)];erw[r]) λc xs r=>by rw[aY (a4q c xs r)];erw[r]
   rcases hc with rfl|hc
   ·erw[vm]
   ·rintro rfl
    rcases he with z|z
    ·erw[SV c b hc z]
    ·rw[hc]at z;cases z;erw[hb rfl]
end
structure Un(fs ex:List Addr)(H H':Hp)(h h':Heap):Prop where
 keep:∀b o,h.get? b=some o->H b=none->b∉fs->b∉ex->h'.get? b=some o
 slot:∀b o,h.get? b=some o->H b=none->b∈fs->b∉ex->∃sl,h'.get? b=some {o with slots:=sl}
 free:∀b o,h.get? b=some o->H b=none->b∉ex->H' b=none
 there:∀b o,h.get? b=some o->b∉ex->∃o',h'.get? b=some o'
 lH:∀b xs,H b=some (.tup xs)->H' b=some (.tup xs)
 kW:∀b o u,H b=some (.pj o u)->H' b=some (.pj o u)
 lI:∀b ps,H b=some (.rM ps)->∃more,H' b=some (.rM (ps++more))
section
variable {fs ph ex kD:List Addr}{H H1 H2:Hp}{h h1 h2 h':Heap}{a x e:Addr}{o:HO}
theorem Un.any(u:Un fs ex H H1 h h1){b:Addr}{ob:Obj}(q:h.get? b=some ob)(n:H b=none)(hx:b∉ex):∃sl,h1.get? b=some {ob with slots:=sl}:=by
 by_cases hb:b∈fs
 ·erw[u.slot b ob q n hb hx]
 ·erw[ob.slots,u.keep b ob q n hb hx]
theorem Un.kept(k:∀b u,h.get? b=some u->h'.get? b=some u):Un fs ex H H h h':=#[λb ob q _ _ _=>k b ob q,λb ob q _ _ _=>#[ob.slots,k b ob q],λ_ _ _ n _=>n,λb ob q _=>#[ob,k b ob q],λ_ _ q=>q,λ_ _ _ q=>q,λ_ ps q=>#[#[],by rw[q];simp]]
theorem Un.refl:Un fs ex H H h h:=Un.kept λ_ _ q=>q
theorem Un.laid(k:∀b u,h.get? b=some u->h'.get? b=some u)(hp:h.objs.size<=a)(hn:H a=none):Un fs ex H (upd H a o) h h' where
 keep:=λb u q _ _ _=>k b u q
 slot:=λb u q _ _ _=>#[u.slots,k b u q]
 free:=λb u q n _=>by rw[aY (eY (gR (cH q) hp))];erw[n]
 there:=λb u q _=>#[u,k b u q]
 lH:=λb xs q=>by rw[aY (eJ q hn)];erw[q]
 kW:=λb u xs q=>by rw[aY (eJ q hn)];erw[q]
 lI:=λb ps q=>#[#[],by rw[aY (eJ q hn),q];simp]
theorem Un.write(mu:Ew (H x))(he:e=x\/H e=some (.own x))(k:∀b u,b≠e->h.get? b=some u->h'.get? b=some u)(xJ:∃u,h'.get? e=some u):Un fs ex H (upd H x o) h h':=by
 have hx:∀b,H b=none->b≠x:=λb n z=>by subst z;rw[n]at mu;erw[mu]
 have hb:∀b,H b=none->b≠e:=λb n z=>by
  subst z;rcases he with r|r
  ·erw[hx b n r]
  ·rw[n]at r;cases r
 have hm:∀b u,H b=some u->¬Ew (some u)->b≠x:=λb u q nm z=>by subst z;rw[q]at mu;erw[nm mu]
 erw[λb u q n _ _=>k b u (hb b n) q,λb u q n _ _=>#[u.slots,k b u (hb b n) q],λb u q n _=>by rw[aY (hx b n)];erw[n],λb u q _=>?_,λb xs q=>by rw[aY (hm b _ q λz=>z)];erw[q],λb u xs q=>by rw[aY (hm b _ q λz=>z)];erw[q],λb ps q=>#[#[],by rw[aY (hm b _ q λz=>z),q];simp]];by_cases vm:b=e
 ·subst vm;erw[xJ]
 ·erw[u,k b u vm q]
end
def BU(h:Heap)(H:Hp):List Addr:=(List.range h.objs.size).filter λa=>(H a).isSome
def qG(h:Heap)(H:Hp):Heap:=PySem.W.hideAll h (BU h H)
theorem a7F(h:Heap)(H:Hp):(qG h H).objs.size=h.objs.size:=PySem.W.hideAll_size _ _
theorem a7G{h:Heap}{H:Hp}{b:Addr}{o:Obj}(e:h.get? b=some o)(n:H b=none):(qG h H).get? b=some o:=PySem.W.hideAll_get _ e λhm=>by have q:(H b).isSome=true:=(List.mem_filter.mp hm).2;rw[n]at q;simp at q
theorem a4i{h:Heap}{H:Hp}{b:Addr}{o:Obj}(e:(qG h H).get? b=some o):h.get? b=some o/\H b=none:=by have e':h.get? b=some o:=PySem.W.of_hideAll (BU h H) e;erw[e',?_];cases q:H b with |none=>rfl |some x=>have hm:b∈BU h H:=List.mem_filter.mpr #[List.mem_range.mpr (cH e'),by simp[q]];have z:(qG h H).get? b=none:=PySem.W.hideAll_none (BU h H) hm;rw[z]at e;cases e
structure Mod(K:aa)(mg:ck)(aw:Heap):Prop where
 xG:K.In aw
 glob:aw.Ns mainGlobals mg
 blt:∃mb,aw.Ns builtinsNs mb/\∀x:Str,x≠"__name__"->mb x=bootBuiltins x
 nolimit:aw.NoLimit
structure Cx where
 prog:ag
 w:World
 K:aa
 mg:ck
 aw:Heap
 A:ai
 N:List Str
 s₀:af
 H₀:Hp
 env:Env
 outer:List Env
 stack:List Env
 ex:List Addr
 fn:Str->Bool
 calm:Bool
 pn:List (Addr×Obj)
 xe:Value->af->Prop
def fW(l:List Env):List Addr:=l.filterMap (·.frame)
abbrev Cx.fs(X:Cx):List Addr:=fW X.outer
def Em(sc:Scope)(x:Str):Prop:=sc.names.lookup x=some .local\/sc.names.lookup x=some .cell\/sc.names.lookup x=some .free
def Loc(sc:Scope)(x:Str):Prop:=sc.names.lookup x=some .local\/sc.names.lookup x=some .cell
def Look(env:Env)(h:Heap)(m:ck)(x:Str)(u:Value):Prop:=(env.kindOf x=some .local/\m x=some u)\/((env.kindOf x=some .cell\/env.kindOf x=some .free)/\∃c,env.cells.lookup x=some c/\h.IsCell c (some u))
structure Cx.Ok(X:Cx):Prop where
 mod:Mod X.K X.mg X.aw
 kind:X.env.scope.kind= .function
 glob:X.env.globals=mainGlobals
 blt:X.env.builtins=builtinsNs
 above:X.s₀.heap.objs.size<=X.env.locals
 inj:∀x y c,X.env.cells.lookup x=some c->X.env.cells.lookup y=some c->x=y
 has:∀x,(X.env.kindOf x=some .cell\/X.env.kindOf x=some .free)->∃c,X.env.cells.lookup x=some c
 xZ:∀x c,X.fn x=true->X.env.cells.lookup x=some c->X.s₀.heap.objs.size<=c
 hd:X.calm=true->X.A.handled=none
 frames:X.A.frames=some X.stack
 yQ:X.stack=X.outer\/(X.stack=X.env::X.outer/\X.env.frame=some X.env.locals)
 LC:∀b∈X.ex,b≠X.env.locals/\∀x c,X.env.cells.lookup x=some c->c≠b
 bs:∀b o,X.aw.get? b=some o->X.s₀.heap.get? b=some o/\X.H₀ b=none
 pE:X.aw.objs.size<=X.s₀.heap.objs.size
 xu:∀b o,X.aw.get? b=some o->b∉X.ex
 tI:∀b∈X.ex,b∉X.fs
 lS:X.s₀.heap.FunFrames X.aw X.outer
 tE:∀b∈X.fs,X.H₀ b=none
structure Inv(X:Cx)(au:List (Addr×Obj))(O:List (Option V))(H:Hp)(s:af):Prop where
 ok:X.Ok
 os:s.os=X.s₀.os
 bare:AllBare s.gens
 aw:Un X.fs X.ex X.H₀ H X.s₀.heap s.heap
 loc:∃m,s.heap.Ns X.env.locals m/\∀(i:Nat)(x:Str)(v:V),X.N[i]? =some x->O[i]? =some (some v)->Em X.env.scope x->∃u,RelV v u/\Look X.env s.heap m x u
 cell:∀x c,X.env.cells.lookup x=some c->∃v,s.heap.IsCell c v
 free:H X.env.locals=none
 pk:∀x c,X.env.cells.lookup x=some c->H c=none
 pin:∀p∈X.pn++au,s.heap.get? p.1=some p.2/\H p.1=none/\p.1≠X.env.locals/\p.1∉X.fs/\∀v,p.2.data≠ .cell v
 bX:fK X.prog X.w H s.heap
 len:O.length=X.N.length
section
variable {X:Cx}{au:List (Addr×Obj)}{O:List (Option V)}{H H':Hp}{s:af}{h':Heap}
theorem Cx.Ok.a4B(ok:X.Ok){b:Addr}{o:Obj}(e:X.aw.get? b=some o):b∉X.fs:=λhb=>by have:=(ok.lS.mem hb).1;rw[e]at this;cases this
theorem Inv.bs(I:Inv X au O H s):∀b o,X.aw.get? b=some o->s.heap.get? b=some o/\H b=none:=λb o e=>#[I.aw.keep b o (I.ok.bs b o e).1 (I.ok.bs b o e).2 (I.ok.a4B e) (I.ok.xu b o e),I.aw.free b o (I.ok.bs b o e).1 (I.ok.bs b o e).2 (I.ok.xu b o e)]
theorem Inv.bk(I:Inv X au O H s):∀b o,X.aw.get? b=some o->s.heap.get? b=some o:=λb o e=>(I.bs b o e).1
theorem Inv.mod(I:Inv X au O H s):Mod X.K X.mg X.aw:=I.ok.mod
theorem Inv.iP(I:Inv X au O H s):X.K.In s.heap:=I.ok.mod.xG.keeps I.bk
theorem Inv.lt(I:Inv X au O H s):X.env.locals<s.heap.objs.size:=let#[_,hn,_]:=I.loc;hn.lt
theorem Inv.sz(I:Inv X au O H s):X.s₀.heap.objs.size<=s.heap.objs.size:=iK I.ok.above (N0 I.lt)
theorem Inv.a4z(I:Inv X au O H s){a:Addr}(h:s.heap.objs.size<=a):a∉X.fs:=λhb=>by let(_,o,ho,_):=I.ok.lS.mem hb;erw[absurd (gR (cH ho) (iK I.sz h)) (yu _)]
theorem Inv.vN(I:Inv X au O H s):∀x c,X.env.cells.lookup x=some c->c≠X.env.locals:=λx c e z=>by let(v,o,ho,hd):=I.cell x c e;let(m,(o',es,ep,nK,KJ,_),_):=I.loc;rw[z,nK]at ho;cases ho;rw[KJ]at hd;cases hd
theorem Inv.lS(I:Inv X au O H s):s.heap.FunFrames X.aw X.outer:=by
 have all:∀(l:List Env),(∀b∈fW l,b∈X.fs)->X.s₀.heap.FunFrames X.aw l->s.heap.FunFrames X.aw l:=by intro l;induction l with |nil=>intro _ _;trivial |cons env r ih=>intro hs hl;let(hk,(L,o,hf,hn,ho,hd),hr):=hl;have hL:L∈X.fs:=hs L (by unfold fW;rw[XO,hf];erw[N4]);let(sl,e):=I.aw.slot L o ho (I.ok.tE L hL) hL λz=>I.ok.tI L z hL;erw[hk,#[L,_,hf,hn,e,hd],ih (λb hb=>hs b (by unfold fW;rw[XO,hf];erw[yw _ hb])) hr]
 erw[all X.outer (λ_ hb=>hb) I.ok.lS]
theorem Inv.stack(I:Inv X au O H s):s.heap.FunFrames X.aw X.stack:=by
 rcases I.ok.yQ with e|⟨e,hf⟩
 ·rw[e];erw[I.lS]
 ·rw[e]
  let(m,hn,_):=I.loc;erw[.cons (by rw[I.ok.kind];decide) hf hn ?_ I.lS];erw[Heap.get?_none_of_le (iK I.ok.pE I.ok.above)]
theorem Inv.Fm(I:Inv X au O H s):∀b∈fW X.stack,b∈X.env.locals::X.fs:=λb hb=>by
 rcases I.ok.yQ with e|⟨e,hf⟩
 ·rw[e]at hb;erw[yw _ hb]
 ·rw[e]at hb
  unfold fW at hb;rw[XO,hf]at hb;erw[hb]
theorem Inv.NY(I:Inv X au O H s):∀b∈fW X.stack,H b=none:=λb hb=>by
 rcases cO.mp (I.Fm b hb)with e|hb
 ·rw[e];erw[I.free]
 ·let(_,o,ho,_):=I.ok.lS.mem hb
  erw[I.aw.free b o ho (I.ok.tE b hb) λz=>I.ok.tI b z hb]
theorem Inv.step{g':Array GenState}{t':Nat}{d':Drawn}{ch:List Addr}(I:Inv X au O H s) (mJ:∀b∈ch,(b∈X.ex\/X.s₀.heap.objs.size<=b)/\b≠X.env.locals/\(∀x c,X.env.cells.lookup x=some c->c≠b)/\∀p∈X.pn++au,p.1≠b) (keep:∀b o,b≠X.env.locals->b∉X.fs->b∉ch->s.heap.get? b=some o->H b=none->h'.get? b=some o) (slot:∀b o,b≠X.env.locals->b∈X.fs->b∉ch->s.heap.get? b=some o->H b=none->∃sl,h'.get? b=some {o with slots:=sl})(free:∀b o,b∉ch->s.heap.get? b=some o->H b=none->H' b=none) (there:∀b o,b∉ch->s.heap.get? b=some o->∃o',h'.get? b=some o') (lH:∀b xs,H b=some (.tup xs)->H' b=some (.tup xs))(kW:∀b o u,H b=some (.pj o u)->H' b=some (.pj o u))(lI:∀b ps,H b=some (.rM ps)->∃more,H' b=some (.rM (ps++more))) (ns:∀m,s.heap.Ns X.env.locals m->h'.Ns X.env.locals m)(bX:fK X.prog X.w H' h')(hg:AllBare g'): Inv X au O H' {s with heap:=h',gens:=g',drawn:=d',toks:=t'}:=by
 have Ti:∀b o,X.s₀.heap.get? b=some o->b≠X.env.locals:=λb o e=>eY (gR (cH e) I.ok.above);have CZ:∀b o,X.s₀.heap.get? b=some o->b∉X.ex->b∉ch:=λb o e hx hb=>by
  rcases(mJ b hb).1 with z|z
  ·erw[hx z]
  ·erw[absurd (gR (cH e) z) (yu _)]
 have cellK:∀x c,X.env.cells.lookup x=some c->∀v,s.heap.IsCell c v->h'.IsCell c v:=λx c e v #[o,ho,hd]=>by
  have zT:c∉ch:=λz=>(mJ c z).2.2.1 x c e rfl;by_cases hc:c∈X.fs
  ·let(sl,q):=slot c o (I.vN x c e) hc zT ho (I.pk x c e)
   erw[_,q,hd]
  ·erw[o,keep c o (I.vN x c e) hc zT ho (I.pk x c e),hd]
 erw[I.ok,I.os,hg,#[λb o e n hb hx=>?_,λb o e n hb hx=>?_,λb o e n hx=>?_,λb o e hx=>?_,λb xs e=>lH b xs (I.aw.lH b xs e),λb o xs e=>kW b o xs (I.aw.kW b o xs e),λb ps e=>?_],?_,λx c e=>?_,?_,λx c e=>?_,λp hp=>?_,bX,I.len]
 ·erw[keep b o (Ti b o e) hb (CZ b o e hx) (I.aw.keep b o e n hb hx) (I.aw.free b o e n hx)]
 ·let(sl,e1):=I.aw.slot b o e n hb hx
  let(FR,e2):=slot b _ (Ti b o e) hb (CZ b o e hx) e1 (I.aw.free b o e n hx);erw[FR,e2]
 ·let(o',e1):=I.aw.there b o e hx
  erw[free b o' (CZ b o e hx) e1 (I.aw.free b o e n hx)]
 ·let(o',e1):=I.aw.there b o e hx
  erw[there b o' (CZ b o e hx) e1]
 ·let(m1,e1):=I.aw.lI b ps e
  let(m2,e2):=lI b _ e1;erw[m1++m2,by rw[e2,Array.append_assoc]]
 ·let(m,hn,hl):=I.loc
  erw[m,ns m hn,λi x v e1 e2 e3=>?_];let(u,r,l):=hl i x v e1 e2 e3;erw[u,r,?_];rcases l with l|⟨k,c,e,z⟩
  ·erw[.inl l]
  ·erw[.inr #[k,c,e,cellK x c e _ z]]
 ·let(v,z):=I.cell x c e
  erw[v,cellK x c e v z]
 ·let(m,(o,_,_,ho,_),_):=I.loc
  erw[free _ o (λz=>(mJ _ z).2.1 Z) ho I.free]
 ·let(v,o,ho,hd):=I.cell x c e
  erw[free c o (λz=>(mJ c z).2.2.1 x c e Z) ho (I.pk x c e)]
 ·let(e,n,ne,nf,d):=I.pin p hp
  have zT:p.1∉ch:=λz=>(mJ p.1 z).2.2.2 p hp rfl;erw[keep p.1 p.2 ne nf zT e n,free p.1 p.2 zT e n,ne,nf,d]
theorem Inv.un{t':Nat}(I:Inv X au O H s)(u:Un X.fs [] H H' s.heap h')(bX:fK X.prog X.w H' h'):Inv X au O H' {s with heap:=h',toks:=t'}:=by let(m,(o,es,ep,ho,r),_):=id I.loc;let(sl,hL):=u.any ho I.free (by simp);erw[I.step (g':=s.gens) (d':=s.drawn) (ch:=[]) (λ_ z=>nomatch z) (λb o _ hb _ e n=>u.keep b o e n hb (by simp)) (λb o _ hb _ e n=>u.slot b o e n hb (by simp)) (λb o _ e n=>u.free b o e n (by simp)) (λb o _ e=>u.there b o e (by simp)) u.lH u.kW u.lI (λm' hm=>by let(o',jA,LH,nK,r'):=hm;rw[ho]at nK;cases nK;erw[_,jA,LH,hL,r']) bX I.bare]
theorem Inv.call{g':Array GenState}{t':Nat}{d':Drawn}{ch:List Addr}(I:Inv X au O H s)(u:Un (fW X.stack) ch H H' s.heap h')(bX:fK X.prog X.w H' h')(hg:AllBare g') (mJ:∀b∈ch,(b∈X.ex\/X.s₀.heap.objs.size<=b)/\b≠X.env.locals/\(∀x c,X.env.cells.lookup x=some c->c≠b)/\∀p∈X.pn++au,p.1≠b): Inv X au O H' {s with heap:=h',gens:=g',drawn:=d',toks:=t'}:=by let(m,(o,es,ep,ho,r),_):=id I.loc;let(sl,hL):=u.any ho I.free λz=>(mJ _ z).2.1 rfl;erw[I.step (ch:=ch) mJ (λb o hL hb hc e n=>u.keep b o e n (λz=>(cO.mp (I.Fm b z)).elim hL hb) hc) (λb o _ _ hc e n=>u.any e n hc) (λb o hc e n=>u.free b o e n hc) (λb o hc e=>u.there b o e hc) u.lH u.kW u.lI (λm' hm=>by let(o',jA,LH,nK,r'):=hm;rw[ho]at nK;cases nK;erw[_,jA,LH,hL,r']) bX hg]
theorem Inv.turned{t':Nat}{it:Addr}(I:Inv X au O H s)(k:∀b o,b≠it->s.heap.get? b=some o->h'.get? b=some o)(hn:H it=none)(hL:it≠X.env.locals) (h1:it∈X.ex\/X.s₀.heap.objs.size<=it)(h2:∀x c,X.env.cells.lookup x=some c->c≠it)(h3:∀p∈X.pn++au,p.1≠it):Inv X au O H {s with heap:=h',toks:=t'}:=by
 have zQ:∀b u,H b=some u->b≠it:=λb u e z=>by rw[z,hn]at e;cases e
 erw[I.step (g':=s.gens) (d':=s.drawn) (ch:=[it]) (λb hb=>?_) (λb o _ _ hc e _=>k b o (λz=>hc (by simp[z])) e) (λb o _ _ hc e _=>#[o.slots,k b o (λz=>hc (by simp[z])) e]) (λ_ _ _ _ n=>n) (λb o hc e=>#[o,k b o (λz=>hc (by simp[z])) e]) (λ_ _ e=>e) (λ_ _ _ e=>e) (λb ps e=>#[#[],by rw[e];simp]) (λm hm=>?_) (λb u e=>?_) I.bare]
 ·have e:b=it:=by simpa using hb
  subst e;erw[h1,hL,h2,h3]
 ·let(o,es,ep,ho,r):=hm
  erw[o,es,ep,k _ o (kI hL) ho,r]
 ·refine(I.bX b u e).rP (λc v hc q=>k c v ?_ q) (λ_ q=>q) λ_ _ q=>q
  rcases hc with z|z
  ·rw[z];erw[zQ b u e]
  ·erw[zQ c _ z]
theorem Inv.tok(I:Inv X au O H s)(t:Nat):Inv X au O H {s with toks:=t}:=I.un (h':=s.heap) (t':=t) Un.refl I.bX
theorem Inv.kept{t':Nat}(I:Inv X au O H s)(k:∀b u,s.heap.get? b=some u->h'.get? b=some u):Inv X au O H {s with heap:=h',toks:=t'}:=I.un (Un.kept k) (I.bX.kept k)
theorem Inv.laid{a:Addr}{o:HO}{t':Nat}(I:Inv X au O H s)(k:∀b u,s.heap.get? b=some u->h'.get? b=some u)(hp:s.heap.objs.size<=a)(new:kb X.prog X.w (upd H a o) h' a o): Inv X au O (upd H a o) {s with heap:=h',toks:=t'}:=I.un (Un.laid k hp (I.bX.fresh hp)) (I.bX.laid k hp new)
theorem Inv.write{x e:Addr}{o:HO}{t':Nat}(I:Inv X au O H s)(mu:Ew (H x))(he:e=x\/H e=some (.own x))(k:∀b u,b≠e->s.heap.get? b=some u->h'.get? b=some u)(xJ:∃u,h'.get? e=some u) (new:kb X.prog X.w (upd H x o) h' x o):Inv X au O (upd H x o) {s with heap:=h',toks:=t'}:=I.un (Un.write mu he k xJ) (I.bX.write mu he k xJ new)
theorem Inv.Sj{Sk:List (Addr×Obj)}(I:Inv X au O H s)(h:∀p∈Sk,s.heap.get? p.1=some p.2/\H p.1=none/\p.1≠X.env.locals/\p.1∉X.fs/\∀v,p.2.data≠ .cell v):Inv X Sk O H s:=#[I.ok,I.os,I.bare,I.aw,I.loc,I.cell,I.free,I.pk,λp hp=>(iy.mp hp).elim (λz=>I.pin p (XH _ z)) (h p),I.bX,I.len]
theorem SX{N:List Str}(hN:N.Nodup){i j:Nat}{x:Str}(a:N[i]? =some x)(b:N[j]? =some x):i=j:=by let(h1,e1):=cJ.mp a;let(h2,e2):=cJ.mp b;exact(List.getElem_inj hN).mp (e1.trans e2.symm)
theorem NW{M:Model}{A:ai}{E:Value->af->Prop}{i:Nat}{x:Str}{v:V}{u:Value}{Q:Unit->af->Prop}(I:Inv X au O H s)(hN:X.N.Nodup)(hi:X.N[i]? =some x)(hx:Loc X.env.scope x)(r:RelV v u) (h:∀s',Inv X au (O.set i (some v)) H s'->(∃a,Heap.SameBut a s.heap s'.heap/\(a=X.env.locals\/X.env.cells.lookup x=some a))->Q () s')(hf:autoParam (X.fn x=true\/X.env.scope.names.lookup x=some .local) d8_._auto_1):wpAny M A (storeName X.env x u) Q E s:=by
 let(m,hn,hl):=id I.loc;have a85:(X.env.scope.kind== .class||(X.env.scope.kind== .module&&X.env.locals !=X.env.globals))=false:=by rw[I.ok.kind];rfl
 have UY:i<O.length:=by rw[I.len];exact(cJ.mp hi).1
 have vN:=I.vN;have tracked:∀{a:Addr}{h':Heap},(∃o,s.heap.get? a=some o/\H a=none)->Heap.SameBut a s.heap h'->fK X.prog X.w H h':=λ{a h'} ha hs b ob e=>by
  let(_,_,sZ):=ha;refine(I.bX b ob e).rP (λc w' hc q=>(hs.2 c ?_).trans q) (λ_ q=>q) λ_ _ q=>q;rintro rfl;rcases hc with rfl|hc
  ·rw[sZ]at e;cases e
  ·rw[sZ]at hc;cases hc
 rcases hx with hk|hk
 ·erw[wpAny_storeName_local hk hn (λh' Af hs=>?_) a85]
  let(oL,_,_,hoL,_):=id hn;erw[h _ #[I.ok,I.os,I.bare,#[λb o e n hb hx=>?_,λb o e n hb hx=>?_,I.aw.free,λb o e hx=>?_,I.aw.lH,I.aw.kW,I.aw.lI],#[_,Af,λj y v' e1 e2 e3=>?_],λy c e=>?_,I.free,I.pk,λp hp=>?_,tracked #[oL,hoL,I.free] hs,by simpa using I.len] #[_,hs,.inl rfl]]
  ·exact(hs.2 b (eY (gR (cH e) I.ok.above))).trans (I.aw.keep b o e n hb hx)
  ·let(sl,e1):=I.aw.slot b o e n hb hx
   erw[sl,(hs.2 b (eY (gR (cH e) I.ok.above))).trans e1]
  ·let(o',e1):=I.aw.there b o e hx
   erw[o',(hs.2 b (eY (gR (cH e) I.ok.above))).trans e1]
  ·by_cases hj:j=i
   ·subst hj
    rw[hi]at e1;cases e1;rw[List.getElem?_set_self UY]at e2;cases e2;erw[u,r,.inl #[hk,by simp]]
   ·rw[List.getElem?_set_ne (kI hj)]at e2
    let(u',r',q):=hl j y v' e1 e2 e3;erw[u',r',?_];rcases q with⟨k,e⟩|⟨k,c,e,z⟩
    ·erw[.inl #[k,?_]]
     have:y≠x:=λe=>hj (SX hN e1 (e▸hi));simp[this,e]
    ·erw[.inr #[k,c,e,z.sameBut hs (vN y c e)]]
  ·let(w',z):=I.cell y c e
   erw[w',z.sameBut hs (vN y c e)]
  ·let(e,n,ne,nf,d):=I.pin p hp
   erw[(hs.2 p.1 ne).trans e,n,ne,nf,d]
 ·have KI:X.fn x=true:=by
   rcases hf with z|z
   ·erw[z]
   ·rw[z]at hk;cases hk
  let(c,hc):=I.ok.has x (.inl hk);let(w',z):=I.cell x c hc;erw[wpAny_storeName_cell I.ok.kind hk hc z (λh' jU hs=>?_)];let(oc,UQ,a75):=id z;erw[h {s with heap:=h'} #[I.ok,I.os,I.bare,#[λb o e n hb hx=>?_,λb o e n hb hx=>?_,I.aw.free,λb o e hx=>?_,I.aw.lH,I.aw.kW,I.aw.lI],#[m,hn.sameBut hs (kI (vN x c hc)),λj y v' e1 e2 e3=>?_],λy c' e=>?_,I.free,I.pk,λp hp=>?_,tracked #[oc,UQ,I.pk x c hc] hs,by simpa using I.len] #[c,hs,.inr hc]]
  ·exact(hs.2 b (eY (gR (cH e) (I.ok.xZ x c KI hc)))).trans (I.aw.keep b o e n hb hx)
  ·let(sl,e1):=I.aw.slot b o e n hb hx
   erw[sl,(hs.2 b (eY (gR (cH e) (I.ok.xZ x c KI hc)))).trans e1]
  ·let(o',e1):=I.aw.there b o e hx
   erw[o',(hs.2 b (eY (gR (cH e) (I.ok.xZ x c KI hc)))).trans e1]
  ·by_cases hj:j=i
   ·subst hj
    rw[hi]at e1;cases e1;rw[List.getElem?_set_self UY]at e2;cases e2;erw[u,r,.inr #[.inl hk,c,hc,jU]]
   ·rw[List.getElem?_set_ne (kI hj)]at e2
    let(u',r',q):=hl j y v' e1 e2 e3;erw[u',r',?_];rcases q with q|⟨k,c',e,z'⟩
    ·erw[.inl q]
    ·erw[.inr #[k,c',e,z'.sameBut hs ?_]]
     rintro rfl;erw[hj (SX hN e1 (I.ok.inj _ _ _ e hc▸hi))]
  ·by_cases V3:c'=c
   ·subst V3;erw[_,jU]
   ·let(w2,z2):=I.cell y c' e
    erw[w2,z2.sameBut hs V3]
  ·let(e,n,ne,nf,d):=I.pin p hp
   erw[(hs.2 p.1 ?_).trans e,n,ne,nf,d];intro q;rw[q,UQ]at e;have q':oc=p.2:=eX e;erw[d w' (by rw[<-q'];erw[a75])]
theorem C4{M:Model}{A:ai}{E:Value->af->Prop}{i:Nat}{x:Str}{v:V}{u:Value}{Q:Unit->af->Prop}(I:Inv X au O H s)(hN:X.N.Nodup)(hi:X.N[i]? =some x)(hx:Loc X.env.scope x)(r:RelV v u) (h:∀s',Inv X au (O.set i (some v)) H s'->Q () s')(hf:autoParam (X.fn x=true\/X.env.scope.names.lookup x=some .local) d8_._auto_1):wpAny M A (storeName X.env x u) Q E s:=NW I hN hi hx r (λs' I' _=>h s' I') hf
theorem Inv.M9{s':af}{ch:List Addr}(I:Inv X au O H s)(ho:s'.os=s.os)(u:Un (fW X.stack) ch H H' s.heap s'.heap)(bX:fK X.prog X.w H' s'.heap)(hg:AllBare s'.gens) (mJ:∀b∈ch,(b∈X.ex\/X.s₀.heap.objs.size<=b)/\b≠X.env.locals/\(∀x c,X.env.cells.lookup x=some c->c≠b)/\∀p∈X.pn++au,p.1≠b):Inv X au O H' s':=by let(h',g',d',t',o'):=s';have e:o'=s.os:=ho;subst e;erw[I.call (g':=g') (t':=t') (d':=d') u bX hg mJ]
end
abbrev XK:=Value->Option Addr->Hp->Prop
abbrev St:=List (Option V)
abbrev VK:=V->Hp->Prop
abbrev TE:=St->Hp->VK->Prop
abbrev TT:=St->Hp->(Bool->Hp->Prop)->Prop
abbrev TA:=St->Hp->(List V->Hp->Prop)->Prop
structure Ends where
 nx:St->Hp->Prop
 rt:VK
 bk:St->Hp->Prop:=λ_ _=>False
 ct:St->Hp->Prop:=λ_ _=>False
abbrev TS:=Ends->St->Hp->Prop
def EP(X:Cx)(au:List (Addr×Obj))(O:St)(Q:VK)(u:Value)(s':af):Prop:=∃v H',Inv X au O H' s'/\RelV v u/\Q v H'
def TP(X:Cx)(au:List (Addr×Obj))(O:St)(Q:Bool->Hp->Prop)(b:Bool)(s':af):Prop:=∃H',Inv X au O H' s'/\Q b H'
def AP(X:Cx)(au:List (Addr×Obj))(O:St)(Q:List V->Hp->Prop)(us:List Value)(s':af):Prop:=∃vs H',Inv X au O H' s'/\Vals vs us/\Q vs H'
def SP(X:Cx)(au:List (Addr×Obj))(D:Ends)(f:Flow)(s':af):Prop:=match f with | .next=>∃σ' H',Inv X au σ' H' s'/\D.nx σ' H' | .brk=>∃σ' H',Inv X au σ' H' s'/\D.bk σ' H' | .cont=>∃σ' H',Inv X au σ' H' s'/\D.ct σ' H' | .ret u=>∃v σ' H',Inv X au σ' H' s'/\RelV v u/\D.rt v H'
def PE(X:Cx)(e:Expr)(t:TE):Prop:=∀(au:List (Addr×Obj))(s:af)(O:St)(H:Hp)(Q:VK),Inv X au O H s->t O H Q->wpAny (model X.prog X.w) X.A (eval e X.env) (EP X au O Q) X.xe s
def PT(X:Cx)(e:Expr)(t:TT):Prop:=∀(au:List (Addr×Obj))(s:af)(O:St)(H:Hp)(Q:Bool->Hp->Prop),Inv X au O H s->t O H Q->wpAny (model X.prog X.w) X.A (isTrue e X.env (eval e X.env)) (TP X au O Q) X.xe s
def PW(X:Cx)(e:Expr)(t:TT):Prop:=∀(whole:Sem Value)(au:List (Addr×Obj))(s:af)(O:St)(H:Hp)(Q:Bool->Hp->Prop),Inv X au O H s->t O H Q->wpAny (model X.prog X.w) X.A (isTrue e X.env whole) (TP X au O Q) X.xe s
theorem PW.pt{X:Cx}{e:Expr}{t:TT}(h:PW X e t):PT X e t:=h _
def PA(X:Cx)(es:List Expr)(t:TA):Prop:=∀(pos:Pos)(au:List (Addr×Obj))(s:af)(O:St)(H:Hp)(Q:List V->Hp->Prop),Inv X au O H s->t O H Q->wpAny (model X.prog X.w) X.A (spliced (backTo pos (starEach es X.env))) (AP X au O Q) X.xe s
def PS(X:Cx)(st:Stmt)(t:TS):Prop:=∀(au:List (Addr×Obj))(s:af)(O:St)(H:Hp)(D:Ends),Inv X au O H s->t D O H->wpAny (model X.prog X.w) X.A (exec st X.env) (SP X au D) X.xe s
def iU(X:Cx)(st:List Stmt)(t:TS):Prop:=∀(au:List (Addr×Obj))(s:af)(O:St)(H:Hp)(D:Ends),Inv X au O H s->t D O H->wpAny (model X.prog X.w) X.A (execs st X.env) (SP X au D) X.xe s
theorem aZ{α:Type}{t:Sem α}{Q Q':α->af->Prop}{M:Model}{A:ai}{E:Value->af->Prop}{s:af}(h:wpAny M A t Q E s)(hQ:∀a s,Q a s->Q' a s):wpAny M A t Q' E s:=gI h hQ λ_ _ x=>x
section
variable {X:Cx}
inductive ad5(i:Nat)(O:St)(H:Hp)(Q:VK):Prop |mk (v:_)(h0:O[i]? =some (some v))(h1:Q v H)
def wG(i:Nat):TE:=λO H Q=>ad5 i O H Q
def tC (v:V):TE:=λ_ H Q=>Q v H
theorem Sq{i:Nat}{x:Str}{pos:Pos}(hN:X.N[i]? =some x)(hv:Em X.env.scope x)(hd:autoParam ((x==("__debug__":Str))=false) q8_._auto_1)(jS:autoParam ((x==("__classdict__":Str))=false) q8_._auto_1):PE X (.Name x pos) (wG i):=by
 intro au s O H Q I h;let(v,e,h):=h;let(m,hn,hl):=I.loc;let(u,r,l):=hl i x v hN e hv;have fin:EP X au O Q u s:=#[v,H,I,r,h];rcases l with⟨hk,hm⟩|⟨hk,c,hc,p9⟩
 ·erw[wpAny_Name (wpAny_loadName_local I.ok.kind hk hn hm fin) hd]
 ·rcases hk with hk|hk
  ·erw[wpAny_Name (wpAny_loadName_cell I.ok.kind hk hc p9 fin) hd]
  ·erw[wpAny_Name (wpAny_loadName_free I.ok.kind hk hc p9 fin jS) hd]
theorem aE{i j pos}:PE X (.Constant (.int i) j pos) (tC (.int i)):=λ_ _ _ H _ I h=>wpAny_Constant_int #[.int i,H,I.tok _,#[_,Z],h]
theorem j7{b j pos}:PE X (.Constant (.bool b) j pos) (tC (.bl b)):=λ_ _ _ H _ I h=>Constant_bool #[.bl b,H,I,Z,h]
theorem gX{j pos}:PE X (.Constant .none j pos) (tC .bw):=λ_ _ _ H _ I h=>Constant_none #[.bw,H,I,Z,h]
theorem bW{x j pos}:PE X (.Constant (.str x) j pos) (tC (.str x)):=λ_ _ _ H _ I h=>Calls.Constant_str #[.str x,H,I.tok _,#[_,Z],h]
def Gl(X:Cx)(x:Str):Prop:=X.env.kindOf x=some .globalImplicit
theorem zY{E:Value->af->Prop}{au:List (Addr×Obj)}{s:af}{O:St}{H:Hp}{x:Str}{u:Value}{pos:Pos}{Q:Value->af->Prop}(I:Inv X au O H s)(hg:Gl X x)(hm:X.mg x=some u)(h:Q u s) (hd:autoParam ((x==("__debug__":Str))=false) q8_._auto_1):wpAny (model X.prog X.w) X.A (eval (.Name x pos) X.env) Q E s:=Calls.Name_function_global I.ok.kind hg (Calls.loadGlobal_global (by rw[I.ok.glob];erw[I.mod.glob.keeps I.bk]) hm h) hd
theorem sF{E:Value->af->Prop}{au:List (Addr×Obj)}{s:af}{O:St}{H:Hp}{x:Str}{u:Value}{pos:Pos}{Q:Value->af->Prop}(I:Inv X au O H s)(hg:Gl X x)(hm:X.mg x=none)(hv:bootBuiltins x=some u)(h:Q u s) (hn:autoParam (x≠"__name__") q8_._auto_1)(hd:autoParam ((x==("__debug__":Str))=false) q8_._auto_1):wpAny (model X.prog X.w) X.A (eval (.Name x pos) X.env) Q E s:=by let(mb,h1,h2):=I.mod.blt;erw[Calls.Name_function_global I.ok.kind hg (Calls.loadGlobal_builtin (by rw[I.ok.glob];erw[I.mod.glob.keeps I.bk]) hm (by rw[I.ok.blt];erw[h1.keeps I.bk]) ((h2 x hn).trans hv) h) hd]
theorem a1R{x:Str}{v:V}{u:Value}{pos:Pos}(hg:Gl X x)(hm:X.mg x=some u)(r:RelV v u)(hd:autoParam ((x==("__debug__":Str))=false) q8_._auto_1):PE X (.Name x pos) (tC v):=λ_ _ _ H _ I h=>zY I hg hm #[v,H,I,r,h] hd
theorem mh{x:Str}{v:V}{u:Value}{pos:Pos}(hg:Gl X x)(hm:X.mg x=none)(hv:bootBuiltins x=some u)(r:RelV v u)(hn:autoParam (x≠"__name__") q8_._auto_1)(hd:autoParam ((x==("__debug__":Str))=false) q8_._auto_1):PE X (.Name x pos) (tC v):=λ_ _ _ H _ I h=>sF I hg hm hv #[v,H,I,r,h] hn hd
variable {a b:Expr}{ta tb:TE}{pos:Pos}
def PC(X:Cx)(op:CmpOp)(a b:Expr)(t:TE):Prop:=∀(au:List (Addr×Obj))(s:af)(O:St)(H:Hp)(Q:VK),Inv X au O H s->t O H Q->wpAny (model X.prog X.w) X.A (eval a X.env) (λv s₁=>wpAny (model X.prog X.w) X.A (eval b X.env) (λu s₂=>wpAny (model X.prog X.w) X.A (compareOp op v u) (EP X au O Q) X.xe s₂) X.xe s₁) X.xe s
inductive ItB(Q:Bool->Hp->Prop)(x:V)(H1:Hp):Prop |mk (c:_)(h0:x= .bl c)(h1:Q c H1)
def tB(t:TE):TT:=λO H Q=>t O H λx H1=>ItB Q x H1
theorem a1t{op:CmpOp}{t:TE}(h:PC X op a b t)(h1:behindInMarks op b=false:=by first|erw[afY _ az az]|rfl):PT X (.Compare a [op] [b] pos) (tB t):=by intro au s O H Q I hw;erw[wpAny_isTrue_Compare1 (aZ (h au s O H _ I hw) λv s1 h1=>aZ h1 λu s2 h2=>aZ h2 λc s3 #[x,H1,I1,r1,q1]=>?_) h1];let(d,rfl,q):=q1;cases r1;erw[pK #[H1,I1,q]]
theorem cw{e:Expr}{t:TE}(h:PE X e t)(he:autoParam (∀whole,isTrue e X.env whole=(do let v<-whole;standAt e.pos;holding [v] (truthy v))) d8_._auto_1):PT X e (tB t):=by intro au s O H Q I hw;erw[isTrue_plain (aZ (h au s O H _ I hw) λv s1 #[x,H1,I1,r1,q1]=>?_) (he _)];let(d,rfl,q):=q1;cases r1;erw[pK #[H1,I1,q]]
variable {tA C2:TT} {rest:List Expr}
def NP(t u:TT):TT:=λO H Q=>t O H λc H1=>if c=true then u O H1 Q else Q false H1
def Z1(t u:TT):TT:=λO H Q=>t O H λc H1=>if c=true then Q true H1 else u O H1 Q
def Z3(t:TT):TT:=λO H Q=>t O H λc H1=>Q (!c) H1
theorem xf(ha:PT X a tA):PW X (.BoolOp .And [a] pos) tA:=by intro wh au s O H Q I h;erw[isTrue_and (aZ (ha au s O H Q I h) λc s1 e=>?_)];cases c with |true=>erw[isTrue_and_nil e] |false=>erw[e]
theorem jL(ha:PT X a tA):PW X (.BoolOp .Or [a] pos) tA:=by intro wh au s O H Q I h;erw[isTrue_or (aZ (ha au s O H Q I h) λc s1 e=>?_)];cases c with |false=>erw[isTrue_or_nil e] |true=>erw[e]
theorem si(ha:PT X a tA)(hb:PW X (.BoolOp .And (b::rest) pos) C2):PW X (.BoolOp .And (a::b::rest) pos) (NP tA C2):=by intro wh au s O H Q I h;erw[isTrue_and (aZ (ha au s O H _ I h) λc s1 #[H1,I1,q1]=>?_)];cases c with |true=>erw[hb wh au s1 O H1 Q I1 q1] |false=>erw[H1,I1,q1]
theorem iL(ha:PT X a tA)(hb:PW X (.BoolOp .Or (b::rest) pos) C2):PW X (.BoolOp .Or (a::b::rest) pos) (Z1 tA C2):=by intro wh au s O H Q I h;erw[isTrue_or (aZ (ha au s O H _ I h) λc s1 #[H1,I1,q1]=>?_)];cases c with |true=>erw[H1,I1,q1] |false=>erw[hb wh au s1 O H1 Q I1 q1]
theorem cT(ha:PT X a tA):PT X (.UnaryOp .Not a pos) (Z3 tA):=by intro au s O H Q I h;erw[isTrue_not (ha au s O H (λc H1=>Q (!c) H1) I h)]
inductive adg(tb:TE)(O:St)(Q:VK)(x:V)(H1:Hp):Prop |mk (c:_)(h0:x= .bl c)(h1:if c=true then tb O H1 Q else Q (.bl false) H1)
def Zf(ta tb:TE):TE:=λO H Q=>ta O H λx H1=>adg tb O Q x H1
inductive ada(Q:VK)(x:V)(H1:Hp):Prop |mk (c:_)(h0:x= .bl c)(h1:Q (.bl (!c)) H1)
def Z2(ta:TE):TE:=λO H Q=>ta O H λx H1=>ada Q x H1
theorem oM{op}{t:TE}(h:PE X a t):PE X (.BoolOp op [a] pos) t:=λau s O H Q I hw=>BoolOp_one (h au s O H Q I hw)
theorem qf(ha:PE X a ta)(hb:PE X (.BoolOp .And (b::rest) pos) tb):PE X (.BoolOp .And (a::b::rest) pos) (Zf ta tb):=by intro au s O H Q I h;erw[BoolOp_and (aZ (ha au s O H _ I h) λv s1 #[x,H1,I1,r1,q1]=>?_)];let(c,rfl,q1):=q1;cases r1;erw[pK ?_];cases c with |true=>erw[hb au s1 O H1 Q I1 q1] |false=>erw[.bl false,H1,I1,Z,q1]
theorem Jk(ha:PE X a ta):PE X (.UnaryOp .Not a pos) (Z2 ta):=by intro au s O H Q I h;erw[UnaryOp_ (aZ (ha au s O H _ I h) λv s1 #[x,H1,I1,r1,q1]=>?_)];let(c,rfl,q1):=q1;cases r1;erw[not_of (pK #[.bl (!c),H1,I1,Z,q1])]
def Za(t:TT)(ta tb:TE):TE:=λO H Q=>t O H λc H1=>if c=true then ta O H1 Q else tb O H1 Q
theorem me{c:Expr}(hc:PT X c tA)(ha:PE X a ta)(hb:PE X b tb):PE X (.IfExp c a b pos) (Za tA ta tb):=by intro au s O H Q I h;erw[wpAny_IfExp (aZ (hc au s O H _ I h) λd s1 #[H1,I1,q1]=>?_)];cases d with |true=>erw[ha au s1 O H1 Q I1 q1] |false=>erw[hb au s1 O H1 Q I1 q1]
end
def aF(K:aa)(H:Hp)(a:Addr)(xs:List V):Prop:=Rd H a (.lst xs)\/ ∃(o:Obj)(its:Array Value)(n:Nat),K.lookup a=some o/\o.cls= .type "list"/\o.dict=none/\o.data= .seq its n/\its.size<=sizeLine/\Vals xs its.toList
def aW(K:aa)(H:Hp)(a:Addr)(xs:List V):Prop:=Rd H a (.tup xs)\/ ∃(o:Obj)(its:Array Value)(n:Nat),K.lookup a=some o/\o.cls= .type "tuple"/\o.data= .seq its n/\its.size<=sizeLine/\Vals xs its.toList
def acM:Value->Option V | .none=>some .bw | .bool b=>some (.bl b) | .int i _=>some (.int i) | .str x _=>some (.str x) | .bytes b _=>some (.kY b) | .float b _=>some (.DT b) | .ref a=>some (.ref a) | .type n=>some (.ty n) |_=>none
theorem RelV.abs{x:V}{u:Value}(r:RelV x u):acM u=some x:=by cases x with |bw=>cases r;rfl |bl _=>cases r;rfl |int _=>let(t,rfl):=r;rfl |str _=>let(t,rfl):=r;rfl |kY _=>let(t,rfl):=r;rfl |DT _=>let(t,rfl):=r;rfl |ref _=>cases r;rfl |ty _=>cases r;rfl
theorem RelV.inj{x y:V}{u:Value}(r:RelV x u)(q:RelV y u):x=y:=eX (r.abs.symm.trans q.abs)
theorem Vals.inj:∀{xs ys:List V}{us:List Value},Vals xs us->Vals ys us->xs=ys |_,_,_,.nil,.nil=>rfl |_,_,_,.cons r t,.cons r' t'=>by rw[r.inj r',Vals.inj t t']
section
variable {X:Cx}{au:List (Addr×Obj)}{O:St}{H:Hp}{s:af}{a:Addr}{xs ys:List V}
theorem aF.of{K:aa}(h:H a=some (.lst xs)):aF K H a xs:=.inl (.inl h)
theorem aW.of{K:aa}(h:H a=some (.tup xs)):aW K H a xs:=.inl (.inl h)
theorem Inv.list(I:Inv X au O H s)(h:aF X.K H a xs):∃its:List Value,Vals xs its/\PlainL s.heap a its.toArray/\xs.length<=sizeLine:=by
 rcases h with h|⟨o,its,n,hk,hc,hd,hs,hz,r⟩
 ·let(z,its,n,r,e):=h.ok I.bX
  erw[its,r,#[_,n,e,Z,Z,Z],z]
 ·erw[its.toList,r,#[o,n,I.iP a o hk,hc,hd,by simpa using hs],?_]
  have e:=r.length;simp only[BC]at e
  lia
theorem Inv.tuple(I:Inv X au O H s)(h:aW X.K H a xs):∃its:List Value,Vals xs its/\IsTup s.heap a its.toArray/\xs.length<=sizeLine:=by
 rcases h with h|⟨o,its,n,hk,hc,hs,hz,r⟩
 ·let(z,its,r,p):=h.ok I.bX
  erw[its,r,p,z]
 ·erw[its.toList,r,#[o,I.iP a o hk,hc,n,by simpa using hs],?_]
  have e:=r.length;simp only[BC]at e
  lia
theorem Inv.Ud(I:Inv X au O H s)(h:aF X.K H a xs)(h':aF X.K H a ys):xs=ys:=by
 let(its,r,(o,n,e,_,_,d),_):=I.list h;let(its',r',(o',n',e',_,_,d'),_):=I.list h';rw[e]at e';cases e';rw[d]at d';injection d' with d1 _;have:its=its':=by simpa using lA Array.toList d1
 subst this;erw[r.inj r']
theorem Inv.Nt(I:Inv X au O H s)(h:aW X.K H a xs)(h':aW X.K H a ys):xs=ys:=by
 let(its,r,(o,e,_,n,d),_):=I.tuple h;let(its',r',(o',e',_,n',d'),_):=I.tuple h';rw[e]at e';cases e';rw[d]at d';injection d' with d1 _;have:its=its':=by simpa using lA Array.toList d1
 subst this;erw[r.inj r']
end
abbrev Cx.oC(X:Cx)(E:Value->af->Prop):Cx:={X with xe:=E}
abbrev Cx.uR(X:Cx):Cx:=X.oC λ_ _=>False
theorem Cx.Ok.oC{X:Cx}(ok:X.Ok)(E:Value->af->Prop):(X.oC E).Ok:=#[ok.mod,ok.kind,ok.glob,ok.blt,ok.above,ok.inj,ok.has,ok.xZ,ok.hd,ok.frames,ok.yQ,ok.LC,ok.bs,ok.pE,ok.xu,ok.tI,ok.lS,ok.tE]
theorem Cx.Ok.rF{X:Cx}{E:Value->af->Prop}(ok:(X.oC E).Ok):X.Ok:=#[ok.mod,ok.kind,ok.glob,ok.blt,ok.above,ok.inj,ok.has,ok.xZ,ok.hd,ok.frames,ok.yQ,ok.LC,ok.bs,ok.pE,ok.xu,ok.tI,ok.lS,ok.tE]
section
variable {X:Cx}{au:List (Addr×Obj)}{O:St}{H:Hp}{s:af}{E:Value->af->Prop}
theorem Inv.oC(I:Inv X au O H s)(E:Value->af->Prop):Inv (X.oC E) au O H s:=#[I.ok.oC E,I.os,I.bare,I.aw,I.loc,I.cell,I.free,I.pk,I.pin,I.bX,I.len]
theorem Inv.rF(I:Inv (X.oC E) au O H s):Inv X au O H s:=#[I.ok.rF,I.os,I.bare,I.aw,I.loc,I.cell,I.free,I.pk,I.pin,I.bX,I.len]
theorem SP.rF{D:Ends}{f:Flow}{s':af}(h:SP (X.oC E) au D f s'):SP X au D f s':=by cases f with |next=>let(σ',H',I,q):=h;erw[σ',H',I.rF,q] |brk=>let(σ',H',I,q):=h;erw[σ',H',I.rF,q] |cont=>let(σ',H',I,q):=h;erw[σ',H',I.rF,q] |ret u=>let(v,σ',H',I,r,q):=h;erw[v,σ',H',I.rF,r,q]
theorem iU.uR{st:List Stmt}{t:TS}(h:iU X.uR st t):iU X st t:=λau s O H D I hw=>gI (h au s O H D (I.oC _) hw) (λ_ _ q=>q.rF) λ_ _ z=>False.elim z
end
section
variable {X:Cx}{st:Stmt}{rest:List Stmt}{t u:TS}{e:Expr}{te:TE}{pos:Pos}
def Z5:TS:=λD O H=>D.nx O H
def NI(t u:TS):TS:=λD O H=>t {D with nx:=u D} O H
theorem bQ:iU X [] Z5:=λ_ _ O H _ I h=>MJ #[O,H,I,h]
theorem aB(h1:PS X st t)(h2:iU X rest u):iU X (st::rest) (NI t u):=by intro au s O H D I h;erw[wpAny_execs_cons (aZ (h1 au s O H {D with nx:=u D} I h) λf s1 q=>?_)];cases f with |next=>let(σ',H',I',q):=q;erw[h2 au s1 σ' H' D I' q] |ret v=>erw[q] |brk=>erw[q] |cont=>erw[q]
theorem aI(h1:PS X st t):iU X [st] t:=by intro au s O H D I h;erw[wpAny_execs_cons (aZ (h1 au s O H D I h) λf s1 q=>?_)];cases f with |next=>erw[MJ q] |ret v=>erw[q] |brk=>erw[q] |cont=>erw[q]
theorem Inv.quiet{au:List (Addr×Obj)}{O:St}{H:Hp}{s:af}(I:Inv X au O H s):interactive X.env=false:=by simp[interactive,I.ok.kind]
def Zc(te:TE):TS:=λD O H=>te O H λ_ H1=>D.nx O H1
theorem gb(he:PE X e te)(hs:autoParam (swapsWith e none pos.line X.env=pure false) r8_._auto_1):PS X (.Expr e pos) (Zc te):=by intro au s O H D I h;erw[wpAny_Expr_any (aZ (he au s O H _ I h) λv s1 #[x,H1,I1,r1,q1]=>#[O,H1,I1,q1]) I.quiet hs]
def YX(te:TE):TS:=λD O H=>te O H D.rt
theorem aQ(he:PE X e te):PS X (.Return (some e) pos) (YX te):=by intro au s O H D I h;erw[wpAny_Return_some (aZ (he au s O H _ I h) λv s1 #[x,H1,I1,r1,q1]=>#[x,O,H1,I1,r1,q1])]
def NM(c:TT)(t u:TS):TS:=λD O H=>c O H λb H1=>if b=true then t D O H1 else u D O H1
theorem bL{c:Expr}{a b:List Stmt}{tc:TT}(hc:PT X c tc)(ha:iU X a t)(hb:iU X b u):PS X (.If c a b pos) (NM tc t u):=by intro au s O H D I h;erw[wpAny_If (aZ (hc au s O H _ I h) λd s1 #[H1,I1,q1]=>?_)];cases d with |true=>erw[ha au s1 O H1 D I1 q1] |false=>erw[hb au s1 O H1 D I1 q1]
def NJ:TS:=λ_ _ _=>False
theorem ku:PS X st NJ:=λ_ _ _ _ _ _ h=>h.elim
theorem uI{Zo:List Stmt}:iU X Zo NJ:=λ_ _ _ _ _ _ h=>h.elim
end
abbrev TG:=V->St->Hp->(St->Hp->Prop)->Prop
abbrev pG:=List V->St->Hp->(St->Hp->Prop)->Prop
def PG(X:Cx)(target:Expr)(t:TG):Prop:=∀(au:List (Addr×Obj))(s:af)(O:St)(H:Hp)(v:V)(u:Value)(Q:St->Hp->Prop),Inv X au O H s->RelV v u->t v O H Q->wpAny (model X.prog X.w) X.A (assign target X.env u) (λ_ s'=>∃σ' H',Inv X au σ' H' s'/\Q σ' H') X.xe s
def B8(X:Cx)(ts:List Expr)(t:pG):Prop:=∀(au:List (Addr×Obj))(s:af)(O:St)(H:Hp)(vs:List V)(us:List Value)(Q:St->Hp->Prop),Inv X au O H s->Vals vs us->t vs O H Q->wpAny (model X.prog X.w) X.A (assignInOrder ((assignEach ts X.env).map (·.2)) us) (λ_ s'=>∃σ' H',Inv X au σ' H' s'/\Q σ' H') X.xe s
abbrev Mt:=V->V->V->Hp->(Hp->Prop)->Prop
def Xg(X:Cx)(t:Mt):Prop:=∀(au:List (Addr×Obj))(s:af)(O:St)(H:Hp)(o i v:V)(ov iv u:Value)(Q:Hp->Prop),Inv X au O H s->RelV o ov->RelV i iv->RelV v u->t o i v H Q->wpAny (model X.prog X.w) X.A (setItem ov iv u) (λ_ s'=>∃H',Inv X au O H' s'/\Q H') X.xe s
abbrev Xa:=V->V->Hp->VK->Prop
def PIp(X:Cx)(op:Operator)(t:Xa):Prop:=∀(au:List (Addr×Obj))(s:af)(O:St)(H:Hp)(x y:V)(v u:Value)(Q:VK),Inv X au O H s->RelV x v->RelV y u->t x y H Q->wpAny (model X.prog X.w) X.A (inplaceOp op v u) (EP X au O Q) X.xe s
section
variable {X:Cx} {pos:Pos}
def gu(i:Nat):TG:=λv O H Q=>Q (O.set i (some v)) H
theorem a1N{i:Nat}{x:Str}(hN:X.N.Nodup)(hi:X.N[i]? =some x)(hx:Loc X.env.scope x)(hf:autoParam (X.fn x=true\/X.env.scope.names.lookup x=some .local) d8_._auto_1):PG X (.Name x pos) (gu i):=by intro au s O H v u Q I r h;erw[wpAny_assign_Name (C4 I hN hi hx r (λs' I'=>#[_,H,I',h]) hf)]
def DR:pG:=λvs O H Q=>vs=[]/\Q O H
inductive afi(t:TG)(u:pG)(vs:List V)(O:St)(H:Hp)(Q:St->Hp->Prop):Prop |mk (v:_)(r:_)(h0:vs=v::r)(h1:t v O H λσ' H'=>u r σ' H' Q)
def vv(t:TG)(u:pG):pG:=λvs O H Q=>afi t u vs O H Q
theorem e9:B8 X [] DR:=by intro au s O H vs us Q I r h;let(e,h):=h;subst e;cases r;erw[assignInOrder_nil #[O,H,I,h]]
theorem bV{e:Expr}{es:List Expr}{t:TG}{u:pG}(h1:PG X e t)(h2:B8 X es u) (hs:autoParam ((assignEach (e::es) X.env).map (·.2)=assign e X.env::(assignEach es X.env).map (·.2)) r8_._auto_1):B8 X (e::es) (vv t u):=by intro au s O H vs us Q I r h;let(v,vr,e1,h):=h;subst e1;cases r with |cons r rr=>rw[hs];erw[EH (aZ (h1 au s O H _ _ _ I r h) λ_ s1 #[σ1,H1,I1,q1]=>?_)];erw[h2 au s1 σ1 H1 _ _ Q I1 rr q1]
inductive afg(K:aa)(n:Nat)(t:pG)(v:V)(O:St)(H:Hp)(Q:St->Hp->Prop):Prop |mk (a:_)(xs:_)(h0:v= .ref a)(h1:aW K H a xs)(h2:xs.length=n)(h3:t xs O H Q)
def Au(K:aa)(n:Nat)(t:pG):TG:=λv O H Q=>afg K n t v O H Q
theorem a1M{es:List Expr}{k:Nat}{t:pG}{n:Nat}(hc:X.calm=true)(h:B8 X es t) (hn:autoParam ((assignEach es X.env).length=n) r8_._auto_1)(nF:autoParam ((assignEach es X.env).findIdx? (·.1)=none) r8_._auto_1):PG X (.Tuple es k pos) (Au X.K n t):=by intro au s O H v u Q I r hw;let(a,xs,e1,hq,hl,hw):=hw;subst e1;cases r;let(its,rv,ht,hz):=I.tuple hq;erw[assign_Tuple_tuple (I.ok.hd hc) ht (by simp[hn,<-hl,rv.length]) nF λh' hx=>?_];have I1:Inv X au O H {s with heap:=h'}:=I.kept (t':=s.toks) λb o e=>hx b o (eY (cH e)) e;erw[h au _ O H xs _ Q I1 (by simpa using rv) hw]
def a9s(to ti:TE)(t:Mt):TG:=λv O H Q=>to O H λo H1=>ti O H1 λi H2=>t o i v H2 λH3=>Q O H3
theorem uK{o i:Expr}{to ti:TE}{t:Mt}(ho:PE X o to)(hi:PE X i ti)(hs:Xg X t) (ha:∀v,assign (.Subscript o i pos) X.env v=(do
 let ov<-holding [v] (eval o X.env)
 let iv<-holding [v,ov] (eval i X.env)
 standAt pos
 holding [v,ov,iv] (setItem ov iv v)
 release [v,ov,iv] []):=by intro _;rfl):PG X (.Subscript o i pos) (a9s to ti t):=by
 intro au s O H v u Q I r h;rw[ha];erw[aM (u6 (aZ (ho au s O H _ I h) λov s1 #[x,H1,I1,r1,q1]=>?_))];erw[aM (u6 (aZ (hi au s1 O H1 _ I1 q1) λiv s2 #[y,H2,I2,r2,q2]=>?_))];erw[aM (tZ (aM (u6 (aZ (hs au s2 O H2 x y v ov iv u _ I2 r1 r2 r q2) λ_ s3 #[H3,I3,q3]=>?_))))];erw[wpAny_release #[O,H3,I3,q3]]
def yP(te:TE)(g:TG):TS:=λD O H=>te O H λx H1=>g x O H1 D.nx
theorem fh{tg e:Expr}{te:TE}{g:TG}(he:PE X e te)(hg:PG X tg g)(hs:autoParam (swapsWithSole [tg] e pos.line X.env=pure false) r8_._auto_1)(hw:autoParam (swappedStores [tg] e X.env=pure none) r8_._auto_1) (h1:autoParam ((assignEach [tg] X.env).map (·.2)=[assign tg X.env]) r8_._auto_1):PS X (.Assign [tg] e pos) (yP te g):=by intro au s O H D I h;erw[wpAny_Assign_stores (aZ (he au s O H _ I h) λv s1 #[x,H1,I1,r1,q1]=>?_) hs hw];rw[h1];erw[aZ (hg au s1 O H1 x v _ I1 r1 q1) λ_ s2 q=>q]
theorem a1v{i:Nat}{x:Str}{e:Expr}{te:TE}{pos':Pos}(hN:X.N.Nodup)(hi:X.N[i]? =some x)(hx:Loc X.env.scope x)(he:PE X e te)(hs:autoParam (swapsWith e (some (.Name x pos')) pos.line X.env=pure false) r8_._auto_1)(hf:autoParam (X.fn x=true\/X.env.scope.names.lookup x=some .local) d8_._auto_1): PS X (.Assign [.Name x pos'] e pos) (yP te (gu i)):=by intro au s O H D I h;erw[wpAny_Assign_Name (aZ (he au s O H _ I h) λv s1 #[y,H1,I1,r1,q1]=>?_) hs];erw[C4 I1 hN hi hx r1 (λs2 I2=>#[_,H1,I2,q1]) hf]
inductive ad8(i:Nat)(j:Nat)(D:Ends)(O:St)(vs:List V)(H1:Hp):Prop |mk (v:_)(w:_)(h0:vs=[v,w])(h1:D.nx ((O.set i (some v)).set j (some w)) H1)
def YZ(i j:Nat)(ta:TA):TS:=λD O H=>ta O H λvs H1=>ad8 i j D O vs H1
theorem zo{i j:Nat}{x y:Str}{a b:Expr}{ta:TA}{px py pt:Pos} {kt k2 Jg}(hc:X.calm=true)(hN:X.N.Nodup)(hi:X.N[i]? =some x)(hj:X.N[j]? =some y)(hij:i≠j) (hx:X.env.scope.names.lookup x=some .local)(hy:X.env.scope.names.lookup y=some .local)(ha:PA X [a,b] ta) (hw:swappedStores [.Tuple [.Name x px,.Name y py] kt pt] (.Tuple [a,b] k2 Jg) X.env=pure (some [x,y])) (hs:autoParam (swapsWithSole [.Tuple [.Name x px,.Name y py] kt pt] (.Tuple [a,b] k2 Jg) pos.line X.env=pure false) r8_._auto_1): PS X (.Assign [.Tuple [.Name x px,.Name y py] kt pt] (.Tuple [a,b] k2 Jg) pos) (YZ i j ta):=by
 intro au s O H D I h;rw[exec_Assign_arm];erw[aM (tZ ?_)];rw[hs];erw[aM (cn ?_)];rw[bj az];erw[aM (Tuple_ (aZ (ha _ au s O H _ I h) λus s1 #[vs,H1,I1,r1,q1]=>?_))];let(v,w,e1,q1):=q1;subst e1;obtain⟨u1,u2,rfl,rv,pX⟩:∃u1 u2,us=[u1,u2]/\RelV v u1/\RelV w u2:=by cases r1 with |cons p q=>cases q with |cons p' q'=>cases q';erw[_,_,Z,p,p']
 erw[pL ?_ (by show 2<=sizeLine;decide)];have I2:Inv X au O H1 {s1 with heap:=s1.heap.push {cls:=.type "tuple",data:=.seq [u1,u2].toArray}}:=I1.kept (t':=s1.toks) λb o e=>cN _ e;rw[hw];erw[aM (cn ?_)];show wpAny (model X.prog X.w) X.A (do rule "assign.swapped-stores";let items<-unpackItems (.ref s1.heap.objs.size) 2 none;assignInOrder [λv=>bindName X.env y v,λv=>bindName X.env x v] items.reverse;pure Flow.next) _ _ _;erw[aM (Bi (aM (unpackItems_tuple (items:=(List.toArray [u1,u2])) (I.ok.hd hc) (IsTup.new s1.heap _) λh' hx'=>?_)))];have I3:=I2.kept (h':=h') (t':=s1.toks) λb o e=>hx' b o (eY (cH e)) e;show wpAny _ _ (assignInOrder [λv=>bindName X.env y v,λv=>bindName X.env x v] [u2,u1]>>=λ_=>pure Flow.next) _ _ _;erw[aM (EH (wpAny_bindName (C4 I3 hN hj (.inl hy) pX (λs2 I4=>?_) (.inr hy))))];erw[EH (wpAny_bindName (C4 I4 hN hi (.inl hx) rv (λs3 I5=>assignInOrder_nil (cn ?_)) (.inr hx)))];rw[List.set_comm _ _ (kI hij)]at I5;erw[_,H1,I5,q1]
inductive af7(f:Int->Int->Int)(x:V)(y:V)(H:Hp)(Q:VK):Prop |mk (i:_)(j:_)(h0:x= .int i)(h1:y= .int j)(h2:Q (.int (f i j)) H)
def ipI(f:Int->Int->Int):Xa:=λx y H Q=>af7 f x y H Q
theorem a6i:PIp X .Add (ipI λi j=>i+j):=by intro au s O H x y v u Q I r1 r2 h;let(i,j,e1,e2,q):=h;subst e1;subst e2;let(t,rfl):=r1;let(t',rfl):=r2;erw[iadd_int #[.int _,H,I.tok _,#[_,Z],q]]
def NG(c:TT)(tb:TS):TS:=λD O H=>∃W:Nat->St->Hp->Prop,(∃m,W m O H)/\∀m O H,W m O H->c O H λb H1=>if b=true then∃N:St->Hp->Prop,(∀σ' H',N σ' H'->∃m',m'<m/\W m' σ' H')/\tb {D with nx:=N,ct:=N,bk:=D.nx} O H1 else D.nx O H1
theorem xg{c:Expr}{body:List Stmt}{tc:TT}{tb:TS}(hp:PassesOwn (model X.prog X.w) X.A X.env X.xe)(hc:PT X c tc)(hb:iU X body tb):PS X (.While c body [] pos) (NG tc tb):=by intro au s O H D I h;let(W,(m0,w0),turn):=h;erw[wpAny_While (codeAny_whileLoop (λn s'=>∃σ' H',Inv X au σ' H' s'/\W n σ' H') ?_ m0 #[O,H,I,w0])];rintro n s1 ⟨σ1,H1,I1,w1⟩;erw[yj hp (aZ (hc au s1 σ1 H1 _ I1 (turn n σ1 H1 w1)) λb s2 #[H2,I2,q2]=>?_)];cases b with
 |true=>let(N,hN,q2):=q2;rw[bc rfl];erw[yj hp (aZ (hb au s2 σ1 H2 _ I2 q2) λf s3 q3=>?_)];cases f with |next=>let(σ3,H3,I3,n3):=q3;let(m',hm,w3):=hN σ3 H3 n3;erw[m',hm,σ3,H3,I3,w3] |cont=>let(σ3,H3,I3,n3):=q3;let(m',hm,w3):=hN σ3 H3 n3;erw[m',hm,σ3,H3,I3,w3] |brk=>erw[q3] |ret v=>erw[q3]
 |false=>rw[bj eH];erw[MJ #[σ1,H2,I2,q2]]
end
structure It where
 go:Nat->Hp->Prop
 jG:Nat->Hp->V->Hp->Prop
 stop:Nat->Hp->Prop
def kd(X:Cx)(au:List (Addr×Obj))(H:Hp)(b:Addr):Prop:=H b=none/\b≠X.env.locals/\b∉X.fs/\(b∈X.ex\/X.s₀.heap.objs.size<=b)/\(∀x c,X.env.cells.lookup x=some c->c≠b)/\∀p∈X.pn++au,p.1≠b
theorem Inv.tF{X:Cx}{au:List (Addr×Obj)}{O:St}{H H':Hp}{s:af}{b:Addr}(I:Inv X au O H s)(hb:s.heap.objs.size<=b)(hn:H' b=none):kd X au H' b:=by
 erw[hn,EM (gR I.lt hb),I.a4z hb,.inr (iK I.sz hb),λx c e z=>?_,λp hp z=>?_]
 ·let(v,q):=I.cell x c e
  erw[absurd (gR q.lt (by rw[z];erw[hb])) (yu _)]
 ·erw[absurd (gR (cH (I.pin p hp).1) (by rw[z];erw[hb])) (yu _)]
structure Turn(P:ag)(w:World)(K:aa)(tg:Expr)(J:It)(fp:List Addr)(it:Addr)(tn:Nat->Heap->Prop):Prop where
 mem:it∈fp
 obj:∀i h,tn i h->∀b∈fp,∃o,h.get? b=some o/\∀v,o.data≠ .cell v
 keep:∀i h h',tn i h->(∀b∈fp,∀o,h.get? b=some o->h'.get? b=some o)->tn i h'
 item:∀(X:Cx),X.prog=P->X.w=w->X.K=K->X.calm=true->∀(i:Nat)(au:List (Addr×Obj))(s:af)(O:St)(H:Hp)(E:Value->af->Prop),Inv X au O H s->(∀b∈fp,kd X au H b)->tn i s.heap->J.go i H->wpAny (model P w) X.A (pyNext (.ref it)) (λr s1=>∃u,r=some u/\wpAny (model P w) X.A (letOwnedTupleGo tg (.ref it) u) (λ_ s2=>∃x H',Inv X au O H' s2/\RelV x u/\J.jG i H x H'/\tn (i+1) s2.heap/\∀b∈fp,H' b=none) E s1) E s
 done:∀(X:Cx),X.prog=P->X.w=w->X.K=K->X.calm=true->∀(i:Nat)(au:List (Addr×Obj))(s:af)(O:St)(H:Hp)(E:Value->af->Prop),Inv X au O H s->(∀b∈fp,kd X au H b)->tn i s.heap->J.stop i H->wpAny (model P w) X.A (pyNext (.ref it)) (λr s1=>r=none/\Inv X au O H s1) E s
 self:∀(A:ai)(i:Nat)(s:af)(Q:Value->af->Prop)(E:Value->af->Prop),tn i s.heap->Q (.ref it) s->wpAny (model P w) A (pyIter (.ref it)) Q E s
abbrev TI:=St->Hp->(It->Hp->Prop)->Prop
def My(X:Cx)(au:List (Addr×Obj))(O:St)(tg:Expr)(R:It->Hp->Prop)(A1:Value)(s2:af):Prop:=∃(it:Addr)(fp:List Addr)(tn:Nat->Heap->Prop)(J:It)(H':Hp),A1= .ref it/\Inv X au O H' s2/\Turn X.prog X.w X.K tg J fp it tn/\tn 0 s2.heap/\(∀b∈fp,kd X au H' b)/\R J H'
def PI(X:Cx)(tg iter:Expr)(wi:TI):Prop:=∀(au:List (Addr×Obj))(s:af)(O:St)(H:Hp)(R:It->Hp->Prop),Inv X au O H s->wi O H R->wpAny (model X.prog X.w) X.A (eval iter X.env) (λv s1=>wpAny (model X.prog X.w) X.A (pyIter v) (My X au O tg R) X.xe s1) X.xe s
theorem As{M:Model}{A:ai}{E:Value->af->Prop}{s:af}{tg:Expr}{it:Addr}{u:Value}{o:Obj}{n:String}{vs:Array Value}{Q:Unit->af->Prop}(ho:s.heap.get? it=some o)(hc:o.cls= .type n)(hd:o.data= .fields vs) (hn:["enumerate","zip","dict_itemiterator","dict_reverseitemiterator","odict_iterator","itertools.zip_longest","itertools.pairwise"].contains n=false)(hQ:Q () s):wpAny M A (letOwnedTupleGo tg (.ref it) u) Q E s:=by unfold letOwnedTupleGo;cases tg<;>first |erw[cn hQ] |(cases u<;>first
        |erw[cn hQ]
        | (erw[aM (wpAny_load ho ?_)]
           rw[hc,hd];show wpAny M A (if(["enumerate","zip","dict_itemiterator","dict_reverseitemiterator","odict_iterator","itertools.zip_longest","itertools.pairwise"].contains n&&vs[0]? ==some (rawInt _))=true then _ else _) Q E s;rw[bj (by intro h;rw[hn,jF]at h;cases h)];erw[cn hQ]))
def tY(K:aa)(a:Addr):It:=#[λi H=>∃xs x,aF K H a xs/\xs[i]? =some x,λi H x H'=>H'=H/\∀xs,aF K H a xs->xs[i]? =some x,λi H=>∃xs,aF K H a xs/\xs.length<=i]
def tX(K:aa)(a:Addr):It:=#[λi H=>∃xs x,aW K H a xs/\xs[i]? =some x,λi H x H'=>H'=H/\∀xs,aW K H a xs->xs[i]? =some x,λi H=>∃xs,aW K H a xs/\xs.length<=i]
def qY(lo:Int)(n:Nat):It:=#[λi _=>i<n,λi H x H'=>H'=H/\x= .int (lo+i),λi _=>n<=i]
theorem Yy{P:ag}{w:World}{K:aa}{tg:Expr}(a it:Addr):Turn P w K tg (tY K a) [it] it (λi h=>h.IsListIter it a i) where
 mem:=by simp
 obj:=λi h st b hb=>by
  have e:b=it:=by simpa using hb
  subst e;let(o,e,c,d):=st;erw[o,e,λv z=>by rw[d]at z;cases z]
 keep:=λi h h' st k=>st.at λo e=>k it (by simp) o e
 item:=by intro X hP hw hK hc i au s O H E I hf st hg;subst hP hw hK;let(xs,x,hq,hx):=hg;let(its,rv,p,hz):=I.list hq;let(u,hu,ru):=rv.get hx;let(f0,f1,f2,f3,f4,f5):=hf it (by simp);erw[wpAny_pyNext_list_item st p.isList (x:=u) (by simpa using hu) λh' iY sb=>?_];have I1:Inv X au O H {s with heap:=h'}:=I.turned (t':=s.toks) (λb o hb e=>(sb.2 b hb).trans e) f0 f1 f3 f4 f5;let(o,e,c,d):=id iY;erw[u,Z,As (s:={s with heap:=h'}) e c d az #[x,H,I1,ru,#[Z,λys hy=>by rw[I.Ud hy hq];erw[hx]],iY,λb hb=>(hf b hb).1]]
 done:=by intro X hP hw hK hc i au s O H E I hf st hg;subst hP hw hK;let(xs,hq,hx):=hg;let(its,rv,p,hz):=I.list hq;let(f0,f1,f2,f3,f4,f5):=hf it (by simp);have hl:=rv.length;erw[wpAny_pyNext_list_end (I.ok.hd hc) st p.isList (by simp;lia) λh' eb=>#[Z,I.turned (t':=s.toks) (λb o hb e=>eb b o hb e) f0 f1 f3 f4 f5]]
 self:=λ_ _ _ _ _ st h=>wpAny_pyIter_listiter st h
theorem Yu{P:ag}{w:World}{K:aa}{tg:Expr}(a it:Addr):Turn P w K tg (tX K a) [it] it (λi h=>h.IsTupleIter it a i) where
 mem:=by simp
 obj:=λi h st b hb=>by
  have e:b=it:=by simpa using hb
  subst e;let(o,e,c,d):=st;erw[o,e,λv z=>by rw[d]at z;cases z]
 keep:=λi h h' st k=>st.at λo e=>k it (by simp) o e
 item:=by intro X hP hw hK hc i au s O H E I hf st hg;subst hP hw hK;let(xs,x,hq,hx):=hg;let(its,rv,p,hz):=I.tuple hq;let(u,hu,ru):=rv.get hx;let(f0,f1,f2,f3,f4,f5):=hf it (by simp);erw[wpAny_pyNext_tuple_item st (show s.heap.IsTuple a its.toArray from p) (x:=u) (by simpa using hu) λh' iY sb=>?_];have I1:Inv X au O H {s with heap:=h'}:=I.turned (t':=s.toks) (λb o hb e=>(sb.2 b hb).trans e) f0 f1 f3 f4 f5;let(o,e,c,d):=id iY;erw[u,Z,As (s:={s with heap:=h'}) e c d az #[x,H,I1,ru,#[Z,λys hy=>by rw[I.Nt hy hq];erw[hx]],iY,λb hb=>(hf b hb).1]]
 done:=by intro X hP hw hK hc i au s O H E I hf st hg;subst hP hw hK;let(xs,hq,hx):=hg;let(its,rv,p,hz):=I.tuple hq;let(f0,f1,f2,f3,f4,f5):=hf it (by simp);have hl:=rv.length;erw[wpAny_pyNext_tuple_end (I.ok.hd hc) st (show s.heap.IsTuple a its.toArray from p) (by simp;lia) λh' eb=>#[Z,I.turned (t':=s.toks) (λb o hb e=>eb b o hb e) f0 f1 f3 f4 f5]]
 self:=λ_ _ _ _ _ st h=>wpAny_pyIter_tupleiter st h
theorem Yx{P:ag}{w:World}{K:aa}{tg:Expr}(it:Addr)(lo:Int)(n:Nat):Turn P w K tg (qY lo n) [it] it (λi h=>IsRangeIter h it (lo+(i:Nat)*1) ((n:Int)-(i:Nat)) 1) where
 mem:=by simp
 obj:=λi h st b hb=>by
  have e:b=it:=by simpa using hb
  subst e;erw[_,st,λv z=>by have z':Data.fields _=Data.cell v:=z;cases z']
 keep:=λi h h' st k=>k it (by simp) _ st
 item:=by intro X hP hw hK hc i au s O H E I hf st hg;subst hP hw hK;let(f0,f1,f2,f3,f4,f5):=hf it (by simp);have W:=Walks.range (prog:=X.prog) (w:=X.w) (I.ok.hd hc) it lo 1 n;erw[W.item i s _ _ hg st λv h' tk hv iY kk=>?_];let(t,rfl):=hv;have I1:Inv X au O H {s with heap:=h',toks:=tk}:=I.turned (λb o hb e=>kk b o (by simpa using hb) e) f0 f1 f3 f4 f5;erw[_,Z,As (s:={s with heap:=h',toks:=tk}) (n:="range_iterator") iY rfl rfl az #[.int (lo+i),H,I1,#[t,?_],#[Z,Z],iY,λb hb=>(hf b hb).1]];rw[yC]
 done:=by intro X hP hw hK hc i au s O H E I hf st hg;subst hP hw hK;let(f0,f1,f2,f3,f4,f5):=hf it (by simp);erw[wpAny_pyNext_range_end (I.ok.hd hc) st (by have:n<=i:=hg;lia) λh' eb=>#[Z,I.turned (t':=s.toks) (λb o hb e=>eb b o hb e) f0 f1 f3 f4 f5]]
 self:=λ_ _ _ _ _ st h=>Xn st h
section
variable {X:Cx} {tg:Expr}
inductive afe(K:aa)(R:It->Hp->Prop)(x:V)(H1:Hp):Prop |mk (a:_)(h0:x= .ref a)(h1:(∃xs,aF K H1 a xs))(h2:R (tY K a) H1)
def UG(K:aa)(tl:TE):TI:=λO H R=>tl O H λx H1=>afe K R x H1
inductive af9(K:aa)(R:It->Hp->Prop)(x:V)(H1:Hp):Prop |mk (a:_)(h0:x= .ref a)(h1:(∃xs,aW K H1 a xs))(h2:R (tX K a) H1)
def UE(K:aa)(tl:TE):TI:=λO H R=>tl O H λx H1=>af9 K R x H1
theorem a1L{l:Expr}{tl:TE}(hl:PE X l tl):PI X tg l (UG X.K tl):=by
 intro au s O H R I h;erw[aZ (hl au s O H _ I h) λv s1 #[x,H1,I1,r1,q1]=>?_];let(a,e,(xs,hq),q):=q1;subst e;cases r1;let(its,rv,p,hz):=I1.list hq;erw[Bj p.isList ?_];erw[s1.heap.objs.size,[s1.heap.objs.size],_,_,H1,Z,I1.kept (t':=s1.toks) λb o e=>cN _ e,Yy a _,#[_,eZ _ Z,Z,Z],λb hb=>?_,q];have e:b=s1.heap.objs.size:=by simpa using hb
 subst e;erw[I1.tF (bf _) (I1.bX.fresh (bf _))]
theorem a1K{l:Expr}{tl:TE}(hl:PE X l tl):PI X tg l (UE X.K tl):=by
 intro au s O H R I h;erw[aZ (hl au s O H _ I h) λv s1 #[x,H1,I1,r1,q1]=>?_];let(a,e,(xs,hq),q):=q1;subst e;cases r1;let(its,rv,p,hz):=I1.tuple hq;erw[wpAny_pyIter_tuple (show s1.heap.IsTuple a its.toArray from p) ?_];erw[s1.heap.objs.size,[s1.heap.objs.size],_,_,H1,Z,I1.kept (t':=s1.toks) λb o e=>cN _ e,Yu a _,#[_,eZ _ Z,Z,Z],λb hb=>?_,q];have e:b=s1.heap.objs.size:=by simpa using hb
 subst e;erw[I1.tF (bf _) (I1.bX.fresh (bf _))]
theorem S5{au:List (Addr×Obj)}{O:St}{H:Hp}{s:af}{R:It->Hp->Prop}{E:Value->af->Prop}{lo hi:Int}{t u v:Tok}{tk:Nat}(I:Inv X au O H s)(h1:-(2^62)<=lo)(h2:lo<2^62)(h3:-(2^62)<=hi)(h4:hi<2^62) (q:R (qY lo (hi-lo).toNat) H):wpAny (model X.prog X.w) X.A (pyIter (.ref s.heap.objs.size)) (My X au O tg R) E {s with heap:=s.heap.push {cls:=.type "range",data:=.fields (List.toArray [.int lo t,.int hi u,.int 1 v])},toks:=tk}:=by
 erw[wpAny_pyIter_range (IsRange.new ..) (small_one h1 h2 h3 h4) ?_];have I1:Inv X au O H {s with heap:=s.heap.push {cls:=.type "range",data:=.fields (List.toArray [.int lo t,.int hi u,.int 1 v])},toks:=tk}:=I.kept λb o e=>cN _ e;erw[(s.heap.push {cls:=.type "range",data:=.fields (List.toArray [.int lo t,.int hi u,.int 1 v])}).objs.size,[(s.heap.push {cls:=.type "range",data:=.fields (List.toArray [.int lo t,.int hi u,.int 1 v])}).objs.size],_,_,H,Z,I1.kept (t':=tk) λb o e=>cN _ e,Yx _ lo (hi-lo).toNat,?_,λb hb=>?_,q]
 ·have e1:lo+((0:Nat):Int)*1=lo:=by simp
  have e2:(((hi-lo).toNat:Nat):Int)-((0:Nat):Int)=Builtin.Range.rangeSize lo hi 1:=by rw[rangeSize_one];split<;>lia
  show IsRangeIter _ _ (lo+((0:Nat):Int)*1) ((((hi-lo).toNat:Nat):Int)-((0:Nat):Int)) 1;rw[e1,e2];erw[eZ _ rfl]
 ·have e:b=(s.heap.push {cls:=.type "range",data:=.fields (List.toArray [.int lo t,.int hi u,.int 1 v])}).objs.size:=by simpa using hb
  subst e;erw[I1.tF (bf _) (I1.bX.fresh (bf _))]
inductive afc(R:It->Hp->Prop)(vs:List V)(H1:Hp):Prop |mk (j:Int)(h0:vs=[.int j])(h1:-(2^62)<=j)(h2:j<2^62)(h3:R (qY 0 j.toNat) H1)
def a6D(ta:TA):TI:=λO H R=>ta O H λvs H1=>afc R vs H1
inductive afb(R:It->Hp->Prop)(vs:List V)(H1:Hp):Prop |mk (i:Int)(j:Int)(h0:vs=[.int i,.int j])(h1:(-(2^62)<=i/\i<2^62/\-(2^62)<=j/\j<2^62))(h2:R (qY i (j-i).toNat) H1)
def a6C(ta:TA):TI:=λO H R=>ta O H λvs H1=>afb R vs H1
theorem sj{a:Expr}{ta:TA}{p pos:Pos}(hg:Gl X "range")(hm:X.mg "range"=none)(ha:PA X [a] ta)(hs:autoParam (starEach [a] X.env=[(false,eval a X.env)]) r8_._auto_1):PI X tg (.Call (.Name "range" p) [a] [] pos) (a6D ta):=by intro au s O H R I h;erw[Call_ (sF I hg hm boot_range (Bp (aZ (ha pos au s O H _ I h) λus s1 #[vs,H1,I1,r1,q1]=>?_) hs Z))];let(j,e,q1,q2,q):=q1;subst e;cases r1 with |cons r rr=>cases rr;let(t,rfl):=r;erw[call_range_1 (S5 I1 ao ao q1 q2 (by simpa using q))]
theorem Sn{a b:Expr}{ta:TA}{p pos:Pos}(hg:Gl X "range")(hm:X.mg "range"=none)(ha:PA X [a,b] ta)(hs:autoParam (starEach [a,b] X.env=[(false,eval a X.env),(false,eval b X.env)]) r8_._auto_1)(jd:autoParam (starEach [b] X.env=[(false,eval b X.env)]) r8_._auto_1): PI X tg (.Call (.Name "range" p) [a,b] [] pos) (a6C ta):=by intro au s O H R I h;erw[Call_ (sF I hg hm boot_range (Bp (aZ (ha pos au s O H _ I h) λus s1 #[vs,H1,I1,r1,q1]=>?_) (by rw[hs,jd]) (by rw[jd];rfl)))];let(i,j,e,(q1,q2,q3,q4),q):=q1;subst e;cases r1 with |cons r rr=>cases rr with |cons r' rr=>cases rr;let(t,rfl):=r;let(t',rfl):=r';erw[call_range_2 (S5 I1 q1 q2 q3 q4 q)]
def Zb(wi:TI)(g:TG)(tb:TS):TS:=λD O H=>wi O H λJ H1=>∃W:Nat->Nat->St->Hp->Prop,(∃m,W 0 m O H1)/\∀i m O H,W i m O H->(J.stop i H/\D.nx O H)\/(J.go i H/\∃N:St->Hp->Prop,(∀σ' H',N σ' H'->∃m',m'<m/\W (i+1) m' σ' H')/\∀x H',J.jG i H x H'->g x O H' λσ2 H2=>tb {D with nx:=N,ct:=N,bk:=D.nx} σ2 H2)
def qe(fp:List Addr)(h:Heap):List (Addr×Obj):=fp.filterMap λb=>(h.get? b).map λo=>(b,o)
theorem oQ{fp:List Addr}{h:Heap}{b:Addr}{o:Obj}(hb:b∈fp)(e:h.get? b=some o):(b,o)∈qe fp h:=Bt.mpr #[b,hb,by rw[e];rfl]
theorem a4h{fp:List Addr}{h:Heap}{p:Addr×Obj}(hp:p∈qe fp h):p.1∈fp/\h.get? p.1=some p.2:=by let(b,hb,e):=Bt.mp hp;cases q:h.get? b with |none=>rw[q]at e;cases e |some o=>rw[q]at e;have e':(b,o)=p:=eX e;subst e';erw[hb,q]
theorem Inv.pinned{au:List (Addr×Obj)}{O:St}{H:Hp}{s:af}{fp:List Addr}(I:Inv X au O H s)(hf:∀b∈fp,kd X au H b)(ho:∀b∈fp,∃o,s.heap.get? b=some o/\∀v,o.data≠ .cell v):Inv X (au++qe fp s.heap) O H s:=I.Sj λp hp=>(iy.mp hp).elim (λz=>I.pin p (gT _ z)) λz=>by let(hb,e):=a4h z;let(f0,f1,f2,_):=hf p.1 hb;let(o,e',d):=ho p.1 hb;rw[e]at e';cases e';erw[e,f0,f1,f2,d]
theorem Inv.ui{au pl:List (Addr×Obj)}{O:St}{H:Hp}{s:af}(I:Inv X (au++pl) O H s):Inv X au O H s:=I.Sj λp hp=>I.pin p (gT _ (XH _ hp))
theorem iB{iter:Expr}{body:List Stmt}{wi:TI}{g:TG}{tb:TS}{pos:Pos}(hp:PassesOwn (model X.prog X.w) X.A X.env X.xe)(hc:X.calm=true)(hi:PI X tg iter wi)(hg:PG X tg g)(hb:iU X body tb) (hs:autoParam (∀x,foldedSetIterable iter X.env x=pure x) d8_._auto_1):PS X (.For tg iter body [] pos) (Zb wi g tb):=by
 intro au s O H D I h;erw[wpAny_For (aZ (hi au s O H _ I h) λv s1 h1=>aZ h1 λA1 s2 h2=>?_) hs];let(it,fp,tn,J,H2,e,I2,T,oF,f2,W,(m0,w0),turn):=h2;subst e;have ko:∀{H':Hp},(∀b∈fp,H' b=none)->∀b∈fp,kd X au H' b:=λhn b hb=>#[hn b hb,(f2 b hb).2];erw[codeAny_forLoop_any (λn s'=>∃i σ' H',Inv X au σ' H' s'/\tn i s'.heap/\(∀b∈fp,H' b=none)/\W i n σ' H') ?_ m0 #[0,O,H2,I2,oF,λb hb=>(f2 b hb).1,w0]];rintro n s3 ⟨i,σ3,H3,I3,O1,Vs,w3⟩;rcases turn i n σ3 H3 w3 with⟨stop,qn⟩|⟨go,N,hN,step⟩
 ·erw[yj hp (aZ (T.done X Z Z Z hc i au s3 σ3 H3 X.xe I3 (ko Vs) O1 stop) λr s4 #[hr,I4]=>?_)]
  subst hr;erw[MJ #[σ3,H3,I4,qn]]
 ·erw[yj hp (aZ (T.item X Z Z Z hc i au s3 σ3 H3 X.xe I3 (ko Vs) O1 go) λr s4 #[u,hr,h4]=>?_)]
  subst hr;erw[yj hp (aZ h4 λ_ s5 #[x,H5,I5,r5,y5,m9,pA]=>?_)];have I5':=I5.pinned (ko pA) (T.obj _ _ m9);erw[yj hp (aZ (hg _ s5 σ3 H5 x u _ I5' r5 (step x H5 y5)) λ_ s6 #[σ6,H6,I6,q6]=>?_)];erw[yj hp (aZ (hb _ s6 σ6 H6 _ I6 q6) λf s7 q7=>?_)];have again:∀{σ7:St}{H7:Hp},Inv X (au++qe fp s5.heap) σ7 H7 s7->N σ7 H7->∃m,m<n/\∃i σ' H',Inv X au σ' H' s7/\tn i s7.heap/\(∀b∈fp,H' b=none)/\W i m σ' H':=λ{σ7 H7} I7 n7=>by let(m',hm,w7):=hN σ7 H7 n7;erw[m',hm,i+1,σ7,H7,I7.ui,T.keep _ _ _ m9 λb hb o e=>(I7.pin (b,o) (gT _ (gT _ (oQ hb e)))).1,λb hb=>?_,w7];let(o,e,d):=T.obj _ _ m9 b hb;exact(I7.pin (b,o) (gT _ (gT _ (oQ hb e)))).2.1
  cases f with |next=>let(σ7,H7,I7,n7):=q7;erw[again I7 n7] |cont=>let(σ7,H7,I7,n7):=q7;erw[again I7 n7] |brk=>let(σ7,H7,I7,q7):=q7;erw[σ7,H7,I7.ui,q7] |ret v=>let(x7,σ7,H7,I7,r7,q7):=q7;erw[x7,σ7,H7,I7.ui,r7,q7]
end
theorem Vw{K:aa}{a:Addr}{xs:List V}{g:TG}{tb:TS}{D:Ends}{O:St}{H:Hp}(Pv:Nat->St->Hp->Prop)(h0:Pv 0 O H)(hl:∀i O H,i<=xs.length->Pv i O H->aF K H a xs) (hs:∀i x O H,xs[i]? =some x->Pv i O H->g x O H λσ2 H2=>tb {D with nx:=Pv (i+1),ct:=Pv (i+1),bk:=D.nx} σ2 H2)(hd:∀O H,Pv xs.length O H->D.nx O H): ∃W:Nat->Nat->St->Hp->Prop,(∃m,W 0 m O H)/\∀i m O H,W i m O H->((tY K a).stop i H/\D.nx O H)\/((tY K a).go i H/\∃N:St->Hp->Prop,(∀σ' H',N σ' H'->∃m',m'<m/\W (i+1) m' σ' H')/\∀x H',(tY K a).jG i H x H'->g x O H' λσ2 H2=>tb {D with nx:=N,ct:=N,bk:=D.nx} σ2 H2):=by
 erw[λi m O H=>m=xs.length-i/\i<=xs.length/\Pv i O H,#[xs.length,by simp,fE _,h0],?_];rintro i m O H ⟨rfl,hi,p⟩;have q:=hl i O H hi p;by_cases cB:i<xs.length
 ·erw[.inr #[#[xs,xs[i],q,by simp[cB]],Pv (i+1),λσ' H' p'=>#[xs.length-(i+1),ao,Z,cB,p'],λx H' y=>?_]]
  let(e,y):=y;subst e;erw[hs i x O _ (y xs q) p]
 ·have e:i=xs.length:=by lia
  subst e;erw[.inl #[#[xs,q,bf _],hd O H p]]
theorem Lj{K:aa}{a:Addr}{xs:List V}{g:TG}{tb:TS}{D:Ends}{O:St}{H:Hp}(Pv:Nat->St->Hp->Prop)(h0:Pv 0 O H)(hl:∀i O H,i<=xs.length->Pv i O H->aW K H a xs) (hs:∀i x O H,xs[i]? =some x->Pv i O H->g x O H λσ2 H2=>tb {D with nx:=Pv (i+1),ct:=Pv (i+1),bk:=D.nx} σ2 H2)(hd:∀O H,Pv xs.length O H->D.nx O H): ∃W:Nat->Nat->St->Hp->Prop,(∃m,W 0 m O H)/\∀i m O H,W i m O H->((tX K a).stop i H/\D.nx O H)\/((tX K a).go i H/\∃N:St->Hp->Prop,(∀σ' H',N σ' H'->∃m',m'<m/\W (i+1) m' σ' H')/\∀x H',(tX K a).jG i H x H'->g x O H' λσ2 H2=>tb {D with nx:=N,ct:=N,bk:=D.nx} σ2 H2):=by
 erw[λi m O H=>m=xs.length-i/\i<=xs.length/\Pv i O H,#[xs.length,by simp,fE _,h0],?_];rintro i m O H ⟨rfl,hi,p⟩;have q:=hl i O H hi p;by_cases cB:i<xs.length
 ·erw[.inr #[#[xs,xs[i],q,by simp[cB]],Pv (i+1),λσ' H' p'=>#[xs.length-(i+1),aO,Z,cB,p'],λx H' y=>?_]]
  let(e,y):=y;subst e;erw[hs i x O _ (y xs q) p]
 ·have e:i=xs.length:=by omega
  subst e;erw[.inl #[#[xs,q,bf _],hd O H p]]
theorem xM{lo:Int}{n:Nat}{g:TG}{tb:TS}{D:Ends}{O:St}{H:Hp}(Pv:Nat->St->Hp->Prop)(h0:Pv 0 O H) (hs:∀i O H,i<n->Pv i O H->g (.int (lo+i)) O H λσ2 H2=>tb {D with nx:=Pv (i+1),ct:=Pv (i+1),bk:=D.nx} σ2 H2)(hd:∀O H,Pv n O H->D.nx O H): ∃W:Nat->Nat->St->Hp->Prop,(∃m,W 0 m O H)/\∀i m O H,W i m O H->((qY lo n).stop i H/\D.nx O H)\/((qY lo n).go i H/\∃N:St->Hp->Prop,(∀σ' H',N σ' H'->∃m',m'<m/\W (i+1) m' σ' H')/\∀x H',(qY lo n).jG i H x H'->g x O H' λσ2 H2=>tb {D with nx:=N,ct:=N,bk:=D.nx} σ2 H2):=by
 erw[λi m O H=>m=n-i/\i<=n/\Pv i O H,#[n,by simp,fE _,h0],?_];rintro i m O H ⟨rfl,hi,p⟩;by_cases cB:i<n
 ·erw[.inr #[cB,Pv (i+1),λσ' H' p'=>#[n-(i+1),ao,Z,cB,p'],λx H' y=>?_]]
  let(e,y):=y;subst e y;erw[hs i O _ cB p]
 ·have e:i=n:=by lia
  subst e;erw[.inl #[bf _,hd O H p]]
theorem wC{c:TT}{tb:TS}{D:Ends}{O:St}{H:Hp}(Pv:St->Hp->Prop)(μ:St->Hp->Nat)(h0:Pv O H) (hs:∀O H,Pv O H->c O H λb H1=>if b=true then tb {D with nx:=λσ' H'=>Pv σ' H'/\μ σ' H'<μ O H,ct:=λσ' H'=>Pv σ' H'/\μ σ' H'<μ O H,bk:=D.nx} O H1 else D.nx O H1) (mono:∀O H Q Q',(∀b H1,Q b H1->Q' b H1)->c O H Q->c O H Q'):NG c tb D O H:=by erw[λm O H=>m=μ O H/\Pv O H,#[_,Z,h0],?_];rintro m O H ⟨rfl,p⟩;erw[mono O H _ _ (λb H1 q=>?_) (hs O H p)];cases b with |true=>erw[_,λσ' H' #[p',l]=>#[_,l,Z,p'],q] |false=>erw[q]
abbrev R2:=V->V->Hp->VK->Prop
def cY(X:Cx)(f:Value->Value->Sem Value)(r:R2):Prop:=∀(au:List (Addr×Obj))(s:af)(O:St)(H:Hp)(x y:V)(v u:Value)(Q:VK),Inv X au O H s->RelV x v->RelV y u->r x y H Q->wpAny (model X.prog X.w) X.A (f v u) (EP X au O Q) X.xe s
def Mr(X:Cx)(f:Value->Sem Value)(r:V->Hp->VK->Prop):Prop:=∀(au:List (Addr×Obj))(s:af)(O:St)(H:Hp)(x:V)(v:Value)(Q:VK),Inv X au O H s->RelV x v->r x H Q->wpAny (model X.prog X.w) X.A (f v) (EP X au O Q) X.xe s
def fD(X:Cx)(f:Value)(r:List V->Hp->VK->Prop):Prop:=∀(au:List (Addr×Obj))(s:af)(O:St)(H:Hp)(xs:List V)(us:List Value)(Q:VK),Inv X au O H s->Vals xs us->r xs H Q->wpAny (model X.prog X.w) X.A (call f us) (EP X au O Q) X.xe s
def acV(X:Cx)(r:V->Hp->(Bool->Hp->Prop)->Prop):Prop:=∀(au:List (Addr×Obj))(s:af)(O:St)(H:Hp)(x:V)(v:Value)(Q:Bool->Hp->Prop),Inv X au O H s->RelV x v->r x H Q->wpAny (model X.prog X.w) X.A (truthy v) (TP X au O Q) X.xe s
def yN(r:R2)(ta tb:TE):TE:=λO H Q=>ta O H λx H1=>tb O H1 λy H2=>r x y H2 Q
def YU(r:V->Hp->VK->Prop)(ta:TE):TE:=λO H Q=>ta O H λx H1=>r x H1 Q
inductive IrI(C:Int->Int->Prop)(g:Int->Int->V)(x:V)(y:V)(H:Hp)(Q:VK):Prop |mk (i:_)(j:_)(h0:x= .int i)(h1:y= .int j)(h2:C i j)(h3:Q (g i j) H)
def rI(C:Int->Int->Prop)(g:Int->Int->V):R2:=λx y H Q=>IrI C g x y H Q
inductive aeY(g:Int->Int->V)(x:V)(y:V)(H:Hp)(Q:VK):Prop |mk (i:_)(j:_)(h0:x= .int i)(h1:y= .int j)(h2:Q (g i j) H)
def kO(g:Int->Int->V):R2:=λx y H Q=>aeY g x y H Q
inductive IrU(g:Int->V)(x:V)(H:Hp)(Q:VK):Prop |mk (i:_)(h0:x= .int i)(h1:Q (g i) H)
def rU(g:Int->V):V->Hp->VK->Prop:=λx H Q=>IrU g x H Q
section
variable {X:Cx}{a b c:Expr}{ta tb tc:TE}{pos:Pos}
theorem Md(ha:PE X a ta)(hb:PE X b tb){au:List (Addr×Obj)}{s:af}{O:St}{H:Hp}{R:V->V->Hp->Prop}(I:Inv X au O H s) (h:ta O H λx H1=>tb O H1 λy H2=>R x y H2){Q:Value->af->Prop}{f:Value->Value->Sem Value} (hf:∀v u s2 x y H2,Inv X au O H2 s2->RelV x v->RelV y u->R x y H2->wpAny (model X.prog X.w) X.A (f v u) Q X.xe s2): wpAny (model X.prog X.w) X.A (eval a X.env) (λv s₁=>wpAny (model X.prog X.w) X.A (eval b X.env) (λu s₂=>wpAny (model X.prog X.w) X.A (f v u) Q X.xe s₂) X.xe s₁) X.xe s:=by erw[aZ (ha au s O H _ I h) λv s1 #[x,H1,I1,r1,q1]=>?_];erw[aZ (hb au s1 O H1 _ I1 q1) λu s2 #[y,H2,I2,r2,q2]=>?_];erw[hf v u s2 x y H2 I2 r1 r2 q2]
theorem aP{op:Operator}{r:R2}(ho:cY X (binaryOp op) r)(ha:PE X a ta)(hb:PE X b tb):PE X (.BinOp a op b pos) (yN r ta tb):=by intro au s O H Q I h;erw[wpAny_BinOp (Md ha hb I h λv u s2 x y H2 I2 rx ry q=>ho au s2 O H2 x y v u Q I2 rx ry q)]
theorem jN{op:UnaryOp}{r:V->Hp->VK->Prop}(ho:Mr X (unaryOp op) r)(ha:PE X a ta):PE X (.UnaryOp op a pos) (YU r ta):=by intro au s O H Q I h;erw[UnaryOp_ (aZ (ha au s O H _ I h) λv s1 #[x,H1,I1,r1,q1]=>ho au s1 O H1 x v Q I1 r1 q1)]
theorem zF{f:Value->Value->Sem Value}{C:Int->Int->Prop}{g:Int->Int->Int} (rule:∀(i j:Int)(t u:Tok)(s:af)(Q:Value->af->Prop)(E:Value->af->Prop),C i j->Q (.int (g i j) s.toks) {s with toks:=s.toks+1}->wpAny (model X.prog X.w) X.A (f (.int i t) (.int j u)) Q E s): cY X f (rI C λi j=>.int (g i j)):=by intro au s O H x y v u Q I rx ry h;let(i,j,rfl,rfl,hc,q):=h;let(t,rfl):=rx;let(t',rfl):=ry;erw[rule i j t t' s _ _ hc #[.int (g i j),H,I.tok _,#[_,Z],q]]
theorem SG{f:Value->Value->Sem Value}{g:Int->Int->Int} (rule:∀(i j:Int)(t u:Tok)(s:af)(Q:Value->af->Prop)(E:Value->af->Prop),Q (.int (g i j) s.toks) {s with toks:=s.toks+1}->wpAny (model X.prog X.w) X.A (f (.int i t) (.int j u)) Q E s): cY X f (kO λi j=>.int (g i j)):=by intro au s O H x y v u Q I rx ry h;let(i,j,rfl,rfl,q):=h;let(t,rfl):=rx;let(t',rfl):=ry;erw[rule i j t t' s _ _ #[.int (g i j),H,I.tok _,#[_,Z],q]]
theorem xk{f:Value->Value->Sem Value}{g:Int->Int->Bool} (rule:∀(i j:Int)(t u:Tok)(s:af)(Q:Value->af->Prop)(E:Value->af->Prop),Q (.bool (g i j)) s->wpAny (model X.prog X.w) X.A (f (.int i t) (.int j u)) Q E s): cY X f (kO λi j=>.bl (g i j)):=by intro au s O H x y v u Q I rx ry h;let(i,j,rfl,rfl,q):=h;let(t,rfl):=rx;let(t',rfl):=ry;erw[rule i j t t' s _ _ #[.bl (g i j),H,I,Z,q]]
def afC(i j:Int):Prop:=0<=j/\j<=1000000/\i.natAbs<2^64
theorem eu:cY X (binaryOp .Add) (kO λi j=>.int (i+j)):=SG λ_ _ _ _ _ _ _ q=>add_int q
theorem j9:cY X (binaryOp .Sub) (kO λi j=>.int (i-j)):=SG λ_ _ _ _ _ _ _ q=>sub_int q
theorem uL:cY X (binaryOp .Mod) (rI (λ_ j=>0<j) λi j=>.int (i%j)):=zF λi j _ _ _ _ _ hc q=>by have h1:(0:Int)<j:=hc;erw[mod_int' ao (by rw[Int.fmod_eq_emod_of_nonneg i ao];erw[q])]
theorem Jq:cY X (binaryOp .Pow) (rI afC λi j=>.int (i^j.toNat)):=zF λ_ _ _ _ _ _ _ hc q=>pow_int_small hc.1 hc.2.1 hc.2.2 q
theorem Yp{f:Value->Sem Value}{g:Int->Int} (rule:∀(i:Int)(t:Tok)(s:af)(Q:Value->af->Prop)(E:Value->af->Prop),Q (.int (g i) s.toks) {s with toks:=s.toks+1}->wpAny (model X.prog X.w) X.A (f (.int i t)) Q E s): Mr X f (rU λi=>.int (g i)):=by intro au s O H x v Q I rx h;let(i,rfl,q):=h;let(t,rfl):=rx;erw[rule i t s _ _ #[.int (g i),H,I.tok _,#[_,Z],q]]
theorem jH:Mr X (unaryOp .USub) (rU λi=>.int (-i)):=Yp λ_ _ _ _ _ q=>neg_int q
end
def P6:V->V->Bool | .bw,.bw=>true| .bw,.int _=>true| .int _,.bw=>true| .bw,.bl _=>true| .bl _,.bw=>true| .bw,.str _=>true| .str _,.bw=>true | .int _,.int _=>true| .bl _,.bl _=>true| .str _,.str _=>true| .kY _,.kY _=>true | .int _,.str _=>true| .str _,.int _=>true| .bl _,.str _=>true| .str _,.bl _=>true |_,_=>false
def rEq:R2:=λx y H Q=>P6 x y=true/\Q (.bl (decide (x=y))) H
def rNe:R2:=λx y H Q=>P6 x y=true/\Q (.bl (!decide (x=y))) H
theorem Wb{i j:Int}:decide (V.int i=V.int j)=(i==j):=by rw[kj];simp
theorem We{i j:Bool}:decide (V.bl i=V.bl j)=(i==j):=by rw[kj];simp
theorem Wa{i j:Str}:decide (V.str i=V.str j)=(i==j):=by rw[kj];simp
theorem Wc{i j:Array UInt8}:decide (V.kY i=V.kY j)=(i.toList==j.toList):=by rw[kj];cases i;cases j;simp
section
variable {X:Cx}{a b c:Expr}{ta tb tc:TE}{pos:Pos}
theorem eQ{au:List (Addr×Obj)}{O:St}{H:Hp}{s:af}{Q:VK}{k k':Bool}(I:Inv X au O H s)(q:Q (.bl k) H)(e:k=k'):EP X au O Q (.bool k') s:=by subst e;erw[.bl k,H,I,Z,q]
theorem xj:cY X (compareOp .Eq) rEq:=by intro au s O H x y v u Q I rx ry h;let(hs,q):=h;cases x with
 |bw=>cases rx;cases y with |bw=>cases ry;erw[PySem.EqNone.eq_none_none (eQ I q (by simp))] |bl j=>cases ry;erw[PySem.EqNone.eq_none_bool (eQ I q (by simp))] |int j=>let(t',rfl):=ry;erw[PySem.EqNone.eq_none_int (eQ I q (by simp))] |str j=>let(t',rfl):=ry;erw[PySem.EqNone.eq_none_str (eQ I q (by simp))] |_=>erw[absurd (show false=true from hs) eH]
 |bl i=>cases rx;cases y with |bw=>cases ry;erw[PySem.EqNone.eq_bool_none (eQ I q (by simp))] |bl j=>cases ry;erw[eq_bool (eQ I q We)] |str j=>let(t',rfl):=ry;erw[PySem.EqMixed.eq_bool_str (eQ I q (by simp))] |_=>erw[absurd (show false=true from hs) eH]
 |int i=>let(t,rfl):=rx;cases y with |bw=>cases ry;erw[PySem.EqNone.eq_int_none (eQ I q (by simp))] |int j=>let(t',rfl):=ry;erw[eq_int (eQ I q Wb)] |str j=>let(t',rfl):=ry;erw[PySem.EqMixed.eq_int_str (eQ I q (by simp))] |_=>erw[absurd (show false=true from hs) eH]
 |str i=>let(t,rfl):=rx;cases y with |bw=>cases ry;erw[PySem.EqNone.eq_str_none (eQ I q (by simp))] |bl j=>cases ry;erw[PySem.EqMixed.eq_str_bool (eQ I q (by simp))] |int j=>let(t',rfl):=ry;erw[PySem.EqMixed.eq_str_int (eQ I q (by simp))] |str j=>let(t',rfl):=ry;erw[eq_str (eQ I q Wa)] |_=>erw[absurd (show false=true from hs) eH]
 |kY i=>let(t,rfl):=rx;cases y with |kY j=>let(t',rfl):=ry;erw[PySem.W.eq_bytes (eQ I q Wc)] |_=>erw[absurd (show false=true from hs) eH]
 |_=>cases y<;>erw[absurd (show false=true from hs) eH]
theorem Jr:cY X (compareOp .NotEq) rNe:=by intro au s O H x y v u Q I rx ry h;let(hs,q):=h;cases x with
 |bw=>cases rx;cases y with |bw=>cases ry;erw[PySem.EqNone.ne_none_none (eQ I q (by simp))] |bl j=>cases ry;erw[PySem.EqNone.ne_none_bool (eQ I q (by simp))] |int j=>let(t',rfl):=ry;erw[PySem.EqNone.ne_none_int (eQ I q (by simp))] |str j=>let(t',rfl):=ry;erw[PySem.EqNone.ne_none_str (eQ I q (by simp))] |_=>erw[absurd (show false=true from hs) eH]
 |bl i=>cases rx;cases y with |bw=>cases ry;erw[PySem.EqNone.ne_bool_none (eQ I q (by simp))] |bl j=>cases ry;erw[ne_bool (eQ I q (lA not We))] |str j=>let(t',rfl):=ry;erw[PySem.EqMixed.ne_bool_str (eQ I q (by simp))] |_=>erw[absurd (show false=true from hs) eH]
 |int i=>let(t,rfl):=rx;cases y with |bw=>cases ry;erw[PySem.EqNone.ne_int_none (eQ I q (by simp))] |int j=>let(t',rfl):=ry;erw[ne_int (eQ I q (lA not Wb))] |str j=>let(t',rfl):=ry;erw[PySem.EqMixed.ne_int_str (eQ I q (by simp))] |_=>erw[absurd (show false=true from hs) eH]
 |str i=>let(t,rfl):=rx;cases y with |bw=>cases ry;erw[PySem.EqNone.ne_str_none (eQ I q (by simp))] |bl j=>cases ry;erw[PySem.EqMixed.ne_str_bool (eQ I q (by simp))] |int j=>let(t',rfl):=ry;erw[PySem.EqMixed.ne_str_int (eQ I q (by simp))] |str j=>let(t',rfl):=ry;erw[ne_str (eQ I q (lA not Wa))] |_=>erw[absurd (show false=true from hs) eH]
 |kY i=>let(t,rfl):=rx;cases y with |kY j=>let(t',rfl):=ry;erw[PySem.W.ne_bytes (eQ I q (lA not Wc))] |_=>erw[absurd (show false=true from hs) eH]
 |_=>cases y<;>erw[absurd (show false=true from hs) eH]
theorem qh:cY X (compareOp .Lt) (kO λi j=>.bl (decide (i<j))):=xk λ_ _ _ _ _ _ _ q=>lt_int q
theorem zD:cY X (compareOp .LtE) (kO λi j=>.bl (decide (i<=j))):=xk λ_ _ _ _ _ _ _ q=>le_int q
theorem CL:cY X (compareOp .Gt) (kO λi j=>.bl (decide (j<i))):=xk λ_ _ _ _ _ _ _ q=>gt_int q
theorem Js:cY X (compareOp .GtE) (kO λi j=>.bl (decide (j<=i))):=xk λ_ _ _ _ _ _ _ q=>ge_int q
theorem a2m:cY X (compareOp .In) (λx y H Q=>∃i j,x= .str i/\y= .str j/\Q (.bl (!(Builtin.Str.occurrences j i 0 j.length 1).isEmpty)) H):=by intro au s O H x y v u Q I rx ry h;let(i,j,rfl,rfl,q):=h;let(t,rfl):=rx;let(t',rfl):=ry;erw[in_str (eQ I q Z)]
theorem SD:cY X (compareOp .Is) (λx y H Q=>y= .bw/\Q (.bl (decide (x= .bw))) H):=by intro au s O H x y v u Q I rx ry h;let(rfl,q):=h;cases ry;erw[is_none_gen (eQ I q ?_)];cases x<;>first |(cases rx;rfl) |(let(t,rfl):=rx;rfl)
theorem xi:cY X (compareOp .IsNot) (λx y H Q=>y= .bw/\Q (.bl (!decide (x= .bw))) H):=by intro au s O H x y v u Q I rx ry h;let(rfl,q):=h;cases ry;erw[isnot_none_gen (eQ I q ?_)];cases x<;>first |(cases rx;rfl) |(let(t,rfl):=rx;rfl)
theorem cY.or{f:Value->Value->Sem Value}{r r':R2}(h:cY X f r)(h':cY X f r'):cY X f (λx y H Q=>r x y H Q\/r' x y H Q):=by
 intro au s O H x y v u Q I rx ry q;rcases q with q|q
 ·erw[h au s O H x y v u Q I rx ry q]
 ·erw[h' au s O H x y v u Q I rx ry q]
theorem bS(b:Expr){op:CmpOp}(h:autoParam (op≠ .In) q8_._auto_1)(h2:autoParam (op≠ .NotIn) q8_._auto_1):behindInMarks op b=false:=by
 have e1:(op==CmpOp.In)=false:=by cases op<;>first|rfl|erw[absurd rfl h]
 have e2:(op==CmpOp.NotIn)=false:=by cases op<;>first|rfl|erw[absurd rfl h2]
 cases b<;>simp[behindInMarks,e1,e2]
theorem jq{op:CmpOp}{r:R2}(ho:cY X (compareOp op) r)(ha:PE X a ta)(hb:PE X b tb)(hm:behindInMarks op b=false):PE X (.Compare a [op] [b] pos) (yN r ta tb):=by intro au s O H Q I h;erw[wpAny_Compare1 (Md ha hb I h λv u s2 x y H2 I2 rx ry q=>ho au s2 O H2 x y v u Q I2 rx ry q) hm]
inductive ad6(Q:Bool->Hp->Prop)(x:V)(H':Hp):Prop |mk (k:_)(h0:x= .bl k)(h1:Q k H')
def NH(t:TE):TT:=λO H Q=>t O H λx H'=>ad6 Q x H'
theorem cf{op:CmpOp}{r:R2}(ho:cY X (compareOp op) r)(ha:PE X a ta)(hb:PE X b tb)(hm:behindInMarks op b=false):PT X (.Compare a [op] [b] pos) (NH (yN r ta tb)):=by intro au s O H Q I h;erw[wpAny_isTrue_Compare1 (aZ (ha au s O H _ I h) λv s1 #[x,H1,I1,r1,q1]=>aZ (hb au s1 O H1 _ I1 q1) λu s2 #[y,H2,I2,r2,q2]=>aZ (ho au s2 O H2 x y v u _ I2 r1 r2 q2) λc s3 #[z,H3,I3,r3,k,e,q3]=>?_) hm];subst e;cases r3;erw[pK #[H3,I3,q3]]
inductive ade(r':R2)(tc:TE)(O:St)(Q:VK)(y:V)(z:V)(H3:Hp):Prop |mk (k:_)(h0:z= .bl k)(h1:(if k=true then tc O H3 λw' H4=>r' y w' H4 Q else Q (.bl false) H3))
def NO(r r':R2)(ta tb tc:TE):TE:=λO H Q=>ta O H λx H1=>tb O H1 λy H2=>r x y H2 λz H3=>ade r' tc O Q y z H3
theorem a1V{op uM:CmpOp}{r r':R2}(ho:cY X (compareOp op) r)(nK:cY X (compareOp uM) r')(ha:PE X a ta)(hb:PE X b tb)(hc:PE X c tc) (hm:autoParam (lastMarks [op,uM] [b,c]=false) f8_._auto_1):PE X (.Compare a [op,uM] [b,c] pos) (NO r r' ta tb tc):=by intro au s O H Q I h;erw[Compare_chain (aZ (ha au s O H _ I h) λv s1 #[x,H1,I1,r1,q1]=>chain_link (aZ (hb au s1 O H1 _ I1 q1) λu s2 #[y,H2,I2,r2,q2]=>aZ (ho au s2 O H2 x y v u _ I2 r1 r2 q2) λd s3 #[z,H3,I3,r3,k,e,q3]=>?_)) hm];subst e;cases r3;erw[pK ?_];cases k with |false=>erw[ite_ff #[.bl false,H3,I3,Z,q3]] |true=>erw[ite_tt (chain_last (aZ (hc au s3 O H3 _ I3 q3) λw' s4 #[z',H4,I4,r4,q4]=>nK au s4 O H4 y z' u w' Q I4 r2 r4 q4))]
theorem a1u{op uM:CmpOp}{r r':R2}(ho:cY X (compareOp op) r)(nK:cY X (compareOp uM) r')(ha:PE X a ta)(hb:PE X b tb)(hc:PE X c tc) (hm:autoParam (lastMarks [op,uM] [b,c]=false) f8_._auto_1):PT X (.Compare a [op,uM] [b,c] pos) (NH (NO r r' ta tb tc)):=by intro au s O H Q I h;erw[isTrue_chain (aZ (ha au s O H _ I h) λv s1 #[x,H1,I1,r1,q1]=>test_link (aZ (hb au s1 O H1 _ I1 q1) λu s2 #[y,H2,I2,r2,q2]=>aZ (ho au s2 O H2 x y v u _ I2 r1 r2 q2) λd s3 #[z,H3,I3,r3,k,e,q3]=>?_)) hm];subst e;cases r3;erw[pK ?_];cases k with |false=>let(k',e',q'):=q3;cases e';erw[ite_ff #[H3,I3,q']] |true=>erw[ite_tt (test_last (aZ (hc au s3 O H3 _ I3 q3) λw' s4 #[z',H4,I4,r4,q4]=>aZ (nK au s4 O H4 y z' u w' _ I4 r2 r4 q4) λd' s5 #[z2,H5,I5,r5,k2,e2,q5]=>?_))];subst e2;cases r5;erw[pK #[H5,I5,q5]]
def Ms(K:aa)(x:V)(H:Hp)(k:Bool):Prop:=match x with | .bw=>k=false | .bl b=>k=b | .int i=>k=(i !=0) | .str y=>y.length<=sizeLine/\k=((y.length:Int) !=0) | .kY y=>y.size<=sizeLine/\k=((y.size:Int) !=0) | .ref p=>(∃xs,aF K H p xs/\k= !xs.isEmpty)\/(∃xs,aW K H p xs/\k= !xs.isEmpty)\/∃eV,H p=some (.dK eV)/\k= !eV.isEmpty |_=>False
theorem a6h{κ:Type}{eV:List (κ×V)}{vs:List (κ×Value)}(r:KV eV vs):(!vs.isEmpty)= !eV.isEmpty:=by cases r<;>rfl
theorem Ux{xs:List V}{its:List Value}(r:Vals xs its):(!its.toArray.isEmpty)= !xs.isEmpty:=by cases r<;>simp
theorem uX:(sizeLine:Nat)<2^63:=by rw[EF];decide
theorem YB:acV X (λx H Q=>∃k,Ms X.K x H k/\Q k H):=by intro au s O H x v Q I rx h;let(k,e,q):=h;have hl:=uX;have hs:sizeLine=16777216:=EF;cases x with |bw=>cases rx;have e':k=false:=e;subst e';erw[truthy_none #[H,I,q]] |bl b=>cases rx;have e':k=b:=e;subst e';erw[pK #[H,I,q]] |int i=>let(t,rfl):=rx;have e':k=(i !=0):=e;subst e';erw[PySem.P.truthy_int #[H,I,q]] |str y=>let(t,rfl):=rx;obtain⟨hy,e'⟩:y.length<=sizeLine/\k=((y.length:Int) !=0):=e;subst e';erw[PySem.P.truthy_str ao #[H,I.tok _,q]] |kY y=>let(t,rfl):=rx;obtain⟨hy,e'⟩:y.size<=sizeLine/\k=((y.size:Int) !=0):=e;subst e';erw[PySem.W.truthy_bytes ao #[H,I.tok _,q]] |ref p=>
 cases rx;have e':(∃xs,aF X.K H p xs/\k= !xs.isEmpty)\/(∃xs,aW X.K H p xs/\k= !xs.isEmpty)\/∃eV,H p=some (.dK eV)/\k= !eV.isEmpty:=e;rcases e' with⟨xs,hx,e'⟩|⟨xs,hx,e'⟩|⟨eV,hx,e'⟩
 ·subst e'
  let(its,r,pl,hz):=I.list hx;have hlen:=r.length;erw[wpAny_truthy_list pl.isList (by simp only[eP];lia) #[H,I.tok _,by rw[Ux r];erw[q]]]
 ·subst e'
  let(its,r,pl,hz):=I.tuple hx;have hlen:=r.length;erw[truthy_tuple pl (by simp only[eP];lia) #[H,I.tok _,by rw[Ux r];erw[q]]]
 ·subst e'
  obtain⟨hz,hS,vs,r,m⟩:eV.length<=sizeLine/\(p==sysModules)=false/\∃vs,KV eV vs/\s.heap.DictOf (JR X.prog X.w) p vs:=I.bX p _ hx;have hlen:eV.length=vs.length:=Paired.length r;erw[wpAny_truthy_dict hS m ao #[H,I.tok _,by rw[a6h r];erw[q]]] |_=>exact(show False from e).elim
theorem a1s(ha:PE X a ta)(he:∀whole,isTrue a X.env whole=(do let v<-whole;standAt a.pos;holding [v] (truthy v))): PT X a (λO H Q=>ta O H λx H'=>∃k,Ms X.K x H' k/\Q k H'):=by intro au s O H Q I h;erw[isTrue_plain (aZ (ha au s O H _ I h) λv s1 #[x,H1,I1,r1,q1]=>YB au s1 O H1 x v Q I1 r1 q1) (he _)]
theorem ju:cY X (binaryOp .Add) (λx y H Q=>∃i j,x= .str i/\y= .str j/\i.length+j.length<=sizeLine/\Q (.str (i++j)) H):=by intro au s O H x y v u Q I rx ry h;let(i,j,rfl,rfl,hz,q):=h;let(t,rfl):=rx;let(t',rfl):=ry;erw[add_str (λt' tk=>#[.str (i++j),H,I.tok _,#[_,Z],q]) hz]
theorem vals1{x:V}{us:List Value}(r:Vals [x] us):∃u,us=[u]/\RelV x u:=by cases r with |cons r1 r2=>cases r2;erw[_,rfl,r1]
theorem vals2{x y:V}{us:List Value}(r:Vals [x,y] us):∃u w',us=[u,w']/\RelV x u/\RelV y w':=by cases r with |cons r1 r2=>cases r2 with |cons r3 r4=>cases r4;erw[_,_,rfl,r1,r3]
theorem vP:fD X (.builtin "abs") (λxs H Q=>∃i,xs=[.int i]/\Q (.int (if i<0 then-i else i)) H):=by intro au s O H xs us Q I r h;let(i,rfl,q):=h;let(u,rfl,t,rfl):=vals1 r;erw[call_abs_int λu tk=>#[.int (if i<0 then-i else i),H,I.tok _,#[_,Z],q]]
theorem WB(hc:X.calm=true):fD X (.builtin "max") (λxs H Q=>∃i j,xs=[.int i,.int j]/\Q (.int (if j>i then j else i)) H):=by
 intro au s O H xs us Q I r h;let(i,j,rfl,q):=h;let(u,w',rfl,(t,rfl),(t',rfl)):=vals2 r;erw[max_two_ints (I.ok.hd hc) λh' tk k=>#[_,H,I.kept k,?_,q]];by_cases hj:j>i
 ·rw[bc hj,bc hj];erw[_,Z]
 ·rw[bj hj,bj hj];erw[_,Z]
theorem M8(hc:X.calm=true):fD X (.builtin "min") (λxs H Q=>∃i j,xs=[.int i,.int j]/\Q (.int (if j<i then j else i)) H):=by
 intro au s O H xs us Q I r h;let(i,j,rfl,q):=h;let(u,w',rfl,(t,rfl),(t',rfl)):=vals2 r;erw[min_two_ints (I.ok.hd hc) λh' tk k=>#[_,H,I.kept k,?_,q]];by_cases hj:j<i
 ·rw[bc hj,bc hj];erw[_,Z]
 ·rw[bj hj,bj hj];erw[_,Z]
theorem ac9:fD X (.type "int") (λxs H Q=>(∃i,xs=[.int i]/\Q (.int i) H)\/∃k,xs=[.bl k]/\Q (.int (if k then 1 else 0)) H):=by
 intro au s O H xs us Q I r h;rcases h with⟨i,rfl,q⟩|⟨k,rfl,q⟩
 ·let(u,rfl,t,rfl):=vals1 r
  erw[call_int_int #[.int i,H,I,#[_,Z],q]]
 ·let(u,rfl,r1):=vals1 r
  cases r1;erw[call_int_bool #[.int (if k then 1 else 0),H,I.tok _,#[_,Z],q]]
end
structure vY(h:Heap)(x dx C:Addr)(mA:ck):Prop where
 obj:h.get? x=some (PySem.W.instObj C dx)
 ns:h.Ns1 dx mA
 ne:dx≠x
theorem a5I{h:Heap}{dx:Addr}{mA:ck}(n:h.Ns1 dx mA):∃od,h.get? dx=some od/\∀name,PySem.W.lookIn name od=some (mA name):=by
 let(o,es,ep,ho,hd,hk,_,hm):=n;erw[o,ho,λname=>?_];have e:=hm name;unfold nsFind findBy at e;rw[<-Array.find?_toList]at e;unfold PySem.W.lookIn;rw[hd];dsimp only;split
 ·rename_i y q
  rw[q]at e;erw[lA some e]
 ·rename_i q
  rw[q]at e;have a:es.toList.any (·.refKey)=false:=by rw[List.any_eq_false];intro y hy;let(z,t,a7o):=hk y (Array.mem_toList_iff.mp hy);simp[DictEntry.refKey,a7o]
  have a':¬es.toList.any (·.refKey)=true:=by rw[a];erw[eH]
  rw[bj a'];erw[lA some e]
theorem vY.look{h:Heap}{x dx C:Addr}{mA:ck}(I:vY h x dx C mA):∃od,PySem.W.InstAt h x (PySem.W.instObj C dx) C (some od)/\∀name,PySem.W.lookIn name od=some (mA name):=let#[od,ho,hl]:=a5I I.ns
 #[od,#[I.obj,Z,Z,ho],hl]
section
variable {prog:ag}{w:World}{A:ai}{E:Value->af->Prop}{s:af}{K:aa}{x dx C f:Addr}{mA:ck}{name:Str}{v:Value}
theorem get_map{expr:Bool}{Q:Value->af->Prop}(X:K.In s.heap)(I:vY s.heap x dx C mA)(hg:PySem.W.plainGet K C name=true)(hh:PySem.W.hasDictIn K C=true) (ha:PySem.W.findIn K (.ref C) name=some none)(hv:mA name=some v)(hv':PySem.W.handedIn v=true)(h:Q v {s with toks:=s.toks+1}): wpAny (model prog w) A (getAttr (.ref x) name expr) Q E s:=by let(od,J,hl):=I.look;erw[PySem.W.get_value X J (Xt hg).1 (PySem.W.findObj_own hh ha Z (by rw[hl,hv])) hv' h]
theorem a95{pl:Sem Bool}{Q:Value×List Value->af->Prop}(X:K.In s.heap)(I:vY s.heap x dx C mA)(hg:PySem.W.plainGet K C name=true) (hf:PySem.W.findIn K (.ref C) name=some (some (.ref f)))(ht:PySem.W.isFn K (.ref f)=true)(hv:mA name=none)(h:Q (.ref f,[.ref x]) s): wpAny (model prog w) A (getMethod (.ref x) name pl) Q E s:=by let(od,J,hl):=I.look;erw[PySem.W.method_fn X J (Xt hg).1 (Xt hg).2 hf (fL.mp ht) (by show(PySem.W.lookIn name od).map (·.isSome)=some false;rw[hl,hv];rfl) h]
theorem ZS{ns:List Str}{Q:Unit->af->Prop}(X:K.In s.heap)(I:vY s.heap x dx C mA) (hs:PySem.W.findIn K (.ref C) "__setattr__"=some (some (.builtin "object.__setattr__")))(hp:PySem.W.plainOver K C=true)(ht:PySem.W.takerIn K C name=some none)(hh:PySem.W.hasDictIn K C=true) (hw:PySem.Within mA ns)(hsz:ns.length<=sizeLine) (h:∀h',vY h' x dx C (λy=>if y=name then some v else mA y)->Heap.SameBut dx s.heap h'->Q () {s with heap:=h',toks:=s.toks+2}): wpAny (model prog w) A (setAttr (.ref x) name v) Q E s:=by let(od,J,hl):=I.look;erw[PySem.W.set_plain X J hs (PySem.W.osa_open (s:={s with toks:=s.toks+1}) (r:=none) X J hp ht λb=>?_)];let(cd,hc,KJ):=PySem.W.any_some hh;have hx:s.heap.get? x=some #[.ref C,some dx,.plain,#[]]:=I.obj;erw[aM (cn (aM (aM (wpAny_loadPart hx (aM (PySem.W.Looks.here (s:={s with toks:=s.toks+1}) (PySem.W.looks_clsIn X hc) ?_))))))];rw[KJ];erw[cn (a:=some dx) (aM (cn (aM ?_)))];erw[wpAny_nsSet1 (s:={s with toks:=s.toks+1}) I.ns λh' p7 jd=>?_];let(oD,esD,epD,hoD,hdD,hcD):=p7.count (PySem.Within.cons name v hw);erw[aM (wpAny_lookBehind hoD (by rw[hdD];erw[pastItsLine_dict (iK hcD (by rw[gz];lia))]) ?_)];erw[cn (h _ #[(jd.2 _ (kI I.ne)).trans I.obj,p7,I.ne] jd)]
theorem a5d{R:Result->af->Prop}{vs:List Value}{kw:List (Str×Value)}(X:K.In s.heap)(hm:PySem.W.makesIn K C=true) (hi:PySem.W.findIn K (.ref C) "__init__"=some (some (.ref f)))(hf:PySem.W.typeIn K (.ref f)=some (.type "function")) (h:codeAny (model prog w) (A.under (.builtin "type.__call__" #[.ref C::vs,kw])) (.call (.ref f) #[.ref (s.heap.objs.size+1)::vs,kw]) (PySem.W.InitBack (s.heap.objs.size+1) R) {s with heap:=(s.heap.push PySem.W.emptyDict).push (PySem.W.instObj C s.heap.objs.size)}): codeAny (model prog w) A (.call (.ref C) #[vs,kw]) R s:=by let(hh,g,d,t,os):=s;erw[PySem.W.make_core (PySem.W.makes_of X hm) (PySem.W.looks_findIn X hi) (λself=>PySem.W.bind_fn X self hf) (.inl Z) h]
end
def jn(f:Str)(v:V):List (Str×V)->List (Str×V) |[]=>[(f,v)] |(g,x)::r=>if g=f then(g,v)::r else(g,x)::jn f v r
theorem U8(f g:Str)(v:V):∀fs:List (Str×V),(jn f v fs).lookup g=if g=f then some v else fs.lookup g
 |[]=>by
  show List.lookup g [(f,v)]=_;by_cases h:g=f
  ·have hb:(g==f)=true:=fL.mpr h
   simp only[List.lookup,hb,bc h]
  ·have hb:(g==f)=false:=ML.mpr h
   simp only[List.lookup,hb,bj h] |(k,x)::r=>by
  have ih:=U8 f g v r;rw[show jn f v ((k,x)::r)=(if k=f then(k,v)::r else(k,x)::jn f v r)from rfl];by_cases hk:k=f
  ·rw[bc hk]
   by_cases h:g=k
   ·have hb:(g==k)=true:=fL.mpr h
    simp only[List.lookup,hb,bc (h.trans hk)]
   ·have hb:(g==k)=false:=ML.mpr h
    simp only[List.lookup,hb,bj (λe:g=f=>h (e.trans hk.symm))]
  ·rw[bj hk]
   by_cases h:g=k
   ·have hb:(g==k)=true:=fL.mpr h
    simp only[List.lookup,hb,bj (λe:g=f=>hk (h.symm.trans e))]
   ·have hb:(g==k)=false:=ML.mpr h
    simp only[List.lookup,hb];erw[ih]
theorem Kc(f:Str)(v:V):∀fs:List (Str×V),f∈(jn f v fs).map (·.1)/\∀g,g∈fs.map (·.1)->g∈(jn f v fs).map (·.1)
 |[]=>#[by simp[jn],λg h=>by simp at h] |(k,x)::r=>by
  let(i1,i2):=Kc f v r;rw[show jn f v ((k,x)::r)=(if k=f then(k,v)::r else(k,x)::jn f v r)from rfl];by_cases hk:k=f
  ·rw[bc hk]
   subst hk;erw[by simp,λg h=>by simpa using h]
  ·rw[bj hk]
   erw[?_,λg h=>?_]
   ·rw[rA]
    erw[yw _ i1]
   ·rw[rA]at h⊢
    rcases cO.mp h with e|e
    ·erw[cO.mpr (.inl e)]
    ·erw[yw _ (i2 g e)]
theorem Ug(f:Str)(v:V):∀fs:List (Str×V),(jn f v fs).length<=fs.length+1
 |[]=>by simp[jn] |(k,x)::r=>by
  have ih:=Ug f v r;rw[show jn f v ((k,x)::r)=(if k=f then(k,v)::r else(k,x)::jn f v r)from rfl];by_cases hk:k=f
  ·rw[bc hk,gz,gz];lia
  ·rw[bj hk,gz,gz];lia
theorem pI.some_of{v:V}{o:Option Value}(r:pI (some v) o):∃u,o=some u/\RelV v u:=by cases o with |none=>exact(show False from r).elim |some u=>erw[u,Z,r]
theorem pI.none_of{o:Option Value}(r:pI none o):o=none:=by cases o with |none=>rfl |some u=>exact(show False from r).elim
theorem a8i{v:V}{u:Value}(r:RelV v u):PySem.W.handedIn u=true:=by cases v with |bw=>cases(show u=Value.none from r);rfl |bl b=>cases(show u=Value.bool b from r);rfl |int i=>let(t,e):=(show∃t,u=Value.int i t from r);cases e;rfl |str x=>let(t,e):=(show∃t,u=Value.str x t from r);cases e;rfl |kY b=>let(t,e):=(show∃t,u=Value.bytes b t from r);cases e;rfl |DT b=>let(t,e):=(show∃t,u=Value.float b t from r);cases e;rfl |ref a=>cases(show u=Value.ref a from r);rfl |ty n=>cases(show u=Value.type n from r);rfl
section
variable {P:ag}{w:World}{H H':Hp}{h h':Heap}{a C dx:Addr}{fs ph:List (Str×V)}
theorem Kj(bX:fK P w H h)(e:H a=some (.ins C dx fs)):∃mA,vY h a dx C mA/\(∀f,pI (fs.lookup f) (mA f))/\PySem.Within mA (fs.map (·.1))/\fs.length<=1000/\H dx=some (.own a):=by let(d,z,ne,ob,mA,n,r,q):=(show kb P w H h a (.ins C dx fs)from bX a _ e);erw[mA,#[ob,n,ne],r,q,z,d]
end
structure kf(K:aa)(C:Addr):Prop where
 pg:PySem.W.plainGet K C Str.empty=true
 hd:PySem.W.hasDictIn K C=true
 po:PySem.W.plainOver K C=true
 sa:PySem.W.findIn K (.ref C) "__setattr__"=some (some (.builtin "object.__setattr__"))
theorem kf.get{K:aa}{C:Addr}(c:kf K C)(f:Str):PySem.W.plainGet K C f=true:=c.pg
def iV(K:aa)(C:Addr)(f:Str):Prop:=PySem.W.findIn K (.ref C) f=some none
theorem iV.YT{K:aa}{C:Addr}{f:Str}(n:iV K C f):PySem.W.takerIn K C f=some none:=by unfold PySem.W.takerIn;rw[show PySem.W.findIn K (.ref C) f=some none from n];rfl
structure Meth(K:aa)(C:Addr)(m:Str)(f:Addr):Prop where
 at_:PySem.W.findIn K (.ref C) m=some (some (.ref f))
 fn:PySem.W.isFn K (.ref f)=true
 kp:PySem.W.keepIn K (.ref f)=true
section
variable {X:Cx}{au:List (Addr×Obj)}{O:St}{H:Hp}{s:af}{a C dx:Addr}{fs:List (Str×V)}{f:Str}{v:V}{A:ai}{E:Value->af->Prop}
theorem Vl{b:Bool}{Q:Value->af->Prop}(I:Inv X au O H s)(e:H a=some (.ins C dx fs))(c:kf X.K C)(n:iV X.K C f)(l:fs.lookup f=some v) (h:∀u s',Inv X au O H s'->RelV v u->Q u s'):wpAny (model X.prog X.w) A (getAttr (.ref a) f b) Q E s:=by let(mA,agX,r,_,_,_):=Kj I.bX e;let(u,hu,ru):=pI.some_of (v:=v) (o:=mA f) (by rw[<-l];erw[r f]);erw[get_map I.iP agX (c.get f) c.hd n hu (a8i ru) (h u _ (I.tok _) ru)]
theorem Vk{m:Str}{g:Addr}{pl:Sem Bool}{Q:Value×List Value->af->Prop}(I:Inv X au O H s)(e:H a=some (.ins C dx fs))(c:kf X.K C)(k:Meth X.K C m g)(l:fs.lookup m=none) (h:Q (.ref g,[.ref a]) s):wpAny (model X.prog X.w) A (getMethod (.ref a) m pl) Q E s:=by let(mA,agX,r,_,_,_):=Kj I.bX e;have hn:mA m=none:=pI.none_of (by rw[<-l];erw[r m]);erw[a95 I.iP agX (c.get m) k.at_ k.fn hn h]
theorem P5{y:V}{u:Value}{Q:Unit->af->Prop}(I:Inv X au O H s)(e:H a=some (.ins C dx fs))(c:kf X.K C)(n:iV X.K C f)(hl:fs.length<1000)(ry:RelV y u) (h:∀s',Inv X au O (upd H a (.ins C dx (jn f y fs))) s'->Q () s'):wpAny (model X.prog X.w) A (setAttr (.ref a) f u) Q E s:=by
 let(mA,agX,r,wi,_,ho):=Kj I.bX e;have hz:(fs.map (·.1)).length<=sizeLine:=by rw[ba,EF];lia
 erw[ZS I.iP agX c.sa c.po n.YT c.hd wi hz λh' O' sb=>h _ ?_];have hd:∃o,h'.get? dx=some o:=let#[o,_,_,e',_]:=O'.ns;#[o,e'];erw[I.write (x:=a) (e:=dx) (by rw[e];erw[True.intro]) (.inr ho) (λb q hb z=>(sb.2 b hb).trans z) hd ?_];erw[by rw[aY agX.ne];erw[ho],?_,agX.ne,O'.obj,_,O'.ns,λg=>?_,λg hg=>?_]
 ·have:=Ug f y fs;lia
 ·show pI ((jn f y fs).lookup g) (if g=f then some u else mA g)
  rw[U8];by_cases q:g=f
  ·rw[bc q,bc q];erw[ry]
  ·rw[bj q,bj q];erw[r g]
 ·by_cases q:g=f
  ·rw[q];exact(Kc f y fs).1
  ·refine(Kc f y fs).2 g (wi g λz=>hg ?_)
   show(if g=f then some u else mA g)=none;rw[bj q];erw[z]
theorem Inv.made(I:Inv X au O H s):Inv X au O (upd (upd H s.heap.objs.size (.own (s.heap.objs.size+1))) (s.heap.objs.size+1) (.ins C s.heap.objs.size [])) {s with heap:=(s.heap.push PySem.W.emptyDict).push (PySem.W.instObj C s.heap.objs.size)}:=by
 have e1:(s.heap.push PySem.W.emptyDict).get? s.heap.objs.size=some PySem.W.emptyDict:=eZ s.heap rfl;have e2:((s.heap.push PySem.W.emptyDict).push (PySem.W.instObj C s.heap.objs.size)).get? (s.heap.objs.size+1)=some (PySem.W.instObj C s.heap.objs.size):=by have:=eZ (s.heap.push PySem.W.emptyDict) (o:=PySem.W.instObj C s.heap.objs.size) rfl;rwa [rE]at this
 have e3:(s.heap.push PySem.W.emptyDict).Ns s.heap.objs.size (λ_=>none):=#[PySem.W.emptyDict,#[],_,e1,Z,(λe he=>absurd he (by simp)),λ_=>rfl];have I1:=I.laid (a:=s.heap.objs.size) (o:=.own (s.heap.objs.size+1)) (h':=s.heap.push PySem.W.emptyDict) (t':=s.toks) (λb u q=>cN _ q) (bf _) #[_,e1];erw[I1.laid (a:=s.heap.objs.size+1) (o:=.ins C s.heap.objs.size []) (t':=s.toks) (λb u q=>cN _ q) (Nat.le_of_eq (rE _ _)) ?_];have ne:s.heap.objs.size≠s.heap.objs.size+1:=eY (XD _);erw[by rw[aY ne,cg],fE _,ne,e2,λ_=>none,(Heap.Ns1.of_empty e3).at λo q=>cN _ q,λ_=>True.intro,λy hy=>absurd rfl hy]
theorem acz{prog:ag}{w:World}{env:Env}{e:Expr}{f:Str}{pos:Pos}{s:af}{Q:Value->af->Prop}(hb:attributeBase e f env (eval e env)=eval e env) (h:wpAny (model prog w) A (eval e env) (λo s₁=>wpAny (model prog w) A (getAttr o f true) Q E s₁) E s):wpAny (model prog w) A (eval (.Attribute e f pos) env) Q E s:=Attribute_any_ h (by rw[arm_eval_Attribute,hb])
end
def af6(X:Cx)(op:Operator)(rd:V->V->Hp->VK->Prop):Prop:=∀(au:List (Addr×Obj))(s:af)(O:St)(H:Hp)(x y:V)(u v:Value)(Q:VK),Inv X au O H s->RelV x u->RelV y v->rd x y H Q->wpAny (model X.prog X.w) X.A (inplaceOp op u v) (EP X au O Q) X.xe s
section
variable {X:Cx}{o e value:Expr}{f:Str}{pos pos' pQ:Pos}{ta tv:TE}
end
section
variable {X:Cx}{au:List (Addr×Obj)}{O:St}{H:Hp}{s:af}{A:ai}{E:Value->af->Prop}{Q:Value->af->Prop}{c:Value}{b:Bool}
end
structure dP(k:Nat)(A:ai):Prop where
 hd:A.handled=none
 dp:A.depth+3*k+5<recursionLimit
 un:A.units+16*k+200<cLine
theorem dP.mono{j k:Nat}{A:ai}(r:dP k A)(h:j<=k):dP j A:=#[r.hd,by have:=r.dp;lia,by have:=r.un;lia]
theorem dP.deeper{k:Nat}{A:ai}(r:dP (k+1) A)(env:Env):dP k (A.deeper env):=#[r.hd,by have:=r.dp;show A.depth+1+3*k+5<_;lia,by have:=r.un;show A.units+3+16*k+200<_;lia]
theorem a5e{A:ai}{C:Addr}{us:List Value}{kw:List (Str×Value)}:(A.under (.builtin "type.__call__" #[.ref C::us,kw])).depth=A.depth+1:=by first|rfl|simp[Around.under,Code.weight,Code.isCreation,Code.isGuard,Code.isCaller,Code.frames,Code.isFrame,guardIds]
theorem a5c{A:ai}{C:Addr}{us:List Value}{kw:List (Str×Value)}:(A.under (.builtin "type.__call__" #[.ref C::us,kw])).units=A.units+1:=by first|rfl|simp[Around.under,Code.cUnits,Code.frames,Code.isFrame]
theorem dP.make{k:Nat}{A:ai}(r:dP (k+1) A)(C:Addr)(us:List Value)(kw:List (Str×Value)):dP k (A.under (.builtin "type.__call__" #[.ref C::us,kw])):=#[r.hd,by have:=r.dp;rw[a5e];omega,by have:=r.un;rw[a5c];omega]
theorem dP.depth{k:Nat}{A:ai}(r:dP k A):A.depth<recursionLimit:=by have:=r.dp;lia
theorem dP.units{k:Nat}{A:ai}(r:dP k A):A.units+64<cLine:=by have:=r.un;lia
def uk:TA:=λ_ H Q=>Q [] H
def yO(ta:TE)(tr:TA):TA:=λO H Q=>ta O H λx H1=>tr O H1 λxs H2=>Q (x::xs) H2
section
variable {X:Cx}{e:Expr}{es:List Expr}{te:TE}{t:TA}{pos:Pos}
theorem ay:PA X [] uk:=λ_ _ _ _ H Q I h=>Calls.spliced_nil #[[],H,I,.nil,h]
theorem ak(ha:PE X e te)(hr:PA X es t)(hs:autoParam (starEach (e::es) X.env=(false,eval e X.env)::starEach es X.env) r8_._auto_1):PA X (e::es) (yO te t):=by intro pos au s O H Q I h;rw[hs];show wpAny _ _ (spliced ((false,eval e X.env)::backTo pos (starEach es X.env))) _ _ s;erw[Calls.spliced_cons (aZ (ha au s O H _ I h) λu s1 #[x,H1,I1,r1,q1]=>?_)];erw[aZ (hr pos au s1 O H1 _ I1 q1) λus s2 #[xs,H2,I2,r2,q2]=>#[x::xs,H2,I2,.cons r1 r2,q2]]
end
abbrev Sp:=List V->Hp->VK->XK->Prop
abbrev kg:=List Env->Hp->af->XK->Value->af->Prop
structure w6(P:ag)(w:World)(K:aa)(mg:ck)(aw:Heap)(A:ai)(outer:List Env)(s:af)(H:Hp):Prop where
 frames:A.frames=some outer
 mod:Mod K mg aw
 bs:∀b o,aw.get? b=some o->s.heap.get? b=some o/\H b=none
 pE:aw.objs.size<=s.heap.objs.size
 lS:s.heap.FunFrames aw outer
 tE:∀b∈fW outer,H b=none
 bX:fK P w H s.heap
 bare:AllBare s.gens
def CE(outer:List Env)(P:ag)(w:World)(H:Hp)(s:af)(Q:VK)(u:Value)(s':af):Prop:=∃v H',s'.os=s.os/\AllBare s'.gens/\Un (fW outer) [] H H' s.heap s'.heap/\fK P w H' s'.heap/\RelV v u/\Q v H'
def CR(CX:kg)(outer:List Env)(P:ag)(w:World)(H:Hp)(s:af)(Q:VK)(E:XK)(r:Result)(s':af):Prop:=match r with | .ok (.ret u)=>CE outer P w H s Q u s' | .ok _=>False | .error e=>CX outer H s E e s'
structure fw(P:ag)(w:World)(K:aa)(mg:ck)(aw:Heap)(CX:kg)(k:Nat)(f:Addr)(fd:FuncData)(ps:List Str)(sp:Sp):Prop where
 len:∀vs H Q E,sp vs H Q E->vs.length=ps.length
 run:∀(A:ai)(outer:List Env)(s:af)(H:Hp)(args:Args)(us:List Value)(vs:List V)(Q:VK)(E:XK),dP k A->w6 P w K mg aw A outer s H->BindsTo s fd args (ps.zip us)->Vals vs us->sp vs H Q E->codeAny (model P w) A (.call (.ref f) args) (CR CX outer P w H s Q E) s
theorem fw.mono{P:ag}{w:World}{K:aa}{mg:ck}{aw:Heap}{CX:kg}{j k:Nat}{f:Addr}{fd:FuncData}{ps:List Str}{sp:Sp}(F:fw P w K mg aw CX j f fd ps sp)(h:j<=k): fw P w K mg aw CX k f fd ps sp:=#[F.len,λA outer s H args us vs Q E hr=>F.run A outer s H args us vs Q E (hr.mono h)]
theorem w6.make{P:ag}{w:World}{K:aa}{mg:ck}{aw:Heap}{A:ai}{outer:List Env}{s:af}{H:Hp}(e:w6 P w K mg aw A outer s H)(C:Addr)(us:List Value)(kw:List (Str×Value)): w6 P w K mg aw (A.under (.builtin "type.__call__" #[.ref C::us,kw])) outer s H:=#[by first|erw[e.frames]|(simpa[Around.under,Code.envs,Code.isFrame,pushEnvs]using e.frames),e.mod,e.bs,e.pE,e.lS,e.tE,e.bX,e.bare]
section
variable {X:Cx}{au:List (Addr×Obj)}{O:St}{H:Hp}{s s':af}
theorem Inv.VJ(I:Inv X au O H s):w6 X.prog X.w X.K X.mg X.aw X.A X.stack s H:=#[I.ok.frames,I.ok.mod,I.bs,iK I.ok.pE I.sz,I.stack,I.NY,I.bX,I.bare]
theorem Inv.after{Q:VK}{u:Value}(I:Inv X au O H s)(h:CE X.stack X.prog X.w H s Q u s'):EP X au O Q u s':=by let(v,H',os,bare,un,bX,r,q):=h;let(hh,g,d,t,CK):=s';obtain rfl:CK=s.os:=os;erw[v,H',I.call (h':=hh) (g':=g) (d':=d) (t':=t) (ch:=[]) un bX bare (λb z=>absurd z (by simp)),r,q]
end
def Ze(sp:Sp)(gy:List V)(E:XK)(t:TA):TE:=λO H Q=>t O H λvs H1=>sp (vs++gy) H1 Q E
inductive EA(C:Addr)(m:Str)(sp:Sp)(gy:List V)(E:XK)(t:TA)(O:St)(Q:VK)(x:V)(H1:Hp):Prop |mk (a:_)(dx:_)(fs:_)(h0:x= .ref a)(h1:H1 a=some (.ins C dx fs))(h2:fs.lookup m=none)(h3:t O H1 λvs H2=>sp (x::(vs++gy)) H2 Q E)
def NL(C:Addr)(m:Str)(sp:Sp)(gy:List V)(E:XK)(ta:TE)(t:TA):TE:=λO H Q=>ta O H λx H1=>EA C m sp gy E t O Q x H1
def Z8(C:Addr)(sp:Sp)(gy:List V)(E:XK)(t:TA):TE:=λO H Q=>t O H λvs H1=>∀x dx,H1 x=none->H1 dx=none->dx≠x->sp (.ref x::(vs++gy)) (upd (upd H1 dx (.own x)) x (.ins C dx [])) (λv H2=>v= .bw/\Q (.ref x) H2) E
def Binds(K:aa)(fd:FuncData)(ps:List Str)(ds:List Value):Prop:=∀(s:af)(us:List Value),K.In s.heap->(us++ds).length=ps.length->BindsTo s fd #[us,[]] (ps.zip (us++ds))
theorem Binds.all{K:aa}{fd:FuncData}{ps:List Str}(h:∀us:List Value,us.length=ps.length->bindArgs fd #[us,[]]=pure (ps.zip us)):Binds K fd ps []:=λs us _ hl=>by rw[oA]at hl⊢;erw[.of_eq (h us hl)]
def Passes(CX:kg)(X:Cx)(E:XK):Prop:=∀(au:List (Addr×Obj))(O:St)(H:Hp)(s:af)(e:Value)(s':af),Inv X au O H s->CX X.stack H s E e s'->X.xe e s'
section
variable {X:Cx}{CX:kg}{k:Nat}{f C:Addr}{fd:FuncData}{ps:List Str}{sp:Sp}{gy:List V}{ds:List Value}{E:XK}{x m:Str}{p pos apos:Pos}{e o:Expr}{es:List Expr}{ta:TE}{t:TA}
theorem Cu{au:List (Addr×Obj)}{O:St}{H:Hp}{s:af}{Q:VK}{us:List Value}{vs:List V}(F:fw X.prog X.w X.K X.mg X.aw CX k f fd ps sp)(hr:dP k X.A)(hb:Binds X.K fd ps ds)(hd:Vals gy ds)(hx:Passes CX X E) (I:Inv X au O H s)(r:Vals vs us)(h:sp (vs++gy) H Q E):wpAny (model X.prog X.w) X.A (call (.ref f) us) (EP X au O Q) X.xe s:=by
 have r2:Vals (vs++gy) (us++ds):=r.append hd;have hl:(us++ds).length=ps.length:=by rw[<-r2.length];erw[F.len _ _ _ _ h]
 erw[wpAny_call (yn (F.run X.A X.stack s H #[us,[]] (us++ds) (vs++gy) Q E hr I.VJ (hb s us I.iP hl) r2 h) λr s' hq=>?_)];cases r with |error e=>erw[hx au O H s e s' I hq] |ok fl=>cases fl with |ret u=>erw[I.after hq] |next=>erw[False.elim hq] |brk=>erw[False.elim hq] |cont=>erw[False.elim hq]
theorem a1X(F:fw X.prog X.w X.K X.mg X.aw CX k f fd ps sp)(hr:dP k X.A)(hg:Gl X x)(hm:X.mg x=some (.ref f))(hk:PySem.W.keepIn X.K (.ref f)=true)(hb:Binds X.K fd ps ds)(hd:Vals gy ds)(hx:Passes CX X E) (ha:PA X (e::es) t)(jx:autoParam ((x==("__debug__":Str))=false) q8_._auto_1)(he:autoParam (starEach (e::es) X.env=(false,eval e X.env)::starEach es X.env) r8_._auto_1)(gs:autoParam ((backTo pos (starEach es X.env)).any (·.1)=false) r8_._auto_1): PE X (.Call (.Name x p) (e::es) [] pos) (Ze sp gy E t):=by intro au s O H Q I h;erw[EE (zY I hg hm ?_ jx)];erw[MR (h₀:=X.aw) I.ok.mod.xG hk (aZ (ha pos au s O H _ I h) λus s1 #[vs,H1,I1,r,q]=>#[I1.iP,?_]) he gs];erw[Cu F hr hb hd hx I1 r q]
theorem a1P{pl:Sem Bool}(he:PE X o ta)(c:kf X.K C)(hm:Meth X.K C m f)(F:fw X.prog X.w X.K X.mg X.aw CX k f fd ps sp)(hr:dP k X.A)(hb:Binds X.K fd ps ds)(hd:Vals gy ds)(hx:Passes CX X E)(ha:PA X (e::es) t) (nF:autoParam (starEach (e::es) X.env=(false,eval e X.env)::starEach es X.env) r8_._auto_1)(gs:autoParam ((backTo pos (starEach es X.env)).any (·.1)=false) r8_._auto_1) (ht:eval (.Call (.Attribute o m apos) (e::es) [] pos) X.env=(do
 let ov<-eval o X.env
 standAt apos.atName
 let(f,first)<-holding [ov] (getMethod ov m pl)
 callWith pos f first (backTo pos (starEach (e::es) X.env)) (backToKw pos (keywordEach [] X.env))):=by rfl): PE X (.Call (.Attribute o m apos) (e::es) [] pos) (NL C m sp gy E ta t):=by
 intro au s O H Q I h;erw[PySem.W.methodCall_KW (pl:=pl) (aZ (he au s O H _ I h) λu s1 #[x,H1,I1,rx,a,dx,fs,ex,ea,l,q]=>?_) ht];subst ex;obtain rfl:u=Value.ref a:=rx;erw[Vk I1 ea c hm l ?_];erw[MR (first:=[.ref a]) (h₀:=X.aw) I.ok.mod.xG hm.kp (aZ (ha pos au s1 O H1 _ I1 q) λus s2 #[vs,H2,I2,r,q2]=>#[I2.iP,?_]) nF gs];erw[Cu (us:=.ref a::us) (vs:=.ref a::vs) F hr hb hd hx I2 (.cons Z r) q2]
theorem a1O{pl:Sem Bool}(he:PE X o ta)(c:kf X.K C)(hm:Meth X.K C m f)(F:fw X.prog X.w X.K X.mg X.aw CX k f fd ps sp)(hr:dP k X.A)(hb:Binds X.K fd ps ds)(hd:Vals gy ds)(hx:Passes CX X E) (ht:eval (.Call (.Attribute o m apos) [] [] pos) X.env=(do
 let ov<-eval o X.env
 standAt apos.atName
 let(f,first)<-holding [ov] (getMethod ov m pl)
 callWith pos f first (backTo pos (starEach [] X.env)) (backToKw pos (keywordEach [] X.env))):=by rfl): PE X (.Call (.Attribute o m apos) [] [] pos) (NL C m sp gy E ta uk):=by
 intro au s O H Q I h;erw[PySem.W.methodCall_KW (pl:=pl) (aZ (he au s O H _ I h) λu s1 #[x,H1,I1,rx,a,dx,fs,ex,ea,l,q]=>?_) ht];subst ex;obtain rfl:u=Value.ref a:=rx;erw[Vk I1 ea c hm l ?_];erw[PySem.W.callWith_K0 (first:=[.ref a]) I1.iP hm.kp (Cu (us:=[.ref a]) (vs:=[.ref a]) F hr hb hd hx I1 (.cons rfl .nil) q)]
structure Mk(K:aa)(C f:Addr):Prop where
 makes:PySem.W.makesIn K C=true
 init:PySem.W.findIn K (.ref C) "__init__"=some (some (.ref f))
 fn:PySem.W.isFn K (.ref f)=true
 kp:PySem.W.keepIn K (.ref C)=true
theorem a0j{au:List (Addr×Obj)}{O:St}{H:Hp}{s:af}{Q:VK}{us:List Value}{vs:List V}(M:Mk X.K C f)(F:fw X.prog X.w X.K X.mg X.aw CX k f fd ps sp)(hr:dP (k+1) X.A)(hb:Binds X.K fd ps ds)(hd:Vals gy ds) (hx:Passes CX X E)(I:Inv X au O H s)(r:Vals vs us) (h:∀x dx,H x=none->H dx=none->dx≠x->sp (.ref x::(vs++gy)) (upd (upd H dx (.own x)) x (.ins C dx [])) (λv H2=>v= .bw/\Q (.ref x) H2) E): wpAny (model X.prog X.w) X.A (call (.ref C) us) (EP X au O Q) X.xe s:=by
 have hq:=h (s.heap.objs.size+1) s.heap.objs.size (I.bX.fresh (Nat.le_succ _)) (I.bX.fresh (bf _)) (eY (XD _));have I2:=Inv.made (C:=C) I;have r2:Vals (V.ref (s.heap.objs.size+1)::(vs++gy)) (Value.ref (s.heap.objs.size+1)::(us++ds)):=.cons Z (r.append hd);have hl:(Value.ref (s.heap.objs.size+1)::us++ds).length=ps.length:=by have e:=r2.length;rw[F.len _ _ _ _ hq]at e;erw[e.symm]
 erw[wpAny_call (a5d (f:=f) I.iP M.makes M.init (fL.mp M.fn) (yn (F.run _ X.stack _ _ #[Value.ref (s.heap.objs.size+1)::us,[]] (Value.ref (s.heap.objs.size+1)::(us++ds)) _ _ E (hr.make C us []) (I2.VJ.make C us []) (hb _ (Value.ref (s.heap.objs.size+1)::us) I2.iP hl) r2 hq) λr s' oZ=>?_))];cases r with |error e=>erw[hx au O _ _ e s' I2 oZ] |ok fl=>cases fl with |ret u=>let(v,H',I3,rv,ev,q3):=I2.after oZ;subst ev;erw[rv,#[V.ref (s.heap.objs.size+1),H',I3,Z,q3]] |next=>erw[False.elim oZ] |brk=>erw[False.elim oZ] |cont=>erw[False.elim oZ]
theorem a1Q(M:Mk X.K C f)(F:fw X.prog X.w X.K X.mg X.aw CX k f fd ps sp)(hr:dP (k+1) X.A)(hg:Gl X x)(hm:X.mg x=some (.ref C))(hb:Binds X.K fd ps ds)(hd:Vals gy ds)(hx:Passes CX X E) (ha:PA X (e::es) t)(jx:autoParam ((x==("__debug__":Str))=false) q8_._auto_1)(he:autoParam (starEach (e::es) X.env=(false,eval e X.env)::starEach es X.env) r8_._auto_1)(gs:autoParam ((backTo pos (starEach es X.env)).any (·.1)=false) r8_._auto_1): PE X (.Call (.Name x p) (e::es) [] pos) (Z8 C sp gy E t):=by intro au s O H Q I h;erw[EE (zY I hg hm ?_ jx)];erw[MR (h₀:=X.aw) I.ok.mod.xG M.kp (aZ (ha pos au s O H _ I h) λus s1 #[vs,H1,I1,r,q]=>#[I1.iP,?_]) he gs];erw[a0j M F hr hb hd hx I1 r q]
end
section
variable {X:Cx}{CX:kg}{k:Nat}{f C:Addr}{fd:FuncData}{ps ks:List Str}{sp:Sp}{E:XK}{x m:Str}{p pos apos agf:Pos}{e o:Expr}{es:List Expr}{kws:List Keyword}{te ta:TE}{t tk:TA}{nm:Option Str}
variable {g:List Value->List Value->List Value}{gV:List V->List V->List V}
end
structure bo(N P:List Str)(sc:Scope):Prop where
 kind:sc.kind= .function
 co:sc.isCoroutine=false
 gen:sc.isGenerator=false
 nd:N.Nodup
 pre:N.take P.length=P
 par:∀x∈P,sc.names.lookup x=some .local\/sc.names.lookup x=some .cell
 a4A:∀y∈sc.names,y.2≠ .free
theorem WG{kindOf:Str->Option NameKind}{x:Str}:∀{binds:List (Str×Value)}{m:ck},(∀v,(x,v)∉binds)->bindL kindOf binds m x=m x
 |[],_,_=>rfl |(n,v)::r,m,h=>by
  unfold bindL;rw[WG λw hw=>h w (yw _ hw)];split
  ·have:x≠n:=by rintro rfl;erw[h v N4]
   simp[this]
  ·rfl
theorem WI{kindOf:Str->Option NameKind}{x:Str}:∀{binds:List (Str×Value)}{m:ck},(∀v,(x,v)∉binds)->bindC kindOf binds m x=m x
 |[],_,_=>rfl |(n,v)::r,m,h=>by
  unfold bindC;rw[WI λw hw=>h w (yw _ hw)];split
  ·rfl
  ·have:x≠n:=by rintro rfl;erw[h v N4]
   simp[this]
theorem WH{kindOf:Str->Option NameKind}{x:Str}{v:Value}:∀{P:List Str}{vs:List Value}{i:Nat}{m:ck},P.Nodup->P[i]? =some x->vs[i]? =some v->kindOf x=some .local->bindL kindOf (P.zip vs) m x=some v |[],_,_,_,_,h,_,_=>by simp at h |_::_,[],_,_,_,_,h,_=>by simp at h |p::P,w::vs,0,m,nd,h1,h2,hk=>by simp at h1 h2;subst h1;subst h2;show bindL kindOf ((p,w)::P.zip vs) m p=_;unfold bindL;rw[WG λv hv=>(N3.mp nd).1 (EO hv).1,bc hk];simp |p::P,w::vs,i+1,m,nd,h1,h2,hk=>by show bindL kindOf ((p,w)::P.zip vs) m x=_;unfold bindL;erw[WH (i:=i) (N3.mp nd).2 (by simpa using h1) (by simpa using h2) hk]
theorem WJ{kindOf:Str->Option NameKind}{x:Str}{v:Value}:∀{P:List Str}{vs:List Value}{i:Nat}{m:ck},P.Nodup->P[i]? =some x->vs[i]? =some v->kindOf x≠some .local->bindC kindOf (P.zip vs) m x=some v |[],_,_,_,_,h,_,_=>by simp at h |_::_,[],_,_,_,_,h,_=>by simp at h |p::P,w::vs,0,m,nd,h1,h2,hk=>by simp at h1 h2;subst h1;subst h2;show bindC kindOf ((p,w)::P.zip vs) m p=_;unfold bindC;rw[WI λv hv=>(N3.mp nd).1 (EO hv).1,bj hk];simp |p::P,w::vs,i+1,m,nd,h1,h2,hk=>by show bindC kindOf ((p,w)::P.zip vs) m x=_;unfold bindC;erw[WJ (i:=i) (N3.mp nd).2 (by simpa using h1) (by simpa using h2) hk]
def start(N:List Str)(vs:List V):St:=vs.map some++List.replicate (N.length-vs.length) none
def mQ(CX:kg)(P:ag)(w:World)(K:aa)(mg:ck)(aw:Heap)(N:List Str)(qual:Str)(scope:Scope)(f:Addr)(cd:Value)(A:ai)(outer:List Env)(s:af)(H:Hp)(E:XK):Cx where
 prog:=P
 w:=w
 K:=K
 mg:=mg
 aw:=aw
 A:=A.deeper (envOfC qual scope s.heap.objs.size f cd)
 N:=N
 s₀:=s
 H₀:=H
 env:=envOfC qual scope s.heap.objs.size f cd
 outer:=outer
 stack:=envOfC qual scope s.heap.objs.size f cd::outer
 ex:=[]
 calm:=true
 fn:=λ_=>true
 pn:=[]
 xe:=λe s'=>wpAny (model P w) (A.deeper (envOfC qual scope s.heap.objs.size f cd)) (leaving (envOfC qual scope s.heap.objs.size f cd) e) (λ_ IE=>CX outer H s E e IE) (λe' IE=>CX outer H s E e' IE) s'
theorem Ww{sc:Scope}{n:Nat}{x:Str}(h:sc.names.lookup x=some .cell):∃c,(cellsFrom n sc.names []).lookup x=some c:=by have q:=PySem.W.cellsFrom_some sc.names n [] (.inl h);erw[Option.isSome_iff_exists.mp q]
theorem a6k{CX:kg}{P:ag}{w:World}{K:aa}{mg:ck}{aw:Heap}{N ps:List Str}{qual:Str}{scope:Scope}{f:Addr}{cd:Value}{A:ai}{outer:List Env}{s s1:af}{H:Hp}{E:XK}{us:List Value}{vs:List V} (S:bo N ps scope)(hd:A.handled=none)(e0:w6 P w K mg aw A outer s H)(hl:vs.length=ps.length)(r:Vals vs us) (x:InCallC s s.heap.objs.size (bindL (envOfC qual scope s.heap.objs.size f cd).kindOf (ps.zip us) λ_=>none) (cellsFrom (s.heap.objs.size+1) scope.names []) (bindC (envOfC qual scope s.heap.objs.size f cd).kindOf (ps.zip us) λ_=>none) s1): Inv (mQ CX P w K mg aw N qual scope f cd A outer s H E) [] (start N vs) H s1:=by
 have gs:ps.length<=N.length:=by have:=lA List.length S.pre;rw[uc]at this;lia
 let(h1,tk,rfl,hk):=x.done;have zO:∀b:Addr,b∉(mQ CX P w K mg aw N qual scope f cd A outer s H E).ex:=λb z=>absurd (show b∈([]:List Addr)from z) (by simp);erw[#[e0.mod,S.kind,Z,Z,bf _,λy z c h1 h2=>?_,λy hy=>?_,λy c _ h=>?_,λ_=>hd,Around.frames_deeper e0.frames,.inr #[Z,Z],λb z=>absurd z (zO b),e0.bs,e0.pE,λb _ _=>zO b,λb z=>absurd z (zO b),e0.lS,e0.tE],rfl,e0.bare,Un.kept hk,#[_,x.toInCall.ns,λi y v h1 h2 h3=>?_],λy c h=>#[_,x.cell y c h],e0.bX.fresh (bf _),λy c h=>?_,λp hp=>absurd (show p∈([]:List (Addr×Obj))from hp) (by simp),e0.bX.kept hk,?_]
 ·erw[name_of_addr x.apart (EJ h1) (EJ h2)]
 ·have hy:scope.names.lookup y=some .cell\/scope.names.lookup y=some .free:=hy
  rcases hy with hy|hy
  ·erw[Ww hy]
  ·erw[absurd Z (S.a4A _ (EJ hy))]
 ·erw[N0 (x.above y c (EJ h))]
 ·have hi:i<vs.length:=by
   unfold start at h2;by_cases hi:i<vs.length
   ·erw[hi]
   ·rw[ow (by simpa using hi)]at h2
    rw[List.getElem?_replicate]at h2;split at h2<;>cases h2
  have ha:vs[i]? =some v:=by unfold start at h2;rw[oz (by simpa using hi),bP]at h2;cases e:vs[i]? with |none=>rw[e]at h2;cases h2 |some a=>rw[e]at h2;cases h2;rfl
  let(u,hu,rv):=r.get ha;have hp:ps[i]? =some y:=by rw[<-S.pre,List.getElem?_take_of_lt ao];erw[h1]
  have Tj:ps.Nodup:=by rw[<-S.pre];erw[S.nd.sublist (List.take_sublist _ _)]
  erw[u,rv,?_];rcases S.par y (fR hp)with k|k
  ·erw[.inl #[k,WH Tj hp hu k]]
  ·let(c,e):=Ww (n:=s.heap.objs.size+1) k
   erw[.inr #[.inl k,c,e,?_]];have q:=x.cell y c e;rw[WJ Tj hp hu (by show scope.names.lookup y≠_;rw[k];decide)]at q;erw[q]
 ·erw[e0.bX.fresh (N0 (x.above y c (EJ h)))]
 ·unfold start
  show _=N.length;rw[cD,ba,List.length_replicate]
  lia
theorem Vx{CX:kg}{P:ag}{w:World}{K:aa}{mg:ck}{aw:Heap}{k:Nat}{f:Addr}{name qual:Str}{params:Arguments}{body:List Stmt}{scope:Scope}{dV kV doc pm aL ct oc:Value}{an od:Option Addr} {j8:Array (Option Value)}{N ps:List Str}{sp:Sp}(lk:K.lookup f=some #[oc,od,.func (PySem.W.fnOf name qual params body scope dV kV doc pm an aL ct),j8])(jS:PySem.W.codeIn K aL qual=true)(S:bo N ps scope) (len:∀vs H Q E,sp vs H Q E->vs.length=ps.length) (lR:∀(A:ai)(outer:List Env)(s:af)(H:Hp)(vs:List V)(Q:VK)(E:XK),dP k (A.deeper (envOfC qual scope s.heap.objs.size f aL))->sp vs H Q E->∃t,iU (mQ CX P w K mg aw N qual scope f aL A outer s H E) body t/\t {nx:=λ_ H'=>Q .bw H',rt:=Q} (start N vs) H): fw P w K mg aw CX (k+1) f (PySem.W.fnOf name qual params body scope dV kV doc pm an aL ct) ps sp:=by
 erw[len,λA outer s H args us vs Q E hr e0 hb r lQ=>?_];have hl:=len _ _ _ _ lQ;have KX:K.In s.heap:=e0.mod.xG.keeps λb o e=>(e0.bs b o e).1;have lim:s.heap.NoLimit:=e0.mod.nolimit.keeps λb o e=>(e0.bs b o e).1;have mH:∀y∈ps.zip us,scope.names.lookup y.1=some .local\/(scope.names.lookup y.1=some .cell/\((cellsFrom (s.heap.objs.size+1) scope.names []).lookup y.1).isSome=true):=λ#[n,v] hy=>by
  rcases S.par n (EO hy).1 with q|q
  ·erw[.inl q]
  ·erw[.inr #[q,PySem.W.cellsFrom_some _ _ _ (.inl q)]]
 erw[codeAny_call_function hr.depth (KX _ _ lk) Z S.co S.gen Z (PySem.W.codeRec_of KX jS) (hb _ _ _ _ ?_)];erw[wpAny_newFunctionEnv_cells S.kind mH λenv he s1 x=>?_];subst he;erw[lim.keeps x.toInCall.keep,codeAny_func ?_];let(t,ht,hq):=lR A outer s H vs Q E (hr.deeper _) lQ;have I:Inv (mQ CX P w K mg aw N qual scope f aL A outer s H E) [] (start N vs) H s1:=a6k S hr.hd e0 hl r x;erw[gI (ht [] s1 (start N vs) H _ I hq) (λfl s' hs=>?_) λe s' hs=>hs];have fin:∀{σ':St}{H':Hp}{v:V}{u:Value},Inv (mQ CX P w K mg aw N qual scope f aL A outer s H E) [] σ' H' s'->RelV v u->Q v H'->CE outer P w H s Q u s':=λ{σ' H' v u} J rv q=>#[v,H',J.os,J.bare,J.aw,J.bX,rv,q];cases fl with |ret u=>let(v,σ',H',J,rv,q):=hs;erw[fin J rv q] |next=>let(σ',H',J,q):=hs;erw[fin (v:=V.bw) (u:=Value.none) J Z q] |brk=>let(_,_,_,q):=hs;erw[False.elim q] |cont=>let(_,_,_,q):=hs;erw[False.elim q]
section
variable {X:Cx}{x:Str}{p pos:Pos}{e:Expr}{es:List Expr}{t:TA}{id T:String}{r:List V->Hp->VK->Prop}
def C1(r:List V->Hp->VK->Prop)(t:TA):TE:=λO H Q=>t O H λvs H1=>r vs H1 Q
theorem fG(hc:fD X (.builtin id) r)(hg:Gl X x)(hm:X.mg x=none)(hv:bootBuiltins x=some (.builtin id))(ha:PA X (e::es) t)(hn:autoParam (x≠"__name__") q8_._auto_1)(jx:autoParam ((x==("__debug__":Str))=false) q8_._auto_1) (he:autoParam (starEach (e::es) X.env=(false,eval e X.env)::starEach es X.env) r8_._auto_1)(gs:autoParam ((backTo pos (starEach es X.env)).any (·.1)=false) r8_._auto_1):PE X (.Call (.Name x p) (e::es) [] pos) (C1 r t):=by intro au s O H Q I h;erw[EE (sF I hg hm hv ?_ hn jx)];erw[PyProof.Rows.callWith_builtin1 (aZ (ha pos au s O H _ I h) λus s1 #[vs,H1,I1,r1,q1]=>hc au s1 O H1 vs us Q I1 r1 q1) he gs]
theorem dh(hc:fD X (.type T) r)(hg:Gl X x)(hm:X.mg x=none)(hv:bootBuiltins x=some (.type T))(ha:PA X (e::es) t)(hn:autoParam (x≠"__name__") q8_._auto_1)(jx:autoParam ((x==("__debug__":Str))=false) q8_._auto_1) (he:autoParam (starEach (e::es) X.env=(false,eval e X.env)::starEach es X.env) r8_._auto_1)(gs:autoParam ((backTo pos (starEach es X.env)).any (·.1)=false) r8_._auto_1):PE X (.Call (.Name x p) (e::es) [] pos) (C1 r t):=by intro au s O H Q I h;erw[EE (sF I hg hm hv ?_ hn jx)];erw[Bp (aZ (ha pos au s O H _ I h) λus s1 #[vs,H1,I1,r1,q1]=>hc au s1 O H1 vs us Q I1 r1 q1) he gs]
end
end _L
namespace _H
open PySem PyProof.Rows
section
open PySem.SeqAt
open PySem.AutoSeq1 (wpAny_loadPart')
open PySem.MeetsSeq PySem.MeetsSeq2 PySem.MeetsSeq3
end
section
variable {prog:ag}{w:World}{A:ai}{E:Value->af->Prop}{s:af}
theorem abZ{t b:Addr}{vs ws:List Value}{Q:Value->af->Prop}(ht:IsTup s.heap t vs.toArray)(hb:IsTup s.heap b ws.toArray)(hv:vs≠[]) (h1:ws=[]->Q (.ref t) s)(h2:ws≠[]->Q (.ref s.heap.objs.size) {s with heap:=s.heap.push {cls:=.type "tuple",data:=.seq (vs++ws).toArray}}) (hsz:vs.length+ws.length<=sizeLine):wpAny (model prog w) A (binaryOp .Add (.ref t) (.ref b)) Q E s:=by
 let((cls,dd,data,sl),ho,hc,n,hd):=id ht;let((Wu,xV,data2,sl2),p4,jT,n2,hd2):=id hb;simp only at hc hd jT hd2;subst hc hd jT hd2;have e:vs.toArray++ws.toArray=(vs++ws).toArray:=by simp
 by_cases hw:ws=[]
 ·erw[concat_meets #[_,ho,Z] #[_,p4,Z] noFill_tuple_add seq_tuple_add Xv Xx (Xy _ _) (tuple_addW1 t b vs.toArray ws.toArray n n2 dd xV sl sl2 (by simpa using hv) (by simp[hw])) #[ho,p4,h1 hw]]
 ·erw[concat_meets #[_,ho,Z] #[_,p4,Z] noFill_tuple_add seq_tuple_add Xv Xx (Xy _ _) (tuple_addW2 t b vs.toArray ws.toArray n n2 dd xV sl sl2 (by simpa using hv) (by simpa using hw) (by rw[eP,eP];erw[hsz])) #[ho,p4,?_]];rw[e];erw[h2 hw]
def cC(n d:Nat):Option Int->Nat |none=>d |some v=>if v<0 then(v+(n:Int)).toNat else min v.toNat n
theorem QX (n d:Nat):cC n d none=d:=rfl
theorem QY(n d k:Nat):cC n d (some (k:Int))=min k n:=by show(if(k:Int)<0 then((k:Int)+(n:Int)).toNat else min (k:Int).toNat n)=min k n;rw[bj ao,XR]
theorem a0b(n d:Nat)(hd:d<=n)(o:Option Int):cC n d o<=n:=by cases o with |none=>erw[hd] |some v=>
 show(if v<0 then(v+(n:Int)).toNat else min v.toNat n)<=n;by_cases hv:v<0
 ·rw[bc hv];lia
 ·rw[bj hv];erw[Nat.min_le_right _ _]
theorem M6(v:Int)(n d:Nat):(if v<0 then max (v+(n:Int)) 0 else min v (n:Int))=((cC n d (some v):Nat):Int):=by
 show(if v<0 then max (v+(n:Int)) 0 else min v (n:Int))=(((if v<0 then(v+(n:Int)).toNat else min v.toNat n):Nat):Int);by_cases hv:v<0
 ·simp only[bc hv];lia
 ·simp only[bj hv];lia
theorem acL(lo hi:Option Int)(n:Nat):Builtin.Slice.sliceAdjust lo hi 1 (n:Int)=(((cC n 0 lo:Nat):Int),((cC n n hi:Nat):Int)):=by
 have h1:¬((1:Int)<0):=by lia
 unfold Builtin.Slice.sliceAdjust;simp only[h1,if_false];erw[Prod.ext ?_ ?_]
 ·cases lo with |none=>rfl |some v=>erw[M6 v n 0]
 ·cases hi with |none=>rfl |some v=>erw[M6 v n n]
theorem a1G(i j:Nat):Builtin.Slice.slicePlaces (i:Int) (j:Int) 1=j-i:=by
 unfold Builtin.Slice.slicePlaces;have h1:(1:Int)>0:=by lia
 simp only[h1,we,Int.ediv_one];split<;>lia
theorem OW{v:Value}{o:Option Int}{Q:Option Int->af->Prop}(p:IsPart v o)(h:Q o s):wpAny (model prog w) A (Builtin.Slice.slicePartIndex v) Q E s:=by cases p with |none=>erw[slicePart_none h] |int i t=>erw[slicePart_int h]
theorem ZL{sl:Addr}{vl vu:Value}{lo hi:Option Int}{n:Nat}{Q:Int×Int×Nat->af->Prop}(hs:s.heap.IsSliceOf sl vl vu .none)(pl:IsPart vl lo)(pu:IsPart vu hi) (h:Q (((cC n 0 lo:Nat):Int),1,cC n n hi-cC n 0 lo) s):wpAny (model prog w) A (Builtin.Slice.sliceApplied (.ref sl) (pure (n:Int))) Q E s:=by let(os,kU,p8,tq):=id hs;unfold Builtin.Slice.sliceApplied Builtin.Slice.sliceFields;erw[aM (aM (ki kU tq (x:=vl) Z (aM (ki kU tq (x:=vu) Z (aM (ki kU tq (x:=.none) Z (cn ?_)))))))];erw[aM (slicePart_none ?_)];show wpAny _ _ (if((1:Int)==0)=true then _ else _) _ _ s;rw[bj az];erw[aM (OW pl (aM (OW pu (aM (cn ?_)))))];show wpAny _ _ (match Builtin.Slice.sliceAdjust lo hi 1 (n:Int)with|(lo,hi)=>pure (lo,(1:Int),Builtin.Slice.slicePlaces lo hi 1)) _ _ s;rw[acL lo hi n];show wpAny _ _ (pure (((cC n 0 lo:Nat):Int),(1:Int),Builtin.Slice.slicePlaces ((cC n 0 lo:Nat):Int) ((cC n n hi:Nat):Int) 1)) _ _ s;rw[a1G];erw[cn h]
theorem a1J(xs:Array Value)(i k:Nat):((List.range k).filterMap λ(m:Nat)=>xs[((i:Int)+(m:Int)*1).toNat]?).toArray=((xs.toList.drop i).take k).toArray:=by
 have e:(λ(m:Nat)=>xs[((i:Int)+(m:Int)*1).toNat]?)=λm=>xs[i+m]?:=by
  funext m;have:((i:Int)+(m:Int)*1).toNat=i+m:=by lia
  rw[this]
 rw[e];have:=pick_run xs i k;rw[List.filterMap_map]at this;have e2:((λx=>xs[x]?)∘λx=>i+x)=λm=>xs[i+m]?:=rfl;rw[e2]at this;rw[this]
theorem a96{t sl:Addr}{items:Array Value}{vl vu:Value}{lo hi:Option Int}{Q:Value->af->Prop}(ht:IsTup s.heap t items)(hs:s.heap.IsSliceOf sl vl vu .none)(pl:IsPart vl lo)(pu:IsPart vu hi) (hw:¬(cC items.size 0 lo=0/\cC items.size items.size hi=items.size)) (h:Q (.ref s.heap.objs.size) {s with heap:=s.heap.push {cls:=.type "tuple",data:=.seq ((items.toList.drop (cC items.size 0 lo)).take (cC items.size items.size hi-cC items.size 0 lo)).toArray}}) (hsz:items.size<=sizeLine):wpAny (model prog w) A (getItem (.ref t) (.ref sl)) Q E s:=by
 have DD:sizeOk (.seq ((items.toList.drop (cC items.size 0 lo)).take (cC items.size items.size hi-cC items.size 0 lo)).toArray):=by show((items.toList.drop (cC items.size 0 lo)).take (cC items.size items.size hi-cC items.size 0 lo)).toArray.size<=sizeLine;rw[eP,uc,Bv,BC];omega
 have hj:cC items.size items.size hi<=items.size:=a0b _ _ (bf _) hi;let(os,kU,p8,tq):=id hs;have hTs:s.TypeIs (.ref sl) "slice":=#[os,kU,p8];unfold getItem
 try with_reducible erw[u6 ?_]
 first|erw[aM (cn ?_)]|skip
 erw[aM (wpAny_sequenceKey ht.typeIs az ?_)];erw[aM (ED (name:=Str.ofString "__getitem__") ht.typeIs Xz (EC Xz ht.typeIs entry_tuple_getitem ?_ (args_tuple_getitem _ _)))];show wpAny _ _ (Builtin.Tuple.tupleItemsOf (.ref t)>>=_) _ _ s;erw[aM (tupleItemsOf_ ht ?_)];erw[aM (wpAny_typeOf hTs ?_)];rw[bc az];erw[aM (ZL hs pl pu ?_)];have p5:¬((((cC items.size 0 lo:Nat):Int)==0&&(1:Int)==1&&(cC items.size items.size hi-cC items.size 0 lo)==items.size)=true):=by intro q;rw[fz,fz]at q;have q1:((cC items.size 0 lo:Nat):Int)=0:=eq_of_beq q.1.1;have q2:cC items.size items.size hi-cC items.size 0 lo=items.size:=eq_of_beq q.2;erw[hw #[aO,aO]]
 show wpAny _ _ (if(((cC items.size 0 lo:Nat):Int)==0&&(1:Int)==1&&(cC items.size items.size hi-cC items.size 0 lo)==items.size)=true then _ else _) _ _ s;rw[bj p5,a1J]
 first |erw[aM (m:=Builtin.Tuple.tupleExact _) (pL (cn #[_,Z,cn h]) DD)] |erw[aM (m:=Builtin.Tuple.tupleExact _) (pL (aM (cn (cn #[_,Z,cn h]))) DD)] |erw[aM (aM (m:=Builtin.Tuple.tupleExact _) (pL (cn (cn #[_,Z,cn h])) DD))] |erw[aM (aM (m:=Builtin.Tuple.tupleExact _) (pL (cn #[_,Z,cn h]) DD))]
end
end _H
namespace _L
open PySem PySem.Spec PyProof.Rows
abbrev TO:=St->Hp->(Option Int->Hp->Prop)->Prop
def PO(X:Cx)(e:Option Expr)(t:TO):Prop:=∀(au:List (Addr×Obj))(s:af)(O:St)(H:Hp)(Q:Option Int->Hp->Prop),Inv X au O H s->t O H Q->wpAny (model X.prog X.w) X.A (evalPart e X.env) (λu s'=>∃o H',Inv X au O H' s'/\IsPart u o/\Q o H') X.xe s
def Z4:TO:=λ_ H Q=>Q none H
inductive ad7(Q:Option Int->Hp->Prop)(x:V)(H1:Hp):Prop |mk (i:_)(h0:x= .int i)(h1:Q (some i) H1)
def YY(t:TE):TO:=λO H Q=>t O H λx H1=>ad7 Q x H1
section
variable {X:Cx}{e:Expr}{te:TE}{lo hi:Option Expr}{tl th:TO}{pos p2:Pos}
theorem zq:PO X none Z4:=by intro au s O H Q I h;rw[evalPart_none];erw[cn #[none,H,I,.none,h]]
theorem zp(h:PE X e te):PO X (some e) (YY te):=by intro au s O H Q I hw;rw[evalPart_some];erw[aZ (h au s O H _ I hw) λu s1 #[x,H1,I1,r1,q1]=>?_];let(i,rfl,q):=q1;let(t,rfl):=r1;erw[some i,H1,I1,.int i t,q]
def Eo(X:Cx)(r:V->Option Int->Option Int->Hp->VK->Prop):Prop:=∀(au:List (Addr×Obj))(s:af)(O:St)(H:Hp)(x:V)(v vl vu:Value)(lo hi:Option Int)(sl:Addr)(Q:VK),Inv X au O H s->RelV x v->s.heap.IsSliceOf sl vl vu .none->IsPart vl lo->IsPart vu hi->r x lo hi H Q->∃T id,typeLookup (.type T) "__getitem__"=pure (some (.builtin id))/\s.TypeIs v T/\wpAny (model X.prog X.w) X.A (getItem v (.ref sl)) (EP X au O Q) X.xe s
def YW(r:V->Option Int->Option Int->Hp->VK->Prop)(te:TE)(tl th:TO):TE:=λO H Q=>te O H λx H1=>tl O H1 λl H2=>th O H2 λu H3=>r x l u H3 Q
theorem zv{r:V->Option Int->Option Int->Hp->VK->Prop}(hr:Eo X r)(he:PE X e te)(hl:PO X lo tl)(hu:PO X hi th):PE X (.Subscript e (.Slice lo hi none p2) pos) (YW r te tl th):=by intro au s O H Q I h;erw[Subscript_ (aZ (he au s O H _ I h) λv s1 #[x,H1,I1,r1,q1]=>?_)];erw[wpAny_Slice (aZ (hl au s1 O H1 _ I1 q1) λvl s2 #[l,H2,I2,pl,q2]=>aZ (hu au s2 O H2 _ I2 q2) λvu s3 #[u,H3,I3,pu,q3]=>?_)];rw[evalPart_none];erw[cn ?_];have I4:Inv X au O H3 {s3 with heap:=s3.heap.push {cls:=.type "slice",data:=.fields (List.toArray [vl,vu,.none])}}:=I3.kept (t':=s3.toks) λb ob q=>cN _ q;let(T,id,hT,ht,hg):=hr au {s3 with heap:=s3.heap.push {cls:=.type "slice",data:=.fields (List.toArray [vl,vu,.none])}} O H3 x v vl vu l u s3.heap.objs.size Q I4 r1 (Heap.IsSliceOf.new ..) pl pu q3;show wpAny (model X.prog X.w) X.A (subscriptTail e (.Slice lo hi none p2) v (.ref s3.heap.objs.size)) (EP X au O Q) X.xe {s3 with heap:=s3.heap.push {cls:=.type "slice",data:=.fields (List.toArray [vl,vu,.none])}};erw[tail_any (ops:=[.ref s3.heap.objs.size,v]) ht hT hg (by with_unfolding_all rfl)]
def lX(xs:List V)(lo hi:Option Int):List V:=(xs.drop (_H.cC xs.length 0 lo)).take (_H.cC xs.length xs.length hi-_H.cC xs.length 0 lo)
theorem Wm(xs:List V)(lo hi:Option Int):(lX xs lo hi).length<=xs.length:=by
 unfold lX;rw[uc,Bv]
 lia
inductive aeI(K:aa)(x:V)(lo:Option Int)(hi:Option Int)(H:Hp)(Q:VK):Prop |mk (a:_)(xs:_)(h0:x= .ref a)(h1:aW K H a xs)(h2:¬(_H.cC xs.length 0 lo=0/\_H.cC xs.length xs.length hi=xs.length))(h3:∀p,H p=none->Q (.ref p) (upd H p (.tup (lX xs lo hi))))
def a1a(K:aa):V->Option Int->Option Int->Hp->VK->Prop:=λx lo hi H Q=>aeI K x lo hi H Q
theorem ZM:Eo X (a1a X.K):=by
 intro au s O H x v vl vu lo hi sl Q I rx hs pl pu h;let(a,xs,rfl,hx,hw,q):=h;cases rx;let(its,r,ht,hz):=I.tuple hx;have hlen:its.toArray.size=xs.length:=by rw[eP];erw[r.length.symm]
 erw["tuple",_,Xz.lookup,ht.typeIs,?_];erw[_H.a96 ht hs pl pu (by rw[hlen];erw[hw]) ?_ (by rw[hlen];erw[hz])];rw[hlen];erw[.ref s.heap.objs.size,_,I.laid (t':=s.toks) (o:=.tup (lX xs lo hi)) (λb ob q=>cN _ q) (bf _) ?_,Z,q _ (I.bX.fresh (bf _))];erw[iK (Wm xs lo hi) hz,_,(r.drop (_H.cC xs.length 0 lo)).take (_H.cC xs.length xs.length hi-_H.cC xs.length 0 lo),IsTup.new _ _]
theorem Vals.JI{xs:List V}{us:List Value}(r:Vals xs us):us=[]↔xs=[]:=by cases r with |nil=>simp |cons _ _=>simp
end
def jv(n:Nat)(i:Int):Option Nat:=if 0<=i then(if i<n then some i.toNat else none)else if-(n:Int)<=i then some (i+n).toNat else none
def fc{α:Type}(xs:List α)(i:Int):Option α:=(jv xs.length i).bind λj=>xs[j]?
theorem Uu{n:Nat}{i:Int}{j:Nat}(h:jv n i=some j):seqIndex? i n=some j/\j<n/\-(n:Int)<=i/\i<n:=by
 unfold jv at h;by_cases h0:0<=i
 ·rw[bc h0]at h
  by_cases h1:i<n
  ·rw[bc h1]at h
   have e:i.toNat=j:=eX h;erw[by rw[seqIndex_of h0 h1,e],ao,ao,h1]
  ·rw[bj h1]at h;cases h
 ·rw[bj h0]at h
  by_cases h1:-(n:Int)<=i
  ·rw[bc h1]at h
   have e:(i+n).toNat=j:=eX h;erw[by rw[seqIndex_neg ao h1,e],ao,h1,ao]
  ·rw[bj h1]at h;cases h
theorem Ml{α:Type}{xs:List α}{i:Int}{v:α}(h:fc xs i=some v):∃j,seqIndex? i xs.length=some j/\xs[j]? =some v/\j<xs.length/\-(xs.length:Int)<=i/\i<xs.length:=by unfold fc at h;cases e:jv xs.length i with |none=>rw[e]at h;cases h |some j=>rw[e]at h;let(h1,h2,h3,h4):=Uu e;erw[j,h1,h,h2,h3,h4]
theorem acC{α:Type}{xs:List α}{j:Nat}{v:α}(h:xs[j]? =some v):fc xs (j:Int)=some v:=by
 have hj:j<xs.length:=(cJ.mp h).1;have e:jv xs.length (j:Int)=some j:=by unfold jv;rw[bc ao,bc ao];simp
 unfold fc;rw[e];erw[h]
def Xf(b:Expr):Prop:=∀o i,subscripted b false o i=operate [o,i] (getItem o i)
def qX(X:Cx)(r:R2):Prop:=∀(value slice:Expr)(au:List (Addr×Obj))(s:af)(O:St)(H:Hp)(x y:V)(v u:Value)(Q:VK),Inv X au O H s->RelV x v->RelV y u->r x y H Q->subscripted slice false v u=operate [v,u] (getItem v u)->wpAny (model X.prog X.w) X.A (subscriptTail value slice v u) (EP X au O Q) X.xe s
def Ey(X:Cx)(id:String)(r:V->List V->Hp->VK->Prop):Prop:=∀(au:List (Addr×Obj))(s:af)(O:St)(H:Hp)(x:V)(xs:List V)(v:Value)(us:List Value)(Q:VK),Inv X au O H s->RelV x v->Vals xs us->r x xs H Q->wpAny (model X.prog X.w) X.A (call (.builtin id) (v::us)) (EP X au O Q) X.xe s
section
variable {X:Cx}{a b:Expr}{ta tb:TE}{pos:Pos}
theorem qX.or{r r':R2}(h:qX X r)(h':qX X r'):qX X (λx y H Q=>r x y H Q\/r' x y H Q):=by
 intro value slice au s O H x y v u Q I rx ry q hs;rcases q with q|q
 ·erw[h value slice au s O H x y v u Q I rx ry q hs]
 ·erw[h' value slice au s O H x y v u Q I rx ry q hs]
theorem Jl{r:R2}(hr:qX X r)(ha:PE X a ta)(hb:PE X b tb)(hs:Xf b):PE X (.Subscript a b pos) (yN r ta tb):=by intro au s O H Q I h;erw[Subscript_ (Md ha hb I h λv u s2 x y H2 I2 rx ry q=>hr a b au s2 O H2 x y v u Q I2 rx ry q (hs _ _))]
inductive aeS(K:aa)(x:V)(y:V)(H:Hp)(Q:VK):Prop |mk (p:_)(xs:_)(i:_)(v:_)(h0:x= .ref p)(h1:y= .int i)(h2:aF K H p xs)(h3:fc xs i=some v)(h4:Q v H)
def Ja(K:aa):R2:=λx y H Q=>aeS K x y H Q
inductive aeQ(K:aa)(x:V)(y:V)(H:Hp)(Q:VK):Prop |mk (p:_)(xs:_)(i:_)(v:_)(h0:x= .ref p)(h1:y= .int i)(h2:aW K H p xs)(h3:fc xs i=some v)(h4:Q v H)
def J9(K:aa):R2:=λx y H Q=>aeQ K x y H Q
inductive aeR(x:V)(y:V)(H:Hp)(Q:VK):Prop |mk (z:_)(i:_)(c:_)(h0:x= .str z)(h1:y= .int i)(h2:z.length<=sizeLine)(h3:fc z.cps.toList i=some c)(h4:Q (.str ⟨#[c]⟩) H)
def a1g:R2:=λx y H Q=>aeR x y H Q
theorem a6a:qX X (Ja X.K):=by
 intro value slice au s O H x y v u Q I rx ry h hs;let(p,xs,i,z,rfl,rfl,hq,he,q):=h;cases rx;let(t,rfl):=ry;let(its,r,pl,hz):=I.list hq;let(j,h1,h2,h3,h4,h5):=Ml he;let(w,ew,pX):=r.get h2;have hl:=r.length;have hn:=uX;have fin:EP X au O Q w s:=#[z,H,I,pX,q];by_cases h0:0<=i
 ·have hj:i.toNat=j:=by rw[seqIndex_of h0 h5]at h1;erw[eX h1]
  erw[item_listR pl.isList h0 ao (by rw[hj];simpa using ew) fin hs]
 ·have hj:(i+(its.toArray.size:Int)).toNat=j:=by rw[seqIndex_neg ao h4]at h1;rw[eP,<-hl];erw[eX h1]
  erw[subscriptTail_builtinR (x:=w) pl.isList.typeIs slot_list_getitem.lookup (wpAny_getItem_list_neg (Q:=λr s'=>r=w/\EP X au O Q r s') pl.isList ao (by rw[eP]<;>lia) ao (by rw[hj];simpa using ew) #[Z,fin]) hs]
theorem a69:qX X (J9 X.K):=by intro value slice au s O H x y v u Q I rx ry h hs;let(p,xs,i,z,rfl,rfl,hq,he,q):=h;cases rx;let(t,rfl):=ry;let(its,r,pl,hz):=I.tuple hq;let(j,h1,h2,h3,h4,h5):=Ml he;let(w,ew,pX):=r.get h2;have hl:=r.length;have hn:=uX;have fin:EP X au O Q w s:=#[z,H,I,pX,q];erw[subscriptTail_builtinR (x:=w) pl.typeIs slot_tuple_getitem.lookup (getItem_tuple (j:=j) (Q:=λr s'=>r=w/\EP X au O Q r s') pl ao ao (by rw[eP,<-hl];erw[h1]) (by simpa using ew) #[Z,fin]) hs]
theorem Ut:qX X a1g:=by
 intro value slice au s O H x y v u Q I rx ry h hs;let(z,i,c,rfl,rfl,hz,he,q):=h;let(t,rfl):=rx;let(t',rfl):=ry;let(j,h1,h2,h3,h4,h5):=Ml he;have hl:z.cps.toList.length=z.length:=by simp[Str.length]
 rw[hl]at h1 h4 h5;have hn:=uX;erw[tail_any (typeIs_str s z t) slot_str_getitem.lookup (getItem_str (c:=c) (by have e1:decide (i< -(2^63:Int))=false:=dM ao;have e2:decide (i>=2^63)=false:=dM ao;rw[e1,e2,Bool.or_false]) (by rw[h1];simpa using h2) #[.str ⟨#[c]⟩,H,I.tok _,#[_,Z],q]) hs]
theorem a5b(its:List Value)(n j:Nat)(u:Value):Obj.mapSeq (·.setIfInBounds j u) {cls:=.type "list",data:=.seq its.toArray n}={cls:=.type "list",data:=.seq (its.set j u).toArray n}:=by simp[Obj.mapSeq]
theorem Inv.lst{au:List (Addr×Obj)}{O:St}{H:Hp}{s:af}{p:Addr}{xs:List V}(I:Inv X au O H s)(h:H p=some (.lst xs)): ∃(its:List Value)(n:Nat),Vals xs its/\s.heap.get? p=some {cls:=.type "list",data:=.seq its.toArray n}/\xs.length<=sizeLine:=by let(z,its,n,r,e):=I.bX p _ h;erw[its,n,r,e,z]
theorem Inv.a5A{au:List (Addr×Obj)}{O:St}{H:Hp}{s:af}{p:Addr}{xs ys:List V}{its its':List Value}{n n':Nat}{f:Obj->Obj}(I:Inv X au O H s)(h:H p=some (.lst xs)) (ho:s.heap.get? p=some {cls:=.type "list",data:=.seq its.toArray n})(hf:f {cls:=.type "list",data:=.seq its.toArray n}={cls:=.type "list",data:=.seq its'.toArray n'})(r:Vals ys its')(hz:ys.length<=sizeLine)(t:Nat): Inv X au O (upd H p (.lst ys)) {s with heap:=s.heap.update p f,toks:=t}:=by
 have e:(s.heap.update p f).get? p=some {cls:=.type "list",data:=.seq its'.toArray n'}:=by rw[Nf f ho (by rw[hf]<;>rfl),hf]
 erw[I.write (x:=p) (e:=p) (by rw[h];trivial) (.inl Z) (λb u hb q=>(BA _ _ (kI hb)).trans q) #[_,e] ?_];erw[hz,its',n',r,e]
inductive aeL(o:V)(i:V)(v:V)(H:Hp)(Q:Hp->Prop):Prop |mk (p:_)(xs:_)(k:_)(j:_)(h0:o= .ref p)(h1:i= .int k)(h2:H p=some (.lst xs))(h3:jv xs.length k=some j)(h4:Q (upd H p (.lst (xs.set j v))))
def a1d:V->V->V->Hp->(Hp->Prop)->Prop:=λo i v H Q=>aeL o i v H Q
theorem set_list:Xg X a1d:=by
 intro au s O H o i v ov iv u Q I ro ri rv h;let(p,xs,k,j,rfl,rfl,hp,hj,q):=h;cases ro;let(t,rfl):=ri;let(its,n,r,ho,hz):=I.lst hp;let(h1,h2,h3,h4):=Uu hj;have hl:=r.length;have hn:=uX;have I':Inv X au O (upd H p (.lst (xs.set j v))) {s with heap:=s.heap.update p (Obj.mapSeq (·.setIfInBounds j u))}:=I.a5A hp ho (a5b its n j u) (r.set rv j) (by rw[yx];erw[hz]) s.toks;by_cases h0:0<=k
 ·have hk:k.toNat=j:=by rw[seqIndex_of h0 h4]at h1;erw[eX h1]
  erw[PySem.W.ki_setAt ho h0 ao (by rw[eP,<-hl];erw[h4]) (by rw[hk];erw[_,I',q])]
 ·have hk:(k+(its.toArray.size:Int)).toNat=j:=by rw[seqIndex_neg ao h3]at h1;rw[eP,<-hl];erw[eX h1]
  erw[PySem.W.ki_setBack ho ao (by rw[eP,<-hl];erw[h3]) ao (by rw[hk];erw[_,I',q])]
theorem ZJ(lo hi:Option Int)(n:Nat):(sliceBounds lo hi none n).1=((_H.cC n 0 lo:Nat):Int)/\(sliceBounds lo hi none n).2.1=((_H.cC n n hi:Nat):Int)/\(sliceBounds lo hi none n).2.2=1:=by
 erw[?_,?_,Z]
 ·cases lo with |none=>simp[sliceBounds,_H.cC] |some i=>
  simp only[sliceBounds,_H.cC,Option.getD_none,show(1:Int)>0 by decide,we];by_cases h:i<0
  ·simp only[h,we]<;>lia
  ·simp only[h,if_false]<;>lia
 ·cases hi with |none=>simp[sliceBounds,_H.cC] |some i=>
  simp only[sliceBounds,_H.cC,Option.getD_none,show(1:Int)>0 by decide,we];by_cases h:i<0
  ·simp only[h,we]<;>lia
  ·simp only[h,if_false]<;>lia
theorem ZK(its:List Value)(lo hi:Option Int):slicePick its.toArray lo hi none=((its.drop (_H.cC its.length 0 lo)).take (_H.cC its.length its.length hi-_H.cC its.length 0 lo)).toArray:=by let(h1,h2,h3):=ZJ lo hi its.toArray.size;unfold slicePick;rw[h1,h2,h3];simp only[sliceRange_one,pick_run,eP]<;>rfl
inductive aeJ(K:aa)(x:V)(lo:Option Int)(hi:Option Int)(H:Hp)(Q:VK):Prop |mk (a:_)(xs:_)(h0:x= .ref a)(h1:aF K H a xs)(h2:∀p,H p=none->Q (.ref p) (upd H p (.lst (lX xs lo hi))))
def a1b(K:aa):V->Option Int->Option Int->Hp->VK->Prop:=λx lo hi H Q=>aeJ K x lo hi H Q
theorem ZN:Eo X (a1b X.K):=by intro au s O H x v vl vu lo hi sl Q I rx hs pl pu h;let(a,xs,rfl,hx,q):=h;cases rx;let(its,r,ht,hz):=I.list hx;have hlen:=r.length;erw["list",_,slot_list_getitem.lookup,ht.isList.typeIs,?_];erw[wpAny_getItem_list_slice ht.isList hs pl pu .none (by simp) ?_ (by rw[eP]<;>lia)];rw[ZK,<-hlen];erw[.ref s.heap.objs.size,_,I.laid (t':=s.toks) (o:=.lst (lX xs lo hi)) (λb ob q=>cN _ q) (bf _) ?_,Z,q _ (I.bX.fresh (bf _))];erw[iK (Wm xs lo hi) hz,_,0,(r.drop (_H.cC xs.length 0 lo)).take (_H.cC xs.length xs.length hi-_H.cC xs.length 0 lo),eZ _ Z]
def tG:V->Bool | .bw=>true | .bl _=>true | .int _=>true | .str _=>true |_=>false
def tK:V->V->Bool | .bw,.bw=>true | .bl a,.bl b=>a==b | .bl a,.int b=>(if a then 1 else 0)==b | .int a,.bl b=>a==(if b then 1 else 0) | .int a,.int b=>a==b | .str a,.str b=>a==b |_,_=>false
theorem ab5{A:ai}{s:af}{y x:V}{u v:Value}(ry:RelV y u)(rx:RelV x v)(fy:tG y=true)(fx:tG x=true):SeqAt.EqAt A s u v (tK y x):=by cases y with
 |bw=>cases ry;cases x with |bw=>cases rx;erw[SeqAt.EqAt.same _] |bl b=>cases rx;erw[SeqAt.EqAt.none_bool b] |int b=>let(t,rfl):=rx;erw[SeqAt.EqAt.none_int b t] |str b=>let(t,rfl):=rx;erw[SeqAt.EqAt.none_str b t] |_=>erw[absurd (show false=true from fx) eH]
 |bl a=>cases ry;cases x with |bw=>cases rx;erw[SeqAt.EqAt.bool_none a] |bl b=>cases rx;erw[SeqAt.EqAt.bool_bool a b] |int b=>let(t,rfl):=rx;erw[SeqAt.EqAt.bool_int a b t] |str b=>let(t,rfl):=rx;erw[SeqAt.EqAt.bool_str a b t] |_=>erw[absurd (show false=true from fx) eH]
 |int a=>let(t',rfl):=ry;cases x with |bw=>cases rx;erw[SeqAt.EqAt.int_none a t'] |bl b=>cases rx;erw[SeqAt.EqAt.int_bool a t' b] |int b=>let(t,rfl):=rx;erw[SeqAt.EqAt.int_int a t' b t] |str b=>let(t,rfl):=rx;erw[SeqAt.EqAt.int_str a t' b t] |_=>erw[absurd (show false=true from fx) eH]
 |str a=>let(t',rfl):=ry;cases x with |bw=>cases rx;erw[SeqAt.EqAt.str_none a t'] |bl b=>cases rx;erw[SeqAt.EqAt.str_bool a t' b] |int b=>let(t,rfl):=rx;erw[SeqAt.EqAt.str_int a t' b t] |str b=>let(t,rfl):=rx;erw[SeqAt.EqAt.str_str a t' b t] |_=>erw[absurd (show false=true from fx) eH]
 |_=>erw[absurd (show false=true from fy) eH]
def qL(x:V)(u:Value):Bool:=match u with | .none=>tK .bw x | .bool b=>tK (.bl b) x | .int i _=>tK (.int i) x | .str z _=>tK (.str z) x |_=>false
theorem VI{x y:V}{u:Value}(r:RelV y u)(f:tG y=true):qL x u=tK y x:=by cases y with |bw=>cases r;rfl |bl b=>cases r;rfl |int i=>let(t,rfl):=r;rfl |str z=>let(t,rfl):=r;rfl |_=>erw[absurd (show false=true from f) eH]
theorem Mn{x:V}:∀{xs:List V}{us:List Value},Vals xs us->xs.all tG=true->us.any (qL x)=xs.any λy=>tK y x |_,_,.nil,_=>rfl |y::xs,u::us,.cons r t,f=>by rw[yA,fz]at f;rw[yz,yz,VI r f.1,Mn t f.2]
theorem JT{A:ai}{s:af}{x:V}{v:Value}(rx:RelV x v)(fx:tG x=true):∀{xs:List V}{us:List Value},Vals xs us->xs.all tG=true->∀u∈us,SeqAt.EqAt A s u v (qL x u)
 |_,_,.nil,_=>λu hu=>by cases hu |y::xs,u::us,.cons r t,f=>λu' hu=>by
  rw[yA,fz]at f;rcases cO.mp hu with rfl|hu
  ·rw[VI r f.1];erw[ab5 r rx f.1 fx]
  ·erw[JT rx fx t f.2 u' hu]
def Dy(x:V)(xs:List V):Bool:=xs.any λy=>tK y x
inductive aeX(K:aa)(neg:Bool)(x:V)(y:V)(H:Hp)(Q:VK):Prop |mk (p:_)(xs:_)(h0:y= .ref p)(h1:(aF K H p xs\/aW K H p xs))(h2:tG x=true)(h3:xs.all tG=true)(h4:Q (.bl (if neg then !Dy x xs else Dy x xs)) H)
def S9(K:aa)(neg:Bool):R2:=λx y H Q=>aeX K neg x y H Q
theorem a2i:cY X (compareOp .NotIn) (S9 X.K true):=by
 intro au s O H x y v u Q I rx ry h;let(p,xs,rfl,hq,fx,fs,q):=h;cases ry;rcases hq with hq|hq
 ·let(its,r,pl,hz):=I.list hq
  erw[SeqAt.notIn_listAt (qL x) pl.isList (λw hw=>JT rx fx r fs w (by simpa using hw)) #[.bl _,H,I,Z,?_]];rw[show its.toArray.any (qL x)=its.any (qL x) by simp,Mn r fs];erw[q]
 ·let(its,r,pl,hz):=I.tuple hq
  erw[SeqAt.notIn_tupleAt (qL x) pl (λw hw=>JT rx fx r fs w (by simpa using hw)) #[.bl _,H,I,Z,?_]];rw[show its.toArray.any (qL x)=its.any (qL x) by simp,Mn r fs];erw[q]
theorem ac5:fD X (.builtin "len") (λxs H Q=>∃p ys,xs=[.ref p]/\(aF X.K H p ys\/aW X.K H p ys)/\Q (.int ys.length) H):=by
 intro au s O H xs us Q I r h;let(p,ys,rfl,hq,q):=h;let(u,rfl,rx):=vals1 r;cases rx;have hn:=uX;rcases hq with hq|hq
 ·let(its,r',pl,hz):=I.list hq
  have hlen:=r'.length;erw[Calls.call_len_list pl.isList (by simp only[eP]<;>lia) #[.int ys.length,H,I.tok _,#[s.toks+1,by rw[eP,hlen]],q]]
 ·let(its,r',pl,hz):=I.tuple hq
  have hlen:=r'.length;erw[len_tuple pl (by simp only[eP]<;>lia) #[.int ys.length,H,I.tok _,#[s.toks+1,by rw[eP,hlen]],q]]
theorem ac4:fD X (.builtin "len") (λxs H Q=>∃z,xs=[.str z]/\z.length<=sizeLine/\Q (.int z.length) H):=by intro au s O H xs us Q I r h;let(z,rfl,hz,q):=h;let(u,rfl,t,rfl):=vals1 r;have hn:=uX;erw[len_str ao #[.int z.length,H,I.tok _,#[_,Z],q]]
theorem fD.or{f:Value}{r r':List V->Hp->VK->Prop}(h:fD X f r)(h':fD X f r'):fD X f (λxs H Q=>r xs H Q\/r' xs H Q):=by
 intro au s O H xs us Q I rs q;rcases q with q|q
 ·erw[h au s O H xs us Q I rs q]
 ·erw[h' au s O H xs us Q I rs q]
theorem ac3:fD X (.type "list") (λxs H Q=>∃p ys,xs=[.ref p]/\(aF X.K H p ys\/aW X.K H p ys)/\∀l,H l=none->Q (.ref l) (upd H l (.lst ys))):=by
 intro au s O H xs us Q I r h;let(p,ys,rfl,hq,q):=h;let(u,rfl,rx):=vals1 r;cases rx;have fin:∀(its:List Value),Vals ys its->ys.length<=sizeLine->∀(h':Heap)(c':Nat),(∀b o',s.heap.get? b=some o'->h'.get? b=some o')->h'.get? s.heap.objs.size=some {cls:=.type "list",dict:=none,data:=.seq its.toArray c',slots:=#[]}->EP X au O Q (.ref s.heap.objs.size) {s with heap:=h'}:=λits r' hz h' c' kp e=>#[.ref s.heap.objs.size,_,I.laid (t':=s.toks) kp (bf _) (show kb X.prog X.w _ h' _ (.lst ys)from#[hz,its,c',r',e]),Z,q _ (I.bX.fresh (bf _))];rcases hq with hq|hq
 ·let(its,r',pl,hz):=I.list hq
  have hlen:=r'.length;let(o,ho,hc,n,hd):=pl.isList;erw[call_list_seq p (.inl Z) ho hc hd (λh' c' kp e=>fin its r' hz h' c' kp e) (by simp only[eP]<;>lia)]
 ·let(its,r',pl,hz):=I.tuple hq
  have hlen:=r'.length;let(o,ho,hc,n,hd):=pl;erw[call_list_seq p (.inr Z) ho hc hd (λh' c' kp e=>fin its r' hz h' c' kp e) (by simp only[eP]<;>lia)]
theorem ac0:fD X (.type "tuple") (λxs H Q=>∃p ys,xs=[.ref p]/\((aF X.K H p ys/\∀l,H l=none->Q (.ref l) (upd H l (.tup ys)))\/(aW X.K H p ys/\Q (.ref p) H))):=by
 intro au s O H xs us Q I r h;let(p,ys,rfl,h):=h;let(u,rfl,rx):=vals1 r;cases rx;rcases h with⟨hq,q⟩|⟨hq,q⟩
 ·let(its,r',pl,hz):=I.list hq
  have hlen:=r'.length;erw[call_tuple_list pl.isList (λh' kp=>?_) (by simp only[eP]<;>lia)];have I1:Inv X au O H {s with heap:=h'}:=I.kept (t':=s.toks) kp;have I2:Inv X au O (upd H h'.objs.size (.tup ys)) {s with heap:=h'.push {cls:=.type "tuple",data:=.seq its.toArray}}:=I1.laid (t':=s.toks) (λb o e=>cN _ e) (bf _) (show kb X.prog X.w _ _ _ (.tup ys)from#[hz,its,r',IsTup.new _ _]);erw[.ref h'.objs.size,_,I2,Z,q _ (I1.bX.fresh (bf _))]
 ·let(its,r',pl,hz):=I.tuple hq
  erw[call_tuple_same pl #[.ref p,H,I,Z,q]]
def Nq(K:aa)(T:String)(x:V)(H:Hp):Prop:=match x with | .str _=>T="str" | .int _=>T="int" | .ref p=>(T="list"/\∃xs,aF K H p xs)\/(T="tuple"/\∃o,K.lookup p=some o/\o.cls= .type "tuple"/\o.dict=none)\/ (T="dict"/\((∃eV,H p=some (.dK eV))\/∃eV,H p=some (.dT eV)))\/(T="set"/\∃S n,H p=some (.set S n)) |_=>False
theorem Yq{au:List (Addr×Obj)}{O:St}{H:Hp}{s:af}{T:String}{x:V}{v:Value}(I:Inv X au O H s)(r:RelV x v)(ty:Nq X.K T x H): s.TypeIs v T/\∀a,v= .ref a->∃ob,s.heap.get? a=some ob/\ob.dict=none:=by cases x with
 |str z=>let(t,rfl):=r;cases(show T="str" from ty);erw[typeIs_str s z t,λ_ e=>nomatch e] |int i=>let(t,rfl):=r;cases(show T="int" from ty);erw[typeIs_int s i t,λ_ e=>nomatch e] |ref p=>
  cases r;rcases ty with⟨rfl,xs,hq⟩|⟨rfl,o,hk,hc,hd⟩|⟨rfl,hk⟩|⟨rfl,S,n,hk⟩
  ·let(its,_,pl,_):=I.list hq
   erw[pl.isList.typeIs,λa e=>?_];cases e;let(o,n,e,c,hd,_):=pl;erw[o,e,hd]
  ·erw[#[o,I.iP p o hk,hc],λa e=>?_]
   cases e;erw[o,I.iP _ o hk,hd]
  ·have z:∃o,s.heap.get? p=some o/\o.ExactDict:=by
    rcases hk with⟨eV,hk⟩|⟨eV,hk⟩
    ·let(_,_,_,_,o,_,_,e,ex,_):=I.bX p _ hk
     erw[o,e,ex]
    ·let(_,_,_,_,o,_,_,e,ex,_):=I.bX p _ hk
     erw[o,e,ex]
   let(o,e,ex):=z;erw[#[o,e,ex.1],λa e2=>?_];cases e2;erw[o,e,ex.2.1]
  ·let(o,_,_,_,e,ex,_):=I.bX p _ hk
   erw[#[o,e,ex.1],λa e2=>?_];cases e2;erw[o,e,ex.2.1] |_=>erw[False.elim ty]
def wH(K:aa)(T:String)(r:V->List V->Hp->VK->Prop)(to:TE)(t:TA):TE:=λO H Q=>to O H λx H1=>Nq K T x H1/\t O H1 λxs H2=>r x xs H2 Q
variable {o e:Expr}{es:List Expr}{to:TE}{t:TA}{name:Str}{apos dE:Pos}{T id:String}{r:V->List V->Hp->VK->Prop}
theorem zw(pa:PlainAttrs T)(slot:Slot T name id)(Kp:typeOf (.builtin id)=pure (.type "method_descriptor"))(hm:Ey X id r)(ho:PE X o to)(ha:PA X (e::es) t) (nS:autoParam (attributeBase o name X.env (eval o X.env)=eval o X.env) r8_._auto_1) (nO:autoParam (((backTo dE (starEach (e::es) X.env)).all (λx=>!x.1)&&(backToKw dE (keywordEach [] X.env)).all (λx=>x.1.isSome) &&decide ((e::es).length+([]:List Keyword).length+(if([]:List Keyword).isEmpty then 0 else 1)<30))=true) r8_._auto_1) (nL:autoParam ((apos.endLine==dE.line)=true) r8_._auto_1)(hs:autoParam (starEach (e::es) X.env=(false,eval e X.env)::starEach es X.env) r8_._auto_1)(nJ:autoParam ((backTo dE (starEach es X.env)).any (·.1)=false) r8_._auto_1): PE X (.Call (.Attribute o name apos) (e::es) [] dE) (wH X.K T r to t):=by intro au s O H Q I h;erw[wpAny_Call_method_late nS nO nL Z (aZ (ho au s O H _ I h) λv s1 #[x,H1,I1,r1,ty,q1]=>?_)];let(h1,h2):=Yq I1 r1 ty;erw[T,id,pa,slot,Kp,h1,h2,?_];have hA:=ha dE au s1 O H1 _ I1 q1;rw[hs]at hA⊢;erw[Calls.callWith_builtin (by show(false||(backTo dE (starEach es X.env)).any (·.1))=false;rw[nJ]<;>rfl) (Calls.evalArgs_plain ?_)];erw[aZ hA λus s2 #[vs,H2,I2,r2,q2]=>hm au s2 O H2 x vs v us Q I2 r1 r2 q2]
end
def Xj(X:Cx)(id:String)(r:V->List V->Hp->VK->Prop):Prop:=∀(au:List (Addr×Obj))(s:af)(O:St)(H:Hp)(x:V)(xs:List V)(v:Value)(us:List Value)(Q:VK),Inv X au O H s->RelV x v->Vals xs us->r x xs H Q->wpAny (model X.prog X.w) X.A (call (.builtin id) (v::us)) (EP X au O Q) X.xe s
theorem Vals.one:∀{x:V}{us:List Value},Vals [x] us->∃u,us=[u]/\RelV x u |_,_,.cons r .nil=>#[_,Z,r]
theorem Vals.rep{xs:List V}{us:List Value}(h:Vals xs us):∀k:Nat,Vals (List.replicate k xs).flatten (List.replicate k us).flatten |0=>.nil |k+1=>by rw[ua,ua,ET,ET];erw[Vals.append h (Vals.rep h k)]
theorem foldl_rep(its:List Value):∀(k:Nat)(acc:List Value),List.foldl (λx1 x2=>x1++x2) acc.toArray (List.replicate k its.toArray)=(acc++(List.replicate k its).flatten).toArray
 |0,acc=>by simp |k+1,acc=>by
  have e:acc.toArray++its.toArray=(acc++its).toArray:=by simp
  have e2:(acc++its)++(List.replicate k its).flatten=acc++(List.replicate (k+1) its).flatten:=by rw[ua,ET,EU]
  rw[<-e2,<-foldl_rep its k (acc++its),<-e,ua,List.foldl_cons]
section
variable {X:Cx}{au:List (Addr×Obj)}{O:St}{H:Hp}{s:af}{l b:Addr}{xs ys zs:List V}
theorem Inv.TY{its its':List Value}{n:Nat}{f:Array Value->Array Value}{t':Nat}(I:Inv X au O H s)(hH:H l=some (.lst xs)) (e:s.heap.get? l=some {cls:=.type "list",data:=.seq its.toArray n})(hf:f its.toArray=its'.toArray)(hv:Vals ys its')(hz:ys.length<=sizeLine): Inv X au O (upd H l (.lst ys)) {s with heap:=s.heap.update l (Obj.mapSeq f),toks:=t'}:=by have q:=PySem.IsL.update e f;rw[hf]at q;erw[I.write (x:=l) (e:=l) (by rw[hH];erw[trivial]) (.inl Z) (λb' u hb hu=>(BA s.heap (Obj.mapSeq f) (kI hb)).trans hu) #[_,q] ?_];erw[hz,its',_,hv,q]
theorem Inv.Dn{its:List Value}{t':Nat}(I:Inv X au O H s)(hv:Vals ys its)(hz:ys.length<=sizeLine): Inv X au O (upd H s.heap.objs.size (.lst ys)) {s with heap:=s.heap.push {cls:=.type "list",data:=.seq its.toArray},toks:=t'}:=I.laid (λ_ _ q=>cN _ q) (bf _) #[hz,its,0,hv,eZ _ Z]
theorem Inv.fresh(I:Inv X au O H s):H s.heap.objs.size=none:=I.bX.fresh (bf _)
theorem Inv.Dj(I:Inv X au O H s)(hH:H l=some (.lst xs)):xs.length<=sizeLine/\∃(its:List Value)(n:Nat),Vals xs its/\xs.length=its.length/\s.heap.get? l=some {cls:=.type "list",data:=.seq its.toArray n}:=by let(z,its,n,r,e):=I.bX l _ hH;erw[z,its,n,r,r.length,e]
theorem SW{n:Nat}(h:n<=sizeLine):Builtin.List.listTooLong n=false:=by unfold Builtin.List.listTooLong;erw[dM ao]
end
section
variable {X:Cx}
inductive af4(x:V)(vs:List V)(H:Hp)(Q:VK):Prop |mk (l:_)(xs:_)(y:_)(h0:x= .ref l)(h1:vs=[y])(h2:H l=some (.lst xs))(h3:xs.length<sizeLine)(h4:Q .bw (upd H l (.lst (xs++[y]))))
def Sb:V->List V->Hp->VK->Prop:=λx vs H Q=>af4 x vs H Q
theorem D5:Xj X "list.append" Sb:=by
 intro au s O H x vs v us Q I rx rv h;let(l,xs,y,rfl,rfl,hH,hz,q):=h;cases rx;let(u,rfl,ru):=rv.one;let(z,its,n,r,hl,e):=I.Dj hH;erw[wg F.slot_list_append #[_,e,Z] F.entry_list_append (F.args_list_append_2 _ _) (PySem.list_append l its.toArray n u (by rw[eP];lia)) #[e,?_]];erw[.bw,_,I.TY (its':=its++[u]) hH e (by simp) (r.append (.cons ru .nil)) ?_,Z,q];rw[cD,N5]
 lia
inductive af0(x:V)(vs:List V)(H:Hp)(Q:VK):Prop |mk (l:_)(b:_)(xs:_)(zs:_)(h0:x= .ref l)(h1:vs=[.ref b])(h2:H l=some (.lst xs))(h3:H b=some (.lst zs))(h4:xs.length+zs.length<=sizeLine)(h5:Q .bw (upd H l (.lst (xs++zs))))
def Sa:V->List V->Hp->VK->Prop:=λx vs H Q=>af0 x vs H Q
theorem a52:Xj X "list.extend" Sa:=by
 intro au s O H x vs v us Q I rx rv h;let(l,b,xs,zs,rfl,rfl,hH,hB,hz,q):=h;cases rx;let(u,rfl,ru):=rv.one;cases ru;let(z,its,n,r,hl,e):=I.Dj hH;let(z2,lP,n2,r2,sT,e2):=I.Dj hB;have hsz:its.toArray.size+lP.toArray.size<=sizeLine:=by rw[eP,eP];lia
 have KA:¬(!its.toArray.isEmpty&&Builtin.List.listTooLong (its.toArray.size+lP.toArray.size))=true:=by rw[SW hsz,Bool.and_false];erw[eH]
 erw[wg F.slot_list_extend #[_,e,Z] F.entry_list_extend (F.args_list_extend_2 _ _) (AutoSeq1.list_extend_list_list_0 l its.toArray n b lP.toArray n2 KA (by rw[eP];lia) ao) #[e,e2,?_]];erw[.bw,_,I.TY (its':=its++lP) hH e (by simp) (r.append r2) ?_,Z,q];rw[cD]
 lia
inductive aeN(x:V)(y:V)(H:Hp)(Q:VK):Prop |mk (l:_)(k:_)(xs:_)(h0:x= .ref l)(h1:y= .int k)(h2:H l=some (.lst xs))(h3:-(2^63)<=k)(h4:k<2^63)(h5:xs.length*k.toNat<=sizeLine)(h6:∀p,H p=none->Q (.ref p) (upd H p (.lst (List.replicate k.toNat xs).flatten)))
def a1e:R2:=λx y H Q=>aeN x y H Q
theorem len_rep{α:Type}(xs:List α)(k:Nat):(List.replicate k xs).flatten.length=k*xs.length:=by induction k with |zero=>simp |succ k ih=>rw[ua,ET,cD,ih,Nat.succ_mul,N1]
theorem a2h:cY X (binaryOp .Mult) a1e:=by
 intro au s O H x y v u Q I rx ry h;let(l,k,xs,rfl,rfl,hH,h1,h2,hz,q):=h;cases rx;let(t,rfl):=ry;let(z,its,n,r,hl,e):=I.Dj hH;have hlen:its.toArray.size*k.toNat<=sizeLine:=by rw[eP,<-hl];erw[hz]
 have a86:¬its.toArray.size*k.toNat>(2^63-1)/8:=by
  have:(sizeLine:Nat)<=(2^63-1)/8:=by decide
  lia
 have a7P:¬(!Builtin.List.listFitsIndex k)=true:=by rw[fitsIndex_both h1 h2];erw[eH]
 have KA:¬Builtin.List.listTooLong (its.toArray.size*k.toNat)=true:=by rw[SW hlen];erw[eH]
 have a7b:List.foldl (λx1 x2=>x1++x2) #[] (List.replicate (if its.toArray.isEmpty=true then 0 else k.toNat) its.toArray)=(List.replicate k.toNat its).flatten.toArray:=by
  have f0:∀m:Nat,List.foldl (λx1 x2=>x1++x2) #[] (List.replicate m its.toArray)=(List.replicate m its).flatten.toArray:=λm=>by have:=foldl_rep its m [];rw[List.nil_append]at this;erw[this]
  rw[f0];cases its with |nil=>simp |cons a r'=>rw[bj (by simp)]
 erw[wpAny_binaryOp_repeat_ref (T:="list") (U:="int") az #[_,e,Z] (λs'=>typeIs_int s' k t) noFill_list_mul F.fills_int_mul F.slot_int_rmul repeat_list F.slot_int_index.lookup (wg F.slot_int_rmul (typeIs_int s k t) F.entry_int_rmul (F.args_int_rmul_2 _ _) (int___rmul___int_list k t l its.toArray n) #[e,Z,#[_,e,Z],wg F.slot_list_mul #[_,e,Z] F.entry_list_mul (F.args_list_mul_2 _ _) (AutoListH.list___mul___list_int_3 l its.toArray n k t a7P a86 KA) #[e,?_]])];rw[a7b];erw[.ref _,_,I.Dn (t':=s.toks) (r.rep k.toNat) (by rw[len_rep,Nat.mul_comm];erw[hz]),Z,q _ I.fresh]
end
section
variable {prog:ag}{w:World}{A:ai}{E:Value->af->Prop}{s:af}
end
section
variable {X:Cx}
end
end _L
namespace _AA
open PySem PySem.W PySem.Calls PyProof.Rows
theorem a6p{P:Params}{h:Heap}:∀(ns:List Int)(vs:List Value),WellAll P h vs (ns.map WData.int)->IntsAre vs ns:=by intro ns;induction ns with |nil=>intro vs w;rw[List.map_nil]at w;cases w;erw[.nil] |cons n ns ih=>intro vs w;rw[rA]at w;cases w with |cons a b=>cases a;erw[.cons _ _ (ih _ b)]
theorem ZV{l:OpenLaw}{n:Nat}(hn:l.most=some n){P:Params}{h:Heap}{args:List WData}{vals:List Value} (DH:l.row.toRowW.claim.pre args=true)(vf:WellAll P h vals args): ∃a vs ns,vals=[Value.ref a]/\args=[WData.list (ns.map WData.int)]/\h.get? a=some {cls:=.type "list",data:=.seq vs.toArray}/\IntsAre vs ns/\ns.length<=n:=by
 have hsh:WShape.hasAll [] args [.list .int]=true:=(pre_splitW DH).1;have hc:l.pre.holds [] {args:=args}=true:=(pre_splitW DH).2;let(d,r,rfl,h1,h2):=hasAllW_cons hsh;obtain rfl:=hasAllW_nil h2;let(xs,rfl,h3):=hasW_list h1;let(ns,rfl):=items_int h3;have hlen:ns.length<=n:=by
  unfold OpenLaw.pre at hc;have h4:(WTm.not (.lt (.lit (.int (n:Int))) (.len (.arg 0)))).holds [] {args:=[.list (ns.map .int)]}=true:=by have h4:=(holds_andW hc).1;rw[hn]at h4;erw[h4]
  have h5:=condW_of h4 (w_not (w_lt w_lit (w_len_list (w_arg Z))));rw[ba]at h5;erw[Nat.le_of_not_lt λq=>?_];have q':(n:Int)<((ns.length:Nat):Int):=by omega
  first |(rw[cu q']at h5;erw[absurd h5 az]) |(simp at h5;omega)
 cases vf with |cons w1 w2=>cases w2;cases w1 with |list ho a8j=>erw[_,_,ns,Z,Z,ho,a6p ns _ a8j,hlen]
theorem a1y(l:OpenLaw)(args:List WData):l.row.toRowW.claim.post args (.bool true) args=true:=postW_of (r:=l.row.toRowW) (X:=(true==true)) (show WShape.has [] (.bool true) .bool=true by first|rfl|decide|simp[WShape.has,WShape.arms,WShape.armsAll]) (show(WTm.eq .res (.lit (.bool true))).value [] {args:=args,res:=some (.bool true),after:=args}=some (.bool (true==true))from w_eq_bool (w_res Z) w_lit) rfl
theorem acA{l:OpenLaw}{n:Nat}{q:ag}{loose:List Str}{XP:(ck)->Heap->Prop}{YP:World->Heap->Prop}{d:DefRec} (hn:l.most=some n)(Ak:d.params.defaults=[]) (call:∀(w:World)(s₀ s₁:af)(mg mb:ck)(fa:Addr)(o:Obj)(pm cd doc:Value)(a:Addr)(vs:List Value)(ns:List Int),Ground q loose [] XP w s₀ mg mb s₁.heap->YP w s₁.heap->s₁.heap.get? fa=some o->o.data= .func (docDef d.name d.params d.body d.scope pm cd doc)->s₁.heap.CodeRec cd d.name->mg d.name=some (.ref fa)->s₁.heap.get? a=some {cls:=.type "list",data:=.seq vs.toArray}->IntsAre vs ns->ns.length<=n->s₁.gens=#[]->codeAny (model l.prog w) callerA (.call (.ref fa) #[[.ref a],[]]) (λr s'=>r= .ok (.ret (.bool true))/\OldK s₁.heap s'.heap/\s'.os=s₁.os/\AllBare s'.gens) s₁): WalkO q loose XP YP l.row.toRowW d [] (λf vs=>PySem.call f vs):=by intro w s₀ s₁ mg mb G Y fa o pm cd doc dV kV ho hd jS hD Ag hg args vals as DH agq hrd vf hlo;obtain rfl:dV= .none:=Dflts.none hD Ak;obtain rfl:kV= .none:=Dflts.noKw hD;let(a,vs,ns,rfl,rfl,Kv,hints,hlen):=ZV hn DH vf;erw[enter_call (yn (call w s₀ s₁ mg mb fa o pm cd doc a vs ns G Y ho (fd_plain hd) jS Ag Kv hints hlen hg) λr s' hq=>?_)];let(rfl,h2,h3,h4):=hq;erw[.inl #[.bool true,.bool true,[],Z,λ_=>rfl,.bool true,a1y l _,λ_=>#[List.Pairwise.nil,λ_ hm=>(nomatch hm)]],h2,h3,h4]
section
variable {prog:ag}{w:World}{A:ai}{E:Value->af->Prop}{s:af}{K:Frag}
end
end _AA
namespace _L
open PySem PySem.Spec PyProof.Rows
theorem Nl:∀{vs:List Value}{ns:List Int},IntsAre vs ns->Vals (ns.map V.int) vs |_,_,.nil=>.nil |_,_,.cons n t h=>.cons #[t,Z] (Nl h)
def Mz(H:Hp):Prop:=∀b,H b=none\/∃o xs,H b=some (.pj o (.lst xs))
theorem a5Y{P:ag}{w:World}{K:aa}{mg mb:ck}{CX:kg}{k:Nat}{fa a:Addr}{fd:FuncData}{x:Str}{sp:Sp}{s₁:af}{vs:List Value}{ns:List Int} (KX:K.In s₁.heap)(UR:s₁.heap.Ns mainGlobals mg)(hb:s₁.heap.Ns builtinsNs mb)(hbb:∀x:Str,x≠"__name__"->mb x=bootBuiltins x)(a7l:s₁.heap.NoLimit)(hg:s₁.gens=#[]) (ha:s₁.heap.get? a=some {cls:=.type "list",data:=.seq vs.toArray})(hi:IntsAre vs ns)(hl:ns.length<=sizeLine)(hr:dP k callerA) (F:∀aw:Heap,K.In aw->aw.Ns mainGlobals mg->fw P w K mg aw CX k fa fd [x] sp)(a8c:∀(s:af)(u:Value),BindsTo s fd #[[u],[]] [(x,u)]) (lQ:∀H:Hp,Mz H->aF K H a (ns.map V.int)->sp [.ref a] H (λv _=>v= .bl true) λ_ _ _=>False) (L7:∀H e s',CX [] H s₁ (λ_ _ _=>False) e s'->False): codeAny (model P w) callerA (.call (.ref fa) #[[.ref a],[]]) (λr s'=>r= .ok (.ret (.bool true))/\OldK s₁.heap s'.heap/\s'.os=s₁.os/\AllBare s'.gens) s₁:=by
 have rv:=Nl hi;have a5R:=hi.length;have core:∀H:Hp,Mz H->aF K H a (ns.map V.int)->fK P w H s₁.heap->(∀b,H b≠none->b=a)->(H a≠none->K.lookup a=none)->codeAny (model P w) callerA (.call (.ref fa) #[[.ref a],[]]) (λr s'=>r= .ok (.ret (.bool true))/\OldK s₁.heap s'.heap/\s'.os=s₁.os/\AllBare s'.gens) s₁:=by
  intro H hO hS bX hA hK;have WR:∀{b:Addr}{o:Obj},s₁.heap.get? b=some o->H b=none->(qG s₁.heap H).get? b=some o:=λe n=>a7G e n;have zO:∀{b:Addr}{o:Obj}{es:Array DictEntry}{ep:Nat},s₁.heap.get? b=some o->o.data= .dict es ep->H b=none:=λ{b o es ep} e d=>by cases q:H b with |none=>rfl |some u=>have e':b=a:=hA b (by rw[q];simp);subst e';rw[ha]at e;cases e;have d':Data.seq vs.toArray _=Data.dict es ep:=d;cases d'
  have CU:∀{b:Addr}{m:ck},s₁.heap.Ns b m->(qG s₁.heap H).Ns b m:=λ{b m} #[o,es,ep,e,d,r]=>#[o,es,ep,WR e (zO e d),d,r];have Vd:K.In (qG s₁.heap H):=λb o e=>WR (KX b o e) (by cases q:H b with |none=>rfl |some u=>have e':b=a:=hA b (by rw[q];simp);subst e';rw[hK (by rw[q];simp)]at e;cases e);have hM:Mod K mg (qG s₁.heap H):=#[Vd,CU UR,#[mb,CU hb,hbb],let#[mc,h1,h2]:=a7l;#[mc,CU h1,h2]];have e0:w6 P w K mg (qG s₁.heap H) callerA [] s₁ H:=#[Z,hM,λb o e=>a4i e,Nat.le_of_eq (a7F _ _),trivial,λb hb=>absurd (show b∈([]:List Addr)from hb) (by simp),bX,.of_eq hg];erw[yn ((F _ Vd (CU UR)).run callerA [] s₁ H #[[.ref a],[]] [.ref a] [.ref a] _ _ hr e0 (a8c s₁ (.ref a)) (.cons Z .nil) (lQ H hO hS)) λr s' h=>?_];cases r with |error e=>exact(L7 H e s' h).elim |ok fl=>cases fl with |next=>erw[False.elim h] |brk=>erw[False.elim h] |cont=>erw[False.elim h] |ret u=>let(v,H',os,bare,un,a74,r',q):=h;have q':v= .bl true:=q;subst q';obtain rfl:u=Value.bool true:=r';erw[Z,OldK.of_keep λb o e=>?_,os,bare];cases q:H b with |none=>erw[un.keep b o e q (by intro z;erw[absurd (show b∈([]:List Addr)from z) (by simp)]) (by simp)] |some u=>
   rcases hO b with z|⟨ob,xs,z⟩
   ·rw[q]at z;cases z
   ·have z2:=un.kW b ob _ z
    let(e1,_):=bX b _ z;let(e2,_):=a74 b _ z2;rw[e]at e1;cases e1;erw[e2]
 cases hk:K.lookup a with |some o=>have e:=KX a o hk;rw[ha]at e;cases e;erw[core (λ_=>none) (λ_=>.inl Z) (.inr #[_,vs.toArray,_,hk,Z,Z,Z,by rw[eP,a5R];erw[hl],by simpa using rv]) (λb u z=>by have z':(none:Option HO)=some u:=z;cases z') (λb z=>absurd rfl z) λz=>absurd rfl z] |none=>
  erw[core (λb=>if b=a then some (.pj {cls:=.type "list",data:=.seq vs.toArray} (.lst (ns.map V.int)))else none) (λb=>?_) (.inl (.inr #[{cls:=.type "list",data:=.seq vs.toArray},bc Z])) (λb u z=>?_) (λb z=>?_) λ_=>hk]
  ·by_cases hb:b=a
   ·erw[.inr #[_,_,bc hb]]
   ·erw[.inl (bj hb)]
  ·by_cases hb:b=a
   ·have z':=(bc hb).symm.trans z
    cases z';subst hb;erw[ha,by rw[ba];erw[hl],vs,_,rv,ha]
   ·have z':=(bj hb).symm.trans z
    cases z'
  ·by_cases hb:b=a
   ·erw[hb]
   ·erw[absurd (bj hb) z]
theorem Yd{l:PySem.W.OpenLaw}{n k:Nat}{q:ag}{loose:List Str}{XP:(ck)->Heap->Prop}{YP:World->Heap->Prop}{d:DefRec}{K:Params->aa}{CX:World->kg}{sp:World->Sp}{x:Str} (hn:l.most=some n)(p7:n<=sizeLine)(Ak:d.params.defaults=[])(hr:dP k callerA) (hY:∀(w:World)(h:Heap),YP w h->(K w.params).In h) (F:∀(w:World)(mg:ck)(fa:Addr)(h:Heap),(K w.params).In h->h.Ns mainGlobals mg->mg d.name=some (.ref fa)->∃fd:FuncData,(∀(s:af)(u:Value),BindsTo s fd #[[u],[]] [(x,u)])/\∀aw:Heap,(K w.params).In aw->aw.Ns mainGlobals mg->fw l.prog w (K w.params) mg aw (CX w) k fa fd [x] (sp w)) (lQ:∀(w:World)(H:Hp)(a:Addr)(ns:List Int),ns.length<=n->Mz H->aF (K w.params) H a (ns.map V.int)->sp w [.ref a] H (λv _=>v= .bl true) λ_ _ _=>False) (L7:∀(w:World)(H:Hp)(s:af)(e:Value)(s':af),CX w [] H s (λ_ _ _=>False) e s'->False): PySem.W.WalkO q loose XP YP l.row.toRowW d [] (λf vs=>PySem.call f vs):=by erw[_AA.acA hn Ak λw s₀ s₁ mg mb fa o pm cd doc a vs ns G Y ho hd jS Ag Kv hints hlen hg=>?_];have KX:=hY w _ Y;let(fd,hb,hF):=F w mg fa _ KX G.T.g Ag;erw[a5Y KX G.T.g G.T.b G.T.builtins G.T.nolimit hg Kv hints (iK hlen p7) hr hF hb (λH hO hS=>lQ w H a ns hlen hO hS) λH e s'=>L7 w H s₁ e s']
def inClass(s:Stmt)(j:Nat):Stmt:=match s with | .ClassDef _ _ _ body _ _ _ _ _ _ _=>body.getD j (.Pass #[0,0,0,0]) |_=>.Pass #[0,0,0,0]
def mO(s:Stmt):Arguments:=match s with | .FunctionDef _ a _ _ _ _ _ _ _ _=>a |_=>{posonlyargs:=[],args:=[],vararg:=none,kwonlyargs:=[],kw_defaults:=[],kwarg:=none,defaults:=[]}
def ji(s:Stmt):List Stmt:=match s with | .FunctionDef _ _ b _ _ _ _ _ _ _=>b |_=>[]
def aU(s:Stmt):Scope:=match s with | .FunctionDef _ _ _ _ _ _ sc _ _ _=>sc |_=>{kind:=.function,names:=[],isGenerator:=false,isCoroutine:=false}
abbrev kh:kg:=λ_ _ _ _ _ _=>False
abbrev E0:XK:=λ_ _ _=>False
theorem CJ{X:Cx}:Passes kh X E0:=λ_ _ _ _ _ _ _ h=>h.elim
structure lj(K:aa)(x qual:Str)(st:Stmt)(f:Addr)(fd:FuncData):Prop where
 ex:∃(oc:Value)(od:Option Addr)(kV doc pm:Value)(an:Option Addr)(aL ct:Value)(j8:Array (Option Value)),fd=PySem.W.fnOf x qual (mO st) (ji st) (aU st) .none kV doc pm an aL ct/\K.lookup f=some #[oc,od,.func fd,j8]/\PySem.W.codeIn K aL qual=true
 kp:PySem.W.keepIn K (.ref f)=true
section
variable {P:ag}{w:World}{K:aa}{mg:ck}{aw:Heap}
theorem lj.ok{x qual:Str}{st:Stmt}{f:Addr}{fd:FuncData}{N ps:List Str}{k:Nat}{sp:Sp}(F:lj K x qual st f fd)(S:bo N ps (aU st))(len:∀vs H Q E,sp vs H Q E->vs.length=ps.length) (lR:∀(aL:Value)(A:ai)(outer:List Env)(s:af)(H:Hp)(vs:List V)(Q:VK)(E:XK),dP k (A.deeper (envOfC qual (aU st) s.heap.objs.size f aL))->sp vs H Q E->∃t,iU (mQ kh P w K mg aw N qual (aU st) f aL A outer s H E).uR (ji st) t/\t {nx:=λ_ H'=>Q .bw H',rt:=Q} (start N vs) H):fw P w K mg aw kh (k+1) f fd ps sp:=by let(oc,od,kV,doc,pm,an,aL,ct,j8,rfl,lk,jS):=F.ex;erw[Vx lk jS S len λA outer s H vs Q E hr lQ=>?_];let(t,h,q):=lR aL A outer s H vs Q E hr lQ;erw[t,h.uR,q]
theorem lj.binds{x qual:Str}{st:Stmt}{f:Addr}{fd:FuncData}{ps:List Str}(F:lj K x qual st f fd) (h:∀(kV doc pm:Value)(an:Option Addr)(aL ct:Value)(us:List Value),us.length=ps.length->bindArgs (PySem.W.fnOf x qual (mO st) (ji st) (aU st) .none kV doc pm an aL ct) #[us,[]]=pure (ps.zip us)):Binds K fd ps []:=by let(oc,od,kV,doc,pm,an,aL,ct,j8,rfl,lk,jS):=F.ex;erw[.all (h kV doc pm an aL ct)]
theorem Le{x qual:Str}{st:Stmt}{f:Addr}{oc:Value}{od an:Option Addr}{j8:Array (Option Value)}{kV doc pm aL ct:Value}(l:K.lookup f=some #[oc,od,.func (PySem.W.fnOf x qual (mO st) (ji st) (aU st) .none kV doc pm an aL ct),j8]) (c:PySem.W.codeIn K aL qual=true)(k:PySem.W.keepIn K (.ref f)=true):lj K x qual st f (PySem.W.fnOf x qual (mO st) (ji st) (aU st) .none kV doc pm an aL ct):=#[#[oc,od,kV,doc,pm,an,aL,ct,j8,Z,l,c],k]
end
section
variable {X:Cx}
theorem pv(i:Nat){x:Str}{pos:Pos}(hN:autoParam (X.N[i]? =some x) r8_._auto_1)(hv:autoParam (Em X.env.scope x) d8_._auto_1)(hd:autoParam ((x==("__debug__":Str))=false) q8_._auto_1) (jS:autoParam ((x==("__classdict__":Str))=false) q8_._auto_1):PE X (.Name x pos) (wG i):=Sq hN hv hd jS
end
theorem aR{A B:Prop}(h:B):if false=true then A else B:=by rw[bj eH];erw[h]
theorem bR{A B:Prop}(h:A):if true=true then A else B:=by rw[bc rfl];erw[h]
theorem gd{c A B:Prop}[Decidable c](h1:c->A)(h2:¬c->B):if c then A else B:=by
 by_cases h:c
 ·rw[bc h]
  erw[h1 h]
 ·rw[bj h]
  erw[h2 h]
def aH(H H':Hp):Prop:=∀b o,H b=some o->H' b=some o
theorem aH.refl(H:Hp):aH H H:=λ_ _ h=>h
theorem aH.trans{H H1 H2:Hp}(a:aH H H1)(b:aH H1 H2):aH H H2:=λc o h=>b c o (a c o h)
theorem aH.seq{K:aa}{H H':Hp}{a:Addr}{xs:List V}(e:aH H H')(h:aF K H a xs):aF K H' a xs:=by
 rcases h with(h|⟨o,h⟩)|h
 ·erw[.inl (.inl (e _ _ h))]
 ·erw[.inl (.inr #[o,e _ _ h])]
 ·erw[.inr h]
def Wd (i:Int):Prop:=i.natAbs<2^5000
theorem Wd.bits{i:Int}(h:Wd i):Builtin.Int.intBits i<=2^20:=iK (PyProof.Rows.intBits_le h) az
theorem Wd.log{i:Int}(h:Wd i):i.natAbs.log2<9000:=by
 by_cases e:i.natAbs=0
 ·rw[e];decide
 ·have h1:i.natAbs.log2<5000:=(Nat.log2_lt e).mpr h
  lia
section
variable {X:Cx}
theorem zE:cY X (binaryOp .FloorDiv) (rI (λ_ j=>0<j/\Wd j) λi j=>.int (i/j)):=zF λi j _ _ _ _ _ hc q=>by have h1:(0:Int)<j:=hc.1;erw[floordiv_int ao (by rw[Int.fdiv_eq_ediv_of_nonneg i ao];erw[q]) (.inl (PyProof.noPylong_of_log2 hc.2.log))]
theorem SF:cY X (binaryOp .FloorDiv) (rI (λ_ j=>j≠0/\Wd j) λi j=>.int (i.fdiv j)):=zF λ_ _ _ _ _ _ _ hc q=>floordiv_int hc.1 q (.inl (PyProof.noPylong_of_log2 hc.2.log))
end
def vW(K:aa)(H:Hp)(x:V)(T:String):Prop:=match x with | .bw=>T="NoneType" | .bl _=>T="bool" | .int _=>T="int" | .str _=>T="str" | .ref a=>(T="list"/\∃xs,aF K H a xs)\/(T="tuple"/\∃xs,aW K H a xs) |_=>False
def jl(T n:String):Bool:=T==n||(T=="bool"&&n=="int")
def BQ:List String:=["NoneType","bool","int","str","list","tuple"]
def yH:List String:=["bool","int","str","list","tuple"]
theorem Uq{K:aa}{T n:String}(h1:T∈BQ)(h2:n∈yH):PySem.W.kitOne K (.type T) (.type n)=some (jl T n):=by
 have all:BQ.all (λT=>yH.all λn=>PySem.W.kitOne [] (.type T) (.type n)==some (jl T n))=true:=by decide+kernel
 have a1:=g6.mp all T h1;have a2:=g6.mp a1 n h2;have e:PySem.W.kitOne K (.type T) (.type n)=PySem.W.kitOne [] (.type T) (.type n):=by unfold PySem.W.kitOne PySem.W.kitCls PySem.W.subIn;rfl
 rw[e];erw[fL.mp a2]
section
variable {X:Cx}
theorem vW.mem{K:aa}{H:Hp}{x:V}{T:String}(h:vW K H x T):T∈BQ:=by cases x with |bw=>cases(show T="NoneType" from h);decide |bl b=>cases(show T="bool" from h);decide |int b=>cases(show T="int" from h);decide |str b=>cases(show T="str" from h);decide |ref a=>rcases(show(T="list"/\∃xs,aF K H a xs)\/(T="tuple"/\∃xs,aW K H a xs)from h)with⟨e,_⟩|⟨e,_⟩<;>cases e<;>decide |_=>exact(show False from h).elim
theorem Ur{au:List (Addr×Obj)}{s:af}{O:St}{H:Hp}{x:V}{u:Value}{T:String}(I:Inv X au O H s)(rx:RelV x u)(ty:vW X.K H x T): ∃P:Heap->Prop,PySem.W.KitX X.K u (.type T) P/\P s.heap/\u≠ .builtin "__main__.__loader__#opaque":=by cases x with
 |bw=>cases(show T="NoneType" from ty);cases(show u=Value.none from rx);erw[_,PySem.W.kitx_none,True.intro,λz=>nomatch z] |bl b=>cases(show T="bool" from ty);cases(show u=Value.bool b from rx);erw[_,PySem.W.kitx_bool,True.intro,λz=>nomatch z] |int b=>cases(show T="int" from ty);let(t,q):=(show∃t,u=Value.int b t from rx);cases q;erw[_,PySem.W.kitx_int,True.intro,λz=>nomatch z] |str b=>cases(show T="str" from ty);let(t,q):=(show∃t,u=Value.str b t from rx);cases q;erw[_,PySem.W.kitx_str,True.intro,λz=>nomatch z] |ref a=>
  cases(show u=Value.ref a from rx);rcases(show(T="list"/\∃xs,aF X.K H a xs)\/(T="tuple"/\∃xs,aW X.K H a xs)from ty)with⟨e,xs,hx⟩|⟨e,xs,hx⟩
  ·cases e
   let(its,r,(o,n,h1,h2,_),_):=I.list hx;erw[_,PySem.W.kitx_list,#[o,h1,h2],λz=>nomatch z]
  ·cases e
   let(its,r,(o,h1,h2,_),_):=I.tuple hx;erw[_,PySem.W.kitx_tuple,#[o,h1,h2],λz=>nomatch z] |_=>exact(show False from ty).elim
inductive aeU(K:aa)(xs:List V)(H:Hp)(Q:VK):Prop |mk (x:_)(T:_)(n:_)(b:_)(h0:xs=[x,.ty n])(h1:vW K H x T)(h2:n∈yH)(h3:jl T n=b)(h4:Q (.bl b) H)
def Jc(K:aa):List V->Hp->VK->Prop:=λxs H Q=>aeU K xs H Q
theorem ac7:fD X (.builtin "isinstance") (Jc X.K):=by intro au s O H xs us Q I r h;let(x,T,n,b,rfl,ty,hn,rfl,q):=h;let(u,c,rfl,rx,rc):=vals2 r;cases(show c=Value.type n from rc);let(P,agW,p,hx):=Ur I rx ty;erw[PySem.W.kia_one agW I.iP p (Uq ty.mem hn) hx λtk=>#[.bl (jl T n),H,I.tok _,Z,q]]
inductive aeT(K:aa)(xs:List V)(H:Hp)(Q:VK):Prop |mk (x:V)(T:String)(p:Addr)(ns:List String)(b:Bool)(h0:xs=[x,.ref p])(h1:H p=some (.tup (ns.map V.ty)))(h2:vW K H x T)(h3:(∀n∈ns,n∈yH))(h4:ns.any (jl T)=b)(h5:Q (.bl b) H)
def Jb(K:aa):List V->Hp->VK->Prop:=λxs H Q=>aeT K xs H Q
theorem Up{K:aa}{T:String}(h1:T∈BQ):∀{ns:List String},(∀n∈ns,n∈yH)->PySem.W.kitAny K (.type T) (ns.map Value.type)=some (ns.any (jl T)) |[],_=>rfl |n::r,h=>by have e:=Uq (K:=K) h1 (h n (N4 ..));have ih:=Up (K:=K) h1 (ns:=r) λm hm=>h m (yw _ hm);rw[rA,PySem.W.kitAny,e,yz];cases jl T n with |true=>rfl |false=>simpa using ih
theorem Nk:∀{ns:List String}{us:List Value},Vals (ns.map V.ty) us->us=ns.map Value.type |[],_,.nil=>rfl |n::r,_,.cons q t=>by cases(show _=Value.type n from q);rw[Nk t];rfl
theorem ac6:fD X (.builtin "isinstance") (Jb X.K):=by intro au s O H xs us Q I r h;let(x,T,p,ns,b,rfl,hp,ty,hn,rfl,q):=h;let(u,c,rfl,rx,rc):=vals2 r;cases(show c=Value.ref p from rc);let(P,agW,pp,hx):=Ur I rx ty;let(_,its,rv,(cls,dd,dt,sl),h1,h2,n,h3):=(show kb X.prog X.w H s.heap p (.tup (ns.map V.ty))from I.bX p _ hp);simp only at h2 h3;subst h2 h3;have e:=Nk rv;subst e;erw[PySem.W.kia_tup agW I.iP pp h1 (Up ty.mem hn) hx λtk=>#[.bl _,H,I.tok _,Z,q]]
end
mutual
def RD(K:aa)(H:Hp):V->ah->Prop |x,.none=>x= .bw |x,.bool b=>x= .bl b |x,.int i=>x= .int i |x,.str y=>x= .str y |x,.list ds=>∃a xs,x= .ref a/\aF K H a xs/\aK K H xs ds |x,.tuple ds=>∃a xs,x= .ref a/\aW K H a xs/\aK K H xs ds |_,.dict _=>False
def aK (K:aa)(H:Hp):List V->List ah->Prop |xs,[]=>xs=[] |xs,d::ds=>∃y ys,xs=y::ys/\RD K H y d/\aK K H ys ds
end
section
variable {X:Cx}
mutual
theorem RD.reads{au:List (Addr×Obj)}{s:af}{O:St}{H:Hp}(I:Inv X au O H s):∀{x:V}{u:Value}(d:ah),RelV x u->RD X.K H x d->∃as,Reads s.heap u d as |x,u,.none,r,h=>by cases(show x= .bw from by simpa[RD]using h);cases(show u=Value.none from r);erw[_,.none] |x,u,.bool b,r,h=>by cases(show x= .bl b from by simpa[RD]using h);cases(show u=Value.bool b from r);erw[_,.bool b] |x,u,.int i,r,h=>by cases(show x= .int i from by simpa[RD]using h);let(t,q):=(show∃t,u=Value.int i t from r);cases q;erw[_,.int i t] |x,u,.str y,r,h=>by cases(show x= .str y from by simpa[RD]using h);let(t,q):=(show∃t,u=Value.str y t from r);cases q;erw[_,.str y t] |x,u,.list ds,r,h=>by rw[RD]at h;let(a,xs,rfl,hx,hd):=h;cases(show u=Value.ref a from r);let(its,rv,(o,n,h1,h2,h3,h4),_):=I.list hx;let(as,q):=aK.reads I ds rv hd;erw[_,.list h1 h2 h4 (by simpa using q)] |x,u,.tuple ds,r,h=>by rw[RD]at h;let(a,xs,rfl,hx,hd):=h;cases(show u=Value.ref a from r);let(its,rv,(o,h1,h2,n,h4),_):=I.tuple hx;let(as,q):=aK.reads I ds rv hd;erw[_,.tuple h1 h2 h4 (by simpa using q)] |x,u,.dict _,r,h=>by simp[RD]at h
theorem aK.reads {au:List (Addr×Obj)}{s:af}{O:St}{H:Hp}(I:Inv X au O H s):∀{xs:List V}{us:List Value}(ds:List ah),Vals xs us->aK X.K H xs ds->∃as,ReadsAll s.heap us ds as |xs,us,[],r,h=>by cases(show xs=[]from by simpa[aK]using h);cases r;erw[_,.nil] |xs,us,d::ds,r,h=>by rw[aK]at h;let(y,ys,rfl,h1,h2):=h;cases r with |cons ra rb=>let(as,q):=RD.reads I d ra h1;let(bs,q'):=aK.reads I ds rb h2;erw[_,.cons q q']
end
inductive af1(K:aa)(x:V)(y:V)(H:Hp)(Q:VK):Prop |mk (d:_)(e:_)(h0:RD K H x d)(h1:RD K H y e)(h2:SeqAt.shaped d=true)(h3:SeqAt.shaped e=true)(h4:Q (.bl (PyData.eqv d e)) H)
def Jd(K:aa):R2:=λx y H Q=>af1 K x y H Q
inductive aeO(K:aa)(x:V)(y:V)(H:Hp)(Q:VK):Prop |mk (d:_)(e:_)(h0:RD K H x d)(h1:RD K H y e)(h2:SeqAt.shaped d=true)(h3:SeqAt.shaped e=true)(h4:Q (.bl (!PyData.eqv d e)) H)
def J8(K:aa):R2:=λx y H Q=>aeO K x y H Q
theorem a2o(hu:X.A.units+64<cLine):cY X (compareOp .Eq) (Jd X.K):=by intro au s O H x y v u Q I rx ry h;let(d,e,hd,he,sd,se,q):=h;let(as,ra):=RD.reads I d rx hd;let(bs,rb):=RD.reads I e ry he;erw[eq_dataH ra rb sd se hu #[.bl _,H,I,Z,q]]
theorem a2k(hu:X.A.units+64<cLine):cY X (compareOp .NotEq) (J8 X.K):=by intro au s O H x y v u Q I rx ry h;let(d,e,hd,he,sd,se,q):=h;let(as,ra):=RD.reads I d rx hd;let(bs,rb):=RD.reads I e ry he;erw[ne_dataH ra rb sd se hu #[.bl _,H,I,Z,q]]
end
theorem aH.new{H:Hp}{t:Addr}{o:HO}(ht:H t=none):aH H (upd H t o):=λb o' e=>by rw[aY (eJ e ht)];erw[e]
structure Nw(H H':Hp)(p:Addr)(o:HO):Prop where
 no:H p=none
 at':H' p=some o
 same:aH H H'
 eq:H'=upd H p o
theorem Nw.of{H:Hp}{p:Addr}{o:HO}(h:H p=none):Nw H (upd H p o) p o:=#[h,cg,.new h,Z]
def Eg:List Str:=["len","abs","min","max","range","isinstance","int","bool","str","tuple","list","any","all","sum","zip","enumerate","sorted","reversed","ord","chr","divmod","repr","dict","set"]
def bI (mg:ck):Prop:=∀x∈Eg,mg x=none
theorem bI.at{mg:ck}(B:bI mg)(x:Str)(h:autoParam (x∈Eg) q8_._auto_1):mg x=none:=B x h
theorem dA{α:Type}{C:List α->Prop}(h:∀a,C [a]):∀us:List α,us.length=1->C us |[_],_=>h _
theorem dW{α:Type}{C:List α->Prop}(h:∀a b,C [a,b]):∀us:List α,us.length=2->C us |[_,_],_=>h _ _
theorem iE{α:Type}{C:List α->Prop}(h:∀a b c,C [a,b,c]):∀us:List α,us.length=3->C us |[_,_,_],_=>h _ _ _
theorem yb{α:Type}{C:List α->Prop}(h:∀a b c d,C [a,b,c,d]):∀us:List α,us.length=4->C us |[_,_,_,_],_=>h _ _ _ _
theorem al5{α:Type}{C:List α->Prop}(h:∀a b c d e,C [a,b,c,d,e]):∀us:List α,us.length=5->C us |[_,_,_,_,_],_=>h _ _ _ _ _
def Vr(N P:List Str)(sc:Scope):Bool:=decide (sc.kind= .function)&& !sc.isCoroutine&& !sc.isGenerator&&decide N.Nodup&&decide (N.take P.length=P)&&P.all (λx=>decide (sc.names.lookup x=some .local\/sc.names.lookup x=some .cell))&&sc.names.all λy=>decide (y.2≠ .free)
theorem bp{N P:List Str}{sc:Scope}(h:Vr N P sc=true):bo N P sc:=by unfold Vr at h;simp only[fz,EG,Bool.not_eq_true',g6]at h;let((((((h1,h2),h3),h4),h5),h6),h7):=h;erw[h1,h2,h3,h4,h5,h6,h7]
structure FA(K:aa)(mg:ck)(x:Str)(st:Stmt):Prop where ex:∃f fd,mg x=some (.ref f)/\lj K x x st f fd
def aA(P:ag)(w:World)(K:aa)(mg:ck)(aw:Heap)(x:Str)(k:Nat)(sp:Sp):Prop:=∃f fd ps,fw P w K mg aw kh k f fd ps sp/\mg x=some (.ref f)/\PySem.W.keepIn K (.ref f)=true/\Binds K fd ps []
section
variable {P:ag}{w:World}{K:aa}{mg:ck}{aw:Heap}
theorem a9J{h:Heap}{x:Str}{st:Stmt}{f:Addr}{oc:Value}{od an:Option Addr}{j8:Array (Option Value)}{kV doc pm aL ct:Value}(X:K.In h)(G:h.Ns mainGlobals mg) (a:PySem.W.nsIn K mainGlobals x=some (some (.ref f))) (l:K.lookup f=some #[oc,od,.func (PySem.W.fnOf x x (mO st) (ji st) (aU st) .none kV doc pm an aL ct),j8]) (c:PySem.W.codeIn K aL x=true)(k:PySem.W.keepIn K (.ref f)=true):FA K mg x st:=#[f,_,Bo X G a,Le l c k]
theorem FA.has{x:Str}{st:Stmt}{N ps:List Str}{k:Nat}{sp:Sp}(F:FA K mg x st)(S:bo N ps (aU st))(len:∀vs H Q E,sp vs H Q E->vs.length=ps.length) (hb:∀(kV doc pm:Value)(an:Option Addr)(aL ct:Value)(us:List Value),us.length=ps.length->bindArgs (PySem.W.fnOf x x (mO st) (ji st) (aU st) .none kV doc pm an aL ct) #[us,[]]=pure (ps.zip us)) (lR:∀(f:Addr)(aL:Value)(A:ai)(outer:List Env)(s:af)(H:Hp)(vs:List V)(Q:VK)(E:XK),dP k (A.deeper (envOfC x (aU st) s.heap.objs.size f aL))->sp vs H Q E->∃t,iU (mQ kh P w K mg aw N x (aU st) f aL A outer s H E).uR (ji st) t/\t {nx:=λ_ H'=>Q .bw H',rt:=Q} (start N vs) H):aA P w K mg aw x (k+1) sp:=by let(f,fd,hm,F):=F.ex;erw[f,fd,ps,F.ok S len λaL A outer s H vs Q E=>lR f aL A outer s H vs Q E,hm,F.kp,F.binds hb]
end
section
variable {X:Cx}{k:Nat}{x:Str}{p pos:Pos}{e:Expr}{es:List Expr}{t:TA}{sp:Sp}
def Fd(sp:Sp)(t:TA):TE:=λO H Q=>t O H λvs H1=>sp vs H1 Q E0
theorem a1T(F:aA X.prog X.w X.K X.mg X.aw x k sp)(hr:dP k X.A)(hg:Gl X x)(ha:PA X (e::es) t)(jx:autoParam ((x==("__debug__":Str))=false) q8_._auto_1) (he:autoParam (starEach (e::es) X.env=(false,eval e X.env)::starEach es X.env) r8_._auto_1)(gs:autoParam ((backTo pos (starEach es X.env)).any (·.1)=false) r8_._auto_1): PE X (.Call (.Name x p) (e::es) [] pos) (Fd sp t):=by
 let(f,fd,ps,F,hm,hk,hb):=F;have h:=a1X (pos:=pos) (p:=p) F hr hg hm hk hb .nil CJ ha jx he gs;intro au s O H Q I hq;erw[h au s O H Q I ?_];have e1:(λ(vs:List V) H1=>sp (vs++[]) H1 Q E0)=λvs H1=>sp vs H1 Q E0:=by funext vs H1;rw[oA]
 show t O H λvs H1=>sp (vs++[]) H1 Q E0;rw[e1];erw[hq]
theorem pf{j:Nat}(F:aA X.prog X.w X.K X.mg X.aw x j sp)(hr:dP k X.A)(ha:PA X (e::es) t)(hjk:autoParam (j<=k) q8_._auto_1)(hg:autoParam (Gl X x) r8_._auto_1)(jx:autoParam ((x==("__debug__":Str))=false) q8_._auto_1)(he:autoParam (starEach (e::es) X.env=(false,eval e X.env)::starEach es X.env) r8_._auto_1)(gs:autoParam ((backTo pos (starEach es X.env)).any (·.1)=false) r8_._auto_1):PE X (.Call (.Name x p) (e::es) [] pos) (Fd sp t):=a1T F (hr.mono hjk) hg ha jx he gs
theorem cK:cY X (binaryOp .Mult) (rI (λi j=>IntMulOk i j) λi j=>.int (i*j)):=zF λ_ _ _ _ _ _ _ hc q=>mul_int q hc
theorem a2n:cY X (compareOp .Eq) (kO λi j=>.bl (decide (i=j))):=xk λ_ _ _ _ _ _ _ q=>eq_int (by rw[Bool.beq_eq_decide_eq];erw[q])
theorem a2j:cY X (compareOp .NotEq) (kO λi j=>.bl (!decide (i=j))):=xk λ_ _ _ _ _ _ _ q=>ne_int (by rw[bne,Bool.beq_eq_decide_eq];erw[q])
theorem a2p(hu:X.A.units+64<cLine):cY X (compareOp .Eq) (λx y H Q=>kO (λi j=>.bl (decide (i=j))) x y H Q\/Jd X.K x y H Q):=a2n.or (a2o hu)
theorem a2l(hu:X.A.units+64<cLine):cY X (compareOp .NotEq) (λx y H Q=>kO (λi j=>.bl (!decide (i=j))) x y H Q\/J8 X.K x y H Q):=a2j.or (a2k hu)
mutual
theorem eqv_refl:∀d:ah,d.canLay0=true->PyData.eqv d d=true | .none,_=>by simp[PyData.eqv] | .bool b,_=>by simp[PyData.eqv] | .int i,_=>by simp[PyData.eqv] | .str x,_=>by simp[PyData.eqv] | .list ds,h=>by simp only[PyData.eqv];erw[eqvAll_refl ds (by simpa[PyData.canLay0]using h)] | .tuple ds,h=>by simp only[PyData.eqv];erw[eqvAll_refl ds (by simpa[PyData.canLay0]using h)] | .dict _,h=>by simp[PyData.canLay0]at h
theorem eqvAll_refl:∀ds:List ah,PyData.canLayAll0 ds=true->PyData.eqvAll ds ds=true |[],_=>by simp[PyData.eqvAll] |d::ds,h=>by simp only[PyData.canLayAll0,fz]at h;simp only[PyData.eqvAll,fz];erw[eqv_refl d h.1,eqvAll_refl ds h.2]
end
theorem fP{K:aa}{H:Hp}(i:Int):RD K H (.int i) (.int i):=by simp[RD]
theorem bJ{K:aa}{H:Hp}(x:Str):RD K H (.str x) (.str x):=by simp[RD]
theorem zj{K:aa}{H:Hp}:RD K H .bw .none:=by simp[RD]
theorem fO{K:aa}{H:Hp}{p:Addr}{xs:List V}{ds:List ah}(h:aW K H p xs)(r:aK K H xs ds):RD K H (.ref p) (.tuple ds):=by rw[RD];erw[p,xs,Z,h,r]
theorem wZ{K:aa}{H:Hp}{p:Addr}{xs:List V}{ds:List ah}(h:aF K H p xs)(r:aK K H xs ds):RD K H (.ref p) (.list ds):=by rw[RD];erw[p,xs,Z,h,r]
theorem cX{K:aa}{H:Hp}:aK K H [] []:=by simp[aK]
theorem cE{K:aa}{H:Hp}{x:V}{xs:List V}{d:ah}{ds:List ah}(h:RD K H x d)(r:aK K H xs ds):aK K H (x::xs) (d::ds):=by rw[aK];erw[x,xs,Z,h,r]
inductive adb(t:TS)(D:Ends)(O:St)(H:Hp):Prop |mk (MC:St->Hp->Prop)(h0:t {D with nx:=MC} O H)(h1:∀σ' H',MC σ' H'->D.nx σ' H')
def Z7(t:TS):TS:=λD O H=>adb t D O H
theorem j3{st:Stmt}{t:TS}(h:PS X st t):PS X st (Z7 t):=by intro au s O H D I hq;let(MC,q,m):=hq;erw[aZ (h au s O H _ I q) λf s1 q1=>?_];cases f with |next=>let(σ',H',I',q'):=q1;erw[σ',H',I',m _ _ q'] |brk=>erw[q1] |cont=>erw[q1] |ret u=>erw[q1]
end
def tV(K:aa)(xs:List Str):Prop:=∀x∈xs,PySem.W.nsIn K mainGlobals x=some none
theorem tV.nil{K:aa}:tV K []:=λ_ h=>nomatch h
theorem tV.cons{K:aa}{x:Str}{xs:List Str}(a:PySem.W.nsIn K mainGlobals x=some none)(r:tV K xs):tV K (x::xs):=λy hy=>by
 rcases cO.mp hy with e|e
 ·rw[e];erw[a]
 ·erw[r y e]
theorem ack{K:aa}{mg:ck}{h:Heap}(X:K.In h)(G:h.Ns mainGlobals mg)(a:tV K Eg):bI mg:=λx hx=>PySem.W.mg_none_of X G (a x hx)
theorem M4{env:Env}:∀(ns:List (Str×NameKind))(cs:List (Str×Addr)),(∀x∈ns,x.2= .free->∃c,env.cells.lookup x.1=some c)->(∀x c,cs.lookup x=some c->env.cells.lookup x=some c)->∃cl,(forIn ns cs (λx r=>if(x.2==NameKind.free)=true then do let a<-cellOf env x.1;pure (ForInStep.yield ((x.1,a)::r))else pure (ForInStep.yield r)):Sem (List (Str×Addr)))=pure cl/\(∀x c,cl.lookup x=some c->env.cells.lookup x=some c)/\(∀x c,cs.lookup x=some c->∃c',cl.lookup x=some c')/\∀x∈ns,x.2= .free->∃c,cl.lookup x.1=some c
 |[],cs,_,h2=>#[cs,Z,h2,λx c e=>#[c,e],λ_ h=>nomatch h] |(n,k)::r,cs,h1,h2=>by
  by_cases hk:k= .free
  ·subst hk
   let(c,hc):=h1 (n,.free) (.head _) rfl;have e1:cellOf env n=pure c:=by unfold cellOf;rw[show env.cells.lookup n=some c from hc]
   let(cl,a1,a2,a3,a4):=M4 r ((n,c)::cs) (λx hx=>h1 x (.tail _ hx)) (λx d e=>by rw[kJ]at e;cases z:x==n with |true=>rw[z]at e;cases e;rw[fL.mp z];erw[hc] |false=>rw[z]at e;erw[h2 x d e]);erw[cl,?_,a2,λx d e=>?_,λx hx hf=>?_]
   ·rw[N9]
    show(do let r'<-(if(NameKind.free==NameKind.free)=true then do let a<-cellOf env n;pure (ForInStep.yield ((n,a)::cs))else pure (ForInStep.yield cs));_)=_;rw[bc (by rfl),e1];erw[a1]
   ·by_cases z:x==n
    ·erw[a3 x c (by rw[kJ,z])]
    ·erw[a3 x d (by rw[kJ,EY.mpr z];erw[e])]
   ·rcases cO.mp hx with rfl|hx
    ·erw[a3 n c (by rw[kJ,MK])]
    ·erw[a4 x hx hf]
  ·let(cl,a1,a2,a3,a4):=M4 r cs (λx hx=>h1 x (.tail _ hx)) h2
   erw[cl,?_,a2,a3,λx hx hf=>?_]
   ·rw[N9]
    show(do let r'<-(if(k==NameKind.free)=true then do let a<-cellOf env n;pure (ForInStep.yield ((n,a)::cs))else pure (ForInStep.yield cs));_)=_;rw[bj (by simpa using hk)];erw[a1]
   ·rcases cO.mp hx with rfl|hx
    ·erw[absurd hf hk]
    ·erw[a4 x hx hf]
theorem M5{env:Env}{scope:Scope}(h1:∀x∈scope.names,x.2= .free->∃c,env.cells.lookup x.1=some c): ∃cl,closureFor scope env=pure cl/\(∀x c,cl.lookup x=some c->env.cells.lookup x=some c)/\∀x∈scope.names,x.2= .free->∃c,cl.lookup x.1=some c:=by
 let(cl,a1,a2,_,a4):=M4 (env:=env) scope.names [] h1 (λx c e=>nomatch e);erw[cl,?_,a2,a4];unfold closureFor;show(forIn scope.names ([]:List (Str×Addr)) (λ(x:Str×NameKind) r=>match x with|(name,kind)=>if(kind==NameKind.free)=true then do let a<-cellOf env name;pure (ForInStep.yield ((name,a)::r))else pure (ForInStep.yield r))>>=λr=>(pure r:Sem (List (Str×Addr))))=pure cl;have ef:(λ(x:Str×NameKind)(r:List (Str×Addr))=>match x with|(name,kind)=>(if(kind==NameKind.free)=true then do let a<-cellOf env name;pure (ForInStep.yield ((name,a)::r))else pure (ForInStep.yield r):Sem (ForInStep (List (Str×Addr))))) =λx r=>if(x.2==NameKind.free)=true then do let a<-cellOf env x.1;pure (ForInStep.yield ((x.1,a)::r))else pure (ForInStep.yield r):=by funext x r;let(n,k):=x;rfl
 rw[ef,a1];rfl
theorem U7{env:Env}(hk:env.scope.kind= .function){x:Str}(hx:env.kindOf x=some .cell):∀{names:List (Str×NameKind)},names.lookup x=some .free->(names.map λ(n,k)=>if(k==NameKind.free&&env.scope.kind== .function&&env.kindOf n==some .cell)then(n,NameKind.cell)else(n,k)).lookup x=some .cell |[],h=>nomatch h |(n,k)::r,h=>by have ih:=@U7 env hk x hx r;show List.lookup x ((if(k==NameKind.free&&env.scope.kind== .function&&env.kindOf n==some .cell)=true then(n,NameKind.cell)else(n,k))::_)=_;cases z:x==n with |true=>simp only[kJ,z]at h;cases h;have e:=fL.mp z;subst e;rw[bc (by rw[hk,hx];rfl),kJ,z] |false=>simp only[kJ,z]at h;split<;>(simp only[kJ,z];erw[ih h])
def dg(X:Cx)(N:List Str)(scope:Scope)(cl:List (Str×Addr))(s:af)(H:Hp)(fp:List Addr)(au:List (Addr×Obj)):Cx:={prog:=X.prog,w:=X.w,K:=X.K,mg:=X.mg,aw:=X.aw,A:=X.A,N:=N,s₀:=s,H₀:=H,env:=compEnvC scope cl s.heap.objs.size X.env,outer:=X.stack,stack:=X.stack,ex:=fp,fn:=λ_=>false,calm:=X.calm,pn:=X.pn++au,xe:=λ_ _=>False}
def stC(js:List (Option Nat))(O:St):St:=js.map λ|none=>none|some j=>(O[j]?).join
def AO(X:Cx)(N:List Str)(js:List (Option Nat))(scope:Scope):Bool:=N.length==js.length&&(N.zip js).all λp=>match p.2 with|none=>true|some j=>X.N[j]? ==some p.1&&scope.names.lookup p.1==some NameKind.free&&X.env.kindOf p.1==some NameKind.cell
def tQ(X:Cx)(scope:Scope):Bool:=scope.kind== .function&&X.env.scope.kind== .function&&scope.names.all λx=>match x.2 with | .free=>X.env.kindOf x.1==some NameKind.cell | .cell=>false | .local=>scope.names.lookup x.1==some NameKind.local |_=>true
section
variable {X:Cx}{au:List (Addr×Obj)}{O:St}{H:Hp}{s:af}
theorem lookup_mem{α β:Type}[BEq α][LawfulBEq α]:∀{l:List (α×β)}{x:α}{b:β},l.lookup x=some b->(x,b)∈l |[],_,_,h=>nomatch h |(n,k)::r,x,b,h=>by rw[kJ]at h;cases z:x==n with |true=>rw[z]at h;cases h;rw[fL.mp z];erw[.head _] |false=>rw[z]at h;erw[.tail _ (lookup_mem h)]
theorem RV{env:Env}{x:Str}{k:NameKind}:∀{names:List (Str×NameKind)},(names.map λ(n,k)=>if(k==NameKind.free&&env.scope.kind== .function&&env.kindOf n==some .cell)then(n,NameKind.cell)else(n,k)).lookup x=some k->names.lookup x=some k\/(k= .cell/\names.lookup x=some .free) |[],h=>nomatch h |(n,k')::r,h=>by have ih:=@RV env x k r;have h':List.lookup x ((if(k'==NameKind.free&&env.scope.kind== .function&&env.kindOf n==some .cell)=true then(n,NameKind.cell)else(n,k'))::(r.map λ(n,k)=>if(k==NameKind.free&&env.scope.kind== .function&&env.kindOf n==some .cell)then(n,NameKind.cell)else(n,k)))=some k:=h;cases z:x==n with
 |true=>
  split at h'
  ·rename_i hc
   simp only[kJ,z]at h';cases h';rw[fz,fz]at hc;have e:k'= .free:=fL.mp hc.1.1;subst e;erw[.inr #[Z,by rw[kJ,z]]]
  ·simp only[kJ,z]at h'
   cases h';erw[.inl (by rw[kJ,z])] |false=>
  rw[kJ,z];erw[ih ?_];split at h'
  ·simpa only[kJ,z]using h'
  ·simpa only[kJ,z]using h'
theorem Inv.comp{N:List Str}{js:List (Option Nat)}{scope:Scope}{cl:List (Str×Addr)}{fp:List Addr}{h':Heap}{tk:Nat}(I:Inv X au O H s)(hN:AO X N js scope=true)(hS:tQ X scope=true) (c1:∀x c,cl.lookup x=some c->X.env.cells.lookup x=some c)(c2:∀x∈scope.names,x.2= .free->∃c,cl.lookup x.1=some c)(hf:∀b∈fp,kd X au H b)(hfl:∀b∈fp,b<s.heap.objs.size) (hn:h'.Ns s.heap.objs.size λ_=>none)(hk:∀b o,s.heap.get? b=some o->h'.get? b=some o):Inv (dg X N scope cl s H fp au) [] (stC js O) H {s with heap:=h',toks:=tk}:=by
 unfold tQ at hS;rw[fz,fz]at hS;let((s1,s2),s3):=hS;have mH:scope.kind= .function:=fL.mp s1;have a7n:X.env.scope.kind= .function:=fL.mp s2;unfold AO at hN;rw[fz]at hN;let(n1,n2):=hN;have hlen:N.length=js.length:=fL.mp n1;have UD:∀x k,(relabel scope X.env).names.lookup x=some k->scope.names.lookup x=some k\/(k= .cell/\scope.names.lookup x=some .free):=λx k e=>RV e;have a4E:∀x,scope.names.lookup x≠some .cell:=λx e=>by have:=g6.mp s3 _ (lookup_mem e);erw[eH this]
 have Vq:∀b∈(dg X N scope cl s H fp au).fs,b∈X.env.locals::X.fs:=I.Fm;have ok:(dg X N scope cl s H fp au).Ok:={
  mod:=I.ok.mod
  kind:=mH
  glob:=I.ok.glob
  blt:=I.ok.blt
  above:=bf _
  inj:=λx y c e1 e2=>I.ok.inj x y c (c1 x c e1) (c1 y c e2)
  has:=λx hx=>by
   have fr:scope.names.lookup x=some .free->∃c,cl.lookup x=some c:=λe=>c2 (x,.free) (lookup_mem e) rfl;rcases hx with e|e
   ·rcases UD x _ e with e|⟨_,e⟩
    ·erw[absurd e (a4E x)]
    ·erw[fr e]
   ·rcases UD x _ e with e|⟨z,_⟩
    ·erw[fr e]
    ·cases z
  xZ:=λx c e=>nomatch e
  hd:=I.ok.hd
  frames:=I.ok.frames
  yQ:=.inl rfl
  LC:=λb hb=>#[eY (hfl b hb),λx c e=>(hf b hb).2.2.2.2.1 x c (c1 x c e)]
  bs:=I.bs
  pE:=iK I.ok.pE I.sz
  xu:=λb o e hb=>by
   rcases(hf b hb).2.2.2.1 with z|z
   ·erw[I.ok.xu b o e z]
   ·erw[absurd (gR (cH e) (iK I.ok.pE z)) (yu _)]
  tI:=λb hb z=>by
   let(_,q1,q2,_):=hf b hb;rcases cO.mp (Vq b z)with e|e
   ·erw[q1 e]
   ·erw[q2 e]
  lS:=I.stack
  tE:=I.NY};erw[ok,Z,I.bare,Un.kept hk,#[_,hn,λi x v e1 e2 e3=>?_],λx c e=>?_,I.bX.fresh (bf _),λx c e=>I.pk x c (c1 x c e),λp hp=>?_,I.bX.kept hk,?_]
 ·have xT:(js.map λ|none=>none|some j=>(O[j]?).join)[i]? =some (some v):=e2
  rw[bP]at xT;cases hj:js[i]? with |none=>rw[hj]at xT;cases xT |some o=>rw[hj]at xT;cases o with |none=>cases xT |some j=>
   have hz:(N.zip js)[i]? =some (x,some j):=by rw[Bx];erw[e1,hj]
   have Wv:=g6.mp n2 _ (fR hz);simp only[fz,fL]at Wv;let((h1,h2),h3):=Wv;have E5:(O[j]?).join=some v:=by simpa using xT
   have hσ:O[j]? =some (some v):=by cases q:O[j]? with |none=>rw[q]at E5;cases E5 |some o=>
    rw[q]at E5;have:o=some v:=by simpa using E5
    rw[this]
   let(m,hm,hl):=I.loc;let(u,r,l):=hl j x v h1 hσ (.inr (.inl h3));erw[u,r,?_];rcases l with⟨k,_⟩|⟨_,c,hc,p9⟩
   ·rw[h3]at k;cases k
   ·let(c',jU):=c2 (x,.free) (lookup_mem h2) rfl
    have:=c1 x c' jU;rw[hc]at this;cases this;erw[.inr #[.inl (U7 a7n h3 h2),c,jU,?_]];let(ob,ho,hd):=p9;erw[ob,hk _ _ ho,hd]
 ·let(v,ob,ho,hd):=I.cell x c (c1 x c e)
  erw[v,ob,hk _ _ ho,hd]
 ·have DJ:p∈X.pn++au:=by simpa[dg]using hp
  let(a1,a2,a3,a4,a5):=I.pin p DJ;erw[hk _ _ a1,a2,eY (cH a1),λz=>?_,a5];rcases cO.mp (Vq p.1 z)with e|e
  ·erw[a3 e]
  ·erw[a4 e]
 ·show(js.map _).length=N.length
  rw[ba,hlen]
end
theorem Wt{prog:ag}{w:World}{A:ai}{R:Result->af->Prop}{s:af}{elt target iter:Expr}{ifs:List Expr}{scope:Scope}{pos:Pos}{it acc:Value}{env:Env}(I:Nat->af->Prop) (turn:∀n s,I n s->wpAny (model prog w) A (pyNext it) (λr s₁=>match r with |none=>R (.ok .next) s₁ |some v=>wpAny (model prog w) A (letOwnedTupleGo target it v) (λ_ s₁=>wpAny (model prog w) A (assign target env v) (λ_ s₂=>wpAny (model prog w) A (forIn ifs true λc r=>if r=true then do let ok<-isTrue c env (eval c env);pure (ForInStep.yield ok)else pure (ForInStep.yield r)) (λok s₃=>if ok=true then wpAny (model prog w) A (eval elt env) (λx s₄=>wpAny (model prog w) A (call (.builtin "list.append") [acc,x]) (λ_ s₅=>∃m,m<n/\I m s₅) (λ_ _=>False) s₄) (λ_ _=>False) s₃ else∃m,m<n/\I m s₃) (λ_ _=>False) s₂) (λ_ _=>False) s₁) (λ_ _=>False) s₁) (λ_ _=>False) s) (n:Nat)(h:I n s):codeAny (model prog w) A (.compLoop (.ListComp elt [#[target,iter,ifs,0]] scope pos) 0 it acc env) R s:=by erw[codeAny_loop Z I (λn s hI=>?_) n h];show wpAny _ A ((compTurn (.ListComp elt [#[target,iter,ifs,0]] scope pos) 0 it acc env).onRaise (λx=>do noteFrame x env;theTreesLotGoes x)) _ _ s;erw[wpAny_noted ?_];rw[compTurn_list];erw[aM (tZ (aM (gI (turn n s hI) (λr s₁ h₁=>?_) λ_ _ h'=>h'.elim)))];cases r with |none=>erw[cn h₁] |some v=>erw[aM (gI h₁ (λ_ NS h₁=>?_) λ_ _ h'=>h'.elim)];erw[aM (gI h₁ (λ_ s₂ h₂=>aM (gI h₂ (λok s₃ h₃=>?_) λ_ _ h'=>h'.elim)) λ_ _ h'=>h'.elim)];cases ok with |false=>erw[cn #[Z,h₃]] |true=>erw[aM (aM (gI h₃ (λx s₄ h₄=>aM (gI h₄ (λ_ s₅ h₅=>cn (cn #[Z,h₅])) λ_ _ h'=>h'.elim)) λ_ _ h'=>h'.elim))]
def Mx(X:Cx)(ifs:List Expr)(t:TT):Prop:=∀(au:List (Addr×Obj))(s:af)(O:St)(H:Hp)(Q:Bool->Hp->Prop),Inv X au O H s->t O H Q->wpAny (model X.prog X.w) X.A (forIn ifs true λc r=>if r=true then do let ok<-isTrue c X.env (eval c X.env);pure (ForInStep.yield ok)else pure (ForInStep.yield r)) (TP X au O Q) X.xe s
def kK:TT:=λ_ H Q=>Q true H
theorem dZ{X:Cx}:Mx X [] kK:=λ_ _ _ H _ I h=>wpAny_tests_nil #[H,I,h]
def lZ(J:It)(g:TG)(tt:TT)(te:TE)(Q:VK)(D:Addr)(O:St)(H:Hp):Prop:=∃W:Nat->Nat->St->Hp->Prop,(∃m,W 0 m O H)/\∀i m σ' H',W i m σ' H'->(J.stop i H'/\Q (.ref D) H')\/(J.go i H'/\∀x H2,J.jG i H' x H2->g x σ' H2 λσ3 H3=>tt σ3 H3 λok H4=>if ok=true then te σ3 H4 λy H5=>∃ys,H5 D=some (.lst ys)/\ys.length<sizeLine/\∃m',m'<m/\W (i+1) m' σ3 (upd H5 D (.lst (ys++[y]))) else∃m',m'<m/\W (i+1) m' σ3 H4)
def NN(js:List (Option Nat))(wi:TI)(g:TG)(tt:TT)(te:TE):TE:=λO H Q=>wi O H λJ H1=>∀D H2,Nw H1 H2 D (.lst [])->lZ J g tt te Q D (stC js O) H2
theorem fK.but{P:ag}{w:World}{H:Hp}{h h':Heap}{C:Addr}(ok:fK P w H h)(hn:H C=none)(hs:Heap.SameBut C h h'):fK P w H h':=λb ob e=>by
 refine(ok b ob e).rP (λc w' hc q=>(hs.2 c ?_).trans q) (λ_ q=>q) λ_ _ q=>q;rintro rfl;rcases hc with rfl|hc
 ·rw[hn]at e;cases e
 ·rw[hn]at hc;cases hc
set_option maxHeartbeats 1000000 in
theorem eU{X:Cx}{N:List Str}{js:List (Option Nat)}{elt tg iter:Expr}{ifs:List Expr}{scope:Scope}{pos:Pos}{wi:TI}{g:TG}{tt:TT}{te:TE}(hc:X.calm=true)(hN:AO X N js scope=true)(hS:tQ X scope=true) (hi:PI X tg iter wi)(hg:∀cl s H fp au,PG (dg X N scope cl s H fp au) tg g)(ht:∀cl s H fp au,Mx (dg X N scope cl s H fp au) ifs tt)(he:∀cl s H fp au,PE (dg X N scope cl s H fp au) elt te) (hs:autoParam (∀x,foldedSetIterable iter X.env x=pure x) d8_._auto_1):PE X (.ListComp elt [#[tg,iter,ifs,0]] scope pos) (NN js wi g tt te):=by
 intro au s O H Q I h;have nY:=hS;unfold tQ at nY;rw[fz,fz]at nY;let((k1,k2),k3):=nY;have mH:scope.kind= .function:=fL.mp k1;have sZ:∀x∈scope.names,x.2= .free->∃c,X.env.cells.lookup x.1=some c:=λx hx e=>by have:=g6.mp k3 x hx;rw[e]at this;erw[I.ok.has x.1 (.inl (fL.mp this))]
 have p9:∀x∈scope.names,x.2≠ .cell:=λx hx e=>by have:=g6.mp k3 x hx;rw[e]at this;erw[eH this]
 have Ae:∀x∈scope.names,x.2= .local->scope.names.lookup x.1=some .local:=λx hx e=>by have:=g6.mp k3 x hx;rw[e]at this;erw[fL.mp this]
 let(cl,Al,c1,c2):=M5 sZ;rw[eval_ListComp];erw[Xp (use:=none) Z hs Al mH Ae (aZ (hi au s O H _ I h) λv s1 h1=>aZ h1 λA1 s2 h2=>?_)];let(it,fp,tn,J,H2,e,I2,T,oF,f2,h2):=h2;subst e;have hD:H2 s2.heap.objs.size=none:=I2.bX.fresh (bf _);let(W,(m0,w0),turn):=h2 _ _ (Nw.of hD);erw[pL (Xo p9 (by intro y hy;simp at hy) (λh₁ sR sP=>?_) mH)];have o5:∀b∈fp,b<s2.heap.objs.size:=λb hb=>by let(o,e,_):=T.obj _ _ oF b hb;erw[cH e]
 have I3:Inv X au O (upd H2 s2.heap.objs.size (.lst [])) {s2 with heap:=s2.heap.push {cls:=.type "list",dict:=none,data:=.seq ([]:List Value).toArray}}:=I2.Dn (its:=[]) (t':=s2.toks) .nil (fE _);generalize tD:s2.heap.push {cls:=.type "list",dict:=none,data:=.seq ([]:List Value).toArray}=h3 at I3 sR sP;have rO:h3.objs.size=s2.heap.objs.size+1:=by rw[<-tD,rE]
 have A0:∀b o,s2.heap.get? b=some o->h3.get? b=some o:=λb o e=>by rw[<-tD];erw[cN _ e]
 have f3:∀b∈fp,kd X au (upd H2 s2.heap.objs.size (.lst [])) b:=λb hb=>#[by rw[aY (eY (o5 b hb))];exact(f2 b hb).1,(f2 b hb).2];have sH:∀b o,h3.get? b=some o->h₁.get? b=some o:=λb o e=>(sP.2 b (eY (cH e))).trans (cN _ e);have I4:Inv (dg X N scope cl {s2 with heap:=h3} (upd H2 s2.heap.objs.size (.lst [])) fp au) [] (stC js O) (upd H2 s2.heap.objs.size (.lst [])) {s2 with heap:=h₁,toks:=s2.toks+([]:List (Str×Value)).length}:=I3.comp (s:={s2 with heap:=h3}) hN hS c1 c2 f3 (λb hb=>by show b<h3.objs.size;rw[rO];erw[Br (o5 b hb)]) (by simpa using sR) sH;have rV:tn 0 h₁:=T.keep _ _ _ oF λb _ o e=>sH b o (A0 b o e);have loop:codeAny (model X.prog X.w) X.A (.compLoop (.ListComp elt [#[tg,iter,ifs,0]] scope pos) 0 (.ref it) (.ref s2.heap.objs.size) (compEnvC scope cl h3.objs.size X.env)) (compPost (model X.prog X.w) X.A X.xe none (EP X au O Q) (.ref s2.heap.objs.size) h3.objs.size) {s2 with heap:=h₁,toks:=s2.toks+([]:List (Str×Value)).length}:=by
  erw[Wt (λn s'=>∃i σ' H',Inv (dg X N scope cl {s2 with heap:=h3} (upd H2 s2.heap.objs.size (.lst [])) fp au) [] σ' H' s'/\tn i s'.heap/\(∀b∈fp,H' b=none)/\W i n σ' H') ?_ m0 #[0,_,_,I4,rV,λb hb=>(f3 b hb).1,w0]];rintro n s5 ⟨i,σ5,H5,I5,m9,pA,w5⟩;have ko:∀{H':Hp},(∀b∈fp,H' b=none)->∀b∈fp,kd (dg X N scope cl {s2 with heap:=h3} (upd H2 s2.heap.objs.size (.lst [])) fp au) [] H' b:=λ{H'} hn b hb=>by
   let(_,q1,q2,q3,q4,q5):=f3 b hb;erw[hn b hb,λz=>?_,I4.ok.tI b hb,.inl hb,λx c e=>q4 x c (c1 x c e),λp hp=>q5 p (by simpa[dg]using hp)];have cB:b<h3.objs.size:=by rw[rO];erw[Br (o5 b hb)]
   erw[eY cB z]
  rcases turn i n σ5 H5 w5 with⟨stop,qn⟩|⟨go,step⟩
  ·erw[aZ (T.done (dg X N scope cl {s2 with heap:=h3} (upd H2 s2.heap.objs.size (.lst [])) fp au) rfl rfl rfl hc i [] s5 σ5 H5 _ I5 (ko pA) m9 stop) λr s6 #[hr,I6]=>?_]
   subst hr;let(m,hm,_):=I6.loc;erw[m,hm,λh7 qA=>?_];have u0:Un (fW X.stack) fp (upd H2 s2.heap.objs.size (.lst [])) H5 h3 s6.heap:=I6.aw;have ne:∀b o,h3.get? b=some o->b≠h3.objs.size:=λb o e=>eY (cH e);have u:Un (fW X.stack) fp (upd H2 s2.heap.objs.size (.lst [])) H5 h3 h7:=#[λb o e n hb hx=>(qA.2 b (ne b o e)).trans (u0.keep b o e n hb hx),λb o e n hb hx=>let#[sl,q]:=u0.slot b o e n hb hx;#[sl,(qA.2 b (ne b o e)).trans q],u0.free,λb o e hx=>let#[o',q]:=u0.there b o e hx;#[o',(qA.2 b (ne b o e)).trans q],u0.lH,u0.kW,u0.lI];have I7:Inv X au O H5 {s6 with heap:=h7}:=I3.M9 (s':={s6 with heap:=h7}) (ch:=fp) I6.os u (I6.bX.but I6.free qA) I6.bare λb hb=>#[(f3 b hb).2.2.2.1,(f3 b hb).2.1,(f3 b hb).2.2.2.2.1,(f3 b hb).2.2.2.2.2];erw[.ref s2.heap.objs.size,H5,I7,Z,qn]
  ·erw[aZ (T.item (dg X N scope cl {s2 with heap:=h3} (upd H2 s2.heap.objs.size (.lst [])) fp au) rfl rfl rfl hc i [] s5 σ5 H5 _ I5 (ko pA) m9 go) λr s6 #[u,hr,h6]=>?_]
   subst hr;erw[aZ h6 λ_ s7 #[x,H7,I7,r7,y7,lJ,Aw]=>?_];have Bb:=I7.pinned (ko Aw) (T.obj _ _ lJ);erw[aZ (hg _ _ _ _ _ _ s7 σ5 H7 x u _ Bb r7 (step x H7 y7)) λ_ s8 #[σ8,H8,I8,q8]=>?_];erw[aZ (ht _ _ _ _ _ _ s8 σ8 H8 _ I8 q8) λok s9 #[H9,I9,q9]=>?_];have again:∀{s':af}{σ7:St}{H7:Hp},Inv (dg X N scope cl {s2 with heap:=h3} (upd H2 s2.heap.objs.size (.lst [])) fp au) ([]++qe fp s7.heap) σ7 H7 s'->(∃m',m'<n/\W (i+1) m' σ7 H7)->∃m,m<n/\∃i σ' H',Inv (dg X N scope cl {s2 with heap:=h3} (upd H2 s2.heap.objs.size (.lst [])) fp au) [] σ' H' s'/\tn i s'.heap/\(∀b∈fp,H' b=none)/\W i m σ' H':=λ{s' σ7 H7} J7 n7=>by let(m',hm,w7):=n7;erw[m',hm,i+1,σ7,H7,J7.ui,T.keep _ _ _ lJ λb hb o e=>(J7.pin (b,o) (gT _ (gT _ (oQ hb e)))).1,λb hb=>?_,w7];let(o,e,d):=T.obj _ _ lJ b hb;exact(J7.pin (b,o) (gT _ (gT _ (oQ hb e)))).2.1
   cases ok with |false=>rw[bj eH]at q9⊢;erw[again I9 q9] |true=>rw[bc rfl]at q9⊢;erw[aZ (he _ _ _ _ _ _ s9 σ8 H9 _ I9 q9) λyv uA #[y,oq,Bc,Je,ys,xI,hz,wD]=>?_];erw[aZ (D5 _ uA σ8 oq (.ref s2.heap.objs.size) [y] (.ref s2.heap.objs.size) [yv] (λ_ jj=>∃m',m'<n/\W (i+1) m' σ8 jj) Bc Z (.cons Je .nil) #[_,ys,y,Z,Z,xI,hz,wD]) λ_ oJ #[v11,jj,yh,r11,Jf]=>?_];erw[again yh Jf]
 erw[Xr loop (T.self _ 0 _ _ _ rV loop)]
theorem Mb:∀{bs:List Bool}{us:List Value},Vals (bs.map V.bl) us->us=bs.map Value.bool |[],_,.nil=>rfl |b::r,_,.cons q t=>by cases(show _=Value.bool b from q);rw[Mb t];rfl
section
variable {X:Cx}
theorem acb(hc:X.calm=true):fD X (.builtin "all") (λxs H Q=>∃(l:Addr)(bs:List Bool),xs=[.ref l]/\aF X.K H l (bs.map V.bl)/\Q (.bl (bs.all id)) H):=by
 intro au s O H xs us Q I r h;let(l,bs,rfl,hl,q):=h;let(u,rfl,ru):=vals1 r;cases(show u=Value.ref l from ru);let(its,rv,pl,hz):=I.list hl;have e:=Mb rv;subst e;have gQ:=pl.isList;have cB:l<s.heap.objs.size:=by let(_,e,_):=gQ;erw[cH e]
 have hh:=I.ok.hd hc;erw[call_all_walk (Bj gQ ?_)];erw[s.heap.objs.size,[s.heap.objs.size,l],[s.heap.objs.size],(bs.map Value.bool).toArray.size,_,_,λi=>(bs[i]?).getD true,Z,Walks.list (A:=X.A.in1) hh _ l (eY cB) (bs.map Value.bool).toArray,#[#[_,eZ _ Z,Z,Z],gQ.push _],λi v s' Q' E' hP hQ=>?_,λh' tk hk=>?_]
 ·have nZ:(bs.map Value.bool)[i]? =some v:=by simpa using hP
  rw[bP]at nZ;cases e:bs[i]? with |none=>rw[e]at nZ;cases nZ |some b=>rw[e]at nZ;cases nZ;simp only[e,Option.getD_some]at hQ;erw[pK hQ]
 ·have e:((List.range (bs.map Value.bool).toArray.size).all λi=>(bs[i]?).getD true)=bs.all id:=by rw[eP,ba];erw[LSm.range_all bs]
  rw[e];erw[.bl _,H,I.kept (LSm.kept_iter hk),Z,q]
theorem aca(hc:X.calm=true):fD X (.builtin "any") (λxs H Q=>∃(l:Addr)(bs:List Bool),xs=[.ref l]/\aF X.K H l (bs.map V.bl)/\Q (.bl (bs.any id)) H):=by
 intro au s O H xs us Q I r h;let(l,bs,rfl,hl,q):=h;let(u,rfl,ru):=vals1 r;cases(show u=Value.ref l from ru);let(its,rv,pl,hz):=I.list hl;have e:=Mb rv;subst e;have gQ:=pl.isList;have cB:l<s.heap.objs.size:=by let(_,e,_):=gQ;erw[cH e]
 have hh:=I.ok.hd hc;erw[call_any_walk (Bj gQ ?_)];erw[s.heap.objs.size,[s.heap.objs.size,l],[s.heap.objs.size],(bs.map Value.bool).toArray.size,_,_,λi=>(bs[i]?).getD false,Z,Walks.list (A:=X.A.in1) hh _ l (eY cB) (bs.map Value.bool).toArray,#[#[_,eZ _ Z,Z,Z],gQ.push _],λi v s' Q' E' hP hQ=>?_,λh' tk hk=>?_]
 ·have nZ:(bs.map Value.bool)[i]? =some v:=by simpa using hP
  rw[bP]at nZ;cases e:bs[i]? with |none=>rw[e]at nZ;cases nZ |some b=>rw[e]at nZ;cases nZ;simp only[e,Option.getD_some]at hQ;erw[pK hQ]
 ·have e:((List.range (bs.map Value.bool).toArray.size).any λi=>(bs[i]?).getD false)=bs.any id:=by rw[eP,ba];erw[LSm.range_any bs]
  rw[e];erw[.bl _,H,I.kept (LSm.kept_iter hk),Z,q]
end
theorem xX{J:It}{g:TG}{tt:TT}{te:TE}{Q:VK}{D:Addr}{O:St}{H:Hp}(n:Nat)(Pv:Nat->St->Hp->Prop)(h0:Pv 0 O H) (hs:∀i O H,i<n->Pv i O H->J.go i H/\∀x H2,J.jG i H x H2->g x O H2 λσ3 H3=>tt σ3 H3 λok H4=>if ok=true then te σ3 H4 λy H5=>∃ys,H5 D=some (.lst ys)/\ys.length<sizeLine/\∃m',m'<n-i/\m'=n-(i+1)/\i+1<=n/\Pv (i+1) σ3 (upd H5 D (.lst (ys++[y]))) else∃m',m'<n-i/\m'=n-(i+1)/\i+1<=n/\Pv (i+1) σ3 H4) (hd:∀O H,Pv n O H->J.stop n H/\Q (.ref D) H): lZ J g tt te Q D O H:=by
 erw[λi m O H=>m=n-i/\i<=n/\Pv i O H,#[n,by simp,fE _,h0],?_];rintro i m O H ⟨rfl,hi,p⟩;by_cases cB:i<n
 ·erw[.inr (hs i O H cB p)]
 ·have e:i=n:=by lia
  subst e;erw[.inl (hd O H p)]
section
variable {X:Cx} {tg:Expr}
theorem ixK(K:aa)(h:X.K=K):qX X (λx y H Q=>Ja K x y H Q\/J9 K x y H Q):=by subst h;erw[a6a.or a69]
inductive aeK(K:aa)(x:V)(lo:Option Int)(hi:Option Int)(H:Hp)(Q:VK):Prop |mk (a:_)(xs:_)(h0:x= .ref a)(h1:((aF K H a xs/\∀p H',Nw H H' p (.lst (lX xs lo hi))->Q (.ref p) H')\/ (aW K H a xs/\¬(_H.cC xs.length 0 lo=0/\_H.cC xs.length xs.length hi=xs.length)/\∀p H',Nw H H' p (.tup (lX xs lo hi))->Q (.ref p) H')))
def a1c(K:aa):V->Option Int->Option Int->Hp->VK->Prop:=λx lo hi H Q=>aeK K x lo hi H Q
theorem yZ(K:aa)(h:X.K=K):Eo X (a1c K):=by
 subst h;intro au s O H x v vl vu lo hi sl Q I rx hs pl pu hq;let(a,xs,e,hq):=hq;rcases hq with⟨h1,k⟩|⟨h1,h2,k⟩
 ·erw[ZN au s O H x v vl vu lo hi sl Q I rx hs pl pu #[a,xs,e,h1,λp hp=>k p _ (.of hp)]]
 ·erw[ZM au s O H x v vl vu lo hi sl Q I rx hs pl pu #[a,xs,e,h1,h2,λp hp=>k p _ (.of hp)]]
theorem a5S(K:aa)(h:X.K=K):fD X (.builtin "len") (λxs H Q=>∃p ys,xs=[.ref p]/\(aF K H p ys\/aW K H p ys)/\Q (.int ys.length) H):=by subst h;erw[ac5]
theorem a6g(K:aa)(h:X.K=K):fD X (.builtin "isinstance") (λxs H Q=>Jc K xs H Q\/Jb K xs H Q):=by subst h;erw[ac7.or ac6]
theorem dU(K:aa)(h:X.K=K)(hu:X.A.units+64<cLine):cY X (compareOp .Eq) (λx y H Q=>kO (λi j=>.bl (decide (i=j))) x y H Q\/Jd K x y H Q):=by subst h;erw[a2p hu]
theorem kR(K:aa)(h:X.K=K)(hu:X.A.units+64<cLine):cY X (compareOp .NotEq) (λx y H Q=>kO (λi j=>.bl (!decide (i=j))) x y H Q\/J8 K x y H Q):=by subst h;erw[a2l hu]
theorem vU(K:aa)(h:X.K=K)(hc:X.calm=true):fD X (.builtin "all") (λxs H Q=>∃(l:Addr)(bs:List Bool),xs=[.ref l]/\aF K H l (bs.map V.bl)/\Q (.bl (bs.all id)) H):=by subst h;erw[acb hc]
theorem X2(K:aa)(h:X.K=K)(hc:X.calm=true):fD X (.builtin "any") (λxs H Q=>∃(l:Addr)(bs:List Bool),xs=[.ref l]/\aF K H l (bs.map V.bl)/\Q (.bl (bs.any id)) H):=by subst h;erw[aca hc]
theorem Dq(K:aa)(h:X.K=K):fD X (.type "list") (λxs H Q=>∃p ys,xs=[.ref p]/\(aF K H p ys\/aW K H p ys)/\∀l H',Nw H H' l (.lst ys)->Q (.ref l) H'):=by subst h;intro au s O H xs us Q I r hq;let(p,ys,e,h1,k):=hq;erw[ac3 au s O H xs us Q I r #[p,ys,e,h1,λl hl=>k l _ (.of hl)]]
theorem kn(K:aa)(h:X.K=K):fD X (.type "tuple") (λxs H Q=>∃p ys,xs=[.ref p]/\((aF K H p ys/\∀l H',Nw H H' l (.tup ys)->Q (.ref l) H')\/(aW K H p ys/\Q (.ref p) H))):=by subst h;intro au s O H xs us Q I r hq;let(p,ys,e,h1):=hq;erw[ac0 au s O H xs us Q I r #[p,ys,e,h1.imp (λ#[a,k]=>#[a,λl hl=>k l _ (.of hl)]) id]]
def YV(t:TA):TE:=λO H Q=>t O H λxs H1=>xs.length<=sizeLine/\∀p H',Nw H1 H' p (.tup xs)->Q (.ref p) H'
def Z9(t:TA):TE:=λO H Q=>t O H λxs H1=>xs.length<=sizeLine/\∀p H',Nw H1 H' p (.lst xs)->Q (.ref p) H'
theorem j6{es:List Expr}{t:TA}{pos:Pos} {x1}(h:PA X es t):PE X (.Tuple es x1 pos) (YV t):=by intro au s O H Q I hq;erw[wpAny_Tuple_spliced (aZ (h pos au s O H _ I hq) λus s1 #[xs,H1,I1,r,z,q]=>#[by rw[<-r.length];erw[z],?_])];have hf:H1 s1.heap.objs.size=none:=I1.bX.fresh (bf _);erw[.ref s1.heap.objs.size,upd H1 s1.heap.objs.size (.tup xs),I1.laid (t':=s1.toks) (λb u e=>cN _ e) (bf _) ?_,Z,q _ _ (.of hf)];erw[z,us,r,#[_,eZ _ Z,Z,_,Z]]
theorem dw{es:List Expr}{t:TA}{pos:Pos}(h:PA X es t):PE X (.List es pos) (Z9 t):=by intro au s O H Q I hq;erw[wpAny_List_spliced (aZ (h pos au s O H _ I hq) λus s1 #[xs,H1,I1,r,z,q]=>#[by rw[<-r.length];erw[z],?_])];have hf:H1 s1.heap.objs.size=none:=I1.bX.fresh (bf _);erw[.ref s1.heap.objs.size,upd H1 s1.heap.objs.size (.lst xs),I1.laid (t':=s1.toks) (λb u e=>cN _ e) (bf _) ?_,Z,q _ _ (.of hf)];erw[z,us,0,r,eZ _ Z]
theorem nk(K:aa)(h:X.K=K){l:Expr}{tl:TE}(hl:PE X l tl):PI X tg l (UG K tl):=by subst h;erw[a1L hl]
theorem j5(K:aa)(h:X.K=K){l:Expr}{tl:TE}(hl:PE X l tl):PI X tg l (UE K tl):=by subst h;erw[a1K hl]
theorem eg(K:aa)(h:X.K=K){es:List Expr}{k:Nat}{t:pG}{n:Nat}{pos:Pos}(hc:X.calm=true)(hg:B8 X es t)(hn:autoParam ((assignEach es X.env).length=n) r8_._auto_1)(nF:autoParam ((assignEach es X.env).findIdx? (·.1)=none) r8_._auto_1): PG X (.Tuple es k pos) (Au K n t):=by subst h;erw[a1M hc hg hn nF]
theorem jr(K:aa)(h:X.K=K){o e:Expr}{to:TE}{t:TA}{apos dE:Pos}(ho:PE X o to)(ha:PA X [e] t) (nS:autoParam (attributeBase o "append" X.env (eval o X.env)=eval o X.env) r8_._auto_1) (nO:autoParam (((backTo dE (starEach [e] X.env)).all (λx=>!x.1)&&(backToKw dE (keywordEach [] X.env)).all (λx=>x.1.isSome) &&decide ([e].length+([]:List Keyword).length+(if([]:List Keyword).isEmpty then 0 else 1)<30))=true) r8_._auto_1) (nL:autoParam ((apos.endLine==dE.line)=true) r8_._auto_1)(hs:autoParam (starEach [e] X.env=(false,eval e X.env)::starEach [] X.env) r8_._auto_1)(nJ:autoParam ((backTo dE (starEach [] X.env)).any (·.1)=false) r8_._auto_1): PE X (.Call (.Attribute o "append" apos) [e] [] dE) (wH K "list" Sb to t):=by subst h;erw[zw PySem.F.plainAttrs_list PySem.F.slot_list_append PySem.F.type_list_append D5 ho ha nS nO nL hs nJ]
theorem BJ{j:Nat}{x:V}{O:St}{H:Hp}{A B:St->Hp->Prop}(h:A (O.set j (some x)) H):gu j x O H λσ3 H3=>kK σ3 H3 λok H4=>if ok=true then A σ3 H4 else B σ3 H4:=by show if true=true then A (O.set j (some x)) H else B (O.set j (some x)) H;rw[bc rfl];erw[h]
theorem yes{O:St}{H:Hp}{Q:Bool->Hp->Prop}(h:Q true H):kK O H Q:=h
end
theorem aF.go{K:aa}{H H':Hp}{a:Addr}{xs:List V}(s:aH H H')(h:aF K H a xs):aF K H' a xs:=h.imp (λr=>r.imp (s _ _) λ#[o,e]=>#[o,s _ _ e]) id
theorem aW.go{K:aa}{H H':Hp}{a:Addr}{xs:List V}(s:aH H H')(h:aW K H a xs):aW K H' a xs:=h.imp (λr=>r.imp (s _ _) λ#[o,e]=>#[o,s _ _ e]) id
mutual
theorem RD.mono{K:aa}{H H':Hp}(s:aH H H'):∀{x:V}(d:ah),RD K H x d->RD K H' x d |x,.none,h=>by simpa[RD]using h |x,.bool b,h=>by simpa[RD]using h |x,.int i,h=>by simpa[RD]using h |x,.str y,h=>by simpa[RD]using h |x,.list ds,h=>by rw[RD]at h⊢;let(a,xs,e,h1,h2):=h;erw[a,xs,e,h1.go s,aK.mono s ds h2] |x,.tuple ds,h=>by rw[RD]at h⊢;let(a,xs,e,h1,h2):=h;erw[a,xs,e,h1.go s,aK.mono s ds h2] |x,.dict _,h=>by simp[RD]at h
theorem aK.mono {K:aa}{H H':Hp}(s:aH H H'):∀{xs:List V}(ds:List ah),aK K H xs ds->aK K H' xs ds |xs,[],h=>by simpa[aK]using h |xs,d::ds,h=>by rw[aK]at h⊢;let(y,ys,e,h1,h2):=h;erw[y,ys,e,RD.mono s d h1,aK.mono s ds h2]
end
section
variable {K:aa} {H H':Hp}
theorem aK.nil_inv{xs:List V}(h:aK K H xs []):xs=[]:=by simpa[aK]using h
theorem aK.cons_inv{xs:List V}{d:ah}{ds:List ah}(h:aK K H xs (d::ds)):∃y ys,xs=y::ys/\RD K H y d/\aK K H ys ds:=by rw[aK]at h;erw[h]
theorem RD.cv{x:V}{ds:List ah}(h:RD K H x (.tuple ds)):∃a xs,x= .ref a/\aW K H a xs/\aK K H xs ds:=by rw[RD]at h;erw[h]
theorem RD.lst_inv{x:V}{ds:List ah}(h:RD K H x (.list ds)):∃a xs,x= .ref a/\aF K H a xs/\aK K H xs ds:=by rw[RD]at h;erw[h]
theorem RD.int_inv{x:V}{i:Int}(h:RD K H x (.int i)):x= .int i:=by rw[RD]at h;erw[h]
theorem RD.acm{x:V}{i:Bool}(h:RD K H x (.bool i)):x= .bl i:=by rw[RD]at h;erw[h]
theorem RD.str_inv{x:V}{i:Str}(h:RD K H x (.str i)):x= .str i:=by rw[RD]at h;erw[h]
theorem RD.JE{x:V}(h:RD K H x .none):x= .bw:=by rw[RD]at h;erw[h]
theorem aK.length:∀{xs:List V}{ds:List ah},aK K H xs ds->xs.length=ds.length |xs,[],h=>by rw[h.nil_inv];rfl |xs,d::ds,h=>by let(y,ys,rfl,_,h2):=h.cons_inv;rw[gz,gz,aK.length h2]
theorem aK.append:∀{xs ys:List V}{ds es:List ah},aK K H xs ds->aK K H ys es->aK K H (xs++ys) (ds++es) |xs,ys,[],es,h,g=>by rw[h.nil_inv];erw[g] |xs,ys,d::ds,es,h,g=>by let(y,zs,rfl,h1,h2):=h.cons_inv;erw[cE h1 (aK.append h2 g)]
theorem aK.take:∀(n:Nat){xs:List V}{ds:List ah},aK K H xs ds->aK K H (xs.take n) (ds.take n) |0,xs,ds,h=>by rw[wo,wo];erw[cX] |n+1,xs,[],h=>by rw[h.nil_inv];erw[cX] |n+1,xs,d::ds,h=>by let(y,zs,rfl,h1,h2):=h.cons_inv;erw[cE h1 (aK.take n h2)]
theorem aK.get:∀(n:Nat){xs:List V}{ds:List ah}{d:ah},aK K H xs ds->ds[n]? =some d->∃x,xs[n]? =some x/\RD K H x d
 |n,xs,[],d,h,e=>by simp at e |0,xs,d'::ds,d,h,e=>by
  let(y,zs,rfl,h1,h2):=h.cons_inv;have e':d'=d:=by simpa using e
  subst e';erw[y,Z,h1] |n+1,xs,d'::ds,d,h,e=>by let(y,zs,rfl,h1,h2):=h.cons_inv;erw[aK.get n h2 (by simpa using e)]
theorem aK.get'(n:Nat){xs:List V}{ds:List ah}{x:V}(h:aK K H xs ds)(e:xs[n]? =some x):∃d,ds[n]? =some d/\RD K H x d:=by
 have hl:n<ds.length:=by rw[<-h.length];exact(cJ.mp e).1
 let(y,e1,r):=h.get n (bN hl);rw[e]at e1;cases e1;erw[_,bN hl,r]
def lG:ah->String | .none=>"NoneType" | .bool _=>"bool" | .int _=>"int" | .str _=>"str" | .list _=>"list" | .tuple _=>"tuple" | .dict _=>"dict"
theorem RD.ty{x:V}:∀{d:ah},RD K H x d->vW K H x (lG d) | .none,h=>by rw[h.JE];rfl | .bool b,h=>by rw[h.acm];rfl | .int b,h=>by rw[h.int_inv];rfl | .str b,h=>by rw[h.str_inv];rfl | .list ds,h=>by let(a,xs,rfl,h1,_):=h.lst_inv;erw[.inl #[Z,xs,h1]] | .tuple ds,h=>by let(a,xs,rfl,h1,_):=h.cv;erw[.inr #[Z,xs,h1]] | .dict _,h=>by simp[RD]at h
structure dq(n:Nat)(d:ah):Prop where
 lay:d.canLay0=true
 dep:d.depth<=n
def iq(n:Nat)(ds:List ah):Prop:=∀d∈ds,dq n d
theorem dq.le{n m:Nat}{d:ah}(h:dq n d)(l:n<=m):dq m d:=#[h.lay,iK h.dep l]
theorem xn{n:Nat}:∀{ds:List ah},iq n ds↔(PyData.canLayAll0 ds=true/\PyData.depthAll ds<=n)
 |[]=>#[λ_=>#[Z,fE _],λ_ _ h=>nomatch h] |d::ds=>by
  have ih:=xn (n:=n) (ds:=ds);simp only[PyData.canLayAll0,PyData.depthAll,fz];constructor
  ·intro h
   have h1:=h d (.head _);have h2:=ih.mp λx hx=>h x (.tail _ hx);erw[#[h1.lay,h2.1],Nat.max_le.mpr #[h1.dep,h2.2]]
  ·rintro⟨⟨a,b⟩,c⟩ x hx
   have c':=Nat.max_le.mp c;rcases cO.mp hx with rfl|hx
   ·erw[a,c'.1]
   ·erw[ih.mpr #[b,c'.2] x hx]
theorem iq.tup{n:Nat}{ds:List ah}(h:iq n ds):dq (n+1) (.tuple ds):=#[by simpa[PyData.canLay0]using(xn.mp h).1,by simpa[PyData.depth]using(xn.mp h).2]
theorem iq.lst{n:Nat}{ds:List ah}(h:iq n ds):dq (n+1) (.list ds):=#[by simpa[PyData.canLay0]using(xn.mp h).1,by simpa[PyData.depth]using(xn.mp h).2]
theorem dq.cv{n:Nat}{ds:List ah}(h:dq (n+1) (.tuple ds)):iq n ds:=xn.mpr #[by simpa[PyData.canLay0]using h.lay,by simpa[PyData.depth]using h.dep]
theorem dq.int{n:Nat}(i:Int):dq n (.int i):=#[Z,fE _]
theorem dq.bw{n:Nat}:dq n .none:=#[Z,fE _]
theorem iq.nil{n:Nat}:iq n []:=λ_ h=>nomatch h
theorem iq.cons{n:Nat}{d:ah}{ds:List ah}(h:dq n d)(g:iq n ds):iq n (d::ds):=λx hx=>by
 rcases cO.mp hx with rfl|hx
 ·erw[h]
 ·erw[g x hx]
theorem dq.shaped{n:Nat}{d:ah}(h:dq n d)(l:n<=64):SeqAt.shaped d=true:=by unfold SeqAt.shaped;rw[h.lay,jE];erw[cu (iK h.dep l)]
theorem dq.refl{n:Nat}{d:ah}(h:dq n d):PyData.eqv d d=true:=eqv_refl d h.lay
variable {p:Addr}{n m:Nat}{v:V}{vs:List V}{d:ah}{ds es:List ah}
end
section
variable {X:Cx}
end
end _L
namespace _H
open PySem PySem.Spec PyProof.Rows
section
variable {prog:ag}{w:World}{A:ai}{E:Value->af->Prop}{s:af}
end
end _H
namespace _L
open PySem PySem.Spec PyProof.Rows
section
variable {X:Cx}
end
end _L
namespace _L
theorem cx{α:Type}{xs:List α}{i:Int}{v:α}(h0:0<=i)(h:xs[i.toNat]? =some v):fc xs i=some v:=by have hl:i.toNat<xs.length:=(cJ.mp h).1;unfold fc jv;rw[bc h0,bc ao];erw[h]
end _L
namespace _L
open PySem PySem.Spec PyProof.Rows
theorem yY(n:Nat)(h:n<=1000):n<=sizeLine:=iK h az
section
variable {X:Cx}{p pos pos':Pos}{a b e:Expr}{es:List Expr}{ta tb te:TE}{t:TA}{x:Str}
theorem px(K:aa)(ha:PE X a ta)(hb:PE X b tb)(hK:autoParam (X.K=K) r8_._auto_1)(hp:autoParam (Xf b) d8_._auto_1):PE X (.Subscript a b pos) (yN (λx y H Q=>Ja K x y H Q\/J9 K x y H Q) ta tb):=Jl (ixK K hK) ha hb hp
theorem mi(K:aa)(B:bI X.mg)(ha:PA X (e::es) t)(hK:autoParam (X.K=K) r8_._auto_1)(hg:autoParam (Gl X "isinstance") r8_._auto_1)(he:autoParam (starEach (e::es) X.env=(false,eval e X.env)::starEach es X.env) r8_._auto_1)(gs:autoParam ((backTo pos (starEach es X.env)).any (·.1)=false) r8_._auto_1):PE X (.Call (.Name "isinstance" p) (e::es) [] pos) (C1 (λxs H Q=>Jc K xs H Q\/Jb K xs H Q) t):=fG (a6g K hK) hg (B.at "isinstance") PyProof.Rows.boot_isinstance ha az az he gs
theorem fU(K:aa)(B:bI X.mg)(ha:PA X (e::es) t)(hK:autoParam (X.K=K) r8_._auto_1)(hg:autoParam (Gl X "len") r8_._auto_1)(he:autoParam (starEach (e::es) X.env=(false,eval e X.env)::starEach es X.env) r8_._auto_1)(gs:autoParam ((backTo pos (starEach es X.env)).any (·.1)=false) r8_._auto_1):PE X (.Call (.Name "len" p) (e::es) [] pos) (C1 (λxs H Q=>∃p ys,xs=[.ref p]/\(aF K H p ys\/aW K H p ys)/\Q (.int ys.length) H) t):=fG (a5S K hK) hg (B.at "len") PySem.boot_len ha az az he gs
theorem pS(i:Nat)(hN:X.N.Nodup)(he:PE X e te)(hi:autoParam (X.N[i]? =some x) r8_._auto_1)(hx:autoParam (Loc X.env.scope x) d8_._auto_1)(hs:autoParam (swapsWith e (some (.Name x pos')) pos.line X.env=pure false) r8_._auto_1)(hf:autoParam (X.fn x=true\/X.env.scope.names.lookup x=some .local) d8_._auto_1):PS X (.Assign [.Name x pos'] e pos) (yP te (gu i)):=a1v hN hi hx he hs hf
theorem aV(i:Nat)(hN:X.N.Nodup)(hi:autoParam (X.N[i]? =some x) r8_._auto_1)(hx:autoParam (Loc X.env.scope x) d8_._auto_1)(hf:autoParam (X.fn x=true\/X.env.scope.names.lookup x=some .local) d8_._auto_1):PG X (.Name x pos) (gu i):=a1N hN hi hx hf
theorem iO (a:Str):[a].Nodup:=by simp
theorem jQ{a b:Str}(h:(a==b)=false):[a,b].Nodup:=by
 have:a≠b:=λz=>by rw[z,MK]at h;cases h
 simp[this]
theorem cy{n:Nat}(h:Nat.ble n 1000=true):n<=sizeLine:=yY n (XE h)
end
def GV(mg:ck)(x:Str)(v:V):Prop:=∃u,mg x=some u/\RelV v u
def GT(K:aa)(mg:ck)(x:Str)(vs:List V):Prop:=∃a,GV mg x (.ref a)/\∀H,aW K H a vs
theorem eD{X:Cx}{x:Str}{v:V}{pos:Pos}(hg:Gl X x)(h:GV X.mg x v)(hd:autoParam ((x==("__debug__":Str))=false) q8_._auto_1):PE X (.Name x pos) (tC v):=by let(u,hm,r):=h;erw[a1R hg hm r hd]
section
variable {K:aa} {mg:ck} {h:Heap}
theorem kC{x:Str}{i:Int}{t:Tok}(X:K.In h)(G:h.Ns mainGlobals mg)(a:PySem.W.nsIn K mainGlobals x=some (some (.int i t))):GV mg x (.int i):=#[_,Bo X G a,t,Z]
theorem La{x:Str}{vs:List V}{b:Addr}{its:Array Value}{n:Nat}{od:Option Addr}{j8:Array (Option Value)}(X:K.In h)(G:h.Ns mainGlobals mg)(a:PySem.W.nsIn K mainGlobals x=some (some (.ref b))) (l:K.lookup b=some #[.type "tuple",od,.seq its n,j8])(hz:its.size<=sizeLine)(r:Vals vs its.toList):GT K mg x vs:=#[b,#[_,Bo X G a,Z],λH=>.inr #[_,its,n,l,Z,Z,hz,r]]
end
section
variable {X:Cx}
theorem a4w(K:aa)(h:X.K=K):cY X (compareOp .NotIn) (S9 K true):=by subst h;erw[a2i]
end
theorem Ws{J:It}{xs:List V}{bs:List Bool}{te:TE}{Q:VK}{D:Addr}{H H0:Hp}(rest:St)(nw:Nw H H0 D (.lst []))(hl:xs.length=bs.length)(hz:xs.length<=1000) (go:∀i x H2,xs[i]? =some x->aH H H2->J.go i H2/\∀y H3,J.jG i H2 y H3->H3=H2/\y=x)(stop:∀H2,aH H H2->J.stop xs.length H2) (hs:∀(i:Nat)(x:V)(b:Bool)(H2:Hp)(Q':VK),xs[i]? =some x->bs[i]? =some b->aH H H2->(∀H3,aH H2 H3->Q' (.bl b) H3)->te (some x::rest) H2 Q') (hq:∀H',aH H H'->H' D=some (.lst (bs.map V.bl))->Q (.ref D) H'):lZ J (gu 0) kK te Q D (none::rest) H0:=by
 have hD:=nw.no;erw[xX xs.length (λi O H2=>aH H H2/\H2 D=some (.lst ((bs.take i).map V.bl))/\∃v,O=v::rest) ?_ ?_ ?_]
 ·erw[nw.same,nw.at',none,Z]
 ·rintro i O H2 hi ⟨s2,d2,v,rfl⟩
  have DK:i<bs.length:=by rw[<-hl];erw[hi]
  have ex:=bN hi;have eb:=bN DK;let(g1,g2):=go i _ H2 ex s2;erw[g1,λy H3 hy=>?_];let(rfl,rfl):=g2 y H3 hy;erw[BJ ?_];erw[hs i _ _ _ _ ex eb s2 λH4 s4=>?_];erw[_,s4 _ _ d2,?_,xs.length-(i+1),ao,Z,ao,λb o e=>?_,?_,_,Z]
  ·rw[ba,uc]
   have:(1000:Nat)<sizeLine:=by decide
   lia
  ·rw[aY (eJ e hD)];erw[s4 b o (s2 b o e)]
  ·rw[cg,lC,eb,gJ];rfl
 ·rintro O H2 ⟨s2,d2,v,rfl⟩
  erw[stop H2 s2,hq H2 s2 ?_];rw[d2,hl,pN]
theorem AN{K:aa}{a:Addr}{xs:List V}{bs:List Bool}{te:TE}{Q:VK}{D:Addr}{H H0:Hp}(rest:St)(hx:aW K H a xs)(nw:Nw H H0 D (.lst []))(hl:xs.length=bs.length)(hz:xs.length<=1000) (hs:∀(i:Nat)(x:V)(b:Bool)(H2:Hp)(Q':VK),xs[i]? =some x->bs[i]? =some b->aH H H2->(∀H3,aH H2 H3->Q' (.bl b) H3)->te (some x::rest) H2 Q') (hq:∀H',aH H H'->H' D=some (.lst (bs.map V.bl))->Q (.ref D) H'):lZ (tX K a) (gu 0) kK te Q D (none::rest) H0:=Ws rest nw hl hz (λi x H2 e s=>#[#[xs,x,hx.go s,e],λy H3 #[e3,y3]=>#[e3,by have:=y3 _ (hx.go s);rw[e]at this;exact(eX this).symm]]) (λH2 s=>#[xs,hx.go s,bf _]) hs hq
theorem De{ds:List ah}{f:ah->Bool}{i:Nat}{b:Bool}(h:(ds.map f)[i]? =some b):∃d,ds[i]? =some d/\f d=b:=by rw[bP]at h;cases e:ds[i]? with |none=>rw[e]at h;cases h |some d=>rw[e]at h;erw[d,Z,eX h]
theorem all_map{ds:List ah}{f:ah->Bool}:(ds.map f).all id=ds.all f:=by rw[List.all_map];rfl
section
variable {X:Cx}
inductive af3(K:aa)(x:V)(y:V)(H:Hp)(Q:VK):Prop |mk (a:_)(b:_)(xs:_)(ys:_)(h0:x= .ref a)(h1:y= .ref b)(h2:aF K H a xs)(h3:aF K H b ys)(h4:xs.length+ys.length<=sizeLine)(h5:∀p H',Nw H H' p (.lst (xs++ys))->Q (.ref p) H')
def a1l(K:aa):R2:=λx y H Q=>af3 K x y H Q
theorem xY(K:aa)(hK:X.K=K):cY X (binaryOp .Add) (a1l K):=by
 subst hK;intro au s O H x y v u Q I rx ry h;let(a,b,xs,ys,rfl,rfl,ha,hb,hz,q):=h;cases rx;cases ry;let(its,r1,p1,_):=I.list ha;let(lP,r2,p2,_):=I.list hb;let((cls,dd,data,sl),n,ho,hc,hdd,hd):=id p1;let((Wu,xV,data2,sl2),n2,p4,jT,agz,hd2):=id p2;simp only at hc hd jT hd2;subst hc hd jT hd2;have e:its.toArray++lP.toArray=(its++lP).toArray:=by simp
 erw[concat_meets #[_,ho,Z] #[_,p4,Z] noFill_list_add seq_list_add PySem.F.slot_list_add PySem.F.entry_list_add (PySem.F.args_list_add_2 _ _) (list_addW a b its.toArray lP.toArray n n2 dd xV sl sl2 (by rw[eP,eP,<-r1.length,<-r2.length];erw[hz])) #[ho,p4,?_]];rw[e];have nw:Nw H (upd H s.heap.objs.size (.lst (xs++ys))) s.heap.objs.size (.lst (xs++ys)):=.of (I.bX.fresh (bf _));erw[.ref s.heap.objs.size,_,I.laid (t':=s.toks) (o:=.lst (xs++ys)) (λb ob q=>cN _ q) (bf _) ?_,Z,q _ _ nw];erw[by rw[cD];erw[hz],_,0,r1.append r2,eZ _ Z]
open Classical in
noncomputable def vz(h:Heap)(d:ah)(w:Value):Bool:=if q:∃e as,Reads h w e as then PyData.eqv q.choose d else false
theorem ab4{h:Heap}{d e:ah}{w:Value}{as:List Addr}(r:Reads h w e as):vz h d w=PyData.eqv e d:=by have q:∃e as,Reads h w e as:=#[e,as,r];unfold vz;rw[dif_pos q];let(as',r'):=q.choose_spec;rw[(Reads.unique r' e as r).1]
theorem VH{au:List (Addr×Obj)}{s:af}{O:St}{H:Hp}(I:Inv X au O H s)(hu:X.A.units+65<cLine){x:V}{u:Value}{d:ah}(rx:RelV x u)(hd:RD X.K H x d)(sd:SeqAt.shaped d=true): ∀{xs:List V}{us:List Value}{ds:List ah},Vals xs us->aK X.K H xs ds->(∀e∈ds,SeqAt.shaped e=true)->(∀w∈us,SeqAt.EqAt X.A.in1 s w u (vz s.heap d w))/\us.any (vz s.heap d)=ds.any λe=>PyData.eqv e d |xs,us,[],rv,h,_=>by cases h.nil_inv;cases rv;erw[λ_ h=>(iu h).elim,Z] |xs,us,e::ds,rv,h,se=>by let(y,ys,rfl,h1,h2):=h.cons_inv;cases rv with |cons ra rb=>
 rename_i w ws;let(as,q1):=RD.reads I e ra h1;let(bs,q2):=RD.reads I d rx hd;have key:SeqAt.EqAt X.A.in1 s w u (PyData.eqv e d):=SeqAt.eqAt_reads e d X.A.in1 s w u as bs q1 q2 (SeqAt.canLay_of_shaped (se e (.head _))) (SeqAt.canLay_of_shaped sd) (SeqAt.room_of_shaped (se e (.head _)) (by show X.A.units+1+64<cLine;omega));let(k1,k2):=VH I hu rx hd sd rb h2 (λe' he=>se e' (.tail _ he));have ew:vz s.heap d w=PyData.eqv e d:=ab4 q1;erw[λz hz=>?_,?_]
 ·rcases cO.mp hz with rfl|hz
  ·rw[ew];erw[key]
  ·erw[k1 z hz]
 ·rw[yz,yz,ew,k2]
end
end _L
namespace _L
theorem dP.Yo{k:Nat}{A:PySem.Around}(r:dP k A):A.units+65<PySem.cLine:=by have:=r.un;lia
end _L
namespace _L
open PySem PySem.Spec PyProof.Rows
def kF(b:Bool)(h:Heap)(it l:Addr)(k:Nat):Prop:=match b with|true=>h.IsListIter it l k|false=>h.IsTupleIter it l k
def ip(b:Bool)(h:Heap)(l:Addr)(xs:Array Value):Prop:=match b with|true=>h.IsList l xs|false=>h.IsTuple l xs
def tP(b:Bool):String:=match b with|true=>"list_iterator"|false=>"tuple_iterator"
theorem kF.to{b:Bool}{h g:Heap}{it l:Addr}{k:Nat}(x:kF b h it l k)(e:∀o,h.get? it=some o->g.get? it=some o):kF b g it l k:=by cases b<;>(let(o,ho,r):=x;erw[o,e o ho,r])
theorem ip.to{b:Bool}{h g:Heap}{l:Addr}{xs:Array Value}(x:ip b h l xs)(e:∀o,h.get? l=some o->g.get? l=some o):ip b g l xs:=by cases b<;>(let(o,ho,r):=x;erw[o,e o ho,r])
theorem kF.ob{b:Bool}{h:Heap}{it l:Addr}{k:Nat}(x:kF b h it l k):∃o,h.get? it=some o/\o.cls= .type (tP b)/\∀v,o.data≠ .cell v:=by cases b<;>(let(o,ho,c,d):=x;erw[o,ho,c,λv z=>by rw[d]at z;cases z])
section
variable {prog:ag}{w:World}{A:ai}{E:Value->af->Prop}{s:af}
theorem xA{b:Bool}{l:Addr}{xs:Array Value}{Q:Value->af->Prop}(x:ip b s.heap l xs) (q:Q (.ref s.heap.objs.size) {s with heap:=s.heap.push {cls:=.type (tP b),data:=.fields (List.toArray [.ref l,.int 0 0])}}):wpAny (model prog w) A (pyIter (.ref l)) Q E s:=by
 cases b
 ·erw[wpAny_pyIter_tuple x q]
 ·erw[Bj x q]
theorem a4n{it t:Addr}{k:Nat}{ts:Array Value}{x:Value}{Q:Value->af->Prop}(hi:s.heap.IsTupleIter it t k)(ht:s.heap.IsTuple t ts)(hx:ts[k]? =some x) (q:∀g,g.IsTupleIter it t (k+1)->Heap.SameBut it s.heap g->Q x {s with heap:=g}):wpAny (model prog w) A (Builtin.SmallTypes.nextOf (.ref it)) Q E s:=by let(oi,kB,ci,di):=id hi;let(ot,Kt,_,nt,dt):=ht;unfold Builtin.SmallTypes.nextOf;erw[aM (ED (name:=Str.ofString "__next__") hi.typeIs MT (EC MT hi.typeIs afD ?_ (afE _)))];show wpAny _ _ (field (.ref it) 0>>=_) _ _ s;erw[aM (ki kB di (x:=.ref t) Z ?_)];show wpAny _ _ (if(Value.ref t==Value.none)=true then _ else _) _ _ s;rw[bj (show¬((Value.ref t==Value.none)=true)from eH)];show wpAny _ _ (field (.ref it) 1>>=_) _ _ s;erw[aM (ki kB di (x:=.int k 0) Z ?_)];show wpAny _ _ (seqItems? (.ref t)>>=_) _ _ s;erw[aM (wc Kt dt ?_)];simp only[XR,hx];erw[aM (EB kB di (by simp) (cn #[x,Z,cn (q _ ?_ (Heap.SameBut.update ..))]))];erw[_,Nf _ kB (XC (EL di _)),(Obj.cls_mapFields ..).trans ci,by rw[EL di];simp[rawInt]]
theorem abh{it t:Addr}{k:Nat}{ts:Array Value}{Q:Value->af->Prop}(hh:A.handled=none)(hi:s.heap.IsTupleIter it t k)(ht:s.heap.IsTuple t ts)(hx:ts[k]? =none) (q:∀g e,Heap.ExtBut it s.heap g->(∃o,g.get? e=some o/\o.cls= .type "StopIteration")->E (.ref e) {s with heap:=g}):wpAny (model prog w) A (Builtin.SmallTypes.nextOf (.ref it)) Q E s:=by
 let(oi,kB,ci,di):=id hi;let(ot,Kt,_,nt,dt):=ht;unfold Builtin.SmallTypes.nextOf;erw[aM (ED (name:=Str.ofString "__next__") hi.typeIs MT (EC MT hi.typeIs afD ?_ (afE _)))];show wpAny _ _ (field (.ref it) 0>>=_) _ _ s;erw[aM (ki kB di (x:=.ref t) Z ?_)];show wpAny _ _ (if(Value.ref t==Value.none)=true then _ else _) _ _ s;rw[bj (show¬((Value.ref t==Value.none)=true)from eH)];show wpAny _ _ (field (.ref it) 1>>=_) _ _ s;erw[aM (ki kB di (x:=.int k 0) Z ?_)];show wpAny _ _ (seqItems? (.ref t)>>=_) _ _ s;erw[aM (wc Kt dt ?_)];simp only[XR,hx];erw[aM (Bi (aM (EB kB di (by simp) ?_)))];show wpAny _ _ (newExc (.type "StopIteration") []>>=_) _ _ _;erw[aM ?_];simp only[newExc,newTuple];erw[aM (pL ?_ (by size_fits))];erw[aM (m:=firstArgMember _ _) (yk (a:=Value.none) (by first|rfl|(simp only[firstArgMember];rfl)) ?_)];erw[pL ?_ (by size_fits)];simp only[raiseNew];erw[aM (wpAny_handled ?_)]
 first|rw[show A.in1.handled=none from hh]|rw[hh]
 erw[aM (cn (wpAny_throw (q _ _ (((Heap.SameBut.update ..).extBut.push _).push _) #[_,eZ _ Z,Z])))]
theorem CS{b:Bool}{it l:Addr}{k:Nat}{xs:Array Value}{x:Value}{Q:Value->af->Prop}(hi:kF b s.heap it l k)(hl:ip b s.heap l xs)(hx:xs[k]? =some x) (q:∀g,kF b g it l (k+1)->Heap.SameBut it s.heap g->Q x {s with heap:=g}):wpAny (model prog w) A (Builtin.SmallTypes.nextOf (.ref it)) Q E s:=by
 cases b
 ·erw[a4n hi hl hx q]
 ·erw[wpAny_nextOf_list_item hi hl hx q]
theorem LJ{b:Bool}{it l:Addr}{k:Nat}{xs:Array Value}{Q:Value->af->Prop}(hh:A.handled=none)(hi:kF b s.heap it l k)(hl:ip b s.heap l xs)(hx:xs[k]? =none) (q:∀g e,Heap.ExtBut it s.heap g->(∃o,g.get? e=some o/\o.cls= .type "StopIteration")->E (.ref e) {s with heap:=g}):wpAny (model prog w) A (Builtin.SmallTypes.nextOf (.ref it)) Q E s:=by
 cases b
 ·erw[abh hh hi hl hx q]
 ·erw[wpAny_nextOf_list_end hh hi hl hx q]
structure Zp(b1 b2:Bool)(h:Heap)(z TI TO i1 i2 l1 l2:Addr)(f0:Value)(k:Nat):Prop where
 zz:IsZip h z TI TO f0
 ti:IsPair h TI (.ref i1) (.ref i2)
 to:∃a b,IsPair h TO a b
 n1:kF b1 h i1 l1 k
 n2:kF b2 h i2 l2 k
theorem Sz{z TI TO:Addr}{Q:Bool->af->Prop}(hz:IsZip s.heap z TI TO .none)(q:Q true s):wpAny (model prog w) A (Builtin.SmallTypes.ownedTupleIsFree (.ref z)) Q E s:=by unfold Builtin.SmallTypes.ownedTupleIsFree;erw[aM (ki hz Z (x:=.none) Z (cn q))]
theorem Y0{b1 b2:Bool}{z TI TO i1 i2 l1 l2:Addr}{k:Nat}{xs ys:Array Value}{x y:Value}{Q:Value->af->Prop}(D:ZipApart z TI TO i1 i2 l1 l2)(agW:Zp b1 b2 s.heap z TI TO i1 i2 l1 l2 .none k) (mG:ip b1 s.heap l1 xs)(sT:ip b2 s.heap l2 ys)(hx:xs[k]? =some x)(hy:ys[k]? =some y) (q:∀g,Zp b1 b2 g z TI TO i1 i2 l1 l2 (rawInt s.heap.objs.size) (k+1)->IsPair g s.heap.objs.size x y->(∀c o,c≠z->c≠TO->c≠i1->c≠i2->s.heap.get? c=some o->g.get? c=some o)->Q (.ref s.heap.objs.size) {s with heap:=g}): wpAny (model prog w) A (Builtin.«zip.__next__» #[[.ref z],[]]) (λr s'=>∃v,r= .done (.ret v)/\Q v s') E s:=by
 let(hz,mK,(a,b,nU),h1,h2):=agW;show wpAny _ _ (field (.ref z) 2>>=_) _ _ _;erw[aM (ki hz Z (x:=.bool false) Z ?_)];show wpAny _ _ (field (.ref z) 3>>=_) _ _ _;erw[aM (ki hz Z (x:=.ref TI) Z (aM (wc mK Z ?_)))];show wpAny _ _ (Builtin.SmallTypes.ownedTupleIsFree (.ref z)>>=_) _ _ _;erw[aM (Sz hz ?_)];simp only[we];erw[aM (Bi (aM (ki hz Z (x:=.ref TO) Z (aM (Bh hz (by simp) λg1 z1 e1=>?_)))))];replace z1:IsZip g1 z TI TO .ellipsis:=z1;erw[aM ?_];simp only[List.zipIdx_cons,List.zipIdx_nil,N9,List.forIn_nil];erw[aM (aM (wpAny_onRaise ?_))];show wpAny _ _ (Builtin.SmallTypes.nextOf (.ref i1)>>=_) _ _ _;erw[aM (CS (h1.to λo e=>e1.extBut _ _ D.i1z e) (mG.to λo e=>e1.extBut _ _ D.l1z e) hx λg2 n1 e2=>cn ?_)];have t2:IsPair g2 TO a b:=e2.extBut _ _ D.TOi1 (e1.extBut _ _ D.TOz nU);erw[aM (wc t2 Z (aM (Xm t2 λg3 t3 e3=>?_)))];replace t3:IsPair g3 TO x b:=t3;erw[aM (wpAny_letGo (cn ?_))];erw[aM (aM (wpAny_onRaise ?_))];show wpAny _ _ (Builtin.SmallTypes.nextOf (.ref i2)>>=_) _ _ _;erw[aM (CS (h2.to λo e=>e3.extBut _ _ D.TOi2.symm (e2.extBut _ _ D.i12.symm (e1.extBut _ _ D.i2z e))) (sT.to λo e=>e3.extBut _ _ D.l2TO (e2.extBut _ _ D.l2i1 (e1.extBut _ _ D.l2z e))) hy λg4 n2 e4=>cn ?_)];have t4:IsPair g4 TO x b:=e4.extBut _ _ D.TOi2 t3;erw[aM (wc t4 Z (aM (Xm t4 λg5 t5 e5=>?_)))];replace t5:IsPair g5 TO x y:=t5;erw[aM (wpAny_letGo (cn (cn ?_)))];erw[aM (wc t5 Z (aM (wpAny_newTuple ?_)))];have sz:g5.objs.size=s.heap.objs.size:=by rw[e5.1,e4.1,e3.1,e2.1,e1.1]
 have z5:IsZip g5 z TI TO .ellipsis:=e5.extBut _ _ D.TOz.symm (e4.extBut _ _ D.i2z.symm (e3.extBut _ _ D.TOz.symm (e2.extBut _ _ D.i1z.symm z1)));have kp:∀c o,c≠z->c≠TO->c≠i1->c≠i2->s.heap.get? c=some o->g5.get? c=some o:=λc o c1 c2 c3 c4 e=>e5.extBut _ _ c2 (e4.extBut _ _ c4 (e3.extBut _ _ c2 (e2.extBut _ _ c3 (e1.extBut _ _ c1 e))));have m1:kF b1 g5 i1 l1 (k+1):=n1.to λo e=>e5.extBut _ _ D.TOi1.symm (e4.extBut _ _ D.i12 (e3.extBut _ _ D.TOi1.symm e));have m2:kF b2 g5 i2 l2 (k+1):=n2.to λo e=>e5.extBut _ _ D.TOi2.symm e;have EZ:z<g5.objs.size:=cH z5;show wpAny _ _ (Builtin.SmallTypes.ownedTupleHandOut (.ref z) (.ref g5.objs.size)>>=_) _ _ _;erw[aM ?_];unfold Builtin.SmallTypes.ownedTupleHandOut;have z6:IsZip (g5.push {cls:=.type "tuple",data:=.seq (List.toArray [x,y])}) z TI TO .ellipsis:=cN _ z5;erw[aM (Bh z6 (by simp) λg7 z7 e7=>?_)];replace z7:IsZip g7 z TI TO (rawInt g5.objs.size):=z7;erw[Bh z7 (by simp) λg8 z8 e8=>?_];replace z8:IsZip g8 z TI TO (rawInt g5.objs.size):=z8;have up:∀c o,c≠z->g5.get? c=some o->g8.get? c=some o:=λc o c1 e=>e8.extBut _ _ c1 (e7.extBut _ _ c1 (cN _ e));have t8:IsPair g8 g5.objs.size x y:=e8.extBut _ _ (EM EZ) (e7.extBut _ _ (EM EZ) (eZ _ Z));rw[sz]at z8 t8;erw[cn #[_,Z,?_]];show Q (.ref g5.objs.size) _;rw[sz];erw[q g8 #[z8,up _ _ D.TIz (kp _ _ D.TIz D.TITO D.TIi1 D.TIi2 mK),#[_,_,up _ _ D.TOz t5],m1.to λo e=>up _ o D.i1z e,m2.to λo e=>up _ o D.i2z e] t8 λc o c1 c2 c3 c4 e=>up c o c1 (kp c o c1 c2 c3 c4 e)]
theorem Y1{b1 b2:Bool}{z TI TO i1 i2 l1 l2:Addr}{k:Nat}{xs ys:Array Value}{Q:Fin->af->Prop}(hh:A.handled=none)(D:ZipApart z TI TO i1 i2 l1 l2)(agW:Zp b1 b2 s.heap z TI TO i1 i2 l1 l2 .none k) (mG:ip b1 s.heap l1 xs)(sT:ip b2 s.heap l2 ys)(nQ:xs[k]? =none\/ys[k]? =none) (q:∀g e,(∀c o,c≠z->c≠TO->c≠i1->c≠i2->s.heap.get? c=some o->g.get? c=some o)->(∃o,g.get? e=some o/\o.cls= .type "StopIteration")->E (.ref e) {s with heap:=g}): wpAny (model prog w) A (Builtin.«zip.__next__» #[[.ref z],[]]) Q E s:=by let(hz,mK,(a,b,nU),h1,h2):=agW;show wpAny _ _ (field (.ref z) 2>>=_) _ _ _;erw[aM (ki hz Z (x:=.bool false) Z ?_)];show wpAny _ _ (field (.ref z) 3>>=_) _ _ _;erw[aM (ki hz Z (x:=.ref TI) Z (aM (wc mK Z ?_)))];show wpAny _ _ (Builtin.SmallTypes.ownedTupleIsFree (.ref z)>>=_) _ _ _;erw[aM (Sz hz ?_)];simp only[we];erw[aM (Bi (aM (ki hz Z (x:=.ref TO) Z (aM (Bh hz (by simp) λg1 z1 e1=>?_)))))];replace z1:IsZip g1 z TI TO .ellipsis:=z1;erw[aM ?_];simp only[List.zipIdx_cons,List.zipIdx_nil,N9,List.forIn_nil];erw[aM (aM (wpAny_onRaise ?_))];show wpAny _ _ (Builtin.SmallTypes.nextOf (.ref i1)>>=_) _ _ _;have j1:=h1.to λo e=>e1.extBut _ _ D.i1z e;have k1:=mG.to λo e=>e1.extBut _ _ D.l1z e;cases hx:xs[k]? with
 |none=>
  erw[aM (LJ hh j1 k1 hx λg2 er e2 #[oe,vh,Am]=>?_)];have z2:IsZip g2 z TI TO .ellipsis:=e2 _ _ D.i1z.symm z1;have nz:er≠z:=λv=>by subst v;rw[z2]at vh;cases vh;simp at Am
  erw[Bh z2 (by simp) λg3 _ e3=>q g3 er (λc o c1 _ c3 _ v=>e3.extBut _ _ c1 (e2 _ _ c3 (e1.extBut _ _ c1 v))) #[oe,e3.extBut _ _ nz vh,Am]] |some x=>
  have hy:ys[k]? =none:=by rcases nQ with h|h;rw[hx]at h;cases h;erw[h]
  erw[aM (CS j1 k1 hx λg2 n1 e2=>cn ?_)];have t2:IsPair g2 TO a b:=e2.extBut _ _ D.TOi1 (e1.extBut _ _ D.TOz nU);erw[aM (wc t2 Z (aM (Xm t2 λg3 t3 e3=>?_)))];erw[aM (wpAny_letGo (cn ?_))];erw[aM (aM (wpAny_onRaise ?_))];show wpAny _ _ (Builtin.SmallTypes.nextOf (.ref i2)>>=_) _ _ _;erw[aM (LJ hh (h2.to λo e=>e3.extBut _ _ D.TOi2.symm (e2.extBut _ _ D.i12.symm (e1.extBut _ _ D.i2z e))) (sT.to λo e=>e3.extBut _ _ D.l2TO (e2.extBut _ _ D.l2i1 (e1.extBut _ _ D.l2z e))) hy λg4 er e4 #[oe,vh,Am]=>?_)];have z4:IsZip g4 z TI TO .ellipsis:=e4 _ _ D.i2z.symm (e3.extBut _ _ D.TOz.symm (e2.extBut _ _ D.i1z.symm z1));have nz:er≠z:=λv=>by subst v;rw[z4]at vh;cases vh;simp at Am
  erw[Bh z4 (by simp) λg5 _ e5=>q g5 er (λc o c1 c2 c3 c4 v=>e5.extBut _ _ c1 (e4 _ _ c4 (e3.extBut _ _ c2 (e2.extBut _ _ c3 (e1.extBut _ _ c1 v))))) #[oe,e5.extBut _ _ nz vh,Am]]
abbrev BI(b1:Bool)(h:Heap)(l1:Addr):Heap:=h.push {cls:=.type (tP b1),data:=.fields (List.toArray [.ref l1,.int 0 0])}
abbrev BH(b1 b2:Bool)(h:Heap)(l1 l2:Addr):Heap:=(BI b1 h l1).push {cls:=.type (tP b2),data:=.fields (List.toArray [.ref l2,.int 0 0])}
abbrev BG(b1 b2:Bool)(h:Heap)(l1 l2:Addr):Heap:=(BH b1 b2 h l1 l2).push {cls:=.type "tuple",data:=.seq (List.toArray [.ref h.objs.size,.ref (BI b1 h l1).objs.size])}
abbrev BF(b1 b2:Bool)(h:Heap)(l1 l2:Addr):Heap:=(BG b1 b2 h l1 l2).push {cls:=.type "tuple",data:=.seq (List.toArray [.none,.none])}
abbrev wA(b1 b2:Bool)(h:Heap)(l1 l2:Addr):Heap:=(BF b1 b2 h l1 l2).push {cls:=.type "zip",data:=.fields (List.toArray [.none,.bool false,.bool false,.ref (BH b1 b2 h l1 l2).objs.size,.ref (BG b1 b2 h l1 l2).objs.size])}
theorem XZ(b1 b2:Bool)(l1 l2:Addr)(xs ys:Array Value):Meets (Builtin.«zip.__new__» #[[.type "zip",.ref l1,.ref l2],[]]) (λ_ R s=>ip b1 s.heap l1 xs/\ip b2 s.heap l2 ys/\R (.ok (.ret (.ref (BF b1 b2 s.heap l1 l2).objs.size))) {s with heap:=wA b1 b2 s.heap l1 l2}):=.of_wp λprog w A R s h=>by
 let(hp,gg,d,tk,os):=s;let(mG,sT,h):=h;have a6Q:=sub_zip;have hL1:ip b1 (Shared.heap #[hp,gg,d,tk,os]) l1 xs:=mG;have Ao:ip b2 (Shared.heap #[hp.push {cls:=.type (tP b1),data:=.fields (List.toArray [.ref l1,.int 0 0])},gg,d,tk,os]) l2 ys:=sT.to λo e=>cN _ e
 wp_walk using xA hL1,xA Ao;erw[_,Z,h]
theorem Y2{b1 b2:Bool}{l1 l2:Addr}{xs ys:Array Value}{Q:Value->af->Prop}(mG:ip b1 s.heap l1 xs)(sT:ip b2 s.heap l2 ys) (q:∀g,Zp b1 b2 g (s.heap.objs.size+4) (s.heap.objs.size+2) (s.heap.objs.size+3) s.heap.objs.size (s.heap.objs.size+1) l1 l2 .none 0->(∀c o,s.heap.get? c=some o->g.get? c=some o)->Q (.ref (s.heap.objs.size+4)) {s with heap:=g}): wpAny (model prog w) A (call (.type "zip") [.ref l1,.ref l2]) Q E s:=by
 erw[callType_new PySem.F.called_zip az (PySem.F.typeCall_zip_2 _ _) (PySem.F.newCall_zip_2 _ _) (λobj=>PySem.F.args_object_init_3 obj _ _) PySem.F.entry_zip_new (XZ b1 b2 l1 l2 xs ys) #[mG,sT,?_]];have z1:(BI b1 s.heap l1).objs.size=s.heap.objs.size+1:=rE ..;have z2:(BH b1 b2 s.heap l1 l2).objs.size=s.heap.objs.size+2:=by rw[rE,z1]
 have z3:(BG b1 b2 s.heap l1 l2).objs.size=s.heap.objs.size+3:=by rw[rE,z2]
 have z4:(BF b1 b2 s.heap l1 l2).objs.size=s.heap.objs.size+4:=by rw[rE,z3]
 have g5:(wA b1 b2 s.heap l1 l2).get? (BF b1 b2 s.heap l1 l2).objs.size=some _:=eZ _ rfl;have g4:(wA b1 b2 s.heap l1 l2).get? (BG b1 b2 s.heap l1 l2).objs.size=some _:=cN _ (eZ _ Z);have g3:(wA b1 b2 s.heap l1 l2).get? (BH b1 b2 s.heap l1 l2).objs.size=some _:=cN _ (cN _ (eZ _ Z));have g2:(wA b1 b2 s.heap l1 l2).get? (BI b1 s.heap l1).objs.size=some _:=cN _ (cN _ (cN _ (eZ _ Z)));have g1:(wA b1 b2 s.heap l1 l2).get? s.heap.objs.size=some _:=cN _ (cN _ (cN _ (cN _ (eZ _ Z))));show _/\_;rw[z2,z3,z4]at g5;rw[z1,z2]at g3;rw[z3]at g4;rw[z1]at g2;rw[z4];erw[#[_,g5,Z],q _ #[g5,g3,#[_,_,g4],?_,?_] λc o e=>cN _ (cN _ (cN _ (cN _ (cN _ e))))]
 ·cases b1<;>erw[_,g1,rfl,rfl]
 ·cases b2<;>erw[_,g2,rfl,rfl]
end
section
variable {X:Cx}{au:List (Addr×Obj)}{O:St}{H:Hp}{s:af}{h':Heap}
theorem Inv.yI{t':Nat}{fp:List Addr}(I:Inv X au O H s)(k:∀b o,b∉fp->s.heap.get? b=some o->h'.get? b=some o)(hf:∀b∈fp,kd X au H b):Inv X au O H {s with heap:=h',toks:=t'}:=by
 have zQ:∀b u,H b=some u->b∉fp:=λb u e z=>by rw[(hf b z).1]at e;cases e
 have hL:X.env.locals∉fp:=λz=>(hf _ z).2.1 rfl;erw[I.step (g':=s.gens) (d':=s.drawn) (ch:=fp) (λb hb=>?_) (λb o _ _ hc e _=>k b o hc e) (λb o _ _ hc e _=>#[o.slots,k b o hc e]) (λ_ _ _ _ n=>n) (λb o hc e=>#[o,k b o hc e]) (λ_ _ e=>e) (λ_ _ _ e=>e) (λb ps e=>#[#[],by rw[e];simp]) (λm hm=>?_) (λb u e=>?_) I.bare]
 ·let(f0,f1,f2,f3,f4,f5):=hf b hb
  erw[f3,f1,f4,f5]
 ·let(o,es,ep,ho,r):=hm
  erw[o,es,ep,k _ o hL ho,r]
 ·refine(I.bX b u e).rP (λc v hc q=>k c v ?_ q) (λ_ q=>q) λ_ _ q=>q
  rcases hc with z|z
  ·rw[z];erw[zQ b u e]
  ·erw[zQ c _ z]
end
def eW(b:Bool)(K:aa)(H:Hp)(a:Addr)(xs:List V):Prop:=match b with|true=>aF K H a xs|false=>aW K H a xs
theorem eW.get{X:Cx}{au:List (Addr×Obj)}{O:St}{H:Hp}{s:af}{b:Bool}{a:Addr}{xs:List V}(I:Inv X au O H s)(h:eW b X.K H a xs):∃its:List Value,Vals xs its/\ip b s.heap a its.toArray:=by
 cases b
 ·let(its,r,p,_):=I.tuple h;erw[its,r,p]
 ·let(its,r,p,_):=I.list h;erw[its,r,p.isList]
theorem eW.inj{X:Cx}{au:List (Addr×Obj)}{O:St}{H:Hp}{s:af}{b:Bool}{a:Addr}{xs ys:List V}(I:Inv X au O H s)(h:eW b X.K H a xs)(g:eW b X.K H a ys):xs=ys:=by
 cases b
 ·erw[I.Nt h g]
 ·erw[I.Ud h g]
def tW(K:aa)(b1 b2:Bool)(l1 l2:Addr):It:=#[λi H=>∃xs ys x y,eW b1 K H l1 xs/\eW b2 K H l2 ys/\xs[i]? =some x/\ys[i]? =some y,λi H v H'=>∃T x y,v= .ref T/\(∀xs,eW b1 K H l1 xs->xs[i]? =some x)/\(∀ys,eW b2 K H l2 ys->ys[i]? =some y)/\Nw H H' T (.tup [x,y]),λi H=>∃xs ys,eW b1 K H l1 xs/\eW b2 K H l2 ys/\(xs.length<=i\/ys.length<=i)]
theorem Yt{P:ag}{w:World}{K:aa}{elts:List Expr}{kt:Nat}{pos:Pos}{b1 b2:Bool}{z TI TO i1 i2 l1 l2:Addr}(D:ZipApart z TI TO i1 i2 l1 l2): Turn P w K (.Tuple elts kt pos) (tW K b1 b2 l1 l2) [z,TI,TO,i1,i2] z (λi h=>Zp b1 b2 h z TI TO i1 i2 l1 l2 .none i) where
 mem:=by simp
 obj:=λi h st b hb=>by
  let(hz,mK,(a,c,nU),h1,h2):=st;simp only[cO,iu,kH]at hb;rcases hb with rfl|rfl|rfl|rfl|rfl
  ·erw[_,hz,λv e=>by cases e]
  ·erw[_,mK,λv e=>by cases e]
  ·erw[_,nU,λv e=>by cases e]
  ·let(o,e,_,n):=h1.ob;erw[o,e,n]
  ·let(o,e,_,n):=h2.ob;erw[o,e,n]
 keep:=λi h h' st k=>by let(hz,mK,(a,c,nU),h1,h2):=st;erw[k z (by simp) _ hz,k TI (by simp) _ mK,#[a,c,k TO (by simp) _ nU],h1.to λo e=>k i1 (by simp) o e,h2.to λo e=>k i2 (by simp) o e]
 item:=by
  intro X hP hw hK hc i au s O H E I hf st hg;subst hP hw hK;let(xs,ys,x,y,q1,q2,e1,e2):=hg;let(Ke,r1,p1):=q1.get I;let(lP,r2,p2):=q2.get I;let(u1,Ko,jm):=r1.get e1;let(u2,hu2,nj):=r2.get e2;have hT:s.TypeIs (.ref z) "zip":=#[_,st.zz,Z];unfold pyNext;erw[aM (wpAny_attempt (ED (name:=Str.ofString "__next__") hT MS (EC MS hT PySem.F.entry_zip_next (Y0 D st p1 p2 (x:=u1) (y:=u2) (by simpa using Ko) (by simpa using hu2) λg zg tg kp=>cn ?_) (PySem.F.args_zip_next_1 _))))];erw[_,Z,?_];erw[wpAny_letOwnedTupleGo_zip zg.zz λg' XY sb=>?_];have hs:=sb.extBut;have EZ:z<s.heap.objs.size:=cH st.zz;have nw:Nw H (upd H s.heap.objs.size (.tup [x,y])) s.heap.objs.size (.tup [x,y]):=.of (I.bX.fresh (bf _));have I1:Inv X au O (upd H s.heap.objs.size (.tup [x,y])) {s with heap:=s.heap.push {cls:=.type "tuple",data:=.seq (List.toArray [u1,u2])}}:=I.laid (t':=s.toks) (λb ob q=>cN _ q) (bf _) #[by show 2<=sizeLine;decide,[u1,u2],.cons jm (.cons nj .nil),#[_,eZ _ Z,Z,_,Z]];have JW:∀b∈[z,TI,TO,i1,i2],b<s.heap.objs.size:=λb hb=>by
   simp only[cO,iu,kH]at hb;let(hz,mK,(a,c,nU),h1,h2):=st;rcases hb with rfl|rfl|rfl|rfl|rfl
   ·erw[cH hz]
   ·erw[cH mK]
   ·erw[cH nU]
   ·let(o,e,_):=h1.ob;erw[cH e]
   ·let(o,e,_):=h2.ob;erw[cH e]
  have hn:∀b∈[z,TI,TO,i1,i2],upd H s.heap.objs.size (.tup [x,y]) b=none:=λb hb=>by rw[aY (eY (JW b hb))];exact(hf b hb).1
  have I2:Inv X au O (upd H s.heap.objs.size (.tup [x,y])) {s with heap:=g'}:=Inv.yI (s:={s with heap:=s.heap.push {cls:=.type "tuple",data:=.seq (List.toArray [u1,u2])}}) (t':=s.toks) (fp:=[z,TI,TO,i1,i2]) I1 (λb o hb e=>by
   have e:(s.heap.push {cls:=.type "tuple",data:=.seq (List.toArray [u1,u2])}).get? b=some o:=e;have nz:b≠z:=λq=>hb (by simp[q]);rcases Heap.get?_push_cases e with⟨KO,rfl⟩|e'
   ·subst KO
    erw[hs _ _ nz tg]
   ·erw[hs _ _ nz (kp b o nz (λq=>hb (by simp[q])) (λq=>hb (by simp[q])) (λq=>hb (by simp[q])) e')]) (λb hb=>by let(f0,f1,f2,f3,f4,f5):=hf b hb;erw[hn b hb,f1,f2,f3,f4,f5]);erw[.ref s.heap.objs.size,_,I2,Z,#[s.heap.objs.size,x,y,Z,λzs hz=>?_,λzs hz=>?_,nw],?_,hn]
  ·rw[eW.inj I hz q1];erw[e1]
  ·rw[eW.inj I hz q2];erw[e2]
  ·let(_,mK,(a,c,nU),h1,h2):=zg
   erw[XY,hs _ _ D.TIz mK,#[a,c,hs _ _ D.TOz nU],h1.to λo e=>hs _ o D.i1z e,h2.to λo e=>hs _ o D.i2z e]
 done:=by intro X hP hw hK hc i au s O H E I hf st hg;subst hP hw hK;let(xs,ys,q1,q2,nQ):=hg;let(Ke,r1,p1):=q1.get I;let(lP,r2,p2):=q2.get I;have hT:s.TypeIs (.ref z) "zip":=#[_,st.zz,Z];have l1:=r1.length;have l2:=r2.length;unfold pyNext;erw[aM (wpAny_attempt (ED (name:=Str.ofString "__next__") hT MS (EC MS hT PySem.F.entry_zip_next (Y1 (I.ok.hd hc) D st p1 p2 (nQ.imp (λh=>by simp;lia) λh=>by simp;lia) λg e kp he=>?_) (PySem.F.args_zip_next_1 _))))];let(o,ho,hV):=he;erw[aM (wpAny_isInstance (T:="StopIteration") (b:=true) #[o,ho,hV] isSubtype_stop (cn #[Z,?_]))];erw[I.yI (t':=s.toks) (fp:=[z,TI,TO,i1,i2]) (λb o hb e=>kp b o (λq=>hb (by simp[q])) (λq=>hb (by simp[q])) (λq=>hb (by simp[q])) (λq=>hb (by simp[q])) e) hf]
 self:=λ_ _ _ _ _ st h=>wpAny_pyIter_zip st.zz h
inductive af8(K:aa)(b1:Bool)(b2:Bool)(R:It->Hp->Prop)(vs:List V)(H1:Hp):Prop |mk (l1:_)(l2:_)(h0:vs=[.ref l1,.ref l2])(h1:(∃xs,eW b1 K H1 l1 xs))(h2:(∃ys,eW b2 K H1 l2 ys))(h3:R (tW K b1 b2 l1 l2) H1)
def a6A(K:aa)(b1 b2:Bool)(ta:TA):TI:=λO H R=>ta O H λvs H1=>af8 K b1 b2 R vs H1
theorem oK(K:aa){X:Cx}(hK:X.K=K)(b1 b2:Bool){elts:List Expr}{kt:Nat}{pQ:Pos}{a b:Expr}{ta:TA}{p pos:Pos}(hg:Gl X "zip")(hm:X.mg "zip"=none)(ha:PA X [a,b] ta)(hs:autoParam (starEach [a,b] X.env=[(false,eval a X.env),(false,eval b X.env)]) r8_._auto_1)(jd:autoParam (starEach [b] X.env=[(false,eval b X.env)]) r8_._auto_1): PI X (.Tuple elts kt pQ) (.Call (.Name "zip" p) [a,b] [] pos) (a6A K b1 b2 ta):=by
 subst hK;intro au s O H R I h;erw[Call_ (sF I hg hm PyProof.Rows.boot_zip (Bp (aZ (ha pos au s O H _ I h) λus s1 #[vs,H1,I1,r1,q1]=>?_) (by rw[hs,jd]) (by rw[jd];rfl)))];let(l1,l2,e,(xs,h1),(ys,h2),q):=q1;subst e;let(u1,u2,rfl,jm,nj):=vals2 r1;cases(show u1=Value.ref l1 from jm);cases(show u2=Value.ref l2 from nj);let(Ke,v1,p1):=h1.get I1;let(lP,v2,p2):=h2.get I1;have a1:l1<s1.heap.objs.size:=by cases b1<;>(let(o,e,_):=p1;erw[cH e])
 have a2:l2<s1.heap.objs.size:=by cases b2<;>(let(o,e,_):=p2;erw[cH e])
 erw[Y2 p1 p2 λg zg kp=>wpAny_pyIter_zip zg.zz ?_];erw[_,_,_,_,H1,Z,I1.kept (t':=s1.toks) kp,Yt (zipApart_new a1 a2),zg,λc hc=>?_,q];have hle:s1.heap.objs.size<=c:=by simp only[cO,iu,kH]at hc;rcases hc with rfl|rfl|rfl|rfl|rfl<;>first|erw[bf _]|erw[Nat.le_add_right _ _]
 erw[I1.tF hle (I1.bX.fresh hle)]
theorem eW.go{b:Bool}{K:aa}{H H':Hp}{a:Addr}{xs:List V}(s:aH H H')(h:eW b K H a xs):eW b K H' a xs:=by
 cases b
 ·erw[aW.go s h]
 ·erw[aF.go s h]
theorem abQ{K:aa}{b1 b2:Bool}{l1 l2:Addr}{xs ys:List V}{bs:List Bool}{te:TE}{Q:VK}{D:Addr}{H H0:Hp}{n:Nat}(rest:St)(hn:n=2)(h1:eW b1 K H l1 xs)(h2:eW b2 K H l2 ys)(nw:Nw H H0 D (.lst [])) (hl:min xs.length ys.length=bs.length)(hz:bs.length<=1000) (hs:∀(i:Nat)(x y:V)(b:Bool)(H2:Hp)(Q':VK),xs[i]? =some x->ys[i]? =some y->bs[i]? =some b->aH H H2->(∀H3,aH H2 H3->Q' (.bl b) H3)->te (some x::some y::rest) H2 Q') (hq:∀H',aH H H'->H' D=some (.lst (bs.map V.bl))->Q (.ref D) H'):lZ (tW K b1 b2 l1 l2) (Au K n (vv (gu 0) (vv (gu 1) DR))) kK te Q D (none::none::rest) H0:=by
 subst hn;have hD:=nw.no;erw[xX bs.length (λi O H2=>aH H H2/\H2 D=some (.lst ((bs.take i).map V.bl))/\∃v v',O=v::v'::rest) ?_ ?_ ?_]
 ·erw[nw.same,nw.at',none,none,Z]
 ·rintro i O H2 hi ⟨s2,d2,v,v',rfl⟩
  have hx:i<xs.length:=by lia
  have hy:i<ys.length:=by lia
  have ex:=bN hx;have ey:=bN hy;have eb:=bN hi;erw[#[xs,ys,_,_,h1.go s2,h2.go s2,ex,ey],λy' H3 ve=>?_];let(T,x0,y0,rfl,k1,k2,n3):=ve;have e1:=k1 _ (h1.go s2);have e2:=k2 _ (h2.go s2);rw[ex]at e1;rw[ey]at e2;cases e1;cases e2;erw[T,_,Z,aW.of n3.at',Z,_,_,Z,_,_,Z,Z,?_];erw[yes (bR ?_)];erw[hs i _ _ _ _ _ ex ey eb (s2.trans n3.same) λH4 s4=>?_];erw[_,s4 _ _ (n3.same _ _ d2),?_,bs.length-(i+1),ao,Z,ao,λb o e=>?_,?_,_,_,Z]
  ·rw[ba,uc]
   have:(1000:Nat)<sizeLine:=by decide
   lia
  ·rw[aY (eJ e hD)];erw[s4 b o (n3.same b o (s2 b o e))]
  ·rw[cg,lC,eb,gJ];rfl
 ·rintro O H2 ⟨s2,d2,v,v',rfl⟩
  erw[#[xs,ys,h1.go s2,h2.go s2,ao],hq H2 s2 ?_];rw[d2,pN]
structure Fl(P:ag)(w:World)(outer:List Env)(H:Hp)(h₁:Heap)(ex:Addr)(H':Hp)(B h:Heap):Prop where
 un:Un (fW outer) [] H H' h₁ h
 bX:fK P w H' h
 k1:∀b o,h₁.get? b=some o->H b=none->b∉fW outer->B.get? b=some o
 k2:∀b o,H' b=some o->∃ob,B.get? b=some ob
 k3:∀b o,h₁.get? b=some o->b∉fW outer->∃ob,B.get? b=some ob
 fr:∀b∈fW outer,H' b=none
 nw:h₁.get? ex=none
 ne:H' ex=none
theorem Fl.step{P:ag}{w:World}{outer:List Env}{H H':Hp}{h₁ B h h':Heap}{ex:Addr}{aw:Heap}(F:Fl P w outer H h₁ ex H' B h)(st:B.StaysIn h)(iY:B.StaysIn h')(up:h.UpToSlots h')(ff:h.FunFrames aw outer):Fl P w outer H h₁ ex H' B h':=by
 have slot:∀b o,h₁.get? b=some o->H b=none->b∈fW outer->∃sl,h'.get? b=some {o with slots:=sl}:=λb o e n hb=>by let(sl,e1):=F.un.slot b o e n hb (by simp);let(_,o2,e2,hd):=ff.mem hb;rw[e1]at e2;cases e2;let(FR,e3):=up b _ e1 (λvs=>hd vs);erw[FR,e3]
 erw[#[λb o e n hb _=>iY b o (F.k1 b o e n hb),λb o e n hb _=>slot b o e n hb,F.un.free,λb o e hx=>?_,F.un.lH,F.un.kW,F.un.lI],λb u e=>?_,F.k1,F.k2,F.k3,F.fr,F.nw,F.ne]
 ·by_cases hb:b∈fW outer
  ·let(_,o2,e2,hd):=ff.mem hb
   let(sl,e3):=up b o2 e2 hd;erw[_,e3]
  ·let(ob,e1):=F.k3 b o e hb
   erw[ob,iY b ob e1]
 ·refine(F.bX b u e).rP (λc v hc q=>?_) (λ_ q=>q) λ_ _ q=>q
  have inB:∃ob,B.get? c=some ob:=by
   rcases hc with z|z
   ·rw[z];erw[F.k2 b u e]
   ·erw[F.k2 c _ z]
  let(ob,e1):=inB;have e2:=st c ob e1;rw[q]at e2;cases e2;erw[iY c _ e1]
section
variable {P:ag}{w:World}{K:aa}{mg:ck}{aw:Heap}{N:List Str}{qual:Str}{scope:Scope}{f:Addr}{cd:Value}{A:ai}{outer:List Env}{s:af}{H:Hp}{E:XK}{au:List (Addr×Obj)}{O:St}{H1:Hp}{s1:af}{h2:Heap}{ex:Addr}{cls:Value}{vs:List Value}
end
section
variable {X:Cx}{x:Str}{C:Addr}{WE:List Value}{newId UC B:String}{e:Expr}{t:TA}{np dE pos:Pos}
end
section
variable {M:Model}{A:ai}{Ex:Value->af->Prop}
end
section
variable {X:Cx}{k:Nat}{x:Str}{p pos:Pos}{e:Expr}{es:List Expr}{t:TA}{sp:Sp}
end
section
variable {X:Cx}{au:List (Addr×Obj)}{O:St}{H:Hp}{s:af}
end
section
variable {X:Cx}{i:Nat}{n y:Str}{Dc:Addr}{Mc:List Value}{newD:String}{body Fh:List Stmt}{b0:Stmt}{np A9 pos:Pos}{tb:XK->TS}{th:TS}{Cs:Addr->Prop}
end
end _L
namespace _L
open PySem PySem.Spec PyProof.Rows PySem.W Builtin.Getset_descriptor
section
variable {prog:ag}{w:World}{A:ai}{E:Value->af->Prop}{h:Heap}{g:Array GenState}{d:Drawn}{t:Nat}{os:OsState}{K:Frag}{x C:Addr}{o:Obj}
end
end _L
namespace _L
open PySem PySem.Spec PyProof.Rows
section
variable {X:Cx}
end
end _L
namespace _A
theorem a98(a b:Int):Int.gcd b (a.fmod b)=Int.gcd a b:=by rw[Int.fmod_def,Int.gcd_sub_mul_left_right,Int.gcd_comm]
theorem a99{a b:Int}(h:0<b):Int.gcd b (a%b)=Int.gcd a b:=by rw[<-Int.fmod_eq_emod_of_nonneg a (EX h)];erw[a98 a b]
def sg(p q:Int):Int:=if q<0 then-(Int.gcd p q:Int)else(Int.gcd p q:Int)
def lowP (p q:Int):Int:=p.fdiv (sg p q)
def hU (p q:Int):Int:=q.fdiv (sg p q)
theorem Ld{p q:Int}(h:q≠0):0<(Int.gcd p q:Int):=by
 have:Int.gcd p q≠0:=λz=>h (Int.gcd_eq_zero_iff.mp z).2
 lia
theorem zb{p q:Int}(h:q≠0):sg p q≠0:=by have:=Ld (p:=p) h;unfold sg;split<;>omega
theorem P2(p q:Int):sg p q∣p:=by
 unfold sg;split
 ·erw[Int.neg_dvd.mpr (Int.gcd_dvd_left p q)]
 ·erw[Int.gcd_dvd_left p q]
theorem OZ(p q:Int):sg p q∣q:=by
 unfold sg;split
 ·erw[Int.neg_dvd.mpr (Int.gcd_dvd_right p q)]
 ·erw[Int.gcd_dvd_right p q]
theorem K2(p q:Int):sg p q*lowP p q=p:=by unfold lowP;rw[Int.fdiv_eq_ediv_of_dvd (P2 p q)];erw[Int.mul_ediv_cancel' (P2 p q)]
theorem Dk(p q:Int):sg p q*hU p q=q:=by unfold hU;rw[Int.fdiv_eq_ediv_of_dvd (OZ p q)];erw[Int.mul_ediv_cancel' (OZ p q)]
theorem P4(p q:Int):(sg p q).natAbs=Int.gcd p q:=by unfold sg;split<;>lia
theorem a5F{p q:Int}(h:q≠0):Int.gcd (lowP p q) (hU p q)=1:=by
 have e:Int.gcd (sg p q*lowP p q) (sg p q*hU p q)=(sg p q).natAbs*Int.gcd (lowP p q) (hU p q):=Int.gcd_mul_left _ _ _;rw[K2,Dk,P4]at e;have g:=Ld (p:=p) h;have g':0<Int.gcd p q:=by lia
 have e':Int.gcd p q*1=Int.gcd p q*Int.gcd (lowP p q) (hU p q):=by lia
 exact(Nat.eq_of_mul_eq_mul_left g' e').symm
theorem a5G{p q:Int}(h:q≠0):0<hU p q:=by
 have e:=Dk p q;have g:=Ld (p:=p) h;by_cases hq:q<0
 ·have es:sg p q=-(Int.gcd p q:Int):=by unfold sg;rw[bc hq]
  rw[es]at e;erw[Int.not_le.mp λhl=>?_];have:0<=-(Int.gcd p q:Int)*hU p q:=XS ao hl
  lia
 ·have es:sg p q=(Int.gcd p q:Int):=by unfold sg;rw[bj hq]
  rw[es]at e;erw[Int.not_le.mp λhl=>?_];have:(Int.gcd p q:Int)*hU p q<=0:=Int.mul_nonpos_of_nonneg_of_nonpos ao hl
  lia
theorem X8{s x y:Int}(hs:s≠0)(e:s*x=y):x.natAbs<=y.natAbs:=by rw[<-e,jD];erw[Nat.le_mul_of_pos_left _ ao]
theorem a5H{p q:Int}(h:q≠0):(lowP p q).natAbs<=p.natAbs:=X8 (zb h) (K2 p q)
theorem U5{p q:Int}(h:q≠0):(hU p q).natAbs<=q.natAbs:=X8 (zb h) (Dk p q)
theorem ZR{p q:Int}(h:q≠0):(sg p q).natAbs<=q.natAbs:=by rw[P4];erw[Nat.le_of_dvd ao (Int.gcd_dvd_natAbs_right p q)]
end _A
namespace _b
open Rat
theorem K1{a b:Int}(hb:b≠0):_A.lowP a b=(Rat.divInt a b).num/\_A.hU a b=((Rat.divInt a b).den:Int):=by
 have hp:=_A.a5G (p:=a) hb;have hc:=_A.a5F (p:=a) hb;have a7Z:(_A.hU a b).natAbs≠0:=by lia
 have a84:(_A.lowP a b).natAbs.Coprime (_A.hU a b).natAbs:=hc;have e1:Rat.divInt a b=Rat.divInt (_A.lowP a b) (_A.hU a b):=by have h:=Rat.divInt_mul_left (a:=_A.sg a b) (n:=_A.lowP a b) (d:=_A.hU a b) (_A.zb hb);rw[_A.K2,_A.Dk]at h;erw[h]
 have e2:(#[_A.lowP a b,(_A.hU a b).natAbs,a7Z,a84]:Rat)=Rat.divInt (_A.lowP a b) (((_A.hU a b).natAbs:Nat):Int):=Rat.mk_eq_divInt;have e3:(((_A.hU a b).natAbs:Nat):Int)=_A.hU a b:=by lia
 rw[e3]at e2;rw[e1,<-e2];erw[Z,e3.symm]
theorem den_pos(r:Rat):(0:Int)<(r.den:Int):=by have:=r.den_pos;omega
theorem cop(r:Rat):Int.gcd r.num r.den=1:=by have:=r.reduced;simpa[Int.gcd,Nat.Coprime]using this
structure Bd(n:Nat)(r:Rat):Prop where
 num:r.num.natAbs<2^n
 den:r.den<2^n
theorem Bd.mono{n m:Nat}{r:Rat}(h:Bd n r)(l:n<=m):Bd m r:=#[gR h.num (wm az l),gR h.den (wm az l)]
theorem sC{a b n m:Nat}(h:a<2^n)(g:b<2^m):a*b<2^(n+m):=by rw[Nat.pow_add];erw[Nat.mul_lt_mul'' h g]
theorem ml{n:Nat}{a b:Int}(hb:b≠0)(h1:a.natAbs<2^n)(h2:b.natAbs<2^n):Bd n (Rat.divInt a b):=by
 let(e1,e2):=K1 (a:=a) hb;have l1:=_A.a5H (p:=a) hb;have l2:=_A.U5 (p:=a) hb;erw[?_,?_]
 ·rw[<-e1];lia
 ·lia
theorem qR(r s:Rat):(r.den:Int)*(s.den:Int)≠0:=Int.ne_of_gt (jk (den_pos r) (den_pos s))
theorem add_div(r s:Rat):r+s=Rat.divInt (r.num*s.den+s.num*r.den) (r.den*s.den):=by have h:=Rat.divInt_add_divInt r.num s.num (d₁:=r.den) (d₂:=s.den) (by have:=den_pos r;lia) (by have:=den_pos s;lia);rw[wj,wj]at h;erw[h]
theorem Zm(r s:Rat):r-s=Rat.divInt (r.num*s.den-s.num*r.den) (r.den*s.den):=by have h:=Xs r.num s.num (d₁:=r.den) (d₂:=s.den) (by have:=den_pos r;lia) (by have:=den_pos s;lia);rw[wj,wj]at h;erw[h]
theorem mul_div(r s:Rat):r*s=Rat.divInt (r.num*s.num) (r.den*s.den):=by have h:=Rat.divInt_mul_divInt r.num s.num (d₁:=r.den) (d₂:=s.den);rw[wj,wj]at h;erw[h]
section
variable {n m:Nat} {r s:Rat}
theorem abJ(h:Bd n r)(g:Bd m s):(r.num*s.den).natAbs<2^(n+m):=by rw[jD];erw[sC h.num (by have:=g.den;omega)]
theorem abI(h:Bd n r)(g:Bd m s):(s.num*r.den).natAbs<2^(n+m):=by rw[jD,Nat.mul_comm];erw[sC (by have:=h.den;lia) g.num]
theorem LX(h:Bd n r)(g:Bd m s):((r.den:Int)*(s.den:Int)).natAbs<2^(n+m):=by rw[jD];erw[sC (by have:=h.den;lia) (by have:=g.den;lia)]
theorem Bd.add(h:Bd n r)(g:Bd m s):Bd (n+m+1) (r+s):=by
 rw[add_div];have h1:=abJ h g;have h2:=abI h g;have h3:=LX h g;have e:2^(n+m+1)=2^(n+m)+2^(n+m):=by rw[Nat.pow_succ];omega
 erw[ml (qR r s) aO aO]
theorem Bd.mul(h:Bd n r)(g:Bd m s):Bd (n+m) (r*s):=by rw[mul_div];erw[ml (qR r s) (by rw[jD];erw[sC h.num g.num]) (LX h g)]
end
end _b
namespace _L
open PySem PySem.Spec PyProof.Rows
def fm(H H':Hp):Prop:=∀b o,(∀xs,o≠ .lst xs)->H b=some o->H' b=some o
section
variable {K:aa} {H H' H2:Hp}
theorem fm.trans(a:fm H H')(b:fm H' H2):fm H H2:=λc o n e=>b c o n (a c o n e)
theorem fm.iX{D:Addr}{xs ys:List V}(h:H D=some (.lst xs)):fm H (upd H D (.lst ys)):=λb o n e=>by rw[aY (zS e h (n xs))];erw[e]
theorem aW.t{a:Addr}{xs:List V}(s:fm H H')(h:aW K H a xs):aW K H' a xs:=h.imp (λr=>r.imp (s _ _ λ_ z=>nomatch z) λ#[o,e]=>#[o,s _ _ (λ_ z=>nomatch z) e]) id
mutual
def eA:ah->Bool | .list _=>false | .dict _=>false | .tuple ds=>cA ds | .none=>true | .bool _=>true | .int _=>true | .str _=>true
def cA:List ah->Bool |[]=>true |d::ds=>eA d&&cA ds
end
theorem eF:∀{ds:List ah},cA ds=true↔∀d∈ds,eA d=true
 |[]=>#[λ_ _ h=>(nomatch h),λ_=>by simp[cA]] |d::ds=>by
  rw[cA,fz,eF (ds:=ds)];constructor
  ·rintro⟨a,b⟩ x hx
   rcases cO.mp hx with rfl|hx
   ·erw[a]
   ·erw[b x hx]
  ·intro h
   erw[h d (.head _),λx hx=>h x (.tail _ hx)]
theorem mm(ns:List Int):cA (ns.map PyData.int)=true:=eF.mpr λd hd=>by let(i,_,rfl):=cI.mp hd;simp[eA]
mutual
theorem RD.t(s:fm H H'):∀{x:V}(d:ah),eA d=true->RD K H x d->RD K H' x d |x,.none,_,h=>by simpa[RD]using h |x,.bool b,_,h=>by simpa[RD]using h |x,.int i,_,h=>by simpa[RD]using h |x,.str y,_,h=>by simpa[RD]using h |x,.list ds,n,h=>by simp[eA]at n |x,.tuple ds,n,h=>by rw[RD]at h⊢;let(a,xs,e,h1,h2):=h;erw[a,xs,e,h1.t s,aK.t s ds (by simpa[eA]using n) h2] |x,.dict _,_,h=>by simp[RD]at h
theorem aK.t (s:fm H H'):∀{xs:List V}(ds:List ah),cA ds=true->aK K H xs ds->aK K H' xs ds |xs,[],_,h=>by simpa[aK]using h |xs,d::ds,n,h=>by rw[aK]at h⊢;rw[cA,fz]at n;let(y,ys,e,h1,h2):=h;erw[y,ys,e,RD.t s d n.1 h1,aK.t s ds n.2 h2]
end
theorem aK.gh:∀{xs:List V}{ns:List Int},aK K H xs (ns.map PyData.int)->xs=ns.map V.int |xs,[],h=>h.nil_inv |xs,n::ns,h=>by let(y,ys,rfl,h1,h2):=h.cons_inv;rw[h1.int_inv,aK.gh h2];rfl
theorem pY:∀(ns:List Int),aK K H (ns.map V.int) (ns.map PyData.int) |[]=>cX |n::ns=>cE (fP n) (pY ns)
theorem Wq{J:It}{xs:List V}{ds:List ah}{te:TE}{Q:VK}{D:Addr}{H0:Hp}(rest:St)(nw:Nw H H0 D (.lst []))(hl:xs.length=ds.length)(hz:xs.length<=1000)(hn:cA ds=true) (go:∀i x H2,xs[i]? =some x->aH H H2->J.go i H2/\∀y H3,J.jG i H2 y H3->H3=H2/\y=x)(stop:∀H2,aH H H2->J.stop xs.length H2) (hs:∀(i:Nat)(x:V)(d:ah)(H2:Hp)(Q':VK),xs[i]? =some x->ds[i]? =some d->aH H H2->(∀y H3,aH H2 H3->RD K H3 y d->Q' y H3)->te (some x::rest) H2 Q') (hq:∀H' ys,aH H H'->H' D=some (.lst ys)->aK K H' ys ds->Q (.ref D) H'):lZ J (gu 0) kK te Q D (none::rest) H0:=by
 have hD:=nw.no;erw[xX xs.length (λi O H2=>aH H H2/\(∃ys,H2 D=some (.lst ys)/\aK K H2 ys (ds.take i))/\∃v,O=v::rest) ?_ ?_ ?_]
 ·erw[nw.same,#[[],nw.at',cX],none,Z]
 ·rintro i O H2 hi ⟨s2,⟨ys,d2,r2⟩,v,rfl⟩
  have DK:i<ds.length:=by rw[<-hl];erw[hi]
  have ex:=bN hi;have eb:=bN DK;let(g1,g2):=go i _ H2 ex s2;erw[g1,λy H3 hy=>?_];let(rfl,rfl):=g2 y H3 hy;erw[BJ ?_];erw[hs i _ _ _ _ ex eb s2 λz H4 s4 r4=>?_];have d4:=s4 _ _ d2;have len:=r2.length;rw[uc]at len;erw[ys,d4,?_,xs.length-(i+1),ao,Z,ao,λb o e=>?_,#[ys++[z],cg,?_],_,Z]
  ·have:(1000:Nat)<sizeLine:=by decide
   lia
  ·rw[aY (eJ e hD)];erw[s4 b o (s2 b o e)]
  ·have t:fm H4 (upd H4 D (.lst (ys++[z]))):=.iX d4
   rw[lC,eb];have n1:cA (ds.take i)=true:=eF.mpr λd hd=>eF.mp hn d (Bs hd);exact(aK.t t _ n1 (aK.mono s4 _ r2)).append (cE (RD.t t _ (eF.mp hn _ (wq DK)) r4) cX)
 ·rintro O H2 ⟨s2,⟨ys,d2,r2⟩,v,rfl⟩
  erw[stop H2 s2,hq H2 ys s2 d2 ?_];rw[hl,pN]at r2;erw[r2]
theorem qS{a:Addr}{xs:List V}{ds:List ah}{te:TE}{Q:VK}{D:Addr}{H0:Hp}(rest:St)(hx:aW K H a xs)(nw:Nw H H0 D (.lst []))(hl:xs.length=ds.length)(hz:xs.length<=1000)(hn:cA ds=true) (hs:∀(i:Nat)(x:V)(d:ah)(H2:Hp)(Q':VK),xs[i]? =some x->ds[i]? =some d->aH H H2->(∀y H3,aH H2 H3->RD K H3 y d->Q' y H3)->te (some x::rest) H2 Q') (hq:∀H' ys,aH H H'->H' D=some (.lst ys)->aK K H' ys ds->Q (.ref D) H'):lZ (tX K a) (gu 0) kK te Q D (none::rest) H0:=Wq rest nw hl hz hn (λi x H2 e s=>#[#[xs,x,hx.go s,e],λy H3 #[e3,y3]=>#[e3,by have:=y3 _ (hx.go s);rw[e]at this;exact(eX this).symm]]) (λH2 s=>#[xs,hx.go s,bf _]) hs hq
theorem vM{a:Addr}{xs:List V}{ds:List ah}{te:TE}{Q:VK}{D:Addr}{H0:Hp}(rest:St)(hx:aF K H a xs)(nw:Nw H H0 D (.lst []))(hl:xs.length=ds.length)(hz:xs.length<=1000)(hn:cA ds=true) (hs:∀(i:Nat)(x:V)(d:ah)(H2:Hp)(Q':VK),xs[i]? =some x->ds[i]? =some d->aH H H2->(∀y H3,aH H2 H3->RD K H3 y d->Q' y H3)->te (some x::rest) H2 Q') (hq:∀H' ys,aH H H'->H' D=some (.lst ys)->aK K H' ys ds->Q (.ref D) H'):lZ (tY K a) (gu 0) kK te Q D (none::rest) H0:=Wq rest nw hl hz hn (λi x H2 e s=>#[#[xs,x,hx.go s,e],λy H3 #[e3,y3]=>#[e3,by have:=y3 _ (hx.go s);rw[e]at this;exact(eX this).symm]]) (λH2 s=>#[xs,hx.go s,bf _]) hs hq
theorem vL{b1 b2:Bool}{l1 l2:Addr}{xs ys:List V}{ds:List ah}{te:TE}{Q:VK}{D:Addr}{H0:Hp}{n:Nat}(rest:St)(p7:n=2)(h1:eW b1 K H l1 xs)(h2:eW b2 K H l2 ys)(nw:Nw H H0 D (.lst [])) (hl:min xs.length ys.length=ds.length)(hz:ds.length<=1000)(hn:cA ds=true) (hs:∀(i:Nat)(x y:V)(d:ah)(H2:Hp)(Q':VK),xs[i]? =some x->ys[i]? =some y->ds[i]? =some d->aH H H2->(∀z H3,aH H2 H3->RD K H3 z d->Q' z H3)->te (some x::some y::rest) H2 Q') (hq:∀H' zs,aH H H'->H' D=some (.lst zs)->aK K H' zs ds->Q (.ref D) H'):lZ (tW K b1 b2 l1 l2) (Au K n (vv (gu 0) (vv (gu 1) DR))) kK te Q D (none::none::rest) H0:=by
 subst p7;have hD:=nw.no;erw[xX ds.length (λi O H2=>aH H H2/\(∃zs,H2 D=some (.lst zs)/\aK K H2 zs (ds.take i))/\∃v v',O=v::v'::rest) ?_ ?_ ?_]
 ·erw[nw.same,#[[],nw.at',cX],none,none,Z]
 ·rintro i O H2 hi ⟨s2,⟨zs,d2,r2⟩,v,v',rfl⟩
  have hx:i<xs.length:=by lia
  have hy:i<ys.length:=by lia
  have ex:=bN hx;have ey:=bN hy;have eb:=bN hi;erw[#[xs,ys,_,_,h1.go s2,h2.go s2,ex,ey],λy' H3 ve=>?_];let(T,x0,y0,rfl,k1,k2,n3):=ve;have e1:=k1 _ (h1.go s2);have e2:=k2 _ (h2.go s2);rw[ex]at e1;rw[ey]at e2;cases e1;cases e2;erw[T,_,Z,aW.of n3.at',Z,_,_,Z,_,_,Z,Z,?_];erw[yes (bR ?_)];erw[hs i _ _ _ _ _ ex ey eb (s2.trans n3.same) λz H4 s4 r4=>?_];have lK:=n3.same.trans s4;have d4:=lK _ _ d2;have len:=r2.length;rw[uc]at len;erw[zs,d4,?_,ds.length-(i+1),ao,Z,ao,λb o e=>?_,#[zs++[z],cg,?_],_,_,Z]
  ·have:(1000:Nat)<sizeLine:=by decide
   lia
  ·rw[aY (eJ e hD)];erw[lK b o (s2 b o e)]
  ·have t:fm H4 (upd H4 D (.lst (zs++[z]))):=.iX d4
   rw[lC,eb];have n1:cA (ds.take i)=true:=eF.mpr λd hd=>eF.mp hn d (Bs hd);exact(aK.t t _ n1 (aK.mono lK _ r2)).append (cE (RD.t t _ (eF.mp hn _ (wq hi)) r4) cX)
 ·rintro O H2 ⟨s2,⟨zs,d2,r2⟩,v,v',rfl⟩
  erw[#[xs,ys,h1.go s2,h2.go s2,ao],hq H2 zs s2 d2 ?_];rw[pN]at r2;erw[r2]
end
theorem Uz:∀{ns:List Int}{us:List Value},Vals (ns.map V.int) us->(∀v∈us,∃a t,v=Value.int a t)/\numsOf us=ns
 |[],_,.nil=>#[λ_ h=>(nomatch h),rfl] |n::ns,_,.cons q r=>by
  let(t,rfl):=(show∃t,_=Value.int n t from q);let(h1,h2):=Uz r;erw[λv hv=>?_,?_]
  ·rcases cO.mp hv with rfl|hv
   ·erw[n,t,Z]
   ·erw[h1 v hv]
  ·show n::numsOf _=_
   rw[h2]
section
variable {X:Cx}
theorem TH(K:aa)(hK:X.K=K)(hc:X.calm=true):fD X (.builtin "max") (λxs H Q=>∃(l:Addr)(ns:List Int),xs=[.ref l]/\aF K H l (ns.map V.int)/\ns≠[]/\∀M,M∈ns->(∀a∈ns,a<=M)->Q (.int M) H):=by
 subst hK;intro au s O H xs us Q I r h;let(l,ns,rfl,hl,cS,q):=h;let(u,rfl,ru):=vals1 r;cases(show u=Value.ref l from ru);let(its,rv,pl,hz):=I.list hl;let(a1,a2):=Uz rv;have all:AllInts its.toArray:=λv hv=>a1 v (by simpa using hv);let(ps,UP):=all.items;have e0:numsOf (intItems ps).toList=ns:=by rw[<-UP];erw[a2]
 rw[nums_intItems]at e0;have hlen:ps.size=ns.length:=by rw[<-e0,ba,BC]
 have A9:0<ps.size:=by rw[hlen];erw[Bu.mpr cS]
 erw[max_intList (I.ok.hd hc) (by rw[<-UP];erw[pl.isList]) A9 λv h' tk hv hk=>?_];let(t,rfl):=intItems_at hv;let(h1,h2):=argBest_gt (numAt ps) (ps.size-1);erw[.int _,H,I.kept hk,#[_,Z],q _ ?_ λa ha=>?_]
 ·rw[numAt_eq,e0];erw[getD_mem aO]
 ·let(j,hj,rfl):=mem_getD ha
  rw[<-e0,<-numAt_eq];erw[h2 j aO]
theorem UA{ns:List Int}{us:List Value}(r:Vals (ns.map V.int) us){i:Nat}{v:Value}(h:us[i]? =some v):∃n t,ns[i]? =some n/\v=Value.int n t:=by
 have hl:=r.length;rw[ba]at hl;have hi:i<ns.length:=by rw[hl];exact(cJ.mp h).1
 let(u,e,ru):=r.get (i:=i) (x:=.int ns[i]) (by rw[bP,bN hi];rfl);rw[h]at e;cases e;let(t,rfl):=(show∃t,v=Value.int ns[i] t from ru);erw[_,t,bN hi,Z]
theorem a19(ns:List Int):((List.range ns.length).any λi=>((ns.map (· !=0))[i]?).getD false)=ns.any (· !=0):=by have:=LSm.range_any (ns.map (· !=0));rw[ba]at this;rw[this,List.any_map];rfl
theorem X3(K:aa)(hK:X.K=K)(hc:X.calm=true):fD X (.builtin "any") (λxs H Q=>∃(l:Addr)(ns:List Int),xs=[.ref l]/\(aF K H l (ns.map V.int)\/aW K H l (ns.map V.int))/\Q (.bl (ns.any (· !=0))) H):=by
 subst hK;intro au s O H xs us Q I r h;let(l,ns,rfl,hl,q):=h;let(u,rfl,ru):=vals1 r;cases(show u=Value.ref l from ru);have hh:=I.ok.hd hc;have fin:∀(its:List Value),Vals (ns.map V.int) its->((List.range its.toArray.size).any λi=>((ns.map (· !=0))[i]?).getD false)=ns.any (· !=0):=λits rv=>by rw[eP,<-rv.length,ba];erw[a19 ns]
 rcases hl with hl|hl
 ·let(its,rv,pl,hz):=I.list hl
  have gQ:=pl.isList;have cB:l<s.heap.objs.size:=by let(_,e,_):=gQ;erw[cH e]
  erw[call_any_walk (Bj gQ ?_)];erw[s.heap.objs.size,[s.heap.objs.size,l],[s.heap.objs.size],its.toArray.size,_,_,λi=>((ns.map (· !=0))[i]?).getD false,Z,Walks.list (A:=X.A.in1) hh _ l (eY cB) its.toArray,#[#[_,eZ _ Z,Z,Z],gQ.push _],λi v s' Q' E' hP hQ=>?_,λh' tk hk=>?_]
  ·let(n,t,e,rfl):=UA rv (i:=i) (v:=v) (by simpa using hP)
   simp only[bP,e]at hQ;erw[truthy_int hQ]
  ·rw[fin its rv]
   erw[.bl _,H,I.kept (LSm.kept_iter hk),Z,q]
 ·let(its,rv,pl,hz):=I.tuple hl
  have gQ:s.heap.IsTuple l its.toArray:=by let((cls,dd,data,sl),ho,jU,n,hd):=pl;erw[_,ho,jU,by simpa using#[n,hd]]
  have cB:l<s.heap.objs.size:=by let(_,e,_):=gQ;erw[cH e]
  erw[call_any_walk (wpAny_pyIter_tuple gQ ?_)];erw[s.heap.objs.size,[s.heap.objs.size,l],[s.heap.objs.size],its.toArray.size,_,_,λi=>((ns.map (· !=0))[i]?).getD false,Z,Walks.tuple (A:=X.A.in1) hh _ l (eY cB) its.toArray,#[#[_,eZ _ Z,Z,Z],gQ.push _],λi v s' Q' E' hP hQ=>?_,λh' tk hk=>?_]
  ·let(n,t,e,rfl):=UA rv (i:=i) (v:=v) (by simpa using hP)
   simp only[bP,e]at hQ;erw[truthy_int hQ]
  ·rw[fin its rv]
   erw[.bl _,H,I.kept (LSm.kept_iter hk),Z,q]
end
end _L
set_option maxHeartbeats 1000000
namespace _a
open PySem PySem.Spec PyProof.Rows _L
def Xh(c m:Int):Prop:=0<=c/\0<=m/\m<2147483648
def gH(H:Hp)(p:Addr):Prop:=∃c m,H p=some (.lst [.int c,.int m])/\Xh c m
structure bO(p:Addr)(H H':Hp):Prop where
 bU:gH H' p
 same:∀b o,b≠p->H b=some o->H' b=some o
theorem bO.refl{p:Addr}{H:Hp}(h:gH H p):bO p H H:=#[h,λ_ _ _ e=>e]
theorem bO.trans{p:Addr}{H H1 H2:Hp}(a:bO p H H1)(b:bO p H1 H2):bO p H H2:=#[b.bU,λc o n e=>b.same c o n (a.same c o n e)]
theorem bO.upd{p:Addr}{H:Hp}{c m:Int}(h:Xh c m):bO p H (_L.upd H p (.lst [.int c,.int m])):=#[#[c,m,cg,h],λb o n e=>by rw[aY n];erw[e]]
theorem bO.fi{p:Addr}{H H':Hp}(h:gH H p)(s:aH H H'):bO p H H':=by let(c,m,e,ok):=h;erw[#[c,m,s _ _ e,ok],λb o _ e=>s b o e]
theorem Ni{j:Int}(h0:0<=j)(h:j<=10^40):Wd j:=by
 have:j.natAbs<=10^40:=by lia
 erw[MZ this aJ]
theorem gH.ne{H:Hp}{p:Addr}(h:gH H p):H p≠none:=by let(c,m,e,_):=h;rw[e];erw[λz=>nomatch z]
theorem gH.a4S{H:Hp}{p:Addr}{q:Addr}{o:HO}(h:gH H p)(e:H q=some o)(n:∀xs,o≠ .lst xs):q≠p:=by let(c,m,e',_):=h;erw[zS e e' (n _)]
theorem bO.t{p:Addr}{H H':Hp}(bg:gH H p)(b:bO p H H'):fm H H':=λc o n e=>b.same c o (bg.a4S e n) e
theorem bO.a0a{p:Addr}{H0 H H':Hp}(s:aH H0 H)(hp:H0 p=none)(b:bO p H H'):aH H0 H':=λc o e=>b.same c o (eJ e hp) (s c o e)
section
variable {K:aa}
theorem M1{J:It}{te:TE}{Q:VK}{D p:Addr}{H H0:Hp}(n:Nat)(rest:_L.St)(nw:Nw H H0 D (.lst []))(bg:gH H p)(hn:n<=1000)(xv:Nat->V) (go:∀i H2,i<n->bO p H H2->J.go i H2/\∀y H3,J.jG i H2 y H3->H3=H2/\y=xv i)(stop:∀H2,bO p H H2->J.stop n H2)(Pz:Int->Prop) (hs:∀i H2 (Q':VK),i<n->bO p H H2->(∀z H3,Pz z->bO p H2 H3->Q' (.int z) H3)->te (some (xv i)::rest) H2 Q') (hq:∀H' (is:List Int),bO p H H'->H' D=some (.lst (is.map V.int))->is.length=n->(∀z∈is,Pz z)->Q (.ref D) H'):lZ J (gu 0) kK te Q D (none::rest) H0:=by
 have Ap:D≠p:=λe=>bg.ne (e▸nw.no);erw[xX n (λi O H3=>bO p H H3/\(∃is:List Int,H3 D=some (.lst (is.map V.int))/\is.length=i/\∀z∈is,Pz z)/\∃v,O=v::rest) ?_ ?_ ?_]
 ·erw[.fi bg nw.same,#[[],nw.at',Z,λ_ h=>(iu h).elim],none,Z]
 ·rintro i O H3 hi ⟨b3,⟨is,d3,li,pi⟩,v,rfl⟩
  let(g1,g2):=go i H3 hi b3;erw[g1,λy H4 hy=>?_];let(rfl,rfl):=g2 y H4 hy;erw[BJ ?_];erw[hs i _ _ hi b3 λz H5 pz b5=>?_];erw[_,b5.same _ _ Ap d3,?_,n-(i+1),ao,Z,ao,?_,#[is++[z],?_,?_,?_],_,Z]
  ·rw[ba,li]
   have:(1000:Nat)<sizeLine:=by decide
   lia
  ·have tR:=b3.trans b5
   erw[?_,λb o n e=>?_]
   ·let(c,m,e,ok):=tR.bU
    erw[c,m,by rw[aY Ap.symm];erw[e],ok]
   ·rw[aY (eJ e nw.no)];erw[tR.same b o n e]
  ·rw[cg,gJ];rfl
  ·rw[cD,li];rfl
  ·intro y hy
   rcases iy.mp hy with h|h
   ·erw[pi y h]
   ·rw[dN.mp h];erw[pz]
 ·rintro O H3 ⟨b3,⟨is,d3,li,pi⟩,v,rfl⟩
  erw[stop H3 b3,hq H3 is b3 d3 li pi]
theorem a6q(ns:List Int){i:Int}(h0:0<=i)(h:i<ns.length):∃z,z∈ns/\fc (ns.map V.int) i=some (.int z):=by
 have hl:i.toNat<ns.length:=by omega
 erw[ns[i.toNat],wq hl,cx h0 (by rw[bP,bN hl];rfl)]
theorem Wo{J:It}{te:TE}{Q:VK}{D p:Addr}{H H0:Hp}(n:Nat)(rest:_L.St)(nw:Nw H H0 D (.lst []))(bg:gH H p)(hn:n<=1000)(xv:Nat->V) (go:∀i H2,i<n->bO p H H2->J.go i H2/\∀y H3,J.jG i H2 y H3->H3=H2/\y=xv i)(stop:∀H2,bO p H H2->J.stop n H2)(Pd:Nat->ah->Prop) (hs:∀i H2 (Q':VK),i<n->bO p H H2->(∀y d H3,Pd i d->eA d=true->RD K H3 y d->bO p H2 H3->Q' y H3)->te (some (xv i)::rest) H2 Q') (hq:∀H' ys ds,bO p H H'->H' D=some (.lst ys)->aK K H' ys ds->ds.length=n->cA ds=true->(∀i d,ds[i]? =some d->Pd i d)->Q (.ref D) H'):lZ J (gu 0) kK te Q D (none::rest) H0:=by
  have Ap:D≠p:=λe=>bg.ne (e▸nw.no);erw[xX n (λi O H3=>bO p H H3/\(∃ys ds,H3 D=some (.lst ys)/\aK K H3 ys ds/\ds.length=i/\cA ds=true/\∀j d,ds[j]? =some d->Pd j d)/\∃v,O=v::rest) ?_ ?_ ?_]
  ·erw[.fi bg nw.same,#[[],[],nw.at',cX,Z,Z,λj d e=>by simp at e],none,Z]
  · rintro i O H3 hi ⟨b3,⟨ys,ds,d3,r3,li,ni,pi⟩,v,rfl⟩
    let(g1,g2):=go i H3 hi b3;erw[g1,λy H4 hy=>?_];let(rfl,rfl):=g2 y H4 hy;erw[BJ ?_];erw[hs i _ _ hi b3 λz d H5 pz nz rz b5=>?_];have d5:=b5.same _ _ Ap d3;have t:fm H5 (_L.upd H5 D (.lst (ys++[z]))):=.iX d5;erw[ys,d5,?_,n-(i+1),ao,Z,ao,?_,#[ys++[z],ds++[d],cg,?_,?_,?_,?_],_,Z]
    · rw[r3.length,li]
      have:(1000:Nat)<sizeLine:=by decide
      lia
    · have tR:=b3.trans b5
      erw[?_,λb o n e=>?_]
      · let(c,m,e,ok):=tR.bU
        erw[c,m,by rw[aY Ap.symm];erw[e],ok]
      ·rw[aY (eJ e nw.no)];erw[tR.same b o n e]
    ·exact(aK.t ((bO.t b3.bU b5).trans t) _ ni r3).append (cE (RD.t t _ nz rz) cX)
    ·rw[cD,li];rfl
    ·exact eF.mpr λx hx=>by
        rcases iy.mp hx with h|h
        ·erw[eF.mp ni x h]
        ·rw[dN.mp h];erw[nz]
    · intro j e he
      by_cases hj:j<ds.length
      · rw[oz hj]at he
        erw[pi j e he]
      · have qE:j=ds.length:=by
          have:=(cJ.mp he).1;rw[cD]at this;have:j<ds.length+1:=this
          lia
        subst qE;rw[ow (bf _),Bq]at he;cases he;rw[li];erw[pz]
  · rintro O H3 ⟨b3,⟨ys,ds,d3,r3,li,ni,pi⟩,v,rfl⟩
    erw[stop H3 b3,hq H3 ys ds b3 d3 r3 li ni pi]
end
end _a
namespace _L
open PySem PySem.Spec PyProof.Rows
abbrev DZ(b:Bool)(h:Heap)(l:Addr):Heap:=h.push {cls:=.type (tP b),data:=.fields (List.toArray [.ref l,.int 0 0])}
abbrev LN(b:Bool)(h:Heap)(l:Addr):Heap:=(DZ b h l).push {cls:=.type "enumerate",data:=.fields (List.toArray [.none,.bool false,.ref h.objs.size,rawInt 0,.none,.none])}
theorem abi(b:Bool)(l:Addr)(xs:Array Value):Meets (Builtin.«enumerate.__new__» #[[.type "enumerate",.ref l],[]]) (λ_ R s=>ip b s.heap l xs/\R (.ok (.ret (.ref (DZ b s.heap l).objs.size))) {s with heap:=LN b s.heap l}):=.of_wp λprog w A R s h=>by
 let(hp,gg,d,tk,os):=s;let(hl,h):=h;have a6Q:=sub_enumerate;have hL:ip b (Shared.heap #[hp,gg,d,tk,os]) l xs:=hl
 wp_walk using xA hL;erw[wpAny_stack_any λst=>cn ?_];split
 ·rename_i c _ _ _ _ _
  cases(c==Value.type "enumerate")
  ·wp_walk using xA hL
   erw[_,Z,h]
  ·wp_walk using xA hL
   erw[_,Z,h]
 ·wp_walk using xA hL
  erw[_,Z,h]
section
variable {prog:ag}{w:World}{A:ai}{E:Value->af->Prop}{s:af}
theorem abj{b:Bool}{l:Addr}{xs:Array Value}{Q:Value->af->Prop}(hl:ip b s.heap l xs) (q:∀g,IsEnum g (s.heap.objs.size+1) s.heap.objs.size 0 .none->kF b g s.heap.objs.size l 0->(∀c o,s.heap.get? c=some o->g.get? c=some o)->Q (.ref (s.heap.objs.size+1)) {s with heap:=g}): wpAny (model prog w) A (call (.type "enumerate") [.ref l]) Q E s:=by erw[callType_new PySem.F.called_enumerate az (PySem.F.typeCall_enumerate_1 _) (PySem.F.newCall_enumerate_1 _) (λobj=>PySem.F.args_object_init_2 obj _) PySem.F.entry_enumerate_new (abi b l xs) #[hl,?_]];have z1:(DZ b s.heap l).objs.size=s.heap.objs.size+1:=rE ..;have g2:(LN b s.heap l).get? (DZ b s.heap l).objs.size=some _:=eZ _ rfl;have g1:(LN b s.heap l).get? s.heap.objs.size=some _:=cN _ (eZ _ Z);show _/\_;rw[z1]at g2⊢;erw[#[_,g2,Z],q _ g2 ?_ λc o e=>cN _ (cN _ e)];cases b<;>erw[_,g1,rfl,rfl]
theorem VP{b:Bool}{it l:Addr}{xs:Array Value}(hh:A.handled=none)(ne:l≠it):Draws prog w A it [it,l] xs.size (λi x=>xs[i]? =some x) (λi h=>kF b h it l i/\ip b h l xs) where
 live:=λi h st=>by let(o,e,_):=st.1.ob;erw[o,e]
 frame:=λi h h' st k=>#[st.1.to λo e=>k it (by simp) o e,st.2.to λo e=>k l (by simp) o e]
 item:=λi s Q E hi st hQ=>CS st.1 st.2 (x:=xs[i]) (by simp[hi]) λg gi sb=>hQ _ g s.toks (by simp[hi]) #[gi,st.2.to λo e=>sb.extBut _ _ ne e] sb
 done:=λs Q E st hE=>LJ hh st.1 st.2 (by simp) λg e a b=>hE g e a b
end
def Ba(K:aa)(b:Bool)(l:Addr):It:=#[λi H=>∃xs x,eW b K H l xs/\xs[i]? =some x,λi H v H'=>∃T x,v= .ref T/\(∀xs,eW b K H l xs->xs[i]? =some x)/\Nw H H' T (.tup [.int i,x]),λi H=>∃xs,eW b K H l xs/\xs.length=i]
theorem Yz{P:ag}{w:World}{K:aa}{elts:List Expr}{kt:Nat}{pos:Pos}{b:Bool}{e it l:Addr}(D:e≠it): Turn P w K (.Tuple elts kt pos) (Ba K b l) [e,it] e (λi h=>(∃old,IsEnum h e it i old)/\kF b h it l i) where
 mem:=by simp
 obj:=λi h st c hc=>by
  let((old,he),h1):=st;simp only[cO,iu,kH]at hc;rcases hc with rfl|rfl
  ·erw[_,he,λv e=>by cases e]
  ·let(o,e,_,n):=h1.ob;erw[o,e,n]
 keep:=λi h h' st k=>by let((old,he),h1):=st;erw[#[old,k e (by simp) _ he],h1.to λo q=>k it (by simp) o q]
 item:=by
  intro X hP hw hK hc i au s O H E I hf st hg;subst hP hw hK;let(xs,x,q1,e1):=hg;let(its,r1,p1):=q1.get I;let(u1,Ko,jm):=r1.get e1;let((old,he),h1):=st;let(oi,kB,ci,_):=h1.ob;have K9:∃o,s.heap.get? l=some o/\(o.cls= .type "list"\/o.cls= .type "tuple"):=by cases b<;>(let(o,ho,cc,_):=p1;first|erw[o,ho,.inl cc]|erw[o,ho,.inr cc])
  let(ol,qC,cl):=K9;have nel:e≠l:=λz=>by subst z;rw[he]at qC;cases qC;rcases cl with h|h<;>simp at h
  have nil:l≠it:=λz=>by subst z;rw[kB]at qC;cases qC;rw[ci]at cl;cases b<;>(rcases cl with h|h<;>simp[tP]at h)
  have cB:i<its.toArray.size:=by rw[eP,<-r1.length];exact(cJ.mp e1).1
  erw[wpAny_pyNext_enum_itemD (VP (I.ok.hd hc) nil) he #[h1,p1] cB D (by simp[D,nel]) λy h' tk hPy ho nF hT hsz kp=>#[_,Z,?_]];have ey:y=u1:=by
   have a1:its.toArray[i]? =some y:=hPy;have a2:its.toArray[i]? =some u1:=by simpa using Ko
   rw[a1]at a2;erw[eX a2]
  subst ey;erw[wpAny_letOwnedTupleGo_enum ho λg' he' sb=>?_];have hs:=sb.extBut;have elt:e<s.heap.objs.size:=cH he;have ilt:it<s.heap.objs.size:=cH kB;have nw:Nw H (upd H s.heap.objs.size (.tup [.int i,x])) s.heap.objs.size (.tup [.int i,x]):=.of (I.bX.fresh (bf _));have I1:Inv X au O (upd H s.heap.objs.size (.tup [.int i,x])) {s with heap:=s.heap.push {cls:=.type "tuple",data:=.seq (List.toArray [.int i tk,y])},toks:=tk+1}:=I.laid (t':=tk+1) (λb ob q=>cN _ q) (bf _) #[by show 2<=sizeLine;decide,[.int i tk,y],.cons #[tk,Z] (.cons jm .nil),#[_,eZ _ Z,Z,_,Z]];have JW:∀c∈[e,it],c<s.heap.objs.size:=λc hc=>by
   simp only[cO,iu,kH]at hc;rcases hc with rfl|rfl
   ·erw[elt]
   ·erw[ilt]
  have hn:∀c∈[e,it],upd H s.heap.objs.size (.tup [.int i,x]) c=none:=λc hc=>by rw[aY (eY (JW c hc))];exact(hf c hc).1
  have I2:Inv X au O (upd H s.heap.objs.size (.tup [.int i,x])) {s with heap:=g',toks:=tk+1}:=Inv.yI (s:={s with heap:=s.heap.push {cls:=.type "tuple",data:=.seq (List.toArray [.int i tk,y])},toks:=tk+1}) (t':=tk+1) (fp:=[e,it]) I1 (λc o hc q=>by
   have q:(s.heap.push {cls:=.type "tuple",data:=.seq (List.toArray [.int i tk,y])}).get? c=some o:=q;have nz:c≠e:=λz=>hc (by simp[z]);rcases Heap.get?_push_cases q with⟨KO,rfl⟩|q'
   ·subst KO
    erw[hs _ _ nz hT]
   ·erw[hs _ _ nz (kp c o nz (λz=>hc (by simp[z])) q')]) (λc hc=>by let(f0,f1,f2,f3,f4,f5):=hf c hc;erw[hn c hc,f1,f2,f3,f4,f5]);erw[.ref s.heap.objs.size,_,I2,Z,#[s.heap.objs.size,x,Z,λzs hz=>?_,nw],#[#[_,by simpa using he'],nF.1.to λo q=>hs _ o (kI D) q],hn];rw[eW.inj I hz q1];erw[e1]
 done:=by
  intro X hP hw hK hc i au s O H E I hf st hg;subst hP hw hK;let(xs,q1,nQ):=hg;let(its,r1,p1):=q1.get I;let((old,he),h1):=st;let(oi,kB,ci,_):=h1.ob;have K9:∃o,s.heap.get? l=some o/\(o.cls= .type "list"\/o.cls= .type "tuple"):=by cases b<;>(let(o,ho,cc,_):=p1;first|erw[o,ho,.inl cc]|erw[o,ho,.inr cc])
  let(ol,qC,cl):=K9;have nil:l≠it:=λz=>by subst z;rw[kB]at qC;cases qC;rw[ci]at cl;cases b<;>(rcases cl with h|h<;>simp[tP]at h)
  have hi:i=its.toArray.size:=by rw[eP,<-r1.length];erw[nQ.symm]
  subst hi;erw[wpAny_pyNext_enum_endD (VP (I.ok.hd hc) nil) he #[h1,p1] λh' kp=>#[Z,?_]];erw[I.yI (t':=s.toks) (fp:=[e,it]) (λc o hc q=>kp c o (λz=>hc (by simp[z])) q) hf]
 self:=λ_ _ _ _ _ st h=>by let((old,he),_):=st;erw[wpAny_pyIter_enum he h]
inductive aff(K:aa)(b:Bool)(R:It->Hp->Prop)(vs:List V)(H1:Hp):Prop |mk (l:_)(h0:vs=[.ref l])(h1:(∃xs,eW b K H1 l xs))(h2:R (Ba K b l) H1)
def a6F(K:aa)(b:Bool)(ta:TA):TI:=λO H R=>ta O H λvs H1=>aff K b R vs H1
theorem zu(K:aa){X:Cx}(hK:X.K=K)(b:Bool){elts:List Expr}{kt:Nat}{pQ:Pos}{a:Expr}{ta:TA}{p pos:Pos}(hg:Gl X "enumerate")(hm:X.mg "enumerate"=none)(ha:PA X [a] ta)(hs:autoParam (starEach [a] X.env=[(false,eval a X.env)]) r8_._auto_1)(jd:autoParam (starEach [] X.env=[]) r8_._auto_1): PI X (.Tuple elts kt pQ) (.Call (.Name "enumerate" p) [a] [] pos) (a6F K b ta):=by
 subst hK;intro au s O H R I h;erw[Call_ (sF I hg hm PyProof.Rows.boot_enumerate (Bp (aZ (ha pos au s O H _ I h) λus s1 #[vs,H1,I1,r1,q1]=>?_) (by rw[hs,jd]) (by rw[jd];rfl)))];let(l,e,(xs,h1),q):=q1;subst e;let(u1,rfl,jm):=vals1 r1;cases(show u1=Value.ref l from jm);let(Ke,v1,p1):=h1.get I1;erw[abj p1 λg zg ig kp=>wpAny_pyIter_enum zg ?_];erw[_,_,_,_,H1,Z,I1.kept (t':=s1.toks) kp,Yz (EM (XD _)),#[#[_,zg],ig],λc hc=>?_,q];have hle:s1.heap.objs.size<=c:=by simp only[cO,iu,kH]at hc;rcases hc with rfl|rfl<;>first|erw[bf _]|erw[Nat.le_add_right _ _]
 erw[I1.tF hle (I1.bX.fresh hle)]
theorem Ax{K:aa}{b:Bool}{a:Addr}{xs:List V}{g:TG}{tb:TS}{D:Ends}{O:St}{H:Hp}(Pv:Nat->St->Hp->Prop)(h0:Pv 0 O H)(hl:∀i O H,i<=xs.length->Pv i O H->eW b K H a xs) (hs:∀i x O H,xs[i]? =some x->Pv i O H->∀T H',Nw H H' T (.tup [.int i,x])->g (.ref T) O H' λσ2 H2=>tb {D with nx:=Pv (i+1),ct:=Pv (i+1),bk:=D.nx} σ2 H2)(hd:∀O H,Pv xs.length O H->D.nx O H): ∃W:Nat->Nat->St->Hp->Prop,(∃m,W 0 m O H)/\∀i m O H,W i m O H->((Ba K b a).stop i H/\D.nx O H)\/((Ba K b a).go i H/\∃N:St->Hp->Prop,(∀σ' H',N σ' H'->∃m',m'<m/\W (i+1) m' σ' H')/\∀x H',(Ba K b a).jG i H x H'->g x O H' λσ2 H2=>tb {D with nx:=N,ct:=N,bk:=D.nx} σ2 H2):=by
 erw[λi m O H=>m=xs.length-i/\i<=xs.length/\Pv i O H,#[xs.length,by simp,fE _,h0],?_];rintro i m O H ⟨rfl,hi,p⟩;have q:=hl i O H hi p;by_cases cB:i<xs.length
 ·erw[.inr #[#[xs,xs[i],q,by simp[cB]],Pv (i+1),λσ' H' p'=>#[xs.length-(i+1),ao,Z,cB,p'],λx H' y=>?_]]
  let(T,z,rfl,ez,nw):=y;erw[hs i z O H (ez xs q) p T H' nw]
 ·have e:i=xs.length:=by lia
  subst e;erw[.inl #[#[xs,q,Z],hd O H p]]
theorem Vu{K:aa}{b1 b2:Bool}{a1 a2:Addr}{xs ys:List V}{g:TG}{tb:TS}{D:Ends}{O:St}{H:Hp}(n:Nat)(hn:n=min xs.length ys.length)(Pv:Nat->St->Hp->Prop)(h0:Pv 0 O H)(hl:∀i O H,i<=n->Pv i O H->eW b1 K H a1 xs/\eW b2 K H a2 ys) (hs:∀i x y O H,xs[i]? =some x->ys[i]? =some y->Pv i O H->∀T H',Nw H H' T (.tup [x,y])->g (.ref T) O H' λσ2 H2=>tb {D with nx:=Pv (i+1),ct:=Pv (i+1),bk:=D.nx} σ2 H2)(hd:∀O H,Pv n O H->D.nx O H): ∃W:Nat->Nat->St->Hp->Prop,(∃m,W 0 m O H)/\∀i m O H,W i m O H->((tW K b1 b2 a1 a2).stop i H/\D.nx O H)\/((tW K b1 b2 a1 a2).go i H/\∃N:St->Hp->Prop,(∀σ' H',N σ' H'->∃m',m'<m/\W (i+1) m' σ' H')/\∀x H',(tW K b1 b2 a1 a2).jG i H x H'->g x O H' λσ2 H2=>tb {D with nx:=N,ct:=N,bk:=D.nx} σ2 H2):=by
 erw[λi m O H=>m=n-i/\i<=n/\Pv i O H,#[n,by simp,fE _,h0],?_];rintro i m O H ⟨rfl,hi,p⟩;let(q1,q2):=hl i O H hi p;by_cases cB:i<n
 ·have l1:i<xs.length:=by lia
  have l2:i<ys.length:=by lia
  erw[.inr #[#[xs,ys,xs[i],ys[i],q1,q2,by simp[l1],by simp[l2]],Pv (i+1),λσ' H' p'=>#[n-(i+1),ao,Z,cB,p'],λx H' y=>?_]];let(T,z1,z2,rfl,e1,e2,nw):=y;erw[hs i z1 z2 O H (e1 xs q1) (e2 ys q2) p T H' nw]
 ·have e:i=n:=by lia
  subst e;erw[.inl #[#[xs,ys,q1,q2,ao],hd O H p]]
section
variable {X:Cx}
end
set_option maxHeartbeats 1000000 in
theorem Cy{X:Cx}{N:List Str}{js:List (Option Nat)}{elt tg iter:Expr}{ifs:List Expr}{scope:Scope}{pos:Pos}{wi:TI}{g:TG}{tt:TT}{te:TE}{i0:Nat}{x0:Str}{xc O6:Pos}(hNd:X.N.Nodup)(sW:X.N[i0]? =some x0)(Km:Loc X.env.scope x0)(hc:X.calm=true)(hN:AO X N js scope=true)(hS:tQ X scope=true) (hi:PI X tg iter wi)(hg:∀cl s H fp au,PG (dg X N scope cl s H fp au) tg g)(ht:∀cl s H fp au,Mx (dg X N scope cl s H fp au) ifs tt)(he:∀cl s H fp au,PE (dg X N scope cl s H fp au) elt te) (hsw:autoParam (swapsWith (.ListComp elt [#[tg,iter,ifs,0]] scope pos) (some (.Name x0 xc)) O6.line X.env=pure true) r8_._auto_1)(hf0:autoParam (X.fn x0=true\/X.env.scope.names.lookup x0=some .local) d8_._auto_1) (hs:autoParam (∀x,foldedSetIterable iter X.env x=pure x) d8_._auto_1):PS X (.Assign [.Name x0 xc] (.ListComp elt [#[tg,iter,ifs,0]] scope pos) O6) (yP (NN js wi g tt te) (gu i0)):=by
 intro au s O H D0 I h;have nY:=hS;unfold tQ at nY;rw[fz,fz]at nY;let((k1,k2),k3):=nY;have mH:scope.kind= .function:=fL.mp k1;have sZ:∀x∈scope.names,x.2= .free->∃c,X.env.cells.lookup x.1=some c:=λx hx e=>by have:=g6.mp k3 x hx;rw[e]at this;erw[I.ok.has x.1 (.inl (fL.mp this))]
 have p9:∀x∈scope.names,x.2≠ .cell:=λx hx e=>by have:=g6.mp k3 x hx;rw[e]at this;erw[eH this]
 have Ae:∀x∈scope.names,x.2= .local->scope.names.lookup x.1=some .local:=λx hx e=>by have:=g6.mp k3 x hx;rw[e]at this;erw[fL.mp this]
 let(cl,Al,c1,c2):=M5 sZ;rw[exec_Assign_Name_used _ _ _ _ hsw];erw[aM (tZ (aM ?_))];show wpAny _ X.A (do let _<-comprehension (.ListComp elt [#[tg,iter,ifs,0]] scope pos) scope X.env _ (newList []) false (eval iter X.env) (some (assign (.Name x0 xc) X.env))) _ _ s;erw[aM (gI (Xp (use:=some (assign (.Name x0 xc) X.env)) (Q:=λ_ s'=>SP X au D0 .next s') Z hs Al mH Ae (aZ (hi au s O H _ I h) λv s1 h1=>aZ h1 λA1 s2 h2=>?_)) (λ_ s' hq=>cn (cn hq)) λ_ _ e=>e)];let(it,fp,tn,J,H2,e,I2,T,oF,f2,h2):=h2;subst e;have hD:H2 s2.heap.objs.size=none:=I2.bX.fresh (bf _);let(W,(m0,w0),turn):=h2 _ _ (Nw.of hD);erw[pL (Xo p9 (by intro y hy;simp at hy) (λh₁ sR sP=>?_) mH)];have o5:∀b∈fp,b<s2.heap.objs.size:=λb hb=>by let(o,e,_):=T.obj _ _ oF b hb;erw[cH e]
 have I3:Inv X au O (upd H2 s2.heap.objs.size (.lst [])) {s2 with heap:=s2.heap.push {cls:=.type "list",dict:=none,data:=.seq ([]:List Value).toArray}}:=I2.Dn (its:=[]) (t':=s2.toks) .nil (fE _);generalize tD:s2.heap.push {cls:=.type "list",dict:=none,data:=.seq ([]:List Value).toArray}=h3 at I3 sR sP;have rO:h3.objs.size=s2.heap.objs.size+1:=by rw[<-tD,rE]
 have A0:∀b o,s2.heap.get? b=some o->h3.get? b=some o:=λb o e=>by rw[<-tD];erw[cN _ e]
 have f3:∀b∈fp,kd X au (upd H2 s2.heap.objs.size (.lst [])) b:=λb hb=>#[by rw[aY (eY (o5 b hb))];exact(f2 b hb).1,(f2 b hb).2];have sH:∀b o,h3.get? b=some o->h₁.get? b=some o:=λb o e=>(sP.2 b (eY (cH e))).trans (cN _ e);have I4:Inv (dg X N scope cl {s2 with heap:=h3} (upd H2 s2.heap.objs.size (.lst [])) fp au) [] (stC js O) (upd H2 s2.heap.objs.size (.lst [])) {s2 with heap:=h₁,toks:=s2.toks+([]:List (Str×Value)).length}:=I3.comp (s:={s2 with heap:=h3}) hN hS c1 c2 f3 (λb hb=>by show b<h3.objs.size;rw[rO];erw[Br (o5 b hb)]) (by simpa using sR) sH;have rV:tn 0 h₁:=T.keep _ _ _ oF λb _ o e=>sH b o (A0 b o e);have loop:codeAny (model X.prog X.w) X.A (.compLoop (.ListComp elt [#[tg,iter,ifs,0]] scope pos) 0 (.ref it) (.ref s2.heap.objs.size) (compEnvC scope cl h3.objs.size X.env)) (compPost (model X.prog X.w) X.A X.xe (some (assign (.Name x0 xc) X.env)) (λ_ s'=>SP X au D0 .next s') (.ref s2.heap.objs.size) h3.objs.size) {s2 with heap:=h₁,toks:=s2.toks+([]:List (Str×Value)).length}:=by
  erw[Wt (λn s'=>∃i σ' H',Inv (dg X N scope cl {s2 with heap:=h3} (upd H2 s2.heap.objs.size (.lst [])) fp au) [] σ' H' s'/\tn i s'.heap/\(∀b∈fp,H' b=none)/\W i n σ' H') ?_ m0 #[0,_,_,I4,rV,λb hb=>(f3 b hb).1,w0]];rintro n s5 ⟨i,σ5,H5,I5,m9,pA,w5⟩;have ko:∀{H':Hp},(∀b∈fp,H' b=none)->∀b∈fp,kd (dg X N scope cl {s2 with heap:=h3} (upd H2 s2.heap.objs.size (.lst [])) fp au) [] H' b:=λ{H'} hn b hb=>by
   let(_,q1,q2,q3,q4,q5):=f3 b hb;erw[hn b hb,λz=>?_,I4.ok.tI b hb,.inl hb,λx c e=>q4 x c (c1 x c e),λp hp=>q5 p (by simpa[dg]using hp)];have cB:b<h3.objs.size:=by rw[rO];erw[Br (o5 b hb)]
   erw[eY cB z]
  rcases turn i n σ5 H5 w5 with⟨stop,qn⟩|⟨go,step⟩
  ·erw[aZ (T.done (dg X N scope cl {s2 with heap:=h3} (upd H2 s2.heap.objs.size (.lst [])) fp au) rfl rfl rfl hc i [] s5 σ5 H5 _ I5 (ko pA) m9 stop) λr s6 #[hr,I6]=>?_]
   subst hr;let(m,hm,_):=I6.loc;have u0:Un (fW X.stack) fp (upd H2 s2.heap.objs.size (.lst [])) H5 h3 s6.heap:=I6.aw;have I7:Inv X au O H5 s6:=I3.M9 (s':=s6) (ch:=fp) I6.os u0 I6.bX I6.bare λb hb=>#[(f3 b hb).2.2.2.1,(f3 b hb).2.1,(f3 b hb).2.2.2.2.1,(f3 b hb).2.2.2.2.2];have hC:kd X au H5 h3.objs.size:=I3.tF (bf _) I6.free;show wpAny _ X.A (assign (.Name x0 xc) X.env (.ref s2.heap.objs.size)) _ _ s6;erw[wpAny_assign_Name (NW I7 hNd sW Km (show RelV (.ref s2.heap.objs.size) (.ref s2.heap.objs.size)from Z) (λs8 I8 hsb=>?_) hf0)];let(a,sb,ha):=hsb;have hCa:h3.objs.size≠a:=by
    rcases ha with rfl|ha
    ·erw[hC.2.1]
    ·erw[λz=>hC.2.2.2.2.1 x0 a ha z.symm]
   erw[m,hm.sameBut sb hCa,λh9 hs9=>#[_,H5,?_,qn]];erw[I8.yI (t':=s8.toks) (fp:=[h3.objs.size]) (λb o hb e=>hs9.extBut b o (λz=>hb (by simp[z])) e) λb hb=>by rw[dN.mp hb];erw[hC]]
  ·erw[aZ (T.item (dg X N scope cl {s2 with heap:=h3} (upd H2 s2.heap.objs.size (.lst [])) fp au) rfl rfl rfl hc i [] s5 σ5 H5 _ I5 (ko pA) m9 go) λr s6 #[u,hr,h6]=>?_]
   subst hr;erw[aZ h6 λ_ s7 #[x,H7,I7,r7,y7,lJ,Aw]=>?_];have Bb:=I7.pinned (ko Aw) (T.obj _ _ lJ);erw[aZ (hg _ _ _ _ _ _ s7 σ5 H7 x u _ Bb r7 (step x H7 y7)) λ_ s8 #[σ8,H8,I8,q8]=>?_];erw[aZ (ht _ _ _ _ _ _ s8 σ8 H8 _ I8 q8) λok s9 #[H9,I9,q9]=>?_];have again:∀{s':af}{σ7:St}{H7:Hp},Inv (dg X N scope cl {s2 with heap:=h3} (upd H2 s2.heap.objs.size (.lst [])) fp au) ([]++qe fp s7.heap) σ7 H7 s'->(∃m',m'<n/\W (i+1) m' σ7 H7)->∃m,m<n/\∃i σ' H',Inv (dg X N scope cl {s2 with heap:=h3} (upd H2 s2.heap.objs.size (.lst [])) fp au) [] σ' H' s'/\tn i s'.heap/\(∀b∈fp,H' b=none)/\W i m σ' H':=λ{s' σ7 H7} J7 n7=>by let(m',hm,w7):=n7;erw[m',hm,i+1,σ7,H7,J7.ui,T.keep _ _ _ lJ λb hb o e=>(J7.pin (b,o) (gT _ (gT _ (oQ hb e)))).1,λb hb=>?_,w7];let(o,e,d):=T.obj _ _ lJ b hb;exact(J7.pin (b,o) (gT _ (gT _ (oQ hb e)))).2.1
   cases ok with |false=>rw[bj eH]at q9⊢;erw[again I9 q9] |true=>rw[bc rfl]at q9⊢;erw[aZ (he _ _ _ _ _ _ s9 σ8 H9 _ I9 q9) λyv uA #[y,oq,Bc,Je,ys,xI,hz,wD]=>?_];erw[aZ (D5 _ uA σ8 oq (.ref s2.heap.objs.size) [y] (.ref s2.heap.objs.size) [yv] (λ_ jj=>∃m',m'<n/\W (i+1) m' σ8 jj) Bc Z (.cons Je .nil) #[_,ys,y,Z,Z,xI,hz,wD]) λ_ oJ #[v11,jj,yh,r11,Jf]=>?_];erw[again yh Jf]
 erw[Xr loop (T.self _ 0 _ _ _ rV loop)]
theorem Wy:∀{zs:List Str}{us:List Value},Vals (zs.map V.str) us->CarriedAll us (zs.map PyData.str) |[],_,.nil=>.nil |z::zs,_,.cons q r=>by let(t,rfl):=(show∃t,_=Value.str z t from q);erw[.cons (.str z t) (Wy r)]
section
variable {X:Cx}
end
section
variable {X:Cx}{au:List (Addr×Obj)}{O:St}{H:Hp}{s:af}
end
section
variable {X:Cx}
theorem WA:fD X (.type "range") (λxs H Q=>∃n,xs=[.int n]/\∀p H',Nw H H' p (.wY 0 n)->Q (.ref p) H'):=by intro au s O H xs us Q I r h;let(n,rfl,q):=h;let(u,rfl,t,rfl):=vals1 r;erw[call_range_1 ?_];have hf:H s.heap.objs.size=none:=I.bX.fresh (bf _);erw[.ref s.heap.objs.size,upd H s.heap.objs.size (.wY 0 n),I.laid (t':=s.toks+1+1) (λb u e=>cN _ e) (bf _) ?_,Z,q _ _ (.of hf)];erw[_,_,_,eZ _ Z]
end
theorem Zl:isSubtype (.type "range_iterator") (.type "reversed")=pure false:=by rw[isSubtype_type];kernel_rfl
section
variable {prog:ag}{w:World}{A:ai}{E:Value->af->Prop}{s:af}
abbrev ze(n:Nat):Obj:={cls:=.type "range_iterator",data:=.fields (List.toArray [rawInt (0+((n:Int)-1)*1),rawInt (n:Int),rawInt (-1)])}
abbrev IJ(n:Nat):Bool:=Builtin.Range.rangeFitsLong 0&&Builtin.Range.rangeFitsLong n&&Builtin.Range.rangeFitsLong 1&&Builtin.Range.rangeFitsLong (-1)&&Builtin.Range.rangeFitsLong (0-1)&&Builtin.Range.rangeFitsLong (Builtin.Range.rangeSize 0 n 1)
theorem Rp{n:Nat}(h:n<2^62):IJ n=true:=by unfold IJ;rw[rangeSize_one];simp only[Builtin.Range.rangeFitsLong,fz,EG];split<;>lia
theorem a0R(r:Addr)(a b c:Int)(t u v:Tok)(hc0:¬(!(Builtin.Range.rangeFitsLong a&&Builtin.Range.rangeFitsLong b&&Builtin.Range.rangeFitsLong c&&Builtin.Range.rangeFitsLong (-c)&&Builtin.Range.rangeFitsLong (a-c)&&Builtin.Range.rangeFitsLong (Builtin.Range.rangeSize a b c)))=true):Meets (Builtin.«range.__reversed__» #[[.ref r],[]]) (λ_ R s=>s.heap.get? r=some {cls:=.type "range",dict:=none,data:=.fields (List.toArray [.int a t,.int b u,.int c v]),slots:=#[]}/\R (.ok (.ret (.ref s.heap.objs.size))) {s with heap:=s.heap.push {cls:=.type (if(Builtin.Range.rangeFitsLong a&&Builtin.Range.rangeFitsLong b&&Builtin.Range.rangeFitsLong c&&Builtin.Range.rangeFitsLong (-c)&&Builtin.Range.rangeFitsLong (a-c)&&Builtin.Range.rangeFitsLong (Builtin.Range.rangeSize a b c))=true then "range_iterator" else "longrange_iterator"),data:=.fields (List.toArray [rawInt (a+(Builtin.Range.rangeSize a b c-1)*c),rawInt (Builtin.Range.rangeSize a b c),rawInt (-c)])},toks:=s.toks}):=.of_wp λprog w A R s h=>by
 let(hp,g,d,tk,os):=s;let(hl,h):=h
 wp_walk;erw[_,Z,h]
theorem ac1{l:Addr}{n:Nat}{t u v:Tok}{Q:Value->af->Prop}(hn:n<2^62)(hl:s.heap.get? l=some {cls:=.type "range",data:=.fields (List.toArray [.int 0 t,.int n u,.int 1 v])}) (h:Q (.ref s.heap.objs.size) {s with heap:=s.heap.push (ze n)}):wpAny (model prog w) A (call (.builtin "range.__reversed__") [.ref l]) Q E s:=by
 have hT:s.TypeIs (.ref l) "range":=#[_,hl,Z];erw[wg XU hT F.entry_range_reversed (F.args_range_reversed_1 _) (a0R l 0 n 1 t u v (by have:=Rp hn;unfold IJ at this;rw[this];decide)) #[hl,?_]];rw[bc (Rp hn)];have e:Builtin.Range.rangeSize 0 n 1=n:=by rw[rangeSize_one];split<;>lia
 rw[e];erw[h]
theorem abY{l:Addr}{n:Nat}{t u v:Tok}{Q₁:Value->af->Prop}(hn:n<2^62)(hl:s.heap.get? l=some {cls:=.type "range",data:=.fields (List.toArray [.int 0 t,.int n u,.int 1 v])}) (h:Q₁ (.ref s.heap.objs.size) {s with heap:=s.heap.push (ze n)}): codeAny (model prog w) A (.call (.builtin "reversed.__new__") #[[.type "reversed",.ref l],[]]) (wants Q₁ E) s:=by
 have hT:s.TypeIs (.ref l) "range":=#[_,hl,Z];erw[codeAny_of_tree ?_];show wpAny _ A.in1 (do checkBuiltinCall "reversed.__new__" #[[.type "reversed",.ref l],[]];again (.builtin "reversed.__new__" #[[.type "reversed",.ref l],[]])) _ _ s;erw[aM (yk (F.newCall_reversed_1 _) (cn #[plainId_quiet F.plain_reversed_new _,codeAny_builtin F.entry_reversed_new ?_]))];rw[Around.under_plainId F.plain_reversed_new _];unfold Builtin.«reversed.__new__»;erw[aM (yk (newClass_reversed _) ?_)]
 try dsimp only
 erw[aM (yk (a:=()) (by first|rfl|kernel_rfl) ?_)];erw[aM (yk (a:=()) (by first|rfl|kernel_rfl) ?_)]
 try dsimp only
 erw[aM (wpAny_specialOf hT XU.lookup ?_)]
 try dsimp only
 erw[aM (yk (XU.bind _) ?_)]
 try dsimp only
 first |rw[bj (show¬((Value.builtin "range.__reversed__"==Value.none)=true)from eH)] |(show wpAny _ _ (if(Value.builtin "range.__reversed__"==Value.none)=true then _ else _) _ _ _;rw[bj (show¬((Value.builtin "range.__reversed__"==Value.none)=true)from eH)])
 erw[aM (Bi ?_)];erw[aM (m:=runValue (.call (.builtin "range.__reversed__") #[[.ref l],[]])) (show wpAny _ _ (call (.builtin "range.__reversed__") [.ref l]) _ _ _ from ac1 hn hl ?_)]
 first |erw[cn h] |erw[aM (cn (cn h))]
theorem ac2{l:Addr}{n:Nat}{t u v:Tok}{Q:Value->af->Prop}(hn:n<2^62)(hl:s.heap.get? l=some {cls:=.type "range",data:=.fields (List.toArray [.int 0 t,.int n u,.int 1 v])}) (h:Q (.ref s.heap.objs.size) {s with heap:=s.heap.push (ze n)}):wpAny (model prog w) A (call (.type "reversed") [.ref l]) Q E s:=by erw[callType_other (U:="range_iterator") (Q₁:=λobj s₁=>obj= .ref s.heap.objs.size/\s₁={s with heap:=s.heap.push (ze n)}) aJ F.create_reversed #[_,_,F.mro_reversed] F.made_reversed Zl (F.typeCall_reversed_1 _) (abY hn hl #[Z,Z]) ?_];rintro obj s₁ ⟨rfl,rfl⟩;erw[#[_,eZ _ Z,Z],h]
end
def B9(n:Nat):It:=#[λi _=>i<n,λi H x H'=>H'=H/\x= .int ((n:Int)-1-i),λi _=>n<=i]
theorem Yw{P:ag}{w:World}{K:aa}{tg:Expr}(it:Addr)(n:Nat):Turn P w K tg (B9 n) [it] it (λi h=>IsRangeIter h it ((0+((n:Int)-1)*1)+(i:Nat)*(-1)) ((n:Int)-(i:Nat)) (-1)) where
 mem:=by simp
 obj:=λi h st b hb=>by
  have e:b=it:=by simpa using hb
  subst e;erw[_,st,λv z=>by have z':Data.fields _=Data.cell v:=z;cases z']
 keep:=λi h h' st k=>k it (by simp) _ st
 item:=by
  intro X hP hw hK hc i au s O H E I hf st hg;subst hP hw hK;let(f0,f1,f2,f3,f4,f5):=hf it (by simp);have W:=Walks.range (prog:=X.prog) (w:=X.w) (I.ok.hd hc) it (0+((n:Int)-1)*1) (-1) n;erw[W.item i s _ _ hg st λv h' tk hv iY kk=>?_];let(t,rfl):=hv;have I1:Inv X au O H {s with heap:=h',toks:=tk}:=I.turned (λb o hb e=>kk b o (by simpa using hb) e) f0 f1 f3 f4 f5;erw[_,Z,As (s:={s with heap:=h',toks:=tk}) (n:="range_iterator") iY rfl rfl az #[.int ((n:Int)-1-i),H,I1,#[t,?_],#[Z,Z],iY,λb hb=>(hf b hb).1]];have e:(0+((n:Int)-1)*1)+(i:Int)*(-1)=(n:Int)-1-i:=by lia
  rw[e]
 done:=by intro X hP hw hK hc i au s O H E I hf st hg;subst hP hw hK;let(f0,f1,f2,f3,f4,f5):=hf it (by simp);erw[wpAny_pyNext_range_end (I.ok.hd hc) st (by have:n<=i:=hg;lia) λh' eb=>#[Z,I.turned (t':=s.toks) (λb o hb e=>eb b o hb e) f0 f1 f3 f4 f5]]
 self:=λ_ _ _ _ _ st h=>Xn st h
inductive afd(R:It->Hp->Prop)(vs:List V)(H1:Hp):Prop |mk (p:_)(n:_)(h0:vs=[.ref p])(h1:H1 p=some (.wY 0 n))(h2:0<=n)(h3:n<2^62)(h4:R (B9 n.toNat) H1)
def a6E(ta:TA):TI:=λO H R=>ta O H λvs H1=>afd R vs H1
theorem Sm{X:Cx}{tg:Expr}{a:Expr}{ta:TA}{p pos:Pos}(hg:Gl X "reversed")(hm:X.mg "reversed"=none)(ha:PA X [a] ta)(hs:autoParam (starEach [a] X.env=[(false,eval a X.env)]) r8_._auto_1)(jd:autoParam (starEach [] X.env=[]) r8_._auto_1): PI X tg (.Call (.Name "reversed" p) [a] [] pos) (a6E ta):=by
 intro au s O H R I h;erw[Call_ (sF I hg hm PyProof.Rows.boot_reversed (Bp (aZ (ha pos au s O H _ I h) λus s1 #[vs,H1,I1,r1,q1]=>?_) (by rw[hs,jd]) (by rw[jd];rfl)))];let(l,n,e,hl,n0,n1,q):=q1;subst e;let(u1,rfl,jm):=vals1 r1;cases(show u1=Value.ref l from jm);obtain⟨t,u,v,e⟩:∃t u v,s1.heap.get? l=some {cls:=.type "range",data:=.fields (List.toArray [.int 0 t,.int n u,.int 1 v])}:=I1.bX l _ hl;obtain⟨m,rfl⟩:∃m:Nat,n=m:=#[n.toNat,ao];erw[ac2 ao e ?_];have hit:IsRangeIter (s1.heap.push (ze m)) s1.heap.objs.size ((0+((m:Int)-1)*1)+((0:Nat):Int)*(-1)) ((m:Int)-((0:Nat):Int)) (-1):=by
  have e1:(0+((m:Int)-1)*1)+((0:Nat):Int)*(-1)=0+((m:Int)-1)*1:=by lia
  have e2:(m:Int)-((0:Nat):Int)=m:=by lia
  rw[e1,e2];erw[eZ _ rfl]
 erw[Xn hit ?_];erw[s1.heap.objs.size,[s1.heap.objs.size],_,_,H1,Z,I1.kept (t':=s1.toks) λb o e=>cN _ e,Yw _ m,hit,λb hb=>?_,q];have e:b=s1.heap.objs.size:=by simpa using hb
 subst e;erw[I1.tF (bf _) (I1.bX.fresh (bf _))]
theorem Vv{n:Nat}{g:TG}{tb:TS}{D:Ends}{O:St}{H:Hp}(Pv:Nat->St->Hp->Prop)(h0:Pv 0 O H) (hs:∀i O H,i<n->Pv i O H->g (.int ((n:Int)-1-i)) O H λσ2 H2=>tb {D with nx:=Pv (i+1),ct:=Pv (i+1),bk:=D.nx} σ2 H2)(hd:∀O H,Pv n O H->D.nx O H): ∃W:Nat->Nat->St->Hp->Prop,(∃m,W 0 m O H)/\∀i m O H,W i m O H->((B9 n).stop i H/\D.nx O H)\/((B9 n).go i H/\∃N:St->Hp->Prop,(∀σ' H',N σ' H'->∃m',m'<m/\W (i+1) m' σ' H')/\∀x H',(B9 n).jG i H x H'->g x O H' λσ2 H2=>tb {D with nx:=N,ct:=N,bk:=D.nx} σ2 H2):=by
 erw[λi m O H=>m=n-i/\i<=n/\Pv i O H,#[n,by simp,fE _,h0],?_];rintro i m O H ⟨rfl,hi,p⟩;by_cases cB:i<n
 ·erw[.inr #[cB,Pv (i+1),λσ' H' q=>#[n-(i+1),ao,Z,cB,q],λx H' hy=>?_]]
  let(rfl,rfl):=hy;erw[hs i O _ cB p]
 ·have e:i=n:=by lia
  subst e;erw[.inl #[bf _,hd O H p]]
theorem zm(K:aa){X:Cx}(hK:X.K=K){a:Expr}{ta:TE}(ha:PE X a ta)(he:autoParam (∀whole,isTrue a X.env whole=(do let v<-whole;standAt a.pos;holding [v] (truthy v))) d8_._auto_1): PT X a (λO H Q=>ta O H λx H'=>∃k,Ms K x H' k/\Q k H'):=by subst hK;erw[a1s ha he]
inductive af2(K:aa)(x:V)(y:V)(H:Hp)(Q:VK):Prop |mk (a:_)(b:_)(xs:_)(ys:_)(h0:x= .ref a)(h1:y= .ref b)(h2:aW K H a xs)(h3:aW K H b ys)(h4:xs.length+ys.length<=sizeLine)(h5:∀c H',aH H H'->aW K H' c (xs++ys)->Q (.ref c) H')
def a1k(K:aa):R2:=λx y H Q=>af2 K x y H Q
section
variable {X:Cx}
theorem Wx(K:aa)(hK:X.K=K):cY X (binaryOp .Add) (a1k K):=by
 subst hK;intro au s O H x y v u Q I rx ry h;let(a,b,xs,ys,rfl,rfl,ha,hb,hz,q):=h;cases rx;cases ry;let(its,r1,p1,_):=I.tuple ha;let(lP,r2,p2,_):=I.tuple hb;by_cases e0:xs=[]
 ·subst e0
  have i0:its=[]:=r1.JI.mpr rfl;subst i0;let((cls,dd,data,sl),ho,hc,n,hd):=id p1;let((Wu,xV,data2,sl2),p4,jT,n2,hd2):=id p2;simp only at hc hd jT hd2;subst hc hd jT hd2;erw[concat_meets #[_,ho,Z] #[_,p4,Z] noFill_tuple_add seq_tuple_add Xv Xx (Xy _ _) (tuple_addW0 a b _ lP.toArray n n2 dd xV sl sl2 (by simp)) #[ho,p4,#[.ref b,H,I,Z,q _ _ (aH.refl H) hb]]]
 ·erw[_H.abZ p1 p2 (λz=>e0 (r1.JI.mp z)) (λz=>#[.ref a,H,I,Z,?_]) (λz=>?_) (by rw[<-r1.length,<-r2.length];erw[hz])]
  ·have e1:ys=[]:=r2.JI.mp z
   subst e1;erw[q _ _ (aH.refl H) (by rw[oA];erw[ha])]
  ·have hf:H s.heap.objs.size=none:=I.bX.fresh (bf _)
   have nw:Nw H (upd H s.heap.objs.size (.tup (xs++ys))) s.heap.objs.size (.tup (xs++ys)):=.of hf;erw[.ref s.heap.objs.size,_,I.laid (t':=s.toks) (o:=.tup (xs++ys)) (λb ob q=>cN _ q) (bf _) ?_,Z,q _ _ nw.same (aW.of nw.at')];erw[by rw[cD];erw[hz],_,r1.append r2,IsTup.new _ _]
end
theorem Wj(xs:List V):lX xs none (some (-1))=xs.take (xs.length-1):=by
 unfold lX;have e:=_H.M6 (-1) xs.length xs.length;rw[_H.QX];have e2:_H.cC xs.length xs.length (some (-1))=xs.length-1:=by simp at e;omega
 rw[e2];simp
section
variable {X:Cx}
theorem zx(K:aa)(h:X.K=K){o e:Expr}{to:TE}{t:TA}{apos dE:Pos}(ho:PE X o to)(ha:PA X [e] t) (nS:autoParam (attributeBase o "extend" X.env (eval o X.env)=eval o X.env) r8_._auto_1) (nO:autoParam (((backTo dE (starEach [e] X.env)).all (λx=>!x.1)&&(backToKw dE (keywordEach [] X.env)).all (λx=>x.1.isSome) &&decide ([e].length+([]:List Keyword).length+(if([]:List Keyword).isEmpty then 0 else 1)<30))=true) r8_._auto_1) (nL:autoParam ((apos.endLine==dE.line)=true) r8_._auto_1)(hs:autoParam (starEach [e] X.env=(false,eval e X.env)::starEach [] X.env) r8_._auto_1)(nJ:autoParam ((backTo dE (starEach [] X.env)).any (·.1)=false) r8_._auto_1): PE X (.Call (.Attribute o "extend" apos) [e] [] dE) (wH K "list" Sa to t):=by subst h;erw[zw PySem.F.plainAttrs_list PySem.F.slot_list_extend PySem.F.type_list_extend a52 ho ha nS nO nL hs nJ]
open PyProof
end
end _L
namespace _L
open PySem PySem.Spec PyProof.Rows
section
variable {K:aa} {H H' H2:Hp}
end
section
variable {X:Cx} {tg:Expr}
end
theorem kE{t:TS}{D:Ends}{O:St}{H:Hp}(h:let E':=D;t E' O H):t D O H:=h
theorem iG{g:TG}{x:V}{tb:TS}{D:Ends}{O:St}{H:Hp}(h:let E':=D;g x O H λσ2 H2=>tb E' σ2 H2):g x O H λσ2 H2=>tb D σ2 H2:=h
theorem El{c:TT}{tb:TS}{D:Ends}{Nx:St->Hp->Prop}{O:St}{H:Hp}(h:let E':=D;c O H λb H1=>if b=true then tb E' O H1 else Nx O H1):c O H λb H1=>if b=true then tb D O H1 else Nx O H1:=h
end _L
namespace _l
open PySem _L
def oh(i:Int):Int:=if i<0 then-i else i
theorem Mq(i:Int):oh i=(i.natAbs:Int):=by unfold oh;split<;>lia
def aG(ns:List Int):Nat:=ns.foldr (λz m=>max z.natAbs m) 0
theorem K7:∀{ns:List Int}{z:Int},z∈ns->z.natAbs<=aG ns
 |n::ns,z,h=>by
  show z.natAbs<=max n.natAbs (aG ns);rcases cO.mp h with rfl|h
  ·erw[Nat.le_max_left _ _]
  ·erw[iK (K7 h) (Nat.le_max_right _ _)]
theorem K6:∀{ns:List Int},ns≠[]->∃z∈ns,z.natAbs=aG ns
 |[],h=>absurd Z h |[n],_=>#[n,.head _,by show n.natAbs=max n.natAbs 0;lia] |n::m::ns,_=>by
  let(z,hz,e):=K6 (ns:=m::ns) (by simp);by_cases h:n.natAbs<=aG (m::ns)
  ·erw[z,.tail _ hz,by show _=max n.natAbs (aG (m::ns));lia]
  ·erw[n,.head _,by show _=max n.natAbs (aG (m::ns));lia]
theorem qr{ns:List Int}{m:Nat}(h:∀z∈ns,z.natAbs<=m):aG ns<=m:=by cases ns with |nil=>erw[fE _] |cons a r=>let(z,hz,e):=K6 (ns:=a::r) (by simp);rw[<-e];erw[h z hz]
theorem a5U{ns:List Int}(h:∃z∈ns,z≠0):0<aG ns:=by
 let(z,hz,h0):=h;have:=K7 hz
 lia
theorem Uj{ns:List Int}(cS:ns≠[]){M:Int}(h1:M∈ns.map oh)(h2:∀a∈ns.map oh,a<=M):M=(aG ns:Int):=by
 let(z,hz,e):=cI.mp h1;let(y,hy,ey):=K6 cS;have a1:=K7 hz;have a2:=h2 (oh y) (cI.mpr #[y,hy,Z]);rw[Mq]at e a2
 lia
def jI(p q:Int):Int:=(2*(p.natAbs:Int)+q)/(2*q)
def gZ(p q:Int):Int:=if p>=0 then jI p q else-jI p q
structure yf(x p q:Int):Prop where
 lo:-q<=2*(x*q-p)
 hi:2*(x*q-p)<=q
 vx:2*(x*q-p)=q\/2*(x*q-p)=-q->p.natAbs<=(x*q).natAbs
theorem OX{p q:Int}(hq:0<q):2*q*jI p q<=2*(p.natAbs:Int)+q/\2*(p.natAbs:Int)+q<2*q*jI p q+2*q:=by have h:=Int.mul_ediv_add_emod (2*(p.natAbs:Int)+q) (2*q);have h0:=wy (2*(p.natAbs:Int)+q) (show 2*q≠0 by omega);have h1:=yE (2*(p.natAbs:Int)+q) (show 0<2*q by omega);unfold jI;constructor<;>omega
theorem OY{p q:Int}(hq:0<q):0<=jI p q:=Int.ediv_nonneg ao ao
theorem near_is{p q:Int}(hq:0<q):yf (gZ p q) p q:=by
 let(h1,h2):=OX (p:=p) hq;have h0:=OY (p:=p) hq;rw[ud,Nd q]at h1 h2;have hs0:0<=jI p q*q:=gU h0 (EX hq);unfold gZ;split
 ·erw[?_,?_,λh=>?_]<;>(generalize jI p q*q=s at*;omega)
 ·erw[?_,?_,?_]<;>rw[Int.neg_mul]<;>(generalize jI p q*q=s at*;omega)
theorem zX{x y q:Int}(hq:0<q)(h:x<y):x*q+q<=y*q:=by have:(x+1)*q<=y*q:=Bz ao ao;rw[Int.add_mul,lF]at this;erw[this]
theorem a4O{x y p q:Int}(hq:0<q)(a:yf x p q)(b:yf y p q):x=y:=by
 have key:∀{x y:Int},yf x p q->yf y p q->¬x<y:=λ{x y} a b h=>by
  have g:=zX hq h;have e1:=a.lo;have e2:=a.hi;have e3:=b.lo;have e4:=b.hi;have f1:=a.vx;have f2:=b.vx;have hx:x*q=0\/q<=x*q\/x*q<=-q:=by
   rcases XT x 0 with h|h|h
   ·have:=zX hq h;lia
   ·left;rw[h,EV]
   ·have:=zX hq h;lia
  have hy:y*q=0\/q<=y*q\/y*q<=-q:=by
   rcases XT y 0 with h|h|h
   ·have:=zX hq h;lia
   ·left;rw[h,EV]
   ·have:=zX hq h;lia
  generalize x*q=u at*;generalize y*q=v at*;have hu:=f1 ao;have hv:=f2 ao
  lia
 rcases XT x y with h|h|h
 ·erw[absurd h (key a b)]
 ·erw[h]
 ·erw[absurd h (key b a)]
theorem a4Q{x p q:Int}(hq:0<q)(a:yf x p q):x=gZ p q:=a4O hq a (near_is hq)
theorem Tg{p q:Int}(hq:0<q):gZ (-p) q=-gZ p q:=by let(a,b,c):=near_is (p:=p) hq;refine(a4Q hq ?_).symm;erw[?_,?_,?_]<;>rw[Int.neg_mul]<;>omega
theorem a4P{p q:Int}(hq:0<q)(hp:0<=p):0<=gZ p q:=by unfold gZ;rw[bc hp];erw[OY hq]
end _l
namespace _C
open _l
def fX(ns ms:List Int):List Int:=(ns.zip ms).map λp=>p.1*(aG ms:Int)-p.2*(aG ns:Int)
theorem a59{ns ms:List Int}{z:Int}(h:z∈fX ns ms):∃a b,a∈ns/\b∈ms/\z=a*(aG ms:Int)-b*(aG ns:Int):=by let((a,b),hp,rfl):=cI.mp h;erw[a,b,(EO hp).1,(EO hp).2,Z]
theorem oP{a b:Int}{m n:Nat}(h:a.natAbs<=m)(g:b.natAbs<=n):(a*b).natAbs<=m*n:=by rw[jD];erw[pM h g]
theorem LZ{ns ms:List Int}(h1:∀z∈ns,z.natAbs<=1000)(h2:∀z∈ms,z.natAbs<=1000):∀z∈fX ns ms,z.natAbs<=2000000:=λz hz=>by let(a,b,ha,hb,rfl):=a59 hz;have l1:=qr h1;have l2:=qr h2;have e1:=oP (b:=(aG ms:Int)) (n:=1000) (h1 a ha) aO;have e2:=oP (b:=(aG ns:Int)) (n:=1000) (h2 b hb) aO;omega
def sX(zs:List Int)(i:Nat):Nat:=aG (zs.take i)
theorem Ul:∀(xs ys:List Int),aG (xs++ys)=max (aG xs) (aG ys) |[],ys=>by simp[aG] |x::xs,ys=>by show max x.natAbs (aG (xs++ys))=max (max x.natAbs (aG xs)) (aG ys);rw[Ul xs ys];lia
theorem a7I{zs:List Int}{i:Nat}{z:Int}(h:zs[i]? =some z):sX zs (i+1)=max (sX zs i) z.natAbs:=by
 unfold sX;rw[lC,h,Ul];show max _ (max z.natAbs 0)=_
 lia
def vV(r:Rat):Rat:=if r.num<0 then-r else r
theorem acN(r:Rat):(vV r).num=oh r.num:=by
 unfold vV oh;split
 ·rfl
 ·rfl
theorem acP(r:Rat):(vV r).den=r.den:=by
 unfold vV;split
 ·rfl
 ·rfl
theorem aby{a b:Int}(hb:0<b):0<=(Rat.divInt a b).num↔0<=a:=by rw[Rat.num_nonneg,yo hb]
theorem acO{c L:Int}(hL:0<L):vV (Rat.divInt c L)=Rat.divInt (oh c) L:=by
 have h:=aby (a:=c) hL;unfold vV oh;by_cases hc:c<0
 ·rw[bc hc,bc ao,Rat.neg_divInt]
 ·rw[bj hc,bj ao]
theorem E8{a b L:Int}(hL:0<L):Rat.divInt a L<=Rat.divInt b L↔a<=b:=by
 rw[Rat.le_iff_sub_nonneg,Xs _ _ ao ao,yo (jk hL hL),<-Int.sub_mul];constructor
 ·intro h
  have:=Int.nonneg_of_mul_nonneg_left h hL
  lia
 ·intro h
  erw[gU ao ao]
theorem W8{a b L:Int}(hL:0<L):Rat.divInt a L<Rat.divInt b L↔a<b:=by rw[<-Rat.not_le,E8 hL];lia
theorem Zk{a b l1 l2:Int}(h1:0<l1)(h2:0<l2):Rat.divInt b l2-Rat.divInt a l1=Rat.divInt (b*l1-a*l2) (l1*l2):=by rw[Xs _ _ ao ao,Nd l2 l1]
theorem abK{j p q h L:Int}(hp:p≠0)(hh:h≠0)(e:p*L=h*q):Rat.divInt (j*j*q*q) (p*p)=Rat.divInt ((j*L)^2) (h^2):=by
 rw[Rat.divInt_eq_divInt_iff (Nb hp hp) (by rw[fS,fS,m5,lF];erw[Nb hh hh])];have e2:(p*L)*(p*L)=(h*q)*(h*q):=by rw[e]
 rw[fS,fS,m5,lF,fS,fS,m5,lF];have a1:j*j*q*q*(h*h)=(j*j)*((h*q)*(h*q)):=by ac_rfl
 have a2:j*L*(j*L)*(p*p)=(j*j)*((p*L)*(p*L)):=by ac_rfl
 rw[a1,a2,e2]
end _C
namespace _P
def mn(a b:Rat):Rat:=if b<a then b else a
theorem fb(a b:Rat):mn a b<=a:=by
 unfold mn;split
 ·next h=>erw[Rat.le_of_lt h]
 ·erw[iI]
theorem gM(a b:Rat):mn a b<=b:=by
 unfold mn;split
 ·erw[iI]
 ·next h=>erw[EI.mp h]
theorem gD{a b c:Rat}(h1:c<=a)(h2:c<=b):c<=mn a b:=by unfold mn;split<;>assumption
theorem sD(a b:Rat):mn a b=a\/mn a b=b:=by
 unfold mn;split
 ·erw[.inr rfl]
 ·erw[.inl rfl]
theorem uV{a b c:Rat}(hc:c=a\/c=b)(h1:c<=a)(h2:c<=b):mn a b=c:=by
 rcases hc with rfl|rfl
 ·erw[rn (fb _ _) (gD h1 h2)]
 ·erw[rn (gM _ _) (gD h1 h2)]
theorem uY{a b c:Rat}(h:a<=b)(hc:0<=c):a<=b+c:=cM h (by have:=(Rat.add_le_add_left (c:=b)).mpr hc;rwa [Bn]at this)
theorem add_r{a b c:Rat}(h:a<=b):a+c<=b+c:=Rat.add_le_add_right.mpr h
section
variable (n:Nat)(own:Nat->Rat)(L:Nat->Option Nat)(r f:Int)
def Rz:Nat->Rat |0=>own 0 |i+1=>match L i with |some m=>mn (own (i+1)) (Rz i+((r*(m:Int):Int):Rat)) |none=>own (i+1)
def Pz(g:Nat->Rat):Nat->Rat |0=>g n |k+1=>match L (n-(k+1))with |some m=>mn (g (n-(k+1))) (Pz g k+((f*(m:Int):Int):Rat)) |none=>g (n-(k+1))
def fl(g:Nat->Rat)(i:Nat):Rat:=Pz n L f g (n-i)
def gc(i:Nat):Rat:=fl n L f (Rz own L r) i
end
section
variable {n:Nat}{own g:Nat->Rat}{L:Nat->Option Nat}{r f:Int}
theorem qJ:fl n L f g n=g n:=by unfold fl;rw[Bq];rfl
theorem o6{i m:Nat}(hi:i<n)(h:L i=some m):fl n L f g i=mn (g i) (fl n L f g (i+1)+((f*(m:Int):Int):Rat)):=by
 unfold fl;have e:n-i=(n-(i+1))+1:=by omega
 rw[e];show(match L (n-((n-(i+1))+1))with|some m=>_|none=>_)=_;have e2:n-((n-(i+1))+1)=i:=by omega
 rw[e2,h]
theorem qI{i:Nat}(hi:i<n)(h:L i=none):fl n L f g i=g i:=by
 unfold fl;have e:n-i=(n-(i+1))+1:=by lia
 rw[e];show(match L (n-((n-(i+1))+1))with|some m=>_|none=>_)=_;have e2:n-((n-(i+1))+1)=i:=by lia
 rw[e2,h]
theorem Ji:gc n own L r f n=Rz own L r n:=qJ
theorem zt{i m:Nat}(hi:i<n)(h:L i=some m):gc n own L r f i=mn (Rz own L r i) (gc n own L r f (i+1)+((f*(m:Int):Int):Rat)):=o6 hi h
theorem Jh{i:Nat}(hi:i<n)(h:L i=none):gc n own L r f i=Rz own L r i:=qI hi h
theorem oo{i m:Nat}(h:L i=some m):Rz own L r (i+1)=mn (own (i+1)) (Rz own L r i+((r*(m:Int):Int):Rat)):=by show(match L i with|some m=>_|none=>_)=_;rw[h]
theorem ye{i:Nat}(h:L i=none):Rz own L r (i+1)=own (i+1):=by show(match L i with|some m=>_|none=>_)=_;rw[h]
theorem Er(i:Nat):Rz own L r i<=own i:=by cases i with |zero=>erw[iI] |succ i=>cases h:L i with |none=>rw[ye h];erw[iI] |some m=>rw[oo h];erw[fb _ _]
theorem Sd{i:Nat}(hi:i<=n):gc n own L r f i<=Rz own L r i:=by
 rcases Nat.lt_or_eq_of_le hi with hi|rfl
 ·cases h:L i with |none=>rw[Jh hi h];erw[iI] |some m=>rw[zt hi h];erw[fb _ _]
 ·rw[Ji];erw[iI]
theorem CB{i:Nat}(hi:i<=n):gc n own L r f i<=own i:=cM (Sd hi) (Er i)
theorem a1D{i m:Nat}(hi:i<n)(h:L i=some m):gc n own L r f i<=gc n own L r f (i+1)+((f*(m:Int):Int):Rat):=by rw[zt hi h];erw[gM _ _]
theorem xE{a:Int}{m:Nat}(h:0<=a):(0:Rat)<=((a*(m:Int):Int):Rat):=by have:((0:Int):Rat)<=((a*(m:Int):Int):Rat):=Bl.mpr (gU h ao);erw[this]
theorem a1B{i m:Nat}(hi:i<n)(h:L i=some m)(hr:0<=r)(hf:0<=f):gc n own L r f (i+1)<=gc n own L r f i+((r*(m:Int):Int):Rat):=by
 have h1:gc n own L r f (i+1)<=Rz own L r i+((r*(m:Int):Int):Rat):=by erw[cM (Sd hi) ?_];rw[oo h];erw[gM _ _]
 rw[zt hi h];rcases sD (Rz own L r i) (gc n own L r f (i+1)+((f*(m:Int):Int):Rat))with e|e
 ·rw[e];erw[h1]
 ·rw[e];erw[uY (uY iI (xE hf)) (xE hr)]
theorem Ep(hr:0<=r)(h0:∀i,i<=n->0<=own i):∀i,i<=n->0<=Rz own L r i |0,hi=>h0 0 hi |i+1,hi=>by cases h:L i with |none=>rw[ye h];erw[h0 _ hi] |some m=>rw[oo h];erw[gD (h0 _ hi) (uY (Ep hr h0 i ao) (xE hr))]
theorem down{C:Nat->Prop}(hn:C n)(hs:∀i,i<n->C (i+1)->C i):∀i,i<=n->C i:=by
 have key:∀k,k<=n->C (n-k):=λk=>by induction k with |zero=>intro _;erw[hn] |succ k ih=>
  intro hk;erw[hs _ aO ?_];have e:n-(k+1)+1=n-k:=by omega
  rw[e];erw[ih aO]
 intro i hi;have:=key (n-i) aO;have e:n-(n-i)=i:=by omega
 rwa [e]at this
theorem Cz(hr:0<=r)(hf:0<=f)(h0:∀i,i<=n->0<=own i):∀i,i<=n->0<=gc n own L r f i:=by
 erw[down ?_ λi hi ih=>?_]
 ·rw[Ji];erw[Ep hr h0 n (bf _)]
 ·cases h:L i with |none=>rw[Jh hi h];erw[Ep hr h0 i ao] |some m=>rw[zt hi h];erw[gD (Ep hr h0 i ao) (uY ih (xE hf))]
structure Keeps(n:Nat)(own:Nat->Rat)(L:Nat->Option Nat)(r f:Int)(q:Nat->Rat):Prop where
 own:∀i,i<=n->q i<=own i
 rise:∀i m,i<n->L i=some m->q (i+1)<=q i+((r*(m:Int):Int):Rat)
 Lo:∀i m,i<n->L i=some m->q i<=q (i+1)+((f*(m:Int):Int):Rat)
theorem Se(hr:0<=r)(hf:0<=f):Keeps n own L r f (gc n own L r f):=#[λi hi=>CB hi,λi m hi h=>a1B hi h hr hf,λi m hi h=>a1D hi h]
theorem Dr{q:Nat->Rat}(k:Keeps n own L r f q):∀i,i<=n->q i<=Rz own L r i |0,hi=>k.own 0 hi |i+1,hi=>by cases h:L i with |none=>rw[ye h];erw[k.own _ hi] |some m=>rw[oo h];erw[gD (k.own _ hi) (cM (k.rise i m ao h) (add_r (Dr k i ao)))]
theorem a68{q:Nat->Rat}(k:Keeps n own L r f q):∀i,i<=n->q i<=gc n own L r f i:=by
 erw[down ?_ λi hi ih=>?_]
 ·rw[Ji];erw[Dr k n (bf _)]
 ·cases h:L i with |none=>rw[Jh hi h];erw[Dr k i ao] |some m=>rw[zt hi h];erw[gD (Dr k i ao) (cM (k.Lo i m hi h) (add_r ih))]
theorem a1A{q:Nat->Rat}(hr:0<=r)(hf:0<=f)(k:Keeps n own L r f q)(g:∀q',Keeps n own L r f q'->∀i,i<=n->q' i<=q i):∀i,i<=n->q i=gc n own L r f i:=λi hi=>rn (a68 k i hi) (g _ (Se hr hf) i hi)
end
open _b
theorem qo{n:Nat}{a b:Rat}(h1:Bd n a)(h2:Bd n b):Bd n (mn a b):=by rcases sD a b with e|e<;>rw[e]<;>assumption
theorem jZ{n:Nat}{q:Rat}{z:Int}(h:Bd n q)(hz:z.natAbs<2^24):Bd (n+25) (q+(z:Rat)):=by have b:Bd 24 (z:Rat):=#[hz,by show 1<2^24;decide];exact(h.add b).mono ao
theorem Es{b:Nat}{own:Nat->Rat}{L:Nat->Option Nat}{r:Int}(ho:∀i,Bd b (own i))(hL:∀i m,L i=some m->(r*(m:Int)).natAbs<2^24):∀i,Bd (b+25*i) (Rz own L r i) |0=>ho 0 |i+1=>by cases h:L i with |none=>rw[ye h];exact(ho _).mono ao |some m=>rw[oo h];erw[qo ((ho _).mono ao) ((jZ (Es ho hL i) (hL i m h)).mono ao)]
theorem Ll{n b:Nat}{g:Nat->Rat}{L:Nat->Option Nat}{f:Int}(ho:∀i,i<=n->Bd b (g i))(hL:∀i m,L i=some m->(f*(m:Int)).natAbs<2^24):∀i,i<=n->Bd (b+25*(n-i)) (fl n L f g i):=by
 erw[down ?_ λi hi ih=>?_]
 ·rw[qJ];exact(ho n (bf _)).mono ao
 ·cases h:L i with |none=>rw[qI hi h];exact(ho i ao).mono ao |some m=>rw[o6 hi h];erw[qo ((ho i ao).mono ao) ((jZ ih (hL i m h)).mono ao)]
def lst(n:Nat)(g:Nat->Rat):List Rat:=(List.range (n+1)).map g
theorem lN(n:Nat)(g:Nat->Rat):(lst n g).length=n+1:=by simp[lst]
theorem lO{n:Nat}(g:Nat->Rat){i:Nat}(h:i<=n):(lst n g)[i]? =some (g i):=by unfold lst;rw[bP,bN (by simp;lia),Bw];rfl
theorem JX{n:Nat}{g g':Nat->Rat}{i:Nat}(h:∀k,k<=n->k≠i->g' k=g k):(lst n g).set i (g' i)=lst n g':=by
 apply XQ;intro k;by_cases hk:k<=n
 ·rw[lO g' hk,List.getElem?_set]
  by_cases e:i=k
  ·subst e;rw[bc rfl,bc (by rw[lN];lia)]
  ·rw[bj e,lO g hk,h k hk (λz=>e z.symm)]
 ·rw[rC (by rw[yx,lN];lia),rC (by rw[lN];lia)]
theorem qp{n:Nat}{g g':Nat->Rat}(h:∀k,k<=n->g' k=g k):lst n g=lst n g':=by
 apply XQ;intro k;by_cases hk:k<=n
 ·rw[lO g hk,lO g' hk,h k hk]
 ·rw[rC (by rw[lN];lia),rC (by rw[lN];lia)]
end _P
namespace _O
open _P _C _l _b
abbrev Itm:=Option (List Int × Int)
def topR(rate sp:Int):Rat:=Rat.divInt ((sp*rate)^2) 10000
def cornO(j:Int)(ns ms:List Int):Option Rat:=if aG (fX ns ms)=0 then none else some (Rat.divInt ((j*aG ns*aG ms)^2) ((aG (fX ns ms):Int)^2))
def mnO(a:Rat):Option Rat->Rat |none=>a |some c=>mn a c
def betR(j rate:Int):Itm->Itm->Rat |some (ns,sp),some (ms,sq)=>mnO (mn (topR rate sp) (topR rate sq)) (cornO j ns ms) |_,_=>0
def atO(os:List Itm)(i:Nat):Itm:=(os[i]?).join
def ownF(j rate:Int)(os:List Itm):Nat->Rat |0=>0 |i+1=>betR j rate (atO os i) (atO os (i+1))
def leadF(os:List Itm)(i:Nat):Option Nat:=(atO os i).map λq=>aG q.1
def ownL(j rate:Int)(os:List Itm):List Rat:=(List.range (os.length+1)).map (ownF j rate os)
theorem og{os:List Itm}{i:Nat}{o:Itm}(h:os[i]? =some o):atO os i=o:=by unfold atO;rw[h];rfl
theorem WY{os:List Itm}{i:Nat}(h:os.length<=i):atO os i=none:=by unfold atO;rw[rC h];rfl
theorem vQ(j rate:Int)(o:Itm):betR j rate o none=0:=by unfold betR;split<;>simp_all
theorem AR(j rate:Int)(o:Itm):betR j rate none o=0:=by unfold betR;split<;>simp_all
theorem a2g(j rate:Int)(os:List Itm):∀n,n=os.length->ownF j rate os n=0 |0,_=>rfl |n+1,h=>by show betR j rate (atO os n) (atO os (n+1))=0;rw[WY (i:=n+1) ao];erw[vQ _ _ _]
theorem a2d(j rate:Int)(os:List Itm):(ownL j rate os).length=os.length+1:=by simp[ownL]
theorem a2e(j rate:Int)(os:List Itm){i:Nat}(h:i<=os.length):(ownL j rate os)[i]? =some (ownF j rate os i):=by unfold ownL;rw[bP,bN (by simp;lia),Bw];rfl
theorem Sy(j rate:Int){os:List Itm}(h:os≠[]):ownL j rate os=[0]++(List.range (os.length-1)).map (λi=>ownF j rate os (i+1))++[0]:=by
 have h0:0<os.length:=Bu.mpr h;apply XQ;intro i;by_cases hi:i<=os.length
 ·rw[a2e j rate os hi]
  rcases Nat.eq_zero_or_pos i with rfl|hp
  ·rfl
  ·by_cases hl:i=os.length
   ·rw[ow (by simp;lia),hl,a2g j rate os _ rfl]
    have:os.length-([0]++List.map (λi=>ownF j rate os (i+1)) (List.range (os.length-1))).length=0:=by simp;lia
    rw[this];rfl
   ·rw[oz (by simp;lia),ow (by simp;lia),bP]
    have e:i-[(0:Rat)].length=i-1:=rfl;rw[e,bN (by simp;lia),Bw];show some _=some (ownF j rate os (i-1+1));rw[Nat.sub_add_cancel hp]
 ·rw[rC (by rw[a2d];lia),rC (by simp;lia)]
theorem rH(rate sp:Int):0<=topR rate sp:=by
 unfold topR;rw[yo az,fS,fS,m5,lF];rcases Int.le_total 0 (sp*rate)with h|h
 ·erw[gU h h]
 ·erw[XS h h]
theorem ZA(a:Int):0<=a^2:=by
 rw[fS,fS,m5,lF];rcases Int.le_total 0 a with h|h
 ·erw[gU h h]
 ·erw[XS h h]
theorem abL{j:Int}{ns ms:List Int}{c:Rat}(h:cornO j ns ms=some c):0<=c:=by
 unfold cornO at h;split at h
 ·cases h
 ·next h0=>
  cases h;rw[yo]
  ·erw[ZA _]
  ·rw[fS,fS,m5,lF];erw[jk ao ao]
theorem acp(j rate:Int)(o p:Itm):0<=betR j rate o p:=by
 unfold betR;split
 ·next ns sp ms sq=>
  have h:=gD (rH rate sp) (rH rate sq);unfold mnO;split
  ·erw[h]
  ·next c e=>erw[gD h (abL e)]
 ·erw[iI]
theorem zA(j rate:Int)(os:List Itm):∀i,0<=ownF j rate os i |0=>iI |i+1=>acp _ _ _ _
def OkI(o:Itm):Prop:=∀ns sp,o=some (ns,sp)->(∀z∈ns,(z.natAbs:Int)<=100)/\1<=sp/\sp<=20
theorem Fw{a:Int}{m:Nat}(h:a.natAbs<=m):(a^2).natAbs<=m*m:=by rw[fS,fS,m5,lF];erw[oP h h]
theorem pR{rate sp:Int}(h1:1<=sp)(h2:sp<=20)(h3:10<=rate)(h4:rate<=200):Bd 64 (topR rate sp):=by
 have qH:(2:Nat)^64=18446744073709551616:=by decide
 have a:=Fw (oP (a:=sp) (b:=rate) (m:=20) (n:=200) ao ao);erw[ml az (by rw[qH];lia) az]
theorem Wn{j:Int}{ns ms:List Int}{c:Rat}(h1:1<=j)(h2:j<=50)(hn:∀z∈ns,(z.natAbs:Int)<=100)(hm:∀z∈ms,(z.natAbs:Int)<=100)(h:cornO j ns ms=some c):Bd 64 c:=by
 have qH:(2:Nat)^64=18446744073709551616:=by decide
 have cb:=LZ (λz hz=>by have:=hn z hz;lia) (λz hz=>by have:=hm z hz;lia) (ns:=ns) (ms:=ms);have hb:=qr cb;have l1:=qr (ns:=ns) (m:=100) λz hz=>by have:=hn z hz;lia
 have l2:=qr (ns:=ms) (m:=100) λz hz=>by have:=hm z hz;lia
 unfold cornO at h;split at h
 ·cases h
 ·next h0=>cases h;have a:=Fw (oP (oP (a:=j) (b:=(aG ns:Int)) (m:=50) (n:=100) ao ao) (b:=(aG ms:Int)) (n:=100) ao);have b:=Fw (a:=(aG (fX ns ms):Int)) (m:=2000000) ao;erw[ml ?_ (by rw[qH];lia) (by rw[qH];lia)];rw[fS,fS,m5,lF];erw[Nb ao ao]
theorem qo{n:Nat}{a b:Rat}(h1:Bd n a)(h2:Bd n b):Bd n (mn a b):=by rcases sD a b with e|e<;>rw[e]<;>assumption
theorem Nh:Bd 64 (0:Rat):=#[ az,az]
theorem acr{j rate:Int}{o p:Itm}(h1:1<=j)(h2:j<=50)(h3:10<=rate)(h4:rate<=200)(ho:OkI o)(hp:OkI p):Bd 64 (betR j rate o p):=by
 unfold betR;split
 ·next ns sp ms sq=>
  let(a1,a2,a3):=ho ns sp rfl;let(b1,b2,b3):=hp ms sq rfl;have h:=qo (pR a2 a3 h3 h4) (pR b2 b3 h3 h4);unfold mnO;split
  ·erw[h]
  ·next c e=>erw[qo h (Wn h1 h2 a1 b1 e)]
 ·erw[Nh]
def OkIs(os:List Itm):Prop:=∀i,OkI (atO os i)
theorem zB{j rate:Int}{os:List Itm}(h1:1<=j)(h2:j<=50)(h3:10<=rate)(h4:rate<=200)(ho:OkIs os):∀i,Bd 64 (ownF j rate os i) |0=>Nh |i+1=>acr h1 h2 h3 h4 (ho i) (ho (i+1))
end _O
namespace _W
open PySem _L
def fZ(pl ns:List Int):List Int:=List.zipWith (λa b=>a+b) pl ns
theorem qV{pl ns:List Int}(h:ns.length=pl.length):(fZ pl ns).length=pl.length:=by unfold fZ;rw[List.length_zipWith,h];erw[Nat.min_self _]
theorem AZ{pl ns:List Int}{i:Nat}{a b:Int}(h1:pl[i]? =some a)(h2:ns[i]? =some b):(fZ pl ns)[i]? =some (a+b):=by unfold fZ;rw[List.getElem?_zipWith,h1,h2]
structure ft(rs pl:List Int):Prop where
 len:pl.length=rs.length
 at':∀(i:Nat)(x r:Int),pl[i]? =some x->rs[i]? =some r->0<=x/\x<=r
end _W
namespace _L
open PySem PySem.Spec PyProof.Rows
def MD(z:Str):It:=#[λi _=>i<z.cps.size,λi H x H'=>H'=H/\∃c,z.cps.toList[i]? =some c/\x= .str ⟨#[c]⟩,λi _=>z.cps.size<=i]
theorem Yv{P:ag}{w:World}{K:aa}{tg:Expr}(it:Addr)(z:Str)(t:Tok)(ty:String)(Kp:["enumerate","zip","dict_itemiterator","dict_reverseitemiterator","odict_iterator","itertools.zip_longest","itertools.pairwise"].contains ty=false) (W:∀A':ai,A'.handled=none->Walks P w A' it [it] [it] z.cps.size (SignAt z) (λi h=>h.IsStrIter it ty z t i)) (self:∀(A:ai)(i:Nat)(s:af)(Q:Value->af->Prop)(E:Value->af->Prop),s.heap.IsStrIter it ty z t i->Q (.ref it) s->wpAny (model P w) A (pyIter (.ref it)) Q E s): Turn P w K tg (MD z) [it] it (λi h=>h.IsStrIter it ty z t i/\i<=z.cps.size) where
 mem:=by simp
 obj:=λi h st b hb=>by
  have e:b=it:=by simpa using hb
  subst e;let((o,e,c,d),_):=st;erw[o,e,λv z=>by rw[d]at z;cases z]
 keep:=λi h h' st k=>#[let#[o,e,r]:=st.1;#[o,k it (by simp) o e,r],st.2]
 item:=by intro X hP hw hK hc i au s O H E I hf st hg;subst hP hw hK;let(f0,f1,f2,f3,f4,f5):=hf it (by simp);refine(W X.A (I.ok.hd hc)).item i s _ _ hg st.1 λv h' tk hv iY kk=>?_;let(c,u,ec,rfl):=hv;have I1:Inv X au O H {s with heap:=h',toks:=tk}:=I.turned (λb o hb e=>kk b o (by simpa using hb) e) f0 f1 f3 f4 f5;let(o,e,cl,d):=id iY;erw[_,Z,As (s:={s with heap:=h',toks:=tk}) e cl d Kp #[.str ⟨#[c]⟩,H,I1,#[u,Z],#[Z,c,by simpa using ec,Z],#[iY,hg],λb hb=>(hf b hb).1]]
 done:=by intro X hP hw hK hc i au s O H E I hf st hg;subst hP hw hK;let(f0,f1,f2,f3,f4,f5):=hf it (by simp);let(st,hle):=st;have ei:i=z.cps.size:=Nat.le_antisymm hle hg;subst ei;exact(W X.A (I.ok.hd hc)).done s _ _ st λh' tk eb=>#[Z,I.turned (λb o hb e=>eb b o (by simpa using hb) e) f0 f1 f3 f4 f5]
 self:=λA i s Q E st h=>self A i s Q E st.1 h
section
variable {X:Cx} {tg:Expr}
inductive afa(R:It->Hp->Prop)(x:V)(H1:Hp):Prop |mk (z:_)(h0:x= .str z)(h1:R (MD z) H1)
def a6B(tl:TE):TI:=λO H R=>tl O H λx H1=>afa R x H1
theorem Sl{l:Expr}{tl:TE}(hl:PE X l tl):PI X tg l (a6B tl):=by
 intro au s O H R I h;erw[aZ (hl au s O H _ I h) λv s1 #[x,H1,I1,r1,q1]=>?_];let(z,e,q):=q1;subst e;let(t,rfl):=r1;have fin:∀ty,["enumerate","zip","dict_itemiterator","dict_reverseitemiterator","odict_iterator","itertools.zip_longest","itertools.pairwise"].contains ty=false->(∀A':ai,A'.handled=none->Walks X.prog X.w A' s1.heap.objs.size [s1.heap.objs.size] [s1.heap.objs.size] z.cps.size (SignAt z) (λi h=>h.IsStrIter s1.heap.objs.size ty z t i))->(∀(A:ai)(i:Nat)(s:af)(Q:Value->af->Prop)(E:Value->af->Prop),s.heap.IsStrIter s1.heap.objs.size ty z t i->Q (.ref s1.heap.objs.size) s->wpAny (model X.prog X.w) A (pyIter (.ref s1.heap.objs.size)) Q E s)->My X au O tg R (.ref s1.heap.objs.size) {s1 with heap:=s1.heap.push {cls:=.type ty,data:=.fields (List.toArray [.str z t,.int 0 0])}}:=λty h1 h2 h3=>by
  erw[s1.heap.objs.size,[s1.heap.objs.size],_,_,H1,Z,I1.kept (t':=s1.toks) λb o e=>cN _ e,Yv _ z t ty h1 h2 h3,#[#[_,eZ _ Z,Z,Z],fE _],λb hb=>?_,q];have e:b=s1.heap.objs.size:=by simpa using hb
  subst e;erw[I1.tF (bf _) (I1.bX.fresh (bf _))]
 cases ha:z.cps.all (·<128)
 ·erw[wpAny_pyIter_wide ha (fin "str_iterator" az (λA' hA=>Walks.strWide hA _ z t) (λ_ _ _ _ _ st h=>wpAny_pyIter_striter_wide st h))]
 ·erw[wpAny_pyIter_ascii ha (fin "str_ascii_iterator" az (λA' hA=>Walks.strAscii hA _ z t) (λ_ _ _ _ _ st h=>wpAny_pyIter_striter_ascii st h))]
theorem Wr{z:Str}{f:Nat->Bool}{te:TE}{Q:VK}{D:Addr}{H H0:Hp}(rest:St)(nw:Nw H H0 D (.lst []))(hz:z.length<=1000) (hs:∀(c:Nat)(H2:Hp)(Q':VK),c∈z.cps.toList->aH H H2->(∀H3,aH H2 H3->Q' (.bl (f c)) H3)->te (some (.str ⟨#[c]⟩)::rest) H2 Q') (hq:∀H',aH H H'->H' D=some (.lst ((z.cps.toList.map f).map V.bl))->Q (.ref D) H'):lZ (MD z) (gu 0) kK te Q D (none::rest) H0:=by
 have hl:z.cps.toList.length=z.cps.size:=by simp
 erw[Ws (xs:=z.cps.toList.map λc=>V.str ⟨#[c]⟩) (bs:=z.cps.toList.map f) rest nw (by simp) (by simpa[Str.length]using hz) ?_ ?_ ?_ hq]
 ·intro i x H2 ex s2
  rw[bP]at ex;cases ec:z.cps.toList[i]? with |none=>rw[ec]at ex;cases ex |some c=>rw[ec]at ex;cases ex;erw[by have:=(cJ.mp ec).1;show i<z.cps.size;omega,λy H3 #[e3,c',VV,e]=>#[e3,?_]];rw[ec]at VV;cases VV;erw[e]
 ·intro H2 s2
  show z.cps.size<=(z.cps.toList.map _).length;rw[ba,hl];erw[bf _]
 ·intro i x b H2 Q' ex eb s2 oZ
  rw[bP]at ex eb;cases ec:z.cps.toList[i]? with |none=>rw[ec]at ex;cases ex |some c=>rw[ec]at ex eb;cases ex;cases eb;erw[hs c H2 Q' (fR ec) s2 oZ]
theorem SE:cY X (compareOp .In) (λx y H Q=>∃c j,x= .str ⟨#[c]⟩/\y= .str j/\Q (.bl (decide (c∈j.cps.toList))) H):=by intro au s O H x y v u Q I rx ry h;let(c,j,rfl,rfl,q):=h;erw[a2m au s O H _ _ v u Q I rx ry #[_,_,Z,Z,?_]];rw[PySem.StrLaws.found_one];erw[q]
inductive aeW(K:aa)(x:V)(y:V)(H:Hp)(Q:VK):Prop |mk (p:_)(xs:_)(d:_)(ds:_)(h0:y= .ref p)(h1:aW K H p xs)(h2:RD K H x d)(h3:aK K H xs ds)(h4:SeqAt.shaped d=true)(h5:(∀e∈ds,SeqAt.shaped e=true))(h6:Q (.bl (ds.any λe=>PyData.eqv e d)) H)
def a1h(K:aa):R2:=λx y H Q=>aeW K x y H Q
theorem a6w(K:aa)(hK:X.K=K)(hu:X.A.units+65<cLine):cY X (compareOp .In) (a1h K):=by
 subst hK;intro au s O H x y v u Q I rx ry h;let(p,xs,d,ds,rfl,hx,hd,tq,sd,ZU,q):=h;cases ry;let(its,r,pl,hz):=I.tuple hx;let(k1,k2):=VH I hu rx hd sd r tq ZU;erw[SeqAt.in_tupleAt (vz s.heap d) (show s.heap.IsTuple p its.toArray from pl) (λw hw=>k1 w (by simpa using hw)) #[.bl _,H,I,Z,?_]];have e:its.toArray.any (vz s.heap d)=ds.any λe=>PyData.eqv e d:=by rw[<-k2];simp
 rw[e];erw[q]
end
structure MA(K:aa)(C:Addr)(m qual:Str)(st:Stmt):Prop where ex:∃f fd,Meth K C m f/\lj K m qual st f fd
def cL(P:ag)(w:World)(K:aa)(mg:ck)(aw:Heap)(C:Addr)(m:Str)(k:Nat)(sp:Sp):Prop:=∃f fd ps,fw P w K mg aw kh k f fd ps sp/\Meth K C m f/\Binds K fd ps []
structure CA(K:aa)(mg:ck)(C:Addr)(x qual:Str)(st:Stmt):Prop where
 mgC:mg x=some (.ref C)
 ex:∃f fd,Mk K C f/\lj K "__init__" qual st f fd
def yg(P:ag)(w:World)(K:aa)(mg:ck)(aw:Heap)(C:Addr)(x:Str)(k:Nat)(sp:Sp):Prop:=∃f fd ps,fw P w K mg aw kh k f fd ps sp/\Mk K C f/\Binds K fd ps []/\mg x=some (.ref C)
section
variable {P:ag}{w:World}{K:aa}{mg:ck}{aw:Heap}
theorem hJ{C:Addr}{m qual:Str}{st:Stmt}{f:Addr}{oc:Value}{od an:Option Addr}{j8:Array (Option Value)}{kV doc pm aL ct:Value} (a:PySem.W.findIn K (.ref C) m=some (some (.ref f)))(i:PySem.W.isFn K (.ref f)=true) (l:K.lookup f=some #[oc,od,.func (PySem.W.fnOf m qual (mO st) (ji st) (aU st) .none kV doc pm an aL ct),j8]) (c:PySem.W.codeIn K aL qual=true)(k:PySem.W.keepIn K (.ref f)=true):MA K C m qual st:=#[f,_,#[a,i,k],Le l c k]
theorem WC{h:Heap}{C:Addr}{x qual:Str}{st:Stmt}{f:Addr}{oc:Value}{od an:Option Addr}{j8:Array (Option Value)}{kV doc pm aL ct:Value}(X:K.In h)(G:h.Ns mainGlobals mg) (aC:PySem.W.nsIn K mainGlobals x=some (some (.ref C)))(mk:PySem.W.makesIn K C=true)(kc:PySem.W.keepIn K (.ref C)=true) (a:PySem.W.findIn K (.ref C) "__init__"=some (some (.ref f)))(i:PySem.W.isFn K (.ref f)=true) (l:K.lookup f=some #[oc,od,.func (PySem.W.fnOf "__init__" qual (mO st) (ji st) (aU st) .none kV doc pm an aL ct),j8]) (c:PySem.W.codeIn K aL qual=true)(k:PySem.W.keepIn K (.ref f)=true):CA K mg C x qual st:=#[Bo X G aC,f,_,#[mk,a,i,kc],Le l c k]
theorem MA.has{C:Addr}{m qual:Str}{st:Stmt}{N ps:List Str}{k:Nat}{sp:Sp}(F:MA K C m qual st)(S:bo N ps (aU st))(len:∀vs H Q E,sp vs H Q E->vs.length=ps.length) (hb:∀(kV doc pm:Value)(an:Option Addr)(aL ct:Value)(us:List Value),us.length=ps.length->bindArgs (PySem.W.fnOf m qual (mO st) (ji st) (aU st) .none kV doc pm an aL ct) #[us,[]]=pure (ps.zip us)) (lR:∀(f:Addr)(aL:Value)(A:ai)(outer:List Env)(s:af)(H:Hp)(vs:List V)(Q:VK)(E:XK),dP k (A.deeper (envOfC qual (aU st) s.heap.objs.size f aL))->sp vs H Q E->∃t,iU (mQ kh P w K mg aw N qual (aU st) f aL A outer s H E).uR (ji st) t/\t {nx:=λ_ H'=>Q .bw H',rt:=Q} (start N vs) H):cL P w K mg aw C m (k+1) sp:=by let(f,fd,hm,F):=F.ex;erw[f,fd,ps,F.ok S len λaL A outer s H vs Q E=>lR f aL A outer s H vs Q E,hm,F.binds hb]
theorem CA.has{C:Addr}{x qual:Str}{st:Stmt}{N ps:List Str}{k:Nat}{sp:Sp}(F:CA K mg C x qual st)(S:bo N ps (aU st))(len:∀vs H Q E,sp vs H Q E->vs.length=ps.length) (hb:∀(kV doc pm:Value)(an:Option Addr)(aL ct:Value)(us:List Value),us.length=ps.length->bindArgs (PySem.W.fnOf "__init__" qual (mO st) (ji st) (aU st) .none kV doc pm an aL ct) #[us,[]]=pure (ps.zip us)) (lR:∀(f:Addr)(aL:Value)(A:ai)(outer:List Env)(s:af)(H:Hp)(vs:List V)(Q:VK)(E:XK),dP k (A.deeper (envOfC qual (aU st) s.heap.objs.size f aL))->sp vs H Q E->∃t,iU (mQ kh P w K mg aw N qual (aU st) f aL A outer s H E).uR (ji st) t/\t {nx:=λ_ H'=>Q .bw H',rt:=Q} (start N vs) H):yg P w K mg aw C x (k+1) sp:=by let(f,fd,hm,F'):=F.ex;erw[f,fd,ps,F'.ok S len λaL A outer s H vs Q E=>lR f aL A outer s H vs Q E,hm,F'.binds hb,F.mgC]
end
section
variable {X:Cx}{k:Nat}{x m:Str}{C:Addr}{p pos apos:Pos}{o e:Expr}{es:List Expr}{t:TA}{ta:TE}{sp:Sp}
inductive Xk(C:Addr)(m:Str)(sp:Sp)(t:TA)(O:St)(Q:VK)(x:V)(H1:Hp):Prop |mk (a:_)(dx:_)(fs:_)(h0:x= .ref a)(h1:H1 a=some (.ins C dx fs))(h2:fs.lookup m=none)(h3:t O H1 λvs H2=>sp (x::vs) H2 Q E0)
def NK(C:Addr)(m:Str)(sp:Sp)(ta:TE)(t:TA):TE:=λO H Q=>ta O H λx H1=>Xk C m sp t O Q x H1
theorem Tr{O:St}{Q:VK}{x:V}{H1:Hp}:EA C m sp [] E0 t O Q x H1=Xk C m sp t O Q x H1:=by
 have e1:(λ(vs:List V) H1=>sp (x::(vs++[])) H1 Q E0)=λvs H1=>sp (x::vs) H1 Q E0:=by funext vs H1;rw[oA]
 erw[propext #[λ#[a,dx,fs,h0,h1,h2,h3]=>#[a,dx,fs,h0,h1,h2,?_],λ#[a,dx,fs,h0,h1,h2,h3]=>#[a,dx,fs,h0,h1,h2,?_]]]
 ·rw[<-e1];erw[h3]
 ·rw[e1];erw[h3]
theorem kv{pl:Sem Bool}(F:cL X.prog X.w X.K X.mg X.aw C m k sp)(c:kf X.K C)(hr:dP k X.A)(he:PE X o ta)(ha:PA X (e::es) t) (nF:autoParam (starEach (e::es) X.env=(false,eval e X.env)::starEach es X.env) r8_._auto_1)(gs:autoParam ((backTo pos (starEach es X.env)).any (·.1)=false) r8_._auto_1) (ht:eval (.Call (.Attribute o m apos) (e::es) [] pos) X.env=(do
 let ov<-eval o X.env
 standAt apos.atName
 let(f,first)<-holding [ov] (getMethod ov m pl)
 callWith pos f first (backTo pos (starEach (e::es) X.env)) (backToKw pos (keywordEach [] X.env))):=by rfl): PE X (.Call (.Attribute o m apos) (e::es) [] pos) (NK C m sp ta t):=by
 let(f,fd,ps,F,hm,hb):=F;have h:=a1P (pos:=pos) (apos:=apos) (pl:=pl) he c hm F hr hb .nil CJ ha nF gs ht;intro au s O H Q I hq;erw[h au s O H Q I ?_];show ta O H λx H1=>EA C m sp [] E0 t O Q x H1;simp only[Tr];erw[hq]
theorem jO{pl:Sem Bool}(F:cL X.prog X.w X.K X.mg X.aw C m k sp)(c:kf X.K C)(hr:dP k X.A)(he:PE X o ta) (ht:eval (.Call (.Attribute o m apos) [] [] pos) X.env=(do
 let ov<-eval o X.env
 standAt apos.atName
 let(f,first)<-holding [ov] (getMethod ov m pl)
 callWith pos f first (backTo pos (starEach [] X.env)) (backToKw pos (keywordEach [] X.env))):=by rfl): PE X (.Call (.Attribute o m apos) [] [] pos) (NK C m sp ta uk):=by
 let(f,fd,ps,F,hm,hb):=F;have h:=a1O (pos:=pos) (apos:=apos) (pl:=pl) he c hm F hr hb .nil CJ ht;intro au s O H Q I hq;erw[h au s O H Q I ?_];show ta O H λx H1=>EA C m sp [] E0 uk O Q x H1;simp only[Tr];erw[hq]
def Z6(C:Addr)(sp:Sp)(t:TA):TE:=λO H Q=>t O H λvs H1=>∀x dx,H1 x=none->H1 dx=none->dx≠x->sp (.ref x::vs) (upd (upd H1 dx (.own x)) x (.ins C dx [])) (λv H2=>v= .bw/\Q (.ref x) H2) E0
theorem Ss(F:yg X.prog X.w X.K X.mg X.aw C x k sp)(hr:dP (k+1) X.A)(hg:Gl X x)(ha:PA X (e::es) t)(jx:autoParam ((x==("__debug__":Str))=false) q8_._auto_1) (he:autoParam (starEach (e::es) X.env=(false,eval e X.env)::starEach es X.env) r8_._auto_1)(gs:autoParam ((backTo pos (starEach es X.env)).any (·.1)=false) r8_._auto_1): PE X (.Call (.Name x p) (e::es) [] pos) (Z6 C sp t):=by
 let(f,fd,ps,F,M,hb,hm):=F;have h:=a1Q (pos:=pos) (p:=p) M F hr hg hm hb .nil CJ ha jx he gs;intro au s O H Q I hq;erw[h au s O H Q I ?_];have e1:(λ(vs:List V) H1=>∀x dx,H1 x=none->H1 dx=none->dx≠x->sp (.ref x::(vs++[])) (upd (upd H1 dx (.own x)) x (.ins C dx [])) (λv H2=>v= .bw/\Q (.ref x) H2) E0) =λvs H1=>∀x dx,H1 x=none->H1 dx=none->dx≠x->sp (.ref x::vs) (upd (upd H1 dx (.own x)) x (.ins C dx [])) (λv H2=>v= .bw/\Q (.ref x) H2) E0:=by funext vs H1;rw[oA]
 show t O H λvs H1=>∀x dx,H1 x=none->H1 dx=none->dx≠x->sp (.ref x::(vs++[])) (upd (upd H1 dx (.own x)) x (.ins C dx [])) (λv H2=>v= .bw/\Q (.ref x) H2) E0;rw[e1];erw[hq]
inductive IAt(C:Addr)(x:Str)(Q:VK)(v:V)(H1:Hp):Prop |mk (a dx:Addr)(fs:List (Str×V))(u:V)(h0:v= .ref a)(h1:H1 a=some (.ins C dx fs))(h2:fs.lookup x=some u)(h3:Q u H1)
theorem cU(T:kf X.K C)(hn:iV X.K C x)(he:PE X e ta)(hb:autoParam (attributeBase e x X.env (eval e X.env)=eval e X.env) r8_._auto_1): PE X (.Attribute e x pos) (λO H Q=>ta O H λv H1=>IAt C x Q v H1):=by intro au s O H Q I h;erw[acz hb (aZ (he au s O H _ I h) λu s1 #[v,H1,I1,rx,a,dx,fs,w,ex,ea,l,q]=>?_)];subst ex;obtain rfl:u=Value.ref a:=rx;erw[Vl I1 ea T hn l λu' s2 I2 ru=>#[w,H1,I2,ru,q]]
inductive afj(C:Addr)(x:Str)(D:Ends)(O:St)(y v:V)(H2:Hp):Prop |mk (a dx:Addr)(fs:List (Str×V))(h0:v= .ref a)(h1:H2 a=some (.ins C dx fs))(h2:fs.length<1000)(h3:D.nx O (upd H2 a (.ins C dx (jn x y fs))))
inductive afn(C a:Addr)(x:Str)(D:Ends)(O:St)(z:V)(H3:Hp):Prop |mk (vE:Addr)(ph:List (Str×V))(h0:H3 a=some (.ins C vE ph))(h1:ph.length<1000)(h2:D.nx O (upd H3 a (.ins C vE (jn x z ph))))
inductive afo(C:Addr)(x:Str)(tv:TE)(rd:V->V->Hp->VK->Prop)(D:Ends)(O:St)(v:V)(H1:Hp):Prop |mk (a dx:Addr)(fs:List (Str×V))(u:V)(h0:v= .ref a)(h1:H1 a=some (.ins C dx fs))(h2:fs.lookup x=some u)(h3:tv O H1 λy H2=>rd u y H2 λz H3=>afn C a x D O z H3)
theorem iM{value:Expr}{tv:TE}{pos':Pos}(T:kf X.K C)(hn:iV X.K C x)(ha:PE X o ta)(hv:PE X value tv)(hs:autoParam (swapsWith value (some (.Attribute o x pos')) pos.line X.env=pure false) r8_._auto_1): PS X (.Assign [.Attribute o x pos'] value pos) (λD O H=>tv O H λy H1=>ta O H1 λv H2=>afj C x D O y v H2):=by intro au s O H D I h;erw[plainObj_wpAny_Assign_Attribute (aZ (hv au s O H _ I h) λu s1 #[y,H1,I1,ry,q]=>aZ (ha au s1 O H1 _ I1 q) λov s2 #[v,H2,I2,rx,a,dx,fs,ex,ea,l,q2]=>?_) hs];subst ex;obtain rfl:ov=Value.ref a:=rx;erw[P5 I2 ea T hn l ry λs3 I3=>#[O,_,I3,q2]]
theorem a1w{op:Operator}{rd:V->V->Hp->VK->Prop}{value:Expr}{tv:TE}{pQ:Pos}(T:kf X.K C)(hn:iV X.K C x)(ha:PE X o ta)(hv:PE X value tv)(hop:af6 X op rd): PS X (.AugAssign (.Attribute o x pQ) op value pos) (λD O H=>ta O H λv H1=>afo C x tv rd D O v H1):=by intro au s O H D I h;erw[wpAny_AugAssign_AttributeAny (aZ (ha au s O H _ I h) λov s1 #[v,H1,I1,rx,a,dx,fs,u,ex,ea,l,q]=>?_)];subst ex;obtain rfl:ov=Value.ref a:=rx;erw[Vl I1 ea T hn l λu s2 I2 ru=>aZ (hv au s2 O H1 _ I2 q) λw3 s3 #[y,H2,I3,ry,q3]=>aZ (hop au s3 O H2 _ y u w3 _ I3 ru ry q3) λw4 s4 #[z,H3,I4,rz,vE,ph,xS,l',q4]=>?_];erw[P5 I4 xS T hn l' rz λs5 I5=>#[O,_,I5,q4]]
end
def dI(S:List Addr)(H H':Hp):Prop:=∀b o,H b=some o->b∉S->H' b=some o
theorem dI.refl(S:List Addr)(H:Hp):dI S H H:=λ_ _ e _=>e
theorem dI.of{S:List Addr}{H H':Hp}(s:aH H H'):dI S H H':=λb o e _=>s b o e
theorem dI.trans{S:List Addr}{H H1 H2:Hp}(a:dI S H H1)(b:dI S H1 H2):dI S H H2:=λc o e n=>b c o (a c o e n) n
theorem Ma{S:List Addr}{H:Hp}{a:Addr}{o:HO}(h:a∈S):dI S H (upd H a o):=λb o' e n=>by have hb:b≠a:=λz=>n (by rw[z];erw[h]);rw[aY hb];erw[e]
def MI:HO->Prop | .lst _=>True | .ins _ _ _=>True | .dK _=>True | .rM _=>True |_=>False
def cR(H H':Hp):Prop:=∀b o,¬MI o->H b=some o->H' b=some o
section
variable {K:aa} {H H' H2:Hp}
theorem cR.refl:cR H H:=λ_ _ _ e=>e
theorem cR.trans(a:cR H H')(b:cR H' H2):cR H H2:=λc o n e=>b c o n (a c o n e)
theorem fm.v(s:fm H H'):cR H H':=λb o n e=>s b o (λxs z=>n (by rw[z];trivial)) e
theorem aH.v(s:aH H H'):cR H H':=λb o _ e=>s b o e
theorem dI.v{S:List Addr}(s:dI S H H')(h:∀x∈S,∀o,H x=some o->MI o):cR H H':=λb o n e=>s b o e λz=>n (h b z o e)
theorem cR.upd{a:Addr}{o o':HO}(h:H a=some o)(m:MI o):cR H (upd H a o'):=λb p n e=>by
 have hb:b≠a:=λz=>by rw[z,h]at e;cases e;erw[n m]
 rw[aY hb];erw[e]
theorem aW.v{a:Addr}{xs:List V}(s:cR H H')(h:aW K H a xs):aW K H' a xs:=h.imp (λr=>r.imp (s _ _ (λz=>z)) λ#[o,e]=>#[o,s _ _ (λz=>z) e]) id
mutual
theorem RD.v(s:cR H H'):∀{x:V}(d:ah),eA d=true->RD K H x d->RD K H' x d |x,.none,_,h=>by simpa[RD]using h |x,.bool b,_,h=>by simpa[RD]using h |x,.int i,_,h=>by simpa[RD]using h |x,.str y,_,h=>by simpa[RD]using h |x,.list ds,n,h=>by simp[eA]at n |x,.tuple ds,n,h=>by rw[RD]at h⊢;let(a,xs,e,h1,h2):=h;erw[a,xs,e,h1.v s,aK.v s ds (by simpa[eA]using n) h2] |x,.dict _,_,h=>by simp[RD]at h
theorem aK.v (s:cR H H'):∀{xs:List V}(ds:List ah),cA ds=true->aK K H xs ds->aK K H' xs ds |xs,[],_,h=>by simpa[aK]using h |xs,d::ds,n,h=>by rw[aK]at h⊢;rw[cA,fz]at n;let(y,ys,e,h1,h2):=h;erw[y,ys,e,RD.v s d n.1 h1,aK.v s ds n.2 h2]
end
end
abbrev jY(elt tg iter fF fk:Expr)(scope:Scope)(pos:Pos):Expr:=.ListComp elt [#[tg,iter,[],0],#[fF,fk,[],0]] scope pos
theorem abT(elt tg iter fF fk:Expr)(scope:Scope)(pos:Pos)(it acc:Value)(env:Env): compTurn (jY elt tg iter fF fk scope pos) 0 it acc env=(do standAt iter.pos match<-pyNext it with
 |none=>pure (.done .next) |some v=>
  letOwnedTupleGo tg it v
  assign tg env v
  let mut ok:=true
  for c in([]:List Expr) do if ok then ok<-isTrue c env (eval c env)
  if ok then
   let x<-eval fk env
   standAt fk.pos
   let x<-foldedSetIterable fk env x
   let _<-runOwn (.compStart (jY elt tg iter fF fk scope pos) 1 (<-holding [x] (pyIter x)) acc env) env
  again (.compLoop (jY elt tg iter fF fk scope pos) 0 it acc env)):=by rfl
theorem abS(elt tg iter fF fk:Expr)(scope:Scope)(pos:Pos)(it acc:Value)(env:Env): compTurn (jY elt tg iter fF fk scope pos) 1 it acc env=(do standAt fk.pos match<-pyNext it with
 |none=>pure (.done .next) |some v=>
  letOwnedTupleGo fF it v
  assign fF env v
  (do let _<-call (.builtin "list.append") [acc,<-eval elt env])
  again (.compLoop (jY elt tg iter fF fk scope pos) 1 it acc env)):=by rfl
section
variable {prog:ag}{w:World}{A:ai}{R:Result->af->Prop}{s:af}{elt tg iter fF fk:Expr}{scope:Scope}{pos:Pos}{it acc:Value}{env:Env}
theorem abV(I:Nat->af->Prop) (turn:∀n s,I n s->wpAny (model prog w) A (pyNext it) (λr s₁=>match r with |none=>R (.ok .next) s₁ |some v=>wpAny (model prog w) A (letOwnedTupleGo fF it v) (λ_ s₁=>wpAny (model prog w) A (assign fF env v) (λ_ s₂=>wpAny (model prog w) A (eval elt env) (λx s₄=>wpAny (model prog w) A (call (.builtin "list.append") [acc,x]) (λ_ s₅=>∃m,m<n/\I m s₅) (λ_ _=>False) s₄) (λ_ _=>False) s₂) (λ_ _=>False) s₁) (λ_ _=>False) s₁) (λ_ _=>False) s) (n:Nat)(h:I n s):codeAny (model prog w) A (.compLoop (jY elt tg iter fF fk scope pos) 1 it acc env) R s:=by erw[codeAny_loop Z I (λn s hI=>?_) n h];show wpAny _ A ((compTurn (jY elt tg iter fF fk scope pos) 1 it acc env).onRaise (λx=>do noteFrame x env;theTreesLotGoes x)) _ _ s;erw[wpAny_noted ?_];rw[abS];erw[aM (tZ (aM (gI (turn n s hI) (λr s₁ h₁=>?_) λ_ _ h'=>h'.elim)))];cases r with |none=>erw[cn h₁] |some v=>erw[aM (gI h₁ (λ_ NS h₁=>?_) λ_ _ h'=>h'.elim)];erw[aM (gI h₁ (λ_ s₂ h₂=>?_) λ_ _ h'=>h'.elim)];erw[aM (aM (gI h₂ (λx s₄ h₄=>aM (gI h₄ (λ_ s₅ h₅=>cn (cn #[Z,h₅])) λ_ _ h'=>h'.elim)) λ_ _ h'=>h'.elim))]
theorem abU(h0:codeAny (model prog w) A (.compLoop (jY elt tg iter fF fk scope pos) 1 it acc env) R s) (h:wpAny (model prog w) A (pyIter it) (λUw s'=>codeAny (model prog w) A (.compLoop (jY elt tg iter fF fk scope pos) 1 Uw acc env) R s') (notedBy (model prog w) A env λx s'=>R (.error x) s') s): codeAny (model prog w) A (.compStart (jY elt tg iter fF fk scope pos) 1 it acc env) R s:=by
 erw[codeAny_of_tree ?_];show wpAny _ _ ((compStart (jY elt tg iter fF fk scope pos) 1 it acc env).onRaise (λx=>do noteFrame x env;standAt theWindowsPlace)) _ _ s;erw[wpAny_notedAt ?_];unfold compStart;show wpAny _ _ (ask>>=_) _ _ s;erw[aM (wpAny_askSetting (wpAny_ite ?_))];split
 ·first |erw[aM (cn (cn (And.intro Z h0)))] |erw[cn (And.intro Z h0)]
 ·first |erw[aM (Bi (aM (tZ (aM (gI h (λUw s' h'=>cn #[Z,h']) λ_ _ h'=>h')))))]
theorem abW(I:Nat->af->Prop)(jd:∀x,foldedSetIterable fk env x=pure x) (turn:∀n s,I n s->wpAny (model prog w) A (pyNext it) (λr s₁=>match r with |none=>R (.ok .next) s₁ |some v=>wpAny (model prog w) A (letOwnedTupleGo tg it v) (λ_ s₁=>wpAny (model prog w) A (assign tg env v) (λ_ s₂=>wpAny (model prog w) A (eval fk env) (λx s₃=>wpAny (model prog w) A (pyIter x) (λDv s₄=>codeAny (model prog w) A (.compStart (jY elt tg iter fF fk scope pos) 1 Dv acc env) (λr s₅=>match r with| .ok _=>∃m,m<n/\I m s₅| .error _=>False) s₄) (λ_ _=>False) s₃) (λ_ _=>False) s₂) (λ_ _=>False) s₁) (λ_ _=>False) s₁) (λ_ _=>False) s) (n:Nat)(h:I n s):codeAny (model prog w) A (.compLoop (jY elt tg iter fF fk scope pos) 0 it acc env) R s:=by erw[codeAny_loop Z I (λn s hI=>?_) n h];show wpAny _ A ((compTurn (jY elt tg iter fF fk scope pos) 0 it acc env).onRaise (λx=>do noteFrame x env;theTreesLotGoes x)) _ _ s;erw[wpAny_noted ?_];rw[abT];erw[aM (tZ (aM (gI (turn n s hI) (λr s₁ h₁=>?_) λ_ _ h'=>h'.elim)))];cases r with |none=>erw[cn h₁] |some v=>erw[aM (gI h₁ (λ_ NS h₁=>?_) λ_ _ h'=>h'.elim)];erw[aM (gI h₁ (λ_ s₂ h₂=>?_) λ_ _ h'=>h'.elim)];erw[aM (wpAny_tests_nil ?_)];simp only[we];erw[aM (gI h₂ (λx s₃ h₃=>?_) λ_ _ h'=>h'.elim)];erw[aM (tZ (aM (yk (jd x) (aM (u6 (gI h₃ (λDv s₄ h₄=>?_) λ_ _ h'=>h'.elim))))))];erw[aM (wpAny_runOwn (yn h₄ λr s₅ h₅=>?_))];cases r with |error e=>erw[h₅.elim] |ok f=>erw[cn #[Z,h₅]]
end
def af5(J:It)(g:TG)(te:TE)(D:Addr)(R:St->Hp->Prop)(O:St)(H:Hp):Prop:=∃W:Nat->Nat->St->Hp->Prop,(∃m,W 0 m O H)/\∀i m σ' H',W i m σ' H'->(J.stop i H'/\R σ' H')\/(J.go i H'/\∀x H2,J.jG i H' x H2->g x σ' H2 λσ3 H3=>te σ3 H3 λy H5=>∃ys,H5 D=some (.lst ys)/\ys.length<sizeLine/\∃m',m'<m/\W (i+1) m' σ3 (upd H5 D (.lst (ys++[y]))))
def Xl(J:It)(g:TG)(pP:TI)(g2:TG)(te:TE)(Q:VK)(D:Addr)(O:St)(H:Hp):Prop:=∃W:Nat->Nat->St->Hp->Prop,(∃m,W 0 m O H)/\∀i m σ' H',W i m σ' H'->(J.stop i H'/\Q (.ref D) H')\/(J.go i H'/\∀x H2,J.jG i H' x H2->g x σ' H2 λσ3 H3=>pP σ3 H3 λJ2 H4=>af5 J2 g2 te D (λσ5 H5=>∃m',m'<m/\W (i+1) m' σ5 H5) σ3 H4)
def Zd(js:List (Option Nat))(wi:TI)(g:TG)(pP:TI)(g2:TG)(te:TE):TE:=λO H Q=>wi O H λJ H1=>∀D H2,Nw H1 H2 D (.lst [])->Xl J g pP g2 te Q D (stC js O) H2
set_option maxHeartbeats 1000000 in
theorem a1U{X:Cx}{N:List Str}{js:List (Option Nat)}{elt tg iter fF fk:Expr}{scope:Scope}{pos:Pos}{wi:TI}{g:TG}{pP:TI}{g2:TG}{te:TE}(hc:X.calm=true)(hN:AO X N js scope=true)(hS:tQ X scope=true) (hi:PI X tg iter wi)(hg:∀cl s H fp au,PG (dg X N scope cl s H fp au) tg g)(DL:∀cl s H fp au,PI (dg X N scope cl s H fp au) fF fk pP)(hg2:∀cl s H fp au,PG (dg X N scope cl s H fp au) fF g2)(he:∀cl s H fp au,PE (dg X N scope cl s H fp au) elt te) (hs:autoParam (∀x,foldedSetIterable iter X.env x=pure x) d8_._auto_1)(jd:∀env x,foldedSetIterable fk env x=pure x:=by intro _ _;rfl):PE X (.ListComp elt [#[tg,iter,[],0],#[fF,fk,[],0]] scope pos) (Zd js wi g pP g2 te):=by
 intro au s O H Q I h;have nY:=hS;unfold tQ at nY;rw[fz,fz]at nY;let((k1,k2),k3):=nY;have mH:scope.kind= .function:=fL.mp k1;have sZ:∀x∈scope.names,x.2= .free->∃c,X.env.cells.lookup x.1=some c:=λx hx e=>by have:=g6.mp k3 x hx;rw[e]at this;erw[I.ok.has x.1 (.inl (fL.mp this))]
 have p9:∀x∈scope.names,x.2≠ .cell:=λx hx e=>by have:=g6.mp k3 x hx;rw[e]at this;erw[eH this]
 have Ae:∀x∈scope.names,x.2= .local->scope.names.lookup x.1=some .local:=λx hx e=>by have:=g6.mp k3 x hx;rw[e]at this;erw[fL.mp this]
 let(cl,Al,c1,c2):=M5 sZ;rw[eval_ListComp];erw[Xp (use:=none) Z hs Al mH Ae (aZ (hi au s O H _ I h) λv s1 h1=>aZ h1 λA1 s2 h2=>?_)];let(it,fp,tn,J,H2,e,I2,T,oF,f2,h2):=h2;subst e;have hD:H2 s2.heap.objs.size=none:=I2.bX.fresh (bf _);let(W,(m0,w0),turn):=h2 _ _ (Nw.of hD);erw[pL (Xo p9 (by intro y hy;simp at hy) (λh₁ sR sP=>?_) mH)];have o5:∀b∈fp,b<s2.heap.objs.size:=λb hb=>by let(o,e,_):=T.obj _ _ oF b hb;erw[cH e]
 have I3:Inv X au O (upd H2 s2.heap.objs.size (.lst [])) {s2 with heap:=s2.heap.push {cls:=.type "list",dict:=none,data:=.seq ([]:List Value).toArray}}:=I2.Dn (its:=[]) (t':=s2.toks) .nil (fE _);generalize tD:s2.heap.push {cls:=.type "list",dict:=none,data:=.seq ([]:List Value).toArray}=h3 at I3 sR sP;have rO:h3.objs.size=s2.heap.objs.size+1:=by rw[<-tD,rE]
 have A0:∀b o,s2.heap.get? b=some o->h3.get? b=some o:=λb o e=>by rw[<-tD];erw[cN _ e]
 have f3:∀b∈fp,kd X au (upd H2 s2.heap.objs.size (.lst [])) b:=λb hb=>#[by rw[aY (eY (o5 b hb))];exact(f2 b hb).1,(f2 b hb).2];have sH:∀b o,h3.get? b=some o->h₁.get? b=some o:=λb o e=>(sP.2 b (eY (cH e))).trans (cN _ e);have I4:Inv (dg X N scope cl {s2 with heap:=h3} (upd H2 s2.heap.objs.size (.lst [])) fp au) [] (stC js O) (upd H2 s2.heap.objs.size (.lst [])) {s2 with heap:=h₁,toks:=s2.toks+([]:List (Str×Value)).length}:=I3.comp (s:={s2 with heap:=h3}) hN hS c1 c2 f3 (λb hb=>by show b<h3.objs.size;rw[rO];erw[Br (o5 b hb)]) (by simpa using sR) sH;have rV:tn 0 h₁:=T.keep _ _ _ oF λb _ o e=>sH b o (A0 b o e);have loop:codeAny (model X.prog X.w) X.A (.compLoop (jY elt tg iter fF fk scope pos) 0 (.ref it) (.ref s2.heap.objs.size) (compEnvC scope cl h3.objs.size X.env)) (compPost (model X.prog X.w) X.A X.xe none (EP X au O Q) (.ref s2.heap.objs.size) h3.objs.size) {s2 with heap:=h₁,toks:=s2.toks+([]:List (Str×Value)).length}:=by
  erw[abW (λn s'=>∃i σ' H',Inv (dg X N scope cl {s2 with heap:=h3} (upd H2 s2.heap.objs.size (.lst [])) fp au) [] σ' H' s'/\tn i s'.heap/\(∀b∈fp,H' b=none)/\W i n σ' H') (jd _) ?_ m0 #[0,_,_,I4,rV,λb hb=>(f3 b hb).1,w0]];rintro n s5 ⟨i,σ5,H5,I5,m9,pA,w5⟩;have ko:∀{H':Hp},(∀b∈fp,H' b=none)->∀b∈fp,kd (dg X N scope cl {s2 with heap:=h3} (upd H2 s2.heap.objs.size (.lst [])) fp au) [] H' b:=λ{H'} hn b hb=>by
   let(_,q1,q2,q3,q4,q5):=f3 b hb;erw[hn b hb,λz=>?_,I4.ok.tI b hb,.inl hb,λx c e=>q4 x c (c1 x c e),λp hp=>q5 p (by simpa[dg]using hp)];have cB:b<h3.objs.size:=by rw[rO];erw[Br (o5 b hb)]
   erw[eY cB z]
  rcases turn i n σ5 H5 w5 with⟨stop,qn⟩|⟨go,step⟩
  ·erw[aZ (T.done (dg X N scope cl {s2 with heap:=h3} (upd H2 s2.heap.objs.size (.lst [])) fp au) rfl rfl rfl hc i [] s5 σ5 H5 _ I5 (ko pA) m9 stop) λr s6 #[hr,I6]=>?_]
   subst hr;let(m,hm,_):=I6.loc;erw[m,hm,λh7 qA=>?_];have u0:Un (fW X.stack) fp (upd H2 s2.heap.objs.size (.lst [])) H5 h3 s6.heap:=I6.aw;have ne:∀b o,h3.get? b=some o->b≠h3.objs.size:=λb o e=>eY (cH e);have u:Un (fW X.stack) fp (upd H2 s2.heap.objs.size (.lst [])) H5 h3 h7:=#[λb o e n hb hx=>(qA.2 b (ne b o e)).trans (u0.keep b o e n hb hx),λb o e n hb hx=>let#[sl,q]:=u0.slot b o e n hb hx;#[sl,(qA.2 b (ne b o e)).trans q],u0.free,λb o e hx=>let#[o',q]:=u0.there b o e hx;#[o',(qA.2 b (ne b o e)).trans q],u0.lH,u0.kW,u0.lI];have I7:Inv X au O H5 {s6 with heap:=h7}:=I3.M9 (s':={s6 with heap:=h7}) (ch:=fp) I6.os u (I6.bX.but I6.free qA) I6.bare λb hb=>#[(f3 b hb).2.2.2.1,(f3 b hb).2.1,(f3 b hb).2.2.2.2.1,(f3 b hb).2.2.2.2.2];erw[.ref s2.heap.objs.size,H5,I7,Z,qn]
  ·erw[aZ (T.item (dg X N scope cl {s2 with heap:=h3} (upd H2 s2.heap.objs.size (.lst [])) fp au) rfl rfl rfl hc i [] s5 σ5 H5 _ I5 (ko pA) m9 go) λr s6 #[u,hr,h6]=>?_]
   subst hr;erw[aZ h6 λ_ s7 #[x,H7,I7,r7,y7,lJ,Aw]=>?_];have Bb:=I7.pinned (ko Aw) (T.obj _ _ lJ);erw[aZ (hg _ _ _ _ _ _ s7 σ5 H7 x u _ Bb r7 (step x H7 y7)) λ_ s8 #[σ8,H8,I8,q8]=>?_];have again:∀{s':af}{σ7:St}{H7:Hp},Inv (dg X N scope cl {s2 with heap:=h3} (upd H2 s2.heap.objs.size (.lst [])) fp au) ([]++qe fp s7.heap) σ7 H7 s'->(∃m',m'<n/\W (i+1) m' σ7 H7)->∃m,m<n/\∃i σ' H',Inv (dg X N scope cl {s2 with heap:=h3} (upd H2 s2.heap.objs.size (.lst [])) fp au) [] σ' H' s'/\tn i s'.heap/\(∀b∈fp,H' b=none)/\W i m σ' H':=λ{s' σ7 H7} J7 n7=>by let(m',hm,w7):=n7;erw[m',hm,i+1,σ7,H7,J7.ui,T.keep _ _ _ lJ λb hb o e=>(J7.pin (b,o) (gT _ (gT _ (oQ hb e)))).1,λb hb=>?_,w7];let(o,e,d):=T.obj _ _ lJ b hb;exact(J7.pin (b,o) (gT _ (gT _ (oQ hb e)))).2.1
   erw[aZ (DL _ _ _ _ _ _ s8 σ8 H8 _ I8 q8) λv9 s9 h9=>aZ h9 λagg uA vq=>?_];let(Dv,Li,YF,J2,oq,e2,Bc,T2,O3,xO,V,(k0,v0),YA):=vq;subst e2;have Fq:∀{H':Hp},(∀b∈Li,H' b=none)->∀b∈Li,kd (dg X N scope cl {s2 with heap:=h3} (upd H2 s2.heap.objs.size (.lst [])) fp au) ([]++qe fp s7.heap) H' b:=λ{H'} hn b hb=>#[hn b hb,(xO b hb).2];have U6:codeAny (model X.prog X.w) X.A (.compLoop (jY elt tg iter fF fk scope pos) 1 (.ref Dv) (.ref s2.heap.objs.size) (compEnvC scope cl h3.objs.size X.env)) (λr s₅=>match r with| .ok _=>∃m,m<n/\∃i σ' H',Inv (dg X N scope cl {s2 with heap:=h3} (upd H2 s2.heap.objs.size (.lst [])) fp au) [] σ' H' s₅/\tn i s₅.heap/\(∀b∈fp,H' b=none)/\W i m σ' H'| .error _=>False) uA:=by
    erw[abV (λk s'=>∃i σ' H',Inv (dg X N scope cl {s2 with heap:=h3} (upd H2 s2.heap.objs.size (.lst [])) fp au) ([]++qe fp s7.heap) σ' H' s'/\YF i s'.heap/\(∀b∈Li,H' b=none)/\V i k σ' H') ?_ k0 #[0,_,_,Bc,O3,λb hb=>(xO b hb).1,v0]];rintro k oJ ⟨i2,BE,jj,yh,O2,Vt,v11⟩;rcases YA i2 k BE jj v11 with⟨Zu,q2⟩|⟨go2,Zx⟩
    ·erw[aZ (T2.done (dg X N scope cl {s2 with heap:=h3} (upd H2 s2.heap.objs.size (.lst [])) fp au) rfl rfl rfl hc i2 _ oJ BE jj _ yh (Fq Vt) O2 Zu) λr fN #[hr,I12]=>?_]
     subst hr;erw[again I12 q2]
    ·erw[aZ (T2.item (dg X N scope cl {s2 with heap:=h3} (upd H2 s2.heap.objs.size (.lst [])) fp au) rfl rfl rfl hc i2 _ oJ BE jj _ yh (Fq Vt) O2 go2) λr fN #[u2,hr,vp]=>?_]
     subst hr;erw[aZ vp λ_ gp #[x2,Bf,I13,r13,Y6,Fs,a9v]=>?_];have aft:=I13.pinned (Fq a9v) (T2.obj _ _ Fs);erw[aZ (hg2 _ _ _ _ _ _ gp BE Bf x2 u2 _ aft r13 (Zx x2 Bf Y6)) λ_ fM #[BD,Be,I14,q14]=>?_];erw[aZ (he _ _ _ _ _ _ fM BD Be _ I14 q14) λyv ng #[y,H15,I15,r15,ys,xI,hz,Yf]=>?_];erw[aZ (D5 _ ng BD H15 (.ref s2.heap.objs.size) [y] (.ref s2.heap.objs.size) [yv] (λ_ MF=>∃m',m'<k/\V (i2+1) m' BD MF) I15 Z (.cons r15 .nil) #[_,ys,y,Z,Z,xI,hz,Yf]) λ_ pW #[v16,MF,ME,r16,q16]=>?_];let(m',hm,Ye):=q16;erw[m',hm,i2+1,BD,MF,ME.ui,T2.keep _ _ _ Fs λb hb o e=>(ME.pin (b,o) (gT _ (gT _ (oQ hb e)))).1,λb hb=>?_,Ye];let(o,e,d):=T2.obj _ _ Fs b hb;exact(ME.pin (b,o) (gT _ (gT _ (oQ hb e)))).2.1
   erw[abU U6 (T2.self _ 0 _ _ _ O3 U6)]
 erw[Xr loop (T.self _ 0 _ _ _ rV loop)]
section
variable {K:aa}
theorem a0s(n q:Nat):((List.range n).map λ_=>q).sum=n*q:=by induction n with |zero=>simp |succ n ih=>rw[N2,gJ,List.sum_append,Nat.add_mul,Nat.one_mul,ih];simp
theorem abR{a1 a2:Addr}{xs ys:List V}{b:Nat->Nat->Bool}{pP:TI}{te:TE}{Q:VK}{D:Addr}{H H0:Hp}(rest:St)(hx:aF K H a1 xs)(hy:aF K H a2 ys)(nw:Nw H H0 D (.lst []))(hz:xs.length*ys.length<=1000) (hw:∀x v H3 R,aH H H3->R (tY K a2) H3->pP (some x::v::rest) H3 R) (hs:∀i j x y H2 Q',xs[i]? =some x->ys[j]? =some y->aH H H2->(∀H3,aH H2 H3->Q' (.bl (b i j)) H3)->te (some x::some y::rest) H2 Q') (hq:∀H',aH H H'->H' D=some (.lst ((((List.range xs.length).flatMap λi=>(List.range ys.length).map λj=>b i j)).map V.bl))->Q (.ref D) H'):Xl (tY K a1) (gu 0) pP (gu 1) te Q D (none::none::rest) H0:=by
 have hD:=nw.no;have line:(1000:Nat)<sizeLine:=by decide
 erw[λi m O H2=>m=xs.length-i/\i<=xs.length/\aH H H2/\H2 D=some (.lst ((((List.range i).flatMap λi=>(List.range ys.length).map λj=>b i j)).map V.bl))/\∃v v',O=v::v'::rest,#[_,Z,fE _,nw.same,nw.at',none,none,Z],?_];rintro i m O H2 ⟨rfl,hi,s2,d2,v,v',rfl⟩;by_cases cB:i<xs.length
 ·erw[.inr #[#[xs,xs[i],hx.go s2,by simp[cB]],λx H3 yl=>?_]]
  let(e,yl):=yl;subst e;have ex:=yl xs (hx.go s2);erw[hw x v' _ _ s2 ?_];erw[λj k O H4=>k=ys.length-j/\j<=ys.length/\aH H H4/\H4 D=some (.lst ((((List.range i).flatMap λi=>(List.range ys.length).map λj=>b i j)++(List.range j).map (b i)).map V.bl))/\∃v',O=some x::v'::rest,#[_,Z,fE _,s2,by simpa using d2,v',Z],?_];rintro j k O H4 ⟨rfl,hj,s4,d4,v',rfl⟩;by_cases UX:j<ys.length
  ·erw[.inr #[#[ys,ys[j],hy.go s4,by simp[UX]],λy H5 yl=>?_]]
   let(e,yl):=yl;subst e;have ey:=yl ys (hy.go s4);erw[hs i j x y _ _ ex ey s4 λH6 s6=>?_];have d6:=s6 _ _ d4;erw[_,d6,?_,ys.length-(j+1),aO,Z,aO,λq o e=>?_,?_,_,Z]
   ·have hl:(((List.range i).flatMap λi=>(List.range ys.length).map λj=>b i j)).length=i*ys.length:=by rw[List.length_flatMap];simp only[ba,iz];erw[a0s _ _]
    have h1:i*ys.length+j<xs.length*ys.length:=by have h2:(i+1)*ys.length<=xs.length*ys.length:=MX _ cB;rw[Nat.add_mul,Nat.one_mul]at h2;omega
    rw[ba,cD,hl,ba,iz];omega
   ·rw[aY (eJ e hD)];erw[s6 _ _ (s4 _ _ e)]
   ·rw[cg,N2,gJ,gJ,gJ,gJ,EU];rfl
  ·have e:j=ys.length:=by omega
   subst e;erw[.inl #[#[ys,hy.go s4,bf _],xs.length-(i+1),aO,Z,aO,s4,?_,_,_,Z]];rw[N2,List.flatMap_append];simpa using d4
 ·have e:i=xs.length:=by omega
  subst e;erw[.inl #[#[xs,hx.go s2,bf _],hq H2 s2 d2]]
theorem acE{n m:Nat}{b:Nat->Nat->Bool}:(((List.range n).flatMap λi=>(List.range m).map λj=>b i j)).any id=(List.range n).any λi=>(List.range m).any λj=>b i j:=by rw[List.any_flatMap];congr 1;funext i;rw[List.any_map];rfl
end
end _L
namespace _P
section
variable {n:Nat}{own:Nat->Rat}{L:Nat->Option Nat}{r f:Int}
end
end _P
namespace _O
open _P _l _C
end _O
namespace _P
section
variable {n:Nat}{own zC:Nat->Rat}{L L':Nat->Option Nat}{r f:Int}
end
section
variable {n:Nat}{own zC q:Nat->Rat}{L:Nat->Option Nat}{r f r' f':Int}
theorem Ts{a a' b b':Rat}(h1:a'<=a)(h2:b'<=b):mn a' b'<=mn a b:=gD (cM (fb _ _) h1) (cM (gM _ _) h2)
end
end _P
namespace _O
open _P _l _C
theorem O4{a b:Int}(h0:0<=a)(h:a<=b):a^2<=b^2:=by rw[fS,fS,m5,lF,fS,fS,m5,lF];erw[wx h h h0 ao]
theorem BX{rate qc sp pV:Int}(h0:0<=pV)(h1:pV<=sp)(h2:0<=qc)(h3:qc<=rate):topR qc pV<=topR rate sp:=by unfold topR;rw[E8 az];erw[O4 (gU h0 h2) (wx h1 h3 h2 ao)]
theorem abM{j j':Int}{ns ms:List Int}(h0:0<=j)(h:j<=j')(a b:Rat)(V8:a<=b):mnO a (cornO j ns ms)<=mnO b (cornO j' ns ms):=by
 unfold cornO;by_cases hz:aG (fX ns ms)=0
 ·rw[bc hz,bc hz];erw[V8]
 ·rw[bj hz,bj hz]
  erw[Ts V8 ?_];have hp:(0:Int)<(aG (fX ns ms):Int)^2:=by rw[fS,fS,m5,lF];erw[jk ao ao]
  rw[E8 hp];erw[O4 (gU (gU h0 ao) ao) ?_];erw[Bz (Bz h ao) ao]
theorem acq{j j' rate qc:Int}{o p:Itm}(h0:0<=j)(h:j<=j')(r0:0<=rate)(hr:rate<=qc)(ho:OkI o)(hp:OkI p):betR j rate o p<=betR j' qc o p:=by cases o with |none=>rw[AR,AR];erw[iI] |some q=>cases p with |none=>rw[vQ,vQ];erw[iI] |some q'=>let(ns,sp):=q;let(ms,sq):=q';let(_,a,_):=ho ns sp rfl;let(_,b,_):=hp ms sq rfl;erw[abM h0 h _ _ (Ts (BX ao (df _) r0 hr) (BX ao (df _) r0 hr))]
theorem a2f{j j' rate qc:Int}{os:List Itm}(h0:0<=j)(h:j<=j')(r0:0<=rate)(hr:rate<=qc)(ok:OkIs os):∀i,ownF j rate os i<=ownF j' qc os i |0=>iI |i+1=>acq h0 h r0 hr (ok i) (ok (i+1))
end _O
namespace _P
section
variable {n:Nat}{own zC:Nat->Rat}{L L':Nat->Option Nat}{r f:Int}{c:Nat}
end
end _P
namespace _O
open _P
section
variable (j rate:Int)(os1 os2:List Itm)
end
end _O
namespace _P
section
variable {n:Nat}{own:Nat->Rat}{L:Nat->Option Nat}{r f:Int}
theorem Lk{g:Nat->Rat}{i:Nat}(hi:i<=n):fl n L f g i<=g i:=by
 rcases MY i n with h|h
 ·cases e:L i with |none=>rw[qI h e];erw[iI] |some m=>rw[o6 h e];erw[fb _ _]
 ·have:i=n:=by lia
  subst this;rw[qJ];erw[iI]
theorem acY(hr:0<=r)(hf:0<=f):∀i,i<=n->Rz (fl n L f own) L r i=gc n own L r f i:=by
 erw[a1A hr hf #[λi hi=>cM (Er i) (Lk hi),λi m hi h=>?_,λi m hi h=>?_] ?_]
 ·rw[oo h];erw[gM _ _]
 ·rw[oo h]
  rcases sD (fl n L f own (i+1)) (Rz (fl n L f own) L r i+((r*(m:Int):Int):Rat))with e|e
  ·rw[e]
   erw[cM (Er i) ?_];rw[o6 hi h];erw[gM _ _]
  ·rw[e]
   erw[uY (uY iI (xE hr)) (xE hf)]
 ·intro q' k
  have h1:∀i,i<=n->q' i<=fl n L f own i:=by
   erw[down ?_ ?_]
   ·rw[qJ];erw[k.own n (bf _)]
   ·intro i hi ih
    cases e:L i with |none=>rw[qI hi e];erw[k.own i ao] |some m=>rw[o6 hi e];erw[gD (k.own i ao) (cM (k.Lo i m hi e) (add_r ih))]
  intro i;induction i with |zero=>erw[λhi=>h1 0 hi] |succ i ih=>intro hi;cases e:L i with |none=>rw[ye e];erw[h1 _ hi] |some m=>rw[oo e];erw[gD (h1 _ hi) (cM (k.rise i m ao e) (add_r (ih ao)))]
end
end _P
namespace _R
open _P _b _l
open _O (topR ownF leadF Itm OkIs)
theorem Ea{n:Nat}{a b:Int}(hb:b≠0)(h2:b.natAbs<2^n):(Rat.divInt a b).den<2^n:=by obtain⟨-,e⟩:=K1 (a:=a) hb;have l2:=_A.U5 (p:=a) hb;omega
structure Dd(D:Nat)(q:Rat):Prop where
 nn:0<=q
 den:q.den<2^D
theorem Dd.mono{D E:Nat}{q:Rat}(h:Dd D q)(l:D<=E):Dd E q:=#[h.nn,gR h.den (wm az l)]
theorem Dd.bd{D:Nat}{q:Rat}(h:Dd D q)(hl:q<=2000):Bd (D+11) q:=by
 have h1:=Rat.num_nonneg.mpr h.nn;have DP:¬((2000:Rat)<q):=EI.mpr hl;rw[Rat.lt_iff]at DP;have e1:(2000:Rat).num=2000:=rfl;have e2:(2000:Rat).den=1:=rfl;rw[e1,e2]at DP;have h2:q.num<=2000*(q.den:Int):=by lia
 erw[?_,gR h.den (wm az ao)];have h3:=h.den;have h4:q.num.natAbs<=2000*q.den:=by lia
 have h5:(2:Nat)^(D+11)=2^D*2048:=by rw[Nat.pow_add]
 rw[h5];have h6:2000*q.den<2000*2^D:=Nat.mul_lt_mul_of_pos_left h3 az
 lia
theorem Dd.mn{D:Nat}{a b:Rat}(h1:Dd D a)(h2:Dd D b):Dd D (mn a b):=by rcases sD a b with e|e<;>rw[e]<;>assumption
theorem Dd.add{D:Nat}{q:Rat}(h:Dd D q){z:Int}(hz:0<=z):Dd D (q+(z:Rat)):=by
 erw[uY h.nn (by have:=Bl.mpr hz;erw[this]),?_];rw[add_div,Rat.num_intCast,Rat.den_intCast];have e:(q.den:Int)*((1:Nat):Int)=(q.den:Int):=by lia
 rw[e];have hd:=q.den_pos;erw[Ea ao (by have:=h.den;lia)]
theorem W7{a b:Int}(ha:0<=a)(hb:0<b):0<=Rat.divInt a b:=(yo hb).mpr ha
theorem div_pos{a b:Int}(ha:0<a)(hb:0<b):0<Rat.divInt a b:=by
 have h0:=W7 (EX ha) hb;erw[MN h0 λe=>?_];have h2:0<=Rat.divInt (-a) b:=by rw[<-Rat.neg_divInt,<-e];decide
 have:=(yo hb).mp h2
 lia
theorem Dd.mul{D m:Nat}{q:Rat}(h:Dd D q){a s:Int}(ha:0<=a)(hs:0<s)(hm:s.natAbs<2^m):Dd (D+m) (q*Rat.divInt a s):=by erw[Rat.mul_nonneg h.nn (W7 ha hs),?_];have h1:(Rat.divInt a s).den<2^m:=Ea ao hm;rw[mul_div];have hd:=q.den_pos;have hd2:=(Rat.divInt a s).den_pos;erw[Ea (qR _ _) ?_];rw[jD];erw[sC (by have:=h.den;lia) ao]
theorem F7(rate sp:Int):Dd 14 (topR rate sp):=#[_O.rH _ _,Ea az az]
theorem BW{rate sp:Int}(h1:1<=sp)(h2:sp<=20)(h3:10<=rate)(h4:rate<=200):topR rate sp<=1600:=by
 have e:(1600:Rat)=Rat.divInt 16000000 10000:=by decide+kernel
 rw[e];refine(_C.E8 az).mpr ?_;have hp:sp*rate<=20*200:=wx h2 h4 ao ao;have DI:0<=sp*rate:=gU ao ao;rw[fS,fS,m5,lF];have:=wx hp hp DI az
 lia
theorem a2c{j rate:Int}{os:List Itm}(h1:1<=j)(h2:j<=50)(h3:10<=rate)(h4:rate<=200)(ho:OkIs os)(i:Nat):Dd 64 (ownF j rate os i):=#[_O.zA _ _ _ _,(_O.zB h1 h2 h3 h4 ho i).den]
theorem a9A{D n:Nat}{g:Nat->Rat}{L:Nat->Option Nat}{f:Int}(hf:0<=f)(h:∀i,i<=n->Dd D (g i)):∀i,i<=n->Dd D (fl n L f g i):=by
 erw[down ?_ ?_]
 ·rw[qJ];erw[h n (bf _)]
 ·intro i hi ih
  cases e:L i with |none=>rw[qI hi e];erw[h i ao] |some m=>rw[o6 hi e];exact(h i ao).mn (ih.add (gU hf ao))
theorem aco{j rate:Int}{o p:Itm}(h3:10<=rate)(h4:rate<=200)(ho:_O.OkI o):_O.betR j rate o p<=1600:=by cases o with |none=>rw[_O.AR];decide+kernel |some q=>cases p with |none=>rw[_O.vQ];decide+kernel |some q'=>let(ns,sp):=q;let(ms,sq):=q';obtain⟨-,a1,a2⟩:=ho ns sp rfl;have ht:=BW a1 a2 h3 h4;show _O.mnO (mn (topR rate sp) (topR rate sq)) (_O.cornO j ns ms)<=1600;cases _O.cornO j ns ms with |none=>erw[cM (fb _ _) ht] |some c=>erw[cM (fb _ _) (cM (fb _ _) ht)]
theorem a2a{j rate:Int}{os:List Itm}(h3:10<=rate)(h4:rate<=200)(ho:OkIs os):∀i,ownF j rate os i<=1600 |0=>by show(0:Rat)<=1600;decide+kernel |i+1=>aco h3 h4 (ho i)
abbrev pH:=Option (Rat × Int × Int)
def oN(r f:Int)(pc top R:Rat)(left:Int):pH->Rat |none=>mn (mn (pc+(r:Rat)) top) (R+((f*(2*left-1):Int):Rat)) |some (sq,st,gn)=>mn (mn (mn (pc+(r:Rat)) top) (R+((f*(2*left-1):Int):Rat))) (sq*Rat.divInt (2*(st-gn-1)+1) (2*st))
def uP(r f:Int)(pc top R:Rat)(left:Int):pH->Rat |none=>mn (mn (pc+((2*r:Int):Rat)) top) (R+((2*f*(left-1):Int):Rat)) |some (sq,st,gn)=>mn (mn (mn (pc+((2*r:Int):Rat)) top) (R+((2*f*(left-1):Int):Rat))) (sq*Rat.divInt (st-gn-1) st)
def JC:pH->pH |none=>none |some (sq,st,gn)=>some (sq,st,gn+1)
def tS(D:Nat)(pc:Rat):pH->Prop |none=>True |some (sq,st,gn)=>0<=gn/\gn<=st/\st<=1000/\Dd D sq/\sq<=2000/\(st=0->pc=0)/\pc*(st:Rat)<=sq*((st-gn:Int):Rat)
def Halt(pc:Rat)(bG:pH):Prop:=bG≠none/\pc=0
theorem zN{D:Nat}{pc:Rat}{sq:Rat}{st gn:Int}(h:tS D pc (some (sq,st,gn)))(hp:0<=pc)(hn:¬Halt pc (some (sq,st,gn))):gn<st/\0<sq/\0<pc:=by
 let(g0,g1,g2,hd,hl,hz,hh):=h;have Ab:0<pc:=MN hp λe=>hn #[by simp,e.symm];have nF:gn<st:=by
  rcases Int.lt_or_le gn st with h|h
  ·erw[h]
  ·have e:st-gn=0:=by lia
   rw[e]at hh;have e0:sq*((0:Int):Rat)=0:=Rat.mul_zero sq;rw[e0]at hh;exfalso;rcases Int.lt_or_le 0 st with h3|h3
   ·have h4:(0:Rat)<(st:Rat):=MQ.mpr h3
    have h5:=Rat.mul_pos Ab h4;erw[absurd (Std.lt_of_lt_of_le h5 hh) (Rat.lt_irrefl)]
   ·rw[hz ao]at Ab;erw[absurd Ab (Rat.lt_irrefl)]
 erw[nF,?_,Ab];erw[MN hd.nn λe=>?_];rw[<-e,Rat.zero_mul]at hh;have h4:(0:Rat)<(st:Rat):=MQ.mpr (show(0:Int)<st by lia);erw[absurd (Std.lt_of_lt_of_le (Rat.mul_pos Ab h4) hh) (Rat.lt_irrefl)]
section
variable {D:Nat}{r f:Int}{pc top R:Rat}{left:Int}{bG:pH}
theorem abd:uP r f pc top R left bG<=top:=by cases bG with |none=>erw[cM (fb _ _) (gM _ _)] |some q=>let(sq,st,gn):=q;erw[cM (fb _ _) (cM (fb _ _) (gM _ _))]
theorem Tw:oN r f pc top R left bG<=top:=by cases bG with |none=>erw[cM (fb _ _) (gM _ _)] |some q=>let(sq,st,gn):=q;erw[cM (fb _ _) (cM (fb _ _) (gM _ _))]
theorem abe(hr:0<=r)(hf:0<=f)(hl:1<=left)(hp:Dd (D+10) pc)(ht:Dd (D+10) top)(hR:Dd (D+10) R)(hs:tS D pc bG)(hn:¬Halt pc bG):Dd (D+10) (uP r f pc top R left bG):=by have h1:=(hp.add (z:=2*r) ao).mn ht;have h2:=hR.add (z:=2*f*(left-1)) (gU ao ao);cases bG with |none=>erw[h1.mn h2] |some q=>let(sq,st,gn):=q;let(a,b,c):=zN hs hp.nn hn;let(g0,g1,g2,hd,hl,hz,hh):=hs;exact(h1.mn h2).mn (hd.mul (m:=10) ao ao ao)
theorem Tz(hr:0<=r)(hf:0<=f)(hl:1<=left)(hp:Dd (D+10) pc)(ht:Dd (D+10) top)(hR:Dd (D+10) R)(hs:tS D pc bG)(hn:¬Halt pc bG):Dd (D+11) (oN r f pc top R left bG):=by have h1:=((hp.add (z:=r) ao).mn ht).mono (show D+10<=D+11 by lia);have h2:=(hR.add (z:=f*(2*left-1)) (gU ao ao)).mono (show D+10<=D+11 by lia);cases bG with |none=>erw[h1.mn h2] |some q=>let(sq,st,gn):=q;let(a,b,c):=zN hs hp.nn hn;let(g0,g1,g2,hd,hl,hz,hh):=hs;exact(h1.mn h2).mn (hd.mul (m:=11) ao ao ao)
theorem add_pos{x:Rat}{z:Int}(hx:0<=x)(hz:0<z):0<x+(z:Rat):=by have h1:((0:Int):Rat)<(z:Rat):=MQ.mpr hz;have h2:x+((0:Int):Rat)<x+(z:Rat):=Rat.add_lt_add_left.mpr h1;rw[show((0:Int):Rat)=0 from Z,Bn]at h2;erw[Std.lt_of_le_of_lt hx h2]
theorem JQ{a b:Rat}(ha:0<a)(hb:0<b):0<mn a b:=by rcases sD a b with e|e<;>rw[e]<;>assumption
theorem Tx(hr:1<=r)(hf:1<=f)(hl:1<=left)(hp:0<=pc)(ht:0<top)(hR:0<=R)(hs:tS D pc bG)(hn:¬Halt pc bG):0<oN r f pc top R left bG:=by have h1:=JQ (JQ (add_pos hp (show 0<r by lia)) ht) (add_pos hR (show 0<f*(2*left-1)from jk ao ao));cases bG with |none=>erw[h1] |some q=>let(sq,st,gn):=q;let(a,b,c):=zN hs hp hn;let(g0,g1,g2,hd,hl,hz,hh):=hs;erw[JQ h1 (Rat.mul_pos b (div_pos ao ao))]
theorem W6(a:Int):Rat.divInt a 1=(a:Rat):=by
 conv=>rhs;rw[<-wj (a:Rat)]
 rfl
theorem abz{a s:Int}(hs:0<s):Rat.divInt a s*(s:Rat)=(a:Rat):=by
 have e:(s:Rat)=Rat.divInt s 1:=by rw[W6]
 rw[e,Rat.divInt_mul_divInt _ _,yC,Nd a s];have e2:Rat.divInt (s*a) s=Rat.divInt (s*a) (s*1):=by rw[yC]
 rw[e2,Rat.divInt_mul_left ao,W6]
theorem Zs(hs:tS D pc bG)(hp:0<=pc)(hn:¬Halt pc bG):tS D (uP r f pc top R left bG) (JC bG):=by cases bG with |none=>trivial |some q=>
 let(sq,st,gn):=q;let(a,b,c):=zN hs hp hn;let(g0,g1,g2,hd,hl,hz,hh):=hs;erw[ao,ao,g2,hd,hl,λe=>by lia,?_];have h1:uP r f pc top R left (some (sq,st,gn))<=sq*Rat.divInt (st-gn-1) st:=gM _ _;have h2:(0:Rat)<=(st:Rat):=MO.mpr ao;have h3:=Rat.mul_le_mul_of_nonneg_right h1 h2;have h4:sq*Rat.divInt (st-gn-1) st*(st:Rat)=sq*((st-(gn+1):Int):Rat):=by
  rw[Rat.mul_assoc,abz ao];congr 2
  lia
 rw[h4]at h3;erw[h3]
end
end _R
namespace _R
open _P _b _l
section
variable {b top R A A' F F' r f p:Rat}
theorem a23(hr:0<=r)(hf:0<=f)(hA:A'=A+2*r)(hF:F=F'+2*f)(hp:p=mn (mn (b+A) top) (R+F)):mn (mn (p+2*r) top) (R+F')=mn (mn (b+A') top) (R+F'):=by subst hp hA hF;unfold mn;grind
theorem a25{B G:Rat}(hr:0<=r)(hf:0<=f)(hB:B=A+r)(hG:F=G+f)(hp:p=mn (mn (b+A) top) (R+F)):mn (mn (p+r) top) (R+G)=mn (mn (b+B) top) (R+G):=by subst hp hB hG;unfold mn;grind
theorem YQ{e B G T:Rat}(he:e=mn R (b+T))(hB:B<=T)(hG:0<=G):mn (mn (b+B) top) (e+G)=mn (mn (b+B) top) (R+G):=by subst he;unfold mn;grind
theorem a27{e T:Rat}(he:e=mn R (b+T))(ht:R<=top):mn (mn (b+T) top) (R+0)=e:=by subst he;unfold mn;grind
theorem a22(h1:b<=top)(h2:b<=R+F):b=mn (mn (b+0) top) (R+F):=by unfold mn;grind
end
open _O (Itm atO betR ownF leadF topR)
theorem a9z{m i:Nat}{g g':Nat->Rat}{L L':Nat->Option Nat}{f:Int}(hg:∀k,1<=k->k<=m->g' k=g (i+k))(hL:∀k,k<m->L' k=L (i+k)):∀k,k<=m->1<=k->fl m L' f g' k=fl (i+m) L f g (i+k):=by
 erw[down ?_ ?_]
 ·intro h;rw[qJ,qJ];erw[hg m h (bf _)]
 ·intro k hk ih h
  have e:=ih aO;cases hl:L (i+k)with |none=>rw[qI hk (by rw[hL k hk];erw[hl]),qI aO hl];erw[hg k h aO] |some c=>rw[o6 hk (by rw[hL k hk];erw[hl]),o6 aO hl,e,hg k h aO];rfl
theorem Mj(os:List Itm)(i k:Nat):atO (os.drop i) k=atO os (i+k):=by unfold atO;rw[XN]
theorem a2b(j rate:Int)(os:List Itm)(i k:Nat):ownF j rate (os.drop i) (k+1)=ownF j rate os (i+k+1):=by show betR j rate (atO (os.drop i) k) (atO (os.drop i) (k+1))=betR j rate (atO os (i+k)) (atO os (i+k+1));rw[Mj,Mj];rfl
theorem a5V(os:List Itm)(i k:Nat):leadF (os.drop i) k=leadF os (i+k):=by unfold leadF;rw[Mj]
theorem a0V{f j rate:Int}{os:List Itm}{i:Nat}(h:i<os.length):fl (os.drop i).length (leadF (os.drop i)) f (ownF j rate (os.drop i)) 1=fl os.length (leadF os) f (ownF j rate os) (i+1):=by have hl:(os.drop i).length=os.length-i:=Bv;have e:=a9z (m:=os.length-i) (i:=i) (g:=ownF j rate os) (g':=ownF j rate (os.drop i)) (L:=leadF os) (L':=leadF (os.drop i)) (f:=f) (λk h1 h2=>by obtain⟨k',rfl⟩:∃k',k=k'+1:=#[k-1,aO];erw[a2b j rate os i k']) (λk _=>a5V os i k) 1 aO (bf _);rw[hl,e,show i+(os.length-i)=os.length by omega]
theorem Sx{j rate:Int}{os:List Itm}{i:Nat}{ns:List Int}{sp:Int}(h:os[i]? =some (some (ns,sp))):ownF j rate os (i+1)<=topR rate sp:=by show betR j rate (atO os i) (atO os (i+1))<=_;rw[_O.og h];cases atO os (i+1)with |none=>rw[_O.vQ];erw[_O.rH _ _] |some q=>let(ms,sq):=q;show _O.mnO (mn (topR rate sp) (topR rate sq)) (_O.cornO j ns ms)<=_;cases _O.cornO j ns ms with |none=>erw[fb _ _] |some c=>erw[cM (fb _ _) (fb _ _)]
theorem Sw{j rate:Int}{os:List Itm}{i:Nat}{ns:List Int}{sp:Int}(h:os[i]? =some (some (ns,sp))):ownF j rate os i<=topR rate sp:=by cases i with |zero=>erw[_O.rH _ _] |succ i=>show betR j rate (atO os i) (atO os (i+1))<=_;rw[_O.og h];cases atO os i with |none=>rw[_O.AR];erw[_O.rH _ _] |some q=>let(ms,sq):=q;show _O.mnO (mn (topR rate sq) (topR rate sp)) (_O.cornO j ms ns)<=_;cases _O.cornO j ms ns with |none=>erw[gM _ _] |some c=>erw[cM (fb _ _) (gM _ _)]
theorem a29{j rate:Int}{os:List Itm}{i:Nat}(h:os[i]? =some none):ownF j rate os i=0/\ownF j rate os (i+1)=0:=by
 erw[?_,?_]
 ·cases i with |zero=>rfl |succ i=>show betR j rate (atO os i) (atO os (i+1))=0;rw[_O.og h,_O.vQ]
 ·show betR j rate (atO os i) (atO os (i+1))=0
  rw[_O.og h,_O.AR]
end _R
namespace _L
open PySem PySem.Spec PyProof.Rows
section
variable {X:Cx}
end
theorem L9{K:aa}{mg:ck}{x z:Str}{t:Tok}{h:Heap}(X:K.In h)(G:h.Ns mainGlobals mg)(a:PySem.W.nsIn K mainGlobals x=some (some (.str z t))):GV mg x (.str z):=#[_,Bo X G a,t,Z]
theorem abC(f:Array Value->Array Value)(o:Obj):(o.mapFields f).dict=o.dict:=by let(c,d,dt,sl):=o;cases dt<;>rfl
def TrD(h B:Heap)(ex:Addr)(cls:Value)(dx:Option Addr)(fl:Value):Prop:=∃ob fs tb ot ts,h.get? ex=some ob/\ob.cls=cls/\ob.dict=dx/\ob.data= .fields fs/\fs[1]? =some (.ref tb)/\B.get? tb=none/\tb≠ex/\h.get? tb=some ot/\ot.data= .fields ts/\ts[3]? =some fl/\fs[2]? =some .none
def r9(B:Heap)(l:List Env)(ex:Addr)(cls:Value)(dx:Option Addr)(fl:Value)(h:Heap):Prop:=B.StaysIn h/\B.get? ex=none/\h.FunFrames B l/\TrD h B ex cls dx fl
section
variable {M:Model}{A:ai}{E:Value->af->Prop}{s:af}{B:Heap}{env:Env}{outer:List Env}{L ex:Addr}{ob:Obj}{fs:Array Value}{head:Value}{nx:Bool}{Q:Unit->af->Prop}{cls fl:Value}{dx:Option Addr}
theorem aba(hA:A.frames=some (env::outer))(ff:s.heap.FunFrames B (env::outer))(hL:env.frame=some L)(ho:s.heap.get? ex=some ob)(st:B.StaysIn s.heap)(hB:B.get? ex=none)(hd:ob.data= .fields fs)(hz:1<fs.size)(jT:fs[2]? =some .none) (q:∀h',r9 B (env::outer) ex ob.cls ob.dict (rawInt L) h'->s.heap.UpToSlots h'->Q () {s with heap:=h'}): wpAny M A (do let a<-frameOf env;let pl<-entryPlaceOf L nx;let b<-EntryCells.newEntry head a .none (rawInt L) .none pl;setField (.ref ex) 1 b) Q E s:=by
 have zR:ex∉(env::outer).filterMap (·.frame):=λhm=>by let(_,o,e1,nf):=ff.mem hm;rw[ho]at e1;cases e1;erw[nf fs hd]
 erw[aM (wpAny_frameOf_fun hA ff hL λg1 k1=>aM (wpAny_entryPlaceOf λpl hp=>?_))];unfold EntryCells.newEntry newFields;erw[aM (pL ?_ (hp.sizeOk5 _ _ _ _ _))];have o1:g1.get? ex=some ob:=(k1.2.1 ex zR).trans ho;have Ft:B.StaysIn g1:=λb o e=>(k1.2.1 b λhm=>by rw[(ff.mem hm).1]at e;cases e).trans (st b o e);generalize hT:({cls:=.type "traceback",dict:=none,data:=.fields ([head,.ref L,.none,rawInt L,.none]++(if pl.isEmpty then List.replicate 6 Value.none else pl)).toArray}:Obj)=T;have o2:(g1.push T).get? ex=some ob:=cN T o1;erw[EB o2 hd hz (q _ ?_ ?_)];all_goals have ne:g1.objs.size≠ex:=EM (cH o1)
 all_goals have keep:∀b o,b≠ex->g1.get? b=some o->((g1.push T).update ex (Obj.mapFields (·.setIfInBounds 1 (Value.ref g1.objs.size)))).get? b=some o:=λb o nb e=>by rw[BA _ _ (kI nb)];erw[cN _ e]
 all_goals have sy:∀b o,s.heap.get? b=some o->(∀vs,o.data≠ .fields vs)->b≠ex:=λb o e nf z=>by rw[z,ho]at e;cases e;erw[nf fs hd]
 ·have d3:=EL hd (·.setIfInBounds 1 (Value.ref g1.objs.size))
  have o3:=Nf (Obj.mapFields (·.setIfInBounds 1 (Value.ref g1.objs.size))) o2 (XC d3);erw[λb o e=>keep b o (λz=>by rw[z,hB]at e;cases e) (Ft b o e),hB,ff.of_keeps λb o e nf=>?_,?_]
  ·let(sl,e1):=k1.2.2 b o e
   erw[_,keep b _ (sy b o e nf) e1,Z]
  ·erw[_,_,g1.objs.size,T,_,o3,Obj.cls_mapFields _ _,abC _ _,d3,by simp[hz],Ft.fresh,ne,?_,by rw[<-hT],?_]
   ·rw[BA _ _ (kI ne)];erw[eZ g1 (by rw[<-hT];rfl)]
   ·erw[?_,by simpa using jT]
    first|(simp;done)|(rcases hp with rfl|⟨_,_,_,_,_,_,_,rfl⟩<;>simp)
 ·intro b o e nf
  let(sl,e1):=k1.2.2 b o e;erw[sl,keep b _ (sy b o e nf) e1]
theorem a4v(hA:A.frames=some (env::outer))(hL:env.frame=some L)(x:r9 B (env::outer) ex cls dx .none s.heap) (q:∀h',r9 B (env::outer) ex cls dx (rawInt L) h'->s.heap.UpToSlots h'->Q () {s with heap:=h'}):wpAny M A (noteFrame (.ref ex) env) Q E s:=by
 let(st,hB,ff,ob,fs,tb,ot,ts,ho,rfl,rfl,hd,h1,DN,nt,ht,tm,h3,jT):=x;unfold noteFrame;simp only[hL];erw[aM (ki ho hd h1 ?_)];rw[bc (show(Value.ref tb !=Value.none)=true from by simp)];erw[aM (ki ht tm h3 ?_)];rw[bj (show¬((Value.none==rawInt L)=true)from by simp[rawInt])];erw[aM (EB ht tm (XW.mp h3).1 ?_)];have other:∀b,b≠tb->(s.heap.update tb (Obj.mapFields (·.setIfInBounds 3 Value.none))).get? b=s.heap.get? b:=λb nb=>BA _ _ (kI nb);have sy:∀b o,s.heap.get? b=some o->(∀vs,o.data≠ .fields vs)->b≠tb:=λb o e nf z=>by rw[z,ht]at e;cases e;erw[nf ts tm]
 erw[aba (s:={s with heap:=s.heap.update tb (Obj.mapFields (·.setIfInBounds 3 Value.none))}) hA (ff.of_keeps λb o e nf=>#[o,(other b (sy b o e nf)).trans e,Z]) hL ((other ex (kI nt)).trans ho) (λb o e=>(other b λz=>by rw[z,DN]at e;cases e).trans (st b o e)) hB hd (XW.mp h1).1 jT λh' y up=>q h' y λb o e nf=>up b o ((other b (sy b o e nf)).trans e) nf]
theorem a9x{l:List Env}(x:r9 B l ex cls dx fl s.heap)(q:∀h',r9 B l ex cls dx .none h'->s.heap.UpToSlots h'->Q () {s with heap:=h'}):wpAny M A (setFlight (.ref ex) none) Q E s:=by
 let(st,hB,ff,ob,fs,tb,ot,ts,ho,hc,hx,hd,h1,DN,nt,ht,tm,h3,jT):=x;have z3:3<ts.size:=(XW.mp h3).1;have other:∀b,b≠tb->(s.heap.update tb (Obj.mapFields (·.setIfInBounds 3 ((none:Option Addr).elim Value.none λf=>rawInt f)))).get? b=s.heap.get? b:=λb nb=>BA _ _ (kI nb);have sy:∀b o,s.heap.get? b=some o->(∀vs,o.data≠ .fields vs)->b≠tb:=λb o e nf z=>by rw[z,ht]at e;cases e;erw[nf ts tm]
 unfold setFlight;erw[aM (ki ho hd h1 ?_)];rw[bc (show(Value.ref tb !=Value.none)=true from by simp)];erw[EB ht tm z3 (q _ #[λb o e=>(other b λz=>by rw[z,DN]at e;cases e).trans (st b o e),hB,ff.of_keeps λb o e nf=>#[o,(other b (sy b o e nf)).trans e,rfl],?_] λb o e nf=>#[o.slots,(other b (sy b o e nf)).trans e])];erw[ob,fs,tb,_,_,(other ex (kI nt)).trans ho,hc,hx,hd,h1,DN,nt,Nf _ ht (XC (EL tm _)),EL tm _,by simp[z3],jT]
theorem a5T(hA:A.frames=some (env::outer))(hL:env.frame=some L)(x:r9 B (env::outer) ex cls dx .none s.heap) (q:∀h',r9 B outer ex cls dx .none h'->s.heap.UpToSlots h'->Q () {s with heap:=h'}):wpAny M A (leaving env (.ref ex)) Q E s:=by unfold leaving;erw[aM (a4v hA hL x λh1 x1 u1=>a9x x1 λh2 x2 u2=>q h2 ?_ (u1.trans u2))];let(a,b,(_,_,c),d):=x2;erw[a,b,c,d]
end
end _L
namespace _L
open PySem PySem.Spec PyProof.Rows
open Builtin Builtin.ObjectAttr
section
variable {prog:ag}{w:World}{A:ai}{E:Value->af->Prop}{s:af}{K:aa}{x C:Addr}{ox:Obj}{fs:Array Value}{name:Str}{v:Value}{Q:Unit->af->Prop}
end
end _L
namespace _L
open PySem PySem.Spec PyProof.Rows
section
variable {X:Cx}{o e value:Expr}{f:Str}{pos pos' pQ:Pos}{ta tv:TE}
end
section
variable {prog:ag}{w:World}{A:ai}{E:Value->af->Prop}{h:Heap}{g:Array GenState}{d:Drawn}{t:Nat}{os:OsState}
variable {nm q:Str}{C N fI:Addr}{bs bm WE:List Value}{a80:Bool}{sn:List Str}{sub:List Value}{ab:Bool}{col:Option Bool}{dd:Option Addr}{k0 k1 k2 k3 k5:Option Value}{B newId UC:String}{mN:ck}{rest:List Value}{oI:Obj}
end
section
variable {M:Model}{A:ai}{E:Value->af->Prop}{env:Env}{nm q:Str}{C N:Addr}{bs bm:List Value}{a80:Bool}{sn:List Str}{sub:List Value}{ab:Bool}{col:Option Bool}{dd:Option Addr}{k0 k1 k2 k3 k5:Option Value}{newId:String}
end
def rk(P:ag)(w:World):kg:=λouter H s E e s'=>∃(ex:Addr)(cls:Value)(dx:Option Addr)(H':Hp)(B:Heap),e= .ref ex/\s'.os=s.os/\AllBare s'.gens/\r9 B outer ex cls dx .none s'.heap/\Fl P w outer H s.heap ex H' B s'.heap/\E cls dx H'
section
variable {P:ag}{w:World}{K:aa}{mg:ck}{aw:Heap}{N:List Str}{qual:Str}{scope:Scope}{f:Addr}{cd:Value}{A:ai}{outer:List Env}{s:af}{H:Hp}{E:XK}{au:List (Addr×Obj)}{O:St}{H1:Hp}{s1:af}{ex:Addr}{C:Addr}{dx:Addr}
end
section
variable {X:Cx}{x:Str}{C fI:Addr}{WE:List Value}{newId UC B:String}{e:Expr}{t:TA}{np dE pos:Pos}{k:Nat}{fd:FuncData}{ps:List Str}{sp:Sp}
end
section
variable {X:Cx}{i:Nat}{n y:Str}{Dc:Addr}{Mc:List Value}{newD:String}{body Fh:List Stmt}{b0:Stmt}{np A9 pos:Pos}{tb:XK->TS}{th:TS}{Cs:Addr->Prop}
end
end _L
namespace _L
open PySem PySem.Spec PyProof.Rows PySem.W
section
variable {prog:ag}{w:World}{A:ai}{E:Value->af->Prop}{h:Heap}{g:Array GenState}{d:Drawn}{t:Nat}{os:OsState}{K:Frag}{x C:Addr}{ox:Obj}{od:Obj}{f:Str}{v:Value}
end
section
variable {X:Cx}{e:Expr}{f:Str}{pos:Pos}{ta:TE}
end
end _L
namespace _L
open PySem PySem.Spec PyProof.Rows
def yi(P:ag)(w:World)(K:aa)(mg:ck)(aw:Heap)(x:Str)(k:Nat)(sp:Sp):Prop:=∃f fd ps,fw P w K mg aw (rk P w) k f fd ps sp/\mg x=some (.ref f)/\PySem.W.keepIn K (.ref f)=true/\Binds K fd ps []
section
variable {X:Cx}{k:Nat}{x:Str}{p pos:Pos}{e:Expr}{es:List Expr}{t:TA}{sp:Sp}
end
section
variable {P:ag}{w:World}{K:aa}{mg:ck}{aw:Heap}{N:List Str}{qual:Str}{scope:Scope}{f:Addr}{cd:Value}{A:ai}{outer:List Env}{s:af}{H:Hp}{E E0:XK}
theorem a21(he:∀cls dx H',E cls dx H'->E0 cls dx H'):Passes (rk P w) (mQ (rk P w) P w K mg aw N qual scope f cd A outer s H E0) E:=by
 intro au O H1 s1 e s2 I hx;let(ex,cls,dx,H',B,rfl,ho,hg,Ay,F,q):=hx;have Ay:r9 B (envOfC qual scope s.heap.objs.size f cd::outer) ex cls dx .none s2.heap:=Ay;show wpAny (model P w) (A.deeper (envOfC qual scope s.heap.objs.size f cd)) (leaving (envOfC qual scope s.heap.objs.size f cd) (.ref ex)) _ _ _;erw[a5T (L:=s.heap.objs.size) I.ok.frames Z Ay λh' x1 x2=>?_];have F2:=F.step Ay.1 x1.1 x2 Ay.2.2.1;have sub:∀b,b∈fW outer->b∈fW (envOfC qual scope s.heap.objs.size f cd::outer):=λb hb=>by let(env,h1,h2):=Bt.mp hb;erw[Bt.mpr #[env,.tail _ h1,h2]]
 have zR:∀b o,s.heap.get? b=some o->b∉fW outer->b∉fW (envOfC qual scope s.heap.objs.size f cd::outer):=λb o e hb hm=>by
  let(env,h1,h2):=Bt.mp hm;rcases cO.mp h1 with z|h1
  ·subst z
   have e1:s.heap.objs.size=b:=eX h2;have e2:=cH e;rw[<-e1]at e2;erw[absurd e2 (yu _)]
  ·erw[hb (Bt.mpr #[env,h1,h2])]
 have nx:∀b:Addr,b∉([]:List Addr):=λ_=>iu;erw[ex,cls,dx,H',B,Z,ho.trans I.os,hg,x1,#[#[λb o e n hb _=>?_,λb o e n hb _=>?_,λb o e n _=>?_,λb o e _=>?_,λb xs e=>?_,λb o u e=>?_,λb ps e=>?_],F2.bX,λb o e n hb=>?_,F2.k2,λb o e hb=>?_,λb hb=>F2.fr b (sub b hb),?_,F2.ne],he _ _ _ q]
 ·erw[F2.un.keep b o (I.aw.keep b o e n hb (nx b)) (I.aw.free b o e n (nx b)) (zR b o e hb) (nx b)]
 ·let(sl,e1):=I.aw.slot b o e n hb (nx b)
  let(sl2,e2):=F2.un.slot b _ e1 (I.aw.free b o e n (nx b)) (sub b hb) (nx b);erw[sl2,e2]
 ·let(sl,e1):=I.aw.any e n (nx b)
  erw[F2.un.free b _ e1 (I.aw.free b o e n (nx b)) (nx b)]
 ·let(o1,e1):=I.aw.there b o e (nx b)
  erw[F2.un.there b o1 e1 (nx b)]
 ·erw[F2.un.lH b xs (I.aw.lH b xs e)]
 ·erw[F2.un.kW b o u (I.aw.kW b o u e)]
 ·let(m1,e1):=I.aw.lI b ps e
  let(m2,e2):=F2.un.lI b _ e1;erw[m1++m2,by rw[<-Array.append_assoc];erw[e2]]
 ·erw[F2.k1 b o (I.aw.keep b o e n hb (nx b)) (I.aw.free b o e n (nx b)) (zR b o e hb)]
 ·let(o1,e1):=I.aw.there b o e (nx b)
  erw[F2.k3 b o1 e1 (zR b o e hb)]
 ·cases e:s.heap.get? ex with |none=>rfl |some o=>let(o1,e1):=I.aw.there ex o e (nx ex);rw[F2.nw]at e1;cases e1
end
end _L
namespace _L
open PySem PySem.Spec PyProof.Rows
open Builtin Builtin.ObjectAttr
section
variable {prog:ag}{w:World}{A:ai}{E:Value->af->Prop}{s:af}{K:aa}{x C dx:Addr}{ox:Obj}{fs:Array Value}{name:Str}{v:Value}{Q:Unit->af->Prop}{mA:ck}{ks:List Str}
end
section
variable {X:Cx}{o e value:Expr}{f:Str}{pos pos' pQ:Pos}{ta tv:TE}
end
end _L
namespace _L
open PySem PySem.Spec PyProof.Rows
def Ez(P:ag)(w:World)(K:aa)(mg:ck)(aw:Heap)(C:Addr)(m:Str)(k:Nat)(sp:Sp):Prop:=∃f fd ps,fw P w K mg aw (rk P w) k f fd ps sp/\Meth K C m f/\Binds K fd ps []
section
variable {P:ag}{w:World}{K:aa}{mg:ck}{aw:Heap}
theorem lj.okD{m qual:Str}{st:Stmt}{f:Addr}{fd:FuncData}{N ps:List Str}{k:Nat}{sp:Sp}(F:lj K m qual st f fd)(S:bo N ps (aU st))(len:∀vs H Q E,sp vs H Q E->vs.length=ps.length) (lR:∀(aL:Value)(A:ai)(outer:List Env)(s:af)(H:Hp)(vs:List V)(Q:VK)(E:XK),dP k (A.deeper (envOfC qual (aU st) s.heap.objs.size f aL))->sp vs H Q E->∃t,iU (mQ (rk P w) P w K mg aw N qual (aU st) f aL A outer s H E) (ji st) t/\t {nx:=λ_ H'=>Q .bw H',rt:=Q} (start N vs) H):fw P w K mg aw (rk P w) (k+1) f fd ps sp:=by let(oc,od,kV,doc,pm,an,aL,ct,j8,rfl,lk,jS):=F.ex;erw[Vx lk jS S len λA outer s H vs Q E hr lQ=>lR aL A outer s H vs Q E hr lQ]
theorem MA.a8e{C:Addr}{m qual:Str}{st:Stmt}{N ps:List Str}{k:Nat}{sp:Sp}(F:MA K C m qual st)(S:bo N ps (aU st))(len:∀vs H Q E,sp vs H Q E->vs.length=ps.length) (hb:∀(kV doc pm:Value)(an:Option Addr)(aL ct:Value)(us:List Value),us.length=ps.length->bindArgs (PySem.W.fnOf m qual (mO st) (ji st) (aU st) .none kV doc pm an aL ct) #[us,[]]=pure (ps.zip us)) (lR:∀(f:Addr)(aL:Value)(A:ai)(outer:List Env)(s:af)(H:Hp)(vs:List V)(Q:VK)(E:XK),dP k (A.deeper (envOfC qual (aU st) s.heap.objs.size f aL))->sp vs H Q E->∃t,iU (mQ (rk P w) P w K mg aw N qual (aU st) f aL A outer s H E) (ji st) t/\t {nx:=λ_ H'=>Q .bw H',rt:=Q} (start N vs) H):Ez P w K mg aw C m (k+1) sp:=by let(f,fd,hm,F):=F.ex;erw[f,fd,ps,F.okD S len λaL A outer s H vs Q E=>lR f aL A outer s H vs Q E,hm,F.binds hb]
end
section
variable {X:Cx}{k:Nat}{x m:Str}{C:Addr}{p pos apos:Pos}{o e:Expr}{es:List Expr}{t:TA}{ta:TE}{sp:Sp}{E:XK}
end
end _L
namespace _L
open PySem PySem.Spec PyProof.Rows SeqAt
section
variable {X:Cx}{k:Nat}{x:Str}{p pos:Pos}{e:Expr}{es:List Expr}{t:TA}{sp:Sp}{E:XK}
inductive afm(X:Cx)(i:Nat)(CX:kg)(E:XK)(t:TA)(O:St)(H:Hp)(Q:VK):Prop |mk (f:Addr)(fd:FuncData)(ps:List Str)(k:Nat)(sp:Sp)(h0:O[i]? =some (some (.ref f)))(h1:fw X.prog X.w X.K X.mg X.aw CX k f fd ps sp)(h2:PySem.W.keepIn X.K (.ref f)=true)(h3:Binds X.K fd ps [])(h4:dP k X.A)(h5:t O H λvs H1=>sp vs H1 Q E)
theorem a1W(i:Nat){CX:kg}(hp:Passes CX X E)(hN:autoParam (X.N[i]? =some x) r8_._auto_1)(hv:autoParam (Em X.env.scope x) d8_._auto_1)(ha:PA X (e::es) t)(hd:autoParam ((x==("__debug__":Str))=false) q8_._auto_1) (jS:autoParam ((x==("__classdict__":Str))=false) q8_._auto_1)(he:autoParam (starEach (e::es) X.env=(false,eval e X.env)::starEach es X.env) r8_._auto_1)(gs:autoParam ((backTo pos (starEach es X.env)).any (·.1)=false) r8_._auto_1): PE X (.Call (.Name x p) (e::es) [] pos) (λO H Q=>afm X i CX E t O H Q):=by intro au s O H Q I h;let(f,fd,ps,k,sp,h0,F,hk,hb,hr,ht):=h;erw[EE (aZ (Sq (pos:=p) hN hv hd jS au s O H (λv H'=>v= .ref f/\H'=H) I #[_,h0,Z,Z]) λu s1 #[v,H1,I1,rv,e1,e2]=>?_)];subst e1 e2;cases(show u=Value.ref f from rv);erw[MR (h₀:=X.aw) I1.ok.mod.xG hk (aZ (ha pos au s1 O H1 _ I1 ht) λus s2 #[vs,H2,I2,r,q]=>#[I2.iP,?_]) he gs];erw[Cu F hr hb .nil hp I2 r ?_];rw[oA];erw[q]
end
section
variable {X:Cx}
end
end _L
namespace _L
open PySem PySem.Spec PyProof.Rows
section
variable {κ : Type} [DecidableEq κ]
end
section
variable {P:ag}{w:World}{H:Hp}{h:Heap}{a:Addr}
end
section
variable {X:Cx}{au:List (Addr×Obj)}{O:St}{H:Hp}{s:af}{a:Addr}{y v:V}{u r:Value}{o:Option V}{A:ai}{E:Value->af->Prop}
end
section
variable {X:Cx}{au:List (Addr×Obj)}{O:St}{H:Hp}{s:af}{a:Addr}{eV:List (Key×V)}{k:Key}{u:Value}{A:ai}{E:Value->af->Prop}
end
def Xi(i:Expr):Prop:=∀ov iv,subscripted i false ov iv=operate [ov,iv] (getItem ov iv)
theorem Zn{prog:ag}{w:World}{A:ai}{E:Value->af->Prop}{s:af}{env:Env}{value slice:Expr}{pos:Pos}{T id:String}{Q:Value->af->Prop} (hl:typeLookup (.type T) "__getitem__"=pure (some (.builtin id)))(hs:Xi slice) (h:wpAny (model prog w) A (eval value env) (λo s₁=>wpAny (model prog w) A (eval slice env) (λi s₂=>s₂.TypeIs o T/\wpAny (model prog w) A (getItem o i) Q E s₂) E s₁) E s): wpAny (model prog w) A (eval (.Subscript value slice pos) env) Q E s:=by
 erw[Subscript_ (gI h (λo s₁ h₁=>gI h₁ (λi s₂ h₂=>?_) λ_ _ x=>x) λ_ _ x=>x)];let(hT,h₂):=h₂;unfold subscriptTail;erw[aM ?_];rw[getitemInPython_of_ne hT.not_modules];erw[aM (wpAny_specialOf hT hl ?_)];have fin:wpAny (model prog w) A (subscripted slice false o i) (λr s₃=>wpAny (model prog w) A (letTemporaryGo value o r>>=λ_=>pure r) Q E s₃) E s₂:=by rw[hs o i];erw[wpAny_operating (gI h₂ (λr s₃ h₃=>aM (wpAny_letTemporaryGo (cn h₃))) λ_ _ x=>x)]
 first |erw[cn (aM fin)] |erw[aM (cn (aM fin))] |erw[aM fin]
section
variable {X:Cx}{o i e value:Expr}{pos pos' pQ:Pos}{td ty tv:TE}
end
section
variable {X:Cx} {pos:Pos}
end
section
variable {X:Cx}{au:List (Addr×Obj)}{O:St}{H:Hp}{s:af}{a:Addr}{y d:V}{u r:Value}{o:Option V}{A:ai}{E:Value->af->Prop}
end
section
variable {X:Cx}{o e f:Expr}{apos dE:Pos}{td ty tx:TE}
end
section
variable {X:Cx}{au:List (Addr×Obj)}{O:St}{H:Hp}{s:af}{a:Addr}{eV:List (Key×V)}{A:ai}{E:Value->af->Prop}
end
section
variable {X:Cx}{au:List (Addr×Obj)}{O:St}{H:Hp}{s:af}{a:Addr}{y:V}{u:Value}{A:ai}{E:Value->af->Prop}
end
end _L
namespace _L
open PySem PySem.Spec PyProof.Rows PySem.W
structure GD(w:World)(K:Frag)(mg:ck)(x:Str)(a:Addr):Prop where
 at':mg x=some (.ref a)
 ob:∃es n,K.lookup a=some #[.type "dict",none,.dict es n,#[]]/\KeysLit w.params es.toList
 lo:(a==sysModules)=false
theorem a97{w:World}{K:Frag}{mg:ck}{x:Str}{a:Addr}{h:Heap}{es:Array DictEntry}{n:Nat}(X:K.In h)(G:h.Ns mainGlobals mg)(e:nsIn K mainGlobals x=some (some (.ref a)))(hl:K.lookup a=some #[.type "dict",none,.dict es n,#[]])(hk:KeysLit w.params es.toList)(lo:(a==sysModules)=false):GD w K mg x a:=#[mg_of X G e,#[es,n,hl,hk],lo]
section
variable {X:Cx}{i:Expr}{x:Str}{a:Addr}{pos p:Pos}{ty:TE}
inductive afk(K:Frag)(a:Addr)(Q:VK)(y:V)(H:Hp):Prop |mk (z:Str)(r:Option Value)(h0:y= .str z)(h1:nsIn K a z=some r)(h2:Q (.bl r.isSome) H)
theorem a20(G:GD X.w X.K X.mg x a)(hg:Gl X x)(hi:PE X i ty)(jx:autoParam ((x==("__debug__":Str))=false) q8_._auto_1):PC X .In i (.Name x p) (λO H Q=>ty O H λy H1=>afk X.K a Q y H1):=by intro au s O H Q I h;let(es,n,hl,hk):=G.ob;erw[aZ (hi au s O H _ I h) λiv s1 #[y,H1,I1,ry,z,r,ey,e,q]=>zY I1 hg G.at' ?_ jx];subst ey;let(t,rfl):=ry;erw[wpAny_in_of (strKind_is X.prog X.w z t) G.lo (mapOf_K (prog:=X.prog) I1.iP hl hk) ?_];rw[find_K hl e];erw[.bl r.isSome,H1,I1.tok _,Z,q]
inductive afl(K:Frag)(a:Addr)(Q:VK)(y:V)(H:Hp):Prop |mk (z:Str)(u:Value)(v:V)(h0:y= .str z)(h1:nsIn K a z=some (some u))(h2:RelV v u)(h3:Q v H)
theorem a1S(G:GD X.w X.K X.mg x a)(hg:Gl X x)(hi:PE X i ty)(hs:Xi i)(jx:autoParam ((x==("__debug__":Str))=false) q8_._auto_1):PE X (.Subscript (.Name x p) i pos) (λO H Q=>ty O H λy H1=>afl X.K a Q y H1):=by intro au s O H Q I h;let(es,n,hl,hk):=G.ob;erw[Zn PySem.F.slot_dict_getitem.lookup hs (zY I hg G.at' ?_ jx)];erw[aZ (hi au s O H _ I h) λiv s1 #[y,H1,I1,ry,z,u,v,ey,e,rv,q]=>?_];subst ey;let(t,rfl):=ry;have hm:=mapOf_K (prog:=X.prog) (w:=X.w) I1.iP hl hk;erw[hm.typeIs,wpAny_getItem_of (strKind_is X.prog X.w z t) hm (find_K hl e) #[v,H1,I1.tok _,rv,q]]
end
theorem a5X{l:OpenLaw}{q:ag}{loose:List Str}{XP:(ck)->Heap->Prop}{YP:World->Heap->Prop}{d:DefRec}{K:Params->Frag}{k:Nat}{x:Str}{st:Stmt}(hn:l.most=some 63)(Ak:d.params.defaults=[]) (hr:dP k callerA)(hY:∀(w:World)(h:Heap),YP w h->(K w.params).In h)(All:World->Frag->(ck)->Prop) (F:∀(w:World)(mg:ck)(h:Heap),(K w.params).In h->h.Ns mainGlobals mg->All w (K w.params) mg) (L:∀(w:World)(K:Frag)(mg:ck),All w K mg->FA K mg d.name st) (hb:∀(kV doc pm:Value)(an:Option Addr)(aL ct u:Value),bindArgs (fnOf d.name d.name (mO st) (ji st) (aU st) .none kV doc pm an aL ct) #[[u],[]]=pure [(x,u)]) (ok:∀(P:ag)(w:World)(K:Frag)(mg:ck)(aw:Heap)(f:Addr)(fd:FuncData),All w K mg->lj K d.name d.name st f fd->fw P w K mg aw kh k f fd [x] (λvs H Q _=>∃(a:Addr)(ns:List Int),vs=[.ref a]/\aF K H a (ns.map V.int)/\ns.length<=63/\∀H',Q (.bl true) H')): WalkO q loose XP YP l.row.toRowW d [] (λf vs=>PySem.call f vs):=_L.Yd (n:=63) (k:=k) (x:=x) (CX:=λ_=>kh) (sp:=λw=>λvs H Q _=>∃(a:Addr)(ns:List Int),vs=[.ref a]/\aF (K w.params) H a (ns.map V.int)/\ns.length<=63/\∀H',Q (.bl true) H') hn az Ak hr hY (λw mg fa h KX G Ag=>by
 have A:=F w mg h KX G;let(f,fd,hm,Fn):=(L _ _ _ A).ex;have e:fa=f:=by rw[Ag]at hm;injection (eX hm)
 subst e;erw[fd,λs u=>?_,λaw _ _=>ok l.prog w _ mg aw fa fd A Fn];let(oc,od,kV,doc,pm,an,aL,ct,j8,rfl,lk,jS):=Fn.ex;erw[.of_eq (hb kV doc pm an aL ct u)]) (λ_ _ a ns hl _ hS=>#[a,ns,Z,hS,hl,λ_=>rfl]) λ_ _ _ _ _ z=>z
end _L
set_option exponentiation.threshold 6000
namespace _L
open PySem PySem.Spec PyProof.Rows
section
variable {X:Cx}
theorem iT:fD X (.type "str") (λxs H Q=>(∃i,xs=[.int i]/\i.natAbs.log2<1920/\Q (.str (toString i)) H)\/∃z,xs=[.str z]/\Q (.str z) H):=by
 intro au s O H xs us Q I r h;rcases h with⟨i,rfl,hz,q⟩|⟨z,rfl,q⟩
 ·let(u,rfl,t,rfl):=vals1 r
  erw[PySem.P.str_of_int hz #[.str _,H,I.tok _,#[_,Z],q]]
 ·let(u,rfl,t,rfl):=vals1 r
  erw[PySem.P.str_of_str #[.str _,H,I,#[_,Z],q]]
def rFv(x:V)(H:Hp)(Q:VK):Prop:=(∃i,x= .int i/\i.natAbs.log2<1920/\Q (.str (toString i)) H)\/∃z,x= .str z/\z.length<=sizeLine/\Q (.str z) H
theorem nu{e:Expr}{te:TE}{pos:Pos}(h:PE X e te):PE X (.FormattedValue e (-1) none pos) (λO H Q=>te O H λx H'=>rFv x H' Q):=by
 intro au s O H Q I ht;erw[wpAny_FormattedValue_plain (aZ (h au s O H _ I ht) λv s1 #[x,H1,I1,r1,q1]=>?_)];rcases q1 with⟨i,rfl,hz,q⟩|⟨z,rfl,hz,q⟩
 ·let(t,rfl):=r1
  erw[wpAny_formatField_int hz #[.str _,H1,I1.tok _,#[_,Z],q]]
 ·let(t,rfl):=r1
  erw[wpAny_formatField_str #[.str _,H1,I1,#[_,Z],q] #[.str _,H1,I1.tok _,#[_,Z],q] hz]
abbrev TJ:=Str->St->Hp->VK->Prop
def PJ(X:Cx)(es:List Expr)(t:TJ):Prop:=∀(au:List (Addr×Obj))(s:af)(O:St)(H:Hp)(Q:VK)(acc:Str),Inv X au O H s->t acc O H Q->Joins (model X.prog X.w) X.A X.xe (evalEach es X.env) acc (λout s₁=>out.length<=sizeLine/\EP X au O Q (.str out s₁.toks) {s₁ with toks:=s₁.toks+1}) s
theorem CF:PJ X [] (λacc O H Q=>acc.length<=sizeLine/\Q (.str acc) H):=by intro au s O H Q acc I h;erw[h.1,.str _,H,I.tok _,#[_,Z],h.2]
theorem j4{e:Expr}{es:List Expr}{te:TE}{tj:TJ}(h:PE X e te)(hj:PJ X es tj)(he:autoParam (evalEach (e::es) X.env=eval e X.env::evalEach es X.env) r8_._auto_1): PJ X (e::es) (λacc O H Q=>te O H λx H'=>∃y,x= .str y/\(acc++y).length<=sizeLine/\tj (acc++y) O H' Q):=by intro au s O H Q acc I ht;rw[he];erw[aZ (h au s O H _ I ht) λv s1 #[x,H1,I1,r1,q1]=>?_];let(y,rfl,hl,q):=q1;let(t,rfl):=r1;erw[y,t,Z,hl,hj au s1 O H1 Q _ I1 q]
theorem CG{e1 e2:Expr}{es:List Expr}{t:TJ}{pos:Pos}(h:PJ X (e1::e2::es) t):PE X (.JoinedStr (e1::e2::es) pos) (λO H Q=>t Str.empty O H Q):=λau s O H Q I ht=>wpAny_JoinedStr (h au s O H Q _ I ht)
theorem Ds(sep:Str){B:Nat}:∀(zs:List Str),(∀z∈zs,z.length<=B)->(Txt.join sep zs).length<=zs.length*(B+sep.length)
 |[],_=>fE _ |a::r,h=>by
  show(Builtin.Str.glued sep (a::r)).length<=_;rw[Bk,len_join_cons];have:=sumLen_le_of_bound id B (a::r) h;rw[List.map_id]at this;rw[gz]at this⊢;have e1:(r.length+1)*(B+sep.length)=B*(r.length+1)+(r.length*sep.length+sep.length):=by rw[Nat.mul_add,Nat.mul_comm (r.length+1) B,Nat.add_mul r.length 1 sep.length,Nat.one_mul]
  lia
inductive aeP(K:aa)(x:V)(vs:List V)(H:Hp)(Q:VK):Prop |mk (sep:Str)(l:Addr)(zs:List Str)(h0:x= .str sep)(h1:vs=[.ref l])(h2:aF K H l (zs.map V.str))(h3:(∀z∈zs,z.length<=4000))(h4:sep.length<=8)(h5:zs.length<=1000)(h6:Q (.str (Txt.join sep zs)) H)
def S8(K:aa):V->List V->Hp->VK->Prop:=λx vs H Q=>aeP K x vs H Q
theorem a55(K:aa)(hK:X.K=K):Ey X "str.join" (S8 K):=by subst hK;intro au s O H x vs v us Q I rx rv h;let(sep,l,zs,rfl,rfl,hl,hz,hs,hn,q):=h;let(t,rfl):=rx;let(u,rfl,ru):=vals1 rv;cases(show u=Value.ref l from ru);let(its,r,pl,_):=I.list hl;have a6P:=sumLen_le_of_bound id 4000 zs hz;rw[List.map_id]at a6P;have h1:zs.length*sep.length<=1000*8:=pM hn hs;erw[join_list (ys:=zs) pl.isList (StrsAre.of_carried (Wy r)) ao λt' k=>?_];erw[.str _,H,I.tok _,#[_,Z],q]
theorem qg(K:aa)(h:X.K=K){o e:Expr}{to:TE}{t:TA}{apos dE:Pos}(ho:PE X o to)(ha:PA X [e] t) (nS:autoParam (attributeBase o "join" X.env (eval o X.env)=eval o X.env) r8_._auto_1) (nO:autoParam (((backTo dE (starEach [e] X.env)).all (λx=>!x.1)&&(backToKw dE (keywordEach [] X.env)).all (λx=>x.1.isSome) &&decide ([e].length+([]:List Keyword).length+(if([]:List Keyword).isEmpty then 0 else 1)<30))=true) r8_._auto_1) (nL:autoParam ((apos.endLine==dE.line)=true) r8_._auto_1)(hs:autoParam (starEach [e] X.env=(false,eval e X.env)::starEach [] X.env) r8_._auto_1)(nJ:autoParam ((backTo dE (starEach [] X.env)).any (·.1)=false) r8_._auto_1): PE X (.Call (.Attribute o "join" apos) [e] [] dE) (wH K "str" (S8 K) to t):=by subst h;erw[zw Xw PySem.F.slot_str_join PySem.F.type_str_join (a55 X.K rfl) ho ha nS nO nL hs nJ]
theorem Nr{i:Int}(h:i.natAbs<10^40):(Str.ofString (toString i)).length<=41:=by rw[PySem.ofString_length];erw[int_text_length_le10 (k:=40) az h]
theorem kz{i:Int}(h:i.natAbs<10^40):i.natAbs.log2<1920:=by
 by_cases h0:i.natAbs=0
 ·rw[h0];decide
 ·exact(Nat.log2_lt h0).mpr (EN h az)
theorem Wz:∀(l:List (Str×Tok)),Vals ((l.map (·.1)).map V.str) (strValues l) |[]=>.nil |(z,t)::l=>.cons #[t,Z] (Wz l)
theorem split_len(x y:Str):(Txt.split x y).length<=x.length+2:=by
 unfold Txt.split;split
 ·simp
 ·split
  ·simp
  ·have e1:=StrLaws.occ_length_le x y 0 x.length (x.length+1)
   rw[length_partsBetween];omega
inductive aeH(x:V)(vs:List V)(H:Hp)(Q:VK):Prop |mk (z y:Str)(h0:x= .str z)(h1:vs=[.str y])(h2:(y.length==0)=false)(h3:z.length+2<=sizeLine)(h4:∀p H',Nw H H' p (.lst ((Txt.split z y).map V.str))->Q (.ref p) H')
def S6:V->List V->Hp->VK->Prop:=λx vs H Q=>aeH x vs H Q
theorem a53:Ey X "str.split" S6:=by
 intro au s O H x0 vs v us Q I rx rv h;let(x,y,rfl,rfl,hy,hz,q):=h;let(t,rfl):=rx;let(u0,rfl,u,rfl):=vals1 rv;have key:∀(l:List (Str×Tok))(k:Nat),l.map (·.1)=Txt.split x y->EP X au O Q (.ref s.heap.objs.size) {s with toks:=k,heap:=s.heap.push {cls:=.type "list",data:=.seq (strValues l).toArray}}:=λl k e=>by have nw:Nw H (upd H s.heap.objs.size (.lst ((Txt.split x y).map V.str))) s.heap.objs.size (.lst ((Txt.split x y).map V.str)):=.of (I.bX.fresh (bf _));erw[.ref s.heap.objs.size,_,I.laid (t':=k) (o:=.lst ((Txt.split x y).map V.str)) (λb ob q=>cN _ q) (bf _) ?_,Z,q _ _ nw];have:=split_len x y;erw[by rw[ba];omega,_,0,by rw[<-e];erw[Wz l],eZ _ Z]
 cases h1:(decide (x.length<y.length)||decide (Builtin.Str.strKind x<Builtin.Str.strKind y))
 ·cases hf:(Builtin.Str.occurrences x y 0 x.length (x.length+1)).isEmpty
  ·have e1:=StrLaws.occ_length_le x y 0 x.length (x.length+1)
   erw[wg F.slot_str_split (typeIs_str _ _ _) F.entry_str_split (F.args_str_split_2 _ _) (meets_str_split_sep x y t u h1 hy hf aO (by rw[length_partsBetween];omega)) ?_];show wants _ _ _ {s with toks:=_,heap:=s.heap.push {cls:=.type "list",data:=.seq (strsFrom s.toks (Builtin.Str.partsBetween x (Builtin.Str.occurrences x y 0 x.length (x.length+1)) y.length)).toArray}};rw[strsFrom_eq];erw[key (numbered s.toks _) _ ((numbered_texts _ _).trans ((bj (Xq h1)).trans (bj (Xq hf))).symm)]
  ·erw[wg F.slot_str_split (typeIs_str _ _ _) F.entry_str_split (F.args_str_split_2 _ _) (meets_str_split_not_found x y t u h1 hy hf) (key [(x,t)] s.toks ((bj (Xq h1)).trans (bc hf)).symm)]
 ·erw[wg F.slot_str_split (typeIs_str _ _ _) F.entry_str_split (F.args_str_split_2 _ _) (meets_str_split_cannot_occur x y t u h1) (key [(x,t)] s.toks (bc h1).symm)]
theorem Jm(K:aa)(h:X.K=K){o e:Expr}{to:TE}{t:TA}{apos dE:Pos}(ho:PE X o to)(ha:PA X [e] t) (nS:autoParam (attributeBase o "split" X.env (eval o X.env)=eval o X.env) r8_._auto_1) (nO:autoParam (((backTo dE (starEach [e] X.env)).all (λx=>!x.1)&&(backToKw dE (keywordEach [] X.env)).all (λx=>x.1.isSome) &&decide ([e].length+([]:List Keyword).length+(if([]:List Keyword).isEmpty then 0 else 1)<30))=true) r8_._auto_1) (nL:autoParam ((apos.endLine==dE.line)=true) r8_._auto_1)(hs:autoParam (starEach [e] X.env=(false,eval e X.env)::starEach [] X.env) r8_._auto_1)(nJ:autoParam ((backTo dE (starEach [] X.env)).any (·.1)=false) r8_._auto_1): PE X (.Call (.Attribute o "split" apos) [e] [] dE) (wH K "str" S6 to t):=by subst h;erw[zw Xw PySem.F.slot_str_split PySem.F.type_str_split a53 ho ha nS nO nL hs nJ]
inductive aeM(x:V)(vs:List V)(H:Hp)(Q:VK):Prop |mk (z y:Str)(h0:x= .str z)(h1:vs=[.str y])(h3:z.length<=sizeLine)(h4:Q (.str (Txt.removeprefix z y)) H)
def S7:V->List V->Hp->VK->Prop:=λx vs H Q=>aeM x vs H Q
theorem a54:Ey X "str.removeprefix" S7:=by intro au s O H x0 vs v us Q I rx rv h;let(x,y,rfl,rfl,hz,q):=h;let(t,rfl):=rx;let(u0,rfl,u,rfl):=vals1 rv;erw[SC.removeprefix (λt' k=>#[.str _,H,I.kept (t':=k) (λ_ _ e=>e),#[_,Z],q]) (hsz:=hz)]
theorem a1Y(K:aa)(h:X.K=K){o e:Expr}{to:TE}{t:TA}{apos dE:Pos}(ho:PE X o to)(ha:PA X [e] t) (nS:autoParam (attributeBase o "removeprefix" X.env (eval o X.env)=eval o X.env) r8_._auto_1) (nO:autoParam (((backTo dE (starEach [e] X.env)).all (λx=>!x.1)&&(backToKw dE (keywordEach [] X.env)).all (λx=>x.1.isSome) &&decide ([e].length+([]:List Keyword).length+(if([]:List Keyword).isEmpty then 0 else 1)<30))=true) r8_._auto_1) (nL:autoParam ((apos.endLine==dE.line)=true) r8_._auto_1)(hs:autoParam (starEach [e] X.env=(false,eval e X.env)::starEach [] X.env) r8_._auto_1)(nJ:autoParam ((backTo dE (starEach [] X.env)).any (·.1)=false) r8_._auto_1): PE X (.Call (.Attribute o "removeprefix" apos) [e] [] dE) (wH K "str" S7 to t):=by subst h;erw[zw Xw PySem.F.slot_str_removeprefix PySem.F.type_str_removeprefix a54 ho ha nS nO nL hs nJ]
inductive aeV(xs:List V)(H:Hp)(Q:VK):Prop |mk (z:Str)(n:Int)(h0:xs=[.str z])(h1:PySem.intText? z=some n)(h2:z.length<=640)(h3:Q (.int n) H)
theorem ac8:fD X (.type "int") (λxs H Q=>aeV xs H Q):=by intro au s O H xs us Q I r h;let(z,n,rfl,hn,hl,q):=h;let(u,rfl,t,rfl):=vals1 r;erw[PySem.W.KIN.call_text hn hl #[.int _,H,I.tok _,#[_,Z],q]]
inductive afh(K:aa)(t1 t2:TG)(v:V)(O:St)(H:Hp)(Q:St->Hp->Prop):Prop |mk (a:Addr)(x:V)(xs:List V)(h0:v= .ref a)(h1:aF K H a (x::xs))(h2:xs.length<=16000)(h3:∀p H',Nw H H' p (.lst xs)->t1 x O H' λσ1 H1=>t2 (.ref p) σ1 H1 Q)
def a9t(K:aa)(t1 t2:TG):TG:=λv O H Q=>afh K t1 t2 v O H Q
theorem So(K:aa)(hK:X.K=K){e1 e2:Expr}{k:Nat}{t1 t2:TG}{sp pos:Pos}(hc:X.calm=true)(h1:PG X e1 t1)(h2:PG X e2 t2) (hs:autoParam (assignEach [e1,.Starred e2 sp] X.env=[(false,assign e1 X.env),(true,assign e2 X.env)]) r8_._auto_1):PG X (.Tuple [e1,.Starred e2 sp] k pos) (a9t K t1 t2):=by subst hK;intro au s O H v u Q I r hw;let(a,x,xs,e,hq,hl,hw):=hw;subst e;cases r;let(its,rv,ht,hz):=I.list hq;have hh:X.A.handled=none:=I.ok.hd hc;have Ah:=ht.isList;cases rv with |cons r1 rr=>
 rename_i ux iW;have hlen:=rr.length;have cB:a≠s.heap.objs.size:=by let(o,ho,_):=Ah;erw[eY (cH ho)]
 rw[assign_Tuple];erw[aM (tZ ?_)];unfold unpack;rw[hs];erw[aM (u6 ?_)];show wpAny _ _ (unpackItems (.ref a) 2 (some 1)) _ _ _;unfold unpackItems;erw[aM ?_];unfold notIterableAtAll;erw[aM (wpAny_specialOf Ah.typeIs slot_list_iter.lookup ?_)];erw[cn ?_];simp only[Bool.false_eq_true,if_false];erw[aM (u6 (Bj Ah ?_))];have sz:(ux::iW).toArray.size=xs.length+1:=by rw[eP,gz,hlen]
 erw[aM (u6 (PySem.W.kun_draw cB 1 0 _ _ #[_,eZ _ Z,Z,Z] (Ah.push _) aO λh₁ KD UN=>?_))];have US:h₁.IsList a (ux::iW).toArray:=(Ah.push _).extBut UN.extBut cB;rw[Nat.zero_add]at KD;have a7r:=KD;let(oi,kB,_):=a7r;have a7h:=US;let(ol,qC,_):=a7h;rw[bj (by simp)];erw[aM (u6 (PySem.W.kun_collect (s:={s with heap:=h₁}) (T:="list_iterator") (.inr (.inr (.inl rfl))) (Walks.list (A:=X.A.in1) hh s.heap.objs.size a cB (ux::iW).toArray) (λj u st=>st.1.typeIs) (k:=1) aO #[KD,US] (cH kB) (cH qC) (λh₂ tk hk=>?_) (by rw[EF];omega)))];have ea:(ux::iW).toArray.toList.drop 1=iW:=by simp
 rw[ea];show wpAny _ _ (if iW.length<2-1-1 then _ else _) _ _ _;rw[bj aO];show wpAny _ _ (newList (iW.take (iW.length-(2-1-1)))>>=λd=>pure ((ux::iW).toArray.toList.take 1++[d]++iW.drop (iW.length-(2-1-1)))) _ _ _;have eb:iW.take (iW.length-(2-1-1))=iW:=u9 aO;have ec:iW.drop (iW.length-(2-1-1))=[]:=List.drop_eq_nil_of_le aO;rw[eb,ec];have he:Heap.ExtBut s.heap.objs.size s.heap h₂:=λb o hb e=>hk b o hb (UN.extBut b o hb (cN _ e));erw[aM (wpAny_newList (s:={s with heap:=h₂,toks:=tk}) (cn ?_) ?_)]
 ·have I2:Inv X au O H {s with heap:=h₂,toks:=tk}:=I.kept (t':=tk) λb o e=>he b o (eY (cH e)) e
  have nw:Nw H (upd H h₂.objs.size (.lst xs)) h₂.objs.size (.lst xs):=.of (I2.bX.fresh (bf _));have I3:Inv X au O (upd H h₂.objs.size (.lst xs)) {s with heap:=h₂.push {cls:=.type "list",data:=.seq iW.toArray},toks:=tk}:=I2.laid (t':=tk) (o:=.lst xs) (λb ob q=>cN _ q) (bf _) #[by rw[gz]at hz;omega,iW,0,rr,eZ _ rfl];show wpAny _ _ (assignInOrder (assign e1 X.env::[assign e2 X.env]) (ux::[Value.ref h₂.objs.size])) _ _ _;erw[EH (aZ (h1 au _ O _ _ _ _ I3 r1 (hw _ _ nw)) λ_ s1 #[σ1,H1,I1,q1]=>?_)];erw[EH (aZ (h2 au s1 σ1 H1 (.ref h₂.objs.size) _ _ I1 Z q1) λ_ s2 #[σ2,H2,I2,q2]=>?_)];erw[assignInOrder_nil #[σ2,H2,I2,q2]]
 ·rw[<-hlen,EF];omega
end
end _L
namespace _T
open PySem PySem.Spec PyProof.Rows PySem.NumText
def Free(c:Nat)(z:Str):Prop:=c∉z.cps.toList
def gl(c:Nat):List (List Nat)->List Nat |[]=>[] |[x]=>x |x::y::r=>x++c::gl c (y::r)
theorem Lc(c:Nat):∀zs:List Str,(PySem.Str.join ⟨#[c]⟩ zs).cps.toList=gl c (zs.map λz=>z.cps.toList) |[]=>by simp[PySem.Str.join,PySem.Str.empty,gl] |[x]=>rfl |x::y::r=>by show((x++⟨#[c]⟩)++PySem.Str.join ⟨#[c]⟩ (y::r)).cps.toList=_;rw[wk,wk,wz,wz,Lc c (y::r)];show(x.cps.toList++[c])++gl c _=x.cps.toList++c::gl c _;rw[EU];rfl
theorem Wl{c:Nat}:∀{a b r s:List Nat},c∉a->c∉b->a++c::r=b++c::s->a=b/\r=s |[],[],r,s,_,_,e=>by simpa using e |[],y::b,r,s,_,h,e=>by simp at e;exact(h (by rw[e.1];erw[.head _])).elim |x::a,[],r,s,h,_,e=>by simp at e;exact(h (by rw[<-e.1];erw[.head _])).elim |x::a,y::b,r,s,h1,h2,e=>by simp only[List.cons_append,List.cons.injEq]at e;let(e1,e2):=Wl (λz=>h1 (.tail _ z)) (λz=>h2 (.tail _ z)) e.2;erw[by rw[e.1,e1],e2]
theorem Vj{c:Nat}:∀{as bs:List (List Nat)},as≠[]->bs≠[]->(∀a∈as,c∉a)->(∀b∈bs,c∉b)->gl c as=gl c bs->as=bs
 |[],_,h,_,_,_,_=>(h Z).elim |_,[],_,h,_,_,_=>(h Z).elim |[a],[b],_,_,_,_,e=>by rw[show a=b from e] |[a],b::b'::r,_,_,ha,_,e=>by
  have:c∈a:=by rw[show a=b++c::gl c (b'::r)from e];simp
  exact(ha a (.head _) this).elim |a::a'::r,[b],_,_,_,hb,e=>by
  have:c∈b:=by rw[<-show a++c::gl c (a'::r)=b from e];simp
  exact(hb b (.head _) this).elim |a::a'::r,b::b'::s,_,_,ha,hb,e=>by let(e1,e2):=Wl (ha a (.head _)) (hb b (.head _)) (show a++c::gl c (a'::r)=b++c::gl c (b'::s)from e);rw[e1,Vj (by simp) (by simp) (λx hx=>ha x (.tail _ hx)) (λx hx=>hb x (.tail _ hx)) e2]
theorem M0{x y:Str}(h:x.cps.toList=y.cps.toList):x=y:=PySem.Str.ext' (Array.toList_inj.mp h)
theorem map_inj:∀{xs ys:List Str},xs.map (λz=>z.cps.toList)=ys.map (λz=>z.cps.toList)->xs=ys |[],[],_=>rfl |[],y::ys,h=>by simp at h |x::xs,[],h=>by simp at h |x::xs,y::ys,h=>by simp only[rA,List.cons.injEq]at h;rw[M0 h.1,map_inj h.2]
theorem O7(x y:Str):Txt.split x y≠[]:=by
 unfold Txt.split;split
 ·simp
 ·split
  ·simp
  ·rw[StrLaws.partsBetween_eq]
   let(p,r,e):=StrLaws.partsFrom_ne x y.length 0 (Builtin.Str.occurrences x y 0 x.length (x.length+1));rw[e];simp
theorem C7{c:Nat}{zs:List Str}(cS:zs≠[])(hf:∀z∈zs,Free c z):Txt.split (Txt.join ⟨#[c]⟩ zs) ⟨#[c]⟩=zs:=by
 have e:=StrLaws.join_split (Txt.join ⟨#[c]⟩ zs) ⟨#[c]⟩;have fr:=StrLaws.split_free (Txt.join ⟨#[c]⟩ zs) c;have e2:Txt.join ⟨#[c]⟩ zs=PySem.Str.join ⟨#[c]⟩ zs:=Bk _ _;have e3:=lA (λz:Str=>z.cps.toList) (e.trans e2);simp only[Lc]at e3;erw[map_inj (Vj (by simpa using O7 _ _) (by simpa using cS) (λa ha=>?_) (λb hb=>?_) e3)]
 ·let(z,hz,rfl):=cI.mp ha
  erw[fr z hz]
 ·let(z,hz,rfl):=cI.mp hb
  erw[hf z hz]
def numS(i:Int):Str:=Str.ofString (toString i)
def isFig(c:Nat):Bool:=decide (48<=c)&&decide (c<=57)
def figs(z:Str):List Nat:=match z.cps.toList with |45::r=>r |l=>l
def numIn? (z:Str):Option Int:=bif (figs z).isEmpty|| !(figs z).all isFig then none else bif decide ((figs z)[0]? =some 48)&& !decide (z="0")then none else intText? z
theorem Vy{cs:List Nat}(h:cs.all isFig=true):AllDigits cs:=λc hc=>by have:=g6.mp h c hc;simpa[isFig]using this
theorem W9{cs:List Nat}(h:AllDigits cs):cs.all isFig=true:=g6.mpr λc hc=>by have:=h c hc;simpa[isFig]using this
theorem Ed(m:Nat):(numS (m:Int)).cps.toList=(Nat.toDigits 10 m).map Char.toNat:=PySem.W.KIN.signs_num m
theorem Ec(m:Nat):(numS (Int.negSucc m)).cps.toList=45::(Nat.toDigits 10 (m+1)).map Char.toNat:=by unfold numS;rw[signs_ofString];show("-"++Nat.repr (m+1)).toList.map Char.toNat=_;rw[String.toList_append,gJ,Nat.toList_repr];rfl
theorem qQ(m:Nat):AllDigits ((Nat.toDigits 10 m).map Char.toNat):=λc hc=>by let(ch,mJ,e):=cI.mp hc;have r:=digit_range (Nat.isDigit_of_mem_toDigits az az mJ);rw[<-e];erw[r]
theorem E9(m:Nat):(Nat.toDigits 10 m).map Char.toNat≠[]:=λe=>by have h:=toDigits_len_ge 10 m;rw[List.map_eq_nil_iff.mp e]at h;erw[absurd h az]
theorem abE:∀d:Nat,d<10->d≠0->(Nat.digitChar d).toNat≠48:=by decide
theorem Uk(m:Nat)(h0:m≠0):((Nat.toDigits 10 m).map Char.toNat)[0]? ≠some 48:=by induction m using Nat.strongRecOn with |_ m ih=>
 by_cases h:m<10
 ·rw[Nat.toDigits_of_lt_base h]
  simpa using abE m h h0
 ·have hm:m%10<10:=Nat.mod_lt m az
  have t:Nat.toDigits 10 (m/10)++Nat.toDigits 10 (m%10)=Nat.toDigits 10 (10*(m/10)+m%10):=Nat.toDigits_append_toDigits az aO hm;rw[Nat.div_add_mod]at t;rw[<-t,gJ,oz (Bu.mpr (E9 _))];erw[ih (m/10) aO aO]
theorem abB(m:Nat):((Nat.toDigits 10 m).map Char.toNat).head? ≠some 45:=λe=>by have:=qQ m 45 (List.mem_of_mem_head? e);omega
theorem a9D{z:Str}{l:List Nat}(h:z.cps.toList=l)(hh:l.head? ≠some 45):figs z=l:=by
 unfold figs;rw[h];split
 ·simp at hh
 ·rfl
theorem a9F(m:Nat):figs (numS (m:Int))=(Nat.toDigits 10 m).map Char.toNat:=a9D (Ed m) (abB m)
theorem a9E(m:Nat):figs (numS (Int.negSucc m))=(Nat.toDigits 10 (m+1)).map Char.toNat:=by unfold figs;rw[Ec];rfl
theorem VQ(m:Nat):((Nat.toDigits 10 m).map Char.toNat).isEmpty=false:=by have:=E9 m;cases h:(Nat.toDigits 10 m).map Char.toNat with |nil=>exact(this h).elim |cons=>rfl
theorem CT{i:Int}(hl:(numS i).length<=4300):numIn? (numS i)=some i:=by unfold numIn?;cases i with
 |ofNat m=>
  have ef:figs (numS (Int.ofNat m))=(Nat.toDigits 10 m).map Char.toNat:=a9F m;have ec:(numS (Int.ofNat m)).cps.toList=(Nat.toDigits 10 m).map Char.toNat:=Ed m;have e:=intText_digits (x:=numS (Int.ofNat m)) (by rw[ec];erw[qQ m]) (by rw[ec];erw[E9 m]) hl;rw[ec,PySem.W.KIN.val_back]at e;rw[ef,W9 (qQ m),VQ,e];have h2:(decide (((Nat.toDigits 10 m).map Char.toNat)[0]? =some 48)&& !decide (numS (Int.ofNat m)="0"))=false:=by
   by_cases h0:m=0
   ·subst h0;decide+kernel
   ·rw[dM (Uk m h0)];rfl
  rw[h2];rfl |negSucc m=>have e:=intText_neg (x:=numS (Int.negSucc m)) (Ec m) (qQ (m+1)) (E9 (m+1)) hl;rw[PySem.W.KIN.val_back]at e;rw[a9E,W9 (qQ (m+1)),VQ,dM (Uk (m+1) aO),e];erw[lA some (Int.negSucc_eq m).symm]
theorem kQ{i:Int}{c:Nat}(h:c≠45)(h1:c<48):Free c (numS i):=λhc=>by cases i with |ofNat m=>rw[show(numS (Int.ofNat m)).cps.toList=_ from Ed m]at hc;have:=qQ m c hc;omega |negSucc m=>
 rw[Ec]at hc;rcases cO.mp hc with e|hc
 ·erw[h e]
 ·have:=qQ (m+1) c hc
  omega
theorem a6r{z:Str}(h1:figs z≠[])(h2:(figs z).all isFig=true)(hl:z.length<=4300):∃n,intText? z=some n:=by
 unfold figs at h1 h2;split at h1
 ·rename_i r h
  rw[h]at h2;erw[_,intText_neg h (Vy h2) h1 hl]
 ·rename_i h
  split at h2
  ·rename_i r h'
   exact(h r h').elim
  ·erw[_,intText_digits (Vy h2) h1 hl]
theorem a0G(z:Str):(Txt.removeprefix z "-").cps.toList=figs z:=by
 rw[StrLaws.removeprefix_eq];have e1:(Str.ofString "-").cps.toList=[45]:=by decide+kernel
 have e2:(Str.ofString "-").length=1:=by decide+kernel
 have hn:z.cps.toList.length=z.length:=by simp[Str.length]
 rw[e2,StrLaws.subAt_eq,e1,e2,List.drop_zero];unfold figs;cases hz:z.cps.toList with |nil=>rw[hz]at hn;have h0:z.length=0:=hn.symm;rw[bj (by simp)];erw[hz] |cons a r=>
  rw[hz]at hn;simp only[gz]at hn;by_cases ha:a=45
  ·subst ha
   rw[bc (by simp;omega)];show((List.drop 1 (45::r)).take _).toArray.toList=r;rw[List.drop_one,List.tail_cons,u9 aO]
  ·rw[bj (by simp;intro _;erw[λe=>ha (by simpa using e)])]
   rw[hz];split
   ·rename_i h;simp at h;exact(ha h.1).elim
   ·rfl
end _T
namespace _L
open PySem PySem.Spec PyProof.Rows
inductive ad9(tb:TE)(O:St)(Q:VK)(x:V)(H1:Hp):Prop |mk (z:Str)(h0:x= .str z)(h1:z.length<=16777216)(h2:if z="" then tb O H1 Q else Q (.str z) H1)
def Z0(ta tb:TE):TE:=λO H Q=>ta O H λx H1=>ad9 tb O Q x H1
theorem Zq{z:Str}(h:z.length=0):z="":=_T.M0 (by have:z.cps.size=0:=h;rw[Array.eq_empty_of_size_eq_zero this];rfl)
theorem Sr{X:Cx}{a b:Expr}{rest:List Expr}{pos:Pos}{ta tb:TE}(ha:PE X a ta)(hb:PE X (.BoolOp .Or (b::rest) pos) tb):PE X (.BoolOp .Or (a::b::rest) pos) (Z0 ta tb):=by
 intro au s O H Q I h;erw[BoolOp_or (aZ (ha au s O H _ I h) λv s1 #[x,H1,I1,r1,q1]=>?_)];let(z,rfl,hl,q1):=q1;let(t,rfl):=(show∃t,v=Value.str z t from r1);erw[P.truthy_str aO ?_];by_cases e:z=""
 ·rw[bc e]at q1
  subst e;erw[hb au _ O H1 Q (I1.tok _) q1]
 ·rw[bj e]at q1
  have:((z.length:Int) !=0)=true:=by rw[bne_iff_ne];intro h0;erw[e (Zq aO)]
  rw[this];erw[.str z,H1,I1.tok _,#[t,Z],q1]
section
variable {P:ag}{w:World}{K:aa}{mg:ck}{aw:Heap}{k:Nat}{sp:Sp}{C:Addr}{x m:Str}{f:Addr}{fd:FuncData}{ps:List Str}
theorem fw.d(F:fw P w K mg aw kh k f fd ps sp):fw P w K mg aw (rk P w) k f fd ps sp:=#[F.len,λA outer s H args us vs Q E hr he hb hv hs=>yn (F.run A outer s H args us vs Q E hr he hb hv hs) λr s' hq=>by cases r with |ok fl=>cases fl<;>erw[hq] |error e=>erw[hq.elim]]
theorem fw.n(F:fw P w K mg aw (rk P w) k f fd ps sp):fw P w K mg aw kh k f fd ps (λvs H Q _=>sp vs H Q E0):=#[λvs H Q E h=>F.len vs H Q E0 h,λA outer s H args us vs Q E hr he hb hv hs=>yn (F.run A outer s H args us vs Q E0 hr he hb hv hs) λr s' hq=>by cases r with |ok fl=>cases fl<;>erw[hq] |error e=>let(_,_,_,_,_,_,_,_,_,_,z):=hq;erw[z]]
theorem aA.d(F:aA P w K mg aw x k sp):yi P w K mg aw x k sp:=by let(f,fd,ps,F,h1,h2,h3):=F;erw[f,fd,ps,F.d,h1,h2,h3]
theorem yi.le{j:Nat}(F:yi P w K mg aw x k sp)(h:k<=j):yi P w K mg aw x j sp:=by let(f,fd,ps,F,h1,h2,h3):=F;erw[f,fd,ps,F.mono h,h1,h2,h3]
theorem Ez.n(F:Ez P w K mg aw C m k sp):cL P w K mg aw C m k (λvs H Q _=>sp vs H Q E0):=by let(f,fd,ps,F,h1,h2):=F;erw[f,fd,ps,F.n,h1,h2]
end
end _L
namespace _t
open _l
end _t
namespace _L
open PySem PySem.Spec PyProof.Rows
section
variable {prog:ag}{w:World}{A:ai}{E:Value->af->Prop}{s:af}
end
section
variable {X:Cx} {tg:Expr} {ex:Addr}
end
section
variable {X:Cx} {ex:Addr} {pos:Pos}
end
section
variable {K:aa} {H:Hp}
end
section
variable {X:Cx}{ex:Addr}{k:Nat}{x m:Str}{C:Addr}{p pos apos:Pos}{o e:Expr}{es:List Expr}{t:TA}{ta:TE}{sp:Addr->Sp}
end
section
variable {X:Cx}{CX:kg}{k:Nat}{f:Addr}{fd:FuncData}{ps:List Str}{sp:Sp}{gy:List V}{ds:List Value}{E:St->XK}{x:Str}{p pos:Pos}{e:Expr}{es:List Expr}{t:TA}
end
section
variable {X:Cx}{i:Nat}{n y:Str}{Dc:Addr}{Mc:List Value}{newD:String}{body Fh:List Stmt}{b0:Stmt}{np A9 pos:Pos}{tb:(St->XK)->TS}{th:TS}{Cs:Addr->Prop}
end
section
variable {prog:ag}{w:World}{A:ai}{E:Value->af->Prop}{s:af}{I ax ex:Addr}
end
section
variable {X:Cx}
end
section
variable {X:Cx}{ex:Addr}{k:Nat}{x m:Str}{C:Addr}{p pos apos:Pos}{o e:Expr}{es:List Expr}{t:TA}{ta:TE}{sp:Addr->Sp}
end
section
variable {X:Cx}{y:Str}{Dc:Addr}{Mc:List Value}{newD:String}{body Fh:List Stmt}{b0:Stmt}{np A9 pos:Pos}{tb:(St->XK)->TS}{th:Addr->TS}{Cs:Addr->Prop}
end
section
variable {K:aa} {H:Hp}
end
end _L
namespace _a
open PySem PySem.Spec PyProof.Rows _L _l _b _C _P _W _R
open _O (topR cornO mnO betR atO ownF leadF ownL OkI OkIs)
open _O (Itm)
open _T (numS)
open _O (topR cornO mnO betR atO ownF leadF ownL OkI OkIs Itm)
def top(i:Nat):Stmt:=PySem.Challenge.pw_glidequeue_k59_whole_told_at_once_is_the.main.body.getD i (.Pass #[0,0,0,0])
abbrev G5:Stmt:=top 122
abbrev Im:Stmt:=top 121
abbrev Ij:Stmt:=top 49
abbrev Hn:Stmt:=top 13
abbrev Hd:Stmt:=top 51
abbrev Hf:Stmt:=top 48
abbrev GK:Stmt:=top 42
abbrev GX:Stmt:=top 44
abbrev G1:Stmt:=top 45
abbrev Hb:Stmt:=top 46
abbrev Hc:Stmt:=top 47
abbrev HH:Stmt:=top 41
abbrev Hu:Stmt:=top 40
abbrev Hm:Stmt:=top 32
def ka:Str:="abcdefghijklmnopqrstuvwxyz"
abbrev FW:Stmt:=top 52
abbrev FX:Stmt:=top 14
abbrev FY:Stmt:=top 62
abbrev Ih:Stmt:=top 59
abbrev Hl:Stmt:=top 61
abbrev FZ:Stmt:=top 60
abbrev Ik:Stmt:=top 65
abbrev Cq:Stmt:=top 64
abbrev GO:Stmt:=top 43
abbrev Gk:Stmt:=top 67
abbrev GY:Stmt:=top 70
abbrev GN:Stmt:=top 124
abbrev Hr:Stmt:=top 37
abbrev Ho:Stmt:=top 36
abbrev Ir:Stmt:=top 35
abbrev Ht:Stmt:=top 30
abbrev Hq:Stmt:=top 21
abbrev GW:Stmt:=top 34
abbrev Il:Stmt:=top 33
abbrev Ic:Stmt:=top 72
abbrev G2:Stmt:=top 71
abbrev GR:Stmt:=top 55
abbrev G6:Stmt:=top 53
abbrev Gi:Stmt:=top 54
abbrev Ii:Stmt:=top 119
abbrev G0:Stmt:=top 117
abbrev G8:Stmt:=top 116
abbrev I0:Stmt:=top 115
abbrev Gd:Stmt:=top 118
abbrev Cr:Stmt:=top 68
abbrev GL:Stmt:=top 66
abbrev Ia:Stmt:=top 73
abbrev Ig:Stmt:=top 113
abbrev Io:Stmt:=top 114
abbrev Ha:Stmt:=top 112
abbrev G4:Stmt:=top 74
abbrev Gm:Stmt:=top 79
structure fo(K:aa)(C:Addr):Prop where
 cl:kf K C
 mq:iV K C "machine"
 xC:iV K C "begun_at"
 qm:iV K C "done"
 kS:iV K C "queue"
 xB:iV K C "pace"
 zU:iV K C "rate_now"
 JJ:iV K C "side"
 JK:iV K C "mark"
 D4:iV K C "stopping"
abbrev Gr:Stmt:=inClass (top 78) 3
abbrev Gv:Stmt:=inClass (top 78) 4
abbrev Gq:Stmt:=inClass (top 78) 5
abbrev Gy:Stmt:=inClass (top 78) 6
abbrev Gn:Stmt:=inClass (top 78) 7
abbrev GF:Stmt:=inClass (top 78) 8
abbrev Gu:Stmt:=inClass (top 78) 9
abbrev GC:Stmt:=inClass (top 78) 10
abbrev Gw:Stmt:=inClass (top 78) 1
abbrev Gz:Stmt:=inClass (top 78) 2
abbrev GB:Stmt:=inClass (top 78) 0
abbrev GG:Stmt:=inClass (top 78) 11
abbrev GJ:Stmt:=inClass (top 78) 16
abbrev Gx:Stmt:=inClass (top 78) 15
abbrev Gs:Stmt:=inClass (top 78) 14
abbrev GH:Stmt:=inClass (top 78) 13
abbrev GI:Stmt:=inClass (top 78) 12
abbrev Gp:Stmt:=inClass (top 78) 21
def xN:Str:="0123456789"
abbrev GU:Stmt:=top 89
abbrev GQ:Stmt:=top 88
abbrev Hk:Stmt:=top 87
abbrev Ge:Stmt:=top 83
abbrev Gf:Stmt:=top 84
abbrev Gg:Stmt:=top 82
abbrev Hh:Stmt:=top 130
abbrev Hg:Stmt:=top 129
abbrev Gh:Stmt:=top 86
abbrev Hi:Stmt:=top 131
abbrev GZ:Stmt:=top 123
abbrev GS:Stmt:=top 125
abbrev Hj:Stmt:=top 126
abbrev Iy:Stmt:=top 96
abbrev Iv:Stmt:=top 97
abbrev Iq:Stmt:=top 101
abbrev Iz:Stmt:=top 102
abbrev Iw:Stmt:=top 100
abbrev Iu:Stmt:=top 22
abbrev Hs:Stmt:=top 20
structure pJ(K:aa)(D:Addr):Prop where
 cl:kf K D
 mq:iV K D "machine"
 uT:iV K D "runner"
abbrev Ie:Stmt:=inClass (top 105) 0
abbrev GP:Stmt:=top 106
abbrev Ga:Stmt:=inClass (top 105) 3
abbrev Gb:Stmt:=inClass (top 105) 4
abbrev G9:Stmt:=inClass (top 105) 2
abbrev G7:Stmt:=inClass (top 105) 1
abbrev Ib:Stmt:=top 31
abbrev Hy:Stmt:=top 127
abbrev G3:Stmt:=top 128
abbrev Gj:Stmt:=top 132
abbrev HU:Stmt:=top 133
abbrev Ip:Stmt:=top 134
abbrev He:Stmt:=top 135
def FJ(K:aa):Sp:=λvs H Q _=>∃(a:Addr)(ns:List Int),vs=[.ref a]/\aF K H a (ns.map V.int)/\ns.length<=63/\∀H',Q (.bl true) H'
abbrev wO:Stmt:=top 136
structure MG(K:aa)(mg:ck)(C D:Addr):Prop where
 tc:fo K C
 init:CA K mg C "Runner" "Runner.__init__" GB
 a5o:MA K C "place" "Runner.place" Gw
 a5q:MA K C "leads_to" "Runner.leads_to" Gz
 a5m:MA K C "square" "Runner.square" Gr
 a5n:MA K C "rate" "Runner.rate" Gv
 a5j:MA K C "tool" "Runner.tool" Gq
 a5r:MA K C "last_mark" "Runner.last_mark" Gy
 a5h:MA K C "waiting" "Runner.waiting" Gn
 a5s:MA K C "is_held" "Runner.is_held" GF
 a5l:MA K C "stands" "Runner.stands" Gu
 a5t:MA K C "is_halted" "Runner.is_halted" GC
 a5u:MA K C "feed" "Runner.feed" GG
 a5w:MA K C "entries" "Runner.entries" GI
 a5v:MA K C "entries_of_first" "Runner.entries_of_first" GH
 a5k:MA K C "steps_of_first" "Runner.steps_of_first" Gs
 a5p:MA K C "next_square" "Runner.next_square" Gx
 a5x:MA K C "end_first" "Runner.end_first" GJ
 a5i:MA K C "turn_rate" "Runner.turn_rate" Gp
 td:pJ K D
 abA:CA K mg D "Desk" "Desk.__init__" Ie
 say:MA K D "say" "Desk.say" G7
 a08:MA K D "say_steps" "Desk.say_steps" Ga
 a09:MA K D "say_rate" "Desk.say_rate" Gb
 a07:MA K D "say_to" "Desk.say_to" G9
structure All(w:World)(K:aa)(mg:ck):Prop where
 B:bI mg
 vt:GT K mg "NOUGHT" [.int 0,.int 1]
 a9b:GT K mg "SIDES" [.str "up",.str "down"]
 a9q:GT K mg "AXES" [.int 2,.int 3]
 a9i:GV mg "LONGEST_RAIL" (.int 100)
 a9n:GV mg "GREATEST_CHANGE" (.int 50)
 a9e:GV mg "MOST_TICKS" (.int 100)
 a9f:GV mg "MOST_STEPS" (.int 100)
 Vn:GV mg "GREATEST_SPEED" (.int 20)
 a9h:GV mg "LONGEST_WAIT" (.int 1000)
 a9j:GV mg "LONGEST_NAME" (.int 8)
 a9l:GV mg "LEAST_RATE" (.int 10)
 a9m:GV mg "GREATEST_RATE" (.int 200)
 a9o:GV mg "FIRST_RATE" (.int 100)
 a9d:GV mg "MOST_WAITING" (.int 20)
 a9g:GV mg "MOST_ENTRIES" (.int 100)
 a9c:GV mg "NOT_DUE" (.int 1)
 a9a:GV mg "WRONG_TICKS" (.int 2)
 a9r:GV mg "ABOVE_TOP" (.int 3)
 a9k:GV mg "LETTERS" (.str ka)
 a9p:GV mg "FIGURES" (.str xN)
 Vm:GV mg "NOTHING" (.str "none")
 ans:∃a,GD w K mg "ANSWERS" a/\PySem.W.nsIn K a "place"=some (mg "answer_place")/\PySem.W.nsIn K a "square"=some (mg "answer_square")/\PySem.W.nsIn K a "plan"=some (mg "answer_plan")/\PySem.W.nsIn K a "tool"=some (mg "answer_tool")/\PySem.W.nsIn K a "mark"=some (mg "answer_mark")/\(∃v,PySem.W.nsIn K a "tool"=some (some v))/\(∃v,PySem.W.nsIn K a "mark"=some (some v))/\PySem.W.nsIn K a "line"=some none/\PySem.W.nsIn K a "wait"=some none/\PySem.W.nsIn K a "steps"=some none/\PySem.W.nsIn K a "rate"=some none/\PySem.W.nsIn K a "to"=some none
 dk:∃C D,MG K mg C D
 law:FA K mg "law" wO
 aag:FA K mg "is_whole" Hn
 aaf:FA K mg "is_whole_within" FX
 aan:FA K mg "is_machine" Hs
 aal:FA K mg "is_place" Hq
 aaC:FA K mg "are_rails" Iu
 aap:FA K mg "is_item" Ht
 VC:FA K mg "is_line" Hm
 aa1:FA K mg "place_behind" Il
 aa6:FA K mg "moved" GW
 aaB:FA K mg "are_steps" Ir
 aaj:FA K mg "is_short_item" Ho
 aam:FA K mg "is_name" Hr
 aas:FA K mg "fraction" HH
 a9Z:FA K mg "plus" GK
 a9Y:FA K mg "plus_whole" GO
 aa7:FA K mg "minus" GX
 a9M:FA K mg "times" G1
 aao:FA K mg "is_less" Hb
 aab:FA K mg "least" Hc
 aa9:FA K mg "lowest_terms" Hf
 aax:FA K mg "common_divisor" Ij
 aac:FA K mg "lead_of" Hd
 a9K:FA K mg "ways_of" FW
 a9R:FA K mg "stand_at" G6
 a9P:FA K mg "step_rows" Gi
 aa5:FA K mg "nearest" GR
 aaw:FA K mg "corner_square" Ih
 a9L:FA K mg "top_square" FZ
 aak:FA K mg "is_rate" Hl
 aar:FA K mg "greatest_turn" FY
 VA:FA K mg "own_bounds" Cq
 aaA:FA K mg "bound_between" Ik
 aa0:FA K mg "plan_of" GL
 aad:FA K mg "kept_by_rise" Gk
 VB:FA K mg "kept_by_fall" Cr
 a9N:FA K mg "ticks_of" G2
 VD:FA K mg "are_enough" Ic
 a9Q:FA K mg "step_entry" Ia
 a9X:FA K mg "reach_behind_first" Gm
 a9V:FA K mg "show_fraction" Gg
 a9T:FA K mg "show_numbers" Ge
 a9U:FA K mg "show_item" Gf
 a9W:FA K mg "show_entry" Gh
 aae:FA K mg "item_in" Hk
 aa3:FA K mg "numbers_in" GQ
 aa4:FA K mg "number_in" GU
 aaG:FA K mg "answer_place" Iy
 aaE:FA K mg "answer_square" Iv
 aaF:FA K mg "answer_plan" Iw
 aaD:FA K mg "answer_tool" Iq
 aaH:FA K mg "answer_mark" Iz
 aa2:FA K mg "only_number" GP
 aaV:FA K mg "_law_bag" Im
 aaJ:FA K mg "_law_take" G5
 aaN:FA K mg "_law_machine" GZ
 aaL:FA K mg "_law_place" GN
 aaM:FA K mg "_law_name" GS
 aaR:FA K mg "_law_item" Hj
 aaO:FA K mg "_law_line_from" Hy
 aaQ:FA K mg "_law_item_text" Hg
 aaI:FA K mg "_law_there" G3
 aaS:FA K mg "_law_fraction_text" Hh
 aaU:FA K mg "_law_entry_text" Hi
 aaK:FA K mg "_law_row" Gj
 aaT:FA K mg "_law_fed" HU
 aaW:FA K mg "_law_all_told" Ip
 aaP:FA K mg "_law_last" He
 aaa:FA K mg "look" Ha
 aav:FA K mg "due_entries" Ig
 aaz:FA K mg "bounds_between" Io
 aat:FA K mg "fault_of_entry" I0
 aai:FA K mg "is_step_with" G8
 aah:FA K mg "is_timed" G0
 a9S:FA K mg "square_of" Gd
 aay:FA K mg "can_meet" Ii
 aaq:FA K mg "is_fraction" Hu
 aau:FA K mg "ends" Ib
 aa8:FA K mg "middles" GY
 a9O:FA K mg "tape_of" G4
def B6(K:aa)(P:ag)(w:World)(mg:ck)(aw:Heap)(C:Addr)(D:Addr):Prop:=∀(f:Addr)(fd:FuncData),All w K mg->MG K mg C D->lj K "law" "law" wO f fd->fw P w K mg aw kh 16 f fd ["_law_script"] (FJ K)
theorem neW:Nonempty (aa×ag×World×(ck)×Heap×Addr×Addr):=#[default,default,#[λ_ _=>0,{strHash:=λ_=>0,shareClass:=λa=>a,mergeTok:=id,idOf:=λ_=>0,idOfShared:=λ_ _=>0,followText:=λ_=>false,idOfImm:=λ_=>0}],λ_=>none,default,(0:Nat),(0:Nat)]
@[irreducible] noncomputable def KP:aa×ag×World×(ck)×Heap×Addr×Addr:=@Classical.epsilon _ neW λx=>¬B6 x.1 x.2.1 x.2.2.1 x.2.2.2.1 x.2.2.2.2.1 x.2.2.2.2.2.1 x.2.2.2.2.2.2
@[irreducible] noncomputable def K:aa:=KP.1
@[irreducible] noncomputable def P:ag:=KP.2.1
@[irreducible] noncomputable def w:World:=KP.2.2.1
@[irreducible] noncomputable def mg:ck:=KP.2.2.2.1
@[irreducible] noncomputable def aw:Heap:=KP.2.2.2.2.1
@[irreducible] noncomputable def C:Addr:=KP.2.2.2.2.2.1
@[irreducible] noncomputable def D:Addr:=KP.2.2.2.2.2.2
theorem YN(h:B6 K P w mg aw C D)(K':aa)(P':ag)(w':World)(TB:ck)(WS:Heap)(C':Addr)(D':Addr):B6 K' P' w' TB WS C' D':=Classical.byContradiction λn=>by have e:=Classical.epsilon_spec (p:=λx:aa×ag×World×(ck)×Heap×Addr×Addr=>¬B6 x.1 x.2.1 x.2.2.1 x.2.2.2.1 x.2.2.2.2.1 x.2.2.2.2.2.1 x.2.2.2.2.2.2) #[(K',P',w',TB,WS,C',D'),n];unfold K P w mg aw C D KP at h;erw[e h]
end _a
namespace _a
open PySem PySem.Spec PyProof.Rows _L
section
inductive adt(vs:List V)(H:Hp)(Q:VK):Prop |mk (p:_)(many:_)(h0:vs=[.ref p,.int many])(h1:gH H p)(h2:1<=many)(h3:many<=10^40)(h4:∀d H',0<=d->d<many->bO p H H'->Q (.int d) H')
def mX:Sp:=λvs H Q _=>adt vs H Q
theorem Ph:bo ["_law_bag_here","_law_many","_law_digit","_law_number","_law_room"] ["_law_bag_here","_law_many"] (aU G5):=bp aJ
theorem a2G(F:FA K mg "_law_take" G5)(B:bI mg):aA P w K mg aw "_law_take" 1 mX:=by
 erw[F.has Ph (λvs H Q E h=>?_) (λ_ _ _ _ _ _=>dW λ_ _=>rfl) (λf aL A outer s H vs Q E hr h=>?_)]
 ·let(p,many,rfl,_):=h
  rfl
 ·let(p,many,rfl,(c,m,hp,ok),h1,h2,k):=h
  let(c0,m0,m1):=id ok;have nd:=Ph.nd;erw[_,(aB (bL (cf CL (px K (pv 0) aE) aE (bS _)) (aB (pS 2 nd (aP uL (px K (pv 0) aE) (pv 1))) (aB (fh (aP zE (px K (pv 0) aE) (pv 1)) (uK (pv 0) aE set_list)) (aI (aQ (pv 2))))) bQ) (aB (pS 3 nd aE) (aB (pS 4 nd aE) (aB (xg gj (cf qh (pv 4) (pv 1) (bS _)) (aB (fh (aP uL (aP Jq (aP eu (aP cK (px K (pv 0) aE) aE) aE) aE) aE) (uK (pv 0) aE set_list)) (aB (pS 3 nd (aP eu (aP cK (pv 3) aE) (aP uL (aP cK (aP zE (px K (pv 0) aE) aE) aE) aE))) (aI (pS 4 nd (aP cK (pv 4) aE)))))) (aI (aQ (aP uL (pv 3) (pv 1)))))))),?_];erw[_,Z,.inl #[p,_,0,.int c,Z,Z,aF.of hp,Z,_,_,Z,Z,_,Z,?_]];erw[gd (λhc=>?_) (λ_=>?_)]
  ·erw[_,Z,.inl #[p,_,0,.int c,Z,Z,aF.of hp,Z,_,Z,_,_,Z,Z,h1,?_]]
   erw[_,Z,.inl #[p,_,0,.int c,Z,Z,aF.of hp,Z,_,Z,_,_,Z,Z,#[h1,Ni ao h2],?_]];erw[_,Z,p,_,0,0,Z,Z,hp,Z,?_];erw[_,Z,?_];erw[k _ _ (wy _ ao) (yE _ ao) (bO.upd #[Int.ediv_nonneg c0 ao,m0,m1])]
  ·erw[wC (λO H2=>∃(v:Option V)(n r:Int),O=[some (.ref p),some (.int many),v,some (.int n),some (.int r)]/\bO p H H2/\1<=r) (λO _=>match O with|[_,_,_,_,some (.int r)]=>(many-r).toNat|_=>0) ?_ ?_ ?_]
   ·erw[none,0,1,Z,.refl #[c,m,hp,ok],df _]
   ·rintro O H2 ⟨v,n,r,rfl,bx,DG⟩
    erw[El ?_];intro E1;let(c',m',DJ,c0',m0',m1'):=id bx.bU;erw[_,Z,_,Z,_,_,Z,Z,_,Z,?_];erw[gd (λhc=>?_) (λhc=>?_)]
    ·have cB:r<many:=m4 hc
     erw[_,Z,.inl #[p,_,1,.int m',Z,Z,aF.of DJ,Z,_,_,Z,Z,.of_right (dF az az),_,_,Z,Z,_,_,Z,Z,#[az,az,?_],_,_,Z,Z,(by show(0:Int)<2147483629;decide),?_]]
     ·have qH:(2:Nat)^64=18446744073709551616:=by decide
      rw[qH];lia
     erw[_,Z,p,_,1,1,Z,Z,DJ,Z,?_];have g0:0<=((m'*48271+7919)^(3:Int).toNat)%2147483629:=wy _ az;have g1:((m'*48271+7919)^(3:Int).toNat)%2147483629<2147483629:=yE _ az;have bx2:bO p H (_L.upd H2 p (.lst [.int c',.int (((m'*48271+7919)^(3:Int).toNat)%2147483629)])):=bx.trans (.upd #[c0',g0,Int.lt_trans g1 az]);erw[_,Z,_,_,Z,Z,.of_right (dF az az),_,Z,.inl #[p,_,1,.int _,Z,Z,aF.of cg,Z,_,_,Z,Z,#[az,Ni az az],_,_,Z,Z,.of_right (dF az az),_,_,Z,Z,(by show(0:Int)<1073741789;decide),_,_,Z,Z,?_]];erw[_,Z,_,_,Z,Z,.of_right (dF az az),?_];erw[#[v,_,_,Z,bx2,?_],?_]
     ·lia
     ·show(many-r*1073741789).toNat<(many-r).toNat
      lia
    ·erw[_,Z,_,Z,_,_,Z,Z,h1,?_]
     erw[k _ _ (wy _ ao) (yE _ ao) bx]
   ·rintro O H2 Q1 Q2 hq ⟨v1,e1,v2,e2,i,j,e3,e4,kk,e5,q⟩
    erw[v1,e1,v2,e2,i,j,e3,e4,kk,e5,hq _ _ q]
end
section
inductive aeD(K:aa)(vs:List V)(H:Hp)(Q:VK):Prop |mk (a:Addr)(ns:List Int)(at':Int)(h0:vs=[.ref a,.int at'])(h1:aF K H a (ns.map V.int))(h2:ns.length<=63)(h3:0<=at')(h4:at'<=100)(h5:∀p H',H p=none->gH H' p->aH H H'->Q (.ref p) H')
def OS(K:aa):Sp:=λvs H Q _=>aeD K vs H Q
theorem QL:bo ["_law_script","_law_at","_law_cell","_law_mix","_law_k"] ["_law_script","_law_at"] (aU Im):=bp aJ
theorem UB{ns:List Int}{j:Nat}(h:j<ns.length):∃z,fc (ns.map V.int) (j:Int)=some (.int z):=#[ns[j],acC (by simp[h])]
theorem a45(F:FA K mg "_law_bag" Im)(B:bI mg):aA P w K mg aw "_law_bag" 1 (OS K):=by
 erw[F.has QL (λvs H Q E h=>?_) (λ_ _ _ _ _ _=>dW λ_ _=>rfl) (λf aL A outer s H vs Q E hr h=>?_)]
 ·let(a,ns,at',rfl,_):=h
  rfl
 ·let(a,ns,at',rfl,hS,hlen,h0,h1,k):=h
  obtain⟨j,rfl⟩:∃j:Nat,at'=(j:Int):=#[at'.toNat,ao];have nd:=QL.nd;erw[_,(aB (pS 2 nd aE) (aB (j3 (bL (cf qh (pv 1) (fU K B (ak (pv 0) ay)) (bS _)) (aI (pS 2 nd (fG (x:="abs") vP Z (B.at "abs") yt (ak (px K (pv 0) (pv 1)) ay)))) bQ)) (aB (pS 3 nd (aP eu (aP eu (aP cK (aP cK aE (pv 1)) (pv 1)) (aP cK aE (pv 1))) aE)) (aB (iB gj Z (sj Z (B.at "range") (ak (fG (x:="min") (M8 rfl) rfl (B.at "min") XA (ak (fU K B (ak (pv 0) ay)) (ak aE ay))) ay)) (aV 4 nd) (aI (pS 3 nd (aP uL (aP Jq (aP eu (aP eu (aP cK (pv 3) aE) (aP uL (px K (pv 0) (pv 4)) aE)) (aP cK (pv 4) (pv 4))) aE) aE)))) (aB (j3 (bL (cf qh (pv 2) (aP Jq aE aE) (bS _)) (aI (pS 2 nd aE)) bQ)) (aI (aQ (dw (ak (pv 2) (ak (pv 3) ay)))))))))),?_];erw[λO H'=>H'=H/\∃c:Int,O=[some (.ref a),some (.int (j:Int)),some (.int c),none,none]/\0<=c,?_,?_]
  ·erw[_,Z,_,Z,a,_,Z,.inl hS,_,_,Z,Z,_,Z,?_]
   erw[gd (λhc=>?_) (λ_=>?_)]
   ·have hj:(j:Int)<((ns.map V.int).length:Int):=m4 hc
    rw[ba]at hj;let(z,hz):=UB (ns:=ns) (j:=j) ao;erw[_,Z,_,Z,.inl #[a,_,_,_,Z,Z,hS,hz,z,Z,?_]];erw[Z,_,Z,by split<;>lia]
   ·erw[Z,0,Z,df _]
  rintro O H' ⟨rfl,c,rfl,c0⟩;erw[_,Z,_,_,Z,Z,.of_left (dF az az),_,Z,_,_,Z,Z,.of_right (dF ao ao),_,Z,_,_,Z,Z,.of_left (dF az az),_,_,Z,Z,_,_,Z,Z,?_];erw[_,Z,a,_,Z,.inl hS,_,_,Z,_,Z,?_,?_,?_]
  ·split<;>lia
  ·split<;>(try rw[ba])<;>lia
  erw[xM (Pv:=λi O H2=>H2=H'/\∃(m:Int)(v:Option V),O=[some (.ref a),some (.int (j:Int)),some (.int c),some (.int m),v]/\0<=m/\m<2147483648) ?_ ?_ ?_]
  ·erw[Z,_,none,Z,?_,?_]
   ·have:(0:Int)<=(j:Int)*(j:Int):=gU ao ao
    rw[ud];lia
   ·have:(j:Int)*(j:Int)<=100*100:=wx ao ao ao ao
    rw[ud];lia
  ·rintro i O H2 hi ⟨rfl,m,v,rfl,m0,m1⟩
   erw[iG ?_];intro E1;have nN:i<ns.length:=by rw[ba]at hi;split at hi<;>lia
   let(z,hz):=UB (ns:=ns) (j:=i) nN;rw[<-Int.zero_add (i:Int)]at hz;have UH:0<=z%2147483647:=wy _ az;have Dz:z%2147483647<2147483647:=yE _ az;have a7C:(0:Int)<=(0+(i:Int))*(0+(i:Int)):=gU ao ao;have hii:(0+(i:Int))*(0+(i:Int))<=100*100:=wx ao ao ao ao;erw[_,Z,_,_,Z,Z,.of_right (dF az az),_,Z,_,Z,.inl #[a,_,_,_,Z,Z,hS,hz,_,_,Z,Z,(by show(0:Int)<2147483647;decide),_,_,Z,Z,_,Z,_,Z,_,_,Z,Z,.of_right (dF ao ao),_,_,Z,Z,_,_,Z,Z,#[az,az,?_],_,_,Z,Z,(by show(0:Int)<2147483629;decide),?_]]
   ·have qH:(2:Nat)^64=18446744073709551616:=by decide
    rw[qH];generalize(0+(i:Int))*(0+(i:Int))=ii at a7C hii⊢;generalize z%2147483647=zz at UH Dz⊢
    lia
   ·erw[Z,_,_,Z,wy _ az,Int.lt_trans (yE _ az) az]
  ·rintro O H2 ⟨rfl,m,v,rfl,m0,m1⟩
   erw[λO H3=>H3=H2/\∃c:Int,O=[some (.ref a),some (.int (j:Int)),some (.int c),some (.int m),v]/\0<=c,?_,?_]
   ·erw[kE ?_];intro E2
    erw[_,Z,_,_,Z,Z,#[az,az,az],_,_,Z,Z,_,Z,?_];erw[gd (λhc=>?_) (λ_=>?_)]
    ·erw[Z,0,Z,df _]
    ·erw[Z,c,Z,c0]
   rintro O H3 ⟨rfl,c,rfl,c0⟩;erw[_,Z,_,Z,(by show 2<=sizeLine;decide),λp H4 nw=>?_];erw[k p H4 nw.no #[c,m,nw.at',c0,m0,m1] nw.same]
inductive aev(vs:List V)(H:Hp)(Q:VK):Prop |mk (a:Int)(b:Int)(h0:vs=[.int a,.int b])(h1:Q (.int (Int.gcd a b)) H)
def Ci:Sp:=λvs H Q _=>aev vs H Q
end
section
inductive ae6(vs:List V)(H:Hp)(Q:VK):Prop |mk (a:Int)(b:Int)(h0:vs=[.int a,.int b])(h1:b≠0)(h2:Wd b)(h3:∀t H',Nw H H' t (.tup [.int (_A.lowP a b),.int (_A.hU a b)])->Q (.ref t) H')
def wK:Sp:=λvs H Q _=>ae6 vs H Q
end
section
def oX(T:String):Bool:=jl T "int"&& !jl T "bool"
inductive aeh(K:aa)(vs:List V)(H:Hp)(Q:VK):Prop |mk (v:_)(T:_)(h0:vs=[v])(h1:vW K H v T)(h2:Q (.bl (oX T)) H)
def uy(K:aa):Sp:=λvs H Q _=>aeh K vs H Q
theorem QI:bo ["p","q","high","low"] ["p","q"] (aU Ij):=bp aJ
theorem a41(F:FA K mg "common_divisor" Ij)(B:bI mg):aA P w K mg aw "common_divisor" 1 Ci:=by
 erw[F.has QI (λvs H Q E h=>?_) (λ_ _ _ _ _ _=>dW λ_ _=>rfl) (λf aL A outer s H vs Q E hr h=>?_)]
 ·let(a,b,rfl,_):=h
  rfl
 ·let(a,b,rfl,k):=h
  have nd:=QI.nd;erw[_,(aB (zo (i:=2) (j:=3) Z nd Z Z az Z Z (ak (fG (x:="abs") vP Z (B.at "abs") yt (ak (pv 0) ay)) (ak (fG (x:="abs") vP rfl (B.at "abs") yt (ak (pv 1) ay)) ay)) rfl) (aB (xg gj (cf (kR K Z hr.units) (pv 3) aE (bS _)) (aI (zo (i:=2) (j:=3) Z nd Z Z az Z Z (ak (pv 3) (ak (aP uL (pv 2) (pv 3)) ay)) Z))) (aI (aQ (pv 2))))),?_];erw[_,Z,_,Z,_,Z,_,Z,_,_,Z,?_];erw[wC (λO H2=>H2=H/\∃(x y:Int),O=[some (.int a),some (.int b),some (.int x),some (.int y)]/\0<=x/\0<=y/\Int.gcd x y=Int.gcd a b) (λO _=>match O with|[_,_,_,some (.int y)]=>y.natAbs|_=>0) ?_ ?_ ?_]
  ·erw[Z,_,_,Z,by split<;>lia,by split<;>lia,?_]
   have h1:(if a<0 then-a else a).natAbs=a.natAbs:=by split<;>lia
   have h2:(if b<0 then-b else b).natAbs=b.natAbs:=by split<;>lia
   unfold Int.gcd;rw[h1,h2]
  ·rintro O H2 ⟨rfl,x,y,rfl,x0,y0,e⟩
   erw[El ?_];intro E1;erw[_,Z,.inl #[_,_,Z,Z,_,Z,?_]];erw[gd (λhc=>?_) (λhc=>?_)]
   ·have hy:y≠0:=by simpa using hc
    have ve:0<y:=by lia
    erw[_,Z,_,Z,_,Z,_,_,Z,Z,ve,_,_,Z,?_];erw[#[Z,_,_,Z,y0,wy _ hy,(_A.a99 ve).trans e],?_];show(x%y).natAbs<y.natAbs;have:=wy x hy;have:=yE x ve
    lia
   ·have hy:y=0:=by simpa using hc
    subst hy;erw[_,Z,?_];rw[Int.gcd_zero_right]at e;have e2:x=((Int.gcd a b:Nat):Int):=by lia
    rw[e2];erw[k]
  ·rintro O H2 Q1 Q2 hq ⟨v1,e1,h⟩
   erw[v1,e1,?_];rcases h with⟨i,j,e3,e4,kk,e5,q⟩|⟨d,e,r1,r2,s1,s2,kk,e5,q⟩
   ·erw[.inl #[i,j,e3,e4,kk,e5,hq _ _ q]]
   ·erw[.inr #[d,e,r1,r2,s1,s2,kk,e5,hq _ _ q]]
end
section
theorem Qq:bo ["thing"] ["thing"] (aU Hn):=bp aJ
theorem a3D(F:FA K mg "is_whole" Hn)(B:bI mg):aA P w K mg aw "is_whole" 1 (uy K):=by
 erw[F.has Qq (λvs H Q E h=>?_) (λ_ _ _ _ _ _=>dA λ_=>rfl) (λf aL A outer s H vs Q E hr h=>?_)]
 ·let(v,T,rfl,_):=h
  rfl
 ·let(v,T,rfl,ty,k):=h
  have nd:=Qq.nd;erw[_,(aI (aQ (qf (mi K B (ak (pv 0) (ak (mh (x:="int") (v:=.ty "int") Z (B.at "int") XB rfl) ay))) (oM (Jk (mi K B (ak (pv 0) (ak (mh (x:="bool") (v:=.ty "bool") rfl (B.at "bool") PyProof.Rows.boot_bool rfl) ay)))))))),?_];erw[_,Z,.inl #[_,T,"int",_,Z,ty,az,Z,_,Z,?_]];unfold oX at k;erw[gd (λhc=>?_) (λhc=>?_)]
  ·erw[_,Z,.inl #[_,T,"bool",_,Z,ty,az,Z,_,Z,?_]]
   rw[hc,jE]at k;erw[k]
  ·rw[EY.mpr hc,jF]at k
   erw[k]
end
end _a
namespace _a
open PySem PySem.Spec PyProof.Rows _L _l
section
def eK(ns:List Int)(sp:Int):ah:=.tuple [.str "line",.tuple (ns.map PyData.int),.int sp]
theorem K4(ns:List Int)(sp:Int):eA (eK ns sp)=true:=by simp[eK,eA,cA,mm]
structure fu(ax:Nat)(m:Int)(ns:List Int):Prop where
 len:ns.length=ax
 bd:∀z∈ns,(z.natAbs:Int)<=m
 nz:∃z∈ns,z≠0
theorem fu.lead{ax:Nat}{m:Int}{ns:List Int}(h:fu ax m ns):0<aG ns/\(aG ns:Int)<=m:=by
 erw[a5U h.nz,?_];have hm:0<=m:=by let(z,hz,_):=h.nz;have:=h.bd z hz;lia
 have:=qr (ns:=ns) (m:=m.toNat) λz hz=>by have:=h.bd z hz;lia
 lia
theorem fu.ne{ax:Nat}{m:Int}{ns:List Int}(h:fu ax m ns):ns≠[]:=by let(z,hz,_):=h.nz;intro e;subst e;cases hz
theorem oW{H:Hp}{v:V}{ns:List Int}{sp:Int}(h:RD K H v (eK ns sp)):∃a b,v= .ref a/\aW K H a [.str "line",.ref b,.int sp]/\aW K H b (ns.map V.int):=by let(a,xs,rfl,h1,h2):=h.cv;let(x1,r1,rfl,e1,h2):=h2.cons_inv;let(x2,r2,rfl,e2,h2):=h2.cons_inv;let(x3,r3,rfl,e3,h2):=h2.cons_inv;cases h2.nil_inv;cases e1.str_inv;cases e3.int_inv;let(b,ys,rfl,h3,h4):=e2.cv;rw[h4.gh]at h3;erw[a,b,Z,h1,h3]
inductive aea(K:aa)(vs:List V)(H:Hp)(Q:VK):Prop |mk (v:_)(ns:_)(sp:_)(h0:vs=[v])(h1:RD K H v (eK ns sp))(h2:ns≠[])(h3:ns.length<=1000)(h4:∀H',aH H H'->Q (.int (aG ns)) H')
def mY(K:aa):Sp:=λvs H Q _=>aea K vs H Q
theorem oS{ns:List Int}{f:Int->ah}{i:Nat}{d:ah}(h:(ns.map f)[i]? =some d):∃n,ns[i]? =some n/\f n=d:=by rw[bP]at h;cases e:ns[i]? with |none=>rw[e]at h;cases h |some n=>rw[e]at h;erw[n,Z,eX h]
theorem D9{ns:List Int}{i:Nat}{x:V}{n:Int}(h:(ns.map V.int)[i]? =some x)(e:ns[i]? =some n):x= .int n:=by rw[bP,e]at h;exact(eX h).symm
theorem Qe:bo ["line"] ["line"] (aU Hd):=bp aJ
theorem a3A(F:FA K mg "lead_of" Hd)(B:bI mg):aA P w K mg aw "lead_of" 1 (mY K):=by
 erw[F.has Qe (λvs H Q E h=>?_) (λ_ _ _ _ _ _=>dA λ_=>rfl) (λf aL A outer s H vs Q E hr h=>?_)]
 ·let(v,ns,sp,rfl,_):=h
  rfl
 ·let(v,ns,sp,rfl,rd,cS,hz,k):=h
  have nd:=Qe.nd;let(a,b,rfl,ha,hb):=oW rd;erw[_,(aI (aQ (fG (x:="max") (TH K Z Z) Z (B.at "max") MU (ak (eU (N:=["step"]) (js:=[none]) rfl rfl rfl (j5 K rfl (px K (pv 0) aE)) (λ_ _ _ _ _=>(aV 0 (iO _))) (λ_ _ _ _ _=>dZ) (λ_ _ _ _ _=>(fG (x:="abs") vP rfl (B.at "abs") yt (ak (pv 0) ay)))) ay)))),?_];erw[_,Z,.inr #[a,_,1,.ref b,Z,Z,ha,Z,b,Z,#[_,hb],λD H0 nw=>?_]];erw[qS (K:=K) (xs:=ns.map V.int) (ds:=(ns.map oh).map PyData.int) [] hb nw (by simp) (by simpa using hz) (mm _) ?_ ?_]
  ·intro i x d H2 Q' ex ed s2 hq
   let(m,em,rfl):=oS ed;rw[bP]at em;cases en:ns[i]? with |none=>rw[en]at em;cases em |some n=>rw[en]at em;cases em;cases D9 ex en;erw[_,Z,n,Z,hq _ _ (aH.refl _) (fP _)]
  ·intro H' ys s2 d2 r2
   rw[r2.gh]at d2;erw[D,_,Z,aF.of d2,by simpa using cS,λM h1 h2=>?_];rw[Uj cS h1 h2];erw[k H' s2]
end
end _a
namespace _a
open PySem PySem.Spec PyProof.Rows _L _b
section
theorem Qh:bo ["p","q","divisor"] ["p","q"] (aU Hf):=bp aJ
theorem a3t(F:FA K mg "lowest_terms" Hf)(B:bI mg)(KL:aA P w K mg aw "common_divisor" 1 Ci):aA P w K mg aw "lowest_terms" 2 wK:=by
 erw[F.has Qh (λvs H Q E h=>?_) (λ_ _ _ _ _ _=>dW λ_ _=>rfl) (λf aL A outer s H vs Q E hr h=>?_)]
 ·let(a,b,rfl,_):=h
  rfl
 ·let(a,b,rfl,hb,wb,k):=h
  have nd:=Qh.nd;have sw:Wd (_A.sg a b):=MZ (_A.ZR hb) wb;erw[_,(aB (pS 2 nd (pf KL hr (ak (pv 0) (ak (pv 1) ay)))) (aB (j3 (bL (cf qh (pv 1) aE (bS _)) (aI (pS 2 nd (jN jH (pv 2)))) bQ)) (aI (aQ (j6 (ak (aP SF (pv 0) (pv 2)) (ak (aP SF (pv 1) (pv 2)) ay))))))),?_];erw[_,Z,_,Z,a,b,Z,?_];erw[λO H'=>H'=H/\O=[some (.int a),some (.int b),some (.int (_A.sg a b))],?_,?_]
  ·erw[_,Z,_,_,Z,Z,_,Z,?_]
   erw[gd (λhc=>?_) (λhc=>?_)]
   ·have hd:b<0:=m4 hc
    erw[_,Z,_,Z,?_];erw[Z,?_];unfold _A.sg;rw[bc hd];rfl
   ·have hd:¬b<0:=λz=>hc (cu z)
    erw[Z,?_];unfold _A.sg;rw[bj hd];rfl
  rintro O H' ⟨rfl,rfl⟩;erw[_,Z,_,Z,_,_,Z,Z,#[_A.zb hb,sw],_,Z,_,Z,_,_,Z,Z,#[_A.zb hb,sw],(by show 2<=sizeLine;decide),λt H4 nw=>?_];erw[k t H4 nw]
def bM(K:aa)(H:Hp)(v:V)(r:Rat):Prop:=∃p,v= .ref p/\aW K H p [.int r.num,.int r.den]
theorem bM.go{H H':Hp}{v:V}{r:Rat}(h:bM K H v r)(s:aH H H'):bM K H' v r:=by let(p,e,q):=h;erw[p,e,q.go s]
def cQ(r:Rat):ah:=.tuple [.int r.num,.int r.den]
theorem bM.rd{H:Hp}{v:V}{r:Rat}(h:bM K H v r):RD K H v (cQ r):=by let(p,rfl,q):=h;erw[fO q (cE (fP _) (cE (fP _) cX))]
theorem a17(r:Rat):dq 1 (cQ r):=iq.tup (.cons (.int _) (.cons (.int _) .nil))
theorem eqR{r s:Rat}(h:r=s):PyData.eqv (cQ r) (cQ s)=true:=by rw[h];exact(a17 s).refl
theorem m6{n:Nat}{i:Int}(h:i.natAbs<2^n)(l:n<=5000):Wd i:=gR h (wm az l)
theorem _root_._b.Bd.wn{r:Rat}(h:Bd 2000 r):Wd r.num:=m6 h.num az
theorem _root_._b.Bd.wd{r:Rat}(h:Bd 2000 r):Wd (r.den:Int):=m6 (n:=2000) (by have:=h.den;omega) az
theorem F1{r s:Rat}(h:Bd 2000 r)(g:Bd 2000 s):Wd ((r.den:Int)*(s.den:Int)):=m6 (n:=4000) (LX h g) az
theorem Cw{H':Hp}{t:Addr}{a b:Int}{r:Rat}(hb:b≠0)(e:r=Rat.divInt a b)(h:H' t=some (.tup [.int (_A.lowP a b),.int (_A.hU a b)])):bM K H' (.ref t) r:=by let(e1,e2):=K1 (a:=a) hb;rw[e1,e2,<-e]at h;erw[t,Z,aW.of h]
inductive adQ(op:Rat->Rat->Rat)(K:aa)(vs:List V)(H:Hp)(Q:VK):Prop |mk (v1:_)(v2:_)(r:_)(s:_)(h0:vs=[v1,v2])(h1:bM K H v1 r)(h2:bM K H v2 s)(h3:Bd 2000 r)(h4:Bd 2000 s)(h5:∀v H',bM K H' v (op r s)->aH H H'->Q v H')
def uv(op:Rat->Rat->Rat)(K:aa):Sp:=λvs H Q _=>adQ op K vs H Q
theorem PV:bo ["one","other","p","q","r","s"] ["one","other"] (aU GK):=bp aJ
theorem a3f(F:FA K mg "plus" GK)(B:bI mg)(vi:aA P w K mg aw "lowest_terms" 2 wK):aA P w K mg aw "plus" 3 (uv (·+·) K):=by
 erw[F.has PV (λvs H Q E h=>?_) (λ_ _ _ _ _ _=>dW λ_ _=>rfl) (λf aL A outer s H vs Q E hr h=>?_)]
 ·let(v1,v2,r,s,rfl,_):=h
  rfl
 ·let(v1,v2,r,s,rfl,(p,rfl,hp),(q,rfl,hq),br,bs,k):=h
  have nd:=PV.nd;erw[_,(aB (fh (pv 0) (eg K Z (n:=2) Z (bV (aV 2 nd) (bV (aV 3 nd) e9)))) (aB (fh (pv 1) (eg K Z (n:=2) Z (bV (aV 4 nd) (bV (aV 5 nd) e9)))) (aI (aQ (pf vi hr (ak (aP eu (aP cK (pv 2) (pv 5)) (aP cK (pv 4) (pv 3))) (ak (aP cK (pv 3) (pv 5)) ay))))))),?_];erw[_,Z,_,_,Z,hp,Z,_,_,Z,_,_,Z,Z,?_];erw[_,Z,_,_,Z,hq,Z,_,_,Z,_,_,Z,Z,?_];erw[_,Z,_,Z,_,_,Z,Z,oB br.wn.bits bs.wd.bits,_,Z,_,Z,_,_,Z,Z,oB bs.wn.bits br.wd.bits,_,_,Z,Z,_,Z,_,Z,_,_,Z,Z,oB br.wd.bits bs.wd.bits,?_];erw[_,_,Z,qR r s,F1 br bs,λt H' nw=>k _ _ (Cw (qR r s) (add_div r s) nw.at') nw.same]
theorem Q8:bo ["one","other","p","q","r","s"] ["one","other"] (aU GX):=bp aJ
theorem a3q(F:FA K mg "minus" GX)(B:bI mg)(vi:aA P w K mg aw "lowest_terms" 2 wK):aA P w K mg aw "minus" 3 (uv (·-·) K):=by
 erw[F.has Q8 (λvs H Q E h=>?_) (λ_ _ _ _ _ _=>dW λ_ _=>rfl) (λf aL A outer s H vs Q E hr h=>?_)]
 ·let(v1,v2,r,s,rfl,_):=h
  rfl
 ·let(v1,v2,r,s,rfl,(p,rfl,hp),(q,rfl,hq),br,bs,k):=h
  have nd:=Q8.nd;erw[_,(aB (fh (pv 0) (eg K Z (n:=2) Z (bV (aV 2 nd) (bV (aV 3 nd) e9)))) (aB (fh (pv 1) (eg K Z (n:=2) Z (bV (aV 4 nd) (bV (aV 5 nd) e9)))) (aI (aQ (pf vi hr (ak (aP j9 (aP cK (pv 2) (pv 5)) (aP cK (pv 4) (pv 3))) (ak (aP cK (pv 3) (pv 5)) ay))))))),?_];erw[_,Z,_,_,Z,hp,Z,_,_,Z,_,_,Z,Z,?_];erw[_,Z,_,_,Z,hq,Z,_,_,Z,_,_,Z,Z,?_];erw[_,Z,_,Z,_,_,Z,Z,oB br.wn.bits bs.wd.bits,_,Z,_,Z,_,_,Z,Z,oB bs.wn.bits br.wd.bits,_,_,Z,Z,_,Z,_,Z,_,_,Z,Z,oB br.wd.bits bs.wd.bits,?_];erw[_,_,Z,qR r s,F1 br bs,λt H' nw=>k _ _ (Cw (qR r s) (Zm r s) nw.at') nw.same]
theorem Pc:bo ["one","other","p","q","r","s"] ["one","other"] (aU G1):=bp aJ
theorem a2C(F:FA K mg "times" G1)(B:bI mg)(vi:aA P w K mg aw "lowest_terms" 2 wK):aA P w K mg aw "times" 3 (uv (·*·) K):=by
 erw[F.has Pc (λvs H Q E h=>?_) (λ_ _ _ _ _ _=>dW λ_ _=>rfl) (λf aL A outer s H vs Q E hr h=>?_)]
 ·let(v1,v2,r,s,rfl,_):=h
  rfl
 ·let(v1,v2,r,s,rfl,(p,rfl,hp),(q,rfl,hq),br,bs,k):=h
  have nd:=Pc.nd;erw[_,(aB (fh (pv 0) (eg K Z (n:=2) Z (bV (aV 2 nd) (bV (aV 3 nd) e9)))) (aB (fh (pv 1) (eg K Z (n:=2) Z (bV (aV 4 nd) (bV (aV 5 nd) e9)))) (aI (aQ (pf vi hr (ak (aP cK (pv 2) (pv 4)) (ak (aP cK (pv 3) (pv 5)) ay))))))),?_];erw[_,Z,_,_,Z,hp,Z,_,_,Z,_,_,Z,Z,?_];erw[_,Z,_,_,Z,hq,Z,_,_,Z,_,_,Z,Z,?_];erw[_,Z,_,Z,_,_,Z,Z,oB br.wn.bits bs.wn.bits,_,Z,_,Z,_,_,Z,Z,oB br.wd.bits bs.wd.bits,?_];erw[_,_,Z,qR r s,F1 br bs,λt H' nw=>k _ _ (Cw (qR r s) (mul_div r s) nw.at') nw.same]
inductive ae8(K:aa)(vs:List V)(H:Hp)(Q:VK):Prop |mk (v1:_)(v2:_)(r:_)(s:_)(h0:vs=[v1,v2])(h1:bM K H v1 r)(h2:bM K H v2 s)(h3:Bd 2000 r)(h4:Bd 2000 s)(h5:Q (.bl (decide (r<s))) H)
def uw(K:aa):Sp:=λvs H Q _=>ae8 K vs H Q
theorem Qc:bo ["one","other","p","q","r","s"] ["one","other"] (aU Hb):=bp aJ
theorem a3x(F:FA K mg "is_less" Hb)(B:bI mg):aA P w K mg aw "is_less" 1 (uw K):=by
 erw[F.has Qc (λvs H Q E h=>?_) (λ_ _ _ _ _ _=>dW λ_ _=>rfl) (λf aL A outer s H vs Q E hr h=>?_)]
 ·let(v1,v2,r,s,rfl,_):=h
  rfl
 ·let(v1,v2,r,s,rfl,(p,rfl,hp),(q,rfl,hq),br,bs,k):=h
  have nd:=Qc.nd;erw[_,(aB (fh (pv 0) (eg K Z (n:=2) Z (bV (aV 2 nd) (bV (aV 3 nd) e9)))) (aB (fh (pv 1) (eg K Z (n:=2) Z (bV (aV 4 nd) (bV (aV 5 nd) e9)))) (aI (aQ (jq qh (aP cK (pv 2) (pv 5)) (aP cK (pv 4) (pv 3)) (bS _)))))),?_];erw[_,Z,_,_,Z,hp,Z,_,_,Z,_,_,Z,Z,?_];erw[_,Z,_,_,Z,hq,Z,_,_,Z,_,_,Z,Z,?_];erw[_,Z,_,Z,_,_,Z,Z,oB br.wn.bits bs.wd.bits,_,Z,_,Z,_,_,Z,Z,oB bs.wn.bits br.wd.bits,_,_,Z,Z,?_];have e:decide (r.num*(s.den:Int)<s.num*(r.den:Int))=decide (r<s):=by rw[kj,decide_eq_true_iff,decide_eq_true_iff,Rat.lt_iff]
  show Q (.bl (decide (r.num*(s.den:Int)<s.num*(r.den:Int)))) H;rw[e];erw[k]
def fg(K:aa)(H:Hp):List V->List Rat->Prop |[],[]=>True |v::vs,r::rs=>bM K H v r/\Bd 2000 r/\fg K H vs rs |_,_=>False
theorem fg.go{H H':Hp}(s:aH H H'):∀{vs:List V}{rs:List Rat},fg K H vs rs->fg K H' vs rs |[],[],_=>trivial |v::vs,r::rs,h=>#[h.1.go s,h.2.1,fg.go s h.2.2] |[],_::_,h=>h.elim |_::_,[],h=>h.elim
theorem fg.length{H:Hp}:∀{vs:List V}{rs:List Rat},fg K H vs rs->vs.length=rs.length |[],[],_=>rfl |v::vs,r::rs,h=>by rw[gz,gz,fg.length h.2.2] |[],_::_,h=>h.elim |_::_,[],h=>h.elim
theorem fg.get{H:Hp}:∀{vs:List V}{rs:List Rat}{i:Nat}{v:V},fg K H vs rs->vs[i]? =some v->∃r,rs[i]? =some r/\bM K H v r/\Bd 2000 r
 |[],[],i,v,_,e=>by simp at e |v::vs,r::rs,0,v',h,e=>by
  have e':v=v':=by simpa using e
  subst e';erw[r,Z,h.1,h.2.1] |v::vs,r::rs,i+1,v',h,e=>by let(r',e1,q):=fg.get h.2.2 (show vs[i]? =some v' by simpa using e);erw[r',by simpa using e1,q] |[],_::_,_,_,h,_=>h.elim |_::_,[],_,_,h,_=>h.elim
inductive ae9(K:aa)(vs:List V)(H:Hp)(Q:VK):Prop |mk (l:_)(xs:_)(rs:_)(h0:vs=[.ref l])(h1:aF K H l xs)(h2:fg K H xs rs)(h3:xs≠[])(h4:∀(i:Nat)(v:V)(r:Rat),xs[i]? =some v->rs[i]? =some r->(∀s∈rs,r<=s)->Q v H)
def md(K:aa):Sp:=λvs H Q _=>ae9 K vs H Q
theorem Qd:bo ["some","best","one"] ["some"] (aU Hc):=bp aJ
theorem a3z(F:FA K mg "least" Hc)(B:bI mg)(qF:aA P w K mg aw "is_less" 1 (uw K)):aA P w K mg aw "least" 2 (md K):=by
 erw[F.has Qd (λvs H Q E h=>?_) (λ_ _ _ _ _ _=>dA λ_=>rfl) (λf aL A outer s H vs Q E hr h=>?_)]
 ·let(l,xs,rs,rfl,_):=h
  rfl
 ·let(l,xs,rs,rfl,hl,nG,cS,k):=h
  have nd:=Qd.nd;erw[_,(aB (pS 1 nd (px K (pv 0) aE)) (aB (iB gj Z (nk K Z (pv 0)) (aV 2 nd) (aI (bL (cw (pf qF hr (ak (pv 2) (ak (pv 1) ay)))) (aI (pS 1 nd (pv 2))) bQ))) (aI (aQ (pv 1))))),?_];have hlen:=nG.length;have h0:0<xs.length:=Bu.mpr cS;have e0:=bN h0;erw[_,Z,.inl #[l,xs,0,xs[0],Z,Z,hl,cx az e0,?_]];erw[_,Z,l,Z,#[_,hl],Vw (K:=K) (a:=l) (xs:=xs) (λi O H2=>H2=H/\∃(j:Nat)(b:V)(r:Rat)(v:Option V),xs[j]? =some b/\rs[j]? =some r/\(∀(m:Nat)(s:Rat),m<i->rs[m]? =some s->r<=s)/\O=[some (.ref l),some b,v]) ?_ (λi O H2 _ h=>by rw[h.1];erw[hl]) ?_ ?_]
  ·let(r,e1,_):=nG.get e0
   erw[Z,0,_,r,none,e0,e1,λm s hm=>absurd hm (Nat.not_lt_zero _),Z]
  ·rintro i x O H2 hx ⟨rfl,j,b,r,v,eb,er,hm,rfl⟩
   erw[iG ?_];intro E1;let(t,et,rt,bt):=nG.get hx;let(r2,VF,rb,bb):=nG.get eb;rw[er]at VF;cases VF;erw[_,Z,_,Z,x,b,t,r,Z,rt,rb,bt,bb,_,Z,?_];erw[gd (λhc=>?_) (λhc=>?_)]
   ·have cB:t<r:=m4 hc
    erw[_,Z,?_];erw[Z,i,x,t,_,hx,et,λm s Ky es=>?_,Z];rcases Nat.lt_succ_iff_lt_or_eq.mp Ky with h|h
    ·erw[cM (Rat.le_of_lt cB) (hm m s h es)]
    ·subst h
     rw[et]at es;cases es;erw[iI]
   ·have hnl:¬t<r:=λz=>hc (cu z)
    erw[Z,j,b,r,_,eb,er,λm s Ky es=>?_,Z];rcases Nat.lt_succ_iff_lt_or_eq.mp Ky with h|h
    ·erw[hm m s h es]
    ·subst h
     rw[et]at es;cases es;erw[EI.mp hnl]
  ·rintro O H2 ⟨rfl,j,b,r,v,eb,er,hm,rfl⟩
   erw[_,Z,k j b r eb er λs hs=>?_];let(m,hml,em):=XG.mp hs;erw[hm m s ao (by rw[bN hml,em])]
inductive ae3(K:aa)(vs:List V)(H:Hp)(Q:VK):Prop |mk (a:_)(b:_)(h0:vs=[.int a,.int b])(h1:b≠0)(h2:Wd b)(h3:∀v H',bM K H' v (Rat.divInt a b)->aH H H'->Q v H')
def wJ(K:aa):Sp:=λvs H Q _=>ae3 K vs H Q
theorem Qy:bo ["p","q"] ["p","q"] (aU HH):=bp aJ
theorem a3Q(F:FA K mg "fraction" HH)(B:bI mg)(nM:aA P w K mg aw "is_whole" 1 (uy K))(vi:aA P w K mg aw "lowest_terms" 2 wK):aA P w K mg aw "fraction" 3 (wJ K):=by
 erw[F.has Qy (λvs H Q E h=>?_) (λ_ _ _ _ _ _=>dW λ_ _=>rfl) (λf aL A outer s H vs Q E hr h=>?_)]
 ·let(a,b,rfl,_):=h
  rfl
 ·let(a,b,rfl,hb,wb,k):=h
  have nd:=Qy.nd;erw[_,(aB (bL (PW.pt (iL (cT (cw (pf nM hr (ak (pv 0) ay)))) (jL (cT (cw (pf nM hr (ak (pv 1) ay))))))) (aI ku) bQ) (aB (bL (cf (dU K Z hr.units) (pv 1) aE (bS _)) (aI ku) bQ) (aI (aQ (pf vi hr (ak (pv 0) (ak (pv 1) ay))))))),?_];have iw:oX "int"=true:=by decide
  erw[_,Z,_,"int",Z,Z,_,Z,?_];rw[iw];erw[aR ?_];erw[_,Z,_,"int",Z,Z,_,Z,?_];rw[iw];erw[aR ?_];erw[_,Z,.inl #[_,_,Z,Z,_,Z,?_]];rw[dM hb];erw[aR ?_];erw[_,Z,_,Z,_,_,Z,hb,wb,λt H' nw=>k _ _ (Cw hb Z nw.at') nw.same]
inductive aei(K:aa)(vs:List V)(H:Hp)(Q:VK):Prop |mk (v:_)(r:_)(h0:vs=[v])(h1:bM K H v r)(h2:Q (.bl true) H)
def OI(K:aa):Sp:=λvs H Q _=>aei K vs H Q
theorem Qw:bo ["thing","p","q"] ["thing"] (aU Hu):=bp aJ
theorem a3H(F:FA K mg "is_fraction" Hu)(B:bI mg)(nM:aA P w K mg aw "is_whole" 1 (uy K))(KL:aA P w K mg aw "common_divisor" 1 Ci):aA P w K mg aw "is_fraction" 2 (OI K):=by
 erw[F.has Qw (λvs H Q E h=>?_) (λ_ _ _ _ _ _=>dA λ_=>rfl) (λf aL A outer s H vs Q E hr h=>?_)]
 ·let(v,r,rfl,_):=h
  rfl
 ·let(v,r,rfl,(p,rfl,hp),k):=h
  have nd:=Qw.nd;erw[_,(aB (bL (PW.pt (iL (cT (cw (mi K B (ak (pv 0) (ak (mh (x:="tuple") (v:=.ty "tuple") Z (B.at "tuple") ir rfl) ay))))) (jL (cf (kR K rfl hr.units) (fU K B (ak (pv 0) ay)) aE (bS _))))) (aI (aQ j7)) bQ) (aB (fh (pv 0) (eg K Z (n:=2) Z (bV (aV 1 nd) (bV (aV 2 nd) e9)))) (aB (bL (PW.pt (iL (cT (cw (pf nM hr (ak (pv 1) ay)))) (jL (cT (cw (pf nM hr (ak (pv 2) ay))))))) (aI (aQ j7)) bQ) (aI (aQ (qf (jq CL (pv 2) aE (bS _)) (oM (jq (dU K Z hr.units) (pf KL hr (ak (pv 1) (ak (pv 2) ay))) aE (bS _))))))))),?_];have iw:oX "int"=true:=by decide
  have mU:jl "tuple" "tuple"=true:=by decide
  erw[_,Z,.inl #[_,"tuple","tuple",true,Z,.inr #[Z,_,hp],az,mU,_,Z,aR ?_]];erw[_,Z,p,_,Z,.inr hp,.inl #[_,_,Z,Z,_,Z,aR ?_]];erw[_,Z,p,_,Z,hp,Z,_,_,Z,_,_,Z,Z,?_];erw[_,Z,_,"int",Z,Z,_,Z,?_];rw[iw];erw[aR ?_];erw[_,Z,_,"int",Z,Z,_,Z,?_];rw[iw];erw[aR ?_];erw[_,Z,_,_,Z,Z,_,Z,?_];rw[cu (den_pos r)];erw[bR ?_];erw[_,Z,_,Z,_,_,Z,.inl #[_,_,Z,Z,?_]];rw[cop r];erw[k]
end
end _a
namespace _a
open PySem PySem.Spec PyProof.Rows _L _b _l
section
def fJ(rs:List Int)(r f j t:Int):ah:=.tuple [.tuple (rs.map PyData.int),.int r,.int f,.int j,.int t]
theorem kT(rs:List Int)(r f j t:Int):eA (fJ rs r f j t)=true:=by simp[fJ,eA,cA,mm]
theorem oT{H:Hp}{v:V}{rs:List Int}{r f j t:Int}(h:RD K H v (fJ rs r f j t)):∃a b,v= .ref a/\aW K H a [.ref b,.int r,.int f,.int j,.int t]/\aW K H b (rs.map V.int):=by let(a,xs,rfl,h1,h2):=h.cv;let(x1,r1,rfl,e1,h2):=h2.cons_inv;let(x2,r2,rfl,e2,h2):=h2.cons_inv;let(x3,r3,rfl,e3,h2):=h2.cons_inv;let(x4,r4,rfl,e4,h2):=h2.cons_inv;let(x5,r5,rfl,e5,h2):=h2.cons_inv;cases h2.nil_inv;cases e2.int_inv;cases e3.int_inv;cases e4.int_inv;cases e5.int_inv;let(b,ys,rfl,h3,h4):=e1.cv;rw[h4.gh]at h3;erw[a,b,Z,h1,h3]
structure gG(rs:List Int)(r f j t:Int):Prop where
 len:rs.length=2\/rs.length=3
 rl:∀z∈rs,1<=z/\z<=100
 r1:1<=r/\r<=50
 f1:1<=f/\f<=50
 j1:1<=j/\j<=50
 t1:1<=t/\t<=100
inductive ae5(K:aa)(vs:List V)(H:Hp)(Q:VK):Prop |mk (p:_)(h0:vs=[.ref p])(h1:gH H p)(h2:∀v rs r f j t H',RD K H' v (fJ rs r f j t)->gG rs r f j t->bO p H H'->Q v H')
def OD(K:aa):Sp:=λvs H Q _=>ae5 K vs H Q
end
section
abbrev Itm:=Option (List Int × Int)
def itR(d:ah)(o:Itm):Prop:=(∃ns sp,d=eK ns sp/\o=some (ns,sp))\/∃w x,d= .tuple [.str w,x]/\(w="wait"\/w="tool"\/w="mark")/\eA x=true/\o=none
theorem itR.no{d:ah}{o:Itm}(h:itR d o):eA d=true:=by
 rcases h with⟨ns,sp,rfl,_⟩|⟨w,x,rfl,_,h,_⟩
 ·erw[K4 _ _]
 ·simp[eA,cA,h]
theorem A2{H:Hp}{v:V}{d:ah}{o:Itm}(h:RD K H v d)(i:itR d o):∃a w ys,v= .ref a/\aW K H a (.str w::ys)/\(PyData.eqv (.str w) (.str "line")=o.isSome)/\SeqAt.shaped (.str w)=true:=by
 rcases i with⟨ns,sp,rfl,rfl⟩|⟨w,x,rfl,hw,_,rfl⟩
 ·let(a,b,rfl,h1,_):=oW h
  erw[a,_,_,Z,h1,(by show PyData.eqv (.str "line") (.str "line")=true;decide+kernel),aJ]
 ·let(a,xs,rfl,h1,h2):=h.cv
  let(x1,r1,rfl,e1,h2):=h2.cons_inv;cases e1.str_inv;erw[a,w,r1,Z,h1,?_,?_]
  ·show PyData.eqv (.str w) (.str "line")=false
   rcases hw with rfl|rfl|rfl<;>decide+kernel
  ·rcases hw with rfl|rfl|rfl<;>decide+kernel
theorem a5O:SeqAt.shaped (.str "line")=true:=by decide+kernel
theorem iQ{d:ah}{ns:List Int}{sp:Int}(h:itR d (some (ns,sp))):d=eK ns sp:=by
 rcases h with⟨zM,pV,e1,e2⟩|⟨_,_,_,_,_,e2⟩
 ·cases e2;erw[e1]
 ·cases e2
structure cW(ax:Nat)(ds:List ah)(os:List Itm):Prop where
 len:ds.length=os.length
 it:∀(i:Nat)(d:ah)(o:Itm),ds[i]? =some d->os[i]? =some o->itR d o
 ok:∀(i:Nat)(ns:List Int)(sp:Int),os[i]? =some (some (ns,sp))->fu ax 100 ns/\1<=sp/\sp<=20
theorem cW.nil{ax:Nat}:cW ax [] []:=#[Z,λi d o e=>by simp at e,λi ns sp e=>by simp at e]
theorem oH{α:Type}{xs:List α}{x y:α}{j:Nat}(e:(xs++[x])[j]? =some y):xs[j]? =some y\/(j=xs.length/\y=x):=by
 by_cases hj:j<xs.length
 ·rw[oz hj]at e;erw[.inl e]
 ·have qE:j=xs.length:=by
   have:=(cJ.mp e).1;rw[cD]at this;have:j<xs.length+1:=this
   lia
  rw[qE,ow (bf _),Bq]at e;erw[.inr #[qE,(eX e).symm]]
theorem cW.snoc{ax:Nat}{ds:List ah}{os:List Itm}{d:ah}{o:Itm}(h:cW ax ds os)(i:itR d o)(g:∀ns sp,o=some (ns,sp)->fu ax 100 ns/\1<=sp/\sp<=20):cW ax (ds++[d]) (os++[o]):=by
 have hl:=h.len;erw[by rw[cD,cD,h.len];rfl,λj d' o' e1 e2=>?_,λj ns sp e=>?_]
 ·rcases oH e1 with e1|⟨j1,rfl⟩
  ·rcases oH e2 with e2|⟨j2,rfl⟩
   ·erw[h.it j d' o' e1 e2]
   ·have:=(cJ.mp e1).1;lia
  ·rcases oH e2 with e2|⟨j2,rfl⟩
   ·have:=(cJ.mp e2).1;lia
   ·erw[i]
 ·rcases oH e with e|⟨_,e⟩
  ·erw[h.ok j ns sp e]
  ·erw[g ns sp e.symm]
theorem cW.no{ax:Nat}{ds:List ah}{os:List Itm}(h:cW ax ds os):cA ds=true:=eF.mpr λd hd=>by let(i,hi):=ou.mp hd;have hl:=(cJ.mp hi).1;exact(h.it i d _ hi (bN (by rw[<-h.len];erw[hl]))).no
theorem cW.get{ax:Nat}{ds:List ah}{os:List Itm}(h:cW ax ds os){i:Nat}{d:ah}(e:ds[i]? =some d):∃o,os[i]? =some o/\itR d o:=by have hl:=(cJ.mp e).1;have e2:=bN (show i<os.length by rw[<-h.len];erw[hl]);erw[_,e2,h.it i d _ e e2]
theorem aK.wN{H:Hp}{l:Addr}{ys:List V}{y:V}{ds:List ah}{d:ah}(dl:H l=some (.lst ys))(r:aK K H ys ds)(rd:RD K H y d)(n1:cA ds=true)(n2:eA d=true):aK K (_L.upd H l (.lst (ys++[y]))) (ys++[y]) (ds++[d]):=by have t:fm H (_L.upd H l (.lst (ys++[y]))):=.iX dl;exact(aK.t t _ n1 r).append (cE (RD.t t _ n2 rd) cX)
inductive aek(K:aa)(vs:List V)(H:Hp)(Q:VK):Prop |mk (v:_)(d:_)(o:_)(h0:vs=[v])(h1:RD K H v d)(h2:itR d o)(h3:Q (.bl o.isSome) H)
def mZ(K:aa):Sp:=λvs H Q _=>aek K vs H Q
theorem Qo:bo ["item"] ["item"] (aU Hm):=bp aJ
theorem a3I(F:FA K mg "is_line" Hm)(B:bI mg):aA P w K mg aw "is_line" 1 (mZ K):=by
 erw[F.has Qo (λvs H Q E h=>?_) (λ_ _ _ _ _ _=>dA λ_=>rfl) (λf aL A outer s H vs Q E hr h=>?_)]
 ·let(v,d,o,rfl,_):=h
  rfl
 ·let(v,d,o,rfl,ri,it,k):=h
  have nd:=Qo.nd;erw[_,(aI (aQ (jq (dU K Z hr.units) (px K (pv 0) aE) bW (bS _)))),?_];let(a,wd,ys,rfl,h1,ew,sw):=A2 ri it;erw[_,Z,.inr #[a,_,0,.str wd,Z,Z,h1,cx (df 0) Z,.inr #[_,_,bJ _,bJ _,sw,a5O,?_]]];rw[ew];erw[k]
theorem oE{H:Hp}:∀{xs:List V}{zs:List Str},aK K H xs (zs.map PyData.str)->xs=zs.map V.str |xs,[],h=>h.nil_inv |xs,n::ns,h=>by let(y,ys,rfl,h1,h2):=h.cons_inv;rw[h1.str_inv,oE h2];rfl
theorem acS:ka.cps.toList.length=26:=by decide+kernel
end
section
theorem AX{α:Type}{xs:List α}{x:α}(h:xs.getLast? =some x):fc xs (-1)=some x:=by
 unfold fc jv;have hl:xs≠[]:=by intro e;rw[e]at h;cases h
 have h0:0<xs.length:=Bu.mpr hl;rw[bj az,bc ao];rw[N7]at h;show xs[((-1:Int)+(xs.length:Int)).toNat]? =some x;have e:((-1:Int)+(xs.length:Int)).toNat=xs.length-1:=by lia
 rw[e];erw[h]
end
end _a
namespace _a
open PySem PySem.Spec PyProof.Rows _L _b
section
def Yc(ns:List Int):ah:=.tuple (ns.map λz=>cQ (Rat.divInt z (_l.aG ns)))
theorem qd(r:Rat):eA (cQ r)=true:=by simp[cQ,eA,cA]
theorem T4{α:Type}{f:α->ah}(h:∀a,eA (f a)=true)(l:List α):cA (l.map f)=true:=eF.mpr λd hd=>by let(a,_,rfl):=cI.mp hd;erw[h a]
inductive adh(K:aa)(vs:List V)(H:Hp)(Q:VK):Prop |mk (v:_)(ns:_)(sp:_)(h0:vs=[v])(h1:RD K H v (eK ns sp))(h2:fu ns.length 1000 ns)(h3:ns.length<=1000)(h4:∀v' H',RD K H' v' (Yc ns)->aH H H'->Q v' H')
def Oa(K:aa):Sp:=λvs H Q _=>adh K vs H Q
theorem P7:bo ["line","lead"] ["line"] (aU FW):=bp aJ
theorem a2y(F:FA K mg "ways_of" FW)(B:bI mg)(jw:aA P w K mg aw "lead_of" 1 (mY K))(tf:aA P w K mg aw "fraction" 3 (wJ K)):aA P w K mg aw "ways_of" 4 (Oa K):=by
 erw[F.has P7 (λvs H Q E h=>?_) (λ_ _ _ _ _ _=>dA λ_=>rfl) (λf aL A outer s H vs Q E hr h=>?_)]
 ·let(v,ns,sp,rfl,_):=h
  rfl
 ·let(v,ns,sp,rfl,rd,ok,hz,k):=h
  have nd:=P7.nd;erw[_,(aB (pS 1 nd (pf jw hr (ak (pv 0) ay))) (aI (aQ (dh (x:="tuple") (kn K Z) Z (B.at "tuple") ir (ak (eU (N:=["step","lead"]) (js:=[none,some 1]) rfl rfl rfl (j5 K rfl (px K (pv 0) aE)) (λ_ _ _ _ _=>(aV 0 (jQ az))) (λ_ _ _ _ _=>dZ) (λ_ _ _ _ _=>(pf tf hr (ak (pv 0) (ak (pv 1) ay))))) ay))))),?_];erw[_,Z,v,ns,sp,Z,rd,ok.ne,hz,λH1 s1=>?_];let(a,b,rfl,ha,hb):=oW (RD.mono s1 _ rd);let(lp,lm):=ok.lead;erw[_,Z,.inr #[a,_,1,.ref b,Z,Z,ha,Z,b,Z,#[_,hb],λD H0 nw=>?_]];erw[qS (K:=K) (xs:=ns.map V.int) (ds:=ns.map λz=>cQ (Rat.divInt z (_l.aG ns))) _ hb nw (by simp) (by simpa using hz) (T4 (λ_=>qd _) _) ?_ ?_]
  ·intro i x d H2 Q' ex ed s2 hq
   let(n,en,rfl):=oS ed;cases D9 ex en;erw[_,Z,_,Z,n,_,Z,aO,m6 (n:=20) aO az,λv3 H3 r3 s3=>?_];erw[hq _ _ s3 r3.rd]
  ·intro H' ys s2 d2 r2
   erw[D,_,Z,.inl #[aF.of d2,λt H4 n4=>?_]];erw[k _ _ (fO (aW.of n4.at') (aK.mono n4.same _ r2)) (s1.trans (s2.trans n4.same))]
end
end _a
namespace _a
open PySem PySem.Spec PyProof.Rows _L
section
end
section
theorem mU:jl "tuple" "tuple"=true:=by decide
theorem Y9(d:ah):(∃i,d= .int i/\oX (lG d)=true)\/(oX (lG d)=false/\∀i,d≠ .int i):=by cases d with |int i=>erw[.inl #[i,Z,by simp[lG];decide]] |_=>erw[.inr #[by simp[lG];decide,λ_ z=>nomatch z]]
theorem yJ(d:ah):(∃ds,d= .tuple ds)\/(jl (lG d) "tuple"=false/\∀ds,d≠ .tuple ds):=by cases d with |tuple ds=>erw[.inl #[ds,Z]] |_=>erw[.inr #[by simp[lG];decide,λ_ z=>nomatch z]]
def dy(lo hi:Int):ah->Bool | .int i=>decide (lo<=i)&&decide (i<=hi) |_=>false
theorem a6u{lo hi:Int}{d:ah}(h:∀i,d≠ .int i):dy lo hi d=false:=by cases d<;>first|rfl|erw[absurd rfl (h _)]
inductive adi(K:aa)(vs:List V)(H:Hp)(Q:VK):Prop |mk (v:_)(d:_)(lo:_)(hi:_)(h0:vs=[v,.int lo,.int hi])(h1:RD K H v d)(h2:Q (.bl (dy lo hi d)) H)
def mW(K:aa):Sp:=λvs H Q _=>adi K vs H Q
theorem P8:bo ["thing","low","high"] ["thing","low","high"] (aU FX):=bp aJ
theorem a2x(F:FA K mg "is_whole_within" FX)(B:bI mg)(nM:aA P w K mg aw "is_whole" 1 (uy K)):aA P w K mg aw "is_whole_within" 2 (mW K):=by
 erw[F.has P8 (λvs H Q E h=>?_) (λ_ _ _ _ _ _=>iE λ_ _ _=>rfl) (λf aL A outer s H vs Q E hr h=>?_)]
 ·let(v,d,lo,hi,rfl,_):=h
  rfl
 ·let(v,d,lo,hi,rfl,rd,k):=h
  have nd:=P8.nd;erw[_,(aI (aQ (qf (pf nM hr (ak (pv 0) ay)) (oM (a1V zD zD (pv 1) (pv 0) (pv 2)))))),?_];erw[_,Z,_,_,Z,rd.ty,_,Z,?_];rcases Y9 d with⟨i,rfl,e⟩|⟨e,hn⟩
  ·cases rd.int_inv
   rw[e];erw[bR ?_];have k:Q (.bl (decide (lo<=i)&&decide (i<=hi))) H:=k;erw[_,Z,_,Z,_,_,Z,Z,_,Z,?_];erw[gd (λhc=>?_) (λhc=>?_)]
   ·have jU:decide (lo<=i)=true:=hc
    rw[jU,jE]at k;erw[_,Z,_,_,Z,Z,k]
   ·have jU:decide (lo<=i)=false:=EY.mpr hc
    rw[jU,jF]at k;erw[k]
  ·rw[e]
   erw[aR ?_];rw[a6u hn]at k;erw[k]
end
end _a
namespace _a
open PySem PySem.Spec PyProof.Rows _L _b _l _C
section
theorem Y3{ns ms:List Int}{i:Nat}{a b:Int}(h1:ns[i]? =some a)(h2:ms[i]? =some b):(fX ns ms)[i]? =some (a*(aG ms:Int)-b*(aG ns:Int)):=by unfold fX;rw[bP,(Bx (z:=(a,b))).mpr #[h1,h2]];rfl
def AM(j:Int)(ns ms:List Int):ah:=if aG (fX ns ms)=0 then .none else cQ (Rat.divInt ((j*aG ns*aG ms)^2) ((aG (fX ns ms):Int)^2))
inductive aez(K:aa)(vs:List V)(H:Hp)(Q:VK):Prop |mk (v:_)(v1:_)(v2:_)(rs:_)(r:_)(f:_)(j:_)(t:_)(ns:_)(ms:_)(cP:_)(dX:_)(h0:vs=[v,v1,v2])(h1:RD K H v (fJ rs r f j t))(h2:RD K H v1 (eK ns cP))(h3:RD K H v2 (eK ms dX))(h4:fu ns.length 1000 ns)(h5:fu ns.length 1000 ms)(h6:ns.length<=1000)(h7:1<=j)(h8:j<=50)(h9:∀v' H',RD K H' v' (AM j ns ms)->aH H H'->Q v' H')
def FO(K:aa):Sp:=λvs H Q _=>aez K vs H Q
theorem zip2{ns ms:List Int}(h:ms.length=ns.length){i:Nat}{x y:V}(ex:(ns.map V.int)[i]? =some x)(ey:(ms.map V.int)[i]? =some y):∃a b,ns[i]? =some a/\ms[i]? =some b/\x= .int a/\y= .int b:=by rw[bP]at ex ey;cases e1:ns[i]? with |none=>rw[e1]at ex;cases ex |some a=>cases e2:ms[i]? with |none=>rw[e2]at ey;cases ey |some b=>rw[e1]at ex;rw[e2]at ey;erw[a,b,Z,Z,(eX ex).symm,(eX ey).symm]
inductive adl(K:aa)(vs:List V)(H:Hp)(Q:VK):Prop |mk (v1:_)(v2:_)(ns:_)(ms:_)(cP:_)(dX:_)(h0:vs=[v1,v2])(h1:RD K H v1 (eK ns cP))(h2:RD K H v2 (eK ms dX))(h3:fu ns.length 1000 ns)(h4:fu ns.length 1000 ms)(h5:ns.length<=1000)(h6:∀v' H',bM K H' v' (Rat.divInt (aG (fX ns ms)) ((aG ns:Int)*aG ms))->aH H H'->Q v' H')
def Oc(K:aa):Sp:=λvs H Q _=>adl K vs H Q
theorem P9:bo ["one","other","greatest","way","new_way","p","q","difference"] ["one","other"] (aU FY):=bp aJ
theorem a2z(F:FA K mg "greatest_turn" FY)(B:bI mg)(UJ:aA P w K mg aw "ways_of" 4 (Oa K))(a7f:aA P w K mg aw "minus" 3 (uv (·-·) K))(qF:aA P w K mg aw "is_less" 1 (uw K)):aA P w K mg aw "greatest_turn" 5 (Oc K):=by
 erw[F.has P9 (λvs H Q E h=>?_) (λ_ _ _ _ _ _=>dW λ_ _=>rfl) (λf aL A outer s H vs Q E hr h=>?_)]
 ·let(v1,v2,ns,ms,cP,dX,rfl,_):=h
  rfl
 ·let(v1,v2,ns,ms,cP,dX,rfl,J1,x6,kx,gY,hz,k):=h
  have nd:=P9.nd;let(lp1,lm1):=kx.lead;let(lp2,lm2):=gY.lead;have A4:ms.length<=1000:=by rw[gY.len];erw[hz]
  have a4g:fu ms.length 1000 ms:=#[Z,gY.bd,gY.nz];have cb:=LZ (λz hz=>by have:=kx.bd z hz;lia) (λz hz=>by have:=gY.bd z hz;lia) (ns:=ns) (ms:=ms);have L0:(0:Int)<(aG ns:Int)*aG ms:=jk ao ao;have Lb:((aG ns:Int)*aG ms).natAbs<=1000*1000:=oP ao ao;have agP:(fX ns ms).length=ns.length:=by simp[fX,gY.len]
  have V5:∀c:Int,c.natAbs<=2000000->Bd 2000 (Rat.divInt c ((aG ns:Int)*aG ms)):=λc hc=>(ml (n:=30) ao ao ao).mono az;erw[_,(aB (pS 2 nd (j6 (ak aE (ak aE ay)))) (aB (iB gj Z (oK K Z false false Z (B.at "zip") (ak (pf UJ hr (ak (pv 0) ay)) (ak (pf UJ hr (ak (pv 1) ay)) ay))) (eg K rfl (n:=2) rfl (bV (aV 3 nd) (bV (aV 4 nd) e9))) (aB (fh (pf a7f hr (ak (pv 4) (ak (pv 3) ay))) (eg K Z (n:=2) Z (bV (aV 5 nd) (bV (aV 6 nd) e9)))) (aB (pS 7 nd (j6 (ak (fG (x:="abs") vP Z (B.at "abs") yt (ak (pv 5) ay)) (ak (pv 6) ay)))) (aI (bL (cw (pf qF hr (ak (pv 2) (ak (pv 7) ay)))) (aI (pS 2 nd (pv 7))) bQ))))) (aI (aQ (pv 2))))),?_];erw[cy Z,λg0 H1 n1=>?_];erw[_,Z,v1,ns,cP,Z,RD.mono n1.same _ J1,kx,hz,λw1 H2 r2 s2=>?_];have t2:=n1.same.trans s2;erw[_,Z,v2,ms,dX,Z,RD.mono t2 _ x6,a4g,A4,λw2 H3 r3 s3=>?_];have t3:=t2.trans s3;let(c1,xs1,rfl,h1,q1):=(RD.mono s3 _ r2).cv;let(c2,xs2,rfl,h2,q2):=r3.cv;have l1:=q1.length;have l2:=q2.length;rw[ba]at l1 l2;erw[c1,c2,Z,#[_,h1],#[_,h2],?_];erw[Vu (K:=K) (b1:=false) (b2:=false) (xs:=xs1) (ys:=xs2) ns.length (by rw[l1,l2,gY.len];lia) (λi O H4=>aH H3 H4/\∃g u1 u2 u3 u4 u5,bM K H4 g (Rat.divInt (sX (fX ns ms) i) ((aG ns:Int)*aG ms))/\O=[some v1,some v2,some g,u1,u2,u3,u4,u5]) ?_ (λi O H4 _ h=>#[h1.go h.1,h2.go h.1]) ?_ ?_]
  ·erw[aH.refl _,.ref g0,none,none,none,none,none,#[g0,Z,?_],Z]
   have e0:Rat.divInt ((sX (fX ns ms) 0:Nat):Int) ((aG ns:Int)*aG ms)=0:=by show Rat.divInt 0 _=0;erw[Rat.zero_divInt _]
   rw[e0];erw[aW.of (s3 _ _ (s2 _ _ n1.at'))]
  ·rintro i x y O H4 ex ey ⟨s4,g,u1,u2,u3,u4,u5,rg,rfl⟩ T H5 n5
   erw[iG ?_];intro E1;let(d1,e1,rx):=q1.get' i ex;let(d2,e2,ry):=q2.get' i ey;let(a,ea,rfl):=oS e1;let(b,eb,rfl):=oS e2;have qa:=kx.bd a (fR ea);have qb:=gY.bd b (fR eb);have cz:=Y3 ea eb;have czb:=cb _ (fR cz);have t5:=s4.trans n5.same;erw[T,_,Z,aW.of n5.at',Z,_,_,Z,_,_,Z,Z,?_];have jK:∀{H':Hp}{v:V}{r:Rat},RD K H' v (cQ r)->bM K H' v r:=λ{H' v r} h=>by let(p,xs,rfl,h1,h2):=h.cv;have:=h2.gh (ns:=[r.num,r.den]);subst this;erw[p,Z,h1]
   erw[_,Z,_,Z,y,x,_,_,Z,jK (RD.mono t5 _ ry),jK (RD.mono t5 _ rx),(ml (n:=30) ao ao ao).mono az,(ml (n:=30) ao ao ao).mono az,λv6 H6 r6 s6=>?_];have ed:Rat.divInt b (aG ms)-Rat.divInt a (aG ns)=Rat.divInt (b*aG ns-a*aG ms) ((aG ns:Int)*aG ms):=Zk ao ao;have r6:bM K H6 v6 (Rat.divInt b (aG ms)-Rat.divInt a (aG ns)):=r6;rw[ed]at r6;let(p6,rfl,h6):=r6;erw[p6,_,Z,h6,Z,_,_,Z,_,_,Z,Z,?_];erw[_,Z,_,Z,_,Z,cy Z,λdd H7 n7=>?_];have IB:=s6.trans n7.same;have rD:bM K H7 (.ref dd) (Rat.divInt (((a*(aG ms:Int)-b*(aG ns:Int)).natAbs:Nat):Int) ((aG ns:Int)*aG ms)):=by
    have e:Rat.divInt (((a*(aG ms:Int)-b*(aG ns:Int)).natAbs:Nat):Int) ((aG ns:Int)*aG ms)=vV (Rat.divInt (b*aG ns-a*aG ms) ((aG ns:Int)*aG ms)):=by rw[acO L0,Mq];congr 1;lia
    rw[e];erw[dd,Z,?_];rw[acN,acP];erw[aW.of n7.at']
   have rG:bM K H7 g _:=(rg.go n5.same).go IB;have hG:sX (fX ns ms) i<=2000000:=qr λz hz=>cb z (Bs hz);erw[_,Z,_,Z,g,.ref dd,_,_,Z,rG,rD,V5 _ ao,V5 _ ao,_,Z,?_];have hs:=a7I cz;erw[gd (λhc=>?_) (λhc=>?_)]
   ·have cB:=(W8 L0).mp (m4 hc)
    erw[_,Z,?_];erw[t5.trans IB,_,_,_,_,_,_,?_,Z];rw[hs,Nat.max_eq_right ao];erw[rD]
   ·have hge:¬_:=λz=>hc (cu ((W8 L0).mpr z))
    erw[t5.trans IB,_,_,_,_,_,_,?_,Z];rw[hs,Nat.max_eq_left ao];erw[rG]
  ·rintro O H4 ⟨s4,g,u1,u2,u3,u4,u5,rg,rfl⟩
   erw[_,Z,k _ _ ?_ (t3.trans s4)];have:sX (fX ns ms) ns.length=aG (fX ns ms):=by unfold sX;rw[u9 ao]
   rw[this]at rg;erw[rg]
theorem QG:bo ["machine","one","other","jump","p","q"] ["machine","one","other"] (aU Ih):=bp aJ
theorem a3Z(F:FA K mg "corner_square" Ih)(B:bI mg)(a7M:aA P w K mg aw "greatest_turn" 5 (Oc K))(tf:aA P w K mg aw "fraction" 3 (wJ K)):aA P w K mg aw "corner_square" 6 (FO K):=by
 erw[F.has QG (λvs H Q E h=>?_) (λ_ _ _ _ _ _=>iE λ_ _ _=>rfl) (λf aL A outer s H vs Q E hr h=>?_)]
 ·let(v,v1,v2,rs,r,f',j,t,ns,ms,cP,dX,rfl,_):=h
  rfl
 ·let(v,v1,v2,rs,r,f',j,t,ns,ms,cP,dX,rfl,rd,J1,x6,kx,gY,hz,j1,j2,k):=h
  have nd:=QG.nd;let(lp1,lm1):=kx.lead;let(lp2,lm2):=gY.lead;have L0:(0:Int)<(aG ns:Int)*aG ms:=jk ao ao;have Lb:((aG ns:Int)*aG ms).natAbs<=1000*1000:=oP ao ao;have cb:=LZ (λz hz=>by have:=kx.bd z hz;lia) (λz hz=>by have:=gY.bd z hz;lia) (ns:=ns) (ms:=ms);have hH:=qr cb;erw[_,(aB (pS 3 nd (px K (pv 0) aE)) (aB (fh (pf a7M hr (ak (pv 1) (ak (pv 2) ay))) (eg K Z (n:=2) Z (bV (aV 4 nd) (bV (aV 5 nd) e9)))) (aB (bL (cf (dU K Z hr.units) (pv 4) aE (bS _)) (aI (aQ gX)) bQ) (aI (aQ (pf tf hr (ak (aP cK (aP cK (aP cK (pv 3) (pv 3)) (pv 5)) (pv 5)) (ak (aP cK (pv 4) (pv 4)) ay)))))))),?_];let(am,bm,rfl,gE,jR):=oT rd;erw[_,Z,.inr #[am,_,3,.int j,Z,Z,gE,Z,?_]];erw[_,Z,_,Z,v1,v2,ns,ms,cP,dX,Z,J1,x6,kx,gY,hz,λv3 H3 r3 s3=>?_];obtain⟨Mf⟩:Nonempty (Bd 30 (Rat.divInt (aG (fX ns ms)) ((aG ns:Int)*aG ms))):=⟨ml (n:=30) ao ao ao⟩;have en:=wj (Rat.divInt (aG (fX ns ms)) ((aG ns:Int)*aG ms));obtain⟨R,hR⟩:∃R,Rat.divInt (aG (fX ns ms)) ((aG ns:Int)*aG ms)=R:=#[_,Z];rw[hR]at r3 Mf en;have dp:=den_pos R;have AL:R.num*((aG ns:Int)*aG ms)=aG (fX ns ms)*R.den:=by rw[<-hR]at en;have:=(Rat.divInt_eq_divInt_iff (by rw[hR];lia) ao).mp en;rw[hR]at this;erw[this]
  have nb:=Mf.num;have db:=Mf.den;let(p3,rfl,h3):=r3;erw[p3,_,Z,h3,Z,_,_,Z,_,_,Z,Z,?_];erw[_,Z,.inl #[_,_,Z,Z,_,Z,?_]];erw[gd (λhc=>?_) (λhc=>?_)]
  ·have h0:R.num=0:=by simpa using hc
   have hl:aG (fX ns ms)=0:=by
    rw[h0,EV]at AL;rcases Int.mul_eq_zero.mp AL.symm with h|h
    ·lia
    ·lia
   erw[k .bw H3 ?_ s3];unfold AM;rw[bc hl];erw[zj]
  ·have h0:R.num≠0:=by simpa using hc
   have hl:aG (fX ns ms)≠0:=by
    intro z;rw[z]at AL;have:R.num*((aG ns:Int)*aG ms)=0:=by rw[AL];erw[EV _]
    rcases Int.mul_eq_zero.mp this with h|h
    ·erw[h0 h]
    ·lia
   have m1:(j*j).natAbs<=50*50:=oP ao ao;have qH:(2:Nat)^64=18446744073709551616:=by decide
   erw[_,Z,_,Z,_,_,Z,Z,.of_left (dF ao ao),_,Z,_,_,Z,Z,.of_left (dF ao ao),_,Z,_,_,Z,Z,.of_right (dF ao ao),?_];erw[_,Z,_,Z,_,_,Z,Z,.of_left (dF ao ao),?_];erw[_,_,Z,Nb h0 h0,?_,λv4 H4 r4 s4=>?_]
   ·erw[m6 (n:=60) ?_ az]
    rw[jD];erw[sC (n:=30) (m:=30) nb nb]
   ·erw[k _ _ ?_ (s3.trans s4)]
    unfold AM;rw[bj hl];have e:=abK (j:=j) (p:=R.num) (q:=R.den) (h:=aG (fX ns ms)) (L:=(aG ns:Int)*aG ms) h0 ao AL;rw[e,<-ud]at r4;erw[r4.rd]
def J6 (d:ah):Bool:=dy 10 200 d
inductive adH(K:aa)(vs:List V)(H:Hp)(Q:VK):Prop |mk (v:_)(d:_)(h0:vs=[v])(h1:RD K H v d)(h2:Q (.bl (J6 d)) H)
def Ca(K:aa):Sp:=λvs H Q _=>adH K vs H Q
theorem Qn:bo ["thing"] ["thing"] (aU Hl):=bp aJ
theorem a3G(F:FA K mg "is_rate" Hl)(B:bI mg)(a8t:GV mg "LEAST_RATE" (.int 10))(a8u:GV mg "GREATEST_RATE" (.int 200))(jf:aA P w K mg aw "is_whole_within" 2 (mW K)):aA P w K mg aw "is_rate" 3 (Ca K):=by
 erw[F.has Qn (λvs H Q E h=>?_) (λ_ _ _ _ _ _=>dA λ_=>rfl) (λf aL A outer s H vs Q E hr h=>?_)]
 ·let(v,d,rfl,_):=h
  rfl
 ·let(v,d,rfl,rd,k):=h
  have nd:=Qn.nd;erw[_,(aI (aQ (pf jf hr (ak (pv 0) (ak (eD (x:="LEAST_RATE") Z a8t) (ak (eD (x:="GREATEST_RATE") Z a8u) ay)))))),?_];erw[_,Z,v,d,10,200,Z,rd,k]
inductive adm(K:aa)(vs:List V)(H:Hp)(Q:VK):Prop |mk (v:_)(ns:_)(sp:_)(r:_)(h0:vs=[v,.int r])(h1:RD K H v (eK ns sp))(h2:1<=sp)(h3:sp<=20)(h4:10<=r)(h5:r<=200)(h6:∀v' H',bM K H' v' (Rat.divInt ((sp*r)^2) 10000)->aH H H'->Q v' H')
def uu(K:aa):Sp:=λvs H Q _=>adm K vs H Q
theorem ZE(a b:Int):a*a*b*b=(a*b)^2:=by rw[fS,fS,m5,lF];ac_rfl
theorem a0Y{r:Int}(h1:10<=r)(h2:r<=200):J6 (.int r)=true:=by show(decide (10<=r)&&decide (r<=200))=true;rw[cu h1,cu h2];rfl
theorem Pa:bo ["line","rate","speed"] ["line","rate"] (aU FZ):=bp aJ
theorem a2A(F:FA K mg "top_square" FZ)(B:bI mg)(KG:aA P w K mg aw "is_rate" 3 (Ca K))(tf:aA P w K mg aw "fraction" 3 (wJ K)):aA P w K mg aw "top_square" 4 (uu K):=by
 erw[F.has Pa (λvs H Q E h=>?_) (λ_ _ _ _ _ _=>dW λ_ _=>rfl) (λf aL A outer s H vs Q E hr h=>?_)]
 ·let(v,ns,sp,r,rfl,_):=h
  rfl
 ·let(v,ns,sp,r,rfl,rd,s1,s2,r1,r2,k):=h
  have nd:=Pa.nd;erw[_,(aB (bL (cT (cw (pf KG hr (ak (pv 1) ay)))) (aI ku) bQ) (aB (pS 2 nd (px K (pv 0) aE)) (aI (aQ (pf tf hr (ak (aP cK (aP cK (aP cK (pv 2) (pv 2)) (pv 1)) (pv 1)) (ak (aP cK aE aE) ay))))))),?_];erw[_,Z,_,.int r,Z,fP r,_,Z,?_];rw[a0Y r1 r2];erw[aR ?_];let(a,b,rfl,ha,hb):=oW rd;erw[_,Z,.inr #[a,_,2,.int sp,Z,Z,ha,Z,?_]];have m1:(sp*sp).natAbs<=20*20:=by rw[jD];erw[pM ao ao]
  erw[_,Z,_,Z,_,_,Z,Z,.of_left (dF ao ao),_,Z,_,_,Z,Z,.of_left (dF ao ao),_,Z,_,_,Z,Z,.of_right (dF ao ao),?_];erw[_,_,Z,Z,.of_left (dF az az),?_];erw[_,_,Z,az,m6 (n:=20) az az,λv' H' r' s'=>k v' H' ?_ s'];rw[ZE]at r';erw[r']
end
end _a
namespace _a
open PySem PySem.Spec PyProof.Rows _L _b _l _C _P
open _O (topR cornO mnO betR atO ownF leadF ownL OkI OkIs)
section
theorem Ck(n:Nat)(h:n<=1000):n<sizeLine:=MZ h az
theorem jK{H:Hp}{v:V}{r:Rat}(h:RD K H v (cQ r)):bM K H v r:=by let(p,xs,rfl,h1,h2):=h.cv;have:=h2.gh (ns:=[r.num,r.den]);subst this;erw[p,Z,h1]
theorem fu.up{ax:Nat}{ns:List Int}(h:fu ax 100 ns):fu ns.length 1000 ns:=#[Z,λz hz=>by have:=h.bd z hz;lia,h.nz]
theorem cW.lM{ax:Nat}{ds:List ah}{os:List Itm}(h:cW ax ds os):OkIs os:=λi ns sp e=>by unfold atO at e;cases ho:os[i]? with |none=>rw[ho]at e;cases e |some o=>rw[ho]at e;have e':o=some (ns,sp):=e;subst e';let(a,b,c):=h.ok i ns sp ho;erw[a.bd,b,c]
theorem xq{H:Hp}{a:Addr}(h:aW K H a [.int 0,.int 1]):bM K H (.ref a) 0:=#[a,Z,h]
theorem abN(j:Int)(ns ms:List Int):AM j ns ms=match cornO j ns ms with|none=>.none|some c=>cQ c:=by unfold AM cornO;split<;>rfl
inductive aeB(K:aa)(vs:List V)(H:Hp)(Q:VK):Prop |mk (m:_)(v1:_)(v2:_)(rate:_)(rs:_)(r:_)(f:_)(j:_)(t:_)(d1:_)(d2:_)(o1:_)(o2:_)(ax:_)(h0:vs=[m,v1,v2,.int rate])(h1:RD K H m (fJ rs r f j t))(h2:1<=j)(h3:j<=50)(h4:RD K H v1 d1)(h5:RD K H v2 d2)(h6:itR d1 o1)(h7:itR d2 o2)(h8:(∀ns sp,o1=some (ns,sp)->fu ax 100 ns/\1<=sp/\sp<=20))(h9:(∀ns sp,o2=some (ns,sp)->fu ax 100 ns/\1<=sp/\sp<=20))(vq:ax<=100)(L8:10<=rate)(vp:rate<=200)(Ve:∀v H',bM K H' v (betR j rate o1 o2)->aH H H'->Q v H')
def Cj(K:aa):Sp:=λvs H Q _=>aeB K vs H Q
theorem QJ:bo ["machine","one","other","rate","squares","corner"] ["machine","one","other","rate"] (aU Ik):=bp aJ
theorem a42(F:FA K mg "bound_between" Ik)(B:bI mg)(gN:GT K mg "NOUGHT" [.int 0,.int 1])(iD:aA P w K mg aw "is_line" 1 (mZ K))(oY:aA P w K mg aw "top_square" 4 (uu K))(a83:aA P w K mg aw "corner_square" 6 (FO K))(mF:aA P w K mg aw "least" 2 (md K)):aA P w K mg aw "bound_between" 7 (Cj K):=by
 let(aN,jy,kL):=gN;erw[F.has QJ (λvs H Q E h=>?_) (λ_ _ _ _ _ _=>yb λ_ _ _ _=>rfl) (λf aL A outer s H vs Q E hr h=>?_)]
 ·let(m,v1,v2,rate,rs,r,f,j,t,d1,d2,o1,o2,ax,rfl,_):=h
  rfl
 ·let(m,v1,v2,rate,rs,r,f,j,t,d1,d2,o1,o2,ax,rfl,rm,j1,j2,r1,r2,i1,i2,k1,k2,hax,cj,cm,k):=h
  have nd:=QJ.nd;erw[_,(aB (bL (PW.pt (iL (cT (cw (pf iD hr (ak (pv 1) ay)))) (jL (cT (cw (pf iD hr (ak (pv 2) ay))))))) (aI (aQ (eD (x:="NOUGHT") Z jy))) bQ) (aB (pS 4 nd (dw (ak (pf oY hr (ak (pv 1) (ak (pv 3) ay))) (ak (pf oY hr (ak (pv 2) (ak (pv 3) ay))) ay)))) (aB (pS 5 nd (pf a83 hr (ak (pv 0) (ak (pv 1) (ak (pv 2) ay))))) (aB (j3 (bL (cf xi (pv 5) gX (bS _)) (aI (gb (jr K Z (pv 4) (ak (pv 5) ay)))) bQ)) (aI (aQ (pf mF hr (ak (pv 4) ay)))))))),?_];erw[_,Z,v1,d1,o1,Z,r1,i1,_,Z,?_];cases o1 with |none=>erw[bR (bR ?_)];have:=k _ H (xq (kL H)) (aH.refl _);erw[this] |some q1=>let(ns,sp):=q1;erw[aR ?_];erw[_,Z,v2,d2,o2,Z,r2,i2,_,Z,?_];cases o2 with |none=>erw[bR ?_];erw[k _ H (xq (kL H)) (aH.refl _)] |some q2=>let(ms,sq):=q2;erw[aR ?_];have e1:=iQ i1;have e2:=iQ i2;subst e1 e2;let(kx,a1,a2):=k1 ns sp rfl;let(gY,b1,b2):=k2 ms sq rfl;erw[_,Z,_,Z,v1,ns,sp,rate,Z,r1,a1,a2,cj,cm,λt1 H1 a0r s1=>?_];erw[_,Z,_,Z,v2,ms,sq,rate,Z,RD.mono s1 _ r2,b1,b2,cj,cm,λt2 H2 a0q s2=>?_];erw[cy Z,λl H3 n3=>?_];have t3:=s1.trans (s2.trans n3.same);have ja:fu ns.length 1000 ms:=#[by rw[kx.len,gY.len],gY.up.bd,gY.nz];erw[_,Z,_,Z,_,Z,m,v1,v2,rs,r,f,j,t,ns,ms,sp,sq,Z,RD.mono t3 _ rm,RD.mono t3 _ r1,RD.mono t3 _ r2,kx.up,ja,by rw[kx.len];lia,j1,j2,λc H4 rc s4=>?_];have T1:Bd 2000 (topR rate sp):=(_O.pR a1 a2 cj cm).mono az;have T2:Bd 2000 (topR rate sq):=(_O.pR b1 b2 cj cm).mono az;have R1:bM K H4 t1 (topR rate sp):=((a0r.go s2).go n3.same).go s4;have R2:bM K H4 t2 (topR rate sq):=(a0q.go n3.same).go s4;have t4:=t3.trans s4;rw[abN]at rc;cases hc:cornO j ns ms with
   |none=>
    rw[hc]at rc;cases rc.JE;erw[λO H5=>H5=H4/\O=[some m,some v1,some v2,some (.int rate),some (.ref l),some .bw],?_,?_]
    ·erw[kE ?_];intro E1
     erw[_,Z,Z,_,Z,aR ?_];erw[Z,Z]
    rintro O H5 ⟨rfl,rfl⟩;erw[_,Z,l,[t1,t2],[topR rate sp,topR rate sq],Z,aF.of (s4 _ _ n3.at'),#[R1,T1,R2,T2,trivial],by simp,λi v q e1 e2 hq=>?_];have nH:betR j rate (some (ns,sp)) (some (ms,sq))=q:=by
     show mnO (mn _ _) (cornO j ns ms)=q;rw[hc];erw[uV ?_ (hq _ (by simp)) (hq _ (by simp))]
     match i,e2 with |0,e2=>cases e2;erw[.inl rfl] |1,e2=>cases e2;erw[.inr rfl]
    erw[k v _ ?_ t4];rw[nH]
    match i,e1,e2 with |0,e1,e2=>cases e1;cases e2;erw[R1] |1,e1,e2=>cases e1;cases e2;erw[R2]
   |some cq=>
    rw[hc]at rc;have Rc:bM K H4 c cq:=jK rc;have Tc:Bd 2000 cq:=(_O.Wn j1 j2 kx.bd gY.bd hc).mono az;have lW:=s4 _ _ n3.at';have tU:fm H4 (_L.upd H4 l (.lst ([t1,t2]++[c]))):=.iX lW;erw[λO H5=>H5=_L.upd H4 l (.lst ([t1,t2]++[c]))/\O=[some m,some v1,some v2,some (.int rate),some (.ref l),some c],?_,?_]
    ·erw[kE ?_];intro E2
     let(pc,rfl,_):=id Rc;erw[_,Z,Z,_,Z,bR ?_];erw[_,Z,.inl #[Z,_,aF.of lW],_,Z,l,[t1,t2],_,Z,Z,lW,Ck _ (XE Z),?_];erw[Z,Z]
    rintro O H5 ⟨rfl,rfl⟩;have up:∀{v:V}{q:Rat},bM K H4 v q->bM K (_L.upd H4 l (.lst ([t1,t2]++[c]))) v q:=λ{v q} h=>jK (RD.t tU _ (qd q) h.rd);erw[_,Z,l,[t1,t2,c],[topR rate sp,topR rate sq,cq],Z,aF.of cg,#[up R1,T1,up R2,T2,up Rc,Tc,trivial],by simp,λi v q e1 e2 hq=>?_];have nH:betR j rate (some (ns,sp)) (some (ms,sq))=q:=by
     show mnO (mn _ _) (cornO j ns ms)=q;rw[hc];show mn (mn _ _) cq=q;have h1:=hq _ (show topR rate sp∈[topR rate sp,topR rate sq,cq] by simp);have h2:=hq _ (show topR rate sq∈[topR rate sp,topR rate sq,cq] by simp);have h3:=hq _ (show cq∈[topR rate sp,topR rate sq,cq] by simp);erw[uV ?_ (gD h1 h2) h3]
     match i,e2 with |0,e2=>cases e2;erw[.inl (uV (.inl rfl) h1 h2).symm] |1,e2=>cases e2;erw[.inl (uV (.inr rfl) h1 h2).symm] |2,e2=>cases e2;erw[.inr rfl]
    have sU:aH H (_L.upd H4 l (.lst ([t1,t2]++[c]))):=λb o e=>by have h0:H2 l=none:=n3.no;have e2:=s2 b o (s1 b o e);rw[aY (eJ e2 h0)];erw[t4 b o e]
    erw[k v _ ?_ sU];rw[nH]
    match i,e1,e2 with |0,e1,e2=>cases e1;cases e2;erw[up R1] |1,e1,e2=>cases e1;cases e2;erw[up R2] |2,e1,e2=>cases e1;cases e2;erw[up Rc]
end
section
theorem qj(qs:List Rat):cA (qs.map cQ)=true:=T4 qd qs
theorem aK.FU{H:Hp}{l:Addr}{ys:List V}{y:V}{ds:List ah}{d:ah}{i:Nat}(dl:H l=some (.lst ys))(r:aK K H ys ds)(rd:RD K H y d)(n1:cA ds=true)(n2:eA d=true):aK K (_L.upd H l (.lst (ys.set i y))) (ys.set i y) (ds.set i d):=by have t:fm H (_L.upd H l (.lst (ys.set i y))):=.iX dl;have r':=aK.t t _ n1 r;have RZ:=RD.t t _ n2 rd;clear r rd dl t;generalize _L.upd H l (.lst (ys.set i y))=H' at r' RZ;induction ds generalizing ys i with |nil=>cases r'.nil_inv;erw[cX] |cons d0 ds ih=>
 let(y0,yr,rfl,h1,h2):=r'.cons_inv;have zV:cA ds=true:=by rw[cA,fz]at n1;erw[n1.2]
 cases i with |zero=>erw[cE RZ h2] |succ i=>erw[cE h1 (ih zV h2)]
theorem LY(xs:List V):lX xs (some 1) none=xs.drop 1:=by unfold lX;have e:_H.cC xs.length 0 (some 1)=min 1 xs.length:=_H.QY _ _ 1;rw[e,_H.QX];cases xs with |nil=>rfl |cons x xs=>
 have e2:min 1 (x::xs).length=1:=by simp
 rw[e2,u9 (by simp)]
inductive adV(K:aa)(vs:List V)(H:Hp)(Q:VK):Prop |mk (m:_)(iv:_)(rate:_)(rs:_)(r:_)(f:_)(j:_)(t:_)(ds:_)(os:_)(h0:vs=[m,iv,.int rate])(h1:RD K H m (fJ rs r f j t))(h2:gG rs r f j t)(h3:RD K H iv (.tuple ds))(h4:cW rs.length ds os)(h5:ds.length<=100)(h6:10<=rate)(h7:rate<=200)(h8:∀l ys H',H l=none->H' l=some (.lst ys)->aK K H' ys ((ownL j rate os).map cQ)->aH H H'->Q (.ref l) H')
def Cb(K:aa):Sp:=λvs H Q _=>adV K vs H Q
theorem Co:bo ["machine","items","rate","between"] ["machine","items","rate"] (aU Cq):=bp aJ
theorem a3j(F:FA K mg "own_bounds" Cq)(B:bI mg)(gN:GT K mg "NOUGHT" [.int 0,.int 1])(KN:aA P w K mg aw "bound_between" 7 (Cj K)):aA P w K mg aw "own_bounds" 8 (Cb K):=by
 let(aN,jy,kL):=gN;erw[F.has Co (λvs H Q E h=>?_) (λ_ _ _ _ _ _=>iE λ_ _ _=>rfl) (λf aL A outer s H vs Q E hr h=>?_)]
 ·let(m,iv,rate,rs,r,f,j,t,ds,os,rfl,_):=h
  rfl
 ·let(m,iv,rate,rs,r,f,j,t,ds,os,rfl,rm,aD,ri,row,hz,cj,cm,k):=h
  have nd:=Co.nd;have rN:∀H',RD K H' (.ref aN) (cQ 0):=λH'=>(xq (kL H')).rd;erw[_,(aB (bL (cT (zm K Z (pv 1))) (aI (aQ (dw (ak (eD (x:="NOUGHT") Z jy) ay)))) bQ) (aB (Cy (i0:=3) nd Z (Or.inl Z) (N:=["one","other","machine","rate"]) (js:=[none,none,some 0,some 2]) Z Z Z (oK K Z false false Z (B.at "zip") (ak (pv 1) (ak (zv (yZ K rfl) (pv 1) (zp aE) zq) ay))) (λ_ _ _ _ _=>(eg K rfl (n:=2) rfl (bV (aV 0 (show List.Nodup (["one","other","machine","rate"]:List Str) by decide+kernel)) (bV (aV 1 (show List.Nodup (["one","other","machine","rate"]:List Str) by decide+kernel)) e9)))) (λ_ _ _ _ _=>dZ) (λ_ _ _ _ _=>(pf KN hr (ak (pv 2) (ak (pv 0) (ak (pv 1) (ak (pv 3) ay))))))) (aI (aQ (aP (xY K Z) (aP (xY K Z) (dw (ak (eD (x:="NOUGHT") Z jy) ay)) (pv 3)) (dw (ak (eD (x:="NOUGHT") Z jy) ay))))))),?_];let(ia,xs,rfl,hi,eM):=ri.cv;have lx:=eM.length;have ll:=row.len;erw[_,Z,_,.inr (.inl #[_,hi,Z]),?_];cases hd:xs with
  |nil=>
   subst hd;erw[bR ?_];erw[cy Z,λl H1 n1=>?_];erw[k l [.ref aN] H1 n1.no n1.at' ?_ n1.same];have e:os=[]:=by
    have:os.length=0:=by rw[<-ll,<-lx];rfl
    erw[N6.mp this]
   rw[e];erw[cE (rN H1) cX] |cons x0 xr=>
   erw[aR ?_];have cS:os≠[]:=by intro e;rw[e]at ll;rw[hd]at lx;simp at ll lx;rw[ll]at lx;cases lx
   have Km:0<xs.length:=by rw[hd];simp
   erw[_,Z,_,Z,1,Z,ia,xs,Z,.inr #[hi,?_,λtl H1 n1=>?_]]
   ·rintro⟨h1,_⟩
    have e:_H.cC xs.length 0 (some 1)=min 1 xs.length:=_H.QY _ _ 1;rw[e]at h1
    lia
   erw[ia,tl,Z,#[_,hi.go n1.same],#[_,aW.of n1.at'],λD H2 n2=>?_];have et:=n1.at';rw[LY]at et;have zJ:∀(i:Nat)(o:Itm),os[i]? =some o->∀(ns:List Int)(sp:Int),o=some (ns,sp)->fu rs.length 100 ns/\1<=sp/\sp<=20:=λi o e ns sp e'=>row.ok i ns sp (by rw[e,e']);have lr:=aD.len;erw[vL (K:=K) (b1:=false) (b2:=false) (xs:=xs) (ys:=xs.drop 1) (ds:=((List.range (os.length-1)).map (λi=>ownF j rate os (i+1))).map cQ) _ Z (hi.go n1.same) (aW.of et) n2 (by rw[Bv];simp;lia) (by simp;lia) (qj _) ?_ ?_]
   ·intro i x y d H3 Q' ex ey ed s3 hq
    have gp:=n1.same.trans s3;rw[XN]at ey;let(d1,e1,r1):=eM.get' i ex;let(d2,e2,r2):=eM.get' (1+i) ey;let(o1,AA,i1):=row.get e1;let(o2,vA,i2):=row.get e2;have DL:1+i<os.length:=(cJ.mp vA).1;have dG:d=cQ (betR j rate o1 o2):=by rw[bP,bP,bN (by simp;lia),Bw]at ed;have:=(eX ed).symm;rw[this];show cQ (betR j rate (atO os i) (atO os (i+1)))=_;rw[_O.og AA,_O.og (show os[i+1]? =some o2 by rw[N1];erw[vA])]
    subst dG;erw[_,Z,_,Z,_,Z,_,Z,m,x,y,rate,rs,r,f,j,t,d1,d2,o1,o2,rs.length,Z,RD.mono gp _ rm,aD.j1.1,aD.j1.2,RD.mono gp _ r1,RD.mono gp _ r2,i1,i2,zJ _ _ AA,zJ _ _ vA,ao,cj,cm,λv H4 rv s4=>?_];erw[hq _ _ s4 rv.rd]
   ·intro H3 zs s3 d3 r3
    have lz:=r3.length;simp at lz;erw[cy Z,λl1 H4 n4=>?_];erw[_,Z,l1,D,_,zs,Z,Z,aF.of n4.at',aF.of (n4.same _ _ d3),yY _ (by simp;lia),λl2 H5 n5=>?_];erw[cy Z,λl3 H6 n6=>?_];erw[l2,l3,_,_,Z,Z,aF.of (n6.same _ _ n5.at'),aF.of n6.at',yY _ (by simp;lia),λl H7 n7=>?_];have zd:aH H H6:=n1.same.trans (s3.trans (n4.same.trans (n5.same.trans n6.same)));have nl:H l=none:=by cases e:H l with |none=>rfl |some o=>have:=zd _ _ e;rw[n7.no]at this;cases this
    erw[k l _ H7 nl n7.at' ?_ (zd.trans n7.same)];rw[_O.Sy j rate cS,gJ,gJ];exact((cE (rN H7) cX).append (aK.mono (n4.same.trans (n5.same.trans (n6.same.trans n7.same))) _ r3)).append (cE (rN H7) cX)
end
section
end
section
inductive adT(K:aa)(vs:List V)(H:Hp)(Q:VK):Prop |mk (v:_)(r:_)(z:_)(h0:vs=[v,.int z])(h1:bM K H v r)(h2:Bd 2000 r)(h3:z.natAbs<2^24)(h4:∀v H',bM K H' v (r+(z:Rat))->aH H H'->Q v H')
def rX(K:aa):Sp:=λvs H Q _=>adT K vs H Q
theorem PZ:bo ["one","more"] ["one","more"] (aU GO):=bp aJ
theorem a3e(F:FA K mg "plus_whole" GO)(B:bI mg)(a70:aA P w K mg aw "plus" 3 (uv (·+·) K)):aA P w K mg aw "plus_whole" 4 (rX K):=by
 erw[F.has PZ (λvs H Q E h=>?_) (λ_ _ _ _ _ _=>dW λ_ _=>rfl) (λf aL A outer s H vs Q E hr h=>?_)]
 ·let(v,r,z,rfl,_):=h
  rfl
 ·let(v,r,z,rfl,rv,br,hz,k):=h
  have nd:=PZ.nd;erw[_,(aI (aQ (pf a70 hr (ak (pv 0) (ak (j6 (ak (pv 1) (ak aE ay))) ay))))),?_];erw[_,Z,_,Z,cy Z,λt H1 n1=>?_];have bz:Bd 24 (z:Rat):=#[hz,by show 1<2^24;decide];erw[v,.ref t,r,(z:Rat),Z,rv.go n1.same,#[t,Z,aW.of n1.at'],br,bz.mono az,λv' H' r' s'=>k v' H' r' (n1.same.trans s')]
theorem qw{os:List Itm}{i:Nat}{ns:List Int}{sp:Int}(h:os[i]? =some (some (ns,sp))):leadF os i=some (aG ns):=by unfold leadF;rw[_O.og h];rfl
theorem K8{os:List Itm}{i:Nat}(h:os[i]? =some none):leadF os i=none:=by unfold leadF;rw[_O.og h];rfl
theorem xF{os:List Itm}(h:OkIs os){i m:Nat}(e:leadF os i=some m):m<=100:=by unfold leadF at e;cases ho:atO os i with |none=>rw[ho]at e;cases e |some q=>rw[ho]at e;cases e;let(a,_,_):=h i q.1 q.2 ho;erw[qr λz hz=>by have:=a z hz;lia]
theorem wF{r:Int}{m:Nat}(h1:1<=r)(h2:r<=50)(h3:m<=100):(2*r*(m:Int)).natAbs<2^24:=by
 have jg:(2:Nat)^24=16777216:=by decide
 have:=oP (a:=2*r) (b:=(m:Int)) (m:=100) (n:=100) ao ao;rw[jg];lia
inductive adF(K:aa)(vs:List V)(H:Hp)(Q:VK):Prop |mk (m:_)(iv:_)(l:_)(ys:_)(rs:_)(r:_)(f:_)(j:_)(t:_)(ds:_)(os:_)(g:_)(h0:vs=[m,iv,.ref l])(h1:RD K H m (fJ rs r f j t))(h2:gG rs r f j t)(h3:RD K H iv (.tuple ds))(h4:cW rs.length ds os)(h5:ds.length<=30)(h6:H l=some (.lst ys))(h7:aK K H ys ((lst os.length g).map cQ))(h8:(∀i,Bd 64 (g i)))(h9:∀l ys H',H l=none->H' l=some (.lst ys)->aK K H' ys ((lst os.length (Rz g (leadF os) (2*r))).map cQ)->aH H H'->Q (.ref l) H')
def Oq(K:aa):Sp:=λvs H Q _=>adF K vs H Q
theorem PD:bo ["machine","items","squares","rise","kept","i","item"] ["machine","items","squares"] (aU Gk):=bp aJ
theorem a35(F:FA K mg "kept_by_rise" Gk)(B:bI mg)(iD:aA P w K mg aw "is_line" 1 (mZ K))(jw:aA P w K mg aw "lead_of" 1 (mY K))(je:aA P w K mg aw "plus_whole" 4 (rX K))(mF:aA P w K mg aw "least" 2 (md K)):aA P w K mg aw "kept_by_rise" 5 (Oq K):=by
 erw[F.has PD (λvs H Q E h=>?_) (λ_ _ _ _ _ _=>iE λ_ _ _=>rfl) (λf aL A outer s H vs Q E hr h=>?_)]
 · let(m,iv,l,ys,rs,r,f,j,t,ds,os,g,rfl,_):=h
   rfl
 · let(m,iv,l,ys,rs,r,f,j,t,ds,os,g,rfl,rm,aD,ri,row,hz,dl,zi,bg,k):=h
   have nd:=PD.nd;erw[_,(aB (pS 3 nd (px K (pv 0) aE)) (aB (pS 4 nd (dh (x:="list") (Dq K Z) Z (B.at "list") EK (ak (pv 2) ay))) (aB (iB gj Z (zu K Z false Z (B.at "enumerate") (ak (pv 1) ay)) (eg K rfl (n:=2) rfl (bV (aV 5 nd) (bV (aV 6 nd) e9))) (aI (bL (cw (pf iD hr (ak (pv 6) ay))) (aI (fh (pf mF hr (ak (dw (ak (px K (pv 4) (aP eu (pv 5) aE)) (ak (pf je hr (ak (px K (pv 4) (pv 5)) (ak (aP cK (aP cK aE (pv 3)) (pf jw hr (ak (pv 6) ay))) ay))) ay))) ay)) (uK (pv 4) (aP eu (pv 5) aE) set_list))) bQ))) (aI (aQ (pv 4)))))),?_];let(ma,mb,rfl,gE,jR):=oT rm;let(ia,xs,rfl,hi,eM):=ri.cv;have lx:=eM.length;have ll:=row.len;have lr:=aD.len;have hL:∀i m,leadF os i=some m->(2*r*(m:Int)).natAbs<2^24:=λi m e=>wF aD.r1.1 aD.r1.2 (xF row.lM e);have RB:∀i,i<=30->Bd 900 (Rz g (leadF os) (2*r) i):=λi hi=>(Es bg hL i).mono aO;erw[_,Z,.inr #[ma,_,1,.int r,Z,Z,gE,Z,?_]];erw[_,Z,l,ys,Z,.inl (aF.of dl),λD H1 n1=>?_];erw[_,Z,ia,Z,#[_,hi.go n1.same],Ax (K:=K) (b:=false) (a:=ia) (xs:=xs) (λi O H2=>aH H H2/\∃zs v1 v2,H2 D=some (.lst zs)/\aK K H2 zs ((lst os.length λk=>if k<=i then Rz g (leadF os) (2*r) k else g k).map cQ)/\O=[some (.ref ma),some (.ref ia),some (.ref l),some (.int r),some (.ref D),v1,v2]) ?_ (λi O H2 _ h=>hi.go h.1) ?_ ?_]
   · erw[n1.same,ys,none,none,n1.at',?_,Z]
     rw[qp (g:=λk=>if k<=0 then Rz g (leadF os) (2*r) k else g k) (g':=g)]
     ·erw[aK.mono n1.same _ zi]
     · intro k _
       show g k=if k<=0 then Rz g (leadF os) (2*r) k else g k;split
       · next h => have:k=0:=by omega
                   subst this;rfl
       ·rfl
   · rintro i y O H2 hy ⟨s2,zs,v1,v2,dz,rz,rfl⟩ T H3 n3
     erw[iG ?_];intro E1;have sW:i<xs.length:=(cJ.mp hy).1;let(d,ed,rd):=eM.get' i hy;let(o,eo,it):=row.get ed;have s3:=s2.trans n3.same;have lz:=rz.length;rw[ba,lN]at lz;erw[T,_,Z,aW.of n3.at',Z,_,_,Z,_,_,Z,Z,?_];erw[_,Z,y,d,o,Z,RD.mono s3 _ rd,it,_,Z,?_];cases o with
     |none=>
       erw[aR ?_];erw[s3,zs,_,_,n3.same _ _ dz,?_,Z];rw[qp (g:=λk=>if k<=i+1 then Rz g (leadF os) (2*r) k else g k) (g':=λk=>if k<=i then Rz g (leadF os) (2*r) k else g k)]
       ·erw[aK.mono n3.same _ rz]
       · intro k _
         show(if k<=i then Rz g (leadF os) (2*r) k else g k)=if k<=i+1 then Rz g (leadF os) (2*r) k else g k;by_cases h1:k<=i
         ·rw[bc h1,bc aO]
         · rw[bj h1]
           by_cases h2:k=i+1
           ·subst h2;rw[bc (bf _),ye (K8 eo)]
           ·rw[bj aO] |some q=>
       let(ns,sp):=q;erw[bR ?_];have dG:=iQ it;subst dG;let(bZ,_,_):=row.ok i ns sp eo;have LU:=n3.same _ _ dz;have IG:=aK.mono n3.same _ rz;obtain⟨z1,o7⟩:∃z,zs[i+1]? =some z:=#[_,bN (show i+1<zs.length by omega)];obtain⟨z0,jz⟩:∃z,zs[i]? =some z:=#[_,bN (show i<zs.length by omega)];have R1:bM K H3 z1 (g (i+1)):=by
        let(d1,e1,r1):=IG.get' (i+1) o7;rw[bP,lO _ (show i+1<=os.length by omega)]at e1;cases e1;have:¬(i+1<=i):=by omega
        simp only[bj this]at r1;erw[jK r1]
       have R0:bM K H3 z0 (Rz g (leadF os) (2*r) i):=by let(d1,e1,r1):=IG.get' i jz;rw[bP,lO _ (show i<=os.length by omega)]at e1;cases e1;simp only[bc (bf i)]at r1;erw[jK r1]
       have tN:((i:Int)+1).toNat=i+1:=by omega
       have vS:fc zs ((i:Int)+1)=some z1:=cx aO (by rw[tN];erw[o7]);have vT:fc zs (i:Int)=some z0:=cx aO (by simpa using jz);erw[_,Z,_,Z,_,_,Z,Z,.inl #[D,_,_,_,Z,Z,aF.of LU,vS,?_]];erw[_,Z,_,Z,.inl #[D,_,_,_,Z,Z,aF.of LU,vT,?_]];erw[_,Z,_,_,Z,Z,.of_left (dF az az),?_];erw[_,Z,y,ns,sp,Z,RD.mono s3 _ rd,bZ.ne,by rw[bZ.len];omega,λH4 s4=>?_];have iA:=aD.r1;erw[_,_,Z,Z,.of_left (dF aO aO),?_];have us:=hL i _ (qw eo);erw[z0,_,_,Z,R0.go s4,(RB i aO).mono az,us,λu H5 ru s5=>?_];erw[cy Z,λl2 H6 n6=>?_];have iZ:=s4.trans (s5.trans n6.same);have Xc:=R1.go iZ;have Ru:=ru.go n6.same;have B1:Bd 2000 (g (i+1)):=(bg _).mono az;have B2:Bd 2000 (Rz g (leadF os) (2*r) i+((2*r*(aG ns:Int):Int):Rat)):=(jZ (RB i aO) us).mono az;erw[l2,[z1,u],[_,_],Z,aF.of n6.at',#[Xc,B1,Ru,B2,trivial],by simp,λc v q e1 e2 hq=>?_];have nH:mn (g (i+1)) (Rz g (leadF os) (2*r) i+((2*r*(aG ns:Int):Int):Rat))=q:=by
        erw[uV ?_ (hq _ (by simp)) (hq _ (by simp))]
        match c,e2 with |0,e2=>cases e2;erw[.inl rfl] |1,e2=>cases e2;erw[.inr rfl]
       have Rv:bM K H6 v q:=by match c,e1,e2 with |0,e1,e2=>cases e1;cases e2;erw[Xc] |1,e1,e2=>cases e1;cases e2;erw[Ru]
       have jW:=iZ _ _ LU;have ix1:jv zs.length ((i:Int)+1)=some (i+1):=by unfold jv;rw[bc aO,bc aO,tN]
       erw[_,Z,_,Z,_,_,Z,Z,D,zs,_,_,Z,Z,jW,ix1,?_];erw[λb o e=>?_,_,_,_,cg,?_,Z]
       ·rw[aY (eJ e n1.no)];erw[iZ b o (s3 b o e)]
       · have h:=aK.FU (i:=i+1) jW (aK.mono iZ _ IG) Rv.rd (qj _) (qd _)
         rw[<-ER]at h;have e:(lst os.length λk=>if k<=i then Rz g (leadF os) (2*r) k else g k).set (i+1) q=lst os.length λk=>if k<=i+1 then Rz g (leadF os) (2*r) k else g k:=by
          rw[<-JX (g:=λk=>if k<=i then Rz g (leadF os) (2*r) k else g k) (g':=λk=>if k<=i+1 then Rz g (leadF os) (2*r) k else g k) (i:=i+1)]
          · simp only[bc (bf (i+1))]
            rw[oo (qw eo),nH]
          · intro k _ hk
            show(if k<=i+1 then _ else _)=if k<=i then _ else _;by_cases h1:k<=i
            ·rw[bc h1,bc aO]
            ·rw[bj h1,bj aO]
         rw[e]at h;erw[h]
   · rintro O H2 ⟨s2,zs,v1,v2,dz,rz,rfl⟩
     rw[qp (g:=λk=>if k<=xs.length then Rz g (leadF os) (2*r) k else g k) (g':=Rz g (leadF os) (2*r)) (λk hk=>by show _=if k<=xs.length then _ else _;rw[bc aO])]at rz;erw[_,Z,k D zs H2 n1.no dz rz s2]
end
section
def gP(r f:Int)(ld:Nat)(top b e:Rat)(k:Nat):Rat:=mn (mn (b+((r*(2*(1+(k:Int))-1):Int):Rat)) top) (e+((f*(2*((ld:Int)-(1+(k:Int)))+1):Int):Rat))
def JS(r f:Int)(ld:Nat)(top b e:Rat):List Rat:=(List.range ld).map (gP r f ld top b e)
theorem Tt{x y z q:Rat}(h:q=x\/q=y\/q=z)(h1:q<=x)(h2:q<=y)(h3:q<=z):mn (mn x y) z=q:=by
 erw[rn ?_ (gD (gD h1 h2) h3)];rcases h with h|h|h
 ·rw[h];erw[cM (fb _ _) (fb _ _)]
 ·rw[h];erw[cM (fb _ _) (gM _ _)]
 ·rw[h];erw[gM _ _]
theorem IV{r:Int}{k ld:Nat}(h1:1<=r)(h2:r<=50)(hk:k<ld)(hl:ld<=100):(r*(2*(1+(k:Int))-1)).natAbs<=50*200:=by rw[jD];erw[pM ao ao]
theorem Lm{f:Int}{k ld:Nat}(h1:1<=f)(h2:f<=50)(hk:k<ld)(hl:ld<=100):(f*(2*((ld:Int)-(1+(k:Int)))+1)).natAbs<=50*201:=by rw[jD];erw[pM aO aO]
theorem jM:(2:Nat)^24=16777216:=by decide
inductive ae4(K:aa)(vs:List V)(H:Hp)(Q:VK):Prop |mk (m:_)(iv:_)(bv:_)(ev:_)(rate:_)(rs:_)(r:_)(f:_)(j:_)(t:_)(ns:_)(sp:_)(b:_)(e:_)(h0:vs=[m,iv,bv,ev,.int rate])(h1:RD K H m (fJ rs r f j t))(h2:gG rs r f j t)(h3:RD K H iv (eK ns sp))(h4:fu rs.length 100 ns)(h5:1<=sp)(h6:sp<=20)(h7:bM K H bv b)(h8:bM K H ev e)(h9:Bd 1800 b)(vq:Bd 1800 e)(L8:10<=rate)(vp:rate<=200)(Ve:∀l ys H',H l=none->H' l=some (.lst ys)->aK K H' ys ((JS r f (aG ns) (topR rate sp) b e).map cQ)->aH H H'->Q (.ref l) H')
def FI(K:aa):Sp:=λvs H Q _=>ae4 K vs H Q
theorem qv{n:Nat}{ns:List Int}(h:fu n 100 ns):aG ns<=100:=by have:=h.lead;lia
theorem a18{α:Type}(g:Nat->α)(i:Nat):(List.range (i+1)).map g=(List.range i).map g++[g i]:=by rw[N2,gJ];rfl
theorem Q9:bo ["machine","line","begin","end","rate","rise","fall","top","lead","told","k","risen","falling"] ["machine","line","begin","end","rate"] (aU GY):=bp aJ
theorem a3r(F:FA K mg "middles" GY)(B:bI mg)(oY:aA P w K mg aw "top_square" 4 (uu K))(jw:aA P w K mg aw "lead_of" 1 (mY K))(je:aA P w K mg aw "plus_whole" 4 (rX K))(mF:aA P w K mg aw "least" 2 (md K)):aA P w K mg aw "middles" 5 (FI K):=by
 erw[F.has Q9 (λvs H Q E h=>?_) (λ_ _ _ _ _ _=>al5 λ_ _ _ _ _=>rfl) (λfa aL A outer s H vs Q E hr h=>?_)]
 ·let(m,iv,bv,ev,rate,rs,r,f,j,t,ns,sp,b,e,rfl,_):=h
  rfl
 ·let(m,iv,bv,ev,rate,rs,r,f,j,t,ns,sp,b,e,rfl,rm,aD,ri,bZ,cP,dX,Rb,Re,bb,be,cj,cm,k):=h
  have nd:=Q9.nd;erw[_,(aB (zo (i:=5) (j:=6) Z nd Z Z az Z Z (ak (px K (pv 0) aE) (ak (px K (pv 0) aE) ay)) Z) (aB (pS 7 nd (pf oY hr (ak (pv 1) (ak (pv 4) ay)))) (aB (pS 8 nd (pf jw hr (ak (pv 1) ay))) (aB (pS 9 nd (dw ay)) (aB (iB gj Z (Sn Z (B.at "range") (ak aE (ak (aP eu (pv 8) aE) ay))) (aV 10 nd) (aB (pS 11 nd (pf je hr (ak (pv 2) (ak (aP cK (pv 5) (aP j9 (aP cK aE (pv 10)) aE)) ay)))) (aB (pS 12 nd (pf je hr (ak (pv 3) (ak (aP cK (pv 6) (aP eu (aP cK aE (aP j9 (pv 8) (pv 10))) aE)) ay)))) (aI (gb (jr K Z (pv 9) (ak (pf mF hr (ak (dw (ak (pv 11) (ak (pv 7) (ak (pv 12) ay)))) ay)) ay))))))) (aI (aQ (pv 9)))))))),?_];let(ma,mb,rfl,gE,jR):=oT rm;have iA:=aD.r1;have ie:=aD.f1;have lr:=aD.len;have mz:=qv bZ;erw[_,Z,.inr #[ma,_,1,.int r,Z,Z,gE,Z,_,Z,.inr #[ma,_,2,.int f,Z,Z,gE,Z,_,_,Z,?_]]];erw[_,Z,_,Z,iv,ns,sp,rate,Z,ri,cP,dX,cj,cm,λtv H1 Rt1 s1=>?_];erw[_,Z,iv,ns,sp,Z,RD.mono s1 _ ri,bZ.ne,by rw[bZ.len];omega,λH2 s2=>?_];erw[cy Z,λD H3 n3=>?_];have gp:=s1.trans (s2.trans n3.same);have nD:H D=none:=by cases e:H D with |none=>rfl |some o=>have:=(s1.trans s2) _ _ e;rw[n3.no]at this;cases this
  erw[_,Z,_,_,Z,Z,_,_,Z,#[aO,aO,aO,aO],?_];have eN:(((aG ns:Int)+1)-1).toNat=aG ns:=by omega
  rw[eN];have tb:Bd 2000 (topR rate sp):=(_O.pR cP dX cj cm).mono az;erw[xM (Pv:=λi O H4=>aH H H4/\bM K H4 tv (topR rate sp)/\∃zs v1 v2 v3,H4 D=some (.lst zs)/\aK K H4 zs (((List.range i).map (gP r f (aG ns) (topR rate sp) b e)).map cQ)/\O=[some (.ref ma),some iv,some bv,some ev,some (.int rate),some (.int r),some (.int f),some tv,some (.int (aG ns)),some (.ref D),v1,v2,v3]) ?_ ?_ ?_]
  ·erw[gp,Rt1.go (s2.trans n3.same),[],none,none,none,n3.at',cX,Z]
  ·rintro i O H4 UZ ⟨s4,Et,zs,v1,v2,v3,dz,rz,rfl⟩
   erw[iG ?_];intro E2;have lz:=rz.length;rw[ba,ba,iz]at lz;have V7:=IV iA.1 iA.2 UZ mz;have V6:=Lm ie.1 ie.2 UZ mz;erw[_,Z,_,Z,_,Z,_,_,Z,Z,.of_left (dF az az),_,_,Z,Z,_,_,Z,Z,.of_left (dF aO aO),?_];erw[bv,b,_,Z,Rb.go s4,bb.mono az,(by rw[jM];omega),λu1 H5 jm s5=>?_];erw[_,Z,_,Z,_,Z,_,Z,_,_,Z,Z,_,_,Z,Z,.of_left (dF az az),_,_,Z,Z,_,_,Z,Z,.of_left (dF aO aO),?_];erw[ev,e,_,Z,Re.go (s4.trans s5),be.mono az,(by rw[jM];omega),λu2 H6 nj s6=>?_];have wV:=s5.trans s6;have jW:=wV _ _ dz;erw[_,Z,.inl #[Z,_,aF.of jW],?_];erw[_,Z,_,Z,_,Z,cy Z,λlq H7 n7=>?_];have R1:=jm.go (s6.trans n7.same);have R2:=(Et.go wV).go n7.same;have R3:=nj.go n7.same;erw[lq,[u1,tv,u2],[_,_,_],Z,aF.of n7.at',#[R1,(jZ bb (by rw[jM];omega)).mono az,R2,tb,R3,(jZ be (by rw[jM];omega)).mono az,trivial],by simp,λc v q e1 e2 hq=>?_];have nH:gP r f (aG ns) (topR rate sp) b e i=q:=by
    erw[Tt ?_ (hq _ (by simp)) (hq _ (by simp)) (hq _ (by simp))]
    match c,e2 with |0,e2=>cases e2;erw[.inl rfl] |1,e2=>cases e2;erw[.inr (.inl rfl)] |2,e2=>cases e2;erw[.inr (.inr rfl)]
   have Rv:bM K H7 v q:=by match c,e1,e2 with |0,e1,e2=>cases e1;cases e2;erw[R1] |1,e1,e2=>cases e1;cases e2;erw[R2] |2,e1,e2=>cases e1;cases e2;erw[R3]
   have R5:=wV.trans n7.same;have LS:=n7.same _ _ jW;erw[D,zs,_,Z,Z,LS,Ck _ aO,?_];have h8:=aK.wN LS (aK.mono R5 _ rz) Rv.rd (qj _) (qd _);have Rt8:bM K (_L.upd H7 D (.lst (zs++[v]))) tv (topR rate sp):=by let(ta,rfl,ht):=R2;erw[ta,Z,ht.t (.iX LS)]
   erw[λb o e=>?_,Rt8,_,_,_,_,cg,?_,Z]
   ·rw[aY (eJ e nD)];erw[R5 b o (s4 b o e)]
   ·rw[a18,gJ,nH]
    erw[h8]
  ·rintro O H4 ⟨s4,Et,zs,v1,v2,v3,dz,rz,rfl⟩
   erw[_,Z,k D zs H4 nD dz rz s4]
end
end _a
namespace _a
open PySem PySem.Spec PyProof.Rows _L _b _l _W
section
def da(pl:List Int):ah:=.tuple (pl.map PyData.int)
theorem gq(pl:List Int):eA (da pl)=true:=by rw[da,eA];erw[mm pl]
theorem Sh{H:Hp}{v:V}{pl:List Int}(h:RD K H v (da pl)):∃a,v= .ref a/\aW K H a (pl.map V.int):=by let(a,xs,rfl,h1,h2):=h.cv;rw[h2.gh]at h1;erw[a,Z,h1]
theorem Sg{H:Hp}{a:Addr}{pl:List Int}(h:aW K H a (pl.map V.int)):RD K H (.ref a) (da pl):=fO h (pY pl)
def fY(pl:List Int):Itm->List Int |none=>pl |some (ns,_)=>fZ pl ns
theorem bO.putL{p l:Addr}{H H1:Hp}{xs:List V}(b:bO p H H1)(hp:l≠p)(nl:H l=none):bO p H (_L.upd H1 l (.lst xs)):=by
 erw[?_,λc o n e=>?_]
 ·let(c',m',e,ok):=b.bU
  erw[c',m',by rw[aY hp.symm];erw[e],ok]
 ·rw[aY (eJ e nl)];erw[b.same c o n e]
inductive adS(K:aa)(vs:List V)(H:Hp)(Q:VK):Prop |mk (p:_)(m:_)(rs:_)(r:_)(f:_)(j:_)(t:_)(h0:vs=[.ref p,m])(h1:gH H p)(h2:RD K H m (fJ rs r f j t))(h3:gG rs r f j t)(h4:∀v pl H',RD K H' v (da pl)->ft rs pl->bO p H H'->Q v H')
def OA(K:aa):Sp:=λvs H Q _=>adS K vs H Q
theorem PY:bo ["_law_bag_here","_law_machine_here"] ["_law_bag_here","_law_machine_here"] (aU GN):=bp aJ
theorem a3h(F:FA K mg "_law_place" GN)(B:bI mg)(eO:aA P w K mg aw "_law_take" 1 mX):aA P w K mg aw "_law_place" 2 (OA K):=by
 erw[F.has PY (λvs H Q E h=>?_) (λ_ _ _ _ _ _=>dW λ_ _=>rfl) (λf aL A outer s H vs Q E hr h=>?_)]
 ·let(p,m,rs,r,f,j,t,rfl,_):=h
  rfl
 ·let(p,m,rs,r,f,j,t,rfl,bg,rm,xl,k):=h
  have nd:=PY.nd;erw[_,(aI (aQ (dh (x:="tuple") (kn K Z) Z (B.at "tuple") ir (ak (eU (N:=["_law_rail","_law_bag_here"]) (js:=[none,some 0]) rfl rfl rfl (j5 K rfl (px K (pv 1) aE)) (λ_ _ _ _ _=>(aV 0 (jQ az))) (λ_ _ _ _ _=>dZ) (λ_ _ _ _ _=>(pf eO hr (ak (pv 1) (ak (aP eu (pv 0) aE) ay))))) ay)))),?_];let(ma,mb,rfl,gE,jR):=oT rm;have lr:=xl.len;erw[_,Z,.inr #[ma,_,0,.ref mb,Z,Z,gE,cx (df 0) Z,mb,Z,#[_,jR],λD H1 n1=>?_]];erw[Wo (K:=K) (J:=tX K mb) (p:=p) (H:=H) rs.length _ n1 bg ao (λi=>.int (rs.getD i 0)) (λi H2 hi b2=>?_) (λH2 b2=>?_) (λi d=>∃z r,d= .int z/\rs[i]? =some r/\0<=z/\z<=r) ?_ ?_]
  ·have Kz:=jR.t (bO.t bg b2)
   have e:(rs.map V.int)[i]? =some (.int (rs.getD i 0)):=by rw[bP,N8,bN hi];rfl
   erw[#[_,_,Kz,e],λy H3 #[e3,y3]=>#[e3,by have:=y3 _ Kz;rw[e]at this;exact(eX this).symm]]
  ·erw[_,jR.t (bO.t bg b2),by rw[ba];erw[bf _]]
  ·intro i H2 Q' hi b2 hq
   have er:rs[i]? =some (rs.getD i 0):=by rw[N8,bN hi];rfl
   let(r0,r1):=xl.rl _ (fR er);erw[_,Z,_,Z,_,_,Z,Z,p,_,Z,b2.bU,ao,ao,λz H3 z0 z1 b3=>?_];erw[hq _ _ _ #[z,_,Z,er,z0,ao] Z (fP z) b3]
  ·intro H2 ys ds b2 d2 r2 l2 nl pd
   have tq:∃pl:List Int,ds=pl.map PyData.int/\ft rs pl:=by
    have key:∀(ds:List ah),(∀d∈ds,∃z:Int,d= .int z)->∃pl:List Int,ds=pl.map PyData.int:=by intro ds;induction ds with |nil=>erw[λ_=>#[[],Z]] |cons d ds ih=>intro h;let(z,rfl):=h d (.head _);let(pl,rfl):=ih λx hx=>h x (.tail _ hx);erw[z::pl,Z]
    let(pl,rfl):=key ds λd hd=>by let(i,hi):=ou.mp hd;let(z,_,e,_):=pd i d hi;erw[z,e]
    erw[pl,Z,by simpa using l2,λi x r e1 e2=>?_];let(z,r',e,er,h0,h1):=pd i (.int x) (by rw[bP,e1];rfl);cases e;rw[e2]at er;cases er;erw[h0,h1]
   let(pl,rfl,on):=tq;erw[D,_,Z,.inl #[aF.of d2,λt H3 n3=>?_]];have et:=n3.at';rw[r2.gh]at et;erw[k (.ref t) pl H3 (Sg (aW.of et)) on (b2.trans (.fi b2.bU n3.same))]
end
section
def dc(z:Str):Prop:=∀c∈z.cps.toList,c<0x110000
theorem dc.app{a b:Str}(ha:dc a)(hb:dc b):dc (a++b):=λc hc=>by rw[wk,wz,iy]at hc;erw[hc.elim (ha c) (hb c)]
theorem dc.joined{sep:Str}(hs:dc sep):∀l:List Str,(∀a∈l,dc a)->dc (PySem.Str.join sep l) |[],_=>λc hc=>by simp[PySem.Str.join,PySem.Str.empty]at hc |[x],h=>h x (.head _) |x::y::r,h=>((h x (.head _)).app hs).app (dc.joined hs (y::r) λa ha=>h a (.tail _ ha))
theorem dc.join{sep:Str}{l:List Str}(hs:dc sep)(h:∀a∈l,dc a):dc (Txt.join sep l):=by show dc (Builtin.Str.glued sep l);rw[Bk];erw[dc.joined hs l h]
theorem SJ{n:Nat}{z:Str}(h:dc z):dq n (.str z):=#[by show PyData.strOk z=true;unfold PyData.strOk;rw[XX];erw[λc hc=>cu (h c (by simpa using hc))],fE _]
theorem SI{n:Nat}{z:Str}(h:dq n (.str z)):dc z:=λc hc=>by have q:PyData.strOk z=true:=h.lay;unfold PyData.strOk at q;rw[XX]at q;erw[m4 (q c (by simpa using hc))]
theorem jP{z:Str}(h:z.cps.all (·<0x110000)=true):dc z:=SI (n:=0) #[h,fE _]
theorem NV:∀(ds:List ah),(∀d∈ds,∃z:Str,d= .str z/\z.length=1/\dc z/\z.cps.toList.all (λc=>decide (97<=c)&&decide (c<=122))=true)->∃zs:List Str,ds=zs.map PyData.str/\∀z∈zs,z.length=1/\dc z/\z.cps.toList.all (λc=>decide (97<=c)&&decide (c<=122))=true |[],_=>#[[],Z,λ_ h=>nomatch h] |d::ds,h=>by let(z,rfl,e):=h d (.head _);let(zs,rfl,q):=NV ds λx hx=>h x (.tail _ hx);erw[z::zs,Z,λy hy=>by
 rcases cO.mp hy with rfl|hy
 ·erw[e]
 ·erw[q y hy]]
theorem acQ:dc ka:=jP aJ
def Di(c:Nat):Bool:=decide (97<=c)&&decide (c<=122)
def qk(s:Str):Bool:=(decide (1<=s.length)&&decide (s.length<=8))&&s.cps.toList.all Di
def Jp(w s:Str):Prop:=(w="tool"/\(s="up"\/s="down"))\/(w="mark"/\qk s=true)
def qW(d:ah):Prop:=(∃n,d= .tuple [.str "wait",.int n]/\1<=n/\n<=1000)\/∃w s,d= .tuple [.str w,.str s]/\(w="tool"\/w="mark")/\dq 0 (.str s)/\Jp w s
theorem Vg:∀l:List Str,(PySem.Str.join ("":Str) l).cps.toList=(l.map λz=>z.cps.toList).flatten
 |[]=>by simp[PySem.Str.join,PySem.Str.empty] |[x]=>by simp[PySem.Str.join] |x::y::r=>by
  show((x++("":Str))++PySem.Str.join ("":Str) (y::r)).cps.toList=_;rw[wk,wk,wz,wz,Vg (y::r)];have:(("":Str)).cps.toList=[]:=by decide+kernel
  rw[this];simp
theorem a4W{l:List Str}(h1:1<=l.length)(h8:l.length<=8)(h:∀z∈l,z.length=1/\z.cps.toList.all Di=true):qk (Txt.join ("":Str) l)=true:=by
 have e:(Txt.join ("":Str) l).cps.toList=(l.map λz=>z.cps.toList).flatten:=by show(Builtin.Str.glued ("":Str) l).cps.toList=_;rw[Bk];erw[Vg l]
 have el:(Txt.join ("":Str) l).length=l.length:=by
  show(Txt.join ("":Str) l).cps.size=_;rw[<-BC,e,List.length_flatten,ES];have:∀(l:List Str),(∀z∈l,z.length=1/\z.cps.toList.all Di=true)->(l.map (List.length∘λz=>z.cps.toList)).sum=l.length:=by intro l;induction l with |nil=>intro _;rfl |cons a r ih=>
   intro h;rw[rA,List.sum_cons,ih λz hz=>h z (.tail _ hz),gz];have:=(h a (.head _)).1;have e2:(List.length∘λz:Str=>z.cps.toList) a=1:=by show a.cps.toList.length=1;rw[BC];erw[this]
   rw[e2,N1]
  erw[this l h]
 unfold qk;rw[el,e,cu h1,cu h8,jE,jE,g6];intro c hc;let(cs,p8,jT):=List.mem_flatten.mp hc;let(z,hz,rfl):=cI.mp p8;erw[g6.mp (h z hz).2 c jT]
theorem qW.it{d:ah}(h:qW d):itR d none:=by
 rcases h with⟨n,rfl,_⟩|⟨w,s,rfl,hw|hw,_⟩
 ·erw[.inr #[_,_,Z,.inl Z,Z,Z]]
 ·erw[.inr #[_,_,Z,.inr (.inl hw),Z,Z]]
 ·erw[.inr #[_,_,Z,.inr (.inr hw),Z,Z]]
end
end _a
namespace _a
open PySem PySem.Spec PyProof.Rows _L _l _W
open _O (Itm)
section
theorem TU{H:Hp}{v:V}{rs:List Int}{es:List ah}(h:RD K H v (.tuple (.tuple (rs.map PyData.int)::es))):∃a b ys,v= .ref a/\aW K H a (.ref b::ys)/\aW K H b (rs.map V.int):=by let(a,xs,rfl,h1,h2):=h.cv;let(x1,r1,rfl,e1,h2):=h2.cons_inv;let(b,ys,rfl,h3,h4):=e1.cv;rw[h4.gh]at h3;erw[a,b,r1,Z,h1,h3]
def gf(z:Str):ah->Bool | .str x=>x==z |_=>false
theorem qK(z:Str)(d:ah):PyData.eqv d (.str z)=gf z d:=by cases d<;>simp[PyData.eqv,gf]
theorem VG(z:Str)(d:ah):PyData.eqv (.str z) d=gf z d:=by cases d<;>simp[PyData.eqv,gf];rw[kj];simp;erw[eq_comm]
theorem Zr(d:ah):(∃z,d= .str z)\/(jl (lG d) "str"=false/\∀z,d≠ .str z):=by cases d with |str z=>erw[.inl #[z,Z]] |_=>erw[.inr #[by simp[lG];decide,λ_ z=>nomatch z]]
theorem Yr:jl "str" "str"=true:=by decide
def Kh(d:ah):Bool:=gf "up" d||gf "down" d
def xp(c:Nat):Bool:=decide (97<=c)&&decide (c<=122)
def isNm:ah->Bool | .str x=>(decide (1<=x.length)&&decide (x.length<=8))&&x.cps.toList.all xp |_=>false
def qz(wd v:ah):Bool:=if gf "wait" wd then dy 1 1000 v else if gf "tool" wd then Kh v else gf "mark" wd&&isNm v
def zL:ah->Bool | .int i=>i !=0 |_=>true
def uO(n:Nat):ah->Bool | .tuple ds=>(ds.length==n&&ds.all (dy (-100) 100))&&ds.any zL |_=>false
def nC(n:Nat):ah->Bool | .tuple [wd,a,b]=>gf "line" wd&&(uO n a&&dy 1 20 b) | .tuple [wd,v]=>qz wd v |_=>false
def kM:ah->Bool | .str x=>decide (x.length<=900) |_=>true
def Cm:ah->Bool | .tuple ds=>ds.all kM |_=>true
inductive adk(f:ah->Bool)(K:aa)(vs:List V)(H:Hp)(Q:VK):Prop |mk (v:_)(d:_)(h0:vs=[v])(h1:RD K H v d)(h2:kM d=true)(h3:∀H',aH H H'->Q (.bl (f d)) H')
def Ob(f:ah->Bool)(K:aa):Sp:=λvs H Q _=>adk f K vs H Q
theorem ZP{z:Str}(h:kM (.str z)=true):z.length<=900:=m4 h
theorem Tn(n:Nat):decide ((1:Int)<=(n:Int))=decide (1<=n):=by rw[kj];simp;omega
theorem a4U(n:Nat):decide ((n:Int)<=8)=decide (n<=8):=by rw[kj];simp;omega
theorem X6{l:List Nat}{f:Nat->Bool}:(l.map f).all id=l.all f:=by rw[List.all_map];rfl
theorem acR:∀c<128,decide (c∈ka.cps.toList)=xp c:=by decide+kernel
theorem acU:∀c∈ka.cps.toList,c<128:=by decide+kernel
theorem acT(c:Nat):decide (c∈ka.cps.toList)=xp c:=by
 by_cases h:c<128
 ·erw[acR c h]
 ·rw[dM (λhc=>h (acU c hc)),xp,dM (show¬c<=122 by omega),Bool.and_false]
theorem Qt:bo ["thing"] ["thing"] (aU Hr):=bp aJ
theorem a3M(F:FA K mg "is_name" Hr)(B:bI mg)(a8r:GV mg "LONGEST_NAME" (.int 8))(a8s:GV mg "LETTERS" (.str ka)):aA P w K mg aw "is_name" 1 (Ob isNm K):=by
 erw[F.has Qt (λvs H Q E h=>?_) (λ_ _ _ _ _ _=>dA λ_=>rfl) (λf aL A outer s H vs Q E hr h=>?_)]
 ·let(v,d,rfl,_):=h
  rfl
 ·let(v,d,rfl,rd,sh,k):=h
  have nd:=Qt.nd;erw[_,(aB (bL (PW.pt (iL (cT (cw (mi K B (ak (pv 0) (ak (mh (x:="str") (v:=.ty "str") Z (B.at "str") iJ rfl) ay))))) (jL (cT (a1u zD zD aE (fG (x:="len") ac4 rfl (B.at "len") PySem.boot_len (ak (pv 0) ay)) (eD (x:="LONGEST_NAME") rfl a8r)))))) (aI (aQ j7)) bQ) (aI (aQ (fG (x:="all") (vU K Z Z) Z (B.at "all") yp (ak (eU (N:=["letter"]) (js:=[none]) rfl rfl rfl (Sl (pv 0)) (λ_ _ _ _ _=>(aV 0 (iO _))) (λ_ _ _ _ _=>dZ) (λ_ _ _ _ _=>(jq SE (pv 0) (eD (x:="LETTERS") rfl a8s) (by with_unfolding_all rfl)))) ay))))),?_];rcases Zr d with⟨z,rfl⟩|⟨ht,hn⟩
  ·erw[_,Z,.inl #[_,_,"str",true,Z,rd.ty,az,Yr,_,Z,aR ?_]]
   cases rd.str_inv;have hl:=ZP sh;have k:∀H',aH H H'->Q (.bl ((decide (1<=z.length)&&decide (z.length<=8))&&z.cps.toList.all xp)) H':=k;erw[_,Z,z,Z,iK hl az,_,_,Z,Z,_,Z,?_];erw[gd (λh1=>?_) (λh1=>?_)]
   ·rw[<-Tn,show decide ((1:Int)<=(z.length:Int))=true from h1,jE]at k
    erw[_,_,Z,Z,_,Z,?_];rw[a4U];cases e8:decide (z.length<=8)with |false=>rw[e8,jF]at k;erw[bR (k H (aH.refl _))] |true=>
     rw[e8,jE]at k;erw[aR #[_,Z,z,Z,λD H0 nw=>?_]];erw[Wr (f:=xp) [] nw ao (λc H2 Q' hc s2 hq=>?_) (λH2 s2 d2=>?_)]
     ·erw[_,Z,c,ka,Z,Z,?_]
      rw[acT];erw[hq _ (aH.refl _)]
     ·erw[D,_,Z,aF.of d2,?_]
      rw[X6];erw[k H2 s2]
   ·rw[<-Tn,show decide ((1:Int)<=(z.length:Int))=false from EY.mpr h1,jF,jF]at k
    erw[_,Z,bR (k H (aH.refl _))]
  ·have e:isNm d=false:=by cases d<;>first|rfl|erw[absurd rfl (hn _)]
   rw[e]at k;erw[_,Z,.inl #[_,_,"str",false,Z,rd.ty,az,ht,_,Z,bR ?_]];erw[k H (aH.refl _)]
inductive adw(K:aa)(vs:List V)(H:Hp)(Q:VK):Prop |mk (x:_)(v:_)(wd:_)(d:_)(h0:vs=[x,v])(h1:RD K H x wd)(h2:RD K H v d)(h3:dq 8 wd)(h4:dq 8 d)(h5:kM d=true)(h6:∀H',aH H H'->Q (.bl (qz wd d)) H')
def Og(K:aa):Sp:=λvs H Q _=>adw K vs H Q
theorem rZ{d:ah}(h:dq 8 d):SeqAt.shaped d=true:=h.shaped az
theorem Qr:bo ["word","value"] ["word","value"] (aU Ho):=bp aJ
theorem a3K(F:FA K mg "is_short_item" Ho)(B:bI mg)(a8p:GV mg "LONGEST_WAIT" (.int 1000))(gS:GT K mg "SIDES" [.str "up",.str "down"])(jf:aA P w K mg aw "is_whole_within" 2 (mW K))(a7w:aA P w K mg aw "is_name" 1 (Ob isNm K)):aA P w K mg aw "is_short_item" 3 (Og K):=by
 erw[F.has Qr (λvs H Q E h=>?_) (λ_ _ _ _ _ _=>dW λ_ _=>rfl) (λf aL A outer s H vs Q E hr h=>?_)]
 ·let(x,v,wd,d,rfl,_):=h
  rfl
 ·let(x,v,wd,d,rfl,II,rd,Jw,xo,sh,k):=h
  have nd:=Qr.nd;let(aS,a8l,ZD):=gS;erw[_,(aB (bL (cf (dU K Z hr.units) (pv 0) bW (bS _)) (aI (aQ (pf jf hr (ak (pv 1) (ak aE (ak (eD (x:="LONGEST_WAIT") Z a8p) ay)))))) bQ) (aB (bL (cf (dU K Z hr.units) (pv 0) bW (bS _)) (aI (aQ (jq (a6w K Z (hr.Yo)) (pv 1) (eD (x:="SIDES") Z a8l) (by with_unfolding_all rfl)))) bQ) (aI (aQ (qf (jq (dU K Z hr.units) (pv 0) bW (bS _)) (oM (pf a7w hr (ak (pv 1) ay)))))))),?_];have k:∀H',aH H H'->Q (.bl (if gf "wait" wd then dy 1 1000 d else if gf "tool" wd then Kh d else gf "mark" wd&&isNm d)) H':=k;erw[_,Z,.inr #[_,_,II,bJ _,rZ Jw,aJ,_,Z,?_]];rw[qK];cases e1:gf "wait" wd with |true=>rw[e1,bc rfl]at k;erw[bR #[_,Z,_,d,1,1000,Z,rd,k H (aH.refl _)]] |false=>rw[e1,bj eH]at k;erw[aR #[_,Z,.inr #[_,_,II,bJ _,rZ Jw,aJ,_,Z,?_]]];rw[qK];cases e2:gf "tool" wd with
   |true=>
    rw[e2,bc rfl]at k;erw[bR #[_,Z,aS,_,d,[.str "up",.str "down"],Z,ZD H,rd,cE (bJ _) (cE (bJ _) cX),rZ xo,?_,?_]]
    ·intro e he
     rcases cO.mp he with rfl|he
     ·decide+kernel
     rcases cO.mp he with rfl|he
     ·decide+kernel
     ·exact(iu he).elim
    ·have e:([.str "up",.str "down"]:List ah).any (λe=>PyData.eqv e d)=Kh d:=by rw[yz,yz,List.any_nil,VG,VG,Bool.or_false];rfl
     rw[e];erw[k H (aH.refl _)] |false=>rw[e2,bj eH]at k;erw[aR #[_,Z,.inr #[_,_,II,bJ _,rZ Jw,aJ,_,Z,?_]]];rw[qK];cases e3:gf "mark" wd with |true=>rw[e3,jE]at k;erw[bR #[_,Z,_,d,Z,rd,sh,k]] |false=>rw[e3,jF]at k;erw[aR (k H (aH.refl _))]
theorem a4m(i:Int):(!decide (i=0))=(i !=0):=by rw[kj];simp
theorem a6v{lo hi:Int}{d:ah}(h:dy lo hi d=true):∃i,d= .int i:=by cases d<;>simp[dy]at h;erw[_,Z]
theorem any_map'{ds:List ah}{f:ah->Bool}:(ds.map f).any id=ds.any f:=by rw[List.any_map];rfl
inductive adv(K:aa)(vs:List V)(H:Hp)(Q:VK):Prop |mk (m:V)(v:V)(rs:List Int)(es:List ah)(d:ah)(h0:vs=[m,v])(h1:RD K H m ((.tuple (.tuple (rs.map PyData.int)::es))))(h2:RD K H v d)(h3:rs.length<=3)(h4:∀H',aH H H'->Q (.bl (uO rs.length d)) H')
def Of(K:aa):Sp:=λvs H Q _=>adv K vs H Q
theorem QP:bo ["machine","thing","rails"] ["machine","thing"] (aU Ir):=bp aJ
theorem a47(F:FA K mg "are_steps" Ir)(B:bI mg)(Va:GV mg "MOST_STEPS" (.int 100))(jf:aA P w K mg aw "is_whole_within" 2 (mW K)):aA P w K mg aw "are_steps" 3 (Of K):=by
 erw[F.has QP (λvs H Q E h=>?_) (λ_ _ _ _ _ _=>dW λ_ _=>rfl) (λf aL A outer s H vs Q E hr h=>?_)]
 ·let(m,v,rs,es,d,rfl,_):=h
  rfl
 ·let(m,v,rs,es,d,rfl,rm,rd,l3,k):=h
  have nd:=QP.nd;erw[_,(aB (pS 2 nd (px K (pv 0) aE)) (aB (bL (PW.pt (iL (cT (cw (mi K B (ak (pv 1) (ak (mh (x:="tuple") (v:=.ty "tuple") Z (B.at "tuple") ir rfl) ay))))) (jL (cf (kR K rfl hr.units) (fU K B (ak (pv 1) ay)) (fU K B (ak (pv 2) ay)) (bS _))))) (aI (aQ j7)) bQ) (aB (bL (cT (cw (fG (x:="all") (vU K Z Z) Z (B.at "all") yp (ak (eU (N:=["step"]) (js:=[none]) rfl rfl rfl (j5 K rfl (pv 1)) (λ_ _ _ _ _=>(aV 0 (iO _))) (λ_ _ _ _ _=>dZ) (λ_ _ _ _ _=>(pf jf hr (ak (pv 0) (ak (jN jH (eD (x:="MOST_STEPS") rfl Va)) (ak (eD (x:="MOST_STEPS") rfl Va) ay)))))) ay)))) (aI (aQ j7)) bQ) (aI (aQ (fG (x:="any") (X2 K Z Z) Z (B.at "any") MV (ak (eU (N:=["step"]) (js:=[none]) rfl rfl rfl (j5 K rfl (pv 1)) (λ_ _ _ _ _=>(aV 0 (iO _))) (λ_ _ _ _ _=>dZ) (λ_ _ _ _ _=>(jq (kR K rfl hr.units) (pv 0) aE (bS _)))) ay))))))),?_];let(am,ar,ym,rfl,hm,har):=TU rm;erw[_,Z,.inr #[am,_,0,_,Z,Z,hm,cx (df 0) Z,?_]];rcases yJ d with⟨ds,rfl⟩|⟨ht,hn⟩
  ·erw[_,Z,.inl #[_,_,"tuple",true,Z,rd.ty,az,mU,_,Z,aR ?_]]
   let(av,xs,rfl,hx,hd):=rd.cv;have hl:=hd.length;erw[_,Z,av,_,Z,.inr hx,_,Z,ar,_,Z,.inr har,.inl #[_,_,Z,Z,_,Z,?_]];have k:∀H',aH H H'->Q (.bl ((ds.length==rs.length&&ds.all (dy (-100) 100))&&ds.any zL)) H':=k;have e0:(!decide ((xs.length:Int)=((rs.map V.int).length:Int)))= !(ds.length==rs.length):=by rw[hl,ba];congr 1;rw[kj];simp;lia
   rw[e0];cases e:(ds.length==rs.length)with |false=>rw[e,jF,jF]at k;erw[bR (k H (aH.refl _))] |true=>
    rw[e,jE]at k;erw[aR ?_];have el:ds.length=rs.length:=fL.mp e;erw[_,Z,av,Z,#[_,hx],λD H0 nw=>?_];erw[AN (xs:=xs) (bs:=ds.map (dy (-100) 100)) [] hx nw (by rw[ba,hl]) ao ?_ ?_]
    ·intro i x b H2 Q' ex eb s2 hq
     let(d,ed,rfl):=De eb;let(x',kD,rx):=hd.get i ed;rw[ex]at kD;cases kD;erw[_,Z,_,Z,_,d,-100,100,Z,RD.mono s2 _ rx,hq _ (aH.refl _)]
    ·intro H2 s2 d2
     erw[D,_,Z,aF.of d2,_,Z,?_];rw[all_map];cases e1:ds.all (dy (-100) 100)with |false=>rw[e1,jF]at k;erw[bR (k H2 s2)] |true=>
      rw[e1,jE]at k;erw[aR #[_,Z,av,Z,#[_,hx.go s2],λD2 H3 n3=>?_]];erw[AN (xs:=xs) (bs:=ds.map zL) [] (hx.go s2) n3 (by rw[ba,hl]) ao ?_ ?_]
      ·intro i x b H4 Q' ex eb s4 hq
       let(d,ed,rfl):=De eb;let(x',kD,rx):=hd.get i ed;rw[ex]at kD;cases kD;let(z,rfl):=a6v (g6.mp e1 d (fR ed));cases rx.int_inv;erw[_,Z,.inl #[_,_,Z,Z,?_]];show Q' (.bl (!decide (z=0))) H4;rw[a4m];erw[hq _ (aH.refl _)]
      ·intro H4 s4 d4
       erw[D2,_,Z,aF.of d4,?_];rw[any_map'];erw[k H4 (s2.trans s4)]
  ·have e:uO rs.length d=false:=by cases d<;>first|rfl|erw[absurd rfl (hn _)]
   rw[e]at k;erw[_,Z,.inl #[_,_,"tuple",false,Z,rd.ty,az,ht,_,Z,bR ?_]];erw[k H (aH.refl _)]
theorem item_cases(n:Nat)(d:ah):(∃wd a b,d= .tuple [wd,a,b])\/(∃wd v,d= .tuple [wd,v])\/(∃ds,d= .tuple ds/\ds.length≠3/\ds.length≠2/\nC n d=false)\/(jl (lG d) "tuple"=false/\nC n d=false):=by
 rcases yJ d with⟨ds,rfl⟩|⟨ht,hn⟩
 ·match ds with |[r,a,b]=>erw[.inl #[r,a,b,Z]] |[r,a]=>erw[.inr (.inl #[r,a,Z])] |[]=>erw[.inr (.inr (.inl #[_,Z,by simp,by simp,by simp[nC]]))] |[_]=>erw[.inr (.inr (.inl #[_,Z,by simp,by simp,by simp[nC]]))] |_::_::_::_::_=>erw[.inr (.inr (.inl #[_,Z,by simp,by simp,by simp[nC]]))]
 ·erw[.inr (.inr (.inr #[ht,by cases d<;>first|rfl|erw[absurd rfl (hn _)]]))]
inductive aee(K:aa)(vs:List V)(H:Hp)(Q:VK):Prop |mk (m:V)(v:V)(rs:List Int)(es:List ah)(d:ah)(h0:vs=[m,v])(h1:RD K H m ((.tuple (.tuple (rs.map PyData.int)::es))))(h2:RD K H v d)(h3:rs.length<=3)(h4:dq 8 d)(h5:Cm d=true)(h6:∀H',aH H H'->Q (.bl (nC rs.length d)) H')
def yW(K:aa):Sp:=λvs H Q _=>aee K vs H Q
theorem CO{ds:List ah}(h:dq 8 (.tuple ds)){d:ah}(hd:d∈ds):dq 8 d:=((dq.cv (n:=7) h) d hd).le az
theorem ZQ{ds:List ah}(h:Cm (.tuple ds)=true){d:ah}(hd:d∈ds):kM d=true:=g6.mp (show ds.all kM=true from h) d hd
theorem Qv:bo ["machine","thing","word","steps","speed","value"] ["machine","thing"] (aU Ht):=bp aJ
theorem a3O(F:FA K mg "is_item" Ht)(B:bI mg)(KS:GV mg "GREATEST_SPEED" (.int 20))(jf:aA P w K mg aw "is_whole_within" 2 (mW K))(a8f:aA P w K mg aw "are_steps" 3 (Of K))(a7v:aA P w K mg aw "is_short_item" 3 (Og K)):aA P w K mg aw "is_item" 4 (yW K):=by
 erw[F.has Qv (λvs H Q E h=>?_) (λ_ _ _ _ _ _=>dW λ_ _=>rfl) (λf aL A outer s H vs Q E hr h=>?_)]
 ·let(m,v,rs,es,d,rfl,_):=h
  rfl
 ·let(m,v,rs,es,d,rfl,rm,rd,l3,xo,sh,k):=h
  have nd:=Qv.nd;erw[_,(aB (bL (cT (cw (mi K B (ak (pv 1) (ak (mh (x:="tuple") (v:=.ty "tuple") Z (B.at "tuple") ir rfl) ay))))) (aI (aQ j7)) bQ) (aB (bL (cf (dU K Z hr.units) (fU K B (ak (pv 1) ay)) aE (bS _)) (aB (fh (pv 1) (eg K Z (n:=3) Z (bV (aV 2 nd) (bV (aV 3 nd) (bV (aV 4 nd) e9))))) (aI (aQ (qf (jq (dU K Z hr.units) (pv 2) bW (bS _)) (qf (pf a8f hr (ak (pv 0) (ak (pv 3) ay))) (oM (pf jf hr (ak (pv 4) (ak aE (ak (eD (x:="GREATEST_SPEED") Z KS) ay)))))))))) bQ) (aB (bL (cf (dU K Z hr.units) (fU K B (ak (pv 1) ay)) aE (bS _)) (aB (fh (pv 1) (eg K Z (n:=2) Z (bV (aV 2 nd) (bV (aV 5 nd) e9)))) (aI (aQ (pf a7v hr (ak (pv 2) (ak (pv 5) ay)))))) bQ) (aI (aQ j7))))),?_];rcases item_cases rs.length d with⟨wd,a,b,rfl⟩|⟨wd,a,rfl⟩|⟨ds,rfl,h3,h2,hf⟩|⟨ht,hf⟩
  ·erw[_,Z,.inl #[_,_,"tuple",true,Z,rd.ty,az,mU,_,Z,aR ?_]]
   let(p,xs,rfl,hx,hd):=rd.cv;let(u1,ys,rfl,r1,hd):=hd.cons_inv;let(u2,ys,rfl,r2,hd):=hd.cons_inv;let(u3,ys,rfl,r3,hd):=hd.cons_inv;cases hd.nil_inv;have k:∀H',aH H H'->Q (.bl (gf "line" wd&&(uO rs.length a&&dy 1 20 b))) H':=k;erw[_,Z,p,_,Z,.inr hx,.inl #[_,_,Z,Z,_,Z,bR ?_]];erw[_,Z,p,_,Z,hx,Z,_,_,Z,_,_,Z,_,_,Z,Z,?_];erw[_,Z,.inr #[_,_,r1,bJ _,rZ (CO xo (by simp)),aJ,_,Z,?_]];rw[qK];cases e1:gf "line" wd with |false=>rw[e1,jF]at k;erw[aR (k H (aH.refl _))] |true=>rw[e1,jE]at k;erw[bR #[_,Z,_,Z,_,_,rs,es,a,Z,rm,r2,l3,λH1 s1=>#[_,Z,?_]]];cases e2:uO rs.length a with |false=>rw[e2,jF]at k;erw[aR (k H1 s1)] |true=>rw[e2,jE]at k;erw[bR #[_,Z,_,b,1,20,Z,RD.mono s1 _ r3,k H1 s1]]
  ·erw[_,Z,.inl #[_,_,"tuple",true,Z,rd.ty,az,mU,_,Z,aR ?_]]
   let(p,xs,rfl,hx,hd):=rd.cv;let(u1,ys,rfl,r1,hd):=hd.cons_inv;let(u2,ys,rfl,r2,hd):=hd.cons_inv;cases hd.nil_inv;have k:∀H',aH H H'->Q (.bl (qz wd a)) H':=k;erw[_,Z,p,_,Z,.inr hx,.inl #[_,_,Z,Z,_,Z,aR ?_]];erw[_,Z,p,_,Z,.inr hx,.inl #[_,_,Z,Z,_,Z,bR ?_]];erw[_,Z,p,_,Z,hx,Z,_,_,Z,_,_,Z,Z,?_];erw[_,Z,_,Z,_,_,wd,a,Z,r1,r2,CO xo (by simp),CO xo (by simp),ZQ sh (by simp),k]
  ·rw[hf]at k
   erw[_,Z,.inl #[_,_,"tuple",true,Z,rd.ty,az,mU,_,Z,aR ?_]];let(p,xs,rfl,hx,hd):=rd.cv;have hl:=hd.length;erw[_,Z,p,_,Z,.inr hx,.inl #[_,_,Z,Z,_,Z,?_]];rw[show decide ((xs.length:Int)=3)=false from dM ao];erw[aR #[_,Z,p,_,Z,.inr hx,.inl #[_,_,Z,Z,_,Z,?_]]];rw[show decide ((xs.length:Int)=2)=false from dM ao];erw[aR (k H (aH.refl _))]
  ·rw[hf]at k
   erw[_,Z,.inl #[_,_,"tuple",false,Z,rd.ty,az,ht,_,Z,bR ?_]];erw[k H (aH.refl _)]
def Ki(rs:List Int):ah->Bool | .tuple es=>es.length==rs.length&&((es.zip rs).map λp=>dy 0 p.2 p.1).all id |_=>false
inductive aej(K:aa)(vs:List V)(H:Hp)(Q:VK):Prop |mk (m:V)(v:V)(rs:List Int)(ds:List ah)(d:ah)(h0:vs=[m,v])(h1:RD K H m (.tuple (.tuple (rs.map PyData.int)::ds)))(h2:RD K H v d)(h3:rs.length<=3)(h4:∀H',aH H H'->Q (.bl (Ki rs d)) H')
def wL(K:aa):Sp:=λvs H Q _=>aej K vs H Q
theorem zip_get{es:List ah}{rs:List Int}{i:Nat}{b:Bool}(h:((es.zip rs).map λp=>dy 0 p.2 p.1)[i]? =some b):∃e r,es[i]? =some e/\rs[i]? =some r/\dy 0 r e=b:=by rw[bP]at h;cases q:(es.zip rs)[i]? with |none=>rw[q]at h;cases h |some p=>rw[q]at h;let(e1,e2):=Bx.mp q;erw[p.1,p.2,e1,e2,eX h]
theorem ints_get{rs:List Int}{i:Nat}{r:Int}(h:rs[i]? =some r):(rs.map V.int)[i]? =some (.int r):=by rw[bP,h];rfl
theorem Qs:bo ["machine","thing","rails"] ["machine","thing"] (aU Hq):=bp aJ
theorem a3L(F:FA K mg "is_place" Hq)(B:bI mg)(jf:aA P w K mg aw "is_whole_within" 2 (mW K)):aA P w K mg aw "is_place" 3 (wL K):=by
 erw[F.has Qs (λvs H Q E h=>?_) (λ_ _ _ _ _ _=>dW λ_ _=>rfl) (λf aL A outer s H vs Q E hr h=>?_)]
 ·let(m,v,rs,ds,d,rfl,_):=h
  rfl
 ·let(m,v,rs,ds,d,rfl,rm,rd,l3,k):=h
  have nd:=Qs.nd;erw[_,(aB (pS 2 nd (px K (pv 0) aE)) (aB (bL (PW.pt (iL (cT (cw (mi K B (ak (pv 1) (ak (mh (x:="tuple") (v:=.ty "tuple") Z (B.at "tuple") ir rfl) ay))))) (jL (cf (kR K rfl hr.units) (fU K B (ak (pv 1) ay)) (fU K B (ak (pv 2) ay)) (bS _))))) (aI (aQ j7)) bQ) (aI (aQ (fG (x:="all") (vU K Z Z) Z (B.at "all") yp (ak (eU (N:=["number","rail"]) (js:=[none,none]) rfl rfl rfl (oK K rfl false false rfl (B.at "zip") (ak (pv 1) (ak (pv 2) ay))) (λ_ _ _ _ _=>(eg K rfl (n:=2) rfl (bV (aV 0 (jQ az)) (bV (aV 1 (jQ az)) e9)))) (λ_ _ _ _ _=>dZ) (λ_ _ _ _ _=>(pf jf hr (ak (pv 0) (ak aE (ak (pv 1) ay)))))) ay)))))),?_];let(am,xm,rfl,hm,hdm):=rm.cv;let(yr,ym,rfl,r1,agy):=hdm.cons_inv;let(ar,xr,rfl,DG,hdr):=r1.cv;cases hdr.gh;erw[_,Z,.inr #[am,_,0,_,Z,Z,hm,cx (df 0) Z,?_]];rcases yJ d with⟨es,rfl⟩|⟨ht,hn⟩
  ·erw[_,Z,.inl #[_,_,"tuple",true,Z,rd.ty,az,mU,_,Z,aR ?_]]
   let(av,xs,rfl,hx,hd):=rd.cv;have hl:=hd.length;erw[_,Z,av,_,Z,.inr hx,_,Z,ar,_,Z,.inr DG,.inl #[_,_,Z,Z,_,Z,?_]];have k:∀H',aH H H'->Q (.bl (es.length==rs.length&&((es.zip rs).map λp=>dy 0 p.2 p.1).all id)) H':=k;have e0:(decide ((xs.length:Int)=((rs.map V.int).length:Int)))=(es.length==rs.length):=by rw[hl,ba,kj];simp;lia
   rw[e0];cases e:(es.length==rs.length)with |false=>rw[e,jF]at k;erw[bR (k H (aH.refl _))] |true=>
    rw[e,jE]at k;erw[aR ?_];have el:es.length=rs.length:=fL.mp e;erw[_,Z,_,Z,av,ar,Z,#[_,hx],#[_,DG],λD H0 nw=>?_];erw[abQ (b1:=false) (b2:=false) (xs:=xs) (ys:=rs.map V.int) (bs:=(es.zip rs).map λp=>dy 0 p.2 p.1) [] rfl hx DG nw (by rw[ba,ba,List.length_zip,hl]) (by rw[ba,List.length_zip];lia) ?_ ?_]
    ·intro i x y b H2 Q' ex ey eb s2 hq
     let(e',r,ee,er,rfl):=zip_get eb;let(x',kD,rx):=hd.get i ee;rw[ex]at kD;cases kD;rw[ints_get er]at ey;cases ey;erw[_,Z,_,Z,_,e',0,r,Z,RD.mono s2 _ rx,hq _ (aH.refl _)]
    ·intro H2 s2 d2
     erw[D,_,Z,aF.of d2,k H2 s2]
  ·have e:Ki rs d=false:=by cases d<;>first|rfl|erw[absurd rfl (hn _)]
   rw[e]at k;erw[_,Z,.inl #[_,_,"tuple",false,Z,rd.ty,az,ht,_,Z,bR ?_]];erw[k H (aH.refl _)]
inductive ae2(K:aa)(vs:List V)(H:Hp)(Q:VK):Prop |mk (pw:_)(b:_)(pl:_)(ns:_)(h0:vs=[pw,.ref b])(h1:RD K H pw (da pl))(h2:aW K H b (ns.map V.int))(h3:ns.length=pl.length)(h4:pl.length<=1000)(h5:∀v' H',RD K H' v' (da (fZ pl ns))->aH H H'->Q v' H')
def Ce(K:aa):Sp:=λvs H Q _=>ae2 K vs H Q
theorem Q7:bo ["place","steps"] ["place","steps"] (aU GW):=bp aJ
theorem a3p(F:FA K mg "moved" GW)(B:bI mg):aA P w K mg aw "moved" 1 (Ce K):=by
 erw[F.has Q7 (λvs H Q E h=>?_) (λ_ _ _ _ _ _=>dW λ_ _=>rfl) (λf aL A outer s H vs Q E hr h=>?_)]
 ·let(pw,b,pl,ns,rfl,_):=h
  rfl
 ·let(pw,b,pl,ns,rfl,rp,hb,ln,hz,k):=h
  have nd:=Q7.nd;erw[_,(aI (aQ (dh (x:="tuple") (kn K Z) Z (B.at "tuple") ir (ak (eU (N:=["number","step"]) (js:=[none,none]) rfl rfl rfl (oK K rfl false false rfl (B.at "zip") (ak (pv 0) (ak (pv 1) ay))) (λ_ _ _ _ _=>(eg K rfl (n:=2) rfl (bV (aV 0 (jQ az)) (bV (aV 1 (jQ az)) e9)))) (λ_ _ _ _ _=>dZ) (λ_ _ _ _ _=>(aP eu (pv 0) (pv 1)))) ay)))),?_];let(pa,rfl,hp):=Sh rp;erw[_,Z,_,Z,pa,b,Z,#[_,hp],#[_,hb],λD H1 n1=>?_];erw[vL (K:=K) (b1:=false) (b2:=false) (xs:=pl.map V.int) (ys:=ns.map V.int) (ds:=(fZ pl ns).map PyData.int) [] rfl hp hb n1 (by simp[qV ln,ln]) (by rw[ba,qV ln];erw[hz]) (mm _) ?_ ?_]
  ·intro i x y d H2 Q' ex ey ed s2 hq
   let(m,em,rfl):=oS ed;rw[bP]at ex ey;cases e1:pl[i]? with |none=>rw[e1]at ex;cases ex |some u=>cases e2:ns[i]? with |none=>rw[e2]at ey;cases ey |some v=>rw[e1]at ex;rw[e2]at ey;cases ex;cases ey;rw[AZ e1 e2]at em;cases em;erw[_,Z,_,Z,_,_,Z,Z,hq _ _ (aH.refl _) (fP _)]
  ·intro H2 zs s2 d2 r2
   erw[D,_,Z,.inl #[aF.of d2,λt H3 n3=>?_]];have et:=n3.at';rw[r2.gh]at et;erw[k (.ref t) H3 (Sg (aW.of et)) (s2.trans n3.same)]
inductive aeC(K:aa)(vs:List V)(H:Hp)(Q:VK):Prop |mk (pw:_)(iv:_)(pl:_)(d:_)(o:_)(h0:vs=[pw,iv])(h1:RD K H pw (da pl))(h2:RD K H iv d)(h3:itR d o)(h4:(∀ns sp,o=some (ns,sp)->ns.length=pl.length))(h5:pl.length<=1000)(h6:∀v' H',RD K H' v' (da (fY pl o))->aH H H'->Q v' H')
def wM(K:aa):Sp:=λvs H Q _=>aeC K vs H Q
theorem QK:bo ["place","item"] ["place","item"] (aU Il):=bp aJ
theorem a43(F:FA K mg "place_behind" Il)(B:bI mg)(iD:aA P w K mg aw "is_line" 1 (mZ K))(Kx:aA P w K mg aw "moved" 1 (Ce K)):aA P w K mg aw "place_behind" 2 (wM K):=by
 erw[F.has QK (λvs H Q E h=>?_) (λ_ _ _ _ _ _=>dW λ_ _=>rfl) (λf aL A outer s H vs Q E hr h=>?_)]
 ·let(pw,iv,pl,d,o,rfl,_):=h
  rfl
 ·let(pw,iv,pl,d,o,rfl,rp,ri,it,hl,hz,k):=h
  have nd:=QK.nd;erw[_,(aI (aQ (me (cw (pf iD hr (ak (pv 1) ay))) (pf Kx hr (ak (pv 0) (ak (px K (pv 1) aE) ay))) (pv 0)))),?_];erw[_,Z,iv,d,o,Z,ri,it,_,Z,?_];cases o with |some q=>let(ns,sp):=q;erw[bR ?_];have ed:=iQ it;subst ed;let(a,b,rfl,ha,hb):=oW ri;erw[_,Z,_,Z,.inr #[a,_,1,.ref b,Z,Z,ha,Z,pw,b,pl,ns,Z,rp,hb,hl ns sp Z,hz,λv' H' r s=>k v' H' r s]] |none=>erw[aR ?_];erw[_,Z,k pw H rp (aH.refl _)]
end
end _a
namespace _a
open PySem PySem.Spec PyProof.Rows _L _b _l _W
open _O (Itm)
section
structure jC(n:Nat)(d:ah)(o:Itm):Prop where
 it:itR d o
 ln:∀ns sp,o=some (ns,sp)->fu n 100 ns/\1<=sp/\sp<=20
 ot:o=none->qW d
theorem a4V{z:Str}(h:qk z=true):isNm (.str z)=true:=h
theorem acD:∀{ns:List Int},(∃z∈ns,z≠0)->(ns.map PyData.int).any zL=true:=λ{ns} #[z,hz,h]=>yy.mpr #[.int z,cI.mpr #[z,hz,Z],by show(z !=0)=true;simpa using h]
theorem acJ{ns:List Int}(h:∀z∈ns,(z.natAbs:Int)<=100):(ns.map PyData.int).all (dy (-100) 100)=true:=by rw[g6];intro d hd;let(z,hz,rfl):=cI.mp hd;have:=h z hz;show(decide (-100<=z)&&decide (z<=100))=true;rw[cu aO,cu aO];rfl
theorem jC.is{n:Nat}{d:ah}{o:Itm}(h:jC n d o):nC n d=true/\dq 8 d/\Cm d=true:=by cases o with
 |some q=>
  let(ns,sp):=q;have ed:=iQ h.it;subst ed;let(bZ,s1,s2):=h.ln ns sp rfl;erw[?_,?_,Z]
  ·show(gf "line" (.str "line")&&(uO n (.tuple (ns.map PyData.int))&&dy 1 20 (.int sp)))=true
   have e1:gf "line" (.str "line")=true:=by decide+kernel
   have e2:uO n (.tuple (ns.map PyData.int))=true:=by show(((ns.map PyData.int).length==n&&(ns.map PyData.int).all (dy (-100) 100))&&(ns.map PyData.int).any zL)=true;rw[acJ bZ.bd,acD bZ.nz,ba,bZ.len,MK];rfl
   have e3:dy 1 20 (.int sp)=true:=by show(decide (1<=sp)&&decide (sp<=20))=true;rw[cu s1,cu s2];rfl
   rw[e1,e2,e3];rfl
  ·refine(iq.tup (n:=1) (.cons #[aJ,fE _] (.cons (iq.tup (n:=0) λd hd=>?_) (.cons (.int _) .nil)))).le az
   let(a,_,rfl):=cI.mp hd;erw[.int _] |none=>
  rcases h.ot rfl with⟨z,rfl,z1,z2⟩|⟨w,s,rfl,hw,mj,on⟩
  ·erw[?_,(iq.tup (n:=0) (.cons #[aJ,fE _] (.cons (.int _) .nil))).le az,Z]
   show qz (.str "wait") (.int z)=true;unfold qz;rw[bc aJ];show(decide (1<=z)&&decide (z<=1000))=true;rw[cu z1,cu z2];rfl
  ·have a61:kM (.str s)=true:=by
    erw[cu ?_];rcases on with⟨_,rfl|rfl⟩|⟨_,hn⟩
    ·decide+kernel
    ·decide+kernel
    ·unfold qk at hn
     simp only[fz,EG]at hn
     lia
   erw[?_,(iq.tup (n:=0) (.cons ?_ (.cons mj .nil))).le az,?_]
   ·rcases on with⟨rfl,hs⟩|⟨rfl,hn⟩
    ·show qz (.str "tool") (.str s)=true
     unfold qz;rw[bj aJ,bc aJ];rcases hs with rfl|rfl<;>decide+kernel
    ·show qz (.str "mark") (.str s)=true
     unfold qz;rw[bj aJ,bj aJ];rw[a4V hn];decide+kernel
   ·rcases hw with rfl|rfl<;>erw[aJ,fE _]
   ·show([.str w,.str s]:List ah).all kM=true
    rw[yA,yA,Na,a61];rcases hw with rfl|rfl<;>decide+kernel
end
end _a
namespace _a
open PySem PySem.Spec PyProof.Rows _L _b _l
section
def gF(ti:Int)(q:Rat)(t:Int):Bool:=decide (ti*ti*(q.den:Int)<=t*t*q.num)
inductive aeu(K:aa)(vs:List V)(H:Hp)(Q:VK):Prop |mk (m:_)(sq:_)(t:_)(rs:_)(r:_)(f:_)(j:_)(ti:_)(q:_)(h0:vs=[m,sq,.int t])(h1:RD K H m (fJ rs r f j ti))(h2:bM K H sq q)(h3:Bd 2000 q)(h4:1<=ti)(h5:ti<=100)(h6:0<=t)(h7:t.natAbs<2^2400)(h8:Q (.bl (gF ti q t)) H)
def FN(K:aa):Sp:=λvs H Q _=>aeu K vs H Q
theorem QD:bo ["machine","square","t","p","q","ticks"] ["machine","square","t"] (aU Ic):=bp aJ
theorem SK(F:FA K mg "are_enough" Ic)(B:bI mg):aA P w K mg aw "are_enough" 1 (FN K):=by
 erw[F.has QD (λvs H Q E h=>?_) (λ_ _ _ _ _ _=>iE λ_ _ _=>rfl) (λf aL A outer s H vs Q E hr h=>?_)]
 ·let(m,sq,t,rs,r,f,j,ti,q,rfl,_):=h
  rfl
 ·let(m,sq,t,rs,r,f,j,ti,q,rfl,rm,(p,rfl,hp),bq,t1,t2,t0,tw,k):=h
  have nd:=QD.nd;erw[_,(aB (fh (pv 1) (eg K Z (n:=2) Z (bV (aV 3 nd) (bV (aV 4 nd) e9)))) (aB (pS 5 nd (px K (pv 0) aE)) (aI (aQ (jq Js (aP cK (aP cK (pv 2) (pv 2)) (pv 3)) (aP cK (aP cK (pv 5) (pv 5)) (pv 4)) (bS _)))))),?_];let(a,b,rfl,ha,hb):=oT rm;have wt:Wd t:=m6 tw az;have Y7:Wd (t*t):=m6 (n:=4800) (by rw[jD];erw[sC (n:=2400) (m:=2400) tw tw]) az;have m1:(ti*ti).natAbs<=100*100:=by rw[jD];erw[pM aO aO]
  erw[_,Z,_,_,Z,hp,Z,_,_,Z,_,_,Z,Z,?_];erw[_,Z,.inr #[a,_,4,.int ti,Z,Z,ha,Z,?_]];erw[_,Z,_,Z,_,_,Z,Z,oB wt.bits wt.bits,_,Z,_,_,Z,Z,oB Y7.bits bq.wn.bits,?_];erw[_,Z,_,Z,_,_,Z,Z,.of_left (dF aO aO),_,Z,_,_,Z,Z,.of_left (dF aO aO),?_];erw[_,_,Z,Z,k]
theorem VO{ti t:Int}{q:Rat}(hq:0<q.num)(h0:0<=t)(h:ti*ti*(q.den:Int)<=t):gF ti q t=true:=by
 erw[cu (Int.le_trans h ?_)];by_cases ht:t=0
 ·subst ht;simp
 ·have e1:t*1<=t*t:=EW ao h0
  have e2:t*t*1<=t*t*q.num:=EW ao (gU h0 h0)
  lia
theorem abg{ti:Int}{q:Rat}(h1:1<=ti):gF ti q 0=false:=by
 erw[dM λh=>?_];have:=jk (jk (show 0<ti by lia) (show 0<ti by lia)) (den_pos q);simp only[EV]at h
 lia
inductive ado(K:aa)(vs:List V)(H:Hp)(Q:VK):Prop |mk (m:_)(sq:_)(rs:_)(r:_)(f:_)(j:_)(ti:_)(q:_)(h0:vs=[m,sq])(h1:RD K H m (fJ rs r f j ti))(h2:bM K H sq q)(h3:Bd 2000 q)(h4:1<=ti)(h5:ti<=100)(h6:0<q.num)(h7:∀T,1<=T->T.natAbs<2^2400->gF ti q T=true->gF ti q (T-1)=false->Q (.int T) H)
def Oe(K:aa):Sp:=λvs H Q _=>ado K vs H Q
theorem Pe:bo ["machine","square","enough","too_few","between"] ["machine","square"] (aU G2):=bp aJ
theorem a2D(F:FA K mg "ticks_of" G2)(B:bI mg)(An:aA P w K mg aw "are_enough" 1 (FN K)):aA P w K mg aw "ticks_of" 2 (Oe K):=by
 erw[F.has Pe (λvs H Q E h=>?_) (λ_ _ _ _ _ _=>dW λ_ _=>rfl) (λf aL A outer s H vs Q E hr h=>?_)]
 ·let(m,sq,rs,r,f,j,ti,q,rfl,_):=h
  rfl
 ·let(m,sq,rs,r,f,j,ti,q,rfl,rm,rq,bq,t1,t2,hq,k):=h
  have nd:=Pe.nd;erw[_,(aB (pS 2 nd aE) (aB (xg gj (cT (cw (pf An hr (ak (pv 0) (ak (pv 1) (ak (pv 2) ay)))))) (aI (pS 2 nd (aP cK aE (pv 2))))) (aB (pS 3 nd (aP zE (pv 2) aE)) (aB (xg gj (cf CL (aP j9 (pv 2) (pv 3)) aE (bS _)) (aB (pS 4 nd (aP zE (aP eu (pv 3) (pv 2)) aE)) (aI (bL (cw (pf An hr (ak (pv 0) (ak (pv 1) (ak (pv 4) ay))))) (aI (pS 2 nd (pv 4))) (aI (pS 3 nd (pv 4))))))) (aI (aQ (pv 2))))))),?_];have lim:(ti*ti*(q.den:Int)).natAbs<2^2399:=by
   have m1:(ti*ti).natAbs<=100*100:=by rw[jD];erw[pM ao ao]
   have hd:=bq.den;rw[jD];have:(q.den:Int).natAbs=q.den:=rfl;rw[this];have:=sC (n:=14) (m:=2000) (a:=(ti*ti).natAbs) (b:=q.den) (MZ m1 az) hd;erw[gR this (wm az az)]
  have p0:0<ti*ti*(q.den:Int):=jk (jk ao ao) (den_pos q);have e2:(2:Nat)^2400=2^2399*2:=Nat.pow_succ 2 2399;generalize hL:ti*ti*(q.den:Int)=L at lim p0;erw[wC (λO H2=>H2=H/\∃(x:Int),O=[some m,some sq,some (.int x),none,none]/\1<=x/\x<=2*L/\gF ti q (x/2)=false) (λO _=>match O with|[_,_,some (.int x),_,_]=>(L-x).toNat|_=>0) ?_ ?_ ?_]
  ·erw[Z,1,Z,ao,ao,abg t1]
  ·rintro O H2 ⟨rfl,x,rfl,x1,xL,hx⟩
   erw[El ?_];intro E1;have xw:x.natAbs<2^2400:=by lia
   erw[_,Z,_,Z,_,Z,m,sq,x,rs,r,f,j,ti,q,Z,rm,rq,bq,t1,t2,ao,xw,_,Z,?_];cases DM:gF ti q x with
   |false=>
    have cB:x<L:=by
     by_cases cB:x<L
     ·erw[cB]
     ·rw[VO hq ao ao]at DM;cases DM
    erw[gd (λhc=>?_) (λhc=>(hc Z).elim)];erw[_,Z,_,_,Z,Z,.of_left (dF az az),?_];erw[#[Z,_,Z,ao,ao,?_],?_]
    ·have:2*x/2=x:=by lia
     rw[this];erw[DM]
    ·show(L-2*x).toNat<(L-x).toNat
     lia |true=>
    erw[gd (λhc=>nomatch hc) (λhc=>?_)];erw[_,Z,_,_,Z,Z,#[az,m6 (n:=2) az az],?_];erw[wC (λO H3=>H3=H2/\∃(lo hi:Int)(v:Option V),O=[some m,some sq,some (.int hi),some (.int lo),v]/\0<=lo/\lo<hi/\hi<=2*L/\gF ti q lo=false/\gF ti q hi=true) (λO _=>match O with|[_,_,some (.int x),some (.int y),_]=>(x-y).toNat|_=>0) ?_ ?_ ?_]
    ·erw[Z,x/2,x,none,Z,ao,ao,xL,hx,DM]
    ·rintro O H3 ⟨rfl,lo,hi,v,rfl,l0,lh,Ao,VR,DY⟩
     erw[El ?_];intro E2;erw[_,Z,_,Z,_,_,Z,Z,_,_,Z,Z,_,Z,?_];erw[gd (λhc=>?_) (λhc=>?_)]
     ·have hgt:hi-lo>1:=m4 hc
      erw[_,Z,_,Z,_,_,Z,Z,_,_,Z,Z,#[az,m6 (n:=2) az az],?_];have mw:((lo+hi)/2).natAbs<2^2400:=by lia
      erw[_,Z,_,Z,_,Z,m,sq,(lo+hi)/2,rs,r,f,j,ti,q,Z,rm,rq,bq,t1,t2,ao,mw,_,Z,?_];cases hm:gF ti q ((lo+hi)/2)with
      |true=>
       erw[bR ?_];erw[_,Z,#[Z,lo,_,_,Z,l0,ao,ao,VR,hm],?_];show((lo+hi)/2-lo).toNat<(hi-lo).toNat
       lia |false=>
       erw[aR ?_];erw[_,Z,#[Z,_,hi,_,Z,ao,ao,Ao,hm,DY],?_];show(hi-(lo+hi)/2).toNat<(hi-lo).toNat
       lia
     ·have hle:¬hi-lo>1:=λz=>hc (cu z)
      have e:lo=hi-1:=by lia
      subst e;erw[_,Z,k hi ao ao DY VR]
    ·rintro O H2 Q1 Q2 hq ⟨v1,e1,v2,e2,i,j,e3,e4,i2,j2,e5,e6,kk,e7,q⟩
     erw[v1,e1,v2,e2,i,j,e3,e4,i2,j2,e5,e6,kk,e7,hq _ _ q]
  ·rintro O H2 Q1 Q2 hq ⟨v1,e1,v2,e2,v3,e3,m',ZF,x',uE,r',f',j',YJ,q',e4,h1,h2,h3,h4,h5,h6,h7,b,eb,q⟩
   erw[v1,e1,v2,e2,v3,e3,m',ZF,x',uE,r',f',j',YJ,q',e4,h1,h2,h3,h4,h5,h6,h7,b,eb,hq _ _ q]
end
end _a
namespace _a
open PySem PySem.Spec PyProof.Rows _L _l
section
theorem Yb{j:Int}(h:j.natAbs<2^64):Wd j:=EN h aJ
inductive ae0(vs:List V)(H:Hp)(Q:VK):Prop |mk (p:Int)(q:Int)(h0:vs=[.int p,.int q])(h1:0<q)(h2:q<=10^6)(h3:p.natAbs<=10^9)(h4:Q (.int (gZ p q)) H)
def FH:Sp:=λvs H Q _=>ae0 vs H Q
theorem Q4:bo ["p","q","size"] ["p","q"] (aU GR):=bp aJ
theorem a3n(F:FA K mg "nearest" GR)(B:bI mg):aA P w K mg aw "nearest" 1 FH:=by
 erw[F.has Q4 (λvs H Q E h=>?_) (λ_ _ _ _ _ _=>dW λ_ _=>rfl) (λf aL A outer s H vs Q E hr h=>?_)]
 ·let(p,q,rfl,_):=h
  rfl
 ·let(p,q,rfl,q0,q1,p1,k):=h
  have nd:=Q4.nd;erw[_,(aB (pS 2 nd (aP zE (aP eu (aP cK aE (fG (x:="abs") vP Z (B.at "abs") yt (ak (pv 0) ay))) (pv 1)) (aP cK aE (pv 1)))) (aI (aQ (me (cf Js (pv 0) aE (bS _)) (pv 2) (jN jH (pv 2)))))),?_];erw[_,Z,p,Z,_,_,Z,Z,.of_left (dF az az),_,Z,_,_,Z,Z,_,Z,_,_,Z,Z,.of_left (dF az az),_,_,Z,Z,#[ao,Yb ao],?_];have e:(2*(if p<0 then-p else p)+q)/(2*q)=jI p q:=by unfold jI;rw[<-Mq];rfl
  erw[_,Z,_,_,Z,Z,_,Z,?_];unfold gZ at k;rw[<-e]at k;erw[gd (λhc=>?_) (λhc=>?_)]
  ·have hp:p>=0:=m4 hc
   rw[bc hp]at k;erw[_,Z,k]
  ·have hp:¬p>=0:=λz=>hc (cu z)
   rw[bj hp]at k;erw[_,Z,_,Z,k]
def O0(ns:List Int)(k:Int):ah:=.tuple ((ns.map λz=>gZ (k*z) (aG ns)).map PyData.int)
theorem a1x{k z:Int}(h:k.natAbs<=10^6)(g:(z.natAbs:Int)<=1000):(k*z).natAbs<=10^9:=by rw[jD];erw[iK (pM h (show z.natAbs<=1000 by lia)) az]
inductive adu(K:aa)(vs:List V)(H:Hp)(Q:VK):Prop |mk (v:_)(ns:_)(sp:_)(k:_)(h0:vs=[v,.int k])(h1:RD K H v (eK ns sp))(h2:fu ns.length 1000 ns)(h3:ns.length<=1000)(h4:k.natAbs<=10^6)(h5:∀v' H',RD K H' v' (O0 ns k)->aH H H'->Q v' H')
def C8(K:aa):Sp:=λvs H Q _=>adu K vs H Q
theorem Pj:bo ["line","k","lead"] ["line","k"] (aU G6):=bp aJ
theorem a2J(F:FA K mg "stand_at" G6)(B:bI mg)(jw:aA P w K mg aw "lead_of" 1 (mY K))(a7c:aA P w K mg aw "nearest" 1 FH):aA P w K mg aw "stand_at" 2 (C8 K):=by
 erw[F.has Pj (λvs H Q E h=>?_) (λ_ _ _ _ _ _=>dW λ_ _=>rfl) (λf aL A outer s H vs Q E hr h=>?_)]
 ·let(v,ns,sp,k,rfl,_):=h
  rfl
 ·let(v,ns,sp,kk,rfl,rd,ok,hz,hk,k):=h
  have nd:=Pj.nd;erw[_,(aB (pS 2 nd (pf jw hr (ak (pv 0) ay))) (aI (aQ (dh (x:="tuple") (kn K Z) Z (B.at "tuple") ir (ak (eU (N:=["step","lead","k"]) (js:=[none,some 2,some 1]) rfl rfl rfl (j5 K rfl (px K (pv 0) aE)) (λ_ _ _ _ _=>(aV 0 (show List.Nodup (["step","lead","k"]:List Str) by decide+kernel))) (λ_ _ _ _ _=>dZ) (λ_ _ _ _ _=>(pf a7c hr (ak (aP cK (pv 2) (pv 0)) (ak (pv 1) ay))))) ay))))),?_];erw[_,Z,v,ns,sp,Z,rd,ok.ne,hz,λH1 s1=>?_];let(a,b,rfl,ha,hb):=oW (RD.mono s1 _ rd);let(lp,lm):=ok.lead;erw[_,Z,.inr #[a,_,1,.ref b,Z,Z,ha,Z,b,Z,#[_,hb],λD H0 nw=>?_]];erw[qS (K:=K) (xs:=ns.map V.int) (ds:=(ns.map λz=>gZ (kk*z) (aG ns)).map PyData.int) _ hb nw (by simp) (by simpa using hz) (mm _) ?_ ?_]
  ·intro i x d H2 Q' ex ed s2 hq
   rw[ES]at ed;let(n,en,rfl):=oS ed;cases D9 ex en;erw[_,Z,_,Z,_,_,Z,Z,.of_left (dF ao ao),_,Z,_,_,Z,ao,ao,a1x hk (ok.bd n (fR en)),?_];erw[hq _ _ (aH.refl _) (fP _)]
  ·intro H' ys s2 d2 r2
   erw[D,_,Z,.inl #[aF.of d2,λt H4 n4=>?_]];erw[k _ _ (fO (aW.of n4.at') (aK.mono n4.same _ r2)) (s1.trans (s2.trans n4.same))]
end
section
def g9(ns:List Int)(j:Nat):List Int:=ns.map λz=>gZ (((j:Int)+1)*z) (aG ns)-gZ ((j:Int)*z) (aG ns)
def lL(ns:List Int):List ah:=(List.range (aG ns)).map λj=>.tuple ((g9 ns j).map PyData.int)
theorem IS(zs:List Int):eA (.tuple (zs.map PyData.int))=true:=by rw[eA];erw[mm zs]
theorem IP(ns:List Int):cA (lL ns)=true:=eF.mpr λd hd=>by let(j,_,rfl):=cI.mp hd;erw[IS _]
theorem RE{ns:List Int}{i:Nat}(h:i<aG ns):(lL ns)[i]? =some (.tuple ((g9 ns i).map PyData.int)):=by unfold lL;rw[bP,bN (by simpa using h),Bw];rfl
theorem IQ(ns:List Int):(lL ns).length=aG ns:=by simp[lL]
inductive adD(K:aa)(vs:List V)(H:Hp)(Q:VK):Prop |mk (v:_)(ns:_)(sp:_)(h0:vs=[v])(h1:RD K H v (eK ns sp))(h2:fu ns.length 1000 ns)(h3:ns.length<=1000)(h4:∀l ys H',H l=none->H' l=some (.lst ys)->aK K H' ys (lL ns)->aH H H'->Q (.ref l) H')
def yS(K:aa):Sp:=λvs H Q _=>adD K vs H Q
theorem Px:bo ["line","rows","before","k","behind"] ["line"] (aU Gi):=bp aJ
theorem a30(F:FA K mg "step_rows" Gi)(B:bI mg)(jw:aA P w K mg aw "lead_of" 1 (mY K))(DE:aA P w K mg aw "stand_at" 2 (C8 K)):aA P w K mg aw "step_rows" 3 (yS K):=by
 erw[F.has Px (λvs H Q E h=>?_) (λ_ _ _ _ _ _=>dA λ_=>rfl) (λf aL A outer s H vs Q E hr h=>?_)]
 ·let(v,ns,sp,rfl,_):=h
  rfl
 ·let(v,ns,sp,rfl,rd,ok,hz,k):=h
  have nd:=Px.nd;let(lp,lm):=ok.lead;erw[_,(aB (pS 1 nd (dw ay)) (aB (pS 2 nd (pf DE hr (ak (pv 0) (ak aE ay)))) (aB (iB gj Z (Sn Z (B.at "range") (ak aE (ak (aP eu (pf jw hr (ak (pv 0) ay)) aE) ay))) (aV 3 nd) (aB (pS 4 nd (pf DE hr (ak (pv 0) (ak (pv 3) ay)))) (aB (gb (jr K Z (pv 1) (ak (dh (x:="tuple") (kn K Z) Z (B.at "tuple") ir (ak (eU (N:=["new","old"]) (js:=[none,none]) rfl rfl rfl (oK K rfl false false rfl (B.at "zip") (ak (pv 4) (ak (pv 2) ay))) (λ_ _ _ _ _=>(eg K rfl (n:=2) rfl (bV (aV 0 (jQ az)) (bV (aV 1 (jQ az)) e9)))) (λ_ _ _ _ _=>dZ) (λ_ _ _ _ _=>(aP j9 (pv 0) (pv 1)))) ay)) ay))) (aI (pS 2 nd (pv 4)))))) (aI (aQ (pv 1)))))),?_];erw[cy Z,λl H1 n1=>?_];erw[_,Z,v,ns,sp,0,Z,RD.mono n1.same _ rd,ok,hz,az,λu H2 ru s2=>?_];have t2:=n1.same.trans s2;erw[_,Z,v,ns,sp,Z,RD.mono t2 _ rd,ok.ne,hz,λH3 s3=>?_];erw[_,_,Z,Z,_,_,Z,#[ao,ao,ao,ao],?_];have t3:=t2.trans s3;have e3:((aG ns:Int)+1-1).toNat=aG ns:=by lia
  erw[xM (Pv:=λi O H4=>aH H H4/\(∃ys,H4 l=some (.lst ys)/\aK K H4 ys ((lL ns).take i))/\∃b v1 v2,RD K H4 b (O0 ns i)/\O=[some v,some (.ref l),some b,v1,v2]) ?_ ?_ ?_]
  ·erw[t3,#[[],s3 _ _ (s2 _ _ n1.at'),cX],u,none,none,RD.mono s3 _ ru,Z]
  ·rintro i O H4 hi ⟨t4,⟨ys,dl,ry⟩,b,v1,v2,rb,rfl⟩
   erw[iG ?_];intro E1;have nN:i<aG ns:=by lia
   erw[_,Z,_,Z,v,ns,sp,_,Z,RD.mono t4 _ rd,ok,hz,ao,λb2 H5 J5 s5=>?_];erw[_,Z,.inl #[Z,_,aF.of (s5 _ _ dl)],?_];let(a1,xs1,rfl,h1,q1):=J5.cv;have e1:=q1.gh;subst e1;let(a0,xs0,rfl,h0,q0):=(RD.mono s5 _ rb).cv;have e0:=q0.gh;subst e0;erw[_,Z,_,Z,a1,a0,Z,#[_,h1],#[_,h0],λD H6 nw=>?_];erw[vL (K:=K) (b1:=false) (b2:=false) (ds:=(g9 ns i).map PyData.int) [] rfl h1 h0 nw (by simp[g9]) (by simpa[g9]using hz) (mm _) ?_ ?_]
   ·intro j x y d H7 Q' ex ey ed s7 hq
    let(m,em,rfl):=oS ed;unfold g9 at em;rw[bP]at em ex ey;rw[bP]at ex ey;cases en:ns[j]? with |none=>rw[en]at em;cases em |some n=>
     rw[en]at em ex ey;cases em;cases ex;cases ey;erw[_,Z,_,Z,_,_,Z,Z,?_];have ee:(1:Int)+(i:Int)=(i:Int)+1:=by lia
     rw[ee];erw[hq _ _ (aH.refl _) (fP _)]
   ·intro H7 zs s7 d7 r7
    erw[D,_,Z,.inl #[aF.of d7,λt H8 n8=>?_]];have kN:=s5.trans (s7.trans n8.same);have lV:=kN _ _ dl;have len:=ry.length;rw[uc,IQ]at len;erw[l,ys,_,Z,Z,lV,?_,?_]
    ·have:(1000:Nat)<sizeLine:=by decide
     lia
    erw[_,Z,?_];have tt:fm H8 (_L.upd H8 l (.lst (ys++[.ref t]))):=.iX lV;erw[λb o e=>?_,#[_,cg,?_],_,_,_,?_,Z]
    ·rw[aY (eJ e n1.no)];erw[kN b o (t4 b o e)]
    ·rw[lC,RE nN]
     have nt:cA ((lL ns).take i)=true:=eF.mpr λd hd=>eF.mp (IP ns) d (Bs hd);exact(aK.t tt _ nt (aK.mono kN _ ry)).append (cE (RD.t tt _ (IS _) (fO (aW.of n8.at') (aK.mono n8.same _ r7))) cX)
    ·have ee:(1:Int)+(i:Int)=((i+1:Nat):Int):=by lia
     rw[ee]at J5;erw[RD.t tt _ (IS _) (RD.mono (s7.trans n8.same) _ J5)]
  ·rintro O H4 ⟨t4,⟨ys,dl,ry⟩,b,v1,v2,rb,rfl⟩
   rw[e3,u9 (by rw[IQ];erw[bf _])]at ry;erw[_,Z,k l ys H4 n1.no dl ry t4]
end
end _a
namespace _a
open PySem PySem.Spec PyProof.Rows _L _b _l _C _P
open _O (topR cornO mnO betR atO ownF leadF ownL OkI OkIs)
section
def tT(K:aa)(H:Hp)(v:V):Option Rat->Prop |none=>v= .bw |some q=>bM K H v q
theorem tT.go{H H':Hp}{v:V}:∀{o:Option Rat},tT K H v o->aH H H'->tT K H' v o |none,h,_=>h |some _,h,s=>bM.go h s
theorem bM.tt{H H':Hp}{v:V}{q:Rat}(h:bM K H v q)(s:fm H H'):bM K H' v q:=by let(a,rfl,h):=h;erw[a,Z,h.t s]
def Eu(n:Nat):Option Rat->Prop |none=>True |some q=>Bd n q
def uW(r f:Int)(e b:Option Rat):List Rat:=(0::e.toList.map λq=>q+((-f:Int):Rat))++b.toList.map λq=>q+((-r:Int):Rat)
def vk(r f:Int)(bd:Rat)(e b:Option Rat):List Rat:=(bd::e.toList.map λq=>q+(r:Rat))++b.toList.map λq=>q+(f:Rat)
def D6(r f:Int)(bd:Rat)(e b:Option Rat):Bool:=!((uW r f e b).any λl=>(vk r f bd e b).any λh=>decide (h<l))
theorem fg.tt{H H':Hp}(s:fm H H'):∀{vs:List V}{rs:List Rat},fg K H vs rs->fg K H' vs rs |[],[],_=>trivial |v::vs,q::rs,h=>#[h.1.tt s,h.2.1,fg.tt s h.2.2] |[],_::_,h=>h.elim |_::_,[],h=>h.elim
theorem fg.snoc{H:Hp}{v:V}{q:Rat}(hv:bM K H v q)(hb:Bd 2000 q):∀{vs:List V}{rs:List Rat},fg K H vs rs->fg K H (vs++[v]) (rs++[q]) |[],[],_=>#[hv,hb,trivial] |v::vs,q::rs,h=>#[h.1,h.2.1,fg.snoc hv hb h.2.2] |[],_::_,h=>h.elim |_::_,[],h=>h.elim
theorem X1{α:Type}(l:List α)(p:α->Bool)(g:Nat->Bool)(h:∀i x,l[i]? =some x->g i=p x):(List.range l.length).any g=l.any p:=by
 rw[kj,yy,yy];erw[λ#[i,hi,e]=>?_,λ#[x,hx,e]=>?_]
 ·have hi:=List.mem_range.mp hi
  erw[l[i],wq hi,by rw[<-h i _ (bN hi)];erw[e]]
 ·let(i,hi):=ou.mp hx
  erw[i,List.mem_range.mpr (cJ.mp hi).1,by rw[h i x hi];erw[e]]
inductive aeA(K:aa)(vs:List V)(H:Hp)(Q:VK):Prop |mk (m:_)(bv:_)(ev:_)(gv:_)(rs:_)(r:_)(f:_)(j:_)(t:_)(bd:_)(e:_)(b:_)(h0:vs=[m,bv,ev,gv])(h1:RD K H m (fJ rs r f j t))(h2:gG rs r f j t)(h3:bM K H bv bd)(h4:Bd 1900 bd)(h5:tT K H ev e)(h6:Eu 1900 e)(h7:tT K H gv b)(h8:Eu 1900 b)(h9:∀H',aH H H'->Q (.bl (D6 r f bd e b)) H')
def OQ(K:aa):Sp:=λvs H Q _=>aeA K vs H Q
theorem QH:bo ["machine","bound","ended","begun","rise","fall","lows","highs"] ["machine","bound","ended","begun"] (aU Ii):=bp aJ
theorem a40(F:FA K mg "can_meet" Ii)(B:bI mg)(gN:GT K mg "NOUGHT" [.int 0,.int 1])(je:aA P w K mg aw "plus_whole" 4 (rX K))(qF:aA P w K mg aw "is_less" 1 (uw K)):aA P w K mg aw "can_meet" 5 (OQ K):=by
 erw[F.has QH (λvs H Q E h=>?_) (λ_ _ _ _ _ _=>yb λ_ _ _ _=>rfl) (λfa aL A outer s H vs Q E hr h=>?_)]
 ·let(m,bv,ev,gv,rs,r,f,j,t,bd,e,b,rfl,_):=h
  rfl
 ·let(m,bv,ev,gv,rs,r,f,j,t,bd,e,b,rfl,rm,aD,Rb,bb,Re,be,Rg,bg,k):=h
  have nd:=QH.nd;let(aN,jy,kL):=gN;erw[_,(aB (zo (i:=4) (j:=5) Z nd Z Z az Z Z (ak (px K (pv 0) aE) (ak (px K (pv 0) aE) ay)) Z) (aB (pS 6 nd (dw (ak (eD (x:="NOUGHT") Z jy) ay))) (aB (pS 7 nd (dw (ak (pv 1) ay))) (aB (j3 (bL (cf xi (pv 2) gX (bS _)) (aB (gb (jr K Z (pv 6) (ak (pf je hr (ak (pv 2) (ak (jN jH (pv 5)) ay))) ay))) (aI (gb (jr K Z (pv 7) (ak (pf je hr (ak (pv 2) (ak (pv 4) ay))) ay))))) bQ)) (aB (j3 (bL (cf xi (pv 3) gX (bS _)) (aB (gb (jr K Z (pv 6) (ak (pf je hr (ak (pv 3) (ak (jN jH (pv 4)) ay))) ay))) (aI (gb (jr K Z (pv 7) (ak (pf je hr (ak (pv 3) (ak (pv 5) ay))) ay))))) bQ)) (aI (aQ (Jk (fG (x:="any") (X2 K Z Z) Z (B.at "any") MV (ak (a1U (N:=["low","high","highs"]) (js:=[none,none,some 7]) rfl rfl rfl (nk K rfl (pv 6)) (λ_ _ _ _ _=>(aV 0 (show List.Nodup (["low","high","highs"]:List Str) by decide+kernel))) (λ_ _ _ _ _=>(nk K rfl (pv 2))) (λ_ _ _ _ _=>(aV 1 (show List.Nodup (["low","high","highs"]:List Str) by decide+kernel))) (λ_ _ _ _ _=>(pf qF hr (ak (pv 1) (ak (pv 0) ay))))) ay)))))))))),?_];let(ma,mb,rfl,gE,jR):=oT rm;have iA:=aD.r1;have ie:=aD.f1;erw[_,Z,.inr #[ma,_,1,.int r,Z,Z,gE,Z,_,Z,.inr #[ma,_,2,.int f,Z,Z,gE,Z,_,_,Z,?_]]];erw[cy Z,λl1 H1 n1=>?_];erw[_,Z,cy Z,λl2 H2 n2=>?_];have l12:l1≠l2:=eJ n1.at' n2.no;have Tb:H l1=none:=n1.no;have Ta:H l2=none:=by cases e:H l2 with |none=>rfl |some o=>have:=n1.same _ _ e;rw[n2.no]at this;cases this
  have R0:∀H',bM K H' (.ref aN) 0:=λH'=>#[aN,Z,kL H'];have b0:Bd 2000 (0:Rat):=#[az,az];have s2:=n1.same.trans n2.same;have ap:∀{H3:Hp}{l:Addr}{xs:List V}{v:V},H l=none->aH H H3->aH H (_L.upd H3 l (.lst (xs++[v]))):=λ{H3 l xs v} hn s3=>λq o eq=>by rw[aY (eJ eq hn)];erw[s3 _ _ eq]
  erw[λO H3=>aH H H3/\∃xs ys,H3 l1=some (.lst xs)/\H3 l2=some (.lst ys)/\fg K H3 xs (0::e.toList.map λq=>q+((-f:Int):Rat))/\fg K H3 ys (bd::e.toList.map λq=>q+(r:Rat))/\O=[some (.ref ma),some bv,some ev,some gv,some (.int r),some (.int f),some (.ref l1),some (.ref l2)],?_,?_]
  ·erw[kE ?_];intro E1
   erw[_,Z,Z,_,Z,?_];have V1:fg K H2 [.ref aN] [0]:=#[R0 _,b0,trivial];have V2:fg K H2 [bv] [bd]:=#[Rb.go s2,bb.mono az,trivial];cases e with |none=>have e0:ev= .bw:=Re;subst e0;erw[aR #[s2,_,_,n2.same _ _ n1.at',n2.at',V1,V2,Z]] |some q=>
    have Re:bM K H ev q:=Re;have be:Bd 1900 q:=be;let(ae,e0,he):=id Re;subst e0;erw[bR ?_];have d1:=n2.same _ _ n1.at';erw[_,Z,.inl #[Z,_,aF.of d1],?_];erw[_,Z,_,Z,_,Z,.ref ae,q,_,Z,Re.go s2,be.mono az,(by rw[jM];lia),λu1 H3 jm s3=>?_];have AK:=s3 _ _ d1;erw[l1,_,u1,Z,Z,AK,cy Z,?_];have t3:fm H3 (_L.upd H3 l1 (.lst ([.ref aN]++[u1]))):=.iX AK;have wX:=s2.trans s3;have Hx:=ap (l:=l1) (xs:=[.ref aN]) (v:=u1) Tb wX;have d2:(_L.upd H3 l1 (.lst ([.ref aN]++[u1]))) l2=some (.lst [bv]):=by rw[aY l12.symm];erw[s3 _ _ n2.at']
    have AJ:(_L.upd H3 l1 (.lst ([.ref aN]++[u1]))) l1=some (.lst ([.ref aN]++[u1])):=cg;have B5:fg K (_L.upd H3 l1 (.lst ([.ref aN]++[u1]))) ([.ref aN]++[u1]) ([0]++[q+((-f:Int):Rat)]):=(fg.snoc jm ((jZ be (by rw[jM];lia)).mono az) (V1.go s3)).tt t3;have B0:=(V2.go s3).tt t3;have Xe:=Re.go Hx;generalize _L.upd H3 l1 (.lst ([.ref aN]++[u1]))=H4 at Hx d2 AJ B5 B0 Xe⊢;erw[_,Z,.inl #[Z,_,aF.of d2],?_];erw[_,Z,_,Z,.ref ae,q,_,Z,Xe,be.mono az,(by rw[jM];lia),λu2 H5 nj s5=>?_];have xW:=s5 _ _ d2;erw[l2,_,u2,Z,Z,xW,cy Z,?_];have t5:fm H5 (_L.upd H5 l2 (.lst ([bv]++[u2]))):=.iX xW;erw[ap (l:=l2) Ta (Hx.trans s5),_,_,(aY l12).trans (s5 _ _ AJ),cg,(B5.go s5).tt t5,(fg.snoc nj ((jZ be (by rw[jM];lia)).mono az) (B0.go s5)).tt t5,Z]
  rintro O H3 ⟨s3,xs,ys,d1,d2,V1,V2,rfl⟩;have lx:=V1.length;have ly:=V2.length;have le:e.toList.length<=1:=by cases e<;>simp
  have Dz:xs.length<=2:=by rw[lx,gz,ba];lia
  have A4:ys.length<=2:=by rw[ly,gz,ba];lia
  erw[λO H4=>aH H H4/\∃xs ys,H4 l1=some (.lst xs)/\H4 l2=some (.lst ys)/\fg K H4 xs (uW r f e b)/\fg K H4 ys (vk r f bd e b)/\O=[some (.ref ma),some bv,some ev,some gv,some (.int r),some (.int f),some (.ref l1),some (.ref l2)],?_,?_]
  ·erw[kE ?_];intro E2
   erw[_,Z,Z,_,Z,?_];cases b with |none=>have e0:gv= .bw:=Rg;subst e0;erw[aR #[s3,_,_,d1,d2,by unfold uW;simpa using V1,by unfold vk;simpa using V2,Z]] |some q=>
    have Rg:bM K H gv q:=Rg;have bg:Bd 1900 q:=bg;let(ae,e0,he):=id Rg;subst e0;erw[bR ?_];erw[_,Z,.inl #[Z,_,aF.of d1],?_];erw[_,Z,_,Z,_,Z,.ref ae,q,_,Z,Rg.go s3,bg.mono az,(by rw[jM];lia),λu1 H4 jm s4=>?_];have AK:=s4 _ _ d1;erw[l1,_,u1,Z,Z,AK,Ck _ ao,?_];have t4:fm H4 (_L.upd H4 l1 (.lst (xs++[u1]))):=.iX AK;have wW:=s3.trans s4;have Hw:=ap (l:=l1) (xs:=xs) (v:=u1) Tb wW;have xW:(_L.upd H4 l1 (.lst (xs++[u1]))) l2=some (.lst ys):=by rw[aY l12.symm];erw[s4 _ _ d2]
    have AJ:(_L.upd H4 l1 (.lst (xs++[u1]))) l1=some (.lst (xs++[u1])):=cg;have B5:=(fg.snoc jm ((jZ bg (by rw[jM];lia)).mono az) (V1.go s4)).tt t4;have B0:=(V2.go s4).tt t4;have Xd:=Rg.go Hw;generalize _L.upd H4 l1 (.lst (xs++[u1]))=H5 at Hw xW AJ B5 B0 Xd⊢;erw[_,Z,.inl #[Z,_,aF.of xW],?_];erw[_,Z,_,Z,.ref ae,q,_,Z,Xd,bg.mono az,(by rw[jM];lia),λu2 H6 nj s6=>?_];have Wh:=s6 _ _ xW;erw[l2,_,u2,Z,Z,Wh,Ck _ ao,?_];have t6:fm H6 (_L.upd H6 l2 (.lst (ys++[u2]))):=.iX Wh;erw[ap (l:=l2) Ta (Hw.trans s6),_,_,(aY l12).trans (s6 _ _ AJ),cg,(B5.go s6).tt t6,(fg.snoc nj ((jZ bg (by rw[jM];lia)).mono az) (B0.go s6)).tt t6,Z]
  rintro O H4 ⟨s4,xs,ys,d1,d2,V1,V2,rfl⟩;have lx:=V1.length;have ly:=V2.length;have lb:b.toList.length<=1:=by cases b<;>simp
  have Dz:xs.length<=3:=by rw[lx];unfold uW;rw[cD,gz,ba,ba];lia
  have A4:ys.length<=3:=by rw[ly];unfold vk;rw[cD,gz,ba,ba];lia
  erw[_,Z,l1,Z,#[_,aF.of d1],λD H5 n5=>?_];erw[abR (K:=K) (b:=λi j=>((vk r f bd e b)[j]?.bind λh=>(uW r f e b)[i]?.map λl=>decide (h<l)).getD false) _ (aF.of d1) (aF.of d2) n5 (iK (pM Dz A4) az) ?_ ?_ ?_]
  ·intro x v H6 R s6 hR
   erw[_,Z,l2,Z,#[_,aF.of (s6 _ _ d2)],hR]
  ·intro i j' x y H6 Q' ex ey s6 hq
   let(l,el,Rl,bl):=V1.get ex;let(h,eh,Rh,bh):=V2.get ey;have hq:=hq H6 (aH.refl _);rw[el,eh]at hq;erw[_,Z,_,Z,y,x,h,l,Z,Rh.go s6,Rl.go s6,bh,bl,hq]
  ·intro H6 s6 d6
   erw[D,_,Z,aF.of d6,?_];have ea:(((List.range xs.length).flatMap λi=>(List.range ys.length).map λj=>((vk r f bd e b)[j]?.bind λh=>(uW r f e b)[i]?.map λl=>decide (h<l)).getD false)).any id=(uW r f e b).any λl=>(vk r f bd e b).any λh=>decide (h<l):=by rw[acE,lx,ly];erw[X1 _ _ _ λi l el=>X1 _ _ _ λj' h eh=>?_];rw[el,eh];rfl
   rw[ea];erw[_,Z,k H6 (s4.trans s6)]
def C3(pX:List Int)(t:Int)(q:Rat):ah:=.tuple [.str "step",.tuple (pX.map PyData.int),.int t,cQ q]
theorem Fj{H:Hp}{v:V}{zs:List Int}{t:Int}{q:Rat}(h:RD K H v (C3 zs t q)):∃a b c,v= .ref a/\aW K H a [.str "step",.ref b,.int t,c]/\aW K H b (zs.map V.int)/\bM K H c q:=by let(a,xs,rfl,hx,hd):=h.cv;let(u1,ys,rfl,r1,hd):=hd.cons_inv;let(u2,ys,rfl,r2,hd):=hd.cons_inv;let(u3,ys,rfl,r3,hd):=hd.cons_inv;let(u4,ys,rfl,r4,hd):=hd.cons_inv;cases hd.nil_inv;cases r1.str_inv;cases r3.int_inv;let(b,bs,rfl,hb,hbs):=r2.cv;rw[hbs.gh]at hb;let(c,cs,rfl,hc,p8):=r4.cv;let(c1,cr,rfl,e1,p8):=p8.cons_inv;let(c2,cr,rfl,e2,p8):=p8.cons_inv;cases p8.nil_inv;cases e1.int_inv;cases e2.int_inv;erw[a,b,_,Z,hx,hb,c,Z,hc]
inductive adn(K:aa)(vs:List V)(H:Hp)(Q:VK):Prop |mk (m:_)(sq:_)(rs:_)(r:_)(f:_)(j:_)(ti:_)(t:_)(q:_)(h0:vs=[m,.int t,sq])(h1:RD K H m (fJ rs r f j ti))(h2:bM K H sq q)(h3:Bd 2000 q)(h4:1<=ti)(h5:ti<=100)(h6:0<q)(h7:1<=t)(h8:t.natAbs<2^2400)(h9:gF ti q t=true)(vq:gF ti q (t-1)=false)(L8:∀H',aH H H'->Q (.bl true) H')
def Od(K:aa):Sp:=λvs H Q _=>adn K vs H Q
theorem Pb:bo ["machine","t","square"] ["machine","t","square"] (aU G0):=bp aJ
theorem a2B(F:FA K mg "is_timed" G0)(B:bI mg)(gN:GT K mg "NOUGHT" [.int 0,.int 1])(nM:aA P w K mg aw "is_whole" 1 (uy K))(a7y:aA P w K mg aw "is_fraction" 2 (OI K))(qF:aA P w K mg aw "is_less" 1 (uw K))(An:aA P w K mg aw "are_enough" 1 (FN K)):aA P w K mg aw "is_timed" 3 (Od K):=by
 erw[F.has Pb (λvs H Q E h=>?_) (λ_ _ _ _ _ _=>iE λ_ _ _=>rfl) (λfa aL A outer s H vs Q E hr h=>?_)]
 ·let(m,sq,rs,r,f,j,ti,t,q,rfl,_):=h
  rfl
 ·let(m,sq,rs,r,f,j,ti,t,q,rfl,rm,Rq,bq,Ny,Nv,q0,t1,t2,LL,LK,k):=h
  have nd:=Pb.nd;let(aN,jy,kL):=gN;erw[_,(aB (bL (PW.pt (iL (cT (cw (pf nM hr (ak (pv 1) ay)))) (iL (cf qh (pv 1) aE (bS _)) (iL (cT (cw (pf a7y hr (ak (pv 2) ay)))) (jL (cT (cw (pf qF hr (ak (eD (x:="NOUGHT") Z jy) (ak (pv 2) ay)))))))))) (aI (aQ j7)) bQ) (aI (aQ (qf (pf An hr (ak (pv 0) (ak (pv 2) (ak (pv 1) ay)))) (oM (Jk (pf An hr (ak (pv 0) (ak (pv 2) (ak (aP j9 (pv 1) aE) ay)))))))))),?_];erw[_,Z,_,_,Z,(fP (K:=K) (H:=H) t).ty,_,Z,?_];rw[show oX (lG (.int t))=true from(by decide:oX "int"=true)];erw[aR #[_,Z,_,_,Z,Z,_,Z,?_]];rw[dM aO];erw[aR ?_];erw[_,Z,sq,q,Z,Rq,_,Z,aR ?_];erw[_,Z,.ref aN,sq,0,q,Z,#[aN,Z,kL H],Rq,#[az,az],bq,_,Z,?_];rw[cu q0];erw[aR ?_];erw[_,Z,_,Z,_,Z,m,sq,t,rs,r,f,j,ti,q,Z,rm,Rq,bq,Ny,Nv,aO,t2,?_];rw[LL];erw[_,Z,bR ?_];erw[_,Z,_,Z,_,Z,_,_,Z,Z,m,sq,t-1,rs,r,f,j,ti,q,Z,rm,Rq,bq,Ny,Nv,aO,aO,?_];rw[LK];erw[_,Z,k H (aH.refl _)]
inductive ady(K:aa)(vs:List V)(H:Hp)(Q:VK):Prop |mk (v:_)(u:_)(zs:_)(t:_)(q:_)(h0:vs=[v,u])(h1:RD K H v (.tuple (zs.map PyData.int)))(h2:RD K H u (C3 zs t q))(h3:zs.length<=1000)(h4:∀H',aH H H'->Q (.bl true) H')
def Oh(K:aa):Sp:=λvs H Q _=>ady K vs H Q
theorem Pl:bo ["row","entry"] ["row","entry"] (aU G8):=bp aJ
theorem a2H(F:FA K mg "is_step_with" G8)(B:bI mg)(nM:aA P w K mg aw "is_whole" 1 (uy K)):aA P w K mg aw "is_step_with" 2 (Oh K):=by
 erw[F.has Pl (λvs H Q E h=>?_) (λ_ _ _ _ _ _=>dW λ_ _=>rfl) (λfa aL A outer s H vs Q E hr h=>?_)]
 ·let(v,u,zs,t,q,rfl,_):=h
  rfl
 ·let(v,u,zs,t,q,rfl,rv,ru,lz,k):=h
  have nd:=Pl.nd;erw[_,(aB (bL (PW.pt (iL (cT (cw (mi K B (ak (pv 1) (ak (mh (x:="tuple") (v:=.ty "tuple") Z (B.at "tuple") ir rfl) ay))))) (iL (cf (kR K rfl hr.units) (fU K B (ak (pv 1) ay)) aE (bS _)) (jL (cf (kR K rfl hr.units) (px K (pv 1) aE) bW (bS _)))))) (aI (aQ j7)) bQ) (aI (aQ (qf (jq (dU K Z hr.units) (px K (pv 1) aE) (pv 0) (bS _)) (oM (fG (x:="all") (vU K Z Z) Z (B.at "all") yp (ak (eU (N:=["number"]) (js:=[none]) rfl rfl rfl (j5 K rfl (px K (pv 1) aE)) (λ_ _ _ _ _=>(aV 0 (iO _))) (λ_ _ _ _ _=>dZ) (λ_ _ _ _ _=>(pf nM hr (ak (pv 0) ay)))) ay))))))),?_];let(a,b,c,rfl,h1,h2,h3):=Fj ru;erw[_,Z,.inl #[_,_,"tuple",true,Z,ru.ty,az,mU,_,Z,aR ?_]];erw[_,Z,a,_,Z,.inr h1,.inl #[_,_,Z,Z,_,Z,aR ?_]];erw[_,Z,.inr #[a,_,0,.str "step",Z,Z,h1,Z,.inr #[_,_,bJ _,bJ _,aJ,aJ,_,Z,?_]]];rw[qK,show gf "step" (.str "step")=true by decide+kernel];erw[aR ?_];have ok:dq 1 (.tuple (zs.map PyData.int)):=iq.tup (n:=0) λd hd=>by let(i,_,rfl):=cI.mp hd;erw[.int i]
  erw[_,Z,.inr #[a,_,1,.ref b,Z,Z,h1,Z,_,Z,.inr #[_,_,fO h2 (pY zs),rv,ok.shaped az,ok.shaped az,?_]]];rw[ok.refl];erw[_,Z,bR ?_];erw[_,Z,.inr #[a,_,1,.ref b,Z,Z,h1,Z,b,Z,#[_,h2],λD H2 n2=>?_]];erw[AN (xs:=zs.map V.int) (bs:=zs.map λ_=>true) [] h2 n2 (by simp) (by simp;omega) ?_ ?_]
  ·intro i x y H3 Q' ex ey s3 hq
   rw[bP]at ex ey;let(z,ez,rfl):=u7.mp ex;rw[ez]at ey;cases ey;erw[_,Z,_,_,Z,(fP (K:=K) (H:=H3) z).ty,?_];rw[show oX (lG (.int z))=true from(by decide:oX "int"=true)];erw[hq _ (aH.refl _)]
  ·intro H3 s3 d3
   erw[D,_,Z,aF.of d3,?_];have e:(zs.map λ_=>true).all id=true:=g6.mpr λx hx=>by let(_,_,rfl):=cI.mp hx;rfl
   rw[e];erw[k H3 s3]
def vG(zs:List Int)(top:Rat):ah:=.tuple [.str "step",.tuple (zs.map PyData.int),cQ top]
inductive aeq(K:aa)(vs:List V)(H:Hp)(Q:VK):Prop |mk (m:_)(xv:_)(ev:_)(rs:_)(r:_)(f:_)(j:_)(ti:_)(h0:vs=[m,xv,ev])(h1:RD K H m (fJ rs r f j ti))(h2:gG rs r f j ti)(h3:((∃d,RD K H xv d/\RD K H ev d/\qW d/\∀H',aH H H'->Q .bw H')\/ ∃zs top t q,RD K H xv (vG zs top)/\RD K H ev (C3 zs t q)/\zs.length<=1000/\Bd 2000 top/\Bd 2000 q/\0<q/\1<=t/\t.natAbs<2^2400/\gF ti q t=true/\gF ti q (t-1)=false/\∀H',aH H H'->Q (if top<q then .int 3 else .bw) H'))
def OM(K:aa):Sp:=λvs H Q _=>aeq K vs H Q
theorem QA:bo ["machine","expected","entry","word","row","top"] ["machine","expected","entry"] (aU I0):=bp aJ
theorem a3S(F:FA K mg "fault_of_entry" I0)(B:bI mg)(V9:GV mg "NOT_DUE" (.int 1))(a8k:GV mg "WRONG_TICKS" (.int 2))(a8z:GV mg "ABOVE_TOP" (.int 3))(Aj:aA P w K mg aw "is_item" 4 (yW K))(a7u:aA P w K mg aw "is_step_with" 2 (Oh K))(a7t:aA P w K mg aw "is_timed" 3 (Od K))(qF:aA P w K mg aw "is_less" 1 (uw K)):aA P w K mg aw "fault_of_entry" 5 (OM K):=by
 erw[F.has QA (λvs H Q E h=>?_) (λ_ _ _ _ _ _=>iE λ_ _ _=>rfl) (λfa aL A outer s H vs Q E hr h=>?_)]
 ·let(m,xv,ev,rs,r,f,j,ti,rfl,_):=h
  rfl
 ·let(m,xv,ev,rs,r,f,j,ti,rfl,rm,aD,hc):=h
  have nd:=QA.nd;erw[_,(aB (bL (cf (kR K Z hr.units) (px K (pv 1) aE) bW (bS _)) (aI (aQ (me (PW.pt (si (cw (pf Aj hr (ak (pv 0) (ak (pv 2) ay)))) (xf (cf (dU K Z hr.units) (pv 2) (pv 1) (bS _))))) gX (eD (x:="NOT_DUE") Z V9)))) bQ) (aB (fh (pv 1) (eg K Z (n:=3) Z (bV (aV 3 nd) (bV (aV 4 nd) (bV (aV 5 nd) e9))))) (aB (bL (cT (cw (pf a7u hr (ak (pv 4) (ak (pv 2) ay))))) (aI (aQ (eD (x:="NOT_DUE") Z V9))) bQ) (aB (bL (cT (cw (pf a7t hr (ak (pv 0) (ak (px K (pv 2) aE) (ak (px K (pv 2) aE) ay)))))) (aI (aQ (eD (x:="WRONG_TICKS") Z a8k))) bQ) (aI (aQ (me (cw (pf qF hr (ak (pv 5) (ak (px K (pv 2) aE) ay)))) (eD (x:="ABOVE_TOP") Z a8z) gX))))))),?_];rcases hc with⟨d,rx,re,fH,k⟩|⟨zs,top,t,q,rx,re,lz,bt,bq,q0,t1,t2,LL,LK,k⟩
  ·obtain⟨wd,u,rfl,hw⟩:∃wd u,d= .tuple [.str wd,u]/\gf "step" (.str wd)=false:=by
    rcases fH with⟨n,rfl,_,_⟩|⟨wd,z,rfl,hw,_,_⟩
    ·erw["wait",_,Z,aJ]
    ·erw[wd,_,Z,?_]
     rcases hw with rfl|rfl<;>decide+kernel
   let(i1,i2,i3):=jC.is (n:=rs.length) (d:=.tuple [.str wd,u]) (o:=none) #[fH.it,(λ_ _ z=>nomatch z),λ_=>fH];let(a,xs,rfl,h1,hd):=id rx.cv;let(u1,ys,rfl,e1,hd):=hd.cons_inv;cases e1.str_inv;have lr:=aD.len;erw[_,Z,.inr #[a,_,0,.str wd,Z,Z,h1,cx (df 0) Z,.inr #[_,_,bJ _,bJ _,rZ (CO i2 (by simp)),aJ,_,Z,?_]]];rw[qK,hw];erw[bR #[_,Z,_,Z,m,ev,rs,[PyData.int r,.int f,.int j,.int ti],_,Z,rm,re,ao,i2,i3,λH1 s1=>?_]];rw[i1];erw[_,Z,bR ?_];erw[_,Z,_,Z,.inr #[_,_,RD.mono s1 _ re,RD.mono s1 _ rx,rZ i2,rZ i2,_,Z,?_]];rw[eqv_refl _ i2.lay];erw[bR (k H1 s1)]
  ·let(a,b,c,rfl,h1,h2,h3):=Fj re
   let(x,xs,rfl,g1,hd):=id rx.cv;let(u1,ys,rfl,e1,hd):=hd.cons_inv;let(u2,ys,rfl,e2,hd):=hd.cons_inv;let(u3,ys,rfl,e3,hd):=hd.cons_inv;cases hd.nil_inv;cases e1.str_inv;let(tp,ts,rfl,ht,sL):=e3.cv;let(c1,cr,rfl,q1,sL):=sL.cons_inv;let(c2,cr,rfl,q2,sL):=sL.cons_inv;cases sL.nil_inv;cases q1.int_inv;cases q2.int_inv;have Rt':bM K H (.ref tp) top:=#[tp,Z,ht];erw[_,Z,.inr #[x,_,0,.str "step",Z,Z,g1,cx (df 0) Z,.inr #[_,_,bJ _,bJ _,aJ,aJ,_,Z,?_]]];rw[qK,show gf "step" (.str "step")=true by decide+kernel];erw[aR ?_];erw[_,Z,x,_,Z,g1,Z,_,_,Z,_,_,Z,_,_,Z,Z,?_];erw[_,Z,_,Z,u2,.ref a,zs,t,q,Z,e2,re,lz,λH1 s1=>#[_,Z,aR ?_]];erw[_,Z,_,Z,.inr #[a,_,2,.int t,Z,Z,h1.go s1,Z,_,Z,.inr #[a,_,3,c,Z,Z,h1.go s1,Z,?_]]];erw[m,c,rs,r,f,j,ti,t,q,Z,RD.mono s1 _ rm,h3.go s1,bq,aD.t1.1,aD.t1.2,q0,t1,t2,LL,LK,λH2 s2=>#[_,Z,aR ?_]];have fN:=s1.trans s2;erw[_,Z,_,Z,.inr #[a,_,3,c,Z,Z,h1.go fN,Z,?_]];erw[.ref tp,c,top,q,Z,Rt'.go fN,h3.go fN,bt,bq,_,Z,?_];have k:=k H2 fN;by_cases cB:top<q
   ·rw[bc cB]at k
    rw[cu cB];erw[bR k]
   ·rw[bj cB]at k
    rw[dM cB];erw[aR k]
inductive adC(K:aa)(vs:List V)(H:Hp)(Q:VK):Prop |mk (ev:_)(h0:vs=[ev])(h1:((∃d,RD K H ev d/\qW d/\Q .bw H)\/∃zs t q,RD K H ev (C3 zs t q)/\∀v,bM K H v q->Q v H))
def Om(K:aa):Sp:=λvs H Q _=>adC K vs H Q
theorem Pq:bo ["entry"] ["entry"] (aU Gd):=bp aJ
theorem a2M(F:FA K mg "square_of" Gd)(B:bI mg):aA P w K mg aw "square_of" 1 (Om K):=by
 erw[F.has Pq (λvs H Q E h=>?_) (λ_ _ _ _ _ _=>dA λ_=>rfl) (λfa aL A outer s H vs Q E hr h=>?_)]
 ·let(ev,rfl,_):=h
  rfl
 ·let(ev,rfl,hc):=h
  have nd:=Pq.nd;erw[_,(aI (aQ (me (cf (dU K Z hr.units) (px K (pv 0) aE) bW (bS _)) (px K (pv 0) aE) gX))),?_];rcases hc with⟨d,re,fH,k⟩|⟨zs,t,q,re,k⟩
  ·obtain⟨wd,u,rfl,hw,hs⟩:∃wd u,d= .tuple [.str wd,u]/\gf "step" (.str wd)=false/\SeqAt.shaped (.str wd)=true:=by
    rcases fH with⟨n,rfl,_,_⟩|⟨wd,z,rfl,hw,_,_⟩
    ·erw["wait",_,Z,aJ,aJ]
    ·erw[wd,_,Z,?_]
     rcases hw with rfl|rfl<;>erw[aJ,aJ]
   let(a,xs,rfl,h1,hd):=id re.cv;let(u1,ys,rfl,e1,hd):=hd.cons_inv;cases e1.str_inv;erw[_,Z,.inr #[a,_,0,.str wd,Z,Z,h1,cx (df 0) Z,.inr #[_,_,bJ _,bJ _,hs,aJ,_,Z,?_]]];rw[qK,hw];erw[aR k]
  ·let(a,b,c,rfl,h1,h2,h3):=Fj re
   erw[_,Z,.inr #[a,_,0,.str "step",Z,Z,h1,Z,.inr #[_,_,bJ _,bJ _,aJ,aJ,_,Z,?_]]];rw[qK,show gf "step" (.str "step")=true by decide+kernel];erw[bR #[_,Z,.inr #[a,_,3,c,Z,Z,h1,Z,k _ h3]]]
end
section
inductive aep(K:aa)(vs:List V)(H:Hp)(Q:VK):Prop |mk (m:_)(iv:_)(l:_)(ys:_)(rs:_)(r:_)(f:_)(j:_)(t:_)(ds:_)(os:_)(g:_)(h0:vs=[m,iv,.ref l])(h1:RD K H m (fJ rs r f j t))(h2:gG rs r f j t)(h3:RD K H iv (.tuple ds))(h4:cW rs.length ds os)(h5:ds.length<=30)(h6:H l=some (.lst ys))(h7:aK K H ys ((lst os.length g).map cQ))(h8:(∀i,i<=os.length->Bd 900 (g i)))(h9:∀l ys H',H l=none->H' l=some (.lst ys)->aK K H' ys ((lst os.length (fl os.length (leadF os) (2*f) g)).map cQ)->aH H H'->Q (.ref l) H')
def OL(K:aa):Sp:=λvs H Q _=>aep K vs H Q
theorem Cp:bo ["machine","items","squares","fall","kept","i"] ["machine","items","squares"] (aU Cr):=bp aJ
theorem a3U(F:FA K mg "kept_by_fall" Cr)(B:bI mg)(iD:aA P w K mg aw "is_line" 1 (mZ K))(jw:aA P w K mg aw "lead_of" 1 (mY K))(je:aA P w K mg aw "plus_whole" 4 (rX K))(mF:aA P w K mg aw "least" 2 (md K)):aA P w K mg aw "kept_by_fall" 5 (OL K):=by
 erw[F.has Cp (λvs H Q E h=>?_) (λ_ _ _ _ _ _=>iE λ_ _ _=>rfl) (λfa aL A outer s H vs Q E hr h=>?_)]
 · let(m,iv,l,ys,rs,r,f,j,t,ds,os,g,rfl,_):=h
   rfl
 · let(m,iv,l,ys,rs,r,f,j,t,ds,os,g,rfl,rm,aD,ri,row,hz,dl,zi,bg,k):=h
   have nd:=Cp.nd;erw[_,(aB (pS 3 nd (px K (pv 0) aE)) (aB (pS 4 nd (dh (x:="list") (Dq K Z) Z (B.at "list") EK (ak (pv 2) ay))) (aB (iB gj Z (Sm Z (B.at "reversed") (ak (dh (x:="range") WA rfl (B.at "range") PyProof.Rows.boot_range (ak (fU K B (ak (pv 1) ay)) ay)) ay)) (aV 5 nd) (aI (bL (cw (pf iD hr (ak (px K (pv 1) (pv 5)) ay))) (aI (fh (pf mF hr (ak (dw (ak (px K (pv 4) (pv 5)) (ak (pf je hr (ak (px K (pv 4) (aP eu (pv 5) aE)) (ak (aP cK (aP cK aE (pv 3)) (pf jw hr (ak (px K (pv 1) (pv 5)) ay))) ay))) ay))) ay)) (uK (pv 4) (pv 5) set_list))) bQ))) (aI (aQ (pv 4)))))),?_];let(ma,mb,rfl,gE,jR):=oT rm;let(ia,xs,rfl,hi,eM):=ri.cv;have lx:=eM.length;have ll:=row.len;have lr:=aD.len;have hL:∀i m,leadF os i=some m->(2*f*(m:Int)).natAbs<2^24:=λi m e=>wF aD.f1.1 aD.f1.2 (xF row.lM e);have FB:∀i,i<=os.length->Bd 1700 (fl os.length (leadF os) (2*f) g i):=λi hi=>(Ll bg hL i hi).mono ao;erw[_,Z,.inr #[ma,_,2,.int f,Z,Z,gE,Z,?_]];erw[_,Z,l,ys,Z,.inl (aF.of dl),λD H1 n1=>?_];erw[_,Z,ia,_,Z,.inr (hi.go n1.same),_,Z,λpr H2 n2=>?_];erw[pr,_,Z,n2.at',ao,ao,?_];have eN:((xs.length:Int)).toNat=os.length:=by lia
   rw[eN];erw[Vv (Pv:=λi O H5=>aH H H5/\∃zs v1,H5 D=some (.lst zs)/\aK K H5 zs ((lst os.length λk=>if os.length<=k+i then fl os.length (leadF os) (2*f) g k else g k).map cQ)/\O=[some (.ref ma),some (.ref ia),some (.ref l),some (.int f),some (.ref D),v1]) ?_ ?_ ?_]
   · erw[n1.same.trans n2.same,ys,none,n2.same _ _ n1.at',?_,Z]
     rw[qp (g:=λk=>if os.length<=k+0 then fl os.length (leadF os) (2*f) g k else g k) (g':=g)]
     ·erw[aK.mono (n1.same.trans n2.same) _ zi]
     · intro k hk
       show g k=if os.length<=k+0 then _ else g k;split
       · next h => have:k=os.length:=by lia
                   subst this;erw[qJ.symm]
       ·rfl
   · rintro i O H3 hin ⟨s3,zs,v1,dz,rz,rfl⟩
     erw[iG ?_];intro E1;obtain⟨x,hx⟩:∃x,xs[os.length-1-i]? =some x:=#[_,bN (show os.length-1-i<xs.length by lia)];generalize hc:os.length-1-i=c at hx;have hV:c<os.length:=by lia
     have eI:((os.length:Int)-1-(i:Int))=(c:Int):=by lia
     rw[eI];let(d,ed,rd):=eM.get' c hx;let(o,eo,it):=row.get ed;have lz:=rz.length;rw[ba,lN]at lz;have AV:fc xs (c:Int)=some x:=cx ao (by simpa using hx);erw[_,Z,_,Z,.inr #[ia,_,_,_,Z,Z,hi.go s3,AV,?_]];erw[x,d,o,Z,RD.mono s3 _ rd,it,_,Z,?_];cases o with
     |none=>
       erw[aR ?_];erw[s3,zs,_,dz,?_,Z];rw[qp (g:=λk=>if os.length<=k+(i+1)then fl os.length (leadF os) (2*f) g k else g k) (g':=λk=>if os.length<=k+i then fl os.length (leadF os) (2*f) g k else g k)]
       ·erw[rz]
       · intro k _
         show(if os.length<=k+i then _ else g k)=if os.length<=k+(i+1)then _ else g k;by_cases h1:os.length<=k+i
         ·rw[bc h1,bc ao]
         · rw[bj h1]
           by_cases h2:k=c
           ·subst h2;rw[bc ao,qI hV (K8 eo)]
           ·rw[bj ao] |some q=>
       let(ns,sp):=q;erw[bR ?_];have dG:=iQ it;subst dG;let(bZ,_,_):=row.ok c ns sp eo;obtain⟨z1,o7⟩:∃z,zs[c+1]? =some z:=#[_,bN (show c+1<zs.length by lia)];obtain⟨z0,jz⟩:∃z,zs[c]? =some z:=#[_,bN (show c<zs.length by lia)];have R1:bM K H3 z1 (fl os.length (leadF os) (2*f) g (c+1)):=by
        let(d1,e1,r1):=rz.get' (c+1) o7;rw[bP,lO _ (show c+1<=os.length by lia)]at e1;cases e1;have:os.length<=c+1+i:=by lia
        simp only[bc this]at r1;erw[jK r1]
       have R0:bM K H3 z0 (g c):=by
        let(d1,e1,r1):=rz.get' c jz;rw[bP,lO _ (show c<=os.length by lia)]at e1;cases e1;have:¬os.length<=c+i:=by lia
        simp only[bj this]at r1;erw[jK r1]
       have tN:((c:Int)+1).toNat=c+1:=by lia
       have vS:fc zs ((c:Int)+1)=some z1:=cx ao (by rw[tN];erw[o7]);have vT:fc zs (c:Int)=some z0:=cx ao (by simpa using jz);erw[_,Z,_,Z,.inl #[D,_,_,_,Z,Z,aF.of dz,vT,?_]];erw[_,Z,_,Z,_,_,Z,Z,.inl #[D,_,_,_,Z,Z,aF.of dz,vS,?_]];erw[_,Z,_,_,Z,Z,.of_left (dF az az),?_];erw[_,Z,_,Z,.inr #[ia,_,_,_,Z,Z,hi.go s3,AV,?_]];erw[x,ns,sp,Z,RD.mono s3 _ rd,bZ.ne,by rw[bZ.len];lia,λH4 s4=>?_];have ie:=aD.f1;erw[_,_,Z,Z,.of_left (dF ao ao),?_];have us:=hL c _ (qw eo);erw[z1,_,_,Z,R1.go s4,(FB (c+1) ao).mono az,us,λu H5 ru s5=>?_];erw[cy Z,λl2 H6 n6=>?_];have iZ:=s4.trans (s5.trans n6.same);have B7:=R0.go iZ;have Ru:=ru.go n6.same;have B1:Bd 2000 (g c):=(bg _ ao).mono az;have B2:Bd 2000 (fl os.length (leadF os) (2*f) g (c+1)+((2*f*(aG ns:Int):Int):Rat)):=(jZ (FB (c+1) ao) us).mono az;erw[l2,[z0,u],[_,_],Z,aF.of n6.at',#[B7,B1,Ru,B2,trivial],by simp,λc' v q e1 e2 hq=>?_];have nH:mn (g c) (fl os.length (leadF os) (2*f) g (c+1)+((2*f*(aG ns:Int):Int):Rat))=q:=by
        erw[uV ?_ (hq _ (by simp)) (hq _ (by simp))]
        match c',e2 with |0,e2=>cases e2;erw[.inl rfl] |1,e2=>cases e2;erw[.inr rfl]
       have Rv:bM K H6 v q:=by match c',e1,e2 with |0,e1,e2=>cases e1;cases e2;erw[B7] |1,e1,e2=>cases e1;cases e2;erw[Ru]
       have jW:=iZ _ _ dz;have Kd:jv zs.length (c:Int)=some c:=by unfold jv;rw[bc ao,bc ao];simp
       erw[_,Z,_,Z,D,zs,_,_,Z,Z,jW,Kd,?_];erw[λb o e=>?_,_,_,cg,?_,Z]
       ·rw[aY (eJ e n1.no)];erw[iZ b o (s3 b o e)]
       · have h:=aK.FU (i:=c) jW (aK.mono iZ _ rz) Rv.rd (qj _) (qd _)
         rw[<-ER]at h;have e:(lst os.length λk=>if os.length<=k+i then fl os.length (leadF os) (2*f) g k else g k).set c q=lst os.length λk=>if os.length<=k+(i+1)then fl os.length (leadF os) (2*f) g k else g k:=by
          rw[<-JX (g:=λk=>if os.length<=k+i then fl os.length (leadF os) (2*f) g k else g k) (g':=λk=>if os.length<=k+(i+1)then fl os.length (leadF os) (2*f) g k else g k) (i:=c)]
          · have:os.length<=c+(i+1):=by lia
            simp only[bc this];rw[o6 hV (qw eo),nH]
          · intro k _ hk
            show(if os.length<=k+(i+1)then _ else g k)=if os.length<=k+i then _ else g k;by_cases h1:os.length<=k+i
            ·rw[bc h1,bc ao]
            ·rw[bj h1,bj ao]
         rw[e]at h;erw[h]
   · rintro O H3 ⟨s3,zs,v1,dz,rz,rfl⟩
     rw[qp (g:=λk=>if os.length<=k+os.length then fl os.length (leadF os) (2*f) g k else g k) (g':=fl os.length (leadF os) (2*f) g) (λk hk=>by show _=if os.length<=k+os.length then _ else _;rw[bc ao])]at rz;erw[_,Z,k D zs H3 n1.no dz rz s3]
def cF(r f j rate:Int)(os:List Itm):Nat->Rat:=gc os.length (ownF j rate os) (leadF os) (2*r) (2*f)
def kP(r f j rate:Int)(os:List Itm):List Rat:=lst os.length (cF r f j rate os)
theorem a1E(r f j rate:Int)(os:List Itm):(kP r f j rate os).length=os.length+1:=lN _ _
inductive adR(K:aa)(vs:List V)(H:Hp)(Q:VK):Prop |mk (m:_)(iv:_)(rate:_)(rs:_)(r:_)(f:_)(j:_)(t:_)(ds:_)(os:_)(h0:vs=[m,iv,.int rate])(h1:RD K H m (fJ rs r f j t))(h2:gG rs r f j t)(h3:RD K H iv (.tuple ds))(h4:cW rs.length ds os)(h5:ds.length<=30)(h6:10<=rate)(h7:rate<=200)(h8:∀l ys H',H l=none->H' l=some (.lst ys)->aK K H' ys ((kP r f j rate os).map cQ)->aH H H'->Q (.ref l) H')
def yT(K:aa):Sp:=λvs H Q _=>adR K vs H Q
theorem PX:bo ["machine","items","rate","risen"] ["machine","items","rate"] (aU GL):=bp aJ
theorem a3g(F:FA K mg "plan_of" GL)(B:bI mg)(Ac:aA P w K mg aw "own_bounds" 8 (Cb K))(a7p:aA P w K mg aw "kept_by_rise" 5 (Oq K))(KC:aA P w K mg aw "kept_by_fall" 5 (OL K)):aA P w K mg aw "plan_of" 9 (yT K):=by
 erw[F.has PX (λvs H Q E h=>?_) (λ_ _ _ _ _ _=>iE λ_ _ _=>rfl) (λfa aL A outer s H vs Q E hr h=>?_)]
 ·let(m,iv,rate,rs,r,f,j,t,ds,os,rfl,_):=h
  rfl
 ·let(m,iv,rate,rs,r,f,j,t,ds,os,rfl,rm,aD,ri,row,hz,cj,cm,k):=h
  have nd:=PX.nd;erw[_,(aB (pS 3 nd (pf a7p hr (ak (pv 0) (ak (pv 1) (ak (pf Ac hr (ak (pv 0) (ak (pv 1) (ak (pv 2) ay)))) ay))))) (aI (aQ (pf KC hr (ak (pv 0) (ak (pv 1) (ak (pv 3) ay))))))),?_];have ll:=row.len;have hB:=_O.zB aD.j1.1 aD.j1.2 cj cm row.lM;have hL:∀i m,leadF os i=some m->(2*r*(m:Int)).natAbs<2^24:=λi m e=>wF aD.r1.1 aD.r1.2 (xF row.lM e);erw[_,Z,_,Z,_,Z,_,Z,_,Z,m,iv,rate,rs,r,f,j,t,ds,os,Z,rm,aD,ri,row,aO,cj,cm,λl1 y1 H1 xy d1 r1 s1=>?_];erw[m,iv,l1,y1,rs,r,f,j,t,ds,os,ownF j rate os,Z,RD.mono s1 _ rm,aD,RD.mono s1 _ ri,row,hz,d1,r1,hB,λl2 y2 H2 uS d2 r2 s2=>?_];have fN:=s1.trans s2;erw[_,Z,_,Z,_,Z,m,iv,l2,y2,rs,r,f,j,t,ds,os,_,Z,RD.mono fN _ rm,aD,RD.mono fN _ ri,row,hz,d2,r2,λi hi=>(Es hB hL i).mono aO,λl3 y3 H3 zP d3 r3 s3=>?_];have nl:H l3=none:=by cases e:H l3 with |none=>rfl |some o=>have:=fN _ _ e;rw[zP]at this;cases this
  erw[k l3 y3 H3 nl d3 r3 (fN.trans s3)]
end
end _a
namespace _a
open PySem PySem.Spec PyProof.Rows _L _b _l _W
section
def RowW(ds:List ah)(os:List Itm):Prop:=∀(i:Nat)(d:ah),os[i]? =some none->ds[i]? =some d->qW d
theorem RowW.snoc{ds:List ah}{os:List Itm}{d:ah}{o:Itm}(h:RowW ds os)(hl:ds.length=os.length)(hd:o=none->qW d):RowW (ds++[d]) (os++[o]):=by
 intro i x e1 e2;rcases oH e1 with h1|⟨h1,Aq⟩
 ·rcases oH e2 with h2|⟨h2,_⟩
  ·erw[h i x h1 h2]
  ·have:=(cJ.mp h1).1;lia
 ·rcases oH e2 with h2|⟨_,DP⟩
  ·have:=(cJ.mp h2).1;lia
  ·subst DP;erw[hd Aq.symm]
end
end _a
namespace _a
open PySem PySem.Spec PyProof.Rows _L _b _l _C _P
open _O (topR cornO mnO betR atO ownF leadF ownL OkI OkIs)
section
def yc(ti:Int)(q:Rat)(T:Int):Prop:=1<=T/\gF ti q T=true/\gF ti q (T-1)=false
open Classical in
noncomputable def m8(ti:Int)(q:Rat):Int:=if h:∃T,yc ti q T then h.choose else 0
theorem VN{ti:Int}{q:Rat}{s t:Int}(hq:0<=q.num)(h0:0<=s)(h:s<=t)(e:gF ti q s=true):gF ti q t=true:=by erw[cu (Int.le_trans (m4 e) ?_)];erw[Bz (wx h h h0 ao) hq]
theorem YO{ti:Int}{q:Rat}{S T:Int}(hq:0<=q.num)(h1:yc ti q S)(h2:yc ti q T):S=T:=by
 let(a1,a2,a3):=h1;let(b1,b2,b3):=h2;by_cases h:S<=T-1
 ·have:=VN hq ao h a2
  rw[b3]at this;cases this
 ·by_cases h':T<=S-1
  ·have:=VN hq ao h' b2
   rw[a3]at this;cases this
  ·lia
theorem Nu{ti:Int}{q:Rat}{T:Int}(hq:0<=q.num)(h:yc ti q T):m8 ti q=T:=by have hx:∃T,yc ti q T:=#[T,h];unfold m8;rw[dif_pos hx];erw[YO hq hx.choose_spec h]
theorem JD{q:Rat}(h:0<q):0<q.num:=by
 have h1:=Rat.num_nonneg.mpr (Rat.le_of_lt h);have h2:q.num≠0:=λe=>by rw[Rat.num_eq_zero.mp e]at h;erw[absurd h az]
 lia
noncomputable def mV(ti:Int)(zs:List Int)(q:Rat):ah:=.tuple [.str "step",.tuple (zs.map PyData.int),.int (m8 ti q),cQ q]
theorem Fp(ti:Int)(zs:List Int)(q:Rat):eA (mV ti zs q)=true:=by simp[mV,eA,cA,mm,qd]
inductive aes(K:aa)(vs:List V)(H:Hp)(Q:VK):Prop |mk (m:_)(rv:_)(sq:_)(rs:_)(r:_)(f:_)(j:_)(ti:_)(zs:_)(q:_)(h0:vs=[m,rv,sq])(h1:RD K H m (fJ rs r f j ti))(h2:gG rs r f j ti)(h3:RD K H rv (.tuple (zs.map PyData.int)))(h4:bM K H sq q)(h5:Bd 2000 q)(h6:0<q)(h7:∀v H',RD K H' v (mV ti zs q)->aH H H'->Q v H')
def Cg(K:aa):Sp:=λvs H Q _=>aes K vs H Q
theorem QB:bo ["machine","row","square"] ["machine","row","square"] (aU Ia):=bp aJ
theorem a3V(F:FA K mg "step_entry" Ia)(B:bI mg)(a6K:aA P w K mg aw "ticks_of" 2 (Oe K)):aA P w K mg aw "step_entry" 3 (Cg K):=by
 erw[F.has QB (λvs H Q E h=>?_) (λ_ _ _ _ _ _=>iE λ_ _ _=>rfl) (λf aL A outer s H vs Q E hr h=>?_)]
 ·let(m,rv,sq,rs,r,f,j,ti,zs,q,rfl,_):=h
  rfl
 ·let(m,rv,sq,rs,r,f,j,ti,zs,q,rfl,rm,aD,rr,Rq,bq,q0,k):=h
  have nd:=QB.nd;erw[_,(aI (aQ (j6 (ak bW (ak (pv 1) (ak (pf a6K hr (ak (pv 0) (ak (pv 2) ay))) (ak (pv 2) ay))))))),?_];have t1:=aD.t1;have qn:0<q.num:=JD q0;erw[_,Z,_,Z,_,Z,m,sq,rs,r,f,j,ti,q,Z,rm,Rq,bq,t1.1,t1.2,qn,λT T1 _ T2 T3=>?_];erw[_,Z,cy Z,λt H1 n1=>k (.ref t) H1 ?_ n1.same];have e:=Nu ao #[T1,T2,T3];unfold mV;rw[e];erw[fO (aW.of n1.at') (cE (bJ _) (cE (RD.mono n1.same _ rr) (cE (fP _) (cE (Rq.go n1.same).rd cX))))]
noncomputable def jb(r f ti:Int)(ns:List Int)(top b e:Rat):List ah:=(List.range (aG ns)).map λk=>mV ti (g9 ns k) (gP r f (aG ns) top b e k)
noncomputable def fQ(r f j ti rate:Int)(ds:List ah)(os:List Itm)(i:Nat):List ah:=match os[i]? with |some (some (ns,sp))=>jb r f ti ns (topR rate sp) (cF r f j rate os i) (cF r f j rate os (i+1)) |_=>[ds.getD i .none]
noncomputable def fA(r f j ti rate:Int)(ds:List ah)(os:List Itm):Nat->List ah |0=>[] |i+1=>fA r f j ti rate ds os i++fQ r f j ti rate ds os i
theorem K5(r f ti:Int)(ns:List Int)(top b e:Rat):cA (jb r f ti ns top b e)=true:=eF.mpr λd hd=>by let(k,_,rfl):=cI.mp hd;erw[Fp _ _ _]
theorem Tv{r f:Int}{ld k:Nat}{top b e:Rat}(hr:1<=r)(hf:1<=f)(hk:k<ld)(ht:0<top)(hb:0<=b)(he:0<=e):0<gP r f ld top b e k:=by
 have pos:∀{x:Rat}{z:Int},0<=x->0<z->0<x+(z:Rat):=λ{x z} hx hz=>by have h1:((0:Int):Rat)<(z:Rat):=MQ.mpr hz;have h2:x+((0:Int):Rat)<x+(z:Rat):=Rat.add_lt_add_left.mpr h1;rw[show((0:Int):Rat)=0 from Z,Bn]at h2;erw[Std.lt_of_le_of_lt hx h2]
 have h1:=pos (z:=r*(2*(1+(k:Int))-1)) hb (jk ao ao);have h2:=pos (z:=f*(2*((ld:Int)-(1+(k:Int)))+1)) he (jk ao ao);unfold gP;rcases sD (mn (b+((r*(2*(1+(k:Int))-1):Int):Rat)) top) (e+((f*(2*((ld:Int)-(1+(k:Int)))+1):Int):Rat))with h|h
 ·rw[h]
  rcases sD (b+((r*(2*(1+(k:Int))-1):Int):Rat)) top with h'|h'<;>rw[h']<;>assumption
 ·rw[h];erw[h2]
theorem BV{rate sp:Int}(h1:1<=sp)(h2:10<=rate):0<topR rate sp:=by
 have h0:=_O.rH rate sp;erw[MN h0 λe=>?_];have hp:0<(sp*rate)^2:=by rw[fS,fS,m5,lF];erw[jk (jk ao ao) (jk ao ao)]
 have h2:0<=Rat.divInt (-((sp*rate)^2)) 10000:=by rw[<-Rat.neg_divInt];show 0<=-(topR rate sp);rw[<-e];decide
 have:=(yo az).mp h2
 lia
end
section
def jX(rate:Int)(ds:List ah)(os:List Itm)(i:Nat):List ah:=match os[i]? with |some (some (ns,sp))=>(List.range (aG ns)).map λk=>vG (g9 ns k) (topR rate sp) |_=>[ds.getD i .none]
def ij(rate:Int)(ds:List ah)(os:List Itm):Nat->List ah |0=>[] |i+1=>ij rate ds os i++jX rate ds os i
def lY(j rate:Int)(os:List Itm)(i:Nat):List Rat:=match os[i]? with |some (some (ns,sp))=>ownF j rate os i::List.replicate (aG ns-1) (topR rate sp) |_=>[ownF j rate os i]
def kZ(j rate:Int)(os:List Itm):Nat->List Rat |0=>[] |i+1=>kZ j rate os i++lY j rate os i
theorem vF{rate:Int}{ds:List ah}{os:List Itm}{i:Nat}{ns:List Int}{sp:Int}(h:os[i]? =some (some (ns,sp))):jX rate ds os i=(List.range (aG ns)).map λk=>vG (g9 ns k) (topR rate sp):=by unfold jX;rw[h]
theorem AH{rate:Int}{ds:List ah}{os:List Itm}{i:Nat}{d:ah}(h:os[i]? =some none)(hd:ds[i]? =some d):jX rate ds os i=[d]:=by unfold jX;rw[h,N8,hd];rfl
theorem AS{j rate:Int}{os:List Itm}{i:Nat}{ns:List Int}{sp:Int}(h:os[i]? =some (some (ns,sp))):lY j rate os i=ownF j rate os i::List.replicate (aG ns-1) (topR rate sp):=by unfold lY;rw[h]
theorem Ei{j rate:Int}{os:List Itm}{i:Nat}(h:os[i]? =some none):lY j rate os i=[ownF j rate os i]:=by unfold lY;rw[h]
theorem VZ(zs:List Int)(q:Rat):eA (vG zs q)=true:=by
 have:cA (zs.map PyData.int)=true:=eF.mpr λd hd=>by let(i,_,rfl):=cI.mp hd;rfl
 simp[vG,eA,cA,this,cQ]
theorem AI{n:Nat}{rate:Int}{ds:List ah}{os:List Itm}(row:cW n ds os):∀i,i<=os.length->(ij rate ds os i).length<=100*i/\cA (ij rate ds os i)=true
 |0,_=>#[bf _,Z] |i+1,h=>by
  have ll:=row.len;let(ih,ino):=AI (rate:=rate) row i ao;obtain⟨o,eo⟩:∃o,os[i]? =some o:=#[_,bN (show i<os.length by lia)];have key:(jX rate ds os i).length<=100/\cA (jX rate ds os i)=true:=by cases o with |none=>obtain⟨d',ed⟩:∃d',ds[i]? =some d':=#[_,bN (show i<ds.length by lia)];rw[AH eo ed];have:=eF.mp row.no _ (fR ed);erw[by simp,by simp[cA,this]] |some q=>let(ns,sp):=q;let(bZ,_,_):=row.ok i ns sp eo;have:=qv bZ;rw[vF eo,ba,iz];erw[ao,eF.mpr λd hd=>?_];let(k,_,rfl):=cI.mp hd;erw[VZ _ _]
  erw[?_,?_]
  ·show(ij rate ds os i++jX rate ds os i).length<=_
   rw[cD];lia
  ·erw[eF.mpr λd hd=>?_]
   rcases iy.mp hd with h1|h1
   ·erw[eF.mp ino d h1]
   ·erw[eF.mp key.2 d h1]
theorem qT{n:Nat}{j rate:Int}{ds:List ah}{os:List Itm}(row:cW n ds os):∀i,i<=os.length->(kZ j rate os i).length=(ij rate ds os i).length |0,_=>rfl |i+1,h=>by have ll:=row.len;show(kZ j rate os i++lY j rate os i).length=(ij rate ds os i++jX rate ds os i).length;rw[cD,cD,qT row i ao];obtain⟨o,eo⟩:∃o,os[i]? =some o:=#[_,bN (show i<os.length by lia)];cases o with |none=>obtain⟨d',ed⟩:∃d',ds[i]? =some d':=#[_,bN (show i<ds.length by lia)];rw[AH eo ed,Ei eo];rfl |some q=>
 let(ns,sp):=q;let(bZ,_,_):=row.ok i ns sp eo;have:=bZ.lead;rw[vF eo,AS eo];simp
 lia
inductive aex(K:aa)(vs:List V)(H:Hp)(Q:VK):Prop |mk (iv:_)(rate:_)(n:_)(ds:_)(os:_)(h0:vs=[iv,.int rate])(h1:RD K H iv (.tuple ds))(h2:cW n ds os)(h3:n<=3)(h4:ds.length<=30)(h5:10<=rate)(h6:rate<=200)(h7:∀l ys H',H l=none->H' l=some (.lst ys)->aK K H' ys (ij rate ds os os.length)->aH H H'->Q (.ref l) H')
def OP(K:aa):Sp:=λvs H Q _=>aex K vs H Q
theorem QF:bo ["items","rate","due","item","top"] ["items","rate"] (aU Ig):=bp aJ
theorem a3Y(F:FA K mg "due_entries" Ig)(B:bI mg)(iD:aA P w K mg aw "is_line" 1 (mZ K))(oY:aA P w K mg aw "top_square" 4 (uu K))(A6:aA P w K mg aw "step_rows" 3 (yS K)):aA P w K mg aw "due_entries" 5 (OP K):=by
 erw[F.has QF (λvs H Q E h=>?_) (λ_ _ _ _ _ _=>dW λ_ _=>rfl) (λfa aL A outer s H vs Q E hr h=>?_)]
 ·let(iv,rate,n,ds,os,rfl,_):=h
  rfl
 ·let(iv,rate,n,ds,os,rfl,ri,row,n3,hz,cj,cm,k):=h
  have nd:=QF.nd;erw[_,(aB (pS 2 nd (dw ay)) (aB (iB gj Z (j5 K Z (pv 0)) (aV 3 nd) (aI (bL (cw (pf iD hr (ak (pv 3) ay))) (aB (pS 4 nd (pf oY hr (ak (pv 3) (ak (pv 1) ay)))) (aI (gb (zx K Z (pv 2) (ak (eU (N:=["row","top"]) (js:=[none,some 4]) Z Z Z (nk K Z (pf A6 hr (ak (pv 3) ay))) (λ_ _ _ _ _=>(aV 0 (jQ az))) (λ_ _ _ _ _=>dZ) (λ_ _ _ _ _=>(j6 (ak bW (ak (pv 0) (ak (pv 1) ay)))))) ay))))) (aI (gb (jr K Z (pv 2) (ak (pv 3) ay))))))) (aI (aQ (pv 2))))),?_];have ll:=row.len;have jg:sizeLine=16777216:=by decide
  erw[cy Z,λD H2 n2=>?_];have nD:=n2.no;let(ia,xs,rfl,hi,eM):=ri.cv;have lx:=eM.length;erw[_,Z,ia,Z,#[_,hi.go n2.same],Lj (K:=K) (a:=ia) (xs:=xs) (λi O H3=>aH H H3/\∃zs v1 v2,H3 D=some (.lst zs)/\aK K H3 zs (ij rate ds os i)/\O=[some (.ref ia),some (.int rate),some (.ref D),v1,v2]) #[n2.same,[],none,none,n2.at',cX,Z] (λi O H3 _ h=>hi.go h.1) ?_ ?_]
  ·rintro i y O H3 hy ⟨s3,zs,v1,v2,dz,rz,rfl⟩
   erw[iG ?_];intro E1;have sW:i<xs.length:=(cJ.mp hy).1;let(d,ed,rd):=eM.get' i hy;let(o,eo,it):=row.get ed;have pZ:=RD.mono s3 _ rd;let(tl,tn):=AI (rate:=rate) row i ao;have lz:=rz.length;erw[_,Z,y,d,o,Z,pZ,it,_,Z,?_];cases o with
   |none=>
    erw[aR ?_];erw[_,Z,.inl #[Z,_,aF.of dz],_,Z,D,zs,_,Z,Z,dz,ao,?_];erw[λb o e=>?_,_,_,_,cg,?_,Z]
    ·rw[aY (eJ e nD)];erw[s3 b o e]
    ·show aK K _ _ (ij rate ds os i++jX rate ds os i)
     rw[AH eo ed];erw[aK.wN dz rz pZ tn it.no] |some q=>
    let(ns,sp):=q;erw[bR ?_];have dG:=iQ it;subst dG;let(bZ,cP,dX):=row.ok i ns sp eo;have mz:=qv bZ;erw[_,Z,_,Z,y,ns,sp,rate,Z,pZ,cP,dX,cj,cm,λtv H4 Et s4=>?_];have mM:=s4 _ _ dz;erw[_,Z,.inl #[Z,_,aF.of mM],?_];erw[_,Z,y,ns,sp,Z,RD.mono s4 _ pZ,#[Z,λz hz=>by have:=bZ.bd z hz;lia,bZ.nz],by rw[bZ.len];lia,λl3 y3 H6 zP o9 zf s6=>?_];have Dg:=zf.length;rw[lL,ba,iz]at Dg;erw[l3,Z,#[_,aF.of o9],λD2 H7 n7=>?_];have nE:cA (jX rate ds os i)=true:=by rw[vF eo];erw[eF.mpr λd hd=>by let(k,_,rfl):=cI.mp hd;erw[VZ _ _]]
    have lE:(jX rate ds os i).length=aG ns:=by rw[vF eo,ba,iz]
    erw[vM (K:=K) (ds:=jX rate ds os i) _ (aF.of o9) n7 (by rw[lE,Dg]) ao nE ?_ ?_]
    ·intro q x dd H8 Q' ex AF s8 hq
     have qB:q<aG ns:=by have:=(cJ.mp ex).1;lia
     let(d3,e3,r3):=zf.get' q ex;rw[lL,bP,mS qB]at e3;cases e3;rw[vF eo,bP,mS qB]at AF;cases AF;erw[_,Z,_,Z,cy Z,λt H9 n9=>?_];erw[hq _ _ n9.same (fO (aW.of n9.at') (cE (bJ _) (cE (RD.mono (s8.trans n9.same) _ r3) (cE (Et.go ((s6.trans s8).trans n9.same)).rd cX))))]
    ·intro H8 z8 s8 d8 r8
     have kN:=s4.trans (s6.trans s8);have AG:=kN _ _ dz;have l8:=r8.length;erw[D,D2,zs,z8,Z,Z,AG,d8,ao,?_];have tu:fm H8 (_L.upd H8 D (.lst (zs++z8))):=.iX AG;erw[λb o e=>?_,_,_,_,cg,?_,Z]
     ·rw[aY (eJ e nD)];erw[kN b o (s3 b o e)]
     ·exact(aK.t tu _ tn (aK.mono kN _ rz)).append (aK.t tu _ nE r8)
  ·rintro O H3 ⟨s3,zs,v1,v2,dz,rz,rfl⟩
   rw[lx,ll]at rz;erw[_,Z,k D zs H3 nD dz rz s3]
theorem a9y(n:Nat)(v:V):(List.replicate n [v]).flatten=List.replicate n v:=by induction n with |zero=>rfl |succ n ih=>rw[ua,ET,ih,ua];rfl
theorem RY{H:Hp}{v:V}{q:Rat}(h:bM K H v q):∀n,aK K H (List.replicate n v) ((List.replicate n q).map cQ) |0=>cX |n+1=>by rw[ua,ua,rA];erw[cE h.rd (RY h n)]
inductive aeE(K:aa)(vs:List V)(H:Hp)(Q:VK):Prop |mk (m:_)(iv:_)(rate:_)(rs:_)(r:_)(f:_)(j:_)(t:_)(ds:_)(os:_)(h0:vs=[m,iv,.int rate])(h1:RD K H m (fJ rs r f j t))(h2:gG rs r f j t)(h3:RD K H iv (.tuple ds))(h4:cW rs.length ds os)(h5:ds.length<=30)(h6:10<=rate)(h7:rate<=200)(h8:∀l ys H',H l=none->H' l=some (.lst ys)->aK K H' ys ((kZ j rate os os.length++[ownF j rate os os.length]).map cQ)->aH H H'->Q (.ref l) H')
def OT(K:aa):Sp:=λvs H Q _=>aeE K vs H Q
theorem QM:bo ["machine","items","rate","own","bounds","i","item"] ["machine","items","rate"] (aU Io):=bp aJ
theorem a44(F:FA K mg "bounds_between" Io)(B:bI mg)(Ac:aA P w K mg aw "own_bounds" 8 (Cb K))(iD:aA P w K mg aw "is_line" 1 (mZ K))(oY:aA P w K mg aw "top_square" 4 (uu K))(jw:aA P w K mg aw "lead_of" 1 (mY K)):aA P w K mg aw "bounds_between" 9 (OT K):=by
 erw[F.has QM (λvs H Q E h=>?_) (λ_ _ _ _ _ _=>iE λ_ _ _=>rfl) (λfa aL A outer s H vs Q E hr h=>?_)]
 ·let(m,iv,rate,rs,r,f,j,t,ds,os,rfl,_):=h
  rfl
 ·let(m,iv,rate,rs,r,f,j,t,ds,os,rfl,rm,aD,ri,row,hz,cj,cm,k):=h
  have nd:=QM.nd;erw[_,(aB (pS 3 nd (pf Ac hr (ak (pv 0) (ak (pv 1) (ak (pv 2) ay))))) (aB (pS 4 nd (dw ay)) (aB (iB gj Z (zu K Z false Z (B.at "enumerate") (ak (pv 1) ay)) (eg K rfl (n:=2) rfl (bV (aV 5 nd) (bV (aV 6 nd) e9))) (aB (gb (jr K Z (pv 4) (ak (px K (pv 3) (pv 5)) ay))) (aI (bL (cw (pf iD hr (ak (pv 6) ay))) (aI (gb (zx K Z (pv 4) (ak (aP a2h (dw (ak (pf oY hr (ak (pv 6) (ak (pv 2) ay))) ay)) (aP j9 (pf jw hr (ak (pv 6) ay)) aE)) ay)))) bQ)))) (aI (aQ (aP (xY K Z) (pv 4) (dw (ak (px K (pv 3) (jN jH aE)) ay)))))))),?_];have ll:=row.len;have lr:=aD.len;have jg:sizeLine=16777216:=by decide
  erw[_,Z,_,Z,_,Z,m,iv,rate,rs,r,f,j,t,ds,os,Z,rm,aD,ri,row,ao,cj,cm,λl1 y1 H1 xy vJ sf s1=>?_];have Dh:=sf.length;rw[ba,ownL,ba,iz]at Dh;have own:∀(c:Nat)(u:V)(H':Hp),c<=os.length->y1[c]? =some u->aH H1 H'->bM K H' u (ownF j rate os c):=by intro c u H' hc e t';let(d1,e1,r1):=sf.get' c e;rw[bP,ownL,bP,mS ao]at e1;cases e1;exact(jK r1).go t'
  erw[cy Z,λD H2 n2=>?_];have nD:H D=none:=by cases e:H D with |none=>rfl |some o=>have:=s1 _ _ e;rw[n2.no]at this;cases this
  let(ia,xs,rfl,hi,eM):=ri.cv;have lx:=eM.length;have nob:∀i,cA ((kZ j rate os i).map cQ)=true:=λi=>qj _;erw[_,Z,ia,Z,#[_,hi.go (s1.trans n2.same)],Ax (K:=K) (b:=false) (a:=ia) (xs:=xs) (λi O H3=>aH H1 H3/\∃zs v1 v2,H3 D=some (.lst zs)/\aK K H3 zs ((kZ j rate os i).map cQ)/\O=[some m,some (.ref ia),some (.int rate),some (.ref l1),some (.ref D),v1,v2]) #[n2.same,[],none,none,n2.at',cX,Z] (λi O H3 _ h=>hi.go (s1.trans h.1)) ?_ ?_]
  ·rintro i y O H3 hy ⟨s3,zs,v1,v2,dz,rz,rfl⟩ T H4 n4
   erw[iG ?_];intro E2;have sW:i<xs.length:=(cJ.mp hy).1;let(d,ed,rd):=eM.get' i hy;let(o,eo,it):=row.get ed;have fM:=s3.trans n4.same;have s4:=s1.trans fM;have mM:=n4.same _ _ dz;have Ct:=aK.mono n4.same _ rz;have zk:=RD.mono s4 _ rd;have lz:=rz.length;rw[ba,qT row i ao]at lz;have tl:=(AI (rate:=rate) row i ao).1;obtain⟨z0,jz⟩:∃z,y1[i]? =some z:=#[_,bN (show i<y1.length by lia)];have R0:=own i z0 H4 ao jz fM;have lW:=fM _ _ vJ;erw[T,_,Z,aW.of n4.at',Z,_,_,Z,_,_,Z,Z,?_];erw[_,Z,.inl #[Z,_,aF.of mM],?_];erw[_,Z,_,Z,.inl #[l1,_,_,z0,Z,Z,aF.of lW,cx ao (by simpa using jz),?_]];erw[D,zs,z0,Z,Z,mM,ao,?_];have t5:fm H4 (_L.upd H4 D (.lst (zs++[z0]))):=.iX mM;have ng:aH H1 (_L.upd H4 D (.lst (zs++[z0]))):=λb o e=>by rw[aY (eJ e n2.no)];erw[fM b o e]
   have d5:(_L.upd H4 D (.lst (zs++[z0]))) D=some (.lst (zs++[z0])):=cg;have r5:aK K (_L.upd H4 D (.lst (zs++[z0]))) (zs++[z0]) ((kZ j rate os i++[ownF j rate os i]).map cQ):=by rw[gJ];erw[aK.wN mM Ct R0.rd (nob i) (qd _)]
   generalize _L.upd H4 D (.lst (zs++[z0]))=H5 at t5 ng d5 r5⊢;have s5:=s1.trans ng;have J0:=RD.mono s5 _ rd;erw[_,Z,y,d,o,Z,J0,it,_,Z,?_];cases o with |none=>erw[aR #[ng,_,_,_,d5,?_,Z]];show aK K H5 _ ((kZ j rate os i++lY j rate os i).map cQ);rw[Ei eo];erw[r5] |some q=>
    let(ns,sp):=q;erw[bR ?_];have dG:=iQ it;subst dG;let(bZ,cP,dX):=row.ok i ns sp eo;have mz:=qv bZ;have mG:=bZ.lead;erw[_,Z,.inl #[Z,_,aF.of d5],?_];erw[_,Z,_,Z,y,ns,sp,rate,Z,J0,cP,dX,cj,cm,λtv H6 Rt6 s6=>?_];erw[cy Z,λlt H7 n7=>?_];erw[_,Z,y,ns,sp,Z,RD.mono (s6.trans n7.same) _ J0,bZ.ne,by rw[bZ.len];lia,λH8 s8=>?_];have d7:=s8 _ _ n7.at';have ek:((aG ns:Int)-1).toNat=aG ns-1:=by lia
    erw[_,_,Z,Z,lt,_,_,Z,Z,d7,ao,ao,by rw[ek];show 1*_<=_;lia,λlp nlp=>?_];rw[ek,a9y];have n9:Nw H8 (_L.upd H8 lp (.lst (List.replicate (aG ns-1) tv))) lp (.lst (List.replicate (aG ns-1) tv)):=.of nlp;generalize _L.upd H8 lp (.lst (List.replicate (aG ns-1) tv))=H9 at n9⊢;have IA:=s6.trans (n7.same.trans (s8.trans n9.same));have d9:=IA _ _ d5;erw[D,lp,_,_,Z,Z,d9,n9.at',by rw[cD,List.length_replicate];show _+1+_<=_;lia,?_];have t9:fm H9 (_L.upd H9 D (.lst (zs++[z0]++List.replicate (aG ns-1) tv))):=.iX d9;erw[λb o e=>?_,_,_,_,cg,?_,Z]
    ·rw[aY (eJ e n2.no)];erw[IA b o (ng b o e)]
    ·show aK K _ _ ((kZ j rate os i++lY j rate os i).map cQ)
     have eb:kZ j rate os i++lY j rate os i=(kZ j rate os i++[ownF j rate os i])++List.replicate (aG ns-1) (topR rate sp):=by rw[AS eo];simp
     rw[eb,gJ];exact(aK.t t9 _ (qj _) (aK.mono IA _ r5)).append (aK.t t9 _ (qj _) (RY (Rt6.go (n7.same.trans (s8.trans n9.same))) _))
  ·rintro O H3 ⟨s3,zs,v1,v2,dz,rz,rfl⟩
   rw[lx,ll]at rz;have lz:=rz.length;rw[ba,qT row _ (bf _)]at lz;have tl:=(AI (rate:=rate) row _ (bf _)).1;obtain⟨z0,jz⟩:∃z,y1[os.length]? =some z:=#[_,bN (show os.length<y1.length by lia)];have R0:=own _ z0 H3 (bf _) jz s3;erw[_,Z,_,Z,1,Z,.inl #[l1,_,-1,z0,Z,Z,aF.of (s3 _ _ vJ),AX (by rw[N7,Dh];erw[jz]),?_]];erw[cy Z,λl5 H4 n4=>?_];erw[D,l5,_,_,Z,Z,aF.of (n4.same _ _ dz),aF.of n4.at',by show _+1<=_;lia,λl6 H5 n5=>?_];have nl6:H l6=none:=by cases e:H l6 with |none=>rfl |some o=>have:=n4.same _ _ (s3 _ _ (s1 _ _ e));rw[n5.no]at this;cases this
   have IC:=n4.same.trans n5.same;erw[k l6 _ H5 nl6 n5.at' ?_ (s1.trans (s3.trans IC))];rw[gJ];exact(aK.mono IC _ rz).append (cE (R0.go IC).rd cX)
end
section
def uJ(sq:Nat->Option Rat):Nat->Option Rat |0=>none |k+1=>sq k
def oa(j rate:Int)(os:List Itm):List Rat:=kZ j rate os os.length++[ownF j rate os os.length]
def afy(ti:Int)(du e:ah):Option Rat->Prop |none=>e=du/\qW e |some q=>∃zs top,du=vG zs top/\e=mV ti zs q/\q<=top/\0<q/\Bd 1900 q/\Bd 2000 top/\zs.length<=1000
structure X9(r f j ti rate:Int)(ds:List ah)(os:List Itm)(es:List ah)(sq:Nat->Option Rat):Prop where
 len:es.length=(ij rate ds os os.length).length
 ent:∀k e du,es[k]? =some e->(ij rate ds os os.length)[k]? =some du->afy ti du e (sq k)
 abf:sq es.length=none
 meet:∀k b,(oa j rate os)[k]? =some b->D6 r f b (uJ sq k) (sq k)=true
theorem NC{ti:Int}{q:Rat}(h0:1<=ti):∀n:Nat,1<=n->gF ti q (n:Int)=true->∃T:Int,T<=n/\yc ti q T |0,h,_=>by lia |n+1,_,h=>by cases e:gF ti q (n:Int)with |false=>erw[((n+1:Nat):Int),df _,ao,h,by rw[Int.natCast_add,Int.natCast_one,Int.add_sub_cancel];erw[e]] |true=>
 by_cases hn:1<=n
 ·let(T,h1,h2):=NC h0 n hn e
  erw[T,ao,h2]
 ·have hn:n=0:=by lia
  subst hn;have e:=m4 e;have hp:0<ti*ti*(q.den:Int):=jk (jk ao ao) (by have:=q.den_pos;lia);simp at e
  lia
theorem YH{ti:Int}{q:Rat}(h1:1<=ti)(h2:ti<=100)(q0:0<q)(bq:Bd 2000 q):1<=m8 ti q/\(m8 ti q).natAbs<2^2400/\gF ti q (m8 ti q)=true/\gF ti q (m8 ti q-1)=false:=by
 have hn:=JD q0;have hd:=q.den_pos;have e:gF ti q ((ti.toNat*q.den:Nat):Int)=true:=by
  erw[cu ?_];have et:((ti.toNat*q.den:Nat):Int)=ti*(q.den:Int):=by rw[Int.natCast_mul,Int.toNat_of_nonneg ao]
  rw[et];have p1:0<=ti*ti*(q.den:Int):=gU (gU ao ao) ao;have:ti*(q.den:Int)*(ti*(q.den:Int))*q.num=(ti*ti*(q.den:Int))*((q.den:Int)*q.num):=by simp only[Nd,Nc,ud]
  rw[this];have p2:1<=(q.den:Int)*q.num:=by
   have:0<(q.den:Int)*q.num:=jk ao hn
   lia
  have:=EW p2 p1;rw[yC]at this;erw[this]
 let(T,hT,tc):=NC h1 (ti.toNat*q.den) (Nat.mul_pos ao hd) e;have eT:=Nu (EX hn) tc;rw[eT];erw[tc.1,?_,tc.2.1,tc.2.2];have b1:ti.toNat*q.den<128*2^2000:=Nat.mul_lt_mul_of_lt_of_le ao (N0 bq.den) (Nat.two_pow_pos _);have b2:128*2^2000<=2^2400:=by rw[show 128=2^7 from Z,<-Nat.pow_add];erw[wm az az]
 have:=tc.1
 lia
inductive ae7(K:aa)(vs:List V)(H:Hp)(Q:VK):Prop |mk (m:_)(iv:_)(rate:_)(tv:_)(rs:_)(r:_)(f:_)(j:_)(t:_)(ds:_)(os:_)(es:_)(sq:_)(h0:vs=[m,iv,.int rate,tv])(h1:RD K H m (fJ rs r f j t))(h2:gG rs r f j t)(h3:RD K H iv (.tuple ds))(h4:cW rs.length ds os)(h5:ds.length<=30)(h6:10<=rate)(h7:rate<=200)(h8:RD K H tv (.list es))(h9:X9 r f j t rate ds os es sq)(vq:∀H',aH H H'->Q .bw H')
def OE(K:aa):Sp:=λvs H Q _=>ae7 K vs H Q
theorem acw{rs:List Int}{r f j t rate:Int}{ds:List ah}{os:List Itm}(aD:gG rs r f j t)(row:cW rs.length ds os)(cj:10<=rate)(cm:rate<=200):∀b∈oa j rate os,Bd 1900 b:=by
 have hB:=_O.zB aD.j1.1 aD.j1.2 cj cm row.lM;have key:∀i,i<=os.length->∀b∈kZ j rate os i,Bd 1900 b:=by intro i;induction i with |zero=>intro _ b hb;exact(iu hb).elim |succ i ih=>
  intro hi b hb;rcases iy.mp hb with h1|h1
  ·erw[ih ao b h1]
  ·obtain⟨o,eo⟩:∃o,os[i]? =some o:=#[_,bN (show i<os.length by lia)]
   cases o with |none=>rw[Ei eo,dN]at h1;rw[h1];exact(hB i).mono az |some q=>
    let(ns,sp):=q;let(bZ,cP,dX):=row.ok i ns sp eo;rw[AS eo]at h1;rcases cO.mp h1 with h1|h1
    ·rw[h1];exact(hB i).mono az
    ·rw[(List.mem_replicate.mp h1).2];exact(_O.pR cP dX cj cm).mono az
 intro b hb;rcases iy.mp hb with h1|h1
 ·erw[key _ (bf _) b h1]
 ·rw[dN.mp h1];exact(hB _).mono az
theorem Qb:bo ["machine","items","rate","thing","due","bounds","ended","at","expected","why","begun"] ["machine","items","rate","thing"] (aU Ha):=bp aJ
theorem a3u(F:FA K mg "look" Ha)(B:bI mg)(a7V:aA P w K mg aw "due_entries" 5 (OP K))(a8b:aA P w K mg aw "bounds_between" 9 (OT K))(a7Q:aA P w K mg aw "fault_of_entry" 5 (OM K))(a6S:aA P w K mg aw "square_of" 1 (Om K))(V4:aA P w K mg aw "can_meet" 5 (OQ K)):aA P w K mg aw "look" 10 (OE K):=by
 erw[F.has Qb (λvs H Q E h=>?_) (λ_ _ _ _ _ _=>yb λ_ _ _ _=>rfl) (λfa aL A outer s H vs Q E hr h=>?_)]
 ·let(m,iv,rate,tv,rs,r,f,j,t,ds,os,es,sq,rfl,_):=h
  rfl
 ·let(m,iv,rate,tv,rs,r,f,j,t,ds,os,es,sq,rfl,rm,aD,ri,row,hz,cj,cm,rt,tp,k):=h
  have nd:=Qb.nd;erw[_,(aB (bL (cT (cw (mi K B (ak (pv 3) (ak (mh (x:="list") (v:=.ty "list") Z (B.at "list") EK rfl) ay))))) (aI ku) bQ) (aB (pS 4 nd (pf a7V hr (ak (pv 1) (ak (pv 2) ay)))) (aB (pS 5 nd (pf a8b hr (ak (pv 0) (ak (pv 1) (ak (pv 2) ay))))) (aB (pS 6 nd gX) (aB (iB gj Z (zu K Z true Z (B.at "enumerate") (ak (pv 4) ay)) (eg K rfl (n:=2) rfl (bV (aV 7 nd) (bV (aV 8 nd) e9))) (aB (bL (cf (dU K Z hr.units) (pv 7) (fU K B (ak (pv 3) ay)) (bS _)) (aI ku) bQ) (aB (pS 9 nd (pf a7Q hr (ak (pv 0) (ak (pv 8) (ak (px K (pv 3) (pv 7)) ay))))) (aB (bL (cf xi (pv 9) gX (bS _)) (aI ku) bQ) (aB (pS 10 nd (pf a6S hr (ak (px K (pv 3) (pv 7)) ay))) (aB (bL (cT (cw (pf V4 hr (ak (pv 0) (ak (px K (pv 5) (pv 7)) (ak (pv 6) (ak (pv 10) ay))))))) (aI ku) bQ) (aI (pS 6 nd (pv 10))))))))) (aB (bL (cf CL (fU K B (ak (pv 3) ay)) (fU K B (ak (pv 4) ay)) (bS _)) (aI ku) bQ) (aI (bL (cT (cw (pf V4 hr (ak (pv 0) (ak (px K (pv 5) (jN jH aE)) (ak (pv 6) (ak gX ay))))))) (aI ku) bQ)))))))),?_];have ll:=row.len;have lr:=aD.len;have bdb:=acw aD row cj cm;erw[_,Z,.inl #[_,_,"list",true,Z,rt.ty,az,(by decide:jl "list" "list"=true),_,Z,aR ?_]];erw[_,Z,_,Z,iv,rate,rs.length,ds,os,Z,ri,row,ao,hz,cj,cm,λlD yD H1 nD dD rD s1=>?_];erw[_,Z,_,Z,_,Z,m,iv,rate,rs,r,f,j,t,ds,os,Z,RD.mono s1 _ rm,aD,RD.mono s1 _ ri,row,hz,cj,cm,λlB yB H2 nB dB rB s2=>?_];have fN:=s1.trans s2;let(ta,xt,rfl,ht,sL):=rt.lst_inv;have lxt:=sL.length;have lyD:=rD.length;have Df:=rB.length;have Ka:(oa j rate os).length=(ij rate ds os os.length).length+1:=by unfold oa;rw[cD,qT row _ (bf _)];rfl
  rw[ba]at Df;have Df:yB.length=(ij rate ds os os.length).length+1:=by rw[Df];erw[Ka]
  have dl:=(AI (rate:=rate) row _ (bf _)).1;have te:=tp.len;have bv:∀(c:Nat)(u:V)(H':Hp),yB[c]? =some u->aH H2 H'->∃b,(oa j rate os)[c]? =some b/\bM K H' u b/\Bd 1900 b:=by intro c u H' e sm;let(d1,e1,r1):=rB.get' c e;rw[bP]at e1;let(b,eb,rfl):=u7.mp e1;erw[b,eb,(jK r1).go sm,bdb b (fR eb)]
  have obd:∀c,c<es.length->Eu 1900 (sq c):=λc hc=>by obtain⟨e,ee⟩:∃e,es[c]? =some e:=#[_,bN hc];obtain⟨du,ed⟩:∃d,(ij rate ds os os.length)[c]? =some d:=#[_,bN ao];have:=tp.ent c e du ee ed;cases hs:sq c with |none=>trivial |some q=>rw[hs]at this;let(_,_,_,_,_,_,b,_):=this;erw[b]
  have Jn:∀c,c<=es.length->Eu 1900 (uJ sq c):=λc hc=>by cases c with |zero=>trivial |succ c=>erw[obd c ao]
  erw[_,Z,lD,Z,#[_,aF.of (s2 _ _ dD)],Ax (K:=K) (b:=true) (a:=lD) (xs:=yD) (λi O H3=>aH H2 H3/\∃ev v1 v2 v3 v4,tT K H3 ev (uJ sq i)/\O=[some m,some iv,some (.int rate),some (.ref ta),some (.ref lD),some (.ref lB),some ev,v1,v2,v3,v4]) #[aH.refl _,.bw,none,none,none,none,Z,Z] (λi O H3 _ h=>aF.of (h.1 _ _ (s2 _ _ dD))) ?_ ?_]
  ·rintro i y O H3 hy ⟨s3,ev,v1,v2,v3,v4,oe,rfl⟩ T H4 n4
   erw[iG ?_];intro E1;have hiy:i<yD.length:=(cJ.mp hy).1;let(du,xR,RX):=rD.get' i hy;have hie:i<es.length:=by lia
   obtain⟨e,ee⟩:∃e,es[i]? =some e:=#[_,bN hie];let(x,ex,rx):=sL.get i ee;have lK:=s3.trans n4.same;have uC:=fN.trans lK;have ent:=tp.ent i e du ee xR;have AW:∀{α:Type}{l:List α}{u:α},l[i]? =some u->fc l (i:Int)=some u:=λh=>cx ao (by simpa using h);obtain⟨ub,vy⟩:∃u,yB[i]? =some u:=#[_,bN ao];erw[T,_,Z,aW.of n4.at',Z,_,_,Z,_,_,Z,Z,?_];erw[_,Z,_,Z,ta,_,Z,.inl (ht.go uC),.inl #[_,_,Z,Z,_,Z,?_]];rw[dM (show¬((i:Int)=(xt.length:Int)) by lia)];erw[aR ?_];erw[_,Z,_,Z,_,Z,_,Z,.inl #[ta,_,_,x,Z,Z,ht.go uC,AW ex,m,y,x,rs,r,f,j,t,Z,RD.mono uC _ rm,aD,?_]];cases hs:sq i with |none=>rw[hs]at ent;let(rfl,fH):=ent;erw[.inl #[_,RD.mono (s2.trans lK) _ RX,RD.mono uC _ rx,fH,λH5 s5=>?_]];erw[_,Z,Z,_,Z,aR ?_];have uB:=uC.trans s5;erw[_,Z,_,Z,.inl #[ta,_,_,x,Z,Z,ht.go uB,AW ex,x,Z,.inl #[_,RD.mono uB _ rx,fH,?_]]];let(b,eb,Rb,bb):=bv i ub H5 vy (lK.trans s5);have mt:=tp.meet i b eb;rw[hs]at mt;erw[_,Z,_,Z,_,Z,.inl #[lB,_,_,ub,Z,Z,aF.of ((lK.trans s5) _ _ dB),AW vy,_,Z,_,Z,m,ub,ev,.bw,rs,r,f,j,t,b,uJ sq i,none,Z,RD.mono uB _ rm,aD,Rb,bb,oe.go (n4.same.trans s5),Jn i ao,Z,trivial,λH6 s6=>?_]];rw[mt];erw[_,Z,aR #[_,Z,(lK.trans s5).trans s6,.bw,_,_,_,_,by show tT K H6 .bw (sq i);rw[hs];rfl,Z]] |some q=>rw[hs]at ent;let(zs,top,rfl,rfl,qt,q0,bq,bt,lz):=ent;let(k1,k2,k3,k4):=YH (ti:=t) aD.t1.1 aD.t1.2 q0 (bq.mono az);erw[.inr #[zs,top,m8 t q,q,RD.mono (s2.trans lK) _ RX,RD.mono uC _ rx,lz,bt,bq.mono az,q0,k1,k2,k3,k4,λH5 s5=>?_]];rw[bj (EI.mpr qt)];erw[_,Z,Z,_,Z,aR ?_];have uB:=uC.trans s5;erw[_,Z,_,Z,.inl #[ta,_,_,x,Z,Z,ht.go uB,AW ex,x,Z,.inr #[zs,_,q,RD.mono uB _ rx,λgv Rg=>?_]]];let(b,eb,Rb,bb):=bv i ub H5 vy (lK.trans s5);have mt:=tp.meet i b eb;rw[hs]at mt;erw[_,Z,_,Z,_,Z,.inl #[lB,_,_,ub,Z,Z,aF.of ((lK.trans s5) _ _ dB),AW vy,_,Z,_,Z,m,ub,ev,gv,rs,r,f,j,t,b,uJ sq i,some q,Z,RD.mono uB _ rm,aD,Rb,bb,oe.go (n4.same.trans s5),Jn i ao,Rg,bq,λH6 s6=>?_]];rw[mt];erw[_,Z,aR #[_,Z,(lK.trans s5).trans s6,gv,_,_,_,_,by show tT K H6 gv (sq i);rw[hs];erw[bM.go Rg s6],Z]]
  ·rintro O H3 ⟨s3,ev,v1,v2,v3,v4,oe,rfl⟩
   have ID:=fN.trans s3;have d3:=s3 _ _ (s2 _ _ dD);erw[_,Z,ta,_,Z,.inl (ht.go ID),_,Z,lD,_,Z,.inl (aF.of d3),_,_,Z,Z,_,Z,?_];rw[dM (show¬((xt.length:Int)>(yD.length:Int)) by lia)];erw[aR ?_];obtain⟨ub,vy⟩:∃u,yB[yD.length]? =some u:=#[_,bN ao];let(b,eb,Rb,bb):=bv _ ub H3 vy s3;have mt:=tp.meet _ b eb;have e1:yD.length=es.length:=by lia
   rw[e1,tp.abf]at mt;erw[_,Z,_,Z,1,Z,.inl #[lB,_,-1,ub,Z,Z,aF.of (s3 _ _ dB),AX (by rw[N7,Df,<-lyD];erw[vy]),_,Z,m,ub,ev,.bw,rs,r,f,j,t,b,uJ sq es.length,none,Z,RD.mono ID _ rm,aD,Rb,bb,by rw[<-e1];erw[oe],Jn _ (bf _),Z,trivial,λH4 s4=>?_]];rw[mt];erw[_,Z,aR (k H4 (ID.trans s4))]
end
section
theorem tL{r f j ti rate:Int}{ds:List ah}{os:List Itm}{i:Nat}{ns:List Int}{sp:Int}(h:os[i]? =some (some (ns,sp))):fQ r f j ti rate ds os i=jb r f ti ns (topR rate sp) (cF r f j rate os i) (cF r f j rate os (i+1)):=by unfold fQ;rw[h]
theorem xP{r f j ti rate:Int}{ds:List ah}{os:List Itm}{i:Nat}{d:ah}(h:os[i]? =some none)(hd:ds[i]? =some d):fQ r f j ti rate ds os i=[d]:=by unfold fQ;rw[h,N8,hd];rfl
theorem Fb{n:Nat}{r f j ti rate:Int}{ds:List ah}{os:List Itm}(row:cW n ds os):∀i,i<=os.length->cA (fA r f j ti rate ds os i)=true
 |0,_=>rfl |i+1,h=>by
  have ll:=row.len;erw[eF.mpr λd hd=>?_];rcases iy.mp hd with h1|h1
  ·erw[eF.mp (Fb row i ao) d h1]
  ·obtain⟨o,eo⟩:∃o,os[i]? =some o:=#[_,bN (show i<os.length by lia)]
   cases o with |none=>obtain⟨d',ed⟩:∃d',ds[i]? =some d':=#[_,bN (show i<ds.length by lia)];rw[xP eo ed,dN]at h1;subst h1;erw[eF.mp row.no _ (fR ed)] |some q=>let(ns,sp):=q;rw[tL eo]at h1;erw[eF.mp (K5 _ _ _ _ _ _ _) d h1]
theorem ND{n:Nat}{r f j ti rate:Int}{ds:List ah}{os:List Itm}(row:cW n ds os):∀i,i<=os.length->(fA r f j ti rate ds os i).length<=100*i |0,_=>bf _ |i+1,h=>by have ll:=row.len;have ih:=ND (r:=r) (f:=f) (j:=j) (ti:=ti) (rate:=rate) row i ao;show(fA r f j ti rate ds os i++fQ r f j ti rate ds os i).length<=_;rw[cD];obtain⟨o,eo⟩:∃o,os[i]? =some o:=#[_,bN (show i<os.length by lia)];cases o with
 |none=>
  obtain⟨d',ed⟩:∃d',ds[i]? =some d':=#[_,bN (show i<ds.length by lia)];rw[xP eo ed];show _+1<=_
  lia |some q=>
  let(ns,sp):=q;let(bZ,_,_):=row.ok i ns sp eo;have:=qv bZ;rw[tL eo,jb,ba,iz]
  lia
inductive ads(K:aa)(vs:List V)(H:Hp)(Q:VK):Prop |mk (m:_)(iv:_)(rate:_)(rs:_)(r:_)(f:_)(j:_)(t:_)(ds:_)(os:_)(h0:vs=[m,iv,.int rate])(h1:RD K H m (fJ rs r f j t))(h2:gG rs r f j t)(h3:RD K H iv (.tuple ds))(h4:cW rs.length ds os)(h5:ds.length<=30)(h6:10<=rate)(h7:rate<=200)(h8:∀l ys H',H l=none->H' l=some (.lst ys)->aK K H' ys (fA r f j t rate ds os os.length)->aH H H'->Q (.ref l) H')
def FC(K:aa):Sp:=λvs H Q _=>ads K vs H Q
theorem xh{rs:List Int}{r f j t rate:Int}{ds:List ah}{os:List Itm}(aD:gG rs r f j t)(row:cW rs.length ds os)(hz:ds.length<=30)(cj:10<=rate)(cm:rate<=200):∀i,i<=os.length->Bd 1700 (cF r f j rate os i):=λi hi=>by have ll:=row.len;have hB:=_O.zB aD.j1.1 aD.j1.2 cj cm row.lM;have hL:∀i m,leadF os i=some m->(2*r*(m:Int)).natAbs<2^24:=λi m e=>wF aD.r1.1 aD.r1.2 (xF row.lM e);have Ao:∀i m,leadF os i=some m->(2*f*(m:Int)).natAbs<2^24:=λi m e=>wF aD.f1.1 aD.f1.2 (xF row.lM e);exact(Ll (b:=900) (λi hi=>(Es hB hL i).mono ao) Ao i hi).mono ao
theorem Pg:bo ["machine","items","rate","plan","tape","i","item","squares"] ["machine","items","rate"] (aU G4):=bp aJ
theorem a2F(F:FA K mg "tape_of" G4)(B:bI mg)(Aa:aA P w K mg aw "plan_of" 9 (yT K))(iD:aA P w K mg aw "is_line" 1 (mZ K))(a7g:aA P w K mg aw "middles" 5 (FI K))(A6:aA P w K mg aw "step_rows" 3 (yS K))(Kr:aA P w K mg aw "step_entry" 3 (Cg K)):aA P w K mg aw "tape_of" 10 (FC K):=by
 erw[F.has Pg (λvs H Q E h=>?_) (λ_ _ _ _ _ _=>iE λ_ _ _=>rfl) (λfa aL A outer s H vs Q E hr h=>?_)]
 ·let(m,iv,rate,rs,r,f,j,t,ds,os,rfl,_):=h
  rfl
 ·let(m,iv,rate,rs,r,f,j,t,ds,os,rfl,rm,aD,ri,row,hz,cj,cm,k):=h
  have nd:=Pg.nd;erw[_,(aB (pS 3 nd (pf Aa hr (ak (pv 0) (ak (pv 1) (ak (pv 2) ay))))) (aB (pS 4 nd (dw ay)) (aB (iB gj Z (zu K Z false Z (B.at "enumerate") (ak (pv 1) ay)) (eg K rfl (n:=2) rfl (bV (aV 5 nd) (bV (aV 6 nd) e9))) (aI (bL (cw (pf iD hr (ak (pv 6) ay))) (aB (pS 7 nd (pf a7g hr (ak (pv 0) (ak (pv 6) (ak (px K (pv 3) (pv 5)) (ak (px K (pv 3) (aP eu (pv 5) aE)) (ak (pv 2) ay))))))) (aI (gb (zx K Z (pv 4) (ak (eU (N:=["row","square","machine"]) (js:=[none,none,some 0]) Z Z Z (oK K Z true true Z (B.at "zip") (ak (pf A6 hr (ak (pv 6) ay)) (ak (pv 7) ay))) (λ_ _ _ _ _=>(eg K rfl (n:=2) rfl (bV (aV 0 (show List.Nodup (["row","square","machine"]:List Str) by decide+kernel)) (bV (aV 1 (show List.Nodup (["row","square","machine"]:List Str) by decide+kernel)) e9)))) (λ_ _ _ _ _=>dZ) (λ_ _ _ _ _=>(pf Kr hr (ak (pv 2) (ak (pv 0) (ak (pv 1) ay)))))) ay))))) (aI (gb (jr K Z (pv 4) (ak (pv 6) ay))))))) (aI (aQ (pv 4)))))),?_];have ll:=row.len;have lr:=aD.len;have iA:=aD.r1;have ie:=aD.f1;have PB:=xh aD row hz cj cm;have PN:∀i,i<=os.length->0<=cF r f j rate os i:=Cz aO aO (λi _=>_O.zA j rate os i);erw[_,Z,_,Z,_,Z,m,iv,rate,rs,r,f,j,t,ds,os,Z,rm,aD,ri,row,hz,cj,cm,λl1 y1 H1 xy vJ sf s1=>?_];have Dh:=sf.length;rw[ba,a1E]at Dh;erw[cy Z,λD H2 n2=>?_];have nD:H D=none:=by cases e:H D with |none=>rfl |some o=>have:=s1 _ _ e;rw[n2.no]at this;cases this
  let(ia,xs,rfl,hi,eM):=ri.cv;have lx:=eM.length;erw[_,Z,ia,Z,#[_,hi.go (s1.trans n2.same)],Ax (K:=K) (b:=false) (a:=ia) (xs:=xs) (λi O H3=>aH H1 H3/\∃zs v1 v2 v3,H3 D=some (.lst zs)/\aK K H3 zs (fA r f j t rate ds os i)/\O=[some m,some (.ref ia),some (.int rate),some (.ref l1),some (.ref D),v1,v2,v3]) #[n2.same,[],none,none,none,n2.at',cX,Z] (λi O H3 _ h=>hi.go (s1.trans h.1)) ?_ ?_]
  ·rintro i y O H3 hy ⟨s3,zs,v1,v2,v3,dz,rz,rfl⟩ T H4 n4
   erw[iG ?_];intro E1;have sW:i<xs.length:=(cJ.mp hy).1;let(d,ed,rd):=eM.get' i hy;let(o,eo,it):=row.get ed;have fM:=s3.trans n4.same;have s4:=s1.trans fM;have mM:=n4.same _ _ dz;have Ct:=aK.mono n4.same _ rz;have zk:=RD.mono s4 _ rd;have tn:=Fb (r:=r) (f:=f) (j:=j) (ti:=t) (rate:=rate) row i aO;have tl:=ND (r:=r) (f:=f) (j:=j) (ti:=t) (rate:=rate) row i aO;have lz:=rz.length;have jg:sizeLine=16777216:=by decide
   erw[T,_,Z,aW.of n4.at',Z,_,_,Z,_,_,Z,Z,?_];erw[_,Z,y,d,o,Z,zk,it,_,Z,?_];cases o with
   |none=>
    erw[aR ?_];erw[_,Z,.inl #[Z,_,aF.of mM],_,Z,D,zs,_,Z,Z,mM,aO,?_];erw[λb o e=>?_,_,_,_,_,cg,?_,Z]
    ·rw[aY (eJ e n2.no)];erw[fM b o e]
    ·show aK K _ _ (fA r f j t rate ds os i++fQ r f j t rate ds os i)
     rw[xP eo ed];erw[aK.wN mM Ct zk tn it.no] |some q=>
    let(ns,sp):=q;erw[bR ?_];have dG:=iQ it;subst dG;let(bZ,cP,dX):=row.ok i ns sp eo;have mz:=qv bZ;have lW:=fM _ _ vJ;have rl4:=aK.mono fM _ sf;obtain⟨z0,jz⟩:∃z,y1[i]? =some z:=#[_,bN (show i<y1.length by omega)];obtain⟨z1,o7⟩:∃z,y1[i+1]? =some z:=#[_,bN (show i+1<y1.length by omega)];have tN:((i:Int)+1).toNat=i+1:=by omega
    have vT:fc y1 (i:Int)=some z0:=cx aO (by simpa using jz);have vS:fc y1 ((i:Int)+1)=some z1:=cx aO (by rw[tN];erw[o7]);have rat:∀(c:Nat)(u:V),c<=os.length->y1[c]? =some u->bM K H4 u (cF r f j rate os c):=by intro c u hc e;let(d1,e1,r1):=rl4.get' c e;rw[bP]at e1;have e2:(kP r f j rate os)[c]? =some (cF r f j rate os c):=lO _ hc;rw[e2]at e1;cases e1;erw[jK r1]
    have R0:=rat i z0 aO jz;have R1:=rat (i+1) z1 aO o7;have P0:=PN i aO;have P1:=PN (i+1) aO;erw[_,Z,_,Z,_,Z,_,Z,.inl #[l1,_,_,_,Z,Z,aF.of lW,vT,?_]];erw[_,Z,_,Z,_,_,Z,Z,.inl #[l1,_,_,_,Z,Z,aF.of lW,vS,?_]];erw[_,Z,m,y,z0,z1,rate,rs,r,f,j,t,ns,sp,_,_,Z,RD.mono s4 _ rm,aD,zk,bZ,cP,dX,R0,R1,(PB i aO).mono az,(PB (i+1) aO).mono az,cj,cm,λl2 y2 H5 uS xU zh s5=>?_];have dz5:=s5 _ _ mM;erw[_,Z,.inl #[Z,_,aF.of dz5],?_];erw[_,Z,y,ns,sp,Z,RD.mono s5 _ zk,#[Z,λz hz=>by have:=bZ.bd z hz;omega,bZ.nz],by rw[bZ.len];omega,λl3 y3 H6 zP o9 zf s6=>?_];have W5:=s6 _ _ xU;have a0O:=aK.mono s6 _ zh;have TX:=zh.length;rw[ba,JS,ba,iz]at TX;have Dg:=zf.length;rw[lL,ba,iz]at Dg;erw[_,Z,l3,l2,Z,#[_,aF.of o9],#[_,aF.of W5],λD2 H7 n7=>?_];have wV:=s5.trans s6;erw[vL (K:=K) (b1:=true) (b2:=true) (xs:=y3) (ys:=y2) (ds:=jb r f t ns (topR rate sp) (cF r f j rate os i) (cF r f j rate os (i+1))) _ Z (aF.of o9) (aF.of W5) n7 (by rw[jb,ba,iz];omega) (by rw[jb,ba,iz];omega) (K5 _ _ _ _ _ _ _) ?_ ?_]
    ·intro q x y' dd H8 Q' ex ey AF s8 hq
     have qB:q<aG ns:=by have:=(cJ.mp ex).1;omega
     let(d3,e3,r3):=zf.get' q ex;let(d2,e2,r2):=a0O.get' q ey;rw[lL,bP,mS qB]at e3;cases e3;rw[JS,bP,bP,mS qB]at e2;cases e2;rw[jb,bP,mS qB]at AF;cases AF;have V7:=IV iA.1 iA.2 qB mz;have V6:=Lm ie.1 ie.2 qB mz;have bm:Bd 2000 (gP r f (aG ns) (topR rate sp) (cF r f j rate os i) (cF r f j rate os (i+1)) q):=qo (qo ((jZ (PB i aO) (by rw[jM];omega)).mono az) ((_O.pR cP dX cj cm).mono az)) ((jZ (PB (i+1) aO) (by rw[jM];omega)).mono az);erw[_,Z,_,Z,_,Z,m,x,y',rs,r,f,j,t,g9 ns q,_,Z,RD.mono (s4.trans (wV.trans s8)) _ rm,aD,RD.mono s8 _ r3,jK (RD.mono s8 _ r2),bm,Tv iA.1 ie.1 qB (BV cP cj) P0 P1,λv H9 rv s9=>hq v H9 s9 rv]
    ·intro H8 z8 s8 d8 r8
     have kN:=wV.trans s8;have AG:=kN _ _ mM;have l8:=r8.length;rw[jb,ba,iz]at l8;erw[D,D2,zs,z8,Z,Z,AG,d8,aO,?_];have tu:fm H8 (_L.upd H8 D (.lst (zs++z8))):=.iX AG;erw[λb o e=>?_,_,_,_,_,cg,?_,Z]
     ·rw[aY (eJ e n2.no)];erw[kN b o (fM b o e)]
     ·show aK K _ _ (fA r f j t rate ds os i++fQ r f j t rate ds os i)
      rw[tL eo];exact(aK.t tu _ tn (aK.mono kN _ Ct)).append (aK.t tu _ (K5 _ _ _ _ _ _ _) r8)
  ·rintro O H3 ⟨s3,zs,v1,v2,v3,dz,rz,rfl⟩
   have e:xs.length=os.length:=by omega
   rw[e]at rz;erw[_,Z,k D zs H3 nD dz rz (s1.trans s3)]
end
end _a
namespace _a
open PySem PySem.Spec PyProof.Rows _L _b _l _W
section
end
end _a
namespace _a
open PySem PySem.Spec PyProof.Rows _L _b _l _C _P
open _O (topR cornO mnO betR atO ownF leadF ownL OkI OkIs)
section
inductive adU(K:aa)(vs:List V)(H:Hp)(Q:VK):Prop |mk (m:_)(iv:_)(rate:_)(rs:_)(r:_)(f:_)(j:_)(t:_)(ds:_)(os:_)(h0:vs=[m,iv,.int rate])(h1:RD K H m (fJ rs r f j t))(h2:gG rs r f j t)(h3:RD K H iv (.list ds))(h4:cW rs.length ds os)(h5:ds.length<=100)(h6:10<=rate)(h7:rate<=200)(h8:∀l ys H',H l=none->H' l=some (.lst ys)->aK K H' ys ((ownL j rate os).map cQ)->aH H H'->Q (.ref l) H')
def OB(K:aa):Sp:=λvs H Q _=>adU K vs H Q
theorem a3i(F:FA K mg "own_bounds" Cq)(B:bI mg)(gN:GT K mg "NOUGHT" [.int 0,.int 1])(KN:aA P w K mg aw "bound_between" 7 (Cj K)):aA P w K mg aw "own_bounds" 8 (OB K):=by
 let(aN,jy,kL):=gN;erw[F.has Co (λvs H Q E h=>?_) (λ_ _ _ _ _ _=>iE λ_ _ _=>rfl) (λf aL A outer s H vs Q E hr h=>?_)]
 ·let(m,iv,rate,rs,r,f,j,t,ds,os,rfl,_):=h
  rfl
 ·let(m,iv,rate,rs,r,f,j,t,ds,os,rfl,rm,aD,ri,row,hz,cj,cm,k):=h
  have nd:=Co.nd;have rN:∀H',RD K H' (.ref aN) (cQ 0):=λH'=>(xq (kL H')).rd;erw[_,(aB (bL (cT (zm K Z (pv 1))) (aI (aQ (dw (ak (eD (x:="NOUGHT") Z jy) ay)))) bQ) (aB (Cy (i0:=3) nd Z (Or.inl Z) (N:=["one","other","machine","rate"]) (js:=[none,none,some 0,some 2]) Z Z Z (oK K Z true true Z (B.at "zip") (ak (pv 1) (ak (zv (yZ K rfl) (pv 1) (zp aE) zq) ay))) (λ_ _ _ _ _=>(eg K rfl (n:=2) rfl (bV (aV 0 (show List.Nodup (["one","other","machine","rate"]:List Str) by decide+kernel)) (bV (aV 1 (show List.Nodup (["one","other","machine","rate"]:List Str) by decide+kernel)) e9)))) (λ_ _ _ _ _=>dZ) (λ_ _ _ _ _=>(pf KN hr (ak (pv 2) (ak (pv 0) (ak (pv 1) (ak (pv 3) ay))))))) (aI (aQ (aP (xY K Z) (aP (xY K Z) (dw (ak (eD (x:="NOUGHT") Z jy) ay)) (pv 3)) (dw (ak (eD (x:="NOUGHT") Z jy) ay))))))),?_];let(ia,xs,rfl,hi,eM):=ri.lst_inv;have lx:=eM.length;have ll:=row.len;erw[_,Z,_,.inl #[_,hi,Z],?_];cases hd:xs with
  |nil=>
   subst hd;erw[bR ?_];erw[cy Z,λl H1 n1=>?_];erw[k l [.ref aN] H1 n1.no n1.at' ?_ n1.same];have e:os=[]:=by
    have:os.length=0:=by rw[<-ll,<-lx];rfl
    erw[N6.mp this]
   rw[e];erw[cE (rN H1) cX] |cons x0 xr=>
   erw[aR ?_];have cS:os≠[]:=by intro e;rw[e]at ll;rw[hd]at lx;simp at ll lx;rw[ll]at lx;cases lx
   have Km:0<xs.length:=by rw[hd];simp
   erw[_,Z,_,Z,1,Z,ia,xs,Z,.inl #[hi,λtl H1 n1=>?_]];erw[ia,tl,Z,#[_,hi.go n1.same],#[_,aF.of n1.at'],λD H2 n2=>?_];have et:=n1.at';rw[LY]at et;have zJ:∀(i:Nat)(o:Itm),os[i]? =some o->∀(ns:List Int)(sp:Int),o=some (ns,sp)->fu rs.length 100 ns/\1<=sp/\sp<=20:=λi o e ns sp e'=>row.ok i ns sp (by rw[e,e']);have lr:=aD.len;erw[vL (K:=K) (b1:=true) (b2:=true) (xs:=xs) (ys:=xs.drop 1) (ds:=((List.range (os.length-1)).map (λi=>ownF j rate os (i+1))).map cQ) _ Z (hi.go n1.same) (aF.of et) n2 (by rw[Bv];simp;lia) (by simp;lia) (qj _) ?_ ?_]
   ·intro i x y d H3 Q' ex ey ed s3 hq
    have gp:=n1.same.trans s3;rw[XN]at ey;let(d1,e1,r1):=eM.get' i ex;let(d2,e2,r2):=eM.get' (1+i) ey;let(o1,AA,i1):=row.get e1;let(o2,vA,i2):=row.get e2;have DL:1+i<os.length:=(cJ.mp vA).1;have dG:d=cQ (betR j rate o1 o2):=by rw[bP,bP,bN (by simp;lia),Bw]at ed;have:=(eX ed).symm;rw[this];show cQ (betR j rate (atO os i) (atO os (i+1)))=_;rw[_O.og AA,_O.og (show os[i+1]? =some o2 by rw[N1];erw[vA])]
    subst dG;erw[_,Z,_,Z,_,Z,_,Z,m,x,y,rate,rs,r,f,j,t,d1,d2,o1,o2,rs.length,Z,RD.mono gp _ rm,aD.j1.1,aD.j1.2,RD.mono gp _ r1,RD.mono gp _ r2,i1,i2,zJ _ _ AA,zJ _ _ vA,ao,cj,cm,λv H4 rv s4=>?_];erw[hq _ _ s4 rv.rd]
   ·intro H3 zs s3 d3 r3
    have lz:=r3.length;simp at lz;erw[cy Z,λl1 H4 n4=>?_];erw[_,Z,l1,D,_,zs,Z,Z,aF.of n4.at',aF.of (n4.same _ _ d3),yY _ (by simp;lia),λl2 H5 n5=>?_];erw[cy Z,λl3 H6 n6=>?_];erw[l2,l3,_,_,Z,Z,aF.of (n6.same _ _ n5.at'),aF.of n6.at',yY _ (by simp;lia),λl H7 n7=>?_];have zd:aH H H6:=n1.same.trans (s3.trans (n4.same.trans (n5.same.trans n6.same)));have nl:H l=none:=by cases e:H l with |none=>rfl |some o=>have:=zd _ _ e;rw[n7.no]at this;cases this
    erw[k l _ H7 nl n7.at' ?_ (zd.trans n7.same)];rw[_O.Sy j rate cS,gJ,gJ];exact((cE (rN H7) cX).append (aK.mono (n4.same.trans (n5.same.trans (n6.same.trans n7.same))) _ r3)).append (cE (rN H7) cX)
inductive aeo(K:aa)(vs:List V)(H:Hp)(Q:VK):Prop |mk (m:_)(iv:_)(l:_)(ys:_)(rs:_)(r:_)(f:_)(j:_)(t:_)(ds:_)(os:_)(g:_)(h0:vs=[m,iv,.ref l])(h1:RD K H m (fJ rs r f j t))(h2:gG rs r f j t)(h3:RD K H iv (.list ds))(h4:cW rs.length ds os)(h5:ds.length<=30)(h6:H l=some (.lst ys))(h7:aK K H ys ((lst os.length g).map cQ))(h8:(∀i,i<=os.length->Bd 900 (g i)))(h9:∀l ys H',H l=none->H' l=some (.lst ys)->aK K H' ys ((lst os.length (fl os.length (leadF os) (2*f) g)).map cQ)->aH H H'->Q (.ref l) H')
def OK(K:aa):Sp:=λvs H Q _=>aeo K vs H Q
theorem a3T(F:FA K mg "kept_by_fall" Cr)(B:bI mg)(iD:aA P w K mg aw "is_line" 1 (mZ K))(jw:aA P w K mg aw "lead_of" 1 (mY K))(je:aA P w K mg aw "plus_whole" 4 (rX K))(mF:aA P w K mg aw "least" 2 (md K)):aA P w K mg aw "kept_by_fall" 5 (OK K):=by
 erw[F.has Cp (λvs H Q E h=>?_) (λ_ _ _ _ _ _=>iE λ_ _ _=>rfl) (λfa aL A outer s H vs Q E hr h=>?_)]
 · let(m,iv,l,ys,rs,r,f,j,t,ds,os,g,rfl,_):=h
   rfl
 · let(m,iv,l,ys,rs,r,f,j,t,ds,os,g,rfl,rm,aD,ri,row,hz,dl,zi,bg,k):=h
   have nd:=Cp.nd;erw[_,(aB (pS 3 nd (px K (pv 0) aE)) (aB (pS 4 nd (dh (x:="list") (Dq K Z) Z (B.at "list") EK (ak (pv 2) ay))) (aB (iB gj Z (Sm Z (B.at "reversed") (ak (dh (x:="range") WA rfl (B.at "range") PyProof.Rows.boot_range (ak (fU K B (ak (pv 1) ay)) ay)) ay)) (aV 5 nd) (aI (bL (cw (pf iD hr (ak (px K (pv 1) (pv 5)) ay))) (aI (fh (pf mF hr (ak (dw (ak (px K (pv 4) (pv 5)) (ak (pf je hr (ak (px K (pv 4) (aP eu (pv 5) aE)) (ak (aP cK (aP cK aE (pv 3)) (pf jw hr (ak (px K (pv 1) (pv 5)) ay))) ay))) ay))) ay)) (uK (pv 4) (pv 5) set_list))) bQ))) (aI (aQ (pv 4)))))),?_];let(ma,mb,rfl,gE,jR):=oT rm;let(ia,xs,rfl,hi,eM):=ri.lst_inv;have lx:=eM.length;have ll:=row.len;have lr:=aD.len;have hL:∀i m,leadF os i=some m->(2*f*(m:Int)).natAbs<2^24:=λi m e=>wF aD.f1.1 aD.f1.2 (xF row.lM e);have FB:∀i,i<=os.length->Bd 1700 (fl os.length (leadF os) (2*f) g i):=λi hi=>(Ll bg hL i hi).mono ao;erw[_,Z,.inr #[ma,_,2,.int f,Z,Z,gE,Z,?_]];erw[_,Z,l,ys,Z,.inl (aF.of dl),λD H1 n1=>?_];erw[_,Z,ia,_,Z,.inl (hi.go n1.same),_,Z,λpr H2 n2=>?_];erw[pr,_,Z,n2.at',ao,ao,?_];have eN:((xs.length:Int)).toNat=os.length:=by lia
   rw[eN];erw[Vv (Pv:=λi O H5=>aH H H5/\∃zs v1,H5 D=some (.lst zs)/\aK K H5 zs ((lst os.length λk=>if os.length<=k+i then fl os.length (leadF os) (2*f) g k else g k).map cQ)/\O=[some (.ref ma),some (.ref ia),some (.ref l),some (.int f),some (.ref D),v1]) ?_ ?_ ?_]
   · erw[n1.same.trans n2.same,ys,none,n2.same _ _ n1.at',?_,Z]
     rw[qp (g:=λk=>if os.length<=k+0 then fl os.length (leadF os) (2*f) g k else g k) (g':=g)]
     ·erw[aK.mono (n1.same.trans n2.same) _ zi]
     · intro k hk
       show g k=if os.length<=k+0 then _ else g k;split
       · next h => have:k=os.length:=by lia
                   subst this;erw[qJ.symm]
       ·rfl
   · rintro i O H3 hin ⟨s3,zs,v1,dz,rz,rfl⟩
     erw[iG ?_];intro E1;obtain⟨x,hx⟩:∃x,xs[os.length-1-i]? =some x:=#[_,bN (show os.length-1-i<xs.length by lia)];generalize hc:os.length-1-i=c at hx;have hV:c<os.length:=by lia
     have eI:((os.length:Int)-1-(i:Int))=(c:Int):=by lia
     rw[eI];let(d,ed,rd):=eM.get' c hx;let(o,eo,it):=row.get ed;have lz:=rz.length;rw[ba,lN]at lz;have AV:fc xs (c:Int)=some x:=cx ao (by simpa using hx);erw[_,Z,_,Z,.inl #[ia,_,_,_,Z,Z,hi.go s3,AV,?_]];erw[x,d,o,Z,RD.mono s3 _ rd,it,_,Z,?_];cases o with
     |none=>
       erw[aR ?_];erw[s3,zs,_,dz,?_,Z];rw[qp (g:=λk=>if os.length<=k+(i+1)then fl os.length (leadF os) (2*f) g k else g k) (g':=λk=>if os.length<=k+i then fl os.length (leadF os) (2*f) g k else g k)]
       ·erw[rz]
       · intro k _
         show(if os.length<=k+i then _ else g k)=if os.length<=k+(i+1)then _ else g k;by_cases h1:os.length<=k+i
         ·rw[bc h1,bc ao]
         · rw[bj h1]
           by_cases h2:k=c
           ·subst h2;rw[bc ao,qI hV (K8 eo)]
           ·rw[bj ao] |some q=>
       let(ns,sp):=q;erw[bR ?_];have dG:=iQ it;subst dG;let(bZ,_,_):=row.ok c ns sp eo;obtain⟨z1,o7⟩:∃z,zs[c+1]? =some z:=#[_,bN (show c+1<zs.length by lia)];obtain⟨z0,jz⟩:∃z,zs[c]? =some z:=#[_,bN (show c<zs.length by lia)];have R1:bM K H3 z1 (fl os.length (leadF os) (2*f) g (c+1)):=by
        let(d1,e1,r1):=rz.get' (c+1) o7;rw[bP,lO _ (show c+1<=os.length by lia)]at e1;cases e1;have:os.length<=c+1+i:=by lia
        simp only[bc this]at r1;erw[jK r1]
       have R0:bM K H3 z0 (g c):=by
        let(d1,e1,r1):=rz.get' c jz;rw[bP,lO _ (show c<=os.length by lia)]at e1;cases e1;have:¬os.length<=c+i:=by lia
        simp only[bj this]at r1;erw[jK r1]
       have tN:((c:Int)+1).toNat=c+1:=by lia
       have vS:fc zs ((c:Int)+1)=some z1:=cx ao (by rw[tN];erw[o7]);have vT:fc zs (c:Int)=some z0:=cx ao (by simpa using jz);erw[_,Z,_,Z,.inl #[D,_,_,_,Z,Z,aF.of dz,vT,?_]];erw[_,Z,_,Z,_,_,Z,Z,.inl #[D,_,_,_,Z,Z,aF.of dz,vS,?_]];erw[_,Z,_,_,Z,Z,.of_left (dF az az),?_];erw[_,Z,_,Z,.inl #[ia,_,_,_,Z,Z,hi.go s3,AV,?_]];erw[x,ns,sp,Z,RD.mono s3 _ rd,bZ.ne,by rw[bZ.len];lia,λH4 s4=>?_];have ie:=aD.f1;erw[_,_,Z,Z,.of_left (dF ao ao),?_];have us:=hL c _ (qw eo);erw[z1,_,_,Z,R1.go s4,(FB (c+1) ao).mono az,us,λu H5 ru s5=>?_];erw[cy Z,λl2 H6 n6=>?_];have iZ:=s4.trans (s5.trans n6.same);have B7:=R0.go iZ;have Ru:=ru.go n6.same;have B1:Bd 2000 (g c):=(bg _ ao).mono az;have B2:Bd 2000 (fl os.length (leadF os) (2*f) g (c+1)+((2*f*(aG ns:Int):Int):Rat)):=(jZ (FB (c+1) ao) us).mono az;erw[l2,[z0,u],[_,_],Z,aF.of n6.at',#[B7,B1,Ru,B2,trivial],by simp,λc' v q e1 e2 hq=>?_];have nH:mn (g c) (fl os.length (leadF os) (2*f) g (c+1)+((2*f*(aG ns:Int):Int):Rat))=q:=by
        erw[uV ?_ (hq _ (by simp)) (hq _ (by simp))]
        match c',e2 with |0,e2=>cases e2;erw[.inl rfl] |1,e2=>cases e2;erw[.inr rfl]
       have Rv:bM K H6 v q:=by match c',e1,e2 with |0,e1,e2=>cases e1;cases e2;erw[B7] |1,e1,e2=>cases e1;cases e2;erw[Ru]
       have jW:=iZ _ _ dz;have Kd:jv zs.length (c:Int)=some c:=by unfold jv;rw[bc ao,bc ao];simp
       erw[_,Z,_,Z,D,zs,_,_,Z,Z,jW,Kd,?_];erw[λb o e=>?_,_,_,cg,?_,Z]
       ·rw[aY (eJ e n1.no)];erw[iZ b o (s3 b o e)]
       · have h:=aK.FU (i:=c) jW (aK.mono iZ _ rz) Rv.rd (qj _) (qd _)
         rw[<-ER]at h;have e:(lst os.length λk=>if os.length<=k+i then fl os.length (leadF os) (2*f) g k else g k).set c q=lst os.length λk=>if os.length<=k+(i+1)then fl os.length (leadF os) (2*f) g k else g k:=by
          rw[<-JX (g:=λk=>if os.length<=k+i then fl os.length (leadF os) (2*f) g k else g k) (g':=λk=>if os.length<=k+(i+1)then fl os.length (leadF os) (2*f) g k else g k) (i:=c)]
          · have:os.length<=c+(i+1):=by lia
            simp only[bc this];rw[o6 hV (qw eo),nH]
          · intro k _ hk
            show(if os.length<=k+(i+1)then _ else g k)=if os.length<=k+i then _ else g k;by_cases h1:os.length<=k+i
            ·rw[bc h1,bc ao]
            ·rw[bj h1,bj ao]
         rw[e]at h;erw[h]
   · rintro O H3 ⟨s3,zs,v1,dz,rz,rfl⟩
     rw[qp (g:=λk=>if os.length<=k+os.length then fl os.length (leadF os) (2*f) g k else g k) (g':=fl os.length (leadF os) (2*f) g) (λk hk=>by show _=if os.length<=k+os.length then _ else _;rw[bc ao])]at rz;erw[_,Z,k D zs H3 n1.no dz rz s3]
def IY(f j rate:Int)(os:List Itm):Rat:=fl os.length (leadF os) (2*f) (ownF j rate os) 1
inductive adG(K:aa)(vs:List V)(H:Hp)(Q:VK):Prop |mk (m:_)(iv:_)(rate:_)(rs:_)(r:_)(f:_)(j:_)(t:_)(ds:_)(os:_)(h0:vs=[m,iv,.int rate])(h1:RD K H m (fJ rs r f j t))(h2:gG rs r f j t)(h3:RD K H iv (.list ds))(h4:cW rs.length ds os)(h5:ds.length<=30)(h6:1<=ds.length)(h7:10<=rate)(h8:rate<=200)(h9:∀v H',bM K H' v (IY f j rate os)->aH H H'->Q v H')
def FD(K:aa):Sp:=λvs H Q _=>adG K vs H Q
theorem PF:bo ["machine","items","rate"] ["machine","items","rate"] (aU Gm):=bp aJ
theorem a3d(F:FA K mg "reach_behind_first" Gm)(B:bI mg)(Ac:aA P w K mg aw "own_bounds" 8 (OB K))(KC:aA P w K mg aw "kept_by_fall" 5 (OK K)):aA P w K mg aw "reach_behind_first" 9 (FD K):=by
 erw[F.has PF (λvs H Q E h=>?_) (λ_ _ _ _ _ _=>iE λ_ _ _=>rfl) (λfa aL A outer s H vs Q E hr h=>?_)]
 ·let(m,iv,rate,rs,r,f,j,t,ds,os,rfl,_):=h
  rfl
 ·let(m,iv,rate,rs,r,f,j,t,ds,os,rfl,rm,aD,ri,row,hz,h1,cj,cm,k):=h
  have nd:=PF.nd;erw[_,(aI (aQ (px K (pf KC hr (ak (pv 0) (ak (pv 1) (ak (pf Ac hr (ak (pv 0) (ak (pv 1) (ak (pv 2) ay)))) ay)))) aE))),?_];have ll:=row.len;have hB:=_O.zB aD.j1.1 aD.j1.2 cj cm row.lM;erw[_,Z,_,Z,_,Z,_,Z,_,Z,m,iv,rate,rs,r,f,j,t,ds,os,Z,rm,aD,ri,row,ao,cj,cm,λl1 y1 H1 xy d1 r1 s1=>?_];erw[m,iv,l1,y1,rs,r,f,j,t,ds,os,ownF j rate os,Z,RD.mono s1 _ rm,aD,RD.mono s1 _ ri,row,hz,d1,r1,λi _=>(hB i).mono az,λl2 y2 H2 uS d2 r2 s2=>?_];have ly:=r2.length;rw[ba,lN]at ly;obtain⟨z,ez⟩:∃z,y2[1]? =some z:=#[_,bN (show 1<y2.length by lia)];erw[.inl #[l2,_,1,z,Z,Z,aF.of d2,cx az ez,?_]];let(d,ed,rd):=r2.get' 1 ez;rw[bP,lO _ (show 1<=os.length by lia)]at ed;cases ed;erw[k z H2 (jK rd) (s1.trans s2)]
end
end _a
namespace _a
open PySem PySem.Spec PyProof.Rows _L _b _l _C _P _W _R
open _O (topR cornO mnO betR atO ownF leadF ownL OkI OkIs)
section
def gB(m b d q p r s k t:V):List (Str×V):=[("machine",m),("begun_at",b),("done",d),("queue",q),("pace",p),("rate_now",r),("side",s),("mark",k),("stopping",t)]
structure bC where
 rs:List Int
 r:Int
 f:Int
 j:Int
 t:Int
abbrev bC.D(M:bC):ah:=fJ M.rs M.r M.f M.j M.t
abbrev bC.Ok(M:bC):Prop:=gG M.rs M.r M.f M.j M.t
structure bu where
 pl:List Int
 dn:Nat
 ds:List ah
 os:List Itm
 pc:Rat
 rate:Int
 side:Str
 mark:Str
 bG:_R.pH
def yd(K:aa)(H:Hp)(v:V):_R.pH->Prop |none=>v= .bw |some (sq,st,gn)=>∃a u,v= .ref a/\aW K H a [u,.int st,.int gn]/\bM K H u sq
structure dC(M:bC)(D:Nat)(S:bu):Prop where
 row:cW M.rs.length S.ds S.os
 rw:RowW S.ds S.os
 len:S.ds.length<=20
 cj:10<=S.rate
 cm:S.rate<=200
 dn:S.dn=0\/∃ns sp,S.os[0]? =some (some (ns,sp))/\S.dn<aG ns
 pl:S.pl.length=M.rs.length
 pd:Dd (D+10) S.pc
 pm:S.pc<=1600
 bG:tS D S.pc S.bG
 D1:64<=D
 D2:D<=1500
structure cV(K:aa)(C:Addr)(H:Hp)(a q:Addr)(M:bC)(S:bu):Prop where
 ob:∃dx mv bv cG tv,H a=some (.ins C dx (gB mv bv (.int S.dn) (.ref q) cG (.int S.rate) (.str S.side) (.str S.mark) tv))/\RD K H mv M.D/\RD K H bv (da S.pl)/\bM K H cG S.pc/\yd K H tv S.bG
 qu:∃ys,H q=some (.lst ys)/\aK K H ys S.ds
theorem bM.v{H H':Hp}{v:V}{q:Rat}(s:cR H H')(h:bM K H v q):bM K H' v q:=by let(p,rfl,hp):=h;erw[p,Z,aW.v s hp]
theorem yd.v{H H':Hp}{v:V}{t:_R.pH}(s:cR H H')(h:yd K H v t):yd K H' v t:=by cases t with |none=>erw[h] |some q=>let(sq,st,gn):=q;let(a,u,rfl,h1,h2):=h;erw[a,u,Z,aW.v s h1,bM.v s h2]
theorem cV.go{H H':Hp}{a q:Addr}{M:bC}{S:bu}(h:cV K C H a q M S)(hn:cA S.ds=true)(s:cR H H')(ea:∀o,H a=some o->H' a=some o)(eq:∀o,H q=some o->H' q=some o):cV K C H' a q M S:=by let((dx,mv,bv,cG,tv,e,r1,r2,r3,r4),ys,Az,rq):=h;erw[#[dx,mv,bv,cG,tv,ea _ e,RD.v s _ (kT _ _ _ _ _) r1,RD.v s _ (gq _) r2,r3.v s,r4.v s],ys,eq _ Az,aK.v s _ hn rq]
theorem cV.same{H H':Hp}{a q:Addr}{M:bC}{S:bu}(h:cV K C H a q M S)(hn:cA S.ds=true)(s:aH H H'):cV K C H' a q M S:=h.go hn s.v (λo e=>s _ _ e) (λo e=>s _ _ e)
theorem cV.ne{H:Hp}{a q:Addr}{M:bC}{S:bu}(h:cV K C H a q M S):a≠q:=by let((dx,mv,bv,cG,tv,e,_),ys,Az,_):=h;erw[zS e Az (by intro z;cases z)]
theorem cV.v{H H':Hp}{a q:Addr}{M:bC}{S:bu}(h:cV K C H a q M S)(b:dI [a,q] H H'):cR H H':=by
 let((dx,mv,bv,cG,tv,e,_),ys,Az,_):=h;erw[b.v λx hx o eo=>?_];simp only[cO,iu,kH]at hx;rcases hx with rfl|rfl
 ·rw[e]at eo;cases eo;trivial
 ·rw[Az]at eo;cases eo;trivial
inductive adq(K:aa)(C:Addr)(G:bC->bu->Hp->VK->Prop)(vs:List V)(H:Hp)(Q:VK):Prop |mk (a:_)(q:_)(M:_)(D:_)(S:_)(h0:vs=[.ref a])(h1:cV K C H a q M S)(h2:dC M D S)(h3:M.Ok)(h4:G M S H Q)
def gm(K:aa)(C:Addr)(G:bC->bu->Hp->VK->Prop):Sp:=λvs H Q _=>adq K C G vs H Q
theorem ZZ:bo ["self"] ["self"] (aU Gr):=bp aJ
def Vo(K:aa):bC->bu->Hp->VK->Prop:=λ_ S H Q=>∀v,bM K H v S.pc->Q v H
theorem a2V(F:MA K C "square" "Runner.square" Gr)(TC:fo K C):cL P w K mg aw C "square" 1 (gm K C (Vo K)):=by
 erw[F.has ZZ (λvs H Q E h=>?_) (λ_ _ _ _ _ _=>dA λ_=>rfl) (λf aL A outer s H vs Q E hr h=>?_)]
 ·let(a,q,M,D,S,rfl,_):=h
  rfl
 ·let(a,q,M,D,S,rfl,R,ok,aD,k):=h
  let(dx,mv,bv,cG,tv,e,r1,r2,r3,r4):=R.ob;erw[_,(aI (aQ (cU TC.cl TC.xB (pv 0)))),_,Z,a,dx,_,_,Z,e,Z,k cG r3]
theorem a01:bo ["self"] ["self"] (aU Gv):=bp aJ
theorem a2Y(F:MA K C "rate" "Runner.rate" Gv)(TC:fo K C):cL P w K mg aw C "rate" 1 (gm K C λ_ S H Q=>Q (.int S.rate) H):=by
 erw[F.has a01 (λvs H Q E h=>?_) (λ_ _ _ _ _ _=>dA λ_=>rfl) (λf aL A outer s H vs Q E hr h=>?_)]
 ·let(a,q,M,D,S,rfl,_):=h
  rfl
 ·let(a,q,M,D,S,rfl,R,ok,aD,k):=h
  let(dx,mv,bv,cG,tv,e,r1,r2,r3,r4):=R.ob;erw[_,(aI (aQ (cU TC.cl TC.zU (pv 0)))),_,Z,a,dx,_,_,Z,e,Z,k]
theorem ZY:bo ["self"] ["self"] (aU Gq):=bp aJ
theorem a2U(F:MA K C "tool" "Runner.tool" Gq)(TC:fo K C):cL P w K mg aw C "tool" 1 (gm K C λ_ S H Q=>Q (.str S.side) H):=by
 erw[F.has ZY (λvs H Q E h=>?_) (λ_ _ _ _ _ _=>dA λ_=>rfl) (λf aL A outer s H vs Q E hr h=>?_)]
 ·let(a,q,M,D,S,rfl,_):=h
  rfl
 ·let(a,q,M,D,S,rfl,R,ok,aD,k):=h
  let(dx,mv,bv,cG,tv,e,r1,r2,r3,r4):=R.ob;erw[_,(aI (aQ (cU TC.cl TC.JJ (pv 0)))),_,Z,a,dx,_,_,Z,e,Z,k]
theorem a03:bo ["self"] ["self"] (aU Gy):=bp aJ
theorem a33(F:MA K C "last_mark" "Runner.last_mark" Gy)(TC:fo K C):cL P w K mg aw C "last_mark" 1 (gm K C λ_ S H Q=>Q (.str S.mark) H):=by
 erw[F.has a03 (λvs H Q E h=>?_) (λ_ _ _ _ _ _=>dA λ_=>rfl) (λf aL A outer s H vs Q E hr h=>?_)]
 ·let(a,q,M,D,S,rfl,_):=h
  rfl
 ·let(a,q,M,D,S,rfl,R,ok,aD,k):=h
  let(dx,mv,bv,cG,tv,e,r1,r2,r3,r4):=R.ob;erw[_,(aI (aQ (cU TC.cl TC.JK (pv 0)))),_,Z,a,dx,_,_,Z,e,Z,k]
theorem ZW:bo ["self"] ["self"] (aU Gn):=bp aJ
theorem a2S(F:MA K C "waiting" "Runner.waiting" Gn)(TC:fo K C)(B:bI mg):cL P w K mg aw C "waiting" 1 (gm K C λ_ S H Q=>∀l ys H',H l=none->H' l=some (.lst ys)->aK K H' ys S.ds->aH H H'->Q (.ref l) H'):=by
 erw[F.has ZW (λvs H Q E h=>?_) (λ_ _ _ _ _ _=>dA λ_=>rfl) (λf aL A outer s H vs Q E hr h=>?_)]
 ·let(a,q,M,D,S,rfl,_):=h
  rfl
 ·let(a,q,M,D,S,rfl,R,ok,aD,k):=h
  let(dx,mv,bv,cG,tv,e,r1,r2,r3,r4):=R.ob;let(ys,eq,rq):=R.qu;erw[_,(aI (aQ (dh (x:="list") (Dq K Z) Z (B.at "list") EK (ak (cU TC.cl TC.kS (pv 0)) ay)))),_,Z,a,dx,_,_,Z,e,Z,q,ys,Z,.inl (aF.of eq),λl H1 n1=>?_];erw[k l ys H1 n1.no n1.at' (aK.mono n1.same _ rq) n1.same]
theorem a06:bo ["self"] ["self"] (aU GF):=bp aJ
theorem a38(F:MA K C "is_held" "Runner.is_held" GF)(TC:fo K C):cL P w K mg aw C "is_held" 1 (gm K C λ_ S H Q=>Q (.bl S.bG.isSome) H):=by
 erw[F.has a06 (λvs H Q E h=>?_) (λ_ _ _ _ _ _=>dA λ_=>rfl) (λf aL A outer s H vs Q E hr h=>?_)]
 ·let(a,q,M,D,S,rfl,_):=h
  rfl
 ·let(a,q,M,D,S,rfl,R,ok,aD,k):=h
  let(dx,mv,bv,cG,tv,e,r1,r2,r3,r4):=R.ob;erw[_,(aI (aQ (jq xi (cU TC.cl TC.D4 (pv 0)) gX (bS _)))),_,Z,a,dx,_,_,Z,e,Z,?_];cases hs:S.bG with |none=>rw[hs]at r4 k;cases(show tv= .bw from r4);erw[Z,k] |some z=>rw[hs]at r4 k;let(sq,st,gn):=z;let(b,u,rfl,_):=r4;erw[Z,k]
theorem a0Z(q:Rat):PyData.eqv (cQ q) (cQ 0)=decide (q=0):=by
 by_cases h:q=0
 ·rw[cu h];erw[eqR h]
 ·rw[dM h]
  cases e:PyData.eqv (cQ q) (cQ 0)with |false=>rfl |true=>
   exfalso;apply h;have e':(PyData.eqv (.int q.num) (.int (0:Rat).num)&&(PyData.eqv (.int (q.den:Int)) (.int ((0:Rat).den:Int))&&true))=true:=e;rw[BB,fz]at e';let(a,b):=e';have h1:q.num=(0:Rat).num:=by simpa[PyData.eqv]using a
   have h2:(q.den:Int)=((0:Rat).den:Int):=by simpa[PyData.eqv]using b
   erw[Rat.ext h1 ao]
theorem a00:bo ["self"] ["self"] (aU Gu):=bp aJ
theorem a2X(F:MA K C "stands" "Runner.stands" Gu)(TC:fo K C)(gN:GT K mg "NOUGHT" [.int 0,.int 1]):cL P w K mg aw C "stands" 1 (gm K C λ_ S H Q=>Q (.bl (decide (S.pc=0))) H):=by
 let(aN,jy,kL):=gN;erw[F.has a00 (λvs H Q E h=>?_) (λ_ _ _ _ _ _=>dA λ_=>rfl) (λf aL A outer s H vs Q E hr h=>?_)]
 ·let(a,q,M,D,S,rfl,_):=h
  rfl
 ·let(a,q,M,D,S,rfl,R,ok,aD,k):=h
  let(dx,mv,bv,cG,tv,e,r1,r2,r3,r4):=R.ob;erw[_,(aI (aQ (jq (dU K Z hr.units) (cU TC.cl TC.xB (pv 0)) (eD (x:="NOUGHT") rfl jy) (bS _)))),_,Z,a,dx,_,_,Z,e,Z,.inr #[_,_,r3.rd,(xq (kL H)).rd,Z,Z,?_]];rw[a0Z];erw[k]
theorem a05:bo ["self"] ["self"] (aU GC):=bp aJ
theorem a37(F:MA K C "is_halted" "Runner.is_halted" GC)(TC:fo K C)(KY:cL P w K mg aw C "is_held" 1 (gm K C λ_ S H Q=>Q (.bl S.bG.isSome) H))(KU:cL P w K mg aw C "stands" 1 (gm K C λ_ S H Q=>Q (.bl (decide (S.pc=0))) H)):cL P w K mg aw C "is_halted" 2 (gm K C λ_ S H Q=>Q (.bl (S.bG.isSome&&decide (S.pc=0))) H):=by
 erw[F.has a05 (λvs H Q E h=>?_) (λ_ _ _ _ _ _=>dA λ_=>rfl) (λf aL A outer s H vs Q E hr h=>?_)]
 ·let(a,q,M,D,S,rfl,_):=h
  rfl
 ·let(a,q,M,D,S,rfl,R,ok,aD,k):=h
  let(dx,mv,bv,cG,tv,e,r1,r2,r3,r4):=R.ob;erw[_,(aI (aQ (qf (jO KY TC.cl (hr.mono az) (pv 0)) (oM (jO KU TC.cl (hr.mono az) (pv 0)))))),_,Z,a,dx,_,Z,e,Z,a,q,M,D,S,Z,R,ok,aD,_,Z,?_];cases hs:S.bG.isSome with |false=>rw[hs]at k;erw[aR k] |true=>rw[hs]at k;erw[bR #[_,Z,a,dx,_,Z,e,Z,a,q,M,D,S,Z,R,ok,aD,?_]];erw[k]
end
section
def rS(ns:List Int)(k:Int):List Int:=ns.map λz=>gZ (k*z) (aG ns)
def jo(S:bu):List Int:=if S.dn=0 then S.pl else match S.os[0]? with |some (some (ns,_))=>fZ S.pl (rS ns S.dn) |_=>S.pl
def jV(S:bu):List Int:=S.os.foldl fY S.pl
theorem WM{n:Nat}{pl:List Int}{o:Itm}(h:pl.length=n)(ho:∀ns sp,o=some (ns,sp)->ns.length=n):(fY pl o).length=n:=by cases o with |none=>erw[h] |some q=>let(ns,sp):=q;show(fZ pl ns).length=n;rw[qV (by rw[ho ns sp Z,h])];erw[h]
theorem DS{n:Nat}:∀(os:List Itm)(pl:List Int),pl.length=n->(∀o∈os,∀ns sp,o=some (ns,sp)->ns.length=n)->(os.foldl fY pl).length=n |[],pl,h,_=>h |o::os,pl,h,ho=>DS os (fY pl o) (WM h (ho o (.head _))) λx hx=>ho x (.tail _ hx)
theorem dC.mj{M:bC}{D:Nat}{S:bu}(h:dC M D S):∀o∈S.os,∀ns sp,o=some (ns,sp)->ns.length=M.rs.length:=λo ho ns sp e=>by let(i,hi):=ou.mp ho;rw[e]at hi;exact(h.row.ok i ns sp hi).1.len
theorem dC.first{M:bC}{D:Nat}{S:bu}(h:dC M D S)(hn:S.dn≠0):∃ns sp,S.os[0]? =some (some (ns,sp))/\S.dn<aG ns:=by
 rcases h.dn with e|e
 ·exact(hn e).elim
 ·erw[e]
theorem a02:bo ["self"] ["self"] (aU Gw):=bp aJ
theorem a2Z(F:MA K C "place" "Runner.place" Gw)(TC:fo K C)(Kx:aA P w K mg aw "moved" 1 (Ce K))(DE:aA P w K mg aw "stand_at" 2 (C8 K)):cL P w K mg aw C "place" 3 (gm K C λ_ S H Q=>∀v H',RD K H' v (da (jo S))->aH H H'->Q v H'):=by
 erw[F.has a02 (λvs H Q E h=>?_) (λ_ _ _ _ _ _=>dA λ_=>rfl) (λf aL A outer s H vs Q E hr h=>?_)]
 ·let(a,q,M,D,S,rfl,_):=h
  rfl
 ·let(a,q,M,D,S,rfl,R,ok,aD,k):=h
  let(dx,mv,bv,cG,tv,e,r1,r2,r3,r4):=R.ob;let(ys,eq,rq):=R.qu;erw[_,(aB (bL (cf (dU K Z hr.units) (cU TC.cl TC.qm (pv 0)) aE (bS _)) (aI (aQ (cU TC.cl TC.xC (pv 0)))) bQ) (aI (aQ (pf Kx hr (ak (cU TC.cl TC.xC (pv 0)) (ak (pf DE hr (ak (px K (cU TC.cl TC.kS (pv 0)) aE) (ak (cU TC.cl TC.qm (pv 0)) ay))) ay)))))),_,Z,a,dx,_,_,Z,e,Z,.inl #[_,_,Z,Z,_,Z,?_]];by_cases h0:S.dn=0
  ·rw[cu ao]
   have ep:jo S=S.pl:=by unfold jo;rw[bc h0]
   rw[ep]at k;erw[bR #[_,Z,a,dx,_,_,Z,e,Z,k bv H r2 (aH.refl _)]]
  ·rw[dM ao]
   erw[aR ?_];let(ns,sp,eo,hd):=ok.first h0;let(bZ,cP,dX):=ok.row.ok 0 ns sp eo;have ep:jo S=fZ S.pl (rS ns S.dn):=by unfold jo;rw[bj h0,eo]
   rw[ep]at k;have ll:=ok.row.len;have Ai:0<S.os.length:=(cJ.mp eo).1;obtain⟨d,ed⟩:∃d,S.ds[0]? =some d:=#[_,bN (show 0<S.ds.length by lia)];let(y,ey,ry):=rq.get 0 ed;have it:=ok.row.it 0 d _ ed eo;have dG:=iQ it;subst dG;have mz:=qv bZ;have lr:=aD.len;erw[_,Z,a,dx,_,_,Z,e,Z,?_];erw[_,Z,a,dx,_,_,Z,e,Z,.inl #[q,_,0,y,Z,Z,aF.of eq,cx (df 0) ey,?_]];erw[_,Z,a,dx,_,_,Z,e,Z,y,ns,sp,_,Z,ry,#[Z,λz hz=>by have:=bZ.bd z hz;lia,bZ.nz],by rw[bZ.len];lia,ao,λu H1 ru s1=>?_];let(b,xs,rfl,hb,hx):=ru.cv;rw[hx.gh]at hb;erw[bv,b,S.pl,_,Z,RD.mono s1 _ r2,hb,by rw[ba,bZ.len,ok.pl],by rw[ok.pl];lia,λv H2 rv s2=>k v H2 rv (s1.trans s2)]
theorem PL:bo ["self","here","item"] ["self"] (aU Gz):=bp aJ
theorem a34(F:MA K C "leads_to" "Runner.leads_to" Gz)(TC:fo K C)(vg:aA P w K mg aw "place_behind" 2 (wM K)):cL P w K mg aw C "leads_to" 3 (gm K C λ_ S H Q=>∀v H',RD K H' v (da (jV S))->aH H H'->Q v H'):=by
 erw[F.has PL (λvs H Q E h=>?_) (λ_ _ _ _ _ _=>dA λ_=>rfl) (λf aL A outer s H vs Q E hr h=>?_)]
 ·let(a,q,M,D,S,rfl,_):=h
  rfl
 ·let(a,q,M,D,S,rfl,R,ok,aD,k):=h
  let(dx,mv,bv,cG,tv,e,r1,r2,r3,r4):=R.ob;let(ys,eq,rq):=R.qu;have nd:=PL.nd;have ll:=ok.row.len;have ly:=rq.length;have lr:=aD.len;erw[_,(aB (pS 1 nd (cU TC.cl TC.xC (pv 0))) (aB (iB gj Z (nk K Z (cU TC.cl TC.kS (pv 0))) (aV 2 nd) (aI (pS 1 nd (pf vg hr (ak (pv 1) (ak (pv 2) ay)))))) (aI (aQ (pv 1))))),_,Z,a,dx,_,_,Z,e,Z,_,Z,a,dx,_,_,Z,e,Z,q,Z,#[_,aF.of eq],?_];erw[Vw (K:=K) (a:=q) (xs:=ys) (λi O H1=>aH H H1/\∃hv v2,RD K H1 hv (da ((S.os.take i).foldl fY S.pl))/\O=[some (.ref a),some hv,v2]) #[aH.refl _,bv,none,r2,Z] (λi O H1 _ h=>aF.of (h.1 _ _ eq)) ?_ ?_]
  ·rintro i x O H1 hx ⟨s1,hv,v2,rh,rfl⟩
   erw[iG ?_];intro E1;let(d,ed,rd):=rq.get' i hx;let(o,eo,it):=ok.row.get ed;have lp:((S.os.take i).foldl fY S.pl).length=M.rs.length:=DS _ _ ok.pl λo ho=>ok.mj o (Bs ho);erw[_,Z,_,Z,hv,x,_,d,o,Z,rh,RD.mono s1 _ rd,it,λns sp e'=>by rw[lp];erw[ok.mj o (fR eo) ns sp e'],ao,λv H2 rv s2=>?_];erw[s1.trans s2,v,_,?_,Z];rw[lC,eo,wu];erw[rv]
  ·rintro O H1 ⟨s1,hv,v2,rh,rfl⟩
   rw[ly,ll,pN]at rh;erw[_,Z,k hv H1 rh s1]
structure Mv(a q:Addr)(H:Hp)(q':Addr)(H':Hp):Prop where
 but:dI [a,q] H H'
 nq:q'=q\/H q'=none
theorem a04:bo ["self","machine","place"] ["self","machine","place"] (aU GB):=bp aJ
def oG(pl:List Int):bu:=#[pl,0,[],[],0,100,"up","",none]
inductive adL(K:aa)(C:Addr)(vs:List V)(H:Hp)(Q:VK):Prop |mk (a:_)(dx:_)(mv:_)(gK:_)(M:_)(pl:_)(h0:vs=[.ref a,mv,gK])(h1:H a=some (.ins C dx []))(h2:RD K H mv (bC.D M))(h3:RD K H gK (da pl))(h4:∀q H',cV K C H' a q M (oG pl)->H q=none->dI [a] H H'->Q .bw H')
def Ox(K:aa)(C:Addr):Sp:=λvs H Q _=>adL K C vs H Q
theorem a36(F:CA K mg C "Runner" "Runner.__init__" GB)(TC:fo K C)(gN:GT K mg "NOUGHT" [.int 0,.int 1])(a8w:GV mg "FIRST_RATE" (.int 100)):yg P w K mg aw C "Runner" 1 (Ox K C):=by
 let(aN,jy,kL):=gN;erw[F.has a04 (λvs H Q E h=>?_) (λ_ _ _ _ _ _=>iE λ_ _ _=>rfl) (λf aL A outer s H vs Q E hr h=>?_)]
 ·let(a,dx,mv,gK,M,pl,rfl,_):=h
  rfl
 ·let(a,dx,mv,gK,M,pl,rfl,e,rm,rp,k):=h
  erw[_,(aB (iM TC.cl TC.mq (pv 0) (pv 1)) (aB (iM TC.cl TC.xC (pv 0) (pv 2)) (aB (iM TC.cl TC.qm (pv 0) aE) (aB (iM TC.cl TC.kS (pv 0) (dw ay)) (aB (iM TC.cl TC.xB (pv 0) (eD (x:="NOUGHT") rfl jy)) (aB (iM TC.cl TC.zU (pv 0) (eD (x:="FIRST_RATE") rfl a8w)) (aB (iM TC.cl TC.JJ (pv 0) bW) (aB (iM TC.cl TC.JK (pv 0) bW) (aI (iM TC.cl TC.D4 (pv 0) gX)))))))))),?_];erw[_,Z,_,Z,a,dx,_,Z,e,az,?_];erw[_,Z,_,Z,a,dx,_,Z,cg,by show 1<1000;decide,?_];erw[_,Z,a,dx,_,Z,cg,by show 2<1000;decide,?_];erw[cy Z,λq H1 n1=>?_];have aq:a≠q:=λz=>by have:=n1.no;rw[<-z,cg]at this;cases this
  have e1:=n1.same _ _ (cg (a:=a));erw[_,Z,a,dx,_,Z,e1,by show 3<1000;decide,?_];erw[_,Z,a,dx,_,Z,cg,by show 4<1000;decide,?_];erw[_,Z,a,dx,_,Z,cg,by show 5<1000;decide,?_];erw[_,Z,a,dx,_,Z,cg,by show 6<1000;decide,?_];erw[_,Z,a,dx,_,Z,cg,by show 7<1000;decide,?_];erw[_,Z,a,dx,_,Z,cg,by show 8<1000;decide,?_];have key:∀X:Hp,(∀b,b≠a->X b=H1 b)->Q .bw (_L.upd X a (.ins C dx (gB mv gK (.int 0) (.ref q) (.ref aN) (.int 100) (.str "up") (.str "") .bw))):=by
   intro X hX;have bt:dI [a] H (_L.upd X a (.ins C dx (gB mv gK (.int 0) (.ref q) (.ref aN) (.int 100) (.str "up") (.str "") .bw))):=λb o eb hb=>by have ha:b≠a:=λz=>hb (by rw[z];erw[.head _]);rw[aY ha,hX b ha];erw[n1.same _ _ (by rw[aY ha,aY ha,aY ha];erw[eb])]
   have sv:=bt.v λx hx o eo=>by rw[dN]at hx;rw[hx,e]at eo;cases eo;trivial
   erw[k q _ #[#[dx,mv,gK,.ref aN,.bw,cg,RD.v sv _ (kT _ _ _ _ _) rm,RD.v sv _ (gq _) rp,xq (kL _),Z],[],?_,cX] ?_ bt]
   ·rw[aY aq.symm,hX q aq.symm];erw[n1.at']
   ·have:=n1.no
    rw[aY aq.symm,aY aq.symm,aY aq.symm]at this;erw[this]
  erw[key _ (λb hb=>by rw[aY hb,aY hb,aY hb,aY hb,aY hb])]
theorem a0E{M:bC}{pl:List Int}(hp:pl.length=M.rs.length):dC M 64 (oG pl):=#[.nil,λi d e=>by simp[oG]at e,by simp[oG],(show(10:Int)<=100 by decide),(show(100:Int)<=200 by decide),.inl rfl,hp,#[(show(0:Rat)<=0 by decide),(show(0:Rat).den<2^74 by decide+kernel)],(show(0:Rat)<=1600 by decide+kernel),trivial,az,az]
theorem CM{rs pl:List Int}(h:ft rs pl):Ki rs (da pl)=true:=by show((pl.map PyData.int).length==rs.length&&(((pl.map PyData.int).zip rs).map λp=>dy 0 p.2 p.1).all id)=true;rw[ba,h.len,MK,jE,g6];intro b hb;let((d,r),hm,rfl):=cI.mp hb;let(i,hi):=ou.mp hm;let(e1,e2):=(Bx (z:=(d,r))).mp hi;rw[bP]at e1;cases e:pl[i]? with |none=>rw[e]at e1;cases e1 |some x=>rw[e]at e1;cases e1;let(a1,a2):=h.at' i x r e e2;show(decide (0<=x)&&decide (x<=r))=true;rw[cu a1,cu a2];rfl
def tH(S:bu)(d:ah)(o:Itm):bu:={S with ds:=S.ds++[d],os:=S.os++[o]}
theorem dC.vw{M:bC}{D:Nat}{S:bu}{d:ah}{o:Itm}(h:dC M D S)(it:jC M.rs.length d o)(hl:S.ds.length<20):dC M D (tH S d o):=by
 have ll:=h.row.len;erw[h.row.snoc it.it it.ln,RowW.snoc h.rw ll it.ot,by show(S.ds++[d]).length<=20;rw[cD];show _+1<=20;lia,h.cj,h.cm,?_,h.pl,h.pd,h.pm,h.bG,h.D1,h.D2];rcases h.dn with e|⟨ns,sp,e,e2⟩
 ·erw[.inl e]
 ·erw[.inr #[ns,sp,?_,e2]]
  show(S.os++[o])[0]? =_;rw[oz (cJ.mp e).1];erw[e]
theorem PM:bo ["self","item"] ["self","item"] (aU GG):=bp aJ
inductive adM(K:aa)(C:Addr)(vs:List V)(H:Hp)(Q:VK):Prop |mk (a:_)(q:_)(M:_)(D:_)(S:_)(v:_)(d:_)(o:_)(h0:vs=[.ref a,v])(h1:cV K C H a q M S)(h2:dC M D S)(h3:M.Ok)(h4:RD K H v d)(h5:jC M.rs.length d o)(h6:ft M.rs (fY (jV S) o))(h7:S.ds.length<20)(h8:∀H',cV K C H' a q M (tH S d o)->dI [a,q] H H'->Q (.int (S.ds.length+1:Nat)) H')
def FE(K:aa)(C:Addr):Sp:=λvs H Q _=>adM K C vs H Q
theorem a39(F:MA K C "feed" "Runner.feed" GG)(TC:fo K C)(B:bI mg)(a8m:GV mg "MOST_WAITING" (.int 20))(Aj:aA P w K mg aw "is_item" 4 (yW K))(vj:aA P w K mg aw "is_place" 3 (wL K))(vg:aA P w K mg aw "place_behind" 2 (wM K))(KW:cL P w K mg aw C "leads_to" 3 (gm K C λ_ S H Q=>∀v H',RD K H' v (da (jV S))->aH H H'->Q v H')):cL P w K mg aw C "feed" 5 (FE K C):=by
 erw[F.has PM (λvs H Q E h=>?_) (λ_ _ _ _ _ _=>dW λ_ _=>rfl) (λf aL A outer s H vs Q E hr h=>?_)]
 ·let(a,q,M,D,S,v,d,o,rfl,_):=h
  rfl
 ·let(a,q,M,D,S,v,d,o,rfl,R,ok,aD,rd,it,gC,hl,k):=h
  let(dx,mv,bv,cG,tv,e,r1,r2,r3,r4):=R.ob;let(ys,eq,rq):=R.qu;have nd:=PM.nd;have lr:=aD.len;have ly:=rq.length;let(i1,i2,i3):=it.is;erw[_,(aB (bL (cT (cw (pf Aj hr (ak (cU TC.cl TC.mq (pv 0)) (ak (pv 1) ay))))) (aI ku) bQ) (aB (bL (cT (cw (pf vj hr (ak (cU TC.cl TC.mq (pv 0)) (ak (pf vg hr (ak (jO KW TC.cl (hr.mono az) (pv 0)) (ak (pv 1) ay))) ay))))) (aI ku) bQ) (aB (bL (cf Js (fU K B (ak (cU TC.cl TC.kS (pv 0)) ay)) (eD (x:="MOST_WAITING") rfl a8m) (bS _)) (aI ku) bQ) (aB (gb (jr K Z (cU TC.cl TC.kS (pv 0)) (ak (pv 1) ay))) (aI (aQ (fU K B (ak (cU TC.cl TC.kS (pv 0)) ay)))))))),?_];erw[_,Z,a,dx,_,_,Z,e,Z,_,Z,mv,v,M.rs,_,d,Z,r1,rd,ao,i2,i3,λH1 s1=>#[_,Z,?_]];rw[i1];erw[aR ?_];have e1:=s1 _ _ e;have R1:=R.same ok.row.no s1;erw[_,Z,a,dx,_,_,Z,e1,Z,?_];erw[_,Z,a,dx,_,Z,e1,Z,a,q,M,D,S,Z,R1,ok,aD,λg H2 rg s2=>?_];have fN:=s1.trans s2;have gl:(jV S).length=M.rs.length:=DS _ _ ok.pl ok.mj;erw[_,Z,g,v,jV S,d,o,Z,rg,RD.mono fN _ rd,it.it,λns sp e'=>by rw[gl];exact(it.ln ns sp e').1.len,ao,λu H3 ru s3=>?_];have gp:=fN.trans s3;erw[mv,u,M.rs,_,_,Z,RD.mono gp _ r1,ru,ao,λH4 s4=>#[_,Z,?_]];rw[CM gC];erw[aR ?_];have fM:=gp.trans s4;have e4:=fM _ _ e;have eq4:=fM _ _ eq;erw[_,Z,a,dx,_,_,Z,e4,Z,q,_,Z,.inl (aF.of eq4),_,_,Z,Z,_,Z,?_];rw[show decide ((ys.length:Int)>=20)=false from dM ao];erw[aR ?_];have jg:sizeLine=16777216:=by decide
  erw[_,Z,a,dx,_,_,Z,e4,Z,.inl #[Z,_,aF.of eq4],_,Z,q,ys,_,Z,Z,eq4,ao,?_];have aq:=R.ne;have tu:cR H4 (_L.upd H4 q (.lst (ys++[v]))):=.upd eq4 trivial;have e5:(_L.upd H4 q (.lst (ys++[v]))) a=some (.ins C dx (gB mv bv (.int S.dn) (.ref q) cG (.int S.rate) (.str S.side) (.str S.mark) tv)):=by rw[aY aq];erw[e4]
  erw[_,Z,a,dx,_,_,Z,e5,Z,q,_,Z,.inl (aF.of cg),?_];have sv:cR H (_L.upd H4 q (.lst (ys++[v]))):=fM.v.trans tu;have el:((ys++[v]).length:Int)=((S.ds.length+1:Nat):Int):=by rw[cD,ly];rfl
  rw[el];erw[k _ #[#[dx,mv,bv,cG,tv,e5,RD.v sv _ (kT _ _ _ _ _) r1,RD.v sv _ (gq _) r2,r3.v sv,r4.v sv],_,cg,?_] λb o' eb hb=>?_]
  ·exact(aK.v sv _ ok.row.no rq).append (cE (RD.v sv _ it.it.no rd) cX)
  ·have KQ:b≠q:=λz=>hb (by rw[z];simp)
   rw[aY KQ];erw[fM _ _ eb]
end
section
def kX(S:bu):bu:=match S.os with |o::os=>{S with pl:=fY S.pl o,ds:=S.ds.tail,os:=os,dn:=0} |[]=>S
theorem cW.tail{n:Nat}{d:ah}{ds:List ah}{o:Itm}{os:List Itm}(h:cW n (d::ds) (o::os)):cW n ds os:=#[by have:=h.len;simpa using this,λi d' o' e1 e2=>h.it (i+1) d' o' (by simpa using e1) (by simpa using e2),λi ns sp e=>h.ok (i+1) ns sp (by simpa using e)]
theorem RowW.tail{d:ah}{ds:List ah}{o:Itm}{os:List Itm}(h:RowW (d::ds) (o::os)):RowW ds os:=λi d' e1 e2=>h (i+1) d' (by simpa using e1) (by simpa using e2)
structure la(M:bC)(D:Nat)(S:bu):Prop where
 row:cW M.rs.length S.ds S.os
 rw:RowW S.ds S.os
 len:S.ds.length<=20
 cj:10<=S.rate
 cm:S.rate<=200
 pl:S.pl.length=M.rs.length
 pd:Dd (D+10) S.pc
 pm:S.pc<=1600
 bG:tS D S.pc S.bG
 D1:64<=D
 D2:D<=1500
theorem dC.raw{M:bC}{D:Nat}{S:bu}(h:dC M D S):la M D S:=#[h.row,h.rw,h.len,h.cj,h.cm,h.pl,h.pd,h.pm,h.bG,h.D1,h.D2]
theorem la.ok{M:bC}{D:Nat}{S:bu}(h:la M D S)(hd:S.dn=0\/∃ns sp,S.os[0]? =some (some (ns,sp))/\S.dn<aG ns):dC M D S:=#[h.row,h.rw,h.len,h.cj,h.cm,hd,h.pl,h.pd,h.pm,h.bG,h.D1,h.D2]
theorem la.end{M:bC}{D:Nat}{S:bu}(h:la M D S)(hn:S.os≠[]):dC M D (kX S):=by let(pl,dn,ds,os,pc,rate,side,mark,bG):=S;cases os with |nil=>exact(hn Z).elim |cons o os=>have ll:=h.row.len;cases ds with |nil=>simp at ll |cons d ds=>
 erw[h.row.tail,h.rw.tail,?_,h.cj,h.cm,.inl Z,?_,h.pd,h.pm,h.bG,h.D1,h.D2]
 ·have:=h.len
  simp only[gz]at this;show ds.length<=20
  lia
 ·erw[WM h.pl λns sp e=>(h.row.ok 0 ns sp (by rw[<-e];rfl)).1.len]
theorem abH(xs:List V):lX xs (some 1) none=xs.drop 1:=LY xs
theorem PU:bo ["self"] ["self"] (aU GJ):=bp aJ
inductive adP(K:aa)(C:Addr)(vs:List V)(H:Hp)(Q:VK):Prop |mk (a:_)(q:_)(M:_)(D:_)(S:_)(h0:vs=[.ref a])(h1:cV K C H a q M S)(h2:la M D S)(h3:M.Ok)(h4:S.os≠[])(h5:∀q' H',cV K C H' a q' M (kX S)->H q'=none->dI [a] H H'->Q .bw H')
def FF(K:aa)(C:Addr):Sp:=λvs H Q _=>adP K C vs H Q
theorem a3c(F:MA K C "end_first" "Runner.end_first" GJ)(TC:fo K C)(vg:aA P w K mg aw "place_behind" 2 (wM K)):cL P w K mg aw C "end_first" 3 (FF K C):=by
 erw[F.has PU (λvs H Q E h=>?_) (λ_ _ _ _ _ _=>dA λ_=>rfl) (λf aL A outer s H vs Q E hr h=>?_)]
 ·let(a,q,M,D,S,rfl,_):=h
  rfl
 ·let(a,q,M,D,S,rfl,R,ok,aD,hn,k):=h
  let(dx,mv,bv,cG,tv,e,r1,r2,r3,r4):=R.ob;let(ys,eq,rq):=R.qu;have aq:=R.ne;have nd:=PU.nd;have lr:=aD.len;have ll:=ok.row.len;erw[_,(aB (iM TC.cl TC.xC (pv 0) (pf vg hr (ak (cU TC.cl TC.xC (pv 0)) (ak (px K (cU TC.cl TC.kS (pv 0)) aE) ay)))) (aB (iM TC.cl TC.kS (pv 0) (zv (yZ K rfl) (cU TC.cl TC.kS (pv 0)) (zp aE) zq)) (aI (iM TC.cl TC.qm (pv 0) aE)))),?_];let(pl,dn,ds,os,pc,rate,side,mark,bG):=S;cases os with |nil=>exact(hn Z).elim |cons o os=>cases ds with |nil=>simp at ll |cons d ds=>
   let(y,yr,rfl,ry,rr):=rq.cons_inv;have it:itR d o:=ok.row.it 0 d o Z rfl;have lp:pl.length=M.rs.length:=ok.pl;erw[_,Z,a,dx,_,_,Z,e,Z,?_];erw[_,Z,a,dx,_,_,Z,e,Z,.inl #[q,_,0,y,Z,Z,aF.of eq,cx (df 0) Z,?_]];erw[bv,y,pl,d,o,Z,r2,ry,it,λns sp e'=>by rw[lp];exact(ok.row.ok 0 ns sp (by rw[<-e'];rfl)).1.len,ao,λu H1 ru s1=>?_];have e1:=s1 _ _ e;erw[_,Z,a,dx,_,Z,e1,by show 9<1000;decide,?_];have eq1:(_L.upd H1 a (.ins C dx (gB mv u (.int dn) (.ref q) cG (.int rate) (.str side) (.str mark) tv))) q=some (.lst (y::yr)):=by rw[aY aq.symm];erw[s1 _ _ eq]
   erw[_,Z,a,dx,_,_,Z,cg,Z,_,Z,q,_,Z,.inl #[aF.of eq1,λq' H2 n2=>?_]];have e2:=n2.same _ _ (cg (a:=a));erw[_,Z,a,dx,_,Z,e2,by show 9<1000;decide,?_];erw[_,Z,a,dx,_,Z,cg,by show 9<1000;decide,?_];have Mm:a≠q':=λz=>by have:=n2.no;rw[<-z,cg]at this;cases this
   have key:∀X:Hp,(∀b,b≠a->X b=H2 b)->Q .bw (_L.upd X a (.ins C dx (gB mv u (.int 0) (.ref q') cG (.int rate) (.str side) (.str mark) tv))):=by
    intro X hX;have bt:dI [a] H (_L.upd X a (.ins C dx (gB mv u (.int 0) (.ref q') cG (.int rate) (.str side) (.str mark) tv))):=λb o' eb hb=>by have ha:b≠a:=λz=>hb (by rw[z];erw[.head _]);rw[aY ha,hX b ha];erw[n2.same _ _ (by rw[aY ha];erw[s1 _ _ eb])]
    have sv:=bt.v λx hx o' eo=>by rw[dN]at hx;rw[hx,e]at eo;cases eo;trivial
    have Zj:cR H1 (_L.upd X a (.ins C dx (gB mv u (.int 0) (.ref q') cG (.int rate) (.str side) (.str mark) tv))):=λb o' nb eb=>by
     have ha:b≠a:=λz=>by rw[z,e1]at eb;cases eb;erw[nb trivial]
     rw[aY ha,hX b ha];erw[n2.same _ _ (by rw[aY ha];erw[eb])]
    have oZ:=n2.at';rw[abH]at oZ;erw[k q' _ #[#[dx,mv,u,cG,tv,cg,RD.v sv _ (kT _ _ _ _ _) r1,RD.v Zj _ (gq _) ru,r3.v sv,r4.v sv],yr,?_,?_] ?_ bt]
    ·rw[aY Mm.symm,hX q' Mm.symm];erw[oZ]
    ·erw[aK.v sv _ ok.row.tail.no rr]
    ·cases e':H q' with |none=>rfl |some o'=>have h1:=s1 _ _ e';have h2:=n2.no;rw[aY Mm.symm,h1]at h2;cases h2
   erw[key _ (λb hb=>by rw[aY hb])]
theorem mn4{x y z u q:Rat}(h:q=x\/q=y\/q=z\/q=u)(h1:q<=x)(h2:q<=y)(h3:q<=z)(h4:q<=u):mn (mn (mn x y) z) u=q:=by
 erw[rn ?_ (gD (gD (gD h1 h2) h3) h4)];rcases h with h|h|h|h
 ·rw[h];erw[cM (fb _ _) (cM (fb _ _) (fb _ _))]
 ·rw[h];erw[cM (fb _ _) (cM (fb _ _) (gM _ _))]
 ·rw[h];erw[cM (fb _ _) (gM _ _)]
 ·rw[h];erw[gM _ _]
theorem Ui{H:Hp}{Q:VK}{l:Addr}{u1 u2 u3:V}{x y z:Rat}(dl:H l=some (.lst [u1,u2,u3]))(R1:bM K H u1 x)(R2:bM K H u2 y)(R3:bM K H u3 z)(b1:Bd 2000 x)(b2:Bd 2000 y)(b3:Bd 2000 z)(k:∀v,bM K H v (mn (mn x y) z)->Q v H):md K [.ref l] H Q E0:=by
 erw[l,[u1,u2,u3],[x,y,z],Z,aF.of dl,#[R1,b1,R2,b2,R3,b3,trivial],by simp,λc v q e1 e2 hq=>k v ?_];have e:mn (mn x y) z=q:=by
  erw[Tt ?_ (hq _ (by simp)) (hq _ (by simp)) (hq _ (by simp))]
  match c,e2 with |0,e2=>cases e2;erw[.inl rfl] |1,e2=>cases e2;erw[.inr (.inl rfl)] |2,e2=>cases e2;erw[.inr (.inr rfl)]
 rw[e]
 match c,e1,e2 with |0,e1,e2=>cases e1;cases e2;erw[R1] |1,e1,e2=>cases e1;cases e2;erw[R2] |2,e1,e2=>cases e1;cases e2;erw[R3]
theorem Uh{H:Hp}{Q:VK}{l:Addr}{u1 u2 u3 u4:V}{x y z t:Rat}(dl:H l=some (.lst [u1,u2,u3,u4]))(R1:bM K H u1 x)(R2:bM K H u2 y)(R3:bM K H u3 z)(R4:bM K H u4 t)(b1:Bd 2000 x)(b2:Bd 2000 y)(b3:Bd 2000 z)(b4:Bd 2000 t)(k:∀v,bM K H v (mn (mn (mn x y) z) t)->Q v H):md K [.ref l] H Q E0:=by
 erw[l,[u1,u2,u3,u4],[x,y,z,t],Z,aF.of dl,#[R1,b1,R2,b2,R3,b3,R4,b4,trivial],by simp,λc v q e1 e2 hq=>k v ?_];have e:mn (mn (mn x y) z) t=q:=by
  erw[mn4 ?_ (hq _ (by simp)) (hq _ (by simp)) (hq _ (by simp)) (hq _ (by simp))]
  match c,e2 with |0,e2=>cases e2;erw[.inl rfl] |1,e2=>cases e2;erw[.inr (.inl rfl)] |2,e2=>cases e2;erw[.inr (.inr (.inl rfl))] |3,e2=>cases e2;erw[.inr (.inr (.inr rfl))]
 rw[e]
 match c,e1,e2 with |0,e1,e2=>cases e1;cases e2;erw[R1] |1,e1,e2=>cases e1;cases e2;erw[R2] |2,e1,e2=>cases e1;cases e2;erw[R3] |3,e1,e2=>cases e1;cases e2;erw[R4]
theorem Eb{D:Nat}{q:Rat}{z:Int}(h:Dd D q)(hl:q<=1600)(hz:0<=z)(A4:z<2^24)(hD:D<=1700):Bd 2000 (q+(z:Rat)):=by have b:Bd (D+11) q:=h.bd (cM hl aJ);exact(jZ b ao).mono ao
theorem PK:bo ["self","top","reach","left","rise","fall","middles","ends","square","steps","gone","still"] ["self","top","reach","left"] (aU Gx):=bp aJ
def CQ(M:bC)(S:bu)(top R:Rat)(left:Int):bu:={S with pc:=uP M.r M.f S.pc top R left S.bG,bG:=JC S.bG}
inductive adK(K:aa)(C:Addr)(vs:List V)(H:Hp)(Q:VK):Prop |mk (a:_)(q:_)(M:_)(D:_)(S:_)(tv:_)(Rv:_)(top:_)(R:_)(left:_)(h0:vs=[.ref a,tv,Rv,.int left])(h1:cV K C H a q M S)(h2:dC M D S)(h3:M.Ok)(h4:bM K H tv top)(h5:Dd 14 top)(h6:top<=1600)(h7:bM K H Rv R)(h8:Dd 64 R)(h9:R<=1600)(vq:1<=left)(L8:left<=100)(vp:¬Halt S.pc S.bG)(Ve:∀v H',bM K H' v (oN M.r M.f S.pc top R left S.bG)->cV K C H' a q M (CQ M S top R left)->dI [a] H H'->Q v H')
def Ov(K:aa)(C:Addr):Sp:=λvs H Q _=>adK K C vs H Q
theorem a32(F:MA K C "next_square" "Runner.next_square" Gx)(TC:fo K C)(je:aA P w K mg aw "plus_whole" 4 (rX K))(UL:aA P w K mg aw "times" 3 (uv (·*·) K))(tf:aA P w K mg aw "fraction" 3 (wJ K))(mF:aA P w K mg aw "least" 2 (md K))(KY:cL P w K mg aw C "is_held" 1 (gm K C λ_ S H Q=>Q (.bl S.bG.isSome) H)):cL P w K mg aw C "next_square" 5 (Ov K C):=by
 erw[F.has PK (λvs H Q E h=>?_) (λ_ _ _ _ _ _=>yb λ_ _ _ _=>rfl) (λf aL A outer s H vs Q E hr h=>?_)]
 ·let(a,q,M,D,S,tv,Rv,top,R,left,rfl,_):=h
  rfl
 ·let(a,q,M,D,S,tv,Rv,top,R,left,rfl,R0,ok,aD,rt,td,tl,rR,Rd,Rl,l1,l2,nh,k):=h
  let(dx,mv,bv,cG,sv,e,r1,r2,r3,r4):=R0.ob;let(ys,eq,rq):=R0.qu;have aq:=R0.ne;have nd:=PK.nd;have iA:=aD.r1;have ie:=aD.f1;have D1:=ok.D1;have D2:=ok.D2;have jg:(2:Int)^24=16777216:=by decide
  let(ma,mb,rfl,gE,jR):=oT r1;erw[_,(aB (zo (i:=4) (j:=5) Z nd Z Z az Z Z (ak (px K (cU TC.cl TC.mq (pv 0)) aE) (ak (px K (cU TC.cl TC.mq (pv 0)) aE) ay)) rfl) (aB (pS 6 nd (dw (ak (pf je hr (ak (cU TC.cl TC.xB (pv 0)) (ak (pv 4) ay))) (ak (pv 1) (ak (pf je hr (ak (pv 2) (ak (aP cK (pv 5) (aP j9 (aP cK aE (pv 3)) aE)) ay))) ay))))) (aB (pS 7 nd (dw (ak (pf je hr (ak (cU TC.cl TC.xB (pv 0)) (ak (aP cK aE (pv 4)) ay))) (ak (pv 1) (ak (pf je hr (ak (pv 2) (ak (aP cK (aP cK aE (pv 5)) (aP j9 (pv 3) aE)) ay))) ay))))) (aB (j3 (bL (cw (jO KY TC.cl (hr.mono az) (pv 0))) (aB (fh (cU TC.cl TC.D4 (pv 0)) (eg K rfl (n:=3) rfl (bV (aV 8 nd) (bV (aV 9 nd) (bV (aV 10 nd) e9))))) (aB (pS 11 nd (aP j9 (aP j9 (pv 9) (pv 10)) aE)) (aB (gb (jr K Z (pv 6) (ak (pf UL hr (ak (pv 8) (ak (pf tf hr (ak (aP eu (aP cK aE (pv 11)) aE) (ak (aP cK aE (pv 9)) ay))) ay))) ay))) (aB (gb (jr K Z (pv 7) (ak (pf UL hr (ak (pv 8) (ak (pf tf hr (ak (pv 11) (ak (pv 9) ay))) ay))) ay))) (aI (iM TC.cl TC.D4 (pv 0) (j6 (ak (pv 8) (ak (pv 9) (ak (aP eu (pv 10) aE) ay)))))))))) bQ)) (aB (iM TC.cl TC.xB (pv 0) (pf mF hr (ak (pv 7) ay))) (aI (aQ (pf mF hr (ak (pv 6) ay))))))))),?_];erw[_,Z,a,dx,_,_,Z,e,Z,.inr #[ma,_,1,.int M.r,Z,Z,gE,Z,?_]];erw[_,Z,a,dx,_,_,Z,e,Z,.inr #[ma,_,2,.int M.f,Z,Z,gE,Z,_,_,Z,?_]];have fl1:(M.f*(2*left-1)).natAbs<=50*200:=by rw[jD];erw[pM ao ao]
  have a9C:0<=M.f*(2*left-1):=gU ao ao;have fl2:(2*M.f*(left-1)).natAbs<=100*100:=by rw[jD];erw[pM ao ao]
  have a9B:0<=2*M.f*(left-1):=gU ao ao;have Su:Bd 2000 S.pc:=(ok.pd.bd (cM ok.pm aJ)).mono ao;have RB:Bd 2000 R:=(Rd.bd (cM Rl aJ)).mono az;have tB:Bd 2000 top:=(td.bd (cM tl aJ)).mono az;have B1:Bd 2000 (S.pc+(M.r:Rat)):=Eb ok.pd ok.pm ao ao ao;have B2:Bd 2000 (R+((M.f*(2*left-1):Int):Rat)):=Eb Rd Rl a9C ao ao;have B3:Bd 2000 (S.pc+((2*M.r:Int):Rat)):=Eb ok.pd ok.pm ao ao ao;have B4:Bd 2000 (R+((2*M.f*(left-1):Int):Rat)):=Eb Rd Rl a9B ao ao;erw[_,Z,a,dx,_,_,Z,e,Z,_,Z,cG,_,_,Z,r3,Su,ao,λu1 H1 jm s1=>?_];erw[_,Z,_,Z,_,Z,_,Z,_,_,Z,Z,.of_left (dF az az),_,_,Z,Z,_,_,Z,Z,.of_left (dF ao ao),Rv,_,_,Z,rR.go s1,RB,ao,λu2 H2 nj s2=>?_];erw[cy Z,λlm H3 n3=>?_];have gp:=s1.trans (s2.trans n3.same);erw[_,Z,a,dx,_,_,Z,gp _ _ e,Z,_,Z,_,_,Z,Z,.of_left (dF az az),cG,_,_,Z,r3.go gp,Su,ao,λu3 H4 ru3 s4=>?_];have fM:=gp.trans s4;erw[_,Z,_,Z,_,Z,_,_,Z,Z,.of_left (dF az az),_,Z,_,_,Z,Z,_,_,Z,Z,.of_left (dF ao ao),Rv,_,_,Z,rR.go fM,RB,ao,λu4 H5 ru4 s5=>?_];erw[cy Z,λle H6 n6=>?_];have pW:=fM.trans (s5.trans n6.same);have iZ:=s4.trans (s5.trans n6.same);have e6:=pW _ _ e;have R6:=R0.same ok.row.no pW;have U1:=jm.go (s2.trans (n3.same.trans iZ));have U2:=nj.go (n3.same.trans iZ);have U3:=ru3.go (s5.trans n6.same);have U4:=ru4.go n6.same;have T6:=rt.go pW;have dm:=iZ _ _ n3.at';have de:=n6.at';have Mo:a≠lm:=λz=>by have:=n3.no;rw[<-z,(s1.trans s2) _ _ e]at this;cases this
  have X7:a≠le:=λz=>by have:=n6.no;rw[<-z,(fM.trans s5) _ _ e]at this;cases this
  have Ub:lm≠le:=λz=>by have:=n6.no;rw[<-z,(s4.trans s5) _ _ n3.at']at this;cases this
  have nlm:H lm=none:=by cases e':H lm with |none=>rfl |some o=>have:=(s1.trans s2) _ _ e';rw[n3.no]at this;cases this
  have nle:H le=none:=by cases e':H le with |none=>rfl |some o=>have:=(fM.trans s5) _ _ e';rw[n6.no]at this;cases this
  erw[λO H7=>∃uo w8 w9 wD Nj um ue,O=[some (.ref a),some tv,some Rv,some (.int left),some (.int M.r),some (.int M.f),some (.ref lm),some (.ref le),w8,w9,wD,Nj]/\dI [a,lm,le] H6 H7/\H7 a=some (.ins C dx (gB (.ref ma) bv (.int S.dn) (.ref q) cG (.int S.rate) (.str S.side) (.str S.mark) uo))/\yd K H7 uo (JC S.bG)/\H7 lm=some (.lst um)/\H7 le=some (.lst ue)/\(∀H8 Q',cR H7 H8->H8 lm=some (.lst um)->(∀v,bM K H8 v (oN M.r M.f S.pc top R left S.bG)->Q' v H8)->md K [.ref lm] H8 Q' E0)/\(∀H8 Q',cR H7 H8->H8 le=some (.lst ue)->(∀v,bM K H8 v (uP M.r M.f S.pc top R left S.bG)->Q' v H8)->md K [.ref le] H8 Q' E0),?_,?_]
  ·erw[_,Z,a,dx,_,Z,e6,Z,a,q,M,D,S,Z,R6,ok,aD,_,Z,?_]
   cases hs:S.bG with |none=>rw[hs]at r4;erw[aR #[sv,_,_,_,_,_,_,Z,dI.refl _ _,e6,r4,dm,de,λH8 Q' sV d8 kq=>Ui d8 (U1.v sV) (T6.v sV) (U2.v sV) B1 tB B2 kq,λH8 Q' sV d8 kq=>Ui d8 (U3.v sV) (T6.v sV) (U4.v sV) B3 tB B4 kq]] |some z=>
    let(sq,st,gn):=z;rw[hs]at r4;have sk:=ok.bG;rw[hs]at sk nh;let(g1,g2,g3):=zN sk ok.pd.nn nh;let(gn0,gn1,Ft,Fv,Fu,_,_):=sk;let(ta,su,rfl,hta,hsu):=r4;erw[bR ?_];have a6M:=hta.go pW;have Kq:=hsu.go pW;have O5:Bd 2000 sq:=(Fv.bd Fu).mono ao;erw[_,Z,a,dx,_,_,Z,e6,Z,ta,_,Z,a6M,Z,_,_,Z,_,_,Z,_,_,Z,Z,?_];erw[_,Z,_,Z,_,_,Z,Z,_,_,Z,Z,?_];have jg:sizeLine=16777216:=by decide
    erw[_,Z,.inl #[Z,_,aF.of dm],_,Z,_,Z,_,_,Z,Z,.of_left (dF az az),_,_,Z,Z,_,Z,_,_,Z,Z,.of_left (dF az az),_,_,Z,ao,m6 (n:=64) ao az,λfv H7 rf s7=>?_];have fB:Bd 2000 (Rat.divInt (2*(st-gn-1)+1) (2*st)):=(ml (n:=12) ao ao ao).mono az;have fB2:Bd 2000 (Rat.divInt (st-gn-1) st):=(ml (n:=12) ao ao ao).mono az;have pB:Bd 2000 (sq*Rat.divInt (2*(st-gn-1)+1) (2*st)):=((Fv.bd Fu).mul (ml (n:=12) ao ao ao)).mono ao;have pB2:Bd 2000 (sq*Rat.divInt (st-gn-1) st):=((Fv.bd Fu).mul (ml (n:=12) ao ao ao)).mono ao;erw[su,fv,sq,_,Z,Kq.go s7,rf,O5,fB,λx1 H8 rx1 s8=>?_];have wU:=s7.trans s8;have W2:=wU _ _ dm;erw[lm,_,_,Z,Z,W2,by show 3<sizeLine;lia,?_];have v8:cR H8 (_L.upd H8 lm (.lst ([u1,tv,u2]++[x1]))):=.upd W2 trivial;have Wf:(_L.upd H8 lm (.lst ([u1,tv,u2]++[x1]))) le=some (.lst [u3,tv,u4]):=by rw[aY Ub.symm];erw[wU _ _ de]
    erw[_,Z,.inl #[Z,_,aF.of Wf],_,Z,_,Z,_,Z,_,_,Z,ao,m6 (n:=64) ao az,λgv H9 rg s9=>?_];erw[su,gv,sq,_,Z,((Kq.go wU).v v8).go s9,rg,O5,fB2,λx2 oq rx2 uA=>?_];have wR:=s9.trans uA;have Wg:=wR _ _ Wf;erw[le,_,_,Z,Z,Wg,by show 3<sizeLine;lia,?_];have v10:cR oq (_L.upd oq le (.lst ([u3,tv,u4]++[x2]))):=.upd Wg trivial;erw[_,Z,_,Z,_,Z,_,_,Z,Z,cy Z,λtn jj sA=>?_];have Yi:cR H6 oq:=(wU.v.trans v8).trans wR.v;have Yh:cR H6 jj:=(Yi.trans v10).trans sA.same.v;have e8:(_L.upd H8 lm (.lst ([u1,tv,u2]++[x1]))) a=some (.ins C dx (gB (.ref ma) bv (.int S.dn) (.ref q) cG (.int S.rate) (.str S.side) (.str S.mark) (.ref ta))):=by rw[aY Mo];erw[wU _ _ e6]
    have VW:jj a=some (.ins C dx (gB (.ref ma) bv (.int S.dn) (.ref q) cG (.int S.rate) (.str S.side) (.str S.mark) (.ref ta))):=sA.same _ _ (by rw[aY X7];erw[wR _ _ e8]);erw[_,Z,a,dx,_,Z,VW,by show 9<1000;decide,?_];have BP:cR jj (_L.upd jj a (.ins C dx (gB (.ref ma) bv (.int S.dn) (.ref q) cG (.int S.rate) (.str S.side) (.str S.mark) (.ref tn)))):=.upd VW trivial;have uh:=Yh.trans BP;have Yg:=(((v8.trans wR.v).trans v10).trans sA.same.v).trans BP;have Yk:=(v10.trans sA.same.v).trans BP;erw[.ref tn,_,_,_,_,[u1,tv,u2,x1],[u3,tv,u4,x2],Z,λb o' eb hb=>?_,cg,#[tn,su,Z,aW.v BP (aW.of sA.at'),Kq.v uh],?_,?_,λH' Q' sV d' kq=>?_,λH' Q' sV d' kq=>?_]
    ·have ha:b≠a:=λz=>hb (by rw[z];simp)
     have hlm:b≠lm:=λz=>hb (by rw[z];simp);have hle:b≠le:=λz=>hb (by rw[z];simp);rw[aY ha];erw[sA.same _ _ (by rw[aY hle];erw[wR _ _ (by rw[aY hlm];erw[wU _ _ eb])])]
    ·rw[aY Mo.symm]
     erw[sA.same _ _ (by rw[aY Ub];erw[wR _ _ cg])]
    ·rw[aY X7.symm]
     erw[sA.same _ _ cg]
    ·erw[Uh d' ((U1.v uh).v sV) ((T6.v uh).v sV) ((U2.v uh).v sV) ((rx1.v Yg).v sV) B1 tB B2 pB kq]
    ·erw[Uh d' ((U3.v uh).v sV) ((T6.v uh).v sV) ((U4.v uh).v sV) ((rx2.v Yk).v sV) B3 tB B4 pB2 kq]
  ·rintro O H7 ⟨uo,w8,w9,wD,Nj,um,ue,rfl,bt,e7,lJ,dm7,de7,km,ke⟩
   erw[_,Z,?_];dsimp only[uk];erw[ke H7 _ .refl de7 λpe rpe=>?_];erw[_,Z,a,dx,_,Z,e7,by show 9<1000;decide,?_];have v8:cR H7 (_L.upd H7 a (.ins C dx (gB (.ref ma) bv (.int S.dn) (.ref q) pe (.int S.rate) (.str S.side) (.str S.mark) uo))):=.upd e7 trivial;erw[_,Z,?_];dsimp only[uk];erw[km _ _ v8 (by rw[aY Mo.symm];erw[dm7]) λv rv=>?_];have bH:dI [a] H (_L.upd H7 a (.ins C dx (gB (.ref ma) bv (.int S.dn) (.ref q) pe (.int S.rate) (.str S.side) (.str S.mark) uo))):=λb o' eb hb=>by
    have ha:b≠a:=λz=>hb (by rw[z];simp);rw[aY ha];erw[bt b o' (pW _ _ eb) λhm=>?_];simp only[cO,iu,kH]at hm;rcases hm with h|h|h
    ·erw[ha h]
    ·rw[h,nlm]at eb;cases eb
    ·rw[h,nle]at eb;cases eb
   have vH:cR H (_L.upd H7 a (.ins C dx (gB (.ref ma) bv (.int S.dn) (.ref q) pe (.int S.rate) (.str S.side) (.str S.mark) uo))):=bH.v λx hx o' eo=>by rw[dN]at hx;rw[hx,e]at eo;cases eo;trivial
   erw[k v _ rv #[#[dx,.ref ma,bv,pe,uo,cg,RD.v vH _ (kT _ _ _ _ _) r1,RD.v vH _ (gq _) r2,rpe.v v8,lJ.v v8],ys,bH _ _ eq (by rw[dN];erw[aq.symm]),aK.v vH _ ok.row.no rq] bH]
end
end _a
set_option maxHeartbeats 2000000
namespace _a
open PySem PySem.Spec PyProof.Rows _L _b _l _C _P _W _R
open _O (topR cornO mnO betR atO ownF leadF ownL OkI OkIs)
section
noncomputable def kr(M:bC)(S:bu):Rat:=IY M.f M.j S.rate S.os
noncomputable def mr(M:bC)(S:bu)(ns:List Int)(sp:Int):Rat:=oN M.r M.f S.pc (topR S.rate sp) (kr M S) ((aG ns:Int)-S.dn) S.bG
noncomputable def my(M:bC)(S:bu)(ns:List Int)(sp:Int):ah:=mV M.t (g9 ns S.dn) (mr M S ns sp)
noncomputable def kA(M:bC)(S:bu)(ns:List Int)(sp:Int):bu:={CQ M S (topR S.rate sp) (kr M S) ((aG ns:Int)-S.dn)with dn:=S.dn+1}
def iC(ns:List Int)(S:bu):bu:=if S.dn=aG ns then kX S else S
def cZ(d:ah)(S:bu):bu:=match d with | .tuple [.str w,.str s]=>if w="tool" then{S with side:=s}else if w="mark" then{S with mark:=s}else S |_=>S
inductive One(M:bC):bu->ah->bu->Prop |line {S:bu}{ns:List Int}{sp:Int}:S.os[0]? =some (some (ns,sp))->¬Halt S.pc S.bG->One M S (my M S ns sp) (iC ns (kA M S ns sp)) |fH {S:bu}{d:ah}:S.os[0]? =some none->S.ds[0]? =some d->¬Halt S.pc S.bG->One M S d (kX (cZ d S))
inductive Run(M:bC):bu->List ah->bu->Prop |nil (S:bu):Run M S [] S |cons {S S1 S2:bu}{e:ah}{es:List ah}:One M S e S1->Run M S1 es S2->Run M S (e::es) S2
theorem Run.trans{M:bC}{S S1 S2:bu}{es fs:List ah}(h:Run M S es S1)(g:Run M S1 fs S2):Run M S (es++fs) S2:=by induction h with |nil=>erw[g] |cons o _ ih=>erw[.cons o (ih g)]
theorem Run.snoc{M:bC}{S S1 S2:bu}{es:List ah}{e:ah}(h:Run M S es S1)(g:One M S1 e S2):Run M S (es++[e]) S2:=h.trans (.cons g (.nil _))
theorem FV{M:bC}{D:Nat}{S:bu}(h:la M D S)(d:ah):la M D (cZ d S)/\(cZ d S).os=S.os/\(cZ d S).ds=S.ds/\(cZ d S).dn=S.dn/\(cZ d S).pl=S.pl:=by
 unfold cZ;split
 ·split
  ·erw[#[h.row,h.rw,h.len,h.cj,h.cm,h.pl,h.pd,h.pm,h.bG,h.D1,h.D2],Z,Z,Z,Z]
  ·split
   ·erw[#[h.row,h.rw,h.len,h.cj,h.cm,h.pl,h.pd,h.pm,h.bG,h.D1,h.D2],Z,Z,Z,Z]
   ·erw[h,Z,Z,Z,Z]
 ·erw[h,Z,Z,Z,Z]
theorem J3{M:bC}{D:Nat}{S:bu}(h:la M D S)(aD:M.Ok)(hn:S.os≠[]):Dd 64 (kr M S)/\kr M S<=1600:=by
 have h1:1<=S.os.length:=by cases e:S.os with|nil=>exact(hn e).elim|cons _ _=>simp
 erw[a9A (by have:=aD.f1;lia) (λi _=>a2c aD.j1.1 aD.j1.2 h.cj h.cm h.row.lM i) 1 h1,?_];erw[cM (Lk h1) (a2a h.cj h.cm h.row.lM 1)]
theorem Ua{M:bC}{D:Nat}{S:bu}{ns:List Int}{sp:Int}(h:la M D S)(aD:M.Ok)(eo:S.os[0]? =some (some (ns,sp)))(hd:S.dn<aG ns)(nh:¬Halt S.pc S.bG):la M D (kA M S ns sp):=by
 have hn:S.os≠[]:=λe=>by rw[e]at eo;simp at eo
 let(R1,R2):=J3 h aD hn;let(bZ,s1,s2):=h.row.ok 0 ns sp eo;have D1:=h.D1;have iA:=aD.r1;have ie:=aD.f1;erw[h.row,h.rw,h.len,h.cj,h.cm,h.pl,?_,?_,?_,h.D1,h.D2]
 ·erw[abe ao ao ao h.pd ((F7 _ _).mono ao) (R1.mono ao) h.bG nh]
 ·erw[cM abd (BW s1 s2 h.cj h.cm)]
 ·erw[Zs h.bG h.pd.nn nh]
theorem One.ok{M:bC}{D:Nat}{S S1:bu}{e:ah}(h:dC M D S)(aD:M.Ok)(o:One M S e S1):dC M D S1:=by cases o with
 |@line ns sp eo nh=>
  have hd:S.dn<aG ns:=by
   rcases h.dn with e|⟨zM,pV,e1,e2⟩
   ·rw[e];exact(h.row.ok 0 ns sp eo).1.lead.1
   ·rw[eo]at e1;cases e1;erw[e2]
  have raw:=Ua h.raw aD eo hd nh;have hn:S.os≠[]:=λe=>by rw[e]at eo;simp at eo
  unfold iC;split
  ·erw[raw.end hn]
  ·next cS=>
   erw[raw.ok (.inr #[ns,sp,eo,?_])];have:(kA M S ns sp).dn=S.dn+1:=rfl
   lia |fH eo ed nh=>let(h1,h2,_):=FV h.raw e;erw[h1.end ?_];rw[h2];intro z;rw[z]at eo;simp at eo
theorem Run.ok{M:bC}{D:Nat}{S S1:bu}{es:List ah}(h:dC M D S)(aD:M.Ok)(r:Run M S es S1):dC M D S1:=by induction r with |nil=>erw[h] |cons o _ ih=>erw[ih (o.ok h aD)]
theorem One.no{M:bC}{D:Nat}{S S1:bu}{e:ah}(h:dC M D S)(o:One M S e S1):eA e=true:=by cases o with |line _ _=>erw[Fp _ _ _] |fH eo ed _=>erw[eF.mp h.row.no _ (fR ed)]
theorem Run.no{M:bC}{D:Nat}{S S1:bu}{es:List ah}(h:dC M D S)(aD:M.Ok)(r:Run M S es S1):cA es=true:=by induction r with |nil=>rfl |cons o _ ih=>rw[cA,fz];erw[o.no h,ih (o.ok h aD)]
theorem Du{b:Bool}{A B A' B':Prop}(h1:A->A')(h2:B->B'):(if b=true then A else B)->(if b=true then A' else B'):=by
 cases b
 ·erw[h2]
 ·erw[h1]
theorem PH:bo ["self","most","line","lead","rows","top","reach","told","middle"] ["self","most"] (aU Gs):=bp aJ
inductive adJ(K:aa)(C:Addr)(vs:List V)(H:Hp)(Q:VK):Prop |mk (a:_)(q:_)(M:_)(D:_)(S:_)(ns:_)(sp:_)(most:_)(h0:vs=[.ref a,.int most])(h1:cV K C H a q M S)(h2:dC M D S)(h3:M.Ok)(h4:S.os[0]? =some (some (ns,sp)))(h5:¬Halt S.pc S.bG)(h6:1<=most)(h7:most<=1000)(h8:∀l ys es S' q' H',H l=none->H' l=some (.lst ys)->aK K H' ys es->Run M S es S'->1<=es.length->(es.length:Int)<=most->cV K C H' a q' M S'->Mv a q H q' H'->l≠q'->Q (.ref l) H')
def Ou(K:aa)(C:Addr):Sp:=λvs H Q _=>adJ K C vs H Q
theorem a2W(F:MA K C "steps_of_first" "Runner.steps_of_first" Gs)(TC:fo K C)(B:bI mg)(jw:aA P w K mg aw "lead_of" 1 (mY K))(A6:aA P w K mg aw "step_rows" 3 (yS K))(oY:aA P w K mg aw "top_square" 4 (uu K))(a6Y:aA P w K mg aw "reach_behind_first" 9 (FD K))(Kr:aA P w K mg aw "step_entry" 3 (Cg K))(KZ:cL P w K mg aw C "is_halted" 2 (gm K C λ_ S H Q=>Q (.bl (S.bG.isSome&&decide (S.pc=0))) H))(a8J:cL P w K mg aw C "next_square" 5 (Ov K C))(L3:cL P w K mg aw C "end_first" 3 (FF K C)):cL P w K mg aw C "steps_of_first" 10 (Ou K C):=by
 erw[F.has PH (λvs H Q E h=>?_) (λ_ _ _ _ _ _=>dW λ_ _=>rfl) (λf aL A outer s H vs Q E hr h=>?_)]
 ·let(a,q,M,D,S,ns,sp,most,rfl,_):=h
  rfl
 ·let(a,q,M,D,S,ns,sp,most,rfl,R0,ok,aD,eo,nh,m1,m2,k):=h
  let(dx,mv,bv,cG,tv,e,r1,r2,r3,r4):=R0.ob;let(ys,eq,rq):=R0.qu;have aq:=R0.ne;have nd:=PH.nd;have lr:=aD.len;have iA:=aD.r1;have ie:=aD.f1;have ll:=ok.row.len;have h20:=ok.len;have Ai:0<S.os.length:=(cJ.mp eo).1;have cS:S.os≠[]:=λz=>by rw[z]at Ai;erw[absurd Ai az]
  obtain⟨d,ed⟩:∃d,S.ds[0]? =some d:=#[_,bN (show 0<S.ds.length by lia)];let(y,ey,ry):=rq.get 0 ed;have dG:=iQ (ok.row.it 0 d _ ed eo);subst dG;let(bZ,cP,dX):=ok.row.ok 0 ns sp eo;have a2w:fu ns.length 1000 ns:=#[Z,λz hz=>by have:=bZ.bd z hz;lia,bZ.nz];have aga:=bZ.lead.1;have mz:=qv bZ;have zP:ns.length<=3:=by rw[bZ.len];lia
  have hd0:S.dn<aG ns:=by
   rcases ok.dn with e'|⟨zM,pV,e1,e2⟩
   ·lia
   ·rw[eo]at e1;cases e1;erw[e2]
  let(Rd,Rl):=J3 ok.raw aD cS;erw[_,(aB (pS 2 nd (px K (cU TC.cl TC.kS (pv 0)) aE)) (aB (pS 3 nd (pf jw hr (ak (pv 2) ay))) (aB (pS 4 nd (pf A6 hr (ak (pv 2) ay))) (aB (pS 5 nd (pf oY hr (ak (pv 2) (ak (cU TC.cl TC.zU (pv 0)) ay)))) (aB (pS 6 nd (pf a6Y hr (ak (cU TC.cl TC.mq (pv 0)) (ak (cU TC.cl TC.kS (pv 0)) (ak (cU TC.cl TC.zU (pv 0)) ay))))) (aB (pS 7 nd (dw ay)) (aB (j3 (xg gj (PW.pt (si (cf qh (fU K B (ak (pv 7) ay)) (pv 1) (bS _)) (si (cf qh (cU TC.cl TC.qm (pv 0)) (pv 3) (bS _)) (xf (cT (cw (jO KZ TC.cl (hr.mono az) (pv 0)))))))) (aB (pS 8 nd (kv a8J TC.cl (hr.mono az) (pv 0) (ak (pv 5) (ak (pv 6) (ak (aP j9 (pv 3) (cU TC.cl TC.qm (pv 0))) ay))))) (aB (gb (jr K Z (pv 7) (ak (pf Kr hr (ak (cU TC.cl TC.mq (pv 0)) (ak (px K (pv 4) (cU TC.cl TC.qm (pv 0))) (ak (pv 8) ay)))) ay))) (aI (a1w TC.cl TC.qm (pv 0) aE a6i)))))) (aB (j3 (bL (cf (dU K Z hr.units) (cU TC.cl TC.qm (pv 0)) (pv 3) (bS _)) (aI (gb (jO L3 TC.cl (hr.mono az) (pv 0)))) bQ)) (aI (aQ (pv 7))))))))))),?_];erw[_,Z,a,dx,_,_,Z,e,Z,.inl #[q,_,0,y,Z,Z,aF.of eq,cx (df 0) ey,?_]];erw[_,Z,y,ns,sp,Z,ry,bZ.ne,ao,λH1 s1=>?_];erw[_,Z,y,ns,sp,Z,RD.mono s1 _ ry,a2w,ao,λoU yr H2 nlr W3 RJ s2=>?_];have fN:=s1.trans s2;erw[_,Z,_,Z,a,dx,_,_,Z,fN _ _ e,Z,y,ns,sp,S.rate,Z,RD.mono fN _ ry,cP,dX,ok.cj,ok.cm,λuj H3 rtp s3=>?_];have gp:=fN.trans s3;have e3:=gp _ _ e;erw[_,Z,a,dx,_,_,Z,e3,Z,_,Z,a,dx,_,_,Z,e3,Z,_,Z,a,dx,_,_,Z,e3,Z,mv,.ref q,S.rate,M.rs,M.r,M.f,M.j,M.t,S.ds,S.os,Z,RD.mono gp _ r1,aD,wZ (aF.of (gp _ _ eq)) (aK.mono gp _ rq),ok.row,ao,ao,ok.cj,ok.cm,λuH H4 rrc s4=>?_];have fM:=gp.trans s4;erw[cy Z,λl H5 n5=>?_];have ng:=fM.trans n5.same;have Rf:aH H2 H5:=s3.trans (s4.trans n5.same);have nl:H l=none:=by cases e':H l with |none=>rfl |some o=>have:=fM _ _ e';rw[n5.no]at this;cases this
  have Tf:H oU=none:=by cases e':H oU with |none=>rfl |some o=>have:=s1 _ _ e';rw[nlr]at this;cases this
  have al:a≠l:=λz=>by rw[<-z,e]at nl;cases nl
  have ql:q≠l:=λz=>by rw[<-z,eq]at nl;cases nl
  have X5:a≠oU:=λz=>by rw[<-z,e]at Tf;cases Tf
  have llr:l≠oU:=λz=>by have:=n5.no;rw[z,(s3.trans s4) _ _ W3]at this;cases this
  have Y5:=RJ.length;rw[IQ]at Y5;have td:=F7 S.rate sp;have tl:=BW cP dX ok.cj ok.cm;have tp:=BV cP ok.cj;have a4s:iC ns S=S:=by unfold iC;rw[bj ao]
  have jg:sizeLine=16777216:=by decide
  erw[λO H6=>∃T es us w8,O=[some (.ref a),some (.int most),some y,some (.int (aG ns)),some (.ref oU),some uj,some uH,some (.ref l),w8]/\dI [a,l] H5 H6/\cV K C H6 a q M T/\la M D T/\T.os=S.os/\T.ds=S.ds/\T.rate=S.rate/\T.dn<=aG ns/\1<=es.length/\(es.length:Int)<=most/\H6 l=some (.lst us)/\aK K H6 us es/\cA es=true/\Run M S es (iC ns T),?_,?_]
  ·erw[kE ?_];intro E1
   erw[wC (λO H6=>∃T es us w8,O=[some (.ref a),some (.int most),some y,some (.int (aG ns)),some (.ref oU),some uj,some uH,some (.ref l),w8]/\dI [a,l] H5 H6/\cV K C H6 a q M T/\la M D T/\T.os=S.os/\T.ds=S.ds/\T.rate=S.rate/\T.dn=S.dn+es.length/\T.dn<=aG ns/\(es.length:Int)<=most/\H6 l=some (.lst us)/\aK K H6 us es/\cA es=true/\Run M S es (iC ns T)/\(es=[]->¬Halt T.pc T.bG)) (λ_ H6=>match H6 l with|some (.lst us)=>2000-us.length|_=>0) ?_ ?_ ?_]
   ·erw[S,[],[],none,Z,dI.refl _ _,R0.same ok.row.no ng,ok.raw,Z,Z,Z,Z,ao,by simp;lia,n5.at',cX,Z,by rw[a4s];erw[.nil _],λ_=>nh]
   ·rintro O H6 ⟨T,es,us,w8,rfl,bt,RT,raw,iS,o8,lU,E4,V0,mI,dl,rd,p5,run,hnh⟩
    have lu:=rd.length;let(vC,mv6,bv6,a1Z,Ys,e6,t1,t2,t3,t4):=RT.ob;have F5:cR H5 H6:=bt.v λx hx o' eC=>by
     simp only[cO,iu,kH]at hx;rcases hx with rfl|rfl
     ·rw[ng _ _ e]at eC;cases eC;trivial
     ·rw[n5.at']at eC;cases eC;trivial
    have nos:cA T.ds=true:=by rw[o8];erw[ok.row.no]
    have LD:1<=es.length->∃T' jA mT BN,[some (.ref a),some (.int most),some y,some (.int (aG ns)),some (.ref oU),some uj,some uH,some (.ref l),w8]=[some (.ref a),some (.int most),some y,some (.int (aG ns)),some (.ref oU),some uj,some uH,some (.ref l),BN]/\dI [a,l] H5 H6/\cV K C H6 a q M T'/\la M D T'/\T'.os=S.os/\T'.ds=S.ds/\T'.rate=S.rate/\T'.dn<=aG ns/\1<=jA.length/\(jA.length:Int)<=most/\H6 l=some (.lst mT)/\aK K H6 mT jA/\cA jA=true/\Run M S jA (iC ns T'):=λh1=>#[T,es,us,w8,Z,bt,RT,raw,iS,o8,lU,V0,h1,mI,dl,rd,p5,run];erw[_,Z,l,us,Z,.inl (aF.of dl),_,Z,_,_,Z,Z,_,Z,?_];show if decide ((us.length:Int)<most)=true then _ else _;by_cases c1:(us.length:Int)<most
    ·rw[cu c1]
     erw[bR ?_];erw[_,Z,a,vC,_,_,Z,e6,Z,_,Z,_,_,Z,Z,_,Z,?_];show if decide ((T.dn:Int)<(aG ns:Int))=true then _ else _;by_cases c2:T.dn<aG ns
     ·rw[cu ao]
      erw[bR ?_];have CN:dC M D T:=raw.ok (.inr #[ns,sp,by rw[iS];erw[eo],c2]);have a4r:iC ns T=T:=by unfold iC;rw[bj ao]
      erw[_,Z,a,vC,_,Z,e6,Z,a,q,M,D,T,Z,RT,CN,aD,_,Z,?_];by_cases c3:Halt T.pc T.bG
      ·have hb:(T.bG.isSome&&decide (T.pc=0))=true:=by let(h1,h2):=c3;rw[cu h2,BB];cases hs:T.bG with |none=>exact(h1 hs).elim |some _=>rfl
       rw[hb];erw[aR ?_];erw[LD ?_];cases es with |nil=>exact(hnh Z c3).elim |cons _ _=>simp
      ·have hb:(T.bG.isSome&&decide (T.pc=0))=false:=by cases hs:T.bG with |none=>rfl |some _=>show decide (T.pc=0)=false;erw[dM λh2=>c3 #[by rw[hs];simp,h2]]
       rw[hb];erw[bR ?_];have rT:kr M T=kr M S:=by unfold kr;rw[iS,lU]
       erw[_,Z,a,vC,_,Z,e6,Z,?_];erw[_,Z,_,Z,_,Z,_,Z,a,vC,_,_,Z,e6,Z,_,_,Z,Z,?_];have a0n:bM K H6 uj (topR S.rate sp):=((rtp.go s4).go n5.same).v F5;have a0w:bM K H6 uH (kr M S):=(rrc.go n5.same).v F5;erw[a,q,M,D,T,uj,uH,topR S.rate sp,kr M S,_,Z,RT,CN,aD,a0n,td,tl,a0w,Rd,Rl,ao,ao,c3,λmid H7 a0I R7 b7=>?_];let(tO,uU,Ee,CH,BR,e7',NQ,Zi,Zh,Zg):=R7.ob;have e7:H7 a=some (.ins C tO (gB uU Ee (.int T.dn) (.ref q) CH (.int T.rate) (.str T.side) (.str T.mark) BR)):=e7';have BO:cR H6 H7:=b7.v λx hx o' eC=>by rw[dN]at hx;rw[hx,e6]at eC;cases eC;trivial
       have pD:=b7 _ _ dl (by rw[dN];erw[al.symm]);have abx:=Rf _ _ W3;have abw:=bt _ _ abx (by simp;erw[X5.symm,llr.symm]);have abv:=b7 _ _ abw (by rw[dN];erw[X5.symm]);have a0M:aK K H7 yr (lL ns):=aK.v BO _ (IP ns) (aK.v F5 _ (IP ns) (aK.mono Rf _ RJ));obtain⟨rv,VE⟩:∃rv,yr[T.dn]? =some rv:=#[_,bN (show T.dn<yr.length by lia)];let(dr,VU,rdr):=a0M.get' T.dn VE;rw[RE c2]at VU;cases VU;have mB:Bd 2000 (oN M.r M.f T.pc (topR S.rate sp) (kr M S) ((aG ns:Int)-T.dn) T.bG):=by have D1:=raw.D1;have D2:=raw.D2;exact((Tz ao ao ao raw.pd (td.mono ao) (Rd.mono ao) raw.bG c3).bd (cM Tw (cM tl aJ))).mono ao
       have mP:0<oN M.r M.f T.pc (topR S.rate sp) (kr M S) ((aG ns:Int)-T.dn) T.bG:=Tx iA.1 ie.1 ao raw.pd.nn tp Rd.nn raw.bG c3;erw[_,Z,.inl #[Z,_,aF.of pD],?_];erw[_,Z,a,tO,_,_,Z,e7,Z,?_];erw[_,Z,_,Z,a,tO,_,_,Z,e7,Z,.inl #[oU,_,_,_,Z,Z,aF.of abv,cx (show(0:Int)<=(T.dn:Int) by lia) (by simpa using VE),?_]];erw[_,Z,uU,rv,mid,M.rs,M.r,M.f,M.j,M.t,g9 ns T.dn,_,Z,NQ,aD,rdr,a0I,mB,mP,λent H8 a0T s8=>?_];have lV:=s8 _ _ pD;erw[l,us,_,Z,Z,lV,ao,?_];have e8:(_L.upd H8 l (.lst (us++[ent]))) a=some (.ins C tO (gB uU Ee (.int T.dn) (.ref q) CH (.int T.rate) (.str T.side) (.str T.mark) BR)):=by rw[aY al];erw[s8 _ _ e7]
       erw[_,Z,a,tO,_,_,Z,e8,Z,_,_,Z,Z,tO,_,e8,by show 9<1000;decide,?_];have vl:cR H8 (_L.upd H8 l (.lst (us++[ent]))):=.upd lV trivial;have va:cR (_L.upd H8 l (.lst (us++[ent]))) (_L.upd (_L.upd H8 l (.lst (us++[ent]))) a (.ins C tO (gB uU Ee (.int ((T.dn:Int)+1)) (.ref q) CH (.int T.rate) (.str T.side) (.str T.mark) BR))):=.upd e8 trivial;have v7:=(s8.v.trans vl).trans va;have eS:kA M T ns sp={CQ M T (topR S.rate sp) (kr M S) ((aG ns:Int)-T.dn)with dn:=T.dn+1}:=by unfold kA;rw[rT,lU]
       have eE:my M T ns sp=mV M.t (g9 ns T.dn) (oN M.r M.f T.pc (topR S.rate sp) (kr M S) ((aG ns:Int)-T.dn) T.bG):=by unfold my mr;rw[rT,lU]
       have a73:One M T (my M T ns sp) (iC ns (kA M T ns sp)):=.line (by rw[iS];erw[eo]) c3;let(yq,eq7,rq7):=R7.qu;have JG:cA (es++[my M T ns sp])=true:=eF.mpr λd hd=>by
        rcases iy.mp hd with h|h
        ·erw[eF.mp p5 d h]
        ·rw[dN]at h;rw[h];erw[Fp _ _ _]
       have q7l:q≠l:=ql;erw[#[kA M T ns sp,es++[my M T ns sp],us++[ent],_,Z,λb o' eb hb=>?_,?_,Ua raw aD (by rw[iS];erw[eo]) c2 c3,iS,o8,lU,?_,?_,?_,?_,?_,?_,?_,λz=>by simp at z],?_]
       ·have ha:b≠a:=λz=>hb (by rw[z];simp)
        have gQ:b≠l:=λz=>hb (by rw[z];simp);rw[aY ha,aY gQ];erw[s8 _ _ (b7 _ _ (bt _ _ eb hb) (by rw[dN];erw[ha]))]
       ·rw[eS]
        erw[#[tO,uU,Ee,CH,BR,?_,RD.v v7 _ (kT _ _ _ _ _) NQ,RD.v v7 _ (gq _) Zi,Zh.v v7,Zg.v v7],yq,?_,aK.v v7 _ nos rq7]
        ·erw[cg]
        ·rw[aY aq.symm,aY ql];erw[s8 _ _ eq7]
       ·show T.dn+1=_
        rw[cD];show _=_+(_+1);lia
       ·show T.dn+1<=_
        lia
       ·rw[cD];show((es.length+1:Nat):Int)<=most;lia
       ·rw[aY al.symm,cg]
       ·erw[aK.v va _ JG (aK.v vl _ JG ?_)]
        have r7:aK K H8 us es:=aK.mono s8 _ (aK.v BO _ p5 rd);erw[r7.append (cE ?_ cX)];rw[eE];erw[a0T]
       ·erw[JG]
       ·rw[a4r]at run
        erw[run.snoc a73]
       ·show(match(_L.upd (_L.upd H8 l (.lst (us++[ent]))) a _) l with|some (.lst us)=>2000-us.length|_=>0)<(match H6 l with|some (.lst us)=>2000-us.length|_=>0)
        rw[aY al.symm,cg,dl];show 2000-(us++[ent]).length<2000-us.length;rw[cD];show 2000-(us.length+1)<_
        lia
     ·rw[dM ao]
      erw[aR ?_];erw[LD ao]
    ·rw[dM c1]
     erw[aR ?_];erw[LD ao]
   ·rintro O H6 Q1 Q2 hq ⟨v1,f1,l',mT,f2,f3,v2,f4,i1,i2,f5,f6,b1,f7,h⟩
    erw[v1,f1,l',mT,f2,f3,v2,f4,i1,i2,f5,f6,b1,f7,Du ?_ (hq _ _) h];rintro⟨v3,f8,a',vE,ph,u',f9,xO,LB,v4,f12,i3,i4,f13,f14,b2,LA,h⟩;erw[v3,f8,a',vE,ph,u',f9,xO,LB,v4,f12,i3,i4,f13,f14,b2,LA,Du ?_ (hq _ _) h];rintro⟨v5,Lz,a2,vD,Lf,Ly,Lx,Lv,a3,q3,M3,D3,S3,Lu,Ls,Lr,Lq,b3,Lp,h⟩;erw[v5,Lz,a2,vD,Lf,Ly,Lx,Lv,a3,q3,M3,D3,S3,Lu,Ls,Lr,Lq,b3,Lp,hq _ _ h]
  ·rintro O H6 ⟨T,es,us,w8,rfl,bt,RT,raw,iS,o8,lU,V0,h1,mI,dl,rd,p5,run⟩
   let(vC,mv6,bv6,a1Z,Ys,e6,t1,t2,t3,t4):=RT.ob;have a7d:T.os≠[]:=by rw[iS];erw[cS]
   have bH:∀{H7:Hp},dI [a] H6 H7->dI [a,q] H H7:=λ{H7} b7 b o' eb hb=>by
    have ha:b≠a:=λz=>hb (by rw[z];simp);erw[b7 _ _ (bt _ _ (ng _ _ eb) λhm=>?_) (by rw[dN];erw[ha])];simp only[cO,iu,kH]at hm;rcases hm with h|h
    ·erw[ha h]
    ·rw[h,nl]at eb;cases eb
   erw[λO H7=>∃q' BN,O=[some (.ref a),some (.int most),some y,some (.int (aG ns)),some (.ref oU),some uj,some uH,some (.ref l),BN]/\cV K C H7 a q' M (iC ns T)/\Mv a q H q' H7/\l≠q'/\∃mT,H7 l=some (.lst mT)/\aK K H7 mT es,?_,?_]
   ·erw[kE ?_];intro E2
    erw[_,Z,a,vC,_,_,Z,e6,Z,_,Z,.inl #[_,_,Z,Z,_,Z,?_]];show if decide ((T.dn:Int)=(aG ns:Int))=true then _ else _;by_cases c:T.dn=aG ns
    ·rw[cu ao]
     erw[bR ?_];erw[_,Z,a,vC,_,Z,e6,Z,a,q,M,D,T,Z,RT,raw,aD,a7d,λq' H7 R7 nq b7=>?_];have BO:cR H6 H7:=b7.v λx hx o' eC=>by rw[dN]at hx;rw[hx,e6]at eC;cases eC;trivial
     erw[q',_,Z,by unfold iC;rw[bc c];erw[R7],#[bH b7,.inr ?_],λz=>?_,us,b7 _ _ dl (by rw[dN];erw[al.symm]),aK.v BO _ p5 rd]
     ·cases e':H q' with |none=>rfl |some o'=>
      have h5:=ng _ _ e';by_cases ha:q'=a
      ·rw[ha,e6]at nq;cases nq
      ·by_cases gQ:q'=l
       ·rw[gQ,nl]at e';cases e'
       ·have:=bt _ _ h5 (by simp;erw[ha,gQ])
        rw[nq]at this;cases this
     ·rw[<-z,dl]at nq;cases nq
    ·rw[dM ao]
     erw[aR ?_];erw[q,_,Z,by unfold iC;rw[bj c];erw[RT],#[bH (dI.refl _ _),.inl Z],ql.symm,us,dl,rd]
   ·rintro O H7 ⟨q',BN,rfl,R7,uU,lq,mT,pD,rd7⟩
    erw[_,Z,k l mT es (iC ns T) q' H7 nl pD rd7 run h1 mI R7 uU lq]
end
section
theorem Mv.trans{a q q1 q2:Addr}{H H1 H2:Hp}(m1:Mv a q H q1 H1)(m2:Mv a q1 H1 q2 H2)(ha:H1 a≠none):Mv a q H q2 H2:=by
 erw[λb o e hb=>?_,?_]
 ·erw[m2.but _ _ (m1.but _ _ e hb) λhm=>?_]
  simp only[cO,iu,kH]at hm hb;rcases hm with h|h
  ·erw[hb (.inl h)]
  ·rcases m1.nq with h1|h1
   ·erw[hb (.inr (h.trans h1))]
   ·rw[<-h]at h1;rw[h1]at e;cases e
 ·rcases m2.nq with h|h
  ·rw[h];erw[m1.nq]
  ·cases e:H q2 with |none=>erw[.inr rfl] |some o=>
   by_cases h1:q2=q
   ·erw[.inl h1]
   ·by_cases h2:q2=a
    ·rw[h2]at h;exact(ha h).elim
    ·have:=m1.but _ _ e (by simp;erw[h2,h1])
     rw[h]at this;cases this
inductive adN(K:aa)(C:Addr)(vs:List V)(H:Hp)(Q:VK):Prop |mk (a:_)(q:_)(M:_)(D:_)(S:_)(most:_)(h0:vs=[.ref a,.int most])(h1:cV K C H a q M S)(h2:dC M D S)(h3:M.Ok)(h4:S.os≠[])(h5:¬Halt S.pc S.bG)(h6:1<=most)(h7:most<=1000)(h8:∀l ys es S' q' H',H l=none->H' l=some (.lst ys)->aK K H' ys es->Run M S es S'->1<=es.length->(es.length:Int)<=most->cV K C H' a q' M S'->Mv a q H q' H'->l≠q'->Q (.ref l) H')
def Oy(K:aa)(C:Addr):Sp:=λvs H Q _=>adN K C vs H Q
theorem PQ:bo ["self","most","item"] ["self","most"] (aU GH):=bp aJ
theorem a3a(F:MA K C "entries_of_first" "Runner.entries_of_first" GH)(TC:fo K C)(iD:aA P w K mg aw "is_line" 1 (mZ K))(a8F:cL P w K mg aw C "steps_of_first" 10 (Ou K C))(L3:cL P w K mg aw C "end_first" 3 (FF K C)):cL P w K mg aw C "entries_of_first" 11 (Oy K C):=by
 erw[F.has PQ (λvs H Q E h=>?_) (λ_ _ _ _ _ _=>dW λ_ _=>rfl) (λf aL A outer s H vs Q E hr h=>?_)]
 · let(a,q,M,D,S,most,rfl,_):=h
   rfl
 · let(a,q,M,D,S,most,rfl,R0,ok,aD,cS,nh,m1,m2,k):=h
   let(dx,mv,bv,cG,tv,e,r1,r2,r3,r4):=R0.ob;let(ys,eq,rq):=R0.qu;have aq:=R0.ne;have nd:=PQ.nd;have ll:=ok.row.len;have Ai:0<S.os.length:=by cases h:S.os with|nil=>exact(cS h).elim|cons _ _=>simp
   obtain⟨d,ed⟩:∃d,S.ds[0]? =some d:=#[_,bN (show 0<S.ds.length by lia)];let(y,ey,ry):=rq.get 0 ed;let(o,eo,it):=ok.row.get ed;erw[_,(aB (pS 2 nd (px K (cU TC.cl TC.kS (pv 0)) aE)) (aB (bL (cw (pf iD hr (ak (pv 2) ay))) (aI (aQ (kv a8F TC.cl (hr.mono az) (pv 0) (ak (pv 1) ay)))) bQ) (aB (j3 (bL (cf (dU K Z hr.units) (px K (pv 2) aE) bW (bS _)) (aI (iM TC.cl TC.JJ (pv 0) (px K (pv 2) aE))) bQ)) (aB (j3 (bL (cf (dU K Z hr.units) (px K (pv 2) aE) bW (bS _)) (aI (iM TC.cl TC.JK (pv 0) (px K (pv 2) aE))) bQ)) (aB (gb (jO L3 TC.cl (hr.mono az) (pv 0))) (aI (aQ (dw (ak (pv 2) ay))))))))),?_];erw[_,Z,a,dx,_,_,Z,e,Z,.inl #[q,_,0,y,Z,Z,aF.of eq,cx (df 0) ey,?_]];erw[_,Z,y,d,o,Z,ry,it,_,Z,?_];cases o with |some z=>let(ns,sp):=z;erw[bR ?_];erw[_,Z,a,dx,_,Z,e,Z,_,Z,a,q,M,D,S,ns,sp,most,Z,R0,ok,aD,eo,nh,m1,m2,k] |none=>
     erw[aR ?_];have fH:=ok.rw 0 d eo ed;have wd:∃z u ya yr,d= .tuple [.str z,u]/\y= .ref ya/\aW K H ya (.str z::[yr])/\RD K H yr u/\SeqAt.shaped (.str z)=true:=by
      rcases fH with⟨n,rfl,_⟩|⟨w',s',rfl,hw,_⟩
      · let(ya,xs,rfl,h1,h2):=ry.cv
        let(x1,rr,rfl,e1,h2):=h2.cons_inv;let(x2,rr,rfl,e2,h2):=h2.cons_inv;cases h2.nil_inv;cases e1.str_inv;erw[_,_,ya,x2,Z,Z,h1,e2,aJ]
      · let(ya,xs,rfl,h1,h2):=ry.cv
        let(x1,rr,rfl,e1,h2):=h2.cons_inv;let(x2,rr,rfl,e2,h2):=h2.cons_inv;cases h2.nil_inv;cases e1.str_inv;erw[_,_,ya,x2,Z,Z,h1,e2,by rcases hw with rfl|rfl<;>decide+kernel]
     let(z,u,ya,yr,rfl,rfl,Kk,Rk,sz):=wd;have tU:SeqAt.shaped (.str "tool")=true:=by decide+kernel
     have tM:SeqAt.shaped (.str "mark")=true:=by decide+kernel
     have eqT:∀(x y:Str),PyData.eqv (.str x) (.str y)=decide (x=y):=λx y=>by show(x==y)=decide (x=y);rw[kj];simp
     erw[λO H1=>O=[some (.ref a),some (.int most),some (.ref ya)]/\dI [a] H H1/\H1 a=some (.ins C dx (gB mv bv (.int S.dn) (.ref q) cG (.int S.rate) (.str (if z="tool" then(cZ (.tuple [.str z,u]) S).side else S.side)) (.str S.mark) tv)),?_,?_]
     · erw[kE ?_];intro E1
       erw[_,Z,.inr #[ya,_,0,.str z,Z,Z,Kk,cx (df 0) Z,.inr #[_,_,bJ _,bJ _,sz,tU,_,Z,?_]]];rw[eqT];by_cases c:z="tool"
       · rw[cu c]
         erw[bR ?_];have hu:∃s',u= .str s':=by
          rcases fH with⟨n,h,_⟩|⟨w',s',h,hw,_⟩
          ·cases h;erw[absurd c aJ]
          ·cases h;erw[_,rfl]
         let(s',rfl):=hu;cases Rk.str_inv;erw[_,Z,.inr #[ya,_,1,.str s',Z,Z,Kk,cx az Z,_,Z,a,dx,_,Z,e,by show 9<1000;decide,?_]];erw[Z,Ma (by simp),?_];rw[bc c];have es:(cZ (.tuple [.str z,.str s']) S).side=s':=by unfold cZ;simp only[bc c]
         rw[es];erw[cg]
       · rw[dM c]
         erw[aR #[Z,dI.refl _ _,?_]];rw[bj c];erw[e]
     rintro O H1 ⟨rfl,b1,e1⟩;have Ym:cR H H1:=b1.v λx hx o' eC=>by rw[dN]at hx;rw[hx,e]at eC;cases eC;trivial
     have UI:=aW.v Ym Kk;erw[λO H2=>O=[some (.ref a),some (.int most),some (.ref ya)]/\dI [a] H H2/\H2 a=some (.ins C dx (gB mv bv (.int S.dn) (.ref q) cG (.int S.rate) (.str (cZ (.tuple [.str z,u]) S).side) (.str (cZ (.tuple [.str z,u]) S).mark) tv)),?_,?_]
     · erw[kE ?_];intro E2
       erw[_,Z,.inr #[ya,_,0,.str z,Z,Z,UI,cx (df 0) Z,.inr #[_,_,bJ _,bJ _,sz,tM,_,Z,?_]]];rw[eqT];by_cases c:z="mark"
       · rw[cu c]
         erw[bR ?_];have nt:¬z="tool":=by rw[c];decide+kernel
         rw[bj nt]at e1;have hu:∃s',u= .str s':=by
          rcases fH with⟨n,h,_⟩|⟨w',s',h,hw,_⟩
          ·cases h;erw[absurd c aJ]
          ·cases h;erw[_,rfl]
         let(s',rfl):=hu;cases Rk.str_inv;erw[_,Z,.inr #[ya,_,1,.str s',Z,Z,UI,cx az Z,_,Z,a,dx,_,Z,e1,by show 9<1000;decide,?_]];erw[Z,b1.trans (Ma (by simp)),?_];have es:(cZ (.tuple [.str z,.str s']) S).side=S.side/\(cZ (.tuple [.str z,.str s']) S).mark=s':=by constructor<;>(unfold cZ;simp only[bj nt,bc c])
         rw[es.1,es.2];erw[cg]
       · rw[dM c]
         erw[aR #[Z,b1,?_]];have em:(cZ (.tuple [.str z,u]) S).mark=S.mark:=by
          unfold cZ;split
          · next h => cases h;split
                      ·rfl
                      ·first|rfl|rw[bj c]
          ·rfl
         have es:(if z="tool" then(cZ (.tuple [.str z,u]) S).side else S.side)=(cZ (.tuple [.str z,u]) S).side:=by
          by_cases c2:z="tool"
          ·rw[bc c2]
          · rw[bj c2]
            unfold cZ;split
            ·next h=>cases h;first|rfl|rw[bj c2,bj c]
            ·rfl
         rw[es]at e1;rw[em];erw[e1]
     rintro O H2 ⟨rfl,b2,e2⟩;have yG:cR H H2:=b2.v λx hx o' eC=>by rw[dN]at hx;rw[hx,e]at eC;cases eC;trivial
     let(S4,CK,ds',dn',pl'):=FV ok.raw (.tuple [.str z,u]);have fx:(cZ (.tuple [.str z,u]) S).pc=S.pc/\(cZ (.tuple [.str z,u]) S).rate=S.rate/\(cZ (.tuple [.str z,u]) S).bG=S.bG:=by
      unfold cZ;split
      · split
        ·erw[Z,Z,Z]
        ·split<;>erw[Z,Z,Z]
      ·erw[Z,Z,Z]
     have R2:cV K C H2 a q M (cZ (.tuple [.str z,u]) S):=by
      erw[#[dx,mv,bv,cG,tv,?_,RD.v yG _ (kT _ _ _ _ _) r1,?_,?_,?_],ys,b2 _ _ eq (by rw[dN];erw[aq.symm]),?_]
      ·rw[dn',fx.2.1];erw[e2]
      ·rw[pl'];erw[RD.v yG _ (gq _) r2]
      ·rw[fx.1];erw[r3.v yG]
      ·rw[fx.2.2];erw[r4.v yG]
      ·rw[ds'];erw[aK.v yG _ ok.row.no rq]
     erw[_,Z,a,dx,_,Z,e2,Z,a,q,M,D,_,Z,R2,S4,aD,by rw[CK];erw[cS],λq' H3 R3 nq b3=>?_];have Mh:=b2.trans b3;have Yl:cR H H3:=Mh.v λx hx o' eC=>by rw[dN]at hx;rw[hx,e]at eC;cases eC;trivial
     have nq0:H q'=none:=by cases e':H q' with |none=>rfl |some o'=>
        by_cases ha:q'=a
        ·rw[ha,e2]at nq;cases nq
        · have:=b2 _ _ e' (by rw[dN];erw[ha])
          rw[nq]at this;cases this
     refine⟨_,Z,cy Z,λl H4 n4=>?_⟩;have nl:H l=none:=by cases e':H l with |none=>rfl |some o'=>
        by_cases ha:l=a
        · let(VX,_,_,_,_,e3,_):=R3.ob
          have:=n4.no;rw[ha,e3]at this;cases this
        · have:=Mh _ _ e' (by rw[dN];erw[ha])
          rw[n4.no]at this;cases this
     have okS:dC M D (kX (cZ (.tuple [.str z,u]) S)):=S4.end (by rw[CK];erw[cS]);erw[k l [.ref ya] [.tuple [.str z,u]] _ q' H4 nl n4.at' (cE (RD.v (Yl.trans n4.same.v) _ (eF.mp ok.row.no _ (fR ed)) ry) cX) (.cons (.fH eo ed nh) (.nil _)) (by simp) (by simpa using m1) (R3.same okS.row.no n4.same) #[λb o' eb hb=>n4.same _ _ (Mh _ _ eb (by rw[dN];intro h;erw[hb (by rw[h];simp)])),.inr nq0] ?_];intro h;have:=n4.no;let(yq,eq3,_):=R3.qu;rw[h,eq3]at this;cases this
inductive adO(K:aa)(C:Addr)(vs:List V)(H:Hp)(Q:VK):Prop |mk (a:_)(q:_)(M:_)(D:_)(S:_)(n:_)(h0:vs=[.ref a,.int n])(h1:cV K C H a q M S)(h2:dC M D S)(h3:M.Ok)(h4:0<=n)(h5:n<=1000)(h6:∀l ys es S' q' H',H l=none->H' l=some (.lst ys)->aK K H' ys es->Run M S es S'->(es.length:Int)<=n->((es.length:Int)=n\/S'.os=[]\/Halt S'.pc S'.bG)->cV K C H' a q' M S'->Mv a q H q' H'->l≠q'->Q (.ref l) H')
def Oz(K:aa)(C:Addr):Sp:=λvs H Q _=>adO K C vs H Q
theorem PR:bo ["self","n","told"] ["self","n"] (aU GI):=bp aJ
theorem a3b(F:MA K C "entries" "Runner.entries" GI)(TC:fo K C)(B:bI mg)(KZ:cL P w K mg aw C "is_halted" 2 (gm K C λ_ S H Q=>Q (.bl (S.bG.isSome&&decide (S.pc=0))) H))(a8L:cL P w K mg aw C "entries_of_first" 11 (Oy K C)):cL P w K mg aw C "entries" 12 (Oz K C):=by
 erw[F.has PR (λvs H Q E h=>?_) (λ_ _ _ _ _ _=>dW λ_ _=>rfl) (λf aL A outer s H vs Q E hr h=>?_)]
 ·let(a,q,M,D,S,n,rfl,_):=h
  rfl
 ·let(a,q,M,D,S,n,rfl,R0,ok,aD,n0,n1,k):=h
  have nd:=PR.nd;erw[_,(aB (pS 2 nd (dw ay)) (aB (j3 (xg gj (PW.pt (si (cf qh (fU K B (ak (pv 2) ay)) (pv 1) (bS _)) (si (zm K Z (cU TC.cl TC.kS (pv 0))) (xf (cT (cw (jO KZ TC.cl (hr.mono az) (pv 0)))))))) (aI (gb (zx K Z (pv 2) (ak (kv a8L TC.cl (hr.mono az) (pv 0) (ak (aP j9 (pv 1) (fU K B (ak (pv 2) ay))) ay)) ay)))))) (aI (aQ (pv 2))))),?_];erw[cy Z,λl H1 nw=>?_];let(dx,mv,bv,cG,tv,e,r1,r2,r3,r4):=R0.ob;let(ys,eq,rq):=R0.qu;have al:a≠l:=λz=>by have:=nw.no;rw[<-z,e]at this;cases this
  have ql:q≠l:=λz=>by have:=nw.no;rw[<-z,eq]at this;cases this
  have UO:H q≠none:=by rw[eq];simp
  have ha0:H a≠none:=by rw[e];simp
  erw[λO H2=>∃es S' q' us,O=[some (.ref a),some (.int n),some (.ref l)]/\cV K C H2 a q' M S'/\H2 l=some (.lst us)/\aK K H2 us es/\Run M S es S'/\(es.length:Int)<=n/\((es.length:Int)=n\/S'.os=[]\/Halt S'.pc S'.bG)/\Mv a q H q' H2/\l≠q',?_,?_]
  ·erw[kE ?_];intro E3
   erw[wC (λO H2=>∃es S' q' us,O=[some (.ref a),some (.int n),some (.ref l)]/\cV K C H2 a q' M S'/\H2 l=some (.lst us)/\aK K H2 us es/\Run M S es S'/\(es.length:Int)<=n/\Mv a q H q' H2/\l≠q') (λ_ H2=>match H2 l with|some (.lst us)=>2000-us.length|_=>0) ?_ ?_ ?_]
   ·erw[[],S,q,[],Z,R0.same ok.row.no nw.same,nw.at',cX,.nil _,by simpa using n0,#[.of nw.same,.inl rfl],ql.symm]
   ·rintro O H2 ⟨es,S',q',us,rfl,R2,dl,rd,run,mI,xD,lq⟩
    have zK:=run.ok ok aD;have p5:=run.no ok aD;have lu:=rd.length;let(vD,Tq,bv2,afS,tv2,e2,t1,t2,t3,t4):=R2.ob;let(yq,eq2,rq2):=R2.qu;have JV:=rq2.length;have Uc:=zK.row.len;erw[_,Z,l,us,Z,.inl (aF.of dl),_,Z,_,_,Z,Z,_,Z,?_];show if decide ((us.length:Int)<n)=true then _ else _;by_cases c1:(us.length:Int)<n
    ·rw[cu c1]
     erw[bR ?_];erw[_,Z,a,vD,_,_,Z,e2,Z,_,.inl #[_,aF.of eq2,Z],?_];cases kU:S'.os with |nil=>have:yq=[]:=N6.mp (by rw[JV,Uc,kU];rfl);subst this;erw[aR ?_];erw[es,S',q',us,Z,R2,dl,rd,run,mI,.inr (.inl kU),xD,lq] |cons o os=>
      have cS:S'.os≠[]:=by rw[kU];simp
      have:∃y yr,yq=y::yr:=by cases yq with |nil=>rw[Uc,kU]at JV;simp at JV |cons y yr=>erw[y,yr,Z]
      let(y,yr,rfl):=this;erw[bR ?_];erw[_,Z,a,vD,_,Z,e2,Z,a,q',M,D,S',Z,R2,zK,aD,_,Z,?_];by_cases c3:Halt S'.pc S'.bG
      ·have hb:(S'.bG.isSome&&decide (S'.pc=0))=true:=by let(h1,h2):=c3;rw[cu h2,BB];cases hs:S'.bG with |none=>exact(h1 hs).elim |some _=>rfl
       rw[hb];erw[aR #[es,S',q',us,Z,R2,dl,rd,run,mI,.inr (.inr c3),xD,lq]]
      ·have hb:(S'.bG.isSome&&decide (S'.pc=0))=false:=by cases hs:S'.bG with |none=>rfl |some _=>show decide (S'.pc=0)=false;erw[dM λh2=>c3 #[by rw[hs];simp,h2]]
       rw[hb];erw[bR ?_];erw[_,Z,.inl #[Z,_,aF.of dl],?_];erw[_,Z,a,vD,_,Z,e2,Z,_,Z,_,Z,l,us,Z,.inl (aF.of dl),_,_,Z,Z,?_];erw[a,q',M,D,S',_,Z,R2,zK,aD,cS,c3,ao,ao,λl2 y2 fs S2 q2 H3 uS xU x6 IK f1 f2 R3 zW lq2=>?_];have Yj:=R2.v zW.but;have o9:=zW.but _ _ dl (by simp;erw[al.symm,lq]);have pZ:=aK.v Yj _ p5 rd;have TX:=x6.length;have jg:sizeLine=16777216:=by decide
       erw[l,l2,us,y2,Z,Z,o9,xU,ao,?_];have vu:cR H3 (_L.upd H3 l (.lst (us++y2))):=.upd o9 trivial;have a78:=IK.no zK aD;have gY:=IK.ok zK aD;have U0:l≠q2:=λz=>by
        rcases zW.nq with h|h
        ·erw[lq (z.trans h)]
        ·rw[<-z,dl]at h;cases h
       erw[#[es++fs,S2,q2,us++y2,Z,R3.go gY.row.no vu (λo' eC=>by rw[aY al];erw[eC]) (λo' eC=>by rw[aY U0.symm];erw[eC]),cg,(aK.v vu _ p5 pZ).append (aK.v vu _ a78 x6),run.trans IK,by rw[cD];lia,?_,U0],?_]
       ·have m:=xD.trans zW (by rw[e2];simp)
        erw[λb o' eb hb=>by
         have gQ:b≠l:=λz=>by have:=nw.no;rw[<-z,eb]at this;cases this
         rw[aY gQ];erw[m.but _ _ eb hb],m.nq]
       ·show(match(_L.upd H3 l (.lst (us++y2))) l with|some (.lst us)=>2000-us.length|_=>0)<(match H2 l with|some (.lst us)=>2000-us.length|_=>0)
        rw[cg,dl];show 2000-(us++y2).length<2000-us.length;rw[cD]
        lia
    ·rw[dM c1]
     erw[aR ?_];erw[es,S',q',us,Z,R2,dl,rd,run,mI,.inl ao,xD,lq]
   ·rintro O H6 Q1 Q2 hq ⟨v1,f1,l',mT,f2,f3,v2,f4,i1,i2,f5,f6,b1,f7,h⟩
    erw[v1,f1,l',mT,f2,f3,v2,f4,i1,i2,f5,f6,b1,f7,Du ?_ (hq _ _) h];rintro⟨v3,f8,a',vE,ph,u',f9,xO,LB,b2,LA,h⟩;erw[v3,f8,a',vE,ph,u',f9,xO,LB,b2,LA,Du ?_ (hq _ _) h];rintro⟨v5,Lz,a2,vD,Lf,Ly,Lx,Lv,a3,q3,M3,D3,S3,Lu,Ls,Lr,Lq,b3,Lp,h⟩;erw[v5,Lz,a2,vD,Lf,Ly,Lx,Lv,a3,q3,M3,D3,S3,Lu,Ls,Lr,Lq,b3,Lp,hq _ _ h]
  ·rintro O H2 ⟨es,S',q',us,rfl,R2,dl,rd,run,mI,nQ,xD,lq⟩
   erw[_,Z,k l us es S' q' H2 nw.no dl rd run mI nQ R2 xD lq]
end
section
theorem cV.a1r{H:Hp}{a q dx:Addr}{M:bC}{S S':bu}{mv bv cG tv:V}(R:cV K C H a q M S)(e:H a=some (.ins C dx (gB mv bv (.int S.dn) (.ref q) cG (.int S.rate) (.str S.side) (.str S.mark) tv))){Ef CI BS:V}(hn:cA S.ds=true)(hd:S'.ds=S.ds) (r1:RD K H mv M.D)(r2:RD K H Ef (da S'.pl))(r3:bM K H CI S'.pc)(r4:yd K H BS S'.bG):cV K C (_L.upd H a (.ins C dx (gB mv Ef (.int S'.dn) (.ref q) CI (.int S'.rate) (.str S'.side) (.str S'.mark) BS))) a q M S':=by
 have v:cR H (_L.upd H a (.ins C dx (gB mv Ef (.int S'.dn) (.ref q) CI (.int S'.rate) (.str S'.side) (.str S'.mark) BS))):=.upd e trivial;let(ys,eq,rq):=R.qu;erw[#[dx,mv,Ef,CI,BS,cg,RD.v v _ (kT _ _ _ _ _) r1,RD.v v _ (gq _) r2,r3.v v,r4.v v],ys,?_,?_]
 ·rw[aY R.ne.symm];erw[eq]
 ·rw[hd];erw[aK.v v _ hn rq]
theorem ZX:bo ["self","rate"] ["self","rate"] (aU Gp):=bp aJ
inductive adI(K:aa)(C:Addr)(vs:List V)(H:Hp)(Q:VK):Prop |mk (a:_)(q:_)(M:_)(D:_)(S:_)(rate:_)(h0:vs=[.ref a,.int rate])(h1:cV K C H a q M S)(h2:dC M D S)(h3:M.Ok)(h4:10<=rate)(h5:rate<=200)(h6:S.pc=0)(h7:∀H',cV K C H' a q M {S with rate:=rate}->dI [a] H H'->Q (.int rate) H')
def Ot(K:aa)(C:Addr):Sp:=λvs H Q _=>adI K C vs H Q
theorem a2T(F:MA K C "turn_rate" "Runner.turn_rate" Gp)(TC:fo K C)(KG:aA P w K mg aw "is_rate" 3 (Ca K))(KU:cL P w K mg aw C "stands" 1 (gm K C λ_ S H Q=>Q (.bl (decide (S.pc=0))) H)):cL P w K mg aw C "turn_rate" 4 (Ot K C):=by
 erw[F.has ZX (λvs H Q E h=>?_) (λ_ _ _ _ _ _=>dW λ_ _=>rfl) (λf aL A outer s H vs Q E hr h=>?_)]
 ·let(a,q,M,D,S,rate,rfl,_):=h
  rfl
 ·let(a,q,M,D,S,rate,rfl,R,ok,aD,h1,h2,hp,k):=h
  let(dx,mv,bv,cG,tv,e,r1,r2,r3,r4):=R.ob;erw[_,(aB (bL (cT (cw (pf KG hr (ak (pv 1) ay)))) (aI ku) bQ) (aB (bL (cT (cw (jO KU TC.cl (hr.mono az) (pv 0)))) (aI ku) bQ) (aB (iM TC.cl TC.zU (pv 0) (pv 1)) (aI (aQ (pv 1)))))),?_];erw[_,Z,_,.int rate,Z,fP _,_,Z,?_];have er:J6 (.int rate)=true:=by show(decide (10<=rate)&&decide (rate<=200))=true;rw[cu h1,cu h2];rfl
  rw[er];erw[aR ?_];erw[_,Z,a,dx,_,Z,e,Z,a,q,M,D,S,Z,R,ok,aD,_,Z,?_];rw[cu hp];erw[aR ?_];erw[_,Z,_,Z,a,dx,_,Z,e,by show 9<1000;decide,?_];erw[_,Z,k _ (R.a1r (S':={S with rate:=rate}) e ok.row.no rfl r1 r2 r3 r4) (Ma (by simp))]
end
section
noncomputable def jt(M:bC)(rate:Int)(os:List Itm)(i k:Nat):Rat:=match os[i]? with |some (some (ns,sp))=>mn (mn (cF M.r M.f M.j rate os i+((2*M.r*(k:Int):Int):Rat)) (topR rate sp)) (fl os.length (leadF os) (2*M.f) (ownF M.j rate os) (i+1)+((2*M.f*((aG ns:Int)-k):Int):Rat)) |_=>cF M.r M.f M.j rate os i
structure Inv1(M:bC)(rate:Int)(pl:List Int)(ds:List ah)(os:List Itm)(i k:Nat)(T:bu):Prop where
 o8:T.ds=ds.drop i
 iS:T.os=os.drop i
 E4:T.dn=k
 kl:k=0\/∃ns sp,os[i]? =some (some (ns,sp))/\k<aG ns
 DV:T.pc=jt M rate os i k
 lU:T.rate=rate
 DU:T.bG=none
 LG:T.pl=(os.take i).foldl fY pl
 il:i<=os.length
noncomputable def upTo(M:bC)(rate:Int)(ds:List ah)(os:List Itm)(i k:Nat):List ah:=fA M.r M.f M.j M.t rate ds os i++(fQ M.r M.f M.j M.t rate ds os i).take k
theorem a6s(r:Int)(k:Nat):((2*r*((k+1:Nat):Int):Int):Rat)=((2*r*(k:Int):Int):Rat)+2*(r:Rat):=by
 have e:2*r*((k+1:Nat):Int)=2*r*(k:Int)+2*r:=by rw[Int.natCast_add,Int.mul_add];omega
 rw[e,Bm,MP 2 r];rfl
theorem zr{M:bC}{rate:Int}{os:List Itm}(aD:M.Ok){i:Nat}(hi:i<=os.length):cF M.r M.f M.j rate os i=Rz (fl os.length (leadF os) (2*M.f) (ownF M.j rate os)) (leadF os) (2*M.r) i:=by have iA:=aD.r1;have ie:=aD.f1;exact(acY aO aO i hi).symm
theorem zy{M:bC}{D:Nat}{rate:Int}{ds:List ah}{os:List Itm}(aD:M.Ok){i:Nat}(hi:i<=os.length):jt M rate os i 0=cF M.r M.f M.j rate os i:=by
 have iA:=aD.r1;have ie:=aD.f1;unfold jt;split
 ·next ns sp e=>
  have hl:i<os.length:=(cJ.mp e).1;have e0:((2*M.r*((0:Nat):Int):Int):Rat)=0:=by
   have:2*M.r*((0:Nat):Int)=0:=by simp
   rw[this];rfl
  rw[e0];refine(a22 ?_ ?_).symm
  ·erw[cM (CB hi) (Sw e)]
  ·rw[zr aD hi]
   erw[cM (Er i) ?_];rw[o6 hl (qw e)];erw[cM (gM _ _) ?_];have e1:2*M.f*((aG ns:Int)-((0:Nat):Int))=2*M.f*(aG ns:Int):=by simp
   rw[e1];erw[iI]
 ·rfl
theorem a26{M:bC}{rate:Int}{os:List Itm}(aD:M.Ok){i:Nat}{ns:List Int}{sp:Int}(e:os[i]? =some (some (ns,sp))):jt M rate os i (aG ns)=cF M.r M.f M.j rate os (i+1):=by
 have iA:=aD.r1;have ie:=aD.f1;have hl:i<os.length:=(cJ.mp e).1;unfold jt;rw[e];show mn (mn _ _) _=_;have e1:((2*M.f*((aG ns:Int)-(aG ns:Int)):Int):Rat)=0:=by rw[Int.sub_self,Int.mul_zero];rfl
 rw[e1];erw[a27 ?_ (cM (Lk aO) (Sx e))];rw[zr aD (show i+1<=os.length by omega),oo (qw e),<-zr aD (show i<=os.length by omega)]
theorem a24{M:bC}{rate:Int}{os:List Itm}(aD:M.Ok){i k:Nat}{ns:List Int}{sp:Int}(e:os[i]? =some (some (ns,sp)))(hk:k<aG ns): uP M.r M.f (jt M rate os i k) (topR rate sp) (fl os.length (leadF os) (2*M.f) (ownF M.j rate os) (i+1)) ((aG ns:Int)-k) none=jt M rate os i (k+1)/\oN M.r M.f (jt M rate os i k) (topR rate sp) (fl os.length (leadF os) (2*M.f) (ownF M.j rate os) (i+1)) ((aG ns:Int)-k) none=gP M.r M.f (aG ns) (topR rate sp) (cF M.r M.f M.j rate os i) (cF M.r M.f M.j rate os (i+1)) k:=by
 have iA:=aD.r1;have ie:=aD.f1;have hl:i<os.length:=(cJ.mp e).1;have rq:(0:Rat)<=(M.r:Rat):=MO.mpr aO;have fq:(0:Rat)<=(M.f:Rat):=MO.mpr aO;have ep:∀k,jt M rate os i k=mn (mn (cF M.r M.f M.j rate os i+((2*M.r*(k:Int):Int):Rat)) (topR rate sp)) (fl os.length (leadF os) (2*M.f) (ownF M.j rate os) (i+1)+((2*M.f*((aG ns:Int)-k):Int):Rat)):=λk=>by unfold jt;rw[e]
 have c2:((2*M.r:Int):Rat)=2*(M.r:Rat):=by rw[MP];rfl
 erw[?_,?_]
 ·show mn (mn (jt M rate os i k+((2*M.r:Int):Rat)) (topR rate sp)) (_+((2*M.f*((aG ns:Int)-k-1):Int):Rat))=_
  rw[ep (k+1),c2];have e1:((2*M.f*((aG ns:Int)-((k+1:Nat):Int)):Int):Rat)=((2*M.f*((aG ns:Int)-k-1):Int):Rat):=by congr 2;omega
  rw[e1];erw[a23 (A:=((2*M.r*(k:Int):Int):Rat)) (F:=((2*M.f*((aG ns:Int)-k):Int):Rat)) rq fq (a6s M.r k) ?_ (ep k)];have e2:2*M.f*((aG ns:Int)-k)=2*M.f*((aG ns:Int)-k-1)+2*M.f:=by rw[Int.mul_sub (2*M.f) _ 1];omega
  rw[e2,Bm,MP 2 M.f];rfl
 ·show mn (mn (jt M rate os i k+(M.r:Rat)) (topR rate sp)) (_+((M.f*(2*((aG ns:Int)-k)-1):Int):Rat))=_
  have eB:((M.r*(2*(1+(k:Int))-1):Int):Rat)=((2*M.r*(k:Int):Int):Rat)+(M.r:Rat):=by
   rw[<-Bm];congr 1;have h1:2*(1+(k:Int))-1=2*k+1:=by omega
   rw[h1,Int.mul_add,yC,Nc,ud]
  have eG:((2*M.f*((aG ns:Int)-k):Int):Rat)=((M.f*(2*((aG ns:Int)-k)-1):Int):Rat)+(M.f:Rat):=by rw[<-Bm];congr 1;rw[Int.mul_sub M.f,yC,Nc,ud];omega
  rw[a25 (B:=((M.r*(2*(1+(k:Int))-1):Int):Rat)) (G:=((M.f*(2*((aG ns:Int)-k)-1):Int):Rat)) rq fq eB eG (ep k)];show _=gP _ _ _ _ _ _ _;unfold gP;have eG2:((M.f*(2*((aG ns:Int)-(1+(k:Int)))+1):Int):Rat)=((M.f*(2*((aG ns:Int)-k)-1):Int):Rat):=by congr 2;omega
  rw[eG2];refine(YQ (T:=((2*M.r*(aG ns:Int):Int):Rat)) ?_ ?_ ?_).symm
  ·rw[zr aD (show i+1<=os.length by omega),oo (qw e),<-zr aD (show i<=os.length by omega)]
  ·erw[Bl.mpr ?_]
   have h1:M.r*(2*(1+(k:Int))-1)<=M.r*(2*(aG ns:Int)):=EW aO aO;have h2:M.r*(2*(aG ns:Int))=2*M.r*(aG ns:Int):=by rw[Nc,ud]
   omega
  ·erw[MO.mpr (gU aO aO)]
theorem drop_cons{α:Type}{l:List α}{i:Nat}{x:α}(h:l[i]? =some x):l.drop i=x::l.drop (i+1):=by have hl:i<l.length:=(cJ.mp h).1;rw[List.drop_eq_getElem_cons hl];rw[bN hl]at h;cases h;rfl
theorem a1C{M:bC}{rate:Int}{os:List Itm}(aD:M.Ok){i:Nat}(e:os[i]? =some none):cF M.r M.f M.j rate os i=cF M.r M.f M.j rate os (i+1):=by
 have iA:=aD.r1;have ie:=aD.f1;have hl:i<os.length:=(cJ.mp e).1;let(h0,h1):=a29 (j:=M.j) (rate:=rate) e;have nn:=Cz (n:=os.length) (own:=ownF M.j rate os) (L:=leadF os) (r:=2*M.r) (f:=2*M.f) aO aO (λi _=>_O.zA M.j rate os i);have z:∀c,c<=os.length->ownF M.j rate os c=0->cF M.r M.f M.j rate os c=0:=λc hc e'=>by erw[rn ?_ (nn c hc)];rw[<-e'];erw[CB hc]
 rw[z i aO h0,z (i+1) aO h1]
theorem a2s{M:bC}{D:Nat}{rate:Int}{pl:List Int}{ds:List ah}{os:List Itm}(aD:M.Ok)(row:cW M.rs.length ds os){i k:Nat}{T T1:bu}{e:ah}(h:Inv1 M rate pl ds os i k T)(o:One M T e T1): ∃i' k',Inv1 M rate pl ds os i' k' T1/\upTo M rate ds os i' k'=upTo M rate ds os i k++[e]:=by
 have ll:=row.len;have hn:T.os≠[]:=by intro z;cases o with |line e1 _=>rw[z]at e1;simp at e1 |fH e1 _ _=>rw[z]at e1;simp at e1
 have il:i<os.length:=by
  rcases MY i os.length with c|c
  ·erw[c]
  ·exact(hn (by rw[h.iS,List.drop_eq_nil_of_le c])).elim
 obtain⟨x,ex⟩:∃x,os[i]? =some x:=#[_,bN il];obtain⟨d,ed⟩:∃d,ds[i]? =some d:=#[_,bN (show i<ds.length by omega)];have iS:T.os=x::os.drop (i+1):=by rw[h.iS];erw[drop_cons ex]
 have o8:T.ds=d::ds.drop (i+1):=by rw[h.o8];erw[drop_cons ed]
 have Si:(os.take (i+1)).foldl fY pl=fY T.pl x:=by rw[lC,ex,wu,h.LG];rfl
 cases o with |@line ns sp e1 nh=>
  rw[iS]at e1;cases e1;have bZ:=(row.ok i ns sp ex).1;have lp:=bZ.lead.1;have hk:k<aG ns:=by
   rcases h.kl with z|⟨zM,pV,z1,z2⟩
   ·omega
   ·rw[ex]at z1;cases z1;erw[z2]
  have Cv:kr M T=fl os.length (leadF os) (2*M.f) (ownF M.j rate os) (i+1):=by unfold kr IY;rw[h.iS,h.lU];erw[a0V il]
  let(pe,pm):=a24 (rate:=rate) aD ex hk;have eN:kA M T ns sp={T with pc:=jt M rate os i (k+1),dn:=k+1,bG:=none}:=by unfold kA CQ;rw[Cv,h.lU,h.E4,h.DU,h.DV,pe];rfl
  have eE:my M T ns sp=mV M.t (g9 ns k) (gP M.r M.f (aG ns) (topR rate sp) (cF M.r M.f M.j rate os i) (cF M.r M.f M.j rate os (i+1)) k):=by unfold my mr;rw[Cv,h.lU,h.E4,h.DU,h.DV,pm]
  have eL:=tL (r:=M.r) (f:=M.f) (j:=M.j) (ti:=M.t) (rate:=rate) (ds:=ds) ex;have gk:(fQ M.r M.f M.j M.t rate ds os i)[k]? =some (my M T ns sp):=by rw[eL,jb,bP,mS hk,eE];rfl
  have lE:(fQ M.r M.f M.j M.t rate ds os i).length=aG ns:=by rw[eL,jb,ba,iz]
  have up:upTo M rate ds os i (k+1)=upTo M rate ds os i k++[my M T ns sp]:=by unfold upTo;rw[lC,gk,EU];rfl
  rw[eN];unfold iC;by_cases c:k+1=aG ns
  ·erw[i+1,0,?_,?_]
   ·rw[bc c]
    have LQ:kX {T with pc:=jt M rate os i (k+1),dn:=k+1,bG:=none}={T with pc:=jt M rate os i (k+1),dn:=0,bG:=none,pl:=fY T.pl (some (ns,sp)),ds:=ds.drop (i+1),os:=os.drop (i+1)}:=by unfold kX;simp only[iS,o8];rfl
    rw[LQ];erw[Z,Z,Z,.inl Z,?_,h.lU,Z,Si.symm,aO];show jt M rate os i (k+1)=jt M rate os (i+1) 0;rw[c,a26 aD ex,zy (D:=D) (ds:=ds) aD aO]
   ·rw[<-up]
    unfold upTo;rw[wo,oA,c,u9 aO];rfl
  ·erw[i,k+1,?_,up]
   rw[bj c];erw[h.o8,h.iS,Z,.inr #[ns,sp,ex,aO],Z,h.lU,Z,h.LG,h.il] |fH e1 e2 nh=>
  rw[iS]at e1;cases e1;rw[o8]at e2;cases e2;have k0:k=0:=by
   rcases h.kl with z|⟨zM,pV,z1,z2⟩
   ·erw[z]
   ·rw[ex]at z1;cases z1
  subst k0;erw[i+1,0,?_,?_]
  ·have sO:(cZ e T).os=T.os/\(cZ e T).ds=T.ds/\(cZ e T).pl=T.pl/\(cZ e T).pc=T.pc/\(cZ e T).rate=T.rate/\(cZ e T).bG=T.bG:=by
    unfold cZ;split
    ·split
     ·erw[Z,Z,Z,Z,Z,Z]
     ·split<;>erw[Z,Z,Z,Z,Z,Z]
    ·erw[Z,Z,Z,Z,Z,Z]
   let(s1,s2,s3,s4,s5,s6):=sO;have LQ:kX (cZ e T)={cZ e T with pl:=fY T.pl none,ds:=ds.drop (i+1),os:=os.drop (i+1),dn:=0}:=by unfold kX;rw[s1,iS];simp only[s2,s3,o8];rfl
   rw[LQ];erw[Z,Z,Z,.inl Z,?_,by show(cZ e T).rate=_;rw[s5];erw[h.lU],by show(cZ e T).bG=_;rw[s6];erw[h.DU],Si.symm,aO];show(cZ e T).pc=_;rw[s4,h.DV,zy (D:=D) (ds:=ds) aD aO,zy (D:=D) (ds:=ds) aD aO];erw[a1C aD ex]
  ·unfold upTo
   rw[wo,oA,wo,oA];show fA _ _ _ _ _ _ _ i++fQ _ _ _ _ _ _ _ i=_;rw[xP ex ed]
theorem Rr{M:bC}{D:Nat}{rate:Int}{pl:List Int}{ds:List ah}{os:List Itm}(aD:M.Ok)(row:cW M.rs.length ds os){T T1:bu}{es:List ah}(r:Run M T es T1):∀{i k:Nat},Inv1 M rate pl ds os i k T->∃i' k',Inv1 M rate pl ds os i' k' T1/\upTo M rate ds os i' k'=upTo M rate ds os i k++es:=by induction r with |nil=>intro i k h;erw[i,k,h,by rw[oA]] |cons o _ ih=>intro i k h;let(i1,k1,h1,e1):=a2s (D:=D) aD row h o;let(i2,k2,h2,e2):=ih h1;erw[i2,k2,h2,by rw[e2,e1,EU];rfl]
theorem a6m{M:bC}{rate:Int}{pl:List Int}{ds:List ah}{os:List Itm}{i k:Nat}{T:bu}(h:Inv1 M rate pl ds os i k T)(hn:T.os=[]):i=os.length/\k=0/\upTo M rate ds os i k=fA M.r M.f M.j M.t rate ds os os.length:=by
 have hi:i=os.length:=by
  rcases MY i os.length with c|c
  ·have:=h.iS
   rw[hn]at this;have h2:=lA List.length this;rw[Bv]at h2;simp at h2;omega
  ·have:=h.il;omega
 have hk:k=0:=by
  rcases h.kl with z|⟨ns,sp,z,_⟩
  ·erw[z]
  ·have:=(cJ.mp z).1;omega
 erw[hi,hk,?_];subst hi hk;unfold upTo;rw[wo,oA]
end
end _a
set_option maxHeartbeats 4000000
namespace _a
open PySem PySem.Spec PyProof.Rows _L _b _l _C _P _W _R
open _O (topR cornO mnO betR atO ownF leadF ownL OkI OkIs)
section
theorem a1H{M:bC}{D:Nat}{S:bu}(ok:dC M D S):(jo S).length=M.rs.length:=by
 unfold jo;split
 ·erw[ok.pl]
 ·split
  ·next ns sp eo=>rw[qV (by rw[ok.pl];simp[rS];exact(ok.row.ok 0 ns sp eo).1.len)];erw[ok.pl]
  ·erw[ok.pl]
theorem CY{z q k:Int}(hq:0<q)(hk:0<=k)(qD:k<=q)(hz:0<=z):0<=gZ (k*z) q/\gZ (k*z) q<=z:=by
 have hp:0<=k*z:=gU hk hz;erw[a4P hq hp,?_];have h1:k*z<=q*z:=Bz qD hz;unfold gZ;rw[bc hp];let(a,_):=OX (p:=k*z) hq;have e:(((k*z).natAbs:Nat):Int)=k*z:=Int.natAbs_of_nonneg hp;rw[e]at a;by_cases hh:jI (k*z) q<=z
 ·erw[hh]
 ·exfalso
  have h2:z+1<=jI (k*z) q:=by lia
  have h3:q*(z+1)<=q*jI (k*z) q:=EW h2 (EX hq);have h4:q*(z+1)=q*z+q:=by rw[Int.mul_add,yC]
  have h5:2*q*jI (k*z) q=2*(q*jI (k*z) q):=by rw[ud]
  rw[h5]at a
  lia
theorem a4R{z q k a r:Int}(hq:0<q)(hk:0<=k)(qD:k<=q)(a0:0<=a)(a1:a<=r)(b0:0<=a+z)(b1:a+z<=r):0<=a+gZ (k*z) q/\a+gZ (k*z) q<=r:=by
 by_cases hz:0<=z
 ·have:=CY hq hk qD hz
  lia
 ·have h:=CY (z:=-z) hq hk qD ao
  rw[show k*-z=-(k*z) by rw[Int.mul_neg],Tg hq]at h
  lia
theorem a2t{rs pl ns:List Int}{k:Int}(hn:ns.length=pl.length)(hq:0<(aG ns:Int))(hk:0<=k)(qD:k<=aG ns)(h0:ft rs pl)(h1:ft rs (fZ pl ns)):ft rs (fZ pl (rS ns k)):=by
 have ls:(rS ns k).length=pl.length:=by unfold rS;rw[ba];erw[hn]
 erw[by rw[qV ls];erw[h0.len],λi x r e1 e2=>?_];have hi:i<rs.length:=(cJ.mp e2).1;have hip:i<pl.length:=by rw[h0.len];erw[hi]
 obtain⟨a,ea⟩:∃a,pl[i]? =some a:=#[_,bN hip];obtain⟨z,ez⟩:∃z,ns[i]? =some z:=#[_,bN (show i<ns.length by lia)];have es:(rS ns k)[i]? =some (gZ (k*z) (aG ns)):=by unfold rS;rw[bP,ez];rfl
 rw[AZ ea es]at e1;cases e1;have p0:=h0.at' i a r ea e2;have p1:=h1.at' i (a+z) r (AZ ea ez) e2;erw[a4R hq hk qD p0.1 p0.2 p1.1 p1.2]
def iH(M:bC)(S:bu):Prop:=∀i,i<=S.os.length->ft M.rs ((S.os.take i).foldl fY S.pl)
theorem iH.pl{M:bC}{S:bu}(h:iH M S):ft M.rs S.pl:=h 0 (fE _)
theorem iH.eq{M:bC}{S S':bu}(h:iH M S)(e1:S'.os=S.os)(e2:S'.pl=S.pl):iH M S':=by unfold iH;rw[e1,e2];erw[h]
theorem iH.vw{M:bC}{S:bu}{d:ah}{o:Itm}(h:iH M S)(ho:ft M.rs (fY (jV S) o)):iH M (tH S d o):=λi hi=>by
 show ft M.rs (((S.os++[o]).take i).foldl fY S.pl);have nN:i<=S.os.length+1:=by
  have:(tH S d o).os.length=S.os.length+1:=by show(S.os++[o]).length=_;rw[cD];rfl
  lia
 by_cases hl:i<=S.os.length
 ·rw[afF hl]
  erw[h i hl]
 ·rw[u9 (by rw[cD];show S.os.length+1<=i;lia),wu]
  erw[ho]
theorem iH.end{M:bC}{S:bu}(h:iH M S):iH M (kX S):=by unfold kX;cases e:S.os with |nil=>erw[h] |cons o os=>intro i hi;have:=h (i+1) (by rw[e];erw[Nat.succ_le_succ hi]);rw[e]at this;erw[this]
theorem iH.place{M:bC}{D:Nat}{S:bu}(ok:dC M D S)(h:iH M S):ft M.rs (jo S):=by
 by_cases h0:S.dn=0
 ·unfold jo
  rw[bc h0];erw[h.pl]
 ·let(ns,sp,eo,hd):=ok.first h0
  have bZ:=(ok.row.ok 0 ns sp eo).1;unfold jo;rw[bj h0,eo];have lp:=bZ.lead.1;have h1:=h 1 (by have:=(cJ.mp eo).1;lia);have e1:(S.os.take 1).foldl fY S.pl=fZ S.pl ns:=by cases e:S.os with |nil=>rw[e]at eo;simp at eo |cons o os=>rw[e]at eo;cases(eX eo);rfl
  rw[e1]at h1;erw[a2t (by rw[bZ.len];erw[h.pl.len.symm]) ao ao ao h.pl h1]
theorem One.Ju{M:bC}{D:Nat}{S S1:bu}{e:ah}(ok:dC M D S)(o:One M S e S1)(h:iH M S):iH M S1:=by cases o with
 |@line ns sp eo nh=>
  have h1:iH M (kA M S ns sp):=h.eq Z rfl;unfold iC;split
  ·erw[h1.end]
  ·erw[h1] |fH eo ed nh=>let(_,e1,_,_,e2):=FV ok.raw e;exact(h.eq e1 e2).end
theorem Run.Ju{M:bC}{D:Nat}{S S1:bu}{es:List ah}(ok:dC M D S)(aD:M.Ok)(r:Run M S es S1)(h:iH M S):iH M S1:=by induction r with |nil=>erw[h] |cons o _ ih=>erw[ih (One.ok ok aD o) (o.Ju ok h)]
end
end _a
set_option maxHeartbeats 1000000
namespace _a
open PySem PySem.Spec PyProof.Rows _L _l _W
open _T (numS numIn? figs isFig Free)
section
def oV:Option Int->V |some i=>.int i |none=>.bw
def oD:Option Int->ah |some i=>.int i |none=>.none
theorem a9G:∀c<128,decide (c∈xN.cps.toList)=isFig c:=by decide+kernel
theorem a9I:∀c∈xN.cps.toList,c<128:=by decide+kernel
theorem a9H(c:Nat):decide (c∈xN.cps.toList)=isFig c:=by
 by_cases h:c<128
 ·erw[a9G c h]
 ·rw[dM (λhc=>h (a9I c hc)),isFig,dM (show¬c<=57 by omega),Bool.and_false]
inductive adZ(vs:List V)(H:Hp)(Q:VK):Prop |mk (z:Str)(h0:vs=[.str z])(h1:z.length<=640)(h2:∀H',aH H H'->Q (oV (numIn? z)) H')
def yU:Sp:=λvs H Q _=>adZ vs H Q
theorem Q6:bo ["word","figures"] ["word"] (aU GU):=bp aJ
theorem a3m(F:FA K mg "number_in" GU)(B:bI mg)(a8x:GV mg "FIGURES" (.str xN)):aA P w K mg aw "number_in" 1 yU:=by
 erw[F.has Q6 (λvs H Q E h=>?_) (λ_ _ _ _ _ _=>dA λ_=>rfl) (λf aL A outer s H vs Q E hr h=>?_)]
 ·let(z,rfl,_):=h
  rfl
 ·let(z,rfl,hl,k):=h
  have nd:=Q6.nd;have jg:sizeLine=16777216:=by decide
  erw[_,(aB (pS 1 nd (a1Y K Z (pv 0) (ak bW ay))) (aB (bL (PW.pt (iL (cf xj (pv 1) bW (bS _)) (jL (cT (cw (fG (x:="all") (vU K Z Z) Z (B.at "all") yp (ak (eU (N:=["sign"]) (js:=[none]) rfl rfl rfl (Sl (pv 1)) (λ_ _ _ _ _=>(aV 0 (iO _))) (λ_ _ _ _ _=>dZ) (λ_ _ _ _ _=>(jq SE (pv 0) (eD (x:="FIGURES") rfl a8x) (by with_unfolding_all rfl)))) ay))))))) (aI (aQ gX)) bQ) (aB (bL (PW.pt (si (cf xj (Jl Ut (pv 1) aE (λ_ _=>rfl)) bW (bS _)) (xf (cf Jr (pv 0) bW (bS _))))) (aI (aQ gX)) bQ) (aI (aQ (dh (x:="int") ac8 Z (B.at "int") XB (ak (pv 0) ay))))))),?_];erw[_,Z,Z,z,"-",Z,Z,aO,?_];have ef:=_T.a0G z;generalize hz:Txt.removeprefix z "-"=y at ef;unfold numIn? at k;rw[<-ef]at k;have hly:y.length<=z.length:=by
   have e1:y.cps.toList.length=(figs z).length:=by rw[ef]
   have e2:(figs z).length<=z.cps.toList.length:=by
    unfold figs;split
    ·rename_i h;rw[h];simp
    ·rename_i h _;erw[bf _]
   simpa[Str.length]using iK (Nat.le_of_eq e1) e2
  erw[_,Z,Z,_,Z,?_];erw[gd (λh0=>?_) (λh0=>?_)]
  ·have hy:y="":=by simpa using h0
   rw[hy]at k;erw[bR (k H (aH.refl _))]
  ·have hy:y≠"":=by simpa using h0
   have cS:y.cps.toList≠[]:=λe=>hy (_T.M0 (by rw[e];rfl));have he:y.cps.toList.isEmpty=false:=by cases h:y.cps.toList with|nil=>exact(cS h).elim|cons=>rfl
   rw[he,Bool.false_or]at k;erw[_,Z,y,Z,λD H0 nw=>?_];erw[Wr (f:=isFig) [] nw aO (λc H2 Q' hc s2 hq=>?_) (λH2 s2 d2=>?_)]
   ·erw[_,Z,c,xN,Z,Z,?_]
    rw[a9H];erw[hq _ (aH.refl _)]
   ·erw[D,_,Z,aF.of d2,?_]
    rw[X6];erw[_,Z,?_];cases hf:y.cps.toList.all isFig with |false=>rw[hf]at k;erw[bR (k H2 s2)] |true=>rw[hf]at k;erw[aR ?_];let(n,hn):=_T.a6r (z:=z) (by rw[<-ef];erw[cS]) (by rw[<-ef];erw[hf]) aO;rw[hn]at k;cases hc:y.cps.toList with |nil=>exact(cS hc).elim |cons c r=>
     erw[_,Z,y,0,c,Z,Z,aO,cx (df 0) (by rw[hc];rfl),Z,_,Z,?_];have e0:decide (y.cps.toList[0]? =some 48)=decide (V.str ⟨#[c]⟩=V.str "0"):=by
      rw[hc,kj];simp only[EG];erw[λh=>?_,λh=>?_]
      ·have h:c=48:=by simpa using h
       rw[h];decide+kernel
      ·have h:(⟨#[c]⟩:Str)="0":=by simpa using h
       have h2:[c]=[48]:=(lA (λz:Str=>z.cps.toList) h).trans aJ;simpa using h2
     rw[e0]at k;have e1:(!decide (z="0"))= !decide (V.str z=V.str "0"):=by simp
     rw[e1]at k;cases h1:decide (V.str ⟨#[c]⟩=V.str "0")with
     |true=>rw[h1,jE]at k;erw[bR #[_,Z,Z,_,Z,?_]];cases h2: !decide (V.str z=V.str "0")with |true=>rw[h2]at k;erw[bR (k H2 s2)] |false=>rw[h2]at k;erw[aR #[_,Z,z,n,Z,hn,hl,k H2 s2]]
     |false=>rw[h1,jF]at k;erw[aR #[_,Z,z,n,Z,hn,hl,k H2 s2]]
inductive adX(K:aa)(vs:List V)(H:Hp)(Q:VK):Prop |mk (l:Addr)(zs:List Str)(h0:vs=[.ref l])(h1:aF K H l (zs.map V.str))(h2:zs.length<=1000)(h3:(∀z∈zs,z.length<=640))(h4:∀p H',aH H H'->H p=none->H' p=some (.lst (zs.map λz=>oV (numIn? z)))->Q (.ref p) H')
def Cc(K:aa):Sp:=λvs H Q _=>adX K vs H Q
theorem CP{H:Hp}(o:Option Int):RD K H (oV o) (oD o):=by cases o with |none=>erw[zj] |some i=>erw[fP _]
theorem a4k{H:Hp}{v:V}{o:Option Int}(h:RD K H v (oD o)):v=oV o:=by cases o with |none=>erw[h.JE] |some i=>erw[h.int_inv]
theorem SN{H:Hp}:∀{xs:List V}{zs:List Str},aK K H xs (zs.map λz=>oD (numIn? z))->xs=zs.map λz=>oV (numIn? z) |xs,[],h=>h.nil_inv |xs,n::ns,h=>by let(y,ys,rfl,h1,h2):=h.cons_inv;rw[a4k h1,SN h2];rfl
theorem a4l(zs:List Str):cA (zs.map λz=>oD (numIn? z))=true:=eF.mpr λd hd=>by let(z,_,rfl):=cI.mp hd;cases numIn? z<;>rfl
theorem Q3:bo ["words"] ["words"] (aU GQ):=bp aJ
theorem a3l(F:FA K mg "numbers_in" GQ)(B:bI mg)(Ad:aA P w K mg aw "number_in" 1 yU):aA P w K mg aw "numbers_in" 2 (Cc K):=by
 erw[F.has Q3 (λvs H Q E h=>?_) (λ_ _ _ _ _ _=>dA λ_=>rfl) (λf aL A outer s H vs Q E hr h=>?_)]
 ·let(l,zs,rfl,_):=h
  rfl
 ·let(l,zs,rfl,hl,hn,hz,k):=h
  have nd:=Q3.nd;erw[_,(aI (aQ (eU (N:=["word"]) (js:=[none]) Z Z Z (nk K Z (pv 0)) (λ_ _ _ _ _=>(aV 0 (iO _))) (λ_ _ _ _ _=>dZ) (λ_ _ _ _ _=>(pf Ad hr (ak (pv 0) ay)))))),?_];erw[_,Z,l,Z,#[_,hl],λD H1 n1=>?_];erw[vM (K:=K) (ds:=zs.map λz=>oD (numIn? z)) _ hl n1 (by simp) (by simp;omega) (a4l _) ?_ ?_]
  ·intro i x d H2 Q' ex ed s2 hq
   rw[bP]at ex ed;let(z,ez,rfl):=u7.mp ex;rw[ez]at ed;cases ed;erw[_,Z,z,Z,hz z (fR ez),λH3 s3=>hq _ _ s3 (CP _)]
  ·intro H2 ys s2 d2 r2
   rw[SN r2]at d2;erw[k D H2 s2 n1.no d2]
def vX(z:Str):Prop:=∀c∈z.cps.toList,c<0x110000
theorem Jy{n:Nat}{z:Str}(h:vX z):dq n (.str z):=#[by show PyData.strOk z=true;unfold PyData.strOk;rw[XX];erw[λc hc=>cu (h c (by simpa using hc))],fE _]
theorem Vh{c x:Nat}:∀{as:List (List Nat)}{a:List Nat},a∈as->x∈a->x∈_T.gl c as
 |[],a,h,_=>nomatch h |[b],a,h,hx=>by rw[dN.mp h]at hx;erw[hx] |b::d::r,a,h,hx=>by
  show x∈b++c::_T.gl c (d::r);rcases cO.mp h with rfl|h
  ·erw[XH _ hx]
  ·erw[gT _ (.tail _ (Vh h hx))]
theorem Vi{c:Nat}:∀{as:List (List Nat)}{a:List Nat},a∈as->a.length<=(_T.gl c as).length
 |[],a,h=>nomatch h |[b],a,h=>by rw[dN.mp h];erw[bf _] |b::d::r,a,h=>by
  show a.length<=(b++c::_T.gl c (d::r)).length;rw[cD,gz];rcases cO.mp h with rfl|h
  ·omega
  ·have:=Vi (c:=c) h;omega
theorem O8(z:Str)(c:Nat):_T.gl c ((Txt.split z ⟨#[c]⟩).map λy=>y.cps.toList)=z.cps.toList:=by rw[<-_T.Lc,StrLaws.join_split]
theorem ZG{z y:Str}{c:Nat}(h:vX z)(hy:y∈Txt.split z ⟨#[c]⟩):vX y:=λx hx=>h x (by rw[<-O8 z c];erw[Vh (cI.mpr #[y,hy,Z]) hx])
theorem split_le{z y:Str}{c:Nat}(hy:y∈Txt.split z ⟨#[c]⟩):y.length<=z.length:=by have:=Vi (c:=c) (cI.mpr #[y,hy,Z]:y.cps.toList∈(Txt.split z ⟨#[c]⟩).map λy=>y.cps.toList);rw[O8]at this;simpa[Str.length]using this
theorem pU:(" ":Str)=⟨#[32]⟩:=by decide+kernel
theorem a4K:("\n":Str)=⟨#[10]⟩:=by decide+kernel
def nI (z:Str):ah:=oD (numIn? z)
def gW:List Str->ah |[]=>.none |w::rest=>if w="line" then(match rest with |[]=>.none |r::rs=>.tuple [.str w,.tuple (((r::rs).map nI).take rs.length),((r::rs).map nI).getLastD .none]) else match rest with |[r]=>.tuple [.str w,if w="wait" then nI r else .str r] |_=>.none
def vc(n:Nat)(z:Str):ah:=bif nC n (gW (Txt.split z " "))then gW (Txt.split z " ")else .none
theorem SM{H:Hp}:∀(zs:List Str),aK K H (zs.map λz=>oV (numIn? z)) (zs.map nI) |[]=>by simp[aK] |z::zs=>by rw[rA,rA,aK];erw[_,_,Z,CP _,SM zs]
theorem uG{H:Hp}{x:V}{xs:List V}{d:ah}{ds:List ah}(h:RD K H x d)(r:aK K H xs ds):aK K H (x::xs) (d::ds):=by rw[aK];erw[_,_,Z,h,r]
theorem IZ{H:Hp}:aK K H [] []:=by simp[aK]
theorem JL{n:Nat}(z:Str):dq n (nI z):=by unfold nI;cases numIn? z with |none=>erw[.bw] |some i=>erw[.int i]
theorem To(z:Str):kM (nI z)=true:=by unfold nI;cases numIn? z<;>rfl
theorem NB:gW ["line"]= .none:=by unfold gW;dsimp only;rw[bc rfl]
theorem F9{r:Str}{rs:List Str}:gW ("line"::r::rs)= .tuple [.str "line",.tuple (((r::rs).map nI).take rs.length),((r::rs).map nI).getLastD .none]:=by unfold gW;dsimp only;rw[bc rfl]
theorem BZ{w r:Str}(h:w≠"line"):gW [w,r]= .tuple [.str w,if w="wait" then nI r else .str r]:=by unfold gW;dsimp only;rw[bj h]
theorem F8{w:Str}{ws:List Str}(h:w≠"line")(hl:ws.length≠1):gW (w::ws)= .none:=by
 unfold gW;dsimp only;rw[bj h];split
 ·exact(hl Z).elim
 ·rfl
theorem YL{ws:List Str}(h:∀w∈ws,vX w/\w.length<=640):dq 8 (gW ws)/\Cm (gW ws)=true:=by cases ws with |nil=>erw[.bw,Z] |cons w rest=>
 let(hw,hl):=h w (.head _);have sw:kM (.str w)=true:=cu aO;by_cases hx:w="line"
 ·subst hx
  cases rest with |nil=>rw[NB];erw[.bw,Z] |cons r rs=>
   rw[F9];have hm:∀d∈(r::rs).map nI,dq 0 d:=λd hd=>by let(z,_,rfl):=cI.mp hd;erw[JL z]
   have UT:dq 0 (((r::rs).map nI).getLastD .none)/\kM (((r::rs).map nI).getLastD .none)=true:=by rw[XI];cases e:((r::rs).map nI).getLast? with |none=>erw[.bw,Z] |some d=>let(z,_,rfl):=cI.mp (List.mem_of_getLast? e);erw[JL z,To z]
   have hs:iq 2 [.str "line",.tuple (((r::rs).map nI).take rs.length),((r::rs).map nI).getLastD .none]:=λd hd=>by
    simp only[cO,iu,kH]at hd;rcases hd with rfl|rfl|rfl
    ·erw[Jy hw]
    ·exact(iq.tup (n:=0) λd hd=>hm d (Bs hd)).le az
    ·erw[UT.1.le az]
   erw[hs.tup.le az,?_];show[_,_,_].all kM=true;simp only[yA,Na,BB,sw,UT.2];rfl
 ·match rest,h with
  |[],_=>rw[F8 hx (by simp)];erw[.bw,Z] |[r],h=>
   rw[BZ hx];let(hr,hlr):=h r (.tail _ (.head _));have hv:dq 0 (if w="wait" then nI r else .str r)/\kM (if w="wait" then nI r else .str r)=true:=by
    split
    ·erw[JL r,To r]
    ·erw[Jy hr,cu aO]
   have hs:iq 1 [.str w,if w="wait" then nI r else .str r]:=λd hd=>by
    simp only[cO,iu,kH]at hd;rcases hd with rfl|rfl
    ·erw[Jy hw]
    ·erw[hv.1.le az]
   erw[hs.tup.le az,?_];show[_,_].all kM=true;simp only[yA,Na,BB,sw,hv.2] |_::_::_,_=>rw[F8 hx (by simp)];erw[.bw,Z]
inductive aed(K:aa)(vs:List V)(H:Hp)(Q:VK):Prop |mk (m:V)(rs:List Int)(es:List ah)(z:Str)(h0:vs=[m,.str z])(h1:RD K H m (.tuple (.tuple (rs.map PyData.int)::es)))(h2:cA es=true)(h3:rs.length<=3)(h4:z.length<=600)(h5:vX z)(h6:∀v H',aH H H'->RD K H' v (vc rs.length z)->Q v H')
def FK(K:aa):Sp:=λvs H Q _=>aed K vs H Q
theorem Qm:bo ["machine","row","word","rest","thing","numbers"] ["machine","row"] (aU Hk):=bp aJ
theorem a3E(F:FA K mg "item_in" Hk)(B:bI mg)(Ad:aA P w K mg aw "number_in" 1 yU)(Kw:aA P w K mg aw "numbers_in" 2 (Cc K))(Aj:aA P w K mg aw "is_item" 4 (yW K)):aA P w K mg aw "item_in" 5 (FK K):=by
 erw[F.has Qm (λvs H Q E h=>?_) (λ_ _ _ _ _ _=>dW λ_ _=>rfl) (λf aL A outer s H vs Q E hr h=>?_)]
 ·let(m,rs,es,z,rfl,_):=h
  rfl
 ·let(m,rs,es,z,rfl,rm,ne,l3,hz,tz,k):=h
  have nd:=Qm.nd;have jg:sizeLine=16777216:=by decide
  have vf:∀y∈Txt.split z " ",vX y/\y.length<=640:=λy hy=>by rw[pU]at hy;have:=split_le hy;erw[ZG tz hy,aO]
  have DF:=split_len z " ";erw[_,(aB (fh (Jm K Z (pv 1) (ak bW ay)) (So K Z Z (aV 2 nd) (aV 3 nd))) (aB (pS 4 nd gX) (aB (j3 (bL (cf xj (pv 2) bW (bS _)) (aB (pS 5 nd (pf Kw hr (ak (pv 3) ay))) (aI (pS 4 nd (me (zm K Z (pv 5)) (j6 (ak (pv 2) (ak (dh (x:="tuple") (kn K Z) Z (B.at "tuple") ir (ak (zv (yZ K rfl) (pv 5) zq (zp (jN jH aE))) ay)) (ak (px K (pv 5) (jN jH aE)) ay)))) gX)))) (aI (bL (cf xj (fU K B (ak (pv 3) ay)) aE (bS _)) (aI (pS 4 nd (j6 (ak (pv 2) (ak (me (cf xj (pv 2) bW (bS _)) (pf Ad hr (ak (px K (pv 3) aE) ay)) (px K (pv 3) aE)) ay))))) bQ)))) (aI (aQ (me (cw (pf Aj hr (ak (pv 0) (ak (pv 4) ay)))) (pv 4) gX)))))),?_];erw[_,Z,Z,z," ",Z,Z,aJ,aO,λl H1 n1=>?_];obtain⟨x,ws,ew⟩:∃x ws,Txt.split z " "=x::ws:=by cases e:Txt.split z " " with |nil=>exact(_T.O7 _ _ e).elim |cons x ws=>erw[x,ws,Z]
  unfold vc at k;rw[ew]at n1 vf DF k;rw[gz]at DF;erw[l,.str x,ws.map V.str,Z,aF.of n1.at',by rw[ba];omega,λp H2 n2=>?_];have s2:=n1.same.trans n2.same;have DB:∀y∈ws,y.length<=640:=λy hy=>(vf y (.tail _ hy)).2;erw[λO H3=>∃t w5,O=[some m,some (.str z),some (.str x),some (.ref p),some t,w5]/\aH H H3/\RD K H3 t (gW (x::ws)),?_,?_]
  ·erw[_,Z,Z,_,Z,?_]
   erw[gd (λh0=>?_) (λh0=>?_)]
   ·have hx:x="line":=by simpa using h0
    subst hx;erw[_,Z,p,ws,Z,aF.of n2.at',aO,DB,λq H3 s3 nq e3=>?_];erw[_,Z,!(ws.map λz=>oV (numIn? z)).isEmpty,.inl #[_,aF.of e3,Z],?_];cases ws with |nil=>erw[aR #[.bw,_,Z,s2.trans s3,?_]];rw[NB];erw[zj] |cons r uE=>
     erw[bR #[_,Z,?_]];erw[_,Z,1,Z,_,Z,q,_,Z,.inl #[aF.of e3,λq2 H4 n4=>?_]];rw[Wj]at n4;have n4':=n4.at';erw[q2,_,Z,.inl #[aF.of n4',λq3 H5 n5=>?_]];obtain⟨v,ev⟩:∃v,((r::uE).map λz=>oV (numIn? z)).getLast? =some v:=#[_,XJ (by simp)];have e5:=n5.same _ _ (n4.same _ _ e3);erw[_,Z,1,Z,.inl #[q,_,-1,v,Z,Z,aF.of e5,AX ev,?_]];erw[by show 3<=sizeLine;omega,λq6 H6 n6=>?_];have s6:=(((s2.trans s3).trans n4.same).trans n5.same).trans n6.same;erw[_,_,Z,s6,?_];rw[F9];have el:((r::uE).map nI).getLastD .none=oD (numIn? ((r::uE).getLast (by simp))):=by rw[XI,List.getLast?_map,XJ (by simp)];rfl
     have evv:v=oV (numIn? ((r::uE).getLast (by simp))):=by rw[List.getLast?_map,XJ (by simp)]at ev;exact(eX ev).symm
     erw[fO (aW.of n6.at') (uG (bJ _) (uG ?_ (uG ?_ IZ)))]
     ·erw[fO (aW.of (n6.same _ _ n5.at')) ?_]
      rw[ba,gz,XF];exact(SM (r::uE)).take _
     ·rw[el,evv];erw[CP _]
   ·have hx:x≠"line":=by simpa using h0
    erw[_,Z,p,_,Z,.inl (aF.of n2.at'),Z,_,Z,?_];erw[gd (λh1=>?_) (λh1=>?_)]
    ·have mG:ws.length=1:=by have h1:=m4 h1;rw[ba]at h1;injection h1 with h1;omega
     match ws,mG,n2,DB,k with
     |[r],_,n2,DB,k=>
      erw[_,Z,_,Z,Z,_,Z,?_];erw[gd (λh2=>?_) (λh2=>?_)]
      ·have Kn:x="wait":=by simpa using h2
       erw[_,Z,.inl #[p,_,0,.str r,Z,Z,aF.of n2.at',Z,?_]];erw[r,Z,DB r (.head _),λH3 s3=>?_];erw[by show 2<=sizeLine;omega,λq6 H6 n6=>?_];erw[_,_,Z,(s2.trans s3).trans n6.same,?_];rw[BZ hx,bc Kn];erw[fO (aW.of n6.at') (uG (bJ _) (uG (CP _) IZ))]
      ·have Kn:x≠"wait":=by simpa using h2
       erw[_,Z,.inl #[p,_,0,.str r,Z,Z,aF.of n2.at',Z,?_]];erw[by show 2<=sizeLine;omega,λq6 H6 n6=>?_];erw[_,_,Z,s2.trans n6.same,?_];rw[BZ hx,bj Kn];erw[fO (aW.of n6.at') (uG (bJ _) (uG (bJ _) IZ))]
    ·have mG:ws.length≠1:=λe=>h1 (cu (by rw[ba,e];rfl))
     erw[.bw,_,Z,s2,?_];rw[F8 hx mG];erw[zj]
  ·rintro O H3 ⟨t,w5,rfl,s3,rt⟩
   have ok:=YL (ws:=x::ws) vf;erw[_,Z,_,Z,m,t,rs,es,gW (x::ws),Z,RD.mono s3 _ rm,rt,l3,ok.1,ok.2,λH4 s4=>#[_,Z,?_]];cases hi:nC rs.length (gW (x::ws))with |true=>rw[hi]at k;erw[bR #[_,Z,k _ _ (s3.trans s4) (RD.mono s4 _ rt)]] |false=>rw[hi]at k;erw[aR (k _ _ (s3.trans s4) zj)]
end
end _a
set_option maxHeartbeats 2000000
namespace _a
open PySem PySem.Spec PyProof.Rows _L _l _W
open _T (numS numIn? figs isFig Free)
section
def ug:ah->Str | .int i=>numS i | .str z=>z |_=>Str.empty
def fj(ns:List Int):Str:=Txt.join " " (ns.map numS)
def hZ(a b:Int):Str:=if b=1 then numS a else numS a++"/"++numS b
def gr:ah->Str | .tuple [.str _,.tuple xs,.int sp]=>"line "++Txt.join " " (xs.map ug)++" "++numS sp | .tuple [.str w,u]=>w++" "++ug u |_=>Str.empty
def gw:ah->Str | .tuple [.str _,.tuple xs,.int t,.tuple [.int a,.int b]]=>"step "++Txt.join " " (xs.map ug)++" "++numS t++" "++hZ a b |d=>gr d
def Nm (i:Int):Prop:=i.natAbs<10^40
def oj(w:Str):Prop:=w="wait"\/w="tool"\/w="mark"
def TI(d:ah):Prop:=(∃ns sp,d=eK ns sp/\ns.length<=3/\(∀n∈ns,Nm n)/\Nm sp)\/(∃w i,d= .tuple [.str w,.int i]/\oj w/\Nm i)\/∃w z,d= .tuple [.str w,.str z]/\oj w/\z.length<=100
theorem TM(ns:List Int):(ns.map PyData.int).map ug=ns.map numS:=by rw[ES];rfl
theorem Dt(ns:List Int)(sp:Int):gr (eK ns sp)="line "++fj ns++" "++numS sp:=by show Str.ofString "line "++Txt.join " " ((ns.map PyData.int).map ug)++" "++numS sp=_;rw[TM];rfl
theorem fV{i:Int}(h:Nm i):(numS i).length<=41:=Nr h
theorem uQ{ns:List Int}(h:∀n∈ns,Nm n)(hl:ns.length<=3):(fj ns).length<=126:=by
 have:=Ds " " (B:=41) (ns.map numS) (λz hz=>by let(n,hn,rfl):=cI.mp hz;erw[fV (h n hn)]);rw[ba]at this;have e:Str.length " "=1:=by decide+kernel
 rw[e]at this;unfold fj
 lia
theorem BM{w:Str}(h:oj w):w.length=4:=by rcases h with rfl|rfl|rfl<;>decide+kernel
theorem Kf{d:ah}(h:TI d):(gr d).length<=400:=by
 have e1:Str.length " "=1:=by decide+kernel
 have e2:Str.length "line "=5:=by decide+kernel
 rcases h with⟨ns,sp,rfl,hl,hb,hs⟩|⟨w,i,rfl,hw,hi⟩|⟨w,z,rfl,hw,hz⟩
 ·rw[Dt]
  have h1:=uQ hb hl;have h2:=fV hs;simp only[dv]
  lia
 ·show(w++" "++numS i).length<=400
  have h2:=fV hi;have h3:=BM hw;simp only[dv]
  lia
 ·show(w++" "++z).length<=400
  have h3:=BM hw;simp only[dv]
  lia
theorem nA:SeqAt.shaped (.str "line")=true:=by decide+kernel
theorem wI:SeqAt.shaped (.str "step")=true:=by decide+kernel
theorem tJ(x y:Str):PyData.eqv (.str x) (.str y)=decide (x=y):=by show(x==y)=decide (x=y);rw[kj];simp
theorem yK{H:Hp}{v:V}{d:ah}(h:RD K H v d)(i:TI d):(∃ns sp a b,d=eK ns sp/\v= .ref a/\aW K H a [.str "line",.ref b,.int sp]/\RD K H (.ref b) (.tuple (ns.map PyData.int))/\ns.length<=3/\(∀n∈ns,Nm n)/\Nm sp)\/∃w u a y,d= .tuple [.str w,u]/\oj w/\v= .ref a/\aW K H a [.str w,y]/\RD K H y u/\((∃i,u= .int i/\y= .int i/\Nm i)\/∃z,u= .str z/\y= .str z/\z.length<=100):=by
 rcases i with⟨ns,sp,rfl,hl,hb,hs⟩|⟨w,i,rfl,hw,hi⟩|⟨w,z,rfl,hw,hz⟩
 ·let(a,xs,rfl,h1,h2):=h.cv
  let(x1,r,rfl,e1,h2):=h2.cons_inv;let(x2,r,rfl,e2,h2):=h2.cons_inv;let(x3,r,rfl,e3,h2):=h2.cons_inv;cases h2.nil_inv;cases e1.str_inv;cases e3.int_inv;let(b,ys,rfl,_,_):=id e2.cv;erw[.inl #[ns,sp,a,b,Z,Z,h1,e2,hl,hb,hs]]
 ·let(a,xs,rfl,h1,h2):=h.cv
  let(x1,r,rfl,e1,h2):=h2.cons_inv;let(x2,r,rfl,e2,h2):=h2.cons_inv;cases h2.nil_inv;cases e1.str_inv;cases e2.int_inv;erw[.inr #[w,_,a,_,Z,hw,Z,h1,e2,.inl #[i,Z,Z,hi]]]
 ·let(a,xs,rfl,h1,h2):=h.cv
  let(x1,r,rfl,e1,h2):=h2.cons_inv;let(x2,r,rfl,e2,h2):=h2.cons_inv;cases h2.nil_inv;cases e1.str_inv;cases e2.str_inv;erw[.inr #[w,_,a,_,Z,hw,Z,h1,e2,.inr #[z,Z,Z,hz]]]
theorem BK{w:Str}(h:oj w):SeqAt.shaped (.str w)=true:=by rcases h with rfl|rfl|rfl<;>decide+kernel
theorem BL{w:Str}(h:oj w):decide (w="line")=false/\decide (w="step")=false:=by rcases h with rfl|rfl|rfl<;>decide+kernel
inductive adY(K:aa)(vs:List V)(H:Hp)(Q:VK):Prop |mk (v:_)(ns:_)(h0:vs=[v])(h1:RD K H v (.tuple (ns.map PyData.int)))(h2:ns.length<=3)(h3:(∀n∈ns,Nm n))(h4:∀H',aH H H'->Q (.str (fj ns)) H')
def Cd(K:aa):Sp:=λvs H Q _=>adY K vs H Q
theorem oO(zs:List Str):cA (zs.map PyData.str)=true:=eF.mpr λd hd=>by let(z,_,rfl):=cI.mp hd;rfl
theorem Pr:bo ["numbers"] ["numbers"] (aU Ge):=bp aJ
theorem a2N(F:FA K mg "show_numbers" Ge)(B:bI mg):aA P w K mg aw "show_numbers" 1 (Cd K):=by
 erw[F.has Pr (λvs H Q E h=>?_) (λ_ _ _ _ _ _=>dA λ_=>rfl) (λf aL A outer s H vs Q E hr h=>?_)]
 ·let(v,ns,rfl,_):=h
  rfl
 ·let(v,ns,rfl,rv,hl,hb,k):=h
  have nd:=Pr.nd;erw[_,(aI (aQ (qg K Z bW (ak (eU (N:=["number"]) (js:=[none]) Z Z Z (j5 K Z (pv 0)) (λ_ _ _ _ _=>(aV 0 (iO _))) (λ_ _ _ _ _=>dZ) (λ_ _ _ _ _=>(dh (x:="str") iT Z (B.at "str") iJ (ak (pv 0) ay)))) ay)))),?_];let(a,xs,rfl,h1,h2):=rv.cv;rw[h2.gh]at h1;erw[Z,?_];erw[_,Z,a,Z,#[_,h1],λD H1 n1=>?_];erw[qS (K:=K) (ds:=(ns.map numS).map PyData.str) _ h1 n1 (by simp) (by simp;lia) (oO _) ?_ ?_]
  ·intro i x d H2 Q' ex ed s2 hq
   rw[bP]at ex;let(n,en,rfl):=u7.mp ex;rw[bP,bP,en]at ed;cases ed;have hn:=hb n (fR en);erw[_,Z,.inl #[n,Z,kz hn,hq _ _ (aH.refl _) (bJ _)]]
  ·intro H2 zs s2 d2 r2
   rw[oE r2]at d2;erw[" ",D,ns.map numS,Z,Z,aF.of d2,λz hz=>?_,aJ,by rw[ba];lia,k _ s2];let(n,hn,rfl):=cI.mp hz;have:=fV (hb n hn)
   lia
inductive aeg(K:aa)(vs:List V)(H:Hp)(Q:VK):Prop |mk (v:_)(d:_)(h0:vs=[v])(h1:RD K H v d)(h2:TI d)(h3:(∀b:Bool,(b=true↔∃ns sp,d=eK ns sp)->Q (.bl b) H))
def OH(K:aa):Sp:=λvs H Q _=>aeg K vs H Q
theorem yL{w:Str}{u:ah}(h:oj w):¬∃ns sp,PyData.tuple [.str w,u]=eK ns sp:=by rintro⟨ns,sp,e⟩;unfold eK at e;injection e with e;injection e with e1 e2;injection e2 with e2 e3;cases e3
abbrev QZ:Stmt:=top 32
theorem Qp:bo ["item"] ["item"] (aU QZ):=bp aJ
theorem a3J(F:FA K mg "is_line" QZ)(B:bI mg):aA P w K mg aw "is_line" 1 (OH K):=by
 erw[F.has Qp (λvs H Q E h=>?_) (λ_ _ _ _ _ _=>dA λ_=>rfl) (λf aL A outer s H vs Q E hr h=>?_)]
 ·let(v,d,rfl,_):=h
  rfl
 ·let(v,d,rfl,rv,ti,k):=h
  have nd:=Qp.nd;erw[_,(aI (aQ (jq (dU K Z hr.units) (px K (pv 0) aE) bW (bS _)))),?_];rcases yK rv ti with⟨ns,sp,a,b,rfl,rfl,h1,_⟩|⟨w,u,a,y,rfl,hw,rfl,h1,_⟩
  ·erw[_,Z,.inr #[a,_,0,.str "line",Z,Z,h1,cx (df 0) Z,.inr #[_,_,bJ _,bJ _,nA,nA,?_]]]
   rw[tJ,cu rfl];erw[k true #[λ_=>#[_,_,Z],λ_=>rfl]]
  ·erw[_,Z,.inr #[a,_,0,.str w,Z,Z,h1,cx (df 0) Z,.inr #[_,_,bJ _,bJ _,BK hw,nA,?_]]]
   rw[tJ,(BL hw).1];erw[k false #[λz=>(by cases z),λz=>(yL hw z).elim]]
inductive aec(K:aa)(vs:List V)(H:Hp)(Q:VK):Prop |mk (v:_)(d:_)(h0:vs=[v])(h1:RD K H v d)(h2:TI d)(h3:∀H',aH H H'->Q (.str (gr d)) H')
def yV(K:aa):Sp:=λvs H Q _=>aec K vs H Q
theorem Pt:bo ["item","word","steps","speed","value"] ["item"] (aU Gf):=bp aJ
theorem a2O(F:FA K mg "show_item" Gf)(B:bI mg)(iD:aA P w K mg aw "is_line" 1 (OH K))(A7:aA P w K mg aw "show_numbers" 1 (Cd K)):aA P w K mg aw "show_item" 2 (yV K):=by
 erw[F.has Pt (λvs H Q E h=>?_) (λ_ _ _ _ _ _=>dA λ_=>rfl) (λf aL A outer s H vs Q E hr h=>?_)]
 ·let(v,d,rfl,_):=h
  rfl
 ·let(v,d,rfl,rv,ti,k):=h
  have nd:=Pt.nd;have jg:sizeLine=16777216:=by decide
  have e1:Str.length " "=1:=by decide+kernel
  have e2:Str.length "line"=4:=by decide+kernel
  have e0:Str.empty.length=0:=by decide+kernel
  erw[_,(aB (bL (cw (pf iD hr (ak (pv 0) ay))) (aB (fh (pv 0) (eg K Z (n:=3) Z (bV (aV 1 nd) (bV (aV 2 nd) (bV (aV 3 nd) e9))))) (aI (aQ (CG (j4 (nu (pv 1)) (j4 bW (j4 (nu (pf A7 hr (ak (pv 2) ay))) (j4 bW (j4 (nu (pv 3)) CF))))))))) bQ) (aB (fh (pv 0) (eg K Z (n:=2) Z (bV (aV 1 nd) (bV (aV 4 nd) e9)))) (aI (aQ (CG (j4 (nu (pv 1)) (j4 bW (j4 (nu (pv 4)) CF)))))))),?_];erw[_,Z,v,d,Z,rv,ti,λb hb=>#[_,Z,?_]];rcases yK rv ti with⟨ns,sp,a,b',rfl,rfl,h1,r2,hl,hn,hs⟩|⟨w,u,a,y,rfl,hw,rfl,h1,ry,hv⟩
  ·cases(hb.mpr #[_,_,rfl])
   erw[bR ?_];have DQ:=uQ hn hl;have xK:=fV hs;erw[_,Z,a,_,Z,h1,Z,_,_,Z,_,_,Z,_,_,Z,Z,?_];erw[_,Z,.inr #["line",Z,ao,_,Z,by simp only[dv];lia,?_]];erw[_,Z,by simp only[dv];lia,?_];erw[_,Z,.ref b',ns,Z,r2,hl,hn,λH1 s1=>.inr #[_,Z,ao,_,Z,by simp only[dv];lia,?_]];erw[_,Z,by simp only[dv];lia,?_];erw[_,Z,.inl #[sp,Z,kz hs,_,Z,by simp only[dv];change _+(numS sp).length<=_;lia,?_]];erw[by simp only[dv];change _+(numS sp).length<=_;lia,?_];have e:Str.empty++"line"++" "++fj ns++" "++numS sp=gr (eK ns sp):=by
    rw[Dt,MM];have:(Str.ofString "line"++Str.ofString " ")=Str.ofString "line ":=by decide+kernel
    rw[this]
   have:=k H1 s1;rw[<-e]at this;erw[this]
  ·have KQ:b=false:=by cases b with |false=>rfl |true=>exact(yL hw (hb.mp Z)).elim
   subst KQ;erw[aR ?_];have w4:=BM hw;erw[_,Z,a,_,Z,h1,Z,_,_,Z,_,_,Z,Z,?_];erw[_,Z,.inr #[w,Z,ao,_,Z,by simp only[dv];lia,?_]];erw[_,Z,by simp only[dv];lia,?_];have fin:=k H (aH.refl _);have e:Str.empty++w++" "++ug u=gr (.tuple [.str w,u]):=by rw[MM];rcases hv with⟨i,rfl,_⟩|⟨z,rfl,_⟩<;>rfl
   rw[<-e]at fin;rcases hv with⟨i,rfl,rfl,hi⟩|⟨z,rfl,rfl,hz⟩
   ·have xK:=fV hi
    erw[_,Z,.inl #[i,Z,kz hi,_,Z,by simp only[dv];change _+(numS i).length<=_;lia,?_]];erw[by simp only[dv];change _+(numS i).length<=_;lia,fin]
   ·erw[_,Z,.inr #[z,Z,ao,_,Z,by simp only[dv];lia,?_]]
    erw[by simp only[dv];lia,fin]
theorem sz:sizeLine=16777216:=by decide
theorem cP:Str.length " "=1:=by decide+kernel
theorem OV:Str.empty.length=0:=by decide+kernel
def lg (i:Int):Prop:=i.natAbs<10^540
theorem qi{i:Int}(h:lg i):(numS i).length<=541:=by show(Str.ofString (toString i)).length<=541;rw[PySem.ofString_length];erw[int_text_length_le10 (k:=540) az h]
theorem sE{i:Int}(h:lg i):i.natAbs.log2<1920:=by
 by_cases h0:i.natAbs=0
 ·rw[h0];decide
 ·exact(Nat.log2_lt h0).mpr (EN h aJ)
inductive ael(K:aa)(vs:List V)(H:Hp)(Q:VK):Prop |mk (v:_)(a:_)(b:_)(h0:vs=[v])(h1:RD K H v (.tuple [.int a,.int b]))(h2:lg a)(h3:lg b)(h4:Q (.str (hZ a b)) H)
def uz(K:aa):Sp:=λvs H Q _=>ael K vs H Q
theorem F6{H:Hp}{v:V}{a b:Int}(h:RD K H v (.tuple [.int a,.int b])):∃p,v= .ref p/\aW K H p [.int a,.int b]:=by let(p,xs,rfl,h1,h2):=h.cv;let(x1,r,rfl,e1,h2):=h2.cons_inv;let(x2,r,rfl,e2,h2):=h2.cons_inv;cases h2.nil_inv;cases e1.int_inv;cases e2.int_inv;erw[p,Z,h1]
theorem FQ:Str.length "/"=1:=by decide+kernel
theorem Av{a b:Int}(ha:lg a)(hb:lg b):(hZ a b).length<=1100:=by
 have h1:=qi ha;have h2:=qi hb;have h3:=FQ;unfold hZ;split
 ·lia
 ·simp only[dv];lia
theorem Pu:bo ["one","p","q"] ["one"] (aU Gg):=bp aJ
theorem a2P(F:FA K mg "show_fraction" Gg)(B:bI mg):aA P w K mg aw "show_fraction" 1 (uz K):=by
 erw[F.has Pu (λvs H Q E h=>?_) (λ_ _ _ _ _ _=>dA λ_=>rfl) (λf aL A outer s H vs Q E hr h=>?_)]
 ·let(v,a,b,rfl,_):=h
  rfl
 ·let(v,a,b,rfl,rv,na,nb,k):=h
  have nd:=Pu.nd;erw[_,(aB (fh (pv 0) (eg K Z (n:=2) Z (bV (aV 1 nd) (bV (aV 2 nd) e9)))) (aI (aQ (me (cf (dU K Z hr.units) (pv 2) aE (bS _)) (dh (x:="str") iT Z (B.at "str") iJ (ak (pv 1) ay)) (CG (j4 (nu (pv 1)) (j4 bW (j4 (nu (pv 2)) CF)))))))),?_];let(p,rfl,h1):=F6 rv;have l1:=qi na;have l2:=qi nb;have hs:=sz;have h0:=OV;have DF:=FQ;erw[_,Z,p,_,Z,h1,Z,_,_,Z,_,_,Z,Z,?_];erw[_,Z,.inl #[_,_,Z,Z,_,Z,?_]];by_cases hb:b=1
  ·rw[cu hb]
   erw[bR #[_,Z,.inl #[a,Z,sE na,?_]]];unfold hZ at k;rw[bc hb]at k;erw[k]
  ·rw[dM hb]
   erw[aR #[_,Z,.inl #[a,Z,sE na,_,Z,by simp only[dv];change _+(numS a).length<=_;lia,?_]]];erw[_,Z,by simp only[dv];change _+(numS a).length+_<=_;lia,?_];erw[_,Z,.inl #[b,Z,sE nb,_,Z,by simp only[dv];change _+(numS a).length+_+(numS b).length<=_;lia,?_]];erw[by simp only[dv];change _+(numS a).length+_+(numS b).length<=_;lia,?_];unfold hZ at k;rw[bj hb]at k;have e:Str.empty++numS a++"/"++numS b=numS a++"/"++numS b:=by rw[MM]
   rw[<-e]at k;erw[k]
theorem Qj:bo ["_law_one"] ["_law_one"] (aU Hh):=bp aJ
theorem a3w(F:FA K mg "_law_fraction_text" Hh)(B:bI mg):aA P w K mg aw "_law_fraction_text" 1 (uz K):=by
 erw[F.has Qj (λvs H Q E h=>?_) (λ_ _ _ _ _ _=>dA λ_=>rfl) (λf aL A outer s H vs Q E hr h=>?_)]
 ·let(v,a,b,rfl,_):=h
  rfl
 ·let(v,a,b,rfl,rv,na,nb,k):=h
  have nd:=Qj.nd;erw[_,(aI (aQ (me (cf (dU K Z hr.units) (px K (pv 0) aE) aE (bS _)) (dh (x:="str") iT Z (B.at "str") iJ (ak (px K (pv 0) aE) ay)) (aP ju (aP ju (dh (x:="str") iT rfl (B.at "str") iJ (ak (px K (pv 0) aE) ay)) bW) (dh (x:="str") iT rfl (B.at "str") iJ (ak (px K (pv 0) aE) ay)))))),?_];let(p,rfl,h1):=F6 rv;have l1:=qi na;have l2:=qi nb;have hs:=sz;have DF:=FQ;erw[_,Z,.inr #[p,_,1,.int b,Z,Z,h1,Z,.inl #[_,_,Z,Z,_,Z,?_]]];by_cases hb:b=1
  ·rw[cu hb]
   erw[bR #[_,Z,.inr #[p,_,0,.int a,Z,Z,h1,Z,.inl #[a,Z,sE na,?_]]]];unfold hZ at k;rw[bc hb]at k;erw[k]
  ·rw[dM hb]
   erw[aR #[_,Z,.inr #[p,_,0,.int a,Z,Z,h1,Z,.inl #[a,Z,sE na,?_]]]];erw[_,_,Z,Z,by change (numS a).length+_<=_;lia,?_];erw[_,Z,.inr #[p,_,1,.int b,Z,Z,h1,Z,.inl #[b,Z,sE nb,?_]]];erw[_,_,Z,Z,by simp only[dv];change (numS a).length+_+(numS b).length<=_;lia,?_];unfold hZ at k;rw[bj hb]at k;erw[k]
theorem Qi:bo ["_law_item_here"] ["_law_item_here"] (aU Hg):=bp aJ
theorem a3v(F:FA K mg "_law_item_text" Hg)(B:bI mg):aA P w K mg aw "_law_item_text" 1 (yV K):=by
 erw[F.has Qi (λvs H Q E h=>?_) (λ_ _ _ _ _ _=>dA λ_=>rfl) (λf aL A outer s H vs Q E hr h=>?_)]
 ·let(v,d,rfl,_):=h
  rfl
 ·let(v,d,rfl,rv,ti,k):=h
  have nd:=Qi.nd;erw[_,(aB (bL (cf (dU K Z hr.units) (px K (pv 0) aE) bW (bS _)) (aI (aQ (aP ju (aP ju (aP ju bW (qg K Z bW (ak (eU (N:=["_law_step"]) (js:=[none]) Z Z Z (j5 K Z (px K (pv 0) aE)) (λ_ _ _ _ _=>(aV 0 (iO _))) (λ_ _ _ _ _=>dZ) (λ_ _ _ _ _=>(dh (x:="str") iT Z (B.at "str") iJ (ak (pv 0) ay)))) ay))) bW) (dh (x:="str") iT rfl (B.at "str") iJ (ak (px K (pv 0) aE) ay))))) bQ) (aI (aQ (aP ju (aP ju (px K (pv 0) aE) bW) (dh (x:="str") iT Z (B.at "str") iJ (ak (px K (pv 0) aE) ay)))))),?_];have hs:=sz;have Aq:=cP;have h5:Str.length "line "=5:=by decide+kernel
  rcases yK rv ti with⟨ns,sp,a,b,rfl,rfl,h1,r2,hl,hn,lQ⟩|⟨w,u,a,y,rfl,hw,rfl,h1,ry,hv⟩
  ·erw[_,Z,.inr #[a,_,0,.str "line",Z,Z,h1,cx (df 0) Z,.inr #[_,_,bJ _,bJ _,nA,nA,_,Z,?_]]]
   rw[tJ,cu rfl];erw[bR ?_];have DQ:=uQ hn hl;have xK:=fV lQ;let(b',xs,e',g1,g2):=r2.cv;cases e';rw[g2.gh]at g1;erw[Z,?_];erw[_,Z,.inr #[a,_,1,.ref b,Z,Z,h1,cx az Z,b,Z,#[_,g1],λD H1 n1=>?_]];erw[qS (K:=K) (ds:=(ns.map numS).map PyData.str) _ g1 n1 (by simp) (by simp;lia) (oO _) ?_ ?_]
   ·intro i x d H2 Q' ex ed s2 hq
    rw[bP]at ex;let(n,en,rfl):=u7.mp ex;rw[bP,bP,en]at ed;cases ed;have hn:=hn n (fR en);erw[_,Z,.inl #[n,Z,kz hn,hq _ _ (aH.refl _) (bJ _)]]
   ·intro H2 zs s2 d2 r2
    rw[oE r2]at d2;erw[" ",D,ns.map numS,Z,Z,aF.of d2,λz hz=>?_,aJ,by rw[ba];lia,?_]
    ·let(n,Af,rfl):=cI.mp hz
     have:=fV (hn n Af)
     lia
    erw[_,_,Z,Z,by change _+(fj ns).length<=_;lia,?_];erw[_,_,Z,Z,by simp only[dv];change _+(fj ns).length+_<=_;lia,?_];erw[_,Z,.inr #[a,_,2,.int sp,Z,Z,h1.go s2,cx az Z,.inl #[sp,Z,kz lQ,?_]]];erw[_,_,Z,Z,by simp only[dv];change _+(fj ns).length+_+(numS sp).length<=_;lia,?_];have:=k H2 s2;rw[Dt]at this;erw[this]
  ·erw[_,Z,.inr #[a,_,0,.str w,Z,Z,h1,cx (df 0) Z,.inr #[_,_,bJ _,bJ _,BK hw,nA,_,Z,?_]]]
   rw[tJ,(BL hw).1];erw[aR ?_];have w4:=BM hw;have fin:=k H (aH.refl _);erw[_,Z,.inr #[a,_,0,.str w,Z,Z,h1,cx (df 0) Z,?_]];erw[_,_,Z,Z,ao,?_];erw[_,Z,.inr #[a,_,1,y,Z,Z,h1,cx az Z,?_]];rcases hv with⟨i,rfl,rfl,hi⟩|⟨z,rfl,rfl,hz⟩
   ·have xK:=fV hi
    erw[.inl #[i,Z,kz hi,_,_,Z,Z,by simp only[dv];change _+(numS i).length<=_;lia,fin]]
   ·erw[.inr #[z,Z,_,_,Z,Z,by simp only[dv];lia,fin]]
def En(d:ah):Prop:=TI d/\(∀ns sp,d≠eK ns sp)\/∃(ns:List Int)(t a b:Int),d= .tuple [.str "step",.tuple (ns.map PyData.int),.int t,.tuple [.int a,.int b]]/\ns.length<=3/\(∀n∈ns,Nm n)/\lg t/\lg a/\lg b
inductive aer(K:aa)(vs:List V)(H:Hp)(Q:VK):Prop |mk (v:_)(d:_)(h0:vs=[v])(h1:RD K H v d)(h2:En d)(h3:∀H',aH H H'->Q (.str (gw d)) H')
def Cf(K:aa):Sp:=λvs H Q _=>aer K vs H Q
theorem AD{d:ah}(h:TI d)(hn:∀ns sp,d≠eK ns sp):gw d=gr d:=by
 rcases h with⟨ns,sp,rfl,_⟩|⟨w,i,rfl,_⟩|⟨w,z,rfl,_⟩
 ·exact(hn _ _ Z).elim
 ·rfl
 ·rfl
theorem AB(ns:List Int)(t a b:Int):gw (.tuple [.str "step",.tuple (ns.map PyData.int),.int t,.tuple [.int a,.int b]])="step "++fj ns++" "++numS t++" "++hZ a b:=by show Str.ofString "step "++Txt.join " " ((ns.map PyData.int).map ug)++" "++numS t++" "++hZ a b=_;rw[TM];rfl
theorem NZ{H:Hp}{v:V}{ns:List Int}{t a b:Int}(h:RD K H v (.tuple [.str "step",.tuple (ns.map PyData.int),.int t,.tuple [.int a,.int b]])):∃p r q,v= .ref p/\aW K H p [.str "step",.ref r,.int t,.ref q]/\RD K H (.ref r) (.tuple (ns.map PyData.int))/\aW K H r (ns.map V.int)/\RD K H (.ref q) (.tuple [.int a,.int b]):=by let(p,xs,rfl,h1,h2):=h.cv;let(x1,r,rfl,e1,h2):=h2.cons_inv;let(x2,r,rfl,e2,h2):=h2.cons_inv;let(x3,r,rfl,e3,h2):=h2.cons_inv;let(x4,r,rfl,e4,h2):=h2.cons_inv;cases h2.nil_inv;cases e1.str_inv;cases e3.int_inv;let(r',ys,rfl,g1,g2):=id e2.cv;rw[g2.gh]at g1;let(q,rfl,_):=F6 e4;erw[p,r',q,Z,h1,e2,g1,e4]
theorem Pw:bo ["entry","word","row","t","square"] ["entry"] (aU Gh):=bp aJ
theorem a2Q(F:FA K mg "show_entry" Gh)(B:bI mg)(a6T:aA P w K mg aw "show_item" 2 (yV K))(A7:aA P w K mg aw "show_numbers" 1 (Cd K))(A8:aA P w K mg aw "show_fraction" 1 (uz K)):aA P w K mg aw "show_entry" 3 (Cf K):=by
 erw[F.has Pw (λvs H Q E h=>?_) (λ_ _ _ _ _ _=>dA λ_=>rfl) (λf aL A outer s H vs Q E hr h=>?_)]
 ·let(v,d,rfl,_):=h
  rfl
 ·let(v,d,rfl,rv,te,k):=h
  have nd:=Pw.nd;erw[_,(aB (bL (cf (kR K Z hr.units) (px K (pv 0) aE) bW (bS _)) (aI (aQ (pf a6T hr (ak (pv 0) ay)))) bQ) (aB (fh (pv 0) (eg K Z (n:=4) Z (bV (aV 1 nd) (bV (aV 2 nd) (bV (aV 3 nd) (bV (aV 4 nd) e9)))))) (aI (aQ (CG (j4 (nu (pv 1)) (j4 bW (j4 (nu (pf A7 hr (ak (pv 2) ay))) (j4 bW (j4 (nu (pv 3)) (j4 bW (j4 (nu (pf A8 hr (ak (pv 4) ay))) CF)))))))))))),?_];have hs:=sz;have Aq:=cP;have h0:=OV;have h4:Str.length "step"=4:=by decide+kernel
  rcases te with⟨ti,hn⟩|⟨ns,t,a,b,rfl,hl,hn,ht,ha,hb⟩
  ·rw[AD ti hn]at k
   rcases yK rv ti with⟨ns,sp,a,b,rfl,_⟩|⟨w,u,a,y,rfl,hw,rfl,h1,ry,hv⟩
   ·exact(hn _ _ Z).elim
   ·erw[_,Z,.inr #[a,_,0,.str w,Z,Z,h1,cx (df 0) Z,.inr #[_,_,bJ _,bJ _,BK hw,wI,_,Z,?_]]]
    rw[tJ,(BL hw).2];erw[bR #[_,Z,_,_,Z,rv,ti,k]]
  ·let(p,r,q,rfl,h1,g2,g3,g4):=NZ rv
   erw[_,Z,.inr #[p,_,0,.str "step",Z,Z,h1,cx (df 0) Z,.inr #[_,_,bJ _,bJ _,wI,wI,_,Z,?_]]];rw[tJ,cu rfl];erw[aR ?_];have DQ:=uQ hn hl;have xK:=qi ht;have Vf:=Av ha hb;erw[_,Z,p,_,Z,h1,Z,_,_,Z,_,_,Z,_,_,Z,_,_,Z,Z,?_];erw[_,Z,.inr #["step",Z,ao,_,Z,by simp only[dv];lia,?_]];erw[_,Z,by simp only[dv];lia,?_];erw[_,Z,.ref r,ns,Z,g2,hl,hn,λH1 s1=>.inr #[_,Z,ao,_,Z,by simp only[dv];lia,?_]];erw[_,Z,by simp only[dv];lia,?_];erw[_,Z,.inl #[t,Z,sE ht,_,Z,by simp only[dv];change _+(numS t).length<=_;lia,?_]];erw[_,Z,by simp only[dv];change _+(numS t).length+_<=_;lia,?_];erw[_,Z,.ref q,a,b,Z,RD.mono s1 _ g4,ha,hb,.inr #[_,Z,ao,_,Z,by simp only[dv];change _+(numS t).length+_+_<=_;lia,?_]];erw[by simp only[dv];change _+(numS t).length+_+_<=_;lia,?_];have e:Str.empty++"step"++" "++fj ns++" "++numS t++" "++hZ a b="step "++fj ns++" "++numS t++" "++hZ a b:=by
    rw[MM];have:(Str.ofString "step"++Str.ofString " ")=Str.ofString "step ":=by decide+kernel
    rw[this]
   have:=k H1 s1;rw[AB,<-e]at this;erw[this]
theorem Qk:bo ["_law_entry","_law_told"] ["_law_entry"] (aU Hi):=bp aJ
theorem a3y(F:FA K mg "_law_entry_text" Hi)(B:bI mg)(L5:aA P w K mg aw "_law_item_text" 1 (yV K))(L6:aA P w K mg aw "_law_fraction_text" 1 (uz K)):aA P w K mg aw "_law_entry_text" 2 (Cf K):=by
 erw[F.has Qk (λvs H Q E h=>?_) (λ_ _ _ _ _ _=>dA λ_=>rfl) (λf aL A outer s H vs Q E hr h=>?_)]
 ·let(v,d,rfl,_):=h
  rfl
 ·let(v,d,rfl,rv,te,k):=h
  have nd:=Qk.nd;erw[_,(aB (bL (cf (kR K Z hr.units) (px K (pv 0) aE) bW (bS _)) (aI (aQ (pf L5 hr (ak (pv 0) ay)))) bQ) (aB (pS 1 nd (qg K Z bW (ak (eU (N:=["_law_step"]) (js:=[none]) Z Z Z (j5 K Z (px K (pv 0) aE)) (λ_ _ _ _ _=>(aV 0 (iO _))) (λ_ _ _ _ _=>dZ) (λ_ _ _ _ _=>(dh (x:="str") iT Z (B.at "str") iJ (ak (pv 0) ay)))) ay))) (aI (aQ (aP ju (aP ju (aP ju (aP ju (aP ju bW (pv 1)) bW) (dh (x:="str") iT Z (B.at "str") iJ (ak (px K (pv 0) aE) ay))) bW) (pf L6 hr (ak (px K (pv 0) aE) ay))))))),?_];have hs:=sz;have Aq:=cP;have h5:Str.length "step "=5:=by decide+kernel
  rcases te with⟨ti,hn⟩|⟨ns,t,a,b,rfl,hl,hn,ht,ha,hb⟩
  ·rw[AD ti hn]at k
   rcases yK rv ti with⟨ns,sp,a,b,rfl,_⟩|⟨w,u,a,y,rfl,hw,rfl,h1,ry,hv⟩
   ·exact(hn _ _ Z).elim
   ·erw[_,Z,.inr #[a,_,0,.str w,Z,Z,h1,cx (df 0) Z,.inr #[_,_,bJ _,bJ _,BK hw,wI,_,Z,?_]]]
    rw[tJ,(BL hw).2];erw[bR #[_,Z,_,_,Z,rv,ti,k]]
  ·let(p,r,q,rfl,h1,g2,g3,g4):=NZ rv
   erw[_,Z,.inr #[p,_,0,.str "step",Z,Z,h1,cx (df 0) Z,.inr #[_,_,bJ _,bJ _,wI,wI,_,Z,?_]]];rw[tJ,cu rfl];erw[aR ?_];have DQ:=uQ hn hl;have xK:=qi ht;have Vf:=Av ha hb;erw[Z,?_];erw[_,Z,.inr #[p,_,1,.ref r,Z,Z,h1,cx az Z,r,Z,#[_,g3],λD H1 n1=>?_]];erw[qS (K:=K) (ds:=(ns.map numS).map PyData.str) _ g3 n1 (by simp) (by simp;lia) (oO _) ?_ ?_]
   ·intro i x d H2 Q' ex ed s2 hq
    rw[bP]at ex;let(n,en,rfl):=u7.mp ex;rw[bP,bP,en]at ed;cases ed;have hn:=hn n (fR en);erw[_,Z,.inl #[n,Z,kz hn,hq _ _ (aH.refl _) (bJ _)]]
   ·intro H2 zs s2 d2 r2
    rw[oE r2]at d2;erw[" ",D,ns.map numS,Z,Z,aF.of d2,λz hz=>?_,aJ,by rw[ba];lia,?_]
    ·let(n,Af,rfl):=cI.mp hz
     have:=fV (hn n Af)
     lia
    have vp:=h1.go s2;erw[_,Z,?_];erw[_,_,Z,Z,by change _+(fj ns).length<=_;lia,?_];erw[_,_,Z,Z,by simp only[dv];change _+(fj ns).length+_<=_;lia,?_];erw[_,Z,.inr #[p,_,2,.int t,Z,Z,vp,cx az Z,.inl #[t,Z,sE ht,?_]]];erw[_,_,Z,Z,by simp only[dv];change _+(fj ns).length+_+(numS t).length<=_;lia,?_];erw[_,_,Z,Z,by simp only[dv];change _+(fj ns).length+_+(numS t).length+_<=_;lia,?_];erw[_,Z,.inr #[p,_,3,.ref q,Z,Z,vp,cx az Z,.ref q,a,b,Z,RD.mono s2 _ g4,ha,hb,?_]];erw[_,_,Z,Z,by simp only[dv];change _+(fj ns).length+_+(numS t).length+_+_<=_;lia,?_];have:=k H2 s2;rw[AB]at this;erw[this]
end
end _a
set_option maxHeartbeats 1000000
namespace _a
open PySem PySem.Spec PyProof.Rows _L _b _l _W
open _O (Itm)
section
theorem Qa:bo ["_law_bag_here","_law_axes","_law_far","_law_rails","_law_bounds"] ["_law_bag_here"] (aU GZ):=bp aJ
theorem a3s(F:FA K mg "_law_machine" GZ)(B:bI mg)(eO:aA P w K mg aw "_law_take" 1 mX):aA P w K mg aw "_law_machine" 2 (OD K):=by
 erw[F.has Qa (λvs H Q E h=>?_) (λ_ _ _ _ _ _=>dA λ_=>rfl) (λf aL A outer s H vs Q E hr h=>?_)]
 ·let(p,rfl,_):=h
  rfl
 ·let(p,rfl,bg,k):=h
  have nd:=Qa.nd;erw[_,(aB (pS 1 nd (aP eu aE (pf eO hr (ak (pv 0) (ak aE ay))))) (aB (pS 2 nd (px K (dw (ak aE (ak aE ay))) (pf eO hr (ak (pv 0) (ak aE ay))))) (aB (pS 3 nd (dh (x:="tuple") (kn K Z) Z (B.at "tuple") ir (ak (eU (N:=["_law_axis","_law_bag_here","_law_far"]) (js:=[none,some 0,some 2]) rfl rfl rfl (sj rfl (B.at "range") (ak (pv 1) ay)) (λ_ _ _ _ _=>(aV 0 (show List.Nodup (["_law_axis","_law_bag_here","_law_far"]:List Str) by decide+kernel))) (λ_ _ _ _ _=>dZ) (λ_ _ _ _ _=>(aP eu aE (pf eO hr (ak (pv 1) (ak (pv 2) ay)))))) ay))) (aB (pS 4 nd (dh (x:="tuple") (kn K Z) Z (B.at "tuple") ir (ak (eU (N:=["_law_k","_law_bag_here"]) (js:=[none,some 0]) rfl rfl rfl (sj rfl (B.at "range") (ak aE ay)) (λ_ _ _ _ _=>(aV 0 (jQ az))) (λ_ _ _ _ _=>dZ) (λ_ _ _ _ _=>(aP eu aE (pf eO hr (ak (pv 1) (ak aE ay)))))) ay))) (aI (aQ (aP (Wx K Z) (aP (Wx K Z) (j6 (ak (pv 3) ay)) (pv 4)) (j6 (ak (aP eu aE (pf eO hr (ak (pv 0) (ak aE ay)))) ay))))))))),?_];erw[_,Z,p,2,Z,bg,az,az,λt0 H1 t00 t01 b1=>?_];erw[_,_,Z,Z,?_];erw[cy Z,λl H2 nw=>?_];have b2:bO p H1 H2:=.fi b1.bU nw.same;have lne:l≠p:=λe=>b1.bU.ne (e▸nw.no);erw[_,Z,p,2,Z,b2.bU,az,az,λi H3 i0 i1 b3=>?_];let(vx,mf,ef):=a6q [100,20] i0 i1;have f1:1<=vx/\vx<=100:=by
   rcases cO.mp mf with rfl|mf
   ·erw[az,az]
   rcases cO.mp mf with rfl|mf
   ·erw[az,az]
   ·exact(iu mf).elim
  erw[.inl #[l,_,_,_,Z,Z,aF.of (b3.same _ _ lne nw.at'),ef,?_]];erw[_,Z,_,Z,ao,ao,λD H4 n4=>?_];have hN:(2+t0).toNat<=1000:=by lia
  erw[M1 (2+t0).toNat [some (.ref p),some (.int vx)] n4 b3.bU hN (λi=>.int (0+(i:Int))) (λi H5 hi b5=>#[hi,λy H6 #[e1,e2]=>#[e1,e2]]) (λH5 b5=>bf _) (λz=>1<=z/\z<=100) ?_ ?_]
  ·intro i H5 Q' hi b5 hq
   erw[_,Z,_,Z,p,vx,Z,b5.bU,f1.1,ao,λz H6 z0 z1 b6=>?_];erw[_,_,Z,Z,hq _ _ #[ao,ao] b6]
  intro H5 rs b5 d5 lr pr;erw[D,_,Z,.inl #[aF.of d5,λq H6 n6=>?_]];have b6:bO p H5 H6:=.fi b5.bU n6.same;erw[3,Z,az,az,λD2 H7 n7=>?_];erw[M1 3 [some (.ref p)] n7 b6.bU az (λi=>.int (0+(i:Int))) (λi H8 hi b8=>#[hi,λy H9 #[e1,e2]=>#[e1,e2]]) (λH8 b8=>bf _) (λz=>1<=z/\z<=50) ?_ ?_]
  ·intro i H8 Q' hi b8 hq
   erw[_,Z,p,50,Z,b8.bU,az,az,λz H9 z0 z1 b9=>?_];erw[_,_,Z,Z,hq _ _ #[ao,ao] b9]
  intro H8 bs b8 d8 lb pb;erw[D2,_,Z,.inl #[aF.of d8,λq2 H9 n9=>?_]];have b9:bO p H8 H9:=.fi b8.bU n9.same;erw[_,Z,cy Z,λt1 oq JO=>?_];have y6:bO p H9 oq:=.fi b9.bU JO.same
  match bs,lb,pb,n9 with |[x1,x2,x3],_,pb,n9=>have p1:=pb x1 (.head _);have p2:=pb x2 (.tail _ (.head _));have p3:=pb x3 (.tail _ (.tail _ (.head _)));erw[_,Z,t1,q2,_,_,Z,Z,aW.of JO.at',aW.of (JO.same _ _ n9.at'),cy Z,λv1 jj oJ a11=>?_];have Ek:bO p oq jj:=.fi y6.bU oJ;erw[_,Z,p,100,Z,Ek.bU,az,az,λz H12 z0 z1 qU=>?_];erw[_,_,Z,Z,cy Z,λt2 Bf JN=>?_];have vR:bO p H12 Bf:=.fi qU.bU JN.same;erw[v1,t2,_,_,Z,Z,(aW.t (bO.t Ek.bU qU) a11).go JN.same,aW.of JN.at',cy Z,λv2 Be fM a14=>?_];have pF:bO p Bf Be:=.fi vR.bU fM;have sq:aW K Be q (rs.map V.int):=aW.t (bO.t b6.bU (b8.trans (b9.trans (y6.trans (Ek.trans (qU.trans (vR.trans pF))))))) (aW.of n6.at');erw[k (.ref v2) rs x1 x2 x3 (1+z) Be (fO a14 (cE (fO sq (pY rs)) (cE (fP _) (cE (fP _) (cE (fP _) (cE (fP _) cX)))))) #[ao,pr,p1,p2,p3,ao] (b1.trans (b2.trans (b3.trans (b5.trans (b6.trans (b8.trans (b9.trans (y6.trans (Ek.trans (qU.trans (vR.trans pF)))))))))))]
inductive ae1(vs:List V)(H:Hp)(Q:VK):Prop |mk (p:_)(h0:vs=[.ref p])(h1:gH H p)(h2:∀z H',dq 0 (.str z)->qk z=true->bO p H H'->Q (.str z) H')
def OC(K:aa):Sp:=λvs H Q _=>ae1 vs H Q
theorem Q5:bo ["_law_bag_here"] ["_law_bag_here"] (aU GS):=bp aJ
theorem a3o(F:FA K mg "_law_name" GS)(B:bI mg)(eO:aA P w K mg aw "_law_take" 1 mX):aA P w K mg aw "_law_name" 2 (OC K):=by
 erw[F.has Q5 (λvs H Q E h=>?_) (λ_ _ _ _ _ _=>dA λ_=>rfl) (λf aL A outer s H vs Q E hr h=>?_)]
 ·let(p,rfl,_):=h
  rfl
 ·let(p,rfl,bg,k):=h
  have nd:=Q5.nd;erw[_,(aI (aQ (qg K Z bW (ak (eU (N:=["_law_k","_law_bag_here"]) (js:=[none,some 0]) Z Z Z (sj Z (B.at "range") (ak (aP eu aE (pf eO hr (ak (pv 0) (ak aE ay)))) ay)) (λ_ _ _ _ _=>(aV 0 (jQ az))) (λ_ _ _ _ _=>dZ) (λ_ _ _ _ _=>(Jl Ut bW (pf eO hr (ak (pv 1) (ak aE ay))) (λ_ _=>rfl)))) ay)))),?_];erw[Z,?_];erw[_,Z,p,8,Z,bg,az,az,λn H1 n0 n1 b1=>?_];erw[_,_,Z,Z,_,Z,aO,aO,λD H2 nD=>?_];erw[Wo (K:=K) (J:=qY 0 (1+n).toNat) (p:=p) (H:=H1) (1+n).toNat _ nD b1.bU aO (λi=>.int (0+(i:Int))) (λi H3 hi _=>#[hi,λy H4 #[e,q]=>#[e,q]]) (λH3 _=>bf _) (λ_ d=>∃z:Str,d= .str z/\z.length=1/\dc z/\z.cps.toList.all (λc=>decide (97<=c)&&decide (c<=122))=true) ?_ ?_]
  ·intro i H3 Q' hi b3 hq
   erw[_,Z,p,26,Z,b3.bU,az,az,λd H4 d0 d1 b4=>?_];have hd:d.toNat<ka.cps.toList.length:=by rw[acS];omega
   erw[ka,d,ka.cps.toList[d.toNat],Z,Z,aJ,cx d0 (bN hd),?_];have kx:dc ⟨#[ka.cps.toList[d.toNat]]⟩:=λc hc=>by have jU:c=ka.cps.toList[d.toNat]:=dN.mp hc;rw[jU];erw[acQ _ (wq hd)]
   have gY:(⟨#[ka.cps.toList[d.toNat]]⟩:Str).cps.toList.all (λc=>decide (97<=c)&&decide (c<=122))=true:=by have:=g6.mp (show ka.cps.toList.all (λc=>decide (97<=c)&&decide (c<=122))=true by decide+kernel) _ (wq hd);show([ka.cps.toList[d.toNat]]:List Nat).all _=true;rw[yA,Na,BB];erw[this]
   erw[hq _ _ _ #[_,Z,Z,kx,gY] Z (bJ _) b4]
  ·intro H3 ys ds b3 d3 r3 l3 nl pd
   let(zs,rfl,hz):=NV ds λd hd=>by let(i,hi):=ou.mp hd;erw[pd i d hi]
   rw[oE r3]at d3;rw[ba]at l3;erw["",D,zs,Z,Z,aF.of d3,λz mE=>by rw[(hz z mE).1];decide,az,aO,?_];erw[k _ _ (SJ (dc.join (jP aJ) λa ha=>(hz a ha).2.1)) (a4W aO aO λz mE=>#[(hz z mE).1,(hz z mE).2.2]) (b1.trans b3)]
inductive aef(K:aa)(vs:List V)(H:Hp)(Q:VK):Prop |mk (p:Addr)(ax:Nat)(h0:vs=[.ref p,.int ax])(h1:gH H p)(h2:1<=ax)(h3:ax<=3)(h4:∀v d o H',RD K H' v d->jC ax d o->bO p H H'->Q v H')
def OG(K:aa):Sp:=λvs H Q _=>aef K vs H Q
theorem jC.fH{n:Nat}{d:ah}(h:qW d):jC n d none:=#[h.it,(λ_ _ z=>nomatch z),λ_=>h]
theorem Ql:bo ["_law_bag_here","_law_axes","_law_sort","_law_speed","_law_most","_law_steps"] ["_law_bag_here","_law_axes"] (aU Hj):=bp aJ
theorem a3F(F:FA K mg "_law_item" Hj)(B:bI mg)(eO:aA P w K mg aw "_law_take" 1 mX)(a8R:aA P w K mg aw "_law_name" 2 (OC K)):aA P w K mg aw "_law_item" 3 (OG K):=by
 erw[F.has Ql (λvs H Q E h=>?_) (λ_ _ _ _ _ _=>dW λ_ _=>rfl) (λf aL A outer s H vs Q E hr h=>?_)]
 ·let(p,ax,rfl,_):=h
  rfl
 ·let(p,ax,rfl,bg,ax1,ax2,k):=h
  have nd:=Ql.nd;erw[_,(aB (pS 2 nd (pf eO hr (ak (pv 0) (ak aE ay)))) (aB (bL (cf (dU K Z hr.units) (pv 2) aE (bS _)) (aI (aQ (j6 (ak bW (ak (aP eu aE (pf eO hr (ak (pv 0) (ak aE ay)))) ay))))) bQ) (aB (bL (cf (dU K Z hr.units) (pv 2) aE (bS _)) (aI (aQ (j6 (ak bW (ak (px K (dw (ak bW (ak bW ay))) (pf eO hr (ak (pv 0) (ak aE ay)))) ay))))) bQ) (aB (bL (cf (dU K Z hr.units) (pv 2) aE (bS _)) (aI (aQ (j6 (ak bW (ak (pf a8R hr (ak (pv 0) ay)) ay))))) bQ) (aB (pS 3 nd (aP eu aE (pf eO hr (ak (pv 0) (ak aE ay))))) (aB (pS 4 nd (px K (dw (ak aE (ak aE (ak aE ay)))) (pf eO hr (ak (pv 0) (ak aE ay))))) (aB (Cy (i0:=5) nd Z (Or.inl Z) (N:=["_law_axis","_law_most","_law_bag_here"]) (js:=[none,some 4,some 0]) Z Z Z (sj Z (B.at "range") (ak (pv 1) ay)) (λ_ _ _ _ _=>(aV 0 (show List.Nodup (["_law_axis","_law_most","_law_bag_here"]:List Str) by decide+kernel))) (λ_ _ _ _ _=>dZ) (λ_ _ _ _ _=>(aP j9 (pf eO hr (ak (pv 2) (ak (aP eu (aP cK aE (pv 1)) aE) ay))) (pv 1)))) (aB (j3 (bL (cT (cw (fG (x:="any") (X3 K Z Z) Z (B.at "any") MV (ak (pv 5) ay)))) (aI (fh aE (uK (pv 5) (pf eO hr (ak (pv 0) (ak (pv 1) ay))) set_list))) bQ)) (aI (aQ (j6 (ak bW (ak (dh (x:="tuple") (kn K Z) Z (B.at "tuple") ir (ak (pv 5) ay)) (ak (pv 3) ay)))))))))))))),?_];erw[_,Z,p,6,Z,bg,az,az,λso H1 s0 s1 b1=>?_];erw[_,Z,.inl #[_,_,Z,Z,_,Z,?_]];erw[gd (λhc=>?_) (λhc=>?_)]
  ·erw[_,Z,p,1000,Z,b1.bU,az,az,λn H2 n0 n1 b2=>?_]
   erw[_,_,Z,Z,cy Z,λt H3 n3=>?_];erw[k (.ref t) _ none H3 (fO (aW.of n3.at') (cE (bJ _) (cE (fP _) cX))) (.fH (.inl #[_,Z,aO,aO])) (b1.trans (b2.trans (.fi b2.bU n3.same)))]
  erw[_,Z,.inl #[_,_,Z,Z,_,Z,?_]];erw[gd (λhc=>?_) (λhc=>?_)]
  ·erw[cy Z,λc H2 n2=>?_]
   have b2:bO p H1 H2:=.fi b1.bU n2.same;have cp:c≠p:=λz=>b1.bU.ne (z▸n2.no);erw[_,Z,p,2,Z,b2.bU,az,az,λi H3 i0 i1 b3=>?_];have hi:∃z:Str,fc ([.str "up",.str "down"]:List V) i=some (.str z)/\dq 0 (.str z)/\Jp "tool" z:=by
    rcases(show i=0\/i=1 by omega)with rfl|rfl
    ·erw["up",Z,#[aJ,aJ],.inl #[Z,.inl Z]]
    ·erw["down",Z,#[aJ,aJ],.inl #[Z,.inr Z]]
   let(z,ez,Jv,onz):=hi;erw[.inl #[c,_,_,_,Z,Z,aF.of (b3.same _ _ cp n2.at'),ez,cy Z,λt H4 n4=>?_]];erw[k (.ref t) _ none H4 (fO (aW.of n4.at') (cE (bJ _) (cE (bJ _) cX))) (.fH (.inr #[_,_,Z,.inl Z,Jv,onz])) (b1.trans (b2.trans (b3.trans (.fi b3.bU n4.same))))]
  erw[_,Z,.inl #[_,_,Z,Z,_,Z,?_]];erw[gd (λhc=>?_) (λhc=>?_)]
  ·erw[_,Z,p,Z,b1.bU,λz H2 Jv nz b2=>#[cy Z,λt H3 n3=>?_]]
   erw[k (.ref t) _ none H3 (fO (aW.of n3.at') (cE (bJ _) (cE (bJ _) cX))) (.fH (.inr #[_,_,Z,.inr Z,Jv,.inr #[Z,nz]])) (b1.trans (b2.trans (.fi b2.bU n3.same)))]
  erw[_,Z,p,20,Z,b1.bU,az,az,λsp H2 p0 p1 b2=>?_];erw[_,_,Z,Z,?_];erw[cy Z,λc H3 n3=>?_];have b3:bO p H2 H3:=.fi b2.bU n3.same;have cp:c≠p:=λz=>b2.bU.ne (z▸n3.no);erw[_,Z,p,3,Z,b3.bU,az,az,λi H4 i0 i1 b4=>?_];have hm:∃m:Int,fc ([.int 3,.int 20,.int 100]:List V) i=some (.int m)/\1<=m/\m<=100:=by
   rcases(show i=0\/i=1\/i=2 by omega)with rfl|rfl|rfl
   ·erw[3,Z,az,az]
   ·erw[20,Z,az,az]
   ·erw[100,Z,az,az]
  let(m,em,m1,m2):=hm;erw[.inl #[c,_,_,_,Z,Z,aF.of (b4.same _ _ cp n3.at'),em,?_]];have pF:=b1.trans (b2.trans (b3.trans b4));erw[_,Z,_,Z,aO,aO,λD H5 nD=>?_];erw[M1 (J:=qY 0 ax) (p:=p) (H:=H4) ax _ nD pF.bU aO (λi=>.int (0+(i:Int))) (λi H3 hi _=>#[hi,λy H4 #[e,q]=>#[e,q]]) (λH3 _=>bf _) (λz=>(z.natAbs:Int)<=m) ?_ ?_]
  ·intro i H6 Q' hi b6 hq
   erw[_,Z,_,Z,_,_,Z,Z,.of_left (dF az az),_,_,Z,Z,p,2*m+1,Z,b6.bU,aO,aO,λd H7 d0 d1 b7=>?_];erw[_,Z,_,_,Z,Z,hq _ _ aO b7]
  intro H6 is b6 d6 l6 WQ;have Mg:=pF.trans b6;have lp:D≠p:=λz=>pF.bU.ne (z▸nD.no);have nl:H D=none:=by cases e:H D with |none=>rfl |some o=>have:=pF.same _ _ lp e;rw[nD.no]at this;cases this
  erw[λO H7=>bO p H H7/\∃(is:List Int),H7 D=some (.lst (is.map V.int))/\fu ax 100 is/\O=[some (.ref p),some (.int ax),some (.int so),some (.int (1+sp)),some (.int m),some (.ref D)],?_,?_]
  ·erw[kE ?_];intro E1
   erw[_,Z,D,is,Z,.inl (aF.of d6),_,Z,?_];cases ha:is.any (· !=0)with
   |false=>
    erw[bR ?_];erw[_,Z,_,Z,_,Z,p,(ax:Int),Z,Mg.bU,aO,aO,λix H7 i0 i1 b7=>?_];have d7:=b7.same _ _ lp d6;erw[D,_,ix,ix.toNat,Z,Z,d7,?_,?_]
    ·unfold jv;rw[bc i0,bc (by rw[ba,l6];erw[i1])]
    erw[?_,is.set ix.toNat 1,?_,#[?_,?_,?_],Z]
    ·have WW:=Mg.trans b7
     erw[?_,λb o n e=>?_]
     ·let(c',m',e,ok):=WW.bU
      erw[c',m',by rw[aY lp.symm];erw[e],ok]
     ·rw[aY (eJ e nl)];erw[WW.same b o n e]
    ·rw[cg,ER]
    ·rw[yx];erw[l6]
    ·intro z hz
     rcases List.mem_or_eq_of_mem_set hz with h|h
     ·have:=WQ z h;omega
     ·rw[h];decide
    ·erw[1,XG.mpr #[ix.toNat,by rw[yx];omega,by rw[XM]],az] |true=>erw[aR ?_];erw[Mg,is,d6,#[l6,λz hz=>by have:=WQ z hz;omega,?_],Z];let(z,hz,h0):=yy.mp ha;erw[z,hz,by simpa using h0]
  rintro O H7 ⟨b7,is,d7,ok,rfl⟩;erw[_,Z,D,_,Z,.inl #[aF.of d7,λq H8 n8=>?_]];erw[_,Z,cy Z,λt H9 n9=>?_];erw[k (.ref t) (eK is (1+sp)) (some (is,1+sp)) H9 (fO (aW.of n9.at') (cE (bJ _) (cE (fO (aW.of (n9.same _ _ n8.at')) (pY is)) (cE (fP _) cX)))) #[.inl #[is,_,Z,Z],λns sp e=>by cases e;erw[ok,aO,aO],λz=>nomatch z] (b7.trans (.fi b7.bU (n8.same.trans n9.same)))]
end
end _a
set_option maxHeartbeats 2000000
namespace _a
open PySem PySem.Spec PyProof.Rows _L _l _W
open _T (numS numIn? figs isFig Free)
open _O (Itm)
section
theorem xH(sep a:Str)(as:List Str)(h:as≠[]):Txt.join sep (a::as)=a++sep++Txt.join sep as:=by show Builtin.Str.glued sep (a::as)=a++sep++Builtin.Str.glued sep as;rw[Bk,Bk];cases as with |nil=>exact(h Z).elim |cons b r=>rfl
theorem join_snoc(sep b:Str):∀(as:List Str),as≠[]->Txt.join sep (as++[b])=Txt.join sep as++sep++b |[],h=>(h Z).elim |[a],_=>rfl |a::c::r,_=>by have e:=join_snoc sep b (c::r) (by simp);rw[List.cons_append,xH sep a (c::r++[b]) (by simp),e,xH sep a (c::r) (by simp)];simp only[Xu]
theorem K3(ns:List Int)(sp:Int)(h:ns≠[]):gr (eK ns sp)=Txt.join ⟨#[32]⟩ ("line"::(ns.map numS++[numS sp])):=by
 have hn:ns.map numS≠[]:=by simpa using h
 rw[Dt,<-pU,xH _ _ _ (by simp),join_snoc _ _ _ hn];have e:("line ":Str)="line"++" ":=by decide+kernel
 rw[e];unfold fj;simp only[Xu]
theorem o4{c:Nat}{a b:Str}(ha:Free c a)(hb:Free c b):Free c (a++b):=λh=>by rw[wk,wz,iy]at h;erw[h.elim ha hb]
theorem Lg{c:Nat}{sep:Str}(hs:Free c sep):∀l:List Str,(∀a∈l,Free c a)->Free c (Txt.join sep l) |[],_=>λh=>by have e:(Txt.join sep []).cps.toList=[]:=rfl;rw[e]at h;cases h |[x],h=>h x (.head _) |x::y::r,h=>by rw[xH _ _ _ (by simp)];erw[o4 (o4 (h x (.head _)) hs) (Lg hs (y::r) λa ha=>h a (.tail _ ha))]
theorem sx(i:Int):dc (numS i):=λc hc=>by cases i with |ofNat m=>rw[show(numS (Int.ofNat m)).cps.toList=_ from _T.Ed m]at hc;have:=_T.qQ m c hc;omega |negSucc m=>
 rw[_T.Ec]at hc;rcases cO.mp hc with e|hc
 ·omega
 ·have:=_T.qQ (m+1) c hc
  omega
structure qZ(n:Nat)(d:ah):Prop where
 rt:vc n (gr d)=d
 len:(gr d).length<=400
 ok:vX (gr d)
 fr:Free 10 (gr d)
 ti:TI d
 xo:dq 8 d
theorem iR{c:Nat}{z:Str}(h:(z.cps.toList.all λx=>x !=c)=true):Free c z:=λhc=>by have:=g6.mp h c hc;simp at this
theorem a4X{c:Nat}{z:Str}(h:qk z=true)(hc:c<97):Free c z:=λh'=>by unfold qk at h;rw[fz]at h;have:=g6.mp h.2 c h';unfold Di at this;simp at this;omega
theorem SA{c:Nat}{w s:Str}(h:Jp w s)(hc:c=10\/c=32):Free c s:=by
 rcases h with⟨_,rfl|rfl⟩|⟨_,hn⟩
 ·rcases hc with rfl|rfl<;>erw[iR aJ]
 ·rcases hc with rfl|rfl<;>erw[iR aJ]
 ·erw[a4X hn aO]
theorem JM{i:Int}(h:i.natAbs<10^40):nI (numS i)= .int i:=by unfold nI;have:(numS i).length<=41:=Nr h;rw[_T.CT aO];rfl
theorem a4Y{ns:List Int}(h:∀z∈ns,z.natAbs<10^40):(ns.map numS).map nI=ns.map PyData.int:=by rw[ES];erw[List.map_congr_left λz hz=>JM (h z hz)]
theorem Uv{n:Nat}{d:ah}{ws:List Str}(e:gr d=Txt.join ⟨#[32]⟩ ws)(hn:ws≠[])(hf:∀z∈ws,Free 32 z)(ht:gW ws=d)(hi:nC n d=true):vc n (gr d)=d:=by unfold vc;rw[e,pU,_T.C7 hn hf,ht,hi];rfl
theorem jC.tx{n:Nat}{d:ah}{o:Itm}(h:jC n d o)(n1:1<=n)(n3:n<=3):qZ n d:=by have hi:=h.is.1;have cP:dc (" ":Str):=jP aJ;have Vp:Free 10 (" ":Str):=iR aJ;cases o with
 |some q=>
  let(ns,sp):=q;have ed:=iQ h.it;subst ed;let(bZ,s1,s2):=h.ln ns sp rfl;have hb:∀z∈ns,z.natAbs<10^40:=λz hz=>by have:=bZ.bd z hz;omega
  have hs:sp.natAbs<10^40:=by omega
  have cS:ns≠[]:=λe=>by rw[e]at bZ;have:=bZ.len;simp at this;omega
  have ti:TI (eK ns sp):=.inl #[ns,sp,Z,by rw[bZ.len];erw[n3],hb,hs];erw[Uv (K3 ns sp cS) (by simp) (λz hz=>?_) ?_ hi,Kf ti,?_,?_,ti,h.is.2.1]
  ·rcases cO.mp hz with rfl|hz
   ·erw[iR aJ]
   ·rcases iy.mp hz with hz|hz
    ·let(i,_,rfl):=cI.mp hz
     erw[_T.kQ az az]
    ·rw[dN.mp hz];erw[_T.kQ az az]
  ·obtain⟨x,xs,rfl⟩:∃x xs,ns=x::xs:=by cases ns with|nil=>exact(cS rfl).elim|cons x xs=>erw[x,xs,rfl]
   have e1:(x::xs).map numS++[numS sp]=numS x::(xs.map numS++[numS sp]):=rfl;have e2:(numS x::(xs.map numS++[numS sp])).map nI=(x::xs).map PyData.int++[.int sp]:=by rw[<-e1,gJ,a4Y hb];show _++[nI (numS sp)]=_;rw[JM hs]
   rw[e1,F9,e2,cD,ba,N5,List.take_left' (by simp),XI,List.getLast?_append,List.getLast?_singleton];rfl
  ·rw[K3 ns sp cS,<-pU]
   erw[dc.join cP λa ha=>?_];rcases cO.mp ha with rfl|ha
   ·erw[jP aJ]
   ·rcases iy.mp ha with ha|ha
    ·let(i,_,rfl):=cI.mp ha
     erw[sx i]
    ·rw[dN.mp ha];erw[sx sp]
  ·rw[K3 ns sp cS,<-pU]
   erw[Lg Vp _ λa ha=>?_];rcases cO.mp ha with rfl|ha
   ·erw[iR aJ]
   ·rcases iy.mp ha with ha|ha
    ·let(i,_,rfl):=cI.mp ha
     erw[_T.kQ az az]
    ·rw[dN.mp ha];erw[_T.kQ az az] |none=>
  have key:∀(w y:Str)(u:ah),d= .tuple [.str w,u]->gr d=w++" "++y->w≠"line"->(if w="wait" then nI y else .str y)=u->Free 32 w->Free 32 y->Free 10 w->Free 10 y->dc w->dc y->TI d->qZ n d:=λw y u e1 e2 hw hu f1 f2 f3 f4 o1 o2 ti=>by
   have ej:gr d=Txt.join ⟨#[32]⟩ [w,y]:=by rw[e2,<-pU];rfl
   erw[Uv ej (by simp) (λz hz=>?_) ?_ hi,Kf ti,?_,?_,ti,h.is.2.1]
   ·simp only[cO,iu,kH]at hz
    rcases hz with rfl|rfl
    ·erw[f1]
    ·erw[f2]
   ·rw[BZ hw,hu,e1]
   ·rw[e2];exact(o1.app cP).app o2
   ·rw[e2];erw[o4 (o4 f3 Vp) f4]
  rcases h.ot rfl with⟨z,rfl,z1,z2⟩|⟨w,s,rfl,hw,mj,on⟩
  ·have hb:z.natAbs<10^40:=by omega
   erw[key "wait" (numS z) (.int z) Z Z aJ (by rw[bc Z,JM hb]) (iR aJ) (_T.kQ az az) (iR aJ) (_T.kQ az az) (jP aJ) (sx z) (.inr (.inl #[_,_,Z,.inl Z,hb]))]
  ·have hl:s.length<=100:=by
    rcases on with⟨_,rfl|rfl⟩|⟨_,hn⟩
    ·decide+kernel
    ·decide+kernel
    ·unfold qk at hn
     simp only[fz,EG]at hn;omega
   have cS:w≠"line"/\w≠"wait"/\Free 32 w/\Free 10 w/\dc w:=by
    rcases hw with rfl|rfl
    ·erw[aJ,aJ,iR aJ,iR aJ,jP aJ]
    ·erw[aJ,aJ,iR aJ,iR aJ,jP aJ]
   erw[key w s (.str s) Z Z cS.1 (by rw[bj cS.2.1]) cS.2.2.1 (SA on (.inr Z)) cS.2.2.2.1 (SA on (.inl Z)) cS.2.2.2.2 (SI mj) (.inr (.inr #[_,_,Z,.inr hw,hl]))]
theorem qZ.no{n:Nat}{d:ah}(h:qZ n d):eA d=true:=by
 rcases h.ti with⟨ns,sp,rfl,_⟩|⟨w,i,rfl,_⟩|⟨w,z,rfl,_⟩
 ·erw[K4 _ _]
 ·rfl
 ·rfl
theorem qZ.ne{n:Nat}{d:ah}(h:qZ n d):d≠ .none:=by rcases h.ti with⟨ns,sp,rfl,_⟩|⟨w,i,rfl,_⟩|⟨w,z,rfl,_⟩<;>erw[λz=>nomatch z]
end
end _a
namespace _a
open PySem PySem.Spec PyProof.Rows _L _b _l _C _P _W _R
open _O (topR cornO mnO betR atO ownF leadF ownL OkI OkIs)
open _T (numS)
section
theorem dC.item{M:bC}{D:Nat}{S:bu}(ok:dC M D S){i:Nat}{d:ah}(ed:S.ds[i]? =some d):∃o,S.os[i]? =some o/\jC M.rs.length d o:=by let(o,eo,it):=ok.row.get ed;erw[o,eo,it,λns sp e=>ok.row.ok i ns sp (by rw[eo,e]),λe=>ok.rw i d (by rw[eo,e]) ed]
theorem bC.Ok.n3{M:bC}(aD:M.Ok):1<=M.rs.length/\M.rs.length<=3:=by
 have:=aD.len
 lia
theorem dC.tx{M:bC}{D:Nat}{S:bu}(ok:dC M D S)(aD:M.Ok):∀d∈S.ds,qZ M.rs.length d:=λd hd=>by let(i,hi):=ou.mp hd;let(o,_,h):=ok.item hi;erw[h.tx aD.n3.1 aD.n3.2]
structure om(S:bu):Prop where
 s1:S.side.length<=100
 m1:S.mark.length<=100
 s2:dc S.side
 m2:dc S.mark
theorem om.eq{S S':bu}(h:om S)(a:S'.side=S.side)(b:S'.mark=S.mark):om S':=#[by rw[a];erw[h.s1],by rw[b];erw[h.m1],by rw[a];erw[h.s2],by rw[b];erw[h.m2]]
theorem Sv:2^1700<10^540:=by decide+kernel
theorem y4{q:Rat}(h:Bd 1700 q):lg q.num/\lg q.den:=#[EN h.num Sv,EN (show(q.den:Int).natAbs<2^1700 from h.den) Sv]
theorem Th{z q k:Int}(hq:0<q)(hk:0<=k)(qD:k<=q):(gZ (k*z) q).natAbs<=z.natAbs:=by
 by_cases hz:0<=z
 ·have:=CY hq hk qD hz
  omega
 ·have h:=CY (z:=-z) hq hk qD aO
  rw[show k*-z=-(k*z) by rw[Int.mul_neg],Tg hq]at h;omega
theorem YI{ti:Int}{q:Rat}(h1:1<=ti)(h2:ti<=100)(hq:0<q.num)(hd:q.den<2^1600):lg (m8 ti q):=by
 unfold m8;split
 ·next hx=>
  let(a,b,c):=hx.choose_spec;generalize hx.choose=T at a b c;have hm:ti*ti<=10000:=by
   have:=wx h2 h2 ao az
   lia
  have Kz:ti*ti*(q.den:Int)<=10000*(q.den:Int):=Bz hm ao;have cB:T-1<ti*ti*(q.den:Int):=Int.not_le.mp λh=>by rw[VO hq ao h]at c;cases c
  have hp:10001*2^1600<10^540:=by decide+kernel
  show T.natAbs<10^540;generalize(10:Nat)^540=X at hp⊢;generalize(2:Nat)^1600=Y at hp hd
  lia
 ·show(0:Int).natAbs<10^540
  decide+kernel
theorem One.yM{M:bC}{D:Nat}{S S1:bu}{e:ah}(h:dC M D S)(aD:M.Ok)(hD:D<=1000)(o:One M S e S1):En e:=by cases o with
 |@line ns sp eo nh=>
  let(bZ,s1,s2):=h.row.ok 0 ns sp eo;have hd:S.dn<aG ns:=by
   rcases h.dn with e|⟨zM,pV,e1,e2⟩
   ·rw[e];erw[bZ.lead.1]
   ·rw[eo]at e1;cases e1;erw[e2]
  have hn:S.os≠[]:=λe=>by rw[e]at eo;simp at eo
  let(R1,R2):=J3 h.raw aD hn;have D1:=h.D1;have iA:=aD.r1;have ie:=aD.f1;have mD:=Tz (r:=M.r) (f:=M.f) (left:=(aG ns:Int)-S.dn) ao ao ao h.pd ((F7 S.rate sp).mono ao) (R1.mono ao) h.bG nh;have mL:mr M S ns sp<=1600:=cM Tw (BW s1 s2 h.cj h.cm);have tp:0<topR S.rate sp:=BV s1 h.cj;have mP:0<mr M S ns sp:=Tx iA.1 ie.1 ao h.pd.nn tp R1.nn h.bG nh;have bd:Bd 1700 (mr M S ns sp):=(mD.bd (cM mL aJ)).mono ao;let(b1,b2):=y4 bd;have NR:=aD.t1;have n3:=aD.n3;erw[.inr #[g9 ns S.dn,_,_,_,Z,?_,λz hz=>?_,YI NR.1 NR.2 (JD mP) (gR mD.den (wm az ao)),b1,b2]]
  ·show(ns.map _).length<=3
   rw[ba,bZ.len];erw[n3.2]
  ·let(y,hy,rfl):=cI.mp hz
   have hy2:=bZ.bd y hy;have c1:=Th (z:=y) (q:=(aG ns:Int)) (k:=(S.dn:Int)+1) ao ao ao;have c2:=Th (z:=y) (q:=(aG ns:Int)) (k:=(S.dn:Int)) ao ao ao;show Int.natAbs _<10^40
   lia |fH eo ed nh=>
  let(o,eC,it):=h.item ed;rw[eo]at eC;cases eC;erw[.inl #[(it.tx aD.n3.1 aD.n3.2).ti,λns sp e=>?_]];rcases it.it with⟨_,_,_,z⟩|⟨w,x,e2,hw,_⟩
  ·cases z
  ·rw[e2]at e
   erw[yL (show oj w from hw) #[ns,sp,e]]
theorem Run.yM{M:bC}{D:Nat}{S S1:bu}{es:List ah}(h:dC M D S)(aD:M.Ok)(hD:D<=1000)(r:Run M S es S1):∀e∈es,En e:=by induction r with |nil=>erw[λe he=>nomatch he] |cons o _ ih=>
 intro e he;rcases cO.mp he with rfl|he
 ·erw[o.yM h aD hD]
 ·erw[ih (o.ok h aD) e he]
theorem DX(S:bu):(kX S).side=S.side/\(kX S).mark=S.mark:=by unfold kX;split<;>erw[Z,Z]
theorem One.sd{M:bC}{D:Nat}{S S1:bu}{e:ah}(h:dC M D S)(aD:M.Ok)(o:One M S e S1)(hs:om S):om S1:=by cases o with
 |@line ns sp eo nh=>
  have h1:om (kA M S ns sp):=hs.eq Z rfl;unfold iC;split
  ·let(a,b):=DX (kA M S ns sp)
   erw[h1.eq a b]
  ·erw[h1] |fH eo ed nh=>
  have tx:=h.tx aD e (fR ed);let(a,b):=DX (cZ e S);erw[om.eq ?_ a b];rcases tx.ti with⟨ns,sp,rfl,_⟩|⟨w,i,rfl,_⟩|⟨w,y,rfl,_,hy⟩
  ·erw[hs]
  ·erw[hs]
  ·have oy:dc y:=λc hc=>tx.ok c (by rw[show gr (.tuple [.str w,.str y])=w++" "++y from Z,wk,wz,iy];erw[.inr hc]);show om (cZ (.tuple [.str w,.str y]) S);unfold cZ;dsimp only;split
   ·erw[hy,hs.m1,oy,hs.m2]
   ·split
    ·erw[hs.s1,hy,hs.s2,oy]
    ·erw[hs]
theorem Run.sd{M:bC}{D:Nat}{S S1:bu}{es:List ah}(h:dC M D S)(aD:M.Ok)(r:Run M S es S1)(hs:om S):om S1:=by induction r with |nil=>erw[hs] |cons o _ ih=>erw[ih (o.ok h aD) (o.sd h aD hs)]
end
section
theorem zG{rs pl:List Int}(h:ft rs pl)(hr:∀z∈rs,1<=z/\z<=100):∀n∈pl,0<=n/\n<=100:=λn hn=>by
 let(i,hi):=ou.mp hn;have hl:i<rs.length:=by rw[<-h.len];exact(cJ.mp hi).1
 have e:=bN hl;have:=h.at' i n _ hi e;have:=hr _ (wq hl)
 lia
structure RG(M:bC)(D:Nat)(S:bu):Prop where
 ok:dC M D S
 aD:M.Ok
 sd:om S
 on:iH M S
 hD:D<=1000
theorem RG.place{M:bC}{D:Nat}{S:bu}(g:RG M D S):∀n∈jo S,Nm n:=λn hn=>by
 have:=zG (g.on.place g.ok) g.aD.rl n hn;show n.natAbs<10^40
 lia
theorem RG.pc{M:bC}{D:Nat}{S:bu}(g:RG M D S):lg S.pc.num/\lg S.pc.den:=by have:=g.hD;erw[y4 ((g.ok.pd.bd (cM g.ok.pm aJ)).mono ao)]
def ky(z:Str):Str:=if z="" then "none" else z
def x9 (q:Rat):Str:=hZ q.num q.den
def CC(r f j rate:Int)(os:List Itm):Str:=Txt.join " " ((kP r f j rate os).map x9)
inductive Wd |place |square |gc |rK |mark
def Wd.txt:Wd->Str | .place=>"place" | .square=>"square" | .gc=>"plan" | .rK=>"tool" | .mark=>"mark"
def y9(M:bC)(S:bu):Wd->Str | .place=>fj (jo S) | .square=>x9 S.pc | .gc=>CC M.r M.f M.j S.rate S.os | .rK=>S.side | .mark=>ky S.mark
inductive adj(K:aa)(C:Addr)(w:Wd)(vs:List V)(H:Hp)(Q:VK):Prop |mk (a:_)(q:_)(M:_)(D:_)(S:_)(h0:vs=[.ref a])(h1:cV K C H a q M S)(h2:RG M D S)(h3:∀H',aH H H'->Q (.str (y9 M S w)) H')
def ur(K:aa)(C:Addr)(w:Wd):Sp:=λvs H Q _=>adj K C w vs H Q
theorem QT:bo ["runner"] ["runner"] (aU Iy):=bp aJ
theorem a4b(F:FA K mg "answer_place" Iy)(B:bI mg)(TC:fo K C)(A7:aA P w K mg aw "show_numbers" 1 (Cd K))(a8I:cL P w K mg aw C "place" 3 (gm K C λ_ S H Q=>∀v H',RD K H' v (da (jo S))->aH H H'->Q v H')):aA P w K mg aw "answer_place" 4 (ur K C .place):=by
 erw[F.has QT (λvs H Q E h=>?_) (λ_ _ _ _ _ _=>dA λ_=>rfl) (λf aL A outer s H vs Q E hr h=>?_)]
 ·let(a,q,M,D,S,rfl,_):=h
  rfl
 ·let(a,q,M,D,S,rfl,R,g,k):=h
  let(dx,mv,bv,cG,tv,e,r1,r2,r3,r4):=R.ob;have nd:=QT.nd;have lr:=g.aD.n3;have lp:=a1H g.ok;erw[_,(aI (aQ (pf A7 hr (ak (jO a8I TC.cl (hr.mono az) (pv 0)) ay)))),?_];erw[_,Z,a,dx,_,Z,e,Z,a,q,M,D,S,Z,R,g.ok,g.aD,λv H1 rv s1=>#[v,jo S,Z,rv,ao,g.place,λH2 s2=>k _ (s1.trans s2)]]
theorem QR:bo ["runner"] ["runner"] (aU Iv):=bp aJ
theorem a49(F:FA K mg "answer_square" Iv)(B:bI mg)(TC:fo K C)(A8:aA P w K mg aw "show_fraction" 1 (uz K))(a8G:cL P w K mg aw C "square" 1 (gm K C (Vo K))):aA P w K mg aw "answer_square" 2 (ur K C .square):=by
 erw[F.has QR (λvs H Q E h=>?_) (λ_ _ _ _ _ _=>dA λ_=>rfl) (λf aL A outer s H vs Q E hr h=>?_)]
 ·let(a,q,M,D,S,rfl,_):=h
  rfl
 ·let(a,q,M,D,S,rfl,R,g,k):=h
  let(dx,mv,bv,cG,tv,e,r1,r2,r3,r4):=R.ob;have nd:=QR.nd;erw[_,(aI (aQ (pf A8 hr (ak (jO a8G TC.cl (hr.mono az) (pv 0)) ay)))),?_];erw[_,Z,a,dx,_,Z,e,Z,a,q,M,D,S,Z,R,g.ok,g.aD,λv rv=>#[v,_,_,Z,rv.rd,g.pc.1,g.pc.2,k H (aH.refl _)]]
theorem QO:bo ["runner"] ["runner"] (aU Iq):=bp aJ
theorem a46(F:FA K mg "answer_tool" Iq)(B:bI mg)(TC:fo K C)(a8E:cL P w K mg aw C "tool" 1 (gm K C λ_ S H Q=>Q (.str S.side) H)):aA P w K mg aw "answer_tool" 2 (ur K C .rK):=by
 erw[F.has QO (λvs H Q E h=>?_) (λ_ _ _ _ _ _=>dA λ_=>rfl) (λf aL A outer s H vs Q E hr h=>?_)]
 ·let(a,q,M,D,S,rfl,_):=h
  rfl
 ·let(a,q,M,D,S,rfl,R,g,k):=h
  let(dx,mv,bv,cG,tv,e,r1,r2,r3,r4):=R.ob;have nd:=QO.nd;erw[_,(aI (aQ (jO a8E TC.cl (hr.mono az) (pv 0)))),?_];erw[_,Z,a,dx,_,Z,e,Z,a,q,M,D,S,Z,R,g.ok,g.aD,k H (aH.refl _)]
theorem QU:bo ["runner"] ["runner"] (aU Iz):=bp aJ
theorem a4c(F:FA K mg "answer_mark" Iz)(B:bI mg)(TC:fo K C)(KR:GV mg "NOTHING" (.str "none"))(a8K:cL P w K mg aw C "last_mark" 1 (gm K C λ_ S H Q=>Q (.str S.mark) H)):aA P w K mg aw "answer_mark" 2 (ur K C .mark):=by
 erw[F.has QU (λvs H Q E h=>?_) (λ_ _ _ _ _ _=>dA λ_=>rfl) (λf aL A outer s H vs Q E hr h=>?_)]
 ·let(a,q,M,D,S,rfl,_):=h
  rfl
 ·let(a,q,M,D,S,rfl,R,g,k):=h
  let(dx,mv,bv,cG,tv,e,r1,r2,r3,r4):=R.ob;have nd:=QU.nd;have sd:=g.sd.m1;erw[_,(aI (aQ (Sr (jO a8K TC.cl (hr.mono az) (pv 0)) (oM (eD (x:="NOTHING") Z KR))))),?_];have k2:Q (.str (ky S.mark)) H:=k H (aH.refl _);unfold ky at k2;erw[_,Z,a,dx,_,Z,e,Z,a,q,M,D,S,Z,R,g.ok,g.aD,?_];erw[_,Z,ao,?_];split
  ·next e0=>rw[bc e0]at k2;erw[k2]
  ·next e0=>rw[bj e0]at k2;erw[k2]
theorem CD{r f j rate:Int}{os:List Itm}{i:Nat}{q:Rat}(h:(kP r f j rate os)[i]? =some q):i<=os.length/\q=cF r f j rate os i:=by
 have hl:i<(kP r f j rate os).length:=(cJ.mp h).1;have e:(kP r f j rate os).length=os.length+1:=lN _ _;have h2:i<=os.length:=by lia
 erw[h2,?_];have:=lO (cF r f j rate os) h2;erw[eX (h.symm.trans this)]
theorem QS:bo ["runner","plan"] ["runner"] (aU Iw):=bp aJ
theorem a4a(F:FA K mg "answer_plan" Iw)(B:bI mg)(TC:fo K C)(Aa:aA P w K mg aw "plan_of" 9 (yT K))(A8:aA P w K mg aw "show_fraction" 1 (uz K))(a8C:cL P w K mg aw C "waiting" 1 (gm K C λ_ S H Q=>∀l ys H',H l=none->H' l=some (.lst ys)->aK K H' ys S.ds->aH H H'->Q (.ref l) H'))(a8H:cL P w K mg aw C "rate" 1 (gm K C λ_ S H Q=>Q (.int S.rate) H)):aA P w K mg aw "answer_plan" 10 (ur K C .gc):=by
 erw[F.has QS (λvs H Q E h=>?_) (λ_ _ _ _ _ _=>dA λ_=>rfl) (λf aL A outer s H vs Q E hr h=>?_)]
 ·let(a,q,M,D,S,rfl,_):=h
  rfl
 ·let(a,q,M,D,S,rfl,R,g,k):=h
  let(dx,mv,bv,cG,tv,e,r1,r2,r3,r4):=R.ob;have nd:=QS.nd;have ok:=g.ok;have aD:=g.aD;have hl:=ok.len;erw[_,(aB (pS 1 nd (pf Aa hr (ak (cU TC.cl TC.mq (pv 0)) (ak (dh (x:="tuple") (kn K rfl) rfl (B.at "tuple") ir (ak (jO a8C TC.cl (hr.mono az) (pv 0)) ay)) (ak (jO a8H TC.cl (hr.mono az) (pv 0)) ay))))) (aI (aQ (qg K Z bW (ak (eU (N:=["square"]) (js:=[none]) Z Z Z (nk K Z (pv 1)) (λ_ _ _ _ _=>(aV 0 (iO _))) (λ_ _ _ _ _=>dZ) (λ_ _ _ _ _=>(pf A8 hr (ak (pv 0) ay)))) ay))))),?_];erw[_,Z,a,dx,_,_,Z,e,Z,?_];erw[_,Z,a,dx,_,Z,e,Z,a,q,M,D,S,Z,R,ok,aD,λl ys H1 nl el rl s1=>?_];erw[l,ys,Z,.inl #[aF.of el,λt H2 n2=>?_]];have s2:=s1.trans n2.same;have e2:=s2 _ _ e;erw[_,Z,a,dx,_,Z,e2,Z,a,q,M,D,S,Z,R.same ok.row.no s2,ok,aD,?_];erw[mv,.ref t,S.rate,M.rs,M.r,M.f,M.j,M.t,S.ds,S.os,Z,RD.mono s2 _ r1,aD,fO (aW.of n2.at') (aK.mono n2.same _ rl),ok.row,ao,ok.cj,ok.cm,λp zs H3 np ep rp s3=>?_];erw[Z,?_];have lz:=rp.length;have lp:(kP M.r M.f M.j S.rate S.os).length=S.os.length+1:=lN _ _;have ll:=ok.row.len;rw[ba,lp]at lz;erw[_,Z,p,Z,#[_,aF.of ep],λD2 H4 n4=>?_];erw[vM (K:=K) (ds:=((kP M.r M.f M.j S.rate S.os).map x9).map PyData.str) _ (aF.of ep) n4 (by rw[ba,ba,lp];erw[lz]) ao (oO _) ?_ ?_]
  ·intro i x d H5 Q' ex ed s5 hq
   let(d',dG,rx):=rp.get' i ex;rw[bP]at dG;rw[bP,bP]at ed;cases eq:(kP M.r M.f M.j S.rate S.os)[i]? with |none=>rw[eq]at dG;cases dG |some qq=>rw[eq]at dG ed;cases dG;cases ed;let(hi,rfl):=CD eq;let(n1,n2):=y4 (xh aD ok.row ao ok.cj ok.cm i hi);erw[_,Z,x,_,_,Z,RD.mono s5 _ rx,n1,n2,hq _ _ (aH.refl _) (bJ _)]
  ·intro H5 ws s5 d5 r5
   rw[oE r5]at d5;erw[" ",D2,_,Z,Z,aF.of d5,λz hz=>?_,aJ,by rw[ba,lp];lia,k _ (s2.trans (s3.trans s5))];let(qq,hq,rfl):=cI.mp hz;let(i,hi):=ou.mp hq;let(nN,rfl):=CD hi;let(n1,n2):=y4 (xh aD ok.row ao ok.cj ok.cm i nN);have:=Av n1 n2;show(hZ _ _).length<=_
   lia
end
end _a
set_option maxHeartbeats 1000000
namespace _a
open PySem PySem.Spec PyProof.Rows _L _b _l _C _P _W
open _O (topR cornO mnO betR atO ownF leadF ownL OkI OkIs)
open _T (numS)
section
def sI:ah->Bool | .tuple ds=>(ds.length==2||ds.length==3)&&ds.all (dy 1 100) |_=>false
def mC:ah->Bool | .tuple [r,a,b,c,t]=>sI r&&dy 1 100 t&&[a,b,c].all (dy 1 50) |_=>false
theorem a6y(n:Nat):Dy (.int n) [.int 2,.int 3]=(n==2||n==3):=by
 show((2:Int)==n||((3:Int)==n||false))=_;rw[Bool.or_false];congr 1
 ·rw[kj];simp;lia
 ·rw[kj];simp;lia
inductive aey(f:ah->Bool)(K:aa)(vs:List V)(H:Hp)(Q:VK):Prop |mk (v:_)(d:_)(h0:vs=[v])(h1:RD K H v d)(h2:∀H',aH H H'->Q (.bl (f d)) H')
def yX(f:ah->Bool)(K:aa):Sp:=λvs H Q _=>aey f K vs H Q
theorem QQ:bo ["thing"] ["thing"] (aU Iu):=bp aJ
theorem a48(F:FA K mg "are_rails" Iu)(B:bI mg)(g1:GT K mg "AXES" [.int 2,.int 3])(a8q:GV mg "LONGEST_RAIL" (.int 100))(jf:aA P w K mg aw "is_whole_within" 2 (mW K)):aA P w K mg aw "are_rails" 3 (yX sI K):=by
 erw[F.has QQ (λvs H Q E h=>?_) (λ_ _ _ _ _ _=>dA λ_=>rfl) (λf aL A outer s H vs Q E hr h=>?_)]
 ·let(v,d,rfl,_):=h
  rfl
 ·let(v,d,rfl,rd,k):=h
  have nd:=QQ.nd;let(aX,a8y,ZC):=g1;erw[_,(aB (bL (PW.pt (iL (cT (cw (mi K B (ak (pv 0) (ak (mh (x:="tuple") (v:=.ty "tuple") Z (B.at "tuple") ir rfl) ay))))) (jL (cf (a4w K rfl) (fU K B (ak (pv 0) ay)) (eD (x:="AXES") rfl a8y) (by with_unfolding_all rfl))))) (aI (aQ j7)) bQ) (aI (aQ (fG (x:="all") (vU K Z Z) Z (B.at "all") yp (ak (eU (N:=["rail"]) (js:=[none]) rfl rfl rfl (j5 K rfl (pv 0)) (λ_ _ _ _ _=>(aV 0 (iO _))) (λ_ _ _ _ _=>dZ) (λ_ _ _ _ _=>(pf jf hr (ak (pv 0) (ak aE (ak (eD (x:="LONGEST_RAIL") rfl a8q) ay)))))) ay))))),?_];rcases yJ d with⟨ds,rfl⟩|⟨ht,hn⟩
  ·erw[_,Z,.inl #[_,_,"tuple",true,Z,rd.ty,az,mU,_,Z,aR ?_]]
   let(p,xs,rfl,hx,hd):=rd.cv;have hl:=hd.length;erw[_,Z,p,_,Z,.inr hx,aX,_,Z,.inr (ZC H),Z,Z,_,Z,?_];have k:∀H',aH H H'->Q (.bl ((ds.length==2||ds.length==3)&&ds.all (dy 1 100))) H':=k;show if(!Dy (.int xs.length) [.int 2,.int 3])=true then _ else _;rw[a6y,hl];cases LR:(ds.length==2||ds.length==3)with |false=>rw[LR,jF]at k;erw[bR (k H (aH.refl _))] |true=>
    rw[LR,jE]at k;erw[aR ?_];have l3:ds.length<=3:=by rw[Bool.or_eq_true,fL,fL]at LR;lia
    erw[_,Z,p,Z,#[_,hx],λD H0 nw=>?_];erw[AN (xs:=xs) (bs:=ds.map (dy 1 100)) [] hx nw (by rw[ba,hl]) ao ?_ ?_]
    ·intro i x b H2 Q' ex eb s2 hq
     let(d,ed,rfl):=De eb;let(x',kD,rx):=hd.get i ed;rw[ex]at kD;cases kD;erw[_,Z,_,d,1,100,Z,RD.mono s2 _ rx,hq _ (aH.refl _)]
    ·intro H2 s2 d2
     erw[D,_,Z,aF.of d2,?_];rw[all_map];erw[k H2 s2]
  ·have e:sI d=false:=by cases d<;>first|rfl|erw[absurd rfl (hn _)]
   rw[e]at k;erw[_,Z,.inl #[_,_,"tuple",false,Z,rd.ty,az,ht,_,Z,bR ?_]];erw[k H (aH.refl _)]
theorem a5g(d:ah):(∃r a b c t,d= .tuple [r,a,b,c,t])\/(∃ds,d= .tuple ds/\ds.length≠5/\mC d=false)\/(jl (lG d) "tuple"=false/\mC d=false):=by
 rcases yJ d with⟨ds,rfl⟩|⟨ht,hn⟩
 ·match ds with |[r,a,b,c,t]=>erw[.inl #[r,a,b,c,t,Z]] |[]=>erw[.inr (.inl #[_,Z,by simp,by simp[mC]])] |[_]=>erw[.inr (.inl #[_,Z,by simp,by simp[mC]])] |[_,_]=>erw[.inr (.inl #[_,Z,by simp,by simp[mC]])] |[_,_,_]=>erw[.inr (.inl #[_,Z,by simp,by simp[mC]])] |[_,_,_,_]=>erw[.inr (.inl #[_,Z,by simp,by simp[mC]])] |_::_::_::_::_::_::_=>erw[.inr (.inl #[_,Z,by simp,by simp[mC]])]
 ·erw[.inr (.inr #[ht,by cases d<;>first|rfl|erw[absurd rfl (hn _)]])]
theorem Qu:bo ["thing","rails","rise","fall","jump","ticks"] ["thing"] (aU Hs):=bp aJ
theorem a3N(F:FA K mg "is_machine" Hs)(B:bI mg)(a8n:GV mg "MOST_TICKS" (.int 100))(a8v:GV mg "GREATEST_CHANGE" (.int 50))(jf:aA P w K mg aw "is_whole_within" 2 (mW K))(a8g:aA P w K mg aw "are_rails" 3 (yX sI K)):aA P w K mg aw "is_machine" 4 (yX mC K):=by
 erw[F.has Qu (λvs H Q E h=>?_) (λ_ _ _ _ _ _=>dA λ_=>rfl) (λf aL A outer s H vs Q E hr h=>?_)]
 ·let(v,d,rfl,_):=h
  rfl
 ·let(v,d,rfl,rd,k):=h
  have nd:=Qu.nd;erw[_,(aB (bL (PW.pt (iL (cT (cw (mi K B (ak (pv 0) (ak (mh (x:="tuple") (v:=.ty "tuple") Z (B.at "tuple") ir rfl) ay))))) (jL (cf (kR K rfl hr.units) (fU K B (ak (pv 0) ay)) aE (bS _))))) (aI (aQ j7)) bQ) (aB (fh (pv 0) (eg K Z (n:=5) Z (bV (aV 1 nd) (bV (aV 2 nd) (bV (aV 3 nd) (bV (aV 4 nd) (bV (aV 5 nd) e9))))))) (aB (bL (PW.pt (iL (cT (cw (pf a8g hr (ak (pv 1) ay)))) (jL (cT (cw (pf jf hr (ak (pv 5) (ak aE (ak (eD (x:="MOST_TICKS") Z a8n) ay))))))))) (aI (aQ j7)) bQ) (aI (aQ (fG (x:="all") (vU K Z Z) Z (B.at "all") yp (ak (eU (N:=["change"]) (js:=[none]) rfl rfl rfl (j5 K rfl (j6 (ak (pv 2) (ak (pv 3) (ak (pv 4) ay))))) (λ_ _ _ _ _=>(aV 0 (iO _))) (λ_ _ _ _ _=>dZ) (λ_ _ _ _ _=>(pf jf hr (ak (pv 0) (ak aE (ak (eD (x:="GREATEST_CHANGE") rfl a8v) ay)))))) ay))))))),?_];rcases a5g d with⟨r,a,b,c,t,rfl⟩|⟨ds,rfl,hl,hf⟩|⟨ht,hf⟩
  ·erw[_,Z,.inl #[_,_,"tuple",true,Z,rd.ty,az,mU,_,Z,aR ?_]]
   let(p,xs,rfl,hx,hd):=rd.cv;let(u1,ys,rfl,r1,hd):=hd.cons_inv;let(u2,ys,rfl,r2,hd):=hd.cons_inv;let(u3,ys,rfl,r3,hd):=hd.cons_inv;let(u4,ys,rfl,r4,hd):=hd.cons_inv;let(u5,ys,rfl,r5,hd):=hd.cons_inv;cases hd.nil_inv;have k:∀H',aH H H'->Q (.bl (sI r&&dy 1 100 t&&[a,b,c].all (dy 1 50))) H':=k;erw[_,Z,p,_,Z,.inr hx,.inl #[_,_,Z,Z,_,Z,aR ?_]];erw[_,Z,p,_,Z,hx,Z,_,_,Z,_,_,Z,_,_,Z,_,_,Z,_,_,Z,Z,?_];erw[_,Z,_,r,Z,r1,λH1 s1=>#[_,Z,?_]];cases e1:sI r with |false=>rw[e1,jF,jF]at k;erw[bR (k H1 s1)] |true=>rw[e1,jE]at k;erw[aR ?_];erw[_,Z,_,t,1,100,Z,RD.mono s1 _ r5,_,Z,?_];cases e2:dy 1 100 t with |false=>rw[e2,jF]at k;erw[bR (k H1 s1)] |true=>
    rw[e2,jE]at k;erw[aR ?_];erw[_,Z,_,Z,_,Z,cy Z,λq H2 nq=>?_];have s2:=s1.trans nq.same;erw[q,Z,#[_,aW.of nq.at'],λD H0 nw=>?_];have hd3:aK K H2 [u2,u3,u4] [a,b,c]:=cE (RD.mono s2 _ r2) (cE (RD.mono s2 _ r3) (cE (RD.mono s2 _ r4) cX));erw[AN (xs:=[u2,u3,u4]) (bs:=[a,b,c].map (dy 1 50)) [] (aW.of nq.at') nw Z (XE Z) ?_ ?_]
    ·intro i x b' H3 Q' ex eb s3 hq
     let(d,ed,rfl):=De eb;let(x',kD,rx):=hd3.get i ed;rw[ex]at kD;cases kD;erw[_,Z,_,d,1,50,Z,RD.mono s3 _ rx,hq _ (aH.refl _)]
    ·intro H3 s3 d3
     erw[D,_,Z,aF.of d3,?_];rw[all_map];erw[k H3 (s2.trans s3)]
  ·rw[hf]at k
   erw[_,Z,.inl #[_,_,"tuple",true,Z,rd.ty,az,mU,_,Z,aR ?_]];let(p,xs,rfl,hx,hd):=rd.cv;erw[_,Z,p,_,Z,.inr hx,.inl #[_,_,Z,Z,_,Z,?_]];have e:(!decide ((xs.length:Int)=5))=true:=by rw[hd.length];simp;lia
   rw[e];erw[bR (k H (aH.refl _))]
  ·rw[hf]at k
   erw[_,Z,.inl #[_,_,"tuple",false,Z,rd.ty,az,ht,_,Z,bR ?_]];erw[k H (aH.refl _)]
end
end _a
set_option maxHeartbeats 2000000
namespace _a
open PySem PySem.Spec PyProof.Rows _L _b _l _C _P _W _R
open _O (topR cornO mnO betR atO ownF leadF ownL OkI OkIs)
open _T (numS numIn? Free)
section
def rj(K:aa)(D:Addr)(H:Hp)(a r:Addr)(M:bC):Prop:=∃dx mv,H a=some (.ins D dx [("machine",mv),("runner",.ref r)])/\RD K H mv M.D
theorem a5f{rs:List Int}{r f j t:Int}(h:gG rs r f j t):mC (fJ rs r f j t)=true:=by
 show(sI (.tuple (rs.map PyData.int))&&dy 1 100 (.int t)&&[PyData.int r,.int f,.int j].all (dy 1 50))=true;have h1:sI (.tuple (rs.map PyData.int))=true:=by show(((rs.map PyData.int).length==2||(rs.map PyData.int).length==3)&&(rs.map PyData.int).all (dy 1 100))=true;rw[ba,fz,Bool.or_eq_true,fL,fL];erw[h.len,g6.mpr λd hd=>?_];let(z,hz,rfl):=cI.mp hd;have:=h.rl z hz;show(decide (1<=z)&&decide (z<=100))=true;rw[cu this.1,cu this.2];rfl
 have q:∀{lo hi z:Int},lo<=z/\z<=hi->dy lo hi (.int z)=true:=λ{lo hi z} h=>by show(decide (lo<=z)&&decide (z<=hi))=true;rw[cu h.1,cu h.2];rfl
 rw[h1,q h.t1];show(dy 1 50 (.int r)&&(dy 1 50 (.int f)&&(dy 1 50 (.int j)&&true)))=true;rw[q h.r1,q h.f1,q h.j1];rfl
theorem QE:bo ["self","machine","place"] ["self","machine","place"] (aU Ie):=bp aJ
inductive aew(K:aa)(C:Addr)(D:Addr)(vs:List V)(H:Hp)(Q:VK):Prop |mk (a:_)(dx:_)(mv:_)(gK:_)(M:_)(pl:_)(h0:vs=[.ref a,mv,gK])(h1:H a=some (.ins D dx []))(h2:RD K H mv (bC.D M))(h3:RD K H gK (da pl))(h4:M.Ok)(h5:ft M.rs pl)(h6:∀r q H',rj K D H' a r M->cV K C H' r q M (oG pl)->H r=none->H q=none->dI [a] H H'->Q .bw H')
def OO(K:aa)(C D:Addr):Sp:=λvs H Q _=>aew K C D vs H Q
theorem a3X(F:CA K mg D "Desk" "Desk.__init__" Ie)(TC:pJ K D)(a7x:aA P w K mg aw "is_machine" 4 (yX mC K))(vj:aA P w K mg aw "is_place" 3 (wL K))(a8B:yg P w K mg aw C "Runner" 1 (Ox K C)):yg P w K mg aw D "Desk" 5 (OO K C D):=by
 erw[F.has QE (λvs H Q E h=>?_) (λ_ _ _ _ _ _=>iE λ_ _ _=>rfl) (λf aL A outer s H vs Q E hr h=>?_)]
 ·let(a,dx,mv,gK,M,pl,rfl,_):=h
  rfl
 ·let(a,dx,mv,gK,M,pl,rfl,e,rm,rp,aD,gC,k):=h
  have nd:=QE.nd;have lr:=aD.len;erw[_,(aB (bL (cT (cw (pf a7x hr (ak (pv 1) ay)))) uI bQ) (aB (bL (cT (cw (pf vj hr (ak (pv 1) (ak (pv 2) ay))))) uI bQ) (aB (iM TC.cl TC.mq (pv 0) (pv 1)) (aI (iM TC.cl TC.uT (pv 0) (Ss a8B (hr.mono az) rfl (ak (pv 1) (ak (pv 2) ay)))))))),?_];erw[_,Z,mv,_,Z,rm,λH1 s1=>#[_,Z,?_]];rw[a5f aD];erw[aR ?_];erw[_,Z,_,Z,mv,gK,M.rs,_,_,Z,RD.mono s1 _ rm,RD.mono s1 _ rp,ao,λH2 s2=>#[_,Z,?_]];rw[CM gC];erw[aR ?_];have fN:=s1.trans s2;have e2:=fN _ _ e;erw[_,Z,_,Z,a,dx,_,Z,e2,az,?_];have v2:cR H (_L.upd H2 a (.ins D dx [("machine",mv)])):=fN.v.trans (.upd e2 trivial);erw[_,Z,_,Z,λr rx nG Ks ne=>?_];have ar:a≠r:=λz=>by rw[<-z,cg]at nG;cases nG
  have X0:a≠rx:=λz=>by rw[<-z,cg]at Ks;cases Ks
  have s3:aH (_L.upd H2 a (.ins D dx [("machine",mv)])) (_L.upd (_L.upd (_L.upd H2 a (.ins D dx [("machine",mv)])) rx (.own r)) r (.ins C rx [])):=(aH.new Ks).trans (aH.new (by rw[aY ne.symm];erw[nG]));have v3:=v2.trans s3.v;erw[r,rx,mv,gK,M,pl,Z,cg,RD.v v3 _ (kT _ _ _ _ _) rm,RD.v v3 _ (gq _) rp,λq H3 R3 nq bt=>#[Z,?_]];have nr:H r=none:=by cases e':H r with |none=>rfl |some o=>rw[aY ar.symm,fN _ _ e']at nG;cases nG
  have SU:q≠a:=λz=>by rw[z,aY ar,aY X0,cg]at nq;cases nq
  have nqH:H q=none:=by cases e':H q with |none=>rfl |some o=>
   have h1:(_L.upd H2 a (.ins D dx [("machine",mv)])) q=some o:=by rw[aY SU];erw[fN _ _ e']
   cases(s3 _ _ h1).symm.trans nq
  have e3:=bt a _ (by rw[aY ar,aY X0];erw[cg]) (λz=>ar (dN.mp z));erw[_,Z,a,dx,_,Z,e3,by show 1<1000;decide,?_];have v4:cR H3 (_L.upd H3 a (.ins D dx [("machine",mv),("runner",.ref r)])):=.upd e3 trivial;have bH:dI [a] H (_L.upd H3 a (.ins D dx [("machine",mv),("runner",.ref r)])):=λb o eb hb=>by
   have ha:b≠a:=λz=>hb (by rw[z];erw[.head _]);have hbr:b≠r:=λz=>by rw[z,nr]at eb;cases eb
   rw[aY ha];erw[bt b o (s3 _ _ (by rw[aY ha];erw[fN _ _ eb])) (λz=>hbr (dN.mp z))]
  have vH:=bH.v λx hx o eo=>by rw[dN]at hx;rw[hx,e]at eo;cases eo;trivial
  erw[k r q _ #[dx,mv,cg,RD.v vH _ (kT _ _ _ _ _) rm] ?_ nr nqH bH];erw[R3.go Z v4 (λo eo=>by rw[aY ar.symm];erw[eo]) (λo eo=>by rw[aY SU];erw[eo])]
inductive adW(K:aa)(vs:List V)(H:Hp)(Q:VK):Prop |mk (l:Addr)(z:Str)(h0:vs=[.ref l])(h1:aF K H l [.str z])(h2:z.length<=640)(h3:∀H',aH H H'->Q (oV (numIn? z)) H')
def FG(K:aa):Sp:=λvs H Q _=>adW K vs H Q
theorem Q0:bo ["words"] ["words"] (aU GP):=bp aJ
theorem a3k(F:FA K mg "only_number" GP)(B:bI mg)(Ad:aA P w K mg aw "number_in" 1 yU):aA P w K mg aw "only_number" 2 (FG K):=by
 erw[F.has Q0 (λvs H Q E h=>?_) (λ_ _ _ _ _ _=>dA λ_=>rfl) (λf aL A outer s H vs Q E hr h=>?_)]
 ·let(l,z,rfl,_):=h
  rfl
 ·let(l,z,rfl,hl,zl,k):=h
  have nd:=Q0.nd;erw[_,(aI (aQ (me (cf (dU K Z hr.units) (fU K B (ak (pv 0) ay)) aE (bS _)) (pf Ad hr (ak (px K (pv 0) aE) ay)) gX))),?_];erw[_,Z,l,_,Z,.inl hl,.inl #[_,_,Z,Z,_,Z,bR ?_]];erw[_,Z,.inl #[l,_,0,.str z,Z,Z,hl,Z,z,Z,zl,k]]
theorem Mv.same{a q q':Addr}{H H' H2:Hp}(m:Mv a q H q' H')(s:aH H' H2):Mv a q H q' H2:=#[λb o e hb=>s _ _ (m.but b o e hb),m.nq]
theorem Mv.ahead{a q q':Addr}{H H' H2:Hp}(s:aH H H')(m:Mv a q H' q' H2):Mv a q H q' H2:=#[λb o e hb=>m.but b o (s _ _ e) hb,m.nq.imp id λe=>by cases h:H q' with |none=>rfl |some o=>rw[s _ _ h]at e;cases e]
theorem LI{d:ah}(h:En d):(gw d).length<=2000:=by
 rcases h with⟨ti,hn⟩|⟨ns,t,a,b,rfl,hl,hn,ht,ha,hb⟩
 ·rw[AD ti hn]
  have:=Kf ti
  lia
 ·rw[AB]
  have DQ:=uQ hn hl;have xK:=qi ht;have Vf:=Av ha hb;have Aq:=cP;have h5:Str.length "step "=5:=by decide+kernel
  simp only[dv]
  lia
def qM(es:List ah):Str:=ky (Txt.join "\n" (es.map gw))
theorem SQ{n:Int}(h:Nm n):oV (numIn? (numS n))=V.int n:=by rw[_T.CT (by have:=fV h;lia)];rfl
def Xb(K:aa)(C r q:Addr)(M:bC)(S:bu)(n:Int)(H:Hp)(Q:VK):Prop:=∀es S' q' H',Run M S es S'->(es.length:Int)<=n->((es.length:Int)=n\/S'.os=[]\/Halt S'.pc S'.bG)->cV K C H' r q' M S'->Mv r q H q' H'->Q (.str (qM es)) H'
theorem Po:bo ["self","words","number"] ["self","words"] (aU Ga):=bp aJ
inductive adA(K:aa)(C:Addr)(D:Addr)(vs:List V)(H:Hp)(Q:VK):Prop |mk (a:_)(r:_)(q:_)(M:_)(D':_)(S:_)(l:_)(n:_)(h0:vs=[.ref a,.ref l])(h1:rj K D H a r M)(h2:cV K C H r q M S)(h3:RG M D' S)(h4:aF K H l [.str (numS n)])(h5:0<=n)(h6:n<=100)(h7:Xb K C r q M S n H Q)
def Oj(K:aa)(C D:Addr):Sp:=λvs H Q _=>adA K C D vs H Q
theorem a2K(F:MA K D "say_steps" "Desk.say_steps" Ga)(TC:pJ K D)(RC:fo K C)(B:bI mg)(a8o:GV mg "MOST_ENTRIES" (.int 100))(KR:GV mg "NOTHING" (.str "none"))(Ku:aA P w K mg aw "only_number" 2 (FG K))(jf:aA P w K mg aw "is_whole_within" 2 (mW K))(a6U:aA P w K mg aw "show_entry" 3 (Cf K))(a8M:cL P w K mg aw C "entries" 12 (Oz K C)):cL P w K mg aw D "say_steps" 13 (Oj K C D):=by
 erw[F.has Po (λvs H Q E h=>?_) (λ_ _ _ _ _ _=>dW λ_ _=>rfl) (λf0 aL A outer s H vs Q E hr h=>?_)]
 ·let(a,r,q,M,D',S,l,n,rfl,_):=h
  rfl
 ·let(a,r,q,M,D',S,l,n,rfl,(dx,mv,ea,rm),Ra,g,hl,n0,n1,k):=h
  have nd:=Po.nd;have nm:Nm n:=by show n.natAbs<10^40;lia
  erw[_,(aB (pS 2 nd (pf Ku hr (ak (pv 1) ay))) (aB (bL (cT (cw (pf jf hr (ak (pv 2) (ak aE (ak (eD (x:="MOST_ENTRIES") Z a8o) ay)))))) uI bQ) (aI (aQ (Sr (qg K Z bW (ak (eU (N:=["entry"]) (js:=[none]) Z Z Z (nk K Z (kv a8M RC.cl (hr.mono az) (cU TC.cl TC.uT (pv 0)) (ak (pv 2) ay))) (λ_ _ _ _ _=>(aV 0 (iO _))) (λ_ _ _ _ _=>dZ) (λ_ _ _ _ _=>(pf a6U hr (ak (pv 0) ay)))) ay)) (oM (eD (x:="NOTHING") rfl KR))))))),?_];erw[_,Z,l,_,Z,hl,by have:=fV nm;lia,λH1 s1=>?_];rw[SQ nm];erw[_,Z,.int n,.int n,0,100,Z,fP _,_,Z,?_];rw[show dy 0 100 (.int n)=true by show(decide (0<=n)&&decide (n<=100))=true;rw[cu n0,cu n1];rfl];erw[aR ?_];let(rx,uF,J4,IM,IL,er,_):=Ra.ob;erw[Z,?_];erw[_,Z,a,dx,_,_,Z,s1 _ _ ea,Z,r,rx,_,Z,s1 _ _ er,Z,_,Z,r,q,M,D',S,n,Z,Ra.same g.ok.row.no s1,g.ok,g.aD,n0,ao,λle ys es S' q' H2 nl dl rd run he nQ R2 Tq lq=>?_];have ly:=rd.length;have te:=run.yM g.ok g.aD g.hD;erw[le,Z,#[_,aF.of dl],λD2 H4 n4=>?_];erw[vM (K:=K) (ds:=(es.map gw).map PyData.str) _ (aF.of dl) n4 (by simp;erw[ly]) ao (oO _) ?_ ?_]
  ·intro i x d H5 Q' ex ed s5 hq
   let(d',dG,rx):=rd.get' i ex;rw[bP,bP,dG]at ed;cases ed;erw[_,Z,x,d',Z,RD.mono s5 _ rx,te d' (fR dG),λH6 s6=>hq _ _ s6 (bJ _)]
  ·intro H5 ws s5 d5 r5
   rw[oE r5]at d5;erw["\n",D2,es.map gw,Z,Z,aF.of d5,λz hz=>?_,aJ,by rw[ba];lia,?_]
   ·let(d,hd,rfl):=cI.mp hz
    have:=LI (te d hd)
    lia
   have hj:=Ds "\n" (B:=2000) (es.map gw) (λz hz=>by let(d,hd,rfl):=cI.mp hz;erw[LI (te d hd)]);have n1:Str.length "\n"=1:=by decide+kernel
   rw[n1,ba]at hj;have qE:es.length*(2000+1)<=100*2001:=MX _ ao;have k2:=k es S' q' H5 run he nQ (R2.same (run.ok g.ok g.aD).row.no s5) (Mv.ahead s1 (Tq.same s5));unfold qM ky at k2;erw[_,Z,ao,?_];split
   ·next e0=>rw[bc e0]at k2;erw[k2]
   ·next e0=>rw[bj e0]at k2;erw[k2]
theorem Pp:bo ["self","words","number"] ["self","words"] (aU Gb):=bp aJ
inductive adB(K:aa)(C:Addr)(D:Addr)(vs:List V)(H:Hp)(Q:VK):Prop |mk (a:_)(r:_)(q:_)(M:_)(D':_)(S:_)(l:_)(n:_)(h0:vs=[.ref a,.ref l])(h1:rj K D H a r M)(h2:cV K C H r q M S)(h3:RG M D' S)(h4:aF K H l [.str (numS n)])(h5:10<=n)(h6:n<=200)(h7:S.pc=0)(h8:∀H',cV K C H' r q M {S with rate:=n}->dI [r] H H'->Q (.str (numS n)) H')
def Ol(K:aa)(C D:Addr):Sp:=λvs H Q _=>adB K C D vs H Q
theorem a2L(F:MA K D "say_rate" "Desk.say_rate" Gb)(TC:pJ K D)(RC:fo K C)(B:bI mg)(Ku:aA P w K mg aw "only_number" 2 (FG K))(a8D:cL P w K mg aw C "turn_rate" 4 (Ot K C)):cL P w K mg aw D "say_rate" 5 (Ol K C D):=by
 erw[F.has Pp (λvs H Q E h=>?_) (λ_ _ _ _ _ _=>dW λ_ _=>rfl) (λf0 aL A outer s H vs Q E hr h=>?_)]
 ·let(a,r,q,M,D',S,l,n,rfl,_):=h
  rfl
 ·let(a,r,q,M,D',S,l,n,rfl,(dx,mv,ea,rm),Ra,g,hl,n1,n2,pz,k):=h
  have nd:=Pp.nd;have nm:Nm n:=by show n.natAbs<10^40;lia
  erw[_,(aB (pS 2 nd (pf Ku hr (ak (pv 1) ay))) (aB (bL (cf SD (pv 2) gX (bS _)) uI bQ) (aI (aQ (dh (x:="str") iT Z (B.at "str") iJ (ak (kv a8D RC.cl (hr.mono az) (cU TC.cl TC.uT (pv 0)) (ak (pv 2) ay)) ay)))))),?_];erw[_,Z,l,_,Z,hl,by have:=fV nm;lia,λH1 s1=>?_];rw[SQ nm];erw[_,Z,Z,_,Z,aR ?_];let(rx,uF,J4,IM,IL,er,_):=Ra.ob;erw[_,Z,a,dx,_,_,Z,s1 _ _ ea,Z,r,rx,_,Z,s1 _ _ er,Z,_,Z,r,q,M,D',S,n,Z,Ra.same g.ok.row.no s1,g.ok,g.aD,n1,n2,pz,λH' R' b'=>?_];erw[.inl #[n,Z,kz nm,k H' R' λb o eb hb=>b' b o (s1 _ _ eb) hb]]
def pT(a b:List Int):List Int:=(a.zip b).map λp=>p.1-p.2
def vZ(K:aa)(C:Addr)(a q:Addr)(M:bC)(S:bu)(d:ah)(o:Itm)(H:Hp)(Q:VK):Prop:=jC M.rs.length d o/\ft M.rs (fY (jV S) o)/\S.ds.length<20/\∀H',cV K C H' a q M (tH S d o)->dI [a,q] H H'->Q (.str (numS (S.ds.length+1:Nat))) H'
theorem vZ.go{C:Addr}{a q:Addr}{M:bC}{S:bu}{d:ah}{o:Itm}{H H1:Hp}{Q:VK}(h:vZ K C a q M S d o H Q)(s:aH H H1):vZ K C a q M S d o H1 Q:=by let(h1,h2,h3,h4):=h;erw[h1,h2,h3,λH' R' b'=>h4 H' R' λb o' eb hb=>b' b o' (s b o' eb) hb]
theorem SR{n:Nat}(h:n<=20):((n+1:Nat):Int).natAbs.log2<1920:=kz (show((n+1:Nat):Int).natAbs<10^40 by omega)
def toS(ns:List Int)(sp:Int):Str:=Txt.join " " ("to"::(ns.map numS++[numS sp]))
theorem a4p{ns:List Int}(h:∀n∈ns,Nm n):(ns.map numS).map (λz=>oV (numIn? z))=ns.map V.int:=by rw[ES];erw[List.map_congr_left λn hn=>?_];show oV (numIn? (numS n))=_;rw[_T.CT (by have:=fV (h n hn);lia)];rfl
theorem Pm:bo ["self","words","numbers","place","steps"] ["self","words"] (aU G9):=bp aJ
inductive adz(K:aa)(C:Addr)(D:Addr)(vs:List V)(H:Hp)(Q:VK):Prop |mk (a:_)(r:_)(q:_)(M:_)(D':_)(S:_)(l:_)(ns:_)(sp:_)(h0:vs=[.ref a,.ref l])(h1:rj K D H a r M)(h2:cV K C H r q M S)(h3:dC M D' S)(h4:M.Ok)(h5:aF K H l ((ns.map numS++[numS sp]).map V.str))(h6:ft M.rs ns)(h7:1<=sp)(h8:sp<=20)(h9:∃o,vZ K C r q M S (eK (pT ns (jV S)) sp) o H Q)
def Oi(K:aa)(C D:Addr)  :Sp:=λvs H Q _=>adz K C D vs H Q
theorem a2I  (F:MA K D "say_to" "Desk.say_to" G9)(TC:pJ K D)(RC:fo K C)(B:bI mg)(KS:GV mg "GREATEST_SPEED" (.int 20))(Kw:aA P w K mg aw "numbers_in" 2 (Cc K))(vj:aA P w K mg aw "is_place" 3 (wL K))(jf:aA P w K mg aw "is_whole_within" 2 (mW K))(KW:cL P w K mg aw C "leads_to" 3 (gm K C λ_ S H Q=>∀v H',RD K H' v (da (jV S))->aH H H'->Q v H'))(L1:cL P w K mg aw C "feed" 5 (FE K C)):cL P w K mg aw D "say_to" 6 (Oi K C D):=by
 erw[F.has Pm (λvs H Q E h=>?_) (λ_ _ _ _ _ _=>dW λ_ _=>rfl) (λf0 aL A outer s H vs Q E hr h=>?_)]
 ·let(a,r,q,M,D',S,l,ns,sp,rfl,_):=h
  rfl
 ·let(a,r,q,M,D',S,l,ns,sp,rfl,(dx,mv,ea,rm),Ra,ok,aD,hl,gC,cP,dX,o,fe):=h
  have nd:=Pm.nd;have lr:=aD.len;have ln:=gC.len;have nb:=zG gC aD.rl;have nm:∀n∈ns,Nm n:=λn hn=>by have:=nb n hn;show n.natAbs<10^40;lia
  have sm:Nm sp:=by show sp.natAbs<10^40;lia
  erw[_,(aB (pS 2 nd (pf Kw hr (ak (pv 1) ay))) (aB (pS 3 nd (dh (x:="tuple") (kn K Z) Z (B.at "tuple") ir (ak (zv (yZ K rfl) (pv 2) zq (zp (jN jH aE))) ay))) (aB (bL (PW.pt (iL (cT (cw (pf vj hr (ak (cU TC.cl TC.mq (pv 0)) (ak (pv 3) ay))))) (jL (cT (cw (pf jf hr (ak (px K (pv 2) (jN jH aE)) (ak aE (ak (eD (x:="GREATEST_SPEED") rfl KS) ay))))))))) uI bQ) (aB (pS 4 nd (dh (x:="tuple") (kn K Z) Z (B.at "tuple") ir (ak (eU (N:=["number","begun"]) (js:=[none,none]) rfl rfl rfl (oK K rfl false false rfl (B.at "zip") (ak (pv 3) (ak (jO KW RC.cl (hr.mono az) (cU TC.cl TC.uT (pv 0))) ay))) (λ_ _ _ _ _=>(eg K rfl (n:=2) rfl (bV (aV 0 (jQ az)) (bV (aV 1 (jQ az)) e9)))) (λ_ _ _ _ _=>dZ) (λ_ _ _ _ _=>(aP j9 (pv 0) (pv 1)))) ay))) (aI (aQ (dh (x:="str") iT Z (B.at "str") iJ (ak (kv L1 RC.cl (hr.mono az) (cU TC.cl TC.uT (pv 0)) (ak (j6 (ak bW (ak (pv 4) (ak (px K (pv 2) (jN jH aE)) ay)))) ay)) ay)))))))),?_];erw[_,Z,l,_,Z,hl,by simp;lia,λz hz=>?_,λp H1 s1 np d1=>?_]
  ·rcases iy.mp hz with hz|hz
   ·let(n,hn,rfl):=cI.mp hz
    have:=fV (nm n hn);lia
   ·rw[dN.mp hz]
    have:=fV sm;lia
  rw[gJ,a4p nm,show[numS sp].map (λz=>oV (numIn? z))=[V.int sp] by show[oV (numIn? (numS sp))]=_;rw[_T.CT (by have:=fV sm;lia)];rfl]at d1;have cl:=Wj (ns.map V.int++[V.int sp]);rw[cD,ba,N5,XF,List.take_left' (by rw[ba])]at cl;erw[_,Z,_,Z,_,Z,p,_,Z,.inl #[aF.of d1,λl2 H2 n2=>?_]];have d2:=n2.at';rw[show(-(1:Int))=-1 from Z,cl]at d2;erw[l2,_,Z,.inl #[aF.of d2,λt H3 n3=>?_]];have s3:=s1.trans (n2.same.trans n3.same);have LP:=s3 _ _ ea;have rt:RD K H3 (.ref t) (da ns):=fO (aW.of n3.at') (pY ns);erw[_,Z,a,dx,_,_,Z,LP,Z,_,Z,mv,.ref t,M.rs,_,_,Z,RD.mono s3 _ rm,rt,ao,λH4 s4=>#[_,Z,?_]];rw[CM gC];erw[aR ?_];have wW:=s3.trans s4;have W0:H4 p=some (.lst (ns.map V.int++[V.int sp])):=s4 _ _ (n3.same _ _ (n2.same _ _ d1));have WZ:fc (ns.map V.int++[V.int sp]) (-1)=some (.int sp):=AX (by simp);erw[_,Z,_,Z,.inl #[p,_,-1,.int sp,Z,Z,aF.of W0,WZ,_,.int sp,1,20,Z,fP _,_,Z,?_]];rw[show dy 1 20 (.int sp)=true by show(decide (1<=sp)&&decide (sp<=20))=true;rw[cu cP,cu dX];rfl];erw[aR ?_];have ea4:=wW _ _ ea;let(rx,uF,J4,IM,IL,er,_):=Ra.ob;have LF:=wW _ _ er;have R4:=Ra.same ok.row.no wW;erw[_,Z,_,Z,a,dx,_,_,Z,ea4,Z,r,rx,_,Z,LF,Z,r,q,M,D',S,Z,R4,ok,aD,λg H5 rg s5=>?_];let(ga,gx,rfl,hg,hgx):=rg.cv;rw[hgx.gh]at hg;have gl:(jV S).length=M.rs.length:=DS _ _ ok.pl ok.mj;have UM:aW K H5 t (ns.map V.int):=aW.of (s5 _ _ (s4 _ _ n3.at'));erw[t,ga,Z,#[_,UM],#[_,hg],λD2 H6 n6=>?_];erw[vL (K:=K) (b1:=false) (b2:=false) (xs:=ns.map V.int) (ys:=(jV S).map V.int) (ds:=(pT ns (jV S)).map PyData.int) _ Z UM hg n6 (by simp[pT]) (by simp[pT];lia) (mm _) ?_ ?_]
  ·intro i x y d H7 Q' ex ey ed s7 hq
   let(u,v,e1,e2,rfl,rfl):=zip2 ao ex ey;let(m,em,rfl):=oS ed;unfold pT at em;rw[bP,(Bx (z:=(u,v))).mpr #[e1,e2]]at em;cases em;erw[_,Z,_,Z,_,_,Z,Z,hq _ _ (aH.refl _) (fP _)]
  intro H7 zs s7 d7 r7;rw[r7.gh]at d7;erw[D2,_,Z,.inl #[aF.of d7,λtt H8 n8=>?_]];have kN:=s5.trans (s7.trans n8.same);have s8:=wW.trans kN;erw[_,Z,a,dx,_,_,Z,s8 _ _ ea,Z,r,rx,_,Z,s8 _ _ er,Z,?_];erw[_,Z,_,Z,_,Z,.inl #[p,_,-1,.int sp,Z,Z,aF.of (kN _ _ W0),WZ,cy Z,λtu H9 n9=>?_]];have s9:=s8.trans n9.same;have rl:RD K H9 (.ref tu) (eK (pT ns (jV S)) sp):=fO (aW.of n9.at') (cE (bJ _) (cE (fO (aW.of (n9.same _ _ n8.at')) (pY _)) (cE (fP _) cX)));let(h1,h2,h3,h4):=fe.go s9;erw[r,q,M,D',S,.ref tu,_,o,Z,Ra.same ok.row.no s9,ok,aD,rl,h1,h2,h3,λH' R' b'=>.inl #[_,Z,SR ao,h4 H' R' b']]
inductive kG |wd (w:Wd) |steps (n:Int) |rate (n:Int) |item (d:ah)(o:Itm) |to (ns:List Int)(sp:Int)
def kG.txt:kG->Str | .wd w=>w.txt | .steps n=>"steps"++" "++numS n | .rate n=>"rate"++" "++numS n | .item d _=>gr d | .to ns sp=>toS ns sp
def kG.Ok(K:aa)(C:Addr)(r q:Addr)(M:bC)(S:bu)(H:Hp)(Q:VK):kG->Prop | .wd w=>∀H',aH H H'->Q (.str (y9 M S w)) H' | .steps n=>0<=n/\n<=100/\Xb K C r q M S n H Q | .rate n=>10<=n/\n<=200/\S.pc=0/\∀H',cV K C H' r q M {S with rate:=n}->dI [r] H H'->Q (.str (numS n)) H' | .item d o=>vZ K C r q M S d o H Q | .to ns sp=>ft M.rs ns/\1<=sp/\sp<=20/\∃o,vZ K C r q M S (eK (pT ns (jV S)) sp) o H Q
theorem YK{ws:List Str}{d:ah}(h:gW ws=d)(hd:d≠ .none):∃z y rest ds,ws=z::y::rest/\d= .tuple (.str z::ds):=by
 subst h
 match ws with
 |[]=>exact(hd Z).elim |[z]=>exact(hd (by unfold gW;dsimp only;split<;>rfl)).elim |z::y::rest=>
  erw[z,y,rest,?_];unfold gW at hd⊢;dsimp only at hd⊢;split
  ·erw[_,Z,Z]
  ·next hz=>
   rw[bj hz]at hd
   match rest,hd with |[],_=>erw[_,Z,Z] |_::_,hd=>exact(hd Z).elim
def Mw (z:Str):Prop:=z = "line" \/ oj z
theorem qZ.word{n:Nat}{d:ah}(h:qZ n d):∃z y rest,Txt.split (gr d) " "=z::y::rest/\Mw z:=by
 have e:=h.rt;unfold vc at e;have e2:gW (Txt.split (gr d) " ")=d:=by cases hc:nC n (gW (Txt.split (gr d) " "))with |true=>rw[hc]at e;erw[e] |false=>rw[hc]at e;exact(h.ne e.symm).elim
 let(z,y,rest,ds,hw,hd):=YK e2 h.ne;erw[z,y,rest,hw,?_];rcases h.ti with⟨ns,sp,rfl,_⟩|⟨w,i,rfl,hw,_⟩|⟨w,y,rfl,hw,_⟩
 ·cases hd;erw[.inl rfl]
 ·cases hd;erw[.inr hw]
 ·cases hd;erw[.inr hw]
structure MB(K:aa)(gA:Addr):Prop where
 line:PySem.W.nsIn K gA "line"=some none
 wait:PySem.W.nsIn K gA "wait"=some none
 rK:∃v,PySem.W.nsIn K gA "tool"=some (some v)
 mark:∃v,PySem.W.nsIn K gA "mark"=some (some v)
 steps:PySem.W.nsIn K gA "steps"=some none
 rate:PySem.W.nsIn K gA "rate"=some none
 to:PySem.W.nsIn K gA "to"=some none
theorem acG{ta tb:TT}{O:_L.St}{H:Hp}{Q:Bool->Hp->Prop}(h1:∀Q':Bool->Hp->Prop,(∀c,Q' c H)->ta O H Q')(h2:∀Q':Bool->Hp->Prop,Q' false H->tb O H Q')(k:Q false H):NP ta tb O H Q:=h1 _ λc=>by cases c with |true=>erw[h2 _ k] |false=>erw[k]
structure RwW(y:Str):Prop where
 sh:SeqAt.shaped (.str y)=true
 n1:PyData.eqv (.str y) (.str "to")=false
 n2:PyData.eqv (.str y) (.str "steps")=false
 n3:PyData.eqv (.str y) (.str "rate")=false
theorem a0g{y:Str}(h:Mw y):RwW y:=by rcases h with rfl|rfl|rfl|rfl<;>erw[aJ,aJ,aJ,aJ]
theorem jJ:SeqAt.shaped (.str "to")=true/\SeqAt.shaped (.str "steps")=true/\SeqAt.shaped (.str "rate")=true/\PyData.eqv (.str "to") (.str "to")=true:=by decide+kernel
theorem MB.row{gA:Addr}(h:MB K gA){y:Str}(hy:Mw y):∃ov,PySem.W.nsIn K gA y=some ov:=by
 rcases hy with rfl|rfl|rfl|rfl
 ·erw[_,h.line]
 ·erw[_,h.wait]
 ·erw[_,h.rK.choose_spec]
 ·erw[_,h.mark.choose_spec]
theorem Ya(w:Wd):Txt.split w.txt " "=[w.txt]/\w.txt.length<=100:=by cases w<;>erw[aJ,aJ]
theorem O9{z:Str}(hz:Free 32 z)(n:Int):Txt.split (z++" "++numS n) " "=[z,numS n]:=by
 have ej:z++" "++numS n=Txt.join ⟨#[32]⟩ [z,numS n]:=by rw[<-pU];rfl
 rw[ej,pU];erw[_T.C7 (by simp) λy hy=>?_];simp only[cO,iu,kH]at hy;rcases hy with rfl|rfl
 ·erw[hz]
 ·erw[_T.kQ az az]
theorem za:PyData.eqv (.str "steps") (.str "to")=false/\PyData.eqv (.str "steps") (.str "steps")=true/\PyData.eqv (.str "rate") (.str "to")=false/\PyData.eqv (.str "rate") (.str "steps")=false/\PyData.eqv (.str "rate") (.str "rate")=true:=by decide+kernel
theorem YD{ns:List Int}{sp:Int}:Txt.split (toS ns sp) " "=("to":Str)::(ns.map numS++[numS sp]):=by
 unfold toS;rw[pU];erw[_T.C7 (by simp) λz hz=>?_];rcases cO.mp hz with rfl|hz
 ·erw[iR aJ]
 ·rcases iy.mp hz with hz|hz
  ·let(i,_,rfl):=cI.mp hz
   erw[_T.kQ az az]
  ·rw[dN.mp hz];erw[_T.kQ az az]
theorem YE{ns:List Int}{sp:Int}(h:∀n∈ns,Nm n)(hs:Nm sp)(hl:ns.length<=3):(toS ns sp).length<=400:=by
 have:=Ds " " (B:=41) ("to"::(ns.map numS++[numS sp])) (λz hz=>by
  rcases cO.mp hz with rfl|hz
  ·decide+kernel
  ·rcases iy.mp hz with hz|hz
   ·let(i,hi,rfl):=cI.mp hz
    erw[fV (h i hi)]
   ·rw[dN.mp hz];erw[fV hs]);rw[cP,gz,cD,ba,N5]at this;unfold toS;have:(ns.length+1+1)*(41+1)<=5*42:=MX _ ao
 lia
inductive adx(K:aa)(C:Addr)(D:Addr)(vs:List V)(H:Hp)(Q:VK):Prop |mk (a:_)(r:_)(q:_)(M:_)(D':_)(S:_)(c:_)(h0:vs=[.ref a,.str (kG.txt c)])(h1:rj K D H a r M)(h2:cV K C H r q M S)(h3:RG M D' S)(h4:c.Ok K C r q M S H Q)
def C9(K:aa)(C D:Addr):Sp:=λvs H Q _=>adx K C D vs H Q
theorem Pk:bo ["self","text","word","rest","answer","item"] ["self","text"] (aU G7):=bp aJ
theorem a2R{gA:Addr}(F:MA K D "say" "Desk.say" G7)(TC:pJ K D)(RC:fo K C)(B:bI mg)(GA:GD w K mg "ANSWERS" gA)(NA:MB K gA)(hW:∀v:Wd,∃fn,PySem.W.nsIn K gA v.txt=some (mg fn)/\yi P w K mg aw fn 10 (ur K C v))(a7s:aA P w K mg aw "item_in" 5 (FK K))(a92:cL P w K mg aw D "say_steps" 13 (Oj K C D))(a93:cL P w K mg aw D "say_rate" 5 (Ol K C D))(a91:cL P w K mg aw D "say_to" 6 (Oi K C D))(L1:cL P w K mg aw C "feed" 5 (FE K C)):Ez P w K mg aw D "say" 14 (C9 K C D):=by
 erw[F.a8e Pk (λvs H Q E h=>?_) (λ_ _ _ _ _ _=>dW λ_ _=>rfl) (λf0 aL A outer s H vs Q E hr h=>?_)]
 ·let(a,r,q,M,D',S,c,rfl,_):=h
  rfl
 ·let(a,r,q,M,D',S,c,rfl,(dx,mv,ea,rm),Ra,g,k):=h
  have nd:=Pk.nd;have lr:=g.aD.n3;have jg:sizeLine=16777216:=by decide
  erw[_,(aB (bL (cT (cw (mi K B (ak (pv 1) (ak (mh (x:="str") (v:=.ty "str") Z (B.at "str") iJ rfl) ay))))) uI bQ) (aB (fh (Jm K Z (pv 1) (ak bW ay)) (So K Z Z (aV 2 nd) (aV 3 nd))) (aB (bL (PW.pt (si (a1t (a20 GA Z (pv 2)) (by with_unfolding_all rfl)) (xf (cT (zm K Z (pv 3)))))) (aB (pS 4 nd (a1S GA Z (pv 2) (λ_ _=>rfl))) (aI (aQ (a1W 4 (a21 λ_ _ _ z=>z) (ha:=(ak (cU TC.cl TC.uT (pv 0)) ay)))))) bQ) (aB (bL (cf (dU K Z hr.units) (pv 2) bW (bS _)) (aI (aQ (kv a91 TC.cl (hr.mono az) (pv 0) (ak (pv 3) ay)))) bQ) (aB (bL (cf (dU K Z hr.units) (pv 2) bW (bS _)) (aI (aQ (kv a92 TC.cl (hr.mono az) (pv 0) (ak (pv 3) ay)))) bQ) (aB (bL (cf (dU K Z hr.units) (pv 2) bW (bS _)) (aI (aQ (kv a93 TC.cl (hr.mono az) (pv 0) (ak (pv 3) ay)))) bQ) (aB (pS 5 nd (pf a7s hr (ak (cU TC.cl TC.mq (pv 0)) (ak (pv 1) ay)))) (aB (bL (cf SD (pv 5) gX (bS _)) uI bQ) (aI (aQ (dh (x:="str") iT Z (B.at "str") iJ (ak (kv L1 RC.cl (hr.mono az) (cU TC.cl TC.uT (pv 0)) (ak (pv 5) ay)) ay)))))))))))),?_];erw[_,Z,.inl #[_,"str","str",true,Z,Z,az,az,_,Z,aR ?_]];cases c with
  |wd v=>let(hz,hl):=Ya v;let(fn,hG,f,fd,ps,Fo,hm,hk,hb):=hW v;rw[hm]at hG;erw[_,Z,Z,v.txt," ",Z,Z,aJ,ao,λl H1 n1=>?_];rw[hz]at n1;erw[l,.str v.txt,[],Z,aF.of n1.at',az,λp H2 n2=>?_];have s2:=n1.same.trans n2.same;erw[_,Z,v.txt,_,Z,hG,true,Z,bR ?_];erw[_,Z,false,.inl #[_,aF.of n2.at',Z],bR ?_];erw[_,Z,v.txt,_,.ref f,Z,hG,Z,?_];erw[f,fd,ps,10,_,Z,Fo,hk,hb,hr.mono az,_,Z,a,dx,_,_,Z,s2 _ _ ea,Z,r,q,M,D',S,Z,Ra.same g.ok.row.no s2,g,λH' s'=>k H' (s2.trans s')] |steps n=>
   let(n0,zV,k):=k;have nm:Nm n:=by show n.natAbs<10^40;lia
   have hl:=fV nm;have e5:Str.length "steps"=5:=by decide+kernel
   have h1:=cP;erw[_,Z,Z,_," ",Z,Z,aJ,by simp only[kG.txt,dv];lia,λl H1 n1=>?_];rw[show Txt.split (kG.txt (.steps n)) " "=[Str.ofString "steps",numS n]from O9 (iR aJ) n]at n1;erw[l,.str "steps",[.str (numS n)],Z,aF.of n1.at',by show 1<=16000;decide,λp H2 n2=>?_];have s2:=n1.same.trans n2.same;erw[_,Z,"steps",_,Z,NA.steps,false,Z,aR ?_];erw[_,Z,.inr #[_,_,bJ _,bJ _,jJ.2.1,jJ.1,_,Z,?_]];rw[za.1];erw[aR #[_,Z,.inr #[_,_,bJ _,bJ _,jJ.2.1,jJ.2.1,_,Z,?_]]];rw[za.2.1];erw[bR ?_];erw[_,Z,a,dx,_,Z,s2 _ _ ea,Z,_,Z,a,r,q,M,D',S,p,n,Z,#[dx,mv,s2 _ _ ea,RD.mono s2 _ rm],Ra.same g.ok.row.no s2,g,aF.of n2.at',n0,zV,λes S' q' H' h1 h2 h3 h4 h5=>k es S' q' H' h1 h2 h3 h4 (Mv.ahead s2 h5)] |rate n=>
   let(zV,n2',pz,k):=k;have nm:Nm n:=by show n.natAbs<10^40;lia
   have hl:=fV nm;have e5:Str.length "rate"=4:=by decide+kernel
   have h1:=cP;erw[_,Z,Z,_," ",Z,Z,aJ,by simp only[kG.txt,dv];lia,λl H1 n1=>?_];rw[show Txt.split (kG.txt (.rate n)) " "=[Str.ofString "rate",numS n]from O9 (iR aJ) n]at n1;erw[l,.str "rate",[.str (numS n)],Z,aF.of n1.at',by show 1<=16000;decide,λp H2 n2=>?_];have s2:=n1.same.trans n2.same;erw[_,Z,"rate",_,Z,NA.rate,false,Z,aR ?_];erw[_,Z,.inr #[_,_,bJ _,bJ _,jJ.2.2.1,jJ.1,_,Z,?_]];rw[za.2.2.1];erw[aR #[_,Z,.inr #[_,_,bJ _,bJ _,jJ.2.2.1,jJ.2.1,_,Z,?_]]];rw[za.2.2.2.1];erw[aR #[_,Z,.inr #[_,_,bJ _,bJ _,jJ.2.2.1,jJ.2.2.1,_,Z,?_]]];rw[za.2.2.2.2];erw[bR ?_];erw[_,Z,a,dx,_,Z,s2 _ _ ea,Z,_,Z,a,r,q,M,D',S,p,n,Z,#[dx,mv,s2 _ _ ea,RD.mono s2 _ rm],Ra.same g.ok.row.no s2,g,aF.of n2.at',zV,n2',pz,λH' R' b'=>k H' R' λx o e hx=>b' x o (s2 _ _ e) hx] |item d o=>
   have k0:=k;let(it,gC,_):=k;have Kb:=g.ok.len;have tx:=it.tx lr.1 lr.2;have ok:=g.ok;have aD:=g.aD;let(y,y2,Y4,hs,hy):=tx.word;let(ov,hov):=NA.row hy;generalize eys:y2::Y4=ys at hs;have W:=a0g hy;have hl:(kG.txt (.item d o)).length<=400:=tx.len;have Ai:=tx.len;have xI:ys.length<=1000:=by
    have:=split_len (gr d) " ";rw[hs,gz]at this
    lia
   erw[_,Z,Z,_," ",Z,Z,aJ,ao,λl H1 n1=>?_];change Nw H H1 l (.lst ((Txt.split (gr d) " ").map V.str))at n1;rw[hs]at n1;erw[l,.str y,ys.map V.str,Z,aF.of n1.at',by rw[ba];lia,λp H2 n2=>?_];have s2:=n1.same.trans n2.same;unfold gu;dsimp only;unfold NI NM;dsimp only;erw[acG (λQ' hq=>#[_,Z,y,ov,Z,hov,_,Z,hq _]) (λQ' hq=>#[_,Z,true,.inl #[_,aF.of n2.at',by rw[<-eys];rfl],hq]) ?_];erw[aR ?_];erw[_,Z,.inr #[_,_,bJ _,bJ _,W.sh,jJ.1,_,Z,?_]];rw[W.n1];erw[aR #[_,Z,.inr #[_,_,bJ _,bJ _,W.sh,jJ.2.1,_,Z,?_]]];rw[W.n2];erw[aR #[_,Z,.inr #[_,_,bJ _,bJ _,W.sh,jJ.2.2.1,_,Z,?_]]];rw[W.n3];erw[aR ?_];erw[_,Z,a,dx,_,_,Z,s2 _ _ ea,Z,_,Z,mv,M.rs,_,_,Z,RD.mono s2 _ rm,Z,ao,ao,tx.ok,λv H3 s3 rv=>?_];change RD K H3 v (vc M.rs.length (gr d))at rv;rw[tx.rt]at rv;have wX:=s2.trans s3;have nv:v≠ .bw:=λe=>by rw[e]at rv;rcases tx.ti with⟨ns,sp,rfl,_⟩|⟨w,i,rfl,_⟩|⟨w,z,rfl,_⟩<;>(let(p,xs,e,_):=rv.cv;cases e)
   erw[_,Z,Z,_,Z,?_];rw[dM nv];erw[aR ?_];let(rx,uF,J4,IM,IL,er,_):=Ra.ob;erw[_,Z,a,dx,_,_,Z,wX _ _ ea,Z,r,rx,_,Z,wX _ _ er,Z,_,Z,?_];let(_,_,h3,h4):=k0.go wX;erw[r,q,M,D',S,v,d,o,Z,Ra.same ok.row.no wX,ok,aD,rv,it,gC,h3,λH' R' b'=>.inl #[_,Z,SR ao,h4 H' R' b']] |to ns sp=>
   let(gC,ZI,ZH,o,fe):=k;have nb:=zG gC g.aD.rl;have ln:=gC.len;have nm:∀n∈ns,Nm n:=λn hn=>by have:=nb n hn;show n.natAbs<10^40;lia
   have sm:Nm sp:=by show sp.natAbs<10^40;lia
   have hl:(kG.txt (.to ns sp)).length<=400:=YE nm sm ao;erw[_,Z,Z,_," ",Z,Z,aJ,ao,λl H1 n1=>?_];rw[show Txt.split (kG.txt (.to ns sp)) " "=("to":Str)::(ns.map numS++[numS sp])from YD]at n1;erw[l,.str "to",(ns.map numS++[numS sp]).map V.str,Z,aF.of n1.at',by simp;lia,λp H2 n2=>?_];have s2:=n1.same.trans n2.same;erw[_,Z,"to",_,Z,NA.to,false,Z,aR ?_];erw[_,Z,.inr #[_,_,bJ _,bJ _,jJ.1,jJ.1,_,Z,?_]];rw[jJ.2.2.2];erw[bR ?_];erw[_,Z,a,dx,_,Z,s2 _ _ ea,Z,_,Z,a,r,q,M,D',S,p,ns,sp,Z,#[dx,mv,s2 _ _ ea,RD.mono s2 _ rm],Ra.same g.ok.row.no s2,g.ok,g.aD,aF.of n2.at',gC,ZI,ZH,o,fe.go s2]
end
section
def dj(pl:List Int)(os:List Itm)(i:Nat):List Int:=(os.take i).foldl fY pl
theorem y8{pl:List Int}{os:List Itm}{i:Nat}{o:Itm}(h:os[i]? =some o):dj pl os (i+1)=fY (dj pl os i) o:=by unfold dj;rw[lC,h,wu];rfl
def qN(pl:List Int)(os:List Itm):Nat->List ah |0=>[] |i+1=>qN pl os i++[da (dj pl os (i+1))]
theorem xQ(pl:List Int)(os:List Itm):∀i,(qN pl os i).length=i |0=>rfl |i+1=>by show(qN pl os i++[da (dj pl os (i+1))]).length=_;rw[cD,xQ pl os i];rfl
theorem VM(pl:List Int)(os:List Itm):∀i,cA (qN pl os i)=true
 |0=>rfl |i+1=>eF.mpr λd hd=>by
  rcases iy.mp (show d∈qN pl os i++[da (dj pl os (i+1))]from hd)with h|h
  ·erw[eF.mp (VM pl os i) d h]
  ·rw[dN.mp h];erw[gq _]
inductive aet(K:aa)(vs:List V)(H:Hp)(Q:VK):Prop |mk (m:_)(x:_)(iv:_)(rs:_)(r:_)(f:_)(j:_)(t:_)(pl:_)(ds:_)(os:_)(h0:vs=[m,x,iv])(h1:RD K H m (fJ rs r f j t))(h2:RD K H x (da pl))(h3:RD K H iv (.tuple ds))(h4:cW rs.length ds os)(h5:rs.length<=3)(h6:ds.length<=30)(h7:(∀i,i<=os.length->ft rs (dj pl os i)))(h8:∀l ys H',H l=none->H' l=some (.lst ys)->aK K H' ys (qN pl os os.length)->aH H H'->Q (.ref l) H')
def ON(K:aa):Sp:=λvs H Q _=>aet K vs H Q
theorem QC:bo ["machine","place","items","told","here","at","item"] ["machine","place","items"] (aU Ib):=bp aJ
theorem a3W(F:FA K mg "ends" Ib)(B:bI mg)(vg:aA P w K mg aw "place_behind" 2 (wM K))(vj:aA P w K mg aw "is_place" 3 (wL K)):aA P w K mg aw "ends" 4 (ON K):=by
 erw[F.has QC (λvs H Q E h=>?_) (λ_ _ _ _ _ _=>iE λ_ _ _=>rfl) (λfa aL A outer s H vs Q E hr h=>?_)]
 ·let(m,x,iv,rs,r,f,j,t,pl,ds,os,rfl,_):=h
  rfl
 ·let(m,x,iv,rs,r,f,j,t,pl,ds,os,rfl,rm,rp,ri,row,hr3,hz,on,k):=h
  have nd:=QC.nd;erw[_,(aB (pS 3 nd (dw ay)) (aB (pS 4 nd (pv 1)) (aB (iB gj Z (zu K Z false Z (B.at "enumerate") (ak (pv 2) ay)) (eg K rfl (n:=2) rfl (bV (aV 5 nd) (bV (aV 6 nd) e9))) (aB (pS 4 nd (pf vg hr (ak (pv 4) (ak (pv 6) ay)))) (aB (bL (cT (cw (pf vj hr (ak (pv 0) (ak (pv 4) ay))))) (aI ku) bQ) (aI (gb (jr K Z (pv 3) (ak (pv 4) ay))))))) (aI (aQ (pv 3)))))),?_];have ll:=row.len;have jg:sizeLine=16777216:=by decide
  erw[cy Z,λD H1 n1=>?_];let(ia,xs,rfl,hi,eM):=ri.cv;have lx:=eM.length;erw[_,Z,?_];erw[_,Z,ia,Z,#[_,hi.go n1.same],Ax (K:=K) (b:=false) (a:=ia) (xs:=xs) (λi O H3=>aH H H3/\∃zs v hv v2,H3 D=some (.lst zs)/\aK K H3 zs (qN pl os i)/\RD K H3 hv (da (dj pl os i))/\O=[some m,some x,some (.ref ia),some (.ref D),some hv,v,v2]) #[n1.same,[],none,x,none,n1.at',cX,RD.mono n1.same _ rp,Z] (λi O H3 _ h=>hi.go h.1) ?_ ?_]
  ·rintro i y O H3 hy ⟨s3,zs,v,hv,v2,dz,rz,rh,rfl⟩ T H4 n4
   erw[iG ?_];intro E1;have sW:i<xs.length:=(cJ.mp hy).1;let(d,ed,rd):=eM.get' i hy;let(o,eo,it):=row.get ed;have s4:=s3.trans n4.same;have oi:=on i aO;have zI:=on (i+1) aO;have lz:=rz.length;rw[xQ]at lz;erw[T,_,Z,aW.of n4.at',Z,_,_,Z,_,_,Z,Z,?_];erw[_,Z,_,Z,hv,y,dj pl os i,d,o,Z,RD.mono n4.same _ rh,RD.mono s4 _ rd,it,λns sp e=>?_,by rw[oi.len];omega,λv' H5 rv s5=>?_]
   ·subst e
    rw[(row.ok i ns sp eo).1.len,oi.len]
   rw[<-y8 eo]at rv;erw[_,Z,_,Z,m,v',rs,_,_,Z,RD.mono (s4.trans s5) _ rm,rv,hr3,λH6 s6=>#[_,Z,?_]];rw[CM zI];erw[aR ?_];have pW:=s4.trans (s5.trans s6);have jW:=s6 _ _ (s5 _ _ (n4.same _ _ dz));erw[_,Z,.inl #[Z,_,aF.of jW],_,Z,D,zs,_,Z,Z,jW,aO,?_];have s7:aH H (_L.upd H6 D (.lst (zs++[v']))):=λb o e=>by rw[aY (eJ e n1.no)];erw[pW b o e]
   erw[s7,_,_,_,_,cg,?_,RD.t (.iX jW) _ (gq _) (RD.mono s6 _ rv),Z];erw[aK.wN jW (aK.mono (n4.same.trans (s5.trans s6)) _ rz) (RD.mono s6 _ rv) (VM pl os i) (gq _)]
  ·rintro O H3 ⟨s3,zs,v,hv,v2,dz,rz,rh,rfl⟩
   rw[lx,ll]at rz;erw[_,Z,k D zs H3 n1.no dz rz s3]
end
end _a
set_option maxHeartbeats 1000000
namespace _a
open PySem PySem.Spec PyProof.Rows _L _l _W
section
inductive aem(K:aa)(vs:List V)(H:Hp)(Q:VK):Prop |mk (p:_)(m:_)(rs:_)(r:_)(f:_)(j:_)(t:_)(x:_)(pl:_)(mo:_)(h0:vs=[.ref p,m,x,.int mo])(h1:gH H p)(h2:RD K H m (fJ rs r f j t))(h3:gG rs r f j t)(h4:RD K H x (da pl))(h5:ft rs pl)(h6:1<=mo)(h7:mo<=100)(h8:∀v ns sp H',RD K H' v (eK ns sp)->fu rs.length 100 ns->ft rs (fZ pl ns)->1<=sp->sp<=20->bO p H H'->Q v H')
def FL(K:aa):Sp:=λvs H Q _=>aem K vs H Q
theorem Qx:bo ["_law_bag_here","_law_machine_here","_law_here","_law_most","_law_speed","_law_steps","_law_at","_law_rail","_law_low"] ["_law_bag_here","_law_machine_here","_law_here","_law_most"] (aU Hy):=bp aJ
theorem a3P(F:FA K mg "_law_line_from" Hy)(B:bI mg)(eO:aA P w K mg aw "_law_take" 1 mX):aA P w K mg aw "_law_line_from" 2 (FL K):=by
 erw[F.has Qx (λvs H Q E h=>?_) (λ_ _ _ _ _ _=>yb λ_ _ _ _=>rfl) (λf aL A outer s H vs Q E hr h=>?_)]
 ·let(p,m,rs,r0,f0,j0,t0,x,pl,mo,rfl,_):=h
  rfl
 ·let(p,m,rs,r0,f0,j0,t0,x,pl,mo,rfl,bg,rm,xl,rx,on,mo1,mo2,k):=h
  have nd:=Qx.nd;erw[_,(aB (pS 4 nd (aP eu aE (pf eO hr (ak (pv 0) (ak aE ay))))) (aB (pS 5 nd (dw ay)) (aB (iB gj Z (oK K Z false false Z (B.at "zip") (ak (pv 2) (ak (px K (pv 1) aE) ay))) (eg K rfl (n:=2) rfl (bV (aV 6 nd) (bV (aV 7 nd) e9))) (aB (pS 8 nd (fG (x:="max") (WB Z) Z (B.at "max") MU (ak (jN jH (pv 6)) (ak (jN jH (pv 3)) ay)))) (aI (gb (jr K Z (pv 5) (ak (aP eu (pv 8) (pf eO hr (ak (pv 0) (ak (aP eu (aP j9 (fG (x:="min") (M8 Z) Z (B.at "min") XA (ak (aP j9 (pv 7) (pv 6)) (ak (pv 3) ay))) (pv 8)) aE) ay)))) ay)))))) (aB (j3 (bL (cT (cw (fG (x:="any") (X3 K Z Z) Z (B.at "any") MV (ak (pv 5) ay)))) (aI (fh (px K (dw (ak aE (ak (jN jH aE) ay))) (dh (x:="int") ac9 Z (B.at "int") XB (ak (jq (dU K rfl hr.units) (px K (pv 2) aE) (px K (px K (pv 1) aE) aE) (bS _)) ay))) (uK (pv 5) aE set_list))) bQ)) (aI (aQ (j6 (ak bW (ak (dh (x:="tuple") (kn K Z) Z (B.at "tuple") ir (ak (pv 5) ay)) (ak (pv 4) ay)))))))))),?_];have lr:=xl.len;have lp:=on.len;let(ma,mb,rfl,gE,jR):=oT rm;let(xa,xx,rfl,DA,hxx):=rx.cv;rw[hxx.gh]at DA;erw[_,Z,p,20,Z,bg,az,az,λsp H1 p0 p1 b1=>?_];erw[_,_,Z,Z,?_];erw[cy Z,λl H2 n2=>?_];have b2:bO p H1 H2:=.fi b1.bU n2.same;have qU:=b1.trans b2;have Dl:l≠p:=λz=>b1.bU.ne (z▸n2.no);have nl:H l=none:=by cases e:H l with |none=>rfl |some o=>have:=b1.same _ _ Dl e;rw[n2.no]at this;cases this
  have Fe:=bO.t bg qU;erw[_,Z,_,Z,.inr #[ma,_,0,.ref mb,Z,Z,gE.t Fe,cx (df 0) Z,xa,mb,Z,#[_,DA.t Fe],#[_,jR.t Fe],?_]];erw[Vu (K:=K) (b1:=false) (b2:=false) (xs:=pl.map V.int) (ys:=rs.map V.int) rs.length (by simp[lp]) (λi O H3=>bO p H H3/\∃(is:List Int)(v1 v2 v3:Option V),H3 l=some (.lst (is.map V.int))/\is.length=i/\(∀(j:Nat)(z a r:Int),is[j]? =some z->pl[j]? =some a->rs[j]? =some r->0<=a+z/\a+z<=r/\(z.natAbs:Int)<=mo)/\O=[some (.ref p),some (.ref ma),some (.ref xa),some (.int mo),some (.int (1+sp)),some (.ref l),v1,v2,v3]) ?_ (λi O H3 _ h=>#[DA.t (bO.t bg h.1),jR.t (bO.t bg h.1)]) ?_ ?_]
  ·erw[qU,[],none,none,none,n2.at',Z,λj z a r e=>by simp at e,Z]
  ·rintro i x y O H3 ex ey ⟨b3,is,v1,v2,v3,dl,li,hz,rfl⟩ T H4 n4
   erw[iG ?_];intro E1;have b4:bO p H3 H4:=.fi b3.bU n4.same;have hx:∃a r,pl[i]? =some a/\rs[i]? =some r/\x= .int a/\y= .int r:=by rw[bP]at ex ey;cases e1:pl[i]? with |none=>rw[e1]at ex;cases ex |some u=>cases e2:rs[i]? with |none=>rw[e2]at ey;cases ey |some v=>rw[e1]at ex;rw[e2]at ey;erw[u,v,Z,Z,(eX ex).symm,(eX ey).symm]
   let(a,r,ea,er,rfl,rfl):=hx;let(a0,a1):=on.at' i a r ea er;let(r0,r1):=xl.rl r (fR er);erw[T,_,Z,aW.of n4.at',Z,_,_,Z,_,_,Z,Z,?_];erw[_,Z,_,Z,_,Z,_,Z,_,_,Z,?_];have lW:=n4.same _ _ dl;have a7i:∃low:Int,(if(-mo:Int)>-a then-mo else-a)=low/\low<=0/\-mo<=low/\-a<=low:=#[_,Z,by split<;>lia,by split<;>lia,by split<;>lia];let(low,abk,lo0,lo1,lo2):=a7i;rw[abk];have hhi:∃hi:Int,(if mo<r-a then mo else r-a)=hi/\0<=hi/\hi<=mo/\hi<=r-a:=#[_,Z,by split<;>lia,by split<;>lia,by split<;>lia];let(hi,DY,hi0,hi1,DL):=hhi;erw[_,Z,.inl #[Z,_,aF.of lW],?_];erw[_,Z,_,Z,_,Z,_,Z,_,_,Z,Z,_,Z,_,_,Z,?_];rw[DY];erw[_,Z,_,_,Z,Z,_,_,Z,Z,p,hi-low+1,Z,b4.bU,ao,ao,λd H5 d0 d1 b5=>?_];have LW:=b5.same _ _ Dl lW;erw[_,_,Z,Z,l,_,_,Z,Z,LW,?_,?_]
   ·rw[ba,li]
    have:(1000:Nat)<sizeLine:=by decide
    have:=(cJ.mp er).1
    lia
   have tR:=b3.trans (b4.trans b5);erw[?_,is++[low+d],_,_,_,?_,?_,?_,Z]
   ·erw[?_,λb o n e=>?_]
    ·let(c',m',e,ok):=tR.bU
     erw[c',m',by rw[aY Dl.symm];erw[e],ok]
    ·rw[aY (eJ e nl)];erw[tR.same b o n e]
   ·rw[cg,gJ];rfl
   ·rw[cD,li];rfl
   ·intro j z a' r' ej xS pC
    by_cases hj:j<is.length
    ·rw[oz hj]at ej
     erw[hz j z a' r' ej xS pC]
    ·have qE:j=is.length:=by
      have:=(cJ.mp ej).1;rw[cD]at this;have:j<is.length+1:=this
      lia
     rw[qE,ow (bf _),Bq]at ej;cases ej;rw[qE,li]at xS pC;rw[ea]at xS;rw[er]at pC;cases xS;cases pC
     lia
  ·rintro O H3 ⟨b3,is,v1,v2,v3,dl,li,hz,rfl⟩
   have l0:0<is.length:=by lia
   have lp0:0<pl.length:=by lia
   have lr0:0<rs.length:=by lia
   have ea:=bN lp0;have er:=bN lr0;have a3:=DA.t (bO.t bg b3);have m3:=gE.t (bO.t bg b3);have mb3:=jR.t (bO.t bg b3);erw[λO H4=>bO p H H4/\∃(is:List Int),H4 l=some (.lst (is.map V.int))/\fu rs.length 100 is/\ft rs (fZ pl is)/\O=[some (.ref p),some (.ref ma),some (.ref xa),some (.int mo),some (.int (1+sp)),some (.ref l),v1,v2,v3],?_,?_]
   ·erw[kE ?_];intro E2
    erw[_,Z,l,is,Z,.inl (aF.of dl),_,Z,?_];cases ha:is.any (· !=0)with
    |false=>
     erw[bR ?_];have z0:∀z∈is,z=0:=λz mE=>by have:=List.any_eq_false.mp ha z mE;simpa using this
     erw[_,Z,cy Z,λc H4 n4=>?_];have s4:=n4.same;erw[_,Z,.inr #[xa,_,0,.int pl[0],Z,Z,a3.go s4,cx (df 0) (by rw[bP];show Option.map _ pl[0]? =_;rw[ea];rfl),?_]];erw[_,Z,.inr #[ma,_,0,.ref mb,Z,Z,m3.go s4,cx (df 0) Z,?_]];erw[.inr #[mb,_,0,.int rs[0],Z,Z,mb3.go s4,cx (df 0) (by rw[bP];show Option.map _ rs[0]? =_;rw[er];rfl),?_]];erw[.inl #[_,_,Z,Z,.inr #[_,Z,?_]]];let(a0,a1):=on.at' 0 _ _ ea er;let(r0,r1):=xl.rl _ (fR er);have hy:∃y:Int,fc ([.int 1,.int (-1)]:List V) (if decide (pl[0]=rs[0])=true then 1 else 0)=some (.int y)/\y.natAbs=1/\0<=pl[0]+y/\pl[0]+y<=rs[0]:=by
      by_cases h:pl[0]=rs[0]
      ·rw[cu h];erw[-1,Z,Z,ao,ao]
      ·rw[dM h];erw[1,Z,Z,ao,ao]
     let(y,ey,y1,y2,y3):=hy;erw[.inl #[c,_,_,_,Z,Z,aF.of n4.at',ey,?_]];have lW:=s4 _ _ dl;erw[_,Z,l,_,0,0,Z,Z,lW,?_,?_]
     ·unfold jv;rw[bc (df 0),bc (by rw[ba];lia)];rfl
     have b4:bO p H3 H4:=.fi b3.bU s4;have WV:=b3.trans b4;have ls:(is.set 0 y).length=pl.length:=by rw[yx];lia
     erw[?_,is.set 0 y,?_,#[?_,?_,?_],#[?_,?_],Z]
     ·erw[?_,λb o n e=>?_]
      ·let(c',m',e,ok):=WV.bU
       erw[c',m',by rw[aY Dl.symm];erw[e],ok]
      ·rw[aY (eJ e nl)];erw[WV.same b o n e]
     ·rw[cg,ER]
     ·rw[yx];erw[li]
     ·intro z mE
      rcases List.mem_or_eq_of_mem_set mE with h|h
      ·rw[z0 z h];decide
      ·rw[h];lia
     ·erw[y,XG.mpr #[0,by rw[yx];lia,by rw[XM]],ao]
     ·rw[qV ls];erw[lp]
     ·intro j x r ej pC
      have hj:j<pl.length:=by have:=(cJ.mp ej).1;rw[qV ls]at this;erw[this]
      have AE:=AZ (bN hj) (bN (show j<(is.set 0 y).length by lia));rw[ej]at AE;have LM:=eX AE;by_cases h0:j=0
      ·subst h0
       rw[XM]at LM;rw[er]at pC;cases pC
       lia
      ·rw[List.getElem_set_ne (kI h0)]at LM
       have UH:=z0 _ (wq (show j<is.length by lia));have:=on.at' j _ r (bN hj) pC
       lia |true=>
     erw[aR ?_];have ls:is.length=pl.length:=by lia
     erw[b3,is,dl,#[li,λz mE=>?_,?_],#[?_,?_],Z]
     ·let(j,hj):=ou.mp mE
      have UX:=(cJ.mp hj).1;have:=hz j z _ _ hj (bN (show j<pl.length by lia)) (bN (show j<rs.length by lia))
      lia
     ·let(z,mE,h0):=yy.mp ha
      erw[z,mE,by simpa using h0]
     ·rw[qV ls];erw[lp]
     ·intro j x r ej pC
      have hj:j<pl.length:=by have:=(cJ.mp ej).1;rw[qV ls]at this;erw[this]
      have AE:=AZ (bN hj) (bN (show j<is.length by lia));rw[ej]at AE;have LM:=eX AE;have:=hz j _ _ r (bN (show j<is.length by lia)) (bN hj) pC
      lia
   rintro O H4 ⟨b4,is,dl,ok,on2,rfl⟩;erw[_,Z,l,_,Z,.inl #[aF.of dl,λq H5 n5=>?_]];erw[_,Z,cy Z,λt H6 n6=>?_];erw[k (.ref t) is (1+sp) H6 (fO (aW.of n6.at') (cE (bJ _) (cE (fO (aW.of (n6.same _ _ n5.at')) (pY is)) (cE (fP _) cX)))) ok on2 ao ao (b4.trans (.fi b4.bU (n5.same.trans n6.same)))]
end
end _a
set_option maxHeartbeats 2000000
namespace _a
open PySem PySem.Spec PyProof.Rows _L _b _l _C _P _W _R
open _O (topR cornO mnO betR atO ownF leadF ownL OkI OkIs Itm)
section
def uf(f:Int->Int->Int)(xs ys:List Int):List Int:=(xs.zip ys).map λp=>f p.1 p.2
theorem abP{b1 b2:Bool}{l1 l2 D:Addr}{xs ys:List Int}{te:TE}{Q:VK}{H H0:Hp}{n:Nat}(f:Int->Int->Int)(rest:_L.St)(p7:n=2)(h1:eW b1 K H l1 (xs.map V.int))(h2:eW b2 K H l2 (ys.map V.int))(nw:Nw H H0 D (.lst []))(hl:xs.length=ys.length)(hz:xs.length<=1000) (he:∀(u v:Int)(H2:Hp)(Q':VK),aH H H2->Q' (.int (f u v)) H2->te (some (.int u)::some (.int v)::rest) H2 Q')(hq:∀H',aH H H'->H' D=some (.lst ((uf f xs ys).map V.int))->Q (.ref D) H'): lZ (tW K b1 b2 l1 l2) (Au K n (vv (gu 0) (vv (gu 1) DR))) kK te Q D (none::none::rest) H0:=by erw[vL (K:=K) (ds:=(uf f xs ys).map PyData.int) rest p7 h1 h2 nw (by simp[uf]) (by simp[uf];lia) (mm _) ?_ λH' zs s' d' r'=>hq H' s' (by rw[<-r'.gh];erw[d'])];intro i x y d H7 Q' ex ey ed s7 hq;let(u,v,e1,e2,rfl,rfl):=zip2 hl.symm ex ey;let(m,em,rfl):=oS ed;unfold uf at em;rw[bP,(Bx (z:=(u,v))).mpr #[e1,e2]]at em;cases em;erw[he u v H7 Q' s7 (hq _ _ (aH.refl _) (fP _))]
theorem Ng:∀xs ys:List Int,uf (λa b=>a+b) xs ys=fZ xs ys |[],_=>by cases‹List Int›<;>rfl |_::_,[]=>rfl |x::xs,y::ys=>by show(x+y)::uf _ xs ys=(x+y)::fZ xs ys;rw[Ng xs ys]
inductive adp(K:aa)(vs:List V)(H:Hp)(Q:VK):Prop |mk (x:_)(iv:_)(pl:_)(d:_)(o:_)(h0:vs=[x,iv])(h1:RD K H x (da pl))(h2:RD K H iv d)(h3:itR d o)(h4:(∀ns sp,o=some (ns,sp)->ns.length=pl.length))(h5:pl.length<=3)(h6:∀v H',RD K H' v (da (fY pl o))->aH H H'->Q v H')
def Fz(K:aa):Sp:=λvs H Q _=>adp K vs H Q
theorem Pf:bo ["_law_here","_law_item_here"] ["_law_here","_law_item_here"] (aU G3):=bp aJ
theorem a2E(F:FA K mg "_law_there" G3)(B:bI mg):aA P w K mg aw "_law_there" 1 (Fz K):=by
 erw[F.has Pf (λvs H Q E h=>?_) (λ_ _ _ _ _ _=>dW λ_ _=>rfl) (λf aL A outer s H vs Q E hr h=>?_)]
 ·let(x,iv,pl,d,o,rfl,_):=h
  rfl
 ·let(x,iv,pl,d,o,rfl,rx,ri,it,hl,l3,k):=h
  have nd:=Pf.nd;erw[_,(aB (bL (cf (kR K Z hr.units) (px K (pv 1) aE) bW (bS _)) (aI (aQ (pv 0))) bQ) (aI (aQ (dh (x:="tuple") (kn K Z) Z (B.at "tuple") ir (ak (eU (N:=["_law_at","_law_step"]) (js:=[none,none]) rfl rfl rfl (oK K rfl false false rfl (B.at "zip") (ak (pv 0) (ak (px K (pv 1) aE) ay))) (λ_ _ _ _ _=>(eg K rfl (n:=2) rfl (bV (aV 0 (jQ az)) (bV (aV 1 (jQ az)) e9)))) (λ_ _ _ _ _=>dZ) (λ_ _ _ _ _=>(aP eu (pv 0) (pv 1)))) ay))))),?_];let(a,wd,ys,rfl,h1,ew,sw):=A2 ri it;erw[_,Z,.inr #[a,_,0,.str wd,Z,Z,h1,cx (df 0) Z,.inr #[_,_,bJ _,bJ _,sw,nA,_,Z,?_]]];rw[ew];cases o with |none=>erw[bR #[_,Z,k x H rx (aH.refl _)]] |some q=>let(ns,sp):=q;erw[aR ?_];have ed:=iQ it;subst ed;let(pa,rfl,hp):=Sh rx;let(a',b,e',ha,hb):=oW ri;cases e';erw[_,Z,_,Z,.inr #[a,_,1,.ref b,Z,Z,ha,Z,pa,b,Z,#[_,hp],#[_,hb],λD H1 n1=>?_]];erw[abP (b1:=false) (b2:=false) (λa b=>a+b) _ Z hp hb n1 (hl ns sp Z).symm ao (λu v H2 Q' s2 q=>#[_,Z,_,Z,_,_,Z,Z,q]) λH2 s2 d2=>?_];rw[Ng]at d2;erw[D,_,Z,.inl #[aF.of d2,λt H3 n3=>?_]];erw[k _ H3 (fO (aW.of n3.at') (pY (fZ pl ns))) (s2.trans n3.same)]
structure mR(n:Nat)(ds:List ah)(os:List Itm):Prop where
 len:ds.length=os.length
 it:∀(i:Nat)(d:ah)(o:Itm),ds[i]? =some d->os[i]? =some o->jC n d o
theorem mR.nil{n:Nat}:mR n [] []:=#[Z,λi d o e=>by simp at e]
theorem mR.snoc{n:Nat}{ds:List ah}{os:List Itm}{d:ah}{o:Itm}(h:mR n ds os)(i:jC n d o):mR n (ds++[d]) (os++[o]):=by
 erw[by rw[cD,cD,h.len];rfl,λj d' o' e1 e2=>?_];have hl:=h.len;rcases oH e1 with e1|⟨j1,rfl⟩
 ·rcases oH e2 with e2|⟨j2,rfl⟩
  ·erw[h.it j d' o' e1 e2]
  ·have:=(cJ.mp e1).1;omega
 ·rcases oH e2 with e2|⟨_,rfl⟩
  ·have:=(cJ.mp e2).1;omega
  ·erw[i]
theorem mR.row{n:Nat}{ds:List ah}{os:List Itm}(h:mR n ds os):cW n ds os:=#[h.len,λi d o e1 e2=>(h.it i d o e1 e2).it,λi ns sp e=>by have hl:=(cJ.mp e).1;exact(h.it i _ _ (bN (by rw[h.len];erw[hl])) e).ln ns sp Z]
theorem mR.rw{n:Nat}{ds:List ah}{os:List Itm}(h:mR n ds os):RowW ds os:=λi d e1 e2=>(h.it i d none e2 e1).ot rfl
theorem Mp{t:TS}{D:Ends}{O:_L.St}{H:Hp}(h:∀D':Ends,(∀O H,D.nx O H->D'.nx O H)->t D' O H):t D O H:=h D λ_ _ z=>z
theorem a6f{M:bC}{ms:List Int}{sp:Int}(Jx:fu M.rs.length 100 ms)(cP:1<=sp)(dX:sp<=20):jC M.rs.length (eK ms sp) (some (ms,sp)):=#[.inl #[ms,sp,Z,Z],λn' s' e=>by cases e;erw[Jx,cP,dX],λe=>by cases e]
theorem acB{pl:List Int}{os:List Itm}{o:Itm}{i:Nat}(h:i<=os.length):dj pl (os++[o]) i=dj pl os i:=by unfold dj;rw[afF h]
theorem WX{pl:List Int}{os:List Itm}{o:Itm}:dj pl (os++[o]) (os.length+1)=fY (dj pl os os.length) o:=by unfold dj;rw[u9 (by rw[cD];erw[bf _]),wu,pN];rfl
theorem a2u{rs pl:List Int}{os:List Itm}{o:Itm}(h:∀i,i<=os.length->ft rs (dj pl os i))(g:ft rs (fY (dj pl os os.length) o)):∀i,i<=(os++[o]).length->ft rs (dj pl (os++[o]) i):=λi hi=>by
 rw[cD]at hi;by_cases c:i<=os.length
 ·rw[acB c];erw[h i c]
 ·have:i=os.length+1:=by have:i<=os.length+1:=hi;omega
  rw[this,WX];erw[g]
def uZ:Itm->Nat |some (ns,_)=>aG ns |none=>0
def jc:List Itm->Nat |[]=>0 |o::os=>uZ o+jc os
theorem zZ:∀(a b:List Itm),jc (a++b)=jc a+jc b |[],b=>(Nat.zero_add _).symm |o::a,b=>by show uZ o+jc (a++b)=uZ o+jc a+jc b;rw[zZ a b,Nat.add_assoc]
structure Mu(M:bC)(pl:List Int)(ds:List ah)(os:List Itm):Prop where
 it:mR M.rs.length ds os
 ld:jc os<=120
 on:∀i,i<=os.length->ft M.rs (dj pl os i)
inductive adE(K:aa)(vs:List V)(H:Hp)(Q:VK):Prop |mk (p:_)(m:_)(x:_)(M:_)(pl:_)(h0:vs=[.ref p,m,x])(h1:gH H p)(h2:RD K H m (bC.D M))(h3:M.Ok)(h4:RD K H x (da pl))(h5:ft M.rs pl)(h6:∀v ds os H',RD K H' v (.tuple ds)->Mu M pl ds os->ds.length<=12->bO p H H'->Q v H')
def Oo(K:aa):Sp:=λvs H Q _=>adE K vs H Q
theorem Py:bo ["_law_bag_here","_law_machine_here","_law_place_here","_law_most","_law_many","_law_found","_law_left","_law_k","_law_plain","_law_item_here","_law_lead"] ["_law_bag_here","_law_machine_here","_law_place_here"] (aU Gj):=bp aJ
theorem a31(F:FA K mg "_law_row" Gj)(B:bI mg)(eO:aA P w K mg aw "_law_take" 1 mX)(a8U:aA P w K mg aw "_law_item" 3 (OG K))(a8T:aA P w K mg aw "_law_line_from" 2 (FL K))(L4:aA P w K mg aw "_law_there" 1 (Fz K)):aA P w K mg aw "_law_row" 4 (Oo K):=by
 erw[F.has Py (λvs H Q E h=>?_) (λ_ _ _ _ _ _=>iE λ_ _ _=>rfl) (λf aL A outer s H vs Q E hr h=>?_)]
 ·let(p,m,x,M,pl,rfl,_):=h
  rfl
 ·let(p,m,x,M,pl,rfl,bg,rm,aD,rx,on,k):=h
  have nd:=Py.nd;erw[_,(aB (pS 3 nd (px K (dw (ak aE (ak aE (ak aE ay)))) (pf eO hr (ak (pv 0) (ak aE ay))))) (aB (pS 4 nd (pf eO hr (ak (pv 0) (ak aE ay)))) (aB (pS 5 nd (dw ay)) (aB (pS 6 nd aE) (aB (iB gj Z (sj Z (B.at "range") (ak (pv 4) ay)) (aV 7 nd) (aB (pS 8 nd (jq (dU K Z hr.units) (pf eO hr (ak (pv 0) (ak aE ay))) aE (bS _))) (aB (pS 9 nd (pf a8U hr (ak (pv 0) (ak (fU K B (ak (px K (pv 1) aE) ay)) ay)))) (aB (j3 (bL (PW.pt (iL (cT (cw (pv 8))) (jL (cf (dU K Z hr.units) (px K (pv 9) aE) bW (bS _))))) (aI (pS 9 nd (pf a8T hr (ak (pv 0) (ak (pv 1) (ak (pv 2) (ak (pv 3) ay))))))) bQ)) (aB (j3 (pS 10 nd (me (cf (dU K Z hr.units) (px K (pv 9) aE) bW (bS _)) (fG (x:="max") (TH K Z Z) Z (B.at "max") MU (ak (eU (N:=["_law_step"]) (js:=[none]) rfl rfl rfl (j5 K rfl (px K (pv 9) aE)) (λ_ _ _ _ _=>(aV 0 (iO _))) (λ_ _ _ _ _=>dZ) (λ_ _ _ _ _=>(fG (x:="abs") vP rfl (B.at "abs") yt (ak (pv 0) ay)))) ay)) aE))) (aI (bL (cf zD (pv 10) (pv 6) (bS _)) (aB (gb (jr K Z (pv 5) (ak (pv 9) ay))) (aB (pS 2 nd (pf L4 hr (ak (pv 2) (ak (pv 9) ay)))) (aI (pS 6 nd (aP j9 (pv 6) (pv 10)))))) bQ))))))) (aI (aQ (dh (x:="tuple") (kn K Z) Z (B.at "tuple") ir (ak (pv 5) ay))))))))),?_];have lr:=aD.len;have jg:sizeLine=16777216:=by decide
  erw[cy Z,λc H1 n1=>?_];have b1:bO p H H1:=.fi bg n1.same;have cp:c≠p:=λz=>bg.ne (z▸n1.no);erw[_,Z,p,3,Z,b1.bU,az,az,λi H2 i0 i1 b2=>?_];obtain⟨mo,em,m1,m2⟩:∃m:Int,fc ([.int 3,.int 12,.int 40]:List V) i=some (.int m)/\1<=m/\m<=100:=by
   rcases(show i=0\/i=1\/i=2 by lia)with rfl|rfl|rfl
   ·erw[3,Z,az,az]
   ·erw[12,Z,az,az]
   ·erw[40,Z,az,az]
  erw[.inl #[c,_,_,_,Z,Z,aF.of (b2.same _ _ cp n1.at'),em,?_]];have qU:=b1.trans b2;erw[_,Z,p,13,Z,b2.bU,az,az,λmany H3 y0 y1 b3=>?_];have vR:=qU.trans b3;erw[cy Z,λD H4 n4=>?_];have pF:=vR.trans (.fi b3.bU n4.same);have Jj:pl.length<=3:=by rw[on.len];lia
  have Dp:D≠p:=λz=>vR.bU.ne (z▸n4.no);have nD:H D=none:=by cases e:H D with |none=>rfl |some o=>have:=vR.same _ _ (λz=>by rw[z]at e;erw[Dp z]) e;rw[n4.no]at this;cases this
  have Td:=kT M.rs M.r M.f M.j M.t;erw[_,Z,_,Z,ao,ao,?_];erw[xM (Pv:=λi O H4=>bO p H H4/\∃zs ds os xv,∃left:Int,∃v7 v8 v9 v10,H4 D=some (.lst zs)/\aK K H4 zs ds/\Mu M pl ds os/\left=120-(jc os:Int)/\ds.length<=i/\RD K H4 xv (da (dj pl os os.length))/\O=[some (.ref p),some m,some xv,some (.int mo),some (.int many),some (.ref D),some (.int left),v7,v8,v9,v10]) ?_ ?_ ?_]
  ·erw[pF,[],[],[],x,120,none,none,none,none,n4.at',cX,#[.nil,fE _,λi hi=>by have:i=0:=Nat.le_zero.mp hi;rw[this];erw[on]],Z,bf _,RD.t (bO.t bg pF) _ (gq _) rx,Z]
  ·rintro i O H5 hi5 ⟨b5,zs,ds,os,xv,left,v7,v8,v9,v10,dl,rz,fT,VS,hl,uD,rfl⟩
   erw[iG ?_];intro E1;have lz:=rz.length;have no:=fT.it.row.no;erw[_,Z,p,4,Z,b5.bU,az,az,λt1 H6 Fg Ff b6=>.inl #[_,_,Z,Z,?_]];have Ej:=b5.trans b6;have t6:=bO.t b5.bU b6;have rm6:=RD.t (bO.t bg Ej) _ Td rm;let(ma,mb,mys,hm,gE,jR):=TU rm6;erw[_,Z,_,Z,.inr #[ma,_,0,.ref mb,hm,Z,gE,cx (df 0) Z,mb,_,Z,.inr jR,?_]];rw[ba];erw[p,M.rs.length,Z,Ej.bU,ao,ao,λiv d o H7 ri it b7=>?_];have AU:=Ej.trans b7;have t7:=t6.trans (bO.t Ej.bU b7);have pD:=b7.same _ _ Dp (b6.same _ _ Dp dl);have uN:=fT.on os.length (bf _);erw[λO H8=>bO p H H8/\∃iv d o v8,O=[some (.ref p),some m,some xv,some (.int mo),some (.int many),some (.ref D),some (.int left),some (.int (0+(i:Int))),v8,some iv,v10]/\H8 D=some (.lst zs)/\aK K H8 zs ds/\RD K H8 xv (da (dj pl os os.length))/\RD K H8 iv d/\jC M.rs.length d o/\ft M.rs (fY (dj pl os os.length) o),?_,?_]
   ·erw[kE ?_];intro E2
    erw[Mp λD' hD=>?_];have line:∀(v8 iv:V),yP (Fd (FL K) (yO (wG 0) (yO (wG 1) (yO (wG 2) (yO (wG 3) uk))))) (gu 9) D' [some (.ref p),some m,some xv,some (.int mo),some (.int many),some (.ref D),some (.int left),some (.int (0+(i:Int))),some v8,some iv,v10] H7:=λv8 iv=>by erw[_,Z,_,Z,_,Z,_,Z,p,m,M.rs,M.r,M.f,M.j,M.t,xv,_,mo,Z,AU.bU,RD.t (bO.t bg AU) _ Td rm,aD,RD.t t7 _ (gq _) uD,uN,m1,m2,λiv' ns sp H8 rl Jx a2r cP dX b8=>hD _ _ ?_];have t8:=t7.trans (bO.t AU.bU b8);erw[AU.trans b8,iv',_,some (ns,sp),_,Z,b8.same _ _ Dp pD,aK.t t8 _ no rz,RD.t t8 _ (gq _) uD,rl,a6f Jx cP dX,a2r]
    let(wa,y,xs,rfl,A5,ew,z9):=A2 ri it.it;by_cases hb:t1=0
    ·erw[_,Z,_,Z,?_]
     rw[cu hb];erw[aR #[_,Z,.inr #[wa,_,0,.str y,Z,Z,A5,cx (df 0) Z,.inr #[_,_,bJ _,bJ _,z9,nA,_,Z,?_]]]];rw[ew];cases o with |some q=>erw[bR (line _ _)] |none=>erw[aR (hD _ _ #[AU,_,d,none,_,Z,pD,aK.t t7 _ no rz,RD.t t7 _ (gq _) uD,ri,it,uN])]
    ·erw[_,Z,_,Z,?_]
     rw[dM hb];erw[bR (line _ _)]
   rintro O H8 ⟨b8,iv,d,o,v8,rfl,lV,Rj,Ro,ri,it,gC⟩;erw[λO H9=>bO p H H9/\∃(lead:Int),lead=(uZ o:Int)/\O=[some (.ref p),some m,some xv,some (.int mo),some (.int many),some (.ref D),some (.int left),some (.int (0+(i:Int))),v8,some iv,some (.int lead)]/\H9 D=some (.lst zs)/\aK K H9 zs ds/\RD K H9 xv (da (dj pl os os.length))/\RD K H9 iv d,?_,?_]
   ·erw[kE ?_];intro E3
    erw[Mp λD' hD=>?_];let(wa,y,xs,rfl,A5,ew,z9):=A2 ri it.it;erw[_,Z,.inr #[wa,_,0,.str y,Z,Z,A5,cx (df 0) Z,.inr #[_,_,bJ _,bJ _,z9,nA,_,Z,?_]]];rw[ew];cases o with |none=>erw[aR (hD _ _ #[b8,0,Z,Z,lV,Rj,Ro,ri])] |some q=>
     let(ns,sp):=q;have ed:=iQ it.it;subst ed;have bZ:=(it.ln ns sp Z).1;have U9:=bZ.len;have cS:ns≠[]:=λz=>by rw[z]at U9;simp at U9;lia
     let(a',b,e',ha,hb):=oW ri;cases e';erw[bR #[_,Z,.inr #[wa,_,1,.ref b,Z,Z,ha,Z,b,Z,#[_,hb],λD1 H0 nw=>?_]]];erw[qS (K:=K) (xs:=ns.map V.int) (ds:=(ns.map oh).map PyData.int) [] hb nw (by simp) (by simp;lia) (mm _) ?_ ?_]
     ·intro i x d H2 Q' ex ed s2 hq
      let(m,em,rfl):=oS ed;rw[bP]at em;cases en:ns[i]? with |none=>rw[en]at em;cases em |some n=>rw[en]at em;cases em;cases D9 ex en;erw[_,Z,n,Z,hq _ _ (aH.refl _) (fP _)]
     ·intro H' ys s2 d2 r2
      rw[r2.gh]at d2;erw[D1,_,Z,aF.of d2,by simpa using cS,λmx h1 h2=>?_];rw[Uj cS h1 h2];erw[hD _ _ #[b8.trans (.fi b8.bU s2),_,Z,Z,s2 _ _ lV,aK.mono s2 _ Rj,RD.mono s2 _ Ro,RD.mono s2 _ ri]]
   rintro O H9 ⟨b9,lead,l0,rfl,qP,Ri,Rm,RO⟩;erw[_,Z,_,Z,_,_,Z,Z,_,Z,?_];have ll:=fT.it.len;erw[gd (λhc=>?_) (λhc=>?_)]
   ·erw[_,Z,.inl #[Z,_,aF.of qP],_,Z,D,zs,_,Z,Z,qP,ao,?_]
    have tu:fm H9 (_L.upd H9 D (.lst (zs++[iv]))):=.iX qP;have y6:bO p H (_L.upd H9 D (.lst (zs++[iv]))):=b9.putL Dp nD;erw[_,Z,_,Z,xv,iv,_,d,o,Z,RD.t tu _ (gq _) Rm,RD.t tu _ it.it.no RO,it.it,λns sp e=>?_,by rw[uN.len];lia,λv jj rv oJ=>?_]
    ·rw[(it.ln ns sp e).1.len,uN.len]
    erw[_,Z,_,Z,_,_,Z,Z,?_];erw[y6.trans (.fi y6.bU oJ),zs++[iv],ds++[d],os++[o],v,left-lead,_,_,_,_,oJ _ _ cg,aK.mono oJ _ (aK.wN qP Ri RO no it.it.no),#[fT.it.snoc it,?_,a2u fT.on gC],?_,?_,?_,Z]
    ·have jU:=m4 hc
     rw[zZ];show jc os+(uZ o+0)<=120
     lia
    ·rw[zZ]
     show left-lead=120-((jc os+(uZ o+0):Nat):Int)
     lia
    ·rw[cD];show ds.length+1<=i+1;lia
    ·rw[cD]
     show RD K jj v (da (dj pl (os++[o]) (os.length+1)));rw[WX];erw[rv]
   ·erw[b9,zs,ds,os,xv,left,_,_,_,_,qP,Ri,fT,VS,ao,Rm,Z]
  ·rintro O H5 ⟨b5,zs,ds,os,xv,left,v7,v8,v9,v10,dl,rz,fT,VS,hl,uD,rfl⟩
   erw[_,Z,D,_,Z,.inl #[aF.of dl,λt H6 n6=>?_]];erw[k (.ref t) ds os H6 (fO (aW.of n6.at') (aK.mono n6.same _ rz)) fT ao (b5.trans (.fi b5.bU n6.same))]
end
end _a
namespace _a
open PySem PySem.Spec PyProof.Rows _L _b _l _C _P _W _R
open _O (topR cornO mnO betR atO ownF leadF ownL OkI OkIs Itm)
open _T (numS)
section
theorem gH.but{H H':Hp}{p:Addr}{S':List Addr}(h:gH H p)(b:dI S' H H')(hp:p∉S'):gH H' p:=by let(c,m,e,k):=h;erw[c,m,b _ _ e hp,k]
theorem Dx{H:Hp}{x y C dx:Addr}{fs:List (Str×V)}{ys:List V}(h1:H x=some (.ins C dx fs))(h2:H y=some (.lst ys)):x≠y:=zS h1 h2 (by intro z;cases z)
theorem CV{x r q:Addr}(h1:x≠r)(h2:x≠q):x∉[r,q]:=λz=>by simp only[cO,iu,kH]at z;erw[z.elim h1 h2]
structure DW(K:aa)(C D:Addr)(H0:Hp)(M:bC)(p a r q0:Addr)(H:Hp)(q:Addr)(S:bu):Prop where
 bg:gH H p
 dk:rj K D H a r M
 x:cV K C H r q M S
 pq:p≠q
 hp:H0 p≠none
 hr:H0 r≠none
 fr:∀x o,H0 x=some o->x≠p->x≠r->x≠q0->H x=some o
 nq:q=q0\/H0 q=none
section
variable {H0:Hp}{M:bC}{p a r q0 q q':Addr}{H H':Hp}{S S':bu}
theorem DW.pr(h:DW K C D H0 M p a r q0 H q S):p≠r:=by let(c,m',ep,_):=h.bg;let(rx,mv,bv,cG,tv,er,_):=h.x.ob;exact(Dx er ep).symm
theorem DW.ad(h:DW K C D H0 M p a r q0 H q S):a≠r/\a≠q/\a≠p:=by let(dx,mv,ea,_):=h.dk;let(rx,mv',bv,cG,tv,er,_):=h.x.ob;let(ys,eq,_):=h.x.qu;let(c,m',ep,_):=h.bg;erw[zS ea er (by intro z;injection z with _ _ z;cases z),Dx ea eq,Dx ea ep]
theorem rj.v(dk:rj K D H a r M)(v:cR H H')(ea:∀o,H a=some o->H' a=some o):rj K D H' a r M:=by let(dx,mv,e,rm):=dk;erw[dx,mv,ea _ e,RD.v v _ (kT _ _ _ _ _) rm]
theorem DW.RW(h:DW K C D H0 M p a r q0 H q S):DW K C D H M p a r q H q S:=by let(rx,mv,bv,cG,tv,er,_):=h.x.ob;erw[h.bg,h.dk,h.x,h.pq,h.bg.ne,(λz=>by rw[er]at z;cases z),λ_ _ e _ _ _=>e,.inl rfl]
theorem DW.vb{Hz:Hp}{q1:Addr}{S0:bu}(b:DW K C D Hz M p a r q1 H0 q0 S0)(h:DW K C D H0 M p a r q0 H q S):cR H0 H:=λx o nc e=>by
 let(rx,mv,bv,cG,tv,er,_):=b.x.ob;let(ys,eq,_):=b.x.qu;let(c,m',ep,_):=b.bg;erw[h.fr x o e (λz=>?_) (λz=>?_) λz=>?_]
 ·rw[z,ep]at e;cases e;erw[nc trivial]
 ·rw[z,er]at e;cases e;erw[nc trivial]
 ·rw[z,eq]at e;cases e;erw[nc trivial]
theorem DW.same(h:DW K C D H0 M p a r q0 H q S)(n:cA S.ds=true)(s:aH H H'):DW K C D H0 M p a r q0 H' q S:=#[(bO.fi h.bg s).bU,h.dk.v s.v (λo e=>s _ _ e),h.x.same n s,h.pq,h.hp,h.hr,λx o e n1 n2 n3=>s _ _ (h.fr x o e n1 n2 n3),h.nq]
theorem DW.draw(h:DW K C D H0 M p a r q0 H q S)(n:cA S.ds=true)(b:bO p H H'):DW K C D H0 M p a r q0 H' q S:=by have v:=(bO.t h.bg b).v;erw[b.bU,h.dk.v v (λo e=>b.same _ _ h.ad.2.2 e),h.x.go n v (λo e=>b.same _ _ h.pr.symm e) (λo e=>b.same _ _ h.pq.symm e),h.pq,h.hp,h.hr,λx o e n1 n2 n3=>b.same _ _ n1 (h.fr x o e n1 n2 n3),h.nq]
theorem DW.put{l:Addr}{xs zs:List V}(h:DW K C D H0 M p a r q0 H q S)(n:cA S.ds=true)(hl:H0 l=none)(lp:l≠p)(lr:l≠r)(lq:l≠q)(e:H l=some (.lst xs)):DW K C D H0 M p a r q0 (_L.upd H l (.lst zs)) q S:=by
 have v:cR H (_L.upd H l (.lst zs)):=.upd e trivial;let(dx,mv,ea,_):=id h.dk;have al:a≠l:=Dx ea e;erw[?_,h.dk.v v (λo e=>by rw[aY al];erw[e]),h.x.go n v (λo e=>by rw[aY lr.symm];erw[e]) (λo e=>by rw[aY lq.symm];erw[e]),h.pq,h.hp,h.hr,λx o e n1 n2 n3=>?_,h.nq]
 ·let(c,m,e,k):=h.bg
  erw[c,m,by rw[aY lp.symm];erw[e],k]
 ·rw[aY (eJ e hl)];erw[h.fr x o e n1 n2 n3]
theorem DW.mv(h:DW K C D H0 M p a r q0 H q S)(mv:Mv r q H q' H')(R:cV K C H' r q' M S'):DW K C D H0 M p a r q0 H' q' S'/\cR H H':=by
 have v:=h.x.v mv.but;let(d1,d2,d3):=h.ad;have UO:∀x o,H0 x=some o->x≠p->x≠r->x≠q0->x≠q:=λx o e n1 n2 n3 z=>by
  rcases h.nq with e'|e'
  ·erw[n3 (by rw[z,e'])]
  ·rw[z,e']at e;cases e
 erw[#[gH.but h.bg mv.but (CV h.pr h.pq),h.dk.v v (λo e=>mv.but _ _ e (CV d1 d2)),R,λz=>?_,h.hp,h.hr,λx o e n1 n2 n3=>mv.but _ _ (h.fr x o e n1 n2 n3) (CV n2 (UO x o e n1 n2 n3)),?_],v]
 ·rcases mv.nq with e|e
  ·erw[h.pq (by rw[z,e])]
  ·erw[h.bg.ne (by rw[z];erw[e])]
 ·rcases mv.nq with e|e
  ·rw[e];erw[h.nq]
  ·by_cases z0:q'=q0
   ·erw[.inl z0]
   ·erw[.inr ?_]
    cases e0:H0 q' with |none=>rfl |some o=>
     by_cases z1:q'=p
     ·erw[absurd e (by rw[z1];erw[h.bg.ne])]
     ·by_cases z2:q'=r
      ·let(rx,mv,bv,cG,tv,er,_):=h.x.ob
       rw[z2,er]at e;cases e
      ·rw[h.fr _ _ e0 z1 z2 z0]at e;cases e
end
theorem RG.vw{M:bC}{D:Nat}{S:bu}{d:ah}{o:Itm}(g:RG M D S)(it:jC M.rs.length d o)(hl:S.ds.length<20)(gC:ft M.rs (fY (jV S) o)):RG M D (tH S d o):=#[g.ok.vw it hl,g.aD,g.sd.eq Z Z,g.on.vw gC,g.hD]
theorem NT:∀(g ns:List Int),ns.length=g.length->pT (fZ g ns) g=ns |[],[],_=>rfl |[],_::_,h=>by simp at h |_::_,[],h=>by simp at h |a::g,c::ns,h=>by show(a+c-a)::pT (fZ g ns) g=c::ns;rw[NT g ns (by simpa using h),show a+c-a=c by lia]
theorem YC{ns:List Int}(sp:Int)(h:ns≠[]):("to ":Str)++fj ns++" "++numS sp=toS ns sp:=by
 have hn:ns.map numS≠[]:=by simpa using h
 unfold toS;rw[xH _ _ _ (by simp),join_snoc _ _ _ hn,show("to ":Str)="to"++" " by decide+kernel];unfold fj;simp only[Xu]
def jh(S:bu)(ds:List ah)(os:List Itm)(i:Nat):bu:={S with ds:=ds.take i,os:=os.take i}
theorem Vz{S:bu}{ds:List ah}{os:List Itm}{i:Nat}{d:ah}{o:Itm}(h1:ds[i]? =some d)(h2:os[i]? =some o):tH (jh S ds os i) d o=jh S ds os (i+1):=by unfold tH jh;rw[lC,h1,lC,h2];rfl
def acX(K:aa)(C:Addr)(r q:Addr)(M:bC)(S:bu)(d:ah)(o:Itm)(z:Str):Prop:=∃c,z=kG.txt c/\∀H Q,vZ K C r q M S d o H Q->c.Ok K C r q M S H Q
inductive aen(K:aa)(C:Addr)(D:Addr)(vs:List V)(H:Hp)(Q:VK):Prop |mk (H0:_)(p:_)(a:_)(r:_)(q0:_)(x:_)(iv:_)(q:_)(M:_)(D':_)(S:_)(ds:_)(os:_)(h0:vs=[.ref p,.ref a,x,iv])(h1:DW K C D H0 M p a r q0 H q S)(h2:RG M D' S)(h3:S.ds=[])(h4:S.os=[])(h5:S.pl.length<=3)(h6:RD K H x (da S.pl))(h7:RD K H iv (.tuple ds))(h8:Mu M S.pl ds os)(h9:ds.length<=12)(vq:∀H',DW K C D H0 M p a r q0 H' q (jh S ds os ds.length)->RG M D' (jh S ds os ds.length)->Q (.str (CC M.r M.f M.j S.rate os)) H')
def OJ(K:aa)(C D:Addr):Sp:=λvs H Q _=>aen K C D vs H Q
theorem Qz:bo ["_law_bag_here","_law_desk","_law_place_here","_law_row_here","_law_item_here","_law_text","_law_squares"] ["_law_bag_here","_law_desk","_law_place_here","_law_row_here"] (aU HU):=bp aJ
theorem a3R(F:FA K mg "_law_fed" HU)(B:bI mg)(DC:pJ K D)(eO:aA P w K mg aw "_law_take" 1 mX)(L5:aA P w K mg aw "_law_item_text" 1 (yV K))(L4:aA P w K mg aw "_law_there" 1 (Fz K))(vo:cL P w K mg aw D "say" 14 (C9 K C D)):aA P w K mg aw "_law_fed" 15 (OJ K C D):=by
 erw[F.has Qz (λvs H Q E h=>?_) (λ_ _ _ _ _ _=>yb λ_ _ _ _=>rfl) (λf aL A outer s H vs Q E hr h=>?_)]
 ·let(H0,p,a,r,q0,x,iv,q,M,D',S,ds,os,rfl,_):=h
  rfl
 ·let(H0,p,a,r,q0,x,iv,q,M,D',S,ds,os,rfl,T,g,ed0,eo0,Jj,rx,ri,fT,hz,k):=h
  have nd:=Qz.nd;erw[_,(aB (iB gj Z (j5 K Z (pv 3)) (aV 4 nd) (aB (pS 5 nd (pf L5 hr (ak (pv 4) ay))) (aB (pS 2 nd (pf L4 hr (ak (pv 2) (ak (pv 4) ay)))) (aB (j3 (bL (PW.pt (si (cf (dU K Z hr.units) (px K (pv 4) aE) bW (bS _)) (xf (cf (dU K Z hr.units) (pf eO hr (ak (pv 0) (ak aE ay))) aE (bS _))))) (aI (pS 5 nd (aP ju (aP ju (aP ju bW (qg K Z bW (ak (eU (N:=["_law_at"]) (js:=[none]) Z Z Z (j5 K Z (pv 2)) (λ_ _ _ _ _=>(aV 0 (iO _))) (λ_ _ _ _ _=>dZ) (λ_ _ _ _ _=>(dh (x:="str") iT Z (B.at "str") iJ (ak (pv 0) ay)))) ay))) bW) (dh (x:="str") iT rfl (B.at "str") iJ (ak (px K (pv 4) aE) ay))))) bQ)) (aI (gb (kv vo DC.cl (hr.mono az) (pv 1) (ak (pv 5) ay)))))))) (aB (pS 6 nd (kv vo DC.cl (hr.mono az) (pv 1) (ak bW ay))) (aI (aQ (pv 6))))),?_];have aD:=g.aD;have lr:=aD.len;have no:=fT.it.row.no;have ll:=fT.it.len;have z0:jh S ds os 0=S:=by unfold jh;rw[wo,wo,<-ed0,<-eo0]
  let(ia,xs,rfl,hi,eM):=ri.cv;have lx:=eM.length;erw[_,Z,ia,Z,#[_,hi],Lj (K:=K) (a:=ia) (xs:=xs) (λi O H3=>cR H H3/\DW K C D H0 M p a r q0 H3 q (jh S ds os i)/\RG M D' (jh S ds os i)/\∃xv v4 v5,RD K H3 xv (da (dj S.pl os i))/\O=[some (.ref p),some (.ref a),some xv,some (.ref ia),v4,v5,none]) ?_ (λi O H3 _ h=>aW.v h.1 hi) ?_ ?_]
  ·rw[z0]
   erw[λ_ _ _ e=>e,T,g,x,none,none,rx,Z]
  ·rintro i y O H3 hy ⟨v3,T3,g3,xv,v4,v5,uD,rfl⟩
   erw[iG ?_];intro E1;have sW:i<xs.length:=(cJ.mp hy).1;let(d,ed,rd):=eM.get' i hy;obtain⟨o,eo⟩:∃o,os[i]? =some o:=#[_,bN (show i<os.length by lia)];have it:=fT.it.it i d o ed eo;have tx:=it.tx aD.n3.1 aD.n3.2;have zI:=fT.on (i+1) ao;have Jt:=fT.on i ao;have n3:=g3.ok.row.no;have pZ:=RD.v v3 _ tx.no rd;have KH:jV (jh S ds os i)=dj S.pl os i:=rfl;have Kb:(jh S ds os i).ds.length<20:=by show(ds.take i).length<20;rw[uc];lia
   erw[_,Z,y,d,Z,pZ,tx.ti,λH4 s4=>?_];have RQ:=RD.mono s4 _ pZ;erw[_,Z,_,Z,xv,y,_,d,o,Z,RD.mono s4 _ uD,RQ,it.it,λns sp e=>?_,by rw[Jt.len];lia,λv H5 rv s5=>?_]
   ·rw[(it.ln ns sp e).1.len,Jt.len]
   rw[<-y8 eo]at rv;have R9:=s4.trans s5;have T5:=T3.same n3 R9;have RP:=RD.mono s5 _ RQ;erw[λO H6=>∃z,O=[some (.ref p),some (.ref a),some v,some (.ref ia),some y,some (.str z),none]/\acX K C r q M (jh S ds os i) d o z/\bO p H5 H6,?_,?_]
   ·erw[kE ?_];intro E2
    erw[Mp λE' hE=>?_];let(wa,wd,ys,rfl,A5,ew,z9):=A2 RP it.it;erw[_,Z,.inr #[wa,_,0,.str wd,Z,Z,A5,cx (df 0) Z,.inr #[_,_,bJ _,bJ _,z9,nA,_,Z,?_]]];rw[ew];cases o with |none=>erw[aR (aR (hE _ _ #[_,Z,#[.item d none,Z,λ_ _ h=>h],.refl T5.bg]))] |some qq=>
     let(ns,sp):=qq;have dG:=iQ it.it;subst dG;let(bZ,s1,s2):=it.ln ns sp rfl;erw[bR #[_,Z,p,2,Z,T5.bg,az,az,λt1 H6 Fg Ff b6=>.inl #[_,_,Z,Z,_,Z,?_]]];erw[gd (λhc=>?_) (λhc=>hE _ _ #[_,Z,#[.item _ _,Z,λ_ _ h=>h],b6])];have t6:=(bO.t T5.bg b6);have gC:ft M.rs (fZ (dj S.pl os i) ns):=by have:=zI;rw[y8 eo]at this;erw[this]
     rw[y8 eo]at rv;change RD K H5 v (da (fZ (dj S.pl os i) ns))at rv;have nb:=zG gC aD.rl;have ln:=gC.len;have nm:∀n∈fZ (dj S.pl os i) ns,Nm n:=λn hn=>by have:=nb n hn;show n.natAbs<10^40;lia
     have sm:Nm sp:=by show sp.natAbs<10^40;lia
     have l1:=fV sm;have l2:=uQ nm ao;have l3:=cP;have jg:sizeLine=16777216:=by decide
     have l4:Str.length "to "=3:=by decide+kernel
     have rv6:=RD.t t6 _ (gq _) rv;have ri6:=RD.t t6 _ (K4 _ _) RP;let(av,xs',rfl,vn,Kl):=rv6.cv;rw[Kl.gh]at vn;erw[Z,?_];erw[_,Z,av,Z,#[_,vn],λD7 H7 n7=>?_];erw[qS (K:=K) (ds:=((fZ (dj S.pl os i) ns).map numS).map PyData.str) _ vn n7 (by simp) (by simp;lia) (oO _) ?_ ?_]
     ·intro i x d H2 Q' ex ed s2 hq
      rw[bP]at ex;let(n,en,rfl):=u7.mp ex;rw[bP,bP,en]at ed;cases ed;erw[_,Z,.inl #[n,Z,kz (nm n (fR en)),hq _ _ (aH.refl _) (bJ _)]]
     ·intro H8 zs s8 d8 r8
      rw[oE r8]at d8;let(ia',ib,e',hia,_):=oW (RD.mono s8 _ ri6);cases e';erw[" ",D7,(fZ (dj S.pl os i) ns).map numS,Z,Z,aF.of d8,λz hz=>?_,aJ,by rw[ba];lia,_,_,Z,Z,?_,_,_,Z,Z,?_,_,Z,.inr #[wa,_,2,.int sp,Z,Z,hia,Z,.inl #[sp,Z,kz sm,_,_,Z,Z,?_,hE _ _ #[_,Z,#[.to (fZ (dj S.pl os i) ns) sp,YC sp ?_,λH' Q' h=>#[gC,s1,s2,some (ns,sp),by rw[KH,NT _ _ (by rw[bZ.len,Jt.len])];erw[h]]],b6.trans (.fi b6.bU s8)]]]]
      ·let(n,hn,rfl):=cI.mp hz
       have:=fV (nm n hn)
       lia
      ·show Str.length "to "+(fj _).length<=_
       lia
      ·show Str.length ("to "++fj _)+Str.length " "<=_
       rw[dv]
       lia
      ·show Str.length ("to "++fj _++" ")+(numS sp).length<=_
       rw[dv,dv]
       lia
      ·intro e
       rw[e]at ln;simp at ln
       lia
   rintro O H6 ⟨z,rfl,⟨c,ez,cok⟩,b6⟩;subst ez;have T6:=T5.draw n3 b6;have v6:=R9.v.trans (bO.t T5.bg b6).v;let(dx,mv,ea,uF):=id T6.dk;erw[_,Z,a,dx,_,Z,ea,Z,_,Z,a,r,q,M,D',jh S ds os i,c,Z,T6.dk,T6.x,g3,cok _ _ #[it,?_,Kb,λH7 R7 b7=>?_]]
   ·rw[KH,<-y8 eo];erw[zI]
   ·have m7:=T6.mv #[b7,.inl Z] R7
    rw[Vz ed eo]at m7;have g7:=g3.vw it Kb (by rw[KH,<-y8 eo];erw[zI]);rw[Vz ed eo]at g7;erw[v3.trans (v6.trans m7.2),m7.1,g7,v,_,_,RD.v ((bO.t T5.bg b6).v.trans m7.2) _ (gq _) rv,Z]
  ·rintro O H3 ⟨v3,T3,g3,xv,v4,v5,uD,rfl⟩
   rw[lx]at T3 g3;let(dx,mv,ea,uF):=id T3.dk;erw[_,Z,a,dx,_,Z,ea,Z,a,r,q,M,D',jh S ds os ds.length,.wd .gc,Z,T3.dk,T3.x,g3,λH4 s4=>#[_,Z,?_]];have:=k H4 (T3.same g3.ok.row.no s4) g3;show Q (.str (CC M.r M.f M.j S.rate (os.take ds.length))) H4;rw[u9 ao];erw[this]
end
end _a
set_option maxHeartbeats 4000000
namespace _a
open PySem PySem.Spec PyProof.Rows _L _b _l _C _P _W _R
open _O (topR cornO mnO betR atO ownF leadF ownL OkI OkIs Itm)
open _T (numS numIn? Free)
section
theorem ny{c:Nat}{a b:Str}:c∈(a++b).cps.toList↔c∈a.cps.toList\/c∈b.cps.toList:=by rw[wk,wz,iy]
theorem a4o{c:Nat}{ns:List Int}(h:c≠45)(h1:c<48)(h2:c≠32):Free c (fj ns):=Lg (iR (by rw[show(" ":Str).cps.toList=[32] by decide+kernel];simp;erw[λe=>h2 e.symm])) _ λa ha=>by let(i,_,rfl):=cI.mp ha;erw[_T.kQ h h1]
theorem a9u{p q:Int}:Free 10 (hZ p q):=by
 unfold hZ;split
 ·erw[_T.kQ az az]
 ·erw[o4 (o4 (_T.kQ az az) (iR aJ)) (_T.kQ az az)]
def Bg(e:ah):Prop:=Free 10 (gw e)/\32∈(gw e).cps.toList
theorem One.ef{M:bC}{D:Nat}{S S1:bu}{e:ah}(g:RG M D S)(o:One M S e S1):Bg e:=by have ok:=g.ok;have aD:=g.aD;cases o with |@line ns sp eo nh=>have ez:gw (my M S ns sp)="step "++fj (g9 ns S.dn)++" "++numS (m8 M.t (mr M S ns sp))++" "++hZ (mr M S ns sp).num ((mr M S ns sp).den:Int):=AB _ _ _ _;unfold Bg;rw[ez];erw[o4 (o4 (o4 (o4 (o4 (iR aJ) (a4o az az az)) (iR aJ)) (_T.kQ az az)) (iR aJ)) a9u,?_];erw[ny.mpr (.inl (ny.mpr (.inl (ny.mpr (.inl (ny.mpr (.inl (ny.mpr (.inl aJ)))))))))] |@fH _ eo ed nh=>
 let(o,eC,it):=ok.item ed;rw[eo]at eC;cases eC;have tx:=ok.tx aD e (fR ed);have nl:∀ns sp,e≠eK ns sp:=λns sp ee=>by
  rcases it.it with⟨_,_,_,z⟩|⟨w,x,e2,hw,_⟩
  ·cases z
  ·rw[e2]at ee
   erw[yL (show oj w from hw) #[ns,sp,ee]]
 unfold Bg;rw[AD tx.ti nl];erw[tx.fr,?_];rcases tx.ti with⟨ns,sp,ee,_⟩|⟨w,i,ee,hw,_⟩|⟨w,z,ee,hw,_⟩
 ·exact(nl ns sp ee).elim
 ·subst ee
  erw[ny.mpr (.inl (ny.mpr (.inr aJ)))]
 ·subst ee
  erw[ny.mpr (.inl (ny.mpr (.inr aJ)))]
theorem RG.run{M:bC}{D:Nat}{S S1:bu}{es:List ah}(g:RG M D S)(r:Run M S es S1):RG M D S1:=#[r.ok g.ok g.aD,g.aD,r.sd g.ok g.aD g.sd,r.Ju g.ok g.aD g.on,g.hD]
theorem Run.ef{M:bC}{D:Nat}{S S1:bu}{es:List ah}(r:Run M S es S1):RG M D S->∀e∈es,Bg e:=by induction r with |nil=>erw[λ_ e he=>nomatch he] |cons o r ih=>
 intro g e he;rcases cO.mp he with rfl|he
 ·erw[o.ef g]
 ·erw[ih (g.run (.cons o (.nil _))) e he]
theorem ab9:qM []="none":=by decide+kernel
theorem ab8{es:List ah}(h:∀e∈es,Bg e)(cS:es≠[]):¬qM es="none"/\Txt.split (qM es) "\n"=es.map gw:=by
 have sp:32∈(Txt.join "\n" (es.map gw)).cps.toList:=by cases es with |nil=>exact(cS Z).elim |cons e es=>have h0:=(h e (.head _)).2;cases es with |nil=>erw[h0] |cons e2 es2=>rw[rA,xH _ _ _ (by simp)];erw[ny.mpr (.inl (ny.mpr (.inl h0)))]
 have e1:qM es=Txt.join "\n" (es.map gw):=by unfold qM ky;rw[bj];intro e;rw[e]at sp;revert sp;decide+kernel
 rw[e1];erw[λe=>?_,?_]
 ·rw[e]at sp
  revert sp;decide+kernel
 ·rw[a4K]
  erw[_T.C7 (by simpa using cS) λz hz=>?_];let(e,he,rfl):=cI.mp hz;exact(h e he).1
theorem Zw(n:Int):("steps ":Str)++numS n=kG.txt (.steps n):=by show _="steps"++" "++numS n;rw[show("steps ":Str)="steps"++" " by decide+kernel]
theorem a5W{os:List Itm}{i:Nat}{o:Itm}(h:os[i]? =some o):jc (os.take (i+1))=jc (os.take i)+uZ o:=by rw[lC,h,zZ];rfl
theorem Uo(os:List Itm)(i:Nat):jc (os.take i)<=jc os:=by have:=zZ (os.take i) (os.drop i);rw[List.take_append_drop]at this;omega
theorem C0{r f j ti rate:Int}{ds:List ah}{os:List Itm}(hl:ds.length=os.length):∀i,i<=os.length->(fA r f j ti rate ds os i).length<=jc (os.take i)+i
 |0,_=>fE _ |i+1,hi=>by
  have ih:=C0 (r:=r) (f:=f) (j:=j) (ti:=ti) (rate:=rate) hl i aO;obtain⟨o,eo⟩:∃o,os[i]? =some o:=#[_,bN (show i<os.length by omega)];obtain⟨d,ed⟩:∃d,ds[i]? =some d:=#[_,bN (show i<ds.length by omega)];have h:(fA r f j ti rate ds os (i+1)).length=(fA r f j ti rate ds os i).length+(fQ r f j ti rate ds os i).length:=by show(fA r f j ti rate ds os i++fQ r f j ti rate ds os i).length=_;rw[cD]
  rw[h,a5W eo];cases o with |none=>rw[xP eo ed];show _+1<=_;omega |some q=>
   let(ns,sp):=q;have:(fQ r f j ti rate ds os i).length=aG ns:=by rw[tL eo,jb,ba,iz]
   rw[this];show _<=_+aG ns+(i+1);omega
theorem Yn{M:bC}{rate:Int}{ds:List ah}{os:List Itm}(hl:ds.length=os.length)(l12:ds.length<=12)(ld:jc os<=120){i k:Nat}(hi:i<=os.length):(upTo M rate ds os i k).length<=133:=by
 unfold upTo;rw[cD];have h4:=List.length_take_le' k (fQ M.r M.f M.j M.t rate ds os i);rcases MY i os.length with c|c
 ·have h2:=C0 (r:=M.r) (f:=M.f) (j:=M.j) (ti:=M.t) (rate:=rate) hl (i+1) aO
  have h3:(fA M.r M.f M.j M.t rate ds os (i+1)).length=(fA M.r M.f M.j M.t rate ds os i).length+(fQ M.r M.f M.j M.t rate ds os i).length:=by show(fA M.r M.f M.j M.t rate ds os i++fQ M.r M.f M.j M.t rate ds os i).length=_;rw[cD]
  have:=Uo os (i+1);omega
 ·have h2:=C0 (r:=M.r) (f:=M.f) (j:=M.j) (ti:=M.t) (rate:=rate) hl i hi
  have h5:(fQ M.r M.f M.j M.t rate ds os i).length=1:=by unfold fQ;rw[rC c];rfl
  have:=Uo os i;omega
inductive aeF(K:aa)(C:Addr)(D:Addr)(vs:List V)(H:Hp)(Q:VK):Prop |mk (H0:_)(p:_)(a:_)(r:_)(q0:_)(q:_)(M:_)(D':_)(S:_)(pl:_)(ds:_)(os:_)(h0:vs=[.ref p,.ref a])(h1:DW K C D H0 M p a r q0 H q S)(h2:RG M D' S)(h3:Inv1 M S.rate pl ds os 0 0 S)(h4:cW M.rs.length ds os)(h5:ds.length<=12)(h6:jc os<=120)(h7:∀l q' S' H',H l=none->H' l=some (.lst (((fA M.r M.f M.j M.t S.rate ds os os.length).map gw).map V.str))->DW K C D H M p a r q H' q' S'->RG M D' S'->Inv1 M S.rate pl ds os os.length 0 S'->Run M S (fA M.r M.f M.j M.t S.rate ds os os.length) S'->cR H H'->Q (.ref l) H')
def OU(K:aa)(C D:Addr):Sp:=λvs H Q _=>aeF K C D vs H Q
theorem QN:bo ["_law_bag_here","_law_desk","_law_found","_law_turn","_law_told"] ["_law_bag_here","_law_desk"] (aU Ip):=bp aJ
theorem a4d(F:FA K mg "_law_all_told" Ip)(B:bI mg)(DC:pJ K D)(eO:aA P w K mg aw "_law_take" 1 mX)(vo:cL P w K mg aw D "say" 14 (C9 K C D)):aA P w K mg aw "_law_all_told" 15 (OU K C D):=by
 erw[F.has QN (λvs H Q E h=>?_) (λ_ _ _ _ _ _=>dW λ_ _=>rfl) (λf aL A outer s H vs Q E hr h=>?_)]
 ·let(H0,p,a,r,q0,q,M,D',S,pl,ds,os,rfl,_):=h
  rfl
 ·let(H0,p,a,r,q0,q,M,D',S,pl,ds,os,rfl,T0,g,inv,row,l12,ld,k):=h
  have nd:=QN.nd;have T:=T0.RW;have jg:sizeLine=16777216:=by decide
  erw[_,(aB (pS 2 nd (dw ay)) (aB (iB gj Z (sj Z (B.at "range") (ak aE ay)) (aV 3 nd) (aB (pS 4 nd (kv vo DC.cl (hr.mono az) (pv 1) (ak (aP ju bW (dh (x:="str") iT Z (B.at "str") iJ (ak (px K (dw (ak (aP eu aE (pf eO hr (ak (pv 0) (ak aE ay)))) (ak (aP eu aE (pf eO hr (ak (pv 0) (ak aE ay)))) ay))) (pf eO hr (ak (pv 0) (ak aE ay)))) ay))) ay))) (aB (bL (cf xj (pv 4) bW (bS _)) (aI (aQ (pv 2))) bQ) (aI (gb (zx K Z (pv 2) (ak (Jm K Z (pv 4) (ak bW ay)) ay))))))) (aI (aQ (pv 2))))),?_];erw[cy Z,λl H1 n1=>?_];have T1:=T.same g.ok.row.no n1.same;have lq:l≠q:=λz=>by let(ys,eq,_):=T0.x.qu;rw[<-z,n1.no]at eq;cases eq
  have lp:l≠p:=λz=>T0.bg.ne (z▸n1.no);have lr:l≠r:=λz=>by let(rx,mv,bv,cG,tv,er,_):=T0.x.ob;rw[<-z,n1.no]at er;cases er
  have fin:∀{es:List ah}{S3:bu}{q3:Addr}{H3:Hp},Run M S es S3->S3.os=[]->DW K C D H M p a r q H3 q3 S3->RG M D' S3->cR H H3->H3 l=some (.lst ((es.map gw).map V.str))->Q (.ref l) H3:=λ{es S3 q3 H3} run kU T3 g3 v3 dl=>by let(i,kk,A3,e3):=Rr (D:=D') g.aD row run inv;let(hi,hk,e4):=a6m A3 kU;subst hi hk;have e0:upTo M S.rate ds os 0 0=[]:=rfl;rw[e0,List.nil_append,e4]at e3;subst e3;erw[k l q3 S3 H3 n1.no dl T3 g3 A3 run v3]
  have Dm:∀{es:List ah}{S3:bu},Run M S es S3->es.length<=133/\S3.bG=none:=λ{es S3} run=>by let(i,kk,A3,e3):=Rr (D:=D') g.aD row run inv;have e0:upTo M S.rate ds os 0 0=[]:=rfl;rw[e0,List.nil_append]at e3;rw[<-e3];erw[Yn row.len l12 ld A3.il,A3.DU]
  erw[300,Z,az,az,xM (Pv:=λi O H3=>∃es S3 q3 v3 v4,O=[some (.ref p),some (.ref a),some (.ref l),v3,v4]/\DW K C D H M p a r q H3 q3 S3/\RG M D' S3/\Run M S es S3/\H3 l=some (.lst ((es.map gw).map V.str))/\l≠q3/\i<=es.length/\cR H H3) ?_ ?_ ?_]
  ·erw[[],S,q,none,none,Z,T1,g,.nil _,n1.at',lq,bf _,n1.same.v]
  ·rintro i O H3 hi ⟨es,S3,q3,v3,v4,rfl,T3,g3,run,dl,K0,mI,v⟩
   erw[iG ?_];intro E1;let(agd,afN):=Dm run;have no3:=g3.ok.row.no;let(dx,mv,ea,uF):=id T3.dk;erw[_,Z,a,dx,_,Z,ea,Z,?_];erw[_,Z,p,100,Z,T3.bg,az,az,λt1 H4 Fg Ff b4=>#[_,_,Z,Z,?_]];erw[_,Z,p,5,Z,b4.bU,az,az,λt2 H5 t20 t21 b5=>#[_,_,Z,Z,?_]];erw[cy Z,λc H6 n6=>?_];have WU:=(b4.trans b5).trans (.fi b5.bU n6.same);have cp:c≠p:=λz=>(b4.trans b5).bU.ne (z▸n6.no);erw[_,Z,p,2,Z,WU.bU,az,az,λix H7 i0 i1 b7=>?_];have Me:=WU.trans b7;obtain⟨n,en,hn1,p7⟩:∃n:Int,fc [V.int (1+t1),V.int (1+t2)] ix=some (.int n)/\1<=n/\n<=100:=by
    rcases(show ix=0\/ix=1 by omega)with rfl|rfl
    ·erw[_,Z,aO,aO]
    ·erw[_,Z,aO,aO]
   have nm:Nm n:=by show n.natAbs<10^40;omega
   have e6:Str.length "steps "=6:=by decide+kernel
   have a4M:=fV nm;have T7:=T3.draw no3 Me;have pD:=Me.same _ _ lp dl;have v7:=v.trans (bO.t T3.bg Me).v;erw[.inl #[c,_,_,_,Z,Z,aF.of (b7.same _ _ cp n6.at'),en,.inl #[n,Z,kz nm,_,_,Z,Z,by show Str.length "steps "+(numS n).length<=_;omega,?_]]];erw[a,r,q3,M,D',S3,.steps n,lA (λz=>[V.ref a,V.str z]) (Zw n),T7.dk,T7.x,g3,aO,p7,λjA S' q' H8 run' he nQ R8 JP=>?_];have ef:=run'.ef g3;have g8:=g3.run run';have T8:=T7.mv JP R8;have r8:=run.trans run';have lV:=JP.but _ _ pD (CV lr K0);have TZ:l≠q':=λz=>by
    rcases JP.nq with e|e
    ·erw[K0 (by rw[z,e])]
    ·rw[<-z,pD]at e;cases e
   have v8:=v7.trans T8.2;erw[_,Z,Z,_,Z,?_];by_cases cS:jA=[]
   ·subst cS
    rw[ab9,cu rfl];have Zt:=(Dm r8).2;have kU:S'.os=[]:=by
     rcases nQ with z|z|z
     ·simp at z;omega
     ·erw[z]
     ·erw[absurd Zt z.1]
    rw[oA]at r8;erw[bR #[_,Z,fin r8 kU T8.1 g8 v8 lV]]
   ·let(x1,x2):=ab8 ef cS
    rw[dM (λz=>x1 (by injection z))];have te:=run'.yM g3.ok g3.aD g3.hD;have hj:=Ds "\n" (B:=2000) (jA.map gw) (λz hz=>by let(d,hd,rfl):=cI.mp hz;erw[LI (te d hd)]);have xy:Str.length "\n"=1:=by decide+kernel
    rw[xy,ba]at hj;have qE:jA.length*(2000+1)<=100*2001:=MX _ aO;have hl:(qM jA).length<=300000:=by
     unfold qM ky;split
     ·have:Str.length "none"=4:=by decide+kernel
      omega
     ·omega
    have l8:=(Dm r8).1;erw[aR #[_,Z,.inl #[Z,_,aF.of lV],_,Z,Z,_,"\n",Z,Z,aJ,aO,λl2 H9 n9=>?_]];rw[x2]at n9;have qP:=n9.same _ _ lV;have ne9:l2≠l:=λz=>by have:=n9.no;rw[z,lV]at this;cases this
    have le:((es++jA).map gw).length<=133:=by rw[ba];erw[l8]
    erw[l,l2,_,_,Z,Z,qP,n9.at',by rw[ba,ba,ba,ba];rw[ba,cD]at le;omega,?_];have T9:=T8.1.same g8.ok.row.no n9.same;erw[es++jA,S',q',_,_,Z,T9.put g8.ok.row.no n1.no lp lr TZ qP,g8,r8,?_,TZ,?_,v8.trans (n9.same.v.trans (.upd qP trivial))]
    ·rw[cg,gJ,gJ]
    ·rw[cD]
     have:0<jA.length:=Bu.mpr cS;omega
  ·rintro O H3 ⟨es,S3,q3,v3,v4,rfl,T3,g3,run,dl,K0,mI,v⟩
   have:=(Dm run).1;have agE:300<=es.length:=mI;omega
end
end _a
set_option maxHeartbeats 2000000
namespace _a
open PySem PySem.Spec PyProof.Rows _L _b _l _C _P _W _R
open _O (topR cornO mnO betR atO ownF leadF ownL OkI OkIs)
section
def IH(zs:List Int):ah:=.tuple (zs.map PyData.int)
def fC(os:List Itm)(i:Nat):List ah:=match os[i]? with |some (some (ns,_))=>(List.range (aG ns)).map λk=>.tuple [.int i,IH (g9 ns k)] |_=>[.tuple [.int i,.none]]
def dH(os:List Itm):Nat->List ah |0=>[] |i+1=>dH os i++fC os i
theorem qO{os:List Itm}{i:Nat}{ns:List Int}{sp:Int}(h:os[i]? =some (some (ns,sp))):fC os i=(List.range (aG ns)).map λk=>.tuple [.int i,IH (g9 ns k)]:=by unfold fC;rw[h]
theorem vI{os:List Itm}{i:Nat}(h:os[i]? =some none):fC os i=[.tuple [.int i,.none]]:=by unfold fC;rw[h]
theorem E6{n:Nat}{rate:Int}{ds:List ah}{os:List Itm}(row:cW n ds os):∀i,i<=os.length->(dH os i).length=(ij rate ds os i).length |0,_=>rfl |i+1,h=>by have ll:=row.len;show(dH os i++fC os i).length=(ij rate ds os i++jX rate ds os i).length;rw[cD,cD,E6 row i ao];obtain⟨o,eo⟩:∃o,os[i]? =some o:=#[_,bN (show i<os.length by lia)];cases o with |none=>obtain⟨d',ed⟩:∃d',ds[i]? =some d':=#[_,bN (show i<ds.length by lia)];rw[AH eo ed,vI eo];rfl |some q=>let(ns,sp):=q;rw[vF eo,qO eo,ba,ba]
theorem W4{n:Nat}{ds:List ah}{os:List Itm}(row:cW n ds os){i:Nat}(hi:i<os.length):1<=(fC os i).length:=by obtain⟨o,eo⟩:∃o,os[i]? =some o:=#[_,bN hi];cases o with |none=>rw[vI eo];erw[bf _] |some q=>let(ns,sp):=q;let(bZ,_,_):=row.ok i ns sp eo;have:=bZ.lead;rw[qO eo,ba,iz];lia
theorem E7(os:List Itm){i k:Nat}(h:i<=k):(dH os i).length<=(dH os k).length:=by induction h with |refl=>erw[bf _] |step _ ih=>erw[iK ih ?_];show _<=(dH os _++fC os _).length;rw[cD];lia
theorem VY{n0:Nat}{j rate:Int}{ds:List ah}{os:List Itm}(row:cW n0 ds os):∀n,n<=os.length->∀k,k<(dH os n).length->∃i c,i<n/\k=(dH os i).length+c/\c<(fC os i).length/\(dH os n)[k]? =(fC os i)[c]? /\(ij rate ds os n)[k]? =(jX rate ds os i)[c]? /\(kZ j rate os n)[k]? =(lY j rate os i)[c]?
 |0,_,k,h=>by simp[dH]at h |n+1,hn,k,h=>by
  have l1:=E6 (rate:=rate) row n ao;have l2:=qT (j:=j) (rate:=rate) row n ao;by_cases hk:k<(dH os n).length
  ·let(i,c,a1,a2,a3,a4,a5,a6):=VY (j:=j) (rate:=rate) row n ao k hk
   erw[i,c,ao,a2,a3,?_,?_,?_]
   ·rw[<-a4];erw[oz hk]
   ·rw[<-a5];erw[oz ao]
   ·rw[<-a6];erw[oz ao]
  ·have h':k<(dH os n++fC os n).length:=h
   rw[cD]at h';erw[n,k-(dH os n).length,ao,ao,ao,?_,?_,?_]
   ·erw[ow ao]
   ·rw[l1];erw[ow ao]
   ·rw[l1,<-l2];erw[ow ao]
structure At(j rate:Int)(ds:List ah)(os:List Itm)(k i c:Nat):Prop where
 hi:i<os.length
 ek:k=(dH os i).length+c
 hc:c<(fC os i).length
 dl:(dH os os.length)[k]? =(fC os i)[c]?
 du:(ij rate ds os os.length)[k]? =(jX rate ds os i)[c]?
 bd:(oa j rate os)[k]? =(lY j rate os i)[c]?
theorem Mi{n0:Nat}{j rate:Int}{ds:List ah}{os:List Itm}(row:cW n0 ds os){k:Nat}(h:k<(dH os os.length).length):∃i c,At j rate ds os k i c:=by let(i,c,a1,a2,a3,a4,a5,a6):=VY (j:=j) (rate:=rate) row _ (bf _) k h;erw[i,c,a1,a2,a3,a4,a5,?_];rw[<-a6];erw[oz ?_];rw[qT (ds:=ds) row _ (bf _),<-E6 row _ (bf _)];erw[h]
theorem At.prev{n0:Nat}{j rate:Int}{ds:List ah}{os:List Itm}(row:cW n0 ds os){k i c i' c':Nat}(h:At j rate ds os (k+1) i c)(g:At j rate ds os k i' c'):(i'=i/\0<c)\/(i'+1=i/\c=0):=by
 have e1:=h.ek;have e2:=g.ek;have b1:=h.hc;have b2:=g.hc;have step:∀x,(dH os (x+1)).length=(dH os x).length+(fC os x).length:=λx=>by show(dH os x++fC os x).length=_;rw[cD]
 rcases Nat.lt_trichotomy i' i with cB|heq|hgt
 ·by_cases hs:i'+1=i
  ·subst hs
   rw[step]at e1;erw[.inr #[Z,ao]]
  ·have m1:=E7 os (show i'+2<=i by lia)
   have s1:=step i';have s2:=step (i'+1);have ne:=W4 row (show i'+1<os.length by have:=h.hi;lia);rw[show i'+2=i'+1+1 from Z,s2,s1]at m1
   lia
 ·subst heq
  erw[.inl #[Z,ao]]
 ·have m1:=E7 os (show i+1<=i' by lia)
  rw[step]at m1
  lia
theorem Jo(j rate:Int)(os:List Itm):ownF j rate os os.length=0:=by cases h:os.length with |zero=>rfl |succ n=>show betR j rate (atO os n) (atO os (n+1))=0;rw[_O.WY (i:=n+1) ao,_O.vQ]
theorem WO{j rate:Int}{os:List Itm}{i:Nat}(hi:i<os.length):(lY j rate os i)[0]? =some (ownF j rate os i):=by obtain⟨o,eo⟩:∃o,os[i]? =some o:=#[_,bN hi];cases o with |none=>rw[Ei eo];rfl |some q=>let(ns,sp):=q;rw[AS eo];rfl
theorem acu{j rate:Int}{os:List Itm}{i c:Nat}{ns:List Int}{sp:Int}(eo:os[i]? =some (some (ns,sp)))(h0:0<c)(hc:c<aG ns):(lY j rate os i)[c]? =some (topR rate sp):=by rw[AS eo];obtain⟨c',rfl⟩:∃c',c=c'+1:=#[c-1,ao];rw[List.getElem?_cons_succ,List.getElem?_replicate,bc ao]
theorem JU{r f:Int}{b x:Rat}{e g:Option Rat}(x0:0<=x)(xb:x<=b)(he:∀q,e=some q->q<=x+(f:Rat)/\x<=q+(r:Rat))(hg:∀q,g=some q->q<=x+(r:Rat)/\x<=q+(f:Rat)):D6 r f b e g=true:=by
 have sub:∀{a c:Rat}{z:Int},a<=c+(z:Rat)->a+((-z:Int):Rat)<=c:=λ{a c z} h=>by have:=Rat.add_le_add_right (c:=((-z:Int):Rat))|>.mpr h;rw[Rat.add_assoc,<-Bm,Int.add_right_neg]at this;have z0:c+((0:Int):Rat)=c:=Bn _;rw[z0]at this;erw[this]
 unfold D6;rw[Bool.not_eq_true',EY];intro h;let(l,hl,h):=yy.mp h;let(u,hu,h):=yy.mp h;have h:=m4 h;have l1:l<=x:=by
  rcases iy.mp hl with hl|hl
  ·rcases cO.mp hl with rfl|hl
   ·erw[x0]
   ·let(q,hq,rfl):=cI.mp hl
    erw[sub (he q (MW.mp hq)).1]
  ·let(q,hq,rfl):=cI.mp hl
   erw[sub (hg q (MW.mp hq)).1]
 have u1:x<=u:=by
  rcases iy.mp hu with hu|hu
  ·rcases cO.mp hu with rfl|hu
   ·erw[xb]
   ·let(q,hq,rfl):=cI.mp hu
    exact(he q (MW.mp hq)).2
  ·let(q,hq,rfl):=cI.mp hu
   exact(hg q (MW.mp hq)).2
 erw[EI.mpr (cM l1 u1) h]
theorem acv{n0:Nat}{j rate:Int}{ds:List ah}{os:List Itm}(row:cW n0 ds os):(oa j rate os)[(ij rate ds os os.length).length]? =some 0:=by unfold oa;rw[ow (by rw[qT (ds:=ds) row _ (bf _)];erw[bf _]),qT (ds:=ds) row _ (bf _),Bq,Jo];rfl
theorem At.kind{n0:Nat}{j rate:Int}{ds:List ah}{os:List Itm}(row:cW n0 ds os){k i c:Nat}(a:At j rate ds os k i c): (os[i]? =some none/\c=0/\(dH os os.length)[k]? =some (.tuple [.int i,.none])/\∃d,ds[i]? =some d/\itR d none/\(ij rate ds os os.length)[k]? =some d)\/ ∃ns sp,os[i]? =some (some (ns,sp))/\c<aG ns/\(dH os os.length)[k]? =some (.tuple [.int i,IH (g9 ns c)])/\(ij rate ds os os.length)[k]? =some (vG (g9 ns c) (topR rate sp)):=by have ll:=row.len;obtain⟨o,eo⟩:∃o,os[i]? =some o:=#[_,bN a.hi];have hc:=a.hc;cases o with
 |none=>
  obtain⟨d',ed⟩:∃d',ds[i]? =some d':=#[_,bN (show i<ds.length by have:=a.hi;lia)];rw[vI eo]at hc;have h0:c=0:=by simpa using hc
  subst h0;have e1:=a.dl;rw[vI eo]at e1;have e2:=a.du;rw[AH eo ed]at e2;erw[.inl #[eo,Z,e1,d',ed,row.it i d' none ed eo,e2]] |some p=>let(ns,sp):=p;rw[qO eo,ba,iz]at hc;have e1:=a.dl;rw[qO eo,bP,mS hc]at e1;have e2:=a.du;rw[vF eo,bP,mS hc]at e2;erw[.inr #[ns,sp,eo,hc,e1,e2]]
theorem a5P(r f ti:Int)(ns:List Int)(top b e:Rat):(jb r f ti ns top b e).length=aG ns:=by rw[jb,ba,iz]
theorem a5Q{r f ti:Int}{ns:List Int}{top b e:Rat}{k:Nat}(h:k<aG ns):(jb r f ti ns top b e)[k]? =some (mV ti (g9 ns k) (gP r f (aG ns) top b e k)):=by rw[jb,bP,mS h];rfl
def vO{α:Type}(I:Nat->List α):Nat->List α |0=>[] |i+1=>vO I i++I i
theorem AQ{α:Type}{I:Nat->List α}{os:List Itm}(hl:∀i,i<os.length->(I i).length=(fC os i).length):∀n,n<=os.length->(vO I n).length=(dH os n).length |0,_=>rfl |n+1,hn=>by show(vO I n++I n).length=(dH os n++fC os n).length;rw[cD,cD,AQ hl n ao,hl n ao]
theorem M7{α:Type}{I:Nat->List α}{os:List Itm}(hl:∀i,i<os.length->(I i).length=(fC os i).length){i c:Nat}(hc:c<(fC os i).length):∀n,i<n->n<=os.length->(vO I n)[(dH os i).length+c]? =(I i)[c]?
 |0,h,_=>by lia |n+1,h,hn=>by
  show(vO I n++I n)[_]? =_;have l:=AQ hl n ao;by_cases e:i=n
  ·subst e
   rw[ow ao,l,Nat.add_sub_cancel_left]
  ·have m:=E7 os (show i+1<=n by lia)
   have:(dH os (i+1)).length=(dH os i).length+(fC os i).length:=by show(dH os i++fC os i).length=_;rw[cD]
   rw[oz ao];erw[M7 hl hc n ao ao]
def jB(r f:Int)(ld:Nat)(top b e:Rat)(c:Nat):Rat:=mn (mn (b+((2*r*(c:Int):Int):Rat)) top) (e+((2*f*((ld:Int)-(c:Int)):Int):Rat))
theorem acg{r f:Int}{ld:Nat}{top b e:Rat}(h1:b<=top)(h2:b<=e+((2*f*(ld:Int):Int):Rat)):jB r f ld top b e 0=b:=by
 unfold jB;have z:b+((2*r*((0:Nat):Int):Int):Rat)=b:=by rw[show(2*r*((0:Nat):Int):Int)=0 by simp];erw[Bn _]
 rw[z,show(ld:Int)-((0:Nat):Int)=ld by simp];erw[rn (cM (fb _ _) (fb _ _)) (gD (gD iI h1) h2)]
theorem acj{r f:Int}{ld:Nat}{top b e:Rat}(h1:e<=top)(h2:e<=b+((2*r*(ld:Int):Int):Rat)):jB r f ld top b e ld=e:=by
 unfold jB;have z:e+((2*f*((ld:Int)-(ld:Int)):Int):Rat)=e:=by rw[Int.sub_self,Int.mul_zero];erw[Bn _]
 rw[z];erw[rn (gM _ _) (gD (gD h2 h1) iI)]
theorem WD{r f:Int}{ld k:Nat}{top b e:Rat}(hr:0<=r)(hf:0<=f): (gP r f ld top b e k<=jB r f ld top b e k+(r:Rat)/\jB r f ld top b e k<=gP r f ld top b e k+(f:Rat))/\(gP r f ld top b e k<=jB r f ld top b e (k+1)+(f:Rat)/\jB r f ld top b e (k+1)<=gP r f ld top b e k+(r:Rat)):=by
 have nG:(0:Rat)<=(r:Rat):=Bl.mpr hr;have hf':(0:Rat)<=(f:Rat):=Bl.mpr hf;have e1:r*(2*(1+(k:Int))-1)=2*r*k+r:=by grind
 have e2:f*(2*((ld:Int)-(1+(k:Int)))+1)=2*f*((ld:Int)-k)-f:=by grind
 have e3:2*r*((k+1:Nat):Int)=2*r*k+2*r:=by grind
 have e4:2*f*((ld:Int)-((k+1:Nat):Int))=2*f*((ld:Int)-k)-2*f:=by grind
 unfold gP jB;rw[e1,e2,e3,e4];generalize 2*r*(k:Int)=x;generalize 2*f*((ld:Int)-k)=y;simp only[Bm,Rat.intCast_sub,MP];have t2:((2:Int):Rat)=2:=rfl;rw[t2];generalize(r:Rat)=R at*;generalize(f:Rat)=F at*;generalize(x:Rat)=X;generalize(y:Rat)=Y;unfold mn;erw[#[?_,?_],?_,?_]<;>grind
theorem ach{r f:Int}{ld c:Nat}{top b e:Rat}(hr:0<=r)(hf:0<=f)(hc:c<=ld)(ht:0<=top)(hb:0<=b)(he:0<=e):0<=jB r f ld top b e c:=by
 have nn:∀{z:Int}{x:Rat},0<=x->0<=z->0<=x+(z:Rat):=λ{z x} hx hz=>by have:(0:Rat)<=(z:Rat):=Bl.mpr hz;grind
 erw[gD (gD (nn hb (gU ao ao)) ht) (nn he (gU ao ao))]
theorem a57{r f:Int}{ld k:Nat}{top b e:Rat}:gP r f ld top b e k<=top:=cM (fb _ _) (gM _ _)
theorem aci{r f:Int}{ld k:Nat}{top b e:Rat}:jB r f ld top b e k<=top:=cM (fb _ _) (gM _ _)
section
variable {r f j ti rt':Int}{ds:List ah}{os:List Itm}
noncomputable def uq(r f j rt':Int)(os:List Itm)(i:Nat):List (Option Rat):=match os[i]? with |some (some (ns,sp))=>(List.range (aG ns)).map λk=>some (gP r f (aG ns) (topR rt' sp) (cF r f j rt' os i) (cF r f j rt' os (i+1)) k) |_=>[none]
noncomputable def pO(r f j rt':Int)(os:List Itm)(i c:Nat):Rat:=match os[i]? with |some (some (ns,sp))=>jB r f (aG ns) (topR rt' sp) (cF r f j rt' os i) (cF r f j rt' os (i+1)) c |_=>cF r f j rt' os i
noncomputable def rW(r f j rt':Int)(os:List Itm)(k:Nat):Option Rat:=((vO (uq r f j rt' os) os.length)[k]?).getD none
theorem C6{i:Nat}{ns:List Int}{sp:Int}(h:os[i]? =some (some (ns,sp))):uq r f j rt' os i=(List.range (aG ns)).map λk=>some (gP r f (aG ns) (topR rt' sp) (cF r f j rt' os i) (cF r f j rt' os (i+1)) k):=by unfold uq;rw[h]
theorem C5{i:Nat}(h:os[i]? =some none):uq r f j rt' os i=[none]:=by unfold uq;rw[h]
theorem wB{i c:Nat}{ns:List Int}{sp:Int}(h:os[i]? =some (some (ns,sp))):pO r f j rt' os i c=jB r f (aG ns) (topR rt' sp) (cF r f j rt' os i) (cF r f j rt' os (i+1)) c:=by unfold pO;rw[h]
theorem F0{i c:Nat}(h:os[i]? =some none):pO r f j rt' os i c=cF r f j rt' os i:=by unfold pO;rw[h]
theorem Fy{i:Nat}(hi:i<os.length):(uq r f j rt' os i).length=(fC os i).length:=by obtain⟨o,eo⟩:∃o,os[i]? =some o:=#[_,bN hi];cases o with |none=>rw[C5 eo,vI eo];rfl |some q=>let(ns,sp):=q;rw[C6 eo,qO eo,ba,ba]
theorem VL{i:Nat}(hi:i<os.length):(fQ r f j ti rt' ds os i).length=(fC os i).length:=by obtain⟨o,eo⟩:∃o,os[i]? =some o:=#[_,bN hi];cases o with |none=>unfold fQ;rw[eo,vI eo];rfl |some q=>let(ns,sp):=q;rw[tL eo,qO eo,a5P,ba,iz]
theorem Fc:∀n,fA r f j ti rt' ds os n=vO (fQ r f j ti rt' ds os) n |0=>rfl |n+1=>by show _++_=_++_;rw[Fc n]
theorem Fx{i c:Nat}(hi:i<os.length)(hc:c<(fC os i).length):rW r f j rt' os ((dH os i).length+c)=((uq r f j rt' os i)[c]?).getD none:=by unfold rW;rw[M7 (λi hi=>Fy hi) hc _ hi (bf _)]
end
theorem a1F{rs:List Int}{r f j t:Int}(rate:Int)(os:List Itm)(aD:gG rs r f j t):Keeps os.length (ownF j rate os) (leadF os) (2*r) (2*f) (cF r f j rate os):=Se (by have:=aD.r1;lia) (by have:=aD.f1;lia)
theorem Um{os:List Itm}{i:Nat}{ns:List Int}{sp:Int}(h:os[i]? =some (some (ns,sp))):leadF os i=some (aG ns):=by unfold leadF;rw[_O.og h];rfl
theorem YR{rs:List Int}{r f j ti rate rt':Int}{ds:List ah}{os:List Itm}(aD:gG rs r f j ti)(row:cW rs.length ds os)(pX:RowW ds os)(hz:ds.length<=30)(h1:10<=rt')(h2:rt'<=rate)(h3:rate<=200):X9 r f j ti rate ds os (fA r f j ti rt' ds os os.length) (rW r f j rt' os):=by
 have ll:=row.len;have r1:=aD.r1;have f1:=aD.f1;have kp:=a1F rt' os aD;have nn:∀i,i<=os.length->0<=cF r f j rt' os i:=Cz ao ao λi _=>_O.zA j rt' os i;have WN:=xh aD row hz h1 (show rt'<=200 by lia);have LV:=E6 (rate:=rate) row _ (bf os.length);have tl:(fA r f j ti rt' ds os os.length).length=(dH os os.length).length:=by rw[Fc];erw[AQ (λi hi=>VL hi) _ (bf _)]
 have te:∀{i c:Nat},i<os.length->c<(fC os i).length->(fA r f j ti rt' ds os os.length)[(dH os i).length+c]? =(fQ r f j ti rt' ds os i)[c]?:=λhi hc=>by rw[Fc];erw[M7 (λi hi=>VL hi) hc _ hi (bf _)]
 have ln:∀{i:Nat}{ns:List Int}{sp:Int},os[i]? =some (some (ns,sp))->jB r f (aG ns) (topR rt' sp) (cF r f j rt' os i) (cF r f j rt' os (i+1)) 0=cF r f j rt' os i/\jB r f (aG ns) (topR rt' sp) (cF r f j rt' os i) (cF r f j rt' os (i+1)) (aG ns)=cF r f j rt' os (i+1):=λ{i ns sp} eo=>by have hi:=(cJ.mp eo).1;erw[acg (cM (kp.own i ao) (Sw eo)) (kp.Lo i _ hi (Um eo)),acj (cM (kp.own (i+1) ao) (Sx eo)) (kp.rise i _ hi (Um eo))]
 have dS:∀i,(dH os (i+1)).length=(dH os i).length+(fC os i).length:=λi=>by show(dH os i++fC os i).length=_;rw[cD]
 erw[by rw[tl,LV],λk e du ee xR=>?_,?_,λk b eb=>?_]
 ·have hk:k<(dH os os.length).length:=by rw[<-tl];exact(cJ.mp ee).1
  let(i,c,a):=Mi (j:=j) (rate:=rate) row hk;have hi:=a.hi;have hc:=a.hc;have ek:=a.ek;subst ek;rw[te hi hc]at ee;rw[Fx hi hc];rcases a.kind row with⟨eo,c0,_,d,ed,itd,LO⟩|⟨ns,sp,eo,hV,_,LO⟩
  ·rw[LO]at xR
   cases xR;subst c0;rw[C5 eo];have:(fQ r f j ti rt' ds os i)=[du]:=by unfold fQ;rw[eo];simp[ed]
   rw[this]at ee;cases ee;erw[Z,pX i _ eo ed]
  ·rw[LO]at xR
   cases xR;let(bZ,cP,dX):=row.ok i ns sp eo;rw[tL eo,a5Q hV]at ee;cases ee;rw[C6 eo,bP,mS hV];have q0:0<gP r f (aG ns) (topR rt' sp) (cF r f j rt' os i) (cF r f j rt' os (i+1)) c:=Tv ao ao hV (BV cP h1) (nn i ao) (nn (i+1) ao);erw[g9 ns c,topR rate sp,Z,Z,cM a57 (_O.BX ao (df _) ao h2),q0,?_,(_O.pR cP dX ao h3).mono az,by unfold g9;rw[ba,bZ.len];have:=aD.len;lia];have mz:=qv bZ;have V7:=IV r1.1 r1.2 hV mz;have V6:=Lm f1.1 f1.2 hV mz;erw[qo (qo ((jZ (WN i ao) (by rw[jM];lia)).mono az) ((_O.pR cP dX h1 ao).mono az)) ((jZ (WN (i+1) ao) (by rw[jM];lia)).mono az)]
 ·unfold rW
  rw[rC (by rw[AQ (λi hi=>Fy hi) _ (bf _),tl];erw[bf _])];rfl
 ·--rL agR
  have Ka:(oa j rate os).length=(dH os os.length).length+1:=by unfold oa;rw[cD,qT (ds:=ds) row _ (bf _),LV];rfl
  have hk:k<(dH os os.length).length+1:=by rw[<-Ka];exact(cJ.mp eb).1
  have ahead:∀(x:Rat),(∀k',k=k'+1->∀i' c',At j rate ds os k' i' c'->∀ns sp,os[i']? =some (some (ns,sp))->c'<aG ns->x=jB r f (aG ns) (topR rt' sp) (cF r f j rt' os i') (cF r f j rt' os (i'+1)) (c'+1))->∀q,uJ (rW r f j rt' os) k=some q->q<=x+(f:Rat)/\x<=q+(r:Rat):=by intro x hx q hq;cases UW:k with |zero=>rw[UW]at hq;cases hq |succ k'=>
   subst UW;have hq:rW r f j rt' os k'=some q:=hq;let(i',c',a'):=Mi (j:=j) (rate:=rate) row (show k'<(dH os os.length).length by lia);have e1:=hx k' Z i' c' a';have ek:=a'.ek;rw[ek,Fx a'.hi a'.hc]at hq;rcases a'.kind row with⟨eo,c0,_⟩|⟨ns,sp,eo,hV,_⟩
   ·subst c0
    rw[C5 eo]at hq;cases hq
   ·rw[C6 eo,bP,mS hV]at hq
    cases hq;rw[e1 ns sp eo hV];exact(WD ao ao).2
  by_cases hkn:k=(dH os os.length).length
  ·--rL end
   have e0:(oa j rate os)[k]? =some 0:=by rw[hkn,LV];erw[acv row]
   rw[e0]at eb;cases eb;have sn:rW r f j rt' os k=none:=by unfold rW;rw[rC (by rw[AQ (λi hi=>Fy hi) _ (bf _)];lia)];rfl
   have p0:cF r f j rt' os os.length=0:=rn (by have:=kp.own os.length (bf _);rw[Jo]at this;erw[this]) (nn _ (bf _));erw[JU (x:=cF r f j rt' os os.length) (by rw[p0];erw[iI]) (by rw[p0];erw[iI]) (ahead _ λk' VT i' c' a' ns sp eo hV=>?_) (λq hq=>by rw[sn]at hq;cases hq)];have ek:=a'.ek;have hdl:(fC os i').length=aG ns:=by rw[qO eo,ba,iz]
   have nN:i'+1=os.length:=by
    by_cases h:i'+1=os.length
    ·erw[h]
    ·have cB:i'+1<os.length:=by have:=a'.hi;lia
     have m:=E7 os (show i'+1+1<=os.length by lia);have g:=W4 row cB;have d1:=dS i';have d2:=dS (i'+1)
     lia
   have jU:c'+1=aG ns:=by
    have d1:=dS i';rw[nN]at d1
    lia
   rw[jU,(ln eo).2,nN]
  ·let(i,c,a):=Mi (j:=j) (rate:=rate) row (show k<(dH os os.length).length by lia)
   have hi:=a.hi;have hc:=a.hc;have ek:=a.ek;have vB:=a.bd;rw[eb]at vB;have zC:cF r f j rt' os i<=ownF j rate os i:=cM (kp.own i ao) (_O.a2f (by have:=aD.j1;lia) (df _) ao h2 row.lM i);obtain⟨o,eo⟩:∃o,os[i]? =some o:=#[_,bN hi];have hA:∀k',k=k'+1->∀i' c',At j rate ds os k' i' c'->∀ns sp,os[i']? =some (some (ns,sp))->c'<aG ns->pO r f j rt' os i c=jB r f (aG ns) (topR rt' sp) (cF r f j rt' os i') (cF r f j rt' os (i'+1)) (c'+1):=by
    intro k' VT i' c' a' ns sp eC hV;have ek2:=a'.ek;subst VT;have hdl:(fC os i').length=aG ns:=by rw[qO eC,ba,iz]
    rcases a.prev row a' with⟨rfl,hc0⟩|⟨rfl,rfl⟩
    ·rw[wB eC,show c=c'+1 by lia]
    ·have d1:=dS i'
     rw[show c'+1=aG ns by lia,(ln eC).2];cases o with |none=>erw[F0 eo] |some q=>let(ns2,dX):=q;rw[wB eo,(ln eo).1]
   have yR:=Fx (r:=r) (f:=f) (j:=j) (rt':=rt') hi hc;rw[<-ek]at yR;cases o with |none=>
    have c0:c=0:=by rw[vI eo]at hc;simpa using hc
    subst c0;rw[WO hi]at vB;cases vB;rw[C5 eo]at yR;erw[JU (x:=pO r f j rt' os i 0) (by rw[F0 eo];erw[nn i ao]) (by rw[F0 eo];erw[zC]) (ahead _ hA) (λq hq=>by rw[yR]at hq;cases hq)] |some p=>
    let(ns,sp):=p;let(bZ,cP,dX):=row.ok i ns sp eo;have hV:c<aG ns:=by rw[qO eo,ba,iz]at hc;erw[hc]
    have x0:0<=pO r f j rt' os i c:=by rw[wB eo];erw[ach ao ao ao (_O.rH _ _) (nn i ao) (nn (i+1) ao)]
    have xb:pO r f j rt' os i c<=b:=by
     by_cases h0:c=0
     ·subst h0
      rw[WO hi]at vB;cases vB;rw[wB eo,(ln eo).1];erw[zC]
     ·rw[acu eo ao hV]at vB
      cases vB;rw[wB eo];erw[cM aci (_O.BX ao (df _) ao h2)]
    rw[C6 eo,bP,mS hV]at yR;erw[JU (x:=pO r f j rt' os i c) x0 xb (ahead _ hA) (λq hq=>?_)];rw[yR]at hq;cases hq;rw[wB eo];exact(WD ao ao).1
end
end _a
namespace _a
open PySem PySem.Spec PyProof.Rows _L _b _l _C _P _W _R
open _O (topR cornO mnO betR atO ownF leadF ownL OkI OkIs Itm)
open _T (numS numIn? Free)
section
def dR(w z:Str):ah->Str | .tuple [.str w',.str y]=>if w'=w then y else z |_=>z
theorem ZT(e:ah)(S:bu):(cZ e S).side=dR "tool" S.side e/\(cZ e S).mark=dR "mark" S.mark e:=by
 have n1:¬(("tool":Str)="mark"):=by decide+kernel
 unfold cZ dR;split
 ·next w' y=>
  try dsimp only
  by_cases h1:w'="tool"
  ·first |(rw[bc h1,bc h1,bj (by rw[h1];erw[n1])];erw[Z,Z]) |simp[h1,n1]
  ·by_cases h2:w'="mark"
   ·first |(rw[bj h1,bj h1,bc h2,bc h2];erw[Z,Z]) |simp[h1,h2,n1]
   ·first |(rw[bj h1,bj h1,bj h2,bj h2];erw[Z,Z]) |simp[h1,h2]
 ·next h=>first|erw[Z,Z]|(constructor<;>split<;>first|rfl|erw[absurd rfl (h _ _)])
theorem One.last{M:bC}{S S1:bu}{e:ah}(o:One M S e S1):S1.side=dR "tool" S.side e/\S1.mark=dR "mark" S.mark e:=by cases o with
 |@line ns sp eo nh=>
  have h:(iC ns (kA M S ns sp)).side=S.side/\(iC ns (kA M S ns sp)).mark=S.mark:=by
   unfold iC;split
   ·erw[DX (kA M S ns sp)]
   ·erw[Z,Z]
  erw[h] |fH eo ed nh=>let(a,b):=DX (cZ e S);rw[a,b];erw[ZT e S]
theorem Run.last{M:bC}{S S1:bu}{es:List ah}(r:Run M S es S1):S1.side=es.foldl (dR "tool") S.side/\S1.mark=es.foldl (dR "mark") S.mark:=by induction r with |nil=>erw[Z,Z] |cons o _ ih=>let(a,b):=o.last;rw[ih.1,ih.2,a,b];erw[Z,Z]
theorem a9w{w:Str}{ti:Int}{ns:List Int}{r f:Int}{top b e:Rat}(z:Str):(jb r f ti ns top b e).foldl (dR w) z=z:=by
 unfold jb;rw[List.foldl_map];have:∀l:List Nat,l.foldl (λx y=>dR w x (mV ti (g9 ns y) (gP r f (aG ns) top b e y))) z=z:=λl=>by induction l with |nil=>rfl |cons a l ih=>erw[ih]
 erw[this _]
theorem NF{r f j ti rate:Int}{ds:List ah}{os:List Itm}{n:Nat}(row:cW n ds os)(w z:Str):∀i,i<=os.length->(fA r f j ti rate ds os i).foldl (dR w) z=(ds.take i).foldl (dR w) z |0,_=>rfl |i+1,hi=>by have ih:=NF (r:=r) (f:=f) (j:=j) (ti:=ti) (rate:=rate) row w z i aO;have ll:=row.len;obtain⟨o,eo⟩:∃o,os[i]? =some o:=#[_,bN (show i<os.length by omega)];obtain⟨d,ed⟩:∃d,ds[i]? =some d:=#[_,bN (show i<ds.length by omega)];show(fA r f j ti rate ds os i++fQ r f j ti rate ds os i).foldl (dR w) z=_;rw[wu,ih,lC,ed,wu];cases o with |none=>rw[xP eo ed];rfl |some q=>let(ns,sp):=q;have e0:=iQ (row.it i d _ ed eo);subst e0;rw[tL eo,a9w];rfl
theorem a60{w:Str}:∀(ds:List ah),(∀d∈ds,∀z:Str,dR w z d=z\/(dR w z d≠""/\∀z',dR w z' d=dR w z d))->ky (ds.foldl (dR w) "")=ds.foldl (dR w) "none":=λds h=>by
 have key:∀(ds:List ah),(∀d∈ds,∀z:Str,dR w z d=z\/(dR w z d≠""/\∀z',dR w z' d=dR w z d))->∀a b:Str,ky a=b->b≠""->ky (ds.foldl (dR w) a)=ds.foldl (dR w) b:=λds=>by induction ds with |nil=>erw[λ_ a b e _=>e] |cons d ds ih=>
  intro h a b e hb;erw[ih (λd hd=>h d (.tail _ hd)) _ _ ?_ ?_]
  ·rcases h d (.head _) a with e1|⟨e1,e2⟩
   ·rcases h d (.head _) b with f1|⟨f1,f2⟩
    ·rw[e1,f1,e]
    ·rw[<-f2 a]at f1
     rw[<-f2 a];unfold ky;rw[bj f1]
   ·rw[e2 b]
    unfold ky;rw[bj e1]
  ·rcases h d (.head _) b with f1|⟨f1,_⟩
   ·rw[f1];erw[hb]
   ·erw[f1]
 erw[key ds h "" "none" aJ aJ]
inductive aeb(K:aa)(vs:List V)(H:Hp)(Q:VK):Prop |mk (iv:_)(ww:_)(z:_)(n:_)(ds:_)(os:_)(h0:vs=[iv,.str ww,.str z])(h1:RD K H iv (.tuple ds))(h2:mR n ds os)(h3:(ww="tool"\/ww="mark"))(h4:Q (.str (ds.foldl (dR ww) z)) H)
def OF(K:aa):Sp:=λvs H Q _=>aeb K vs H Q
theorem a5z{ww:Str}(h:ww="tool"\/ww="mark"):SeqAt.shaped (.str ww)=true/\PyData.eqv (.str "line") (.str ww)=false/\PyData.eqv (.str "wait") (.str ww)=false/\∀w':Str,(w'="tool"\/w'="mark")->SeqAt.shaped (.str w')=true/\(PyData.eqv (.str w') (.str ww)=decide (w'=ww)):=by rcases h with rfl|rfl<;>erw[aJ,aJ,aJ,λw' h'=>by rcases h' with rfl|rfl<;>erw[aJ,aJ]]
theorem Qg:bo ["_law_row_here","_law_word","_law_first","_law_found","_law_item_here"] ["_law_row_here","_law_word","_law_first"] (aU He):=bp aJ
theorem a3C(F:FA K mg "_law_last" He)(B:bI mg):aA P w K mg aw "_law_last" 1 (OF K):=by
 erw[F.has Qg (λvs H Q E h=>?_) (λ_ _ _ _ _ _=>iE λ_ _ _=>rfl) (λf aL A outer s H vs Q E hr h=>?_)]
 ·let(iv,ww,z,n,ds,os,rfl,_):=h
  rfl
 ·let(iv,ww,z,n,ds,os,rfl,ri,row,hw,k):=h
  have nd:=Qg.nd;let(q1,q2,q3,q4):=a5z hw;erw[_,(aB (pS 3 nd (pv 2)) (aB (iB gj Z (j5 K Z (pv 0)) (aV 4 nd) (aI (bL (cf (dU K Z hr.units) (px K (pv 4) aE) (pv 1) (bS _)) (aI (pS 3 nd (px K (pv 4) aE))) bQ))) (aI (aQ (pv 3))))),?_];let(ia,xs,rfl,hi,eM):=ri.cv;have lx:=eM.length;have ll:=row.len;erw[_,Z,_,Z,ia,Z,#[_,hi],Lj (K:=K) (a:=ia) (xs:=xs) (λi O H3=>H3=H/\∃v4,O=[some (.ref ia),some (.str ww),some (.str z),some (.str ((ds.take i).foldl (dR ww) z)),v4]) #[Z,none,Z] (λi O H3 _ h=>by rw[h.1];erw[hi]) ?_ ?_]
  ·rintro i y O H3 hy ⟨rfl,v4,rfl⟩
   erw[iG ?_];intro E1;have sW:i<xs.length:=(cJ.mp hy).1;let(d,ed,rd):=eM.get' i hy;obtain⟨o,eo⟩:∃o,os[i]? =some o:=#[_,bN (show i<os.length by omega)];have it:=row.it i d o ed eo;have et:∀z',dR ww ((ds.take i).foldl (dR ww) z) d=z'->(ds.take (i+1)).foldl (dR ww) z=z':=λz' e=>by rw[lC,ed,wu];erw[e]
   cases o with |some q=>let(ns,sp):=q;have e0:=iQ it.it;subst e0;let(a,b,rfl,ha,hb):=oW rd;erw[_,Z,.inr #[a,_,0,.str "line",Z,Z,ha,Z,_,Z,.inr #[_,_,bJ _,bJ _,nA,q1,_,Z,?_]]];rw[q2];erw[aR #[Z,_,by rw[et _ rfl];rfl]] |none=>
    rcases it.ot rfl with⟨m,rfl,_,_⟩|⟨w',y',rfl,UK,_,_⟩
    ·let(a,zs,rfl,ha,vd):=rd.cv
     let(x1,r1,rfl,e1,vd):=vd.cons_inv;cases e1.str_inv;erw[_,Z,.inr #[a,_,0,.str "wait",Z,Z,ha,cx (df 0) Z,_,Z,.inr #[_,_,bJ _,bJ _,aJ,q1,_,Z,?_]]];rw[q3];erw[aR #[Z,_,by rw[et _ rfl];rfl]]
    ·let(a,zs,rfl,ha,vd):=rd.cv
     let(x1,r1,rfl,e1,vd):=vd.cons_inv;let(x2,r2,rfl,e2,vd):=vd.cons_inv;cases e1.str_inv;cases e2.str_inv;let(q5,q6):=q4 w' UK;erw[_,Z,.inr #[a,_,0,.str w',Z,Z,ha,cx (df 0) Z,_,Z,.inr #[_,_,bJ _,bJ _,q5,q1,_,Z,?_]]];rw[q6];by_cases hc:w'=ww
     ·rw[cu hc]
      erw[bR #[_,Z,.inr #[a,_,1,.str y',Z,Z,ha,cx (show(0:Int)<=1 by decide) Z,Z,some (.ref a),?_]]];rw[et y' (by show(if w'=ww then y' else _)=y';rw[bc hc])];rfl
     ·rw[dM hc]
      erw[aR #[Z,_,by rw[et _ (show(if w'=ww then y' else _)=_ from bj hc)];rfl]]
  ·rintro O H3 ⟨rfl,v4,rfl⟩
   rw[lx,pN];erw[_,Z,k]
theorem SO(ns:List Int):dc (fj ns):=dc.join (jP aJ) λa ha=>by let(i,_,rfl):=cI.mp ha;erw[sx i]
theorem Lh(a b:Int):dc (hZ a b):=by
 unfold hZ;split
 ·erw[sx a]
 ·exact((sx a).app (jP aJ)).app (sx b)
theorem a4y{z:Str}(h:dc z):dc (ky z):=by
 unfold ky;split
 ·erw[jP aJ]
 ·erw[h]
theorem NU{zs:List Str}(h:∀z∈zs,dc z):dq 1 (.list (zs.map PyData.str)):=iq.lst (n:=0) λd hd=>by let(z,hz,rfl):=cI.mp hd;erw[SJ (h z hz)]
theorem Fi{H:Hp}:∀zs:List Str,aK K H (zs.map V.str) (zs.map PyData.str) |[]=>cX |z::zs=>cE (bJ z) (Fi zs)
theorem One.mj{M:bC}{D:Nat}{S S1:bu}{e:ah}(g:RG M D S)(o:One M S e S1):dc (gw e):=by have ok:=g.ok;have aD:=g.aD;cases o with |@line ns sp eo nh=>have ez:gw (my M S ns sp)="step "++fj (g9 ns S.dn)++" "++numS (m8 M.t (mr M S ns sp))++" "++hZ (mr M S ns sp).num ((mr M S ns sp).den:Int):=AB _ _ _ _;rw[ez];exact(((((jP aJ).app (SO _)).app (jP aJ)).app (sx _)).app (jP aJ)).app (Lh _ _) |@fH _ eo ed nh=>
 let(o,eC,it):=ok.item ed;rw[eo]at eC;cases eC;have tx:=ok.tx aD e (fR ed);have nl:∀ns sp,e≠eK ns sp:=λns sp ee=>by
  rcases it.it with⟨_,_,_,z⟩|⟨w,x,e2,hw,_⟩
  ·cases z
  ·rw[e2]at ee
   erw[yL (show oj w from hw) #[ns,sp,ee]]
 rw[AD tx.ti nl];erw[tx.ok]
theorem Run.mj{M:bC}{D:Nat}{S S1:bu}{es:List ah}(r:Run M S es S1):RG M D S->∀e∈es,dc (gw e):=by induction r with |nil=>erw[λ_ e he=>nomatch he] |cons o r ih=>
 intro g e he;rcases cO.mp he with rfl|he
 ·erw[o.mj g]
 ·erw[ih (g.run (.cons o (.nil _))) e he]
theorem Sf{M:bC}{rate:Int}{os:List Itm}(aD:M.Ok){i:Nat}(hi:i=0\/i=os.length):cF M.r M.f M.j rate os i=0:=by
 have iA:=aD.r1;have ie:=aD.f1;have hle:i<=os.length:=by omega
 have nn:=Cz (n:=os.length) (own:=ownF M.j rate os) (L:=leadF os) (r:=2*M.r) (f:=2*M.f) aO aO (λi _=>_O.zA M.j rate os i);have e0:ownF M.j rate os i=0:=by
  rcases hi with rfl|rfl
  ·rfl
  ·erw[Jo M.j rate os]
 erw[rn ?_ (nn i hle)];rw[<-e0];erw[CB hle]
theorem a6n{M:bC}{S:bu}{ds:List ah}{os:List Itm}(aD:M.Ok)(hl:ds.length=os.length)(d5:S.bG=none)(d6:S.dn=0)(d7:S.pc=0):Inv1 M S.rate S.pl ds os 0 0 (jh S ds os ds.length):=by
 erw[?_,?_,d6,.inl Z,?_,Z,d5,Z,fE _]
 ·show ds.take ds.length=ds
  rw[pN]
 ·show os.take ds.length=os
  rw[hl,pN]
 ·show S.pc=_
  rw[d7,zy (D:=64) (ds:=ds) aD (fE _),Sf aD (.inl Z)]
theorem a6l{M:bC}{rate:Int}{pl:List Int}{ds:List ah}{os:List Itm}{T:bu}(aD:M.Ok)(h:Inv1 M rate pl ds os os.length 0 T):T.pc=0/\jo T=dj pl os os.length:=by
 erw[?_,?_]
 ·rw[h.DV,zy (D:=64) (ds:=ds) aD (bf _),Sf aD (.inr Z)]
 ·unfold jo
  rw[bc h.E4];erw[h.LG]
def yF:List Wd:=[.place,.square,.rK,.mark]
theorem a5Z{w:Str}{n:Nat}{ds:List ah}{os:List Itm}(row:mR n ds os)(hw:w="tool"\/w="mark"):∀d∈ds,∀z:Str,dR w z d=z\/(dR w z d≠""/\∀z',dR w z' d=dR w z d):=λd hd z=>by let(i,hi):=ou.mp hd;have hl:=(cJ.mp hi).1;obtain⟨o,eo⟩:∃o,os[i]? =some o:=#[_,bN (show i<os.length by have:=row.len;omega)];have it:=row.it i d o hi eo;cases o with |some q=>let(ns,sp):=q;have e0:=iQ it.it;subst e0;erw[.inl rfl] |none=>
 rcases it.ot rfl with⟨m,rfl,_,_⟩|⟨w',y',rfl,UK,_,on⟩
 ·erw[.inl rfl]
 ·by_cases hc:w'=w
  ·erw[.inr #[?_,λz'=>?_]]
   ·show(if w'=w then y' else z)≠""
    rw[bc hc];intro e;subst e;rcases on with⟨_,h|h⟩|⟨_,h⟩
    ·revert h;decide+kernel
    ·revert h;decide+kernel
    ·revert h;decide+kernel
   ·show(if w'=w then y' else z')=(if w'=w then y' else z)
    rw[bc hc,bc hc]
  ·erw[.inl (bj hc)]
theorem abb{H:Hp}{pv:V}{ys:List V}{pl:List Int}{os:List Itm}(rp:RD K H pv (da pl))(r:aK K H ys (qN pl os os.length)):∃vl,(pv::ys).getLast? =some vl/\RD K H vl (da (dj pl os os.length)):=by have hl:=r.length;rw[xQ]at hl;cases h:os.length with |zero=>rw[h]at hl;rw[N6.mp hl];erw[pv,Z,rp] |succ n=>rw[h]at r hl;let(y,ey,ry):=r.get n (d:=da (dj pl os (n+1))) (by show(qN pl os n++[da (dj pl os (n+1))])[n]? =_;rw[ow (by rw[xQ];erw[bf _]),xQ,Bq];rfl);erw[y,?_,ry];rw[N7,gz,XF,hl,List.getElem?_cons_succ];erw[ey]
end
end _a
set_option maxHeartbeats 4000000
namespace _a
open PySem PySem.Spec PyProof.Rows _L _b _l _C _P _W _R
open _O (topR cornO mnO betR atO ownF leadF ownL OkI OkIs Itm)
open _T (numS numIn? Free)
section
theorem Qf:bo ["_law_script","_law_at","_law_bag_here","_law_machine_here","_law_place_here","_law_row_here","_law_desk","_law_rate","_law_squares","_law_tape","_law_there_here","_law_due"] ["_law_script"] (aU wO):=bp aJ
theorem a3B{f:Addr}{fd:FuncData}(F:lj K "law" "law" wO f fd)(B:bI mg)(DC:pJ K D)(TC:fo K C)(a8X:aA P w K mg aw "_law_bag" 1 (OS K))(eO:aA P w K mg aw "_law_take" 1 mX)(a8S:aA P w K mg aw "_law_machine" 2 (OD K))(a8Q:aA P w K mg aw "_law_place" 2 (OA K))(a8P:aA P w K mg aw "_law_row" 4 (Oo K))(a90:yg P w K mg aw D "Desk" 5 (OO K C D))(L6:aA P w K mg aw "_law_fraction_text" 1 (uz K))(Aa:aA P w K mg aw "plan_of" 9 (yT K))(vo:cL P w K mg aw D "say" 14 (C9 K C D))(a8V:aA P w K mg aw "_law_fed" 15 (OJ K C D))(a6L:aA P w K mg aw "tape_of" 10 (FC K))(a7j:aA P w K mg aw "look" 10 (OE K))(a8Y:aA P w K mg aw "_law_all_told" 15 (OU K C D))(a8W:aA P w K mg aw "_law_entry_text" 2 (Cf K))(a7S:aA P w K mg aw "ends" 4 (ON K))(Vc:aA P w K mg aw "_law_last" 1 (OF K)):fw P w K mg aw kh 16 f fd ["_law_script"] (FJ K):=by
 erw[F.ok Qf (λvs H Q E h=>?_) (λaL A outer s H vs Q E hr h=>?_)]
 ·let(a,ns,rfl,_):=h
  rfl
 ·let(a,ns,rfl,hS,hlen,k):=h
  have nd:=Qf.nd;have jg:sizeLine=16777216:=by decide
  erw[_,(aB (iB gj Z (sj Z (B.at "range") (ak (fG (x:="max") (WB rfl) rfl (B.at "max") MU (ak aE (ak (fG (x:="min") (M8 rfl) rfl (B.at "min") XA (ak aE (ak (fU K B (ak (pv 0) ay)) ay))) ay))) ay)) (aV 1 nd) (aB (pS 2 nd (pf a8X hr (ak (pv 0) (ak (pv 1) ay)))) (aB (pS 3 nd (pf a8S hr (ak (pv 2) ay))) (aB (pS 4 nd (pf a8Q hr (ak (pv 2) (ak (pv 3) ay)))) (aB (pS 5 nd (pf a8P hr (ak (pv 2) (ak (pv 3) (ak (pv 4) ay))))) (aB (pS 6 nd (Ss a90 (hr.mono az) Z (ak (pv 3) (ak (pv 4) ay)))) (aB (pS 7 nd (px K (dw (ak aE (ak (aP eu aE (pf eO hr (ak (pv 2) (ak aE ay)))) ay))) (pf eO hr (ak (pv 2) (ak aE ay))))) (aB (Cy (i0:=8) nd Z (Or.inl Z) (N:=["_law_one"]) (js:=[none]) Z Z Z (nk K Z (pf Aa hr (ak (pv 3) (ak (pv 5) (ak (pv 7) ay))))) (λ_ _ _ _ _=>(aV 0 (iO _))) (λ_ _ _ _ _=>dZ) (λ_ _ _ _ _=>(pf L6 hr (ak (pv 0) ay)))) (aB (bL (PW.pt (iL (cf Jr (kv vo DC.cl (hr.mono az) (pv 6) (ak (aP ju bW (dh (x:="str") iT Z (B.at "str") iJ (ak (pv 7) ay))) ay)) (dh (x:="str") iT rfl (B.at "str") iJ (ak (pv 7) ay)) (bS _)) (jL (cf Jr (pf a8V hr (ak (pv 2) (ak (pv 6) (ak (pv 4) (ak (pv 5) ay))))) (qg K rfl bW (ak (pv 8) ay)) (bS _))))) (aI (aQ j7)) bQ) (aB (pS 9 nd (pf a6L hr (ak (pv 3) (ak (pv 5) (ak (pv 7) ay))))) (aB (bL (cf xi (pf a7j hr (ak (pv 3) (ak (pv 5) (ak (pv 7) (ak (pv 9) ay))))) gX (bS _)) (aI (aQ j7)) bQ) (aB (bL (cf (kR K Z hr.units) (pf a8Y hr (ak (pv 2) (ak (pv 6) ay))) (eU (N:=["_law_entry"]) (js:=[none]) Z Z Z (nk K Z (pv 9)) (λ_ _ _ _ _=>(aV 0 (iO _))) (λ_ _ _ _ _=>dZ) (λ_ _ _ _ _=>(pf a8W hr (ak (pv 0) ay)))) (bS _)) (aI (aQ j7)) bQ) (aB (pS 10 nd (px K (aP (xY K Z) (dw (ak (pv 4) ay)) (pf a7S hr (ak (pv 3) (ak (pv 4) (ak (pv 5) ay))))) (jN jH aE))) (aB (pS 11 nd (dw (ak (qg K Z bW (ak (eU (N:=["_law_one"]) (js:=[none]) Z Z Z (j5 K Z (pv 10)) (λ_ _ _ _ _=>(aV 0 (iO _))) (λ_ _ _ _ _=>dZ) (λ_ _ _ _ _=>(dh (x:="str") iT Z (B.at "str") iJ (ak (pv 0) ay)))) ay)) (ak bW (ak (pf Vc hr (ak (pv 5) (ak bW (ak bW ay)))) (ak (pf Vc hr (ak (pv 5) (ak bW (ak bW ay)))) ay)))))) (aI (bL (cf (kR K Z hr.units) (eU (N:=["_law_word","_law_desk"]) (js:=[none,some 6]) Z Z Z (nk K Z (dw (ak bW (ak bW (ak bW (ak bW ay)))))) (λ_ _ _ _ _=>(aV 0 (jQ az))) (λ_ _ _ _ _=>dZ) (λ_ _ _ _ _=>(kv vo DC.cl (hr.mono az) (pv 1) (ak (pv 0) ay)))) (pv 11) (bS _)) (aI (aQ j7)) bQ)))))))))))))))) (aI (aQ j7))),?_];erw[_,Z,a,_,Z,.inl hS,_,_,Z,_,_,Z,_,Z,?_,?_,?_]
  ·split<;>(try split)<;>lia
  ·split<;>(try split)<;>(try rw[ba])<;>lia
  have hN:(if(if((ns.map V.int).length:Int)<3 then((ns.map V.int).length:Int)else 3)>1 then(if((ns.map V.int).length:Int)<3 then((ns.map V.int).length:Int)else 3)else 1).toNat<=4:=by split<;>(try split)<;>lia
  erw[xM (Pv:=λi O H2=>aH H H2/\∃v1 v2 v3 v4 v5 v6 v7 v8 v9 v10 v11,O=[some (.ref a),v1,v2,v3,v4,v5,v6,v7,v8,v9,v10,v11]) ?_ ?_ ?_]
  ·erw[aH.refl _,none,none,none,none,none,none,none,none,none,none,none,Z]
  ·rintro i O H2 hi ⟨s2,v1,v2,v3,v4,v5,v6,v7,v8,v9,v10,v11,rfl⟩
   erw[iG ?_];intro E1;have hi8:i<4:=gR hi hN;erw[_,Z,_,Z,a,ns,_,Z,s2.seq hS,hlen,ao,ao,λp H3 np bg3 s3=>?_];erw[_,Z,p,Z,bg3,λm rs r0 f' j t H9 rm aD b9=>?_];erw[_,Z,_,Z,p,m,rs,r0,f',j,t,Z,b9.bU,rm,aD,λgK pl HA rp gC bA=>?_];have DI:H p=none:=by cases e:H p with |none=>rfl |some o=>erw[absurd (s2 _ _ e) (by rw[np];erw[λz=>nomatch z])]
   have IU:RD K HA m (bC.D #[rs,r0,f',j,t]):=RD.v (bO.t b9.bU bA).v _ (kT _ _ _ _ _) rm;generalize hM:(#[rs,r0,f',j,t]:bC)=M at IU;have ja:M.Ok:=by rw[<-hM];erw[aD]
   have zH:ft M.rs pl:=by rw[<-hM];erw[gC]
   erw[_,Z,_,Z,_,Z,p,m,gK,M,pl,Z,bA.bU,IU,ja,rp,zH,λiv ds os HB ri fT l12 bB=>?_];have b3B:=b9.trans (bA.trans bB);have Hv:aH H HB:=bO.a0a (s2.trans s3) DI b3B;have no:=fT.it.row.no;have CW:=kT M.rs M.r M.f M.j M.t;have RH:RD K HB m (bC.D M):=RD.t (bO.t bA.bU bB) _ CW IU;have RA:RD K HB gK (da pl):=RD.t (bO.t bA.bU bB) _ (gq _) rp;erw[_,Z,_,Z,λx dx hx hdx ne=>?_];have wQ:aH HB (_L.upd (_L.upd HB dx (.own x)) x (.ins D dx [])):=(aH.new hdx).trans (aH.new (by rw[aY ne.symm];erw[hx]));erw[x,dx,m,gK,M,pl,Z,cg,RD.mono wQ _ RH,RD.mono wQ _ RA,ja,zH,λr1 q1 HC dk R1 nr nq bt=>#[Z,?_]];have zc:aH HB HC:=λb o eb=>bt b o (wQ b o eb) λz=>by rw[dN.mp z,hx]at eb;cases eb
   have WK:=(bO.fi bB.bU zc);have JF:cA (oG pl).ds=true:=rfl;have T0:DW K C D HC M p x r1 q1 HC q1 (oG pl):=by let(rx,mv,bv,cG,tv,er,_):=R1.ob;erw[WK.bU,dk,R1,λz=>?_,WK.bU.ne,(λz=>by rw[er]at z;cases z),λ_ _ e _ _ _=>e,.inl rfl];have h1:HB p≠none:=bB.bU.ne;rw[z]at h1;cases e:HB q1 with |none=>erw[h1 e] |some o=>rw[wQ _ _ e]at nq;cases nq
   have g0:RG M 64 (oG pl):=#[a0E zH.len,ja,#[show Str.length "up"<=100 by decide+kernel,show Str.length ""<=100 by decide+kernel,show dc "up" from jP aJ,show dc "" from jP aJ],λi hi=>by have:i=0:=Nat.le_zero.mp hi;rw[this];erw[zH],az];have riC:RD K HC iv (.tuple ds):=RD.mono zc _ ri;have rmC:RD K HC m (bC.D M):=RD.mono zc _ RH;have rpC:RD K HC gK (da pl):=RD.mono zc _ RA;have sHC:=Hv.trans zc;erw[_,Z,p,191,Z,T0.bg,az,az,λt1 HD Fg Ff bD=>#[_,_,Z,Z,?_]];erw[cy Z,λlc HE nE=>?_];have bE:=bD.trans (.fi bD.bU nE.same);have cp:lc≠p:=λz=>bD.bU.ne (z▸nE.no);erw[_,Z,p,2,Z,bE.bU,az,az,λix HF i0 i1 WT=>?_];have bF:=bE.trans WT;obtain⟨rate,en,cj,cm⟩:∃n:Int,fc [V.int 100,V.int (10+t1)] ix=some (.int n)/\10<=n/\n<=200:=by
    rcases(show ix=0\/ix=1 by lia)with rfl|rfl
    ·erw[_,Z,ao,ao]
    ·erw[_,Z,ao,ao]
   erw[.inl #[lc,_,_,_,Z,Z,aF.of (WT.same _ _ cp nE.at'),en,?_]];have TF:=T0.draw JF bF;have RF:RD K HF m (bC.D M):=RD.t (bO.t T0.bg bF) _ CW rmC;have Ry:RD K HF gK (da pl):=RD.t (bO.t T0.bg bF) _ (gq _) rpC;have IX:RD K HF iv (.tuple ds):=RD.t (bO.t T0.bg bF) _ (by rw[eA];erw[no]) riC;have nm:Nm rate:=by show rate.natAbs<10^40;lia
   have row:=fT.it.row;have ll:=row.len;erw[_,Z,_,Z,_,Z,m,iv,rate,M.rs,M.r,M.f,M.j,M.t,ds,os,Z,RF,ja,IX,row,ao,cj,cm,λl1 y1 HG xy vJ sf sG=>#[l1,Z,#[_,aF.of vJ],λD2 HI nI=>?_]];have lz:=sf.length;have lp:(kP M.r M.f M.j rate os).length=os.length+1:=lN _ _;rw[ba,lp]at lz;have TI:=TF.same JF (sG.trans nI.same);erw[vM (K:=K) (ds:=((kP M.r M.f M.j rate os).map x9).map PyData.str) _ (aF.of vJ) nI (by rw[ba,ba,lp];erw[lz]) ao (oO _) ?_ ?_]
   ·intro i x d H5 Q' ex ed s5 hq
    let(d',dG,rx):=sf.get' i ex;rw[bP]at dG;rw[bP,bP]at ed;cases eq:(kP M.r M.f M.j rate os)[i]? with |none=>rw[eq]at dG;cases dG |some qq=>rw[eq]at dG ed;cases dG;cases ed;let(hi,rfl):=CD eq;let(n1,n2):=y4 (xh ja row ao cj cm i hi);erw[_,Z,x,_,_,Z,RD.mono s5 _ rx,n1,n2,hq _ _ (aH.refl _) (bJ _)]
   intro HJ ws sJ dJ rJ;rw[oE rJ]at dJ;have HZ:=sG.trans sJ;have TJ:=TF.same JF HZ;have MH:HF D2=none:=by cases e:HF D2 with |none=>rfl |some o=>have:=sG _ _ e;rw[nI.no]at this;cases this
   let(dx1,mv1,ea,uF):=id TJ.dk;have e5:Str.length "rate "=5:=by decide+kernel
   have a4M:=fV nm;have eR:("rate ":Str)++numS rate=kG.txt (.rate rate):=by show _="rate"++" "++numS rate;rw[show("rate ":Str)="rate"++" " by decide+kernel]
   erw[_,Z,x,dx1,_,Z,ea,Z,_,Z,.inl #[rate,Z,kz nm,_,_,Z,Z,by show Str.length "rate "+(numS rate).length<=_;lia,?_]];erw[x,r1,q1,M,64,oG pl,.rate rate,lA (λz=>[V.ref x,V.str z]) eR,TJ.dk,TJ.x,g0,cj,cm,Z,λHK RK bK=>?_];have bK':Mv r1 q1 HJ q1 HK:=#[λb o e hb=>bK b o e (λz=>hb (by rw[dN.mp z];erw[.head _])),.inl Z];let(TK,vK):=TJ.RW.mv bK' RK;erw[_,Z,.inl #[rate,Z,kz nm,Z,_,Z,?_]];rw[cu (show V.str (numS rate)=V.str (Str.ofString (toString rate))from Z)];generalize Vb:({oG pl with rate:=rate}:bu)=S1 at TK;have e1:S1.ds=[]/\S1.os=[]/\S1.pl=pl/\S1.rate=rate/\S1.bG=none/\S1.dn=0/\S1.pc=0/\S1.side="up"/\S1.mark="":=by rw[<-Vb];erw[Z,Z,Z,Z,Z,Z,Z,Z,Z]
   have g1:RG M 64 S1:=by rw[<-Vb];have o:=g0.ok;erw[#[o.row,o.rw,o.len,cj,cm,o.dn,o.pl,o.pd,o.pm,o.bG,o.D1,o.D2],ja,g0.sd.eq Z Z,g0.on.eq Z Z,az]
   let(d1,d2,d3,d4,d5,d6,d7,d8',d9'):=e1;have Np:=(HZ.v).trans vK;have Jj:S1.pl.length<=3:=by rw[d3,zH.len];have:=ja.n3;lia
   erw[aR #[_,Z,_,Z,_,Z,_,Z,HJ,p,x,r1,q1,gK,iv,q1,M,64,S1,ds,os,Z,TK,g1,d1,d2,Jj,by rw[d3];erw[RD.v Np _ (gq _) Ry],RD.v Np _ (by rw[eA];erw[no]) IX,by rw[d3];erw[fT],l12,λHL TL gL=>?_]];have D2p:D2≠p:=λz=>TF.bg.ne (by rw[<-z];erw[MH]);have D2r:D2≠r1:=λz=>by let(rx,mv,bv,cG,tv,er,_):=TF.x.ob;rw[<-z,MH]at er;cases er
   have D2q:D2≠q1:=λz=>by let(ys,eq,_):=TF.x.qu;rw[<-z,MH]at eq;cases eq
   have dL:=TL.fr _ _ dJ D2p D2r D2q;erw[Z,_,Z," ",D2,_,Z,Z,aF.of dL,λz hz=>?_,aJ,by rw[ba,lp];lia,Z,_,Z,?_]
   ·let(qq,hq,rfl):=cI.mp hz
    let(i,hi):=ou.mp hq;let(nN,rfl):=CD hi;let(n1,n2):=y4 (xh ja row ao cj cm i nN);have:=Av n1 n2;show(hZ _ _).length<=_
    lia
   rw[d4,cu (show V.str (CC M.r M.f M.j rate os)=V.str (Txt.join " " ((kP M.r M.f M.j rate os).map x9))from Z)];erw[aR ?_];have F4:=HZ.v.trans (DW.vb TJ TL);have SY:eA (.tuple ds)=true:=by rw[eA];erw[no]
   have IT:=RD.v F4 _ CW RF;have IW:=RD.v F4 _ SY IX;have rpL:=RD.v F4 _ (gq _) Ry;erw[_,Z,_,Z,_,Z,m,iv,rate,M.rs,M.r,M.f,M.j,M.t,ds,os,Z,IT,ja,IW,row,ao,cj,cm,λl2 y2 HM uS xU zh sM=>?_];erw[_,Z,_,Z,_,Z,_,Z,m,iv,rate,.ref l2,M.rs,M.r,M.f,M.j,M.t,ds,os,_,_,Z,RD.mono sM _ IT,ja,RD.mono sM _ IW,row,ao,cj,cm,wZ (aF.of xU) zh,YR ja row fT.it.rw ao cj (df _) cm,λHN sN=>#[Z,_,Z,?_]];rw[cu (show V.bw=V.bw from Z)];erw[aR ?_];have TN:=TL.same gL.ok.row.no (sM.trans sN);erw[_,Z,_,Z,HJ,p,x,r1,q1,q1,M,64,_,S1.pl,ds,os,Z,TN,gL,a6n ja row.len d5 d6 d7,row,l12,fT.ld,λl3 q3 S3 HO zP o9 TO gO a6o run Nn=>?_];have LF:(jh S1 ds os ds.length).rate=rate:=d4;rw[LF]at o9 run;have JB:l2≠p/\l2≠r1/\l2≠q1:=by let(rx,mv,bv,cG,tv,er,_):=TL.x.ob;let(ys,eq,_):=TL.x.qu;erw[λz=>TL.bg.ne (z▸uS),(λz=>by rw[<-z,uS]at er;cases er),(λz=>by rw[<-z,uS]at eq;cases eq)]
   have Wi:=TO.fr _ _ (sN _ _ xU) JB.1 JB.2.1 JB.2.2;have noT:=Fb (r:=M.r) (f:=M.f) (j:=M.j) (ti:=M.t) (rate:=rate) row os.length (bf _);have rT:=aK.v Nn _ noT (aK.mono sN _ zh);have lT:=rT.length;have bT:(fA M.r M.f M.j M.t rate ds os os.length).length<=133:=by
    have h1:=C0 (r:=M.r) (f:=M.f) (j:=M.j) (ti:=M.t) (rate:=rate) ll os.length (bf _);rw[pN]at h1;have:=fT.ld
    lia
   have teT:=run.yM gL.ok gL.aD gL.hD;have CN:=run.mj gL;erw[_,Z,l2,Z,#[_,aF.of Wi],λD3 HP nP=>?_];erw[vM (K:=K) (ds:=((fA M.r M.f M.j M.t rate ds os os.length).map gw).map PyData.str) _ (aF.of Wi) nP (by rw[ba,ba];erw[lT]) ao (oO _) ?_ ?_]
   ·intro i x d H5 Q' ex ed s5 hq
    let(d',dG,rx):=rT.get' i ex;rw[bP,bP,dG]at ed;cases ed;erw[_,Z,x,d',Z,RD.mono s5 _ rx,teT d' (fR dG),λH6 s6=>hq _ _ s6 (bJ _)]
   intro HQ wT sQ dQ rQ;have Jz:dq 1 (.list (((fA M.r M.f M.j M.t rate ds os os.length).map gw).map PyData.str)):=NU λz hz=>by let(d,hd,rfl):=cI.mp hz;erw[CN d hd]
   erw[.inr #[_,_,wZ (aF.of (sQ _ _ o9)) (Fi _),wZ (aF.of dQ) rQ,Jz.shaped az,Jz.shaped az,_,Z,?_]];rw[Jz.refl];erw[aR ?_];have TQ:=TO.same gO.ok.row.no sQ;have F3:=((sM.trans sN).v.trans Nn).trans sQ.v;erw[_,Z,cy Z,λl4 HR nR=>?_];have rmR:=RD.mono nR.same _ (RD.v F3 _ CW IT);have Rx:=RD.mono nR.same _ (RD.v F3 _ (gq _) rpL);have RN:=RD.mono nR.same _ (RD.v F3 _ SY IW);erw[_,Z,_,Z,_,Z,m,gK,iv,M.rs,M.r,M.f,M.j,M.t,pl,ds,os,Z,rmR,Rx,RN,row,by have:=ja.n3;lia,ao,fT.on,λl5 y5 HS nl5 LW RL sS=>?_];let(vl,el,rvl):=abb (RD.mono sS _ Rx) RL;have l5l:=RL.length;rw[xQ]at l5l;erw[l4,l5,_,_,Z,Z,aF.of (sS _ _ nR.at'),aF.of LW,by simp;lia,λl6 _H nT=>?_];erw[_,Z,.inl #[l6,_,-1,vl,Z,Z,aF.of nT.at',AX el,?_]];let(av,xs',rfl,vn,Kl):=(RD.mono nT.same _ rvl).cv;rw[Kl.gh]at vn;erw[Z,_,Z,av,Z,#[_,vn],λD7 H7 n7=>?_];have SH:=fT.on os.length (bf _);have Te:∀n∈dj pl os os.length,Nm n:=λn hn=>by have:=zG SH ja.rl n hn;show n.natAbs<10^40;lia
   have lE:(dj pl os os.length).length<=3:=by rw[SH.len];have:=ja.n3;lia
   erw[qS (K:=K) (ds:=((dj pl os os.length).map numS).map PyData.str) _ vn n7 (by simp) (by simp;lia) (oO _) ?_ ?_]
   ·intro i x d H2 Q' ex ed s2 hq
    rw[bP]at ex;let(n,en,rfl):=u7.mp ex;rw[bP,bP,en]at ed;cases ed;erw[_,Z,.inl #[n,Z,kz (Te n (fR en)),hq _ _ (aH.refl _) (bJ _)]]
   intro H8 zs s8 d8 r8;rw[oE r8]at d8;have QV:aH HR H8:=sS.trans (nT.same.trans s8);have RM:=RD.mono QV _ RN;erw[" ",D7,(dj pl os os.length).map numS,Z,Z,aF.of d8,λz hz=>?_,aJ,by rw[ba];lia,?_]
   ·let(n,hn,rfl):=cI.mp hz
    have:=fV (Te n hn)
    lia
   erw[_,Z,iv,"tool","up",_,ds,os,Z,RM,fT.it,.inl Z,?_];erw[_,Z,iv,"mark","none",_,ds,os,Z,RM,fT.it,.inr Z,?_];erw[cy Z,λl7 HV nV=>?_];have QW:aH HQ HV:=nR.same.trans (QV.trans nV.same);have TV:=TQ.same gO.ok.row.no QW;erw[cy Z,λl8 HW nW=>?_];have UU:aF K HW l8 (yF.map λv=>V.str v.txt):=aF.of nW.at';erw[l8,Z,#[_,UU],λD8 HX nX=>?_];have TW:=TV.same gO.ok.row.no nW.same;erw[vM (K:=K) (ds:=(yF.map (y9 M S3)).map PyData.str) _ UU nX (by rfl) az (oO _) ?_ ?_]
   ·intro i x8 d H3 Q' ex ed s3 hq
    rw[bP]at ex;let(v,ev,rfl):=u7.mp ex;rw[bP,bP,ev]at ed;cases ed;have T3:=TW.same gO.ok.row.no s3;let(VX,zW,LP,rm3):=id T3.dk;erw[_,Z,x,VX,_,Z,LP,Z,_,Z,x,r1,q3,M,64,S3,.wd v,Z,T3.dk,T3.x,gO,λH4 s4=>hq _ _ s4 (bJ _)]
   intro HY w8 sY dY rY;let(pz,plz):=a6l ja a6o;let(JZ,JY):=run.last;rw[NF row _ _ _ (bf _),<-ll,pN]at JZ JY;have eS:(jh S1 ds os ds.length).side="up"/\(jh S1 ds os ds.length).mark="":=#[d8',d9'];rw[eS.1]at JZ;rw[eS.2]at JY;have eq4:yF.map (y9 M S3)=[fj (dj pl os os.length),"0",ds.foldl (dR "tool") "up",ds.foldl (dR "mark") "none"]:=by show[fj (jo S3),x9 S3.pc,S3.side,ky S3.mark]=_;rw[plz,pz,JZ,JY,a60 ds (a5Z fT.it (.inr Z)),d3];rfl
   have JA:dq 1 (.list ((yF.map (y9 M S3)).map PyData.str)):=NU λz hz=>by let(v,_,rfl):=cI.mp hz;cases v with |place=>erw[SO _] |square=>erw[Lh _ _] |rK=>erw[gO.sd.s2] |mark=>erw[a4y gO.sd.m2] |gc=>erw[dc.join (jP aJ) λa ha=>by let(q,_,rfl):=cI.mp ha;erw[Lh _ _]]
   have r7:RD K HY (.ref l7) (.list ((yF.map (y9 M S3)).map PyData.str)):=by rw[eq4];erw[wZ (aF.of (sY _ _ (nW.same _ _ nV.at'))) (Fi [fj (dj pl os os.length),"0",ds.foldl (dR "tool") "up",ds.foldl (dR "mark") "none"])]
   erw[_,Z,.inr #[_,_,wZ (aF.of dY) rY,r7,JA.shaped az,JA.shaped az,_,Z,?_]];rw[JA.refl];erw[aR #[λb o e=>?_,_,_,_,_,_,_,_,_,_,_,_,Z]];have m1:b≠p:=λz=>by rw[z,DI]at e;cases e
   have m2:b≠r1:=λz=>by rw[z]at e;have:=(Hv.trans wQ) _ _ e;rw[nr]at this;cases this
   have m3:b≠q1:=λz=>by rw[z]at e;have:=(Hv.trans wQ) _ _ e;rw[nq]at this;cases this
   erw[sY _ _ (nW.same _ _ (QW _ _ (sQ _ _ (TO.fr _ _ (sN _ _ (sM _ _ (TL.fr _ _ (TJ.fr _ _ (sHC _ _ e) m1 m2 m3) m1 m2 m3))) m1 m2 m3))))]
  ·rintro O H2 ⟨s2,v1,v2,v3,v4,v5,v6,v7,v8,v9,v10,v11,rfl⟩
   erw[k _]
end
end _a
set_option maxHeartbeats 1000000
namespace _a
open PySem PySem.Spec PyProof.Rows _L
theorem AY{K:aa}{mg:ck}{h:Heap}{a:Addr}{v:Value}{fn z:Str}(X:K.In h)(G:h.Ns mainGlobals mg)(e1:PySem.W.nsIn K mainGlobals fn=some (some v))(e2:PySem.W.nsIn K a z=some (some v)):PySem.W.nsIn K a z=some (mg fn):=by rw[e2,Bo X G e1]
theorem X4{K:aa}{a:Addr}{v:Value}{fn z:Str}(e1:PySem.W.nsIn K mainGlobals fn=some (some v))(e2:PySem.W.nsIn K a z=some (some v)):∃v,PySem.W.nsIn K a z=some (some v):=#[v,e2]
theorem acH:B6 K P w mg aw C D:=by
 intro f fd A R F;let(gA,GA,a0,a1,a2,a3,a4,t0,t1,b0,b1,b2,b3,b4):=A.ans;have TC:=R.tc;have tk:aA P w K mg aw "_law_take" 1 mX:=a2G A.aaJ A.B;have cd:aA P w K mg aw "common_divisor" 1 Ci:=a41 A.aax A.B;have lt:aA P w K mg aw "lowest_terms" 2 wK:=a3t A.aa9 A.B cd;have iw:aA P w K mg aw "is_whole" 1 (uy K):=a3D A.aag A.B;have ww:aA P w K mg aw "is_whole_within" 2 (mW K):=a2x A.aaf A.B iw;have fn:aA P w K mg aw "fraction" 3 (wJ K):=a3Q A.aas A.B iw lt;have ld:aA P w K mg aw "lead_of" 1 (mY K):=a3A A.aac A.B;have ls:aA P w K mg aw "is_less" 1 (uw K):=a3x A.aao A.B;have cp:aA P w K mg aw "corner_square" 6 (FO K):=a3Z A.aaw A.B (a2z A.aar A.B (a2y A.a9K A.B ld fn) (a3q A.aa7 A.B lt) ls) fn;have Uy:aA P w K mg aw "is_rate" 3 (Ca K):=a3G A.aak A.B A.a9l A.a9m ww;have tp:aA P w K mg aw "top_square" 4 (uu K):=a2A A.a9L A.B Uy fn;have qy:aA P w K mg aw "is_line" 1 (mZ K):=a3I A.VC A.B;have lst:aA P w K mg aw "least" 2 (md K):=a3z A.aab A.B ls;have WL:aA P w K mg aw "bound_between" 7 (Cj K):=a42 A.aaA A.B A.vt qy tp cp lst;have own:aA P w K mg aw "own_bounds" 8 (Cb K):=a3j A.VA A.B A.vt WL;have pw:aA P w K mg aw "plus_whole" 4 (rX K):=a3e A.a9Y A.B (a3f A.a9Z A.B lt);have pl:aA P w K mg aw "plan_of" 9 (yT K):=a3g A.aa0 A.B own (a35 A.aad A.B qy ld pw lst) (a3U A.VB A.B qy ld pw lst);have nr:aA P w K mg aw "nearest" 1 FH:=a3n A.aa5 A.B;have NX:aA P w K mg aw "stand_at" 2 (C8 K):=a2J A.a9R A.B ld nr;have sr:aA P w K mg aw "step_rows" 3 (yS K):=a30 A.a9P A.B ld NX;have ent:aA P w K mg aw "step_entry" 3 (Cg K):=a3V A.a9Q A.B (a2D A.a9N A.B (SK A.VD A.B));have Kg:aA P w K mg aw "is_item" 4 (yW K):=a3O A.aap A.B A.Vn ww (a47 A.aaB A.B A.a9f ww) (a3K A.aaj A.B A.a9h A.a9b ww (a3M A.aam A.B A.a9j A.a9k));have Dw:aA P w K mg aw "is_place" 3 (wL K):=a3L A.aal A.B ww;have Tp:aA P w K mg aw "moved" 1 (Ce K):=a3p A.aa6 A.B;have Eh:aA P w K mg aw "place_behind" 2 (wM K):=a43 A.aa1 A.B qy Tp;have YG:aA P w K mg aw "times" 3 (uv (·*·) K):=a2C A.a9M A.B lt;have Cv:aA P w K mg aw "reach_behind_first" 9 (FD K):=a3d A.a9X A.B (a3i A.VA A.B A.vt WL) (a3T A.VB A.B qy ld pw lst);have RS:=a38 R.a5s TC;have Rw:=a2X R.a5l TC A.vt;have RR:=a37 R.a5t TC RS Rw;have RI:=a34 R.a5q TC Eh;have RU:=a39 R.a5u TC A.B A.a9d Kg Dw Eh RI;have rnx:=a32 R.a5p TC pw YG fn lst RS;have ref:=a3c R.a5x TC Eh;have rsf:=a2W R.a5k TC A.B ld sr tp Cv ent RR rnx ref;have reo:=a3a R.a5v TC qy rsf ref;have ren:=a3b R.a5w TC A.B RR reo;have rtr:=a2T R.a5i TC Uy Rw;have rpl:=a2Z R.a5o TC Tp NX;have rwt:=a2S R.a5h TC A.B;have rsq:=a2V R.a5m TC;have rrt:=a2Y R.a5n TC;have rto:=a2U R.a5j TC;have rmk:=a33 R.a5r TC;have im:aA P w K mg aw "is_machine" 4 (yX mC K):=a3N A.aan A.B A.a9e A.a9n ww (a48 A.aaC A.B A.a9q A.a9i ww);have JH:aA P w K mg aw "number_in" 1 yU:=a3m A.aa4 A.B A.a9p;have SS:aA P w K mg aw "numbers_in" 2 (Cc K):=a3l A.aa3 A.B JH;have iti:aA P w K mg aw "item_in" 5 (FK K):=a3E A.aae A.B JH SS Kg;have FP:=a2N A.a9T A.B;have ZO:=a2O A.a9U A.B (a3J A.VC A.B) FP;have FT:=a2P A.a9V A.B;have lit:=a3v A.aaQ A.B;have uN:=a3k A.aa2 A.B JH;have Zy:=a2K R.a08 R.td TC A.B A.a9g A.Vm uN ww (a2Q A.a9W A.B ZO FP FT) ren;have Zz:=a2L R.a09 R.td TC A.B uN rtr;have Zv:=a2I R.a07 R.td TC A.B A.Vn SS Dw ww RI RU;have hW:∀v:Wd,∃fn,PySem.W.nsIn K gA v.txt=some (mg fn)/\yi P w K mg aw fn 10 (ur K C v):=λv=>by cases v with |place=>erw[_,a0,(a4b A.aaG A.B TC FP rpl).d.le az] |square=>erw[_,a1,(a49 A.aaE A.B TC FT rsq).d.le az] |gc=>erw[_,a2,(a4a A.aaF A.B TC pl FT rwt rrt).d.le az] |rK=>erw[_,a3,(a46 A.aaD A.B TC rto).d.le az] |mark=>erw[_,a4,(a4c A.aaH A.B TC A.Vm rmk).d.le az]
 have say:=(a2R R.say R.td TC A.B GA #[b0,b1,t0,t1,b2,b3,b4] hW iti Zy Zz Zv RU).n;have Ue:=a3w A.aaS A.B;have Nz:=a2E A.aaI A.B;have row:=a31 A.aaK A.B tk (a3F A.aaR A.B tk (a3o A.aaM A.B tk)) (a3P A.aaO A.B tk) Nz;have mid:aA P w K mg aw "middles" 5 (FI K):=a3r A.aa8 A.B tp ld pw lst;have YS:aA P w K mg aw "tape_of" 10 (FC K):=a2F A.a9O A.B pl qy mid sr ent;have lok:=a3u A.aaa A.B (a3Y A.aav A.B qy tp sr) (a44 A.aaz A.B own qy tp ld) (a3S A.aat A.B A.a9c A.a9a A.a9r Kg (a2H A.aai A.B iw) (a2B A.aah A.B A.vt iw (a3H A.aaq A.B iw cd) ls (SK A.VD A.B)) ls) (a2M A.a9S A.B) (a40 A.aay A.B A.vt pw ls);have vw:=a3R A.aaT A.B R.td tk lit Nz say;erw[a3B F A.B R.td TC (a45 A.aaV A.B) tk (a3s A.aaN A.B tk) (a3h A.aaL A.B tk) row (a3X R.abA R.td im Dw (a36 R.init TC A.vt A.a9o)) Ue pl say vw YS lok (a4d A.aaW A.B R.td tk say) (a3y A.aaU A.B lit Ue) (a3W A.aau A.B Eh Dw) (a3C A.aaP A.B)]
theorem acI{P:ag}{w:World}{K:aa}{mg:ck}{aw:Heap}{f:Addr}{fd:FuncData}(A:All w K mg)(F:lj K "law" "law" wO f fd):fw P w K mg aw kh 16 f fd ["_law_script"] (FJ K):=by let(C',D',R'):=A.dk;erw[YN acH K P w mg aw C' D' f fd A R' F]
end _a
end
set_option maxHeartbeats 1000000
set_option exponentiation.threshold 6000
def PySem.W.Fast.tw8934810555924165206:PySem.Program:=PySem.Challenge.pw_glidequeue_k59_whole_told_at_once_is_the
theorem PySem.W.Fast.te8934810555924165206:PySem.Challenge.pw_glidequeue_k59_whole_told_at_once_is_the=PySem.W.Fast.tw8934810555924165206:=rfl
def PySem.W.Fast.tw9062781002275484976:Nat:=0
def PySem.W.Fast.tw5687706207245691148:Nat:=0
def PySem.W.Fast.tw3355783741403806815:Nat:=0
def PySem.W.Fast.tw17632163457562838701:Nat:=0
def PySem.W.Fast.tw554506062189897289:Nat:=0
def PySem.W.Fast.tw4960323523286153650:Nat:=0
def PySem.W.Fast.tw14408715153940392503:Nat:=0
def PySem.W.Fast.tw4505859139508647153:Nat:=0
def PySem.W.Fast.tw5276723178962185542:Nat:=0
def PySem.W.Fast.tw8383143659719625254:Nat:=0
def PySem.W.Fast.tw3200964659536107926:Nat:=0
def PySem.W.Fast.tw6720492136973973148:Nat:=0
def PySem.W.Fast.tw15337406665770301729:Nat:=0
def PySem.W.Fast.tw4731108932064740387:Nat:=0
def PySem.W.Fast.tw11619323374142793709:Nat:=0
def PySem.W.Fast.tw2995205289328244332:Nat:=0
def PySem.W.Fast.tw9680193058982062085:Nat:=0
def PySem.W.Fast.tw2588900404714233236:Nat:=0
def PySem.W.Fast.tw2645669616136184732:Nat:=0
def PySem.W.Fast.tw12445207928885175:Nat:=0
def PySem.W.Fast.tw6983323651518396131:Nat:=0
def PySem.W.Fast.tw13867600823714117940:Nat:=0
def PySem.W.Fast.tw3062131333850179922:Nat:=0
def PySem.W.Fast.tw5486123006820033173:Nat:=0
def PySem.W.Fast.tw18104440647879847607:Nat:=0
def PySem.W.Fast.tw13160187594298103859:Nat:=0
def PySem.W.Fast.tw9164183835371064130:Nat:=0
def PySem.W.Fast.tw8528804615048653617:Nat:=0
def PySem.W.Fast.tw5695582718033733016:Nat:=0
def PySem.W.Fast.tw15181478621512843761:Nat:=0
def PySem.W.Fast.tw449758460905983682:Nat:=0
def PySem.W.Fast.tw11762201621074030648:Nat:=0
def PySem.W.Fast.tw17463878434854120967:Nat:=0
def PySem.W.Fast.tw8474513362905706056:Nat:=0
def PySem.W.Fast.tw18337082598657834145:Nat:=0
def PySem.W.Fast.tw2279564899824149186:Nat:=0
def PySem.W.Fast.tw12928758669833403470:Nat:=0
def PySem.W.Fast.tw10676598638802525490:Nat:=0
def PySem.W.Fast.tw15827767271474321965:Nat:=0
def PySem.W.Fast.tw14347499801852384864:Nat:=0
def PySem.W.Fast.tw11049221298569202429:Nat:=0
def PySem.W.Fast.tw18270212103828586337:Nat:=0
def PySem.W.Fast.tw2188655479402050594:Nat:=0
def PySem.W.Fast.tw16036459601125035713:Nat:=0
def PySem.W.Fast.tw4619997095254581116:Nat:=0
def PySem.W.Fast.tw9302656833989659455:Nat:=0
def PySem.W.Fast.tw8391152268334320721:Nat:=0
def PySem.W.Fast.tw15244622020531991983:Nat:=0
def PySem.W.Fast.tw6026042203526419828:Nat:=0
def PySem.W.Fast.tw6785113030916457849:Nat:=0
def PySem.W.Fast.tw11627930809390432201:Nat:=0
def PySem.W.Fast.tw16959617954428692780:Nat:=0
def PySem.W.Fast.tw14622459506297962524:Nat:=0
def PySem.W.Fast.tw15983679341249271382:Nat:=0
def PySem.W.Fast.tw18408120135985127244:Nat:=0
def PySem.W.Fast.tw8283659532355087020:Nat:=0
def PySem.W.Fast.tw12349071768939906700:Nat:=0
def PySem.W.Fast.tw8975322965807652552:Nat:=0
def PySem.W.Fast.tw4302295466623950391:Nat:=0
def PySem.W.Fast.tw11805656810027476560:Nat:=0
def PySem.W.Fast.tw3757210087652579351:Nat:=0
def PySem.W.Fast.tw2391531786681420556:Nat:=0
def PySem.W.Fast.tw9751817833786857068:Nat:=0
def PySem.W.Fast.tw9304262432416018783:Nat:=0
def PySem.W.Fast.tw2249405773682172878:Nat:=0
def PySem.W.Fast.tw7092268812584058086:Nat:=0
def PySem.W.Fast.tw9175802995042998458:Nat:=0
def PySem.W.Fast.tw16249707824091985996:Nat:=0
def PySem.W.Fast.tw18279986160633249783:Nat:=0
def PySem.W.Fast.tw18263896093594571412:Nat:=0
def PySem.W.Fast.tw10004043056545299651:Nat:=0
def PySem.W.Fast.tw3741973461356367749:Nat:=0
def PySem.W.Fast.tw9017454349396664606:Nat:=0
def PySem.W.Fast.tw1001505062626025509:Nat:=0
def PySem.W.Fast.tw16157967060563776640:Nat:=0
def PySem.W.Fast.tw7269471576979417343:Nat:=0
def PySem.W.Fast.tw2161435302490908300:Nat:=0
def PySem.W.Fast.tw7955527458395359863:Nat:=0
def PySem.W.Fast.tw11088960158188241631:Nat:=0
def PySem.W.Fast.tw3551211685422697336:Nat:=0
def PySem.W.Fast.tw14703707386163127568:Nat:=0
def PySem.W.Fast.tw10498547385517736247:Nat:=0
def PySem.W.Fast.tw3433308179306788724:Nat:=0
def PySem.W.Fast.tw5771556602701582770:Nat:=0
def PySem.W.Fast.tw12017451446973836595:Nat:=0
def PySem.W.Fast.tw24178035228482029:Nat:=0
def PySem.W.Fast.tw13967064165018178154:Nat:=0
def PySem.W.Fast.tw14842079107362270835:Nat:=0
def PySem.W.Fast.tw1215661493921806355:Nat:=0
def PySem.W.Fast.tw14570973537054052608:Nat:=0
def PySem.W.Fast.tw11504814974972213826:Nat:=0
def PySem.W.Fast.tw18413147836600462554:Nat:=0
def PySem.W.Fast.tw8483629040197029559:Nat:=0
def PySem.W.Fast.tw9113280125403060956:Nat:=0
def PySem.W.Fast.tw4247389170942211499:Nat:=0
def PySem.W.Fast.tw11170768249647050785:Nat:=0
def PySem.W.Fast.tw12719764444409625846:Nat:=0
def PySem.W.Fast.tw12549068317319404236:Nat:=0
def PySem.W.Fast.tw12457879995195004906:Nat:=0
def PySem.W.Fast.tw3146903096005142021:Nat:=0
def PySem.W.Fast.tw13359166057975994951:Nat:=0
def PySem.W.Fast.tw10017240589150436803:Nat:=0
def PySem.W.Fast.tw1746974648444538015:Nat:=0
def PySem.W.Fast.tw638855892218952862:Nat:=0
def PySem.W.Fast.tw14248474543250252994:Nat:=0
def PySem.W.Fast.tw14655647792833773682:Nat:=0
def PySem.W.Fast.tw2268624754950402920:Nat:=0
def PySem.W.Fast.tw6138628265515709023:Nat:=0
def PySem.W.Fast.tw11504810785796448825:Nat:=0
def PySem.W.Fast.tw12887976792490867534:Nat:=0
def PySem.W.Fast.tw1173622166700262794:Nat:=0
def PySem.W.Fast.tw11865302627994406757:Nat:=0
def PySem.W.Fast.tw7238710483957719315:Nat:=0
def PySem.W.Fast.tw2920627528077638654:Nat:=0
def PySem.W.Fast.tw13309653269077294737:Nat:=0
def PySem.W.Fast.tw637519905650791807:Nat:=0
def PySem.W.Fast.tw12753051654896488022:Nat:=0
def PySem.W.Fast.tw1306782898784062241:Nat:=0
def PySem.W.Fast.tw13561939814568256702:Nat:=0
open PySem PySem.W PyProof.Rows
set_option maxRecDepth 100000 in
set_option maxHeartbeats 0 in
theorem PySem.Challenge.cw_glidequeue_k59_whole_told_at_once_is_the_holds : PySem.Challenge.rw_glidequeue_k59_whole_told_at_once_is_the.Holds := by
 w_on; o_law; k_head; (case hw=>w_witness2)
 k_fill
 refine _L.a5X (l:=PySem.Challenge.rw_glidequeue_k59_whole_told_at_once_is_the) (k:=16) (x:="_law_script") (st:=_a.wO) rfl rfl ⟨rfl,by decide,by decide⟩ (fun w h Y=>PySem.W.kIn_of Y) _a.All ?F (fun _ _ _ A=>A.law) (fun _ _ _ _ _ _ _=>rfl) (fun _ _ _ _ _ _ _ A F=>_a.acI A F)
 case F=>
  intro w mg h KX G
  refine⟨_L.ack KX G ?b,?t1,?t2,?t3,?gi0,?gi1,?gi2,?gi3,?gi4,?gi5,?gi6,?gi7,?gi8,?gi9,?gi10,?gi11,?gi12,?gi13,?gi14,?gs0,?gs1,?gs2,?an,?dk,?fl,?ff0,?ff1,?ff2,?ff3,?ff4,?ff5,?ff6,?ff7,?ff8,?ff9,?ff10,?ff11,?ff12,?ff13,?ff14,?ff15,?ff16,?ff17,?ff18,?ff19,?ff20,?ff21,?ff22,?ff23,?ff24,?ff25,?ff26,?ff27,?ff28,?ff29,?ff30,?ff31,?ff32,?ff33,?ff34,?ff35,?ff36,?ff37,?ff38,?ff39,?ff40,?ff41,?ff42,?ff43,?ff44,?ff45,?ff46,?ff47,?ff48,?ff49,?ff50,?ff51,?ff52,?ff53,?ff54,?ff55,?ff56,?ff57,?ff58,?ff59,?ff60,?ff61,?ff62,?ff63,?ff64,?ff65,?ff66,?ff67,?ff68,?ff69,?ff70,?ff71,?ff72,?ff73,?ff74,?ff75,?ff76,?ff77,?ff78⟩
  case b=>(unfold _L.Eg; repeat (refine _L.tV.cons ?z ?_; (case z=>k_is))); exact _L.tV.nil
  case t1=>refine' _L.La KX G ?a ?l ?z ?r; (case a=>k_is); (case l=>k_is); (case z=>decide); (case r=>exact .cons ⟨_,rfl⟩ (.cons ⟨_,rfl⟩ .nil))
  case t2=>refine' _L.La KX G ?a ?l ?z ?r; (case a=>k_is); (case l=>k_is); (case z=>decide); (case r=>exact .cons ⟨_,rfl⟩ (.cons ⟨_,rfl⟩ .nil))
  case t3=>refine' _L.La KX G ?a ?l ?z ?r; (case a=>k_is); (case l=>k_is); (case z=>decide); (case r=>exact .cons ⟨_,rfl⟩ (.cons ⟨_,rfl⟩ .nil))
  case gi0=>(refine' _L.kC KX G ?z; (case z=>k_is))
  case gi1=>(refine' _L.kC KX G ?z; (case z=>k_is))
  case gi2=>(refine' _L.kC KX G ?z; (case z=>k_is))
  case gi3=>(refine' _L.kC KX G ?z; (case z=>k_is))
  case gi4=>(refine' _L.kC KX G ?z; (case z=>k_is))
  case gi5=>(refine' _L.kC KX G ?z; (case z=>k_is))
  case gi6=>(refine' _L.kC KX G ?z; (case z=>k_is))
  case gi7=>(refine' _L.kC KX G ?z; (case z=>k_is))
  case gi8=>(refine' _L.kC KX G ?z; (case z=>k_is))
  case gi9=>(refine' _L.kC KX G ?z; (case z=>k_is))
  case gi10=>(refine' _L.kC KX G ?z; (case z=>k_is))
  case gi11=>(refine' _L.kC KX G ?z; (case z=>k_is))
  case gi12=>(refine' _L.kC KX G ?z; (case z=>k_is))
  case gi13=>(refine' _L.kC KX G ?z; (case z=>k_is))
  case gi14=>(refine' _L.kC KX G ?z; (case z=>k_is))
  case gs0=>(refine' _L.L9 KX G ?z; (case z=>k_is))
  case gs1=>(refine' _L.L9 KX G ?z; (case z=>k_is))
  case gs2=>(refine' _L.L9 KX G ?z; (case z=>k_is))
  case an=>
   refine' ⟨_,_L.a97 KX G ?ga ?gl ?gk ?go,_a.AY KX G ?e1x0 ?e2x0,_a.AY KX G ?e1x1 ?e2x1,_a.AY KX G ?e1x2 ?e2x2,_a.AY KX G ?e1x3 ?e2x3,_a.AY KX G ?e1x4 ?e2x4,_a.X4 (fn:="answer_tool") ?tn0 ?tm0,_a.X4 (fn:="answer_mark") ?tn1 ?tm1,?na0,?na1,?na2,?na3,?na4⟩
   case ga=>k_is
   case gl=>k_is
   case go=>decide
   case e1x0=>k_is
   case e2x0=>k_is
   case e1x1=>k_is
   case e2x1=>k_is
   case e1x2=>k_is
   case e2x2=>k_is
   case e1x3=>k_is
   case e2x3=>k_is
   case e1x4=>k_is
   case e2x4=>k_is
   case gk=>
    show KeysLit _ (_::_)
    repeat (first | exact trivial | refine And.intro ⟨_,_,rfl,rfl⟩ ?_)
   case tn0=>k_is
   case tm0=>k_is
   case tn1=>k_is
   case tm1=>k_is
   case na0=>k_is
   case na1=>k_is
   case na2=>k_is
   case na3=>k_is
   case na4=>k_is
  case dk=>
   refine' ⟨_,_,_a.MG.mk (_a.fo.mk (_L.kf.mk ?pg ?hd ?po ?sa) ?n1 ?n2 ?n3 ?n4 ?n5 ?n6 ?n7 ?n8 ?n9) (_L.WC KX G ?aC ?mk ?kc ?ia ?iii ?il ?ic ?ik) (_L.hJ ?a0 ?i0 ?l0 ?c0 ?k0) (_L.hJ ?a1 ?i1 ?l1 ?c1 ?k1) (_L.hJ ?a2 ?i2 ?l2 ?c2 ?k2) (_L.hJ ?a3 ?i3 ?l3 ?c3 ?k3) (_L.hJ ?a4 ?i4 ?l4 ?c4 ?k4) (_L.hJ ?a5 ?i5 ?l5 ?c5 ?k5) (_L.hJ ?a6 ?i6 ?l6 ?c6 ?k6) (_L.hJ ?a7 ?i7 ?l7 ?c7 ?k7) (_L.hJ ?a8 ?i8 ?l8 ?c8 ?k8) (_L.hJ ?a9 ?i9 ?l9 ?c9 ?k9) (_L.hJ ?a10 ?i10 ?l10 ?c10 ?k10) (_L.hJ ?a11 ?i11 ?l11 ?c11 ?k11) (_L.hJ ?a12 ?i12 ?l12 ?c12 ?k12) (_L.hJ ?a13 ?i13 ?l13 ?c13 ?k13) (_L.hJ ?a14 ?i14 ?l14 ?c14 ?k14) (_L.hJ ?a15 ?i15 ?l15 ?c15 ?k15) (_L.hJ ?a16 ?i16 ?l16 ?c16 ?k16) (_a.pJ.mk (_L.kf.mk ?dpg ?dhd ?dpo ?dsa) ?d1 ?d2) (_L.WC KX G ?daC ?dmk ?dkc ?dia ?dii ?dil ?dic ?dik) (_L.hJ ?sa0 ?si0 ?sl0 ?sc0 ?sk0) (_L.hJ ?sa1 ?si1 ?sl1 ?sc1 ?sk1) (_L.hJ ?sa2 ?si2 ?sl2 ?sc2 ?sk2) (_L.hJ ?sa3 ?si3 ?sl3 ?sc3 ?sk3)⟩
   (case aC=>k_is)
   (case daC=>k_is)
   case n1 | n2 | n3 | n4 | n5 | n6 | n7 | n8 | n9 | d1 | d2=>(unfold _L.iV; k_is)
   case pg | hd | po | sa | mk | kc | ia | iii | il | ic | ik | dpg | dhd | dpo | dsa | dmk | dkc | dia | dii | dil | dic | dik | sa0 | si0 | sl0 | sc0 | sk0 | sa1 | si1 | sl1 | sc1 | sk1 | sa2 | si2 | sl2 | sc2 | sk2 | sa3 | si3 | sl3 | sc3 | sk3 | a0 | i0 | l0 | c0 | k0 | a1 | i1 | l1 | c1 | k1 | a2 | i2 | l2 | c2 | k2 | a3 | i3 | l3 | c3 | k3 | a4 | i4 | l4 | c4 | k4 | a5 | i5 | l5 | c5 | k5 | a6 | i6 | l6 | c6 | k6 | a7 | i7 | l7 | c7 | k7 | a8 | i8 | l8 | c8 | k8 | a9 | i9 | l9 | c9 | k9 | a10 | i10 | l10 | c10 | k10 | a11 | i11 | l11 | c11 | k11 | a12 | i12 | l12 | c12 | k12 | a13 | i13 | l13 | c13 | k13 | a14 | i14 | l14 | c14 | k14 | a15 | i15 | l15 | c15 | k15 | a16 | i16 | l16 | c16 | k16=>k_is
  all_goals (refine' _L.a9J KX G ?a ?l ?c ?k; (case a=>k_is); (case l=>k_is); (case c=>k_is); (case k=>k_is))
#print axioms PySem.Challenge.cw_glidequeue_k59_whole_told_at_once_is_the_holds
