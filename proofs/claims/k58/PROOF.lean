import PyProof.Rows.All
import Wide.All
import OpenK.AllK
import Wide.FinOn
import Lean
import PyProof.EqAt
import PyProof.EqKinds
import PyProof.TupleCall
import PySem.Challenge.RW_glidequeue_k58_whole_rows_at_two_desks
set_option Elab.async false
set_option linter.all false
set_option compiler.extract_closed false
set_option maxRecDepth 100000
def PySem.pq9:Nat->Lean.Syntax->Lean.MacroM (Lean.TSyntax `rcasesPat)
|0,_=>Lean.Macro.throwUnsupported
|n+1,s=>do
 if s.isOfKind `ident then let x:Lean.Ident:=⟨s⟩;`(rcasesPat|$x:ident)
 else if s.isOfKind `Lean.Parser.Term.hole then `(rcasesPat|_)
 else
  let as:=if s.isOfKind `Lean.Parser.Term.tuple then #[s[1][0]]++s[1][2].getSepArgs else s[1].getSepArgs
  let ps<-as.mapM (PySem.pq9 n)
  `(rcasesPat|⟨$ps,*⟩)
def PySem.pn9:Nat->Lean.Syntax->Nat
|0,_=>1
|n+1,s=>if s.isOfKind `ident||s.isOfKind `Lean.Parser.Term.hole then 1 else (if s.isOfKind `Lean.Parser.Term.tuple then #[s[1][0]]++s[1][2].getSepArgs else s[1].getSepArgs).foldl (fun k x=>k+PySem.pn9 n x) 0
def PySem.p9(x:Lean.Syntax):Lean.Command:=⟨x.rewriteBottomUp (·.setInfo .none)⟩
noncomputable section
local macro_rules|`(command|def $i:declId $s $v:declVal)=>return PySem.p9 (<-`(command|noncomputable def $i:declId $s $v:declVal))
local macro_rules|`(command|abbrev $i:declId $s $v:declVal)=>return PySem.p9 (<-`(command|noncomputable abbrev $i:declId $s $v:declVal))
local macro_rules|`(tactic|trivial)=>`(tactic|first|exact Or.inl rfl|exact Or.inr rfl|exact Or.inr (Or.inl rfl)|exact Or.inr (Or.inr rfl)|assumption|exact fun _=>rfl|exact fun _ _=>rfl)
theorem r8_(h:True:=by rfl):True:=h
theorem q8_(h:True:=by decide):True:=h
theorem d8_(h:True:=by trivial):True:=h
theorem f8_(h:True:=by with_unfolding_all rfl):True:=h
theorem PySem.oq9{T:Prop}(h:∀G:Prop,(T->G)->G):T:=h T id
local macro_rules|`(tactic|erw[$r,*])=>do
 let t:=r.getElems.map λr=>(⟨r.raw[1]⟩:Lean.Term)
 if t.size==1 then `(tactic|refine $(t[0]!)) else `(tactic|refine ⟨$t,*⟩)
local macro_rules|`(tactic|let $p:term:=$t)=>do
 let q<-PySem.pq9 9 p
 if PySem.pn9 9 p<7 then `(tactic|obtain $q:rcasesPat:=$t) else `(tactic|first|(refine PySem.oq9 fun G e=>?_;obtain $q:rcasesPat:=$t;refine e ?_;clear e G)|obtain $q:rcasesPat:=$t)
local macro_rules|`(#[$a,$b,*])=>`(⟨$a,$b,*⟩)
local macro_rules|`(tactic|exists $a,$b,$c)=>do
 let i:=λx:Lean.Name=>Lean.mkIdent x
 `(tactic|erw[$a $b (λ_ _ _ _ h=>by cases h;subst_vars;rfl) (λ_ _ _ _ _ _=>$c) (λ_ $(i `aH) $(i `A) $(i `outer) $(i `s) $(i `H) $(i `vs) $(i `Q) $(i `E) $(i `hr) $(i `h)=>?_)])
abbrev bO:=PySem.Str->Option PySem.Value
theorem aw{p:Prop}(h:autoParam (p) q8_._auto_1):p:=h
theorem aG{p:Prop}(h:p:=by decide+kernel):p:=h
theorem ao {p:Prop} (h:p:=by lia):p:=h
theorem bB{p:Prop}(h:p:=by omega):p:=h
theorem Z {α : Sort _} {a : α}:a=a:=rfl
abbrev aa:=PySem.W.Frag
abbrev ae:=PySem.Shared
abbrev af:=PySem.Program
abbrev ag:=PySem.PyData
abbrev ah:=PySem.Around
abbrev aJ:=@PySem.wpAny_bind
abbrev bj:=@if_neg
abbrev bo:=@if_pos
abbrev bI:=@List.mem_cons
abbrev bL:=@Nat.le_refl
abbrev bM:=@decide_eq_true
abbrev bV:=@List.length_map
abbrev bX:=@PySem.Heap.lt_size
abbrev bZ:=@PySem.Heap.get?_push_of_some
abbrev cg:=@PySem.wpAny_pure
abbrev ck:=@List.not_mem_nil
abbrev cn:=@List.mem_singleton
abbrev cv:=@List.getElem?_map
abbrev cE:=@List.getElem?_eq_getElem
abbrev cG:=@decide_eq_false
abbrev cJ:=@or_false
abbrev df:=@PySem.strLen_append
abbrev dh:=@PySem.intBits_le_64
abbrev dC:=@List.mem_map
abbrev dD:=@PySem.Heap.get?_push_size
abbrev dI:=@Nat.ne_of_lt
abbrev dU:=@Option.some.inj
abbrev dW:=@List.getElem?_eq_some_iff
abbrev dX:=@Bool.false_ne_true
abbrev eF:=@List.size_toArray
abbrev eJ:=@Int.le_refl
abbrev eP:=@List.length_append
abbrev eT:=@Rat.le_trans
abbrev fb:=@Bool.and_eq_true
abbrev fO:=@List.mem_of_getElem?
abbrev fT:=@Nat.zero_le
abbrev gc:=@beq_iff_eq
abbrev gy:=@List.length_cons
abbrev gz:=@Int.natAbs_mul
abbrev gH:=@Nat.lt_of_lt_of_le
abbrev gI:=@Int.pow_succ
abbrev gQ:=@List.all_eq_true
abbrev ie:=@PySem.wpAny_field
abbrev iI:=@List.mem_append
abbrev iJ:=@Int.mul_nonneg
abbrev iY:=@of_decide_eq_true
abbrev iZ:=@PySem.PassesOwn.never
abbrev jd:=@PyProof.Rows.boot_tuple
abbrev je:=@PyProof.Rows.boot_str
abbrev jf:=@Nat.le_trans
abbrev jg:=@Int.mul_pos
abbrev ju:=@PySem.wpAny_mono
abbrev jv:=@Bool.true_and
abbrev jw:=@Bool.false_and
abbrev jS:=@Ne.symm
abbrev jT:=@PySem.IntMulOk.of_bits
abbrev ko:=@PySem.wpAny_newObj_type
abbrev kr:=@congrArg
abbrev ku:=@List.lookup_cons
abbrev kx:=@Bool.eq_iff_iff
abbrev ky:=@Array.length_toList
abbrev kX:=@PySem.wpAny_holding
abbrev kY:=@List.mem_append_right
abbrev kZ:=@List.map_cons
abbrev lj:=@List.map_append
abbrev lV:=@Array.toList_append
abbrev mH:=@Int.one_mul
abbrev nV:=@PySem.wpAny_truthy_bool
abbrev nW:=@PySem.Str.cps_append
abbrev nX:=@Nat.mul_le_mul
abbrev nY:=@Nat.lt_trans
abbrev nZ:=@List.getElem?_eq_none
abbrev o8:=@Int.pow_zero
abbrev pk:=@PyProof.Rows.boot_abs
abbrev pq:=@List.mem_filterMap
abbrev qR:=@PySem.sizeLine_eq
abbrev qS:=@Nat.lt_irrefl
abbrev qT:=@List.length_singleton
abbrev qU:=@List.append_nil
abbrev qV:=@List.any_cons
abbrev qW:=@Int.mul_comm
abbrev qX:=@PySem.Heap.size_push
abbrev tG:=@PySem.wpAny_seqItems
abbrev tH:=@PySem.wpAny_of_eq
abbrev tI:=@PySem.StrLaws.glued_eq_join
abbrev tJ:=@Rat.num_divInt_den
abbrev tK:=@Rat.le_refl
abbrev tL:=@PyProof.Rows.boot_int
abbrev tO:=@Nat.pow_le_pow_right
abbrev tP:=@Nat.ne_of_gt
abbrev tQ:=@List.take_succ
abbrev tR:=@Int.mul_le_mul
abbrev tS:=@Int.mul_assoc
abbrev tT:=@Int.emod_nonneg
abbrev vF:=@PySem.wpAny_specialOf
abbrev vI:=@PySem.codeAny_mono
abbrev vJ:=@PySem.W.callWith_K
abbrev vK:=@Nat.pow_succ
abbrev vL:=@List.take_of_length_le
abbrev vM:=@List.mem_iff_getElem?
abbrev vN:=@List.length_take
abbrev vO:=@List.getElem?_append_left
abbrev vP:=@Int.mul_one
abbrev vQ:=@Int.emod_lt_of_pos
abbrev vR:=@Array.getElem?_eq_getElem
abbrev xY:=@PySem.wpAny_setField
abbrev xZ:=@PySem.wpAny_rule
abbrev y6:=@PySem.wpAny_pyIter_list
abbrev y8:=@PySem.wpAny_passesOwn
abbrev y9:=@PySem.wpAny_call_entry
abbrev yb:=@PySem.wpAny_callSpecial?_slot
abbrev yc:=@PySem.wpAny_Call_Name_kw
abbrev yd:=@PySem.typeIs_str
abbrev ye:=@PyProof.Rows.assignInOrder_cons
abbrev yf:=@Rat.divInt_nonneg_iff_of_pos_right
abbrev yg:=@PySem.W.mg_of
abbrev yh:=@PySem.F.plainAttrs_str
abbrev yi:=@PyProof.Rows.callWith_type1
abbrev yj:=@Nat.lt_of_le_of_lt
abbrev yk:=@List.take_length
abbrev yl:=@List.of_mem_zip
abbrev yn:=@List.mem_of_mem_take
abbrev yo:=@List.mem_cons_of_mem
abbrev yp:=@List.length_set
abbrev yt:=@List.getElem_mem
abbrev yu:=@List.getElem?_append_right
abbrev yw:=@List.ext_getElem?
abbrev yx:=@List.all_cons
abbrev yy:=@Bool.not_eq_true'
abbrev AQ:=@PySem.wpAny_standAt
abbrev AR:=@PySem.wpAny_setField_rec
abbrev AS:=@PySem.wpAny_call
abbrev AU:=@decide_eq_true_eq
abbrev AV:=@PySem.codeAny_builtin
abbrev AW:=@PySem.call_meets
abbrev AX:=@PyProof.Rows.boot_all
abbrev AY:=@PySem.Obj.data_mapFields
abbrev AZ:=@Nat.le_of_lt
abbrev B0:=@List.map_reverse
abbrev B5:=@List.getElem?_zip_eq_some
abbrev B6:=@List.find?_cons
abbrev B7:=@Int.zero_mul
abbrev B8:=@Int.mul_le_mul_of_nonneg_right
abbrev B9:=@Int.mul_le_mul_of_nonneg_left
abbrev Ba:=@PySem.Heap.get?_update_other
abbrev Bb:=@Bool.and_true
abbrev El:=@PySem.wpAny_typeOf
abbrev Em:=@PySem.wpAny_isInstance
abbrev En:=@PySem.wpAny_execs_nil
abbrev Eo:=@PySem.plainId_quiet
abbrev Ep:=@beq_eq_false_iff_ne
abbrev Er:=@PySem.Str.empty_append
abbrev Es:=@Rat.not_lt
abbrev Et:=@PySem.mem_of_lookup
abbrev Eu:=@PySem.W.methodCall_KW
abbrev Ew:=@Option.map_eq_some_iff
abbrev Ey:=@Nat.sub_self
abbrev Ez:=@Nat.le_of_ble_eq_true
abbrev EA:=@List.mem_cons_self
abbrev EB:=@List.map_map
abbrev ED:=@List.length_pos_iff
abbrev EE:=@List.getElem_range
abbrev EF:=@PySem.Heap.get?_update_self
abbrev EG:=@PySem.Heap.SameBut.update
abbrev EH:=@Bool.eq_false_iff
abbrev EI:=@Array.getElem?_toList
abbrev EJ:=@PySem.Around.under_plainId
abbrev Mf:=@PySem.wpAny_pyIter_revIter
abbrev Mg:=@PySem.wpAny_execs_cons
abbrev Mh:=@PyProof.Rows.sumLen_le_of_bound
abbrev Mi:=@PySem.intText_digits
abbrev Mj:=@decide_eq_true_iff
abbrev Ml:=@beq_self_eq_true
abbrev Mm:=@PyProof.Rows.assignInOrder_nil
abbrev Mn:=@PySem.Str.append_empty
abbrev Mo:=@Std.lt_of_le_of_ne
abbrev Mp:=@Rat.num_nonneg
abbrev Mq:=@Rat.le_antisymm
abbrev Mr:=@PySem.W.hideAll_get
abbrev Ms:=@PySem.W.cellsFrom_some
abbrev Mt:=@PySem.Str.append_assoc
abbrev Mu:=@PySem.F.slot_zip_next
abbrev Mw:=@PySem.F.slot_tuple_iterator_next
abbrev My:=@PySem.F.excBase_ValueError
abbrev Mz:=@PyProof.Rows.boot_max
abbrev MB:=@PySem.Obj.isFreed_of_fields
abbrev MC:=@Nat.mul_comm
abbrev MD:=@Nat.lt_succ_of_lt
abbrev ME:=@List.nodup_cons
abbrev MF:=@List.mem_append_left
abbrev MG:=@List.length_reverse
abbrev MH:=@List.forIn_cons
abbrev MI:=@List.foldl_append
abbrev MJ:=@List.all_nil
abbrev MK:=@Int.toNat_natCast
abbrev ML:=@Int.mul_ne_zero
abbrev MM:=@Int.lt_or_le
abbrev MN:=@Int.le_of_lt
abbrev MO:=@PySem.F.slot_str_join
abbrev MP:=@PySem.F.plain_list_iadd
abbrev MQ:=@PySem.Calls.evalArgs_plain
abbrev MR:=@Array.getElem?_eq_some_iff
abbrev WN:=@PySem.wpAny_updateSeq_pair
abbrev WO:=@PySem.wpAny_pyIter_rangeiter
abbrev WQ:=@PySem.wpAny_newFunctionEnv_cells
abbrev WR:=@PySem.wpAny_Call_method_late
abbrev WS:=@of_decide_eq_false
abbrev WT:=@ne_true_of_eq_false
abbrev WU:=@PySem.int_text_length_le10
abbrev WV:=@PySem.codeAny_call_function
abbrev WW:=@Rat.intCast_lt_intCast
abbrev WX:=@Rat.divInt_sub_divInt
abbrev WY:=@Rat.divInt_mul_divInt
abbrev WZ:=@PySem.ofString_length
abbrev X0:=@PySem.W.plainGet_of
abbrev X1:=@PySem.W.codeRec_of
abbrev X2:=@PySem.F.type_str_join
abbrev X3:=@PySem.F.slot_tuple_add
abbrev X4:=@PySem.F.slot_str_join
abbrev X5:=@PySem.F.entry_tuple_add
abbrev X6:=@PySem.F.args_tuple_add_2
abbrev X7:=@PyProof.noPylong_of_log2
abbrev X8:=@PyProof.Rows.slot_tuple_getitem
abbrev X9:=@PyProof.Rows.boot_reversed
abbrev Xa:=@PyProof.Rows.boot_list
abbrev Xb:=@PyProof.Rows.boot_any
abbrev Xc:=@Nat.toDigits_of_lt_base
abbrev Xd:=@Nat.mul_le_mul_right
abbrev Xe:=@List.mem_iff_getElem
abbrev Xf:=@List.length_drop
abbrev Xg:=@List.getLastD_eq_getLast?
abbrev Xh:=@List.getLast?_eq_some_getLast
abbrev Xi:=@List.getElem_set_self
abbrev Xj:=@List.getElem?_zipWith
abbrev Xk:=@List.filterMap_cons
abbrev Xl:=@List.append_assoc
abbrev Xm:=@List.any_eq_true
abbrev Xn:=@Int.natAbs_natCast
abbrev Xo:=@Int.mul_nonneg_of_nonpos_of_nonpos
abbrev Xp:=@Int.lt_trichotomy
abbrev Xq:=@Int.fmod_eq_emod_of_nonneg
abbrev Xr:=@PySem.F.slot_range_reversed
abbrev Xs:=@PySem.Calls.callWith_builtin
abbrev Xt:=@Bool.beq_eq_decide_eq
abbrev Xu:=@Array.all_eq_true_iff_forall_mem
abbrev afK:=@PySem.F.entry_tuple_iterator_next
abbrev afL:=@PySem.F.args_tuple_iterator_next_1
namespace _L
open PySem PySem.Spec PyProof.Rows
abbrev Key:=Sum Int Str
def xc:Key->Value->Bool | .inl k,v=>Value.isInt k v | .inr x,v=>Value.isStrOf x v
def a6j(w:World):Key->Int | .inl k=>hashInt k | .inr x=>hashStr w x
theorem qh:∀{k:Key}{v:Value},xc k v=true->(∃i t,k=Sum.inl i/\v=Value.int i t)\/(∃x t,k=Sum.inr x/\v=Value.str x t) | .inl i,v,h=>by let(t,e):=Value.isInt_shape (k:=i) (v:=v) h;erw[.inl #[i,t,Z,e]] | .inr x,v,h=>by let(t,e):=Value.isStrOf_shape (x:=x) (v:=v) h;erw[.inr #[x,t,Z,e]]
theorem a6i(i:Int)(t:Tok):xc (.inl i) (.int i t)=true:=by simp[xc,Value.isInt]
theorem a6h(x:Str)(t:Tok):xc (.inr x) (.str x t)=true:=by simp[xc,Value.isStrOf]
theorem a6g(a b:Int):decide ((Sum.inl a:Key)=Sum.inl b)=(a==b):=by
 by_cases e:a=b
 ·subst e;simp
 ·have h:¬(Sum.inl a:Key)=Sum.inl b:=λq=>e (Sum.inl.inj q)
  rw[cG h];exact(Ep.mpr e).symm
theorem a6d(a b:Str):decide ((Sum.inr a:Key)=Sum.inr b)=decide (a=b):=by
 by_cases e:a=b
 ·subst e;simp
 ·have h:¬(Sum.inr a:Key)=Sum.inr b:=λq=>e (Sum.inr.inj q)
  rw[cG h,cG e]
theorem a6f(a:Int)(b:Str):decide ((Sum.inl a:Key)=Sum.inr b)=false:=cG (λq=>nomatch q)
theorem a6e(a:Str)(b:Int):decide ((Sum.inr a:Key)=Sum.inl b)=false:=cG (λq=>nomatch q)
def jE(prog:af)(w:World):PySem.KeyKind prog w Key where
 is:=xc
 hash:=a6j w
 inj:=λv a b ha hb=>by
  rcases qh ha with⟨i,t,rfl,rfl⟩|⟨x,t,rfl,rfl⟩
  ·rcases qh hb with⟨j,u,rfl,e⟩|⟨y,u,rfl,e⟩
   ·injection e with e1 _;rw[e1]
   ·erw[nomatch e]
  ·rcases qh hb with⟨j,u,rfl,e⟩|⟨y,u,rfl,e⟩
   ·erw[nomatch e]
   ·injection e with e1 _;rw[e1]
 byValue:=λk v h=>by rcases qh h with⟨i,t,rfl,rfl⟩|⟨x,t,rfl,rfl⟩<;>rfl
 pyHash:=λhv h=>by
  rcases qh hv with⟨i,t,rfl,rfl⟩|⟨x,t,rfl,rfl⟩
  ·erw[wpAny_pyHash_int h]
  ·erw[wpAny_pyHash_str h]
 eqBool:=λhu hv h=>by
  rcases qh hu with⟨i,t,rfl,rfl⟩|⟨x,t,rfl,rfl⟩
  ·rcases qh hv with⟨j,u,rfl,rfl⟩|⟨y,u,rfl,rfl⟩
   ·rw[a6g]at h;erw[wpAny_eqBool_int h]
   ·rw[a6f]at h;erw[SeqAt.EqAt.int_str i t y u _ _ _ _ h]
  ·rcases qh hv with⟨j,u,rfl,rfl⟩|⟨y,u,rfl,rfl⟩
   ·rw[a6e]at h;erw[SeqAt.EqAt.str_int x t j u _ _ _ _ h]
   ·rw[a6d]at h;erw[wpAny_eqBool_str h]
 «strs»:=λk x t v h=>by
  rcases qh h with⟨i,u,rfl,e⟩|⟨y,u,rfl,e⟩
  ·erw[nomatch e]
  ·injection e with e1 _
   subst e1;cases v<;>rfl
theorem a5d(prog:af)(w:World)(i:Int)(t:Tok):(jE prog w).is (.inl i) (.int i t)=true:=a6i i t
theorem a5c(prog:af)(w:World)(x:Str)(t:Tok):(jE prog w).is (.inr x) (.str x t)=true:=a6h x t
inductive V where |bD|bl (b:Bool)|int (i:Int)|str (x:Str)|kR (b:Array UInt8)|DI (b:UInt64)|ref (a:Addr)|ty (n:String) deriving DecidableEq
def RelV:V->Value->Prop | .bD,u=>u=Value.none | .bl b,u=>u=Value.bool b | .int i,u=>∃t,u=Value.int i t | .str x,u=>∃t,u=Value.str x t | .kR b,u=>∃t,u=Value.bytes b t | .DI b,u=>∃t,u=Value.float b t | .ref a,u=>u=Value.ref a | .ty n,u=>u=Value.type n
abbrev Vals:List V->List Value->Prop:=Paired RelV
theorem Vals.length{xs:List V}{us:List Value}(r:Vals xs us):xs.length=us.length:=Paired.length r
theorem Vals.get:∀{xs:List V}{us:List Value}{i:Nat}{x:V},Vals xs us->xs[i]? =some x->∃u,us[i]? =some u/\RelV x u |_,_,_,_,.nil,e=>by simp at e |_,_,0,_,.cons r _,e=>by simp at e;subst e;erw[_,rfl,r] |_,_,i+1,x,.cons _ t,e=>by let(u,h1,h2):=Vals.get (i:=i) (x:=x) t (by simpa using e);erw[u,by simpa using h1,h2]
theorem Vals.set{x:V}{u:Value}(r:RelV x u):∀{xs:List V}{us:List Value}(i:Nat),Vals xs us->Vals (xs.set i x) (us.set i u) |_,_,_,.nil=>.nil |_,_,0,.cons _ t=>.cons r t |_,_,i+1,.cons q t=>.cons q (Vals.set r i t)
theorem Vals.append:∀{xs ys:List V}{us ws:List Value},Vals xs us->Vals ys ws->Vals (xs++ys) (us++ws) |_,_,_,_,.nil,s=>s |_,_,_,_,.cons r t,s=>.cons r (Vals.append t s)
theorem Vals.take:∀{xs:List V}{us:List Value}(n:Nat),Vals xs us->Vals (xs.take n) (us.take n) |_,_,0,_=>.nil |_,_,_+1,.nil=>.nil |_,_,n+1,.cons r t=>.cons r (Vals.take n t)
theorem Vals.drop:∀{xs:List V}{us:List Value}(n:Nat),Vals xs us->Vals (xs.drop n) (us.drop n) |_,_,0,r=>r |_,_,_+1,.nil=>.nil |_,_,n+1,.cons _ t=>Vals.drop n t
def jP:Option V->Option Value->Prop |some v,some u=>RelV v u |none,none=>True |_,_=>False
def KV{κ:Type}:List (κ×V)->List (κ×Value)->Prop:=Paired λ(p:κ×V)(q:κ×Value)=>p.1=q.1/\RelV p.2 q.2
def kV:Key->V | .inl i=>.int i | .inr x=>.str x
inductive HO where /--a list -/ |lst (xs:List V) /--a tuple (never changes) -/ |tup (xs:List V) /--a dict XM keys are ints and texts; one XM keys are tuples of ints and texts (vX empty one is both) -/ |dK (aM:List (Key×V))|dT (aM:List (List Key×V)) /--a set of ints: its members,its size -/ |set (S:Int->Bool)(n:Nat) /--an instance of vX class at C,its dict at dx,its attributes -/ |ins (C dx:Addr)(fs:List (Str×V)) /--vX dict of vX instance at x -/ |own (x:Addr) /--vX dict of an exception -/ |xd (fs:List (Str×V)) /--a bound method,f of x -/ |met (f x:Addr) /--a range object lo,lo+1,.. below hi -/ |uq (lo hi:Int) /--a Yy afS is known to vX object (vX afY; a dict while a loop walks it): read,never written while it is so -/ |nH (o:Obj)(u:HO) /--a code ag5 table -/ |pC (ps:Array Value) /--any other Yy,by what is true of its one object (a def of ag3 own: agY a S n:=HO.ext λh=>..) -/ |ext (φ:Heap->Prop)
abbrev Hp:=Addr->Option HO
def upd(H:Hp)(a:Addr)(o:HO):Hp:=λb=>if b=a then some o else H b
theorem bP:upd H a o a=some o:=by unfold upd;rw[bo rfl]
theorem aQ{b:Addr}(h:b≠a):upd H a o b=H b:=by unfold upd;rw[bj h]
theorem ET:upd (upd H a o) a u=upd H a u:=by funext b;unfold upd;split<;>rfl
theorem iP{H:Hp}{a b:Addr}{o u:HO}(h:H a=some o)(h':H b=some u)(d:o≠u):a≠b:=by intro e;subst e;rw[h]at h';erw[d (dU h')]
theorem iO{H:Hp}{a b:Addr}{o:HO}(h:H a=some o)(h':H b=none):a≠b:=by intro e;subst e;rw[h]at h';cases h'
section
variable (P:af) (w:World)
def gb(H:Hp)(h:Heap)(a:Addr):HO->Prop | .lst xs=>xs.length<=sizeLine/\∃(its:List Value)(n:Nat),Vals xs its/\h.get? a=some {cls:=.type "list",data:=.seq its.toArray n} | .tup xs=>xs.length<=sizeLine/\∃its:List Value,Vals xs its/\IsTup h a its.toArray | .dK aM=>aM.length<=sizeLine/\(a==sysModules)=false/\∃vs,KV aM vs/\h.DictOf (jE P w) a vs | .dT aM=>aM.length<=sizeLine/\(a==sysModules)=false/\∃xs:List (List Key×Addr×Value),Paired (λ(p:List Key×V)(q:List Key×Addr×Value)=>p.1=q.1/\H q.2.1=some (.tup (p.1.map kV))/\RelV p.2 q.2.2) aM xs/\∃o es ep,h.get? a=some o/\o.ExactDict/\o.data= .dict es ep/\es.toList=xs.map (entryOfKey (tupleKind (jE P w)))/\(xs.map (·.1)).Nodup | .set S n=>h.SetOf (intKind P w) a S n | .ins C dx fs=>H dx=some (.own a)/\fs.length<=1000/\dx≠a/\h.get? a=some (PySem.W.instObj C dx)/\∃mA,h.Ns1 dx mA/\(∀f,jP (fs.lookup f) (mA f))/\PySem.Within mA (fs.map (·.1)) | .own _=>∃o,h.get? a=some o | .xd fs=>∃mA,h.Ns1 a mA/\∀f,jP (fs.lookup f) (mA f) | .uq lo hi=>∃t u v,h.get? a=some {cls:=.type "range",data:=.fields (List.toArray [.int lo t,.int hi u,.int 1 v])} | .nH o u=>h.get? a=some o/\gb H h a u | .pC ps=>h.get? a=some {cls:=.none,data:=.fields ps} | .met f x=>h.get? a=some (PySem.W.methodObj (.ref f) (.ref x)) | .ext φ=>φ h/\(∃o,h.get? a=some o)/\∀h1 h2:Heap,φ h1->(∀o,h1.get? a=some o->h2.get? a=some o)->φ h2
def dS(H:Hp)(h:Heap):Prop:=∀a o,H a=some o->gb P w H h a o
end
section
variable {P:af}{w:World}{H H':Hp}{h h':Heap}{a:Addr}{o:HO}
theorem gb.lt(x:gb P w H h a o):a<h.objs.size:=by cases o with |lst xs=>let(_,_,_,_,e):=x;erw[bX e] |tup xs=>let(_,_,_,p):=x;erw[p.lt] |dK aM=>let(_,_,_,_,o,_,_,e,_):=x;erw[bX e] |dT aM=>let(_,_,_,_,o,_,_,e,_):=x;erw[bX e] |set S n=>let(o,_,_,_,e,_):=x;erw[bX e] |ins C dx fs=>let(_,_,_,e,_):=x;erw[bX e] |own y=>let(_,e):=x;erw[bX e] |xd fs=>let(_,(_,_,_,e,_),_):=x;erw[bX e] |uq lo hi=>let(_,_,_,e):=x;erw[bX e] |nH ob u=>let(e,_):=x;erw[bX e] |pC ps=>erw[bX (show h.get? a=some _ from x)] |met f y=>erw[bX (show h.get? a=some _ from x)] |ext φ=>let(_,(_,e),_):=x;erw[bX e]
theorem Paired.Jk{α β:Type}{F G:α->β->Prop}:∀{l₁:List α}{l₂:List β},Paired F l₁ l₂->(∀a b,F a b->G a b)->Paired G l₁ l₂ |_,_,.nil,_=>.nil |_,_,.cons r t,f=>.cons (f _ _ r) (Paired.Jk t f)
theorem gb.pF(x:gb P w H h a o)(k:∀b u,(b=a\/H b=some (.own a))->h.get? b=some u->h'.get? b=some u) (ho:∀b,H b=some (.own a)->H' b=some (.own a))(ht:∀b xs,H b=some (.tup xs)->H' b=some (.tup xs)):gb P w H' h' a o:=by induction o with |lst xs=>let(z,its,n,r,e):=x;erw[z,its,n,r,k _ _ (.inl Z) e] |tup xs=>let(z,its,r,ob,e,c):=x;erw[z,its,r,ob,k _ _ (.inl Z) e,c] |dK aM=>let(z,y,vs,r,ob,es,ep,e,c):=x;erw[z,y,vs,r,ob,es,ep,k _ _ (.inl Z) e,c] |dT aM=>let(z,y,xs,r,ob,es,ep,e,c):=x;erw[z,y,xs,Paired.Jk r λp q z=>#[z.1,ht _ _ z.2.1,z.2.2],ob,es,ep,k _ _ (.inl Z) e,c] |set S n=>let(ob,es,ep,t,e,c):=x;erw[ob,es,ep,t,k _ _ (.inl Z) e,c] |ins C dx fs=>let(d,z,ne,e,mA,(od,es,ep,e2,c),r):=x;erw[ho _ d,z,ne,k _ _ (.inl Z) e,mA,#[od,es,ep,k _ _ (.inr d) e2,c],r] |own y=>let(ob,e):=x;erw[ob,k _ _ (.inl Z) e] |xd fs=>let(mA,(od,es,ep,e,c),r):=x;erw[mA,#[od,es,ep,k _ _ (.inl Z) e,c],r] |uq lo hi=>let(t,u,v,e):=x;erw[t,u,v,k _ _ (.inl Z) e] |nH ob u ih=>let(e,q):=x;erw[k _ _ (.inl Z) e,ih q] |pC ps=>have e:h.get? a=some {cls:=.none,data:=.fields ps}:=x;show h'.get? a=some {cls:=.none,data:=.fields ps};erw[k a _ (.inl Z) e] |met f y=>have e:h.get? a=some (PySem.W.methodObj (.ref f) (.ref y)):=x;show h'.get? a=some (PySem.W.methodObj (.ref f) (.ref y));erw[k a _ (.inl Z) e] |ext φ=>let(p,(o,e),st):=x;erw[st _ _ p λo q=>k _ _ (.inl Z) q,#[o,k _ _ (.inl Z) e],st]
theorem dS.lt(x:dS P w H h)(e:H a=some o):a<h.objs.size:=(x a o e).lt
theorem dS.fresh(x:dS P w H h)(e:h.objs.size<=a):H a=none:=by cases q:H a with |none=>rfl |some u=>erw[absurd (gH (x.lt q) e) (qS _)]
theorem dS.kept(x:dS P w H h)(k:∀b u,h.get? b=some u->h'.get? b=some u):dS P w H h':=λa o e=>(x a o e).pF (λb u _ q=>k b u q) (λ_ q=>q) λ_ _ q=>q
theorem dS.laid(x:dS P w H h)(k:∀b u,h.get? b=some u->h'.get? b=some u)(hp:h.objs.size<=a)(new:gb P w (upd H a o) h' a o):dS P w (upd H a o) h':=λb u e=>by
 have hn:=x.fresh hp;by_cases hb:b=a
 ·subst hb;rw[bP]at e;cases e;erw[new]
 ·rw[aQ hb]at e
  exact(x b u e).pF (λc v _ q=>k c v q) (λc q=>by rw[aQ (iO q hn)];erw[q]) λc xs q=>by rw[aQ (iO q hn)];erw[q]
end
def Rd(H:Hp)(a:Addr)(u:HO):Prop:=H a=some u\/∃o,H a=some (.nH o u)
theorem Rd.ok{P:af}{w:World}{H:Hp}{h:Heap}{a:Addr}{u:HO}(r:Rd H a u)(x:dS P w H h):gb P w H h a u:=by
 rcases r with r|⟨o,r⟩
 ·erw[x a u r]
 ·let(_,q):=x a _ r
  erw[q]
def AK:Option HO->Prop |some (.lst _)=>True |some (.dK _)=>True |some (.dT _)=>True |some (.set _ _)=>True |some (.ins _ _ _)=>True |some (.ext _)=>True |_=>False
section
variable {P:af}{w:World}{H:Hp}{h h':Heap}{x e:Addr}{o':HO}
theorem dS.write(ok:dS P w H h)(mu:AK (H x))(he:e=x\/H e=some (.own x))(k:∀b u,b≠e->h.get? b=some u->h'.get? b=some u)(xo:∃u,h'.get? e=some u) (new:gb P w (upd H x o') h' x o'):dS P w (upd H x o') h':=λb u q=>by
 have Sb:∀c y,H c=some (.own y)->c≠x:=λc y r z=>by subst z;rw[r]at mu;erw[mu]
 have a4n:∀c xs,H c=some (.tup xs)->c≠x:=λc xs r z=>by subst z;rw[r]at mu;erw[mu]
 by_cases hb:b=x
 ·subst hb;rw[bP]at q;cases q;erw[new]
 ·rw[aQ hb]at q
  by_cases uW:b=e
  ·have q':H b=some (.own x):=by
    rcases he with z|z
    ·erw[absurd (uW.trans z) hb]
    ·rw[uW];erw[z]
   rw[q]at q';cases q';let(v,hv):=xo;erw[v,by rw[uW];erw[hv]]
  ·refine(ok b u q).pF (λc v hc r=>k c v ?_ r) (λc r=>by rw[aQ (Sb c b r)];erw[r]) λc xs r=>by rw[aQ (a4n c xs r)];erw[r]
   rcases hc with rfl|hc
   ·erw[uW]
   ·rintro rfl
    rcases he with z|z
    ·erw[Sb c b hc z]
    ·rw[hc]at z;cases z;erw[hb rfl]
end
structure Un(fs ex:List Addr)(H H':Hp)(h h':Heap):Prop where
 keep:∀b o,h.get? b=some o->H b=none->b∉fs->b∉ex->h'.get? b=some o
 slot:∀b o,h.get? b=some o->H b=none->b∈fs->b∉ex->∃sl,h'.get? b=some {o with slots:=sl}
 free:∀b o,h.get? b=some o->H b=none->b∉ex->H' b=none
 there:∀b o,h.get? b=some o->b∉ex->∃o',h'.get? b=some o'
 lB:∀b xs,H b=some (.tup xs)->H' b=some (.tup xs)
 kP:∀b o u,H b=some (.nH o u)->H' b=some (.nH o u)
 lC:∀b ps,H b=some (.pC ps)->∃more,H' b=some (.pC (ps++more))
section
variable {fs oX ex fX:List Addr}{H H1 H2:Hp}{h h1 h2 h':Heap}{a x e:Addr}{o:HO}
theorem Un.any(u:Un fs ex H H1 h h1){b:Addr}{ob:Obj}(q:h.get? b=some ob)(n:H b=none)(hx:b∉ex):∃sl,h1.get? b=some {ob with slots:=sl}:=by
 by_cases hb:b∈fs
 ·erw[u.slot b ob q n hb hx]
 ·erw[ob.slots,u.keep b ob q n hb hx]
theorem Un.kept(k:∀b u,h.get? b=some u->h'.get? b=some u):Un fs ex H H h h':=#[λb ob q _ _ _=>k b ob q,λb ob q _ _ _=>#[ob.slots,k b ob q],λ_ _ _ n _=>n,λb ob q _=>#[ob,k b ob q],λ_ _ q=>q,λ_ _ _ q=>q,λ_ ps q=>#[#[],by rw[q];simp]]
theorem Un.refl:Un fs ex H H h h:=Un.kept λ_ _ q=>q
theorem Un.laid(k:∀b u,h.get? b=some u->h'.get? b=some u)(hp:h.objs.size<=a)(hn:H a=none):Un fs ex H (upd H a o) h h' where
 keep:=λb u q _ _ _=>k b u q
 slot:=λb u q _ _ _=>#[u.slots,k b u q]
 free:=λb u q n _=>by rw[aQ (dI (gH (bX q) hp))];erw[n]
 there:=λb u q _=>#[u,k b u q]
 lB:=λb xs q=>by rw[aQ (iO q hn)];erw[q]
 kP:=λb u xs q=>by rw[aQ (iO q hn)];erw[q]
 lC:=λb ps q=>#[#[],by rw[aQ (iO q hn),q];simp]
theorem Un.write(mu:AK (H x))(he:e=x\/H e=some (.own x))(k:∀b u,b≠e->h.get? b=some u->h'.get? b=some u)(xo:∃u,h'.get? e=some u):Un fs ex H (upd H x o) h h':=by
 have hx:∀b,H b=none->b≠x:=λb n z=>by subst z;rw[n]at mu;erw[mu]
 have hb:∀b,H b=none->b≠e:=λb n z=>by
  subst z;rcases he with r|r
  ·erw[hx b n r]
  ·rw[n]at r;cases r
 have hm:∀b u,H b=some u->¬AK (some u)->b≠x:=λb u q nm z=>by subst z;rw[q]at mu;erw[nm mu]
 erw[λb u q n _ _=>k b u (hb b n) q,λb u q n _ _=>#[u.slots,k b u (hb b n) q],λb u q n _=>by rw[aQ (hx b n)];erw[n],λb u q _=>?_,λb xs q=>by rw[aQ (hm b _ q λz=>z)];erw[q],λb u xs q=>by rw[aQ (hm b _ q λz=>z)];erw[q],λb ps q=>#[#[],by rw[aQ (hm b _ q λz=>z),q];simp]];by_cases uW:b=e
 ·subst uW;erw[xo]
 ·erw[u,k b u uW q]
end
def Bv(h:Heap)(H:Hp):List Addr:=(List.range h.objs.size).filter λa=>(H a).isSome
def qq(h:Heap)(H:Hp):Heap:=PySem.W.hideAll h (Bv h H)
theorem a7O(h:Heap)(H:Hp):(qq h H).objs.size=h.objs.size:=PySem.W.hideAll_size _ _
theorem a7P{b:Addr}(e:h.get? b=some o)(n:H b=none):(qq h H).get? b=some o:=Mr _ e λhm=>by have q:(H b).isSome=true:=(List.mem_filter.mp hm).2;rw[n]at q;simp at q
theorem a4c{b:Addr}(e:(qq h H).get? b=some o):h.get? b=some o/\H b=none:=by have e':h.get? b=some o:=PySem.W.of_hideAll (Bv h H) e;erw[e',?_];cases q:H b with |none=>rfl |some x=>have hm:b∈Bv h H:=List.mem_filter.mpr #[List.mem_range.mpr (bX e'),by simp[q]];have z:(qq h H).get? b=none:=PySem.W.hideAll_none (Bv h H) hm;rw[z]at e;cases e
structure Mod(K:aa)(mg:bO)(au:Heap):Prop where
 lJ:K.In au
 glob:au.Ns mainGlobals mg
 blt:∃mb,au.Ns builtinsNs mb/\∀x:Str,x≠"__name__"->mb x=bootBuiltins x
 nolimit:au.NoLimit
structure Cx where
 prog:af
 w:World
 K:aa
 mg:bO
 au:Heap
 A:ah
 N:List Str
 s₀:ae
 H₀:Hp
 env:Env
 outer:List Env
 stack:List Env
 ex:List Addr
 fn:Str->Bool
 calm:Bool
 pn:List (Addr×Obj)
 xe:Value->ae->Prop
def fj(l:List Env):List Addr:=l.filterMap (·.frame)
abbrev Cx.fs(X:Cx):List Addr:=fj X.outer
def AF(sc:Scope)(x:Str):Prop:=sc.names.lookup x=some .local\/sc.names.lookup x=some .cell\/sc.names.lookup x=some .free
def Loc(sc:Scope)(x:Str):Prop:=sc.names.lookup x=some .local\/sc.names.lookup x=some .cell
def Look(env:Env)(h:Heap)(m:bO)(x:Str)(u:Value):Prop:=(env.kindOf x=some .local/\m x=some u)\/((env.kindOf x=some .cell\/env.kindOf x=some .free)/\∃c,env.cells.lookup x=some c/\h.IsCell c (some u))
structure Cx.Ok(X:Cx):Prop where
 mod:Mod X.K X.mg X.au
 kind:X.env.scope.kind= .function
 glob:X.env.globals=mainGlobals
 blt:X.env.builtins=builtinsNs
 above:X.s₀.heap.objs.size<=X.env.locals
 inj:∀x y c,X.env.cells.lookup x=some c->X.env.cells.lookup y=some c->x=y
 has:∀x,(X.env.kindOf x=some .cell\/X.env.kindOf x=some .free)->∃c,X.env.cells.lookup x=some c
 sW:∀x c,X.fn x=true->X.env.cells.lookup x=some c->X.s₀.heap.objs.size<=c
 hd:X.calm=true->X.A.handled=none
 frames:X.A.frames=some X.stack
 u9:X.stack=X.outer\/(X.stack=X.env::X.outer/\X.env.frame=some X.env.locals)
 Af:∀b∈X.ex,b≠X.env.locals/\∀x c,X.env.cells.lookup x=some c->c≠b
 bs:∀b o,X.au.get? b=some o->X.s₀.heap.get? b=some o/\X.H₀ b=none
 lP:X.au.objs.size<=X.s₀.heap.objs.size
 rV:∀b o,X.au.get? b=some o->b∉X.ex
 qC:∀b∈X.ex,b∉X.fs
 jG:X.s₀.heap.FunFrames X.au X.outer
 nJ:∀b∈X.fs,X.H₀ b=none
structure Inv(X:Cx)(pins:List (Addr×Obj))(O:List (Option V))(H:Hp)(s:ae):Prop where
 ok:X.Ok
 os:s.os=X.s₀.os
 bare:AllBare s.gens
 au:Un X.fs X.ex X.H₀ H X.s₀.heap s.heap
 loc:∃m,s.heap.Ns X.env.locals m/\∀(i:Nat)(x:Str)(v:V),X.N[i]? =some x->O[i]? =some (some v)->AF X.env.scope x->∃u,RelV v u/\Look X.env s.heap m x u
 cell:∀x c,X.env.cells.lookup x=some c->∃v,s.heap.IsCell c v
 free:H X.env.locals=none
 kQ:∀x c,X.env.cells.lookup x=some c->H c=none
 pin:∀p∈X.pn++pins,s.heap.get? p.1=some p.2/\H p.1=none/\p.1≠X.env.locals/\p.1∉X.fs/\∀v,p.2.data≠ .cell v
 bp:dS X.prog X.w H s.heap
 len:O.length=X.N.length
section
variable {X:Cx}{pins:List (Addr×Obj)}{O:List (Option V)}{H H':Hp}{s:ae}{h':Heap}
theorem Cx.Ok.a4H(ok:X.Ok){b:Addr}{o:Obj}(e:X.au.get? b=some o):b∉X.fs:=λhb=>by have:=(ok.jG.mem hb).1;rw[e]at this;cases this
theorem Inv.bs(I:Inv X pins O H s):∀b o,X.au.get? b=some o->s.heap.get? b=some o/\H b=none:=λb o e=>#[I.au.keep b o (I.ok.bs b o e).1 (I.ok.bs b o e).2 (I.ok.a4H e) (I.ok.rV b o e),I.au.free b o (I.ok.bs b o e).1 (I.ok.bs b o e).2 (I.ok.rV b o e)]
theorem Inv.bk(I:Inv X pins O H s):∀b o,X.au.get? b=some o->s.heap.get? b=some o:=λb o e=>(I.bs b o e).1
theorem Inv.mod(I:Inv X pins O H s):Mod X.K X.mg X.au:=I.ok.mod
theorem Inv.fD(I:Inv X pins O H s):X.K.In s.heap:=I.ok.mod.lJ.keeps I.bk
theorem Inv.lt(I:Inv X pins O H s):X.env.locals<s.heap.objs.size:=let#[_,hn,_]:=I.loc;hn.lt
theorem Inv.sz(I:Inv X pins O H s):X.s₀.heap.objs.size<=s.heap.objs.size:=jf I.ok.above (AZ I.lt)
theorem Inv.a4F(I:Inv X pins O H s){a:Addr}(h:s.heap.objs.size<=a):a∉X.fs:=λhb=>by let(_,o,ho,_):=I.ok.jG.mem hb;erw[absurd (gH (bX ho) (jf I.sz h)) (qS _)]
theorem Inv.vn(I:Inv X pins O H s):∀x c,X.env.cells.lookup x=some c->c≠X.env.locals:=λx c e z=>by let(v,o,ho,hd):=I.cell x c e;let(m,(o',es,ep,ng,Kc,_),_):=I.loc;rw[z,ng]at ho;cases ho;rw[Kc]at hd;cases hd
theorem Inv.jG(I:Inv X pins O H s):s.heap.FunFrames X.au X.outer:=by
 have all:∀(l:List Env),(∀b∈fj l,b∈X.fs)->X.s₀.heap.FunFrames X.au l->s.heap.FunFrames X.au l:=by intro l;induction l with |nil=>intro _ _;trivial |cons env r ih=>intro hs hl;let(hk,(L,o,hf,hn,ho,hd),hr):=hl;have hL:L∈X.fs:=hs L (by unfold fj;rw[Xk,hf];erw[EA]);let(sl,e):=I.au.slot L o ho (I.ok.nJ L hL) hL λz=>I.ok.qC L z hL;erw[hk,#[L,_,hf,hn,e,hd],ih (λb hb=>hs b (by unfold fj;rw[Xk,hf];erw[yo _ hb])) hr]
 erw[all X.outer (λ_ hb=>hb) I.ok.jG]
theorem Inv.stack(I:Inv X pins O H s):s.heap.FunFrames X.au X.stack:=by
 rcases I.ok.u9 with e|⟨e,hf⟩
 ·rw[e];erw[I.jG]
 ·rw[e]
  let(m,hn,_):=I.loc;erw[.cons (by rw[I.ok.kind];decide) hf hn ?_ I.jG];erw[Heap.get?_none_of_le (jf I.ok.lP I.ok.above)]
theorem Inv.F9(I:Inv X pins O H s):∀b∈fj X.stack,b∈X.env.locals::X.fs:=λb hb=>by
 rcases I.ok.u9 with e|⟨e,hf⟩
 ·rw[e]at hb;erw[yo _ hb]
 ·rw[e]at hb
  unfold fj at hb;rw[Xk,hf]at hb;erw[hb]
theorem Inv.BG(I:Inv X pins O H s):∀b∈fj X.stack,H b=none:=λb hb=>by
 rcases bI.mp (I.F9 b hb)with e|hb
 ·rw[e];erw[I.free]
 ·let(_,o,ho,_):=I.ok.jG.mem hb
  erw[I.au.free b o ho (I.ok.nJ b hb) λz=>I.ok.qC b z hb]
theorem Inv.step{t':Nat}{ch:List Addr}(I:Inv X pins O H s) (my:∀b∈ch,(b∈X.ex\/X.s₀.heap.objs.size<=b)/\b≠X.env.locals/\(∀x c,X.env.cells.lookup x=some c->c≠b)/\∀p∈X.pn++pins,p.1≠b) (keep:∀b o,b≠X.env.locals->b∉X.fs->b∉ch->s.heap.get? b=some o->H b=none->h'.get? b=some o) (slot:∀b o,b≠X.env.locals->b∈X.fs->b∉ch->s.heap.get? b=some o->H b=none->∃sl,h'.get? b=some {o with slots:=sl})(free:∀b o,b∉ch->s.heap.get? b=some o->H b=none->H' b=none) (there:∀b o,b∉ch->s.heap.get? b=some o->∃o',h'.get? b=some o') (lB:∀b xs,H b=some (.tup xs)->H' b=some (.tup xs))(kP:∀b o u,H b=some (.nH o u)->H' b=some (.nH o u))(lC:∀b ps,H b=some (.pC ps)->∃more,H' b=some (.pC (ps++more))) (ns:∀m,s.heap.Ns X.env.locals m->h'.Ns X.env.locals m)(bp:dS X.prog X.w H' h')(hg:AllBare g'): Inv X pins O H' {s with heap:=h',gens:=g',drawn:=d',toks:=t'}:=by
 have Ss:∀b o,X.s₀.heap.get? b=some o->b≠X.env.locals:=λb o e=>dI (gH (bX e) I.ok.above);have CB:∀b o,X.s₀.heap.get? b=some o->b∉X.ex->b∉ch:=λb o e hx hb=>by
  rcases(my b hb).1 with z|z
  ·erw[hx z]
  ·erw[absurd (gH (bX e) z) (qS _)]
 have cellK:∀x c,X.env.cells.lookup x=some c->∀v,s.heap.IsCell c v->h'.IsCell c v:=λx c e v #[o,ho,hd]=>by
  have zx:c∉ch:=λz=>(my c z).2.2.1 x c e rfl;by_cases hc:c∈X.fs
  ·let(sl,q):=slot c o (I.vn x c e) hc zx ho (I.kQ x c e)
   erw[_,q,hd]
  ·erw[o,keep c o (I.vn x c e) hc zx ho (I.kQ x c e),hd]
 erw[I.ok,I.os,hg,#[λb o e n hb hx=>?_,λb o e n hb hx=>?_,λb o e n hx=>?_,λb o e hx=>?_,λb xs e=>lB b xs (I.au.lB b xs e),λb o xs e=>kP b o xs (I.au.kP b o xs e),λb ps e=>?_],?_,λx c e=>?_,?_,λx c e=>?_,λp hp=>?_,bp,I.len]
 ·erw[keep b o (Ss b o e) hb (CB b o e hx) (I.au.keep b o e n hb hx) (I.au.free b o e n hx)]
 ·let(sl,e1):=I.au.slot b o e n hb hx
  let(FD,e2):=slot b _ (Ss b o e) hb (CB b o e hx) e1 (I.au.free b o e n hx);erw[FD,e2]
 ·let(o',e1):=I.au.there b o e hx
  erw[free b o' (CB b o e hx) e1 (I.au.free b o e n hx)]
 ·let(o',e1):=I.au.there b o e hx
  erw[there b o' (CB b o e hx) e1]
 ·let(m1,e1):=I.au.lC b ps e
  let(m2,e2):=lC b _ e1;erw[m1++m2,by rw[e2,Array.append_assoc]]
 ·let(m,hn,hl):=I.loc
  erw[m,ns m hn,λi x v e1 e2 e3=>?_];let(u,r,l):=hl i x v e1 e2 e3;erw[u,r,?_];rcases l with l|⟨k,c,e,z⟩
  ·erw[.inl l]
  ·erw[.inr #[k,c,e,cellK x c e _ z]]
 ·let(v,z):=I.cell x c e
  erw[v,cellK x c e v z]
 ·let(m,(o,_,_,ho,_),_):=I.loc
  erw[free _ o (λz=>(my _ z).2.1 Z) ho I.free]
 ·let(v,o,ho,hd):=I.cell x c e
  erw[free c o (λz=>(my c z).2.2.1 x c e Z) ho (I.kQ x c e)]
 ·let(e,n,ne,nf,d):=I.pin p hp
  have zx:p.1∉ch:=λz=>(my p.1 z).2.2.2 p hp rfl;erw[keep p.1 p.2 ne nf zx e n,free p.1 p.2 zx e n,ne,nf,d]
theorem Inv.un(I:Inv X pins O H s)(u:Un X.fs [] H H' s.heap h')(bp:dS X.prog X.w H' h'):Inv X pins O H' {s with heap:=h',toks:=t'}:=by let(m,(o,es,ep,ho,r),_):=id I.loc;let(sl,hL):=u.any ho I.free (by simp);erw[I.step (g':=s.gens) (d':=s.drawn) (ch:=[]) (λ_ z=>nomatch z) (λb o _ hb _ e n=>u.keep b o e n hb (by simp)) (λb o _ hb _ e n=>u.slot b o e n hb (by simp)) (λb o _ e n=>u.free b o e n (by simp)) (λb o _ e=>u.there b o e (by simp)) u.lB u.kP u.lC (λm' hm=>by let(o',qD,L6,ng,r'):=hm;rw[ho]at ng;cases ng;erw[_,qD,L6,hL,r']) bp I.bare]
theorem Inv.call(I:Inv X pins O H s)(u:Un (fj X.stack) ch H H' s.heap h')(bp:dS X.prog X.w H' h')(hg:AllBare g') (my:∀b∈ch,(b∈X.ex\/X.s₀.heap.objs.size<=b)/\b≠X.env.locals/\(∀x c,X.env.cells.lookup x=some c->c≠b)/\∀p∈X.pn++pins,p.1≠b): Inv X pins O H' {s with heap:=h',gens:=g',drawn:=d',toks:=t'}:=by let(m,(o,es,ep,ho,r),_):=id I.loc;let(sl,hL):=u.any ho I.free λz=>(my _ z).2.1 rfl;erw[I.step (ch:=ch) my (λb o hL hb hc e n=>u.keep b o e n (λz=>(bI.mp (I.F9 b z)).elim hL hb) hc) (λb o _ _ hc e n=>u.any e n hc) (λb o hc e n=>u.free b o e n hc) (λb o hc e=>u.there b o e hc) u.lB u.kP u.lC (λm' hm=>by let(o',qD,L6,ng,r'):=hm;rw[ho]at ng;cases ng;erw[_,qD,L6,hL,r']) bp hg]
theorem Inv.turned{it:Addr}(I:Inv X pins O H s)(k:∀b o,b≠it->s.heap.get? b=some o->h'.get? b=some o)(hn:H it=none)(hL:it≠X.env.locals) (h1:it∈X.ex\/X.s₀.heap.objs.size<=it)(h2:∀x c,X.env.cells.lookup x=some c->c≠it)(h3:∀p∈X.pn++pins,p.1≠it):Inv X pins O H {s with heap:=h',toks:=t'}:=by
 have zw:∀b u,H b=some u->b≠it:=λb u e z=>by rw[z,hn]at e;cases e
 erw[I.step (g':=s.gens) (d':=s.drawn) (ch:=[it]) (λb hb=>?_) (λb o _ _ hc e _=>k b o (λz=>hc (by simp[z])) e) (λb o _ _ hc e _=>#[o.slots,k b o (λz=>hc (by simp[z])) e]) (λ_ _ _ _ n=>n) (λb o hc e=>#[o,k b o (λz=>hc (by simp[z])) e]) (λ_ _ e=>e) (λ_ _ _ e=>e) (λb ps e=>#[#[],by rw[e];simp]) (λm hm=>?_) (λb u e=>?_) I.bare]
 ·have e:b=it:=by simpa using hb
  subst e;erw[h1,hL,h2,h3]
 ·let(o,es,ep,ho,r):=hm
  erw[o,es,ep,k _ o (jS hL) ho,r]
 ·refine(I.bp b u e).pF (λc v hc q=>k c v ?_ q) (λ_ q=>q) λ_ _ q=>q
  rcases hc with z|z
  ·rw[z];erw[zw b u e]
  ·erw[zw c _ z]
theorem Inv.tok(I:Inv X pins O H s)(t:Nat):Inv X pins O H {s with toks:=t}:=I.un (h':=s.heap) (t':=t) Un.refl I.bp
theorem Inv.kept(I:Inv X pins O H s)(k:∀b u,s.heap.get? b=some u->h'.get? b=some u):Inv X pins O H {s with heap:=h',toks:=t'}:=I.un (Un.kept k) (I.bp.kept k)
theorem Inv.laid{a:Addr}{o:HO}{t':Nat}(I:Inv X pins O H s)(k:∀b u,s.heap.get? b=some u->h'.get? b=some u)(hp:s.heap.objs.size<=a)(new:gb X.prog X.w (upd H a o) h' a o): Inv X pins O (upd H a o) {s with heap:=h',toks:=t'}:=I.un (Un.laid k hp (I.bp.fresh hp)) (I.bp.laid k hp new)
theorem Inv.write(I:Inv X pins O H s)(mu:AK (H x))(he:e=x\/H e=some (.own x))(k:∀b u,b≠e->s.heap.get? b=some u->h'.get? b=some u)(xo:∃u,h'.get? e=some u) (new:gb X.prog X.w (upd H x o) h' x o):Inv X pins O (upd H x o) {s with heap:=h',toks:=t'}:=I.un (Un.write mu he k xo) (I.bp.write mu he k xo new)
theorem Inv.RA(I:Inv X pins O H s)(h:∀p∈Ir,s.heap.get? p.1=some p.2/\H p.1=none/\p.1≠X.env.locals/\p.1∉X.fs/\∀v,p.2.data≠ .cell v):Inv X Ir O H s:=#[I.ok,I.os,I.bare,I.au,I.loc,I.cell,I.free,I.kQ,λp hp=>(iI.mp hp).elim (λz=>I.pin p (MF _ z)) (h p),I.bp,I.len]
theorem Sf{N:List Str}(hN:N.Nodup){i j:Nat}{x:Str}(a:N[i]? =some x)(b:N[j]? =some x):i=j:=by let(h1,e1):=dW.mp a;let(h2,e2):=dW.mp b;exact(List.getElem_inj hN).mp (e1.trans e2.symm)
theorem Nz{M:Model}{A:ah}{E:Value->ae->Prop}{i:Nat}{x:Str}{v:V}{u:Value}{Q:Unit->ae->Prop}(I:Inv X pins O H s)(hN:X.N.Nodup)(hi:X.N[i]? =some x)(hx:Loc X.env.scope x)(r:RelV v u) (h:∀s',Inv X pins (O.set i (some v)) H s'->(∃a,Heap.SameBut a s.heap s'.heap/\(a=X.env.locals\/X.env.cells.lookup x=some a))->Q () s')(hf:autoParam (X.fn x=true\/X.env.scope.names.lookup x=some .local) d8_._auto_1):wpAny M A (storeName X.env x u) Q E s:=by
 let(m,hn,hl):=id I.loc;have Kd:(X.env.scope.kind== .class||(X.env.scope.kind== .module&&X.env.locals !=X.env.globals))=false:=by rw[I.ok.kind];rfl
 have Um:i<O.length:=by rw[I.len];exact(dW.mp hi).1
 have vn:=I.vn;have tracked:∀{a:Addr}{h':Heap},(∃o,s.heap.get? a=some o/\H a=none)->Heap.SameBut a s.heap h'->dS X.prog X.w H h':=λ{a h'} ha hs b ob e=>by
  let(_,_,xn):=ha;refine(I.bp b ob e).pF (λc w' hc q=>(hs.2 c ?_).trans q) (λ_ q=>q) λ_ _ q=>q;rintro rfl;rcases hc with rfl|hc
  ·rw[xn]at e;cases e
  ·rw[xn]at hc;cases hc
 rcases hx with hk|hk
 ·erw[wpAny_storeName_local hk hn (λh' K0 hs=>?_) Kd]
  let(oL,_,_,hoL,_):=id hn;erw[h _ #[I.ok,I.os,I.bare,#[λb o e n hb hx=>?_,λb o e n hb hx=>?_,I.au.free,λb o e hx=>?_,I.au.lB,I.au.kP,I.au.lC],#[_,K0,λj y v' e1 e2 e3=>?_],λy c e=>?_,I.free,I.kQ,λp hp=>?_,tracked #[oL,hoL,I.free] hs,by simpa using I.len] #[_,hs,.inl rfl]]
  ·exact(hs.2 b (dI (gH (bX e) I.ok.above))).trans (I.au.keep b o e n hb hx)
  ·let(sl,e1):=I.au.slot b o e n hb hx
   erw[sl,(hs.2 b (dI (gH (bX e) I.ok.above))).trans e1]
  ·let(o',e1):=I.au.there b o e hx
   erw[o',(hs.2 b (dI (gH (bX e) I.ok.above))).trans e1]
  ·by_cases hj:j=i
   ·subst hj
    rw[hi]at e1;cases e1;rw[List.getElem?_set_self Um]at e2;cases e2;erw[u,r,.inl #[hk,by simp]]
   ·rw[List.getElem?_set_ne (jS hj)]at e2
    let(u',r',q):=hl j y v' e1 e2 e3;erw[u',r',?_];rcases q with⟨k,e⟩|⟨k,c,e,z⟩
    ·erw[.inl #[k,?_]]
     have:y≠x:=λe=>hj (Sf hN e1 (e▸hi));simp[this,e]
    ·erw[.inr #[k,c,e,z.sameBut hs (vn y c e)]]
  ·let(w',z):=I.cell y c e
   erw[w',z.sameBut hs (vn y c e)]
  ·let(e,n,ne,nf,d):=I.pin p hp
   erw[(hs.2 p.1 ne).trans e,n,ne,nf,d]
 ·have Kb:X.fn x=true:=by
   rcases hf with z|z
   ·erw[z]
   ·rw[z]at hk;cases hk
  let(c,hc):=I.ok.has x (.inl hk);let(w',z):=I.cell x c hc;erw[wpAny_storeName_cell I.ok.kind hk hc z (λh' lM hs=>?_)];let(oc,Uh,a7l):=id z;erw[h {s with heap:=h'} #[I.ok,I.os,I.bare,#[λb o e n hb hx=>?_,λb o e n hb hx=>?_,I.au.free,λb o e hx=>?_,I.au.lB,I.au.kP,I.au.lC],#[m,hn.sameBut hs (jS (vn x c hc)),λj y v' e1 e2 e3=>?_],λy c' e=>?_,I.free,I.kQ,λp hp=>?_,tracked #[oc,Uh,I.kQ x c hc] hs,by simpa using I.len] #[c,hs,.inr hc]]
  ·exact(hs.2 b (dI (gH (bX e) (I.ok.sW x c Kb hc)))).trans (I.au.keep b o e n hb hx)
  ·let(sl,e1):=I.au.slot b o e n hb hx
   erw[sl,(hs.2 b (dI (gH (bX e) (I.ok.sW x c Kb hc)))).trans e1]
  ·let(o',e1):=I.au.there b o e hx
   erw[o',(hs.2 b (dI (gH (bX e) (I.ok.sW x c Kb hc)))).trans e1]
  ·by_cases hj:j=i
   ·subst hj
    rw[hi]at e1;cases e1;rw[List.getElem?_set_self Um]at e2;cases e2;erw[u,r,.inr #[.inl hk,c,hc,lM]]
   ·rw[List.getElem?_set_ne (jS hj)]at e2
    let(u',r',q):=hl j y v' e1 e2 e3;erw[u',r',?_];rcases q with q|⟨k,c',e,z'⟩
    ·erw[.inl q]
    ·erw[.inr #[k,c',e,z'.sameBut hs ?_]]
     rintro rfl;erw[hj (Sf hN e1 (I.ok.inj _ _ _ e hc▸hi))]
  ·by_cases Uw:c'=c
   ·subst Uw;erw[_,lM]
   ·let(w2,z2):=I.cell y c' e
    erw[w2,z2.sameBut hs Uw]
  ·let(e,n,ne,nf,d):=I.pin p hp
   erw[(hs.2 p.1 ?_).trans e,n,ne,nf,d];intro q;rw[q,Uh]at e;have q':oc=p.2:=dU e;erw[d w' (by rw[<-q'];erw[a7l])]
theorem BF{M:Model}{A:ah}{E:Value->ae->Prop}{i:Nat}{x:Str}{v:V}{u:Value}{Q:Unit->ae->Prop}(I:Inv X pins O H s)(hN:X.N.Nodup)(hi:X.N[i]? =some x)(hx:Loc X.env.scope x)(r:RelV v u) (h:∀s',Inv X pins (O.set i (some v)) H s'->Q () s')(hf:autoParam (X.fn x=true\/X.env.scope.names.lookup x=some .local) d8_._auto_1):wpAny M A (storeName X.env x u) Q E s:=Nz I hN hi hx r (λs' I' _=>h s' I') hf
theorem Inv.E9(I:Inv X pins O H s)(ho:s'.os=s.os)(u:Un (fj X.stack) ch H H' s.heap s'.heap)(bp:dS X.prog X.w H' s'.heap)(hg:AllBare s'.gens) (my:∀b∈ch,(b∈X.ex\/X.s₀.heap.objs.size<=b)/\b≠X.env.locals/\(∀x c,X.env.cells.lookup x=some c->c≠b)/\∀p∈X.pn++pins,p.1≠b):Inv X pins O H' s':=by let(h',g',d',t',o'):=s';have e:o'=s.os:=ho;subst e;erw[I.call (g':=g') (t':=t') (d':=d') u bp hg my]
end
abbrev XK:=Value->Option Addr->Hp->Prop
abbrev St:=List (Option V)
abbrev VK:=V->Hp->Prop
abbrev TE:=St->Hp->VK->Prop
abbrev TT:=St->Hp->(Bool->Hp->Prop)->Prop
abbrev TA:=St->Hp->(List V->Hp->Prop)->Prop
structure Ends where
 nx:St->Hp->Prop
 rt:VK
 bk:St->Hp->Prop:=λ_ _=>False
 ct:St->Hp->Prop:=λ_ _=>False
abbrev TS:=Ends->St->Hp->Prop
def EP(X:Cx)(pins:List (Addr×Obj))(O:St)(Q:VK)(u:Value)(s':ae):Prop:=∃v H',Inv X pins O H' s'/\RelV v u/\Q v H'
def TP(X:Cx)(pins:List (Addr×Obj))(O:St)(Q:Bool->Hp->Prop)(b:Bool)(s':ae):Prop:=∃H',Inv X pins O H' s'/\Q b H'
def AP(X:Cx)(pins:List (Addr×Obj))(O:St)(Q:List V->Hp->Prop)(us:List Value)(s':ae):Prop:=∃vs H',Inv X pins O H' s'/\Vals vs us/\Q vs H'
def SP(X:Cx)(pins:List (Addr×Obj))(D:Ends)(f:Flow)(s':ae):Prop:=match f with | .next=>∃σ' H',Inv X pins σ' H' s'/\D.nx σ' H' | .brk=>∃σ' H',Inv X pins σ' H' s'/\D.bk σ' H' | .cont=>∃σ' H',Inv X pins σ' H' s'/\D.ct σ' H' | .ret u=>∃v σ' H',Inv X pins σ' H' s'/\RelV v u/\D.rt v H'
def PE(X:Cx)(e:Expr)(t:TE):Prop:=∀(pins:List (Addr×Obj))(s:ae)(O:St)(H:Hp)(Q:VK),Inv X pins O H s->t O H Q->wpAny (model X.prog X.w) X.A (eval e X.env) (EP X pins O Q) X.xe s
def PT(X:Cx)(e:Expr)(t:TT):Prop:=∀(pins:List (Addr×Obj))(s:ae)(O:St)(H:Hp)(Q:Bool->Hp->Prop),Inv X pins O H s->t O H Q->wpAny (model X.prog X.w) X.A (isTrue e X.env (eval e X.env)) (TP X pins O Q) X.xe s
def PW(X:Cx)(e:Expr)(t:TT):Prop:=∀(whole:Sem Value)(pins:List (Addr×Obj))(s:ae)(O:St)(H:Hp)(Q:Bool->Hp->Prop),Inv X pins O H s->t O H Q->wpAny (model X.prog X.w) X.A (isTrue e X.env whole) (TP X pins O Q) X.xe s
theorem PW.pt{t:TT}(h:PW X e t):PT X e t:=h _
def PA(X:Cx)(es:List Expr)(t:TA):Prop:=∀(pos:Pos)(pins:List (Addr×Obj))(s:ae)(O:St)(H:Hp)(Q:List V->Hp->Prop),Inv X pins O H s->t O H Q->wpAny (model X.prog X.w) X.A (spliced (backTo pos (starEach es X.env))) (AP X pins O Q) X.xe s
def PS(X:Cx)(st:Stmt)(t:TS):Prop:=∀(pins:List (Addr×Obj))(s:ae)(O:St)(H:Hp)(D:Ends),Inv X pins O H s->t D O H->wpAny (model X.prog X.w) X.A (exec st X.env) (SP X pins D) X.xe s
def g9(X:Cx)(st:List Stmt)(t:TS):Prop:=∀(pins:List (Addr×Obj))(s:ae)(O:St)(H:Hp)(D:Ends),Inv X pins O H s->t D O H->wpAny (model X.prog X.w) X.A (execs st X.env) (SP X pins D) X.xe s
theorem aZ{α:Type}{t:Sem α}{Q Q':α->ae->Prop}{M:Model}{A:ah}{E:Value->ae->Prop}{s:ae}(h:wpAny M A t Q E s)(hQ:∀a s,Q a s->Q' a s):wpAny M A t Q' E s:=ju h hQ λ_ _ x=>x
section
variable {X:Cx}
inductive adk(i:Nat)(O:St)(H:Hp)(Q:VK):Prop |mk (v:_)(h0:O[i]? =some (some v))(h1:Q v H)
def Na(i:Nat):TE:=λO H Q=>adk i O H Q
def tC (v:V):TE:=λ_ H Q=>Q v H
theorem Iv(hN:X.N[i]? =some x)(hv:AF X.env.scope x)(hd:autoParam ((x==("__debug__":Str))=false) q8_._auto_1)(fi:autoParam ((x==("__classdict__":Str))=false) q8_._auto_1):PE X (.Name x pos) (Na i):=by
 intro pins s O H Q I h;let(v,e,h):=h;let(m,hn,hl):=I.loc;let(u,r,l):=hl i x v hN e hv;have fin:EP X pins O Q u s:=#[v,H,I,r,h];rcases l with⟨hk,hm⟩|⟨hk,c,hc,sI⟩
 ·erw[wpAny_Name (wpAny_loadName_local I.ok.kind hk hn hm fin) hd]
 ·rcases hk with hk|hk
  ·erw[wpAny_Name (wpAny_loadName_cell I.ok.kind hk hc sI fin) hd]
  ·erw[wpAny_Name (wpAny_loadName_free I.ok.kind hk hc sI fin fi) hd]
theorem az{i j pos}:PE X (.Constant (.int i) j pos) (tC (.int i)):=λ_ _ _ H _ I h=>wpAny_Constant_int #[.int i,H,I.tok _,#[_,Z],h]
theorem jC{b j pos}:PE X (.Constant (.bool b) j pos) (tC (.bl b)):=λ_ _ _ H _ I h=>Constant_bool #[.bl b,H,I,Z,h]
theorem gU{j pos}:PE X (.Constant .none j pos) (tC .bD):=λ_ _ _ H _ I h=>Constant_none #[.bD,H,I,Z,h]
theorem ba{x j pos}:PE X (.Constant (.str x) j pos) (tC (.str x)):=λ_ _ _ H _ I h=>Calls.Constant_str #[.str x,H,I.tok _,#[_,Z],h]
def Gl(X:Cx)(x:Str):Prop:=X.env.kindOf x=some .globalImplicit
theorem sA{E:Value->ae->Prop}{pins:List (Addr×Obj)}{s:ae}{O:St}{H:Hp}{x:Str}{u:Value}{pos:Pos}{Q:Value->ae->Prop}(I:Inv X pins O H s)(hg:Gl X x)(hm:X.mg x=some u)(h:Q u s) (hd:autoParam ((x==("__debug__":Str))=false) q8_._auto_1):wpAny (model X.prog X.w) X.A (eval (.Name x pos) X.env) Q E s:=Calls.Name_function_global I.ok.kind hg (Calls.loadGlobal_global (by rw[I.ok.glob];erw[I.mod.glob.keeps I.bk]) hm h) hd
theorem qg{E:Value->ae->Prop}{pins:List (Addr×Obj)}{s:ae}{O:St}{H:Hp}{x:Str}{u:Value}{pos:Pos}{Q:Value->ae->Prop}(I:Inv X pins O H s)(hg:Gl X x)(hm:X.mg x=none)(hv:bootBuiltins x=some u)(h:Q u s) (hn:autoParam (x≠"__name__") q8_._auto_1)(hd:autoParam ((x==("__debug__":Str))=false) q8_._auto_1):wpAny (model X.prog X.w) X.A (eval (.Name x pos) X.env) Q E s:=by let(mb,h1,h2):=I.mod.blt;erw[Calls.Name_function_global I.ok.kind hg (Calls.loadGlobal_builtin (by rw[I.ok.glob];erw[I.mod.glob.keeps I.bk]) hm (by rw[I.ok.blt];erw[h1.keeps I.bk]) ((h2 x hn).trans hv) h) hd]
theorem a1T{v:V}(hg:Gl X x)(hm:X.mg x=some u)(r:RelV v u)(hd:autoParam ((x==("__debug__":Str))=false) q8_._auto_1):PE X (.Name x pos) (tC v):=λ_ _ _ H _ I h=>sA I hg hm #[v,H,I,r,h] hd
theorem oq{v:V}(hg:Gl X x)(hm:X.mg x=none)(hv:bootBuiltins x=some u)(r:RelV v u)(hn:autoParam (x≠"__name__") q8_._auto_1)(hd:autoParam ((x==("__debug__":Str))=false) q8_._auto_1):PE X (.Name x pos) (tC v):=λ_ _ _ H _ I h=>qg I hg hm hv #[v,H,I,r,h] hn hd
variable {a b:Expr}{ta tb:TE}{pos:Pos}
def PC(X:Cx)(op:CmpOp)(a b:Expr)(t:TE):Prop:=∀(pins:List (Addr×Obj))(s:ae)(O:St)(H:Hp)(Q:VK),Inv X pins O H s->t O H Q->wpAny (model X.prog X.w) X.A (eval a X.env) (λv s₁=>wpAny (model X.prog X.w) X.A (eval b X.env) (λu s₂=>wpAny (model X.prog X.w) X.A (compareOp op v u) (EP X pins O Q) X.xe s₂) X.xe s₁) X.xe s
inductive ItB(Q:Bool->Hp->Prop)(x:V)(H1:Hp):Prop |mk (c:_)(h0:x= .bl c)(h1:Q c H1)
def tB(t:TE):TT:=λO H Q=>t O H λx H1=>ItB Q x H1
theorem Rw{t:TE}(h:PC X op a b t)(h1:behindInMarks op b=false:=by first|erw[ag6 _ aw aw]|rfl):PT X (.Compare a [op] [b] pos) (tB t):=by intro pins s O H Q I hw;erw[wpAny_isTrue_Compare1 (aZ (h pins s O H _ I hw) λv s1 h1=>aZ h1 λu s2 h2=>aZ h2 λc s3 #[x,H1,I1,r1,q1]=>?_) h1];let(d,rfl,q):=q1;cases r1;erw[nV #[H1,I1,q]]
theorem cL{t:TE}(h:PE X e t)(he:autoParam (∀whole,isTrue e X.env whole=(do let v<-whole;standAt e.pos;holding [v] (truthy v))) d8_._auto_1):PT X e (tB t):=by intro pins s O H Q I hw;erw[isTrue_plain (aZ (h pins s O H _ I hw) λv s1 #[x,H1,I1,r1,q1]=>?_) (he _)];let(d,rfl,q):=q1;cases r1;erw[nV #[H1,I1,q]]
variable {tA BC:TT} {rest:List Expr}
def BE(t u:TT):TT:=λO H Q=>t O H λc H1=>if c=true then u O H1 Q else Q false H1
def Nc(t u:TT):TT:=λO H Q=>t O H λc H1=>if c=true then Q true H1 else u O H1 Q
def YO(t:TT):TT:=λO H Q=>t O H λc H1=>Q (!c) H1
theorem wy(ha:PT X a tA):PW X (.BoolOp .And [a] pos) tA:=by intro wh pins s O H Q I h;erw[isTrue_and (aZ (ha pins s O H Q I h) λc s1 e=>?_)];cases c with |true=>erw[isTrue_and_nil e] |false=>erw[e]
theorem jB(ha:PT X a tA):PW X (.BoolOp .Or [a] pos) tA:=by intro wh pins s O H Q I h;erw[isTrue_or (aZ (ha pins s O H Q I h) λc s1 e=>?_)];cases c with |false=>erw[isTrue_or_nil e] |true=>erw[e]
theorem pO(ha:PT X a tA)(hb:PW X (.BoolOp .And (b::rest) pos) BC):PW X (.BoolOp .And (a::b::rest) pos) (BE tA BC):=by intro wh pins s O H Q I h;erw[isTrue_and (aZ (ha pins s O H _ I h) λc s1 #[H1,I1,q1]=>?_)];cases c with |true=>erw[hb wh pins s1 O H1 Q I1 q1] |false=>erw[H1,I1,q1]
theorem j6(ha:PT X a tA)(hb:PW X (.BoolOp .Or (b::rest) pos) BC):PW X (.BoolOp .Or (a::b::rest) pos) (Nc tA BC):=by intro wh pins s O H Q I h;erw[isTrue_or (aZ (ha pins s O H _ I h) λc s1 #[H1,I1,q1]=>?_)];cases c with |true=>erw[H1,I1,q1] |false=>erw[hb wh pins s1 O H1 Q I1 q1]
theorem dv(ha:PT X a tA):PT X (.UnaryOp .Not a pos) (YO tA):=by intro pins s O H Q I h;erw[isTrue_not (ha pins s O H (λc H1=>Q (!c) H1) I h)]
inductive adz(tb:TE)(O:St)(Q:VK)(x:V)(H1:Hp):Prop |mk (c:_)(h0:x= .bl c)(h1:if c=true then tb O H1 Q else Q (.bl false) H1)
def Z4(ta tb:TE):TE:=λO H Q=>ta O H λx H1=>adz tb O Q x H1
inductive adp(tb:TE)(O:St)(Q:VK)(x:V)(H1:Hp):Prop |mk (c:_)(h0:x= .bl c)(h1:if c=true then Q (.bl true) H1 else tb O H1 Q)
def YL(ta tb:TE):TE:=λO H Q=>ta O H λx H1=>adp tb O Q x H1
inductive ads(Q:VK)(x:V)(H1:Hp):Prop |mk (c:_)(h0:x= .bl c)(h1:Q (.bl (!c)) H1)
def YN(ta:TE):TE:=λO H Q=>ta O H λx H1=>ads Q x H1
theorem mU{op}{t:TE}(h:PE X a t):PE X (.BoolOp op [a] pos) t:=λpins s O H Q I hw=>BoolOp_one (h pins s O H Q I hw)
theorem m8(ha:PE X a ta)(hb:PE X (.BoolOp .And (b::rest) pos) tb):PE X (.BoolOp .And (a::b::rest) pos) (Z4 ta tb):=by intro pins s O H Q I h;erw[BoolOp_and (aZ (ha pins s O H _ I h) λv s1 #[x,H1,I1,r1,q1]=>?_)];let(c,rfl,q1):=q1;cases r1;erw[nV ?_];cases c with |true=>erw[hb pins s1 O H1 Q I1 q1] |false=>erw[.bl false,H1,I1,Z,q1]
theorem a1O(ha:PE X a ta)(hb:PE X (.BoolOp .Or (b::rest) pos) tb):PE X (.BoolOp .Or (a::b::rest) pos) (YL ta tb):=by intro pins s O H Q I h;erw[BoolOp_or (aZ (ha pins s O H _ I h) λv s1 #[x,H1,I1,r1,q1]=>?_)];let(c,rfl,q1):=q1;cases r1;erw[nV ?_];cases c with |false=>erw[hb pins s1 O H1 Q I1 q1] |true=>erw[.bl true,H1,I1,Z,q1]
theorem Iw(ha:PE X a ta):PE X (.UnaryOp .Not a pos) (YN ta):=by intro pins s O H Q I h;erw[UnaryOp_ (aZ (ha pins s O H _ I h) λv s1 #[x,H1,I1,r1,q1]=>?_)];let(c,rfl,q1):=q1;cases r1;erw[not_of (nV #[.bl (!c),H1,I1,Z,q1])]
def YX(t:TT)(ta tb:TE):TE:=λO H Q=>t O H λc H1=>if c=true then ta O H1 Q else tb O H1 Q
theorem ka(hc:PT X c tA)(ha:PE X a ta)(hb:PE X b tb):PE X (.IfExp c a b pos) (YX tA ta tb):=by intro pins s O H Q I h;erw[wpAny_IfExp (aZ (hc pins s O H _ I h) λd s1 #[H1,I1,q1]=>?_)];cases d with |true=>erw[ha pins s1 O H1 Q I1 q1] |false=>erw[hb pins s1 O H1 Q I1 q1]
end
def aD(K:aa)(H:Hp)(a:Addr)(xs:List V):Prop:=Rd H a (.lst xs)\/ ∃(o:Obj)(its:Array Value)(n:Nat),K.lookup a=some o/\o.cls= .type "list"/\o.dict=none/\o.data= .seq its n/\its.size<=sizeLine/\Vals xs its.toList
def bc(K:aa)(H:Hp)(a:Addr)(xs:List V):Prop:=Rd H a (.tup xs)\/ ∃(o:Obj)(its:Array Value)(n:Nat),K.lookup a=some o/\o.cls= .type "tuple"/\o.data= .seq its n/\its.size<=sizeLine/\Vals xs its.toList
def ad3:Value->Option V | .none=>some .bD | .bool b=>some (.bl b) | .int i _=>some (.int i) | .str x _=>some (.str x) | .bytes b _=>some (.kR b) | .float b _=>some (.DI b) | .ref a=>some (.ref a) | .type n=>some (.ty n) |_=>none
theorem RelV.abs(r:RelV x u):ad3 u=some x:=by cases x with |bD=>cases r;rfl |bl _=>cases r;rfl |int _=>let(t,rfl):=r;rfl |str _=>let(t,rfl):=r;rfl |kR _=>let(t,rfl):=r;rfl |DI _=>let(t,rfl):=r;rfl |ref _=>cases r;rfl |ty _=>cases r;rfl
theorem RelV.inj{x y:V}{u:Value}(r:RelV x u)(q:RelV y u):x=y:=dU (r.abs.symm.trans q.abs)
theorem Vals.inj:∀{xs ys:List V}{us:List Value},Vals xs us->Vals ys us->xs=ys |_,_,_,.nil,.nil=>rfl |_,_,_,.cons r t,.cons r' t'=>by rw[r.inj r',Vals.inj t t']
section
variable {X:Cx}{pins:List (Addr×Obj)}{O:St}{H:Hp}{s:ae}{a:Addr}{xs ys:List V}
theorem aD.of{K:aa}(h:H a=some (.lst xs)):aD K H a xs:=.inl (.inl h)
theorem bc.of{K:aa}(h:H a=some (.tup xs)):bc K H a xs:=.inl (.inl h)
theorem Inv.list(I:Inv X pins O H s)(h:aD X.K H a xs):∃its:List Value,Vals xs its/\PlainL s.heap a its.toArray/\xs.length<=sizeLine:=by
 rcases h with h|⟨o,its,n,hk,hc,hd,hs,hz,r⟩
 ·let(z,its,n,r,e):=h.ok I.bp
  erw[its,r,#[_,n,e,Z,Z,Z],z]
 ·erw[its.toList,r,#[o,n,I.fD a o hk,hc,hd,by simpa using hs],?_]
  have e:=r.length;simp only[ky]at e
  lia
theorem Inv.tuple(I:Inv X pins O H s)(h:bc X.K H a xs):∃its:List Value,Vals xs its/\IsTup s.heap a its.toArray/\xs.length<=sizeLine:=by
 rcases h with h|⟨o,its,n,hk,hc,hs,hz,r⟩
 ·let(z,its,r,p):=h.ok I.bp
  erw[its,r,p,z]
 ·erw[its.toList,r,#[o,I.fD a o hk,hc,n,by simpa using hs],?_]
  have e:=r.length;simp only[ky]at e
  lia
theorem Inv.T8(I:Inv X pins O H s)(h:aD X.K H a xs)(h':aD X.K H a ys):xs=ys:=by
 let(its,r,(o,n,e,_,_,d),_):=I.list h;let(its',r',(o',n',e',_,_,d'),_):=I.list h';rw[e]at e';cases e';rw[d]at d';injection d' with d1 _;have:its=its':=by simpa using kr Array.toList d1
 subst this;erw[r.inj r']
theorem Inv.N5(I:Inv X pins O H s)(h:bc X.K H a xs)(h':bc X.K H a ys):xs=ys:=by
 let(its,r,(o,e,_,n,d),_):=I.tuple h;let(its',r',(o',e',_,n',d'),_):=I.tuple h';rw[e]at e';cases e';rw[d]at d';injection d' with d1 _;have:its=its':=by simpa using kr Array.toList d1
 subst this;erw[r.inj r']
end
abbrev Cx.kz(X:Cx)(E:Value->ae->Prop):Cx:={X with xe:=E}
abbrev Cx.uI(X:Cx):Cx:=X.kz λ_ _=>False
theorem Cx.Ok.kz{X:Cx}(ok:X.Ok)(E:Value->ae->Prop):(X.kz E).Ok:=#[ok.mod,ok.kind,ok.glob,ok.blt,ok.above,ok.inj,ok.has,ok.sW,ok.hd,ok.frames,ok.u9,ok.Af,ok.bs,ok.lP,ok.rV,ok.qC,ok.jG,ok.nJ]
theorem Cx.Ok.oa{X:Cx}{E:Value->ae->Prop}(ok:(X.kz E).Ok):X.Ok:=#[ok.mod,ok.kind,ok.glob,ok.blt,ok.above,ok.inj,ok.has,ok.sW,ok.hd,ok.frames,ok.u9,ok.Af,ok.bs,ok.lP,ok.rV,ok.qC,ok.jG,ok.nJ]
section
variable {X:Cx}{pins:List (Addr×Obj)}{O:St}{H:Hp}{s:ae}{E:Value->ae->Prop}
theorem Inv.kz(I:Inv X pins O H s)(E:Value->ae->Prop):Inv (X.kz E) pins O H s:=#[I.ok.kz E,I.os,I.bare,I.au,I.loc,I.cell,I.free,I.kQ,I.pin,I.bp,I.len]
theorem Inv.oa(I:Inv (X.kz E) pins O H s):Inv X pins O H s:=#[I.ok.oa,I.os,I.bare,I.au,I.loc,I.cell,I.free,I.kQ,I.pin,I.bp,I.len]
theorem SP.oa{D:Ends}{f:Flow}(h:SP (X.kz E) pins D f s'):SP X pins D f s':=by cases f with |next=>let(σ',H',I,q):=h;erw[σ',H',I.oa,q] |brk=>let(σ',H',I,q):=h;erw[σ',H',I.oa,q] |cont=>let(σ',H',I,q):=h;erw[σ',H',I.oa,q] |ret u=>let(v,σ',H',I,r,q):=h;erw[v,σ',H',I.oa,r,q]
theorem g9.uI{st:List Stmt}{t:TS}(h:g9 X.uI st t):g9 X st t:=λpins s O H D I hw=>ju (h pins s O H D (I.kz _) hw) (λ_ _ q=>q.oa) λ_ _ z=>False.elim z
end
section
variable {X:Cx}{st:Stmt}{rest:List Stmt}{t u:TS}{e:Expr}{te:TE}{pos:Pos}
def Nd:TS:=λD O H=>D.nx O H
def yG(t u:TS):TS:=λD O H=>t {D with nx:=u D} O H
theorem bQ:g9 X [] Nd:=λ_ _ O H _ I h=>En #[O,H,I,h]
theorem aB(h1:PS X st t)(h2:g9 X rest u):g9 X (st::rest) (yG t u):=by intro pins s O H D I h;erw[Mg (aZ (h1 pins s O H {D with nx:=u D} I h) λf s1 q=>?_)];cases f with |next=>let(σ',H',I',q):=q;erw[h2 pins s1 σ' H' D I' q] |ret v=>erw[q] |brk=>erw[q] |cont=>erw[q]
theorem aI(h1:PS X st t):g9 X [st] t:=by intro pins s O H D I h;erw[Mg (aZ (h1 pins s O H D I h) λf s1 q=>?_)];cases f with |next=>erw[En q] |ret v=>erw[q] |brk=>erw[q] |cont=>erw[q]
theorem Inv.quiet{pins:List (Addr×Obj)}{O:St}{H:Hp}{s:ae}(I:Inv X pins O H s):interactive X.env=false:=by simp[interactive,I.ok.kind]
def Z0(te:TE):TS:=λD O H=>te O H λ_ H1=>D.nx O H1
theorem kG(he:PE X e te)(hs:autoParam (swapsWith e none pos.line X.env=pure false) r8_._auto_1):PS X (.Expr e pos) (Z0 te):=by intro pins s O H D I h;erw[wpAny_Expr_any (aZ (he pins s O H _ I h) λv s1 #[x,H1,I1,r1,q1]=>#[O,H1,I1,q1]) I.quiet hs]
def YH(te:TE):TS:=λD O H=>te O H D.rt
theorem aV(he:PE X e te):PS X (.Return (some e) pos) (YH te):=by intro pins s O H D I h;erw[wpAny_Return_some (aZ (he pins s O H _ I h) λv s1 #[x,H1,I1,r1,q1]=>#[x,O,H1,I1,r1,q1])]
def F3(c:TT)(t u:TS):TS:=λD O H=>c O H λb H1=>if b=true then t D O H1 else u D O H1
theorem bN{b:List Stmt}(hc:PT X c tc)(ha:g9 X a t)(hb:g9 X b u):PS X (.If c a b pos) (F3 tc t u):=by intro pins s O H D I h;erw[wpAny_If (aZ (hc pins s O H _ I h) λd s1 #[H1,I1,q1]=>?_)];cases d with |true=>erw[ha pins s1 O H1 D I1 q1] |false=>erw[hb pins s1 O H1 D I1 q1]
def Nf:TS:=λ_ _ _=>False
theorem wz:PS X st Nf:=λ_ _ _ _ _ _ h=>h.elim
theorem pP:g9 X Zc Nf:=λ_ _ _ _ _ _ h=>h.elim
end
abbrev TG:=V->St->Hp->(St->Hp->Prop)->Prop
abbrev p7:=List V->St->Hp->(St->Hp->Prop)->Prop
def PG(X:Cx)(target:Expr)(t:TG):Prop:=∀(pins:List (Addr×Obj))(s:ae)(O:St)(H:Hp)(v:V)(u:Value)(Q:St->Hp->Prop),Inv X pins O H s->RelV v u->t v O H Q->wpAny (model X.prog X.w) X.A (assign target X.env u) (λ_ s'=>∃σ' H',Inv X pins σ' H' s'/\Q σ' H') X.xe s
def AI(X:Cx)(ts:List Expr)(t:p7):Prop:=∀(pins:List (Addr×Obj))(s:ae)(O:St)(H:Hp)(vs:List V)(us:List Value)(Q:St->Hp->Prop),Inv X pins O H s->Vals vs us->t vs O H Q->wpAny (model X.prog X.w) X.A (assignInOrder ((assignEach ts X.env).map (·.2)) us) (λ_ s'=>∃σ' H',Inv X pins σ' H' s'/\Q σ' H') X.xe s
abbrev LZ:=V->V->V->Hp->(Hp->Prop)->Prop
def WE(X:Cx)(t:LZ):Prop:=∀(pins:List (Addr×Obj))(s:ae)(O:St)(H:Hp)(o i v:V)(ov iv u:Value)(Q:Hp->Prop),Inv X pins O H s->RelV o ov->RelV i iv->RelV v u->t o i v H Q->wpAny (model X.prog X.w) X.A (setItem ov iv u) (λ_ s'=>∃H',Inv X pins O H' s'/\Q H') X.xe s
abbrev Wy:=V->V->Hp->VK->Prop
def PIp(X:Cx)(op:Operator)(t:Wy):Prop:=∀(pins:List (Addr×Obj))(s:ae)(O:St)(H:Hp)(x y:V)(v u:Value)(Q:VK),Inv X pins O H s->RelV x v->RelV y u->t x y H Q->wpAny (model X.prog X.w) X.A (inplaceOp op v u) (EP X pins O Q) X.xe s
section
variable {X:Cx} {pos:Pos}
def gr(i:Nat):TG:=λv O H Q=>Q (O.set i (some v)) H
theorem a1L(hN:X.N.Nodup)(hi:X.N[i]? =some x)(hx:Loc X.env.scope x)(hf:autoParam (X.fn x=true\/X.env.scope.names.lookup x=some .local) d8_._auto_1):PG X (.Name x pos) (gr i):=by intro pins s O H v u Q I r h;erw[wpAny_assign_Name (BF I hN hi hx r (λs' I'=>#[_,H,I',h]) hf)]
def DD:p7:=λvs O H Q=>vs=[]/\Q O H
inductive afy(t:TG)(u:p7)(vs:List V)(O:St)(H:Hp)(Q:St->Hp->Prop):Prop |mk (v:_)(r:_)(h0:vs=v::r)(h1:t v O H λσ' H'=>u r σ' H' Q)
def ve(t:TG)(u:p7):p7:=λvs O H Q=>afy t u vs O H Q
theorem eK:AI X [] DD:=by intro pins s O H vs us Q I r h;let(e,h):=h;subst e;cases r;erw[Mm #[O,H,I,h]]
theorem bU{t:TG}(h1:PG X e t)(h2:AI X es u) (hs:autoParam ((assignEach (e::es) X.env).map (·.2)=assign e X.env::(assignEach es X.env).map (·.2)) r8_._auto_1):AI X (e::es) (ve t u):=by intro pins s O H vs us Q I r h;let(v,vr,e1,h):=h;subst e1;cases r with |cons r rr=>rw[hs];erw[ye (aZ (h1 pins s O H _ _ _ I r h) λ_ s1 #[σ1,H1,I1,q1]=>?_)];erw[h2 pins s1 σ1 H1 _ _ Q I1 rr q1]
inductive afw(K:aa)(n:Nat)(t:p7)(v:V)(O:St)(H:Hp)(Q:St->Hp->Prop):Prop |mk (a:_)(xs:_)(h0:v= .ref a)(h1:bc K H a xs)(h2:xs.length=n)(h3:t xs O H Q)
def Ad(K:aa)(n:Nat)(t:p7):TG:=λv O H Q=>afw K n t v O H Q
theorem a1K{k:Nat}{t:p7}{n:Nat}(hc:X.calm=true)(h:AI X es t) (hn:autoParam ((assignEach es X.env).length=n) r8_._auto_1)(gp:autoParam ((assignEach es X.env).findIdx? (·.1)=none) r8_._auto_1):PG X (.Tuple es k pos) (Ad X.K n t):=by intro pins s O H v u Q I r hw;let(a,xs,e1,hq,hl,hw):=hw;subst e1;cases r;let(its,rv,ht,hz):=I.tuple hq;erw[assign_Tuple_tuple (I.ok.hd hc) ht (by simp[hn,<-hl,rv.length]) gp λh' hx=>?_];have I1:Inv X pins O H {s with heap:=h'}:=I.kept (t':=s.toks) λb o e=>hx b o (dI (bX e)) e;erw[h pins _ O H xs _ Q I1 (by simpa using rv) hw]
def a9I(to ti:TE)(t:LZ):TG:=λv O H Q=>to O H λo H1=>ti O H1 λi H2=>t o i v H2 λH3=>Q O H3
theorem zi{to:TE}{t:LZ}(ho:PE X o to)(hi:PE X i ti)(hs:WE X t) (ha:∀v,assign (.Subscript o i pos) X.env v=(do
 let ov<-holding [v] (eval o X.env)
 let iv<-holding [v,ov] (eval i X.env)
 standAt pos
 holding [v,ov,iv] (setItem ov iv v)
 release [v,ov,iv] []):=by intro _;rfl):PG X (.Subscript o i pos) (a9I to ti t):=by
 intro pins s O H v u Q I r h;rw[ha];erw[aJ (kX (aZ (ho pins s O H _ I h) λov s1 #[x,H1,I1,r1,q1]=>?_))];erw[aJ (kX (aZ (hi pins s1 O H1 _ I1 q1) λiv s2 #[y,H2,I2,r2,q2]=>?_))];erw[aJ (AQ (aJ (kX (aZ (hs pins s2 O H2 x y v ov iv u _ I2 r1 r2 r q2) λ_ s3 #[H3,I3,q3]=>?_))))];erw[wpAny_release #[O,H3,I3,q3]]
def BD(te:TE)(g:TG):TS:=λD O H=>te O H λx H1=>g x O H1 D.nx
theorem fu(he:PE X e te)(hg:PG X tg g)(hs:autoParam (swapsWithSole [tg] e pos.line X.env=pure false) r8_._auto_1)(hw:autoParam (swappedStores [tg] e X.env=pure none) r8_._auto_1) (h1:autoParam ((assignEach [tg] X.env).map (·.2)=[assign tg X.env]) r8_._auto_1):PS X (.Assign [tg] e pos) (BD te g):=by intro pins s O H D I h;erw[wpAny_Assign_stores (aZ (he pins s O H _ I h) λv s1 #[x,H1,I1,r1,q1]=>?_) hs hw];rw[h1];erw[aZ (hg pins s1 O H1 x v _ I1 r1 q1) λ_ s2 q=>q]
theorem a1u(hN:X.N.Nodup)(hi:X.N[i]? =some x)(hx:Loc X.env.scope x)(he:PE X e te)(hs:autoParam (swapsWith e (some (.Name x pos')) pos.line X.env=pure false) r8_._auto_1)(hf:autoParam (X.fn x=true\/X.env.scope.names.lookup x=some .local) d8_._auto_1): PS X (.Assign [.Name x pos'] e pos) (BD te (gr i)):=by intro pins s O H D I h;erw[wpAny_Assign_Name (aZ (he pins s O H _ I h) λv s1 #[y,H1,I1,r1,q1]=>?_) hs];erw[BF I1 hN hi hx r1 (λs2 I2=>#[_,H1,I2,q1]) hf]
inductive ado(i:Nat)(j:Nat)(D:Ends)(O:St)(vs:List V)(H1:Hp):Prop |mk (v:_)(w:_)(h0:vs=[v,w])(h1:D.nx ((O.set i (some v)).set j (some w)) H1)
def YK(i j:Nat)(ta:TA):TS:=λD O H=>ta O H λvs H1=>ado i j D O vs H1
theorem Iq{b:Expr}{px pt:Pos}{kt k2 Io}(hc:X.calm=true)(hN:X.N.Nodup)(hi:X.N[i]? =some x)(hj:X.N[j]? =some y)(hij:i≠j) (hx:X.env.scope.names.lookup x=some .local)(hy:X.env.scope.names.lookup y=some .local)(ha:PA X [a,b] ta) (hw:swappedStores [.Tuple [.Name x px,.Name y py] kt pt] (.Tuple [a,b] k2 Io) X.env=pure (some [x,y])) (hs:autoParam (swapsWithSole [.Tuple [.Name x px,.Name y py] kt pt] (.Tuple [a,b] k2 Io) pos.line X.env=pure false) r8_._auto_1): PS X (.Assign [.Tuple [.Name x px,.Name y py] kt pt] (.Tuple [a,b] k2 Io) pos) (YK i j ta):=by
 intro pins s O H D I h;rw[exec_Assign_arm];erw[aJ (AQ ?_)];rw[hs];erw[aJ (cg ?_)];rw[bj aw];erw[aJ (Tuple_ (aZ (ha _ pins s O H _ I h) λus s1 #[vs,H1,I1,r1,q1]=>?_))];let(v,w,e1,q1):=q1;subst e1;obtain⟨u1,u2,rfl,rv,eU⟩:∃u1 u2,us=[u1,u2]/\RelV v u1/\RelV w u2:=by cases r1 with |cons p q=>cases q with |cons p' q'=>cases q';erw[_,_,Z,p,p']
 erw[ko ?_ (by show 2<=sizeLine;decide)];have I2:Inv X pins O H1 {s1 with heap:=s1.heap.push {cls:=.type "tuple",data:=.seq [u1,u2].toArray}}:=I1.kept (t':=s1.toks) λb o e=>bZ _ e;rw[hw];erw[aJ (cg ?_)];show wpAny (model X.prog X.w) X.A (do rule "assign.swapped-stores";let items<-unpackItems (.ref s1.heap.objs.size) 2 none;assignInOrder [λv=>bindName X.env y v,λv=>bindName X.env x v] items.reverse;pure Flow.next) _ _ _;erw[aJ (xZ (aJ (unpackItems_tuple (items:=(List.toArray [u1,u2])) (I.ok.hd hc) (IsTup.new s1.heap _) λh' hx'=>?_)))];have I3:=I2.kept (h':=h') (t':=s1.toks) λb o e=>hx' b o (dI (bX e)) e;show wpAny _ _ (assignInOrder [λv=>bindName X.env y v,λv=>bindName X.env x v] [u2,u1]>>=λ_=>pure Flow.next) _ _ _;erw[aJ (ye (wpAny_bindName (BF I3 hN hj (.inl hy) eU (λs2 I4=>?_) (.inr hy))))];erw[ye (wpAny_bindName (BF I4 hN hi (.inl hx) rv (λs3 I5=>Mm (cg ?_)) (.inr hx)))];rw[List.set_comm _ _ (jS hij)]at I5;erw[_,H1,I5,q1]
inductive afo(f:Int->Int->Int)(x:V)(y:V)(H:Hp)(Q:VK):Prop |mk (i:_)(j:_)(h0:x= .int i)(h1:y= .int j)(h2:Q (.int (f i j)) H)
def ipI(f:Int->Int->Int):Wy:=λx y H Q=>afo f x y H Q
theorem a6y:PIp X .Add (ipI λi j=>i+j):=by intro pins s O H x y v u Q I r1 r2 h;let(i,j,e1,e2,q):=h;subst e1;subst e2;let(t,rfl):=r1;let(t',rfl):=r2;erw[iadd_int #[.int _,H,I.tok _,#[_,Z],q]]
def N9(c:TT)(tb:TS):TS:=λD O H=>∃W:Nat->St->Hp->Prop,(∃m,W m O H)/\∀m O H,W m O H->c O H λb H1=>if b=true then∃N:St->Hp->Prop,(∀σ' H',N σ' H'->∃m',m'<m/\W m' σ' H')/\tb {D with nx:=N,ct:=N,bk:=D.nx} O H1 else D.nx O H1
theorem rK(hp:PassesOwn (model X.prog X.w) X.A X.env X.xe)(hc:PT X c tc)(hb:g9 X body tb):PS X (.While c body [] pos) (N9 tc tb):=by intro pins s O H D I h;let(W,(m0,w0),turn):=h;erw[wpAny_While (codeAny_whileLoop (λn s'=>∃σ' H',Inv X pins σ' H' s'/\W n σ' H') ?_ m0 #[O,H,I,w0])];rintro n s1 ⟨σ1,H1,I1,w1⟩;erw[y8 hp (aZ (hc pins s1 σ1 H1 _ I1 (turn n σ1 H1 w1)) λb s2 #[H2,I2,q2]=>?_)];cases b with
 |true=>let(N,hN,q2):=q2;rw[bo rfl];erw[y8 hp (aZ (hb pins s2 σ1 H2 _ I2 q2) λf s3 q3=>?_)];cases f with |next=>let(σ3,H3,I3,n3):=q3;let(m',hm,w3):=hN σ3 H3 n3;erw[m',hm,σ3,H3,I3,w3] |cont=>let(σ3,H3,I3,n3):=q3;let(m',hm,w3):=hN σ3 H3 n3;erw[m',hm,σ3,H3,I3,w3] |brk=>erw[q3] |ret v=>erw[q3]
 |false=>rw[bj dX];erw[En #[σ1,H2,I2,q2]]
end
structure It where
 go:Nat->Hp->Prop
 lA:Nat->Hp->V->Hp->Prop
 stop:Nat->Hp->Prop
def lT(X:Cx)(pins:List (Addr×Obj))(H:Hp)(b:Addr):Prop:=H b=none/\b≠X.env.locals/\b∉X.fs/\(b∈X.ex\/X.s₀.heap.objs.size<=b)/\(∀x c,X.env.cells.lookup x=some c->c≠b)/\∀p∈X.pn++pins,p.1≠b
theorem Inv.qz{X:Cx}{pins:List (Addr×Obj)}{O:St}{H H':Hp}{s:ae}{b:Addr}(I:Inv X pins O H s)(hb:s.heap.objs.size<=b)(hn:H' b=none):lT X pins H' b:=by
 erw[hn,tP (gH I.lt hb),I.a4F hb,.inr (jf I.sz hb),λx c e z=>?_,λp hp z=>?_]
 ·let(v,q):=I.cell x c e
  erw[absurd (gH q.lt (by rw[z];erw[hb])) (qS _)]
 ·erw[absurd (gH (bX (I.pin p hp).1) (by rw[z];erw[hb])) (qS _)]
structure Turn(P:af)(w:World)(K:aa)(tg:Expr)(J:It)(fp:List Addr)(it:Addr)(tn:Nat->Heap->Prop):Prop where
 mem:it∈fp
 obj:∀i h,tn i h->∀b∈fp,∃o,h.get? b=some o/\∀v,o.data≠ .cell v
 keep:∀i h h',tn i h->(∀b∈fp,∀o,h.get? b=some o->h'.get? b=some o)->tn i h'
 item:∀(X:Cx),X.prog=P->X.w=w->X.K=K->X.calm=true->∀(i:Nat)(pins:List (Addr×Obj))(s:ae)(O:St)(H:Hp)(E:Value->ae->Prop),Inv X pins O H s->(∀b∈fp,lT X pins H b)->tn i s.heap->J.go i H->wpAny (model P w) X.A (pyNext (.ref it)) (λr s1=>∃u,r=some u/\wpAny (model P w) X.A (letOwnedTupleGo tg (.ref it) u) (λ_ s2=>∃x H',Inv X pins O H' s2/\RelV x u/\J.lA i H x H'/\tn (i+1) s2.heap/\∀b∈fp,H' b=none) E s1) E s
 done:∀(X:Cx),X.prog=P->X.w=w->X.K=K->X.calm=true->∀(i:Nat)(pins:List (Addr×Obj))(s:ae)(O:St)(H:Hp)(E:Value->ae->Prop),Inv X pins O H s->(∀b∈fp,lT X pins H b)->tn i s.heap->J.stop i H->wpAny (model P w) X.A (pyNext (.ref it)) (λr s1=>r=none/\Inv X pins O H s1) E s
 self:∀(A:ah)(i:Nat)(s:ae)(Q:Value->ae->Prop)(E:Value->ae->Prop),tn i s.heap->Q (.ref it) s->wpAny (model P w) A (pyIter (.ref it)) Q E s
abbrev TI:=St->Hp->(It->Hp->Prop)->Prop
def M5(X:Cx)(pins:List (Addr×Obj))(O:St)(tg:Expr)(R:It->Hp->Prop)(CP:Value)(s2:ae):Prop:=∃(it:Addr)(fp:List Addr)(tn:Nat->Heap->Prop)(J:It)(H':Hp),CP= .ref it/\Inv X pins O H' s2/\Turn X.prog X.w X.K tg J fp it tn/\tn 0 s2.heap/\(∀b∈fp,lT X pins H' b)/\R J H'
def PI(X:Cx)(tg iter:Expr)(wi:TI):Prop:=∀(pins:List (Addr×Obj))(s:ae)(O:St)(H:Hp)(R:It->Hp->Prop),Inv X pins O H s->wi O H R->wpAny (model X.prog X.w) X.A (eval iter X.env) (λv s1=>wpAny (model X.prog X.w) X.A (pyIter v) (M5 X pins O tg R) X.xe s1) X.xe s
theorem Ab{M:Model}{A:ah}{E:Value->ae->Prop}{s:ae}{tg:Expr}{it:Addr}{u:Value}{o:Obj}{n:String}{vs:Array Value}{Q:Unit->ae->Prop}(ho:s.heap.get? it=some o)(hc:o.cls= .type n)(hd:o.data= .fields vs) (hn:["enumerate","zip","dict_itemiterator","dict_reverseitemiterator","odict_iterator","itertools.zip_longest","itertools.pairwise"].contains n=false)(hQ:Q () s):wpAny M A (letOwnedTupleGo tg (.ref it) u) Q E s:=by unfold letOwnedTupleGo;cases tg<;>first |erw[cg hQ] |(cases u<;>first
        |erw[cg hQ]
        | (erw[aJ (wpAny_load ho ?_)]
           rw[hc,hd];show wpAny M A (if(["enumerate","zip","dict_itemiterator","dict_reverseitemiterator","odict_iterator","itertools.zip_longest","itertools.pairwise"].contains n&&vs[0]? ==some (rawInt _))=true then _ else _) Q E s;rw[bj (by intro h;rw[hn,jw]at h;cases h)];erw[cg hQ]))
def tE(K:aa)(a:Addr):It:=#[λi H=>∃xs x,aD K H a xs/\xs[i]? =some x,λi H x H'=>H'=H/\∀xs,aD K H a xs->xs[i]? =some x,λi H=>∃xs,aD K H a xs/\xs.length<=i]
def AM(K:aa)(a:Addr):It:=#[λi H=>∃xs x,bc K H a xs/\xs[i]? =some x,λi H x H'=>H'=H/\∀xs,bc K H a xs->xs[i]? =some x,λi H=>∃xs,bc K H a xs/\xs.length<=i]
def qO(lo:Int)(n:Nat):It:=#[λi _=>i<n,λi H x H'=>H'=H/\x= .int (lo+i),λi _=>n<=i]
theorem Yi{P:af}{w:World}{K:aa}{tg:Expr}(a it:Addr):Turn P w K tg (tE K a) [it] it (λi h=>h.IsListIter it a i) where
 mem:=by simp
 obj:=λi h st b hb=>by
  have e:b=it:=by simpa using hb
  subst e;let(o,e,c,d):=st;erw[o,e,λv z=>by rw[d]at z;cases z]
 keep:=λi h h' st k=>st.at λo e=>k it (by simp) o e
 item:=by intro X hP hw hK hc i pins s O H E I hf st hg;subst hP hw hK;let(xs,x,hq,hx):=hg;let(its,rv,p,hz):=I.list hq;let(u,hu,ru):=rv.get hx;let(f0,f1,f2,f3,f4,f5):=hf it (by simp);erw[wpAny_pyNext_list_item st p.isList (x:=u) (by simpa using hu) λh' ig sb=>?_];have I1:Inv X pins O H {s with heap:=h'}:=I.turned (t':=s.toks) (λb o hb e=>(sb.2 b hb).trans e) f0 f1 f3 f4 f5;let(o,e,c,d):=id ig;erw[u,Z,Ab (s:={s with heap:=h'}) e c d aw #[x,H,I1,ru,#[Z,λys hy=>by rw[I.T8 hy hq];erw[hx]],ig,λb hb=>(hf b hb).1]]
 done:=by intro X hP hw hK hc i pins s O H E I hf st hg;subst hP hw hK;let(xs,hq,hx):=hg;let(its,rv,p,hz):=I.list hq;let(f0,f1,f2,f3,f4,f5):=hf it (by simp);have hl:=rv.length;erw[wpAny_pyNext_list_end (I.ok.hd hc) st p.isList (by simp;lia) λh' eb=>#[Z,I.turned (t':=s.toks) (λb o hb e=>eb b o hb e) f0 f1 f3 f4 f5]]
 self:=λ_ _ _ _ _ st h=>wpAny_pyIter_listiter st h
theorem Ye{P:af}{w:World}{K:aa}{tg:Expr}(a it:Addr):Turn P w K tg (AM K a) [it] it (λi h=>h.IsTupleIter it a i) where
 mem:=by simp
 obj:=λi h st b hb=>by
  have e:b=it:=by simpa using hb
  subst e;let(o,e,c,d):=st;erw[o,e,λv z=>by rw[d]at z;cases z]
 keep:=λi h h' st k=>st.at λo e=>k it (by simp) o e
 item:=by intro X hP hw hK hc i pins s O H E I hf st hg;subst hP hw hK;let(xs,x,hq,hx):=hg;let(its,rv,p,hz):=I.tuple hq;let(u,hu,ru):=rv.get hx;let(f0,f1,f2,f3,f4,f5):=hf it (by simp);erw[wpAny_pyNext_tuple_item st (show s.heap.IsTuple a its.toArray from p) (x:=u) (by simpa using hu) λh' ig sb=>?_];have I1:Inv X pins O H {s with heap:=h'}:=I.turned (t':=s.toks) (λb o hb e=>(sb.2 b hb).trans e) f0 f1 f3 f4 f5;let(o,e,c,d):=id ig;erw[u,Z,Ab (s:={s with heap:=h'}) e c d aw #[x,H,I1,ru,#[Z,λys hy=>by rw[I.N5 hy hq];erw[hx]],ig,λb hb=>(hf b hb).1]]
 done:=by intro X hP hw hK hc i pins s O H E I hf st hg;subst hP hw hK;let(xs,hq,hx):=hg;let(its,rv,p,hz):=I.tuple hq;let(f0,f1,f2,f3,f4,f5):=hf it (by simp);have hl:=rv.length;erw[wpAny_pyNext_tuple_end (I.ok.hd hc) st (show s.heap.IsTuple a its.toArray from p) (by simp;lia) λh' eb=>#[Z,I.turned (t':=s.toks) (λb o hb e=>eb b o hb e) f0 f1 f3 f4 f5]]
 self:=λ_ _ _ _ _ st h=>wpAny_pyIter_tupleiter st h
theorem Yh{P:af}{w:World}{K:aa}{tg:Expr}(it:Addr)(lo:Int)(n:Nat):Turn P w K tg (qO lo n) [it] it (λi h=>IsRangeIter h it (lo+(i:Nat)*1) ((n:Int)-(i:Nat)) 1) where
 mem:=by simp
 obj:=λi h st b hb=>by
  have e:b=it:=by simpa using hb
  subst e;erw[_,st,λv z=>by have z':Data.fields _=Data.cell v:=z;cases z']
 keep:=λi h h' st k=>k it (by simp) _ st
 item:=by intro X hP hw hK hc i pins s O H E I hf st hg;subst hP hw hK;let(f0,f1,f2,f3,f4,f5):=hf it (by simp);have W:=Walks.range (prog:=X.prog) (w:=X.w) (I.ok.hd hc) it lo 1 n;erw[W.item i s _ _ hg st λv h' tk hv ig kk=>?_];let(t,rfl):=hv;have I1:Inv X pins O H {s with heap:=h',toks:=tk}:=I.turned (λb o hb e=>kk b o (by simpa using hb) e) f0 f1 f3 f4 f5;erw[_,Z,Ab (s:={s with heap:=h',toks:=tk}) (n:="range_iterator") ig rfl rfl aw #[.int (lo+i),H,I1,#[t,?_],#[Z,Z],ig,λb hb=>(hf b hb).1]];rw[vP]
 done:=by intro X hP hw hK hc i pins s O H E I hf st hg;subst hP hw hK;let(f0,f1,f2,f3,f4,f5):=hf it (by simp);erw[wpAny_pyNext_range_end (I.ok.hd hc) st (by have:n<=i:=hg;lia) λh' eb=>#[Z,I.turned (t':=s.toks) (λb o hb e=>eb b o hb e) f0 f1 f3 f4 f5]]
 self:=λ_ _ _ _ _ st h=>WO st h
section
variable {X:Cx} {tg:Expr}
inductive afv(K:aa)(R:It->Hp->Prop)(x:V)(H1:Hp):Prop |mk (a:_)(h0:x= .ref a)(h1:(∃xs,aD K H1 a xs))(h2:R (tE K a) H1)
def TY(K:aa)(tl:TE):TI:=λO H R=>tl O H λx H1=>afv K R x H1
inductive afq(K:aa)(R:It->Hp->Prop)(x:V)(H1:Hp):Prop |mk (a:_)(h0:x= .ref a)(h1:(∃xs,bc K H1 a xs))(h2:R (AM K a) H1)
def TX(K:aa)(tl:TE):TI:=λO H R=>tl O H λx H1=>afq K R x H1
theorem a1J{l:Expr}(hl:PE X l tl):PI X tg l (TY X.K tl):=by
 intro pins s O H R I h;erw[aZ (hl pins s O H _ I h) λv s1 #[x,H1,I1,r1,q1]=>?_];let(a,e,(xs,hq),q):=q1;subst e;cases r1;let(its,rv,p,hz):=I1.list hq;erw[y6 p.isList ?_];erw[s1.heap.objs.size,[s1.heap.objs.size],_,_,H1,Z,I1.kept (t':=s1.toks) λb o e=>bZ _ e,Yi a _,#[_,dD _ Z,Z,Z],λb hb=>?_,q];have e:b=s1.heap.objs.size:=by simpa using hb
 subst e;erw[I1.qz (bL _) (I1.bp.fresh (bL _))]
theorem a1G{l:Expr}(hl:PE X l tl):PI X tg l (TX X.K tl):=by
 intro pins s O H R I h;erw[aZ (hl pins s O H _ I h) λv s1 #[x,H1,I1,r1,q1]=>?_];let(a,e,(xs,hq),q):=q1;subst e;cases r1;let(its,rv,p,hz):=I1.tuple hq;erw[wpAny_pyIter_tuple (show s1.heap.IsTuple a its.toArray from p) ?_];erw[s1.heap.objs.size,[s1.heap.objs.size],_,_,H1,Z,I1.kept (t':=s1.toks) λb o e=>bZ _ e,Ye a _,#[_,dD _ Z,Z,Z],λb hb=>?_,q];have e:b=s1.heap.objs.size:=by simpa using hb
 subst e;erw[I1.qz (bL _) (I1.bp.fresh (bL _))]
theorem Rb{pins:List (Addr×Obj)}{O:St}{H:Hp}{s:ae}{R:It->Hp->Prop}{E:Value->ae->Prop}{lo hi:Int}{t u v:Tok}{tk:Nat}(I:Inv X pins O H s)(h1:-(2^62)<=lo)(h2:lo<2^62)(h3:-(2^62)<=hi)(h4:hi<2^62) (q:R (qO lo (hi-lo).toNat) H):wpAny (model X.prog X.w) X.A (pyIter (.ref s.heap.objs.size)) (M5 X pins O tg R) E {s with heap:=s.heap.push {cls:=.type "range",data:=.fields (List.toArray [.int lo t,.int hi u,.int 1 v])},toks:=tk}:=by
 erw[wpAny_pyIter_range (IsRange.new ..) (small_one h1 h2 h3 h4) ?_];have I1:Inv X pins O H {s with heap:=s.heap.push {cls:=.type "range",data:=.fields (List.toArray [.int lo t,.int hi u,.int 1 v])},toks:=tk}:=I.kept λb o e=>bZ _ e;erw[(s.heap.push {cls:=.type "range",data:=.fields (List.toArray [.int lo t,.int hi u,.int 1 v])}).objs.size,[(s.heap.push {cls:=.type "range",data:=.fields (List.toArray [.int lo t,.int hi u,.int 1 v])}).objs.size],_,_,H,Z,I1.kept (t':=tk) λb o e=>bZ _ e,Yh _ lo (hi-lo).toNat,?_,λb hb=>?_,q]
 ·have e1:lo+((0:Nat):Int)*1=lo:=by simp
  have e2:(((hi-lo).toNat:Nat):Int)-((0:Nat):Int)=Builtin.Range.rangeSize lo hi 1:=by rw[rangeSize_one];split<;>lia
  show IsRangeIter _ _ (lo+((0:Nat):Int)*1) ((((hi-lo).toNat:Nat):Int)-((0:Nat):Int)) 1;rw[e1,e2];erw[dD _ rfl]
 ·have e:b=(s.heap.push {cls:=.type "range",data:=.fields (List.toArray [.int lo t,.int hi u,.int 1 v])}).objs.size:=by simpa using hb
  subst e;erw[I1.qz (bL _) (I1.bp.fresh (bL _))]
inductive aft(R:It->Hp->Prop)(vs:List V)(H1:Hp):Prop |mk (j:Int)(h0:vs=[.int j])(h1:-(2^62)<=j)(h2:j<2^62)(h3:R (qO 0 j.toNat) H1)
def a6N(ta:TA):TI:=λO H R=>ta O H λvs H1=>aft R vs H1
inductive afs(R:It->Hp->Prop)(vs:List V)(H1:Hp):Prop |mk (i:Int)(j:Int)(h0:vs=[.int i,.int j])(h1:(-(2^62)<=i/\i<2^62/\-(2^62)<=j/\j<2^62))(h2:R (qO i (j-i).toNat) H1)
def a6M(ta:TA):TI:=λO H R=>ta O H λvs H1=>afs R vs H1
theorem uz(hg:Gl X "range")(hm:X.mg "range"=none)(ha:PA X [a] ta)(hs:autoParam (starEach [a] X.env=[(false,eval a X.env)]) r8_._auto_1):PI X tg (.Call (.Name "range" p) [a] [] pos) (a6N ta):=by intro pins s O H R I h;erw[Call_ (qg I hg hm boot_range (yi (aZ (ha pos pins s O H _ I h) λus s1 #[vs,H1,I1,r1,q1]=>?_) hs Z))];let(j,e,q1,q2,q):=q1;subst e;cases r1 with |cons r rr=>cases rr;let(t,rfl):=r;erw[call_range_1 (Rb I1 ao ao q1 q2 (by simpa using q))]
theorem a1I{b:Expr}(hg:Gl X "range")(hm:X.mg "range"=none)(ha:PA X [a,b] ta)(hs:autoParam (starEach [a,b] X.env=[(false,eval a X.env),(false,eval b X.env)]) r8_._auto_1)(jm:autoParam (starEach [b] X.env=[(false,eval b X.env)]) r8_._auto_1): PI X tg (.Call (.Name "range" p) [a,b] [] pos) (a6M ta):=by intro pins s O H R I h;erw[Call_ (qg I hg hm boot_range (yi (aZ (ha pos pins s O H _ I h) λus s1 #[vs,H1,I1,r1,q1]=>?_) (by rw[hs,jm]) (by rw[jm];rfl)))];let(i,j,e,(q1,q2,q3,q4),q):=q1;subst e;cases r1 with |cons r rr=>cases rr with |cons r' rr=>cases rr;let(t,rfl):=r;let(t',rfl):=r';erw[call_range_2 (Rb I1 q1 q2 q3 q4 q)]
def YY(wi:TI)(g:TG)(tb:TS):TS:=λD O H=>wi O H λJ H1=>∃W:Nat->Nat->St->Hp->Prop,(∃m,W 0 m O H1)/\∀i m O H,W i m O H->(J.stop i H/\D.nx O H)\/(J.go i H/\∃N:St->Hp->Prop,(∀σ' H',N σ' H'->∃m',m'<m/\W (i+1) m' σ' H')/\∀x H',J.lA i H x H'->g x O H' λσ2 H2=>tb {D with nx:=N,ct:=N,bk:=D.nx} σ2 H2)
def wB(fp:List Addr)(h:Heap):List (Addr×Obj):=fp.filterMap λb=>(h.get? b).map λo=>(b,o)
theorem x8{b:Addr}(hb:b∈fp)(e:h.get? b=some o):(b,o)∈wB fp h:=pq.mpr #[b,hb,by rw[e];rfl]
theorem a4b(hp:p∈wB fp h):p.1∈fp/\h.get? p.1=some p.2:=by let(b,hb,e):=pq.mp hp;cases q:h.get? b with |none=>rw[q]at e;cases e |some o=>rw[q]at e;have e':(b,o)=p:=dU e;subst e';erw[hb,q]
theorem Inv.pinned{pins:List (Addr×Obj)}{O:St}{H:Hp}{s:ae}{fp:List Addr}(I:Inv X pins O H s)(hf:∀b∈fp,lT X pins H b)(ho:∀b∈fp,∃o,s.heap.get? b=some o/\∀v,o.data≠ .cell v):Inv X (pins++wB fp s.heap) O H s:=I.RA λp hp=>(iI.mp hp).elim (λz=>I.pin p (kY _ z)) λz=>by let(hb,e):=a4b z;let(f0,f1,f2,_):=hf p.1 hb;let(o,e',d):=ho p.1 hb;rw[e]at e';cases e';erw[e,f0,f1,f2,d]
theorem Inv.yB{pins pl:List (Addr×Obj)}{O:St}{H:Hp}{s:ae}(I:Inv X (pins++pl) O H s):Inv X pins O H s:=I.RA λp hp=>I.pin p (kY _ (MF _ hp))
theorem m6(hp:PassesOwn (model X.prog X.w) X.A X.env X.xe)(hc:X.calm=true)(hi:PI X tg iter wi)(hg:PG X tg g)(hb:g9 X body tb) (hs:autoParam (∀x,foldedSetIterable iter X.env x=pure x) d8_._auto_1):PS X (.For tg iter body [] pos) (YY wi g tb):=by
 intro pins s O H D I h;erw[wpAny_For (aZ (hi pins s O H _ I h) λv s1 h1=>aZ h1 λCP s2 h2=>?_) hs];let(it,fp,tn,J,H2,e,I2,T,ub,f2,W,(m0,w0),turn):=h2;subst e;have mK:∀{H':Hp},(∀b∈fp,H' b=none)->∀b∈fp,lT X pins H' b:=λhn b hb=>#[hn b hb,(f2 b hb).2];erw[codeAny_forLoop_any (λn s'=>∃i σ' H',Inv X pins σ' H' s'/\tn i s'.heap/\(∀b∈fp,H' b=none)/\W i n σ' H') ?_ m0 #[0,O,H2,I2,ub,λb hb=>(f2 b hb).1,w0]];rintro n s3 ⟨i,σ3,H3,I3,NJ,UU,w3⟩;rcases turn i n σ3 H3 w3 with⟨stop,qn⟩|⟨go,N,hN,step⟩
 ·erw[y8 hp (aZ (T.done X Z Z Z hc i pins s3 σ3 H3 X.xe I3 (mK UU) NJ stop) λr s4 #[hr,I4]=>?_)]
  subst hr;erw[En #[σ3,H3,I4,qn]]
 ·erw[y8 hp (aZ (T.item X Z Z Z hc i pins s3 σ3 H3 X.xe I3 (mK UU) NJ go) λr s4 #[u,hr,h4]=>?_)]
  subst hr;erw[y8 hp (aZ h4 λ_ s5 #[x,H5,I5,r5,y5,pI,vf]=>?_)];have I5':=I5.pinned (mK vf) (T.obj _ _ pI);erw[y8 hp (aZ (hg _ s5 σ3 H5 x u _ I5' r5 (step x H5 y5)) λ_ s6 #[σ6,H6,I6,q6]=>?_)];erw[y8 hp (aZ (hb _ s6 σ6 H6 _ I6 q6) λf s7 q7=>?_)];have again:∀{σ7:St}{H7:Hp},Inv X (pins++wB fp s5.heap) σ7 H7 s7->N σ7 H7->∃m,m<n/\∃i σ' H',Inv X pins σ' H' s7/\tn i s7.heap/\(∀b∈fp,H' b=none)/\W i m σ' H':=λ{σ7 H7} I7 n7=>by let(m',hm,w7):=hN σ7 H7 n7;erw[m',hm,i+1,σ7,H7,I7.yB,T.keep _ _ _ pI λb hb o e=>(I7.pin (b,o) (kY _ (kY _ (x8 hb e)))).1,λb hb=>?_,w7];let(o,e,d):=T.obj _ _ pI b hb;exact(I7.pin (b,o) (kY _ (kY _ (x8 hb e)))).2.1
  cases f with |next=>let(σ7,H7,I7,n7):=q7;erw[again I7 n7] |cont=>let(σ7,H7,I7,n7):=q7;erw[again I7 n7] |brk=>let(σ7,H7,I7,q7):=q7;erw[σ7,H7,I7.yB,q7] |ret v=>let(x7,σ7,H7,I7,r7,q7):=q7;erw[x7,σ7,H7,I7.yB,r7,q7]
end
theorem DH{K:aa}{a:Addr}{xs:List V}{g:TG}{tb:TS}{D:Ends}{O:St}{H:Hp}(Pv:Nat->St->Hp->Prop)(h0:Pv 0 O H)(hl:∀i O H,i<=xs.length->Pv i O H->aD K H a xs) (hs:∀i x O H,xs[i]? =some x->Pv i O H->g x O H λσ2 H2=>tb {D with nx:=Pv (i+1),ct:=Pv (i+1),bk:=D.nx} σ2 H2)(hd:∀O H,Pv xs.length O H->D.nx O H): ∃W:Nat->Nat->St->Hp->Prop,(∃m,W 0 m O H)/\∀i m O H,W i m O H->((tE K a).stop i H/\D.nx O H)\/((tE K a).go i H/\∃N:St->Hp->Prop,(∀σ' H',N σ' H'->∃m',m'<m/\W (i+1) m' σ' H')/\∀x H',(tE K a).lA i H x H'->g x O H' λσ2 H2=>tb {D with nx:=N,ct:=N,bk:=D.nx} σ2 H2):=by
 erw[λi m O H=>m=xs.length-i/\i<=xs.length/\Pv i O H,#[xs.length,by simp,fT _,h0],?_];rintro i m O H ⟨rfl,hi,p⟩;have q:=hl i O H hi p;by_cases cy:i<xs.length
 ·erw[.inr #[#[xs,xs[i],q,by simp[cy]],Pv (i+1),λσ' H' p'=>#[xs.length-(i+1),ao,Z,cy,p'],λx H' y=>?_]]
  let(e,y):=y;subst e;erw[hs i x O _ (y xs q) p]
 ·have e:i=xs.length:=by lia
  subst e;erw[.inl #[#[xs,q,bL _],hd O H p]]
theorem DG{lo:Int}{n:Nat}{g:TG}{tb:TS}{D:Ends}{O:St}{H:Hp}(Pv:Nat->St->Hp->Prop)(h0:Pv 0 O H) (hs:∀i O H,i<n->Pv i O H->g (.int (lo+i)) O H λσ2 H2=>tb {D with nx:=Pv (i+1),ct:=Pv (i+1),bk:=D.nx} σ2 H2)(hd:∀O H,Pv n O H->D.nx O H): ∃W:Nat->Nat->St->Hp->Prop,(∃m,W 0 m O H)/\∀i m O H,W i m O H->((qO lo n).stop i H/\D.nx O H)\/((qO lo n).go i H/\∃N:St->Hp->Prop,(∀σ' H',N σ' H'->∃m',m'<m/\W (i+1) m' σ' H')/\∀x H',(qO lo n).lA i H x H'->g x O H' λσ2 H2=>tb {D with nx:=N,ct:=N,bk:=D.nx} σ2 H2):=by
 erw[λi m O H=>m=n-i/\i<=n/\Pv i O H,#[n,by simp,fT _,h0],?_];rintro i m O H ⟨rfl,hi,p⟩;by_cases cy:i<n
 ·erw[.inr #[cy,Pv (i+1),λσ' H' p'=>#[n-(i+1),ao,Z,cy,p'],λx H' y=>?_]]
  let(e,y):=y;subst e y;erw[hs i O _ cy p]
 ·have e:i=n:=by lia
  subst e;erw[.inl #[bL _,hd O H p]]
theorem qY{D:Ends}(Pv:St->Hp->Prop)(μ:St->Hp->Nat)(h0:Pv O H) (hs:∀O H,Pv O H->c O H λb H1=>if b=true then tb {D with nx:=λσ' H'=>Pv σ' H'/\μ σ' H'<μ O H,ct:=λσ' H'=>Pv σ' H'/\μ σ' H'<μ O H,bk:=D.nx} O H1 else D.nx O H1) (mono:∀O H Q Q',(∀b H1,Q b H1->Q' b H1)->c O H Q->c O H Q'):N9 c tb D O H:=by erw[λm O H=>m=μ O H/\Pv O H,#[_,Z,h0],?_];rintro m O H ⟨rfl,p⟩;erw[mono O H _ _ (λb H1 q=>?_) (hs O H p)];cases b with |true=>erw[_,λσ' H' #[p',l]=>#[_,l,Z,p'],q] |false=>erw[q]
abbrev R2:=V->V->Hp->VK->Prop
def cU(X:Cx)(f:Value->Value->Sem Value)(r:R2):Prop:=∀(pins:List (Addr×Obj))(s:ae)(O:St)(H:Hp)(x y:V)(v u:Value)(Q:VK),Inv X pins O H s->RelV x v->RelV y u->r x y H Q->wpAny (model X.prog X.w) X.A (f v u) (EP X pins O Q) X.xe s
def LW(X:Cx)(f:Value->Sem Value)(r:V->Hp->VK->Prop):Prop:=∀(pins:List (Addr×Obj))(s:ae)(O:St)(H:Hp)(x:V)(v:Value)(Q:VK),Inv X pins O H s->RelV x v->r x H Q->wpAny (model X.prog X.w) X.A (f v) (EP X pins O Q) X.xe s
def fq(X:Cx)(f:Value)(r:List V->Hp->VK->Prop):Prop:=∀(pins:List (Addr×Obj))(s:ae)(O:St)(H:Hp)(xs:List V)(us:List Value)(Q:VK),Inv X pins O H s->Vals xs us->r xs H Q->wpAny (model X.prog X.w) X.A (call f us) (EP X pins O Q) X.xe s
def ade(X:Cx)(r:V->Hp->(Bool->Hp->Prop)->Prop):Prop:=∀(pins:List (Addr×Obj))(s:ae)(O:St)(H:Hp)(x:V)(v:Value)(Q:Bool->Hp->Prop),Inv X pins O H s->RelV x v->r x H Q->wpAny (model X.prog X.w) X.A (truthy v) (TP X pins O Q) X.xe s
def yH(r:R2)(ta tb:TE):TE:=λO H Q=>ta O H λx H1=>tb O H1 λy H2=>r x y H2 Q
def YD(r:V->Hp->VK->Prop)(ta:TE):TE:=λO H Q=>ta O H λx H1=>r x H1 Q
inductive IrI(C:Int->Int->Prop)(g:Int->Int->V)(x:V)(y:V)(H:Hp)(Q:VK):Prop |mk (i:_)(j:_)(h0:x= .int i)(h1:y= .int j)(h2:C i j)(h3:Q (g i j) H)
def rI(C:Int->Int->Prop)(g:Int->Int->V):R2:=λx y H Q=>IrI C g x y H Q
inductive aff(g:Int->Int->V)(x:V)(y:V)(H:Hp)(Q:VK):Prop |mk (i:_)(j:_)(h0:x= .int i)(h1:y= .int j)(h2:Q (g i j) H)
def kE(g:Int->Int->V):R2:=λx y H Q=>aff g x y H Q
inductive IrU(g:Int->V)(x:V)(H:Hp)(Q:VK):Prop |mk (i:_)(h0:x= .int i)(h1:Q (g i) H)
def rU(g:Int->V):V->Hp->VK->Prop:=λx H Q=>IrU g x H Q
section
variable {X:Cx}{a b c:Expr}{ta tb tc:TE}{pos:Pos}
theorem LF(ha:PE X a ta)(hb:PE X b tb){pins:List (Addr×Obj)}{s:ae}{O:St}{H:Hp}{R:V->V->Hp->Prop}(I:Inv X pins O H s) (h:ta O H λx H1=>tb O H1 λy H2=>R x y H2){Q:Value->ae->Prop}{f:Value->Value->Sem Value} (hf:∀v u s2 x y H2,Inv X pins O H2 s2->RelV x v->RelV y u->R x y H2->wpAny (model X.prog X.w) X.A (f v u) Q X.xe s2): wpAny (model X.prog X.w) X.A (eval a X.env) (λv s₁=>wpAny (model X.prog X.w) X.A (eval b X.env) (λu s₂=>wpAny (model X.prog X.w) X.A (f v u) Q X.xe s₂) X.xe s₁) X.xe s:=by erw[aZ (ha pins s O H _ I h) λv s1 #[x,H1,I1,r1,q1]=>?_];erw[aZ (hb pins s1 O H1 _ I1 q1) λu s2 #[y,H2,I2,r2,q2]=>?_];erw[hf v u s2 x y H2 I2 r1 r2 q2]
theorem aP(ho:cU X (binaryOp op) r)(ha:PE X a ta)(hb:PE X b tb):PE X (.BinOp a op b pos) (yH r ta tb):=by intro pins s O H Q I h;erw[wpAny_BinOp (LF ha hb I h λv u s2 x y H2 I2 rx ry q=>ho pins s2 O H2 x y v u Q I2 rx ry q)]
theorem kI(ho:LW X (unaryOp op) r)(ha:PE X a ta):PE X (.UnaryOp op a pos) (YD r ta):=by intro pins s O H Q I h;erw[UnaryOp_ (aZ (ha pins s O H _ I h) λv s1 #[x,H1,I1,r1,q1]=>ho pins s1 O H1 x v Q I1 r1 q1)]
theorem zm{f:Value->Value->Sem Value}{C:Int->Int->Prop}{g:Int->Int->Int} (rule:∀(i j:Int)(t u:Tok)(s:ae)(Q:Value->ae->Prop)(E:Value->ae->Prop),C i j->Q (.int (g i j) s.toks) {s with toks:=s.toks+1}->wpAny (model X.prog X.w) X.A (f (.int i t) (.int j u)) Q E s): cU X f (rI C λi j=>.int (g i j)):=by intro pins s O H x y v u Q I rx ry h;let(i,j,rfl,rfl,hc,q):=h;let(t,rfl):=rx;let(t',rfl):=ry;erw[rule i j t t' s _ _ hc #[.int (g i j),H,I.tok _,#[_,Z],q]]
theorem RX{f:Value->Value->Sem Value}{g:Int->Int->Int} (rule:∀(i j:Int)(t u:Tok)(s:ae)(Q:Value->ae->Prop)(E:Value->ae->Prop),Q (.int (g i j) s.toks) {s with toks:=s.toks+1}->wpAny (model X.prog X.w) X.A (f (.int i t) (.int j u)) Q E s): cU X f (kE λi j=>.int (g i j)):=by intro pins s O H x y v u Q I rx ry h;let(i,j,rfl,rfl,q):=h;let(t,rfl):=rx;let(t',rfl):=ry;erw[rule i j t t' s _ _ #[.int (g i j),H,I.tok _,#[_,Z],q]]
theorem wH{f:Value->Value->Sem Value}{g:Int->Int->Bool} (rule:∀(i j:Int)(t u:Tok)(s:ae)(Q:Value->ae->Prop)(E:Value->ae->Prop),Q (.bool (g i j)) s->wpAny (model X.prog X.w) X.A (f (.int i t) (.int j u)) Q E s): cU X f (kE λi j=>.bl (g i j)):=by intro pins s O H x y v u Q I rx ry h;let(i,j,rfl,rfl,q):=h;let(t,rfl):=rx;let(t',rfl):=ry;erw[rule i j t t' s _ _ #[.bl (g i j),H,I,Z,q]]
def afJ(i j:Int):Prop:=0<=j/\j<=1000000/\i.natAbs<2^64
theorem dw:cU X (binaryOp .Add) (kE λi j=>.int (i+j)):=RX λ_ _ _ _ _ _ _ q=>add_int q
theorem iM:cU X (binaryOp .Sub) (kE λi j=>.int (i-j)):=RX λ_ _ _ _ _ _ _ q=>sub_int q
theorem rM:cU X (binaryOp .Mod) (rI (λ_ j=>0<j) λi j=>.int (i%j)):=zm λi j _ _ _ _ _ hc q=>by have h1:(0:Int)<j:=hc;erw[mod_int' ao (by rw[Xq i ao];erw[q])]
theorem Ck:cU X (binaryOp .Pow) (rI afJ λi j=>.int (i^j.toNat)):=zm λ_ _ _ _ _ _ _ hc q=>pow_int_small hc.1 hc.2.1 hc.2.2 q
theorem Y8{f:Value->Sem Value}{g:Int->Int} (rule:∀(i:Int)(t:Tok)(s:ae)(Q:Value->ae->Prop)(E:Value->ae->Prop),Q (.int (g i) s.toks) {s with toks:=s.toks+1}->wpAny (model X.prog X.w) X.A (f (.int i t)) Q E s): LW X f (rU λi=>.int (g i)):=by intro pins s O H x v Q I rx h;let(i,rfl,q):=h;let(t,rfl):=rx;erw[rule i t s _ _ #[.int (g i),H,I.tok _,#[_,Z],q]]
theorem kA:LW X (unaryOp .USub) (rU λi=>.int (-i)):=Y8 λ_ _ _ _ _ q=>neg_int q
end
def OO:V->V->Bool | .bD,.bD=>true| .bD,.int _=>true| .int _,.bD=>true| .bD,.bl _=>true| .bl _,.bD=>true| .bD,.str _=>true| .str _,.bD=>true | .int _,.int _=>true| .bl _,.bl _=>true| .str _,.str _=>true| .kR _,.kR _=>true | .int _,.str _=>true| .str _,.int _=>true| .bl _,.str _=>true| .str _,.bl _=>true |_,_=>false
def rEq:R2:=λx y H Q=>OO x y=true/\Q (.bl (decide (x=y))) H
def rNe:R2:=λx y H Q=>OO x y=true/\Q (.bl (!decide (x=y))) H
theorem VB:decide (V.int i=V.int j)=(i==j):=by rw[kx];simp
theorem VD:decide (V.bl i=V.bl j)=(i==j):=by rw[kx];simp
theorem VA:decide (V.str i=V.str j)=(i==j):=by rw[kx];simp
theorem VC:decide (V.kR i=V.kR j)=(i.toList==j.toList):=by rw[kx];cases i;cases j;simp
section
variable {X:Cx}{a b c:Expr}{ta tb tc:TE}{pos:Pos}
theorem eO{pins:List (Addr×Obj)}{O:St}{H:Hp}{s:ae}{Q:VK}{k k':Bool}(I:Inv X pins O H s)(q:Q (.bl k) H)(e:k=k'):EP X pins O Q (.bool k') s:=by subst e;erw[.bl k,H,I,Z,q]
theorem kg:cU X (compareOp .Eq) rEq:=by intro pins s O H x y v u Q I rx ry h;let(hs,q):=h;cases x with
 |bD=>cases rx;cases y with |bD=>cases ry;erw[PySem.EqNone.eq_none_none (eO I q (by simp))] |bl j=>cases ry;erw[PySem.EqNone.eq_none_bool (eO I q (by simp))] |int j=>let(t',rfl):=ry;erw[PySem.EqNone.eq_none_int (eO I q (by simp))] |str j=>let(t',rfl):=ry;erw[PySem.EqNone.eq_none_str (eO I q (by simp))] |_=>erw[absurd (show false=true from hs) dX]
 |bl i=>cases rx;cases y with |bD=>cases ry;erw[PySem.EqNone.eq_bool_none (eO I q (by simp))] |bl j=>cases ry;erw[eq_bool (eO I q VD)] |str j=>let(t',rfl):=ry;erw[PySem.EqMixed.eq_bool_str (eO I q (by simp))] |_=>erw[absurd (show false=true from hs) dX]
 |int i=>let(t,rfl):=rx;cases y with |bD=>cases ry;erw[PySem.EqNone.eq_int_none (eO I q (by simp))] |int j=>let(t',rfl):=ry;erw[eq_int (eO I q VB)] |str j=>let(t',rfl):=ry;erw[PySem.EqMixed.eq_int_str (eO I q (by simp))] |_=>erw[absurd (show false=true from hs) dX]
 |str i=>let(t,rfl):=rx;cases y with |bD=>cases ry;erw[PySem.EqNone.eq_str_none (eO I q (by simp))] |bl j=>cases ry;erw[PySem.EqMixed.eq_str_bool (eO I q (by simp))] |int j=>let(t',rfl):=ry;erw[PySem.EqMixed.eq_str_int (eO I q (by simp))] |str j=>let(t',rfl):=ry;erw[eq_str (eO I q VA)] |_=>erw[absurd (show false=true from hs) dX]
 |kR i=>let(t,rfl):=rx;cases y with |kR j=>let(t',rfl):=ry;erw[PySem.W.eq_bytes (eO I q VC)] |_=>erw[absurd (show false=true from hs) dX]
 |_=>cases y<;>erw[absurd (show false=true from hs) dX]
theorem IG:cU X (compareOp .NotEq) rNe:=by intro pins s O H x y v u Q I rx ry h;let(hs,q):=h;cases x with
 |bD=>cases rx;cases y with |bD=>cases ry;erw[PySem.EqNone.ne_none_none (eO I q (by simp))] |bl j=>cases ry;erw[PySem.EqNone.ne_none_bool (eO I q (by simp))] |int j=>let(t',rfl):=ry;erw[PySem.EqNone.ne_none_int (eO I q (by simp))] |str j=>let(t',rfl):=ry;erw[PySem.EqNone.ne_none_str (eO I q (by simp))] |_=>erw[absurd (show false=true from hs) dX]
 |bl i=>cases rx;cases y with |bD=>cases ry;erw[PySem.EqNone.ne_bool_none (eO I q (by simp))] |bl j=>cases ry;erw[ne_bool (eO I q (kr not VD))] |str j=>let(t',rfl):=ry;erw[PySem.EqMixed.ne_bool_str (eO I q (by simp))] |_=>erw[absurd (show false=true from hs) dX]
 |int i=>let(t,rfl):=rx;cases y with |bD=>cases ry;erw[PySem.EqNone.ne_int_none (eO I q (by simp))] |int j=>let(t',rfl):=ry;erw[ne_int (eO I q (kr not VB))] |str j=>let(t',rfl):=ry;erw[PySem.EqMixed.ne_int_str (eO I q (by simp))] |_=>erw[absurd (show false=true from hs) dX]
 |str i=>let(t,rfl):=rx;cases y with |bD=>cases ry;erw[PySem.EqNone.ne_str_none (eO I q (by simp))] |bl j=>cases ry;erw[PySem.EqMixed.ne_str_bool (eO I q (by simp))] |int j=>let(t',rfl):=ry;erw[PySem.EqMixed.ne_str_int (eO I q (by simp))] |str j=>let(t',rfl):=ry;erw[ne_str (eO I q (kr not VA))] |_=>erw[absurd (show false=true from hs) dX]
 |kR i=>let(t,rfl):=rx;cases y with |kR j=>let(t',rfl):=ry;erw[PySem.W.ne_bytes (eO I q (kr not VC))] |_=>erw[absurd (show false=true from hs) dX]
 |_=>cases y<;>erw[absurd (show false=true from hs) dX]
theorem jD:cU X (compareOp .Lt) (kE λi j=>.bl (decide (i<j))):=wH λ_ _ _ _ _ _ _ q=>lt_int q
theorem zk:cU X (compareOp .LtE) (kE λi j=>.bl (decide (i<=j))):=wH λ_ _ _ _ _ _ _ q=>le_int q
theorem oz:cU X (compareOp .Gt) (kE λi j=>.bl (decide (j<i))):=wH λ_ _ _ _ _ _ _ q=>gt_int q
theorem wF:cU X (compareOp .GtE) (kE λi j=>.bl (decide (j<=i))):=wH λ_ _ _ _ _ _ _ q=>ge_int q
theorem a2o:cU X (compareOp .In) (λx y H Q=>∃i j,x= .str i/\y= .str j/\Q (.bl (!(Builtin.Str.occurrences j i 0 j.length 1).isEmpty)) H):=by intro pins s O H x y v u Q I rx ry h;let(i,j,rfl,rfl,q):=h;let(t,rfl):=rx;let(t',rfl):=ry;erw[in_str (eO I q Z)]
theorem Cm:cU X (compareOp .Is) (λx y H Q=>y= .bD/\Q (.bl (decide (x= .bD))) H):=by intro pins s O H x y v u Q I rx ry h;let(rfl,q):=h;cases ry;erw[is_none_gen (eO I q ?_)];cases x<;>first |(cases rx;rfl) |(let(t,rfl):=rx;rfl)
theorem IE:cU X (compareOp .IsNot) (λx y H Q=>y= .bD/\Q (.bl (!decide (x= .bD))) H):=by intro pins s O H x y v u Q I rx ry h;let(rfl,q):=h;cases ry;erw[isnot_none_gen (eO I q ?_)];cases x<;>first |(cases rx;rfl) |(let(t,rfl):=rx;rfl)
theorem cU.or{f:Value->Value->Sem Value}(h:cU X f r)(h':cU X f r'):cU X f (λx y H Q=>r x y H Q\/r' x y H Q):=by
 intro pins s O H x y v u Q I rx ry q;rcases q with q|q
 ·erw[h pins s O H x y v u Q I rx ry q]
 ·erw[h' pins s O H x y v u Q I rx ry q]
theorem bA(b:Expr){op:CmpOp}(h:autoParam (op≠ .In) q8_._auto_1)(h2:autoParam (op≠ .NotIn) q8_._auto_1):behindInMarks op b=false:=by
 have e1:(op==CmpOp.In)=false:=by cases op<;>first|rfl|erw[absurd rfl h]
 have e2:(op==CmpOp.NotIn)=false:=by cases op<;>first|rfl|erw[absurd rfl h2]
 cases b<;>simp[behindInMarks,e1,e2]
theorem fC(ho:cU X (compareOp op) r)(ha:PE X a ta)(hb:PE X b tb)(hm:behindInMarks op b=false):PE X (.Compare a [op] [b] pos) (yH r ta tb):=by intro pins s O H Q I h;erw[wpAny_Compare1 (LF ha hb I h λv u s2 x y H2 I2 rx ry q=>ho pins s2 O H2 x y v u Q I2 rx ry q) hm]
inductive adm(Q:Bool->Hp->Prop)(x:V)(H':Hp):Prop |mk (k:_)(h0:x= .bl k)(h1:Q k H')
def Nb(t:TE):TT:=λO H Q=>t O H λx H'=>adm Q x H'
theorem bS(ho:cU X (compareOp op) r)(ha:PE X a ta)(hb:PE X b tb)(hm:behindInMarks op b=false):PT X (.Compare a [op] [b] pos) (Nb (yH r ta tb)):=by intro pins s O H Q I h;erw[wpAny_isTrue_Compare1 (aZ (ha pins s O H _ I h) λv s1 #[x,H1,I1,r1,q1]=>aZ (hb pins s1 O H1 _ I1 q1) λu s2 #[y,H2,I2,r2,q2]=>aZ (ho pins s2 O H2 x y v u _ I2 r1 r2 q2) λc s3 #[z,H3,I3,r3,k,e,q3]=>?_) hm];subst e;cases r3;erw[nV #[H3,I3,q3]]
inductive adx(r':R2)(tc:TE)(O:St)(Q:VK)(y:V)(z:V)(H3:Hp):Prop |mk (k:_)(h0:z= .bl k)(h1:(if k=true then tc O H3 λw' H4=>r' y w' H4 Q else Q (.bl false) H3))
def Np(r r':R2)(ta tb tc:TE):TE:=λO H Q=>ta O H λx H1=>tb O H1 λy H2=>r x y H2 λz H3=>adx r' tc O Q y z H3
theorem a1X(ho:cU X (compareOp op) r)(ng:cU X (compareOp uF) r')(ha:PE X a ta)(hb:PE X b tb)(hc:PE X c tc) (hm:autoParam (lastMarks [op,uF] [b,c]=false) f8_._auto_1):PE X (.Compare a [op,uF] [b,c] pos) (Np r r' ta tb tc):=by intro pins s O H Q I h;erw[Compare_chain (aZ (ha pins s O H _ I h) λv s1 #[x,H1,I1,r1,q1]=>chain_link (aZ (hb pins s1 O H1 _ I1 q1) λu s2 #[y,H2,I2,r2,q2]=>aZ (ho pins s2 O H2 x y v u _ I2 r1 r2 q2) λd s3 #[z,H3,I3,r3,k,e,q3]=>?_)) hm];subst e;cases r3;erw[nV ?_];cases k with |false=>erw[ite_ff #[.bl false,H3,I3,Z,q3]] |true=>erw[ite_tt (chain_last (aZ (hc pins s3 O H3 _ I3 q3) λw' s4 #[z',H4,I4,r4,q4]=>ng pins s4 O H4 y z' u w' Q I4 r2 r4 q4))]
theorem a1t(ho:cU X (compareOp op) r)(ng:cU X (compareOp uF) r')(ha:PE X a ta)(hb:PE X b tb)(hc:PE X c tc) (hm:autoParam (lastMarks [op,uF] [b,c]=false) f8_._auto_1):PT X (.Compare a [op,uF] [b,c] pos) (Nb (Np r r' ta tb tc)):=by intro pins s O H Q I h;erw[isTrue_chain (aZ (ha pins s O H _ I h) λv s1 #[x,H1,I1,r1,q1]=>test_link (aZ (hb pins s1 O H1 _ I1 q1) λu s2 #[y,H2,I2,r2,q2]=>aZ (ho pins s2 O H2 x y v u _ I2 r1 r2 q2) λd s3 #[z,H3,I3,r3,k,e,q3]=>?_)) hm];subst e;cases r3;erw[nV ?_];cases k with |false=>let(k',e',q'):=q3;cases e';erw[ite_ff #[H3,I3,q']] |true=>erw[ite_tt (test_last (aZ (hc pins s3 O H3 _ I3 q3) λw' s4 #[z',H4,I4,r4,q4]=>aZ (ng pins s4 O H4 y z' u w' _ I4 r2 r4 q4) λd' s5 #[z2,H5,I5,r5,k2,e2,q5]=>?_))];subst e2;cases r5;erw[nV #[H5,I5,q5]]
def LY(K:aa)(x:V)(H:Hp)(k:Bool):Prop:=match x with | .bD=>k=false | .bl b=>k=b | .int i=>k=(i !=0) | .str y=>y.length<=sizeLine/\k=((y.length:Int) !=0) | .kR y=>y.size<=sizeLine/\k=((y.size:Int) !=0) | .ref p=>(∃xs,aD K H p xs/\k= !xs.isEmpty)\/(∃xs,bc K H p xs/\k= !xs.isEmpty)\/∃aM,H p=some (.dK aM)/\k= !aM.isEmpty |_=>False
theorem a6v{aM:List (κ×V)}{vs:List (κ×Value)}(r:KV aM vs):(!vs.isEmpty)= !aM.isEmpty:=by cases r<;>rfl
theorem TL(r:Vals xs its):(!its.toArray.isEmpty)= !xs.isEmpty:=by cases r<;>simp
theorem uP:(sizeLine:Nat)<2^63:=by rw[qR];decide
theorem Yl:ade X (λx H Q=>∃k,LY X.K x H k/\Q k H):=by intro pins s O H x v Q I rx h;let(k,e,q):=h;have hl:=uP;have hs:sizeLine=16777216:=qR;cases x with |bD=>cases rx;have e':k=false:=e;subst e';erw[truthy_none #[H,I,q]] |bl b=>cases rx;have e':k=b:=e;subst e';erw[nV #[H,I,q]] |int i=>let(t,rfl):=rx;have e':k=(i !=0):=e;subst e';erw[PySem.P.truthy_int #[H,I,q]] |str y=>let(t,rfl):=rx;obtain⟨hy,e'⟩:y.length<=sizeLine/\k=((y.length:Int) !=0):=e;subst e';erw[PySem.P.truthy_str ao #[H,I.tok _,q]] |kR y=>let(t,rfl):=rx;obtain⟨hy,e'⟩:y.size<=sizeLine/\k=((y.size:Int) !=0):=e;subst e';erw[PySem.W.truthy_bytes ao #[H,I.tok _,q]] |ref p=>
 cases rx;have e':(∃xs,aD X.K H p xs/\k= !xs.isEmpty)\/(∃xs,bc X.K H p xs/\k= !xs.isEmpty)\/∃aM,H p=some (.dK aM)/\k= !aM.isEmpty:=e;rcases e' with⟨xs,hx,e'⟩|⟨xs,hx,e'⟩|⟨aM,hx,e'⟩
 ·subst e'
  let(its,r,pl,hz):=I.list hx;have hlen:=r.length;erw[wpAny_truthy_list pl.isList (by simp only[eF];lia) #[H,I.tok _,by rw[TL r];erw[q]]]
 ·subst e'
  let(its,r,pl,hz):=I.tuple hx;have hlen:=r.length;erw[truthy_tuple pl (by simp only[eF];lia) #[H,I.tok _,by rw[TL r];erw[q]]]
 ·subst e'
  obtain⟨hz,hS,vs,r,m⟩:aM.length<=sizeLine/\(p==sysModules)=false/\∃vs,KV aM vs/\s.heap.DictOf (jE X.prog X.w) p vs:=I.bp p _ hx;have hlen:aM.length=vs.length:=Paired.length r;erw[wpAny_truthy_dict hS m ao #[H,I.tok _,by rw[a6v r];erw[q]]] |_=>exact(show False from e).elim
theorem a1s(ha:PE X a ta)(he:∀whole,isTrue a X.env whole=(do let v<-whole;standAt a.pos;holding [v] (truthy v))): PT X a (λO H Q=>ta O H λx H'=>∃k,LY X.K x H' k/\Q k H'):=by intro pins s O H Q I h;erw[isTrue_plain (aZ (ha pins s O H _ I h) λv s1 #[x,H1,I1,r1,q1]=>Yl pins s1 O H1 x v Q I1 r1 q1) (he _)]
theorem oA:cU X (binaryOp .Add) (λx y H Q=>∃i j,x= .str i/\y= .str j/\i.length+j.length<=sizeLine/\Q (.str (i++j)) H):=by intro pins s O H x y v u Q I rx ry h;let(i,j,rfl,rfl,hz,q):=h;let(t,rfl):=rx;let(t',rfl):=ry;erw[add_str (λt' tk=>#[.str (i++j),H,I.tok _,#[_,Z],q]) hz]
theorem vals1(r:Vals [x] us):∃u,us=[u]/\RelV x u:=by cases r with |cons r1 r2=>cases r2;erw[_,rfl,r1]
theorem vals2(r:Vals [x,y] us):∃u w',us=[u,w']/\RelV x u/\RelV y w':=by cases r with |cons r1 r2=>cases r2 with |cons r3 r4=>cases r4;erw[_,_,rfl,r1,r3]
theorem nP:fq X (.builtin "abs") (λxs H Q=>∃i,xs=[.int i]/\Q (.int (if i<0 then-i else i)) H):=by intro pins s O H xs us Q I r h;let(i,rfl,q):=h;let(u,rfl,t,rfl):=vals1 r;erw[call_abs_int λu tk=>#[.int (if i<0 then-i else i),H,I.tok _,#[_,Z],q]]
theorem aci(hc:X.calm=true):fq X (.builtin "max") (λxs H Q=>∃i j,xs=[.int i,.int j]/\Q (.int (if j>i then j else i)) H):=by
 intro pins s O H xs us Q I r h;let(i,j,rfl,q):=h;let(u,w',rfl,(t,rfl),(t',rfl)):=vals2 r;erw[max_two_ints (I.ok.hd hc) λh' tk k=>#[_,H,I.kept k,?_,q]];by_cases hj:j>i
 ·rw[bo hj,bo hj];erw[_,Z]
 ·rw[bj hj,bj hj];erw[_,Z]
theorem W0(hc:X.calm=true):fq X (.builtin "min") (λxs H Q=>∃i j,xs=[.int i,.int j]/\Q (.int (if j<i then j else i)) H):=by
 intro pins s O H xs us Q I r h;let(i,j,rfl,q):=h;let(u,w',rfl,(t,rfl),(t',rfl)):=vals2 r;erw[min_two_ints (I.ok.hd hc) λh' tk k=>#[_,H,I.kept k,?_,q]];by_cases hj:j<i
 ·rw[bo hj,bo hj];erw[_,Z]
 ·rw[bj hj,bj hj];erw[_,Z]
theorem W2:fq X (.type "int") (λxs H Q=>(∃i,xs=[.int i]/\Q (.int i) H)\/∃k,xs=[.bl k]/\Q (.int (if k then 1 else 0)) H):=by
 intro pins s O H xs us Q I r h;rcases h with⟨i,rfl,q⟩|⟨k,rfl,q⟩
 ·let(u,rfl,t,rfl):=vals1 r
  erw[call_int_int #[.int i,H,I,#[_,Z],q]]
 ·let(u,rfl,r1):=vals1 r
  cases r1;erw[call_int_bool #[.int (if k then 1 else 0),H,I.tok _,#[_,Z],q]]
end
structure vx(h:Heap)(x dx C:Addr)(mA:bO):Prop where
 obj:h.get? x=some (PySem.W.instObj C dx)
 ns:h.Ns1 dx mA
 ne:dx≠x
theorem a5P{h:Heap}{dx:Addr}{mA:bO}(n:h.Ns1 dx mA):∃od,h.get? dx=some od/\∀name,PySem.W.lookIn name od=some (mA name):=by
 let(o,es,ep,ho,hd,hk,_,hm):=n;erw[o,ho,λname=>?_];have e:=hm name;unfold nsFind findBy at e;rw[<-Array.find?_toList]at e;unfold PySem.W.lookIn;rw[hd];dsimp only;split
 ·rename_i y q
  rw[q]at e;erw[kr some e]
 ·rename_i q
  rw[q]at e;have a:es.toList.any (·.refKey)=false:=by rw[List.any_eq_false];intro y hy;let(z,t,a7C):=hk y (Array.mem_toList_iff.mp hy);simp[DictEntry.refKey,a7C]
  have a':¬es.toList.any (·.refKey)=true:=by rw[a];erw[dX]
  rw[bj a'];erw[kr some e]
theorem vx.look(I:vx h x dx C mA):∃od,PySem.W.InstAt h x (PySem.W.instObj C dx) C (some od)/\∀name,PySem.W.lookIn name od=some (mA name):=let#[od,ho,hl]:=a5P I.ns
 #[od,#[I.obj,Z,Z,ho],hl]
section
variable {prog:af}{w:World}{A:ah}{E:Value->ae->Prop}{s:ae}{K:aa}{x dx C f:Addr}{mA:bO}{name:Str}{v:Value}
theorem get_map{expr:Bool}{Q:Value->ae->Prop}(X:K.In s.heap)(I:vx s.heap x dx C mA)(hg:PySem.W.plainGet K C name=true)(hh:PySem.W.hasDictIn K C=true) (ha:PySem.W.findIn K (.ref C) name=some none)(hv:mA name=some v)(hv':PySem.W.handedIn v=true)(h:Q v {s with toks:=s.toks+1}): wpAny (model prog w) A (getAttr (.ref x) name expr) Q E s:=by let(od,J,hl):=I.look;erw[PySem.W.get_value X J (X0 hg).1 (PySem.W.findObj_own hh ha Z (by rw[hl,hv])) hv' h]
theorem a9l{pl:Sem Bool}{Q:Value×List Value->ae->Prop}(X:K.In s.heap)(I:vx s.heap x dx C mA)(hg:PySem.W.plainGet K C name=true) (hf:PySem.W.findIn K (.ref C) name=some (some (.ref f)))(ht:PySem.W.isFn K (.ref f)=true)(hv:mA name=none)(h:Q (.ref f,[.ref x]) s): wpAny (model prog w) A (getMethod (.ref x) name pl) Q E s:=by let(od,J,hl):=I.look;erw[PySem.W.method_fn X J (X0 hg).1 (X0 hg).2 hf (gc.mp ht) (by show(PySem.W.lookIn name od).map (·.isSome)=some false;rw[hl,hv];rfl) h]
theorem ZM{ns:List Str}{Q:Unit->ae->Prop}(X:K.In s.heap)(I:vx s.heap x dx C mA) (hs:PySem.W.findIn K (.ref C) "__setattr__"=some (some (.builtin "object.__setattr__")))(hp:PySem.W.plainOver K C=true)(ht:PySem.W.takerIn K C name=some none)(hh:PySem.W.hasDictIn K C=true) (hw:PySem.Within mA ns)(hsz:ns.length<=sizeLine) (h:∀h',vx h' x dx C (λy=>if y=name then some v else mA y)->Heap.SameBut dx s.heap h'->Q () {s with heap:=h',toks:=s.toks+2}): wpAny (model prog w) A (setAttr (.ref x) name v) Q E s:=by let(od,J,hl):=I.look;erw[PySem.W.set_plain X J hs (PySem.W.osa_open (s:={s with toks:=s.toks+1}) (r:=none) X J hp ht λb=>?_)];let(cd,hc,Kc):=PySem.W.any_some hh;have hx:s.heap.get? x=some #[.ref C,some dx,.plain,#[]]:=I.obj;erw[aJ (cg (aJ (aJ (wpAny_loadPart hx (aJ (PySem.W.Looks.here (s:={s with toks:=s.toks+1}) (PySem.W.looks_clsIn X hc) ?_))))))];rw[Kc];erw[cg (a:=some dx) (aJ (cg (aJ ?_)))];erw[wpAny_nsSet1 (s:={s with toks:=s.toks+1}) I.ns λh' sE jm=>?_];let(oD,esD,epD,hoD,hdD,hcD):=sE.count (PySem.Within.cons name v hw);erw[aJ (wpAny_lookBehind hoD (by rw[hdD];erw[pastItsLine_dict (jf hcD (by rw[gy];lia))]) ?_)];erw[cg (h _ #[(jm.2 _ (jS I.ne)).trans I.obj,sE,I.ne] jm)]
theorem a5l{R:Result->ae->Prop}{vs:List Value}{kw:List (Str×Value)}(X:K.In s.heap)(hm:PySem.W.makesIn K C=true) (hi:PySem.W.findIn K (.ref C) "__init__"=some (some (.ref f)))(hf:PySem.W.typeIn K (.ref f)=some (.type "function")) (h:codeAny (model prog w) (A.under (.builtin "type.__call__" #[.ref C::vs,kw])) (.call (.ref f) #[.ref (s.heap.objs.size+1)::vs,kw]) (PySem.W.InitBack (s.heap.objs.size+1) R) {s with heap:=(s.heap.push PySem.W.emptyDict).push (PySem.W.instObj C s.heap.objs.size)}): codeAny (model prog w) A (.call (.ref C) #[vs,kw]) R s:=by let(hh,g,d,t,os):=s;erw[PySem.W.make_core (PySem.W.makes_of X hm) (PySem.W.looks_findIn X hi) (λself=>PySem.W.bind_fn X self hf) (.inl Z) h]
end
def ji(f:Str)(v:V):List (Str×V)->List (Str×V) |[]=>[(f,v)] |(g,x)::r=>if g=f then(g,v)::r else(g,x)::ji f v r
theorem SX(f g:Str)(v:V):∀fs:List (Str×V),(ji f v fs).lookup g=if g=f then some v else fs.lookup g
 |[]=>by
  show List.lookup g [(f,v)]=_;by_cases h:g=f
  ·have hb:(g==f)=true:=gc.mpr h
   simp only[List.lookup,hb,bo h]
  ·have hb:(g==f)=false:=Ep.mpr h
   simp only[List.lookup,hb,bj h] |(k,x)::r=>by
  have ih:=SX f g v r;rw[show ji f v ((k,x)::r)=(if k=f then(k,v)::r else(k,x)::ji f v r)from rfl];by_cases hk:k=f
  ·rw[bo hk]
   by_cases h:g=k
   ·have hb:(g==k)=true:=gc.mpr h
    simp only[List.lookup,hb,bo (h.trans hk)]
   ·have hb:(g==k)=false:=Ep.mpr h
    simp only[List.lookup,hb,bj (λe:g=f=>h (e.trans hk.symm))]
  ·rw[bj hk]
   by_cases h:g=k
   ·have hb:(g==k)=true:=gc.mpr h
    simp only[List.lookup,hb,bj (λe:g=f=>hk (h.symm.trans e))]
   ·have hb:(g==k)=false:=Ep.mpr h
    simp only[List.lookup,hb];erw[ih]
theorem JC(f:Str)(v:V):∀fs:List (Str×V),f∈(ji f v fs).map (·.1)/\∀g,g∈fs.map (·.1)->g∈(ji f v fs).map (·.1)
 |[]=>#[by simp[ji],λg h=>by simp at h] |(k,x)::r=>by
  let(i1,i2):=JC f v r;rw[show ji f v ((k,x)::r)=(if k=f then(k,v)::r else(k,x)::ji f v r)from rfl];by_cases hk:k=f
  ·rw[bo hk]
   subst hk;erw[by simp,λg h=>by simpa using h]
  ·rw[bj hk]
   erw[?_,λg h=>?_]
   ·rw[kZ]
    erw[yo _ i1]
   ·rw[kZ]at h⊢
    rcases bI.mp h with e|e
    ·erw[bI.mpr (.inl e)]
    ·erw[yo _ (i2 g e)]
theorem T9(f:Str)(v:V):∀fs:List (Str×V),(ji f v fs).length<=fs.length+1
 |[]=>by simp[ji] |(k,x)::r=>by
  have ih:=T9 f v r;rw[show ji f v ((k,x)::r)=(if k=f then(k,v)::r else(k,x)::ji f v r)from rfl];by_cases hk:k=f
  ·rw[bo hk,gy,gy];lia
  ·rw[bj hk,gy,gy];lia
theorem jP.some_of{v:V}(r:jP (some v) o):∃u,o=some u/\RelV v u:=by cases o with |none=>exact(show False from r).elim |some u=>erw[u,Z,r]
theorem jP.none_of(r:jP none o):o=none:=by cases o with |none=>rfl |some u=>exact(show False from r).elim
theorem a8o{v:V}(r:RelV v u):PySem.W.handedIn u=true:=by cases v with |bD=>cases(show u=Value.none from r);rfl |bl b=>cases(show u=Value.bool b from r);rfl |int i=>let(t,e):=(show∃t,u=Value.int i t from r);cases e;rfl |str x=>let(t,e):=(show∃t,u=Value.str x t from r);cases e;rfl |kR b=>let(t,e):=(show∃t,u=Value.bytes b t from r);cases e;rfl |DI b=>let(t,e):=(show∃t,u=Value.float b t from r);cases e;rfl |ref a=>cases(show u=Value.ref a from r);rfl |ty n=>cases(show u=Value.type n from r);rfl
section
variable {P:af}{w:World}{H H':Hp}{h h':Heap}{a C dx:Addr}{fs oX:List (Str×V)}
theorem JK(bp:dS P w H h)(e:H a=some (.ins C dx fs)):∃mA,vx h a dx C mA/\(∀f,jP (fs.lookup f) (mA f))/\PySem.Within mA (fs.map (·.1))/\fs.length<=1000/\H dx=some (.own a):=by let(d,z,ne,ob,mA,n,r,q):=(show gb P w H h a (.ins C dx fs)from bp a _ e);erw[mA,#[ob,n,ne],r,q,z,d]
end
structure hV(K:aa)(C:Addr):Prop where
 pg:PySem.W.plainGet K C Str.empty=true
 hd:PySem.W.hasDictIn K C=true
 po:PySem.W.plainOver K C=true
 sa:PySem.W.findIn K (.ref C) "__setattr__"=some (some (.builtin "object.__setattr__"))
theorem hV.get{K:aa}{C:Addr}(c:hV K C)(f:Str):PySem.W.plainGet K C f=true:=c.pg
def iV(K:aa)(C:Addr)(f:Str):Prop:=PySem.W.findIn K (.ref C) f=some none
theorem iV.YC{K:aa}{f:Str}(n:iV K C f):PySem.W.takerIn K C f=some none:=by unfold PySem.W.takerIn;rw[show PySem.W.findIn K (.ref C) f=some none from n];rfl
structure Meth(K:aa)(C:Addr)(m:Str)(f:Addr):Prop where
 at_:PySem.W.findIn K (.ref C) m=some (some (.ref f))
 fn:PySem.W.isFn K (.ref f)=true
 kp:PySem.W.keepIn K (.ref f)=true
section
variable {X:Cx}{pins:List (Addr×Obj)}{O:St}{H:Hp}{s:ae}{a C dx:Addr}{fs:List (Str×V)}{f:Str}{v:V}{A:ah}{E:Value->ae->Prop}
theorem UN{b:Bool}{Q:Value->ae->Prop}(I:Inv X pins O H s)(e:H a=some (.ins C dx fs))(c:hV X.K C)(n:iV X.K C f)(l:fs.lookup f=some v) (h:∀u s',Inv X pins O H s'->RelV v u->Q u s'):wpAny (model X.prog X.w) A (getAttr (.ref a) f b) Q E s:=by let(mA,ah2,r,_,_,_):=JK I.bp e;let(u,hu,ru):=jP.some_of (v:=v) (o:=mA f) (by rw[<-l];erw[r f]);erw[get_map I.fD ah2 (c.get f) c.hd n hu (a8o ru) (h u _ (I.tok _) ru)]
theorem Ac{pl:Sem Bool}{Q:Value×List Value->ae->Prop}(I:Inv X pins O H s)(e:H a=some (.ins C dx fs))(c:hV X.K C)(k:Meth X.K C m g)(l:fs.lookup m=none) (h:Q (.ref g,[.ref a]) s):wpAny (model X.prog X.w) A (getMethod (.ref a) m pl) Q E s:=by let(mA,ah2,r,_,_,_):=JK I.bp e;have hn:mA m=none:=jP.none_of (by rw[<-l];erw[r m]);erw[a9l I.fD ah2 (c.get m) k.at_ k.fn hn h]
theorem OL{y:V}{u:Value}{Q:Unit->ae->Prop}(I:Inv X pins O H s)(e:H a=some (.ins C dx fs))(c:hV X.K C)(n:iV X.K C f)(hl:fs.length<1000)(ry:RelV y u) (h:∀s',Inv X pins O (upd H a (.ins C dx (ji f y fs))) s'->Q () s'):wpAny (model X.prog X.w) A (setAttr (.ref a) f u) Q E s:=by
 let(mA,ah2,r,wi,_,ho):=JK I.bp e;have hz:(fs.map (·.1)).length<=sizeLine:=by rw[bV,qR];lia
 erw[ZM I.fD ah2 c.sa c.po n.YC c.hd wi hz λh' O' sb=>h _ ?_];have hd:∃o,h'.get? dx=some o:=let#[o,_,_,e',_]:=O'.ns;#[o,e'];erw[I.write (x:=a) (e:=dx) (by rw[e];erw[True.intro]) (.inr ho) (λb q hb z=>(sb.2 b hb).trans z) hd ?_];erw[by rw[aQ ah2.ne];erw[ho],?_,ah2.ne,O'.obj,_,O'.ns,λg=>?_,λg hg=>?_]
 ·have:=T9 f y fs;lia
 ·show jP ((ji f y fs).lookup g) (if g=f then some u else mA g)
  rw[SX];by_cases q:g=f
  ·rw[bo q,bo q];erw[ry]
  ·rw[bj q,bj q];erw[r g]
 ·by_cases q:g=f
  ·rw[q];exact(JC f y fs).1
  ·refine(JC f y fs).2 g (wi g λz=>hg ?_)
   show(if g=f then some u else mA g)=none;rw[bj q];erw[z]
theorem Inv.made(I:Inv X pins O H s):Inv X pins O (upd (upd H s.heap.objs.size (.own (s.heap.objs.size+1))) (s.heap.objs.size+1) (.ins C s.heap.objs.size [])) {s with heap:=(s.heap.push PySem.W.emptyDict).push (PySem.W.instObj C s.heap.objs.size)}:=by
 have e1:(s.heap.push PySem.W.emptyDict).get? s.heap.objs.size=some PySem.W.emptyDict:=dD s.heap rfl;have e2:((s.heap.push PySem.W.emptyDict).push (PySem.W.instObj C s.heap.objs.size)).get? (s.heap.objs.size+1)=some (PySem.W.instObj C s.heap.objs.size):=by have:=dD (s.heap.push PySem.W.emptyDict) (o:=PySem.W.instObj C s.heap.objs.size) rfl;rwa [qX]at this
 have e3:(s.heap.push PySem.W.emptyDict).Ns s.heap.objs.size (λ_=>none):=#[PySem.W.emptyDict,#[],_,e1,Z,(λe he=>absurd he (by simp)),λ_=>rfl];have I1:=I.laid (a:=s.heap.objs.size) (o:=.own (s.heap.objs.size+1)) (h':=s.heap.push PySem.W.emptyDict) (t':=s.toks) (λb u q=>bZ _ q) (bL _) #[_,e1];erw[I1.laid (a:=s.heap.objs.size+1) (o:=.ins C s.heap.objs.size []) (t':=s.toks) (λb u q=>bZ _ q) (Nat.le_of_eq (qX _ _)) ?_];have ne:s.heap.objs.size≠s.heap.objs.size+1:=dI (Nat.lt_succ_self _);erw[by rw[aQ ne,bP],fT _,ne,e2,λ_=>none,(Heap.Ns1.of_empty e3).at λo q=>bZ _ q,λ_=>True.intro,λy hy=>absurd rfl hy]
theorem acK{prog:af}{w:World}{env:Env}{e:Expr}{f:Str}{pos:Pos}{s:ae}{Q:Value->ae->Prop}(hb:attributeBase e f env (eval e env)=eval e env) (h:wpAny (model prog w) A (eval e env) (λo s₁=>wpAny (model prog w) A (getAttr o f true) Q E s₁) E s):wpAny (model prog w) A (eval (.Attribute e f pos) env) Q E s:=Attribute_any_ h (by rw[arm_eval_Attribute,hb])
end
def afn(X:Cx)(op:Operator)(rd:V->V->Hp->VK->Prop):Prop:=∀(pins:List (Addr×Obj))(s:ae)(O:St)(H:Hp)(x y:V)(u v:Value)(Q:VK),Inv X pins O H s->RelV x u->RelV y v->rd x y H Q->wpAny (model X.prog X.w) X.A (inplaceOp op u v) (EP X pins O Q) X.xe s
section
variable {X:Cx}{o e value:Expr}{f:Str}{pos pos' tY:Pos}{ta tv:TE}
end
section
variable {X:Cx}{pins:List (Addr×Obj)}{O:St}{H:Hp}{s:ae}{A:ah}{E:Value->ae->Prop}{Q:Value->ae->Prop}{c:Value}{b:Bool}
end
structure cI(k:Nat)(A:ah):Prop where
 hd:A.handled=none
 dp:A.depth+3*k+5<recursionLimit
 un:A.units+16*k+200<cLine
theorem cI.mono{k:Nat}(r:cI k A)(h:j<=k):cI j A:=#[r.hd,by have:=r.dp;lia,by have:=r.un;lia]
theorem cI.deeper{k:Nat}(r:cI (k+1) A)(env:Env):cI k (A.deeper env):=#[r.hd,by have:=r.dp;show A.depth+1+3*k+5<_;lia,by have:=r.un;show A.units+3+16*k+200<_;lia]
theorem a5m{A:ah}{C:Addr}{us:List Value}{kw:List (Str×Value)}:(A.under (.builtin "type.__call__" #[.ref C::us,kw])).depth=A.depth+1:=by first|rfl|simp[Around.under,Code.weight,Code.isCreation,Code.isGuard,Code.isCaller,Code.frames,Code.isFrame,guardIds]
theorem a5k{A:ah}{C:Addr}{us:List Value}{kw:List (Str×Value)}:(A.under (.builtin "type.__call__" #[.ref C::us,kw])).units=A.units+1:=by first|rfl|simp[Around.under,Code.cUnits,Code.frames,Code.isFrame]
theorem cI.make{k:Nat}(r:cI (k+1) A)(C:Addr)(us:List Value)(kw:List (Str×Value)):cI k (A.under (.builtin "type.__call__" #[.ref C::us,kw])):=#[r.hd,by have:=r.dp;rw[a5m];omega,by have:=r.un;rw[a5k];omega]
theorem cI.depth{k:Nat}(r:cI k A):A.depth<recursionLimit:=by have:=r.dp;lia
theorem cI.units{k:Nat}(r:cI k A):A.units+64<cLine:=by have:=r.un;lia
def rn:TA:=λ_ H Q=>Q [] H
def Z2(ta:TE)(tr:TA):TA:=λO H Q=>ta O H λx H1=>tr O H1 λxs H2=>Q (x::xs) H2
section
variable {X:Cx}{e:Expr}{es:List Expr}{te:TE}{t:TA}{pos:Pos}
theorem ay:PA X [] rn:=λ_ _ _ _ H Q I h=>Calls.spliced_nil #[[],H,I,.nil,h]
theorem ak(ha:PE X e te)(hr:PA X es t)(hs:autoParam (starEach (e::es) X.env=(false,eval e X.env)::starEach es X.env) r8_._auto_1):PA X (e::es) (Z2 te t):=by intro pos pins s O H Q I h;rw[hs];show wpAny _ _ (spliced ((false,eval e X.env)::backTo pos (starEach es X.env))) _ _ s;erw[Calls.spliced_cons (aZ (ha pins s O H _ I h) λu s1 #[x,H1,I1,r1,q1]=>?_)];erw[aZ (hr pos pins s1 O H1 _ I1 q1) λus s2 #[xs,H2,I2,r2,q2]=>#[x::xs,H2,I2,.cons r1 r2,q2]]
end
abbrev Sp:=List V->Hp->VK->XK->Prop
abbrev jc:=List Env->Hp->ae->XK->Value->ae->Prop
structure qQ(P:af)(w:World)(K:aa)(mg:bO)(au:Heap)(A:ah)(outer:List Env)(s:ae)(H:Hp):Prop where
 frames:A.frames=some outer
 mod:Mod K mg au
 bs:∀b o,au.get? b=some o->s.heap.get? b=some o/\H b=none
 lP:au.objs.size<=s.heap.objs.size
 jG:s.heap.FunFrames au outer
 nJ:∀b∈fj outer,H b=none
 bp:dS P w H s.heap
 bare:AllBare s.gens
def CE(outer:List Env)(P:af)(w:World)(H:Hp)(s:ae)(Q:VK)(u:Value)(s':ae):Prop:=∃v H',s'.os=s.os/\AllBare s'.gens/\Un (fj outer) [] H H' s.heap s'.heap/\dS P w H' s'.heap/\RelV v u/\Q v H'
def CR(CX:jc)(outer:List Env)(P:af)(w:World)(H:Hp)(s:ae)(Q:VK)(E:XK)(r:Result)(s':ae):Prop:=match r with | .ok (.ret u)=>CE outer P w H s Q u s' | .ok _=>False | .error e=>CX outer H s E e s'
structure eR(P:af)(w:World)(K:aa)(mg:bO)(au:Heap)(CX:jc)(k:Nat)(f:Addr)(fd:FuncData)(ps:List Str)(sp:Sp):Prop where
 len:∀vs H Q E,sp vs H Q E->vs.length=ps.length
 run:∀(A:ah)(outer:List Env)(s:ae)(H:Hp)(args:Args)(us:List Value)(vs:List V)(Q:VK)(E:XK),cI k A->qQ P w K mg au A outer s H->BindsTo s fd args (ps.zip us)->Vals vs us->sp vs H Q E->codeAny (model P w) A (.call (.ref f) args) (CR CX outer P w H s Q E) s
theorem eR.mono{P:af}{w:World}{K:aa}{mg:bO}{au:Heap}{k:Nat}{f:Addr}(F:eR P w K mg au CX j f fd ps sp)(h:j<=k): eR P w K mg au CX k f fd ps sp:=#[F.len,λA outer s H args us vs Q E hr=>F.run A outer s H args us vs Q E (hr.mono h)]
theorem qQ.make{P:af}{w:World}{K:aa}{mg:bO}{au:Heap}(e:qQ P w K mg au A outer s H)(C:Addr)(us:List Value)(kw:List (Str×Value)): qQ P w K mg au (A.under (.builtin "type.__call__" #[.ref C::us,kw])) outer s H:=#[by first|erw[e.frames]|(simpa[Around.under,Code.envs,Code.isFrame,pushEnvs]using e.frames),e.mod,e.bs,e.lP,e.jG,e.nJ,e.bp,e.bare]
section
variable {X:Cx}{pins:List (Addr×Obj)}{O:St}{H:Hp}{s s':ae}
theorem Inv.DQ(I:Inv X pins O H s):qQ X.prog X.w X.K X.mg X.au X.A X.stack s H:=#[I.ok.frames,I.ok.mod,I.bs,jf I.ok.lP I.sz,I.stack,I.BG,I.bp,I.bare]
theorem Inv.after(I:Inv X pins O H s)(h:CE X.stack X.prog X.w H s Q u s'):EP X pins O Q u s':=by let(v,H',os,bare,un,bp,r,q):=h;let(hh,g,d,t,kb):=s';obtain rfl:kb=s.os:=os;erw[v,H',I.call (h':=hh) (g':=g) (d':=d) (t':=t) (ch:=[]) un bp bare (λb z=>absurd z (by simp)),r,q]
end
def Z3(sp:Sp)(dvs:List V)(E:XK)(t:TA):TE:=λO H Q=>t O H λvs H1=>sp (vs++dvs) H1 Q E
inductive vB(C:Addr)(m:Str)(sp:Sp)(dvs:List V)(E:XK)(t:TA)(O:St)(Q:VK)(x:V)(H1:Hp):Prop |mk (a:_)(dx:_)(fs:_)(h0:x= .ref a)(h1:H1 a=some (.ins C dx fs))(h2:fs.lookup m=none)(h3:t O H1 λvs H2=>sp (x::(vs++dvs)) H2 Q E)
def Ni(C:Addr)(m:Str)(sp:Sp)(dvs:List V)(E:XK)(ta:TE)(t:TA):TE:=λO H Q=>ta O H λx H1=>vB C m sp dvs E t O Q x H1
def YT(C:Addr)(sp:Sp)(dvs:List V)(E:XK)(t:TA):TE:=λO H Q=>t O H λvs H1=>∀x dx,H1 x=none->H1 dx=none->dx≠x->sp (.ref x::(vs++dvs)) (upd (upd H1 dx (.own x)) x (.ins C dx [])) (λv H2=>v= .bD/\Q (.ref x) H2) E
def Binds(K:aa)(fd:FuncData)(ps:List Str)(ds:List Value):Prop:=∀(s:ae)(us:List Value),K.In s.heap->(us++ds).length=ps.length->BindsTo s fd #[us,[]] (ps.zip (us++ds))
theorem Binds.all{K:aa}(h:∀us:List Value,us.length=ps.length->bindArgs fd #[us,[]]=pure (ps.zip us)):Binds K fd ps []:=λs us _ hl=>by rw[qU]at hl⊢;erw[.of_eq (h us hl)]
def Passes(CX:jc)(X:Cx)(E:XK):Prop:=∀(pins:List (Addr×Obj))(O:St)(H:Hp)(s:ae)(e:Value)(s':ae),Inv X pins O H s->CX X.stack H s E e s'->X.xe e s'
section
variable {X:Cx}{CX:jc}{k:Nat}{f C:Addr}{fd:FuncData}{ps:List Str}{sp:Sp}{dvs:List V}{ds:List Value}{E:XK}{x m:Str}{p pos apos:Pos}{e o:Expr}{es:List Expr}{ta:TE}{t:TA}
theorem C7{pins:List (Addr×Obj)}{O:St}{H:Hp}{s:ae}{Q:VK}{us:List Value}{vs:List V}(F:eR X.prog X.w X.K X.mg X.au CX k f fd ps sp)(hr:cI k X.A)(hb:Binds X.K fd ps ds)(hd:Vals dvs ds)(hx:Passes CX X E) (I:Inv X pins O H s)(r:Vals vs us)(h:sp (vs++dvs) H Q E):wpAny (model X.prog X.w) X.A (call (.ref f) us) (EP X pins O Q) X.xe s:=by
 have r2:Vals (vs++dvs) (us++ds):=r.append hd;have hl:(us++ds).length=ps.length:=by rw[<-r2.length];erw[F.len _ _ _ _ h]
 erw[AS (vI (F.run X.A X.stack s H #[us,[]] (us++ds) (vs++dvs) Q E hr I.DQ (hb s us I.fD hl) r2 h) λr s' hq=>?_)];cases r with |error e=>erw[hx pins O H s e s' I hq] |ok fl=>cases fl with |ret u=>erw[I.after hq] |next=>erw[False.elim hq] |brk=>erw[False.elim hq] |cont=>erw[False.elim hq]
theorem a20(F:eR X.prog X.w X.K X.mg X.au CX k f fd ps sp)(hr:cI k X.A)(hg:Gl X x)(hm:X.mg x=some (.ref f))(hk:PySem.W.keepIn X.K (.ref f)=true)(hb:Binds X.K fd ps ds)(hd:Vals dvs ds)(hx:Passes CX X E) (ha:PA X (e::es) t)(gZ:autoParam ((x==("__debug__":Str))=false) q8_._auto_1)(he:autoParam (starEach (e::es) X.env=(false,eval e X.env)::starEach es X.env) r8_._auto_1)(eg:autoParam ((backTo pos (starEach es X.env)).any (·.1)=false) r8_._auto_1): PE X (.Call (.Name x p) (e::es) [] pos) (Z3 sp dvs E t):=by intro pins s O H Q I h;erw[yc (sA I hg hm ?_ gZ)];erw[vJ (h₀:=X.au) I.ok.mod.lJ hk (aZ (ha pos pins s O H _ I h) λus s1 #[vs,H1,I1,r,q]=>#[I1.fD,?_]) he eg];erw[C7 F hr hb hd hx I1 r q]
theorem RH{pl:Sem Bool}(he:PE X o ta)(c:hV X.K C)(hm:Meth X.K C m f)(F:eR X.prog X.w X.K X.mg X.au CX k f fd ps sp)(hr:cI k X.A)(hb:Binds X.K fd ps ds)(hd:Vals dvs ds)(hx:Passes CX X E)(ha:PA X (e::es) t) (gp:autoParam (starEach (e::es) X.env=(false,eval e X.env)::starEach es X.env) r8_._auto_1)(eg:autoParam ((backTo pos (starEach es X.env)).any (·.1)=false) r8_._auto_1) (ht:eval (.Call (.Attribute o m apos) (e::es) [] pos) X.env=(do
 let ov<-eval o X.env
 standAt apos.atName
 let(f,first)<-holding [ov] (getMethod ov m pl)
 callWith pos f first (backTo pos (starEach (e::es) X.env)) (backToKw pos (keywordEach [] X.env))):=by rfl): PE X (.Call (.Attribute o m apos) (e::es) [] pos) (Ni C m sp dvs E ta t):=by
 intro pins s O H Q I h;erw[Eu (pl:=pl) (aZ (he pins s O H _ I h) λu s1 #[x,H1,I1,rx,a,dx,fs,ex,ea,l,q]=>?_) ht];subst ex;obtain rfl:u=Value.ref a:=rx;erw[Ac I1 ea c hm l ?_];erw[vJ (first:=[.ref a]) (h₀:=X.au) I.ok.mod.lJ hm.kp (aZ (ha pos pins s1 O H1 _ I1 q) λus s2 #[vs,H2,I2,r,q2]=>#[I2.fD,?_]) gp eg];erw[C7 (us:=.ref a::us) (vs:=.ref a::vs) F hr hb hd hx I2 (.cons Z r) q2]
theorem RF{pl:Sem Bool}(he:PE X o ta)(c:hV X.K C)(hm:Meth X.K C m f)(F:eR X.prog X.w X.K X.mg X.au CX k f fd ps sp)(hr:cI k X.A)(hb:Binds X.K fd ps ds)(hd:Vals dvs ds)(hx:Passes CX X E) (ht:eval (.Call (.Attribute o m apos) [] [] pos) X.env=(do
 let ov<-eval o X.env
 standAt apos.atName
 let(f,first)<-holding [ov] (getMethod ov m pl)
 callWith pos f first (backTo pos (starEach [] X.env)) (backToKw pos (keywordEach [] X.env))):=by rfl): PE X (.Call (.Attribute o m apos) [] [] pos) (Ni C m sp dvs E ta rn):=by
 intro pins s O H Q I h;erw[Eu (pl:=pl) (aZ (he pins s O H _ I h) λu s1 #[x,H1,I1,rx,a,dx,fs,ex,ea,l,q]=>?_) ht];subst ex;obtain rfl:u=Value.ref a:=rx;erw[Ac I1 ea c hm l ?_];erw[PySem.W.callWith_K0 (first:=[.ref a]) I1.fD hm.kp (C7 (us:=[.ref a]) (vs:=[.ref a]) F hr hb hd hx I1 (.cons rfl .nil) q)]
structure Mk(K:aa)(C f:Addr):Prop where
 makes:PySem.W.makesIn K C=true
 init:PySem.W.findIn K (.ref C) "__init__"=some (some (.ref f))
 fn:PySem.W.isFn K (.ref f)=true
 kp:PySem.W.keepIn K (.ref C)=true
theorem a0h{pins:List (Addr×Obj)}{O:St}{H:Hp}{s:ae}{Q:VK}{us:List Value}{vs:List V}(M:Mk X.K C f)(F:eR X.prog X.w X.K X.mg X.au CX k f fd ps sp)(hr:cI (k+1) X.A)(hb:Binds X.K fd ps ds)(hd:Vals dvs ds) (hx:Passes CX X E)(I:Inv X pins O H s)(r:Vals vs us) (h:∀x dx,H x=none->H dx=none->dx≠x->sp (.ref x::(vs++dvs)) (upd (upd H dx (.own x)) x (.ins C dx [])) (λv H2=>v= .bD/\Q (.ref x) H2) E): wpAny (model X.prog X.w) X.A (call (.ref C) us) (EP X pins O Q) X.xe s:=by
 have hq:=h (s.heap.objs.size+1) s.heap.objs.size (I.bp.fresh (Nat.le_succ _)) (I.bp.fresh (bL _)) (dI (Nat.lt_succ_self _));have I2:=Inv.made (C:=C) I;have r2:Vals (V.ref (s.heap.objs.size+1)::(vs++dvs)) (Value.ref (s.heap.objs.size+1)::(us++ds)):=.cons Z (r.append hd);have hl:(Value.ref (s.heap.objs.size+1)::us++ds).length=ps.length:=by have e:=r2.length;rw[F.len _ _ _ _ hq]at e;erw[e.symm]
 erw[AS (a5l (f:=f) I.fD M.makes M.init (gc.mp M.fn) (vI (F.run _ X.stack _ _ #[Value.ref (s.heap.objs.size+1)::us,[]] (Value.ref (s.heap.objs.size+1)::(us++ds)) _ _ E (hr.make C us []) (I2.DQ.make C us []) (hb _ (Value.ref (s.heap.objs.size+1)::us) I2.fD hl) r2 hq) λr s' oP=>?_))];cases r with |error e=>erw[hx pins O _ _ e s' I2 oP] |ok fl=>cases fl with |ret u=>let(v,H',I3,rv,ev,q3):=I2.after oP;subst ev;erw[rv,#[V.ref (s.heap.objs.size+1),H',I3,Z,q3]] |next=>erw[False.elim oP] |brk=>erw[False.elim oP] |cont=>erw[False.elim oP]
theorem a1S(M:Mk X.K C f)(F:eR X.prog X.w X.K X.mg X.au CX k f fd ps sp)(hr:cI (k+1) X.A)(hg:Gl X x)(hm:X.mg x=some (.ref C))(hb:Binds X.K fd ps ds)(hd:Vals dvs ds)(hx:Passes CX X E) (ha:PA X (e::es) t)(gZ:autoParam ((x==("__debug__":Str))=false) q8_._auto_1)(he:autoParam (starEach (e::es) X.env=(false,eval e X.env)::starEach es X.env) r8_._auto_1)(eg:autoParam ((backTo pos (starEach es X.env)).any (·.1)=false) r8_._auto_1): PE X (.Call (.Name x p) (e::es) [] pos) (YT C sp dvs E t):=by intro pins s O H Q I h;erw[yc (sA I hg hm ?_ gZ)];erw[vJ (h₀:=X.au) I.ok.mod.lJ M.kp (aZ (ha pos pins s O H _ I h) λus s1 #[vs,H1,I1,r,q]=>#[I1.fD,?_]) he eg];erw[a0h M F hr hb hd hx I1 r q]
end
section
variable {X:Cx}{CX:jc}{k:Nat}{f C:Addr}{fd:FuncData}{ps ks:List Str}{sp:Sp}{E:XK}{x m:Str}{p pos apos agl:Pos}{e o:Expr}{es:List Expr}{kws:List Keyword}{te ta:TE}{t tk:TA}{nm:Option Str}
variable {g:List Value->List Value->List Value}{gV:List V->List V->List V}
end
structure bu(N P:List Str)(sc:Scope):Prop where
 kind:sc.kind= .function
 co:sc.isCoroutine=false
 gen:sc.isGenerator=false
 nd:N.Nodup
 pre:N.take P.length=P
 par:∀x∈P,sc.names.lookup x=some .local\/sc.names.lookup x=some .cell
 a4G:∀y∈sc.names,y.2≠ .free
theorem W6{kindOf:Str->Option NameKind}{x:Str}:∀{binds:List (Str×Value)}{m:bO},(∀v,(x,v)∉binds)->bindL kindOf binds m x=m x
 |[],_,_=>rfl |(n,v)::r,m,h=>by
  unfold bindL;rw[W6 λw hw=>h w (yo _ hw)];split
  ·have:x≠n:=by rintro rfl;erw[h v EA]
   simp[this]
  ·rfl
theorem W8{kindOf:Str->Option NameKind}{x:Str}:∀{binds:List (Str×Value)}{m:bO},(∀v,(x,v)∉binds)->bindC kindOf binds m x=m x
 |[],_,_=>rfl |(n,v)::r,m,h=>by
  unfold bindC;rw[W8 λw hw=>h w (yo _ hw)];split
  ·rfl
  ·have:x≠n:=by rintro rfl;erw[h v EA]
   simp[this]
theorem W7{kindOf:Str->Option NameKind}{x:Str}{v:Value}:∀{P:List Str}{vs:List Value}{i:Nat}{m:bO},P.Nodup->P[i]? =some x->vs[i]? =some v->kindOf x=some .local->bindL kindOf (P.zip vs) m x=some v |[],_,_,_,_,h,_,_=>by simp at h |_::_,[],_,_,_,_,h,_=>by simp at h |p::P,w::vs,0,m,nd,h1,h2,hk=>by simp at h1 h2;subst h1;subst h2;show bindL kindOf ((p,w)::P.zip vs) m p=_;unfold bindL;rw[W6 λv hv=>(ME.mp nd).1 (yl hv).1,bo hk];simp |p::P,w::vs,i+1,m,nd,h1,h2,hk=>by show bindL kindOf ((p,w)::P.zip vs) m x=_;unfold bindL;erw[W7 (i:=i) (ME.mp nd).2 (by simpa using h1) (by simpa using h2) hk]
theorem W9{kindOf:Str->Option NameKind}{x:Str}{v:Value}:∀{P:List Str}{vs:List Value}{i:Nat}{m:bO},P.Nodup->P[i]? =some x->vs[i]? =some v->kindOf x≠some .local->bindC kindOf (P.zip vs) m x=some v |[],_,_,_,_,h,_,_=>by simp at h |_::_,[],_,_,_,_,h,_=>by simp at h |p::P,w::vs,0,m,nd,h1,h2,hk=>by simp at h1 h2;subst h1;subst h2;show bindC kindOf ((p,w)::P.zip vs) m p=_;unfold bindC;rw[W8 λv hv=>(ME.mp nd).1 (yl hv).1,bj hk];simp |p::P,w::vs,i+1,m,nd,h1,h2,hk=>by show bindC kindOf ((p,w)::P.zip vs) m x=_;unfold bindC;erw[W9 (i:=i) (ME.mp nd).2 (by simpa using h1) (by simpa using h2) hk]
def start(N:List Str)(vs:List V):St:=vs.map some++List.replicate (N.length-vs.length) none
def iE(CX:jc)(P:af)(w:World)(K:aa)(mg:bO)(au:Heap)(N:List Str)(qual:Str)(scope:Scope)(f:Addr)(cd:Value)(A:ah)(outer:List Env)(s:ae)(H:Hp)(E:XK):Cx where
 prog:=P
 w:=w
 K:=K
 mg:=mg
 au:=au
 A:=A.deeper (envOfC qual scope s.heap.objs.size f cd)
 N:=N
 s₀:=s
 H₀:=H
 env:=envOfC qual scope s.heap.objs.size f cd
 outer:=outer
 stack:=envOfC qual scope s.heap.objs.size f cd::outer
 ex:=[]
 calm:=true
 fn:=λ_=>true
 pn:=[]
 xe:=λe s'=>wpAny (model P w) (A.deeper (envOfC qual scope s.heap.objs.size f cd)) (leaving (envOfC qual scope s.heap.objs.size f cd) e) (λ_ HI=>CX outer H s E e HI) (λe' HI=>CX outer H s E e' HI) s'
theorem VU{sc:Scope}{n:Nat}{x:Str}(h:sc.names.lookup x=some .cell):∃c,(cellsFrom n sc.names []).lookup x=some c:=by have q:=Ms sc.names n [] (.inl h);erw[Option.isSome_iff_exists.mp q]
theorem JJ{CX:jc}{P:af}{w:World}{K:aa}{mg:bO}{au:Heap}{N ps:List Str}{qual:Str}{scope:Scope}{f:Addr}{cd:Value}{A:ah}{outer:List Env}{s s1:ae}{H:Hp}{E:XK}{us:List Value}{vs:List V} (S:bu N ps scope)(hd:A.handled=none)(e0:qQ P w K mg au A outer s H)(hl:vs.length=ps.length)(r:Vals vs us) (x:InCallC s s.heap.objs.size (bindL (envOfC qual scope s.heap.objs.size f cd).kindOf (ps.zip us) λ_=>none) (cellsFrom (s.heap.objs.size+1) scope.names []) (bindC (envOfC qual scope s.heap.objs.size f cd).kindOf (ps.zip us) λ_=>none) s1): Inv (iE CX P w K mg au N qual scope f cd A outer s H E) [] (start N vs) H s1:=by
 have eg:ps.length<=N.length:=by have:=kr List.length S.pre;rw[vN]at this;lia
 let(h1,tk,rfl,hk):=x.done;have zv:∀b:Addr,b∉(iE CX P w K mg au N qual scope f cd A outer s H E).ex:=λb z=>absurd (show b∈([]:List Addr)from z) (by simp);erw[#[e0.mod,S.kind,Z,Z,bL _,λy z c h1 h2=>?_,λy hy=>?_,λy c _ h=>?_,λ_=>hd,Around.frames_deeper e0.frames,.inr #[Z,Z],λb z=>absurd z (zv b),e0.bs,e0.lP,λb _ _=>zv b,λb z=>absurd z (zv b),e0.jG,e0.nJ],rfl,e0.bare,Un.kept hk,#[_,x.toInCall.ns,λi y v h1 h2 h3=>?_],λy c h=>#[_,x.cell y c h],e0.bp.fresh (bL _),λy c h=>?_,λp hp=>absurd (show p∈([]:List (Addr×Obj))from hp) (by simp),e0.bp.kept hk,?_]
 ·erw[name_of_addr x.apart (Et h1) (Et h2)]
 ·have hy:scope.names.lookup y=some .cell\/scope.names.lookup y=some .free:=hy
  rcases hy with hy|hy
  ·erw[VU hy]
  ·erw[absurd Z (S.a4G _ (Et hy))]
 ·erw[AZ (x.above y c (Et h))]
 ·have hi:i<vs.length:=by
   unfold start at h2;by_cases hi:i<vs.length
   ·erw[hi]
   ·rw[yu (by simpa using hi)]at h2
    rw[List.getElem?_replicate]at h2;split at h2<;>cases h2
  have ha:vs[i]? =some v:=by unfold start at h2;rw[vO (by simpa using hi),cv]at h2;cases e:vs[i]? with |none=>rw[e]at h2;cases h2 |some a=>rw[e]at h2;cases h2;rfl
  let(u,hu,rv):=r.get ha;have hp:ps[i]? =some y:=by rw[<-S.pre,List.getElem?_take_of_lt ao];erw[h1]
  have Su:ps.Nodup:=by rw[<-S.pre];erw[S.nd.sublist (List.take_sublist _ _)]
  erw[u,rv,?_];rcases S.par y (fO hp)with k|k
  ·erw[.inl #[k,W7 Su hp hu k]]
  ·let(c,e):=VU (n:=s.heap.objs.size+1) k
   erw[.inr #[.inl k,c,e,?_]];have q:=x.cell y c e;rw[W9 Su hp hu (by show scope.names.lookup y≠_;rw[k];decide)]at q;erw[q]
 ·erw[e0.bp.fresh (AZ (x.above y c (Et h)))]
 ·unfold start
  show _=N.length;rw[eP,bV,List.length_replicate]
  lia
theorem KJ{P:af}{w:World}{K:aa}{mg:bO}{au:Heap}{k:Nat}{f:Addr}{kV:Value}(lk:K.lookup f=some #[oc,od,.func (PySem.W.fnOf name qual params body scope dV kV doc pm an aH ct),fV])(fi:PySem.W.codeIn K aH qual=true)(S:bu N ps scope) (len:∀vs H Q E,sp vs H Q E->vs.length=ps.length) (gq:∀(A:ah)(outer:List Env)(s:ae)(H:Hp)(vs:List V)(Q:VK)(E:XK),cI k (A.deeper (envOfC qual scope s.heap.objs.size f aH))->sp vs H Q E->∃t,g9 (iE CX P w K mg au N qual scope f aH A outer s H E) body t/\t {nx:=λ_ H'=>Q .bD H',rt:=Q} (start N vs) H): eR P w K mg au CX (k+1) f (PySem.W.fnOf name qual params body scope dV kV doc pm an aH ct) ps sp:=by
 erw[len,λA outer s H args us vs Q E hr e0 hb r fS=>?_];have hl:=len _ _ _ _ fS;have KX:K.In s.heap:=e0.mod.lJ.keeps λb o e=>(e0.bs b o e).1;have lim:s.heap.NoLimit:=e0.mod.nolimit.keeps λb o e=>(e0.bs b o e).1;have nu:∀y∈ps.zip us,scope.names.lookup y.1=some .local\/(scope.names.lookup y.1=some .cell/\((cellsFrom (s.heap.objs.size+1) scope.names []).lookup y.1).isSome=true):=λ#[n,v] hy=>by
  rcases S.par n (yl hy).1 with q|q
  ·erw[.inl q]
  ·erw[.inr #[q,Ms _ _ _ (.inl q)]]
 erw[WV hr.depth (KX _ _ lk) Z S.co S.gen Z (X1 KX fi) (hb _ _ _ _ ?_)];erw[WQ S.kind nu λenv he s1 x=>?_];subst he;erw[lim.keeps x.toInCall.keep,codeAny_func ?_];let(t,ht,hq):=gq A outer s H vs Q E (hr.deeper _) fS;have I:Inv (iE CX P w K mg au N qual scope f aH A outer s H E) [] (start N vs) H s1:=JJ S hr.hd e0 hl r x;erw[ju (ht [] s1 (start N vs) H _ I hq) (λfl s' hs=>?_) λe s' hs=>hs];have fin:∀{σ':St}{H':Hp}{v:V}{u:Value},Inv (iE CX P w K mg au N qual scope f aH A outer s H E) [] σ' H' s'->RelV v u->Q v H'->CE outer P w H s Q u s':=λ{σ' H' v u} J rv q=>#[v,H',J.os,J.bare,J.au,J.bp,rv,q];cases fl with |ret u=>let(v,σ',H',J,rv,q):=hs;erw[fin J rv q] |next=>let(σ',H',J,q):=hs;erw[fin (v:=V.bD) (u:=Value.none) J Z q] |brk=>let(_,_,_,q):=hs;erw[False.elim q] |cont=>let(_,_,_,q):=hs;erw[False.elim q]
section
variable {X:Cx}{x:Str}{p pos:Pos}{e:Expr}{es:List Expr}{t:TA}{id T:String}{r:List V->Hp->VK->Prop}
def BB(r:List V->Hp->VK->Prop)(t:TA):TE:=λO H Q=>t O H λvs H1=>r vs H1 Q
theorem fg(hc:fq X (.builtin id) r)(hg:Gl X x)(hm:X.mg x=none)(hv:bootBuiltins x=some (.builtin id))(ha:PA X (e::es) t)(hn:autoParam (x≠"__name__") q8_._auto_1)(gZ:autoParam ((x==("__debug__":Str))=false) q8_._auto_1) (he:autoParam (starEach (e::es) X.env=(false,eval e X.env)::starEach es X.env) r8_._auto_1)(eg:autoParam ((backTo pos (starEach es X.env)).any (·.1)=false) r8_._auto_1):PE X (.Call (.Name x p) (e::es) [] pos) (BB r t):=by intro pins s O H Q I h;erw[yc (qg I hg hm hv ?_ hn gZ)];erw[PyProof.Rows.callWith_builtin1 (aZ (ha pos pins s O H _ I h) λus s1 #[vs,H1,I1,r1,q1]=>hc pins s1 O H1 vs us Q I1 r1 q1) he eg]
theorem cZ(hc:fq X (.type T) r)(hg:Gl X x)(hm:X.mg x=none)(hv:bootBuiltins x=some (.type T))(ha:PA X (e::es) t)(hn:autoParam (x≠"__name__") q8_._auto_1)(gZ:autoParam ((x==("__debug__":Str))=false) q8_._auto_1) (he:autoParam (starEach (e::es) X.env=(false,eval e X.env)::starEach es X.env) r8_._auto_1)(eg:autoParam ((backTo pos (starEach es X.env)).any (·.1)=false) r8_._auto_1):PE X (.Call (.Name x p) (e::es) [] pos) (BB r t):=by intro pins s O H Q I h;erw[yc (qg I hg hm hv ?_ hn gZ)];erw[yi (aZ (ha pos pins s O H _ I h) λus s1 #[vs,H1,I1,r1,q1]=>hc pins s1 O H1 vs us Q I1 r1 q1) he eg]
end
end _L
namespace _H
open PySem PyProof.Rows
section
open PySem.SeqAt
open PySem.AutoSeq1 (wpAny_loadPart')
open PySem.MeetsSeq PySem.MeetsSeq2 PySem.MeetsSeq3
end
section
variable {prog:af}{w:World}{A:ah}{E:Value->ae->Prop}{s:ae}
theorem acd{t b:Addr}{vs ws:List Value}{Q:Value->ae->Prop}(ht:IsTup s.heap t vs.toArray)(hb:IsTup s.heap b ws.toArray)(hv:vs≠[]) (h1:ws=[]->Q (.ref t) s)(h2:ws≠[]->Q (.ref s.heap.objs.size) {s with heap:=s.heap.push {cls:=.type "tuple",data:=.seq (vs++ws).toArray}}) (hsz:vs.length+ws.length<=sizeLine):wpAny (model prog w) A (binaryOp .Add (.ref t) (.ref b)) Q E s:=by
 let((cls,dd,data,sl),ho,hc,n,hd):=id ht;let((VR,xH,data2,sl2),mr,gM,n2,hd2):=id hb;simp only at hc hd gM hd2;subst hc hd gM hd2;have e:vs.toArray++ws.toArray=(vs++ws).toArray:=by simp
 by_cases hw:ws=[]
 ·erw[concat_meets #[_,ho,Z] #[_,mr,Z] noFill_tuple_add seq_tuple_add X3 X5 (X6 _ _) (tuple_addW1 t b vs.toArray ws.toArray n n2 dd xH sl sl2 (by simpa using hv) (by simp[hw])) #[ho,mr,h1 hw]]
 ·erw[concat_meets #[_,ho,Z] #[_,mr,Z] noFill_tuple_add seq_tuple_add X3 X5 (X6 _ _) (tuple_addW2 t b vs.toArray ws.toArray n n2 dd xH sl sl2 (by simpa using hv) (by simpa using hw) (by rw[eF,eF];erw[hsz])) #[ho,mr,?_]];rw[e];erw[h2 hw]
def cx(n d:Nat):Option Int->Nat |none=>d |some v=>if v<0 then(v+(n:Int)).toNat else min v.toNat n
theorem QB (n d:Nat):cx n d none=d:=rfl
theorem GL(n d k:Nat):cx n d (some (k:Int))=min k n:=by show(if(k:Int)<0 then((k:Int)+(n:Int)).toNat else min (k:Int).toNat n)=min k n;rw[bj ao,MK]
theorem a02(n d:Nat)(hd:d<=n)(o:Option Int):cx n d o<=n:=by cases o with |none=>erw[hd] |some v=>
 show(if v<0 then(v+(n:Int)).toNat else min v.toNat n)<=n;by_cases hv:v<0
 ·rw[bo hv];lia
 ·rw[bj hv];erw[Nat.min_le_right _ _]
theorem Lx(v:Int)(n d:Nat):(if v<0 then max (v+(n:Int)) 0 else min v (n:Int))=((cx n d (some v):Nat):Int):=by
 show(if v<0 then max (v+(n:Int)) 0 else min v (n:Int))=(((if v<0 then(v+(n:Int)).toNat else min v.toNat n):Nat):Int);by_cases hv:v<0
 ·simp only[bo hv];lia
 ·simp only[bj hv];lia
theorem ad0(lo hi:Option Int)(n:Nat):Builtin.Slice.sliceAdjust lo hi 1 (n:Int)=(((cx n 0 lo:Nat):Int),((cx n n hi:Nat):Int)):=by
 have h1:¬((1:Int)<0):=by lia
 unfold Builtin.Slice.sliceAdjust;simp only[h1,if_false];erw[Prod.ext ?_ ?_]
 ·cases lo with |none=>rfl |some v=>erw[Lx v n 0]
 ·cases hi with |none=>rfl |some v=>erw[Lx v n n]
theorem a1z(i j:Nat):Builtin.Slice.slicePlaces (i:Int) (j:Int) 1=j-i:=by
 unfold Builtin.Slice.slicePlaces;have h1:(1:Int)>0:=by lia
 simp only[h1,if_true,Int.ediv_one];split<;>lia
theorem OE{v:Value}{o:Option Int}{Q:Option Int->ae->Prop}(p:IsPart v o)(h:Q o s):wpAny (model prog w) A (Builtin.Slice.slicePartIndex v) Q E s:=by cases p with |none=>erw[slicePart_none h] |int i t=>erw[slicePart_int h]
theorem ZD{sl:Addr}{vl vu:Value}{lo hi:Option Int}{n:Nat}{Q:Int×Int×Nat->ae->Prop}(hs:s.heap.IsSliceOf sl vl vu .none)(pl:IsPart vl lo)(pu:IsPart vu hi) (h:Q (((cx n 0 lo:Nat):Int),1,cx n n hi-cx n 0 lo) s):wpAny (model prog w) A (Builtin.Slice.sliceApplied (.ref sl) (pure (n:Int))) Q E s:=by let(os,oS,Du,iy):=id hs;unfold Builtin.Slice.sliceApplied Builtin.Slice.sliceFields;erw[aJ (aJ (ie oS iy (x:=vl) Z (aJ (ie oS iy (x:=vu) Z (aJ (ie oS iy (x:=.none) Z (cg ?_)))))))];erw[aJ (slicePart_none ?_)];show wpAny _ _ (if((1:Int)==0)=true then _ else _) _ _ s;rw[bj aw];erw[aJ (OE pl (aJ (OE pu (aJ (cg ?_)))))];show wpAny _ _ (match Builtin.Slice.sliceAdjust lo hi 1 (n:Int)with|(lo,hi)=>pure (lo,(1:Int),Builtin.Slice.slicePlaces lo hi 1)) _ _ s;rw[ad0 lo hi n];show wpAny _ _ (pure (((cx n 0 lo:Nat):Int),(1:Int),Builtin.Slice.slicePlaces ((cx n 0 lo:Nat):Int) ((cx n n hi:Nat):Int) 1)) _ _ s;rw[a1z];erw[cg h]
theorem a1E(xs:Array Value)(i k:Nat):((List.range k).filterMap λ(m:Nat)=>xs[((i:Int)+(m:Int)*1).toNat]?).toArray=((xs.toList.drop i).take k).toArray:=by
 have e:(λ(m:Nat)=>xs[((i:Int)+(m:Int)*1).toNat]?)=λm=>xs[i+m]?:=by
  funext m;have:((i:Int)+(m:Int)*1).toNat=i+m:=by lia
  rw[this]
 rw[e];have:=pick_run xs i k;rw[List.filterMap_map]at this;have e2:((λx=>xs[x]?)∘λx=>i+x)=λm=>xs[i+m]?:=rfl;rw[e2]at this;rw[this]
theorem a9m{t sl:Addr}{items:Array Value}{vl vu:Value}{lo hi:Option Int}{Q:Value->ae->Prop}(ht:IsTup s.heap t items)(hs:s.heap.IsSliceOf sl vl vu .none)(pl:IsPart vl lo)(pu:IsPart vu hi) (hw:¬(cx items.size 0 lo=0/\cx items.size items.size hi=items.size)) (h:Q (.ref s.heap.objs.size) {s with heap:=s.heap.push {cls:=.type "tuple",data:=.seq ((items.toList.drop (cx items.size 0 lo)).take (cx items.size items.size hi-cx items.size 0 lo)).toArray}}) (hsz:items.size<=sizeLine):wpAny (model prog w) A (getItem (.ref t) (.ref sl)) Q E s:=by
 have De:sizeOk (.seq ((items.toList.drop (cx items.size 0 lo)).take (cx items.size items.size hi-cx items.size 0 lo)).toArray):=by show((items.toList.drop (cx items.size 0 lo)).take (cx items.size items.size hi-cx items.size 0 lo)).toArray.size<=sizeLine;rw[eF,vN,Xf,ky];omega
 have hj:cx items.size items.size hi<=items.size:=a02 _ _ (bL _) hi;let(os,oS,Du,iy):=id hs;have hTs:s.TypeIs (.ref sl) "slice":=#[os,oS,Du];unfold getItem
 try with_reducible erw[kX ?_]
 first|erw[aJ (cg ?_)]|skip
 erw[aJ (wpAny_sequenceKey ht.typeIs aw ?_)];erw[aJ (yb (name:=Str.ofString "__getitem__") ht.typeIs X8 (y9 X8 ht.typeIs entry_tuple_getitem ?_ (args_tuple_getitem _ _)))];show wpAny _ _ (Builtin.Tuple.tupleItemsOf (.ref t)>>=_) _ _ s;erw[aJ (tupleItemsOf_ ht ?_)];erw[aJ (El hTs ?_)];rw[bo aw];erw[aJ (ZD hs pl pu ?_)];have oU:¬((((cx items.size 0 lo:Nat):Int)==0&&(1:Int)==1&&(cx items.size items.size hi-cx items.size 0 lo)==items.size)=true):=by intro q;rw[fb,fb]at q;have q1:((cx items.size 0 lo:Nat):Int)=0:=eq_of_beq q.1.1;have q2:cx items.size items.size hi-cx items.size 0 lo=items.size:=eq_of_beq q.2;erw[hw #[bB,bB]]
 show wpAny _ _ (if(((cx items.size 0 lo:Nat):Int)==0&&(1:Int)==1&&(cx items.size items.size hi-cx items.size 0 lo)==items.size)=true then _ else _) _ _ s;rw[bj oU,a1E]
 first |erw[aJ (m:=Builtin.Tuple.tupleExact _) (ko (cg #[_,Z,cg h]) De)] |erw[aJ (m:=Builtin.Tuple.tupleExact _) (ko (aJ (cg (cg #[_,Z,cg h]))) De)] |erw[aJ (aJ (m:=Builtin.Tuple.tupleExact _) (ko (cg (cg #[_,Z,cg h])) De))] |erw[aJ (aJ (m:=Builtin.Tuple.tupleExact _) (ko (cg #[_,Z,cg h]) De))]
end
end _H
namespace _L
open PySem PySem.Spec PyProof.Rows
abbrev TO:=St->Hp->(Option Int->Hp->Prop)->Prop
def PO(X:Cx)(e:Option Expr)(t:TO):Prop:=∀(pins:List (Addr×Obj))(s:ae)(O:St)(H:Hp)(Q:Option Int->Hp->Prop),Inv X pins O H s->t O H Q->wpAny (model X.prog X.w) X.A (evalPart e X.env) (λu s'=>∃o H',Inv X pins O H' s'/\IsPart u o/\Q o H') X.xe s
def YQ:TO:=λ_ H Q=>Q none H
inductive adn(Q:Option Int->Hp->Prop)(x:V)(H1:Hp):Prop |mk (i:_)(h0:x= .int i)(h1:Q (some i) H1)
def YJ(t:TE):TO:=λO H Q=>t O H λx H1=>adn Q x H1
section
variable {X:Cx}{e:Expr}{te:TE}{lo hi:Option Expr}{tl th:TO}{pos p2:Pos}
theorem wA:PO X none YQ:=by intro pins s O H Q I h;rw[evalPart_none];erw[cg #[none,H,I,.none,h]]
theorem rL(h:PE X e te):PO X (some e) (YJ te):=by intro pins s O H Q I hw;rw[evalPart_some];erw[aZ (h pins s O H _ I hw) λu s1 #[x,H1,I1,r1,q1]=>?_];let(i,rfl,q):=q1;let(t,rfl):=r1;erw[some i,H1,I1,.int i t,q]
def Eg(X:Cx)(r:V->Option Int->Option Int->Hp->VK->Prop):Prop:=∀(pins:List (Addr×Obj))(s:ae)(O:St)(H:Hp)(x:V)(v vl vu:Value)(lo hi:Option Int)(sl:Addr)(Q:VK),Inv X pins O H s->RelV x v->s.heap.IsSliceOf sl vl vu .none->IsPart vl lo->IsPart vu hi->r x lo hi H Q->∃T id,typeLookup (.type T) "__getitem__"=pure (some (.builtin id))/\s.TypeIs v T/\wpAny (model X.prog X.w) X.A (getItem v (.ref sl)) (EP X pins O Q) X.xe s
def YG(r:V->Option Int->Option Int->Hp->VK->Prop)(te:TE)(tl th:TO):TE:=λO H Q=>te O H λx H1=>tl O H1 λl H2=>th O H2 λu H3=>r x l u H3 Q
theorem uA(hr:Eg X r)(he:PE X e te)(hl:PO X lo tl)(hu:PO X hi th):PE X (.Subscript e (.Slice lo hi none p2) pos) (YG r te tl th):=by intro pins s O H Q I h;erw[Subscript_ (aZ (he pins s O H _ I h) λv s1 #[x,H1,I1,r1,q1]=>?_)];erw[wpAny_Slice (aZ (hl pins s1 O H1 _ I1 q1) λvl s2 #[l,H2,I2,pl,q2]=>aZ (hu pins s2 O H2 _ I2 q2) λvu s3 #[u,H3,I3,pu,q3]=>?_)];rw[evalPart_none];erw[cg ?_];have I4:Inv X pins O H3 {s3 with heap:=s3.heap.push {cls:=.type "slice",data:=.fields (List.toArray [vl,vu,.none])}}:=I3.kept (t':=s3.toks) λb ob q=>bZ _ q;let(T,id,hT,ht,hg):=hr pins {s3 with heap:=s3.heap.push {cls:=.type "slice",data:=.fields (List.toArray [vl,vu,.none])}} O H3 x v vl vu l u s3.heap.objs.size Q I4 r1 (Heap.IsSliceOf.new ..) pl pu q3;show wpAny (model X.prog X.w) X.A (subscriptTail e (.Slice lo hi none p2) v (.ref s3.heap.objs.size)) (EP X pins O Q) X.xe {s3 with heap:=s3.heap.push {cls:=.type "slice",data:=.fields (List.toArray [vl,vu,.none])}};erw[tail_any (ops:=[.ref s3.heap.objs.size,v]) ht hT hg (by with_unfolding_all rfl)]
def jK(xs:List V)(lo hi:Option Int):List V:=(xs.drop (_H.cx xs.length 0 lo)).take (_H.cx xs.length xs.length hi-_H.cx xs.length 0 lo)
theorem VJ(xs:List V)(lo hi:Option Int):(jK xs lo hi).length<=xs.length:=by
 unfold jK;rw[vN,Xf]
 lia
inductive af0(K:aa)(x:V)(lo:Option Int)(hi:Option Int)(H:Hp)(Q:VK):Prop |mk (a:_)(xs:_)(h0:x= .ref a)(h1:bc K H a xs)(h2:¬(_H.cx xs.length 0 lo=0/\_H.cx xs.length xs.length hi=xs.length))(h3:∀p,H p=none->Q (.ref p) (upd H p (.tup (jK xs lo hi))))
def a1e(K:aa):V->Option Int->Option Int->Hp->VK->Prop:=λx lo hi H Q=>af0 K x lo hi H Q
theorem ZE:Eg X (a1e X.K):=by
 intro pins s O H x v vl vu lo hi sl Q I rx hs pl pu h;let(a,xs,rfl,hx,hw,q):=h;cases rx;let(its,r,ht,hz):=I.tuple hx;have hlen:its.toArray.size=xs.length:=by rw[eF];erw[r.length.symm]
 erw["tuple",_,X8.lookup,ht.typeIs,?_];erw[_H.a9m ht hs pl pu (by rw[hlen];erw[hw]) ?_ (by rw[hlen];erw[hz])];rw[hlen];erw[.ref s.heap.objs.size,_,I.laid (t':=s.toks) (o:=.tup (jK xs lo hi)) (λb ob q=>bZ _ q) (bL _) ?_,Z,q _ (I.bp.fresh (bL _))];erw[jf (VJ xs lo hi) hz,_,(r.drop (_H.cx xs.length 0 lo)).take (_H.cx xs.length xs.length hi-_H.cx xs.length 0 lo),IsTup.new _ _]
theorem Vals.J2(r:Vals xs us):us=[]↔xs=[]:=by cases r with |nil=>simp |cons _ _=>simp
end
def kM(n:Nat)(i:Int):Option Nat:=if 0<=i then(if i<n then some i.toNat else none)else if-(n:Int)<=i then some (i+n).toNat else none
def fk{α:Type}(xs:List α)(i:Int):Option α:=(kM xs.length i).bind λj=>xs[j]?
theorem Tv{n:Nat}(h:kM n i=some j):seqIndex? i n=some j/\j<n/\-(n:Int)<=i/\i<n:=by
 unfold kM at h;by_cases h0:0<=i
 ·rw[bo h0]at h
  by_cases h1:i<n
  ·rw[bo h1]at h
   have e:i.toNat=j:=dU h;erw[by rw[seqIndex_of h0 h1,e],ao,ao,h1]
  ·rw[bj h1]at h;cases h
 ·rw[bj h0]at h
  by_cases h1:-(n:Int)<=i
  ·rw[bo h1]at h
   have e:(i+n).toNat=j:=dU h;erw[by rw[seqIndex_neg ao h1,e],ao,h1,ao]
  ·rw[bj h1]at h;cases h
theorem LP{v:α}(h:fk xs i=some v):∃j,seqIndex? i xs.length=some j/\xs[j]? =some v/\j<xs.length/\-(xs.length:Int)<=i/\i<xs.length:=by unfold fk at h;cases e:kM xs.length i with |none=>rw[e]at h;cases h |some j=>rw[e]at h;let(h1,h2,h3,h4):=Tv e;erw[j,h1,h,h2,h3,h4]
theorem acP{xs:List α}{j:Nat}{v:α}(h:xs[j]? =some v):fk xs (j:Int)=some v:=by
 have hj:j<xs.length:=(dW.mp h).1;have e:kM xs.length (j:Int)=some j:=by unfold kM;rw[bo ao,bo ao];simp
 unfold fk;rw[e];erw[h]
def WD(b:Expr):Prop:=∀o i,subscripted b false o i=operate [o,i] (getItem o i)
def qM(X:Cx)(r:R2):Prop:=∀(value slice:Expr)(pins:List (Addr×Obj))(s:ae)(O:St)(H:Hp)(x y:V)(v u:Value)(Q:VK),Inv X pins O H s->RelV x v->RelV y u->r x y H Q->subscripted slice false v u=operate [v,u] (getItem v u)->wpAny (model X.prog X.w) X.A (subscriptTail value slice v u) (EP X pins O Q) X.xe s
def xR(X:Cx)(id:String)(r:V->List V->Hp->VK->Prop):Prop:=∀(pins:List (Addr×Obj))(s:ae)(O:St)(H:Hp)(x:V)(xs:List V)(v:Value)(us:List Value)(Q:VK),Inv X pins O H s->RelV x v->Vals xs us->r x xs H Q->wpAny (model X.prog X.w) X.A (call (.builtin id) (v::us)) (EP X pins O Q) X.xe s
section
variable {X:Cx}{a b:Expr}{ta tb:TE}{pos:Pos}
theorem qM.or(h:qM X r)(h':qM X r'):qM X (λx y H Q=>r x y H Q\/r' x y H Q):=by
 intro value slice pins s O H x y v u Q I rx ry q hs;rcases q with q|q
 ·erw[h value slice pins s O H x y v u Q I rx ry q hs]
 ·erw[h' value slice pins s O H x y v u Q I rx ry q hs]
theorem IA(hr:qM X r)(ha:PE X a ta)(hb:PE X b tb)(hs:WD b):PE X (.Subscript a b pos) (yH r ta tb):=by intro pins s O H Q I h;erw[Subscript_ (LF ha hb I h λv u s2 x y H2 I2 rx ry q=>hr a b pins s2 O H2 x y v u Q I2 rx ry q (hs _ _))]
inductive af9(K:aa)(x:V)(y:V)(H:Hp)(Q:VK):Prop |mk (p:_)(xs:_)(i:_)(v:_)(h0:x= .ref p)(h1:y= .int i)(h2:aD K H p xs)(h3:fk xs i=some v)(h4:Q v H)
def Ih(K:aa):R2:=λx y H Q=>af9 K x y H Q
inductive af7(K:aa)(x:V)(y:V)(H:Hp)(Q:VK):Prop |mk (p:_)(xs:_)(i:_)(v:_)(h0:x= .ref p)(h1:y= .int i)(h2:bc K H p xs)(h3:fk xs i=some v)(h4:Q v H)
def Ig(K:aa):R2:=λx y H Q=>af7 K x y H Q
inductive af8(x:V)(y:V)(H:Hp)(Q:VK):Prop |mk (z:_)(i:_)(c:_)(h0:x= .str z)(h1:y= .int i)(h2:z.length<=sizeLine)(h3:fk z.cps.toList i=some c)(h4:Q (.str ⟨#[c]⟩) H)
def a1j:R2:=λx y H Q=>af8 x y H Q
theorem a6l:qM X (Ih X.K):=by
 intro value slice pins s O H x y v u Q I rx ry h hs;let(p,xs,i,z,rfl,rfl,hq,he,q):=h;cases rx;let(t,rfl):=ry;let(its,r,pl,hz):=I.list hq;let(j,h1,h2,h3,h4,h5):=LP he;let(w,ew,eU):=r.get h2;have hl:=r.length;have hn:=uP;have fin:EP X pins O Q w s:=#[z,H,I,eU,q];by_cases h0:0<=i
 ·have hj:i.toNat=j:=by rw[seqIndex_of h0 h5]at h1;erw[dU h1]
  erw[item_listR pl.isList h0 ao (by rw[hj];simpa using ew) fin hs]
 ·have hj:(i+(its.toArray.size:Int)).toNat=j:=by rw[seqIndex_neg ao h4]at h1;rw[eF,<-hl];erw[dU h1]
  erw[subscriptTail_builtinR (x:=w) pl.isList.typeIs slot_list_getitem.lookup (wpAny_getItem_list_neg (Q:=λr s'=>r=w/\EP X pins O Q r s') pl.isList ao (by rw[eF]<;>lia) ao (by rw[hj];simpa using ew) #[Z,fin]) hs]
theorem a6k:qM X (Ig X.K):=by intro value slice pins s O H x y v u Q I rx ry h hs;let(p,xs,i,z,rfl,rfl,hq,he,q):=h;cases rx;let(t,rfl):=ry;let(its,r,pl,hz):=I.tuple hq;let(j,h1,h2,h3,h4,h5):=LP he;let(w,ew,eU):=r.get h2;have hl:=r.length;have hn:=uP;have fin:EP X pins O Q w s:=#[z,H,I,eU,q];erw[subscriptTail_builtinR (x:=w) pl.typeIs slot_tuple_getitem.lookup (getItem_tuple (j:=j) (Q:=λr s'=>r=w/\EP X pins O Q r s') pl ao ao (by rw[eF,<-hl];erw[h1]) (by simpa using ew) #[Z,fin]) hs]
theorem Tt:qM X a1j:=by
 intro value slice pins s O H x y v u Q I rx ry h hs;let(z,i,c,rfl,rfl,hz,he,q):=h;let(t,rfl):=rx;let(t',rfl):=ry;let(j,h1,h2,h3,h4,h5):=LP he;have hl:z.cps.toList.length=z.length:=by simp[Str.length]
 rw[hl]at h1 h4 h5;have hn:=uP;erw[tail_any (yd s z t) slot_str_getitem.lookup (getItem_str (c:=c) (by have e1:decide (i< -(2^63:Int))=false:=cG ao;have e2:decide (i>=2^63)=false:=cG ao;rw[e1,e2,Bool.or_false]) (by rw[h1];simpa using h2) #[.str ⟨#[c]⟩,H,I.tok _,#[_,Z],q]) hs]
theorem a5j(its:List Value)(n j:Nat)(u:Value):Obj.mapSeq (·.setIfInBounds j u) {cls:=.type "list",data:=.seq its.toArray n}={cls:=.type "list",data:=.seq (its.set j u).toArray n}:=by simp[Obj.mapSeq]
theorem Inv.lst{pins:List (Addr×Obj)}{O:St}{H:Hp}{s:ae}{p:Addr}{xs:List V}(I:Inv X pins O H s)(h:H p=some (.lst xs)): ∃(its:List Value)(n:Nat),Vals xs its/\s.heap.get? p=some {cls:=.type "list",data:=.seq its.toArray n}/\xs.length<=sizeLine:=by let(z,its,n,r,e):=I.bp p _ h;erw[its,n,r,e,z]
theorem Inv.a5H{pins:List (Addr×Obj)}{O:St}{H:Hp}{s:ae}{p:Addr}{xs ys:List V}{its its':List Value}{n n':Nat}{f:Obj->Obj}(I:Inv X pins O H s)(h:H p=some (.lst xs)) (ho:s.heap.get? p=some {cls:=.type "list",data:=.seq its.toArray n})(hf:f {cls:=.type "list",data:=.seq its.toArray n}={cls:=.type "list",data:=.seq its'.toArray n'})(r:Vals ys its')(hz:ys.length<=sizeLine)(t:Nat): Inv X pins O (upd H p (.lst ys)) {s with heap:=s.heap.update p f,toks:=t}:=by
 have e:(s.heap.update p f).get? p=some {cls:=.type "list",data:=.seq its'.toArray n'}:=by rw[EF f ho (by rw[hf]<;>rfl),hf]
 erw[I.write (x:=p) (e:=p) (by rw[h];trivial) (.inl Z) (λb u hb q=>(Ba _ _ (jS hb)).trans q) #[_,e] ?_];erw[hz,its',n',r,e]
inductive af3(o:V)(i:V)(v:V)(H:Hp)(Q:Hp->Prop):Prop |mk (p:_)(xs:_)(k:_)(j:_)(h0:o= .ref p)(h1:i= .int k)(h2:H p=some (.lst xs))(h3:kM xs.length k=some j)(h4:Q (upd H p (.lst (xs.set j v))))
def a1h:V->V->V->Hp->(Hp->Prop)->Prop:=λo i v H Q=>af3 o i v H Q
theorem set_list:WE X a1h:=by
 intro pins s O H o i v ov iv u Q I ro ri rv h;let(p,xs,k,j,rfl,rfl,hp,hj,q):=h;cases ro;let(t,rfl):=ri;let(its,n,r,ho,hz):=I.lst hp;let(h1,h2,h3,h4):=Tv hj;have hl:=r.length;have hn:=uP;have I':Inv X pins O (upd H p (.lst (xs.set j v))) {s with heap:=s.heap.update p (Obj.mapSeq (·.setIfInBounds j u))}:=I.a5H hp ho (a5j its n j u) (r.set rv j) (by rw[yp];erw[hz]) s.toks;by_cases h0:0<=k
 ·have hk:k.toNat=j:=by rw[seqIndex_of h0 h4]at h1;erw[dU h1]
  erw[PySem.W.ki_setAt ho h0 ao (by rw[eF,<-hl];erw[h4]) (by rw[hk];erw[_,I',q])]
 ·have hk:(k+(its.toArray.size:Int)).toNat=j:=by rw[seqIndex_neg ao h3]at h1;rw[eF,<-hl];erw[dU h1]
  erw[PySem.W.ki_setBack ho ao (by rw[eF,<-hl];erw[h3]) ao (by rw[hk];erw[_,I',q])]
theorem ZA(lo hi:Option Int)(n:Nat):(sliceBounds lo hi none n).1=((_H.cx n 0 lo:Nat):Int)/\(sliceBounds lo hi none n).2.1=((_H.cx n n hi:Nat):Int)/\(sliceBounds lo hi none n).2.2=1:=by
 erw[?_,?_,Z]
 ·cases lo with |none=>simp[sliceBounds,_H.cx] |some i=>
  simp only[sliceBounds,_H.cx,Option.getD_none,show(1:Int)>0 by decide,if_true];by_cases h:i<0
  ·simp only[h,if_true]<;>lia
  ·simp only[h,if_false]<;>lia
 ·cases hi with |none=>simp[sliceBounds,_H.cx] |some i=>
  simp only[sliceBounds,_H.cx,Option.getD_none,show(1:Int)>0 by decide,if_true];by_cases h:i<0
  ·simp only[h,if_true]<;>lia
  ·simp only[h,if_false]<;>lia
theorem ZC(its:List Value)(lo hi:Option Int):slicePick its.toArray lo hi none=((its.drop (_H.cx its.length 0 lo)).take (_H.cx its.length its.length hi-_H.cx its.length 0 lo)).toArray:=by let(h1,h2,h3):=ZA lo hi its.toArray.size;unfold slicePick;rw[h1,h2,h3];simp only[sliceRange_one,pick_run,eF]<;>rfl
inductive af1(K:aa)(x:V)(lo:Option Int)(hi:Option Int)(H:Hp)(Q:VK):Prop |mk (a:_)(xs:_)(h0:x= .ref a)(h1:aD K H a xs)(h2:∀p,H p=none->Q (.ref p) (upd H p (.lst (jK xs lo hi))))
def a1f(K:aa):V->Option Int->Option Int->Hp->VK->Prop:=λx lo hi H Q=>af1 K x lo hi H Q
theorem ZF:Eg X (a1f X.K):=by intro pins s O H x v vl vu lo hi sl Q I rx hs pl pu h;let(a,xs,rfl,hx,q):=h;cases rx;let(its,r,ht,hz):=I.list hx;have hlen:=r.length;erw["list",_,slot_list_getitem.lookup,ht.isList.typeIs,?_];erw[wpAny_getItem_list_slice ht.isList hs pl pu .none (by simp) ?_ (by rw[eF]<;>lia)];rw[ZC,<-hlen];erw[.ref s.heap.objs.size,_,I.laid (t':=s.toks) (o:=.lst (jK xs lo hi)) (λb ob q=>bZ _ q) (bL _) ?_,Z,q _ (I.bp.fresh (bL _))];erw[jf (VJ xs lo hi) hz,_,0,(r.drop (_H.cx xs.length 0 lo)).take (_H.cx xs.length xs.length hi-_H.cx xs.length 0 lo),dD _ Z]
def sO:V->Bool | .bD=>true | .bl _=>true | .int _=>true | .str _=>true |_=>false
def sP:V->V->Bool | .bD,.bD=>true | .bl a,.bl b=>a==b | .bl a,.int b=>(if a then 1 else 0)==b | .int a,.bl b=>a==(if b then 1 else 0) | .int a,.int b=>a==b | .str a,.str b=>a==b |_,_=>false
theorem abp{A:ah}{s:ae}{y x:V}{u v:Value}(ry:RelV y u)(rx:RelV x v)(fy:sO y=true)(fx:sO x=true):SeqAt.EqAt A s u v (sP y x):=by cases y with
 |bD=>cases ry;cases x with |bD=>cases rx;erw[SeqAt.EqAt.same _] |bl b=>cases rx;erw[SeqAt.EqAt.none_bool b] |int b=>let(t,rfl):=rx;erw[SeqAt.EqAt.none_int b t] |str b=>let(t,rfl):=rx;erw[SeqAt.EqAt.none_str b t] |_=>erw[absurd (show false=true from fx) dX]
 |bl a=>cases ry;cases x with |bD=>cases rx;erw[SeqAt.EqAt.bool_none a] |bl b=>cases rx;erw[SeqAt.EqAt.bool_bool a b] |int b=>let(t,rfl):=rx;erw[SeqAt.EqAt.bool_int a b t] |str b=>let(t,rfl):=rx;erw[SeqAt.EqAt.bool_str a b t] |_=>erw[absurd (show false=true from fx) dX]
 |int a=>let(t',rfl):=ry;cases x with |bD=>cases rx;erw[SeqAt.EqAt.int_none a t'] |bl b=>cases rx;erw[SeqAt.EqAt.int_bool a t' b] |int b=>let(t,rfl):=rx;erw[SeqAt.EqAt.int_int a t' b t] |str b=>let(t,rfl):=rx;erw[SeqAt.EqAt.int_str a t' b t] |_=>erw[absurd (show false=true from fx) dX]
 |str a=>let(t',rfl):=ry;cases x with |bD=>cases rx;erw[SeqAt.EqAt.str_none a t'] |bl b=>cases rx;erw[SeqAt.EqAt.str_bool a t' b] |int b=>let(t,rfl):=rx;erw[SeqAt.EqAt.str_int a t' b t] |str b=>let(t,rfl):=rx;erw[SeqAt.EqAt.str_str a t' b t] |_=>erw[absurd (show false=true from fx) dX]
 |_=>erw[absurd (show false=true from fy) dX]
def qE(x:V)(u:Value):Bool:=match u with | .none=>sP .bD x | .bool b=>sP (.bl b) x | .int i _=>sP (.int i) x | .str z _=>sP (.str z) x |_=>false
theorem V7(r:RelV y u)(f:sO y=true):qE x u=sP y x:=by cases y with |bD=>cases r;rfl |bl b=>cases r;rfl |int i=>let(t,rfl):=r;rfl |str z=>let(t,rfl):=r;rfl |_=>erw[absurd (show false=true from f) dX]
theorem LR{x:V}:∀{xs:List V}{us:List Value},Vals xs us->xs.all sO=true->us.any (qE x)=xs.any λy=>sP y x |_,_,.nil,_=>rfl |y::xs,u::us,.cons r t,f=>by rw[yx,fb]at f;rw[qV,qV,V7 r f.1,LR t f.2]
theorem Ji{A:ah}{s:ae}{x:V}{v:Value}(rx:RelV x v)(fx:sO x=true):∀{xs:List V}{us:List Value},Vals xs us->xs.all sO=true->∀u∈us,SeqAt.EqAt A s u v (qE x u)
 |_,_,.nil,_=>λu hu=>by cases hu |y::xs,u::us,.cons r t,f=>λu' hu=>by
  rw[yx,fb]at f;rcases bI.mp hu with rfl|hu
  ·rw[V7 r f.1];erw[abp r rx f.1 fx]
  ·erw[Ji rx fx t f.2 u' hu]
def CU(x:V)(xs:List V):Bool:=xs.any λy=>sP y x
inductive afe(K:aa)(neg:Bool)(x:V)(y:V)(H:Hp)(Q:VK):Prop |mk (p:_)(xs:_)(h0:y= .ref p)(h1:(aD K H p xs\/bc K H p xs))(h2:sO x=true)(h3:xs.all sO=true)(h4:Q (.bl (if neg then !CU x xs else CU x xs)) H)
def Rm(K:aa)(neg:Bool):R2:=λx y H Q=>afe K neg x y H Q
theorem a2k:cU X (compareOp .NotIn) (Rm X.K true):=by
 intro pins s O H x y v u Q I rx ry h;let(p,xs,rfl,hq,fx,fs,q):=h;cases ry;rcases hq with hq|hq
 ·let(its,r,pl,hz):=I.list hq
  erw[SeqAt.notIn_listAt (qE x) pl.isList (λw hw=>Ji rx fx r fs w (by simpa using hw)) #[.bl _,H,I,Z,?_]];rw[show its.toArray.any (qE x)=its.any (qE x) by simp,LR r fs];erw[q]
 ·let(its,r,pl,hz):=I.tuple hq
  erw[SeqAt.notIn_tupleAt (qE x) pl (λw hw=>Ji rx fx r fs w (by simpa using hw)) #[.bl _,H,I,Z,?_]];rw[show its.toArray.any (qE x)=its.any (qE x) by simp,LR r fs];erw[q]
theorem acm:fq X (.builtin "len") (λxs H Q=>∃p ys,xs=[.ref p]/\(aD X.K H p ys\/bc X.K H p ys)/\Q (.int ys.length) H):=by
 intro pins s O H xs us Q I r h;let(p,ys,rfl,hq,q):=h;let(u,rfl,rx):=vals1 r;cases rx;have hn:=uP;rcases hq with hq|hq
 ·let(its,r',pl,hz):=I.list hq
  have hlen:=r'.length;erw[Calls.call_len_list pl.isList (by simp only[eF]<;>lia) #[.int ys.length,H,I.tok _,#[s.toks+1,by rw[eF,hlen]],q]]
 ·let(its,r',pl,hz):=I.tuple hq
  have hlen:=r'.length;erw[len_tuple pl (by simp only[eF]<;>lia) #[.int ys.length,H,I.tok _,#[s.toks+1,by rw[eF,hlen]],q]]
theorem ack:fq X (.builtin "len") (λxs H Q=>∃z,xs=[.str z]/\z.length<=sizeLine/\Q (.int z.length) H):=by intro pins s O H xs us Q I r h;let(z,rfl,hz,q):=h;let(u,rfl,t,rfl):=vals1 r;have hn:=uP;erw[len_str ao #[.int z.length,H,I.tok _,#[_,Z],q]]
theorem fq.or{f:Value}(h:fq X f r)(h':fq X f r'):fq X f (λxs H Q=>r xs H Q\/r' xs H Q):=by
 intro pins s O H xs us Q I rs q;rcases q with q|q
 ·erw[h pins s O H xs us Q I rs q]
 ·erw[h' pins s O H xs us Q I rs q]
theorem acj:fq X (.type "list") (λxs H Q=>∃p ys,xs=[.ref p]/\(aD X.K H p ys\/bc X.K H p ys)/\∀l,H l=none->Q (.ref l) (upd H l (.lst ys))):=by
 intro pins s O H xs us Q I r h;let(p,ys,rfl,hq,q):=h;let(u,rfl,rx):=vals1 r;cases rx;have fin:∀(its:List Value),Vals ys its->ys.length<=sizeLine->∀(h':Heap)(c':Nat),(∀b o',s.heap.get? b=some o'->h'.get? b=some o')->h'.get? s.heap.objs.size=some {cls:=.type "list",dict:=none,data:=.seq its.toArray c',slots:=#[]}->EP X pins O Q (.ref s.heap.objs.size) {s with heap:=h'}:=λits r' hz h' c' kp e=>#[.ref s.heap.objs.size,_,I.laid (t':=s.toks) kp (bL _) (show gb X.prog X.w _ h' _ (.lst ys)from#[hz,its,c',r',e]),Z,q _ (I.bp.fresh (bL _))];rcases hq with hq|hq
 ·let(its,r',pl,hz):=I.list hq
  have hlen:=r'.length;let(o,ho,hc,n,hd):=pl.isList;erw[call_list_seq p (.inl Z) ho hc hd (λh' c' kp e=>fin its r' hz h' c' kp e) (by simp only[eF]<;>lia)]
 ·let(its,r',pl,hz):=I.tuple hq
  have hlen:=r'.length;let(o,ho,hc,n,hd):=pl;erw[call_list_seq p (.inr Z) ho hc hd (λh' c' kp e=>fin its r' hz h' c' kp e) (by simp only[eF]<;>lia)]
theorem ace:fq X (.type "tuple") (λxs H Q=>∃p ys,xs=[.ref p]/\((aD X.K H p ys/\∀l,H l=none->Q (.ref l) (upd H l (.tup ys)))\/(bc X.K H p ys/\Q (.ref p) H))):=by
 intro pins s O H xs us Q I r h;let(p,ys,rfl,h):=h;let(u,rfl,rx):=vals1 r;cases rx;rcases h with⟨hq,q⟩|⟨hq,q⟩
 ·let(its,r',pl,hz):=I.list hq
  have hlen:=r'.length;erw[call_tuple_list pl.isList (λh' kp=>?_) (by simp only[eF]<;>lia)];have I1:Inv X pins O H {s with heap:=h'}:=I.kept (t':=s.toks) kp;have I2:Inv X pins O (upd H h'.objs.size (.tup ys)) {s with heap:=h'.push {cls:=.type "tuple",data:=.seq its.toArray}}:=I1.laid (t':=s.toks) (λb o e=>bZ _ e) (bL _) (show gb X.prog X.w _ _ _ (.tup ys)from#[hz,its,r',IsTup.new _ _]);erw[.ref h'.objs.size,_,I2,Z,q _ (I1.bp.fresh (bL _))]
 ·let(its,r',pl,hz):=I.tuple hq
  erw[call_tuple_same pl #[.ref p,H,I,Z,q]]
def Br(K:aa)(T:String)(x:V)(H:Hp):Prop:=match x with | .str _=>T="str" | .int _=>T="int" | .ref p=>(T="list"/\∃xs,aD K H p xs)\/(T="tuple"/\∃o,K.lookup p=some o/\o.cls= .type "tuple"/\o.dict=none)\/ (T="dict"/\((∃aM,H p=some (.dK aM))\/∃aM,H p=some (.dT aM)))\/(T="set"/\∃S n,H p=some (.set S n)) |_=>False
theorem EU{pins:List (Addr×Obj)}{O:St}{H:Hp}{s:ae}{T:String}{x:V}{v:Value}(I:Inv X pins O H s)(r:RelV x v)(ty:Br X.K T x H): s.TypeIs v T/\∀a,v= .ref a->∃ob,s.heap.get? a=some ob/\ob.dict=none:=by cases x with
 |str z=>let(t,rfl):=r;cases(show T="str" from ty);erw[yd s z t,λ_ e=>nomatch e] |int i=>let(t,rfl):=r;cases(show T="int" from ty);erw[typeIs_int s i t,λ_ e=>nomatch e] |ref p=>
  cases r;rcases ty with⟨rfl,xs,hq⟩|⟨rfl,o,hk,hc,hd⟩|⟨rfl,hk⟩|⟨rfl,S,n,hk⟩
  ·let(its,_,pl,_):=I.list hq
   erw[pl.isList.typeIs,λa e=>?_];cases e;let(o,n,e,c,hd,_):=pl;erw[o,e,hd]
  ·erw[#[o,I.fD p o hk,hc],λa e=>?_]
   cases e;erw[o,I.fD _ o hk,hd]
  ·have z:∃o,s.heap.get? p=some o/\o.ExactDict:=by
    rcases hk with⟨aM,hk⟩|⟨aM,hk⟩
    ·let(_,_,_,_,o,_,_,e,ex,_):=I.bp p _ hk
     erw[o,e,ex]
    ·let(_,_,_,_,o,_,_,e,ex,_):=I.bp p _ hk
     erw[o,e,ex]
   let(o,e,ex):=z;erw[#[o,e,ex.1],λa e2=>?_];cases e2;erw[o,e,ex.2.1]
  ·let(o,_,_,_,e,ex,_):=I.bp p _ hk
   erw[#[o,e,ex.1],λa e2=>?_];cases e2;erw[o,e,ex.2.1] |_=>erw[False.elim ty]
def rA(K:aa)(T:String)(r:V->List V->Hp->VK->Prop)(to:TE)(t:TA):TE:=λO H Q=>to O H λx H1=>Br K T x H1/\t O H1 λxs H2=>r x xs H2 Q
variable {o e:Expr}{es:List Expr}{to:TE}{t:TA}{name:Str}{apos bW:Pos}{T id:String}{r:V->List V->Hp->VK->Prop}
theorem uB(pa:PlainAttrs T)(slot:Slot T name id)(JO:typeOf (.builtin id)=pure (.type "method_descriptor"))(hm:xR X id r)(ho:PE X o to)(ha:PA X (e::es) t) (iT:autoParam (attributeBase o name X.env (eval o X.env)=eval o X.env) r8_._auto_1) (iS:autoParam (((backTo bW (starEach (e::es) X.env)).all (λx=>!x.1)&&(backToKw bW (keywordEach [] X.env)).all (λx=>x.1.isSome) &&decide ((e::es).length+([]:List Keyword).length+(if([]:List Keyword).isEmpty then 0 else 1)<30))=true) r8_._auto_1) (iR:autoParam ((apos.endLine==bW.line)=true) r8_._auto_1)(hs:autoParam (starEach (e::es) X.env=(false,eval e X.env)::starEach es X.env) r8_._auto_1)(iQ:autoParam ((backTo bW (starEach es X.env)).any (·.1)=false) r8_._auto_1): PE X (.Call (.Attribute o name apos) (e::es) [] bW) (rA X.K T r to t):=by intro pins s O H Q I h;erw[WR iT iS iR Z (aZ (ho pins s O H _ I h) λv s1 #[x,H1,I1,r1,ty,q1]=>?_)];let(h1,h2):=EU I1 r1 ty;erw[T,id,pa,slot,JO,h1,h2,?_];have hA:=ha bW pins s1 O H1 _ I1 q1;rw[hs]at hA⊢;erw[Xs (by show(false||(backTo bW (starEach es X.env)).any (·.1))=false;rw[iQ]<;>rfl) (MQ ?_)];erw[aZ hA λus s2 #[vs,H2,I2,r2,q2]=>hm pins s2 O H2 x vs v us Q I2 r1 r2 q2]
end
def WI(X:Cx)(id:String)(r:V->List V->Hp->VK->Prop):Prop:=∀(pins:List (Addr×Obj))(s:ae)(O:St)(H:Hp)(x:V)(xs:List V)(v:Value)(us:List Value)(Q:VK),Inv X pins O H s->RelV x v->Vals xs us->r x xs H Q->wpAny (model X.prog X.w) X.A (call (.builtin id) (v::us)) (EP X pins O Q) X.xe s
theorem Vals.one:∀{x:V}{us:List Value},Vals [x] us->∃u,us=[u]/\RelV x u |_,_,.cons r .nil=>#[_,Z,r]
section
variable {X:Cx}{pins:List (Addr×Obj)}{O:St}{H:Hp}{s:ae}{l b:Addr}{xs ys zs:List V}
theorem Inv.SQ{its its':List Value}{n:Nat}{f:Array Value->Array Value}{t':Nat}(I:Inv X pins O H s)(hH:H l=some (.lst xs)) (e:s.heap.get? l=some {cls:=.type "list",data:=.seq its.toArray n})(hf:f its.toArray=its'.toArray)(hv:Vals ys its')(hz:ys.length<=sizeLine): Inv X pins O (upd H l (.lst ys)) {s with heap:=s.heap.update l (Obj.mapSeq f),toks:=t'}:=by have q:=PySem.IsL.update e f;rw[hf]at q;erw[I.write (x:=l) (e:=l) (by rw[hH];erw[trivial]) (.inl Z) (λb' u hb hu=>(Ba s.heap (Obj.mapSeq f) (jS hb)).trans hu) #[_,q] ?_];erw[hz,its',_,hv,q]
theorem Inv.SY(I:Inv X pins O H s)(hv:Vals ys its)(hz:ys.length<=sizeLine): Inv X pins O (upd H s.heap.objs.size (.lst ys)) {s with heap:=s.heap.push {cls:=.type "list",data:=.seq its.toArray},toks:=t'}:=I.laid (λ_ _ q=>bZ _ q) (bL _) #[hz,its,0,hv,dD _ Z]
theorem Inv.Jn(I:Inv X pins O H s)(hH:H l=some (.lst xs)):xs.length<=sizeLine/\∃(its:List Value)(n:Nat),Vals xs its/\xs.length=its.length/\s.heap.get? l=some {cls:=.type "list",data:=.seq its.toArray n}:=by let(z,its,n,r,e):=I.bp l _ hH;erw[z,its,n,r,r.length,e]
theorem a4C{n:Nat}(h:n<=sizeLine):Builtin.List.listTooLong n=false:=by unfold Builtin.List.listTooLong;erw[cG ao]
end
section
variable {X:Cx}
inductive afm(x:V)(vs:List V)(H:Hp)(Q:VK):Prop |mk (l:_)(xs:_)(y:_)(h0:x= .ref l)(h1:vs=[y])(h2:H l=some (.lst xs))(h3:xs.length<sizeLine)(h4:Q .bD (upd H l (.lst (xs++[y]))))
def Rp:V->List V->Hp->VK->Prop:=λx vs H Q=>afm x vs H Q
theorem Jd:WI X "list.append" Rp:=by
 intro pins s O H x vs v us Q I rx rv h;let(l,xs,y,rfl,rfl,hH,hz,q):=h;cases rx;let(u,rfl,ru):=rv.one;let(z,its,n,r,hl,e):=I.Jn hH;erw[AW F.slot_list_append #[_,e,Z] F.entry_list_append (F.args_list_append_2 _ _) (PySem.list_append l its.toArray n u (by rw[eF];lia)) #[e,?_]];erw[.bD,_,I.SQ (its':=its++[u]) hH e (by simp) (r.append (.cons ru .nil)) ?_,Z,q];rw[eP,qT]
 lia
inductive afh(x:V)(vs:List V)(H:Hp)(Q:VK):Prop |mk (l:_)(b:_)(xs:_)(zs:_)(h0:x= .ref l)(h1:vs=[.ref b])(h2:H l=some (.lst xs))(h3:H b=some (.lst zs))(h4:xs.length+zs.length<=sizeLine)(h5:Q .bD (upd H l (.lst (xs++zs))))
def Ro:V->List V->Hp->VK->Prop:=λx vs H Q=>afh x vs H Q
theorem a54:WI X "list.extend" Ro:=by
 intro pins s O H x vs v us Q I rx rv h;let(l,b,xs,zs,rfl,rfl,hH,hB,hz,q):=h;cases rx;let(u,rfl,ru):=rv.one;cases ru;let(z,its,n,r,hl,e):=I.Jn hH;let(z2,lK,n2,r2,mx,e2):=I.Jn hB;have hsz:its.toArray.size+lK.toArray.size<=sizeLine:=by rw[eF,eF];lia
 have a7x:¬(!its.toArray.isEmpty&&Builtin.List.listTooLong (its.toArray.size+lK.toArray.size))=true:=by rw[a4C hsz,Bool.and_false];erw[dX]
 erw[AW F.slot_list_extend #[_,e,Z] F.entry_list_extend (F.args_list_extend_2 _ _) (AutoSeq1.list_extend_list_list_0 l its.toArray n b lK.toArray n2 a7x (by rw[eF];lia) ao) #[e,e2,?_]];erw[.bD,_,I.SQ (its':=its++lK) hH e (by simp) (r.append r2) ?_,Z,q];rw[eP]
 lia
end
section
variable {prog:af}{w:World}{A:ah}{E:Value->ae->Prop}{s:ae}
end
section
variable {X:Cx}
end
end _L
namespace _AA
open PySem PySem.W PySem.Calls PyProof.Rows
theorem a6C{P:Params}:∀(ns:List Int)(vs:List Value),WellAll P h vs (ns.map WData.int)->IntsAre vs ns:=by intro ns;induction ns with |nil=>intro vs w;rw[List.map_nil]at w;cases w;erw[.nil] |cons n ns ih=>intro vs w;rw[kZ]at w;cases w with |cons a b=>cases a;erw[.cons _ _ (ih _ b)]
theorem ZR{l:OpenLaw}{n:Nat}(hn:l.most=some n){P:Params}{h:Heap}{args:List WData}{vals:List Value} (Di:l.row.toRowW.claim.pre args=true)(uT:WellAll P h vals args): ∃a vs ns,vals=[Value.ref a]/\args=[WData.list (ns.map WData.int)]/\h.get? a=some {cls:=.type "list",data:=.seq vs.toArray}/\IntsAre vs ns/\ns.length<=n:=by
 have hsh:WShape.hasAll [] args [.list .int]=true:=(pre_splitW Di).1;have hc:l.pre.holds [] {args:=args}=true:=(pre_splitW Di).2;let(d,r,rfl,h1,h2):=hasAllW_cons hsh;obtain rfl:=hasAllW_nil h2;let(xs,rfl,h3):=hasW_list h1;let(ns,rfl):=items_int h3;have hlen:ns.length<=n:=by
  unfold OpenLaw.pre at hc;have h4:(WTm.not (.lt (.lit (.int (n:Int))) (.len (.arg 0)))).holds [] {args:=[.list (ns.map .int)]}=true:=by have h4:=(holds_andW hc).1;rw[hn]at h4;erw[h4]
  have h5:=condW_of h4 (w_not (w_lt w_lit (w_len_list (w_arg Z))));rw[bV]at h5;erw[Nat.le_of_not_lt λq=>?_];have q':(n:Int)<((ns.length:Nat):Int):=by omega
  first |(rw[bM q']at h5;erw[absurd h5 aw]) |(simp at h5;omega)
 cases uT with |cons w1 w2=>cases w2;cases w1 with |list ho Ki=>erw[_,_,ns,Z,Z,ho,a6C ns _ Ki,hlen]
theorem a1y(l:OpenLaw)(args:List WData):l.row.toRowW.claim.post args (.bool true) args=true:=postW_of (r:=l.row.toRowW) (X:=(true==true)) (show WShape.has [] (.bool true) .bool=true by first|rfl|decide|simp[WShape.has,WShape.arms,WShape.armsAll]) (show(WTm.eq .res (.lit (.bool true))).value [] {args:=args,res:=some (.bool true),after:=args}=some (.bool (true==true))from w_eq_bool (w_res Z) w_lit) rfl
theorem acL{l:OpenLaw}{n:Nat}{q:af}{loose:List Str}{XP:(bO)->Heap->Prop}{YP:World->Heap->Prop}{d:DefRec} (hn:l.most=some n)(zY:d.params.defaults=[]) (call:∀(w:World)(s₀ s₁:ae)(mg mb:bO)(fa:Addr)(o:Obj)(pm cd doc:Value)(a:Addr)(vs:List Value)(ns:List Int),Ground q loose [] XP w s₀ mg mb s₁.heap->YP w s₁.heap->s₁.heap.get? fa=some o->o.data= .func (docDef d.name d.params d.body d.scope pm cd doc)->s₁.heap.CodeRec cd d.name->mg d.name=some (.ref fa)->s₁.heap.get? a=some {cls:=.type "list",data:=.seq vs.toArray}->IntsAre vs ns->ns.length<=n->s₁.gens=#[]->codeAny (model l.prog w) callerA (.call (.ref fa) #[[.ref a],[]]) (λr s'=>r= .ok (.ret (.bool true))/\OldK s₁.heap s'.heap/\s'.os=s₁.os/\AllBare s'.gens) s₁): WalkO q loose XP YP l.row.toRowW d [] (λf vs=>PySem.call f vs):=by intro w s₀ s₁ mg mb G Y fa o pm cd doc dV kV ho hd fi hD zR hg args vals as Di agv hrd uT hlo;obtain rfl:dV= .none:=Dflts.none hD zY;obtain rfl:kV= .none:=Dflts.noKw hD;let(a,vs,ns,rfl,rfl,JX,hints,hlen):=ZR hn Di uT;erw[enter_call (vI (call w s₀ s₁ mg mb fa o pm cd doc a vs ns G Y ho (fd_plain hd) fi zR JX hints hlen hg) λr s' hq=>?_)];let(rfl,h2,h3,h4):=hq;erw[.inl #[.bool true,.bool true,[],Z,λ_=>rfl,.bool true,a1y l _,λ_=>#[List.Pairwise.nil,λ_ hm=>(nomatch hm)]],h2,h3,h4]
section
variable {prog:af}{w:World}{A:ah}{E:Value->ae->Prop}{s:ae}{K:Frag}
end
end _AA
namespace _L
open PySem PySem.Spec PyProof.Rows
theorem N1:∀{vs:List Value}{ns:List Int},IntsAre vs ns->Vals (ns.map V.int) vs |_,_,.nil=>.nil |_,_,.cons n t h=>.cons #[t,Z] (N1 h)
def M6(H:Hp):Prop:=∀b,H b=none\/∃o xs,H b=some (.nH o (.lst xs))
theorem a68{P:af}{w:World}{K:aa}{mg mb:bO}{CX:jc}{k:Nat}{fa a:Addr}{fd:FuncData}{x:Str}{sp:Sp}{s₁:ae}{vs:List Value}{ns:List Int} (KX:K.In s₁.heap)(Ui:s₁.heap.Ns mainGlobals mg)(hb:s₁.heap.Ns builtinsNs mb)(uX:∀x:Str,x≠"__name__"->mb x=bootBuiltins x)(a7y:s₁.heap.NoLimit)(hg:s₁.gens=#[]) (ha:s₁.heap.get? a=some {cls:=.type "list",data:=.seq vs.toArray})(hi:IntsAre vs ns)(hl:ns.length<=sizeLine)(hr:cI k callerA) (F:∀au:Heap,K.In au->au.Ns mainGlobals mg->eR P w K mg au CX k fa fd [x] sp)(a8i:∀(s:ae)(u:Value),BindsTo s fd #[[u],[]] [(x,u)]) (fS:∀H:Hp,M6 H->aD K H a (ns.map V.int)->sp [.ref a] H (λv _=>v= .bl true) λ_ _ _=>False) (Kx:∀H e s',CX [] H s₁ (λ_ _ _=>False) e s'->False): codeAny (model P w) callerA (.call (.ref fa) #[[.ref a],[]]) (λr s'=>r= .ok (.ret (.bool true))/\OldK s₁.heap s'.heap/\s'.os=s₁.os/\AllBare s'.gens) s₁:=by
 have rv:=N1 hi;have a5Z:=hi.length;have core:∀H:Hp,M6 H->aD K H a (ns.map V.int)->dS P w H s₁.heap->(∀b,H b≠none->b=a)->(H a≠none->K.lookup a=none)->codeAny (model P w) callerA (.call (.ref fa) #[[.ref a],[]]) (λr s'=>r= .ok (.ret (.bool true))/\OldK s₁.heap s'.heap/\s'.os=s₁.os/\AllBare s'.gens) s₁:=by
  intro H hO hS bp hA hK;have Wc:∀{b:Addr}{o:Obj},s₁.heap.get? b=some o->H b=none->(qq s₁.heap H).get? b=some o:=λe n=>a7P e n;have zv:∀{b:Addr}{o:Obj}{es:Array DictEntry}{ep:Nat},s₁.heap.get? b=some o->o.data= .dict es ep->H b=none:=λ{b o es ep} e d=>by cases q:H b with |none=>rfl |some u=>have e':b=a:=hA b (by rw[q];simp);subst e';rw[ha]at e;cases e;have d':Data.seq vs.toArray _=Data.dict es ep:=d;cases d'
  have Cv:∀{b:Addr}{m:bO},s₁.heap.Ns b m->(qq s₁.heap H).Ns b m:=λ{b m} #[o,es,ep,e,d,r]=>#[o,es,ep,Wc e (zv e d),d,r];have UD:K.In (qq s₁.heap H):=λb o e=>Wc (KX b o e) (by cases q:H b with |none=>rfl |some u=>have e':b=a:=hA b (by rw[q];simp);subst e';rw[hK (by rw[q];simp)]at e;cases e);have hM:Mod K mg (qq s₁.heap H):=#[UD,Cv Ui,#[mb,Cv hb,uX],let#[mc,h1,h2]:=a7y;#[mc,Cv h1,h2]];have e0:qQ P w K mg (qq s₁.heap H) callerA [] s₁ H:=#[Z,hM,λb o e=>a4c e,Nat.le_of_eq (a7O _ _),trivial,λb hb=>absurd (show b∈([]:List Addr)from hb) (by simp),bp,.of_eq hg];erw[vI ((F _ UD (Cv Ui)).run callerA [] s₁ H #[[.ref a],[]] [.ref a] [.ref a] _ _ hr e0 (a8i s₁ (.ref a)) (.cons Z .nil) (fS H hO hS)) λr s' h=>?_];cases r with |error e=>exact(Kx H e s' h).elim |ok fl=>cases fl with |next=>erw[False.elim h] |brk=>erw[False.elim h] |cont=>erw[False.elim h] |ret u=>let(v,H',os,bare,un,a7k,r',q):=h;have q':v= .bl true:=q;subst q';obtain rfl:u=Value.bool true:=r';erw[Z,OldK.of_keep λb o e=>?_,os,bare];cases q:H b with |none=>erw[un.keep b o e q (by intro z;erw[absurd (show b∈([]:List Addr)from z) (by simp)]) (by simp)] |some u=>
   rcases hO b with z|⟨ob,xs,z⟩
   ·rw[q]at z;cases z
   ·have z2:=un.kP b ob _ z
    let(e1,_):=bp b _ z;let(e2,_):=a7k b _ z2;rw[e]at e1;cases e1;erw[e2]
 cases hk:K.lookup a with |some o=>have e:=KX a o hk;rw[ha]at e;cases e;erw[core (λ_=>none) (λ_=>.inl Z) (.inr #[_,vs.toArray,_,hk,Z,Z,Z,by rw[eF,a5Z];erw[hl],by simpa using rv]) (λb u z=>by have z':(none:Option HO)=some u:=z;cases z') (λb z=>absurd rfl z) λz=>absurd rfl z] |none=>
  erw[core (λb=>if b=a then some (.nH {cls:=.type "list",data:=.seq vs.toArray} (.lst (ns.map V.int)))else none) (λb=>?_) (.inl (.inr #[{cls:=.type "list",data:=.seq vs.toArray},bo Z])) (λb u z=>?_) (λb z=>?_) λ_=>hk]
  ·by_cases hb:b=a
   ·erw[.inr #[_,_,bo hb]]
   ·erw[.inl (bj hb)]
  ·by_cases hb:b=a
   ·have z':=(bo hb).symm.trans z
    cases z';subst hb;erw[ha,by rw[bV];erw[hl],vs,_,rv,ha]
   ·have z':=(bj hb).symm.trans z
    cases z'
  ·by_cases hb:b=a
   ·erw[hb]
   ·erw[absurd (bj hb) z]
theorem XT{l:PySem.W.OpenLaw}{n k:Nat}{q:af}{loose:List Str}{XP:(bO)->Heap->Prop}{YP:World->Heap->Prop}{d:DefRec}{K:Params->aa}{CX:World->jc}{sp:World->Sp}{x:Str} (hn:l.most=some n)(sE:n<=sizeLine)(zY:d.params.defaults=[])(hr:cI k callerA) (hY:∀(w:World)(h:Heap),YP w h->(K w.params).In h) (F:∀(w:World)(mg:bO)(fa:Addr)(h:Heap),(K w.params).In h->h.Ns mainGlobals mg->mg d.name=some (.ref fa)->∃fd:FuncData,(∀(s:ae)(u:Value),BindsTo s fd #[[u],[]] [(x,u)])/\∀au:Heap,(K w.params).In au->au.Ns mainGlobals mg->eR l.prog w (K w.params) mg au (CX w) k fa fd [x] (sp w)) (fS:∀(w:World)(H:Hp)(a:Addr)(ns:List Int),ns.length<=n->M6 H->aD (K w.params) H a (ns.map V.int)->sp w [.ref a] H (λv _=>v= .bl true) λ_ _ _=>False) (Kx:∀(w:World)(H:Hp)(s:ae)(e:Value)(s':ae),CX w [] H s (λ_ _ _=>False) e s'->False): PySem.W.WalkO q loose XP YP l.row.toRowW d [] (λf vs=>PySem.call f vs):=by erw[_AA.acL hn zY λw s₀ s₁ mg mb fa o pm cd doc a vs ns G Y ho hd fi zR JX hints hlen hg=>?_];have KX:=hY w _ Y;let(fd,hb,hF):=F w mg fa _ KX G.T.g zR;erw[a68 KX G.T.g G.T.b G.T.builtins G.T.nolimit hg JX hints (jf hlen sE) hr hF hb (λH hO hS=>fS w H a ns hlen hO hS) λH e s'=>Kx w H s₁ e s']
def inClass(s:Stmt)(j:Nat):Stmt:=match s with | .ClassDef _ _ _ body _ _ _ _ _ _ _=>body.getD j (.Pass #[0,0,0,0]) |_=>.Pass #[0,0,0,0]
def jJ(s:Stmt):Arguments:=match s with | .FunctionDef _ a _ _ _ _ _ _ _ _=>a |_=>{posonlyargs:=[],args:=[],vararg:=none,kwonlyargs:=[],kw_defaults:=[],kwarg:=none,defaults:=[]}
def fY(s:Stmt):List Stmt:=match s with | .FunctionDef _ _ b _ _ _ _ _ _ _=>b |_=>[]
def aW(s:Stmt):Scope:=match s with | .FunctionDef _ _ _ _ _ _ sc _ _ _=>sc |_=>{kind:=.function,names:=[],isGenerator:=false,isCoroutine:=false}
abbrev iX:jc:=λ_ _ _ _ _ _=>False
abbrev E0:XK:=λ_ _ _=>False
theorem Ci:Passes iX X E0:=λ_ _ _ _ _ _ _ h=>h.elim
structure kT(K:aa)(x qual:Str)(st:Stmt)(f:Addr)(fd:FuncData):Prop where
 ex:∃(oc:Value)(od:Option Addr)(kV doc pm:Value)(an:Option Addr)(aH ct:Value)(fV:Array (Option Value)),fd=PySem.W.fnOf x qual (jJ st) (fY st) (aW st) .none kV doc pm an aH ct/\K.lookup f=some #[oc,od,.func fd,fV]/\PySem.W.codeIn K aH qual=true
 kp:PySem.W.keepIn K (.ref f)=true
section
variable {P:af}{w:World}{K:aa}{mg:bO}{au:Heap}
theorem kT.ok{x qual:Str}{st:Stmt}{f:Addr}{fd:FuncData}{N ps:List Str}{k:Nat}{sp:Sp}(F:kT K x qual st f fd)(S:bu N ps (aW st))(len:∀vs H Q E,sp vs H Q E->vs.length=ps.length) (gq:∀(aH:Value)(A:ah)(outer:List Env)(s:ae)(H:Hp)(vs:List V)(Q:VK)(E:XK),cI k (A.deeper (envOfC qual (aW st) s.heap.objs.size f aH))->sp vs H Q E->∃t,g9 (iE iX P w K mg au N qual (aW st) f aH A outer s H E).uI (fY st) t/\t {nx:=λ_ H'=>Q .bD H',rt:=Q} (start N vs) H):eR P w K mg au iX (k+1) f fd ps sp:=by let(oc,od,kV,doc,pm,an,aH,ct,fV,rfl,lk,fi):=F.ex;erw[KJ lk fi S len λA outer s H vs Q E hr fS=>?_];let(t,h,q):=gq aH A outer s H vs Q E hr fS;erw[t,h.uI,q]
theorem kT.binds{x qual:Str}{st:Stmt}{f:Addr}{fd:FuncData}{ps:List Str}(F:kT K x qual st f fd) (h:∀(kV doc pm:Value)(an:Option Addr)(aH ct:Value)(us:List Value),us.length=ps.length->bindArgs (PySem.W.fnOf x qual (jJ st) (fY st) (aW st) .none kV doc pm an aH ct) #[us,[]]=pure (ps.zip us)):Binds K fd ps []:=by let(oc,od,kV,doc,pm,an,aH,ct,fV,rfl,lk,fi):=F.ex;erw[.all (h kV doc pm an aH ct)]
theorem KG{x qual:Str}{st:Stmt}{f:Addr}{oc:Value}{od an:Option Addr}{fV:Array (Option Value)}{kV doc pm aH ct:Value}(l:K.lookup f=some #[oc,od,.func (PySem.W.fnOf x qual (jJ st) (fY st) (aW st) .none kV doc pm an aH ct),fV]) (c:PySem.W.codeIn K aH qual=true)(k:PySem.W.keepIn K (.ref f)=true):kT K x qual st f (PySem.W.fnOf x qual (jJ st) (fY st) (aW st) .none kV doc pm an aH ct):=#[#[oc,od,kV,doc,pm,an,aH,ct,fV,Z,l,c],k]
end
section
variable {X:Cx}
theorem pv(i:Nat){x:Str}{pos:Pos}(hN:autoParam (X.N[i]? =some x) r8_._auto_1)(hv:autoParam (AF X.env.scope x) d8_._auto_1)(hd:autoParam ((x==("__debug__":Str))=false) q8_._auto_1) (fi:autoParam ((x==("__classdict__":Str))=false) q8_._auto_1):PE X (.Name x pos) (Na i):=Iv hN hv hd fi
end
theorem bf{A B:Prop}(h:B):if false=true then A else B:=by rw[bj dX];erw[h]
theorem bE{A B:Prop}(h:A):if true=true then A else B:=by rw[bo rfl];erw[h]
theorem fR{c A B:Prop}[Decidable c](h1:c->A)(h2:¬c->B):if c then A else B:=by
 by_cases h:c
 ·rw[bo h]
  erw[h1 h]
 ·rw[bj h]
  erw[h2 h]
def aE(H H':Hp):Prop:=∀b o,H b=some o->H' b=some o
theorem aE.refl(H:Hp):aE H H:=λ_ _ h=>h
theorem aE.trans(a:aE H H1)(b:aE H1 H2):aE H H2:=λc o h=>b c o (a c o h)
theorem aE.seq{K:aa}(e:aE H H')(h:aD K H a xs):aD K H' a xs:=by
 rcases h with(h|⟨o,h⟩)|h
 ·erw[.inl (.inl (e _ _ h))]
 ·erw[.inl (.inr #[o,e _ _ h])]
 ·erw[.inr h]
def Wd (i:Int):Prop:=i.natAbs<2^5000
theorem Wd.bits(h:Wd i):Builtin.Int.intBits i<=2^20:=jf (PyProof.Rows.intBits_le h) aw
theorem Wd.log(h:Wd i):i.natAbs.log2<9000:=by
 by_cases e:i.natAbs=0
 ·rw[e];decide
 ·have h1:i.natAbs.log2<5000:=(Nat.log2_lt e).mpr h
  lia
section
variable {X:Cx}
theorem uE:cU X (binaryOp .FloorDiv) (rI (λ_ j=>0<j/\Wd j) λi j=>.int (i/j)):=zm λi j _ _ _ _ _ hc q=>by have h1:(0:Int)<j:=hc.1;erw[floordiv_int ao (by rw[Int.fdiv_eq_ediv_of_nonneg i ao];erw[q]) (.inl (X7 hc.2.log))]
theorem RW:cU X (binaryOp .FloorDiv) (rI (λ_ j=>j≠0/\Wd j) λi j=>.int (i.fdiv j)):=zm λ_ _ _ _ _ _ _ hc q=>floordiv_int hc.1 q (.inl (X7 hc.2.log))
end
def vt(K:aa)(H:Hp)(x:V)(T:String):Prop:=match x with | .bD=>T="NoneType" | .bl _=>T="bool" | .int _=>T="int" | .str _=>T="str" | .ref a=>(T="list"/\∃xs,aD K H a xs)\/(T="tuple"/\∃xs,bc K H a xs) |_=>False
def jU(T n:String):Bool:=T==n||(T=="bool"&&n=="int")
def Bs:List String:=["NoneType","bool","int","str","list","tuple"]
def yC:List String:=["bool","int","str","list","tuple"]
theorem Tr{K:aa}{n:String}(h1:T∈Bs)(h2:n∈yC):PySem.W.kitOne K (.type T) (.type n)=some (jU T n):=by
 have all:Bs.all (λT=>yC.all λn=>PySem.W.kitOne [] (.type T) (.type n)==some (jU T n))=true:=by decide+kernel
 have a1:=gQ.mp all T h1;have a2:=gQ.mp a1 n h2;have e:PySem.W.kitOne K (.type T) (.type n)=PySem.W.kitOne [] (.type T) (.type n):=by unfold PySem.W.kitOne PySem.W.kitCls PySem.W.subIn;rfl
 rw[e];erw[gc.mp a2]
section
variable {X:Cx}
theorem vt.mem{K:aa}(h:vt K H x T):T∈Bs:=by cases x with |bD=>cases(show T="NoneType" from h);decide |bl b=>cases(show T="bool" from h);decide |int b=>cases(show T="int" from h);decide |str b=>cases(show T="str" from h);decide |ref a=>rcases(show(T="list"/\∃xs,aD K H a xs)\/(T="tuple"/\∃xs,bc K H a xs)from h)with⟨e,_⟩|⟨e,_⟩<;>cases e<;>decide |_=>exact(show False from h).elim
theorem Ts{pins:List (Addr×Obj)}{s:ae}{O:St}{H:Hp}{x:V}{u:Value}{T:String}(I:Inv X pins O H s)(rx:RelV x u)(ty:vt X.K H x T): ∃P:Heap->Prop,PySem.W.KitX X.K u (.type T) P/\P s.heap/\u≠ .builtin "__main__.__loader__#opaque":=by cases x with
 |bD=>cases(show T="NoneType" from ty);cases(show u=Value.none from rx);erw[_,PySem.W.kitx_none,True.intro,λz=>nomatch z] |bl b=>cases(show T="bool" from ty);cases(show u=Value.bool b from rx);erw[_,PySem.W.kitx_bool,True.intro,λz=>nomatch z] |int b=>cases(show T="int" from ty);let(t,q):=(show∃t,u=Value.int b t from rx);cases q;erw[_,PySem.W.kitx_int,True.intro,λz=>nomatch z] |str b=>cases(show T="str" from ty);let(t,q):=(show∃t,u=Value.str b t from rx);cases q;erw[_,PySem.W.kitx_str,True.intro,λz=>nomatch z] |ref a=>
  cases(show u=Value.ref a from rx);rcases(show(T="list"/\∃xs,aD X.K H a xs)\/(T="tuple"/\∃xs,bc X.K H a xs)from ty)with⟨e,xs,hx⟩|⟨e,xs,hx⟩
  ·cases e
   let(its,r,(o,n,h1,h2,_),_):=I.list hx;erw[_,PySem.W.kitx_list,#[o,h1,h2],λz=>nomatch z]
  ·cases e
   let(its,r,(o,h1,h2,_),_):=I.tuple hx;erw[_,PySem.W.kitx_tuple,#[o,h1,h2],λz=>nomatch z] |_=>exact(show False from ty).elim
inductive afb(K:aa)(xs:List V)(H:Hp)(Q:VK):Prop |mk (x:_)(T:_)(n:_)(b:_)(h0:xs=[x,.ty n])(h1:vt K H x T)(h2:n∈yC)(h3:jU T n=b)(h4:Q (.bl b) H)
def Ij(K:aa):List V->Hp->VK->Prop:=λxs H Q=>afb K xs H Q
theorem aco:fq X (.builtin "isinstance") (Ij X.K):=by intro pins s O H xs us Q I r h;let(x,T,n,b,rfl,ty,hn,rfl,q):=h;let(u,c,rfl,rx,rc):=vals2 r;cases(show c=Value.type n from rc);let(P,ah1,p,hx):=Ts I rx ty;erw[PySem.W.kia_one ah1 I.fD p (Tr ty.mem hn) hx λtk=>#[.bl (jU T n),H,I.tok _,Z,q]]
inductive afa(K:aa)(xs:List V)(H:Hp)(Q:VK):Prop |mk (x:V)(T:String)(p:Addr)(ns:List String)(b:Bool)(h0:xs=[x,.ref p])(h1:H p=some (.tup (ns.map V.ty)))(h2:vt K H x T)(h3:(∀n∈ns,n∈yC))(h4:ns.any (jU T)=b)(h5:Q (.bl b) H)
def Ii(K:aa):List V->Hp->VK->Prop:=λxs H Q=>afa K xs H Q
theorem Tq{K:aa}{T:String}(h1:T∈Bs):∀{ns:List String},(∀n∈ns,n∈yC)->PySem.W.kitAny K (.type T) (ns.map Value.type)=some (ns.any (jU T)) |[],_=>rfl |n::r,h=>by have e:=Tr (K:=K) h1 (h n (EA ..));have ih:=Tq (K:=K) h1 (ns:=r) λm hm=>h m (yo _ hm);rw[kZ,PySem.W.kitAny,e,qV];cases jU T n with |true=>rfl |false=>simpa using ih
theorem N0:∀{ns:List String}{us:List Value},Vals (ns.map V.ty) us->us=ns.map Value.type |[],_,.nil=>rfl |n::r,_,.cons q t=>by cases(show _=Value.type n from q);rw[N0 t];rfl
theorem acn:fq X (.builtin "isinstance") (Ii X.K):=by intro pins s O H xs us Q I r h;let(x,T,p,ns,b,rfl,hp,ty,hn,rfl,q):=h;let(u,c,rfl,rx,rc):=vals2 r;cases(show c=Value.ref p from rc);let(P,ah1,pp,hx):=Ts I rx ty;let(_,its,rv,(cls,dd,dt,sl),h1,h2,n,h3):=(show gb X.prog X.w H s.heap p (.tup (ns.map V.ty))from I.bp p _ hp);simp only at h2 h3;subst h2 h3;have e:=N0 rv;subst e;erw[PySem.W.kia_tup ah1 I.fD pp h1 (Tq ty.mem hn) hx λtk=>#[.bl _,H,I.tok _,Z,q]]
end
mutual
def RD(K:aa)(H:Hp):V->ag->Prop |x,.none=>x= .bD |x,.bool b=>x= .bl b |x,.int i=>x= .int i |x,.str y=>x= .str y |x,.list ds=>∃a xs,x= .ref a/\aD K H a xs/\aO K H xs ds |x,.tuple ds=>∃a xs,x= .ref a/\bc K H a xs/\aO K H xs ds |_,.dict _=>False
def aO (K:aa)(H:Hp):List V->List ag->Prop |xs,[]=>xs=[] |xs,d::ds=>∃y ys,xs=y::ys/\RD K H y d/\aO K H ys ds
end
section
variable {X:Cx}
mutual
theorem RD.reads{pins:List (Addr×Obj)}{s:ae}{O:St}{H:Hp}(I:Inv X pins O H s):∀{x:V}{u:Value}(d:ag),RelV x u->RD X.K H x d->∃as,Reads s.heap u d as |x,u,.none,r,h=>by cases(show x= .bD from by simpa[RD]using h);cases(show u=Value.none from r);erw[_,.none] |x,u,.bool b,r,h=>by cases(show x= .bl b from by simpa[RD]using h);cases(show u=Value.bool b from r);erw[_,.bool b] |x,u,.int i,r,h=>by cases(show x= .int i from by simpa[RD]using h);let(t,q):=(show∃t,u=Value.int i t from r);cases q;erw[_,.int i t] |x,u,.str y,r,h=>by cases(show x= .str y from by simpa[RD]using h);let(t,q):=(show∃t,u=Value.str y t from r);cases q;erw[_,.str y t] |x,u,.list ds,r,h=>by rw[RD]at h;let(a,xs,rfl,hx,hd):=h;cases(show u=Value.ref a from r);let(its,rv,(o,n,h1,h2,h3,h4),_):=I.list hx;let(as,q):=aO.reads I ds rv hd;erw[_,.list h1 h2 h4 (by simpa using q)] |x,u,.tuple ds,r,h=>by rw[RD]at h;let(a,xs,rfl,hx,hd):=h;cases(show u=Value.ref a from r);let(its,rv,(o,h1,h2,n,h4),_):=I.tuple hx;let(as,q):=aO.reads I ds rv hd;erw[_,.tuple h1 h2 h4 (by simpa using q)] |x,u,.dict _,r,h=>by simp[RD]at h
theorem aO.reads {pins:List (Addr×Obj)}{s:ae}{O:St}{H:Hp}(I:Inv X pins O H s):∀{xs:List V}{us:List Value}(ds:List ag),Vals xs us->aO X.K H xs ds->∃as,ReadsAll s.heap us ds as |xs,us,[],r,h=>by cases(show xs=[]from by simpa[aO]using h);cases r;erw[_,.nil] |xs,us,d::ds,r,h=>by rw[aO]at h;let(y,ys,rfl,h1,h2):=h;cases r with |cons ra rb=>let(as,q):=RD.reads I d ra h1;let(bs,q'):=aO.reads I ds rb h2;erw[_,.cons q q']
end
inductive afi(K:aa)(x:V)(y:V)(H:Hp)(Q:VK):Prop |mk (d:_)(e:_)(h0:RD K H x d)(h1:RD K H y e)(h2:SeqAt.shaped d=true)(h3:SeqAt.shaped e=true)(h4:Q (.bl (PyData.eqv d e)) H)
def Ik(K:aa):R2:=λx y H Q=>afi K x y H Q
inductive af5(K:aa)(x:V)(y:V)(H:Hp)(Q:VK):Prop |mk (d:_)(e:_)(h0:RD K H x d)(h1:RD K H y e)(h2:SeqAt.shaped d=true)(h3:SeqAt.shaped e=true)(h4:Q (.bl (!PyData.eqv d e)) H)
def Ie(K:aa):R2:=λx y H Q=>af5 K x y H Q
theorem a2q(hu:X.A.units+64<cLine):cU X (compareOp .Eq) (Ik X.K):=by intro pins s O H x y v u Q I rx ry h;let(d,e,hd,he,sd,se,q):=h;let(as,ra):=RD.reads I d rx hd;let(bs,rb):=RD.reads I e ry he;erw[eq_dataH ra rb sd se hu #[.bl _,H,I,Z,q]]
theorem a2m(hu:X.A.units+64<cLine):cU X (compareOp .NotEq) (Ie X.K):=by intro pins s O H x y v u Q I rx ry h;let(d,e,hd,he,sd,se,q):=h;let(as,ra):=RD.reads I d rx hd;let(bs,rb):=RD.reads I e ry he;erw[ne_dataH ra rb sd se hu #[.bl _,H,I,Z,q]]
end
theorem aE.new{t:Addr}(ht:H t=none):aE H (upd H t o):=λb o' e=>by rw[aQ (iO e ht)];erw[e]
structure Nw(H H':Hp)(p:Addr)(o:HO):Prop where
 no:H p=none
 at':H' p=some o
 same:aE H H'
 eq:H'=upd H p o
theorem Nw.of(h:H p=none):Nw H (upd H p o) p o:=#[h,bP,.new h,Z]
def Ec:List Str:=["len","abs","min","max","range","isinstance","int","bool","str","tuple","list","any","all","sum","zip","enumerate","sorted","reversed","ord","chr","divmod","repr","dict","set"]
def bK (mg:bO):Prop:=∀x∈Ec,mg x=none
theorem bK.at{mg:bO}(B:bK mg)(x:Str)(h:autoParam (x∈Ec) q8_._auto_1):mg x=none:=B x h
theorem dc{α:Type}{C:List α->Prop}(h:∀a,C [a]):∀us:List α,us.length=1->C us |[_],_=>h _
theorem dN{α:Type}{C:List α->Prop}(h:∀a b,C [a,b]):∀us:List α,us.length=2->C us |[_,_],_=>h _ _
theorem lQ{α:Type}{C:List α->Prop}(h:∀a b c,C [a,b,c]):∀us:List α,us.length=3->C us |[_,_,_],_=>h _ _ _
theorem xN{α:Type}{C:List α->Prop}(h:∀a b c d,C [a,b,c,d]):∀us:List α,us.length=4->C us |[_,_,_,_],_=>h _ _ _ _
theorem al5{α:Type}{C:List α->Prop}(h:∀a b c d e,C [a,b,c,d,e]):∀us:List α,us.length=5->C us |[_,_,_,_,_],_=>h _ _ _ _ _
def UT(N P:List Str)(sc:Scope):Bool:=decide (sc.kind= .function)&& !sc.isCoroutine&& !sc.isGenerator&&decide N.Nodup&&decide (N.take P.length=P)&&P.all (λx=>decide (sc.names.lookup x=some .local\/sc.names.lookup x=some .cell))&&sc.names.all λy=>decide (y.2≠ .free)
theorem bF{P:List Str}(h:UT N P sc=true):bu N P sc:=by unfold UT at h;simp only[fb,AU,yy,gQ]at h;let((((((h1,h2),h3),h4),h5),h6),h7):=h;erw[h1,h2,h3,h4,h5,h6,h7]
structure FA(K:aa)(mg:bO)(x:Str)(st:Stmt):Prop where ex:∃f fd,mg x=some (.ref f)/\kT K x x st f fd
def aF(P:af)(w:World)(K:aa)(mg:bO)(au:Heap)(x:Str)(k:Nat)(sp:Sp):Prop:=∃f fd ps,eR P w K mg au iX k f fd ps sp/\mg x=some (.ref f)/\PySem.W.keepIn K (.ref f)=true/\Binds K fd ps []
section
variable {P:af}{w:World}{K:aa}{mg:bO}{au:Heap}
theorem aa4{h:Heap}{x:Str}{st:Stmt}{f:Addr}{oc:Value}{od an:Option Addr}{fV:Array (Option Value)}{kV doc pm aH ct:Value}(X:K.In h)(G:h.Ns mainGlobals mg) (a:PySem.W.nsIn K mainGlobals x=some (some (.ref f))) (l:K.lookup f=some #[oc,od,.func (PySem.W.fnOf x x (jJ st) (fY st) (aW st) .none kV doc pm an aH ct),fV]) (c:PySem.W.codeIn K aH x=true)(k:PySem.W.keepIn K (.ref f)=true):FA K mg x st:=#[f,_,yg X G a,KG l c k]
theorem FA.has{x:Str}{st:Stmt}{N ps:List Str}{k:Nat}{sp:Sp}(F:FA K mg x st)(S:bu N ps (aW st))(len:∀vs H Q E,sp vs H Q E->vs.length=ps.length) (hb:∀(kV doc pm:Value)(an:Option Addr)(aH ct:Value)(us:List Value),us.length=ps.length->bindArgs (PySem.W.fnOf x x (jJ st) (fY st) (aW st) .none kV doc pm an aH ct) #[us,[]]=pure (ps.zip us)) (gq:∀(f:Addr)(aH:Value)(A:ah)(outer:List Env)(s:ae)(H:Hp)(vs:List V)(Q:VK)(E:XK),cI k (A.deeper (envOfC x (aW st) s.heap.objs.size f aH))->sp vs H Q E->∃t,g9 (iE iX P w K mg au N x (aW st) f aH A outer s H E).uI (fY st) t/\t {nx:=λ_ H'=>Q .bD H',rt:=Q} (start N vs) H):aF P w K mg au x (k+1) sp:=by let(f,fd,hm,F):=F.ex;erw[f,fd,ps,F.ok S len λaH A outer s H vs Q E=>gq f aH A outer s H vs Q E,hm,F.kp,F.binds hb]
end
section
variable {X:Cx}{k:Nat}{x:Str}{p pos:Pos}{e:Expr}{es:List Expr}{t:TA}{sp:Sp}
def Nj(sp:Sp)(t:TA):TE:=λO H Q=>t O H λvs H1=>sp vs H1 Q E0
theorem a1V(F:aF X.prog X.w X.K X.mg X.au x k sp)(hr:cI k X.A)(hg:Gl X x)(ha:PA X (e::es) t)(gZ:autoParam ((x==("__debug__":Str))=false) q8_._auto_1) (he:autoParam (starEach (e::es) X.env=(false,eval e X.env)::starEach es X.env) r8_._auto_1)(eg:autoParam ((backTo pos (starEach es X.env)).any (·.1)=false) r8_._auto_1): PE X (.Call (.Name x p) (e::es) [] pos) (Nj sp t):=by
 let(f,fd,ps,F,hm,hk,hb):=F;have h:=a20 (pos:=pos) (p:=p) F hr hg hm hk hb .nil Ci ha gZ he eg;intro pins s O H Q I hq;erw[h pins s O H Q I ?_];have e1:(λ(vs:List V) H1=>sp (vs++[]) H1 Q E0)=λvs H1=>sp vs H1 Q E0:=by funext vs H1;rw[qU]
 show t O H λvs H1=>sp (vs++[]) H1 Q E0;rw[e1];erw[hq]
theorem pf(F:aF X.prog X.w X.K X.mg X.au x j sp)(hr:cI k X.A)(ha:PA X (e::es) t)(hjk:autoParam (j<=k) q8_._auto_1)(hg:autoParam (Gl X x) r8_._auto_1)(gZ:autoParam ((x==("__debug__":Str))=false) q8_._auto_1)(he:autoParam (starEach (e::es) X.env=(false,eval e X.env)::starEach es X.env) r8_._auto_1)(eg:autoParam ((backTo pos (starEach es X.env)).any (·.1)=false) r8_._auto_1):PE X (.Call (.Name x p) (e::es) [] pos) (Nj sp t):=a1V F (hr.mono hjk) hg ha gZ he eg
theorem cw:cU X (binaryOp .Mult) (rI (λi j=>IntMulOk i j) λi j=>.int (i*j)):=zm λ_ _ _ _ _ _ _ hc q=>mul_int q hc
theorem a2p:cU X (compareOp .Eq) (kE λi j=>.bl (decide (i=j))):=wH λ_ _ _ _ _ _ _ q=>eq_int (by rw[Xt];erw[q])
theorem a2l:cU X (compareOp .NotEq) (kE λi j=>.bl (!decide (i=j))):=wH λ_ _ _ _ _ _ _ q=>ne_int (by rw[bne,Xt];erw[q])
theorem a2r(hu:X.A.units+64<cLine):cU X (compareOp .Eq) (λx y H Q=>kE (λi j=>.bl (decide (i=j))) x y H Q\/Ik X.K x y H Q):=a2p.or (a2q hu)
theorem a2n(hu:X.A.units+64<cLine):cU X (compareOp .NotEq) (λx y H Q=>kE (λi j=>.bl (!decide (i=j))) x y H Q\/Ie X.K x y H Q):=a2l.or (a2m hu)
mutual
theorem eqv_refl:∀d:ag,d.canLay0=true->PyData.eqv d d=true | .none,_=>by simp[PyData.eqv] | .bool b,_=>by simp[PyData.eqv] | .int i,_=>by simp[PyData.eqv] | .str x,_=>by simp[PyData.eqv] | .list ds,h=>by simp only[PyData.eqv];erw[eqvAll_refl ds (by simpa[PyData.canLay0]using h)] | .tuple ds,h=>by simp only[PyData.eqv];erw[eqvAll_refl ds (by simpa[PyData.canLay0]using h)] | .dict _,h=>by simp[PyData.canLay0]at h
theorem eqvAll_refl:∀ds:List ag,PyData.canLayAll0 ds=true->PyData.eqvAll ds ds=true |[],_=>by simp[PyData.eqvAll] |d::ds,h=>by simp only[PyData.canLayAll0,fb]at h;simp only[PyData.eqvAll,fb];erw[eqv_refl d h.1,eqvAll_refl ds h.2]
end
theorem fJ{K:aa}(i:Int):RD K H (.int i) (.int i):=by simp[RD]
theorem bT{K:aa}(x:Str):RD K H (.str x) (.str x):=by simp[RD]
theorem ze{K:aa}:RD K H .bD .none:=by simp[RD]
theorem gu{K:aa}{H:Hp}{p:Addr}{xs:List V}{ds:List ag}(h:bc K H p xs)(r:aO K H xs ds):RD K H (.ref p) (.tuple ds):=by rw[RD];erw[p,xs,Z,h,r]
theorem HZ{K:aa}{H:Hp}{p:Addr}{xs:List V}{ds:List ag}(h:aD K H p xs)(r:aO K H xs ds):RD K H (.ref p) (.list ds):=by rw[RD];erw[p,xs,Z,h,r]
theorem dJ{K:aa}:aO K H [] []:=by simp[aO]
theorem cO{K:aa}{H:Hp}{x:V}{xs:List V}{d:ag}{ds:List ag}(h:RD K H x d)(r:aO K H xs ds):aO K H (x::xs) (d::ds):=by rw[aO];erw[x,xs,Z,h,r]
inductive adv(t:TS)(D:Ends)(O:St)(H:Hp):Prop |mk (M8:St->Hp->Prop)(h0:t {D with nx:=M8} O H)(h1:∀σ' H',M8 σ' H'->D.nx σ' H')
def YS(t:TS):TS:=λD O H=>adv t D O H
theorem ij{st:Stmt}{t:TS}(h:PS X st t):PS X st (YS t):=by intro pins s O H D I hq;let(M8,q,m):=hq;erw[aZ (h pins s O H _ I q) λf s1 q1=>?_];cases f with |next=>let(σ',H',I',q'):=q1;erw[σ',H',I',m _ _ q'] |brk=>erw[q1] |cont=>erw[q1] |ret u=>erw[q1]
end
def tq(K:aa)(xs:List Str):Prop:=∀x∈xs,PySem.W.nsIn K mainGlobals x=some none
theorem tq.nil{K:aa}:tq K []:=λ_ h=>nomatch h
theorem tq.cons{K:aa}{x:Str}{xs:List Str}(a:PySem.W.nsIn K mainGlobals x=some none)(r:tq K xs):tq K (x::xs):=λy hy=>by
 rcases bI.mp hy with e|e
 ·rw[e];erw[a]
 ·erw[r y e]
theorem acA{K:aa}{mg:bO}(X:K.In h)(G:h.Ns mainGlobals mg)(a:tq K Ec):bK mg:=λx hx=>PySem.W.mg_none_of X G (a x hx)
theorem Lv{env:Env}:∀(ns:List (Str×NameKind))(cs:List (Str×Addr)),(∀x∈ns,x.2= .free->∃c,env.cells.lookup x.1=some c)->(∀x c,cs.lookup x=some c->env.cells.lookup x=some c)->∃cl,(forIn ns cs (λx r=>if(x.2==NameKind.free)=true then do let a<-cellOf env x.1;pure (ForInStep.yield ((x.1,a)::r))else pure (ForInStep.yield r)):Sem (List (Str×Addr)))=pure cl/\(∀x c,cl.lookup x=some c->env.cells.lookup x=some c)/\(∀x c,cs.lookup x=some c->∃c',cl.lookup x=some c')/\∀x∈ns,x.2= .free->∃c,cl.lookup x.1=some c
 |[],cs,_,h2=>#[cs,Z,h2,λx c e=>#[c,e],λ_ h=>nomatch h] |(n,k)::r,cs,h1,h2=>by
  by_cases hk:k= .free
  ·subst hk
   let(c,hc):=h1 (n,.free) (.head _) rfl;have e1:cellOf env n=pure c:=by unfold cellOf;rw[show env.cells.lookup n=some c from hc]
   let(cl,a1,a2,a3,a4):=Lv r ((n,c)::cs) (λx hx=>h1 x (.tail _ hx)) (λx d e=>by rw[ku]at e;cases z:x==n with |true=>rw[z]at e;cases e;rw[gc.mp z];erw[hc] |false=>rw[z]at e;erw[h2 x d e]);erw[cl,?_,a2,λx d e=>?_,λx hx hf=>?_]
   ·rw[MH]
    show(do let r'<-(if(NameKind.free==NameKind.free)=true then do let a<-cellOf env n;pure (ForInStep.yield ((n,a)::cs))else pure (ForInStep.yield cs));_)=_;rw[bo (by rfl),e1];erw[a1]
   ·by_cases z:x==n
    ·erw[a3 x c (by rw[ku,z])]
    ·erw[a3 x d (by rw[ku,EH.mpr z];erw[e])]
   ·rcases bI.mp hx with rfl|hx
    ·erw[a3 n c (by rw[ku,Ml])]
    ·erw[a4 x hx hf]
  ·let(cl,a1,a2,a3,a4):=Lv r cs (λx hx=>h1 x (.tail _ hx)) h2
   erw[cl,?_,a2,a3,λx hx hf=>?_]
   ·rw[MH]
    show(do let r'<-(if(k==NameKind.free)=true then do let a<-cellOf env n;pure (ForInStep.yield ((n,a)::cs))else pure (ForInStep.yield cs));_)=_;rw[bj (by simpa using hk)];erw[a1]
   ·rcases bI.mp hx with rfl|hx
    ·erw[absurd hf hk]
    ·erw[a4 x hx hf]
theorem VS(h1:∀x∈scope.names,x.2= .free->∃c,env.cells.lookup x.1=some c): ∃cl,closureFor scope env=pure cl/\(∀x c,cl.lookup x=some c->env.cells.lookup x=some c)/\∀x∈scope.names,x.2= .free->∃c,cl.lookup x.1=some c:=by
 let(cl,a1,a2,_,a4):=Lv (env:=env) scope.names [] h1 (λx c e=>nomatch e);erw[cl,?_,a2,a4];unfold closureFor;show(forIn scope.names ([]:List (Str×Addr)) (λ(x:Str×NameKind) r=>match x with|(name,kind)=>if(kind==NameKind.free)=true then do let a<-cellOf env name;pure (ForInStep.yield ((name,a)::r))else pure (ForInStep.yield r))>>=λr=>(pure r:Sem (List (Str×Addr))))=pure cl;have ef:(λ(x:Str×NameKind)(r:List (Str×Addr))=>match x with|(name,kind)=>(if(kind==NameKind.free)=true then do let a<-cellOf env name;pure (ForInStep.yield ((name,a)::r))else pure (ForInStep.yield r):Sem (ForInStep (List (Str×Addr))))) =λx r=>if(x.2==NameKind.free)=true then do let a<-cellOf env x.1;pure (ForInStep.yield ((x.1,a)::r))else pure (ForInStep.yield r):=by funext x r;let(n,k):=x;rfl
 rw[ef,a1];rfl
theorem SW{env:Env}(hk:env.scope.kind= .function){x:Str}(hx:env.kindOf x=some .cell):∀{names:List (Str×NameKind)},names.lookup x=some .free->(names.map λ(n,k)=>if(k==NameKind.free&&env.scope.kind== .function&&env.kindOf n==some .cell)then(n,NameKind.cell)else(n,k)).lookup x=some .cell |[],h=>nomatch h |(n,k)::r,h=>by have ih:=@SW env hk x hx r;show List.lookup x ((if(k==NameKind.free&&env.scope.kind== .function&&env.kindOf n==some .cell)=true then(n,NameKind.cell)else(n,k))::_)=_;cases z:x==n with |true=>simp only[ku,z]at h;cases h;have e:=gc.mp z;subst e;rw[bo (by rw[hk,hx];rfl),ku,z] |false=>simp only[ku,z]at h;split<;>(simp only[ku,z];erw[ih h])
def fZ(X:Cx)(N:List Str)(scope:Scope)(cl:List (Str×Addr))(s:ae)(H:Hp)(fp:List Addr)(pins:List (Addr×Obj)):Cx:={prog:=X.prog,w:=X.w,K:=X.K,mg:=X.mg,au:=X.au,A:=X.A,N:=N,s₀:=s,H₀:=H,env:=compEnvC scope cl s.heap.objs.size X.env,outer:=X.stack,stack:=X.stack,ex:=fp,fn:=λ_=>false,calm:=X.calm,pn:=X.pn++pins,xe:=λ_ _=>False}
def stC(js:List (Option Nat))(O:St):St:=js.map λ|none=>none|some j=>(O[j]?).join
def E6(X:Cx)(N:List Str)(js:List (Option Nat))(scope:Scope):Bool:=N.length==js.length&&(N.zip js).all λp=>match p.2 with|none=>true|some j=>X.N[j]? ==some p.1&&scope.names.lookup p.1==some NameKind.free&&X.env.kindOf p.1==some NameKind.cell
def xJ(X:Cx)(scope:Scope):Bool:=scope.kind== .function&&X.env.scope.kind== .function&&scope.names.all λx=>match x.2 with | .free=>X.env.kindOf x.1==some NameKind.cell | .cell=>false | .local=>scope.names.lookup x.1==some NameKind.local |_=>true
section
variable {X:Cx}{pins:List (Addr×Obj)}{O:St}{H:Hp}{s:ae}
theorem lookup_mem{α β:Type}[BEq α][LawfulBEq α]:∀{l:List (α×β)}{x:α}{b:β},l.lookup x=some b->(x,b)∈l |[],_,_,h=>nomatch h |(n,k)::r,x,b,h=>by rw[ku]at h;cases z:x==n with |true=>rw[z]at h;cases h;rw[gc.mp z];erw[.head _] |false=>rw[z]at h;erw[.tail _ (lookup_mem h)]
theorem QX{env:Env}{x:Str}{k:NameKind}:∀{names:List (Str×NameKind)},(names.map λ(n,k)=>if(k==NameKind.free&&env.scope.kind== .function&&env.kindOf n==some .cell)then(n,NameKind.cell)else(n,k)).lookup x=some k->names.lookup x=some k\/(k= .cell/\names.lookup x=some .free) |[],h=>nomatch h |(n,k')::r,h=>by have ih:=@QX env x k r;have h':List.lookup x ((if(k'==NameKind.free&&env.scope.kind== .function&&env.kindOf n==some .cell)=true then(n,NameKind.cell)else(n,k'))::(r.map λ(n,k)=>if(k==NameKind.free&&env.scope.kind== .function&&env.kindOf n==some .cell)then(n,NameKind.cell)else(n,k)))=some k:=h;cases z:x==n with
 |true=>
  split at h'
  ·rename_i hc
   simp only[ku,z]at h';cases h';rw[fb,fb]at hc;have e:k'= .free:=gc.mp hc.1.1;subst e;erw[.inr #[Z,by rw[ku,z]]]
  ·simp only[ku,z]at h'
   cases h';erw[.inl (by rw[ku,z])] |false=>
  rw[ku,z];erw[ih ?_];split at h'
  ·simpa only[ku,z]using h'
  ·simpa only[ku,z]using h'
theorem Inv.comp{N:List Str}{js:List (Option Nat)}{cl:List (Str×Addr)}{fp:List Addr}{tk:Nat}(I:Inv X pins O H s)(hN:E6 X N js scope=true)(hS:xJ X scope=true) (c1:∀x c,cl.lookup x=some c->X.env.cells.lookup x=some c)(c2:∀x∈scope.names,x.2= .free->∃c,cl.lookup x.1=some c)(hf:∀b∈fp,lT X pins H b)(hfl:∀b∈fp,b<s.heap.objs.size) (hn:h'.Ns s.heap.objs.size λ_=>none)(hk:∀b o,s.heap.get? b=some o->h'.get? b=some o):Inv (fZ X N scope cl s H fp pins) [] (stC js O) H {s with heap:=h',toks:=tk}:=by
 unfold xJ at hS;rw[fb,fb]at hS;let((s1,s2),s3):=hS;have nu:scope.kind= .function:=gc.mp s1;have a7B:X.env.scope.kind= .function:=gc.mp s2;unfold E6 at hN;rw[fb]at hN;let(n1,n2):=hN;have hlen:N.length=js.length:=gc.mp n1;have TV:∀x k,(relabel scope X.env).names.lookup x=some k->scope.names.lookup x=some k\/(k= .cell/\scope.names.lookup x=some .free):=λx k e=>QX e;have a4I:∀x,scope.names.lookup x≠some .cell:=λx e=>by have:=gQ.mp s3 _ (lookup_mem e);erw[dX this]
 have US:∀b∈(fZ X N scope cl s H fp pins).fs,b∈X.env.locals::X.fs:=I.F9;have ok:(fZ X N scope cl s H fp pins).Ok:={
  mod:=I.ok.mod
  kind:=nu
  glob:=I.ok.glob
  blt:=I.ok.blt
  above:=bL _
  inj:=λx y c e1 e2=>I.ok.inj x y c (c1 x c e1) (c1 y c e2)
  has:=λx hx=>by
   have fr:scope.names.lookup x=some .free->∃c,cl.lookup x=some c:=λe=>c2 (x,.free) (lookup_mem e) rfl;rcases hx with e|e
   ·rcases TV x _ e with e|⟨_,e⟩
    ·erw[absurd e (a4I x)]
    ·erw[fr e]
   ·rcases TV x _ e with e|⟨z,_⟩
    ·erw[fr e]
    ·cases z
  sW:=λx c e=>nomatch e
  hd:=I.ok.hd
  frames:=I.ok.frames
  u9:=.inl rfl
  Af:=λb hb=>#[dI (hfl b hb),λx c e=>(hf b hb).2.2.2.2.1 x c (c1 x c e)]
  bs:=I.bs
  lP:=jf I.ok.lP I.sz
  rV:=λb o e hb=>by
   rcases(hf b hb).2.2.2.1 with z|z
   ·erw[I.ok.rV b o e z]
   ·erw[absurd (gH (bX e) (jf I.ok.lP z)) (qS _)]
  qC:=λb hb z=>by
   let(_,q1,q2,_):=hf b hb;rcases bI.mp (US b z)with e|e
   ·erw[q1 e]
   ·erw[q2 e]
  jG:=I.stack
  nJ:=I.BG};erw[ok,Z,I.bare,Un.kept hk,#[_,hn,λi x v e1 e2 e3=>?_],λx c e=>?_,I.bp.fresh (bL _),λx c e=>I.kQ x c (c1 x c e),λp hp=>?_,I.bp.kept hk,?_]
 ·have xE:(js.map λ|none=>none|some j=>(O[j]?).join)[i]? =some (some v):=e2
  rw[cv]at xE;cases hj:js[i]? with |none=>rw[hj]at xE;cases xE |some o=>rw[hj]at xE;cases o with |none=>cases xE |some j=>
   have hz:(N.zip js)[i]? =some (x,some j):=by rw[B5];erw[e1,hj]
   have VT:=gQ.mp n2 _ (fO hz);simp only[fb,gc]at VT;let((h1,h2),h3):=VT;have DV:(O[j]?).join=some v:=by simpa using xE
   have hσ:O[j]? =some (some v):=by cases q:O[j]? with |none=>rw[q]at DV;cases DV |some o=>
    rw[q]at DV;have:o=some v:=by simpa using DV
    rw[this]
   let(m,hm,hl):=I.loc;let(u,r,l):=hl j x v h1 hσ (.inr (.inl h3));erw[u,r,?_];rcases l with⟨k,_⟩|⟨_,c,hc,sI⟩
   ·rw[h3]at k;cases k
   ·let(c',lM):=c2 (x,.free) (lookup_mem h2) rfl
    have:=c1 x c' lM;rw[hc]at this;cases this;erw[.inr #[.inl (SW a7B h3 h2),c,lM,?_]];let(ob,ho,hd):=sI;erw[ob,hk _ _ ho,hd]
 ·let(v,ob,ho,hd):=I.cell x c (c1 x c e)
  erw[v,ob,hk _ _ ho,hd]
 ·have Dk:p∈X.pn++pins:=by simpa[fZ]using hp
  let(a1,a2,a3,a4,a5):=I.pin p Dk;erw[hk _ _ a1,a2,dI (bX a1),λz=>?_,a5];rcases bI.mp (US p.1 z)with e|e
  ·erw[a3 e]
  ·erw[a4 e]
 ·show(js.map _).length=N.length
  rw[bV,hlen]
end
theorem VP{prog:af}{w:World}{A:ah}{R:Result->ae->Prop}{s:ae}{elt target iter:Expr}{ifs:List Expr}{scope:Scope}{pos:Pos}{it acc:Value}{env:Env}(I:Nat->ae->Prop) (turn:∀n s,I n s->wpAny (model prog w) A (pyNext it) (λr s₁=>match r with |none=>R (.ok .next) s₁ |some v=>wpAny (model prog w) A (letOwnedTupleGo target it v) (λ_ s₁=>wpAny (model prog w) A (assign target env v) (λ_ s₂=>wpAny (model prog w) A (forIn ifs true λc r=>if r=true then do let ok<-isTrue c env (eval c env);pure (ForInStep.yield ok)else pure (ForInStep.yield r)) (λok s₃=>if ok=true then wpAny (model prog w) A (eval elt env) (λx s₄=>wpAny (model prog w) A (call (.builtin "list.append") [acc,x]) (λ_ s₅=>∃m,m<n/\I m s₅) (λ_ _=>False) s₄) (λ_ _=>False) s₃ else∃m,m<n/\I m s₃) (λ_ _=>False) s₂) (λ_ _=>False) s₁) (λ_ _=>False) s₁) (λ_ _=>False) s) (n:Nat)(h:I n s):codeAny (model prog w) A (.compLoop (.ListComp elt [#[target,iter,ifs,0]] scope pos) 0 it acc env) R s:=by erw[codeAny_loop Z I (λn s hI=>?_) n h];show wpAny _ A ((compTurn (.ListComp elt [#[target,iter,ifs,0]] scope pos) 0 it acc env).onRaise (λx=>do noteFrame x env;theTreesLotGoes x)) _ _ s;erw[wpAny_noted ?_];rw[compTurn_list];erw[aJ (AQ (aJ (ju (turn n s hI) (λr s₁ h₁=>?_) λ_ _ h'=>h'.elim)))];cases r with |none=>erw[cg h₁] |some v=>erw[aJ (ju h₁ (λ_ afW h₁=>?_) λ_ _ h'=>h'.elim)];erw[aJ (ju h₁ (λ_ s₂ h₂=>aJ (ju h₂ (λok s₃ h₃=>?_) λ_ _ h'=>h'.elim)) λ_ _ h'=>h'.elim)];cases ok with |false=>erw[cg #[Z,h₃]] |true=>erw[aJ (aJ (ju h₃ (λx s₄ h₄=>aJ (ju h₄ (λ_ s₅ h₅=>cg (cg #[Z,h₅])) λ_ _ h'=>h'.elim)) λ_ _ h'=>h'.elim))]
def M4(X:Cx)(ifs:List Expr)(t:TT):Prop:=∀(pins:List (Addr×Obj))(s:ae)(O:St)(H:Hp)(Q:Bool->Hp->Prop),Inv X pins O H s->t O H Q->wpAny (model X.prog X.w) X.A (forIn ifs true λc r=>if r=true then do let ok<-isTrue c X.env (eval c X.env);pure (ForInStep.yield ok)else pure (ForInStep.yield r)) (TP X pins O Q) X.xe s
def jV:TT:=λ_ H Q=>Q true H
theorem dM:M4 X [] jV:=λ_ _ _ H _ I h=>wpAny_tests_nil #[H,I,h]
def kW(J:It)(g:TG)(tt:TT)(te:TE)(Q:VK)(D:Addr)(O:St)(H:Hp):Prop:=∃W:Nat->Nat->St->Hp->Prop,(∃m,W 0 m O H)/\∀i m σ' H',W i m σ' H'->(J.stop i H'/\Q (.ref D) H')\/(J.go i H'/\∀x H2,J.lA i H' x H2->g x σ' H2 λσ3 H3=>tt σ3 H3 λok H4=>if ok=true then te σ3 H4 λy H5=>∃ys,H5 D=some (.lst ys)/\ys.length<sizeLine/\∃m',m'<m/\W (i+1) m' σ3 (upd H5 D (.lst (ys++[y]))) else∃m',m'<m/\W (i+1) m' σ3 H4)
def Nl(js:List (Option Nat))(wi:TI)(g:TG)(tt:TT)(te:TE):TE:=λO H Q=>wi O H λJ H1=>∀D H2,Nw H1 H2 D (.lst [])->kW J g tt te Q D (stC js O) H2
theorem dS.but{P:af}{w:World}(ok:dS P w H h)(hn:H C=none)(hs:Heap.SameBut C h h'):dS P w H h':=λb ob e=>by
 refine(ok b ob e).pF (λc w' hc q=>(hs.2 c ?_).trans q) (λ_ q=>q) λ_ _ q=>q;rintro rfl;rcases hc with rfl|hc
 ·rw[hn]at e;cases e
 ·rw[hn]at hc;cases hc
set_option maxHeartbeats 1000000 in
theorem fA{X:Cx}{N:List Str}{js:List (Option Nat)}{elt tg iter:Expr}{ifs:List Expr}{scope:Scope}{pos:Pos}{wi:TI}{g:TG}{tt:TT}{te:TE}(hc:X.calm=true)(hN:E6 X N js scope=true)(hS:xJ X scope=true) (hi:PI X tg iter wi)(hg:∀cl s H fp pins,PG (fZ X N scope cl s H fp pins) tg g)(ht:∀cl s H fp pins,M4 (fZ X N scope cl s H fp pins) ifs tt)(he:∀cl s H fp pins,PE (fZ X N scope cl s H fp pins) elt te) (hs:autoParam (∀x,foldedSetIterable iter X.env x=pure x) d8_._auto_1):PE X (.ListComp elt [#[tg,iter,ifs,0]] scope pos) (Nl js wi g tt te):=by
 intro pins s O H Q I h;have nE:=hS;unfold xJ at nE;rw[fb,fb]at nE;let((k1,k2),k3):=nE;have nu:scope.kind= .function:=gc.mp k1;have xn:∀x∈scope.names,x.2= .free->∃c,X.env.cells.lookup x.1=some c:=λx hx e=>by have:=gQ.mp k3 x hx;rw[e]at this;erw[I.ok.has x.1 (.inl (gc.mp this))]
 have sI:∀x∈scope.names,x.2≠ .cell:=λx hx e=>by have:=gQ.mp k3 x hx;rw[e]at this;erw[dX this]
 have JZ:∀x∈scope.names,x.2= .local->scope.names.lookup x.1=some .local:=λx hx e=>by have:=gQ.mp k3 x hx;rw[e]at this;erw[gc.mp this]
 let(cl,Ke,c1,c2):=VS xn;rw[eval_ListComp];erw[wpAny_comprehension_free (use:=none) Z hs Ke nu JZ (aZ (hi pins s O H _ I h) λv s1 h1=>aZ h1 λCP s2 h2=>?_)];let(it,fp,tn,J,H2,e,I2,T,ub,f2,h2):=h2;subst e;have hD:H2 s2.heap.objs.size=none:=I2.bp.fresh (bL _);let(W,(m0,w0),turn):=h2 _ _ (Nw.of hD);erw[ko (wpAny_newFunctionEnv sI (by intro y hy;simp at hy) (λh₁ zQ zK=>?_) nu)];have vg:∀b∈fp,b<s2.heap.objs.size:=λb hb=>by let(o,e,_):=T.obj _ _ ub b hb;erw[bX e]
 have I3:Inv X pins O (upd H2 s2.heap.objs.size (.lst [])) {s2 with heap:=s2.heap.push {cls:=.type "list",dict:=none,data:=.seq ([]:List Value).toArray}}:=I2.SY (its:=[]) (t':=s2.toks) .nil (fT _);generalize A5:s2.heap.push {cls:=.type "list",dict:=none,data:=.seq ([]:List Value).toArray}=h3 at I3 zQ zK;have yI:h3.objs.size=s2.heap.objs.size+1:=by rw[<-A5,qX]
 have JE:∀b o,s2.heap.get? b=some o->h3.get? b=some o:=λb o e=>by rw[<-A5];erw[bZ _ e]
 have f3:∀b∈fp,lT X pins (upd H2 s2.heap.objs.size (.lst [])) b:=λb hb=>#[by rw[aQ (dI (vg b hb))];exact(f2 b hb).1,(f2 b hb).2];have zE:∀b o,h3.get? b=some o->h₁.get? b=some o:=λb o e=>(zK.2 b (dI (bX e))).trans (bZ _ e);have I4:Inv (fZ X N scope cl {s2 with heap:=h3} (upd H2 s2.heap.objs.size (.lst [])) fp pins) [] (stC js O) (upd H2 s2.heap.objs.size (.lst [])) {s2 with heap:=h₁,toks:=s2.toks+([]:List (Str×Value)).length}:=I3.comp (s:={s2 with heap:=h3}) hN hS c1 c2 f3 (λb hb=>by show b<h3.objs.size;rw[yI];erw[MD (vg b hb)]) (by simpa using zQ) zE;have yM:tn 0 h₁:=T.keep _ _ _ ub λb _ o e=>zE b o (JE b o e);have loop:codeAny (model X.prog X.w) X.A (.compLoop (.ListComp elt [#[tg,iter,ifs,0]] scope pos) 0 (.ref it) (.ref s2.heap.objs.size) (compEnvC scope cl h3.objs.size X.env)) (compPost (model X.prog X.w) X.A X.xe none (EP X pins O Q) (.ref s2.heap.objs.size) h3.objs.size) {s2 with heap:=h₁,toks:=s2.toks+([]:List (Str×Value)).length}:=by
  erw[VP (λn s'=>∃i σ' H',Inv (fZ X N scope cl {s2 with heap:=h3} (upd H2 s2.heap.objs.size (.lst [])) fp pins) [] σ' H' s'/\tn i s'.heap/\(∀b∈fp,H' b=none)/\W i n σ' H') ?_ m0 #[0,_,_,I4,yM,λb hb=>(f3 b hb).1,w0]];rintro n s5 ⟨i,σ5,H5,I5,pI,vf,w5⟩;have mK:∀{H':Hp},(∀b∈fp,H' b=none)->∀b∈fp,lT (fZ X N scope cl {s2 with heap:=h3} (upd H2 s2.heap.objs.size (.lst [])) fp pins) [] H' b:=λ{H'} hn b hb=>by
   let(_,q1,q2,q3,q4,q5):=f3 b hb;erw[hn b hb,λz=>?_,I4.ok.qC b hb,.inl hb,λx c e=>q4 x c (c1 x c e),λp hp=>q5 p (by simpa[fZ]using hp)];have cy:b<h3.objs.size:=by rw[yI];erw[MD (vg b hb)]
   erw[dI cy z]
  rcases turn i n σ5 H5 w5 with⟨stop,qn⟩|⟨go,step⟩
  ·erw[aZ (T.done (fZ X N scope cl {s2 with heap:=h3} (upd H2 s2.heap.objs.size (.lst [])) fp pins) rfl rfl rfl hc i [] s5 σ5 H5 _ I5 (mK vf) pI stop) λr s6 #[hr,I6]=>?_]
   subst hr;let(m,hm,_):=I6.loc;erw[m,hm,λh7 Dg=>?_];have u0:Un (fj X.stack) fp (upd H2 s2.heap.objs.size (.lst [])) H5 h3 s6.heap:=I6.au;have ne:∀b o,h3.get? b=some o->b≠h3.objs.size:=λb o e=>dI (bX e);have u:Un (fj X.stack) fp (upd H2 s2.heap.objs.size (.lst [])) H5 h3 h7:=#[λb o e n hb hx=>(Dg.2 b (ne b o e)).trans (u0.keep b o e n hb hx),λb o e n hb hx=>let#[sl,q]:=u0.slot b o e n hb hx;#[sl,(Dg.2 b (ne b o e)).trans q],u0.free,λb o e hx=>let#[o',q]:=u0.there b o e hx;#[o',(Dg.2 b (ne b o e)).trans q],u0.lB,u0.kP,u0.lC];have I7:Inv X pins O H5 {s6 with heap:=h7}:=I3.E9 (s':={s6 with heap:=h7}) (ch:=fp) I6.os u (I6.bp.but I6.free Dg) I6.bare λb hb=>#[(f3 b hb).2.2.2.1,(f3 b hb).2.1,(f3 b hb).2.2.2.2.1,(f3 b hb).2.2.2.2.2];erw[.ref s2.heap.objs.size,H5,I7,Z,qn]
  ·erw[aZ (T.item (fZ X N scope cl {s2 with heap:=h3} (upd H2 s2.heap.objs.size (.lst [])) fp pins) rfl rfl rfl hc i [] s5 σ5 H5 _ I5 (mK vf) pI go) λr s6 #[u,hr,h6]=>?_]
   subst hr;erw[aZ h6 λ_ s7 #[x,H7,I7,r7,y7,pH,KI]=>?_];have Ma:=I7.pinned (mK KI) (T.obj _ _ pH);erw[aZ (hg _ _ _ _ _ _ s7 σ5 H7 x u _ Ma r7 (step x H7 y7)) λ_ s8 #[σ8,H8,I8,q8]=>?_];erw[aZ (ht _ _ _ _ _ _ s8 σ8 H8 _ I8 q8) λok s9 #[H9,I9,q9]=>?_];have again:∀{s':ae}{σ7:St}{H7:Hp},Inv (fZ X N scope cl {s2 with heap:=h3} (upd H2 s2.heap.objs.size (.lst [])) fp pins) ([]++wB fp s7.heap) σ7 H7 s'->(∃m',m'<n/\W (i+1) m' σ7 H7)->∃m,m<n/\∃i σ' H',Inv (fZ X N scope cl {s2 with heap:=h3} (upd H2 s2.heap.objs.size (.lst [])) fp pins) [] σ' H' s'/\tn i s'.heap/\(∀b∈fp,H' b=none)/\W i m σ' H':=λ{s' σ7 H7} J7 n7=>by let(m',hm,w7):=n7;erw[m',hm,i+1,σ7,H7,J7.yB,T.keep _ _ _ pH λb hb o e=>(J7.pin (b,o) (kY _ (kY _ (x8 hb e)))).1,λb hb=>?_,w7];let(o,e,d):=T.obj _ _ pH b hb;exact(J7.pin (b,o) (kY _ (kY _ (x8 hb e)))).2.1
   cases ok with |false=>rw[bj dX]at q9⊢;erw[again I9 q9] |true=>rw[bo rfl]at q9⊢;erw[aZ (he _ _ _ _ _ _ s9 σ8 H9 _ I9 q9) λyv za #[y,pj,Mc,Il,ys,CV,hz,qZ]=>?_];erw[aZ (Jd _ za σ8 pj (.ref s2.heap.objs.size) [y] (.ref s2.heap.objs.size) [yv] (λ_ jb=>∃m',m'<n/\W (i+1) m' σ8 jb) Mc Z (.cons Il .nil) #[_,ys,y,Z,Z,CV,hz,qZ]) λ_ z9 #[v11,jb,Mb,r11,Im]=>?_];erw[again Mb Im]
 erw[codeAny_compStart_list loop (T.self _ 0 _ _ _ yM loop)]
theorem LA:∀{bs:List Bool}{us:List Value},Vals (bs.map V.bl) us->us=bs.map Value.bool |[],_,.nil=>rfl |b::r,_,.cons q t=>by cases(show _=Value.bool b from q);rw[LA t];rfl
section
variable {X:Cx}
theorem acr(hc:X.calm=true):fq X (.builtin "all") (λxs H Q=>∃(l:Addr)(bs:List Bool),xs=[.ref l]/\aD X.K H l (bs.map V.bl)/\Q (.bl (bs.all id)) H):=by
 intro pins s O H xs us Q I r h;let(l,bs,rfl,hl,q):=h;let(u,rfl,ru):=vals1 r;cases(show u=Value.ref l from ru);let(its,rv,pl,hz):=I.list hl;have e:=LA rv;subst e;have gL:=pl.isList;have cy:l<s.heap.objs.size:=by let(_,e,_):=gL;erw[bX e]
 have hh:=I.ok.hd hc;erw[call_all_walk (y6 gL ?_)];erw[s.heap.objs.size,[s.heap.objs.size,l],[s.heap.objs.size],(bs.map Value.bool).toArray.size,_,_,λi=>(bs[i]?).getD true,Z,Walks.list (A:=X.A.in1) hh _ l (dI cy) (bs.map Value.bool).toArray,#[#[_,dD _ Z,Z,Z],gL.push _],λi v s' Q' E' hP hQ=>?_,λh' tk hk=>?_]
 ·have nG:(bs.map Value.bool)[i]? =some v:=by simpa using hP
  rw[cv]at nG;cases e:bs[i]? with |none=>rw[e]at nG;cases nG |some b=>rw[e]at nG;cases nG;simp only[e,Option.getD_some]at hQ;erw[nV hQ]
 ·have e:((List.range (bs.map Value.bool).toArray.size).all λi=>(bs[i]?).getD true)=bs.all id:=by rw[eF,bV];erw[LSm.range_all bs]
  rw[e];erw[.bl _,H,I.kept (LSm.kept_iter hk),Z,q]
theorem acq(hc:X.calm=true):fq X (.builtin "any") (λxs H Q=>∃(l:Addr)(bs:List Bool),xs=[.ref l]/\aD X.K H l (bs.map V.bl)/\Q (.bl (bs.any id)) H):=by
 intro pins s O H xs us Q I r h;let(l,bs,rfl,hl,q):=h;let(u,rfl,ru):=vals1 r;cases(show u=Value.ref l from ru);let(its,rv,pl,hz):=I.list hl;have e:=LA rv;subst e;have gL:=pl.isList;have cy:l<s.heap.objs.size:=by let(_,e,_):=gL;erw[bX e]
 have hh:=I.ok.hd hc;erw[call_any_walk (y6 gL ?_)];erw[s.heap.objs.size,[s.heap.objs.size,l],[s.heap.objs.size],(bs.map Value.bool).toArray.size,_,_,λi=>(bs[i]?).getD false,Z,Walks.list (A:=X.A.in1) hh _ l (dI cy) (bs.map Value.bool).toArray,#[#[_,dD _ Z,Z,Z],gL.push _],λi v s' Q' E' hP hQ=>?_,λh' tk hk=>?_]
 ·have nG:(bs.map Value.bool)[i]? =some v:=by simpa using hP
  rw[cv]at nG;cases e:bs[i]? with |none=>rw[e]at nG;cases nG |some b=>rw[e]at nG;cases nG;simp only[e,Option.getD_some]at hQ;erw[nV hQ]
 ·have e:((List.range (bs.map Value.bool).toArray.size).any λi=>(bs[i]?).getD false)=bs.any id:=by rw[eF,bV];erw[LSm.range_any bs]
  rw[e];erw[.bl _,H,I.kept (LSm.kept_iter hk),Z,q]
end
theorem vm{D:Addr}(n:Nat)(Pv:Nat->St->Hp->Prop)(h0:Pv 0 O H) (hs:∀i O H,i<n->Pv i O H->J.go i H/\∀x H2,J.lA i H x H2->g x O H2 λσ3 H3=>tt σ3 H3 λok H4=>if ok=true then te σ3 H4 λy H5=>∃ys,H5 D=some (.lst ys)/\ys.length<sizeLine/\∃m',m'<n-i/\m'=n-(i+1)/\i+1<=n/\Pv (i+1) σ3 (upd H5 D (.lst (ys++[y]))) else∃m',m'<n-i/\m'=n-(i+1)/\i+1<=n/\Pv (i+1) σ3 H4) (hd:∀O H,Pv n O H->J.stop n H/\Q (.ref D) H): kW J g tt te Q D O H:=by
 erw[λi m O H=>m=n-i/\i<=n/\Pv i O H,#[n,by simp,fT _,h0],?_];rintro i m O H ⟨rfl,hi,p⟩;by_cases cy:i<n
 ·erw[.inr (hs i O H cy p)]
 ·have e:i=n:=by lia
  subst e;erw[.inl (hd O H p)]
section
variable {X:Cx} {tg:Expr}
theorem ixK(K:aa)(h:X.K=K):qM X (λx y H Q=>Ih K x y H Q\/Ig K x y H Q):=by subst h;erw[a6l.or a6k]
inductive af2(K:aa)(x:V)(lo:Option Int)(hi:Option Int)(H:Hp)(Q:VK):Prop |mk (a:_)(xs:_)(h0:x= .ref a)(h1:((aD K H a xs/\∀p H',Nw H H' p (.lst (jK xs lo hi))->Q (.ref p) H')\/ (bc K H a xs/\¬(_H.cx xs.length 0 lo=0/\_H.cx xs.length xs.length hi=xs.length)/\∀p H',Nw H H' p (.tup (jK xs lo hi))->Q (.ref p) H')))
def a1g(K:aa):V->Option Int->Option Int->Hp->VK->Prop:=λx lo hi H Q=>af2 K x lo hi H Q
theorem ug(K:aa)(h:X.K=K):Eg X (a1g K):=by
 subst h;intro pins s O H x v vl vu lo hi sl Q I rx hs pl pu hq;let(a,xs,e,hq):=hq;rcases hq with⟨h1,k⟩|⟨h1,h2,k⟩
 ·erw[ZF pins s O H x v vl vu lo hi sl Q I rx hs pl pu #[a,xs,e,h1,λp hp=>k p _ (.of hp)]]
 ·erw[ZE pins s O H x v vl vu lo hi sl Q I rx hs pl pu #[a,xs,e,h1,h2,λp hp=>k p _ (.of hp)]]
theorem a60(K:aa)(h:X.K=K):fq X (.builtin "len") (λxs H Q=>∃p ys,xs=[.ref p]/\(aD K H p ys\/bc K H p ys)/\Q (.int ys.length) H):=by subst h;erw[acm]
theorem a6t(K:aa)(h:X.K=K):fq X (.builtin "isinstance") (λxs H Q=>Ij K xs H Q\/Ii K xs H Q):=by subst h;erw[aco.or acn]
theorem dQ(K:aa)(h:X.K=K)(hu:X.A.units+64<cLine):cU X (compareOp .Eq) (λx y H Q=>kE (λi j=>.bl (decide (i=j))) x y H Q\/Ik K x y H Q):=by subst h;erw[a2r hu]
theorem mW(K:aa)(h:X.K=K)(hu:X.A.units+64<cLine):cU X (compareOp .NotEq) (λx y H Q=>kE (λi j=>.bl (!decide (i=j))) x y H Q\/Ie K x y H Q):=by subst h;erw[a2n hu]
theorem xM(K:aa)(h:X.K=K)(hc:X.calm=true):fq X (.builtin "all") (λxs H Q=>∃(l:Addr)(bs:List Bool),xs=[.ref l]/\aD K H l (bs.map V.bl)/\Q (.bl (bs.all id)) H):=by subst h;erw[acr hc]
theorem acS(K:aa)(h:X.K=K)(hc:X.calm=true):fq X (.builtin "any") (λxs H Q=>∃(l:Addr)(bs:List Bool),xs=[.ref l]/\aD K H l (bs.map V.bl)/\Q (.bl (bs.any id)) H):=by subst h;erw[acq hc]
theorem Jr(K:aa)(h:X.K=K):fq X (.type "list") (λxs H Q=>∃p ys,xs=[.ref p]/\(aD K H p ys\/bc K H p ys)/\∀l H',Nw H H' l (.lst ys)->Q (.ref l) H'):=by subst h;intro pins s O H xs us Q I r hq;let(p,ys,e,h1,k):=hq;erw[acj pins s O H xs us Q I r #[p,ys,e,h1,λl hl=>k l _ (.of hl)]]
theorem kB(K:aa)(h:X.K=K):fq X (.type "tuple") (λxs H Q=>∃p ys,xs=[.ref p]/\((aD K H p ys/\∀l H',Nw H H' l (.tup ys)->Q (.ref l) H')\/(bc K H p ys/\Q (.ref p) H))):=by subst h;intro pins s O H xs us Q I r hq;let(p,ys,e,h1):=hq;erw[ace pins s O H xs us Q I r #[p,ys,e,h1.imp (λ#[a,k]=>#[a,λl hl=>k l _ (.of hl)]) id]]
def YE(t:TA):TE:=λO H Q=>t O H λxs H1=>xs.length<=sizeLine/\∀p H',Nw H1 H' p (.tup xs)->Q (.ref p) H'
def YU(t:TA):TE:=λO H Q=>t O H λxs H1=>xs.length<=sizeLine/\∀p H',Nw H1 H' p (.lst xs)->Q (.ref p) H'
theorem ip{t:TA}{x1}(h:PA X es t):PE X (.Tuple es x1 pos) (YE t):=by intro pins s O H Q I hq;erw[wpAny_Tuple_spliced (aZ (h pos pins s O H _ I hq) λus s1 #[xs,H1,I1,r,z,q]=>#[by rw[<-r.length];erw[z],?_])];have hf:H1 s1.heap.objs.size=none:=I1.bp.fresh (bL _);erw[.ref s1.heap.objs.size,upd H1 s1.heap.objs.size (.tup xs),I1.laid (t':=s1.toks) (λb u e=>bZ _ e) (bL _) ?_,Z,q _ _ (.of hf)];erw[z,us,r,#[_,dD _ Z,Z,_,Z]]
theorem fc{t:TA}(h:PA X es t):PE X (.List es pos) (YU t):=by intro pins s O H Q I hq;erw[wpAny_List_spliced (aZ (h pos pins s O H _ I hq) λus s1 #[xs,H1,I1,r,z,q]=>#[by rw[<-r.length];erw[z],?_])];have hf:H1 s1.heap.objs.size=none:=I1.bp.fresh (bL _);erw[.ref s1.heap.objs.size,upd H1 s1.heap.objs.size (.lst xs),I1.laid (t':=s1.toks) (λb u e=>bZ _ e) (bL _) ?_,Z,q _ _ (.of hf)];erw[z,us,0,r,dD _ Z]
theorem oo(K:aa)(h:X.K=K){l:Expr}{tl:TE}(hl:PE X l tl):PI X tg l (TY K tl):=by subst h;erw[a1J hl]
theorem kH(K:aa)(h:X.K=K){l:Expr}{tl:TE}(hl:PE X l tl):PI X tg l (TX K tl):=by subst h;erw[a1G hl]
theorem eM(K:aa)(h:X.K=K){es:List Expr}{k:Nat}{t:p7}{n:Nat}{pos:Pos}(hc:X.calm=true)(hg:AI X es t)(hn:autoParam ((assignEach es X.env).length=n) r8_._auto_1)(gp:autoParam ((assignEach es X.env).findIdx? (·.1)=none) r8_._auto_1): PG X (.Tuple es k pos) (Ad K n t):=by subst h;erw[a1K hc hg hn gp]
theorem ou(K:aa)(h:X.K=K){o e:Expr}{to:TE}{t:TA}{apos bW:Pos}(ho:PE X o to)(ha:PA X [e] t) (iT:autoParam (attributeBase o "append" X.env (eval o X.env)=eval o X.env) r8_._auto_1) (iS:autoParam (((backTo bW (starEach [e] X.env)).all (λx=>!x.1)&&(backToKw bW (keywordEach [] X.env)).all (λx=>x.1.isSome) &&decide ([e].length+([]:List Keyword).length+(if([]:List Keyword).isEmpty then 0 else 1)<30))=true) r8_._auto_1) (iR:autoParam ((apos.endLine==bW.line)=true) r8_._auto_1)(hs:autoParam (starEach [e] X.env=(false,eval e X.env)::starEach [] X.env) r8_._auto_1)(iQ:autoParam ((backTo bW (starEach [] X.env)).any (·.1)=false) r8_._auto_1): PE X (.Call (.Attribute o "append" apos) [e] [] bW) (rA K "list" Rp to t):=by subst h;erw[uB PySem.F.plainAttrs_list PySem.F.slot_list_append PySem.F.type_list_append Jd ho ha iT iS iR hs iQ]
theorem vT{j:Nat}{x:V}{O:St}{H:Hp}{A B:St->Hp->Prop}(h:A (O.set j (some x)) H):gr j x O H λσ3 H3=>jV σ3 H3 λok H4=>if ok=true then A σ3 H4 else B σ3 H4:=by show if true=true then A (O.set j (some x)) H else B (O.set j (some x)) H;rw[bo rfl];erw[h]
theorem yes(h:Q true H):jV O H Q:=h
end
theorem aD.go{K:aa}(s:aE H H')(h:aD K H a xs):aD K H' a xs:=h.imp (λr=>r.imp (s _ _) λ#[o,e]=>#[o,s _ _ e]) id
theorem bc.go{K:aa}(s:aE H H')(h:bc K H a xs):bc K H' a xs:=h.imp (λr=>r.imp (s _ _) λ#[o,e]=>#[o,s _ _ e]) id
mutual
theorem RD.mono{K:aa}{H H':Hp}(s:aE H H'):∀{x:V}(d:ag),RD K H x d->RD K H' x d |x,.none,h=>by simpa[RD]using h |x,.bool b,h=>by simpa[RD]using h |x,.int i,h=>by simpa[RD]using h |x,.str y,h=>by simpa[RD]using h |x,.list ds,h=>by rw[RD]at h⊢;let(a,xs,e,h1,h2):=h;erw[a,xs,e,h1.go s,aO.mono s ds h2] |x,.tuple ds,h=>by rw[RD]at h⊢;let(a,xs,e,h1,h2):=h;erw[a,xs,e,h1.go s,aO.mono s ds h2] |x,.dict _,h=>by simp[RD]at h
theorem aO.mono {K:aa}{H H':Hp}(s:aE H H'):∀{xs:List V}(ds:List ag),aO K H xs ds->aO K H' xs ds |xs,[],h=>by simpa[aO]using h |xs,d::ds,h=>by rw[aO]at h⊢;let(y,ys,e,h1,h2):=h;erw[y,ys,e,RD.mono s d h1,aO.mono s ds h2]
end
section
variable {K:aa} {H H':Hp}
theorem aO.nil_inv(h:aO K H xs []):xs=[]:=by simpa[aO]using h
theorem aO.cons_inv{d:ag}(h:aO K H xs (d::ds)):∃y ys,xs=y::ys/\RD K H y d/\aO K H ys ds:=by rw[aO]at h;erw[h]
theorem RD.cS(h:RD K H x (.tuple ds)):∃a xs,x= .ref a/\bc K H a xs/\aO K H xs ds:=by rw[RD]at h;erw[h]
theorem RD.lst_inv(h:RD K H x (.list ds)):∃a xs,x= .ref a/\aD K H a xs/\aO K H xs ds:=by rw[RD]at h;erw[h]
theorem RD.int_inv(h:RD K H x (.int i)):x= .int i:=by rw[RD]at h;erw[h]
theorem RD.acB(h:RD K H x (.bool i)):x= .bl i:=by rw[RD]at h;erw[h]
theorem RD.str_inv(h:RD K H x (.str i)):x= .str i:=by rw[RD]at h;erw[h]
theorem RD.IZ(h:RD K H x .none):x= .bD:=by rw[RD]at h;erw[h]
theorem aO.length:∀{xs:List V}{ds:List ag},aO K H xs ds->xs.length=ds.length |xs,[],h=>by rw[h.nil_inv];rfl |xs,d::ds,h=>by let(y,ys,rfl,_,h2):=h.cons_inv;rw[gy,gy,aO.length h2]
theorem aO.append:∀{xs ys:List V}{ds es:List ag},aO K H xs ds->aO K H ys es->aO K H (xs++ys) (ds++es) |xs,ys,[],es,h,g=>by rw[h.nil_inv];erw[g] |xs,ys,d::ds,es,h,g=>by let(y,zs,rfl,h1,h2):=h.cons_inv;erw[cO h1 (aO.append h2 g)]
theorem aO.take:∀(n:Nat){xs:List V}{ds:List ag},aO K H xs ds->aO K H (xs.take n) (ds.take n) |0,xs,ds,h=>by rw[List.take_zero,List.take_zero];erw[dJ] |n+1,xs,[],h=>by rw[h.nil_inv];erw[dJ] |n+1,xs,d::ds,h=>by let(y,zs,rfl,h1,h2):=h.cons_inv;erw[cO h1 (aO.take n h2)]
theorem aO.get:∀(n:Nat){xs:List V}{ds:List ag}{d:ag},aO K H xs ds->ds[n]? =some d->∃x,xs[n]? =some x/\RD K H x d
 |n,xs,[],d,h,e=>by simp at e |0,xs,d'::ds,d,h,e=>by
  let(y,zs,rfl,h1,h2):=h.cons_inv;have e':d'=d:=by simpa using e
  subst e';erw[y,Z,h1] |n+1,xs,d'::ds,d,h,e=>by let(y,zs,rfl,h1,h2):=h.cons_inv;erw[aO.get n h2 (by simpa using e)]
theorem aO.get'(n:Nat){xs:List V}{ds:List ag}{x:V}(h:aO K H xs ds)(e:xs[n]? =some x):∃d,ds[n]? =some d/\RD K H x d:=by
 have hl:n<ds.length:=by rw[<-h.length];exact(dW.mp e).1
 let(y,e1,r):=h.get n (cE hl);rw[e]at e1;cases e1;erw[_,cE hl,r]
def mJ:ag->String | .none=>"NoneType" | .bool _=>"bool" | .int _=>"int" | .str _=>"str" | .list _=>"list" | .tuple _=>"tuple" | .dict _=>"dict"
theorem RD.ty{x:V}:∀{d:ag},RD K H x d->vt K H x (mJ d) | .none,h=>by rw[h.IZ];rfl | .bool b,h=>by rw[h.acB];rfl | .int b,h=>by rw[h.int_inv];rfl | .str b,h=>by rw[h.str_inv];rfl | .list ds,h=>by let(a,xs,rfl,h1,_):=h.lst_inv;erw[.inl #[Z,xs,h1]] | .tuple ds,h=>by let(a,xs,rfl,h1,_):=h.cS;erw[.inr #[Z,xs,h1]] | .dict _,h=>by simp[RD]at h
structure dB(n:Nat)(d:ag):Prop where
 lay:d.canLay0=true
 dep:d.depth<=n
def iH(n:Nat)(ds:List ag):Prop:=∀d∈ds,dB n d
theorem dB.le{n:Nat}{d:ag}(h:dB n d)(l:n<=m):dB m d:=#[h.lay,jf h.dep l]
theorem wK{n:Nat}:∀{ds:List ag},iH n ds↔(PyData.canLayAll0 ds=true/\PyData.depthAll ds<=n)
 |[]=>#[λ_=>#[Z,fT _],λ_ _ h=>nomatch h] |d::ds=>by
  have ih:=wK (n:=n) (ds:=ds);simp only[PyData.canLayAll0,PyData.depthAll,fb];constructor
  ·intro h
   have h1:=h d (.head _);have h2:=ih.mp λx hx=>h x (.tail _ hx);erw[#[h1.lay,h2.1],Nat.max_le.mpr #[h1.dep,h2.2]]
  ·rintro⟨⟨a,b⟩,c⟩ x hx
   have c':=Nat.max_le.mp c;rcases bI.mp hx with rfl|hx
   ·erw[a,c'.1]
   ·erw[ih.mpr #[b,c'.2] x hx]
theorem iH.tup{n:Nat}(h:iH n ds):dB (n+1) (.tuple ds):=#[by simpa[PyData.canLay0]using(wK.mp h).1,by simpa[PyData.depth]using(wK.mp h).2]
theorem iH.lst{n:Nat}{ds:List ag}(h:iH n ds):dB (n+1) (.list ds):=#[by simpa[PyData.canLay0]using(wK.mp h).1,by simpa[PyData.depth]using(wK.mp h).2]
theorem dB.cS{n:Nat}(h:dB (n+1) (.tuple ds)):iH n ds:=wK.mpr #[by simpa[PyData.canLay0]using h.lay,by simpa[PyData.depth]using h.dep]
theorem dB.int{n:Nat}(i:Int):dB n (.int i):=#[Z,fT _]
theorem dB.bD{n:Nat}:dB n .none:=#[Z,fT _]
theorem iH.nil{n:Nat}:iH n []:=λ_ h=>nomatch h
theorem iH.cons{n:Nat}{d:ag}{ds:List ag}(h:dB n d)(g:iH n ds):iH n (d::ds):=λx hx=>by
 rcases bI.mp hx with rfl|hx
 ·erw[h]
 ·erw[g x hx]
theorem dB.shaped{n:Nat}{d:ag}(h:dB n d)(l:n<=64):SeqAt.shaped d=true:=by unfold SeqAt.shaped;rw[h.lay,jv];erw[bM (jf h.dep l)]
theorem dB.refl{n:Nat}{d:ag}(h:dB n d):PyData.eqv d d=true:=eqv_refl d h.lay
variable {p:Addr}{n m:Nat}{v:V}{vs:List V}{d:ag}{ds es:List ag}
end
section
variable {X:Cx}
end
end _L
namespace _H
open PySem PySem.Spec PyProof.Rows
section
variable {prog:af}{w:World}{A:ah}{E:Value->ae->Prop}{s:ae}
end
end _H
namespace _L
open PySem PySem.Spec PyProof.Rows
section
variable {X:Cx}
end
end _L
namespace _L
theorem cN{v:α}(h0:0<=i)(h:xs[i.toNat]? =some v):fk xs i=some v:=by have hl:i.toNat<xs.length:=(dW.mp h).1;unfold fk kM;rw[bo h0,bo ao];erw[h]
end _L
namespace _L
open PySem PySem.Spec PyProof.Rows
theorem Fz(n:Nat)(h:n<=1000):n<=sizeLine:=jf h aw
section
variable {X:Cx}{p pos pos':Pos}{a b e:Expr}{es:List Expr}{ta tb te:TE}{t:TA}{x:Str}
theorem px(K:aa)(ha:PE X a ta)(hb:PE X b tb)(hK:autoParam (X.K=K) r8_._auto_1)(hp:autoParam (WD b) d8_._auto_1):PE X (.Subscript a b pos) (yH (λx y H Q=>Ih K x y H Q\/Ig K x y H Q) ta tb):=IA (ixK K hK) ha hb hp
theorem ow(K:aa)(B:bK X.mg)(ha:PA X (e::es) t)(hK:autoParam (X.K=K) r8_._auto_1)(hg:autoParam (Gl X "isinstance") r8_._auto_1)(he:autoParam (starEach (e::es) X.env=(false,eval e X.env)::starEach es X.env) r8_._auto_1)(eg:autoParam ((backTo pos (starEach es X.env)).any (·.1)=false) r8_._auto_1):PE X (.Call (.Name "isinstance" p) (e::es) [] pos) (BB (λxs H Q=>Ij K xs H Q\/Ii K xs H Q) t):=fg (a6t K hK) hg (B.at "isinstance") PyProof.Rows.boot_isinstance ha aw aw he eg
theorem dZ(K:aa)(B:bK X.mg)(ha:PA X (e::es) t)(hK:autoParam (X.K=K) r8_._auto_1)(hg:autoParam (Gl X "len") r8_._auto_1)(he:autoParam (starEach (e::es) X.env=(false,eval e X.env)::starEach es X.env) r8_._auto_1)(eg:autoParam ((backTo pos (starEach es X.env)).any (·.1)=false) r8_._auto_1):PE X (.Call (.Name "len" p) (e::es) [] pos) (BB (λxs H Q=>∃p ys,xs=[.ref p]/\(aD K H p ys\/bc K H p ys)/\Q (.int ys.length) H) t):=fg (a60 K hK) hg (B.at "len") PySem.boot_len ha aw aw he eg
theorem pS(i:Nat)(hN:X.N.Nodup)(he:PE X e te)(hi:autoParam (X.N[i]? =some x) r8_._auto_1)(hx:autoParam (Loc X.env.scope x) d8_._auto_1)(hs:autoParam (swapsWith e (some (.Name x pos')) pos.line X.env=pure false) r8_._auto_1)(hf:autoParam (X.fn x=true\/X.env.scope.names.lookup x=some .local) d8_._auto_1):PS X (.Assign [.Name x pos'] e pos) (BD te (gr i)):=a1u hN hi hx he hs hf
theorem bh(i:Nat)(hN:X.N.Nodup)(hi:autoParam (X.N[i]? =some x) r8_._auto_1)(hx:autoParam (Loc X.env.scope x) d8_._auto_1)(hf:autoParam (X.fn x=true\/X.env.scope.names.lookup x=some .local) d8_._auto_1):PG X (.Name x pos) (gr i):=a1L hN hi hx hf
theorem jk (a:Str):[a].Nodup:=by simp
theorem gj{a b:Str}(h:(a==b)=false):[a,b].Nodup:=by
 have:a≠b:=λz=>by rw[z,Ml]at h;cases h
 simp[this]
theorem cW{n:Nat}(h:Nat.ble n 1000=true):n<=sizeLine:=Fz n (Ez h)
end
def GV(mg:bO)(x:Str)(v:V):Prop:=∃u,mg x=some u/\RelV v u
def GT(K:aa)(mg:bO)(x:Str)(vs:List V):Prop:=∃a,GV mg x (.ref a)/\∀H,bc K H a vs
theorem fz{v:V}(hg:Gl X x)(h:GV X.mg x v)(hd:autoParam ((x==("__debug__":Str))=false) q8_._auto_1):PE X (.Name x pos) (tC v):=by let(u,hm,r):=h;erw[a1T hg hm r hd]
section
variable {K:aa} {mg:bO} {h:Heap}
theorem kN{t:Tok}(X:K.In h)(G:h.Ns mainGlobals mg)(a:PySem.W.nsIn K mainGlobals x=some (some (.int i t))):GV mg x (.int i):=#[_,yg X G a,t,Z]
theorem Kz{b:Addr}{n:Nat}(X:K.In h)(G:h.Ns mainGlobals mg)(a:PySem.W.nsIn K mainGlobals x=some (some (.ref b))) (l:K.lookup b=some #[.type "tuple",od,.seq its n,fV])(hz:its.size<=sizeLine)(r:Vals vs its.toList):GT K mg x vs:=#[b,#[_,yg X G a,Z],λH=>.inr #[_,its,n,l,Z,Z,hz,r]]
end
section
variable {X:Cx}
theorem a4D(K:aa)(h:X.K=K):cU X (compareOp .NotIn) (Rm K true):=by subst h;erw[a2k]
end
theorem VO{xs:List V}{bs:List Bool}{D:Addr}(rest:St)(nw:Nw H H0 D (.lst []))(hl:xs.length=bs.length)(hz:xs.length<=1000) (go:∀i x H2,xs[i]? =some x->aE H H2->J.go i H2/\∀y H3,J.lA i H2 y H3->H3=H2/\y=x)(stop:∀H2,aE H H2->J.stop xs.length H2) (hs:∀(i:Nat)(x:V)(b:Bool)(H2:Hp)(Q':VK),xs[i]? =some x->bs[i]? =some b->aE H H2->(∀H3,aE H2 H3->Q' (.bl b) H3)->te (some x::rest) H2 Q') (hq:∀H',aE H H'->H' D=some (.lst (bs.map V.bl))->Q (.ref D) H'):kW J (gr 0) jV te Q D (none::rest) H0:=by
 have hD:=nw.no;erw[vm xs.length (λi O H2=>aE H H2/\H2 D=some (.lst ((bs.take i).map V.bl))/\∃v,O=v::rest) ?_ ?_ ?_]
 ·erw[nw.same,nw.at',none,Z]
 ·rintro i O H2 hi ⟨s2,d2,v,rfl⟩
  have Dn:i<bs.length:=by rw[<-hl];erw[hi]
  have ex:=cE hi;have eb:=cE Dn;let(g1,g2):=go i _ H2 ex s2;erw[g1,λy H3 hy=>?_];let(rfl,rfl):=g2 y H3 hy;erw[vT ?_];erw[hs i _ _ _ _ ex eb s2 λH4 s4=>?_];erw[_,s4 _ _ d2,?_,xs.length-(i+1),ao,Z,ao,λb o e=>?_,?_,_,Z]
  ·rw[bV,vN]
   have:(1000:Nat)<sizeLine:=by decide
   lia
  ·rw[aQ (iO e hD)];erw[s4 b o (s2 b o e)]
  ·rw[bP,tQ,eb,lj];rfl
 ·rintro O H2 ⟨s2,d2,v,rfl⟩
  erw[stop H2 s2,hq H2 s2 ?_];rw[d2,hl,yk]
theorem E5{K:aa}{bs:List Bool}{D:Addr}(rest:St)(hx:bc K H a xs)(nw:Nw H H0 D (.lst []))(hl:xs.length=bs.length)(hz:xs.length<=1000) (hs:∀(i:Nat)(x:V)(b:Bool)(H2:Hp)(Q':VK),xs[i]? =some x->bs[i]? =some b->aE H H2->(∀H3,aE H2 H3->Q' (.bl b) H3)->te (some x::rest) H2 Q') (hq:∀H',aE H H'->H' D=some (.lst (bs.map V.bl))->Q (.ref D) H'):kW (AM K a) (gr 0) jV te Q D (none::rest) H0:=VO rest nw hl hz (λi x H2 e s=>#[#[xs,x,hx.go s,e],λy H3 #[e3,y3]=>#[e3,by have:=y3 _ (hx.go s);rw[e]at this;exact(dU this).symm]]) (λH2 s=>#[xs,hx.go s,bL _]) hs hq
theorem CH{ds:List ag}{f:ag->Bool}{i:Nat}{b:Bool}(h:(ds.map f)[i]? =some b):∃d,ds[i]? =some d/\f d=b:=by rw[cv]at h;cases e:ds[i]? with |none=>rw[e]at h;cases h |some d=>rw[e]at h;erw[d,Z,dU h]
theorem all_map{ds:List ag}{f:ag->Bool}:(ds.map f).all id=ds.all f:=by rw[List.all_map];rfl
section
variable {X:Cx}
inductive afl(K:aa)(x:V)(y:V)(H:Hp)(Q:VK):Prop |mk (a:_)(b:_)(xs:_)(ys:_)(h0:x= .ref a)(h1:y= .ref b)(h2:aD K H a xs)(h3:aD K H b ys)(h4:xs.length+ys.length<=sizeLine)(h5:∀p H',Nw H H' p (.lst (xs++ys))->Q (.ref p) H')
def a1o(K:aa):R2:=λx y H Q=>afl K x y H Q
theorem E7(K:aa)(hK:X.K=K):cU X (binaryOp .Add) (a1o K):=by
 subst hK;intro pins s O H x y v u Q I rx ry h;let(a,b,xs,ys,rfl,rfl,ha,hb,hz,q):=h;cases rx;cases ry;let(its,r1,p1,_):=I.list ha;let(lK,r2,p2,_):=I.list hb;let((cls,dd,data,sl),n,ho,hc,hdd,hd):=id p1;let((VR,xH,data2,sl2),n2,mr,gM,agB,hd2):=id p2;simp only at hc hd gM hd2;subst hc hd gM hd2;have e:its.toArray++lK.toArray=(its++lK).toArray:=by simp
 erw[concat_meets #[_,ho,Z] #[_,mr,Z] noFill_list_add seq_list_add PySem.F.slot_list_add PySem.F.entry_list_add (PySem.F.args_list_add_2 _ _) (list_addW a b its.toArray lK.toArray n n2 dd xH sl sl2 (by rw[eF,eF,<-r1.length,<-r2.length];erw[hz])) #[ho,mr,?_]];rw[e];have nw:Nw H (upd H s.heap.objs.size (.lst (xs++ys))) s.heap.objs.size (.lst (xs++ys)):=.of (I.bp.fresh (bL _));erw[.ref s.heap.objs.size,_,I.laid (t':=s.toks) (o:=.lst (xs++ys)) (λb ob q=>bZ _ q) (bL _) ?_,Z,q _ _ nw];erw[by rw[eP];erw[hz],_,0,r1.append r2,dD _ Z]
open Classical in
noncomputable def vj(h:Heap)(d:ag)(w:Value):Bool:=if q:∃e as,Reads h w e as then PyData.eqv q.choose d else false
theorem abo{h:Heap}{d e:ag}{w:Value}{as:List Addr}(r:Reads h w e as):vj h d w=PyData.eqv e d:=by have q:∃e as,Reads h w e as:=#[e,as,r];unfold vj;rw[dif_pos q];let(as',r'):=q.choose_spec;rw[(Reads.unique r' e as r).1]
theorem V6{pins:List (Addr×Obj)}{s:ae}{O:St}{H:Hp}(I:Inv X pins O H s)(hu:X.A.units+65<cLine){x:V}{u:Value}{d:ag}(rx:RelV x u)(hd:RD X.K H x d)(sd:SeqAt.shaped d=true): ∀{xs:List V}{us:List Value}{ds:List ag},Vals xs us->aO X.K H xs ds->(∀e∈ds,SeqAt.shaped e=true)->(∀w∈us,SeqAt.EqAt X.A.in1 s w u (vj s.heap d w))/\us.any (vj s.heap d)=ds.any λe=>PyData.eqv e d |xs,us,[],rv,h,_=>by cases h.nil_inv;cases rv;erw[λ_ h=>(ck h).elim,Z] |xs,us,e::ds,rv,h,se=>by let(y,ys,rfl,h1,h2):=h.cons_inv;cases rv with |cons ra rb=>
 rename_i w ws;let(as,q1):=RD.reads I e ra h1;let(bs,q2):=RD.reads I d rx hd;have key:SeqAt.EqAt X.A.in1 s w u (PyData.eqv e d):=SeqAt.eqAt_reads e d X.A.in1 s w u as bs q1 q2 (SeqAt.canLay_of_shaped (se e (.head _))) (SeqAt.canLay_of_shaped sd) (SeqAt.room_of_shaped (se e (.head _)) (by show X.A.units+1+64<cLine;omega));let(k1,k2):=V6 I hu rx hd sd rb h2 (λe' he=>se e' (.tail _ he));have ew:vj s.heap d w=PyData.eqv e d:=abo q1;erw[λz hz=>?_,?_]
 ·rcases bI.mp hz with rfl|hz
  ·rw[ew];erw[key]
  ·erw[k1 z hz]
 ·rw[qV,qV,ew,k2]
end
end _L
namespace _L
theorem cI.Y7{k:Nat}{A:PySem.Around}(r:cI k A):A.units+65<PySem.cLine:=by have:=r.un;lia
end _L
namespace _L
open PySem PySem.Spec PyProof.Rows
def mG(b:Bool)(h:Heap)(it l:Addr)(k:Nat):Prop:=match b with|true=>h.IsListIter it l k|false=>h.IsTupleIter it l k
def jr(b:Bool)(h:Heap)(l:Addr)(xs:Array Value):Prop:=match b with|true=>h.IsList l xs|false=>h.IsTuple l xs
def As(b:Bool):String:=match b with|true=>"list_iterator"|false=>"tuple_iterator"
theorem mG.to{b:Bool}{it l:Addr}{k:Nat}(x:mG b h it l k)(e:∀o,h.get? it=some o->g.get? it=some o):mG b g it l k:=by cases b<;>(let(o,ho,r):=x;erw[o,e o ho,r])
theorem jr.to{b:Bool}{l:Addr}(x:jr b h l xs)(e:∀o,h.get? l=some o->g.get? l=some o):jr b g l xs:=by cases b<;>(let(o,ho,r):=x;erw[o,e o ho,r])
theorem mG.ob{b:Bool}{it l:Addr}{k:Nat}(x:mG b h it l k):∃o,h.get? it=some o/\o.cls= .type (As b)/\∀v,o.data≠ .cell v:=by cases b<;>(let(o,ho,c,d):=x;erw[o,ho,c,λv z=>by rw[d]at z;cases z])
section
variable {prog:af}{w:World}{A:ah}{E:Value->ae->Prop}{s:ae}
theorem So{b:Bool}{l:Addr}{xs:Array Value}{Q:Value->ae->Prop}(x:jr b s.heap l xs) (q:Q (.ref s.heap.objs.size) {s with heap:=s.heap.push {cls:=.type (As b),data:=.fields (List.toArray [.ref l,.int 0 0])}}):wpAny (model prog w) A (pyIter (.ref l)) Q E s:=by
 cases b
 ·erw[wpAny_pyIter_tuple x q]
 ·erw[y6 x q]
theorem a4g{it t:Addr}{k:Nat}{ts:Array Value}{x:Value}{Q:Value->ae->Prop}(hi:s.heap.IsTupleIter it t k)(ht:s.heap.IsTuple t ts)(hx:ts[k]? =some x) (q:∀g,g.IsTupleIter it t (k+1)->Heap.SameBut it s.heap g->Q x {s with heap:=g}):wpAny (model prog w) A (Builtin.SmallTypes.nextOf (.ref it)) Q E s:=by let(oi,mq,ci,di):=id hi;let(ot,JV,_,nt,dt):=ht;unfold Builtin.SmallTypes.nextOf;erw[aJ (yb (name:=Str.ofString "__next__") hi.typeIs Mw (y9 Mw hi.typeIs afK ?_ (afL _)))];show wpAny _ _ (field (.ref it) 0>>=_) _ _ s;erw[aJ (ie mq di (x:=.ref t) Z ?_)];show wpAny _ _ (if(Value.ref t==Value.none)=true then _ else _) _ _ s;rw[bj (show¬((Value.ref t==Value.none)=true)from dX)];show wpAny _ _ (field (.ref it) 1>>=_) _ _ s;erw[aJ (ie mq di (x:=.int k 0) Z ?_)];show wpAny _ _ (seqItems? (.ref t)>>=_) _ _ s;erw[aJ (tG JV dt ?_)];simp only[MK,hx];erw[aJ (xY mq di (by simp) (cg #[x,Z,cg (q _ ?_ (EG ..))]))];erw[_,EF _ mq (MB (AY di _)),(Obj.cls_mapFields ..).trans ci,by rw[AY di];simp[rawInt]]
theorem aby{it t:Addr}{k:Nat}{ts:Array Value}{Q:Value->ae->Prop}(hh:A.handled=none)(hi:s.heap.IsTupleIter it t k)(ht:s.heap.IsTuple t ts)(hx:ts[k]? =none) (q:∀g e,Heap.ExtBut it s.heap g->(∃o,g.get? e=some o/\o.cls= .type "StopIteration")->E (.ref e) {s with heap:=g}):wpAny (model prog w) A (Builtin.SmallTypes.nextOf (.ref it)) Q E s:=by
 let(oi,mq,ci,di):=id hi;let(ot,JV,_,nt,dt):=ht;unfold Builtin.SmallTypes.nextOf;erw[aJ (yb (name:=Str.ofString "__next__") hi.typeIs Mw (y9 Mw hi.typeIs afK ?_ (afL _)))];show wpAny _ _ (field (.ref it) 0>>=_) _ _ s;erw[aJ (ie mq di (x:=.ref t) Z ?_)];show wpAny _ _ (if(Value.ref t==Value.none)=true then _ else _) _ _ s;rw[bj (show¬((Value.ref t==Value.none)=true)from dX)];show wpAny _ _ (field (.ref it) 1>>=_) _ _ s;erw[aJ (ie mq di (x:=.int k 0) Z ?_)];show wpAny _ _ (seqItems? (.ref t)>>=_) _ _ s;erw[aJ (tG JV dt ?_)];simp only[MK,hx];erw[aJ (xZ (aJ (xY mq di (by simp) ?_)))];show wpAny _ _ (newExc (.type "StopIteration") []>>=_) _ _ _;erw[aJ ?_];simp only[newExc,newTuple];erw[aJ (ko ?_ (by size_fits))];erw[aJ (m:=firstArgMember _ _) (tH (a:=Value.none) (by first|rfl|(simp only[firstArgMember];rfl)) ?_)];erw[ko ?_ (by size_fits)];simp only[raiseNew];erw[aJ (wpAny_handled ?_)]
 first|rw[show A.in1.handled=none from hh]|rw[hh]
 erw[aJ (cg (wpAny_throw (q _ _ (((EG ..).extBut.push _).push _) #[_,dD _ Z,Z])))]
theorem IW{b:Bool}{it l:Addr}{k:Nat}{xs:Array Value}{x:Value}{Q:Value->ae->Prop}(hi:mG b s.heap it l k)(hl:jr b s.heap l xs)(hx:xs[k]? =some x) (q:∀g,mG b g it l (k+1)->Heap.SameBut it s.heap g->Q x {s with heap:=g}):wpAny (model prog w) A (Builtin.SmallTypes.nextOf (.ref it)) Q E s:=by
 cases b
 ·erw[a4g hi hl hx q]
 ·erw[wpAny_nextOf_list_item hi hl hx q]
theorem Vd{b:Bool}{it l:Addr}{k:Nat}{xs:Array Value}{Q:Value->ae->Prop}(hh:A.handled=none)(hi:mG b s.heap it l k)(hl:jr b s.heap l xs)(hx:xs[k]? =none) (q:∀g e,Heap.ExtBut it s.heap g->(∃o,g.get? e=some o/\o.cls= .type "StopIteration")->E (.ref e) {s with heap:=g}):wpAny (model prog w) A (Builtin.SmallTypes.nextOf (.ref it)) Q E s:=by
 cases b
 ·erw[aby hh hi hl hx q]
 ·erw[wpAny_nextOf_list_end hh hi hl hx q]
structure Zp(b1 b2:Bool)(h:Heap)(z TI TO i1 i2 l1 l2:Addr)(f0:Value)(k:Nat):Prop where
 zz:IsZip h z TI TO f0
 ti:IsPair h TI (.ref i1) (.ref i2)
 to:∃a b,IsPair h TO a b
 n1:mG b1 h i1 l1 k
 n2:mG b2 h i2 l2 k
theorem RQ{z TI TO:Addr}{Q:Bool->ae->Prop}(hz:IsZip s.heap z TI TO .none)(q:Q true s):wpAny (model prog w) A (Builtin.SmallTypes.ownedTupleIsFree (.ref z)) Q E s:=by unfold Builtin.SmallTypes.ownedTupleIsFree;erw[aJ (ie hz Z (x:=.none) Z (cg q))]
theorem Xx{b1 b2:Bool}{z TI TO i1 i2 l1 l2:Addr}{k:Nat}{xs ys:Array Value}{x y:Value}{Q:Value->ae->Prop}(D:ZipApart z TI TO i1 i2 l1 l2)(ah1:Zp b1 b2 s.heap z TI TO i1 i2 l1 l2 .none k) (nk:jr b1 s.heap l1 xs)(mx:jr b2 s.heap l2 ys)(hx:xs[k]? =some x)(hy:ys[k]? =some y) (q:∀g,Zp b1 b2 g z TI TO i1 i2 l1 l2 (rawInt s.heap.objs.size) (k+1)->IsPair g s.heap.objs.size x y->(∀c o,c≠z->c≠TO->c≠i1->c≠i2->s.heap.get? c=some o->g.get? c=some o)->Q (.ref s.heap.objs.size) {s with heap:=g}): wpAny (model prog w) A (Builtin.«zip.__next__» #[[.ref z],[]]) (λr s'=>∃v,r= .done (.ret v)/\Q v s') E s:=by
 let(hz,mz,(a,b,nC),h1,h2):=ah1;show wpAny _ _ (field (.ref z) 2>>=_) _ _ _;erw[aJ (ie hz Z (x:=.bool false) Z ?_)];show wpAny _ _ (field (.ref z) 3>>=_) _ _ _;erw[aJ (ie hz Z (x:=.ref TI) Z (aJ (tG mz Z ?_)))];show wpAny _ _ (Builtin.SmallTypes.ownedTupleIsFree (.ref z)>>=_) _ _ _;erw[aJ (RQ hz ?_)];simp only[if_true];erw[aJ (xZ (aJ (ie hz Z (x:=.ref TO) Z (aJ (AR hz (by simp) λg1 z1 e1=>?_)))))];replace z1:IsZip g1 z TI TO .ellipsis:=z1;erw[aJ ?_];simp only[List.zipIdx_cons,List.zipIdx_nil,MH,List.forIn_nil];erw[aJ (aJ (wpAny_onRaise ?_))];show wpAny _ _ (Builtin.SmallTypes.nextOf (.ref i1)>>=_) _ _ _;erw[aJ (IW (h1.to λo e=>e1.extBut _ _ D.i1z e) (nk.to λo e=>e1.extBut _ _ D.l1z e) hx λg2 n1 e2=>cg ?_)];have t2:IsPair g2 TO a b:=e2.extBut _ _ D.TOi1 (e1.extBut _ _ D.TOz nC);erw[aJ (tG t2 Z (aJ (WN t2 λg3 t3 e3=>?_)))];replace t3:IsPair g3 TO x b:=t3;erw[aJ (wpAny_letGo (cg ?_))];erw[aJ (aJ (wpAny_onRaise ?_))];show wpAny _ _ (Builtin.SmallTypes.nextOf (.ref i2)>>=_) _ _ _;erw[aJ (IW (h2.to λo e=>e3.extBut _ _ D.TOi2.symm (e2.extBut _ _ D.i12.symm (e1.extBut _ _ D.i2z e))) (mx.to λo e=>e3.extBut _ _ D.l2TO (e2.extBut _ _ D.l2i1 (e1.extBut _ _ D.l2z e))) hy λg4 n2 e4=>cg ?_)];have t4:IsPair g4 TO x b:=e4.extBut _ _ D.TOi2 t3;erw[aJ (tG t4 Z (aJ (WN t4 λg5 t5 e5=>?_)))];replace t5:IsPair g5 TO x y:=t5;erw[aJ (wpAny_letGo (cg (cg ?_)))];erw[aJ (tG t5 Z (aJ (wpAny_newTuple ?_)))];have sz:g5.objs.size=s.heap.objs.size:=by rw[e5.1,e4.1,e3.1,e2.1,e1.1]
 have z5:IsZip g5 z TI TO .ellipsis:=e5.extBut _ _ D.TOz.symm (e4.extBut _ _ D.i2z.symm (e3.extBut _ _ D.TOz.symm (e2.extBut _ _ D.i1z.symm z1)));have kp:∀c o,c≠z->c≠TO->c≠i1->c≠i2->s.heap.get? c=some o->g5.get? c=some o:=λc o c1 c2 c3 c4 e=>e5.extBut _ _ c2 (e4.extBut _ _ c4 (e3.extBut _ _ c2 (e2.extBut _ _ c3 (e1.extBut _ _ c1 e))));have m1:mG b1 g5 i1 l1 (k+1):=n1.to λo e=>e5.extBut _ _ D.TOi1.symm (e4.extBut _ _ D.i12 (e3.extBut _ _ D.TOi1.symm e));have m2:mG b2 g5 i2 l2 (k+1):=n2.to λo e=>e5.extBut _ _ D.TOi2.symm e;have EK:z<g5.objs.size:=bX z5;show wpAny _ _ (Builtin.SmallTypes.ownedTupleHandOut (.ref z) (.ref g5.objs.size)>>=_) _ _ _;erw[aJ ?_];unfold Builtin.SmallTypes.ownedTupleHandOut;have z6:IsZip (g5.push {cls:=.type "tuple",data:=.seq (List.toArray [x,y])}) z TI TO .ellipsis:=bZ _ z5;erw[aJ (AR z6 (by simp) λg7 z7 e7=>?_)];replace z7:IsZip g7 z TI TO (rawInt g5.objs.size):=z7;erw[AR z7 (by simp) λg8 z8 e8=>?_];replace z8:IsZip g8 z TI TO (rawInt g5.objs.size):=z8;have up:∀c o,c≠z->g5.get? c=some o->g8.get? c=some o:=λc o c1 e=>e8.extBut _ _ c1 (e7.extBut _ _ c1 (bZ _ e));have t8:IsPair g8 g5.objs.size x y:=e8.extBut _ _ (tP EK) (e7.extBut _ _ (tP EK) (dD _ Z));rw[sz]at z8 t8;erw[cg #[_,Z,?_]];show Q (.ref g5.objs.size) _;rw[sz];erw[q g8 #[z8,up _ _ D.TIz (kp _ _ D.TIz D.TITO D.TIi1 D.TIi2 mz),#[_,_,up _ _ D.TOz t5],m1.to λo e=>up _ o D.i1z e,m2.to λo e=>up _ o D.i2z e] t8 λc o c1 c2 c3 c4 e=>up c o c1 (kp c o c1 c2 c3 c4 e)]
theorem Xy{b1 b2:Bool}{z TI TO i1 i2 l1 l2:Addr}{k:Nat}{xs ys:Array Value}{Q:Fin->ae->Prop}(hh:A.handled=none)(D:ZipApart z TI TO i1 i2 l1 l2)(ah1:Zp b1 b2 s.heap z TI TO i1 i2 l1 l2 .none k) (nk:jr b1 s.heap l1 xs)(mx:jr b2 s.heap l2 ys)(ny:xs[k]? =none\/ys[k]? =none) (q:∀g e,(∀c o,c≠z->c≠TO->c≠i1->c≠i2->s.heap.get? c=some o->g.get? c=some o)->(∃o,g.get? e=some o/\o.cls= .type "StopIteration")->E (.ref e) {s with heap:=g}): wpAny (model prog w) A (Builtin.«zip.__next__» #[[.ref z],[]]) Q E s:=by let(hz,mz,(a,b,nC),h1,h2):=ah1;show wpAny _ _ (field (.ref z) 2>>=_) _ _ _;erw[aJ (ie hz Z (x:=.bool false) Z ?_)];show wpAny _ _ (field (.ref z) 3>>=_) _ _ _;erw[aJ (ie hz Z (x:=.ref TI) Z (aJ (tG mz Z ?_)))];show wpAny _ _ (Builtin.SmallTypes.ownedTupleIsFree (.ref z)>>=_) _ _ _;erw[aJ (RQ hz ?_)];simp only[if_true];erw[aJ (xZ (aJ (ie hz Z (x:=.ref TO) Z (aJ (AR hz (by simp) λg1 z1 e1=>?_)))))];replace z1:IsZip g1 z TI TO .ellipsis:=z1;erw[aJ ?_];simp only[List.zipIdx_cons,List.zipIdx_nil,MH,List.forIn_nil];erw[aJ (aJ (wpAny_onRaise ?_))];show wpAny _ _ (Builtin.SmallTypes.nextOf (.ref i1)>>=_) _ _ _;have j1:=h1.to λo e=>e1.extBut _ _ D.i1z e;have k1:=nk.to λo e=>e1.extBut _ _ D.l1z e;cases hx:xs[k]? with
 |none=>
  erw[aJ (Vd hh j1 k1 hx λg2 er e2 #[oe,oT,zZ]=>?_)];have z2:IsZip g2 z TI TO .ellipsis:=e2 _ _ D.i1z.symm z1;have nz:er≠z:=λv=>by subst v;rw[z2]at oT;cases oT;simp at zZ
  erw[AR z2 (by simp) λg3 _ e3=>q g3 er (λc o c1 _ c3 _ v=>e3.extBut _ _ c1 (e2 _ _ c3 (e1.extBut _ _ c1 v))) #[oe,e3.extBut _ _ nz oT,zZ]] |some x=>
  have hy:ys[k]? =none:=by rcases ny with h|h;rw[hx]at h;cases h;erw[h]
  erw[aJ (IW j1 k1 hx λg2 n1 e2=>cg ?_)];have t2:IsPair g2 TO a b:=e2.extBut _ _ D.TOi1 (e1.extBut _ _ D.TOz nC);erw[aJ (tG t2 Z (aJ (WN t2 λg3 t3 e3=>?_)))];erw[aJ (wpAny_letGo (cg ?_))];erw[aJ (aJ (wpAny_onRaise ?_))];show wpAny _ _ (Builtin.SmallTypes.nextOf (.ref i2)>>=_) _ _ _;erw[aJ (Vd hh (h2.to λo e=>e3.extBut _ _ D.TOi2.symm (e2.extBut _ _ D.i12.symm (e1.extBut _ _ D.i2z e))) (mx.to λo e=>e3.extBut _ _ D.l2TO (e2.extBut _ _ D.l2i1 (e1.extBut _ _ D.l2z e))) hy λg4 er e4 #[oe,oT,zZ]=>?_)];have z4:IsZip g4 z TI TO .ellipsis:=e4 _ _ D.i2z.symm (e3.extBut _ _ D.TOz.symm (e2.extBut _ _ D.i1z.symm z1));have nz:er≠z:=λv=>by subst v;rw[z4]at oT;cases oT;simp at zZ
  erw[AR z4 (by simp) λg5 _ e5=>q g5 er (λc o c1 c2 c3 c4 v=>e5.extBut _ _ c1 (e4 _ _ c4 (e3.extBut _ _ c2 (e2.extBut _ _ c3 (e1.extBut _ _ c1 v))))) #[oe,e5.extBut _ _ nz oT,zZ]]
abbrev Bg(b1:Bool)(h:Heap)(l1:Addr):Heap:=h.push {cls:=.type (As b1),data:=.fields (List.toArray [.ref l1,.int 0 0])}
abbrev Bf(b1 b2:Bool)(h:Heap)(l1 l2:Addr):Heap:=(Bg b1 h l1).push {cls:=.type (As b2),data:=.fields (List.toArray [.ref l2,.int 0 0])}
abbrev Be(b1 b2:Bool)(h:Heap)(l1 l2:Addr):Heap:=(Bf b1 b2 h l1 l2).push {cls:=.type "tuple",data:=.seq (List.toArray [.ref h.objs.size,.ref (Bg b1 h l1).objs.size])}
abbrev Bc(b1 b2:Bool)(h:Heap)(l1 l2:Addr):Heap:=(Be b1 b2 h l1 l2).push {cls:=.type "tuple",data:=.seq (List.toArray [.none,.none])}
abbrev vS(b1 b2:Bool)(h:Heap)(l1 l2:Addr):Heap:=(Bc b1 b2 h l1 l2).push {cls:=.type "zip",data:=.fields (List.toArray [.none,.bool false,.bool false,.ref (Bf b1 b2 h l1 l2).objs.size,.ref (Be b1 b2 h l1 l2).objs.size])}
theorem Xw(b1 b2:Bool)(l1 l2:Addr)(xs ys:Array Value):Meets (Builtin.«zip.__new__» #[[.type "zip",.ref l1,.ref l2],[]]) (λ_ R s=>jr b1 s.heap l1 xs/\jr b2 s.heap l2 ys/\R (.ok (.ret (.ref (Bc b1 b2 s.heap l1 l2).objs.size))) {s with heap:=vS b1 b2 s.heap l1 l2}):=.of_wp λprog w A R s h=>by
 let(hp,gg,d,tk,os):=s;let(nk,mx,h):=h;have Ue:=sub_zip;have hL1:jr b1 (Shared.heap #[hp,gg,d,tk,os]) l1 xs:=nk;have Kt:jr b2 (Shared.heap #[hp.push {cls:=.type (As b1),data:=.fields (List.toArray [.ref l1,.int 0 0])},gg,d,tk,os]) l2 ys:=mx.to λo e=>bZ _ e
 wp_walk using So hL1,So Kt;erw[_,Z,h]
theorem Xz{b1 b2:Bool}{l1 l2:Addr}{xs ys:Array Value}{Q:Value->ae->Prop}(nk:jr b1 s.heap l1 xs)(mx:jr b2 s.heap l2 ys) (q:∀g,Zp b1 b2 g (s.heap.objs.size+4) (s.heap.objs.size+2) (s.heap.objs.size+3) s.heap.objs.size (s.heap.objs.size+1) l1 l2 .none 0->(∀c o,s.heap.get? c=some o->g.get? c=some o)->Q (.ref (s.heap.objs.size+4)) {s with heap:=g}): wpAny (model prog w) A (call (.type "zip") [.ref l1,.ref l2]) Q E s:=by
 erw[callType_new PySem.F.called_zip aw (PySem.F.typeCall_zip_2 _ _) (PySem.F.newCall_zip_2 _ _) (λobj=>PySem.F.args_object_init_3 obj _ _) PySem.F.entry_zip_new (Xw b1 b2 l1 l2 xs ys) #[nk,mx,?_]];have z1:(Bg b1 s.heap l1).objs.size=s.heap.objs.size+1:=qX ..;have z2:(Bf b1 b2 s.heap l1 l2).objs.size=s.heap.objs.size+2:=by rw[qX,z1]
 have z3:(Be b1 b2 s.heap l1 l2).objs.size=s.heap.objs.size+3:=by rw[qX,z2]
 have z4:(Bc b1 b2 s.heap l1 l2).objs.size=s.heap.objs.size+4:=by rw[qX,z3]
 have g5:(vS b1 b2 s.heap l1 l2).get? (Bc b1 b2 s.heap l1 l2).objs.size=some _:=dD _ rfl;have g4:(vS b1 b2 s.heap l1 l2).get? (Be b1 b2 s.heap l1 l2).objs.size=some _:=bZ _ (dD _ Z);have g3:(vS b1 b2 s.heap l1 l2).get? (Bf b1 b2 s.heap l1 l2).objs.size=some _:=bZ _ (bZ _ (dD _ Z));have g2:(vS b1 b2 s.heap l1 l2).get? (Bg b1 s.heap l1).objs.size=some _:=bZ _ (bZ _ (bZ _ (dD _ Z)));have g1:(vS b1 b2 s.heap l1 l2).get? s.heap.objs.size=some _:=bZ _ (bZ _ (bZ _ (bZ _ (dD _ Z))));show _/\_;rw[z2,z3,z4]at g5;rw[z1,z2]at g3;rw[z3]at g4;rw[z1]at g2;rw[z4];erw[#[_,g5,Z],q _ #[g5,g3,#[_,_,g4],?_,?_] λc o e=>bZ _ (bZ _ (bZ _ (bZ _ (bZ _ e))))]
 ·cases b1<;>erw[_,g1,rfl,rfl]
 ·cases b2<;>erw[_,g2,rfl,rfl]
end
section
variable {X:Cx}{pins:List (Addr×Obj)}{O:St}{H:Hp}{s:ae}{h':Heap}
theorem Inv.EV{t':Nat}{fp:List Addr}(I:Inv X pins O H s)(k:∀b o,b∉fp->s.heap.get? b=some o->h'.get? b=some o)(hf:∀b∈fp,lT X pins H b):Inv X pins O H {s with heap:=h',toks:=t'}:=by
 have zw:∀b u,H b=some u->b∉fp:=λb u e z=>by rw[(hf b z).1]at e;cases e
 have hL:X.env.locals∉fp:=λz=>(hf _ z).2.1 rfl;erw[I.step (g':=s.gens) (d':=s.drawn) (ch:=fp) (λb hb=>?_) (λb o _ _ hc e _=>k b o hc e) (λb o _ _ hc e _=>#[o.slots,k b o hc e]) (λ_ _ _ _ n=>n) (λb o hc e=>#[o,k b o hc e]) (λ_ _ e=>e) (λ_ _ _ e=>e) (λb ps e=>#[#[],by rw[e];simp]) (λm hm=>?_) (λb u e=>?_) I.bare]
 ·let(f0,f1,f2,f3,f4,f5):=hf b hb
  erw[f3,f1,f4,f5]
 ·let(o,es,ep,ho,r):=hm
  erw[o,es,ep,k _ o hL ho,r]
 ·refine(I.bp b u e).pF (λc v hc q=>k c v ?_ q) (λ_ q=>q) λ_ _ q=>q
  rcases hc with z|z
  ·rw[z];erw[zw b u e]
  ·erw[zw c _ z]
end
def g6(b:Bool)(K:aa)(H:Hp)(a:Addr)(xs:List V):Prop:=match b with|true=>aD K H a xs|false=>bc K H a xs
theorem g6.get{X:Cx}{pins:List (Addr×Obj)}{O:St}{H:Hp}{s:ae}{b:Bool}{a:Addr}{xs:List V}(I:Inv X pins O H s)(h:g6 b X.K H a xs):∃its:List Value,Vals xs its/\jr b s.heap a its.toArray:=by
 cases b
 ·let(its,r,p,_):=I.tuple h;erw[its,r,p]
 ·let(its,r,p,_):=I.list h;erw[its,r,p.isList]
theorem g6.inj{X:Cx}{pins:List (Addr×Obj)}{O:St}{H:Hp}{s:ae}{b:Bool}{a:Addr}{xs ys:List V}(I:Inv X pins O H s)(h:g6 b X.K H a xs)(g:g6 b X.K H a ys):xs=ys:=by
 cases b
 ·erw[I.N5 h g]
 ·erw[I.T8 h g]
def tD(K:aa)(b1 b2:Bool)(l1 l2:Addr):It:=#[λi H=>∃xs ys x y,g6 b1 K H l1 xs/\g6 b2 K H l2 ys/\xs[i]? =some x/\ys[i]? =some y,λi H v H'=>∃T x y,v= .ref T/\(∀xs,g6 b1 K H l1 xs->xs[i]? =some x)/\(∀ys,g6 b2 K H l2 ys->ys[i]? =some y)/\Nw H H' T (.tup [x,y]),λi H=>∃xs ys,g6 b1 K H l1 xs/\g6 b2 K H l2 ys/\(xs.length<=i\/ys.length<=i)]
theorem Yd{P:af}{w:World}{K:aa}{elts:List Expr}{kt:Nat}{pos:Pos}{b1 b2:Bool}{z TI TO i1 i2 l1 l2:Addr}(D:ZipApart z TI TO i1 i2 l1 l2): Turn P w K (.Tuple elts kt pos) (tD K b1 b2 l1 l2) [z,TI,TO,i1,i2] z (λi h=>Zp b1 b2 h z TI TO i1 i2 l1 l2 .none i) where
 mem:=by simp
 obj:=λi h st b hb=>by
  let(hz,mz,(a,c,nC),h1,h2):=st;simp only[bI,ck,cJ]at hb;rcases hb with rfl|rfl|rfl|rfl|rfl
  ·erw[_,hz,λv e=>by cases e]
  ·erw[_,mz,λv e=>by cases e]
  ·erw[_,nC,λv e=>by cases e]
  ·let(o,e,_,n):=h1.ob;erw[o,e,n]
  ·let(o,e,_,n):=h2.ob;erw[o,e,n]
 keep:=λi h h' st k=>by let(hz,mz,(a,c,nC),h1,h2):=st;erw[k z (by simp) _ hz,k TI (by simp) _ mz,#[a,c,k TO (by simp) _ nC],h1.to λo e=>k i1 (by simp) o e,h2.to λo e=>k i2 (by simp) o e]
 item:=by
  intro X hP hw hK hc i pins s O H E I hf st hg;subst hP hw hK;let(xs,ys,x,y,q1,q2,e1,e2):=hg;let(Tx,r1,p1):=q1.get I;let(lK,r2,p2):=q2.get I;let(u1,lL,uk):=r1.get e1;let(u2,hu2,zc):=r2.get e2;have hT:s.TypeIs (.ref z) "zip":=#[_,st.zz,Z];unfold pyNext;erw[aJ (wpAny_attempt (yb (name:=Str.ofString "__next__") hT Mu (y9 Mu hT PySem.F.entry_zip_next (Xx D st p1 p2 (x:=u1) (y:=u2) (by simpa using lL) (by simpa using hu2) λg zg tg kp=>cg ?_) (PySem.F.args_zip_next_1 _))))];erw[_,Z,?_];erw[wpAny_letOwnedTupleGo_zip zg.zz λg' Xv sb=>?_];have hs:=sb.extBut;have EK:z<s.heap.objs.size:=bX st.zz;have nw:Nw H (upd H s.heap.objs.size (.tup [x,y])) s.heap.objs.size (.tup [x,y]):=.of (I.bp.fresh (bL _));have I1:Inv X pins O (upd H s.heap.objs.size (.tup [x,y])) {s with heap:=s.heap.push {cls:=.type "tuple",data:=.seq (List.toArray [u1,u2])}}:=I.laid (t':=s.toks) (λb ob q=>bZ _ q) (bL _) #[by show 2<=sizeLine;decide,[u1,u2],.cons uk (.cons zc .nil),#[_,dD _ Z,Z,_,Z]];have lts:∀b∈[z,TI,TO,i1,i2],b<s.heap.objs.size:=λb hb=>by
   simp only[bI,ck,cJ]at hb;let(hz,mz,(a,c,nC),h1,h2):=st;rcases hb with rfl|rfl|rfl|rfl|rfl
   ·erw[bX hz]
   ·erw[bX mz]
   ·erw[bX nC]
   ·let(o,e,_):=h1.ob;erw[bX e]
   ·let(o,e,_):=h2.ob;erw[bX e]
  have hn:∀b∈[z,TI,TO,i1,i2],upd H s.heap.objs.size (.tup [x,y]) b=none:=λb hb=>by rw[aQ (dI (lts b hb))];exact(hf b hb).1
  have I2:Inv X pins O (upd H s.heap.objs.size (.tup [x,y])) {s with heap:=g'}:=Inv.EV (s:={s with heap:=s.heap.push {cls:=.type "tuple",data:=.seq (List.toArray [u1,u2])}}) (t':=s.toks) (fp:=[z,TI,TO,i1,i2]) I1 (λb o hb e=>by
   have e:(s.heap.push {cls:=.type "tuple",data:=.seq (List.toArray [u1,u2])}).get? b=some o:=e;have nz:b≠z:=λq=>hb (by simp[q]);rcases Heap.get?_push_cases e with⟨hbT,rfl⟩|e'
   ·subst hbT
    erw[hs _ _ nz tg]
   ·erw[hs _ _ nz (kp b o nz (λq=>hb (by simp[q])) (λq=>hb (by simp[q])) (λq=>hb (by simp[q])) e')]) (λb hb=>by let(f0,f1,f2,f3,f4,f5):=hf b hb;erw[hn b hb,f1,f2,f3,f4,f5]);erw[.ref s.heap.objs.size,_,I2,Z,#[s.heap.objs.size,x,y,Z,λzs hz=>?_,λzs hz=>?_,nw],?_,hn]
  ·rw[g6.inj I hz q1];erw[e1]
  ·rw[g6.inj I hz q2];erw[e2]
  ·let(_,mz,(a,c,nC),h1,h2):=zg
   erw[Xv,hs _ _ D.TIz mz,#[a,c,hs _ _ D.TOz nC],h1.to λo e=>hs _ o D.i1z e,h2.to λo e=>hs _ o D.i2z e]
 done:=by intro X hP hw hK hc i pins s O H E I hf st hg;subst hP hw hK;let(xs,ys,q1,q2,ny):=hg;let(Tx,r1,p1):=q1.get I;let(lK,r2,p2):=q2.get I;have hT:s.TypeIs (.ref z) "zip":=#[_,st.zz,Z];have l1:=r1.length;have l2:=r2.length;unfold pyNext;erw[aJ (wpAny_attempt (yb (name:=Str.ofString "__next__") hT Mu (y9 Mu hT PySem.F.entry_zip_next (Xy (I.ok.hd hc) D st p1 p2 (ny.imp (λh=>by simp;lia) λh=>by simp;lia) λg e kp he=>?_) (PySem.F.args_zip_next_1 _))))];let(o,ho,xp):=he;erw[aJ (Em (T:="StopIteration") (b:=true) #[o,ho,xp] isSubtype_stop (cg #[Z,?_]))];erw[I.EV (t':=s.toks) (fp:=[z,TI,TO,i1,i2]) (λb o hb e=>kp b o (λq=>hb (by simp[q])) (λq=>hb (by simp[q])) (λq=>hb (by simp[q])) (λq=>hb (by simp[q])) e) hf]
 self:=λ_ _ _ _ _ st h=>wpAny_pyIter_zip st.zz h
inductive afp(K:aa)(b1:Bool)(b2:Bool)(R:It->Hp->Prop)(vs:List V)(H1:Hp):Prop |mk (l1:_)(l2:_)(h0:vs=[.ref l1,.ref l2])(h1:(∃xs,g6 b1 K H1 l1 xs))(h2:(∃ys,g6 b2 K H1 l2 ys))(h3:R (tD K b1 b2 l1 l2) H1)
def a6K(K:aa)(b1 b2:Bool)(ta:TA):TI:=λO H R=>ta O H λvs H1=>afp K b1 b2 R vs H1
theorem m7(K:aa){X:Cx}(hK:X.K=K)(b1 b2:Bool){elts:List Expr}{kt:Nat}{tY:Pos}{a b:Expr}{ta:TA}{p pos:Pos}(hg:Gl X "zip")(hm:X.mg "zip"=none)(ha:PA X [a,b] ta)(hs:autoParam (starEach [a,b] X.env=[(false,eval a X.env),(false,eval b X.env)]) r8_._auto_1)(jm:autoParam (starEach [b] X.env=[(false,eval b X.env)]) r8_._auto_1): PI X (.Tuple elts kt tY) (.Call (.Name "zip" p) [a,b] [] pos) (a6K K b1 b2 ta):=by
 subst hK;intro pins s O H R I h;erw[Call_ (qg I hg hm PyProof.Rows.boot_zip (yi (aZ (ha pos pins s O H _ I h) λus s1 #[vs,H1,I1,r1,q1]=>?_) (by rw[hs,jm]) (by rw[jm];rfl)))];let(l1,l2,e,(xs,h1),(ys,h2),q):=q1;subst e;let(u1,u2,rfl,uk,zc):=vals2 r1;cases(show u1=Value.ref l1 from uk);cases(show u2=Value.ref l2 from zc);let(Tx,v1,p1):=h1.get I1;let(lK,v2,p2):=h2.get I1;have a1:l1<s1.heap.objs.size:=by cases b1<;>(let(o,e,_):=p1;erw[bX e])
 have a2:l2<s1.heap.objs.size:=by cases b2<;>(let(o,e,_):=p2;erw[bX e])
 erw[Xz p1 p2 λg zg kp=>wpAny_pyIter_zip zg.zz ?_];erw[_,_,_,_,H1,Z,I1.kept (t':=s1.toks) kp,Yd (zipApart_new a1 a2),zg,λc hc=>?_,q];have hle:s1.heap.objs.size<=c:=by simp only[bI,ck,cJ]at hc;rcases hc with rfl|rfl|rfl|rfl|rfl<;>first|erw[bL _]|erw[Nat.le_add_right _ _]
 erw[I1.qz hle (I1.bp.fresh hle)]
theorem g6.go{b:Bool}{K:aa}(s:aE H H')(h:g6 b K H a xs):g6 b K H' a xs:=by
 cases b
 ·erw[bc.go s h]
 ·erw[aD.go s h]
theorem ac8{K:aa}{bs:List Bool}{D:Addr}{n:Nat}(rest:St)(hn:n=2)(h1:g6 b1 K H l1 xs)(h2:g6 b2 K H l2 ys)(nw:Nw H H0 D (.lst [])) (hl:min xs.length ys.length=bs.length)(hz:bs.length<=1000) (hs:∀(i:Nat)(x y:V)(b:Bool)(H2:Hp)(Q':VK),xs[i]? =some x->ys[i]? =some y->bs[i]? =some b->aE H H2->(∀H3,aE H2 H3->Q' (.bl b) H3)->te (some x::some y::rest) H2 Q') (hq:∀H',aE H H'->H' D=some (.lst (bs.map V.bl))->Q (.ref D) H'):kW (tD K b1 b2 l1 l2) (Ad K n (ve (gr 0) (ve (gr 1) DD))) jV te Q D (none::none::rest) H0:=by
 subst hn;have hD:=nw.no;erw[vm bs.length (λi O H2=>aE H H2/\H2 D=some (.lst ((bs.take i).map V.bl))/\∃v v',O=v::v'::rest) ?_ ?_ ?_]
 ·erw[nw.same,nw.at',none,none,Z]
 ·rintro i O H2 hi ⟨s2,d2,v,v',rfl⟩
  have hx:i<xs.length:=by lia
  have hy:i<ys.length:=by lia
  have ex:=cE hx;have ey:=cE hy;have eb:=cE hi;erw[#[xs,ys,_,_,h1.go s2,h2.go s2,ex,ey],λy' H3 uS=>?_];let(T,x0,y0,rfl,k1,k2,n3):=uS;have e1:=k1 _ (h1.go s2);have e2:=k2 _ (h2.go s2);rw[ex]at e1;rw[ey]at e2;cases e1;cases e2;erw[T,_,Z,bc.of n3.at',Z,_,_,Z,_,_,Z,Z,?_];erw[yes (bE ?_)];erw[hs i _ _ _ _ _ ex ey eb (s2.trans n3.same) λH4 s4=>?_];erw[_,s4 _ _ (n3.same _ _ d2),?_,bs.length-(i+1),ao,Z,ao,λb o e=>?_,?_,_,_,Z]
  ·rw[bV,vN]
   have:(1000:Nat)<sizeLine:=by decide
   lia
  ·rw[aQ (iO e hD)];erw[s4 b o (n3.same b o (s2 b o e))]
  ·rw[bP,tQ,eb,lj];rfl
 ·rintro O H2 ⟨s2,d2,v,v',rfl⟩
  erw[#[xs,ys,h1.go s2,h2.go s2,ao],hq H2 s2 ?_];rw[d2,yk]
theorem gb.there{P:af}{w:World}(x:gb P w H h a o):∃ob,h.get? a=some ob:=by induction o with |lst xs=>let(_,_,_,_,e):=x;erw[_,e] |tup xs=>let(_,_,_,ob,e,_):=x;erw[ob,e] |dK aM=>let(_,_,_,_,ob,_,_,e,_):=x;erw[ob,e] |dT aM=>let(_,_,_,_,ob,_,_,e,_):=x;erw[ob,e] |set S n=>let(ob,_,_,_,e,_):=x;erw[ob,e] |ins C dx fs=>let(_,_,_,e,_):=x;erw[_,e] |own y=>erw[x] |xd fs=>let(_,(ob,_,_,e,_),_):=x;erw[ob,e] |uq lo hi=>let(_,_,_,e):=x;erw[_,e] |nH ob u=>erw[_,x.1] |pC ps=>erw[_,x] |met f y=>erw[_,x] |ext φ=>erw[x.2.1]
structure Fl(P:af)(w:World)(outer:List Env)(H:Hp)(h₁:Heap)(ex:Addr)(H':Hp)(B h:Heap):Prop where
 un:Un (fj outer) [] H H' h₁ h
 bp:dS P w H' h
 k1:∀b o,h₁.get? b=some o->H b=none->b∉fj outer->B.get? b=some o
 k2:∀b o,H' b=some o->∃ob,B.get? b=some ob
 k3:∀b o,h₁.get? b=some o->b∉fj outer->∃ob,B.get? b=some ob
 fr:∀b∈fj outer,H' b=none
 nw:h₁.get? ex=none
 ne:H' ex=none
theorem Fl.step{P:af}{w:World}{ex:Addr}{au:Heap}(F:Fl P w outer H h₁ ex H' B h)(st:B.StaysIn h)(ig:B.StaysIn h')(up:h.UpToSlots h')(ff:h.FunFrames au outer):Fl P w outer H h₁ ex H' B h':=by
 have slot:∀b o,h₁.get? b=some o->H b=none->b∈fj outer->∃sl,h'.get? b=some {o with slots:=sl}:=λb o e n hb=>by let(sl,e1):=F.un.slot b o e n hb (by simp);let(_,o2,e2,hd):=ff.mem hb;rw[e1]at e2;cases e2;let(FD,e3):=up b _ e1 (λvs=>hd vs);erw[FD,e3]
 erw[#[λb o e n hb _=>ig b o (F.k1 b o e n hb),λb o e n hb _=>slot b o e n hb,F.un.free,λb o e hx=>?_,F.un.lB,F.un.kP,F.un.lC],λb u e=>?_,F.k1,F.k2,F.k3,F.fr,F.nw,F.ne]
 ·by_cases hb:b∈fj outer
  ·let(_,o2,e2,hd):=ff.mem hb
   let(sl,e3):=up b o2 e2 hd;erw[_,e3]
  ·let(ob,e1):=F.k3 b o e hb
   erw[ob,ig b ob e1]
 ·refine(F.bp b u e).pF (λc v hc q=>?_) (λ_ q=>q) λ_ _ q=>q
  have inB:∃ob,B.get? c=some ob:=by
   rcases hc with z|z
   ·rw[z];erw[F.k2 b u e]
   ·erw[F.k2 c _ z]
  let(ob,e1):=inB;have e2:=st c ob e1;rw[q]at e2;cases e2;erw[ig c _ e1]
section
variable {P:af}{w:World}{K:aa}{mg:bO}{au:Heap}{N:List Str}{qual:Str}{scope:Scope}{f:Addr}{cd:Value}{A:ah}{outer:List Env}{s:ae}{H:Hp}{E:XK}{pins:List (Addr×Obj)}{O:St}{H1:Hp}{s1:ae}{h2:Heap}{ex:Addr}{cls:Value}{vs:List Value}
end
structure Exc(K:aa)(mg:bO)(x:Str)(C:Addr)(nQ:List Value)(newId:String):Prop where
 at':mg x=some (.ref C)
 ok:PySem.W.excIn K C nQ newId=true
theorem Exc.own{K:aa}{mg:bO}(e:Exc K mg x C nQ newId)(X:K.In h):OwnCls x C nQ newId mg h:=by
 erw[e.at',?_];have q:=e.ok;unfold PySem.W.excIn at q;split at q
 ·rename_i dd cd sl ho
  split at q
  ·rename_i D2 bl a0 a1 a2 a3 nn a5 hm hs
   simp only[gc,fb,yy]at q;let(((((r1,r2),Us),ht),bp),Dl):=q;subst r1 r2;let(c1,c2,c3,c4,c5,c6,c7,c8,c9,c10,c11):=cd;dsimp only at hm Us bp Dl;subst hm Us;obtain⟨l⟩:=sl;simp only at hs;subst hs;erw[bl,c4,c1,c5,c2,c6,c7,c8,c9,c10,dd,a0,a1,a2,a3,a5,_,X _ _ ho,.of_isNs (PySem.W.isNs_of_in X bp),PySem.W.nsMap_none_of_in X bp Dl,PySem.W.tail_of_in X ht]
  ·cases q
 ·cases q
section
variable {X:Cx}{x:Str}{C:Addr}{nQ:List Value}{newId JL B:String}{e:Expr}{t:TA}{np bW pos:Pos}
def YI(E:XK)(cls:Value)(t:TA):TS:=λ_ O H=>t O H λvs H1=>vs.length<=sizeLine/\E cls none H1
theorem Cc(hx:∀pins O H s h2 ex vs,Inv X pins O H s->Heap.MadeExcOf s.heap h2 ex (.ref C) vs->E (.ref C) none H->X.xe (.ref ex) {s with heap:=h2})(EC:Exc X.K X.mg x C nQ newId)(FB:ExcBaseFacts B newId JL nQ)(hh:X.A.handled=none)(hg:Gl X x)(ha:PA X [e] t) (he:autoParam (starEach [e] X.env=[(false,eval e X.env)]) r8_._auto_1)(hd:autoParam ((x==("__debug__":Str))=false) q8_._auto_1): PS X (.Raise (some (.Call (.Name x np) [e] [] bW)) none pos) (YI E (.ref C) t):=by intro pins s O H D I h;let(tl,Nn,nm,q,bs,hdct,sn,sub,ab,col,dd,k0,k1,k2,k3,k5,mN,hC,hN,Dl,T):=(EC.own I.ok.mod.lJ).obj;erw[wpAny_Raise_call_subT (C:=C) (nm:=nm) (q:=q) (N:=Nn) (bs:=bs) (bm:=tl) (hdct:=hdct) (sn:=sn) (sub:=sub) (ab:=ab) (col:=col) (dd:=dd) (k0:=k0) (k1:=k1) (k2:=k2) (k3:=k3) (k5:=k5) FB (mN:=mN) (T.hasType FB.hasBase) hh (by rw[he];rfl) Dl (sA I hg EC.at' #[Z,?_] hd)];have hA:=ha bW pins s O H _ I h;rw[he]at hA⊢;erw[MQ (aZ hA λus s2 #[vs,H1,I1,r1,z,w1]=>#[Z,by rw[<-r1.length];erw[z],I1.bk _ _ hC,hN.keeps I1.bk,T.keeps I1.bk,λh' ex hm=>hx pins O H1 s2 h' ex us I1 hm w1])]
end
section
variable {M:Model}{A:ah}{Ex:Value->ae->Prop}
theorem abh{h:Heap}{g:Array GenState}{d:Drawn}{tk:Nat}{os:OsState}{e:Addr}{oe:Obj}{Q:Bool->ae->Prop}{C D N N':Addr}{nm Sk q q':Str}{bs W4 bm LB:List Value}{hdct Uu:Bool}{sn OD:List Str}{sub Nx:List Value}{ab Wx:Bool}{col VQ:Option Bool}{dd p4:Option Addr}{k0 k1 k2 k3 k5 j0 j1 j2 j3 j5:Option Value}{newId a4O:String} (hC:h.get? C=some (excClassObj nm q C N bs bm hdct sn sub ab col dd k0 k1 k2 k3 k5 newId))(hD:h.get? D=some (excClassObj Sk q' D N' W4 LB Uu OD Nx Wx VQ p4 j0 j1 j2 j3 j5 a4O)) (he:h.get? e=some oe)(Kd:oe.cls= .ref C)(hb:LB.contains (.type "BaseException")=true)(hs:(Value.ref C::bm).contains (.ref D)=true) (hq:Q true #[h,g,d,tk,os]):wpAny M A (excMatches (.ref e) (.ref D)) Q Ex #[h,g,d,tk,os]:=by
 have hcB:(Value.ref D::LB).contains (.type "BaseException")=true:=by rw[List.contains_cons,hb,Bool.or_true]
 have f:=tc_notTuple;unfold excMatches
 repeat (first|(with_reducible erw[wpAny_loadPart_at he ?_];rw[Kd])|with_reducible erw[wpAny_loadPart_at hD ?_]|(with_reducible erw[wpAny_isSubtype_exc hD ?_];rw[hcB])|(with_reducible erw[wpAny_isSubtype_exc hC ?_];rw[hs])|with_reducible erw[wpAny_loadPart_at hC ?_]|wp_step)
 erw[hq]
end
section
variable {X:Cx}{k:Nat}{x:Str}{p pos:Pos}{e:Expr}{es:List Expr}{t:TA}{sp:Sp}
end
abbrev Cx.hand(X:Cx)(ex:Addr):Cx:={X with A:=X.A.mark (some (.ref ex)),calm:=false,xe:=λ_ _=>False}
section
variable {X:Cx}{pins:List (Addr×Obj)}{O:St}{H:Hp}{s:ae}
theorem Inv.hand(I:Inv X pins O H s)(ex:Addr):Inv (X.hand ex) pins O H s:=#[#[I.ok.mod,I.ok.kind,I.ok.glob,I.ok.blt,I.ok.above,I.ok.inj,I.ok.has,I.ok.sW,λh=>(dX h).elim,I.ok.frames,I.ok.u9,I.ok.Af,I.ok.bs,I.ok.lP,I.ok.rV,I.ok.qC,I.ok.jG,I.ok.nJ],I.os,I.bare,I.au,I.loc,I.cell,I.free,I.kQ,I.pin,I.bp,I.len]
theorem Inv.back{ex:Addr}(ok:X.Ok)(I:Inv (X.hand ex) pins O H s):Inv X pins O H s:=#[ok,I.os,I.bare,I.au,I.loc,I.cell,I.free,I.kQ,I.pin,I.bp,I.len]
end
def hJ(X:Cx)(st:List Stmt)(t:TS):Prop:=∀(s:ae)(O:St)(H:Hp)(D:Ends),Inv X [] O H s->t D O H->wpAny (model X.prog X.w) X.A (execs st X.env) (SP X [] D) X.xe s
def WG(X:Cx)(st:Stmt)(t:TS):Prop:=∀(s:ae)(O:St)(H:Hp)(D:Ends),Inv X [] O H s->t D O H->wpAny (model X.prog X.w) X.A (exec st X.env) (SP X [] D) X.xe s
theorem Inv.acJ{X:Cx}{pins:List (Addr×Obj)}{O:St}{H:Hp}{s:ae}(I:Inv X pins O H s):Inv X [] O H s:=#[I.ok,I.os,I.bare,I.au,I.loc,I.cell,I.free,I.kQ,λp hp=>I.pin p (MF _ (by simpa using hp)),I.bp,I.len]
theorem a9Q{P:af}{w:World}{K:aa}{mg:bO}{au:Heap}{k:Nat}{f:Addr}{kV:Value}(lk:K.lookup f=some #[oc,od,.func (PySem.W.fnOf name qual params body scope dV kV doc pm an aH ct),fV])(fi:PySem.W.codeIn K aH qual=true)(S:bu N ps scope) (len:∀vs H Q E,sp vs H Q E->vs.length=ps.length) (gq:∀(A:ah)(outer:List Env)(s:ae)(H:Hp)(vs:List V)(Q:VK)(E:XK),cI k (A.deeper (envOfC qual scope s.heap.objs.size f aH))->sp vs H Q E->∃t,hJ (iE CX P w K mg au N qual scope f aH A outer s H E) body t/\t {nx:=λ_ H'=>Q .bD H',rt:=Q} (start N vs) H): eR P w K mg au CX (k+1) f (PySem.W.fnOf name qual params body scope dV kV doc pm an aH ct) ps sp:=by
 erw[len,λA outer s H args us vs Q E hr e0 hb r fS=>?_];have hl:=len _ _ _ _ fS;have KX:K.In s.heap:=e0.mod.lJ.keeps λb o e=>(e0.bs b o e).1;have lim:s.heap.NoLimit:=e0.mod.nolimit.keeps λb o e=>(e0.bs b o e).1;have nu:∀y∈ps.zip us,scope.names.lookup y.1=some .local\/(scope.names.lookup y.1=some .cell/\((cellsFrom (s.heap.objs.size+1) scope.names []).lookup y.1).isSome=true):=λ#[n,v] hy=>by
  rcases S.par n (yl hy).1 with q|q
  ·erw[.inl q]
  ·erw[.inr #[q,Ms _ _ _ (.inl q)]]
 erw[WV hr.depth (KX _ _ lk) Z S.co S.gen Z (X1 KX fi) (hb _ _ _ _ ?_)];erw[WQ S.kind nu λenv he s1 x=>?_];subst he;erw[lim.keeps x.toInCall.keep,codeAny_func ?_];let(t,ht,hq):=gq A outer s H vs Q E (hr.deeper _) fS;have I:Inv (iE CX P w K mg au N qual scope f aH A outer s H E) [] (start N vs) H s1:=JJ S hr.hd e0 hl r x;erw[ju (ht s1 (start N vs) H _ I hq) (λfl s' hs=>?_) λe s' hs=>hs];have fin:∀{σ':St}{H':Hp}{v:V}{u:Value},Inv (iE CX P w K mg au N qual scope f aH A outer s H E) [] σ' H' s'->RelV v u->Q v H'->CE outer P w H s Q u s':=λ{σ' H' v u} J rv q=>#[v,H',J.os,J.bare,J.au,J.bp,rv,q];cases fl with |ret u=>let(v,σ',H',J,rv,q):=hs;erw[fin J rv q] |next=>let(σ',H',J,q):=hs;erw[fin (v:=V.bD) (u:=Value.none) J Z q] |brk=>let(_,_,_,q):=hs;erw[False.elim q] |cont=>let(_,_,_,q):=hs;erw[False.elim q]
def takes(K:aa)(C D:Addr):Prop:=PySem.W.mroIn K C (.ref D)=some true
section
variable {X:Cx}{i:Nat}{n y:Str}{Dc:Addr}{sX:List Value}{newD:String}{body pD:List Stmt}{b0:Stmt}{np oQ pos:Pos}{tb:XK->TS}{th:TS}{Cs:Addr->Prop}
end
end _L
namespace _L
open PySem PySem.Spec PyProof.Rows PySem.W Builtin.Getset_descriptor
section
variable {prog:af}{w:World}{A:ah}{E:Value->ae->Prop}{h:Heap}{g:Array GenState}{d:Drawn}{t:Nat}{os:OsState}{K:Frag}{x C:Addr}{o:Obj}
end
end _L
namespace _L
open PySem PySem.Spec PyProof.Rows
section
variable {X:Cx}
end
@[reducible]def jM:List Value:=[.type "ValueError",.type "Exception",.type "BaseException",.type "object"]
@[reducible]def lH:String:="ValueError.__new__"
theorem FA.Kh{P:af}{w:World}{K:aa}{mg:bO}{au:Heap}{x:Str}{st:Stmt}{N ps:List Str}{k:Nat}{sp:Sp}(F:FA K mg x st)(S:bu N ps (aW st))(len:∀vs H Q E,sp vs H Q E->vs.length=ps.length) (hb:∀(kV doc pm:Value)(an:Option Addr)(aH ct:Value)(us:List Value),us.length=ps.length->bindArgs (PySem.W.fnOf x x (jJ st) (fY st) (aW st) .none kV doc pm an aH ct) #[us,[]]=pure (ps.zip us)) (gq:∀(f:Addr)(aH:Value)(A:ah)(outer:List Env)(s:ae)(H:Hp)(vs:List V)(Q:VK)(E:XK),cI k (A.deeper (envOfC x (aW st) s.heap.objs.size f aH))->sp vs H Q E->∃t,hJ (iE iX P w K mg au N x (aW st) f aH A outer s H E) (fY st) t/\t {nx:=λ_ H'=>Q .bD H',rt:=Q} (start N vs) H):aF P w K mg au x (k+1) sp:=by let(f,fd,hm,F):=F.ex;have uV:=F.binds hb;have kp:=F.kp;let(oc,od,kV,doc,pm,an,aH,ct,fV,rfl,lk,fi):=F.ex;erw[f,_,ps,a9Q lk fi S len λA outer s H vs Q E hr fS=>gq f aH A outer s H vs Q E hr fS,hm,kp,uV]
end _L
namespace _A
theorem a9o(a b:Int):Int.gcd b (a.fmod b)=Int.gcd a b:=by rw[Int.fmod_def,Int.gcd_sub_mul_left_right,Int.gcd_comm]
theorem a9p{b:Int}(h:0<b):Int.gcd b (a%b)=Int.gcd a b:=by rw[<-Xq a (MN h)];erw[a9o a b]
def sg(p q:Int):Int:=if q<0 then-(Int.gcd p q:Int)else(Int.gcd p q:Int)
def lowP (p q:Int):Int:=p.fdiv (sg p q)
def gY (p q:Int):Int:=q.fdiv (sg p q)
theorem KC(h:q≠0):0<(Int.gcd p q:Int):=by
 have:Int.gcd p q≠0:=λz=>h (Int.gcd_eq_zero_iff.mp z).2
 lia
theorem yX(h:q≠0):sg p q≠0:=by have:=KC (p:=p) h;unfold sg;split<;>omega
theorem OJ(p q:Int):sg p q∣p:=by
 unfold sg;split
 ·erw[Int.neg_dvd.mpr (Int.gcd_dvd_left p q)]
 ·erw[Int.gcd_dvd_left p q]
theorem OI(p q:Int):sg p q∣q:=by
 unfold sg;split
 ·erw[Int.neg_dvd.mpr (Int.gcd_dvd_right p q)]
 ·erw[Int.gcd_dvd_right p q]
theorem Jp(p q:Int):sg p q*lowP p q=p:=by unfold lowP;rw[Int.fdiv_eq_ediv_of_dvd (OJ p q)];erw[Int.mul_ediv_cancel' (OJ p q)]
theorem CK(p q:Int):sg p q*gY p q=q:=by unfold gY;rw[Int.fdiv_eq_ediv_of_dvd (OI p q)];erw[Int.mul_ediv_cancel' (OI p q)]
theorem OK(p q:Int):(sg p q).natAbs=Int.gcd p q:=by unfold sg;split<;>lia
theorem a5M(h:q≠0):Int.gcd (lowP p q) (gY p q)=1:=by
 have e:Int.gcd (sg p q*lowP p q) (sg p q*gY p q)=(sg p q).natAbs*Int.gcd (lowP p q) (gY p q):=Int.gcd_mul_left _ _ _;rw[Jp,CK,OK]at e;have g:=KC (p:=p) h;have g':0<Int.gcd p q:=by lia
 have e':Int.gcd p q*1=Int.gcd p q*Int.gcd (lowP p q) (gY p q):=by lia
 exact(Nat.eq_of_mul_eq_mul_left g' e').symm
theorem a5N(h:q≠0):0<gY p q:=by
 have e:=CK p q;have g:=KC (p:=p) h;by_cases hq:q<0
 ·have es:sg p q=-(Int.gcd p q:Int):=by unfold sg;rw[bo hq]
  rw[es]at e;erw[Int.not_le.mp λhl=>?_];have:0<=-(Int.gcd p q:Int)*gY p q:=Xo ao hl
  lia
 ·have es:sg p q=(Int.gcd p q:Int):=by unfold sg;rw[bj hq]
  rw[es]at e;erw[Int.not_le.mp λhl=>?_];have:(Int.gcd p q:Int)*gY p q<=0:=Int.mul_nonpos_of_nonneg_of_nonpos ao hl
  lia
theorem Ww{s x y:Int}(hs:s≠0)(e:s*x=y):x.natAbs<=y.natAbs:=by rw[<-e,gz];erw[Nat.le_mul_of_pos_left _ ao]
theorem a5O(h:q≠0):(lowP p q).natAbs<=p.natAbs:=Ww (yX h) (Jp p q)
theorem SV(h:q≠0):(gY p q).natAbs<=q.natAbs:=Ww (yX h) (CK p q)
theorem ZK(h:q≠0):(sg p q).natAbs<=q.natAbs:=by rw[OK];erw[Nat.le_of_dvd ao (Int.gcd_dvd_natAbs_right p q)]
end _A
namespace _r
open Rat
theorem Jo{b:Int}(hb:b≠0):_A.lowP a b=(Rat.divInt a b).num/\_A.gY a b=((Rat.divInt a b).den:Int):=by
 have hp:=_A.a5N (p:=a) hb;have hc:=_A.a5M (p:=a) hb;have a85:(_A.gY a b).natAbs≠0:=by lia
 have a8b:(_A.lowP a b).natAbs.Coprime (_A.gY a b).natAbs:=hc;have e1:Rat.divInt a b=Rat.divInt (_A.lowP a b) (_A.gY a b):=by have h:=Rat.divInt_mul_left (a:=_A.sg a b) (n:=_A.lowP a b) (d:=_A.gY a b) (_A.yX hb);rw[_A.Jp,_A.CK]at h;erw[h]
 have e2:(#[_A.lowP a b,(_A.gY a b).natAbs,a85,a8b]:Rat)=Rat.divInt (_A.lowP a b) (((_A.gY a b).natAbs:Nat):Int):=Rat.mk_eq_divInt;have e3:(((_A.gY a b).natAbs:Nat):Int)=_A.gY a b:=by lia
 rw[e3]at e2;rw[e1,<-e2];erw[Z,e3.symm]
theorem den_pos(r:Rat):(0:Int)<(r.den:Int):=by have:=r.den_pos;omega
structure Bd(n:Nat)(r:Rat):Prop where
 num:r.num.natAbs<2^n
 den:r.den<2^n
theorem Bd.mono{n:Nat}(h:Bd n r)(l:n<=m):Bd m r:=#[gH h.num (tO aw l),gH h.den (tO aw l)]
theorem mX{b n:Nat}(h:a<2^n)(g:b<2^m):a*b<2^(n+m):=by rw[Nat.pow_add];erw[Nat.mul_lt_mul'' h g]
theorem kK{n:Nat}{b:Int}(hb:b≠0)(h1:a.natAbs<2^n)(h2:b.natAbs<2^n):Bd n (Rat.divInt a b):=by
 let(e1,e2):=Jo (a:=a) hb;have l1:=_A.a5O (p:=a) hb;have l2:=_A.SV (p:=a) hb;erw[?_,?_]
 ·rw[<-e1];lia
 ·lia
theorem Ak(r s:Rat):(r.den:Int)*(s.den:Int)≠0:=Int.ne_of_gt (jg (den_pos r) (den_pos s))
theorem add_div(r s:Rat):r+s=Rat.divInt (r.num*s.den+s.num*r.den) (r.den*s.den):=by have h:=Rat.divInt_add_divInt r.num s.num (d₁:=r.den) (d₂:=s.den) (by have:=den_pos r;lia) (by have:=den_pos s;lia);rw[tJ,tJ]at h;erw[h]
theorem Zb(r s:Rat):r-s=Rat.divInt (r.num*s.den-s.num*r.den) (r.den*s.den):=by have h:=WX r.num s.num (d₁:=r.den) (d₂:=s.den) (by have:=den_pos r;lia) (by have:=den_pos s;lia);rw[tJ,tJ]at h;erw[h]
theorem mul_div(r s:Rat):r*s=Rat.divInt (r.num*s.num) (r.den*s.den):=by have h:=WY r.num s.num (d₁:=r.den) (d₂:=s.den);rw[tJ,tJ]at h;erw[h]
section
variable {n m:Nat} {r s:Rat}
theorem ac3(h:Bd n r)(g:Bd m s):(r.num*s.den).natAbs<2^(n+m):=by rw[gz];erw[mX h.num (by have:=g.den;omega)]
theorem ac2(h:Bd n r)(g:Bd m s):(s.num*r.den).natAbs<2^(n+m):=by rw[gz,MC];erw[mX (by have:=h.den;lia) g.num]
theorem Ll(h:Bd n r)(g:Bd m s):((r.den:Int)*(s.den:Int)).natAbs<2^(n+m):=by rw[gz];erw[mX (by have:=h.den;lia) (by have:=g.den;lia)]
theorem Bd.add(h:Bd n r)(g:Bd m s):Bd (n+m+1) (r+s):=by
 rw[add_div];have h1:=ac3 h g;have h2:=ac2 h g;have h3:=Ll h g;have e:2^(n+m+1)=2^(n+m)+2^(n+m):=by rw[vK];omega
 erw[kK (Ak r s) bB bB]
theorem Bd.mul(h:Bd n r)(g:Bd m s):Bd (n+m) (r*s):=by rw[mul_div];erw[kK (Ak r s) (by rw[gz];erw[mX h.num g.num]) (Ll h g)]
end
end _r
namespace _L
open PySem PySem.Spec PyProof.Rows
def j9(H H':Hp):Prop:=∀b o,(∀xs,o≠ .lst xs)->H b=some o->H' b=some o
section
variable {K:aa} {H H' H2:Hp}
theorem j9.trans(a:j9 H H')(b:j9 H' H2):j9 H H2:=λc o n e=>b c o n (a c o n e)
theorem j9.vV{D:Addr}(h:H D=some (.lst xs)):j9 H (upd H D (.lst ys)):=λb o n e=>by rw[aQ (iP e h (n xs))];erw[e]
theorem bc.t(s:j9 H H')(h:bc K H a xs):bc K H' a xs:=h.imp (λr=>r.imp (s _ _ λ_ z=>nomatch z) λ#[o,e]=>#[o,s _ _ (λ_ z=>nomatch z) e]) id
mutual
def fh:ag->Bool | .list _=>false | .dict _=>false | .tuple ds=>cH ds | .none=>true | .bool _=>true | .int _=>true | .str _=>true
def cH:List ag->Bool |[]=>true |d::ds=>fh d&&cH ds
end
theorem gE:∀{ds:List ag},cH ds=true↔∀d∈ds,fh d=true
 |[]=>#[λ_ _ h=>(nomatch h),λ_=>by simp[cH]] |d::ds=>by
  rw[cH,fb,gE (ds:=ds)];constructor
  ·rintro⟨a,b⟩ x hx
   rcases bI.mp hx with rfl|hx
   ·erw[a]
   ·erw[b x hx]
  ·intro h
   erw[h d (.head _),λx hx=>h x (.tail _ hx)]
theorem ki(ns:List Int):cH (ns.map PyData.int)=true:=gE.mpr λd hd=>by let(i,_,rfl):=dC.mp hd;simp[fh]
mutual
theorem RD.t(s:j9 H H'):∀{x:V}(d:ag),fh d=true->RD K H x d->RD K H' x d |x,.none,_,h=>by simpa[RD]using h |x,.bool b,_,h=>by simpa[RD]using h |x,.int i,_,h=>by simpa[RD]using h |x,.str y,_,h=>by simpa[RD]using h |x,.list ds,n,h=>by simp[fh]at n |x,.tuple ds,n,h=>by rw[RD]at h⊢;let(a,xs,e,h1,h2):=h;erw[a,xs,e,h1.t s,aO.t s ds (by simpa[fh]using n) h2] |x,.dict _,_,h=>by simp[RD]at h
theorem aO.t (s:j9 H H'):∀{xs:List V}(ds:List ag),cH ds=true->aO K H xs ds->aO K H' xs ds |xs,[],_,h=>by simpa[aO]using h |xs,d::ds,n,h=>by rw[aO]at h⊢;rw[cH,fb]at n;let(y,ys,e,h1,h2):=h;erw[y,ys,e,RD.t s d n.1 h1,aO.t s ds n.2 h2]
end
theorem aO.fL:∀{xs:List V}{ns:List Int},aO K H xs (ns.map PyData.int)->xs=ns.map V.int |xs,[],h=>h.nil_inv |xs,n::ns,h=>by let(y,ys,rfl,h1,h2):=h.cons_inv;rw[h1.int_inv,aO.fL h2];rfl
theorem mS:∀(ns:List Int),aO K H (ns.map V.int) (ns.map PyData.int) |[]=>dJ |n::ns=>cO (fJ n) (mS ns)
theorem VM{xs:List V}{ds:List ag}{D:Addr}(rest:St)(nw:Nw H H0 D (.lst []))(hl:xs.length=ds.length)(hz:xs.length<=1000)(hn:cH ds=true) (go:∀i x H2,xs[i]? =some x->aE H H2->J.go i H2/\∀y H3,J.lA i H2 y H3->H3=H2/\y=x)(stop:∀H2,aE H H2->J.stop xs.length H2) (hs:∀(i:Nat)(x:V)(d:ag)(H2:Hp)(Q':VK),xs[i]? =some x->ds[i]? =some d->aE H H2->(∀y H3,aE H2 H3->RD K H3 y d->Q' y H3)->te (some x::rest) H2 Q') (hq:∀H' ys,aE H H'->H' D=some (.lst ys)->aO K H' ys ds->Q (.ref D) H'):kW J (gr 0) jV te Q D (none::rest) H0:=by
 have hD:=nw.no;erw[vm xs.length (λi O H2=>aE H H2/\(∃ys,H2 D=some (.lst ys)/\aO K H2 ys (ds.take i))/\∃v,O=v::rest) ?_ ?_ ?_]
 ·erw[nw.same,#[[],nw.at',dJ],none,Z]
 ·rintro i O H2 hi ⟨s2,⟨ys,d2,r2⟩,v,rfl⟩
  have Dn:i<ds.length:=by rw[<-hl];erw[hi]
  have ex:=cE hi;have eb:=cE Dn;let(g1,g2):=go i _ H2 ex s2;erw[g1,λy H3 hy=>?_];let(rfl,rfl):=g2 y H3 hy;erw[vT ?_];erw[hs i _ _ _ _ ex eb s2 λz H4 s4 r4=>?_];have d4:=s4 _ _ d2;have len:=r2.length;rw[vN]at len;erw[ys,d4,?_,xs.length-(i+1),ao,Z,ao,λb o e=>?_,#[ys++[z],bP,?_],_,Z]
  ·have:(1000:Nat)<sizeLine:=by decide
   lia
  ·rw[aQ (iO e hD)];erw[s4 b o (s2 b o e)]
  ·have t:j9 H4 (upd H4 D (.lst (ys++[z]))):=.vV d4
   rw[tQ,eb];have n1:cH (ds.take i)=true:=gE.mpr λd hd=>gE.mp hn d (yn hd);exact(aO.t t _ n1 (aO.mono s4 _ r2)).append (cO (RD.t t _ (gE.mp hn _ (yt Dn)) r4) dJ)
 ·rintro O H2 ⟨s2,⟨ys,d2,r2⟩,v,rfl⟩
  erw[stop H2 s2,hq H2 ys s2 d2 ?_];rw[hl,yk]at r2;erw[r2]
theorem qI{D:Addr}(rest:St)(hx:bc K H a xs)(nw:Nw H H0 D (.lst []))(hl:xs.length=ds.length)(hz:xs.length<=1000)(hn:cH ds=true) (hs:∀(i:Nat)(x:V)(d:ag)(H2:Hp)(Q':VK),xs[i]? =some x->ds[i]? =some d->aE H H2->(∀y H3,aE H2 H3->RD K H3 y d->Q' y H3)->te (some x::rest) H2 Q') (hq:∀H' ys,aE H H'->H' D=some (.lst ys)->aO K H' ys ds->Q (.ref D) H'):kW (AM K a) (gr 0) jV te Q D (none::rest) H0:=VM rest nw hl hz hn (λi x H2 e s=>#[#[xs,x,hx.go s,e],λy H3 #[e3,y3]=>#[e3,by have:=y3 _ (hx.go s);rw[e]at this;exact(dU this).symm]]) (λH2 s=>#[xs,hx.go s,bL _]) hs hq
theorem E4{D:Addr}(rest:St)(hx:aD K H a xs)(nw:Nw H H0 D (.lst []))(hl:xs.length=ds.length)(hz:xs.length<=1000)(hn:cH ds=true) (hs:∀(i:Nat)(x:V)(d:ag)(H2:Hp)(Q':VK),xs[i]? =some x->ds[i]? =some d->aE H H2->(∀y H3,aE H2 H3->RD K H3 y d->Q' y H3)->te (some x::rest) H2 Q') (hq:∀H' ys,aE H H'->H' D=some (.lst ys)->aO K H' ys ds->Q (.ref D) H'):kW (tE K a) (gr 0) jV te Q D (none::rest) H0:=VM rest nw hl hz hn (λi x H2 e s=>#[#[xs,x,hx.go s,e],λy H3 #[e3,y3]=>#[e3,by have:=y3 _ (hx.go s);rw[e]at this;exact(dU this).symm]]) (λH2 s=>#[xs,hx.go s,bL _]) hs hq
theorem Aq{D:Addr}{n:Nat}(rest:St)(sE:n=2)(h1:g6 b1 K H l1 xs)(h2:g6 b2 K H l2 ys)(nw:Nw H H0 D (.lst [])) (hl:min xs.length ys.length=ds.length)(hz:ds.length<=1000)(hn:cH ds=true) (hs:∀(i:Nat)(x y:V)(d:ag)(H2:Hp)(Q':VK),xs[i]? =some x->ys[i]? =some y->ds[i]? =some d->aE H H2->(∀z H3,aE H2 H3->RD K H3 z d->Q' z H3)->te (some x::some y::rest) H2 Q') (hq:∀H' zs,aE H H'->H' D=some (.lst zs)->aO K H' zs ds->Q (.ref D) H'):kW (tD K b1 b2 l1 l2) (Ad K n (ve (gr 0) (ve (gr 1) DD))) jV te Q D (none::none::rest) H0:=by
 subst sE;have hD:=nw.no;erw[vm ds.length (λi O H2=>aE H H2/\(∃zs,H2 D=some (.lst zs)/\aO K H2 zs (ds.take i))/\∃v v',O=v::v'::rest) ?_ ?_ ?_]
 ·erw[nw.same,#[[],nw.at',dJ],none,none,Z]
 ·rintro i O H2 hi ⟨s2,⟨zs,d2,r2⟩,v,v',rfl⟩
  have hx:i<xs.length:=by lia
  have hy:i<ys.length:=by lia
  have ex:=cE hx;have ey:=cE hy;have eb:=cE hi;erw[#[xs,ys,_,_,h1.go s2,h2.go s2,ex,ey],λy' H3 uS=>?_];let(T,x0,y0,rfl,k1,k2,n3):=uS;have e1:=k1 _ (h1.go s2);have e2:=k2 _ (h2.go s2);rw[ex]at e1;rw[ey]at e2;cases e1;cases e2;erw[T,_,Z,bc.of n3.at',Z,_,_,Z,_,_,Z,Z,?_];erw[yes (bE ?_)];erw[hs i _ _ _ _ _ ex ey eb (s2.trans n3.same) λz H4 s4 r4=>?_];have ui:=n3.same.trans s4;have d4:=ui _ _ d2;have len:=r2.length;rw[vN]at len;erw[zs,d4,?_,ds.length-(i+1),ao,Z,ao,λb o e=>?_,#[zs++[z],bP,?_],_,_,Z]
  ·have:(1000:Nat)<sizeLine:=by decide
   lia
  ·rw[aQ (iO e hD)];erw[ui b o (s2 b o e)]
  ·have t:j9 H4 (upd H4 D (.lst (zs++[z]))):=.vV d4
   rw[tQ,eb];have n1:cH (ds.take i)=true:=gE.mpr λd hd=>gE.mp hn d (yn hd);exact(aO.t t _ n1 (aO.mono ui _ r2)).append (cO (RD.t t _ (gE.mp hn _ (yt hi)) r4) dJ)
 ·rintro O H2 ⟨s2,⟨zs,d2,r2⟩,v,v',rfl⟩
  erw[#[xs,ys,h1.go s2,h2.go s2,ao],hq H2 zs s2 d2 ?_];rw[yk]at r2;erw[r2]
end
theorem TN:∀{ns:List Int}{us:List Value},Vals (ns.map V.int) us->(∀v∈us,∃a t,v=Value.int a t)/\numsOf us=ns
 |[],_,.nil=>#[λ_ h=>(nomatch h),rfl] |n::ns,_,.cons q r=>by
  let(t,rfl):=(show∃t,_=Value.int n t from q);let(h1,h2):=TN r;erw[λv hv=>?_,?_]
  ·rcases bI.mp hv with rfl|hv
   ·erw[n,t,Z]
   ·erw[h1 v hv]
  ·show n::numsOf _=_
   rw[h2]
section
variable {X:Cx}
theorem Jj(K:aa)(hK:X.K=K)(hc:X.calm=true):fq X (.builtin "max") (λxs H Q=>∃(l:Addr)(ns:List Int),xs=[.ref l]/\aD K H l (ns.map V.int)/\ns≠[]/\∀M,M∈ns->(∀a∈ns,a<=M)->Q (.int M) H):=by
 subst hK;intro pins s O H xs us Q I r h;let(l,ns,rfl,hl,cj,q):=h;let(u,rfl,ru):=vals1 r;cases(show u=Value.ref l from ru);let(its,rv,pl,hz):=I.list hl;let(a1,a2):=TN rv;have all:AllInts its.toArray:=λv hv=>a1 v (by simpa using hv);let(ps,Ug):=all.items;have e0:numsOf (intItems ps).toList=ns:=by rw[<-Ug];erw[a2]
 rw[nums_intItems]at e0;have hlen:ps.size=ns.length:=by rw[<-e0,bV,ky]
 have oQ:0<ps.size:=by rw[hlen];erw[ED.mpr cj]
 erw[max_intList (I.ok.hd hc) (by rw[<-Ug];erw[pl.isList]) oQ λv h' tk hv hk=>?_];let(t,rfl):=intItems_at hv;let(h1,h2):=argBest_gt (numAt ps) (ps.size-1);erw[.int _,H,I.kept hk,#[_,Z],q _ ?_ λa ha=>?_]
 ·rw[numAt_eq,e0];erw[getD_mem bB]
 ·let(j,hj,rfl):=mem_getD ha
  rw[<-e0,<-numAt_eq];erw[h2 j bB]
theorem TQ{ns:List Int}{us:List Value}(r:Vals (ns.map V.int) us){i:Nat}{v:Value}(h:us[i]? =some v):∃n t,ns[i]? =some n/\v=Value.int n t:=by
 have hl:=r.length;rw[bV]at hl;have hi:i<ns.length:=by rw[hl];exact(dW.mp h).1
 let(u,e,ru):=r.get (i:=i) (x:=.int ns[i]) (by rw[cv,cE hi];rfl);rw[h]at e;cases e;let(t,rfl):=(show∃t,v=Value.int ns[i] t from ru);erw[_,t,cE hi,Z]
theorem a1d(ns:List Int):((List.range ns.length).any λi=>((ns.map (· !=0))[i]?).getD false)=ns.any (· !=0):=by have:=LSm.range_any (ns.map (· !=0));rw[bV]at this;rw[this,List.any_map];rfl
theorem Wo(K:aa)(hK:X.K=K)(hc:X.calm=true):fq X (.builtin "any") (λxs H Q=>∃(l:Addr)(ns:List Int),xs=[.ref l]/\(aD K H l (ns.map V.int)\/bc K H l (ns.map V.int))/\Q (.bl (ns.any (· !=0))) H):=by
 subst hK;intro pins s O H xs us Q I r h;let(l,ns,rfl,hl,q):=h;let(u,rfl,ru):=vals1 r;cases(show u=Value.ref l from ru);have hh:=I.ok.hd hc;have fin:∀(its:List Value),Vals (ns.map V.int) its->((List.range its.toArray.size).any λi=>((ns.map (· !=0))[i]?).getD false)=ns.any (· !=0):=λits rv=>by rw[eF,<-rv.length,bV];erw[a1d ns]
 rcases hl with hl|hl
 ·let(its,rv,pl,hz):=I.list hl
  have gL:=pl.isList;have cy:l<s.heap.objs.size:=by let(_,e,_):=gL;erw[bX e]
  erw[call_any_walk (y6 gL ?_)];erw[s.heap.objs.size,[s.heap.objs.size,l],[s.heap.objs.size],its.toArray.size,_,_,λi=>((ns.map (· !=0))[i]?).getD false,Z,Walks.list (A:=X.A.in1) hh _ l (dI cy) its.toArray,#[#[_,dD _ Z,Z,Z],gL.push _],λi v s' Q' E' hP hQ=>?_,λh' tk hk=>?_]
  ·let(n,t,e,rfl):=TQ rv (i:=i) (v:=v) (by simpa using hP)
   simp only[cv,e]at hQ;erw[truthy_int hQ]
  ·rw[fin its rv]
   erw[.bl _,H,I.kept (LSm.kept_iter hk),Z,q]
 ·let(its,rv,pl,hz):=I.tuple hl
  have gL:s.heap.IsTuple l its.toArray:=by let((cls,dd,data,sl),ho,lM,n,hd):=pl;erw[_,ho,lM,by simpa using#[n,hd]]
  have cy:l<s.heap.objs.size:=by let(_,e,_):=gL;erw[bX e]
  erw[call_any_walk (wpAny_pyIter_tuple gL ?_)];erw[s.heap.objs.size,[s.heap.objs.size,l],[s.heap.objs.size],its.toArray.size,_,_,λi=>((ns.map (· !=0))[i]?).getD false,Z,Walks.tuple (A:=X.A.in1) hh _ l (dI cy) its.toArray,#[#[_,dD _ Z,Z,Z],gL.push _],λi v s' Q' E' hP hQ=>?_,λh' tk hk=>?_]
  ·let(n,t,e,rfl):=TQ rv (i:=i) (v:=v) (by simpa using hP)
   simp only[cv,e]at hQ;erw[truthy_int hQ]
  ·rw[fin its rv]
   erw[.bl _,H,I.kept (LSm.kept_iter hk),Z,q]
end
end _L
set_option maxHeartbeats 1000000
namespace _a
open PySem PySem.Spec PyProof.Rows _L
def WH(c m:Int):Prop:=0<=c/\0<=m/\m<2147483648
def fN(H:Hp)(p:Addr):Prop:=∃c m,H p=some (.lst [.int c,.int m])/\WH c m
structure bJ(p:Addr)(H H':Hp):Prop where
 bC:fN H' p
 same:∀b o,b≠p->H b=some o->H' b=some o
theorem bJ.refl(h:fN H p):bJ p H H:=#[h,λ_ _ _ e=>e]
theorem bJ.trans(a:bJ p H H1)(b:bJ p H1 H2):bJ p H H2:=#[b.bC,λc o n e=>b.same c o n (a.same c o n e)]
theorem bJ.upd(h:WH c m):bJ p H (_L.upd H p (.lst [.int c,.int m])):=#[#[c,m,bP,h],λb o n e=>by rw[aQ n];erw[e]]
theorem bJ.fK(h:fN H p)(s:aE H H'):bJ p H H':=by let(c,m,e,ok):=h;erw[#[c,m,s _ _ e,ok],λb o _ e=>s b o e]
theorem MX(h0:0<=j)(h:j<=10^40):Wd j:=by
 have:j.natAbs<=10^40:=by lia
 erw[yj this aG]
theorem fN.ne(h:fN H p):H p≠none:=by let(c,m,e,_):=h;rw[e];erw[λz=>nomatch z]
theorem fN.a4T(h:fN H p)(e:H q=some o)(n:∀xs,o≠ .lst xs):q≠p:=by let(c,m,e',_):=h;erw[iP e e' (n _)]
theorem bJ.t(bg:fN H p)(b:bJ p H H'):j9 H H':=λc o n e=>b.same c o (bg.a4T e n) e
theorem bJ.QA(s:aE H0 H)(hp:H0 p=none)(b:bJ p H H'):aE H0 H':=λc o e=>b.same c o (iO e hp) (s c o e)
section
variable {K:aa}
theorem Lu{D:Addr}(n:Nat)(rest:_L.St)(nw:Nw H H0 D (.lst []))(bg:fN H p)(hn:n<=1000)(xv:Nat->V) (go:∀i H2,i<n->bJ p H H2->J.go i H2/\∀y H3,J.lA i H2 y H3->H3=H2/\y=xv i)(stop:∀H2,bJ p H H2->J.stop n H2)(Pz:Int->Prop) (hs:∀i H2 (Q':VK),i<n->bJ p H H2->(∀z H3,Pz z->bJ p H2 H3->Q' (.int z) H3)->te (some (xv i)::rest) H2 Q') (hq:∀H' (is:List Int),bJ p H H'->H' D=some (.lst (is.map V.int))->is.length=n->(∀z∈is,Pz z)->Q (.ref D) H'):kW J (gr 0) jV te Q D (none::rest) H0:=by
 have A6:D≠p:=λe=>bg.ne (e▸nw.no);erw[vm n (λi O H3=>bJ p H H3/\(∃is:List Int,H3 D=some (.lst (is.map V.int))/\is.length=i/\∀z∈is,Pz z)/\∃v,O=v::rest) ?_ ?_ ?_]
 ·erw[.fK bg nw.same,#[[],nw.at',Z,λ_ h=>(ck h).elim],none,Z]
 ·rintro i O H3 hi ⟨b3,⟨is,d3,li,pi⟩,v,rfl⟩
  let(g1,g2):=go i H3 hi b3;erw[g1,λy H4 hy=>?_];let(rfl,rfl):=g2 y H4 hy;erw[vT ?_];erw[hs i _ _ hi b3 λz H5 pz b5=>?_];erw[_,b5.same _ _ A6 d3,?_,n-(i+1),ao,Z,ao,?_,#[is++[z],?_,?_,?_],_,Z]
  ·rw[bV,li]
   have:(1000:Nat)<sizeLine:=by decide
   lia
  ·have sZ:=b3.trans b5
   erw[?_,λb o n e=>?_]
   ·let(c,m,e,ok):=sZ.bC
    erw[c,m,by rw[aQ A6.symm];erw[e],ok]
   ·rw[aQ (iO e nw.no)];erw[sZ.same b o n e]
  ·rw[bP,lj];rfl
  ·rw[eP,li];rfl
  ·intro y hy
   rcases iI.mp hy with h|h
   ·erw[pi y h]
   ·rw[cn.mp h];erw[pz]
 ·rintro O H3 ⟨b3,⟨is,d3,li,pi⟩,v,rfl⟩
  erw[stop H3 b3,hq H3 is b3 d3 li pi]
theorem a6D(ns:List Int){i:Int}(h0:0<=i)(h:i<ns.length):∃z,z∈ns/\fk (ns.map V.int) i=some (.int z):=by
 have hl:i.toNat<ns.length:=by omega
 erw[ns[i.toNat],yt hl,cN h0 (by rw[cv,cE hl];rfl)]
theorem Ls{D:Addr}(n:Nat)(rest:_L.St)(nw:Nw H H0 D (.lst []))(bg:fN H p)(hn:n<=1000)(xv:Nat->V) (go:∀i H2,i<n->bJ p H H2->J.go i H2/\∀y H3,J.lA i H2 y H3->H3=H2/\y=xv i)(stop:∀H2,bJ p H H2->J.stop n H2)(Pd:Nat->ag->Prop) (hs:∀i H2 (Q':VK),i<n->bJ p H H2->(∀y d H3,Pd i d->fh d=true->RD K H3 y d->bJ p H2 H3->Q' y H3)->te (some (xv i)::rest) H2 Q') (hq:∀H' ys ds,bJ p H H'->H' D=some (.lst ys)->aO K H' ys ds->ds.length=n->cH ds=true->(∀i d,ds[i]? =some d->Pd i d)->Q (.ref D) H'):kW J (gr 0) jV te Q D (none::rest) H0:=by
  have A6:D≠p:=λe=>bg.ne (e▸nw.no);erw[vm n (λi O H3=>bJ p H H3/\(∃ys ds,H3 D=some (.lst ys)/\aO K H3 ys ds/\ds.length=i/\cH ds=true/\∀j d,ds[j]? =some d->Pd j d)/\∃v,O=v::rest) ?_ ?_ ?_]
  ·erw[.fK bg nw.same,#[[],[],nw.at',dJ,Z,Z,λj d e=>by simp at e],none,Z]
  · rintro i O H3 hi ⟨b3,⟨ys,ds,d3,r3,li,ni,pi⟩,v,rfl⟩
    let(g1,g2):=go i H3 hi b3;erw[g1,λy H4 hy=>?_];let(rfl,rfl):=g2 y H4 hy;erw[vT ?_];erw[hs i _ _ hi b3 λz d H5 pz nz rz b5=>?_];have d5:=b5.same _ _ A6 d3;have t:j9 H5 (_L.upd H5 D (.lst (ys++[z]))):=.vV d5;erw[ys,d5,?_,n-(i+1),ao,Z,ao,?_,#[ys++[z],ds++[d],bP,?_,?_,?_,?_],_,Z]
    · rw[r3.length,li]
      have:(1000:Nat)<sizeLine:=by decide
      lia
    · have sZ:=b3.trans b5
      erw[?_,λb o n e=>?_]
      · let(c,m,e,ok):=sZ.bC
        erw[c,m,by rw[aQ A6.symm];erw[e],ok]
      ·rw[aQ (iO e nw.no)];erw[sZ.same b o n e]
    ·exact(aO.t ((bJ.t b3.bC b5).trans t) _ ni r3).append (cO (RD.t t _ nz rz) dJ)
    ·rw[eP,li];rfl
    ·exact gE.mpr λx hx=>by
        rcases iI.mp hx with h|h
        ·erw[gE.mp ni x h]
        ·rw[cn.mp h];erw[nz]
    · intro j e he
      by_cases hj:j<ds.length
      · rw[vO hj]at he
        erw[pi j e he]
      · have qp:j=ds.length:=by
          have:=(dW.mp he).1;rw[eP]at this;have:j<ds.length+1:=this
          lia
        subst qp;rw[yu (bL _),Ey]at he;cases he;rw[li];erw[pz]
  · rintro O H3 ⟨b3,⟨ys,ds,d3,r3,li,ni,pi⟩,v,rfl⟩
    erw[stop H3 b3,hq H3 ys ds b3 d3 r3 li ni pi]
end
end _a
namespace _l
open PySem _L
def gP(i:Int):Int:=if i<0 then-i else i
theorem AD(i:Int):gP i=(i.natAbs:Int):=by unfold gP;split<;>lia
def aK(ns:List Int):Nat:=ns.foldr (λz m=>max z.natAbs m) 0
theorem Jy:∀{ns:List Int}{z:Int},z∈ns->z.natAbs<=aK ns
 |n::ns,z,h=>by
  show z.natAbs<=max n.natAbs (aK ns);rcases bI.mp h with rfl|h
  ·erw[Nat.le_max_left _ _]
  ·erw[jf (Jy h) (Nat.le_max_right _ _)]
theorem Jx:∀{ns:List Int},ns≠[]->∃z∈ns,z.natAbs=aK ns
 |[],h=>absurd Z h |[n],_=>#[n,.head _,by show n.natAbs=max n.natAbs 0;lia] |n::m::ns,_=>by
  let(z,hz,e):=Jx (ns:=m::ns) (by simp);by_cases h:n.natAbs<=aK (m::ns)
  ·erw[z,.tail _ hz,by show _=max n.natAbs (aK (m::ns));lia]
  ·erw[n,.head _,by show _=max n.natAbs (aK (m::ns));lia]
theorem qe(h:∀z∈ns,z.natAbs<=m):aK ns<=m:=by cases ns with |nil=>erw[fT _] |cons a r=>let(z,hz,e):=Jx (ns:=a::r) (by simp);rw[<-e];erw[h z hz]
theorem a63(h:∃z∈ns,z≠0):0<aK ns:=by
 let(z,hz,h0):=h;have:=Jy hz
 lia
theorem Jw(cj:ns≠[]){M:Int}(h1:M∈ns.map gP)(h2:∀a∈ns.map gP,a<=M):M=(aK ns:Int):=by
 let(z,hz,e):=dC.mp h1;let(y,hy,ey):=Jx cj;have a1:=Jy hz;have a2:=h2 (gP y) (dC.mpr #[y,hy,Z]);rw[AD]at e a2
 lia
def j4(p q:Int):Int:=(2*(p.natAbs:Int)+q)/(2*q)
def eX(p q:Int):Int:=if p>=0 then j4 p q else-j4 p q
structure xQ(x p q:Int):Prop where
 lo:-q<=2*(x*q-p)
 hi:2*(x*q-p)<=q
 vi:2*(x*q-p)=q\/2*(x*q-p)=-q->p.natAbs<=(x*q).natAbs
theorem OG(hq:0<q):2*q*j4 p q<=2*(p.natAbs:Int)+q/\2*(p.natAbs:Int)+q<2*q*j4 p q+2*q:=by have h:=Int.mul_ediv_add_emod (2*(p.natAbs:Int)+q) (2*q);have h0:=tT (2*(p.natAbs:Int)+q) (show 2*q≠0 by omega);have h1:=vQ (2*(p.natAbs:Int)+q) (show 0<2*q by omega);unfold j4;constructor<;>omega
theorem OH(hq:0<q):0<=j4 p q:=Int.ediv_nonneg ao ao
theorem near_is(hq:0<q):xQ (eX p q) p q:=by
 let(h1,h2):=OG (p:=p) hq;have h0:=OH (p:=p) hq;rw[tS,qW q]at h1 h2;have hs0:0<=j4 p q*q:=iJ h0 (MN hq);unfold eX;split
 ·erw[?_,?_,λh=>?_]<;>(generalize j4 p q*q=s at*;omega)
 ·erw[?_,?_,?_]<;>rw[Int.neg_mul]<;>(generalize j4 p q*q=s at*;omega)
theorem zB{x y q:Int}(hq:0<q)(h:x<y):x*q+q<=y*q:=by have:(x+1)*q<=y*q:=B8 ao ao;rw[Int.add_mul,mH]at this;erw[this]
theorem a4P(hq:0<q)(a:xQ x p q)(b:xQ y p q):x=y:=by
 have key:∀{x y:Int},xQ x p q->xQ y p q->¬x<y:=λ{x y} a b h=>by
  have g:=zB hq h;have e1:=a.lo;have e2:=a.hi;have e3:=b.lo;have e4:=b.hi;have f1:=a.vi;have f2:=b.vi;have hx:x*q=0\/q<=x*q\/x*q<=-q:=by
   rcases Xp x 0 with h|h|h
   ·have:=zB hq h;lia
   ·left;rw[h,B7]
   ·have:=zB hq h;lia
  have hy:y*q=0\/q<=y*q\/y*q<=-q:=by
   rcases Xp y 0 with h|h|h
   ·have:=zB hq h;lia
   ·left;rw[h,B7]
   ·have:=zB hq h;lia
  generalize x*q=u at*;generalize y*q=v at*;have hu:=f1 ao;have hv:=f2 ao
  lia
 rcases Xp x y with h|h|h
 ·erw[absurd h (key a b)]
 ·erw[h]
 ·erw[absurd h (key b a)]
theorem J4(hq:0<q)(a:xQ x p q):x=eX p q:=a4P hq a (near_is hq)
theorem J3(hq:0<q):eX 0 q=0:=(J4 hq #[ao,ao,λh=>by lia]).symm
theorem a4R{n:Int}(hq:0<q):eX (q*n) q=n:=by refine(J4 hq #[?_,?_,?_]).symm<;>rw[qW n q]<;>lia
theorem Sq(hq:0<q):eX (-p) q=-eX p q:=by let(a,b,c):=near_is (p:=p) hq;refine(J4 hq ?_).symm;erw[?_,?_,?_]<;>rw[Int.neg_mul]<;>omega
theorem a4Q(hq:0<q)(hp:0<=p):0<=eX p q:=by unfold eX;rw[bo hp];erw[OH hq]
end _l
namespace _L
open PySem PySem.Spec PyProof.Rows
section
variable {prog:af}{w:World}{A:ah}{E:Value->ae->Prop}{s:ae}
end
theorem UW{K:aa}{b1 b2:Bool}{a1 a2:Addr}{xs ys:List V}{g:TG}{tb:TS}{D:Ends}{O:St}{H:Hp}(n:Nat)(hn:n=min xs.length ys.length)(Pv:Nat->St->Hp->Prop)(h0:Pv 0 O H)(hl:∀i O H,i<=n->Pv i O H->g6 b1 K H a1 xs/\g6 b2 K H a2 ys) (hs:∀i x y O H,xs[i]? =some x->ys[i]? =some y->Pv i O H->∀T H',Nw H H' T (.tup [x,y])->g (.ref T) O H' λσ2 H2=>tb {D with nx:=Pv (i+1),ct:=Pv (i+1),bk:=D.nx} σ2 H2)(hd:∀O H,Pv n O H->D.nx O H): ∃W:Nat->Nat->St->Hp->Prop,(∃m,W 0 m O H)/\∀i m O H,W i m O H->((tD K b1 b2 a1 a2).stop i H/\D.nx O H)\/((tD K b1 b2 a1 a2).go i H/\∃N:St->Hp->Prop,(∀σ' H',N σ' H'->∃m',m'<m/\W (i+1) m' σ' H')/\∀x H',(tD K b1 b2 a1 a2).lA i H x H'->g x O H' λσ2 H2=>tb {D with nx:=N,ct:=N,bk:=D.nx} σ2 H2):=by
 erw[λi m O H=>m=n-i/\i<=n/\Pv i O H,#[n,by simp,fT _,h0],?_];rintro i m O H ⟨rfl,hi,p⟩;let(q1,q2):=hl i O H hi p;by_cases cy:i<n
 ·have l1:i<xs.length:=by lia
  have l2:i<ys.length:=by lia
  erw[.inr #[#[xs,ys,xs[i],ys[i],q1,q2,by simp[l1],by simp[l2]],Pv (i+1),λσ' H' p'=>#[n-(i+1),ao,Z,cy,p'],λx H' y=>?_]];let(T,z1,z2,rfl,e1,e2,nw):=y;erw[hs i z1 z2 O H (e1 xs q1) (e2 ys q2) p T H' nw]
 ·have e:i=n:=by lia
  subst e;erw[.inl #[#[xs,ys,q1,q2,ao],hd O H p]]
section
variable {X:Cx}
end
set_option maxHeartbeats 1000000 in
theorem uy{X:Cx}{N:List Str}{js:List (Option Nat)}{elt tg iter:Expr}{ifs:List Expr}{scope:Scope}{pos:Pos}{wi:TI}{g:TG}{tt:TT}{te:TE}{i0:Nat}{x0:Str}{wx NL:Pos}(hNd:X.N.Nodup)(hix:X.N[i0]? =some x0)(U9:Loc X.env.scope x0)(hc:X.calm=true)(hN:E6 X N js scope=true)(hS:xJ X scope=true) (hi:PI X tg iter wi)(hg:∀cl s H fp pins,PG (fZ X N scope cl s H fp pins) tg g)(ht:∀cl s H fp pins,M4 (fZ X N scope cl s H fp pins) ifs tt)(he:∀cl s H fp pins,PE (fZ X N scope cl s H fp pins) elt te) (hsw:autoParam (swapsWith (.ListComp elt [#[tg,iter,ifs,0]] scope pos) (some (.Name x0 wx)) NL.line X.env=pure true) r8_._auto_1)(hf0:autoParam (X.fn x0=true\/X.env.scope.names.lookup x0=some .local) d8_._auto_1) (hs:autoParam (∀x,foldedSetIterable iter X.env x=pure x) d8_._auto_1):PS X (.Assign [.Name x0 wx] (.ListComp elt [#[tg,iter,ifs,0]] scope pos) NL) (BD (Nl js wi g tt te) (gr i0)):=by
 intro pins s O H D0 I h;have nE:=hS;unfold xJ at nE;rw[fb,fb]at nE;let((k1,k2),k3):=nE;have nu:scope.kind= .function:=gc.mp k1;have xn:∀x∈scope.names,x.2= .free->∃c,X.env.cells.lookup x.1=some c:=λx hx e=>by have:=gQ.mp k3 x hx;rw[e]at this;erw[I.ok.has x.1 (.inl (gc.mp this))]
 have sI:∀x∈scope.names,x.2≠ .cell:=λx hx e=>by have:=gQ.mp k3 x hx;rw[e]at this;erw[dX this]
 have JZ:∀x∈scope.names,x.2= .local->scope.names.lookup x.1=some .local:=λx hx e=>by have:=gQ.mp k3 x hx;rw[e]at this;erw[gc.mp this]
 let(cl,Ke,c1,c2):=VS xn;rw[exec_Assign_Name_used _ _ _ _ hsw];erw[aJ (AQ (aJ ?_))];show wpAny _ X.A (do let _<-comprehension (.ListComp elt [#[tg,iter,ifs,0]] scope pos) scope X.env _ (newList []) false (eval iter X.env) (some (assign (.Name x0 wx) X.env))) _ _ s;erw[aJ (ju (wpAny_comprehension_free (use:=some (assign (.Name x0 wx) X.env)) (Q:=λ_ s'=>SP X pins D0 .next s') Z hs Ke nu JZ (aZ (hi pins s O H _ I h) λv s1 h1=>aZ h1 λCP s2 h2=>?_)) (λ_ s' hq=>cg (cg hq)) λ_ _ e=>e)];let(it,fp,tn,J,H2,e,I2,T,ub,f2,h2):=h2;subst e;have hD:H2 s2.heap.objs.size=none:=I2.bp.fresh (bL _);let(W,(m0,w0),turn):=h2 _ _ (Nw.of hD);erw[ko (wpAny_newFunctionEnv sI (by intro y hy;simp at hy) (λh₁ zQ zK=>?_) nu)];have vg:∀b∈fp,b<s2.heap.objs.size:=λb hb=>by let(o,e,_):=T.obj _ _ ub b hb;erw[bX e]
 have I3:Inv X pins O (upd H2 s2.heap.objs.size (.lst [])) {s2 with heap:=s2.heap.push {cls:=.type "list",dict:=none,data:=.seq ([]:List Value).toArray}}:=I2.SY (its:=[]) (t':=s2.toks) .nil (fT _);generalize A5:s2.heap.push {cls:=.type "list",dict:=none,data:=.seq ([]:List Value).toArray}=h3 at I3 zQ zK;have yI:h3.objs.size=s2.heap.objs.size+1:=by rw[<-A5,qX]
 have JE:∀b o,s2.heap.get? b=some o->h3.get? b=some o:=λb o e=>by rw[<-A5];erw[bZ _ e]
 have f3:∀b∈fp,lT X pins (upd H2 s2.heap.objs.size (.lst [])) b:=λb hb=>#[by rw[aQ (dI (vg b hb))];exact(f2 b hb).1,(f2 b hb).2];have zE:∀b o,h3.get? b=some o->h₁.get? b=some o:=λb o e=>(zK.2 b (dI (bX e))).trans (bZ _ e);have I4:Inv (fZ X N scope cl {s2 with heap:=h3} (upd H2 s2.heap.objs.size (.lst [])) fp pins) [] (stC js O) (upd H2 s2.heap.objs.size (.lst [])) {s2 with heap:=h₁,toks:=s2.toks+([]:List (Str×Value)).length}:=I3.comp (s:={s2 with heap:=h3}) hN hS c1 c2 f3 (λb hb=>by show b<h3.objs.size;rw[yI];erw[MD (vg b hb)]) (by simpa using zQ) zE;have yM:tn 0 h₁:=T.keep _ _ _ ub λb _ o e=>zE b o (JE b o e);have loop:codeAny (model X.prog X.w) X.A (.compLoop (.ListComp elt [#[tg,iter,ifs,0]] scope pos) 0 (.ref it) (.ref s2.heap.objs.size) (compEnvC scope cl h3.objs.size X.env)) (compPost (model X.prog X.w) X.A X.xe (some (assign (.Name x0 wx) X.env)) (λ_ s'=>SP X pins D0 .next s') (.ref s2.heap.objs.size) h3.objs.size) {s2 with heap:=h₁,toks:=s2.toks+([]:List (Str×Value)).length}:=by
  erw[VP (λn s'=>∃i σ' H',Inv (fZ X N scope cl {s2 with heap:=h3} (upd H2 s2.heap.objs.size (.lst [])) fp pins) [] σ' H' s'/\tn i s'.heap/\(∀b∈fp,H' b=none)/\W i n σ' H') ?_ m0 #[0,_,_,I4,yM,λb hb=>(f3 b hb).1,w0]];rintro n s5 ⟨i,σ5,H5,I5,pI,vf,w5⟩;have mK:∀{H':Hp},(∀b∈fp,H' b=none)->∀b∈fp,lT (fZ X N scope cl {s2 with heap:=h3} (upd H2 s2.heap.objs.size (.lst [])) fp pins) [] H' b:=λ{H'} hn b hb=>by
   let(_,q1,q2,q3,q4,q5):=f3 b hb;erw[hn b hb,λz=>?_,I4.ok.qC b hb,.inl hb,λx c e=>q4 x c (c1 x c e),λp hp=>q5 p (by simpa[fZ]using hp)];have cy:b<h3.objs.size:=by rw[yI];erw[MD (vg b hb)]
   erw[dI cy z]
  rcases turn i n σ5 H5 w5 with⟨stop,qn⟩|⟨go,step⟩
  ·erw[aZ (T.done (fZ X N scope cl {s2 with heap:=h3} (upd H2 s2.heap.objs.size (.lst [])) fp pins) rfl rfl rfl hc i [] s5 σ5 H5 _ I5 (mK vf) pI stop) λr s6 #[hr,I6]=>?_]
   subst hr;let(m,hm,_):=I6.loc;have u0:Un (fj X.stack) fp (upd H2 s2.heap.objs.size (.lst [])) H5 h3 s6.heap:=I6.au;have I7:Inv X pins O H5 s6:=I3.E9 (s':=s6) (ch:=fp) I6.os u0 I6.bp I6.bare λb hb=>#[(f3 b hb).2.2.2.1,(f3 b hb).2.1,(f3 b hb).2.2.2.2.1,(f3 b hb).2.2.2.2.2];have hC:lT X pins H5 h3.objs.size:=I3.qz (bL _) I6.free;show wpAny _ X.A (assign (.Name x0 wx) X.env (.ref s2.heap.objs.size)) _ _ s6;erw[wpAny_assign_Name (Nz I7 hNd hix U9 (show RelV (.ref s2.heap.objs.size) (.ref s2.heap.objs.size)from Z) (λs8 I8 hsb=>?_) hf0)];let(a,sb,ha):=hsb;have hCa:h3.objs.size≠a:=by
    rcases ha with rfl|ha
    ·erw[hC.2.1]
    ·erw[λz=>hC.2.2.2.2.1 x0 a ha z.symm]
   erw[m,hm.sameBut sb hCa,λh9 hs9=>#[_,H5,?_,qn]];erw[I8.EV (t':=s8.toks) (fp:=[h3.objs.size]) (λb o hb e=>hs9.extBut b o (λz=>hb (by simp[z])) e) λb hb=>by rw[cn.mp hb];erw[hC]]
  ·erw[aZ (T.item (fZ X N scope cl {s2 with heap:=h3} (upd H2 s2.heap.objs.size (.lst [])) fp pins) rfl rfl rfl hc i [] s5 σ5 H5 _ I5 (mK vf) pI go) λr s6 #[u,hr,h6]=>?_]
   subst hr;erw[aZ h6 λ_ s7 #[x,H7,I7,r7,y7,pH,KI]=>?_];have Ma:=I7.pinned (mK KI) (T.obj _ _ pH);erw[aZ (hg _ _ _ _ _ _ s7 σ5 H7 x u _ Ma r7 (step x H7 y7)) λ_ s8 #[σ8,H8,I8,q8]=>?_];erw[aZ (ht _ _ _ _ _ _ s8 σ8 H8 _ I8 q8) λok s9 #[H9,I9,q9]=>?_];have again:∀{s':ae}{σ7:St}{H7:Hp},Inv (fZ X N scope cl {s2 with heap:=h3} (upd H2 s2.heap.objs.size (.lst [])) fp pins) ([]++wB fp s7.heap) σ7 H7 s'->(∃m',m'<n/\W (i+1) m' σ7 H7)->∃m,m<n/\∃i σ' H',Inv (fZ X N scope cl {s2 with heap:=h3} (upd H2 s2.heap.objs.size (.lst [])) fp pins) [] σ' H' s'/\tn i s'.heap/\(∀b∈fp,H' b=none)/\W i m σ' H':=λ{s' σ7 H7} J7 n7=>by let(m',hm,w7):=n7;erw[m',hm,i+1,σ7,H7,J7.yB,T.keep _ _ _ pH λb hb o e=>(J7.pin (b,o) (kY _ (kY _ (x8 hb e)))).1,λb hb=>?_,w7];let(o,e,d):=T.obj _ _ pH b hb;exact(J7.pin (b,o) (kY _ (kY _ (x8 hb e)))).2.1
   cases ok with |false=>rw[bj dX]at q9⊢;erw[again I9 q9] |true=>rw[bo rfl]at q9⊢;erw[aZ (he _ _ _ _ _ _ s9 σ8 H9 _ I9 q9) λyv za #[y,pj,Mc,Il,ys,CV,hz,qZ]=>?_];erw[aZ (Jd _ za σ8 pj (.ref s2.heap.objs.size) [y] (.ref s2.heap.objs.size) [yv] (λ_ jb=>∃m',m'<n/\W (i+1) m' σ8 jb) Mc Z (.cons Il .nil) #[_,ys,y,Z,Z,CV,hz,qZ]) λ_ z9 #[v11,jb,Mb,r11,Im]=>?_];erw[again Mb Im]
 erw[codeAny_compStart_list loop (T.self _ 0 _ _ _ yM loop)]
theorem hJ.Lr{X:Cx}{st:Stmt}{rest:List Stmt}{t u:TS}(h1:WG X st t)(h2:g9 X rest u):hJ X (st::rest) (yG t u):=by intro s O H D I h;erw[Mg (aZ (h1 s O H {D with nx:=u D} I h) λf s1 q=>?_)];cases f with |next=>let(σ',H',I',q):=q;erw[h2 [] s1 σ' H' D I' q] |ret v=>erw[q] |brk=>erw[q] |cont=>erw[q]
theorem E8:∀{zs:List Str}{us:List Value},Vals (zs.map V.str) us->CarriedAll us (zs.map PyData.str) |[],_,.nil=>.nil |z::zs,_,.cons q r=>by let(t,rfl):=(show∃t,_=Value.str z t from q);erw[.cons (.str z t) (E8 r)]
section
variable {X:Cx}
end
section
variable {X:Cx}{pins:List (Addr×Obj)}{O:St}{H:Hp}{s:ae}
end
section
variable {X:Cx}
theorem ach:fq X (.type "range") (λxs H Q=>∃n,xs=[.int n]/\∀p H',Nw H H' p (.uq 0 n)->Q (.ref p) H'):=by intro pins s O H xs us Q I r h;let(n,rfl,q):=h;let(u,rfl,t,rfl):=vals1 r;erw[call_range_1 ?_];have hf:H s.heap.objs.size=none:=I.bp.fresh (bL _);erw[.ref s.heap.objs.size,upd H s.heap.objs.size (.uq 0 n),I.laid (t':=s.toks+1+1) (λb u e=>bZ _ e) (bL _) ?_,Z,q _ _ (.of hf)];erw[_,_,_,dD _ Z]
end
theorem Za:isSubtype (.type "range_iterator") (.type "reversed")=pure false:=by rw[isSubtype_type];kernel_rfl
section
variable {prog:af}{w:World}{A:ah}{E:Value->ae->Prop}{s:ae}
abbrev zd(n:Nat):Obj:={cls:=.type "range_iterator",data:=.fields (List.toArray [rawInt (0+((n:Int)-1)*1),rawInt (n:Int),rawInt (-1)])}
abbrev HK(n:Nat):Bool:=Builtin.Range.rangeFitsLong 0&&Builtin.Range.rangeFitsLong n&&Builtin.Range.rangeFitsLong 1&&Builtin.Range.rangeFitsLong (-1)&&Builtin.Range.rangeFitsLong (0-1)&&Builtin.Range.rangeFitsLong (Builtin.Range.rangeSize 0 n 1)
theorem QI{n:Nat}(h:n<2^62):HK n=true:=by unfold HK;rw[rangeSize_one];simp only[Builtin.Range.rangeFitsLong,fb,AU];split<;>lia
theorem a0Q(r:Addr)(a b c:Int)(t u v:Tok)(hc0:¬(!(Builtin.Range.rangeFitsLong a&&Builtin.Range.rangeFitsLong b&&Builtin.Range.rangeFitsLong c&&Builtin.Range.rangeFitsLong (-c)&&Builtin.Range.rangeFitsLong (a-c)&&Builtin.Range.rangeFitsLong (Builtin.Range.rangeSize a b c)))=true):Meets (Builtin.«range.__reversed__» #[[.ref r],[]]) (λ_ R s=>s.heap.get? r=some {cls:=.type "range",dict:=none,data:=.fields (List.toArray [.int a t,.int b u,.int c v]),slots:=#[]}/\R (.ok (.ret (.ref s.heap.objs.size))) {s with heap:=s.heap.push {cls:=.type (if(Builtin.Range.rangeFitsLong a&&Builtin.Range.rangeFitsLong b&&Builtin.Range.rangeFitsLong c&&Builtin.Range.rangeFitsLong (-c)&&Builtin.Range.rangeFitsLong (a-c)&&Builtin.Range.rangeFitsLong (Builtin.Range.rangeSize a b c))=true then "range_iterator" else "longrange_iterator"),data:=.fields (List.toArray [rawInt (a+(Builtin.Range.rangeSize a b c-1)*c),rawInt (Builtin.Range.rangeSize a b c),rawInt (-c)])},toks:=s.toks}):=.of_wp λprog w A R s h=>by
 let(hp,g,d,tk,os):=s;let(hl,h):=h
 wp_walk;erw[_,Z,h]
theorem acf{l:Addr}{n:Nat}{t u v:Tok}{Q:Value->ae->Prop}(hn:n<2^62)(hl:s.heap.get? l=some {cls:=.type "range",data:=.fields (List.toArray [.int 0 t,.int n u,.int 1 v])}) (h:Q (.ref s.heap.objs.size) {s with heap:=s.heap.push (zd n)}):wpAny (model prog w) A (call (.builtin "range.__reversed__") [.ref l]) Q E s:=by
 have hT:s.TypeIs (.ref l) "range":=#[_,hl,Z];erw[AW Xr hT F.entry_range_reversed (F.args_range_reversed_1 _) (a0Q l 0 n 1 t u v (by have:=QI hn;unfold HK at this;rw[this];decide)) #[hl,?_]];rw[bo (QI hn)];have e:Builtin.Range.rangeSize 0 n 1=n:=by rw[rangeSize_one];split<;>lia
 rw[e];erw[h]
theorem acb{l:Addr}{n:Nat}{t u v:Tok}{Q₁:Value->ae->Prop}(hn:n<2^62)(hl:s.heap.get? l=some {cls:=.type "range",data:=.fields (List.toArray [.int 0 t,.int n u,.int 1 v])}) (h:Q₁ (.ref s.heap.objs.size) {s with heap:=s.heap.push (zd n)}): codeAny (model prog w) A (.call (.builtin "reversed.__new__") #[[.type "reversed",.ref l],[]]) (wants Q₁ E) s:=by
 have hT:s.TypeIs (.ref l) "range":=#[_,hl,Z];erw[codeAny_of_tree ?_];show wpAny _ A.in1 (do checkBuiltinCall "reversed.__new__" #[[.type "reversed",.ref l],[]];again (.builtin "reversed.__new__" #[[.type "reversed",.ref l],[]])) _ _ s;erw[aJ (tH (F.newCall_reversed_1 _) (cg #[Eo F.plain_reversed_new _,AV F.entry_reversed_new ?_]))];rw[EJ F.plain_reversed_new _];unfold Builtin.«reversed.__new__»;erw[aJ (tH (newClass_reversed _) ?_)]
 try dsimp only
 erw[aJ (tH (a:=()) (by first|rfl|kernel_rfl) ?_)];erw[aJ (tH (a:=()) (by first|rfl|kernel_rfl) ?_)]
 try dsimp only
 erw[aJ (vF hT Xr.lookup ?_)]
 try dsimp only
 erw[aJ (tH (Xr.bind _) ?_)]
 try dsimp only
 first |rw[bj (show¬((Value.builtin "range.__reversed__"==Value.none)=true)from dX)] |(show wpAny _ _ (if(Value.builtin "range.__reversed__"==Value.none)=true then _ else _) _ _ _;rw[bj (show¬((Value.builtin "range.__reversed__"==Value.none)=true)from dX)])
 erw[aJ (xZ ?_)];erw[aJ (m:=runValue (.call (.builtin "range.__reversed__") #[[.ref l],[]])) (show wpAny _ _ (call (.builtin "range.__reversed__") [.ref l]) _ _ _ from acf hn hl ?_)]
 first |erw[cg h] |erw[aJ (cg (cg h))]
theorem acg{l:Addr}{n:Nat}{t u v:Tok}{Q:Value->ae->Prop}(hn:n<2^62)(hl:s.heap.get? l=some {cls:=.type "range",data:=.fields (List.toArray [.int 0 t,.int n u,.int 1 v])}) (h:Q (.ref s.heap.objs.size) {s with heap:=s.heap.push (zd n)}):wpAny (model prog w) A (call (.type "reversed") [.ref l]) Q E s:=by erw[callType_other (U:="range_iterator") (Q₁:=λobj s₁=>obj= .ref s.heap.objs.size/\s₁={s with heap:=s.heap.push (zd n)}) aG F.create_reversed #[_,_,F.mro_reversed] F.made_reversed Za (F.typeCall_reversed_1 _) (acb hn hl #[Z,Z]) ?_];rintro obj s₁ ⟨rfl,rfl⟩;erw[#[_,dD _ Z,Z],h]
end
def AL(n:Nat):It:=#[λi _=>i<n,λi H x H'=>H'=H/\x= .int ((n:Int)-1-i),λi _=>n<=i]
theorem Yg{P:af}{w:World}{K:aa}{tg:Expr}(it:Addr)(n:Nat):Turn P w K tg (AL n) [it] it (λi h=>IsRangeIter h it ((0+((n:Int)-1)*1)+(i:Nat)*(-1)) ((n:Int)-(i:Nat)) (-1)) where
 mem:=by simp
 obj:=λi h st b hb=>by
  have e:b=it:=by simpa using hb
  subst e;erw[_,st,λv z=>by have z':Data.fields _=Data.cell v:=z;cases z']
 keep:=λi h h' st k=>k it (by simp) _ st
 item:=by
  intro X hP hw hK hc i pins s O H E I hf st hg;subst hP hw hK;let(f0,f1,f2,f3,f4,f5):=hf it (by simp);have W:=Walks.range (prog:=X.prog) (w:=X.w) (I.ok.hd hc) it (0+((n:Int)-1)*1) (-1) n;erw[W.item i s _ _ hg st λv h' tk hv ig kk=>?_];let(t,rfl):=hv;have I1:Inv X pins O H {s with heap:=h',toks:=tk}:=I.turned (λb o hb e=>kk b o (by simpa using hb) e) f0 f1 f3 f4 f5;erw[_,Z,Ab (s:={s with heap:=h',toks:=tk}) (n:="range_iterator") ig rfl rfl aw #[.int ((n:Int)-1-i),H,I1,#[t,?_],#[Z,Z],ig,λb hb=>(hf b hb).1]];have e:(0+((n:Int)-1)*1)+(i:Int)*(-1)=(n:Int)-1-i:=by lia
  rw[e]
 done:=by intro X hP hw hK hc i pins s O H E I hf st hg;subst hP hw hK;let(f0,f1,f2,f3,f4,f5):=hf it (by simp);erw[wpAny_pyNext_range_end (I.ok.hd hc) st (by have:n<=i:=hg;lia) λh' eb=>#[Z,I.turned (t':=s.toks) (λb o hb e=>eb b o hb e) f0 f1 f3 f4 f5]]
 self:=λ_ _ _ _ _ st h=>WO st h
inductive afu(R:It->Hp->Prop)(vs:List V)(H1:Hp):Prop |mk (p:_)(n:_)(h0:vs=[.ref p])(h1:H1 p=some (.uq 0 n))(h2:0<=n)(h3:n<2^62)(h4:R (AL n.toNat) H1)
def a6O(ta:TA):TI:=λO H R=>ta O H λvs H1=>afu R vs H1
theorem a1H(hg:Gl X "reversed")(hm:X.mg "reversed"=none)(ha:PA X [a] ta)(hs:autoParam (starEach [a] X.env=[(false,eval a X.env)]) r8_._auto_1)(jm:autoParam (starEach [] X.env=[]) r8_._auto_1): PI X tg (.Call (.Name "reversed" p) [a] [] pos) (a6O ta):=by
 intro pins s O H R I h;erw[Call_ (qg I hg hm X9 (yi (aZ (ha pos pins s O H _ I h) λus s1 #[vs,H1,I1,r1,q1]=>?_) (by rw[hs,jm]) (by rw[jm];rfl)))];let(l,n,e,hl,n0,n1,q):=q1;subst e;let(u1,rfl,uk):=vals1 r1;cases(show u1=Value.ref l from uk);obtain⟨t,u,v,e⟩:∃t u v,s1.heap.get? l=some {cls:=.type "range",data:=.fields (List.toArray [.int 0 t,.int n u,.int 1 v])}:=I1.bp l _ hl;obtain⟨m,rfl⟩:∃m:Nat,n=m:=#[n.toNat,ao];erw[acg ao e ?_];have hit:IsRangeIter (s1.heap.push (zd m)) s1.heap.objs.size ((0+((m:Int)-1)*1)+((0:Nat):Int)*(-1)) ((m:Int)-((0:Nat):Int)) (-1):=by
  have e1:(0+((m:Int)-1)*1)+((0:Nat):Int)*(-1)=0+((m:Int)-1)*1:=by lia
  have e2:(m:Int)-((0:Nat):Int)=m:=by lia
  rw[e1,e2];erw[dD _ rfl]
 erw[WO hit ?_];erw[s1.heap.objs.size,[s1.heap.objs.size],_,_,H1,Z,I1.kept (t':=s1.toks) λb o e=>bZ _ e,Yg _ m,hit,λb hb=>?_,q];have e:b=s1.heap.objs.size:=by simpa using hb
 subst e;erw[I1.qz (bL _) (I1.bp.fresh (bL _))]
theorem a9P{n:Nat}{g:TG}{tb:TS}{D:Ends}{O:St}{H:Hp}(Pv:Nat->St->Hp->Prop)(h0:Pv 0 O H) (hs:∀i O H,i<n->Pv i O H->g (.int ((n:Int)-1-i)) O H λσ2 H2=>tb {D with nx:=Pv (i+1),ct:=Pv (i+1),bk:=D.nx} σ2 H2)(hd:∀O H,Pv n O H->D.nx O H): ∃W:Nat->Nat->St->Hp->Prop,(∃m,W 0 m O H)/\∀i m O H,W i m O H->((AL n).stop i H/\D.nx O H)\/((AL n).go i H/\∃N:St->Hp->Prop,(∀σ' H',N σ' H'->∃m',m'<m/\W (i+1) m' σ' H')/\∀x H',(AL n).lA i H x H'->g x O H' λσ2 H2=>tb {D with nx:=N,ct:=N,bk:=D.nx} σ2 H2):=by
 erw[λi m O H=>m=n-i/\i<=n/\Pv i O H,#[n,by simp,fT _,h0],?_];rintro i m O H ⟨rfl,hi,p⟩;by_cases cy:i<n
 ·erw[.inr #[cy,Pv (i+1),λσ' H' q=>#[n-(i+1),ao,Z,cy,q],λx H' hy=>?_]]
  let(rfl,rfl):=hy;erw[hs i O _ cy p]
 ·have e:i=n:=by lia
  subst e;erw[.inl #[bL _,hd O H p]]
theorem zh(K:aa){X:Cx}(hK:X.K=K){a:Expr}{ta:TE}(ha:PE X a ta)(he:autoParam (∀whole,isTrue a X.env whole=(do let v<-whole;standAt a.pos;holding [v] (truthy v))) d8_._auto_1): PT X a (λO H Q=>ta O H λx H'=>∃k,LY K x H' k/\Q k H'):=by subst hK;erw[a1s ha he]
end _L
namespace _C
open _l
def gw(ns ms:List Int):List Int:=(ns.zip ms).map λp=>p.1*(aK ms:Int)-p.2*(aK ns:Int)
theorem a5g(h:z∈gw ns ms):∃a b,a∈ns/\b∈ms/\z=a*(aK ms:Int)-b*(aK ns:Int):=by let((a,b),hp,rfl):=dC.mp h;erw[a,b,(yl hp).1,(yl hp).2,Z]
theorem oG{b:Int}{n:Nat}(h:a.natAbs<=m)(g:b.natAbs<=n):(a*b).natAbs<=m*n:=by rw[gz];erw[nX h g]
theorem Lq(h1:∀z∈ns,z.natAbs<=1000)(h2:∀z∈ms,z.natAbs<=1000):∀z∈gw ns ms,z.natAbs<=2000000:=λz hz=>by let(a,b,ha,hb,rfl):=a5g hz;have l1:=qe h1;have l2:=qe h2;have e1:=oG (b:=(aK ms:Int)) (n:=1000) (h1 a ha) bB;have e2:=oG (b:=(aK ns:Int)) (n:=1000) (h2 b hb) bB;omega
def sF(zs:List Int)(i:Nat):Nat:=aK (zs.take i)
theorem Tj:∀(xs ys:List Int),aK (xs++ys)=max (aK xs) (aK ys) |[],ys=>by simp[aK] |x::xs,ys=>by show max x.natAbs (aK (xs++ys))=max (max x.natAbs (aK xs)) (aK ys);rw[Tj xs ys];lia
theorem a7R(h:zs[i]? =some z):sF zs (i+1)=max (sF zs i) z.natAbs:=by
 unfold sF;rw[tQ,h,Tj];show max _ (max z.natAbs 0)=_
 lia
def vq(r:Rat):Rat:=if r.num<0 then-r else r
theorem ad4(r:Rat):(vq r).num=gP r.num:=by
 unfold vq gP;split
 ·rfl
 ·rfl
theorem ad6(r:Rat):(vq r).den=r.den:=by
 unfold vq;split
 ·rfl
 ·rfl
theorem abR{b:Int}(hb:0<b):0<=(Rat.divInt a b).num↔0<=a:=by rw[Mp,yf hb]
theorem ad5(hL:0<L):vq (Rat.divInt c L)=Rat.divInt (gP c) L:=by
 have h:=abR (a:=c) hL;unfold vq gP;by_cases hc:c<0
 ·rw[bo hc,bo ao,Rat.neg_divInt]
 ·rw[bj hc,bj ao]
theorem Lk{b:Int}(hL:0<L):Rat.divInt a L<=Rat.divInt b L↔a<=b:=by
 rw[Rat.le_iff_sub_nonneg,WX _ _ ao ao,yf (jg hL hL),<-Int.sub_mul];constructor
 ·intro h
  have:=Int.nonneg_of_mul_nonneg_left h hL
  lia
 ·intro h
  erw[iJ ao ao]
theorem Vx{b:Int}(hL:0<L):Rat.divInt a L<Rat.divInt b L↔a<b:=by rw[<-Rat.not_le,Lk hL];lia
theorem Z9{b:Int}(h1:0<l1)(h2:0<l2):Rat.divInt b l2-Rat.divInt a l1=Rat.divInt (b*l1-a*l2) (l1*l2):=by rw[WX _ _ ao ao,qW l2 l1]
theorem ac4(hp:p≠0)(hh:h≠0)(e:p*L=h*q):Rat.divInt (j*j*q*q) (p*p)=Rat.divInt ((j*L)^2) (h^2):=by
 rw[Rat.divInt_eq_divInt_iff (ML hp hp) (by rw[gI,gI,o8,mH];erw[ML hh hh])];have e2:(p*L)*(p*L)=(h*q)*(h*q):=by rw[e]
 rw[gI,gI,o8,mH,gI,gI,o8,mH];have a1:j*j*q*q*(h*h)=(j*j)*((h*q)*(h*q)):=by ac_rfl
 have a2:j*L*(j*L)*(p*p)=(j*j)*((p*L)*(p*L)):=by ac_rfl
 rw[a1,a2,e2]
end _C
namespace _P
def mn(a b:Rat):Rat:=if b<a then b else a
theorem iq(a b:Rat):mn a b<=a:=by
 unfold mn;split
 ·next h=>erw[Rat.le_of_lt h]
 ·erw[tK]
theorem mY(a b:Rat):mn a b<=b:=by
 unfold mn;split
 ·erw[tK]
 ·next h=>erw[Es.mp h]
theorem oM{b:Rat}(h1:c<=a)(h2:c<=b):c<=mn a b:=by unfold mn;split<;>assumption
theorem CD(a b:Rat):mn a b=a\/mn a b=b:=by
 unfold mn;split
 ·erw[.inr rfl]
 ·erw[.inl rfl]
theorem zC{b:Rat}(hc:c=a\/c=b)(h1:c<=a)(h2:c<=b):mn a b=c:=by
 rcases hc with rfl|rfl
 ·erw[Mq (iq _ _) (oM h1 h2)]
 ·erw[Mq (mY _ _) (oM h1 h2)]
theorem a66{b:Rat}(h:a<=b)(hc:0<=c):a<=b+c:=eT h (by have:=(Rat.add_le_add_left (c:=b)).mpr hc;rwa [Rat.add_zero]at this)
section
variable (n:Nat)(own:Nat->Rat)(L:Nat->Option Nat)(r f:Int)
def Pz(g:Nat->Rat):Nat->Rat |0=>g n |k+1=>match L (n-(k+1))with |some m=>mn (g (n-(k+1))) (Pz g k+((f*(m:Int):Int):Rat)) |none=>g (n-(k+1))
def fl(g:Nat->Rat)(i:Nat):Rat:=Pz n L f g (n-i)
end
section
variable {n:Nat}{own g:Nat->Rat}{L:Nat->Option Nat}{r f:Int}
theorem DL:fl n L f g n=g n:=by unfold fl;rw[Ey];rfl
theorem DM(hi:i<n)(h:L i=some m):fl n L f g i=mn (g i) (fl n L f g (i+1)+((f*(m:Int):Int):Rat)):=by
 unfold fl;have e:n-i=(n-(i+1))+1:=by omega
 rw[e];show(match L (n-((n-(i+1))+1))with|some m=>_|none=>_)=_;have e2:n-((n-(i+1))+1)=i:=by omega
 rw[e2,h]
theorem DK(hi:i<n)(h:L i=none):fl n L f g i=g i:=by
 unfold fl;have e:n-i=(n-(i+1))+1:=by lia
 rw[e];show(match L (n-((n-(i+1))+1))with|some m=>_|none=>_)=_;have e2:n-((n-(i+1))+1)=i:=by lia
 rw[e2,h]
theorem down{C:Nat->Prop}(hn:C n)(hs:∀i,i<n->C (i+1)->C i):∀i,i<=n->C i:=by
 have key:∀k,k<=n->C (n-k):=λk=>by induction k with |zero=>intro _;erw[hn] |succ k ih=>
  intro hk;erw[hs _ bB ?_];have e:n-(k+1)+1=n-k:=by omega
  rw[e];erw[ih bB]
 intro i hi;have:=key (n-i) bB;have e:n-(n-i)=i:=by omega
 rwa [e]at this
end
open _r
theorem CF{n:Nat}{b:Rat}(h1:Bd n a)(h2:Bd n b):Bd n (mn a b):=by rcases CD a b with e|e<;>rw[e]<;>assumption
theorem LU{n:Nat}{q:Rat}{z:Int}(h:Bd n q)(hz:z.natAbs<2^24):Bd (n+25) (q+(z:Rat)):=by have b:Bd 24 (z:Rat):=#[hz,by show 1<2^24;decide];exact(h.add b).mono ao
theorem a9U{n b:Nat}{g:Nat->Rat}{L:Nat->Option Nat}{f:Int}(ho:∀i,i<=n->Bd b (g i))(hL:∀i m,L i=some m->(f*(m:Int)).natAbs<2^24):∀i,i<=n->Bd (b+25*(n-i)) (fl n L f g i):=by
 erw[down ?_ λi hi ih=>?_]
 ·rw[DL];exact(ho n (bL _)).mono ao
 ·cases h:L i with |none=>rw[DK hi h];exact(ho i ao).mono ao |some m=>rw[DM hi h];erw[CF ((ho i ao).mono ao) ((LU ih (hL i m h)).mono ao)]
def lst(n:Nat)(g:Nat->Rat):List Rat:=(List.range (n+1)).map g
theorem uN(n:Nat)(g:Nat->Rat):(lst n g).length=n+1:=by simp[lst]
theorem uO{n:Nat}(g:Nat->Rat){i:Nat}(h:i<=n):(lst n g)[i]? =some (g i):=by unfold lst;rw[cv,cE (by simp;lia),EE];rfl
theorem a5G{n:Nat}(h:∀k,k<=n->k≠i->g' k=g k):(lst n g).set i (g' i)=lst n g':=by
 apply yw;intro k;by_cases hk:k<=n
 ·rw[uO g' hk,List.getElem?_set]
  by_cases e:i=k
  ·subst e;rw[bo rfl,bo (by rw[uN];lia)]
  ·rw[bj e,uO g hk,h k hk (λz=>e z.symm)]
 ·rw[nZ (by rw[yp,uN];lia),nZ (by rw[uN];lia)]
theorem Jm{n:Nat}(h:∀k,k<=n->g' k=g k):lst n g=lst n g':=by
 apply yw;intro k;by_cases hk:k<=n
 ·rw[uO g hk,uO g' hk,h k hk]
 ·rw[nZ (by rw[uN];lia),nZ (by rw[uN];lia)]
end _P
namespace _O
open _P _C _l _r
abbrev Itm:=Option (List Int × Int)
def topR(aA sp:Int):Rat:=Rat.divInt ((sp*aA)^2) 10000
def cornO(j:Int)(ns ms:List Int):Option Rat:=if aK (gw ns ms)=0 then none else some (Rat.divInt ((j*aK ns*aK ms)^2) ((aK (gw ns ms):Int)^2))
def mnO(a:Rat):Option Rat->Rat |none=>a |some c=>mn a c
def betR(j aA:Int):Itm->Itm->Rat |some (ns,sp),some (ms,sq)=>mnO (mn (topR aA sp) (topR aA sq)) (cornO j ns ms) |_,_=>0
def atO(os:List Itm)(i:Nat):Itm:=(os[i]?).join
def ownF(j aA:Int)(os:List Itm):Nat->Rat |0=>0 |i+1=>betR j aA (atO os i) (atO os (i+1))
def leadF(os:List Itm)(i:Nat):Option Nat:=(atO os i).map λq=>aK q.1
def ownL(j aA:Int)(os:List Itm):List Rat:=(List.range (os.length+1)).map (ownF j aA os)
theorem Ee(h:os[i]? =some o):atO os i=o:=by unfold atO;rw[h];rfl
theorem acO(h:os.length<=i):atO os i=none:=by unfold atO;rw[nZ h];rfl
theorem Wa(j aA:Int)(o:Itm):betR j aA o none=0:=by unfold betR;split<;>simp_all
theorem acE(j aA:Int)(o:Itm):betR j aA none o=0:=by unfold betR;split<;>simp_all
theorem a2i(j aA:Int)(os:List Itm):∀n,n=os.length->ownF j aA os n=0 |0,_=>rfl |n+1,h=>by show betR j aA (atO os n) (atO os (n+1))=0;rw[acO (i:=n+1) ao];erw[Wa _ _ _]
theorem a2e(j aA:Int)(os:List Itm):(ownL j aA os).length=os.length+1:=by simp[ownL]
theorem a2f(j aA:Int)(os:List Itm){i:Nat}(h:i<=os.length):(ownL j aA os)[i]? =some (ownF j aA os i):=by unfold ownL;rw[cv,cE (by simp;lia),EE];rfl
theorem a2g(j aA:Int){os:List Itm}(h:os≠[]):ownL j aA os=[0]++(List.range (os.length-1)).map (λi=>ownF j aA os (i+1))++[0]:=by
 have h0:0<os.length:=ED.mpr h;apply yw;intro i;by_cases hi:i<=os.length
 ·rw[a2f j aA os hi]
  rcases Nat.eq_zero_or_pos i with rfl|hp
  ·rfl
  ·by_cases hl:i=os.length
   ·rw[yu (by simp;lia),hl,a2i j aA os _ rfl]
    have:os.length-([0]++List.map (λi=>ownF j aA os (i+1)) (List.range (os.length-1))).length=0:=by simp;lia
    rw[this];rfl
   ·rw[vO (by simp;lia),yu (by simp;lia),cv]
    have e:i-[(0:Rat)].length=i-1:=rfl;rw[e,cE (by simp;lia),EE];show some _=some (ownF j aA os (i-1+1));rw[Nat.sub_add_cancel hp]
 ·rw[nZ (by rw[a2e];lia),nZ (by simp;lia)]
theorem Bx(aA sp:Int):0<=topR aA sp:=by
 unfold topR;rw[yf aw,gI,gI,o8,mH];rcases Int.le_total 0 (sp*aA)with h|h
 ·erw[iJ h h]
 ·erw[Xo h h]
theorem Zt(a:Int):0<=a^2:=by
 rw[gI,gI,o8,mH];rcases Int.le_total 0 a with h|h
 ·erw[iJ h h]
 ·erw[Xo h h]
theorem ac5(h:cornO j ns ms=some c):0<=c:=by
 unfold cornO at h;split at h
 ·cases h
 ·next h0=>
  cases h;rw[yf]
  ·erw[Zt _]
  ·rw[gI,gI,o8,mH];erw[jg ao ao]
theorem acF(j aA:Int)(o p:Itm):0<=betR j aA o p:=by
 unfold betR;split
 ·next ns sp ms sq=>
  have h:=oM (Bx aA sp) (Bx aA sq);unfold mnO;split
  ·erw[h]
  ·next c e=>erw[oM h (ac5 e)]
 ·erw[tK]
theorem a2h(j aA:Int)(os:List Itm):∀i,0<=ownF j aA os i |0=>tK |i+1=>acF _ _ _ _
def OkI(o:Itm):Prop:=∀ns sp,o=some (ns,sp)->(∀z∈ns,(z.natAbs:Int)<=100)/\1<=sp/\sp<=20
theorem Fe{a:Int}{m:Nat}(h:a.natAbs<=m):(a^2).natAbs<=m*m:=by rw[gI,gI,o8,mH];erw[oG h h]
theorem Bz{aA:Int}(h1:1<=sp)(h2:sp<=20)(h3:10<=aA)(h4:aA<=200):Bd 64 (topR aA sp):=by
 have qy:(2:Nat)^64=18446744073709551616:=by decide
 have a:=Fe (oG (a:=sp) (b:=aA) (m:=20) (n:=200) ao ao);erw[kK aw (by rw[qy];lia) aw]
theorem VL(h1:1<=j)(h2:j<=50)(hn:∀z∈ns,(z.natAbs:Int)<=100)(hm:∀z∈ms,(z.natAbs:Int)<=100)(h:cornO j ns ms=some c):Bd 64 c:=by
 have qy:(2:Nat)^64=18446744073709551616:=by decide
 have cb:=Lq (λz hz=>by have:=hn z hz;lia) (λz hz=>by have:=hm z hz;lia) (ns:=ns) (ms:=ms);have hb:=qe cb;have l1:=qe (ns:=ns) (m:=100) λz hz=>by have:=hn z hz;lia
 have l2:=qe (ns:=ms) (m:=100) λz hz=>by have:=hm z hz;lia
 unfold cornO at h;split at h
 ·cases h
 ·next h0=>cases h;have a:=Fe (oG (oG (a:=j) (b:=(aK ns:Int)) (m:=50) (n:=100) ao ao) (b:=(aK ms:Int)) (n:=100) ao);have b:=Fe (a:=(aK (gw ns ms):Int)) (m:=2000000) ao;erw[kK ?_ (by rw[qy];lia) (by rw[qy];lia)];rw[gI,gI,o8,mH];erw[ML ao ao]
theorem CF{n:Nat}{b:Rat}(h1:Bd n a)(h2:Bd n b):Bd n (mn a b):=by rcases CD a b with e|e<;>rw[e]<;>assumption
theorem MU:Bd 64 (0:Rat):=#[ aw,aw]
theorem acG{aA:Int}(h1:1<=j)(h2:j<=50)(h3:10<=aA)(h4:aA<=200)(ho:OkI o)(hp:OkI p):Bd 64 (betR j aA o p):=by
 unfold betR;split
 ·next ns sp ms sq=>
  let(a1,a2,a3):=ho ns sp rfl;let(b1,b2,b3):=hp ms sq rfl;have h:=CF (Bz a2 a3 h3 h4) (Bz b2 b3 h3 h4);unfold mnO;split
  ·erw[h]
  ·next c e=>erw[CF h (VL h1 h2 a1 b1 e)]
 ·erw[MU]
def OkIs(os:List Itm):Prop:=∀i,OkI (atO os i)
theorem RR{j aA:Int}{os:List Itm}(h1:1<=j)(h2:j<=50)(h3:10<=aA)(h4:aA<=200)(ho:OkIs os):∀i,Bd 64 (ownF j aA os i) |0=>MU |i+1=>acG h1 h2 h3 h4 (ho i) (ho (i+1))
end _O
namespace _W
open PySem _L
def dH(pl ns:List Int):List Int:=List.zipWith (λa b=>a+b) pl ns
theorem nR{pl:List Int}(h:ns.length=pl.length):(dH pl ns).length=pl.length:=by unfold dH;rw[List.length_zipWith,h];erw[Nat.min_self _]
theorem AB{pl ns:List Int}{i:Nat}{a b:Int}(h1:pl[i]? =some a)(h2:ns[i]? =some b):(dH pl ns)[i]? =some (a+b):=by unfold dH;rw[Xj,h1,h2]
structure fM(rs pl:List Int):Prop where
 len:pl.length=rs.length
 at':∀(i:Nat)(x r:Int),pl[i]? =some x->rs[i]? =some r->0<=x/\x<=r
end _W
namespace _L
open PySem PySem.Spec PyProof.Rows
inductive afk(K:aa)(x:V)(y:V)(H:Hp)(Q:VK):Prop |mk (a:_)(b:_)(xs:_)(ys:_)(h0:x= .ref a)(h1:y= .ref b)(h2:bc K H a xs)(h3:bc K H b ys)(h4:xs.length+ys.length<=sizeLine)(h5:∀c H',aE H H'->bc K H' c (xs++ys)->Q (.ref c) H')
def a1n(K:aa):R2:=λx y H Q=>afk K x y H Q
section
variable {X:Cx}
theorem VX(K:aa)(hK:X.K=K):cU X (binaryOp .Add) (a1n K):=by
 subst hK;intro pins s O H x y v u Q I rx ry h;let(a,b,xs,ys,rfl,rfl,ha,hb,hz,q):=h;cases rx;cases ry;let(its,r1,p1,_):=I.tuple ha;let(lK,r2,p2,_):=I.tuple hb;by_cases e0:xs=[]
 ·subst e0
  have i0:its=[]:=r1.J2.mpr rfl;subst i0;let((cls,dd,data,sl),ho,hc,n,hd):=id p1;let((VR,xH,data2,sl2),mr,gM,n2,hd2):=id p2;simp only at hc hd gM hd2;subst hc hd gM hd2;erw[concat_meets #[_,ho,Z] #[_,mr,Z] noFill_tuple_add seq_tuple_add X3 X5 (X6 _ _) (tuple_addW0 a b _ lK.toArray n n2 dd xH sl sl2 (by simp)) #[ho,mr,#[.ref b,H,I,Z,q _ _ (aE.refl H) hb]]]
 ·erw[_H.acd p1 p2 (λz=>e0 (r1.J2.mp z)) (λz=>#[.ref a,H,I,Z,?_]) (λz=>?_) (by rw[<-r1.length,<-r2.length];erw[hz])]
  ·have e1:ys=[]:=r2.J2.mp z
   subst e1;erw[q _ _ (aE.refl H) (by rw[qU];erw[ha])]
  ·have hf:H s.heap.objs.size=none:=I.bp.fresh (bL _)
   have nw:Nw H (upd H s.heap.objs.size (.tup (xs++ys))) s.heap.objs.size (.tup (xs++ys)):=.of hf;erw[.ref s.heap.objs.size,_,I.laid (t':=s.toks) (o:=.tup (xs++ys)) (λb ob q=>bZ _ q) (bL _) ?_,Z,q _ _ nw.same (bc.of nw.at')];erw[by rw[eP];erw[hz],_,r1.append r2,IsTup.new _ _]
end
theorem VH(xs:List V):jK xs none (some (-1))=xs.take (xs.length-1):=by
 unfold jK;have e:=_H.Lx (-1) xs.length xs.length;rw[_H.QB];have e2:_H.cx xs.length xs.length (some (-1))=xs.length-1:=by simp at e;omega
 rw[e2];simp
section
variable {X:Cx}
theorem a26(K:aa)(h:X.K=K){o e:Expr}{to:TE}{t:TA}{apos bW:Pos}(ho:PE X o to)(ha:PA X [e] t) (iT:autoParam (attributeBase o "extend" X.env (eval o X.env)=eval o X.env) r8_._auto_1) (iS:autoParam (((backTo bW (starEach [e] X.env)).all (λx=>!x.1)&&(backToKw bW (keywordEach [] X.env)).all (λx=>x.1.isSome) &&decide ([e].length+([]:List Keyword).length+(if([]:List Keyword).isEmpty then 0 else 1)<30))=true) r8_._auto_1) (iR:autoParam ((apos.endLine==bW.line)=true) r8_._auto_1)(hs:autoParam (starEach [e] X.env=(false,eval e X.env)::starEach [] X.env) r8_._auto_1)(iQ:autoParam ((backTo bW (starEach [] X.env)).any (·.1)=false) r8_._auto_1): PE X (.Call (.Attribute o "extend" apos) [e] [] bW) (rA K "list" Ro to t):=by subst h;erw[uB PySem.F.plainAttrs_list PySem.F.slot_list_extend PySem.F.type_list_extend a54 ho ha iT iS iR hs iQ]
open PyProof
end
end _L
namespace _L
open PySem PySem.Spec PyProof.Rows
section
variable {K:aa} {H H' H2:Hp}
end
def xV(z:Str):It:=#[λi _=>i<z.cps.size,λi H x H'=>H'=H/\∃c,z.cps.toList[i]? =some c/\x= .str ⟨#[c]⟩,λi _=>z.cps.size<=i]
theorem Yf{P:af}{w:World}{K:aa}{tg:Expr}(it:Addr)(z:Str)(t:Tok)(ty:String)(JO:["enumerate","zip","dict_itemiterator","dict_reverseitemiterator","odict_iterator","itertools.zip_longest","itertools.pairwise"].contains ty=false) (W:∀A':ah,A'.handled=none->Walks P w A' it [it] [it] z.cps.size (SignAt z) (λi h=>h.IsStrIter it ty z t i)) (self:∀(A:ah)(i:Nat)(s:ae)(Q:Value->ae->Prop)(E:Value->ae->Prop),s.heap.IsStrIter it ty z t i->Q (.ref it) s->wpAny (model P w) A (pyIter (.ref it)) Q E s): Turn P w K tg (xV z) [it] it (λi h=>h.IsStrIter it ty z t i/\i<=z.cps.size) where
 mem:=by simp
 obj:=λi h st b hb=>by
  have e:b=it:=by simpa using hb
  subst e;let((o,e,c,d),_):=st;erw[o,e,λv z=>by rw[d]at z;cases z]
 keep:=λi h h' st k=>#[let#[o,e,r]:=st.1;#[o,k it (by simp) o e,r],st.2]
 item:=by intro X hP hw hK hc i pins s O H E I hf st hg;subst hP hw hK;let(f0,f1,f2,f3,f4,f5):=hf it (by simp);refine(W X.A (I.ok.hd hc)).item i s _ _ hg st.1 λv h' tk hv ig kk=>?_;let(c,u,ec,rfl):=hv;have I1:Inv X pins O H {s with heap:=h',toks:=tk}:=I.turned (λb o hb e=>kk b o (by simpa using hb) e) f0 f1 f3 f4 f5;let(o,e,cl,d):=id ig;erw[_,Z,Ab (s:={s with heap:=h',toks:=tk}) e cl d JO #[.str ⟨#[c]⟩,H,I1,#[u,Z],#[Z,c,by simpa using ec,Z],#[ig,hg],λb hb=>(hf b hb).1]]
 done:=by intro X hP hw hK hc i pins s O H E I hf st hg;subst hP hw hK;let(f0,f1,f2,f3,f4,f5):=hf it (by simp);let(st,hle):=st;have ei:i=z.cps.size:=Nat.le_antisymm hle hg;subst ei;exact(W X.A (I.ok.hd hc)).done s _ _ st λh' tk eb=>#[Z,I.turned (λb o hb e=>eb b o (by simpa using hb) e) f0 f1 f3 f4 f5]
 self:=λA i s Q E st h=>self A i s Q E st.1 h
section
variable {X:Cx} {tg:Expr}
inductive afr(R:It->Hp->Prop)(x:V)(H1:Hp):Prop |mk (z:_)(h0:x= .str z)(h1:R (xV z) H1)
def a6L(tl:TE):TI:=λO H R=>tl O H λx H1=>afr R x H1
theorem Iu{l:Expr}(hl:PE X l tl):PI X tg l (a6L tl):=by
 intro pins s O H R I h;erw[aZ (hl pins s O H _ I h) λv s1 #[x,H1,I1,r1,q1]=>?_];let(z,e,q):=q1;subst e;let(t,rfl):=r1;have fin:∀ty,["enumerate","zip","dict_itemiterator","dict_reverseitemiterator","odict_iterator","itertools.zip_longest","itertools.pairwise"].contains ty=false->(∀A':ah,A'.handled=none->Walks X.prog X.w A' s1.heap.objs.size [s1.heap.objs.size] [s1.heap.objs.size] z.cps.size (SignAt z) (λi h=>h.IsStrIter s1.heap.objs.size ty z t i))->(∀(A:ah)(i:Nat)(s:ae)(Q:Value->ae->Prop)(E:Value->ae->Prop),s.heap.IsStrIter s1.heap.objs.size ty z t i->Q (.ref s1.heap.objs.size) s->wpAny (model X.prog X.w) A (pyIter (.ref s1.heap.objs.size)) Q E s)->M5 X pins O tg R (.ref s1.heap.objs.size) {s1 with heap:=s1.heap.push {cls:=.type ty,data:=.fields (List.toArray [.str z t,.int 0 0])}}:=λty h1 h2 h3=>by
  erw[s1.heap.objs.size,[s1.heap.objs.size],_,_,H1,Z,I1.kept (t':=s1.toks) λb o e=>bZ _ e,Yf _ z t ty h1 h2 h3,#[#[_,dD _ Z,Z,Z],fT _],λb hb=>?_,q];have e:b=s1.heap.objs.size:=by simpa using hb
  subst e;erw[I1.qz (bL _) (I1.bp.fresh (bL _))]
 cases ha:z.cps.all (·<128)
 ·erw[wpAny_pyIter_wide ha (fin "str_iterator" aw (λA' hA=>Walks.strWide hA _ z t) (λ_ _ _ _ _ st h=>wpAny_pyIter_striter_wide st h))]
 ·erw[wpAny_pyIter_ascii ha (fin "str_ascii_iterator" aw (λA' hA=>Walks.strAscii hA _ z t) (λ_ _ _ _ _ st h=>wpAny_pyIter_striter_ascii st h))]
theorem VN{f:Nat->Bool}{D:Addr}(rest:St)(nw:Nw H H0 D (.lst []))(hz:z.length<=1000) (hs:∀(c:Nat)(H2:Hp)(Q':VK),c∈z.cps.toList->aE H H2->(∀H3,aE H2 H3->Q' (.bl (f c)) H3)->te (some (.str ⟨#[c]⟩)::rest) H2 Q') (hq:∀H',aE H H'->H' D=some (.lst ((z.cps.toList.map f).map V.bl))->Q (.ref D) H'):kW (xV z) (gr 0) jV te Q D (none::rest) H0:=by
 have hl:z.cps.toList.length=z.cps.size:=by simp
 erw[VO (xs:=z.cps.toList.map λc=>V.str ⟨#[c]⟩) (bs:=z.cps.toList.map f) rest nw (by simp) (by simpa[Str.length]using hz) ?_ ?_ ?_ hq]
 ·intro i x H2 ex s2
  rw[cv]at ex;cases ec:z.cps.toList[i]? with |none=>rw[ec]at ex;cases ex |some c=>rw[ec]at ex;cases ex;erw[by have:=(dW.mp ec).1;show i<z.cps.size;omega,λy H3 #[e3,c',Vh,e]=>#[e3,?_]];rw[ec]at Vh;cases Vh;erw[e]
 ·intro H2 s2
  show z.cps.size<=(z.cps.toList.map _).length;rw[bV,hl];erw[bL _]
 ·intro i x b H2 Q' ex eb s2 oP
  rw[cv]at ex eb;cases ec:z.cps.toList[i]? with |none=>rw[ec]at ex;cases ex |some c=>rw[ec]at ex eb;cases ex;cases eb;erw[hs c H2 Q' (fO ec) s2 oP]
theorem RV:cU X (compareOp .In) (λx y H Q=>∃c j,x= .str ⟨#[c]⟩/\y= .str j/\Q (.bl (decide (c∈j.cps.toList))) H):=by intro pins s O H x y v u Q I rx ry h;let(c,j,rfl,rfl,q):=h;erw[a2o pins s O H _ _ v u Q I rx ry #[_,_,Z,Z,?_]];rw[PySem.StrLaws.found_one];erw[q]
inductive afd(K:aa)(x:V)(y:V)(H:Hp)(Q:VK):Prop |mk (p:_)(xs:_)(d:_)(ds:_)(h0:y= .ref p)(h1:bc K H p xs)(h2:RD K H x d)(h3:aO K H xs ds)(h4:SeqAt.shaped d=true)(h5:(∀e∈ds,SeqAt.shaped e=true))(h6:Q (.bl (ds.any λe=>PyData.eqv e d)) H)
def a1k(K:aa):R2:=λx y H Q=>afd K x y H Q
theorem a6H(K:aa)(hK:X.K=K)(hu:X.A.units+65<cLine):cU X (compareOp .In) (a1k K):=by
 subst hK;intro pins s O H x y v u Q I rx ry h;let(p,xs,d,ds,rfl,hx,hd,iy,sd,ZO,q):=h;cases ry;let(its,r,pl,hz):=I.tuple hx;let(k1,k2):=V6 I hu rx hd sd r iy ZO;erw[SeqAt.in_tupleAt (vj s.heap d) (show s.heap.IsTuple p its.toArray from pl) (λw hw=>k1 w (by simpa using hw)) #[.bl _,H,I,Z,?_]];have e:its.toArray.any (vj s.heap d)=ds.any λe=>PyData.eqv e d:=by rw[<-k2];simp
 rw[e];erw[q]
end
structure MA(K:aa)(C:Addr)(m qual:Str)(st:Stmt):Prop where ex:∃f fd,Meth K C m f/\kT K m qual st f fd
def cQ(P:af)(w:World)(K:aa)(mg:bO)(au:Heap)(C:Addr)(m:Str)(k:Nat)(sp:Sp):Prop:=∃f fd ps,eR P w K mg au iX k f fd ps sp/\Meth K C m f/\Binds K fd ps []
structure CA(K:aa)(mg:bO)(C:Addr)(x qual:Str)(st:Stmt):Prop where
 mgC:mg x=some (.ref C)
 ex:∃f fd,Mk K C f/\kT K "__init__" qual st f fd
def xS(P:af)(w:World)(K:aa)(mg:bO)(au:Heap)(C:Addr)(x:Str)(k:Nat)(sp:Sp):Prop:=∃f fd ps,eR P w K mg au iX k f fd ps sp/\Mk K C f/\Binds K fd ps []/\mg x=some (.ref C)
section
variable {P:af}{w:World}{K:aa}{mg:bO}{au:Heap}
theorem ir{C:Addr}{m qual:Str}{st:Stmt}{f:Addr}{oc:Value}{od an:Option Addr}{fV:Array (Option Value)}{kV doc pm aH ct:Value} (a:PySem.W.findIn K (.ref C) m=some (some (.ref f)))(i:PySem.W.isFn K (.ref f)=true) (l:K.lookup f=some #[oc,od,.func (PySem.W.fnOf m qual (jJ st) (fY st) (aW st) .none kV doc pm an aH ct),fV]) (c:PySem.W.codeIn K aH qual=true)(k:PySem.W.keepIn K (.ref f)=true):MA K C m qual st:=#[f,_,#[a,i,k],KG l c k]
theorem W3{h:Heap}{C:Addr}{x qual:Str}{st:Stmt}{f:Addr}{oc:Value}{od an:Option Addr}{fV:Array (Option Value)}{kV doc pm aH ct:Value}(X:K.In h)(G:h.Ns mainGlobals mg) (aC:PySem.W.nsIn K mainGlobals x=some (some (.ref C)))(mk:PySem.W.makesIn K C=true)(kc:PySem.W.keepIn K (.ref C)=true) (a:PySem.W.findIn K (.ref C) "__init__"=some (some (.ref f)))(i:PySem.W.isFn K (.ref f)=true) (l:K.lookup f=some #[oc,od,.func (PySem.W.fnOf "__init__" qual (jJ st) (fY st) (aW st) .none kV doc pm an aH ct),fV]) (c:PySem.W.codeIn K aH qual=true)(k:PySem.W.keepIn K (.ref f)=true):CA K mg C x qual st:=#[yg X G aC,f,_,#[mk,a,i,kc],KG l c k]
theorem MA.has{C:Addr}{m qual:Str}{st:Stmt}{N ps:List Str}{k:Nat}{sp:Sp}(F:MA K C m qual st)(S:bu N ps (aW st))(len:∀vs H Q E,sp vs H Q E->vs.length=ps.length) (hb:∀(kV doc pm:Value)(an:Option Addr)(aH ct:Value)(us:List Value),us.length=ps.length->bindArgs (PySem.W.fnOf m qual (jJ st) (fY st) (aW st) .none kV doc pm an aH ct) #[us,[]]=pure (ps.zip us)) (gq:∀(f:Addr)(aH:Value)(A:ah)(outer:List Env)(s:ae)(H:Hp)(vs:List V)(Q:VK)(E:XK),cI k (A.deeper (envOfC qual (aW st) s.heap.objs.size f aH))->sp vs H Q E->∃t,g9 (iE iX P w K mg au N qual (aW st) f aH A outer s H E).uI (fY st) t/\t {nx:=λ_ H'=>Q .bD H',rt:=Q} (start N vs) H):cQ P w K mg au C m (k+1) sp:=by let(f,fd,hm,F):=F.ex;erw[f,fd,ps,F.ok S len λaH A outer s H vs Q E=>gq f aH A outer s H vs Q E,hm,F.binds hb]
theorem CA.has{C:Addr}{x qual:Str}{st:Stmt}{N ps:List Str}{k:Nat}{sp:Sp}(F:CA K mg C x qual st)(S:bu N ps (aW st))(len:∀vs H Q E,sp vs H Q E->vs.length=ps.length) (hb:∀(kV doc pm:Value)(an:Option Addr)(aH ct:Value)(us:List Value),us.length=ps.length->bindArgs (PySem.W.fnOf "__init__" qual (jJ st) (fY st) (aW st) .none kV doc pm an aH ct) #[us,[]]=pure (ps.zip us)) (gq:∀(f:Addr)(aH:Value)(A:ah)(outer:List Env)(s:ae)(H:Hp)(vs:List V)(Q:VK)(E:XK),cI k (A.deeper (envOfC qual (aW st) s.heap.objs.size f aH))->sp vs H Q E->∃t,g9 (iE iX P w K mg au N qual (aW st) f aH A outer s H E).uI (fY st) t/\t {nx:=λ_ H'=>Q .bD H',rt:=Q} (start N vs) H):xS P w K mg au C x (k+1) sp:=by let(f,fd,hm,F'):=F.ex;erw[f,fd,ps,F'.ok S len λaH A outer s H vs Q E=>gq f aH A outer s H vs Q E,hm,F'.binds hb,F.mgC]
end
section
variable {X:Cx}{k:Nat}{x m:Str}{C:Addr}{p pos apos:Pos}{o e:Expr}{es:List Expr}{t:TA}{ta:TE}{sp:Sp}
inductive WJ(C:Addr)(m:Str)(sp:Sp)(t:TA)(O:St)(Q:VK)(x:V)(H1:Hp):Prop |mk (a:_)(dx:_)(fs:_)(h0:x= .ref a)(h1:H1 a=some (.ins C dx fs))(h2:fs.lookup m=none)(h3:t O H1 λvs H2=>sp (x::vs) H2 Q E0)
def Nh(C:Addr)(m:Str)(sp:Sp)(ta:TE)(t:TA):TE:=λO H Q=>ta O H λx H1=>WJ C m sp t O Q x H1
theorem SF{O:St}{Q:VK}{x:V}{H1:Hp}:vB C m sp [] E0 t O Q x H1=WJ C m sp t O Q x H1:=by
 have e1:(λ(vs:List V) H1=>sp (x::(vs++[])) H1 Q E0)=λvs H1=>sp (x::vs) H1 Q E0:=by funext vs H1;rw[qU]
 erw[propext #[λ#[a,dx,fs,h0,h1,h2,h3]=>#[a,dx,fs,h0,h1,h2,?_],λ#[a,dx,fs,h0,h1,h2,h3]=>#[a,dx,fs,h0,h1,h2,?_]]]
 ·rw[<-e1];erw[h3]
 ·rw[e1];erw[h3]
theorem kJ{pl:Sem Bool}(F:cQ X.prog X.w X.K X.mg X.au C m k sp)(c:hV X.K C)(hr:cI k X.A)(he:PE X o ta)(ha:PA X (e::es) t) (gp:autoParam (starEach (e::es) X.env=(false,eval e X.env)::starEach es X.env) r8_._auto_1)(eg:autoParam ((backTo pos (starEach es X.env)).any (·.1)=false) r8_._auto_1) (ht:eval (.Call (.Attribute o m apos) (e::es) [] pos) X.env=(do
 let ov<-eval o X.env
 standAt apos.atName
 let(f,first)<-holding [ov] (getMethod ov m pl)
 callWith pos f first (backTo pos (starEach (e::es) X.env)) (backToKw pos (keywordEach [] X.env))):=by rfl): PE X (.Call (.Attribute o m apos) (e::es) [] pos) (Nh C m sp ta t):=by
 let(f,fd,ps,F,hm,hb):=F;have h:=RH (pos:=pos) (apos:=apos) (pl:=pl) he c hm F hr hb .nil Ci ha gp eg ht;intro pins s O H Q I hq;erw[h pins s O H Q I ?_];show ta O H λx H1=>vB C m sp [] E0 t O Q x H1;simp only[SF];erw[hq]
theorem iK{pl:Sem Bool}(F:cQ X.prog X.w X.K X.mg X.au C m k sp)(c:hV X.K C)(hr:cI k X.A)(he:PE X o ta) (ht:eval (.Call (.Attribute o m apos) [] [] pos) X.env=(do
 let ov<-eval o X.env
 standAt apos.atName
 let(f,first)<-holding [ov] (getMethod ov m pl)
 callWith pos f first (backTo pos (starEach [] X.env)) (backToKw pos (keywordEach [] X.env))):=by rfl): PE X (.Call (.Attribute o m apos) [] [] pos) (Nh C m sp ta rn):=by
 let(f,fd,ps,F,hm,hb):=F;have h:=RF (pos:=pos) (apos:=apos) (pl:=pl) he c hm F hr hb .nil Ci ht;intro pins s O H Q I hq;erw[h pins s O H Q I ?_];show ta O H λx H1=>vB C m sp [] E0 rn O Q x H1;simp only[SF];erw[hq]
def YR(C:Addr)(sp:Sp)(t:TA):TE:=λO H Q=>t O H λvs H1=>∀x dx,H1 x=none->H1 dx=none->dx≠x->sp (.ref x::vs) (upd (upd H1 dx (.own x)) x (.ins C dx [])) (λv H2=>v= .bD/\Q (.ref x) H2) E0
theorem Iz(F:xS X.prog X.w X.K X.mg X.au C x k sp)(hr:cI (k+1) X.A)(hg:Gl X x)(ha:PA X (e::es) t)(gZ:autoParam ((x==("__debug__":Str))=false) q8_._auto_1) (he:autoParam (starEach (e::es) X.env=(false,eval e X.env)::starEach es X.env) r8_._auto_1)(eg:autoParam ((backTo pos (starEach es X.env)).any (·.1)=false) r8_._auto_1): PE X (.Call (.Name x p) (e::es) [] pos) (YR C sp t):=by
 let(f,fd,ps,F,M,hb,hm):=F;have h:=a1S (pos:=pos) (p:=p) M F hr hg hm hb .nil Ci ha gZ he eg;intro pins s O H Q I hq;erw[h pins s O H Q I ?_];have e1:(λ(vs:List V) H1=>∀x dx,H1 x=none->H1 dx=none->dx≠x->sp (.ref x::(vs++[])) (upd (upd H1 dx (.own x)) x (.ins C dx [])) (λv H2=>v= .bD/\Q (.ref x) H2) E0) =λvs H1=>∀x dx,H1 x=none->H1 dx=none->dx≠x->sp (.ref x::vs) (upd (upd H1 dx (.own x)) x (.ins C dx [])) (λv H2=>v= .bD/\Q (.ref x) H2) E0:=by funext vs H1;rw[qU]
 show t O H λvs H1=>∀x dx,H1 x=none->H1 dx=none->dx≠x->sp (.ref x::(vs++[])) (upd (upd H1 dx (.own x)) x (.ins C dx [])) (λv H2=>v= .bD/\Q (.ref x) H2) E0;rw[e1];erw[hq]
inductive IAt(C:Addr)(x:Str)(Q:VK)(v:V)(H1:Hp):Prop |mk (a dx:Addr)(fs:List (Str×V))(u:V)(h0:v= .ref a)(h1:H1 a=some (.ins C dx fs))(h2:fs.lookup x=some u)(h3:Q u H1)
theorem cK(T:hV X.K C)(hn:iV X.K C x)(he:PE X e ta)(hb:autoParam (attributeBase e x X.env (eval e X.env)=eval e X.env) r8_._auto_1): PE X (.Attribute e x pos) (λO H Q=>ta O H λv H1=>IAt C x Q v H1):=by intro pins s O H Q I h;erw[acK hb (aZ (he pins s O H _ I h) λu s1 #[v,H1,I1,rx,a,dx,fs,w,ex,ea,l,q]=>?_)];subst ex;obtain rfl:u=Value.ref a:=rx;erw[UN I1 ea T hn l λu' s2 I2 ru=>#[w,H1,I2,ru,q]]
inductive afz(C:Addr)(x:Str)(D:Ends)(O:St)(y v:V)(H2:Hp):Prop |mk (a dx:Addr)(fs:List (Str×V))(h0:v= .ref a)(h1:H2 a=some (.ins C dx fs))(h2:fs.length<1000)(h3:D.nx O (upd H2 a (.ins C dx (ji x y fs))))
inductive afE(C a:Addr)(x:Str)(D:Ends)(O:St)(z:V)(H3:Hp):Prop |mk (iD:Addr)(oX:List (Str×V))(h0:H3 a=some (.ins C iD oX))(h1:oX.length<1000)(h2:D.nx O (upd H3 a (.ins C iD (ji x z oX))))
inductive afF(C:Addr)(x:Str)(tv:TE)(rd:V->V->Hp->VK->Prop)(D:Ends)(O:St)(v:V)(H1:Hp):Prop |mk (a dx:Addr)(fs:List (Str×V))(u:V)(h0:v= .ref a)(h1:H1 a=some (.ins C dx fs))(h2:fs.lookup x=some u)(h3:tv O H1 λy H2=>rd u y H2 λz H3=>afE C a x D O z H3)
theorem gd(T:hV X.K C)(hn:iV X.K C x)(ha:PE X o ta)(hv:PE X value tv)(hs:autoParam (swapsWith value (some (.Attribute o x pos')) pos.line X.env=pure false) r8_._auto_1): PS X (.Assign [.Attribute o x pos'] value pos) (λD O H=>tv O H λy H1=>ta O H1 λv H2=>afz C x D O y v H2):=by intro pins s O H D I h;erw[plainObj_wpAny_Assign_Attribute (aZ (hv pins s O H _ I h) λu s1 #[y,H1,I1,ry,q]=>aZ (ha pins s1 O H1 _ I1 q) λov s2 #[v,H2,I2,rx,a,dx,fs,ex,ea,l,q2]=>?_) hs];subst ex;obtain rfl:ov=Value.ref a:=rx;erw[OL I2 ea T hn l ry λs3 I3=>#[O,_,I3,q2]]
theorem a1v{rd:V->V->Hp->VK->Prop}(T:hV X.K C)(hn:iV X.K C x)(ha:PE X o ta)(hv:PE X value tv)(hop:afn X op rd): PS X (.AugAssign (.Attribute o x tY) op value pos) (λD O H=>ta O H λv H1=>afF C x tv rd D O v H1):=by intro pins s O H D I h;erw[wpAny_AugAssign_AttributeAny (aZ (ha pins s O H _ I h) λov s1 #[v,H1,I1,rx,a,dx,fs,u,ex,ea,l,q]=>?_)];subst ex;obtain rfl:ov=Value.ref a:=rx;erw[UN I1 ea T hn l λu s2 I2 ru=>aZ (hv pins s2 O H1 _ I2 q) λw3 s3 #[y,H2,I3,ry,q3]=>aZ (hop pins s3 O H2 _ y u w3 _ I3 ru ry q3) λw4 s4 #[z,H3,I4,rz,iD,oX,xD,l',q4]=>?_];erw[OL I4 xD T hn l' rz λs5 I5=>#[O,_,I5,q4]]
end
def bR(S:List Addr)(H H':Hp):Prop:=∀b o,H b=some o->b∉S->H' b=some o
theorem bR.refl(S:List Addr)(H:Hp):bR S H H:=λ_ _ e _=>e
theorem bR.of(s:aE H H'):bR S H H':=λb o e _=>s b o e
theorem bR.trans(a:bR S H H1)(b:bR S H1 H2):bR S H H2:=λc o e n=>b c o (a c o e n) n
theorem Au(h:a∈S):bR S H (upd H a o):=λb o' e n=>by have hb:b≠a:=λz=>n (by rw[z];erw[h]);rw[aQ hb];erw[e]
def Me:HO->Prop | .lst _=>True | .ins _ _ _=>True | .dK _=>True | .pC _=>True |_=>False
def cB(H H':Hp):Prop:=∀b o,¬Me o->H b=some o->H' b=some o
section
variable {K:aa} {H H' H2:Hp}
theorem cB.refl:cB H H:=λ_ _ _ e=>e
theorem cB.trans(a:cB H H')(b:cB H' H2):cB H H2:=λc o n e=>b c o n (a c o n e)
theorem j9.v(s:j9 H H'):cB H H':=λb o n e=>s b o (λxs z=>n (by rw[z];trivial)) e
theorem aE.v(s:aE H H'):cB H H':=λb o _ e=>s b o e
theorem bR.v(s:bR S H H')(h:∀x∈S,∀o,H x=some o->Me o):cB H H':=λb o n e=>s b o e λz=>n (h b z o e)
theorem cB.upd(h:H a=some o)(m:Me o):cB H (upd H a o'):=λb p n e=>by
 have hb:b≠a:=λz=>by rw[z,h]at e;cases e;erw[n m]
 rw[aQ hb];erw[e]
theorem bc.v(s:cB H H')(h:bc K H a xs):bc K H' a xs:=h.imp (λr=>r.imp (s _ _ (λz=>z)) λ#[o,e]=>#[o,s _ _ (λz=>z) e]) id
mutual
theorem RD.v(s:cB H H'):∀{x:V}(d:ag),fh d=true->RD K H x d->RD K H' x d |x,.none,_,h=>by simpa[RD]using h |x,.bool b,_,h=>by simpa[RD]using h |x,.int i,_,h=>by simpa[RD]using h |x,.str y,_,h=>by simpa[RD]using h |x,.list ds,n,h=>by simp[fh]at n |x,.tuple ds,n,h=>by rw[RD]at h⊢;let(a,xs,e,h1,h2):=h;erw[a,xs,e,h1.v s,aO.v s ds (by simpa[fh]using n) h2] |x,.dict _,_,h=>by simp[RD]at h
theorem aO.v (s:cB H H'):∀{xs:List V}(ds:List ag),cH ds=true->aO K H xs ds->aO K H' xs ds |xs,[],_,h=>by simpa[aO]using h |xs,d::ds,n,h=>by rw[aO]at h⊢;rw[cH,fb]at n;let(y,ys,e,h1,h2):=h;erw[y,ys,e,RD.v s d n.1 h1,aO.v s ds n.2 h2]
end
end
end _L
namespace _P
section
variable {n:Nat}{own:Nat->Rat}{L:Nat->Option Nat}{r f:Int}
end
end _P
namespace _O
open _P _l _C
end _O
namespace _P
section
variable {n:Nat}{own IC:Nat->Rat}{L L':Nat->Option Nat}{r f:Int}
end
section
variable {n:Nat}{own IC q:Nat->Rat}{L:Nat->Option Nat}{r f r' f':Int}
end
end _P
namespace _O
open _P _l _C
end _O
namespace _P
section
variable {n:Nat}{own IC:Nat->Rat}{L L':Nat->Option Nat}{r f:Int}{c:Nat}
end
end _P
namespace _O
open _P
section
variable (j aA:Int) (os1 os2:List Itm)
end
end _O
namespace _P
section
variable {n:Nat}{own:Nat->Rat}{L:Nat->Option Nat}{r f:Int}
theorem a9S(hi:i<=n):fl n L f g i<=g i:=by
 rcases Nat.lt_or_ge i n with h|h
 ·cases e:L i with |none=>rw[DK h e];erw[tK] |some m=>rw[DM h e];erw[iq _ _]
 ·have:i=n:=by lia
  subst this;rw[DL];erw[tK]
end
end _P
namespace _R
open _P _r _l
open _O (topR ownF leadF Itm OkIs)
theorem DZ{n:Nat}{b:Int}(hb:b≠0)(h2:b.natAbs<2^n):(Rat.divInt a b).den<2^n:=by obtain⟨-,e⟩:=Jo (a:=a) hb;have l2:=_A.SV (p:=a) hb;omega
structure Dd(D:Nat)(q:Rat):Prop where
 nn:0<=q
 den:q.den<2^D
theorem Dd.mono{D:Nat}(h:Dd D q)(l:D<=E):Dd E q:=#[h.nn,gH h.den (tO aw l)]
theorem Dd.bd{D:Nat}(h:Dd D q)(hl:q<=2000):Bd (D+11) q:=by
 have h1:=Mp.mpr h.nn;have vd:¬((2000:Rat)<q):=Es.mpr hl;rw[Rat.lt_iff]at vd;have e1:(2000:Rat).num=2000:=rfl;have e2:(2000:Rat).den=1:=rfl;rw[e1,e2]at vd;have h2:q.num<=2000*(q.den:Int):=by lia
 erw[?_,gH h.den (tO aw ao)];have h3:=h.den;have h4:q.num.natAbs<=2000*q.den:=by lia
 have h5:(2:Nat)^(D+11)=2^D*2048:=by rw[Nat.pow_add]
 rw[h5];have h6:2000*q.den<2000*2^D:=Nat.mul_lt_mul_of_pos_left h3 aw
 lia
theorem Dd.mn{D:Nat}{b:Rat}(h1:Dd D a)(h2:Dd D b):Dd D (mn a b):=by rcases CD a b with e|e<;>rw[e]<;>assumption
theorem Dd.add{D:Nat}(h:Dd D q){z:Int}(hz:0<=z):Dd D (q+(z:Rat)):=by
 erw[a66 h.nn (by have:=Rat.intCast_le_intCast.mpr hz;erw[this]),?_];rw[add_div,Rat.num_intCast,Rat.den_intCast];have e:(q.den:Int)*((1:Nat):Int)=(q.den:Int):=by lia
 rw[e];have hd:=q.den_pos;erw[DZ ao (by have:=h.den;lia)]
theorem Vw{b:Int}(ha:0<=a)(hb:0<b):0<=Rat.divInt a b:=(yf hb).mpr ha
theorem div_pos{b:Int}(ha:0<a)(hb:0<b):0<Rat.divInt a b:=by
 have h0:=Vw (MN ha) hb;erw[Mo h0 λe=>?_];have h2:0<=Rat.divInt (-a) b:=by rw[<-Rat.neg_divInt,<-e];decide
 have:=(yf hb).mp h2
 lia
theorem Dd.mul{D:Nat}(h:Dd D q){a s:Int}(ha:0<=a)(hs:0<s)(hm:s.natAbs<2^m):Dd (D+m) (q*Rat.divInt a s):=by erw[Rat.mul_nonneg h.nn (Vw ha hs),?_];have h1:(Rat.divInt a s).den<2^m:=DZ ao hm;rw[mul_div];have hd:=q.den_pos;have hd2:=(Rat.divInt a s).den_pos;erw[DZ (Ak _ _) ?_];rw[gz];erw[mX (by have:=h.den;lia) ao]
theorem Bw(aA sp:Int):Dd 14 (topR aA sp):=#[_O.Bx _ _,DZ aw aw]
theorem yE{aA:Int}(h1:1<=sp)(h2:sp<=20)(h3:10<=aA)(h4:aA<=200):topR aA sp<=1600:=by
 have e:(1600:Rat)=Rat.divInt 16000000 10000:=by decide+kernel
 rw[e];refine(_C.Lk aw).mpr ?_;have hp:sp*aA<=20*200:=tR h2 h4 ao ao;have hp0:0<=sp*aA:=iJ ao ao;rw[gI,gI,o8,mH];have:=tR hp hp hp0 aw
 lia
theorem a2d{aA:Int}(h1:1<=j)(h2:j<=50)(h3:10<=aA)(h4:aA<=200)(ho:OkIs os)(i:Nat):Dd 64 (ownF j aA os i):=#[_O.a2h _ _ _ _,(_O.RR h1 h2 h3 h4 ho i).den]
theorem a9T{D n:Nat}{f:Int}(hf:0<=f)(h:∀i,i<=n->Dd D (g i)):∀i,i<=n->Dd D (fl n L f g i):=by
 erw[down ?_ ?_]
 ·rw[DL];erw[h n (bL _)]
 ·intro i hi ih
  cases e:L i with |none=>rw[DK hi e];erw[h i ao] |some m=>rw[DM hi e];exact(h i ao).mn (ih.add (iJ hf ao))
theorem acD{aA:Int}(h3:10<=aA)(h4:aA<=200)(ho:_O.OkI o):_O.betR j aA o p<=1600:=by cases o with |none=>rw[_O.acE];decide+kernel |some q=>cases p with |none=>rw[_O.Wa];decide+kernel |some q'=>let(ns,sp):=q;let(ms,sq):=q';obtain⟨-,a1,a2⟩:=ho ns sp rfl;have ht:=yE a1 a2 h3 h4;show _O.mnO (mn (topR aA sp) (topR aA sq)) (_O.cornO j ns ms)<=1600;cases _O.cornO j ns ms with |none=>erw[eT (iq _ _) ht] |some c=>erw[eT (iq _ _) (eT (iq _ _) ht)]
theorem a2c{j aA:Int}{os:List Itm}(h3:10<=aA)(h4:aA<=200)(ho:OkIs os):∀i,ownF j aA os i<=1600 |0=>by show(0:Rat)<=1600;decide+kernel |i+1=>acD h3 h4 (ho i)
abbrev nS:=Option (Rat × Int × Int)
def pW(r f:Int)(pc top R:Rat)(left:Int):nS->Rat |none=>mn (mn (pc+(r:Rat)) top) (R+((f*(2*left-1):Int):Rat)) |some (sq,st,gn)=>mn (mn (mn (pc+(r:Rat)) top) (R+((f*(2*left-1):Int):Rat))) (sq*Rat.divInt (2*(st-gn-1)+1) (2*st))
def wO(r f:Int)(pc top R:Rat)(left:Int):nS->Rat |none=>mn (mn (pc+((2*r:Int):Rat)) top) (R+((2*f*(left-1):Int):Rat)) |some (sq,st,gn)=>mn (mn (mn (pc+((2*r:Int):Rat)) top) (R+((2*f*(left-1):Int):Rat))) (sq*Rat.divInt (st-gn-1) st)
def wN:nS->nS |none=>none |some (sq,st,gn)=>some (sq,st,gn+1)
def t7(D:Nat)(pc:Rat):nS->Prop |none=>True |some (sq,st,gn)=>0<=gn/\gn<=st/\st<=1000/\Dd D sq/\sq<=2000/\(st=0->pc=0)/\pc*(st:Rat)<=sq*((st-gn:Int):Rat)
def Halt(pc:Rat)(aR:nS):Prop:=aR≠none/\pc=0
theorem zt{D:Nat}(h:t7 D pc (some (sq,st,gn)))(hp:0<=pc)(hn:¬Halt pc (some (sq,st,gn))):gn<st/\0<sq/\0<pc:=by
 let(g0,g1,g2,hd,hl,hz,hh):=h;have zN:0<pc:=Mo hp λe=>hn #[by simp,e.symm];have gp:gn<st:=by
  rcases MM gn st with h|h
  ·erw[h]
  ·have e:st-gn=0:=by lia
   rw[e]at hh;have e0:sq*((0:Int):Rat)=0:=Rat.mul_zero sq;rw[e0]at hh;exfalso;rcases MM 0 st with h3|h3
   ·have h4:(0:Rat)<(st:Rat):=WW.mpr h3
    have h5:=Rat.mul_pos zN h4;erw[absurd (Std.lt_of_lt_of_le h5 hh) (Rat.lt_irrefl)]
   ·rw[hz ao]at zN;erw[absurd zN (Rat.lt_irrefl)]
 erw[gp,?_,zN];erw[Mo hd.nn λe=>?_];rw[<-e,Rat.zero_mul]at hh;have h4:(0:Rat)<(st:Rat):=WW.mpr (show(0:Int)<st by lia);erw[absurd (Std.lt_of_lt_of_le (Rat.mul_pos zN h4) hh) (Rat.lt_irrefl)]
section
variable {D:Nat}{r f:Int}{pc top R:Rat}{left:Int}{aR:nS}
theorem abv:wO r f pc top R left aR<=top:=by cases aR with |none=>erw[eT (iq _ _) (mY _ _)] |some q=>let(sq,st,gn):=q;erw[eT (iq _ _) (eT (iq _ _) (mY _ _))]
theorem Jf:pW r f pc top R left aR<=top:=by cases aR with |none=>erw[eT (iq _ _) (mY _ _)] |some q=>let(sq,st,gn):=q;erw[eT (iq _ _) (eT (iq _ _) (mY _ _))]
theorem abw(hr:0<=r)(hf:0<=f)(hl:1<=left)(hp:Dd (D+10) pc)(ht:Dd (D+10) top)(hR:Dd (D+10) R)(hs:t7 D pc aR)(hn:¬Halt pc aR):Dd (D+10) (wO r f pc top R left aR):=by have h1:=(hp.add (z:=2*r) ao).mn ht;have h2:=hR.add (z:=2*f*(left-1)) (iJ ao ao);cases aR with |none=>erw[h1.mn h2] |some q=>let(sq,st,gn):=q;let(a,b,c):=zt hs hp.nn hn;let(g0,g1,g2,hd,hl,hz,hh):=hs;exact(h1.mn h2).mn (hd.mul (m:=10) ao ao ao)
theorem Jh(hr:0<=r)(hf:0<=f)(hl:1<=left)(hp:Dd (D+10) pc)(ht:Dd (D+10) top)(hR:Dd (D+10) R)(hs:t7 D pc aR)(hn:¬Halt pc aR):Dd (D+11) (pW r f pc top R left aR):=by have h1:=((hp.add (z:=r) ao).mn ht).mono (show D+10<=D+11 by lia);have h2:=(hR.add (z:=f*(2*left-1)) (iJ ao ao)).mono (show D+10<=D+11 by lia);cases aR with |none=>erw[h1.mn h2] |some q=>let(sq,st,gn):=q;let(a,b,c):=zt hs hp.nn hn;let(g0,g1,g2,hd,hl,hz,hh):=hs;exact(h1.mn h2).mn (hd.mul (m:=11) ao ao ao)
theorem add_pos{x:Rat}{z:Int}(hx:0<=x)(hz:0<z):0<x+(z:Rat):=by have h1:((0:Int):Rat)<(z:Rat):=WW.mpr hz;have h2:x+((0:Int):Rat)<x+(z:Rat):=Rat.add_lt_add_left.mpr h1;rw[show((0:Int):Rat)=0 from Z,Rat.add_zero]at h2;erw[Std.lt_of_le_of_lt hx h2]
theorem Je{b:Rat}(ha:0<a)(hb:0<b):0<mn a b:=by rcases CD a b with e|e<;>rw[e]<;>assumption
theorem Jg(hr:1<=r)(hf:1<=f)(hl:1<=left)(hp:0<=pc)(ht:0<top)(hR:0<=R)(hs:t7 D pc aR)(hn:¬Halt pc aR):0<pW r f pc top R left aR:=by have h1:=Je (Je (add_pos hp (show 0<r by lia)) ht) (add_pos hR (show 0<f*(2*left-1)from jg ao ao));cases aR with |none=>erw[h1] |some q=>let(sq,st,gn):=q;let(a,b,c):=zt hs hp hn;let(g0,g1,g2,hd,hl,hz,hh):=hs;erw[Je h1 (Rat.mul_pos b (div_pos ao ao))]
theorem Vv(a:Int):Rat.divInt a 1=(a:Rat):=by
 conv=>rhs;rw[<-tJ (a:Rat)]
 rfl
theorem abS(hs:0<s):Rat.divInt a s*(s:Rat)=(a:Rat):=by
 have e:(s:Rat)=Rat.divInt s 1:=by rw[Vv]
 rw[e,WY _ _,vP,qW a s];have e2:Rat.divInt (s*a) s=Rat.divInt (s*a) (s*1):=by rw[vP]
 rw[e2,Rat.divInt_mul_left ao,Vv]
theorem Zf(hs:t7 D pc aR)(hp:0<=pc)(hn:¬Halt pc aR):t7 D (wO r f pc top R left aR) (wN aR):=by cases aR with |none=>trivial |some q=>
 let(sq,st,gn):=q;let(a,b,c):=zt hs hp hn;let(g0,g1,g2,hd,hl,hz,hh):=hs;erw[ao,ao,g2,hd,hl,λe=>by lia,?_];have h1:wO r f pc top R left (some (sq,st,gn))<=sq*Rat.divInt (st-gn-1) st:=mY _ _;have h2:(0:Rat)<=(st:Rat):=Rat.intCast_nonneg.mpr ao;have h3:=Rat.mul_le_mul_of_nonneg_right h1 h2;have h4:sq*Rat.divInt (st-gn-1) st*(st:Rat)=sq*((st-(gn+1):Int):Rat):=by
  rw[Rat.mul_assoc,abS ao];congr 2
  lia
 rw[h4]at h3;erw[h3]
end
end _R
namespace _L
open PySem PySem.Spec PyProof.Rows
section
variable {X:Cx}
end
theorem Ky{K:aa}{mg:bO}{t:Tok}(X:K.In h)(G:h.Ns mainGlobals mg)(a:PySem.W.nsIn K mainGlobals x=some (some (.str z t))):GV mg x (.str z):=#[_,yg X G a,t,Z]
theorem abW(f:Array Value->Array Value)(o:Obj):(o.mapFields f).dict=o.dict:=by let(c,d,dt,sl):=o;cases dt<;>rfl
def TrD(h B:Heap)(ex:Addr)(cls:Value)(dx:Option Addr)(fl:Value):Prop:=∃ob fs tb ot ts,h.get? ex=some ob/\ob.cls=cls/\ob.dict=dx/\ob.data= .fields fs/\fs[1]? =some (.ref tb)/\B.get? tb=none/\tb≠ex/\h.get? tb=some ot/\ot.data= .fields ts/\ts[3]? =some fl/\fs[2]? =some .none
def kU(B:Heap)(l:List Env)(ex:Addr)(cls:Value)(dx:Option Addr)(fl:Value)(h:Heap):Prop:=B.StaysIn h/\B.get? ex=none/\h.FunFrames B l/\TrD h B ex cls dx fl
theorem kU.there{l:List Env}{ex:Addr}{cls fl:Value}(x:kU B l ex cls dx fl h):∃ob,h.get? ex=some ob/\ob.cls=cls/\ob.dict=dx/\∃fs,ob.data= .fields fs/\fs[2]? =some .none:=by let(_,_,_,ob,fs,_,_,_,e,c,d,z,_,_,_,_,_,_,z2):=x;erw[ob,e,c,d,fs,z,z2]
section
variable {M:Model}{A:ah}{E:Value->ae->Prop}{s:ae}{B:Heap}{env:Env}{outer:List Env}{L ex:Addr}{ob:Obj}{fs:Array Value}{head:Value}{nx:Bool}{Q:Unit->ae->Prop}{cls fl:Value}{dx:Option Addr}
theorem Va(hA:A.frames=some (env::outer))(ff:s.heap.FunFrames B (env::outer))(hL:env.frame=some L)(ho:s.heap.get? ex=some ob)(st:B.StaysIn s.heap)(hB:B.get? ex=none)(hd:ob.data= .fields fs)(hz:1<fs.size)(gM:fs[2]? =some .none) (q:∀h',kU B (env::outer) ex ob.cls ob.dict (rawInt L) h'->s.heap.UpToSlots h'->Q () {s with heap:=h'}): wpAny M A (do let a<-frameOf env;let pl<-entryPlaceOf L nx;let b<-EntryCells.newEntry head a .none (rawInt L) .none pl;setField (.ref ex) 1 b) Q E s:=by
 have rW:ex∉(env::outer).filterMap (·.frame):=λhm=>by let(_,o,e1,nf):=ff.mem hm;rw[ho]at e1;cases e1;erw[nf fs hd]
 erw[aJ (wpAny_frameOf_fun hA ff hL λg1 k1=>aJ (wpAny_entryPlaceOf λpl hp=>?_))];unfold EntryCells.newEntry newFields;erw[aJ (ko ?_ (hp.sizeOk5 _ _ _ _ _))];have o1:g1.get? ex=some ob:=(k1.2.1 ex rW).trans ho;have Fb:B.StaysIn g1:=λb o e=>(k1.2.1 b λhm=>by rw[(ff.mem hm).1]at e;cases e).trans (st b o e);generalize hT:({cls:=.type "traceback",dict:=none,data:=.fields ([head,.ref L,.none,rawInt L,.none]++(if pl.isEmpty then List.replicate 6 Value.none else pl)).toArray}:Obj)=T;have o2:(g1.push T).get? ex=some ob:=bZ T o1;erw[xY o2 hd hz (q _ ?_ ?_)];all_goals have ne:g1.objs.size≠ex:=tP (bX o1)
 all_goals have keep:∀b o,b≠ex->g1.get? b=some o->((g1.push T).update ex (Obj.mapFields (·.setIfInBounds 1 (Value.ref g1.objs.size)))).get? b=some o:=λb o nb e=>by rw[Ba _ _ (jS nb)];erw[bZ _ e]
 all_goals have rS:∀b o,s.heap.get? b=some o->(∀vs,o.data≠ .fields vs)->b≠ex:=λb o e nf z=>by rw[z,ho]at e;cases e;erw[nf fs hd]
 ·have d3:=AY hd (·.setIfInBounds 1 (Value.ref g1.objs.size))
  have o3:=EF (Obj.mapFields (·.setIfInBounds 1 (Value.ref g1.objs.size))) o2 (MB d3);erw[λb o e=>keep b o (λz=>by rw[z,hB]at e;cases e) (Fb b o e),hB,ff.of_keeps λb o e nf=>?_,?_]
  ·let(sl,e1):=k1.2.2 b o e
   erw[_,keep b _ (rS b o e nf) e1,Z]
  ·erw[_,_,g1.objs.size,T,_,o3,Obj.cls_mapFields _ _,abW _ _,d3,by simp[hz],Fb.fresh,ne,?_,by rw[<-hT],?_]
   ·rw[Ba _ _ (jS ne)];erw[dD g1 (by rw[<-hT];rfl)]
   ·erw[?_,by simpa using gM]
    first|(simp;done)|(rcases hp with rfl|⟨_,_,_,_,_,_,_,rfl⟩<;>simp)
 ·intro b o e nf
  let(sl,e1):=k1.2.2 b o e;erw[sl,keep b _ (rS b o e nf) e1]
theorem a4B(hA:A.frames=some (env::outer))(ff:s.heap.FunFrames B (env::outer))(hL:env.frame=some L)(ho:s.heap.get? ex=some ob)(st:B.StaysIn s.heap)(hB:B.get? ex=none)(hd:ob.data= .fields fs)(h1:fs[1]? =some .none)(gM:fs[2]? =some .none) (q:∀h',kU B (env::outer) ex ob.cls ob.dict (rawInt L) h'->s.heap.UpToSlots h'->Q () {s with heap:=h'}):wpAny M A (noteFrame (.ref ex) env) Q E s:=by unfold noteFrame;simp only[hL];erw[aJ (ie ho hd h1 ?_)];rw[bj aw];erw[Va hA ff hL ho st hB hd (MR.mp h1).1 gM q]
theorem Se(hA:A.frames=some (env::outer))(hL:env.frame=some L)(x:kU B (env::outer) ex cls dx .none s.heap) (q:∀h',kU B (env::outer) ex cls dx (rawInt L) h'->s.heap.UpToSlots h'->Q () {s with heap:=h'}):wpAny M A (noteFrame (.ref ex) env) Q E s:=by
 let(st,hB,ff,ob,fs,tb,ot,ts,ho,rfl,rfl,hd,h1,Dy,nt,ht,sH,h3,gM):=x;unfold noteFrame;simp only[hL];erw[aJ (ie ho hd h1 ?_)];rw[bo (show(Value.ref tb !=Value.none)=true from by simp)];erw[aJ (ie ht sH h3 ?_)];rw[bj (show¬((Value.none==rawInt L)=true)from by simp[rawInt])];erw[aJ (xY ht sH (MR.mp h3).1 ?_)];have other:∀b,b≠tb->(s.heap.update tb (Obj.mapFields (·.setIfInBounds 3 Value.none))).get? b=s.heap.get? b:=λb nb=>Ba _ _ (jS nb);have rS:∀b o,s.heap.get? b=some o->(∀vs,o.data≠ .fields vs)->b≠tb:=λb o e nf z=>by rw[z,ht]at e;cases e;erw[nf ts sH]
 erw[Va (s:={s with heap:=s.heap.update tb (Obj.mapFields (·.setIfInBounds 3 Value.none))}) hA (ff.of_keeps λb o e nf=>#[o,(other b (rS b o e nf)).trans e,Z]) hL ((other ex (jS nt)).trans ho) (λb o e=>(other b λz=>by rw[z,Dy]at e;cases e).trans (st b o e)) hB hd (MR.mp h1).1 gM λh' y up=>q h' y λb o e nf=>up b o ((other b (rS b o e nf)).trans e) nf]
theorem DJ{l:List Env}(x:kU B l ex cls dx fl s.heap)(q:∀h',kU B l ex cls dx .none h'->s.heap.UpToSlots h'->Q () {s with heap:=h'}):wpAny M A (setFlight (.ref ex) none) Q E s:=by
 let(st,hB,ff,ob,fs,tb,ot,ts,ho,hc,hx,hd,h1,Dy,nt,ht,sH,h3,gM):=x;have z3:3<ts.size:=(MR.mp h3).1;have other:∀b,b≠tb->(s.heap.update tb (Obj.mapFields (·.setIfInBounds 3 ((none:Option Addr).elim Value.none λf=>rawInt f)))).get? b=s.heap.get? b:=λb nb=>Ba _ _ (jS nb);have rS:∀b o,s.heap.get? b=some o->(∀vs,o.data≠ .fields vs)->b≠tb:=λb o e nf z=>by rw[z,ht]at e;cases e;erw[nf ts sH]
 unfold setFlight;erw[aJ (ie ho hd h1 ?_)];rw[bo (show(Value.ref tb !=Value.none)=true from by simp)];erw[xY ht sH z3 (q _ #[λb o e=>(other b λz=>by rw[z,Dy]at e;cases e).trans (st b o e),hB,ff.of_keeps λb o e nf=>#[o,(other b (rS b o e nf)).trans e,rfl],?_] λb o e nf=>#[o.slots,(other b (rS b o e nf)).trans e])];erw[ob,fs,tb,_,_,(other ex (jS nt)).trans ho,hc,hx,hd,h1,Dy,nt,EF _ ht (MB (AY sH _)),AY sH _,by simp[z3],gM]
theorem a62(hA:A.frames=some (env::outer))(ff:s.heap.FunFrames B (env::outer))(hL:env.frame=some L)(ho:s.heap.get? ex=some ob)(st:B.StaysIn s.heap)(hB:B.get? ex=none)(hd:ob.data= .fields fs)(h1:fs[1]? =some .none)(gM:fs[2]? =some .none) (q:∀h',kU B outer ex ob.cls ob.dict .none h'->s.heap.UpToSlots h'->Q () {s with heap:=h'}):wpAny M A (leaving env (.ref ex)) Q E s:=by unfold leaving;erw[aJ (a4B hA ff hL ho st hB hd h1 gM λh1 x1 u1=>DJ x1 λh2 x2 u2=>q h2 ?_ (u1.trans u2))];let(a,b,(_,_,c),d):=x2;erw[a,b,c,d]
theorem a61(hA:A.frames=some (env::outer))(hL:env.frame=some L)(x:kU B (env::outer) ex cls dx .none s.heap) (q:∀h',kU B outer ex cls dx .none h'->s.heap.UpToSlots h'->Q () {s with heap:=h'}):wpAny M A (leaving env (.ref ex)) Q E s:=by unfold leaving;erw[aJ (Se hA hL x λh1 x1 u1=>DJ x1 λh2 x2 u2=>q h2 ?_ (u1.trans u2))];let(a,b,(_,_,c),d):=x2;erw[a,b,c,d]
end
end _L
namespace _L
open PySem PySem.Spec PyProof.Rows
open Builtin Builtin.ObjectAttr
section
variable {prog:af}{w:World}{A:ah}{E:Value->ae->Prop}{s:ae}{K:aa}{x C:Addr}{ox:Obj}{fs:Array Value}{name:Str}{v:Value}{Q:Unit->ae->Prop}
end
end _L
namespace _L
open PySem PySem.Spec PyProof.Rows
section
variable {X:Cx}{o e value:Expr}{f:Str}{pos pos' tY:Pos}{ta tv:TE}
end
section
variable {prog:af}{w:World}{A:ah}{E:Value->ae->Prop}{h:Heap}{g:Array GenState}{d:Drawn}{t:Nat}{os:OsState}
variable {nm q:Str}{C N fI:Addr}{bs bm nQ:List Value}{hdct:Bool}{sn:List Str}{sub:List Value}{ab:Bool}{col:Option Bool}{dd:Option Addr}{k0 k1 k2 k3 k5:Option Value}{B newId JL:String}{mN:bO}{rest:List Value}{oI:Obj}
end
section
variable {M:Model}{A:ah}{E:Value->ae->Prop}{env:Env}{nm q:Str}{C N:Addr}{bs bm:List Value}{hdct:Bool}{sn:List Str}{sub:List Value}{ab:Bool}{col:Option Bool}{dd:Option Addr}{k0 k1 k2 k3 k5:Option Value}{newId:String}
end
def jt(P:af)(w:World):jc:=λouter H s E e s'=>∃(ex:Addr)(cls:Value)(dx:Option Addr)(H':Hp)(B:Heap),e= .ref ex/\s'.os=s.os/\AllBare s'.gens/\kU B outer ex cls dx .none s'.heap/\Fl P w outer H s.heap ex H' B s'.heap/\E cls dx H'
section
variable {P:af}{w:World}{K:aa}{mg:bO}{au:Heap}{N:List Str}{qual:Str}{scope:Scope}{f:Addr}{cd:Value}{A:ah}{outer:List Env}{s:ae}{H:Hp}{E:XK}{pins:List (Addr×Obj)}{O:St}{H1:Hp}{s1:ae}{ex:Addr}{C:Addr}{dx:Addr}
end
section
variable {X:Cx}{x:Str}{C fI:Addr}{nQ:List Value}{newId JL B:String}{e:Expr}{t:TA}{np bW pos:Pos}{k:Nat}{fd:FuncData}{ps:List Str}{sp:Sp}
end
def qP(ex:Addr)(cls:Value)(dx:Option Addr)(h:Heap):Prop:=∃o,h.get? ex=some o/\o.cls=cls/\o.dict=dx/\∃fs,o.data= .fields fs/\fs[2]? =some .none
def ClsAt(K:aa)(C:Addr):Prop:=∀h,K.In h->∃nm q N bs tl hdct sn sub ab col dd k0 k1 k2 k3 k5 newId,h.get? C=some (excClassObj nm q C N bs tl hdct sn sub ab col dd k0 k1 k2 k3 k5 newId)
theorem Exc.cls{K:aa}{mg:bO}(e:Exc K mg x C nQ newId):ClsAt K C:=λh X=>by let(tl,N,nm,q,bs,hdct,sn,sub,ab,col,dd,k0,k1,k2,k3,k5,mN,hC,_):=(e.own X).obj;erw[nm,q,N,bs,tl,hdct,sn,sub,ab,col,dd,k0,k1,k2,k3,k5,newId,hC]
section
variable {X:Cx}{i:Nat}{n y:Str}{Dc:Addr}{sX:List Value}{newD:String}{body pD:List Stmt}{b0:Stmt}{np oQ pos:Pos}{tb:XK->TS}{th:TS}{Cs:Addr->Prop}
end
end _L
namespace _L
open PySem PySem.Spec PyProof.Rows PySem.W
section
variable {prog:af}{w:World}{A:ah}{E:Value->ae->Prop}{h:Heap}{g:Array GenState}{d:Drawn}{t:Nat}{os:OsState}{K:Frag}{x C:Addr}{ox:Obj}{od:Obj}{f:Str}{v:Value}
end
section
variable {X:Cx}{e:Expr}{f:Str}{pos:Pos}{ta:TE}
end
end _L
namespace _L
open PySem PySem.Spec PyProof.Rows
def tF(P:af)(w:World)(K:aa)(mg:bO)(au:Heap)(x:Str)(k:Nat)(sp:Sp):Prop:=∃f fd ps,eR P w K mg au (jt P w) k f fd ps sp/\mg x=some (.ref f)/\PySem.W.keepIn K (.ref f)=true/\Binds K fd ps []
theorem FA.sM{P:af}{w:World}{K:aa}{mg:bO}{au:Heap}{x:Str}{st:Stmt}{N ps:List Str}{k:Nat}{sp:Sp}(F:FA K mg x st)(S:bu N ps (aW st))(len:∀vs H Q E,sp vs H Q E->vs.length=ps.length) (hb:∀(kV doc pm:Value)(an:Option Addr)(aH ct:Value)(us:List Value),us.length=ps.length->bindArgs (PySem.W.fnOf x x (jJ st) (fY st) (aW st) .none kV doc pm an aH ct) #[us,[]]=pure (ps.zip us)) (gq:∀(f:Addr)(aH:Value)(A:ah)(outer:List Env)(s:ae)(H:Hp)(vs:List V)(Q:VK)(E:XK),cI k (A.deeper (envOfC x (aW st) s.heap.objs.size f aH))->sp vs H Q E->∃t,g9 (iE (jt P w) P w K mg au N x (aW st) f aH A outer s H E) (fY st) t/\t {nx:=λ_ H'=>Q .bD H',rt:=Q} (start N vs) H):tF P w K mg au x (k+1) sp:=by let(f,fd,hm,F):=F.ex;have uV:=F.binds hb;have kp:=F.kp;let(oc,od,kV,doc,pm,an,aH,ct,fV,rfl,lk,fi):=F.ex;erw[f,_,ps,KJ lk fi S len λA outer s H vs Q E hr fS=>gq f aH A outer s H vs Q E hr fS,hm,kp,uV]
section
variable {X:Cx}{k:Nat}{x:Str}{p pos:Pos}{e:Expr}{es:List Expr}{t:TA}{sp:Sp}
end
structure p8(k:Nat)(A:ah):Prop where
 dp:A.depth+3*k+5<recursionLimit
 un:A.units+16*k+200<cLine
theorem p8.mono{k:Nat}(r:p8 k A)(h:j<=k):p8 j A:=#[by have:=r.dp;lia,by have:=r.un;lia]
theorem p8.units{k:Nat}(r:p8 k A):A.units+64<cLine:=by have:=r.un;lia
theorem cI.mark{k:Nat}(r:cI k A)(v:Option Value):p8 k (A.mark v):=#[r.dp,r.un]
theorem p8.deeper{k:Nat}(r:p8 (k+1) A)(env:Env):p8 k (A.deeper env):=#[by have:=r.dp;show A.depth+1+3*k+5<_;lia,by have:=r.un;show A.units+3+16*k+200<_;lia]
abbrev E2(P:af)(w:World)(K:aa)(mg:bO)(au:Heap)(N:List Str)(qual:Str)(scope:Scope)(f:Addr)(cd:Value)(A:ah)(outer:List Env)(s:ae)(H:Hp):Cx:={(iE iX P w K mg au N qual scope f cd A outer s H (λ_ _ _=>False))with calm:=false,xe:=λ_ _=>False}
section
variable {X:Cx}{k:Nat}{x:Str}{p pos:Pos}{e:Expr}{es:List Expr}{t:TA}{sp:Sp}
end
section
variable {P:af}{w:World}{K:aa}{mg:bO}{au:Heap}{N:List Str}{qual:Str}{scope:Scope}{f:Addr}{cd:Value}{A:ah}{outer:List Env}{s:ae}{H:Hp}{E E0:XK}
theorem uD(he:∀cls dx H',E cls dx H'->E0 cls dx H'):Passes (jt P w) (iE (jt P w) P w K mg au N qual scope f cd A outer s H E0) E:=by
 intro pins O H1 s1 e s2 I hx;let(ex,cls,dx,H',B,rfl,ho,hg,qA,F,q):=hx;have qA:kU B (envOfC qual scope s.heap.objs.size f cd::outer) ex cls dx .none s2.heap:=qA;show wpAny (model P w) (A.deeper (envOfC qual scope s.heap.objs.size f cd)) (leaving (envOfC qual scope s.heap.objs.size f cd) (.ref ex)) _ _ _;erw[a61 (L:=s.heap.objs.size) I.ok.frames Z qA λh' x1 x2=>?_];have F2:=F.step qA.1 x1.1 x2 qA.2.2.1;have sub:∀b,b∈fj outer->b∈fj (envOfC qual scope s.heap.objs.size f cd::outer):=λb hb=>by let(env,h1,h2):=pq.mp hb;erw[pq.mpr #[env,.tail _ h1,h2]]
 have rW:∀b o,s.heap.get? b=some o->b∉fj outer->b∉fj (envOfC qual scope s.heap.objs.size f cd::outer):=λb o e hb hm=>by
  let(env,h1,h2):=pq.mp hm;rcases bI.mp h1 with z|h1
  ·subst z
   have e1:s.heap.objs.size=b:=dU h2;have e2:=bX e;rw[<-e1]at e2;erw[absurd e2 (qS _)]
  ·erw[hb (pq.mpr #[env,h1,h2])]
 have nx:∀b:Addr,b∉([]:List Addr):=λ_=>ck;erw[ex,cls,dx,H',B,Z,ho.trans I.os,hg,x1,#[#[λb o e n hb _=>?_,λb o e n hb _=>?_,λb o e n _=>?_,λb o e _=>?_,λb xs e=>?_,λb o u e=>?_,λb ps e=>?_],F2.bp,λb o e n hb=>?_,F2.k2,λb o e hb=>?_,λb hb=>F2.fr b (sub b hb),?_,F2.ne],he _ _ _ q]
 ·erw[F2.un.keep b o (I.au.keep b o e n hb (nx b)) (I.au.free b o e n (nx b)) (rW b o e hb) (nx b)]
 ·let(sl,e1):=I.au.slot b o e n hb (nx b)
  let(sl2,e2):=F2.un.slot b _ e1 (I.au.free b o e n (nx b)) (sub b hb) (nx b);erw[sl2,e2]
 ·let(sl,e1):=I.au.any e n (nx b)
  erw[F2.un.free b _ e1 (I.au.free b o e n (nx b)) (nx b)]
 ·let(o1,e1):=I.au.there b o e (nx b)
  erw[F2.un.there b o1 e1 (nx b)]
 ·erw[F2.un.lB b xs (I.au.lB b xs e)]
 ·erw[F2.un.kP b o u (I.au.kP b o u e)]
 ·let(m1,e1):=I.au.lC b ps e
  let(m2,e2):=F2.un.lC b _ e1;erw[m1++m2,by rw[<-Array.append_assoc];erw[e2]]
 ·erw[F2.k1 b o (I.au.keep b o e n hb (nx b)) (I.au.free b o e n (nx b)) (rW b o e hb)]
 ·let(o1,e1):=I.au.there b o e (nx b)
  erw[F2.k3 b o1 e1 (rW b o e hb)]
 ·cases e:s.heap.get? ex with |none=>rfl |some o=>let(o1,e1):=I.au.there ex o e (nx ex);rw[F2.nw]at e1;cases e1
end
end _L
namespace _L
open PySem PySem.Spec PyProof.Rows
open Builtin Builtin.ObjectAttr
section
variable {prog:af}{w:World}{A:ah}{E:Value->ae->Prop}{s:ae}{K:aa}{x C dx:Addr}{ox:Obj}{fs:Array Value}{name:Str}{v:Value}{Q:Unit->ae->Prop}{mA:bO}{ks:List Str}
end
section
variable {X:Cx}{o e value:Expr}{f:Str}{pos pos' tY:Pos}{ta tv:TE}
end
end _L
namespace _L
open PySem PySem.Spec PyProof.Rows
def hU(P:af)(w:World)(K:aa)(mg:bO)(au:Heap)(C:Addr)(m:Str)(k:Nat)(sp:Sp):Prop:=∃f fd ps,eR P w K mg au (jt P w) k f fd ps sp/\Meth K C m f/\Binds K fd ps []
section
variable {P:af}{w:World}{K:aa}{mg:bO}{au:Heap}
theorem kT.okD{m qual:Str}{st:Stmt}{f:Addr}{fd:FuncData}{N ps:List Str}{k:Nat}{sp:Sp}(F:kT K m qual st f fd)(S:bu N ps (aW st))(len:∀vs H Q E,sp vs H Q E->vs.length=ps.length) (gq:∀(aH:Value)(A:ah)(outer:List Env)(s:ae)(H:Hp)(vs:List V)(Q:VK)(E:XK),cI k (A.deeper (envOfC qual (aW st) s.heap.objs.size f aH))->sp vs H Q E->∃t,g9 (iE (jt P w) P w K mg au N qual (aW st) f aH A outer s H E) (fY st) t/\t {nx:=λ_ H'=>Q .bD H',rt:=Q} (start N vs) H):eR P w K mg au (jt P w) (k+1) f fd ps sp:=by let(oc,od,kV,doc,pm,an,aH,ct,fV,rfl,lk,fi):=F.ex;erw[KJ lk fi S len λA outer s H vs Q E hr fS=>gq aH A outer s H vs Q E hr fS]
theorem MA.sM{C:Addr}{m qual:Str}{st:Stmt}{N ps:List Str}{k:Nat}{sp:Sp}(F:MA K C m qual st)(S:bu N ps (aW st))(len:∀vs H Q E,sp vs H Q E->vs.length=ps.length) (hb:∀(kV doc pm:Value)(an:Option Addr)(aH ct:Value)(us:List Value),us.length=ps.length->bindArgs (PySem.W.fnOf m qual (jJ st) (fY st) (aW st) .none kV doc pm an aH ct) #[us,[]]=pure (ps.zip us)) (gq:∀(f:Addr)(aH:Value)(A:ah)(outer:List Env)(s:ae)(H:Hp)(vs:List V)(Q:VK)(E:XK),cI k (A.deeper (envOfC qual (aW st) s.heap.objs.size f aH))->sp vs H Q E->∃t,g9 (iE (jt P w) P w K mg au N qual (aW st) f aH A outer s H E) (fY st) t/\t {nx:=λ_ H'=>Q .bD H',rt:=Q} (start N vs) H):hU P w K mg au C m (k+1) sp:=by let(f,fd,hm,F):=F.ex;erw[f,fd,ps,F.okD S len λaH A outer s H vs Q E=>gq f aH A outer s H vs Q E,hm,F.binds hb]
end
section
variable {X:Cx}{k:Nat}{x m:Str}{C:Addr}{p pos apos:Pos}{o e:Expr}{es:List Expr}{t:TA}{ta:TE}{sp:Sp}{E:XK}
inductive M9(C:Addr)(m:Str)(sp:Sp)(E:XK)(t:TA)(O:St)(Q:VK)(x:V)(H1:Hp):Prop |mk (a:Addr)(dx:Addr)(fs:List (Str×V))(h0:x= .ref a)(h1:H1 a=some (.ins C dx fs))(h2:fs.lookup m=none)(h3:t O H1 λvs H2=>sp (x::vs) H2 Q E)
def Ng(C:Addr)(m:Str)(sp:Sp)(E:XK)(ta:TE)(t:TA):TE:=λO H Q=>ta O H λx H1=>M9 C m sp E t O Q x H1
theorem SG{O:St}{Q:VK}{x:V}{H1:Hp}:vB C m sp [] E t O Q x H1=M9 C m sp E t O Q x H1:=by
 have e1:(λ(vs:List V) H1=>sp (x::(vs++[])) H1 Q E)=λvs H1=>sp (x::vs) H1 Q E:=by funext vs H1;rw[qU]
 erw[propext #[λ#[a,dx,fs,h0,h1,h2,h3]=>#[a,dx,fs,h0,h1,h2,?_],λ#[a,dx,fs,h0,h1,h2,h3]=>#[a,dx,fs,h0,h1,h2,?_]]]
 ·rw[<-e1];erw[h3]
 ·rw[e1];erw[h3]
theorem zj{pl:Sem Bool}(F:hU X.prog X.w X.K X.mg X.au C m k sp)(hp:Passes (jt X.prog X.w) X E)(c:hV X.K C)(hr:cI k X.A)(he:PE X o ta)(ha:PA X (e::es) t) (gp:autoParam (starEach (e::es) X.env=(false,eval e X.env)::starEach es X.env) r8_._auto_1)(eg:autoParam ((backTo pos (starEach es X.env)).any (·.1)=false) r8_._auto_1) (ht:eval (.Call (.Attribute o m apos) (e::es) [] pos) X.env=(do
 let ov<-eval o X.env
 standAt apos.atName
 let(f,first)<-holding [ov] (getMethod ov m pl)
 callWith pos f first (backTo pos (starEach (e::es) X.env)) (backToKw pos (keywordEach [] X.env))):=by rfl): PE X (.Call (.Attribute o m apos) (e::es) [] pos) (Ng C m sp E ta t):=by
 let(f,fd,ps,F,hm,hb):=F;have h:=RH (pos:=pos) (apos:=apos) (pl:=pl) he c hm F hr hb .nil hp ha gp eg ht;intro pins s O H Q I hq;erw[h pins s O H Q I ?_];show ta O H λx H1=>vB C m sp [] E t O Q x H1;simp only[SG];erw[hq]
theorem a1P{pl:Sem Bool}(F:hU X.prog X.w X.K X.mg X.au C m k sp)(hp:Passes (jt X.prog X.w) X E)(c:hV X.K C)(hr:cI k X.A)(he:PE X o ta) (ht:eval (.Call (.Attribute o m apos) [] [] pos) X.env=(do
 let ov<-eval o X.env
 standAt apos.atName
 let(f,first)<-holding [ov] (getMethod ov m pl)
 callWith pos f first (backTo pos (starEach [] X.env)) (backToKw pos (keywordEach [] X.env))):=by rfl): PE X (.Call (.Attribute o m apos) [] [] pos) (Ng C m sp E ta rn):=by
 let(f,fd,ps,F,hm,hb):=F;have h:=RF (pos:=pos) (apos:=apos) (pl:=pl) he c hm F hr hb .nil hp ht;intro pins s O H Q I hq;erw[h pins s O H Q I ?_];show ta O H λx H1=>vB C m sp [] E rn O Q x H1;simp only[SG];erw[hq]
end
end _L
namespace _L
open PySem PySem.Spec PyProof.Rows SeqAt
section
variable {X:Cx}{k:Nat}{x:Str}{p pos:Pos}{e:Expr}{es:List Expr}{t:TA}{sp:Sp}{E:XK}
inductive afD(X:Cx)(i:Nat)(CX:jc)(E:XK)(t:TA)(O:St)(H:Hp)(Q:VK):Prop |mk (f:Addr)(fd:FuncData)(ps:List Str)(k:Nat)(sp:Sp)(h0:O[i]? =some (some (.ref f)))(h1:eR X.prog X.w X.K X.mg X.au CX k f fd ps sp)(h2:PySem.W.keepIn X.K (.ref f)=true)(h3:Binds X.K fd ps [])(h4:cI k X.A)(h5:t O H λvs H1=>sp vs H1 Q E)
theorem a1Z(i:Nat){CX:jc}(hp:Passes CX X E)(hN:autoParam (X.N[i]? =some x) r8_._auto_1)(hv:autoParam (AF X.env.scope x) d8_._auto_1)(ha:PA X (e::es) t)(hd:autoParam ((x==("__debug__":Str))=false) q8_._auto_1) (fi:autoParam ((x==("__classdict__":Str))=false) q8_._auto_1)(he:autoParam (starEach (e::es) X.env=(false,eval e X.env)::starEach es X.env) r8_._auto_1)(eg:autoParam ((backTo pos (starEach es X.env)).any (·.1)=false) r8_._auto_1): PE X (.Call (.Name x p) (e::es) [] pos) (λO H Q=>afD X i CX E t O H Q):=by intro pins s O H Q I h;let(f,fd,ps,k,sp,h0,F,hk,hb,hr,ht):=h;erw[yc (aZ (Iv (pos:=p) hN hv hd fi pins s O H (λv H'=>v= .ref f/\H'=H) I #[_,h0,Z,Z]) λu s1 #[v,H1,I1,rv,e1,e2]=>?_)];subst e1 e2;cases(show u=Value.ref f from rv);erw[vJ (h₀:=X.au) I1.ok.mod.lJ hk (aZ (ha pos pins s1 O H1 _ I1 ht) λus s2 #[vs,H2,I2,r,q]=>#[I2.fD,?_]) he eg];erw[C7 F hr hb .nil hp I2 r ?_];rw[qU];erw[q]
end
section
variable {X:Cx}
end
end _L
namespace _L
open PySem PySem.Spec PyProof.Rows
section
variable {κ : Type} [DecidableEq κ]
def jx(aM:List (κ×V))(k:κ):Option V:=(aM.find? λkv=>decide (kv.1=k)).map (·.2)
def putK(aM:List (κ×V))(k:κ)(v:V):List (κ×V):=if(aM.any λkv=>decide (kv.1=k))=true then aM.map (λkv=>if kv.1=k then(kv.1,v)else kv)else aM++[(k,v)]
theorem EO{k:κ}(e:p.1=k):jx (p::r) k=some p.2:=by simp[jx,B6,e]
theorem ER{k:κ}(e:¬p.1=k):jx (p::r) k=jx r k:=by simp[jx,B6,e]
theorem N2(k:κ):∀aM:List (κ×V),(aM.any λkv=>decide (kv.1=k))=(jx aM k).isSome
 |[]=>rfl |p::r=>by
  rw[qV];by_cases e:p.1=k
  ·simp only[EO e,bM e,Bool.true_or,Option.isSome_some]
  ·rw[ER e,cG e,Bool.false_or];erw[N2 k r]
theorem Jv(aM:List (κ×V))(k:κ)(v:V):(putK aM k v).length<=aM.length+1:=by
 unfold putK;split
 ·rw[bV];lia
 ·rw[eP,gy,List.length_nil];lia
theorem jP.a6u(r:jP o u):o.isSome=u.isSome:=by cases o with
 |none=>cases u with |none=>rfl |some _=>exact(show False from r).elim
 |some _=>cases u with |none=>exact(show False from r).elim |some _=>rfl
theorem KV.val(r:KV aM vs)(k:κ):jP (jx aM k) (valueAt vs k):=by unfold KV at r;induction r with |nil=>erw[True.intro] |@cons p q ps qs h t ih=>
 let(h1,h2):=h;by_cases e:p.1=k
 ·have e':q.1=k:=h1.symm.trans e
  have b:valueAt (q::qs) k=some q.2:=by simp[valueAt,B6,e']
  rw[EO e,b];erw[h2]
 ·have e':¬q.1=k:=λz=>e (h1.trans z)
  have b:valueAt (q::qs) k=valueAt qs k:=by simp[valueAt,B6,e']
  rw[ER e,b];erw[ih]
theorem KV.any(r:KV aM vs)(k:κ):(aM.any λkv=>decide (kv.1=k))=vs.any λkv=>decide (kv.1=k):=by unfold KV at r;induction r with |nil=>rfl |cons h t ih=>rw[qV,qV,ih,h.1]
theorem KV.HW(r:KV aM vs)(k:κ){y:V}{u:Value}(ry:RelV y u): KV (aM.map λkv=>if kv.1=k then(kv.1,y)else kv) (vs.map λkv=>if kv.1=k then(kv.1,u)else kv):=by unfold KV at r⊢;induction r with |nil=>erw[.nil] |@cons p q ps qs h t ih=>
 rw[kZ,kZ];erw[.cons ?_ ih];let(h1,h2):=h;by_cases e:p.1=k
 ·rw[bo e,bo (h1.symm.trans e)];erw[h1,ry]
 ·rw[bj e,bj (λz=>e (h1.trans z))];erw[h1,h2]
theorem KV.put(r:KV aM vs)(k:κ){y:V}{u:Value}(ry:RelV y u):KV (putK aM k y) (stored vs k u):=by
 unfold putK stored;rw[r.any k];by_cases e:(vs.any λkv=>decide (kv.1=k))=true
 ·rw[bo e,bo e];erw[r.HW k ry]
 ·rw[bj e,bj e];erw[Paired.snoc r #[Z,ry]]
theorem KV.length{aM:List (κ×V)}{vs:List (κ×Value)}(r:KV aM vs):aM.length=vs.length:=Paired.length r
end
theorem CN{P:af}{w:World}{k:Key}(r:RelV (kV k) u):(jE P w).is k u=true:=by cases k with |inl i=>let(t,e):=(show∃t,u=Value.int i t from r);subst e;erw[a5d P w i t] |inr x=>let(t,e):=(show∃t,u=Value.str x t from r);subst e;erw[a5c P w x t]
theorem TF{P:af}{w:World}:∀{ks:List Key}{us:List Value},Vals (ks.map kV) us->ItemsAre (jE P w) ks us |[],_,r=>by rw[List.map_nil]at r;cases r;erw[.nil] |k::ks,_,r=>by rw[kZ]at r;cases r with |cons h t=>erw[.cons (CN h) (TF t)]
abbrev KT(H:Hp):List (List Key×V)->List (List Key×Addr×Value)->Prop:=Paired λp q=>p.1=q.1/\H q.2.1=some (.tup (p.1.map kV))/\RelV p.2 q.2.2
theorem KT.val(r:KT H aM xs)(k:List Key):jP (jx aM k) ((atKey xs k).map (·.2)):=by induction r with |nil=>erw[True.intro] |@cons p q ps qs h t ih=>
 let(h1,_,h2):=h;by_cases e:p.1=k
 ·have e':q.1=k:=h1.symm.trans e
  have b:atKey (q::qs) k=some q.2:=by simp[atKey,B6,e']
  rw[EO e,b];erw[h2]
 ·have e':¬q.1=k:=λz=>e (h1.trans z)
  have b:atKey (q::qs) k=atKey qs k:=by simp[atKey,B6,e']
  rw[ER e,b];erw[ih]
theorem KT.HW(r:KT H aM xs)(k:List Key){y:V}{u:Value}(ry:RelV y u): KT H (aM.map λkv=>if kv.1=k then(kv.1,y)else kv) (xs.map (putAt k u)):=by induction r with |nil=>erw[.nil] |@cons p q ps qs h t ih=>
 rw[kZ,kZ];erw[.cons ?_ ih];let(h1,h2,h3):=h;unfold putAt;by_cases e:p.1=k
 ·rw[bo e,bo (h1.symm.trans e)];erw[h1,h2,ry]
 ·rw[bj e,bj (λz=>e (h1.trans z))];erw[h1,h2,h3]
theorem KT.put(r:KT H aM xs)(k:List Key){b:Addr}{y:V}{u:Value}(hb:H b=some (.tup (k.map kV)))(ry:RelV y u): KT H (putK aM k y) (storedH xs k b u):=by
 have e:(aM.any λkv=>decide (kv.1=k))=(atKey xs k).isSome:=by rw[N2,(r.val k).a6u,Option.isSome_map]
 unfold putK storedH;rw[e];by_cases q:(atKey xs k).isSome=true
 ·rw[bo q,bo q];erw[r.HW k ry]
 ·rw[bj q,bj q];erw[Paired.snoc r #[Z,hb,ry]]
theorem KT.keeps(r:KT H aM xs)(ht:∀b ys,H b=some (.tup ys)->H' b=some (.tup ys)):KT H' aM xs:=Paired.Jk r λ_ _ z=>#[z.1,ht _ _ z.2.1,z.2.2]
section
variable {P:af}{w:World}{H:Hp}{h:Heap}{a:Addr}
theorem QZ(ok:dS P w H h)(e:Rd H a u):gb P w H h a u:=e.ok ok
theorem Lg(ok:dS P w H h)(e:Rd H a (.dK aM)):aM.length<=sizeLine/\(a==sysModules)=false/\∃vs,KV aM vs/\h.DictOf (jE P w) a vs:=show gb P w H h a (.dK aM)from QZ ok e
theorem Vt(ok:dS P w H h)(e:H a=some (.dK aM)):aM.length<=sizeLine/\(a==sysModules)=false/\∃vs,KV aM vs/\h.DictOf (jE P w) a vs:=Lg ok (.inl e)
theorem JD(ok:dS P w H h)(e:H a=some (.tup (ks.map kV))):(tupleKind (jE P w)).is h ks a:=by let(_,its,r,o,h1,h2,n,h3):=(show gb P w H h a (.tup (ks.map kV))from ok a _ e);erw[o,its.toArray,n,h1,h2,h3,by simpa using TF r]
theorem Le(ok:dS P w H h)(e:Rd H a (.dT aM)):aM.length<=sizeLine/\(a==sysModules)=false/\∃xs,KT H aM xs/\h.DictOfH (tupleKind (jE P w)) a xs:=by
 let(z,y,xs,r,o,es,ep,h1,h2,h3,h4,h5):=(show gb P w H h a (.dT aM)from QZ ok e);erw[z,y,xs,r,o,es,ep,h1,h2,h3,h4,λx hx=>?_,h5];have all:∀{l:List (List Key×V)}{m:List (List Key×Addr×Value)},KT H l m->∀x∈m,(tupleKind (jE P w)).is h x.1 x.2.1:=by intro l m q;induction q with |nil=>intro x hx;erw[nomatch hx] |@cons p q ps qs hq t ih=>
  intro x hx;rcases bI.mp hx with e|hx
  ·subst e
   erw[JD ok (by rw[<-hq.1];erw[hq.2.1])]
  ·erw[ih x hx]
 erw[all r x hx]
theorem abG(ok:dS P w H h)(e:H a=some (.dT aM)):aM.length<=sizeLine/\(a==sysModules)=false/\∃xs,KT H aM xs/\h.DictOfH (tupleKind (jE P w)) a xs:=Le ok (.inl e)
end
def vE(H:Hp)(a:Addr)(y:V)(r:Option V):Prop:=(∃aM k,Rd H a (.dK aM)/\y=kV k/\r=jx aM k)\/∃aM k b,Rd H a (.dT aM)/\y= .ref b/\H b=some (.tup (k.map kV))/\r=jx aM k
def xX(H:Hp)(a:Addr)(y v:V)(H':Hp):Prop:=(∃aM k,H a=some (.dK aM)/\y=kV k/\aM.length<sizeLine/\H'=upd H a (.dK (putK aM k v)))\/ ∃aM k b,H a=some (.dT aM)/\y= .ref b/\H b=some (.tup (k.map kV))/\aM.length<sizeLine/\H'=upd H a (.dT (putK aM k v))
theorem vE.k{k:Key}(e:H a=some (.dK aM)):vE H a (kV k) (jx aM k):=.inl #[aM,k,.inl e,Z,Z]
theorem xX.k{k:Key}{v:V}(e:H a=some (.dK aM))(hl:aM.length<sizeLine):xX H a (kV k) v (upd H a (.dK (putK aM k v))):=.inl #[aM,k,e,Z,hl,Z]
section
variable {X:Cx}{pins:List (Addr×Obj)}{O:St}{H:Hp}{s:ae}{a:Addr}{y v:V}{u r:Value}{o:Option V}{A:ah}{E:Value->ae->Prop}
theorem Inv.big(I:Inv X pins O H s):sysModules<s.heap.objs.size:=by have h:mainGlobals<s.heap.objs.size:=(I.mod.glob.keeps I.bk).lt;erw[nY aw h]
theorem ac0{Q:Value->ae->Prop}(hu:A.units+1<cLine)(I:Inv X pins O H s)(g:vE H a y (some v))(ry:RelV y u)(h:∀w' s',Inv X pins O H s'->RelV v w'->Q w' s'): wpAny (model X.prog X.w) A (getItem (.ref a) u) Q E s:=by
 rcases g with⟨aM,k,e,ey,l⟩|⟨aM,k,b,e,ey,eb,l⟩
 ·subst ey
  let(z,hd,vs,rel,dd):=Lg I.bp e;let(w',hw,eU):=jP.some_of (v:=v) (o:=valueAt vs k) (by rw[l];erw[rel.val k]);erw[wpAny_getItem_of (CN ry) dd.mapOf hw (h w' _ (I.tok _) eU)]
 ·subst ey
  cases(show u=Value.ref b from ry);let(z,hd,xs,rel,dd):=Le I.bp e;let(w',hw,eU):=jP.some_of (v:=v) (o:=(atKey xs k).map (·.2)) (by rw[l];erw[rel.val k]);let(p,hp,Dj):=Ew.mp hw;erw[wpAny_getItem_heap (tupleKind_room_in1 hu) (JD I.bp eb) dd hp ?_];rw[Dj];erw[h w' _ (I.tok _) eU]
theorem Lm{ob:HO}(I:Inv X pins O H s)(mu:AK (H a))(hs:Heap.SameBut a s.heap h')(he:∃q,h'.get? a=some q)(new:gb X.prog X.w (upd H a ob) h' a ob): Inv X pins O (upd H a ob) {s with heap:=h',toks:=t'}:=I.write (x:=a) (e:=a) mu (.inl Z) (λb q hb z=>(hs.2 b hb).trans z) he new
theorem Vu{P:af}{w:World}(z:aM.length<=sizeLine)(hd:(a==sysModules)=false)(rel:KV aM vs)(dd:h'.DictOf (jE P w) a vs): gb P w H' h' a (.dK aM):=#[z,hd,vs,rel,dd]
theorem abZ{H':Hp}{Q:Unit->ae->Prop}(hu:A.units+1<cLine)(I:Inv X pins O H s)(g:xX H a y v H')(ry:RelV y u)(rv:RelV v r)(h:∀s',Inv X pins O H' s'->Q () s'): wpAny (model X.prog X.w) A (setItem (.ref a) u r) Q E s:=by
 rcases g with⟨aM,k,e,ey,l,eH⟩|⟨aM,k,b,e,ey,eb,l,eH⟩
 ·subst ey eH
  let(z,hd,vs,rel,dd):=Vt I.bp e;have hz:vs.length<=sizeLine:=by rw[<-rel.length];erw[z]
  have hl:(putK aM k v).length<=sizeLine:=by have:=Jv aM k v;lia
  erw[wpAny_setItem_pairs (hsz:=hz) (CN ry) dd λh' p4 hs=>h _ ?_];have he:∃q,h'.get? a=some q:=let#[q,_,_,hq,_]:=p4;#[q,hq];erw[Lm I (by rw[e];erw[True.intro]) hs he (Vu hl hd (rel.put k rv) p4)]
 ·subst ey eH
  cases(show u=Value.ref b from ry);let(z,hd,xs,rel,dd):=abG I.bp e;have hz:xs.length<=sizeLine:=by rw[<-Paired.length rel];erw[z]
  have hl:(putK aM k v).length<=sizeLine:=by have:=Jv aM k v;lia
  erw[wpAny_setItem_heap (hsz:=hz) (tupleKind_room_in1 hu) (JD I.bp eb) dd λh' p4 hs=>h _ ?_];let(q,es,ep,hq,h2,h3,h4,_,h5):=p4;erw[Lm I (by rw[e];erw[True.intro]) hs #[q,hq] #[hl,hd,_,(rel.put k eb rv).keeps λc ys ec=>?_,q,es,ep,hq,h2,h3,h4,h5]];rw[aQ (iP ec e (λz=>nomatch z))];erw[ec]
end
section
variable {X:Cx}{pins:List (Addr×Obj)}{O:St}{H:Hp}{s:ae}{a:Addr}{aM:List (Key×V)}{k:Key}{u:Value}{A:ah}{E:Value->ae->Prop}
end
def Ek(i:Expr):Prop:=∀ov iv,subscripted i false ov iv=operate [ov,iv] (getItem ov iv)
theorem Nv{prog:af}{w:World}{A:ah}{E:Value->ae->Prop}{s:ae}{env:Env}{value slice:Expr}{pos:Pos}{T id:String}{Q:Value->ae->Prop} (hl:typeLookup (.type T) "__getitem__"=pure (some (.builtin id)))(hs:Ek slice) (h:wpAny (model prog w) A (eval value env) (λo s₁=>wpAny (model prog w) A (eval slice env) (λi s₂=>s₂.TypeIs o T/\wpAny (model prog w) A (getItem o i) Q E s₂) E s₁) E s): wpAny (model prog w) A (eval (.Subscript value slice pos) env) Q E s:=by
 erw[Subscript_ (ju h (λo s₁ h₁=>ju h₁ (λi s₂ h₂=>?_) λ_ _ x=>x) λ_ _ x=>x)];let(hT,h₂):=h₂;unfold subscriptTail;erw[aJ ?_];rw[getitemInPython_of_ne hT.not_modules];erw[aJ (vF hT hl ?_)];have fin:wpAny (model prog w) A (subscripted slice false o i) (λr s₃=>wpAny (model prog w) A (letTemporaryGo value o r>>=λ_=>pure r) Q E s₃) E s₂:=by rw[hs o i];erw[wpAny_operating (ju h₂ (λr s₃ h₃=>aJ (wpAny_letTemporaryGo (cg h₃))) λ_ _ x=>x)]
 first |erw[cg (aJ fin)] |erw[aJ (cg (aJ fin))] |erw[aJ fin]
theorem abV{X:Cx}{pins:List (Addr×Obj)}{O:St}{H:Hp}{s:ae}{a:Addr}{y:V}{o:Option V}(I:Inv X pins O H s)(g:vE H a y o):s.TypeIs (.ref a) "dict":=by
 rcases g with⟨aM,k,e,_,_⟩|⟨aM,k,b,e,_,_,_⟩
 ·let(_,_,vs,_,dd):=Lg I.bp e
  erw[dd.typeIs]
 ·let(_,_,xs,_,dd):=Le I.bp e
  erw[dd.typeIs]
inductive adw(Q:VK)(x:V)(y:V)(H2:Hp):Prop |mk (a:_)(v:_)(h0:x= .ref a)(h1:vE H2 a y (some v))(h2:Q v H2)
def Nk(td ty:TE):TE:=λO H Q=>td O H λx H1=>ty O H1 λy H2=>adw Q x y H2
inductive aeV(D:Ends)(O:St)(v:V)(x:V)(y:V)(H3:Hp):Prop |mk (a:_)(H4:_)(h0:x= .ref a)(h1:xX H3 a y v H4)(h2:D.nx O H4)
def a03(td ty tv:TE):TS:=λD O H=>tv O H λv H1=>td O H1 λx H2=>ty O H2 λy H3=>aeV D O v x y H3
section
variable {X:Cx}{o i e value:Expr}{pos pos' tY:Pos}{td ty tv:TE}
theorem RJ(hu:X.A.units+1<cLine)(ho:PE X o td)(hi:PE X i ty)(hs:Ek i):PE X (.Subscript o i pos) (Nk td ty):=by intro pins s O H Q I h;erw[Nv PySem.F.slot_dict_getitem.lookup hs (aZ (ho pins s O H _ I h) λu s1 #[x,H1,I1,rx,q1]=>aZ (hi pins s1 O H1 _ I1 q1) λiv s2 #[y,H2,I2,ry,a,v,ex,g,q2]=>?_)];subst ex;obtain rfl:u=Value.ref a:=rx;erw[abV I2 g,ac0 hu I2 g ry λw' s3 I3 eU=>#[v,H2,I3,eU,q2]]
theorem pQ(hu:X.A.units+1<cLine)(ho:PE X o td)(hi:PE X i ty)(hv:PE X value tv)(hs:swapsWith value (some (.Subscript o i pos')) pos.line X.env=pure false): PS X (.Assign [.Subscript o i pos'] value pos) (a03 td ty tv):=by intro pins s O H D I h;erw[wpAny_Assign_Subscript (aZ (hv pins s O H _ I h) λr s1 #[v,H1,I1,rv,q1]=>aZ (ho pins s1 O H1 _ I1 q1) λu s2 #[x,H2,I2,rx,q2]=>aZ (hi pins s2 O H2 _ I2 q2) λiv s3 #[y,H3,I3,ry,a,H4,ex,g,q3]=>?_) hs];subst ex;obtain rfl:u=Value.ref a:=rx;erw[abZ hu I3 g ry rv λs4 I4=>#[O,H4,I4,q3]]
end
theorem abP{P:af}{w:World}(h:Heap)(hb:sysModules<h.objs.size):gb P w H (h.push {cls:=.type "dict",data:=.dict #[]}) h.objs.size (.dK []):=#[fT _,Ep.mpr (jS (dI hb)),[],.nil,Heap.DictOf.new h]
section
variable {X:Cx} {pos:Pos}
end
def F1:List (TE×TE)->St->Hp->(List (V×V)->Hp->Prop)->Prop |[],_,H,Q=>Q [] H |(tk,tv)::r,O,H,Q=>tk O H λx H1=>tv O H1 λy H2=>F1 r O H2 λps H3=>Q ((x,y)::ps) H3
abbrev VV:List (V×V)->List (Value×Value)->Prop:=Paired λp q=>RelV p.1 q.1/\RelV p.2 q.2
def Ej(X:Cx)(pos:Pos)(keys:List (Option Expr))(values:List Expr)(pA:List (TE×TE)):Prop:=∀(pins:List (Addr×Obj))(s:ae)(O:St)(H:Hp)(Q:List (V×V)->Hp->Prop),Inv X pins O H s->F1 pA O H Q->wpAny (model X.prog X.w) X.A (evalPairs (pairTrees keys values X.env pos)) (λvs s'=>∃ps H',Inv X pins O H' s'/\VV ps vs/\Q ps H') X.xe s
theorem a1x:Ej X pos [] [] []:=λpins s O H Q I h=>pairTrees_nil_walk #[[],H,I,.nil,h]
theorem Cd{k v:Expr}(hk:PE X k tk)(hv:PE X v tv)(hr:Ej X pos ks vs pA): Ej X pos (some k::ks) (v::vs) ((tk,tv)::pA):=λpins s O H Q I h=>pairTrees_cons_walk (aZ (hk pins s O H _ I h) λu s1 #[x,H1,I1,rx,q1]=>aZ (hv pins s1 O H1 _ I1 q1) λw2 s2 #[y,H2,I2,ry,q2]=>aZ (hr pins s2 O H2 _ I2 q2) λws s3 #[ps,H3,I3,rel,q3]=>#[(x,y)::ps,H3,I3,.cons #[rx,ry] rel,q3])
def x6(aM more:List (Key×V)):List (Key×V):=more.foldl (λacc kv=>putK acc kv.1 kv.2) aM
theorem KV.merge:∀{more:List (Key×V)}{rs:List (Key×Value)}{aM:List (Key×V)}{vs:List (Key×Value)},KV more rs->KV aM vs->KV (x6 aM more) (merged vs rs):=by intro more rs aM vs r;unfold KV at r;induction r generalizing aM vs with |nil=>intro q;erw[q] |@cons p q ps qs h t ih=>
 intro r0;have e:KV (putK aM p.1 p.2) (stored vs q.1 q.2):=by have:=r0.put p.1 h.2;rw[<-h.1];erw[this]
 erw[ih e]
theorem Ta:∀(more aM:List (Key×V)),(x6 aM more).length<=aM.length+more.length |[],aM=>by show aM.length<=aM.length+0;lia |p::r,aM=>by have h1:=Ta r (putK aM p.1 p.2);have h2:=Jv aM p.1 p.2;show(x6 (putK aM p.1 p.2) r).length<=_;rw[gy];lia
theorem VY{P:af}{w:World}:∀{aM:List (Key×V)}{ws:List (Value×Value)},VV (aM.map λkv=>(kV kv.1,kv.2)) ws->∃rs,Carries (jE P w) ws rs/\KV aM rs |[],_,r=>by rw[List.map_nil]at r;cases r;erw[[],True.intro,.nil] |p::aM,_,r=>by rw[kZ]at r;cases r with |@cons a b as bs h t=>let(rs,c,q):=VY (P:=P) (w:=w) t;let(b1,b2):=b;erw[(p.1,b2)::rs,#[CN h.1,Z,c],.cons #[Z,h.2] q]
def Z1(pA:List (TE×TE)):TE:=λO H Q=>∀p,H p=none->F1 pA O (upd H p (.dK [])) λps H2=>H2 p=some (.dK [])/\∃aM:List (Key×V),ps=aM.map (λkv=>(kV kv.1,kv.2))/\aM.length<=15/\Q (.ref p) (upd H2 p (.dK (x6 [] aM)))
theorem a1W(h:Ej X pos keys values pA)(Ki:keys.all (·.isSome)=true)(hl:keys.length=values.length)(h0:keys≠[]) (h15:keys.length<=15):PE X (.Dict keys values pos) (Z1 pA):=by
 intro pins s O H Q I q;have hn:=I.bp.fresh (bL s.heap.objs.size);have I1:=I.laid (a:=s.heap.objs.size) (o:=.dK []) (h':=s.heap.push {cls:=.type "dict",data:=.dict #[]}) (t':=s.toks) (λ_ _ q=>bZ _ q) (bL _) (abP s.heap I.big);erw[wpAny_Dict_walk (knd:=jE X.prog X.w) Ki hl h0 h15 (aZ (h pins _ O _ _ I1 (q _ hn)) λws s2 #[ps,H2,I2,rel,e,aM,ep,lk,q2]=>?_)];subst ep;let(rs,c,rk):=VY (P:=X.prog) (w:=X.w) rel;let(z,hd,vs0,r0,dd):=Vt I2.bp e;cases r0;erw[rs,c,dd,λh' p4 hs=>#[.ref s.heap.objs.size,_,?_,Z,q2]];have hz:(x6 [] aM).length<=sizeLine:=by have h1:=Ta aM [];rw[List.length_nil]at h1;rw[qR];lia
 have he:∃q,h'.get? s.heap.objs.size=some q:=let#[q,_,_,hq,_]:=p4;#[q,hq];erw[Lm I2 (by rw[e];erw[True.intro]) hs he (Vu hz hd (rk.merge .nil) p4)]
section
variable {X:Cx}{pins:List (Addr×Obj)}{O:St}{H:Hp}{s:ae}{a:Addr}{y d:V}{u r:Value}{o:Option V}{A:ah}{E:Value->ae->Prop}
end
section
variable {X:Cx}{o e f:Expr}{apos bW:Pos}{td ty tx:TE}
end
section
variable {X:Cx}{pins:List (Addr×Obj)}{O:St}{H:Hp}{s:ae}{a:Addr}{aM:List (Key×V)}{A:ah}{E:Value->ae->Prop}
end
section
variable {X:Cx}{pins:List (Addr×Obj)}{O:St}{H:Hp}{s:ae}{a:Addr}{y:V}{u:Value}{A:ah}{E:Value->ae->Prop}
end
end _L
namespace _L
open PySem PySem.Spec PyProof.Rows PySem.W
structure GD(w:World)(K:Frag)(mg:bO)(x:Str)(a:Addr):Prop where
 at':mg x=some (.ref a)
 ob:∃es n,K.lookup a=some #[.type "dict",none,.dict es n,#[]]/\KeysLit w.params es.toList
 lo:(a==sysModules)=false
theorem a9n{w:World}{K:Frag}{mg:bO}{n:Nat}(X:K.In h)(G:h.Ns mainGlobals mg)(e:nsIn K mainGlobals x=some (some (.ref a)))(hl:K.lookup a=some #[.type "dict",none,.dict es n,#[]])(hk:KeysLit w.params es.toList)(lo:(a==sysModules)=false):GD w K mg x a:=#[mg_of X G e,#[es,n,hl,hk],lo]
section
variable {X:Cx}{i:Expr}{x:Str}{a:Addr}{pos p:Pos}{ty:TE}
inductive afA(K:Frag)(a:Addr)(Q:VK)(y:V)(H:Hp):Prop |mk (z:Str)(r:Option Value)(h0:y= .str z)(h1:nsIn K a z=some r)(h2:Q (.bl r.isSome) H)
theorem RN(G:GD X.w X.K X.mg x a)(hg:Gl X x)(hi:PE X i ty)(gZ:autoParam ((x==("__debug__":Str))=false) q8_._auto_1):PC X .In i (.Name x p) (λO H Q=>ty O H λy H1=>afA X.K a Q y H1):=by intro pins s O H Q I h;let(es,n,hl,hk):=G.ob;erw[aZ (hi pins s O H _ I h) λiv s1 #[y,H1,I1,ry,z,r,ey,e,q]=>sA I1 hg G.at' ?_ gZ];subst ey;let(t,rfl):=ry;erw[wpAny_in_of (strKind_is X.prog X.w z t) G.lo (mapOf_K (prog:=X.prog) I1.fD hl hk) ?_];rw[find_K hl e];erw[.bl r.isSome,H1,I1.tok _,Z,q]
inductive afB(K:Frag)(a:Addr)(Q:VK)(y:V)(H:Hp):Prop |mk (z:Str)(u:Value)(v:V)(h0:y= .str z)(h1:nsIn K a z=some (some u))(h2:RelV v u)(h3:Q v H)
theorem RI(G:GD X.w X.K X.mg x a)(hg:Gl X x)(hi:PE X i ty)(hs:Ek i)(gZ:autoParam ((x==("__debug__":Str))=false) q8_._auto_1):PE X (.Subscript (.Name x p) i pos) (λO H Q=>ty O H λy H1=>afB X.K a Q y H1):=by intro pins s O H Q I h;let(es,n,hl,hk):=G.ob;erw[Nv PySem.F.slot_dict_getitem.lookup hs (sA I hg G.at' ?_ gZ)];erw[aZ (hi pins s O H _ I h) λiv s1 #[y,H1,I1,ry,z,u,v,ey,e,rv,q]=>?_];subst ey;let(t,rfl):=ry;have hm:=mapOf_K (prog:=X.prog) (w:=X.w) I1.fD hl hk;erw[hm.typeIs,wpAny_getItem_of (strKind_is X.prog X.w z t) hm (find_K hl e) #[v,H1,I1.tok _,rv,q]]
end
theorem a67{l:OpenLaw}{q:af}{loose:List Str}{XP:(bO)->Heap->Prop}{YP:World->Heap->Prop}{d:DefRec}{K:Params->Frag}{k:Nat}{x:Str}{st:Stmt}(hn:l.most=some 63)(zY:d.params.defaults=[]) (hr:cI k callerA)(hY:∀(w:World)(h:Heap),YP w h->(K w.params).In h)(All:World->Frag->(bO)->Prop) (F:∀(w:World)(mg:bO)(h:Heap),(K w.params).In h->h.Ns mainGlobals mg->All w (K w.params) mg) (L:∀(w:World)(K:Frag)(mg:bO),All w K mg->FA K mg d.name st) (hb:∀(kV doc pm:Value)(an:Option Addr)(aH ct u:Value),bindArgs (fnOf d.name d.name (jJ st) (fY st) (aW st) .none kV doc pm an aH ct) #[[u],[]]=pure [(x,u)]) (ok:∀(P:af)(w:World)(K:Frag)(mg:bO)(au:Heap)(f:Addr)(fd:FuncData),All w K mg->kT K d.name d.name st f fd->eR P w K mg au iX k f fd [x] (λvs H Q _=>∃(a:Addr)(ns:List Int),vs=[.ref a]/\aD K H a (ns.map V.int)/\ns.length<=63/\∀H',Q (.bl true) H')): WalkO q loose XP YP l.row.toRowW d [] (λf vs=>PySem.call f vs):=_L.XT (n:=63) (k:=k) (x:=x) (CX:=λ_=>iX) (sp:=λw=>λvs H Q _=>∃(a:Addr)(ns:List Int),vs=[.ref a]/\aD (K w.params) H a (ns.map V.int)/\ns.length<=63/\∀H',Q (.bl true) H') hn aw zY hr hY (λw mg fa h KX G zR=>by
 have A:=F w mg h KX G;let(f,fd,hm,Fn):=(L _ _ _ A).ex;have e:fa=f:=by rw[zR]at hm;injection (dU hm)
 subst e;erw[fd,λs u=>?_,λau _ _=>ok l.prog w _ mg au fa fd A Fn];let(oc,od,kV,doc,pm,an,aH,ct,fV,rfl,lk,fi):=Fn.ex;erw[.of_eq (hb kV doc pm an aH ct u)]) (λ_ _ a ns hl _ hS=>#[a,ns,Z,hS,hl,λ_=>rfl]) λ_ _ _ _ _ z=>z
end _L
set_option exponentiation.threshold 6000
namespace _L
open PySem PySem.Spec PyProof.Rows
section
variable {X:Cx}
theorem jL:fq X (.type "str") (λxs H Q=>(∃i,xs=[.int i]/\i.natAbs.log2<1920/\Q (.str (toString i)) H)\/∃z,xs=[.str z]/\Q (.str z) H):=by
 intro pins s O H xs us Q I r h;rcases h with⟨i,rfl,hz,q⟩|⟨z,rfl,q⟩
 ·let(u,rfl,t,rfl):=vals1 r
  erw[PySem.P.str_of_int hz #[.str _,H,I.tok _,#[_,Z],q]]
 ·let(u,rfl,t,rfl):=vals1 r
  erw[PySem.P.str_of_str #[.str _,H,I,#[_,Z],q]]
def rFv(x:V)(H:Hp)(Q:VK):Prop:=(∃i,x= .int i/\i.natAbs.log2<1920/\Q (.str (toString i)) H)\/∃z,x= .str z/\z.length<=sizeLine/\Q (.str z) H
theorem jj(h:PE X e te):PE X (.FormattedValue e (-1) none pos) (λO H Q=>te O H λx H'=>rFv x H' Q):=by
 intro pins s O H Q I ht;erw[wpAny_FormattedValue_plain (aZ (h pins s O H _ I ht) λv s1 #[x,H1,I1,r1,q1]=>?_)];rcases q1 with⟨i,rfl,hz,q⟩|⟨z,rfl,hz,q⟩
 ·let(t,rfl):=r1
  erw[wpAny_formatField_int hz #[.str _,H1,I1.tok _,#[_,Z],q]]
 ·let(t,rfl):=r1
  erw[wpAny_formatField_str #[.str _,H1,I1,#[_,Z],q] #[.str _,H1,I1.tok _,#[_,Z],q] hz]
abbrev TJ:=Str->St->Hp->VK->Prop
def PJ(X:Cx)(es:List Expr)(t:TJ):Prop:=∀(pins:List (Addr×Obj))(s:ae)(O:St)(H:Hp)(Q:VK)(acc:Str),Inv X pins O H s->t acc O H Q->Joins (model X.prog X.w) X.A X.xe (evalEach es X.env) acc (λout s₁=>out.length<=sizeLine/\EP X pins O Q (.str out s₁.toks) {s₁ with toks:=s₁.toks+1}) s
theorem pR:PJ X [] (λacc O H Q=>acc.length<=sizeLine/\Q (.str acc) H):=by intro pins s O H Q acc I h;erw[h.1,.str _,H,I.tok _,#[_,Z],h.2]
theorem fw(h:PE X e te)(hj:PJ X es tj)(he:autoParam (evalEach (e::es) X.env=eval e X.env::evalEach es X.env) r8_._auto_1): PJ X (e::es) (λacc O H Q=>te O H λx H'=>∃y,x= .str y/\(acc++y).length<=sizeLine/\tj (acc++y) O H' Q):=by intro pins s O H Q acc I ht;rw[he];erw[aZ (h pins s O H _ I ht) λv s1 #[x,H1,I1,r1,q1]=>?_];let(y,rfl,hl,q):=q1;let(t,rfl):=r1;erw[y,t,Z,hl,hj pins s1 O H1 Q _ I1 q]
theorem pT{t:TJ}(h:PJ X (e1::e2::es) t):PE X (.JoinedStr (e1::e2::es) pos) (λO H Q=>t Str.empty O H Q):=λpins s O H Q I ht=>wpAny_JoinedStr (h pins s O H Q _ I ht)
theorem CO(sep:Str){B:Nat}:∀(zs:List Str),(∀z∈zs,z.length<=B)->(Txt.join sep zs).length<=zs.length*(B+sep.length)
 |[],_=>fT _ |a::r,h=>by
  show(Builtin.Str.glued sep (a::r)).length<=_;rw[tI,len_join_cons];have:=Mh id B (a::r) h;rw[List.map_id]at this;rw[gy]at this⊢;have e1:(r.length+1)*(B+sep.length)=B*(r.length+1)+(r.length*sep.length+sep.length):=by rw[Nat.mul_add,MC (r.length+1) B,Nat.add_mul r.length 1 sep.length,Nat.one_mul]
  lia
inductive af6(K:aa)(x:V)(vs:List V)(H:Hp)(Q:VK):Prop |mk (sep:Str)(l:Addr)(zs:List Str)(h0:x= .str sep)(h1:vs=[.ref l])(h2:aD K H l (zs.map V.str))(h3:(∀z∈zs,z.length<=4000))(h4:sep.length<=8)(h5:zs.length<=1000)(h6:Q (.str (Txt.join sep zs)) H)
def Rk(K:aa):V->List V->Hp->VK->Prop:=λx vs H Q=>af6 K x vs H Q
theorem a59(K:aa)(hK:X.K=K):xR X "str.join" (Rk K):=by subst hK;intro pins s O H x vs v us Q I rx rv h;let(sep,l,zs,rfl,rfl,hl,hz,hs,hn,q):=h;let(t,rfl):=rx;let(u,rfl,ru):=vals1 rv;cases(show u=Value.ref l from ru);let(its,r,pl,_):=I.list hl;have zI:=Mh id 4000 zs hz;rw[List.map_id]at zI;have h1:zs.length*sep.length<=1000*8:=nX hn hs;erw[join_list (ys:=zs) pl.isList (StrsAre.of_carried (E8 r)) ao λt' k=>?_];erw[.str _,H,I.tok _,#[_,Z],q]
theorem wC(K:aa)(h:X.K=K){o e:Expr}{to:TE}{t:TA}{apos bW:Pos}(ho:PE X o to)(ha:PA X [e] t) (iT:autoParam (attributeBase o "join" X.env (eval o X.env)=eval o X.env) r8_._auto_1) (iS:autoParam (((backTo bW (starEach [e] X.env)).all (λx=>!x.1)&&(backToKw bW (keywordEach [] X.env)).all (λx=>x.1.isSome) &&decide ([e].length+([]:List Keyword).length+(if([]:List Keyword).isEmpty then 0 else 1)<30))=true) r8_._auto_1) (iR:autoParam ((apos.endLine==bW.line)=true) r8_._auto_1)(hs:autoParam (starEach [e] X.env=(false,eval e X.env)::starEach [] X.env) r8_._auto_1)(iQ:autoParam ((backTo bW (starEach [] X.env)).any (·.1)=false) r8_._auto_1): PE X (.Call (.Attribute o "join" apos) [e] [] bW) (rA K "str" (Rk K) to t):=by subst h;erw[uB yh X4 X2 (a59 X.K rfl) ho ha iT iS iR hs iQ]
theorem N3{i:Int}(h:i.natAbs<10^40):(Str.ofString (toString i)).length<=41:=by rw[WZ];erw[WU (k:=40) aw h]
theorem kL{i:Int}(h:i.natAbs<10^40):i.natAbs.log2<1920:=by
 by_cases h0:i.natAbs=0
 ·rw[h0];decide
 ·exact(Nat.log2_lt h0).mpr (nY h aw)
theorem VZ:∀(l:List (Str×Tok)),Vals ((l.map (·.1)).map V.str) (strValues l) |[]=>.nil |(z,t)::l=>.cons #[t,Z] (VZ l)
theorem split_len(x y:Str):(Txt.split x y).length<=x.length+2:=by
 unfold Txt.split;split
 ·simp
 ·split
  ·simp
  ·have e1:=StrLaws.occ_length_le x y 0 x.length (x.length+1)
   rw[length_partsBetween];omega
inductive aeZ(x:V)(vs:List V)(H:Hp)(Q:VK):Prop |mk (z y:Str)(h0:x= .str z)(h1:vs=[.str y])(h2:(y.length==0)=false)(h3:z.length+2<=sizeLine)(h4:∀p H',Nw H H' p (.lst ((Txt.split z y).map V.str))->Q (.ref p) H')
def Ri:V->List V->Hp->VK->Prop:=λx vs H Q=>aeZ x vs H Q
theorem a57:xR X "str.split" Ri:=by
 intro pins s O H x0 vs v us Q I rx rv h;let(x,y,rfl,rfl,hy,hz,q):=h;let(t,rfl):=rx;let(u0,rfl,u,rfl):=vals1 rv;have key:∀(l:List (Str×Tok))(k:Nat),l.map (·.1)=Txt.split x y->EP X pins O Q (.ref s.heap.objs.size) {s with toks:=k,heap:=s.heap.push {cls:=.type "list",data:=.seq (strValues l).toArray}}:=λl k e=>by have nw:Nw H (upd H s.heap.objs.size (.lst ((Txt.split x y).map V.str))) s.heap.objs.size (.lst ((Txt.split x y).map V.str)):=.of (I.bp.fresh (bL _));erw[.ref s.heap.objs.size,_,I.laid (t':=k) (o:=.lst ((Txt.split x y).map V.str)) (λb ob q=>bZ _ q) (bL _) ?_,Z,q _ _ nw];have:=split_len x y;erw[by rw[bV];omega,_,0,by rw[<-e];erw[VZ l],dD _ Z]
 cases h1:(decide (x.length<y.length)||decide (Builtin.Str.strKind x<Builtin.Str.strKind y))
 ·cases hf:(Builtin.Str.occurrences x y 0 x.length (x.length+1)).isEmpty
  ·have e1:=StrLaws.occ_length_le x y 0 x.length (x.length+1)
   erw[AW F.slot_str_split (yd _ _ _) F.entry_str_split (F.args_str_split_2 _ _) (meets_str_split_sep x y t u h1 hy hf bB (by rw[length_partsBetween];omega)) ?_];show wants _ _ _ {s with toks:=_,heap:=s.heap.push {cls:=.type "list",data:=.seq (strsFrom s.toks (Builtin.Str.partsBetween x (Builtin.Str.occurrences x y 0 x.length (x.length+1)) y.length)).toArray}};rw[strsFrom_eq];erw[key (numbered s.toks _) _ ((numbered_texts _ _).trans ((bj (WT h1)).trans (bj (WT hf))).symm)]
  ·erw[AW F.slot_str_split (yd _ _ _) F.entry_str_split (F.args_str_split_2 _ _) (meets_str_split_not_found x y t u h1 hy hf) (key [(x,t)] s.toks ((bj (WT h1)).trans (bo hf)).symm)]
 ·erw[AW F.slot_str_split (yd _ _ _) F.entry_str_split (F.args_str_split_2 _ _) (meets_str_split_cannot_occur x y t u h1) (key [(x,t)] s.toks (bo h1).symm)]
theorem uC(K:aa)(h:X.K=K){o e:Expr}{to:TE}{t:TA}{apos bW:Pos}(ho:PE X o to)(ha:PA X [e] t) (iT:autoParam (attributeBase o "split" X.env (eval o X.env)=eval o X.env) r8_._auto_1) (iS:autoParam (((backTo bW (starEach [e] X.env)).all (λx=>!x.1)&&(backToKw bW (keywordEach [] X.env)).all (λx=>x.1.isSome) &&decide ([e].length+([]:List Keyword).length+(if([]:List Keyword).isEmpty then 0 else 1)<30))=true) r8_._auto_1) (iR:autoParam ((apos.endLine==bW.line)=true) r8_._auto_1)(hs:autoParam (starEach [e] X.env=(false,eval e X.env)::starEach [] X.env) r8_._auto_1)(iQ:autoParam ((backTo bW (starEach [] X.env)).any (·.1)=false) r8_._auto_1): PE X (.Call (.Attribute o "split" apos) [e] [] bW) (rA K "str" Ri to t):=by subst h;erw[uB yh PySem.F.slot_str_split PySem.F.type_str_split a57 ho ha iT iS iR hs iQ]
inductive af4(x:V)(vs:List V)(H:Hp)(Q:VK):Prop |mk (z y:Str)(h0:x= .str z)(h1:vs=[.str y])(h3:z.length<=sizeLine)(h4:Q (.str (Txt.removeprefix z y)) H)
def Rj:V->List V->Hp->VK->Prop:=λx vs H Q=>af4 x vs H Q
theorem a58:xR X "str.removeprefix" Rj:=by intro pins s O H x0 vs v us Q I rx rv h;let(x,y,rfl,rfl,hz,q):=h;let(t,rfl):=rx;let(u0,rfl,u,rfl):=vals1 rv;erw[SC.removeprefix (λt' k=>#[.str _,H,I.kept (t':=k) (λ_ _ e=>e),#[_,Z],q]) (hsz:=hz)]
theorem a23(K:aa)(h:X.K=K){o e:Expr}{to:TE}{t:TA}{apos bW:Pos}(ho:PE X o to)(ha:PA X [e] t) (iT:autoParam (attributeBase o "removeprefix" X.env (eval o X.env)=eval o X.env) r8_._auto_1) (iS:autoParam (((backTo bW (starEach [e] X.env)).all (λx=>!x.1)&&(backToKw bW (keywordEach [] X.env)).all (λx=>x.1.isSome) &&decide ([e].length+([]:List Keyword).length+(if([]:List Keyword).isEmpty then 0 else 1)<30))=true) r8_._auto_1) (iR:autoParam ((apos.endLine==bW.line)=true) r8_._auto_1)(hs:autoParam (starEach [e] X.env=(false,eval e X.env)::starEach [] X.env) r8_._auto_1)(iQ:autoParam ((backTo bW (starEach [] X.env)).any (·.1)=false) r8_._auto_1): PE X (.Call (.Attribute o "removeprefix" apos) [e] [] bW) (rA K "str" Rj to t):=by subst h;erw[uB yh PySem.F.slot_str_removeprefix PySem.F.type_str_removeprefix a58 ho ha iT iS iR hs iQ]
inductive afc(xs:List V)(H:Hp)(Q:VK):Prop |mk (z:Str)(n:Int)(h0:xs=[.str z])(h1:PySem.intText? z=some n)(h2:z.length<=640)(h3:Q (.int n) H)
theorem xK:fq X (.type "int") (λxs H Q=>afc xs H Q):=by intro pins s O H xs us Q I r h;let(z,n,rfl,hn,hl,q):=h;let(u,rfl,t,rfl):=vals1 r;erw[PySem.W.KIN.call_text hn hl #[.int _,H,I.tok _,#[_,Z],q]]
inductive afx(K:aa)(t1 t2:TG)(v:V)(O:St)(H:Hp)(Q:St->Hp->Prop):Prop |mk (a:Addr)(x:V)(xs:List V)(h0:v= .ref a)(h1:aD K H a (x::xs))(h2:xs.length<=16000)(h3:∀p H',Nw H H' p (.lst xs)->t1 x O H' λσ1 H1=>t2 (.ref p) σ1 H1 Q)
def UQ(K:aa)(t1 t2:TG):TG:=λv O H Q=>afx K t1 t2 v O H Q
theorem RE(K:aa)(hK:X.K=K){e1 e2:Expr}{k:Nat}{t1 t2:TG}{sp pos:Pos}(hc:X.calm=true)(h1:PG X e1 t1)(h2:PG X e2 t2) (hs:autoParam (assignEach [e1,.Starred e2 sp] X.env=[(false,assign e1 X.env),(true,assign e2 X.env)]) r8_._auto_1):PG X (.Tuple [e1,.Starred e2 sp] k pos) (UQ K t1 t2):=by subst hK;intro pins s O H v u Q I r hw;let(a,x,xs,e,hq,hl,hw):=hw;subst e;cases r;let(its,rv,ht,hz):=I.list hq;have hh:X.A.handled=none:=I.ok.hd hc;have nj:=ht.isList;cases rv with |cons r1 rr=>
 rename_i ux dE;have hlen:=rr.length;have cy:a≠s.heap.objs.size:=by let(o,ho,_):=nj;erw[dI (bX ho)]
 rw[assign_Tuple];erw[aJ (AQ ?_)];unfold unpack;rw[hs];erw[aJ (kX ?_)];show wpAny _ _ (unpackItems (.ref a) 2 (some 1)) _ _ _;unfold unpackItems;erw[aJ ?_];unfold notIterableAtAll;erw[aJ (vF nj.typeIs slot_list_iter.lookup ?_)];erw[cg ?_];simp only[Bool.false_eq_true,if_false];erw[aJ (kX (y6 nj ?_))];have sz:(ux::dE).toArray.size=xs.length+1:=by rw[eF,gy,hlen]
 erw[aJ (kX (PySem.W.kun_draw cy 1 0 _ _ #[_,dD _ Z,Z,Z] (nj.push _) bB λh₁ uU xg=>?_))];have zS:h₁.IsList a (ux::dE).toArray:=(nj.push _).extBut xg.extBut cy;rw[Nat.zero_add]at uU;have K6:=uU;let(oi,mq,_):=K6;have K4:=zS;let(ol,zO,_):=K4;rw[bj (by simp)];erw[aJ (kX (PySem.W.kun_collect (s:={s with heap:=h₁}) (T:="list_iterator") (.inr (.inr (.inl rfl))) (Walks.list (A:=X.A.in1) hh s.heap.objs.size a cy (ux::dE).toArray) (λj u st=>st.1.typeIs) (k:=1) bB #[uU,zS] (bX mq) (bX zO) (λh₂ tk hk=>?_) (by rw[qR];omega)))];have ea:(ux::dE).toArray.toList.drop 1=dE:=by simp
 rw[ea];show wpAny _ _ (if dE.length<2-1-1 then _ else _) _ _ _;rw[bj bB];show wpAny _ _ (newList (dE.take (dE.length-(2-1-1)))>>=λd=>pure ((ux::dE).toArray.toList.take 1++[d]++dE.drop (dE.length-(2-1-1)))) _ _ _;have eb:dE.take (dE.length-(2-1-1))=dE:=vL bB;have ec:dE.drop (dE.length-(2-1-1))=[]:=List.drop_eq_nil_of_le bB;rw[eb,ec];have he:Heap.ExtBut s.heap.objs.size s.heap h₂:=λb o hb e=>hk b o hb (xg.extBut b o hb (bZ _ e));erw[aJ (wpAny_newList (s:={s with heap:=h₂,toks:=tk}) (cg ?_) ?_)]
 ·have I2:Inv X pins O H {s with heap:=h₂,toks:=tk}:=I.kept (t':=tk) λb o e=>he b o (dI (bX e)) e
  have nw:Nw H (upd H h₂.objs.size (.lst xs)) h₂.objs.size (.lst xs):=.of (I2.bp.fresh (bL _));have I3:Inv X pins O (upd H h₂.objs.size (.lst xs)) {s with heap:=h₂.push {cls:=.type "list",data:=.seq dE.toArray},toks:=tk}:=I2.laid (t':=tk) (o:=.lst xs) (λb ob q=>bZ _ q) (bL _) #[by rw[gy]at hz;omega,dE,0,rr,dD _ rfl];show wpAny _ _ (assignInOrder (assign e1 X.env::[assign e2 X.env]) (ux::[Value.ref h₂.objs.size])) _ _ _;erw[ye (aZ (h1 pins _ O _ _ _ _ I3 r1 (hw _ _ nw)) λ_ s1 #[σ1,H1,I1,q1]=>?_)];erw[ye (aZ (h2 pins s1 σ1 H1 (.ref h₂.objs.size) _ _ I1 Z q1) λ_ s2 #[σ2,H2,I2,q2]=>?_)];erw[Mm #[σ2,H2,I2,q2]]
 ·rw[<-hlen,qR];omega
end
end _L
namespace _T
open PySem PySem.Spec PyProof.Rows PySem.NumText
def Free(c:Nat)(z:Str):Prop:=c∉z.cps.toList
def gl(c:Nat):List (List Nat)->List Nat |[]=>[] |[x]=>x |x::y::r=>x++c::gl c (y::r)
theorem KA(c:Nat):∀zs:List Str,(PySem.Str.join ⟨#[c]⟩ zs).cps.toList=gl c (zs.map λz=>z.cps.toList) |[]=>by simp[PySem.Str.join,PySem.Str.empty,gl] |[x]=>rfl |x::y::r=>by show((x++⟨#[c]⟩)++PySem.Str.join ⟨#[c]⟩ (y::r)).cps.toList=_;rw[nW,nW,lV,lV,KA c (y::r)];show(x.cps.toList++[c])++gl c _=x.cps.toList++c::gl c _;rw[Xl];rfl
theorem VI{c:Nat}:∀{a b r s:List Nat},c∉a->c∉b->a++c::r=b++c::s->a=b/\r=s |[],[],r,s,_,_,e=>by simpa using e |[],y::b,r,s,_,h,e=>by simp at e;exact(h (by rw[e.1];erw[.head _])).elim |x::a,[],r,s,h,_,e=>by simp at e;exact(h (by rw[<-e.1];erw[.head _])).elim |x::a,y::b,r,s,h1,h2,e=>by simp only[List.cons_append,List.cons.injEq]at e;let(e1,e2):=VI (λz=>h1 (.tail _ z)) (λz=>h2 (.tail _ z)) e.2;erw[by rw[e.1,e1],e2]
theorem UM{c:Nat}:∀{as bs:List (List Nat)},as≠[]->bs≠[]->(∀a∈as,c∉a)->(∀b∈bs,c∉b)->gl c as=gl c bs->as=bs
 |[],_,h,_,_,_,_=>(h Z).elim |_,[],_,h,_,_,_=>(h Z).elim |[a],[b],_,_,_,_,e=>by rw[show a=b from e] |[a],b::b'::r,_,_,ha,_,e=>by
  have:c∈a:=by rw[show a=b++c::gl c (b'::r)from e];simp
  exact(ha a (.head _) this).elim |a::a'::r,[b],_,_,_,hb,e=>by
  have:c∈b:=by rw[<-show a++c::gl c (a'::r)=b from e];simp
  exact(hb b (.head _) this).elim |a::a'::r,b::b'::s,_,_,ha,hb,e=>by let(e1,e2):=VI (ha a (.head _)) (hb b (.head _)) (show a++c::gl c (a'::r)=b++c::gl c (b'::s)from e);rw[e1,UM (by simp) (by simp) (λx hx=>ha x (.tail _ hx)) (λx hx=>hb x (.tail _ hx)) e2]
theorem An{x y:Str}(h:x.cps.toList=y.cps.toList):x=y:=PySem.Str.ext' (Array.toList_inj.mp h)
theorem map_inj:∀{xs ys:List Str},xs.map (λz=>z.cps.toList)=ys.map (λz=>z.cps.toList)->xs=ys |[],[],_=>rfl |[],y::ys,h=>by simp at h |x::xs,[],h=>by simp at h |x::xs,y::ys,h=>by simp only[kZ,List.cons.injEq]at h;rw[An h.1,map_inj h.2]
theorem NM(x y:Str):Txt.split x y≠[]:=by
 unfold Txt.split;split
 ·simp
 ·split
  ·simp
  ·rw[StrLaws.partsBetween_eq]
   let(p,r,e):=StrLaws.partsFrom_ne x y.length 0 (Builtin.Str.occurrences x y 0 x.length (x.length+1));rw[e];simp
theorem uc(cj:zs≠[])(hf:∀z∈zs,Free c z):Txt.split (Txt.join ⟨#[c]⟩ zs) ⟨#[c]⟩=zs:=by
 have e:=StrLaws.join_split (Txt.join ⟨#[c]⟩ zs) ⟨#[c]⟩;have fr:=StrLaws.split_free (Txt.join ⟨#[c]⟩ zs) c;have e2:Txt.join ⟨#[c]⟩ zs=PySem.Str.join ⟨#[c]⟩ zs:=tI _ _;have e3:=kr (λz:Str=>z.cps.toList) (e.trans e2);simp only[KA]at e3;erw[map_inj (UM (by simpa using NM _ _) (by simpa using cj) (λa ha=>?_) (λb hb=>?_) e3)]
 ·let(z,hz,rfl):=dC.mp ha
  erw[fr z hz]
 ·let(z,hz,rfl):=dC.mp hb
  erw[hf z hz]
def numS(i:Int):Str:=Str.ofString (toString i)
def isFig(c:Nat):Bool:=decide (48<=c)&&decide (c<=57)
def figs(z:Str):List Nat:=match z.cps.toList with |45::r=>r |l=>l
def numIn? (z:Str):Option Int:=bif (figs z).isEmpty|| !(figs z).all isFig then none else bif decide ((figs z)[0]? =some 48)&& !decide (z="0")then none else intText? z
theorem xA(h:cs.all isFig=true):AllDigits cs:=λc hc=>by have:=gQ.mp h c hc;simpa[isFig]using this
theorem Vy(h:AllDigits cs):cs.all isFig=true:=gQ.mpr λc hc=>by have:=h c hc;simpa[isFig]using this
theorem qH(m:Nat):(numS (m:Int)).cps.toList=(Nat.toDigits 10 m).map Char.toNat:=PySem.W.KIN.signs_num m
theorem Am(m:Nat):(numS (Int.negSucc m)).cps.toList=45::(Nat.toDigits 10 (m+1)).map Char.toNat:=by unfold numS;rw[signs_ofString];show("-"++Nat.repr (m+1)).toList.map Char.toNat=_;rw[String.toList_append,lj,Nat.toList_repr];rfl
theorem oZ(m:Nat):AllDigits ((Nat.toDigits 10 m).map Char.toNat):=λc hc=>by let(ch,my,e):=dC.mp hc;have r:=digit_range (Nat.isDigit_of_mem_toDigits aw aw my);rw[<-e];erw[r]
theorem DY(m:Nat):(Nat.toDigits 10 m).map Char.toNat≠[]:=λe=>by have h:=toDigits_len_ge 10 m;rw[List.map_eq_nil_iff.mp e]at h;erw[absurd h aw]
theorem abY:∀d:Nat,d<10->d≠0->(Nat.digitChar d).toNat≠48:=by decide
theorem Th(m:Nat)(h0:m≠0):((Nat.toDigits 10 m).map Char.toNat)[0]? ≠some 48:=by induction m using Nat.strongRecOn with |_ m ih=>
 by_cases h:m<10
 ·rw[Xc h]
  simpa using abY m h h0
 ·have hm:m%10<10:=Nat.mod_lt m aw
  have t:Nat.toDigits 10 (m/10)++Nat.toDigits 10 (m%10)=Nat.toDigits 10 (10*(m/10)+m%10):=Nat.toDigits_append_toDigits aw bB hm;rw[Nat.div_add_mod]at t;rw[<-t,lj,vO (ED.mpr (DY _))];erw[ih (m/10) bB bB]
theorem abU(m:Nat):((Nat.toDigits 10 m).map Char.toNat).head? ≠some 45:=λe=>by have:=oZ m 45 (List.mem_of_mem_head? e);omega
theorem a9X{l:List Nat}(h:z.cps.toList=l)(hh:l.head? ≠some 45):figs z=l:=by
 unfold figs;rw[h];split
 ·simp at hh
 ·rfl
theorem a9Z(m:Nat):figs (numS (m:Int))=(Nat.toDigits 10 m).map Char.toNat:=a9X (qH m) (abU m)
theorem a9Y(m:Nat):figs (numS (Int.negSucc m))=(Nat.toDigits 10 (m+1)).map Char.toNat:=by unfold figs;rw[Am];rfl
theorem Ve(m:Nat):((Nat.toDigits 10 m).map Char.toNat).isEmpty=false:=by have:=DY m;cases h:(Nat.toDigits 10 m).map Char.toNat with |nil=>exact(this h).elim |cons=>rfl
theorem zq(hl:(numS i).length<=4300):numIn? (numS i)=some i:=by unfold numIn?;cases i with
 |ofNat m=>
  have ef:figs (numS (Int.ofNat m))=(Nat.toDigits 10 m).map Char.toNat:=a9Z m;have ec:(numS (Int.ofNat m)).cps.toList=(Nat.toDigits 10 m).map Char.toNat:=qH m;have e:=Mi (x:=numS (Int.ofNat m)) (by rw[ec];erw[oZ m]) (by rw[ec];erw[DY m]) hl;rw[ec,PySem.W.KIN.val_back]at e;rw[ef,Vy (oZ m),Ve,e];have h2:(decide (((Nat.toDigits 10 m).map Char.toNat)[0]? =some 48)&& !decide (numS (Int.ofNat m)="0"))=false:=by
   by_cases h0:m=0
   ·subst h0;decide+kernel
   ·rw[cG (Th m h0)];rfl
  rw[h2];rfl |negSucc m=>have e:=intText_neg (x:=numS (Int.negSucc m)) (Am m) (oZ (m+1)) (DY (m+1)) hl;rw[PySem.W.KIN.val_back]at e;rw[a9Y,Vy (oZ (m+1)),Ve,cG (Th (m+1) bB),e];erw[kr some (Int.negSucc_eq m).symm]
theorem gX(h:c≠45)(h1:c<48):Free c (numS i):=λhc=>by cases i with |ofNat m=>rw[show(numS (Int.ofNat m)).cps.toList=_ from qH m]at hc;have:=oZ m c hc;omega |negSucc m=>
 rw[Am]at hc;rcases bI.mp hc with e|hc
 ·erw[h e]
 ·have:=oZ (m+1) c hc
  omega
theorem a6E(h1:figs z≠[])(h2:(figs z).all isFig=true)(hl:z.length<=4300):∃n,intText? z=some n:=by
 unfold figs at h1 h2;split at h1
 ·rename_i r h
  rw[h]at h2;erw[_,intText_neg h (xA h2) h1 hl]
 ·rename_i h
  split at h2
  ·rename_i r h'
   exact(h r h').elim
  ·erw[_,Mi (xA h2) h1 hl]
theorem a0F(z:Str):(Txt.removeprefix z "-").cps.toList=figs z:=by
 rw[StrLaws.removeprefix_eq];have e1:(Str.ofString "-").cps.toList=[45]:=by decide+kernel
 have e2:(Str.ofString "-").length=1:=by decide+kernel
 have hn:z.cps.toList.length=z.length:=by simp[Str.length]
 rw[e2,StrLaws.subAt_eq,e1,e2,List.drop_zero];unfold figs;cases hz:z.cps.toList with |nil=>rw[hz]at hn;have h0:z.length=0:=hn.symm;rw[bj (by simp)];erw[hz] |cons a r=>
  rw[hz]at hn;simp only[gy]at hn;by_cases ha:a=45
  ·subst ha
   rw[bo (by simp;omega)];show((List.drop 1 (45::r)).take _).toArray.toList=r;rw[List.drop_one,List.tail_cons,vL bB]
  ·rw[bj (by simp;intro _;erw[λe=>ha (by simpa using e)])]
   rw[hz];split
   ·rename_i h;simp at h;exact(ha h.1).elim
   ·rfl
end _T
namespace _L
open PySem PySem.Spec PyProof.Rows
inductive adq(tb:TE)(O:St)(Q:VK)(x:V)(H1:Hp):Prop |mk (z:Str)(h0:x= .str z)(h1:z.length<=16777216)(h2:if z="" then tb O H1 Q else Q (.str z) H1)
def YM(ta tb:TE):TE:=λO H Q=>ta O H λx H1=>adq tb O Q x H1
theorem Zd{z:Str}(h:z.length=0):z="":=_T.An (by have:z.cps.size=0:=h;rw[Array.eq_empty_of_size_eq_zero this];rfl)
theorem a1N{b:Expr}(ha:PE X a ta)(hb:PE X (.BoolOp .Or (b::rest) pos) tb):PE X (.BoolOp .Or (a::b::rest) pos) (YM ta tb):=by
 intro pins s O H Q I h;erw[BoolOp_or (aZ (ha pins s O H _ I h) λv s1 #[x,H1,I1,r1,q1]=>?_)];let(z,rfl,hl,q1):=q1;let(t,rfl):=(show∃t,v=Value.str z t from r1);erw[P.truthy_str bB ?_];by_cases e:z=""
 ·rw[bo e]at q1
  subst e;erw[hb pins _ O H1 Q (I1.tok _) q1]
 ·rw[bj e]at q1
  have:((z.length:Int) !=0)=true:=by rw[bne_iff_ne];intro h0;erw[e (Zd bB)]
  rw[this];erw[.str z,H1,I1.tok _,#[t,Z],q1]
section
variable {P:af}{w:World}{K:aa}{mg:bO}{au:Heap}{k:Nat}{sp:Sp}{C:Addr}{x m:Str}{f:Addr}{fd:FuncData}{ps:List Str}
theorem eR.d(F:eR P w K mg au iX k f fd ps sp):eR P w K mg au (jt P w) k f fd ps sp:=#[F.len,λA outer s H args us vs Q E hr he hb hv hs=>vI (F.run A outer s H args us vs Q E hr he hb hv hs) λr s' hq=>by cases r with |ok fl=>cases fl<;>erw[hq] |error e=>erw[hq.elim]]
theorem eR.n(F:eR P w K mg au (jt P w) k f fd ps sp):eR P w K mg au iX k f fd ps (λvs H Q _=>sp vs H Q E0):=#[λvs H Q E h=>F.len vs H Q E0 h,λA outer s H args us vs Q E hr he hb hv hs=>vI (F.run A outer s H args us vs Q E0 hr he hb hv hs) λr s' hq=>by cases r with |ok fl=>cases fl<;>erw[hq] |error e=>let(_,_,_,_,_,_,_,_,_,_,z):=hq;erw[z]]
theorem aF.d(F:aF P w K mg au x k sp):tF P w K mg au x k sp:=by let(f,fd,ps,F,h1,h2,h3):=F;erw[f,fd,ps,F.d,h1,h2,h3]
theorem tF.le(F:tF P w K mg au x k sp)(h:k<=j):tF P w K mg au x j sp:=by let(f,fd,ps,F,h1,h2,h3):=F;erw[f,fd,ps,F.mono h,h1,h2,h3]
theorem hU.n(F:hU P w K mg au C m k sp):cQ P w K mg au C m k (λvs H Q _=>sp vs H Q E0):=by let(f,fd,ps,F,h1,h2):=F;erw[f,fd,ps,F.n,h1,h2]
end
end _L
namespace _L
open PySem PySem.Spec PyProof.Rows PySem.W
section
variable {P:af}{w:World}{K:Frag}{mg:bO}{au:Heap}{N:List Str}{qual:Str}{scope:Scope}{f:Addr}{cd:Value}{cl:List (Str×Addr)}{A:ah}{outer:List Env}{s:ae}{H:Hp}{E E0:XK}
end
section
variable {X:Cx}{x:Str}{p pos:Pos}{E:XK}
end
section
variable {X:Cx}{pins:List (Addr×Obj)}{O:St}{H:Hp}{s:ae}{pr:Arguments}{bd:Expr}{sc:Scope}{SS:Pos}{cl:List (Str×Addr)}{T c:Addr}{q:Str}
end
section
variable {X:Cx}{k:Nat}{x:Str}{p pos SS:Pos}{pr:Arguments}{bd:Expr}{sc:Scope}{sp:SpH}{T c:Addr}{q:Str}{N:List Str}
end
section
variable {P:af}{w:World}{K:Frag}{mg:bO}{au:Heap}
end
end _L
namespace _L
open PySem PySem.Spec PyProof.Rows
section
variable {P:af}{w:World}{K:aa}{mg:bO}{au:Heap}{N:List Str}{qual:Str}{scope:Scope}{f:Addr}{cd:Value}{A:ah}{outer:List Env}{s:ae}{H:Hp}{E:XK}{pins:List (Addr×Obj)}{O:St}{H1:Hp}{s1:ae}{ex:Addr}{C:Addr}{dx:Addr}{φ:Heap->Prop}{cls:Value}{dxo:Option Addr}{h2:Heap}{vs:List Value}
theorem Bj(I:Inv (iE (jt P w) P w K mg au N qual scope f cd A outer s H E) pins O H1 s1)(hx:Heap.MadeExcOf s1.heap h2 ex cls vs)(q:E cls none H1):(iE (jt P w) P w K mg au N qual scope f cd A outer s H E).xe (.ref ex) {s1 with heap:=h2}:=by
 let(t,e1,_):=hx.there;have hf:H1 ex=none:=by cases e:H1 ex with |none=>rfl |some o=>let(ob,e2):=(I.bp ex o e).there;rw[hx.new]at e2;cases e2
 have nw:s.heap.get? ex=none:=by cases e:s.heap.get? ex with |none=>rfl |some o=>let(ob,e2):=I.au.there ex o e (ck);rw[hx.new]at e2;cases e2
 have I2:=I.kept (t':=s1.toks) hx.keeps;have gp:h2.FunFrames au (envOfC qual scope s.heap.objs.size f cd::outer):=I2.stack;have Uo:∀env∈(envOfC qual scope s.heap.objs.size f cd::outer),∀b,env.frame=some b->b∈ex::fj (envOfC qual scope s.heap.objs.size f cd::outer):=λenv he b hb=>.tail _ (pq.mpr #[env,he,hb]);have hB:(PySem.W.hideAll h2 (ex::fj (envOfC qual scope s.heap.objs.size f cd::outer))).StaysIn h2:=λb o e=>PySem.W.of_hideAll _ e;have rW:∀b o,s.heap.get? b=some o->b∉fj outer->b∉ex::fj (envOfC qual scope s.heap.objs.size f cd::outer):=λb o e hb hm=>by
  rcases bI.mp hm with rfl|hm
  ·rw[nw]at e;cases e
  let(env,he,hf):=pq.mp hm;rcases bI.mp he with rfl|he
  ·have e1:s.heap.objs.size=b:=dU hf
   have h1:=bX e;rw[<-e1]at h1;erw[absurd h1 (qS _)]
  ·erw[hb (pq.mpr #[env,he,hf])]
 have F0:Fl P w outer H s.heap ex H1 (PySem.W.hideAll h2 (ex::fj (envOfC qual scope s.heap.objs.size f cd::outer))) h2:=by
  erw[I2.au,I2.bp,λb o e n hb=>Mr _ (I2.au.keep b o e n hb (ck)) (rW b o e hb),λb o e=>?_,λb o e hb=>?_,λb hb=>?_,nw,hf]
  ·let(IU,e1):=(I2.bp b o e).there
   erw[IU,Mr _ e1 λhm=>?_];rcases bI.mp hm with z|hm
   ·rw[z,hf]at e;cases e
   ·rw[I2.BG b hm]at e
    cases e
  ·let(IU,e1):=I2.au.there b o e (ck)
   erw[IU,Mr _ e1 (rW b o e hb)]
  ·let(env,he,hf):=pq.mp hb
   erw[I2.BG b (pq.mpr #[env,.tail _ he,hf])]
 show wpAny (model P w) (A.deeper (envOfC qual scope s.heap.objs.size f cd)) (leaving (envOfC qual scope s.heap.objs.size f cd) (.ref ex)) _ _ _;erw[a62 (L:=s.heap.objs.size) I.ok.frames (PySem.W.funFrames_hide gp Uo) Z e1 hB (PySem.W.hideAll_none _ (.head _)) Z Z Z λh' x1 x2=>?_];erw[ex,cls,none,H1,_,Z,I.os,I.bare,x1,F0.step hB x1.1 x2 gp.2.2,q]
end
section
variable {X:Cx} {sc:Scope}
end
end _L
namespace _b
open _l
end _b
namespace _L
open PySem PySem.Spec PyProof.Rows
theorem QG:typeLookup (.type "list_reverseiterator") "__len__"=pure none:=by rw[typeLookup_type,builtinLookup_eq_fast];kernel_rfl
theorem QH:typeLookup (.type "list_reverseiterator") "__length_hint__"=pure (some (.builtin "list_reverseiterator.__length_hint__")):=by rw[typeLookup_type,builtinLookup_eq_fast];kernel_rfl
section
variable {prog:af}{w:World}{A:ah}{E:Value->ae->Prop}{s:ae}
def AH(I l:Addr)(its:Array Value)(i:Nat)(s:ae):Prop:=i<=its.size/\s.heap.IsRevIter I l ((its.size:Int)-1-(i:Int))/\s.heap.IsList l its
theorem a0c(hh:A.handled=none)(I l:Addr)(cj:l≠I)(its:Array Value): WalksS prog w A I [I,l] [I] Eq its.size (λi v=>its[its.size-1-i]? =some v) (AH I l its) where
 sub:=λb hb=>bI.mpr (.inl (cn.mp hb))
 grefl:=λ_=>rfl
 gtrans:=λ_ _ _=>Eq.trans
 frame:=λi s h' tk x _ hk=>#[x.1,x.2.1.at λo e=>hk I (by simp) o e,x.2.2.at λo e=>hk l (by simp) o e]
 item:=λi s Q E hi x hQ=>by
  have e:(its.size:Int)-1-(i:Int)=((its.size-1-i:Nat):Int):=by omega
  have hit:=x.2.1;rw[e]at hit;erw[wpAny_pyNext_rev_item hit x.2.2 (vR (i:=its.size-1-i) bB) λh' zT oO=>?_];erw[hQ _ {s with heap:=h'} (vR bB) #[hi,?_,x.2.2.at λo eo=>(oO.2 l cj).trans eo] #[λb o hb eo=>oO.extBut b o (λz=>hb (cn.mpr z)) eo,Z,Z,Z,bL _]];have e2:((its.size-1-i:Nat):Int)-1=(its.size:Int)-1-((i+1:Nat):Int):=by omega
  rw[<-e2];erw[zT]
 done:=λs Q E x hQ=>by have hit:=x.2.1;rw[show(its.size:Int)-1-(its.size:Int)=-1 by omega]at hit;erw[wpAny_pyNext_rev_end hh hit λh' zX=>hQ {s with heap:=h'} #[λb o hb eo=>zX b o (λz=>hb (cn.mpr z)) eo,Z,Z,Z,bL _]]
 self:=λ_ _ _ _ x hQ=>Mf x.2.1 hQ
theorem a0g{l:Addr}{Q:List Value->ae->Prop}(hh:A.handled=none)(cj:l≠I)(x:AH I l its 0 s)(hI:I<s.heap.objs.size)(hl:l<s.heap.objs.size)(hn:its.size<=sizeLine) (hQ:∀s' acc,Moved [I] Eq s s'->ItemsOf (λi v=>its[its.size-1-i]? =some v) acc its.size->Q acc.toList s'):wpAny (model prog w) A (collect (.ref I)) Q E s:=by
 have W:=a0c (prog:=prog) (w:=w) (A:=A.in1) hh I l cj its;have hT:∀{i s},AH I l its i s->s.TypeIs (.ref I) "list_reverseiterator":=λy=>y.2.1.typeIs;obtain⟨S,hS⟩:∃S,s.heap.objs.size=S:=#[_,Z];let nw:Obj:={cls:=.type "list",data:=.seq ([]:List Value).toArray};have A2:S≠I:=tP (hS▸hI);have Kk:S≠l:=tP (hS▸hl);have Kl:S∉[I,l]:=by simp[A2,Kk]
 have sf:Builtin.List.listSameRef (.ref S) (.ref I)=false:=by simp[Builtin.List.listSameRef,A2]
 have y:=W.frame 0 s (s.heap.push nw) s.toks x (bL _) λb _ o e=>bZ _ e;have aS:(s.heap.push nw).get? S=some nw:=by rw[<-hS];erw[dD _ rfl]
 unfold collect;apply aJ;apply wpAny_runValue;apply AV F.entry_proto_collect;rw[EJ F.plain_proto_collect _];apply aJ (m:=newList []);erw[ko ?_];rw[hS];erw[cg #[Eo MP _,AV F.entry_list_iadd ?_]];rw[EJ MP _];show wpAny _ A.in1 (Builtin.List.listExtendWith (.ref S) (.ref I) (.ref S)) _ _ _;unfold Builtin.List.listExtendWith;apply aJ;apply El (hT y);rw[bj (by rw[sf];decide)];apply aJ;apply W.self 0 _ _ _ y;apply aJ;apply kX;unfold Builtin.List.listLengthHint;apply aJ;apply vF (hT y) QG;apply aJ (m:=specialOf (Value.ref I) (Str.ofString "__length_hint__"));apply vF (hT y) QH
 (generalize zV:("list_reverseiterator.__length_hint__":String)=z0;wp_delta;rw[show splitId z0=some ("list_reverseiterator","__length_hint__")from by subst zV;decide+kernel];subst zV);apply aJ;apply Em (b:=true) (hT y) (by rw[isSubtype_type];kernel_rfl);apply cg;rw[bj aw];erw[cg #[Eo F.plain_extend_loop _,codeAny_extend_loopS W hn _ Kl _ its.size 0 _ _ _ Z (fT _) y aS (ItemsOf.nil _) λs' LV c' hm nE lN=>?_]];apply aJ (m:=load S);apply wpAny_load nE;erw[cg (hQ s' LV (Moved.drop_new (o:=nw) (tk:=s.toks) (hS▸hm) (bL _)) lN)]
theorem QF(sep:Str):∀(ps:List (Str×Tok)),JoinOk sep (ps.map (·.1))=true->Gives (PySem.joinTail sep (strValues ps)) (joinMade sep ps) |[],h=>gives_joinTail sep [] ((yy _).mp h) |[p],h=>gives_joinTail sep [p] ((yy _).mp h) |p::q::r,h=>gives_joinTail sep (p::q::r) ((yy _).mp h)
theorem a0e{I l:Addr}{its:Array Value}{zs:List Str}{sep:Str}{t:Tok}{Q:Value->ae->Prop}(hh:A.handled=none)(cj:l≠I)(x:AH I l its 0 s)(hI:I<s.heap.objs.size)(hl:l<s.heap.objs.size) (hz:StrsAre its.toList zs)(hn:its.size<=sizeLine)(bp:(zs.map (·.length)).sum+zs.length*sep.length<=16777216) (hQ:∀h' t' k,(∀b o,b≠I->s.heap.get? b=some o->h'.get? b=some o)->Q (.str (Txt.join sep zs.reverse) t') {s with heap:=h',toks:=k}): wpAny (model prog w) A (call (.builtin "str.join") [.str sep t,.ref I]) Q E s:=by
 have hT:s.TypeIs (.ref I) "list_reverseiterator":=x.2.1.typeIs;apply AS;erw[codeAny_call_builtin MO.plain F.entry_str_join (MO.check _ _ _ _ _ _ _ _ (yd _ _ _) (F.args_str_join_2 _ _) ?_)];rw[join_tree_other];erw[aJ (El hT ?_)];show wpAny _ A.in1 ((pyIter (.ref I)).tryCatch _>>=λit=>collect it>>=λvs=>PySem.joinTail sep vs) _ _ s;erw[aJ (wpAny_tryCatch (Mf x.2.1 ?_))];erw[aJ (a0g hh cj x hI hl hn λs' acc hm lN=>?_)];have ea:acc.toList=its.toList.reverse:=by
  erw[yw λj=>?_];by_cases hj:j<its.size
  ·have h1:=lN.2 j _ (vR (by rw[lN.1];erw[hj]))
   rw[List.getElem?_reverse (by simpa using hj),ky,EI,EI];exact(vR (by rw[lN.1];erw[hj])).trans h1.symm
  ·exact(nZ (by rw[ky,lN.1];omega)).trans (nZ (by rw[MG,ky];omega)).symm
 let(ps,hv,ht):=strsAre_values hz;have ev:strValues ps.reverse=acc.toList:=by rw[ea,hv];unfold strValues;rw[B0]
 have et:(ps.reverse).map (·.1)=zs.reverse:=by rw[B0,ht]
 have ok:JoinOk sep (ps.reverse.map (·.1))=true:=joinOk_of (by rw[et,B0,List.sum_reverse,MG];erw[bp]);rw[<-ev];have pV:=(yy _).mp ok;have post:(Txt.join sep (ps.reverse.map (·.1))).length<=sizeLine/\∀t' k,Q (.str (Txt.join sep (ps.reverse.map (·.1))) t') {s' with toks:=k}:=by
  erw[joinFit_length pV,λt' k=>?_];rw[et];have e:({s' with toks:=k}:ae)={s with heap:=s'.heap,toks:=k}:=by rcases s' with⟨a,b,c,d,f⟩;have e1:_=b:=hm.gens;have e2:c=_:=hm.drawn;have e3:f=_:=hm.os;subst e1 e2 e3;rfl
  rw[e];erw[hQ _ t' k λb o hb eo=>hm.heap b o (λz=>hb (cn.mp z)) eo]
 erw[QF sep ps.reverse ok prog w A (wants Q E) s' (post_join ps.reverse post)]
end
section
variable {X:Cx}
inductive WK(K:aa)(x:V)(vs:List V)(H:Hp)(Q:VK):Prop |mk (sep:Str)(l:Addr)(zs:List Str)(h0:x= .str sep)(h1:vs=[.ref l])(h2:aD K H l (zs.map V.str))(h3:(∀z∈zs,z.length<=4000))(h4:sep.length<=8)(h5:zs.length<=1000)(h6:Q (.str (Txt.join sep zs.reverse)) H)
def YW(K:aa)(to:TE)(t:TA):TE:=λO H Q=>to O H λx H1=>Br K "str" x H1/\t O H1 λvs H2=>WK K x vs H2 Q
theorem a25(K:aa)(h:X.K=K){o a:Expr}{to:TE}{t:TA}{apos bW p pos:Pos}(hg:Gl X "reversed")(hm:X.mg "reversed"=none)(ho:PE X o to)(ha:PA X [a] t)(hc:autoParam (X.calm=true) r8_._auto_1) (iT:autoParam (attributeBase o "join" X.env (eval o X.env)=eval o X.env) r8_._auto_1) (iS:autoParam (((backTo bW (starEach [.Call (.Name "reversed" p) [a] [] pos] X.env)).all (λx=>!x.1)&&(backToKw bW (keywordEach [] X.env)).all (λx=>x.1.isSome) &&decide ([Expr.Call (.Name "reversed" p) [a] [] pos].length+([]:List Keyword).length+(if([]:List Keyword).isEmpty then 0 else 1)<30))=true) r8_._auto_1) (iR:autoParam ((apos.endLine==bW.line)=true) r8_._auto_1)(hs:autoParam (starEach [.Call (.Name "reversed" p) [a] [] pos] X.env=(false,eval (.Call (.Name "reversed" p) [a] [] pos) X.env)::starEach [] X.env) r8_._auto_1) (iQ:autoParam ((backTo bW (starEach [] X.env)).any (·.1)=false) r8_._auto_1)(JR:autoParam (starEach [a] X.env=[(false,eval a X.env)]) r8_._auto_1)(jm:autoParam (starEach [] X.env=[]) r8_._auto_1): PE X (.Call (.Attribute o "join" apos) [.Call (.Name "reversed" p) [a] [] pos] [] bW) (YW K to t):=by
 subst h;intro pins s O H Q I h;erw[WR iT iS iR Z (aZ (ho pins s O H _ I h) λv s1 #[x,H1,I1,r1,ty,q1]=>?_)];let(h1,h2):=EU I1 r1 ty;erw["str","str.join",yh,X4,X2,h1,h2,?_];rw[hs];erw[Xs (by show(false||(backTo bW (starEach [] X.env)).any (·.1))=false;rw[iQ]<;>rfl) (MQ ?_)];show wpAny _ _ (spliced ((false,eval (.Call (.Name "reversed" p) [a] [] pos) X.env)::backTo bW (starEach [] X.env))) _ _ s1;erw[Calls.spliced_cons ?_];erw[Call_ (qg I1 hg hm X9 (yi (aZ (ha pos pins s1 O H1 _ I1 q1) λus s2 #[vs,H2,I2,r2,q2]=>?_) (by rw[JR,jm]) (by rw[jm];rfl)))];let(sep,l,zs,rfl,rfl,hl,hz,hb,hn,q):=q2;let(tk,rfl):=r1;let(u,rfl,ru):=vals1 r2;cases(show u=Value.ref l from ru);let(its,r,pl,_):=I2.list hl;have hlen:=r.length;rw[bV]at hlen;have zI:=Mh id 4000 zs hz;rw[List.map_id]at zI;have hle:zs.length*sep.length<=1000*8:=nX hn hb;erw[call_reversed_list pl.isList ?_];have fresh:=I2.bp.fresh (bL s2.heap.objs.size);have I3:Inv X pins O H2 {s2 with heap:=s2.heap.push (revObj l ((its.toArray.size:Int)-1))}:=I2.kept (t':=s2.toks) λb o e=>bZ _ e;let(f0,f1,f2,f3,f4,f5):=I2.qz (pins:=pins) (bL s2.heap.objs.size) fresh;erw[Calls.spliced_nil ?_];have cj:l≠s2.heap.objs.size:=λz=>by let(o,ho,_):=pl.isList;erw[absurd (bX ho) (by rw[z];erw[qS _])]
 have mx:l<s2.heap.objs.size:=by let(o,ho,_):=pl.isList;erw[bX ho]
 have cy:∀{b},b<=s2.heap.objs.size->b<(s2.heap.push (revObj l ((its.toArray.size:Int)-1))).objs.size:=λ{b} e=>by rw[qX];erw[Nat.lt_succ_of_le e]
 erw[a0e (its:=its.toArray) (zs:=zs) (I2.ok.hd hc) cj #[fT _,#[_,dD _ Z,Z,by show Data.fields _=Data.fields _;simp],Heap.IsList.at pl.isList λo e=>bZ _ e] (cy (bL _)) (cy (AZ mx)) (StrsAre.of_carried (E8 r)) (by rw[eF,<-hlen,qR];omega) bB λh' t' k kk=>?_];erw[.str _,H2,I3.turned (t':=k) kk f0 f1 f3 f4 f5,#[_,Z],q]
inductive aeW(x:V)(vs:List V)(H:Hp)(Q:VK):Prop |mk (z:Str)(i:Int)(h0:x= .str z)(h1:vs=[.int i])(h3:PadOk i=true)(h4:Q (.str (Txt.zfill z i)) H)
def Rg:V->List V->Hp->VK->Prop:=λx vs H Q=>aeW x vs H Q
theorem a55:xR X "str.zfill" Rg:=by intro pins s O H x0 vs v us Q I rx rv h;let(x,i,rfl,rfl,hp,q):=h;let(t,rfl):=rx;let(u0,rfl,u,rfl):=vals1 rv;erw[SC.zfill hp λt' k=>#[.str _,H,I.tok k,#[_,Z],q]]
theorem a21(K:aa)(h:X.K=K){o e:Expr}{to:TE}{t:TA}{apos bW:Pos}(ho:PE X o to)(ha:PA X [e] t) (iT:autoParam (attributeBase o "zfill" X.env (eval o X.env)=eval o X.env) r8_._auto_1) (iS:autoParam (((backTo bW (starEach [e] X.env)).all (λx=>!x.1)&&(backToKw bW (keywordEach [] X.env)).all (λx=>x.1.isSome) &&decide ([e].length+([]:List Keyword).length+(if([]:List Keyword).isEmpty then 0 else 1)<30))=true) r8_._auto_1) (iR:autoParam ((apos.endLine==bW.line)=true) r8_._auto_1)(hs:autoParam (starEach [e] X.env=(false,eval e X.env)::starEach [] X.env) r8_._auto_1)(iQ:autoParam ((backTo bW (starEach [] X.env)).any (·.1)=false) r8_._auto_1): PE X (.Call (.Attribute o "zfill" apos) [e] [] bW) (rA K "str" Rg to t):=by subst h;erw[uB yh PySem.F.slot_str_zfill PySem.F.type_str_zfill a55 ho ha iT iS iR hs iQ]
inductive aeY(x:V)(vs:List V)(H:Hp)(Q:VK):Prop |mk (z y:Str)(h0:x= .str z)(h1:vs=[.str y])(h4:Q (.bl (Txt.startswith z y)) H)
def Rh:V->List V->Hp->VK->Prop:=λx vs H Q=>aeY x vs H Q
theorem a56:xR X "str.startswith" Rh:=by intro pins s O H x0 vs v us Q I rx rv h;let(x,y,rfl,rfl,q):=h;let(t,rfl):=rx;let(u0,rfl,u,rfl):=vals1 rv;erw[SC.startswith #[.bl _,H,I,Z,q]]
theorem a22(K:aa)(h:X.K=K){o e:Expr}{to:TE}{t:TA}{apos bW:Pos}(ho:PE X o to)(ha:PA X [e] t) (iT:autoParam (attributeBase o "startswith" X.env (eval o X.env)=eval o X.env) r8_._auto_1) (iS:autoParam (((backTo bW (starEach [e] X.env)).all (λx=>!x.1)&&(backToKw bW (keywordEach [] X.env)).all (λx=>x.1.isSome) &&decide ([e].length+([]:List Keyword).length+(if([]:List Keyword).isEmpty then 0 else 1)<30))=true) r8_._auto_1) (iR:autoParam ((apos.endLine==bW.line)=true) r8_._auto_1)(hs:autoParam (starEach [e] X.env=(false,eval e X.env)::starEach [] X.env) r8_._auto_1)(iQ:autoParam ((backTo bW (starEach [] X.env)).any (·.1)=false) r8_._auto_1): PE X (.Call (.Attribute o "startswith" apos) [e] [] bW) (rA K "str" Rh to t):=by subst h;erw[uB yh PySem.F.slot_str_startswith PySem.F.type_str_startswith a56 ho ha iT iS iR hs iQ]
inductive afj(xs:List V)(H:Hp)(Q:VK):Prop |mk (i j:Int)(h0:xs=[.int i,.int j])(h1:0<j)(h2:Wd j)(h3:∀p H',Nw H H' p (.tup [.int (i/j),.int (i%j)])->Q (.ref p) H')
theorem acp:fq X (.builtin "divmod") (λxs H Q=>afj xs H Q):=by intro pins s O H xs us Q I r h;let(i,j,rfl,h1,h2,q):=h;let(u,w',rfl,(t,rfl),(t',rfl)):=vals2 r;erw[divmod_int bB ?_ (.inl (X7 h2.log))];rw[Int.fdiv_eq_ediv_of_nonneg i bB,Xq i bB];have hn:H s.heap.objs.size=none:=I.bp.fresh (bL _);erw[.ref s.heap.objs.size,upd H s.heap.objs.size (.tup [.int (i/j),.int (i%j)]),?_,Z,q _ _ (Nw.of hn)];erw[I.laid (λb o e=>bZ _ e) (bL _) #[by show 2<=sizeLine;decide,[.int (i/j) s.toks,.int (i%j) (s.toks+1)],.cons #[_,Z] (.cons #[_,Z] .nil),_,dD s.heap Z,Z,0,Z]]
end
theorem a9O{z:Str}{g:TG}{tb:TS}{D:Ends}{O:St}{H:Hp}(Pv:Nat->St->Hp->Prop)(h0:Pv 0 O H) (hs:∀i c O H,z.cps.toList[i]? =some c->Pv i O H->g (.str ⟨#[c]⟩) O H λσ2 H2=>tb {D with nx:=Pv (i+1),ct:=Pv (i+1),bk:=D.nx} σ2 H2)(hd:∀O H,Pv z.cps.size O H->D.nx O H): ∃W:Nat->Nat->St->Hp->Prop,(∃m,W 0 m O H)/\∀i m O H,W i m O H->((xV z).stop i H/\D.nx O H)\/((xV z).go i H/\∃N:St->Hp->Prop,(∀σ' H',N σ' H'->∃m',m'<m/\W (i+1) m' σ' H')/\∀x H',(xV z).lA i H x H'->g x O H' λσ2 H2=>tb {D with nx:=N,ct:=N,bk:=D.nx} σ2 H2):=by
 erw[λi m O H=>m=z.cps.size-i/\i<=z.cps.size/\Pv i O H,#[z.cps.size,by simp,fT _,h0],?_];rintro i m O H ⟨rfl,hi,p⟩;by_cases cy:i<z.cps.size
 ·erw[.inr #[cy,Pv (i+1),λσ' H' q=>#[z.cps.size-(i+1),bB,Z,cy,q],λx H' hy=>?_]]
  let(rfl,c,hc,rfl):=hy;erw[hs i c O _ hc p]
 ·have e:i=z.cps.size:=by omega
  subst e;erw[.inl #[bL _,hd O H p]]
end _L
namespace _N
open PySem PySem.Spec PyProof.Rows PySem.NumText _T
def dY:Nat->Nat->List Char |0,_=>[] |e+1,r=>dY e (r/10)++[(r%10).digitChar]
theorem Vz:∀e m:Nat,10^e<=m->Nat.toDigits 10 m=Nat.toDigits 10 (m/10^e)++dY e (m%10^e)
 |0,m,_=>by simp[dY] |e+1,m,h=>by
  have hp:0<10^e:=Nat.pow_pos aw;have DA:10<=m:=by rw[vK]at h;omega
  have hd:10^e<=m/10:=by rw[Nat.le_div_iff_mul_le aw];rw[vK]at h;erw[h]
  rw[Nat.toDigits_of_base_le aw DA,Vz e (m/10) hd,Nat.div_div_eq_div_mul,<-Nat.pow_succ',Xl];show _=_++(dY e (m%10^(e+1)/10)++[(m%10^(e+1)%10).digitChar]);rw[Nat.pow_succ',Nat.mod_mul_right_div_self,Nat.mod_mul_right_mod]
theorem RK:∀e:Nat,dY e 0=List.replicate e '0' |0=>rfl |e+1=>by show dY e 0++['0']=_;rw[RK e,List.replicate_succ']
theorem RL:∀e r:Nat,r<10^(e+1)->dY (e+1) r=List.replicate (e+1-(Nat.toDigits 10 r).length) '0'++Nat.toDigits 10 r
 |0,r,h=>by have h:r<10:=h;rw[Xc h];show[]++[(r%10).digitChar]=_;rw[Nat.mod_eq_of_lt h];rfl |e+1,r,h=>by
  show dY (e+1) (r/10)++[(r%10).digitChar]=_;by_cases hr:r<10
  ·rw[Nat.div_eq_of_lt hr,RK,Nat.mod_eq_of_lt hr,Xc hr]
   simp
  ·have hd:r/10<10^(e+1):=by rw[Nat.div_lt_iff_lt_mul aw,<-vK];erw[h]
   rw[RL e (r/10) hd,Nat.toDigits_of_base_le (b:=10) (n:=r) aw bB,eP,Xl];have:e+1+1-((Nat.toDigits 10 (r/10)).length+[(r%10).digitChar].length)=e+1-(Nat.toDigits 10 (r/10)).length:=by simp
   rw[this]
theorem MT(r:Nat)(h:r<10^64):(Txt.zfill (numS (r:Int)) 64).cps.toList=(dY 64 r).map Char.toNat:=by
 have ec:=qH r;have el:(numS (r:Int)).length=(Nat.toDigits 10 r).length:=by show(numS (r:Int)).cps.size=_;rw[<-ky,ec,bV]
 rw[RL 63 r h,lj,List.map_replicate];unfold Txt.zfill;split
 ·rename_i hl
  have:64-(Nat.toDigits 10 r).length=0:=by omega
  show(numS (r:Int)).cps.toList=_;rw[ec,show 63+1-(Nat.toDigits 10 r).length=0 by omega];rfl
 ·rename_i hl
  have hd:=oZ r;have h0:∀c,(numS (r:Int)).cps[0]? =some c->48<=c:=λc e=>by rw[<-EI,ec]at e;exact(hd c (fO e)).1
  have hz:zfilled (numS (r:Int)) ((64:Int).toNat-(numS (r:Int)).length)=Builtin.Str.padded (numS (r:Int)) ((64:Int).toNat-(numS (r:Int)).length) 0 48:=by
   unfold zfilled;split
   ·rename_i e;erw[absurd (h0 _ e) aw]
   ·rename_i e;erw[absurd (h0 _ e) aw]
   ·rfl
  rw[hz];show(Array.replicate _ 48++(numS (r:Int)).cps++Array.replicate 0 48).toList=_;rw[lV,lV,Array.toList_replicate,ec,el];simp
theorem a4l(m:Nat)(h:10^64<=m):numS (m:Int)=numS ((m/10^64:Nat):Int)++Txt.zfill (numS ((m%10^64:Nat):Int)) 64:=by erw[An ?_];rw[nW,lV,qH,qH,MT _ (Nat.mod_lt _ (Nat.pow_pos aw)),<-lj,<-Vz 64 m h]
theorem a4k(h:i<0):numS i="-"++numS (-i):=by obtain⟨m,rfl⟩:∃m:Nat,i=Int.negSucc m:=#[(-i-1).toNat,bB];erw[An ?_];rw[nW,lV,Am,show-Int.negSucc m=((m+1:Nat):Int)from Z,qH];rfl
theorem XB{r:Nat}(h:r<10^64):(Txt.zfill (numS (r:Int)) 64).length=64:=by
 show(Txt.zfill (numS (r:Int)) 64).cps.size=64;rw[<-ky,MT r h,bV];have:∀e r,(dY e r).length=e:=λe=>by induction e with |zero=>intro r;rfl |succ e ih=>intro r;show(dY e (r/10)++[_]).length=_;rw[eP,ih];rfl
 erw[this 64 r]
def cat(zs:List Str):Str:=Txt.join "" zs
theorem VW:cat []=Str.empty:=by unfold cat Txt.join;rw[tI];rfl
theorem Ly(z:Str)(zs:List Str):cat (z::zs)=z++cat zs:=by unfold cat Txt.join;rw[tI,tI];cases zs with |nil=>exact(Mn z).symm |cons y r=>show(z++"")++PySem.Str.join "" (y::r)=_;rw[show(Str.ofString "")=Str.empty from by decide+kernel,Mn]
structure Wr(N r:Nat)(zs:List Str):Prop where
 e:numS (N:Int)=numS (r:Int)++cat zs.reverse
 d:r=N/(10^64)^zs.length
 l:∀z∈zs,z.length<=64
 b:zs.length=0\/(10^64)^zs.length<=N
theorem Wr.nil(N:Nat):Wr N N []:=#[by rw[show([]:List Str).reverse=[]from Z,VW,Mn],by simp,λ_ h=>by simp at h,.inl rfl]
theorem Wr.step(h:Wr N r zs)(hr:10^64<=r):Wr N (r/10^64) (zs++[Txt.zfill (numS ((r%10^64:Nat):Int)) 64]):=by
 have hm:r%10^64<10^64:=Nat.mod_lt _ (Nat.pow_pos aw);erw[?_,?_,λz hz=>?_,.inr ?_]
 ·rw[List.reverse_append,List.reverse_cons,List.reverse_nil,List.nil_append,List.singleton_append,Ly,<-Str.append_assoc,<-a4l r hr]
  erw[h.e]
 ·rw[eP,qT,vK (10^64) zs.length,<-Nat.div_div_eq_div_mul,<-h.d]
 ·rcases iI.mp hz with hz|hz
  ·erw[h.l z hz]
  ·rw[cn.mp hz,XB hm];erw[bL _]
 ·rw[eP,qT,vK (10^64) zs.length,MC]
  have h2:=h.d;generalize(10^64)^zs.length=B at*;rw[h2]at hr;by_cases hB:B=0
  ·subst hB;simp
  ·exact(Nat.le_div_iff_mul_le (Nat.pos_of_ne_zero hB)).mp hr
theorem Wr.len(h:Wr N r zs)(hN:N<10^540):zs.length<=8:=by
 rcases h.b with e|e
 ·omega
 ·rw[<-Nat.pow_mul]at e
  have:=(Nat.pow_lt_pow_iff_right (a:=10) aw).mp (yj e hN);omega
theorem Jt(h:m<10^540):((m:Nat):Int).natAbs.log2<1920:=by
 rw[Xn];by_cases h0:m=0
 ·rw[h0];decide
 ·exact(Nat.log2_lt h0).mpr (nY h aG)
theorem Td(h:i.natAbs<10^540):(numS i).length<=541:=by show(Str.ofString (toString i)).length<=541;rw[WZ];erw[WU (k:=540) aw h]
theorem Wv(h:¬i<0):((i.natAbs:Nat):Int)=i:=by omega
theorem abs_neg(h:i<0):((i.natAbs:Nat):Int)=-i:=by omega
theorem abF(cs:List Nat)(c:Nat):digitsVal (cs++[c])=digitsVal cs*10+(c-48):=by unfold digitsVal;rw[MI];rfl
theorem Vo{cs:List Nat}{i c:Nat}(h:cs[i]? =some c):digitsVal (cs.take (i+1))=digitsVal (cs.take i)*10+(c-48):=by rw[List.take_add_one,h];erw[abF _ _]
theorem Vp{cs:List Nat}(h:AllDigits cs):∀i,digitsVal (cs.take i)<10^i |0=>by simp[digitsVal] |i+1=>by have ih:=Vp h i;rw[vK];cases hc:cs[i]? with |none=>rw[List.take_add_one,hc];simp;omega |some c=>have:=h c (fO hc);rw[Vo hc];omega
theorem Z8(z:Str):Txt.startswith z "-"=decide (z.cps.toList.head? =some 45):=by
 have e1:(Str.ofString "-").cps.toList=[45]:=by decide+kernel
 have e2:(Str.ofString "-").length=1:=by decide+kernel
 have hn:z.cps.toList.length=z.length:=by simp[Str.length]
 unfold Txt.startswith;rw[e2,StrLaws.subAt_eq,e1,e2,List.drop_zero,<-hn];cases z.cps.toList with |nil=>rfl |cons c r=>simp[Xt]
theorem a4j{z y:Str}{n:Int}(ef:y.cps.toList=figs z)(h1:figs z≠[])(h2:(figs z).all isFig=true)(hl:z.length<=4300)(hn:intText? z=some n): n=if Txt.startswith z "-"=true then-((digitsVal y.cps.toList:Nat):Int)else((digitsVal y.cps.toList:Nat):Int):=by
 rw[Z8,ef];unfold figs at*;split at h1
 ·rename_i r h
  rw[h]at h2;have e:=intText_neg h (xA h2) h1 hl;rw[hn]at e;rw[h];simpa using e
 ·rename_i h
  split at h2
  ·rename_i r h'
   exact(h r h').elim
  ·have e:=Mi (xA h2) h1 hl
   rw[hn]at e;have hh:z.cps.toList.head? ≠some 45:=λz'=>by cases hz:z.cps.toList with |nil=>rw[hz]at z';cases z' |cons c r=>rw[hz]at z';cases z';erw[h r hz]
   rw[cG hh];simpa using e
theorem Yb(h1:48<=c)(h2:c<=57):intText? ⟨#[c]⟩=some ((c-48:Nat):Int):=by have e:=Mi (x:=⟨#[c]⟩) (λa ha=>by rw[cn.mp ha];erw[h1,h2]) (by simp) (by show 1<=4300;decide);rw[e];show some (((0*10+(c-48):Nat):Nat):Int)=_;rw[Nat.zero_mul,Nat.zero_add]
end _N
namespace _L
open PySem PySem.Spec PyProof.Rows
def ph(A:ah)(h:Heap):Prop:=∃ex o fs,A.handled=some (.ref ex)/\h.get? ex=some o/\o.data= .fields fs/\fs[2]? =some .none
theorem abu:entryFor table "proto.unchain"=some Builtin.«proto.unchain»:=entryFor_of_tree (by kernel_rfl)
section
variable {prog:af}{w:World}{A:ah}{E:Value->ae->Prop}{s:ae}
theorem Rf{α:Type}{e:Addr}{oe:Obj}{fe:Array Value}{Q:α->ae->Prop}(hh:ph A s.heap)(cj:∀ex,A.handled=some (.ref ex)->ex≠e)(oT:s.heap.get? e=some oe)(Ut:oe.data= .fields fe)(hz:2<fe.size) (h:∀g,Heap.SameBut e s.heap g->(∃o,g.get? e=some o/\o.cls=oe.cls)->E (.ref e) {s with heap:=g}):wpAny (model prog w) A (raiseNew (.ref e):Sem α) Q E s:=by
 let(ex,o,fs,h1,h2,h3,h4):=hh;have ne:=cj ex h1;unfold raiseNew;erw[aJ (wpAny_handled ?_)];rw[h1];have hb:(Value.ref ex !=Value.ref e)=true:=by rw[bne_iff_ne];intro z;injection z with z;erw[ne z]
 dsimp only;rw[bo hb];erw[aJ (kX (wpAny_runValue (AV abu ?_)))];show wpAny _ _ (field (.ref ex) 2>>=_) _ _ s;erw[aJ (ie h2 h3 (x:=.none) h4 ?_)];show wpAny _ _ (if(Value.none==Value.none)=true then _ else _) _ _ s;rw[bo (show(Value.none==Value.none)=true from Z)];erw[cg ?_];show wpAny _ _ (setField (.ref e) 2 (.ref ex)>>=_) _ _ s;erw[aJ (xY oT Ut hz (wpAny_throw (h _ (EG ..) #[_,EF _ oT (MB (AY Ut _)),Obj.cls_mapFields ..])))]
theorem ph.go(x:ph A h)(k:∀ex,A.handled=some (.ref ex)->∀o,h.get? ex=some o->g.get? ex=some o):ph A g:=by let(ex,o,fs,h1,h2,h3,h4):=x;erw[ex,o,fs,h1,k ex h1 o h2,h3,h4]
theorem Zh{α:Type}{it:Addr}{Q:α->ae->Prop}{f:Obj->Obj}(hh:ph A s.heap)(hi:∀ex,A.handled=some (.ref ex)->ex≠it) (h:∀g e,Heap.ExtBut it s.heap g->(∃o,g.get? e=some o/\o.cls= .type "StopIteration")->E (.ref e) {s with heap:=g}):wpAny (model prog w) A (newExc (.type "StopIteration") []>>=λe=>(raiseNew e:Sem α)) Q E {s with heap:=s.heap.update it f}:=by
 let(ex,o,fs,h1,h2,h3,h4):=id hh;have e2:(s.heap.update it f).get? ex=some o:=((EG (h:=s.heap) (a:=it) (f:=f)).2 ex (hi ex h1)).trans h2;erw[aJ ?_];simp only[newExc,newTuple];erw[aJ (ko ?_ (by size_fits))];erw[aJ (m:=firstArgMember _ _) (tH (a:=Value.none) (by first|rfl|(simp only[firstArgMember];rfl)) ?_)];erw[ko ?_ (by size_fits)];have lt:ex<(s.heap.update it f).objs.size:=bX e2;erw[Rf (hh:=#[ex,o,fs,h1,bZ _ (bZ _ e2),h3,h4]) (λfX z=>?_) (dD _ Z) Z (Ez Z) λg sb #[o',e',c']=>h g _ ?_ #[o',e',c']]
 ·rw[h1]at z
  cases z;erw[dI (bX (bZ _ e2))]
 ·intro b ob hb eb
  have e3:(s.heap.update it f).get? b=some ob:=((EG (h:=s.heap) (a:=it) (f:=f)).2 b hb).trans eb;have e4:=bZ {cls:=.type "tuple",data:=.seq #[]} e3;exact(sb.2 b (dI (bX e4))).trans (bZ _ e4)
def HdN(A:ah)(b:Addr):Prop:=∀ex,A.handled=some (.ref ex)->ex≠b
theorem a5V{it l:Addr}{i:Nat} {items}{Q:Option Value->ae->Prop}(hh:ph A s.heap)(hn:HdN A it) (hit:s.heap.IsListIter it l i)(hl:s.heap.IsList l items)(hx:items[i]? =none) (hQ:∀h',Heap.ExtBut it s.heap h'->Q none {s with heap:=h'}):wpAny (model prog w) A (pyNext (.ref it)) Q E s:=by let(o,ho,hc,hd):=id hit;let(ol,zO,_,nl,hdl):=hl;unfold pyNext;erw[aJ (wpAny_attempt (yb (name:=Str.ofString "__next__") hit.typeIs slot_listiter_next (y9 slot_listiter_next hit.typeIs entry_listiter_next ?_ (args_listiter_next _))))];show wpAny _ _ (field (.ref it) 0>>=_) _ _ s;erw[aJ (ie ho hd (x:=.ref l) Z ?_)];show wpAny _ _ (if(Value.ref l==Value.none)=true then _ else _) _ _ s;rw[bj (show¬((Value.ref l==Value.none)=true)from dX)];show wpAny _ _ (field (.ref it) 1>>=_) _ _ s;erw[aJ (ie ho hd (x:=.int i 0) Z ?_)];show wpAny _ _ (seqItems? (.ref l)>>=_) _ _ s;erw[aJ (tG zO hdl ?_)];simp only[MK,hx];erw[aJ (xZ (aJ (xY ho hd (by simp) ?_)))];erw[Zh (A:=A.in1) hh hn λg e xb ex=>?_];erw[aJ (Em (T:="StopIteration") (b:=true) ex isSubtype_stop ?_)];erw[cg (hQ _ xb)]
end
def nU(ex:Addr)(H:Hp):Prop:=∃cls dx,H ex=some (.ext (qP ex cls dx))
theorem nU.go{ex:Addr}(s:aE H H')(h:nU ex H):nU ex H':=let#[c,d,e]:=h;#[c,d,s _ _ e]
theorem Inv.Uv{X:Cx}{pins:List (Addr×Obj)}{O:St}{H:Hp}{s:ae}{ex:Addr}(I:Inv X pins O H s)(hx:X.A.handled=some (.ref ex))(h:nU ex H):ph X.A s.heap:=by let(cls,dx,e):=h;let((o,o1,o2,o3,fs,o4,o5),_,_):=(show gb X.prog X.w H s.heap ex (.ext (qP ex cls dx))from I.bp ex _ e);erw[ex,o,fs,hx,o1,o4,o5]
section
variable {X:Cx} {tg:Expr} {ex:Addr}
end
section
variable {X:Cx} {ex:Addr} {pos:Pos}
end
section
variable {K:aa} {H:Hp}
end
structure jO(ex:Addr)(k:Nat)(A:ah):Prop where
 n:p8 k A
 hd:A.handled=some (.ref ex)
theorem jO.mono{ex:Addr}{k:Nat}(r:jO ex k A)(h:j<=k):jO ex j A:=#[r.n.mono h,r.hd]
theorem jO.deeper{ex:Addr}{k:Nat}(r:jO ex (k+1) A)(env:Env):jO ex k (A.deeper env):=#[r.n.deeper env,r.hd]
theorem cI.a5i{k:Nat}(r:cI k A)(ex:Addr):jO ex k (A.mark (some (.ref ex))):=#[r.mark _,Z]
def AN(ex:Addr)(P:af)(w:World)(K:aa)(mg:bO)(au:Heap)(k:Nat)(f:Addr)(fd:FuncData)(ps:List Str)(sp:Sp):Prop:=(∀vs H Q E,sp vs H Q E->vs.length=ps.length)/\∀(A:ah)(outer:List Env)(s:ae)(H:Hp)(args:Args)(us:List Value)(vs:List V)(Q:VK),jO ex k A->qQ P w K mg au A outer s H->BindsTo s fd args (ps.zip us)->Vals vs us->sp vs H Q (λ_ _ _=>False)->codeAny (model P w) A (.call (.ref f) args) (λr s'=>match r with| .ok (.ret u)=>CE outer P w H s Q u s'|_=>False) s
theorem UX{ex:Addr}{P:af}{w:World}{K:aa}{mg:bO}{au:Heap}{k:Nat}{f:Addr}{kV:Value}(lk:K.lookup f=some #[oc,od,.func (PySem.W.fnOf name qual params body scope dV kV doc pm an aH ct),fV])(fi:PySem.W.codeIn K aH qual=true)(S:bu N ps scope)(len:∀vs H Q E,sp vs H Q E->vs.length=ps.length) (gq:∀(A:ah)(outer:List Env)(s:ae)(H:Hp)(vs:List V)(Q:VK),jO ex k (A.deeper (envOfC qual scope s.heap.objs.size f aH))->sp vs H Q (λ_ _ _=>False)->∃t,g9 (E2 P w K mg au N qual scope f aH A outer s H) body t/\t {nx:=λ_ H'=>Q .bD H',rt:=Q} (start N vs) H): AN ex P w K mg au (k+1) f (PySem.W.fnOf name qual params body scope dV kV doc pm an aH ct) ps sp:=by
 erw[len,λA outer s H args us vs Q hr e0 hb r fS=>?_];have hl:=len _ _ _ _ fS;have KX:K.In s.heap:=e0.mod.lJ.keeps λb o e=>(e0.bs b o e).1;have lim:s.heap.NoLimit:=e0.mod.nolimit.keeps λb o e=>(e0.bs b o e).1;have hk:∀y∈ps.zip us,scope.names.lookup y.1=some .local\/(scope.names.lookup y.1=some .cell/\((cellsFrom (s.heap.objs.size+1) scope.names []).lookup y.1).isSome=true):=λ#[n,v] hy=>by
  rcases S.par n (yl hy).1 with q|q
  ·erw[.inl q]
  ·erw[.inr #[q,Ms _ _ _ (.inl q)]]
 erw[WV (by have:=hr.n.dp;omega) (KX _ _ lk) Z S.co S.gen Z (X1 KX fi) (hb _ _ _ _ ?_)];erw[WQ S.kind hk λenv he s1 x=>?_];subst he;erw[lim.keeps x.toInCall.keep,codeAny_func ?_];let(t,ht,hq):=gq A outer s H vs Q (hr.deeper _) fS;have e1:qQ P w K mg au {A with handled:=none} outer s H:=#[e0.frames,e0.mod,e0.bs,e0.lP,e0.jG,e0.nJ,e0.bp,e0.bare];have I:=JJ (CX:=iX) (A:={A with handled:=none}) (E:=λ_ _ _=>False) S rfl e1 hl r x;have J:Inv (E2 P w K mg au N qual scope f aH A outer s H) [] (start N vs) H s1:=#[#[I.ok.mod,I.ok.kind,I.ok.glob,I.ok.blt,I.ok.above,I.ok.inj,I.ok.has,I.ok.sW,λh=>(dX h).elim,Around.frames_deeper e0.frames,I.ok.u9,I.ok.Af,I.ok.bs,I.ok.lP,I.ok.rV,I.ok.qC,I.ok.jG,I.ok.nJ],I.os,I.bare,I.au,I.loc,I.cell,I.free,I.kQ,I.pin,I.bp,I.len];erw[ju (ht [] s1 (start N vs) H _ J hq) (λfl s' hs=>?_) λe s' hs=>hs.elim];cases fl with |ret u=>let(v,σ',H',J',rv,q):=hs;erw[v,H',J'.os,J'.bare,J'.au,J'.bp,rv,q] |next=>let(σ',H',J',q):=hs;erw[V.bD,H',J'.os,J'.bare,J'.au,J'.bp,Z,q] |brk=>let(_,_,_,q):=hs;erw[False.elim q] |cont=>let(_,_,_,q):=hs;erw[False.elim q]
def xW(P:af)(w:World)(K:aa)(mg:bO)(au:Heap)(x:Str)(k:Nat)(sp:Addr->Sp):Prop:=∃f fd ps,(∀ex,AN ex P w K mg au k f fd ps (sp ex))/\mg x=some (.ref f)/\PySem.W.keepIn K (.ref f)=true/\Binds K fd ps []
def vy(P:af)(w:World)(K:aa)(mg:bO)(au:Heap)(C:Addr)(m:Str)(k:Nat)(sp:Addr->Sp):Prop:=∃f fd ps,(∀ex,AN ex P w K mg au k f fd ps (sp ex))/\Meth K C m f/\Binds K fd ps []
theorem FA.A0{P:af}{w:World}{K:aa}{mg:bO}{au:Heap}{x:Str}{st:Stmt}{N ps:List Str}{k:Nat}{sp:Addr->Sp}(F:FA K mg x st)(S:bu N ps (aW st))(len:∀ex vs H Q E,sp ex vs H Q E->vs.length=ps.length) (hb:∀(kV doc pm:Value)(an:Option Addr)(aH ct:Value)(us:List Value),us.length=ps.length->bindArgs (PySem.W.fnOf x x (jJ st) (fY st) (aW st) .none kV doc pm an aH ct) #[us,[]]=pure (ps.zip us)) (gq:∀(ex f:Addr)(aH:Value)(A:ah)(outer:List Env)(s:ae)(H:Hp)(vs:List V)(Q:VK),jO ex k (A.deeper (envOfC x (aW st) s.heap.objs.size f aH))->sp ex vs H Q (λ_ _ _=>False)->∃t,g9 (E2 P w K mg au N x (aW st) f aH A outer s H) (fY st) t/\t {nx:=λ_ H'=>Q .bD H',rt:=Q} (start N vs) H):xW P w K mg au x (k+1) sp:=by let(f,fd,hm,F):=F.ex;have uV:=F.binds hb;have kp:=F.kp;let(oc,od,kV,doc,pm,an,aH,ct,fV,rfl,lk,fi):=F.ex;erw[f,_,ps,λex=>UX lk fi S (len ex) λA outer s H vs Q hr fS=>gq ex f aH A outer s H vs Q hr fS,hm,kp,uV]
theorem MA.A0{P:af}{w:World}{K:aa}{mg:bO}{au:Heap}{C:Addr}{m qual:Str}{st:Stmt}{N ps:List Str}{k:Nat}{sp:Addr->Sp}(F:MA K C m qual st)(S:bu N ps (aW st))(len:∀ex vs H Q E,sp ex vs H Q E->vs.length=ps.length) (hb:∀(kV doc pm:Value)(an:Option Addr)(aH ct:Value)(us:List Value),us.length=ps.length->bindArgs (PySem.W.fnOf m qual (jJ st) (fY st) (aW st) .none kV doc pm an aH ct) #[us,[]]=pure (ps.zip us)) (gq:∀(ex f:Addr)(aH:Value)(A:ah)(outer:List Env)(s:ae)(H:Hp)(vs:List V)(Q:VK),jO ex k (A.deeper (envOfC qual (aW st) s.heap.objs.size f aH))->sp ex vs H Q (λ_ _ _=>False)->∃t,g9 (E2 P w K mg au N qual (aW st) f aH A outer s H) (fY st) t/\t {nx:=λ_ H'=>Q .bD H',rt:=Q} (start N vs) H):vy P w K mg au C m (k+1) sp:=by let(f,fd,hm,F):=F.ex;have uV:=F.binds hb;let(oc,od,kV,doc,pm,an,aH,ct,fV,rfl,lk,fi):=F.ex;erw[f,_,ps,λex=>UX lk fi S (len ex) λA outer s H vs Q hr fS=>gq ex f aH A outer s H vs Q hr fS,hm,uV]
section
variable {X:Cx}{ex:Addr}{k:Nat}{x m:Str}{C:Addr}{p pos apos:Pos}{o e:Expr}{es:List Expr}{t:TA}{ta:TE}{sp:Addr->Sp}
theorem C6{pins:List (Addr×Obj)}{O:St}{H:Hp}{s:ae}{Q:VK}{us:List Value}{vs:List V}{f:Addr}{fd:FuncData}{ps:List Str}{sp:Sp}(F:AN ex X.prog X.w X.K X.mg X.au k f fd ps sp)(hr:jO ex k X.A)(hb:Binds X.K fd ps [])(I:Inv X pins O H s)(r:Vals vs us)(h:sp vs H Q (λ_ _ _=>False)): wpAny (model X.prog X.w) X.A (call (.ref f) us) (EP X pins O Q) X.xe s:=by
 have hl:(us++[]).length=ps.length:=by rw[qU,<-r.length];erw[F.1 _ _ _ _ h]
 have bt:=hb s us I.fD hl;rw[qU]at bt;erw[AS (vI (F.2 X.A X.stack s H #[us,[]] us vs Q hr I.DQ bt r h) λr s' hq=>?_)];cases r with |error e=>erw[hq.elim] |ok fl=>cases fl with |ret u=>erw[I.after hq] |next=>erw[hq.elim] |brk=>erw[hq.elim] |cont=>erw[hq.elim]
def YZ(sp:Sp)(t:TA):TE:=λO H Q=>t O H λvs H1=>sp vs H1 Q (λ_ _ _=>False)
theorem a1U(F:xW X.prog X.w X.K X.mg X.au x k sp)(hr:jO ex k X.A)(hg:Gl X x)(ha:PA X (e::es) t)(gZ:autoParam ((x==("__debug__":Str))=false) q8_._auto_1) (he:autoParam (starEach (e::es) X.env=(false,eval e X.env)::starEach es X.env) r8_._auto_1)(eg:autoParam ((backTo pos (starEach es X.env)).any (·.1)=false) r8_._auto_1):PE X (.Call (.Name x p) (e::es) [] pos) (YZ (sp ex) t):=by let(f,fd,ps,F,hm,hk,hb):=F;intro pins s O H Q I h;erw[yc (sA I hg hm ?_ gZ)];erw[vJ (h₀:=X.au) I.ok.mod.lJ hk (aZ (ha pos pins s O H _ I h) λus s1 #[vs,H1,I1,r,q]=>#[I1.fD,C6 (F ex) hr hb I1 r q]) he eg]
inductive adu(C:Addr)(m:Str)(sp:Sp)(Q:VK)(x:V)(H1:Hp):Prop |mk (a:_)(dx:_)(fs:_)(h0:x= .ref a)(h1:H1 a=some (.ins C dx fs))(h2:fs.lookup m=none)(h3:sp [x] H1 Q (λ_ _ _=>False))
theorem a1Q{pl:Sem Bool}(F:vy X.prog X.w X.K X.mg X.au C m k sp)(c:hV X.K C)(hr:jO ex k X.A)(he:PE X o ta) (ht:eval (.Call (.Attribute o m apos) [] [] pos) X.env=(do
 let ov<-eval o X.env
 standAt apos.atName
 let(f,first)<-holding [ov] (getMethod ov m pl)
 callWith pos f first (backTo pos (starEach [] X.env)) (backToKw pos (keywordEach [] X.env))):=by rfl): PE X (.Call (.Attribute o m apos) [] [] pos) (λO H Q=>ta O H λx H1=>adu C m (sp ex) Q x H1):=by
 let(f,fd,ps,F,hm,hb):=F;intro pins s O H Q I h;erw[Eu (pl:=pl) (aZ (he pins s O H _ I h) λu s1 #[x,H1,I1,rx,a,dx,fs,fX,ea,l,q]=>?_) ht];subst fX;obtain rfl:u=Value.ref a:=rx;erw[Ac I1 ea c hm l ?_];erw[PySem.W.callWith_K0 (first:=[.ref a]) I1.fD hm.kp (C6 (us:=[.ref a]) (vs:=[.ref a]) (F ex) hr hb I1 (.cons rfl .nil) q)]
end
def Ei(CX:jc)(X:Cx)(E:St->XK):Prop:=∀(pins:List (Addr×Obj))(O:St)(H:Hp)(s:ae)(e:Value)(s':ae),Inv X pins O H s->CX X.stack H s (E O) e s'->X.xe e s'
section
variable {X:Cx}{CX:jc}{k:Nat}{f:Addr}{fd:FuncData}{ps:List Str}{sp:Sp}{dvs:List V}{ds:List Value}{E:St->XK}{x:Str}{p pos:Pos}{e:Expr}{es:List Expr}{t:TA}
theorem a0i{pins:List (Addr×Obj)}{O:St}{H:Hp}{s:ae}{Q:VK}{us:List Value}{vs:List V}(F:eR X.prog X.w X.K X.mg X.au CX k f fd ps sp)(hr:cI k X.A)(hb:Binds X.K fd ps ds)(hd:Vals dvs ds)(hx:Ei CX X E)(I:Inv X pins O H s)(r:Vals vs us)(h:sp (vs++dvs) H Q (E O)):wpAny (model X.prog X.w) X.A (call (.ref f) us) (EP X pins O Q) X.xe s:=by
 have r2:Vals (vs++dvs) (us++ds):=r.append hd;have hl:(us++ds).length=ps.length:=by rw[<-r2.length];erw[F.len _ _ _ _ h]
 erw[AS (vI (F.run X.A X.stack s H #[us,[]] (us++ds) (vs++dvs) Q (E O) hr I.DQ (hb s us I.fD hl) r2 h) λr s' hq=>?_)];cases r with |error e=>erw[hx pins O H s e s' I hq] |ok fl=>cases fl with |ret u=>erw[I.after hq] |next=>erw[False.elim hq] |brk=>erw[False.elim hq] |cont=>erw[False.elim hq]
end
section
variable {X:Cx}{i:Nat}{n y:Str}{Dc:Addr}{sX:List Value}{newD:String}{body pD:List Stmt}{b0:Stmt}{np oQ pos:Pos}{tb:(St->XK)->TS}{th:TS}{Cs:Addr->Prop}
end
section
variable {prog:af}{w:World}{A:ah}{E:Value->ae->Prop}{s:ae}{I ax ex:Addr}
theorem XS(hx:A.handled=some (.ref ex))(cj:ax≠I)(hex:ex≠I)(items:Array Value): Walks prog w A I [I,ax,ex] [I] items.size (λi v=>items[i]? =some v) (λi h=>h.IsListIter I ax i/\h.IsList ax items/\∃o fs,h.get? ex=some o/\o.data= .fields fs/\fs[2]? =some .none) where
 sub:=λb hb=>by simp at hb;simp[hb]
 frame:=λ_ _ _ st hk=>#[st.1.at λo e=>hk I (by simp) o e,st.2.1.at λo e=>hk ax (by simp) o e,by let(o,fs,e,z):=st.2.2;erw[o,fs,hk ex (by simp) o e,z]]
 item:=λi s Q E hi st hQ=>by erw[wpAny_pyNext_list_item st.1 st.2.1 (x:=items[i]) (by simp[hi]) λh' zT oO=>?_];let(o,fs,e,z):=st.2.2;erw[hQ _ h' s.toks (by simp[hi]) #[zT,st.2.1.extBut oO.extBut cj,o,fs,oO.extBut _ _ hex e,z] λb o hb e=>oO.extBut b o (λh=>hb (by simp[h])) e]
 done:=λs Q E st hQ=>by let(o,fs,e,z1,z2):=st.2.2;erw[a5V #[ex,o,fs,hx,e,z1,z2] (λfX z=>by rw[hx]at z;cases z;erw[hex]) st.1 st.2.1 (by simp) λh' zX=>hQ h' s.toks λb o hb e=>zX b o (λh=>hb (by simp[h])) e]
 self:=λ_ _ _ _ st hQ=>wpAny_pyIter_listiter st.1 hQ
theorem ac9{k:Nat}{Q:List Value->ae->Prop}(W:Walks prog w A.in1 I [I,ax,ex] [I] items.size (λi v=>items[i]? =some v) (λi h=>h.IsListIter I ax i/\h.IsList ax items/\∃o fs,h.get? ex=some o/\o.data= .fields fs/\fs[2]? =some .none)) (hk:k<=items.size)(gp:s.heap.IsListIter I ax k/\s.heap.IsList ax items/\∃o fs,s.heap.get? ex=some o/\o.data= .fields fs/\fs[2]? =some .none)(hI:I<s.heap.objs.size)(Uy:ax<s.heap.objs.size)(hx:ex<s.heap.objs.size) (hQ:∀h' tk,(∀b o,b≠I->s.heap.get? b=some o->h'.get? b=some o)->Q (items.toList.drop k) {s with heap:=h',toks:=tk})(hsz:items.size<=sizeLine):wpAny (model prog w) A (collect (.ref I)) Q E s:=by
 erw[wpAny_collect_iter (T:="list_iterator") (.inr (.inr (.inl Z))) (PySem.W.kun_shift W hk).toS (λi u st=>st.1.typeIs) (by rw[Nat.add_zero];erw[gp]) (λb hb=>?_) (EA ..) (λs' acc hm ha=>?_) bB]
 ·simp only[bI,ck,cJ]at hb
  rcases hb with rfl|rfl|rfl
  ·erw[hI]
  ·erw[Uy]
  ·erw[hx]
 ·let(h',g',d',t',o'):=s'
  let(m1,m2,m3,m4,_):=hm;have m2:g'=s.gens:=m2;have m3:d'=s.drawn:=m3;have m4:o'=s.os:=m4;subst m2 m3 m4;rw[PySem.W.kun_acc hk ha];erw[hQ h' t' λb o hb e=>m1 b o (by simpa using hb) e]
end
section
variable {X:Cx}
theorem a1M(ex:Addr)(K:aa)(hK:X.K=K){e1 e2:Expr}{k:Nat}{t1 t2:TG}{sp pos:Pos}(hc:X.A.handled=some (.ref ex))(h1:PG X e1 t1)(h2:PG X e2 t2) (hs:autoParam (assignEach [e1,.Starred e2 sp] X.env=[(false,assign e1 X.env),(true,assign e2 X.env)]) r8_._auto_1):PG X (.Tuple [e1,.Starred e2 sp] k pos) (λv O H Q=>nU ex H/\UQ K t1 t2 v O H Q):=by
 subst hK;intro pins s O H v u Q I r hw;let(hdh,a,x,xs,e,hq,hl,hw):=hw;subst e;cases r;let(its,rv,ht,hz):=I.list hq;have iy:=I.Uv hc hdh;have hex:ex<s.heap.objs.size:=by let(fX,o,fs,z1,z2,_):=iy;rw[hc]at z1;cases z1;erw[bX z2]
 have nj:=ht.isList;cases rv with |cons r1 rr=>
  rename_i ux dE;have hlen:=rr.length;have cy:a≠s.heap.objs.size:=by let(o,ho,_):=nj;erw[dI (bX ho)]
  rw[assign_Tuple];erw[aJ (AQ ?_)];unfold unpack;rw[hs];erw[aJ (kX ?_)];show wpAny _ _ (unpackItems (.ref a) 2 (some 1)) _ _ _;unfold unpackItems;erw[aJ ?_];unfold notIterableAtAll;erw[aJ (vF nj.typeIs slot_list_iter.lookup ?_)];erw[cg ?_];simp only[Bool.false_eq_true,if_false];erw[aJ (kX (y6 nj ?_))];have sz:(ux::dE).toArray.size=xs.length+1:=by rw[eF,gy,hlen]
  erw[aJ (kX (PySem.W.kun_draw cy 1 0 _ _ #[_,dD _ Z,Z,Z] (nj.push _) bB λh₁ uU xg=>?_))];have zS:h₁.IsList a (ux::dE).toArray:=(nj.push _).extBut xg.extBut cy;rw[Nat.zero_add]at uU;have K6:=uU;let(oi,mq,_):=K6;have K4:=zS;let(ol,zO,_):=K4;have U7:∃o fs,h₁.get? ex=some o/\o.data= .fields fs/\fs[2]? =some .none:=by let(fX,o,fs,z1,z2,z3,z4):=iy;rw[hc]at z1;cases z1;erw[o,fs,xg.extBut _ _ (dI hex) (bZ _ z2),z3,z4]
  rw[bj (by simp)];erw[aJ (kX (ac9 (s:={s with heap:=h₁}) (ex:=ex) (XS (A:=X.A.in1) hc cy (dI hex) (ux::dE).toArray) (k:=1) bB #[uU,zS,U7] (bX mq) (bX zO) (bX U7.choose_spec.choose_spec.1) (λh₂ tk hk=>?_) (by rw[qR];omega)))];have ea:(ux::dE).toArray.toList.drop 1=dE:=by simp
  rw[ea];show wpAny _ _ (if dE.length<2-1-1 then _ else _) _ _ _;rw[bj bB];show wpAny _ _ (newList (dE.take (dE.length-(2-1-1)))>>=λd=>pure ((ux::dE).toArray.toList.take 1++[d]++dE.drop (dE.length-(2-1-1)))) _ _ _;have eb:dE.take (dE.length-(2-1-1))=dE:=vL bB;have ec:dE.drop (dE.length-(2-1-1))=[]:=List.drop_eq_nil_of_le bB;rw[eb,ec];have he:Heap.ExtBut s.heap.objs.size s.heap h₂:=λb o hb e=>hk b o hb (xg.extBut b o hb (bZ _ e));erw[aJ (wpAny_newList (s:={s with heap:=h₂,toks:=tk}) (cg ?_) ?_)]
  ·have I2:Inv X pins O H {s with heap:=h₂,toks:=tk}:=I.kept (t':=tk) λb o e=>he b o (dI (bX e)) e
   have nw:Nw H (upd H h₂.objs.size (.lst xs)) h₂.objs.size (.lst xs):=.of (I2.bp.fresh (bL _));have I3:Inv X pins O (upd H h₂.objs.size (.lst xs)) {s with heap:=h₂.push {cls:=.type "list",data:=.seq dE.toArray},toks:=tk}:=I2.laid (t':=tk) (o:=.lst xs) (λb ob q=>bZ _ q) (bL _) #[by rw[gy]at hz;omega,dE,0,rr,dD _ rfl];show wpAny _ _ (assignInOrder (assign e1 X.env::[assign e2 X.env]) (ux::[Value.ref h₂.objs.size])) _ _ _;erw[ye (aZ (h1 pins _ O _ _ _ _ I3 r1 (hw _ _ nw)) λ_ s1 #[σ1,H1,I1,q1]=>?_)];erw[ye (aZ (h2 pins s1 σ1 H1 (.ref h₂.objs.size) _ _ I1 Z q1) λ_ s2 #[σ2,H2,I2,q2]=>?_)];erw[Mm #[σ2,H2,I2,q2]]
  ·rw[<-hlen,qR];omega
end
section
variable {X:Cx}{ex:Addr}{k:Nat}{x m:Str}{C:Addr}{p pos apos:Pos}{o e:Expr}{es:List Expr}{t:TA}{ta:TE}{sp:Addr->Sp}
inductive adt(C:Addr)(m:Str)(sp:Sp)(t:TA)(O:St)(Q:VK)(x:V)(H1:Hp):Prop |mk (a:Addr)(dx:Addr)(fs:List (Str×V))(h0:x= .ref a)(h1:H1 a=some (.ins C dx fs))(h2:fs.lookup m=none)(h3:t O H1 λvs H2=>sp (x::vs) H2 Q (λ_ _ _=>False))
theorem a1R{pl:Sem Bool}(F:vy X.prog X.w X.K X.mg X.au C m k sp)(c:hV X.K C)(hr:jO ex k X.A)(he:PE X o ta)(ha:PA X (e::es) t) (gp:autoParam (starEach (e::es) X.env=(false,eval e X.env)::starEach es X.env) r8_._auto_1)(eg:autoParam ((backTo pos (starEach es X.env)).any (·.1)=false) r8_._auto_1) (ht:eval (.Call (.Attribute o m apos) (e::es) [] pos) X.env=(do
 let ov<-eval o X.env
 standAt apos.atName
 let(f,first)<-holding [ov] (getMethod ov m pl)
 callWith pos f first (backTo pos (starEach (e::es) X.env)) (backToKw pos (keywordEach [] X.env))):=by rfl): PE X (.Call (.Attribute o m apos) (e::es) [] pos) (λO H Q=>ta O H λx H1=>adt C m (sp ex) t O Q x H1):=by
 let(f,fd,ps,F,hm,hb):=F;intro pins s O H Q I h;erw[Eu (pl:=pl) (aZ (he pins s O H _ I h) λu s1 #[x,H1,I1,rx,a,dx,fs,fX,ea,l,q]=>?_) ht];subst fX;obtain rfl:u=Value.ref a:=rx;erw[Ac I1 ea c hm l ?_];erw[vJ (h₀:=X.au) (first:=[.ref a]) I1.ok.mod.lJ hm.kp (aZ (ha pos pins s1 O H1 _ I1 q) λus s2 #[vs,H2,I2,r,q2]=>#[I2.fD,C6 (us:=.ref a::us) (vs:=.ref a::vs) (F ex) hr hb I2 (.cons rfl r) q2]) gp eg]
inductive afC(X:Cx)(ex:Addr)(i:Nat)(t:TA)(O:St)(H:Hp)(Q:VK):Prop |mk (f:Addr)(fd:FuncData)(ps:List Str)(k:Nat)(sp:Sp)(h0:O[i]? =some (some (.ref f)))(F:AN ex X.prog X.w X.K X.mg X.au k f fd ps sp)(hk:PySem.W.keepIn X.K (.ref f)=true)(hb:Binds X.K fd ps [])(hr:jO ex k X.A)(ht:t O H λvs H1=>sp vs H1 Q (λ_ _ _=>False))
theorem a1Y(ex:Addr)(i:Nat)(hN:autoParam (X.N[i]? =some x) r8_._auto_1)(hv:autoParam (AF X.env.scope x) d8_._auto_1)(ha:PA X (e::es) t)(hd:autoParam ((x==("__debug__":Str))=false) q8_._auto_1) (fi:autoParam ((x==("__classdict__":Str))=false) q8_._auto_1)(he:autoParam (starEach (e::es) X.env=(false,eval e X.env)::starEach es X.env) r8_._auto_1)(eg:autoParam ((backTo pos (starEach es X.env)).any (·.1)=false) r8_._auto_1): PE X (.Call (.Name x p) (e::es) [] pos) (λO H Q=>afC X ex i t O H Q):=by intro pins s O H Q I h;let(f,fd,ps,k,sp,h0,F,hk,hb,hr,ht):=h;erw[yc (aZ (Iv (pos:=p) hN hv hd fi pins s O H (λv H'=>v= .ref f/\H'=H) I #[_,h0,Z,Z]) λu s1 #[v,H1,I1,rv,e1,e2]=>?_)];subst e1 e2;cases(show u=Value.ref f from rv);erw[vJ (h₀:=X.au) I1.ok.mod.lJ hk (aZ (ha pos pins s1 O H1 _ I1 ht) λus s2 #[vs,H2,I2,r,q]=>#[I2.fD,C6 F hr hb I2 r q]) he eg]
end
inductive adl(Cs:Addr->Prop)(tb:(St->XK)->TS)(th:Addr->TS)(D:Ends)(O:St)(H:Hp):Prop |mk (E:St->XK)(h0:tb E D O H)(h1:(∀σ' cls dx H',E σ' cls dx H'->∃C,cls= .ref C/\Cs C))(h2:∀(C ex:Addr)(dx:Option Addr)(σ':St)(H':Hp),σ'.length=O.length->E σ' (.ref C) dx H'->H' ex=none->th ex D σ' (upd H' ex (.ext (qP ex (.ref C) dx))))
def YF(Cs:Addr->Prop)(tb:(St->XK)->TS)(th:Addr->TS):TS:=λD O H=>adl Cs tb th D O H
section
variable {X:Cx}{y:Str}{Dc:Addr}{sX:List Value}{newD:String}{body pD:List Stmt}{b0:Stmt}{np oQ pos:Pos}{tb:(St->XK)->TS}{th:Addr->TS}{Cs:Addr->Prop}
theorem Ip(gp:X.stack=X.env::X.outer)(hfr:X.env.frame=some X.env.locals) (hb:∀(E:St->XK)(xe:Value->ae->Prop),Ei (jt X.prog X.w) (X.kz xe) E->g9 (X.kz xe) body (tb E)) (hg:Gl X y)(hy:Exc X.K X.mg y Dc sX newD)(uY:sX.contains (.type "BaseException")=true)(vc:∀C,Cs C->ClsAt X.K C/\takes X.K C Dc) (hh:∀ex,g9 (X.hand ex) (b0::pD) (th ex))(gZ:autoParam ((y==("__debug__":Str))=false) q8_._auto_1): WG X (.Try body [.ExceptHandler (some (.Name y np)) none (b0::pD) oQ] [] [] pos) (YF Cs tb th):=by
 intro s O H D I h;let(E,hq,xp,hth):=h;erw[wpAny_Try_except ?_];have ps:Ei (jt X.prog X.w) (X.kz λe s₁=>wpAny (model X.prog X.w) X.A (noteFrame e X.env) (λ_ s₂=>wpAny (model X.prog X.w) X.A (setFlight e none) (λ_ s₃=>wpAny (model X.prog X.w) X.A (handleBy e X.env [.ExceptHandler (some (.Name y np)) none (b0::pD) oQ]) (SP X [] D) X.xe s₃) X.xe s₂) X.xe s₁) E:=by
  intro Ir σ' H1 s1 ev s2 I1 hx;let(ex,cls,dx,H',B,rfl,ho,Up,qA,F,hE):=hx;let(C,rfl,hC):=xp σ' cls dx H' hE;have I0:Inv X [] σ' H1 s1:=I1.oa.acJ;let(Dj,g2,d2,t2,o2):=s2;have a9R:kU B (X.env::X.outer) ex (.ref C) dx .none Dj:=by rw[<-gp];erw[qA]
  have hA:X.A.frames=some (X.env::X.outer):=by rw[<-gp];erw[I0.ok.frames]
  erw[Se (s:=#[Dj,g2,d2,t2,o2]) hA hfr a9R λh4 Ds Y6=>?_];erw[DJ Ds λh5 Ae Y5=>?_];have F4:=F.step qA.1 Ds.1 Y6 qA.2.2.1;have ff4:h4.FunFrames B X.stack:=by rw[gp];erw[Ds.2.2.1]
  have F5:=F4.step Ds.1 Ae.1 Y5 ff4;have ff5:h5.FunFrames B X.stack:=by rw[gp];erw[Ae.2.2.1]
  have I5:Inv X [] σ' H' #[h5,g2,d2,t2,o2]:=I0.E9 (s':=#[h5,g2,d2,t2,o2]) ho F5.un F5.bp Up (λb hb=>(ck hb).elim);erw[wpAny_handleBy_cons (codeAny_handlers_test (sA (X:=X.hand ex) (I5.hand ex) hg hy.at' ?_ gZ)) (by intro q;cases q)];let(eC,tk):=vc C hC;let(nm,q,Nn,bs,tl,hdct,sn,sub,ab,col,dd,k0,k1,k2,k3,k5,nw,oC):=eC _ I5.fD;let(tl',Nn',Sk,q',W4,Uu,OD,Nx,Wx,VQ,p4,j0,j1,j2,j3,j5,mN',oD,agF,agr,TL'):=(hy.own I5.fD).obj;let(ob,hob,a7m,_):=Ae.there;have Ue:(Value.ref C::tl).contains (.ref Dc)=true:=by
   let(cd,ha,uZ):=Option.bind_eq_some_iff.mp tk;split at uZ
   ·cases uZ
   ·have hc:=dU uZ
    unfold PySem.W.clsIn at ha;split at ha
    ·rename_i c1 c2 cd' c4 hl
     cases ha;have e1:=I5.fD _ _ hl;rw[show(Shared.heap #[h5,g2,d2,t2,o2]).get? C=some _ from oC]at e1;have e2:=dU e1;unfold excClassObj at e2;injection e2 with _ _ e3 _;injection e3 with e4;rw[<-e4]at hc;erw[hc]
    ·cases ha
  erw[abh oC oD hob a7m (TL'.hasType uY) Ue ?_];erw[codeAny_handlers_suite ?_];erw[DJ (s:=#[h5,g2,d2,t2,o2]) Ae λh6 UY Y4=>?_];have F6:=F5.step Ae.1 UY.1 Y4 ff5;have Y9:Un (fj X.stack) [] H1 (upd H' ex (.ext (qP ex (.ref C) dx))) s1.heap h6:=by
   have nb:∀b u,H' b=some u->b≠ex:=λb u e z=>by rw[z,F6.ne]at e;cases e
   erw[F6.un.keep,F6.un.slot,λb o e n hx=>?_,F6.un.there,λb xs e=>?_,λb o u e=>?_,λb ps e=>?_]
   ·rw[aQ (λz=>by rw[z,F6.nw]at e;cases e)];erw[F6.un.free b o e n hx]
   ·have:=F6.un.lB b xs e;rw[aQ (nb b _ this)];erw[this]
   ·have:=F6.un.kP b o u e;rw[aQ (nb b _ this)];erw[this]
   ·let(more,e1):=F6.un.lC b ps e;erw[more,by rw[aQ (nb b _ e1)];erw[e1]]
  have a7j:dS X.prog X.w (upd H' ex (.ext (qP ex (.ref C) dx))) h6:=λb u e=>by
   by_cases xq:b=ex
   ·subst xq
    rw[bP]at e;cases e;let(o6,e6,c6):=UY.there;erw[#[o6,e6,c6],#[o6,e6],λg1 g3 #[o7,e7,c7] k=>#[o7,k o7 e7,c7]]
   ·rw[aQ xq]at e
    refine(F6.bp b u e).pF (λc v hc q=>q) (λc q=>?_) λc xs q=>?_
    ·rw[aQ (λz=>by rw[z,F6.ne]at q;cases q)];erw[q]
    ·rw[aQ (λz=>by rw[z,F6.ne]at q;cases q)];erw[q]
  have I6:Inv X [] σ' (upd H' ex (.ext (qP ex (.ref C) dx))) #[h6,g2,d2,t2,o2]:=I0.E9 (s':=#[h6,g2,d2,t2,o2]) ho Y9 a7j Up (λb hb=>(ck hb).elim);erw[ju (hh ex [] _ _ _ _ (I6.hand ex) (hth C ex dx σ' H' (I0.len.trans I.len.symm) hE F.ne)) (λf s8 q=>?_) λe s8 q=>False.elim q];cases f with |next=>let(σ2,H2,I8,dq):=q;erw[_,H2,I8.back I0.ok,dq] |brk=>let(σ2,H2,I8,dq):=q;erw[_,H2,I8.back I0.ok,dq] |cont=>let(σ2,H2,I8,dq):=q;erw[_,H2,I8.back I0.ok,dq] |ret u=>let(v,σ2,H2,I8,r8,dq):=q;erw[v,_,H2,I8.back I0.ok,r8,dq]
 erw[ju (hb E _ ps [] s O H D (I.kz _) hq) (λf s1 q=>?_) λe s1 q=>q];have q':=q.oa;cases f with |next=>erw[En q'] |brk=>erw[q'] |cont=>erw[q'] |ret u=>erw[q']
end
section
variable {K:aa} {H:Hp}
end
section
variable {prog:af}{w:World}{A:ah}{E:Value->ae->Prop}{s:ae}
theorem Zg{α:Type}{Q:α->ae->Prop}(hh:ph A s.heap) (h:∀g e,(∀b o,s.heap.get? b=some o->g.get? b=some o)->(∃o,g.get? e=some o/\o.cls= .type "StopIteration")->E (.ref e) {s with heap:=g}):wpAny (model prog w) A (newExc (.type "StopIteration") []>>=λe=>(raiseNew e:Sem α)) Q E s:=by
 let(ex,o,fs,h1,h2,h3,h4):=id hh;erw[aJ ?_];simp only[newExc,newTuple];erw[aJ (ko ?_ (by size_fits))];erw[aJ (m:=firstArgMember _ _) (tH (a:=Value.none) (by first|rfl|(simp only[firstArgMember];rfl)) ?_)];erw[ko ?_ (by size_fits)];have lt:ex<s.heap.objs.size:=bX h2;erw[Rf (hh:=#[ex,o,fs,h1,bZ _ (bZ _ h2),h3,h4]) (λfX z=>?_) (dD _ Z) Z (Ez Z) λg sb #[o',e',c']=>h g _ ?_ #[o',e',c']]
 ·rw[h1]at z
  cases z;erw[dI (bX (bZ _ h2))]
 ·intro b ob eb
  have e4:=bZ {cls:=.type "tuple",data:=.seq #[]} eb;exact(sb.2 b (dI (bX e4))).trans (bZ _ e4)
theorem a0R{it l:Addr}{Q:Option Value->ae->Prop}(hh:ph A s.heap)(hit:s.heap.IsRevIter it l (-1)) (hQ:∀h',(∀b o,s.heap.get? b=some o->h'.get? b=some o)->Q none {s with heap:=h'}):wpAny (model prog w) A (pyNext (.ref it)) Q E s:=by
 let(o,ho,hc,hd):=id hit;unfold pyNext;erw[aJ (wpAny_attempt (yb (name:=Str.ofString "__next__") hit.typeIs PySem.F.slot_lri_next (y9 PySem.F.slot_lri_next hit.typeIs PySem.F.entry_lri_next ?_ (PySem.F.args_lri_next_1 _))))];unfold Builtin.«list_reverseiterator.__next__»;erw[aJ (tH (a:=(Value.ref it,[])) Z ?_)]
 try dsimp only
 erw[aJ (ie ho hd (x:=rawInt (-1)) Z ?_)];show wpAny _ _ (if(-1:Int)<0 then _ else _) _ _ s;rw[bo aw];erw[aJ (xZ ?_)];erw[aJ (Zg (A:=A.in1) hh λg e xb ex=>?_)];erw[aJ (Em (T:="StopIteration") (b:=true) ex isSubtype_stop ?_)];erw[cg (hQ _ xb)]
def Eh(A:ah)(I l:Addr)(its:Array Value)(i:Nat)(s:ae):Prop:=AH I l its i s/\ph A s.heap
theorem a0b{ex:Addr}(hx:A.handled=some (.ref ex))(I l:Addr)(cj:l≠I)(hI:ex≠I)(its:Array Value): WalksS prog w A I [I,l,ex] [I] Eq its.size (λi v=>its[its.size-1-i]? =some v) (Eh A I l its) where
 sub:=λb hb=>bI.mpr (.inl (cn.mp hb))
 grefl:=λ_=>rfl
 gtrans:=λ_ _ _=>Eq.trans
 frame:=λi s h' tk x _ hk=>#[#[x.1.1,x.1.2.1.at λo e=>hk I (by simp) o e,x.1.2.2.at λo e=>hk l (by simp) o e],x.2.go λfX z o e=>by rw[hx]at z;cases z;erw[hk _ (by simp) o e]]
 item:=λi s Q E hi x hQ=>by
  have e:(its.size:Int)-1-(i:Int)=((its.size-1-i:Nat):Int):=by omega
  have hit:=x.1.2.1;rw[e]at hit;erw[wpAny_pyNext_rev_item hit x.1.2.2 (vR (i:=its.size-1-i) bB) λh' zT oO=>?_];erw[hQ _ {s with heap:=h'} (vR bB) #[#[hi,?_,x.1.2.2.at λo eo=>(oO.2 l cj).trans eo],x.2.go λfX z o e=>?_] #[λb o hb eo=>oO.extBut b o (λz=>hb (cn.mpr z)) eo,Z,Z,Z,bL _]]
  ·have e2:((its.size-1-i:Nat):Int)-1=(its.size:Int)-1-((i+1:Nat):Int):=by omega
   rw[<-e2];erw[zT]
  ·rw[hx]at z;cases z
   exact(oO.2 _ hI).trans e
 done:=λs Q E x hQ=>by have hit:=x.1.2.1;rw[show(its.size:Int)-1-(its.size:Int)=-1 by omega]at hit;erw[a0R x.2 hit λh' zX=>hQ {s with heap:=h'} #[λb o _ eo=>zX b o eo,Z,Z,Z,bL _]]
 self:=λ_ _ _ _ x hQ=>Mf x.1.2.1 hQ
theorem a0f{l ex:Addr}{Q:List Value->ae->Prop}(hh:A.handled=some (.ref ex))(cj:l≠I)(hex:ex≠I)(x:Eh A I l its 0 s)(hI:I<s.heap.objs.size)(hl:l<s.heap.objs.size)(hn:its.size<=sizeLine) (hQ:∀s' acc,Moved [I] Eq s s'->ItemsOf (λi v=>its[its.size-1-i]? =some v) acc its.size->Q acc.toList s'):wpAny (model prog w) A (collect (.ref I)) Q E s:=by
 have W:=a0b (prog:=prog) (w:=w) (A:=A.in1) hh I l cj hex its;have hT:∀{i s},Eh A I l its i s->s.TypeIs (.ref I) "list_reverseiterator":=λy=>y.1.2.1.typeIs;obtain⟨S,hS⟩:∃S,s.heap.objs.size=S:=#[_,Z];let nw:Obj:={cls:=.type "list",data:=.seq ([]:List Value).toArray};have A2:S≠I:=tP (hS▸hI);have Kk:S≠l:=tP (hS▸hl);have hSe:S≠ex:=by let(e,o,fs,h1,h2,_):=x.2;rw[hh]at h1;cases h1;erw[tP (hS▸bX h2)]
 have Kl:S∉[I,l,ex]:=by simp[A2,Kk,hSe]
 have sf:Builtin.List.listSameRef (.ref S) (.ref I)=false:=by simp[Builtin.List.listSameRef,A2]
 have y:=W.frame 0 s (s.heap.push nw) s.toks x (bL _) λb _ o e=>bZ _ e;have aS:(s.heap.push nw).get? S=some nw:=by rw[<-hS];erw[dD _ rfl]
 unfold collect;apply aJ;apply wpAny_runValue;apply AV F.entry_proto_collect;rw[EJ F.plain_proto_collect _];apply aJ (m:=newList []);erw[ko ?_];rw[hS];erw[cg #[Eo MP _,AV F.entry_list_iadd ?_]];rw[EJ MP _];show wpAny _ A.in1 (Builtin.List.listExtendWith (.ref S) (.ref I) (.ref S)) _ _ _;unfold Builtin.List.listExtendWith;apply aJ;apply El (hT y);rw[bj (by rw[sf];decide)];apply aJ;apply W.self 0 _ _ _ y;apply aJ;apply kX;unfold Builtin.List.listLengthHint;apply aJ;apply vF (hT y) QG;apply aJ (m:=specialOf (Value.ref I) (Str.ofString "__length_hint__"));apply vF (hT y) QH
 (generalize zV:("list_reverseiterator.__length_hint__":String)=z0;wp_delta;rw[show splitId z0=some ("list_reverseiterator","__length_hint__")from by subst zV;decide+kernel];subst zV);apply aJ;apply Em (b:=true) (hT y) (by rw[isSubtype_type];kernel_rfl);apply cg;rw[bj aw];erw[cg #[Eo F.plain_extend_loop _,codeAny_extend_loopS W hn _ Kl _ its.size 0 _ _ _ Z (fT _) y aS (ItemsOf.nil _) λs' LV c' hm nE lN=>?_]];apply aJ (m:=load S);apply wpAny_load nE;erw[cg (hQ s' LV (Moved.drop_new (o:=nw) (tk:=s.toks) (hS▸hm) (bL _)) lN)]
theorem a0d{I l ex:Addr}{its:Array Value}{zs:List Str}{sep:Str}{t:Tok}{Q:Value->ae->Prop}(hh:A.handled=some (.ref ex))(cj:l≠I)(hex:ex≠I)(x:Eh A I l its 0 s)(hI:I<s.heap.objs.size)(hl:l<s.heap.objs.size) (hz:StrsAre its.toList zs)(hn:its.size<=sizeLine)(bp:(zs.map (·.length)).sum+zs.length*sep.length<=16777216) (hQ:∀h' t' k,(∀b o,b≠I->s.heap.get? b=some o->h'.get? b=some o)->Q (.str (Txt.join sep zs.reverse) t') {s with heap:=h',toks:=k}): wpAny (model prog w) A (call (.builtin "str.join") [.str sep t,.ref I]) Q E s:=by
 have hT:s.TypeIs (.ref I) "list_reverseiterator":=x.1.2.1.typeIs;apply AS;erw[codeAny_call_builtin MO.plain F.entry_str_join (MO.check _ _ _ _ _ _ _ _ (yd _ _ _) (F.args_str_join_2 _ _) ?_)];rw[join_tree_other];erw[aJ (El hT ?_)];show wpAny _ A.in1 ((pyIter (.ref I)).tryCatch _>>=λit=>collect it>>=λvs=>PySem.joinTail sep vs) _ _ s;erw[aJ (wpAny_tryCatch (Mf x.1.2.1 ?_))];erw[aJ (a0f (A:=A.in1) hh cj hex x hI hl hn λs' acc hm lN=>?_)];have ea:acc.toList=its.toList.reverse:=by
  erw[yw λj=>?_];by_cases hj:j<its.size
  ·have h1:=lN.2 j _ (vR (by rw[lN.1];erw[hj]))
   rw[List.getElem?_reverse (by simpa using hj),ky,EI,EI];exact(vR (by rw[lN.1];erw[hj])).trans h1.symm
  ·exact(nZ (by rw[ky,lN.1];omega)).trans (nZ (by rw[MG,ky];omega)).symm
 let(ps,hv,ht):=strsAre_values hz;have ev:strValues ps.reverse=acc.toList:=by rw[ea,hv];unfold strValues;rw[B0]
 have et:(ps.reverse).map (·.1)=zs.reverse:=by rw[B0,ht]
 have ok:JoinOk sep (ps.reverse.map (·.1))=true:=joinOk_of (by rw[et,B0,List.sum_reverse,MG];erw[bp]);rw[<-ev];have pV:=(yy _).mp ok;have post:(Txt.join sep (ps.reverse.map (·.1))).length<=sizeLine/\∀t' k,Q (.str (Txt.join sep (ps.reverse.map (·.1))) t') {s' with toks:=k}:=by
  erw[joinFit_length pV,λt' k=>?_];rw[et];have e:({s' with toks:=k}:ae)={s with heap:=s'.heap,toks:=k}:=by rcases s' with⟨a,b,c,d,f⟩;have e1:_=b:=hm.gens;have e2:c=_:=hm.drawn;have e3:f=_:=hm.os;subst e1 e2 e3;rfl
  rw[e];erw[hQ _ t' k λb o hb eo=>hm.heap b o (λz=>hb (cn.mp z)) eo]
 erw[QF sep ps.reverse ok prog w A (wants Q E) s' (post_join ps.reverse post)]
end
section
variable {X:Cx}
def YV(ex:Addr)(K:aa)(to:TE)(t:TA):TE:=λO H Q=>to O H λx H1=>Br K "str" x H1/\t O H1 λvs H2=>WK K x vs H2 Q/\nU ex H2
theorem a24(ex:Addr)(K:aa)(h:X.K=K){o a:Expr}{to:TE}{t:TA}{apos bW p pos:Pos}(hg:Gl X "reversed")(hm:X.mg "reversed"=none)(ho:PE X o to)(ha:PA X [a] t)(hc:X.A.handled=some (.ref ex)) (iT:autoParam (attributeBase o "join" X.env (eval o X.env)=eval o X.env) r8_._auto_1) (iS:autoParam (((backTo bW (starEach [.Call (.Name "reversed" p) [a] [] pos] X.env)).all (λx=>!x.1)&&(backToKw bW (keywordEach [] X.env)).all (λx=>x.1.isSome) &&decide ([Expr.Call (.Name "reversed" p) [a] [] pos].length+([]:List Keyword).length+(if([]:List Keyword).isEmpty then 0 else 1)<30))=true) r8_._auto_1) (iR:autoParam ((apos.endLine==bW.line)=true) r8_._auto_1)(hs:autoParam (starEach [.Call (.Name "reversed" p) [a] [] pos] X.env=(false,eval (.Call (.Name "reversed" p) [a] [] pos) X.env)::starEach [] X.env) r8_._auto_1) (iQ:autoParam ((backTo bW (starEach [] X.env)).any (·.1)=false) r8_._auto_1)(JR:autoParam (starEach [a] X.env=[(false,eval a X.env)]) r8_._auto_1)(jm:autoParam (starEach [] X.env=[]) r8_._auto_1): PE X (.Call (.Attribute o "join" apos) [.Call (.Name "reversed" p) [a] [] pos] [] bW) (YV ex K to t):=by
 subst h;intro pins s O H Q I h;erw[WR iT iS iR Z (aZ (ho pins s O H _ I h) λv s1 #[x,H1,I1,r1,ty,q1]=>?_)];let(h1,h2):=EU I1 r1 ty;erw["str","str.join",yh,X4,X2,h1,h2,?_];rw[hs];erw[Xs (by show(false||(backTo bW (starEach [] X.env)).any (·.1))=false;rw[iQ]<;>rfl) (MQ ?_)];show wpAny _ _ (spliced ((false,eval (.Call (.Name "reversed" p) [a] [] pos) X.env)::backTo bW (starEach [] X.env))) _ _ s1;erw[Calls.spliced_cons ?_];erw[Call_ (qg I1 hg hm X9 (yi (aZ (ha pos pins s1 O H1 _ I1 q1) λus s2 #[vs,H2,I2,r2,q2]=>?_) (by rw[JR,jm]) (by rw[jm];rfl)))];let((sep,l,zs,rfl,rfl,hl,hz,hb,hn,q),hd):=q2;let(tk,rfl):=r1;let(u,rfl,ru):=vals1 r2;cases(show u=Value.ref l from ru);let(its,r,pl,_):=I2.list hl;have hlen:=r.length;rw[bV]at hlen;have zI:=Mh id 4000 zs hz;rw[List.map_id]at zI;have hle:zs.length*sep.length<=1000*8:=nX hn hb;erw[call_reversed_list pl.isList ?_];have fresh:=I2.bp.fresh (bL s2.heap.objs.size);have I3:Inv X pins O H2 {s2 with heap:=s2.heap.push (revObj l ((its.toArray.size:Int)-1))}:=I2.kept (t':=s2.toks) λb o e=>bZ _ e;let(f0,f1,f2,f3,f4,f5):=I2.qz (pins:=pins) (bL s2.heap.objs.size) fresh;erw[Calls.spliced_nil ?_];have cj:l≠s2.heap.objs.size:=λz=>by let(o,ho,_):=pl.isList;erw[absurd (bX ho) (by rw[z];erw[qS _])]
 have iy:=I2.Uv hc hd;have hxe:ex≠s2.heap.objs.size:=by let(e,o,fs,h1,h2,_):=iy;rw[hc]at h1;cases h1;erw[dI (bX h2)]
 have mx:l<s2.heap.objs.size:=by let(o,ho,_):=pl.isList;erw[bX ho]
 have cy:∀{b},b<=s2.heap.objs.size->b<(s2.heap.push (revObj l ((its.toArray.size:Int)-1))).objs.size:=λ{b} e=>by rw[qX];erw[Nat.lt_succ_of_le e]
 erw[a0d (ex:=ex) (its:=its.toArray) (zs:=zs) hc cj hxe #[#[fT _,#[_,dD _ Z,Z,by show Data.fields _=Data.fields _;simp],Heap.IsList.at pl.isList λo e=>bZ _ e],iy.go λ_ _ o e=>bZ _ e] (cy (bL _)) (cy (AZ mx)) (StrsAre.of_carried (E8 r)) (by rw[eF,<-hlen,qR];omega) bB λh' t' k kk=>?_];erw[.str _,H2,I3.turned (t':=k) kk f0 f1 f3 f4 f5,#[_,Z],q]
end
end _L
namespace _P
section
variable {n:Nat}{own IC:Nat->Rat}{L L':Nat->Option Nat}{r f:Int}
end
end _P
namespace _O
open _P _l _C _b
end _O
namespace _L
open PySem PySem.Spec PyProof.Rows
section
variable {prog:af}{w:World}{A:ah}{R:Result->ae->Prop}{s:ae}{elt tg iter tg2 agm:Expr}{scope:Scope}{pos:Pos}{it acc:Value}{env:Env}
end
section
variable {K:aa}
end
theorem hJ.nO{X:Cx}{st:Stmt}{rest:List Stmt}{t u:TS}(h1:PS X st t)(h2:hJ X rest u):hJ X (st::rest) (yG t u):=by intro s O H D I h;erw[Mg (ju (h1 [] s O H _ I h) (λf s1 q=>?_) λ_ _ x=>x)];cases f with |next=>let(σ',H',I',q'):=q;erw[h2 s1 σ' H' D I' q'] |brk=>erw[q] |cont=>erw[q] |ret v=>erw[q]
section
variable {X:Cx}{i:Nat}{n y:Str}{Dc:Addr}{sX:List Value}{newD:String}{body pD:List Stmt}{b0:Stmt}{np oQ pos:Pos}{tb:XK->TS}{th:TS}{Cs:Addr->Prop}
end
section
variable {X:Cx}{i:Nat}{n y:Str}{Dc:Addr}{sX:List Value}{newD:String}{body pD:List Stmt}{b0:Stmt}{np oQ pos:Pos}{tb:(St->XK)->TS}{th:TS}{Cs:Addr->Prop}
end
section
variable {X:Cx}{i:Nat}{n y:Str}{Dc:Addr}{sX:List Value}{newD:String}{body pD:List Stmt}{b0:Stmt}{np oQ pos:Pos}{tb:(St->XK)->TS}{th:Addr->TS}{Cs:Addr->Prop}
end
section
variable {X:Cx}{k:Nat}{m:Str}{C:Addr}{pos apos:Pos}{o e:Expr}{es:List Expr}{t:TA}{ta:TE}{sp:Sp}{E:St->XK}
theorem Iy{pl:Sem Bool}(F:hU X.prog X.w X.K X.mg X.au C m k sp)(hp:Ei (jt X.prog X.w) X E)(c:hV X.K C)(hr:cI k X.A)(he:PE X o ta)(ha:PA X (e::es) t) (gp:autoParam (starEach (e::es) X.env=(false,eval e X.env)::starEach es X.env) r8_._auto_1)(eg:autoParam ((backTo pos (starEach es X.env)).any (·.1)=false) r8_._auto_1) (ht:eval (.Call (.Attribute o m apos) (e::es) [] pos) X.env=(do
 let ov<-eval o X.env
 standAt apos.atName
 let(f,first)<-holding [ov] (getMethod ov m pl)
 callWith pos f first (backTo pos (starEach (e::es) X.env)) (backToKw pos (keywordEach [] X.env))):=by rfl): PE X (.Call (.Attribute o m apos) (e::es) [] pos) (λO H Q=>ta O H λx H1=>M9 C m sp (E O) t O Q x H1):=by
 let(f,fd,ps,F,hm,hb):=F;intro pins s O H Q I h;erw[Eu (pl:=pl) (aZ (he pins s O H _ I h) λu s1 #[x,H1,I1,rx,a,dx,fs,ex,ea,l,q]=>?_) ht];subst ex;obtain rfl:u=Value.ref a:=rx;erw[Ac I1 ea c hm l ?_];erw[vJ (h₀:=X.au) (first:=[.ref a]) I1.ok.mod.lJ hm.kp (aZ (ha pos pins s1 O H1 _ I1 q) λus s2 #[vs,H2,I2,r,q2]=>#[I2.fD,?_]) gp eg];erw[a0i (us:=.ref a::us) (vs:=.ref a::vs) (dvs:=[]) (ds:=[]) F hr hb .nil hp I2 (.cons Z r) (by rw[qU];erw[q2])]
end
end _L
namespace _a
open PySem PySem.Spec PyProof.Rows _L _l _r _C _P _W _R
open _O (topR cornO mnO betR atO ownF leadF ownL OkI OkIs)
open _O (Itm)
open _T (numS)
def top(i:Nat):Stmt:=PySem.Challenge.pw_glidequeue_k58_whole_rows_at_two_desks.main.body.getD i (.Pass #[0,0,0,0])
abbrev FO:Stmt:=top 107
abbrev Ho:Stmt:=top 106
abbrev Hl:Stmt:=top 45
abbrev GR:Stmt:=top 12
abbrev GH:Stmt:=top 47
abbrev GJ:Stmt:=top 44
abbrev GB:Stmt:=top 40
abbrev FK:Stmt:=top 41
abbrev GF:Stmt:=top 42
abbrev GG:Stmt:=top 43
abbrev Hd:Stmt:=top 38
abbrev GQ:Stmt:=top 30
def jN:Str:="abcdefghijklmnopqrstuvwxyz"
abbrev FF:Stmt:=top 48
abbrev FG:Stmt:=top 13
abbrev FH:Stmt:=top 58
abbrev Hk:Stmt:=top 55
abbrev GP:Stmt:=top 57
abbrev FJ:Stmt:=top 56
abbrev Hm:Stmt:=top 61
abbrev Gr:Stmt:=top 60
abbrev Gq:Stmt:=top 39
abbrev Hf:Stmt:=top 64
abbrev Gp:Stmt:=top 109
abbrev Gw:Stmt:=top 51
abbrev FR:Stmt:=top 49
abbrev G3:Stmt:=top 50
abbrev Hh:Stmt:=top 67
abbrev FL:Stmt:=top 66
abbrev Hg:Stmt:=top 68
abbrev G5:Stmt:=top 73
abbrev GW:Stmt:=top 35
abbrev GS:Stmt:=top 34
abbrev Hr:Stmt:=top 33
abbrev GY:Stmt:=top 29
abbrev GU:Stmt:=top 20
abbrev Gz:Stmt:=top 32
abbrev Hn:Stmt:=top 31
structure fm(K:aa)(C:Addr):Prop where
 cl:hV K C
 m9:iV K C "machine"
 uL:iV K C "begun_at"
 oF:iV K C "done"
 jl:iV K C "queue"
 uK:iV K C "pace"
 CC:iV K C "rate_now"
 Sx:iV K C "side"
 Sy:iV K C "mark"
 uJ:iV K C "stopping"
abbrev Gh:Stmt:=inClass (top 72) 8
abbrev G9:Stmt:=inClass (top 72) 9
abbrev Gg:Stmt:=inClass (top 72) 10
abbrev Ga:Stmt:=inClass (top 72) 1
abbrev Gd:Stmt:=inClass (top 72) 2
abbrev Ge:Stmt:=inClass (top 72) 0
abbrev Gi:Stmt:=inClass (top 72) 11
abbrev Gm:Stmt:=inClass (top 72) 16
abbrev Gb:Stmt:=inClass (top 72) 15
abbrev G8:Stmt:=inClass (top 72) 14
abbrev Gj:Stmt:=inClass (top 72) 13
abbrev Gk:Stmt:=inClass (top 72) 12
abbrev G7:Stmt:=inClass (top 72) 17
abbrev Gf:Stmt:=inClass (top 72) 18
abbrev C1:Stmt:=inClass (top 72) 19
abbrev Gn:Stmt:=inClass (top 72) 20
abbrev G6:Stmt:=inClass (top 72) 21
abbrev C0:Stmt:=top 78
def xB:Str:="0123456789"
abbrev FP:Stmt:=top 87
abbrev Gy:Stmt:=top 86
abbrev Gv:Stmt:=top 85
abbrev GO:Stmt:=top 84
abbrev FZ:Stmt:=top 79
abbrev G0:Stmt:=top 81
abbrev G1:Stmt:=top 80
abbrev GK:Stmt:=top 114
abbrev G2:Stmt:=top 83
abbrev GC:Stmt:=top 108
abbrev Gx:Stmt:=top 110
abbrev GN:Stmt:=top 111
abbrev Hu:Stmt:=top 91
abbrev C2:Stmt:=top 92
abbrev Hv:Stmt:=top 93
abbrev Ht:Stmt:=top 94
abbrev Hq:Stmt:=top 101
abbrev Hs:Stmt:=top 21
abbrev GX:Stmt:=top 19
structure iU where
 n:Addr
 o:Addr
 f:Addr
 m:Addr
 r:Addr
structure lU(K:aa)(D:Addr):Prop where
 cl:hV K D
 m9:iV K D "machine"
 rY:iV K D "runner"
abbrev Hj:Stmt:=inClass (top 103) 0
abbrev Gs:Stmt:=top 104
abbrev FW:Stmt:=inClass (top 103) 3
abbrev FX:Stmt:=inClass (top 103) 4
abbrev FU:Stmt:=inClass (top 103) 2
abbrev BZ:Stmt:=inClass (top 103) 1
abbrev Hc:Stmt:=top 112
abbrev FN:Stmt:=top 113
abbrev FQ:Stmt:=top 116
abbrev G4:Stmt:=top 117
abbrev FY:Stmt:=top 118
abbrev Gu:Stmt:=top 119
abbrev FV:Stmt:=top 120
abbrev GI:Stmt:=top 121
abbrev He:Stmt:=top 122
abbrev FI:Stmt:=top 123
abbrev Hi:Stmt:=top 124
abbrev GZ:Stmt:=top 125
abbrev FT:Stmt:=top 126
def Fs(K:aa):Sp:=λvs H Q _=>∃(a:Addr)(ns:List Int),vs=[.ref a]/\aD K H a (ns.map V.int)/\ns.length<=63/\∀H',Q (.bl true) H'
abbrev we:Stmt:=top 127
structure WC(K:aa)(mg:bO)(R:iU):Prop where
 f:Exc K mg "Full" R.f jM lH
 m:Exc K mg "Moving" R.m jM lH
 r:Exc K mg "NoRate" R.r jM lH
 tf:takes K R.f R.f
 tm:takes K R.m R.m
structure WM(K:aa)(mg:bO)(C D:Addr):Prop where
 tc:fm K C
 init:CA K mg C "Runner" "Runner.__init__" Ge
 a5u:MA K C "place" "Runner.place" Ga
 a5w:MA K C "leads_to" "Runner.leads_to" Gd
 a5x:MA K C "is_held" "Runner.is_held" Gh
 a5t:MA K C "stands" "Runner.stands" G9
 a5y:MA K C "is_halted" "Runner.is_halted" Gg
 a5A:MA K C "feed" "Runner.feed" Gi
 a5C:MA K C "entries" "Runner.entries" Gk
 a5B:MA K C "entries_of_first" "Runner.entries_of_first" Gj
 a5s:MA K C "steps_of_first" "Runner.steps_of_first" G8
 a5v:MA K C "next_square" "Runner.next_square" Gb
 a5D:MA K C "end_first" "Runner.end_first" Gm
 a5r:MA K C "stops_in" "Runner.stops_in" G7
 a5z:MA K C "hold" "Runner.hold" Gf
 SN:MA K C "go" "Runner.go" C1
 a5E:MA K C "drop" "Runner.drop" Gn
 a5q:MA K C "turn_rate" "Runner.turn_rate" G6
 td:lU K D
 abT:CA K mg D "Desk" "Desk.__init__" Hj
 say:MA K D "say" "Desk.say" BZ
 ZZ:MA K D "say_steps" "Desk.say_steps" FW
 a00:MA K D "say_rate" "Desk.say_rate" FX
 ZY:MA K D "say_to" "Desk.say_to" FU
structure All(w:World)(K:aa)(mg:bO):Prop where
 B:bK mg
 DB:GT K mg "NOUGHT" [.int 0,.int 1]
 a9r:GT K mg "SIDES" [.str "up",.str "down"]
 a9H:GT K mg "AXES" [.int 2,.int 3]
 UO:GV mg "PART" (.int 10000000000000000000000000000000000000000000000000000000000000000)
 a9s:GV mg "PART_FIGURES" (.int 64)
 a9z:GV mg "LONGEST_RAIL" (.int 100)
 a9E:GV mg "GREATEST_CHANGE" (.int 50)
 a9v:GV mg "MOST_TICKS" (.int 100)
 a9w:GV mg "MOST_STEPS" (.int 100)
 UP:GV mg "GREATEST_SPEED" (.int 20)
 a9y:GV mg "LONGEST_WAIT" (.int 1000)
 a9A:GV mg "LONGEST_NAME" (.int 8)
 a9C:GV mg "LEAST_RATE" (.int 10)
 a9D:GV mg "GREATEST_RATE" (.int 200)
 a9F:GV mg "FIRST_RATE" (.int 100)
 a9u:GV mg "MOST_WAITING" (.int 20)
 a9x:GV mg "MOST_ENTRIES" (.int 100)
 a9B:GV mg "LETTERS" (.str jN)
 a9G:GV mg "FIGURES" (.str xB)
 a9t:GV mg "NOTHING" (.str "none")
 ans:∃a,GD w K mg "ANSWERS" a/\PySem.W.nsIn K a "place"=some (mg "answer_place")/\PySem.W.nsIn K a "state"=some (mg "answer_state")/\PySem.W.nsIn K a "hold"=some (mg "answer_hold")/\PySem.W.nsIn K a "go"=some (mg "answer_go")/\PySem.W.nsIn K a "drop"=some (mg "answer_drop")/\(∃v,PySem.W.nsIn K a "tool"=some (some v))/\(∃v,PySem.W.nsIn K a "mark"=some (some v))/\PySem.W.nsIn K a "line"=some none/\PySem.W.nsIn K a "wait"=some none/\PySem.W.nsIn K a "steps"=some none/\PySem.W.nsIn K a "rate"=some none/\PySem.W.nsIn K a "to"=some none
 cls:∃R,WC K mg R
 dk:∃C D,WM K mg C D
 law:FA K mg "law" we
 aax:FA K mg "is_whole" GR
 aaw:FA K mg "is_whole_within" FG
 aaC:FA K mg "is_machine" GX
 aaA:FA K mg "is_place" GU
 aaL:FA K mg "are_rails" Hs
 aaE:FA K mg "is_item" GY
 V0:FA K mg "is_line" GQ
 aaj:FA K mg "place_behind" Hn
 aap:FA K mg "moved" Gz
 aaK:FA K mg "are_steps" Hr
 aay:FA K mg "is_short_item" GS
 aaB:FA K mg "is_name" GW
 aaG:FA K mg "fraction" Hd
 aai:FA K mg "plus_whole" Gq
 aaq:FA K mg "minus" GB
 aa7:FA K mg "times" FK
 aaD:FA K mg "is_less" GF
 aas:FA K mg "least" GG
 aar:FA K mg "lowest_terms" GJ
 aaI:FA K mg "common_divisor" Hl
 aat:FA K mg "lead_of" GH
 aa5:FA K mg "ways_of" FF
 aab:FA K mg "stand_at" FR
 aa9:FA K mg "step_rows" G3
 aao:FA K mg "nearest" Gw
 aaH:FA K mg "corner_square" Hk
 aa6:FA K mg "top_square" FJ
 aaz:FA K mg "is_rate" GP
 aaF:FA K mg "greatest_turn" FH
 aak:FA K mg "own_bounds" Gr
 aaJ:FA K mg "bound_between" Hm
 aau:FA K mg "kept_by_fall" Hf
 aa8:FA K mg "ticks_of" FL
 aaM:FA K mg "are_enough" Hh
 aaa:FA K mg "step_entry" Hg
 aah:FA K mg "reach_behind_first" G5
 aaf:FA K mg "show_fraction" G1
 UZ:FA K mg "show_number" C0
 aad:FA K mg "show_numbers" FZ
 aae:FA K mg "show_item" G0
 aag:FA K mg "show_entry" G2
 aav:FA K mg "item_in" GO
 aam:FA K mg "numbers_in" Gv
 aac:FA K mg "size_of" FP
 aan:FA K mg "number_in" Gy
 aaP:FA K mg "answer_hold" Hu
 V1:FA K mg "answer_go" C2
 aaQ:FA K mg "answer_drop" Hv
 aaO:FA K mg "answer_place" Ht
 aaN:FA K mg "answer_state" Hq
 aal:FA K mg "only_number" Gs
 aba:FA K mg "_law_bag" Ho
 aaT:FA K mg "_law_take" FO
 ab2:FA K mg "_law_machine" GC
 aaZ:FA K mg "_law_place" Gp
 ab1:FA K mg "_law_name" Gx
 ab6:FA K mg "_law_item" GN
 ab3:FA K mg "_law_line_from" Hc
 ab5:FA K mg "_law_item_text" GK
 aaS:FA K mg "_law_there" FN
 aaW:FA K mg "_law_stand" FQ
 ab4:FA K mg "_law_leads" GI
 aaY:FA K mg "_law_read_step" G4
 aaV:FA K mg "_law_step_right" FY
 ab0:FA K mg "_law_one_told" Gu
 aaU:FA K mg "_law_steps_told" FV
 ab8:FA K mg "_law_fed" He
 aaR:FA K mg "_law_turned" FI
 ab9:FA K mg "_law_dropped" Hi
 ab7:FA K mg "_law_held" GZ
 aaX:FA K mg "_law_said" FT
def AG(K:aa)(P:af)(w:World)(mg:bO)(au:Heap):Prop:=∀(f:Addr)(fd:FuncData),All w K mg->kT K "law" "law" we f fd->eR P w K mg au iX 18 f fd ["_law_script"] (Fs K)
theorem neW:Nonempty (aa×af×World×(bO)×Heap):=#[default,default,#[λ_ _=>0,{strHash:=λ_=>0,shareClass:=λa=>a,mergeTok:=id,idOf:=λ_=>0,idOfShared:=λ_ _=>0,followText:=λ_=>false,idOfImm:=λ_=>0}],λ_=>none,default]
@[irreducible] noncomputable def KP:aa×af×World×(bO)×Heap:=@Classical.epsilon _ neW λx=>¬AG x.1 x.2.1 x.2.2.1 x.2.2.2.1 x.2.2.2.2
@[irreducible] noncomputable def K:aa:=KP.1
@[irreducible] noncomputable def P:af:=KP.2.1
@[irreducible] noncomputable def w:World:=KP.2.2.1
@[irreducible] noncomputable def mg:bO:=KP.2.2.2.1
@[irreducible] noncomputable def au:Heap:=KP.2.2.2.2
theorem Yz(h:AG K P w mg au)(K':aa)(P':af)(w':World)(SJ:bO)(We:Heap):AG K' P' w' SJ We:=Classical.byContradiction λn=>by have e:=Classical.epsilon_spec (p:=λx:aa×af×World×(bO)×Heap=>¬AG x.1 x.2.1 x.2.2.1 x.2.2.2.1 x.2.2.2.2) #[(K',P',w',SJ,We),n];unfold K P w mg au KP at h;erw[e h]
end _a
namespace _a
open PySem PySem.Spec PyProof.Rows _L
section
inductive adK(vs:List V)(H:Hp)(Q:VK):Prop |mk (p:_)(many:_)(h0:vs=[.ref p,.int many])(h1:fN H p)(h2:1<=many)(h3:many<=10^40)(h4:∀d H',0<=d->d<many->bJ p H H'->Q (.int d) H')
def lZ:Sp:=λvs H Q _=>adK vs H Q
theorem OY:bu ["_law_bag_here","_law_many","_law_digit","_law_number","_law_room"] ["_law_bag_here","_law_many"] (aW FO):=bF aG
theorem a2F(F:FA K mg "_law_take" FO)(B:bK mg):aF P w K mg au "_law_take" 1 lZ:=by
 exists F.has,OY,dN λ_ _=>rfl
 ·let(p,many,rfl,(c,m,hp,ok),h1,h2,k):=h
  let(c0,m0,m1):=id ok;have nd:=OY.nd;erw[_,(aB (bN (bS oz (px K (pv 0) az) az (bA _)) (aB (pS 2 nd (aP rM (px K (pv 0) az) (pv 1))) (aB (fu (aP uE (px K (pv 0) az) (pv 1)) (zi (pv 0) az set_list)) (aI (aV (pv 2))))) bQ) (aB (pS 3 nd az) (aB (pS 4 nd az) (aB (rK iZ (bS jD (pv 4) (pv 1) (bA _)) (aB (fu (aP rM (aP Ck (aP dw (aP cw (px K (pv 0) az) az) az) az) az) (zi (pv 0) az set_list)) (aB (pS 3 nd (aP dw (aP cw (pv 3) az) (aP rM (aP cw (aP uE (px K (pv 0) az) az) az) az))) (aI (pS 4 nd (aP cw (pv 4) az)))))) (aI (aV (aP rM (pv 3) (pv 1)))))))),?_];erw[_,Z,.inl #[p,_,0,.int c,Z,Z,aD.of hp,Z,_,_,Z,Z,_,Z,?_]];erw[fR (λhc=>?_) (λ_=>?_)]
  ·erw[_,Z,.inl #[p,_,0,.int c,Z,Z,aD.of hp,Z,_,Z,_,_,Z,Z,h1,?_]]
   erw[_,Z,.inl #[p,_,0,.int c,Z,Z,aD.of hp,Z,_,Z,_,_,Z,Z,#[h1,MX ao h2],?_]];erw[_,Z,p,_,0,0,Z,Z,hp,Z,?_];erw[_,Z,?_];erw[k _ _ (tT _ ao) (vQ _ ao) (bJ.upd #[Int.ediv_nonneg c0 ao,m0,m1])]
  ·erw[qY (λO H2=>∃(v:Option V)(n r:Int),O=[some (.ref p),some (.int many),v,some (.int n),some (.int r)]/\bJ p H H2/\1<=r) (λO _=>match O with|[_,_,_,_,some (.int r)]=>(many-r).toNat|_=>0) ?_ ?_ ?_]
   ·erw[none,0,1,Z,.refl #[c,m,hp,ok],eJ _]
   ·rintro O H2 ⟨v,n,r,rfl,bx,Dh⟩
    let(c',m',Dk,c0',m0',m1'):=id bx.bC;erw[_,Z,_,Z,_,_,Z,Z,_,Z,?_];erw[fR (λhc=>?_) (λhc=>?_)]
    ·have cy:r<many:=iY hc
     erw[_,Z,.inl #[p,_,1,.int m',Z,Z,aD.of Dk,Z,_,_,Z,Z,.of_right (dh aw aw),_,_,Z,Z,_,_,Z,Z,#[aw,aw,?_],_,_,Z,Z,(by show(0:Int)<2147483629;decide),?_]]
     ·have qy:(2:Nat)^64=18446744073709551616:=by decide
      rw[qy];lia
     erw[_,Z,p,_,1,1,Z,Z,Dk,Z,?_];have g0:0<=((m'*48271+7919)^(3:Int).toNat)%2147483629:=tT _ aw;have g1:((m'*48271+7919)^(3:Int).toNat)%2147483629<2147483629:=vQ _ aw;have bx2:bJ p H (_L.upd H2 p (.lst [.int c',.int (((m'*48271+7919)^(3:Int).toNat)%2147483629)])):=bx.trans (.upd #[c0',g0,Int.lt_trans g1 aw]);erw[_,Z,_,_,Z,Z,.of_right (dh aw aw),_,Z,.inl #[p,_,1,.int _,Z,Z,aD.of bP,Z,_,_,Z,Z,#[aw,MX aw aw],_,_,Z,Z,.of_right (dh aw aw),_,_,Z,Z,(by show(0:Int)<1073741789;decide),_,_,Z,Z,?_]];erw[_,Z,_,_,Z,Z,.of_right (dh aw aw),?_];erw[#[v,_,_,Z,bx2,?_],?_]
     ·lia
     ·show(many-r*1073741789).toNat<(many-r).toNat
      lia
    ·erw[_,Z,_,Z,_,_,Z,Z,h1,?_]
     erw[k _ _ (tT _ ao) (vQ _ ao) bx]
   ·rintro O H2 Q1 Q2 hq ⟨v1,e1,v2,e2,i,j,e3,e4,kk,e5,q⟩
    erw[v1,e1,v2,e2,i,j,e3,e4,kk,e5,hq _ _ q]
end
section
inductive aeU(K:aa)(vs:List V)(H:Hp)(Q:VK):Prop |mk (a:Addr)(ns:List Int)(at':Int)(h0:vs=[.ref a,.int at'])(h1:aD K H a (ns.map V.int))(h2:ns.length<=63)(h3:0<=at')(h4:at'<=100)(h5:∀p H',H p=none->fN H' p->aE H H'->Q (.ref p) H')
def OB(K:aa):Sp:=λvs H Q _=>aeU K vs H Q
theorem Qt:bu ["_law_script","_law_at","_law_cell","_law_mix","_law_k"] ["_law_script","_law_at"] (aW Ho):=bF aG
theorem TR{ns:List Int}{j:Nat}(h:j<ns.length):∃z,fk (ns.map V.int) (j:Int)=some (.int z):=#[ns[j],acP (by simp[h])]
theorem a3Z(F:FA K mg "_law_bag" Ho)(B:bK mg):aF P w K mg au "_law_bag" 1 (OB K):=by
 exists F.has,Qt,dN λ_ _=>rfl
 ·let(a,ns,at',rfl,hS,hlen,h0,h1,k):=h
  obtain⟨j,rfl⟩:∃j:Nat,at'=(j:Int):=#[at'.toNat,ao];have nd:=Qt.nd;erw[_,(aB (pS 2 nd az) (aB (ij (bN (bS jD (pv 1) (dZ K B (ak (pv 0) ay)) (bA _)) (aI (pS 2 nd (fg (x:="abs") nP Z (B.at "abs") pk (ak (px K (pv 0) (pv 1)) ay)))) bQ)) (aB (pS 3 nd (aP dw (aP dw (aP cw (aP cw az (pv 1)) (pv 1)) (aP cw az (pv 1))) az)) (aB (m6 iZ Z (uz Z (B.at "range") (ak (fg (x:="min") (W0 rfl) rfl (B.at "min") PyProof.Rows.boot_min (ak (dZ K B (ak (pv 0) ay)) (ak az ay))) ay)) (bh 4 nd) (aI (pS 3 nd (aP rM (aP Ck (aP dw (aP dw (aP cw (pv 3) az) (aP rM (px K (pv 0) (pv 4)) az)) (aP cw (pv 4) (pv 4))) az) az)))) (aB (ij (bN (bS jD (pv 2) (aP Ck az az) (bA _)) (aI (pS 2 nd az)) bQ)) (aI (aV (fc (ak (pv 2) (ak (pv 3) ay)))))))))),?_];erw[λO H'=>H'=H/\∃c:Int,O=[some (.ref a),some (.int (j:Int)),some (.int c),none,none]/\0<=c,?_,?_]
  ·erw[_,Z,_,Z,a,_,Z,.inl hS,_,_,Z,Z,_,Z,?_]
   erw[fR (λhc=>?_) (λ_=>?_)]
   ·have hj:(j:Int)<((ns.map V.int).length:Int):=iY hc
    rw[bV]at hj;let(z,hz):=TR (ns:=ns) (j:=j) ao;erw[_,Z,_,Z,.inl #[a,_,_,_,Z,Z,hS,hz,z,Z,?_]];erw[Z,_,Z,by split<;>lia]
   ·erw[Z,0,Z,eJ _]
  rintro O H' ⟨rfl,c,rfl,c0⟩;erw[_,Z,_,_,Z,Z,.of_left (dh aw aw),_,Z,_,_,Z,Z,.of_right (dh ao ao),_,Z,_,_,Z,Z,.of_left (dh aw aw),_,_,Z,Z,_,_,Z,Z,?_];erw[_,Z,a,_,Z,.inl hS,_,_,Z,_,Z,?_,?_,?_]
  ·split<;>lia
  ·split<;>(try rw[bV])<;>lia
  erw[DG (Pv:=λi O H2=>H2=H'/\∃(m:Int)(v:Option V),O=[some (.ref a),some (.int (j:Int)),some (.int c),some (.int m),v]/\0<=m/\m<2147483648) ?_ ?_ ?_]
  ·erw[Z,_,none,Z,?_,?_]
   ·have:(0:Int)<=(j:Int)*(j:Int):=iJ ao ao
    rw[tS];lia
   ·have:(j:Int)*(j:Int)<=100*100:=tR ao ao ao ao
    rw[tS];lia
  ·rintro i O H2 hi ⟨rfl,m,v,rfl,m0,m1⟩
   have zW:i<ns.length:=by rw[bV]at hi;split at hi<;>lia
   let(z,hz):=TR (ns:=ns) (j:=i) zW;rw[<-Int.zero_add (i:Int)]at hz;have U0:0<=z%2147483647:=tT _ aw;have hz1:z%2147483647<2147483647:=vQ _ aw;have a7M:(0:Int)<=(0+(i:Int))*(0+(i:Int)):=iJ ao ao;have hii:(0+(i:Int))*(0+(i:Int))<=100*100:=tR ao ao ao ao;erw[_,Z,_,_,Z,Z,.of_right (dh aw aw),_,Z,_,Z,.inl #[a,_,_,_,Z,Z,hS,hz,_,_,Z,Z,(by show(0:Int)<2147483647;decide),_,_,Z,Z,_,Z,_,Z,_,_,Z,Z,.of_right (dh ao ao),_,_,Z,Z,_,_,Z,Z,#[aw,aw,?_],_,_,Z,Z,(by show(0:Int)<2147483629;decide),?_]]
   ·have qy:(2:Nat)^64=18446744073709551616:=by decide
    rw[qy];generalize(0+(i:Int))*(0+(i:Int))=ii at a7M hii⊢;generalize z%2147483647=zz at U0 hz1⊢
    lia
   ·erw[Z,_,_,Z,tT _ aw,Int.lt_trans (vQ _ aw) aw]
  ·rintro O H2 ⟨rfl,m,v,rfl,m0,m1⟩
   erw[λO H3=>H3=H2/\∃c:Int,O=[some (.ref a),some (.int (j:Int)),some (.int c),some (.int m),v]/\0<=c,?_,?_]
   ·erw[_,Z,_,_,Z,Z,#[aw,aw,aw],_,_,Z,Z,_,Z,?_]
    erw[fR (λhc=>?_) (λ_=>?_)]
    ·erw[Z,0,Z,eJ _]
    ·erw[Z,c,Z,c0]
   rintro O H3 ⟨rfl,c,rfl,c0⟩;erw[_,Z,_,Z,(by show 2<=sizeLine;decide),λp H4 nw=>?_];erw[k p H4 nw.no #[c,m,nw.at',c0,m0,m1] nw.same]
inductive aeO(vs:List V)(H:Hp)(Q:VK):Prop |mk (a:Int)(b:Int)(h0:vs=[.int a,.int b])(h1:Q (.int (Int.gcd a b)) H)
def Fv:Sp:=λvs H Q _=>aeO vs H Q
end
section
inductive aes(vs:List V)(H:Hp)(Q:VK):Prop |mk (a:Int)(b:Int)(h0:vs=[.int a,.int b])(h1:b≠0)(h2:Wd b)(h3:∀t H',Nw H H' t (.tup [.int (_A.lowP a b),.int (_A.gY a b)])->Q (.ref t) H')
def yP:Sp:=λvs H Q _=>aes vs H Q
end
section
def zF(T:String):Bool:=jU T "int"&& !jU T "bool"
inductive aeC(K:aa)(vs:List V)(H:Hp)(Q:VK):Prop |mk (v:_)(T:_)(h0:vs=[v])(h1:vt K H v T)(h2:Q (.bl (zF T)) H)
def BR(K:aa):Sp:=λvs H Q _=>aeC K vs H Q
theorem Qq:bu ["p","q","high","low"] ["p","q"] (aW Hl):=bF aG
theorem a3W(F:FA K mg "common_divisor" Hl)(B:bK mg):aF P w K mg au "common_divisor" 1 Fv:=by
 exists F.has,Qq,dN λ_ _=>rfl
 ·let(a,b,rfl,k):=h
  have nd:=Qq.nd;erw[_,(aB (Iq (i:=2) (j:=3) Z nd Z Z aw Z Z (ak (fg (x:="abs") nP Z (B.at "abs") pk (ak (pv 0) ay)) (ak (fg (x:="abs") nP rfl (B.at "abs") pk (ak (pv 1) ay)) ay)) rfl) (aB (rK iZ (bS (mW K Z hr.units) (pv 3) az (bA _)) (aI (Iq (i:=2) (j:=3) Z nd Z Z aw Z Z (ak (pv 3) (ak (aP rM (pv 2) (pv 3)) ay)) Z))) (aI (aV (pv 2))))),?_];erw[_,Z,_,Z,_,Z,_,Z,_,_,Z,?_];erw[qY (λO H2=>H2=H/\∃(x y:Int),O=[some (.int a),some (.int b),some (.int x),some (.int y)]/\0<=x/\0<=y/\Int.gcd x y=Int.gcd a b) (λO _=>match O with|[_,_,_,some (.int y)]=>y.natAbs|_=>0) ?_ ?_ ?_]
  ·erw[Z,_,_,Z,by split<;>lia,by split<;>lia,?_]
   have h1:(if a<0 then-a else a).natAbs=a.natAbs:=by split<;>lia
   have h2:(if b<0 then-b else b).natAbs=b.natAbs:=by split<;>lia
   unfold Int.gcd;rw[h1,h2]
  ·rintro O H2 ⟨rfl,x,y,rfl,x0,y0,e⟩
   erw[_,Z,.inl #[_,_,Z,Z,_,Z,?_]];erw[fR (λhc=>?_) (λhc=>?_)]
   ·have hy:y≠0:=by simpa using hc
    have uS:0<y:=by lia
    erw[_,Z,_,Z,_,Z,_,_,Z,Z,uS,_,_,Z,?_];erw[#[Z,_,_,Z,y0,tT _ hy,(_A.a9p uS).trans e],?_];show(x%y).natAbs<y.natAbs;have:=tT x hy;have:=vQ x uS
    lia
   ·have hy:y=0:=by simpa using hc
    subst hy;erw[_,Z,?_];rw[Int.gcd_zero_right]at e;have e2:x=((Int.gcd a b:Nat):Int):=by lia
    rw[e2];erw[k]
  ·rintro O H2 Q1 Q2 hq ⟨v1,e1,h⟩
   erw[v1,e1,?_];rcases h with⟨i,j,e3,e4,kk,e5,q⟩|⟨d,e,r1,r2,s1,s2,kk,e5,q⟩
   ·erw[.inl #[i,j,e3,e4,kk,e5,hq _ _ q]]
   ·erw[.inr #[d,e,r1,r2,s1,s2,kk,e5,hq _ _ q]]
end
section
theorem Qa:bu ["thing"] ["thing"] (aW GR):=bF aG
theorem a3B(F:FA K mg "is_whole" GR)(B:bK mg):aF P w K mg au "is_whole" 1 (BR K):=by
 exists F.has,Qa,dc λ_=>rfl
 ·let(v,T,rfl,ty,k):=h
  have nd:=Qa.nd;erw[_,(aI (aV (m8 (ow K B (ak (pv 0) (ak (oq (x:="int") (v:=.ty "int") Z (B.at "int") tL rfl) ay))) (mU (Iw (ow K B (ak (pv 0) (ak (oq (x:="bool") (v:=.ty "bool") rfl (B.at "bool") PyProof.Rows.boot_bool rfl) ay)))))))),?_];erw[_,Z,.inl #[_,T,"int",_,Z,ty,aw,Z,_,Z,?_]];unfold zF at k;erw[fR (λhc=>?_) (λhc=>?_)]
  ·erw[_,Z,.inl #[_,T,"bool",_,Z,ty,aw,Z,_,Z,?_]]
   rw[hc,jv]at k;erw[k]
  ·rw[EH.mpr hc,jw]at k
   erw[k]
end
end _a
namespace _a
open PySem PySem.Spec PyProof.Rows _L _l
section
def du(ns:List Int)(sp:Int):ag:=.tuple [.str "line",.tuple (ns.map PyData.int),.int sp]
theorem a5Y(ns:List Int)(sp:Int):fh (du ns sp)=true:=by simp[du,fh,cH,ki]
structure fo(ax:Nat)(m:Int)(ns:List Int):Prop where
 len:ns.length=ax
 bd:∀z∈ns,(z.natAbs:Int)<=m
 nz:∃z∈ns,z≠0
theorem fo.lead(h:fo ax m ns):0<aK ns/\(aK ns:Int)<=m:=by
 erw[a63 h.nz,?_];have hm:0<=m:=by let(z,hz,_):=h.nz;have:=h.bd z hz;lia
 have:=qe (ns:=ns) (m:=m.toNat) λz hz=>by have:=h.bd z hz;lia
 lia
theorem fo.ne(h:fo ax m ns):ns≠[]:=by let(z,hz,_):=h.nz;intro e;subst e;cases hz
theorem oK{v:V}(h:RD K H v (du ns sp)):∃a b,v= .ref a/\bc K H a [.str "line",.ref b,.int sp]/\bc K H b (ns.map V.int):=by let(a,xs,rfl,h1,h2):=h.cS;let(x1,r1,rfl,e1,h2):=h2.cons_inv;let(x2,r2,rfl,e2,h2):=h2.cons_inv;let(x3,r3,rfl,e3,h2):=h2.cons_inv;cases h2.nil_inv;cases e1.str_inv;cases e3.int_inv;let(b,ys,rfl,h3,h4):=e2.cS;rw[h4.fL]at h3;erw[a,b,Z,h1,h3]
inductive aev(K:aa)(vs:List V)(H:Hp)(Q:VK):Prop |mk (v:_)(ns:_)(sp:_)(h0:vs=[v])(h1:RD K H v (du ns sp))(h2:ns≠[])(h3:ns.length<=1000)(h4:∀H',aE H H'->Q (.int (aK ns)) H')
def ud(K:aa):Sp:=λvs H Q _=>aev K vs H Q
theorem lI{ns:List Int}{f:Int->ag}{i:Nat}{d:ag}(h:(ns.map f)[i]? =some d):∃n,ns[i]? =some n/\f n=d:=by rw[cv]at h;cases e:ns[i]? with |none=>rw[e]at h;cases h |some n=>rw[e]at h;erw[n,Z,dU h]
theorem x9{ns:List Int}{i:Nat}{n:Int}(h:(ns.map V.int)[i]? =some x)(e:ns[i]? =some n):x= .int n:=by rw[cv,e]at h;exact(dU h).symm
theorem PY:bu ["line"] ["line"] (aW GH):=bF aG
theorem a3y(F:FA K mg "lead_of" GH)(B:bK mg):aF P w K mg au "lead_of" 1 (ud K):=by
 exists F.has,PY,dc λ_=>rfl
 ·let(v,ns,sp,rfl,rd,cj,hz,k):=h
  have nd:=PY.nd;let(a,b,rfl,ha,hb):=oK rd;erw[_,(aI (aV (fg (x:="max") (Jj K Z Z) Z (B.at "max") Mz (ak (fA (N:=["step"]) (js:=[none]) rfl rfl rfl (kH K rfl (px K (pv 0) az)) (λ_ _ _ _ _=>(bh 0 (jk _))) (λ_ _ _ _ _=>dM) (λ_ _ _ _ _=>(fg (x:="abs") nP rfl (B.at "abs") pk (ak (pv 0) ay)))) ay)))),?_];erw[_,Z,.inr #[a,_,1,.ref b,Z,Z,ha,Z,b,Z,#[_,hb],λD H0 nw=>?_]];erw[qI (K:=K) (xs:=ns.map V.int) (ds:=(ns.map gP).map PyData.int) [] hb nw (by simp) (by simpa using hz) (ki _) ?_ ?_]
  ·intro i x d H2 Q' ex ed s2 hq
   let(m,em,rfl):=lI ed;rw[cv]at em;cases en:ns[i]? with |none=>rw[en]at em;cases em |some n=>rw[en]at em;cases em;cases x9 ex en;erw[_,Z,n,Z,hq _ _ (aE.refl _) (fJ _)]
  ·intro H' ys s2 d2 r2
   rw[r2.fL]at d2;erw[D,_,Z,aD.of d2,by simpa using cj,λM h1 h2=>?_];rw[Jw cj h1 h2];erw[k H' s2]
end
end _a
namespace _a
open PySem PySem.Spec PyProof.Rows _L _r
section
theorem Q3:bu ["p","q","divisor"] ["p","q"] (aW GJ):=bF aG
theorem a3u(F:FA K mg "lowest_terms" GJ)(B:bK mg)(a8c:aF P w K mg au "common_divisor" 1 Fv):aF P w K mg au "lowest_terms" 2 yP:=by
 exists F.has,Q3,dN λ_ _=>rfl
 ·let(a,b,rfl,hb,wb,k):=h
  have nd:=Q3.nd;have sw:Wd (_A.sg a b):=yj (_A.ZK hb) wb;erw[_,(aB (pS 2 nd (pf a8c hr (ak (pv 0) (ak (pv 1) ay)))) (aB (ij (bN (bS jD (pv 1) az (bA _)) (aI (pS 2 nd (kI kA (pv 2)))) bQ)) (aI (aV (ip (ak (aP RW (pv 0) (pv 2)) (ak (aP RW (pv 1) (pv 2)) ay))))))),?_];erw[_,Z,_,Z,a,b,Z,?_];erw[λO H'=>H'=H/\O=[some (.int a),some (.int b),some (.int (_A.sg a b))],?_,?_]
  ·erw[_,Z,_,_,Z,Z,_,Z,?_]
   erw[fR (λhc=>?_) (λhc=>?_)]
   ·have hd:b<0:=iY hc
    erw[_,Z,_,Z,?_];erw[Z,?_];unfold _A.sg;rw[bo hd];rfl
   ·have hd:¬b<0:=λz=>hc (bM z)
    erw[Z,?_];unfold _A.sg;rw[bj hd];rfl
  rintro O H' ⟨rfl,rfl⟩;erw[_,Z,_,Z,_,_,Z,Z,#[_A.yX hb,sw],_,Z,_,Z,_,_,Z,Z,#[_A.yX hb,sw],(by show 2<=sizeLine;decide),λt H4 nw=>?_];erw[k t H4 nw]
def cu(K:aa)(H:Hp)(v:V)(r:Rat):Prop:=∃p,v= .ref p/\bc K H p [.int r.num,.int r.den]
theorem cu.go{v:V}(h:cu K H v r)(s:aE H H'):cu K H' v r:=by let(p,e,q):=h;erw[p,e,q.go s]
def fU(r:Rat):ag:=.tuple [.int r.num,.int r.den]
theorem cu.rd{v:V}(h:cu K H v r):RD K H v (fU r):=by let(p,rfl,q):=h;erw[gu q (cO (fJ _) (cO (fJ _) dJ))]
theorem a1c(r:Rat):dB 1 (fU r):=iH.tup (.cons (.int _) (.cons (.int _) .nil))
theorem eqR(h:r=s):PyData.eqv (fU r) (fU s)=true:=by rw[h];exact(a1c s).refl
theorem jh{n:Nat}(h:i.natAbs<2^n)(l:n<=5000):Wd i:=gH h (tO aw l)
theorem _root_._r.Bd.wn(h:Bd 2000 r):Wd r.num:=jh h.num aw
theorem _root_._r.Bd.wd(h:Bd 2000 r):Wd (r.den:Int):=jh (n:=2000) (by have:=h.den;omega) aw
theorem XO(h:Bd 2000 r)(g:Bd 2000 s):Wd ((r.den:Int)*(s.den:Int)):=jh (n:=4000) (Ll h g) aw
theorem Ca{t:Addr}{b:Int}(hb:b≠0)(e:r=Rat.divInt a b)(h:H' t=some (.tup [.int (_A.lowP a b),.int (_A.gY a b)])):cu K H' (.ref t) r:=by let(e1,e2):=Jo (a:=a) hb;rw[e1,e2,<-e]at h;erw[t,Z,bc.of h]
inductive aed(op:Rat->Rat->Rat)(K:aa)(vs:List V)(H:Hp)(Q:VK):Prop |mk (v1:_)(v2:_)(r:_)(s:_)(h0:vs=[v1,v2])(h1:cu K H v1 r)(h2:cu K H v2 s)(h3:Bd 2000 r)(h4:Bd 2000 s)(h5:∀v H',cu K H' v (op r s)->aE H H'->Q v H')
def yN(op:Rat->Rat->Rat)(K:aa):Sp:=λvs H Q _=>aed op K vs H Q
theorem PR:bu ["one","other","p","q","r","s"] ["one","other"] (aW GB):=bF aG
theorem a3s(F:FA K mg "minus" GB)(B:bK mg)(xj:aF P w K mg au "lowest_terms" 2 yP):aF P w K mg au "minus" 3 (yN (·-·) K):=by
 exists F.has,PR,dN λ_ _=>rfl
 ·let(v1,v2,r,s,rfl,(p,rfl,hp),(q,rfl,hq),br,bs,k):=h
  have nd:=PR.nd;erw[_,(aB (fu (pv 0) (eM K Z (n:=2) Z (bU (bh 2 nd) (bU (bh 3 nd) eK)))) (aB (fu (pv 1) (eM K Z (n:=2) Z (bU (bh 4 nd) (bU (bh 5 nd) eK)))) (aI (aV (pf xj hr (ak (aP iM (aP cw (pv 2) (pv 5)) (aP cw (pv 4) (pv 3))) (ak (aP cw (pv 3) (pv 5)) ay))))))),?_];erw[_,Z,_,_,Z,hp,Z,_,_,Z,_,_,Z,Z,?_];erw[_,Z,_,_,Z,hq,Z,_,_,Z,_,_,Z,Z,?_];erw[_,Z,_,Z,_,_,Z,Z,jT br.wn.bits bs.wd.bits,_,Z,_,Z,_,_,Z,Z,jT bs.wn.bits br.wd.bits,_,_,Z,Z,_,Z,_,Z,_,_,Z,Z,jT br.wd.bits bs.wd.bits,?_];erw[_,_,Z,Ak r s,XO br bs,λt H' nw=>k _ _ (Ca (Ak r s) (Zb r s) nw.at') nw.same]
theorem MV{b:Nat}(hb:b≠0)(hx:Rat.divInt a b=x):∃g,a=x.num*g/\(b:Int)=x.den*g:=by let(g,_,p):=Rat.divInt_num_den (z':=x.den_nz) (c:=x.reduced) bB hx;erw[g,p]
theorem XG(hx:Rat.divInt r.num s.den=x)(hy:Rat.divInt s.num r.den=y)(m:r*s=Rat.divInt (r.num*s.num) (r.den*s.den)):x.num*y.num=(r*s).num/\(y.den:Int)*x.den=(r*s).den:=by
 let(g,h1,h2):=MV s.den_nz hx;let(h,h3,h4):=MV r.den_nz hy;have w:∀{q:Rat}{a b g h:Int},q.num=a*g->q.den=b*h->a.natAbs.Coprime b.natAbs:=λ{q a b g h} p z=>by have c:Int.gcd q.num q.den=1:=q.reduced;rw[p,z,Int.gcd_eq_natAbs_gcd_natAbs,gz,gz]at c;erw[Nat.Coprime.coprime_mul_right_right (Nat.Coprime.coprime_mul_right c)]
 have c:(x.num*y.num).natAbs.gcd (x.den*y.den)=1:=by rw[gz];erw[Nat.Coprime.mul_left (Nat.Coprime.mul_right x.reduced (w h1 h4)) (Nat.Coprime.mul_right (w h3 h2) y.reduced)]
 have e:r*s=x*y:=by rw[m,<-hx,<-hy,WY,qW (s.den:Int)]
 rw[e,Rat.num_mul,Rat.den_mul,c,Nat.div_one,MC x.den];erw[(Int.ediv_one _).symm,Z]
theorem OV:bu ["one","other","p","s","r","q"] ["one","other"] (aW FK):=bF aG
theorem a2C(F:FA K mg "times" FK)(B:bK mg)(xj:aF P w K mg au "lowest_terms" 2 yP):aF P w K mg au "times" 3 (yN (·*·) K):=by
 exists F.has,OV,dN λ_ _=>rfl
 ·let(v1,v2,r,s,rfl,(p,rfl,hp),(q,rfl,hq),br,bs,k):=h
  have nd:=OV.nd;have nr:=Int.ne_of_gt (den_pos r);have ns:=Int.ne_of_gt (den_pos s);erw[_,(aB (fu (pf xj hr (ak (px K (pv 0) az) (ak (px K (pv 1) az) ay))) (eM K Z (n:=2) Z (bU (bh 2 nd) (bU (bh 3 nd) eK)))) (aB (fu (pf xj hr (ak (px K (pv 1) az) (ak (px K (pv 0) az) ay))) (eM K Z (n:=2) Z (bU (bh 4 nd) (bU (bh 5 nd) eK)))) (aI (aV (ip (ak (aP cw (pv 2) (pv 4)) (ak (aP cw (pv 5) (pv 3)) ay))))))),?_];erw[_,Z,Or.inr #[_,_,_,_,Z,Z,hp,Z,_,Z,Or.inr #[_,_,_,_,Z,Z,hq,Z,_,_,Z,ns,bs.wd,λt1 H1 n1=>?_]]];let(_,e,g1):=Ca ns Z n1.at';cases e;erw[_,_,Z,g1,Z,_,_,Z,_,_,Z,Z,?_];erw[_,Z,Or.inr #[_,_,_,_,Z,Z,hq.go n1.same,Z,_,Z,Or.inr #[_,_,_,_,Z,Z,hp.go n1.same,Z,_,_,Z,nr,br.wd,λt2 H2 n2=>?_]]];let(_,e,g2):=Ca nr Z n2.at';cases e;erw[_,_,Z,g2,Z,_,_,Z,_,_,Z,Z,?_];have b1:Bd 2000 _:=kK ns br.num (by have:=bs.den;omega);have b2:Bd 2000 _:=kK nr bs.num (by have:=br.den;omega);erw[_,Z,_,Z,_,_,Z,Z,jT b1.wn.bits b2.wn.bits,_,Z,_,Z,_,_,Z,Z,jT b2.wd.bits b1.wd.bits,?_];erw[cW Z,λt H' n=>k _ _ #[t,Z,bc.of ?_] (n1.same.trans (n2.same.trans n.same))];let(e1,e2):=XG Z Z (mul_div r s);rw[<-e1,<-e2];erw[n.at']
inductive aet(K:aa)(vs:List V)(H:Hp)(Q:VK):Prop |mk (v1:_)(v2:_)(r:_)(s:_)(h0:vs=[v1,v2])(h1:cu K H v1 r)(h2:cu K H v2 s)(h3:Bd 2000 r)(h4:Bd 2000 s)(h5:Q (.bl (decide (r<s))) H)
def BP(K:aa):Sp:=λvs H Q _=>aet K vs H Q
theorem PV:bu ["one","other","p","q","r","s"] ["one","other"] (aW GF):=bF aG
theorem a3w(F:FA K mg "is_less" GF)(B:bK mg):aF P w K mg au "is_less" 1 (BP K):=by
 exists F.has,PV,dN λ_ _=>rfl
 ·let(v1,v2,r,s,rfl,(p,rfl,hp),(q,rfl,hq),br,bs,k):=h
  have nd:=PV.nd;erw[_,(aB (fu (pv 0) (eM K Z (n:=2) Z (bU (bh 2 nd) (bU (bh 3 nd) eK)))) (aB (fu (pv 1) (eM K Z (n:=2) Z (bU (bh 4 nd) (bU (bh 5 nd) eK)))) (aI (aV (fC jD (aP cw (pv 2) (pv 5)) (aP cw (pv 4) (pv 3)) (bA _)))))),?_];erw[_,Z,_,_,Z,hp,Z,_,_,Z,_,_,Z,Z,?_];erw[_,Z,_,_,Z,hq,Z,_,_,Z,_,_,Z,Z,?_];erw[_,Z,_,Z,_,_,Z,Z,jT br.wn.bits bs.wd.bits,_,Z,_,Z,_,_,Z,Z,jT bs.wn.bits br.wd.bits,_,_,Z,Z,?_];have e:decide (r.num*(s.den:Int)<s.num*(r.den:Int))=decide (r<s):=by rw[kx,Mj,Mj,Rat.lt_iff]
  show Q (.bl (decide (r.num*(s.den:Int)<s.num*(r.den:Int)))) H;rw[e];erw[k]
def t9(K:aa)(H:Hp):List V->List Rat->Prop |[],[]=>True |v::vs,r::rs=>cu K H v r/\Bd 2000 r/\t9 K H vs rs |_,_=>False
theorem t9.length{H:Hp}:∀{vs:List V}{rs:List Rat},t9 K H vs rs->vs.length=rs.length |[],[],_=>rfl |v::vs,r::rs,h=>by rw[gy,gy,t9.length h.2.2] |[],_::_,h=>h.elim |_::_,[],h=>h.elim
theorem t9.get{H:Hp}:∀{vs:List V}{rs:List Rat}{i:Nat}{v:V},t9 K H vs rs->vs[i]? =some v->∃r,rs[i]? =some r/\cu K H v r/\Bd 2000 r
 |[],[],i,v,_,e=>by simp at e |v::vs,r::rs,0,v',h,e=>by
  have e':v=v':=by simpa using e
  subst e';erw[r,Z,h.1,h.2.1] |v::vs,r::rs,i+1,v',h,e=>by let(r',e1,q):=t9.get h.2.2 (show vs[i]? =some v' by simpa using e);erw[r',by simpa using e1,q] |[],_::_,_,_,h,_=>h.elim |_::_,[],_,_,h,_=>h.elim
inductive aeu(K:aa)(vs:List V)(H:Hp)(Q:VK):Prop |mk (l:_)(xs:_)(rs:_)(h0:vs=[.ref l])(h1:aD K H l xs)(h2:t9 K H xs rs)(h3:xs≠[])(h4:∀(i:Nat)(v:V)(r:Rat),xs[i]? =some v->rs[i]? =some r->(∀s∈rs,r<=s)->Q v H)
def pK(K:aa):Sp:=λvs H Q _=>aeu K vs H Q
theorem PX:bu ["some","best","one"] ["some"] (aW GG):=bF aG
theorem a3x(F:FA K mg "least" GG)(B:bK mg)(K8:aF P w K mg au "is_less" 1 (BP K)):aF P w K mg au "least" 2 (pK K):=by
 exists F.has,PX,dc λ_=>rfl
 ·let(l,xs,rs,rfl,hl,ml,cj,k):=h
  have nd:=PX.nd;erw[_,(aB (pS 1 nd (px K (pv 0) az)) (aB (m6 iZ Z (oo K Z (pv 0)) (bh 2 nd) (aI (bN (cL (pf K8 hr (ak (pv 2) (ak (pv 1) ay)))) (aI (pS 1 nd (pv 2))) bQ))) (aI (aV (pv 1))))),?_];have hlen:=ml.length;have h0:0<xs.length:=ED.mpr cj;have e0:=cE h0;erw[_,Z,.inl #[l,xs,0,xs[0],Z,Z,hl,cN aw e0,?_]];erw[_,Z,l,Z,#[_,hl],DH (K:=K) (a:=l) (xs:=xs) (λi O H2=>H2=H/\∃(j:Nat)(b:V)(r:Rat)(v:Option V),xs[j]? =some b/\rs[j]? =some r/\(∀(m:Nat)(s:Rat),m<i->rs[m]? =some s->r<=s)/\O=[some (.ref l),some b,v]) ?_ (λi O H2 _ h=>by rw[h.1];erw[hl]) ?_ ?_]
  ·let(r,e1,_):=ml.get e0
   erw[Z,0,_,r,none,e0,e1,λm s hm=>absurd hm (Nat.not_lt_zero _),Z]
  ·rintro i x O H2 hx ⟨rfl,j,b,r,v,eb,er,hm,rfl⟩
   let(t,et,rt,bt):=ml.get hx;let(r2,DN,rb,bb):=ml.get eb;rw[er]at DN;cases DN;erw[_,Z,_,Z,x,b,t,r,Z,rt,rb,bt,bb,_,Z,?_];erw[fR (λhc=>?_) (λhc=>?_)]
   ·have cy:t<r:=iY hc
    erw[_,Z,?_];erw[Z,i,x,t,_,hx,et,λm s K2 es=>?_,Z];rcases Nat.lt_succ_iff_lt_or_eq.mp K2 with h|h
    ·erw[eT (Rat.le_of_lt cy) (hm m s h es)]
    ·subst h
     rw[et]at es;cases es;erw[tK]
   ·have Uj:¬t<r:=λz=>hc (bM z)
    erw[Z,j,b,r,_,eb,er,λm s K2 es=>?_,Z];rcases Nat.lt_succ_iff_lt_or_eq.mp K2 with h|h
    ·erw[hm m s h es]
    ·subst h
     rw[et]at es;cases es;erw[Es.mp Uj]
  ·rintro O H2 ⟨rfl,j,b,r,v,eb,er,hm,rfl⟩
   erw[_,Z,k j b r eb er λs hs=>?_];let(m,hml,em):=Xe.mp hs;erw[hm m s ao (by rw[cE hml,em])]
inductive aeq(K:aa)(vs:List V)(H:Hp)(Q:VK):Prop |mk (a:_)(b:_)(h0:vs=[.int a,.int b])(h1:b≠0)(h2:Wd b)(h3:∀v H',cu K H' v (Rat.divInt a b)->aE H H'->Q v H')
def w6(K:aa):Sp:=λvs H Q _=>aeq K vs H Q
theorem Qi:bu ["p","q"] ["p","q"] (aW Hd):=bF aG
theorem a3O(F:FA K mg "fraction" Hd)(B:bK mg)(Dm:aF P w K mg au "is_whole" 1 (BR K))(xj:aF P w K mg au "lowest_terms" 2 yP):aF P w K mg au "fraction" 3 (w6 K):=by
 exists F.has,Qi,dN λ_ _=>rfl
 ·let(a,b,rfl,hb,wb,k):=h
  have nd:=Qi.nd;erw[_,(aB (bN (PW.pt (j6 (dv (cL (pf Dm hr (ak (pv 0) ay)))) (jB (dv (cL (pf Dm hr (ak (pv 1) ay))))))) (aI wz) bQ) (aB (bN (bS (dQ K Z hr.units) (pv 1) az (bA _)) (aI wz) bQ) (aI (aV (pf xj hr (ak (pv 0) (ak (pv 1) ay))))))),?_];have iw:zF "int"=true:=by decide
  erw[_,Z,_,"int",Z,Z,_,Z,?_];rw[iw];erw[bf ?_];erw[_,Z,_,"int",Z,Z,_,Z,?_];rw[iw];erw[bf ?_];erw[_,Z,.inl #[_,_,Z,Z,_,Z,?_]];rw[cG hb];erw[bf ?_];erw[_,Z,_,Z,_,_,Z,hb,wb,λt H' nw=>k _ _ (Ca hb Z nw.at') nw.same]
end
end _a
namespace _a
open PySem PySem.Spec PyProof.Rows _L _r _l
section
def jF(rs:List Int)(r f j t:Int):ag:=.tuple [.tuple (rs.map PyData.int),.int r,.int f,.int j,.int t]
theorem gF(rs:List Int)(r f j t:Int):fh (jF rs r f j t)=true:=by simp[jF,fh,cH,ki]
theorem oH{v:V}{f t:Int}(h:RD K H v (jF rs r f j t)):∃a b,v= .ref a/\bc K H a [.ref b,.int r,.int f,.int j,.int t]/\bc K H b (rs.map V.int):=by let(a,xs,rfl,h1,h2):=h.cS;let(x1,r1,rfl,e1,h2):=h2.cons_inv;let(x2,r2,rfl,e2,h2):=h2.cons_inv;let(x3,r3,rfl,e3,h2):=h2.cons_inv;let(x4,r4,rfl,e4,h2):=h2.cons_inv;let(x5,r5,rfl,e5,h2):=h2.cons_inv;cases h2.nil_inv;cases e2.int_inv;cases e3.int_inv;cases e4.int_inv;cases e5.int_inv;let(b,ys,rfl,h3,h4):=e1.cS;rw[h4.fL]at h3;erw[a,b,Z,h1,h3]
structure qL(rs:List Int)(r f j t:Int):Prop where
 len:rs.length=2\/rs.length=3
 rl:∀z∈rs,1<=z/\z<=100
 r1:1<=r/\r<=50
 f1:1<=f/\f<=50
 j1:1<=j/\j<=50
 t1:1<=t/\t<=100
inductive aer(K:aa)(vs:List V)(H:Hp)(Q:VK):Prop |mk (p:_)(h0:vs=[.ref p])(h1:fN H p)(h2:∀v rs r f j t H',RD K H' v (jF rs r f j t)->qL rs r f j t->bJ p H H'->Q v H')
def Oi(K:aa):Sp:=λvs H Q _=>aer K vs H Q
end
section
abbrev Itm:=Option (List Int × Int)
def itR(d:ag)(o:Itm):Prop:=(∃ns sp,d=du ns sp/\o=some (ns,sp))\/∃w x,d= .tuple [.str w,x]/\(w="wait"\/w="tool"\/w="mark")/\fh x=true/\o=none
theorem itR.no{d:ag}(h:itR d o):fh d=true:=by
 rcases h with⟨ns,sp,rfl,_⟩|⟨w,x,rfl,_,h,_⟩
 ·erw[a5Y _ _]
 ·simp[fh,cH,h]
theorem TK{v:V}{d:ag}(h:RD K H v d)(i:itR d o):∃a w ys,v= .ref a/\bc K H a (.str w::ys)/\(PyData.eqv (.str w) (.str "line")=o.isSome)/\SeqAt.shaped (.str w)=true:=by
 rcases i with⟨ns,sp,rfl,rfl⟩|⟨w,x,rfl,hw,_,rfl⟩
 ·let(a,b,rfl,h1,_):=oK h
  erw[a,_,_,Z,h1,(by show PyData.eqv (.str "line") (.str "line")=true;decide+kernel),aG]
 ·let(a,xs,rfl,h1,h2):=h.cS
  let(x1,r1,rfl,e1,h2):=h2.cons_inv;cases e1.str_inv;erw[a,w,r1,Z,h1,?_,?_]
  ·show PyData.eqv (.str w) (.str "line")=false
   rcases hw with rfl|rfl|rfl<;>decide+kernel
  ·rcases hw with rfl|rfl|rfl<;>decide+kernel
theorem a5X:SeqAt.shaped (.str "line")=true:=by decide+kernel
theorem qi{d:ag}(h:itR d (some (ns,sp))):d=du ns sp:=by
 rcases h with⟨mV,mQ,e1,e2⟩|⟨_,_,_,_,_,e2⟩
 ·cases e2;erw[e1]
 ·cases e2
structure iG(ax:Nat)(ds:List ag)(os:List Itm):Prop where
 len:ds.length=os.length
 it:∀(i:Nat)(d:ag)(o:Itm),ds[i]? =some d->os[i]? =some o->itR d o
 ok:∀(i:Nat)(ns:List Int)(sp:Int),os[i]? =some (some (ns,sp))->fo ax 100 ns/\1<=sp/\sp<=20
theorem iG.nil:iG ax [] []:=#[Z,λi d o e=>by simp at e,λi ns sp e=>by simp at e]
theorem uf{α:Type}{xs:List α}{x y:α}{j:Nat}(e:(xs++[x])[j]? =some y):xs[j]? =some y\/(j=xs.length/\y=x):=by
 by_cases hj:j<xs.length
 ·rw[vO hj]at e;erw[.inl e]
 ·have qp:j=xs.length:=by
   have:=(dW.mp e).1;rw[eP]at this;have:j<xs.length+1:=this
   lia
  rw[qp,yu (bL _),Ey]at e;erw[.inr #[qp,(dU e).symm]]
theorem iG.snoc{ax:Nat}{ds:List ag}{os:List Itm}{d:ag}{o:Itm}(h:iG ax ds os)(i:itR d o)(g:∀ns sp,o=some (ns,sp)->fo ax 100 ns/\1<=sp/\sp<=20):iG ax (ds++[d]) (os++[o]):=by
 have hl:=h.len;erw[by rw[eP,eP,h.len];rfl,λj d' o' e1 e2=>?_,λj ns sp e=>?_]
 ·rcases uf e1 with e1|⟨j1,rfl⟩
  ·rcases uf e2 with e2|⟨j2,rfl⟩
   ·erw[h.it j d' o' e1 e2]
   ·have:=(dW.mp e1).1;lia
  ·rcases uf e2 with e2|⟨j2,rfl⟩
   ·have:=(dW.mp e2).1;lia
   ·erw[i]
 ·rcases uf e with e|⟨_,e⟩
  ·erw[h.ok j ns sp e]
  ·erw[g ns sp e.symm]
theorem iG.no{ax:Nat}{ds:List ag}{os:List Itm}(h:iG ax ds os):cH ds=true:=gE.mpr λd hd=>by let(i,hi):=vM.mp hd;have hl:=(dW.mp hi).1;exact(h.it i d _ hi (cE (by rw[<-h.len];erw[hl]))).no
theorem iG.get{ax:Nat}{ds:List ag}{os:List Itm}(h:iG ax ds os){i:Nat}{d:ag}(e:ds[i]? =some d):∃o,os[i]? =some o/\itR d o:=by have hl:=(dW.mp e).1;have e2:=cE (show i<os.length by rw[<-h.len];erw[hl]);erw[_,e2,h.it i d _ e e2]
inductive aeE(K:aa)(vs:List V)(H:Hp)(Q:VK):Prop |mk (v:_)(d:_)(o:_)(h0:vs=[v])(h1:RD K H v d)(h2:itR d o)(h3:Q (.bl o.isSome) H)
def wa(K:aa):Sp:=λvs H Q _=>aeE K vs H Q
theorem Q8:bu ["item"] ["item"] (aW GQ):=bF aG
theorem a3F(F:FA K mg "is_line" GQ)(B:bK mg):aF P w K mg au "is_line" 1 (wa K):=by
 exists F.has,Q8,dc λ_=>rfl
 ·let(v,d,o,rfl,ri,it,k):=h
  have nd:=Q8.nd;erw[_,(aI (aV (fC (dQ K Z hr.units) (px K (pv 0) az) ba (bA _)))),?_];let(a,wd,ys,rfl,h1,ew,sw):=TK ri it;erw[_,Z,.inr #[a,_,0,.str wd,Z,Z,h1,cN (eJ 0) Z,.inr #[_,_,bT _,bT _,sw,a5X,?_]]];rw[ew];erw[k]
theorem u7{H:Hp}:∀{xs:List V}{zs:List Str},aO K H xs (zs.map PyData.str)->xs=zs.map V.str |xs,[],h=>h.nil_inv |xs,n::ns,h=>by let(y,ys,rfl,h1,h2):=h.cons_inv;rw[h1.str_inv,u7 h2];rfl
theorem ad9:jN.cps.toList.length=26:=by decide+kernel
end
section
theorem LO{xs:List α}(h:xs.getLast? =some x):fk xs (-1)=some x:=by
 unfold fk kM;have hl:xs≠[]:=by intro e;rw[e]at h;cases h
 have h0:0<xs.length:=ED.mpr hl;rw[bj aw,bo ao];rw[List.getLast?_eq_getElem?]at h;show xs[((-1:Int)+(xs.length:Int)).toNat]? =some x;have e:((-1:Int)+(xs.length:Int)).toNat=xs.length-1:=by lia
 rw[e];erw[h]
end
end _a
namespace _a
open PySem PySem.Spec PyProof.Rows _L _r
section
def XR(ns:List Int):ag:=.tuple (ns.map λz=>fU (Rat.divInt z (_l.aK ns)))
theorem zf(r:Rat):fh (fU r)=true:=by simp[fU,fh,cH]
theorem Sh{α:Type}{f:α->ag}(h:∀a,fh (f a)=true)(l:List α):cH (l.map f)=true:=gE.mpr λd hd=>by let(a,_,rfl):=dC.mp hd;erw[h a]
inductive adA(K:aa)(vs:List V)(H:Hp)(Q:VK):Prop |mk (v:_)(ns:_)(sp:_)(h0:vs=[v])(h1:RD K H v (du ns sp))(h2:fo ns.length 1000 ns)(h3:ns.length<=1000)(h4:∀v' H',RD K H' v' (XR ns)->aE H H'->Q v' H')
def NP(K:aa):Sp:=λvs H Q _=>adA K vs H Q
theorem OP:bu ["line","lead"] ["line"] (aW FF):=bF aG
theorem a2y(F:FA K mg "ways_of" FF)(B:bK mg)(qk:aF P w K mg au "lead_of" 1 (ud K))(sG:aF P w K mg au "fraction" 3 (w6 K)):aF P w K mg au "ways_of" 4 (NP K):=by
 exists F.has,OP,dc λ_=>rfl
 ·let(v,ns,sp,rfl,rd,ok,hz,k):=h
  have nd:=OP.nd;erw[_,(aB (pS 1 nd (pf qk hr (ak (pv 0) ay))) (aI (aV (cZ (x:="tuple") (kB K Z) Z (B.at "tuple") jd (ak (fA (N:=["step","lead"]) (js:=[none,some 1]) rfl rfl rfl (kH K rfl (px K (pv 0) az)) (λ_ _ _ _ _=>(bh 0 (gj aw))) (λ_ _ _ _ _=>dM) (λ_ _ _ _ _=>(pf sG hr (ak (pv 0) (ak (pv 1) ay))))) ay))))),?_];erw[_,Z,v,ns,sp,Z,rd,ok.ne,hz,λH1 s1=>?_];let(a,b,rfl,ha,hb):=oK (RD.mono s1 _ rd);let(lp,lm):=ok.lead;erw[_,Z,.inr #[a,_,1,.ref b,Z,Z,ha,Z,b,Z,#[_,hb],λD H0 nw=>?_]];erw[qI (K:=K) (xs:=ns.map V.int) (ds:=ns.map λz=>fU (Rat.divInt z (_l.aK ns))) _ hb nw (by simp) (by simpa using hz) (Sh (λ_=>zf _) _) ?_ ?_]
  ·intro i x d H2 Q' ex ed s2 hq
   let(n,en,rfl):=lI ed;cases x9 ex en;erw[_,Z,_,Z,n,_,Z,bB,jh (n:=20) bB aw,λv3 H3 r3 s3=>?_];erw[hq _ _ s3 r3.rd]
  ·intro H' ys s2 d2 r2
   erw[D,_,Z,.inl #[aD.of d2,λt H4 n4=>?_]];erw[k _ _ (gu (bc.of n4.at') (aO.mono n4.same _ r2)) (s1.trans (s2.trans n4.same))]
end
end _a
namespace _a
open PySem PySem.Spec PyProof.Rows _L
section
end
section
theorem rj:jU "tuple" "tuple"=true:=by decide
theorem XN(d:ag):(∃i,d= .int i/\zF (mJ d)=true)\/(zF (mJ d)=false/\∀i,d≠ .int i):=by cases d with |int i=>erw[.inl #[i,Z,by simp[mJ];decide]] |_=>erw[.inr #[by simp[mJ];decide,λ_ z=>nomatch z]]
theorem yD(d:ag):(∃ds,d= .tuple ds)\/(jU (mJ d) "tuple"=false/\∀ds,d≠ .tuple ds):=by cases d with |tuple ds=>erw[.inl #[ds,Z]] |_=>erw[.inr #[by simp[mJ];decide,λ_ z=>nomatch z]]
def da(lo hi:Int):ag->Bool | .int i=>decide (lo<=i)&&decide (i<=hi) |_=>false
theorem a6F{lo hi:Int}{d:ag}(h:∀i,d≠ .int i):da lo hi d=false:=by cases d<;>first|rfl|erw[absurd rfl (h _)]
inductive adB(K:aa)(vs:List V)(H:Hp)(Q:VK):Prop |mk (v:_)(d:_)(lo:_)(hi:_)(h0:vs=[v,.int lo,.int hi])(h1:RD K H v d)(h2:Q (.bl (da lo hi d)) H)
def mO(K:aa):Sp:=λvs H Q _=>adB K vs H Q
theorem OQ:bu ["thing","low","high"] ["thing","low","high"] (aW FG):=bF aG
theorem a2x(F:FA K mg "is_whole_within" FG)(B:bK mg)(Dm:aF P w K mg au "is_whole" 1 (BR K)):aF P w K mg au "is_whole_within" 2 (mO K):=by
 exists F.has,OQ,lQ λ_ _ _=>rfl
 ·let(v,d,lo,hi,rfl,rd,k):=h
  have nd:=OQ.nd;erw[_,(aI (aV (m8 (pf Dm hr (ak (pv 0) ay)) (mU (a1X zk zk (pv 1) (pv 0) (pv 2)))))),?_];erw[_,Z,_,_,Z,rd.ty,_,Z,?_];rcases XN d with⟨i,rfl,e⟩|⟨e,hn⟩
  ·cases rd.int_inv
   rw[e];erw[bE ?_];have k:Q (.bl (decide (lo<=i)&&decide (i<=hi))) H:=k;erw[_,Z,_,Z,_,_,Z,Z,_,Z,?_];erw[fR (λhc=>?_) (λhc=>?_)]
   ·have lM:decide (lo<=i)=true:=hc
    rw[lM,jv]at k;erw[_,Z,_,_,Z,Z,k]
   ·have lM:decide (lo<=i)=false:=EH.mpr hc
    rw[lM,jw]at k;erw[k]
  ·rw[e]
   erw[bf ?_];rw[a6F hn]at k;erw[k]
end
end _a
namespace _a
open PySem PySem.Spec PyProof.Rows _L _r _l _C
section
theorem XA{ns ms:List Int}{i:Nat}{a b:Int}(h1:ns[i]? =some a)(h2:ms[i]? =some b):(gw ns ms)[i]? =some (a*(aK ms:Int)-b*(aK ns:Int)):=by unfold gw;rw[cv,(B5 (z:=(a,b))).mpr #[h1,h2]];rfl
def Ao(j:Int)(ns ms:List Int):ag:=if aK (gw ns ms)=0 then .none else fU (Rat.divInt ((j*aK ns*aK ms)^2) ((aK (gw ns ms):Int)^2))
inductive aeR(K:aa)(vs:List V)(H:Hp)(Q:VK):Prop |mk (v:_)(v1:_)(v2:_)(rs:_)(r:_)(f:_)(j:_)(t:_)(ns:_)(ms:_)(fG:_)(jW:_)(h0:vs=[v,v1,v2])(h1:RD K H v (jF rs r f j t))(h2:RD K H v1 (du ns fG))(h3:RD K H v2 (du ms jW))(h4:fo ns.length 1000 ns)(h5:fo ns.length 1000 ms)(h6:ns.length<=1000)(h7:1<=j)(h8:j<=50)(h9:∀v' H',RD K H' v' (Ao j ns ms)->aE H H'->Q v' H')
def Fw(K:aa):Sp:=λvs H Q _=>aeR K vs H Q
theorem zip2{ns ms:List Int}(h:ms.length=ns.length){i:Nat}{x y:V}(ex:(ns.map V.int)[i]? =some x)(ey:(ms.map V.int)[i]? =some y):∃a b,ns[i]? =some a/\ms[i]? =some b/\x= .int a/\y= .int b:=by rw[cv]at ex ey;cases e1:ns[i]? with |none=>rw[e1]at ex;cases ex |some a=>cases e2:ms[i]? with |none=>rw[e2]at ey;cases ey |some b=>rw[e1]at ex;rw[e2]at ey;erw[a,b,Z,Z,(dU ex).symm,(dU ey).symm]
inductive adE(K:aa)(vs:List V)(H:Hp)(Q:VK):Prop |mk (v1:_)(v2:_)(ns:_)(ms:_)(fG:_)(jW:_)(h0:vs=[v1,v2])(h1:RD K H v1 (du ns fG))(h2:RD K H v2 (du ms jW))(h3:fo ns.length 1000 ns)(h4:fo ns.length 1000 ms)(h5:ns.length<=1000)(h6:∀v' H',cu K H' v' (Rat.divInt (aK (gw ns ms)) ((aK ns:Int)*aK ms))->aE H H'->Q v' H')
def NR(K:aa):Sp:=λvs H Q _=>adE K vs H Q
theorem OS:bu ["one","other","greatest","way","new_way","p","q","difference"] ["one","other"] (aW FH):=bF aG
theorem a2z(F:FA K mg "greatest_turn" FH)(B:bK mg)(Ua:aF P w K mg au "ways_of" 4 (NP K))(a7v:aF P w K mg au "minus" 3 (yN (·-·) K))(K8:aF P w K mg au "is_less" 1 (BP K)):aF P w K mg au "greatest_turn" 5 (NR K):=by
 exists F.has,OS,dN λ_ _=>rfl
 ·let(v1,v2,ns,ms,fG,jW,rfl,Ia,wu,kh,gW,hz,k):=h
  have nd:=OS.nd;let(lp1,lm1):=kh.lead;let(lp2,lm2):=gW.lead;have TZ:ms.length<=1000:=by rw[gW.len];erw[hz]
  have a4a:fo ms.length 1000 ms:=#[Z,gW.bd,gW.nz];have cb:=Lq (λz hz=>by have:=kh.bd z hz;lia) (λz hz=>by have:=gW.bd z hz;lia) (ns:=ns) (ms:=ms);have L0:(0:Int)<(aK ns:Int)*aK ms:=jg ao ao;have Lb:((aK ns:Int)*aK ms).natAbs<=1000*1000:=oG ao ao;have agR:(gw ns ms).length=ns.length:=by simp[gw,gW.len]
  have Ux:∀c:Int,c.natAbs<=2000000->Bd 2000 (Rat.divInt c ((aK ns:Int)*aK ms)):=λc hc=>(kK (n:=30) ao ao ao).mono aw;erw[_,(aB (pS 2 nd (ip (ak az (ak az ay)))) (aB (m6 iZ Z (m7 K Z false false Z (B.at "zip") (ak (pf Ua hr (ak (pv 0) ay)) (ak (pf Ua hr (ak (pv 1) ay)) ay))) (eM K rfl (n:=2) rfl (bU (bh 3 nd) (bU (bh 4 nd) eK))) (aB (fu (pf a7v hr (ak (pv 4) (ak (pv 3) ay))) (eM K Z (n:=2) Z (bU (bh 5 nd) (bU (bh 6 nd) eK)))) (aB (pS 7 nd (ip (ak (fg (x:="abs") nP Z (B.at "abs") pk (ak (pv 5) ay)) (ak (pv 6) ay)))) (aI (bN (cL (pf K8 hr (ak (pv 2) (ak (pv 7) ay)))) (aI (pS 2 nd (pv 7))) bQ))))) (aI (aV (pv 2))))),?_];erw[cW Z,λg0 H1 n1=>?_];erw[_,Z,v1,ns,fG,Z,RD.mono n1.same _ Ia,kh,hz,λw1 H2 r2 s2=>?_];have t2:=n1.same.trans s2;erw[_,Z,v2,ms,jW,Z,RD.mono t2 _ wu,a4a,TZ,λw2 H3 r3 s3=>?_];have t3:=t2.trans s3;let(c1,xs1,rfl,h1,q1):=(RD.mono s3 _ r2).cS;let(c2,xs2,rfl,h2,q2):=r3.cS;have l1:=q1.length;have l2:=q2.length;rw[bV]at l1 l2;erw[c1,c2,Z,#[_,h1],#[_,h2],?_];erw[UW (K:=K) (b1:=false) (b2:=false) (xs:=xs1) (ys:=xs2) ns.length (by rw[l1,l2,gW.len];lia) (λi O H4=>aE H3 H4/\∃g u1 u2 u3 u4 u5,cu K H4 g (Rat.divInt (sF (gw ns ms) i) ((aK ns:Int)*aK ms))/\O=[some v1,some v2,some g,u1,u2,u3,u4,u5]) ?_ (λi O H4 _ h=>#[h1.go h.1,h2.go h.1]) ?_ ?_]
  ·erw[aE.refl _,.ref g0,none,none,none,none,none,#[g0,Z,?_],Z]
   have e0:Rat.divInt ((sF (gw ns ms) 0:Nat):Int) ((aK ns:Int)*aK ms)=0:=by show Rat.divInt 0 _=0;erw[Rat.zero_divInt _]
   rw[e0];erw[bc.of (s3 _ _ (s2 _ _ n1.at'))]
  ·rintro i x y O H4 ex ey ⟨s4,g,u1,u2,u3,u4,u5,rg,rfl⟩ T H5 n5
   let(d1,e1,rx):=q1.get' i ex;let(d2,e2,ry):=q2.get' i ey;let(a,ea,rfl):=lI e1;let(b,eb,rfl):=lI e2;have qa:=kh.bd a (fO ea);have qb:=gW.bd b (fO eb);have cz:=XA ea eb;have czb:=cb _ (fO cz);have t5:=s4.trans n5.same;erw[T,_,Z,bc.of n5.at',Z,_,_,Z,_,_,Z,Z,?_];have rF:∀{H':Hp}{v:V}{r:Rat},RD K H' v (fU r)->cu K H' v r:=λ{H' v r} h=>by let(p,xs,rfl,h1,h2):=h.cS;have:=h2.fL (ns:=[r.num,r.den]);subst this;erw[p,Z,h1]
   erw[_,Z,_,Z,y,x,_,_,Z,rF (RD.mono t5 _ ry),rF (RD.mono t5 _ rx),(kK (n:=30) ao ao ao).mono aw,(kK (n:=30) ao ao ao).mono aw,λv6 H6 r6 s6=>?_];have ed:Rat.divInt b (aK ms)-Rat.divInt a (aK ns)=Rat.divInt (b*aK ns-a*aK ms) ((aK ns:Int)*aK ms):=Z9 ao ao;have r6:cu K H6 v6 (Rat.divInt b (aK ms)-Rat.divInt a (aK ns)):=r6;rw[ed]at r6;let(p6,rfl,h6):=r6;erw[p6,_,Z,h6,Z,_,_,Z,_,_,Z,Z,?_];erw[_,Z,_,Z,_,Z,cW Z,λdd H7 n7=>?_];have HE:=s6.trans n7.same;have rD:cu K H7 (.ref dd) (Rat.divInt (((a*(aK ms:Int)-b*(aK ns:Int)).natAbs:Nat):Int) ((aK ns:Int)*aK ms)):=by
    have e:Rat.divInt (((a*(aK ms:Int)-b*(aK ns:Int)).natAbs:Nat):Int) ((aK ns:Int)*aK ms)=vq (Rat.divInt (b*aK ns-a*aK ms) ((aK ns:Int)*aK ms)):=by rw[ad5 L0,AD];congr 1;lia
    rw[e];erw[dd,Z,?_];rw[ad4,ad6];erw[bc.of n7.at']
   have rG:cu K H7 g _:=(rg.go n5.same).go HE;have hG:sF (gw ns ms) i<=2000000:=qe λz hz=>cb z (yn hz);erw[_,Z,_,Z,g,.ref dd,_,_,Z,rG,rD,Ux _ ao,Ux _ ao,_,Z,?_];have hs:=a7R cz;erw[fR (λhc=>?_) (λhc=>?_)]
   ·have cy:=(Vx L0).mp (iY hc)
    erw[_,Z,?_];erw[t5.trans HE,_,_,_,_,_,_,?_,Z];rw[hs,Nat.max_eq_right ao];erw[rD]
   ·have Ka:¬_:=λz=>hc (bM ((Vx L0).mpr z))
    erw[t5.trans HE,_,_,_,_,_,_,?_,Z];rw[hs,Nat.max_eq_left ao];erw[rG]
  ·rintro O H4 ⟨s4,g,u1,u2,u3,u4,u5,rg,rfl⟩
   erw[_,Z,k _ _ ?_ (t3.trans s4)];have:sF (gw ns ms) ns.length=aK (gw ns ms):=by unfold sF;rw[vL ao]
   rw[this]at rg;erw[rg]
theorem Qp:bu ["machine","one","other","jump","p","q"] ["machine","one","other"] (aW Hk):=bF aG
theorem a3V(F:FA K mg "corner_square" Hk)(B:bK mg)(a7V:aF P w K mg au "greatest_turn" 5 (NR K))(sG:aF P w K mg au "fraction" 3 (w6 K)):aF P w K mg au "corner_square" 6 (Fw K):=by
 exists F.has,Qp,lQ λ_ _ _=>rfl
 ·let(v,v1,v2,rs,r,f',j,t,ns,ms,fG,jW,rfl,rd,Ia,wu,kh,gW,hz,j1,j2,k):=h
  have nd:=Qp.nd;let(lp1,lm1):=kh.lead;let(lp2,lm2):=gW.lead;have L0:(0:Int)<(aK ns:Int)*aK ms:=jg ao ao;have Lb:((aK ns:Int)*aK ms).natAbs<=1000*1000:=oG ao ao;have cb:=Lq (λz hz=>by have:=kh.bd z hz;lia) (λz hz=>by have:=gW.bd z hz;lia) (ns:=ns) (ms:=ms);have hH:=qe cb;erw[_,(aB (pS 3 nd (px K (pv 0) az)) (aB (fu (pf a7V hr (ak (pv 1) (ak (pv 2) ay))) (eM K Z (n:=2) Z (bU (bh 4 nd) (bU (bh 5 nd) eK)))) (aB (bN (bS (dQ K Z hr.units) (pv 4) az (bA _)) (aI (aV gU)) bQ) (aI (aV (pf sG hr (ak (aP cw (aP cw (aP cw (pv 3) (pv 3)) (pv 5)) (pv 5)) (ak (aP cw (pv 4) (pv 4)) ay)))))))),?_];let(am,bm,rfl,jo,kl):=oH rd;erw[_,Z,.inr #[am,_,3,.int j,Z,Z,jo,Z,?_]];erw[_,Z,_,Z,v1,v2,ns,ms,fG,jW,Z,Ia,wu,kh,gW,hz,λv3 H3 r3 s3=>?_];obtain⟨LJ⟩:Nonempty (Bd 30 (Rat.divInt (aK (gw ns ms)) ((aK ns:Int)*aK ms))):=⟨kK (n:=30) ao ao ao⟩;have en:=tJ (Rat.divInt (aK (gw ns ms)) ((aK ns:Int)*aK ms));obtain⟨R,hR⟩:∃R,Rat.divInt (aK (gw ns ms)) ((aK ns:Int)*aK ms)=R:=#[_,Z];rw[hR]at r3 LJ en;have dp:=den_pos R;have Al:R.num*((aK ns:Int)*aK ms)=aK (gw ns ms)*R.den:=by rw[<-hR]at en;have:=(Rat.divInt_eq_divInt_iff (by rw[hR];lia) ao).mp en;rw[hR]at this;erw[this]
  have nb:=LJ.num;have db:=LJ.den;let(p3,rfl,h3):=r3;erw[p3,_,Z,h3,Z,_,_,Z,_,_,Z,Z,?_];erw[_,Z,.inl #[_,_,Z,Z,_,Z,?_]];erw[fR (λhc=>?_) (λhc=>?_)]
  ·have h0:R.num=0:=by simpa using hc
   have hl:aK (gw ns ms)=0:=by
    rw[h0,B7]at Al;rcases Int.mul_eq_zero.mp Al.symm with h|h
    ·lia
    ·lia
   erw[k .bD H3 ?_ s3];unfold Ao;rw[bo hl];erw[ze]
  ·have h0:R.num≠0:=by simpa using hc
   have hl:aK (gw ns ms)≠0:=by
    intro z;rw[z]at Al;have:R.num*((aK ns:Int)*aK ms)=0:=by rw[Al];erw[B7 _]
    rcases Int.mul_eq_zero.mp this with h|h
    ·erw[h0 h]
    ·lia
   have m1:(j*j).natAbs<=50*50:=oG ao ao;have qy:(2:Nat)^64=18446744073709551616:=by decide
   erw[_,Z,_,Z,_,_,Z,Z,.of_left (dh ao ao),_,Z,_,_,Z,Z,.of_left (dh ao ao),_,Z,_,_,Z,Z,.of_right (dh ao ao),?_];erw[_,Z,_,Z,_,_,Z,Z,.of_left (dh ao ao),?_];erw[_,_,Z,ML h0 h0,?_,λv4 H4 r4 s4=>?_]
   ·erw[jh (n:=60) ?_ aw]
    rw[gz];erw[mX (n:=30) (m:=30) nb nb]
   ·erw[k _ _ ?_ (s3.trans s4)]
    unfold Ao;rw[bj hl];have e:=ac4 (j:=j) (p:=R.num) (q:=R.den) (h:=aK (gw ns ms)) (L:=(aK ns:Int)*aK ms) h0 ao Al;rw[e,<-tS]at r4;erw[r4.rd]
def om (d:ag):Bool:=da 10 200 d
inductive ae1(K:aa)(vs:List V)(H:Hp)(Q:VK):Prop |mk (v:_)(d:_)(h0:vs=[v])(h1:RD K H v d)(h2:Q (.bl (om d)) H)
def BJ(K:aa):Sp:=λvs H Q _=>ae1 K vs H Q
theorem Q7:bu ["thing"] ["thing"] (aW GP):=bF aG
theorem a3E(F:FA K mg "is_rate" GP)(B:bK mg)(a8A:GV mg "LEAST_RATE" (.int 10))(a8B:GV mg "GREATEST_RATE" (.int 200))(j7:aF P w K mg au "is_whole_within" 2 (mO K)):aF P w K mg au "is_rate" 3 (BJ K):=by
 exists F.has,Q7,dc λ_=>rfl
 ·let(v,d,rfl,rd,k):=h
  have nd:=Q7.nd;erw[_,(aI (aV (pf j7 hr (ak (pv 0) (ak (fz (x:="LEAST_RATE") Z a8A) (ak (fz (x:="GREATEST_RATE") Z a8B) ay)))))),?_];erw[_,Z,v,d,10,200,Z,rd,k]
inductive adG(K:aa)(vs:List V)(H:Hp)(Q:VK):Prop |mk (v:_)(ns:_)(sp:_)(r:_)(h0:vs=[v,.int r])(h1:RD K H v (du ns sp))(h2:1<=sp)(h3:sp<=20)(h4:10<=r)(h5:r<=200)(h6:∀v' H',cu K H' v' (Rat.divInt ((sp*r)^2) 10000)->aE H H'->Q v' H')
def BH(K:aa):Sp:=λvs H Q _=>adG K vs H Q
theorem Zw(a b:Int):a*a*b*b=(a*b)^2:=by rw[gI,gI,o8,mH];ac_rfl
theorem a1a(h1:10<=r)(h2:r<=200):om (.int r)=true:=by show(decide (10<=r)&&decide (r<=200))=true;rw[bM h1,bM h2];rfl
theorem OU:bu ["line","rate","speed"] ["line","rate"] (aW FJ):=bF aG
theorem a2B(F:FA K mg "top_square" FJ)(B:bK mg)(K7:aF P w K mg au "is_rate" 3 (BJ K))(sG:aF P w K mg au "fraction" 3 (w6 K)):aF P w K mg au "top_square" 4 (BH K):=by
 exists F.has,OU,dN λ_ _=>rfl
 ·let(v,ns,sp,r,rfl,rd,s1,s2,r1,r2,k):=h
  have nd:=OU.nd;erw[_,(aB (bN (dv (cL (pf K7 hr (ak (pv 1) ay)))) (aI wz) bQ) (aB (pS 2 nd (px K (pv 0) az)) (aI (aV (pf sG hr (ak (aP cw (aP cw (aP cw (pv 2) (pv 2)) (pv 1)) (pv 1)) (ak (aP cw az az) ay))))))),?_];erw[_,Z,_,.int r,Z,fJ r,_,Z,?_];rw[a1a r1 r2];erw[bf ?_];let(a,b,rfl,ha,hb):=oK rd;erw[_,Z,.inr #[a,_,2,.int sp,Z,Z,ha,Z,?_]];have m1:(sp*sp).natAbs<=20*20:=by rw[gz];erw[nX ao ao]
  erw[_,Z,_,Z,_,_,Z,Z,.of_left (dh ao ao),_,Z,_,_,Z,Z,.of_left (dh ao ao),_,Z,_,_,Z,Z,.of_right (dh ao ao),?_];erw[_,_,Z,Z,.of_left (dh aw aw),?_];erw[_,_,Z,aw,jh (n:=20) aw aw,λv' H' r' s'=>k v' H' ?_ s'];rw[Zw]at r';erw[r']
end
end _a
namespace _a
open PySem PySem.Spec PyProof.Rows _L _r _l _C _P
open _O (topR cornO mnO betR atO ownF leadF ownL OkI OkIs)
section
theorem Zz(n:Nat)(h:n<=1000):n<sizeLine:=yj h aw
theorem rF{v:V}(h:RD K H v (fU r)):cu K H v r:=by let(p,xs,rfl,h1,h2):=h.cS;have:=h2.fL (ns:=[r.num,r.den]);subst this;erw[p,Z,h1]
theorem fo.up(h:fo ax 100 ns):fo ns.length 1000 ns:=#[Z,λz hz=>by have:=h.bd z hz;lia,h.nz]
theorem iG.Cr{ax:Nat}{ds:List ag}{os:List Itm}(h:iG ax ds os):OkIs os:=λi ns sp e=>by unfold atO at e;cases ho:os[i]? with |none=>rw[ho]at e;cases e |some o=>rw[ho]at e;have e':o=some (ns,sp):=e;subst e';let(a,b,c):=h.ok i ns sp ho;erw[a.bd,b,c]
theorem zr(h:bc K H a [.int 0,.int 1]):cu K H (.ref a) 0:=#[a,Z,h]
theorem ac6(j:Int)(ns ms:List Int):Ao j ns ms=match cornO j ns ms with|none=>.none|some c=>fU c:=by unfold Ao cornO;split<;>rfl
inductive aeS(K:aa)(vs:List V)(H:Hp)(Q:VK):Prop |mk (m:_)(v1:_)(v2:_)(aA:_)(rs:_)(r:_)(f:_)(j:_)(t:_)(d1:_)(d2:_)(o1:_)(o2:_)(ax:_)(h0:vs=[m,v1,v2,.int aA])(h1:RD K H m (jF rs r f j t))(h2:1<=j)(h3:j<=50)(h4:RD K H v1 d1)(h5:RD K H v2 d2)(h6:itR d1 o1)(h7:itR d2 o2)(h8:(∀ns sp,o1=some (ns,sp)->fo ax 100 ns/\1<=sp/\sp<=20))(h9:(∀ns sp,o2=some (ns,sp)->fo ax 100 ns/\1<=sp/\sp<=20))(DA:ax<=100)(UH:10<=aA)(A9:aA<=200)(UG:∀v H',cu K H' v (betR j aA o1 o2)->aE H H'->Q v H')
def Fx(K:aa):Sp:=λvs H Q _=>aeS K vs H Q
theorem Qr:bu ["machine","one","other","rate","squares","corner"] ["machine","one","other","rate"] (aW Hm):=bF aG
theorem a3X(F:FA K mg "bound_between" Hm)(B:bK mg)(gN:GT K mg "NOUGHT" [.int 0,.int 1])(oW:aF P w K mg au "is_line" 1 (wa K))(D9:aF P w K mg au "top_square" 4 (BH K))(a8a:aF P w K mg au "corner_square" 6 (Fw K))(xk:aF P w K mg au "least" 2 (pK K)):aF P w K mg au "bound_between" 7 (Fx K):=by
 let(aN,qx,rB):=gN;exists F.has,Qr,xN λ_ _ _ _=>rfl
 ·let(m,v1,v2,aA,rs,r,f,j,t,d1,d2,o1,o2,ax,rfl,rm,j1,j2,r1,r2,i1,i2,k1,k2,Uy,dP,eQ,k):=h
  have nd:=Qr.nd;erw[_,(aB (bN (PW.pt (j6 (dv (cL (pf oW hr (ak (pv 1) ay)))) (jB (dv (cL (pf oW hr (ak (pv 2) ay))))))) (aI (aV (fz (x:="NOUGHT") Z qx))) bQ) (aB (pS 4 nd (fc (ak (pf D9 hr (ak (pv 1) (ak (pv 3) ay))) (ak (pf D9 hr (ak (pv 2) (ak (pv 3) ay))) ay)))) (aB (pS 5 nd (pf a8a hr (ak (pv 0) (ak (pv 1) (ak (pv 2) ay))))) (aB (ij (bN (bS IE (pv 5) gU (bA _)) (aI (kG (ou K Z (pv 4) (ak (pv 5) ay)))) bQ)) (aI (aV (pf xk hr (ak (pv 4) ay)))))))),?_];erw[_,Z,v1,d1,o1,Z,r1,i1,_,Z,?_];cases o1 with |none=>erw[bE (bE ?_)];have:=k _ H (zr (rB H)) (aE.refl _);erw[this] |some q1=>let(ns,sp):=q1;erw[bf ?_];erw[_,Z,v2,d2,o2,Z,r2,i2,_,Z,?_];cases o2 with |none=>erw[bE ?_];erw[k _ H (zr (rB H)) (aE.refl _)] |some q2=>let(ms,sq):=q2;erw[bf ?_];have e1:=qi i1;have e2:=qi i2;subst e1 e2;let(kh,a1,a2):=k1 ns sp rfl;let(gW,b1,b2):=k2 ms sq rfl;erw[_,Z,_,Z,v1,ns,sp,aA,Z,r1,a1,a2,dP,eQ,λt1 H1 a0p s1=>?_];erw[_,Z,_,Z,v2,ms,sq,aA,Z,RD.mono s1 _ r2,b1,b2,dP,eQ,λt2 H2 a0o s2=>?_];erw[cW Z,λl H3 n3=>?_];have t3:=s1.trans (s2.trans n3.same);have zo:fo ns.length 1000 ms:=#[by rw[kh.len,gW.len],gW.up.bd,gW.nz];erw[_,Z,_,Z,_,Z,m,v1,v2,rs,r,f,j,t,ns,ms,sp,sq,Z,RD.mono t3 _ rm,RD.mono t3 _ r1,RD.mono t3 _ r2,kh.up,zo,by rw[kh.len];lia,j1,j2,λc H4 rc s4=>?_];have T1:Bd 2000 (topR aA sp):=(_O.Bz a1 a2 dP eQ).mono aw;have T2:Bd 2000 (topR aA sq):=(_O.Bz b1 b2 dP eQ).mono aw;have R1:cu K H4 t1 (topR aA sp):=((a0p.go s2).go n3.same).go s4;have R2:cu K H4 t2 (topR aA sq):=(a0o.go n3.same).go s4;have t4:=t3.trans s4;rw[ac6]at rc;cases hc:cornO j ns ms with
   |none=>
    rw[hc]at rc;cases rc.IZ;erw[λO H5=>H5=H4/\O=[some m,some v1,some v2,some (.int aA),some (.ref l),some .bD],?_,?_]
    ·erw[_,Z,Z,_,Z,bf ?_]
     erw[Z,Z]
    rintro O H5 ⟨rfl,rfl⟩;erw[_,Z,l,[t1,t2],[topR aA sp,topR aA sq],Z,aD.of (s4 _ _ n3.at'),#[R1,T1,R2,T2,trivial],by simp,λi v q e1 e2 hq=>?_];have zL:betR j aA (some (ns,sp)) (some (ms,sq))=q:=by
     show mnO (mn _ _) (cornO j ns ms)=q;rw[hc];erw[zC ?_ (hq _ (by simp)) (hq _ (by simp))]
     match i,e2 with |0,e2=>cases e2;erw[.inl rfl] |1,e2=>cases e2;erw[.inr rfl]
    erw[k v _ ?_ t4];rw[zL]
    match i,e1,e2 with |0,e1,e2=>cases e1;cases e2;erw[R1] |1,e1,e2=>cases e1;cases e2;erw[R2]
   |some cq=>
    rw[hc]at rc;have Rc:cu K H4 c cq:=rF rc;have Tc:Bd 2000 cq:=(_O.VL j1 j2 kh.bd gW.bd hc).mono aw;have sT:=s4 _ _ n3.at';have tU:j9 H4 (_L.upd H4 l (.lst ([t1,t2]++[c]))):=.vV sT;erw[λO H5=>H5=_L.upd H4 l (.lst ([t1,t2]++[c]))/\O=[some m,some v1,some v2,some (.int aA),some (.ref l),some c],?_,?_]
    ·let(pc,rfl,_):=id Rc
     erw[_,Z,Z,_,Z,bE ?_];erw[_,Z,.inl #[Z,_,aD.of sT],_,Z,l,[t1,t2],_,Z,Z,sT,Zz _ (Ez Z),?_];erw[Z,Z]
    rintro O H5 ⟨rfl,rfl⟩;have up:∀{v:V}{q:Rat},cu K H4 v q->cu K (_L.upd H4 l (.lst ([t1,t2]++[c]))) v q:=λ{v q} h=>rF (RD.t tU _ (zf q) h.rd);erw[_,Z,l,[t1,t2,c],[topR aA sp,topR aA sq,cq],Z,aD.of bP,#[up R1,T1,up R2,T2,up Rc,Tc,trivial],by simp,λi v q e1 e2 hq=>?_];have zL:betR j aA (some (ns,sp)) (some (ms,sq))=q:=by
     show mnO (mn _ _) (cornO j ns ms)=q;rw[hc];show mn (mn _ _) cq=q;have h1:=hq _ (show topR aA sp∈[topR aA sp,topR aA sq,cq] by simp);have h2:=hq _ (show topR aA sq∈[topR aA sp,topR aA sq,cq] by simp);have h3:=hq _ (show cq∈[topR aA sp,topR aA sq,cq] by simp);erw[zC ?_ (oM h1 h2) h3]
     match i,e2 with |0,e2=>cases e2;erw[.inl (zC (.inl rfl) h1 h2).symm] |1,e2=>cases e2;erw[.inl (zC (.inr rfl) h1 h2).symm] |2,e2=>cases e2;erw[.inr rfl]
    have sU:aE H (_L.upd H4 l (.lst ([t1,t2]++[c]))):=λb o e=>by have h0:H2 l=none:=n3.no;have e2:=s2 b o (s1 b o e);rw[aQ (iO e2 h0)];erw[t4 b o e]
    erw[k v _ ?_ sU];rw[zL]
    match i,e1,e2 with |0,e1,e2=>cases e1;cases e2;erw[up R1] |1,e1,e2=>cases e1;cases e2;erw[up R2] |2,e1,e2=>cases e1;cases e2;erw[up Rc]
end
section
theorem Sg(qs:List Rat):cH (qs.map fU)=true:=Sh zf qs
theorem aO.ZN{l:Addr}{d:ag}(dl:H l=some (.lst ys))(r:aO K H ys ds)(rd:RD K H y d)(n1:cH ds=true)(n2:fh d=true):aO K (_L.upd H l (.lst (ys.set i y))) (ys.set i y) (ds.set i d):=by have t:j9 H (_L.upd H l (.lst (ys.set i y))):=.vV dl;have r':=aO.t t _ n1 r;have R5:=RD.t t _ n2 rd;clear r rd dl t;generalize _L.upd H l (.lst (ys.set i y))=H' at r' R5;induction ds generalizing ys i with |nil=>cases r'.nil_inv;erw[dJ] |cons d0 ds ih=>
 let(y0,yr,rfl,h1,h2):=r'.cons_inv;have zA:cH ds=true:=by rw[cH,fb]at n1;erw[n1.2]
 cases i with |zero=>erw[cO R5 h2] |succ i=>erw[cO h1 (ih zA h2)]
theorem VG(xs:List V):jK xs (some 1) none=xs.drop 1:=by unfold jK;have e:_H.cx xs.length 0 (some 1)=min 1 xs.length:=_H.GL _ _ 1;rw[e,_H.QB];cases xs with |nil=>rfl |cons x xs=>
 have e2:min 1 (x::xs).length=1:=by simp
 rw[e2,vL (by simp)]
theorem PD:bu ["machine","items","rate","between"] ["machine","items","rate"] (aW Gr):=bF aG
end
section
end
section
inductive aef(K:aa)(vs:List V)(H:Hp)(Q:VK):Prop |mk (v:_)(r:_)(z:_)(h0:vs=[v,.int z])(h1:cu K H v r)(h2:Bd 2000 r)(h3:z.natAbs<2^24)(h4:∀v H',cu K H' v (r+(z:Rat))->aE H H'->Q v H')
def BL(K:aa):Sp:=λvs H Q _=>aef K vs H Q
theorem XH{r:Rat}{z:Int}(m:r+(z:Rat)=Rat.divInt (r.num*(1:Nat)+z*r.den) (r.den*(1:Nat))):r.num+z*r.den=(r+(z:Rat)).num/\(r.den:Int)=(r+(z:Rat)).den:=by
 have c:(r.num+z*r.den).natAbs.Coprime r.den:=(Int.gcd_add_mul_right_left (r.den:Int) r.num z).trans r.reduced;have e:r+(z:Rat)=#[r.num+z*r.den,r.den,r.den_nz,c]:=by rw[m,Rat.mk_eq_divInt,Int.natCast_one,vP,vP]
 rw[e];erw[Z,Z]
theorem PB:bu ["one","more","p","q"] ["one","more"] (aW Gq):=bF aG
theorem a3i(F:FA K mg "plus_whole" Gq)(B:bK mg):aF P w K mg au "plus_whole" 4 (BL K):=by
 exists F.has,PB,dN λ_ _=>rfl
 ·let(v,r,z,rfl,(p,rfl,hp),br,hz,k):=h
  have nd:=PB.nd;erw[_,(aB (fu (pv 0) (eM K Z (n:=2) Z (bU (bh 2 nd) (bU (bh 3 nd) eK)))) (aI (aV (ip (ak (aP dw (pv 2) (aP cw (pv 1) (pv 3))) (ak (pv 3) ay)))))),?_];erw[_,Z,_,_,Z,hp,Z,_,_,Z,_,_,Z,Z,?_];have bz:Bd 24 (z:Rat):=#[hz,by show 1<2^24;decide];let(e1,e2):=XH (add_div r z);erw[_,Z,_,Z,_,Z,_,_,Z,Z,jT (bz.mono aw).wn.bits br.wd.bits,_,_,Z,Z,_,Z,(by show 2<=sizeLine;decide),λt H' n=>k _ _ #[t,Z,bc.of ?_] n.same];rw[<-e1,<-e2];erw[n.at']
theorem To{os:List Itm}{i:Nat}{ns:List Int}{sp:Int}(h:os[i]? =some (some (ns,sp))):leadF os i=some (aK ns):=by unfold leadF;rw[_O.Ee h];rfl
theorem a64{os:List Itm}{i:Nat}(h:os[i]? =some none):leadF os i=none:=by unfold leadF;rw[_O.Ee h];rfl
theorem a65{os:List Itm}(h:OkIs os){i m:Nat}(e:leadF os i=some m):m<=100:=by unfold leadF at e;cases ho:atO os i with |none=>rw[ho]at e;cases e |some q=>rw[ho]at e;cases e;let(a,_,_):=h i q.1 q.2 ho;erw[qe λz hz=>by have:=a z hz;lia]
theorem Y3{r:Int}{m:Nat}(h1:1<=r)(h2:r<=50)(h3:m<=100):(2*r*(m:Int)).natAbs<2^24:=by
 have iA:(2:Nat)^24=16777216:=by decide
 have:=oG (a:=2*r) (b:=(m:Int)) (m:=100) (n:=100) ao ao;rw[iA];lia
end
section
theorem Qk:bu ["machine","items","squares","fall","kept","i"] ["machine","items","squares"] (aW Hf):=bF aG
end
section
theorem mn3(h:q=x\/q=y\/q=z)(h1:q<=x)(h2:q<=y)(h3:q<=z):mn (mn x y) z=q:=by
 erw[Mq ?_ (oM (oM h1 h2) h3)];rcases h with h|h|h
 ·rw[h];erw[eT (iq _ _) (iq _ _)]
 ·rw[h];erw[eT (iq _ _) (mY _ _)]
 ·rw[h];erw[mY _ _]
theorem Ti{n:Nat}(h:fo n 100 ns):aK ns<=100:=by have:=h.lead;lia
end
end _a
namespace _a
open PySem PySem.Spec PyProof.Rows _L _r _l _W
section
def eV(pl:List Int):ag:=.tuple (pl.map PyData.int)
theorem jZ(pl:List Int):fh (eV pl)=true:=by rw[eV,fh];erw[ki pl]
theorem Rz{v:V}{pl:List Int}(h:RD K H v (eV pl)):∃a,v= .ref a/\bc K H a (pl.map V.int):=by let(a,xs,rfl,h1,h2):=h.cS;rw[h2.fL]at h1;erw[a,Z,h1]
theorem Ry{pl:List Int}(h:bc K H a (pl.map V.int)):RD K H (.ref a) (eV pl):=gu h (mS pl)
def gO(pl:List Int):Itm->List Int |none=>pl |some (ns,_)=>dH pl ns
inductive aee(K:aa)(vs:List V)(H:Hp)(Q:VK):Prop |mk (p:_)(m:_)(rs:_)(r:_)(f:_)(j:_)(t:_)(h0:vs=[.ref p,m])(h1:fN H p)(h2:RD K H m (jF rs r f j t))(h3:qL rs r f j t)(h4:∀v pl H',RD K H' v (eV pl)->fM rs pl->bJ p H H'->Q v H')
def Od(K:aa):Sp:=λvs H Q _=>aee K vs H Q
theorem Py:bu ["_law_bag_here","_law_machine_here"] ["_law_bag_here","_law_machine_here"] (aW Gp):=bF aG
theorem a3j(F:FA K mg "_law_place" Gp)(B:bK mg)(ek:aF P w K mg au "_law_take" 1 lZ):aF P w K mg au "_law_place" 2 (Od K):=by
 exists F.has,Py,dN λ_ _=>rfl
 ·let(p,m,rs,r,f,j,t,rfl,bg,rm,wJ,k):=h
  have nd:=Py.nd;erw[_,(aI (aV (cZ (x:="tuple") (kB K Z) Z (B.at "tuple") jd (ak (fA (N:=["_law_rail","_law_bag_here"]) (js:=[none,some 0]) rfl rfl rfl (kH K rfl (px K (pv 1) az)) (λ_ _ _ _ _=>(bh 0 (gj aw))) (λ_ _ _ _ _=>dM) (λ_ _ _ _ _=>(pf ek hr (ak (pv 1) (ak (aP dw (pv 0) az) ay))))) ay)))),?_];let(ma,mb,rfl,jo,kl):=oH rm;have lr:=wJ.len;erw[_,Z,.inr #[ma,_,0,.ref mb,Z,Z,jo,cN (eJ 0) Z,mb,Z,#[_,kl],λD H1 n1=>?_]];erw[Ls (K:=K) (J:=AM K mb) (p:=p) (H:=H) rs.length _ n1 bg ao (λi=>.int (rs.getD i 0)) (λi H2 hi b2=>?_) (λH2 b2=>?_) (λi d=>∃z r,d= .int z/\rs[i]? =some r/\0<=z/\z<=r) ?_ ?_]
  ·have K3:=kl.t (bJ.t bg b2)
   have e:(rs.map V.int)[i]? =some (.int (rs.getD i 0)):=by rw[cv,List.getD_eq_getElem?_getD,cE hi];rfl
   erw[#[_,_,K3,e],λy H3 #[e3,y3]=>#[e3,by have:=y3 _ K3;rw[e]at this;exact(dU this).symm]]
  ·erw[_,kl.t (bJ.t bg b2),by rw[bV];erw[bL _]]
  ·intro i H2 Q' hi b2 hq
   have er:rs[i]? =some (rs.getD i 0):=by rw[List.getD_eq_getElem?_getD,cE hi];rfl
   let(r0,r1):=wJ.rl _ (fO er);erw[_,Z,_,Z,_,_,Z,Z,p,_,Z,b2.bC,ao,ao,λz H3 z0 z1 b3=>?_];erw[hq _ _ _ #[z,_,Z,er,z0,ao] Z (fJ z) b3]
  ·intro H2 ys ds b2 d2 r2 l2 nl pd
   have iy:∃pl:List Int,ds=pl.map PyData.int/\fM rs pl:=by
    have key:∀(ds:List ag),(∀d∈ds,∃z:Int,d= .int z)->∃pl:List Int,ds=pl.map PyData.int:=by intro ds;induction ds with |nil=>erw[λ_=>#[[],Z]] |cons d ds ih=>intro h;let(z,rfl):=h d (.head _);let(pl,rfl):=ih λx hx=>h x (.tail _ hx);erw[z::pl,Z]
    let(pl,rfl):=key ds λd hd=>by let(i,hi):=vM.mp hd;let(z,_,e,_):=pd i d hi;erw[z,e]
    erw[pl,Z,by simpa using l2,λi x r e1 e2=>?_];let(z,r',e,er,h0,h1):=pd i (.int x) (by rw[cv,e1];rfl);cases e;rw[e2]at er;cases er;erw[h0,h1]
   let(pl,rfl,on):=iy;erw[D,_,Z,.inl #[aD.of d2,λt H3 n3=>?_]];have et:=n3.at';rw[r2.fL]at et;erw[k (.ref t) pl H3 (Ry (bc.of et)) on (b2.trans (.fK b2.bC n3.same))]
end
section
def dR(z:Str):Prop:=∀c∈z.cps.toList,c<0x110000
theorem dR.app{b:Str}(ha:dR a)(hb:dR b):dR (a++b):=λc hc=>by rw[nW,lV,iI]at hc;erw[hc.elim (ha c) (hb c)]
theorem dR.joined{sep:Str}(hs:dR sep):∀l:List Str,(∀a∈l,dR a)->dR (PySem.Str.join sep l) |[],_=>λc hc=>by simp[PySem.Str.join,PySem.Str.empty]at hc |[x],h=>h x (.head _) |x::y::r,h=>((h x (.head _)).app hs).app (dR.joined hs (y::r) λa ha=>h a (.tail _ ha))
theorem dR.join{l:List Str}(hs:dR sep)(h:∀a∈l,dR a):dR (Txt.join sep l):=by show dR (Builtin.Str.glued sep l);rw[tI];erw[dR.joined hs l h]
theorem a2w{n:Nat}(h:dR z):dB n (.str z):=#[by show PyData.strOk z=true;unfold PyData.strOk;rw[Xu];erw[λc hc=>bM (h c (by simpa using hc))],fT _]
theorem RZ{n:Nat}(h:dB n (.str z)):dR z:=λc hc=>by have q:PyData.strOk z=true:=h.lay;unfold PyData.strOk at q;rw[Xu]at q;erw[iY (q c (by simpa using hc))]
theorem pU(h:z.cps.all (·<0x110000)=true):dR z:=RZ (n:=0) #[h,fT _]
theorem Ny:∀(ds:List ag),(∀d∈ds,∃z:Str,d= .str z/\z.length=1/\dR z/\z.cps.toList.all (λc=>decide (97<=c)&&decide (c<=122))=true)->∃zs:List Str,ds=zs.map PyData.str/\∀z∈zs,z.length=1/\dR z/\z.cps.toList.all (λc=>decide (97<=c)&&decide (c<=122))=true |[],_=>#[[],Z,λ_ h=>nomatch h] |d::ds,h=>by let(z,rfl,e):=h d (.head _);let(zs,rfl,q):=Ny ds λx hx=>h x (.tail _ hx);erw[z::zs,Z,λy hy=>by
 rcases bI.mp hy with rfl|hy
 ·erw[e]
 ·erw[q y hy]]
theorem ad7:dR jN:=pU aG
def CJ(c:Nat):Bool:=decide (97<=c)&&decide (c<=122)
def pY(s:Str):Bool:=(decide (1<=s.length)&&decide (s.length<=8))&&s.cps.toList.all CJ
def ID(w s:Str):Prop:=(w="tool"/\(s="up"\/s="down"))\/(w="mark"/\pY s=true)
def xP(d:ag):Prop:=(∃n,d= .tuple [.str "wait",.int n]/\1<=n/\n<=1000)\/∃w s,d= .tuple [.str w,.str s]/\(w="tool"\/w="mark")/\dB 0 (.str s)/\ID w s
theorem UJ:∀l:List Str,(PySem.Str.join ("":Str) l).cps.toList=(l.map λz=>z.cps.toList).flatten
 |[]=>by simp[PySem.Str.join,PySem.Str.empty] |[x]=>by simp[PySem.Str.join] |x::y::r=>by
  show((x++("":Str))++PySem.Str.join ("":Str) (y::r)).cps.toList=_;rw[nW,nW,lV,lV,UJ (y::r)];have:(("":Str)).cps.toList=[]:=by decide+kernel
  rw[this];simp
theorem a4Z{l:List Str}(h1:1<=l.length)(h8:l.length<=8)(h:∀z∈l,z.length=1/\z.cps.toList.all CJ=true):pY (Txt.join ("":Str) l)=true:=by
 have e:(Txt.join ("":Str) l).cps.toList=(l.map λz=>z.cps.toList).flatten:=by show(Builtin.Str.glued ("":Str) l).cps.toList=_;rw[tI];erw[UJ l]
 have el:(Txt.join ("":Str) l).length=l.length:=by
  show(Txt.join ("":Str) l).cps.size=_;rw[<-ky,e,List.length_flatten,EB];have:∀(l:List Str),(∀z∈l,z.length=1/\z.cps.toList.all CJ=true)->(l.map (List.length∘λz=>z.cps.toList)).sum=l.length:=by intro l;induction l with |nil=>intro _;rfl |cons a r ih=>
   intro h;rw[kZ,List.sum_cons,ih λz hz=>h z (.tail _ hz),gy];have:=(h a (.head _)).1;have e2:(List.length∘λz:Str=>z.cps.toList) a=1:=by show a.cps.toList.length=1;rw[ky];erw[this]
   rw[e2,Nat.add_comm]
  erw[this l h]
 unfold pY;rw[el,e,bM h1,bM h8,jv,jv,gQ];intro c hc;let(cs,Du,gM):=List.mem_flatten.mp hc;let(z,hz,rfl):=dC.mp Du;erw[gQ.mp (h z hz).2 c gM]
theorem xP.it{d:ag}(h:xP d):itR d none:=by
 rcases h with⟨n,rfl,_⟩|⟨w,s,rfl,hw|hw,_⟩
 ·erw[.inr #[_,_,Z,.inl Z,Z,Z]]
 ·erw[.inr #[_,_,Z,.inr (.inl hw),Z,Z]]
 ·erw[.inr #[_,_,Z,.inr (.inr hw),Z,Z]]
end
section
def RowW(ds:List ag)(os:List Itm):Prop:=∀(i:Nat)(d:ag),os[i]? =some none->ds[i]? =some d->xP d
theorem RowW.snoc{ds:List ag}{os:List Itm}{d:ag}{o:Itm}(h:RowW ds os)(hl:ds.length=os.length)(hd:o=none->xP d):RowW (ds++[d]) (os++[o]):=by
 intro i x e1 e2;rcases uf e1 with h1|⟨h1,Aa⟩
 ·rcases uf e2 with h2|⟨h2,_⟩
  ·erw[h i x h1 h2]
  ·have:=(dW.mp h1).1;lia
 ·rcases uf e2 with h2|⟨_,vd⟩
  ·have:=(dW.mp h2).1;lia
  ·subst vd;erw[hd Aa.symm]
end
end _a
namespace _a
open PySem PySem.Spec PyProof.Rows _L _l
section
theorem Bm(h:j.natAbs<2^64):Wd j:=nY h aG
inductive aen(vs:List V)(H:Hp)(Q:VK):Prop |mk (p:Int)(q:Int)(h0:vs=[.int p,.int q])(h1:0<q)(h2:q<=10^6)(h3:p.natAbs<=10^9)(h4:Q (.int (eX p q)) H)
def Fq:Sp:=λvs H Q _=>aen vs H Q
theorem PL:bu ["p","q","size"] ["p","q"] (aW Gw):=bF aG
theorem a3p(F:FA K mg "nearest" Gw)(B:bK mg):aF P w K mg au "nearest" 1 Fq:=by
 exists F.has,PL,dN λ_ _=>rfl
 ·let(p,q,rfl,q0,q1,p1,k):=h
  have nd:=PL.nd;erw[_,(aB (pS 2 nd (aP uE (aP dw (aP cw az (fg (x:="abs") nP Z (B.at "abs") pk (ak (pv 0) ay))) (pv 1)) (aP cw az (pv 1)))) (aI (aV (ka (bS wF (pv 0) az (bA _)) (pv 2) (kI kA (pv 2)))))),?_];erw[_,Z,p,Z,_,_,Z,Z,.of_left (dh aw aw),_,Z,_,_,Z,Z,_,Z,_,_,Z,Z,.of_left (dh aw aw),_,_,Z,Z,#[ao,Bm ao],?_];have e:(2*(if p<0 then-p else p)+q)/(2*q)=j4 p q:=by unfold j4;rw[<-AD];rfl
  erw[_,Z,_,_,Z,Z,_,Z,?_];unfold eX at k;rw[<-e]at k;erw[fR (λhc=>?_) (λhc=>?_)]
  ·have hp:p>=0:=iY hc
   rw[bo hp]at k;erw[_,Z,k]
  ·have hp:¬p>=0:=λz=>hc (bM z)
   rw[bj hp]at k;erw[_,Z,_,Z,k]
def NH(ns:List Int)(k:Int):ag:=.tuple ((ns.map λz=>eX (k*z) (aK ns)).map PyData.int)
theorem a1w{k:Int}(h:k.natAbs<=10^6)(g:(z.natAbs:Int)<=1000):(k*z).natAbs<=10^9:=by rw[gz];erw[jf (nX h (show z.natAbs<=1000 by lia)) aw]
inductive adM(K:aa)(vs:List V)(H:Hp)(Q:VK):Prop |mk (v:_)(ns:_)(sp:_)(k:_)(h0:vs=[v,.int k])(h1:RD K H v (du ns sp))(h2:fo ns.length 1000 ns)(h3:ns.length<=1000)(h4:k.natAbs<=10^6)(h5:∀v' H',RD K H' v' (NH ns k)->aE H H'->Q v' H')
def BI(K:aa):Sp:=λvs H Q _=>adM K vs H Q
theorem P1:bu ["line","k","lead"] ["line","k"] (aW FR):=bF aG
theorem a2J(F:FA K mg "stand_at" FR)(B:bK mg)(qk:aF P w K mg au "lead_of" 1 (ud K))(a7s:aF P w K mg au "nearest" 1 Fq):aF P w K mg au "stand_at" 2 (BI K):=by
 exists F.has,P1,dN λ_ _=>rfl
 ·let(v,ns,sp,kk,rfl,rd,ok,hz,hk,k):=h
  have nd:=P1.nd;erw[_,(aB (pS 2 nd (pf qk hr (ak (pv 0) ay))) (aI (aV (cZ (x:="tuple") (kB K Z) Z (B.at "tuple") jd (ak (fA (N:=["step","lead","k"]) (js:=[none,some 2,some 1]) rfl rfl rfl (kH K rfl (px K (pv 0) az)) (λ_ _ _ _ _=>(bh 0 (show List.Nodup (["step","lead","k"]:List Str) by decide+kernel))) (λ_ _ _ _ _=>dM) (λ_ _ _ _ _=>(pf a7s hr (ak (aP cw (pv 2) (pv 0)) (ak (pv 1) ay))))) ay))))),?_];erw[_,Z,v,ns,sp,Z,rd,ok.ne,hz,λH1 s1=>?_];let(a,b,rfl,ha,hb):=oK (RD.mono s1 _ rd);let(lp,lm):=ok.lead;erw[_,Z,.inr #[a,_,1,.ref b,Z,Z,ha,Z,b,Z,#[_,hb],λD H0 nw=>?_]];erw[qI (K:=K) (xs:=ns.map V.int) (ds:=(ns.map λz=>eX (kk*z) (aK ns)).map PyData.int) _ hb nw (by simp) (by simpa using hz) (ki _) ?_ ?_]
  ·intro i x d H2 Q' ex ed s2 hq
   rw[EB]at ed;let(n,en,rfl):=lI ed;cases x9 ex en;erw[_,Z,_,Z,_,_,Z,Z,.of_left (dh ao ao),_,Z,_,_,Z,ao,ao,a1w hk (ok.bd n (fO en)),?_];erw[hq _ _ (aE.refl _) (fJ _)]
  ·intro H' ys s2 d2 r2
   erw[D,_,Z,.inl #[aD.of d2,λt H4 n4=>?_]];erw[k _ _ (gu (bc.of n4.at') (aO.mono n4.same _ r2)) (s1.trans (s2.trans n4.same))]
end
section
def gC(ns:List Int)(j:Nat):List Int:=ns.map λz=>eX (((j:Int)+1)*z) (aK ns)-eX ((j:Int)*z) (aK ns)
def pL(ns:List Int):List ag:=(List.range (aK ns)).map λj=>.tuple ((gC ns j).map PyData.int)
theorem HS(zs:List Int):fh (.tuple (zs.map PyData.int))=true:=by rw[fh];erw[ki zs]
theorem HQ(ns:List Int):cH (pL ns)=true:=gE.mpr λd hd=>by let(j,_,rfl):=dC.mp hd;erw[HS _]
theorem QN(h:i<aK ns):(pL ns)[i]? =some (.tuple ((gC ns i).map PyData.int)):=by unfold pL;rw[cv,cE (by simpa using h),EE];rfl
theorem HR(ns:List Int):(pL ns).length=aK ns:=by simp[pL]
inductive adY(K:aa)(vs:List V)(H:Hp)(Q:VK):Prop |mk (v:_)(ns:_)(sp:_)(h0:vs=[v])(h1:RD K H v (du ns sp))(h2:fo ns.length 1000 ns)(h3:ns.length<=1000)(h4:∀l ys H',H l=none->H' l=some (.lst ys)->aO K H' ys (pL ns)->aE H H'->Q (.ref l) H')
def Fh(K:aa):Sp:=λvs H Q _=>adY K vs H Q
theorem Pf:bu ["line","rows","before","k","behind"] ["line"] (aW G3):=bF aG
theorem a32(F:FA K mg "step_rows" G3)(B:bK mg)(qk:aF P w K mg au "lead_of" 1 (ud K))(Df:aF P w K mg au "stand_at" 2 (BI K)):aF P w K mg au "step_rows" 3 (Fh K):=by
 exists F.has,Pf,dc λ_=>rfl
 ·let(v,ns,sp,rfl,rd,ok,hz,k):=h
  have nd:=Pf.nd;let(lp,lm):=ok.lead;erw[_,(aB (pS 1 nd (fc ay)) (aB (pS 2 nd (pf Df hr (ak (pv 0) (ak az ay)))) (aB (m6 iZ Z (a1I Z (B.at "range") (ak az (ak (aP dw (pf qk hr (ak (pv 0) ay)) az) ay))) (bh 3 nd) (aB (pS 4 nd (pf Df hr (ak (pv 0) (ak (pv 3) ay)))) (aB (kG (ou K Z (pv 1) (ak (cZ (x:="tuple") (kB K Z) Z (B.at "tuple") jd (ak (fA (N:=["new","old"]) (js:=[none,none]) rfl rfl rfl (m7 K rfl false false rfl (B.at "zip") (ak (pv 4) (ak (pv 2) ay))) (λ_ _ _ _ _=>(eM K rfl (n:=2) rfl (bU (bh 0 (gj aw)) (bU (bh 1 (gj aw)) eK)))) (λ_ _ _ _ _=>dM) (λ_ _ _ _ _=>(aP iM (pv 0) (pv 1)))) ay)) ay))) (aI (pS 2 nd (pv 4)))))) (aI (aV (pv 1)))))),?_];erw[cW Z,λl H1 n1=>?_];erw[_,Z,v,ns,sp,0,Z,RD.mono n1.same _ rd,ok,hz,aw,λu H2 ru s2=>?_];have t2:=n1.same.trans s2;erw[_,Z,v,ns,sp,Z,RD.mono t2 _ rd,ok.ne,hz,λH3 s3=>?_];erw[_,_,Z,Z,_,_,Z,#[ao,ao,ao,ao],?_];have t3:=t2.trans s3;have e3:((aK ns:Int)+1-1).toNat=aK ns:=by lia
  erw[DG (Pv:=λi O H4=>aE H H4/\(∃ys,H4 l=some (.lst ys)/\aO K H4 ys ((pL ns).take i))/\∃b v1 v2,RD K H4 b (NH ns i)/\O=[some v,some (.ref l),some b,v1,v2]) ?_ ?_ ?_]
  ·erw[t3,#[[],s3 _ _ (s2 _ _ n1.at'),dJ],u,none,none,RD.mono s3 _ ru,Z]
  ·rintro i O H4 hi ⟨t4,⟨ys,dl,ry⟩,b,v1,v2,rb,rfl⟩
   have zW:i<aK ns:=by lia
   erw[_,Z,_,Z,v,ns,sp,_,Z,RD.mono t4 _ rd,ok,hz,ao,λb2 H5 Ic s5=>?_];erw[_,Z,.inl #[Z,_,aD.of (s5 _ _ dl)],?_];let(a1,xs1,rfl,h1,q1):=Ic.cS;have e1:=q1.fL;subst e1;let(a0,xs0,rfl,h0,q0):=(RD.mono s5 _ rb).cS;have e0:=q0.fL;subst e0;erw[_,Z,_,Z,a1,a0,Z,#[_,h1],#[_,h0],λD H6 nw=>?_];erw[Aq (K:=K) (b1:=false) (b2:=false) (ds:=(gC ns i).map PyData.int) [] rfl h1 h0 nw (by simp[gC]) (by simpa[gC]using hz) (ki _) ?_ ?_]
   ·intro j x y d H7 Q' ex ey ed s7 hq
    let(m,em,rfl):=lI ed;unfold gC at em;rw[cv]at em ex ey;rw[cv]at ex ey;cases en:ns[j]? with |none=>rw[en]at em;cases em |some n=>
     rw[en]at em ex ey;cases em;cases ex;cases ey;erw[_,Z,_,Z,_,_,Z,Z,?_];have ee:(1:Int)+(i:Int)=(i:Int)+1:=by lia
     rw[ee];erw[hq _ _ (aE.refl _) (fJ _)]
   ·intro H7 zs s7 d7 r7
    erw[D,_,Z,.inl #[aD.of d7,λt H8 n8=>?_]];have wm:=s5.trans (s7.trans n8.same);have Ai:=wm _ _ dl;have len:=ry.length;rw[vN,HR]at len;erw[l,ys,_,Z,Z,Ai,?_,?_]
    ·have:(1000:Nat)<sizeLine:=by decide
     lia
    erw[_,Z,?_];have tt:j9 H8 (_L.upd H8 l (.lst (ys++[.ref t]))):=.vV Ai;erw[λb o e=>?_,#[_,bP,?_],_,_,_,?_,Z]
    ·rw[aQ (iO e n1.no)];erw[wm b o (t4 b o e)]
    ·rw[tQ,QN zW]
     have nt:cH ((pL ns).take i)=true:=gE.mpr λd hd=>gE.mp (HQ ns) d (yn hd);exact(aO.t tt _ nt (aO.mono wm _ ry)).append (cO (RD.t tt _ (HS _) (gu (bc.of n8.at') (aO.mono n8.same _ r7))) dJ)
    ·have ee:(1:Int)+(i:Int)=((i+1:Nat):Int):=by lia
     rw[ee]at Ic;erw[RD.t tt _ (HS _) (RD.mono (s7.trans n8.same) _ Ic)]
  ·rintro O H4 ⟨t4,⟨ys,dl,ry⟩,b,v1,v2,rb,rfl⟩
   rw[e3,vL (by rw[HR];erw[bL _])]at ry;erw[_,Z,k l ys H4 n1.no dl ry t4]
end
end _a
namespace _a
open PySem PySem.Spec PyProof.Rows _L _r _l
section
def jq(ti:Int)(q:Rat)(t:Int):Bool:=decide (ti*ti*(q.den:Int)<=t*t*q.num)
inductive aeM(K:aa)(vs:List V)(H:Hp)(Q:VK):Prop |mk (m:_)(sq:_)(t:_)(rs:_)(r:_)(f:_)(j:_)(ti:_)(q:_)(h0:vs=[m,sq,.int t])(h1:RD K H m (jF rs r f j ti))(h2:cu K H sq q)(h3:Bd 2000 q)(h4:1<=ti)(h5:ti<=100)(h6:0<=t)(h7:t.natAbs<2^2400)(h8:Q (.bl (jq ti q t)) H)
def Oy(K:aa):Sp:=λvs H Q _=>aeM K vs H Q
theorem Qm:bu ["machine","square","t","p","q","ticks"] ["machine","square","t"] (aW Hh):=bF aG
theorem a3S(F:FA K mg "are_enough" Hh)(B:bK mg):aF P w K mg au "are_enough" 1 (Oy K):=by
 exists F.has,Qm,lQ λ_ _ _=>rfl
 ·let(m,sq,t,rs,r,f,j,ti,q,rfl,rm,(p,rfl,hp),bq,t1,t2,t0,tw,k):=h
  have nd:=Qm.nd;erw[_,(aB (fu (pv 1) (eM K Z (n:=2) Z (bU (bh 3 nd) (bU (bh 4 nd) eK)))) (aB (pS 5 nd (px K (pv 0) az)) (aI (aV (fC wF (aP cw (aP cw (pv 2) (pv 2)) (pv 3)) (aP cw (aP cw (pv 5) (pv 5)) (pv 4)) (bA _)))))),?_];let(a,b,rfl,ha,hb):=oH rm;have wt:Wd t:=jh tw aw;have EL:Wd (t*t):=jh (n:=4800) (by rw[gz];erw[mX (n:=2400) (m:=2400) tw tw]) aw;have m1:(ti*ti).natAbs<=100*100:=by rw[gz];erw[nX bB bB]
  erw[_,Z,_,_,Z,hp,Z,_,_,Z,_,_,Z,Z,?_];erw[_,Z,.inr #[a,_,4,.int ti,Z,Z,ha,Z,?_]];erw[_,Z,_,Z,_,_,Z,Z,jT wt.bits wt.bits,_,Z,_,_,Z,Z,jT EL.bits bq.wn.bits,?_];erw[_,Z,_,Z,_,_,Z,Z,.of_left (dh bB bB),_,Z,_,_,Z,Z,.of_left (dh bB bB),?_];erw[_,_,Z,Z,k]
theorem L8{t:Int}(hq:0<q.num)(h0:0<=t)(h:ti*ti*(q.den:Int)<=t):jq ti q t=true:=by
 erw[bM (Int.le_trans h ?_)];by_cases ht:t=0
 ·subst ht;simp
 ·have e1:t*1<=t*t:=B9 ao h0
  have e2:t*t*1<=t*t*q.num:=B9 ao (iJ h0 h0)
  lia
theorem abx(h1:1<=ti):jq ti q 0=false:=by
 erw[cG λh=>?_];have:=jg (jg (show 0<ti by lia) (show 0<ti by lia)) (den_pos q);simp only[B7]at h
 lia
inductive adH(K:aa)(vs:List V)(H:Hp)(Q:VK):Prop |mk (m:_)(sq:_)(rs:_)(r:_)(f:_)(j:_)(ti:_)(q:_)(h0:vs=[m,sq])(h1:RD K H m (jF rs r f j ti))(h2:cu K H sq q)(h3:Bd 2000 q)(h4:1<=ti)(h5:ti<=100)(h6:0<q.num)(h7:∀T,1<=T->T.natAbs<2^2400->jq ti q T=true->jq ti q (T-1)=false->Q (.int T) H)
def NT(K:aa):Sp:=λvs H Q _=>adH K vs H Q
theorem OW:bu ["machine","square","enough","too_few","between"] ["machine","square"] (aW FL):=bF aG
theorem a2D(F:FA K mg "ticks_of" FL)(B:bK mg)(Uz:aF P w K mg au "are_enough" 1 (Oy K)):aF P w K mg au "ticks_of" 2 (NT K):=by
 exists F.has,OW,dN λ_ _=>rfl
 ·let(m,sq,rs,r,f,j,ti,q,rfl,rm,rq,bq,t1,t2,hq,k):=h
  have nd:=OW.nd;erw[_,(aB (pS 2 nd az) (aB (rK iZ (dv (cL (pf Uz hr (ak (pv 0) (ak (pv 1) (ak (pv 2) ay)))))) (aI (pS 2 nd (aP cw az (pv 2))))) (aB (pS 3 nd (aP uE (pv 2) az)) (aB (rK iZ (bS oz (aP iM (pv 2) (pv 3)) az (bA _)) (aB (pS 4 nd (aP uE (aP dw (pv 3) (pv 2)) az)) (aI (bN (cL (pf Uz hr (ak (pv 0) (ak (pv 1) (ak (pv 4) ay))))) (aI (pS 2 nd (pv 4))) (aI (pS 3 nd (pv 4))))))) (aI (aV (pv 2))))))),?_];have lim:(ti*ti*(q.den:Int)).natAbs<2^2399:=by
   have m1:(ti*ti).natAbs<=100*100:=by rw[gz];erw[nX ao ao]
   have hd:=bq.den;rw[gz];have:(q.den:Int).natAbs=q.den:=rfl;rw[this];have:=mX (n:=14) (m:=2000) (a:=(ti*ti).natAbs) (b:=q.den) (yj m1 aw) hd;erw[gH this (tO aw aw)]
  have p0:0<ti*ti*(q.den:Int):=jg (jg ao ao) (den_pos q);have e2:(2:Nat)^2400=2^2399*2:=vK 2 2399;generalize hL:ti*ti*(q.den:Int)=L at lim p0;erw[qY (λO H2=>H2=H/\∃(x:Int),O=[some m,some sq,some (.int x),none,none]/\1<=x/\x<=2*L/\jq ti q (x/2)=false) (λO _=>match O with|[_,_,some (.int x),_,_]=>(L-x).toNat|_=>0) ?_ ?_ ?_]
  ·erw[Z,1,Z,ao,ao,abx t1]
  ·rintro O H2 ⟨rfl,x,rfl,x1,xL,hx⟩
   have xw:x.natAbs<2^2400:=by lia
   erw[_,Z,_,Z,_,Z,m,sq,x,rs,r,f,j,ti,q,Z,rm,rq,bq,t1,t2,ao,xw,_,Z,?_];cases Dq:jq ti q x with
   |false=>
    have cy:x<L:=by
     by_cases cy:x<L
     ·erw[cy]
     ·rw[L8 hq ao ao]at Dq;cases Dq
    erw[fR (λhc=>?_) (λhc=>(hc Z).elim)];erw[_,Z,_,_,Z,Z,.of_left (dh aw aw),?_];erw[#[Z,_,Z,ao,ao,?_],?_]
    ·have:2*x/2=x:=by lia
     rw[this];erw[Dq]
    ·show(L-2*x).toNat<(L-x).toNat
     lia |true=>
    erw[fR (λhc=>nomatch hc) (λhc=>?_)];erw[_,Z,_,_,Z,Z,#[aw,jh (n:=2) aw aw],?_];erw[qY (λO H3=>H3=H2/\∃(lo hi:Int)(v:Option V),O=[some m,some sq,some (.int hi),some (.int lo),v]/\0<=lo/\lo<hi/\hi<=2*L/\jq ti q lo=false/\jq ti q hi=true) (λO _=>match O with|[_,_,some (.int x),some (.int y),_]=>(x-y).toNat|_=>0) ?_ ?_ ?_]
    ·erw[Z,x/2,x,none,Z,ao,ao,xL,hx,Dq]
    ·rintro O H3 ⟨rfl,lo,hi,v,rfl,l0,lh,Kt,Vf,DU⟩
     erw[_,Z,_,Z,_,_,Z,Z,_,_,Z,Z,_,Z,?_];erw[fR (λhc=>?_) (λhc=>?_)]
     ·have hgt:hi-lo>1:=iY hc
      erw[_,Z,_,Z,_,_,Z,Z,_,_,Z,Z,#[aw,jh (n:=2) aw aw],?_];have mw:((lo+hi)/2).natAbs<2^2400:=by lia
      erw[_,Z,_,Z,_,Z,m,sq,(lo+hi)/2,rs,r,f,j,ti,q,Z,rm,rq,bq,t1,t2,ao,mw,_,Z,?_];cases hm:jq ti q ((lo+hi)/2)with
      |true=>
       erw[bE ?_];erw[_,Z,#[Z,lo,_,_,Z,l0,ao,ao,Vf,hm],?_];show((lo+hi)/2-lo).toNat<(hi-lo).toNat
       lia |false=>
       erw[bf ?_];erw[_,Z,#[Z,_,hi,_,Z,ao,ao,Kt,hm,DU],?_];show(hi-(lo+hi)/2).toNat<(hi-lo).toNat
       lia
     ·have hle:¬hi-lo>1:=λz=>hc (bM z)
      have e:lo=hi-1:=by lia
      subst e;erw[_,Z,k hi ao ao DU Vf]
    ·rintro O H2 Q1 Q2 hq ⟨v1,e1,v2,e2,i,j,e3,e4,i2,j2,e5,e6,kk,e7,q⟩
     erw[v1,e1,v2,e2,i,j,e3,e4,i2,j2,e5,e6,kk,e7,hq _ _ q]
  ·rintro O H2 Q1 Q2 hq ⟨v1,e1,v2,e2,v3,e3,m',Zx,x',uo,r',f',j',Yv,q',e4,h1,h2,h3,h4,h5,h6,h7,b,eb,q⟩
   erw[v1,e1,v2,e2,v3,e3,m',Zx,x',uo,r',f',j',Yv,q',e4,h1,h2,h3,h4,h5,h6,h7,b,eb,hq _ _ q]
end
end _a
namespace _a
open PySem PySem.Spec PyProof.Rows _L _r _l _C _P
open _O (topR cornO mnO betR atO ownF leadF ownL OkI OkIs)
section
def vw(ti:Int)(q:Rat)(T:Int):Prop:=1<=T/\jq ti q T=true/\jq ti q (T-1)=false
open Classical in
noncomputable def lY(ti:Int)(q:Rat):Int:=if h:∃T,vw ti q T then h.choose else 0
theorem Vc{t:Int}(hq:0<=q.num)(h0:0<=s)(h:s<=t)(e:jq ti q s=true):jq ti q t=true:=by erw[bM (Int.le_trans (iY e) ?_)];erw[B8 (tR h h h0 ao) hq]
theorem YA(hq:0<=q.num)(h1:vw ti q S)(h2:vw ti q T):S=T:=by
 let(a1,a2,a3):=h1;let(b1,b2,b3):=h2;by_cases h:S<=T-1
 ·have:=Vc hq ao h a2
  rw[b3]at this;cases this
 ·by_cases h':T<=S-1
  ·have:=Vc hq ao h' b2
   rw[a3]at this;cases this
  ·lia
theorem N6(hq:0<=q.num)(h:vw ti q T):lY ti q=T:=by have hx:∃T,vw ti q T:=#[T,h];unfold lY;rw[dif_pos hx];erw[YA hq hx.choose_spec h]
theorem IX{q:Rat}(h:0<q):0<q.num:=by
 have h1:=Mp.mpr (Rat.le_of_lt h);have h2:q.num≠0:=λe=>by rw[Rat.num_eq_zero.mp e]at h;erw[absurd h aw]
 lia
noncomputable def vZ(ti:Int)(zs:List Int)(q:Rat):ag:=.tuple [.str "step",.tuple (zs.map PyData.int),.int (lY ti q),fU q]
theorem NF(ti:Int)(zs:List Int)(q:Rat):fh (vZ ti zs q)=true:=by simp[vZ,fh,cH,ki,zf]
inductive aeL(K:aa)(vs:List V)(H:Hp)(Q:VK):Prop |mk (m:_)(rv:_)(sq:_)(rs:_)(r:_)(f:_)(j:_)(ti:_)(zs:_)(q:_)(h0:vs=[m,rv,sq])(h1:RD K H m (jF rs r f j ti))(h2:qL rs r f j ti)(h3:RD K H rv (.tuple (zs.map PyData.int)))(h4:cu K H sq q)(h5:Bd 2000 q)(h6:0<q)(h7:∀v H',RD K H' v (vZ ti zs q)->aE H H'->Q v H')
def Fu(K:aa):Sp:=λvs H Q _=>aeL K vs H Q
theorem Ql:bu ["machine","row","square"] ["machine","row","square"] (aW Hg):=bF aG
theorem a3R(F:FA K mg "step_entry" Hg)(B:bK mg)(a6Y:aF P w K mg au "ticks_of" 2 (NT K)):aF P w K mg au "step_entry" 3 (Fu K):=by
 exists F.has,Ql,lQ λ_ _ _=>rfl
 ·let(m,rv,sq,rs,r,f,j,ti,zs,q,rfl,rm,aL,rr,Rq,bq,q0,k):=h
  have nd:=Ql.nd;erw[_,(aI (aV (ip (ak ba (ak (pv 1) (ak (pf a6Y hr (ak (pv 0) (ak (pv 2) ay))) (ak (pv 2) ay))))))),?_];have t1:=aL.t1;have qn:0<q.num:=IX q0;erw[_,Z,_,Z,_,Z,m,sq,rs,r,f,j,ti,q,Z,rm,Rq,bq,t1.1,t1.2,qn,λT T1 _ T2 T3=>?_];erw[_,Z,cW Z,λt H1 n1=>k (.ref t) H1 ?_ n1.same];have e:=N6 ao #[T1,T2,T3];unfold vZ;rw[e];erw[gu (bc.of n1.at') (cO (bT _) (cO (RD.mono n1.same _ rr) (cO (fJ _) (cO (Rq.go n1.same).rd dJ))))]
theorem EW{aA:Int}(h1:1<=sp)(h2:10<=aA):0<topR aA sp:=by
 have h0:=_O.Bx aA sp;erw[Mo h0 λe=>?_];have hp:0<(sp*aA)^2:=by rw[gI,gI,o8,mH];erw[jg (jg ao ao) (jg ao ao)]
 have h2:0<=Rat.divInt (-((sp*aA)^2)) 10000:=by rw[<-Rat.neg_divInt];show 0<=-(topR aA sp);rw[<-e];decide
 have:=(yf aw).mp h2
 lia
end
section
end
end _a
namespace _a
open PySem PySem.Spec PyProof.Rows _L _r _l _W
section
end
end _a
namespace _a
open PySem PySem.Spec PyProof.Rows _L _r _l _C _P
open _O (topR cornO mnO betR atO ownF leadF ownL OkI OkIs)
section
inductive aeg(K:aa)(vs:List V)(H:Hp)(Q:VK):Prop |mk (m:_)(iv:_)(aA:_)(rs:_)(r:_)(f:_)(j:_)(t:_)(ds:_)(os:_)(h0:vs=[m,iv,.int aA])(h1:RD K H m (jF rs r f j t))(h2:qL rs r f j t)(h3:RD K H iv (.list ds))(h4:iG rs.length ds os)(h5:ds.length<=100)(h6:10<=aA)(h7:aA<=200)(h8:∀l ys H',H l=none->H' l=some (.lst ys)->aO K H' ys ((ownL j aA os).map fU)->aE H H'->Q (.ref l) H')
def Oe(K:aa):Sp:=λvs H Q _=>aeg K vs H Q
theorem a3k(F:FA K mg "own_bounds" Gr)(B:bK mg)(gN:GT K mg "NOUGHT" [.int 0,.int 1])(a8h:aF P w K mg au "bound_between" 7 (Fx K)):aF P w K mg au "own_bounds" 8 (Oe K):=by
 let(aN,qx,rB):=gN;exists F.has,PD,lQ λ_ _ _=>rfl
 ·let(m,iv,aA,rs,r,f,j,t,ds,os,rfl,rm,aL,ri,row,hz,dP,eQ,k):=h
  have nd:=PD.nd;have rN:∀H',RD K H' (.ref aN) (fU 0):=λH'=>(zr (rB H')).rd;erw[_,(aB (bN (dv (zh K Z (pv 1))) (aI (aV (fc (ak (fz (x:="NOUGHT") Z qx) ay)))) bQ) (aB (uy (i0:=3) nd Z (Or.inl Z) (N:=["one","other","machine","rate"]) (js:=[none,none,some 0,some 2]) Z Z Z (m7 K Z true true Z (B.at "zip") (ak (pv 1) (ak (uA (ug K rfl) (pv 1) (rL az) wA) ay))) (λ_ _ _ _ _=>(eM K rfl (n:=2) rfl (bU (bh 0 (show List.Nodup (["one","other","machine","rate"]:List Str) by decide+kernel)) (bU (bh 1 (show List.Nodup (["one","other","machine","rate"]:List Str) by decide+kernel)) eK)))) (λ_ _ _ _ _=>dM) (λ_ _ _ _ _=>(pf a8h hr (ak (pv 2) (ak (pv 0) (ak (pv 1) (ak (pv 3) ay))))))) (aI (aV (aP (E7 K Z) (aP (E7 K Z) (fc (ak (fz (x:="NOUGHT") Z qx) ay)) (pv 3)) (fc (ak (fz (x:="NOUGHT") Z qx) ay))))))),?_];let(ia,xs,rfl,hi,mj):=ri.lst_inv;have lx:=mj.length;have ll:=row.len;erw[_,Z,_,.inl #[_,hi,Z],?_];cases hd:xs with
  |nil=>
   subst hd;erw[bE ?_];erw[cW Z,λl H1 n1=>?_];erw[k l [.ref aN] H1 n1.no n1.at' ?_ n1.same];have e:os=[]:=by
    have:os.length=0:=by rw[<-ll,<-lx];rfl
    erw[List.length_eq_zero_iff.mp this]
   rw[e];erw[cO (rN H1) dJ] |cons x0 xr=>
   erw[bf ?_];have cj:os≠[]:=by intro e;rw[e]at ll;rw[hd]at lx;simp at ll lx;rw[ll]at lx;cases lx
   have U9:0<xs.length:=by rw[hd];simp
   erw[_,Z,_,Z,1,Z,ia,xs,Z,.inl #[hi,λtl H1 n1=>?_]];erw[ia,tl,Z,#[_,hi.go n1.same],#[_,aD.of n1.at'],λD H2 n2=>?_];have et:=n1.at';rw[VG]at et;have S0:∀(i:Nat)(o:Itm),os[i]? =some o->∀(ns:List Int)(sp:Int),o=some (ns,sp)->fo rs.length 100 ns/\1<=sp/\sp<=20:=λi o e ns sp e'=>row.ok i ns sp (by rw[e,e']);have lr:=aL.len;erw[Aq (K:=K) (b1:=true) (b2:=true) (xs:=xs) (ys:=xs.drop 1) (ds:=((List.range (os.length-1)).map (λi=>ownF j aA os (i+1))).map fU) _ Z (hi.go n1.same) (aD.of et) n2 (by rw[Xf];simp;lia) (by simp;lia) (Sg _) ?_ ?_]
   ·intro i x y d H3 Q' ex ey ed s3 hq
    have jz:=n1.same.trans s3;rw[List.getElem?_drop]at ey;let(d1,e1,r1):=mj.get' i ex;let(d2,e2,r2):=mj.get' (1+i) ey;let(o1,V9,i1):=row.get e1;let(o2,vk,i2):=row.get e2;have hi2:1+i<os.length:=(dW.mp vk).1;have mE:d=fU (betR j aA o1 o2):=by rw[cv,cv,cE (by simp;lia),EE]at ed;have:=(dU ed).symm;rw[this];show fU (betR j aA (atO os i) (atO os (i+1)))=_;rw[_O.Ee V9,_O.Ee (show os[i+1]? =some o2 by rw[Nat.add_comm];erw[vk])]
    subst mE;erw[_,Z,_,Z,_,Z,_,Z,m,x,y,aA,rs,r,f,j,t,d1,d2,o1,o2,rs.length,Z,RD.mono jz _ rm,aL.j1.1,aL.j1.2,RD.mono jz _ r1,RD.mono jz _ r2,i1,i2,S0 _ _ V9,S0 _ _ vk,ao,dP,eQ,λv H4 rv s4=>?_];erw[hq _ _ s4 rv.rd]
   ·intro H3 zs s3 d3 r3
    have lz:=r3.length;simp at lz;erw[cW Z,λl1 H4 n4=>?_];erw[_,Z,l1,D,_,zs,Z,Z,aD.of n4.at',aD.of (n4.same _ _ d3),Fz _ (by simp;lia),λl2 H5 n5=>?_];erw[cW Z,λl3 H6 n6=>?_];erw[l2,l3,_,_,Z,Z,aD.of (n6.same _ _ n5.at'),aD.of n6.at',Fz _ (by simp;lia),λl H7 n7=>?_];have QD:aE H H6:=n1.same.trans (s3.trans (n4.same.trans (n5.same.trans n6.same)));have nl:H l=none:=by cases e:H l with |none=>rfl |some o=>have:=QD _ _ e;rw[n7.no]at this;cases this
    erw[k l _ H7 nl n7.at' ?_ (QD.trans n7.same)];rw[_O.a2g j aA cj,lj,lj];exact((cO (rN H7) dJ).append (aO.mono (n4.same.trans (n5.same.trans (n6.same.trans n7.same))) _ r3)).append (cO (rN H7) dJ)
inductive aeJ(K:aa)(vs:List V)(H:Hp)(Q:VK):Prop |mk (m:_)(iv:_)(l:_)(ys:_)(rs:_)(r:_)(f:_)(j:_)(t:_)(ds:_)(os:_)(g:_)(h0:vs=[m,iv,.ref l])(h1:RD K H m (jF rs r f j t))(h2:qL rs r f j t)(h3:RD K H iv (.list ds))(h4:iG rs.length ds os)(h5:ds.length<=30)(h6:H l=some (.lst ys))(h7:aO K H ys ((lst os.length g).map fU))(h8:(∀i,i<=os.length->Bd 900 (g i)))(h9:∀l ys H',H l=none->H' l=some (.lst ys)->aO K H' ys ((lst os.length (fl os.length (leadF os) (2*f) g)).map fU)->aE H H'->Q (.ref l) H')
def Ov(K:aa):Sp:=λvs H Q _=>aeJ K vs H Q
theorem a3Q(F:FA K mg "kept_by_fall" Hf)(B:bK mg)(oW:aF P w K mg au "is_line" 1 (wa K))(qk:aF P w K mg au "lead_of" 1 (ud K))(xi:aF P w K mg au "plus_whole" 4 (BL K))(xk:aF P w K mg au "least" 2 (pK K)):aF P w K mg au "kept_by_fall" 5 (Ov K):=by
 erw[F.has Qk (λvs H Q E h=>?_) (λ_ _ _ _ _ _=>lQ λ_ _ _=>rfl) (λfa aH A outer s H vs Q E hr h=>?_)]
 · let(m,iv,l,ys,rs,r,f,j,t,ds,os,g,rfl,_):=h
   rfl
 · let(m,iv,l,ys,rs,r,f,j,t,ds,os,g,rfl,rm,aL,ri,row,hz,dl,rds,bg,k):=h
   have nd:=Qk.nd;erw[_,(aB (pS 3 nd (px K (pv 0) az)) (aB (pS 4 nd (cZ (x:="list") (Jr K Z) Z (B.at "list") Xa (ak (pv 2) ay))) (aB (m6 iZ Z (a1H Z (B.at "reversed") (ak (cZ (x:="range") ach rfl (B.at "range") PyProof.Rows.boot_range (ak (dZ K B (ak (pv 1) ay)) ay)) ay)) (bh 5 nd) (aI (bN (cL (pf oW hr (ak (px K (pv 1) (pv 5)) ay))) (aI (fu (pf xk hr (ak (fc (ak (px K (pv 4) (pv 5)) (ak (pf xi hr (ak (px K (pv 4) (aP dw (pv 5) az)) (ak (aP cw (aP cw az (pv 3)) (pf qk hr (ak (px K (pv 1) (pv 5)) ay))) ay))) ay))) ay)) (zi (pv 4) (pv 5) set_list))) bQ))) (aI (aV (pv 4)))))),?_];let(ma,mb,rfl,jo,kl):=oH rm;let(ia,xs,rfl,hi,mj):=ri.lst_inv;have lx:=mj.length;have ll:=row.len;have lr:=aL.len;have hL:∀i m,leadF os i=some m->(2*f*(m:Int)).natAbs<2^24:=λi m e=>Y3 aL.f1.1 aL.f1.2 (a65 row.Cr e);have FB:∀i,i<=os.length->Bd 1700 (fl os.length (leadF os) (2*f) g i):=λi hi=>(a9U bg hL i hi).mono ao;erw[_,Z,.inr #[ma,_,2,.int f,Z,Z,jo,Z,?_]];erw[_,Z,l,ys,Z,.inl (aD.of dl),λD H1 n1=>?_];erw[_,Z,ia,_,Z,.inl (hi.go n1.same),_,Z,λpr H2 n2=>?_];erw[pr,_,Z,n2.at',ao,ao,?_];have eN:((xs.length:Int)).toNat=os.length:=by lia
   rw[eN];erw[a9P (Pv:=λi O H5=>aE H H5/\∃zs v1,H5 D=some (.lst zs)/\aO K H5 zs ((lst os.length λk=>if os.length<=k+i then fl os.length (leadF os) (2*f) g k else g k).map fU)/\O=[some (.ref ma),some (.ref ia),some (.ref l),some (.int f),some (.ref D),v1]) ?_ ?_ ?_]
   · erw[n1.same.trans n2.same,ys,none,n2.same _ _ n1.at',?_,Z]
     rw[Jm (g:=λk=>if os.length<=k+0 then fl os.length (leadF os) (2*f) g k else g k) (g':=g)]
     ·erw[aO.mono (n1.same.trans n2.same) _ rds]
     · intro k hk
       show g k=if os.length<=k+0 then _ else g k;split
       · next h => have:k=os.length:=by lia
                   subst this;erw[DL.symm]
       ·rfl
   · rintro i O H3 Uo ⟨s3,zs,v1,dz,rz,rfl⟩
     obtain⟨x,hx⟩:∃x,xs[os.length-1-i]? =some x:=#[_,cE (show os.length-1-i<xs.length by lia)];generalize hc:os.length-1-i=c at hx;have xp:c<os.length:=by lia
     have eI:((os.length:Int)-1-(i:Int))=(c:Int):=by lia
     rw[eI];let(d,ed,rd):=mj.get' c hx;let(o,eo,it):=row.get ed;have lz:=rz.length;rw[bV,uN]at lz;have Wj:fk xs (c:Int)=some x:=cN ao (by simpa using hx);erw[_,Z,_,Z,.inl #[ia,_,_,_,Z,Z,hi.go s3,Wj,?_]];erw[x,d,o,Z,RD.mono s3 _ rd,it,_,Z,?_];cases o with
     |none=>
       erw[bf ?_];erw[s3,zs,_,dz,?_,Z];rw[Jm (g:=λk=>if os.length<=k+(i+1)then fl os.length (leadF os) (2*f) g k else g k) (g':=λk=>if os.length<=k+i then fl os.length (leadF os) (2*f) g k else g k)]
       ·erw[rz]
       · intro k _
         show(if os.length<=k+i then _ else g k)=if os.length<=k+(i+1)then _ else g k;by_cases h1:os.length<=k+i
         ·rw[bo h1,bo ao]
         · rw[bj h1]
           by_cases h2:k=c
           ·subst h2;rw[bo ao,DK xp (a64 eo)]
           ·rw[bj ao] |some q=>
       let(ns,sp):=q;erw[bE ?_];have mE:=qi it;subst mE;let(cT,_,_):=row.ok c ns sp eo;obtain⟨z1,V2⟩:∃z,zs[c+1]? =some z:=#[_,cE (show c+1<zs.length by lia)];obtain⟨z0,V3⟩:∃z,zs[c]? =some z:=#[_,cE (show c<zs.length by lia)];have R1:cu K H3 z1 (fl os.length (leadF os) (2*f) g (c+1)):=by
        let(d1,e1,r1):=rz.get' (c+1) V2;rw[cv,uO _ (show c+1<=os.length by lia)]at e1;cases e1;have:os.length<=c+1+i:=by lia
        simp only[bo this]at r1;erw[rF r1]
       have R0:cu K H3 z0 (g c):=by
        let(d1,e1,r1):=rz.get' c V3;rw[cv,uO _ (show c<=os.length by lia)]at e1;cases e1;have:¬os.length<=c+i:=by lia
        simp only[bj this]at r1;erw[rF r1]
       have eT1:((c:Int)+1).toNat=c+1:=by lia
       have Az:fk zs ((c:Int)+1)=some z1:=cN ao (by rw[eT1];erw[V2]);have LQ:fk zs (c:Int)=some z0:=cN ao (by simpa using V3);erw[_,Z,_,Z,.inl #[D,_,_,_,Z,Z,aD.of dz,LQ,?_]];erw[_,Z,_,Z,_,_,Z,Z,.inl #[D,_,_,_,Z,Z,aD.of dz,Az,?_]];erw[_,Z,_,_,Z,Z,.of_left (dh aw aw),?_];erw[_,Z,_,Z,.inl #[ia,_,_,_,Z,Z,hi.go s3,Wj,?_]];erw[x,ns,sp,Z,RD.mono s3 _ rd,cT.ne,by rw[cT.len];lia,λH4 s4=>?_];have qB:=aL.f1;erw[_,_,Z,Z,.of_left (dh ao ao),?_];have us:=hL c _ (To eo);erw[z1,_,_,Z,R1.go s4,(FB (c+1) ao).mono aw,us,λu H5 ru s5=>?_];erw[cW Z,λl2 H6 n6=>?_];have rE:=s4.trans (s5.trans n6.same);have WA:=R0.go rE;have Ru:=ru.go n6.same;have B1:Bd 2000 (g c):=(bg _ ao).mono aw;have B2:Bd 2000 (fl os.length (leadF os) (2*f) g (c+1)+((2*f*(aK ns:Int):Int):Rat)):=(LU (FB (c+1) ao) us).mono aw;erw[l2,[z0,u],[_,_],Z,aD.of n6.at',#[WA,B1,Ru,B2,trivial],by simp,λc' v q e1 e2 hq=>?_];have zL:mn (g c) (fl os.length (leadF os) (2*f) g (c+1)+((2*f*(aK ns:Int):Int):Rat))=q:=by
        erw[zC ?_ (hq _ (by simp)) (hq _ (by simp))]
        match c',e2 with |0,e2=>cases e2;erw[.inl rfl] |1,e2=>cases e2;erw[.inr rfl]
       have Rv:cu K H6 v q:=by match c',e1,e2 with |0,e1,e2=>cases e1;cases e2;erw[WA] |1,e1,e2=>cases e1;cases e2;erw[Ru]
       have Vn:=rE _ _ dz;have ix0:kM zs.length (c:Int)=some c:=by unfold kM;rw[bo ao,bo ao];simp
       erw[_,Z,_,Z,D,zs,_,_,Z,Z,Vn,ix0,?_];erw[λb o e=>?_,_,_,bP,?_,Z]
       ·rw[aQ (iO e n1.no)];erw[rE b o (s3 b o e)]
       · have h:=aO.ZN (i:=c) Vn (aO.mono rE _ rz) Rv.rd (Sg _) (zf _)
         rw[<-List.map_set]at h;have e:(lst os.length λk=>if os.length<=k+i then fl os.length (leadF os) (2*f) g k else g k).set c q=lst os.length λk=>if os.length<=k+(i+1)then fl os.length (leadF os) (2*f) g k else g k:=by
          rw[<-a5G (g:=λk=>if os.length<=k+i then fl os.length (leadF os) (2*f) g k else g k) (g':=λk=>if os.length<=k+(i+1)then fl os.length (leadF os) (2*f) g k else g k) (i:=c)]
          · have:os.length<=c+(i+1):=by lia
            simp only[bo this];rw[DM xp (To eo),zL]
          · intro k _ hk
            show(if os.length<=k+(i+1)then _ else g k)=if os.length<=k+i then _ else g k;by_cases h1:os.length<=k+i
            ·rw[bo h1,bo ao]
            ·rw[bj h1,bj ao]
         rw[e]at h;erw[h]
   · rintro O H3 ⟨s3,zs,v1,dz,rz,rfl⟩
     rw[Jm (g:=λk=>if os.length<=k+os.length then fl os.length (leadF os) (2*f) g k else g k) (g':=fl os.length (leadF os) (2*f) g) (λk hk=>by show _=if os.length<=k+os.length then _ else _;rw[bo ao])]at rz;erw[_,Z,k D zs H3 n1.no dz rz s3]
def QY(f j aA:Int)(os:List Itm):Rat:=fl os.length (leadF os) (2*f) (ownF j aA os) 1
inductive adZ(K:aa)(vs:List V)(H:Hp)(Q:VK):Prop |mk (m:_)(iv:_)(aA:_)(rs:_)(r:_)(f:_)(j:_)(t:_)(ds:_)(os:_)(h0:vs=[m,iv,.int aA])(h1:RD K H m (jF rs r f j t))(h2:qL rs r f j t)(h3:RD K H iv (.list ds))(h4:iG rs.length ds os)(h5:ds.length<=30)(h6:1<=ds.length)(h7:10<=aA)(h8:aA<=200)(h9:∀v H',cu K H' v (QY f j aA os)->aE H H'->Q v H')
def Fi(K:aa):Sp:=λvs H Q _=>adZ K vs H Q
theorem Ph:bu ["machine","items","rate"] ["machine","items","rate"] (aW G5):=bF aG
theorem a3h(F:FA K mg "reach_behind_first" G5)(B:bK mg)(a7f:aF P w K mg au "own_bounds" 8 (Oe K))(a7D:aF P w K mg au "kept_by_fall" 5 (Ov K)):aF P w K mg au "reach_behind_first" 9 (Fi K):=by
 exists F.has,Ph,lQ λ_ _ _=>rfl
 ·let(m,iv,aA,rs,r,f,j,t,ds,os,rfl,rm,aL,ri,row,hz,h1,dP,eQ,k):=h
  have nd:=Ph.nd;erw[_,(aI (aV (px K (pf a7D hr (ak (pv 0) (ak (pv 1) (ak (pf a7f hr (ak (pv 0) (ak (pv 1) (ak (pv 2) ay)))) ay)))) az))),?_];have ll:=row.len;have hB:=_O.RR aL.j1.1 aL.j1.2 dP eQ row.Cr;erw[_,Z,_,Z,_,Z,_,Z,_,Z,m,iv,aA,rs,r,f,j,t,ds,os,Z,rm,aL,ri,row,ao,dP,eQ,λl1 y1 H1 Sn d1 r1 s1=>?_];erw[m,iv,l1,y1,rs,r,f,j,t,ds,os,ownF j aA os,Z,RD.mono s1 _ rm,aL,RD.mono s1 _ ri,row,hz,d1,r1,λi _=>(hB i).mono aw,λl2 y2 H2 Sm d2 r2 s2=>?_];have ly:=r2.length;rw[bV,uN]at ly;obtain⟨z,ez⟩:∃z,y2[1]? =some z:=#[_,cE (show 1<y2.length by lia)];erw[.inl #[l2,_,1,z,Z,Z,aD.of d2,cN aw ez,?_]];let(d,ed,rd):=r2.get' 1 ez;rw[cv,uO _ (show 1<=os.length by lia)]at ed;cases ed;erw[k z H2 (rF rd) (s1.trans s2)]
end
end _a
namespace _a
open PySem PySem.Spec PyProof.Rows _L _l _W
open _O (Itm)
section
theorem a5o{v:V}{rs:List Int}{es:List ag}(h:RD K H v (.tuple (.tuple (rs.map PyData.int)::es))):∃a b ys,v= .ref a/\bc K H a (.ref b::ys)/\bc K H b (rs.map V.int):=by let(a,xs,rfl,h1,h2):=h.cS;let(x1,r1,rfl,e1,h2):=h2.cons_inv;let(b,ys,rfl,h3,h4):=e1.cS;rw[h4.fL]at h3;erw[a,b,r1,Z,h1,h3]
def iu(z:Str):ag->Bool | .str x=>x==z |_=>false
theorem DP(z:Str)(d:ag):PyData.eqv d (.str z)=iu z d:=by cases d<;>simp[PyData.eqv,iu]
theorem V5(z:Str)(d:ag):PyData.eqv (.str z) d=iu z d:=by cases d<;>simp[PyData.eqv,iu];rw[kx];simp;erw[eq_comm]
theorem Ze(d:ag):(∃z,d= .str z)\/(jU (mJ d) "str"=false/\∀z,d≠ .str z):=by cases d with |str z=>erw[.inl #[z,Z]] |_=>erw[.inr #[by simp[mJ];decide,λ_ z=>nomatch z]]
theorem Ya:jU "str" "str"=true:=by decide
def JH(d:ag):Bool:=iu "up" d||iu "down" d
def wM(c:Nat):Bool:=decide (97<=c)&&decide (c<=122)
def isNm:ag->Bool | .str x=>(decide (1<=x.length)&&decide (x.length<=8))&&x.cps.toList.all wM |_=>false
def qj(wd v:ag):Bool:=if iu "wait" wd then da 1 1000 v else if iu "tool" wd then JH v else iu "mark" wd&&isNm v
def zp:ag->Bool | .int i=>i !=0 |_=>true
def uG(n:Nat):ag->Bool | .tuple ds=>(ds.length==n&&ds.all (da (-100) 100))&&ds.any zp |_=>false
def nc(n:Nat):ag->Bool | .tuple [wd,a,b]=>iu "line" wd&&(uG n a&&da 1 20 b) | .tuple [wd,v]=>qj wd v |_=>false
def kC:ag->Bool | .str x=>decide (x.length<=900) |_=>true
def BS:ag->Bool | .tuple ds=>ds.all kC |_=>true
inductive adD(f:ag->Bool)(K:aa)(vs:List V)(H:Hp)(Q:VK):Prop |mk (v:_)(d:_)(h0:vs=[v])(h1:RD K H v d)(h2:kC d=true)(h3:∀H',aE H H'->Q (.bl (f d)) H')
def NQ(f:ag->Bool)(K:aa):Sp:=λvs H Q _=>adD f K vs H Q
theorem ZH(h:kC (.str z)=true):z.length<=900:=iY h
theorem Sv(n:Nat):decide ((1:Int)<=(n:Int))=decide (1<=n):=by rw[kx];simp;omega
theorem a4X(n:Nat):decide ((n:Int)<=8)=decide (n<=8):=by rw[kx];simp;omega
theorem Wt{l:List Nat}{f:Nat->Bool}:(l.map f).all id=l.all f:=by rw[List.all_map];rfl
theorem ad8:∀c<128,decide (c∈jN.cps.toList)=wM c:=by decide+kernel
theorem adb:∀c∈jN.cps.toList,c<128:=by decide+kernel
theorem ada(c:Nat):decide (c∈jN.cps.toList)=wM c:=by
 by_cases h:c<128
 ·erw[ad8 c h]
 ·rw[cG (λhc=>h (adb c hc)),wM,cG (show¬c<=122 by omega),Bool.and_false]
theorem Qd:bu ["thing"] ["thing"] (aW GW):=bF aG
theorem a3J(F:FA K mg "is_name" GW)(B:bK mg)(a8y:GV mg "LONGEST_NAME" (.int 8))(a8z:GV mg "LETTERS" (.str jN)):aF P w K mg au "is_name" 1 (NQ isNm K):=by
 exists F.has,Qd,dc λ_=>rfl
 ·let(v,d,rfl,rd,sh,k):=h
  have nd:=Qd.nd;erw[_,(aB (bN (PW.pt (j6 (dv (cL (ow K B (ak (pv 0) (ak (oq (x:="str") (v:=.ty "str") Z (B.at "str") je rfl) ay))))) (jB (dv (a1t zk zk az (fg (x:="len") ack rfl (B.at "len") PySem.boot_len (ak (pv 0) ay)) (fz (x:="LONGEST_NAME") rfl a8y)))))) (aI (aV jC)) bQ) (aI (aV (fg (x:="all") (xM K Z Z) Z (B.at "all") AX (ak (fA (N:=["letter"]) (js:=[none]) rfl rfl rfl (Iu (pv 0)) (λ_ _ _ _ _=>(bh 0 (jk _))) (λ_ _ _ _ _=>dM) (λ_ _ _ _ _=>(fC RV (pv 0) (fz (x:="LETTERS") rfl a8z) (by with_unfolding_all rfl)))) ay))))),?_];rcases Ze d with⟨z,rfl⟩|⟨ht,hn⟩
  ·erw[_,Z,.inl #[_,_,"str",true,Z,rd.ty,aw,Ya,_,Z,bf ?_]]
   cases rd.str_inv;have hl:=ZH sh;have k:∀H',aE H H'->Q (.bl ((decide (1<=z.length)&&decide (z.length<=8))&&z.cps.toList.all wM)) H':=k;erw[_,Z,z,Z,jf hl aw,_,_,Z,Z,_,Z,?_];erw[fR (λh1=>?_) (λh1=>?_)]
   ·rw[<-Sv,show decide ((1:Int)<=(z.length:Int))=true from h1,jv]at k
    erw[_,_,Z,Z,_,Z,?_];rw[a4X];cases e8:decide (z.length<=8)with |false=>rw[e8,jw]at k;erw[bE (k H (aE.refl _))] |true=>
     rw[e8,jv]at k;erw[bf #[_,Z,z,Z,λD H0 nw=>?_]];erw[VN (f:=wM) [] nw ao (λc H2 Q' hc s2 hq=>?_) (λH2 s2 d2=>?_)]
     ·erw[_,Z,c,jN,Z,Z,?_]
      rw[ada];erw[hq _ (aE.refl _)]
     ·erw[D,_,Z,aD.of d2,?_]
      rw[Wt];erw[k H2 s2]
   ·rw[<-Sv,show decide ((1:Int)<=(z.length:Int))=false from EH.mpr h1,jw,jw]at k
    erw[_,Z,bE (k H (aE.refl _))]
  ·have e:isNm d=false:=by cases d<;>first|rfl|erw[absurd rfl (hn _)]
   rw[e]at k;erw[_,Z,.inl #[_,_,"str",false,Z,rd.ty,aw,ht,_,Z,bE ?_]];erw[k H (aE.refl _)]
inductive adP(K:aa)(vs:List V)(H:Hp)(Q:VK):Prop |mk (x:_)(v:_)(wd:_)(d:_)(h0:vs=[x,v])(h1:RD K H x wd)(h2:RD K H v d)(h3:dB 8 wd)(h4:dB 8 d)(h5:kC d=true)(h6:∀H',aE H H'->Q (.bl (qj wd d)) H')
def NX(K:aa):Sp:=λvs H Q _=>adP K vs H Q
theorem yV{d:ag}(h:dB 8 d):SeqAt.shaped d=true:=h.shaped aw
theorem Qb:bu ["word","value"] ["word","value"] (aW GS):=bF aG
theorem a3H(F:FA K mg "is_short_item" GS)(B:bK mg)(a8w:GV mg "LONGEST_WAIT" (.int 1000))(gS:GT K mg "SIDES" [.str "up",.str "down"])(j7:aF P w K mg au "is_whole_within" 2 (mO K))(a7I:aF P w K mg au "is_name" 1 (NQ isNm K)):aF P w K mg au "is_short_item" 3 (NX K):=by
 exists F.has,Qb,dN λ_ _=>rfl
 ·let(x,v,wd,d,rfl,HJ,rd,IK,wL,sh,k):=h
  have nd:=Qb.nd;let(aS,a8q,Zv):=gS;erw[_,(aB (bN (bS (dQ K Z hr.units) (pv 0) ba (bA _)) (aI (aV (pf j7 hr (ak (pv 1) (ak az (ak (fz (x:="LONGEST_WAIT") Z a8w) ay)))))) bQ) (aB (bN (bS (dQ K Z hr.units) (pv 0) ba (bA _)) (aI (aV (fC (a6H K Z (hr.Y7)) (pv 1) (fz (x:="SIDES") Z a8q) (by with_unfolding_all rfl)))) bQ) (aI (aV (m8 (fC (dQ K Z hr.units) (pv 0) ba (bA _)) (mU (pf a7I hr (ak (pv 1) ay)))))))),?_];have k:∀H',aE H H'->Q (.bl (if iu "wait" wd then da 1 1000 d else if iu "tool" wd then JH d else iu "mark" wd&&isNm d)) H':=k;erw[_,Z,.inr #[_,_,HJ,bT _,yV IK,aG,_,Z,?_]];rw[DP];cases e1:iu "wait" wd with |true=>rw[e1,bo rfl]at k;erw[bE #[_,Z,_,d,1,1000,Z,rd,k H (aE.refl _)]] |false=>rw[e1,bj dX]at k;erw[bf #[_,Z,.inr #[_,_,HJ,bT _,yV IK,aG,_,Z,?_]]];rw[DP];cases e2:iu "tool" wd with
   |true=>
    rw[e2,bo rfl]at k;erw[bE #[_,Z,aS,_,d,[.str "up",.str "down"],Z,Zv H,rd,cO (bT _) (cO (bT _) dJ),yV wL,?_,?_]]
    ·intro e he
     rcases bI.mp he with rfl|he
     ·decide+kernel
     rcases bI.mp he with rfl|he
     ·decide+kernel
     ·exact(ck he).elim
    ·have e:([.str "up",.str "down"]:List ag).any (λe=>PyData.eqv e d)=JH d:=by rw[qV,qV,List.any_nil,V5,V5,Bool.or_false];rfl
     rw[e];erw[k H (aE.refl _)] |false=>rw[e2,bj dX]at k;erw[bf #[_,Z,.inr #[_,_,HJ,bT _,yV IK,aG,_,Z,?_]]];rw[DP];cases e3:iu "mark" wd with |true=>rw[e3,jv]at k;erw[bE #[_,Z,_,d,Z,rd,sh,k]] |false=>rw[e3,jw]at k;erw[bf (k H (aE.refl _))]
theorem a4f(i:Int):(!decide (i=0))=(i !=0):=by rw[kx];simp
theorem a6G{lo hi:Int}{d:ag}(h:da lo hi d=true):∃i,d= .int i:=by cases d<;>simp[da]at h;erw[_,Z]
theorem any_map'{ds:List ag}{f:ag->Bool}:(ds.map f).any id=ds.any f:=by rw[List.any_map];rfl
inductive adN(K:aa)(vs:List V)(H:Hp)(Q:VK):Prop |mk (m:V)(v:V)(rs:List Int)(es:List ag)(d:ag)(h0:vs=[m,v])(h1:RD K H m ((.tuple (.tuple (rs.map PyData.int)::es))))(h2:RD K H v d)(h3:rs.length<=3)(h4:∀H',aE H H'->Q (.bl (uG rs.length d)) H')
def NV(K:aa):Sp:=λvs H Q _=>adN K vs H Q
theorem Qv:bu ["machine","thing","rails"] ["machine","thing"] (aW Hr):=bF aG
theorem a41(F:FA K mg "are_steps" Hr)(B:bK mg)(UA:GV mg "MOST_STEPS" (.int 100))(j7:aF P w K mg au "is_whole_within" 2 (mO K)):aF P w K mg au "are_steps" 3 (NV K):=by
 exists F.has,Qv,dN λ_ _=>rfl
 ·let(m,v,rs,es,d,rfl,rm,rd,l3,k):=h
  have nd:=Qv.nd;erw[_,(aB (pS 2 nd (px K (pv 0) az)) (aB (bN (PW.pt (j6 (dv (cL (ow K B (ak (pv 1) (ak (oq (x:="tuple") (v:=.ty "tuple") Z (B.at "tuple") jd rfl) ay))))) (jB (bS (mW K rfl hr.units) (dZ K B (ak (pv 1) ay)) (dZ K B (ak (pv 2) ay)) (bA _))))) (aI (aV jC)) bQ) (aB (bN (dv (cL (fg (x:="all") (xM K Z Z) Z (B.at "all") AX (ak (fA (N:=["step"]) (js:=[none]) rfl rfl rfl (kH K rfl (pv 1)) (λ_ _ _ _ _=>(bh 0 (jk _))) (λ_ _ _ _ _=>dM) (λ_ _ _ _ _=>(pf j7 hr (ak (pv 0) (ak (kI kA (fz (x:="MOST_STEPS") rfl UA)) (ak (fz (x:="MOST_STEPS") rfl UA) ay)))))) ay)))) (aI (aV jC)) bQ) (aI (aV (fg (x:="any") (acS K Z Z) Z (B.at "any") Xb (ak (fA (N:=["step"]) (js:=[none]) rfl rfl rfl (kH K rfl (pv 1)) (λ_ _ _ _ _=>(bh 0 (jk _))) (λ_ _ _ _ _=>dM) (λ_ _ _ _ _=>(fC (mW K rfl hr.units) (pv 0) az (bA _)))) ay))))))),?_];let(am,ar,ym,rfl,hm,har):=a5o rm;erw[_,Z,.inr #[am,_,0,_,Z,Z,hm,cN (eJ 0) Z,?_]];rcases yD d with⟨ds,rfl⟩|⟨ht,hn⟩
  ·erw[_,Z,.inl #[_,_,"tuple",true,Z,rd.ty,aw,rj,_,Z,bf ?_]]
   let(av,xs,rfl,hx,hd):=rd.cS;have hl:=hd.length;erw[_,Z,av,_,Z,.inr hx,_,Z,ar,_,Z,.inr har,.inl #[_,_,Z,Z,_,Z,?_]];have k:∀H',aE H H'->Q (.bl ((ds.length==rs.length&&ds.all (da (-100) 100))&&ds.any zp)) H':=k;have e0:(!decide ((xs.length:Int)=((rs.map V.int).length:Int)))= !(ds.length==rs.length):=by rw[hl,bV];congr 1;rw[kx];simp;lia
   rw[e0];cases e:(ds.length==rs.length)with |false=>rw[e,jw,jw]at k;erw[bE (k H (aE.refl _))] |true=>
    rw[e,jv]at k;erw[bf ?_];have el:ds.length=rs.length:=gc.mp e;erw[_,Z,av,Z,#[_,hx],λD H0 nw=>?_];erw[E5 (xs:=xs) (bs:=ds.map (da (-100) 100)) [] hx nw (by rw[bV,hl]) ao ?_ ?_]
    ·intro i x b H2 Q' ex eb s2 hq
     let(d,ed,rfl):=CH eb;let(x',fX,rx):=hd.get i ed;rw[ex]at fX;cases fX;erw[_,Z,_,Z,_,d,-100,100,Z,RD.mono s2 _ rx,hq _ (aE.refl _)]
    ·intro H2 s2 d2
     erw[D,_,Z,aD.of d2,_,Z,?_];rw[all_map];cases e1:ds.all (da (-100) 100)with |false=>rw[e1,jw]at k;erw[bE (k H2 s2)] |true=>
      rw[e1,jv]at k;erw[bf #[_,Z,av,Z,#[_,hx.go s2],λD2 H3 n3=>?_]];erw[E5 (xs:=xs) (bs:=ds.map zp) [] (hx.go s2) n3 (by rw[bV,hl]) ao ?_ ?_]
      ·intro i x b H4 Q' ex eb s4 hq
       let(d,ed,rfl):=CH eb;let(x',fX,rx):=hd.get i ed;rw[ex]at fX;cases fX;let(z,rfl):=a6G (gQ.mp e1 d (fO ed));cases rx.int_inv;erw[_,Z,.inl #[_,_,Z,Z,?_]];show Q' (.bl (!decide (z=0))) H4;rw[a4f];erw[hq _ (aE.refl _)]
      ·intro H4 s4 d4
       erw[D2,_,Z,aD.of d4,?_];rw[any_map'];erw[k H4 (s2.trans s4)]
  ·have e:uG rs.length d=false:=by cases d<;>first|rfl|erw[absurd rfl (hn _)]
   rw[e]at k;erw[_,Z,.inl #[_,_,"tuple",false,Z,rd.ty,aw,ht,_,Z,bE ?_]];erw[k H (aE.refl _)]
theorem item_cases(n:Nat)(d:ag):(∃wd a b,d= .tuple [wd,a,b])\/(∃wd v,d= .tuple [wd,v])\/(∃ds,d= .tuple ds/\ds.length≠3/\ds.length≠2/\nc n d=false)\/(jU (mJ d) "tuple"=false/\nc n d=false):=by
 rcases yD d with⟨ds,rfl⟩|⟨ht,hn⟩
 ·match ds with |[r,a,b]=>erw[.inl #[r,a,b,Z]] |[r,a]=>erw[.inr (.inl #[r,a,Z])] |[]=>erw[.inr (.inr (.inl #[_,Z,by simp,by simp,by simp[nc]]))] |[_]=>erw[.inr (.inr (.inl #[_,Z,by simp,by simp,by simp[nc]]))] |_::_::_::_::_=>erw[.inr (.inr (.inl #[_,Z,by simp,by simp,by simp[nc]]))]
 ·erw[.inr (.inr (.inr #[ht,by cases d<;>first|rfl|erw[absurd rfl (hn _)]]))]
inductive aez(K:aa)(vs:List V)(H:Hp)(Q:VK):Prop |mk (m:V)(v:V)(rs:List Int)(es:List ag)(d:ag)(h0:vs=[m,v])(h1:RD K H m ((.tuple (.tuple (rs.map PyData.int)::es))))(h2:RD K H v d)(h3:rs.length<=3)(h4:dB 8 d)(h5:BS d=true)(h6:∀H',aE H H'->Q (.bl (nc rs.length d)) H')
def BQ(K:aa):Sp:=λvs H Q _=>aez K vs H Q
theorem IT{ds:List ag}(h:dB 8 (.tuple ds)){d:ag}(hd:d∈ds):dB 8 d:=((dB.cS (n:=7) h) d hd).le aw
theorem ZI{ds:List ag}(h:BS (.tuple ds)=true){d:ag}(hd:d∈ds):kC d=true:=gQ.mp (show ds.all kC=true from h) d hd
theorem Qf:bu ["machine","thing","word","steps","speed","value"] ["machine","thing"] (aW GY):=bF aG
theorem a3L(F:FA K mg "is_item" GY)(B:bK mg)(Kj:GV mg "GREATEST_SPEED" (.int 20))(j7:aF P w K mg au "is_whole_within" 2 (mO K))(a8l:aF P w K mg au "are_steps" 3 (NV K))(a7H:aF P w K mg au "is_short_item" 3 (NX K)):aF P w K mg au "is_item" 4 (BQ K):=by
 exists F.has,Qf,dN λ_ _=>rfl
 ·let(m,v,rs,es,d,rfl,rm,rd,l3,wL,sh,k):=h
  have nd:=Qf.nd;erw[_,(aB (bN (dv (cL (ow K B (ak (pv 1) (ak (oq (x:="tuple") (v:=.ty "tuple") Z (B.at "tuple") jd rfl) ay))))) (aI (aV jC)) bQ) (aB (bN (bS (dQ K Z hr.units) (dZ K B (ak (pv 1) ay)) az (bA _)) (aB (fu (pv 1) (eM K Z (n:=3) Z (bU (bh 2 nd) (bU (bh 3 nd) (bU (bh 4 nd) eK))))) (aI (aV (m8 (fC (dQ K Z hr.units) (pv 2) ba (bA _)) (m8 (pf a8l hr (ak (pv 0) (ak (pv 3) ay))) (mU (pf j7 hr (ak (pv 4) (ak az (ak (fz (x:="GREATEST_SPEED") Z Kj) ay)))))))))) bQ) (aB (bN (bS (dQ K Z hr.units) (dZ K B (ak (pv 1) ay)) az (bA _)) (aB (fu (pv 1) (eM K Z (n:=2) Z (bU (bh 2 nd) (bU (bh 5 nd) eK)))) (aI (aV (pf a7H hr (ak (pv 2) (ak (pv 5) ay)))))) bQ) (aI (aV jC))))),?_];rcases item_cases rs.length d with⟨wd,a,b,rfl⟩|⟨wd,a,rfl⟩|⟨ds,rfl,h3,h2,hf⟩|⟨ht,hf⟩
  ·erw[_,Z,.inl #[_,_,"tuple",true,Z,rd.ty,aw,rj,_,Z,bf ?_]]
   let(p,xs,rfl,hx,hd):=rd.cS;let(u1,ys,rfl,r1,hd):=hd.cons_inv;let(u2,ys,rfl,r2,hd):=hd.cons_inv;let(u3,ys,rfl,r3,hd):=hd.cons_inv;cases hd.nil_inv;have k:∀H',aE H H'->Q (.bl (iu "line" wd&&(uG rs.length a&&da 1 20 b))) H':=k;erw[_,Z,p,_,Z,.inr hx,.inl #[_,_,Z,Z,_,Z,bE ?_]];erw[_,Z,p,_,Z,hx,Z,_,_,Z,_,_,Z,_,_,Z,Z,?_];erw[_,Z,.inr #[_,_,r1,bT _,yV (IT wL (by simp)),aG,_,Z,?_]];rw[DP];cases e1:iu "line" wd with |false=>rw[e1,jw]at k;erw[bf (k H (aE.refl _))] |true=>rw[e1,jv]at k;erw[bE #[_,Z,_,Z,_,_,rs,es,a,Z,rm,r2,l3,λH1 s1=>#[_,Z,?_]]];cases e2:uG rs.length a with |false=>rw[e2,jw]at k;erw[bf (k H1 s1)] |true=>rw[e2,jv]at k;erw[bE #[_,Z,_,b,1,20,Z,RD.mono s1 _ r3,k H1 s1]]
  ·erw[_,Z,.inl #[_,_,"tuple",true,Z,rd.ty,aw,rj,_,Z,bf ?_]]
   let(p,xs,rfl,hx,hd):=rd.cS;let(u1,ys,rfl,r1,hd):=hd.cons_inv;let(u2,ys,rfl,r2,hd):=hd.cons_inv;cases hd.nil_inv;have k:∀H',aE H H'->Q (.bl (qj wd a)) H':=k;erw[_,Z,p,_,Z,.inr hx,.inl #[_,_,Z,Z,_,Z,bf ?_]];erw[_,Z,p,_,Z,.inr hx,.inl #[_,_,Z,Z,_,Z,bE ?_]];erw[_,Z,p,_,Z,hx,Z,_,_,Z,_,_,Z,Z,?_];erw[_,Z,_,Z,_,_,wd,a,Z,r1,r2,IT wL (by simp),IT wL (by simp),ZI sh (by simp),k]
  ·rw[hf]at k
   erw[_,Z,.inl #[_,_,"tuple",true,Z,rd.ty,aw,rj,_,Z,bf ?_]];let(p,xs,rfl,hx,hd):=rd.cS;have hl:=hd.length;erw[_,Z,p,_,Z,.inr hx,.inl #[_,_,Z,Z,_,Z,?_]];rw[show decide ((xs.length:Int)=3)=false from cG ao];erw[bf #[_,Z,p,_,Z,.inr hx,.inl #[_,_,Z,Z,_,Z,?_]]];rw[show decide ((xs.length:Int)=2)=false from cG ao];erw[bf (k H (aE.refl _))]
  ·rw[hf]at k
   erw[_,Z,.inl #[_,_,"tuple",false,Z,rd.ty,aw,ht,_,Z,bE ?_]];erw[k H (aE.refl _)]
def JI(rs:List Int):ag->Bool | .tuple es=>es.length==rs.length&&((es.zip rs).map λp=>da 0 p.2 p.1).all id |_=>false
inductive aeD(K:aa)(vs:List V)(H:Hp)(Q:VK):Prop |mk (m:V)(v:V)(rs:List Int)(ds:List ag)(d:ag)(h0:vs=[m,v])(h1:RD K H m (.tuple (.tuple (rs.map PyData.int)::ds)))(h2:RD K H v d)(h3:rs.length<=3)(h4:∀H',aE H H'->Q (.bl (JI rs d)) H')
def yR(K:aa):Sp:=λvs H Q _=>aeD K vs H Q
theorem zip_get{es:List ag}{rs:List Int}{i:Nat}{b:Bool}(h:((es.zip rs).map λp=>da 0 p.2 p.1)[i]? =some b):∃e r,es[i]? =some e/\rs[i]? =some r/\da 0 r e=b:=by rw[cv]at h;cases q:(es.zip rs)[i]? with |none=>rw[q]at h;cases h |some p=>rw[q]at h;let(e1,e2):=B5.mp q;erw[p.1,p.2,e1,e2,dU h]
theorem ints_get{rs:List Int}{i:Nat}{r:Int}(h:rs[i]? =some r):(rs.map V.int)[i]? =some (.int r):=by rw[cv,h];rfl
theorem Qc:bu ["machine","thing","rails"] ["machine","thing"] (aW GU):=bF aG
theorem a3I(F:FA K mg "is_place" GU)(B:bK mg)(j7:aF P w K mg au "is_whole_within" 2 (mO K)):aF P w K mg au "is_place" 3 (yR K):=by
 exists F.has,Qc,dN λ_ _=>rfl
 ·let(m,v,rs,ds,d,rfl,rm,rd,l3,k):=h
  have nd:=Qc.nd;erw[_,(aB (pS 2 nd (px K (pv 0) az)) (aB (bN (PW.pt (j6 (dv (cL (ow K B (ak (pv 1) (ak (oq (x:="tuple") (v:=.ty "tuple") Z (B.at "tuple") jd rfl) ay))))) (jB (bS (mW K rfl hr.units) (dZ K B (ak (pv 1) ay)) (dZ K B (ak (pv 2) ay)) (bA _))))) (aI (aV jC)) bQ) (aI (aV (fg (x:="all") (xM K Z Z) Z (B.at "all") AX (ak (fA (N:=["number","rail"]) (js:=[none,none]) rfl rfl rfl (m7 K rfl false false rfl (B.at "zip") (ak (pv 1) (ak (pv 2) ay))) (λ_ _ _ _ _=>(eM K rfl (n:=2) rfl (bU (bh 0 (gj aw)) (bU (bh 1 (gj aw)) eK)))) (λ_ _ _ _ _=>dM) (λ_ _ _ _ _=>(pf j7 hr (ak (pv 0) (ak az (ak (pv 1) ay)))))) ay)))))),?_];let(am,xm,rfl,hm,hdm):=rm.cS;let(yr,ym,rfl,r1,agA):=hdm.cons_inv;let(ar,xr,rfl,Dh,hdr):=r1.cS;cases hdr.fL;erw[_,Z,.inr #[am,_,0,_,Z,Z,hm,cN (eJ 0) Z,?_]];rcases yD d with⟨es,rfl⟩|⟨ht,hn⟩
  ·erw[_,Z,.inl #[_,_,"tuple",true,Z,rd.ty,aw,rj,_,Z,bf ?_]]
   let(av,xs,rfl,hx,hd):=rd.cS;have hl:=hd.length;erw[_,Z,av,_,Z,.inr hx,_,Z,ar,_,Z,.inr Dh,.inl #[_,_,Z,Z,_,Z,?_]];have k:∀H',aE H H'->Q (.bl (es.length==rs.length&&((es.zip rs).map λp=>da 0 p.2 p.1).all id)) H':=k;have e0:(decide ((xs.length:Int)=((rs.map V.int).length:Int)))=(es.length==rs.length):=by rw[hl,bV,kx];simp;lia
   rw[e0];cases e:(es.length==rs.length)with |false=>rw[e,jw]at k;erw[bE (k H (aE.refl _))] |true=>
    rw[e,jv]at k;erw[bf ?_];have el:es.length=rs.length:=gc.mp e;erw[_,Z,_,Z,av,ar,Z,#[_,hx],#[_,Dh],λD H0 nw=>?_];erw[ac8 (b1:=false) (b2:=false) (xs:=xs) (ys:=rs.map V.int) (bs:=(es.zip rs).map λp=>da 0 p.2 p.1) [] rfl hx Dh nw (by rw[bV,bV,List.length_zip,hl]) (by rw[bV,List.length_zip];lia) ?_ ?_]
    ·intro i x y b H2 Q' ex ey eb s2 hq
     let(e',r,ee,er,rfl):=zip_get eb;let(x',fX,rx):=hd.get i ee;rw[ex]at fX;cases fX;rw[ints_get er]at ey;cases ey;erw[_,Z,_,Z,_,e',0,r,Z,RD.mono s2 _ rx,hq _ (aE.refl _)]
    ·intro H2 s2 d2
     erw[D,_,Z,aD.of d2,k H2 s2]
  ·have e:JI rs d=false:=by cases d<;>first|rfl|erw[absurd rfl (hn _)]
   rw[e]at k;erw[_,Z,.inl #[_,_,"tuple",false,Z,rd.ty,aw,ht,_,Z,bE ?_]];erw[k H (aE.refl _)]
inductive aep(K:aa)(vs:List V)(H:Hp)(Q:VK):Prop |mk (pw:_)(b:_)(pl:_)(ns:_)(h0:vs=[pw,.ref b])(h1:RD K H pw (eV pl))(h2:bc K H b (ns.map V.int))(h3:ns.length=pl.length)(h4:pl.length<=1000)(h5:∀v' H',RD K H' v' (eV (dH pl ns))->aE H H'->Q v' H')
def BO(K:aa):Sp:=λvs H Q _=>aep K vs H Q
theorem PQ:bu ["place","steps"] ["place","steps"] (aW Gz):=bF aG
theorem a3r(F:FA K mg "moved" Gz)(B:bK mg):aF P w K mg au "moved" 1 (BO K):=by
 exists F.has,PQ,dN λ_ _=>rfl
 ·let(pw,b,pl,ns,rfl,rp,hb,ln,hz,k):=h
  have nd:=PQ.nd;erw[_,(aI (aV (cZ (x:="tuple") (kB K Z) Z (B.at "tuple") jd (ak (fA (N:=["number","step"]) (js:=[none,none]) rfl rfl rfl (m7 K rfl false false rfl (B.at "zip") (ak (pv 0) (ak (pv 1) ay))) (λ_ _ _ _ _=>(eM K rfl (n:=2) rfl (bU (bh 0 (gj aw)) (bU (bh 1 (gj aw)) eK)))) (λ_ _ _ _ _=>dM) (λ_ _ _ _ _=>(aP dw (pv 0) (pv 1)))) ay)))),?_];let(pa,rfl,hp):=Rz rp;erw[_,Z,_,Z,pa,b,Z,#[_,hp],#[_,hb],λD H1 n1=>?_];erw[Aq (K:=K) (b1:=false) (b2:=false) (xs:=pl.map V.int) (ys:=ns.map V.int) (ds:=(dH pl ns).map PyData.int) [] rfl hp hb n1 (by simp[nR ln,ln]) (by rw[bV,nR ln];erw[hz]) (ki _) ?_ ?_]
  ·intro i x y d H2 Q' ex ey ed s2 hq
   let(m,em,rfl):=lI ed;rw[cv]at ex ey;cases e1:pl[i]? with |none=>rw[e1]at ex;cases ex |some u=>cases e2:ns[i]? with |none=>rw[e2]at ey;cases ey |some v=>rw[e1]at ex;rw[e2]at ey;cases ex;cases ey;rw[AB e1 e2]at em;cases em;erw[_,Z,_,Z,_,_,Z,Z,hq _ _ (aE.refl _) (fJ _)]
  ·intro H2 zs s2 d2 r2
   erw[D,_,Z,.inl #[aD.of d2,λt H3 n3=>?_]];have et:=n3.at';rw[r2.fL]at et;erw[k (.ref t) H3 (Ry (bc.of et)) (s2.trans n3.same)]
inductive aeT(K:aa)(vs:List V)(H:Hp)(Q:VK):Prop |mk (pw:_)(iv:_)(pl:_)(d:_)(o:_)(h0:vs=[pw,iv])(h1:RD K H pw (eV pl))(h2:RD K H iv d)(h3:itR d o)(h4:(∀ns sp,o=some (ns,sp)->ns.length=pl.length))(h5:pl.length<=1000)(h6:∀v' H',RD K H' v' (eV (gO pl o))->aE H H'->Q v' H')
def yT(K:aa):Sp:=λvs H Q _=>aeT K vs H Q
theorem Qs:bu ["place","item"] ["place","item"] (aW Hn):=bF aG
theorem a3Y(F:FA K mg "place_behind" Hn)(B:bK mg)(oW:aF P w K mg au "is_line" 1 (wa K))(K1:aF P w K mg au "moved" 1 (BO K)):aF P w K mg au "place_behind" 2 (yT K):=by
 exists F.has,Qs,dN λ_ _=>rfl
 ·let(pw,iv,pl,d,o,rfl,rp,ri,it,hl,hz,k):=h
  have nd:=Qs.nd;erw[_,(aI (aV (ka (cL (pf oW hr (ak (pv 1) ay))) (pf K1 hr (ak (pv 0) (ak (px K (pv 1) az) ay))) (pv 0)))),?_];erw[_,Z,iv,d,o,Z,ri,it,_,Z,?_];cases o with |some q=>let(ns,sp):=q;erw[bE ?_];have ed:=qi it;subst ed;let(a,b,rfl,ha,hb):=oK ri;erw[_,Z,_,Z,.inr #[a,_,1,.ref b,Z,Z,ha,Z,pw,b,pl,ns,Z,rp,hb,hl ns sp Z,hz,λv' H' r s=>k v' H' r s]] |none=>erw[bf ?_];erw[_,Z,k pw H rp (aE.refl _)]
end
end _a
namespace _a
open PySem PySem.Spec PyProof.Rows _L _r _l _C _P _W _R
open _O (topR cornO mnO betR atO ownF leadF ownL OkI OkIs)
section
def fH(m b d q p r s k t:V):List (Str×V):=[("machine",m),("begun_at",b),("done",d),("queue",q),("pace",p),("rate_now",r),("side",s),("mark",k),("stopping",t)]
structure aY where
 rs:List Int
 r:Int
 f:Int
 j:Int
 t:Int
abbrev aY.D(M:aY):ag:=jF M.rs M.r M.f M.j M.t
abbrev aY.Ok(M:aY):Prop:=qL M.rs M.r M.f M.j M.t
structure aU where
 pl:List Int
 dn:Nat
 ds:List ag
 os:List Itm
 pc:Rat
 aA:Int
 side:Str
 mark:Str
 aR:_R.nS
def xO(K:aa)(H:Hp)(v:V):_R.nS->Prop |none=>v= .bD |some (sq,st,gn)=>∃a u,v= .ref a/\bc K H a [u,.int st,.int gn]/\cu K H u sq
structure cF(M:aY)(D:Nat)(S:aU):Prop where
 row:iG M.rs.length S.ds S.os
 rw:RowW S.ds S.os
 len:S.ds.length<=20
 dP:10<=S.aA
 eQ:S.aA<=200
 dn:S.dn=0\/∃ns sp,S.os[0]? =some (some (ns,sp))/\S.dn<aK ns
 pl:S.pl.length=M.rs.length
 pd:Dd (D+10) S.pc
 pm:S.pc<=1600
 aR:t7 D S.pc S.aR
 D1:64<=D
 D2:D<=1500
structure cc(K:aa)(C:Addr)(H:Hp)(a q:Addr)(M:aY)(S:aU):Prop where
 ob:∃dx mv bv cA tv,H a=some (.ins C dx (fH mv bv (.int S.dn) (.ref q) cA (.int S.aA) (.str S.side) (.str S.mark) tv))/\RD K H mv M.D/\RD K H bv (eV S.pl)/\cu K H cA S.pc/\xO K H tv S.aR
 qu:∃ys,H q=some (.lst ys)/\aO K H ys S.ds
theorem cu.v{v:V}(s:cB H H')(h:cu K H v q):cu K H' v q:=by let(p,rfl,hp):=h;erw[p,Z,bc.v s hp]
theorem xO.v{v:V}{t:_R.nS}(s:cB H H')(h:xO K H v t):xO K H' v t:=by cases t with |none=>erw[h] |some q=>let(sq,st,gn):=q;let(a,u,rfl,h1,h2):=h;erw[a,u,Z,bc.v s h1,cu.v s h2]
theorem cc.go(h:cc K C H a q M S)(hn:cH S.ds=true)(s:cB H H')(ea:∀o,H a=some o->H' a=some o)(eq:∀o,H q=some o->H' q=some o):cc K C H' a q M S:=by let((dx,mv,bv,cA,tv,e,r1,r2,r3,r4),ys,qF,rq):=h;erw[#[dx,mv,bv,cA,tv,ea _ e,RD.v s _ (gF _ _ _ _ _) r1,RD.v s _ (jZ _) r2,r3.v s,r4.v s],ys,eq _ qF,aO.v s _ hn rq]
theorem cc.same(h:cc K C H a q M S)(hn:cH S.ds=true)(s:aE H H'):cc K C H' a q M S:=h.go hn s.v (λo e=>s _ _ e) (λo e=>s _ _ e)
theorem cc.ne(h:cc K C H a q M S):a≠q:=by let((dx,mv,bv,cA,tv,e,_),ys,qF,_):=h;erw[iP e qF (by intro z;cases z)]
theorem cc.v(h:cc K C H a q M S)(b:bR [a,q] H H'):cB H H':=by
 let((dx,mv,bv,cA,tv,e,_),ys,qF,_):=h;erw[b.v λx hx o eo=>?_];simp only[bI,ck,cJ]at hx;rcases hx with rfl|rfl
 ·rw[e]at eo;cases eo;trivial
 ·rw[qF]at eo;cases eo;trivial
inductive adJ(K:aa)(C:Addr)(G:aY->aU->Hp->VK->Prop)(vs:List V)(H:Hp)(Q:VK):Prop |mk (a:_)(q:_)(M:_)(D:_)(S:_)(h0:vs=[.ref a])(h1:cc K C H a q M S)(h2:cF M D S)(h3:M.Ok)(h4:G M S H Q)
def gT(K:aa)(C:Addr)(G:aY->aU->Hp->VK->Prop):Sp:=λvs H Q _=>adJ K C G vs H Q
theorem ZX:bu ["self"] ["self"] (aW Gh):=bF aG
theorem a38(F:MA K C "is_held" "Runner.is_held" Gh)(TC:fm K C):cQ P w K mg au C "is_held" 1 (gT K C λ_ S H Q=>Q (.bl S.aR.isSome) H):=by
 exists F.has,ZX,dc λ_=>rfl
 ·let(a,q,M,D,S,rfl,R,ok,aL,k):=h
  let(dx,mv,bv,cA,tv,e,r1,r2,r3,r4):=R.ob;erw[_,(aI (aV (fC IE (cK TC.cl TC.uJ (pv 0)) gU (bA _)))),_,Z,a,dx,_,_,Z,e,Z,?_];cases hs:S.aR with |none=>rw[hs]at r4 k;cases(show tv= .bD from r4);erw[Z,k] |some z=>rw[hs]at r4 k;let(sq,st,gn):=z;let(b,u,rfl,_):=r4;erw[Z,k]
theorem a1b(q:Rat):PyData.eqv (fU q) (fU 0)=decide (q=0):=by
 by_cases h:q=0
 ·rw[bM h];erw[eqR h]
 ·rw[cG h]
  cases e:PyData.eqv (fU q) (fU 0)with |false=>rfl |true=>
   exfalso;apply h;have e':(PyData.eqv (.int q.num) (.int (0:Rat).num)&&(PyData.eqv (.int (q.den:Int)) (.int ((0:Rat).den:Int))&&true))=true:=e;rw[Bb,fb]at e';let(a,b):=e';have h1:q.num=(0:Rat).num:=by simpa[PyData.eqv]using a
   have h2:(q.den:Int)=((0:Rat).den:Int):=by simpa[PyData.eqv]using b
   erw[Rat.ext h1 ao]
theorem ZT:bu ["self"] ["self"] (aW G9):=bF aG
theorem a30(F:MA K C "stands" "Runner.stands" G9)(TC:fm K C)(gN:GT K mg "NOUGHT" [.int 0,.int 1]):cQ P w K mg au C "stands" 1 (gT K C λ_ S H Q=>Q (.bl (decide (S.pc=0))) H):=by
 let(aN,qx,rB):=gN;exists F.has,ZT,dc λ_=>rfl
 ·let(a,q,M,D,S,rfl,R,ok,aL,k):=h
  let(dx,mv,bv,cA,tv,e,r1,r2,r3,r4):=R.ob;erw[_,(aI (aV (fC (dQ K Z hr.units) (cK TC.cl TC.uK (pv 0)) (fz (x:="NOUGHT") rfl qx) (bA _)))),_,Z,a,dx,_,_,Z,e,Z,.inr #[_,_,r3.rd,(zr (rB H)).rd,Z,Z,?_]];rw[a1b];erw[k]
theorem ZW:bu ["self"] ["self"] (aW Gg):=bF aG
theorem a37(F:MA K C "is_halted" "Runner.is_halted" Gg)(TC:fm K C)(vb:cQ P w K mg au C "is_held" 1 (gT K C λ_ S H Q=>Q (.bl S.aR.isSome) H))(A3:cQ P w K mg au C "stands" 1 (gT K C λ_ S H Q=>Q (.bl (decide (S.pc=0))) H)):cQ P w K mg au C "is_halted" 2 (gT K C λ_ S H Q=>Q (.bl (S.aR.isSome&&decide (S.pc=0))) H):=by
 exists F.has,ZW,dc λ_=>rfl
 ·let(a,q,M,D,S,rfl,R,ok,aL,k):=h
  let(dx,mv,bv,cA,tv,e,r1,r2,r3,r4):=R.ob;erw[_,(aI (aV (m8 (iK vb TC.cl (hr.mono aw) (pv 0)) (mU (iK A3 TC.cl (hr.mono aw) (pv 0)))))),_,Z,a,dx,_,Z,e,Z,a,q,M,D,S,Z,R,ok,aL,_,Z,?_];cases hs:S.aR.isSome with |false=>rw[hs]at k;erw[bf k] |true=>rw[hs]at k;erw[bE #[_,Z,a,dx,_,Z,e,Z,a,q,M,D,S,Z,R,ok,aL,?_]];erw[k]
end
end _a
namespace _a
open PySem PySem.Spec PyProof.Rows _L _r _l _W
open _O (Itm)
section
structure lS(n:Nat)(d:ag)(o:Itm):Prop where
 it:itR d o
 ln:∀ns sp,o=some (ns,sp)->fo n 100 ns/\1<=sp/\sp<=20
 ot:o=none->xP d
theorem a4Y(h:pY z=true):isNm (.str z)=true:=h
theorem acR:∀{ns:List Int},(∃z∈ns,z≠0)->(ns.map PyData.int).any zp=true:=λ{ns} #[z,hz,h]=>Xm.mpr #[.int z,dC.mpr #[z,hz,Z],by show(z !=0)=true;simpa using h]
theorem acY{ns:List Int}(h:∀z∈ns,(z.natAbs:Int)<=100):(ns.map PyData.int).all (da (-100) 100)=true:=by rw[gQ];intro d hd;let(z,hz,rfl):=dC.mp hd;have:=h z hz;show(decide (-100<=z)&&decide (z<=100))=true;rw[bM bB,bM bB];rfl
theorem lS.is{n:Nat}{d:ag}(h:lS n d o):nc n d=true/\dB 8 d/\BS d=true:=by cases o with
 |some q=>
  let(ns,sp):=q;have ed:=qi h.it;subst ed;let(cT,s1,s2):=h.ln ns sp rfl;erw[?_,?_,Z]
  ·show(iu "line" (.str "line")&&(uG n (.tuple (ns.map PyData.int))&&da 1 20 (.int sp)))=true
   have e1:iu "line" (.str "line")=true:=by decide+kernel
   have e2:uG n (.tuple (ns.map PyData.int))=true:=by show(((ns.map PyData.int).length==n&&(ns.map PyData.int).all (da (-100) 100))&&(ns.map PyData.int).any zp)=true;rw[acY cT.bd,acR cT.nz,bV,cT.len,Ml];rfl
   have e3:da 1 20 (.int sp)=true:=by show(decide (1<=sp)&&decide (sp<=20))=true;rw[bM s1,bM s2];rfl
   rw[e1,e2,e3];rfl
  ·refine(iH.tup (n:=1) (.cons #[aG,fT _] (.cons (iH.tup (n:=0) λd hd=>?_) (.cons (.int _) .nil)))).le aw
   let(a,_,rfl):=dC.mp hd;erw[.int _] |none=>
  rcases h.ot rfl with⟨z,rfl,z1,z2⟩|⟨w,s,rfl,hw,oB,on⟩
  ·erw[?_,(iH.tup (n:=0) (.cons #[aG,fT _] (.cons (.int _) .nil))).le aw,Z]
   show qj (.str "wait") (.int z)=true;unfold qj;rw[bo aG];show(decide (1<=z)&&decide (z<=1000))=true;rw[bM z1,bM z2];rfl
  ·have a6a:kC (.str s)=true:=by
    erw[bM ?_];rcases on with⟨_,rfl|rfl⟩|⟨_,hn⟩
    ·decide+kernel
    ·decide+kernel
    ·unfold pY at hn
     simp only[fb,AU]at hn
     lia
   erw[?_,(iH.tup (n:=0) (.cons ?_ (.cons oB .nil))).le aw,?_]
   ·rcases on with⟨rfl,hs⟩|⟨rfl,hn⟩
    ·show qj (.str "tool") (.str s)=true
     unfold qj;rw[bj aG,bo aG];rcases hs with rfl|rfl<;>decide+kernel
    ·show qj (.str "mark") (.str s)=true
     unfold qj;rw[bj aG,bj aG];rw[a4Y hn];decide+kernel
   ·rcases hw with rfl|rfl<;>erw[aG,fT _]
   ·show([.str w,.str s]:List ag).all kC=true
    rw[yx,yx,MJ,a6a];rcases hw with rfl|rfl<;>decide+kernel
end
end _a
namespace _a
open PySem PySem.Spec PyProof.Rows _L _r _l _C _P _W _R
open _O (topR cornO mnO betR atO ownF leadF ownL OkI OkIs)
section
def fP(ns:List Int)(k:Int):List Int:=ns.map λz=>eX (k*z) (aK ns)
def dj(S:aU):List Int:=if S.dn=0 then S.pl else match S.os[0]? with |some (some (ns,_))=>dH S.pl (fP ns S.dn) |_=>S.pl
def fE(S:aU):List Int:=S.os.foldl gO S.pl
theorem LH{n:Nat}{pl:List Int}{o:Itm}(h:pl.length=n)(ho:∀ns sp,o=some (ns,sp)->ns.length=n):(gO pl o).length=n:=by cases o with |none=>erw[h] |some q=>let(ns,sp):=q;show(dH pl ns).length=n;rw[nR (by rw[ho ns sp Z,h])];erw[h]
theorem xy{n:Nat}:∀(os:List Itm)(pl:List Int),pl.length=n->(∀o∈os,∀ns sp,o=some (ns,sp)->ns.length=n)->(os.foldl gO pl).length=n |[],pl,h,_=>h |o::os,pl,h,ho=>xy os (gO pl o) (LH h (ho o (.head _))) λx hx=>ho x (.tail _ hx)
theorem cF.oB{D:Nat}(h:cF M D S):∀o∈S.os,∀ns sp,o=some (ns,sp)->ns.length=M.rs.length:=λo ho ns sp e=>by let(i,hi):=vM.mp ho;rw[e]at hi;exact(h.row.ok i ns sp hi).1.len
theorem cF.first{D:Nat}(h:cF M D S)(hn:S.dn≠0):∃ns sp,S.os[0]? =some (some (ns,sp))/\S.dn<aK ns:=by
 rcases h.dn with e|e
 ·exact(hn e).elim
 ·erw[e]
theorem ZU:bu ["self"] ["self"] (aW Ga):=bF aG
theorem a31(F:MA K C "place" "Runner.place" Ga)(TC:fm K C)(K1:aF P w K mg au "moved" 1 (BO K))(Df:aF P w K mg au "stand_at" 2 (BI K)):cQ P w K mg au C "place" 3 (gT K C λ_ S H Q=>∀v H',RD K H' v (eV (dj S))->aE H H'->Q v H'):=by
 exists F.has,ZU,dc λ_=>rfl
 ·let(a,q,M,D,S,rfl,R,ok,aL,k):=h
  let(dx,mv,bv,cA,tv,e,r1,r2,r3,r4):=R.ob;let(ys,eq,rq):=R.qu;erw[_,(aB (bN (bS (dQ K Z hr.units) (cK TC.cl TC.oF (pv 0)) az (bA _)) (aI (aV (cK TC.cl TC.uL (pv 0)))) bQ) (aI (aV (pf K1 hr (ak (cK TC.cl TC.uL (pv 0)) (ak (pf Df hr (ak (px K (cK TC.cl TC.jl (pv 0)) az) (ak (cK TC.cl TC.oF (pv 0)) ay))) ay)))))),_,Z,a,dx,_,_,Z,e,Z,.inl #[_,_,Z,Z,_,Z,?_]];by_cases h0:S.dn=0
  ·rw[bM ao]
   have ep:dj S=S.pl:=by unfold dj;rw[bo h0]
   rw[ep]at k;erw[bE #[_,Z,a,dx,_,_,Z,e,Z,k bv H r2 (aE.refl _)]]
  ·rw[cG ao]
   erw[bf ?_];let(ns,sp,eo,hd):=ok.first h0;let(cT,fG,jW):=ok.row.ok 0 ns sp eo;have ep:dj S=dH S.pl (fP ns S.dn):=by unfold dj;rw[bj h0,eo]
   rw[ep]at k;have ll:=ok.row.len;have xl:0<S.os.length:=(dW.mp eo).1;obtain⟨d,ed⟩:∃d,S.ds[0]? =some d:=#[_,cE (show 0<S.ds.length by lia)];let(y,ey,ry):=rq.get 0 ed;have it:=ok.row.it 0 d _ ed eo;have mE:=qi it;subst mE;have JA:=Ti cT;have lr:=aL.len;erw[_,Z,a,dx,_,_,Z,e,Z,?_];erw[_,Z,a,dx,_,_,Z,e,Z,.inl #[q,_,0,y,Z,Z,aD.of eq,cN (eJ 0) ey,?_]];erw[_,Z,a,dx,_,_,Z,e,Z,y,ns,sp,_,Z,ry,#[Z,λz hz=>by have:=cT.bd z hz;lia,cT.nz],by rw[cT.len];lia,ao,λu H1 ru s1=>?_];let(b,xs,rfl,hb,hx):=ru.cS;rw[hx.fL]at hb;erw[bv,b,S.pl,_,Z,RD.mono s1 _ r2,hb,by rw[bV,cT.len,ok.pl],by rw[ok.pl];lia,λv H2 rv s2=>k v H2 rv (s1.trans s2)]
theorem Pm:bu ["self","here","item"] ["self"] (aW Gd):=bF aG
theorem a34(F:MA K C "leads_to" "Runner.leads_to" Gd)(TC:fm K C)(zM:aF P w K mg au "place_behind" 2 (yT K)):cQ P w K mg au C "leads_to" 3 (gT K C λ_ S H Q=>∀v H',RD K H' v (eV (fE S))->aE H H'->Q v H'):=by
 exists F.has,Pm,dc λ_=>rfl
 ·let(a,q,M,D,S,rfl,R,ok,aL,k):=h
  let(dx,mv,bv,cA,tv,e,r1,r2,r3,r4):=R.ob;let(ys,eq,rq):=R.qu;have nd:=Pm.nd;have ll:=ok.row.len;have ly:=rq.length;have lr:=aL.len;erw[_,(aB (pS 1 nd (cK TC.cl TC.uL (pv 0))) (aB (m6 iZ Z (oo K Z (cK TC.cl TC.jl (pv 0))) (bh 2 nd) (aI (pS 1 nd (pf zM hr (ak (pv 1) (ak (pv 2) ay)))))) (aI (aV (pv 1))))),_,Z,a,dx,_,_,Z,e,Z,_,Z,a,dx,_,_,Z,e,Z,q,Z,#[_,aD.of eq],?_];erw[DH (K:=K) (a:=q) (xs:=ys) (λi O H1=>aE H H1/\∃hv v2,RD K H1 hv (eV ((S.os.take i).foldl gO S.pl))/\O=[some (.ref a),some hv,v2]) #[aE.refl _,bv,none,r2,Z] (λi O H1 _ h=>aD.of (h.1 _ _ eq)) ?_ ?_]
  ·rintro i x O H1 hx ⟨s1,hv,v2,rh,rfl⟩
   let(d,ed,rd):=rq.get' i hx;let(o,eo,it):=ok.row.get ed;have lp:((S.os.take i).foldl gO S.pl).length=M.rs.length:=xy _ _ ok.pl λo ho=>ok.oB o (yn ho);erw[_,Z,_,Z,hv,x,_,d,o,Z,rh,RD.mono s1 _ rd,it,λns sp e'=>by rw[lp];erw[ok.oB o (fO eo) ns sp e'],ao,λv H2 rv s2=>?_];erw[s1.trans s2,v,_,?_,Z];rw[tQ,eo,MI];erw[rv]
  ·rintro O H1 ⟨s1,hv,v2,rh,rfl⟩
   rw[ly,ll,yk]at rh;erw[_,Z,k hv H1 rh s1]
structure Mv(a q:Addr)(H:Hp)(q':Addr)(H':Hp):Prop where
 but:bR [a,q] H H'
 nq:q'=q\/H q'=none
theorem ZV:bu ["self","machine","place"] ["self","machine","place"] (aW Ge):=bF aG
def oh(pl:List Int):aU:=#[pl,0,[],[],0,100,"up","",none]
inductive ae5(K:aa)(C:Addr)(vs:List V)(H:Hp)(Q:VK):Prop |mk (a:_)(dx:_)(mv:_)(kF:_)(M:_)(pl:_)(h0:vs=[.ref a,mv,kF])(h1:H a=some (.ins C dx []))(h2:RD K H mv (aY.D M))(h3:RD K H kF (eV pl))(h4:∀q H',cc K C H' a q M (oh pl)->H q=none->bR [a] H H'->Q .bD H')
def O8(K:aa)(C:Addr):Sp:=λvs H Q _=>ae5 K C vs H Q
theorem a35(F:CA K mg C "Runner" "Runner.__init__" Ge)(TC:fm K C)(gN:GT K mg "NOUGHT" [.int 0,.int 1])(a8D:GV mg "FIRST_RATE" (.int 100)):xS P w K mg au C "Runner" 1 (O8 K C):=by
 let(aN,qx,rB):=gN;exists F.has,ZV,lQ λ_ _ _=>rfl
 ·let(a,dx,mv,kF,M,pl,rfl,e,rm,rp,k):=h
  erw[_,(aB (gd TC.cl TC.m9 (pv 0) (pv 1)) (aB (gd TC.cl TC.uL (pv 0) (pv 2)) (aB (gd TC.cl TC.oF (pv 0) az) (aB (gd TC.cl TC.jl (pv 0) (fc ay)) (aB (gd TC.cl TC.uK (pv 0) (fz (x:="NOUGHT") rfl qx)) (aB (gd TC.cl TC.CC (pv 0) (fz (x:="FIRST_RATE") rfl a8D)) (aB (gd TC.cl TC.Sx (pv 0) ba) (aB (gd TC.cl TC.Sy (pv 0) ba) (aI (gd TC.cl TC.uJ (pv 0) gU)))))))))),?_];erw[_,Z,_,Z,a,dx,_,Z,e,aw,?_];erw[_,Z,_,Z,a,dx,_,Z,bP,by show 1<1000;decide,?_];erw[_,Z,a,dx,_,Z,bP,by show 2<1000;decide,?_];erw[cW Z,λq H1 n1=>?_];have aq:a≠q:=λz=>by have:=n1.no;rw[<-z,bP]at this;cases this
  have e1:=n1.same _ _ (bP (a:=a));erw[_,Z,a,dx,_,Z,e1,by show 3<1000;decide,?_];erw[_,Z,a,dx,_,Z,bP,by show 4<1000;decide,?_];erw[_,Z,a,dx,_,Z,bP,by show 5<1000;decide,?_];erw[_,Z,a,dx,_,Z,bP,by show 6<1000;decide,?_];erw[_,Z,a,dx,_,Z,bP,by show 7<1000;decide,?_];erw[_,Z,a,dx,_,Z,bP,by show 8<1000;decide,?_];have key:∀X:Hp,(∀b,b≠a->X b=H1 b)->Q .bD (_L.upd X a (.ins C dx (fH mv kF (.int 0) (.ref q) (.ref aN) (.int 100) (.str "up") (.str "") .bD))):=by
   intro X hX;have bt:bR [a] H (_L.upd X a (.ins C dx (fH mv kF (.int 0) (.ref q) (.ref aN) (.int 100) (.str "up") (.str "") .bD))):=λb o eb hb=>by have ha:b≠a:=λz=>hb (by rw[z];erw[.head _]);rw[aQ ha,hX b ha];erw[n1.same _ _ (by rw[aQ ha,aQ ha,aQ ha];erw[eb])]
   have sv:=bt.v λx hx o eo=>by rw[cn]at hx;rw[hx,e]at eo;cases eo;trivial
   erw[k q _ #[#[dx,mv,kF,.ref aN,.bD,bP,RD.v sv _ (gF _ _ _ _ _) rm,RD.v sv _ (jZ _) rp,zr (rB _),Z],[],?_,dJ] ?_ bt]
   ·rw[aQ aq.symm,hX q aq.symm];erw[n1.at']
   ·have:=n1.no
    rw[aQ aq.symm,aQ aq.symm,aQ aq.symm]at this;erw[this]
  erw[key _ (λb hb=>by rw[aQ hb,aQ hb,aQ hb,aQ hb,aQ hb])]
theorem a0C{pl:List Int}(hp:pl.length=M.rs.length):cF M 64 (oh pl):=#[.nil,λi d e=>by simp[oh]at e,by simp[oh],(show(10:Int)<=100 by decide),(show(100:Int)<=200 by decide),.inl rfl,hp,#[(show(0:Rat)<=0 by decide),(show(0:Rat).den<2^74 by decide+kernel)],(show(0:Rat)<=1600 by decide+kernel),trivial,aw,aw]
theorem IH{pl:List Int}(h:fM rs pl):JI rs (eV pl)=true:=by show((pl.map PyData.int).length==rs.length&&(((pl.map PyData.int).zip rs).map λp=>da 0 p.2 p.1).all id)=true;rw[bV,h.len,Ml,jv,gQ];intro b hb;let((d,r),hm,rfl):=dC.mp hb;let(i,hi):=vM.mp hm;let(e1,e2):=(B5 (z:=(d,r))).mp hi;rw[cv]at e1;cases e:pl[i]? with |none=>rw[e]at e1;cases e1 |some x=>rw[e]at e1;cases e1;let(a1,a2):=h.at' i x r e e2;show(decide (0<=x)&&decide (x<=r))=true;rw[bM a1,bM a2];rfl
def nM(S:aU)(d:ag)(o:Itm):aU:={S with ds:=S.ds++[d],os:=S.os++[o]}
theorem cF.vh{D:Nat}{d:ag}(h:cF M D S)(it:lS M.rs.length d o)(hl:S.ds.length<20):cF M D (nM S d o):=by
 have ll:=h.row.len;erw[h.row.snoc it.it it.ln,RowW.snoc h.rw ll it.ot,by show(S.ds++[d]).length<=20;rw[eP];show _+1<=20;lia,h.dP,h.eQ,?_,h.pl,h.pd,h.pm,h.aR,h.D1,h.D2];rcases h.dn with e|⟨ns,sp,e,e2⟩
 ·erw[.inl e]
 ·erw[.inr #[ns,sp,?_,e2]]
  show(S.os++[o])[0]? =_;rw[vO (dW.mp e).1];erw[e]
theorem Pr:bu ["self","item"] ["self","item"] (aW Gi):=bF aG
end
section
def gG(S:aU):aU:=match S.os with |o::os=>{S with pl:=gO S.pl o,ds:=S.ds.tail,os:=os,dn:=0} |[]=>S
theorem iG.tail{n:Nat}{d:ag}{ds:List ag}{os:List Itm}(h:iG n (d::ds) (o::os)):iG n ds os:=#[by have:=h.len;simpa using this,λi d' o' e1 e2=>h.it (i+1) d' o' (by simpa using e1) (by simpa using e2),λi ns sp e=>h.ok (i+1) ns sp (by simpa using e)]
theorem RowW.tail{d:ag}{ds:List ag}{os:List Itm}(h:RowW (d::ds) (o::os)):RowW ds os:=λi d' e1 e2=>h (i+1) d' (by simpa using e1) (by simpa using e2)
structure kS(M:aY)(D:Nat)(S:aU):Prop where
 row:iG M.rs.length S.ds S.os
 rw:RowW S.ds S.os
 len:S.ds.length<=20
 dP:10<=S.aA
 eQ:S.aA<=200
 pl:S.pl.length=M.rs.length
 pd:Dd (D+10) S.pc
 pm:S.pc<=1600
 aR:t7 D S.pc S.aR
 D1:64<=D
 D2:D<=1500
theorem cF.raw{D:Nat}(h:cF M D S):kS M D S:=#[h.row,h.rw,h.len,h.dP,h.eQ,h.pl,h.pd,h.pm,h.aR,h.D1,h.D2]
theorem kS.ok{M:aY}{D:Nat}{S:aU}(h:kS M D S)(hd:S.dn=0\/∃ns sp,S.os[0]? =some (some (ns,sp))/\S.dn<aK ns):cF M D S:=#[h.row,h.rw,h.len,h.dP,h.eQ,hd,h.pl,h.pd,h.pm,h.aR,h.D1,h.D2]
theorem kS.end{D:Nat}(h:kS M D S)(hn:S.os≠[]):cF M D (gG S):=by let(pl,dn,ds,os,pc,aA,side,mark,aR):=S;cases os with |nil=>exact(hn Z).elim |cons o os=>have ll:=h.row.len;cases ds with |nil=>simp at ll |cons d ds=>
 erw[h.row.tail,h.rw.tail,?_,h.dP,h.eQ,.inl Z,?_,h.pd,h.pm,h.aR,h.D1,h.D2]
 ·have:=h.len
  simp only[gy]at this;show ds.length<=20
  lia
 ·erw[LH h.pl λns sp e=>(h.row.ok 0 ns sp (by rw[<-e];rfl)).1.len]
theorem Lp(xs:List V):jK xs (some 1) none=xs.drop 1:=VG xs
theorem Pw:bu ["self"] ["self"] (aW Gm):=bF aG
inductive aeb(K:aa)(C:Addr)(vs:List V)(H:Hp)(Q:VK):Prop |mk (a:_)(q:_)(M:_)(D:_)(S:_)(h0:vs=[.ref a])(h1:cc K C H a q M S)(h2:kS M D S)(h3:M.Ok)(h4:S.os≠[])(h5:∀q' H',cc K C H' a q' M (gG S)->H q'=none->bR [a] H H'->Q .bD H')
def Fm(K:aa)(C:Addr):Sp:=λvs H Q _=>aeb K C vs H Q
theorem a3e(F:MA K C "end_first" "Runner.end_first" Gm)(TC:fm K C)(zM:aF P w K mg au "place_behind" 2 (yT K)):cQ P w K mg au C "end_first" 3 (Fm K C):=by
 exists F.has,Pw,dc λ_=>rfl
 ·let(a,q,M,D,S,rfl,R,ok,aL,hn,k):=h
  let(dx,mv,bv,cA,tv,e,r1,r2,r3,r4):=R.ob;let(ys,eq,rq):=R.qu;have aq:=R.ne;have nd:=Pw.nd;have lr:=aL.len;have ll:=ok.row.len;erw[_,(aB (gd TC.cl TC.uL (pv 0) (pf zM hr (ak (cK TC.cl TC.uL (pv 0)) (ak (px K (cK TC.cl TC.jl (pv 0)) az) ay)))) (aB (gd TC.cl TC.jl (pv 0) (uA (ug K rfl) (cK TC.cl TC.jl (pv 0)) (rL az) wA)) (aI (gd TC.cl TC.oF (pv 0) az)))),?_];let(pl,dn,ds,os,pc,aA,side,mark,aR):=S;cases os with |nil=>exact(hn Z).elim |cons o os=>cases ds with |nil=>simp at ll |cons d ds=>
   let(y,yr,rfl,ry,rr):=rq.cons_inv;have it:itR d o:=ok.row.it 0 d o Z rfl;have lp:pl.length=M.rs.length:=ok.pl;erw[_,Z,a,dx,_,_,Z,e,Z,?_];erw[_,Z,a,dx,_,_,Z,e,Z,.inl #[q,_,0,y,Z,Z,aD.of eq,cN (eJ 0) Z,?_]];erw[bv,y,pl,d,o,Z,r2,ry,it,λns sp e'=>by rw[lp];exact(ok.row.ok 0 ns sp (by rw[<-e'];rfl)).1.len,ao,λu H1 ru s1=>?_];have e1:=s1 _ _ e;erw[_,Z,a,dx,_,Z,e1,by show 9<1000;decide,?_];have eq1:(_L.upd H1 a (.ins C dx (fH mv u (.int dn) (.ref q) cA (.int aA) (.str side) (.str mark) tv))) q=some (.lst (y::yr)):=by rw[aQ aq.symm];erw[s1 _ _ eq]
   erw[_,Z,a,dx,_,_,Z,bP,Z,_,Z,q,_,Z,.inl #[aD.of eq1,λq' H2 n2=>?_]];have e2:=n2.same _ _ (bP (a:=a));erw[_,Z,a,dx,_,Z,e2,by show 9<1000;decide,?_];erw[_,Z,a,dx,_,Z,bP,by show 9<1000;decide,?_];have t6:a≠q':=λz=>by have:=n2.no;rw[<-z,bP]at this;cases this
   have key:∀X:Hp,(∀b,b≠a->X b=H2 b)->Q .bD (_L.upd X a (.ins C dx (fH mv u (.int 0) (.ref q') cA (.int aA) (.str side) (.str mark) tv))):=by
    intro X hX;have bt:bR [a] H (_L.upd X a (.ins C dx (fH mv u (.int 0) (.ref q') cA (.int aA) (.str side) (.str mark) tv))):=λb o' eb hb=>by have ha:b≠a:=λz=>hb (by rw[z];erw[.head _]);rw[aQ ha,hX b ha];erw[n2.same _ _ (by rw[aQ ha];erw[s1 _ _ eb])]
    have sv:=bt.v λx hx o' eo=>by rw[cn]at hx;rw[hx,e]at eo;cases eo;trivial
    have F8:cB H1 (_L.upd X a (.ins C dx (fH mv u (.int 0) (.ref q') cA (.int aA) (.str side) (.str mark) tv))):=λb o' nb eb=>by
     have ha:b≠a:=λz=>by rw[z,e1]at eb;cases eb;erw[nb trivial]
     rw[aQ ha,hX b ha];erw[n2.same _ _ (by rw[aQ ha];erw[eb])]
    have oP:=n2.at';rw[Lp]at oP;erw[k q' _ #[#[dx,mv,u,cA,tv,bP,RD.v sv _ (gF _ _ _ _ _) r1,RD.v F8 _ (jZ _) ru,r3.v sv,r4.v sv],yr,?_,?_] ?_ bt]
    ·rw[aQ t6.symm,hX q' t6.symm];erw[oP]
    ·erw[aO.v sv _ ok.row.tail.no rr]
    ·cases e':H q' with |none=>rfl |some o'=>have h1:=s1 _ _ e';have h2:=n2.no;rw[aQ t6.symm,h1]at h2;cases h2
   erw[key _ (λb hb=>by rw[aQ hb])]
theorem mn4(h:q=x\/q=y\/q=z\/q=u)(h1:q<=x)(h2:q<=y)(h3:q<=z)(h4:q<=u):mn (mn (mn x y) z) u=q:=by
 erw[Mq ?_ (oM (oM (oM h1 h2) h3) h4)];rcases h with h|h|h|h
 ·rw[h];erw[eT (iq _ _) (eT (iq _ _) (iq _ _))]
 ·rw[h];erw[eT (iq _ _) (eT (iq _ _) (mY _ _))]
 ·rw[h];erw[eT (iq _ _) (mY _ _)]
 ·rw[h];erw[mY _ _]
theorem Tg{l:Addr}(dl:H l=some (.lst [u1,u2,u3]))(R1:cu K H u1 x)(R2:cu K H u2 y)(R3:cu K H u3 z)(b1:Bd 2000 x)(b2:Bd 2000 y)(b3:Bd 2000 z)(k:∀v,cu K H v (mn (mn x y) z)->Q v H):pK K [.ref l] H Q E0:=by
 erw[l,[u1,u2,u3],[x,y,z],Z,aD.of dl,#[R1,b1,R2,b2,R3,b3,trivial],by simp,λc v q e1 e2 hq=>k v ?_];have e:mn (mn x y) z=q:=by
  erw[mn3 ?_ (hq _ (by simp)) (hq _ (by simp)) (hq _ (by simp))]
  match c,e2 with |0,e2=>cases e2;erw[.inl rfl] |1,e2=>cases e2;erw[.inr (.inl rfl)] |2,e2=>cases e2;erw[.inr (.inr rfl)]
 rw[e]
 match c,e1,e2 with |0,e1,e2=>cases e1;cases e2;erw[R1] |1,e1,e2=>cases e1;cases e2;erw[R2] |2,e1,e2=>cases e1;cases e2;erw[R3]
theorem Tf{l:Addr}{t:Rat}(dl:H l=some (.lst [u1,u2,u3,u4]))(R1:cu K H u1 x)(R2:cu K H u2 y)(R3:cu K H u3 z)(R4:cu K H u4 t)(b1:Bd 2000 x)(b2:Bd 2000 y)(b3:Bd 2000 z)(b4:Bd 2000 t)(k:∀v,cu K H v (mn (mn (mn x y) z) t)->Q v H):pK K [.ref l] H Q E0:=by
 erw[l,[u1,u2,u3,u4],[x,y,z,t],Z,aD.of dl,#[R1,b1,R2,b2,R3,b3,R4,b4,trivial],by simp,λc v q e1 e2 hq=>k v ?_];have e:mn (mn (mn x y) z) t=q:=by
  erw[mn4 ?_ (hq _ (by simp)) (hq _ (by simp)) (hq _ (by simp)) (hq _ (by simp))]
  match c,e2 with |0,e2=>cases e2;erw[.inl rfl] |1,e2=>cases e2;erw[.inr (.inl rfl)] |2,e2=>cases e2;erw[.inr (.inr (.inl rfl))] |3,e2=>cases e2;erw[.inr (.inr (.inr rfl))]
 rw[e]
 match c,e1,e2 with |0,e1,e2=>cases e1;cases e2;erw[R1] |1,e1,e2=>cases e1;cases e2;erw[R2] |2,e1,e2=>cases e1;cases e2;erw[R3] |3,e1,e2=>cases e1;cases e2;erw[R4]
theorem E1{D:Nat}{q:Rat}{z:Int}(h:Dd D q)(hl:q<=1600)(hz:0<=z)(TZ:z<2^24)(hD:D<=1700):Bd 2000 (q+(z:Rat)):=by have b:Bd (D+11) q:=h.bd (eT hl aG);exact(LU b ao).mono ao
theorem Pl:bu ["self","top","reach","left","rise","fall","middles","ends","square","steps","gone","still"] ["self","top","reach","left"] (aW Gb):=bF aG
def IV(M:aY)(S:aU)(top R:Rat)(left:Int):aU:={S with pc:=wO M.r M.f S.pc top R left S.aR,aR:=wN S.aR}
inductive ae4(K:aa)(C:Addr)(vs:List V)(H:Hp)(Q:VK):Prop |mk (a:_)(q:_)(M:_)(D:_)(S:_)(tv:_)(Rv:_)(top:_)(R:_)(left:_)(h0:vs=[.ref a,tv,Rv,.int left])(h1:cc K C H a q M S)(h2:cF M D S)(h3:M.Ok)(h4:cu K H tv top)(h5:Dd 14 top)(h6:top<=1600)(h7:cu K H Rv R)(h8:Dd 64 R)(h9:R<=1600)(DA:1<=left)(UH:left<=100)(A9:¬Halt S.pc S.aR)(UG:∀v H',cu K H' v (pW M.r M.f S.pc top R left S.aR)->cc K C H' a q M (IV M S top R left)->bR [a] H H'->Q v H')
def O7(K:aa)(C:Addr):Sp:=λvs H Q _=>ae4 K C vs H Q
theorem a33(F:MA K C "next_square" "Runner.next_square" Gb)(TC:fm K C)(xi:aF P w K mg au "plus_whole" 4 (BL K))(Uc:aF P w K mg au "times" 3 (yN (·*·) K))(sG:aF P w K mg au "fraction" 3 (w6 K))(xk:aF P w K mg au "least" 2 (pK K))(vb:cQ P w K mg au C "is_held" 1 (gT K C λ_ S H Q=>Q (.bl S.aR.isSome) H)):cQ P w K mg au C "next_square" 5 (O7 K C):=by
 exists F.has,Pl,xN λ_ _ _ _=>rfl
 ·let(a,q,M,D,S,tv,Rv,top,R,left,rfl,R0,ok,aL,rt,td,tl,rR,Rd,Rl,l1,l2,nh,k):=h
  let(dx,mv,bv,cA,sv,e,r1,r2,r3,r4):=R0.ob;let(ys,eq,rq):=R0.qu;have aq:=R0.ne;have nd:=Pl.nd;have uw:=aL.r1;have qB:=aL.f1;have D1:=ok.D1;have D2:=ok.D2;have iA:(2:Int)^24=16777216:=by decide
  let(ma,mb,rfl,jo,kl):=oH r1;erw[_,(aB (Iq (i:=4) (j:=5) Z nd Z Z aw Z Z (ak (px K (cK TC.cl TC.m9 (pv 0)) az) (ak (px K (cK TC.cl TC.m9 (pv 0)) az) ay)) rfl) (aB (pS 6 nd (fc (ak (pf xi hr (ak (cK TC.cl TC.uK (pv 0)) (ak (pv 4) ay))) (ak (pv 1) (ak (pf xi hr (ak (pv 2) (ak (aP cw (pv 5) (aP iM (aP cw az (pv 3)) az)) ay))) ay))))) (aB (pS 7 nd (fc (ak (pf xi hr (ak (cK TC.cl TC.uK (pv 0)) (ak (aP cw az (pv 4)) ay))) (ak (pv 1) (ak (pf xi hr (ak (pv 2) (ak (aP cw (aP cw az (pv 5)) (aP iM (pv 3) az)) ay))) ay))))) (aB (ij (bN (cL (iK vb TC.cl (hr.mono aw) (pv 0))) (aB (fu (cK TC.cl TC.uJ (pv 0)) (eM K rfl (n:=3) rfl (bU (bh 8 nd) (bU (bh 9 nd) (bU (bh 10 nd) eK))))) (aB (pS 11 nd (aP iM (aP iM (pv 9) (pv 10)) az)) (aB (kG (ou K Z (pv 6) (ak (pf Uc hr (ak (pv 8) (ak (pf sG hr (ak (aP dw (aP cw az (pv 11)) az) (ak (aP cw az (pv 9)) ay))) ay))) ay))) (aB (kG (ou K Z (pv 7) (ak (pf Uc hr (ak (pv 8) (ak (pf sG hr (ak (pv 11) (ak (pv 9) ay))) ay))) ay))) (aI (gd TC.cl TC.uJ (pv 0) (ip (ak (pv 8) (ak (pv 9) (ak (aP dw (pv 10) az) ay)))))))))) bQ)) (aB (gd TC.cl TC.uK (pv 0) (pf xk hr (ak (pv 7) ay))) (aI (aV (pf xk hr (ak (pv 6) ay))))))))),?_];erw[_,Z,a,dx,_,_,Z,e,Z,.inr #[ma,_,1,.int M.r,Z,Z,jo,Z,?_]];erw[_,Z,a,dx,_,_,Z,e,Z,.inr #[ma,_,2,.int M.f,Z,Z,jo,Z,_,_,Z,?_]];have fl1:(M.f*(2*left-1)).natAbs<=50*200:=by rw[gz];erw[nX ao ao]
  have a9W:0<=M.f*(2*left-1):=iJ ao ao;have fl2:(2*M.f*(left-1)).natAbs<=100*100:=by rw[gz];erw[nX ao ao]
  have a9V:0<=2*M.f*(left-1):=iJ ao ao;have RO:Bd 2000 S.pc:=(ok.pd.bd (eT ok.pm aG)).mono ao;have RB:Bd 2000 R:=(Rd.bd (eT Rl aG)).mono aw;have tB:Bd 2000 top:=(td.bd (eT tl aG)).mono aw;have B1:Bd 2000 (S.pc+(M.r:Rat)):=E1 ok.pd ok.pm ao ao ao;have B2:Bd 2000 (R+((M.f*(2*left-1):Int):Rat)):=E1 Rd Rl a9W ao ao;have B3:Bd 2000 (S.pc+((2*M.r:Int):Rat)):=E1 ok.pd ok.pm ao ao ao;have B4:Bd 2000 (R+((2*M.f*(left-1):Int):Rat)):=E1 Rd Rl a9V ao ao;erw[_,Z,a,dx,_,_,Z,e,Z,_,Z,cA,_,_,Z,r3,RO,ao,λu1 H1 uk s1=>?_];erw[_,Z,_,Z,_,Z,_,Z,_,_,Z,Z,.of_left (dh aw aw),_,_,Z,Z,_,_,Z,Z,.of_left (dh ao ao),Rv,_,_,Z,rR.go s1,RB,ao,λu2 H2 zc s2=>?_];erw[cW Z,λlm H3 n3=>?_];have jz:=s1.trans (s2.trans n3.same);erw[_,Z,a,dx,_,_,Z,jz _ _ e,Z,_,Z,_,_,Z,Z,.of_left (dh aw aw),cA,_,_,Z,r3.go jz,RO,ao,λu3 H4 ru3 s4=>?_];have jY:=jz.trans s4;erw[_,Z,_,Z,_,Z,_,_,Z,Z,.of_left (dh aw aw),_,Z,_,_,Z,Z,_,_,Z,Z,.of_left (dh ao ao),Rv,_,_,Z,rR.go jY,RB,ao,λu4 H5 ru4 s5=>?_];erw[cW Z,λle H6 n6=>?_];have wq:=jY.trans (s5.trans n6.same);have rE:=s4.trans (s5.trans n6.same);have e6:=wq _ _ e;have R6:=R0.same ok.row.no wq;have U1:=uk.go (s2.trans (n3.same.trans rE));have U2:=zc.go (n3.same.trans rE);have U3:=ru3.go (s5.trans n6.same);have U4:=ru4.go n6.same;have T6:=rt.go wq;have dm:=rE _ _ n3.at';have de:=n6.at';have LS:a≠lm:=λz=>by have:=n3.no;rw[<-z,(s1.trans s2) _ _ e]at this;cases this
  have Wu:a≠le:=λz=>by have:=n6.no;rw[<-z,(jY.trans s5) _ _ e]at this;cases this
  have T5:lm≠le:=λz=>by have:=n6.no;rw[<-z,(s4.trans s5) _ _ n3.at']at this;cases this
  have nlm:H lm=none:=by cases e':H lm with |none=>rfl |some o=>have:=(s1.trans s2) _ _ e';rw[n3.no]at this;cases this
  have nle:H le=none:=by cases e':H le with |none=>rfl |some o=>have:=(jY.trans s5) _ _ e';rw[n6.no]at this;cases this
  erw[λO H7=>∃u6 w8 w9 qZ MZ um ue,O=[some (.ref a),some tv,some Rv,some (.int left),some (.int M.r),some (.int M.f),some (.ref lm),some (.ref le),w8,w9,qZ,MZ]/\bR [a,lm,le] H6 H7/\H7 a=some (.ins C dx (fH (.ref ma) bv (.int S.dn) (.ref q) cA (.int S.aA) (.str S.side) (.str S.mark) u6))/\xO K H7 u6 (wN S.aR)/\H7 lm=some (.lst um)/\H7 le=some (.lst ue)/\(∀H8 Q',cB H7 H8->H8 lm=some (.lst um)->(∀v,cu K H8 v (pW M.r M.f S.pc top R left S.aR)->Q' v H8)->pK K [.ref lm] H8 Q' E0)/\(∀H8 Q',cB H7 H8->H8 le=some (.lst ue)->(∀v,cu K H8 v (wO M.r M.f S.pc top R left S.aR)->Q' v H8)->pK K [.ref le] H8 Q' E0),?_,?_]
  ·erw[_,Z,a,dx,_,Z,e6,Z,a,q,M,D,S,Z,R6,ok,aL,_,Z,?_]
   cases hs:S.aR with |none=>rw[hs]at r4;erw[bf #[sv,_,_,_,_,_,_,Z,bR.refl _ _,e6,r4,dm,de,λH8 Q' sV d8 kq=>Tg d8 (U1.v sV) (T6.v sV) (U2.v sV) B1 tB B2 kq,λH8 Q' sV d8 kq=>Tg d8 (U3.v sV) (T6.v sV) (U4.v sV) B3 tB B4 kq]] |some z=>
    let(sq,st,gn):=z;rw[hs]at r4;have sk:=ok.aR;rw[hs]at sk nh;let(g1,g2,g3):=zt sk ok.pd.nn nh;let(gn0,gn1,Fb,Fd,Fc,_,_):=sk;let(ta,su,rfl,hta,hsu):=r4;erw[bE ?_];have a70:=hta.go wq;have JP:=hsu.go wq;have NK:Bd 2000 sq:=(Fd.bd Fc).mono ao;erw[_,Z,a,dx,_,_,Z,e6,Z,ta,_,Z,a70,Z,_,_,Z,_,_,Z,_,_,Z,Z,?_];erw[_,Z,_,Z,_,_,Z,Z,_,_,Z,Z,?_];have iA:sizeLine=16777216:=by decide
    erw[_,Z,.inl #[Z,_,aD.of dm],_,Z,_,Z,_,_,Z,Z,.of_left (dh aw aw),_,_,Z,Z,_,Z,_,_,Z,Z,.of_left (dh aw aw),_,_,Z,ao,jh (n:=64) ao aw,λfv H7 rf s7=>?_];have fB:Bd 2000 (Rat.divInt (2*(st-gn-1)+1) (2*st)):=(kK (n:=12) ao ao ao).mono aw;have fB2:Bd 2000 (Rat.divInt (st-gn-1) st):=(kK (n:=12) ao ao ao).mono aw;have pB:Bd 2000 (sq*Rat.divInt (2*(st-gn-1)+1) (2*st)):=((Fd.bd Fc).mul (kK (n:=12) ao ao ao)).mono ao;have pB2:Bd 2000 (sq*Rat.divInt (st-gn-1) st):=((Fd.bd Fc).mul (kK (n:=12) ao ao ao)).mono ao;erw[su,fv,sq,_,Z,JP.go s7,rf,NK,fB,λx1 H8 rx1 s8=>?_];have wk:=s7.trans s8;have Vr:=wk _ _ dm;erw[lm,_,_,Z,Z,Vr,by show 3<sizeLine;lia,?_];have v8:cB H8 (_L.upd H8 lm (.lst ([u1,tv,u2]++[x1]))):=.upd Vr trivial;have VE:(_L.upd H8 lm (.lst ([u1,tv,u2]++[x1]))) le=some (.lst [u3,tv,u4]):=by rw[aQ T5.symm];erw[wk _ _ de]
    erw[_,Z,.inl #[Z,_,aD.of VE],_,Z,_,Z,_,Z,_,_,Z,ao,jh (n:=64) ao aw,λgv H9 rg s9=>?_];erw[su,gv,sq,_,Z,((JP.go wk).v v8).go s9,rg,NK,fB2,λx2 pj rx2 za=>?_];have wg:=s9.trans za;have VF:=wg _ _ VE;erw[le,_,_,Z,Z,VF,by show 3<sizeLine;lia,?_];have v10:cB pj (_L.upd pj le (.lst ([u3,tv,u4]++[x2]))):=.upd VF trivial;erw[_,Z,_,Z,_,Z,_,_,Z,Z,cW Z,λtn jb pZ=>?_];have XY:cB H6 pj:=(wk.v.trans v8).trans wg.v;have XX:cB H6 jb:=(XY.trans v10).trans pZ.same.v;have e8:(_L.upd H8 lm (.lst ([u1,tv,u2]++[x1]))) a=some (.ins C dx (fH (.ref ma) bv (.int S.dn) (.ref q) cA (.int S.aA) (.str S.side) (.str S.mark) (.ref ta))):=by rw[aQ LS];erw[wk _ _ e6]
    have Vl:jb a=some (.ins C dx (fH (.ref ma) bv (.int S.dn) (.ref q) cA (.int S.aA) (.str S.side) (.str S.mark) (.ref ta))):=pZ.same _ _ (by rw[aQ Wu];erw[wg _ _ e8]);erw[_,Z,a,dx,_,Z,Vl,by show 9<1000;decide,?_];have Bq:cB jb (_L.upd jb a (.ins C dx (fH (.ref ma) bv (.int S.dn) (.ref q) cA (.int S.aA) (.str S.side) (.str S.mark) (.ref tn)))):=.upd Vl trivial;have tW:=XX.trans Bq;have XW:=(((v8.trans wg.v).trans v10).trans pZ.same.v).trans Bq;have Y0:=(v10.trans pZ.same.v).trans Bq;erw[.ref tn,_,_,_,_,[u1,tv,u2,x1],[u3,tv,u4,x2],Z,λb o' eb hb=>?_,bP,#[tn,su,Z,bc.v Bq (bc.of pZ.at'),JP.v tW],?_,?_,λH' Q' sV d' kq=>?_,λH' Q' sV d' kq=>?_]
    ·have ha:b≠a:=λz=>hb (by rw[z];simp)
     have K5:b≠lm:=λz=>hb (by rw[z];simp);have hle:b≠le:=λz=>hb (by rw[z];simp);rw[aQ ha];erw[pZ.same _ _ (by rw[aQ hle];erw[wg _ _ (by rw[aQ K5];erw[wk _ _ eb])])]
    ·rw[aQ LS.symm]
     erw[pZ.same _ _ (by rw[aQ T5];erw[wg _ _ bP])]
    ·rw[aQ Wu.symm]
     erw[pZ.same _ _ bP]
    ·erw[Tf d' ((U1.v tW).v sV) ((T6.v tW).v sV) ((U2.v tW).v sV) ((rx1.v XW).v sV) B1 tB B2 pB kq]
    ·erw[Tf d' ((U3.v tW).v sV) ((T6.v tW).v sV) ((U4.v tW).v sV) ((rx2.v Y0).v sV) B3 tB B4 pB2 kq]
  ·rintro O H7 ⟨u6,w8,w9,qZ,MZ,um,ue,rfl,bt,e7,pH,dm7,de7,km,ke⟩
   erw[_,Z,?_];dsimp only[rn];erw[ke H7 _ .refl de7 λpe rpe=>?_];erw[_,Z,a,dx,_,Z,e7,by show 9<1000;decide,?_];have v8:cB H7 (_L.upd H7 a (.ins C dx (fH (.ref ma) bv (.int S.dn) (.ref q) pe (.int S.aA) (.str S.side) (.str S.mark) u6))):=.upd e7 trivial;erw[_,Z,?_];dsimp only[rn];erw[km _ _ v8 (by rw[aQ LS.symm];erw[dm7]) λv rv=>?_];have bH:bR [a] H (_L.upd H7 a (.ins C dx (fH (.ref ma) bv (.int S.dn) (.ref q) pe (.int S.aA) (.str S.side) (.str S.mark) u6))):=λb o' eb hb=>by
    have ha:b≠a:=λz=>hb (by rw[z];simp);rw[aQ ha];erw[bt b o' (wq _ _ eb) λhm=>?_];simp only[bI,ck,cJ]at hm;rcases hm with h|h|h
    ·erw[ha h]
    ·rw[h,nlm]at eb;cases eb
    ·rw[h,nle]at eb;cases eb
   have vH:cB H (_L.upd H7 a (.ins C dx (fH (.ref ma) bv (.int S.dn) (.ref q) pe (.int S.aA) (.str S.side) (.str S.mark) u6))):=bH.v λx hx o' eo=>by rw[cn]at hx;rw[hx,e]at eo;cases eo;trivial
   erw[k v _ rv #[#[dx,.ref ma,bv,pe,u6,bP,RD.v vH _ (gF _ _ _ _ _) r1,RD.v vH _ (jZ _) r2,rpe.v v8,pH.v v8],ys,bH _ _ eq (by rw[cn];erw[aq.symm]),aO.v vH _ ok.row.no rq] bH]
end
end _a
set_option maxHeartbeats 2000000
namespace _a
open PySem PySem.Spec PyProof.Rows _L _r _l _C _P _W _R
open _O (topR cornO mnO betR atO ownF leadF ownL OkI OkIs)
section
noncomputable def lF(M:aY)(S:aU):Rat:=QY M.f M.j S.aA S.os
noncomputable def gJ(M:aY)(S:aU)(ns:List Int)(sp:Int):Rat:=pW M.r M.f S.pc (topR S.aA sp) (lF M S) ((aK ns:Int)-S.dn) S.aR
noncomputable def sj(M:aY)(S:aU)(ns:List Int)(sp:Int):ag:=vZ M.t (gC ns S.dn) (gJ M S ns sp)
noncomputable def eY(M:aY)(S:aU)(ns:List Int)(sp:Int):aU:={IV M S (topR S.aA sp) (lF M S) ((aK ns:Int)-S.dn)with dn:=S.dn+1}
def fQ(ns:List Int)(S:aU):aU:=if S.dn=aK ns then gG S else S
def cX(d:ag)(S:aU):aU:=match d with | .tuple [.str w,.str s]=>if w="tool" then{S with side:=s}else if w="mark" then{S with mark:=s}else S |_=>S
inductive One(M:aY):aU->ag->aU->Prop |line {S:aU}{ns:List Int}{sp:Int}:S.os[0]? =some (some (ns,sp))->¬Halt S.pc S.aR->One M S (sj M S ns sp) (fQ ns (eY M S ns sp)) |iL {S:aU}{d:ag}:S.os[0]? =some none->S.ds[0]? =some d->¬Halt S.pc S.aR->One M S d (gG (cX d S))
inductive Run(M:aY):aU->List ag->aU->Prop |nil (S:aU):Run M S [] S |cons {S S1 S2:aU}{e:ag}{es:List ag}:One M S e S1->Run M S1 es S2->Run M S (e::es) S2
theorem Run.trans{fs:List ag}(h:Run M S es S1)(g:Run M S1 fs S2):Run M S (es++fs) S2:=by induction h with |nil=>erw[g] |cons o _ ih=>erw[.cons o (ih g)]
theorem Run.snoc{M:aY}{S S1 S2:aU}{es:List ag}{e:ag}(h:Run M S es S1)(g:One M S1 e S2):Run M S (es++[e]) S2:=h.trans (.cons g (.nil _))
theorem FE{D:Nat}(h:kS M D S)(d:ag):kS M D (cX d S)/\(cX d S).os=S.os/\(cX d S).ds=S.ds/\(cX d S).dn=S.dn/\(cX d S).pl=S.pl:=by
 unfold cX;split
 ·split
  ·erw[#[h.row,h.rw,h.len,h.dP,h.eQ,h.pl,h.pd,h.pm,h.aR,h.D1,h.D2],Z,Z,Z,Z]
  ·split
   ·erw[#[h.row,h.rw,h.len,h.dP,h.eQ,h.pl,h.pd,h.pm,h.aR,h.D1,h.D2],Z,Z,Z,Z]
   ·erw[h,Z,Z,Z,Z]
 ·erw[h,Z,Z,Z,Z]
theorem C9{D:Nat}(h:kS M D S)(aL:M.Ok)(hn:S.os≠[]):Dd 64 (lF M S)/\lF M S<=1600:=by
 have h1:1<=S.os.length:=by cases e:S.os with|nil=>exact(hn e).elim|cons _ _=>simp
 erw[a9T (by have:=aL.f1;lia) (λi _=>a2d aL.j1.1 aL.j1.2 h.dP h.eQ h.row.Cr i) 1 h1,?_];erw[eT (a9S h1) (a2c h.dP h.eQ h.row.Cr 1)]
theorem T4{D:Nat}(h:kS M D S)(aL:M.Ok)(eo:S.os[0]? =some (some (ns,sp)))(hd:S.dn<aK ns)(nh:¬Halt S.pc S.aR):kS M D (eY M S ns sp):=by
 have hn:S.os≠[]:=λe=>by rw[e]at eo;simp at eo
 let(R1,R2):=C9 h aL hn;let(cT,s1,s2):=h.row.ok 0 ns sp eo;have D1:=h.D1;have uw:=aL.r1;have qB:=aL.f1;erw[h.row,h.rw,h.len,h.dP,h.eQ,h.pl,?_,?_,?_,h.D1,h.D2]
 ·erw[abw ao ao ao h.pd ((Bw _ _).mono ao) (R1.mono ao) h.aR nh]
 ·erw[eT abv (yE s1 s2 h.dP h.eQ)]
 ·erw[Zf h.aR h.pd.nn nh]
theorem One.ok{M:aY}{D:Nat}{S S1:aU}{e:ag}(h:cF M D S)(aL:M.Ok)(o:One M S e S1):cF M D S1:=by cases o with
 |@line ns sp eo nh=>
  have hd:S.dn<aK ns:=by
   rcases h.dn with e|⟨mV,mQ,e1,e2⟩
   ·rw[e];exact(h.row.ok 0 ns sp eo).1.lead.1
   ·rw[eo]at e1;cases e1;erw[e2]
  have raw:=T4 h.raw aL eo hd nh;have hn:S.os≠[]:=λe=>by rw[e]at eo;simp at eo
  unfold fQ;split
  ·erw[raw.end hn]
  ·next cj=>
   erw[raw.ok (.inr #[ns,sp,eo,?_])];have:(eY M S ns sp).dn=S.dn+1:=rfl
   lia |iL eo ed nh=>let(h1,h2,_):=FE h.raw e;erw[h1.end ?_];rw[h2];intro z;rw[z]at eo;simp at eo
theorem Run.ok{M:aY}{D:Nat}{S S1:aU}{es:List ag}(h:cF M D S)(aL:M.Ok)(r:Run M S es S1):cF M D S1:=by induction r with |nil=>erw[h] |cons o _ ih=>erw[ih (o.ok h aL)]
theorem One.no{D:Nat}(h:cF M D S)(o:One M S e S1):fh e=true:=by cases o with |line _ _=>erw[NF _ _ _] |iL eo ed _=>erw[gE.mp h.row.no _ (fO ed)]
theorem Run.no{D:Nat}{es:List ag}(h:cF M D S)(aL:M.Ok)(r:Run M S es S1):cH es=true:=by induction r with |nil=>rfl |cons o _ ih=>rw[cH,fb];erw[o.no h,ih (o.ok h aL)]
theorem CS{b:Bool}{A B A' B':Prop}(h1:A->A')(h2:B->B'):(if b=true then A else B)->(if b=true then A' else B'):=by
 cases b
 ·erw[h2]
 ·erw[h1]
theorem Pk:bu ["self","most","line","lead","rows","top","reach","told","middle"] ["self","most"] (aW G8):=bF aG
inductive ae3(K:aa)(C:Addr)(vs:List V)(H:Hp)(Q:VK):Prop |mk (a:_)(q:_)(M:_)(D:_)(S:_)(ns:_)(sp:_)(most:_)(h0:vs=[.ref a,.int most])(h1:cc K C H a q M S)(h2:cF M D S)(h3:M.Ok)(h4:S.os[0]? =some (some (ns,sp)))(h5:¬Halt S.pc S.aR)(h6:1<=most)(h7:most<=1000)(h8:∀l ys es S' q' H',H l=none->H' l=some (.lst ys)->aO K H' ys es->Run M S es S'->1<=es.length->(es.length:Int)<=most->cc K C H' a q' M S'->Mv a q H q' H'->l≠q'->Q (.ref l) H')
def O6(K:aa)(C:Addr):Sp:=λvs H Q _=>ae3 K C vs H Q
theorem a2Z(F:MA K C "steps_of_first" "Runner.steps_of_first" G8)(TC:fm K C)(B:bK mg)(qk:aF P w K mg au "lead_of" 1 (ud K))(a74:aF P w K mg au "step_rows" 3 (Fh K))(D9:aF P w K mg au "top_square" 4 (BH K))(a7d:aF P w K mg au "reach_behind_first" 9 (Fi K))(a75:aF P w K mg au "step_entry" 3 (Fu K))(A4:cQ P w K mg au C "is_halted" 2 (gT K C λ_ S H Q=>Q (.bl (S.aR.isSome&&decide (S.pc=0))) H))(a8M:cQ P w K mg au C "next_square" 5 (O7 K C))(Kq:cQ P w K mg au C "end_first" 3 (Fm K C)):cQ P w K mg au C "steps_of_first" 10 (O6 K C):=by
 exists F.has,Pk,dN λ_ _=>rfl
 ·let(a,q,M,D,S,ns,sp,most,rfl,R0,ok,aL,eo,nh,m1,m2,k):=h
  let(dx,mv,bv,cA,tv,e,r1,r2,r3,r4):=R0.ob;let(ys,eq,rq):=R0.qu;have aq:=R0.ne;have nd:=Pk.nd;have lr:=aL.len;have uw:=aL.r1;have qB:=aL.f1;have ll:=ok.row.len;have A8:=ok.len;have xl:0<S.os.length:=(dW.mp eo).1;have cj:S.os≠[]:=λz=>by rw[z]at xl;erw[absurd xl aw]
  obtain⟨d,ed⟩:∃d,S.ds[0]? =some d:=#[_,cE (show 0<S.ds.length by lia)];let(y,ey,ry):=rq.get 0 ed;have mE:=qi (ok.row.it 0 d _ ed eo);subst mE;let(cT,fG,jW):=ok.row.ok 0 ns sp eo;have rO:fo ns.length 1000 ns:=#[Z,λz hz=>by have:=cT.bd z hz;lia,cT.nz];have SS:=cT.lead.1;have JA:=Ti cT;have nl3:ns.length<=3:=by rw[cT.len];lia
  have hd0:S.dn<aK ns:=by
   rcases ok.dn with e'|⟨mV,mQ,e1,e2⟩
   ·lia
   ·rw[eo]at e1;cases e1;erw[e2]
  let(Rd,Rl):=C9 ok.raw aL cj;erw[_,(aB (pS 2 nd (px K (cK TC.cl TC.jl (pv 0)) az)) (aB (pS 3 nd (pf qk hr (ak (pv 2) ay))) (aB (pS 4 nd (pf a74 hr (ak (pv 2) ay))) (aB (pS 5 nd (pf D9 hr (ak (pv 2) (ak (cK TC.cl TC.CC (pv 0)) ay)))) (aB (pS 6 nd (pf a7d hr (ak (cK TC.cl TC.m9 (pv 0)) (ak (cK TC.cl TC.jl (pv 0)) (ak (cK TC.cl TC.CC (pv 0)) ay))))) (aB (pS 7 nd (fc ay)) (aB (ij (rK iZ (PW.pt (pO (bS jD (dZ K B (ak (pv 7) ay)) (pv 1) (bA _)) (pO (bS jD (cK TC.cl TC.oF (pv 0)) (pv 3) (bA _)) (wy (dv (cL (iK A4 TC.cl (hr.mono aw) (pv 0)))))))) (aB (pS 8 nd (kJ a8M TC.cl (hr.mono aw) (pv 0) (ak (pv 5) (ak (pv 6) (ak (aP iM (pv 3) (cK TC.cl TC.oF (pv 0))) ay))))) (aB (kG (ou K Z (pv 7) (ak (pf a75 hr (ak (cK TC.cl TC.m9 (pv 0)) (ak (px K (pv 4) (cK TC.cl TC.oF (pv 0))) (ak (pv 8) ay)))) ay))) (aI (a1v TC.cl TC.oF (pv 0) az a6y)))))) (aB (ij (bN (bS (dQ K Z hr.units) (cK TC.cl TC.oF (pv 0)) (pv 3) (bA _)) (aI (kG (iK Kq TC.cl (hr.mono aw) (pv 0)))) bQ)) (aI (aV (pv 7))))))))))),?_];erw[_,Z,a,dx,_,_,Z,e,Z,.inl #[q,_,0,y,Z,Z,aD.of eq,cN (eJ 0) ey,?_]];erw[_,Z,y,ns,sp,Z,ry,cT.ne,ao,λH1 s1=>?_];erw[_,Z,y,ns,sp,Z,RD.mono s1 _ ry,rO,ao,λoJ yr H2 nlr DW QT s2=>?_];have jA:=s1.trans s2;erw[_,Z,_,Z,a,dx,_,_,Z,jA _ _ e,Z,y,ns,sp,S.aA,Z,RD.mono jA _ ry,fG,jW,ok.dP,ok.eQ,λtX H3 rtp s3=>?_];have jz:=jA.trans s3;have e3:=jz _ _ e;erw[_,Z,a,dx,_,_,Z,e3,Z,_,Z,a,dx,_,_,Z,e3,Z,_,Z,a,dx,_,_,Z,e3,Z,mv,.ref q,S.aA,M.rs,M.r,M.f,M.j,M.t,S.ds,S.os,Z,RD.mono jz _ r1,aL,HZ (aD.of (jz _ _ eq)) (aO.mono jz _ rq),ok.row,ao,ao,ok.dP,ok.eQ,λuv H4 rrc s4=>?_];have jY:=jz.trans s4;erw[cW Z,λl H5 n5=>?_];have C5:=jY.trans n5.same;have jX:aE H2 H5:=s3.trans (s4.trans n5.same);have nl:H l=none:=by cases e':H l with |none=>rfl |some o=>have:=jY _ _ e';rw[n5.no]at this;cases this
  have Sl:H oJ=none:=by cases e':H oJ with |none=>rfl |some o=>have:=s1 _ _ e';rw[nlr]at this;cases this
  have al:a≠l:=λz=>by rw[<-z,e]at nl;cases nl
  have ql:q≠l:=λz=>by rw[<-z,eq]at nl;cases nl
  have Ws:a≠oJ:=λz=>by rw[<-z,e]at Sl;cases Sl
  have llr:l≠oJ:=λz=>by have:=n5.no;rw[z,(s3.trans s4) _ _ DW]at this;cases this
  have XF:=QT.length;rw[HR]at XF;have td:=Bw S.aA sp;have tl:=yE fG jW ok.dP ok.eQ;have tp:=EW fG ok.dP;have a4u:fQ ns S=S:=by unfold fQ;rw[bj ao]
  have iA:sizeLine=16777216:=by decide
  erw[λO H6=>∃T es us w8,O=[some (.ref a),some (.int most),some y,some (.int (aK ns)),some (.ref oJ),some tX,some uv,some (.ref l),w8]/\bR [a,l] H5 H6/\cc K C H6 a q M T/\kS M D T/\T.os=S.os/\T.ds=S.ds/\T.aA=S.aA/\T.dn<=aK ns/\1<=es.length/\(es.length:Int)<=most/\H6 l=some (.lst us)/\aO K H6 us es/\cH es=true/\Run M S es (fQ ns T),?_,?_]
  ·erw[qY (λO H6=>∃T es us w8,O=[some (.ref a),some (.int most),some y,some (.int (aK ns)),some (.ref oJ),some tX,some uv,some (.ref l),w8]/\bR [a,l] H5 H6/\cc K C H6 a q M T/\kS M D T/\T.os=S.os/\T.ds=S.ds/\T.aA=S.aA/\T.dn=S.dn+es.length/\T.dn<=aK ns/\(es.length:Int)<=most/\H6 l=some (.lst us)/\aO K H6 us es/\cH es=true/\Run M S es (fQ ns T)/\(es=[]->¬Halt T.pc T.aR)) (λ_ H6=>match H6 l with|some (.lst us)=>2000-us.length|_=>0) ?_ ?_ ?_]
   ·erw[S,[],[],none,Z,bR.refl _ _,R0.same ok.row.no C5,ok.raw,Z,Z,Z,Z,ao,by simp;lia,n5.at',dJ,Z,by rw[a4u];erw[.nil _],λ_=>nh]
   ·rintro O H6 ⟨T,es,us,w8,rfl,bt,RT,raw,jH,sQ,xC,edn,Ur,qv,dl,rd,oU,run,hnh⟩
    have lu:=rd.length;let(qG,SE,bv6,a27,Yc,e6,t1,t2,t3,t4):=RT.ob;have ES:cB H5 H6:=bt.v λx hx o' eD=>by
     simp only[bI,ck,cJ]at hx;rcases hx with rfl|rfl
     ·rw[C5 _ _ e]at eD;cases eD;trivial
     ·rw[n5.at']at eD;cases eD;trivial
    have nos:cH T.ds=true:=by rw[sQ];erw[ok.row.no]
    have L5:1<=es.length->∃T' qD mI Bn,[some (.ref a),some (.int most),some y,some (.int (aK ns)),some (.ref oJ),some tX,some uv,some (.ref l),w8]=[some (.ref a),some (.int most),some y,some (.int (aK ns)),some (.ref oJ),some tX,some uv,some (.ref l),Bn]/\bR [a,l] H5 H6/\cc K C H6 a q M T'/\kS M D T'/\T'.os=S.os/\T'.ds=S.ds/\T'.aA=S.aA/\T'.dn<=aK ns/\1<=qD.length/\(qD.length:Int)<=most/\H6 l=some (.lst mI)/\aO K H6 mI qD/\cH qD=true/\Run M S qD (fQ ns T'):=λh1=>#[T,es,us,w8,Z,bt,RT,raw,jH,sQ,xC,Ur,h1,qv,dl,rd,oU,run];erw[_,Z,l,us,Z,.inl (aD.of dl),_,Z,_,_,Z,Z,_,Z,?_];show if decide ((us.length:Int)<most)=true then _ else _;by_cases c1:(us.length:Int)<most
    ·rw[bM c1]
     erw[bE ?_];erw[_,Z,a,qG,_,_,Z,e6,Z,_,Z,_,_,Z,Z,_,Z,?_];show if decide ((T.dn:Int)<(aK ns:Int))=true then _ else _;by_cases c2:T.dn<aK ns
     ·rw[bM ao]
      erw[bE ?_];have S4:cF M D T:=raw.ok (.inr #[ns,sp,by rw[jH];erw[eo],c2]);have a4t:fQ ns T=T:=by unfold fQ;rw[bj ao]
      erw[_,Z,a,qG,_,Z,e6,Z,a,q,M,D,T,Z,RT,S4,aL,_,Z,?_];by_cases c3:Halt T.pc T.aR
      ·have hb:(T.aR.isSome&&decide (T.pc=0))=true:=by let(h1,h2):=c3;rw[bM h2,Bb];cases hs:T.aR with |none=>exact(h1 hs).elim |some _=>rfl
       rw[hb];erw[bf ?_];erw[L5 ?_];cases es with |nil=>exact(hnh Z c3).elim |cons _ _=>simp
      ·have hb:(T.aR.isSome&&decide (T.pc=0))=false:=by cases hs:T.aR with |none=>rfl |some _=>show decide (T.pc=0)=false;erw[cG λh2=>c3 #[by rw[hs];simp,h2]]
       rw[hb];erw[bE ?_];have rT:lF M T=lF M S:=by unfold lF;rw[jH,xC]
       erw[_,Z,a,qG,_,Z,e6,Z,?_];erw[_,Z,_,Z,_,Z,_,Z,a,qG,_,_,Z,e6,Z,_,_,Z,Z,?_];have a0l:cu K H6 tX (topR S.aA sp):=((rtp.go s4).go n5.same).v ES;have a0u:cu K H6 uv (lF M S):=(rrc.go n5.same).v ES;erw[a,q,M,D,T,tX,uv,topR S.aA sp,lF M S,_,Z,RT,S4,aL,a0l,td,tl,a0u,Rd,Rl,ao,ao,c3,λmid H7 a0G R7 b7=>?_];let(sS,uM,Ea,Cf,Bt,e7',Nq,Z7,Z6,Z5):=R7.ob;have e7:H7 a=some (.ins C sS (fH uM Ea (.int T.dn) (.ref q) Cf (.int T.aA) (.str T.side) (.str T.mark) Bt)):=e7';have Bp:cB H6 H7:=b7.v λx hx o' eD=>by rw[cn]at hx;rw[hx,e6]at eD;cases eD;trivial
       have DX:=b7 _ _ dl (by rw[cn];erw[al.symm]);have abM:=jX _ _ DW;have abL:=bt _ _ abM (by simp;erw[Ws.symm,llr.symm]);have abK:=b7 _ _ abL (by rw[cn];erw[Ws.symm]);have a0J:aO K H7 yr (pL ns):=aO.v Bp _ (HQ ns) (aO.v ES _ (HQ ns) (aO.mono jX _ QT));obtain⟨rv,V4⟩:∃rv,yr[T.dn]? =some rv:=#[_,cE (show T.dn<yr.length by lia)];let(dr,Vg,HY):=a0J.get' T.dn V4;rw[QN c2]at Vg;cases Vg;have mB:Bd 2000 (pW M.r M.f T.pc (topR S.aA sp) (lF M S) ((aK ns:Int)-T.dn) T.aR):=by have D1:=raw.D1;have D2:=raw.D2;exact((Jh ao ao ao raw.pd (td.mono ao) (Rd.mono ao) raw.aR c3).bd (eT Jf (eT tl aG))).mono ao
       have mP:0<pW M.r M.f T.pc (topR S.aA sp) (lF M S) ((aK ns:Int)-T.dn) T.aR:=Jg uw.1 qB.1 ao raw.pd.nn tp Rd.nn raw.aR c3;erw[_,Z,.inl #[Z,_,aD.of DX],?_];erw[_,Z,a,sS,_,_,Z,e7,Z,?_];erw[_,Z,_,Z,a,sS,_,_,Z,e7,Z,.inl #[oJ,_,_,_,Z,Z,aD.of abK,cN (show(0:Int)<=(T.dn:Int) by lia) (by simpa using V4),?_]];erw[_,Z,uM,rv,mid,M.rs,M.r,M.f,M.j,M.t,gC ns T.dn,_,Z,Nq,aL,HY,a0G,mB,mP,λent H8 a0T s8=>?_];have Ai:=s8 _ _ DX;erw[l,us,_,Z,Z,Ai,ao,?_];have e8:(_L.upd H8 l (.lst (us++[ent]))) a=some (.ins C sS (fH uM Ea (.int T.dn) (.ref q) Cf (.int T.aA) (.str T.side) (.str T.mark) Bt)):=by rw[aQ al];erw[s8 _ _ e7]
       erw[_,Z,a,sS,_,_,Z,e8,Z,_,_,Z,Z,sS,_,e8,by show 9<1000;decide,?_];have vl:cB H8 (_L.upd H8 l (.lst (us++[ent]))):=.upd Ai trivial;have va:cB (_L.upd H8 l (.lst (us++[ent]))) (_L.upd (_L.upd H8 l (.lst (us++[ent]))) a (.ins C sS (fH uM Ea (.int ((T.dn:Int)+1)) (.ref q) Cf (.int T.aA) (.str T.side) (.str T.mark) Bt))):=.upd e8 trivial;have v7:=(s8.v.trans vl).trans va;have eS:eY M T ns sp={IV M T (topR S.aA sp) (lF M S) ((aK ns:Int)-T.dn)with dn:=T.dn+1}:=by unfold eY;rw[rT,xC]
       have eE:sj M T ns sp=vZ M.t (gC ns T.dn) (pW M.r M.f T.pc (topR S.aA sp) (lF M S) ((aK ns:Int)-T.dn) T.aR):=by unfold sj gJ;rw[rT,xC]
       have a7i:One M T (sj M T ns sp) (fQ ns (eY M T ns sp)):=.line (by rw[jH];erw[eo]) c3;let(yq,eq7,rq7):=R7.qu;have J0:cH (es++[sj M T ns sp])=true:=gE.mpr λd hd=>by
        rcases iI.mp hd with h|h
        ·erw[gE.mp oU d h]
        ·rw[cn]at h;rw[h];erw[NF _ _ _]
       have q7l:q≠l:=ql;erw[#[eY M T ns sp,es++[sj M T ns sp],us++[ent],_,Z,λb o' eb hb=>?_,?_,T4 raw aL (by rw[jH];erw[eo]) c2 c3,jH,sQ,xC,?_,?_,?_,?_,?_,?_,?_,λz=>by simp at z],?_]
       ·have ha:b≠a:=λz=>hb (by rw[z];simp)
        have gL:b≠l:=λz=>hb (by rw[z];simp);rw[aQ ha,aQ gL];erw[s8 _ _ (b7 _ _ (bt _ _ eb hb) (by rw[cn];erw[ha]))]
       ·rw[eS]
        erw[#[sS,uM,Ea,Cf,Bt,?_,RD.v v7 _ (gF _ _ _ _ _) Nq,RD.v v7 _ (jZ _) Z7,Z6.v v7,Z5.v v7],yq,?_,aO.v v7 _ nos rq7]
        ·erw[bP]
        ·rw[aQ aq.symm,aQ ql];erw[s8 _ _ eq7]
       ·show T.dn+1=_
        rw[eP];show _=_+(_+1);lia
       ·show T.dn+1<=_
        lia
       ·rw[eP];show((es.length+1:Nat):Int)<=most;lia
       ·rw[aQ al.symm,bP]
       ·erw[aO.v va _ J0 (aO.v vl _ J0 ?_)]
        have r7:aO K H8 us es:=aO.mono s8 _ (aO.v Bp _ oU rd);erw[r7.append (cO ?_ dJ)];rw[eE];erw[a0T]
       ·erw[J0]
       ·rw[a4t]at run
        erw[run.snoc a7i]
       ·show(match(_L.upd (_L.upd H8 l (.lst (us++[ent]))) a _) l with|some (.lst us)=>2000-us.length|_=>0)<(match H6 l with|some (.lst us)=>2000-us.length|_=>0)
        rw[aQ al.symm,bP,dl];show 2000-(us++[ent]).length<2000-us.length;rw[eP];show 2000-(us.length+1)<_
        lia
     ·rw[cG ao]
      erw[bf ?_];erw[L5 ao]
    ·rw[cG c1]
     erw[bf ?_];erw[L5 ao]
   ·rintro O H6 Q1 Q2 hq ⟨v1,f1,l',mI,f2,f3,v2,f4,i1,i2,f5,f6,b1,f7,h⟩
    erw[v1,f1,l',mI,f2,f3,v2,f4,i1,i2,f5,f6,b1,f7,CS ?_ (hq _ _) h];rintro⟨v3,f8,a',iD,oX,u',f9,L3,L1,v4,f12,i3,i4,f13,f14,b2,KZ,h⟩;erw[v3,f8,a',iD,oX,u',f9,L3,L1,v4,f12,i3,i4,f13,f14,b2,KZ,CS ?_ (hq _ _) h];rintro⟨v5,KY,a2,jI,DE,KW,KU,KS,a3,q3,M3,D3,S3,KR,KQ,KO,KN,b3,KL,h⟩;erw[v5,KY,a2,jI,DE,KW,KU,KS,a3,q3,M3,D3,S3,KR,KQ,KO,KN,b3,KL,hq _ _ h]
  ·rintro O H6 ⟨T,es,us,w8,rfl,bt,RT,raw,jH,sQ,xC,Ur,h1,qv,dl,rd,oU,run⟩
   let(qG,SE,bv6,a27,Yc,e6,t1,t2,t3,t4):=RT.ob;have a7t:T.os≠[]:=by rw[jH];erw[cj]
   have bH:∀{H7:Hp},bR [a] H6 H7->bR [a,q] H H7:=λ{H7} b7 b o' eb hb=>by
    have ha:b≠a:=λz=>hb (by rw[z];simp);erw[b7 _ _ (bt _ _ (C5 _ _ eb) λhm=>?_) (by rw[cn];erw[ha])];simp only[bI,ck,cJ]at hm;rcases hm with h|h
    ·erw[ha h]
    ·rw[h,nl]at eb;cases eb
   erw[λO H7=>∃q' Bn,O=[some (.ref a),some (.int most),some y,some (.int (aK ns)),some (.ref oJ),some tX,some uv,some (.ref l),Bn]/\cc K C H7 a q' M (fQ ns T)/\Mv a q H q' H7/\l≠q'/\∃mI,H7 l=some (.lst mI)/\aO K H7 mI es,?_,?_]
   ·erw[_,Z,a,qG,_,_,Z,e6,Z,_,Z,.inl #[_,_,Z,Z,_,Z,?_]]
    show if decide ((T.dn:Int)=(aK ns:Int))=true then _ else _;by_cases c:T.dn=aK ns
    ·rw[bM ao]
     erw[bE ?_];erw[_,Z,a,qG,_,Z,e6,Z,a,q,M,D,T,Z,RT,raw,aL,a7t,λq' H7 R7 nq b7=>?_];have Bp:cB H6 H7:=b7.v λx hx o' eD=>by rw[cn]at hx;rw[hx,e6]at eD;cases eD;trivial
     erw[q',_,Z,by unfold fQ;rw[bo c];erw[R7],#[bH b7,.inr ?_],λz=>?_,us,b7 _ _ dl (by rw[cn];erw[al.symm]),aO.v Bp _ oU rd]
     ·cases e':H q' with |none=>rfl |some o'=>
      have h5:=C5 _ _ e';by_cases ha:q'=a
      ·rw[ha,e6]at nq;cases nq
      ·by_cases gL:q'=l
       ·rw[gL,nl]at e';cases e'
       ·have:=bt _ _ h5 (by simp;erw[ha,gL])
        rw[nq]at this;cases this
     ·rw[<-z,dl]at nq;cases nq
    ·rw[cG ao]
     erw[bf ?_];erw[q,_,Z,by unfold fQ;rw[bj c];erw[RT],#[bH (bR.refl _ _),.inl Z],ql.symm,us,dl,rd]
   ·rintro O H7 ⟨q',Bn,rfl,R7,uM,lq,mI,DX,rd7⟩
    erw[_,Z,k l mI es (fQ ns T) q' H7 nl DX rd7 run h1 qv R7 uM lq]
end
section
theorem Mv.trans(m1:Mv a q H q1 H1)(m2:Mv a q1 H1 q2 H2)(ha:H1 a≠none):Mv a q H q2 H2:=by
 erw[λb o e hb=>?_,?_]
 ·erw[m2.but _ _ (m1.but _ _ e hb) λhm=>?_]
  simp only[bI,ck,cJ]at hm hb;rcases hm with h|h
  ·erw[hb (.inl h)]
  ·rcases m1.nq with h1|h1
   ·erw[hb (.inr (h.trans h1))]
   ·rw[<-h]at h1;rw[h1]at e;cases e
 ·rcases m2.nq with h|h
  ·rw[h];erw[m1.nq]
  ·cases e:H q2 with |none=>erw[.inr rfl] |some o=>
   by_cases h1:q2=q
   ·erw[.inl h1]
   ·by_cases h2:q2=a
    ·rw[h2]at h;exact(ha h).elim
    ·have:=m1.but _ _ e (by simp;erw[h2,h1])
     rw[h]at this;cases this
inductive ae9(K:aa)(C:Addr)(vs:List V)(H:Hp)(Q:VK):Prop |mk (a:_)(q:_)(M:_)(D:_)(S:_)(most:_)(h0:vs=[.ref a,.int most])(h1:cc K C H a q M S)(h2:cF M D S)(h3:M.Ok)(h4:S.os≠[])(h5:¬Halt S.pc S.aR)(h6:1<=most)(h7:most<=1000)(h8:∀l ys es S' q' H',H l=none->H' l=some (.lst ys)->aO K H' ys es->Run M S es S'->1<=es.length->(es.length:Int)<=most->cc K C H' a q' M S'->Mv a q H q' H'->l≠q'->Q (.ref l) H')
def Oa(K:aa)(C:Addr):Sp:=λvs H Q _=>ae9 K C vs H Q
theorem Pt:bu ["self","most","item"] ["self","most"] (aW Gj):=bF aG
theorem a3c(F:MA K C "entries_of_first" "Runner.entries_of_first" Gj)(TC:fm K C)(oW:aF P w K mg au "is_line" 1 (wa K))(a8L:cQ P w K mg au C "steps_of_first" 10 (O6 K C))(Kq:cQ P w K mg au C "end_first" 3 (Fm K C)):cQ P w K mg au C "entries_of_first" 11 (Oa K C):=by
 erw[F.has Pt (λvs H Q E h=>?_) (λ_ _ _ _ _ _=>dN λ_ _=>rfl) (λf aH A outer s H vs Q E hr h=>?_)]
 · let(a,q,M,D,S,most,rfl,_):=h
   rfl
 · let(a,q,M,D,S,most,rfl,R0,ok,aL,cj,nh,m1,m2,k):=h
   let(dx,mv,bv,cA,tv,e,r1,r2,r3,r4):=R0.ob;let(ys,eq,rq):=R0.qu;have aq:=R0.ne;have nd:=Pt.nd;have ll:=ok.row.len;have xl:0<S.os.length:=by cases h:S.os with|nil=>exact(cj h).elim|cons _ _=>simp
   obtain⟨d,ed⟩:∃d,S.ds[0]? =some d:=#[_,cE (show 0<S.ds.length by lia)];let(y,ey,ry):=rq.get 0 ed;let(o,eo,it):=ok.row.get ed;erw[_,(aB (pS 2 nd (px K (cK TC.cl TC.jl (pv 0)) az)) (aB (bN (cL (pf oW hr (ak (pv 2) ay))) (aI (aV (kJ a8L TC.cl (hr.mono aw) (pv 0) (ak (pv 1) ay)))) bQ) (aB (ij (bN (bS (dQ K Z hr.units) (px K (pv 2) az) ba (bA _)) (aI (gd TC.cl TC.Sx (pv 0) (px K (pv 2) az))) bQ)) (aB (ij (bN (bS (dQ K Z hr.units) (px K (pv 2) az) ba (bA _)) (aI (gd TC.cl TC.Sy (pv 0) (px K (pv 2) az))) bQ)) (aB (kG (iK Kq TC.cl (hr.mono aw) (pv 0))) (aI (aV (fc (ak (pv 2) ay))))))))),?_];erw[_,Z,a,dx,_,_,Z,e,Z,.inl #[q,_,0,y,Z,Z,aD.of eq,cN (eJ 0) ey,?_]];erw[_,Z,y,d,o,Z,ry,it,_,Z,?_];cases o with |some z=>let(ns,sp):=z;erw[bE ?_];erw[_,Z,a,dx,_,Z,e,Z,_,Z,a,q,M,D,S,ns,sp,most,Z,R0,ok,aL,eo,nh,m1,m2,k] |none=>
     erw[bf ?_];have iL:=ok.rw 0 d eo ed;have wd:∃z u ya yr,d= .tuple [.str z,u]/\y= .ref ya/\bc K H ya (.str z::[yr])/\RD K H yr u/\SeqAt.shaped (.str z)=true:=by
      rcases iL with⟨n,rfl,_⟩|⟨w',s',rfl,hw,_⟩
      · let(ya,xs,rfl,h1,h2):=ry.cS
        let(x1,rr,rfl,e1,h2):=h2.cons_inv;let(x2,rr,rfl,e2,h2):=h2.cons_inv;cases h2.nil_inv;cases e1.str_inv;erw[_,_,ya,x2,Z,Z,h1,e2,aG]
      · let(ya,xs,rfl,h1,h2):=ry.cS
        let(x1,rr,rfl,e1,h2):=h2.cons_inv;let(x2,rr,rfl,e2,h2):=h2.cons_inv;cases h2.nil_inv;cases e1.str_inv;erw[_,_,ya,x2,Z,Z,h1,e2,by rcases hw with rfl|rfl<;>decide+kernel]
     let(z,u,ya,yr,rfl,rfl,JM,QE,sz):=wd;have tU:SeqAt.shaped (.str "tool")=true:=by decide+kernel
     have tM:SeqAt.shaped (.str "mark")=true:=by decide+kernel
     have eqT:∀(x y:Str),PyData.eqv (.str x) (.str y)=decide (x=y):=λx y=>by show(x==y)=decide (x=y);rw[kx];simp
     erw[λO H1=>O=[some (.ref a),some (.int most),some (.ref ya)]/\bR [a] H H1/\H1 a=some (.ins C dx (fH mv bv (.int S.dn) (.ref q) cA (.int S.aA) (.str (if z="tool" then(cX (.tuple [.str z,u]) S).side else S.side)) (.str S.mark) tv)),?_,?_]
     · erw[_,Z,.inr #[ya,_,0,.str z,Z,Z,JM,cN (eJ 0) Z,.inr #[_,_,bT _,bT _,sz,tU,_,Z,?_]]]
       rw[eqT];by_cases c:z="tool"
       · rw[bM c]
         erw[bE ?_];have hu:∃s',u= .str s':=by
          rcases iL with⟨n,h,_⟩|⟨w',s',h,hw,_⟩
          ·cases h;erw[absurd c aG]
          ·cases h;erw[_,rfl]
         let(s',rfl):=hu;cases QE.str_inv;erw[_,Z,.inr #[ya,_,1,.str s',Z,Z,JM,cN aw Z,_,Z,a,dx,_,Z,e,by show 9<1000;decide,?_]];erw[Z,Au (by simp),?_];rw[bo c];have es:(cX (.tuple [.str z,.str s']) S).side=s':=by unfold cX;simp only[bo c]
         rw[es];erw[bP]
       · rw[cG c]
         erw[bf #[Z,bR.refl _ _,?_]];rw[bj c];erw[e]
     rintro O H1 ⟨rfl,b1,e1⟩;have Y2:cB H H1:=b1.v λx hx o' eD=>by rw[cn]at hx;rw[hx,e]at eD;cases eD;trivial
     have U5:=bc.v Y2 JM;erw[λO H2=>O=[some (.ref a),some (.int most),some (.ref ya)]/\bR [a] H H2/\H2 a=some (.ins C dx (fH mv bv (.int S.dn) (.ref q) cA (.int S.aA) (.str (cX (.tuple [.str z,u]) S).side) (.str (cX (.tuple [.str z,u]) S).mark) tv)),?_,?_]
     · erw[_,Z,.inr #[ya,_,0,.str z,Z,Z,U5,cN (eJ 0) Z,.inr #[_,_,bT _,bT _,sz,tM,_,Z,?_]]]
       rw[eqT];by_cases c:z="mark"
       · rw[bM c]
         erw[bE ?_];have nt:¬z="tool":=by rw[c];decide+kernel
         rw[bj nt]at e1;have hu:∃s',u= .str s':=by
          rcases iL with⟨n,h,_⟩|⟨w',s',h,hw,_⟩
          ·cases h;erw[absurd c aG]
          ·cases h;erw[_,rfl]
         let(s',rfl):=hu;cases QE.str_inv;erw[_,Z,.inr #[ya,_,1,.str s',Z,Z,U5,cN aw Z,_,Z,a,dx,_,Z,e1,by show 9<1000;decide,?_]];erw[Z,b1.trans (Au (by simp)),?_];have es:(cX (.tuple [.str z,.str s']) S).side=S.side/\(cX (.tuple [.str z,.str s']) S).mark=s':=by constructor<;>(unfold cX;simp only[bj nt,bo c])
         rw[es.1,es.2];erw[bP]
       · rw[cG c]
         erw[bf #[Z,b1,?_]];have em:(cX (.tuple [.str z,u]) S).mark=S.mark:=by
          unfold cX;split
          · next h => cases h;split
                      ·rfl
                      ·first|rfl|rw[bj c]
          ·rfl
         have es:(if z="tool" then(cX (.tuple [.str z,u]) S).side else S.side)=(cX (.tuple [.str z,u]) S).side:=by
          by_cases c2:z="tool"
          ·rw[bo c2]
          · rw[bj c2]
            unfold cX;split
            ·next h=>cases h;first|rfl|rw[bj c2,bj c]
            ·rfl
         rw[es]at e1;rw[em];erw[e1]
     rintro O H2 ⟨rfl,b2,e2⟩;have yA:cB H H2:=b2.v λx hx o' eD=>by rw[cn]at hx;rw[hx,e]at eD;cases eD;trivial
     let(R8,kb,Lf,dn',pl'):=FE ok.raw (.tuple [.str z,u]);have fx:(cX (.tuple [.str z,u]) S).pc=S.pc/\(cX (.tuple [.str z,u]) S).aA=S.aA/\(cX (.tuple [.str z,u]) S).aR=S.aR:=by
      unfold cX;split
      · split
        ·erw[Z,Z,Z]
        ·split<;>erw[Z,Z,Z]
      ·erw[Z,Z,Z]
     have R2:cc K C H2 a q M (cX (.tuple [.str z,u]) S):=by
      erw[#[dx,mv,bv,cA,tv,?_,RD.v yA _ (gF _ _ _ _ _) r1,?_,?_,?_],ys,b2 _ _ eq (by rw[cn];erw[aq.symm]),?_]
      ·rw[dn',fx.2.1];erw[e2]
      ·rw[pl'];erw[RD.v yA _ (jZ _) r2]
      ·rw[fx.1];erw[r3.v yA]
      ·rw[fx.2.2];erw[r4.v yA]
      ·rw[Lf];erw[aO.v yA _ ok.row.no rq]
     erw[_,Z,a,dx,_,Z,e2,Z,a,q,M,D,_,Z,R2,R8,aL,by rw[kb];erw[cj],λq' H3 R3 nq b3=>?_];have LN:=b2.trans b3;have Y1:cB H H3:=LN.v λx hx o' eD=>by rw[cn]at hx;rw[hx,e]at eD;cases eD;trivial
     have nq0:H q'=none:=by cases e':H q' with |none=>rfl |some o'=>
        by_cases ha:q'=a
        ·rw[ha,e2]at nq;cases nq
        · have:=b2 _ _ e' (by rw[cn];erw[ha])
          rw[nq]at this;cases this
     refine⟨_,Z,cW Z,λl H4 n4=>?_⟩;have nl:H l=none:=by cases e':H l with |none=>rfl |some o'=>
        by_cases ha:l=a
        · let(Lc,_,_,_,_,e3,_):=R3.ob
          have:=n4.no;rw[ha,e3]at this;cases this
        · have:=LN _ _ e' (by rw[cn];erw[ha])
          rw[n4.no]at this;cases this
     have okS:cF M D (gG (cX (.tuple [.str z,u]) S)):=R8.end (by rw[kb];erw[cj]);erw[k l [.ref ya] [.tuple [.str z,u]] _ q' H4 nl n4.at' (cO (RD.v (Y1.trans n4.same.v) _ (gE.mp ok.row.no _ (fO ed)) ry) dJ) (.cons (.iL eo ed nh) (.nil _)) (by simp) (by simpa using m1) (R3.same okS.row.no n4.same) #[λb o' eb hb=>n4.same _ _ (LN _ _ eb (by rw[cn];intro h;erw[hb (by rw[h];simp)])),.inr nq0] ?_];intro h;have:=n4.no;let(yq,eq3,_):=R3.qu;rw[h,eq3]at this;cases this
inductive aea(K:aa)(C:Addr)(vs:List V)(H:Hp)(Q:VK):Prop |mk (a:_)(q:_)(M:_)(D:_)(S:_)(n:_)(h0:vs=[.ref a,.int n])(h1:cc K C H a q M S)(h2:cF M D S)(h3:M.Ok)(h4:0<=n)(h5:n<=1000)(h6:∀l ys es S' q' H',H l=none->H' l=some (.lst ys)->aO K H' ys es->Run M S es S'->(es.length:Int)<=n->((es.length:Int)=n\/S'.os=[]\/Halt S'.pc S'.aR)->cc K C H' a q' M S'->Mv a q H q' H'->l≠q'->Q (.ref l) H')
def Ob(K:aa)(C:Addr):Sp:=λvs H Q _=>aea K C vs H Q
theorem Pu:bu ["self","n","told"] ["self","n"] (aW Gk):=bF aG
theorem a3d(F:MA K C "entries" "Runner.entries" Gk)(TC:fm K C)(B:bK mg)(A4:cQ P w K mg au C "is_halted" 2 (gT K C λ_ S H Q=>Q (.bl (S.aR.isSome&&decide (S.pc=0))) H))(a8P:cQ P w K mg au C "entries_of_first" 11 (Oa K C)):cQ P w K mg au C "entries" 12 (Ob K C):=by
 exists F.has,Pu,dN λ_ _=>rfl
 ·let(a,q,M,D,S,n,rfl,R0,ok,aL,n0,n1,k):=h
  have nd:=Pu.nd;erw[_,(aB (pS 2 nd (fc ay)) (aB (ij (rK iZ (PW.pt (pO (bS jD (dZ K B (ak (pv 2) ay)) (pv 1) (bA _)) (pO (zh K Z (cK TC.cl TC.jl (pv 0))) (wy (dv (cL (iK A4 TC.cl (hr.mono aw) (pv 0)))))))) (aI (kG (a26 K Z (pv 2) (ak (kJ a8P TC.cl (hr.mono aw) (pv 0) (ak (aP iM (pv 1) (dZ K B (ak (pv 2) ay))) ay)) ay)))))) (aI (aV (pv 2))))),?_];erw[cW Z,λl H1 nw=>?_];let(dx,mv,bv,cA,tv,e,r1,r2,r3,r4):=R0.ob;let(ys,eq,rq):=R0.qu;have al:a≠l:=λz=>by have:=nw.no;rw[<-z,e]at this;cases this
  have ql:q≠l:=λz=>by have:=nw.no;rw[<-z,eq]at this;cases this
  have hq0:H q≠none:=by rw[eq];simp
  have ha0:H a≠none:=by rw[e];simp
  erw[λO H2=>∃es S' q' us,O=[some (.ref a),some (.int n),some (.ref l)]/\cc K C H2 a q' M S'/\H2 l=some (.lst us)/\aO K H2 us es/\Run M S es S'/\(es.length:Int)<=n/\((es.length:Int)=n\/S'.os=[]\/Halt S'.pc S'.aR)/\Mv a q H q' H2/\l≠q',?_,?_]
  ·erw[qY (λO H2=>∃es S' q' us,O=[some (.ref a),some (.int n),some (.ref l)]/\cc K C H2 a q' M S'/\H2 l=some (.lst us)/\aO K H2 us es/\Run M S es S'/\(es.length:Int)<=n/\Mv a q H q' H2/\l≠q') (λ_ H2=>match H2 l with|some (.lst us)=>2000-us.length|_=>0) ?_ ?_ ?_]
   ·erw[[],S,q,[],Z,R0.same ok.row.no nw.same,nw.at',dJ,.nil _,by simpa using n0,#[.of nw.same,.inl rfl],ql.symm]
   ·rintro O H2 ⟨es,S',q',us,rfl,R2,dl,rd,run,qv,wX,lq⟩
    have pV:=run.ok ok aL;have oU:=run.no ok aL;have lu:=rd.length;let(jI,Jc,bv2,ag0,tv2,e2,t1,t2,t3,t4):=R2.ob;let(yq,eq2,rq2):=R2.qu;have Jl:=rq2.length;have T7:=pV.row.len;erw[_,Z,l,us,Z,.inl (aD.of dl),_,Z,_,_,Z,Z,_,Z,?_];show if decide ((us.length:Int)<n)=true then _ else _;by_cases c1:(us.length:Int)<n
    ·rw[bM c1]
     erw[bE ?_];erw[_,Z,a,jI,_,_,Z,e2,Z,_,.inl #[_,aD.of eq2,Z],?_];cases oS:S'.os with |nil=>have:yq=[]:=List.length_eq_zero_iff.mp (by rw[Jl,T7,oS];rfl);subst this;erw[bf ?_];erw[es,S',q',us,Z,R2,dl,rd,run,qv,.inr (.inl oS),wX,lq] |cons o os=>
      have cj:S'.os≠[]:=by rw[oS];simp
      have:∃y yr,yq=y::yr:=by cases yq with |nil=>rw[T7,oS]at Jl;simp at Jl |cons y yr=>erw[y,yr,Z]
      let(y,yr,rfl):=this;erw[bE ?_];erw[_,Z,a,jI,_,Z,e2,Z,a,q',M,D,S',Z,R2,pV,aL,_,Z,?_];by_cases c3:Halt S'.pc S'.aR
      ·have hb:(S'.aR.isSome&&decide (S'.pc=0))=true:=by let(h1,h2):=c3;rw[bM h2,Bb];cases hs:S'.aR with |none=>exact(h1 hs).elim |some _=>rfl
       rw[hb];erw[bf #[es,S',q',us,Z,R2,dl,rd,run,qv,.inr (.inr c3),wX,lq]]
      ·have hb:(S'.aR.isSome&&decide (S'.pc=0))=false:=by cases hs:S'.aR with |none=>rfl |some _=>show decide (S'.pc=0)=false;erw[cG λh2=>c3 #[by rw[hs];simp,h2]]
       rw[hb];erw[bE ?_];erw[_,Z,.inl #[Z,_,aD.of dl],?_];erw[_,Z,a,jI,_,Z,e2,Z,_,Z,_,Z,l,us,Z,.inl (aD.of dl),_,_,Z,Z,?_];erw[a,q',M,D,S',_,Z,R2,pV,aL,cj,c3,ao,ao,λl2 y2 fs S2 q2 H3 Sm dl2 wu HL f1 f2 R3 wY lq2=>?_];have vU:=R2.v wY.but;have Vs:=wY.but _ _ dl (by simp;erw[al.symm,lq]);have rd3:=aO.v vU _ oU rd;have CI:=wu.length;have iA:sizeLine=16777216:=by decide
       erw[l,l2,us,y2,Z,Z,Vs,dl2,ao,?_];have vu:cB H3 (_L.upd H3 l (.lst (us++y2))):=.upd Vs trivial;have a7q:=HL.no pV aL;have gW:=HL.ok pV aL;have SR:l≠q2:=λz=>by
        rcases wY.nq with h|h
        ·erw[lq (z.trans h)]
        ·rw[<-z,dl]at h;cases h
       erw[#[es++fs,S2,q2,us++y2,Z,R3.go gW.row.no vu (λo' eD=>by rw[aQ al];erw[eD]) (λo' eD=>by rw[aQ SR.symm];erw[eD]),bP,(aO.v vu _ oU rd3).append (aO.v vu _ a7q wu),run.trans HL,by rw[eP];lia,?_,SR],?_]
       ·have m:=wX.trans wY (by rw[e2];simp)
        erw[λb o' eb hb=>by
         have gL:b≠l:=λz=>by have:=nw.no;rw[<-z,eb]at this;cases this
         rw[aQ gL];erw[m.but _ _ eb hb],m.nq]
       ·show(match(_L.upd H3 l (.lst (us++y2))) l with|some (.lst us)=>2000-us.length|_=>0)<(match H2 l with|some (.lst us)=>2000-us.length|_=>0)
        rw[bP,dl];show 2000-(us++y2).length<2000-us.length;rw[eP]
        lia
    ·rw[cG c1]
     erw[bf ?_];erw[es,S',q',us,Z,R2,dl,rd,run,qv,.inl ao,wX,lq]
   ·rintro O H6 Q1 Q2 hq ⟨v1,f1,l',mI,f2,f3,v2,f4,i1,i2,f5,f6,b1,f7,h⟩
    erw[v1,f1,l',mI,f2,f3,v2,f4,i1,i2,f5,f6,b1,f7,CS ?_ (hq _ _) h];rintro⟨v3,f8,a',iD,oX,u',f9,L3,L1,b2,KZ,h⟩;erw[v3,f8,a',iD,oX,u',f9,L3,L1,b2,KZ,CS ?_ (hq _ _) h];rintro⟨v5,KY,a2,jI,DE,KW,KU,KS,a3,q3,M3,D3,S3,KR,KQ,KO,KN,b3,KL,h⟩;erw[v5,KY,a2,jI,DE,KW,KU,KS,a3,q3,M3,D3,S3,KR,KQ,KO,KN,b3,KL,hq _ _ h]
  ·rintro O H2 ⟨es,S',q',us,rfl,R2,dl,rd,run,qv,ny,wX,lq⟩
   erw[_,Z,k l us es S' q' H2 nw.no dl rd run qv ny R2 wX lq]
end
end _a
set_option maxHeartbeats 4000000
namespace _a
open PySem PySem.Spec PyProof.Rows _L _r _l _C _P _W _R
open _O (topR cornO mnO betR atO ownF leadF ownL OkI OkIs)
section
theorem cc.Cb{mv:V}(R:cc K C H a q M S)(e:H a=some (.ins C dx (fH mv bv (.int S.dn) (.ref q) cA (.int S.aA) (.str S.side) (.str S.mark) tv))){Eb Cg Bu:V}(hn:cH S.ds=true)(hd:S'.ds=S.ds) (r1:RD K H mv M.D)(r2:RD K H Eb (eV S'.pl))(r3:cu K H Cg S'.pc)(r4:xO K H Bu S'.aR):cc K C (_L.upd H a (.ins C dx (fH mv Eb (.int S'.dn) (.ref q) Cg (.int S'.aA) (.str S'.side) (.str S'.mark) Bu))) a q M S':=by
 have v:cB H (_L.upd H a (.ins C dx (fH mv Eb (.int S'.dn) (.ref q) Cg (.int S'.aA) (.str S'.side) (.str S'.mark) Bu))):=.upd e trivial;let(ys,eq,rq):=R.qu;erw[#[dx,mv,Eb,Cg,Bu,bP,RD.v v _ (gF _ _ _ _ _) r1,RD.v v _ (jZ _) r2,r3.v v,r4.v v],ys,?_,?_]
 ·rw[aQ R.ne.symm];erw[eq]
 ·rw[hd];erw[aO.v v _ hn rq]
def gB(f:Int)(pc:Rat):Int:=(pc.num+2*f*(pc.den:Int)-1)/(2*f*(pc.den:Int))
theorem NB{f:Int}(hf:1<=f){pc:Rat}(h:0<=pc):(0<=gB f pc)/\(gB f pc=0->pc=0)/\pc<=((2*f*gB f pc:Int):Rat)/\(pc<=1600->gB f pc<=1000):=by
 have hn:=Mp.mpr h;have hd:0<2*f*(pc.den:Int):=jg ao (den_pos pc);have hd1:2*(pc.den:Int)<=2*f*(pc.den:Int):=by
  have:2*1*(pc.den:Int)<=2*f*(pc.den:Int):=B8 ao ao
  lia
 unfold gB;generalize hD:2*f*(pc.den:Int)=dd at hd hd1;have q1:=Int.mul_ediv_add_emod (pc.num+dd-1) dd;have q2:=tT (pc.num+dd-1) (show dd≠0 by lia);have q3:=vQ (pc.num+dd-1) hd;have q0:0<=(pc.num+dd-1)/dd:=Int.ediv_nonneg ao ao;generalize hQ:(pc.num+dd-1)/dd=Q at q0 q1;generalize(pc.num+dd-1)%dd=R at q1 q2 q3;have hle:pc.num<=dd*Q:=by lia
 erw[q0,λe=>?_,?_,λhm=>?_]
 ·rw[e,Int.mul_zero]at hle
  have:pc.num=0:=by lia
  erw[Rat.num_eq_zero.mp this]
 ·erw[Es.mp λcy=>?_]
  rw[Rat.lt_iff,Rat.num_intCast,Rat.den_intCast]at cy;have e1:2*f*Q*(pc.den:Int)=dd*Q:=by rw[<-hD,Int.mul_right_comm]
  rw[e1]at cy
  lia
 ·have vd:¬((1600:Rat)<pc):=Es.mpr hm
  rw[Rat.lt_iff]at vd;have e1:(1600:Rat).num=1600:=rfl;have e2:(1600:Rat).den=1:=rfl;rw[e1,e2]at vd;have h3:pc.num<=1600*(pc.den:Int):=by lia
  erw[Int.not_lt.mp λcy=>?_];have h4:dd*1001<=dd*Q:=B9 ao ao
  lia
theorem Pj:bu ["self","p","q","in_one"] ["self"] (aW G7):=bF aG
theorem a2Y(F:MA K C "stops_in" "Runner.stops_in" G7)(TC:fm K C):cQ P w K mg au C "stops_in" 1 (gT K C λM S H Q=>Q (.int (gB M.f S.pc)) H):=by
 exists F.has,Pj,dc λ_=>rfl
 ·let(a,q,M,D,S,rfl,R,ok,aL,k):=h
  let(dx,mv,bv,cA,tv,e,r1,r2,(pa,rfl,JU),r4):=R.ob;have nd:=Pj.nd;have qB:=aL.f1;let(ma,mb,rfl,jo,kl):=oH r1;have bd:Bd 1600 S.pc:=(ok.pd.bd (eT ok.pm aG)).mono (by have:=ok.D2;lia);have hd:0<2*M.f*(S.pc.den:Int):=jg ao (den_pos S.pc);have wd:Wd (2*M.f*(S.pc.den:Int)):=by
   erw[jh (n:=1700) ?_ aw];rw[gz];have h1:(2*M.f).natAbs<2^7:=by lia
   have:=mX h1 bd.den;erw[gH this (tO aw aw)]
  erw[_,(aB (fu (cK TC.cl TC.uK (pv 0)) (eM K rfl (n:=2) rfl (bU (bh 1 nd) (bU (bh 2 nd) eK)))) (aB (pS 3 nd (aP cw (aP cw az (px K (cK TC.cl TC.m9 (pv 0)) az)) (pv 2))) (aI (aV (aP uE (aP iM (aP dw (pv 1) (pv 3)) az) (pv 3)))))),?_];erw[_,Z,a,dx,_,_,Z,e,Z,pa,_,Z,JU,Z,_,_,Z,_,_,Z,Z,?_];erw[_,Z,a,dx,_,_,Z,e,Z,.inr #[ma,_,2,.int M.f,Z,Z,jo,Z,_,_,Z,Z,.of_left (dh aw aw),?_]];erw[_,Z,_,_,Z,Z,.of_left (dh ao ao),?_];erw[_,Z,_,Z,_,_,Z,Z,_,_,Z,Z,_,Z,_,_,Z,Z,#[hd,wd],?_];erw[k]
theorem Po:bu ["self","steps"] ["self"] (aW Gf):=bF aG
def jn(M:aY)(S:aU):aU:=match S.aR with |none=>{S with aR:=some (S.pc,gB M.f S.pc,0)} |some _=>S
inductive ae6(K:aa)(C:Addr)(vs:List V)(H:Hp)(Q:VK):Prop |mk (a:_)(q:_)(M:_)(D:_)(S:_)(h0:vs=[.ref a])(h1:cc K C H a q M S)(h2:cF M D S)(h3:M.Ok)(h4:∀H',cc K C H' a q M (jn M S)->bR [a] H H'->Q (.int (gB M.f S.pc)) H')
def O9(K:aa)(C:Addr):Sp:=λvs H Q _=>ae6 K C vs H Q
theorem cF.hold{D:Nat}(h:cF M D S)(aL:M.Ok)(hD:D<=1490):cF M (D+10) (jn M S):=by have D1:=h.D1;unfold jn;cases hs:S.aR with |some z=>show cF M (D+10) S;have st:=h.aR;erw[h.row,h.rw,h.len,h.dP,h.eQ,h.dn,h.pl,h.pd.mono ao,h.pm,?_,ao,ao];rw[hs]at st⊢;let(sq,ig,gn):=z;let(a1,a2,a3,a4,a5):=st;erw[a1,a2,a3,a4.mono ao,a5] |none=>let(z1,z2,z3,z4):=NB aL.f1.1 h.pd.nn;erw[h.row,h.rw,h.len,h.dP,h.eQ,h.dn,h.pl,h.pd.mono ao,h.pm,?_,ao,ao];erw[eJ _,z1,z4 h.pm,h.pd,eT h.pm aG,z2,?_];show S.pc*(gB M.f S.pc:Rat)<=S.pc*((gB M.f S.pc-0:Int):Rat);rw[Int.sub_zero];erw[tK]
theorem a36(F:MA K C "hold" "Runner.hold" Gf)(TC:fm K C)(a8K:cQ P w K mg au C "stops_in" 1 (gT K C λM S H Q=>Q (.int (gB M.f S.pc)) H))(vb:cQ P w K mg au C "is_held" 1 (gT K C λ_ S H Q=>Q (.bl S.aR.isSome) H)):cQ P w K mg au C "hold" 2 (O9 K C):=by
 exists F.has,Po,dc λ_=>rfl
 ·let(a,q,M,D,S,rfl,R,ok,aL,k):=h
  let(dx,mv,bv,cA,tv,e,r1,r2,r3,r4):=R.ob;have nd:=Po.nd;erw[_,(aB (pS 1 nd (iK a8K TC.cl (hr.mono aw) (pv 0))) (aB (ij (bN (dv (cL (iK vb TC.cl (hr.mono aw) (pv 0)))) (aI (gd TC.cl TC.uJ (pv 0) (ip (ak (cK TC.cl TC.uK (pv 0)) (ak (pv 1) (ak az ay)))))) bQ)) (aI (aV (pv 1))))),?_];erw[_,Z,a,dx,_,Z,e,Z,a,q,M,D,S,Z,R,ok,aL,?_];erw[λO H1=>O=[some (.ref a),some (.int (gB M.f S.pc))]/\cc K C H1 a q M (jn M S)/\bR [a] H H1,?_,?_]
  ·erw[_,Z,a,dx,_,Z,e,Z,a,q,M,D,S,Z,R,ok,aL,_,Z,?_]
   cases hs:S.aR with |some z=>erw[bf #[Z,?_,bR.refl _ _]];unfold jn;rw[hs];erw[R] |none=>
    erw[bE ?_];erw[_,Z,a,dx,_,_,Z,e,Z,_,Z,cW Z,λt H1 n1=>?_];have e1:=n1.same _ _ e;erw[_,Z,a,dx,_,Z,e1,by show 9<1000;decide,?_];have eh:jn M S={S with aR:=some (S.pc,gB M.f S.pc,0)}:=by unfold jn;rw[hs]
    erw[Z,?_,λb o' eb hb=>?_]
    ·rw[eh]
     exact(R.same ok.row.no n1.same).Cb (S':={S with aR:=some (S.pc,gB M.f S.pc,0)}) e1 ok.row.no rfl (RD.mono n1.same _ r1) (RD.mono n1.same _ r2) (r3.go n1.same) #[t,cA,Z,bc.of n1.at',r3.go n1.same]
    ·have ha:b≠a:=λz=>hb (by rw[z];simp)
     rw[aQ ha];erw[n1.same _ _ eb]
  ·rintro O H1 ⟨rfl,R1,b1⟩
   erw[_,Z,k H1 R1 b1]
theorem Pq:bu ["self"] ["self"] (aW C1):=bF aG
inductive ae7(K:aa)(C:Addr)(vs:List V)(H:Hp)(Q:VK):Prop |mk (a:_)(q:_)(M:_)(D:_)(S:_)(h0:vs=[.ref a])(h1:cc K C H a q M S)(h2:cF M D S)(h3:∀H',cc K C H' a q M {S with aR:=none}->bR [a] H H'->Q (.int (S.ds.length:Nat)) H')
def BK(K:aa)(C:Addr):Sp:=λvs H Q _=>ae7 K C vs H Q
theorem a3a(F:MA K C "go" "Runner.go" C1)(TC:fm K C)(B:bK mg):cQ P w K mg au C "go" 1 (BK K C):=by
 exists F.has,Pq,dc λ_=>rfl
 ·let(a,q,M,D,S,rfl,R,ok,k):=h
  let(dx,mv,bv,cA,tv,e,r1,r2,r3,r4):=R.ob;let(ys,eq,rq):=R.qu;erw[_,(aB (gd TC.cl TC.uJ (pv 0) gU) (aI (aV (dZ K B (ak (cK TC.cl TC.jl (pv 0)) ay))))),?_];erw[_,Z,a,dx,_,Z,e,by show 9<1000;decide,?_];have qF:(_L.upd H a (.ins C dx (fH mv bv (.int S.dn) (.ref q) cA (.int S.aA) (.str S.side) (.str S.mark) .bD))) q=some (.lst ys):=by rw[aQ R.ne.symm];erw[eq]
  erw[_,Z,a,dx,_,_,Z,bP,Z,q,_,Z,.inl (aD.of qF),?_];rw[rq.length];erw[k _ (R.Cb (S':={S with aR:=none}) e ok.row.no rfl r1 r2 r3 rfl) (Au (by simp))]
theorem Ce{D:Nat}(ok:cF M D S):(dj S).length=M.rs.length:=by
 unfold dj;split
 ·erw[ok.pl]
 ·split
  ·next ns sp eo=>rw[nR (by rw[ok.pl];simp[fP];exact(ok.row.ok 0 ns sp eo).1.len)];erw[ok.pl]
  ·erw[ok.pl]
def mF(S:aU):aU:={S with pl:=dj S,dn:=0,ds:=[],os:=[]}
theorem cF.drop{D:Nat}(h:cF M D S):cF M D (mF S):=#[.nil,λi d e=>by simp[mF]at e,by simp[mF],h.dP,h.eQ,.inl rfl,Ce h,h.pd,h.pm,h.aR,h.D1,h.D2]
theorem A1{t:_R.nS}:(t.isSome&&decide (pc=0))=true↔Halt pc t:=by unfold Halt;cases t with |none=>simp |some z=>simp
theorem Px:bu ["self","dropped"] ["self"] (aW Gn):=bF aG
inductive aec(K:aa)(C:Addr)(cM:Addr)(vs:List V)(H:Hp)(Q:VK)(E:XK):Prop |mk (a:_)(q:_)(M:_)(D:_)(S:_)(h0:vs=[.ref a])(h1:cc K C H a q M S)(h2:cF M D S)(h3:M.Ok)(h4:(¬Halt S.pc S.aR->∀H',aE H H'->E (.ref cM) none H'))(h5:(Halt S.pc S.aR->∀q' H',cc K C H' a q' M (mF S)->H q'=none->bR [a] H H'->Q (.int (S.ds.length:Nat)) H'))
def Oc(K:aa)(C cM:Addr):Sp:=λvs H Q E=>aec K C cM vs H Q E
theorem a3g(F:MA K C "drop" "Runner.drop" Gn)(TC:fm K C)(B:bK mg)(Kw:Exc K mg "Moving" cM jM lH)(A4:cQ P w K mg au C "is_halted" 2 (gT K C λ_ S H Q=>Q (.bl (S.aR.isSome&&decide (S.pc=0))) H))(Km:cQ P w K mg au C "place" 3 (gT K C λ_ S H Q=>∀v H',RD K H' v (eV (dj S))->aE H H'->Q v H')):hU P w K mg au C "drop" 5 (Oc K C cM):=by
 erw[F.sM Px (λvs H Q E h=>?_) (λ_ _ _ _ _ _=>dc λ_=>rfl) (λf aH A outer s H vs Q E hr h=>?_)]
 ·let(a,q,M,D,S,rfl,_):=h
  rfl
 ·let(a,q,M,D,S,rfl,Ra,ok,aL,k1,k2):=h
  let(dx,mv,bv,cA,tv,e,r1,r2,r3,r4):=Ra.ob;let(ys,eq,rq):=Ra.qu;have aq:=Ra.ne;have nd:=Px.nd;have ly:=rq.length;erw[_,(aB (bN (dv (cL (iK A4 TC.cl (hr.mono aw) (pv 0)))) (aI (Cc (λ_ _ _ _ _ _ _ I m q=>Bj I m q) Kw My hr.hd Z (ak ba ay))) bQ) (aB (pS 1 nd (dZ K B (ak (cK TC.cl TC.jl (pv 0)) ay))) (aB (gd TC.cl TC.uL (pv 0) (iK Km TC.cl (hr.mono aw) (pv 0))) (aB (gd TC.cl TC.oF (pv 0) az) (aB (gd TC.cl TC.jl (pv 0) (fc ay)) (aI (aV (pv 1)))))))),?_];erw[_,Z,a,dx,_,Z,e,Z,a,q,M,D,S,Z,Ra,ok,aL,_,Z,?_];cases hh:(S.aR.isSome&&decide (S.pc=0))with |false=>erw[bE #[cW Z,k1 (λz=>by rw[A1.mpr z]at hh;cases hh) _ (aE.refl _)]] |true=>
   erw[bf ?_];have hH:=A1.mp hh;erw[_,Z,a,dx,_,_,Z,e,Z,q,_,Z,.inl (aD.of eq),?_];erw[_,Z,a,dx,_,Z,e,Z,a,q,M,D,S,Z,Ra,ok,aL,λu H1 ru s1=>?_];have e1:=s1 _ _ e;erw[_,Z,a,dx,_,Z,e1,by show 9<1000;decide,?_];erw[_,Z,a,dx,_,Z,bP,by show 9<1000;decide,?_];erw[cW Z,λq' H2 n2=>?_];have e2:=n2.same _ _ (bP (a:=a));erw[_,Z,a,dx,_,Z,e2,by show 9<1000;decide,?_];have t6:a≠q':=λz=>by have:=n2.no;rw[<-z,bP]at this;cases this
   have key:∀X:Hp,(∀b,b≠a->X b=H2 b)->Q (.int (S.ds.length:Nat)) (_L.upd X a (.ins C dx (fH mv u (.int 0) (.ref q') cA (.int S.aA) (.str S.side) (.str S.mark) tv))):=by
    intro X hX;have A9:∀b o',b≠a->H1 b=some o'->H2 b=some o':=λb o' ha eb=>n2.same _ _ (by rw[aQ ha,aQ ha];erw[eb]);have bt:bR [a] H (_L.upd X a (.ins C dx (fH mv u (.int 0) (.ref q') cA (.int S.aA) (.str S.side) (.str S.mark) tv))):=λb o' eb hb=>by have ha:b≠a:=λz=>hb (by rw[z];erw[.head _]);rw[aQ ha,hX b ha];erw[A9 _ _ ha (s1 _ _ eb)]
    have sv:=bt.v λx hx o' eo=>by rw[cn]at hx;rw[hx,e]at eo;cases eo;trivial
    have F8:cB H1 (_L.upd X a (.ins C dx (fH mv u (.int 0) (.ref q') cA (.int S.aA) (.str S.side) (.str S.mark) tv))):=λb o' nb eb=>by
     have ha:b≠a:=λz=>by rw[z,e1]at eb;cases eb;erw[nb trivial]
     rw[aQ ha,hX b ha];erw[A9 _ _ ha eb]
    erw[k2 hH q' _ #[#[dx,mv,u,cA,tv,bP,RD.v sv _ (gF _ _ _ _ _) r1,RD.v F8 _ (jZ _) ru,r3.v sv,r4.v sv],[],?_,dJ] ?_ bt]
    ·rw[aQ t6.symm,hX q' t6.symm];erw[n2.at']
    ·cases e':H q' with |none=>rfl |some o'=>have h1:=s1 _ _ e';have h2:=n2.no;rw[aQ t6.symm,aQ t6.symm,h1]at h2;cases h2
   erw[_,Z,?_];rw[ly];erw[key _ (λb hb=>rfl)]
theorem a19{d:ag}(h:om d=true):∃aA:Int,d= .int aA/\10<=aA/\aA<=200:=by cases d with |int i=>have h:(decide (10<=i)&&decide (i<=200))=true:=h;rw[fb,Mj,Mj]at h;erw[i,Z,h] |_=>cases h
inductive ae2(K:aa)(C:Addr)(cR:Addr)(cM:Addr)(vs:List V)(H:Hp)(Q:VK)(E:XK):Prop |mk (a:_)(q:_)(M:_)(D:_)(S:_)(v:_)(d:_)(h0:vs=[.ref a,v])(h1:cc K C H a q M S)(h2:cF M D S)(h3:M.Ok)(h4:RD K H v d)(h5:(om d=false->∀H',aE H H'->E (.ref cR) none H'))(h6:(om d=true->S.pc≠0->∀H',aE H H'->E (.ref cM) none H'))(h7:(∀aA,d= .int aA->10<=aA->aA<=200->S.pc=0->∀H',cc K C H' a q M {S with aA:=aA}->bR [a] H H'->Q (.int aA) H'))
def O5(K:aa)(C cR cM:Addr):Sp:=λvs H Q E=>ae2 K C cR cM vs H Q E
theorem ZS:bu ["self","rate"] ["self","rate"] (aW G6):=bF aG
theorem a2X(F:MA K C "turn_rate" "Runner.turn_rate" G6)(TC:fm K C)(a98:Exc K mg "NoRate" cR jM lH)(Kw:Exc K mg "Moving" cM jM lH)(K7:aF P w K mg au "is_rate" 3 (BJ K))(A3:cQ P w K mg au C "stands" 1 (gT K C λ_ S H Q=>Q (.bl (decide (S.pc=0))) H)):hU P w K mg au C "turn_rate" 5 (O5 K C cR cM):=by
 erw[F.sM ZS (λvs H Q E h=>?_) (λ_ _ _ _ _ _=>dN λ_ _=>rfl) (λf aH A outer s H vs Q E hr h=>?_)]
 ·let(a,q,M,D,S,v,d,rfl,_):=h
  rfl
 ·let(a,q,M,D,S,v,d,rfl,Ra,ok,aL,rd,k1,k2,k3):=h
  let(dx,mv,bv,cA,tv,e,r1,r2,r3,r4):=Ra.ob;erw[_,(aB (bN (dv (cL (pf K7 hr (ak (pv 1) ay)))) (aI (Cc (λ_ _ _ _ _ _ _ I m q=>Bj I m q) a98 My hr.hd Z (ak ba ay))) bQ) (aB (bN (dv (cL (iK A3 TC.cl (hr.mono aw) (pv 0)))) (aI (Cc (λ_ _ _ _ _ _ _ I m q=>Bj I m q) Kw My hr.hd Z (ak ba ay))) bQ) (aB (gd TC.cl TC.CC (pv 0) (pv 1)) (aI (aV (pv 1)))))),?_];erw[_,Z,v,d,Z,rd,_,Z,?_];cases hd:om d with |false=>erw[bE #[cW Z,k1 hd _ (aE.refl _)]] |true=>
   erw[bf ?_];erw[_,Z,a,dx,_,Z,e,Z,a,q,M,D,S,Z,Ra,ok,aL,_,Z,?_];by_cases hp:S.pc=0
   ·rw[bM hp]
    erw[bf ?_];let(aA,rfl,h1,h2):=a19 hd;cases rd.int_inv;erw[_,Z,_,Z,a,dx,_,Z,e,by show 9<1000;decide,?_];erw[_,Z,k3 aA Z h1 h2 hp _ (Ra.Cb (S':={S with aA:=aA}) e ok.row.no rfl r1 r2 r3 r4) (Au (by simp))]
   ·rw[cG hp]
    erw[bE #[cW Z,k2 hd hp _ (aE.refl _)]]
theorem Cz{k:Int}(hq:0<q)(hk:0<=k)(qo:k<=q)(hz:0<=z):0<=eX (k*z) q/\eX (k*z) q<=z:=by
 have hp:0<=k*z:=iJ hk hz;erw[a4Q hq hp,?_];have h1:k*z<=q*z:=B8 qo hz;unfold eX;rw[bo hp];let(a,_):=OG (p:=k*z) hq;have e:(((k*z).natAbs:Nat):Int)=k*z:=Int.natAbs_of_nonneg hp;rw[e]at a;by_cases hh:j4 (k*z) q<=z
 ·erw[hh]
 ·exfalso
  have h2:z+1<=j4 (k*z) q:=by lia
  have h3:q*(z+1)<=q*j4 (k*z) q:=B9 h2 (MN hq);have h4:q*(z+1)=q*z+q:=by rw[Int.mul_add,vP]
  have h5:2*q*j4 (k*z) q=2*(q*j4 (k*z) q):=by rw[tS]
  rw[h5]at a
  lia
theorem a4S{k:Int}(hq:0<q)(hk:0<=k)(qo:k<=q)(a0:0<=a)(a1:a<=r)(b0:0<=a+z)(b1:a+z<=r):0<=a+eX (k*z) q/\a+eX (k*z) q<=r:=by
 by_cases hz:0<=z
 ·have:=Cz hq hk qo hz
  lia
 ·have h:=Cz (z:=-z) hq hk qo ao
  rw[show k*-z=-(k*z) by rw[Int.mul_neg],Sq hq]at h
  lia
theorem a2t{pl:List Int}{k:Int}(hn:ns.length=pl.length)(hq:0<(aK ns:Int))(hk:0<=k)(qo:k<=aK ns)(h0:fM rs pl)(h1:fM rs (dH pl ns)):fM rs (dH pl (fP ns k)):=by
 have ls:(fP ns k).length=pl.length:=by unfold fP;rw[bV];erw[hn]
 erw[by rw[nR ls];erw[h0.len],λi x r e1 e2=>?_];have hi:i<rs.length:=(dW.mp e2).1;have hip:i<pl.length:=by rw[h0.len];erw[hi]
 obtain⟨a,ea⟩:∃a,pl[i]? =some a:=#[_,cE hip];obtain⟨z,ez⟩:∃z,ns[i]? =some z:=#[_,cE (show i<ns.length by lia)];have es:(fP ns k)[i]? =some (eX (k*z) (aK ns)):=by unfold fP;rw[cv,ez];rfl
 rw[AB ea es]at e1;cases e1;have p0:=h0.at' i a r ea e2;have p1:=h1.at' i (a+z) r (AB ea ez) e2;erw[a4S hq hk qo p0.1 p0.2 p1.1 p1.2]
def gs(M:aY)(S:aU):Prop:=∀i,i<=S.os.length->fM M.rs ((S.os.take i).foldl gO S.pl)
theorem gs.goal(h:gs M S):fM M.rs (fE S):=by have:=h S.os.length (bL _);rw[yk]at this;erw[this]
theorem gs.pl(h:gs M S):fM M.rs S.pl:=h 0 (fT _)
theorem gs.eq(h:gs M S)(e1:S'.os=S.os)(e2:S'.pl=S.pl):gs M S':=by unfold gs;rw[e1,e2];erw[h]
theorem gs.vh{d:ag}(h:gs M S)(ho:fM M.rs (gO (fE S) o)):gs M (nM S d o):=λi hi=>by
 show fM M.rs (((S.os++[o]).take i).foldl gO S.pl);have zW:i<=S.os.length+1:=by
  have:(nM S d o).os.length=S.os.length+1:=by show(S.os++[o]).length=_;rw[eP];rfl
  lia
 by_cases hl:i<=S.os.length
 ·rw[List.take_append_of_le_length hl]
  erw[h i hl]
 ·rw[vL (by rw[eP];show S.os.length+1<=i;lia),MI]
  erw[ho]
theorem gs.end(h:gs M S):gs M (gG S):=by unfold gG;cases e:S.os with |nil=>erw[h] |cons o os=>intro i hi;have:=h (i+1) (by rw[e];erw[Nat.succ_le_succ hi]);rw[e]at this;erw[this]
theorem gs.place{D:Nat}(ok:cF M D S)(h:gs M S):fM M.rs (dj S):=by
 by_cases h0:S.dn=0
 ·unfold dj
  rw[bo h0];erw[h.pl]
 ·let(ns,sp,eo,hd):=ok.first h0
  have cT:=(ok.row.ok 0 ns sp eo).1;unfold dj;rw[bj h0,eo];have lp:=cT.lead.1;have h1:=h 1 (by have:=(dW.mp eo).1;lia);have e1:(S.os.take 1).foldl gO S.pl=dH S.pl ns:=by cases e:S.os with |nil=>rw[e]at eo;simp at eo |cons o os=>rw[e]at eo;cases(dU eo);rfl
  rw[e1]at h1;erw[a2t (by rw[cT.len];erw[h.pl.len.symm]) ao ao ao h.pl h1]
theorem gs.drop{D:Nat}(ok:cF M D S)(h:gs M S):gs M (mF S):=λi hi=>by have:i=0:=Nat.le_zero.mp hi;rw[this];erw[h.place ok]
theorem One.II{D:Nat}(ok:cF M D S)(o:One M S e S1)(h:gs M S):gs M S1:=by cases o with
 |@line ns sp eo nh=>
  have h1:gs M (eY M S ns sp):=h.eq Z rfl;unfold fQ;split
  ·erw[h1.end]
  ·erw[h1] |iL eo ed nh=>let(_,e1,_,_,e2):=FE ok.raw e;exact(h.eq e1 e2).end
theorem Run.II{D:Nat}(ok:cF M D S)(aL:M.Ok)(r:Run M S es S1)(h:gs M S):gs M S1:=by induction r with |nil=>erw[h] |cons o _ ih=>erw[ih (One.ok ok aL o) (o.II ok h)]
end
end _a
set_option maxHeartbeats 1000000
namespace _a
open PySem PySem.Spec PyProof.Rows _L
open _T (numS)
section
def AJ (i:Int):Prop:=i.natAbs<10^540
inductive ael(vs:List V)(H:Hp)(Q:VK):Prop |mk (i:_)(h0:vs=[.int i])(h1:AJ i)(h2:∀H',aE H H'->Q (.str (numS i)) H')
def m5:Sp:=λvs H Q _=>ael vs H Q
theorem Sj{d:ag}(h:cH ds=true)(i:fh d=true):cH (ds++[d])=true:=gE.mpr λx hx=>(iI.mp hx).elim (gE.mp h x) λz=>by rw[cn.mp z];erw[i]
theorem BW:bu ["number","rest","parts","low","written"] ["number"] (aW C0):=bF aG
theorem a2Q(F:FA K mg "show_number" C0)(B:bK mg)(Dv:GV mg "PART" (.int 10000000000000000000000000000000000000000000000000000000000000000))(a8r:GV mg "PART_FIGURES" (.int 64)):aF P w K mg au "show_number" 1 m5:=by
 erw[F.has BW (λvs H Q E h=>?_) (λ_ _ _ _ _ _=>dc λ_=>rfl) (λf aH A outer s H vs Q E hr h=>?_)]
 · let(i,rfl,_):=h
   rfl
 · let(i,rfl,hn,k):=h
   have nd:=BW.nd;erw[_,(aB (pS 1 nd (fg (x:="abs") nP Z (B.at "abs") pk (ak (pv 0) ay))) (aB (pS 2 nd (fc ay)) (aB (rK iZ (bS wF (pv 1) (fz (x:="PART") Z Dv) (bA _)) (aB (fu (fg (x:="divmod") acp Z (B.at "divmod") PyProof.Rows.boot_divmod (ak (pv 1) (ak (fz (x:="PART") rfl Dv) ay))) (eM K rfl (n:=2) rfl (bU (bh 1 nd) (bU (bh 3 nd) eK)))) (aI (kG (ou K Z (pv 2) (ak (a21 K Z (cZ (x:="str") jL Z (B.at "str") je (ak (pv 3) ay)) (ak (fz (x:="PART_FIGURES") rfl a8r) ay)) ay)))))) (aB (kG (ou K Z (pv 2) (ak (cZ (x:="str") jL Z (B.at "str") je (ak (pv 1) ay)) ay))) (aB (pS 4 nd (a25 K Z Z (B.at "reversed") ba (ak (pv 2) ay))) (aI (aV (ka (bS jD (pv 0) az (bA _)) (pT (fw ba (fw (jj (pv 4)) pR))) (pv 4))))))))),?_];erw[_,Z,i,Z,?_];rw[show(if i<0 then-i else i)=((i.natAbs:Nat):Int) by split<;>omega];erw[cW Z,λl H1 n1=>?_];erw[qY (λO H2=>aE H H2/\∃(r:Nat)(zs:List Str)(v3 v4:Option V),O=[some (.int i),some (.int r),some (.ref l),v3,v4]/\H2 l=some (.lst (zs.map V.str))/\_N.Wr i.natAbs r zs) (λO _=>match O with|[_,some (.int y),_,_,_]=>y.natAbs|_=>0) ?_ ?_ ?_]
   ·erw[n1.same,_,[],_,_,Z,n1.at',_N.Wr.nil _]
   · rintro O H2 ⟨s2,r,zs,v3,v4,rfl,dl,wr⟩
     erw[_,Z,_,_,Z,Z,_,Z,?_];have eB:(10000000000000000000000000000000000000000000000000000000000000000:Int)=((10^64:Nat):Int):=by decide+kernel
     rw[eB];have len:=wr.len hn
     have ll : (zs.map V.str).length < sizeLine := by rw[bV];have:(8:Nat)<sizeLine:=by decide
                                                      omega
     have nl:H l=none:=n1.no;have put:∀(H3:Hp)(z:Str),aE H2 H3->aE H (upd H3 l (.lst (zs.map V.str++[.str z]))):=λH3 z s3 b o e=>by
      have hb:b≠l:=λy=>by rw[y,nl]at e;cases e
      rw[aQ hb];erw[s3 _ _ (s2 _ _ e)]
     erw[fR (λhc=>?_) (λhc=>?_)]
     · have hr:10^64<=r:=by have:=iY hc;omega
       have hm:r%10^64<10^64:=Nat.mod_lt _ (Nat.pow_pos aw);erw[_,Z,_,_,Z,aG,by show(10^64:Nat)<2^5000;decide+kernel,λt H3 n3=>?_];erw[_,_,Z,bc.of n3.at',Z,_,_,Z,_,_,Z,Z,?_];have em:(((r:Nat):Int)%((10^64:Nat):Int))=((r%10^64:Nat):Int):=rfl;have ed:(((r:Nat):Int)/((10^64:Nat):Int))=((r/10^64:Nat):Int):=rfl;have lg:=_N.Jt (nY hm (by decide+kernel:10^64<10^540));erw[_,Z,.inl #[Z,_,aD.of (n3.same _ _ dl)],_,Z,.inl #[_,Z,lg,Z,#[_,_,Z,Z,aG,#[l,_,_,Z,Z,n3.same _ _ dl,ll,?_]]]];erw[#[put H3 _ n3.same,r/10^64,zs++[Txt.zfill (numS ((r%10^64:Nat):Int)) 64],_,_,Z,?_,wr.step hr],?_]
       ·rw[bP,lj];rfl
       · show((r/10^64:Nat):Int).natAbs<((r:Nat):Int).natAbs
         have:r/10^64<r:=Nat.div_lt_self bB aw;omega
     · have hr:r<10^64:=by have:=(mt bM) hc;omega
       have lg:=_N.Jt (nY hr (by decide+kernel:10^64<10^540));have lr:(numS (r:Int)).length<=64:=by show(numS (r:Int)).cps.size<=64;rw[<-ky,_T.qH,bV];exact(Nat.length_toDigits_le_iff aw aw).mpr hr
       erw[_,Z,.inl #[Z,_,aD.of dl],_,Z,.inl #[_,Z,lg,#[l,_,_,Z,Z,dl,ll,?_]]];erw[Z,_,Z,#["",l,zs++[numS (r:Int)],Z,Z,aD.of (by rw[bP,lj];rfl),λz hz=>?_,aG,by rw[eP,qT];omega,?_]]
       · rcases iI.mp hz with hz|hz
         ·have:=wr.l z hz;omega
         ·rw[cn.mp hz];omega
       have ew:Txt.join "" (zs++[numS (r:Int)]).reverse=numS (i.natAbs:Int):=by rw[List.reverse_append,List.reverse_cons,List.reverse_nil,List.nil_append,List.singleton_append];exact(_N.Ly _ _).trans wr.e.symm
       rw[ew];have iA:sizeLine=16777216:=by decide
       have l0:(numS (i.natAbs:Int)).length<=541:=_N.Td (by rw[Xn];erw[hn]);have e0:Str.empty.length=0:=by decide+kernel
       have e1:Str.length "-"=1:=by decide+kernel
       erw[_,Z,_,_,Z,Z,_,Z,?_];have fin:=k _ (put H2 (numS (r:Int)) (aE.refl _));erw[fR (λhi=>?_) (λhi=>?_)]
       · have hi:=iY hi
         erw[_,Z,by simp only[df];omega,_,Z,.inr #[_,Z,bB,_,Z,by simp only[df];omega,by simp only[df];omega,?_]];rw[Er,_N.abs_neg hi,<-_N.a4k hi];erw[fin]
       · have hi:=(mt bM) hi
         rw[_N.Wv hi];erw[_,Z,fin]
   · rintro O H2 Q1 Q2 hq h
     let(v1,e1,i1,j1,e2,e3,kk,e4,q):=h;erw[v1,e1,i1,j1,e2,e3,kk,e4,hq _ _ q]
end
end _a
namespace _a
open PySem PySem.Spec PyProof.Rows _L _l _W
open _T (numS numIn? figs isFig Free)
section
def oV:Option Int->V |some i=>.int i |none=>.bD
def oD:Option Int->ag |some i=>.int i |none=>.none
theorem aa0:∀c<128,decide (c∈xB.cps.toList)=isFig c:=by decide+kernel
theorem aa2:∀c∈xB.cps.toList,c<128:=by decide+kernel
theorem aa1(c:Nat):decide (c∈xB.cps.toList)=isFig c:=by
 by_cases h:c<128
 ·erw[aa0 c h]
 ·rw[cG (λhc=>h (aa2 c hc)),isFig,cG (show¬c<=57 by omega),Bool.and_false]
inductive adO(vs:List V)(H:Hp)(Q:VK):Prop |mk (y:Str)(h0:vs=[.str y])(h1:PySem.NumText.AllDigits y.cps.toList)(h2:y.length<=640)(h3:Q (.int ((PySem.NumText.digitsVal y.cps.toList:Nat):Int)) H)
def NW:Sp:=λvs H Q _=>adO vs H Q
theorem OZ:bu ["figures","size","figure"] ["figures"] (aW FP):=bF aG
theorem a2G(F:FA K mg "size_of" FP)(B:bK mg):aF P w K mg au "size_of" 1 NW:=by
 exists F.has,OZ,dc λ_=>rfl
 ·let(y,rfl,hd,hl,k):=h
  have nd:=OZ.nd;erw[_,(aB (pS 1 nd az) (aB (m6 iZ Z (Iu (pv 0)) (bh 2 nd) (aI (pS 1 nd (aP dw (aP cw az (pv 1)) (cZ (x:="int") xK Z (B.at "int") tL (ak (pv 2) ay)))))) (aI (aV (pv 1))))),?_];have hsz:y.cps.size=y.cps.toList.length:=ky.symm;have qZ:Wd (10:Int):=by show(10:Nat)<2^5000;decide+kernel
  erw[_,Z,y,Z,?_];erw[a9O (Pv:=λi O H'=>H'=H/\∃v2,O=[some (.str y),some (.int ((PySem.NumText.digitsVal (y.cps.toList.take i):Nat):Int)),v2]) ?_ ?_ ?_]
  ·erw[Z,_,Z]
  ·rintro i c O H2 hc ⟨rfl,v2,rfl⟩
   let(c1,c2):=hd c (fO hc);have hi:i<640:=by have:=(dW.mp hc).1;have e:y.length=y.cps.size:=rfl;omega
   have wv:Wd ((PySem.NumText.digitsVal (y.cps.toList.take i):Nat):Int):=by show Int.natAbs _<2^5000;rw[Xn];erw[nY (gH (_N.Vp hd i) (tO aw (AZ hi))) aG]
   have ei:=_N.Yb c1 c2;erw[_,Z,_,_,Z,Z,jT qZ.bits wv.bits,_,Z,#[_,_,Z,ei,by show 1<=640;decide,_,_,Z,Z,?_]];erw[Z,some (.str ⟨#[c]⟩),?_];rw[_N.Vo hc];show[some (.str y),some (V.int (10*_+_)),_]=_;rw[Int.natCast_add,Int.natCast_mul,qW];rfl
  ·rintro O H2 ⟨rfl,v2,rfl⟩
   erw[_,Z,?_];rw[hsz,yk];erw[k]
inductive aem(vs:List V)(H:Hp)(Q:VK):Prop |mk (z:Str)(h0:vs=[.str z])(h1:z.length<=640)(h2:∀H',aE H H'->Q (oV (numIn? z)) H')
def yO:Sp:=λvs H Q _=>aem vs H Q
theorem PN:bu ["word","figures","size"] ["word"] (aW Gy):=bF aG
theorem a3o(F:FA K mg "number_in" Gy)(B:bK mg)(a8E:GV mg "FIGURES" (.str xB))(a76:aF P w K mg au "size_of" 1 NW):aF P w K mg au "number_in" 2 yO:=by
 exists F.has,PN,dc λ_=>rfl
 ·let(z,rfl,hl,k):=h
  have nd:=PN.nd;have iA:sizeLine=16777216:=by decide
  erw[_,(aB (pS 1 nd (a23 K Z (pv 0) (ak ba ay))) (aB (bN (PW.pt (j6 (bS kg (pv 1) ba (bA _)) (jB (dv (cL (fg (x:="all") (xM K Z Z) Z (B.at "all") AX (ak (fA (N:=["sign"]) (js:=[none]) rfl rfl rfl (Iu (pv 1)) (λ_ _ _ _ _=>(bh 0 (jk _))) (λ_ _ _ _ _=>dM) (λ_ _ _ _ _=>(fC RV (pv 0) (fz (x:="FIGURES") rfl a8E) (by with_unfolding_all rfl)))) ay))))))) (aI (aV gU)) bQ) (aB (bN (PW.pt (pO (bS kg (IA Tt (pv 1) az (λ_ _=>rfl)) ba (bA _)) (wy (bS IG (pv 0) ba (bA _))))) (aI (aV gU)) bQ) (aB (pS 2 nd (pf a76 hr (ak (pv 1) ay))) (aI (aV (ka (cL (a22 K Z (pv 0) (ak ba ay))) (kI kA (pv 2)) (pv 2)))))))),?_];erw[_,Z,Z,z,"-",Z,Z,bB,?_];have ef:=_T.a0F z;generalize hz:Txt.removeprefix z "-"=y at ef;unfold numIn? at k;rw[<-ef]at k;have hly:y.length<=z.length:=by
   have e1:y.cps.toList.length=(figs z).length:=by rw[ef]
   have e2:(figs z).length<=z.cps.toList.length:=by
    unfold figs;split
    ·rename_i h;rw[h];simp
    ·rename_i h _;erw[bL _]
   simpa[Str.length]using jf (Nat.le_of_eq e1) e2
  erw[_,Z,Z,_,Z,?_];erw[fR (λh0=>?_) (λh0=>?_)]
  ·have hy:y="":=by simpa using h0
   rw[hy]at k;erw[bE (k H (aE.refl _))]
  ·have hy:y≠"":=by simpa using h0
   have cj:y.cps.toList≠[]:=λe=>hy (_T.An (by rw[e];rfl));have he:y.cps.toList.isEmpty=false:=by cases h:y.cps.toList with|nil=>exact(cj h).elim|cons=>rfl
   rw[he,Bool.false_or]at k;erw[_,Z,y,Z,λD H0 nw=>?_];erw[VN (f:=isFig) [] nw bB (λc H2 Q' hc s2 hq=>?_) (λH2 s2 d2=>?_)]
   ·erw[_,Z,c,xB,Z,Z,?_]
    rw[aa1];erw[hq _ (aE.refl _)]
   ·erw[D,_,Z,aD.of d2,?_]
    rw[Wt];erw[_,Z,?_];cases hf:y.cps.toList.all isFig with |false=>rw[hf]at k;erw[bE (k H2 s2)] |true=>rw[hf]at k;erw[bf ?_];let(n,hn):=_T.a6E (z:=z) (by rw[<-ef];erw[cj]) (by rw[<-ef];erw[hf]) bB;rw[hn]at k;have nv:=_N.a4j ef (by rw[<-ef];erw[cj]) (by rw[<-ef];erw[hf]) bB hn;cases hc:y.cps.toList with |nil=>exact(cj hc).elim |cons c r=>
     erw[_,Z,y,0,c,Z,Z,bB,cN (eJ 0) (by rw[hc];rfl),Z,_,Z,?_];have e0:decide (y.cps.toList[0]? =some 48)=decide (V.str ⟨#[c]⟩=V.str "0"):=by
      rw[hc,kx];simp only[AU];erw[λh=>?_,λh=>?_]
      ·have h:c=48:=by simpa using h
       rw[h];decide+kernel
      ·have h:(⟨#[c]⟩:Str)="0":=by simpa using h
       have h2:[c]=[48]:=(kr (λz:Str=>z.cps.toList) h).trans aG;simpa using h2
     rw[e0]at k;have e1:(!decide (z="0"))= !decide (V.str z=V.str "0"):=by simp
     rw[e1]at k;cases h1:decide (V.str ⟨#[c]⟩=V.str "0")with
     |true=>rw[h1,jv]at k;erw[bE #[_,Z,Z,_,Z,?_]];cases h2: !decide (V.str z=V.str "0")with |true=>rw[h2]at k;erw[bE (k H2 s2)] |false=>rw[h2]at k;erw[bf #[_,Z,y,Z,_T.xA hf,bB,?_]];have fin:=k H2 s2;erw[_,Z,Z,z,"-",Z,Z,?_];erw[_,Z,?_];cases hs:Txt.startswith z "-" with |true=>rw[nv,bo hs]at fin;erw[bE #[_,Z,_,Z,fin]] |false=>rw[nv,bj (by rw[hs];decide)]at fin;erw[bf #[_,Z,fin]]
     |false=>rw[h1,jw]at k;erw[bf #[_,Z,y,Z,_T.xA hf,bB,?_]];have fin:=k H2 s2;erw[_,Z,Z,z,"-",Z,Z,?_];erw[_,Z,?_];cases hs:Txt.startswith z "-" with |true=>rw[nv,bo hs]at fin;erw[bE #[_,Z,_,Z,fin]] |false=>rw[nv,bj (by rw[hs];decide)]at fin;erw[bf #[_,Z,fin]]
inductive aej(K:aa)(vs:List V)(H:Hp)(Q:VK):Prop |mk (l:Addr)(zs:List Str)(h0:vs=[.ref l])(h1:aD K H l (zs.map V.str))(h2:zs.length<=1000)(h3:(∀z∈zs,z.length<=640))(h4:∀p H',aE H H'->H p=none->H' p=some (.lst (zs.map λz=>oV (numIn? z)))->Q (.ref p) H')
def BM(K:aa):Sp:=λvs H Q _=>aej K vs H Q
theorem Ct(o:Option Int):RD K H (oV o) (oD o):=by cases o with |none=>erw[ze] |some i=>erw[fJ _]
theorem a4d{v:V}(h:RD K H v (oD o)):v=oV o:=by cases o with |none=>erw[h.IZ] |some i=>erw[h.int_inv]
theorem S6{H:Hp}:∀{xs:List V}{zs:List Str},aO K H xs (zs.map λz=>oD (numIn? z))->xs=zs.map λz=>oV (numIn? z) |xs,[],h=>h.nil_inv |xs,n::ns,h=>by let(y,ys,rfl,h1,h2):=h.cons_inv;rw[a4d h1,S6 h2];rfl
theorem a4e(zs:List Str):cH (zs.map λz=>oD (numIn? z))=true:=gE.mpr λd hd=>by let(z,_,rfl):=dC.mp hd;cases numIn? z<;>rfl
theorem PK:bu ["words"] ["words"] (aW Gv):=bF aG
theorem a3n(F:FA K mg "numbers_in" Gv)(B:bK mg)(zP:aF P w K mg au "number_in" 2 yO):aF P w K mg au "numbers_in" 3 (BM K):=by
 exists F.has,PK,dc λ_=>rfl
 ·let(l,zs,rfl,hl,hn,hz,k):=h
  have nd:=PK.nd;erw[_,(aI (aV (fA (N:=["word"]) (js:=[none]) Z Z Z (oo K Z (pv 0)) (λ_ _ _ _ _=>(bh 0 (jk _))) (λ_ _ _ _ _=>dM) (λ_ _ _ _ _=>(pf zP hr (ak (pv 0) ay)))))),?_];erw[_,Z,l,Z,#[_,hl],λD H1 n1=>?_];erw[E4 (K:=K) (ds:=zs.map λz=>oD (numIn? z)) _ hl n1 (by simp) (by simp;omega) (a4e _) ?_ ?_]
  ·intro i x d H2 Q' ex ed s2 hq
   rw[cv]at ex ed;let(z,ez,rfl):=Ew.mp ex;rw[ez]at ed;cases ed;erw[_,Z,z,Z,hz z (fO ez),λH3 s3=>hq _ _ s3 (Ct _)]
  ·intro H2 ys s2 d2 r2
   rw[S6 r2]at d2;erw[k D H2 s2 n1.no d2]
def vv(z:Str):Prop:=∀c∈z.cps.toList,c<0x110000
theorem IM{n:Nat}(h:vv z):dB n (.str z):=#[by show PyData.strOk z=true;unfold PyData.strOk;rw[Xu];erw[λc hc=>bM (h c (by simpa using hc))],fT _]
theorem UK{c x:Nat}:∀{as:List (List Nat)}{a:List Nat},a∈as->x∈a->x∈_T.gl c as
 |[],a,h,_=>nomatch h |[b],a,h,hx=>by rw[cn.mp h]at hx;erw[hx] |b::d::r,a,h,hx=>by
  show x∈b++c::_T.gl c (d::r);rcases bI.mp h with rfl|h
  ·erw[MF _ hx]
  ·erw[kY _ (.tail _ (UK h hx))]
theorem UL{c:Nat}:∀{as:List (List Nat)}{a:List Nat},a∈as->a.length<=(_T.gl c as).length
 |[],a,h=>nomatch h |[b],a,h=>by rw[cn.mp h];erw[bL _] |b::d::r,a,h=>by
  show a.length<=(b++c::_T.gl c (d::r)).length;rw[eP,gy];rcases bI.mp h with rfl|h
  ·omega
  ·have:=UL (c:=c) h;omega
theorem NN(z:Str)(c:Nat):_T.gl c ((Txt.split z ⟨#[c]⟩).map λy=>y.cps.toList)=z.cps.toList:=by rw[<-_T.KA,StrLaws.join_split]
theorem Zy(h:vv z)(hy:y∈Txt.split z ⟨#[c]⟩):vv y:=λx hx=>h x (by rw[<-NN z c];erw[UK (dC.mpr #[y,hy,Z]) hx])
theorem split_le(hy:y∈Txt.split z ⟨#[c]⟩):y.length<=z.length:=by have:=UL (c:=c) (dC.mpr #[y,hy,Z]:y.cps.toList∈(Txt.split z ⟨#[c]⟩).map λy=>y.cps.toList);rw[NN]at this;simpa[Str.length]using this
theorem mM:(" ":Str)=⟨#[32]⟩:=by decide+kernel
theorem a4M:("\n":Str)=⟨#[10]⟩:=by decide+kernel
def nI (z:Str):ag:=oD (numIn? z)
def gR:List Str->ag |[]=>.none |w::rest=>if w="line" then(match rest with |[]=>.none |r::rs=>.tuple [.str w,.tuple (((r::rs).map nI).take rs.length),((r::rs).map nI).getLastD .none]) else match rest with |[r]=>.tuple [.str w,if w="wait" then nI r else .str r] |_=>.none
def uR(n:Nat)(z:Str):ag:=bif nc n (gR (Txt.split z " "))then gR (Txt.split z " ")else .none
theorem S5{H:Hp}:∀(zs:List Str),aO K H (zs.map λz=>oV (numIn? z)) (zs.map nI) |[]=>by simp[aO] |z::zs=>by rw[kZ,kZ,aO];erw[_,_,Z,Ct _,S5 zs]
theorem uu{d:ag}(h:RD K H x d)(r:aO K H xs ds):aO K H (x::xs) (d::ds):=by rw[aO];erw[_,_,Z,h,r]
theorem HX:aO K H [] []:=by simp[aO]
theorem J5{n:Nat}(z:Str):dB n (nI z):=by unfold nI;cases numIn? z with |none=>erw[.bD] |some i=>erw[.int i]
theorem Sz(z:Str):kC (nI z)=true:=by unfold nI;cases numIn? z<;>rfl
theorem N7:gR ["line"]= .none:=by unfold gR;dsimp only;rw[bo rfl]
theorem EZ:gR ("line"::r::rs)= .tuple [.str "line",.tuple (((r::rs).map nI).take rs.length),((r::rs).map nI).getLastD .none]:=by unfold gR;dsimp only;rw[bo rfl]
theorem BA{w:Str}(h:w≠"line"):gR [w,r]= .tuple [.str w,if w="wait" then nI r else .str r]:=by unfold gR;dsimp only;rw[bj h]
theorem EY{w:Str}(h:w≠"line")(hl:ws.length≠1):gR (w::ws)= .none:=by
 unfold gR;dsimp only;rw[bj h];split
 ·exact(hl Z).elim
 ·rfl
theorem Yx(h:∀w∈ws,vv w/\w.length<=640):dB 8 (gR ws)/\BS (gR ws)=true:=by cases ws with |nil=>erw[.bD,Z] |cons w rest=>
 let(hw,hl):=h w (.head _);have sw:kC (.str w)=true:=bM bB;by_cases hx:w="line"
 ·subst hx
  cases rest with |nil=>rw[N7];erw[.bD,Z] |cons r rs=>
   rw[EZ];have hm:∀d∈(r::rs).map nI,dB 0 d:=λd hd=>by let(z,_,rfl):=dC.mp hd;erw[J5 z]
   have Uk:dB 0 (((r::rs).map nI).getLastD .none)/\kC (((r::rs).map nI).getLastD .none)=true:=by rw[Xg];cases e:((r::rs).map nI).getLast? with |none=>erw[.bD,Z] |some d=>let(z,_,rfl):=dC.mp (List.mem_of_getLast? e);erw[J5 z,Sz z]
   have hs:iH 2 [.str "line",.tuple (((r::rs).map nI).take rs.length),((r::rs).map nI).getLastD .none]:=λd hd=>by
    simp only[bI,ck,cJ]at hd;rcases hd with rfl|rfl|rfl
    ·erw[IM hw]
    ·exact(iH.tup (n:=0) λd hd=>hm d (yn hd)).le aw
    ·erw[Uk.1.le aw]
   erw[hs.tup.le aw,?_];show[_,_,_].all kC=true;simp only[yx,MJ,Bb,sw,Uk.2];rfl
 ·match rest,h with
  |[],_=>rw[EY hx (by simp)];erw[.bD,Z] |[r],h=>
   rw[BA hx];let(hr,hlr):=h r (.tail _ (.head _));have hv:dB 0 (if w="wait" then nI r else .str r)/\kC (if w="wait" then nI r else .str r)=true:=by
    split
    ·erw[J5 r,Sz r]
    ·erw[IM hr,bM bB]
   have hs:iH 1 [.str w,if w="wait" then nI r else .str r]:=λd hd=>by
    simp only[bI,ck,cJ]at hd;rcases hd with rfl|rfl
    ·erw[IM hw]
    ·erw[hv.1.le aw]
   erw[hs.tup.le aw,?_];show[_,_].all kC=true;simp only[yx,MJ,Bb,sw,hv.2] |_::_::_,_=>rw[EY hx (by simp)];erw[.bD,Z]
inductive aey(K:aa)(vs:List V)(H:Hp)(Q:VK):Prop |mk (m:V)(rs:List Int)(es:List ag)(z:Str)(h0:vs=[m,.str z])(h1:RD K H m (.tuple (.tuple (rs.map PyData.int)::es)))(h2:cH es=true)(h3:rs.length<=3)(h4:z.length<=600)(h5:vv z)(h6:∀v H',aE H H'->RD K H' v (uR rs.length z)->Q v H')
def Ft(K:aa):Sp:=λvs H Q _=>aey K vs H Q
theorem Q6:bu ["machine","row","word","rest","thing","numbers"] ["machine","row"] (aW GO):=bF aG
theorem a3C(F:FA K mg "item_in" GO)(B:bK mg)(zP:aF P w K mg au "number_in" 2 yO)(JY:aF P w K mg au "numbers_in" 3 (BM K))(K9:aF P w K mg au "is_item" 4 (BQ K)):aF P w K mg au "item_in" 5 (Ft K):=by
 exists F.has,Q6,dN λ_ _=>rfl
 ·let(m,rs,es,z,rfl,rm,ne,l3,hz,tz,k):=h
  have nd:=Q6.nd;have iA:sizeLine=16777216:=by decide
  have uT:∀y∈Txt.split z " ",vv y/\y.length<=640:=λy hy=>by rw[mM]at hy;have:=split_le hy;erw[Zy tz hy,bB]
  have JQ:=split_len z " ";erw[_,(aB (fu (uC K Z (pv 1) (ak ba ay)) (RE K Z Z (bh 2 nd) (bh 3 nd))) (aB (pS 4 nd gU) (aB (ij (bN (bS kg (pv 2) ba (bA _)) (aB (pS 5 nd (pf JY hr (ak (pv 3) ay))) (aI (pS 4 nd (ka (zh K Z (pv 5)) (ip (ak (pv 2) (ak (cZ (x:="tuple") (kB K Z) Z (B.at "tuple") jd (ak (uA (ug K rfl) (pv 5) wA (rL (kI kA az))) ay)) (ak (px K (pv 5) (kI kA az)) ay)))) gU)))) (aI (bN (bS kg (dZ K B (ak (pv 3) ay)) az (bA _)) (aI (pS 4 nd (ip (ak (pv 2) (ak (ka (bS kg (pv 2) ba (bA _)) (pf zP hr (ak (px K (pv 3) az) ay)) (px K (pv 3) az)) ay))))) bQ)))) (aI (aV (ka (cL (pf K9 hr (ak (pv 0) (ak (pv 4) ay)))) (pv 4) gU)))))),?_];erw[_,Z,Z,z," ",Z,Z,aG,bB,λl H1 n1=>?_];obtain⟨x,ws,ew⟩:∃x ws,Txt.split z " "=x::ws:=by cases e:Txt.split z " " with |nil=>exact(_T.NM _ _ e).elim |cons x ws=>erw[x,ws,Z]
  unfold uR at k;rw[ew]at n1 uT JQ k;rw[gy]at JQ;erw[l,.str x,ws.map V.str,Z,aD.of n1.at',by rw[bV];omega,λp H2 n2=>?_];have s2:=n1.same.trans n2.same;have CZ:∀y∈ws,y.length<=640:=λy hy=>(uT y (.tail _ hy)).2;erw[λO H3=>∃t w5,O=[some m,some (.str z),some (.str x),some (.ref p),some t,w5]/\aE H H3/\RD K H3 t (gR (x::ws)),?_,?_]
  ·erw[_,Z,Z,_,Z,?_]
   erw[fR (λh0=>?_) (λh0=>?_)]
   ·have hx:x="line":=by simpa using h0
    subst hx;erw[_,Z,p,ws,Z,aD.of n2.at',bB,CZ,λq H3 s3 nq e3=>?_];erw[_,Z,!(ws.map λz=>oV (numIn? z)).isEmpty,.inl #[_,aD.of e3,Z],?_];cases ws with |nil=>erw[bf #[.bD,_,Z,s2.trans s3,?_]];rw[N7];erw[ze] |cons r uo=>
     erw[bE #[_,Z,?_]];erw[_,Z,1,Z,_,Z,q,_,Z,.inl #[aD.of e3,λq2 H4 n4=>?_]];rw[VH]at n4;have n4':=n4.at';erw[q2,_,Z,.inl #[aD.of n4',λq3 H5 n5=>?_]];obtain⟨v,ev⟩:∃v,((r::uo).map λz=>oV (numIn? z)).getLast? =some v:=#[_,Xh (by simp)];have e5:=n5.same _ _ (n4.same _ _ e3);erw[_,Z,1,Z,.inl #[q,_,-1,v,Z,Z,aD.of e5,LO ev,?_]];erw[by show 3<=sizeLine;omega,λq6 H6 n6=>?_];have s6:=(((s2.trans s3).trans n4.same).trans n5.same).trans n6.same;erw[_,_,Z,s6,?_];rw[EZ];have el:((r::uo).map nI).getLastD .none=oD (numIn? ((r::uo).getLast (by simp))):=by rw[Xg,List.getLast?_map,Xh (by simp)];rfl
     have evv:v=oV (numIn? ((r::uo).getLast (by simp))):=by rw[List.getLast?_map,Xh (by simp)]at ev;exact(dU ev).symm
     erw[gu (bc.of n6.at') (uu (bT _) (uu ?_ (uu ?_ HX)))]
     ·erw[gu (bc.of (n6.same _ _ n5.at')) ?_]
      rw[bV,gy,Nat.add_sub_cancel];exact(S5 (r::uo)).take _
     ·rw[el,evv];erw[Ct _]
   ·have hx:x≠"line":=by simpa using h0
    erw[_,Z,p,_,Z,.inl (aD.of n2.at'),Z,_,Z,?_];erw[fR (λh1=>?_) (λh1=>?_)]
    ·have nk:ws.length=1:=by have h1:=iY h1;rw[bV]at h1;injection h1 with h1;omega
     match ws,nk,n2,CZ,k with
     |[r],_,n2,CZ,k=>
      erw[_,Z,_,Z,Z,_,Z,?_];erw[fR (λh2=>?_) (λh2=>?_)]
      ·have JN:x="wait":=by simpa using h2
       erw[_,Z,.inl #[p,_,0,.str r,Z,Z,aD.of n2.at',Z,?_]];erw[r,Z,CZ r (.head _),λH3 s3=>?_];erw[by show 2<=sizeLine;omega,λq6 H6 n6=>?_];erw[_,_,Z,(s2.trans s3).trans n6.same,?_];rw[BA hx,bo JN];erw[gu (bc.of n6.at') (uu (bT _) (uu (Ct _) HX))]
      ·have JN:x≠"wait":=by simpa using h2
       erw[_,Z,.inl #[p,_,0,.str r,Z,Z,aD.of n2.at',Z,?_]];erw[by show 2<=sizeLine;omega,λq6 H6 n6=>?_];erw[_,_,Z,s2.trans n6.same,?_];rw[BA hx,bj JN];erw[gu (bc.of n6.at') (uu (bT _) (uu (bT _) HX))]
    ·have nk:ws.length≠1:=λe=>h1 (bM (by rw[bV,e];rfl))
     erw[.bD,_,Z,s2,?_];rw[EY hx nk];erw[ze]
  ·rintro O H3 ⟨t,w5,rfl,s3,rt⟩
   have ok:=Yx (ws:=x::ws) uT;erw[_,Z,_,Z,m,t,rs,es,gR (x::ws),Z,RD.mono s3 _ rm,rt,l3,ok.1,ok.2,λH4 s4=>#[_,Z,?_]];cases hi:nc rs.length (gR (x::ws))with |true=>rw[hi]at k;erw[bE #[_,Z,k _ _ (s3.trans s4) (RD.mono s4 _ rt)]] |false=>rw[hi]at k;erw[bf (k _ _ (s3.trans s4) ze)]
end
end _a
set_option maxHeartbeats 2000000
namespace _a
open PySem PySem.Spec PyProof.Rows _L _l _W
open _T (numS numIn? figs isFig Free)
section
def tV:ag->Str | .int i=>numS i | .str z=>z |_=>Str.empty
def fW(ns:List Int):Str:=Txt.join " " (ns.map numS)
def eZ(a b:Int):Str:=if b=1 then numS a else numS a++"/"++numS b
def gm:ag->Str | .tuple [.str _,.tuple xs,.int sp]=>"line "++Txt.join " " (xs.map tV)++" "++numS sp | .tuple [.str w,u]=>w++" "++tV u |_=>Str.empty
def iC:ag->Str | .tuple [.str _,.tuple xs,.int t,.tuple [.int a,.int b]]=>"step "++Txt.join " " (xs.map tV)++" "++numS t++" "++eZ a b |d=>gm d
def Nm (i:Int):Prop:=i.natAbs<10^40
def lR(w:Str):Prop:=w="wait"\/w="tool"\/w="mark"
def AE(w:Str):Prop:=w="tool"\/w="mark"
theorem AE.ok{w:Str}(h:AE w):lR w:=.inr h
theorem AE.ne{w:Str}(h:AE w):decide (w="wait")=false:=by rcases h with rfl|rfl<;>decide+kernel
def TI(d:ag):Prop:=(∃ns sp,d=du ns sp/\ns.length<=3/\(∀n∈ns,Nm n)/\Nm sp)\/(∃w i,d= .tuple [.str w,.int i]/\lR w/\Nm i)\/∃w z,d= .tuple [.str w,.str z]/\AE w/\z.length<=100
theorem SM(ns:List Int):(ns.map PyData.int).map tV=ns.map numS:=by rw[EB];rfl
theorem CQ(ns:List Int)(sp:Int):gm (du ns sp)="line "++fW ns++" "++numS sp:=by show Str.ofString "line "++Txt.join " " ((ns.map PyData.int).map tV)++" "++numS sp=_;rw[SM];rfl
theorem gf(h:Nm i):(numS i).length<=41:=N3 h
theorem uH(h:∀n∈ns,Nm n)(hl:ns.length<=3):(fW ns).length<=126:=by
 have:=CO " " (B:=41) (ns.map numS) (λz hz=>by let(n,hn,rfl):=dC.mp hz;erw[gf (h n hn)]);rw[bV]at this;have e:Str.length " "=1:=by decide+kernel
 rw[e]at this;unfold fW
 lia
theorem Bl{w:Str}(h:lR w):w.length=4:=by rcases h with rfl|rfl|rfl<;>decide+kernel
theorem JF{d:ag}(h:TI d):(gm d).length<=400:=by
 have e1:Str.length " "=1:=by decide+kernel
 have e2:Str.length "line "=5:=by decide+kernel
 rcases h with⟨ns,sp,rfl,hl,hb,hs⟩|⟨w,i,rfl,hw,hi⟩|⟨w,z,rfl,hw,hz⟩
 ·rw[CQ]
  have h1:=uH hb hl;have h2:=gf hs;simp only[df]
  lia
 ·show(w++" "++numS i).length<=400
  have h2:=gf hi;have h3:=Bl hw;simp only[df]
  lia
 ·show(w++" "++z).length<=400
  have h3:=Bl hw.ok;simp only[df]
  lia
theorem TI.nw{w:Str}(h:TI (.tuple [.str w,.str z])):decide (w="wait")=false:=by
 rcases h with⟨ns,sp,e,_⟩|⟨w',i,e,_⟩|⟨w',z',e,hw,_⟩
 ·unfold du at e;cases e
 ·cases e
 ·cases e;erw[hw.ne]
theorem Nm.l(h:Nm i):AJ i:=nY h aG
theorem XU:SeqAt.shaped (.str "wait")=true:=by decide+kernel
theorem kj:SeqAt.shaped (.str "line")=true:=by decide+kernel
theorem yL:SeqAt.shaped (.str "step")=true:=by decide+kernel
theorem lO(x y:Str):PyData.eqv (.str x) (.str y)=decide (x=y):=by show(x==y)=decide (x=y);rw[kx];simp
theorem vW{v:V}{d:ag}(h:RD K H v d)(i:TI d):(∃ns sp a b,d=du ns sp/\v= .ref a/\bc K H a [.str "line",.ref b,.int sp]/\RD K H (.ref b) (.tuple (ns.map PyData.int))/\ns.length<=3/\(∀n∈ns,Nm n)/\Nm sp)\/∃w u a y,d= .tuple [.str w,u]/\lR w/\v= .ref a/\bc K H a [.str w,y]/\RD K H y u/\((∃i,u= .int i/\y= .int i/\Nm i)\/∃z,u= .str z/\y= .str z/\z.length<=100):=by
 rcases i with⟨ns,sp,rfl,hl,hb,hs⟩|⟨w,i,rfl,hw,hi⟩|⟨w,z,rfl,hw,hz⟩
 ·let(a,xs,rfl,h1,h2):=h.cS
  let(x1,r,rfl,e1,h2):=h2.cons_inv;let(x2,r,rfl,e2,h2):=h2.cons_inv;let(x3,r,rfl,e3,h2):=h2.cons_inv;cases h2.nil_inv;cases e1.str_inv;cases e3.int_inv;let(b,ys,rfl,_,_):=id e2.cS;erw[.inl #[ns,sp,a,b,Z,Z,h1,e2,hl,hb,hs]]
 ·let(a,xs,rfl,h1,h2):=h.cS
  let(x1,r,rfl,e1,h2):=h2.cons_inv;let(x2,r,rfl,e2,h2):=h2.cons_inv;cases h2.nil_inv;cases e1.str_inv;cases e2.int_inv;erw[.inr #[w,_,a,_,Z,hw,Z,h1,e2,.inl #[i,Z,Z,hi]]]
 ·let(a,xs,rfl,h1,h2):=h.cS
  let(x1,r,rfl,e1,h2):=h2.cons_inv;let(x2,r,rfl,e2,h2):=h2.cons_inv;cases h2.nil_inv;cases e1.str_inv;cases e2.str_inv;erw[.inr #[w,_,a,_,Z,hw.ok,Z,h1,e2,.inr #[z,Z,Z,hz]]]
theorem Bk{w:Str}(h:lR w):SeqAt.shaped (.str w)=true:=by rcases h with rfl|rfl|rfl<;>decide+kernel
theorem EM{w:Str}(h:lR w):decide (w="line")=false/\decide (w="step")=false:=by rcases h with rfl|rfl|rfl<;>decide+kernel
inductive aek(K:aa)(vs:List V)(H:Hp)(Q:VK):Prop |mk (v:_)(ns:_)(h0:vs=[v])(h1:RD K H v (.tuple (ns.map PyData.int)))(h2:ns.length<=3)(h3:(∀n∈ns,Nm n))(h4:∀H',aE H H'->Q (.str (fW ns)) H')
def BN(K:aa):Sp:=λvs H Q _=>aek K vs H Q
theorem zu(zs:List Str):cH (zs.map PyData.str)=true:=gE.mpr λd hd=>by let(z,_,rfl):=dC.mp hd;rfl
theorem P9:bu ["numbers"] ["numbers"] (aW FZ):=bF aG
theorem a2O(F:FA K mg "show_numbers" FZ)(B:bK mg)(gK:aF P w K mg au "show_number" 1 m5):aF P w K mg au "show_numbers" 2 (BN K):=by
 exists F.has,P9,dc λ_=>rfl
 ·let(v,ns,rfl,rv,hl,hb,k):=h
  have nd:=P9.nd;erw[_,(aI (aV (wC K Z ba (ak (fA (N:=["number"]) (js:=[none]) Z Z Z (kH K Z (pv 0)) (λ_ _ _ _ _=>(bh 0 (jk _))) (λ_ _ _ _ _=>dM) (λ_ _ _ _ _=>(pf gK hr (ak (pv 0) ay)))) ay)))),?_];let(a,xs,rfl,h1,h2):=rv.cS;rw[h2.fL]at h1;erw[Z,?_];erw[_,Z,a,Z,#[_,h1],λD H1 n1=>?_];erw[qI (K:=K) (ds:=(ns.map numS).map PyData.str) _ h1 n1 (by simp) (by simp;lia) (zu _) ?_ ?_]
  ·intro i x d H2 Q' ex ed s2 hq
   rw[cv]at ex;let(n,en,rfl):=Ew.mp ex;rw[cv,cv,en]at ed;cases ed;have hn:=hb n (fO en);erw[_,Z,n,Z,hn.l,λH3 s3=>hq _ _ s3 (bT _)]
  ·intro H2 zs s2 d2 r2
   rw[u7 r2]at d2;erw[" ",D,ns.map numS,Z,Z,aD.of d2,λz hz=>?_,aG,by rw[bV];lia,k _ s2];let(n,hn,rfl):=dC.mp hz;have:=gf (hb n hn)
   lia
inductive aeB(K:aa)(vs:List V)(H:Hp)(Q:VK):Prop |mk (v:_)(d:_)(h0:vs=[v])(h1:RD K H v d)(h2:TI d)(h3:(∀b:Bool,(b=true↔∃ns sp,d=du ns sp)->Q (.bl b) H))
def Om(K:aa):Sp:=λvs H Q _=>aeB K vs H Q
theorem tZ{w:Str}{u:ag}(h:lR w):¬∃ns sp,PyData.tuple [.str w,u]=du ns sp:=by rintro⟨ns,sp,e⟩;unfold du at e;injection e with e;injection e with e1 e2;injection e2 with e2 e3;cases e3
abbrev QC:Stmt:=top 30
theorem Q9:bu ["item"] ["item"] (aW QC):=bF aG
theorem a3G(F:FA K mg "is_line" QC)(B:bK mg):aF P w K mg au "is_line" 1 (Om K):=by
 exists F.has,Q9,dc λ_=>rfl
 ·let(v,d,rfl,rv,ti,k):=h
  have nd:=Q9.nd;erw[_,(aI (aV (fC (dQ K Z hr.units) (px K (pv 0) az) ba (bA _)))),?_];rcases vW rv ti with⟨ns,sp,a,b,rfl,rfl,h1,_⟩|⟨w,u,a,y,rfl,hw,rfl,h1,_⟩
  ·erw[_,Z,.inr #[a,_,0,.str "line",Z,Z,h1,cN (eJ 0) Z,.inr #[_,_,bT _,bT _,kj,kj,?_]]]
   rw[lO,bM rfl];erw[k true #[λ_=>#[_,_,Z],λ_=>rfl]]
  ·erw[_,Z,.inr #[a,_,0,.str w,Z,Z,h1,cN (eJ 0) Z,.inr #[_,_,bT _,bT _,Bk hw,kj,?_]]]
   rw[lO,(EM hw).1];erw[k false #[λz=>(by cases z),λz=>(tZ hw z).elim]]
inductive aex(K:aa)(vs:List V)(H:Hp)(Q:VK):Prop |mk (v:_)(d:_)(h0:vs=[v])(h1:RD K H v d)(h2:TI d)(h3:∀H',aE H H'->Q (.str (gm d)) H')
def yQ(K:aa):Sp:=λvs H Q _=>aex K vs H Q
theorem Pa:bu ["item","word","steps","speed","value"] ["item"] (aW G0):=bF aG
theorem a2R(F:FA K mg "show_item" G0)(B:bK mg)(oW:aF P w K mg au "is_line" 1 (Om K))(zJ:aF P w K mg au "show_numbers" 2 (BN K))(gK:aF P w K mg au "show_number" 1 m5):aF P w K mg au "show_item" 3 (yQ K):=by
 exists F.has,Pa,dc λ_=>rfl
 ·let(v,d,rfl,rv,ti,k):=h
  have nd:=Pa.nd;have iA:sizeLine=16777216:=by decide
  have e1:Str.length " "=1:=by decide+kernel
  have e2:Str.length "line"=4:=by decide+kernel
  have e0:Str.empty.length=0:=by decide+kernel
  erw[_,(aB (bN (cL (pf oW hr (ak (pv 0) ay))) (aB (fu (pv 0) (eM K Z (n:=3) Z (bU (bh 1 nd) (bU (bh 2 nd) (bU (bh 3 nd) eK))))) (aI (aV (pT (fw (jj (pv 1)) (fw ba (fw (jj (pf zJ hr (ak (pv 2) ay))) (fw ba (fw (jj (pf gK hr (ak (pv 3) ay))) pR))))))))) bQ) (aB (fu (pv 0) (eM K Z (n:=2) Z (bU (bh 1 nd) (bU (bh 4 nd) eK)))) (aI (aV (ka (bS (dQ K Z hr.units) (pv 1) ba (bA _)) (pT (fw (jj (pv 1)) (fw ba (fw (jj (pf gK hr (ak (pv 4) ay))) pR)))) (pT (fw (jj (pv 1)) (fw ba (fw (jj (pv 4)) pR))))))))),?_];erw[_,Z,v,d,Z,rv,ti,λb hb=>#[_,Z,?_]];rcases vW rv ti with⟨ns,sp,a,b',rfl,rfl,h1,r2,hl,hn,hs⟩|⟨w,u,a,y,rfl,hw,rfl,h1,ry,hv⟩
  ·cases(hb.mpr #[_,_,rfl])
   erw[bE ?_];have Dz:=uH hn hl;have xt:=gf hs;erw[_,Z,a,_,Z,h1,Z,_,_,Z,_,_,Z,_,_,Z,Z,?_];erw[_,Z,.inr #["line",Z,ao,_,Z,by simp only[df];lia,?_]];erw[_,Z,by simp only[df];lia,?_];erw[_,Z,.ref b',ns,Z,r2,hl,hn,λH1 s1=>.inr #[_,Z,ao,_,Z,by simp only[df];lia,?_]];erw[_,Z,by simp only[df];lia,?_];erw[_,Z,sp,Z,hs.l,λH2 s2=>.inr #[_,Z,ao,_,Z,by simp only[df];lia,?_]];erw[by simp only[df];lia,?_];have e:Str.empty++"line"++" "++fW ns++" "++numS sp=gm (du ns sp):=by
    rw[CQ,Er];have:(Str.ofString "line"++Str.ofString " ")=Str.ofString "line ":=by decide+kernel
    rw[this]
   have:=k H2 (s1.trans s2);rw[<-e]at this;erw[this]
  ·have uZ:b=false:=by cases b with |false=>rfl |true=>exact(tZ hw (hb.mp Z)).elim
   subst uZ;erw[bf ?_];have w4:=Bl hw;erw[_,Z,a,_,Z,h1,Z,_,_,Z,_,_,Z,Z,?_];have eA:Str.empty++w++" "++tV u=gm (.tuple [.str w,u]):=by rw[Er];rcases hv with⟨i,rfl,_⟩|⟨z,rfl,_⟩<;>rfl
   rw[<-eA]at k;erw[_,Z,.inr #[_,_,bT _,bT _,Bk hw,XU,_,Z,?_]];rw[lO];rcases hv with⟨i,rfl,rfl,hi⟩|⟨z,rfl,rfl,hz⟩
   ·have xt:=gf hi
    have fin:∀H',aE H H'->Q (.str (Str.empty++w++" "++numS i)) H':=k;have l1:(Str.empty++w).length<=sizeLine:=by simp only[df];lia
    have l2:(Str.empty++w++" ").length<=sizeLine:=by simp only[df];lia
    have l3:(Str.empty++w++" "++numS i).length<=sizeLine:=by simp only[df];lia
    cases hw1:decide (w="wait")with |true=>erw[bE #[_,Z,.inr #[w,Z,ao,_,Z,l1,#[_,Z,l2,#[_,Z,i,Z,hi.l,λH2 s2=>.inr #[_,Z,ao,_,Z,l3,l3,fin H2 s2]]]]]] |false=>erw[bf #[_,Z,.inr #[w,Z,ao,_,Z,l1,#[_,Z,l2,#[_,Z,.inl #[i,Z,kL hi,_,Z,l3,l3,fin H (aE.refl _)]]]]]]
   ·rw[ti.nw]
    erw[bf #[_,Z,.inr #[w,Z,ao,_,Z,by simp only[df];lia,?_]]];erw[_,Z,by simp only[df];lia,?_];erw[_,Z,.inr #[z,Z,ao,_,Z,by simp only[df];lia,?_]];erw[by simp only[df];lia,k H (aE.refl _)]
theorem sz:sizeLine=16777216:=by decide
theorem fG:Str.length " "=1:=by decide+kernel
theorem OC:Str.empty.length=0:=by decide+kernel
def iW (i:Int):Prop:=i.natAbs<10^540
theorem rP(h:iW i):(numS i).length<=541:=by show(Str.ofString (toString i)).length<=541;rw[WZ];erw[WU (k:=540) aw h]
inductive aeG(K:aa)(vs:List V)(H:Hp)(Q:VK):Prop |mk (v:_)(a:_)(b:_)(h0:vs=[v])(h1:RD K H v (.tuple [.int a,.int b]))(h2:iW a)(h3:iW b)(h4:∀H',aE H H'->Q (.str (eZ a b)) H')
def Oq(K:aa):Sp:=λvs H Q _=>aeG K vs H Q
theorem N4{v:V}{b:Int}(h:RD K H v (.tuple [.int a,.int b])):∃p,v= .ref p/\bc K H p [.int a,.int b]:=by let(p,xs,rfl,h1,h2):=h.cS;let(x1,r,rfl,e1,h2):=h2.cons_inv;let(x2,r,rfl,e2,h2):=h2.cons_inv;cases h2.nil_inv;cases e1.int_inv;cases e2.int_inv;erw[p,Z,h1]
theorem OF:Str.length "/"=1:=by decide+kernel
theorem DF{b:Int}(ha:iW a)(hb:iW b):(eZ a b).length<=1100:=by
 have h1:=rP ha;have h2:=rP hb;have h3:=OF;unfold eZ;split
 ·lia
 ·simp only[df];lia
theorem Pc:bu ["one","p","q"] ["one"] (aW G1):=bF aG
theorem a2S(F:FA K mg "show_fraction" G1)(B:bK mg)(gK:aF P w K mg au "show_number" 1 m5):aF P w K mg au "show_fraction" 2 (Oq K):=by
 exists F.has,Pc,dc λ_=>rfl
 ·let(v,a,b,rfl,rv,na,nb,k):=h
  have nd:=Pc.nd;erw[_,(aB (fu (pv 0) (eM K Z (n:=2) Z (bU (bh 1 nd) (bU (bh 2 nd) eK)))) (aI (aV (ka (bS (dQ K Z hr.units) (pv 2) az (bA _)) (pf gK hr (ak (pv 1) ay)) (pT (fw (jj (pf gK hr (ak (pv 1) ay))) (fw ba (fw (jj (pf gK hr (ak (pv 2) ay))) pR)))))))),?_];let(p,rfl,h1):=N4 rv;have l1:=rP na;have l2:=rP nb;have Sw:AJ a:=na;have nbL:AJ b:=nb;have hs:=sz;have h0:=OC;have JQ:=OF;erw[_,Z,p,_,Z,h1,Z,_,_,Z,_,_,Z,Z,?_];erw[_,Z,.inl #[_,_,Z,Z,_,Z,?_]];by_cases hb:b=1
  ·rw[bM hb]
   erw[bE #[_,Z,a,Z,Sw,λH1 s1=>?_]];have:=k H1 s1;unfold eZ at this;rw[bo hb]at this;erw[this]
  ·rw[cG hb]
   erw[bf #[_,Z,a,Z,Sw,λH1 s1=>.inr #[_,Z,ao,_,Z,by simp only[df];lia,?_]]];erw[_,Z,by simp only[df];lia,?_];erw[_,Z,b,Z,nbL,λH2 s2=>.inr #[_,Z,ao,_,Z,by simp only[df];lia,?_]];erw[by simp only[df];lia,?_];have:=k H2 (s1.trans s2);unfold eZ at this;rw[bj hb]at this;have e:Str.empty++numS a++"/"++numS b=numS a++"/"++numS b:=by rw[Er]
   rw[<-e]at this;erw[this]
theorem Q4:bu ["_law_item_here"] ["_law_item_here"] (aW GK):=bF aG
theorem a3v(F:FA K mg "_law_item_text" GK)(B:bK mg):aF P w K mg au "_law_item_text" 1 (yQ K):=by
 exists F.has,Q4,dc λ_=>rfl
 ·let(v,d,rfl,rv,ti,k):=h
  have nd:=Q4.nd;erw[_,(aB (bN (bS (dQ K Z hr.units) (px K (pv 0) az) ba (bA _)) (aI (aV (aP oA (aP oA (aP oA ba (wC K Z ba (ak (fA (N:=["_law_step"]) (js:=[none]) Z Z Z (kH K Z (px K (pv 0) az)) (λ_ _ _ _ _=>(bh 0 (jk _))) (λ_ _ _ _ _=>dM) (λ_ _ _ _ _=>(cZ (x:="str") jL Z (B.at "str") je (ak (pv 0) ay)))) ay))) ba) (cZ (x:="str") jL rfl (B.at "str") je (ak (px K (pv 0) az) ay))))) bQ) (aI (aV (aP oA (aP oA (px K (pv 0) az) ba) (cZ (x:="str") jL Z (B.at "str") je (ak (px K (pv 0) az) ay)))))),?_];have hs:=sz;have Aa:=fG;have h5:Str.length "line "=5:=by decide+kernel
  rcases vW rv ti with⟨ns,sp,a,b,rfl,rfl,h1,r2,hl,hn,fS⟩|⟨w,u,a,y,rfl,hw,rfl,h1,ry,hv⟩
  ·erw[_,Z,.inr #[a,_,0,.str "line",Z,Z,h1,cN (eJ 0) Z,.inr #[_,_,bT _,bT _,kj,kj,_,Z,?_]]]
   rw[lO,bM rfl];erw[bE ?_];have Dz:=uH hn hl;have xt:=gf fS;let(b',xs,e',g1,g2):=r2.cS;cases e';rw[g2.fL]at g1;erw[Z,?_];erw[_,Z,.inr #[a,_,1,.ref b,Z,Z,h1,cN aw Z,b,Z,#[_,g1],λD H1 n1=>?_]];erw[qI (K:=K) (ds:=(ns.map numS).map PyData.str) _ g1 n1 (by simp) (by simp;lia) (zu _) ?_ ?_]
   ·intro i x d H2 Q' ex ed s2 hq
    rw[cv]at ex;let(n,en,rfl):=Ew.mp ex;rw[cv,cv,en]at ed;cases ed;have hn:=hn n (fO en);erw[_,Z,.inl #[n,Z,kL hn,hq _ _ (aE.refl _) (bT _)]]
   ·intro H2 zs s2 d2 r2
    rw[u7 r2]at d2;erw[" ",D,ns.map numS,Z,Z,aD.of d2,λz hz=>?_,aG,by rw[bV];lia,?_]
    ·let(n,K0,rfl):=dC.mp hz
     have:=gf (hn n K0)
     lia
    erw[_,_,Z,Z,by change _+(fW ns).length<=_;lia,?_];erw[_,_,Z,Z,by simp only[df];change _+(fW ns).length+_<=_;lia,?_];erw[_,Z,.inr #[a,_,2,.int sp,Z,Z,h1.go s2,cN aw Z,.inl #[sp,Z,kL fS,?_]]];erw[_,_,Z,Z,by simp only[df];change _+(fW ns).length+_+(numS sp).length<=_;lia,?_];have:=k H2 s2;rw[CQ]at this;erw[this]
  ·erw[_,Z,.inr #[a,_,0,.str w,Z,Z,h1,cN (eJ 0) Z,.inr #[_,_,bT _,bT _,Bk hw,kj,_,Z,?_]]]
   rw[lO,(EM hw).1];erw[bf ?_];have w4:=Bl hw;have fin:=k H (aE.refl _);erw[_,Z,.inr #[a,_,0,.str w,Z,Z,h1,cN (eJ 0) Z,?_]];erw[_,_,Z,Z,ao,?_];erw[_,Z,.inr #[a,_,1,y,Z,Z,h1,cN aw Z,?_]];rcases hv with⟨i,rfl,rfl,hi⟩|⟨z,rfl,rfl,hz⟩
   ·have xt:=gf hi
    erw[.inl #[i,Z,kL hi,_,_,Z,Z,by simp only[df];change _+(numS i).length<=_;lia,fin]]
   ·erw[.inr #[z,Z,_,_,Z,Z,by simp only[df];lia,fin]]
def Ef(d:ag):Prop:=TI d/\(∀ns sp,d≠du ns sp)\/∃(ns:List Int)(t a b:Int),d= .tuple [.str "step",.tuple (ns.map PyData.int),.int t,.tuple [.int a,.int b]]/\ns.length<=3/\(∀n∈ns,Nm n)/\iW t/\iW a/\iW b
inductive aeK(K:aa)(vs:List V)(H:Hp)(Q:VK):Prop |mk (v:_)(d:_)(h0:vs=[v])(h1:RD K H v d)(h2:Ef d)(h3:∀H',aE H H'->Q (.str (iC d)) H')
def Ox(K:aa):Sp:=λvs H Q _=>aeK K vs H Q
theorem DS{d:ag}(h:TI d)(hn:∀ns sp,d≠du ns sp):iC d=gm d:=by
 rcases h with⟨ns,sp,rfl,_⟩|⟨w,i,rfl,_⟩|⟨w,z,rfl,_⟩
 ·exact(hn _ _ Z).elim
 ·rfl
 ·rfl
theorem DR(ns:List Int)(t a b:Int):iC (.tuple [.str "step",.tuple (ns.map PyData.int),.int t,.tuple [.int a,.int b]])="step "++fW ns++" "++numS t++" "++eZ a b:=by show Str.ofString "step "++Txt.join " " ((ns.map PyData.int).map tV)++" "++numS t++" "++eZ a b=_;rw[SM];rfl
theorem Zm{v:V}{ns:List Int}{t a b:Int}(h:RD K H v (.tuple [.str "step",.tuple (ns.map PyData.int),.int t,.tuple [.int a,.int b]])):∃p r q,v= .ref p/\bc K H p [.str "step",.ref r,.int t,.ref q]/\RD K H (.ref r) (.tuple (ns.map PyData.int))/\bc K H r (ns.map V.int)/\RD K H (.ref q) (.tuple [.int a,.int b]):=by let(p,xs,rfl,h1,h2):=h.cS;let(x1,r,rfl,e1,h2):=h2.cons_inv;let(x2,r,rfl,e2,h2):=h2.cons_inv;let(x3,r,rfl,e3,h2):=h2.cons_inv;let(x4,r,rfl,e4,h2):=h2.cons_inv;cases h2.nil_inv;cases e1.str_inv;cases e3.int_inv;let(r',ys,rfl,g1,g2):=id e2.cS;rw[g2.fL]at g1;let(q,rfl,_):=N4 e4;erw[p,r',q,Z,h1,e2,g1,e4]
theorem Pe:bu ["entry","word","row","t","square"] ["entry"] (aW G2):=bF aG
theorem a2T(F:FA K mg "show_entry" G2)(B:bK mg)(a77:aF P w K mg au "show_item" 3 (yQ K))(zJ:aF P w K mg au "show_numbers" 2 (BN K))(a78:aF P w K mg au "show_fraction" 2 (Oq K))(gK:aF P w K mg au "show_number" 1 m5):aF P w K mg au "show_entry" 4 (Ox K):=by
 exists F.has,Pe,dc λ_=>rfl
 ·let(v,d,rfl,rv,te,k):=h
  have nd:=Pe.nd;erw[_,(aB (bN (bS (mW K Z hr.units) (px K (pv 0) az) ba (bA _)) (aI (aV (pf a77 hr (ak (pv 0) ay)))) bQ) (aB (fu (pv 0) (eM K Z (n:=4) Z (bU (bh 1 nd) (bU (bh 2 nd) (bU (bh 3 nd) (bU (bh 4 nd) eK)))))) (aI (aV (pT (fw (jj (pv 1)) (fw ba (fw (jj (pf zJ hr (ak (pv 2) ay))) (fw ba (fw (jj (pf gK hr (ak (pv 3) ay))) (fw ba (fw (jj (pf a78 hr (ak (pv 4) ay))) pR)))))))))))),?_];have hs:=sz;have Aa:=fG;have h0:=OC;have h4:Str.length "step"=4:=by decide+kernel
  rcases te with⟨ti,hn⟩|⟨ns,t,a,b,rfl,hl,hn,ht,ha,hb⟩
  ·rw[DS ti hn]at k
   rcases vW rv ti with⟨ns,sp,a,b,rfl,_⟩|⟨w,u,a,y,rfl,hw,rfl,h1,ry,hv⟩
   ·exact(hn _ _ Z).elim
   ·erw[_,Z,.inr #[a,_,0,.str w,Z,Z,h1,cN (eJ 0) Z,.inr #[_,_,bT _,bT _,Bk hw,yL,_,Z,?_]]]
    rw[lO,(EM hw).2];erw[bE #[_,Z,_,_,Z,rv,ti,k]]
  ·let(p,r,q,rfl,h1,g2,g3,g4):=Zm rv
   erw[_,Z,.inr #[p,_,0,.str "step",Z,Z,h1,cN (eJ 0) Z,.inr #[_,_,bT _,bT _,yL,yL,_,Z,?_]]];rw[lO,bM rfl];erw[bf ?_];have Dz:=uH hn hl;have xt:=rP ht;have UI:=DF ha hb;erw[_,Z,p,_,Z,h1,Z,_,_,Z,_,_,Z,_,_,Z,_,_,Z,Z,?_];erw[_,Z,.inr #["step",Z,ao,_,Z,by simp only[df];lia,?_]];erw[_,Z,by simp only[df];lia,?_];erw[_,Z,.ref r,ns,Z,g2,hl,hn,λH1 s1=>.inr #[_,Z,ao,_,Z,by simp only[df];lia,?_]];erw[_,Z,by simp only[df];lia,?_];erw[_,Z,t,Z,ht,λH2 s2=>.inr #[_,Z,ao,_,Z,by simp only[df];lia,?_]];erw[_,Z,by simp only[df];lia,?_];erw[_,Z,.ref q,a,b,Z,RD.mono (s1.trans s2) _ g4,ha,hb,λH3 s3=>.inr #[_,Z,ao,_,Z,by simp only[df];lia,?_]];erw[by simp only[df];lia,?_];rw[DR]at k;have fin:=k H3 (s1.trans (s2.trans s3));have e:Str.empty++"step"++" "++fW ns++" "++numS t++" "++eZ a b="step "++fW ns++" "++numS t++" "++eZ a b:=by
    rw[Er];have:(Str.ofString "step"++Str.ofString " ")=Str.ofString "step ":=by decide+kernel
    rw[this]
   rw[<-e]at fin;erw[fin]
end
end _a
set_option maxHeartbeats 1000000
namespace _a
open PySem PySem.Spec PyProof.Rows _L _r _l _W
open _O (Itm)
section
theorem PU:bu ["_law_bag_here","_law_axes","_law_far","_law_rails","_law_bounds"] ["_law_bag_here"] (aW GC):=bF aG
theorem a3t(F:FA K mg "_law_machine" GC)(B:bK mg)(ek:aF P w K mg au "_law_take" 1 lZ):aF P w K mg au "_law_machine" 2 (Oi K):=by
 exists F.has,PU,dc λ_=>rfl
 ·let(p,rfl,bg,k):=h
  have nd:=PU.nd;erw[_,(aB (pS 1 nd (aP dw az (pf ek hr (ak (pv 0) (ak az ay))))) (aB (pS 2 nd (px K (fc (ak az (ak az ay))) (pf ek hr (ak (pv 0) (ak az ay))))) (aB (pS 3 nd (cZ (x:="tuple") (kB K Z) Z (B.at "tuple") jd (ak (fA (N:=["_law_axis","_law_bag_here","_law_far"]) (js:=[none,some 0,some 2]) rfl rfl rfl (uz rfl (B.at "range") (ak (pv 1) ay)) (λ_ _ _ _ _=>(bh 0 (show List.Nodup (["_law_axis","_law_bag_here","_law_far"]:List Str) by decide+kernel))) (λ_ _ _ _ _=>dM) (λ_ _ _ _ _=>(aP dw az (pf ek hr (ak (pv 1) (ak (pv 2) ay)))))) ay))) (aB (pS 4 nd (cZ (x:="tuple") (kB K Z) Z (B.at "tuple") jd (ak (fA (N:=["_law_k","_law_bag_here"]) (js:=[none,some 0]) rfl rfl rfl (uz rfl (B.at "range") (ak az ay)) (λ_ _ _ _ _=>(bh 0 (gj aw))) (λ_ _ _ _ _=>dM) (λ_ _ _ _ _=>(aP dw az (pf ek hr (ak (pv 1) (ak az ay)))))) ay))) (aI (aV (aP (VX K Z) (aP (VX K Z) (ip (ak (pv 3) ay)) (pv 4)) (ip (ak (aP dw az (pf ek hr (ak (pv 0) (ak az ay)))) ay))))))))),?_];erw[_,Z,p,2,Z,bg,aw,aw,λt0 H1 t00 t01 b1=>?_];erw[_,_,Z,Z,?_];erw[cW Z,λl H2 nw=>?_];have b2:bJ p H1 H2:=.fK b1.bC nw.same;have lne:l≠p:=λe=>b1.bC.ne (e▸nw.no);erw[_,Z,p,2,Z,b2.bC,aw,aw,λi H3 i0 i1 b3=>?_];let(vi,mf,ef):=a6D [100,20] i0 i1;have f1:1<=vi/\vi<=100:=by
   rcases bI.mp mf with rfl|mf
   ·erw[aw,aw]
   rcases bI.mp mf with rfl|mf
   ·erw[aw,aw]
   ·exact(ck mf).elim
  erw[.inl #[l,_,_,_,Z,Z,aD.of (b3.same _ _ lne nw.at'),ef,?_]];erw[_,Z,_,Z,ao,ao,λD H4 n4=>?_];have hN:(2+t0).toNat<=1000:=by lia
  erw[Lu (2+t0).toNat [some (.ref p),some (.int vi)] n4 b3.bC hN (λi=>.int (0+(i:Int))) (λi H5 hi b5=>#[hi,λy H6 #[e1,e2]=>#[e1,e2]]) (λH5 b5=>bL _) (λz=>1<=z/\z<=100) ?_ ?_]
  ·intro i H5 Q' hi b5 hq
   erw[_,Z,_,Z,p,vi,Z,b5.bC,f1.1,ao,λz H6 z0 z1 b6=>?_];erw[_,_,Z,Z,hq _ _ #[ao,ao] b6]
  intro H5 rs b5 d5 lr pr;erw[D,_,Z,.inl #[aD.of d5,λq H6 n6=>?_]];have b6:bJ p H5 H6:=.fK b5.bC n6.same;erw[3,Z,aw,aw,λD2 H7 n7=>?_];erw[Lu 3 [some (.ref p)] n7 b6.bC aw (λi=>.int (0+(i:Int))) (λi H8 hi b8=>#[hi,λy H9 #[e1,e2]=>#[e1,e2]]) (λH8 b8=>bL _) (λz=>1<=z/\z<=50) ?_ ?_]
  ·intro i H8 Q' hi b8 hq
   erw[_,Z,p,50,Z,b8.bC,aw,aw,λz H9 z0 z1 b9=>?_];erw[_,_,Z,Z,hq _ _ #[ao,ao] b9]
  intro H8 bs b8 d8 lb pb;erw[D2,_,Z,.inl #[aD.of d8,λq2 H9 n9=>?_]];have b9:bJ p H8 H9:=.fK b8.bC n9.same;erw[_,Z,cW Z,λt1 pj zy=>?_];have LM:bJ p H9 pj:=.fK b9.bC zy.same
  match bs,lb,pb,n9 with |[x1,x2,x3],_,pb,n9=>have p1:=pb x1 (.head _);have p2:=pb x2 (.tail _ (.head _));have p3:=pb x3 (.tail _ (.tail _ (.head _)));erw[_,Z,t1,q2,_,_,Z,Z,bc.of zy.at',bc.of (zy.same _ _ n9.at'),cW Z,λv1 jb z9 a11=>?_];have Ed:bJ p pj jb:=.fK LM.bC z9;erw[_,Z,p,100,Z,Ed.bC,aw,aw,λz vC z0 z1 vp=>?_];erw[_,_,Z,Z,cW Z,λt2 WL Jb=>?_];have LL:bJ p vC WL:=.fK vp.bC Jb.same;erw[v1,t2,_,_,Z,Z,(bc.t (bJ.t Ed.bC vp) a11).go Jb.same,bc.of Jb.at',cW Z,λv2 Md jY a14=>?_];have vo:bJ p WL Md:=.fK LL.bC jY;have sq:bc K Md q (rs.map V.int):=bc.t (bJ.t b6.bC (b8.trans (b9.trans (LM.trans (Ed.trans (vp.trans (LL.trans vo))))))) (bc.of n6.at');erw[k (.ref v2) rs x1 x2 x3 (1+z) Md (gu a14 (cO (gu sq (mS rs)) (cO (fJ _) (cO (fJ _) (cO (fJ _) (cO (fJ _) dJ)))))) #[ao,pr,p1,p2,p3,ao] (b1.trans (b2.trans (b3.trans (b5.trans (b6.trans (b8.trans (b9.trans (LM.trans (Ed.trans (vp.trans (LL.trans vo)))))))))))]
inductive aeo(vs:List V)(H:Hp)(Q:VK):Prop |mk (p:_)(h0:vs=[.ref p])(h1:fN H p)(h2:∀z H',dB 0 (.str z)->pY z=true->bJ p H H'->Q (.str z) H')
def Oh(K:aa):Sp:=λvs H Q _=>aeo vs H Q
theorem PM:bu ["_law_bag_here"] ["_law_bag_here"] (aW Gx):=bF aG
theorem a3q(F:FA K mg "_law_name" Gx)(B:bK mg)(ek:aF P w K mg au "_law_take" 1 lZ):aF P w K mg au "_law_name" 2 (Oh K):=by
 exists F.has,PM,dc λ_=>rfl
 ·let(p,rfl,bg,k):=h
  have nd:=PM.nd;erw[_,(aI (aV (wC K Z ba (ak (fA (N:=["_law_k","_law_bag_here"]) (js:=[none,some 0]) Z Z Z (uz Z (B.at "range") (ak (aP dw az (pf ek hr (ak (pv 0) (ak az ay)))) ay)) (λ_ _ _ _ _=>(bh 0 (gj aw))) (λ_ _ _ _ _=>dM) (λ_ _ _ _ _=>(IA Tt ba (pf ek hr (ak (pv 1) (ak az ay))) (λ_ _=>rfl)))) ay)))),?_];erw[Z,?_];erw[_,Z,p,8,Z,bg,aw,aw,λn H1 n0 n1 b1=>?_];erw[_,_,Z,Z,_,Z,bB,bB,λD H2 nD=>?_];erw[Ls (K:=K) (J:=qO 0 (1+n).toNat) (p:=p) (H:=H1) (1+n).toNat _ nD b1.bC bB (λi=>.int (0+(i:Int))) (λi H3 hi _=>#[hi,λy H4 #[e,q]=>#[e,q]]) (λH3 _=>bL _) (λ_ d=>∃z:Str,d= .str z/\z.length=1/\dR z/\z.cps.toList.all (λc=>decide (97<=c)&&decide (c<=122))=true) ?_ ?_]
  ·intro i H3 Q' hi b3 hq
   erw[_,Z,p,26,Z,b3.bC,aw,aw,λd H4 d0 d1 b4=>?_];have hd:d.toNat<jN.cps.toList.length:=by rw[ad9];omega
   erw[jN,d,jN.cps.toList[d.toNat],Z,Z,aG,cN d0 (cE hd),?_];have kh:dR ⟨#[jN.cps.toList[d.toNat]]⟩:=λc hc=>by have lM:c=jN.cps.toList[d.toNat]:=cn.mp hc;rw[lM];erw[ad7 _ (yt hd)]
   have gW:(⟨#[jN.cps.toList[d.toNat]]⟩:Str).cps.toList.all (λc=>decide (97<=c)&&decide (c<=122))=true:=by have:=gQ.mp (show jN.cps.toList.all (λc=>decide (97<=c)&&decide (c<=122))=true by decide+kernel) _ (yt hd);show([jN.cps.toList[d.toNat]]:List Nat).all _=true;rw[yx,MJ,Bb];erw[this]
   erw[hq _ _ _ #[_,Z,Z,kh,gW] Z (bT _) b4]
  ·intro H3 ys ds b3 d3 r3 l3 nl pd
   let(zs,rfl,hz):=Ny ds λd hd=>by let(i,hi):=vM.mp hd;erw[pd i d hi]
   rw[u7 r3]at d3;rw[bV]at l3;erw["",D,zs,Z,Z,aD.of d3,λz mi=>by rw[(hz z mi).1];decide,aw,bB,?_];erw[k _ _ (a2w (dR.join (pU aG) λa ha=>(hz a ha).2.1)) (a4Z bB bB λz mi=>#[(hz z mi).1,(hz z mi).2.2]) (b1.trans b3)]
inductive aeA(K:aa)(vs:List V)(H:Hp)(Q:VK):Prop |mk (p:Addr)(ax:Nat)(h0:vs=[.ref p,.int ax])(h1:fN H p)(h2:1<=ax)(h3:ax<=3)(h4:∀v d o H',RD K H' v d->lS ax d o->bJ p H H'->Q v H')
def Ol(K:aa):Sp:=λvs H Q _=>aeA K vs H Q
theorem lS.iL{n:Nat}{d:ag}(h:xP d):lS n d none:=#[h.it,(λ_ _ z=>nomatch z),λ_=>h]
theorem Q5:bu ["_law_bag_here","_law_axes","_law_sort","_law_speed","_law_most","_law_steps"] ["_law_bag_here","_law_axes"] (aW GN):=bF aG
theorem a3D(F:FA K mg "_law_item" GN)(B:bK mg)(ek:aF P w K mg au "_law_take" 1 lZ)(a90:aF P w K mg au "_law_name" 2 (Oh K)):aF P w K mg au "_law_item" 3 (Ol K):=by
 exists F.has,Q5,dN λ_ _=>rfl
 ·let(p,ax,rfl,bg,ax1,ax2,k):=h
  have nd:=Q5.nd;erw[_,(aB (pS 2 nd (pf ek hr (ak (pv 0) (ak az ay)))) (aB (bN (bS (dQ K Z hr.units) (pv 2) az (bA _)) (aI (aV (ip (ak ba (ak (aP dw az (pf ek hr (ak (pv 0) (ak az ay)))) ay))))) bQ) (aB (bN (bS (dQ K Z hr.units) (pv 2) az (bA _)) (aI (aV (ip (ak ba (ak (px K (fc (ak ba (ak ba ay))) (pf ek hr (ak (pv 0) (ak az ay)))) ay))))) bQ) (aB (bN (bS (dQ K Z hr.units) (pv 2) az (bA _)) (aI (aV (ip (ak ba (ak (pf a90 hr (ak (pv 0) ay)) ay))))) bQ) (aB (pS 3 nd (aP dw az (pf ek hr (ak (pv 0) (ak az ay))))) (aB (pS 4 nd (px K (fc (ak az (ak az (ak az ay)))) (pf ek hr (ak (pv 0) (ak az ay))))) (aB (uy (i0:=5) nd Z (Or.inl Z) (N:=["_law_axis","_law_most","_law_bag_here"]) (js:=[none,some 4,some 0]) Z Z Z (uz Z (B.at "range") (ak (pv 1) ay)) (λ_ _ _ _ _=>(bh 0 (show List.Nodup (["_law_axis","_law_most","_law_bag_here"]:List Str) by decide+kernel))) (λ_ _ _ _ _=>dM) (λ_ _ _ _ _=>(aP iM (pf ek hr (ak (pv 2) (ak (aP dw (aP cw az (pv 1)) az) ay))) (pv 1)))) (aB (ij (bN (dv (cL (fg (x:="any") (Wo K Z Z) Z (B.at "any") Xb (ak (pv 5) ay)))) (aI (fu az (zi (pv 5) (pf ek hr (ak (pv 0) (ak (pv 1) ay))) set_list))) bQ)) (aI (aV (ip (ak ba (ak (cZ (x:="tuple") (kB K Z) Z (B.at "tuple") jd (ak (pv 5) ay)) (ak (pv 3) ay)))))))))))))),?_];erw[_,Z,p,6,Z,bg,aw,aw,λso H1 s0 s1 b1=>?_];erw[_,Z,.inl #[_,_,Z,Z,_,Z,?_]];erw[fR (λhc=>?_) (λhc=>?_)]
  ·erw[_,Z,p,1000,Z,b1.bC,aw,aw,λn H2 n0 n1 b2=>?_]
   erw[_,_,Z,Z,cW Z,λt H3 n3=>?_];erw[k (.ref t) _ none H3 (gu (bc.of n3.at') (cO (bT _) (cO (fJ _) dJ))) (.iL (.inl #[_,Z,bB,bB])) (b1.trans (b2.trans (.fK b2.bC n3.same)))]
  erw[_,Z,.inl #[_,_,Z,Z,_,Z,?_]];erw[fR (λhc=>?_) (λhc=>?_)]
  ·erw[cW Z,λc H2 n2=>?_]
   have b2:bJ p H1 H2:=.fK b1.bC n2.same;have cp:c≠p:=λz=>b1.bC.ne (z▸n2.no);erw[_,Z,p,2,Z,b2.bC,aw,aw,λi H3 i0 i1 b3=>?_];have hi:∃z:Str,fk ([.str "up",.str "down"]:List V) i=some (.str z)/\dB 0 (.str z)/\ID "tool" z:=by
    rcases(show i=0\/i=1 by omega)with rfl|rfl
    ·erw["up",Z,#[aG,aG],.inl #[Z,.inl Z]]
    ·erw["down",Z,#[aG,aG],.inl #[Z,.inr Z]]
   let(z,ez,IJ,onz):=hi;erw[.inl #[c,_,_,_,Z,Z,aD.of (b3.same _ _ cp n2.at'),ez,cW Z,λt H4 n4=>?_]];erw[k (.ref t) _ none H4 (gu (bc.of n4.at') (cO (bT _) (cO (bT _) dJ))) (.iL (.inr #[_,_,Z,.inl Z,IJ,onz])) (b1.trans (b2.trans (b3.trans (.fK b3.bC n4.same))))]
  erw[_,Z,.inl #[_,_,Z,Z,_,Z,?_]];erw[fR (λhc=>?_) (λhc=>?_)]
  ·erw[_,Z,p,Z,b1.bC,λz H2 IJ nz b2=>#[cW Z,λt H3 n3=>?_]]
   erw[k (.ref t) _ none H3 (gu (bc.of n3.at') (cO (bT _) (cO (bT _) dJ))) (.iL (.inr #[_,_,Z,.inr Z,IJ,.inr #[Z,nz]])) (b1.trans (b2.trans (.fK b2.bC n3.same)))]
  erw[_,Z,p,20,Z,b1.bC,aw,aw,λsp H2 p0 p1 b2=>?_];erw[_,_,Z,Z,?_];erw[cW Z,λc H3 n3=>?_];have b3:bJ p H2 H3:=.fK b2.bC n3.same;have cp:c≠p:=λz=>b2.bC.ne (z▸n3.no);erw[_,Z,p,3,Z,b3.bC,aw,aw,λi H4 i0 i1 b4=>?_];have hm:∃m:Int,fk ([.int 3,.int 20,.int 100]:List V) i=some (.int m)/\1<=m/\m<=100:=by
   rcases(show i=0\/i=1\/i=2 by omega)with rfl|rfl|rfl
   ·erw[3,Z,aw,aw]
   ·erw[20,Z,aw,aw]
   ·erw[100,Z,aw,aw]
  let(m,em,m1,m2):=hm;erw[.inl #[c,_,_,_,Z,Z,aD.of (b4.same _ _ cp n3.at'),em,?_]];have vo:=b1.trans (b2.trans (b3.trans b4));erw[_,Z,_,Z,bB,bB,λD H5 nD=>?_];erw[Lu (J:=qO 0 ax) (p:=p) (H:=H4) ax _ nD vo.bC bB (λi=>.int (0+(i:Int))) (λi H3 hi _=>#[hi,λy H4 #[e,q]=>#[e,q]]) (λH3 _=>bL _) (λz=>(z.natAbs:Int)<=m) ?_ ?_]
  ·intro i H6 Q' hi b6 hq
   erw[_,Z,_,Z,_,_,Z,Z,.of_left (dh aw aw),_,_,Z,Z,p,2*m+1,Z,b6.bC,bB,bB,λd H7 d0 d1 b7=>?_];erw[_,Z,_,_,Z,Z,hq _ _ bB b7]
  intro H6 is b6 d6 l6 Wb;have LK:=vo.trans b6;have lp:D≠p:=λz=>vo.bC.ne (z▸nD.no);have nl:H D=none:=by cases e:H D with |none=>rfl |some o=>have:=vo.same _ _ lp e;rw[nD.no]at this;cases this
  erw[λO H7=>bJ p H H7/\∃(is:List Int),H7 D=some (.lst (is.map V.int))/\fo ax 100 is/\O=[some (.ref p),some (.int ax),some (.int so),some (.int (1+sp)),some (.int m),some (.ref D)],?_,?_]
  ·erw[_,Z,D,is,Z,.inl (aD.of d6),_,Z,?_]
   cases ha:is.any (· !=0)with |false=>
    erw[bE ?_];erw[_,Z,_,Z,_,Z,p,(ax:Int),Z,LK.bC,bB,bB,λix H7 i0 i1 b7=>?_];have d7:=b7.same _ _ lp d6;erw[D,_,ix,ix.toNat,Z,Z,d7,?_,?_]
    ·unfold kM;rw[bo i0,bo (by rw[bV,l6];erw[i1])]
    erw[?_,is.set ix.toNat 1,?_,#[?_,?_,?_],Z]
    ·have Wh:=LK.trans b7
     erw[?_,λb o n e=>?_]
     ·let(c',m',e,ok):=Wh.bC
      erw[c',m',by rw[aQ lp.symm];erw[e],ok]
     ·rw[aQ (iO e nl)];erw[Wh.same b o n e]
    ·rw[bP,List.map_set]
    ·rw[yp];erw[l6]
    ·intro z hz
     rcases List.mem_or_eq_of_mem_set hz with h|h
     ·have:=Wb z h;omega
     ·rw[h];decide
    ·erw[1,Xe.mpr #[ix.toNat,by rw[yp];omega,by rw[Xi]],aw] |true=>erw[bf ?_];erw[LK,is,d6,#[l6,λz hz=>by have:=Wb z hz;omega,?_],Z];let(z,hz,h0):=Xm.mp ha;erw[z,hz,by simpa using h0]
  rintro O H7 ⟨b7,is,d7,ok,rfl⟩;erw[_,Z,D,_,Z,.inl #[aD.of d7,λq H8 n8=>?_]];erw[_,Z,cW Z,λt H9 n9=>?_];erw[k (.ref t) (du is (1+sp)) (some (is,1+sp)) H9 (gu (bc.of n9.at') (cO (bT _) (cO (gu (bc.of (n9.same _ _ n8.at')) (mS is)) (cO (fJ _) dJ)))) #[.inl #[is,_,Z,Z],λns sp e=>by cases e;erw[ok,bB,bB],λz=>nomatch z] (b7.trans (.fK b7.bC (n8.same.trans n9.same)))]
end
end _a
set_option maxHeartbeats 2000000
namespace _a
open PySem PySem.Spec PyProof.Rows _L _l _W
open _T (numS numIn? figs isFig Free)
open _O (Itm)
section
theorem uQ(sep a:Str)(as:List Str)(h:as≠[]):Txt.join sep (a::as)=a++sep++Txt.join sep as:=by show Builtin.Str.glued sep (a::as)=a++sep++Builtin.Str.glued sep as;rw[tI,tI];cases as with |nil=>exact(h Z).elim |cons b r=>rfl
theorem join_snoc(sep b:Str):∀(as:List Str),as≠[]->Txt.join sep (as++[b])=Txt.join sep as++sep++b |[],h=>(h Z).elim |[a],_=>rfl |a::c::r,_=>by have e:=join_snoc sep b (c::r) (by simp);rw[List.cons_append,uQ sep a (c::r++[b]) (by simp),e,uQ sep a (c::r) (by simp)];simp only[Mt]
theorem Js(ns:List Int)(sp:Int)(h:ns≠[]):gm (du ns sp)=Txt.join ⟨#[32]⟩ ("line"::(ns.map numS++[numS sp])):=by
 have hn:ns.map numS≠[]:=by simpa using h
 rw[CQ,<-mM,uQ _ _ _ (by simp),join_snoc _ _ _ hn];have e:("line ":Str)="line"++" ":=by decide+kernel
 rw[e];unfold fW;simp only[Mt]
theorem nK{b:Str}(ha:Free c a)(hb:Free c b):Free c (a++b):=λh=>by rw[nW,lV,iI]at h;erw[h.elim ha hb]
theorem KH{c:Nat}{sep:Str}(hs:Free c sep):∀l:List Str,(∀a∈l,Free c a)->Free c (Txt.join sep l) |[],_=>λh=>by have e:(Txt.join sep []).cps.toList=[]:=rfl;rw[e]at h;cases h |[x],h=>h x (.head _) |x::y::r,h=>by rw[uQ _ _ _ (by simp)];erw[nK (nK (h x (.head _)) hs) (KH hs (y::r) λa ha=>h a (.tail _ ha))]
theorem IY(i:Int):dR (numS i):=λc hc=>by cases i with |ofNat m=>rw[show(numS (Int.ofNat m)).cps.toList=_ from _T.qH m]at hc;have:=_T.oZ m c hc;omega |negSucc m=>
 rw[_T.Am]at hc;rcases bI.mp hc with e|hc
 ·omega
 ·have:=_T.oZ (m+1) c hc
  omega
structure vz(n:Nat)(d:ag):Prop where
 rt:uR n (gm d)=d
 len:(gm d).length<=400
 ok:vv (gm d)
 fr:Free 10 (gm d)
 ti:TI d
 wL:dB 8 d
theorem iB(h:(z.cps.toList.all λx=>x !=c)=true):Free c z:=λhc=>by have:=gQ.mp h c hc;simp at this
theorem a50(h:pY z=true)(hc:c<97):Free c z:=λh'=>by unfold pY at h;rw[fb]at h;have:=gQ.mp h.2 c h';unfold CJ at this;simp at this;omega
theorem RS{w:Str}(h:ID w s)(hc:c=10\/c=32):Free c s:=by
 rcases h with⟨_,rfl|rfl⟩|⟨_,hn⟩
 ·rcases hc with rfl|rfl<;>erw[iB aG]
 ·rcases hc with rfl|rfl<;>erw[iB aG]
 ·erw[a50 hn bB]
theorem J6(h:i.natAbs<10^40):nI (numS i)= .int i:=by unfold nI;have:(numS i).length<=41:=N3 h;rw[_T.zq bB];rfl
theorem a51{ns:List Int}(h:∀z∈ns,z.natAbs<10^40):(ns.map numS).map nI=ns.map PyData.int:=by rw[EB];erw[List.map_congr_left λz hz=>J6 (h z hz)]
theorem TH{n:Nat}{d:ag}(e:gm d=Txt.join ⟨#[32]⟩ ws)(hn:ws≠[])(hf:∀z∈ws,Free 32 z)(ht:gR ws=d)(hi:nc n d=true):uR n (gm d)=d:=by unfold uR;rw[e,mM,_T.uc hn hf,ht,hi];rfl
theorem lS.tx{n:Nat}{d:ag}(h:lS n d o)(n1:1<=n)(n3:n<=3):vz n d:=by have hi:=h.is.1;have fG:dR (" ":Str):=pU aG;have UR:Free 10 (" ":Str):=iB aG;cases o with
 |some q=>
  let(ns,sp):=q;have ed:=qi h.it;subst ed;let(cT,s1,s2):=h.ln ns sp rfl;have hb:∀z∈ns,z.natAbs<10^40:=λz hz=>by have:=cT.bd z hz;omega
  have hs:sp.natAbs<10^40:=by omega
  have cj:ns≠[]:=λe=>by rw[e]at cT;have:=cT.len;simp at this;omega
  have ti:TI (du ns sp):=.inl #[ns,sp,Z,by rw[cT.len];erw[n3],hb,hs];erw[TH (Js ns sp cj) (by simp) (λz hz=>?_) ?_ hi,JF ti,?_,?_,ti,h.is.2.1]
  ·rcases bI.mp hz with rfl|hz
   ·erw[iB aG]
   ·rcases iI.mp hz with hz|hz
    ·let(i,_,rfl):=dC.mp hz
     erw[_T.gX aw aw]
    ·rw[cn.mp hz];erw[_T.gX aw aw]
  ·obtain⟨x,xs,rfl⟩:∃x xs,ns=x::xs:=by cases ns with|nil=>exact(cj rfl).elim|cons x xs=>erw[x,xs,rfl]
   have e1:(x::xs).map numS++[numS sp]=numS x::(xs.map numS++[numS sp]):=rfl;have e2:(numS x::(xs.map numS++[numS sp])).map nI=(x::xs).map PyData.int++[.int sp]:=by rw[<-e1,lj,a51 hb];show _++[nI (numS sp)]=_;rw[J6 hs]
   rw[e1,EZ,e2,eP,bV,qT,List.take_left' (by simp),Xg,List.getLast?_append,List.getLast?_singleton];rfl
  ·rw[Js ns sp cj,<-mM]
   erw[dR.join fG λa ha=>?_];rcases bI.mp ha with rfl|ha
   ·erw[pU aG]
   ·rcases iI.mp ha with ha|ha
    ·let(i,_,rfl):=dC.mp ha
     erw[IY i]
    ·rw[cn.mp ha];erw[IY sp]
  ·rw[Js ns sp cj,<-mM]
   erw[KH UR _ λa ha=>?_];rcases bI.mp ha with rfl|ha
   ·erw[iB aG]
   ·rcases iI.mp ha with ha|ha
    ·let(i,_,rfl):=dC.mp ha
     erw[_T.gX aw aw]
    ·rw[cn.mp ha];erw[_T.gX aw aw] |none=>
  have key:∀(w y:Str)(u:ag),d= .tuple [.str w,u]->gm d=w++" "++y->w≠"line"->(if w="wait" then nI y else .str y)=u->Free 32 w->Free 32 y->Free 10 w->Free 10 y->dR w->dR y->TI d->vz n d:=λw y u e1 e2 hw hu f1 f2 f3 f4 o1 o2 ti=>by
   have ej:gm d=Txt.join ⟨#[32]⟩ [w,y]:=by rw[e2,<-mM];rfl
   erw[TH ej (by simp) (λz hz=>?_) ?_ hi,JF ti,?_,?_,ti,h.is.2.1]
   ·simp only[bI,ck,cJ]at hz
    rcases hz with rfl|rfl
    ·erw[f1]
    ·erw[f2]
   ·rw[BA hw,hu,e1]
   ·rw[e2];exact(o1.app fG).app o2
   ·rw[e2];erw[nK (nK f3 UR) f4]
  rcases h.ot rfl with⟨z,rfl,z1,z2⟩|⟨w,s,rfl,hw,oB,on⟩
  ·have hb:z.natAbs<10^40:=by omega
   erw[key "wait" (numS z) (.int z) Z Z aG (by rw[bo Z,J6 hb]) (iB aG) (_T.gX aw aw) (iB aG) (_T.gX aw aw) (pU aG) (IY z) (.inr (.inl #[_,_,Z,.inl Z,hb]))]
  ·have hl:s.length<=100:=by
    rcases on with⟨_,rfl|rfl⟩|⟨_,hn⟩
    ·decide+kernel
    ·decide+kernel
    ·unfold pY at hn
     simp only[fb,AU]at hn;omega
   have cj:w≠"line"/\w≠"wait"/\Free 32 w/\Free 10 w/\dR w:=by
    rcases hw with rfl|rfl
    ·erw[aG,aG,iB aG,iB aG,pU aG]
    ·erw[aG,aG,iB aG,iB aG,pU aG]
   erw[key w s (.str s) Z Z cj.1 (by rw[bj cj.2.1]) cj.2.2.1 (RS on (.inr Z)) cj.2.2.2.1 (RS on (.inl Z)) cj.2.2.2.2 (RZ oB) (.inr (.inr #[_,_,Z,hw,hl]))]
theorem vz.ne{n:Nat}{d:ag}(h:vz n d):d≠ .none:=by rcases h.ti with⟨ns,sp,rfl,_⟩|⟨w,i,rfl,_⟩|⟨w,z,rfl,_⟩<;>erw[λz=>nomatch z]
end
end _a
namespace _a
open PySem PySem.Spec PyProof.Rows _L _r _l _C _P _W _R
open _O (topR cornO mnO betR atO ownF leadF ownL OkI OkIs)
open _T (numS)
section
theorem cF.item{D:Nat}(ok:cF M D S){i:Nat}{d:ag}(ed:S.ds[i]? =some d):∃o,S.os[i]? =some o/\lS M.rs.length d o:=by let(o,eo,it):=ok.row.get ed;erw[o,eo,it,λns sp e=>ok.row.ok i ns sp (by rw[eo,e]),λe=>ok.rw i d (by rw[eo,e]) ed]
theorem aY.Ok.n3{M:aY}(aL:M.Ok):1<=M.rs.length/\M.rs.length<=3:=by
 have:=aL.len
 lia
theorem cF.tx{D:Nat}(ok:cF M D S)(aL:M.Ok):∀d∈S.ds,vz M.rs.length d:=λd hd=>by let(i,hi):=vM.mp hd;let(o,_,h):=ok.item hi;erw[h.tx aL.n3.1 aL.n3.2]
structure nT(S:aU):Prop where
 s1:S.side.length<=100
 m1:S.mark.length<=100
 s2:dR S.side
 m2:dR S.mark
theorem nT.eq(h:nT S)(a:S'.side=S.side)(b:S'.mark=S.mark):nT S':=#[by rw[a];erw[h.s1],by rw[b];erw[h.m1],by rw[a];erw[h.s2],by rw[b];erw[h.m2]]
theorem RP:2^1700<10^540:=by decide+kernel
theorem acI(h:Bd 1700 q):iW q.num/\iW q.den:=#[nY h.num RP,nY (show(q.den:Int).natAbs<2^1700 from h.den) RP]
theorem Sr{k:Int}(hq:0<q)(hk:0<=k)(qo:k<=q):(eX (k*z) q).natAbs<=z.natAbs:=by
 by_cases hz:0<=z
 ·have:=Cz hq hk qo hz
  omega
 ·have h:=Cz (z:=-z) hq hk qo bB
  rw[show k*-z=-(k*z) by rw[Int.mul_neg],Sq hq]at h;omega
theorem Yt(h1:1<=ti)(h2:ti<=100)(hq:0<q.num)(hd:q.den<2^1600):iW (lY ti q):=by
 unfold lY;split
 ·next hx=>
  let(a,b,c):=hx.choose_spec;generalize hx.choose=T at a b c;have hm:ti*ti<=10000:=by
   have:=tR h2 h2 ao aw
   lia
  have K3:ti*ti*(q.den:Int)<=10000*(q.den:Int):=B8 hm ao;have cy:T-1<ti*ti*(q.den:Int):=Int.not_le.mp λh=>by rw[L8 hq ao h]at c;cases c
  have hp:10001*2^1600<10^540:=by decide+kernel
  show T.natAbs<10^540;generalize(10:Nat)^540=X at hp⊢;generalize(2:Nat)^1600=Y at hp hd
  lia
 ·show(0:Int).natAbs<10^540
  decide+kernel
theorem One.yF{D:Nat}(h:cF M D S)(aL:M.Ok)(hD:D<=1000)(o:One M S e S1):Ef e:=by cases o with
 |@line ns sp eo nh=>
  let(cT,s1,s2):=h.row.ok 0 ns sp eo;have hd:S.dn<aK ns:=by
   rcases h.dn with e|⟨mV,mQ,e1,e2⟩
   ·rw[e];erw[cT.lead.1]
   ·rw[eo]at e1;cases e1;erw[e2]
  have hn:S.os≠[]:=λe=>by rw[e]at eo;simp at eo
  let(R1,R2):=C9 h.raw aL hn;have D1:=h.D1;have uw:=aL.r1;have qB:=aL.f1;have mD:=Jh (r:=M.r) (f:=M.f) (left:=(aK ns:Int)-S.dn) ao ao ao h.pd ((Bw S.aA sp).mono ao) (R1.mono ao) h.aR nh;have mL:gJ M S ns sp<=1600:=eT Jf (yE s1 s2 h.dP h.eQ);have tp:0<topR S.aA sp:=EW s1 h.dP;have mP:0<gJ M S ns sp:=Jg uw.1 qB.1 ao h.pd.nn tp R1.nn h.aR nh;have bd:Bd 1700 (gJ M S ns sp):=(mD.bd (eT mL aG)).mono ao;let(b1,b2):=acI bd;have vY:=aL.t1;have n3:=aL.n3;erw[.inr #[gC ns S.dn,_,_,_,Z,?_,λz hz=>?_,Yt vY.1 vY.2 (IX mP) (gH mD.den (tO aw ao)),b1,b2]]
  ·show(ns.map _).length<=3
   rw[bV,cT.len];erw[n3.2]
  ·let(y,hy,rfl):=dC.mp hz
   have U6:=cT.bd y hy;have c1:=Sr (z:=y) (q:=(aK ns:Int)) (k:=(S.dn:Int)+1) ao ao ao;have c2:=Sr (z:=y) (q:=(aK ns:Int)) (k:=(S.dn:Int)) ao ao ao;show Int.natAbs _<10^40
   lia |iL eo ed nh=>
  let(o,eD,it):=h.item ed;rw[eo]at eD;cases eD;erw[.inl #[(it.tx aL.n3.1 aL.n3.2).ti,λns sp e=>?_]];rcases it.it with⟨_,_,_,z⟩|⟨w,x,e2,hw,_⟩
  ·cases z
  ·rw[e2]at e
   erw[tZ (show lR w from hw) #[ns,sp,e]]
theorem Run.yF{D:Nat}(h:cF M D S)(aL:M.Ok)(hD:D<=1000)(r:Run M S es S1):∀e∈es,Ef e:=by induction r with |nil=>erw[λe he=>nomatch he] |cons o _ ih=>
 intro e he;rcases bI.mp he with rfl|he
 ·erw[o.yF h aL hD]
 ·erw[ih (o.ok h aL) e he]
theorem Vb(S:aU):(gG S).side=S.side/\(gG S).mark=S.mark:=by unfold gG;split<;>erw[Z,Z]
theorem One.sd{D:Nat}(h:cF M D S)(aL:M.Ok)(o:One M S e S1)(hs:nT S):nT S1:=by cases o with
 |@line ns sp eo nh=>
  have h1:nT (eY M S ns sp):=hs.eq Z rfl;unfold fQ;split
  ·let(a,b):=Vb (eY M S ns sp)
   erw[h1.eq a b]
  ·erw[h1] |iL eo ed nh=>
  have tx:=h.tx aL e (fO ed);let(a,b):=Vb (cX e S);erw[nT.eq ?_ a b];rcases tx.ti with⟨ns,sp,rfl,_⟩|⟨w,i,rfl,_⟩|⟨w,y,rfl,_,hy⟩
  ·erw[hs]
  ·erw[hs]
  ·have oy:dR y:=λc hc=>tx.ok c (by rw[show gm (.tuple [.str w,.str y])=w++" "++y from Z,nW,lV,iI];erw[.inr hc]);show nT (cX (.tuple [.str w,.str y]) S);unfold cX;dsimp only;split
   ·erw[hy,hs.m1,oy,hs.m2]
   ·split
    ·erw[hs.s1,hy,hs.s2,oy]
    ·erw[hs]
theorem Run.sd{D:Nat}(h:cF M D S)(aL:M.Ok)(r:Run M S es S1)(hs:nT S):nT S1:=by induction r with |nil=>erw[hs] |cons o _ ih=>erw[ih (o.ok h aL) (o.sd h aL hs)]
end
section
theorem Co{pl:List Int}(h:fM rs pl)(hr:∀z∈rs,1<=z/\z<=100):∀n∈pl,0<=n/\n<=100:=λn hn=>by
 let(i,hi):=vM.mp hn;have hl:i<rs.length:=by rw[<-h.len];exact(dW.mp hi).1
 have e:=cE hl;have:=h.at' i n _ hi e;have:=hr _ (yt hl)
 lia
structure RG(M:aY)(D:Nat)(S:aU):Prop where
 ok:cF M D S
 aL:M.Ok
 sd:nT S
 on:gs M S
 hD:D<=1000
theorem RG.place{D:Nat}(g:RG M D S):∀n∈dj S,Nm n:=λn hn=>by
 have:=Co (g.on.place g.ok) g.aL.rl n hn;show n.natAbs<10^40
 lia
theorem RG.NC{D:Nat}(g:RG M D S):Nm (gB M.f S.pc):=by
 let(z1,_,_,z4):=NB g.aL.f1.1 g.ok.pd.nn;have:=z4 g.ok.pm;show Int.natAbs _<10^40
 lia
theorem RG.len{D:Nat}(g:RG M D S):Nm (S.ds.length:Int):=by have:=g.ok.len;show Int.natAbs _<10^40;omega
def Cw(z:Str):Str:=if z="" then "none" else z
def lD(S:aU):Str:=match S.aR.isSome,decide (S.pc=0)with |true,true=>"held stands" |true,false=>"held goes" |false,true=>"free stands" |false,false=>"free goes"
inductive Wd |place |state |hold |go |drop
def Wd.txt:Wd->Str | .place=>"place" | .state=>"state" | .hold=>"hold" | .go=>"go" | .drop=>"drop"
def Wm(M:aY)(S:aU):Wd->Str | .place=>fW (dj S) | .state=>lD S |_=>""
def Wd.Ok(K:aa)(C cM:Addr)(a q:Addr)(M:aY)(S:aU)(H:Hp)(Q:VK)(E:XK):Wd->Prop | .hold=>∀H',cc K C H' a q M (jn M S)->bR [a] H H'->Q (.str (numS (gB M.f S.pc))) H' | .go=>∀H',cc K C H' a q M {S with aR:=none}->bR [a] H H'->Q (.str (numS (S.ds.length:Nat))) H' | .drop=>(¬Halt S.pc S.aR->∀H',aE H H'->E (.ref cM) none H')/\(Halt S.pc S.aR->∀q' H',cc K C H' a q' M (mF S)->H q'=none->bR [a] H H'->Q (.str (numS (S.ds.length:Nat))) H') |w=>∀H',aE H H'->Q (.str (Wm M S w)) H'
inductive adC(K:aa)(C:Addr)(cM:Addr)(w:Wd)(vs:List V)(H:Hp)(Q:VK)(E:XK):Prop |mk (a:_)(q:_)(M:_)(D:_)(S:_)(h0:vs=[.ref a])(h1:cc K C H a q M S)(h2:RG M D S)(h3:w.Ok K C cM a q M S H Q E)
def pJ(K:aa)(C cM:Addr)(w:Wd):Sp:=λvs H Q E=>adC K C cM w vs H Q E
theorem Qy:bu ["runner"] ["runner"] (aW Hu):=bF aG
theorem a44(F:FA K mg "answer_hold" Hu)(B:bK mg)(gK:aF P w K mg au "show_number" 1 m5)(TC:fm K C)(a8N:cQ P w K mg au C "hold" 2 (O9 K C)):aF P w K mg au "answer_hold" 3 (pJ K C cM .hold):=by
 exists F.has,Qy,dc λ_=>rfl
 ·let(a,q,M,D,S,rfl,R,g,k):=h
  let(dx,mv,bv,cA,tv,e,r1,r2,r3,r4):=R.ob;have nd:=Qy.nd;erw[_,(aI (aV (pf gK hr (ak (iK a8N TC.cl (hr.mono aw) (pv 0)) ay)))),?_];erw[_,Z,a,dx,_,Z,e,Z,a,q,M,D,S,Z,R,g.ok,g.aL,λH' R' b'=>#[_,Z,Nm.l g.NC,λH2 s2=>k H2 (R'.same (by unfold jn;split<;>erw[g.ok.row.no]) s2) (b'.trans (.of s2))]]
theorem BX:bu ["runner"] ["runner"] (aW C2):=bF aG
theorem a46(F:FA K mg "answer_go" C2)(B:bK mg)(gK:aF P w K mg au "show_number" 1 m5)(TC:fm K C)(a8O:cQ P w K mg au C "go" 1 (BK K C)):aF P w K mg au "answer_go" 2 (pJ K C cM .go):=by
 exists F.has,BX,dc λ_=>rfl
 ·let(a,q,M,D,S,rfl,R,g,k):=h
  let(dx,mv,bv,cA,tv,e,r1,r2,r3,r4):=R.ob;have nd:=BX.nd;erw[_,(aI (aV (pf gK hr (ak (iK a8O TC.cl (hr.mono aw) (pv 0)) ay)))),?_];erw[_,Z,a,dx,_,Z,e,Z,a,q,M,D,S,Z,R,g.ok,λH' R' b'=>#[_,Z,Nm.l g.len,λH2 s2=>k H2 (R'.same g.ok.row.no s2) (b'.trans (.of s2))]]
theorem Qz:bu ["runner"] ["runner"] (aW Hv):=bF aG
theorem a47(F:FA K mg "answer_drop" Hv)(B:bK mg)(gK:aF P w K mg au "show_number" 1 m5)(TC:fm K C)(a8R:hU P w K mg au C "drop" 5 (Oc K C cM)):tF P w K mg au "answer_drop" 6 (pJ K C cM .drop):=by
 erw[F.sM Qz (λvs H Q E h=>?_) (λ_ _ _ _ _ _=>dc λ_=>rfl) (λf aH A outer s H vs Q E hr h=>?_)]
 ·let(a,q,M,D,S,rfl,_):=h
  rfl
 ·let(a,q,M,D,S,rfl,R,g,k):=h
  let(dx,mv,bv,cA,tv,e,r1,r2,r3,r4):=R.ob;have nd:=Qz.nd;erw[_,(aI (aV (pf gK hr (ak (a1P a8R (uD λ_ _ _ z=>z) TC.cl (hr.mono aw) (pv 0)) ay)))),?_];erw[_,Z,a,dx,_,Z,e,Z,a,q,M,D,S,Z,R,g.ok,g.aL,k.1,λhH q' H' R' nq b'=>#[_,Z,Nm.l g.len,λH2 s2=>k.2 hH q' H2 (R'.same Z s2) nq (b'.trans (.of s2))]]
theorem Qx:bu ["runner"] ["runner"] (aW Ht):=bF aG
theorem a43(F:FA K mg "answer_place" Ht)(B:bK mg)(TC:fm K C)(zJ:aF P w K mg au "show_numbers" 2 (BN K))(Km:cQ P w K mg au C "place" 3 (gT K C λ_ S H Q=>∀v H',RD K H' v (eV (dj S))->aE H H'->Q v H')):aF P w K mg au "answer_place" 4 (pJ K C cM .place):=by
 exists F.has,Qx,dc λ_=>rfl
 ·let(a,q,M,D,S,rfl,R,g,k):=h
  let(dx,mv,bv,cA,tv,e,r1,r2,r3,r4):=R.ob;have nd:=Qx.nd;have lr:=g.aL.n3;have lp:=Ce g.ok;erw[_,(aI (aV (pf zJ hr (ak (iK Km TC.cl (hr.mono aw) (pv 0)) ay)))),?_];erw[_,Z,a,dx,_,Z,e,Z,a,q,M,D,S,Z,R,g.ok,g.aL,λv H1 rv s1=>#[v,dj S,Z,rv,ao,g.place,λH2 s2=>k _ (s1.trans s2)]]
theorem Qu:bu ["runner","held"] ["runner"] (aW Hq):=bF aG
theorem a40(F:FA K mg "answer_state" Hq)(B:bK mg)(TC:fm K C)(vb:cQ P w K mg au C "is_held" 1 (gT K C λ_ S H Q=>Q (.bl S.aR.isSome) H))(A3:cQ P w K mg au C "stands" 1 (gT K C λ_ S H Q=>Q (.bl (decide (S.pc=0))) H)):aF P w K mg au "answer_state" 2 (pJ K C cM .state):=by
 exists F.has,Qu,dc λ_=>rfl
 ·let(a,q,M,D,S,rfl,R,g,k):=h
  let(dx,mv,bv,cA,tv,e,r1,r2,r3,r4):=R.ob;have nd:=Qu.nd;have iA:sizeLine=16777216:=by decide
  erw[_,(aB (pS 1 nd (ka (cL (iK vb TC.cl (hr.mono aw) (pv 0))) ba ba)) (aI (aV (ka (cL (iK A3 TC.cl (hr.mono aw) (pv 0))) (pT (fw (jj (pv 1)) (fw ba pR))) (pT (fw (jj (pv 1)) (fw ba pR))))))),?_];have k2:Q (.str (lD S)) H:=k H (aE.refl _);unfold lD at k2;erw[_,Z,a,dx,_,Z,e,Z,a,q,M,D,S,Z,R,g.ok,g.aL,_,Z,?_];cases h1:S.aR.isSome with
  |false=>erw[bf ?_];erw[_,Z,a,dx,_,Z,e,Z,a,q,M,D,S,Z,R,g.ok,g.aL,_,Z,?_];cases h2:decide (S.pc=0)with |false=>rw[h1,h2]at k2;erw[bf #[_,Z,.inr #["free",Z,aG,_,Z,aG,?_]]];erw[_,Z,aG,aG,?_];rw[show Str.empty++Str.ofString "free"++Str.ofString " goes"=Str.ofString "free goes" by decide+kernel];erw[k2] |true=>rw[h1,h2]at k2;erw[bE #[_,Z,.inr #["free",Z,aG,_,Z,aG,?_]]];erw[_,Z,aG,aG,?_];rw[show Str.empty++Str.ofString "free"++Str.ofString " stands"=Str.ofString "free stands" by decide+kernel];erw[k2]
  |true=>erw[bE ?_];erw[_,Z,a,dx,_,Z,e,Z,a,q,M,D,S,Z,R,g.ok,g.aL,_,Z,?_];cases h2:decide (S.pc=0)with |false=>rw[h1,h2]at k2;erw[bf #[_,Z,.inr #["held",Z,aG,_,Z,aG,?_]]];erw[_,Z,aG,aG,?_];rw[show Str.empty++Str.ofString "held"++Str.ofString " goes"=Str.ofString "held goes" by decide+kernel];erw[k2] |true=>rw[h1,h2]at k2;erw[bE #[_,Z,.inr #["held",Z,aG,_,Z,aG,?_]]];erw[_,Z,aG,aG,?_];rw[show Str.empty++Str.ofString "held"++Str.ofString " stands"=Str.ofString "held stands" by decide+kernel];erw[k2]
end
end _a
set_option maxHeartbeats 1000000
namespace _a
open PySem PySem.Spec PyProof.Rows _L _r _l _C _P _W
open _O (topR cornO mnO betR atO ownF leadF ownL OkI OkIs)
open _T (numS)
section
def sD:ag->Bool | .tuple ds=>(ds.length==2||ds.length==3)&&ds.all (da 1 100) |_=>false
def mh:ag->Bool | .tuple [r,a,b,c,t]=>sD r&&da 1 100 t&&[a,b,c].all (da 1 50) |_=>false
theorem a6J(n:Nat):CU (.int n) [.int 2,.int 3]=(n==2||n==3):=by
 show((2:Int)==n||((3:Int)==n||false))=_;rw[Bool.or_false];congr 1
 ·rw[kx];simp;lia
 ·rw[kx];simp;lia
inductive aeQ(f:ag->Bool)(K:aa)(vs:List V)(H:Hp)(Q:VK):Prop |mk (v:_)(d:_)(h0:vs=[v])(h1:RD K H v d)(h2:∀H',aE H H'->Q (.bl (f d)) H')
def yS(f:ag->Bool)(K:aa):Sp:=λvs H Q _=>aeQ f K vs H Q
theorem Qw:bu ["thing"] ["thing"] (aW Hs):=bF aG
theorem a42(F:FA K mg "are_rails" Hs)(B:bK mg)(g1:GT K mg "AXES" [.int 2,.int 3])(a8x:GV mg "LONGEST_RAIL" (.int 100))(j7:aF P w K mg au "is_whole_within" 2 (mO K)):aF P w K mg au "are_rails" 3 (yS sD K):=by
 exists F.has,Qw,dc λ_=>rfl
 ·let(v,d,rfl,rd,k):=h
  have nd:=Qw.nd;let(aX,a8F,Zu):=g1;erw[_,(aB (bN (PW.pt (j6 (dv (cL (ow K B (ak (pv 0) (ak (oq (x:="tuple") (v:=.ty "tuple") Z (B.at "tuple") jd rfl) ay))))) (jB (bS (a4D K rfl) (dZ K B (ak (pv 0) ay)) (fz (x:="AXES") rfl a8F) (by with_unfolding_all rfl))))) (aI (aV jC)) bQ) (aI (aV (fg (x:="all") (xM K Z Z) Z (B.at "all") AX (ak (fA (N:=["rail"]) (js:=[none]) rfl rfl rfl (kH K rfl (pv 0)) (λ_ _ _ _ _=>(bh 0 (jk _))) (λ_ _ _ _ _=>dM) (λ_ _ _ _ _=>(pf j7 hr (ak (pv 0) (ak az (ak (fz (x:="LONGEST_RAIL") rfl a8x) ay)))))) ay))))),?_];rcases yD d with⟨ds,rfl⟩|⟨ht,hn⟩
  ·erw[_,Z,.inl #[_,_,"tuple",true,Z,rd.ty,aw,rj,_,Z,bf ?_]]
   let(p,xs,rfl,hx,hd):=rd.cS;have hl:=hd.length;erw[_,Z,p,_,Z,.inr hx,aX,_,Z,.inr (Zu H),Z,Z,_,Z,?_];have k:∀H',aE H H'->Q (.bl ((ds.length==2||ds.length==3)&&ds.all (da 1 100))) H':=k;show if(!CU (.int xs.length) [.int 2,.int 3])=true then _ else _;rw[a6J,hl];cases La:(ds.length==2||ds.length==3)with |false=>rw[La,jw]at k;erw[bE (k H (aE.refl _))] |true=>
    rw[La,jv]at k;erw[bf ?_];have l3:ds.length<=3:=by rw[Bool.or_eq_true,gc,gc]at La;lia
    erw[_,Z,p,Z,#[_,hx],λD H0 nw=>?_];erw[E5 (xs:=xs) (bs:=ds.map (da 1 100)) [] hx nw (by rw[bV,hl]) ao ?_ ?_]
    ·intro i x b H2 Q' ex eb s2 hq
     let(d,ed,rfl):=CH eb;let(x',fX,rx):=hd.get i ed;rw[ex]at fX;cases fX;erw[_,Z,_,d,1,100,Z,RD.mono s2 _ rx,hq _ (aE.refl _)]
    ·intro H2 s2 d2
     erw[D,_,Z,aD.of d2,?_];rw[all_map];erw[k H2 s2]
  ·have e:sD d=false:=by cases d<;>first|rfl|erw[absurd rfl (hn _)]
   rw[e]at k;erw[_,Z,.inl #[_,_,"tuple",false,Z,rd.ty,aw,ht,_,Z,bE ?_]];erw[k H (aE.refl _)]
theorem a5p(d:ag):(∃r a b c t,d= .tuple [r,a,b,c,t])\/(∃ds,d= .tuple ds/\ds.length≠5/\mh d=false)\/(jU (mJ d) "tuple"=false/\mh d=false):=by
 rcases yD d with⟨ds,rfl⟩|⟨ht,hn⟩
 ·match ds with |[r,a,b,c,t]=>erw[.inl #[r,a,b,c,t,Z]] |[]=>erw[.inr (.inl #[_,Z,by simp,by simp[mh]])] |[_]=>erw[.inr (.inl #[_,Z,by simp,by simp[mh]])] |[_,_]=>erw[.inr (.inl #[_,Z,by simp,by simp[mh]])] |[_,_,_]=>erw[.inr (.inl #[_,Z,by simp,by simp[mh]])] |[_,_,_,_]=>erw[.inr (.inl #[_,Z,by simp,by simp[mh]])] |_::_::_::_::_::_::_=>erw[.inr (.inl #[_,Z,by simp,by simp[mh]])]
 ·erw[.inr (.inr #[ht,by cases d<;>first|rfl|erw[absurd rfl (hn _)]])]
theorem Qe:bu ["thing","rails","rise","fall","jump","ticks"] ["thing"] (aW GX):=bF aG
theorem a3K(F:FA K mg "is_machine" GX)(B:bK mg)(a8u:GV mg "MOST_TICKS" (.int 100))(a8C:GV mg "GREATEST_CHANGE" (.int 50))(j7:aF P w K mg au "is_whole_within" 2 (mO K))(a8m:aF P w K mg au "are_rails" 3 (yS sD K)):aF P w K mg au "is_machine" 4 (yS mh K):=by
 exists F.has,Qe,dc λ_=>rfl
 ·let(v,d,rfl,rd,k):=h
  have nd:=Qe.nd;erw[_,(aB (bN (PW.pt (j6 (dv (cL (ow K B (ak (pv 0) (ak (oq (x:="tuple") (v:=.ty "tuple") Z (B.at "tuple") jd rfl) ay))))) (jB (bS (mW K rfl hr.units) (dZ K B (ak (pv 0) ay)) az (bA _))))) (aI (aV jC)) bQ) (aB (fu (pv 0) (eM K Z (n:=5) Z (bU (bh 1 nd) (bU (bh 2 nd) (bU (bh 3 nd) (bU (bh 4 nd) (bU (bh 5 nd) eK))))))) (aB (bN (PW.pt (j6 (dv (cL (pf a8m hr (ak (pv 1) ay)))) (jB (dv (cL (pf j7 hr (ak (pv 5) (ak az (ak (fz (x:="MOST_TICKS") Z a8u) ay))))))))) (aI (aV jC)) bQ) (aI (aV (fg (x:="all") (xM K Z Z) Z (B.at "all") AX (ak (fA (N:=["change"]) (js:=[none]) rfl rfl rfl (kH K rfl (ip (ak (pv 2) (ak (pv 3) (ak (pv 4) ay))))) (λ_ _ _ _ _=>(bh 0 (jk _))) (λ_ _ _ _ _=>dM) (λ_ _ _ _ _=>(pf j7 hr (ak (pv 0) (ak az (ak (fz (x:="GREATEST_CHANGE") rfl a8C) ay)))))) ay))))))),?_];rcases a5p d with⟨r,a,b,c,t,rfl⟩|⟨ds,rfl,hl,hf⟩|⟨ht,hf⟩
  ·erw[_,Z,.inl #[_,_,"tuple",true,Z,rd.ty,aw,rj,_,Z,bf ?_]]
   let(p,xs,rfl,hx,hd):=rd.cS;let(u1,ys,rfl,r1,hd):=hd.cons_inv;let(u2,ys,rfl,r2,hd):=hd.cons_inv;let(u3,ys,rfl,r3,hd):=hd.cons_inv;let(u4,ys,rfl,r4,hd):=hd.cons_inv;let(u5,ys,rfl,r5,hd):=hd.cons_inv;cases hd.nil_inv;have k:∀H',aE H H'->Q (.bl (sD r&&da 1 100 t&&[a,b,c].all (da 1 50))) H':=k;erw[_,Z,p,_,Z,.inr hx,.inl #[_,_,Z,Z,_,Z,bf ?_]];erw[_,Z,p,_,Z,hx,Z,_,_,Z,_,_,Z,_,_,Z,_,_,Z,_,_,Z,Z,?_];erw[_,Z,_,r,Z,r1,λH1 s1=>#[_,Z,?_]];cases e1:sD r with |false=>rw[e1,jw,jw]at k;erw[bE (k H1 s1)] |true=>rw[e1,jv]at k;erw[bf ?_];erw[_,Z,_,t,1,100,Z,RD.mono s1 _ r5,_,Z,?_];cases e2:da 1 100 t with |false=>rw[e2,jw]at k;erw[bE (k H1 s1)] |true=>
    rw[e2,jv]at k;erw[bf ?_];erw[_,Z,_,Z,_,Z,cW Z,λq H2 nq=>?_];have s2:=s1.trans nq.same;erw[q,Z,#[_,bc.of nq.at'],λD H0 nw=>?_];have hd3:aO K H2 [u2,u3,u4] [a,b,c]:=cO (RD.mono s2 _ r2) (cO (RD.mono s2 _ r3) (cO (RD.mono s2 _ r4) dJ));erw[E5 (xs:=[u2,u3,u4]) (bs:=[a,b,c].map (da 1 50)) [] (bc.of nq.at') nw Z (Ez Z) ?_ ?_]
    ·intro i x b' H3 Q' ex eb s3 hq
     let(d,ed,rfl):=CH eb;let(x',fX,rx):=hd3.get i ed;rw[ex]at fX;cases fX;erw[_,Z,_,d,1,50,Z,RD.mono s3 _ rx,hq _ (aE.refl _)]
    ·intro H3 s3 d3
     erw[D,_,Z,aD.of d3,?_];rw[all_map];erw[k H3 (s2.trans s3)]
  ·rw[hf]at k
   erw[_,Z,.inl #[_,_,"tuple",true,Z,rd.ty,aw,rj,_,Z,bf ?_]];let(p,xs,rfl,hx,hd):=rd.cS;erw[_,Z,p,_,Z,.inr hx,.inl #[_,_,Z,Z,_,Z,?_]];have e:(!decide ((xs.length:Int)=5))=true:=by rw[hd.length];simp;lia
   rw[e];erw[bE (k H (aE.refl _))]
  ·rw[hf]at k
   erw[_,Z,.inl #[_,_,"tuple",false,Z,rd.ty,aw,ht,_,Z,bE ?_]];erw[k H (aE.refl _)]
end
end _a
namespace _a
open PySem PySem.Spec PyProof.Rows _L _r _l _C _P _W _R
open _O (topR cornO mnO betR atO ownF leadF ownL OkI OkIs)
section
inductive ae8(K:aa)(C:Addr)(R:iU)(vs:List V)(H:Hp)(Q:VK)(E:XK):Prop |mk (a:_)(q:_)(M:_)(D:_)(S:_)(v:_)(d:_)(o:_)(h0:vs=[.ref a,v])(h1:cc K C H a q M S)(h2:cF M D S)(h3:M.Ok)(h4:RD K H v d)(h5:lS M.rs.length d o)(h6:fM M.rs (gO (fE S) o))(h7:(S.ds.length=20->∀H',aE H H'->E (.ref R.f) none H'))(h8:(S.ds.length<20->∀H',cc K C H' a q M (nM S d o)->bR [a,q] H H'->Q (.int (S.ds.length+1:Nat)) H'))
def Fj(K:aa)(C:Addr)(R:iU):Sp:=λvs H Q E=>ae8 K C R vs H Q E
theorem a3b(F:MA K C "feed" "Runner.feed" Gi)(TC:fm K C)(B:bK mg)(a99:Exc K mg "Full" R.f jM lH)(a8t:GV mg "MOST_WAITING" (.int 20))(K9:aF P w K mg au "is_item" 4 (BQ K))(zU:aF P w K mg au "is_place" 3 (yR K))(zM:aF P w K mg au "place_behind" 2 (yT K))(Kn:cQ P w K mg au C "leads_to" 3 (gT K C λ_ S H Q=>∀v H',RD K H' v (eV (fE S))->aE H H'->Q v H')):hU P w K mg au C "feed" 5 (Fj K C R):=by
 erw[F.sM Pr (λvs H Q E h=>?_) (λ_ _ _ _ _ _=>dN λ_ _=>rfl) (λf aH A outer s H vs Q E hr h=>?_)]
 ·let(a,q,M,D,S,v,d,o,rfl,_):=h
  rfl
 ·let(a,q,M,D,S,v,d,o,rfl,Ra,ok,aL,rd,it,gD,kf,kd):=h
  let(i1,i2,i3):=it.is;let(dx,mv,bv,cA,tv,e,r1,r2,r3,r4):=Ra.ob;let(ys,eq,rq):=Ra.qu;have nd:=Pr.nd;have lr:=aL.len;have ly:=rq.length;erw[_,(aB (bN (dv (cL (pf K9 hr (ak (cK TC.cl TC.m9 (pv 0)) (ak (pv 1) ay))))) (aI wz) bQ) (aB (bN (dv (cL (pf zU hr (ak (cK TC.cl TC.m9 (pv 0)) (ak (pf zM hr (ak (iK Kn TC.cl (hr.mono aw) (pv 0)) (ak (pv 1) ay))) ay))))) (aI wz) bQ) (aB (bN (bS wF (dZ K B (ak (cK TC.cl TC.jl (pv 0)) ay)) (fz (x:="MOST_WAITING") rfl a8t) (bA _)) (aI (Cc (λ_ _ _ _ _ _ _ I m q=>Bj I m q) a99 My hr.hd Z (ak ba ay))) bQ) (aB (kG (ou K Z (cK TC.cl TC.jl (pv 0)) (ak (pv 1) ay))) (aI (aV (dZ K B (ak (cK TC.cl TC.jl (pv 0)) ay)))))))),?_];erw[_,Z,a,dx,_,_,Z,e,Z,_,Z,mv,v,M.rs,_,d,Z,r1,rd,ao,i2,i3,λH1 s1=>#[_,Z,?_]];rw[i1];erw[bf ?_];have e1:=s1 _ _ e;have R1:=Ra.same ok.row.no s1;erw[_,Z,a,dx,_,_,Z,e1,Z,?_];erw[_,Z,a,dx,_,Z,e1,Z,a,q,M,D,S,Z,R1,ok,aL,λg H2 rg s2=>?_];have jA:=s1.trans s2;have gl:(fE S).length=M.rs.length:=xy _ _ ok.pl ok.oB;have bl:(gO (fE S) o).length=M.rs.length:=LH gl λns sp eo=>(it.ln ns sp eo).1.len;erw[_,Z,g,v,fE S,d,o,Z,rg,RD.mono jA _ rd,it.it,λns sp e'=>by rw[gl];exact(it.ln ns sp e').1.len,ao,λu H3 ru s3=>?_];have jz:=jA.trans s3;erw[mv,u,M.rs,_,_,Z,RD.mono jz _ r1,ru,ao,λH4 s4=>#[_,Z,?_]];rw[IH gD];erw[bf ?_];have jY:=jz.trans s4;have e4:=jY _ _ e;have eq4:=jY _ _ eq;erw[_,Z,a,dx,_,_,Z,e4,Z,q,_,Z,.inl (aD.of eq4),_,_,Z,Z,_,Z,?_];by_cases A8:S.ds.length=20
  ·rw[show decide ((ys.length:Int)>=20)=true from bM ao]
   erw[bE #[cW Z,kf A8 _ jY]]
  have Jz:=ok.len;rw[show decide ((ys.length:Int)>=20)=false from cG ao];erw[bf ?_];have iA:sizeLine=16777216:=by decide
  erw[_,Z,a,dx,_,_,Z,e4,Z,.inl #[Z,_,aD.of eq4],_,Z,q,ys,_,Z,Z,eq4,ao,?_];have aq:=Ra.ne;have tu:cB H4 (_L.upd H4 q (.lst (ys++[v]))):=.upd eq4 trivial;have e5:(_L.upd H4 q (.lst (ys++[v]))) a=some (.ins C dx (fH mv bv (.int S.dn) (.ref q) cA (.int S.aA) (.str S.side) (.str S.mark) tv)):=by rw[aQ aq];erw[e4]
  erw[_,Z,a,dx,_,_,Z,e5,Z,q,_,Z,.inl (aD.of bP),?_];have sv:cB H (_L.upd H4 q (.lst (ys++[v]))):=jY.v.trans tu;have el:((ys++[v]).length:Int)=((S.ds.length+1:Nat):Int):=by rw[eP,ly];rfl
  rw[el];erw[kd ao _ #[#[dx,mv,bv,cA,tv,e5,RD.v sv _ (gF _ _ _ _ _) r1,RD.v sv _ (jZ _) r2,r3.v sv,r4.v sv],_,bP,?_] λb o' eb hb=>?_]
  ·exact(aO.v sv _ ok.row.no rq).append (cO (RD.v sv _ it.it.no rd) dJ)
  ·have uZ:b≠q:=λz=>hb (by rw[z];simp)
   rw[aQ uZ];erw[jY _ _ eb]
end
end _a
set_option maxHeartbeats 2000000
namespace _a
open PySem PySem.Spec PyProof.Rows _L _r _l _C _P _W _R
open _O (topR cornO mnO betR atO ownF leadF ownL OkI OkIs)
open _T (numS numIn? Free)
section
def jQ(K:aa)(D:Addr)(H:Hp)(a r:Addr)(M:aY):Prop:=∃dx mv,H a=some (.ins D dx [("machine",mv),("runner",.ref r)])/\RD K H mv M.D
theorem a5n{f t:Int}(h:qL rs r f j t):mh (jF rs r f j t)=true:=by
 show(sD (.tuple (rs.map PyData.int))&&da 1 100 (.int t)&&[PyData.int r,.int f,.int j].all (da 1 50))=true;have h1:sD (.tuple (rs.map PyData.int))=true:=by show(((rs.map PyData.int).length==2||(rs.map PyData.int).length==3)&&(rs.map PyData.int).all (da 1 100))=true;rw[bV,fb,Bool.or_eq_true,gc,gc];erw[h.len,gQ.mpr λd hd=>?_];let(z,hz,rfl):=dC.mp hd;have:=h.rl z hz;show(decide (1<=z)&&decide (z<=100))=true;rw[bM this.1,bM this.2];rfl
 have q:∀{lo hi z:Int},lo<=z/\z<=hi->da lo hi (.int z)=true:=λ{lo hi z} h=>by show(decide (lo<=z)&&decide (z<=hi))=true;rw[bM h.1,bM h.2];rfl
 rw[h1,q h.t1];show(da 1 50 (.int r)&&(da 1 50 (.int f)&&(da 1 50 (.int j)&&true)))=true;rw[q h.r1,q h.f1,q h.j1];rfl
theorem Qo:bu ["self","machine","place"] ["self","machine","place"] (aW Hj):=bF aG
inductive aeP(K:aa)(C:Addr)(D:Addr)(vs:List V)(H:Hp)(Q:VK):Prop |mk (a:_)(dx:_)(mv:_)(kF:_)(M:_)(pl:_)(h0:vs=[.ref a,mv,kF])(h1:H a=some (.ins D dx []))(h2:RD K H mv (aY.D M))(h3:RD K H kF (eV pl))(h4:M.Ok)(h5:fM M.rs pl)(h6:∀r q H',jQ K D H' a r M->cc K C H' r q M (oh pl)->H r=none->H q=none->bR [a] H H'->Q .bD H')
def OA(K:aa)(C D:Addr):Sp:=λvs H Q _=>aeP K C D vs H Q
theorem a3U{D:Addr}(F:CA K mg D "Desk" "Desk.__init__" Hj)(TC:lU K D)(a7J:aF P w K mg au "is_machine" 4 (yS mh K))(zU:aF P w K mg au "is_place" 3 (yR K))(a8I:xS P w K mg au C "Runner" 1 (O8 K C)):xS P w K mg au D "Desk" 5 (OA K C D):=by
 exists F.has,Qo,lQ λ_ _ _=>rfl
 ·let(a,dx,mv,kF,M,pl,rfl,e,rm,rp,aL,gD,k):=h
  have nd:=Qo.nd;have lr:=aL.len;erw[_,(aB (bN (dv (cL (pf a7J hr (ak (pv 1) ay)))) pP bQ) (aB (bN (dv (cL (pf zU hr (ak (pv 1) (ak (pv 2) ay))))) pP bQ) (aB (gd TC.cl TC.m9 (pv 0) (pv 1)) (aI (gd TC.cl TC.rY (pv 0) (Iz a8I (hr.mono aw) rfl (ak (pv 1) (ak (pv 2) ay)))))))),?_];erw[_,Z,mv,_,Z,rm,λH1 s1=>#[_,Z,?_]];rw[a5n aL];erw[bf ?_];erw[_,Z,_,Z,mv,kF,M.rs,_,_,Z,RD.mono s1 _ rm,RD.mono s1 _ rp,ao,λH2 s2=>#[_,Z,?_]];rw[IH gD];erw[bf ?_];have jA:=s1.trans s2;have e2:=jA _ _ e;erw[_,Z,_,Z,a,dx,_,Z,e2,aw,?_];have v2:cB H (_L.upd H2 a (.ins D dx [("machine",mv)])):=jA.v.trans (.upd e2 trivial);erw[_,Z,_,Z,λr rx ml JS ne=>?_];have ar:a≠r:=λz=>by rw[<-z,bP]at ml;cases ml
  have Wn:a≠rx:=λz=>by rw[<-z,bP]at JS;cases JS
  have s3:aE (_L.upd H2 a (.ins D dx [("machine",mv)])) (_L.upd (_L.upd (_L.upd H2 a (.ins D dx [("machine",mv)])) rx (.own r)) r (.ins C rx [])):=(aE.new JS).trans (aE.new (by rw[aQ ne.symm];erw[ml]));have v3:=v2.trans s3.v;erw[r,rx,mv,kF,M,pl,Z,bP,RD.v v3 _ (gF _ _ _ _ _) rm,RD.v v3 _ (jZ _) rp,λq H3 R3 nq bt=>#[Z,?_]];have nr:H r=none:=by cases e':H r with |none=>rfl |some o=>rw[aQ ar.symm,jA _ _ e']at ml;cases ml
  have Sa:q≠a:=λz=>by rw[z,aQ ar,aQ Wn,bP]at nq;cases nq
  have nqH:H q=none:=by cases e':H q with |none=>rfl |some o=>
   have h1:(_L.upd H2 a (.ins D dx [("machine",mv)])) q=some o:=by rw[aQ Sa];erw[jA _ _ e']
   cases(s3 _ _ h1).symm.trans nq
  have e3:=bt a _ (by rw[aQ ar,aQ Wn];erw[bP]) (λz=>ar (cn.mp z));erw[_,Z,a,dx,_,Z,e3,by show 1<1000;decide,?_];have v4:cB H3 (_L.upd H3 a (.ins D dx [("machine",mv),("runner",.ref r)])):=.upd e3 trivial;have bH:bR [a] H (_L.upd H3 a (.ins D dx [("machine",mv),("runner",.ref r)])):=λb o eb hb=>by
   have ha:b≠a:=λz=>hb (by rw[z];erw[.head _]);have hbr:b≠r:=λz=>by rw[z,nr]at eb;cases eb
   rw[aQ ha];erw[bt b o (s3 _ _ (by rw[aQ ha];erw[jA _ _ eb])) (λz=>hbr (cn.mp z))]
  have vH:=bH.v λx hx o eo=>by rw[cn]at hx;rw[hx,e]at eo;cases eo;trivial
  erw[k r q _ #[dx,mv,bP,RD.v vH _ (gF _ _ _ _ _) rm] ?_ nr nqH bH];erw[R3.go Z v4 (λo eo=>by rw[aQ ar.symm];erw[eo]) (λo eo=>by rw[aQ Sa];erw[eo])]
inductive aeh(K:aa)(vs:List V)(H:Hp)(Q:VK):Prop |mk (l:Addr)(z:Str)(h0:vs=[.ref l])(h1:aD K H l [.str z])(h2:z.length<=640)(h3:∀H',aE H H'->Q (oV (numIn? z)) H')
def Fp(K:aa):Sp:=λvs H Q _=>aeh K vs H Q
theorem PF:bu ["words"] ["words"] (aW Gs):=bF aG
theorem a3m(F:FA K mg "only_number" Gs)(B:bK mg)(zP:aF P w K mg au "number_in" 2 yO):aF P w K mg au "only_number" 4 (Fp K):=by
 exists F.has,PF,dc λ_=>rfl
 ·let(l,z,rfl,hl,zl,k):=h
  have nd:=PF.nd;erw[_,(aI (aV (ka (bS (dQ K Z hr.units) (dZ K B (ak (pv 0) ay)) az (bA _)) (pf zP hr (ak (px K (pv 0) az) ay)) gU))),?_];erw[_,Z,l,_,Z,.inl hl,.inl #[_,_,Z,Z,_,Z,bE ?_]];erw[_,Z,.inl #[l,_,0,.str z,Z,Z,hl,Z,z,Z,zl,k]]
theorem Mv.same(m:Mv a q H q' H')(s:aE H' H2):Mv a q H q' H2:=#[λb o e hb=>s _ _ (m.but b o e hb),m.nq]
theorem Mv.ahead(s:aE H H')(m:Mv a q H' q' H2):Mv a q H q' H2:=#[λb o e hb=>m.but b o (s _ _ e) hb,m.nq.imp id λe=>by cases h:H q' with |none=>rfl |some o=>rw[s _ _ h]at e;cases e]
theorem L7{d:ag}(h:Ef d):(iC d).length<=2000:=by
 rcases h with⟨ti,hn⟩|⟨ns,t,a,b,rfl,hl,hn,ht,ha,hb⟩
 ·rw[DS ti hn]
  have:=JF ti
  lia
 ·rw[DR]
  have Dz:=uH hn hl;have xt:=rP ht;have UI:=DF ha hb;have Aa:=fG;have h5:Str.length "step "=5:=by decide+kernel
  simp only[df]
  lia
def nN(es:List ag):Str:=Cw (Txt.join "\n" (es.map iC))
theorem S7{n:Int}(h:Nm n):oV (numIn? (numS n))=V.int n:=by rw[_T.zq (by have:=gf h;lia)];rfl
def Wz(K:aa)(C r q:Addr)(M:aY)(S:aU)(n:Int)(H:Hp)(Q:VK):Prop:=∀es S' q' H',Run M S es S'->(es.length:Int)<=n->((es.length:Int)=n\/S'.os=[]\/Halt S'.pc S'.aR)->cc K C H' r q' M S'->Mv r q H q' H'->Q (.str (nN es)) H'
theorem P6:bu ["self","words","number"] ["self","words"] (aW FW):=bF aG
inductive adV(K:aa)(C:Addr)(D:Addr)(vs:List V)(H:Hp)(Q:VK):Prop |mk (a:_)(r:_)(q:_)(M:_)(D':_)(S:_)(l:_)(n:_)(h0:vs=[.ref a,.ref l])(h1:jQ K D H a r M)(h2:cc K C H r q M S)(h3:RG M D' S)(h4:aD K H l [.str (numS n)])(h5:0<=n)(h6:n<=100)(h7:Wz K C r q M S n H Q)
def O1(K:aa)(C D:Addr):Sp:=λvs H Q _=>adV K C D vs H Q
theorem a2L{D:Addr}(F:MA K D "say_steps" "Desk.say_steps" FW)(TC:lU K D)(RC:fm K C)(B:bK mg)(a8v:GV mg "MOST_ENTRIES" (.int 100))(a8s:GV mg "NOTHING" (.str "none"))(JW:aF P w K mg au "only_number" 4 (Fp K))(j7:aF P w K mg au "is_whole_within" 2 (mO K))(a79:aF P w K mg au "show_entry" 4 (Ox K))(a8Q:cQ P w K mg au C "entries" 12 (Ob K C)):cQ P w K mg au D "say_steps" 13 (O1 K C D):=by
 exists F.has,P6,dN λ_ _=>rfl
 ·let(a,r,q,M,D',S,l,n,rfl,(dx,mv,ea,rm),Ra,g,hl,n0,n1,k):=h
  have nd:=P6.nd;have nm:Nm n:=by show n.natAbs<10^40;lia
  erw[_,(aB (pS 2 nd (pf JW hr (ak (pv 1) ay))) (aB (bN (dv (cL (pf j7 hr (ak (pv 2) (ak az (ak (fz (x:="MOST_ENTRIES") Z a8v) ay)))))) pP bQ) (aI (aV (a1N (wC K Z ba (ak (fA (N:=["entry"]) (js:=[none]) Z Z Z (oo K Z (kJ a8Q RC.cl (hr.mono aw) (cK TC.cl TC.rY (pv 0)) (ak (pv 2) ay))) (λ_ _ _ _ _=>(bh 0 (jk _))) (λ_ _ _ _ _=>dM) (λ_ _ _ _ _=>(pf a79 hr (ak (pv 0) ay)))) ay)) (mU (fz (x:="NOTHING") rfl a8s))))))),?_];erw[_,Z,l,_,Z,hl,by have:=gf nm;lia,λH1 s1=>?_];rw[S7 nm];erw[_,Z,.int n,.int n,0,100,Z,fJ _,_,Z,?_];rw[show da 0 100 (.int n)=true by show(decide (0<=n)&&decide (n<=100))=true;rw[bM n0,bM n1];rfl];erw[bf ?_];let(rx,pM,Ib,HP,HM,er,_):=Ra.ob;erw[Z,?_];erw[_,Z,a,dx,_,_,Z,s1 _ _ ea,Z,r,rx,_,Z,s1 _ _ er,Z,_,Z,r,q,M,D',S,n,Z,Ra.same g.ok.row.no s1,g.ok,g.aL,n0,ao,λle ys es S' q' H2 nl dl rd run he ny R2 Jc lq=>?_];have ly:=rd.length;have te:=run.yF g.ok g.aL g.hD;erw[le,Z,#[_,aD.of dl],λD2 H4 n4=>?_];erw[E4 (K:=K) (ds:=(es.map iC).map PyData.str) _ (aD.of dl) n4 (by simp;erw[ly]) ao (zu _) ?_ ?_]
  ·intro i x d H5 Q' ex ed s5 hq
   let(d',mE,rx):=rd.get' i ex;rw[cv,cv,mE]at ed;cases ed;erw[_,Z,x,d',Z,RD.mono s5 _ rx,te d' (fO mE),λH6 s6=>hq _ _ s6 (bT _)]
  ·intro H5 ws s5 d5 r5
   rw[u7 r5]at d5;erw["\n",D2,es.map iC,Z,Z,aD.of d5,λz hz=>?_,aG,by rw[bV];lia,?_]
   ·let(d,hd,rfl):=dC.mp hz
    have:=L7 (te d hd)
    lia
   have hj:=CO "\n" (B:=2000) (es.map iC) (λz hz=>by let(d,hd,rfl):=dC.mp hz;erw[L7 (te d hd)]);have n1:Str.length "\n"=1:=by decide+kernel
   rw[n1,bV]at hj;have qp:es.length*(2000+1)<=100*2001:=Xd _ ao;have k2:=k es S' q' H5 run he ny (R2.same (run.ok g.ok g.aL).row.no s5) (Mv.ahead s1 (Jc.same s5));unfold nN Cw at k2;erw[_,Z,ao,?_];split
   ·next e0=>rw[bo e0]at k2;erw[k2]
   ·next e0=>rw[bj e0]at k2;erw[k2]
def WB(K:aa)(C cR cM r q:Addr)(M:aY)(S:aU)(n:Int)(H:Hp)(Q:VK)(E:XK):Prop:=(om (.int n)=false->∀H',aE H H'->E (.ref cR) none H')/\(om (.int n)=true->S.pc≠0->∀H',aE H H'->E (.ref cM) none H')/\(10<=n->n<=200->S.pc=0->∀H',cc K C H' r q M {S with aA:=n}->bR [r] H H'->Q (.str (numS n)) H')
theorem P7:bu ["self","words","number"] ["self","words"] (aW FX):=bF aG
inductive adW(K:aa)(C:Addr)(D:Addr)(cR:Addr)(cM:Addr)(vs:List V)(H:Hp)(Q:VK)(E:XK):Prop |mk (a:_)(r:_)(q:_)(M:_)(D':_)(S:_)(l:_)(n:_)(h0:vs=[.ref a,.ref l])(h1:jQ K D H a r M)(h2:cc K C H r q M S)(h3:RG M D' S)(h4:aD K H l [.str (numS n)])(h5:Nm n)(h6:WB K C cR cM r q M S n H Q E)
def O2(K:aa)(C D cR cM:Addr):Sp:=λvs H Q E=>adW K C D cR cM vs H Q E
theorem a2M{D:Addr}(F:MA K D "say_rate" "Desk.say_rate" FX)(TC:lU K D)(RC:fm K C)(B:bK mg)(gK:aF P w K mg au "show_number" 1 m5)(JW:aF P w K mg au "only_number" 4 (Fp K))(a8J:hU P w K mg au C "turn_rate" 5 (O5 K C cR cM)):hU P w K mg au D "say_rate" 6 (O2 K C D cR cM):=by
 erw[F.sM P7 (λvs H Q E h=>?_) (λ_ _ _ _ _ _=>dN λ_ _=>rfl) (λf0 aH A outer s H vs Q E hr h=>?_)]
 ·let(a,r,q,M,D',S,l,n,rfl,_):=h
  rfl
 ·let(a,r,q,M,D',S,l,n,rfl,(dx,mv,ea,rm),Ra,g,hl,nm,k1,k2,k3):=h
  have nd:=P7.nd;erw[_,(aB (pS 2 nd (pf JW hr (ak (pv 1) ay))) (aB (bN (bS Cm (pv 2) gU (bA _)) pP bQ) (aI (aV (pf gK hr (ak (zj a8J (uD λ_ _ _ z=>z) RC.cl (hr.mono aw) (cK TC.cl TC.rY (pv 0)) (ak (pv 2) ay)) ay)))))),?_];erw[_,Z,l,_,Z,hl,by have:=gf nm;lia,λH1 s1=>?_];rw[S7 nm];erw[_,Z,Z,_,Z,bf ?_];let(rx,pM,Ib,HP,HM,er,_):=Ra.ob;erw[_,Z,a,dx,_,_,Z,s1 _ _ ea,Z,r,rx,_,Z,s1 _ _ er,Z,_,Z,r,q,M,D',S,.int n,.int n,Z,Ra.same g.ok.row.no s1,g.ok,g.aL,fJ _,λh H' s'=>k1 h H' (s1.trans s'),λh hp H' s'=>k2 h hp H' (s1.trans s'),λaA e h1 h2 hp H' R' b'=>?_];cases e;erw[n,Z,nm.l,λH2 s2=>k3 h1 h2 hp H2 (R'.same g.ok.row.no s2) λb o eb hb=>s2 _ _ (b' b o (s1 _ _ eb) hb)]
def pE(a b:List Int):List Int:=(a.zip b).map λp=>p.1-p.2
def vD(K:aa)(C:Addr)(R:iU)(a q:Addr)(M:aY)(S:aU)(d:ag)(o:Itm)(H:Hp)(Q:VK)(E:XK):Prop:=lS M.rs.length d o/\fM M.rs (gO (fE S) o)/\(S.ds.length=20->∀H',aE H H'->E (.ref R.f) none H')/\(S.ds.length<20->∀H',cc K C H' a q M (nM S d o)->bR [a,q] H H'->Q (.str (numS (S.ds.length+1:Nat))) H')
theorem vD.go{d:ag}(h:vD K C R a q M S d o H Q E)(s:aE H H1):vD K C R a q M S d o H1 Q E:=by let(h1,h2,h3,h4):=h;erw[h1,h2,λa2 H' s'=>h3 a2 H' (s.trans s'),λa2 H' R' b'=>h4 a2 H' R' λb o' eb hb=>b' b o' (s b o' eb) hb]
theorem S8{n:Nat}(h:n<=20):AJ ((n+1:Nat):Int):=Nm.l (show((n+1:Nat):Int).natAbs<10^40 by omega)
def toS(ns:List Int)(sp:Int):Str:=Txt.join " " ("to"::(ns.map numS++[numS sp]))
theorem a4m{ns:List Int}(h:∀n∈ns,Nm n):(ns.map numS).map (λz=>oV (numIn? z))=ns.map V.int:=by rw[EB];erw[List.map_congr_left λn hn=>?_];show oV (numIn? (numS n))=_;rw[_T.zq (by have:=gf (h n hn);lia)];rfl
theorem P4:bu ["self","words","numbers","place","steps"] ["self","words"] (aW FU):=bF aG
inductive adT(K:aa)(C:Addr)(D:Addr)(R:iU)(vs:List V)(H:Hp)(Q:VK)(E:XK):Prop |mk (a:_)(r:_)(q:_)(M:_)(D':_)(S:_)(l:_)(ns:_)(sp:_)(h0:vs=[.ref a,.ref l])(h1:jQ K D H a r M)(h2:cc K C H r q M S)(h3:cF M D' S)(h4:M.Ok)(h5:aD K H l ((ns.map numS++[numS sp]).map V.str))(h6:fM M.rs ns)(h7:1<=sp)(h8:sp<=20)(h9:∃o,vD K C R r q M S (du (pE ns (fE S)) sp) o H Q E)
def O0(K:aa)(C D:Addr)(R:iU):Sp:=λvs H Q E=>adT K C D R vs H Q E
theorem a2H{D:Addr}(F:MA K D "say_to" "Desk.say_to" FU)(TC:lU K D)(RC:fm K C)(B:bK mg)(gK:aF P w K mg au "show_number" 1 m5)(Kj:GV mg "GREATEST_SPEED" (.int 20))(JY:aF P w K mg au "numbers_in" 3 (BM K))(zU:aF P w K mg au "is_place" 3 (yR K))(j7:aF P w K mg au "is_whole_within" 2 (mO K))(Kn:cQ P w K mg au C "leads_to" 3 (gT K C λ_ S H Q=>∀v H',RD K H' v (eV (fE S))->aE H H'->Q v H'))(Ko:hU P w K mg au C "feed" 5 (Fj K C R)):hU P w K mg au D "say_to" 6 (O0 K C D R):=by
 erw[F.sM P4 (λvs H Q E h=>?_) (λ_ _ _ _ _ _=>dN λ_ _=>rfl) (λf0 aH A outer s H vs Q E hr h=>?_)]
 ·let(a,r,q,M,D',S,l,ns,sp,rfl,_):=h
  rfl
 ·let(a,r,q,M,D',S,l,ns,sp,rfl,(dx,mv,ea,rm),Ra,ok,aL,hl,gD,fG,jW,o,fe):=h
  have nd:=P4.nd;have lr:=aL.len;have ln:=gD.len;have nb:=Co gD aL.rl;have nm:∀n∈ns,Nm n:=λn hn=>by have:=nb n hn;show n.natAbs<10^40;lia
  have sm:Nm sp:=by show sp.natAbs<10^40;lia
  erw[_,(aB (pS 2 nd (pf JY hr (ak (pv 1) ay))) (aB (pS 3 nd (cZ (x:="tuple") (kB K Z) Z (B.at "tuple") jd (ak (uA (ug K rfl) (pv 2) wA (rL (kI kA az))) ay))) (aB (bN (PW.pt (j6 (dv (cL (pf zU hr (ak (cK TC.cl TC.m9 (pv 0)) (ak (pv 3) ay))))) (jB (dv (cL (pf j7 hr (ak (px K (pv 2) (kI kA az)) (ak az (ak (fz (x:="GREATEST_SPEED") rfl Kj) ay))))))))) pP bQ) (aB (pS 4 nd (cZ (x:="tuple") (kB K Z) Z (B.at "tuple") jd (ak (fA (N:=["number","begun"]) (js:=[none,none]) rfl rfl rfl (m7 K rfl false false rfl (B.at "zip") (ak (pv 3) (ak (iK Kn RC.cl (hr.mono aw) (cK TC.cl TC.rY (pv 0))) ay))) (λ_ _ _ _ _=>(eM K rfl (n:=2) rfl (bU (bh 0 (gj aw)) (bU (bh 1 (gj aw)) eK)))) (λ_ _ _ _ _=>dM) (λ_ _ _ _ _=>(aP iM (pv 0) (pv 1)))) ay))) (aI (aV (pf gK hr (ak (zj Ko (uD λ_ _ _ z=>z) RC.cl (hr.mono aw) (cK TC.cl TC.rY (pv 0)) (ak (ip (ak ba (ak (pv 4) (ak (px K (pv 2) (kI kA az)) ay)))) ay)) ay)))))))),?_];erw[_,Z,l,_,Z,hl,by simp;lia,λz hz=>?_,λp H1 s1 np d1=>?_]
  ·rcases iI.mp hz with hz|hz
   ·let(n,hn,rfl):=dC.mp hz
    have:=gf (nm n hn);lia
   ·rw[cn.mp hz]
    have:=gf sm;lia
  rw[lj,a4m nm,show[numS sp].map (λz=>oV (numIn? z))=[V.int sp] by show[oV (numIn? (numS sp))]=_;rw[_T.zq (by have:=gf sm;lia)];rfl]at d1;have cl:=VH (ns.map V.int++[V.int sp]);rw[eP,bV,qT,Nat.add_sub_cancel,List.take_left' (by rw[bV])]at cl;erw[_,Z,_,Z,_,Z,p,_,Z,.inl #[aD.of d1,λl2 H2 n2=>?_]];have d2:=n2.at';rw[show(-(1:Int))=-1 from Z,cl]at d2;erw[l2,_,Z,.inl #[aD.of d2,λt H3 n3=>?_]];have s3:=s1.trans (n2.same.trans n3.same);have sR:=s3 _ _ ea;have rt:RD K H3 (.ref t) (eV ns):=gu (bc.of n3.at') (mS ns);erw[_,Z,a,dx,_,_,Z,sR,Z,_,Z,mv,.ref t,M.rs,_,_,Z,RD.mono s3 _ rm,rt,ao,λH4 s4=>#[_,Z,?_]];rw[IH gD];erw[bf ?_];have C3:=s3.trans s4;have Vq:H4 p=some (.lst (ns.map V.int++[V.int sp])):=s4 _ _ (n3.same _ _ (n2.same _ _ d1));have Wl:fk (ns.map V.int++[V.int sp]) (-1)=some (.int sp):=LO (by simp);erw[_,Z,_,Z,.inl #[p,_,-1,.int sp,Z,Z,aD.of Vq,Wl,_,.int sp,1,20,Z,fJ _,_,Z,?_]];rw[show da 1 20 (.int sp)=true by show(decide (1<=sp)&&decide (sp<=20))=true;rw[bM fG,bM jW];rfl];erw[bf ?_];have ea4:=C3 _ _ ea;let(rx,pM,Ib,HP,HM,er,_):=Ra.ob;have er4:=C3 _ _ er;have R4:=Ra.same ok.row.no C3;erw[_,Z,_,Z,a,dx,_,_,Z,ea4,Z,r,rx,_,Z,er4,Z,r,q,M,D',S,Z,R4,ok,aL,λg H5 rg s5=>?_];let(ga,gx,rfl,hg,hgx):=rg.cS;rw[hgx.fL]at hg;have gl:(fE S).length=M.rs.length:=xy _ _ ok.pl ok.oB;have Ud:bc K H5 t (ns.map V.int):=bc.of (s5 _ _ (s4 _ _ n3.at'));erw[t,ga,Z,#[_,Ud],#[_,hg],λD2 H6 n6=>?_];erw[Aq (K:=K) (b1:=false) (b2:=false) (xs:=ns.map V.int) (ys:=(fE S).map V.int) (ds:=(pE ns (fE S)).map PyData.int) _ Z Ud hg n6 (by simp[pE]) (by simp[pE];lia) (ki _) ?_ ?_]
  ·intro i x y d H7 Q' ex ey ed s7 hq
   let(u,v,e1,e2,rfl,rfl):=zip2 ao ex ey;let(m,em,rfl):=lI ed;unfold pE at em;rw[cv,(B5 (z:=(u,v))).mpr #[e1,e2]]at em;cases em;erw[_,Z,_,Z,_,_,Z,Z,hq _ _ (aE.refl _) (fJ _)]
  intro H7 zs s7 d7 r7;rw[r7.fL]at d7;erw[D2,_,Z,.inl #[aD.of d7,λtt H8 n8=>?_]];have wm:=s5.trans (s7.trans n8.same);have s8:=C3.trans wm;erw[_,Z,a,dx,_,_,Z,s8 _ _ ea,Z,r,rx,_,Z,s8 _ _ er,Z,?_];erw[_,Z,_,Z,_,Z,.inl #[p,_,-1,.int sp,Z,Z,aD.of (wm _ _ Vq),Wl,cW Z,λtu H9 n9=>?_]];have s9:=s8.trans n9.same;have rl:RD K H9 (.ref tu) (du (pE ns (fE S)) sp):=gu (bc.of n9.at') (cO (bT _) (cO (gu (bc.of (n9.same _ _ n8.at')) (mS _)) (cO (fJ _) dJ)));let(h1,h2,h3,h4):=fe.go s9;erw[r,q,M,D',S,.ref tu,_,o,Z,Ra.same ok.row.no s9,ok,aL,rl,h1,h2,h3,λa2 H' R' b'=>#[_,Z,S8 ao,λH2 t2=>h4 a2 H2 (R'.same (Sj ok.row.no h1.it.no) t2) (b'.trans (.of t2))]]
inductive jR |wd (w:Wd) |steps (n:Int) |aA (n:Int) |item (d:ag)(o:Itm) |to (ns:List Int)(sp:Int)
def jR.txt:jR->Str | .wd w=>w.txt | .steps n=>"steps"++" "++numS n | .aA n=>"rate"++" "++numS n | .item d _=>gm d | .to ns sp=>toS ns sp
def jR.Ok(K:aa)(C:Addr)(R:iU)(r q:Addr)(M:aY)(S:aU)(H:Hp)(Q:VK)(E:XK):jR->Prop | .wd w=>w.Ok K C R.m r q M S H Q E | .steps n=>0<=n/\n<=100/\Wz K C r q M S n H Q | .aA n=>Nm n/\WB K C R.r R.m r q M S n H Q E | .item d o=>vD K C R r q M S d o H Q E | .to ns sp=>fM M.rs ns/\1<=sp/\sp<=20/\∃o,vD K C R r q M S (du (pE ns (fE S)) sp) o H Q E
theorem Wd.Ok.go{w:Wd}(h:w.Ok K C cM r q M S H Q E)(s:aE H H1):w.Ok K C cM r q M S H1 Q E:=by cases w with |hold=>erw[λH' R b=>h H' R λx o e hx=>b x o (s _ _ e) hx] |go=>erw[λH' R b=>h H' R λx o e hx=>b x o (s _ _ e) hx] |drop=>erw[λz H' s'=>h.1 z H' (s.trans s'),λz q' H' R nq b=>h.2 z q' H' R (by cases e:H q' with |none=>rfl |some o=>rw[s _ _ e]at nq;cases nq) λx o e hx=>b x o (s _ _ e) hx] |_=>erw[λH' s'=>h H' (s.trans s')]
theorem Yw{d:ag}(h:gR ws=d)(hd:d≠ .none):∃z y rest ds,ws=z::y::rest/\d= .tuple (.str z::ds):=by
 subst h
 match ws with
 |[]=>exact(hd Z).elim |[z]=>exact(hd (by unfold gR;dsimp only;split<;>rfl)).elim |z::y::rest=>
  erw[z,y,rest,?_];unfold gR at hd⊢;dsimp only at hd⊢;split
  ·erw[_,Z,Z]
  ·next hz=>
   rw[bj hz]at hd
   match rest,hd with |[],_=>erw[_,Z,Z] |_::_,hd=>exact(hd Z).elim
def M0 (z:Str):Prop:=z = "line" \/ lR z
theorem vz.word{n:Nat}{d:ag}(h:vz n d):∃z y rest,Txt.split (gm d) " "=z::y::rest/\M0 z:=by
 have e:=h.rt;unfold uR at e;have e2:gR (Txt.split (gm d) " ")=d:=by cases hc:nc n (gR (Txt.split (gm d) " "))with |true=>rw[hc]at e;erw[e] |false=>rw[hc]at e;exact(h.ne e.symm).elim
 let(z,y,rest,ds,hw,hd):=Yw e2 h.ne;erw[z,y,rest,hw,?_];rcases h.ti with⟨ns,sp,rfl,_⟩|⟨w,i,rfl,hw,_⟩|⟨w,y,rfl,hw,_⟩
 ·cases hd;erw[.inl rfl]
 ·cases hd;erw[.inr hw]
 ·cases hd;erw[.inr hw.ok]
structure M7(K:aa)(gA:Addr):Prop where
 line:PySem.W.nsIn K gA "line"=some none
 wait:PySem.W.nsIn K gA "wait"=some none
 Yo:∃v,PySem.W.nsIn K gA "tool"=some (some v)
 mark:∃v,PySem.W.nsIn K gA "mark"=some (some v)
 steps:PySem.W.nsIn K gA "steps"=some none
 aA:PySem.W.nsIn K gA "rate"=some none
 to:PySem.W.nsIn K gA "to"=some none
theorem acU(h1:∀Q':Bool->Hp->Prop,(∀c,Q' c H)->ta O H Q')(h2:∀Q':Bool->Hp->Prop,Q' false H->tb O H Q')(k:Q false H):BE ta tb O H Q:=h1 _ λc=>by cases c with |true=>erw[h2 _ k] |false=>erw[k]
structure RwW(y:Str):Prop where
 sh:SeqAt.shaped (.str y)=true
 n1:PyData.eqv (.str y) (.str "to")=false
 n2:PyData.eqv (.str y) (.str "steps")=false
 n3:PyData.eqv (.str y) (.str "rate")=false
theorem a08(h:M0 y):RwW y:=by rcases h with rfl|rfl|rfl|rfl<;>erw[aG,aG,aG,aG]
theorem jy:SeqAt.shaped (.str "to")=true/\SeqAt.shaped (.str "steps")=true/\SeqAt.shaped (.str "rate")=true/\PyData.eqv (.str "to") (.str "to")=true:=by decide+kernel
theorem M7.row(h:M7 K gA){y:Str}(hy:M0 y):∃ov,PySem.W.nsIn K gA y=some ov:=by
 rcases hy with rfl|rfl|rfl|rfl
 ·erw[_,h.line]
 ·erw[_,h.wait]
 ·erw[_,h.Yo.choose_spec]
 ·erw[_,h.mark.choose_spec]
theorem XQ(w:Wd):Txt.split w.txt " "=[w.txt]/\w.txt.length<=100:=by cases w<;>erw[aG,aG]
theorem NO(hz:Free 32 z)(n:Int):Txt.split (z++" "++numS n) " "=[z,numS n]:=by
 have ej:z++" "++numS n=Txt.join ⟨#[32]⟩ [z,numS n]:=by rw[<-mM];rfl
 rw[ej,mM];erw[_T.uc (by simp) λy hy=>?_];simp only[bI,ck,cJ]at hy;rcases hy with rfl|rfl
 ·erw[hz]
 ·erw[_T.gX aw aw]
theorem yW:PyData.eqv (.str "steps") (.str "to")=false/\PyData.eqv (.str "steps") (.str "steps")=true/\PyData.eqv (.str "rate") (.str "to")=false/\PyData.eqv (.str "rate") (.str "steps")=false/\PyData.eqv (.str "rate") (.str "rate")=true:=by decide+kernel
theorem Yq:Txt.split (toS ns sp) " "=("to":Str)::(ns.map numS++[numS sp]):=by
 unfold toS;rw[mM];erw[_T.uc (by simp) λz hz=>?_];rcases bI.mp hz with rfl|hz
 ·erw[iB aG]
 ·rcases iI.mp hz with hz|hz
  ·let(i,_,rfl):=dC.mp hz
   erw[_T.gX aw aw]
  ·rw[cn.mp hz];erw[_T.gX aw aw]
theorem Yr(h:∀n∈ns,Nm n)(hs:Nm sp)(hl:ns.length<=3):(toS ns sp).length<=400:=by
 have:=CO " " (B:=41) ("to"::(ns.map numS++[numS sp])) (λz hz=>by
  rcases bI.mp hz with rfl|hz
  ·decide+kernel
  ·rcases iI.mp hz with hz|hz
   ·let(i,hi,rfl):=dC.mp hz
    erw[gf (h i hi)]
   ·rw[cn.mp hz];erw[gf hs]);rw[fG,gy,eP,bV,qT]at this;unfold toS;have:(ns.length+1+1)*(41+1)<=5*42:=Xd _ ao
 lia
inductive adR(K:aa)(C:Addr)(D:Addr)(R:iU)(vs:List V)(H:Hp)(Q:VK)(E:XK):Prop |mk (a:_)(r:_)(q:_)(M:_)(D':_)(S:_)(c:_)(h0:vs=[.ref a,.str (jR.txt c)])(h1:jQ K D H a r M)(h2:cc K C H r q M S)(h3:RG M D' S)(h4:c.Ok K C R r q M S H Q E)
def rC(K:aa)(C D:Addr)(R:iU):Sp:=λvs H Q E=>adR K C D R vs H Q E
theorem BV:bu ["self","text","word","rest","answer","item"] ["self","text"] (aW BZ):=bF aG
theorem a2V{D:Addr}(F:MA K D "say" "Desk.say" BZ)(TC:lU K D)(RC:fm K C)(B:bK mg)(gK:aF P w K mg au "show_number" 1 m5)(GA:GD w K mg "ANSWERS" gA)(NA:M7 K gA)(hW:∀v:Wd,∃fn,PySem.W.nsIn K gA v.txt=some (mg fn)/\tF P w K mg au fn 10 (pJ K C R.m v))(a7G:aF P w K mg au "item_in" 5 (Ft K))(a9b:cQ P w K mg au D "say_steps" 13 (O1 K C D))(a9c:hU P w K mg au D "say_rate" 6 (O2 K C D R.r R.m))(a9a:hU P w K mg au D "say_to" 6 (O0 K C D R))(Ko:hU P w K mg au C "feed" 5 (Fj K C R)):hU P w K mg au D "say" 14 (rC K C D R):=by
 erw[F.sM BV (λvs H Q E h=>?_) (λ_ _ _ _ _ _=>dN λ_ _=>rfl) (λf0 aH A outer s H vs Q E hr h=>?_)]
 ·let(a,r,q,M,D',S,c,rfl,_):=h
  rfl
 ·let(a,r,q,M,D',S,c,rfl,(dx,mv,ea,rm),Ra,g,k):=h
  have nd:=BV.nd;have lr:=g.aL.n3;have iA:sizeLine=16777216:=by decide
  erw[_,(aB (bN (dv (cL (ow K B (ak (pv 1) (ak (oq (x:="str") (v:=.ty "str") Z (B.at "str") je rfl) ay))))) pP bQ) (aB (fu (uC K Z (pv 1) (ak ba ay)) (RE K Z Z (bh 2 nd) (bh 3 nd))) (aB (bN (PW.pt (pO (Rw (RN GA Z (pv 2)) (by with_unfolding_all rfl)) (wy (dv (zh K Z (pv 3)))))) (aB (pS 4 nd (RI GA Z (pv 2) (λ_ _=>rfl))) (aI (aV (a1Z 4 (uD λ_ _ _ z=>z) (ha:=(ak (cK TC.cl TC.rY (pv 0)) ay)))))) bQ) (aB (bN (bS (dQ K Z hr.units) (pv 2) ba (bA _)) (aI (aV (zj a9a (uD λ_ _ _ z=>z) TC.cl (hr.mono aw) (pv 0) (ak (pv 3) ay)))) bQ) (aB (bN (bS (dQ K Z hr.units) (pv 2) ba (bA _)) (aI (aV (kJ a9b TC.cl (hr.mono aw) (pv 0) (ak (pv 3) ay)))) bQ) (aB (bN (bS (dQ K Z hr.units) (pv 2) ba (bA _)) (aI (aV (zj a9c (uD λ_ _ _ z=>z) TC.cl (hr.mono aw) (pv 0) (ak (pv 3) ay)))) bQ) (aB (pS 5 nd (pf a7G hr (ak (cK TC.cl TC.m9 (pv 0)) (ak (pv 1) ay)))) (aB (bN (bS Cm (pv 5) gU (bA _)) pP bQ) (aI (aV (pf gK hr (ak (zj Ko (uD λ_ _ _ z=>z) RC.cl (hr.mono aw) (cK TC.cl TC.rY (pv 0)) (ak (pv 5) ay)) ay)))))))))))),?_];erw[_,Z,.inl #[_,"str","str",true,Z,Z,aw,aw,_,Z,bf ?_]];cases c with
  |wd v=>let(hz,hl):=XQ v;let(fn,hG,f,fd,ps,Fo,hm,hk,hb):=hW v;rw[hm]at hG;erw[_,Z,Z,v.txt," ",Z,Z,aG,ao,λl H1 n1=>?_];rw[hz]at n1;erw[l,.str v.txt,[],Z,aD.of n1.at',aw,λp H2 n2=>?_];have s2:=n1.same.trans n2.same;erw[_,Z,v.txt,_,Z,hG,true,Z,bE ?_];erw[_,Z,false,.inl #[_,aD.of n2.at',Z],bE ?_];erw[_,Z,v.txt,_,.ref f,Z,hG,Z,?_];erw[f,fd,ps,10,_,Z,Fo,hk,hb,hr.mono aw,_,Z,a,dx,_,_,Z,s2 _ _ ea,Z,r,q,M,D',S,Z,Ra.same g.ok.row.no s2,g,Wd.Ok.go k s2] |steps n=>
   let(n0,zA,k):=k;have nm:Nm n:=by show n.natAbs<10^40;lia
   have hl:=gf nm;have e5:Str.length "steps"=5:=by decide+kernel
   have h1:=fG;erw[_,Z,Z,_," ",Z,Z,aG,by simp only[jR.txt,df];lia,λl H1 n1=>?_];rw[show Txt.split (jR.txt (.steps n)) " "=[Str.ofString "steps",numS n]from NO (iB aG) n]at n1;erw[l,.str "steps",[.str (numS n)],Z,aD.of n1.at',by show 1<=16000;decide,λp H2 n2=>?_];have s2:=n1.same.trans n2.same;erw[_,Z,"steps",_,Z,NA.steps,false,Z,bf ?_];erw[_,Z,.inr #[_,_,bT _,bT _,jy.2.1,jy.1,_,Z,?_]];rw[yW.1];erw[bf #[_,Z,.inr #[_,_,bT _,bT _,jy.2.1,jy.2.1,_,Z,?_]]];rw[yW.2.1];erw[bE ?_];erw[_,Z,a,dx,_,Z,s2 _ _ ea,Z,_,Z,a,r,q,M,D',S,p,n,Z,#[dx,mv,s2 _ _ ea,RD.mono s2 _ rm],Ra.same g.ok.row.no s2,g,aD.of n2.at',n0,zA,λes S' q' H' h1 h2 h3 h4 h5=>k es S' q' H' h1 h2 h3 h4 (Mv.ahead s2 h5)] |aA n=>
   let(nm,k1,k2,k3):=k;have hl:=gf nm;have e5:Str.length "rate"=4:=by decide+kernel
   have h1:=fG;erw[_,Z,Z,_," ",Z,Z,aG,by simp only[jR.txt,df];lia,λl H1 n1=>?_];rw[show Txt.split (jR.txt (.aA n)) " "=[Str.ofString "rate",numS n]from NO (iB aG) n]at n1;erw[l,.str "rate",[.str (numS n)],Z,aD.of n1.at',by show 1<=16000;decide,λp H2 n2=>?_];have s2:=n1.same.trans n2.same;erw[_,Z,"rate",_,Z,NA.aA,false,Z,bf ?_];erw[_,Z,.inr #[_,_,bT _,bT _,jy.2.2.1,jy.1,_,Z,?_]];rw[yW.2.2.1];erw[bf #[_,Z,.inr #[_,_,bT _,bT _,jy.2.2.1,jy.2.1,_,Z,?_]]];rw[yW.2.2.2.1];erw[bf #[_,Z,.inr #[_,_,bT _,bT _,jy.2.2.1,jy.2.2.1,_,Z,?_]]];rw[yW.2.2.2.2];erw[bE ?_];erw[_,Z,a,dx,_,Z,s2 _ _ ea,Z,_,Z,a,r,q,M,D',S,p,n,Z,#[dx,mv,s2 _ _ ea,RD.mono s2 _ rm],Ra.same g.ok.row.no s2,g,aD.of n2.at',nm,λz H' s'=>k1 z H' (s2.trans s'),λz1 z2 H' s'=>k2 z1 z2 H' (s2.trans s'),λz1 z2 z3 H' R' b'=>k3 z1 z2 z3 H' R' λx o e hx=>b' x o (s2 _ _ e) hx] |item d o=>
   have k0:=k;let(it,gD,_):=k;have Jz:=g.ok.len;have tx:=it.tx lr.1 lr.2;have ok:=g.ok;have aL:=g.aL;let(y,y2,Bi,hs,hy):=tx.word;let(ov,hov):=NA.row hy;generalize eys:y2::Bi=ys at hs;have W:=a08 hy;have hl:(jR.txt (.item d o)).length<=400:=tx.len;have xl:=tx.len;have CV:ys.length<=1000:=by
    have:=split_len (gm d) " ";rw[hs,gy]at this
    lia
   erw[_,Z,Z,_," ",Z,Z,aG,ao,λl H1 n1=>?_];change Nw H H1 l (.lst ((Txt.split (gm d) " ").map V.str))at n1;rw[hs]at n1;erw[l,.str y,ys.map V.str,Z,aD.of n1.at',by rw[bV];lia,λp H2 n2=>?_];have s2:=n1.same.trans n2.same;unfold gr;dsimp only;unfold yG F3;dsimp only;erw[acU (λQ' hq=>#[_,Z,y,ov,Z,hov,_,Z,hq _]) (λQ' hq=>#[_,Z,true,.inl #[_,aD.of n2.at',by rw[<-eys];rfl],hq]) ?_];erw[bf ?_];erw[_,Z,.inr #[_,_,bT _,bT _,W.sh,jy.1,_,Z,?_]];rw[W.n1];erw[bf #[_,Z,.inr #[_,_,bT _,bT _,W.sh,jy.2.1,_,Z,?_]]];rw[W.n2];erw[bf #[_,Z,.inr #[_,_,bT _,bT _,W.sh,jy.2.2.1,_,Z,?_]]];rw[W.n3];erw[bf ?_];erw[_,Z,a,dx,_,_,Z,s2 _ _ ea,Z,_,Z,mv,M.rs,_,_,Z,RD.mono s2 _ rm,Z,ao,ao,tx.ok,λv H3 s3 rv=>?_];change RD K H3 v (uR M.rs.length (gm d))at rv;rw[tx.rt]at rv;have C4:=s2.trans s3;have nv:v≠ .bD:=λe=>by rw[e]at rv;rcases tx.ti with⟨ns,sp,rfl,_⟩|⟨w,i,rfl,_⟩|⟨w,z,rfl,_⟩<;>(let(p,xs,e,_):=rv.cS;cases e)
   erw[_,Z,Z,_,Z,?_];rw[cG nv];erw[bf ?_];let(rx,pM,Ib,HP,HM,er,_):=Ra.ob;erw[_,Z,a,dx,_,_,Z,C4 _ _ ea,Z,r,rx,_,Z,C4 _ _ er,Z,_,Z,?_];let(_,_,h3,h4):=k0.go C4;erw[r,q,M,D',S,v,d,o,Z,Ra.same ok.row.no C4,ok,aL,rv,it,gD,h3,λa2 H' R' b'=>#[_,Z,S8 ao,λH2 t2=>h4 a2 H2 (R'.same (Sj ok.row.no it.it.no) t2) (b'.trans (.of t2))]] |to ns sp=>
   let(gD,wc,yU,o,fe):=k;have nb:=Co gD g.aL.rl;have ln:=gD.len;have nm:∀n∈ns,Nm n:=λn hn=>by have:=nb n hn;show n.natAbs<10^40;lia
   have sm:Nm sp:=by show sp.natAbs<10^40;lia
   have hl:(jR.txt (.to ns sp)).length<=400:=Yr nm sm ao;erw[_,Z,Z,_," ",Z,Z,aG,ao,λl H1 n1=>?_];rw[show Txt.split (jR.txt (.to ns sp)) " "=("to":Str)::(ns.map numS++[numS sp])from Yq]at n1;erw[l,.str "to",(ns.map numS++[numS sp]).map V.str,Z,aD.of n1.at',by simp;lia,λp H2 n2=>?_];have s2:=n1.same.trans n2.same;erw[_,Z,"to",_,Z,NA.to,false,Z,bf ?_];erw[_,Z,.inr #[_,_,bT _,bT _,jy.1,jy.1,_,Z,?_]];rw[jy.2.2.2];erw[bE ?_];erw[_,Z,a,dx,_,Z,s2 _ _ ea,Z,_,Z,a,r,q,M,D',S,p,ns,sp,Z,#[dx,mv,s2 _ _ ea,RD.mono s2 _ rm],Ra.same g.ok.row.no s2,g.ok,g.aL,aD.of n2.at',gD,wc,yU,o,fe.go s2]
end
open _T (numS numIn? Free)
section
theorem a39(F:MA K C "go" "Runner.go" C1)(TC:fm K C)(B:bK mg):vy P w K mg au C "go" 1 (λ_=>BK K C):=by
 erw[F.A0 Pq (λ_ vs H Q E h=>?_) (λ_ _ _ _ _ _=>dc λ_=>rfl) (λex f aH A outer s H vs Q hr h=>?_)]
 ·let(a,q,M,D,S,rfl,_):=h
  rfl
 ·let(a,q,M,D,S,rfl,R,ok,k):=h
  let(dx,mv,bv,cA,tv,e,r1,r2,r3,r4):=R.ob;let(ys,eq,rq):=R.qu;erw[_,(aB (gd TC.cl TC.uJ (pv 0) gU) (aI (aV (dZ K B (ak (cK TC.cl TC.jl (pv 0)) ay))))),?_];erw[_,Z,a,dx,_,Z,e,by show 9<1000;decide,?_];have qF:(_L.upd H a (.ins C dx (fH mv bv (.int S.dn) (.ref q) cA (.int S.aA) (.str S.side) (.str S.mark) .bD))) q=some (.lst ys):=by rw[aQ R.ne.symm];erw[eq]
  erw[_,Z,a,dx,_,_,Z,bP,Z,q,_,Z,.inl (aD.of qF),?_];rw[rq.length];erw[k _ (R.Cb (S':={S with aR:=none}) e ok.row.no rfl r1 r2 r3 rfl) (Au (by simp))]
def Og:Addr->Sp:=λex vs H Q _=>∃i,vs=[.int i]/\0<=i/\i<1000/\nU ex H/\∀H',aE H H'->Q (.str (numS i)) H'
theorem a2P(F:FA K mg "show_number" C0)(B:bK mg)(Dv:GV mg "PART" (.int 10000000000000000000000000000000000000000000000000000000000000000)):xW P w K mg au "show_number" 1 Og:=by
 erw[F.A0 BW (λ_ vs H Q E h=>?_) (λ_ _ _ _ _ _=>dc λ_=>rfl) (λex f aH A outer s H vs Q hr h=>?_)]
 ·let(i,rfl,_):=h
  rfl
 ·let(i,rfl,i0,i1,hd,k):=h
  have nd:=BW.nd;erw[_,(aB (pS 1 nd (fg (x:="abs") nP Z (B.at "abs") pk (ak (pv 0) ay))) (aB (pS 2 nd (fc ay)) (aB (rK iZ (bS wF (pv 1) (fz (x:="PART") Z Dv) (bA _)) pP) (aB (kG (ou K Z (pv 2) (ak (cZ (x:="str") jL Z (B.at "str") je (ak (pv 1) ay)) ay))) (aB (pS 4 nd (a24 ex K Z Z (B.at "reversed") ba (ak (pv 2) ay) hr.hd)) (aI (aV (ka (bS jD (pv 0) az (bA _)) (pT (fw ba (fw (jj (pv 4)) pR))) (pv 4))))))))),?_];erw[_,Z,i,Z,?_];rw[bj (show¬i<0 by omega)];erw[cW Z,λl H1 n1=>?_];erw[qY (λO H2=>H2=H1/\O=[some (.int i),some (.int i),some (.ref l),none,none]) (λ_ _=>0) ?_ ?_ ?_]
  ·erw[Z,Z]
  ·rintro O H2 ⟨rfl,rfl⟩
   erw[_,Z,_,_,Z,Z,_,Z,?_];erw[fR (λhc=>?_) (λhc=>?_)]
   ·erw[absurd (iY hc) bB]
   ·have hn:i.natAbs<10^540:=nY (show i.natAbs<1000 by omega) aG
    have lg:i.natAbs.log2<1920:=by have:=_N.Jt hn;rwa [_N.Wv (show¬i<0 by omega)]at this
    have lr:=_N.Td hn;have put:aE H (upd H2 l (.lst ([]++[.str (numS i)]))):=λb o e=>by
     have hb:b≠l:=λy=>by rw[y,n1.no]at e;cases e
     rw[aQ hb];erw[n1.same _ _ e]
    erw[_,Z,.inl #[Z,_,aD.of n1.at'],_,Z,.inl #[_,Z,lg,#[l,_,_,Z,Z,n1.at',by show 0<sizeLine;decide,?_]]];erw[Z,_,Z,#[#["",l,[numS i],Z,Z,aD.of bP,λz hz=>by rw[cn.mp hz];omega,aG,by show 1<=1000;decide,?_],nU.go put hd]];erw[_,Z,_,_,Z,Z,_,Z,?_];erw[fR (λhi=>absurd (iY hi) bB) (λhi=>?_)];have e:Txt.join "" [numS i].reverse=numS i:=by show _N.cat [numS i]=_;rw[_N.Ly,_N.VW,Mn]
    rw[e];erw[_,Z,k _ put]
  ·rintro O H2 Q1 Q2 hq h
   let(v1,e1,i1,j1,e2,e3,kk,e4,q):=h;erw[v1,e1,i1,j1,e2,e3,kk,e4,hq _ _ q]
theorem a45(F:FA K mg "answer_go" C2)(B:bK mg)(a9e:xW P w K mg au "show_number" 1 Og)(TC:fm K C)(a9g:vy P w K mg au C "go" 1 (λ_=>BK K C)):xW P w K mg au "answer_go" 2 (λex vs H Q E=>nU ex H/\pJ K C cM .go vs H Q E):=by
 erw[F.A0 BX (λ_ vs H Q E h=>?_) (λ_ _ _ _ _ _=>dc λ_=>rfl) (λex f aH A outer s H vs Q hr h=>?_)]
 ·let(_,a,q,M,D,S,rfl,_):=h
  rfl
 ·let(hd,a,q,M,D,S,rfl,R,g,k):=h
  let(dx,mv,bv,cA,tv,e,r1,r2,r3,r4):=R.ob;have nd:=BX.nd;erw[_,(aI (aV (a1U a9e (hr.mono aw) Z (ak (a1Q a9g TC.cl (hr.mono aw) (pv 0)) ay)))),?_];have hl:=g.ok.len;erw[_,Z,a,dx,_,Z,e,Z,a,q,M,D,S,Z,R,g.ok,λH' R' b'=>#[_,Z,bB,bB,?_,λH2 s2=>k H2 (R'.same g.ok.row.no s2) (b'.trans (.of s2))]];let(cls,dy,ed):=hd;erw[cls,dy,b' _ _ ed λz=>by rw[cn.mp z,e]at ed;cases ed]
inductive adQ(K:aa)(C:Addr)(D:Addr)(cM:Addr)(ex:Addr)(vs:List V)(H:Hp)(Q:VK)(E:XK):Prop |mk (a:_)(r:_)(q:_)(M:_)(D':_)(S:_)(h0:vs=[.ref a,.str "go"])(h1:nU ex H)(h2:jQ K D H a r M)(h3:cc K C H r q M S)(h4:RG M D' S)(h5:Wd.Ok K C cM r q M S H Q E .go)
def NY(K:aa)(C D cM ex:Addr):Sp:=λvs H Q E=>adQ K C D cM ex vs H Q E
theorem a2U{D:Addr}(F:MA K D "say" "Desk.say" BZ)(TC:lU K D)(B:bK mg)(GA:GD w K mg "ANSWERS" gA)(Kv:PySem.W.nsIn K gA "go"=some (mg "answer_go"))(hW:xW P w K mg au "answer_go" 2 (λex vs H Q E=>nU ex H/\pJ K C cM .go vs H Q E)):vy P w K mg au D "say" 3 (NY K C D cM):=by
 erw[F.A0 BV (λ_ vs H Q E h=>?_) (λ_ _ _ _ _ _=>dN λ_ _=>rfl) (λex f0 aH A outer s H vs Q hr h=>?_)]
 ·let(a,r,q,M,D',S,rfl,_):=h
  rfl
 ·let(a,r,q,M,D',S,rfl,hh,(dx,mv,ea,rm),Ra,g,k):=h
  have nd:=BV.nd;have iA:sizeLine=16777216:=by decide
  let(f,fd,ps,Fo,hm,hk,hb):=hW;rw[hm]at Kv;erw[_,(aB (bN (dv (cL (ow K B (ak (pv 1) (ak (oq (x:="str") (v:=.ty "str") Z (B.at "str") je rfl) ay))))) (aI wz) bQ) (aB (fu (uC K Z (pv 1) (ak ba ay)) (a1M ex K Z hr.hd (bh 2 nd) (bh 3 nd))) (aB (bN (PW.pt (pO (Rw (RN GA Z (pv 2)) (by with_unfolding_all rfl)) (wy (dv (zh K Z (pv 3)))))) (aB (pS 4 nd (RI GA Z (pv 2) (λ_ _=>rfl))) (aI (aV (a1Y ex 4 (ha:=(ak (cK TC.cl TC.rY (pv 0)) ay)))))) bQ) pP))),?_];erw[_,Z,.inl #[_,"str","str",true,Z,Z,aw,aw,_,Z,bf ?_]];erw[_,Z,Z,"go"," ",Z,Z,aG,aG,λl H1 n1=>?_];rw[show Txt.split "go" " "=[("go":Str)] by decide+kernel]at n1;erw[hh.go n1.same,l,.str "go",[],Z,aD.of n1.at',aw,λp H2 n2=>?_];have s2:=n1.same.trans n2.same;erw[_,Z,"go",_,Z,Kv,true,Z,bE ?_];erw[_,Z,false,.inl #[_,aD.of n2.at',Z],bE ?_];erw[_,Z,"go",_,.ref f,Z,Kv,Z,?_];erw[f,fd,ps,2,_,Z,Fo ex,hk,hb,hr.mono aw,_,Z,a,dx,_,_,Z,s2 _ _ ea,Z,hh.go s2,r,q,M,D',S,Z,Ra.same g.ok.row.no s2,g,Wd.Ok.go (w:=.go) k s2]
end
end _a
set_option maxHeartbeats 1000000
namespace _a
open PySem PySem.Spec PyProof.Rows _L _l _W
section
inductive aeH(K:aa)(vs:List V)(H:Hp)(Q:VK):Prop |mk (p:_)(m:_)(rs:_)(r:_)(f:_)(j:_)(t:_)(x:_)(pl:_)(mo:_)(h0:vs=[.ref p,m,x,.int mo])(h1:fN H p)(h2:RD K H m (jF rs r f j t))(h3:qL rs r f j t)(h4:RD K H x (eV pl))(h5:fM rs pl)(h6:1<=mo)(h7:mo<=100)(h8:∀v ns sp H',RD K H' v (du ns sp)->fo rs.length 100 ns->fM rs (dH pl ns)->1<=sp->sp<=20->bJ p H H'->Q v H')
def Ot(K:aa):Sp:=λvs H Q _=>aeH K vs H Q
theorem Qh:bu ["_law_bag_here","_law_machine_here","_law_here","_law_most","_law_speed","_law_steps","_law_at","_law_rail","_law_low"] ["_law_bag_here","_law_machine_here","_law_here","_law_most"] (aW Hc):=bF aG
theorem a3N(F:FA K mg "_law_line_from" Hc)(B:bK mg)(ek:aF P w K mg au "_law_take" 1 lZ):aF P w K mg au "_law_line_from" 2 (Ot K):=by
 exists F.has,Qh,xN λ_ _ _ _=>rfl
 ·let(p,m,rs,r0,f0,j0,t0,x,pl,mo,rfl,bg,rm,wJ,rx,on,SI,SH,k):=h
  have nd:=Qh.nd;erw[_,(aB (pS 4 nd (aP dw az (pf ek hr (ak (pv 0) (ak az ay))))) (aB (pS 5 nd (fc ay)) (aB (m6 iZ Z (m7 K Z false false Z (B.at "zip") (ak (pv 2) (ak (px K (pv 1) az) ay))) (eM K rfl (n:=2) rfl (bU (bh 6 nd) (bU (bh 7 nd) eK))) (aB (pS 8 nd (fg (x:="max") (aci Z) Z (B.at "max") Mz (ak (kI kA (pv 6)) (ak (kI kA (pv 3)) ay)))) (aI (kG (ou K Z (pv 5) (ak (aP dw (pv 8) (pf ek hr (ak (pv 0) (ak (aP dw (aP iM (fg (x:="min") (W0 Z) Z (B.at "min") PyProof.Rows.boot_min (ak (aP iM (pv 7) (pv 6)) (ak (pv 3) ay))) (pv 8)) az) ay)))) ay)))))) (aB (ij (bN (dv (cL (fg (x:="any") (Wo K Z Z) Z (B.at "any") Xb (ak (pv 5) ay)))) (aI (fu (px K (fc (ak az (ak (kI kA az) ay))) (cZ (x:="int") W2 Z (B.at "int") tL (ak (fC (dQ K rfl hr.units) (px K (pv 2) az) (px K (px K (pv 1) az) az) (bA _)) ay))) (zi (pv 5) az set_list))) bQ)) (aI (aV (ip (ak ba (ak (cZ (x:="tuple") (kB K Z) Z (B.at "tuple") jd (ak (pv 5) ay)) (ak (pv 4) ay)))))))))),?_];have lr:=wJ.len;have lp:=on.len;let(ma,mb,rfl,jo,kl):=oH rm;let(xa,xx,rfl,CW,hxx):=rx.cS;rw[hxx.fL]at CW;erw[_,Z,p,20,Z,bg,aw,aw,λsp H1 p0 p1 b1=>?_];erw[_,_,Z,Z,?_];erw[cW Z,λl H2 n2=>?_];have b2:bJ p H1 H2:=.fK b1.bC n2.same;have vp:=b1.trans b2;have CL:l≠p:=λz=>b1.bC.ne (z▸n2.no);have nl:H l=none:=by cases e:H l with |none=>rfl |some o=>have:=b1.same _ _ CL e;rw[n2.no]at this;cases this
  have F7:=bJ.t bg vp;erw[_,Z,_,Z,.inr #[ma,_,0,.ref mb,Z,Z,jo.t F7,cN (eJ 0) Z,xa,mb,Z,#[_,CW.t F7],#[_,kl.t F7],?_]];erw[UW (K:=K) (b1:=false) (b2:=false) (xs:=pl.map V.int) (ys:=rs.map V.int) rs.length (by simp[lp]) (λi O H3=>bJ p H H3/\∃(is:List Int)(v1 v2 v3:Option V),H3 l=some (.lst (is.map V.int))/\is.length=i/\(∀(j:Nat)(z a r:Int),is[j]? =some z->pl[j]? =some a->rs[j]? =some r->0<=a+z/\a+z<=r/\(z.natAbs:Int)<=mo)/\O=[some (.ref p),some (.ref ma),some (.ref xa),some (.int mo),some (.int (1+sp)),some (.ref l),v1,v2,v3]) ?_ (λi O H3 _ h=>#[CW.t (bJ.t bg h.1),kl.t (bJ.t bg h.1)]) ?_ ?_]
  ·erw[vp,[],none,none,none,n2.at',Z,λj z a r e=>by simp at e,Z]
  ·rintro i x y O H3 ex ey ⟨b3,is,v1,v2,v3,dl,li,hz,rfl⟩ T H4 n4
   have b4:bJ p H3 H4:=.fK b3.bC n4.same;have hx:∃a r,pl[i]? =some a/\rs[i]? =some r/\x= .int a/\y= .int r:=by rw[cv]at ex ey;cases e1:pl[i]? with |none=>rw[e1]at ex;cases ex |some u=>cases e2:rs[i]? with |none=>rw[e2]at ey;cases ey |some v=>rw[e1]at ex;rw[e2]at ey;erw[u,v,Z,Z,(dU ex).symm,(dU ey).symm]
   let(a,r,ea,er,rfl,rfl):=hx;let(a0,a1):=on.at' i a r ea er;let(r0,r1):=wJ.rl r (fO er);erw[T,_,Z,bc.of n4.at',Z,_,_,Z,_,_,Z,Z,?_];erw[_,Z,_,Z,_,Z,_,Z,_,_,Z,?_];have sT:=n4.same _ _ dl;have a7w:∃low:Int,(if(-mo:Int)>-a then-mo else-a)=low/\low<=0/\-mo<=low/\-a<=low:=#[_,Z,by split<;>lia,by split<;>lia,by split<;>lia];let(low,abA,lo0,lo1,lo2):=a7w;rw[abA];have hhi:∃hi:Int,(if mo<r-a then mo else r-a)=hi/\0<=hi/\hi<=mo/\hi<=r-a:=#[_,Z,by split<;>lia,by split<;>lia,by split<;>lia];let(hi,DU,hi0,hi1,hi2):=hhi;erw[_,Z,.inl #[Z,_,aD.of sT],?_];erw[_,Z,_,Z,_,Z,_,Z,_,_,Z,Z,_,Z,_,_,Z,?_];rw[DU];erw[_,Z,_,_,Z,Z,_,_,Z,Z,p,hi-low+1,Z,b4.bC,ao,ao,λd H5 d0 d1 b5=>?_];have dl5:=b5.same _ _ CL sT;erw[_,_,Z,Z,l,_,_,Z,Z,dl5,?_,?_]
   ·rw[bV,li]
    have:(1000:Nat)<sizeLine:=by decide
    have:=(dW.mp er).1
    lia
   have sZ:=b3.trans (b4.trans b5);erw[?_,is++[low+d],_,_,_,?_,?_,?_,Z]
   ·erw[?_,λb o n e=>?_]
    ·let(c',m',e,ok):=sZ.bC
     erw[c',m',by rw[aQ CL.symm];erw[e],ok]
    ·rw[aQ (iO e nl)];erw[sZ.same b o n e]
   ·rw[bP,lj];rfl
   ·rw[eP,li];rfl
   ·intro j z a' r' ej xD oY
    by_cases hj:j<is.length
    ·rw[vO hj]at ej
     erw[hz j z a' r' ej xD oY]
    ·have qp:j=is.length:=by
      have:=(dW.mp ej).1;rw[eP]at this;have:j<is.length+1:=this
      lia
     rw[qp,yu (bL _),Ey]at ej;cases ej;rw[qp,li]at xD oY;rw[ea]at xD;rw[er]at oY;cases xD;cases oY
     lia
  ·rintro O H3 ⟨b3,is,v1,v2,v3,dl,li,hz,rfl⟩
   have l0:0<is.length:=by lia
   have lp0:0<pl.length:=by lia
   have lr0:0<rs.length:=by lia
   have ea:=cE lp0;have er:=cE lr0;have a3:=CW.t (bJ.t bg b3);have m3:=jo.t (bJ.t bg b3);have mb3:=kl.t (bJ.t bg b3);erw[λO H4=>bJ p H H4/\∃(is:List Int),H4 l=some (.lst (is.map V.int))/\fo rs.length 100 is/\fM rs (dH pl is)/\O=[some (.ref p),some (.ref ma),some (.ref xa),some (.int mo),some (.int (1+sp)),some (.ref l),v1,v2,v3],?_,?_]
   ·erw[_,Z,l,is,Z,.inl (aD.of dl),_,Z,?_]
    cases ha:is.any (· !=0)with
    |false=>
     erw[bE ?_];have z0:∀z∈is,z=0:=λz mi=>by have:=List.any_eq_false.mp ha z mi;simpa using this
     erw[_,Z,cW Z,λc H4 n4=>?_];have s4:=n4.same;erw[_,Z,.inr #[xa,_,0,.int pl[0],Z,Z,a3.go s4,cN (eJ 0) (by rw[cv];show Option.map _ pl[0]? =_;rw[ea];rfl),?_]];erw[_,Z,.inr #[ma,_,0,.ref mb,Z,Z,m3.go s4,cN (eJ 0) Z,?_]];erw[.inr #[mb,_,0,.int rs[0],Z,Z,mb3.go s4,cN (eJ 0) (by rw[cv];show Option.map _ rs[0]? =_;rw[er];rfl),?_]];erw[.inl #[_,_,Z,Z,.inr #[_,Z,?_]]];let(a0,a1):=on.at' 0 _ _ ea er;let(r0,r1):=wJ.rl _ (fO er);have hy:∃y:Int,fk ([.int 1,.int (-1)]:List V) (if decide (pl[0]=rs[0])=true then 1 else 0)=some (.int y)/\y.natAbs=1/\0<=pl[0]+y/\pl[0]+y<=rs[0]:=by
      by_cases h:pl[0]=rs[0]
      ·rw[bM h];erw[-1,Z,Z,ao,ao]
      ·rw[cG h];erw[1,Z,Z,ao,ao]
     let(y,ey,y1,y2,y3):=hy;erw[.inl #[c,_,_,_,Z,Z,aD.of n4.at',ey,?_]];have sT:=s4 _ _ dl;erw[_,Z,l,_,0,0,Z,Z,sT,?_,?_]
     ·unfold kM;rw[bo (eJ 0),bo (by rw[bV];lia)];rfl
     have b4:bJ p H3 H4:=.fK b3.bC s4;have Wf:=b3.trans b4;have ls:(is.set 0 y).length=pl.length:=by rw[yp];lia
     erw[?_,is.set 0 y,?_,#[?_,?_,?_],#[?_,?_],Z]
     ·erw[?_,λb o n e=>?_]
      ·let(c',m',e,ok):=Wf.bC
       erw[c',m',by rw[aQ CL.symm];erw[e],ok]
      ·rw[aQ (iO e nl)];erw[Wf.same b o n e]
     ·rw[bP,List.map_set]
     ·rw[yp];erw[li]
     ·intro z mi
      rcases List.mem_or_eq_of_mem_set mi with h|h
      ·rw[z0 z h];decide
      ·rw[h];lia
     ·erw[y,Xe.mpr #[0,by rw[yp];lia,by rw[Xi]],ao]
     ·rw[nR ls];erw[lp]
     ·intro j x r ej oY
      have hj:j<pl.length:=by have:=(dW.mp ej).1;rw[nR ls]at this;erw[this]
      have Ah:=AB (cE hj) (cE (show j<(is.set 0 y).length by lia));rw[ej]at Ah;have L9:=dU Ah;by_cases h0:j=0
      ·subst h0
       rw[Xi]at L9;rw[er]at oY;cases oY
       lia
      ·rw[List.getElem_set_ne (jS h0)]at L9
       have U0:=z0 _ (yt (show j<is.length by lia));have:=on.at' j _ r (cE hj) oY
       lia |true=>
     erw[bf ?_];have ls:is.length=pl.length:=by lia
     erw[b3,is,dl,#[li,λz mi=>?_,?_],#[?_,?_],Z]
     ·let(j,hj):=vM.mp mi
      have hjl:=(dW.mp hj).1;have:=hz j z _ _ hj (cE (show j<pl.length by lia)) (cE (show j<rs.length by lia))
      lia
     ·let(z,mi,h0):=Xm.mp ha
      erw[z,mi,by simpa using h0]
     ·rw[nR ls];erw[lp]
     ·intro j x r ej oY
      have hj:j<pl.length:=by have:=(dW.mp ej).1;rw[nR ls]at this;erw[this]
      have Ah:=AB (cE hj) (cE (show j<is.length by lia));rw[ej]at Ah;have L9:=dU Ah;have:=hz j _ _ r (cE (show j<is.length by lia)) (cE hj) oY
      lia
   rintro O H4 ⟨b4,is,dl,ok,wI,rfl⟩;erw[_,Z,l,_,Z,.inl #[aD.of dl,λq H5 n5=>?_]];erw[_,Z,cW Z,λt H6 n6=>?_];erw[k (.ref t) is (1+sp) H6 (gu (bc.of n6.at') (cO (bT _) (cO (gu (bc.of (n6.same _ _ n5.at')) (mS is)) (cO (fJ _) dJ)))) ok wI ao ao (b4.trans (.fK b4.bC (n5.same.trans n6.same)))]
end
end _a
set_option maxHeartbeats 2000000
namespace _a
open PySem PySem.Spec PyProof.Rows _L _r _l _C _P _W _R
open _O (topR cornO mnO betR atO ownF leadF ownL OkI OkIs)
open _T (numS numIn? Free)
section
def lX(f:Int->Int->Int)(xs ys:List Int):List Int:=(xs.zip ys).map λp=>f p.1 p.2
theorem Ap{D:Addr}{n:Nat}(f:Int->Int->Int)(rest:_L.St)(sE:n=2)(h1:g6 b1 K H l1 (xs.map V.int))(h2:g6 b2 K H l2 (ys.map V.int))(nw:Nw H H0 D (.lst []))(hl:xs.length=ys.length)(hz:xs.length<=1000) (he:∀(u v:Int)(H2:Hp)(Q':VK),aE H H2->Q' (.int (f u v)) H2->te (some (.int u)::some (.int v)::rest) H2 Q')(hq:∀H',aE H H'->H' D=some (.lst ((lX f xs ys).map V.int))->Q (.ref D) H'): kW (tD K b1 b2 l1 l2) (Ad K n (ve (gr 0) (ve (gr 1) DD))) jV te Q D (none::none::rest) H0:=by erw[Aq (K:=K) (ds:=(lX f xs ys).map PyData.int) rest sE h1 h2 nw (by simp[lX]) (by simp[lX];lia) (ki _) ?_ λH' zs s' d' r'=>hq H' s' (by rw[<-r'.fL];erw[d'])];intro i x y d H7 Q' ex ey ed s7 hq;let(u,v,e1,e2,rfl,rfl):=zip2 hl.symm ex ey;let(m,em,rfl):=lI ed;unfold lX at em;rw[cv,(B5 (z:=(u,v))).mpr #[e1,e2]]at em;cases em;erw[he u v H7 Q' s7 (hq _ _ (aE.refl _) (fJ _))]
theorem Bh:∀xs ys:List Int,lX (λa b=>a+b) xs ys=dH xs ys |[],_=>by cases‹List Int›<;>rfl |_::_,[]=>rfl |x::xs,y::ys=>by show(x+y)::lX _ xs ys=(x+y)::dH xs ys;rw[Bh xs ys]
inductive adI(K:aa)(vs:List V)(H:Hp)(Q:VK):Prop |mk (x:_)(iv:_)(pl:_)(ns:_)(sp:_)(h0:vs=[x,iv])(h1:RD K H x (eV pl))(h2:RD K H iv (du ns sp))(h3:pl.length=ns.length)(h4:pl.length<=3)(h5:∀v H',RD K H' v (eV (dH pl ns))->aE H H'->Q v H')
def NU(K:aa):Sp:=λvs H Q _=>adI K vs H Q
theorem OX:bu ["_law_here","_law_item_here"] ["_law_here","_law_item_here"] (aW FN):=bF aG
theorem a2E(F:FA K mg "_law_there" FN)(B:bK mg):aF P w K mg au "_law_there" 1 (NU K):=by
 exists F.has,OX,dN λ_ _=>rfl
 ·let(x,iv,pl,ns,sp,rfl,rx,ri,hl,l3,k):=h
  have nd:=OX.nd;let(pa,rfl,hp):=Rz rx;let(a,b,rfl,ha,hb):=oK ri;erw[_,(aB (bN (bS (mW K Z hr.units) (px K (pv 1) az) ba (bA _)) (aI (aV (pv 0))) bQ) (aI (aV (cZ (x:="tuple") (kB K Z) Z (B.at "tuple") jd (ak (fA (N:=["_law_at","_law_step"]) (js:=[none,none]) rfl rfl rfl (m7 K rfl false false rfl (B.at "zip") (ak (pv 0) (ak (px K (pv 1) az) ay))) (λ_ _ _ _ _=>(eM K rfl (n:=2) rfl (bU (bh 0 (gj aw)) (bU (bh 1 (gj aw)) eK)))) (λ_ _ _ _ _=>dM) (λ_ _ _ _ _=>(aP dw (pv 0) (pv 1)))) ay))))),?_];erw[_,Z,.inr #[a,_,0,.str "line",Z,Z,ha,Z,.inr #[_,_,bT _,bT _,kj,kj,_,Z,?_]]];rw[lO,bM rfl];erw[bf ?_];erw[_,Z,_,Z,.inr #[a,_,1,.ref b,Z,Z,ha,Z,pa,b,Z,#[_,hp],#[_,hb],λD H1 n1=>?_]];erw[Ap (b1:=false) (b2:=false) (λa b=>a+b) _ Z hp hb n1 hl ao (λu v H2 Q' s2 q=>#[_,Z,_,Z,_,_,Z,Z,q]) λH2 s2 d2=>?_];rw[Bh]at d2;erw[D,_,Z,.inl #[aD.of d2,λt H3 n3=>?_]];erw[k _ H3 (gu (bc.of n3.at') (mS (dH pl ns))) (s2.trans n3.same)]
inductive adL(K:aa)(vs:List V)(H:Hp)(Q:VK):Prop |mk (b:_)(ns:_)(k:_)(h0:vs=[.ref b,.int k])(h1:bc K H b (ns.map V.int))(h2:fo ns.length 100 ns)(h3:ns.length<=3)(h4:0<=k)(h5:k<=1000)(h6:∀l H',H l=none->H' l=some (.lst ((fP ns k).map V.int))->aE H H'->Q (.ref l) H')
def Ff(K:aa):Sp:=λvs H Q _=>adL K vs H Q
theorem aa3{k n:Int}(hk:0<=k)(hq:0<q):(if n<0 then-((2*k*gP n+q)/(2*q))else(2*k*gP n+q)/(2*q))=eX (k*n) q:=by
 have e:2*k*gP n=2*((k*n).natAbs:Int):=by rw[AD,gz,Int.natCast_mul,tS,Int.natAbs_of_nonneg hk]
 rw[e];show(if n<0 then-(j4 (k*n) q)else j4 (k*n) q)=eX (k*n) q;rcases MM n 0 with hn|hn
 ·rw[bo hn]
  rcases MM 0 k with h0|h0
  ·have:k*n<0:=Int.mul_neg_of_pos_of_neg h0 hn
   unfold eX;rw[bj ao]
  ·have e0:k=0:=by lia
   rw[e0,B7,J3 hq];have:=J3 hq;unfold eX at this;rw[bo ao]at this
   lia
 ·rw[bj ao]
  have:0<=k*n:=iJ hk hn;unfold eX;rw[bo this]
theorem ZJ{k n:Int}(hk:0<=k)(hq:0<q):(1-2*(if decide (n<0)=true then 1 else 0))*((2*gP n*k+q)/(2*q))=eX (k*n) q:=by
 rw[<-aa3 hk hq,show 2*gP n*k=2*k*gP n by rw[tS,tS,qW (gP n) k]];by_cases h:n<0
 ·rw[bo (bM h),bo h];lia
 ·rw[bj (λz=>h (iY z)),bj h];lia
theorem P0:bu ["_law_steps","_law_k","_law_lead"] ["_law_steps","_law_k"] (aW FQ):=bF aG
theorem a2I(F:FA K mg "_law_stand" FQ)(B:bK mg):aF P w K mg au "_law_stand" 1 (Ff K):=by
 exists F.has,P0,dN λ_ _=>rfl
 ·let(b,ns,kk,rfl,hb,ok,l3,k0,k1,k):=h
  have nd:=P0.nd;let(lp,lm):=ok.lead;erw[_,(aB (pS 2 nd (fg (x:="max") (Jj K Z Z) Z (B.at "max") Mz (ak (fA (N:=["_law_step"]) (js:=[none]) rfl rfl rfl (kH K rfl (pv 0)) (λ_ _ _ _ _=>(bh 0 (jk _))) (λ_ _ _ _ _=>dM) (λ_ _ _ _ _=>(fg (x:="abs") nP rfl (B.at "abs") pk (ak (pv 0) ay)))) ay))) (aI (aV (fA (N:=["_law_step","_law_lead","_law_k"]) (js:=[none,some 2,some 1]) Z Z Z (kH K Z (pv 0)) (λ_ _ _ _ _=>(bh 0 (show List.Nodup (["_law_step","_law_lead","_law_k"]:List Str) by decide+kernel))) (λ_ _ _ _ _=>dM) (λ_ _ _ _ _=>(aP cw (aP iM az (aP cw az (cZ (x:="int") W2 rfl (B.at "int") tL (ak (fC jD (pv 0) az (bA _)) ay)))) (aP uE (aP dw (aP cw (aP cw az (fg (x:="abs") nP rfl (B.at "abs") pk (ak (pv 0) ay))) (pv 2)) (pv 1)) (aP cw az (pv 1))))))))),?_];erw[_,Z,b,Z,#[_,hb],λD H0 nw=>?_];erw[qI (K:=K) (xs:=ns.map V.int) (ds:=(ns.map gP).map PyData.int) [] hb nw (by simp) (by simp;lia) (ki _) ?_ ?_]
  ·intro i x d H2 Q' ex ed s2 hq
   let(m,em,rfl):=lI ed;rw[cv]at em;cases en:ns[i]? with |none=>rw[en]at em;cases em |some n=>rw[en]at em;cases em;cases x9 ex en;erw[_,Z,n,Z,hq _ _ (aE.refl _) (fJ _)]
  intro H1 ys s1 d1 r1;rw[r1.fL]at d1;erw[D,_,Z,aD.of d1,by simpa using ok.ne,λM h1 h2=>?_];rw[Jw ok.ne h1 h2];erw[_,Z,b,Z,#[_,hb.go s1],λD2 H2 n2=>?_];erw[qI (K:=K) (xs:=ns.map V.int) (ds:=(fP ns kk).map PyData.int) _ (hb.go s1) n2 (by simp[fP]) (by simp;lia) (ki _) ?_ ?_]
  ·intro i x d H3 Q' ex ed s3 hq
   let(m,em,rfl):=lI ed;unfold fP at em;rw[cv]at em;cases en:ns[i]? with |none=>rw[en]at em;cases em |some n=>
    rw[en]at em;cases em;cases x9 ex en;have nb:=ok.bd n (fO en);have ab:gP n=(n.natAbs:Int):=AD n;have p0:0<=2*gP n*kk:=iJ ao k0;have p1:2*gP n*kk<=200*1000:=tR ao k1 k0 ao;have q:=hq (.int (eX (kk*n) (aK ns))) H3 (aE.refl _) (fJ _);rw[<-ZJ k0 (show(0:Int)<aK ns by lia)]at q;erw[_,Z,_,_,Z,Z,.inr #[_,Z,_,_,Z,Z,.of_left (dh aw aw),_,_,Z,Z,?_]];erw[_,Z,n,Z,_,_,Z,Z,.of_left (dh aw aw),_,Z,_,_,Z,Z,.of_left (dh ao ao),_,Z,_,_,Z,Z,_,Z,_,_,Z,Z,.of_left (dh aw aw),_,_,Z,Z,#[ao,Bm ao],_,_,Z,Z,.of_left (dh ?_ ?_),q]
    ·split<;>lia
    ·split<;>lia
  ·intro H3 zs s3 d3 r3
   rw[r3.fL]at d3;have gj:H D2=none:=by cases e:H D2 with |none=>rfl |some o=>have:=s1 _ _ e;rw[n2.no]at this;cases this
   erw[k D2 H3 gj d3 (s1.trans s3)]
end
open _T (numS numIn? Free)
section
def ua(row:List Int)(t p q:Int):List Str:="step"::(row.map numS++[numS t,eZ p q])
theorem intOf{n:Int}(h:numIn? z=some n):intText? z=some n:=by unfold numIn? at h;cases h1:((_T.figs z).isEmpty|| !(_T.figs z).all _T.isFig)with |true=>rw[h1]at h;cases h |false=>rw[h1]at h;cases h2:(decide ((_T.figs z)[0]? =some 48)&& !decide (z="0"))with |true=>rw[h2]at h;cases h |false=>rw[h2]at h;erw[h]
theorem zG{n:Int}(h:iW n):intText? (numS n)=some n/\(numS n).length<=640:=by have:=rP h;erw[intOf (_T.zq ao),ao]
theorem Nm.b{n:Int}(h:Nm n):iW n:=nY h aG
theorem FC:("/":Str)=⟨#[47]⟩:=by decide+kernel
theorem a9M:Free 32 (eZ p q):=by
 unfold eZ;split
 ·erw[_T.gX aw aw]
 ·intro hc
  rw[nW,nW,lV,lV,iI,iI]at hc;rcases hc with(hc|hc)|hc
  ·erw[_T.gX aw aw hc]
  ·revert hc;decide+kernel
  ·erw[_T.gX aw aw hc]
theorem Zl{row:List Int}(t p q:Int)(h:row≠[]):"step "++fW row++" "++numS t++" "++eZ p q=Txt.join ⟨#[32]⟩ (ua row t p q):=by
 have hn:row.map numS≠[]:=by simpa using h
 unfold ua;rw[<-mM,uQ _ _ _ (by simp),show row.map numS++[numS t,eZ p q]=(row.map numS++[numS t])++[eZ p q] by simp,join_snoc _ _ _ (by simp),join_snoc _ _ _ hn];have e:("step ":Str)="step"++" ":=by decide+kernel
 rw[e];unfold fW;simp only[Mt]
theorem Zk{row:List Int}{t:Int}(h:row≠[]):Txt.split ("step "++fW row++" "++numS t++" "++eZ p q) " "=ua row t p q:=by
 rw[Zl t p q h,mM];erw[_T.uc (by simp[ua]) λz hz=>?_];rcases bI.mp hz with rfl|hz
 ·erw[iB aG]
 ·rcases iI.mp hz with hz|hz
  ·let(i,_,rfl):=dC.mp hz
   erw[_T.gX aw aw]
  ·simp only[bI,ck,cJ]at hz
   rcases hz with rfl|rfl
   ·erw[_T.gX aw aw]
   ·erw[a9M]
def sN(p q:Int):List Str:=if q=1 then[numS p]else[numS p,numS q]
theorem a9K:Txt.split (eZ p q) "/"=sN p q:=by
 unfold eZ sN;split
 ·have:=_T.uc (c:=47) (zs:=[numS p]) (by simp) (λz hz=>by rw[cn.mp hz];erw[_T.gX aw aw])
  rw[FC];erw[this]
 ·have ej:numS p++"/"++numS q=Txt.join ⟨#[47]⟩ [numS p,numS q]:=by rw[<-FC];rfl
  rw[ej,FC];erw[_T.uc (by simp) λy hy=>?_];simp only[bI,ck,cJ]at hy;rcases hy with rfl|rfl<;>erw[_T.gX aw aw]
theorem a9J:sN p q++[("1":Str)]=numS p::numS q::(if q=1 then[]else[("1":Str)]):=by
 unfold sN;split
 ·next e=>rw[e];erw[kr (λz=>[numS p,z]) aG]
 ·rfl
theorem acN(a:V)(xs:List V)(x y:V):fk (a::(xs++[x,y])) (-1)=some y:=LO (by rw[List.getLast?_cons,List.getLast?_append];rfl)
theorem acM(a:V)(xs:List V)(x y:V):fk (a::(xs++[x,y])) (-2)=some x:=by
 have hl:(a::(xs++[x,y])).length=xs.length+3:=by simp
 unfold fk kM;rw[bj aw,bo (by rw[hl];lia)];show(a::(xs++[x,y]))[((-2:Int)+((a::(xs++[x,y])).length:Int)).toNat]? =some x;rw[hl,show((-2:Int)+((xs.length+3:Nat):Int)).toNat=xs.length+1 by lia];show(xs++[x,y])[xs.length]? =some x;rw[yu (bL _),Ey];rfl
theorem ac1(a:V)(xs:List V)(x y:V):jK (a::(xs++[x,y])) (some 1) (some (1+(xs.length:Int)))=xs:=by
 have hl:(a::(xs++[x,y])).length=xs.length+3:=by simp
 unfold jK;rw[hl,show(1+(xs.length:Int))=((1+xs.length:Nat):Int) by lia,show(1:Int)=((1:Nat):Int)from Z,_H.GL,_H.GL,show min 1 (xs.length+3)=1 by lia,show min (1+xs.length) (xs.length+3)-1=xs.length by lia];show(xs++[x,y]).take xs.length=xs;erw[List.take_left' rfl]
theorem Zn(row:List Int)(t p q:Int)(l3:row.length<=3):∃W:List V,(ua row t p q).map V.str=W/\W.length=row.length+3/\fk W 0=some (.str "step")/\fk W (-1)=some (.str (eZ p q))/\fk W (-2)=some (.str (numS t))/\jK W (some 1) (some (1+(row.length:Int)))=row.map λn=>V.str (numS n):=by
 have lr:(row.map (λn=>V.str (numS n))).length=row.length:=by rw[bV]
 have Az:=acN (V.str "step") (row.map (λn=>V.str (numS n))) (V.str (numS t)) (V.str (eZ p q));have at2:=acM (V.str "step") (row.map (λn=>V.str (numS n))) (V.str (numS t)) (V.str (eZ p q));have E3:=ac1 (V.str "step") (row.map (λn=>V.str (numS n))) (V.str (numS t)) (V.str (eZ p q));rw[lr]at E3;erw[V.str "step"::(row.map (λn=>V.str (numS n))++[V.str (numS t),V.str (eZ p q)]),by unfold ua;simp,by simp,cN (eJ 0) rfl,Az,at2,E3]
theorem a9N(p q:Int):∃G:List V,(sN p q).map V.str=G/\G.length<=2/\fk G 0=some (.str (numS p))/\fk (G++[V.str "1"]) 1=some (.str (numS q)):=by
 have e:=kr (List.map V.str) (a9J (p:=p) (q:=q));rw[lj]at e;erw[_,Z,?_,?_,?_]
 ·rw[bV];unfold sN;split<;>simp
 ·unfold sN
  split<;>erw[cN (eJ 0) rfl]
 ·rw[show[V.str "1"]=List.map V.str [("1":Str)]from Z,e]
  erw[cN aw rfl]
inductive ae0(K:aa)(vs:List V)(H:Hp)(Q:VK):Prop |mk (row:List Int)(t:Int)(p:Int)(q:Int)(h0:vs=[.str ("step "++fW row++" "++numS t++" "++eZ p q),.int (row.length:Nat)])(h1:row≠[])(h2:row.length<=3)(h3:(∀n∈row,Nm n))(h4:iW t)(h5:iW p)(h6:iW q)(h7:∀tp l H',H' l=some (.lst (row.map V.int))->bc K H' tp [.ref l,.int t,.int p,.int q]->aE H H'->Q (.ref tp) H')
def O4(K:aa):Sp:=λvs H Q _=>ae0 K vs H Q
theorem Pg:bu ["_law_text","_law_axes","_law_words","_law_square"] ["_law_text","_law_axes"] (aW G4):=bF aG
theorem a3f(F:FA K mg "_law_read_step" G4)(B:bK mg):aF P w K mg au "_law_read_step" 1 (O4 K):=by
 exists F.has,Pg,dN λ_ _=>rfl
 ·let(row,t,p,q,rfl,rne,l3,hn,ht,hp,hq,k):=h
  have nd:=Pg.nd;have iA:sizeLine=16777216:=by decide
  have zl:("step "++fW row++" "++numS t++" "++eZ p q:Str).length<=2000:=by
   have Dz:=uH hn l3;have xt:=rP ht;have UI:=DF hp hq;have Aa:=fG;have h5:Str.length "step "=5:=by decide+kernel
   simp only[df]
   lia
  erw[_,(aB (pS 2 nd (uC K Z (pv 0) (ak ba ay))) (aB (pS 3 nd (uC K Z (px K (pv 2) (kI kA az)) (ak ba ay))) (aB (bN (PW.pt (j6 (bS (mW K Z hr.units) (px K (pv 2) az) ba (bA _)) (j6 (bS (mW K Z hr.units) (dZ K B (ak (pv 2) ay)) (aP dw (pv 1) az) (bA _)) (jB (bS oz (dZ K B (ak (pv 3) ay)) az (bA _)))))) (aI (aV gU)) bQ) (aI (aV (ip (ak (fA (N:=["_law_word"]) (js:=[none]) Z Z Z (oo K Z (uA (ug K Z) (pv 2) (rL az) (rL (aP dw az (pv 1))))) (λ_ _ _ _ _=>(bh 0 (jk _))) (λ_ _ _ _ _=>dM) (λ_ _ _ _ _=>(cZ (x:="int") xK Z (B.at "int") tL (ak (pv 0) ay)))) (ak (cZ (x:="int") xK rfl (B.at "int") tL (ak (px K (pv 2) (kI kA az)) ay)) (ak (cZ (x:="int") xK rfl (B.at "int") tL (ak (px K (pv 3) az) ay)) (ak (cZ (x:="int") xK rfl (B.at "int") tL (ak (px K (aP (E7 K rfl) (pv 3) (fc (ak ba ay))) az) ay)) ay)))))))))),?_];erw[_,Z,Z,_," ",Z,Z,aG,ao,λl H1 n1=>?_];rw[Zk rne]at n1;let(W,eW,lW,LQ,Az,at2,E3):=Zn row t p q l3;have hW:aD K H1 l ((ua row t p q).map V.str):=aD.of n1.at';rw[eW]at hW;have fl:=DF hp hq;erw[_,Z,_,Z,.inl #[l,_,-1,.str (eZ p q),Z,Z,hW,Az,Z,_,"/",Z,Z,aG,ao,λl2 H2 n2=>?_]];rw[a9K]at n2;let(G,eG,lG,g0,g1):=a9N p q;have h2:aD K H2 l2 ((sN p q).map V.str):=aD.of n2.at';rw[eG]at h2;have Dw:=hW.go n2.same;erw[_,Z,.inl #[l,_,0,.str "step",Z,Z,Dw,LQ,.inr #[_,_,bT _,bT _,yL,yL,_,Z,?_]]];rw[lO,bM rfl];erw[bf ?_];erw[_,Z,l,_,Z,.inl Dw,_,Z,_,_,Z,Z,.inl #[_,_,Z,Z,_,Z,?_]];rw[lW,show(!decide (((row.length+3:Nat):Int)=(row.length:Int)+3))=false by rw[bM ao];rfl];erw[bf ?_];erw[_,Z,l2,_,Z,.inl h2,_,_,Z,Z,_,Z,?_];rw[show decide ((2:Int)<(G.length:Int))=false from cG ao];erw[bf ?_];erw[_,Z,_,Z,_,Z,_,_,Z,Z,_,Z,l,_,Z,.inl #[Dw,λl3' H3 n3=>?_]];have d3:=n3.at';rw[E3]at d3;erw[l3',Z,#[_,aD.of d3],λD H4 n4=>?_];erw[E4 (K:=K) (ds:=row.map PyData.int) _ (aD.of d3) n4 (by simp) (by simp;lia) (ki _) ?_ ?_]
  ·intro i x d H5 Q' ex ed s5 hq
   let(m,em,rfl):=lI ed;rw[cv,em]at ex;cases ex;let(i1,i2):=zG (hn m (fO em)).b;erw[_,Z,_,m,Z,i1,i2,hq _ _ (aE.refl _) (fJ _)]
  intro H5 zs s5 d5 r5;rw[r5.fL]at d5;have jX:=n3.same.trans s5;let(it1,it2):=zG ht;let(ip1,ip2):=zG hp;let(iq1,iq2):=zG hq;erw[_,Z,_,Z,.inl #[l,_,-2,.str (numS t),Z,Z,Dw.go jX,at2,_,t,Z,it1,it2,?_]];erw[_,Z,.inl #[l2,_,0,.str (numS p),Z,Z,h2.go jX,g0,_,p,Z,ip1,ip2,?_]];erw[_,Z,cW Z,λl4 H6 n6=>?_];erw[l2,l4,_,_,Z,Z,h2.go (jX.trans n6.same),aD.of n6.at',by show _+1<=_;lia,λl5 H7 n7=>?_];erw[.inl #[l5,_,1,.str (numS q),Z,Z,aD.of n7.at',g1,_,q,Z,iq1,iq2,?_]];erw[cW Z,λtp H8 n8=>?_];have s8:=n6.same.trans (n7.same.trans n8.same);erw[k tp D H8 (s8 _ _ d5) (bc.of n8.at') (n1.same.trans (n2.same.trans (jX.trans s8)))]
end
open _T (numS numIn? Free)
section
theorem N8{ti:Int}{q:Rat}(h0:1<=ti):∀n:Nat,1<=n->jq ti q (n:Int)=true->∃T:Int,T<=n/\vw ti q T |0,h,_=>by lia |n+1,_,h=>by cases e:jq ti q (n:Int)with |false=>erw[((n+1:Nat):Int),eJ _,ao,h,by rw[Int.natCast_add,Int.natCast_one,Int.add_sub_cancel];erw[e]] |true=>
 by_cases hn:1<=n
 ·let(T,h1,h2):=N8 h0 n hn e
  erw[T,ao,h2]
 ·have hn:n=0:=by lia
  subst hn;have e:=iY e;have hp:0<ti*ti*(q.den:Int):=jg (jg ao ao) (by have:=q.den_pos;lia);simp at e
  lia
theorem Yu(h1:1<=ti)(h2:ti<=100)(qn:0<q.num)(hd:q.den<2^M)(T1:1<=T)(e:jq ti q (T-1)=false):T.natAbs<2^(M+7):=by
 have e:=WS e;have hd0:=q.den_pos;have key:T-1<ti*(q.den:Int):=by
  erw[Int.lt_of_not_ge λKa=>e ?_];have b0:0<=ti*(q.den:Int):=iJ bB bB;have s1:ti*(q.den:Int)*(ti*(q.den:Int))<=(T-1)*(T-1):=tR Ka Ka b0 bB;have s2:ti*ti*(q.den:Int)<=ti*(q.den:Int)*(ti*(q.den:Int)):=by
   have z:ti*(q.den:Int)*(ti*(q.den:Int))=ti*ti*(q.den:Int)*(q.den:Int):=by simp only[qW,Int.mul_left_comm,tS]
   rw[z];have p1:0<=ti*ti*(q.den:Int):=iJ (iJ bB bB) bB;have:=B9 (show(1:Int)<=(q.den:Int) by omega) p1;rw[vP]at this;erw[this]
  have p2:0<=(T-1)*(T-1):=iJ bB bB;have s3:=B9 (show(1:Int)<=q.num by omega) p2;rw[vP]at s3;omega
 have m:ti*(q.den:Int)<=100*(q.den:Int):=B8 h2 bB;rw[Nat.pow_add];omega
theorem YB(h1:1<=ti)(hq:0<q.num):vw ti q (lY ti q):=by have p:0<ti*ti*(q.den:Int):=jg (jg ao ao) (by have:=q.den_pos;lia);let(T,_,h):=N8 (q:=q) h1 (ti*ti*(q.den:Int)).toNat ao (by rw[Int.toNat_of_nonneg ao];erw[L8 hq ao (eJ _)]);rw[N6 ao h];erw[h]
theorem Yn{aA:Int}(h:q<=topR aA sp):q.num*10000<=(q.den:Int)*(sp*aA)^2:=by
 have hd:(0:Int)<q.den:=by have:=q.den_pos;lia
 unfold topR at h;have e1:q=Rat.divInt (q.num*10000) ((q.den:Int)*10000):=by rw[Rat.divInt_mul_right aw];exact(tJ q).symm
 have e2:Rat.divInt ((sp*aA)^2) 10000=Rat.divInt ((sp*aA)^2*(q.den:Int)) ((q.den:Int)*10000):=by rw[qW (q.den:Int) 10000,Rat.divInt_mul_right ao]
 rw[e2]at h;have h2:Rat.divInt (q.num*10000) ((q.den:Int)*10000)<=Rat.divInt ((sp*aA)^2*(q.den:Int)) ((q.den:Int)*10000):=eT (by rw[<-e1];erw[tK]) h;have:=(_C.Lk (show(0:Int)<(q.den:Int)*10000 by lia)).mp h2;rw[qW (q.den:Int)];erw[this]
inductive adX(K:aa)(vs:List V)(H:Hp)(Q:VK):Prop |mk (m:V)(tp:Addr)(rl:Addr)(l:Addr)(M:aY)(row:List Int)(q:Rat)(sp:Int)(aA:Int)(h0:vs=[m,.ref tp,.ref rl,.int sp,.int aA])(h1:RD K H m (aY.D M))(h2:M.Ok)(h3:bc K H tp [.ref l,.int (lY M.t q),.int q.num,.int (q.den:Int)])(h4:aD K H l (row.map V.int))(h5:aD K H rl (row.map V.int))(h6:row.length<=3)(h7:1<=sp)(h8:sp<=20)(h9:10<=aA)(DA:aA<=200)(UH:0<q)(A9:q<=topR aA sp)(UG:Bd 1700 q)(h14:Q (.bl true) H)
def O3(K:aa):Sp:=λvs H Q _=>adX K vs H Q
theorem P8:bu ["_law_machine_here","_law_entry","_law_row","_law_speed","_law_rate","_law_found","_law_t","_law_p","_law_q","_law_due"] ["_law_machine_here","_law_entry","_law_row","_law_speed","_law_rate"] (aW FY):=bF aG
theorem a2N(F:FA K mg "_law_step_right" FY)(B:bK mg):aF P w K mg au "_law_step_right" 1 (O3 K):=by
 exists F.has,P8,al5 λ_ _ _ _ _=>rfl
 ·let(m,tp,rl,l,M,row,q,sp,aA,rfl,rm,aL,ht,hl,ml,l3,s1,s2,r1,r2,q0,qt,bq,k):=h
  have nd:=P8.nd;let(a,b,rfl,ha,hb):=oH rm;have qn:=IX q0;have qd:(0:Int)<q.den:=by have:=q.den_pos;lia
  have vY:=aL.t1;let(T1,Te,Tn):=YB (ti:=M.t) vY.1 qn;have Tb:=Yu vY.1 vY.2 qn bq.den T1 Tn;have ti:=Yn qt;generalize hT:lY M.t q=T at ht T1 Te Tn Tb;have Te:=iY Te;have Tn:=WS Tn;have wt:_L.Wd T:=jh (n:=1707) Tb aw;have MW:_L.Wd (T-1):=jh (n:=1707) ao aw;have EL:_L.Wd (T*T):=jh (n:=3414) (by rw[gz];erw[mX (n:=1707) (m:=1707) Tb Tb]) aw;have XI:_L.Wd ((T-1)*(T-1)):=jh (n:=3414) (by rw[gz];erw[mX (n:=1707) (m:=1707) ao ao]) aw;have m1:(M.t*M.t).natAbs<=100*100:=by rw[gz];erw[nX ao ao]
  have m2:0<=sp*aA/\sp*aA<=20*200:=#[iJ ao ao,tR s2 r2 ao ao];have bn:Bd 2000 q:=bq.mono aw;erw[_,(aB (fu (pv 1) (eM K Z (n:=4) Z (bU (bh 5 nd) (bU (bh 6 nd) (bU (bh 7 nd) (bU (bh 8 nd) eK)))))) (aB (bN (PW.pt (j6 (bS (mW K Z hr.units) (pv 5) (pv 2) (bA _)) (j6 (bS jD (pv 7) az (bA _)) (jB (bS oz (aP cw (pv 7) az) (aP cw (pv 8) (aP Ck (aP cw (pv 3) (pv 4)) az)) (bA _)))))) (aI (aV jC)) bQ) (aB (pS 9 nd (aP cw (aP cw (px K (pv 0) az) (px K (pv 0) az)) (pv 8))) (aI (aV (m8 (fC oz (pv 6) az (bA _)) (m8 (fC wF (aP cw (aP cw (pv 6) (pv 6)) (pv 7)) (pv 9) (bA _)) (mU (a1O (fC (dQ K Z hr.units) (pv 6) az (bA _)) (mU (fC jD (aP cw (aP cw (aP iM (pv 6) az) (aP iM (pv 6) az)) (pv 7)) (pv 9) (bA _)))))))))))),?_];erw[_,Z,tp,_,Z,ht,Z,_,_,Z,_,_,Z,_,_,Z,_,_,Z,Z,?_];have IS:dB 1 (.list (row.map PyData.int)):=iH.lst (n:=0) λd hd=>by let(z,_,rfl):=dC.mp hd;erw[.int z]
  erw[_,Z,_,Z,.inr #[_,_,HZ hl (mS row),HZ ml (mS row),IS.shaped aw,IS.shaped aw,_,Z,?_]];rw[IS.refl];erw[bf ?_];erw[_,Z,_,_,Z,Z,_,Z,?_];rw[cG (show¬q.num<1 by lia)];erw[bf ?_];erw[_,Z,_,_,Z,Z,jT bn.wn.bits (Bm aw).bits,?_];erw[_,Z,_,Z,_,Z,_,_,Z,Z,.of_left (dh ao ao),_,_,Z,Z,#[aw,aw,ao],_,_,Z,Z,jT bn.wd.bits (Bm ?_).bits,?_]
  ·show((sp*aA)^2).natAbs<2^64
   rw[gI,gI,o8,mH,gz];have:(sp*aA).natAbs*(sp*aA).natAbs<=4000*4000:=nX ao ao
   lia
  erw[_,_,Z,Z,_,Z,?_];rw[cG (show¬q.num*10000>(q.den:Int)*(sp*aA)^(2:Int).toNat by show¬q.num*10000>(q.den:Int)*(sp*aA)^2;lia)];erw[bf ?_];erw[_,Z,.inr #[a,_,4,.int M.t,Z,Z,ha,Z,?_]];erw[_,Z,.inr #[a,_,4,.int M.t,Z,Z,ha,Z,_,_,Z,Z,.of_left (dh ao ao),_,Z,_,_,Z,Z,.of_left (dh ao ao),?_]];erw[_,Z,_,_,Z,Z,_,Z,?_];rw[bM (show T>0 by lia)];erw[bE ?_];erw[_,Z,_,Z,_,_,Z,Z,jT wt.bits wt.bits,_,Z,_,_,Z,Z,jT EL.bits bn.wn.bits,_,Z,_,_,Z,Z,_,Z,?_];rw[bM (show T*T*q.num>=M.t*M.t*(q.den:Int)from Te)];erw[bE ?_];erw[_,Z,.inl #[_,_,Z,Z,_,Z,?_]];by_cases h1:T=1
  ·rw[bM h1]
   erw[bE k]
  ·rw[cG h1]
   erw[bf ?_];erw[_,Z,_,_,Z,Z,_,Z,_,_,Z,Z,_,_,Z,Z,jT MW.bits MW.bits,_,Z,_,_,Z,Z,jT XI.bits bn.wn.bits,_,Z,_,_,Z,Z,?_];rw[bM (show(T-1)*(T-1)*q.num<M.t*M.t*(q.den:Int) by lia)];erw[k]
end
end _a
set_option maxHeartbeats 4000000
namespace _a
open PySem PySem.Spec PyProof.Rows _L _r _l _C _P _W _R
open _O (topR cornO mnO betR atO ownF leadF ownL OkI OkIs)
open _T (numS numIn? Free)
section
theorem lL{n:Nat}(h:n+64<cLine):n+1<cLine:=yj (Nat.add_le_add_left aw n) h
theorem dY{k:Nat}{ty:TE}(hr:cI k X.A)(ho:PE X o td)(hi:PE X i ty)(hs:autoParam (Ek i) d8_._auto_1):PE X (.Subscript o i pos) (Nk td ty):=RJ (lL hr.units) ho hi hs
def fF(p w d r:V):List (Key×V):=[(.inr "place",p),(.inr "waits",w),(.inr "done",d),(.inr "rate",r)]
section
variable {H:Hp} {a:Addr} {p w d r x:V}
theorem dg{v:V}(h:H a=some (.dK aM))(e:jx aM (.inr z)=some v):vE H a (.str z) (some v):=by rw[<-e];erw[vE.k (k:=Sum.inr z) h]
theorem dp{v:V}(h:H a=some (.dK aM))(e:putK aM (.inr z) v=Tp)(hl:aM.length<=13):xX H a (.str z) v (_L.upd H a (.dK Tp)):=by rw[<-e];erw[xX.k (k:=Sum.inr z) h (yj hl aw)]
theorem KD:jx (fF p w d r) (.inr "place")=some p:=by kernel_rfl
theorem kO:jx (fF p w d r) (.inr "waits")=some w:=by kernel_rfl
theorem xu:jx (fF p w d r) (.inr "done")=some d:=by kernel_rfl
theorem a9q:jx (fF p w d r) (.inr "rate")=some r:=by kernel_rfl
theorem a2a:putK (fF p w d r) (.inr "place") x=fF x w d r:=by kernel_rfl
theorem Cj:putK (fF p w d r) (.inr "waits") x=fF p x d r:=by kernel_rfl
theorem IB:putK (fF p w d r) (.inr "done") x=fF p w x r:=by kernel_rfl
theorem a29:putK (fF p w d r) (.inr "rate") x=fF p w d x:=by kernel_rfl
theorem qK:(fF p w d r).length<=13:=by show 4<=13;decide
end
structure hZ(K:aa)(H:Hp)(b la wl:Addr)(S:aU):Prop where
 e:H b=some (.dK (fF (.ref la) (.ref wl) (.int S.dn) (.int S.aA)))
 l:H la=some (.lst ((dj S).map V.int))
 w:∃ys,H wl=some (.lst ys)/\aO K H ys S.ds
theorem hZ.nl{b:Addr}(h:hZ K H b la wl S):b≠la:=iP h.e h.l (by intro z;cases z)
theorem hZ.nw{b:Addr}(h:hZ K H b la wl S):b≠wl:=by let(ys,e,_):=h.w;erw[iP h.e e (by intro z;cases z)]
theorem hZ.same{b:Addr}(h:hZ K H b la wl S)(s:aE H H'):hZ K H' b la wl S:=by let(ys,e,r):=h.w;erw[s _ _ h.e,s _ _ h.l,ys,s _ _ e,aO.mono s _ r]
theorem ad2{pl:List Int}(h:ns.length=pl.length)(k:Nat):dH (dH pl (fP ns k)) (gC ns k)=dH pl (fP ns (k+1)):=by
 apply yw;intro i;unfold dH fP gC;simp only[Xj,cv];cases pl[i]? <;>cases ns[i]? <;>simp
 lia
theorem ad1{pl:List Int}(h:ns.length=pl.length)(hq:0<aK ns):dH pl (fP ns 0)=pl:=by
 apply yw;intro i;unfold dH fP;simp only[Xj,cv];by_cases hi:i<pl.length
 ·rw[cE hi,cE (show i<ns.length by lia)]
  simp[J3 (show(0:Int)<(aK ns:Int) by lia)]
 ·rw[nZ ao]
theorem Zq(hq:0<aK ns):fP ns (aK ns)=ns:=by
 unfold fP;have:(λz=>eX ((aK ns:Int)*z) (aK ns:Int))=λz=>z:=by funext z;erw[a4R ao]
 rw[this,List.map_id']
theorem Rx(eo:S.os[0]? =some (some (ns,sp)))(h:ns.length=S.pl.length)(hq:0<aK ns):dj S=dH S.pl (fP ns S.dn):=by
 unfold dj;by_cases h0:S.dn=0
 ·rw[bo h0,h0];exact(ad1 h hq).symm
 ·rw[bj h0,eo]
theorem a1A(eo:S.os[0]? =some (some (ns,sp)))(h:ns.length=S.pl.length)(hq:0<aK ns)(hd:S.dn<aK ns):dH (dj S) (gC ns S.dn)=dj (fQ ns (eY M S ns sp)):=by
 rw[Rx eo h hq,ad2 h];unfold fQ;by_cases he:S.dn+1=aK ns
 ·rw[bo (show(eY M S ns sp).dn=aK ns from he)]
  obtain⟨kb,jH⟩:∃kb,S.os=some (ns,sp)::kb:=by cases e:S.os with |nil=>rw[e]at eo;simp at eo |cons a r=>rw[e]at eo;cases eo;erw[r,rfl]
  have e1:((S.dn:Int)+1)=(aK ns:Int):=by lia
  rw[e1,Zq hq];unfold dj gG;have:(eY M S ns sp).os=some (ns,sp)::kb:=jH;rw[this];rfl
 ·rw[bj (show¬(eY M S ns sp).dn=aK ns from he)]
  unfold dj;rw[bj (show¬(eY M S ns sp).dn=0 from Nat.succ_ne_zero _)];have:(eY M S ns sp).os[0]? =some (some (ns,sp)):=eo;rw[this];show _=dH S.pl (fP ns ((S.dn+1:Nat):Int));rfl
theorem MS(f:Int->Int->Int)(g h:Int->Int):∀ns:List Int,lX f (ns.map g) (ns.map h)=ns.map λz=>f (g z) (h z) |[]=>rfl |x::xs=>by show f (g x) (h x)::lX f (xs.map g) (xs.map h)=_;rw[MS f g h xs];rfl
theorem a0B(k:Nat):lX (λa b=>a-b) (fP ns ((k:Int)+1)) (fP ns (k:Int))=gC ns k:=MS _ _ _ ns
theorem MY(h:lR y):SeqAt.shaped (.str y)=true/\¬y="line":=by rcases h with rfl|rfl|rfl<;>erw[aG,aG]
theorem ON(d:ag)(S:aU):(cX d S).os=S.os/\(cX d S).ds=S.ds/\(cX d S).dn=S.dn/\(cX d S).pl=S.pl/\(cX d S).aA=S.aA:=by
 unfold cX;split
 ·split
  ·erw[Z,Z,Z,Z,Z]
  ·split<;>erw[Z,Z,Z,Z,Z]
 ·erw[Z,Z,Z,Z,Z]
theorem a2j{D:Nat}(ok:cF M D S)(eo:S.os[0]? =some none):(gG (cX e S)).dn=0/\(gG (cX e S)).aA=S.aA/\(gG (cX e S)).ds=S.ds.tail/\dj (gG (cX e S))=dj S/\S.dn=0:=by
 have d0:S.dn=0:=by
  rcases ok.dn with e|⟨mV,mQ,e1,e2⟩
  ·erw[e]
  ·rw[eo]at e1;cases e1
 let(f1,f2,f3,f4,f5):=ON e S;obtain⟨kb,jH⟩:∃kb,S.os=none::kb:=by cases e:S.os with |nil=>rw[e]at eo;simp at eo |cons a r=>rw[e]at eo;cases eo;erw[r,rfl]
 rw[jH]at f1;unfold gG;rw[f1];erw[Z,f5,by show(cX e S).ds.tail=_;rw[f2],?_,d0];unfold dj;rw[bo d0,bo rfl];erw[f4]
theorem ints_map_inj:∀{a b:List Int},a.map PyData.int=b.map PyData.int->a=b |[],[],_=>rfl |[],_::_,h=>nomatch h |_::_,[],h=>nomatch h |x::a,y::b,h=>by injection h with h1 h2;injection h1 with h1;rw[h1,ints_map_inj h2]
def p9(H:Hp)(l l':Addr):Prop:=l'=l\/H l'=none
inductive aei(K:aa)(vs:List V)(H:Hp)(Q:VK):Prop |mk (m:V)(b:Addr)(la:Addr)(wl:Addr)(M:aY)(D:Nat)(S:aU)(S1:aU)(e:ag)(h0:vs=[m,.ref b,.str (iC e)])(h1:RD K H m (aY.D M))(h2:hZ K H b la wl S)(h3:RG M D S)(h4:One M S e S1)(h5:∀dF cY H',hZ K H' b dF cY S1->bR [b] H H'->p9 H la dF->p9 H wl cY->Q (.bl true) H')
def Of(K:aa):Sp:=λvs H Q _=>aei K vs H Q
theorem PH:bu ["_law_machine_here","_law_book","_law_text","_law_item_here","_law_ahead","_law_row","_law_entry"] ["_law_machine_here","_law_book","_law_text"] (aW Gu):=bF aG
theorem a3l(F:FA K mg "_law_one_told" Gu)(B:bK mg)(Ks:aF P w K mg au "_law_item_text" 1 (yQ K))(Dx:aF P w K mg au "_law_stand" 1 (Ff K))(a8X:aF P w K mg au "_law_read_step" 1 (O4 K))(a8V:aF P w K mg au "_law_step_right" 1 (O3 K)):aF P w K mg au "_law_one_told" 2 (Of K):=by
 exists F.has,PH,lQ λ_ _ _=>rfl
 ·let(m,b,la,wl,M,D,S,S1,e,rfl,rm,bk,g,one,k):=h
  have nd:=PH.nd;let(ys,hw,eU):=bk.w;have ok:=g.ok;have aL:=g.aL;erw[_,(aB (pS 3 nd (px K (dY hr (pv 1) ba) az)) (aB (bN (bS (mW K Z hr.units) (px K (pv 3) az) ba (bA _)) (aB (pQ (lL hr.units) (pv 1) ba (uA (ug K Z) (dY hr (pv 1) ba) (rL az) wA) Z) (aI (aV (fC kg (pv 2) (pf Ks hr (ak (pv 3) ay)) (bA _))))) bQ) (aB (pS 4 nd (pf Dx hr (ak (px K (pv 3) az) (ak (dY hr (pv 1) ba) ay)))) (aB (uy (i0:=5) nd Z (Or.inl Z) (N:=["_law_one","_law_other"]) (js:=[none,none]) Z Z Z (m7 K Z true true Z (B.at "zip") (ak (pf Dx hr (ak (px K (pv 3) az) (ak (aP dw (dY hr (pv 1) ba) az) ay))) (ak (pv 4) ay))) (λ_ _ _ _ _=>(eM K rfl (n:=2) rfl (bU (bh 0 (gj aw)) (bU (bh 1 (gj aw)) eK)))) (λ_ _ _ _ _=>dM) (λ_ _ _ _ _=>(aP iM (pv 0) (pv 1)))) (aB (pS 6 nd (pf a8X hr (ak (pv 2) (ak (dZ K B (ak (px K (pv 0) az) ay)) ay)))) (aB (bN (PW.pt (j6 (bS Cm (pv 6) gU (bA _)) (jB (dv (cL (pf a8V hr (ak (pv 0) (ak (pv 6) (ak (pv 5) (ak (px K (pv 3) az) (ak (dY hr (pv 1) ba) ay))))))))))) (aI (aV jC)) bQ) (aB (pQ (lL hr.units) (pv 1) ba (fA (N:=["_law_at","_law_step"]) (js:=[none,none]) Z Z Z (m7 K Z true true Z (B.at "zip") (ak (dY hr (pv 1) ba) (ak (pv 5) ay))) (λ_ _ _ _ _=>(eM K rfl (n:=2) rfl (bU (bh 0 (gj aw)) (bU (bh 1 (gj aw)) eK)))) (λ_ _ _ _ _=>dM) (λ_ _ _ _ _=>(aP dw (pv 0) (pv 1)))) rfl) (aB (pQ (lL hr.units) (pv 1) ba (aP dw (dY hr (pv 1) ba) az) Z) (aB (ij (bN (bS (dQ K Z hr.units) (dY hr (pv 1) ba) (fg (x:="max") (Jj K Z Z) Z (B.at "max") Mz (ak (fA (N:=["_law_step"]) (js:=[none]) rfl rfl rfl (kH K rfl (px K (pv 3) az)) (λ_ _ _ _ _=>(bh 0 (jk _))) (λ_ _ _ _ _=>dM) (λ_ _ _ _ _=>(fg (x:="abs") nP rfl (B.at "abs") pk (ak (pv 0) ay)))) ay)) (bA _)) (aB (pQ (lL hr.units) (pv 1) ba (uA (ug K Z) (dY hr (pv 1) ba) (rL az) wA) Z) (aI (pQ (lL hr.units) (pv 1) ba az Z))) bQ)) (aI (aV jC))))))))))),?_];cases one with
  |@iL _ eo ed nh=>
   let(y0,ey,ry):=eU.get 0 ed;let(o,eD,it):=ok.item ed;rw[eo]at eD;cases eD;have tx:=ok.tx aL e (fO ed);have nl:∀ns sp,e≠du ns sp:=λns sp ee=>by
    rcases it.it with⟨_,_,_,z⟩|⟨w,x,e2,hw,_⟩
    ·cases z
    ·rw[e2]at ee
     erw[tZ (show lR w from hw) #[ns,sp,ee]]
   rcases vW ry tx.ti with⟨ns,sp,_,_,ee,_⟩|⟨wd,u,a,yv,ee,D6,rfl,xh,_⟩
   ·exact(nl ns sp ee).elim
   let(yz,EN):=MY D6;erw[_,Z,b,_,Z,dg bk.e kO,.inl #[wl,ys,0,.ref a,Z,Z,aD.of hw,cN (eJ 0) ey,?_]];erw[_,Z,.inr #[a,_,0,.str wd,Z,Z,xh,Z,.inr #[_,_,bT _,bT _,yz,kj,_,Z,?_]]];rw[lO,cG EN];erw[bE ?_];erw[_,Z,b,_,Z,dg bk.e kO,_,Z,wl,_,Z,.inl #[aD.of hw,λl2 H1 n1=>#[_,Z,b,_,Z,dp (n1.same _ _ bk.e) Cj qK,?_]]];have d1:=n1.at';rw[Lp]at d1;have e1:=n1.same _ _ bk.e;have v2:cB H1 (_L.upd H1 b (.dK (fF (.ref la) (.ref l2) (.int S.dn) (.int S.aA)))):=.upd e1 trivial;have vH:=n1.same.v.trans v2;erw[_,Z,_,Z,.ref a,e,Z,RD.v vH _ it.it.no ry,tx.ti,λH2 s2=>?_];let(q1,q2,q3,q4,q5):=a2j (e:=e) ok eo;have bH:bR [b] H H2:=λx o' ex hx=>s2 _ _ (by rw[aQ (λz=>hx (by rw[z];erw[.head _]))];erw[n1.same _ _ ex]);have n2:H l2=none:=n1.no;erw[Z,?_];rw[DS tx.ti nl,bM rfl];have lb:l2≠b:=λz=>by rw[z,bk.e]at n2;cases n2
   erw[k la l2 H2 #[?_,?_,ys.drop 1,s2 _ _ (by rw[aQ lb];erw[d1]),?_] bH (.inl Z) (.inr n2)]
   ·rw[q1,q2]
    have:H2 b=_:=s2 _ _ bP;rw[q5]at this;erw[this]
   ·rw[q4]
    erw[bH _ _ bk.l (λz=>bk.nl (cn.mp z).symm)]
   ·rw[q3]
    have r2:=aO.mono s2 _ (aO.v vH _ ok.row.no eU);cases iy:S.ds with |nil=>rw[iy]at ed;cases ed |cons d0 Lf=>rw[iy]at r2;let(u0,us,eu,_,r3):=r2.cons_inv;rw[eu];erw[r3]
  |@line ns sp eo nh=>
   obtain⟨d0,ed,xf⟩:∃d0,S.ds[0]? =some d0/\d0=du ns sp:=by
    have hl:0<S.ds.length:=by rw[ok.row.len];exact(dW.mp eo).1
    erw[S.ds[0],cE hl,?_];rcases ok.row.it 0 _ _ (cE hl) eo with⟨mV,mQ,e1,e2⟩|⟨_,_,_,_,_,e2⟩
    ·cases e2;erw[e1]
    ·cases e2
   subst xf;let(y0,ey,ry):=eU.get 0 ed;let(a,bb,rfl,ha,uX):=oK ry;let(cT,wc,yU):=ok.row.ok 0 ns sp eo;have n3:=aL.n3;have si:=cT.len;have rO:fo ns.length 100 ns:=#[Z,cT.bd,cT.nz];have hd:S.dn<aK ns:=by
    rcases ok.dn with e|⟨mV,mQ,e1,e2⟩
    ·rw[e];erw[cT.lead.1]
    ·rw[eo]at e1;cases e1;erw[e2]
   have JA:=cT.lead.2;have hn:S.os≠[]:=λe=>by rw[e]at eo;simp at eo
   let(R1,R2):=C9 ok.raw aL hn;have D1:=ok.D1;have hD:=g.hD;have uw:=aL.r1;have qB:=aL.f1;have mD:=Jh (r:=M.r) (f:=M.f) (left:=(aK ns:Int)-S.dn) ao ao ao ok.pd ((Bw S.aA sp).mono ao) (R1.mono ao) ok.aR nh;have mT:gJ M S ns sp<=topR S.aA sp:=Jf;have mL:gJ M S ns sp<=1600:=eT mT (yE wc yU ok.dP ok.eQ);have mP:0<gJ M S ns sp:=Jg uw.1 qB.1 ao ok.pd.nn (EW wc ok.dP) R1.nn ok.aR nh;have bd:Bd 1700 (gJ M S ns sp):=(mD.bd (eT mL aG)).mono ao;have te:=(One.line (M:=M) eo nh).yF ok aL hD;obtain⟨rN,tN,pN,qN⟩:(∀n∈gC ns S.dn,Nm n)/\iW (lY M.t (gJ M S ns sp))/\iW (gJ M S ns sp).num/\iW ((gJ M S ns sp).den:Int):=by
    rcases te with⟨ti,Uj⟩|⟨ms,t,x,y,ee,h3,h4,h5,h6,h7⟩
    ·rcases ti with⟨ms,afX,ee,_⟩|⟨w',i,ee,_⟩|⟨w',z,ee,_⟩<;>cases ee
    ·have ee:PyData.tuple [.str "step",.tuple ((gC ns S.dn).map PyData.int),.int (lY M.t (gJ M S ns sp)),.tuple [.int (gJ M S ns sp).num,.int ((gJ M S ns sp).den:Int)]]=_:=ee
     injection ee with ee;injection ee with _ ee;injection ee with e1 ee;injection ee with e2 ee;injection ee with e3 _;injection e1 with e1;injection e2 with e2;injection e3 with e3;injection e3 with e3 e4;injection e4 with e4 _;injection e3 with e3;injection e4 with e4;have e1:gC ns S.dn=ms:=ints_map_inj e1;rw[e1,e2,e3,e4];erw[h4,h5,h6,h7]
   have ez:iC (sj M S ns sp)="step "++fW (gC ns S.dn)++" "++numS (lY M.t (gJ M S ns sp))++" "++eZ (gJ M S ns sp).num ((gJ M S ns sp).den:Int):=DR _ _ _ _;have rZ:(gC ns S.dn).length=M.rs.length:=by unfold gC;rw[bV,si]
   let(ma,mb,rfl,jo,kl):=oH rm;rw[ez];erw[_,Z,b,_,Z,dg bk.e kO,.inl #[wl,ys,0,.ref a,Z,Z,aD.of hw,cN (eJ 0) ey,?_]];erw[_,Z,.inr #[a,_,0,.str "line",Z,Z,ha,Z,.inr #[_,_,bT _,bT _,kj,kj,_,Z,?_]]];rw[lO,bM rfl];erw[bf ?_];erw[_,Z,.inr #[a,_,1,.ref bb,Z,Z,ha,Z,_,Z,b,_,Z,dg bk.e xu,bb,ns,(S.dn:Int),Z,uX,rO,ao,ao,ao,λl1 H1 n1 d1 s1=>?_]];erw[_,Z,.inr #[a,_,1,.ref bb,Z,Z,ha.go s1,Z,_,Z,b,_,Z,dg (s1 _ _ bk.e) xu,_,_,Z,Z,bb,ns,(S.dn:Int)+1,Z,uX.go s1,rO,ao,ao,ao,λl2 H2 n2 d2 s2=>?_]];have xI:=s2 _ _ d1;erw[_,Z,l2,l1,Z,#[_,aD.of d2],#[_,aD.of xI],λDr H3 Ja=>?_];erw[Ap (b1:=true) (b2:=true) (λa b=>a-b) _ Z (aD.of d2) (aD.of xI) Ja (by simp[fP]) (by simp[fP];lia) (λu v H' Q' s' q'=>#[_,Z,_,Z,_,_,Z,Z,q']) λH4 s4 d4=>?_];rw[a0B]at d4;have ui:=s1.trans (s2.trans s4);erw[_,Z,_,Z,.inr #[ma,_,0,.ref mb,Z,Z,jo.go ui,Z,mb,_,Z,.inr (kl.go ui),?_]];erw[gC ns S.dn,_,_,_,by rw[bV,rZ],λz=>by rw[z]at rZ;simp at rZ;lia,ao,rN,tN,pN,qN,λtp lr H5 DW htp s5=>?_];have jX:=ui.trans s5;have Lo:=s5 _ _ d4;erw[_,Z,Z,_,Z,bf ?_];erw[_,Z,_,Z,_,Z,_,Z,.inr #[a,_,2,.int sp,Z,Z,ha.go jX,Z,_,Z,b,_,Z,dg (jX _ _ bk.e) a9q,?_]];erw[.ref ma,tp,Dr,lr,M,gC ns S.dn,gJ M S ns sp,sp,S.aA,Z,RD.mono jX _ rm,aL,htp,aD.of DW,aD.of Lo,ao,wc,yU,ok.dP,ok.eQ,mP,mT,bd,_,Z,bf ?_];have Ul:=jX _ _ bk.l;have SU:=Ce ok;erw[_,Z,b,_,Z,dg (jX _ _ bk.e) KD,_,Z,la,Dr,Z,#[_,aD.of Ul],#[_,aD.of Lo],λDp H6 n6=>?_];erw[Ap (b1:=true) (b2:=true) (λa b=>a+b) _ Z (aD.of Ul) (aD.of Lo) n6 (by rw[SU,rZ]) ao (λu v H' Q' s' q'=>#[_,Z,_,Z,_,_,Z,Z,q']) λH7 s7 d7=>?_];rw[Bh,a1A (M:=M) eo (by rw[si,ok.pl]) cT.lead.1 hd]at d7;have wo:=jX.trans s7;erw[_,Z,b,_,Z,dp (wo _ _ bk.e) a2a qK,?_];erw[_,Z,b,_,Z,dg bP xu,_,_,Z,Z,_,Z,b,_,Z,dp bP IB qK,?_];rw[ET];have J8:H Dp=none:=by cases e:H Dp with |none=>rfl |some o=>have:=jX _ _ e;rw[n6.no]at this;cases this
   have pb:Dp≠b:=λz=>by rw[z,bk.e]at J8;cases J8
   generalize hG:_L.upd H7 b (.dK (fF (.ref Dp) (.ref wl) (.int ((S.dn:Int)+1)) (.int S.aA)))=HG;have eG:HG b=some (.dK (fF (.ref Dp) (.ref wl) (.int ((S.dn:Int)+1)) (.int S.aA))):=by rw[<-hG];erw[bP]
   have vG:cB H7 HG:=by rw[<-hG];erw[.upd (wo _ _ bk.e) trivial]
   have bG:bR [b] H HG:=λx o' ex hx=>by rw[<-hG,aQ (λz=>hx (by rw[z];erw[.head _]))];erw[wo _ _ ex]
   have dG:HG Dp=some (.lst ((dj (fQ ns (eY M S ns sp))).map V.int)):=by rw[<-hG,aQ pb];erw[d7]
   have wG:=bG _ _ hw (λz=>bk.nw (cn.mp z).symm);have rG:aO K HG ys S.ds:=aO.v (wo.v.trans vG) _ ok.row.no eU;have Ku:bc K HG a [.str "line",.ref bb,.int sp]/\bc K HG bb (ns.map V.int):=#[bc.v (wo.v.trans vG) ha,bc.v (wo.v.trans vG) uX];erw[λ_ H'=>∃cY,hZ K H' b Dp cY (fQ ns (eY M S ns sp))/\bR [b] H H'/\p9 H wl cY,?_,λO H' #[cY,h1,h2,h3]=>k Dp cY H' h1 h2 (.inr J8) h3];erw[_,Z,b,_,Z,dg eG xu,_,Z,.inr #[a,_,1,.ref bb,Z,Z,Ku.1,Z,bb,Z,#[_,Ku.2],λD8 H8 n8=>?_]];erw[qI (K:=K) (xs:=ns.map V.int) (ds:=(ns.map gP).map PyData.int) [] Ku.2 n8 (by simp) (by simp;lia) (ki _) ?_ ?_]
   ·intro i x d H9 Q' ex mE s9 hq
    let(m,em,rfl):=lI mE;rw[cv]at em;cases en:ns[i]? with |none=>rw[en]at em;cases em |some n=>rw[en]at em;cases em;cases x9 ex en;erw[_,Z,n,Z,hq _ _ (aE.refl _) (fJ _)]
   intro H9 zs s9 d9 r9;rw[r9.fL]at d9;erw[D8,_,Z,aD.of d9,by simpa using rO.ne,λMx h1 h2=>?_];rw[Jw rO.ne h1 h2];erw[.inl #[_,_,Z,Z,_,Z,?_]];have e9:=s9 _ _ eG;have w9:=s9 _ _ wG;by_cases he:S.dn+1=aK ns
   ·rw[bM (show((S.dn:Int)+1)=(aK ns:Int) by lia)]
    erw[bE ?_];erw[_,Z,b,_,Z,dg e9 kO,_,Z,wl,_,Z,.inl #[aD.of w9,λl5 HA nA=>#[_,Z,b,_,Z,dp (nA.same _ _ e9) Cj qK,?_]]];erw[_,Z,b,_,Z,dp bP IB qK,?_];rw[ET];have dA:=nA.at';rw[Lp]at dA;have eA:=nA.same _ _ e9;have vA:cB HA (_L.upd HA b (.dK (fF (.ref Dp) (.ref l5) (.int 0) (.int S.aA)))):=.upd eA trivial;have n5:H l5=none:=by cases e:H l5 with |none=>rfl |some o=>
     by_cases z:l5=b
     ·rw[z]at nA;rw[nA.no]at e9;cases e9
     ·have:=s9 _ _ (bG _ _ e (λy=>z (cn.mp y)));rw[nA.no]at this;cases this
    have lb:l5≠b:=λz=>by rw[z,bk.e]at n5;cases n5
    obtain⟨kb,jH⟩:∃kb,S.os=some (ns,sp)::kb:=by cases e:S.os with |nil=>rw[e]at eo;simp at eo |cons x r=>rw[e]at eo;cases eo;erw[r,rfl]
    have eN:fQ ns (eY M S ns sp)=gG (eY M S ns sp):=bo (show(eY M S ns sp).dn=aK ns from he);have eD:(eY M S ns sp).os=some (ns,sp)::kb:=jH;have f1:(fQ ns (eY M S ns sp)).dn=0/\(fQ ns (eY M S ns sp)).aA=S.aA/\(fQ ns (eY M S ns sp)).ds=S.ds.tail:=by rw[eN];unfold gG;rw[eD];erw[Z,Z,Z]
    erw[l5,#[?_,?_,ys.drop 1,?_,?_],λx o' ex hx=>?_,.inr n5]
    ·rw[f1.1,f1.2.1];erw[bP]
    ·rw[aQ pb];erw[nA.same _ _ (s9 _ _ dG)]
    ·rw[aQ lb];erw[dA]
    ·rw[f1.2.2]
     have r2:=aO.v vA _ ok.row.no (aO.mono (s9.trans nA.same) _ rG);cases iy:S.ds with |nil=>rw[iy]at ed;cases ed |cons d0 Lf=>rw[iy]at r2;let(u0,us,eu,_,r3):=r2.cons_inv;rw[eu];erw[r3]
    ·rw[aQ (λz=>hx (by rw[z];erw[.head _]))]
     erw[nA.same _ _ (s9 _ _ (bG _ _ ex hx))]
   ·rw[cG (show¬((S.dn:Int)+1)=(aK ns:Int) by lia)]
    erw[bf ?_];have eN:fQ ns (eY M S ns sp)=eY M S ns sp:=bj (show¬(eY M S ns sp).dn=aK ns from he);erw[wl,#[?_,s9 _ _ dG,ys,w9,?_],λx o' ex hx=>s9 _ _ (bG _ _ ex hx),.inl Z]
    ·rw[eN];erw[e9]
    ·rw[eN];erw[aO.mono s9 _ rG]
end
open _T (numS numIn? Free)
section
theorem mZ{b:Str}:c∈(a++b).cps.toList↔c∈a.cps.toList\/c∈b.cps.toList:=by rw[nW,lV,iI]
theorem a4i(h:c≠45)(h1:c<48)(h2:c≠32):Free c (fW ns):=KH (iB (by rw[show(" ":Str).cps.toList=[32] by decide+kernel];simp;erw[λe=>h2 e.symm])) _ λa ha=>by let(i,_,rfl):=dC.mp ha;erw[_T.gX h h1]
theorem a9L:Free 10 (eZ p q):=by
 unfold eZ;split
 ·erw[_T.gX aw aw]
 ·erw[nK (nK (_T.gX aw aw) (iB aG)) (_T.gX aw aw)]
def AO(e:ag):Prop:=Free 10 (iC e)/\32∈(iC e).cps.toList
theorem One.ef{D:Nat}(g:RG M D S)(o:One M S e S1):AO e:=by have ok:=g.ok;have aL:=g.aL;cases o with |@line ns sp eo nh=>have ez:iC (sj M S ns sp)="step "++fW (gC ns S.dn)++" "++numS (lY M.t (gJ M S ns sp))++" "++eZ (gJ M S ns sp).num ((gJ M S ns sp).den:Int):=DR _ _ _ _;unfold AO;rw[ez];erw[nK (nK (nK (nK (nK (iB aG) (a4i aw aw aw)) (iB aG)) (_T.gX aw aw)) (iB aG)) a9L,?_];erw[mZ.mpr (.inl (mZ.mpr (.inl (mZ.mpr (.inl (mZ.mpr (.inl (mZ.mpr (.inl aG)))))))))] |@iL _ eo ed nh=>
 let(o,eD,it):=ok.item ed;rw[eo]at eD;cases eD;have tx:=ok.tx aL e (fO ed);have nl:∀ns sp,e≠du ns sp:=λns sp ee=>by
  rcases it.it with⟨_,_,_,z⟩|⟨w,x,e2,hw,_⟩
  ·cases z
  ·rw[e2]at ee
   erw[tZ (show lR w from hw) #[ns,sp,ee]]
 unfold AO;rw[DS tx.ti nl];erw[tx.fr,?_];rcases tx.ti with⟨ns,sp,ee,_⟩|⟨w,i,ee,hw,_⟩|⟨w,z,ee,hw,_⟩
 ·exact(nl ns sp ee).elim
 ·subst ee
  erw[mZ.mpr (.inl (mZ.mpr (.inr aG)))]
 ·subst ee
  erw[mZ.mpr (.inl (mZ.mpr (.inr aG)))]
theorem RG.run{D:Nat}(g:RG M D S)(r:Run M S es S1):RG M D S1:=#[r.ok g.ok g.aL,g.aL,r.sd g.ok g.aL g.sd,r.II g.ok g.aL g.on,g.hD]
theorem Run.ef{D:Nat}(r:Run M S es S1):RG M D S->∀e∈es,AO e:=by induction r with |nil=>erw[λ_ e he=>nomatch he] |cons o r ih=>
 intro g e he;rcases bI.mp he with rfl|he
 ·erw[o.ef g]
 ·erw[ih (g.run (.cons o (.nil _))) e he]
theorem abt:nN []="none":=by decide+kernel
theorem abr(h:∀e∈es,AO e)(cj:es≠[]):¬nN es="none"/\Txt.split (nN es) "\n"=es.map iC:=by
 have sp:32∈(Txt.join "\n" (es.map iC)).cps.toList:=by cases es with |nil=>exact(cj Z).elim |cons e es=>have h0:=(h e (.head _)).2;cases es with |nil=>erw[h0] |cons e2 es2=>rw[kZ,uQ _ _ _ (by simp)];erw[mZ.mpr (.inl (mZ.mpr (.inl h0)))]
 have e1:nN es=Txt.join "\n" (es.map iC):=by unfold nN Cw;rw[bj];intro e;rw[e]at sp;revert sp;decide+kernel
 rw[e1];erw[λe=>?_,?_]
 ·rw[e]at sp
  revert sp;decide+kernel
 ·rw[a4M]
  erw[_T.uc (by simpa using cj) λz hz=>?_];let(e,he,rfl):=dC.mp hz;exact(h e he).1
structure Sd(K:aa)(C D:Addr)(H:Hp)(a r q b la wl:Addr)(M:aY)(S:aU):Prop where
 dk:jQ K D H a r M
 x:cc K C H r q M S
 bk:hZ K H b la wl S
 ql:q≠la
 qw:q≠wl
theorem cc.ins(x:cc K C H r q M S):∃dx fs,H r=some (.ins C dx fs):=by let(dx,mv,bv,cA,tv,e,_):=x.ob;erw[dx,_,e]
theorem cc.lst{C:Addr}{H:Hp}{r q:Addr}{M:aY}{S:aU}(x:cc K C H r q M S):∃ys,H q=some (.lst ys):=by let(ys,e,_):=x.qu;erw[ys,e]
theorem Sd.rb{C D:Addr}{H:Hp}{a r q b la wl:Addr}{M:aY}{S S':aU}(x:cc K C H r q M S)(bk:hZ K H b la wl S'):r≠b/\r≠la/\r≠wl/\q≠b:=by let(dx,fs,er):=x.ins;let(ys,eq):=x.lst;let(zs,ew,_):=bk.w;erw[iP er bk.e (by intro z;cases z),iP er bk.l (by intro z;cases z),iP er ew (by intro z;cases z),iP eq bk.e (by intro z;cases z)]
theorem jQ.but{D:Addr}(h:jQ K D H a r M)(v:cB H H')(ea:∀o,H a=some o->H' a=some o):jQ K D H' a r M:=by let(dx,mv,e,rm):=h;erw[dx,mv,ea _ e,RD.v v _ (gF _ _ _ _ _) rm]
theorem hZ.but{b:Addr}(h:hZ K H b la wl S)(no:cH S.ds=true)(v:cB H H')(k:∀x o,H x=some o->x∈[b,la,wl]->H' x=some o):hZ K H' b la wl S:=by let(ys,e,r):=h.w;erw[k _ _ h.e (by simp),k _ _ h.l (by simp),ys,k _ _ e (by simp),aO.v v _ no r]
theorem xF{D:Addr}{b:Addr}(dk:jQ K D H a r' M')(x:cc K C H r q M S)(bk:hZ K H b la wl S'):a≠r/\a≠q/\a≠b:=by let(dx,mv,ea,_):=dk;let(rx,mv',bv,cA,tv,er,_):=x.ob;let(ys,eq):=x.lst;erw[iP ea er (by intro z;injection z with _ _ z;cases z),iP ea eq (by intro z;cases z),iP ea bk.e (by intro z;cases z)]
def ja(H:Hp)(F:List Addr)(x:Addr):Prop:=x∈F\/H x=none
structure Kp(H H':Hp)(r q b la wl q' dF cY:Addr):Prop where
 but:bR [r,q,b] H H'
 nq:ja H [r,q,b] q'
 nl:ja H [r,q,b,la,wl] dF
 nw:ja H [r,q,b,la,wl] cY
theorem Kp.refl{b:Addr}:Kp H H r q b la wl q la wl:=#[bR.refl _ _,.inl (by simp),.inl (by simp),.inl (by simp)]
theorem Av(h:bR F H H')(e:H' x=none):ja H F x:=by
 by_cases hx:x∈F
 ·erw[.inl hx]
 ·erw[.inr ?_]
  cases h1:H x with |none=>rfl |some o=>rw[h _ _ h1 hx]at e;cases e
theorem ja.f{b:Addr}(h:ja H [r,q,b] x):ja H [r,q,b,la,wl] x:=h.imp (λe=>by
 simp only[bI,ck,cJ]at e⊢;rcases e with e|e|e
 ·erw[.inl e]
 ·erw[.inr (.inl e)]
 ·erw[.inr (.inr (.inl e))]) id
theorem Kp.trans{b:Addr}(h1:Kp H H1 r q b la wl q1 cD cC)(h2:Kp H1 H2 r q1 b cD cC q2 cV cP):Kp H H2 r q b la wl q2 cV cP:=by
 have f0:∀{x:Addr},ja H1 [r,q1,b] x->ja H [r,q,b] x:=λ{x} h=>by
  rcases h with h|h
  ·simp only[bI,ck,cJ]at h
   rcases h with rfl|rfl|rfl
   ·erw[.inl (by simp)]
   ·erw[h1.nq]
   ·erw[.inl (by simp)]
  ·erw[Av h1.but h]
 have fx:∀{x:Addr},ja H1 [r,q1,b,cD,cC] x->ja H [r,q,b,la,wl] x:=λ{x} h=>by
  rcases h with h|h
  ·simp only[bI,ck,cJ]at h
   rcases h with rfl|rfl|rfl|rfl|rfl
   ·erw[.inl (by simp)]
   ·erw[h1.nq.f]
   ·erw[.inl (by simp)]
   ·erw[h1.nl]
   ·erw[h1.nw]
  ·exact(Av h1.but h).f
 erw[λx o e hx=>h2.but _ _ (h1.but _ _ e hx) λz=>?_,f0 h2.nq,fx h2.nl,fx h2.nw];simp only[bI,ck,cJ]at z;rcases z with rfl|rfl|rfl
 ·erw[hx (by simp)]
 ·rcases h1.nq with e1|e1
  ·erw[hx e1]
  ·rw[e]at e1;cases e1
 ·erw[hx (by simp)]
theorem Kp.same{b:Addr}(h:Kp H H1 r q b la wl q1 cD cC)(s:aE H1 H2):Kp H H2 r q b la wl q1 cD cC:=#[λx o e hx=>s _ _ (h.but _ _ e hx),h.nq,h.nl,h.nw]
theorem Sd.same{D:Addr}{b:Addr}(h:Sd K C D H a r q b la wl M S)(no:cH S.ds=true)(s:aE H H'):Sd K C D H' a r q b la wl M S:=#[h.dk.but s.v λo e=>s _ _ e,h.x.same no s,h.bk.same s,h.ql,h.qw]
inductive adU(K:aa)(C:Addr)(D:Addr)(vs:List V)(H:Hp)(Q:VK):Prop |mk (m:V)(a:Addr)(r:Addr)(q:Addr)(b:Addr)(la:Addr)(wl:Addr)(M:aY)(D':Nat)(S:aU)(n:Int)(h0:vs=[m,.ref a,.ref b,.int n])(h1:RD K H m (aY.D M))(h2:Sd K C D H a r q b la wl M S)(h3:RG M D' S)(h4:0<=n)(h5:n<=100)(h6:∀es S' q' dF cY H',Run M S es S'->(es.length:Int)<=n->((es.length:Int)=n\/S'.os=[]\/Halt S'.pc S'.aR)->Sd K C D H' a r q' b dF cY M S'->Kp H H' r q b la wl q' dF cY->Q (.int (es.length:Nat)) H')
def Fg(K:aa)(C D:Addr):Sp:=λvs H Q _=>adU K C D vs H Q
theorem Zj(n:Int):("steps ":Str)++numS n=jR.txt (.steps n):=by show _="steps"++" "++numS n;rw[show("steps ":Str)="steps"++" " by decide+kernel]
theorem P5:bu ["_law_machine_here","_law_desk","_law_book","_law_many","_law_told","_law_rows","_law_text"] ["_law_machine_here","_law_desk","_law_book","_law_many"] (aW FV):=bF aG
theorem a2K{D:Addr}(F:FA K mg "_law_steps_told" FV)(B:bK mg)(DC:lU K D)(mC:cQ P w K mg au D "say" 14 (λvs H Q _=>rC K C D R vs H Q E0))(a8Z:aF P w K mg au "_law_one_told" 2 (Of K)):aF P w K mg au "_law_steps_told" 15 (Fg K C D):=by
 exists F.has,P5,xN λ_ _ _ _=>rfl
 ·let(m,a,r,q,b,la,wl,M,D',S,n,rfl,rm,sd,g,n0,n1,k):=h
  have nd:=P5.nd;have iA:sizeLine=16777216:=by decide
  have nm:Nm n:=by show n.natAbs<10^40;lia
  have e6:Str.length "steps "=6:=by decide+kernel
  have ag8:=gf nm;let(dx,mv,ea,pM):=id sd.dk;erw[_,(aB (pS 4 nd (kJ mC DC.cl (hr.mono aw) (pv 1) (ak (aP oA ba (cZ (x:="str") jL Z (B.at "str") je (ak (pv 3) ay))) ay))) (aB (ij (pS 5 nd (ka (bS kg (pv 4) ba (bA _)) (fc ay) (uC K Z (pv 4) (ak ba ay))))) (aB (m6 iZ Z (oo K Z (pv 5)) (bh 6 nd) (aI (bN (PW.pt (j6 (bS (dQ K Z hr.units) (dZ K B (ak (dY hr (pv 2) ba) ay)) az (bA _)) (jB (dv (cL (pf a8Z hr (ak (pv 0) (ak (pv 2) (ak (pv 6) ay))))))))) (aI (aV gU)) bQ))) (aB (bN (bS IG (kJ mC DC.cl (hr.mono aw) (pv 1) (ak ba ay)) (wC K Z ba (ak (fA (N:=["_law_at"]) (js:=[none]) Z Z Z (oo K Z (dY hr (pv 2) ba)) (λ_ _ _ _ _=>(bh 0 (jk _))) (λ_ _ _ _ _=>dM) (λ_ _ _ _ _=>(cZ (x:="str") jL Z (B.at "str") je (ak (pv 0) ay)))) ay)) (bA _)) (aI (aV gU)) bQ) (aI (aV (ka (bS zk (dZ K B (ak (pv 5) ay)) (pv 3) (bA _)) (dZ K B (ak (pv 5) ay)) gU))))))),?_];erw[_,Z,a,dx,_,Z,ea,Z,_,Z,.inl #[n,Z,kL nm,_,_,Z,Z,by show Str.length "steps "+(numS n).length<=_;lia,?_]];erw[a,r,q,M,D',S,.steps n,kr (λz=>[V.ref a,V.str z]) (Zj n),sd.dk,sd.x,g,n0,n1,λes S' q' H1 run he ny R1 wZ=>?_];have ef:=run.ef g;have g':=g.run run;let(oE,wR,wQ,pX):=Sd.rb (D:=D) (a:=a) sd.x sd.bk;let(wV,wW,rX):=xF sd.dk sd.x sd.bk;have v1:=sd.x.v wZ.but;have qJ:hZ K H1 b la wl S:=sd.bk.but g.ok.row.no v1 λx o e hx=>wZ.but x o e λz=>by
   simp only[bI,ck,cJ]at hx z;rcases hx with rfl|rfl|rfl<;>rcases z with z|z
   ·erw[oE z.symm]
   ·erw[pX z.symm]
   ·erw[wR z.symm]
   ·erw[sd.ql z.symm]
   ·erw[wQ z.symm]
   ·erw[sd.qw z.symm]
  have Aj:jQ K D H1 a r M:=sd.dk.but v1 λo e=>wZ.but _ _ e λz=>by simp only[bI,ck,cJ]at z;erw[z.elim wV wW]
  have HU:RD K H1 m (aY.D M):=RD.v v1 _ (gF _ _ _ _ _) rm;erw[λO H2=>∃l2 v6,O=[some m,some (.ref a),some (.ref b),some (.int n),some (.str (nN es)),some (.ref l2),v6]/\H2 l2=some (.lst ((es.map iC).map V.str))/\aE H1 H2/\H1 l2=none,?_,?_]
  ·erw[_,Z,Z,_,Z,?_]
   by_cases cj:es=[]
   ·subst cj
    rw[abt,bM rfl];erw[bE #[fT _,λl2 H2 n2=>#[l2,_,Z,n2.at',n2.same,n2.no]]]
   ·let(x1,x2):=abr ef cj
    rw[cG (λz=>x1 (by injection z))];have te:=run.yF g.ok g.aL g.hD;have hj:=CO "\n" (B:=2000) (es.map iC) (λz hz=>by let(d,hd,rfl):=dC.mp hz;erw[L7 (te d hd)]);have Sn:Str.length "\n"=1:=by decide+kernel
    rw[Sn,bV]at hj;have qp:es.length*(2000+1)<=100*2001:=Xd _ ao;have hl:(nN es).length<=300000:=by
     unfold nN Cw;split
     ·have:Str.length "none"=4:=by decide+kernel
      lia
     ·lia
    erw[bf #[_,Z,Z,_,"\n",Z,Z,aG,ao,λl2 H2 n2=>?_]];rw[x2]at n2;erw[l2,_,Z,n2.at',n2.same,n2.no]
  rintro O H2 ⟨l2,v6,rfl,d2,s2,Sm⟩;have ur:=qJ.same s2;erw[_,Z,l2,Z,#[_,aD.of d2],DH (K:=K) (a:=l2) (xs:=(es.map iC).map V.str) (λi O H3=>∃Si oN o9,Run M S (es.take i) Si/\Run M Si (es.drop i) S'/\hZ K H3 b oN o9 Si/\bR [b] H2 H3/\p9 H2 la oN/\p9 H2 wl o9/\∃v6,O=[some m,some (.ref a),some (.ref b),some (.int n),some (.str (nN es)),some (.ref l2),v6]) ?_ ?_ ?_ ?_]
  ·erw[S,la,wl,.nil _,run,ur,bR.refl _ _,.inl Z,.inl Z,v6,Z]
  ·rintro i O H3 _ ⟨Si,oN,o9,_,_,_,bt,_⟩
   erw[aD.of (bt _ _ d2 λz=>by rw[cn.mp z,ur.e]at d2;cases d2)]
  ·rintro i x O H3 hx ⟨Si,oN,o9,r1,r2,sY,bt,Cy,Cu,XZ,rfl⟩
   rw[cv,cv]at hx;obtain⟨e,ee,rfl⟩:∃e,es[i]? =some e/\V.str (iC e)=x:=by cases h:es[i]? with |none=>rw[h]at hx;cases hx |some e=>rw[h]at hx;cases hx;erw[e,rfl,rfl]
   have gi:=g.run r1;have ed:es.drop i=e::es.drop (i+1):=by have hi:=(dW.mp ee).1;rw[List.drop_eq_getElem_cons hi];rw[cE hi]at ee;cases ee;rfl
   rw[ed]at r2;cases r2 with |cons o r3=>
    rename_i S1;have vU:cB H2 H3:=bt.v λx hx o eo=>by rw[cn.mp hx,ur.e]at eo;cases eo;trivial
    have rm3:RD K H3 m (aY.D M):=RD.v vU _ (gF _ _ _ _ _) (RD.mono s2 _ HU);let(ys,hw,rys):=sY.w;have xl:0<ys.length:=by rw[rys.length,gi.ok.row.len];cases o with |line eo _=>exact(dW.mp eo).1 |iL eo _ _=>exact(dW.mp eo).1
    erw[_,Z,b,_,Z,dg sY.e kO,o9,_,Z,.inl (aD.of hw),.inl #[_,_,Z,Z,_,Z,?_]];rw[cG (show¬(ys.length:Int)=0 by lia)];erw[bf ?_];erw[_,Z,_,Z,_,Z,m,b,oN,o9,M,D',Si,S1,e,Z,rm3,sY,gi,o,λdF cY H4 j8 bt4 nl4 nw4=>#[_,Z,bf ?_]];have btr:bR [b] H2 H4:=λy o' ey hy=>bt4 _ _ (bt _ _ ey hy) hy;have tr:∀{x y z:Addr},p9 H2 x y->p9 H3 y z->p9 H2 x z:=λ{x y z} h1 h2=>by
     rcases h2 with rfl|h2
     ·erw[h1]
     ·erw[.inr ?_]
      cases hz:H2 z with |none=>rfl |some o'=>
       by_cases zb:z=b
       ·rw[zb,sY.e]at h2;cases h2
       ·rw[bt _ _ hz (λy=>zb (cn.mp y))]at h2;cases h2
    erw[S1,dF,cY,?_,r3,j8,btr,tr Cy nl4,tr Cu nw4,_,Z];rw[tQ,ee];erw[r1.snoc o]
  ·rintro O H3 ⟨Si,oN,o9,r1,r2,sY,bt,Cy,Cu,XZ,rfl⟩
   rw[bV,bV]at r1 r2;rw[List.drop_length]at r2;cases r2;have vU:cB H2 H3:=bt.v λx hx o eo=>by rw[cn.mp hx,ur.e]at eo;cases eo;trivial
   have Aw:∀{x:Addr}{o:HO},H2 x=some o->x≠b->H3 x=some o:=λ{x o} e hx=>bt _ _ e λz=>hx (cn.mp z);have Li:jQ K D H3 a r M:=(Aj.but s2.v λo e=>s2 _ _ e).but vU λo e=>Aw e rX;have R3:cc K C H3 r q' M S':=(R1.same g'.ok.row.no s2).go g'.ok.row.no vU (λo e=>Aw e oE) λo e=>Aw e λz=>by rw[z,ur.e]at e;let(zs,ez):=(R1.same g'.ok.row.no s2).lst;rw[z,ur.e]at ez;cases ez
   have Wi:bR [r,q] H H2:=λx o e hx=>s2 _ _ (wZ.but _ _ e hx);have nF:∀{x y:Addr},p9 H2 x y->x∈[la,wl]->ja H [r,q,b,la,wl] y:=λ{x y} h hx=>by
    rcases h with rfl|h
    ·erw[.inl ?_]
     simp only[bI,ck,cJ]at hx⊢;erw[.inr (.inr (.inr hx))]
    ·refine(Av Wi h).imp (λe=>?_) id
     simp only[bI,ck,cJ]at e⊢;erw[e.imp id λe=>.inl e]
   have bH:bR [r,q,b] H H3:=λx o e hx=>by simp only[bI,ck,cJ]at hx;erw[Aw (Wi _ _ e λz=>by simp only[bI,ck,cJ]at z;erw[hx (z.imp id .inl)]) λz=>hx (.inr (.inr z))]
   let(zs,ez):=(R1.same g'.ok.row.no s2).lst;have qn:∀{x y:Addr}{o:HO},p9 H2 x y->H x=some o->q≠x->q'≠y:=λ{x y o} h ex hx e=>by
    rcases h with rfl|h
    ·rcases wZ.nq with e1|e1
     ·erw[hx (e1.symm.trans e)]
     ·rw[e,ex]at e1;cases e1
    ·rw[e,h]at ez;cases ez
   let(ys0,hw0,_):=sd.bk.w;have lE:Sd K C D H3 a r q' b oN o9 M S':=#[Li,R3,sY,qn Cy sd.bk.l sd.ql,qn Cu hw0 sd.qw];have CM:Kp H H3 r q b la wl q' oN o9:=#[bH,wZ.nq.imp (λe=>by rw[e];simp) id,nF Cy (by simp),nF Cu (by simp)];let(Lc,wY,sR,_):=id Li;erw[_,Z,a,Lc,_,Z,sR,Z,a,r,q',M,D',S',.wd .place,Z,Li,R3,g',λH4 s4=>?_];erw[Z,?_];have e4:=s4 _ _ sY.e;have l4:=s4 _ _ sY.l;have SU:=Ce g'.ok;have n3:=g.aL.n3;have pN:=g'.place;erw[_,Z,b,_,Z,dg e4 KD,oN,Z,#[_,aD.of l4],λD5 H5 n5=>?_];erw[E4 (K:=K) (ds:=((dj S').map numS).map PyData.str) _ (aD.of l4) n5 (by simp) (by simp;lia) (zu _) ?_ ?_]
   ·intro i x d H6 Q' ex ed s6 hq
    rw[cv]at ex;rw[cv,cv]at ed;cases en:(dj S')[i]? with |none=>rw[en]at ex;cases ex |some z=>rw[en]at ex ed;cases ex;cases ed;erw[_,Z,.inl #[z,Z,kL (pN z (fO en)),hq _ _ (aE.refl _) (bT _)]]
   intro H6 ws s6 d6 r6;rw[u7 r6]at d6;erw[" ",D5,_,Z,Z,aD.of d6,λz hz=>?_,aG,by simp;lia,?_]
   ·let(i,hi,rfl):=dC.mp hz
    have:=gf (pN i hi)
    lia
   erw[Z,_,Z,?_];rw[show decide (V.str (Wm M S' Wd.place)=V.str (Txt.join " " ((dj S').map numS)))=true from bM rfl];erw[bf ?_];have lb:l2≠b:=λz=>by rw[z,ur.e]at d2;cases d2
   have d6:=s6 _ _ (s4 _ _ (Aw d2 lb));erw[_,Z,l2,_,Z,.inl (aD.of d6),_,Z,_,_,Z,Z,_,Z,?_];rw[bV,bV,bM he];erw[bE #[_,Z,l2,_,Z,.inl (aD.of d6),?_]];rw[bV,bV];erw[k es S' q' oN o9 H6 run he ny (lE.same g'.ok.row.no (s4.trans s6)) (CM.same (s4.trans s6))]
end
open _T (numS numIn? Free)
section
theorem Nt:∀(pl x:List Int),x.length=pl.length->lX (λa b=>a-b) (dH pl x) x=pl |[],[],_=>rfl |[],_::_,h=>by simp at h |_::_,[],h=>by simp at h |a::pl,c::x,h=>by show(a+c-c)::lX _ (dH pl x) x=a::pl;rw[Nt pl x (by simpa using h),Int.add_sub_cancel]
theorem a5W(h:du ns sp=du ms sq):ns=ms/\sp=sq:=by have h:PyData.tuple [.str "line",.tuple (ns.map PyData.int),.int sp]= .tuple [.str "line",.tuple (ms.map PyData.int),.int sq]:=h;injection h with h;injection h with _ h;injection h with h1 h;injection h with h2 _;injection h1 with h1;injection h2 with h2;erw[ints_map_inj h1,h2]
inductive aew(K:aa)(vs:List V)(H:Hp)(Q:VK):Prop |mk (b:Addr)(la:Addr)(wl:Addr)(M:aY)(D:Nat)(S:aU)(h0:vs=[.ref b])(h1:hZ K H b la wl S)(h2:RG M D S)(h3:∀v H',RD K H' v (eV (fE S))->aE H H'->Q v H')
def Oj(K:aa):Sp:=λvs H Q _=>aew K vs H Q
theorem PZ:bu ["_law_book","_law_here","_law_item_here"] ["_law_book"] (aW GI):=bF aG
theorem a3z(F:FA K mg "_law_leads" GI)(B:bK mg)(Dx:aF P w K mg au "_law_stand" 1 (Ff K)):aF P w K mg au "_law_leads" 2 (Oj K):=by
 exists F.has,PZ,dc λ_=>rfl
 ·let(b,la,wl,M,D,S,rfl,bk,g,k):=h
  have nd:=PZ.nd;let(ys,hw,eU):=bk.w;have ok:=g.ok;have aL:=g.aL;have n3:=aL.n3;have lys:=eU.length;have agj:=ok.row.len;erw[_,(aB (pS 1 nd (cZ (x:="list") (Jr K Z) Z (B.at "list") Xa (ak (dY hr (pv 0) ba) ay))) (aB (ij (bN (bS oz (dY hr (pv 0) ba) az (bA _)) (aI (uy (i0:=1) nd Z (Or.inl Z) (N:=["_law_at","_law_step"]) (js:=[none,none]) Z Z Z (m7 K Z true true Z (B.at "zip") (ak (pv 1) (ak (pf Dx hr (ak (px K (px K (dY hr (pv 0) ba) az) az) (ak (dY hr (pv 0) ba) ay))) ay))) (λ_ _ _ _ _=>(eM K rfl (n:=2) rfl (bU (bh 0 (gj aw)) (bU (bh 1 (gj aw)) eK)))) (λ_ _ _ _ _=>dM) (λ_ _ _ _ _=>(aP iM (pv 0) (pv 1))))) bQ)) (aB (m6 iZ Z (oo K Z (dY hr (pv 0) ba)) (bh 2 nd) (aI (bN (bS (dQ K Z hr.units) (px K (pv 2) az) ba (bA _)) (aI (uy (i0:=1) nd Z (Or.inl Z) (N:=["_law_at","_law_step"]) (js:=[none,none]) Z Z Z (m7 K Z true false Z (B.at "zip") (ak (pv 1) (ak (px K (pv 2) az) ay))) (λ_ _ _ _ _=>(eM K rfl (n:=2) rfl (bU (bh 0 (gj aw)) (bU (bh 1 (gj aw)) eK)))) (λ_ _ _ _ _=>dM) (λ_ _ _ _ _=>(aP dw (pv 0) (pv 1))))) bQ))) (aI (aV (cZ (x:="tuple") (kB K Z) Z (B.at "tuple") jd (ak (pv 1) ay))))))),?_];erw[_,Z,b,_,Z,dg bk.e KD,la,_,Z,.inl (aD.of bk.l),λl1 H1 n1=>?_];have e1:=n1.same _ _ bk.e;have d1:=n1.at';have w1:=n1.same _ _ hw;erw[λO H2=>∃l2 v2,O=[some (.ref b),some (.ref l2),v2]/\H2 l2=some (.lst (S.pl.map V.int))/\aE H1 H2,?_,?_]
  ·erw[_,Z,b,_,Z,dg e1 xu,_,_,Z,Z,_,Z,?_]
   by_cases h0:S.dn=0
   ·rw[cG (show¬(S.dn:Int)>0 by lia)]
    have ep:dj S=S.pl:=by unfold dj;rw[bo h0]
    rw[ep]at d1;erw[bf #[l1,_,Z,d1,aE.refl _]]
   ·rw[bM (show(S.dn:Int)>0 by lia)]
    erw[bE ?_];obtain⟨ns,sp,eo,hd⟩:∃ns sp,S.os[0]? =some (some (ns,sp))/\S.dn<aK ns:=by
     rcases ok.dn with e|h
     ·exact(h0 e).elim
     ·erw[h]
    obtain⟨d0,ed,xf⟩:∃d0,S.ds[0]? =some d0/\d0=du ns sp:=by
     have hl:0<S.ds.length:=by rw[ok.row.len];exact(dW.mp eo).1
     erw[S.ds[0],cE hl,?_];rcases ok.row.it 0 _ _ (cE hl) eo with⟨mV,mQ,z1,z2⟩|⟨_,_,_,_,_,z2⟩
     ·cases z2;erw[z1]
     ·cases z2
    subst xf;let(cT,wc,yU):=ok.row.ok 0 ns sp eo;have rO:fo ns.length 100 ns:=#[Z,cT.bd,cT.nz];have si:=cT.len;have JA:=cT.lead.2;let(y0,ey,ry):=eU.get 0 ed;let(a,bb,rfl,ha,uX):=oK ry;have ep:=Rx eo (by rw[si,ok.pl]) cT.lead.1;erw[_,Z,_,Z,b,_,Z,dg e1 kO,.inl #[wl,ys,0,.ref a,Z,Z,aD.of w1,cN (eJ 0) ey,.inr #[a,_,1,.ref bb,Z,Z,ha.go n1.same,Z,_,Z,b,_,Z,dg e1 xu,bb,ns,(S.dn:Int),Z,uX.go n1.same,rO,ao,ao,ao,λl2 H2 n2 d2 s2=>?_]]];have xI:=s2 _ _ d1;rw[ep]at xI;have lst:(fP ns (S.dn:Int)).length=S.pl.length:=by unfold fP;rw[bV,si,ok.pl]
    erw[l1,l2,Z,#[_,aD.of xI],#[_,aD.of d2],λD3 H3 Ja=>?_];erw[Ap (b1:=true) (b2:=true) (λa b=>a-b) _ Z (aD.of xI) (aD.of d2) Ja (by rw[nR lst,lst]) (by rw[nR lst,ok.pl];lia) (λu v H' Q' s' q'=>#[_,Z,_,Z,_,_,Z,Z,q']) λH4 s4 d4=>?_];rw[Nt _ _ lst]at d4;erw[D3,_,Z,d4,s2.trans s4]
  rintro O H2 ⟨l2,v2,rfl,d2,s2⟩;have uj:=n1.same.trans s2;erw[_,Z,b,_,Z,dg (uj _ _ bk.e) kO,wl,Z,#[_,aD.of (uj _ _ hw)],DH (K:=K) (a:=wl) (xs:=ys) (λi O H3=>aE H2 H3/\∃l v2,O=[some (.ref b),some (.ref l),v2]/\H3 l=some (.lst (((S.os.take i).foldl gO S.pl).map V.int))) ?_ ?_ ?_ ?_]
  ·erw[aE.refl _,l2,v2,Z,d2]
  ·rintro i O H3 _ ⟨s3,_⟩
   erw[aD.of (s3 _ _ (uj _ _ hw))]
  ·rintro i y O H3 hy ⟨s3,l,v,rfl,dl⟩
   let(d,ed,rd):=eU.get' i hy;let(o,eo,it):=ok.item ed;have s03:=uj.trans s3;have et:(S.os.take (i+1)).foldl gO S.pl=gO ((S.os.take i).foldl gO S.pl) o:=by rw[tQ,eo,MI];rfl
   have fl:((S.os.take i).foldl gO S.pl).length=M.rs.length:=xy _ _ ok.pl λo ho=>ok.oB o (yn ho);have tx:=ok.tx aL d (fO ed);rcases vW (RD.mono s03 _ rd) tx.ti with⟨ns,sp,a,bb,ee,rfl,xh,rbb,_⟩|⟨wd,u,a,yv,ee,D6,rfl,xh,_⟩
   ·subst ee
    have vk:o=some (ns,sp):=by
     rcases it.it with⟨mV,mQ,z1,z2⟩|⟨w',x',z1,Ub,_⟩
     ·have:du ns sp=du mV mQ:=z1
      let(rfl,rfl):=a5W this;erw[z2]
     ·exact(tZ (show lR w' from Ub) #[ns,sp,z1.symm]).elim
    subst vk;have si:=(it.ln ns sp Z).1.len;let(bx,xs,eb,xq,mj):=rbb.cS;cases eb;rw[mj.fL]at xq;erw[_,Z,.inr #[a,_,0,.str "line",Z,Z,xh,Z,.inr #[_,_,bT _,bT _,kj,kj,_,Z,?_]]];rw[lO,bM rfl];erw[bE ?_];erw[_,Z,_,Z,.inr #[a,_,1,.ref bb,Z,Z,xh,Z,l,bb,Z,#[_,aD.of dl],#[_,xq],λD4 H4 n4=>?_]];erw[Ap (b1:=true) (b2:=false) (λa b=>a+b) _ Z (aD.of dl) xq n4 (by rw[fl,si]) ao (λu v H' Q' s' q'=>#[_,Z,_,Z,_,_,Z,Z,q']) λH5 s5 d5=>?_];rw[Bh]at d5;erw[s3.trans s5,D4,_,Z,?_];rw[et];erw[d5]
   ·have vk:o=none:=by
     rcases it.it with⟨mV,mQ,z1,z2⟩|⟨w',x',z1,Ub,_,z2⟩
     ·rw[ee]at z1
      exact(tZ D6 #[mV,mQ,z1]).elim
     ·erw[z2]
    subst vk;let(yz,EN):=MY D6;erw[_,Z,.inr #[a,_,0,.str wd,Z,Z,xh,Z,.inr #[_,_,bT _,bT _,yz,kj,_,Z,?_]]];rw[lO,cG EN];erw[bf #[s3,l,_,Z,?_]];rw[et];erw[dl]
  ·rintro O H3 ⟨s3,l,v,rfl,dl⟩
   rw[vL ao]at dl;erw[_,Z,l,_,Z,.inl #[aD.of dl,λt H4 n4=>?_]];erw[k _ H4 (gu (bc.of n4.at') (mS (fE S))) (uj.trans (s3.trans n4.same))]
end
open _T (numS numIn? Free)
section
theorem RG.up{D:Nat}(g:RG M D S)(hD:D<=900):RG M (D+10) S:=by have o:=g.ok;have D1:=o.D1;erw[#[o.row,o.rw,o.len,o.dP,o.eQ,o.dn,o.pl,o.pd.mono ao,o.pm,?_,ao,ao],g.aL,g.sd,g.on,ao];have st:=o.aR;cases hs:S.aR with |none=>trivial |some z=>rw[hs]at st;let(sq,ig,gn):=z;let(a1,a2,a3,a4,a5):=st;erw[a1,a2,a3,a4.mono ao,a5]
theorem RG.vh{D:Nat}{d:ag}(g:RG M D S)(it:lS M.rs.length d o)(hl:S.ds.length<20)(gD:fM M.rs (gO (fE S) o)):RG M D (nM S d o):=#[g.ok.vh it hl,g.aL,g.sd.eq Z Z,g.on.vh gD,g.hD]
theorem a1B{D:Nat}(ok:cF M D S)(d:ag)(o:Itm):dj (nM S d o)=dj S:=by
 unfold dj;by_cases h:S.dn=0
 ·rw[bo h,bo (show(nM S d o).dn=0 from h)];rfl
 ·rw[bj h,bj (show¬(nM S d o).dn=0 from h)]
  let(ns,sp,e,_):=ok.dn.resolve_left h;have e2:(nM S d o).os[0]? =some (some (ns,sp)):=by show(S.os++[o])[0]? =_;rw[vO (dW.mp e).1];erw[e]
  rw[e,e2];rfl
structure xU(H H':Hp)(p r q b la wl q' dF cY:Addr):Prop where
 but:bR [p,r,q,b] H H'
 nq:ja H [r,q,b] q'
 nl:ja H [r,q,b,la,wl] dF
 nw:ja H [r,q,b,la,wl] cY
 bC:fN H' p
theorem bJ.wU(b:bJ p H H')(h:ja H' F x):ja H F x:=h.imp id λe=>by cases e0:H x with |none=>rfl |some o=>
 by_cases hx:x=p
 ·rw[hx]at e
  exact(b.bC.ne e).elim
 ·rw[b.same _ _ hx e0]at e;cases e
theorem fN.kp(h:fN H p)(b:bR F H H')(hp:p∉F):fN H' p:=by let(c,m,e,k):=h;erw[c,m,b _ _ e hp,k]
theorem Kp.bC{b:Addr}(bx:bJ p H H1)(k:Kp H1 H2 r q b la wl q' dF cY)(hp:p∉[r,q,b]):xU H H2 p r q b la wl q' dF cY:=by
 erw[λx o e hx=>?_,bx.wU k.nq,bx.wU k.nl,bx.wU k.nw,bx.bC.kp k.but hp];simp only[bI,not_or]at hx;erw[k.but _ _ (bx.same _ _ hx.1 e) λz=>?_];simp only[bI,ck,cJ]at z;rcases z with z|z|z
 ·erw[hx.2.1 z]
 ·erw[hx.2.2.1 z]
 ·erw[hx.2.2.2.1 z]
structure In(K:aa)(C D:Addr)(H:Hp)(p a r q b la wl:Addr)(M:aY)(D':Nat)(S:aU)(m:V):Prop where
 bC:fN H p
 hp:p∉[q,la,wl]
 rm:RD K H m (aY.D M)
 sd:Sd K C D H a r q b la wl M S
 g:RG M D' S
 fr:S.aR=none
 hD:D'<=900
section
variable {C D:Addr}{H H':Hp}{p a r q b la wl:Addr}{M:aY}{D':Nat}{S:aU}{m:V}
theorem In.ne(h:In K C D H p a r q b la wl M D' S m):p∉[r,q,b]/\p≠a/\p∉[b,la,wl]:=by let(c,m',ep,_):=h.bC;let(dx,fs,er):=h.sd.x.ins;let(jI,mv,ea,_):=h.sd.dk;have hp:=h.hp;simp only[bI,ck,cJ,not_or]at hp⊢;have h1:p≠r:=iP ep er (by intro z;cases z);have h2:p≠b:=iP ep h.sd.bk.e (by intro z;cases z);erw[#[h1,hp.1,h2],iP ep ea (by intro z;cases z),h2,hp.2.1,hp.2.2]
theorem In.draw(h:In K C D H p a r q b la wl M D' S m)(bx:bJ p H H'):In K C D H' p a r q b la wl M D' S m:=by let(h1,h2,h3):=h.ne;simp only[bI,ck,cJ,not_or]at h1;have v:=(bJ.t h.bC bx).v;have no:=h.g.ok.row.no;erw[bx.bC,h.hp,RD.v v _ (gF _ _ _ _ _) h.rm,#[h.sd.dk.but v λo e=>bx.same _ _ (jS h2) e,h.sd.x.go no v (λo e=>bx.same _ _ (λz=>h1.1 z.symm) e) (λo e=>bx.same _ _ (λz=>h1.2.1 z.symm) e),h.sd.bk.but no v λx o e hx=>bx.same _ _ (λz=>h3 (z▸hx)) e,h.sd.ql,h.sd.qw],h.g,h.fr,h.hD]
end
def Dt(K:aa)(C D:Addr)(H:Hp)(p a r q b la wl:Addr)(M:aY)(D':Nat)(Q:VK):Prop:=∀S' q' dF cY H',Sd K C D H' a r q' b dF cY M S'->RG M (D'+10) S'->S'.aR=none->xU H H' p r q b la wl q' dF cY->Q (.bl true) H'
inductive aeI(K:aa)(C:Addr)(D:Addr)(vs:List V)(H:Hp)(Q:VK):Prop |mk (m:V)(p:Addr)(a:Addr)(r:Addr)(q:Addr)(b:Addr)(la:Addr)(wl:Addr)(M:aY)(D':Nat)(S:aU)(h0:vs=[.ref p,m,.ref a,.ref b])(h1:In K C D H p a r q b la wl M D' S m)(h2:Dt K C D H p a r q b la wl M D' Q)
def Ou(K:aa)(C D:Addr):Sp:=λvs H Q _=>aeI K C D vs H Q
theorem Nr:∀(g ns:List Int),ns.length=g.length->pE (dH g ns) g=ns |[],[],_=>rfl |[],_::_,h=>by simp at h |_::_,[],h=>by simp at h |a::g,c::ns,h=>by show(a+c-a)::pE (dH g ns) g=c::ns;rw[Nr g ns (by simpa using h),show a+c-a=c by lia]
theorem Yp(sp:Int)(h:ns≠[]):("to ":Str)++fW ns++" "++numS sp=toS ns sp:=by
 have hn:ns.map numS≠[]:=by simpa using h
 unfold toS;rw[uQ _ _ _ (by simp),join_snoc _ _ _ hn,show("to ":Str)="to"++" " by decide+kernel];unfold fW;simp only[Mt]
theorem RU(c1 c2:Bool)(h1:∀Q':Bool->Hp->Prop,Q' c1 H->ta O H Q')(h2:∀Q':Bool->Hp->Prop,Q' c2 H->tb O H Q')(k:Q (c1||c2) H):Nc ta tb O H Q:=h1 _ (by cases c1 with |true=>erw[k] |false=>erw[h2 _ k])
def adh(K:aa)(C:Addr)(R:iU)(r q:Addr)(M:aY)(S:aU)(d:ag)(o:Itm)(z:Str):Prop:=∃c,z=jR.txt c/\∀H Q E,vD K C R r q M S d o H Q E->c.Ok K C R r q M S H Q E
theorem Sd.mv{D:Addr}{b:Addr}(sd:Sd K C D H a r q b la wl M S)(no:cH S.ds=true)(bt:bR [r,q] H H1):hZ K H1 b la wl S/\jQ K D H1 a r M/\cB H H1:=by
 let(oE,wR,wQ,pX):=Sd.rb (D:=D) (a:=a) sd.x sd.bk;let(wV,wW,rX):=xF sd.dk sd.x sd.bk;have v1:=sd.x.v bt;erw[sd.bk.but no v1 λx o e hx=>bt x o e λz=>?_,sd.dk.but v1 λo e=>bt _ _ e λz=>?_,v1]
 ·simp only[bI,ck,cJ]at hx z
  rcases hx with rfl|rfl|rfl<;>rcases z with z|z
  ·erw[oE z.symm]
  ·erw[pX z.symm]
  ·erw[wR z.symm]
  ·erw[sd.ql z.symm]
  ·erw[wQ z.symm]
  ·erw[sd.qw z.symm]
 ·simp only[bI,ck,cJ]at z
  erw[z.elim wV wW]
theorem bJ.rd{d:ag}(bg:fN H p)(b:bJ p H H')(no:fh d=true)(h:RD K H x d):RD K H' x d:=RD.v (bJ.t bg b).v _ no h
theorem a1F{t:Int}(h0:0<=t)(h1:t<2):∃mo,fk [V.int 3,V.int 30] t=some (.int mo)/\1<=mo/\mo<=100:=by
 rcases(by lia:t=0\/t=1)with rfl|rfl
 ·erw[3,Z,aw,aw]
 ·erw[30,Z,aw,aw]
theorem Qj:bu ["_law_bag_here","_law_machine_here","_law_desk","_law_book","_law_how","_law_item_here","_law_here","_law_text","_law_many"] ["_law_bag_here","_law_machine_here","_law_desk","_law_book"] (aW He):=bF aG
theorem a3P{D:Addr}(F:FA K mg "_law_fed" He)(B:bK mg)(DC:lU K D)(hy:Exc K mg "Full" R.f jM lH)(zH:takes K R.f R.f)(ek:aF P w K mg au "_law_take" 1 lZ)(a93:aF P w K mg au "_law_item" 3 (Ol K))(a92:aF P w K mg au "_law_leads" 2 (Oj K))(a91:aF P w K mg au "_law_line_from" 2 (Ot K))(Ks:aF P w K mg au "_law_item_text" 1 (yQ K))(a8U:aF P w K mg au "_law_there" 1 (NU K))(A7:hU P w K mg au D "say" 14 (rC K C D R)):aF P w K mg au "_law_fed" 15 (Ou K C D):=by
 erw[F.Kh Qj (λvs H Q E h=>?_) (λ_ _ _ _ _ _=>xN λ_ _ _ _=>rfl) (λf aH A outer s H vs Q E hr h=>?_)]
 ·let(m,p,a,r,q,b,la,wl,M,D',S,rfl,_):=h
  rfl
 ·let(m,p,a,r,q,b,la,wl,M,D',S,rfl,I0,k):=h
  have nd:=Qj.nd;have iA:sizeLine=16777216:=by decide
  have uY:(jM).contains (.type "BaseException")=true:=by decide
  have vc:∀C',C'=R.f->ClsAt K C'/\takes K C' R.f:=λC' e=>by subst e;erw[hy.cls,zH]
  have n3:=I0.g.aL.n3;let(ma,mb,rfl,jo,kl):=oH I0.rm;erw[_,(hJ.nO (pS 4 nd (pf ek hr (ak (pv 0) (ak az ay)))) (hJ.nO (pS 5 nd (pf a93 hr (ak (pv 0) (ak (dZ K B (ak (px K (pv 1) az) ay)) ay)))) (hJ.nO (pS 6 nd (pf a92 hr (ak (pv 3) ay))) (hJ.nO (ij (bN (PW.pt (j6 (bS oz (pv 4) az (bA _)) (jB (bS (dQ K Z hr.units) (px K (pv 5) az) ba (bA _))))) (aI (pS 5 nd (pf a91 hr (ak (pv 0) (ak (pv 1) (ak (pv 6) (ak (px K (fc (ak az (ak az ay))) (pf ek hr (ak (pv 0) (ak az ay)))) ay))))))) bQ)) (hJ.nO (pS 7 nd (pf Ks hr (ak (pv 5) ay))) (hJ.nO (ij (bN (bS (dQ K Z hr.units) (pv 4) az (bA _)) (aI (pS 7 nd (aP oA (aP oA (aP oA ba (wC K Z ba (ak (fA (N:=["_law_at"]) (js:=[none]) Z Z Z (kH K Z (pf a8U hr (ak (pv 6) (ak (pv 5) ay)))) (λ_ _ _ _ _=>(bh 0 (jk _))) (λ_ _ _ _ _=>dM) (λ_ _ _ _ _=>(cZ (x:="str") jL Z (B.at "str") je (ak (pv 0) ay)))) ay))) ba) (cZ (x:="str") jL rfl (B.at "str") je (ak (px K (pv 5) az) ay))))) bQ)) (hJ.Lr (Ip Z Z (λE xe hp=>(aI (pS 8 nd (Iy A7 hp DC.cl (hr.mono aw) (pv 2) (ak (pv 7) ay))))) Z hy uY vc (λex=>(aI (aV (fC (dQ K Z (hr.mark _).units) (dZ K B (ak (RJ (lL (hr.mark _).units) (pv 3) ba (λ_ _=>rfl)) ay)) az (bA _)))))) (aB (pQ (lL hr.units) (pv 3) ba (aP (E7 K Z) (dY hr (pv 3) ba) (fc (ak (pv 5) ay))) Z) (aI (aV (fC kg (pv 8) (cZ (x:="str") jL Z (B.at "str") je (ak (dZ K B (ak (dY hr (pv 3) ba) ay)) ay)) (bA _)))))))))))),?_];erw[_,Z,p,3,Z,I0.bC,aw,aw,λhow H1 h0 h1 b1=>?_];have t1:=bJ.t I0.bC b1;erw[_,Z,_,Z,.inr #[ma,_,0,.ref mb,Z,Z,jo.t t1,Z,mb,_,Z,.inr (kl.t t1),p,M.rs.length,by rw[bV],b1.bC,n3.1,n3.2,λiv0 d0 o0 H2 ri0 xf b2=>?_]];have I2:=(I0.draw b1).draw b2;erw[_,Z,b,la,wl,M,D',S,Z,I2.sd.bk,I2.g,λhv H3 rh s3=>?_];have b3:bJ p H H3:=(b1.trans b2).trans (.fK b2.bC s3);have I3:=I0.draw b3;have gl:(fE S).length=M.rs.length:=xy _ _ I0.g.ok.pl I0.g.ok.oB;have og:=I0.g.on.goal;erw[λO H'=>∃iv d o,O=[some (.ref p),some (.ref ma),some (.ref a),some (.ref b),some (.int how),some iv,some hv,none,none]/\RD K H' iv d/\lS M.rs.length d o/\fM M.rs (gO (fE S) o)/\(how=2->o.isSome=true)/\bJ p H H'/\RD K H' hv (eV (fE S)),?_,?_]
  ·have QV:RD K H3 iv0 d0:=RD.mono s3 _ ri0
   let(ai,wd,ys,rfl,hai,ew,yz):=TK QV xf.it;erw[RU (decide (0<how)) o0.isSome (λQ' q'=>#[_,Z,_,_,Z,Z,_,Z,q']) (λQ' q'=>#[_,Z,.inr #[ai,_,0,.str wd,Z,Z,hai,cN (eJ 0) rfl,.inr #[_,_,bT _,bT _,yz,kj,_,Z,by rw[ew];erw[q']]]]) ?_];cases hc:(decide (0<how)||o0.isSome)with
   |false=>
    let(hc1,gM):=Bool.or_eq_false_iff.mp hc;have ho:o0=none:=by cases o0 with |none=>rfl |some _=>cases gM
    subst ho;erw[bf #[_,d0,none,Z,QV,xf,og,λe=>?_,b3,rh]];have:=WS hc1
    lia |true=>erw[bE ?_];erw[_,Z,_,Z,_,Z,aw,λl H4 n4=>?_];have b4:bJ p H H4:=b3.trans (.fK b3.bC n4.same);erw[_,Z,p,2,Z,b4.bC,aw,aw,λt H5 t0 t1 b5=>?_];have el:H5 l=some (.lst [.int 3,.int 30]):=b5.same _ _ (λe=>by rw[e]at n4;erw[b3.bC.ne n4.no]) n4.at';let(mo,emo,SI,SH):=a1F t0 t1;have I5:=I0.draw (b4.trans b5);erw[.inl #[l,_,t,_,Z,Z,aD.of el,emo,p,.ref ma,M.rs,M.r,M.f,M.j,M.t,hv,fE S,mo,Z,b5.bC,I5.rm,I0.g.aL,bJ.rd b4.bC b5 (jZ _) (RD.mono n4.same _ rh),og,SI,SH,λv ns sp H6 rl IL gD s1 s2 b6=>?_]];erw[v,du ns sp,some (ns,sp),Z,rl,#[.inl #[ns,sp,Z,Z],λ_ _ e=>by cases e;erw[IL,s1,s2],λe=>nomatch e],gD,λ_=>rfl,(b4.trans b5).trans b6,bJ.rd b5.bC b6 (jZ _) (bJ.rd b4.bC b5 (jZ _) (RD.mono n4.same _ rh))]
  rintro O H4 ⟨iv,d,o,rfl,ri,it,gD,mr,b4,rh4⟩;have tx:=it.tx n3.1 n3.2;erw[_,Z,iv,d,Z,ri,tx.ti,λH5 s5=>?_];erw[λO H'=>∃z,O=[some (.ref p),some (.ref ma),some (.ref a),some (.ref b),some (.int how),some iv,some hv,some (.str z),none]/\adh K C R r q M S d o z/\aE H5 H',?_,?_]
  ·erw[_,Z,.inl #[_,_,Z,Z,_,Z,?_]]
   by_cases h2:how=2
   ·rw[bM h2]
    erw[bE ?_];let((ns,sp),rfl):=Option.isSome_iff_exists.mp (mr h2);obtain rfl:=qi it.it;let(IL,s1,s2):=it.ln ns sp rfl;have si:=IL.len;have QU:=RD.mono s5 _ ri;have rh5:=RD.mono s5 _ rh4;have nb:=Co gD I0.g.aL.rl;have ln:(dH (fE S) ns).length=M.rs.length:=gD.len;have nm:∀n∈dH (fE S) ns,Nm n:=λn hn=>by have:=nb n hn;show n.natAbs<10^40;lia
    have sm:Nm sp:=by show sp.natAbs<10^40;lia
    have l1:=gf sm;have l2:=uH nm ao;have l3:=fG;have l4:Str.length "to "=3:=by decide+kernel
    erw[Z,?_];erw[_,Z,_,Z,hv,iv,fE S,ns,sp,Z,rh5,QU,ao,ao,λv H6 rv s6=>?_];let(av,xs,rfl,Kg,mj):=rv.cS;rw[mj.fL]at Kg;erw[av,Z,#[_,Kg],λD7 H7 n7=>?_];erw[qI (K:=K) (ds:=((dH (fE S) ns).map numS).map PyData.str) _ Kg n7 (by simp) (by simp;lia) (zu _) ?_ ?_]
    ·intro i x d H2 Q' ex ed s2 hq
     rw[cv]at ex;let(n,en,rfl):=Ew.mp ex;rw[cv,cv,en]at ed;cases ed;erw[_,Z,.inl #[n,Z,kL (nm n (fO en)),hq _ _ (aE.refl _) (bT _)]]
    ·intro H8 zs s8 d8 r8
     rw[u7 r8]at d8;let(ia,ib,rfl,hia,_):=oK (RD.mono (s6.trans s8) _ QU);erw[" ",D7,(dH (fE S) ns).map numS,Z,Z,aD.of d8,λz hz=>?_,aG,by rw[bV];lia,_,_,Z,Z,?_,_,_,Z,Z,?_,_,Z,.inr #[ia,_,2,.int sp,Z,Z,hia,Z,.inl #[sp,Z,kL sm,_,_,Z,Z,?_,_,Z,#[.to (dH (fE S) ns) sp,Yp sp ?_,λH' Q' E' h=>#[gD,s1,s2,some (ns,sp),by rw[Nr _ _ ao];erw[h]]],s6.trans s8]]]
     ·let(n,hn,rfl):=dC.mp hz
      have:=gf (nm n hn)
      lia
     ·show Str.length "to "+(fW _).length<=_
      lia
     ·show Str.length ("to "++fW _)+Str.length " "<=_
      rw[df]
      lia
     ·show Str.length ("to "++fW _++" ")+(numS sp).length<=_
      rw[df,df]
      lia
     ·intro e
      rw[e]at ln;have:=I0.g.aL.n3;simp at ln
      lia
   ·rw[cG h2]
    erw[bf #[gm d,Z,#[.item d o,Z,λ_ _ _ h=>h],aE.refl _]]
  rintro O H6 ⟨z,rfl,⟨c,ez,cok⟩,s6⟩;subst ez;have b6:bJ p H H6:=(b4.trans (.fK b4.bC s5)).trans (.fK (bJ.fK b4.bC s5).bC s6);have I6:=I0.draw b6;let(dx,mv,ea,pM):=id I6.sd.dk;erw[λσ' cls iD H'=>cls= .ref R.f/\S.ds.length=20/\σ'=[some (.ref p),some (.ref ma),some (.ref a),some (.ref b),some (.int how),some iv,some hv,some (.str (jR.txt c)),none]/\aE H6 H',?_,λσ' cls iD H' h=>#[_,h.1,Z],?_]
  ·erw[_,Z,a,dx,_,Z,ea,Z,_,Z,a,r,q,M,D',S,c,Z,I6.sd.dk,I6.sd.x,I6.g,cok _ _ _ #[it,gD,λA8 H' s'=>#[Z,A8,Z,s'],λcy H7 R7 b7=>?_]]
   let(p5,Lh,v7):=I6.sd.mv I6.g.ok.row.no b7;let(ys,ew,eU):=p5.w;have ly:=eU.length;erw[_,Z,b,_,Z,dg p5.e kO,_,Z,by show 1<=sizeLine;decide,λl8 H8 n8=>#[wl,l8,ys,[iv],Z,Z,aD.of (n8.same _ _ ew),aD.of n8.at',by rw[qT];lia,λl9 H9 n9=>#[_,Z,b,_,Z,dp (n9.same _ _ (n8.same _ _ p5.e)) Cj qK,?_]]];have e8:=n8.same _ _ p5.e;have e9:=n9.same _ _ e8;have wj:=n8.same.trans n9.same;have Bo:=wj.v.trans (.upd e9 trivial:cB H9 (_L.upd H9 b (.dK (fF (.ref la) (.ref l9) (.int S.dn) (.int S.aA)))));have lb:l9≠b:=λz=>by rw[z]at n9;rw[n9.no]at e8;cases e8
   have g':=I6.g.vh it cy gD;let(oE,wR,wQ,pX):=Sd.rb (D:=D) (a:=a) I6.sd.x I6.sd.bk;let(wV,wW,rX):=xF I6.sd.dk I6.sd.x I6.sd.bk;have n7:H7 l9=none:=by cases e:H7 l9 with |none=>rfl |some o=>have:=n8.same _ _ e;rw[n9.no]at this;cases this
   erw[_,Z,_,Z,b,_,Z,dg bP kO,l9,_,Z,.inl (aD.of (by rw[aQ lb];erw[n9.at'])),.inl #[_,Z,kL (show((ys++[iv]).length:Int).natAbs<10^40 by rw[eP,qT];lia),Z,?_]];rw[show(ys++[iv]).length=S.ds.length+1 by rw[eP,qT,ly]];rw[bM (show V.str (numS ((S.ds.length+1:Nat):Int))=V.str (Str.ofString (toString ((S.ds.length+1:Nat):Int)))from Z)];have bt:bR [r,q,b] H6 (_L.upd H9 b (.dK (fF (.ref la) (.ref l9) (.int S.dn) (.int S.aA)))):=λx o' e hx=>by simp only[bI,ck,cJ,not_or]at hx;rw[aQ hx.2.2];erw[wj _ _ (b7 _ _ e (by simp only[bI,ck,cJ,not_or];erw[hx.1,hx.2.1]))]
   erw[k (nM S d o) q la l9 _ #[Lh.but Bo λo' e=>?_,R7.go g'.ok.row.no Bo (λo' e=>?_) (λo' e=>?_),#[bP,?_,ys++[iv],?_,?_],I6.sd.ql,λz=>?_] (g'.up I0.hD) I0.fr (Kp.bC b6 #[bt,.inl (by simp),.inl (by simp),(Av b7 n7).imp (λz=>?_) id] I0.ne.1)]
   ·rw[aQ rX];erw[wj _ _ e]
   ·rw[aQ oE];erw[wj _ _ e]
   ·rw[aQ pX];erw[wj _ _ e]
   ·rw[a1B I6.g.ok,aQ p5.nl.symm];erw[wj _ _ p5.l]
   ·rw[aQ lb];erw[n9.at']
   ·erw[aO.append (aO.v Bo _ I6.g.ok.row.no eU) (cO (RD.v (v7.trans Bo) _ it.it.no (RD.mono (s5.trans s6) _ ri)) dJ)]
   ·let(zs,eq):=R7.lst
    rw[z,n7]at eq;cases eq
   ·simp only[bI,ck,cJ]at z⊢
    erw[z.elim .inl λz=>.inr (.inl z)]
  ·rintro C' ex iD σ' H7 _ ⟨_,A8,rfl,s7⟩ hex
   have sx:aE H6 (_L.upd H7 ex (.ext (qP ex (.ref C') iD))):=s7.trans (.new hex);have W5:=I6.sd.bk.same sx;let(ys,ew,eU):=W5.w;have ly:=eU.length;erw[_,Z,b,_,Z,dg W5.e kO,wl,ys,Z,.inl (aD.of ew),.inl #[_,_,Z,Z,?_]];rw[bM (show(ys.length:Int)=20 by lia)];erw[k S q la wl _ (I6.sd.same I6.g.ok.row.no sx) (I6.g.up I0.hD) I0.fr (Kp.bC b6 (Kp.refl.same sx) I0.ne.1)]
end
open _T (numS numIn? Free)
section
theorem RG.aA{D:Nat}{n:Int}(g:RG M D S)(h1:10<=n)(h2:n<=200):RG M D {S with aA:=n}:=by have o:=g.ok;erw[#[o.row,o.rw,o.len,h1,h2,o.dn,o.pl,o.pd,o.pm,o.aR,o.D1,o.D2],g.aL,g.sd.eq Z Z,g.on,g.hD]
def wD(S:aU):Str:=if S.pc=0 then "stands" else "goes"
theorem Zo(S:aU):∃z,Txt.split (lD S) " "=[z,wD S]/\(lD S).length<=100:=by
 unfold lD wD;by_cases h:S.pc=0
 ·rw[bM h,bo h]
  cases S.aR.isSome with |true=>erw["held",aG,aG] |false=>erw["free",aG,aG]
 ·rw[cG h,bj h]
  cases S.aR.isSome with |true=>erw["held",aG,aG] |false=>erw["free",aG,aG]
theorem a28(S:aU):decide (V.str (wD S)=V.str "stands")=decide (S.pc=0):=by
 unfold wD;by_cases h:S.pc=0
 ·rw[bo h,bM h,bM rfl]
 ·rw[bj h,cG h]
  decide+kernel
theorem a17(n:Int):("rate ":Str)++numS n=jR.txt (.aA n):=by show _="rate"++" "++numS n;rw[show("rate ":Str)="rate"++" " by decide+kernel]
theorem a18{n:Int}(h1:10<=n)(h2:n<=200):om (.int n)=true:=by unfold om da;simp only[fb,AU];erw[h1,h2]
theorem Sd.put{D:Addr}{b:Addr}(dk:jQ K D H a r M)(x:cc K C H r q M S')(bk:hZ K H b la wl S)(no:cH S.ds=true)(ql:q≠la)(qw:q≠wl)(V8:dj S'=dj S)(sQ:S'.ds=S.ds):Sd K C D (_L.upd H b (.dK (fF (.ref la) (.ref wl) (.int S'.dn) (.int S'.aA)))) a r q b la wl M S':=by
 let(oE,wR,wQ,pX):=Sd.rb (D:=D) (a:=a) x bk;let(wV,wW,rX):=xF dk x bk;have v:cB H (_L.upd H b (.dK (fF (.ref la) (.ref wl) (.int S'.dn) (.int S'.aA)))):=.upd bk.e trivial;let(ys,ew,eU):=bk.w;erw[dk.but v λo e=>?_,x.go (by rw[sQ];erw[no]) v (λo e=>?_) (λo e=>?_),#[bP,?_,ys,?_,?_],ql,qw]
 ·rw[aQ rX];erw[e]
 ·rw[aQ oE];erw[e]
 ·rw[aQ pX];erw[e]
 ·rw[V8,aQ bk.nl.symm];erw[bk.l]
 ·rw[aQ bk.nw.symm];erw[ew]
 ·rw[sQ];erw[aO.v v _ no eU]
theorem bR.put{b:Addr}(h:bR F H H1)(hF:∀x∈F,x=r\/x=q\/x=b):bR [r,q,b] H (_L.upd H1 b o):=λx o' e hx=>by
 simp only[bI,ck,cJ,not_or]at hx;rw[aQ hx.2.2];erw[h _ _ e λz=>?_];rcases hF x z with z|z|z
 ·erw[hx.1 z]
 ·erw[hx.2.1 z]
 ·erw[hx.2.2 z]
inductive adF(K:aa)(C:Addr)(D:Addr)(vs:List V)(H:Hp)(Q:VK):Prop |mk (m:V)(p:Addr)(a:Addr)(r:Addr)(q:Addr)(b:Addr)(la:Addr)(wl:Addr)(M:aY)(D':Nat)(S:aU)(h0:vs=[.ref p,.ref a,.ref b])(h1:In K C D H p a r q b la wl M D' S m)(h2:Dt K C D H p a r q b la wl M D' Q)
def NS(K:aa)(C D:Addr):Sp:=λvs H Q _=>adF K C D vs H Q
theorem OT:bu ["_law_bag_here","_law_desk","_law_book","_law_rate","_law_stands","_law_told"] ["_law_bag_here","_law_desk","_law_book"] (aW FI):=bF aG
theorem a2A{D:Addr}(F:FA K mg "_law_turned" FI)(B:bK mg)(DC:lU K D)(hy:Exc K mg "Moving" R.m jM lH)(zH:takes K R.m R.m)(ek:aF P w K mg au "_law_take" 1 lZ)(A7:hU P w K mg au D "say" 14 (rC K C D R))(mC:cQ P w K mg au D "say" 14 (λvs H Q _=>rC K C D R vs H Q E0)):aF P w K mg au "_law_turned" 15 (NS K C D):=by
 erw[F.Kh OT (λvs H Q E h=>?_) (λ_ _ _ _ _ _=>lQ λ_ _ _=>rfl) (λf aH A outer s H vs Q E hr h=>?_)]
 ·let(m,p,a,r,q,b,la,wl,M,D',S,rfl,_):=h
  rfl
 ·let(m,p,a,r,q,b,la,wl,M,D',S,rfl,I0,k):=h
  have nd:=OT.nd;have iA:sizeLine=16777216:=by decide
  have uY:(jM).contains (.type "BaseException")=true:=by decide
  have vc:∀C',C'=R.m->ClsAt K C'/\takes K C' R.m:=λC' e=>by subst e;erw[hy.cls,zH]
  erw[_,(hJ.nO (pS 3 nd (aP dw az (pf ek hr (ak (pv 0) (ak az ay))))) (hJ.nO (pS 4 nd (fC kg (px K (uC K Z (kJ mC DC.cl (hr.mono aw) (pv 1) (ak ba ay)) (ak ba ay)) az) ba (bA _))) (hJ.Lr (Ip Z Z (λE xe hp=>(aI (pS 5 nd (Iy A7 hp DC.cl (hr.mono aw) (pv 1) (ak (aP oA ba (cZ (x:="str") jL Z (B.at "str") je (ak (pv 3) ay))) ay))))) rfl hy uY vc (λex=>(aI (aV (Iw (pv 4)))))) (aB (pQ (lL hr.units) (pv 2) ba (pv 3) Z) (aI (aV (m8 (pv 4) (mU (fC kg (pv 5) (cZ (x:="str") jL Z (B.at "str") je (ak (pv 3) ay)) (bA _)))))))))),?_];erw[_,Z,p,191,Z,I0.bC,aw,aw,λt H1 t0 t1 b1=>#[_,_,Z,Z,?_]];have I1:=I0.draw b1;let(dx,mv,ea,pM):=id I1.sd.dk;let(z0,es,hl):=Zo S;generalize en:10+t=n;have nm:Nm n:=by show n.natAbs<10^40;lia
  have ln:=gf nm;have e5:Str.length "rate "=5:=by decide+kernel
  erw[_,Z,a,dx,_,Z,ea,Z,a,r,q,M,D',S,.wd .state,Z,I1.sd.dk,I1.sd.x,I1.g,λH2 s2=>?_];erw[Z,lD S," ",Z,Z,aG,ao,λl H3 n3=>?_];rw[es]at n3;erw[.inl #[l,_,1,.str (wD S),Z,Z,aD.of n3.at',Z,?_]];erw[Z,?_];have Ag:decide (V.str (wD S)=V.str (Str.ofString "stands"))=decide (S.pc=0):=a28 S;rw[Ag];have s3:aE H1 H3:=s2.trans n3.same;have b3:bJ p H H3:=b1.trans (.fK b1.bC s3);have I3:=I0.draw b3;erw[λσ' cls iD H'=>cls= .ref R.m/\S.pc≠0/\σ'=[some (.ref p),some (.ref a),some (.ref b),some (.int n),some (.bl (decide (S.pc=0))),none]/\aE H3 H',?_,λσ' cls iD H' h=>#[_,h.1,Z],?_]
  ·erw[_,Z,a,dx,_,Z,s3 _ _ ea,Z,_,Z,.inl #[n,Z,kL nm,_,_,Z,Z,by show Str.length "rate "+(numS n).length<=_;lia,?_]]
   erw[a,r,q,M,D',S,.aA n,kr (λz=>[V.ref a,V.str z]) (a17 n),I3.sd.dk,I3.sd.x,I3.g,nm,λh=>?_,λ_ h H' s'=>#[Z,h,Z,s'],λh1 h2 hp H4 R4 b4=>?_]
   ·rw[a18 ao ao]at h;cases h
   have LI:bR [r,q] H3 H4:=λx o e hx=>b4 x o e λz=>hx (by simp only[bI,ck,cJ]at z⊢;erw[.inl z]);let(j8,xG,v4):=I3.sd.mv I3.g.ok.row.no LI;erw[_,Z,_,Z,b,_,Z,dp j8.e a29 qK,?_];rw[bM hp];erw[_,Z,true,Z,bE #[_,Z,_,Z,.inl #[n,Z,kL nm,Z,?_]]];rw[bM (show V.str (numS n)=V.str (Str.ofString (toString n))from Z)];erw[k {S with aA:=n} q la wl _ (Sd.put (S':={S with aA:=n}) xG R4 j8 I3.g.ok.row.no I3.sd.ql I3.sd.qw rfl rfl) ((I3.g.aA h1 h2).up I0.hD) I0.fr (Kp.bC b3 #[bR.put b4 λx hx=>.inl (cn.mp hx),.inl (by simp),.inl (by simp),.inl (by simp)] I0.ne.1)]
  ·rintro C' ex iD σ' H7 _ ⟨_,hp,rfl,s7⟩ hex
   have sx:aE H3 (_L.upd H7 ex (.ext (qP ex (.ref C') iD))):=s7.trans (.new hex);rw[cG hp];erw[_,Z,false,Z,k S q la wl _ (I3.sd.same I3.g.ok.row.no sx) (I3.g.up I0.hD) I0.fr (Kp.bC b3 (Kp.refl.same sx) I0.ne.1)]
end
open _T (numS numIn? Free)
section
theorem RG.hold{D:Nat}(g:RG M D S)(fr:S.aR=none)(hD:D<=900):jn M S={S with aR:=some (S.pc,gB M.f S.pc,0)}/\RG M (D+10) (jn M S):=by
 have e:jn M S={S with aR:=some (S.pc,gB M.f S.pc,0)}:=by unfold jn;rw[fr]
 have o:=g.ok.hold g.aL ao;erw[e,o,g.aL,?_,?_,ao]
 ·rw[e];erw[g.sd.eq Z rfl]
 ·rw[e];erw[g.on]
theorem RG.free{D:Nat}(g:RG M D S):RG M D {S with aR:=none}:=by have o:=g.ok;erw[#[o.row,o.rw,o.len,o.dP,o.eQ,o.dn,o.pl,o.pd,o.pm,trivial,o.D1,o.D2],g.aL,g.sd.eq Z Z,g.on,g.hD]
theorem RG.drop{D:Nat}(g:RG M D S):RG M D (mF S):=#[g.ok.drop,g.aL,g.sd.eq Z Z,g.on.drop g.ok,g.hD]
def sJ(S:aU):Bool:=S.aR.isSome&&decide (S.pc=0)
theorem Uq(S:aU):decide (V.str (lD S)=V.str "held stands")=sJ S:=by unfold lD sJ;cases S.aR.isSome<;>cases decide (S.pc=0)<;>decide+kernel
theorem Kp.one{b:Addr}(h:bR [r] H H'):Kp H H' r q b la wl q la wl:=#[λx o e hx=>h x o e λz=>hx (by rw[cn.mp z];erw[.head _]),.inl (by simp),.inl (by simp),.inl (by simp)]
theorem bR.two(h:bR [r] H H'):bR [r,q] H H':=λx o e hx=>h x o e λz=>hx (by rw[cn.mp z];erw[.head _])
theorem XC:V.str (numS (([]:List ag).length:Nat))=V.str "0":=by decide+kernel
inductive aeN(K:aa)(C:Addr)(D:Addr)(vs:List V)(H:Hp)(Q:VK):Prop |mk (m:V)(p:Addr)(a:Addr)(r:Addr)(q:Addr)(b:Addr)(la:Addr)(wl:Addr)(M:aY)(D':Nat)(S:aU)(h0:vs=[.ref p,.ref a,.ref b])(h1:In K C D H p a r q b la wl M D' S m)(h2:Dt K C D H p a r q b la wl M D' Q)
def Oz(K:aa)(C D:Addr):Sp:=λvs H Q _=>aeN K C D vs H Q
theorem Qn:bu ["_law_bag_here","_law_desk","_law_book","_law_stands","_law_many","_law_told"] ["_law_bag_here","_law_desk","_law_book"] (aW Hi):=bF aG
theorem a3T{D:Addr}(F:FA K mg "_law_dropped" Hi)(B:bK mg)(DC:lU K D)(hy:Exc K mg "Moving" R.m jM lH)(zH:takes K R.m R.m)(ek:aF P w K mg au "_law_take" 1 lZ)(A7:hU P w K mg au D "say" 14 (rC K C D R))(mC:cQ P w K mg au D "say" 14 (λvs H Q _=>rC K C D R vs H Q E0))(a9f:vy P w K mg au D "say" 3 (NY K C D R.m)):aF P w K mg au "_law_dropped" 15 (Oz K C D):=by
 erw[F.Kh Qn (λvs H Q E h=>?_) (λ_ _ _ _ _ _=>lQ λ_ _ _=>rfl) (λf aH A outer s H vs Q E hr h=>?_)]
 ·let(m,p,a,r,q,b,la,wl,M,D',S,rfl,_):=h
  rfl
 ·let(m,p,a,r,q,b,la,wl,M,D',S,rfl,I0,k):=h
  have nd:=Qn.nd;have iA:sizeLine=16777216:=by decide
  have uY:(jM).contains (.type "BaseException")=true:=by decide
  have vc:∀C',C'=R.m->ClsAt K C'/\takes K C' R.m:=λC' e=>by subst e;erw[hy.cls,zH]
  erw[_,(hJ.nO (ij (bN (bS oz (pf ek hr (ak (pv 0) (ak az ay))) az (bA _)) (aI (kG (kJ mC DC.cl (hr.mono aw) (pv 1) (ak ba ay)))) bQ)) (hJ.nO (pS 3 nd (fC kg (kJ mC DC.cl (hr.mono aw) (pv 1) (ak ba ay)) ba (bA _))) (hJ.nO (pS 4 nd (dZ K B (ak (dY hr (pv 2) ba) ay))) (hJ.Lr (Ip Z Z (λE xe hp=>(aI (pS 5 nd (Iy A7 hp DC.cl (hr.mono aw) (pv 1) (ak ba ay))))) Z hy uY vc (λex=>(aI (aV (m8 (Iw (pv 3)) (mU (fC kg (a1R a9f DC.cl ((hr.a5i ex).mono aw) (pv 1) (ak ba ay)) (cZ (x:="str") jL Z (B.at "str") je (ak (pv 4) ay)) (bA _)))))))) (aB (pQ (lL hr.units) (pv 2) ba (fc ay) Z) (aB (pQ (lL hr.units) (pv 2) ba az Z) (aI (aV (m8 (pv 3) (m8 (fC kg (pv 5) (cZ (x:="str") jL Z (B.at "str") je (ak (pv 4) ay)) (bA _)) (mU (fC kg (kJ mC DC.cl (hr.mono aw) (pv 1) (ak ba ay)) ba (bA _))))))))))))),?_];erw[λO H'=>O=[some (.ref p),some (.ref a),some (.ref b),none,none,none]/\∃t H1,bJ p H H1/\RG M (D'+10) {S with aR:=t}/\Sd K C D H' a r q b la wl M {S with aR:=t}/\Kp H1 H' r q b la wl q la wl,?_,?_]
  ·erw[_,Z,p,4,Z,I0.bC,aw,aw,λt H1 t0 t1 b1=>?_]
   have I1:=I0.draw b1;erw[_,_,Z,Z,_,Z,?_];by_cases h:0<t
   ·rw[bM h]
    erw[bE ?_];let(dx,mv,ea,pM):=id I1.sd.dk;let(eh,gh):=I1.g.hold I0.fr I0.hD;erw[_,Z,a,dx,_,Z,ea,Z,a,r,q,M,D',S,.wd .hold,Z,I1.sd.dk,I1.sd.x,I1.g,λH2 R2 b2=>?_];rw[eh]at R2 gh;have Wg:bR [r,q] H1 H2:=λx o e hx=>b2 x o e λz=>hx (by simp only[bI,ck,cJ]at z⊢;erw[.inl z]);let(Ax,Lj,v2):=I1.sd.mv I1.g.ok.row.no Wg;erw[Z,some (S.pc,gB M.f S.pc,0),H1,b1,gh,#[Lj,R2,#[Ax.e,Ax.l,Ax.w],I1.sd.ql,I1.sd.qw],#[λx o e hx=>Wg x o e λz=>hx ?_,.inl (by simp),.inl (by simp),.inl (by simp)]];simp only[bI,ck,cJ]at z⊢;erw[z.imp id .inl]
   ·rw[cG h]
    erw[bf #[Z,none,H1,b1,?_,?_,Kp.refl]]
    ·rw[show({S with aR:=none}:aU)=S by rw[<-I0.fr]];erw[I1.g.up I0.hD]
    ·rw[show({S with aR:=none}:aU)=S by rw[<-I0.fr]];erw[I1.sd]
  rintro O H2 ⟨rfl,t,H1,b1,g2,kD,JB⟩;generalize eS:({S with aR:=t}:aU)=S2 at g2 kD;have sQ:S2.ds=S.ds:=by rw[<-eS]
  have V8:dj S2=dj S:=by rw[<-eS];rfl
  let(dx,mv,ea,pM):=id kD.dk;erw[_,Z,a,dx,_,Z,ea,Z,a,r,q,M,_,S2,.wd .state,Z,kD.dk,kD.x,g2,λH3 s3=>?_];erw[Z,?_];have Ag:decide (V.str (lD S2)=V.str (Str.ofString "held stands"))=sJ S2:=Uq S2;have lE:=kD.same g2.ok.row.no s3;have CM:=JB.same s3;let(ys,ew,eU):=id lE.bk.w;have ly:=eU.length;have Jz:=g2.ok.len;have nm:Nm (S2.ds.length:Int):=g2.len;have sR:=s3 _ _ ea;change gr 3 (.bl (decide (V.str (lD S2)=V.str (Str.ofString "held stands")))) _ _ _;rw[Ag];erw[_,Z,b,_,Z,dg lE.bk.e kO,wl,ys,Z,.inl (aD.of ew),?_];change gr 4 (.int (ys.length:Int)) _ _ _;rw[ly];erw[λσ' cls iD H'=>cls= .ref R.m/\¬Halt S2.pc S2.aR/\σ'=[some (.ref p),some (.ref a),some (.ref b),some (.bl (sJ S2)),some (.int (S2.ds.length:Nat)),none]/\aE H3 H',?_,λσ' cls iD H' h=>#[_,h.1,Z],?_]
  ·erw[_,Z,a,dx,_,Z,sR,Z,a,r,q,M,_,S2,.wd .drop,Z,lE.dk,lE.x,g2,λnh H' s'=>#[Z,nh,Z,s'],λhh q' H4 R4 nq b4=>?_]
   have LI:bR [r,q] H3 H4:=λx o e hx=>b4 x o e λz=>hx (by simp only[bI,ck,cJ]at z⊢;erw[.inl z]);let(j8,xG,v4):=lE.mv g2.ok.row.no LI;erw[aw,λl H5 n5=>#[_,Z,b,_,Z,dp (n5.same _ _ j8.e) Cj qK,_,Z,b,_,Z,dp bP IB qK,?_]];rw[ET];have Kf:sJ S2=true:=A1.mpr hh;rw[Kf];have e5:=n5.same _ _ j8.e;have v5:=n5.same.v.trans (.upd e5 trivial:cB H5 (_L.upd H5 b (.dK (fF (.ref la) (.ref l) (.int 0) (.int S2.aA)))));let(oE,wR,wQ,pX):=Sd.rb (D:=D) (a:=a) R4 j8;let(wV,wW,rX):=xF xG R4 j8;have lb:l≠b:=λz=>by rw[z]at n5;have:=n5.no;rw[j8.e]at this;cases this
   have ql:q'≠la:=λz=>by rw[z,lE.bk.l]at nq;cases nq
   have qw:q'≠l:=λz=>by let(zs,eq):=R4.lst;rw[z,n5.no]at eq;cases eq
   have BU:Sd K C D (_L.upd H5 b (.dK (fF (.ref la) (.ref l) (.int 0) (.int S2.aA)))) a r q' b la l M (mF S2):=by
    erw[xG.but v5 λo e=>?_,R4.go Z v5 (λo e=>?_) (λo e=>?_),#[bP,?_,[],?_,dJ],ql,qw]
    ·rw[aQ rX];erw[n5.same _ _ e]
    ·rw[aQ oE];erw[n5.same _ _ e]
    ·rw[aQ pX];erw[n5.same _ _ e]
    ·rw[aQ j8.nl.symm,show dj (mF S2)=dj S2 from bo rfl];erw[n5.same _ _ j8.l]
    ·rw[aQ lb];erw[n5.at']
   have b5:bR [r] H3 H5:=λx o e hx=>n5.same _ _ (b4 x o e hx);have kpA:Kp H3 (_L.upd H5 b (.dK (fF (.ref la) (.ref l) (.int 0) (.int S2.aA)))) r q b la wl q' la l:=#[bR.put b5 λx hx=>.inl (cn.mp hx),.inr nq,.inl (by simp),(Av b4 n5.no).imp (λz=>by rw[cn.mp z];erw[.head _]) id];erw[_,Z,true,Z,bE #[_,Z,_,Z,.inl #[_,Z,kL nm,Z,_,Z,?_]]];rw[bM (show V.str (numS ((S2.ds.length:Nat):Int))=V.str (Str.ofString (toString ((S2.ds.length:Nat):Int)))from Z)];erw[bE ?_];let(qG,SE,ea6,_):=id BU.dk;erw[_,Z,a,qG,_,Z,ea6,Z,a,r,q',M,_,mF S2,.wd .go,Z,BU.dk,BU.x,g2.drop,λH7 R7 b7=>#[Z,?_]];rw[bM (show V.str (numS (((mF S2).ds.length:Nat):Int))=V.str (Str.ofString "0")from XC)];let(p5,Lh,v7):=BU.mv Z (bR.two b7);erw[k {mF S2 with aR:=none} q' la l H7 #[Lh,R7,#[p5.e,p5.l,p5.w],ql,qw] g2.drop.free rfl (Kp.bC b1 (CM.trans (kpA.trans (Kp.one b7))) I0.ne.1)]
  ·rintro C' ex iD σ' H7 _ ⟨_,nh,rfl,s7⟩ hex
   have sx:aE H3 (_L.upd H7 ex (.ext (qP ex (.ref C') iD))):=s7.trans (.new hex);have hb0:sJ S2=false:=EH.mpr λz=>nh (A1.mp z);have yY:=lE.same g2.ok.row.no sx;rw[hb0];erw[_,Z,false,Z,true,Z,bE ?_];erw[_,Z,a,dx,_,Z,sx _ _ sR,Z,a,r,q,M,_,S2,Z,#[_,_,bP],yY.dk,yY.x,g2,λH9 R9 b9=>?_];erw[_,Z,.inl #[_,Z,kL nm,Z,?_]];change Q (.bl (decide (V.str (numS ((S2.ds.length:Nat):Int))=V.str (Str.ofString (toString ((S2.ds.length:Nat):Int)))))) H9;rw[bM (show V.str (numS ((S2.ds.length:Nat):Int))=V.str (Str.ofString (toString ((S2.ds.length:Nat):Int)))from Z)];let(LC,dk9,v9):=yY.mv g2.ok.row.no (bR.two b9);erw[k {S2 with aR:=none} q la wl H9 #[dk9,R9,#[LC.e,LC.l,LC.w],yY.ql,yY.qw] g2.free rfl (Kp.bC b1 ((CM.same sx).trans (Kp.one b9)) I0.ne.1)]
end
open _T (numS numIn? Free)
section
theorem OM(d:ag)(T:aU):(cX d T).aR=T.aR:=by
 unfold cX;split
 ·split
  ·rfl
  ·split<;>rfl
 ·rfl
structure xT(S:aU)(n:Int):Prop where at':∃sq st gn,S.aR=some (sq,st,gn)/\(st-gn)+(S.ds.length:Int)<=n
theorem DT(S:aU):(gG S).ds.length<=S.ds.length/\(gG S).aR=S.aR:=by
 unfold gG;split
 ·erw[by show S.ds.tail.length<=_;rw[List.length_tail];omega,Z]
 ·erw[bL _,Z]
theorem One.Ju{n:Int}(o:One M S e S1)(ok:iG M.rs.length S.ds S.os)(h:xT S n):xT S1 (n-1):=by let(sq,st,gn,es,hn):=h;cases o with
 |@line ns sp eo nh=>
  have hd:(eY M S ns sp).ds=S.ds:=rfl;have hs:(eY M S ns sp).aR=wN S.aR:=rfl;rw[es]at hs;unfold fQ;split
  ·let(h1,h2):=DT (eY M S ns sp)
   rw[hd]at h1;erw[sq,st,gn+1,h2.trans hs,ao]
  ·erw[sq,st,gn+1,hs,by rw[hd];lia] |@iL _ eo ed nh=>
  let(f1,f2,_):=ON e S;have hl:0<S.ds.length:=(dW.mp ed).1;obtain⟨o,os,jH⟩:∃o os,S.os=o::os:=by cases h:S.os with |nil=>rw[h]at eo;cases eo |cons o os=>erw[o,os,Z]
  have h1:(gG (cX e S)).ds=S.ds.tail:=by unfold gG;rw[f1,jH,<-f2]
  erw[sq,st,gn,(DT _).2.trans ((OM _ _).trans es),?_];rw[h1,List.length_tail]
  lia
theorem Run.Ju{D:Nat}(r:Run M S es S1):RG M D S->∀n,xT S n->xT S1 (n-es.length):=by induction r with |nil=>erw[λ_ n h=>by rw[List.length_nil];simpa using h] |@cons _ _ _ _ es o r ih=>intro g n h;have:=ih (g.run (.cons o (.nil _))) _ (o.Ju g.ok.row h);rw[gy,show n-((es.length+1:Nat):Int)=n-1-es.length by lia];erw[this]
theorem Run.most{D:Nat}(r:Run M S es S1)(g:RG M D S){n:Int}(h:xT S n):(es.length:Int)+S1.ds.length<=n:=by
 let(sq,st,gn,e,hn):=r.Ju g n h;have:=(g.run r).ok.aR;rw[e]at this;have:=this.2.1
 lia
theorem acV(c1 c2:Bool)(h1:∀Q':Bool->Hp->Prop,Q' c1 H->ta O H Q')(h2:∀Q':Bool->Hp->Prop,Q' c2 H->tb O H Q')(h3:c1=true->c2=true->∀Q':Bool->Hp->Prop,(∀H',aE H H'->Q' false H')->tc O H Q')(k:∀H',aE H H'->Q false H'):BE ta (BE tb tc) O H Q:=h1 _ (by cases c1 with |false=>erw[k H (aE.refl _)] |true=>erw[h2 _ ?_];cases c2 with |false=>erw[k H (aE.refl _)] |true=>erw[h3 Z Z _ k])
inductive aeF(K:aa)(C:Addr)(D:Addr)(vs:List V)(H:Hp)(Q:VK):Prop |mk (m:V)(a:Addr)(r:Addr)(q:Addr)(b:Addr)(la:Addr)(wl:Addr)(M:aY)(D':Nat)(S:aU)(h0:vs=[m,.ref a,.ref b])(h1:RD K H m (aY.D M))(h2:Sd K C D H a r q b la wl M S)(h3:RG M D' S)(h4:S.aR=none)(h5:D'<=900)(h6:∀S' q' dF cY H',Sd K C D H' a r q' b dF cY M S'->RG M (D'+10) S'->S'.aR=none->Kp H H' r q b la wl q' dF cY->Q (.bl true) H')
def Oo(K:aa)(C D:Addr):Sp:=λvs H Q _=>aeF K C D vs H Q
theorem Qg:bu ["_law_machine_here","_law_desk","_law_book","_law_most","_law_ahead","_law_many"] ["_law_machine_here","_law_desk","_law_book"] (aW GZ):=bF aG
theorem a3M{D:Addr}(F:FA K mg "_law_held" GZ)(B:bK mg)(DC:lU K D)(Kr:aF P w K mg au "_law_steps_told" 15 (Fg K C D))(mC:cQ P w K mg au D "say" 14 (λvs H Q _=>rC K C D R vs H Q E0)):aF P w K mg au "_law_held" 16 (Oo K C D):=by
 exists F.has,Qg,lQ λ_ _ _=>rfl
 ·let(m,a,r,q,b,la,wl,M,D',S,rfl,rm,sd,g,fr,hD,k):=h
  have nd:=Qg.nd;have iA:sizeLine=16777216:=by decide
  erw[_,(aB (pS 3 nd (cZ (x:="int") xK Z (B.at "int") tL (ak (kJ mC DC.cl (hr.mono aw) (pv 1) (ak ba ay)) ay))) (aB (pS 4 nd (dZ K B (ak (dY hr (pv 2) ba) ay))) (aB (pS 5 nd (pf Kr hr (ak (pv 0) (ak (pv 1) (ak (pv 2) (ak az ay)))))) (aB (bN (PW.pt (j6 (bS Cm (pv 5) gU (bA _)) (jB (bS oz (pv 5) (aP dw (pv 3) (pv 4)) (bA _))))) (aI (aV jC)) bQ) (aB (bN (PW.pt (pO (bS jD (pv 5) az (bA _)) (pO (bS oz (dZ K B (ak (dY hr (pv 2) ba) ay)) az (bA _)) (wy (bS IG (kJ mC DC.cl (hr.mono aw) (pv 1) (ak ba ay)) ba (bA _)))))) (aI (aV jC)) bQ) (aI (aV (fC kg (kJ mC DC.cl (hr.mono aw) (pv 1) (ak ba ay)) (cZ (x:="str") jL Z (B.at "str") je (ak (dZ K B (ak (dY hr (pv 2) ba) ay)) ay)) (bA _))))))))),?_];let(dx,mv,ea,pM):=id sd.dk;let(eh,gh):=g.hold fr hD;let(iz,il):=zG g.NC.b;erw[_,Z,a,dx,_,Z,ea,Z,a,r,q,M,D',S,.wd .hold,Z,sd.dk,sd.x,g,λH1 R1 b1=>#[_,gB M.f S.pc,Z,iz,il,?_]];have R1':=R1;let(qJ,Aj,v1):=sd.mv g.ok.row.no (bR.two b1);let(ys,ew,eU):=id qJ.w;have ly:=eU.length;have ed:(jn M S).ds=S.ds:=by rw[eh]
  have lf:xT (jn M S) (gB M.f S.pc+(S.ds.length:Int)):=#[S.pc,gB M.f S.pc,0,by rw[eh],by rw[ed];lia];have ZP:Sd K C D H1 a r q b la wl M (jn M S):=by rw[eh]at R1⊢;erw[Aj,R1,#[qJ.e,qJ.l,qJ.w],sd.ql,sd.qw]
  erw[_,Z,b,_,Z,dg qJ.e kO,wl,ys,Z,.inl (aD.of ew),?_];erw[_,Z,_,Z,_,Z,m,a,r,q,b,la,wl,M,D'+10,jn M S,100,Z,RD.v v1 _ (gF _ _ _ _ _) rm,ZP,gh,aw,aw,λes S2 q2 cV cP H2 run hl ny kD JB=>?_];have g2:=gh.run run;have hm:=run.most gh lf;have rZ:=g2.ok.row.len;have Jz:=g2.ok.len;have nm:Nm (S2.ds.length:Int):=g2.len;unfold gr;dsimp only;unfold yG F3;dsimp only;erw[RU false false (λQ' q'=>#[_,Z,Z,_,Z,q']) (λQ' q'=>#[_,Z,_,Z,_,Z,_,_,Z,Z,_,_,Z,Z,_,Z,?_]) ?_]
  ·rw[cG (show¬gB M.f S.pc+(ys.length:Int)<(es.length:Int) by lia)]
   erw[q']
  erw[bf ?_];let(Bi,ew2,rw2):=id kD.bk.w;have CI:=rw2.length;let(jI,Jc,Vi,_):=id kD.dk;unfold Nd;dsimp only;erw[acV (decide ((es.length:Int)<100)) (decide (0<(Bi.length:Int))) (λQ' q'=>#[_,Z,_,_,Z,Z,_,Z,q']) (λQ' q'=>#[_,Z,b,_,Z,dg kD.bk.e kO,cP,Bi,Z,.inl (aD.of ew2),_,_,Z,Z,_,Z,q']) (λc1 c2 Q' q'=>?_) λH3 s3=>bf ?_]
  ·have c1:=iY c1
   have c2:=iY c2;have hh:Halt S2.pc S2.aR:=by
    rcases ny with h|h|h
    ·lia
    ·rw[h]at rZ;simp at rZ;rw[rZ]at CI;simp at CI;rw[CI]at c2;simp at c2
    ·erw[h]
   erw[_,Z,a,jI,_,Z,Vi,Z,a,r,q2,M,_,S2,.wd .state,Z,kD.dk,kD.x,g2,λH3 s3=>#[Z,_,Z,?_]];have Ag:decide (V.str (lD S2)=V.str (Str.ofString "held stands"))=sJ S2:=Uq S2;have Kf:sJ S2=true:=A1.mpr hh;change Q' (!decide (V.str (lD S2)=V.str (Str.ofString "held stands"))) H3;rw[Ag,Kf];erw[q' H3 s3]
  have lE:=kD.same g2.ok.row.no s3;erw[_,Z,a,jI,_,Z,s3 _ _ Vi,Z,a,r,q2,M,_,S2,.wd .go,Z,lE.dk,lE.x,g2,λH4 R4 b4=>?_];let(j8,xG,v4):=lE.mv g2.ok.row.no (bR.two b4);let(XD,ew4,rw4):=id j8.w;have SO:=rw4.length;erw[_,Z,b,_,Z,dg j8.e kO,cP,XD,Z,.inl (aD.of ew4),.inl #[_,Z,by rw[SO];erw[kL nm],Z,?_]];rw[SO];change Q (.bl (decide (V.str (numS ((S2.ds.length:Nat):Int))=V.str (Str.ofString (toString ((S2.ds.length:Nat):Int)))))) H4;rw[bM (show V.str (numS ((S2.ds.length:Nat):Int))=V.str (Str.ofString (toString ((S2.ds.length:Nat):Int)))from Z)];erw[k {S2 with aR:=none} q2 cV cP H4 #[xG,R4,#[j8.e,j8.l,j8.w],kD.ql,kD.qw] g2.free rfl ((Kp.one b1).trans ((JB.same s3).trans (Kp.one b4)))]
end
open _T (numS numIn? Free)
section
theorem xU.ahead{b:Addr}(bx:bJ p H H1)(k:xU H1 H2 p r q b la wl q' dF cY):xU H H2 p r q b la wl q' dF cY:=#[λx o e hx=>k.but _ _ (bx.same _ _ (λz=>hx (by rw[z];erw[.head _])) e) hx,bx.wU k.nq,bx.wU k.nl,bx.wU k.nw,k.bC]
theorem Dt.ahead{D:Addr}{b:Addr}(bx:bJ p H H1)(k:Dt K C D H p a r q b la wl M D' Q):Dt K C D H1 p a r q b la wl M D' Q:=λS' q' dF cY H' s g f kp=>k S' q' dF cY H' s g f (kp.ahead bx)
theorem Run.aR(r:Run M S es S1)(h:S.aR=none):S1.aR=none:=by induction r with |nil=>erw[h] |cons o _ ih=>apply ih;cases o with
 |line _ _=>
  unfold fQ;split
  ·rw[(DT _).2]
   show wN _=none;rw[h];rfl
  ·show wN _=none;rw[h];rfl |iL _ _ _=>rw[(DT _).2,OM];erw[h]
inductive adS(K:aa)(C:Addr)(D:Addr)(vs:List V)(H:Hp)(Q:VK):Prop |mk (m:V)(p:Addr)(a:Addr)(r:Addr)(q:Addr)(b:Addr)(la:Addr)(wl:Addr)(M:aY)(D':Nat)(S:aU)(h0:vs=[.ref p,m,.ref a,.ref b])(h1:In K C D H p a r q b la wl M D' S m)(h2:Dt K C D H p a r q b la wl M D' Q)
def NZ(K:aa)(C D:Addr):Sp:=λvs H Q _=>adS K C D vs H Q
theorem a1D{t:Int}(hx:0<=x)(CY:x<=100)(hy:0<=y)(hy1:y<=100):∃n,fk [V.int x,V.int y] (t%2)=some (.int n)/\0<=n/\n<=100:=by
 rcases(by lia:t%2=0\/t%2=1)with e|e
 ·rw[e];erw[x,Z,hx,CY]
 ·rw[e];erw[y,Z,hy,hy1]
theorem P2:bu ["_law_bag_here","_law_machine_here","_law_desk","_law_book","_law_how"] ["_law_bag_here","_law_machine_here","_law_desk","_law_book"] (aW FT):=bF aG
theorem a2W{D:Addr}(F:FA K mg "_law_said" FT)(B:bK mg)(ek:aF P w K mg au "_law_take" 1 lZ)(a95:aF P w K mg au "_law_fed" 15 (Ou K C D))(Kr:aF P w K mg au "_law_steps_told" 15 (Fg K C D))(a94:aF P w K mg au "_law_held" 16 (Oo K C D))(a8T:aF P w K mg au "_law_turned" 15 (NS K C D))(a96:aF P w K mg au "_law_dropped" 15 (Oz K C D)):aF P w K mg au "_law_said" 17 (NZ K C D):=by
 exists F.has,P2,xN λ_ _ _ _=>rfl
 ·let(m,p,a,r,q,b,la,wl,M,D',S,rfl,I0,k):=h
  have nd:=P2.nd;erw[_,(aB (pS 4 nd (pf ek hr (ak (pv 0) (ak az ay)))) (aB (bN (bS jD (pv 4) az (bA _)) (aI (aV (pf a95 hr (ak (pv 0) (ak (pv 1) (ak (pv 2) (ak (pv 3) ay))))))) bQ) (aB (bN (bS jD (pv 4) az (bA _)) (aI (aV (fC IE (pf Kr hr (ak (pv 1) (ak (pv 2) (ak (pv 3) (ak (px K (fc (ak (pf ek hr (ak (pv 0) (ak az ay))) (ak (pf ek hr (ak (pv 0) (ak az ay))) ay))) (aP rM (pv 4) az)) ay))))) gU (bA _)))) bQ) (aB (bN (bS (dQ K Z hr.units) (pv 4) az (bA _)) (aI (aV (pf a94 hr (ak (pv 1) (ak (pv 2) (ak (pv 3) ay)))))) bQ) (aB (bN (bS (dQ K Z hr.units) (pv 4) az (bA _)) (aI (aV (pf a8T hr (ak (pv 0) (ak (pv 2) (ak (pv 3) ay)))))) bQ) (aI (aV (pf a96 hr (ak (pv 0) (ak (pv 2) (ak (pv 3) ay))))))))))),?_];erw[_,Z,p,12,Z,I0.bC,aw,aw,λt H1 t0 t1 b1=>?_];have I1:=I0.draw b1;have k1:=k.ahead b1;erw[_,Z,_,_,Z,Z,_,Z,?_];by_cases h5:t<5
  ·rw[bM h5]
   erw[bE #[_,Z,_,Z,_,Z,_,Z,m,p,a,r,q,b,la,wl,M,D',S,Z,I1,k1]]
  rw[cG h5];erw[bf #[_,Z,_,_,Z,Z,_,Z,?_]];by_cases h9:t<9
  ·rw[bM h9]
   erw[bE #[_,Z,_,Z,_,Z,_,Z,p,60,Z,I1.bC,aw,aw,λn1 H2 zy pZ b2=>#[_,Z,p,6,Z,b2.bC,aw,aw,λn2 H3 n20 n21 b3=>#[by show 2<=sizeLine;decide,λl H4 n4=>?_]]]];let(n,en,n0,zA):=a1D (t:=t) zy (by lia:n1<=100) n20 (by lia:n2<=100);have b4:bJ p H1 H4:=(b2.trans b3).trans (.fK b3.bC n4.same);have I4:=I1.draw b4;erw[_,Z,_,_,Z,Z,aw,.inl #[l,_,t%2,_,Z,Z,aD.of n4.at',en,?_]];erw[m,a,r,q,b,la,wl,M,D',S,n,Z,I4.rm,I4.sd,I4.g,n0,zA,λes S' q' dF cY H' run _ _ ZQ kp=>#[Z,?_]];erw[k1 S' q' dF cY H' ZQ ((I4.g.run run).up I1.hD) (run.aR I1.fr) (Kp.bC b4 kp I1.ne.1)]
  rw[cG h9];erw[bf #[_,Z,.inl #[_,_,Z,Z,_,Z,?_]]];by_cases e9:t=9
  ·rw[bM e9]
   erw[bE #[_,Z,_,Z,_,Z,m,a,r,q,b,la,wl,M,D',S,Z,I1.rm,I1.sd,I1.g,I1.fr,I1.hD,λS' q' dF cY H' s g f kp=>k1 S' q' dF cY H' s g f (Kp.bC (bJ.refl I1.bC) kp I1.ne.1)]]
  rw[cG e9];erw[bf #[_,Z,.inl #[_,_,Z,Z,_,Z,?_]]];by_cases Vm:t=10
  ·rw[bM Vm]
   erw[bE #[_,Z,_,Z,_,Z,m,p,a,r,q,b,la,wl,M,D',S,Z,I1,k1]]
  rw[cG Vm];erw[bf #[_,Z,_,Z,_,Z,m,p,a,r,q,b,la,wl,M,D',S,Z,I1,k1]]
end
open _T (numS numIn? Free)
section
structure Si(K:aa)(C D:Addr)(H0 HA:Hp)(st:List Addr)(H:Hp)(m:V)(a r q b la wl:Addr)(M:aY)(D':Nat)(S:aU):Prop where
 sd:Sd K C D H a r q b la wl M S
 g:RG M D' S
 fr:S.aR=none
 rm:RD K H m (aY.D M)
 n0:∀x∈[r,q,b,la,wl],H0 x=none
 rQ:∀x∈[r,q,b,la,wl],x∉st
structure Tw(K:aa)(C D:Addr)(H0 HA:Hp)(st:List Addr)(H:Hp)(m1 m2:V)(a1 r1 q1 b1 cD cC a2 r2 q2 b2 cV cP:Addr)(M1 M2:aY)(D1 D2:Nat)(S1 S2:aU):Prop where
 s0:aE H0 H
 kept:∀y∈st,∃o,HA y=some o/\H y=some o
 x1:Si K C D H0 HA st H m1 a1 r1 q1 b1 cD cC M1 D1 S1
 x2:Si K C D H0 HA st H m2 a2 r2 q2 b2 cV cP M2 D2 S2
 ft:∀x∈[r1,q1,b1,cD,cC],x∉[r2,q2,b2,cV,cP]
section
variable {C D:Addr}{H0 HA H H':Hp}{st:List Addr}{m m1 m2:V}{a r q b la wl p a1 r1 q1 b1 cD cC a2 r2 q2 b2 cV cP q' dF cY:Addr}{M M1 M2:aY}{D' D1 D2:Nat}{S S' S1 S2:aU}
theorem Tw.swap(t:Tw K C D H0 HA st H m1 m2 a1 r1 q1 b1 cD cC a2 r2 q2 b2 cV cP M1 M2 D1 D2 S1 S2):Tw K C D H0 HA st H m2 m1 a2 r2 q2 b2 cV cP a1 r1 q1 b1 cD cC M2 M1 D2 D1 S2 S1:=#[t.s0,t.kept,t.x2,t.x1,λx hx hy=>t.ft x hy hx]
theorem Sd.ex(sd:Sd K C D H a r q b la wl M S):(∀x∈[r,q,b,la,wl],H x≠none)/\H a≠none:=by
 let(dx,fs,er):=sd.x.ins;let(ys,eq):=sd.x.lst;let(zs,ew,_):=sd.bk.w;let(iD,mv,ea,_):=sd.dk;erw[λx hx=>?_,by rw[ea];erw[λz=>nomatch z]];simp only[bI,ck,cJ]at hx;rcases hx with rfl|rfl|rfl|rfl|rfl
 ·rw[er];erw[λz=>nomatch z]
 ·rw[eq];erw[λz=>nomatch z]
 ·rw[sd.bk.e];erw[λz=>nomatch z]
 ·rw[sd.bk.l];erw[λz=>nomatch z]
 ·rw[ew];erw[λz=>nomatch z]
theorem Si.but(x:Si K C D H0 HA st H m a r q b la wl M D' S)(v:cB H H')(bt:bR F H H')(hF:∀y∈[r,q,b,la,wl],y∉F)(ha:a∉F):Si K C D H0 HA st H' m a r q b la wl M D' S:=by have no:=x.g.ok.row.no;erw[#[x.sd.dk.but v λo e=>bt _ _ e ha,x.sd.x.go no v (λo e=>bt _ _ e (hF _ (by simp))) (λo e=>bt _ _ e (hF _ (by simp))),x.sd.bk.but no v λy o e hy=>bt _ _ e (hF _ ?_),x.sd.ql,x.sd.qw],x.g,x.fr,RD.v v _ (gF _ _ _ _ _) x.rm,x.n0,x.rQ];simp only[bI,ck,cJ]at hy⊢;erw[.inr (.inr hy)]
theorem Tw.same(t:Tw K C D H0 HA st H m1 m2 a1 r1 q1 b1 cD cC a2 r2 q2 b2 cV cP M1 M2 D1 D2 S1 S2)(s:aE H H'):Tw K C D H0 HA st H' m1 m2 a1 r1 q1 b1 cD cC a2 r2 q2 b2 cV cP M1 M2 D1 D2 S1 S2:=by have bt:bR [] H H':=λx o e _=>s _ _ e;erw[t.s0.trans s,λy hy=>by let(o,e1,e2):=t.kept y hy;erw[o,e1,s _ _ e2],t.x1.but s.v bt (λ_ _=>ck) ck,t.x2.but s.v bt (λ_ _=>ck) ck,t.ft]
structure Pb(H0:Hp)(st:List Addr)(p q1 cD cC q2 cV cP:Addr):Prop where
 n0:H0 p=none
 rQ:p∉st
 h1:p∉[q1,cD,cC]
 h2:p∉[q2,cV,cP]
theorem Tw.TU(t:Tw K C D H0 HA st H m1 m2 a1 r1 q1 b1 cD cC a2 r2 q2 b2 cV cP M1 M2 D1 D2 S1 S2)(bg:fN H p)(pb:Pb H0 st p q1 cD cC q2 cV cP)(hD:D1<=900):In K C D H p a1 r1 q1 b1 cD cC M1 D1 S1 m1:=#[bg,pb.h1,t.x1.rm,t.x1.sd,t.x1.g,t.x1.fr,hD]
theorem Tw.act(t:Tw K C D H0 HA st H m1 m2 a1 r1 q1 b1 cD cC a2 r2 q2 b2 cV cP M1 M2 D1 D2 S1 S2)(bg:fN H p)(pb:Pb H0 st p q1 cD cC q2 cV cP)(sd:Sd K C D H' a1 r1 q' b1 dF cY M1 S')(g:RG M1 (D1+10) S')(fr:S'.aR=none)(kp:xU H H' p r1 q1 b1 cD cC q' dF cY):Tw K C D H0 HA st H' m1 m2 a1 r1 q' b1 dF cY a2 r2 q2 b2 cV cP M1 M2 (D1+10) D2 S' S2/\Pb H0 st p q' dF cY q2 cV cP/\fN H' p:=by
 have new:∀x∈[r1,q',b1,dF,cY],x∈[r1,q1,b1,cD,cC]\/H x=none:=λx hx=>by
  have w:∀{x:Addr},ja H [r1,q1,b1] x->x∈[r1,q1,b1,cD,cC]\/H x=none:=λ{x} h=>h.f;simp only[bI,ck,cJ]at hx;rcases hx with rfl|rfl|rfl|rfl|rfl
  ·erw[.inl (by simp)]
  ·erw[w kp.nq]
  ·erw[.inl (by simp)]
  ·erw[kp.nl]
  ·erw[kp.nw]
 let(c,mm,ep,okc):=bg;let(dx,fs,er):=t.x1.sd.x.ins;let(ys,eq):=t.x1.sd.x.lst;have v:cB H H':=kp.but.v λx hx o eo=>by
  simp only[bI,ck,cJ]at hx;rcases hx with rfl|rfl|rfl|rfl
  ·rw[ep]at eo;cases eo;trivial
  ·rw[er]at eo;cases eo;trivial
  ·rw[eq]at eo;cases eo;trivial
  ·rw[t.x1.sd.bk.e]at eo;cases eo;trivial
 have sub:∀x,x∈[p,r1,q1,b1]->x=p\/x∈[r1,q1,b1,cD,cC]:=λx hx=>by
  simp only[bI,ck,cJ]at hx⊢;rcases hx with h|h|h|h
  ·erw[.inl h]
  ·erw[.inr (.inl h)]
  ·erw[.inr (.inr (.inl h))]
  ·erw[.inr (.inr (.inr (.inl h)))]
 have pG:∀{a r q b la wl M S},Sd K C D H a r q b la wl M S->p∉[q,la,wl]->p∉[r,q,b,la,wl]/\a≠p:=λ{a r q b la wl M S} sd hp=>by let(jI,DE,DN):=sd.x.ins;let(Lc,wY,sR,_):=sd.dk;have h1:p≠r:=iP ep DN (by intro z;cases z);have h2:p≠b:=iP ep sd.bk.e (by intro z;cases z);simp only[bI,ck,cJ,not_or]at hp⊢;erw[#[h1,hp.1,h2,hp.2.1,hp.2.2],iP sR ep (by intro z;cases z)]
 let(p2,ap2):=pG t.x2.sd pb.h2;let(h21,h22,h23):=xF t.x2.sd.dk t.x1.sd.x t.x1.sd.bk;let(ex2,_):=t.x2.sd.ex;have ne0:H p≠none:=by rw[ep];erw[λz=>nomatch z]
 erw[#[λx o e=>kp.but _ _ (t.s0 _ _ e) λhx=>?_,λy hy=>?_,#[sd,g,fr,RD.v v _ (gF _ _ _ _ _) t.x1.rm,λx hx=>?_,λx hx hs=>?_],t.x2.but v kp.but (λy hy hx=>?_) (λhx=>?_),λx hx hy=>?_],#[pb.n0,pb.rQ,λhx=>?_,pb.h2],kp.bC]
 ·rcases sub x hx with rfl|hx
  ·rw[pb.n0]at e;cases e
  ·rw[t.x1.n0 x hx]at e;cases e
 ·let(o,e1,e2):=t.kept y hy
  erw[o,e1,kp.but _ _ e2 λhx=>?_];rcases sub y hx with rfl|hx
  ·erw[pb.rQ hy]
  ·erw[t.x1.rQ y hx hy]
 ·rcases new x hx with h|h
  ·erw[t.x1.n0 x h]
  ·cases e:H0 x with |none=>rfl |some o=>rw[t.s0 _ _ e]at h;cases h
 ·rcases new x hx with h|h
  ·erw[t.x1.rQ x h hs]
  ·let(o,_,e2):=t.kept x hs
   rw[e2]at h;cases h
 ·rcases sub y hx with rfl|hx
  ·erw[p2 hy]
  ·erw[t.ft y hx hy]
 ·simp only[bI,ck,cJ]at hx
  rcases hx with h|h|h|h
  ·erw[ap2 h]
  ·erw[h21 h]
  ·erw[h22 h]
  ·erw[h23 h]
 ·rcases new x hx with h|h
  ·erw[t.ft x h hy]
  ·erw[ex2 x hy h]
 ·have:p∈[r1,q1,b1,cD,cC]\/H p=none:=by
   simp only[bI,ck,cJ]at hx;rcases hx with h|h|h
   ·erw[new p (by rw[h];simp)]
   ·erw[new p (by rw[h];simp)]
   ·erw[new p (by rw[h];simp)]
  rcases this with h|h
  ·exact(pG t.x1.sd pb.h1).1 h
  ·erw[ne0 h]
end
end
open _T (numS numIn? Free)
section
structure kn(H:Hp)(b la wl:Addr)(pl:List Int):Prop where
 e:H b=some (.dK (fF (.ref la) (.ref wl) (.int 0) (.int 100)))
 l:H la=some (.lst (pl.map V.int))
 w:H wl=some (.lst [])
theorem kn.same{b:Addr}{pl:List Int}(h:kn H b la wl pl)(s:aE H H'):kn H' b la wl pl:=#[s _ _ h.e,s _ _ h.l,s _ _ h.w]
theorem kn.upd{b:Addr}{pl:List Int}(h:kn H b la wl pl)(n:∀y∈[b,la,wl],y≠x):kn (_L.upd H x o) b la wl pl:=#[by rw[aQ (n _ (by simp))];erw[h.e],by rw[aQ (n _ (by simp))];erw[h.l],by rw[aQ (n _ (by simp))];erw[h.w]]
theorem kn.ex{b:Addr}{pl:List Int}(h:kn H b la wl pl):∀y∈[b,la,wl],H y≠none:=λy hy=>by
 simp only[bI,ck,cJ]at hy;rcases hy with rfl|rfl|rfl
 ·rw[h.e];erw[λz=>nomatch z]
 ·rw[h.l];erw[λz=>nomatch z]
 ·rw[h.w];erw[λz=>nomatch z]
theorem ac7(hx:Hb lp=some (.lst [rJ,rH]))(nw:Nw Hb H0 L (.lst [])) (hs:∀x pl H2 (Q':VK),(x=rJ/\pl=pl1\/x=rH/\pl=pl2)->aE Hb H2->(∀b la wl H3,(∀y∈[b,la,wl],H2 y=none)->kn H3 b la wl pl->aE H2 H3->Q' (.ref b) H3)->te [some x] H2 Q') (hq:∀b1 cD cC b2 cV cP H',aE Hb H'->H' L=some (.lst [.ref b1,.ref b2])->kn H' b1 cD cC pl1->kn H' b2 cV cP pl2->(∀y∈[b1,cD,cC],H0 y=none)->(∀y∈[b2,cV,cP],H0 y=none/\y∉[b1,cD,cC])->Q (.ref L) H'):kW (tE K lp) (gr 0) jV te Q L [none] H0:=by
 have fr:∀{H3:Hp}{y:Addr},aE Hb H3->H3 L≠none->H3 y=none->H0 y=none:=λ{H3 y} s hL hy=>by cases e:H0 y with |none=>rfl |some o=>
  rw[nw.eq]at e;by_cases z:y=L
  ·rw[z]at hy;exact(hL hy).elim
  ·rw[aQ z]at e
   rw[s _ _ e]at hy;cases hy
 have nL:∀{H3:Hp}{o:HO}{y:Addr},H3 L=some o->H3 y=none->y≠L:=λ{H3 o y} e1 e2 z=>by rw[z,e1]at e2;cases e2
 have sL:∀{H3:Hp}{o:HO},aE Hb H3->aE Hb (_L.upd H3 L o):=λ{H3 o} s b o' e=>by rw[aQ (λz=>by rw[z,nw.no]at e;cases e)];erw[s _ _ e]
 erw[vm 2 (λi O H3=>aE Hb H3/\(∃v,O=[v])/\(i=0/\H3 L=some (.lst [])\/i=1/\(∃b la wl,H3 L=some (.lst [.ref b])/\kn H3 b la wl pl1/\∀y∈[b,la,wl],H0 y=none/\y≠L)\/i=2/\∃b1 cD cC b2 cV cP,H3 L=some (.lst [.ref b1,.ref b2])/\kn H3 b1 cD cC pl1/\kn H3 b2 cV cP pl2/\(∀y∈[b1,cD,cC],H0 y=none)/\∀y∈[b2,cV,cP],H0 y=none/\y∉[b1,cD,cC])) ?_ ?_ ?_]
 ·erw[nw.same,#[_,Z],.inl #[Z,nw.at']]
 ·rintro i O H3 hi ⟨s3,⟨v,rfl⟩,h|⟨rfl,b1,cD,cC,eL,bk,hn⟩|⟨rfl,_⟩⟩
  ·let(rfl,eL):=h
   erw[#[_,rJ,aD.of (s3 _ _ hx),Z],λy H4 #[e4,y4]=>?_];obtain rfl:H4=H3:=e4;have:=y4 _ (aD.of (s3 _ _ hx));obtain rfl:rJ=y:=dU this;erw[vT ?_];erw[hs rJ pl1 _ _ (.inl #[Z,Z]) s3 λb la wl H5 nb LD s5=>#[_,s5 _ _ eL,by show 0<sizeLine;decide,1,aw,Z,aw,sL (s3.trans s5),#[_,Z],.inr (.inl #[Z,b,la,wl,bP,LD.upd λy hy=>nL eL (nb y hy),λy hy=>#[fr s3 (by rw[eL];erw[λz=>nomatch z]) (nb y hy),nL eL (nb y hy)]])]]
  ·erw[#[_,rH,aD.of (s3 _ _ hx),Z],λy H4 #[e4,y4]=>?_]
   obtain rfl:H4=H3:=e4;have:=y4 _ (aD.of (s3 _ _ hx));obtain rfl:rH=y:=dU this;erw[vT ?_];erw[hs rH pl2 _ _ (.inr #[Z,Z]) s3 λb la wl H5 nb LD s5=>#[_,s5 _ _ eL,by show 1<sizeLine;decide,0,aw,Z,aw,sL (s3.trans s5),#[_,Z],.inr (.inr #[Z,b1,cD,cC,b,la,wl,bP,(bk.same s5).upd λy hy=>(hn y hy).2,LD.upd λy hy=>nL eL (nb y hy),λy hy=>(hn y hy).1,λy hy=>#[fr s3 (by rw[eL];erw[λz=>nomatch z]) (nb y hy),λU6=>bk.ex y U6 (nb y hy)]])]]
  ·omega
 ·rintro O H3 ⟨s3,⟨v,rfl⟩,⟨h,_⟩|⟨h,_⟩|⟨_,b1,cD,cC,b2,cV,cP,h1,h2,h3,h4,h5⟩⟩
  ·cases h
  ·cases h
  ·erw[#[_,aD.of (s3 _ _ hx),by show 2<=2;decide],hq _ _ _ _ _ _ _ s3 h1 h2 h3 h4 h5]
theorem zD{Pp:Addr->Prop}{r q b la wl:Addr}(h1:∀x∈[r,q],Pp x)(h2:∀x∈[b,la,wl],Pp x):∀x∈[r,q,b,la,wl],Pp x:=λx hx=>by
 rcases bI.mp hx with rfl|hx
 ·erw[h1 _ (by simp)]
 rcases bI.mp hx with rfl|hx
 ·erw[h1 _ (by simp)]
 ·erw[h2 x hx]
theorem CG{Pp:Addr->Prop}{r q:Addr}(h1:Pp r)(h2:Pp q):∀x∈[r,q],Pp x:=λx hx=>by
 rcases bI.mp hx with rfl|hx
 ·erw[h1]
 ·rw[cn.mp hx];erw[h2]
theorem back(s:aE H H')(h:H' x=none):H x=none:=by cases e:H x with |none=>rfl |some o=>rw[s _ _ e]at h;cases h
theorem fwd(s:aE H H')(h:H x≠none):H' x≠none:=λe=>h (back s e)
theorem a5f{w d:V}:x6 [] (fF p w d r)=fF p w d r:=by kernel_rfl
theorem rg0{pl:List Int}(zo:M.Ok)(Cp:fM M.rs pl):RG M 64 (oh pl):=#[a0C Cp.len,zo,#[show Str.length "up"<=100 by decide+kernel,show Str.length ""<=100 by decide+kernel,show dR "up" from pU aG,show dR "" from pU aG],λi hi=>by have:i=0:=Nat.le_zero.mp hi;rw[this];erw[Cp],aw]
theorem si0{D:Addr}{st:List Addr}{b:Addr}{pl:List Int}(dk:jQ K D jb a r M)(x:cc K C jb r q M (oh pl))(sB:aE jb HB)(jA:aE jb vC)(bk:kn vC b la wl pl)(zo:M.Ok)(Cp:fM M.rs pl)(rm:RD K vC m (aY.D M))(f:∀y∈[b,la,wl],HB y=none)(nrq:∀y∈[r,q],H7 y=none)(s7:aE H H7)(z9:aE H jb)(a4p:∀y∈[r,q],y∉st)(a4o:∀y∈st,HB y≠none):Si K C D H vC st vC m a r q b la wl M 64 (oh pl):=by
 let(ys,eq):=x.lst;have qn:∀y∈[b,la,wl],q≠y:=λy hy e=>by have:=back sB (f y hy);rw[<-e,eq]at this;cases this
 erw[#[dk.but jA.v λo e=>jA _ _ e,x.same Z jA,#[bk.e,bk.l,[],bk.w,dJ],qn _ (by simp),qn _ (by simp)],rg0 zo Cp,Z,rm,zD (λy hy=>back s7 (nrq y hy)) (λy hy=>back (z9.trans sB) (f y hy)),zD a4p λy hy hs=>a4o y hs (f y hy)]
theorem QJ(x:cc K C H r q M S):∀y∈[r,q],H y≠none:=by let(ys,eq):=x.lst;let(dx,fs,er):=x.ins;erw[CG (by rw[er];erw[λz=>nomatch z]) (by rw[eq];erw[λz=>nomatch z])]
theorem SK{Pp:Addr->Prop}{a b c:Addr}(h1:Pp a)(h2:Pp b)(h3:Pp c):∀x∈[a,b,c],Pp x:=λx hx=>by
 rcases bI.mp hx with rfl|hx
 ·erw[h1]
 ·erw[CG h2 h3 x hx]
theorem Tw.at'{D:Addr}{st:List Addr}{D1 D2:Nat}(t:Tw K C D H0 HA st H m1 m2 a1 r1 q1 b1 cD cC a2 r2 q2 b2 cV cP M1 M2 D1 D2 S1 S2)(hy:y∈st)(h:HA y=some o):H y=some o:=by let(o',e1,e2):=t.kept y hy;rw[h]at e1;cases e1;erw[e2]
theorem Tw.pb{D:Addr}{st:List Addr}{D1 D2:Nat}(t:Tw K C D H0 HA st H m1 m2 a1 r1 q1 b1 cD cC a2 r2 q2 b2 cV cP M1 M2 D1 D2 S1 S2)(np:H p=none):Pb H0 st p q1 cD cC q2 cV cP:=by
 have w:∀{r q b la wl:Addr},(∀x∈[r,q,b,la,wl],H x≠none)->p∉[q,la,wl]:=λ{r q b la wl} h hp=>h p (by
  simp only[bI,ck,cJ]at hp⊢;rcases hp with h|h|h
  ·erw[.inr (.inl h)]
  ·erw[.inr (.inr (.inr (.inl h)))]
  ·erw[.inr (.inr (.inr (.inr h)))]) np;erw[back t.s0 np,λhs=>(by let(o,_,e):=t.kept p hs;rw[np]at e;cases e),w t.x1.sd.ex.1,w t.x2.sd.ex.1]
theorem Q0:bu ["_law_script","_law_bag_here","_law_many","_law_machines","_law_places","_law_desks","_law_books","_law_k","_law_which"] ["_law_script"] (aW we):=bF aG
theorem a3A{D:Addr}{f:Addr}(F:kT K "law" "law" we f fd)(B:bK mg)(UC:aF P w K mg au "_law_bag" 1 (OB K))(ek:aF P w K mg au "_law_take" 1 lZ)(UB:aF P w K mg au "_law_machine" 2 (Oi K))(a8Y:aF P w K mg au "_law_place" 2 (Od K))(UE:xS P w K mg au D "Desk" 5 (OA K C D))(a8W:aF P w K mg au "_law_said" 17 (NZ K C D)):eR P w K mg au iX 18 f fd ["_law_script"] (Fs K):=by
 erw[F.ok Q0 (λvs H Q E h=>?_) (λaH A outer s H vs Q E hr h=>?_)]
 ·let(a,ns,rfl,_):=h
  rfl
 ·let(a,ns,rfl,hS,hlen,k):=h
  have nd:=Q0.nd;have iA:sizeLine=16777216:=by decide
  erw[_,(aB (pS 1 nd (pf UC hr (ak (pv 0) (ak az ay)))) (aB (pS 2 nd (aP dw az (pf ek hr (ak (pv 1) (ak az ay))))) (aB (pS 3 nd (fc (ak (pf UB hr (ak (pv 1) ay)) (ak (pf UB hr (ak (pv 1) ay)) ay)))) (aB (uy (i0:=4) nd Z (Or.inl Z) (N:=["_law_machine_here","_law_bag_here"]) (js:=[none,some 1]) Z Z Z (oo K Z (pv 3)) (λ_ _ _ _ _=>(bh 0 (gj aw))) (λ_ _ _ _ _=>dM) (λ_ _ _ _ _=>(pf a8Y hr (ak (pv 1) (ak (pv 0) ay))))) (aB (pS 5 nd (fc (ak (Iz UE (hr.mono aw) Z (ak (px K (pv 3) az) (ak (px K (pv 4) az) ay))) (ak (Iz UE (hr.mono aw) Z (ak (px K (pv 3) az) (ak (px K (pv 4) az) ay))) ay)))) (aB (uy (i0:=6) nd Z (Or.inl Z) (N:=["_law_place_here"]) (js:=[none]) Z Z Z (oo K Z (pv 4)) (λ_ _ _ _ _=>(bh 0 (jk _))) (λ_ _ _ _ _=>dM) (λ_ _ _ _ _=>(a1W (Cd ba (cZ (x:="list") (Jr K Z) Z (B.at "list") Xa (ak (pv 0) ay)) (Cd ba (fc ay) (Cd ba az (Cd ba az a1x)))) rfl rfl (by simp) aw))) (aB (m6 iZ Z (uz Z (B.at "range") (ak (pv 2) ay)) (bh 7 nd) (aB (pS 1 nd (pf UC hr (ak (pv 0) (ak (aP dw az (pv 7)) ay)))) (aI (m6 iZ Z (uz Z (B.at "range") (ak az ay)) (bh 8 nd) (aI (bN (dv (cL (pf a8W hr (ak (pv 1) (ak (px K (pv 3) (pv 8)) (ak (px K (pv 5) (pv 8)) (ak (px K (pv 6) (pv 8)) ay))))))) (aI (aV jC)) bQ)))))) (aI (aV jC))))))))),?_];erw[_,Z,a,ns,0,Z,hS,hlen,aw,aw,λp H1 np bg1 s1=>?_];erw[_,Z,p,13,Z,bg1,aw,aw,λt H2 t0 t1 b2=>#[_,_,Z,Z,?_]];erw[_,Z,p,Z,b2.bC,λm1 rs1 rr1 f1 j1 Yk H3 HU a2v b3=>#[_,Z,p,Z,b3.bC,λm2 rs2 rr2 f2 j2 Yj H4 rm2 a2u b4=>#[by show 2<=sizeLine;decide,λlm H5 n5=>?_]]];generalize Vk:(#[rs1,rr1,f1,j1,Yk]:aY)=M1;generalize Vj:(#[rs2,rr2,f2,j2,Yj]:aY)=M2;have uj:aE H H4:=bJ.QA s1 np (b2.trans (b3.trans b4));have Ay:fN H5 p:=(bJ.fK b4.bC n5.same).bC;have lmp:lm≠p:=λe=>b4.bC.ne (e▸n5.no);have QR:RD K H5 m1 (aY.D M1):=by rw[<-Vk];erw[RD.mono n5.same _ (bJ.rd b3.bC b4 (gF _ _ _ _ _) HU)]
  have QP:RD K H5 m2 (aY.D M2):=by rw[<-Vj];erw[RD.mono n5.same _ rm2]
  have IQ:M1.Ok:=by rw[<-Vk];erw[a2v]
  have IP:M2.Ok:=by rw[<-Vj];erw[a2u]
  erw[_,Z,lm,Z,#[_,aD.of n5.at'],λlp H6 n6=>?_];have qc:∀{Hz:Hp},bJ p H5 Hz->Hz lm=some (.lst [m1,m2]):=λ{Hz} b=>b.same _ _ lmp n5.at';erw[Ls (K:=K) (J:=tE K lm) (p:=p) (H:=H5) 2 _ n6 Ay aw (λi=>if i=0 then m1 else m2) (λi Hz hi bz=>#[#[_,(if i=0 then m1 else m2),aD.of (qc bz),?_],λy Hy #[e3,y3]=>#[e3,?_]]) (λHz bz=>#[_,aD.of (qc bz),by show 2<=2;decide]) (λi d=>∃pl,d=eV pl/\fM (if i=0 then M1 else M2).rs pl) ?_ ?_]
  ·rcases(by lia:i=0\/i=1)with rfl|rfl<;>rfl
  ·have:=y3 _ (aD.of (qc bz))
   rcases(by lia:i=0\/i=1)with rfl|rfl<;>exact(dU this).symm
  ·intro i Hz Q' hi bz hq
   rcases(by lia:i=0\/i=1)with rfl|rfl
   ·erw[_,Z,_,Z,p,m1,M1.rs,M1.r,M1.f,M1.j,M1.t,Z,bz.bC,bJ.rd Ay bz (gF _ _ _ _ _) QR,IQ,λv pl Hy rv on Lz=>hq v (eV pl) Hy #[pl,Z,on] (jZ _) rv Lz]
   ·erw[_,Z,_,Z,p,m2,M2.rs,M2.r,M2.f,M2.j,M2.t,Z,bz.bC,bJ.rd Ay bz (gF _ _ _ _ _) QP,IP,λv pl Hy rv on Lz=>hq v (eV pl) Hy #[pl,Z,on] (jZ _) rv Lz]
  intro H7 ys ds b7 d7 r7 l7 nl7 RM;obtain⟨d1,d2,rfl⟩:∃d1 d2,ds=[d1,d2]:=match ds,l7 with|[d1,d2],_=>#[d1,d2,rfl];let(pl1,rfl,Cq):=RM 0 d1 rfl;let(pl2,rfl,wI):=RM 1 d2 rfl;have Cq:fM M1.rs pl1:=Cq;have wI:fM M2.rs pl2:=wI;let(rJ,ys',rfl,QM,r7'):=r7.cons_inv;let(rH,XE,rfl,QL,a1p):=r7'.cons_inv;obtain rfl:XE=[]:=List.eq_nil_of_length_eq_zero a1p.length;have HH:aE H H7:=bJ.QA (uj.trans n5.same) np b7;have QQ:=bJ.rd Ay b7 (gF _ _ _ _ _) QR;have QO:=bJ.rd Ay b7 (gF _ _ _ _ _) QP;erw[_,Z,.inl #[lm,_,0,m1,Z,Z,aD.of (qc b7),Z,_,Z,.inl #[lp,_,0,rJ,Z,Z,aD.of d7,Z,λa1 Ld CY a80 ne1=>?_]]];have yK:aE H7 (_L.upd (_L.upd H7 Ld (.own a1)) a1 (.ins D Ld [])):=(aE.new a80).trans (aE.new (by rw[aQ ne1.symm];erw[CY]));erw[a1,Ld,m1,rJ,M1,pl1,Z,bP,RD.mono yK _ QQ,RD.mono yK _ QM,IQ,Cq,λr1 q1 H8 Aj R1 nr1 nq1 bt1=>#[Z,?_]];have uh:aE H7 H8:=λb o eb=>bt1 b o (yK b o eb) λz=>by rw[cn.mp z,CY]at eb;cases eb
  erw[_,Z,.inl #[lm,_,1,m2,Z,Z,aD.of (uh _ _ (qc b7)),Z,_,Z,.inl #[lp,_,1,rH,Z,Z,aD.of (uh _ _ d7),Z,λa2 jI U8 a7Z ne2=>?_]]];have yJ:aE H8 (_L.upd (_L.upd H8 jI (.own a2)) a2 (.ins D jI [])):=(aE.new a7Z).trans (aE.new (by rw[aQ ne2.symm];erw[U8]));erw[a2,jI,m2,rH,M2,pl2,Z,bP,RD.mono yJ _ (RD.mono uh _ QO),RD.mono yJ _ (RD.mono uh _ QL),IP,wI,λr2 q2 H9 Lj R2 nr2 nq2 bt2=>#[Z,?_]];have HD:aE H8 H9:=λb o eb=>bt2 b o (yJ b o eb) λz=>by rw[cn.mp z,U8]at eb;cases eb
  erw[by show 2<=sizeLine;decide,λmd HA nA=>?_];have mR:=uh.trans (HD.trans nA.same);erw[_,Z,lp,Z,#[_,aD.of (mR _ _ d7)],λme HB nB=>?_];erw[ac7 (pl1:=pl1) (pl2:=pl2) (mR _ _ d7) nB (λx pl Hz Q' hx sz hq=>?_) (λb1 cD cC b2 cV cP HC sC eL qJ Ax f1 f2=>?_)]
  ·obtain⟨pa,xs,rfl,JU,mj⟩:∃pa xs,x= .ref pa/\bc K Hz pa xs/\xs=pl.map V.int:=by
    have:RD K Hz x (eV pl):=by
     rcases hx with⟨rfl,rfl⟩|⟨rfl,rfl⟩
     ·erw[RD.mono (mR.trans sz) _ QM]
     ·erw[RD.mono (mR.trans sz) _ QL]
    let(pa,xs,e,h1,h2):=this.cS;erw[pa,xs,e,h1,h2.fL]
   subst mj;intro pd JT;have sp:aE Hz (_L.upd Hz pd (.dK [])):=.new JT;erw[_,Z,pa,_,Z,.inr (JU.go sp),λla Ha na=>#[by show 0<=sizeLine;decide,λwl Hw nw=>#[nw.same _ _ (na.same _ _ bP),fF (.ref la) (.ref wl) (.int 0) (.int 100),Z,by show 4<=15;decide,?_]]];rw[a5f];have lap:la≠pd:=λz=>by have:=na.no;rw[z,bP]at this;cases this
   have XJ:wl≠pd:=λz=>by have:=nw.no;rw[z,na.same _ _ bP]at this;cases this
   have wll:wl≠la:=λz=>by have:=nw.no;rw[z,na.at']at this;cases this
   erw[hq pd la wl _ (λy hy=>?_) #[bP,by rw[aQ lap];erw[nw.same _ _ na.at'],by rw[aQ XJ];erw[nw.at']] λb o e=>?_]
   ·simp only[bI,ck,cJ]at hy
    rcases hy with rfl|rfl|rfl
    ·erw[JT]
    ·erw[back sp na.no]
    ·erw[back (sp.trans na.same) nw.no]
   ·rw[aQ (λz=>by rw[z,JT]at e;cases e)]
    erw[nw.same _ _ (na.same _ _ (sp _ _ e))]
  have HF:=HH.trans mR;have yZ:=HD.trans nA.same;have e1:=QJ R1;have e2:=QJ R2;have SA:∀y∈[r1,q1],H7 y=none:=CG (back yK nr1) (back yK nq1);have J9:∀y∈[r2,q2],H8 y=none:=CG (back yJ nr2) (back yJ nq2);have Jq:H7 lm≠none:=by rw[qc b7];erw[λz=>nomatch z]
  have ns1:∀y∈[r1,q1],y∉[lm,md,me]:=λy hy hs=>by
   simp only[bI,ck,cJ]at hs;rcases hs with rfl|rfl|rfl
   ·erw[Jq (SA _ hy)]
   ·erw[fwd HD (e1 _ hy) nA.no]
   ·erw[fwd yZ (e1 _ hy) nB.no]
  have ns2:∀y∈[r2,q2],y∉[lm,md,me]:=λy hy hs=>by
   simp only[bI,ck,cJ]at hs;rcases hs with rfl|rfl|rfl
   ·erw[fwd uh Jq (J9 _ hy)]
   ·erw[e2 _ hy nA.no]
   ·erw[fwd nA.same (e2 _ hy) nB.no]
  have NI:∀y∈[lm,md,me],HB y≠none:=SK (fwd (mR.trans nB.same) Jq) (fwd nB.same (by rw[nA.at'];erw[λz=>nomatch z])) (by rw[nB.at'];erw[λz=>nomatch z]);have T0:Tw K C D H HC [lm,md,me] HC m1 m2 a1 r1 q1 b1 cD cC a2 r2 q2 b2 cV cP M1 M2 64 64 (oh pl1) (oh pl2):=by
   erw[HF.trans sC,SK #[_,sC _ _ (mR _ _ (qc b7)),sC _ _ (mR _ _ (qc b7))] #[_,sC _ _ nA.at',sC _ _ nA.at'] #[_,eL,eL],?_,?_,zD (λx hx hy=>?_) λx hx hy=>?_]
   ·erw[si0 (Aj.but yZ.v λo e=>yZ _ _ e) (R1.same Z yZ) nB.same sC qJ IQ Cq (RD.mono (mR.trans sC) _ QQ) f1 SA HH HF ns1 NI]
   ·erw[si0 (Lj.but nA.same.v λo e=>nA.same _ _ e) (R2.same Z nA.same) nB.same sC Ax IP wI (RD.mono (mR.trans sC) _ QO) (λy hy=>(f2 y hy).1) J9 (HH.trans uh) HF ns2 NI]
   ·erw[e1 x hx (zD (Pp:=λy=>H8 y=none) J9 (λy hy=>back (yZ.trans nB.same) (f2 y hy).1) x hy)]
   ·erw[zD (Pp:=λy=>y∉[b1,cD,cC]) (λy hy h=>fwd (nA.same.trans nB.same) (e2 y hy) (f1 y h)) (λy hy=>(f2 y hy).2) x hy hx]
  erw[_,Z,_,Z,ao,ao,?_];erw[DG (Pv:=λi O Hx=>∃q1 cD cC q2 cV cP S1 S2 v1 v7 v8,O=[some (.ref a),v1,some (.int (12+t)),some (.ref lm),some (.ref lp),some (.ref md),some (.ref me),v7,v8]/\Tw K C D H HC [lm,md,me] Hx m1 m2 a1 r1 q1 b1 cD cC a2 r2 q2 b2 cV cP M1 M2 (64+10*i) (64+10*i) S1 S2) ?_ ?_ ?_]
  ·erw[_,_,_,_,_,_,_,_,_,_,_,Z,T0]
  ·rintro i O Hx hi ⟨q1,cD,cC,q2,cV,cP,S1,S2,v1,v7,v8,rfl,T⟩
   have zW:i<25:=by lia
   erw[_,Z,_,Z,_,_,Z,Z,a,ns,_,Z,T.s0.seq hS,hlen,ao,ao,λp Hy np bg sy=>?_];have pb:=T.pb np;have Ty:=T.same sy;have K5:=sC _ _ (mR _ _ (qc b7));have a7z:=sC _ _ nA.at';erw[2,Z,aw,aw,?_];erw[DG (Pv:=λj O Hx=>∃q1 cD cC q2 cV cP S1 S2 v8,O=[some (.ref a),some (.ref p),some (.int (12+t)),some (.ref lm),some (.ref lp),some (.ref md),some (.ref me),some (.int (0+(i:Int))),v8]/\fN Hx p/\Pb H [lm,md,me] p q1 cD cC q2 cV cP/\Tw K C D H HC [lm,md,me] Hx m1 m2 a1 r1 q1 b1 cD cC a2 r2 q2 b2 cV cP M1 M2 (64+10*(i+min j 1)) (64+10*(i+(j-1))) S1 S2) ?_ ?_ ?_]
   ·erw[_,_,_,_,_,_,_,_,_,Z,bg,pb,Ty]
   ·rintro j O Hz hj ⟨q1,cD,cC,q2,cV,cP,S1,S2,v8,rfl,bz,pz,Tz⟩
    have hj:j<2:=hj;have z1:=Tz.at' (by simp) K5;have z2:=Tz.at' (by simp) a7z;have z3:=Tz.at' (by simp) eL;rcases(by lia:j=0\/j=1)with rfl|rfl
    ·erw[_,Z,_,Z,_,Z,.inl #[lm,_,_,m1,Z,Z,aD.of z1,cN aw Z,_,Z,_,Z,.inl #[md,_,_,.ref a1,Z,Z,aD.of z2,cN aw Z,_,Z,_,Z,.inl #[me,_,_,.ref b1,Z,Z,aD.of z3,cN aw Z,?_]]]]
     erw[m1,p,a1,r1,q1,b1,cD,cC,M1,_,S1,Z,Tz.TU bz pz ao,λS' q' dF cY Hw sd g fr kp=>?_];let(LX,pw,bw):=Tz.act bz pz sd g fr kp;erw[true,Z,bf #[_,_,_,_,_,_,_,_,_,Z,bw,pw,LX]]
    ·have Rr:Pb H [lm,md,me] p q2 cV cP q1 cD cC:=#[pz.n0,pz.rQ,pz.h2,pz.h1]
     erw[_,Z,_,Z,_,Z,.inl #[lm,_,_,m2,Z,Z,aD.of z1,cN aw Z,_,Z,_,Z,.inl #[md,_,_,.ref a2,Z,Z,aD.of z2,cN aw Z,_,Z,_,Z,.inl #[me,_,_,.ref b2,Z,Z,aD.of z3,cN aw Z,?_]]]];erw[m2,p,a2,r2,q2,b2,cV,cP,M2,_,S2,Z,Tz.swap.TU bz Rr ao,λS' q' dF cY Hw sd g fr kp=>?_];let(LX,pw,bw):=Tz.swap.act bz Rr sd g fr kp;erw[true,Z,bf #[_,_,_,_,_,_,_,_,_,Z,bw,#[pw.n0,pw.rQ,pw.h2,pw.h1],LX.swap]]
   ·rintro O Hz ⟨q1,cD,cC,q2,cV,cP,S1,S2,v8,rfl,bz,pz,Tz⟩
    erw[_,_,_,_,_,_,_,_,_,_,_,Z,Tz]
  ·rintro O Hx _
   erw[k _]
end
end _a
set_option maxHeartbeats 1000000
namespace _a
open PySem PySem.Spec PyProof.Rows _L
theorem L4{K:aa}{mg:bO}{nw:String}(X:K.In h)(G:h.Ns mainGlobals mg)(a:PySem.W.nsIn K mainGlobals x=some (some (.ref c)))(q:PySem.W.excIn K c bm nw=true):Exc K mg x c bm nw:=#[yg X G a,q]
theorem AA{K:aa}{mg:bO}{v:Value}(X:K.In h)(G:h.Ns mainGlobals mg)(e1:PySem.W.nsIn K mainGlobals fn=some (some v))(e2:PySem.W.nsIn K a z=some (some v)):PySem.W.nsIn K a z=some (mg fn):=by rw[e2,yg X G e1]
theorem Wq{K:aa}{v:Value}(e1:PySem.W.nsIn K mainGlobals fn=some (some v))(e2:PySem.W.nsIn K a z=some (some v)):∃v,PySem.W.nsIn K a z=some (some v):=#[v,e2]
theorem a0V{K:aa}{mg:bO}(X:K.In h)(G:h.Ns mainGlobals mg)(hf:PySem.W.nsIn K mainGlobals "Full"=some (some (.ref cf)))(hm:PySem.W.nsIn K mainGlobals "Moving"=some (some (.ref cm)))(hr:PySem.W.nsIn K mainGlobals "NoRate"=some (some (.ref cr)))(qf:PySem.W.excIn K cf jM lH=true)(qm:PySem.W.excIn K cm jM lH=true)(qr:PySem.W.excIn K cr jM lH=true)(tf:takes K cf cf)(tm:takes K cm cm):∃R,WC K mg R:=#[#[cf,cf,cf,cm,cr],L4 X G hf qf,L4 X G hm qm,L4 X G hr qr,tf,tm]
theorem acW:AG K P w mg au:=by
 intro f fd A F;let(gA,GA,a0,a1,a2,a3,a4,t0,t1,b0,b1,b2,b3,b4):=A.ans;let(X,EX):=A.cls;let(C,D,R):=A.dk;have TC:=R.tc;have tk:aF P w K mg au "_law_take" 1 lZ:=a2F A.aaT A.B;have cd:aF P w K mg au "common_divisor" 1 Fv:=a3W A.aaI A.B;have lt:aF P w K mg au "lowest_terms" 2 yP:=a3u A.aar A.B cd;have iw:aF P w K mg au "is_whole" 1 (BR K):=a3B A.aax A.B;have ww:aF P w K mg au "is_whole_within" 2 (mO K):=a2x A.aaw A.B iw;have fn:aF P w K mg au "fraction" 3 (w6 K):=a3O A.aaG A.B iw lt;have ld:aF P w K mg au "lead_of" 1 (ud K):=a3y A.aat A.B;have ls:aF P w K mg au "is_less" 1 (BP K):=a3w A.aaD A.B;have cp:aF P w K mg au "corner_square" 6 (Fw K):=a3V A.aaH A.B (a2z A.aaF A.B (a2y A.aa5 A.B ld fn) (a3s A.aaq A.B lt) ls) fn;have TM:aF P w K mg au "is_rate" 3 (BJ K):=a3E A.aaz A.B A.a9C A.a9D ww;have tp:aF P w K mg au "top_square" 4 (BH K):=a2B A.aa6 A.B TM fn;have CT:aF P w K mg au "is_line" 1 (wa K):=a3F A.V0 A.B;have lst:aF P w K mg au "least" 2 (pK K):=a3x A.aas A.B ls;have bet:aF P w K mg au "bound_between" 7 (Fx K):=a3X A.aaJ A.B A.DB CT tp cp lst;have pw:aF P w K mg au "plus_whole" 4 (BL K):=a3i A.aai A.B;have nr:aF P w K mg au "nearest" 1 Fq:=a3p A.aao A.B;have ND:aF P w K mg au "stand_at" 2 (BI K):=a2J A.aab A.B ld nr;have sr:aF P w K mg au "step_rows" 3 (Fh K):=a32 A.aa9 A.B ld ND;have ent:aF P w K mg au "step_entry" 3 (Fu K):=a3R A.aaa A.B (a2D A.aa8 A.B (a3S A.aaM A.B));have TB:aF P w K mg au "is_item" 4 (BQ K):=a3L A.aaE A.B A.UP ww (a41 A.aaK A.B A.a9w ww) (a3H A.aay A.B A.a9y A.a9r ww (a3J A.aaB A.B A.a9A A.a9B));have JG:aF P w K mg au "is_place" 3 (yR K):=a3I A.aaA A.B ww;have SD:aF P w K mg au "moved" 1 (BO K):=a3r A.aap A.B;have LG:aF P w K mg au "place_behind" 2 (yT K):=a3Y A.aaj A.B CT SD;have Ys:aF P w K mg au "times" 3 (yN (·*·) K):=a2C A.aa7 A.B lt;have rch:aF P w K mg au "reach_behind_first" 9 (Fi K):=a3h A.aah A.B (a3k A.aak A.B A.DB bet) (a3Q A.aau A.B CT ld pw lst);have C8:=a38 R.a5x TC;have HN:=a30 R.a5t TC A.DB;have HV:=a37 R.a5y TC C8 HN;have QS:=a34 R.a5w TC LG;have rnx:=a33 R.a5v TC pw Ys fn lst C8;have ref:=a3e R.a5D TC LG;have rsf:=a2Z R.a5s TC A.B ld sr tp rch ent HV rnx ref;have reo:=a3c R.a5B TC CT rsf ref;have ren:=a3d R.a5C TC A.B HV reo;have rsi:=a2Y R.a5r TC;have rho:=a36 R.a5z TC rsi C8;have rgo:=a3a R.SN TC A.B;have QK:=a31 R.a5u TC SD ND;have im:aF P w K mg au "is_machine" 4 (yS mh K):=a3K A.aaC A.B A.a9v A.a9E ww (a42 A.aaL A.B A.a9H A.a9z ww);have HY:=a3g R.a5E TC A.B EX.m HV QK;have rte:=a2X R.a5q TC EX.r EX.m TM HN;have QW:=a3b R.a5A TC A.B EX.f A.a9u TB JG LG QS;have J1:aF P w K mg au "number_in" 2 yO:=a3o A.aan A.B A.a9G (a2G A.aac A.B);have S9:aF P w K mg au "numbers_in" 3 (BM K):=a3n A.aam A.B J1;have iti:aF P w K mg au "item_in" 5 (Ft K):=a3C A.aav A.B J1 S9 TB;have oj:aF P w K mg au "show_number" 1 m5:=a2Q A.UZ A.B A.UO A.a9s;have Fy:=a2O A.aad A.B oj;have ZG:=a2R A.aae A.B (a3G A.V0 A.B) Fy oj;have ZL:=a2S A.aaf A.B oj;have lit:=a3v A.ab5 A.B;have RY:=a3m A.aal A.B J1;have Zr:=a2L R.ZZ R.td TC A.B A.a9x A.a9t RY ww (a2T A.aag A.B ZG Fy ZL oj) ren;have Zs:=a2M R.a00 R.td TC A.B oj RY rte;have Zi:=a2H R.ZY R.td TC A.B oj A.UP S9 JG ww QS QW;have hW:∀v:Wd,∃fn,PySem.W.nsIn K gA v.txt=some (mg fn)/\tF P w K mg au fn 10 (pJ K C X.m v):=λv=>by cases v with |place=>erw[_,a0,(a43 A.aaO A.B TC Fy QK).d.le aw] |state=>erw[_,a1,(a40 A.aaN A.B TC C8 HN).d.le aw] |hold=>erw[_,a2,(a44 A.aaP A.B oj TC rho).d.le aw] |go=>erw[_,a3,(a46 A.V1 A.B oj TC rgo).d.le aw] |drop=>erw[_,a4,(a47 A.aaQ A.B oj TC HY).le aw]
 have say:=a2V R.say R.td TC A.B oj GA #[b0,b1,t0,t1,b2,b3,b4] hW iti Zr Zs Zi QW;have a01:=a2U (cM:=X.m) R.say R.td A.B GA a3 (a45 A.V1 A.B (a2P A.UZ A.B A.UO) TC (a39 R.SN TC A.B));have itl:=a3D A.ab6 A.B tk (a3q A.ab1 A.B tk);have NG:=a2I A.aaW A.B;have st:=a2K A.aaU A.B R.td say.n (a3l A.ab0 A.B lit NG (a3f A.aaY A.B) (a2N A.aaV A.B));have vh:=a3P A.ab8 A.B R.td EX.f EX.tf tk itl (a3z A.ab4 A.B NG) (a3N A.ab3 A.B tk) lit (a2E A.aaS A.B) say;have Ym:=a2A A.aaR A.B R.td EX.m EX.tm tk say say.n;have drp:=a3T A.ab9 A.B R.td EX.m EX.tm tk say say.n a01;have hld:=a3M A.ab7 A.B R.td st say.n;erw[a3A F A.B (a3Z A.aba A.B) tk (a3t A.ab2 A.B tk) (a3j A.aaZ A.B tk) (a3U R.abT R.td im JG (a35 R.init TC A.DB A.a9F)) (a2W A.aaX A.B tk vh st hld Ym drp)]
theorem acX{P:af}{w:World}{K:aa}{mg:bO}{au:Heap}{f:Addr}(A:All w K mg)(F:kT K "law" "law" we f fd):eR P w K mg au iX 18 f fd ["_law_script"] (Fs K):=Yz acW K P w mg au f fd A F
end _a
end
set_option maxHeartbeats 1000000
set_option exponentiation.threshold 6000
def PySem.W.Fast.tw4237003659853173013:PySem.Program:=PySem.Challenge.pw_glidequeue_k58_whole_rows_at_two_desks
theorem PySem.W.Fast.te4237003659853173013:PySem.Challenge.pw_glidequeue_k58_whole_rows_at_two_desks=PySem.W.Fast.tw4237003659853173013:=rfl
local macro_rules|`(command|universe $x:ident)=>return Lean.mkNullNode (<-((x.getId.toString.splitOn "_").drop 1).toArray.mapM fun i=>`(command|theorem $(Lean.mkIdent (`_root_.PySem.W.Fast++Lean.Name.mkSimple s!"tw{(`PySem.Challenge.cw_glidequeue_k58_whole_rows_at_two_desks_holds++Lean.Name.mkSimple ((match i.front with|'h'=>"heap"|'t'=>"tree"|'v'=>"view"|'s'=>"sts"|'e'=>"env"|_=>"o")++"_"++(i.drop 1).toString)).hash}")):ident:True:=True.intro))
universe t_h1051_t918_h39_t783_v39_t623_t709_t862_t444_t367_t296_t1050_o996_o919_o861_s996_o865_t230_o784_s919_o713_s713_s368_o454_o445_t175_o368_s454_s231_s865_s297_o297_t995_t145_o1017_t130_o231_t160_s784_s191_o1002_o1015_o1000_o567_o1050_o572_o574_o1048_o892_t108_o961_o565_o887_o885_o890_o1007_o954_o1005_o952_o225_o1031_o959_o1029_o937_o191_o469_o618_o1038_o546_t190_o228_o995_o223_o766_o458_o1012_o726_o897_o988_o1036_o544_o728_o243_o1024_o430_o1010_o895_o360_o428_o245_o1045_o423_o1022_o776_o764_o358_o1043_o939_o421_o986_o397_o981_o269_o932_o230_o395_o437_o267_o774_o636_o969_o409_o878_o407_o993_o747_o312_o176_o759_o839_o402_o745_o927_o880_t78_o757_s861_o400_o161_o837_o925_o983_o560_o237_o353_o609_o146_o971_o383_o947_o558_o235_o553_o281_o131_o627_o551_o966_o904_o949_o607_o279_o616_o276_o614_o109_o752_o964_o331_o902_o274_o376_o264_o350_o435_o94_o860_o374_o416_o305_o262_o991_o289_o934_o79_o310_o738_o317_o303_o348_o643_o645_o414_o944_o287_o570_o593_o588_o942_o319_o595_o343_o355_o64_o381_o652_o444_t93_o733_o49_o586_o858_o721_t63_o442_o581_o781_o740_o340_o750_o731_o650_o906_o345_o957_o338_s445_o453_o719_o579_o451_o210_o862_o790_o333_o869_o259_o296_o219_o326_o617_o602_o217_o783_o694_o365_o324_o294_o212_o771_o806_o834_o769_o390_o367_o257_o708_o792_o600_o832_o563_o158_o701_o978_o388_o827_o916_o518_o1027_o976_o851_o393_o706_o813_o799_o820_o497_o853_o516_o125_s109_o680_o699_o419_o818_o114_o1020_o123_o133_o724_o504_o490_o128_o173_o203_o76_o91_o143_o106_o797_o250_o804_o151_o825_o918_o188_o69_o90_o440_o426_o846_o811_o196_o166_o84_o127_o99_t860_o1034_o308_o241_o315_o762_o136_o405_o372_o53_o657_o181_o523_o755_o59_o252_o202_o433_o671_o883_o886_o495_o601_o509_o148_o707_o751_o163_o994_o559_o105_o60_o178_o96_o644_o923_o844_o608_o1041_o81_o111_o193_o66_o187_o142_o157_o336_o301_o743_o917_o930_o75_o465_o859_o879_o172_o845_o739_s49_o556_o727_o805_o732_o584_o412_o292_o903_o1001_o833_o819_o720_o672_o907_o943_o295_o482_o779_o531_o587_h46_o908_o619_o665_o359_o876_o736_o693_o275_o552_o686_o658_o648_o615_o573_o124_o891_o679_o545_o896_o594_o566_o211_o382_o580_o422_o637_o697_o379_o169_o1011_o349_o461_o139_o45_o621_o199_o329_o900_o717_o215_o322_o549_o363_o449_o83_o982_o953_o236_o339_o154_o872_o401_o258_o72_o280_o838_o117_o1023_o184_o605_o344_o791_o288_o620_o443_o746_o812_o268_o325_o770_o765_o758_o354_o852_o977_o415_o1030_o102_o775_o826_o1006_o436_o970_o1049_o244_o304_o938_o224_o926_o1037_o1044_o452_o408_o251_o46_o366_o318_o332_o396_o948_o933_o311_o1016_o263_o389_o229_o87_o218_o429_o960_o782_o798_s94_o56_o905_o375_s131_o987_o121_e41_o255_o238_o200
open PySem PySem.W PyProof.Rows
set_option maxRecDepth 100000 in
set_option maxHeartbeats 0 in
theorem PySem.Challenge.cw_glidequeue_k58_whole_rows_at_two_desks_holds : PySem.Challenge.rw_glidequeue_k58_whole_rows_at_two_desks.Holds := by
 w_on; o_law; k_head; (case hw=>w_witness2)
 k_fill
 refine _L.a67 (l:=PySem.Challenge.rw_glidequeue_k58_whole_rows_at_two_desks) (k:=18) (x:="_law_script") (st:=_a.we) rfl rfl ⟨rfl,by decide,by decide⟩ (fun w h Y=>PySem.W.kIn_of Y) _a.All ?F (fun _ _ _ A=>A.law) (fun _ _ _ _ _ _ _=>rfl) (fun _ _ _ _ _ _ _ A F=>_a.acX A F)
 case F=>
  intro w mg h KX G
  refine⟨_L.acA KX G ?b,?t1,?t2,?t3,?gp0,?gp1,?gi0,?gi1,?gi2,?gi3,?gi4,?gi5,?gi6,?gi7,?gi8,?gi9,?gi10,?gi11,?gs0,?gs1,?gs2,?an,?cl,?dk,?fl,?ff0,?ff1,?ff2,?ff3,?ff4,?ff5,?ff6,?ff7,?ff8,?ff9,?ff10,?ff11,?ff12,?ff13,?ff14,?ff15,?ff16,?ff17,?ff18,?ff19,?ff20,?ff21,?ff22,?ff23,?ff24,?ff25,?ff26,?ff27,?ff28,?ff29,?ff30,?ff31,?ff32,?ff33,?ff34,?ff35,?ff36,?ff37,?ff38,?ff39,?ff40,?ff41,?ff42,?ff43,?ff44,?ff45,?ff46,?ff47,?ff48,?ff49,?ff50,?ff51,?ff52,?ff53,?ff54,?ff55,?ff56,?ff57,?ff58,?ff59,?ff60,?ff61,?ff62,?ff63,?ff64,?ff65,?ff66,?ff67,?ff68,?ff69,?fz0⟩
  case b=>(unfold _L.Ec; repeat (refine _L.tq.cons ?z ?_; (case z=>k_is))); exact _L.tq.nil
  case t1=>refine' _L.Kz KX G ?a ?l ?z ?r; (case a=>k_is); (case l=>k_is); (case z=>decide); (case r=>exact .cons ⟨_,rfl⟩ (.cons ⟨_,rfl⟩ .nil))
  case t2=>refine' _L.Kz KX G ?a ?l ?z ?r; (case a=>k_is); (case l=>k_is); (case z=>decide); (case r=>exact .cons ⟨_,rfl⟩ (.cons ⟨_,rfl⟩ .nil))
  case t3=>refine' _L.Kz KX G ?a ?l ?z ?r; (case a=>k_is); (case l=>k_is); (case z=>decide); (case r=>exact .cons ⟨_,rfl⟩ (.cons ⟨_,rfl⟩ .nil))
  case gp0=>(refine' _L.kN KX G ?z; (case z=>k_is))
  case gp1=>(refine' _L.kN KX G ?z; (case z=>k_is))
  case gi0=>(refine' _L.kN KX G ?z; (case z=>k_is))
  case gi1=>(refine' _L.kN KX G ?z; (case z=>k_is))
  case gi2=>(refine' _L.kN KX G ?z; (case z=>k_is))
  case gi3=>(refine' _L.kN KX G ?z; (case z=>k_is))
  case gi4=>(refine' _L.kN KX G ?z; (case z=>k_is))
  case gi5=>(refine' _L.kN KX G ?z; (case z=>k_is))
  case gi6=>(refine' _L.kN KX G ?z; (case z=>k_is))
  case gi7=>(refine' _L.kN KX G ?z; (case z=>k_is))
  case gi8=>(refine' _L.kN KX G ?z; (case z=>k_is))
  case gi9=>(refine' _L.kN KX G ?z; (case z=>k_is))
  case gi10=>(refine' _L.kN KX G ?z; (case z=>k_is))
  case gi11=>(refine' _L.kN KX G ?z; (case z=>k_is))
  case gs0=>(refine' _L.Ky KX G ?z; (case z=>k_is))
  case gs1=>(refine' _L.Ky KX G ?z; (case z=>k_is))
  case gs2=>(refine' _L.Ky KX G ?z; (case z=>k_is))
  case an=>
   refine' ⟨_,_L.a9n KX G ?ga ?gl ?gk ?go,_a.AA KX G ?e1x0 ?e2x0,_a.AA KX G ?e1x1 ?e2x1,_a.AA KX G ?e1x2 ?e2x2,_a.AA KX G ?e1x3 ?e2x3,_a.AA KX G ?e1x4 ?e2x4,_a.Wq (fn:="answer_tool") ?tn0 ?tm0,_a.Wq (fn:="answer_mark") ?tn1 ?tm1,?na0,?na1,?na2,?na3,?na4⟩
   case ga=>k_is
   case gl=>k_is
   case go=>decide
   case e1x0=>k_is
   case e2x0=>k_is
   case e1x1=>k_is
   case e2x1=>k_is
   case e1x2=>k_is
   case e2x2=>k_is
   case e1x3=>k_is
   case e2x3=>k_is
   case e1x4=>k_is
   case e2x4=>k_is
   case gk=>
    show KeysLit _ (_::_)
    repeat (first | exact trivial | refine And.intro ⟨_,_,rfl,rfl⟩ ?_)
   case tn0=>k_is
   case tm0=>k_is
   case tn1=>k_is
   case tm1=>k_is
   case na0=>k_is
   case na1=>k_is
   case na2=>k_is
   case na3=>k_is
   case na4=>k_is
  case cl=>
   refine' _a.a0V KX G ?h0 ?h1 ?h2 ?q0 ?q1 ?q2 ?m0 ?m1
   case h0 | h1 | h2=>k_is
   case q0 | q1 | q2=>k_exc
   case m0 | m1=>(show PySem.W.mroIn _ _ _=_; k_is)
  case dk=>
   refine' ⟨_,_,_a.WM.mk (_a.fm.mk (_L.hV.mk ?pg ?hd ?po ?sa) ?n1 ?n2 ?n3 ?n4 ?n5 ?n6 ?n7 ?n8 ?n9) (_L.W3 KX G ?aC ?mk ?kc ?ia ?iii ?il ?ic ?ik) (_L.ir ?a0 ?i0 ?l0 ?c0 ?k0) (_L.ir ?a1 ?i1 ?l1 ?c1 ?k1) (_L.ir ?a2 ?i2 ?l2 ?c2 ?k2) (_L.ir ?a3 ?i3 ?l3 ?c3 ?k3) (_L.ir ?a4 ?i4 ?l4 ?c4 ?k4) (_L.ir ?a5 ?i5 ?l5 ?c5 ?k5) (_L.ir ?a6 ?i6 ?l6 ?c6 ?k6) (_L.ir ?a7 ?i7 ?l7 ?c7 ?k7) (_L.ir ?a8 ?i8 ?l8 ?c8 ?k8) (_L.ir ?a9 ?i9 ?l9 ?c9 ?k9) (_L.ir ?a10 ?i10 ?l10 ?c10 ?k10) (_L.ir ?a11 ?i11 ?l11 ?c11 ?k11) (_L.ir ?a12 ?i12 ?l12 ?c12 ?k12) (_L.ir ?a13 ?i13 ?l13 ?c13 ?k13) (_L.ir ?a14 ?i14 ?l14 ?c14 ?k14) (_L.ir ?a15 ?i15 ?l15 ?c15 ?k15) (_a.lU.mk (_L.hV.mk ?dpg ?dhd ?dpo ?dsa) ?d1 ?d2) (_L.W3 KX G ?daC ?dmk ?dkc ?dia ?dii ?dil ?dic ?dik) (_L.ir ?sa0 ?si0 ?sl0 ?sc0 ?sk0) (_L.ir ?sa1 ?si1 ?sl1 ?sc1 ?sk1) (_L.ir ?sa2 ?si2 ?sl2 ?sc2 ?sk2) (_L.ir ?sa3 ?si3 ?sl3 ?sc3 ?sk3)⟩
   (case aC=>k_is)
   (case daC=>k_is)
   case n1 | n2 | n3 | n4 | n5 | n6 | n7 | n8 | n9 | d1 | d2=>(unfold _L.iV; k_is)
   case pg | hd | po | sa | mk | kc | ia | iii | il | ic | ik | dpg | dhd | dpo | dsa | dmk | dkc | dia | dii | dil | dic | dik | sa0 | si0 | sl0 | sc0 | sk0 | sa1 | si1 | sl1 | sc1 | sk1 | sa2 | si2 | sl2 | sc2 | sk2 | sa3 | si3 | sl3 | sc3 | sk3 | a0 | i0 | l0 | c0 | k0 | a1 | i1 | l1 | c1 | k1 | a2 | i2 | l2 | c2 | k2 | a3 | i3 | l3 | c3 | k3 | a4 | i4 | l4 | c4 | k4 | a5 | i5 | l5 | c5 | k5 | a6 | i6 | l6 | c6 | k6 | a7 | i7 | l7 | c7 | k7 | a8 | i8 | l8 | c8 | k8 | a9 | i9 | l9 | c9 | k9 | a10 | i10 | l10 | c10 | k10 | a11 | i11 | l11 | c11 | k11 | a12 | i12 | l12 | c12 | k12 | a13 | i13 | l13 | c13 | k13 | a14 | i14 | l14 | c14 | k14 | a15 | i15 | l15 | c15 | k15=>k_is
  all_goals (refine' _L.aa4 KX G ?a ?l ?c ?k; (case a=>k_is); (case l=>k_is); (case c=>k_is); (case k=>k_is))
#print axioms PySem.Challenge.cw_glidequeue_k58_whole_rows_at_two_desks_holds
