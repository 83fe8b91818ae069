import PyProof.Rows.All
import Wide.All
import OpenK.AllK
import Wide.FinOn
import Lean
import PyProof.EqAt
import PyProof.EqKinds
import PyProof.TupleCall
import PySem.Challenge.RW_glidequeue_k59_whole_told_at_once_is_the
set_option Elab.async false
set_option linter.all false
set_option compiler.extract_closed false
set_option maxRecDepth 100000
def PySem.pq9:Nat->Lean.Syntax->Lean.MacroM (Lean.TSyntax `rcasesPat)
|0,_=>Lean.Macro.throwUnsupported
|n+1,s=>do
 if s.isOfKind `ident then let x:Lean.Ident:=⟨s⟩;`(rcasesPat|$x:ident)
 else if s.isOfKind `Lean.Parser.Term.hole then `(rcasesPat|_)
 else
  let as:=if s.isOfKind `Lean.Parser.Term.tuple then #[s[1][0]]++s[1][2].getSepArgs else s[1].getSepArgs
  let ps<-as.mapM (PySem.pq9 n)
  `(rcasesPat|⟨$ps,*⟩)
def PySem.pn9:Nat->Lean.Syntax->Nat
|0,_=>1
|n+1,s=>if s.isOfKind `ident||s.isOfKind `Lean.Parser.Term.hole then 1 else (if s.isOfKind `Lean.Parser.Term.tuple then #[s[1][0]]++s[1][2].getSepArgs else s[1].getSepArgs).foldl (fun k x=>k+PySem.pn9 n x) 0
def PySem.p9(x:Lean.Syntax):Lean.Command:=⟨x.rewriteBottomUp (·.setInfo .none)⟩
noncomputable section
local macro_rules|`(command|def $i:declId $s $v:declVal)=>return PySem.p9 (<-`(command|noncomputable def $i:declId $s $v:declVal))
local macro_rules|`(command|abbrev $i:declId $s $v:declVal)=>return PySem.p9 (<-`(command|noncomputable abbrev $i:declId $s $v:declVal))
local macro_rules|`(tactic|trivial)=>`(tactic|first|exact Or.inl rfl|exact Or.inr rfl|exact Or.inr (Or.inl rfl)|exact Or.inr (Or.inr rfl)|assumption|exact fun _=>rfl|exact fun _ _=>rfl)
theorem r8_(h:True:=by rfl):True:=h
theorem q8_(h:True:=by decide):True:=h
theorem d8_(h:True:=by trivial):True:=h
theorem f8_(h:True:=by with_unfolding_all rfl):True:=h
theorem PySem.oq9{T:Prop}(h:∀G:Prop,(T->G)->G):T:=h T id
local macro_rules|`(tactic|erw[$r,*])=>do
 let t:=r.getElems.map λr=>(⟨r.raw[1]⟩:Lean.Term)
 if t.size==1 then `(tactic|refine $(t[0]!)) else `(tactic|refine ⟨$t,*⟩)
local macro_rules|`(tactic|let $p:term:=$t)=>do
 let q<-PySem.pq9 9 p
 if PySem.pn9 9 p<7 then `(tactic|obtain $q:rcasesPat:=$t) else `(tactic|first|(refine PySem.oq9 fun G e=>?_;obtain $q:rcasesPat:=$t;refine e ?_;clear e G)|obtain $q:rcasesPat:=$t)
local macro_rules|`(#[$a,$b,*])=>`(⟨$a,$b,*⟩)
local macro_rules|`(tactic|exists $a,$b,$c)=>do
 let i:=λx:Lean.Name=>Lean.mkIdent x
 `(tactic|erw[$a $b (λ_ _ _ _ h=>by cases h;subst_vars;rfl) (λ_ _ _ _ _ _=>$c) (λ_ $(i `aK) $(i `A) $(i `outer) $(i `s) $(i `H) $(i `vs) $(i `Q) $(i `E) $(i `hr) $(i `h)=>?_)])
abbrev cm:=PySem.Str->Option PySem.Value
theorem aw{p:Prop}(h:autoParam (p) q8_._auto_1):p:=h
theorem aG{p:Prop}(h:p:=by decide+kernel):p:=h
theorem ao {p:Prop} (h:p:=by lia):p:=h
theorem aL{p:Prop}(h:p:=by omega):p:=h
theorem Z {α : Sort _} {a : α}:a=a:=rfl
abbrev aa:=PySem.W.Frag
abbrev af:=PySem.Shared
abbrev ag:=PySem.Program
abbrev ah:=PySem.PyData
abbrev ai:=PySem.Around
abbrev aJ:=@PySem.wpAny_bind
abbrev aV:=@Nat.le_refl
abbrev aW:=@List.length_map
abbrev ba:=@if_pos
abbrev bc:=@if_neg
abbrev bL:=@List.getElem?_eq_getElem
abbrev bO:=@List.getElem?_map
abbrev cf:=@PySem.wpAny_pure
abbrev cj:=@decide_eq_true
abbrev cv:=@List.length_append
abbrev cE:=@PySem.Heap.lt_size
abbrev cF:=@PySem.Heap.get?_push_of_some
abbrev cJ:=@List.mem_map
abbrev cK:=@List.getElem?_eq_some_iff
abbrev cL:=@Rat.le_trans
abbrev cM:=@List.mem_cons
abbrev cV:=@List.mem_singleton
abbrev cY:=@PySem.strLen_append
abbrev dc:=@Int.le_refl
abbrev dC:=@PySem.intBits_le_64
abbrev dE:=@decide_eq_false
abbrev eH:=@List.size_toArray
abbrev eJ:=@PySem.Heap.get?_push_size
abbrev eK:=@Bool.false_ne_true
abbrev eW:=@Option.some.inj
abbrev eX:=@Nat.zero_le
abbrev eY:=@Nat.ne_of_lt
abbrev fz:=@List.mem_of_getElem?
abbrev fA:=@Bool.and_eq_true
abbrev fK:=@beq_iff_eq
abbrev fS:=@PySem.PassesOwn.never
abbrev fT:=@List.map_append
abbrev fU:=@Int.pow_succ
abbrev gc:=@List.all_eq_true
abbrev gy:=@List.mem_append
abbrev gz:=@List.length_cons
abbrev gJ:=@PySem.wpAny_mono
abbrev gK:=@Nat.lt_of_lt_of_le
abbrev gS:=@List.mem_append_right
abbrev gT:=@Int.mul_nonneg
abbrev ir:=@PyProof.Rows.boot_tuple
abbrev iu:=@List.not_mem_nil
abbrev iy:=@List.length_range
abbrev iE:=@Rat.le_refl
abbrev iG:=@Nat.le_trans
abbrev iH:=@Int.natAbs_mul
abbrev jd:=@Int.mul_pos
abbrev jC:=@PyProof.Rows.boot_str
abbrev jD:=@Bool.true_and
abbrev jE:=@Bool.false_and
abbrev kf:=@PySem.wpAny_field
abbrev kg:=@Bool.eq_iff_iff
abbrev kE:=@or_false
abbrev kF:=@of_decide_eq_true
abbrev kG:=@Ne.symm
abbrev kH:=@List.lookup_cons
abbrev lC:=@congrArg
abbrev lF:=@List.take_succ
abbrev lG:=@Int.one_mul
abbrev m9:=@Int.pow_zero
abbrev mQ:=@List.getElem?_range
abbrev mR:=@Array.length_toList
abbrev o7:=@PySem.wpAny_newObj_type
abbrev o8:=@Nat.mul_le_mul
abbrev o9:=@List.take_length
abbrev oa:=@List.mem_iff_getElem?
abbrev og:=@List.getElem?_eq_none
abbrev oh:=@List.getElem?_append_right
abbrev oj:=@List.getElem?_append_left
abbrev om:=@List.append_nil
abbrev oo:=@Array.toList_append
abbrev pJ:=@PySem.wpAny_truthy_bool
abbrev pK:=@PySem.IntMulOk.of_bits
abbrev pL:=@PySem.Heap.size_push
abbrev rk:=@PySem.wpAny_holding
abbrev rn:=@Rat.le_antisymm
abbrev rA:=@PySem.Str.cps_append
abbrev rC:=@Nat.lt_trans
abbrev rE:=@List.map_cons
abbrev tV:=@PySem.wpAny_standAt
abbrev tW:=@PySem.StrLaws.glued_eq_join
abbrev tX:=@Option.map_eq_some_iff
abbrev tY:=@Nat.pow_le_pow_right
abbrev tZ:=@List.take_of_length_le
abbrev u6:=@List.replicate_succ
abbrev u7:=@List.length_take
abbrev u9:=@List.foldl_append
abbrev ua:=@Int.mul_one
abbrev uc:=@Int.mul_assoc
abbrev vW:=@PySem.wpAny_seqItems
abbrev vX:=@if_true
abbrev vY:=@PySem.call_meets
abbrev vZ:=@Rat.num_divInt_den
abbrev w6:=@PyProof.Rows.boot_abs
abbrev wc:=@Nat.pow_succ
abbrev we:=@Nat.lt_irrefl
abbrev wg:=@List.take_zero
abbrev wj:=@List.getElem_mem
abbrev wk:=@Int.mul_le_mul
abbrev wm:=@Int.emod_nonneg
abbrev yb:=@PySem.wpAny_passesOwn
abbrev yc:=@PySem.wpAny_of_eq
abbrev yd:=@PySem.codeAny_mono
abbrev ye:=@Rat.divInt_nonneg_iff_of_pos_right
abbrev yf:=@PyProof.Rows.callWith_type1
abbrev yg:=@PyProof.Rows.boot_all
abbrev yh:=@Nat.ne_of_gt
abbrev yi:=@List.mem_cons_of_mem
abbrev yj:=@List.length_singleton
abbrev yk:=@List.length_set
abbrev yn:=@List.append_assoc
abbrev yo:=@List.any_eq_true
abbrev yp:=@List.any_cons
abbrev yt:=@List.all_cons
abbrev yu:=@Int.emod_lt_of_pos
abbrev B5:=@PySem.wpAny_setField_rec
abbrev B6:=@PySem.wpAny_rule
abbrev B7:=@PySem.wpAny_pyIter_list
abbrev B8:=@PySem.typeIs_str
abbrev B9:=@PySem.sizeLine_eq
abbrev Ba:=@Rat.intCast_le_intCast
abbrev Bb:=@Rat.intCast_add
abbrev Bc:=@Rat.add_zero
abbrev Be:=@PySem.W.mg_of
abbrev Bf:=@PySem.F.plainAttrs_str
abbrev Bg:=@Nat.sub_self
abbrev Bh:=@Nat.lt_succ_of_lt
abbrev Bi:=@Nat.le_of_lt
abbrev Bj:=@List.mem_of_mem_take
abbrev Bk:=@List.mem_filterMap
abbrev Bl:=@List.length_pos_iff
abbrev Bm:=@List.length_drop
abbrev Bn:=@List.getElem_range
abbrev Bo:=@List.getElem?_zip_eq_some
abbrev Bp:=@Int.mul_le_mul_of_nonneg_right
abbrev Bq:=@Int.mul_comm
abbrev Br:=@PySem.Heap.get?_update_other
abbrev Bs:=@Bool.not_eq_true'
abbrev Bt:=@Bool.and_true
abbrev Eb:=@PySem.wpAny_specialOf
abbrev Ec:=@PySem.wpAny_setField
abbrev Ed:=@PySem.wpAny_call_entry
abbrev Ee:=@PySem.wpAny_callSpecial?_slot
abbrev Ef:=@PySem.wpAny_Call_Name_kw
abbrev Eg:=@decide_eq_true_eq
abbrev Eh:=@PyProof.Rows.assignInOrder_cons
abbrev Ei:=@PySem.Str.empty_append
abbrev Ej:=@Rat.not_lt
abbrev Ek:=@PySem.mem_of_lookup
abbrev El:=@PyProof.Rows.boot_list
abbrev Em:=@PySem.Obj.data_mapFields
abbrev En:=@Nat.mul_comm
abbrev Eo:=@Nat.lt_of_le_of_lt
abbrev Ep:=@List.of_mem_zip
abbrev Er:=@List.nil_append
abbrev Es:=@List.map_set
abbrev Et:=@List.map_map
abbrev Eu:=@List.flatten_cons
abbrev Ew:=@Int.zero_mul
abbrev Ey:=@Int.mul_le_mul_of_nonneg_left
abbrev Ez:=@Int.le_of_lt
abbrev EA:=@Bool.eq_false_iff
abbrev Kc:=@PySem.wpAny_execs_nil
abbrev Kd:=@PySem.intText_digits
abbrev Ke:=@beq_self_eq_true
abbrev Kf:=@beq_eq_false_iff_ne
abbrev Kg:=@Std.lt_of_le_of_ne
abbrev Kh:=@Rat.intCast_nonneg
abbrev Ki:=@Rat.intCast_mul
abbrev Kj:=@Rat.intCast_lt_intCast
abbrev Kk:=@PySem.W.callWith_K
abbrev Kl:=@PySem.F.slot_zip_next
abbrev Km:=@PySem.F.slot_tuple_iterator_next
abbrev Kn:=@PyProof.Rows.boot_max
abbrev Ko:=@PyProof.Rows.boot_any
abbrev Kp:=@Option.mem_toList
abbrev Kq:=@Nat.mul_le_mul_right
abbrev Kr:=@Nat.lt_or_ge
abbrev Ks:=@Nat.add_comm
abbrev Kt:=@List.range_succ
abbrev Ku:=@List.nodup_cons
abbrev Kv:=@List.mem_cons_self
abbrev Kw:=@List.length_eq_zero_iff
abbrev Kx:=@List.getLast?_eq_getElem?
abbrev Ky:=@List.getD_eq_getElem?_getD
abbrev Kz:=@List.forIn_cons
abbrev KA:=@List.ext_getElem?
abbrev KC:=@List.all_nil
abbrev KD:=@Int.mul_ne_zero
abbrev KG:=@Int.mul_left_comm
abbrev KH:=@PySem.Heap.get?_update_self
abbrev KI:=@Array.getElem?_eq_getElem
abbrev WK:=@PySem.wpAny_updateSeq_pair
abbrev WL:=@PySem.wpAny_pyIter_rangeiter
abbrev WM:=@PySem.wpAny_newFunctionEnv
abbrev WN:=@PySem.wpAny_comprehension_free
abbrev WO:=@ne_true_of_eq_false
abbrev WQ:=@PySem.int_text_length_le10
abbrev WR:=@PySem.codeAny_compStart_list
abbrev WS:=@Rat.divInt_sub_divInt
abbrev WT:=@Rat.divInt_mul_divInt
abbrev WU:=@PySem.ofString_length
abbrev WV:=@PySem.W.plainGet_of
abbrev WW:=@PySem.Str.append_assoc
abbrev WX:=@PySem.F.slot_tuple_add
abbrev WY:=@PySem.F.entry_tuple_add
abbrev WZ:=@PySem.F.args_tuple_add_2
abbrev X0:=@PyProof.noPylong_of_log2
abbrev X1:=@PyProof.Rows.slot_tuple_getitem
abbrev X2:=@PyProof.Rows.boot_min
abbrev X3:=@PyProof.Rows.boot_int
abbrev X4:=@PySem.Obj.isFreed_of_fields
abbrev X5:=@Nat.toDigits_of_lt_base
abbrev X6:=@Nat.lt_succ_self
abbrev X7:=@Nat.le_of_ble_eq_true
abbrev X8:=@Nat.add_sub_cancel
abbrev X9:=@List.mem_iff_getElem
abbrev Xa:=@List.mem_append_left
abbrev Xb:=@List.map_reverse
abbrev Xc:=@List.getLastD_eq_getLast?
abbrev Xd:=@List.getLast?_eq_some_getLast
abbrev Xe:=@List.getElem_set_self
abbrev Xf:=@List.getElem?_drop
abbrev Xg:=@List.filterMap_cons
abbrev Xh:=@Int.toNat_natCast
abbrev Xi:=@Int.natAbs_natCast
abbrev Xj:=@Int.mul_nonneg_of_nonpos_of_nonpos
abbrev Xk:=@Int.lt_trichotomy
abbrev Xl:=@Int.fmod_eq_emod_of_nonneg
abbrev Xm:=@PySem.F.slot_range_reversed
abbrev Xn:=@Bool.beq_eq_decide_eq
abbrev Xo:=@Array.getElem?_toList
abbrev Xp:=@Array.getElem?_eq_some_iff
abbrev Xq:=@Array.all_eq_true_iff_forall_mem
abbrev Xr:=@PySem.Around.under_plainId
abbrev afp:=@PySem.F.entry_tuple_iterator_next
abbrev afq:=@PySem.F.args_tuple_iterator_next_1
abbrev afr:=@List.take_append_of_le_length
namespace _L
open PySem PySem.Spec PyProof.Rows
abbrev Key:=Sum Int Str
def Tq:Key->Value->Bool | .inl k,v=>Value.isInt k v | .inr x,v=>Value.isStrOf x v
def a6k(w:World):Key->Int | .inl k=>hashInt k | .inr x=>hashStr w x
theorem qw:∀{k:Key}{v:Value},Tq k v=true->(∃i t,k=Sum.inl i/\v=Value.int i t)\/(∃x t,k=Sum.inr x/\v=Value.str x t) | .inl i,v,h=>by let(t,e):=Value.isInt_shape (k:=i) (v:=v) h;erw[.inl #[i,t,Z,e]] | .inr x,v,h=>by let(t,e):=Value.isStrOf_shape (x:=x) (v:=v) h;erw[.inr #[x,t,Z,e]]
theorem a6j(a b:Int):decide ((Sum.inl a:Key)=Sum.inl b)=(a==b):=by
 by_cases e:a=b
 ·subst e;simp
 ·have h:¬(Sum.inl a:Key)=Sum.inl b:=λq=>e (Sum.inl.inj q)
  rw[dE h];exact(Kf.mpr e).symm
theorem a6g(a b:Str):decide ((Sum.inr a:Key)=Sum.inr b)=decide (a=b):=by
 by_cases e:a=b
 ·subst e;simp
 ·have h:¬(Sum.inr a:Key)=Sum.inr b:=λq=>e (Sum.inr.inj q)
  rw[dE h,dE e]
theorem a6i(a:Int)(b:Str):decide ((Sum.inl a:Key)=Sum.inr b)=false:=dE (λq=>nomatch q)
theorem a6h(a:Str)(b:Int):decide ((Sum.inr a:Key)=Sum.inl b)=false:=dE (λq=>nomatch q)
def Hd(prog:ag)(w:World):PySem.KeyKind prog w Key where
 is:=Tq
 hash:=a6k w
 inj:=λv a b ha hb=>by
  rcases qw ha with⟨i,t,rfl,rfl⟩|⟨x,t,rfl,rfl⟩
  ·rcases qw hb with⟨j,u,rfl,e⟩|⟨y,u,rfl,e⟩
   ·injection e with e1 _;rw[e1]
   ·erw[nomatch e]
  ·rcases qw hb with⟨j,u,rfl,e⟩|⟨y,u,rfl,e⟩
   ·erw[nomatch e]
   ·injection e with e1 _;rw[e1]
 byValue:=λk v h=>by rcases qw h with⟨i,t,rfl,rfl⟩|⟨x,t,rfl,rfl⟩<;>rfl
 pyHash:=λhv h=>by
  rcases qw hv with⟨i,t,rfl,rfl⟩|⟨x,t,rfl,rfl⟩
  ·erw[wpAny_pyHash_int h]
  ·erw[wpAny_pyHash_str h]
 eqBool:=λhu hv h=>by
  rcases qw hu with⟨i,t,rfl,rfl⟩|⟨x,t,rfl,rfl⟩
  ·rcases qw hv with⟨j,u,rfl,rfl⟩|⟨y,u,rfl,rfl⟩
   ·rw[a6j]at h;erw[wpAny_eqBool_int h]
   ·rw[a6i]at h;erw[SeqAt.EqAt.int_str i t y u _ _ _ _ h]
  ·rcases qw hv with⟨j,u,rfl,rfl⟩|⟨y,u,rfl,rfl⟩
   ·rw[a6h]at h;erw[SeqAt.EqAt.str_int x t j u _ _ _ _ h]
   ·rw[a6g]at h;erw[wpAny_eqBool_str h]
 «strs»:=λk x t v h=>by
  rcases qw h with⟨i,u,rfl,e⟩|⟨y,u,rfl,e⟩
  ·erw[nomatch e]
  ·injection e with e1 _
   subst e1;cases v<;>rfl
inductive V where |bu|bl (b:Bool)|int (i:Int)|str (x:Str)|kZ (b:Array UInt8)|Dy (b:UInt64)|ref (a:Addr)|ty (n:String) deriving DecidableEq
def RelV:V->Value->Prop | .bu,u=>u=Value.none | .bl b,u=>u=Value.bool b | .int i,u=>∃t,u=Value.int i t | .str x,u=>∃t,u=Value.str x t | .kZ b,u=>∃t,u=Value.bytes b t | .Dy b,u=>∃t,u=Value.float b t | .ref a,u=>u=Value.ref a | .ty n,u=>u=Value.type n
abbrev Vals:List V->List Value->Prop:=Paired RelV
theorem Vals.length(r:Vals xs us):xs.length=us.length:=Paired.length r
theorem Vals.get:∀{xs:List V}{us:List Value}{i:Nat}{x:V},Vals xs us->xs[i]? =some x->∃u,us[i]? =some u/\RelV x u |_,_,_,_,.nil,e=>by simp at e |_,_,0,_,.cons r _,e=>by simp at e;subst e;erw[_,rfl,r] |_,_,i+1,x,.cons _ t,e=>by let(u,h1,h2):=Vals.get (i:=i) (x:=x) t (by simpa using e);erw[u,by simpa using h1,h2]
theorem Vals.set{x:V}{u:Value}(r:RelV x u):∀{xs:List V}{us:List Value}(i:Nat),Vals xs us->Vals (xs.set i x) (us.set i u) |_,_,_,.nil=>.nil |_,_,0,.cons _ t=>.cons r t |_,_,i+1,.cons q t=>.cons q (Vals.set r i t)
theorem Vals.append:∀{xs ys:List V}{us ws:List Value},Vals xs us->Vals ys ws->Vals (xs++ys) (us++ws) |_,_,_,_,.nil,s=>s |_,_,_,_,.cons r t,s=>.cons r (Vals.append t s)
theorem Vals.take:∀{xs:List V}{us:List Value}(n:Nat),Vals xs us->Vals (xs.take n) (us.take n) |_,_,0,_=>.nil |_,_,_+1,.nil=>.nil |_,_,n+1,.cons r t=>.cons r (Vals.take n t)
theorem Vals.drop:∀{xs:List V}{us:List Value}(n:Nat),Vals xs us->Vals (xs.drop n) (us.drop n) |_,_,0,r=>r |_,_,_+1,.nil=>.nil |_,_,n+1,.cons _ t=>Vals.drop n t
def pI:Option V->Option Value->Prop |some v,some u=>RelV v u |none,none=>True |_,_=>False
def KV{κ:Type}:List (κ×V)->List (κ×Value)->Prop:=Paired λ(p:κ×V)(q:κ×Value)=>p.1=q.1/\RelV p.2 q.2
def kV:Key->V | .inl i=>.int i | .inr x=>.str x
inductive HO where /--a list -/ |lst (xs:List V) /--a tuple (never changes) -/ |tup (xs:List V) /--a dict XF keys are ints and texts; one XF keys are tuples of ints and texts (rM empty one is both) -/ |dK (eU:List (Key×V))|dT (eU:List (List Key×V)) /--a set of ints: its members,its size -/ |set (S:Int->Bool)(n:Nat) /--an instance of rM class at C,its dict at dx,its attributes -/ |ins (C dx:Addr)(fs:List (Str×V)) /--rM dict of rM instance at x -/ |own (x:Addr) /--rM dict of an exception -/ |xd (fs:List (Str×V)) /--a bound method,f of x -/ |met (f x:Addr) /--a range object lo,lo+1,.. below hi -/ |wI (lo hi:Int) /--a Yo afu is known to rM object (rM afA; a dict while a loop walks it): read,never written while it is so -/ |ph (o:Obj)(u:HO) /--a code afI table -/ |rO (ps:Array Value) /--any other Yo,by what is true of its one object (a def of afH own: agI a S n:=HO.ext λh=>..) -/ |ext (φ:Heap->Prop)
abbrev Hp:=Addr->Option HO
def upd(H:Hp)(a:Addr)(o:HO):Hp:=λb=>if b=a then some o else H b
theorem bZ:upd H a o a=some o:=by unfold upd;rw[ba rfl]
theorem aY(h:b≠a):upd H a o b=H b:=by unfold upd;rw[bc h]
theorem zG{H:Hp}{a b:Addr}{o u:HO}(h:H a=some o)(h':H b=some u)(d:o≠u):a≠b:=by intro e;subst e;rw[h]at h';erw[d (eW h')]
theorem eM{H:Hp}{a b:Addr}{o:HO}(h:H a=some o)(h':H b=none):a≠b:=by intro e;subst e;rw[h]at h';cases h'
section
variable (P:ag) (w:World)
def jX(H:Hp)(h:Heap)(a:Addr):HO->Prop | .lst xs=>xs.length<=sizeLine/\∃(its:List Value)(n:Nat),Vals xs its/\h.get? a=some {cls:=.type "list",data:=.seq its.toArray n} | .tup xs=>xs.length<=sizeLine/\∃its:List Value,Vals xs its/\IsTup h a its.toArray | .dK eU=>eU.length<=sizeLine/\(a==sysModules)=false/\∃vs,KV eU vs/\h.DictOf (Hd P w) a vs | .dT eU=>eU.length<=sizeLine/\(a==sysModules)=false/\∃xs:List (List Key×Addr×Value),Paired (λ(p:List Key×V)(q:List Key×Addr×Value)=>p.1=q.1/\H q.2.1=some (.tup (p.1.map kV))/\RelV p.2 q.2.2) eU xs/\∃o es ep,h.get? a=some o/\o.ExactDict/\o.data= .dict es ep/\es.toList=xs.map (entryOfKey (tupleKind (Hd P w)))/\(xs.map (·.1)).Nodup | .set S n=>h.SetOf (intKind P w) a S n | .ins C dx fs=>H dx=some (.own a)/\fs.length<=1000/\dx≠a/\h.get? a=some (PySem.W.instObj C dx)/\∃mA,h.Ns1 dx mA/\(∀f,pI (fs.lookup f) (mA f))/\PySem.Within mA (fs.map (·.1)) | .own _=>∃o,h.get? a=some o | .xd fs=>∃mA,h.Ns1 a mA/\∀f,pI (fs.lookup f) (mA f) | .wI lo hi=>∃t u v,h.get? a=some {cls:=.type "range",data:=.fields (List.toArray [.int lo t,.int hi u,.int 1 v])} | .ph o u=>h.get? a=some o/\jX H h a u | .rO ps=>h.get? a=some {cls:=.none,data:=.fields ps} | .met f x=>h.get? a=some (PySem.W.methodObj (.ref f) (.ref x)) | .ext φ=>φ h/\(∃o,h.get? a=some o)/\∀h1 h2:Heap,φ h1->(∀o,h1.get? a=some o->h2.get? a=some o)->φ h2
def fH(H:Hp)(h:Heap):Prop:=∀a o,H a=some o->jX P w H h a o
end
section
variable {P:ag}{w:World}{H H':Hp}{h h':Heap}{a:Addr}{o:HO}
theorem jX.lt(x:jX P w H h a o):a<h.objs.size:=by cases o with |lst xs=>let(_,_,_,_,e):=x;erw[cE e] |tup xs=>let(_,_,_,p):=x;erw[p.lt] |dK eU=>let(_,_,_,_,o,_,_,e,_):=x;erw[cE e] |dT eU=>let(_,_,_,_,o,_,_,e,_):=x;erw[cE e] |set S n=>let(o,_,_,_,e,_):=x;erw[cE e] |ins C dx fs=>let(_,_,_,e,_):=x;erw[cE e] |own y=>let(_,e):=x;erw[cE e] |xd fs=>let(_,(_,_,_,e,_),_):=x;erw[cE e] |wI lo hi=>let(_,_,_,e):=x;erw[cE e] |ph ob u=>let(e,_):=x;erw[cE e] |rO ps=>erw[cE (show h.get? a=some _ from x)] |met f y=>erw[cE (show h.get? a=some _ from x)] |ext φ=>let(_,(_,e),_):=x;erw[cE e]
theorem Paired.SI{α β:Type}{F G:α->β->Prop}:∀{l₁:List α}{l₂:List β},Paired F l₁ l₂->(∀a b,F a b->G a b)->Paired G l₁ l₂ |_,_,.nil,_=>.nil |_,_,.cons r t,f=>.cons (f _ _ r) (Paired.SI t f)
theorem jX.rV(x:jX P w H h a o)(k:∀b u,(b=a\/H b=some (.own a))->h.get? b=some u->h'.get? b=some u) (ho:∀b,H b=some (.own a)->H' b=some (.own a))(ht:∀b xs,H b=some (.tup xs)->H' b=some (.tup xs)):jX P w H' h' a o:=by induction o with |lst xs=>let(z,its,n,r,e):=x;erw[z,its,n,r,k _ _ (.inl Z) e] |tup xs=>let(z,its,r,ob,e,c):=x;erw[z,its,r,ob,k _ _ (.inl Z) e,c] |dK eU=>let(z,y,vs,r,ob,es,ep,e,c):=x;erw[z,y,vs,r,ob,es,ep,k _ _ (.inl Z) e,c] |dT eU=>let(z,y,xs,r,ob,es,ep,e,c):=x;erw[z,y,xs,Paired.SI r λp q z=>#[z.1,ht _ _ z.2.1,z.2.2],ob,es,ep,k _ _ (.inl Z) e,c] |set S n=>let(ob,es,ep,t,e,c):=x;erw[ob,es,ep,t,k _ _ (.inl Z) e,c] |ins C dx fs=>let(d,z,ne,e,mA,(od,es,ep,e2,c),r):=x;erw[ho _ d,z,ne,k _ _ (.inl Z) e,mA,#[od,es,ep,k _ _ (.inr d) e2,c],r] |own y=>let(ob,e):=x;erw[ob,k _ _ (.inl Z) e] |xd fs=>let(mA,(od,es,ep,e,c),r):=x;erw[mA,#[od,es,ep,k _ _ (.inl Z) e,c],r] |wI lo hi=>let(t,u,v,e):=x;erw[t,u,v,k _ _ (.inl Z) e] |ph ob u ih=>let(e,q):=x;erw[k _ _ (.inl Z) e,ih q] |rO ps=>have e:h.get? a=some {cls:=.none,data:=.fields ps}:=x;show h'.get? a=some {cls:=.none,data:=.fields ps};erw[k a _ (.inl Z) e] |met f y=>have e:h.get? a=some (PySem.W.methodObj (.ref f) (.ref y)):=x;show h'.get? a=some (PySem.W.methodObj (.ref f) (.ref y));erw[k a _ (.inl Z) e] |ext φ=>let(p,(o,e),st):=x;erw[st _ _ p λo q=>k _ _ (.inl Z) q,#[o,k _ _ (.inl Z) e],st]
theorem fH.lt(x:fH P w H h)(e:H a=some o):a<h.objs.size:=(x a o e).lt
theorem fH.fresh(x:fH P w H h)(e:h.objs.size<=a):H a=none:=by cases q:H a with |none=>rfl |some u=>erw[absurd (gK (x.lt q) e) (we _)]
theorem fH.kept(x:fH P w H h)(k:∀b u,h.get? b=some u->h'.get? b=some u):fH P w H h':=λa o e=>(x a o e).rV (λb u _ q=>k b u q) (λ_ q=>q) λ_ _ q=>q
theorem fH.laid(x:fH P w H h)(k:∀b u,h.get? b=some u->h'.get? b=some u)(hp:h.objs.size<=a)(new:jX P w (upd H a o) h' a o):fH P w (upd H a o) h':=λb u e=>by
 have hn:=x.fresh hp;by_cases hb:b=a
 ·subst hb;rw[bZ]at e;cases e;erw[new]
 ·rw[aY hb]at e
  exact(x b u e).rV (λc v _ q=>k c v q) (λc q=>by rw[aY (eM q hn)];erw[q]) λc xs q=>by rw[aY (eM q hn)];erw[q]
end
def Rd(H:Hp)(a:Addr)(u:HO):Prop:=H a=some u\/∃o,H a=some (.ph o u)
theorem Rd.ok{P:ag}{w:World}{H:Hp}{h:Heap}{a:Addr}{u:HO}(r:Rd H a u)(x:fH P w H h):jX P w H h a u:=by
 rcases r with r|⟨o,r⟩
 ·erw[x a u r]
 ·let(_,q):=x a _ r
  erw[q]
def E7:Option HO->Prop |some (.lst _)=>True |some (.dK _)=>True |some (.dT _)=>True |some (.set _ _)=>True |some (.ins _ _ _)=>True |some (.ext _)=>True |_=>False
section
variable {P:ag}{w:World}{H:Hp}{h h':Heap}{x e:Addr}{o':HO}
theorem fH.write(ok:fH P w H h)(mu:E7 (H x))(he:e=x\/H e=some (.own x))(k:∀b u,b≠e->h.get? b=some u->h'.get? b=some u)(xy:∃u,h'.get? e=some u) (new:jX P w (upd H x o') h' x o'):fH P w (upd H x o') h':=λb u q=>by
 have Sa:∀c y,H c=some (.own y)->c≠x:=λc y r z=>by subst z;rw[r]at mu;erw[mu]
 have a4z:∀c xs,H c=some (.tup xs)->c≠x:=λc xs r z=>by subst z;rw[r]at mu;erw[mu]
 by_cases hb:b=x
 ·subst hb;rw[bZ]at q;cases q;erw[new]
 ·rw[aY hb]at q
  by_cases vi:b=e
  ·have q':H b=some (.own x):=by
    rcases he with z|z
    ·erw[absurd (vi.trans z) hb]
    ·rw[vi];erw[z]
   rw[q]at q';cases q';let(v,hv):=xy;erw[v,by rw[vi];erw[hv]]
  ·refine(ok b u q).rV (λc v hc r=>k c v ?_ r) (λc r=>by rw[aY (Sa c b r)];erw[r]) λc xs r=>by rw[aY (a4z c xs r)];erw[r]
   rcases hc with rfl|hc
   ·erw[vi]
   ·rintro rfl
    rcases he with z|z
    ·erw[Sa c b hc z]
    ·rw[hc]at z;cases z;erw[hb rfl]
end
structure Un(fs ex:List Addr)(H H':Hp)(h h':Heap):Prop where
 keep:∀b o,h.get? b=some o->H b=none->b∉fs->b∉ex->h'.get? b=some o
 slot:∀b o,h.get? b=some o->H b=none->b∈fs->b∉ex->∃sl,h'.get? b=some {o with slots:=sl}
 free:∀b o,h.get? b=some o->H b=none->b∉ex->H' b=none
 there:∀b o,h.get? b=some o->b∉ex->∃o',h'.get? b=some o'
 lI:∀b xs,H b=some (.tup xs)->H' b=some (.tup xs)
 kX:∀b o u,H b=some (.ph o u)->H' b=some (.ph o u)
 lJ:∀b ps,H b=some (.rO ps)->∃more,H' b=some (.rO (ps++more))
section
variable {fs p9 ex kz:List Addr}{H H1 H2:Hp}{h h1 h2 h':Heap}{a x e:Addr}{o:HO}
theorem Un.any(u:Un fs ex H H1 h h1){b:Addr}{ob:Obj}(q:h.get? b=some ob)(n:H b=none)(hx:b∉ex):∃sl,h1.get? b=some {ob with slots:=sl}:=by
 by_cases hb:b∈fs
 ·erw[u.slot b ob q n hb hx]
 ·erw[ob.slots,u.keep b ob q n hb hx]
theorem Un.kept(k:∀b u,h.get? b=some u->h'.get? b=some u):Un fs ex H H h h':=#[λb ob q _ _ _=>k b ob q,λb ob q _ _ _=>#[ob.slots,k b ob q],λ_ _ _ n _=>n,λb ob q _=>#[ob,k b ob q],λ_ _ q=>q,λ_ _ _ q=>q,λ_ ps q=>#[#[],by rw[q];simp]]
theorem Un.refl:Un fs ex H H h h:=Un.kept λ_ _ q=>q
theorem Un.laid(k:∀b u,h.get? b=some u->h'.get? b=some u)(hp:h.objs.size<=a)(hn:H a=none):Un fs ex H (upd H a o) h h' where
 keep:=λb u q _ _ _=>k b u q
 slot:=λb u q _ _ _=>#[u.slots,k b u q]
 free:=λb u q n _=>by rw[aY (eY (gK (cE q) hp))];erw[n]
 there:=λb u q _=>#[u,k b u q]
 lI:=λb xs q=>by rw[aY (eM q hn)];erw[q]
 kX:=λb u xs q=>by rw[aY (eM q hn)];erw[q]
 lJ:=λb ps q=>#[#[],by rw[aY (eM q hn),q];simp]
theorem Un.write(mu:E7 (H x))(he:e=x\/H e=some (.own x))(k:∀b u,b≠e->h.get? b=some u->h'.get? b=some u)(xy:∃u,h'.get? e=some u):Un fs ex H (upd H x o) h h':=by
 have hx:∀b,H b=none->b≠x:=λb n z=>by subst z;rw[n]at mu;erw[mu]
 have hb:∀b,H b=none->b≠e:=λb n z=>by
  subst z;rcases he with r|r
  ·erw[hx b n r]
  ·rw[n]at r;cases r
 have hm:∀b u,H b=some u->¬E7 (some u)->b≠x:=λb u q nm z=>by subst z;rw[q]at mu;erw[nm mu]
 erw[λb u q n _ _=>k b u (hb b n) q,λb u q n _ _=>#[u.slots,k b u (hb b n) q],λb u q n _=>by rw[aY (hx b n)];erw[n],λb u q _=>?_,λb xs q=>by rw[aY (hm b _ q λz=>z)];erw[q],λb u xs q=>by rw[aY (hm b _ q λz=>z)];erw[q],λb ps q=>#[#[],by rw[aY (hm b _ q λz=>z),q];simp]];by_cases vi:b=e
 ·subst vi;erw[xy]
 ·erw[u,k b u vi q]
end
def BK(h:Heap)(H:Hp):List Addr:=(List.range h.objs.size).filter λa=>(H a).isSome
def qD(h:Heap)(H:Hp):Heap:=PySem.W.hideAll h (BK h H)
theorem a7I(h:Heap)(H:Hp):(qD h H).objs.size=h.objs.size:=PySem.W.hideAll_size _ _
theorem a7J(e:h.get? b=some o)(n:H b=none):(qD h H).get? b=some o:=PySem.W.hideAll_get _ e λhm=>by have q:(H b).isSome=true:=(List.mem_filter.mp hm).2;rw[n]at q;simp at q
theorem a4o(e:(qD h H).get? b=some o):h.get? b=some o/\H b=none:=by have e':h.get? b=some o:=PySem.W.of_hideAll (BK h H) e;erw[e',?_];cases q:H b with |none=>rfl |some x=>have hm:b∈BK h H:=List.mem_filter.mpr #[List.mem_range.mpr (cE e'),by simp[q]];have z:(qD h H).get? b=none:=PySem.W.hideAll_none (BK h H) hm;rw[z]at e;cases e
structure Mod(K:aa)(mg:cm)(ay:Heap):Prop where
 xp:K.In ay
 glob:ay.Ns mainGlobals mg
 blt:∃mb,ay.Ns builtinsNs mb/\∀x:Str,x≠"__name__"->mb x=bootBuiltins x
 nolimit:ay.NoLimit
structure Cx where
 prog:ag
 w:World
 K:aa
 mg:cm
 ay:Heap
 A:ai
 N:List Str
 s₀:af
 H₀:Hp
 env:Env
 outer:List Env
 stack:List Env
 ex:List Addr
 fn:Str->Bool
 calm:Bool
 pn:List (Addr×Obj)
 xe:Value->af->Prop
def fZ(l:List Env):List Addr:=l.filterMap (·.frame)
abbrev Cx.fs(X:Cx):List Addr:=fZ X.outer
def DT(sc:Scope)(x:Str):Prop:=sc.names.lookup x=some .local\/sc.names.lookup x=some .cell\/sc.names.lookup x=some .free
def Loc(sc:Scope)(x:Str):Prop:=sc.names.lookup x=some .local\/sc.names.lookup x=some .cell
def Look(env:Env)(h:Heap)(m:cm)(x:Str)(u:Value):Prop:=(env.kindOf x=some .local/\m x=some u)\/((env.kindOf x=some .cell\/env.kindOf x=some .free)/\∃c,env.cells.lookup x=some c/\h.IsCell c (some u))
structure Cx.Ok(X:Cx):Prop where
 mod:Mod X.K X.mg X.ay
 kind:X.env.scope.kind= .function
 glob:X.env.globals=mainGlobals
 blt:X.env.builtins=builtinsNs
 above:X.s₀.heap.objs.size<=X.env.locals
 inj:∀x y c,X.env.cells.lookup x=some c->X.env.cells.lookup y=some c->x=y
 has:∀x,(X.env.kindOf x=some .cell\/X.env.kindOf x=some .free)->∃c,X.env.cells.lookup x=some c
 xQ:∀x c,X.fn x=true->X.env.cells.lookup x=some c->X.s₀.heap.objs.size<=c
 hd:X.calm=true->X.A.handled=none
 frames:X.A.frames=some X.stack
 yK:X.stack=X.outer\/(X.stack=X.env::X.outer/\X.env.frame=some X.env.locals)
 Jd:∀b∈X.ex,b≠X.env.locals/\∀x c,X.env.cells.lookup x=some c->c≠b
 bs:∀b o,X.ay.get? b=some o->X.s₀.heap.get? b=some o/\X.H₀ b=none
 pE:X.ay.objs.size<=X.s₀.heap.objs.size
 xg:∀b o,X.ay.get? b=some o->b∉X.ex
 tD:∀b∈X.ex,b∉X.fs
 lW:X.s₀.heap.FunFrames X.ay X.outer
 tf:∀b∈X.fs,X.H₀ b=none
structure Inv(X:Cx)(pins:List (Addr×Obj))(O:List (Option V))(H:Hp)(s:af):Prop where
 ok:X.Ok
 os:s.os=X.s₀.os
 bare:AllBare s.gens
 ay:Un X.fs X.ex X.H₀ H X.s₀.heap s.heap
 loc:∃m,s.heap.Ns X.env.locals m/\∀(i:Nat)(x:Str)(v:V),X.N[i]? =some x->O[i]? =some (some v)->DT X.env.scope x->∃u,RelV v u/\Look X.env s.heap m x u
 cell:∀x c,X.env.cells.lookup x=some c->∃v,s.heap.IsCell c v
 free:H X.env.locals=none
 pj:∀x c,X.env.cells.lookup x=some c->H c=none
 pin:∀p∈X.pn++pins,s.heap.get? p.1=some p.2/\H p.1=none/\p.1≠X.env.locals/\p.1∉X.fs/\∀v,p.2.data≠ .cell v
 bS:fH X.prog X.w H s.heap
 len:O.length=X.N.length
section
variable {X:Cx}{pins:List (Addr×Obj)}{O:List (Option V)}{H H':Hp}{s:af}{h':Heap}
theorem Cx.Ok.a4K(ok:X.Ok){b:Addr}{o:Obj}(e:X.ay.get? b=some o):b∉X.fs:=λhb=>by have:=(ok.lW.mem hb).1;rw[e]at this;cases this
theorem Inv.bs(I:Inv X pins O H s):∀b o,X.ay.get? b=some o->s.heap.get? b=some o/\H b=none:=λb o e=>#[I.ay.keep b o (I.ok.bs b o e).1 (I.ok.bs b o e).2 (I.ok.a4K e) (I.ok.xg b o e),I.ay.free b o (I.ok.bs b o e).1 (I.ok.bs b o e).2 (I.ok.xg b o e)]
theorem Inv.bk(I:Inv X pins O H s):∀b o,X.ay.get? b=some o->s.heap.get? b=some o:=λb o e=>(I.bs b o e).1
theorem Inv.mod(I:Inv X pins O H s):Mod X.K X.mg X.ay:=I.ok.mod
theorem Inv.iO(I:Inv X pins O H s):X.K.In s.heap:=I.ok.mod.xp.keeps I.bk
theorem Inv.lt(I:Inv X pins O H s):X.env.locals<s.heap.objs.size:=let#[_,hn,_]:=I.loc;hn.lt
theorem Inv.sz(I:Inv X pins O H s):X.s₀.heap.objs.size<=s.heap.objs.size:=iG I.ok.above (Bi I.lt)
theorem Inv.a4I(I:Inv X pins O H s){a:Addr}(h:s.heap.objs.size<=a):a∉X.fs:=λhb=>by let(_,o,ho,_):=I.ok.lW.mem hb;erw[absurd (gK (cE ho) (iG I.sz h)) (we _)]
theorem Inv.vI(I:Inv X pins O H s):∀x c,X.env.cells.lookup x=some c->c≠X.env.locals:=λx c e z=>by let(v,o,ho,hd):=I.cell x c e;let(m,(o',es,ep,nC,ID,_),_):=I.loc;rw[z,nC]at ho;cases ho;rw[ID]at hd;cases hd
theorem Inv.lW(I:Inv X pins O H s):s.heap.FunFrames X.ay X.outer:=by
 have all:∀(l:List Env),(∀b∈fZ l,b∈X.fs)->X.s₀.heap.FunFrames X.ay l->s.heap.FunFrames X.ay l:=by intro l;induction l with |nil=>intro _ _;trivial |cons env r ih=>intro hs hl;let(hk,(L,o,hf,hn,ho,hd),hr):=hl;have hL:L∈X.fs:=hs L (by unfold fZ;rw[Xg,hf];erw[Kv]);let(sl,e):=I.ay.slot L o ho (I.ok.tf L hL) hL λz=>I.ok.tD L z hL;erw[hk,#[L,_,hf,hn,e,hd],ih (λb hb=>hs b (by unfold fZ;rw[Xg,hf];erw[yi _ hb])) hr]
 erw[all X.outer (λ_ hb=>hb) I.ok.lW]
theorem Inv.stack(I:Inv X pins O H s):s.heap.FunFrames X.ay X.stack:=by
 rcases I.ok.yK with e|⟨e,hf⟩
 ·rw[e];erw[I.lW]
 ·rw[e]
  let(m,hn,_):=I.loc;erw[.cons (by rw[I.ok.kind];decide) hf hn ?_ I.lW];erw[Heap.get?_none_of_le (iG I.ok.pE I.ok.above)]
theorem Inv.EW(I:Inv X pins O H s):∀b∈fZ X.stack,b∈X.env.locals::X.fs:=λb hb=>by
 rcases I.ok.yK with e|⟨e,hf⟩
 ·rw[e]at hb;erw[yi _ hb]
 ·rw[e]at hb
  unfold fZ at hb;rw[Xg,hf]at hb;erw[hb]
theorem Inv.Lv(I:Inv X pins O H s):∀b∈fZ X.stack,H b=none:=λb hb=>by
 rcases cM.mp (I.EW b hb)with e|hb
 ·rw[e];erw[I.free]
 ·let(_,o,ho,_):=I.ok.lW.mem hb
  erw[I.ay.free b o ho (I.ok.tf b hb) λz=>I.ok.tD b z hb]
theorem Inv.step{t':Nat}{ch:List Addr}(I:Inv X pins O H s) (mH:∀b∈ch,(b∈X.ex\/X.s₀.heap.objs.size<=b)/\b≠X.env.locals/\(∀x c,X.env.cells.lookup x=some c->c≠b)/\∀p∈X.pn++pins,p.1≠b) (keep:∀b o,b≠X.env.locals->b∉X.fs->b∉ch->s.heap.get? b=some o->H b=none->h'.get? b=some o) (slot:∀b o,b≠X.env.locals->b∈X.fs->b∉ch->s.heap.get? b=some o->H b=none->∃sl,h'.get? b=some {o with slots:=sl})(free:∀b o,b∉ch->s.heap.get? b=some o->H b=none->H' b=none) (there:∀b o,b∉ch->s.heap.get? b=some o->∃o',h'.get? b=some o') (lI:∀b xs,H b=some (.tup xs)->H' b=some (.tup xs))(kX:∀b o u,H b=some (.ph o u)->H' b=some (.ph o u))(lJ:∀b ps,H b=some (.rO ps)->∃more,H' b=some (.rO (ps++more))) (ns:∀m,s.heap.Ns X.env.locals m->h'.Ns X.env.locals m)(bS:fH X.prog X.w H' h')(hg:AllBare g'): Inv X pins O H' {s with heap:=h',gens:=g',drawn:=d',toks:=t'}:=by
 have So:∀b o,X.s₀.heap.get? b=some o->b≠X.env.locals:=λb o e=>eY (gK (cE e) I.ok.above);have CF:∀b o,X.s₀.heap.get? b=some o->b∉X.ex->b∉ch:=λb o e hx hb=>by
  rcases(mH b hb).1 with z|z
  ·erw[hx z]
  ·erw[absurd (gK (cE e) z) (we _)]
 have cellK:∀x c,X.env.cells.lookup x=some c->∀v,s.heap.IsCell c v->h'.IsCell c v:=λx c e v #[o,ho,hd]=>by
  have zH:c∉ch:=λz=>(mH c z).2.2.1 x c e rfl;by_cases hc:c∈X.fs
  ·let(sl,q):=slot c o (I.vI x c e) hc zH ho (I.pj x c e)
   erw[_,q,hd]
  ·erw[o,keep c o (I.vI x c e) hc zH ho (I.pj x c e),hd]
 erw[I.ok,I.os,hg,#[λb o e n hb hx=>?_,λb o e n hb hx=>?_,λb o e n hx=>?_,λb o e hx=>?_,λb xs e=>lI b xs (I.ay.lI b xs e),λb o xs e=>kX b o xs (I.ay.kX b o xs e),λb ps e=>?_],?_,λx c e=>?_,?_,λx c e=>?_,λp hp=>?_,bS,I.len]
 ·erw[keep b o (So b o e) hb (CF b o e hx) (I.ay.keep b o e n hb hx) (I.ay.free b o e n hx)]
 ·let(sl,e1):=I.ay.slot b o e n hb hx
  let(Fg,e2):=slot b _ (So b o e) hb (CF b o e hx) e1 (I.ay.free b o e n hx);erw[Fg,e2]
 ·let(o',e1):=I.ay.there b o e hx
  erw[free b o' (CF b o e hx) e1 (I.ay.free b o e n hx)]
 ·let(o',e1):=I.ay.there b o e hx
  erw[there b o' (CF b o e hx) e1]
 ·let(m1,e1):=I.ay.lJ b ps e
  let(m2,e2):=lJ b _ e1;erw[m1++m2,by rw[e2,Array.append_assoc]]
 ·let(m,hn,hl):=I.loc
  erw[m,ns m hn,λi x v e1 e2 e3=>?_];let(u,r,l):=hl i x v e1 e2 e3;erw[u,r,?_];rcases l with l|⟨k,c,e,z⟩
  ·erw[.inl l]
  ·erw[.inr #[k,c,e,cellK x c e _ z]]
 ·let(v,z):=I.cell x c e
  erw[v,cellK x c e v z]
 ·let(m,(o,_,_,ho,_),_):=I.loc
  erw[free _ o (λz=>(mH _ z).2.1 Z) ho I.free]
 ·let(v,o,ho,hd):=I.cell x c e
  erw[free c o (λz=>(mH c z).2.2.1 x c e Z) ho (I.pj x c e)]
 ·let(e,n,ne,nf,d):=I.pin p hp
  have zH:p.1∉ch:=λz=>(mH p.1 z).2.2.2 p hp rfl;erw[keep p.1 p.2 ne nf zH e n,free p.1 p.2 zH e n,ne,nf,d]
theorem Inv.un(I:Inv X pins O H s)(u:Un X.fs [] H H' s.heap h')(bS:fH X.prog X.w H' h'):Inv X pins O H' {s with heap:=h',toks:=t'}:=by let(m,(o,es,ep,ho,r),_):=id I.loc;let(sl,hL):=u.any ho I.free (by simp);erw[I.step (g':=s.gens) (d':=s.drawn) (ch:=[]) (λ_ z=>nomatch z) (λb o _ hb _ e n=>u.keep b o e n hb (by simp)) (λb o _ hb _ e n=>u.slot b o e n hb (by simp)) (λb o _ e n=>u.free b o e n (by simp)) (λb o _ e=>u.there b o e (by simp)) u.lI u.kX u.lJ (λm' hm=>by let(o',jz,Jh,nC,r'):=hm;rw[ho]at nC;cases nC;erw[_,jz,Jh,hL,r']) bS I.bare]
theorem Inv.call(I:Inv X pins O H s)(u:Un (fZ X.stack) ch H H' s.heap h')(bS:fH X.prog X.w H' h')(hg:AllBare g') (mH:∀b∈ch,(b∈X.ex\/X.s₀.heap.objs.size<=b)/\b≠X.env.locals/\(∀x c,X.env.cells.lookup x=some c->c≠b)/\∀p∈X.pn++pins,p.1≠b): Inv X pins O H' {s with heap:=h',gens:=g',drawn:=d',toks:=t'}:=by let(m,(o,es,ep,ho,r),_):=id I.loc;let(sl,hL):=u.any ho I.free λz=>(mH _ z).2.1 rfl;erw[I.step (ch:=ch) mH (λb o hL hb hc e n=>u.keep b o e n (λz=>(cM.mp (I.EW b z)).elim hL hb) hc) (λb o _ _ hc e n=>u.any e n hc) (λb o hc e n=>u.free b o e n hc) (λb o hc e=>u.there b o e hc) u.lI u.kX u.lJ (λm' hm=>by let(o',jz,Jh,nC,r'):=hm;rw[ho]at nC;cases nC;erw[_,jz,Jh,hL,r']) bS hg]
theorem Inv.turned{it:Addr}(I:Inv X pins O H s)(k:∀b o,b≠it->s.heap.get? b=some o->h'.get? b=some o)(hn:H it=none)(hL:it≠X.env.locals) (h1:it∈X.ex\/X.s₀.heap.objs.size<=it)(h2:∀x c,X.env.cells.lookup x=some c->c≠it)(h3:∀p∈X.pn++pins,p.1≠it):Inv X pins O H {s with heap:=h',toks:=t'}:=by
 have zE:∀b u,H b=some u->b≠it:=λb u e z=>by rw[z,hn]at e;cases e
 erw[I.step (g':=s.gens) (d':=s.drawn) (ch:=[it]) (λb hb=>?_) (λb o _ _ hc e _=>k b o (λz=>hc (by simp[z])) e) (λb o _ _ hc e _=>#[o.slots,k b o (λz=>hc (by simp[z])) e]) (λ_ _ _ _ n=>n) (λb o hc e=>#[o,k b o (λz=>hc (by simp[z])) e]) (λ_ _ e=>e) (λ_ _ _ e=>e) (λb ps e=>#[#[],by rw[e];simp]) (λm hm=>?_) (λb u e=>?_) I.bare]
 ·have e:b=it:=by simpa using hb
  subst e;erw[h1,hL,h2,h3]
 ·let(o,es,ep,ho,r):=hm
  erw[o,es,ep,k _ o (kG hL) ho,r]
 ·refine(I.bS b u e).rV (λc v hc q=>k c v ?_ q) (λ_ q=>q) λ_ _ q=>q
  rcases hc with z|z
  ·rw[z];erw[zE b u e]
  ·erw[zE c _ z]
theorem Inv.tok(I:Inv X pins O H s)(t:Nat):Inv X pins O H {s with toks:=t}:=I.un (h':=s.heap) (t':=t) Un.refl I.bS
theorem Inv.kept(I:Inv X pins O H s)(k:∀b u,s.heap.get? b=some u->h'.get? b=some u):Inv X pins O H {s with heap:=h',toks:=t'}:=I.un (Un.kept k) (I.bS.kept k)
theorem Inv.laid{a:Addr}{o:HO}{t':Nat}(I:Inv X pins O H s)(k:∀b u,s.heap.get? b=some u->h'.get? b=some u)(hp:s.heap.objs.size<=a)(new:jX X.prog X.w (upd H a o) h' a o): Inv X pins O (upd H a o) {s with heap:=h',toks:=t'}:=I.un (Un.laid k hp (I.bS.fresh hp)) (I.bS.laid k hp new)
theorem Inv.write(I:Inv X pins O H s)(mu:E7 (H x))(he:e=x\/H e=some (.own x))(k:∀b u,b≠e->s.heap.get? b=some u->h'.get? b=some u)(xy:∃u,h'.get? e=some u) (new:jX X.prog X.w (upd H x o) h' x o):Inv X pins O (upd H x o) {s with heap:=h',toks:=t'}:=I.un (Un.write mu he k xy) (I.bS.write mu he k xy new)
theorem Inv.QM(I:Inv X pins O H s)(h:∀p∈QN,s.heap.get? p.1=some p.2/\H p.1=none/\p.1≠X.env.locals/\p.1∉X.fs/\∀v,p.2.data≠ .cell v):Inv X QN O H s:=#[I.ok,I.os,I.bare,I.ay,I.loc,I.cell,I.free,I.pj,λp hp=>(gy.mp hp).elim (λz=>I.pin p (Xa _ z)) (h p),I.bS,I.len]
theorem Sd{N:List Str}(hN:N.Nodup){i j:Nat}{x:Str}(a:N[i]? =some x)(b:N[j]? =some x):i=j:=by let(h1,e1):=cK.mp a;let(h2,e2):=cK.mp b;exact(List.getElem_inj hN).mp (e1.trans e2.symm)
theorem Lu{M:Model}{A:ai}{E:Value->af->Prop}{i:Nat}{x:Str}{v:V}{u:Value}{Q:Unit->af->Prop}(I:Inv X pins O H s)(hN:X.N.Nodup)(hi:X.N[i]? =some x)(hx:Loc X.env.scope x)(r:RelV v u) (h:∀s',Inv X pins (O.set i (some v)) H s'->(∃a,Heap.SameBut a s.heap s'.heap/\(a=X.env.locals\/X.env.cells.lookup x=some a))->Q () s')(hf:autoParam (X.fn x=true\/X.env.scope.names.lookup x=some .local) d8_._auto_1):wpAny M A (storeName X.env x u) Q E s:=by
 let(m,hn,hl):=id I.loc;have a83:(X.env.scope.kind== .class||(X.env.scope.kind== .module&&X.env.locals !=X.env.globals))=false:=by rw[I.ok.kind];rfl
 have Uh:i<O.length:=by rw[I.len];exact(cK.mp hi).1
 have vI:=I.vI;have tracked:∀{a:Addr}{h':Heap},(∃o,s.heap.get? a=some o/\H a=none)->Heap.SameBut a s.heap h'->fH X.prog X.w H h':=λ{a h'} ha hs b ob e=>by
  let(_,_,sT):=ha;refine(I.bS b ob e).rV (λc w' hc q=>(hs.2 c ?_).trans q) (λ_ q=>q) λ_ _ q=>q;rintro rfl;rcases hc with rfl|hc
  ·rw[sT]at e;cases e
  ·rw[sT]at hc;cases hc
 rcases hx with hk|hk
 ·erw[wpAny_storeName_local hk hn (λh' zX hs=>?_) a83]
  let(oL,_,_,hoL,_):=id hn;erw[h _ #[I.ok,I.os,I.bare,#[λb o e n hb hx=>?_,λb o e n hb hx=>?_,I.ay.free,λb o e hx=>?_,I.ay.lI,I.ay.kX,I.ay.lJ],#[_,zX,λj y v' e1 e2 e3=>?_],λy c e=>?_,I.free,I.pj,λp hp=>?_,tracked #[oL,hoL,I.free] hs,by simpa using I.len] #[_,hs,.inl rfl]]
  ·exact(hs.2 b (eY (gK (cE e) I.ok.above))).trans (I.ay.keep b o e n hb hx)
  ·let(sl,e1):=I.ay.slot b o e n hb hx
   erw[sl,(hs.2 b (eY (gK (cE e) I.ok.above))).trans e1]
  ·let(o',e1):=I.ay.there b o e hx
   erw[o',(hs.2 b (eY (gK (cE e) I.ok.above))).trans e1]
  ·by_cases hj:j=i
   ·subst hj
    rw[hi]at e1;cases e1;rw[List.getElem?_set_self Uh]at e2;cases e2;erw[u,r,.inl #[hk,by simp]]
   ·rw[List.getElem?_set_ne (kG hj)]at e2
    let(u',r',q):=hl j y v' e1 e2 e3;erw[u',r',?_];rcases q with⟨k,e⟩|⟨k,c,e,z⟩
    ·erw[.inl #[k,?_]]
     have:y≠x:=λe=>hj (Sd hN e1 (e▸hi));simp[this,e]
    ·erw[.inr #[k,c,e,z.sameBut hs (vI y c e)]]
  ·let(w',z):=I.cell y c e
   erw[w',z.sameBut hs (vI y c e)]
  ·let(e,n,ne,nf,d):=I.pin p hp
   erw[(hs.2 p.1 ne).trans e,n,ne,nf,d]
 ·have IB:X.fn x=true:=by
   rcases hf with z|z
   ·erw[z]
   ·rw[z]at hk;cases hk
  let(c,hc):=I.ok.has x (.inl hk);let(w',z):=I.cell x c hc;erw[wpAny_storeName_cell I.ok.kind hk hc z (λh' jR hs=>?_)];let(oc,U9,a7g):=id z;erw[h {s with heap:=h'} #[I.ok,I.os,I.bare,#[λb o e n hb hx=>?_,λb o e n hb hx=>?_,I.ay.free,λb o e hx=>?_,I.ay.lI,I.ay.kX,I.ay.lJ],#[m,hn.sameBut hs (kG (vI x c hc)),λj y v' e1 e2 e3=>?_],λy c' e=>?_,I.free,I.pj,λp hp=>?_,tracked #[oc,U9,I.pj x c hc] hs,by simpa using I.len] #[c,hs,.inr hc]]
  ·exact(hs.2 b (eY (gK (cE e) (I.ok.xQ x c IB hc)))).trans (I.ay.keep b o e n hb hx)
  ·let(sl,e1):=I.ay.slot b o e n hb hx
   erw[sl,(hs.2 b (eY (gK (cE e) (I.ok.xQ x c IB hc)))).trans e1]
  ·let(o',e1):=I.ay.there b o e hx
   erw[o',(hs.2 b (eY (gK (cE e) (I.ok.xQ x c IB hc)))).trans e1]
  ·by_cases hj:j=i
   ·subst hj
    rw[hi]at e1;cases e1;rw[List.getElem?_set_self Uh]at e2;cases e2;erw[u,r,.inr #[.inl hk,c,hc,jR]]
   ·rw[List.getElem?_set_ne (kG hj)]at e2
    let(u',r',q):=hl j y v' e1 e2 e3;erw[u',r',?_];rcases q with q|⟨k,c',e,z'⟩
    ·erw[.inl q]
    ·erw[.inr #[k,c',e,z'.sameBut hs ?_]]
     rintro rfl;erw[hj (Sd hN e1 (I.ok.inj _ _ _ e hc▸hi))]
  ·by_cases Ul:c'=c
   ·subst Ul;erw[_,jR]
   ·let(w2,z2):=I.cell y c' e
    erw[w2,z2.sameBut hs Ul]
  ·let(e,n,ne,nf,d):=I.pin p hp
   erw[(hs.2 p.1 ?_).trans e,n,ne,nf,d];intro q;rw[q,U9]at e;have q':oc=p.2:=eW e;erw[d w' (by rw[<-q'];erw[a7g])]
theorem BU{M:Model}{A:ai}{E:Value->af->Prop}{i:Nat}{x:Str}{v:V}{u:Value}{Q:Unit->af->Prop}(I:Inv X pins O H s)(hN:X.N.Nodup)(hi:X.N[i]? =some x)(hx:Loc X.env.scope x)(r:RelV v u) (h:∀s',Inv X pins (O.set i (some v)) H s'->Q () s')(hf:autoParam (X.fn x=true\/X.env.scope.names.lookup x=some .local) d8_._auto_1):wpAny M A (storeName X.env x u) Q E s:=Lu I hN hi hx r (λs' I' _=>h s' I') hf
theorem Inv.JG(I:Inv X pins O H s)(ho:s'.os=s.os)(u:Un (fZ X.stack) ch H H' s.heap s'.heap)(bS:fH X.prog X.w H' s'.heap)(hg:AllBare s'.gens) (mH:∀b∈ch,(b∈X.ex\/X.s₀.heap.objs.size<=b)/\b≠X.env.locals/\(∀x c,X.env.cells.lookup x=some c->c≠b)/\∀p∈X.pn++pins,p.1≠b):Inv X pins O H' s':=by let(h',g',d',t',o'):=s';have e:o'=s.os:=ho;subst e;erw[I.call (g':=g') (t':=t') (d':=d') u bS hg mH]
end
abbrev XK:=Value->Option Addr->Hp->Prop
abbrev St:=List (Option V)
abbrev VK:=V->Hp->Prop
abbrev TE:=St->Hp->VK->Prop
abbrev TT:=St->Hp->(Bool->Hp->Prop)->Prop
abbrev TA:=St->Hp->(List V->Hp->Prop)->Prop
structure Ends where
 nx:St->Hp->Prop
 rt:VK
 bk:St->Hp->Prop:=λ_ _=>False
 ct:St->Hp->Prop:=λ_ _=>False
abbrev TS:=Ends->St->Hp->Prop
def EP(X:Cx)(pins:List (Addr×Obj))(O:St)(Q:VK)(u:Value)(s':af):Prop:=∃v H',Inv X pins O H' s'/\RelV v u/\Q v H'
def TP(X:Cx)(pins:List (Addr×Obj))(O:St)(Q:Bool->Hp->Prop)(b:Bool)(s':af):Prop:=∃H',Inv X pins O H' s'/\Q b H'
def AP(X:Cx)(pins:List (Addr×Obj))(O:St)(Q:List V->Hp->Prop)(us:List Value)(s':af):Prop:=∃vs H',Inv X pins O H' s'/\Vals vs us/\Q vs H'
def SP(X:Cx)(pins:List (Addr×Obj))(D:Ends)(f:Flow)(s':af):Prop:=match f with | .next=>∃σ' H',Inv X pins σ' H' s'/\D.nx σ' H' | .brk=>∃σ' H',Inv X pins σ' H' s'/\D.bk σ' H' | .cont=>∃σ' H',Inv X pins σ' H' s'/\D.ct σ' H' | .ret u=>∃v σ' H',Inv X pins σ' H' s'/\RelV v u/\D.rt v H'
def PE(X:Cx)(e:Expr)(t:TE):Prop:=∀(pins:List (Addr×Obj))(s:af)(O:St)(H:Hp)(Q:VK),Inv X pins O H s->t O H Q->wpAny (model X.prog X.w) X.A (eval e X.env) (EP X pins O Q) X.xe s
def PT(X:Cx)(e:Expr)(t:TT):Prop:=∀(pins:List (Addr×Obj))(s:af)(O:St)(H:Hp)(Q:Bool->Hp->Prop),Inv X pins O H s->t O H Q->wpAny (model X.prog X.w) X.A (isTrue e X.env (eval e X.env)) (TP X pins O Q) X.xe s
def PW(X:Cx)(e:Expr)(t:TT):Prop:=∀(whole:Sem Value)(pins:List (Addr×Obj))(s:af)(O:St)(H:Hp)(Q:Bool->Hp->Prop),Inv X pins O H s->t O H Q->wpAny (model X.prog X.w) X.A (isTrue e X.env whole) (TP X pins O Q) X.xe s
theorem PW.pt{t:TT}(h:PW X e t):PT X e t:=h _
def PA(X:Cx)(es:List Expr)(t:TA):Prop:=∀(pos:Pos)(pins:List (Addr×Obj))(s:af)(O:St)(H:Hp)(Q:List V->Hp->Prop),Inv X pins O H s->t O H Q->wpAny (model X.prog X.w) X.A (spliced (backTo pos (starEach es X.env))) (AP X pins O Q) X.xe s
def PS(X:Cx)(st:Stmt)(t:TS):Prop:=∀(pins:List (Addr×Obj))(s:af)(O:St)(H:Hp)(D:Ends),Inv X pins O H s->t D O H->wpAny (model X.prog X.w) X.A (exec st X.env) (SP X pins D) X.xe s
def iT(X:Cx)(st:List Stmt)(t:TS):Prop:=∀(pins:List (Addr×Obj))(s:af)(O:St)(H:Hp)(D:Ends),Inv X pins O H s->t D O H->wpAny (model X.prog X.w) X.A (execs st X.env) (SP X pins D) X.xe s
theorem aZ{α:Type}{t:Sem α}{Q Q':α->af->Prop}{M:Model}{A:ai}{E:Value->af->Prop}{s:af}(h:wpAny M A t Q E s)(hQ:∀a s,Q a s->Q' a s):wpAny M A t Q' E s:=gJ h hQ λ_ _ x=>x
section
variable {X:Cx}
inductive acK(i:Nat)(O:St)(H:Hp)(Q:VK):Prop |mk (v:_)(h0:O[i]? =some (some v))(h1:Q v H)
def wx(i:Nat):TE:=λO H Q=>acK i O H Q
def tC (v:V):TE:=λ_ H Q=>Q v H
theorem QR(hN:X.N[i]? =some x)(hv:DT X.env.scope x)(hd:autoParam ((x==("__debug__":Str))=false) q8_._auto_1)(jP:autoParam ((x==("__classdict__":Str))=false) q8_._auto_1):PE X (.Name x pos) (wx i):=by
 intro pins s O H Q I h;let(v,e,h):=h;let(m,hn,hl):=I.loc;let(u,r,l):=hl i x v hN e hv;have fin:EP X pins O Q u s:=#[v,H,I,r,h];rcases l with⟨hk,hm⟩|⟨hk,c,hc,p8⟩
 ·erw[wpAny_Name (wpAny_loadName_local I.ok.kind hk hn hm fin) hd]
 ·rcases hk with hk|hk
  ·erw[wpAny_Name (wpAny_loadName_cell I.ok.kind hk hc p8 fin) hd]
  ·erw[wpAny_Name (wpAny_loadName_free I.ok.kind hk hc p8 fin jP) hd]
theorem aB{i j pos}:PE X (.Constant (.int i) j pos) (tC (.int i)):=λ_ _ _ H _ I h=>wpAny_Constant_int #[.int i,H,I.tok _,#[_,Z],h]
theorem j4{b j pos}:PE X (.Constant (.bool b) j pos) (tC (.bl b)):=λ_ _ _ H _ I h=>Constant_bool #[.bl b,H,I,Z,h]
theorem gX{j pos}:PE X (.Constant .none j pos) (tC .bu):=λ_ _ _ H _ I h=>Constant_none #[.bu,H,I,Z,h]
theorem bR{x j pos}:PE X (.Constant (.str x) j pos) (tC (.str x)):=λ_ _ _ H _ I h=>Calls.Constant_str #[.str x,H,I.tok _,#[_,Z],h]
def Gl(X:Cx)(x:Str):Prop:=X.env.kindOf x=some .globalImplicit
theorem zM{E:Value->af->Prop}{pins:List (Addr×Obj)}{s:af}{O:St}{H:Hp}{x:Str}{u:Value}{pos:Pos}{Q:Value->af->Prop}(I:Inv X pins O H s)(hg:Gl X x)(hm:X.mg x=some u)(h:Q u s) (hd:autoParam ((x==("__debug__":Str))=false) q8_._auto_1):wpAny (model X.prog X.w) X.A (eval (.Name x pos) X.env) Q E s:=Calls.Name_function_global I.ok.kind hg (Calls.loadGlobal_global (by rw[I.ok.glob];erw[I.mod.glob.keeps I.bk]) hm h) hd
theorem qv{E:Value->af->Prop}{pins:List (Addr×Obj)}{s:af}{O:St}{H:Hp}{x:Str}{u:Value}{pos:Pos}{Q:Value->af->Prop}(I:Inv X pins O H s)(hg:Gl X x)(hm:X.mg x=none)(hv:bootBuiltins x=some u)(h:Q u s) (hn:autoParam (x≠"__name__") q8_._auto_1)(hd:autoParam ((x==("__debug__":Str))=false) q8_._auto_1):wpAny (model X.prog X.w) X.A (eval (.Name x pos) X.env) Q E s:=by let(mb,h1,h2):=I.mod.blt;erw[Calls.Name_function_global I.ok.kind hg (Calls.loadGlobal_builtin (by rw[I.ok.glob];erw[I.mod.glob.keeps I.bk]) hm (by rw[I.ok.blt];erw[h1.keeps I.bk]) ((h2 x hn).trans hv) h) hd]
theorem a2y{v:V}(hg:Gl X x)(hm:X.mg x=some u)(r:RelV v u)(hd:autoParam ((x==("__debug__":Str))=false) q8_._auto_1):PE X (.Name x pos) (tC v):=λ_ _ _ H _ I h=>zM I hg hm #[v,H,I,r,h] hd
theorem mi{v:V}(hg:Gl X x)(hm:X.mg x=none)(hv:bootBuiltins x=some u)(r:RelV v u)(hn:autoParam (x≠"__name__") q8_._auto_1)(hd:autoParam ((x==("__debug__":Str))=false) q8_._auto_1):PE X (.Name x pos) (tC v):=λ_ _ _ H _ I h=>qv I hg hm hv #[v,H,I,r,h] hn hd
variable {a b:Expr}{ta tb:TE}{pos:Pos}
def PC(X:Cx)(op:CmpOp)(a b:Expr)(t:TE):Prop:=∀(pins:List (Addr×Obj))(s:af)(O:St)(H:Hp)(Q:VK),Inv X pins O H s->t O H Q->wpAny (model X.prog X.w) X.A (eval a X.env) (λv s₁=>wpAny (model X.prog X.w) X.A (eval b X.env) (λu s₂=>wpAny (model X.prog X.w) X.A (compareOp op v u) (EP X pins O Q) X.xe s₂) X.xe s₁) X.xe s
inductive ItB(Q:Bool->Hp->Prop)(x:V)(H1:Hp):Prop |mk (c:_)(h0:x= .bl c)(h1:Q c H1)
def tB(t:TE):TT:=λO H Q=>t O H λx H1=>ItB Q x H1
theorem a2a{t:TE}(h:PC X op a b t)(h1:behindInMarks op b=false:=by first|erw[afK _ aw aw]|rfl):PT X (.Compare a [op] [b] pos) (tB t):=by intro pins s O H Q I hw;erw[wpAny_isTrue_Compare1 (aZ (h pins s O H _ I hw) λv s1 h1=>aZ h1 λu s2 h2=>aZ h2 λc s3 #[x,H1,I1,r1,q1]=>?_) h1];let(d,rfl,q):=q1;cases r1;erw[pJ #[H1,I1,q]]
theorem cw{t:TE}(h:PE X e t)(he:autoParam (∀whole,isTrue e X.env whole=(do let v<-whole;standAt e.pos;holding [v] (truthy v))) d8_._auto_1):PT X e (tB t):=by intro pins s O H Q I hw;erw[isTrue_plain (aZ (h pins s O H _ I hw) λv s1 #[x,H1,I1,r1,q1]=>?_) (he _)];let(d,rfl,q):=q1;cases r1;erw[pJ #[H1,I1,q]]
variable {tA BR:TT} {rest:List Expr}
def Ll(t u:TT):TT:=λO H Q=>t O H λc H1=>if c=true then u O H1 Q else Q false H1
def YC(t u:TT):TT:=λO H Q=>t O H λc H1=>if c=true then Q true H1 else u O H1 Q
def YE(t:TT):TT:=λO H Q=>t O H λc H1=>Q (!c) H1
theorem wN(ha:PT X a tA):PW X (.BoolOp .And [a] pos) tA:=by intro wh pins s O H Q I h;erw[isTrue_and (aZ (ha pins s O H Q I h) λc s1 e=>?_)];cases c with |true=>erw[isTrue_and_nil e] |false=>erw[e]
theorem jJ(ha:PT X a tA):PW X (.BoolOp .Or [a] pos) tA:=by intro wh pins s O H Q I h;erw[isTrue_or (aZ (ha pins s O H Q I h) λc s1 e=>?_)];cases c with |false=>erw[isTrue_or_nil e] |true=>erw[e]
theorem sr(ha:PT X a tA)(hb:PW X (.BoolOp .And (b::rest) pos) BR):PW X (.BoolOp .And (a::b::rest) pos) (Ll tA BR):=by intro wh pins s O H Q I h;erw[isTrue_and (aZ (ha pins s O H _ I h) λc s1 #[H1,I1,q1]=>?_)];cases c with |true=>erw[hb wh pins s1 O H1 Q I1 q1] |false=>erw[H1,I1,q1]
theorem iI(ha:PT X a tA)(hb:PW X (.BoolOp .Or (b::rest) pos) BR):PW X (.BoolOp .Or (a::b::rest) pos) (YC tA BR):=by intro wh pins s O H Q I h;erw[isTrue_or (aZ (ha pins s O H _ I h) λc s1 #[H1,I1,q1]=>?_)];cases c with |true=>erw[H1,I1,q1] |false=>erw[hb wh pins s1 O H1 Q I1 q1]
theorem cR(ha:PT X a tA):PT X (.UnaryOp .Not a pos) (YE tA):=by intro pins s O H Q I h;erw[isTrue_not (ha pins s O H (λc H1=>Q (!c) H1) I h)]
inductive acT(tb:TE)(O:St)(Q:VK)(x:V)(H1:Hp):Prop |mk (c:_)(h0:x= .bl c)(h1:if c=true then tb O H1 Q else Q (.bl false) H1)
def YS(ta tb:TE):TE:=λO H Q=>ta O H λx H1=>acT tb O Q x H1
inductive acP(Q:VK)(x:V)(H1:Hp):Prop |mk (c:_)(h0:x= .bl c)(h1:Q (.bl (!c)) H1)
def YD(ta:TE):TE:=λO H Q=>ta O H λx H1=>acP Q x H1
theorem oE{op}{t:TE}(h:PE X a t):PE X (.BoolOp op [a] pos) t:=λpins s O H Q I hw=>BoolOp_one (h pins s O H Q I hw)
theorem qd(ha:PE X a ta)(hb:PE X (.BoolOp .And (b::rest) pos) tb):PE X (.BoolOp .And (a::b::rest) pos) (YS ta tb):=by intro pins s O H Q I h;erw[BoolOp_and (aZ (ha pins s O H _ I h) λv s1 #[x,H1,I1,r1,q1]=>?_)];let(c,rfl,q1):=q1;cases r1;erw[pJ ?_];cases c with |true=>erw[hb pins s1 O H1 Q I1 q1] |false=>erw[.bl false,H1,I1,Z,q1]
theorem Gj(ha:PE X a ta):PE X (.UnaryOp .Not a pos) (YD ta):=by intro pins s O H Q I h;erw[UnaryOp_ (aZ (ha pins s O H _ I h) λv s1 #[x,H1,I1,r1,q1]=>?_)];let(c,rfl,q1):=q1;cases r1;erw[not_of (pJ #[.bl (!c),H1,I1,Z,q1])]
def YM(t:TT)(ta tb:TE):TE:=λO H Q=>t O H λc H1=>if c=true then ta O H1 Q else tb O H1 Q
theorem kr(hc:PT X c tA)(ha:PE X a ta)(hb:PE X b tb):PE X (.IfExp c a b pos) (YM tA ta tb):=by intro pins s O H Q I h;erw[wpAny_IfExp (aZ (hc pins s O H _ I h) λd s1 #[H1,I1,q1]=>?_)];cases d with |true=>erw[ha pins s1 O H1 Q I1 q1] |false=>erw[hb pins s1 O H1 Q I1 q1]
end
def aD(K:aa)(H:Hp)(a:Addr)(xs:List V):Prop:=Rd H a (.lst xs)\/ ∃(o:Obj)(its:Array Value)(n:Nat),K.lookup a=some o/\o.cls= .type "list"/\o.dict=none/\o.data= .seq its n/\its.size<=sizeLine/\Vals xs its.toList
def aU(K:aa)(H:Hp)(a:Addr)(xs:List V):Prop:=Rd H a (.tup xs)\/ ∃(o:Obj)(its:Array Value)(n:Nat),K.lookup a=some o/\o.cls= .type "tuple"/\o.data= .seq its n/\its.size<=sizeLine/\Vals xs its.toList
def acq:Value->Option V | .none=>some .bu | .bool b=>some (.bl b) | .int i _=>some (.int i) | .str x _=>some (.str x) | .bytes b _=>some (.kZ b) | .float b _=>some (.Dy b) | .ref a=>some (.ref a) | .type n=>some (.ty n) |_=>none
theorem RelV.abs(r:RelV x u):acq u=some x:=by cases x with |bu=>cases r;rfl |bl _=>cases r;rfl |int _=>let(t,rfl):=r;rfl |str _=>let(t,rfl):=r;rfl |kZ _=>let(t,rfl):=r;rfl |Dy _=>let(t,rfl):=r;rfl |ref _=>cases r;rfl |ty _=>cases r;rfl
theorem RelV.inj{x y:V}{u:Value}(r:RelV x u)(q:RelV y u):x=y:=eW (r.abs.symm.trans q.abs)
theorem Vals.inj:∀{xs ys:List V}{us:List Value},Vals xs us->Vals ys us->xs=ys |_,_,_,.nil,.nil=>rfl |_,_,_,.cons r t,.cons r' t'=>by rw[r.inj r',Vals.inj t t']
section
variable {X:Cx}{pins:List (Addr×Obj)}{O:St}{H:Hp}{s:af}{a:Addr}{xs ys:List V}
theorem aD.of{K:aa}(h:H a=some (.lst xs)):aD K H a xs:=.inl (.inl h)
theorem aU.of{K:aa}(h:H a=some (.tup xs)):aU K H a xs:=.inl (.inl h)
theorem Inv.list(I:Inv X pins O H s)(h:aD X.K H a xs):∃its:List Value,Vals xs its/\PlainL s.heap a its.toArray/\xs.length<=sizeLine:=by
 rcases h with h|⟨o,its,n,hk,hc,hd,hs,hz,r⟩
 ·let(z,its,n,r,e):=h.ok I.bS
  erw[its,r,#[_,n,e,Z,Z,Z],z]
 ·erw[its.toList,r,#[o,n,I.iO a o hk,hc,hd,by simpa using hs],?_]
  have e:=r.length;simp only[mR]at e
  lia
theorem Inv.tuple(I:Inv X pins O H s)(h:aU X.K H a xs):∃its:List Value,Vals xs its/\IsTup s.heap a its.toArray/\xs.length<=sizeLine:=by
 rcases h with h|⟨o,its,n,hk,hc,hs,hz,r⟩
 ·let(z,its,r,p):=h.ok I.bS
  erw[its,r,p,z]
 ·erw[its.toList,r,#[o,I.iO a o hk,hc,n,by simpa using hs],?_]
  have e:=r.length;simp only[mR]at e
  lia
theorem Inv.T4(I:Inv X pins O H s)(h:aD X.K H a xs)(h':aD X.K H a ys):xs=ys:=by
 let(its,r,(o,n,e,_,_,d),_):=I.list h;let(its',r',(o',n',e',_,_,d'),_):=I.list h';rw[e]at e';cases e';rw[d]at d';injection d' with d1 _;have:its=its':=by simpa using lC Array.toList d1
 subst this;erw[r.inj r']
theorem Inv.L3(I:Inv X pins O H s)(h:aU X.K H a xs)(h':aU X.K H a ys):xs=ys:=by
 let(its,r,(o,e,_,n,d),_):=I.tuple h;let(its',r',(o',e',_,n',d'),_):=I.tuple h';rw[e]at e';cases e';rw[d]at d';injection d' with d1 _;have:its=its':=by simpa using lC Array.toList d1
 subst this;erw[r.inj r']
end
abbrev Cx.oq(X:Cx)(E:Value->af->Prop):Cx:={X with xe:=E}
abbrev Cx.uQ(X:Cx):Cx:=X.oq λ_ _=>False
theorem Cx.Ok.oq{X:Cx}(ok:X.Ok)(E:Value->af->Prop):(X.oq E).Ok:=#[ok.mod,ok.kind,ok.glob,ok.blt,ok.above,ok.inj,ok.has,ok.xQ,ok.hd,ok.frames,ok.yK,ok.Jd,ok.bs,ok.pE,ok.xg,ok.tD,ok.lW,ok.tf]
theorem Cx.Ok.rH{X:Cx}{E:Value->af->Prop}(ok:(X.oq E).Ok):X.Ok:=#[ok.mod,ok.kind,ok.glob,ok.blt,ok.above,ok.inj,ok.has,ok.xQ,ok.hd,ok.frames,ok.yK,ok.Jd,ok.bs,ok.pE,ok.xg,ok.tD,ok.lW,ok.tf]
section
variable {X:Cx}{pins:List (Addr×Obj)}{O:St}{H:Hp}{s:af}{E:Value->af->Prop}
theorem Inv.oq(I:Inv X pins O H s)(E:Value->af->Prop):Inv (X.oq E) pins O H s:=#[I.ok.oq E,I.os,I.bare,I.ay,I.loc,I.cell,I.free,I.pj,I.pin,I.bS,I.len]
theorem Inv.rH(I:Inv (X.oq E) pins O H s):Inv X pins O H s:=#[I.ok.rH,I.os,I.bare,I.ay,I.loc,I.cell,I.free,I.pj,I.pin,I.bS,I.len]
theorem SP.rH{D:Ends}(h:SP (X.oq E) pins D f s'):SP X pins D f s':=by cases f with |next=>let(σ',H',I,q):=h;erw[σ',H',I.rH,q] |brk=>let(σ',H',I,q):=h;erw[σ',H',I.rH,q] |cont=>let(σ',H',I,q):=h;erw[σ',H',I.rH,q] |ret u=>let(v,σ',H',I,r,q):=h;erw[v,σ',H',I.rH,r,q]
theorem iT.uQ{st:List Stmt}{t:TS}(h:iT X.uQ st t):iT X st t:=λpins s O H D I hw=>gJ (h pins s O H D (I.oq _) hw) (λ_ _ q=>q.rH) λ_ _ z=>False.elim z
end
section
variable {X:Cx}{st:Stmt}{rest:List Stmt}{t u:TS}{e:Expr}{te:TE}{pos:Pos}
def YG:TS:=λD O H=>D.nx O H
def Le(t u:TS):TS:=λD O H=>t {D with nx:=u D} O H
theorem bP:iT X [] YG:=λ_ _ O H _ I h=>Kc #[O,H,I,h]
theorem az(h1:PS X st t)(h2:iT X rest u):iT X (st::rest) (Le t u):=by intro pins s O H D I h;erw[wpAny_execs_cons (aZ (h1 pins s O H {D with nx:=u D} I h) λf s1 q=>?_)];cases f with |next=>let(σ',H',I',q):=q;erw[h2 pins s1 σ' H' D I' q] |ret v=>erw[q] |brk=>erw[q] |cont=>erw[q]
theorem aH(h1:PS X st t):iT X [st] t:=by intro pins s O H D I h;erw[wpAny_execs_cons (aZ (h1 pins s O H D I h) λf s1 q=>?_)];cases f with |next=>erw[Kc q] |ret v=>erw[q] |brk=>erw[q] |cont=>erw[q]
theorem Inv.quiet{pins:List (Addr×Obj)}{O:St}{H:Hp}{s:af}(I:Inv X pins O H s):interactive X.env=false:=by simp[interactive,I.ok.kind]
def YO(te:TE):TS:=λD O H=>te O H λ_ H1=>D.nx O H1
theorem fP(he:PE X e te)(hs:autoParam (swapsWith e none pos.line X.env=pure false) r8_._auto_1):PS X (.Expr e pos) (YO te):=by intro pins s O H D I h;erw[wpAny_Expr_any (aZ (he pins s O H _ I h) λv s1 #[x,H1,I1,r1,q1]=>#[O,H1,I1,q1]) I.quiet hs]
def Yy(te:TE):TS:=λD O H=>te O H D.rt
theorem aO(he:PE X e te):PS X (.Return (some e) pos) (Yy te):=by intro pins s O H D I h;erw[wpAny_Return_some (aZ (he pins s O H _ I h) λv s1 #[x,H1,I1,r1,q1]=>#[x,O,H1,I1,r1,q1])]
def Li(c:TT)(t u:TS):TS:=λD O H=>c O H λb H1=>if b=true then t D O H1 else u D O H1
theorem bI(hc:PT X c tc)(ha:iT X a t)(hb:iT X b u):PS X (.If c a b pos) (Li tc t u):=by intro pins s O H D I h;erw[wpAny_If (aZ (hc pins s O H _ I h) λd s1 #[H1,I1,q1]=>?_)];cases d with |true=>erw[ha pins s1 O H1 D I1 q1] |false=>erw[hb pins s1 O H1 D I1 q1]
def Lf:TS:=λ_ _ _=>False
theorem kn:PS X st Lf:=λ_ _ _ _ _ _ h=>h.elim
theorem uD:iT X Z2 Lf:=λ_ _ _ _ _ _ h=>h.elim
end
abbrev TG:=V->St->Hp->(St->Hp->Prop)->Prop
abbrev pG:=List V->St->Hp->(St->Hp->Prop)->Prop
def PG(X:Cx)(target:Expr)(t:TG):Prop:=∀(pins:List (Addr×Obj))(s:af)(O:St)(H:Hp)(v:V)(u:Value)(Q:St->Hp->Prop),Inv X pins O H s->RelV v u->t v O H Q->wpAny (model X.prog X.w) X.A (assign target X.env u) (λ_ s'=>∃σ' H',Inv X pins σ' H' s'/\Q σ' H') X.xe s
def AR(X:Cx)(ts:List Expr)(t:pG):Prop:=∀(pins:List (Addr×Obj))(s:af)(O:St)(H:Hp)(vs:List V)(us:List Value)(Q:St->Hp->Prop),Inv X pins O H s->Vals vs us->t vs O H Q->wpAny (model X.prog X.w) X.A (assignInOrder ((assignEach ts X.env).map (·.2)) us) (λ_ s'=>∃σ' H',Inv X pins σ' H' s'/\Q σ' H') X.xe s
abbrev JZ:=V->V->V->Hp->(Hp->Prop)->Prop
def WD(X:Cx)(t:JZ):Prop:=∀(pins:List (Addr×Obj))(s:af)(O:St)(H:Hp)(o i v:V)(ov iv u:Value)(Q:Hp->Prop),Inv X pins O H s->RelV o ov->RelV i iv->RelV v u->t o i v H Q->wpAny (model X.prog X.w) X.A (setItem ov iv u) (λ_ s'=>∃H',Inv X pins O H' s'/\Q H') X.xe s
abbrev Wx:=V->V->Hp->VK->Prop
def PIp(X:Cx)(op:Operator)(t:Wx):Prop:=∀(pins:List (Addr×Obj))(s:af)(O:St)(H:Hp)(x y:V)(v u:Value)(Q:VK),Inv X pins O H s->RelV x v->RelV y u->t x y H Q->wpAny (model X.prog X.w) X.A (inplaceOp op v u) (EP X pins O Q) X.xe s
section
variable {X:Cx} {pos:Pos}
def gs(i:Nat):TG:=λv O H Q=>Q (O.set i (some v)) H
theorem a2u(hN:X.N.Nodup)(hi:X.N[i]? =some x)(hx:Loc X.env.scope x)(hf:autoParam (X.fn x=true\/X.env.scope.names.lookup x=some .local) d8_._auto_1):PG X (.Name x pos) (gs i):=by intro pins s O H v u Q I r h;erw[wpAny_assign_Name (BU I hN hi hx r (λs' I'=>#[_,H,I',h]) hf)]
def Dw:pG:=λvs O H Q=>vs=[]/\Q O H
inductive af4(t:TG)(u:pG)(vs:List V)(O:St)(H:Hp)(Q:St->Hp->Prop):Prop |mk (v:_)(r:_)(h0:vs=v::r)(h1:t v O H λσ' H'=>u r σ' H' Q)
def vo(t:TG)(u:pG):pG:=λvs O H Q=>af4 t u vs O H Q
theorem eg:AR X [] Dw:=by intro pins s O H vs us Q I r h;let(e,h):=h;subst e;cases r;erw[assignInOrder_nil #[O,H,I,h]]
theorem bV{t:TG}(h1:PG X e t)(h2:AR X es u) (hs:autoParam ((assignEach (e::es) X.env).map (·.2)=assign e X.env::(assignEach es X.env).map (·.2)) r8_._auto_1):AR X (e::es) (vo t u):=by intro pins s O H vs us Q I r h;let(v,vr,e1,h):=h;subst e1;cases r with |cons r rr=>rw[hs];erw[Eh (aZ (h1 pins s O H _ _ _ I r h) λ_ s1 #[σ1,H1,I1,q1]=>?_)];erw[h2 pins s1 σ1 H1 _ _ Q I1 rr q1]
inductive af2(K:aa)(n:Nat)(t:pG)(v:V)(O:St)(H:Hp)(Q:St->Hp->Prop):Prop |mk (a:_)(xs:_)(h0:v= .ref a)(h1:aU K H a xs)(h2:xs.length=n)(h3:t xs O H Q)
def A9(K:aa)(n:Nat)(t:pG):TG:=λv O H Q=>af2 K n t v O H Q
theorem a2t{t:pG}{n:Nat}(hc:X.calm=true)(h:AR X es t) (hn:autoParam ((assignEach es X.env).length=n) r8_._auto_1)(nu:autoParam ((assignEach es X.env).findIdx? (·.1)=none) r8_._auto_1):PG X (.Tuple es k pos) (A9 X.K n t):=by intro pins s O H v u Q I r hw;let(a,xs,e1,hq,hl,hw):=hw;subst e1;cases r;let(its,rv,ht,hz):=I.tuple hq;erw[assign_Tuple_tuple (I.ok.hd hc) ht (by simp[hn,<-hl,rv.length]) nu λh' hx=>?_];have I1:Inv X pins O H {s with heap:=h'}:=I.kept (t':=s.toks) λb o e=>hx b o (eY (cE e)) e;erw[h pins _ O H xs _ Q I1 (by simpa using rv) hw]
def a90(to ti:TE)(t:JZ):TG:=λv O H Q=>to O H λo H1=>ti O H1 λi H2=>t o i v H2 λH3=>Q O H3
theorem uG{to:TE}{t:JZ}(ho:PE X o to)(hi:PE X i ti)(hs:WD X t) (ha:∀v,assign (.Subscript o i pos) X.env v=(do
 let ov<-holding [v] (eval o X.env)
 let iv<-holding [v,ov] (eval i X.env)
 standAt pos
 holding [v,ov,iv] (setItem ov iv v)
 release [v,ov,iv] []):=by intro _;rfl):PG X (.Subscript o i pos) (a90 to ti t):=by
 intro pins s O H v u Q I r h;rw[ha];erw[aJ (rk (aZ (ho pins s O H _ I h) λov s1 #[x,H1,I1,r1,q1]=>?_))];erw[aJ (rk (aZ (hi pins s1 O H1 _ I1 q1) λiv s2 #[y,H2,I2,r2,q2]=>?_))];erw[aJ (tV (aJ (rk (aZ (hs pins s2 O H2 x y v ov iv u _ I2 r1 r2 r q2) λ_ s3 #[H3,I3,q3]=>?_))))];erw[wpAny_release #[O,H3,I3,q3]]
def yJ(te:TE)(g:TG):TS:=λD O H=>te O H λx H1=>g x O H1 D.nx
theorem fg(he:PE X e te)(hg:PG X tg g)(hs:autoParam (swapsWithSole [tg] e pos.line X.env=pure false) r8_._auto_1)(hw:autoParam (swappedStores [tg] e X.env=pure none) r8_._auto_1) (h1:autoParam ((assignEach [tg] X.env).map (·.2)=[assign tg X.env]) r8_._auto_1):PS X (.Assign [tg] e pos) (yJ te g):=by intro pins s O H D I h;erw[wpAny_Assign_stores (aZ (he pins s O H _ I h) λv s1 #[x,H1,I1,r1,q1]=>?_) hs hw];rw[h1];erw[aZ (hg pins s1 O H1 x v _ I1 r1 q1) λ_ s2 q=>q]
theorem a2c(hN:X.N.Nodup)(hi:X.N[i]? =some x)(hx:Loc X.env.scope x)(he:PE X e te)(hs:autoParam (swapsWith e (some (.Name x pos')) pos.line X.env=pure false) r8_._auto_1)(hf:autoParam (X.fn x=true\/X.env.scope.names.lookup x=some .local) d8_._auto_1): PS X (.Assign [.Name x pos'] e pos) (yJ te (gs i)):=by intro pins s O H D I h;erw[wpAny_Assign_Name (aZ (he pins s O H _ I h) λv s1 #[y,H1,I1,r1,q1]=>?_) hs];erw[BU I1 hN hi hx r1 (λs2 I2=>#[_,H1,I2,q1]) hf]
inductive acN(i:Nat)(j:Nat)(D:Ends)(O:St)(vs:List V)(H1:Hp):Prop |mk (v:_)(w:_)(h0:vs=[v,w])(h1:D.nx ((O.set i (some v)).set j (some w)) H1)
def YA(i j:Nat)(ta:TA):TS:=λD O H=>ta O H λvs H1=>acN i j D O vs H1
theorem za{px pt:Pos}{kt k2 Ge}(hc:X.calm=true)(hN:X.N.Nodup)(hi:X.N[i]? =some x)(hj:X.N[j]? =some y)(hij:i≠j) (hx:X.env.scope.names.lookup x=some .local)(hy:X.env.scope.names.lookup y=some .local)(ha:PA X [a,b] ta) (hw:swappedStores [.Tuple [.Name x px,.Name y py] kt pt] (.Tuple [a,b] k2 Ge) X.env=pure (some [x,y])) (hs:autoParam (swapsWithSole [.Tuple [.Name x px,.Name y py] kt pt] (.Tuple [a,b] k2 Ge) pos.line X.env=pure false) r8_._auto_1): PS X (.Assign [.Tuple [.Name x px,.Name y py] kt pt] (.Tuple [a,b] k2 Ge) pos) (YA i j ta):=by
 intro pins s O H D I h;rw[exec_Assign_arm];erw[aJ (tV ?_)];rw[hs];erw[aJ (cf ?_)];rw[bc aw];erw[aJ (Tuple_ (aZ (ha _ pins s O H _ I h) λus s1 #[vs,H1,I1,r1,q1]=>?_))];let(v,w,e1,q1):=q1;subst e1;obtain⟨u1,u2,rfl,rv,pV⟩:∃u1 u2,us=[u1,u2]/\RelV v u1/\RelV w u2:=by cases r1 with |cons p q=>cases q with |cons p' q'=>cases q';erw[_,_,Z,p,p']
 erw[o7 ?_ (by show 2<=sizeLine;decide)];have I2:Inv X pins O H1 {s1 with heap:=s1.heap.push {cls:=.type "tuple",data:=.seq [u1,u2].toArray}}:=I1.kept (t':=s1.toks) λb o e=>cF _ e;rw[hw];erw[aJ (cf ?_)];show wpAny (model X.prog X.w) X.A (do rule "assign.swapped-stores";let items<-unpackItems (.ref s1.heap.objs.size) 2 none;assignInOrder [λv=>bindName X.env y v,λv=>bindName X.env x v] items.reverse;pure Flow.next) _ _ _;erw[aJ (B6 (aJ (unpackItems_tuple (items:=(List.toArray [u1,u2])) (I.ok.hd hc) (IsTup.new s1.heap _) λh' hx'=>?_)))];have I3:=I2.kept (h':=h') (t':=s1.toks) λb o e=>hx' b o (eY (cE e)) e;show wpAny _ _ (assignInOrder [λv=>bindName X.env y v,λv=>bindName X.env x v] [u2,u1]>>=λ_=>pure Flow.next) _ _ _;erw[aJ (Eh (wpAny_bindName (BU I3 hN hj (.inl hy) pV (λs2 I4=>?_) (.inr hy))))];erw[Eh (wpAny_bindName (BU I4 hN hi (.inl hx) rv (λs3 I5=>assignInOrder_nil (cf ?_)) (.inr hx)))];rw[List.set_comm _ _ (kG hij)]at I5;erw[_,H1,I5,q1]
inductive aeT(f:Int->Int->Int)(x:V)(y:V)(H:Hp)(Q:VK):Prop |mk (i:_)(j:_)(h0:x= .int i)(h1:y= .int j)(h2:Q (.int (f i j)) H)
def ipI(f:Int->Int->Int):Wx:=λx y H Q=>aeT f x y H Q
theorem a6v:PIp X .Add (ipI λi j=>i+j):=by intro pins s O H x y v u Q I r1 r2 h;let(i,j,e1,e2,q):=h;subst e1;subst e2;let(t,rfl):=r1;let(t',rfl):=r2;erw[iadd_int #[.int _,H,I.tok _,#[_,Z],q]]
def Lc(c:TT)(tb:TS):TS:=λD O H=>∃W:Nat->St->Hp->Prop,(∃m,W m O H)/\∀m O H,W m O H->c O H λb H1=>if b=true then∃N:St->Hp->Prop,(∀σ' H',N σ' H'->∃m',m'<m/\W m' σ' H')/\tb {D with nx:=N,ct:=N,bk:=D.nx} O H1 else D.nx O H1
theorem uE(hp:PassesOwn (model X.prog X.w) X.A X.env X.xe)(hc:PT X c tc)(hb:iT X body tb):PS X (.While c body [] pos) (Lc tc tb):=by intro pins s O H D I h;let(W,(m0,w0),turn):=h;erw[wpAny_While (codeAny_whileLoop (λn s'=>∃σ' H',Inv X pins σ' H' s'/\W n σ' H') ?_ m0 #[O,H,I,w0])];rintro n s1 ⟨σ1,H1,I1,w1⟩;erw[yb hp (aZ (hc pins s1 σ1 H1 _ I1 (turn n σ1 H1 w1)) λb s2 #[H2,I2,q2]=>?_)];cases b with
 |true=>let(N,hN,q2):=q2;rw[ba rfl];erw[yb hp (aZ (hb pins s2 σ1 H2 _ I2 q2) λf s3 q3=>?_)];cases f with |next=>let(σ3,H3,I3,n3):=q3;let(m',hm,w3):=hN σ3 H3 n3;erw[m',hm,σ3,H3,I3,w3] |cont=>let(σ3,H3,I3,n3):=q3;let(m',hm,w3):=hN σ3 H3 n3;erw[m',hm,σ3,H3,I3,w3] |brk=>erw[q3] |ret v=>erw[q3]
 |false=>rw[bc eK];erw[Kc #[σ1,H2,I2,q2]]
end
structure It where
 go:Nat->Hp->Prop
 je:Nat->Hp->V->Hp->Prop
 stop:Nat->Hp->Prop
def jZ(X:Cx)(pins:List (Addr×Obj))(H:Hp)(b:Addr):Prop:=H b=none/\b≠X.env.locals/\b∉X.fs/\(b∈X.ex\/X.s₀.heap.objs.size<=b)/\(∀x c,X.env.cells.lookup x=some c->c≠b)/\∀p∈X.pn++pins,p.1≠b
theorem Inv.qG{X:Cx}{pins:List (Addr×Obj)}{O:St}{H H':Hp}{s:af}{b:Addr}(I:Inv X pins O H s)(hb:s.heap.objs.size<=b)(hn:H' b=none):jZ X pins H' b:=by
 erw[hn,yh (gK I.lt hb),I.a4I hb,.inr (iG I.sz hb),λx c e z=>?_,λp hp z=>?_]
 ·let(v,q):=I.cell x c e
  erw[absurd (gK q.lt (by rw[z];erw[hb])) (we _)]
 ·erw[absurd (gK (cE (I.pin p hp).1) (by rw[z];erw[hb])) (we _)]
structure Turn(P:ag)(w:World)(K:aa)(tg:Expr)(J:It)(fp:List Addr)(it:Addr)(tn:Nat->Heap->Prop):Prop where
 mem:it∈fp
 obj:∀i h,tn i h->∀b∈fp,∃o,h.get? b=some o/\∀v,o.data≠ .cell v
 keep:∀i h h',tn i h->(∀b∈fp,∀o,h.get? b=some o->h'.get? b=some o)->tn i h'
 item:∀(X:Cx),X.prog=P->X.w=w->X.K=K->X.calm=true->∀(i:Nat)(pins:List (Addr×Obj))(s:af)(O:St)(H:Hp)(E:Value->af->Prop),Inv X pins O H s->(∀b∈fp,jZ X pins H b)->tn i s.heap->J.go i H->wpAny (model P w) X.A (pyNext (.ref it)) (λr s1=>∃u,r=some u/\wpAny (model P w) X.A (letOwnedTupleGo tg (.ref it) u) (λ_ s2=>∃x H',Inv X pins O H' s2/\RelV x u/\J.je i H x H'/\tn (i+1) s2.heap/\∀b∈fp,H' b=none) E s1) E s
 done:∀(X:Cx),X.prog=P->X.w=w->X.K=K->X.calm=true->∀(i:Nat)(pins:List (Addr×Obj))(s:af)(O:St)(H:Hp)(E:Value->af->Prop),Inv X pins O H s->(∀b∈fp,jZ X pins H b)->tn i s.heap->J.stop i H->wpAny (model P w) X.A (pyNext (.ref it)) (λr s1=>r=none/\Inv X pins O H s1) E s
 self:∀(A:ai)(i:Nat)(s:af)(Q:Value->af->Prop)(E:Value->af->Prop),tn i s.heap->Q (.ref it) s->wpAny (model P w) A (pyIter (.ref it)) Q E s
abbrev TI:=St->Hp->(It->Hp->Prop)->Prop
def K3(X:Cx)(pins:List (Addr×Obj))(O:St)(tg:Expr)(R:It->Hp->Prop)(zP:Value)(s2:af):Prop:=∃(it:Addr)(fp:List Addr)(tn:Nat->Heap->Prop)(J:It)(H':Hp),zP= .ref it/\Inv X pins O H' s2/\Turn X.prog X.w X.K tg J fp it tn/\tn 0 s2.heap/\(∀b∈fp,jZ X pins H' b)/\R J H'
def PI(X:Cx)(tg iter:Expr)(wi:TI):Prop:=∀(pins:List (Addr×Obj))(s:af)(O:St)(H:Hp)(R:It->Hp->Prop),Inv X pins O H s->wi O H R->wpAny (model X.prog X.w) X.A (eval iter X.env) (λv s1=>wpAny (model X.prog X.w) X.A (pyIter v) (K3 X pins O tg R) X.xe s1) X.xe s
theorem A8{M:Model}{A:ai}{E:Value->af->Prop}{s:af}{tg:Expr}{it:Addr}{u:Value}{o:Obj}{n:String}{vs:Array Value}{Q:Unit->af->Prop}(ho:s.heap.get? it=some o)(hc:o.cls= .type n)(hd:o.data= .fields vs) (hn:["enumerate","zip","dict_itemiterator","dict_reverseitemiterator","odict_iterator","itertools.zip_longest","itertools.pairwise"].contains n=false)(hQ:Q () s):wpAny M A (letOwnedTupleGo tg (.ref it) u) Q E s:=by unfold letOwnedTupleGo;cases tg<;>first |erw[cf hQ] |(cases u<;>first
        |erw[cf hQ]
        | (erw[aJ (wpAny_load ho ?_)]
           rw[hc,hd];show wpAny M A (if(["enumerate","zip","dict_itemiterator","dict_reverseitemiterator","odict_iterator","itertools.zip_longest","itertools.pairwise"].contains n&&vs[0]? ==some (rawInt _))=true then _ else _) Q E s;rw[bc (by intro h;rw[hn,jE]at h;cases h)];erw[cf hQ]))
def tT(K:aa)(a:Addr):It:=#[λi H=>∃xs x,aD K H a xs/\xs[i]? =some x,λi H x H'=>H'=H/\∀xs,aD K H a xs->xs[i]? =some x,λi H=>∃xs,aD K H a xs/\xs.length<=i]
def tS(K:aa)(a:Addr):It:=#[λi H=>∃xs x,aU K H a xs/\xs[i]? =some x,λi H x H'=>H'=H/\∀xs,aU K H a xs->xs[i]? =some x,λi H=>∃xs,aU K H a xs/\xs.length<=i]
def qX(lo:Int)(n:Nat):It:=#[λi _=>i<n,λi H x H'=>H'=H/\x= .int (lo+i),λi _=>n<=i]
theorem Yb{P:ag}{w:World}{K:aa}{tg:Expr}(a it:Addr):Turn P w K tg (tT K a) [it] it (λi h=>h.IsListIter it a i) where
 mem:=by simp
 obj:=λi h st b hb=>by
  have e:b=it:=by simpa using hb
  subst e;let(o,e,c,d):=st;erw[o,e,λv z=>by rw[d]at z;cases z]
 keep:=λi h h' st k=>st.at λo e=>k it (by simp) o e
 item:=by intro X hP hw hK hc i pins s O H E I hf st hg;subst hP hw hK;let(xs,x,hq,hx):=hg;let(its,rv,p,hz):=I.list hq;let(u,hu,ru):=rv.get hx;let(f0,f1,f2,f3,f4,f5):=hf it (by simp);erw[wpAny_pyNext_list_item st p.isList (x:=u) (by simpa using hu) λh' iX sb=>?_];have I1:Inv X pins O H {s with heap:=h'}:=I.turned (t':=s.toks) (λb o hb e=>(sb.2 b hb).trans e) f0 f1 f3 f4 f5;let(o,e,c,d):=id iX;erw[u,Z,A8 (s:={s with heap:=h'}) e c d aw #[x,H,I1,ru,#[Z,λys hy=>by rw[I.T4 hy hq];erw[hx]],iX,λb hb=>(hf b hb).1]]
 done:=by intro X hP hw hK hc i pins s O H E I hf st hg;subst hP hw hK;let(xs,hq,hx):=hg;let(its,rv,p,hz):=I.list hq;let(f0,f1,f2,f3,f4,f5):=hf it (by simp);have hl:=rv.length;erw[wpAny_pyNext_list_end (I.ok.hd hc) st p.isList (by simp;lia) λh' eb=>#[Z,I.turned (t':=s.toks) (λb o hb e=>eb b o hb e) f0 f1 f3 f4 f5]]
 self:=λ_ _ _ _ _ st h=>wpAny_pyIter_listiter st h
theorem Y7{P:ag}{w:World}{K:aa}{tg:Expr}(a it:Addr):Turn P w K tg (tS K a) [it] it (λi h=>h.IsTupleIter it a i) where
 mem:=by simp
 obj:=λi h st b hb=>by
  have e:b=it:=by simpa using hb
  subst e;let(o,e,c,d):=st;erw[o,e,λv z=>by rw[d]at z;cases z]
 keep:=λi h h' st k=>st.at λo e=>k it (by simp) o e
 item:=by intro X hP hw hK hc i pins s O H E I hf st hg;subst hP hw hK;let(xs,x,hq,hx):=hg;let(its,rv,p,hz):=I.tuple hq;let(u,hu,ru):=rv.get hx;let(f0,f1,f2,f3,f4,f5):=hf it (by simp);erw[wpAny_pyNext_tuple_item st (show s.heap.IsTuple a its.toArray from p) (x:=u) (by simpa using hu) λh' iX sb=>?_];have I1:Inv X pins O H {s with heap:=h'}:=I.turned (t':=s.toks) (λb o hb e=>(sb.2 b hb).trans e) f0 f1 f3 f4 f5;let(o,e,c,d):=id iX;erw[u,Z,A8 (s:={s with heap:=h'}) e c d aw #[x,H,I1,ru,#[Z,λys hy=>by rw[I.L3 hy hq];erw[hx]],iX,λb hb=>(hf b hb).1]]
 done:=by intro X hP hw hK hc i pins s O H E I hf st hg;subst hP hw hK;let(xs,hq,hx):=hg;let(its,rv,p,hz):=I.tuple hq;let(f0,f1,f2,f3,f4,f5):=hf it (by simp);have hl:=rv.length;erw[wpAny_pyNext_tuple_end (I.ok.hd hc) st (show s.heap.IsTuple a its.toArray from p) (by simp;lia) λh' eb=>#[Z,I.turned (t':=s.toks) (λb o hb e=>eb b o hb e) f0 f1 f3 f4 f5]]
 self:=λ_ _ _ _ _ st h=>wpAny_pyIter_tupleiter st h
theorem Ya{P:ag}{w:World}{K:aa}{tg:Expr}(it:Addr)(lo:Int)(n:Nat):Turn P w K tg (qX lo n) [it] it (λi h=>IsRangeIter h it (lo+(i:Nat)*1) ((n:Int)-(i:Nat)) 1) where
 mem:=by simp
 obj:=λi h st b hb=>by
  have e:b=it:=by simpa using hb
  subst e;erw[_,st,λv z=>by have z':Data.fields _=Data.cell v:=z;cases z']
 keep:=λi h h' st k=>k it (by simp) _ st
 item:=by intro X hP hw hK hc i pins s O H E I hf st hg;subst hP hw hK;let(f0,f1,f2,f3,f4,f5):=hf it (by simp);have W:=Walks.range (prog:=X.prog) (w:=X.w) (I.ok.hd hc) it lo 1 n;erw[W.item i s _ _ hg st λv h' tk hv iX kk=>?_];let(t,rfl):=hv;have I1:Inv X pins O H {s with heap:=h',toks:=tk}:=I.turned (λb o hb e=>kk b o (by simpa using hb) e) f0 f1 f3 f4 f5;erw[_,Z,A8 (s:={s with heap:=h',toks:=tk}) (n:="range_iterator") iX rfl rfl aw #[.int (lo+i),H,I1,#[t,?_],#[Z,Z],iX,λb hb=>(hf b hb).1]];rw[ua]
 done:=by intro X hP hw hK hc i pins s O H E I hf st hg;subst hP hw hK;let(f0,f1,f2,f3,f4,f5):=hf it (by simp);erw[wpAny_pyNext_range_end (I.ok.hd hc) st (by have:n<=i:=hg;lia) λh' eb=>#[Z,I.turned (t':=s.toks) (λb o hb e=>eb b o hb e) f0 f1 f3 f4 f5]]
 self:=λ_ _ _ _ _ st h=>WL st h
section
variable {X:Cx} {tg:Expr}
inductive af0(K:aa)(R:It->Hp->Prop)(x:V)(H1:Hp):Prop |mk (a:_)(h0:x= .ref a)(h1:(∃xs,aD K H1 a xs))(h2:R (tT K a) H1)
def TU(K:aa)(tl:TE):TI:=λO H R=>tl O H λx H1=>af0 K R x H1
inductive aeV(K:aa)(R:It->Hp->Prop)(x:V)(H1:Hp):Prop |mk (a:_)(h0:x= .ref a)(h1:(∃xs,aU K H1 a xs))(h2:R (tS K a) H1)
def TR(K:aa)(tl:TE):TI:=λO H R=>tl O H λx H1=>aeV K R x H1
theorem a2s{l:Expr}(hl:PE X l tl):PI X tg l (TU X.K tl):=by
 intro pins s O H R I h;erw[aZ (hl pins s O H _ I h) λv s1 #[x,H1,I1,r1,q1]=>?_];let(a,e,(xs,hq),q):=q1;subst e;cases r1;let(its,rv,p,hz):=I1.list hq;erw[B7 p.isList ?_];erw[s1.heap.objs.size,[s1.heap.objs.size],_,_,H1,Z,I1.kept (t':=s1.toks) λb o e=>cF _ e,Yb a _,#[_,eJ _ Z,Z,Z],λb hb=>?_,q];have e:b=s1.heap.objs.size:=by simpa using hb
 subst e;erw[I1.qG (aV _) (I1.bS.fresh (aV _))]
theorem a2r{l:Expr}(hl:PE X l tl):PI X tg l (TR X.K tl):=by
 intro pins s O H R I h;erw[aZ (hl pins s O H _ I h) λv s1 #[x,H1,I1,r1,q1]=>?_];let(a,e,(xs,hq),q):=q1;subst e;cases r1;let(its,rv,p,hz):=I1.tuple hq;erw[wpAny_pyIter_tuple (show s1.heap.IsTuple a its.toArray from p) ?_];erw[s1.heap.objs.size,[s1.heap.objs.size],_,_,H1,Z,I1.kept (t':=s1.toks) λb o e=>cF _ e,Y7 a _,#[_,eJ _ Z,Z,Z],λb hb=>?_,q];have e:b=s1.heap.objs.size:=by simpa using hb
 subst e;erw[I1.qG (aV _) (I1.bS.fresh (aV _))]
theorem Qx{pins:List (Addr×Obj)}{O:St}{H:Hp}{s:af}{R:It->Hp->Prop}{E:Value->af->Prop}{lo hi:Int}{t u v:Tok}{tk:Nat}(I:Inv X pins O H s)(h1:-(2^62)<=lo)(h2:lo<2^62)(h3:-(2^62)<=hi)(h4:hi<2^62) (q:R (qX lo (hi-lo).toNat) H):wpAny (model X.prog X.w) X.A (pyIter (.ref s.heap.objs.size)) (K3 X pins O tg R) E {s with heap:=s.heap.push {cls:=.type "range",data:=.fields (List.toArray [.int lo t,.int hi u,.int 1 v])},toks:=tk}:=by
 erw[wpAny_pyIter_range (IsRange.new ..) (small_one h1 h2 h3 h4) ?_];have I1:Inv X pins O H {s with heap:=s.heap.push {cls:=.type "range",data:=.fields (List.toArray [.int lo t,.int hi u,.int 1 v])},toks:=tk}:=I.kept λb o e=>cF _ e;erw[(s.heap.push {cls:=.type "range",data:=.fields (List.toArray [.int lo t,.int hi u,.int 1 v])}).objs.size,[(s.heap.push {cls:=.type "range",data:=.fields (List.toArray [.int lo t,.int hi u,.int 1 v])}).objs.size],_,_,H,Z,I1.kept (t':=tk) λb o e=>cF _ e,Ya _ lo (hi-lo).toNat,?_,λb hb=>?_,q]
 ·have e1:lo+((0:Nat):Int)*1=lo:=by simp
  have e2:(((hi-lo).toNat:Nat):Int)-((0:Nat):Int)=Builtin.Range.rangeSize lo hi 1:=by rw[rangeSize_one];split<;>lia
  show IsRangeIter _ _ (lo+((0:Nat):Int)*1) ((((hi-lo).toNat:Nat):Int)-((0:Nat):Int)) 1;rw[e1,e2];erw[eJ _ rfl]
 ·have e:b=(s.heap.push {cls:=.type "range",data:=.fields (List.toArray [.int lo t,.int hi u,.int 1 v])}).objs.size:=by simpa using hb
  subst e;erw[I1.qG (aV _) (I1.bS.fresh (aV _))]
inductive aeY(R:It->Hp->Prop)(vs:List V)(H1:Hp):Prop |mk (j:Int)(h0:vs=[.int j])(h1:-(2^62)<=j)(h2:j<2^62)(h3:R (qX 0 j.toNat) H1)
def a6Q(ta:TA):TI:=λO H R=>ta O H λvs H1=>aeY R vs H1
inductive aeX(R:It->Hp->Prop)(vs:List V)(H1:Hp):Prop |mk (i:Int)(j:Int)(h0:vs=[.int i,.int j])(h1:(-(2^62)<=i/\i<2^62/\-(2^62)<=j/\j<2^62))(h2:R (qX i (j-i).toNat) H1)
def a6P(ta:TA):TI:=λO H R=>ta O H λvs H1=>aeX R vs H1
theorem sx(hg:Gl X "range")(hm:X.mg "range"=none)(ha:PA X [a] ta)(hs:autoParam (starEach [a] X.env=[(false,eval a X.env)]) r8_._auto_1):PI X tg (.Call (.Name "range" p) [a] [] pos) (a6Q ta):=by intro pins s O H R I h;erw[Call_ (qv I hg hm boot_range (yf (aZ (ha pos pins s O H _ I h) λus s1 #[vs,H1,I1,r1,q1]=>?_) hs Z))];let(j,e,q1,q2,q):=q1;subst e;cases r1 with |cons r rr=>cases rr;let(t,rfl):=r;erw[call_range_1 (Qx I1 ao ao q1 q2 (by simpa using q))]
theorem QP(hg:Gl X "range")(hm:X.mg "range"=none)(ha:PA X [a,b] ta)(hs:autoParam (starEach [a,b] X.env=[(false,eval a X.env),(false,eval b X.env)]) r8_._auto_1)(hV:autoParam (starEach [b] X.env=[(false,eval b X.env)]) r8_._auto_1): PI X tg (.Call (.Name "range" p) [a,b] [] pos) (a6P ta):=by intro pins s O H R I h;erw[Call_ (qv I hg hm boot_range (yf (aZ (ha pos pins s O H _ I h) λus s1 #[vs,H1,I1,r1,q1]=>?_) (by rw[hs,hV]) (by rw[hV];rfl)))];let(i,j,e,(q1,q2,q3,q4),q):=q1;subst e;cases r1 with |cons r rr=>cases rr with |cons r' rr=>cases rr;let(t,rfl):=r;let(t',rfl):=r';erw[call_range_2 (Qx I1 q1 q2 q3 q4 q)]
def YN(wi:TI)(g:TG)(tb:TS):TS:=λD O H=>wi O H λJ H1=>∃W:Nat->Nat->St->Hp->Prop,(∃m,W 0 m O H1)/\∀i m O H,W i m O H->(J.stop i H/\D.nx O H)\/(J.go i H/\∃N:St->Hp->Prop,(∀σ' H',N σ' H'->∃m',m'<m/\W (i+1) m' σ' H')/\∀x H',J.je i H x H'->g x O H' λσ2 H2=>tb {D with nx:=N,ct:=N,bk:=D.nx} σ2 H2)
def qc(fp:List Addr)(h:Heap):List (Addr×Obj):=fp.filterMap λb=>(h.get? b).map λo=>(b,o)
theorem oO(hb:b∈fp)(e:h.get? b=some o):(b,o)∈qc fp h:=Bk.mpr #[b,hb,by rw[e];rfl]
theorem a4n(hp:p∈qc fp h):p.1∈fp/\h.get? p.1=some p.2:=by let(b,hb,e):=Bk.mp hp;cases q:h.get? b with |none=>rw[q]at e;cases e |some o=>rw[q]at e;have e':(b,o)=p:=eW e;subst e';erw[hb,q]
theorem Inv.pinned{pins:List (Addr×Obj)}{O:St}{H:Hp}{s:af}{fp:List Addr}(I:Inv X pins O H s)(hf:∀b∈fp,jZ X pins H b)(ho:∀b∈fp,∃o,s.heap.get? b=some o/\∀v,o.data≠ .cell v):Inv X (pins++qc fp s.heap) O H s:=I.QM λp hp=>(gy.mp hp).elim (λz=>I.pin p (gS _ z)) λz=>by let(hb,e):=a4n z;let(f0,f1,f2,_):=hf p.1 hb;let(o,e',d):=ho p.1 hb;rw[e]at e';cases e';erw[e,f0,f1,f2,d]
theorem Inv.ui{pins pl:List (Addr×Obj)}{O:St}{H:Hp}{s:af}(I:Inv X (pins++pl) O H s):Inv X pins O H s:=I.QM λp hp=>I.pin p (gS _ (Xa _ hp))
theorem gW(hp:PassesOwn (model X.prog X.w) X.A X.env X.xe)(hc:X.calm=true)(hi:PI X tg iter wi)(hg:PG X tg g)(hb:iT X body tb) (hs:autoParam (∀x,foldedSetIterable iter X.env x=pure x) d8_._auto_1):PS X (.For tg iter body [] pos) (YN wi g tb):=by
 intro pins s O H D I h;erw[wpAny_For (aZ (hi pins s O H _ I h) λv s1 h1=>aZ h1 λzP s2 h2=>?_) hs];let(it,fp,tn,J,H2,e,I2,T,ow,f2,W,(m0,w0),turn):=h2;subst e;have ki:∀{H':Hp},(∀b∈fp,H' b=none)->∀b∈fp,jZ X pins H' b:=λhn b hb=>#[hn b hb,(f2 b hb).2];erw[codeAny_forLoop_any (λn s'=>∃i σ' H',Inv X pins σ' H' s'/\tn i s'.heap/\(∀b∈fp,H' b=none)/\W i n σ' H') ?_ m0 #[0,O,H2,I2,ow,λb hb=>(f2 b hb).1,w0]];rintro n s3 ⟨i,σ3,H3,I3,Lz,UM,w3⟩;rcases turn i n σ3 H3 w3 with⟨stop,qn⟩|⟨go,N,hN,step⟩
 ·erw[yb hp (aZ (T.done X Z Z Z hc i pins s3 σ3 H3 X.xe I3 (ki UM) Lz stop) λr s4 #[hr,I4]=>?_)]
  subst hr;erw[Kc #[σ3,H3,I4,qn]]
 ·erw[yb hp (aZ (T.item X Z Z Z hc i pins s3 σ3 H3 X.xe I3 (ki UM) Lz go) λr s4 #[u,hr,h4]=>?_)]
  subst hr;erw[yb hp (aZ h4 λ_ s5 #[x,H5,I5,r5,y5,mh,pk]=>?_)];have I5':=I5.pinned (ki pk) (T.obj _ _ mh);erw[yb hp (aZ (hg _ s5 σ3 H5 x u _ I5' r5 (step x H5 y5)) λ_ s6 #[σ6,H6,I6,q6]=>?_)];erw[yb hp (aZ (hb _ s6 σ6 H6 _ I6 q6) λf s7 q7=>?_)];have again:∀{σ7:St}{H7:Hp},Inv X (pins++qc fp s5.heap) σ7 H7 s7->N σ7 H7->∃m,m<n/\∃i σ' H',Inv X pins σ' H' s7/\tn i s7.heap/\(∀b∈fp,H' b=none)/\W i m σ' H':=λ{σ7 H7} I7 n7=>by let(m',hm,w7):=hN σ7 H7 n7;erw[m',hm,i+1,σ7,H7,I7.ui,T.keep _ _ _ mh λb hb o e=>(I7.pin (b,o) (gS _ (gS _ (oO hb e)))).1,λb hb=>?_,w7];let(o,e,d):=T.obj _ _ mh b hb;exact(I7.pin (b,o) (gS _ (gS _ (oO hb e)))).2.1
  cases f with |next=>let(σ7,H7,I7,n7):=q7;erw[again I7 n7] |cont=>let(σ7,H7,I7,n7):=q7;erw[again I7 n7] |brk=>let(σ7,H7,I7,q7):=q7;erw[σ7,H7,I7.ui,q7] |ret v=>let(x7,σ7,H7,I7,r7,q7):=q7;erw[x7,σ7,H7,I7.ui,r7,q7]
end
theorem UQ{K:aa}{a:Addr}{xs:List V}{g:TG}{tb:TS}{D:Ends}{O:St}{H:Hp}(Pv:Nat->St->Hp->Prop)(h0:Pv 0 O H)(hl:∀i O H,i<=xs.length->Pv i O H->aD K H a xs) (hs:∀i x O H,xs[i]? =some x->Pv i O H->g x O H λσ2 H2=>tb {D with nx:=Pv (i+1),ct:=Pv (i+1),bk:=D.nx} σ2 H2)(hd:∀O H,Pv xs.length O H->D.nx O H): ∃W:Nat->Nat->St->Hp->Prop,(∃m,W 0 m O H)/\∀i m O H,W i m O H->((tT K a).stop i H/\D.nx O H)\/((tT K a).go i H/\∃N:St->Hp->Prop,(∀σ' H',N σ' H'->∃m',m'<m/\W (i+1) m' σ' H')/\∀x H',(tT K a).je i H x H'->g x O H' λσ2 H2=>tb {D with nx:=N,ct:=N,bk:=D.nx} σ2 H2):=by
 erw[λi m O H=>m=xs.length-i/\i<=xs.length/\Pv i O H,#[xs.length,by simp,eX _,h0],?_];rintro i m O H ⟨rfl,hi,p⟩;have q:=hl i O H hi p;by_cases ck:i<xs.length
 ·erw[.inr #[#[xs,xs[i],q,by simp[ck]],Pv (i+1),λσ' H' p'=>#[xs.length-(i+1),ao,Z,ck,p'],λx H' y=>?_]]
  let(e,y):=y;subst e;erw[hs i x O _ (y xs q) p]
 ·have e:i=xs.length:=by lia
  subst e;erw[.inl #[#[xs,q,aV _],hd O H p]]
theorem IV{K:aa}{a:Addr}{xs:List V}{g:TG}{tb:TS}{D:Ends}{O:St}{H:Hp}(Pv:Nat->St->Hp->Prop)(h0:Pv 0 O H)(hl:∀i O H,i<=xs.length->Pv i O H->aU K H a xs) (hs:∀i x O H,xs[i]? =some x->Pv i O H->g x O H λσ2 H2=>tb {D with nx:=Pv (i+1),ct:=Pv (i+1),bk:=D.nx} σ2 H2)(hd:∀O H,Pv xs.length O H->D.nx O H): ∃W:Nat->Nat->St->Hp->Prop,(∃m,W 0 m O H)/\∀i m O H,W i m O H->((tS K a).stop i H/\D.nx O H)\/((tS K a).go i H/\∃N:St->Hp->Prop,(∀σ' H',N σ' H'->∃m',m'<m/\W (i+1) m' σ' H')/\∀x H',(tS K a).je i H x H'->g x O H' λσ2 H2=>tb {D with nx:=N,ct:=N,bk:=D.nx} σ2 H2):=by
 erw[λi m O H=>m=xs.length-i/\i<=xs.length/\Pv i O H,#[xs.length,by simp,eX _,h0],?_];rintro i m O H ⟨rfl,hi,p⟩;have q:=hl i O H hi p;by_cases ck:i<xs.length
 ·erw[.inr #[#[xs,xs[i],q,by simp[ck]],Pv (i+1),λσ' H' p'=>#[xs.length-(i+1),aL,Z,ck,p'],λx H' y=>?_]]
  let(e,y):=y;subst e;erw[hs i x O _ (y xs q) p]
 ·have e:i=xs.length:=by omega
  subst e;erw[.inl #[#[xs,q,aV _],hd O H p]]
theorem xC{lo:Int}{n:Nat}{g:TG}{tb:TS}{D:Ends}{O:St}{H:Hp}(Pv:Nat->St->Hp->Prop)(h0:Pv 0 O H) (hs:∀i O H,i<n->Pv i O H->g (.int (lo+i)) O H λσ2 H2=>tb {D with nx:=Pv (i+1),ct:=Pv (i+1),bk:=D.nx} σ2 H2)(hd:∀O H,Pv n O H->D.nx O H): ∃W:Nat->Nat->St->Hp->Prop,(∃m,W 0 m O H)/\∀i m O H,W i m O H->((qX lo n).stop i H/\D.nx O H)\/((qX lo n).go i H/\∃N:St->Hp->Prop,(∀σ' H',N σ' H'->∃m',m'<m/\W (i+1) m' σ' H')/\∀x H',(qX lo n).je i H x H'->g x O H' λσ2 H2=>tb {D with nx:=N,ct:=N,bk:=D.nx} σ2 H2):=by
 erw[λi m O H=>m=n-i/\i<=n/\Pv i O H,#[n,by simp,eX _,h0],?_];rintro i m O H ⟨rfl,hi,p⟩;by_cases ck:i<n
 ·erw[.inr #[ck,Pv (i+1),λσ' H' p'=>#[n-(i+1),ao,Z,ck,p'],λx H' y=>?_]]
  let(e,y):=y;subst e y;erw[hs i O _ ck p]
 ·have e:i=n:=by lia
  subst e;erw[.inl #[aV _,hd O H p]]
theorem uf{D:Ends}(Pv:St->Hp->Prop)(μ:St->Hp->Nat)(h0:Pv O H) (hs:∀O H,Pv O H->c O H λb H1=>if b=true then tb {D with nx:=λσ' H'=>Pv σ' H'/\μ σ' H'<μ O H,ct:=λσ' H'=>Pv σ' H'/\μ σ' H'<μ O H,bk:=D.nx} O H1 else D.nx O H1) (mono:∀O H Q Q',(∀b H1,Q b H1->Q' b H1)->c O H Q->c O H Q'):Lc c tb D O H:=by erw[λm O H=>m=μ O H/\Pv O H,#[_,Z,h0],?_];rintro m O H ⟨rfl,p⟩;erw[mono O H _ _ (λb H1 q=>?_) (hs O H p)];cases b with |true=>erw[_,λσ' H' #[p',l]=>#[_,l,Z,p'],q] |false=>erw[q]
abbrev R2:=V->V->Hp->VK->Prop
def cX(X:Cx)(f:Value->Value->Sem Value)(r:R2):Prop:=∀(pins:List (Addr×Obj))(s:af)(O:St)(H:Hp)(x y:V)(v u:Value)(Q:VK),Inv X pins O H s->RelV x v->RelV y u->r x y H Q->wpAny (model X.prog X.w) X.A (f v u) (EP X pins O Q) X.xe s
def JX(X:Cx)(f:Value->Sem Value)(r:V->Hp->VK->Prop):Prop:=∀(pins:List (Addr×Obj))(s:af)(O:St)(H:Hp)(x:V)(v:Value)(Q:VK),Inv X pins O H s->RelV x v->r x H Q->wpAny (model X.prog X.w) X.A (f v) (EP X pins O Q) X.xe s
def fw(X:Cx)(f:Value)(r:List V->Hp->VK->Prop):Prop:=∀(pins:List (Addr×Obj))(s:af)(O:St)(H:Hp)(xs:List V)(us:List Value)(Q:VK),Inv X pins O H s->Vals xs us->r xs H Q->wpAny (model X.prog X.w) X.A (call f us) (EP X pins O Q) X.xe s
def acA(X:Cx)(r:V->Hp->(Bool->Hp->Prop)->Prop):Prop:=∀(pins:List (Addr×Obj))(s:af)(O:St)(H:Hp)(x:V)(v:Value)(Q:Bool->Hp->Prop),Inv X pins O H s->RelV x v->r x H Q->wpAny (model X.prog X.w) X.A (truthy v) (TP X pins O Q) X.xe s
def yH(r:R2)(ta tb:TE):TE:=λO H Q=>ta O H λx H1=>tb O H1 λy H2=>r x y H2 Q
def Yv(r:V->Hp->VK->Prop)(ta:TE):TE:=λO H Q=>ta O H λx H1=>r x H1 Q
inductive IrI(C:Int->Int->Prop)(g:Int->Int->V)(x:V)(y:V)(H:Hp)(Q:VK):Prop |mk (i:_)(j:_)(h0:x= .int i)(h1:y= .int j)(h2:C i j)(h3:Q (g i j) H)
def rI(C:Int->Int->Prop)(g:Int->Int->V):R2:=λx y H Q=>IrI C g x y H Q
inductive aeJ(g:Int->Int->V)(x:V)(y:V)(H:Hp)(Q:VK):Prop |mk (i:_)(j:_)(h0:x= .int i)(h1:y= .int j)(h2:Q (g i j) H)
def kM(g:Int->Int->V):R2:=λx y H Q=>aeJ g x y H Q
inductive IrU(g:Int->V)(x:V)(H:Hp)(Q:VK):Prop |mk (i:_)(h0:x= .int i)(h1:Q (g i) H)
def rU(g:Int->V):V->Hp->VK->Prop:=λx H Q=>IrU g x H Q
section
variable {X:Cx}{a b c:Expr}{ta tb tc:TE}{pos:Pos}
theorem JK(ha:PE X a ta)(hb:PE X b tb){pins:List (Addr×Obj)}{s:af}{O:St}{H:Hp}{R:V->V->Hp->Prop}(I:Inv X pins O H s) (h:ta O H λx H1=>tb O H1 λy H2=>R x y H2){Q:Value->af->Prop}{f:Value->Value->Sem Value} (hf:∀v u s2 x y H2,Inv X pins O H2 s2->RelV x v->RelV y u->R x y H2->wpAny (model X.prog X.w) X.A (f v u) Q X.xe s2): wpAny (model X.prog X.w) X.A (eval a X.env) (λv s₁=>wpAny (model X.prog X.w) X.A (eval b X.env) (λu s₂=>wpAny (model X.prog X.w) X.A (f v u) Q X.xe s₂) X.xe s₁) X.xe s:=by erw[aZ (ha pins s O H _ I h) λv s1 #[x,H1,I1,r1,q1]=>?_];erw[aZ (hb pins s1 O H1 _ I1 q1) λu s2 #[y,H2,I2,r2,q2]=>?_];erw[hf v u s2 x y H2 I2 r1 r2 q2]
theorem aM(ho:cX X (binaryOp op) r)(ha:PE X a ta)(hb:PE X b tb):PE X (.BinOp a op b pos) (yH r ta tb):=by intro pins s O H Q I h;erw[wpAny_BinOp (JK ha hb I h λv u s2 x y H2 I2 rx ry q=>ho pins s2 O H2 x y v u Q I2 rx ry q)]
theorem jk(ho:JX X (unaryOp op) r)(ha:PE X a ta):PE X (.UnaryOp op a pos) (Yv r ta):=by intro pins s O H Q I h;erw[UnaryOp_ (aZ (ha pins s O H _ I h) λv s1 #[x,H1,I1,r1,q1]=>ho pins s1 O H1 x v Q I1 r1 q1)]
theorem zr{f:Value->Value->Sem Value}{C:Int->Int->Prop}{g:Int->Int->Int} (rule:∀(i j:Int)(t u:Tok)(s:af)(Q:Value->af->Prop)(E:Value->af->Prop),C i j->Q (.int (g i j) s.toks) {s with toks:=s.toks+1}->wpAny (model X.prog X.w) X.A (f (.int i t) (.int j u)) Q E s): cX X f (rI C λi j=>.int (g i j)):=by intro pins s O H x y v u Q I rx ry h;let(i,j,rfl,rfl,hc,q):=h;let(t,rfl):=rx;let(t',rfl):=ry;erw[rule i j t t' s _ _ hc #[.int (g i j),H,I.tok _,#[_,Z],q]]
theorem Rm{f:Value->Value->Sem Value}{g:Int->Int->Int} (rule:∀(i j:Int)(t u:Tok)(s:af)(Q:Value->af->Prop)(E:Value->af->Prop),Q (.int (g i j) s.toks) {s with toks:=s.toks+1}->wpAny (model X.prog X.w) X.A (f (.int i t) (.int j u)) Q E s): cX X f (kM λi j=>.int (g i j)):=by intro pins s O H x y v u Q I rx ry h;let(i,j,rfl,rfl,q):=h;let(t,rfl):=rx;let(t',rfl):=ry;erw[rule i j t t' s _ _ #[.int (g i j),H,I.tok _,#[_,Z],q]]
theorem wW{f:Value->Value->Sem Value}{g:Int->Int->Bool} (rule:∀(i j:Int)(t u:Tok)(s:af)(Q:Value->af->Prop)(E:Value->af->Prop),Q (.bool (g i j)) s->wpAny (model X.prog X.w) X.A (f (.int i t) (.int j u)) Q E s): cX X f (kM λi j=>.bl (g i j)):=by intro pins s O H x y v u Q I rx ry h;let(i,j,rfl,rfl,q):=h;let(t,rfl):=rx;let(t',rfl):=ry;erw[rule i j t t' s _ _ #[.bl (g i j),H,I,Z,q]]
def afo(i j:Int):Prop:=0<=j/\j<=1000000/\i.natAbs<2^64
theorem dR:cX X (binaryOp .Add) (kM λi j=>.int (i+j)):=Rm λ_ _ _ _ _ _ _ q=>add_int q
theorem j6:cX X (binaryOp .Sub) (kM λi j=>.int (i-j)):=Rm λ_ _ _ _ _ _ _ q=>sub_int q
theorem uI:cX X (binaryOp .Mod) (rI (λ_ j=>0<j) λi j=>.int (i%j)):=zr λi j _ _ _ _ _ hc q=>by have h1:(0:Int)<j:=hc;erw[mod_int' ao (by rw[Xl i ao];erw[q])]
theorem Gr:cX X (binaryOp .Pow) (rI afo λi j=>.int (i^j.toNat)):=zr λ_ _ _ _ _ _ _ hc q=>pow_int_small hc.1 hc.2.1 hc.2.2 q
theorem Y2{f:Value->Sem Value}{g:Int->Int} (rule:∀(i:Int)(t:Tok)(s:af)(Q:Value->af->Prop)(E:Value->af->Prop),Q (.int (g i) s.toks) {s with toks:=s.toks+1}->wpAny (model X.prog X.w) X.A (f (.int i t)) Q E s): JX X f (rU λi=>.int (g i)):=by intro pins s O H x v Q I rx h;let(i,rfl,q):=h;let(t,rfl):=rx;erw[rule i t s _ _ #[.int (g i),H,I.tok _,#[_,Z],q]]
theorem jf:JX X (unaryOp .USub) (rU λi=>.int (-i)):=Y2 λ_ _ _ _ _ q=>neg_int q
end
def Mf:V->V->Bool | .bu,.bu=>true| .bu,.int _=>true| .int _,.bu=>true| .bu,.bl _=>true| .bl _,.bu=>true| .bu,.str _=>true| .str _,.bu=>true | .int _,.int _=>true| .bl _,.bl _=>true| .str _,.str _=>true| .kZ _,.kZ _=>true | .int _,.str _=>true| .str _,.int _=>true| .bl _,.str _=>true| .str _,.bl _=>true |_,_=>false
def rEq:R2:=λx y H Q=>Mf x y=true/\Q (.bl (decide (x=y))) H
def rNe:R2:=λx y H Q=>Mf x y=true/\Q (.bl (!decide (x=y))) H
theorem Vy:decide (V.int i=V.int j)=(i==j):=by rw[kg];simp
theorem VA:decide (V.bl i=V.bl j)=(i==j):=by rw[kg];simp
theorem Vx:decide (V.str i=V.str j)=(i==j):=by rw[kg];simp
theorem Vz:decide (V.kZ i=V.kZ j)=(i.toList==j.toList):=by rw[kg];cases i;cases j;simp
section
variable {X:Cx}{a b c:Expr}{ta tb tc:TE}{pos:Pos}
theorem eP{pins:List (Addr×Obj)}{O:St}{H:Hp}{s:af}{Q:VK}{k k':Bool}(I:Inv X pins O H s)(q:Q (.bl k) H)(e:k=k'):EP X pins O Q (.bool k') s:=by subst e;erw[.bl k,H,I,Z,q]
theorem wV:cX X (compareOp .Eq) rEq:=by intro pins s O H x y v u Q I rx ry h;let(hs,q):=h;cases x with
 |bu=>cases rx;cases y with |bu=>cases ry;erw[PySem.EqNone.eq_none_none (eP I q (by simp))] |bl j=>cases ry;erw[PySem.EqNone.eq_none_bool (eP I q (by simp))] |int j=>let(t',rfl):=ry;erw[PySem.EqNone.eq_none_int (eP I q (by simp))] |str j=>let(t',rfl):=ry;erw[PySem.EqNone.eq_none_str (eP I q (by simp))] |_=>erw[absurd (show false=true from hs) eK]
 |bl i=>cases rx;cases y with |bu=>cases ry;erw[PySem.EqNone.eq_bool_none (eP I q (by simp))] |bl j=>cases ry;erw[eq_bool (eP I q VA)] |str j=>let(t',rfl):=ry;erw[PySem.EqMixed.eq_bool_str (eP I q (by simp))] |_=>erw[absurd (show false=true from hs) eK]
 |int i=>let(t,rfl):=rx;cases y with |bu=>cases ry;erw[PySem.EqNone.eq_int_none (eP I q (by simp))] |int j=>let(t',rfl):=ry;erw[eq_int (eP I q Vy)] |str j=>let(t',rfl):=ry;erw[PySem.EqMixed.eq_int_str (eP I q (by simp))] |_=>erw[absurd (show false=true from hs) eK]
 |str i=>let(t,rfl):=rx;cases y with |bu=>cases ry;erw[PySem.EqNone.eq_str_none (eP I q (by simp))] |bl j=>cases ry;erw[PySem.EqMixed.eq_str_bool (eP I q (by simp))] |int j=>let(t',rfl):=ry;erw[PySem.EqMixed.eq_str_int (eP I q (by simp))] |str j=>let(t',rfl):=ry;erw[eq_str (eP I q Vx)] |_=>erw[absurd (show false=true from hs) eK]
 |kZ i=>let(t,rfl):=rx;cases y with |kZ j=>let(t',rfl):=ry;erw[PySem.W.eq_bytes (eP I q Vz)] |_=>erw[absurd (show false=true from hs) eK]
 |_=>cases y<;>erw[absurd (show false=true from hs) eK]
theorem Gs:cX X (compareOp .NotEq) rNe:=by intro pins s O H x y v u Q I rx ry h;let(hs,q):=h;cases x with
 |bu=>cases rx;cases y with |bu=>cases ry;erw[PySem.EqNone.ne_none_none (eP I q (by simp))] |bl j=>cases ry;erw[PySem.EqNone.ne_none_bool (eP I q (by simp))] |int j=>let(t',rfl):=ry;erw[PySem.EqNone.ne_none_int (eP I q (by simp))] |str j=>let(t',rfl):=ry;erw[PySem.EqNone.ne_none_str (eP I q (by simp))] |_=>erw[absurd (show false=true from hs) eK]
 |bl i=>cases rx;cases y with |bu=>cases ry;erw[PySem.EqNone.ne_bool_none (eP I q (by simp))] |bl j=>cases ry;erw[ne_bool (eP I q (lC not VA))] |str j=>let(t',rfl):=ry;erw[PySem.EqMixed.ne_bool_str (eP I q (by simp))] |_=>erw[absurd (show false=true from hs) eK]
 |int i=>let(t,rfl):=rx;cases y with |bu=>cases ry;erw[PySem.EqNone.ne_int_none (eP I q (by simp))] |int j=>let(t',rfl):=ry;erw[ne_int (eP I q (lC not Vy))] |str j=>let(t',rfl):=ry;erw[PySem.EqMixed.ne_int_str (eP I q (by simp))] |_=>erw[absurd (show false=true from hs) eK]
 |str i=>let(t,rfl):=rx;cases y with |bu=>cases ry;erw[PySem.EqNone.ne_str_none (eP I q (by simp))] |bl j=>cases ry;erw[PySem.EqMixed.ne_str_bool (eP I q (by simp))] |int j=>let(t',rfl):=ry;erw[PySem.EqMixed.ne_str_int (eP I q (by simp))] |str j=>let(t',rfl):=ry;erw[ne_str (eP I q (lC not Vx))] |_=>erw[absurd (show false=true from hs) eK]
 |kZ i=>let(t,rfl):=rx;cases y with |kZ j=>let(t',rfl):=ry;erw[PySem.W.ne_bytes (eP I q (lC not Vz))] |_=>erw[absurd (show false=true from hs) eK]
 |_=>cases y<;>erw[absurd (show false=true from hs) eK]
theorem oF:cX X (compareOp .Lt) (kM λi j=>.bl (decide (i<j))):=wW λ_ _ _ _ _ _ _ q=>lt_int q
theorem zp:cX X (compareOp .LtE) (kM λi j=>.bl (decide (i<=j))):=wW λ_ _ _ _ _ _ _ q=>le_int q
theorem Ci:cX X (compareOp .Gt) (kM λi j=>.bl (decide (j<i))):=wW λ_ _ _ _ _ _ _ q=>gt_int q
theorem Cj:cX X (compareOp .GtE) (kM λi j=>.bl (decide (j<=i))):=wW λ_ _ _ _ _ _ _ q=>ge_int q
theorem a36:cX X (compareOp .In) (λx y H Q=>∃i j,x= .str i/\y= .str j/\Q (.bl (!(Builtin.Str.occurrences j i 0 j.length 1).isEmpty)) H):=by intro pins s O H x y v u Q I rx ry h;let(i,j,rfl,rfl,q):=h;let(t,rfl):=rx;let(t',rfl):=ry;erw[in_str (eP I q Z)]
theorem Ri:cX X (compareOp .Is) (λx y H Q=>y= .bu/\Q (.bl (decide (x= .bu))) H):=by intro pins s O H x y v u Q I rx ry h;let(rfl,q):=h;cases ry;erw[is_none_gen (eP I q ?_)];cases x<;>first |(cases rx;rfl) |(let(t,rfl):=rx;rfl)
theorem wU:cX X (compareOp .IsNot) (λx y H Q=>y= .bu/\Q (.bl (!decide (x= .bu))) H):=by intro pins s O H x y v u Q I rx ry h;let(rfl,q):=h;cases ry;erw[isnot_none_gen (eP I q ?_)];cases x<;>first |(cases rx;rfl) |(let(t,rfl):=rx;rfl)
theorem cX.or(h:cX X f r)(h':cX X f r'):cX X f (λx y H Q=>r x y H Q\/r' x y H Q):=by
 intro pins s O H x y v u Q I rx ry q;rcases q with q|q
 ·erw[h pins s O H x y v u Q I rx ry q]
 ·erw[h' pins s O H x y v u Q I rx ry q]
theorem bQ(b:Expr){op:CmpOp}(h:autoParam (op≠ .In) q8_._auto_1)(h2:autoParam (op≠ .NotIn) q8_._auto_1):behindInMarks op b=false:=by
 have e1:(op==CmpOp.In)=false:=by cases op<;>first|rfl|erw[absurd rfl h]
 have e2:(op==CmpOp.NotIn)=false:=by cases op<;>first|rfl|erw[absurd rfl h2]
 cases b<;>simp[behindInMarks,e1,e2]
theorem jl(ho:cX X (compareOp op) r)(ha:PE X a ta)(hb:PE X b tb)(hm:behindInMarks op b=false):PE X (.Compare a [op] [b] pos) (yH r ta tb):=by intro pins s O H Q I h;erw[wpAny_Compare1 (JK ha hb I h λv u s2 x y H2 I2 rx ry q=>ho pins s2 O H2 x y v u Q I2 rx ry q) hm]
inductive acL(Q:Bool->Hp->Prop)(x:V)(H':Hp):Prop |mk (k:_)(h0:x= .bl k)(h1:Q k H')
def Ld(t:TE):TT:=λO H Q=>t O H λx H'=>acL Q x H'
theorem bX(ho:cX X (compareOp op) r)(ha:PE X a ta)(hb:PE X b tb)(hm:behindInMarks op b=false):PT X (.Compare a [op] [b] pos) (Ld (yH r ta tb)):=by intro pins s O H Q I h;erw[wpAny_isTrue_Compare1 (aZ (ha pins s O H _ I h) λv s1 #[x,H1,I1,r1,q1]=>aZ (hb pins s1 O H1 _ I1 q1) λu s2 #[y,H2,I2,r2,q2]=>aZ (ho pins s2 O H2 x y v u _ I2 r1 r2 q2) λc s3 #[z,H3,I3,r3,k,e,q3]=>?_) hm];subst e;cases r3;erw[pJ #[H3,I3,q3]]
inductive acR(r':R2)(tc:TE)(O:St)(Q:VK)(y:V)(z:V)(H3:Hp):Prop |mk (k:_)(h0:z= .bl k)(h1:(if k=true then tc O H3 λw' H4=>r' y w' H4 Q else Q (.bl false) H3))
def Lk(r r':R2)(ta tb tc:TE):TE:=λO H Q=>ta O H λx H1=>tb O H1 λy H2=>r x y H2 λz H3=>acR r' tc O Q y z H3
theorem a2C(ho:cX X (compareOp op) r)(nC:cX X (compareOp uJ) r')(ha:PE X a ta)(hb:PE X b tb)(hc:PE X c tc) (hm:autoParam (lastMarks [op,uJ] [b,c]=false) f8_._auto_1):PE X (.Compare a [op,uJ] [b,c] pos) (Lk r r' ta tb tc):=by intro pins s O H Q I h;erw[Compare_chain (aZ (ha pins s O H _ I h) λv s1 #[x,H1,I1,r1,q1]=>chain_link (aZ (hb pins s1 O H1 _ I1 q1) λu s2 #[y,H2,I2,r2,q2]=>aZ (ho pins s2 O H2 x y v u _ I2 r1 r2 q2) λd s3 #[z,H3,I3,r3,k,e,q3]=>?_)) hm];subst e;cases r3;erw[pJ ?_];cases k with |false=>erw[ite_ff #[.bl false,H3,I3,Z,q3]] |true=>erw[ite_tt (chain_last (aZ (hc pins s3 O H3 _ I3 q3) λw' s4 #[z',H4,I4,r4,q4]=>nC pins s4 O H4 y z' u w' Q I4 r2 r4 q4))]
theorem a2b(ho:cX X (compareOp op) r)(nC:cX X (compareOp uJ) r')(ha:PE X a ta)(hb:PE X b tb)(hc:PE X c tc) (hm:autoParam (lastMarks [op,uJ] [b,c]=false) f8_._auto_1):PT X (.Compare a [op,uJ] [b,c] pos) (Ld (Lk r r' ta tb tc)):=by intro pins s O H Q I h;erw[isTrue_chain (aZ (ha pins s O H _ I h) λv s1 #[x,H1,I1,r1,q1]=>test_link (aZ (hb pins s1 O H1 _ I1 q1) λu s2 #[y,H2,I2,r2,q2]=>aZ (ho pins s2 O H2 x y v u _ I2 r1 r2 q2) λd s3 #[z,H3,I3,r3,k,e,q3]=>?_)) hm];subst e;cases r3;erw[pJ ?_];cases k with |false=>let(k',e',q'):=q3;cases e';erw[ite_ff #[H3,I3,q']] |true=>erw[ite_tt (test_last (aZ (hc pins s3 O H3 _ I3 q3) λw' s4 #[z',H4,I4,r4,q4]=>aZ (nC pins s4 O H4 y z' u w' _ I4 r2 r4 q4) λd' s5 #[z2,H5,I5,r5,k2,e2,q5]=>?_))];subst e2;cases r5;erw[pJ #[H5,I5,q5]]
def JY(K:aa)(x:V)(H:Hp)(k:Bool):Prop:=match x with | .bu=>k=false | .bl b=>k=b | .int i=>k=(i !=0) | .str y=>y.length<=sizeLine/\k=((y.length:Int) !=0) | .kZ y=>y.size<=sizeLine/\k=((y.size:Int) !=0) | .ref p=>(∃xs,aD K H p xs/\k= !xs.isEmpty)\/(∃xs,aU K H p xs/\k= !xs.isEmpty)\/∃eU,H p=some (.dK eU)/\k= !eU.isEmpty |_=>False
theorem a6u{eU:List (κ×V)}{vs:List (κ×Value)}(r:KV eU vs):(!vs.isEmpty)= !eU.isEmpty:=by cases r<;>rfl
theorem Tw(r:Vals xs its):(!its.toArray.isEmpty)= !xs.isEmpty:=by cases r<;>simp
theorem uW:(sizeLine:Nat)<2^63:=by rw[B9];decide
theorem Ye:acA X (λx H Q=>∃k,JY X.K x H k/\Q k H):=by intro pins s O H x v Q I rx h;let(k,e,q):=h;have hl:=uW;have hs:sizeLine=16777216:=B9;cases x with |bu=>cases rx;have e':k=false:=e;subst e';erw[truthy_none #[H,I,q]] |bl b=>cases rx;have e':k=b:=e;subst e';erw[pJ #[H,I,q]] |int i=>let(t,rfl):=rx;have e':k=(i !=0):=e;subst e';erw[PySem.P.truthy_int #[H,I,q]] |str y=>let(t,rfl):=rx;obtain⟨hy,e'⟩:y.length<=sizeLine/\k=((y.length:Int) !=0):=e;subst e';erw[PySem.P.truthy_str ao #[H,I.tok _,q]] |kZ y=>let(t,rfl):=rx;obtain⟨hy,e'⟩:y.size<=sizeLine/\k=((y.size:Int) !=0):=e;subst e';erw[PySem.W.truthy_bytes ao #[H,I.tok _,q]] |ref p=>
 cases rx;have e':(∃xs,aD X.K H p xs/\k= !xs.isEmpty)\/(∃xs,aU X.K H p xs/\k= !xs.isEmpty)\/∃eU,H p=some (.dK eU)/\k= !eU.isEmpty:=e;rcases e' with⟨xs,hx,e'⟩|⟨xs,hx,e'⟩|⟨eU,hx,e'⟩
 ·subst e'
  let(its,r,pl,hz):=I.list hx;have hlen:=r.length;erw[wpAny_truthy_list pl.isList (by simp only[eH];lia) #[H,I.tok _,by rw[Tw r];erw[q]]]
 ·subst e'
  let(its,r,pl,hz):=I.tuple hx;have hlen:=r.length;erw[truthy_tuple pl (by simp only[eH];lia) #[H,I.tok _,by rw[Tw r];erw[q]]]
 ·subst e'
  obtain⟨hz,hS,vs,r,m⟩:eU.length<=sizeLine/\(p==sysModules)=false/\∃vs,KV eU vs/\s.heap.DictOf (Hd X.prog X.w) p vs:=I.bS p _ hx;have hlen:eU.length=vs.length:=Paired.length r;erw[wpAny_truthy_dict hS m ao #[H,I.tok _,by rw[a6u r];erw[q]]] |_=>exact(show False from e).elim
theorem a29(ha:PE X a ta)(he:∀whole,isTrue a X.env whole=(do let v<-whole;standAt a.pos;holding [v] (truthy v))): PT X a (λO H Q=>ta O H λx H'=>∃k,JY X.K x H' k/\Q k H'):=by intro pins s O H Q I h;erw[isTrue_plain (aZ (ha pins s O H _ I h) λv s1 #[x,H1,I1,r1,q1]=>Ye pins s1 O H1 x v Q I1 r1 q1) (he _)]
theorem jn:cX X (binaryOp .Add) (λx y H Q=>∃i j,x= .str i/\y= .str j/\i.length+j.length<=sizeLine/\Q (.str (i++j)) H):=by intro pins s O H x y v u Q I rx ry h;let(i,j,rfl,rfl,hz,q):=h;let(t,rfl):=rx;let(t',rfl):=ry;erw[add_str (λt' tk=>#[.str (i++j),H,I.tok _,#[_,Z],q]) hz]
theorem vals1(r:Vals [x] us):∃u,us=[u]/\RelV x u:=by cases r with |cons r1 r2=>cases r2;erw[_,rfl,r1]
theorem vals2(r:Vals [x,y] us):∃u w',us=[u,w']/\RelV x u/\RelV y w':=by cases r with |cons r1 r2=>cases r2 with |cons r3 r4=>cases r4;erw[_,_,rfl,r1,r3]
theorem tK:fw X (.builtin "abs") (λxs H Q=>∃i,xs=[.int i]/\Q (.int (if i<0 then-i else i)) H):=by intro pins s O H xs us Q I r h;let(i,rfl,q):=h;let(u,rfl,t,rfl):=vals1 r;erw[call_abs_int λu tk=>#[.int (if i<0 then-i else i),H,I.tok _,#[_,Z],q]]
theorem VW(hc:X.calm=true):fw X (.builtin "max") (λxs H Q=>∃i j,xs=[.int i,.int j]/\Q (.int (if j>i then j else i)) H):=by
 intro pins s O H xs us Q I r h;let(i,j,rfl,q):=h;let(u,w',rfl,(t,rfl),(t',rfl)):=vals2 r;erw[max_two_ints (I.ok.hd hc) λh' tk k=>#[_,H,I.kept k,?_,q]];by_cases hj:j>i
 ·rw[ba hj,ba hj];erw[_,Z]
 ·rw[bc hj,bc hj];erw[_,Z]
theorem JF(hc:X.calm=true):fw X (.builtin "min") (λxs H Q=>∃i j,xs=[.int i,.int j]/\Q (.int (if j<i then j else i)) H):=by
 intro pins s O H xs us Q I r h;let(i,j,rfl,q):=h;let(u,w',rfl,(t,rfl),(t',rfl)):=vals2 r;erw[min_two_ints (I.ok.hd hc) λh' tk k=>#[_,H,I.kept k,?_,q]];by_cases hj:j<i
 ·rw[ba hj,ba hj];erw[_,Z]
 ·rw[bc hj,bc hj];erw[_,Z]
theorem abL:fw X (.type "int") (λxs H Q=>(∃i,xs=[.int i]/\Q (.int i) H)\/∃k,xs=[.bl k]/\Q (.int (if k then 1 else 0)) H):=by
 intro pins s O H xs us Q I r h;rcases h with⟨i,rfl,q⟩|⟨k,rfl,q⟩
 ·let(u,rfl,t,rfl):=vals1 r
  erw[call_int_int #[.int i,H,I,#[_,Z],q]]
 ·let(u,rfl,r1):=vals1 r
  cases r1;erw[call_int_bool #[.int (if k then 1 else 0),H,I.tok _,#[_,Z],q]]
end
structure vT(h:Heap)(x dx C:Addr)(mA:cm):Prop where
 obj:h.get? x=some (PySem.W.instObj C dx)
 ns:h.Ns1 dx mA
 ne:dx≠x
theorem a5U{h:Heap}{dx:Addr}{mA:cm}(n:h.Ns1 dx mA):∃od,h.get? dx=some od/\∀name,PySem.W.lookIn name od=some (mA name):=by
 let(o,es,ep,ho,hd,hk,_,hm):=n;erw[o,ho,λname=>?_];have e:=hm name;unfold nsFind findBy at e;rw[<-Array.find?_toList]at e;unfold PySem.W.lookIn;rw[hd];dsimp only;split
 ·rename_i y q
  rw[q]at e;erw[lC some e]
 ·rename_i q
  rw[q]at e;have a:es.toList.any (·.refKey)=false:=by rw[List.any_eq_false];intro y hy;let(z,t,a7w):=hk y (Array.mem_toList_iff.mp hy);simp[DictEntry.refKey,a7w]
  have a':¬es.toList.any (·.refKey)=true:=by rw[a];erw[eK]
  rw[bc a'];erw[lC some e]
theorem vT.look{C:Addr}(I:vT h x dx C mA):∃od,PySem.W.InstAt h x (PySem.W.instObj C dx) C (some od)/\∀name,PySem.W.lookIn name od=some (mA name):=let#[od,ho,hl]:=a5U I.ns
 #[od,#[I.obj,Z,Z,ho],hl]
section
variable {prog:ag}{w:World}{A:ai}{E:Value->af->Prop}{s:af}{K:aa}{x dx C f:Addr}{mA:cm}{name:Str}{v:Value}
theorem get_map{expr:Bool}{Q:Value->af->Prop}(X:K.In s.heap)(I:vT s.heap x dx C mA)(hg:PySem.W.plainGet K C name=true)(hh:PySem.W.hasDictIn K C=true) (ha:PySem.W.findIn K (.ref C) name=some none)(hv:mA name=some v)(hv':PySem.W.handedIn v=true)(h:Q v {s with toks:=s.toks+1}): wpAny (model prog w) A (getAttr (.ref x) name expr) Q E s:=by let(od,J,hl):=I.look;erw[PySem.W.get_value X J (WV hg).1 (PySem.W.findObj_own hh ha Z (by rw[hl,hv])) hv' h]
theorem a8E{pl:Sem Bool}{Q:Value×List Value->af->Prop}(X:K.In s.heap)(I:vT s.heap x dx C mA)(hg:PySem.W.plainGet K C name=true) (hf:PySem.W.findIn K (.ref C) name=some (some (.ref f)))(ht:PySem.W.isFn K (.ref f)=true)(hv:mA name=none)(h:Q (.ref f,[.ref x]) s): wpAny (model prog w) A (getMethod (.ref x) name pl) Q E s:=by let(od,J,hl):=I.look;erw[PySem.W.method_fn X J (WV hg).1 (WV hg).2 hf (fK.mp ht) (by show(PySem.W.lookIn name od).map (·.isSome)=some false;rw[hl,hv];rfl) h]
theorem a0t{ns:List Str}{Q:Unit->af->Prop}(X:K.In s.heap)(I:vT s.heap x dx C mA) (hs:PySem.W.findIn K (.ref C) "__setattr__"=some (some (.builtin "object.__setattr__")))(hp:PySem.W.plainOver K C=true)(ht:PySem.W.takerIn K C name=some none)(hh:PySem.W.hasDictIn K C=true) (hw:PySem.Within mA ns)(hsz:ns.length<=sizeLine) (h:∀h',vT h' x dx C (λy=>if y=name then some v else mA y)->Heap.SameBut dx s.heap h'->Q () {s with heap:=h',toks:=s.toks+2}): wpAny (model prog w) A (setAttr (.ref x) name v) Q E s:=by let(od,J,hl):=I.look;erw[PySem.W.set_plain X J hs (PySem.W.osa_open (s:={s with toks:=s.toks+1}) (r:=none) X J hp ht λb=>?_)];let(cd,hc,ID):=PySem.W.any_some hh;have hx:s.heap.get? x=some #[.ref C,some dx,.plain,#[]]:=I.obj;erw[aJ (cf (aJ (aJ (wpAny_loadPart hx (aJ (PySem.W.Looks.here (s:={s with toks:=s.toks+1}) (PySem.W.looks_clsIn X hc) ?_))))))];rw[ID];erw[cf (a:=some dx) (aJ (cf (aJ ?_)))];erw[wpAny_nsSet1 (s:={s with toks:=s.toks+1}) I.ns λh' p4 hV=>?_];let(oD,esD,epD,hoD,hdD,hcD):=p4.count (PySem.Within.cons name v hw);erw[aJ (wpAny_lookBehind hoD (by rw[hdD];erw[pastItsLine_dict (iG hcD (by rw[gz];lia))]) ?_)];erw[cf (h _ #[(hV.2 _ (kG I.ne)).trans I.obj,p4,I.ne] hV)]
theorem a5p{R:Result->af->Prop}{vs:List Value}{kw:List (Str×Value)}(X:K.In s.heap)(hm:PySem.W.makesIn K C=true) (hi:PySem.W.findIn K (.ref C) "__init__"=some (some (.ref f)))(hf:PySem.W.typeIn K (.ref f)=some (.type "function")) (h:codeAny (model prog w) (A.under (.builtin "type.__call__" #[.ref C::vs,kw])) (.call (.ref f) #[.ref (s.heap.objs.size+1)::vs,kw]) (PySem.W.InitBack (s.heap.objs.size+1) R) {s with heap:=(s.heap.push PySem.W.emptyDict).push (PySem.W.instObj C s.heap.objs.size)}): codeAny (model prog w) A (.call (.ref C) #[vs,kw]) R s:=by let(hh,g,d,t,os):=s;erw[PySem.W.make_core (PySem.W.makes_of X hm) (PySem.W.looks_findIn X hi) (λself=>PySem.W.bind_fn X self hf) (.inl Z) h]
end
def ji(f:Str)(v:V):List (Str×V)->List (Str×V) |[]=>[(f,v)] |(g,x)::r=>if g=f then(g,v)::r else(g,x)::ji f v r
theorem SU(f g:Str)(v:V):∀fs:List (Str×V),(ji f v fs).lookup g=if g=f then some v else fs.lookup g
 |[]=>by
  show List.lookup g [(f,v)]=_;by_cases h:g=f
  ·have hb:(g==f)=true:=fK.mpr h
   simp only[List.lookup,hb,ba h]
  ·have hb:(g==f)=false:=Kf.mpr h
   simp only[List.lookup,hb,bc h] |(k,x)::r=>by
  have ih:=SU f g v r;rw[show ji f v ((k,x)::r)=(if k=f then(k,v)::r else(k,x)::ji f v r)from rfl];by_cases hk:k=f
  ·rw[ba hk]
   by_cases h:g=k
   ·have hb:(g==k)=true:=fK.mpr h
    simp only[List.lookup,hb,ba (h.trans hk)]
   ·have hb:(g==k)=false:=Kf.mpr h
    simp only[List.lookup,hb,bc (λe:g=f=>h (e.trans hk.symm))]
  ·rw[bc hk]
   by_cases h:g=k
   ·have hb:(g==k)=true:=fK.mpr h
    simp only[List.lookup,hb,bc (λe:g=f=>hk (h.symm.trans e))]
   ·have hb:(g==k)=false:=Kf.mpr h
    simp only[List.lookup,hb];erw[ih]
theorem HH(f:Str)(v:V):∀fs:List (Str×V),f∈(ji f v fs).map (·.1)/\∀g,g∈fs.map (·.1)->g∈(ji f v fs).map (·.1)
 |[]=>#[by simp[ji],λg h=>by simp at h] |(k,x)::r=>by
  let(i1,i2):=HH f v r;rw[show ji f v ((k,x)::r)=(if k=f then(k,v)::r else(k,x)::ji f v r)from rfl];by_cases hk:k=f
  ·rw[ba hk]
   subst hk;erw[by simp,λg h=>by simpa using h]
  ·rw[bc hk]
   erw[?_,λg h=>?_]
   ·rw[rE]
    erw[yi _ i1]
   ·rw[rE]at h⊢
    rcases cM.mp h with e|e
    ·erw[cM.mpr (.inl e)]
    ·erw[yi _ (i2 g e)]
theorem Tb(f:Str)(v:V):∀fs:List (Str×V),(ji f v fs).length<=fs.length+1
 |[]=>by simp[ji] |(k,x)::r=>by
  have ih:=Tb f v r;rw[show ji f v ((k,x)::r)=(if k=f then(k,v)::r else(k,x)::ji f v r)from rfl];by_cases hk:k=f
  ·rw[ba hk,gz,gz];lia
  ·rw[bc hk,gz,gz];lia
theorem pI.some_of{v:V}(r:pI (some v) o):∃u,o=some u/\RelV v u:=by cases o with |none=>exact(show False from r).elim |some u=>erw[u,Z,r]
theorem pI.none_of(r:pI none o):o=none:=by cases o with |none=>rfl |some u=>exact(show False from r).elim
theorem a8d{v:V}(r:RelV v u):PySem.W.handedIn u=true:=by cases v with |bu=>cases(show u=Value.none from r);rfl |bl b=>cases(show u=Value.bool b from r);rfl |int i=>let(t,e):=(show∃t,u=Value.int i t from r);cases e;rfl |str x=>let(t,e):=(show∃t,u=Value.str x t from r);cases e;rfl |kZ b=>let(t,e):=(show∃t,u=Value.bytes b t from r);cases e;rfl |Dy b=>let(t,e):=(show∃t,u=Value.float b t from r);cases e;rfl |ref a=>cases(show u=Value.ref a from r);rfl |ty n=>cases(show u=Value.type n from r);rfl
section
variable {P:ag}{w:World}{H H':Hp}{h h':Heap}{a C dx:Addr}{fs p9:List (Str×V)}
theorem Ic(bS:fH P w H h)(e:H a=some (.ins C dx fs)):∃mA,vT h a dx C mA/\(∀f,pI (fs.lookup f) (mA f))/\PySem.Within mA (fs.map (·.1))/\fs.length<=1000/\H dx=some (.own a):=by let(d,z,ne,ob,mA,n,r,q):=(show jX P w H h a (.ins C dx fs)from bS a _ e);erw[mA,#[ob,n,ne],r,q,z,d]
end
structure ka(K:aa)(C:Addr):Prop where
 pg:PySem.W.plainGet K C Str.empty=true
 hd:PySem.W.hasDictIn K C=true
 po:PySem.W.plainOver K C=true
 sa:PySem.W.findIn K (.ref C) "__setattr__"=some (some (.builtin "object.__setattr__"))
theorem ka.get{K:aa}{C:Addr}(c:ka K C)(f:Str):PySem.W.plainGet K C f=true:=c.pg
def iU(K:aa)(C:Addr)(f:Str):Prop:=PySem.W.findIn K (.ref C) f=some none
theorem iU.Yu{K:aa}{C:Addr}(n:iU K C f):PySem.W.takerIn K C f=some none:=by unfold PySem.W.takerIn;rw[show PySem.W.findIn K (.ref C) f=some none from n];rfl
structure Meth(K:aa)(C:Addr)(m:Str)(f:Addr):Prop where
 at_:PySem.W.findIn K (.ref C) m=some (some (.ref f))
 fn:PySem.W.isFn K (.ref f)=true
 kp:PySem.W.keepIn K (.ref f)=true
section
variable {X:Cx}{pins:List (Addr×Obj)}{O:St}{H:Hp}{s:af}{a C dx:Addr}{fs:List (Str×V)}{f:Str}{v:V}{A:ai}{E:Value->af->Prop}
theorem UB{b:Bool}{Q:Value->af->Prop}(I:Inv X pins O H s)(e:H a=some (.ins C dx fs))(c:ka X.K C)(n:iU X.K C f)(l:fs.lookup f=some v) (h:∀u s',Inv X pins O H s'->RelV v u->Q u s'):wpAny (model X.prog X.w) A (getAttr (.ref a) f b) Q E s:=by let(mA,agK,r,_,_,_):=Ic I.bS e;let(u,hu,ru):=pI.some_of (v:=v) (o:=mA f) (by rw[<-l];erw[r f]);erw[get_map I.iO agK (c.get f) c.hd n hu (a8d ru) (h u _ (I.tok _) ru)]
theorem UA{pl:Sem Bool}{Q:Value×List Value->af->Prop}(I:Inv X pins O H s)(e:H a=some (.ins C dx fs))(c:ka X.K C)(k:Meth X.K C m g)(l:fs.lookup m=none) (h:Q (.ref g,[.ref a]) s):wpAny (model X.prog X.w) A (getMethod (.ref a) m pl) Q E s:=by let(mA,agK,r,_,_,_):=Ic I.bS e;have hn:mA m=none:=pI.none_of (by rw[<-l];erw[r m]);erw[a8E I.iO agK (c.get m) k.at_ k.fn hn h]
theorem Me{y:V}{u:Value}{Q:Unit->af->Prop}(I:Inv X pins O H s)(e:H a=some (.ins C dx fs))(c:ka X.K C)(n:iU X.K C f)(hl:fs.length<1000)(ry:RelV y u) (h:∀s',Inv X pins O (upd H a (.ins C dx (ji f y fs))) s'->Q () s'):wpAny (model X.prog X.w) A (setAttr (.ref a) f u) Q E s:=by
 let(mA,agK,r,wi,_,ho):=Ic I.bS e;have hz:(fs.map (·.1)).length<=sizeLine:=by rw[aW,B9];lia
 erw[a0t I.iO agK c.sa c.po n.Yu c.hd wi hz λh' O' sb=>h _ ?_];have hd:∃o,h'.get? dx=some o:=let#[o,_,_,e',_]:=O'.ns;#[o,e'];erw[I.write (x:=a) (e:=dx) (by rw[e];erw[True.intro]) (.inr ho) (λb q hb z=>(sb.2 b hb).trans z) hd ?_];erw[by rw[aY agK.ne];erw[ho],?_,agK.ne,O'.obj,_,O'.ns,λg=>?_,λg hg=>?_]
 ·have:=Tb f y fs;lia
 ·show pI ((ji f y fs).lookup g) (if g=f then some u else mA g)
  rw[SU];by_cases q:g=f
  ·rw[ba q,ba q];erw[ry]
  ·rw[bc q,bc q];erw[r g]
 ·by_cases q:g=f
  ·rw[q];exact(HH f y fs).1
  ·refine(HH f y fs).2 g (wi g λz=>hg ?_)
   show(if g=f then some u else mA g)=none;rw[bc q];erw[z]
theorem Inv.made(I:Inv X pins O H s):Inv X pins O (upd (upd H s.heap.objs.size (.own (s.heap.objs.size+1))) (s.heap.objs.size+1) (.ins C s.heap.objs.size [])) {s with heap:=(s.heap.push PySem.W.emptyDict).push (PySem.W.instObj C s.heap.objs.size)}:=by
 have e1:(s.heap.push PySem.W.emptyDict).get? s.heap.objs.size=some PySem.W.emptyDict:=eJ s.heap rfl;have e2:((s.heap.push PySem.W.emptyDict).push (PySem.W.instObj C s.heap.objs.size)).get? (s.heap.objs.size+1)=some (PySem.W.instObj C s.heap.objs.size):=by have:=eJ (s.heap.push PySem.W.emptyDict) (o:=PySem.W.instObj C s.heap.objs.size) rfl;rwa [pL]at this
 have e3:(s.heap.push PySem.W.emptyDict).Ns s.heap.objs.size (λ_=>none):=#[PySem.W.emptyDict,#[],_,e1,Z,(λe he=>absurd he (by simp)),λ_=>rfl];have I1:=I.laid (a:=s.heap.objs.size) (o:=.own (s.heap.objs.size+1)) (h':=s.heap.push PySem.W.emptyDict) (t':=s.toks) (λb u q=>cF _ q) (aV _) #[_,e1];erw[I1.laid (a:=s.heap.objs.size+1) (o:=.ins C s.heap.objs.size []) (t':=s.toks) (λb u q=>cF _ q) (Nat.le_of_eq (pL _ _)) ?_];have ne:s.heap.objs.size≠s.heap.objs.size+1:=eY (X6 _);erw[by rw[aY ne,bZ],eX _,ne,e2,λ_=>none,(Heap.Ns1.of_empty e3).at λo q=>cF _ q,λ_=>True.intro,λy hy=>absurd rfl hy]
theorem ac9{prog:ag}{w:World}{env:Env}{e:Expr}{f:Str}{pos:Pos}{s:af}{Q:Value->af->Prop}(hb:attributeBase e f env (eval e env)=eval e env) (h:wpAny (model prog w) A (eval e env) (λo s₁=>wpAny (model prog w) A (getAttr o f true) Q E s₁) E s):wpAny (model prog w) A (eval (.Attribute e f pos) env) Q E s:=Attribute_any_ h (by rw[arm_eval_Attribute,hb])
end
def aeS(X:Cx)(op:Operator)(rd:V->V->Hp->VK->Prop):Prop:=∀(pins:List (Addr×Obj))(s:af)(O:St)(H:Hp)(x y:V)(u v:Value)(Q:VK),Inv X pins O H s->RelV x u->RelV y v->rd x y H Q->wpAny (model X.prog X.w) X.A (inplaceOp op u v) (EP X pins O Q) X.xe s
section
variable {X:Cx}{o e value:Expr}{f:Str}{pos pos' pO:Pos}{ta tv:TE}
end
section
variable {X:Cx}{pins:List (Addr×Obj)}{O:St}{H:Hp}{s:af}{A:ai}{E:Value->af->Prop}{Q:Value->af->Prop}{c:Value}{b:Bool}
end
structure dP(k:Nat)(A:ai):Prop where
 hd:A.handled=none
 dp:A.depth+3*k+5<recursionLimit
 un:A.units+16*k+200<cLine
theorem dP.mono(r:dP k A)(h:j<=k):dP j A:=#[r.hd,by have:=r.dp;lia,by have:=r.un;lia]
theorem dP.deeper(r:dP (k+1) A)(env:Env):dP k (A.deeper env):=#[r.hd,by have:=r.dp;show A.depth+1+3*k+5<_;lia,by have:=r.un;show A.units+3+16*k+200<_;lia]
theorem a5q{A:ai}{C:Addr}{us:List Value}{kw:List (Str×Value)}:(A.under (.builtin "type.__call__" #[.ref C::us,kw])).depth=A.depth+1:=by first|rfl|simp[Around.under,Code.weight,Code.isCreation,Code.isGuard,Code.isCaller,Code.frames,Code.isFrame,guardIds]
theorem a5o{A:ai}{C:Addr}{us:List Value}{kw:List (Str×Value)}:(A.under (.builtin "type.__call__" #[.ref C::us,kw])).units=A.units+1:=by first|rfl|simp[Around.under,Code.cUnits,Code.frames,Code.isFrame]
theorem dP.make(r:dP (k+1) A)(C:Addr)(us:List Value)(kw:List (Str×Value)):dP k (A.under (.builtin "type.__call__" #[.ref C::us,kw])):=#[r.hd,by have:=r.dp;rw[a5q];omega,by have:=r.un;rw[a5o];omega]
theorem dP.depth(r:dP k A):A.depth<recursionLimit:=by have:=r.dp;lia
theorem dP.units(r:dP k A):A.units+64<cLine:=by have:=r.un;lia
def uk:TA:=λ_ H Q=>Q [] H
def yI(ta:TE)(tr:TA):TA:=λO H Q=>ta O H λx H1=>tr O H1 λxs H2=>Q (x::xs) H2
section
variable {X:Cx}{e:Expr}{es:List Expr}{te:TE}{t:TA}{pos:Pos}
theorem au:PA X [] uk:=λ_ _ _ _ H Q I h=>Calls.spliced_nil #[[],H,I,.nil,h]
theorem ak(ha:PE X e te)(hr:PA X es t)(hs:autoParam (starEach (e::es) X.env=(false,eval e X.env)::starEach es X.env) r8_._auto_1):PA X (e::es) (yI te t):=by intro pos pins s O H Q I h;rw[hs];show wpAny _ _ (spliced ((false,eval e X.env)::backTo pos (starEach es X.env))) _ _ s;erw[Calls.spliced_cons (aZ (ha pins s O H _ I h) λu s1 #[x,H1,I1,r1,q1]=>?_)];erw[aZ (hr pos pins s1 O H1 _ I1 q1) λus s2 #[xs,H2,I2,r2,q2]=>#[x::xs,H2,I2,.cons r1 r2,q2]]
end
abbrev Sp:=List V->Hp->VK->XK->Prop
abbrev kb:=List Env->Hp->af->XK->Value->af->Prop
structure vV(P:ag)(w:World)(K:aa)(mg:cm)(ay:Heap)(A:ai)(outer:List Env)(s:af)(H:Hp):Prop where
 frames:A.frames=some outer
 mod:Mod K mg ay
 bs:∀b o,ay.get? b=some o->s.heap.get? b=some o/\H b=none
 pE:ay.objs.size<=s.heap.objs.size
 lW:s.heap.FunFrames ay outer
 tf:∀b∈fZ outer,H b=none
 bS:fH P w H s.heap
 bare:AllBare s.gens
def CE(outer:List Env)(P:ag)(w:World)(H:Hp)(s:af)(Q:VK)(u:Value)(s':af):Prop:=∃v H',s'.os=s.os/\AllBare s'.gens/\Un (fZ outer) [] H H' s.heap s'.heap/\fH P w H' s'.heap/\RelV v u/\Q v H'
def CR(CX:kb)(outer:List Env)(P:ag)(w:World)(H:Hp)(s:af)(Q:VK)(E:XK)(r:Result)(s':af):Prop:=match r with | .ok (.ret u)=>CE outer P w H s Q u s' | .ok _=>False | .error e=>CX outer H s E e s'
structure fu(P:ag)(w:World)(K:aa)(mg:cm)(ay:Heap)(CX:kb)(k:Nat)(f:Addr)(fd:FuncData)(ps:List Str)(sp:Sp):Prop where
 len:∀vs H Q E,sp vs H Q E->vs.length=ps.length
 run:∀(A:ai)(outer:List Env)(s:af)(H:Hp)(args:Args)(us:List Value)(vs:List V)(Q:VK)(E:XK),dP k A->vV P w K mg ay A outer s H->BindsTo s fd args (ps.zip us)->Vals vs us->sp vs H Q E->codeAny (model P w) A (.call (.ref f) args) (CR CX outer P w H s Q E) s
theorem fu.mono{P:ag}{w:World}{K:aa}{mg:cm}{ay:Heap}(F:fu P w K mg ay CX j f fd ps sp)(h:j<=k): fu P w K mg ay CX k f fd ps sp:=#[F.len,λA outer s H args us vs Q E hr=>F.run A outer s H args us vs Q E (hr.mono h)]
theorem vV.make{P:ag}{w:World}{K:aa}{mg:cm}{ay:Heap}(e:vV P w K mg ay A outer s H)(C:Addr)(us:List Value)(kw:List (Str×Value)): vV P w K mg ay (A.under (.builtin "type.__call__" #[.ref C::us,kw])) outer s H:=#[by first|erw[e.frames]|(simpa[Around.under,Code.envs,Code.isFrame,pushEnvs]using e.frames),e.mod,e.bs,e.pE,e.lW,e.tf,e.bS,e.bare]
section
variable {X:Cx}{pins:List (Addr×Obj)}{O:St}{H:Hp}{s s':af}
theorem Inv.V5(I:Inv X pins O H s):vV X.prog X.w X.K X.mg X.ay X.A X.stack s H:=#[I.ok.frames,I.ok.mod,I.bs,iG I.ok.pE I.sz,I.stack,I.Lv,I.bS,I.bare]
theorem Inv.after(I:Inv X pins O H s)(h:CE X.stack X.prog X.w H s Q u s'):EP X pins O Q u s':=by let(v,H',os,bare,un,bS,r,q):=h;let(hh,g,d,t,Cg):=s';obtain rfl:Cg=s.os:=os;erw[v,H',I.call (h':=hh) (g':=g) (d':=d) (t':=t) (ch:=[]) un bS bare (λb z=>absurd z (by simp)),r,q]
end
def YR(sp:Sp)(gw:List V)(E:XK)(t:TA):TE:=λO H Q=>t O H λvs H1=>sp (vs++gw) H1 Q E
inductive Ea(C:Addr)(m:Str)(sp:Sp)(gw:List V)(E:XK)(t:TA)(O:St)(Q:VK)(x:V)(H1:Hp):Prop |mk (a:_)(dx:_)(fs:_)(h0:x= .ref a)(h1:H1 a=some (.ins C dx fs))(h2:fs.lookup m=none)(h3:t O H1 λvs H2=>sp (x::(vs++gw)) H2 Q E)
def Lh(C:Addr)(m:Str)(sp:Sp)(gw:List V)(E:XK)(ta:TE)(t:TA):TE:=λO H Q=>ta O H λx H1=>Ea C m sp gw E t O Q x H1
def YJ(C:Addr)(sp:Sp)(gw:List V)(E:XK)(t:TA):TE:=λO H Q=>t O H λvs H1=>∀x dx,H1 x=none->H1 dx=none->dx≠x->sp (.ref x::(vs++gw)) (upd (upd H1 dx (.own x)) x (.ins C dx [])) (λv H2=>v= .bu/\Q (.ref x) H2) E
def Binds(K:aa)(fd:FuncData)(ps:List Str)(ds:List Value):Prop:=∀(s:af)(us:List Value),K.In s.heap->(us++ds).length=ps.length->BindsTo s fd #[us,[]] (ps.zip (us++ds))
theorem Binds.all{K:aa}(h:∀us:List Value,us.length=ps.length->bindArgs fd #[us,[]]=pure (ps.zip us)):Binds K fd ps []:=λs us _ hl=>by rw[om]at hl⊢;erw[.of_eq (h us hl)]
def Passes(CX:kb)(X:Cx)(E:XK):Prop:=∀(pins:List (Addr×Obj))(O:St)(H:Hp)(s:af)(e:Value)(s':af),Inv X pins O H s->CX X.stack H s E e s'->X.xe e s'
section
variable {X:Cx}{CX:kb}{k:Nat}{f C:Addr}{fd:FuncData}{ps:List Str}{sp:Sp}{gw:List V}{ds:List Value}{E:XK}{x m:Str}{p pos apos:Pos}{e o:Expr}{es:List Expr}{ta:TE}{t:TA}
theorem C6{pins:List (Addr×Obj)}{O:St}{H:Hp}{s:af}{Q:VK}{us:List Value}{vs:List V}(F:fu X.prog X.w X.K X.mg X.ay CX k f fd ps sp)(hr:dP k X.A)(hb:Binds X.K fd ps ds)(hd:Vals gw ds)(hx:Passes CX X E) (I:Inv X pins O H s)(r:Vals vs us)(h:sp (vs++gw) H Q E):wpAny (model X.prog X.w) X.A (call (.ref f) us) (EP X pins O Q) X.xe s:=by
 have r2:Vals (vs++gw) (us++ds):=r.append hd;have hl:(us++ds).length=ps.length:=by rw[<-r2.length];erw[F.len _ _ _ _ h]
 erw[wpAny_call (yd (F.run X.A X.stack s H #[us,[]] (us++ds) (vs++gw) Q E hr I.V5 (hb s us I.iO hl) r2 h) λr s' hq=>?_)];cases r with |error e=>erw[hx pins O H s e s' I hq] |ok fl=>cases fl with |ret u=>erw[I.after hq] |next=>erw[False.elim hq] |brk=>erw[False.elim hq] |cont=>erw[False.elim hq]
theorem a2E(F:fu X.prog X.w X.K X.mg X.ay CX k f fd ps sp)(hr:dP k X.A)(hg:Gl X x)(hm:X.mg x=some (.ref f))(hk:PySem.W.keepIn X.K (.ref f)=true)(hb:Binds X.K fd ps ds)(hd:Vals gw ds)(hx:Passes CX X E) (ha:PA X (e::es) t)(ju:autoParam ((x==("__debug__":Str))=false) q8_._auto_1)(he:autoParam (starEach (e::es) X.env=(false,eval e X.env)::starEach es X.env) r8_._auto_1)(gr:autoParam ((backTo pos (starEach es X.env)).any (·.1)=false) r8_._auto_1): PE X (.Call (.Name x p) (e::es) [] pos) (YR sp gw E t):=by intro pins s O H Q I h;erw[Ef (zM I hg hm ?_ ju)];erw[Kk (h₀:=X.ay) I.ok.mod.xp hk (aZ (ha pos pins s O H _ I h) λus s1 #[vs,H1,I1,r,q]=>#[I1.iO,?_]) he gr];erw[C6 F hr hb hd hx I1 r q]
theorem a2w{pl:Sem Bool}(he:PE X o ta)(c:ka X.K C)(hm:Meth X.K C m f)(F:fu X.prog X.w X.K X.mg X.ay CX k f fd ps sp)(hr:dP k X.A)(hb:Binds X.K fd ps ds)(hd:Vals gw ds)(hx:Passes CX X E)(ha:PA X (e::es) t) (nu:autoParam (starEach (e::es) X.env=(false,eval e X.env)::starEach es X.env) r8_._auto_1)(gr:autoParam ((backTo pos (starEach es X.env)).any (·.1)=false) r8_._auto_1) (ht:eval (.Call (.Attribute o m apos) (e::es) [] pos) X.env=(do
 let ov<-eval o X.env
 standAt apos.atName
 let(f,first)<-holding [ov] (getMethod ov m pl)
 callWith pos f first (backTo pos (starEach (e::es) X.env)) (backToKw pos (keywordEach [] X.env))):=by rfl): PE X (.Call (.Attribute o m apos) (e::es) [] pos) (Lh C m sp gw E ta t):=by
 intro pins s O H Q I h;erw[PySem.W.methodCall_KW (pl:=pl) (aZ (he pins s O H _ I h) λu s1 #[x,H1,I1,rx,a,dx,fs,ex,ea,l,q]=>?_) ht];subst ex;obtain rfl:u=Value.ref a:=rx;erw[UA I1 ea c hm l ?_];erw[Kk (first:=[.ref a]) (h₀:=X.ay) I.ok.mod.xp hm.kp (aZ (ha pos pins s1 O H1 _ I1 q) λus s2 #[vs,H2,I2,r,q2]=>#[I2.iO,?_]) nu gr];erw[C6 (us:=.ref a::us) (vs:=.ref a::vs) F hr hb hd hx I2 (.cons Z r) q2]
theorem a2v{pl:Sem Bool}(he:PE X o ta)(c:ka X.K C)(hm:Meth X.K C m f)(F:fu X.prog X.w X.K X.mg X.ay CX k f fd ps sp)(hr:dP k X.A)(hb:Binds X.K fd ps ds)(hd:Vals gw ds)(hx:Passes CX X E) (ht:eval (.Call (.Attribute o m apos) [] [] pos) X.env=(do
 let ov<-eval o X.env
 standAt apos.atName
 let(f,first)<-holding [ov] (getMethod ov m pl)
 callWith pos f first (backTo pos (starEach [] X.env)) (backToKw pos (keywordEach [] X.env))):=by rfl): PE X (.Call (.Attribute o m apos) [] [] pos) (Lh C m sp gw E ta uk):=by
 intro pins s O H Q I h;erw[PySem.W.methodCall_KW (pl:=pl) (aZ (he pins s O H _ I h) λu s1 #[x,H1,I1,rx,a,dx,fs,ex,ea,l,q]=>?_) ht];subst ex;obtain rfl:u=Value.ref a:=rx;erw[UA I1 ea c hm l ?_];erw[PySem.W.callWith_K0 (first:=[.ref a]) I1.iO hm.kp (C6 (us:=[.ref a]) (vs:=[.ref a]) F hr hb hd hx I1 (.cons rfl .nil) q)]
structure Mk(K:aa)(C f:Addr):Prop where
 makes:PySem.W.makesIn K C=true
 init:PySem.W.findIn K (.ref C) "__init__"=some (some (.ref f))
 fn:PySem.W.isFn K (.ref f)=true
 kp:PySem.W.keepIn K (.ref C)=true
theorem a18{pins:List (Addr×Obj)}{O:St}{H:Hp}{s:af}{Q:VK}{us:List Value}{vs:List V}(M:Mk X.K C f)(F:fu X.prog X.w X.K X.mg X.ay CX k f fd ps sp)(hr:dP (k+1) X.A)(hb:Binds X.K fd ps ds)(hd:Vals gw ds) (hx:Passes CX X E)(I:Inv X pins O H s)(r:Vals vs us) (h:∀x dx,H x=none->H dx=none->dx≠x->sp (.ref x::(vs++gw)) (upd (upd H dx (.own x)) x (.ins C dx [])) (λv H2=>v= .bu/\Q (.ref x) H2) E): wpAny (model X.prog X.w) X.A (call (.ref C) us) (EP X pins O Q) X.xe s:=by
 have hq:=h (s.heap.objs.size+1) s.heap.objs.size (I.bS.fresh (Nat.le_succ _)) (I.bS.fresh (aV _)) (eY (X6 _));have I2:=Inv.made (C:=C) I;have r2:Vals (V.ref (s.heap.objs.size+1)::(vs++gw)) (Value.ref (s.heap.objs.size+1)::(us++ds)):=.cons Z (r.append hd);have hl:(Value.ref (s.heap.objs.size+1)::us++ds).length=ps.length:=by have e:=r2.length;rw[F.len _ _ _ _ hq]at e;erw[e.symm]
 erw[wpAny_call (a5p (f:=f) I.iO M.makes M.init (fK.mp M.fn) (yd (F.run _ X.stack _ _ #[Value.ref (s.heap.objs.size+1)::us,[]] (Value.ref (s.heap.objs.size+1)::(us++ds)) _ _ E (hr.make C us []) (I2.V5.make C us []) (hb _ (Value.ref (s.heap.objs.size+1)::us) I2.iO hl) r2 hq) λr s' oX=>?_))];cases r with |error e=>erw[hx pins O _ _ e s' I2 oX] |ok fl=>cases fl with |ret u=>let(v,H',I3,rv,ev,q3):=I2.after oX;subst ev;erw[rv,#[V.ref (s.heap.objs.size+1),H',I3,Z,q3]] |next=>erw[False.elim oX] |brk=>erw[False.elim oX] |cont=>erw[False.elim oX]
theorem a2x(M:Mk X.K C f)(F:fu X.prog X.w X.K X.mg X.ay CX k f fd ps sp)(hr:dP (k+1) X.A)(hg:Gl X x)(hm:X.mg x=some (.ref C))(hb:Binds X.K fd ps ds)(hd:Vals gw ds)(hx:Passes CX X E) (ha:PA X (e::es) t)(ju:autoParam ((x==("__debug__":Str))=false) q8_._auto_1)(he:autoParam (starEach (e::es) X.env=(false,eval e X.env)::starEach es X.env) r8_._auto_1)(gr:autoParam ((backTo pos (starEach es X.env)).any (·.1)=false) r8_._auto_1): PE X (.Call (.Name x p) (e::es) [] pos) (YJ C sp gw E t):=by intro pins s O H Q I h;erw[Ef (zM I hg hm ?_ ju)];erw[Kk (h₀:=X.ay) I.ok.mod.xp M.kp (aZ (ha pos pins s O H _ I h) λus s1 #[vs,H1,I1,r,q]=>#[I1.iO,?_]) he gr];erw[a18 M F hr hb hd hx I1 r q]
end
section
variable {X:Cx}{CX:kb}{k:Nat}{f C:Addr}{fd:FuncData}{ps ks:List Str}{sp:Sp}{E:XK}{x m:Str}{p pos apos ag1:Pos}{e o:Expr}{es:List Expr}{kws:List Keyword}{te ta:TE}{t tk:TA}{nm:Option Str}
variable {g:List Value->List Value->List Value}{gV:List V->List V->List V}
end
structure bf(N P:List Str)(sc:Scope):Prop where
 kind:sc.kind= .function
 co:sc.isCoroutine=false
 gen:sc.isGenerator=false
 nd:N.Nodup
 pre:N.take P.length=P
 par:∀x∈P,sc.names.lookup x=some .local\/sc.names.lookup x=some .cell
 a4J:∀y∈sc.names,y.2≠ .free
theorem W0{kindOf:Str->Option NameKind}{x:Str}:∀{binds:List (Str×Value)}{m:cm},(∀v,(x,v)∉binds)->bindL kindOf binds m x=m x
 |[],_,_=>rfl |(n,v)::r,m,h=>by
  unfold bindL;rw[W0 λw hw=>h w (yi _ hw)];split
  ·have:x≠n:=by rintro rfl;erw[h v Kv]
   simp[this]
  ·rfl
theorem W3{kindOf:Str->Option NameKind}{x:Str}:∀{binds:List (Str×Value)}{m:cm},(∀v,(x,v)∉binds)->bindC kindOf binds m x=m x
 |[],_,_=>rfl |(n,v)::r,m,h=>by
  unfold bindC;rw[W3 λw hw=>h w (yi _ hw)];split
  ·rfl
  ·have:x≠n:=by rintro rfl;erw[h v Kv]
   simp[this]
theorem W2{kindOf:Str->Option NameKind}{x:Str}{v:Value}:∀{P:List Str}{vs:List Value}{i:Nat}{m:cm},P.Nodup->P[i]? =some x->vs[i]? =some v->kindOf x=some .local->bindL kindOf (P.zip vs) m x=some v |[],_,_,_,_,h,_,_=>by simp at h |_::_,[],_,_,_,_,h,_=>by simp at h |p::P,w::vs,0,m,nd,h1,h2,hk=>by simp at h1 h2;subst h1;subst h2;show bindL kindOf ((p,w)::P.zip vs) m p=_;unfold bindL;rw[W0 λv hv=>(Ku.mp nd).1 (Ep hv).1,ba hk];simp |p::P,w::vs,i+1,m,nd,h1,h2,hk=>by show bindL kindOf ((p,w)::P.zip vs) m x=_;unfold bindL;erw[W2 (i:=i) (Ku.mp nd).2 (by simpa using h1) (by simpa using h2) hk]
theorem W4{kindOf:Str->Option NameKind}{x:Str}{v:Value}:∀{P:List Str}{vs:List Value}{i:Nat}{m:cm},P.Nodup->P[i]? =some x->vs[i]? =some v->kindOf x≠some .local->bindC kindOf (P.zip vs) m x=some v |[],_,_,_,_,h,_,_=>by simp at h |_::_,[],_,_,_,_,h,_=>by simp at h |p::P,w::vs,0,m,nd,h1,h2,hk=>by simp at h1 h2;subst h1;subst h2;show bindC kindOf ((p,w)::P.zip vs) m p=_;unfold bindC;rw[W3 λv hv=>(Ku.mp nd).1 (Ep hv).1,bc hk];simp |p::P,w::vs,i+1,m,nd,h1,h2,hk=>by show bindC kindOf ((p,w)::P.zip vs) m x=_;unfold bindC;erw[W4 (i:=i) (Ku.mp nd).2 (by simpa using h1) (by simpa using h2) hk]
def start(N:List Str)(vs:List V):St:=vs.map some++List.replicate (N.length-vs.length) none
def mM(CX:kb)(P:ag)(w:World)(K:aa)(mg:cm)(ay:Heap)(N:List Str)(qual:Str)(scope:Scope)(f:Addr)(cd:Value)(A:ai)(outer:List Env)(s:af)(H:Hp)(E:XK):Cx where
 prog:=P
 w:=w
 K:=K
 mg:=mg
 ay:=ay
 A:=A.deeper (envOfC qual scope s.heap.objs.size f cd)
 N:=N
 s₀:=s
 H₀:=H
 env:=envOfC qual scope s.heap.objs.size f cd
 outer:=outer
 stack:=envOfC qual scope s.heap.objs.size f cd::outer
 ex:=[]
 calm:=true
 fn:=λ_=>true
 pn:=[]
 xe:=λe s'=>wpAny (model P w) (A.deeper (envOfC qual scope s.heap.objs.size f cd)) (leaving (envOfC qual scope s.heap.objs.size f cd) e) (λ_ FF=>CX outer H s E e FF) (λe' FF=>CX outer H s E e' FF) s'
theorem VR{sc:Scope}{n:Nat}{x:Str}(h:sc.names.lookup x=some .cell):∃c,(cellsFrom n sc.names []).lookup x=some c:=by have q:=PySem.W.cellsFrom_some sc.names n [] (.inl h);erw[Option.isSome_iff_exists.mp q]
theorem a6x{CX:kb}{P:ag}{w:World}{K:aa}{mg:cm}{ay:Heap}{N ps:List Str}{qual:Str}{scope:Scope}{f:Addr}{cd:Value}{A:ai}{outer:List Env}{s s1:af}{H:Hp}{E:XK}{us:List Value}{vs:List V} (S:bf N ps scope)(hd:A.handled=none)(e0:vV P w K mg ay A outer s H)(hl:vs.length=ps.length)(r:Vals vs us) (x:InCallC s s.heap.objs.size (bindL (envOfC qual scope s.heap.objs.size f cd).kindOf (ps.zip us) λ_=>none) (cellsFrom (s.heap.objs.size+1) scope.names []) (bindC (envOfC qual scope s.heap.objs.size f cd).kindOf (ps.zip us) λ_=>none) s1): Inv (mM CX P w K mg ay N qual scope f cd A outer s H E) [] (start N vs) H s1:=by
 have gr:ps.length<=N.length:=by have:=lC List.length S.pre;rw[u7]at this;lia
 let(h1,tk,rfl,hk):=x.done;have zC:∀b:Addr,b∉(mM CX P w K mg ay N qual scope f cd A outer s H E).ex:=λb z=>absurd (show b∈([]:List Addr)from z) (by simp);erw[#[e0.mod,S.kind,Z,Z,aV _,λy z c h1 h2=>?_,λy hy=>?_,λy c _ h=>?_,λ_=>hd,Around.frames_deeper e0.frames,.inr #[Z,Z],λb z=>absurd z (zC b),e0.bs,e0.pE,λb _ _=>zC b,λb z=>absurd z (zC b),e0.lW,e0.tf],rfl,e0.bare,Un.kept hk,#[_,x.toInCall.ns,λi y v h1 h2 h3=>?_],λy c h=>#[_,x.cell y c h],e0.bS.fresh (aV _),λy c h=>?_,λp hp=>absurd (show p∈([]:List (Addr×Obj))from hp) (by simp),e0.bS.kept hk,?_]
 ·erw[name_of_addr x.apart (Ek h1) (Ek h2)]
 ·have hy:scope.names.lookup y=some .cell\/scope.names.lookup y=some .free:=hy
  rcases hy with hy|hy
  ·erw[VR hy]
  ·erw[absurd Z (S.a4J _ (Ek hy))]
 ·erw[Bi (x.above y c (Ek h))]
 ·have hi:i<vs.length:=by
   unfold start at h2;by_cases hi:i<vs.length
   ·erw[hi]
   ·rw[oh (by simpa using hi)]at h2
    rw[List.getElem?_replicate]at h2;split at h2<;>cases h2
  have ha:vs[i]? =some v:=by unfold start at h2;rw[oj (by simpa using hi),bO]at h2;cases e:vs[i]? with |none=>rw[e]at h2;cases h2 |some a=>rw[e]at h2;cases h2;rfl
  let(u,hu,rv):=r.get ha;have hp:ps[i]? =some y:=by rw[<-S.pre,List.getElem?_take_of_lt ao];erw[h1]
  have Sq:ps.Nodup:=by rw[<-S.pre];erw[S.nd.sublist (List.take_sublist _ _)]
  erw[u,rv,?_];rcases S.par y (fz hp)with k|k
  ·erw[.inl #[k,W2 Sq hp hu k]]
  ·let(c,e):=VR (n:=s.heap.objs.size+1) k
   erw[.inr #[.inl k,c,e,?_]];have q:=x.cell y c e;rw[W4 Sq hp hu (by show scope.names.lookup y≠_;rw[k];decide)]at q;erw[q]
 ·erw[e0.bS.fresh (Bi (x.above y c (Ek h)))]
 ·unfold start
  show _=N.length;rw[cv,aW,List.length_replicate]
  lia
theorem UR{P:ag}{w:World}{K:aa}{mg:cm}{ay:Heap}{kV:Value}(lk:K.lookup f=some #[oc,od,.func (PySem.W.fnOf name qual params body scope dV kV doc pm an aK ct),j5])(jP:PySem.W.codeIn K aK qual=true)(S:bf N ps scope) (len:∀vs H Q E,sp vs H Q E->vs.length=ps.length) (lU:∀(A:ai)(outer:List Env)(s:af)(H:Hp)(vs:List V)(Q:VK)(E:XK),dP k (A.deeper (envOfC qual scope s.heap.objs.size f aK))->sp vs H Q E->∃t,iT (mM CX P w K mg ay N qual scope f aK A outer s H E) body t/\t {nx:=λ_ H'=>Q .bu H',rt:=Q} (start N vs) H): fu P w K mg ay CX (k+1) f (PySem.W.fnOf name qual params body scope dV kV doc pm an aK ct) ps sp:=by
 erw[len,λA outer s H args us vs Q E hr e0 hb r lS=>?_];have hl:=len _ _ _ _ lS;have KX:K.In s.heap:=e0.mod.xp.keeps λb o e=>(e0.bs b o e).1;have lim:s.heap.NoLimit:=e0.mod.nolimit.keeps λb o e=>(e0.bs b o e).1;have mF:∀y∈ps.zip us,scope.names.lookup y.1=some .local\/(scope.names.lookup y.1=some .cell/\((cellsFrom (s.heap.objs.size+1) scope.names []).lookup y.1).isSome=true):=λ#[n,v] hy=>by
  rcases S.par n (Ep hy).1 with q|q
  ·erw[.inl q]
  ·erw[.inr #[q,PySem.W.cellsFrom_some _ _ _ (.inl q)]]
 erw[codeAny_call_function hr.depth (KX _ _ lk) Z S.co S.gen Z (PySem.W.codeRec_of KX jP) (hb _ _ _ _ ?_)];erw[wpAny_newFunctionEnv_cells S.kind mF λenv he s1 x=>?_];subst he;erw[lim.keeps x.toInCall.keep,codeAny_func ?_];let(t,ht,hq):=lU A outer s H vs Q E (hr.deeper _) lS;have I:Inv (mM CX P w K mg ay N qual scope f aK A outer s H E) [] (start N vs) H s1:=a6x S hr.hd e0 hl r x;erw[gJ (ht [] s1 (start N vs) H _ I hq) (λfl s' hs=>?_) λe s' hs=>hs];have fin:∀{σ':St}{H':Hp}{v:V}{u:Value},Inv (mM CX P w K mg ay N qual scope f aK A outer s H E) [] σ' H' s'->RelV v u->Q v H'->CE outer P w H s Q u s':=λ{σ' H' v u} J rv q=>#[v,H',J.os,J.bare,J.ay,J.bS,rv,q];cases fl with |ret u=>let(v,σ',H',J,rv,q):=hs;erw[fin J rv q] |next=>let(σ',H',J,q):=hs;erw[fin (v:=V.bu) (u:=Value.none) J Z q] |brk=>let(_,_,_,q):=hs;erw[False.elim q] |cont=>let(_,_,_,q):=hs;erw[False.elim q]
section
variable {X:Cx}{x:Str}{p pos:Pos}{e:Expr}{es:List Expr}{t:TA}{id T:String}{r:List V->Hp->VK->Prop}
def BQ(r:List V->Hp->VK->Prop)(t:TA):TE:=λO H Q=>t O H λvs H1=>r vs H1 Q
theorem fh(hc:fw X (.builtin id) r)(hg:Gl X x)(hm:X.mg x=none)(hv:bootBuiltins x=some (.builtin id))(ha:PA X (e::es) t)(hn:autoParam (x≠"__name__") q8_._auto_1)(ju:autoParam ((x==("__debug__":Str))=false) q8_._auto_1) (he:autoParam (starEach (e::es) X.env=(false,eval e X.env)::starEach es X.env) r8_._auto_1)(gr:autoParam ((backTo pos (starEach es X.env)).any (·.1)=false) r8_._auto_1):PE X (.Call (.Name x p) (e::es) [] pos) (BQ r t):=by intro pins s O H Q I h;erw[Ef (qv I hg hm hv ?_ hn ju)];erw[PyProof.Rows.callWith_builtin1 (aZ (ha pos pins s O H _ I h) λus s1 #[vs,H1,I1,r1,q1]=>hc pins s1 O H1 vs us Q I1 r1 q1) he gr]
theorem dF(hc:fw X (.type T) r)(hg:Gl X x)(hm:X.mg x=none)(hv:bootBuiltins x=some (.type T))(ha:PA X (e::es) t)(hn:autoParam (x≠"__name__") q8_._auto_1)(ju:autoParam ((x==("__debug__":Str))=false) q8_._auto_1) (he:autoParam (starEach (e::es) X.env=(false,eval e X.env)::starEach es X.env) r8_._auto_1)(gr:autoParam ((backTo pos (starEach es X.env)).any (·.1)=false) r8_._auto_1):PE X (.Call (.Name x p) (e::es) [] pos) (BQ r t):=by intro pins s O H Q I h;erw[Ef (qv I hg hm hv ?_ hn ju)];erw[yf (aZ (ha pos pins s O H _ I h) λus s1 #[vs,H1,I1,r1,q1]=>hc pins s1 O H1 vs us Q I1 r1 q1) he gr]
end
end _L
namespace _H
open PySem PyProof.Rows
section
open PySem.SeqAt
open PySem.AutoSeq1 (wpAny_loadPart')
open PySem.MeetsSeq PySem.MeetsSeq2 PySem.MeetsSeq3
end
section
variable {prog:ag}{w:World}{A:ai}{E:Value->af->Prop}{s:af}
theorem abA{t b:Addr}{vs ws:List Value}{Q:Value->af->Prop}(ht:IsTup s.heap t vs.toArray)(hb:IsTup s.heap b ws.toArray)(hv:vs≠[]) (h1:ws=[]->Q (.ref t) s)(h2:ws≠[]->Q (.ref s.heap.objs.size) {s with heap:=s.heap.push {cls:=.type "tuple",data:=.seq (vs++ws).toArray}}) (hsz:vs.length+ws.length<=sizeLine):wpAny (model prog w) A (binaryOp .Add (.ref t) (.ref b)) Q E s:=by
 let((cls,dd,data,sl),ho,hc,n,hd):=id ht;let((VP,xM,data2,sl2),oY,jQ,n2,hd2):=id hb;simp only at hc hd jQ hd2;subst hc hd jQ hd2;have e:vs.toArray++ws.toArray=(vs++ws).toArray:=by simp
 by_cases hw:ws=[]
 ·erw[concat_meets #[_,ho,Z] #[_,oY,Z] noFill_tuple_add seq_tuple_add WX WY (WZ _ _) (tuple_addW1 t b vs.toArray ws.toArray n n2 dd xM sl sl2 (by simpa using hv) (by simp[hw])) #[ho,oY,h1 hw]]
 ·erw[concat_meets #[_,ho,Z] #[_,oY,Z] noFill_tuple_add seq_tuple_add WX WY (WZ _ _) (tuple_addW2 t b vs.toArray ws.toArray n n2 dd xM sl sl2 (by simpa using hv) (by simpa using hw) (by rw[eH,eH];erw[hsz])) #[ho,oY,?_]];rw[e];erw[h2 hw]
def cC(n d:Nat):Option Int->Nat |none=>d |some v=>if v<0 then(v+(n:Int)).toNat else min v.toNat n
theorem Pc (n d:Nat):cC n d none=d:=rfl
theorem Pe(n d k:Nat):cC n d (some (k:Int))=min k n:=by show(if(k:Int)<0 then((k:Int)+(n:Int)).toNat else min (k:Int).toNat n)=min k n;rw[bc ao,Xh]
theorem a0M(n d:Nat)(hd:d<=n)(o:Option Int):cC n d o<=n:=by cases o with |none=>erw[hd] |some v=>
 show(if v<0 then(v+(n:Int)).toNat else min v.toNat n)<=n;by_cases hv:v<0
 ·rw[ba hv];lia
 ·rw[bc hv];erw[Nat.min_le_right _ _]
theorem JC(v:Int)(n d:Nat):(if v<0 then max (v+(n:Int)) 0 else min v (n:Int))=((cC n d (some v):Nat):Int):=by
 show(if v<0 then max (v+(n:Int)) 0 else min v (n:Int))=(((if v<0 then(v+(n:Int)).toNat else min v.toNat n):Nat):Int);by_cases hv:v<0
 ·simp only[ba hv];lia
 ·simp only[bc hv];lia
theorem acn(lo hi:Option Int)(n:Nat):Builtin.Slice.sliceAdjust lo hi 1 (n:Int)=(((cC n 0 lo:Nat):Int),((cC n n hi:Nat):Int)):=by
 have h1:¬((1:Int)<0):=by lia
 unfold Builtin.Slice.sliceAdjust;simp only[h1,if_false];erw[Prod.ext ?_ ?_]
 ·cases lo with |none=>rfl |some v=>erw[JC v n 0]
 ·cases hi with |none=>rfl |some v=>erw[JC v n n]
theorem a2n(i j:Nat):Builtin.Slice.slicePlaces (i:Int) (j:Int) 1=j-i:=by
 unfold Builtin.Slice.slicePlaces;have h1:(1:Int)>0:=by lia
 simp only[h1,vX,Int.ediv_one];split<;>lia
theorem M7{v:Value}{o:Option Int}{Q:Option Int->af->Prop}(p:IsPart v o)(h:Q o s):wpAny (model prog w) A (Builtin.Slice.slicePartIndex v) Q E s:=by cases p with |none=>erw[slicePart_none h] |int i t=>erw[slicePart_int h]
theorem a0n{sl:Addr}{vl vu:Value}{lo hi:Option Int}{n:Nat}{Q:Int×Int×Nat->af->Prop}(hs:s.heap.IsSliceOf sl vl vu .none)(pl:IsPart vl lo)(pu:IsPart vu hi) (h:Q (((cC n 0 lo:Nat):Int),1,cC n n hi-cC n 0 lo) s):wpAny (model prog w) A (Builtin.Slice.sliceApplied (.ref sl) (pure (n:Int))) Q E s:=by let(os,kU,p7,sX):=id hs;unfold Builtin.Slice.sliceApplied Builtin.Slice.sliceFields;erw[aJ (aJ (kf kU sX (x:=vl) Z (aJ (kf kU sX (x:=vu) Z (aJ (kf kU sX (x:=.none) Z (cf ?_)))))))];erw[aJ (slicePart_none ?_)];show wpAny _ _ (if((1:Int)==0)=true then _ else _) _ _ s;rw[bc aw];erw[aJ (M7 pl (aJ (M7 pu (aJ (cf ?_)))))];show wpAny _ _ (match Builtin.Slice.sliceAdjust lo hi 1 (n:Int)with|(lo,hi)=>pure (lo,(1:Int),Builtin.Slice.slicePlaces lo hi 1)) _ _ s;rw[acn lo hi n];show wpAny _ _ (pure (((cC n 0 lo:Nat):Int),(1:Int),Builtin.Slice.slicePlaces ((cC n 0 lo:Nat):Int) ((cC n n hi:Nat):Int) 1)) _ _ s;rw[a2n];erw[cf h]
theorem a2q(xs:Array Value)(i k:Nat):((List.range k).filterMap λ(m:Nat)=>xs[((i:Int)+(m:Int)*1).toNat]?).toArray=((xs.toList.drop i).take k).toArray:=by
 have e:(λ(m:Nat)=>xs[((i:Int)+(m:Int)*1).toNat]?)=λm=>xs[i+m]?:=by
  funext m;have:((i:Int)+(m:Int)*1).toNat=i+m:=by lia
  rw[this]
 rw[e];have:=pick_run xs i k;rw[List.filterMap_map]at this;have e2:((λx=>xs[x]?)∘λx=>i+x)=λm=>xs[i+m]?:=rfl;rw[e2]at this;rw[this]
theorem a8F{t sl:Addr}{items:Array Value}{vl vu:Value}{lo hi:Option Int}{Q:Value->af->Prop}(ht:IsTup s.heap t items)(hs:s.heap.IsSliceOf sl vl vu .none)(pl:IsPart vl lo)(pu:IsPart vu hi) (hw:¬(cC items.size 0 lo=0/\cC items.size items.size hi=items.size)) (h:Q (.ref s.heap.objs.size) {s with heap:=s.heap.push {cls:=.type "tuple",data:=.seq ((items.toList.drop (cC items.size 0 lo)).take (cC items.size items.size hi-cC items.size 0 lo)).toArray}}) (hsz:items.size<=sizeLine):wpAny (model prog w) A (getItem (.ref t) (.ref sl)) Q E s:=by
 have Di:sizeOk (.seq ((items.toList.drop (cC items.size 0 lo)).take (cC items.size items.size hi-cC items.size 0 lo)).toArray):=by show((items.toList.drop (cC items.size 0 lo)).take (cC items.size items.size hi-cC items.size 0 lo)).toArray.size<=sizeLine;rw[eH,u7,Bm,mR];omega
 have hj:cC items.size items.size hi<=items.size:=a0M _ _ (aV _) hi;let(os,kU,p7,sX):=id hs;have hTs:s.TypeIs (.ref sl) "slice":=#[os,kU,p7];unfold getItem
 try with_reducible erw[rk ?_]
 first|erw[aJ (cf ?_)]|skip
 erw[aJ (wpAny_sequenceKey ht.typeIs aw ?_)];erw[aJ (Ee (name:=Str.ofString "__getitem__") ht.typeIs X1 (Ed X1 ht.typeIs entry_tuple_getitem ?_ (args_tuple_getitem _ _)))];show wpAny _ _ (Builtin.Tuple.tupleItemsOf (.ref t)>>=_) _ _ s;erw[aJ (tupleItemsOf_ ht ?_)];erw[aJ (wpAny_typeOf hTs ?_)];rw[ba aw];erw[aJ (a0n hs pl pu ?_)];have oZ:¬((((cC items.size 0 lo:Nat):Int)==0&&(1:Int)==1&&(cC items.size items.size hi-cC items.size 0 lo)==items.size)=true):=by intro q;rw[fA,fA]at q;have q1:((cC items.size 0 lo:Nat):Int)=0:=eq_of_beq q.1.1;have q2:cC items.size items.size hi-cC items.size 0 lo=items.size:=eq_of_beq q.2;erw[hw #[aL,aL]]
 show wpAny _ _ (if(((cC items.size 0 lo:Nat):Int)==0&&(1:Int)==1&&(cC items.size items.size hi-cC items.size 0 lo)==items.size)=true then _ else _) _ _ s;rw[bc oZ,a2q]
 first |erw[aJ (m:=Builtin.Tuple.tupleExact _) (o7 (cf #[_,Z,cf h]) Di)] |erw[aJ (m:=Builtin.Tuple.tupleExact _) (o7 (aJ (cf (cf #[_,Z,cf h]))) Di)] |erw[aJ (aJ (m:=Builtin.Tuple.tupleExact _) (o7 (cf (cf #[_,Z,cf h])) Di))] |erw[aJ (aJ (m:=Builtin.Tuple.tupleExact _) (o7 (cf #[_,Z,cf h]) Di))]
end
end _H
namespace _L
open PySem PySem.Spec PyProof.Rows
abbrev TO:=St->Hp->(Option Int->Hp->Prop)->Prop
def PO(X:Cx)(e:Option Expr)(t:TO):Prop:=∀(pins:List (Addr×Obj))(s:af)(O:St)(H:Hp)(Q:Option Int->Hp->Prop),Inv X pins O H s->t O H Q->wpAny (model X.prog X.w) X.A (evalPart e X.env) (λu s'=>∃o H',Inv X pins O H' s'/\IsPart u o/\Q o H') X.xe s
def YF:TO:=λ_ H Q=>Q none H
inductive acM(Q:Option Int->Hp->Prop)(x:V)(H1:Hp):Prop |mk (i:_)(h0:x= .int i)(h1:Q (some i) H1)
def Yz(t:TE):TO:=λO H Q=>t O H λx H1=>acM Q x H1
section
variable {X:Cx}{e:Expr}{te:TE}{lo hi:Option Expr}{tl th:TO}{pos p2:Pos}
theorem zc:PO X none YF:=by intro pins s O H Q I h;rw[evalPart_none];erw[cf #[none,H,I,.none,h]]
theorem zb(h:PE X e te):PO X (some e) (Yz te):=by intro pins s O H Q I hw;rw[evalPart_some];erw[aZ (h pins s O H _ I hw) λu s1 #[x,H1,I1,r1,q1]=>?_];let(i,rfl,q):=q1;let(t,rfl):=r1;erw[some i,H1,I1,.int i t,q]
def DV(X:Cx)(r:V->Option Int->Option Int->Hp->VK->Prop):Prop:=∀(pins:List (Addr×Obj))(s:af)(O:St)(H:Hp)(x:V)(v vl vu:Value)(lo hi:Option Int)(sl:Addr)(Q:VK),Inv X pins O H s->RelV x v->s.heap.IsSliceOf sl vl vu .none->IsPart vl lo->IsPart vu hi->r x lo hi H Q->∃T id,typeLookup (.type T) "__getitem__"=pure (some (.builtin id))/\s.TypeIs v T/\wpAny (model X.prog X.w) X.A (getItem v (.ref sl)) (EP X pins O Q) X.xe s
def Yx(r:V->Option Int->Option Int->Hp->VK->Prop)(te:TE)(tl th:TO):TE:=λO H Q=>te O H λx H1=>tl O H1 λl H2=>th O H2 λu H3=>r x l u H3 Q
theorem zh(hr:DV X r)(he:PE X e te)(hl:PO X lo tl)(hu:PO X hi th):PE X (.Subscript e (.Slice lo hi none p2) pos) (Yx r te tl th):=by intro pins s O H Q I h;erw[Subscript_ (aZ (he pins s O H _ I h) λv s1 #[x,H1,I1,r1,q1]=>?_)];erw[wpAny_Slice (aZ (hl pins s1 O H1 _ I1 q1) λvl s2 #[l,H2,I2,pl,q2]=>aZ (hu pins s2 O H2 _ I2 q2) λvu s3 #[u,H3,I3,pu,q3]=>?_)];rw[evalPart_none];erw[cf ?_];have I4:Inv X pins O H3 {s3 with heap:=s3.heap.push {cls:=.type "slice",data:=.fields (List.toArray [vl,vu,.none])}}:=I3.kept (t':=s3.toks) λb ob q=>cF _ q;let(T,id,hT,ht,hg):=hr pins {s3 with heap:=s3.heap.push {cls:=.type "slice",data:=.fields (List.toArray [vl,vu,.none])}} O H3 x v vl vu l u s3.heap.objs.size Q I4 r1 (Heap.IsSliceOf.new ..) pl pu q3;show wpAny (model X.prog X.w) X.A (subscriptTail e (.Slice lo hi none p2) v (.ref s3.heap.objs.size)) (EP X pins O Q) X.xe {s3 with heap:=s3.heap.push {cls:=.type "slice",data:=.fields (List.toArray [vl,vu,.none])}};erw[tail_any (ops:=[.ref s3.heap.objs.size,v]) ht hT hg (by with_unfolding_all rfl)]
def m4(xs:List V)(lo hi:Option Int):List V:=(xs.drop (_H.cC xs.length 0 lo)).take (_H.cC xs.length xs.length hi-_H.cC xs.length 0 lo)
theorem VH(xs:List V)(lo hi:Option Int):(m4 xs lo hi).length<=xs.length:=by
 unfold m4;rw[u7,Bm]
 lia
inductive aes(K:aa)(x:V)(lo:Option Int)(hi:Option Int)(H:Hp)(Q:VK):Prop |mk (a:_)(xs:_)(h0:x= .ref a)(h1:aU K H a xs)(h2:¬(_H.cC xs.length 0 lo=0/\_H.cC xs.length xs.length hi=xs.length))(h3:∀p,H p=none->Q (.ref p) (upd H p (.tup (m4 xs lo hi))))
def a1R(K:aa):V->Option Int->Option Int->Hp->VK->Prop:=λx lo hi H Q=>aes K x lo hi H Q
theorem a0o:DV X (a1R X.K):=by
 intro pins s O H x v vl vu lo hi sl Q I rx hs pl pu h;let(a,xs,rfl,hx,hw,q):=h;cases rx;let(its,r,ht,hz):=I.tuple hx;have hlen:its.toArray.size=xs.length:=by rw[eH];erw[r.length.symm]
 erw["tuple",_,X1.lookup,ht.typeIs,?_];erw[_H.a8F ht hs pl pu (by rw[hlen];erw[hw]) ?_ (by rw[hlen];erw[hz])];rw[hlen];erw[.ref s.heap.objs.size,_,I.laid (t':=s.toks) (o:=.tup (m4 xs lo hi)) (λb ob q=>cF _ q) (aV _) ?_,Z,q _ (I.bS.fresh (aV _))];erw[iG (VH xs lo hi) hz,_,(r.drop (_H.cC xs.length 0 lo)).take (_H.cC xs.length xs.length hi-_H.cC xs.length 0 lo),IsTup.new _ _]
theorem Vals.GS(r:Vals xs us):us=[]↔xs=[]:=by cases r with |nil=>simp |cons _ _=>simp
end
def jo(n:Nat)(i:Int):Option Nat:=if 0<=i then(if i<n then some i.toNat else none)else if-(n:Int)<=i then some (i+n).toNat else none
def fb{α:Type}(xs:List α)(i:Int):Option α:=(jo xs.length i).bind λj=>xs[j]?
theorem Ts{n:Nat}(h:jo n i=some j):seqIndex? i n=some j/\j<n/\-(n:Int)<=i/\i<n:=by
 unfold jo at h;by_cases h0:0<=i
 ·rw[ba h0]at h
  by_cases h1:i<n
  ·rw[ba h1]at h
   have e:i.toNat=j:=eW h;erw[by rw[seqIndex_of h0 h1,e],ao,ao,h1]
  ·rw[bc h1]at h;cases h
 ·rw[bc h0]at h
  by_cases h1:-(n:Int)<=i
  ·rw[ba h1]at h
   have e:(i+n).toNat=j:=eW h;erw[by rw[seqIndex_neg ao h1,e],ao,h1,ao]
  ·rw[bc h1]at h;cases h
theorem JR{v:α}(h:fb xs i=some v):∃j,seqIndex? i xs.length=some j/\xs[j]? =some v/\j<xs.length/\-(xs.length:Int)<=i/\i<xs.length:=by unfold fb at h;cases e:jo xs.length i with |none=>rw[e]at h;cases h |some j=>rw[e]at h;let(h1,h2,h3,h4):=Ts e;erw[j,h1,h,h2,h3,h4]
theorem acd{xs:List α}{j:Nat}{v:α}(h:xs[j]? =some v):fb xs (j:Int)=some v:=by
 have hj:j<xs.length:=(cK.mp h).1;have e:jo xs.length (j:Int)=some j:=by unfold jo;rw[ba ao,ba ao];simp
 unfold fb;rw[e];erw[h]
def WC(b:Expr):Prop:=∀o i,subscripted b false o i=operate [o,i] (getItem o i)
def qW(X:Cx)(r:R2):Prop:=∀(value slice:Expr)(pins:List (Addr×Obj))(s:af)(O:St)(H:Hp)(x y:V)(v u:Value)(Q:VK),Inv X pins O H s->RelV x v->RelV y u->r x y H Q->subscripted slice false v u=operate [v,u] (getItem v u)->wpAny (model X.prog X.w) X.A (subscriptTail value slice v u) (EP X pins O Q) X.xe s
def y4(X:Cx)(id:String)(r:V->List V->Hp->VK->Prop):Prop:=∀(pins:List (Addr×Obj))(s:af)(O:St)(H:Hp)(x:V)(xs:List V)(v:Value)(us:List Value)(Q:VK),Inv X pins O H s->RelV x v->Vals xs us->r x xs H Q->wpAny (model X.prog X.w) X.A (call (.builtin id) (v::us)) (EP X pins O Q) X.xe s
section
variable {X:Cx}{a b:Expr}{ta tb:TE}{pos:Pos}
theorem qW.or(h:qW X r)(h':qW X r'):qW X (λx y H Q=>r x y H Q\/r' x y H Q):=by
 intro value slice pins s O H x y v u Q I rx ry q hs;rcases q with q|q
 ·erw[h value slice pins s O H x y v u Q I rx ry q hs]
 ·erw[h' value slice pins s O H x y v u Q I rx ry q hs]
theorem Gk(hr:qW X r)(ha:PE X a ta)(hb:PE X b tb)(hs:WC b):PE X (.Subscript a b pos) (yH r ta tb):=by intro pins s O H Q I h;erw[Subscript_ (JK ha hb I h λv u s2 x y H2 I2 rx ry q=>hr a b pins s2 O H2 x y v u Q I2 rx ry q (hs _ _))]
inductive aeD(K:aa)(x:V)(y:V)(H:Hp)(Q:VK):Prop |mk (p:_)(xs:_)(i:_)(v:_)(h0:x= .ref p)(h1:y= .int i)(h2:aD K H p xs)(h3:fb xs i=some v)(h4:Q v H)
def G7(K:aa):R2:=λx y H Q=>aeD K x y H Q
inductive aeB(K:aa)(x:V)(y:V)(H:Hp)(Q:VK):Prop |mk (p:_)(xs:_)(i:_)(v:_)(h0:x= .ref p)(h1:y= .int i)(h2:aU K H p xs)(h3:fb xs i=some v)(h4:Q v H)
def G6(K:aa):R2:=λx y H Q=>aeB K x y H Q
inductive aeC(x:V)(y:V)(H:Hp)(Q:VK):Prop |mk (z:_)(i:_)(c:_)(h0:x= .str z)(h1:y= .int i)(h2:z.length<=sizeLine)(h3:fb z.cps.toList i=some c)(h4:Q (.str ⟨#[c]⟩) H)
def a1X:R2:=λx y H Q=>aeC x y H Q
theorem a6n:qW X (G7 X.K):=by
 intro value slice pins s O H x y v u Q I rx ry h hs;let(p,xs,i,z,rfl,rfl,hq,he,q):=h;cases rx;let(t,rfl):=ry;let(its,r,pl,hz):=I.list hq;let(j,h1,h2,h3,h4,h5):=JR he;let(w,ew,pV):=r.get h2;have hl:=r.length;have hn:=uW;have fin:EP X pins O Q w s:=#[z,H,I,pV,q];by_cases h0:0<=i
 ·have hj:i.toNat=j:=by rw[seqIndex_of h0 h5]at h1;erw[eW h1]
  erw[item_listR pl.isList h0 ao (by rw[hj];simpa using ew) fin hs]
 ·have hj:(i+(its.toArray.size:Int)).toNat=j:=by rw[seqIndex_neg ao h4]at h1;rw[eH,<-hl];erw[eW h1]
  erw[subscriptTail_builtinR (x:=w) pl.isList.typeIs slot_list_getitem.lookup (wpAny_getItem_list_neg (Q:=λr s'=>r=w/\EP X pins O Q r s') pl.isList ao (by rw[eH]<;>lia) ao (by rw[hj];simpa using ew) #[Z,fin]) hs]
theorem a6m:qW X (G6 X.K):=by intro value slice pins s O H x y v u Q I rx ry h hs;let(p,xs,i,z,rfl,rfl,hq,he,q):=h;cases rx;let(t,rfl):=ry;let(its,r,pl,hz):=I.tuple hq;let(j,h1,h2,h3,h4,h5):=JR he;let(w,ew,pV):=r.get h2;have hl:=r.length;have hn:=uW;have fin:EP X pins O Q w s:=#[z,H,I,pV,q];erw[subscriptTail_builtinR (x:=w) pl.typeIs slot_tuple_getitem.lookup (getItem_tuple (j:=j) (Q:=λr s'=>r=w/\EP X pins O Q r s') pl ao ao (by rw[eH,<-hl];erw[h1]) (by simpa using ew) #[Z,fin]) hs]
theorem Tr:qW X a1X:=by
 intro value slice pins s O H x y v u Q I rx ry h hs;let(z,i,c,rfl,rfl,hz,he,q):=h;let(t,rfl):=rx;let(t',rfl):=ry;let(j,h1,h2,h3,h4,h5):=JR he;have hl:z.cps.toList.length=z.length:=by simp[Str.length]
 rw[hl]at h1 h4 h5;have hn:=uW;erw[tail_any (B8 s z t) slot_str_getitem.lookup (getItem_str (c:=c) (by have e1:decide (i< -(2^63:Int))=false:=dE ao;have e2:decide (i>=2^63)=false:=dE ao;rw[e1,e2,Bool.or_false]) (by rw[h1];simpa using h2) #[.str ⟨#[c]⟩,H,I.tok _,#[_,Z],q]) hs]
theorem a5n(its:List Value)(n j:Nat)(u:Value):Obj.mapSeq (·.setIfInBounds j u) {cls:=.type "list",data:=.seq its.toArray n}={cls:=.type "list",data:=.seq (its.set j u).toArray n}:=by simp[Obj.mapSeq]
theorem Inv.lst{pins:List (Addr×Obj)}{O:St}{H:Hp}{s:af}{p:Addr}{xs:List V}(I:Inv X pins O H s)(h:H p=some (.lst xs)): ∃(its:List Value)(n:Nat),Vals xs its/\s.heap.get? p=some {cls:=.type "list",data:=.seq its.toArray n}/\xs.length<=sizeLine:=by let(z,its,n,r,e):=I.bS p _ h;erw[its,n,r,e,z]
theorem Inv.a5M{pins:List (Addr×Obj)}{O:St}{H:Hp}{s:af}{p:Addr}{xs ys:List V}{its its':List Value}{n n':Nat}{f:Obj->Obj}(I:Inv X pins O H s)(h:H p=some (.lst xs)) (ho:s.heap.get? p=some {cls:=.type "list",data:=.seq its.toArray n})(hf:f {cls:=.type "list",data:=.seq its.toArray n}={cls:=.type "list",data:=.seq its'.toArray n'})(r:Vals ys its')(hz:ys.length<=sizeLine)(t:Nat): Inv X pins O (upd H p (.lst ys)) {s with heap:=s.heap.update p f,toks:=t}:=by
 have e:(s.heap.update p f).get? p=some {cls:=.type "list",data:=.seq its'.toArray n'}:=by rw[KH f ho (by rw[hf]<;>rfl),hf]
 erw[I.write (x:=p) (e:=p) (by rw[h];trivial) (.inl Z) (λb u hb q=>(Br _ _ (kG hb)).trans q) #[_,e] ?_];erw[hz,its',n',r,e]
inductive aev(o:V)(i:V)(v:V)(H:Hp)(Q:Hp->Prop):Prop |mk (p:_)(xs:_)(k:_)(j:_)(h0:o= .ref p)(h1:i= .int k)(h2:H p=some (.lst xs))(h3:jo xs.length k=some j)(h4:Q (upd H p (.lst (xs.set j v))))
def a1U:V->V->V->Hp->(Hp->Prop)->Prop:=λo i v H Q=>aev o i v H Q
theorem set_list:WD X a1U:=by
 intro pins s O H o i v ov iv u Q I ro ri rv h;let(p,xs,k,j,rfl,rfl,hp,hj,q):=h;cases ro;let(t,rfl):=ri;let(its,n,r,ho,hz):=I.lst hp;let(h1,h2,h3,h4):=Ts hj;have hl:=r.length;have hn:=uW;have I':Inv X pins O (upd H p (.lst (xs.set j v))) {s with heap:=s.heap.update p (Obj.mapSeq (·.setIfInBounds j u))}:=I.a5M hp ho (a5n its n j u) (r.set rv j) (by rw[yk];erw[hz]) s.toks;by_cases h0:0<=k
 ·have hk:k.toNat=j:=by rw[seqIndex_of h0 h4]at h1;erw[eW h1]
  erw[PySem.W.ki_setAt ho h0 ao (by rw[eH,<-hl];erw[h4]) (by rw[hk];erw[_,I',q])]
 ·have hk:(k+(its.toArray.size:Int)).toNat=j:=by rw[seqIndex_neg ao h3]at h1;rw[eH,<-hl];erw[eW h1]
  erw[PySem.W.ki_setBack ho ao (by rw[eH,<-hl];erw[h3]) ao (by rw[hk];erw[_,I',q])]
theorem a0l(lo hi:Option Int)(n:Nat):(sliceBounds lo hi none n).1=((_H.cC n 0 lo:Nat):Int)/\(sliceBounds lo hi none n).2.1=((_H.cC n n hi:Nat):Int)/\(sliceBounds lo hi none n).2.2=1:=by
 erw[?_,?_,Z]
 ·cases lo with |none=>simp[sliceBounds,_H.cC] |some i=>
  simp only[sliceBounds,_H.cC,Option.getD_none,show(1:Int)>0 by decide,vX];by_cases h:i<0
  ·simp only[h,vX]<;>lia
  ·simp only[h,if_false]<;>lia
 ·cases hi with |none=>simp[sliceBounds,_H.cC] |some i=>
  simp only[sliceBounds,_H.cC,Option.getD_none,show(1:Int)>0 by decide,vX];by_cases h:i<0
  ·simp only[h,vX]<;>lia
  ·simp only[h,if_false]<;>lia
theorem a0m(its:List Value)(lo hi:Option Int):slicePick its.toArray lo hi none=((its.drop (_H.cC its.length 0 lo)).take (_H.cC its.length its.length hi-_H.cC its.length 0 lo)).toArray:=by let(h1,h2,h3):=a0l lo hi its.toArray.size;unfold slicePick;rw[h1,h2,h3];simp only[sliceRange_one,pick_run,eH]<;>rfl
inductive aet(K:aa)(x:V)(lo:Option Int)(hi:Option Int)(H:Hp)(Q:VK):Prop |mk (a:_)(xs:_)(h0:x= .ref a)(h1:aD K H a xs)(h2:∀p,H p=none->Q (.ref p) (upd H p (.lst (m4 xs lo hi))))
def a1S(K:aa):V->Option Int->Option Int->Hp->VK->Prop:=λx lo hi H Q=>aet K x lo hi H Q
theorem a0p:DV X (a1S X.K):=by intro pins s O H x v vl vu lo hi sl Q I rx hs pl pu h;let(a,xs,rfl,hx,q):=h;cases rx;let(its,r,ht,hz):=I.list hx;have hlen:=r.length;erw["list",_,slot_list_getitem.lookup,ht.isList.typeIs,?_];erw[wpAny_getItem_list_slice ht.isList hs pl pu .none (by simp) ?_ (by rw[eH]<;>lia)];rw[a0m,<-hlen];erw[.ref s.heap.objs.size,_,I.laid (t':=s.toks) (o:=.lst (m4 xs lo hi)) (λb ob q=>cF _ q) (aV _) ?_,Z,q _ (I.bS.fresh (aV _))];erw[iG (VH xs lo hi) hz,_,0,(r.drop (_H.cC xs.length 0 lo)).take (_H.cC xs.length xs.length hi-_H.cC xs.length 0 lo),eJ _ Z]
def tm:V->Bool | .bu=>true | .bl _=>true | .int _=>true | .str _=>true |_=>false
def tE:V->V->Bool | .bu,.bu=>true | .bl a,.bl b=>a==b | .bl a,.int b=>(if a then 1 else 0)==b | .int a,.bl b=>a==(if b then 1 else 0) | .int a,.int b=>a==b | .str a,.str b=>a==b |_,_=>false
theorem aaF{A:ai}{s:af}{y x:V}{u v:Value}(ry:RelV y u)(rx:RelV x v)(fy:tm y=true)(fx:tm x=true):SeqAt.EqAt A s u v (tE y x):=by cases y with
 |bu=>cases ry;cases x with |bu=>cases rx;erw[SeqAt.EqAt.same _] |bl b=>cases rx;erw[SeqAt.EqAt.none_bool b] |int b=>let(t,rfl):=rx;erw[SeqAt.EqAt.none_int b t] |str b=>let(t,rfl):=rx;erw[SeqAt.EqAt.none_str b t] |_=>erw[absurd (show false=true from fx) eK]
 |bl a=>cases ry;cases x with |bu=>cases rx;erw[SeqAt.EqAt.bool_none a] |bl b=>cases rx;erw[SeqAt.EqAt.bool_bool a b] |int b=>let(t,rfl):=rx;erw[SeqAt.EqAt.bool_int a b t] |str b=>let(t,rfl):=rx;erw[SeqAt.EqAt.bool_str a b t] |_=>erw[absurd (show false=true from fx) eK]
 |int a=>let(t',rfl):=ry;cases x with |bu=>cases rx;erw[SeqAt.EqAt.int_none a t'] |bl b=>cases rx;erw[SeqAt.EqAt.int_bool a t' b] |int b=>let(t,rfl):=rx;erw[SeqAt.EqAt.int_int a t' b t] |str b=>let(t,rfl):=rx;erw[SeqAt.EqAt.int_str a t' b t] |_=>erw[absurd (show false=true from fx) eK]
 |str a=>let(t',rfl):=ry;cases x with |bu=>cases rx;erw[SeqAt.EqAt.str_none a t'] |bl b=>cases rx;erw[SeqAt.EqAt.str_bool a t' b] |int b=>let(t,rfl):=rx;erw[SeqAt.EqAt.str_int a t' b t] |str b=>let(t,rfl):=rx;erw[SeqAt.EqAt.str_str a t' b t] |_=>erw[absurd (show false=true from fx) eK]
 |_=>erw[absurd (show false=true from fy) eK]
def qL(x:V)(u:Value):Bool:=match u with | .none=>tE .bu x | .bool b=>tE (.bl b) x | .int i _=>tE (.int i) x | .str z _=>tE (.str z) x |_=>false
theorem V4(r:RelV y u)(f:tm y=true):qL x u=tE y x:=by cases y with |bu=>cases r;rfl |bl b=>cases r;rfl |int i=>let(t,rfl):=r;rfl |str z=>let(t,rfl):=r;rfl |_=>erw[absurd (show false=true from f) eK]
theorem JT{x:V}:∀{xs:List V}{us:List Value},Vals xs us->xs.all tm=true->us.any (qL x)=xs.any λy=>tE y x |_,_,.nil,_=>rfl |y::xs,u::us,.cons r t,f=>by rw[yt,fA]at f;rw[yp,yp,V4 r f.1,JT t f.2]
theorem Hf{A:ai}{s:af}{x:V}{v:Value}(rx:RelV x v)(fx:tm x=true):∀{xs:List V}{us:List Value},Vals xs us->xs.all tm=true->∀u∈us,SeqAt.EqAt A s u v (qL x u)
 |_,_,.nil,_=>λu hu=>by cases hu |y::xs,u::us,.cons r t,f=>λu' hu=>by
  rw[yt,fA]at f;rcases cM.mp hu with rfl|hu
  ·rw[V4 r f.1];erw[aaF r rx f.1 fx]
  ·erw[Hf rx fx t f.2 u' hu]
def De(x:V)(xs:List V):Bool:=xs.any λy=>tE y x
inductive aeI(K:aa)(neg:Bool)(x:V)(y:V)(H:Hp)(Q:VK):Prop |mk (p:_)(xs:_)(h0:y= .ref p)(h1:(aD K H p xs\/aU K H p xs))(h2:tm x=true)(h3:xs.all tm=true)(h4:Q (.bl (if neg then !De x xs else De x xs)) H)
def QD(K:aa)(neg:Bool):R2:=λx y H Q=>aeI K neg x y H Q
theorem a32:cX X (compareOp .NotIn) (QD X.K true):=by
 intro pins s O H x y v u Q I rx ry h;let(p,xs,rfl,hq,fx,fs,q):=h;cases ry;rcases hq with hq|hq
 ·let(its,r,pl,hz):=I.list hq
  erw[SeqAt.notIn_listAt (qL x) pl.isList (λw hw=>Hf rx fx r fs w (by simpa using hw)) #[.bl _,H,I,Z,?_]];rw[show its.toArray.any (qL x)=its.any (qL x) by simp,JT r fs];erw[q]
 ·let(its,r,pl,hz):=I.tuple hq
  erw[SeqAt.notIn_tupleAt (qL x) pl (λw hw=>Hf rx fx r fs w (by simpa using hw)) #[.bl _,H,I,Z,?_]];rw[show its.toArray.any (qL x)=its.any (qL x) by simp,JT r fs];erw[q]
theorem abH:fw X (.builtin "len") (λxs H Q=>∃p ys,xs=[.ref p]/\(aD X.K H p ys\/aU X.K H p ys)/\Q (.int ys.length) H):=by
 intro pins s O H xs us Q I r h;let(p,ys,rfl,hq,q):=h;let(u,rfl,rx):=vals1 r;cases rx;have hn:=uW;rcases hq with hq|hq
 ·let(its,r',pl,hz):=I.list hq
  have hlen:=r'.length;erw[Calls.call_len_list pl.isList (by simp only[eH]<;>lia) #[.int ys.length,H,I.tok _,#[s.toks+1,by rw[eH,hlen]],q]]
 ·let(its,r',pl,hz):=I.tuple hq
  have hlen:=r'.length;erw[len_tuple pl (by simp only[eH]<;>lia) #[.int ys.length,H,I.tok _,#[s.toks+1,by rw[eH,hlen]],q]]
theorem abG:fw X (.builtin "len") (λxs H Q=>∃z,xs=[.str z]/\z.length<=sizeLine/\Q (.int z.length) H):=by intro pins s O H xs us Q I r h;let(z,rfl,hz,q):=h;let(u,rfl,t,rfl):=vals1 r;have hn:=uW;erw[len_str ao #[.int z.length,H,I.tok _,#[_,Z],q]]
theorem fw.or(h:fw X f r)(h':fw X f r'):fw X f (λxs H Q=>r xs H Q\/r' xs H Q):=by
 intro pins s O H xs us Q I rs q;rcases q with q|q
 ·erw[h pins s O H xs us Q I rs q]
 ·erw[h' pins s O H xs us Q I rs q]
theorem abF:fw X (.type "list") (λxs H Q=>∃p ys,xs=[.ref p]/\(aD X.K H p ys\/aU X.K H p ys)/\∀l,H l=none->Q (.ref l) (upd H l (.lst ys))):=by
 intro pins s O H xs us Q I r h;let(p,ys,rfl,hq,q):=h;let(u,rfl,rx):=vals1 r;cases rx;have fin:∀(its:List Value),Vals ys its->ys.length<=sizeLine->∀(h':Heap)(c':Nat),(∀b o',s.heap.get? b=some o'->h'.get? b=some o')->h'.get? s.heap.objs.size=some {cls:=.type "list",dict:=none,data:=.seq its.toArray c',slots:=#[]}->EP X pins O Q (.ref s.heap.objs.size) {s with heap:=h'}:=λits r' hz h' c' kp e=>#[.ref s.heap.objs.size,_,I.laid (t':=s.toks) kp (aV _) (show jX X.prog X.w _ h' _ (.lst ys)from#[hz,its,c',r',e]),Z,q _ (I.bS.fresh (aV _))];rcases hq with hq|hq
 ·let(its,r',pl,hz):=I.list hq
  have hlen:=r'.length;let(o,ho,hc,n,hd):=pl.isList;erw[call_list_seq p (.inl Z) ho hc hd (λh' c' kp e=>fin its r' hz h' c' kp e) (by simp only[eH]<;>lia)]
 ·let(its,r',pl,hz):=I.tuple hq
  have hlen:=r'.length;let(o,ho,hc,n,hd):=pl;erw[call_list_seq p (.inr Z) ho hc hd (λh' c' kp e=>fin its r' hz h' c' kp e) (by simp only[eH]<;>lia)]
theorem abC:fw X (.type "tuple") (λxs H Q=>∃p ys,xs=[.ref p]/\((aD X.K H p ys/\∀l,H l=none->Q (.ref l) (upd H l (.tup ys)))\/(aU X.K H p ys/\Q (.ref p) H))):=by
 intro pins s O H xs us Q I r h;let(p,ys,rfl,h):=h;let(u,rfl,rx):=vals1 r;cases rx;rcases h with⟨hq,q⟩|⟨hq,q⟩
 ·let(its,r',pl,hz):=I.list hq
  have hlen:=r'.length;erw[call_tuple_list pl.isList (λh' kp=>?_) (by simp only[eH]<;>lia)];have I1:Inv X pins O H {s with heap:=h'}:=I.kept (t':=s.toks) kp;have I2:Inv X pins O (upd H h'.objs.size (.tup ys)) {s with heap:=h'.push {cls:=.type "tuple",data:=.seq its.toArray}}:=I1.laid (t':=s.toks) (λb o e=>cF _ e) (aV _) (show jX X.prog X.w _ _ _ (.tup ys)from#[hz,its,r',IsTup.new _ _]);erw[.ref h'.objs.size,_,I2,Z,q _ (I1.bS.fresh (aV _))]
 ·let(its,r',pl,hz):=I.tuple hq
  erw[call_tuple_same pl #[.ref p,H,I,Z,q]]
def EG(K:aa)(T:String)(x:V)(H:Hp):Prop:=match x with | .str _=>T="str" | .int _=>T="int" | .ref p=>(T="list"/\∃xs,aD K H p xs)\/(T="tuple"/\∃o,K.lookup p=some o/\o.cls= .type "tuple"/\o.dict=none)\/ (T="dict"/\((∃eU,H p=some (.dK eU))\/∃eU,H p=some (.dT eU)))\/(T="set"/\∃S n,H p=some (.set S n)) |_=>False
theorem KZ{pins:List (Addr×Obj)}{O:St}{H:Hp}{s:af}{T:String}{x:V}{v:Value}(I:Inv X pins O H s)(r:RelV x v)(ty:EG X.K T x H): s.TypeIs v T/\∀a,v= .ref a->∃ob,s.heap.get? a=some ob/\ob.dict=none:=by cases x with
 |str z=>let(t,rfl):=r;cases(show T="str" from ty);erw[B8 s z t,λ_ e=>nomatch e] |int i=>let(t,rfl):=r;cases(show T="int" from ty);erw[typeIs_int s i t,λ_ e=>nomatch e] |ref p=>
  cases r;rcases ty with⟨rfl,xs,hq⟩|⟨rfl,o,hk,hc,hd⟩|⟨rfl,hk⟩|⟨rfl,S,n,hk⟩
  ·let(its,_,pl,_):=I.list hq
   erw[pl.isList.typeIs,λa e=>?_];cases e;let(o,n,e,c,hd,_):=pl;erw[o,e,hd]
  ·erw[#[o,I.iO p o hk,hc],λa e=>?_]
   cases e;erw[o,I.iO _ o hk,hd]
  ·have z:∃o,s.heap.get? p=some o/\o.ExactDict:=by
    rcases hk with⟨eU,hk⟩|⟨eU,hk⟩
    ·let(_,_,_,_,o,_,_,e,ex,_):=I.bS p _ hk
     erw[o,e,ex]
    ·let(_,_,_,_,o,_,_,e,ex,_):=I.bS p _ hk
     erw[o,e,ex]
   let(o,e,ex):=z;erw[#[o,e,ex.1],λa e2=>?_];cases e2;erw[o,e,ex.2.1]
  ·let(o,_,_,_,e,ex,_):=I.bS p _ hk
   erw[#[o,e,ex.1],λa e2=>?_];cases e2;erw[o,e,ex.2.1] |_=>erw[False.elim ty]
def rP(K:aa)(T:String)(r:V->List V->Hp->VK->Prop)(to:TE)(t:TA):TE:=λO H Q=>to O H λx H1=>EG K T x H1/\t O H1 λxs H2=>r x xs H2 Q
variable {o e:Expr}{es:List Expr}{to:TE}{t:TA}{name:Str}{apos cA:Pos}{T id:String}{r:V->List V->Hp->VK->Prop}
theorem uH(pa:PlainAttrs T)(slot:Slot T name id)(Ik:typeOf (.builtin id)=pure (.type "method_descriptor"))(hm:y4 X id r)(ho:PE X o to)(ha:PA X (e::es) t) (jv:autoParam (attributeBase o name X.env (eval o X.env)=eval o X.env) r8_._auto_1) (jt:autoParam (((backTo cA (starEach (e::es) X.env)).all (λx=>!x.1)&&(backToKw cA (keywordEach [] X.env)).all (λx=>x.1.isSome) &&decide ((e::es).length+([]:List Keyword).length+(if([]:List Keyword).isEmpty then 0 else 1)<30))=true) r8_._auto_1) (jr:autoParam ((apos.endLine==cA.line)=true) r8_._auto_1)(hs:autoParam (starEach (e::es) X.env=(false,eval e X.env)::starEach es X.env) r8_._auto_1)(jq:autoParam ((backTo cA (starEach es X.env)).any (·.1)=false) r8_._auto_1): PE X (.Call (.Attribute o name apos) (e::es) [] cA) (rP X.K T r to t):=by intro pins s O H Q I h;erw[wpAny_Call_method_late jv jt jr Z (aZ (ho pins s O H _ I h) λv s1 #[x,H1,I1,r1,ty,q1]=>?_)];let(h1,h2):=KZ I1 r1 ty;erw[T,id,pa,slot,Ik,h1,h2,?_];have hA:=ha cA pins s1 O H1 _ I1 q1;rw[hs]at hA⊢;erw[Calls.callWith_builtin (by show(false||(backTo cA (starEach es X.env)).any (·.1))=false;rw[jq]<;>rfl) (Calls.evalArgs_plain ?_)];erw[aZ hA λus s2 #[vs,H2,I2,r2,q2]=>hm pins s2 O H2 x vs v us Q I2 r1 r2 q2]
end
def WH(X:Cx)(id:String)(r:V->List V->Hp->VK->Prop):Prop:=∀(pins:List (Addr×Obj))(s:af)(O:St)(H:Hp)(x:V)(xs:List V)(v:Value)(us:List Value)(Q:VK),Inv X pins O H s->RelV x v->Vals xs us->r x xs H Q->wpAny (model X.prog X.w) X.A (call (.builtin id) (v::us)) (EP X pins O Q) X.xe s
theorem Vals.one:∀{x:V}{us:List Value},Vals [x] us->∃u,us=[u]/\RelV x u |_,_,.cons r .nil=>#[_,Z,r]
theorem Vals.rep{xs:List V}{us:List Value}(h:Vals xs us):∀k:Nat,Vals (List.replicate k xs).flatten (List.replicate k us).flatten |0=>.nil |k+1=>by rw[u6,u6,Eu,Eu];erw[Vals.append h (Vals.rep h k)]
theorem foldl_rep(its:List Value):∀(k:Nat)(acc:List Value),List.foldl (λx1 x2=>x1++x2) acc.toArray (List.replicate k its.toArray)=(acc++(List.replicate k its).flatten).toArray
 |0,acc=>by simp |k+1,acc=>by
  have e:acc.toArray++its.toArray=(acc++its).toArray:=by simp
  have e2:(acc++its)++(List.replicate k its).flatten=acc++(List.replicate (k+1) its).flatten:=by rw[u6,Eu,yn]
  rw[<-e2,<-foldl_rep its k (acc++its),<-e,u6,List.foldl_cons]
section
variable {X:Cx}{pins:List (Addr×Obj)}{O:St}{H:Hp}{s:af}{l b:Addr}{xs ys zs:List V}
theorem Inv.SM{its its':List Value}{n:Nat}{t':Nat}(I:Inv X pins O H s)(hH:H l=some (.lst xs)) (e:s.heap.get? l=some {cls:=.type "list",data:=.seq its.toArray n})(hf:f its.toArray=its'.toArray)(hv:Vals ys its')(hz:ys.length<=sizeLine): Inv X pins O (upd H l (.lst ys)) {s with heap:=s.heap.update l (Obj.mapSeq f),toks:=t'}:=by have q:=PySem.IsL.update e f;rw[hf]at q;erw[I.write (x:=l) (e:=l) (by rw[hH];erw[trivial]) (.inl Z) (λb' u hb hu=>(Br s.heap (Obj.mapSeq f) (kG hb)).trans hu) #[_,q] ?_];erw[hz,its',_,hv,q]
theorem Inv.CV(I:Inv X pins O H s)(hv:Vals ys its)(hz:ys.length<=sizeLine): Inv X pins O (upd H s.heap.objs.size (.lst ys)) {s with heap:=s.heap.push {cls:=.type "list",data:=.seq its.toArray},toks:=t'}:=I.laid (λ_ _ q=>cF _ q) (aV _) #[hz,its,0,hv,eJ _ Z]
theorem Inv.fresh(I:Inv X pins O H s):H s.heap.objs.size=none:=I.bS.fresh (aV _)
theorem Inv.CP(I:Inv X pins O H s)(hH:H l=some (.lst xs)):xs.length<=sizeLine/\∃(its:List Value)(n:Nat),Vals xs its/\xs.length=its.length/\s.heap.get? l=some {cls:=.type "list",data:=.seq its.toArray n}:=by let(z,its,n,r,e):=I.bS l _ hH;erw[z,its,n,r,r.length,e]
theorem Sb{n:Nat}(h:n<=sizeLine):Builtin.List.listTooLong n=false:=by unfold Builtin.List.listTooLong;erw[dE ao]
end
section
variable {X:Cx}
inductive aeQ(x:V)(vs:List V)(H:Hp)(Q:VK):Prop |mk (l:_)(xs:_)(y:_)(h0:x= .ref l)(h1:vs=[y])(h2:H l=some (.lst xs))(h3:xs.length<sizeLine)(h4:Q .bu (upd H l (.lst (xs++[y]))))
def QF:V->List V->Hp->VK->Prop:=λx vs H Q=>aeQ x vs H Q
theorem CH:WH X "list.append" QF:=by
 intro pins s O H x vs v us Q I rx rv h;let(l,xs,y,rfl,rfl,hH,hz,q):=h;cases rx;let(u,rfl,ru):=rv.one;let(z,its,n,r,hl,e):=I.CP hH;erw[vY F.slot_list_append #[_,e,Z] F.entry_list_append (F.args_list_append_2 _ _) (PySem.list_append l its.toArray n u (by rw[eH];lia)) #[e,?_]];erw[.bu,_,I.SM (its':=its++[u]) hH e (by simp) (r.append (.cons ru .nil)) ?_,Z,q];rw[cv,yj]
 lia
inductive aeL(x:V)(vs:List V)(H:Hp)(Q:VK):Prop |mk (l:_)(b:_)(xs:_)(zs:_)(h0:x= .ref l)(h1:vs=[.ref b])(h2:H l=some (.lst xs))(h3:H b=some (.lst zs))(h4:xs.length+zs.length<=sizeLine)(h5:Q .bu (upd H l (.lst (xs++zs))))
def QE:V->List V->Hp->VK->Prop:=λx vs H Q=>aeL x vs H Q
theorem a5c:WH X "list.extend" QE:=by
 intro pins s O H x vs v us Q I rx rv h;let(l,b,xs,zs,rfl,rfl,hH,hB,hz,q):=h;cases rx;let(u,rfl,ru):=rv.one;cases ru;let(z,its,n,r,hl,e):=I.CP hH;let(z2,lR,n2,r2,p5,e2):=I.CP hB;have hsz:its.toArray.size+lR.toArray.size<=sizeLine:=by rw[eH,eH];lia
 have Iy:¬(!its.toArray.isEmpty&&Builtin.List.listTooLong (its.toArray.size+lR.toArray.size))=true:=by rw[Sb hsz,Bool.and_false];erw[eK]
 erw[vY F.slot_list_extend #[_,e,Z] F.entry_list_extend (F.args_list_extend_2 _ _) (AutoSeq1.list_extend_list_list_0 l its.toArray n b lR.toArray n2 Iy (by rw[eH];lia) ao) #[e,e2,?_]];erw[.bu,_,I.SM (its':=its++lR) hH e (by simp) (r.append r2) ?_,Z,q];rw[cv]
 lia
inductive aex(x:V)(y:V)(H:Hp)(Q:VK):Prop |mk (l:_)(k:_)(xs:_)(h0:x= .ref l)(h1:y= .int k)(h2:H l=some (.lst xs))(h3:-(2^63)<=k)(h4:k<2^63)(h5:xs.length*k.toNat<=sizeLine)(h6:∀p,H p=none->Q (.ref p) (upd H p (.lst (List.replicate k.toNat xs).flatten)))
def a1V:R2:=λx y H Q=>aex x y H Q
theorem len_rep{α:Type}(xs:List α)(k:Nat):(List.replicate k xs).flatten.length=k*xs.length:=by induction k with |zero=>simp |succ k ih=>rw[u6,Eu,cv,ih,Nat.succ_mul,Ks]
theorem a31:cX X (binaryOp .Mult) a1V:=by
 intro pins s O H x y v u Q I rx ry h;let(l,k,xs,rfl,rfl,hH,h1,h2,hz,q):=h;cases rx;let(t,rfl):=ry;let(z,its,n,r,hl,e):=I.CP hH;have hlen:its.toArray.size*k.toNat<=sizeLine:=by rw[eH,<-hl];erw[hz]
 have a84:¬its.toArray.size*k.toNat>(2^63-1)/8:=by
  have:(sizeLine:Nat)<=(2^63-1)/8:=by decide
  lia
 have a7R:¬(!Builtin.List.listFitsIndex k)=true:=by rw[fitsIndex_both h1 h2];erw[eK]
 have Iy:¬Builtin.List.listTooLong (its.toArray.size*k.toNat)=true:=by rw[Sb hlen];erw[eK]
 have a7m:List.foldl (λx1 x2=>x1++x2) #[] (List.replicate (if its.toArray.isEmpty=true then 0 else k.toNat) its.toArray)=(List.replicate k.toNat its).flatten.toArray:=by
  have f0:∀m:Nat,List.foldl (λx1 x2=>x1++x2) #[] (List.replicate m its.toArray)=(List.replicate m its).flatten.toArray:=λm=>by have:=foldl_rep its m [];rw[Er]at this;erw[this]
  rw[f0];cases its with |nil=>simp |cons a r'=>rw[bc (by simp)]
 erw[wpAny_binaryOp_repeat_ref (T:="list") (U:="int") aw #[_,e,Z] (λs'=>typeIs_int s' k t) noFill_list_mul F.fills_int_mul F.slot_int_rmul repeat_list F.slot_int_index.lookup (vY F.slot_int_rmul (typeIs_int s k t) F.entry_int_rmul (F.args_int_rmul_2 _ _) (int___rmul___int_list k t l its.toArray n) #[e,Z,#[_,e,Z],vY F.slot_list_mul #[_,e,Z] F.entry_list_mul (F.args_list_mul_2 _ _) (AutoListH.list___mul___list_int_3 l its.toArray n k t a7R a84 Iy) #[e,?_]])];rw[a7m];erw[.ref _,_,I.CV (t':=s.toks) (r.rep k.toNat) (by rw[len_rep,En];erw[hz]),Z,q _ I.fresh]
end
section
variable {prog:ag}{w:World}{A:ai}{E:Value->af->Prop}{s:af}
end
section
variable {X:Cx}
end
end _L
namespace _AA
open PySem PySem.W PySem.Calls PyProof.Rows
theorem a6C{P:Params}:∀(ns:List Int)(vs:List Value),WellAll P h vs (ns.map WData.int)->IntsAre vs ns:=by intro ns;induction ns with |nil=>intro vs w;rw[List.map_nil]at w;cases w;erw[.nil] |cons n ns ih=>intro vs w;rw[rE]at w;cases w with |cons a b=>cases a;erw[.cons _ _ (ih _ b)]
theorem a0w{l:OpenLaw}{n:Nat}(hn:l.most=some n){P:Params}{h:Heap}{args:List WData}{vals:List Value} (Dl:l.row.toRowW.claim.pre args=true)(vf:WellAll P h vals args): ∃a vs ns,vals=[Value.ref a]/\args=[WData.list (ns.map WData.int)]/\h.get? a=some {cls:=.type "list",data:=.seq vs.toArray}/\IntsAre vs ns/\ns.length<=n:=by
 have hsh:WShape.hasAll [] args [.list .int]=true:=(pre_splitW Dl).1;have hc:l.pre.holds [] {args:=args}=true:=(pre_splitW Dl).2;let(d,r,rfl,h1,h2):=hasAllW_cons hsh;obtain rfl:=hasAllW_nil h2;let(xs,rfl,h3):=hasW_list h1;let(ns,rfl):=items_int h3;have hlen:ns.length<=n:=by
  unfold OpenLaw.pre at hc;have h4:(WTm.not (.lt (.lit (.int (n:Int))) (.len (.arg 0)))).holds [] {args:=[.list (ns.map .int)]}=true:=by have h4:=(holds_andW hc).1;rw[hn]at h4;erw[h4]
  have h5:=condW_of h4 (w_not (w_lt w_lit (w_len_list (w_arg Z))));rw[aW]at h5;erw[Nat.le_of_not_lt λq=>?_];have q':(n:Int)<((ns.length:Nat):Int):=by omega
  first |(rw[cj q']at h5;erw[absurd h5 aw]) |(simp at h5;omega)
 cases vf with |cons w1 w2=>cases w2;cases w1 with |list ho a8e=>erw[_,_,ns,Z,Z,ho,a6C ns _ a8e,hlen]
theorem a2f(l:OpenLaw)(args:List WData):l.row.toRowW.claim.post args (.bool true) args=true:=postW_of (r:=l.row.toRowW) (X:=(true==true)) (show WShape.has [] (.bool true) .bool=true by first|rfl|decide|simp[WShape.has,WShape.arms,WShape.armsAll]) (show(WTm.eq .res (.lit (.bool true))).value [] {args:=args,res:=some (.bool true),after:=args}=some (.bool (true==true))from w_eq_bool (w_res Z) w_lit) rfl
theorem aca{l:OpenLaw}{n:Nat}{q:ag}{loose:List Str}{XP:(cm)->Heap->Prop}{YP:World->Heap->Prop}{d:DefRec} (hn:l.most=some n)(A1:d.params.defaults=[]) (call:∀(w:World)(s₀ s₁:af)(mg mb:cm)(fa:Addr)(o:Obj)(pm cd doc:Value)(a:Addr)(vs:List Value)(ns:List Int),Ground q loose [] XP w s₀ mg mb s₁.heap->YP w s₁.heap->s₁.heap.get? fa=some o->o.data= .func (docDef d.name d.params d.body d.scope pm cd doc)->s₁.heap.CodeRec cd d.name->mg d.name=some (.ref fa)->s₁.heap.get? a=some {cls:=.type "list",data:=.seq vs.toArray}->IntsAre vs ns->ns.length<=n->s₁.gens=#[]->codeAny (model l.prog w) callerA (.call (.ref fa) #[[.ref a],[]]) (λr s'=>r= .ok (.ret (.bool true))/\OldK s₁.heap s'.heap/\s'.os=s₁.os/\AllBare s'.gens) s₁): WalkO q loose XP YP l.row.toRowW d [] (λf vs=>PySem.call f vs):=by intro w s₀ s₁ mg mb G Y fa o pm cd doc dV kV ho hd jP hD zY hg args vals as Dl agd hrd vf hlo;obtain rfl:dV= .none:=Dflts.none hD A1;obtain rfl:kV= .none:=Dflts.noKw hD;let(a,vs,ns,rfl,rfl,Iu,hints,hlen):=a0w hn Dl vf;erw[enter_call (yd (call w s₀ s₁ mg mb fa o pm cd doc a vs ns G Y ho (fd_plain hd) jP zY Iu hints hlen hg) λr s' hq=>?_)];let(rfl,h2,h3,h4):=hq;erw[.inl #[.bool true,.bool true,[],Z,λ_=>rfl,.bool true,a2f l _,λ_=>#[List.Pairwise.nil,λ_ hm=>(nomatch hm)]],h2,h3,h4]
section
variable {prog:ag}{w:World}{A:ai}{E:Value->af->Prop}{s:af}{K:Frag}
end
end _AA
namespace _L
open PySem PySem.Spec PyProof.Rows
theorem KU:∀{vs:List Value}{ns:List Int},IntsAre vs ns->Vals (ns.map V.int) vs |_,_,.nil=>.nil |_,_,.cons n t h=>.cons #[t,Z] (KU h)
def K4(H:Hp):Prop:=∀b,H b=none\/∃o xs,H b=some (.ph o (.lst xs))
theorem a6b{P:ag}{w:World}{K:aa}{mg mb:cm}{CX:kb}{k:Nat}{fa a:Addr}{fd:FuncData}{x:Str}{sp:Sp}{s₁:af}{vs:List Value}{ns:List Int} (KX:K.In s₁.heap)(Ua:s₁.heap.Ns mainGlobals mg)(hb:s₁.heap.Ns builtinsNs mb)(hbb:∀x:Str,x≠"__name__"->mb x=bootBuiltins x)(a7t:s₁.heap.NoLimit)(hg:s₁.gens=#[]) (ha:s₁.heap.get? a=some {cls:=.type "list",data:=.seq vs.toArray})(hi:IntsAre vs ns)(hl:ns.length<=sizeLine)(hr:dP k callerA) (F:∀ay:Heap,K.In ay->ay.Ns mainGlobals mg->fu P w K mg ay CX k fa fd [x] sp)(a89:∀(s:af)(u:Value),BindsTo s fd #[[u],[]] [(x,u)]) (lS:∀H:Hp,K4 H->aD K H a (ns.map V.int)->sp [.ref a] H (λv _=>v= .bl true) λ_ _ _=>False) (IH:∀H e s',CX [] H s₁ (λ_ _ _=>False) e s'->False): codeAny (model P w) callerA (.call (.ref fa) #[[.ref a],[]]) (λr s'=>r= .ok (.ret (.bool true))/\OldK s₁.heap s'.heap/\s'.os=s₁.os/\AllBare s'.gens) s₁:=by
 have rv:=KU hi;have a64:=hi.length;have core:∀H:Hp,K4 H->aD K H a (ns.map V.int)->fH P w H s₁.heap->(∀b,H b≠none->b=a)->(H a≠none->K.lookup a=none)->codeAny (model P w) callerA (.call (.ref fa) #[[.ref a],[]]) (λr s'=>r= .ok (.ret (.bool true))/\OldK s₁.heap s'.heap/\s'.os=s₁.os/\AllBare s'.gens) s₁:=by
  intro H hO hS bS hA hK;have Wa:∀{b:Addr}{o:Obj},s₁.heap.get? b=some o->H b=none->(qD s₁.heap H).get? b=some o:=λe n=>a7J e n;have zC:∀{b:Addr}{o:Obj}{es:Array DictEntry}{ep:Nat},s₁.heap.get? b=some o->o.data= .dict es ep->H b=none:=λ{b o es ep} e d=>by cases q:H b with |none=>rfl |some u=>have e':b=a:=hA b (by rw[q];simp);subst e';rw[ha]at e;cases e;have d':Data.seq vs.toArray _=Data.dict es ep:=d;cases d'
  have Cz:∀{b:Addr}{m:cm},s₁.heap.Ns b m->(qD s₁.heap H).Ns b m:=λ{b m} #[o,es,ep,e,d,r]=>#[o,es,ep,Wa e (zC e d),d,r];have Ut:K.In (qD s₁.heap H):=λb o e=>Wa (KX b o e) (by cases q:H b with |none=>rfl |some u=>have e':b=a:=hA b (by rw[q];simp);subst e';rw[hK (by rw[q];simp)]at e;cases e);have hM:Mod K mg (qD s₁.heap H):=#[Ut,Cz Ua,#[mb,Cz hb,hbb],let#[mc,h1,h2]:=a7t;#[mc,Cz h1,h2]];have e0:vV P w K mg (qD s₁.heap H) callerA [] s₁ H:=#[Z,hM,λb o e=>a4o e,Nat.le_of_eq (a7I _ _),trivial,λb hb=>absurd (show b∈([]:List Addr)from hb) (by simp),bS,.of_eq hg];erw[yd ((F _ Ut (Cz Ua)).run callerA [] s₁ H #[[.ref a],[]] [.ref a] [.ref a] _ _ hr e0 (a89 s₁ (.ref a)) (.cons Z .nil) (lS H hO hS)) λr s' h=>?_];cases r with |error e=>exact(IH H e s' h).elim |ok fl=>cases fl with |next=>erw[False.elim h] |brk=>erw[False.elim h] |cont=>erw[False.elim h] |ret u=>let(v,H',os,bare,un,a7f,r',q):=h;have q':v= .bl true:=q;subst q';obtain rfl:u=Value.bool true:=r';erw[Z,OldK.of_keep λb o e=>?_,os,bare];cases q:H b with |none=>erw[un.keep b o e q (by intro z;erw[absurd (show b∈([]:List Addr)from z) (by simp)]) (by simp)] |some u=>
   rcases hO b with z|⟨ob,xs,z⟩
   ·rw[q]at z;cases z
   ·have z2:=un.kX b ob _ z
    let(e1,_):=bS b _ z;let(e2,_):=a7f b _ z2;rw[e]at e1;cases e1;erw[e2]
 cases hk:K.lookup a with |some o=>have e:=KX a o hk;rw[ha]at e;cases e;erw[core (λ_=>none) (λ_=>.inl Z) (.inr #[_,vs.toArray,_,hk,Z,Z,Z,by rw[eH,a64];erw[hl],by simpa using rv]) (λb u z=>by have z':(none:Option HO)=some u:=z;cases z') (λb z=>absurd rfl z) λz=>absurd rfl z] |none=>
  erw[core (λb=>if b=a then some (.ph {cls:=.type "list",data:=.seq vs.toArray} (.lst (ns.map V.int)))else none) (λb=>?_) (.inl (.inr #[{cls:=.type "list",data:=.seq vs.toArray},ba Z])) (λb u z=>?_) (λb z=>?_) λ_=>hk]
  ·by_cases hb:b=a
   ·erw[.inr #[_,_,ba hb]]
   ·erw[.inl (bc hb)]
  ·by_cases hb:b=a
   ·have z':=(ba hb).symm.trans z
    cases z';subst hb;erw[ha,by rw[aW];erw[hl],vs,_,rv,ha]
   ·have z':=(bc hb).symm.trans z
    cases z'
  ·by_cases hb:b=a
   ·erw[hb]
   ·erw[absurd (bc hb) z]
theorem XN{l:PySem.W.OpenLaw}{n k:Nat}{q:ag}{loose:List Str}{XP:(cm)->Heap->Prop}{YP:World->Heap->Prop}{d:DefRec}{K:Params->aa}{CX:World->kb}{sp:World->Sp}{x:Str} (hn:l.most=some n)(p4:n<=sizeLine)(A1:d.params.defaults=[])(hr:dP k callerA) (hY:∀(w:World)(h:Heap),YP w h->(K w.params).In h) (F:∀(w:World)(mg:cm)(fa:Addr)(h:Heap),(K w.params).In h->h.Ns mainGlobals mg->mg d.name=some (.ref fa)->∃fd:FuncData,(∀(s:af)(u:Value),BindsTo s fd #[[u],[]] [(x,u)])/\∀ay:Heap,(K w.params).In ay->ay.Ns mainGlobals mg->fu l.prog w (K w.params) mg ay (CX w) k fa fd [x] (sp w)) (lS:∀(w:World)(H:Hp)(a:Addr)(ns:List Int),ns.length<=n->K4 H->aD (K w.params) H a (ns.map V.int)->sp w [.ref a] H (λv _=>v= .bl true) λ_ _ _=>False) (IH:∀(w:World)(H:Hp)(s:af)(e:Value)(s':af),CX w [] H s (λ_ _ _=>False) e s'->False): PySem.W.WalkO q loose XP YP l.row.toRowW d [] (λf vs=>PySem.call f vs):=by erw[_AA.aca hn A1 λw s₀ s₁ mg mb fa o pm cd doc a vs ns G Y ho hd jP zY Iu hints hlen hg=>?_];have KX:=hY w _ Y;let(fd,hb,hF):=F w mg fa _ KX G.T.g zY;erw[a6b KX G.T.g G.T.b G.T.builtins G.T.nolimit hg Iu hints (iG hlen p4) hr hF hb (λH hO hS=>lS w H a ns hlen hO hS) λH e s'=>IH w H s₁ e s']
def inClass(s:Stmt)(j:Nat):Stmt:=match s with | .ClassDef _ _ _ body _ _ _ _ _ _ _=>body.getD j (.Pass #[0,0,0,0]) |_=>.Pass #[0,0,0,0]
def mK(s:Stmt):Arguments:=match s with | .FunctionDef _ a _ _ _ _ _ _ _ _=>a |_=>{posonlyargs:=[],args:=[],vararg:=none,kwonlyargs:=[],kw_defaults:=[],kwarg:=none,defaults:=[]}
def jb(s:Stmt):List Stmt:=match s with | .FunctionDef _ _ b _ _ _ _ _ _ _=>b |_=>[]
def aQ(s:Stmt):Scope:=match s with | .FunctionDef _ _ _ _ _ _ sc _ _ _=>sc |_=>{kind:=.function,names:=[],isGenerator:=false,isCoroutine:=false}
abbrev kd:kb:=λ_ _ _ _ _ _=>False
abbrev E0:XK:=λ_ _ _=>False
theorem Cf:Passes kd X E0:=λ_ _ _ _ _ _ _ h=>h.elim
structure lA(K:aa)(x qual:Str)(st:Stmt)(f:Addr)(fd:FuncData):Prop where
 ex:∃(oc:Value)(od:Option Addr)(kV doc pm:Value)(an:Option Addr)(aK ct:Value)(j5:Array (Option Value)),fd=PySem.W.fnOf x qual (mK st) (jb st) (aQ st) .none kV doc pm an aK ct/\K.lookup f=some #[oc,od,.func fd,j5]/\PySem.W.codeIn K aK qual=true
 kp:PySem.W.keepIn K (.ref f)=true
section
variable {P:ag}{w:World}{K:aa}{mg:cm}{ay:Heap}
theorem lA.ok{x qual:Str}{st:Stmt}{f:Addr}{fd:FuncData}{N ps:List Str}{k:Nat}{sp:Sp}(F:lA K x qual st f fd)(S:bf N ps (aQ st))(len:∀vs H Q E,sp vs H Q E->vs.length=ps.length) (lU:∀(aK:Value)(A:ai)(outer:List Env)(s:af)(H:Hp)(vs:List V)(Q:VK)(E:XK),dP k (A.deeper (envOfC qual (aQ st) s.heap.objs.size f aK))->sp vs H Q E->∃t,iT (mM kd P w K mg ay N qual (aQ st) f aK A outer s H E).uQ (jb st) t/\t {nx:=λ_ H'=>Q .bu H',rt:=Q} (start N vs) H):fu P w K mg ay kd (k+1) f fd ps sp:=by let(oc,od,kV,doc,pm,an,aK,ct,j5,rfl,lk,jP):=F.ex;erw[UR lk jP S len λA outer s H vs Q E hr lS=>?_];let(t,h,q):=lU aK A outer s H vs Q E hr lS;erw[t,h.uQ,q]
theorem lA.binds{x qual:Str}{st:Stmt}{f:Addr}{fd:FuncData}{ps:List Str}(F:lA K x qual st f fd) (h:∀(kV doc pm:Value)(an:Option Addr)(aK ct:Value)(us:List Value),us.length=ps.length->bindArgs (PySem.W.fnOf x qual (mK st) (jb st) (aQ st) .none kV doc pm an aK ct) #[us,[]]=pure (ps.zip us)):Binds K fd ps []:=by let(oc,od,kV,doc,pm,an,aK,ct,j5,rfl,lk,jP):=F.ex;erw[.all (h kV doc pm an aK ct)]
theorem IP{x qual:Str}{st:Stmt}{f:Addr}{oc:Value}{od an:Option Addr}{j5:Array (Option Value)}{kV doc pm aK ct:Value}(l:K.lookup f=some #[oc,od,.func (PySem.W.fnOf x qual (mK st) (jb st) (aQ st) .none kV doc pm an aK ct),j5]) (c:PySem.W.codeIn K aK qual=true)(k:PySem.W.keepIn K (.ref f)=true):lA K x qual st f (PySem.W.fnOf x qual (mK st) (jb st) (aQ st) .none kV doc pm an aK ct):=#[#[oc,od,kV,doc,pm,an,aK,ct,j5,Z,l,c],k]
end
section
variable {X:Cx}
theorem pv(i:Nat){x:Str}{pos:Pos}(hN:autoParam (X.N[i]? =some x) r8_._auto_1)(hv:autoParam (DT X.env.scope x) d8_._auto_1)(hd:autoParam ((x==("__debug__":Str))=false) q8_._auto_1) (jP:autoParam ((x==("__classdict__":Str))=false) q8_._auto_1):PE X (.Name x pos) (wx i):=QR hN hv hd jP
end
theorem aP{A B:Prop}(h:B):if false=true then A else B:=by rw[bc eK];erw[h]
theorem bM{A B:Prop}(h:A):if true=true then A else B:=by rw[ba rfl];erw[h]
theorem fQ{c A B:Prop}[Decidable c](h1:c->A)(h2:¬c->B):if c then A else B:=by
 by_cases h:c
 ·rw[ba h]
  erw[h1 h]
 ·rw[bc h]
  erw[h2 h]
def aF(H H':Hp):Prop:=∀b o,H b=some o->H' b=some o
theorem aF.refl(H:Hp):aF H H:=λ_ _ h=>h
theorem aF.trans(a:aF H H1)(b:aF H1 H2):aF H H2:=λc o h=>b c o (a c o h)
theorem aF.seq{K:aa}(e:aF H H')(h:aD K H a xs):aD K H' a xs:=by
 rcases h with(h|⟨o,h⟩)|h
 ·erw[.inl (.inl (e _ _ h))]
 ·erw[.inl (.inr #[o,e _ _ h])]
 ·erw[.inr h]
def Wd (i:Int):Prop:=i.natAbs<2^5000
theorem Wd.bits(h:Wd i):Builtin.Int.intBits i<=2^20:=iG (PyProof.Rows.intBits_le h) aw
theorem Wd.log(h:Wd i):i.natAbs.log2<9000:=by
 by_cases e:i.natAbs=0
 ·rw[e];decide
 ·have h1:i.natAbs.log2<5000:=(Nat.log2_lt e).mpr h
  lia
section
variable {X:Cx}
theorem zq:cX X (binaryOp .FloorDiv) (rI (λ_ j=>0<j/\Wd j) λi j=>.int (i/j)):=zr λi j _ _ _ _ _ hc q=>by have h1:(0:Int)<j:=hc.1;erw[floordiv_int ao (by rw[Int.fdiv_eq_ediv_of_nonneg i ao];erw[q]) (.inl (X0 hc.2.log))]
theorem Rk:cX X (binaryOp .FloorDiv) (rI (λ_ j=>j≠0/\Wd j) λi j=>.int (i.fdiv j)):=zr λ_ _ _ _ _ _ _ hc q=>floordiv_int hc.1 q (.inl (X0 hc.2.log))
end
def vR(K:aa)(H:Hp)(x:V)(T:String):Prop:=match x with | .bu=>T="NoneType" | .bl _=>T="bool" | .int _=>T="int" | .str _=>T="str" | .ref a=>(T="list"/\∃xs,aD K H a xs)\/(T="tuple"/\∃xs,aU K H a xs) |_=>False
def jg(T n:String):Bool:=T==n||(T=="bool"&&n=="int")
def BH:List String:=["NoneType","bool","int","str","list","tuple"]
def yz:List String:=["bool","int","str","list","tuple"]
theorem To{K:aa}{n:String}(h1:T∈BH)(h2:n∈yz):PySem.W.kitOne K (.type T) (.type n)=some (jg T n):=by
 have all:BH.all (λT=>yz.all λn=>PySem.W.kitOne [] (.type T) (.type n)==some (jg T n))=true:=by decide+kernel
 have a1:=gc.mp all T h1;have a2:=gc.mp a1 n h2;have e:PySem.W.kitOne K (.type T) (.type n)=PySem.W.kitOne [] (.type T) (.type n):=by unfold PySem.W.kitOne PySem.W.kitCls PySem.W.subIn;rfl
 rw[e];erw[fK.mp a2]
section
variable {X:Cx}
theorem vR.mem{K:aa}(h:vR K H x T):T∈BH:=by cases x with |bu=>cases(show T="NoneType" from h);decide |bl b=>cases(show T="bool" from h);decide |int b=>cases(show T="int" from h);decide |str b=>cases(show T="str" from h);decide |ref a=>rcases(show(T="list"/\∃xs,aD K H a xs)\/(T="tuple"/\∃xs,aU K H a xs)from h)with⟨e,_⟩|⟨e,_⟩<;>cases e<;>decide |_=>exact(show False from h).elim
theorem Tp{pins:List (Addr×Obj)}{s:af}{O:St}{H:Hp}{x:V}{u:Value}{T:String}(I:Inv X pins O H s)(rx:RelV x u)(ty:vR X.K H x T): ∃P:Heap->Prop,PySem.W.KitX X.K u (.type T) P/\P s.heap/\u≠ .builtin "__main__.__loader__#opaque":=by cases x with
 |bu=>cases(show T="NoneType" from ty);cases(show u=Value.none from rx);erw[_,PySem.W.kitx_none,True.intro,λz=>nomatch z] |bl b=>cases(show T="bool" from ty);cases(show u=Value.bool b from rx);erw[_,PySem.W.kitx_bool,True.intro,λz=>nomatch z] |int b=>cases(show T="int" from ty);let(t,q):=(show∃t,u=Value.int b t from rx);cases q;erw[_,PySem.W.kitx_int,True.intro,λz=>nomatch z] |str b=>cases(show T="str" from ty);let(t,q):=(show∃t,u=Value.str b t from rx);cases q;erw[_,PySem.W.kitx_str,True.intro,λz=>nomatch z] |ref a=>
  cases(show u=Value.ref a from rx);rcases(show(T="list"/\∃xs,aD X.K H a xs)\/(T="tuple"/\∃xs,aU X.K H a xs)from ty)with⟨e,xs,hx⟩|⟨e,xs,hx⟩
  ·cases e
   let(its,r,(o,n,h1,h2,_),_):=I.list hx;erw[_,PySem.W.kitx_list,#[o,h1,h2],λz=>nomatch z]
  ·cases e
   let(its,r,(o,h1,h2,_),_):=I.tuple hx;erw[_,PySem.W.kitx_tuple,#[o,h1,h2],λz=>nomatch z] |_=>exact(show False from ty).elim
inductive aeF(K:aa)(xs:List V)(H:Hp)(Q:VK):Prop |mk (x:_)(T:_)(n:_)(b:_)(h0:xs=[x,.ty n])(h1:vR K H x T)(h2:n∈yz)(h3:jg T n=b)(h4:Q (.bl b) H)
def G9(K:aa):List V->Hp->VK->Prop:=λxs H Q=>aeF K xs H Q
theorem abJ:fw X (.builtin "isinstance") (G9 X.K):=by intro pins s O H xs us Q I r h;let(x,T,n,b,rfl,ty,hn,rfl,q):=h;let(u,c,rfl,rx,rc):=vals2 r;cases(show c=Value.type n from rc);let(P,agJ,p,hx):=Tp I rx ty;erw[PySem.W.kia_one agJ I.iO p (To ty.mem hn) hx λtk=>#[.bl (jg T n),H,I.tok _,Z,q]]
inductive aeE(K:aa)(xs:List V)(H:Hp)(Q:VK):Prop |mk (x:V)(T:String)(p:Addr)(ns:List String)(b:Bool)(h0:xs=[x,.ref p])(h1:H p=some (.tup (ns.map V.ty)))(h2:vR K H x T)(h3:(∀n∈ns,n∈yz))(h4:ns.any (jg T)=b)(h5:Q (.bl b) H)
def G8(K:aa):List V->Hp->VK->Prop:=λxs H Q=>aeE K xs H Q
theorem Tn{K:aa}{T:String}(h1:T∈BH):∀{ns:List String},(∀n∈ns,n∈yz)->PySem.W.kitAny K (.type T) (ns.map Value.type)=some (ns.any (jg T)) |[],_=>rfl |n::r,h=>by have e:=To (K:=K) h1 (h n (Kv ..));have ih:=Tn (K:=K) h1 (ns:=r) λm hm=>h m (yi _ hm);rw[rE,PySem.W.kitAny,e,yp];cases jg T n with |true=>rfl |false=>simpa using ih
theorem KS:∀{ns:List String}{us:List Value},Vals (ns.map V.ty) us->us=ns.map Value.type |[],_,.nil=>rfl |n::r,_,.cons q t=>by cases(show _=Value.type n from q);rw[KS t];rfl
theorem abI:fw X (.builtin "isinstance") (G8 X.K):=by intro pins s O H xs us Q I r h;let(x,T,p,ns,b,rfl,hp,ty,hn,rfl,q):=h;let(u,c,rfl,rx,rc):=vals2 r;cases(show c=Value.ref p from rc);let(P,agJ,pp,hx):=Tp I rx ty;let(_,its,rv,(cls,dd,dt,sl),h1,h2,n,h3):=(show jX X.prog X.w H s.heap p (.tup (ns.map V.ty))from I.bS p _ hp);simp only at h2 h3;subst h2 h3;have e:=KS rv;subst e;erw[PySem.W.kia_tup agJ I.iO pp h1 (Tn ty.mem hn) hx λtk=>#[.bl _,H,I.tok _,Z,q]]
end
mutual
def RD(K:aa)(H:Hp):V->ah->Prop |x,.none=>x= .bu |x,.bool b=>x= .bl b |x,.int i=>x= .int i |x,.str y=>x= .str y |x,.list ds=>∃a xs,x= .ref a/\aD K H a xs/\aI K H xs ds |x,.tuple ds=>∃a xs,x= .ref a/\aU K H a xs/\aI K H xs ds |_,.dict _=>False
def aI (K:aa)(H:Hp):List V->List ah->Prop |xs,[]=>xs=[] |xs,d::ds=>∃y ys,xs=y::ys/\RD K H y d/\aI K H ys ds
end
section
variable {X:Cx}
mutual
theorem RD.reads{pins:List (Addr×Obj)}{s:af}{O:St}{H:Hp}(I:Inv X pins O H s):∀{x:V}{u:Value}(d:ah),RelV x u->RD X.K H x d->∃as,Reads s.heap u d as |x,u,.none,r,h=>by cases(show x= .bu from by simpa[RD]using h);cases(show u=Value.none from r);erw[_,.none] |x,u,.bool b,r,h=>by cases(show x= .bl b from by simpa[RD]using h);cases(show u=Value.bool b from r);erw[_,.bool b] |x,u,.int i,r,h=>by cases(show x= .int i from by simpa[RD]using h);let(t,q):=(show∃t,u=Value.int i t from r);cases q;erw[_,.int i t] |x,u,.str y,r,h=>by cases(show x= .str y from by simpa[RD]using h);let(t,q):=(show∃t,u=Value.str y t from r);cases q;erw[_,.str y t] |x,u,.list ds,r,h=>by rw[RD]at h;let(a,xs,rfl,hx,hd):=h;cases(show u=Value.ref a from r);let(its,rv,(o,n,h1,h2,h3,h4),_):=I.list hx;let(as,q):=aI.reads I ds rv hd;erw[_,.list h1 h2 h4 (by simpa using q)] |x,u,.tuple ds,r,h=>by rw[RD]at h;let(a,xs,rfl,hx,hd):=h;cases(show u=Value.ref a from r);let(its,rv,(o,h1,h2,n,h4),_):=I.tuple hx;let(as,q):=aI.reads I ds rv hd;erw[_,.tuple h1 h2 h4 (by simpa using q)] |x,u,.dict _,r,h=>by simp[RD]at h
theorem aI.reads {pins:List (Addr×Obj)}{s:af}{O:St}{H:Hp}(I:Inv X pins O H s):∀{xs:List V}{us:List Value}(ds:List ah),Vals xs us->aI X.K H xs ds->∃as,ReadsAll s.heap us ds as |xs,us,[],r,h=>by cases(show xs=[]from by simpa[aI]using h);cases r;erw[_,.nil] |xs,us,d::ds,r,h=>by rw[aI]at h;let(y,ys,rfl,h1,h2):=h;cases r with |cons ra rb=>let(as,q):=RD.reads I d ra h1;let(bs,q'):=aI.reads I ds rb h2;erw[_,.cons q q']
end
inductive aeM(K:aa)(x:V)(y:V)(H:Hp)(Q:VK):Prop |mk (d:_)(e:_)(h0:RD K H x d)(h1:RD K H y e)(h2:SeqAt.shaped d=true)(h3:SeqAt.shaped e=true)(h4:Q (.bl (PyData.eqv d e)) H)
def Ga(K:aa):R2:=λx y H Q=>aeM K x y H Q
inductive aey(K:aa)(x:V)(y:V)(H:Hp)(Q:VK):Prop |mk (d:_)(e:_)(h0:RD K H x d)(h1:RD K H y e)(h2:SeqAt.shaped d=true)(h3:SeqAt.shaped e=true)(h4:Q (.bl (!PyData.eqv d e)) H)
def G5(K:aa):R2:=λx y H Q=>aey K x y H Q
theorem a38(hu:X.A.units+64<cLine):cX X (compareOp .Eq) (Ga X.K):=by intro pins s O H x y v u Q I rx ry h;let(d,e,hd,he,sd,se,q):=h;let(as,ra):=RD.reads I d rx hd;let(bs,rb):=RD.reads I e ry he;erw[eq_dataH ra rb sd se hu #[.bl _,H,I,Z,q]]
theorem a34(hu:X.A.units+64<cLine):cX X (compareOp .NotEq) (G5 X.K):=by intro pins s O H x y v u Q I rx ry h;let(d,e,hd,he,sd,se,q):=h;let(as,ra):=RD.reads I d rx hd;let(bs,rb):=RD.reads I e ry he;erw[ne_dataH ra rb sd se hu #[.bl _,H,I,Z,q]]
end
theorem aF.new{t:Addr}(ht:H t=none):aF H (upd H t o):=λb o' e=>by rw[aY (eM e ht)];erw[e]
structure Nw(H H':Hp)(p:Addr)(o:HO):Prop where
 no:H p=none
 at':H' p=some o
 same:aF H H'
 eq:H'=upd H p o
theorem Nw.of(h:H p=none):Nw H (upd H p o) p o:=#[h,bZ,.new h,Z]
def DP:List Str:=["len","abs","min","max","range","isinstance","int","bool","str","tuple","list","any","all","sum","zip","enumerate","sorted","reversed","ord","chr","divmod","repr","dict","set"]
def m8 (mg:cm):Prop:=∀x∈DP,mg x=none
theorem m8.at{mg:cm}(B:m8 mg)(x:Str)(h:autoParam (x∈DP) q8_._auto_1):mg x=none:=B x h
theorem dg{α:Type}{C:List α->Prop}(h:∀a,C [a]):∀us:List α,us.length=1->C us |[_],_=>h _
theorem eD{α:Type}{C:List α->Prop}(h:∀a b,C [a,b]):∀us:List α,us.length=2->C us |[_,_],_=>h _ _
theorem iB{α:Type}{C:List α->Prop}(h:∀a b c,C [a,b,c]):∀us:List α,us.length=3->C us |[_,_,_],_=>h _ _ _
theorem xV{α:Type}{C:List α->Prop}(h:∀a b c d,C [a,b,c,d]):∀us:List α,us.length=4->C us |[_,_,_,_],_=>h _ _ _ _
theorem al5{α:Type}{C:List α->Prop}(h:∀a b c d e,C [a,b,c,d,e]):∀us:List α,us.length=5->C us |[_,_,_,_,_],_=>h _ _ _ _ _
def UL(N P:List Str)(sc:Scope):Bool:=decide (sc.kind= .function)&& !sc.isCoroutine&& !sc.isGenerator&&decide N.Nodup&&decide (N.take P.length=P)&&P.all (λx=>decide (sc.names.lookup x=some .local\/sc.names.lookup x=some .cell))&&sc.names.all λy=>decide (y.2≠ .free)
theorem bo{P:List Str}(h:UL N P sc=true):bf N P sc:=by unfold UL at h;simp only[fA,Eg,Bs,gc]at h;let((((((h1,h2),h3),h4),h5),h6),h7):=h;erw[h1,h2,h3,h4,h5,h6,h7]
structure FA(K:aa)(mg:cm)(x:Str)(st:Stmt):Prop where ex:∃f fd,mg x=some (.ref f)/\lA K x x st f fd
def bj(P:ag)(w:World)(K:aa)(mg:cm)(ay:Heap)(x:Str)(k:Nat)(sp:Sp):Prop:=∃f fd ps,fu P w K mg ay kd k f fd ps sp/\mg x=some (.ref f)/\PySem.W.keepIn K (.ref f)=true/\Binds K fd ps []
section
variable {P:ag}{w:World}{K:aa}{mg:cm}{ay:Heap}
theorem a9i{h:Heap}{x:Str}{st:Stmt}{f:Addr}{oc:Value}{od an:Option Addr}{j5:Array (Option Value)}{kV doc pm aK ct:Value}(X:K.In h)(G:h.Ns mainGlobals mg) (a:PySem.W.nsIn K mainGlobals x=some (some (.ref f))) (l:K.lookup f=some #[oc,od,.func (PySem.W.fnOf x x (mK st) (jb st) (aQ st) .none kV doc pm an aK ct),j5]) (c:PySem.W.codeIn K aK x=true)(k:PySem.W.keepIn K (.ref f)=true):FA K mg x st:=#[f,_,Be X G a,IP l c k]
theorem FA.has{x:Str}{st:Stmt}{N ps:List Str}{k:Nat}{sp:Sp}(F:FA K mg x st)(S:bf N ps (aQ st))(len:∀vs H Q E,sp vs H Q E->vs.length=ps.length) (hb:∀(kV doc pm:Value)(an:Option Addr)(aK ct:Value)(us:List Value),us.length=ps.length->bindArgs (PySem.W.fnOf x x (mK st) (jb st) (aQ st) .none kV doc pm an aK ct) #[us,[]]=pure (ps.zip us)) (lU:∀(f:Addr)(aK:Value)(A:ai)(outer:List Env)(s:af)(H:Hp)(vs:List V)(Q:VK)(E:XK),dP k (A.deeper (envOfC x (aQ st) s.heap.objs.size f aK))->sp vs H Q E->∃t,iT (mM kd P w K mg ay N x (aQ st) f aK A outer s H E).uQ (jb st) t/\t {nx:=λ_ H'=>Q .bu H',rt:=Q} (start N vs) H):bj P w K mg ay x (k+1) sp:=by let(f,fd,hm,F):=F.ex;erw[f,fd,ps,F.ok S len λaK A outer s H vs Q E=>lU f aK A outer s H vs Q E,hm,F.kp,F.binds hb]
end
section
variable {X:Cx}{k:Nat}{x:Str}{p pos:Pos}{e:Expr}{es:List Expr}{t:TA}{sp:Sp}
def EN(sp:Sp)(t:TA):TE:=λO H Q=>t O H λvs H1=>sp vs H1 Q E0
theorem a2A(F:bj X.prog X.w X.K X.mg X.ay x k sp)(hr:dP k X.A)(hg:Gl X x)(ha:PA X (e::es) t)(ju:autoParam ((x==("__debug__":Str))=false) q8_._auto_1) (he:autoParam (starEach (e::es) X.env=(false,eval e X.env)::starEach es X.env) r8_._auto_1)(gr:autoParam ((backTo pos (starEach es X.env)).any (·.1)=false) r8_._auto_1): PE X (.Call (.Name x p) (e::es) [] pos) (EN sp t):=by
 let(f,fd,ps,F,hm,hk,hb):=F;have h:=a2E (pos:=pos) (p:=p) F hr hg hm hk hb .nil Cf ha ju he gr;intro pins s O H Q I hq;erw[h pins s O H Q I ?_];have e1:(λ(vs:List V) H1=>sp (vs++[]) H1 Q E0)=λvs H1=>sp vs H1 Q E0:=by funext vs H1;rw[om]
 show t O H λvs H1=>sp (vs++[]) H1 Q E0;rw[e1];erw[hq]
theorem pf(F:bj X.prog X.w X.K X.mg X.ay x j sp)(hr:dP k X.A)(ha:PA X (e::es) t)(hjk:autoParam (j<=k) q8_._auto_1)(hg:autoParam (Gl X x) r8_._auto_1)(ju:autoParam ((x==("__debug__":Str))=false) q8_._auto_1)(he:autoParam (starEach (e::es) X.env=(false,eval e X.env)::starEach es X.env) r8_._auto_1)(gr:autoParam ((backTo pos (starEach es X.env)).any (·.1)=false) r8_._auto_1):PE X (.Call (.Name x p) (e::es) [] pos) (EN sp t):=a2A F (hr.mono hjk) hg ha ju he gr
theorem cN:cX X (binaryOp .Mult) (rI (λi j=>IntMulOk i j) λi j=>.int (i*j)):=zr λ_ _ _ _ _ _ _ hc q=>mul_int q hc
theorem a37:cX X (compareOp .Eq) (kM λi j=>.bl (decide (i=j))):=wW λ_ _ _ _ _ _ _ q=>eq_int (by rw[Xn];erw[q])
theorem a33:cX X (compareOp .NotEq) (kM λi j=>.bl (!decide (i=j))):=wW λ_ _ _ _ _ _ _ q=>ne_int (by rw[bne,Xn];erw[q])
theorem a39(hu:X.A.units+64<cLine):cX X (compareOp .Eq) (λx y H Q=>kM (λi j=>.bl (decide (i=j))) x y H Q\/Ga X.K x y H Q):=a37.or (a38 hu)
theorem a35(hu:X.A.units+64<cLine):cX X (compareOp .NotEq) (λx y H Q=>kM (λi j=>.bl (!decide (i=j))) x y H Q\/G5 X.K x y H Q):=a33.or (a34 hu)
mutual
theorem eqv_refl:∀d:ah,d.canLay0=true->PyData.eqv d d=true | .none,_=>by simp[PyData.eqv] | .bool b,_=>by simp[PyData.eqv] | .int i,_=>by simp[PyData.eqv] | .str x,_=>by simp[PyData.eqv] | .list ds,h=>by simp only[PyData.eqv];erw[eqvAll_refl ds (by simpa[PyData.canLay0]using h)] | .tuple ds,h=>by simp only[PyData.eqv];erw[eqvAll_refl ds (by simpa[PyData.canLay0]using h)] | .dict _,h=>by simp[PyData.canLay0]at h
theorem eqvAll_refl:∀ds:List ah,PyData.canLayAll0 ds=true->PyData.eqvAll ds ds=true |[],_=>by simp[PyData.eqvAll] |d::ds,h=>by simp only[PyData.canLayAll0,fA]at h;simp only[PyData.eqvAll,fA];erw[eqv_refl d h.1,eqvAll_refl ds h.2]
end
theorem fO{K:aa}(i:Int):RD K H (.int i) (.int i):=by simp[RD]
theorem bC{K:aa}(x:Str):RD K H (.str x) (.str x):=by simp[RD]
theorem yY{K:aa}:RD K H .bu .none:=by simp[RD]
theorem fN{K:aa}{H:Hp}{p:Addr}{xs:List V}{ds:List ah}(h:aU K H p xs)(r:aI K H xs ds):RD K H (.ref p) (.tuple ds):=by rw[RD];erw[p,xs,Z,h,r]
theorem wJ{K:aa}{H:Hp}{p:Addr}{xs:List V}{ds:List ah}(h:aD K H p xs)(r:aI K H xs ds):RD K H (.ref p) (.list ds):=by rw[RD];erw[p,xs,Z,h,r]
theorem cW{K:aa}:aI K H [] []:=by simp[aI]
theorem cG{K:aa}{H:Hp}{x:V}{xs:List V}{d:ah}{ds:List ah}(h:RD K H x d)(r:aI K H xs ds):aI K H (x::xs) (d::ds):=by rw[aI];erw[x,xs,Z,h,r]
inductive acQ(t:TS)(D:Ends)(O:St)(H:Hp):Prop |mk (K6:St->Hp->Prop)(h0:t {D with nx:=K6} O H)(h1:∀σ' H',K6 σ' H'->D.nx σ' H')
def YI(t:TS):TS:=λD O H=>acQ t D O H
theorem iZ{st:Stmt}{t:TS}(h:PS X st t):PS X st (YI t):=by intro pins s O H D I hq;let(K6,q,m):=hq;erw[aZ (h pins s O H _ I q) λf s1 q1=>?_];cases f with |next=>let(σ',H',I',q'):=q1;erw[σ',H',I',m _ _ q'] |brk=>erw[q1] |cont=>erw[q1] |ret u=>erw[q1]
end
def tQ(K:aa)(xs:List Str):Prop:=∀x∈xs,PySem.W.nsIn K mainGlobals x=some none
theorem tQ.nil{K:aa}:tQ K []:=λ_ h=>nomatch h
theorem tQ.cons{K:aa}(a:PySem.W.nsIn K mainGlobals x=some none)(r:tQ K xs):tQ K (x::xs):=λy hy=>by
 rcases cM.mp hy with e|e
 ·rw[e];erw[a]
 ·erw[r y e]
theorem abW{K:aa}{mg:cm}(X:K.In h)(G:h.Ns mainGlobals mg)(a:tQ K DP):m8 mg:=λx hx=>PySem.W.mg_none_of X G (a x hx)
theorem JA{env:Env}:∀(ns:List (Str×NameKind))(cs:List (Str×Addr)),(∀x∈ns,x.2= .free->∃c,env.cells.lookup x.1=some c)->(∀x c,cs.lookup x=some c->env.cells.lookup x=some c)->∃cl,(forIn ns cs (λx r=>if(x.2==NameKind.free)=true then do let a<-cellOf env x.1;pure (ForInStep.yield ((x.1,a)::r))else pure (ForInStep.yield r)):Sem (List (Str×Addr)))=pure cl/\(∀x c,cl.lookup x=some c->env.cells.lookup x=some c)/\(∀x c,cs.lookup x=some c->∃c',cl.lookup x=some c')/\∀x∈ns,x.2= .free->∃c,cl.lookup x.1=some c
 |[],cs,_,h2=>#[cs,Z,h2,λx c e=>#[c,e],λ_ h=>nomatch h] |(n,k)::r,cs,h1,h2=>by
  by_cases hk:k= .free
  ·subst hk
   let(c,hc):=h1 (n,.free) (.head _) rfl;have e1:cellOf env n=pure c:=by unfold cellOf;rw[show env.cells.lookup n=some c from hc]
   let(cl,a1,a2,a3,a4):=JA r ((n,c)::cs) (λx hx=>h1 x (.tail _ hx)) (λx d e=>by rw[kH]at e;cases z:x==n with |true=>rw[z]at e;cases e;rw[fK.mp z];erw[hc] |false=>rw[z]at e;erw[h2 x d e]);erw[cl,?_,a2,λx d e=>?_,λx hx hf=>?_]
   ·rw[Kz]
    show(do let r'<-(if(NameKind.free==NameKind.free)=true then do let a<-cellOf env n;pure (ForInStep.yield ((n,a)::cs))else pure (ForInStep.yield cs));_)=_;rw[ba (by rfl),e1];erw[a1]
   ·by_cases z:x==n
    ·erw[a3 x c (by rw[kH,z])]
    ·erw[a3 x d (by rw[kH,EA.mpr z];erw[e])]
   ·rcases cM.mp hx with rfl|hx
    ·erw[a3 n c (by rw[kH,Ke])]
    ·erw[a4 x hx hf]
  ·let(cl,a1,a2,a3,a4):=JA r cs (λx hx=>h1 x (.tail _ hx)) h2
   erw[cl,?_,a2,a3,λx hx hf=>?_]
   ·rw[Kz]
    show(do let r'<-(if(k==NameKind.free)=true then do let a<-cellOf env n;pure (ForInStep.yield ((n,a)::cs))else pure (ForInStep.yield cs));_)=_;rw[bc (by simpa using hk)];erw[a1]
   ·rcases cM.mp hx with rfl|hx
    ·erw[absurd hf hk]
    ·erw[a4 x hx hf]
theorem JB(h1:∀x∈scope.names,x.2= .free->∃c,env.cells.lookup x.1=some c): ∃cl,closureFor scope env=pure cl/\(∀x c,cl.lookup x=some c->env.cells.lookup x=some c)/\∀x∈scope.names,x.2= .free->∃c,cl.lookup x.1=some c:=by
 let(cl,a1,a2,_,a4):=JA (env:=env) scope.names [] h1 (λx c e=>nomatch e);erw[cl,?_,a2,a4];unfold closureFor;show(forIn scope.names ([]:List (Str×Addr)) (λ(x:Str×NameKind) r=>match x with|(name,kind)=>if(kind==NameKind.free)=true then do let a<-cellOf env name;pure (ForInStep.yield ((name,a)::r))else pure (ForInStep.yield r))>>=λr=>(pure r:Sem (List (Str×Addr))))=pure cl;have ef:(λ(x:Str×NameKind)(r:List (Str×Addr))=>match x with|(name,kind)=>(if(kind==NameKind.free)=true then do let a<-cellOf env name;pure (ForInStep.yield ((name,a)::r))else pure (ForInStep.yield r):Sem (ForInStep (List (Str×Addr))))) =λx r=>if(x.2==NameKind.free)=true then do let a<-cellOf env x.1;pure (ForInStep.yield ((x.1,a)::r))else pure (ForInStep.yield r):=by funext x r;let(n,k):=x;rfl
 rw[ef,a1];rfl
theorem SS{env:Env}(hk:env.scope.kind= .function){x:Str}(hx:env.kindOf x=some .cell):∀{names:List (Str×NameKind)},names.lookup x=some .free->(names.map λ(n,k)=>if(k==NameKind.free&&env.scope.kind== .function&&env.kindOf n==some .cell)then(n,NameKind.cell)else(n,k)).lookup x=some .cell |[],h=>nomatch h |(n,k)::r,h=>by have ih:=@SS env hk x hx r;show List.lookup x ((if(k==NameKind.free&&env.scope.kind== .function&&env.kindOf n==some .cell)=true then(n,NameKind.cell)else(n,k))::_)=_;cases z:x==n with |true=>simp only[kH,z]at h;cases h;have e:=fK.mp z;subst e;rw[ba (by rw[hk,hx];rfl),kH,z] |false=>simp only[kH,z]at h;split<;>(simp only[kH,z];erw[ih h])
def df(X:Cx)(N:List Str)(scope:Scope)(cl:List (Str×Addr))(s:af)(H:Hp)(fp:List Addr)(pins:List (Addr×Obj)):Cx:={prog:=X.prog,w:=X.w,K:=X.K,mg:=X.mg,ay:=X.ay,A:=X.A,N:=N,s₀:=s,H₀:=H,env:=compEnvC scope cl s.heap.objs.size X.env,outer:=X.stack,stack:=X.stack,ex:=fp,fn:=λ_=>false,calm:=X.calm,pn:=X.pn++pins,xe:=λ_ _=>False}
def stC(js:List (Option Nat))(O:St):St:=js.map λ|none=>none|some j=>(O[j]?).join
def Ay(X:Cx)(N:List Str)(js:List (Option Nat))(scope:Scope):Bool:=N.length==js.length&&(N.zip js).all λp=>match p.2 with|none=>true|some j=>X.N[j]? ==some p.1&&scope.names.lookup p.1==some NameKind.free&&X.env.kindOf p.1==some NameKind.cell
def tJ(X:Cx)(scope:Scope):Bool:=scope.kind== .function&&X.env.scope.kind== .function&&scope.names.all λx=>match x.2 with | .free=>X.env.kindOf x.1==some NameKind.cell | .cell=>false | .local=>scope.names.lookup x.1==some NameKind.local |_=>true
section
variable {X:Cx}{pins:List (Addr×Obj)}{O:St}{H:Hp}{s:af}
theorem lookup_mem{α β:Type}[BEq α][LawfulBEq α]:∀{l:List (α×β)}{x:α}{b:β},l.lookup x=some b->(x,b)∈l |[],_,_,h=>nomatch h |(n,k)::r,x,b,h=>by rw[kH]at h;cases z:x==n with |true=>rw[z]at h;cases h;rw[fK.mp z];erw[.head _] |false=>rw[z]at h;erw[.tail _ (lookup_mem h)]
theorem Qq{env:Env}{x:Str}{k:NameKind}:∀{names:List (Str×NameKind)},(names.map λ(n,k)=>if(k==NameKind.free&&env.scope.kind== .function&&env.kindOf n==some .cell)then(n,NameKind.cell)else(n,k)).lookup x=some k->names.lookup x=some k\/(k= .cell/\names.lookup x=some .free) |[],h=>nomatch h |(n,k')::r,h=>by have ih:=@Qq env x k r;have h':List.lookup x ((if(k'==NameKind.free&&env.scope.kind== .function&&env.kindOf n==some .cell)=true then(n,NameKind.cell)else(n,k'))::(r.map λ(n,k)=>if(k==NameKind.free&&env.scope.kind== .function&&env.kindOf n==some .cell)then(n,NameKind.cell)else(n,k)))=some k:=h;cases z:x==n with
 |true=>
  split at h'
  ·rename_i hc
   simp only[kH,z]at h';cases h';rw[fA,fA]at hc;have e:k'= .free:=fK.mp hc.1.1;subst e;erw[.inr #[Z,by rw[kH,z]]]
  ·simp only[kH,z]at h'
   cases h';erw[.inl (by rw[kH,z])] |false=>
  rw[kH,z];erw[ih ?_];split at h'
  ·simpa only[kH,z]using h'
  ·simpa only[kH,z]using h'
theorem Inv.comp{N:List Str}{js:List (Option Nat)}{cl:List (Str×Addr)}{fp:List Addr}{tk:Nat}(I:Inv X pins O H s)(hN:Ay X N js scope=true)(hS:tJ X scope=true) (c1:∀x c,cl.lookup x=some c->X.env.cells.lookup x=some c)(c2:∀x∈scope.names,x.2= .free->∃c,cl.lookup x.1=some c)(hf:∀b∈fp,jZ X pins H b)(hfl:∀b∈fp,b<s.heap.objs.size) (hn:h'.Ns s.heap.objs.size λ_=>none)(hk:∀b o,s.heap.get? b=some o->h'.get? b=some o):Inv (df X N scope cl s H fp pins) [] (stC js O) H {s with heap:=h',toks:=tk}:=by
 unfold tJ at hS;rw[fA,fA]at hS;let((s1,s2),s3):=hS;have mF:scope.kind= .function:=fK.mp s1;have a7v:X.env.scope.kind= .function:=fK.mp s2;unfold Ay at hN;rw[fA]at hN;let(n1,n2):=hN;have hlen:N.length=js.length:=fK.mp n1;have TM:∀x k,(relabel scope X.env).names.lookup x=some k->scope.names.lookup x=some k\/(k= .cell/\scope.names.lookup x=some .free):=λx k e=>Qq e;have a4N:∀x,scope.names.lookup x≠some .cell:=λx e=>by have:=gc.mp s3 _ (lookup_mem e);erw[eK this]
 have UK:∀b∈(df X N scope cl s H fp pins).fs,b∈X.env.locals::X.fs:=I.EW;have ok:(df X N scope cl s H fp pins).Ok:={
  mod:=I.ok.mod
  kind:=mF
  glob:=I.ok.glob
  blt:=I.ok.blt
  above:=aV _
  inj:=λx y c e1 e2=>I.ok.inj x y c (c1 x c e1) (c1 y c e2)
  has:=λx hx=>by
   have fr:scope.names.lookup x=some .free->∃c,cl.lookup x=some c:=λe=>c2 (x,.free) (lookup_mem e) rfl;rcases hx with e|e
   ·rcases TM x _ e with e|⟨_,e⟩
    ·erw[absurd e (a4N x)]
    ·erw[fr e]
   ·rcases TM x _ e with e|⟨z,_⟩
    ·erw[fr e]
    ·cases z
  xQ:=λx c e=>nomatch e
  hd:=I.ok.hd
  frames:=I.ok.frames
  yK:=.inl rfl
  Jd:=λb hb=>#[eY (hfl b hb),λx c e=>(hf b hb).2.2.2.2.1 x c (c1 x c e)]
  bs:=I.bs
  pE:=iG I.ok.pE I.sz
  xg:=λb o e hb=>by
   rcases(hf b hb).2.2.2.1 with z|z
   ·erw[I.ok.xg b o e z]
   ·erw[absurd (gK (cE e) (iG I.ok.pE z)) (we _)]
  tD:=λb hb z=>by
   let(_,q1,q2,_):=hf b hb;rcases cM.mp (UK b z)with e|e
   ·erw[q1 e]
   ·erw[q2 e]
  lW:=I.stack
  tf:=I.Lv};erw[ok,Z,I.bare,Un.kept hk,#[_,hn,λi x v e1 e2 e3=>?_],λx c e=>?_,I.bS.fresh (aV _),λx c e=>I.pj x c (c1 x c e),λp hp=>?_,I.bS.kept hk,?_]
 ·have xJ:(js.map λ|none=>none|some j=>(O[j]?).join)[i]? =some (some v):=e2
  rw[bO]at xJ;cases hj:js[i]? with |none=>rw[hj]at xJ;cases xJ |some o=>rw[hj]at xJ;cases o with |none=>cases xJ |some j=>
   have hz:(N.zip js)[i]? =some (x,some j):=by rw[Bo];erw[e1,hj]
   have VQ:=gc.mp n2 _ (fz hz);simp only[fA,fK]at VQ;let((h1,h2),h3):=VQ;have DF:(O[j]?).join=some v:=by simpa using xJ
   have hσ:O[j]? =some (some v):=by cases q:O[j]? with |none=>rw[q]at DF;cases DF |some o=>
    rw[q]at DF;have:o=some v:=by simpa using DF
    rw[this]
   let(m,hm,hl):=I.loc;let(u,r,l):=hl j x v h1 hσ (.inr (.inl h3));erw[u,r,?_];rcases l with⟨k,_⟩|⟨_,c,hc,p8⟩
   ·rw[h3]at k;cases k
   ·let(c',jR):=c2 (x,.free) (lookup_mem h2) rfl
    have:=c1 x c' jR;rw[hc]at this;cases this;erw[.inr #[.inl (SS a7v h3 h2),c,jR,?_]];let(ob,ho,hd):=p8;erw[ob,hk _ _ ho,hd]
 ·let(v,ob,ho,hd):=I.cell x c (c1 x c e)
  erw[v,ob,hk _ _ ho,hd]
 ·have Dn:p∈X.pn++pins:=by simpa[df]using hp
  let(a1,a2,a3,a4,a5):=I.pin p Dn;erw[hk _ _ a1,a2,eY (cE a1),λz=>?_,a5];rcases cM.mp (UK p.1 z)with e|e
  ·erw[a3 e]
  ·erw[a4 e]
 ·show(js.map _).length=N.length
  rw[aW,hlen]
end
theorem VO{prog:ag}{w:World}{A:ai}{R:Result->af->Prop}{s:af}{elt target iter:Expr}{ifs:List Expr}{scope:Scope}{pos:Pos}{it acc:Value}{env:Env}(I:Nat->af->Prop) (turn:∀n s,I n s->wpAny (model prog w) A (pyNext it) (λr s₁=>match r with |none=>R (.ok .next) s₁ |some v=>wpAny (model prog w) A (letOwnedTupleGo target it v) (λ_ s₁=>wpAny (model prog w) A (assign target env v) (λ_ s₂=>wpAny (model prog w) A (forIn ifs true λc r=>if r=true then do let ok<-isTrue c env (eval c env);pure (ForInStep.yield ok)else pure (ForInStep.yield r)) (λok s₃=>if ok=true then wpAny (model prog w) A (eval elt env) (λx s₄=>wpAny (model prog w) A (call (.builtin "list.append") [acc,x]) (λ_ s₅=>∃m,m<n/\I m s₅) (λ_ _=>False) s₄) (λ_ _=>False) s₃ else∃m,m<n/\I m s₃) (λ_ _=>False) s₂) (λ_ _=>False) s₁) (λ_ _=>False) s₁) (λ_ _=>False) s) (n:Nat)(h:I n s):codeAny (model prog w) A (.compLoop (.ListComp elt [#[target,iter,ifs,0]] scope pos) 0 it acc env) R s:=by erw[codeAny_loop Z I (λn s hI=>?_) n h];show wpAny _ A ((compTurn (.ListComp elt [#[target,iter,ifs,0]] scope pos) 0 it acc env).onRaise (λx=>do noteFrame x env;theTreesLotGoes x)) _ _ s;erw[wpAny_noted ?_];rw[compTurn_list];erw[aJ (tV (aJ (gJ (turn n s hI) (λr s₁ h₁=>?_) λ_ _ h'=>h'.elim)))];cases r with |none=>erw[cf h₁] |some v=>erw[aJ (gJ h₁ (λ_ Lp h₁=>?_) λ_ _ h'=>h'.elim)];erw[aJ (gJ h₁ (λ_ s₂ h₂=>aJ (gJ h₂ (λok s₃ h₃=>?_) λ_ _ h'=>h'.elim)) λ_ _ h'=>h'.elim)];cases ok with |false=>erw[cf #[Z,h₃]] |true=>erw[aJ (aJ (gJ h₃ (λx s₄ h₄=>aJ (gJ h₄ (λ_ s₅ h₅=>cf (cf #[Z,h₅])) λ_ _ h'=>h'.elim)) λ_ _ h'=>h'.elim))]
def K2(X:Cx)(ifs:List Expr)(t:TT):Prop:=∀(pins:List (Addr×Obj))(s:af)(O:St)(H:Hp)(Q:Bool->Hp->Prop),Inv X pins O H s->t O H Q->wpAny (model X.prog X.w) X.A (forIn ifs true λc r=>if r=true then do let ok<-isTrue c X.env (eval c X.env);pure (ForInStep.yield ok)else pure (ForInStep.yield r)) (TP X pins O Q) X.xe s
def kI:TT:=λ_ H Q=>Q true H
theorem e9:K2 X [] kI:=λ_ _ _ H _ I h=>wpAny_tests_nil #[H,I,h]
def m6(J:It)(g:TG)(tt:TT)(te:TE)(Q:VK)(D:Addr)(O:St)(H:Hp):Prop:=∃W:Nat->Nat->St->Hp->Prop,(∃m,W 0 m O H)/\∀i m σ' H',W i m σ' H'->(J.stop i H'/\Q (.ref D) H')\/(J.go i H'/\∀x H2,J.je i H' x H2->g x σ' H2 λσ3 H3=>tt σ3 H3 λok H4=>if ok=true then te σ3 H4 λy H5=>∃ys,H5 D=some (.lst ys)/\ys.length<sizeLine/\∃m',m'<m/\W (i+1) m' σ3 (upd H5 D (.lst (ys++[y]))) else∃m',m'<m/\W (i+1) m' σ3 H4)
def Lj(js:List (Option Nat))(wi:TI)(g:TG)(tt:TT)(te:TE):TE:=λO H Q=>wi O H λJ H1=>∀D H2,Nw H1 H2 D (.lst [])->m6 J g tt te Q D (stC js O) H2
theorem fH.but{P:ag}{w:World}{C:Addr}(ok:fH P w H h)(hn:H C=none)(hs:Heap.SameBut C h h'):fH P w H h':=λb ob e=>by
 refine(ok b ob e).rV (λc w' hc q=>(hs.2 c ?_).trans q) (λ_ q=>q) λ_ _ q=>q;rintro rfl;rcases hc with rfl|hc
 ·rw[hn]at e;cases e
 ·rw[hn]at hc;cases hc
set_option maxHeartbeats 1000000 in
theorem eQ{X:Cx}{N:List Str}{js:List (Option Nat)}{elt tg iter:Expr}{ifs:List Expr}{scope:Scope}{pos:Pos}{wi:TI}{g:TG}{tt:TT}{te:TE}(hc:X.calm=true)(hN:Ay X N js scope=true)(hS:tJ X scope=true) (hi:PI X tg iter wi)(hg:∀cl s H fp pins,PG (df X N scope cl s H fp pins) tg g)(ht:∀cl s H fp pins,K2 (df X N scope cl s H fp pins) ifs tt)(he:∀cl s H fp pins,PE (df X N scope cl s H fp pins) elt te) (hs:autoParam (∀x,foldedSetIterable iter X.env x=pure x) d8_._auto_1):PE X (.ListComp elt [#[tg,iter,ifs,0]] scope pos) (Lj js wi g tt te):=by
 intro pins s O H Q I h;have lV:=hS;unfold tJ at lV;rw[fA,fA]at lV;let((k1,k2),k3):=lV;have mF:scope.kind= .function:=fK.mp k1;have sT:∀x∈scope.names,x.2= .free->∃c,X.env.cells.lookup x.1=some c:=λx hx e=>by have:=gc.mp k3 x hx;rw[e]at this;erw[I.ok.has x.1 (.inl (fK.mp this))]
 have p8:∀x∈scope.names,x.2≠ .cell:=λx hx e=>by have:=gc.mp k3 x hx;rw[e]at this;erw[eK this]
 have zW:∀x∈scope.names,x.2= .local->scope.names.lookup x.1=some .local:=λx hx e=>by have:=gc.mp k3 x hx;rw[e]at this;erw[fK.mp this]
 let(cl,A2,c1,c2):=JB sT;rw[eval_ListComp];erw[WN (use:=none) Z hs A2 mF zW (aZ (hi pins s O H _ I h) λv s1 h1=>aZ h1 λzP s2 h2=>?_)];let(it,fp,tn,J,H2,e,I2,T,ow,f2,h2):=h2;subst e;have hD:H2 s2.heap.objs.size=none:=I2.bS.fresh (aV _);let(W,(m0,w0),turn):=h2 _ _ (Nw.of hD);erw[o7 (WM p8 (by intro y hy;simp at hy) (λh₁ sL sI=>?_) mF)];have nL:∀b∈fp,b<s2.heap.objs.size:=λb hb=>by let(o,e,_):=T.obj _ _ ow b hb;erw[cE e]
 have I3:Inv X pins O (upd H2 s2.heap.objs.size (.lst [])) {s2 with heap:=s2.heap.push {cls:=.type "list",dict:=none,data:=.seq ([]:List Value).toArray}}:=I2.CV (its:=[]) (t':=s2.toks) .nil (eX _);generalize sZ:s2.heap.push {cls:=.type "list",dict:=none,data:=.seq ([]:List Value).toArray}=h3 at I3 sL sI;have rS:h3.objs.size=s2.heap.objs.size+1:=by rw[<-sZ,pL]
 have zO:∀b o,s2.heap.get? b=some o->h3.get? b=some o:=λb o e=>by rw[<-sZ];erw[cF _ e]
 have f3:∀b∈fp,jZ X pins (upd H2 s2.heap.objs.size (.lst [])) b:=λb hb=>#[by rw[aY (eY (nL b hb))];exact(f2 b hb).1,(f2 b hb).2];have sF:∀b o,h3.get? b=some o->h₁.get? b=some o:=λb o e=>(sI.2 b (eY (cE e))).trans (cF _ e);have I4:Inv (df X N scope cl {s2 with heap:=h3} (upd H2 s2.heap.objs.size (.lst [])) fp pins) [] (stC js O) (upd H2 s2.heap.objs.size (.lst [])) {s2 with heap:=h₁,toks:=s2.toks+([]:List (Str×Value)).length}:=I3.comp (s:={s2 with heap:=h3}) hN hS c1 c2 f3 (λb hb=>by show b<h3.objs.size;rw[rS];erw[Bh (nL b hb)]) (by simpa using sL) sF;have rX:tn 0 h₁:=T.keep _ _ _ ow λb _ o e=>sF b o (zO b o e);have loop:codeAny (model X.prog X.w) X.A (.compLoop (.ListComp elt [#[tg,iter,ifs,0]] scope pos) 0 (.ref it) (.ref s2.heap.objs.size) (compEnvC scope cl h3.objs.size X.env)) (compPost (model X.prog X.w) X.A X.xe none (EP X pins O Q) (.ref s2.heap.objs.size) h3.objs.size) {s2 with heap:=h₁,toks:=s2.toks+([]:List (Str×Value)).length}:=by
  erw[VO (λn s'=>∃i σ' H',Inv (df X N scope cl {s2 with heap:=h3} (upd H2 s2.heap.objs.size (.lst [])) fp pins) [] σ' H' s'/\tn i s'.heap/\(∀b∈fp,H' b=none)/\W i n σ' H') ?_ m0 #[0,_,_,I4,rX,λb hb=>(f3 b hb).1,w0]];rintro n s5 ⟨i,σ5,H5,I5,mh,pk,w5⟩;have ki:∀{H':Hp},(∀b∈fp,H' b=none)->∀b∈fp,jZ (df X N scope cl {s2 with heap:=h3} (upd H2 s2.heap.objs.size (.lst [])) fp pins) [] H' b:=λ{H'} hn b hb=>by
   let(_,q1,q2,q3,q4,q5):=f3 b hb;erw[hn b hb,λz=>?_,I4.ok.tD b hb,.inl hb,λx c e=>q4 x c (c1 x c e),λp hp=>q5 p (by simpa[df]using hp)];have ck:b<h3.objs.size:=by rw[rS];erw[Bh (nL b hb)]
   erw[eY ck z]
  rcases turn i n σ5 H5 w5 with⟨stop,qn⟩|⟨go,step⟩
  ·erw[aZ (T.done (df X N scope cl {s2 with heap:=h3} (upd H2 s2.heap.objs.size (.lst [])) fp pins) rfl rfl rfl hc i [] s5 σ5 H5 _ I5 (ki pk) mh stop) λr s6 #[hr,I6]=>?_]
   subst hr;let(m,hm,_):=I6.loc;erw[m,hm,λh7 qy=>?_];have u0:Un (fZ X.stack) fp (upd H2 s2.heap.objs.size (.lst [])) H5 h3 s6.heap:=I6.ay;have ne:∀b o,h3.get? b=some o->b≠h3.objs.size:=λb o e=>eY (cE e);have u:Un (fZ X.stack) fp (upd H2 s2.heap.objs.size (.lst [])) H5 h3 h7:=#[λb o e n hb hx=>(qy.2 b (ne b o e)).trans (u0.keep b o e n hb hx),λb o e n hb hx=>let#[sl,q]:=u0.slot b o e n hb hx;#[sl,(qy.2 b (ne b o e)).trans q],u0.free,λb o e hx=>let#[o',q]:=u0.there b o e hx;#[o',(qy.2 b (ne b o e)).trans q],u0.lI,u0.kX,u0.lJ];have I7:Inv X pins O H5 {s6 with heap:=h7}:=I3.JG (s':={s6 with heap:=h7}) (ch:=fp) I6.os u (I6.bS.but I6.free qy) I6.bare λb hb=>#[(f3 b hb).2.2.2.1,(f3 b hb).2.1,(f3 b hb).2.2.2.2.1,(f3 b hb).2.2.2.2.2];erw[.ref s2.heap.objs.size,H5,I7,Z,qn]
  ·erw[aZ (T.item (df X N scope cl {s2 with heap:=h3} (upd H2 s2.heap.objs.size (.lst [])) fp pins) rfl rfl rfl hc i [] s5 σ5 H5 _ I5 (ki pk) mh go) λr s6 #[u,hr,h6]=>?_]
   subst hr;erw[aZ h6 λ_ s7 #[x,H7,I7,r7,y7,lK,Ab]=>?_];have AW:=I7.pinned (ki Ab) (T.obj _ _ lK);erw[aZ (hg _ _ _ _ _ _ s7 σ5 H7 x u _ AW r7 (step x H7 y7)) λ_ s8 #[σ8,H8,I8,q8]=>?_];erw[aZ (ht _ _ _ _ _ _ s8 σ8 H8 _ I8 q8) λok s9 #[H9,I9,q9]=>?_];have again:∀{s':af}{σ7:St}{H7:Hp},Inv (df X N scope cl {s2 with heap:=h3} (upd H2 s2.heap.objs.size (.lst [])) fp pins) ([]++qc fp s7.heap) σ7 H7 s'->(∃m',m'<n/\W (i+1) m' σ7 H7)->∃m,m<n/\∃i σ' H',Inv (df X N scope cl {s2 with heap:=h3} (upd H2 s2.heap.objs.size (.lst [])) fp pins) [] σ' H' s'/\tn i s'.heap/\(∀b∈fp,H' b=none)/\W i m σ' H':=λ{s' σ7 H7} J7 n7=>by let(m',hm,w7):=n7;erw[m',hm,i+1,σ7,H7,J7.ui,T.keep _ _ _ lK λb hb o e=>(J7.pin (b,o) (gS _ (gS _ (oO hb e)))).1,λb hb=>?_,w7];let(o,e,d):=T.obj _ _ lK b hb;exact(J7.pin (b,o) (gS _ (gS _ (oO hb e)))).2.1
   cases ok with |false=>rw[bc eK]at q9⊢;erw[again I9 q9] |true=>rw[ba rfl]at q9⊢;erw[aZ (he _ _ _ _ _ _ s9 σ8 H9 _ I9 q9) λyv uu #[y,o6,AX,Gb,ys,xu,hz,rF]=>?_];erw[aZ (CH _ uu σ8 o6 (.ref s2.heap.objs.size) [y] (.ref s2.heap.objs.size) [yv] (λ_ jc=>∃m',m'<n/\W (i+1) m' σ8 jc) AX Z (.cons Gb .nil) #[_,ys,y,Z,Z,xu,hz,rF]) λ_ oB #[v11,jc,y8,r11,Gd]=>?_];erw[again y8 Gd]
 erw[WR loop (T.self _ 0 _ _ _ rX loop)]
theorem JI:∀{bs:List Bool}{us:List Value},Vals (bs.map V.bl) us->us=bs.map Value.bool |[],_,.nil=>rfl |b::r,_,.cons q t=>by cases(show _=Value.bool b from q);rw[JI t];rfl
section
variable {X:Cx}
theorem abO(hc:X.calm=true):fw X (.builtin "all") (λxs H Q=>∃(l:Addr)(bs:List Bool),xs=[.ref l]/\aD X.K H l (bs.map V.bl)/\Q (.bl (bs.all id)) H):=by
 intro pins s O H xs us Q I r h;let(l,bs,rfl,hl,q):=h;let(u,rfl,ru):=vals1 r;cases(show u=Value.ref l from ru);let(its,rv,pl,hz):=I.list hl;have e:=JI rv;subst e;have gQ:=pl.isList;have ck:l<s.heap.objs.size:=by let(_,e,_):=gQ;erw[cE e]
 have hh:=I.ok.hd hc;erw[call_all_walk (B7 gQ ?_)];erw[s.heap.objs.size,[s.heap.objs.size,l],[s.heap.objs.size],(bs.map Value.bool).toArray.size,_,_,λi=>(bs[i]?).getD true,Z,Walks.list (A:=X.A.in1) hh _ l (eY ck) (bs.map Value.bool).toArray,#[#[_,eJ _ Z,Z,Z],gQ.push _],λi v s' Q' E' hP hQ=>?_,λh' tk hk=>?_]
 ·have nJ:(bs.map Value.bool)[i]? =some v:=by simpa using hP
  rw[bO]at nJ;cases e:bs[i]? with |none=>rw[e]at nJ;cases nJ |some b=>rw[e]at nJ;cases nJ;simp only[e,Option.getD_some]at hQ;erw[pJ hQ]
 ·have e:((List.range (bs.map Value.bool).toArray.size).all λi=>(bs[i]?).getD true)=bs.all id:=by rw[eH,aW];erw[LSm.range_all bs]
  rw[e];erw[.bl _,H,I.kept (LSm.kept_iter hk),Z,q]
theorem abN(hc:X.calm=true):fw X (.builtin "any") (λxs H Q=>∃(l:Addr)(bs:List Bool),xs=[.ref l]/\aD X.K H l (bs.map V.bl)/\Q (.bl (bs.any id)) H):=by
 intro pins s O H xs us Q I r h;let(l,bs,rfl,hl,q):=h;let(u,rfl,ru):=vals1 r;cases(show u=Value.ref l from ru);let(its,rv,pl,hz):=I.list hl;have e:=JI rv;subst e;have gQ:=pl.isList;have ck:l<s.heap.objs.size:=by let(_,e,_):=gQ;erw[cE e]
 have hh:=I.ok.hd hc;erw[call_any_walk (B7 gQ ?_)];erw[s.heap.objs.size,[s.heap.objs.size,l],[s.heap.objs.size],(bs.map Value.bool).toArray.size,_,_,λi=>(bs[i]?).getD false,Z,Walks.list (A:=X.A.in1) hh _ l (eY ck) (bs.map Value.bool).toArray,#[#[_,eJ _ Z,Z,Z],gQ.push _],λi v s' Q' E' hP hQ=>?_,λh' tk hk=>?_]
 ·have nJ:(bs.map Value.bool)[i]? =some v:=by simpa using hP
  rw[bO]at nJ;cases e:bs[i]? with |none=>rw[e]at nJ;cases nJ |some b=>rw[e]at nJ;cases nJ;simp only[e,Option.getD_some]at hQ;erw[pJ hQ]
 ·have e:((List.range (bs.map Value.bool).toArray.size).any λi=>(bs[i]?).getD false)=bs.any id:=by rw[eH,aW];erw[LSm.range_any bs]
  rw[e];erw[.bl _,H,I.kept (LSm.kept_iter hk),Z,q]
end
theorem xO{tt:TT}{D:Addr}(n:Nat)(Pv:Nat->St->Hp->Prop)(h0:Pv 0 O H) (hs:∀i O H,i<n->Pv i O H->J.go i H/\∀x H2,J.je i H x H2->g x O H2 λσ3 H3=>tt σ3 H3 λok H4=>if ok=true then te σ3 H4 λy H5=>∃ys,H5 D=some (.lst ys)/\ys.length<sizeLine/\∃m',m'<n-i/\m'=n-(i+1)/\i+1<=n/\Pv (i+1) σ3 (upd H5 D (.lst (ys++[y]))) else∃m',m'<n-i/\m'=n-(i+1)/\i+1<=n/\Pv (i+1) σ3 H4) (hd:∀O H,Pv n O H->J.stop n H/\Q (.ref D) H): m6 J g tt te Q D O H:=by
 erw[λi m O H=>m=n-i/\i<=n/\Pv i O H,#[n,by simp,eX _,h0],?_];rintro i m O H ⟨rfl,hi,p⟩;by_cases ck:i<n
 ·erw[.inr (hs i O H ck p)]
 ·have e:i=n:=by lia
  subst e;erw[.inl (hd O H p)]
section
variable {X:Cx} {tg:Expr}
theorem ixK(K:aa)(h:X.K=K):qW X (λx y H Q=>G7 K x y H Q\/G6 K x y H Q):=by subst h;erw[a6n.or a6m]
inductive aeu(K:aa)(x:V)(lo:Option Int)(hi:Option Int)(H:Hp)(Q:VK):Prop |mk (a:_)(xs:_)(h0:x= .ref a)(h1:((aD K H a xs/\∀p H',Nw H H' p (.lst (m4 xs lo hi))->Q (.ref p) H')\/ (aU K H a xs/\¬(_H.cC xs.length 0 lo=0/\_H.cC xs.length xs.length hi=xs.length)/\∀p H',Nw H H' p (.tup (m4 xs lo hi))->Q (.ref p) H')))
def a1T(K:aa):V->Option Int->Option Int->Hp->VK->Prop:=λx lo hi H Q=>aeu K x lo hi H Q
theorem yO(K:aa)(h:X.K=K):DV X (a1T K):=by
 subst h;intro pins s O H x v vl vu lo hi sl Q I rx hs pl pu hq;let(a,xs,e,hq):=hq;rcases hq with⟨h1,k⟩|⟨h1,h2,k⟩
 ·erw[a0p pins s O H x v vl vu lo hi sl Q I rx hs pl pu #[a,xs,e,h1,λp hp=>k p _ (.of hp)]]
 ·erw[a0o pins s O H x v vl vu lo hi sl Q I rx hs pl pu #[a,xs,e,h1,h2,λp hp=>k p _ (.of hp)]]
theorem a65(K:aa)(h:X.K=K):fw X (.builtin "len") (λxs H Q=>∃p ys,xs=[.ref p]/\(aD K H p ys\/aU K H p ys)/\Q (.int ys.length) H):=by subst h;erw[abH]
theorem a6t(K:aa)(h:X.K=K):fw X (.builtin "isinstance") (λxs H Q=>G9 K xs H Q\/G8 K xs H Q):=by subst h;erw[abJ.or abI]
theorem dN(K:aa)(h:X.K=K)(hu:X.A.units+64<cLine):cX X (compareOp .Eq) (λx y H Q=>kM (λi j=>.bl (decide (i=j))) x y H Q\/Ga K x y H Q):=by subst h;erw[a39 hu]
theorem kR(K:aa)(h:X.K=K)(hu:X.A.units+64<cLine):cX X (compareOp .NotEq) (λx y H Q=>kM (λi j=>.bl (!decide (i=j))) x y H Q\/G5 K x y H Q):=by subst h;erw[a35 hu]
theorem vP(K:aa)(h:X.K=K)(hc:X.calm=true):fw X (.builtin "all") (λxs H Q=>∃(l:Addr)(bs:List Bool),xs=[.ref l]/\aD K H l (bs.map V.bl)/\Q (.bl (bs.all id)) H):=by subst h;erw[abO hc]
theorem Wn(K:aa)(h:X.K=K)(hc:X.calm=true):fw X (.builtin "any") (λxs H Q=>∃(l:Addr)(bs:List Bool),xs=[.ref l]/\aD K H l (bs.map V.bl)/\Q (.bl (bs.any id)) H):=by subst h;erw[abN hc]
theorem CW(K:aa)(h:X.K=K):fw X (.type "list") (λxs H Q=>∃p ys,xs=[.ref p]/\(aD K H p ys\/aU K H p ys)/\∀l H',Nw H H' l (.lst ys)->Q (.ref l) H'):=by subst h;intro pins s O H xs us Q I r hq;let(p,ys,e,h1,k):=hq;erw[abF pins s O H xs us Q I r #[p,ys,e,h1,λl hl=>k l _ (.of hl)]]
theorem kh(K:aa)(h:X.K=K):fw X (.type "tuple") (λxs H Q=>∃p ys,xs=[.ref p]/\((aD K H p ys/\∀l H',Nw H H' l (.tup ys)->Q (.ref l) H')\/(aU K H p ys/\Q (.ref p) H))):=by subst h;intro pins s O H xs us Q I r hq;let(p,ys,e,h1):=hq;erw[abC pins s O H xs us Q I r #[p,ys,e,h1.imp (λ#[a,k]=>#[a,λl hl=>k l _ (.of hl)]) id]]
def Yw(t:TA):TE:=λO H Q=>t O H λxs H1=>xs.length<=sizeLine/\∀p H',Nw H1 H' p (.tup xs)->Q (.ref p) H'
def YK(t:TA):TE:=λO H Q=>t O H λxs H1=>xs.length<=sizeLine/\∀p H',Nw H1 H' p (.lst xs)->Q (.ref p) H'
theorem iK{t:TA}{x1}(h:PA X es t):PE X (.Tuple es x1 pos) (Yw t):=by intro pins s O H Q I hq;erw[wpAny_Tuple_spliced (aZ (h pos pins s O H _ I hq) λus s1 #[xs,H1,I1,r,z,q]=>#[by rw[<-r.length];erw[z],?_])];have hf:H1 s1.heap.objs.size=none:=I1.bS.fresh (aV _);erw[.ref s1.heap.objs.size,upd H1 s1.heap.objs.size (.tup xs),I1.laid (t':=s1.toks) (λb u e=>cF _ e) (aV _) ?_,Z,q _ _ (.of hf)];erw[z,us,r,#[_,eJ _ Z,Z,_,Z]]
theorem dj{t:TA}(h:PA X es t):PE X (.List es pos) (YK t):=by intro pins s O H Q I hq;erw[wpAny_List_spliced (aZ (h pos pins s O H _ I hq) λus s1 #[xs,H1,I1,r,z,q]=>#[by rw[<-r.length];erw[z],?_])];have hf:H1 s1.heap.objs.size=none:=I1.bS.fresh (aV _);erw[.ref s1.heap.objs.size,upd H1 s1.heap.objs.size (.lst xs),I1.laid (t':=s1.toks) (λb u e=>cF _ e) (aV _) ?_,Z,q _ _ (.of hf)];erw[z,us,0,r,eJ _ Z]
theorem mX(K:aa)(h:X.K=K){l:Expr}{tl:TE}(hl:PE X l tl):PI X tg l (TU K tl):=by subst h;erw[a2s hl]
theorem j3(K:aa)(h:X.K=K){l:Expr}{tl:TE}(hl:PE X l tl):PI X tg l (TR K tl):=by subst h;erw[a2r hl]
theorem eu(K:aa)(h:X.K=K){es:List Expr}{k:Nat}{t:pG}{n:Nat}{pos:Pos}(hc:X.calm=true)(hg:AR X es t)(hn:autoParam ((assignEach es X.env).length=n) r8_._auto_1)(nu:autoParam ((assignEach es X.env).findIdx? (·.1)=none) r8_._auto_1): PG X (.Tuple es k pos) (A9 K n t):=by subst h;erw[a2t hc hg hn nu]
theorem iL(K:aa)(h:X.K=K){o e:Expr}{to:TE}{t:TA}{apos cA:Pos}(ho:PE X o to)(ha:PA X [e] t) (jv:autoParam (attributeBase o "append" X.env (eval o X.env)=eval o X.env) r8_._auto_1) (jt:autoParam (((backTo cA (starEach [e] X.env)).all (λx=>!x.1)&&(backToKw cA (keywordEach [] X.env)).all (λx=>x.1.isSome) &&decide ([e].length+([]:List Keyword).length+(if([]:List Keyword).isEmpty then 0 else 1)<30))=true) r8_._auto_1) (jr:autoParam ((apos.endLine==cA.line)=true) r8_._auto_1)(hs:autoParam (starEach [e] X.env=(false,eval e X.env)::starEach [] X.env) r8_._auto_1)(jq:autoParam ((backTo cA (starEach [] X.env)).any (·.1)=false) r8_._auto_1): PE X (.Call (.Attribute o "append" apos) [e] [] cA) (rP K "list" QF to t):=by subst h;erw[uH PySem.F.plainAttrs_list PySem.F.slot_list_append PySem.F.type_list_append CH ho ha jv jt jr hs jq]
theorem BB{j:Nat}{x:V}{O:St}{H:Hp}{A B:St->Hp->Prop}(h:A (O.set j (some x)) H):gs j x O H λσ3 H3=>kI σ3 H3 λok H4=>if ok=true then A σ3 H4 else B σ3 H4:=by show if true=true then A (O.set j (some x)) H else B (O.set j (some x)) H;rw[ba rfl];erw[h]
theorem yes(h:Q true H):kI O H Q:=h
end
theorem aD.go{K:aa}(s:aF H H')(h:aD K H a xs):aD K H' a xs:=h.imp (λr=>r.imp (s _ _) λ#[o,e]=>#[o,s _ _ e]) id
theorem aU.go{K:aa}(s:aF H H')(h:aU K H a xs):aU K H' a xs:=h.imp (λr=>r.imp (s _ _) λ#[o,e]=>#[o,s _ _ e]) id
mutual
theorem RD.mono{K:aa}{H H':Hp}(s:aF H H'):∀{x:V}(d:ah),RD K H x d->RD K H' x d |x,.none,h=>by simpa[RD]using h |x,.bool b,h=>by simpa[RD]using h |x,.int i,h=>by simpa[RD]using h |x,.str y,h=>by simpa[RD]using h |x,.list ds,h=>by rw[RD]at h⊢;let(a,xs,e,h1,h2):=h;erw[a,xs,e,h1.go s,aI.mono s ds h2] |x,.tuple ds,h=>by rw[RD]at h⊢;let(a,xs,e,h1,h2):=h;erw[a,xs,e,h1.go s,aI.mono s ds h2] |x,.dict _,h=>by simp[RD]at h
theorem aI.mono {K:aa}{H H':Hp}(s:aF H H'):∀{xs:List V}(ds:List ah),aI K H xs ds->aI K H' xs ds |xs,[],h=>by simpa[aI]using h |xs,d::ds,h=>by rw[aI]at h⊢;let(y,ys,e,h1,h2):=h;erw[y,ys,e,RD.mono s d h1,aI.mono s ds h2]
end
section
variable {K:aa} {H H':Hp}
theorem aI.nil_inv(h:aI K H xs []):xs=[]:=by simpa[aI]using h
theorem aI.cons_inv{d:ah}(h:aI K H xs (d::ds)):∃y ys,xs=y::ys/\RD K H y d/\aI K H ys ds:=by rw[aI]at h;erw[h]
theorem RD.cu(h:RD K H x (.tuple ds)):∃a xs,x= .ref a/\aU K H a xs/\aI K H xs ds:=by rw[RD]at h;erw[h]
theorem RD.lst_inv(h:RD K H x (.list ds)):∃a xs,x= .ref a/\aD K H a xs/\aI K H xs ds:=by rw[RD]at h;erw[h]
theorem RD.int_inv(h:RD K H x (.int i)):x= .int i:=by rw[RD]at h;erw[h]
theorem RD.abX(h:RD K H x (.bool i)):x= .bl i:=by rw[RD]at h;erw[h]
theorem RD.str_inv(h:RD K H x (.str i)):x= .str i:=by rw[RD]at h;erw[h]
theorem RD.GP(h:RD K H x .none):x= .bu:=by rw[RD]at h;erw[h]
theorem aI.length:∀{xs:List V}{ds:List ah},aI K H xs ds->xs.length=ds.length |xs,[],h=>by rw[h.nil_inv];rfl |xs,d::ds,h=>by let(y,ys,rfl,_,h2):=h.cons_inv;rw[gz,gz,aI.length h2]
theorem aI.append:∀{xs ys:List V}{ds es:List ah},aI K H xs ds->aI K H ys es->aI K H (xs++ys) (ds++es) |xs,ys,[],es,h,g=>by rw[h.nil_inv];erw[g] |xs,ys,d::ds,es,h,g=>by let(y,zs,rfl,h1,h2):=h.cons_inv;erw[cG h1 (aI.append h2 g)]
theorem aI.take:∀(n:Nat){xs:List V}{ds:List ah},aI K H xs ds->aI K H (xs.take n) (ds.take n) |0,xs,ds,h=>by rw[wg,wg];erw[cW] |n+1,xs,[],h=>by rw[h.nil_inv];erw[cW] |n+1,xs,d::ds,h=>by let(y,zs,rfl,h1,h2):=h.cons_inv;erw[cG h1 (aI.take n h2)]
theorem aI.get:∀(n:Nat){xs:List V}{ds:List ah}{d:ah},aI K H xs ds->ds[n]? =some d->∃x,xs[n]? =some x/\RD K H x d
 |n,xs,[],d,h,e=>by simp at e |0,xs,d'::ds,d,h,e=>by
  let(y,zs,rfl,h1,h2):=h.cons_inv;have e':d'=d:=by simpa using e
  subst e';erw[y,Z,h1] |n+1,xs,d'::ds,d,h,e=>by let(y,zs,rfl,h1,h2):=h.cons_inv;erw[aI.get n h2 (by simpa using e)]
theorem aI.get'(n:Nat){xs:List V}{ds:List ah}{x:V}(h:aI K H xs ds)(e:xs[n]? =some x):∃d,ds[n]? =some d/\RD K H x d:=by
 have hl:n<ds.length:=by rw[<-h.length];exact(cK.mp e).1
 let(y,e1,r):=h.get n (bL hl);rw[e]at e1;cases e1;erw[_,bL hl,r]
def lH:ah->String | .none=>"NoneType" | .bool _=>"bool" | .int _=>"int" | .str _=>"str" | .list _=>"list" | .tuple _=>"tuple" | .dict _=>"dict"
theorem RD.ty{x:V}:∀{d:ah},RD K H x d->vR K H x (lH d) | .none,h=>by rw[h.GP];rfl | .bool b,h=>by rw[h.abX];rfl | .int b,h=>by rw[h.int_inv];rfl | .str b,h=>by rw[h.str_inv];rfl | .list ds,h=>by let(a,xs,rfl,h1,_):=h.lst_inv;erw[.inl #[Z,xs,h1]] | .tuple ds,h=>by let(a,xs,rfl,h1,_):=h.cu;erw[.inr #[Z,xs,h1]] | .dict _,h=>by simp[RD]at h
structure dv(n:Nat)(d:ah):Prop where
 lay:d.canLay0=true
 dep:d.depth<=n
def iq(n:Nat)(ds:List ah):Prop:=∀d∈ds,dv n d
theorem dv.le{n:Nat}{d:ah}(h:dv n d)(l:n<=m):dv m d:=#[h.lay,iG h.dep l]
theorem wY{n:Nat}:∀{ds:List ah},iq n ds↔(PyData.canLayAll0 ds=true/\PyData.depthAll ds<=n)
 |[]=>#[λ_=>#[Z,eX _],λ_ _ h=>nomatch h] |d::ds=>by
  have ih:=wY (n:=n) (ds:=ds);simp only[PyData.canLayAll0,PyData.depthAll,fA];constructor
  ·intro h
   have h1:=h d (.head _);have h2:=ih.mp λx hx=>h x (.tail _ hx);erw[#[h1.lay,h2.1],Nat.max_le.mpr #[h1.dep,h2.2]]
  ·rintro⟨⟨a,b⟩,c⟩ x hx
   have c':=Nat.max_le.mp c;rcases cM.mp hx with rfl|hx
   ·erw[a,c'.1]
   ·erw[ih.mpr #[b,c'.2] x hx]
theorem iq.tup{n:Nat}(h:iq n ds):dv (n+1) (.tuple ds):=#[by simpa[PyData.canLay0]using(wY.mp h).1,by simpa[PyData.depth]using(wY.mp h).2]
theorem iq.lst{n:Nat}{ds:List ah}(h:iq n ds):dv (n+1) (.list ds):=#[by simpa[PyData.canLay0]using(wY.mp h).1,by simpa[PyData.depth]using(wY.mp h).2]
theorem dv.cu{n:Nat}(h:dv (n+1) (.tuple ds)):iq n ds:=wY.mpr #[by simpa[PyData.canLay0]using h.lay,by simpa[PyData.depth]using h.dep]
theorem dv.int{n:Nat}(i:Int):dv n (.int i):=#[Z,eX _]
theorem dv.bu{n:Nat}:dv n .none:=#[Z,eX _]
theorem iq.nil{n:Nat}:iq n []:=λ_ h=>nomatch h
theorem iq.cons{n:Nat}{d:ah}(h:dv n d)(g:iq n ds):iq n (d::ds):=λx hx=>by
 rcases cM.mp hx with rfl|hx
 ·erw[h]
 ·erw[g x hx]
theorem dv.shaped{n:Nat}{d:ah}(h:dv n d)(l:n<=64):SeqAt.shaped d=true:=by unfold SeqAt.shaped;rw[h.lay,jD];erw[cj (iG h.dep l)]
theorem dv.refl{n:Nat}{d:ah}(h:dv n d):PyData.eqv d d=true:=eqv_refl d h.lay
variable {p:Addr}{n m:Nat}{v:V}{vs:List V}{d:ah}{ds es:List ah}
end
section
variable {X:Cx}
end
end _L
namespace _H
open PySem PySem.Spec PyProof.Rows
section
variable {prog:ag}{w:World}{A:ai}{E:Value->af->Prop}{s:af}
end
end _H
namespace _L
open PySem PySem.Spec PyProof.Rows
section
variable {X:Cx}
end
end _L
namespace _L
theorem cB{v:α}(h0:0<=i)(h:xs[i.toNat]? =some v):fb xs i=some v:=by have hl:i.toNat<xs.length:=(cK.mp h).1;unfold fb jo;rw[ba h0,ba ao];erw[h]
end _L
namespace _L
open PySem PySem.Spec PyProof.Rows
theorem yN(n:Nat)(h:n<=1000):n<=sizeLine:=iG h aw
section
variable {X:Cx}{p pos pos':Pos}{a b e:Expr}{es:List Expr}{ta tb te:TE}{t:TA}{x:Str}
theorem px(K:aa)(ha:PE X a ta)(hb:PE X b tb)(hK:autoParam (X.K=K) r8_._auto_1)(hp:autoParam (WC b) d8_._auto_1):PE X (.Subscript a b pos) (yH (λx y H Q=>G7 K x y H Q\/G6 K x y H Q) ta tb):=Gk (ixK K hK) ha hb hp
theorem mj(K:aa)(B:m8 X.mg)(ha:PA X (e::es) t)(hK:autoParam (X.K=K) r8_._auto_1)(hg:autoParam (Gl X "isinstance") r8_._auto_1)(he:autoParam (starEach (e::es) X.env=(false,eval e X.env)::starEach es X.env) r8_._auto_1)(gr:autoParam ((backTo pos (starEach es X.env)).any (·.1)=false) r8_._auto_1):PE X (.Call (.Name "isinstance" p) (e::es) [] pos) (BQ (λxs H Q=>G9 K xs H Q\/G8 K xs H Q) t):=fh (a6t K hK) hg (B.at "isinstance") PyProof.Rows.boot_isinstance ha aw aw he gr
theorem fW(K:aa)(B:m8 X.mg)(ha:PA X (e::es) t)(hK:autoParam (X.K=K) r8_._auto_1)(hg:autoParam (Gl X "len") r8_._auto_1)(he:autoParam (starEach (e::es) X.env=(false,eval e X.env)::starEach es X.env) r8_._auto_1)(gr:autoParam ((backTo pos (starEach es X.env)).any (·.1)=false) r8_._auto_1):PE X (.Call (.Name "len" p) (e::es) [] pos) (BQ (λxs H Q=>∃p ys,xs=[.ref p]/\(aD K H p ys\/aU K H p ys)/\Q (.int ys.length) H) t):=fh (a65 K hK) hg (B.at "len") PySem.boot_len ha aw aw he gr
theorem pS(i:Nat)(hN:X.N.Nodup)(he:PE X e te)(hi:autoParam (X.N[i]? =some x) r8_._auto_1)(hx:autoParam (Loc X.env.scope x) d8_._auto_1)(hs:autoParam (swapsWith e (some (.Name x pos')) pos.line X.env=pure false) r8_._auto_1)(hf:autoParam (X.fn x=true\/X.env.scope.names.lookup x=some .local) d8_._auto_1):PS X (.Assign [.Name x pos'] e pos) (yJ te (gs i)):=a2c hN hi hx he hs hf
theorem aR(i:Nat)(hN:X.N.Nodup)(hi:autoParam (X.N[i]? =some x) r8_._auto_1)(hx:autoParam (Loc X.env.scope x) d8_._auto_1)(hf:autoParam (X.fn x=true\/X.env.scope.names.lookup x=some .local) d8_._auto_1):PG X (.Name x pos) (gs i):=a2u hN hi hx hf
theorem iM (a:Str):[a].Nodup:=by simp
theorem jN{a b:Str}(h:(a==b)=false):[a,b].Nodup:=by
 have:a≠b:=λz=>by rw[z,Ke]at h;cases h
 simp[this]
theorem cy{n:Nat}(h:Nat.ble n 1000=true):n<=sizeLine:=yN n (X7 h)
end
def GV(mg:cm)(x:Str)(v:V):Prop:=∃u,mg x=some u/\RelV v u
def GT(K:aa)(mg:cm)(x:Str)(vs:List V):Prop:=∃a,GV mg x (.ref a)/\∀H,aU K H a vs
theorem dM{v:V}(hg:Gl X x)(h:GV X.mg x v)(hd:autoParam ((x==("__debug__":Str))=false) q8_._auto_1):PE X (.Name x pos) (tC v):=by let(u,hm,r):=h;erw[a2y hg hm r hd]
section
variable {K:aa} {mg:cm} {h:Heap}
theorem jx{t:Tok}(X:K.In h)(G:h.Ns mainGlobals mg)(a:PySem.W.nsIn K mainGlobals x=some (some (.int i t))):GV mg x (.int i):=#[_,Be X G a,t,Z]
theorem IK{n:Nat}(X:K.In h)(G:h.Ns mainGlobals mg)(a:PySem.W.nsIn K mainGlobals x=some (some (.ref b))) (l:K.lookup b=some #[.type "tuple",od,.seq its n,j5])(hz:its.size<=sizeLine)(r:Vals vs its.toList):GT K mg x vs:=#[b,#[_,Be X G a,Z],λH=>.inr #[_,its,n,l,Z,Z,hz,r]]
end
section
variable {X:Cx}
theorem a4F(K:aa)(h:X.K=K):cX X (compareOp .NotIn) (QD K true):=by subst h;erw[a32]
end
theorem VN{xs:List V}{bs:List Bool}{D:Addr}(rest:St)(nw:Nw H H0 D (.lst []))(hl:xs.length=bs.length)(hz:xs.length<=1000) (go:∀i x H2,xs[i]? =some x->aF H H2->J.go i H2/\∀y H3,J.je i H2 y H3->H3=H2/\y=x)(stop:∀H2,aF H H2->J.stop xs.length H2) (hs:∀(i:Nat)(x:V)(b:Bool)(H2:Hp)(Q':VK),xs[i]? =some x->bs[i]? =some b->aF H H2->(∀H3,aF H2 H3->Q' (.bl b) H3)->te (some x::rest) H2 Q') (hq:∀H',aF H H'->H' D=some (.lst (bs.map V.bl))->Q (.ref D) H'):m6 J (gs 0) kI te Q D (none::rest) H0:=by
 have hD:=nw.no;erw[xO xs.length (λi O H2=>aF H H2/\H2 D=some (.lst ((bs.take i).map V.bl))/\∃v,O=v::rest) ?_ ?_ ?_]
 ·erw[nw.same,nw.at',none,Z]
 ·rintro i O H2 hi ⟨s2,d2,v,rfl⟩
  have Dq:i<bs.length:=by rw[<-hl];erw[hi]
  have ex:=bL hi;have eb:=bL Dq;let(g1,g2):=go i _ H2 ex s2;erw[g1,λy H3 hy=>?_];let(rfl,rfl):=g2 y H3 hy;erw[BB ?_];erw[hs i _ _ _ _ ex eb s2 λH4 s4=>?_];erw[_,s4 _ _ d2,?_,xs.length-(i+1),ao,Z,ao,λb o e=>?_,?_,_,Z]
  ·rw[aW,u7]
   have:(1000:Nat)<sizeLine:=by decide
   lia
  ·rw[aY (eM e hD)];erw[s4 b o (s2 b o e)]
  ·rw[bZ,lF,eb,fT];rfl
 ·rintro O H2 ⟨s2,d2,v,rfl⟩
  erw[stop H2 s2,hq H2 s2 ?_];rw[d2,hl,o9]
theorem Ax{K:aa}{bs:List Bool}{D:Addr}(rest:St)(hx:aU K H a xs)(nw:Nw H H0 D (.lst []))(hl:xs.length=bs.length)(hz:xs.length<=1000) (hs:∀(i:Nat)(x:V)(b:Bool)(H2:Hp)(Q':VK),xs[i]? =some x->bs[i]? =some b->aF H H2->(∀H3,aF H2 H3->Q' (.bl b) H3)->te (some x::rest) H2 Q') (hq:∀H',aF H H'->H' D=some (.lst (bs.map V.bl))->Q (.ref D) H'):m6 (tS K a) (gs 0) kI te Q D (none::rest) H0:=VN rest nw hl hz (λi x H2 e s=>#[#[xs,x,hx.go s,e],λy H3 #[e3,y3]=>#[e3,by have:=y3 _ (hx.go s);rw[e]at this;exact(eW this).symm]]) (λH2 s=>#[xs,hx.go s,aV _]) hs hq
theorem CK{ds:List ah}{i:Nat}{b:Bool}(h:(ds.map f)[i]? =some b):∃d,ds[i]? =some d/\f d=b:=by rw[bO]at h;cases e:ds[i]? with |none=>rw[e]at h;cases h |some d=>rw[e]at h;erw[d,Z,eW h]
theorem all_map{ds:List ah}:(ds.map f).all id=ds.all f:=by rw[List.all_map];rfl
section
variable {X:Cx}
inductive aeP(K:aa)(x:V)(y:V)(H:Hp)(Q:VK):Prop |mk (a:_)(b:_)(xs:_)(ys:_)(h0:x= .ref a)(h1:y= .ref b)(h2:aD K H a xs)(h3:aD K H b ys)(h4:xs.length+ys.length<=sizeLine)(h5:∀p H',Nw H H' p (.lst (xs++ys))->Q (.ref p) H')
def a22(K:aa):R2:=λx y H Q=>aeP K x y H Q
theorem xP(K:aa)(hK:X.K=K):cX X (binaryOp .Add) (a22 K):=by
 subst hK;intro pins s O H x y v u Q I rx ry h;let(a,b,xs,ys,rfl,rfl,ha,hb,hz,q):=h;cases rx;cases ry;let(its,r1,p1,_):=I.list ha;let(lR,r2,p2,_):=I.list hb;let((cls,dd,data,sl),n,ho,hc,hdd,hd):=id p1;let((VP,xM,data2,sl2),n2,oY,jQ,agm,hd2):=id p2;simp only at hc hd jQ hd2;subst hc hd jQ hd2;have e:its.toArray++lR.toArray=(its++lR).toArray:=by simp
 erw[concat_meets #[_,ho,Z] #[_,oY,Z] noFill_list_add seq_list_add PySem.F.slot_list_add PySem.F.entry_list_add (PySem.F.args_list_add_2 _ _) (list_addW a b its.toArray lR.toArray n n2 dd xM sl sl2 (by rw[eH,eH,<-r1.length,<-r2.length];erw[hz])) #[ho,oY,?_]];rw[e];have nw:Nw H (upd H s.heap.objs.size (.lst (xs++ys))) s.heap.objs.size (.lst (xs++ys)):=.of (I.bS.fresh (aV _));erw[.ref s.heap.objs.size,_,I.laid (t':=s.toks) (o:=.lst (xs++ys)) (λb ob q=>cF _ q) (aV _) ?_,Z,q _ _ nw];erw[by rw[cv];erw[hz],_,0,r1.append r2,eJ _ Z]
open Classical in
noncomputable def vv(h:Heap)(d:ah)(w:Value):Bool:=if q:∃e as,Reads h w e as then PyData.eqv q.choose d else false
theorem aaE{h:Heap}{d e:ah}{w:Value}{as:List Addr}(r:Reads h w e as):vv h d w=PyData.eqv e d:=by have q:∃e as,Reads h w e as:=#[e,as,r];unfold vv;rw[dif_pos q];let(as',r'):=q.choose_spec;rw[(Reads.unique r' e as r).1]
theorem V3{pins:List (Addr×Obj)}{s:af}{O:St}{H:Hp}(I:Inv X pins O H s)(hu:X.A.units+65<cLine){x:V}{u:Value}{d:ah}(rx:RelV x u)(hd:RD X.K H x d)(sd:SeqAt.shaped d=true): ∀{xs:List V}{us:List Value}{ds:List ah},Vals xs us->aI X.K H xs ds->(∀e∈ds,SeqAt.shaped e=true)->(∀w∈us,SeqAt.EqAt X.A.in1 s w u (vv s.heap d w))/\us.any (vv s.heap d)=ds.any λe=>PyData.eqv e d |xs,us,[],rv,h,_=>by cases h.nil_inv;cases rv;erw[λ_ h=>(iu h).elim,Z] |xs,us,e::ds,rv,h,se=>by let(y,ys,rfl,h1,h2):=h.cons_inv;cases rv with |cons ra rb=>
 rename_i w ws;let(as,q1):=RD.reads I e ra h1;let(bs,q2):=RD.reads I d rx hd;have key:SeqAt.EqAt X.A.in1 s w u (PyData.eqv e d):=SeqAt.eqAt_reads e d X.A.in1 s w u as bs q1 q2 (SeqAt.canLay_of_shaped (se e (.head _))) (SeqAt.canLay_of_shaped sd) (SeqAt.room_of_shaped (se e (.head _)) (by show X.A.units+1+64<cLine;omega));let(k1,k2):=V3 I hu rx hd sd rb h2 (λe' he=>se e' (.tail _ he));have ew:vv s.heap d w=PyData.eqv e d:=aaE q1;erw[λz hz=>?_,?_]
 ·rcases cM.mp hz with rfl|hz
  ·rw[ew];erw[key]
  ·erw[k1 z hz]
 ·rw[yp,yp,ew,k2]
end
end _L
namespace _L
theorem dP.Y1{k:Nat}{A:PySem.Around}(r:dP k A):A.units+65<PySem.cLine:=by have:=r.un;lia
end _L
namespace _L
open PySem PySem.Spec PyProof.Rows
def kC(b:Bool)(h:Heap)(it l:Addr)(k:Nat):Prop:=match b with|true=>h.IsListIter it l k|false=>h.IsTupleIter it l k
def ip(b:Bool)(h:Heap)(l:Addr)(xs:Array Value):Prop:=match b with|true=>h.IsList l xs|false=>h.IsTuple l xs
def tI(b:Bool):String:=match b with|true=>"list_iterator"|false=>"tuple_iterator"
theorem kC.to{it l:Addr}(x:kC b h it l k)(e:∀o,h.get? it=some o->g.get? it=some o):kC b g it l k:=by cases b<;>(let(o,ho,r):=x;erw[o,e o ho,r])
theorem ip.to{l:Addr}(x:ip b h l xs)(e:∀o,h.get? l=some o->g.get? l=some o):ip b g l xs:=by cases b<;>(let(o,ho,r):=x;erw[o,e o ho,r])
theorem kC.ob{it l:Addr}(x:kC b h it l k):∃o,h.get? it=some o/\o.cls= .type (tI b)/\∀v,o.data≠ .cell v:=by cases b<;>(let(o,ho,c,d):=x;erw[o,ho,c,λv z=>by rw[d]at z;cases z])
section
variable {prog:ag}{w:World}{A:ai}{E:Value->af->Prop}{s:af}
theorem xi{b:Bool}{l:Addr}{xs:Array Value}{Q:Value->af->Prop}(x:ip b s.heap l xs) (q:Q (.ref s.heap.objs.size) {s with heap:=s.heap.push {cls:=.type (tI b),data:=.fields (List.toArray [.ref l,.int 0 0])}}):wpAny (model prog w) A (pyIter (.ref l)) Q E s:=by
 cases b
 ·erw[wpAny_pyIter_tuple x q]
 ·erw[B7 x q]
theorem a4t{it t:Addr}{k:Nat}{ts:Array Value}{x:Value}{Q:Value->af->Prop}(hi:s.heap.IsTupleIter it t k)(ht:s.heap.IsTuple t ts)(hx:ts[k]? =some x) (q:∀g,g.IsTupleIter it t (k+1)->Heap.SameBut it s.heap g->Q x {s with heap:=g}):wpAny (model prog w) A (Builtin.SmallTypes.nextOf (.ref it)) Q E s:=by let(oi,ky,ci,di):=id hi;let(ot,Ir,_,nt,dt):=ht;unfold Builtin.SmallTypes.nextOf;erw[aJ (Ee (name:=Str.ofString "__next__") hi.typeIs Km (Ed Km hi.typeIs afp ?_ (afq _)))];show wpAny _ _ (field (.ref it) 0>>=_) _ _ s;erw[aJ (kf ky di (x:=.ref t) Z ?_)];show wpAny _ _ (if(Value.ref t==Value.none)=true then _ else _) _ _ s;rw[bc (show¬((Value.ref t==Value.none)=true)from eK)];show wpAny _ _ (field (.ref it) 1>>=_) _ _ s;erw[aJ (kf ky di (x:=.int k 0) Z ?_)];show wpAny _ _ (seqItems? (.ref t)>>=_) _ _ s;erw[aJ (vW Ir dt ?_)];simp only[Xh,hx];erw[aJ (Ec ky di (by simp) (cf #[x,Z,cf (q _ ?_ (Heap.SameBut.update ..))]))];erw[_,KH _ ky (X4 (Em di _)),(Obj.cls_mapFields ..).trans ci,by rw[Em di];simp[rawInt]]
theorem aaQ{it t:Addr}{k:Nat}{ts:Array Value}{Q:Value->af->Prop}(hh:A.handled=none)(hi:s.heap.IsTupleIter it t k)(ht:s.heap.IsTuple t ts)(hx:ts[k]? =none) (q:∀g e,Heap.ExtBut it s.heap g->(∃o,g.get? e=some o/\o.cls= .type "StopIteration")->E (.ref e) {s with heap:=g}):wpAny (model prog w) A (Builtin.SmallTypes.nextOf (.ref it)) Q E s:=by
 let(oi,ky,ci,di):=id hi;let(ot,Ir,_,nt,dt):=ht;unfold Builtin.SmallTypes.nextOf;erw[aJ (Ee (name:=Str.ofString "__next__") hi.typeIs Km (Ed Km hi.typeIs afp ?_ (afq _)))];show wpAny _ _ (field (.ref it) 0>>=_) _ _ s;erw[aJ (kf ky di (x:=.ref t) Z ?_)];show wpAny _ _ (if(Value.ref t==Value.none)=true then _ else _) _ _ s;rw[bc (show¬((Value.ref t==Value.none)=true)from eK)];show wpAny _ _ (field (.ref it) 1>>=_) _ _ s;erw[aJ (kf ky di (x:=.int k 0) Z ?_)];show wpAny _ _ (seqItems? (.ref t)>>=_) _ _ s;erw[aJ (vW Ir dt ?_)];simp only[Xh,hx];erw[aJ (B6 (aJ (Ec ky di (by simp) ?_)))];show wpAny _ _ (newExc (.type "StopIteration") []>>=_) _ _ _;erw[aJ ?_];simp only[newExc,newTuple];erw[aJ (o7 ?_ (by size_fits))];erw[aJ (m:=firstArgMember _ _) (yc (a:=Value.none) (by first|rfl|(simp only[firstArgMember];rfl)) ?_)];erw[o7 ?_ (by size_fits)];simp only[raiseNew];erw[aJ (wpAny_handled ?_)]
 first|rw[show A.in1.handled=none from hh]|rw[hh]
 erw[aJ (cf (wpAny_throw (q _ _ (((Heap.SameBut.update ..).extBut.push _).push _) #[_,eJ _ Z,Z])))]
theorem Cw{b:Bool}{it l:Addr}{k:Nat}{xs:Array Value}{x:Value}{Q:Value->af->Prop}(hi:kC b s.heap it l k)(hl:ip b s.heap l xs)(hx:xs[k]? =some x) (q:∀g,kC b g it l (k+1)->Heap.SameBut it s.heap g->Q x {s with heap:=g}):wpAny (model prog w) A (Builtin.SmallTypes.nextOf (.ref it)) Q E s:=by
 cases b
 ·erw[a4t hi hl hx q]
 ·erw[wpAny_nextOf_list_item hi hl hx q]
theorem Jj{b:Bool}{it l:Addr}{k:Nat}{xs:Array Value}{Q:Value->af->Prop}(hh:A.handled=none)(hi:kC b s.heap it l k)(hl:ip b s.heap l xs)(hx:xs[k]? =none) (q:∀g e,Heap.ExtBut it s.heap g->(∃o,g.get? e=some o/\o.cls= .type "StopIteration")->E (.ref e) {s with heap:=g}):wpAny (model prog w) A (Builtin.SmallTypes.nextOf (.ref it)) Q E s:=by
 cases b
 ·erw[aaQ hh hi hl hx q]
 ·erw[wpAny_nextOf_list_end hh hi hl hx q]
structure Zp(b1 b2:Bool)(h:Heap)(z TI TO i1 i2 l1 l2:Addr)(f0:Value)(k:Nat):Prop where
 zz:IsZip h z TI TO f0
 ti:IsPair h TI (.ref i1) (.ref i2)
 to:∃a b,IsPair h TO a b
 n1:kC b1 h i1 l1 k
 n2:kC b2 h i2 l2 k
theorem R9{z TI TO:Addr}{Q:Bool->af->Prop}(hz:IsZip s.heap z TI TO .none)(q:Q true s):wpAny (model prog w) A (Builtin.SmallTypes.ownedTupleIsFree (.ref z)) Q E s:=by unfold Builtin.SmallTypes.ownedTupleIsFree;erw[aJ (kf hz Z (x:=.none) Z (cf q))]
theorem Xu{b1 b2:Bool}{z TI TO i1 i2 l1 l2:Addr}{k:Nat}{xs ys:Array Value}{x y:Value}{Q:Value->af->Prop}(D:ZipApart z TI TO i1 i2 l1 l2)(agJ:Zp b1 b2 s.heap z TI TO i1 i2 l1 l2 .none k) (mE:ip b1 s.heap l1 xs)(p5:ip b2 s.heap l2 ys)(hx:xs[k]? =some x)(hy:ys[k]? =some y) (q:∀g,Zp b1 b2 g z TI TO i1 i2 l1 l2 (rawInt s.heap.objs.size) (k+1)->IsPair g s.heap.objs.size x y->(∀c o,c≠z->c≠TO->c≠i1->c≠i2->s.heap.get? c=some o->g.get? c=some o)->Q (.ref s.heap.objs.size) {s with heap:=g}): wpAny (model prog w) A (Builtin.«zip.__next__» #[[.ref z],[]]) (λr s'=>∃v,r= .done (.ret v)/\Q v s') E s:=by
 let(hz,mI,(a,b,nH),h1,h2):=agJ;show wpAny _ _ (field (.ref z) 2>>=_) _ _ _;erw[aJ (kf hz Z (x:=.bool false) Z ?_)];show wpAny _ _ (field (.ref z) 3>>=_) _ _ _;erw[aJ (kf hz Z (x:=.ref TI) Z (aJ (vW mI Z ?_)))];show wpAny _ _ (Builtin.SmallTypes.ownedTupleIsFree (.ref z)>>=_) _ _ _;erw[aJ (R9 hz ?_)];simp only[vX];erw[aJ (B6 (aJ (kf hz Z (x:=.ref TO) Z (aJ (B5 hz (by simp) λg1 z1 e1=>?_)))))];replace z1:IsZip g1 z TI TO .ellipsis:=z1;erw[aJ ?_];simp only[List.zipIdx_cons,List.zipIdx_nil,Kz,List.forIn_nil];erw[aJ (aJ (wpAny_onRaise ?_))];show wpAny _ _ (Builtin.SmallTypes.nextOf (.ref i1)>>=_) _ _ _;erw[aJ (Cw (h1.to λo e=>e1.extBut _ _ D.i1z e) (mE.to λo e=>e1.extBut _ _ D.l1z e) hx λg2 n1 e2=>cf ?_)];have t2:IsPair g2 TO a b:=e2.extBut _ _ D.TOi1 (e1.extBut _ _ D.TOz nH);erw[aJ (vW t2 Z (aJ (WK t2 λg3 t3 e3=>?_)))];replace t3:IsPair g3 TO x b:=t3;erw[aJ (wpAny_letGo (cf ?_))];erw[aJ (aJ (wpAny_onRaise ?_))];show wpAny _ _ (Builtin.SmallTypes.nextOf (.ref i2)>>=_) _ _ _;erw[aJ (Cw (h2.to λo e=>e3.extBut _ _ D.TOi2.symm (e2.extBut _ _ D.i12.symm (e1.extBut _ _ D.i2z e))) (p5.to λo e=>e3.extBut _ _ D.l2TO (e2.extBut _ _ D.l2i1 (e1.extBut _ _ D.l2z e))) hy λg4 n2 e4=>cf ?_)];have t4:IsPair g4 TO x b:=e4.extBut _ _ D.TOi2 t3;erw[aJ (vW t4 Z (aJ (WK t4 λg5 t5 e5=>?_)))];replace t5:IsPair g5 TO x y:=t5;erw[aJ (wpAny_letGo (cf (cf ?_)))];erw[aJ (vW t5 Z (aJ (wpAny_newTuple ?_)))];have sz:g5.objs.size=s.heap.objs.size:=by rw[e5.1,e4.1,e3.1,e2.1,e1.1]
 have z5:IsZip g5 z TI TO .ellipsis:=e5.extBut _ _ D.TOz.symm (e4.extBut _ _ D.i2z.symm (e3.extBut _ _ D.TOz.symm (e2.extBut _ _ D.i1z.symm z1)));have kp:∀c o,c≠z->c≠TO->c≠i1->c≠i2->s.heap.get? c=some o->g5.get? c=some o:=λc o c1 c2 c3 c4 e=>e5.extBut _ _ c2 (e4.extBut _ _ c4 (e3.extBut _ _ c2 (e2.extBut _ _ c3 (e1.extBut _ _ c1 e))));have m1:kC b1 g5 i1 l1 (k+1):=n1.to λo e=>e5.extBut _ _ D.TOi1.symm (e4.extBut _ _ D.i12 (e3.extBut _ _ D.TOi1.symm e));have m2:kC b2 g5 i2 l2 (k+1):=n2.to λo e=>e5.extBut _ _ D.TOi2.symm e;have EB:z<g5.objs.size:=cE z5;show wpAny _ _ (Builtin.SmallTypes.ownedTupleHandOut (.ref z) (.ref g5.objs.size)>>=_) _ _ _;erw[aJ ?_];unfold Builtin.SmallTypes.ownedTupleHandOut;have z6:IsZip (g5.push {cls:=.type "tuple",data:=.seq (List.toArray [x,y])}) z TI TO .ellipsis:=cF _ z5;erw[aJ (B5 z6 (by simp) λg7 z7 e7=>?_)];replace z7:IsZip g7 z TI TO (rawInt g5.objs.size):=z7;erw[B5 z7 (by simp) λg8 z8 e8=>?_];replace z8:IsZip g8 z TI TO (rawInt g5.objs.size):=z8;have up:∀c o,c≠z->g5.get? c=some o->g8.get? c=some o:=λc o c1 e=>e8.extBut _ _ c1 (e7.extBut _ _ c1 (cF _ e));have t8:IsPair g8 g5.objs.size x y:=e8.extBut _ _ (yh EB) (e7.extBut _ _ (yh EB) (eJ _ Z));rw[sz]at z8 t8;erw[cf #[_,Z,?_]];show Q (.ref g5.objs.size) _;rw[sz];erw[q g8 #[z8,up _ _ D.TIz (kp _ _ D.TIz D.TITO D.TIi1 D.TIi2 mI),#[_,_,up _ _ D.TOz t5],m1.to λo e=>up _ o D.i1z e,m2.to λo e=>up _ o D.i2z e] t8 λc o c1 c2 c3 c4 e=>up c o c1 (kp c o c1 c2 c3 c4 e)]
theorem Xv{b1 b2:Bool}{z TI TO i1 i2 l1 l2:Addr}{k:Nat}{xs ys:Array Value}{Q:Fin->af->Prop}(hh:A.handled=none)(D:ZipApart z TI TO i1 i2 l1 l2)(agJ:Zp b1 b2 s.heap z TI TO i1 i2 l1 l2 .none k) (mE:ip b1 s.heap l1 xs)(p5:ip b2 s.heap l2 ys)(nG:xs[k]? =none\/ys[k]? =none) (q:∀g e,(∀c o,c≠z->c≠TO->c≠i1->c≠i2->s.heap.get? c=some o->g.get? c=some o)->(∃o,g.get? e=some o/\o.cls= .type "StopIteration")->E (.ref e) {s with heap:=g}): wpAny (model prog w) A (Builtin.«zip.__next__» #[[.ref z],[]]) Q E s:=by let(hz,mI,(a,b,nH),h1,h2):=agJ;show wpAny _ _ (field (.ref z) 2>>=_) _ _ _;erw[aJ (kf hz Z (x:=.bool false) Z ?_)];show wpAny _ _ (field (.ref z) 3>>=_) _ _ _;erw[aJ (kf hz Z (x:=.ref TI) Z (aJ (vW mI Z ?_)))];show wpAny _ _ (Builtin.SmallTypes.ownedTupleIsFree (.ref z)>>=_) _ _ _;erw[aJ (R9 hz ?_)];simp only[vX];erw[aJ (B6 (aJ (kf hz Z (x:=.ref TO) Z (aJ (B5 hz (by simp) λg1 z1 e1=>?_)))))];replace z1:IsZip g1 z TI TO .ellipsis:=z1;erw[aJ ?_];simp only[List.zipIdx_cons,List.zipIdx_nil,Kz,List.forIn_nil];erw[aJ (aJ (wpAny_onRaise ?_))];show wpAny _ _ (Builtin.SmallTypes.nextOf (.ref i1)>>=_) _ _ _;have j1:=h1.to λo e=>e1.extBut _ _ D.i1z e;have k1:=mE.to λo e=>e1.extBut _ _ D.l1z e;cases hx:xs[k]? with
 |none=>
  erw[aJ (Jj hh j1 k1 hx λg2 er e2 #[oe,vg,A3]=>?_)];have z2:IsZip g2 z TI TO .ellipsis:=e2 _ _ D.i1z.symm z1;have nz:er≠z:=λv=>by subst v;rw[z2]at vg;cases vg;simp at A3
  erw[B5 z2 (by simp) λg3 _ e3=>q g3 er (λc o c1 _ c3 _ v=>e3.extBut _ _ c1 (e2 _ _ c3 (e1.extBut _ _ c1 v))) #[oe,e3.extBut _ _ nz vg,A3]] |some x=>
  have hy:ys[k]? =none:=by rcases nG with h|h;rw[hx]at h;cases h;erw[h]
  erw[aJ (Cw j1 k1 hx λg2 n1 e2=>cf ?_)];have t2:IsPair g2 TO a b:=e2.extBut _ _ D.TOi1 (e1.extBut _ _ D.TOz nH);erw[aJ (vW t2 Z (aJ (WK t2 λg3 t3 e3=>?_)))];erw[aJ (wpAny_letGo (cf ?_))];erw[aJ (aJ (wpAny_onRaise ?_))];show wpAny _ _ (Builtin.SmallTypes.nextOf (.ref i2)>>=_) _ _ _;erw[aJ (Jj hh (h2.to λo e=>e3.extBut _ _ D.TOi2.symm (e2.extBut _ _ D.i12.symm (e1.extBut _ _ D.i2z e))) (p5.to λo e=>e3.extBut _ _ D.l2TO (e2.extBut _ _ D.l2i1 (e1.extBut _ _ D.l2z e))) hy λg4 er e4 #[oe,vg,A3]=>?_)];have z4:IsZip g4 z TI TO .ellipsis:=e4 _ _ D.i2z.symm (e3.extBut _ _ D.TOz.symm (e2.extBut _ _ D.i1z.symm z1));have nz:er≠z:=λv=>by subst v;rw[z4]at vg;cases vg;simp at A3
  erw[B5 z4 (by simp) λg5 _ e5=>q g5 er (λc o c1 c2 c3 c4 v=>e5.extBut _ _ c1 (e4 _ _ c4 (e3.extBut _ _ c2 (e2.extBut _ _ c3 (e1.extBut _ _ c1 v))))) #[oe,e5.extBut _ _ nz vg,A3]]
abbrev BA(b1:Bool)(h:Heap)(l1:Addr):Heap:=h.push {cls:=.type (tI b1),data:=.fields (List.toArray [.ref l1,.int 0 0])}
abbrev Bz(b1 b2:Bool)(h:Heap)(l1 l2:Addr):Heap:=(BA b1 h l1).push {cls:=.type (tI b2),data:=.fields (List.toArray [.ref l2,.int 0 0])}
abbrev Bx(b1 b2:Bool)(h:Heap)(l1 l2:Addr):Heap:=(Bz b1 b2 h l1 l2).push {cls:=.type "tuple",data:=.seq (List.toArray [.ref h.objs.size,.ref (BA b1 h l1).objs.size])}
abbrev Bw(b1 b2:Bool)(h:Heap)(l1 l2:Addr):Heap:=(Bx b1 b2 h l1 l2).push {cls:=.type "tuple",data:=.seq (List.toArray [.none,.none])}
abbrev wo(b1 b2:Bool)(h:Heap)(l1 l2:Addr):Heap:=(Bw b1 b2 h l1 l2).push {cls:=.type "zip",data:=.fields (List.toArray [.none,.bool false,.bool false,.ref (Bz b1 b2 h l1 l2).objs.size,.ref (Bx b1 b2 h l1 l2).objs.size])}
theorem Xt(b1 b2:Bool)(l1 l2:Addr)(xs ys:Array Value):Meets (Builtin.«zip.__new__» #[[.type "zip",.ref l1,.ref l2],[]]) (λ_ R s=>ip b1 s.heap l1 xs/\ip b2 s.heap l2 ys/\R (.ok (.ret (.ref (Bw b1 b2 s.heap l1 l2).objs.size))) {s with heap:=wo b1 b2 s.heap l1 l2}):=.of_wp λprog w A R s h=>by
 let(hp,gg,d,tk,os):=s;let(mE,p5,h):=h;have a72:=sub_zip;have hL1:ip b1 (Shared.heap #[hp,gg,d,tk,os]) l1 xs:=mE;have A5:ip b2 (Shared.heap #[hp.push {cls:=.type (tI b1),data:=.fields (List.toArray [.ref l1,.int 0 0])},gg,d,tk,os]) l2 ys:=p5.to λo e=>cF _ e
 wp_walk using xi hL1,xi A5;erw[_,Z,h]
theorem Xw{b1 b2:Bool}{l1 l2:Addr}{xs ys:Array Value}{Q:Value->af->Prop}(mE:ip b1 s.heap l1 xs)(p5:ip b2 s.heap l2 ys) (q:∀g,Zp b1 b2 g (s.heap.objs.size+4) (s.heap.objs.size+2) (s.heap.objs.size+3) s.heap.objs.size (s.heap.objs.size+1) l1 l2 .none 0->(∀c o,s.heap.get? c=some o->g.get? c=some o)->Q (.ref (s.heap.objs.size+4)) {s with heap:=g}): wpAny (model prog w) A (call (.type "zip") [.ref l1,.ref l2]) Q E s:=by
 erw[callType_new PySem.F.called_zip aw (PySem.F.typeCall_zip_2 _ _) (PySem.F.newCall_zip_2 _ _) (λobj=>PySem.F.args_object_init_3 obj _ _) PySem.F.entry_zip_new (Xt b1 b2 l1 l2 xs ys) #[mE,p5,?_]];have z1:(BA b1 s.heap l1).objs.size=s.heap.objs.size+1:=pL ..;have z2:(Bz b1 b2 s.heap l1 l2).objs.size=s.heap.objs.size+2:=by rw[pL,z1]
 have z3:(Bx b1 b2 s.heap l1 l2).objs.size=s.heap.objs.size+3:=by rw[pL,z2]
 have z4:(Bw b1 b2 s.heap l1 l2).objs.size=s.heap.objs.size+4:=by rw[pL,z3]
 have g5:(wo b1 b2 s.heap l1 l2).get? (Bw b1 b2 s.heap l1 l2).objs.size=some _:=eJ _ rfl;have g4:(wo b1 b2 s.heap l1 l2).get? (Bx b1 b2 s.heap l1 l2).objs.size=some _:=cF _ (eJ _ Z);have g3:(wo b1 b2 s.heap l1 l2).get? (Bz b1 b2 s.heap l1 l2).objs.size=some _:=cF _ (cF _ (eJ _ Z));have g2:(wo b1 b2 s.heap l1 l2).get? (BA b1 s.heap l1).objs.size=some _:=cF _ (cF _ (cF _ (eJ _ Z)));have g1:(wo b1 b2 s.heap l1 l2).get? s.heap.objs.size=some _:=cF _ (cF _ (cF _ (cF _ (eJ _ Z))));show _/\_;rw[z2,z3,z4]at g5;rw[z1,z2]at g3;rw[z3]at g4;rw[z1]at g2;rw[z4];erw[#[_,g5,Z],q _ #[g5,g3,#[_,_,g4],?_,?_] λc o e=>cF _ (cF _ (cF _ (cF _ (cF _ e))))]
 ·cases b1<;>erw[_,g1,rfl,rfl]
 ·cases b2<;>erw[_,g2,rfl,rfl]
end
section
variable {X:Cx}{pins:List (Addr×Obj)}{O:St}{H:Hp}{s:af}{h':Heap}
theorem Inv.yA{t':Nat}{fp:List Addr}(I:Inv X pins O H s)(k:∀b o,b∉fp->s.heap.get? b=some o->h'.get? b=some o)(hf:∀b∈fp,jZ X pins H b):Inv X pins O H {s with heap:=h',toks:=t'}:=by
 have zE:∀b u,H b=some u->b∉fp:=λb u e z=>by rw[(hf b z).1]at e;cases e
 have hL:X.env.locals∉fp:=λz=>(hf _ z).2.1 rfl;erw[I.step (g':=s.gens) (d':=s.drawn) (ch:=fp) (λb hb=>?_) (λb o _ _ hc e _=>k b o hc e) (λb o _ _ hc e _=>#[o.slots,k b o hc e]) (λ_ _ _ _ n=>n) (λb o hc e=>#[o,k b o hc e]) (λ_ _ e=>e) (λ_ _ _ e=>e) (λb ps e=>#[#[],by rw[e];simp]) (λm hm=>?_) (λb u e=>?_) I.bare]
 ·let(f0,f1,f2,f3,f4,f5):=hf b hb
  erw[f3,f1,f4,f5]
 ·let(o,es,ep,ho,r):=hm
  erw[o,es,ep,k _ o hL ho,r]
 ·refine(I.bS b u e).rV (λc v hc q=>k c v ?_ q) (λ_ q=>q) λ_ _ q=>q
  rcases hc with z|z
  ·rw[z];erw[zE b u e]
  ·erw[zE c _ z]
end
def eV(b:Bool)(K:aa)(H:Hp)(a:Addr)(xs:List V):Prop:=match b with|true=>aD K H a xs|false=>aU K H a xs
theorem eV.get{X:Cx}{pins:List (Addr×Obj)}{O:St}{H:Hp}{s:af}{b:Bool}{a:Addr}{xs:List V}(I:Inv X pins O H s)(h:eV b X.K H a xs):∃its:List Value,Vals xs its/\ip b s.heap a its.toArray:=by
 cases b
 ·let(its,r,p,_):=I.tuple h;erw[its,r,p]
 ·let(its,r,p,_):=I.list h;erw[its,r,p.isList]
theorem eV.inj{X:Cx}{pins:List (Addr×Obj)}{O:St}{H:Hp}{s:af}{b:Bool}{a:Addr}{xs ys:List V}(I:Inv X pins O H s)(h:eV b X.K H a xs)(g:eV b X.K H a ys):xs=ys:=by
 cases b
 ·erw[I.L3 h g]
 ·erw[I.T4 h g]
def tR(K:aa)(b1 b2:Bool)(l1 l2:Addr):It:=#[λi H=>∃xs ys x y,eV b1 K H l1 xs/\eV b2 K H l2 ys/\xs[i]? =some x/\ys[i]? =some y,λi H v H'=>∃T x y,v= .ref T/\(∀xs,eV b1 K H l1 xs->xs[i]? =some x)/\(∀ys,eV b2 K H l2 ys->ys[i]? =some y)/\Nw H H' T (.tup [x,y]),λi H=>∃xs ys,eV b1 K H l1 xs/\eV b2 K H l2 ys/\(xs.length<=i\/ys.length<=i)]
theorem Y6{P:ag}{w:World}{K:aa}{elts:List Expr}{kt:Nat}{pos:Pos}{b1 b2:Bool}{z TI TO i1 i2 l1 l2:Addr}(D:ZipApart z TI TO i1 i2 l1 l2): Turn P w K (.Tuple elts kt pos) (tR K b1 b2 l1 l2) [z,TI,TO,i1,i2] z (λi h=>Zp b1 b2 h z TI TO i1 i2 l1 l2 .none i) where
 mem:=by simp
 obj:=λi h st b hb=>by
  let(hz,mI,(a,c,nH),h1,h2):=st;simp only[cM,iu,kE]at hb;rcases hb with rfl|rfl|rfl|rfl|rfl
  ·erw[_,hz,λv e=>by cases e]
  ·erw[_,mI,λv e=>by cases e]
  ·erw[_,nH,λv e=>by cases e]
  ·let(o,e,_,n):=h1.ob;erw[o,e,n]
  ·let(o,e,_,n):=h2.ob;erw[o,e,n]
 keep:=λi h h' st k=>by let(hz,mI,(a,c,nH),h1,h2):=st;erw[k z (by simp) _ hz,k TI (by simp) _ mI,#[a,c,k TO (by simp) _ nH],h1.to λo e=>k i1 (by simp) o e,h2.to λo e=>k i2 (by simp) o e]
 item:=by
  intro X hP hw hK hc i pins s O H E I hf st hg;subst hP hw hK;let(xs,ys,x,y,q1,q2,e1,e2):=hg;let(HZ,r1,p1):=q1.get I;let(lR,r2,p2):=q2.get I;let(u1,Ij,jh):=r1.get e1;let(u2,hu2,mW):=r2.get e2;have hT:s.TypeIs (.ref z) "zip":=#[_,st.zz,Z];unfold pyNext;erw[aJ (wpAny_attempt (Ee (name:=Str.ofString "__next__") hT Kl (Ed Kl hT PySem.F.entry_zip_next (Xu D st p1 p2 (x:=u1) (y:=u2) (by simpa using Ij) (by simpa using hu2) λg zg tg kp=>cf ?_) (PySem.F.args_zip_next_1 _))))];erw[_,Z,?_];erw[wpAny_letOwnedTupleGo_zip zg.zz λg' Xs sb=>?_];have hs:=sb.extBut;have EB:z<s.heap.objs.size:=cE st.zz;have nw:Nw H (upd H s.heap.objs.size (.tup [x,y])) s.heap.objs.size (.tup [x,y]):=.of (I.bS.fresh (aV _));have I1:Inv X pins O (upd H s.heap.objs.size (.tup [x,y])) {s with heap:=s.heap.push {cls:=.type "tuple",data:=.seq (List.toArray [u1,u2])}}:=I.laid (t':=s.toks) (λb ob q=>cF _ q) (aV _) #[by show 2<=sizeLine;decide,[u1,u2],.cons jh (.cons mW .nil),#[_,eJ _ Z,Z,_,Z]];have Hi:∀b∈[z,TI,TO,i1,i2],b<s.heap.objs.size:=λb hb=>by
   simp only[cM,iu,kE]at hb;let(hz,mI,(a,c,nH),h1,h2):=st;rcases hb with rfl|rfl|rfl|rfl|rfl
   ·erw[cE hz]
   ·erw[cE mI]
   ·erw[cE nH]
   ·let(o,e,_):=h1.ob;erw[cE e]
   ·let(o,e,_):=h2.ob;erw[cE e]
  have hn:∀b∈[z,TI,TO,i1,i2],upd H s.heap.objs.size (.tup [x,y]) b=none:=λb hb=>by rw[aY (eY (Hi b hb))];exact(hf b hb).1
  have I2:Inv X pins O (upd H s.heap.objs.size (.tup [x,y])) {s with heap:=g'}:=Inv.yA (s:={s with heap:=s.heap.push {cls:=.type "tuple",data:=.seq (List.toArray [u1,u2])}}) (t':=s.toks) (fp:=[z,TI,TO,i1,i2]) I1 (λb o hb e=>by
   have e:(s.heap.push {cls:=.type "tuple",data:=.seq (List.toArray [u1,u2])}).get? b=some o:=e;have nz:b≠z:=λq=>hb (by simp[q]);rcases Heap.get?_push_cases e with⟨IE,rfl⟩|e'
   ·subst IE
    erw[hs _ _ nz tg]
   ·erw[hs _ _ nz (kp b o nz (λq=>hb (by simp[q])) (λq=>hb (by simp[q])) (λq=>hb (by simp[q])) e')]) (λb hb=>by let(f0,f1,f2,f3,f4,f5):=hf b hb;erw[hn b hb,f1,f2,f3,f4,f5]);erw[.ref s.heap.objs.size,_,I2,Z,#[s.heap.objs.size,x,y,Z,λzs hz=>?_,λzs hz=>?_,nw],?_,hn]
  ·rw[eV.inj I hz q1];erw[e1]
  ·rw[eV.inj I hz q2];erw[e2]
  ·let(_,mI,(a,c,nH),h1,h2):=zg
   erw[Xs,hs _ _ D.TIz mI,#[a,c,hs _ _ D.TOz nH],h1.to λo e=>hs _ o D.i1z e,h2.to λo e=>hs _ o D.i2z e]
 done:=by intro X hP hw hK hc i pins s O H E I hf st hg;subst hP hw hK;let(xs,ys,q1,q2,nG):=hg;let(HZ,r1,p1):=q1.get I;let(lR,r2,p2):=q2.get I;have hT:s.TypeIs (.ref z) "zip":=#[_,st.zz,Z];have l1:=r1.length;have l2:=r2.length;unfold pyNext;erw[aJ (wpAny_attempt (Ee (name:=Str.ofString "__next__") hT Kl (Ed Kl hT PySem.F.entry_zip_next (Xv (I.ok.hd hc) D st p1 p2 (nG.imp (λh=>by simp;lia) λh=>by simp;lia) λg e kp he=>?_) (PySem.F.args_zip_next_1 _))))];let(o,ho,hZ):=he;erw[aJ (wpAny_isInstance (T:="StopIteration") (b:=true) #[o,ho,hZ] isSubtype_stop (cf #[Z,?_]))];erw[I.yA (t':=s.toks) (fp:=[z,TI,TO,i1,i2]) (λb o hb e=>kp b o (λq=>hb (by simp[q])) (λq=>hb (by simp[q])) (λq=>hb (by simp[q])) (λq=>hb (by simp[q])) e) hf]
 self:=λ_ _ _ _ _ st h=>wpAny_pyIter_zip st.zz h
inductive aeU(K:aa)(b1:Bool)(b2:Bool)(R:It->Hp->Prop)(vs:List V)(H1:Hp):Prop |mk (l1:_)(l2:_)(h0:vs=[.ref l1,.ref l2])(h1:(∃xs,eV b1 K H1 l1 xs))(h2:(∃ys,eV b2 K H1 l2 ys))(h3:R (tR K b1 b2 l1 l2) H1)
def a6N(K:aa)(b1 b2:Bool)(ta:TA):TI:=λO H R=>ta O H λvs H1=>aeU K b1 b2 R vs H1
theorem oC(K:aa){X:Cx}(hK:X.K=K)(b1 b2:Bool){elts:List Expr}{kt:Nat}{pO:Pos}{a b:Expr}{ta:TA}{p pos:Pos}(hg:Gl X "zip")(hm:X.mg "zip"=none)(ha:PA X [a,b] ta)(hs:autoParam (starEach [a,b] X.env=[(false,eval a X.env),(false,eval b X.env)]) r8_._auto_1)(hV:autoParam (starEach [b] X.env=[(false,eval b X.env)]) r8_._auto_1): PI X (.Tuple elts kt pO) (.Call (.Name "zip" p) [a,b] [] pos) (a6N K b1 b2 ta):=by
 subst hK;intro pins s O H R I h;erw[Call_ (qv I hg hm PyProof.Rows.boot_zip (yf (aZ (ha pos pins s O H _ I h) λus s1 #[vs,H1,I1,r1,q1]=>?_) (by rw[hs,hV]) (by rw[hV];rfl)))];let(l1,l2,e,(xs,h1),(ys,h2),q):=q1;subst e;let(u1,u2,rfl,jh,mW):=vals2 r1;cases(show u1=Value.ref l1 from jh);cases(show u2=Value.ref l2 from mW);let(HZ,v1,p1):=h1.get I1;let(lR,v2,p2):=h2.get I1;have a1:l1<s1.heap.objs.size:=by cases b1<;>(let(o,e,_):=p1;erw[cE e])
 have a2:l2<s1.heap.objs.size:=by cases b2<;>(let(o,e,_):=p2;erw[cE e])
 erw[Xw p1 p2 λg zg kp=>wpAny_pyIter_zip zg.zz ?_];erw[_,_,_,_,H1,Z,I1.kept (t':=s1.toks) kp,Y6 (zipApart_new a1 a2),zg,λc hc=>?_,q];have hle:s1.heap.objs.size<=c:=by simp only[cM,iu,kE]at hc;rcases hc with rfl|rfl|rfl|rfl|rfl<;>first|erw[aV _]|erw[Nat.le_add_right _ _]
 erw[I1.qG hle (I1.bS.fresh hle)]
theorem eV.go{K:aa}(s:aF H H')(h:eV b K H a xs):eV b K H' a xs:=by
 cases b
 ·erw[aU.go s h]
 ·erw[aD.go s h]
theorem abq{K:aa}{bs:List Bool}{D:Addr}{n:Nat}(rest:St)(hn:n=2)(h1:eV b1 K H l1 xs)(h2:eV b2 K H l2 ys)(nw:Nw H H0 D (.lst [])) (hl:min xs.length ys.length=bs.length)(hz:bs.length<=1000) (hs:∀(i:Nat)(x y:V)(b:Bool)(H2:Hp)(Q':VK),xs[i]? =some x->ys[i]? =some y->bs[i]? =some b->aF H H2->(∀H3,aF H2 H3->Q' (.bl b) H3)->te (some x::some y::rest) H2 Q') (hq:∀H',aF H H'->H' D=some (.lst (bs.map V.bl))->Q (.ref D) H'):m6 (tR K b1 b2 l1 l2) (A9 K n (vo (gs 0) (vo (gs 1) Dw))) kI te Q D (none::none::rest) H0:=by
 subst hn;have hD:=nw.no;erw[xO bs.length (λi O H2=>aF H H2/\H2 D=some (.lst ((bs.take i).map V.bl))/\∃v v',O=v::v'::rest) ?_ ?_ ?_]
 ·erw[nw.same,nw.at',none,none,Z]
 ·rintro i O H2 hi ⟨s2,d2,v,v',rfl⟩
  have hx:i<xs.length:=by lia
  have hy:i<ys.length:=by lia
  have ex:=bL hx;have ey:=bL hy;have eb:=bL hi;erw[#[xs,ys,_,_,h1.go s2,h2.go s2,ex,ey],λy' H3 ve=>?_];let(T,x0,y0,rfl,k1,k2,n3):=ve;have e1:=k1 _ (h1.go s2);have e2:=k2 _ (h2.go s2);rw[ex]at e1;rw[ey]at e2;cases e1;cases e2;erw[T,_,Z,aU.of n3.at',Z,_,_,Z,_,_,Z,Z,?_];erw[yes (bM ?_)];erw[hs i _ _ _ _ _ ex ey eb (s2.trans n3.same) λH4 s4=>?_];erw[_,s4 _ _ (n3.same _ _ d2),?_,bs.length-(i+1),ao,Z,ao,λb o e=>?_,?_,_,_,Z]
  ·rw[aW,u7]
   have:(1000:Nat)<sizeLine:=by decide
   lia
  ·rw[aY (eM e hD)];erw[s4 b o (n3.same b o (s2 b o e))]
  ·rw[bZ,lF,eb,fT];rfl
 ·rintro O H2 ⟨s2,d2,v,v',rfl⟩
  erw[#[xs,ys,h1.go s2,h2.go s2,ao],hq H2 s2 ?_];rw[d2,o9]
structure Fl(P:ag)(w:World)(outer:List Env)(H:Hp)(h₁:Heap)(ex:Addr)(H':Hp)(B h:Heap):Prop where
 un:Un (fZ outer) [] H H' h₁ h
 bS:fH P w H' h
 k1:∀b o,h₁.get? b=some o->H b=none->b∉fZ outer->B.get? b=some o
 k2:∀b o,H' b=some o->∃ob,B.get? b=some ob
 k3:∀b o,h₁.get? b=some o->b∉fZ outer->∃ob,B.get? b=some ob
 fr:∀b∈fZ outer,H' b=none
 nw:h₁.get? ex=none
 ne:H' ex=none
theorem Fl.step{P:ag}{w:World}{ay:Heap}(F:Fl P w outer H h₁ ex H' B h)(st:B.StaysIn h)(iX:B.StaysIn h')(up:h.UpToSlots h')(ff:h.FunFrames ay outer):Fl P w outer H h₁ ex H' B h':=by
 have slot:∀b o,h₁.get? b=some o->H b=none->b∈fZ outer->∃sl,h'.get? b=some {o with slots:=sl}:=λb o e n hb=>by let(sl,e1):=F.un.slot b o e n hb (by simp);let(_,o2,e2,hd):=ff.mem hb;rw[e1]at e2;cases e2;let(Fg,e3):=up b _ e1 (λvs=>hd vs);erw[Fg,e3]
 erw[#[λb o e n hb _=>iX b o (F.k1 b o e n hb),λb o e n hb _=>slot b o e n hb,F.un.free,λb o e hx=>?_,F.un.lI,F.un.kX,F.un.lJ],λb u e=>?_,F.k1,F.k2,F.k3,F.fr,F.nw,F.ne]
 ·by_cases hb:b∈fZ outer
  ·let(_,o2,e2,hd):=ff.mem hb
   let(sl,e3):=up b o2 e2 hd;erw[_,e3]
  ·let(ob,e1):=F.k3 b o e hb
   erw[ob,iX b ob e1]
 ·refine(F.bS b u e).rV (λc v hc q=>?_) (λ_ q=>q) λ_ _ q=>q
  have inB:∃ob,B.get? c=some ob:=by
   rcases hc with z|z
   ·rw[z];erw[F.k2 b u e]
   ·erw[F.k2 c _ z]
  let(ob,e1):=inB;have e2:=st c ob e1;rw[q]at e2;cases e2;erw[iX c _ e1]
section
variable {P:ag}{w:World}{K:aa}{mg:cm}{ay:Heap}{N:List Str}{qual:Str}{scope:Scope}{f:Addr}{cd:Value}{A:ai}{outer:List Env}{s:af}{H:Hp}{E:XK}{pins:List (Addr×Obj)}{O:St}{H1:Hp}{s1:af}{h2:Heap}{ex:Addr}{cls:Value}{vs:List Value}
end
section
variable {X:Cx}{x:Str}{C:Addr}{VZ:List Value}{newId TH B:String}{e:Expr}{t:TA}{np cA pos:Pos}
end
section
variable {M:Model}{A:ai}{Ex:Value->af->Prop}
end
section
variable {X:Cx}{k:Nat}{x:Str}{p pos:Pos}{e:Expr}{es:List Expr}{t:TA}{sp:Sp}
end
section
variable {X:Cx}{pins:List (Addr×Obj)}{O:St}{H:Hp}{s:af}
end
section
variable {X:Cx}{i:Nat}{n y:Str}{Dc:Addr}{JJ:List Value}{newD:String}{body ET:List Stmt}{b0:Stmt}{np zU pos:Pos}{tb:XK->TS}{th:TS}{Cs:Addr->Prop}
end
end _L
namespace _L
open PySem PySem.Spec PyProof.Rows PySem.W Builtin.Getset_descriptor
section
variable {prog:ag}{w:World}{A:ai}{E:Value->af->Prop}{h:Heap}{g:Array GenState}{d:Drawn}{t:Nat}{os:OsState}{K:Frag}{x C:Addr}{o:Obj}
end
end _L
namespace _L
open PySem PySem.Spec PyProof.Rows
section
variable {X:Cx}
end
end _L
namespace _A
theorem a8H(a b:Int):Int.gcd b (a.fmod b)=Int.gcd a b:=by rw[Int.fmod_def,Int.gcd_sub_mul_left_right,Int.gcd_comm]
theorem a8I(h:0<b):Int.gcd b (a%b)=Int.gcd a b:=by rw[<-Xl a (Ez h)];erw[a8H a b]
def sg(p q:Int):Int:=if q<0 then-(Int.gcd p q:Int)else(Int.gcd p q:Int)
def lowP (p q:Int):Int:=p.fdiv (sg p q)
def hU (p q:Int):Int:=q.fdiv (sg p q)
theorem IM(h:q≠0):0<(Int.gcd p q:Int):=by
 have:Int.gcd p q≠0:=λz=>h (Int.gcd_eq_zero_iff.mp z).2
 lia
theorem yR(h:q≠0):sg p q≠0:=by have:=IM (p:=p) h;unfold sg;split<;>omega
theorem Mb(p q:Int):sg p q∣p:=by
 unfold sg;split
 ·erw[Int.neg_dvd.mpr (Int.gcd_dvd_left p q)]
 ·erw[Int.gcd_dvd_left p q]
theorem Ma(p q:Int):sg p q∣q:=by
 unfold sg;split
 ·erw[Int.neg_dvd.mpr (Int.gcd_dvd_right p q)]
 ·erw[Int.gcd_dvd_right p q]
theorem Ho(p q:Int):sg p q*lowP p q=p:=by unfold lowP;rw[Int.fdiv_eq_ediv_of_dvd (Mb p q)];erw[Int.mul_ediv_cancel' (Mb p q)]
theorem CQ(p q:Int):sg p q*hU p q=q:=by unfold hU;rw[Int.fdiv_eq_ediv_of_dvd (Ma p q)];erw[Int.mul_ediv_cancel' (Ma p q)]
theorem Mc(p q:Int):(sg p q).natAbs=Int.gcd p q:=by unfold sg;split<;>lia
theorem a5R(h:q≠0):Int.gcd (lowP p q) (hU p q)=1:=by
 have e:Int.gcd (sg p q*lowP p q) (sg p q*hU p q)=(sg p q).natAbs*Int.gcd (lowP p q) (hU p q):=Int.gcd_mul_left _ _ _;rw[Ho,CQ,Mc]at e;have g:=IM (p:=p) h;have g':0<Int.gcd p q:=by lia
 have e':Int.gcd p q*1=Int.gcd p q*Int.gcd (lowP p q) (hU p q):=by lia
 exact(Nat.eq_of_mul_eq_mul_left g' e').symm
theorem a5S(h:q≠0):0<hU p q:=by
 have e:=CQ p q;have g:=IM (p:=p) h;by_cases hq:q<0
 ·have es:sg p q=-(Int.gcd p q:Int):=by unfold sg;rw[ba hq]
  rw[es]at e;erw[Int.not_le.mp λhl=>?_];have:0<=-(Int.gcd p q:Int)*hU p q:=Xj ao hl
  lia
 ·have es:sg p q=(Int.gcd p q:Int):=by unfold sg;rw[bc hq]
  rw[es]at e;erw[Int.not_le.mp λhl=>?_];have:(Int.gcd p q:Int)*hU p q<=0:=Int.mul_nonpos_of_nonneg_of_nonpos ao hl
  lia
theorem Wv{s x y:Int}(hs:s≠0)(e:s*x=y):x.natAbs<=y.natAbs:=by rw[<-e,iH];erw[Nat.le_mul_of_pos_left _ ao]
theorem a5T(h:q≠0):(lowP p q).natAbs<=p.natAbs:=Wv (yR h) (Ho p q)
theorem SQ(h:q≠0):(hU p q).natAbs<=q.natAbs:=Wv (yR h) (CQ p q)
theorem a0s(h:q≠0):(sg p q).natAbs<=q.natAbs:=by rw[Mc];erw[Nat.le_of_dvd ao (Int.gcd_dvd_natAbs_right p q)]
end _A
namespace _b
open Rat
theorem Hn(hb:b≠0):_A.lowP a b=(Rat.divInt a b).num/\_A.hU a b=((Rat.divInt a b).den:Int):=by
 have hp:=_A.a5S (p:=a) hb;have hc:=_A.a5R (p:=a) hb;have a7Y:(_A.hU a b).natAbs≠0:=by lia
 have a82:(_A.lowP a b).natAbs.Coprime (_A.hU a b).natAbs:=hc;have e1:Rat.divInt a b=Rat.divInt (_A.lowP a b) (_A.hU a b):=by have h:=Rat.divInt_mul_left (a:=_A.sg a b) (n:=_A.lowP a b) (d:=_A.hU a b) (_A.yR hb);rw[_A.Ho,_A.CQ]at h;erw[h]
 have e2:(#[_A.lowP a b,(_A.hU a b).natAbs,a7Y,a82]:Rat)=Rat.divInt (_A.lowP a b) (((_A.hU a b).natAbs:Nat):Int):=Rat.mk_eq_divInt;have e3:(((_A.hU a b).natAbs:Nat):Int)=_A.hU a b:=by lia
 rw[e3]at e2;rw[e1,<-e2];erw[Z,e3.symm]
theorem den_pos(r:Rat):(0:Int)<(r.den:Int):=by have:=r.den_pos;omega
theorem cop(r:Rat):Int.gcd r.num r.den=1:=by have:=r.reduced;simpa[Int.gcd,Nat.Coprime]using this
structure Bd(n:Nat)(r:Rat):Prop where
 num:r.num.natAbs<2^n
 den:r.den<2^n
theorem Bd.mono{n:Nat}(h:Bd n r)(l:n<=m):Bd m r:=#[gK h.num (tY aw l),gK h.den (tY aw l)]
theorem sD{n:Nat}(h:a<2^n)(g:b<2^m):a*b<2^(n+m):=by rw[Nat.pow_add];erw[Nat.mul_lt_mul'' h g]
theorem kP{n:Nat}(hb:b≠0)(h1:a.natAbs<2^n)(h2:b.natAbs<2^n):Bd n (Rat.divInt a b):=by
 let(e1,e2):=Hn (a:=a) hb;have l1:=_A.a5T (p:=a) hb;have l2:=_A.SQ (p:=a) hb;erw[?_,?_]
 ·rw[<-e1];lia
 ·lia
theorem Ao(r s:Rat):(r.den:Int)*(s.den:Int)≠0:=Int.ne_of_gt (jd (den_pos r) (den_pos s))
theorem add_div(r s:Rat):r+s=Rat.divInt (r.num*s.den+s.num*r.den) (r.den*s.den):=by have h:=Rat.divInt_add_divInt r.num s.num (d₁:=r.den) (d₂:=s.den) (by have:=den_pos r;lia) (by have:=den_pos s;lia);rw[vZ,vZ]at h;erw[h]
theorem Z0(r s:Rat):r-s=Rat.divInt (r.num*s.den-s.num*r.den) (r.den*s.den):=by have h:=WS r.num s.num (d₁:=r.den) (d₂:=s.den) (by have:=den_pos r;lia) (by have:=den_pos s;lia);rw[vZ,vZ]at h;erw[h]
theorem mul_div(r s:Rat):r*s=Rat.divInt (r.num*s.num) (r.den*s.den):=by have h:=WT r.num s.num (d₁:=r.den) (d₂:=s.den);rw[vZ,vZ]at h;erw[h]
section
variable {n m:Nat} {r s:Rat}
theorem abj(h:Bd n r)(g:Bd m s):(r.num*s.den).natAbs<2^(n+m):=by rw[iH];erw[sD h.num (by have:=g.den;omega)]
theorem abi(h:Bd n r)(g:Bd m s):(s.num*r.den).natAbs<2^(n+m):=by rw[iH,En];erw[sD (by have:=h.den;lia) g.num]
theorem Jw(h:Bd n r)(g:Bd m s):((r.den:Int)*(s.den:Int)).natAbs<2^(n+m):=by rw[iH];erw[sD (by have:=h.den;lia) (by have:=g.den;lia)]
theorem Bd.add(h:Bd n r)(g:Bd m s):Bd (n+m+1) (r+s):=by
 rw[add_div];have h1:=abj h g;have h2:=abi h g;have h3:=Jw h g;have e:2^(n+m+1)=2^(n+m)+2^(n+m):=by rw[wc];omega
 erw[kP (Ao r s) aL aL]
theorem Bd.mul(h:Bd n r)(g:Bd m s):Bd (n+m) (r*s):=by rw[mul_div];erw[kP (Ao r s) (by rw[iH];erw[sD h.num g.num]) (Jw h g)]
end
end _b
namespace _L
open PySem PySem.Spec PyProof.Rows
def fm(H H':Hp):Prop:=∀b o,(∀xs,o≠ .lst xs)->H b=some o->H' b=some o
section
variable {K:aa} {H H' H2:Hp}
theorem fm.trans(a:fm H H')(b:fm H' H2):fm H H2:=λc o n e=>b c o n (a c o n e)
theorem fm.iW{D:Addr}(h:H D=some (.lst xs)):fm H (upd H D (.lst ys)):=λb o n e=>by rw[aY (zG e h (n xs))];erw[e]
theorem aU.t(s:fm H H')(h:aU K H a xs):aU K H' a xs:=h.imp (λr=>r.imp (s _ _ λ_ z=>nomatch z) λ#[o,e]=>#[o,s _ _ (λ_ z=>nomatch z) e]) id
mutual
def dW:ah->Bool | .list _=>false | .dict _=>false | .tuple ds=>cx ds | .none=>true | .bool _=>true | .int _=>true | .str _=>true
def cx:List ah->Bool |[]=>true |d::ds=>dW d&&cx ds
end
theorem dU:∀{ds:List ah},cx ds=true↔∀d∈ds,dW d=true
 |[]=>#[λ_ _ h=>(nomatch h),λ_=>by simp[cx]] |d::ds=>by
  rw[cx,fA,dU (ds:=ds)];constructor
  ·rintro⟨a,b⟩ x hx
   rcases cM.mp hx with rfl|hx
   ·erw[a]
   ·erw[b x hx]
  ·intro h
   erw[h d (.head _),λx hx=>h x (.tail _ hx)]
theorem mm(ns:List Int):cx (ns.map PyData.int)=true:=dU.mpr λd hd=>by let(i,_,rfl):=cJ.mp hd;simp[dW]
mutual
theorem RD.t(s:fm H H'):∀{x:V}(d:ah),dW d=true->RD K H x d->RD K H' x d |x,.none,_,h=>by simpa[RD]using h |x,.bool b,_,h=>by simpa[RD]using h |x,.int i,_,h=>by simpa[RD]using h |x,.str y,_,h=>by simpa[RD]using h |x,.list ds,n,h=>by simp[dW]at n |x,.tuple ds,n,h=>by rw[RD]at h⊢;let(a,xs,e,h1,h2):=h;erw[a,xs,e,h1.t s,aI.t s ds (by simpa[dW]using n) h2] |x,.dict _,_,h=>by simp[RD]at h
theorem aI.t (s:fm H H'):∀{xs:List V}(ds:List ah),cx ds=true->aI K H xs ds->aI K H' xs ds |xs,[],_,h=>by simpa[aI]using h |xs,d::ds,n,h=>by rw[aI]at h⊢;rw[cx,fA]at n;let(y,ys,e,h1,h2):=h;erw[y,ys,e,RD.t s d n.1 h1,aI.t s ds n.2 h2]
end
theorem aI.gj:∀{xs:List V}{ns:List Int},aI K H xs (ns.map PyData.int)->xs=ns.map V.int |xs,[],h=>h.nil_inv |xs,n::ns,h=>by let(y,ys,rfl,h1,h2):=h.cons_inv;rw[h1.int_inv,aI.gj h2];rfl
theorem pW:∀(ns:List Int),aI K H (ns.map V.int) (ns.map PyData.int) |[]=>cW |n::ns=>cG (fO n) (pW ns)
theorem VL{xs:List V}{ds:List ah}{D:Addr}(rest:St)(nw:Nw H H0 D (.lst []))(hl:xs.length=ds.length)(hz:xs.length<=1000)(hn:cx ds=true) (go:∀i x H2,xs[i]? =some x->aF H H2->J.go i H2/\∀y H3,J.je i H2 y H3->H3=H2/\y=x)(stop:∀H2,aF H H2->J.stop xs.length H2) (hs:∀(i:Nat)(x:V)(d:ah)(H2:Hp)(Q':VK),xs[i]? =some x->ds[i]? =some d->aF H H2->(∀y H3,aF H2 H3->RD K H3 y d->Q' y H3)->te (some x::rest) H2 Q') (hq:∀H' ys,aF H H'->H' D=some (.lst ys)->aI K H' ys ds->Q (.ref D) H'):m6 J (gs 0) kI te Q D (none::rest) H0:=by
 have hD:=nw.no;erw[xO xs.length (λi O H2=>aF H H2/\(∃ys,H2 D=some (.lst ys)/\aI K H2 ys (ds.take i))/\∃v,O=v::rest) ?_ ?_ ?_]
 ·erw[nw.same,#[[],nw.at',cW],none,Z]
 ·rintro i O H2 hi ⟨s2,⟨ys,d2,r2⟩,v,rfl⟩
  have Dq:i<ds.length:=by rw[<-hl];erw[hi]
  have ex:=bL hi;have eb:=bL Dq;let(g1,g2):=go i _ H2 ex s2;erw[g1,λy H3 hy=>?_];let(rfl,rfl):=g2 y H3 hy;erw[BB ?_];erw[hs i _ _ _ _ ex eb s2 λz H4 s4 r4=>?_];have d4:=s4 _ _ d2;have len:=r2.length;rw[u7]at len;erw[ys,d4,?_,xs.length-(i+1),ao,Z,ao,λb o e=>?_,#[ys++[z],bZ,?_],_,Z]
  ·have:(1000:Nat)<sizeLine:=by decide
   lia
  ·rw[aY (eM e hD)];erw[s4 b o (s2 b o e)]
  ·have t:fm H4 (upd H4 D (.lst (ys++[z]))):=.iW d4
   rw[lF,eb];have n1:cx (ds.take i)=true:=dU.mpr λd hd=>dU.mp hn d (Bj hd);exact(aI.t t _ n1 (aI.mono s4 _ r2)).append (cG (RD.t t _ (dU.mp hn _ (wj Dq)) r4) cW)
 ·rintro O H2 ⟨s2,⟨ys,d2,r2⟩,v,rfl⟩
  erw[stop H2 s2,hq H2 ys s2 d2 ?_];rw[hl,o9]at r2;erw[r2]
theorem qR{D:Addr}(rest:St)(hx:aU K H a xs)(nw:Nw H H0 D (.lst []))(hl:xs.length=ds.length)(hz:xs.length<=1000)(hn:cx ds=true) (hs:∀(i:Nat)(x:V)(d:ah)(H2:Hp)(Q':VK),xs[i]? =some x->ds[i]? =some d->aF H H2->(∀y H3,aF H2 H3->RD K H3 y d->Q' y H3)->te (some x::rest) H2 Q') (hq:∀H' ys,aF H H'->H' D=some (.lst ys)->aI K H' ys ds->Q (.ref D) H'):m6 (tS K a) (gs 0) kI te Q D (none::rest) H0:=VL rest nw hl hz hn (λi x H2 e s=>#[#[xs,x,hx.go s,e],λy H3 #[e3,y3]=>#[e3,by have:=y3 _ (hx.go s);rw[e]at this;exact(eW this).symm]]) (λH2 s=>#[xs,hx.go s,aV _]) hs hq
theorem vG{D:Addr}(rest:St)(hx:aD K H a xs)(nw:Nw H H0 D (.lst []))(hl:xs.length=ds.length)(hz:xs.length<=1000)(hn:cx ds=true) (hs:∀(i:Nat)(x:V)(d:ah)(H2:Hp)(Q':VK),xs[i]? =some x->ds[i]? =some d->aF H H2->(∀y H3,aF H2 H3->RD K H3 y d->Q' y H3)->te (some x::rest) H2 Q') (hq:∀H' ys,aF H H'->H' D=some (.lst ys)->aI K H' ys ds->Q (.ref D) H'):m6 (tT K a) (gs 0) kI te Q D (none::rest) H0:=VL rest nw hl hz hn (λi x H2 e s=>#[#[xs,x,hx.go s,e],λy H3 #[e3,y3]=>#[e3,by have:=y3 _ (hx.go s);rw[e]at this;exact(eW this).symm]]) (λH2 s=>#[xs,hx.go s,aV _]) hs hq
theorem vF{D:Addr}{n:Nat}(rest:St)(p4:n=2)(h1:eV b1 K H l1 xs)(h2:eV b2 K H l2 ys)(nw:Nw H H0 D (.lst [])) (hl:min xs.length ys.length=ds.length)(hz:ds.length<=1000)(hn:cx ds=true) (hs:∀(i:Nat)(x y:V)(d:ah)(H2:Hp)(Q':VK),xs[i]? =some x->ys[i]? =some y->ds[i]? =some d->aF H H2->(∀z H3,aF H2 H3->RD K H3 z d->Q' z H3)->te (some x::some y::rest) H2 Q') (hq:∀H' zs,aF H H'->H' D=some (.lst zs)->aI K H' zs ds->Q (.ref D) H'):m6 (tR K b1 b2 l1 l2) (A9 K n (vo (gs 0) (vo (gs 1) Dw))) kI te Q D (none::none::rest) H0:=by
 subst p4;have hD:=nw.no;erw[xO ds.length (λi O H2=>aF H H2/\(∃zs,H2 D=some (.lst zs)/\aI K H2 zs (ds.take i))/\∃v v',O=v::v'::rest) ?_ ?_ ?_]
 ·erw[nw.same,#[[],nw.at',cW],none,none,Z]
 ·rintro i O H2 hi ⟨s2,⟨zs,d2,r2⟩,v,v',rfl⟩
  have hx:i<xs.length:=by lia
  have hy:i<ys.length:=by lia
  have ex:=bL hx;have ey:=bL hy;have eb:=bL hi;erw[#[xs,ys,_,_,h1.go s2,h2.go s2,ex,ey],λy' H3 ve=>?_];let(T,x0,y0,rfl,k1,k2,n3):=ve;have e1:=k1 _ (h1.go s2);have e2:=k2 _ (h2.go s2);rw[ex]at e1;rw[ey]at e2;cases e1;cases e2;erw[T,_,Z,aU.of n3.at',Z,_,_,Z,_,_,Z,Z,?_];erw[yes (bM ?_)];erw[hs i _ _ _ _ _ ex ey eb (s2.trans n3.same) λz H4 s4 r4=>?_];have lL:=n3.same.trans s4;have d4:=lL _ _ d2;have len:=r2.length;rw[u7]at len;erw[zs,d4,?_,ds.length-(i+1),ao,Z,ao,λb o e=>?_,#[zs++[z],bZ,?_],_,_,Z]
  ·have:(1000:Nat)<sizeLine:=by decide
   lia
  ·rw[aY (eM e hD)];erw[lL b o (s2 b o e)]
  ·have t:fm H4 (upd H4 D (.lst (zs++[z]))):=.iW d4
   rw[lF,eb];have n1:cx (ds.take i)=true:=dU.mpr λd hd=>dU.mp hn d (Bj hd);exact(aI.t t _ n1 (aI.mono lL _ r2)).append (cG (RD.t t _ (dU.mp hn _ (wj hi)) r4) cW)
 ·rintro O H2 ⟨s2,⟨zs,d2,r2⟩,v,v',rfl⟩
  erw[#[xs,ys,h1.go s2,h2.go s2,ao],hq H2 zs s2 d2 ?_];rw[o9]at r2;erw[r2]
end
theorem Tx:∀{ns:List Int}{us:List Value},Vals (ns.map V.int) us->(∀v∈us,∃a t,v=Value.int a t)/\numsOf us=ns
 |[],_,.nil=>#[λ_ h=>(nomatch h),rfl] |n::ns,_,.cons q r=>by
  let(t,rfl):=(show∃t,_=Value.int n t from q);let(h1,h2):=Tx r;erw[λv hv=>?_,?_]
  ·rcases cM.mp hv with rfl|hv
   ·erw[n,t,Z]
   ·erw[h1 v hv]
  ·show n::numsOf _=_
   rw[h2]
section
variable {X:Cx}
theorem SG(K:aa)(hK:X.K=K)(hc:X.calm=true):fw X (.builtin "max") (λxs H Q=>∃(l:Addr)(ns:List Int),xs=[.ref l]/\aD K H l (ns.map V.int)/\ns≠[]/\∀M,M∈ns->(∀a∈ns,a<=M)->Q (.int M) H):=by
 subst hK;intro pins s O H xs us Q I r h;let(l,ns,rfl,hl,cD,q):=h;let(u,rfl,ru):=vals1 r;cases(show u=Value.ref l from ru);let(its,rv,pl,hz):=I.list hl;let(a1,a2):=Tx rv;have all:AllInts its.toArray:=λv hv=>a1 v (by simpa using hv);let(ps,U8):=all.items;have e0:numsOf (intItems ps).toList=ns:=by rw[<-U8];erw[a2]
 rw[nums_intItems]at e0;have hlen:ps.size=ns.length:=by rw[<-e0,aW,mR]
 have zU:0<ps.size:=by rw[hlen];erw[Bl.mpr cD]
 erw[max_intList (I.ok.hd hc) (by rw[<-U8];erw[pl.isList]) zU λv h' tk hv hk=>?_];let(t,rfl):=intItems_at hv;let(h1,h2):=argBest_gt (numAt ps) (ps.size-1);erw[.int _,H,I.kept hk,#[_,Z],q _ ?_ λa ha=>?_]
 ·rw[numAt_eq,e0];erw[getD_mem aL]
 ·let(j,hj,rfl):=mem_getD ha
  rw[<-e0,<-numAt_eq];erw[h2 j aL]
theorem Tz{ns:List Int}{us:List Value}(r:Vals (ns.map V.int) us){i:Nat}{v:Value}(h:us[i]? =some v):∃n t,ns[i]? =some n/\v=Value.int n t:=by
 have hl:=r.length;rw[aW]at hl;have hi:i<ns.length:=by rw[hl];exact(cK.mp h).1
 let(u,e,ru):=r.get (i:=i) (x:=.int ns[i]) (by rw[bO,bL hi];rfl);rw[h]at e;cases e;let(t,rfl):=(show∃t,v=Value.int ns[i] t from ru);erw[_,t,bL hi,Z]
theorem a1Q(ns:List Int):((List.range ns.length).any λi=>((ns.map (· !=0))[i]?).getD false)=ns.any (· !=0):=by have:=LSm.range_any (ns.map (· !=0));rw[aW]at this;rw[this,List.any_map];rfl
theorem Wo(K:aa)(hK:X.K=K)(hc:X.calm=true):fw X (.builtin "any") (λxs H Q=>∃(l:Addr)(ns:List Int),xs=[.ref l]/\(aD K H l (ns.map V.int)\/aU K H l (ns.map V.int))/\Q (.bl (ns.any (· !=0))) H):=by
 subst hK;intro pins s O H xs us Q I r h;let(l,ns,rfl,hl,q):=h;let(u,rfl,ru):=vals1 r;cases(show u=Value.ref l from ru);have hh:=I.ok.hd hc;have fin:∀(its:List Value),Vals (ns.map V.int) its->((List.range its.toArray.size).any λi=>((ns.map (· !=0))[i]?).getD false)=ns.any (· !=0):=λits rv=>by rw[eH,<-rv.length,aW];erw[a1Q ns]
 rcases hl with hl|hl
 ·let(its,rv,pl,hz):=I.list hl
  have gQ:=pl.isList;have ck:l<s.heap.objs.size:=by let(_,e,_):=gQ;erw[cE e]
  erw[call_any_walk (B7 gQ ?_)];erw[s.heap.objs.size,[s.heap.objs.size,l],[s.heap.objs.size],its.toArray.size,_,_,λi=>((ns.map (· !=0))[i]?).getD false,Z,Walks.list (A:=X.A.in1) hh _ l (eY ck) its.toArray,#[#[_,eJ _ Z,Z,Z],gQ.push _],λi v s' Q' E' hP hQ=>?_,λh' tk hk=>?_]
  ·let(n,t,e,rfl):=Tz rv (i:=i) (v:=v) (by simpa using hP)
   simp only[bO,e]at hQ;erw[truthy_int hQ]
  ·rw[fin its rv]
   erw[.bl _,H,I.kept (LSm.kept_iter hk),Z,q]
 ·let(its,rv,pl,hz):=I.tuple hl
  have gQ:s.heap.IsTuple l its.toArray:=by let((cls,dd,data,sl),ho,jR,n,hd):=pl;erw[_,ho,jR,by simpa using#[n,hd]]
  have ck:l<s.heap.objs.size:=by let(_,e,_):=gQ;erw[cE e]
  erw[call_any_walk (wpAny_pyIter_tuple gQ ?_)];erw[s.heap.objs.size,[s.heap.objs.size,l],[s.heap.objs.size],its.toArray.size,_,_,λi=>((ns.map (· !=0))[i]?).getD false,Z,Walks.tuple (A:=X.A.in1) hh _ l (eY ck) its.toArray,#[#[_,eJ _ Z,Z,Z],gQ.push _],λi v s' Q' E' hP hQ=>?_,λh' tk hk=>?_]
  ·let(n,t,e,rfl):=Tz rv (i:=i) (v:=v) (by simpa using hP)
   simp only[bO,e]at hQ;erw[truthy_int hQ]
  ·rw[fin its rv]
   erw[.bl _,H,I.kept (LSm.kept_iter hk),Z,q]
end
end _L
set_option maxHeartbeats 1000000
namespace _a
open PySem PySem.Spec PyProof.Rows _L
def WE(c m:Int):Prop:=0<=c/\0<=m/\m<2147483648
def gI(H:Hp)(p:Addr):Prop:=∃c m,H p=some (.lst [.int c,.int m])/\WE c m
structure bN(p:Addr)(H H':Hp):Prop where
 bU:gI H' p
 same:∀b o,b≠p->H b=some o->H' b=some o
theorem bN.refl(h:gI H p):bN p H H:=#[h,λ_ _ _ e=>e]
theorem bN.trans(a:bN p H H1)(b:bN p H1 H2):bN p H H2:=#[b.bU,λc o n e=>b.same c o n (a.same c o n e)]
theorem bN.upd(h:WE c m):bN p H (_L.upd H p (.lst [.int c,.int m])):=#[#[c,m,bZ,h],λb o n e=>by rw[aY n];erw[e]]
theorem bN.fi(h:gI H p)(s:aF H H'):bN p H H':=by let(c,m,e,ok):=h;erw[#[c,m,s _ _ e,ok],λb o _ e=>s b o e]
theorem KQ(h0:0<=j)(h:j<=10^40):Wd j:=by
 have:j.natAbs<=10^40:=by lia
 erw[Eo this aG]
theorem gI.ne(h:gI H p):H p≠none:=by let(c,m,e,_):=h;rw[e];erw[λz=>nomatch z]
theorem gI.a51(h:gI H p)(e:H q=some o)(n:∀xs,o≠ .lst xs):q≠p:=by let(c,m,e',_):=h;erw[zG e e' (n _)]
theorem bN.t(bg:gI H p)(b:bN p H H'):fm H H':=λc o n e=>b.same c o (bg.a51 e n) e
theorem bN.a0L(s:aF H0 H)(hp:H0 p=none)(b:bN p H H'):aF H0 H':=λc o e=>b.same c o (eM e hp) (s c o e)
section
variable {K:aa}
theorem Jz{D:Addr}(n:Nat)(rest:_L.St)(nw:Nw H H0 D (.lst []))(bg:gI H p)(hn:n<=1000)(xv:Nat->V) (go:∀i H2,i<n->bN p H H2->J.go i H2/\∀y H3,J.je i H2 y H3->H3=H2/\y=xv i)(stop:∀H2,bN p H H2->J.stop n H2)(Pz:Int->Prop) (hs:∀i H2 (Q':VK),i<n->bN p H H2->(∀z H3,Pz z->bN p H2 H3->Q' (.int z) H3)->te (some (xv i)::rest) H2 Q') (hq:∀H' (is:List Int),bN p H H'->H' D=some (.lst (is.map V.int))->is.length=n->(∀z∈is,Pz z)->Q (.ref D) H'):m6 J (gs 0) kI te Q D (none::rest) H0:=by
 have A6:D≠p:=λe=>bg.ne (e▸nw.no);erw[xO n (λi O H3=>bN p H H3/\(∃is:List Int,H3 D=some (.lst (is.map V.int))/\is.length=i/\∀z∈is,Pz z)/\∃v,O=v::rest) ?_ ?_ ?_]
 ·erw[.fi bg nw.same,#[[],nw.at',Z,λ_ h=>(iu h).elim],none,Z]
 ·rintro i O H3 hi ⟨b3,⟨is,d3,li,pi⟩,v,rfl⟩
  let(g1,g2):=go i H3 hi b3;erw[g1,λy H4 hy=>?_];let(rfl,rfl):=g2 y H4 hy;erw[BB ?_];erw[hs i _ _ hi b3 λz H5 pz b5=>?_];erw[_,b5.same _ _ A6 d3,?_,n-(i+1),ao,Z,ao,?_,#[is++[z],?_,?_,?_],_,Z]
  ·rw[aW,li]
   have:(1000:Nat)<sizeLine:=by decide
   lia
  ·have tL:=b3.trans b5
   erw[?_,λb o n e=>?_]
   ·let(c,m,e,ok):=tL.bU
    erw[c,m,by rw[aY A6.symm];erw[e],ok]
   ·rw[aY (eM e nw.no)];erw[tL.same b o n e]
  ·rw[bZ,fT];rfl
  ·rw[cv,li];rfl
  ·intro y hy
   rcases gy.mp hy with h|h
   ·erw[pi y h]
   ·rw[cV.mp h];erw[pz]
 ·rintro O H3 ⟨b3,⟨is,d3,li,pi⟩,v,rfl⟩
  erw[stop H3 b3,hq H3 is b3 d3 li pi]
theorem a6D(ns:List Int){i:Int}(h0:0<=i)(h:i<ns.length):∃z,z∈ns/\fb (ns.map V.int) i=some (.int z):=by
 have hl:i.toNat<ns.length:=by omega
 erw[ns[i.toNat],wj hl,cB h0 (by rw[bO,bL hl];rfl)]
theorem VJ{D:Addr}(n:Nat)(rest:_L.St)(nw:Nw H H0 D (.lst []))(bg:gI H p)(hn:n<=1000)(xv:Nat->V) (go:∀i H2,i<n->bN p H H2->J.go i H2/\∀y H3,J.je i H2 y H3->H3=H2/\y=xv i)(stop:∀H2,bN p H H2->J.stop n H2)(Pd:Nat->ah->Prop) (hs:∀i H2 (Q':VK),i<n->bN p H H2->(∀y d H3,Pd i d->dW d=true->RD K H3 y d->bN p H2 H3->Q' y H3)->te (some (xv i)::rest) H2 Q') (hq:∀H' ys ds,bN p H H'->H' D=some (.lst ys)->aI K H' ys ds->ds.length=n->cx ds=true->(∀i d,ds[i]? =some d->Pd i d)->Q (.ref D) H'):m6 J (gs 0) kI te Q D (none::rest) H0:=by
  have A6:D≠p:=λe=>bg.ne (e▸nw.no);erw[xO n (λi O H3=>bN p H H3/\(∃ys ds,H3 D=some (.lst ys)/\aI K H3 ys ds/\ds.length=i/\cx ds=true/\∀j d,ds[j]? =some d->Pd j d)/\∃v,O=v::rest) ?_ ?_ ?_]
  ·erw[.fi bg nw.same,#[[],[],nw.at',cW,Z,Z,λj d e=>by simp at e],none,Z]
  · rintro i O H3 hi ⟨b3,⟨ys,ds,d3,r3,li,ni,pi⟩,v,rfl⟩
    let(g1,g2):=go i H3 hi b3;erw[g1,λy H4 hy=>?_];let(rfl,rfl):=g2 y H4 hy;erw[BB ?_];erw[hs i _ _ hi b3 λz d H5 pz nz rz b5=>?_];have d5:=b5.same _ _ A6 d3;have t:fm H5 (_L.upd H5 D (.lst (ys++[z]))):=.iW d5;erw[ys,d5,?_,n-(i+1),ao,Z,ao,?_,#[ys++[z],ds++[d],bZ,?_,?_,?_,?_],_,Z]
    · rw[r3.length,li]
      have:(1000:Nat)<sizeLine:=by decide
      lia
    · have tL:=b3.trans b5
      erw[?_,λb o n e=>?_]
      · let(c,m,e,ok):=tL.bU
        erw[c,m,by rw[aY A6.symm];erw[e],ok]
      ·rw[aY (eM e nw.no)];erw[tL.same b o n e]
    ·exact(aI.t ((bN.t b3.bU b5).trans t) _ ni r3).append (cG (RD.t t _ nz rz) cW)
    ·rw[cv,li];rfl
    ·exact dU.mpr λx hx=>by
        rcases gy.mp hx with h|h
        ·erw[dU.mp ni x h]
        ·rw[cV.mp h];erw[nz]
    · intro j e he
      by_cases hj:j<ds.length
      · rw[oj hj]at he
        erw[pi j e he]
      · have qC:j=ds.length:=by
          have:=(cK.mp he).1;rw[cv]at this;have:j<ds.length+1:=this
          lia
        subst qC;rw[oh (aV _),Bg]at he;cases he;rw[li];erw[pz]
  · rintro O H3 ⟨b3,⟨ys,ds,d3,r3,li,ni,pi⟩,v,rfl⟩
    erw[stop H3 b3,hq H3 ys ds b3 d3 r3 li ni pi]
end
end _a
namespace _L
open PySem PySem.Spec PyProof.Rows
abbrev DD(b:Bool)(h:Heap)(l:Addr):Heap:=h.push {cls:=.type (tI b),data:=.fields (List.toArray [.ref l,.int 0 0])}
abbrev Jn(b:Bool)(h:Heap)(l:Addr):Heap:=(DD b h l).push {cls:=.type "enumerate",data:=.fields (List.toArray [.none,.bool false,.ref h.objs.size,rawInt 0,.none,.none])}
theorem aaR(b:Bool)(l:Addr)(xs:Array Value):Meets (Builtin.«enumerate.__new__» #[[.type "enumerate",.ref l],[]]) (λ_ R s=>ip b s.heap l xs/\R (.ok (.ret (.ref (DD b s.heap l).objs.size))) {s with heap:=Jn b s.heap l}):=.of_wp λprog w A R s h=>by
 let(hp,gg,d,tk,os):=s;let(hl,h):=h;have a72:=sub_enumerate;have hL:ip b (Shared.heap #[hp,gg,d,tk,os]) l xs:=hl
 wp_walk using xi hL;erw[wpAny_stack_any λst=>cf ?_];split
 ·rename_i c _ _ _ _ _
  cases(c==Value.type "enumerate")
  ·wp_walk using xi hL
   erw[_,Z,h]
  ·wp_walk using xi hL
   erw[_,Z,h]
 ·wp_walk using xi hL
  erw[_,Z,h]
section
variable {prog:ag}{w:World}{A:ai}{E:Value->af->Prop}{s:af}
theorem aaS{b:Bool}{l:Addr}{xs:Array Value}{Q:Value->af->Prop}(hl:ip b s.heap l xs) (q:∀g,IsEnum g (s.heap.objs.size+1) s.heap.objs.size 0 .none->kC b g s.heap.objs.size l 0->(∀c o,s.heap.get? c=some o->g.get? c=some o)->Q (.ref (s.heap.objs.size+1)) {s with heap:=g}): wpAny (model prog w) A (call (.type "enumerate") [.ref l]) Q E s:=by erw[callType_new PySem.F.called_enumerate aw (PySem.F.typeCall_enumerate_1 _) (PySem.F.newCall_enumerate_1 _) (λobj=>PySem.F.args_object_init_2 obj _) PySem.F.entry_enumerate_new (aaR b l xs) #[hl,?_]];have z1:(DD b s.heap l).objs.size=s.heap.objs.size+1:=pL ..;have g2:(Jn b s.heap l).get? (DD b s.heap l).objs.size=some _:=eJ _ rfl;have g1:(Jn b s.heap l).get? s.heap.objs.size=some _:=cF _ (eJ _ Z);show _/\_;rw[z1]at g2⊢;erw[#[_,g2,Z],q _ g2 ?_ λc o e=>cF _ (cF _ e)];cases b<;>erw[_,g1,rfl,rfl]
theorem Va{b:Bool}{it l:Addr}{xs:Array Value}(hh:A.handled=none)(ne:l≠it):Draws prog w A it [it,l] xs.size (λi x=>xs[i]? =some x) (λi h=>kC b h it l i/\ip b h l xs) where
 live:=λi h st=>by let(o,e,_):=st.1.ob;erw[o,e]
 frame:=λi h h' st k=>#[st.1.to λo e=>k it (by simp) o e,st.2.to λo e=>k l (by simp) o e]
 item:=λi s Q E hi st hQ=>Cw st.1 st.2 (x:=xs[i]) (by simp[hi]) λg gi sb=>hQ _ g s.toks (by simp[hi]) #[gi,st.2.to λo e=>sb.extBut _ _ ne e] sb
 done:=λs Q E st hE=>Jj hh st.1 st.2 (by simp) λg e a b=>hE g e a b
end
def AV(K:aa)(b:Bool)(l:Addr):It:=#[λi H=>∃xs x,eV b K H l xs/\xs[i]? =some x,λi H v H'=>∃T x,v= .ref T/\(∀xs,eV b K H l xs->xs[i]? =some x)/\Nw H H' T (.tup [.int i,x]),λi H=>∃xs,eV b K H l xs/\xs.length=i]
theorem Yc{P:ag}{w:World}{K:aa}{elts:List Expr}{kt:Nat}{pos:Pos}{b:Bool}{e it l:Addr}(D:e≠it): Turn P w K (.Tuple elts kt pos) (AV K b l) [e,it] e (λi h=>(∃old,IsEnum h e it i old)/\kC b h it l i) where
 mem:=by simp
 obj:=λi h st c hc=>by
  let((old,he),h1):=st;simp only[cM,iu,kE]at hc;rcases hc with rfl|rfl
  ·erw[_,he,λv e=>by cases e]
  ·let(o,e,_,n):=h1.ob;erw[o,e,n]
 keep:=λi h h' st k=>by let((old,he),h1):=st;erw[#[old,k e (by simp) _ he],h1.to λo q=>k it (by simp) o q]
 item:=by
  intro X hP hw hK hc i pins s O H E I hf st hg;subst hP hw hK;let(xs,x,q1,e1):=hg;let(its,r1,p1):=q1.get I;let(u1,Ij,jh):=r1.get e1;let((old,he),h1):=st;let(oi,ky,ci,_):=h1.ob;have Hw:∃o,s.heap.get? l=some o/\(o.cls= .type "list"\/o.cls= .type "tuple"):=by cases b<;>(let(o,ho,cc,_):=p1;first|erw[o,ho,.inl cc]|erw[o,ho,.inr cc])
  let(ol,qA,cl):=Hw;have nel:e≠l:=λz=>by subst z;rw[he]at qA;cases qA;rcases cl with h|h<;>simp at h
  have nil:l≠it:=λz=>by subst z;rw[ky]at qA;cases qA;rw[ci]at cl;cases b<;>(rcases cl with h|h<;>simp[tI]at h)
  have ck:i<its.toArray.size:=by rw[eH,<-r1.length];exact(cK.mp e1).1
  erw[wpAny_pyNext_enum_itemD (Va (I.ok.hd hc) nil) he #[h1,p1] ck D (by simp[D,nel]) λy h' tk hPy ho nu hT hsz kp=>#[_,Z,?_]];have ey:y=u1:=by
   have a1:its.toArray[i]? =some y:=hPy;have a2:its.toArray[i]? =some u1:=by simpa using Ij
   rw[a1]at a2;erw[eW a2]
  subst ey;erw[wpAny_letOwnedTupleGo_enum ho λg' IC sb=>?_];have hs:=sb.extBut;have elt:e<s.heap.objs.size:=cE he;have ilt:it<s.heap.objs.size:=cE ky;have nw:Nw H (upd H s.heap.objs.size (.tup [.int i,x])) s.heap.objs.size (.tup [.int i,x]):=.of (I.bS.fresh (aV _));have I1:Inv X pins O (upd H s.heap.objs.size (.tup [.int i,x])) {s with heap:=s.heap.push {cls:=.type "tuple",data:=.seq (List.toArray [.int i tk,y])},toks:=tk+1}:=I.laid (t':=tk+1) (λb ob q=>cF _ q) (aV _) #[by show 2<=sizeLine;decide,[.int i tk,y],.cons #[tk,Z] (.cons jh .nil),#[_,eJ _ Z,Z,_,Z]];have Hi:∀c∈[e,it],c<s.heap.objs.size:=λc hc=>by
   simp only[cM,iu,kE]at hc;rcases hc with rfl|rfl
   ·erw[elt]
   ·erw[ilt]
  have hn:∀c∈[e,it],upd H s.heap.objs.size (.tup [.int i,x]) c=none:=λc hc=>by rw[aY (eY (Hi c hc))];exact(hf c hc).1
  have I2:Inv X pins O (upd H s.heap.objs.size (.tup [.int i,x])) {s with heap:=g',toks:=tk+1}:=Inv.yA (s:={s with heap:=s.heap.push {cls:=.type "tuple",data:=.seq (List.toArray [.int i tk,y])},toks:=tk+1}) (t':=tk+1) (fp:=[e,it]) I1 (λc o hc q=>by
   have q:(s.heap.push {cls:=.type "tuple",data:=.seq (List.toArray [.int i tk,y])}).get? c=some o:=q;have nz:c≠e:=λz=>hc (by simp[z]);rcases Heap.get?_push_cases q with⟨IE,rfl⟩|q'
   ·subst IE
    erw[hs _ _ nz hT]
   ·erw[hs _ _ nz (kp c o nz (λz=>hc (by simp[z])) q')]) (λc hc=>by let(f0,f1,f2,f3,f4,f5):=hf c hc;erw[hn c hc,f1,f2,f3,f4,f5]);erw[.ref s.heap.objs.size,_,I2,Z,#[s.heap.objs.size,x,Z,λzs hz=>?_,nw],#[#[_,by simpa using IC],nu.1.to λo q=>hs _ o (kG D) q],hn];rw[eV.inj I hz q1];erw[e1]
 done:=by
  intro X hP hw hK hc i pins s O H E I hf st hg;subst hP hw hK;let(xs,q1,nG):=hg;let(its,r1,p1):=q1.get I;let((old,he),h1):=st;let(oi,ky,ci,_):=h1.ob;have Hw:∃o,s.heap.get? l=some o/\(o.cls= .type "list"\/o.cls= .type "tuple"):=by cases b<;>(let(o,ho,cc,_):=p1;first|erw[o,ho,.inl cc]|erw[o,ho,.inr cc])
  let(ol,qA,cl):=Hw;have nil:l≠it:=λz=>by subst z;rw[ky]at qA;cases qA;rw[ci]at cl;cases b<;>(rcases cl with h|h<;>simp[tI]at h)
  have hi:i=its.toArray.size:=by rw[eH,<-r1.length];erw[nG.symm]
  subst hi;erw[wpAny_pyNext_enum_endD (Va (I.ok.hd hc) nil) he #[h1,p1] λh' kp=>#[Z,?_]];erw[I.yA (t':=s.toks) (fp:=[e,it]) (λc o hc q=>kp c o (λz=>hc (by simp[z])) q) hf]
 self:=λ_ _ _ _ _ st h=>by let((old,he),_):=st;erw[wpAny_pyIter_enum he h]
inductive af1(K:aa)(b:Bool)(R:It->Hp->Prop)(vs:List V)(H1:Hp):Prop |mk (l:_)(h0:vs=[.ref l])(h1:(∃xs,eV b K H1 l xs))(h2:R (AV K b l) H1)
def a6S(K:aa)(b:Bool)(ta:TA):TI:=λO H R=>ta O H λvs H1=>af1 K b R vs H1
theorem zf(K:aa){X:Cx}(hK:X.K=K)(b:Bool){elts:List Expr}{kt:Nat}{pO:Pos}{a:Expr}{ta:TA}{p pos:Pos}(hg:Gl X "enumerate")(hm:X.mg "enumerate"=none)(ha:PA X [a] ta)(hs:autoParam (starEach [a] X.env=[(false,eval a X.env)]) r8_._auto_1)(hV:autoParam (starEach [] X.env=[]) r8_._auto_1): PI X (.Tuple elts kt pO) (.Call (.Name "enumerate" p) [a] [] pos) (a6S K b ta):=by
 subst hK;intro pins s O H R I h;erw[Call_ (qv I hg hm PyProof.Rows.boot_enumerate (yf (aZ (ha pos pins s O H _ I h) λus s1 #[vs,H1,I1,r1,q1]=>?_) (by rw[hs,hV]) (by rw[hV];rfl)))];let(l,e,(xs,h1),q):=q1;subst e;let(u1,rfl,jh):=vals1 r1;cases(show u1=Value.ref l from jh);let(HZ,v1,p1):=h1.get I1;erw[aaS p1 λg zg ig kp=>wpAny_pyIter_enum zg ?_];erw[_,_,_,_,H1,Z,I1.kept (t':=s1.toks) kp,Yc (yh (X6 _)),#[#[_,zg],ig],λc hc=>?_,q];have hle:s1.heap.objs.size<=c:=by simp only[cM,iu,kE]at hc;rcases hc with rfl|rfl<;>first|erw[aV _]|erw[Nat.le_add_right _ _]
 erw[I1.qG hle (I1.bS.fresh hle)]
theorem Ac{K:aa}{b:Bool}{a:Addr}{xs:List V}{g:TG}{tb:TS}{D:Ends}{O:St}{H:Hp}(Pv:Nat->St->Hp->Prop)(h0:Pv 0 O H)(hl:∀i O H,i<=xs.length->Pv i O H->eV b K H a xs) (hs:∀i x O H,xs[i]? =some x->Pv i O H->∀T H',Nw H H' T (.tup [.int i,x])->g (.ref T) O H' λσ2 H2=>tb {D with nx:=Pv (i+1),ct:=Pv (i+1),bk:=D.nx} σ2 H2)(hd:∀O H,Pv xs.length O H->D.nx O H): ∃W:Nat->Nat->St->Hp->Prop,(∃m,W 0 m O H)/\∀i m O H,W i m O H->((AV K b a).stop i H/\D.nx O H)\/((AV K b a).go i H/\∃N:St->Hp->Prop,(∀σ' H',N σ' H'->∃m',m'<m/\W (i+1) m' σ' H')/\∀x H',(AV K b a).je i H x H'->g x O H' λσ2 H2=>tb {D with nx:=N,ct:=N,bk:=D.nx} σ2 H2):=by
 erw[λi m O H=>m=xs.length-i/\i<=xs.length/\Pv i O H,#[xs.length,by simp,eX _,h0],?_];rintro i m O H ⟨rfl,hi,p⟩;have q:=hl i O H hi p;by_cases ck:i<xs.length
 ·erw[.inr #[#[xs,xs[i],q,by simp[ck]],Pv (i+1),λσ' H' p'=>#[xs.length-(i+1),ao,Z,ck,p'],λx H' y=>?_]]
  let(T,z,rfl,ez,nw):=y;erw[hs i z O H (ez xs q) p T H' nw]
 ·have e:i=xs.length:=by lia
  subst e;erw[.inl #[#[xs,q,Z],hd O H p]]
theorem UO{K:aa}{b1 b2:Bool}{a1 a2:Addr}{xs ys:List V}{g:TG}{tb:TS}{D:Ends}{O:St}{H:Hp}(n:Nat)(hn:n=min xs.length ys.length)(Pv:Nat->St->Hp->Prop)(h0:Pv 0 O H)(hl:∀i O H,i<=n->Pv i O H->eV b1 K H a1 xs/\eV b2 K H a2 ys) (hs:∀i x y O H,xs[i]? =some x->ys[i]? =some y->Pv i O H->∀T H',Nw H H' T (.tup [x,y])->g (.ref T) O H' λσ2 H2=>tb {D with nx:=Pv (i+1),ct:=Pv (i+1),bk:=D.nx} σ2 H2)(hd:∀O H,Pv n O H->D.nx O H): ∃W:Nat->Nat->St->Hp->Prop,(∃m,W 0 m O H)/\∀i m O H,W i m O H->((tR K b1 b2 a1 a2).stop i H/\D.nx O H)\/((tR K b1 b2 a1 a2).go i H/\∃N:St->Hp->Prop,(∀σ' H',N σ' H'->∃m',m'<m/\W (i+1) m' σ' H')/\∀x H',(tR K b1 b2 a1 a2).je i H x H'->g x O H' λσ2 H2=>tb {D with nx:=N,ct:=N,bk:=D.nx} σ2 H2):=by
 erw[λi m O H=>m=n-i/\i<=n/\Pv i O H,#[n,by simp,eX _,h0],?_];rintro i m O H ⟨rfl,hi,p⟩;let(q1,q2):=hl i O H hi p;by_cases ck:i<n
 ·have l1:i<xs.length:=by lia
  have l2:i<ys.length:=by lia
  erw[.inr #[#[xs,ys,xs[i],ys[i],q1,q2,by simp[l1],by simp[l2]],Pv (i+1),λσ' H' p'=>#[n-(i+1),ao,Z,ck,p'],λx H' y=>?_]];let(T,z1,z2,rfl,e1,e2,nw):=y;erw[hs i z1 z2 O H (e1 xs q1) (e2 ys q2) p T H' nw]
 ·have e:i=n:=by lia
  subst e;erw[.inl #[#[xs,ys,q1,q2,ao],hd O H p]]
section
variable {X:Cx}
end
set_option maxHeartbeats 1000000 in
theorem C8{X:Cx}{N:List Str}{js:List (Option Nat)}{elt tg iter:Expr}{ifs:List Expr}{scope:Scope}{pos:Pos}{wi:TI}{g:TG}{tt:TT}{te:TE}{i0:Nat}{x0:Str}{wM LF:Pos}(hNd:X.N.Nodup)(sP:X.N[i0]? =some x0)(Ih:Loc X.env.scope x0)(hc:X.calm=true)(hN:Ay X N js scope=true)(hS:tJ X scope=true) (hi:PI X tg iter wi)(hg:∀cl s H fp pins,PG (df X N scope cl s H fp pins) tg g)(ht:∀cl s H fp pins,K2 (df X N scope cl s H fp pins) ifs tt)(he:∀cl s H fp pins,PE (df X N scope cl s H fp pins) elt te) (hsw:autoParam (swapsWith (.ListComp elt [#[tg,iter,ifs,0]] scope pos) (some (.Name x0 wM)) LF.line X.env=pure true) r8_._auto_1)(hf0:autoParam (X.fn x0=true\/X.env.scope.names.lookup x0=some .local) d8_._auto_1) (hs:autoParam (∀x,foldedSetIterable iter X.env x=pure x) d8_._auto_1):PS X (.Assign [.Name x0 wM] (.ListComp elt [#[tg,iter,ifs,0]] scope pos) LF) (yJ (Lj js wi g tt te) (gs i0)):=by
 intro pins s O H D0 I h;have lV:=hS;unfold tJ at lV;rw[fA,fA]at lV;let((k1,k2),k3):=lV;have mF:scope.kind= .function:=fK.mp k1;have sT:∀x∈scope.names,x.2= .free->∃c,X.env.cells.lookup x.1=some c:=λx hx e=>by have:=gc.mp k3 x hx;rw[e]at this;erw[I.ok.has x.1 (.inl (fK.mp this))]
 have p8:∀x∈scope.names,x.2≠ .cell:=λx hx e=>by have:=gc.mp k3 x hx;rw[e]at this;erw[eK this]
 have zW:∀x∈scope.names,x.2= .local->scope.names.lookup x.1=some .local:=λx hx e=>by have:=gc.mp k3 x hx;rw[e]at this;erw[fK.mp this]
 let(cl,A2,c1,c2):=JB sT;rw[exec_Assign_Name_used _ _ _ _ hsw];erw[aJ (tV (aJ ?_))];show wpAny _ X.A (do let _<-comprehension (.ListComp elt [#[tg,iter,ifs,0]] scope pos) scope X.env _ (newList []) false (eval iter X.env) (some (assign (.Name x0 wM) X.env))) _ _ s;erw[aJ (gJ (WN (use:=some (assign (.Name x0 wM) X.env)) (Q:=λ_ s'=>SP X pins D0 .next s') Z hs A2 mF zW (aZ (hi pins s O H _ I h) λv s1 h1=>aZ h1 λzP s2 h2=>?_)) (λ_ s' hq=>cf (cf hq)) λ_ _ e=>e)];let(it,fp,tn,J,H2,e,I2,T,ow,f2,h2):=h2;subst e;have hD:H2 s2.heap.objs.size=none:=I2.bS.fresh (aV _);let(W,(m0,w0),turn):=h2 _ _ (Nw.of hD);erw[o7 (WM p8 (by intro y hy;simp at hy) (λh₁ sL sI=>?_) mF)];have nL:∀b∈fp,b<s2.heap.objs.size:=λb hb=>by let(o,e,_):=T.obj _ _ ow b hb;erw[cE e]
 have I3:Inv X pins O (upd H2 s2.heap.objs.size (.lst [])) {s2 with heap:=s2.heap.push {cls:=.type "list",dict:=none,data:=.seq ([]:List Value).toArray}}:=I2.CV (its:=[]) (t':=s2.toks) .nil (eX _);generalize sZ:s2.heap.push {cls:=.type "list",dict:=none,data:=.seq ([]:List Value).toArray}=h3 at I3 sL sI;have rS:h3.objs.size=s2.heap.objs.size+1:=by rw[<-sZ,pL]
 have zO:∀b o,s2.heap.get? b=some o->h3.get? b=some o:=λb o e=>by rw[<-sZ];erw[cF _ e]
 have f3:∀b∈fp,jZ X pins (upd H2 s2.heap.objs.size (.lst [])) b:=λb hb=>#[by rw[aY (eY (nL b hb))];exact(f2 b hb).1,(f2 b hb).2];have sF:∀b o,h3.get? b=some o->h₁.get? b=some o:=λb o e=>(sI.2 b (eY (cE e))).trans (cF _ e);have I4:Inv (df X N scope cl {s2 with heap:=h3} (upd H2 s2.heap.objs.size (.lst [])) fp pins) [] (stC js O) (upd H2 s2.heap.objs.size (.lst [])) {s2 with heap:=h₁,toks:=s2.toks+([]:List (Str×Value)).length}:=I3.comp (s:={s2 with heap:=h3}) hN hS c1 c2 f3 (λb hb=>by show b<h3.objs.size;rw[rS];erw[Bh (nL b hb)]) (by simpa using sL) sF;have rX:tn 0 h₁:=T.keep _ _ _ ow λb _ o e=>sF b o (zO b o e);have loop:codeAny (model X.prog X.w) X.A (.compLoop (.ListComp elt [#[tg,iter,ifs,0]] scope pos) 0 (.ref it) (.ref s2.heap.objs.size) (compEnvC scope cl h3.objs.size X.env)) (compPost (model X.prog X.w) X.A X.xe (some (assign (.Name x0 wM) X.env)) (λ_ s'=>SP X pins D0 .next s') (.ref s2.heap.objs.size) h3.objs.size) {s2 with heap:=h₁,toks:=s2.toks+([]:List (Str×Value)).length}:=by
  erw[VO (λn s'=>∃i σ' H',Inv (df X N scope cl {s2 with heap:=h3} (upd H2 s2.heap.objs.size (.lst [])) fp pins) [] σ' H' s'/\tn i s'.heap/\(∀b∈fp,H' b=none)/\W i n σ' H') ?_ m0 #[0,_,_,I4,rX,λb hb=>(f3 b hb).1,w0]];rintro n s5 ⟨i,σ5,H5,I5,mh,pk,w5⟩;have ki:∀{H':Hp},(∀b∈fp,H' b=none)->∀b∈fp,jZ (df X N scope cl {s2 with heap:=h3} (upd H2 s2.heap.objs.size (.lst [])) fp pins) [] H' b:=λ{H'} hn b hb=>by
   let(_,q1,q2,q3,q4,q5):=f3 b hb;erw[hn b hb,λz=>?_,I4.ok.tD b hb,.inl hb,λx c e=>q4 x c (c1 x c e),λp hp=>q5 p (by simpa[df]using hp)];have ck:b<h3.objs.size:=by rw[rS];erw[Bh (nL b hb)]
   erw[eY ck z]
  rcases turn i n σ5 H5 w5 with⟨stop,qn⟩|⟨go,step⟩
  ·erw[aZ (T.done (df X N scope cl {s2 with heap:=h3} (upd H2 s2.heap.objs.size (.lst [])) fp pins) rfl rfl rfl hc i [] s5 σ5 H5 _ I5 (ki pk) mh stop) λr s6 #[hr,I6]=>?_]
   subst hr;let(m,hm,_):=I6.loc;have u0:Un (fZ X.stack) fp (upd H2 s2.heap.objs.size (.lst [])) H5 h3 s6.heap:=I6.ay;have I7:Inv X pins O H5 s6:=I3.JG (s':=s6) (ch:=fp) I6.os u0 I6.bS I6.bare λb hb=>#[(f3 b hb).2.2.2.1,(f3 b hb).2.1,(f3 b hb).2.2.2.2.1,(f3 b hb).2.2.2.2.2];have hC:jZ X pins H5 h3.objs.size:=I3.qG (aV _) I6.free;show wpAny _ X.A (assign (.Name x0 wM) X.env (.ref s2.heap.objs.size)) _ _ s6;erw[wpAny_assign_Name (Lu I7 hNd sP Ih (show RelV (.ref s2.heap.objs.size) (.ref s2.heap.objs.size)from Z) (λs8 I8 hsb=>?_) hf0)];let(a,sb,ha):=hsb;have hCa:h3.objs.size≠a:=by
    rcases ha with rfl|ha
    ·erw[hC.2.1]
    ·erw[λz=>hC.2.2.2.2.1 x0 a ha z.symm]
   erw[m,hm.sameBut sb hCa,λh9 hs9=>#[_,H5,?_,qn]];erw[I8.yA (t':=s8.toks) (fp:=[h3.objs.size]) (λb o hb e=>hs9.extBut b o (λz=>hb (by simp[z])) e) λb hb=>by rw[cV.mp hb];erw[hC]]
  ·erw[aZ (T.item (df X N scope cl {s2 with heap:=h3} (upd H2 s2.heap.objs.size (.lst [])) fp pins) rfl rfl rfl hc i [] s5 σ5 H5 _ I5 (ki pk) mh go) λr s6 #[u,hr,h6]=>?_]
   subst hr;erw[aZ h6 λ_ s7 #[x,H7,I7,r7,y7,lK,Ab]=>?_];have AW:=I7.pinned (ki Ab) (T.obj _ _ lK);erw[aZ (hg _ _ _ _ _ _ s7 σ5 H7 x u _ AW r7 (step x H7 y7)) λ_ s8 #[σ8,H8,I8,q8]=>?_];erw[aZ (ht _ _ _ _ _ _ s8 σ8 H8 _ I8 q8) λok s9 #[H9,I9,q9]=>?_];have again:∀{s':af}{σ7:St}{H7:Hp},Inv (df X N scope cl {s2 with heap:=h3} (upd H2 s2.heap.objs.size (.lst [])) fp pins) ([]++qc fp s7.heap) σ7 H7 s'->(∃m',m'<n/\W (i+1) m' σ7 H7)->∃m,m<n/\∃i σ' H',Inv (df X N scope cl {s2 with heap:=h3} (upd H2 s2.heap.objs.size (.lst [])) fp pins) [] σ' H' s'/\tn i s'.heap/\(∀b∈fp,H' b=none)/\W i m σ' H':=λ{s' σ7 H7} J7 n7=>by let(m',hm,w7):=n7;erw[m',hm,i+1,σ7,H7,J7.ui,T.keep _ _ _ lK λb hb o e=>(J7.pin (b,o) (gS _ (gS _ (oO hb e)))).1,λb hb=>?_,w7];let(o,e,d):=T.obj _ _ lK b hb;exact(J7.pin (b,o) (gS _ (gS _ (oO hb e)))).2.1
   cases ok with |false=>rw[bc eK]at q9⊢;erw[again I9 q9] |true=>rw[ba rfl]at q9⊢;erw[aZ (he _ _ _ _ _ _ s9 σ8 H9 _ I9 q9) λyv uu #[y,o6,AX,Gb,ys,xu,hz,rF]=>?_];erw[aZ (CH _ uu σ8 o6 (.ref s2.heap.objs.size) [y] (.ref s2.heap.objs.size) [yv] (λ_ jc=>∃m',m'<n/\W (i+1) m' σ8 jc) AX Z (.cons Gb .nil) #[_,ys,y,Z,Z,xu,hz,rF]) λ_ oB #[v11,jc,y8,r11,Gd]=>?_];erw[again y8 Gd]
 erw[WR loop (T.self _ 0 _ _ _ rX loop)]
theorem JE:∀{zs:List Str}{us:List Value},Vals (zs.map V.str) us->CarriedAll us (zs.map PyData.str) |[],_,.nil=>.nil |z::zs,_,.cons q r=>by let(t,rfl):=(show∃t,_=Value.str z t from q);erw[.cons (.str z t) (JE r)]
section
variable {X:Cx}
end
section
variable {X:Cx}{pins:List (Addr×Obj)}{O:St}{H:Hp}{s:af}
end
section
variable {X:Cx}
theorem VV:fw X (.type "range") (λxs H Q=>∃n,xs=[.int n]/\∀p H',Nw H H' p (.wI 0 n)->Q (.ref p) H'):=by intro pins s O H xs us Q I r h;let(n,rfl,q):=h;let(u,rfl,t,rfl):=vals1 r;erw[call_range_1 ?_];have hf:H s.heap.objs.size=none:=I.bS.fresh (aV _);erw[.ref s.heap.objs.size,upd H s.heap.objs.size (.wI 0 n),I.laid (t':=s.toks+1+1) (λb u e=>cF _ e) (aV _) ?_,Z,q _ _ (.of hf)];erw[_,_,_,eJ _ Z]
end
theorem YZ:isSubtype (.type "range_iterator") (.type "reversed")=pure false:=by rw[isSubtype_type];kernel_rfl
section
variable {prog:ag}{w:World}{A:ai}{E:Value->af->Prop}{s:af}
abbrev yU(n:Nat):Obj:={cls:=.type "range_iterator",data:=.fields (List.toArray [rawInt (0+((n:Int)-1)*1),rawInt (n:Int),rawInt (-1)])}
abbrev FJ(n:Nat):Bool:=Builtin.Range.rangeFitsLong 0&&Builtin.Range.rangeFitsLong n&&Builtin.Range.rangeFitsLong 1&&Builtin.Range.rangeFitsLong (-1)&&Builtin.Range.rangeFitsLong (0-1)&&Builtin.Range.rangeFitsLong (Builtin.Range.rangeSize 0 n 1)
theorem Qb{n:Nat}(h:n<2^62):FJ n=true:=by unfold FJ;rw[rangeSize_one];simp only[Builtin.Range.rangeFitsLong,fA,Eg];split<;>lia
theorem a1F(r:Addr)(a b c:Int)(t u v:Tok)(hc0:¬(!(Builtin.Range.rangeFitsLong a&&Builtin.Range.rangeFitsLong b&&Builtin.Range.rangeFitsLong c&&Builtin.Range.rangeFitsLong (-c)&&Builtin.Range.rangeFitsLong (a-c)&&Builtin.Range.rangeFitsLong (Builtin.Range.rangeSize a b c)))=true):Meets (Builtin.«range.__reversed__» #[[.ref r],[]]) (λ_ R s=>s.heap.get? r=some {cls:=.type "range",dict:=none,data:=.fields (List.toArray [.int a t,.int b u,.int c v]),slots:=#[]}/\R (.ok (.ret (.ref s.heap.objs.size))) {s with heap:=s.heap.push {cls:=.type (if(Builtin.Range.rangeFitsLong a&&Builtin.Range.rangeFitsLong b&&Builtin.Range.rangeFitsLong c&&Builtin.Range.rangeFitsLong (-c)&&Builtin.Range.rangeFitsLong (a-c)&&Builtin.Range.rangeFitsLong (Builtin.Range.rangeSize a b c))=true then "range_iterator" else "longrange_iterator"),data:=.fields (List.toArray [rawInt (a+(Builtin.Range.rangeSize a b c-1)*c),rawInt (Builtin.Range.rangeSize a b c),rawInt (-c)])},toks:=s.toks}):=.of_wp λprog w A R s h=>by
 let(hp,g,d,tk,os):=s;let(hl,h):=h
 wp_walk;erw[_,Z,h]
theorem abD{l:Addr}{n:Nat}{t u v:Tok}{Q:Value->af->Prop}(hn:n<2^62)(hl:s.heap.get? l=some {cls:=.type "range",data:=.fields (List.toArray [.int 0 t,.int n u,.int 1 v])}) (h:Q (.ref s.heap.objs.size) {s with heap:=s.heap.push (yU n)}):wpAny (model prog w) A (call (.builtin "range.__reversed__") [.ref l]) Q E s:=by
 have hT:s.TypeIs (.ref l) "range":=#[_,hl,Z];erw[vY Xm hT F.entry_range_reversed (F.args_range_reversed_1 _) (a1F l 0 n 1 t u v (by have:=Qb hn;unfold FJ at this;rw[this];decide)) #[hl,?_]];rw[ba (Qb hn)];have e:Builtin.Range.rangeSize 0 n 1=n:=by rw[rangeSize_one];split<;>lia
 rw[e];erw[h]
theorem abz{l:Addr}{n:Nat}{t u v:Tok}{Q₁:Value->af->Prop}(hn:n<2^62)(hl:s.heap.get? l=some {cls:=.type "range",data:=.fields (List.toArray [.int 0 t,.int n u,.int 1 v])}) (h:Q₁ (.ref s.heap.objs.size) {s with heap:=s.heap.push (yU n)}): codeAny (model prog w) A (.call (.builtin "reversed.__new__") #[[.type "reversed",.ref l],[]]) (wants Q₁ E) s:=by
 have hT:s.TypeIs (.ref l) "range":=#[_,hl,Z];erw[codeAny_of_tree ?_];show wpAny _ A.in1 (do checkBuiltinCall "reversed.__new__" #[[.type "reversed",.ref l],[]];again (.builtin "reversed.__new__" #[[.type "reversed",.ref l],[]])) _ _ s;erw[aJ (yc (F.newCall_reversed_1 _) (cf #[plainId_quiet F.plain_reversed_new _,codeAny_builtin F.entry_reversed_new ?_]))];rw[Xr F.plain_reversed_new _];unfold Builtin.«reversed.__new__»;erw[aJ (yc (newClass_reversed _) ?_)]
 try dsimp only
 erw[aJ (yc (a:=()) (by first|rfl|kernel_rfl) ?_)];erw[aJ (yc (a:=()) (by first|rfl|kernel_rfl) ?_)]
 try dsimp only
 erw[aJ (Eb hT Xm.lookup ?_)]
 try dsimp only
 erw[aJ (yc (Xm.bind _) ?_)]
 try dsimp only
 first |rw[bc (show¬((Value.builtin "range.__reversed__"==Value.none)=true)from eK)] |(show wpAny _ _ (if(Value.builtin "range.__reversed__"==Value.none)=true then _ else _) _ _ _;rw[bc (show¬((Value.builtin "range.__reversed__"==Value.none)=true)from eK)])
 erw[aJ (B6 ?_)];erw[aJ (m:=runValue (.call (.builtin "range.__reversed__") #[[.ref l],[]])) (show wpAny _ _ (call (.builtin "range.__reversed__") [.ref l]) _ _ _ from abD hn hl ?_)]
 first |erw[cf h] |erw[aJ (cf (cf h))]
theorem abE{l:Addr}{n:Nat}{t u v:Tok}{Q:Value->af->Prop}(hn:n<2^62)(hl:s.heap.get? l=some {cls:=.type "range",data:=.fields (List.toArray [.int 0 t,.int n u,.int 1 v])}) (h:Q (.ref s.heap.objs.size) {s with heap:=s.heap.push (yU n)}):wpAny (model prog w) A (call (.type "reversed") [.ref l]) Q E s:=by erw[callType_other (U:="range_iterator") (Q₁:=λobj s₁=>obj= .ref s.heap.objs.size/\s₁={s with heap:=s.heap.push (yU n)}) aG F.create_reversed #[_,_,F.mro_reversed] F.made_reversed YZ (F.typeCall_reversed_1 _) (abz hn hl #[Z,Z]) ?_];rintro obj s₁ ⟨rfl,rfl⟩;erw[#[_,eJ _ Z,Z],h]
end
def AU(n:Nat):It:=#[λi _=>i<n,λi H x H'=>H'=H/\x= .int ((n:Int)-1-i),λi _=>n<=i]
theorem Y9{P:ag}{w:World}{K:aa}{tg:Expr}(it:Addr)(n:Nat):Turn P w K tg (AU n) [it] it (λi h=>IsRangeIter h it ((0+((n:Int)-1)*1)+(i:Nat)*(-1)) ((n:Int)-(i:Nat)) (-1)) where
 mem:=by simp
 obj:=λi h st b hb=>by
  have e:b=it:=by simpa using hb
  subst e;erw[_,st,λv z=>by have z':Data.fields _=Data.cell v:=z;cases z']
 keep:=λi h h' st k=>k it (by simp) _ st
 item:=by
  intro X hP hw hK hc i pins s O H E I hf st hg;subst hP hw hK;let(f0,f1,f2,f3,f4,f5):=hf it (by simp);have W:=Walks.range (prog:=X.prog) (w:=X.w) (I.ok.hd hc) it (0+((n:Int)-1)*1) (-1) n;erw[W.item i s _ _ hg st λv h' tk hv iX kk=>?_];let(t,rfl):=hv;have I1:Inv X pins O H {s with heap:=h',toks:=tk}:=I.turned (λb o hb e=>kk b o (by simpa using hb) e) f0 f1 f3 f4 f5;erw[_,Z,A8 (s:={s with heap:=h',toks:=tk}) (n:="range_iterator") iX rfl rfl aw #[.int ((n:Int)-1-i),H,I1,#[t,?_],#[Z,Z],iX,λb hb=>(hf b hb).1]];have e:(0+((n:Int)-1)*1)+(i:Int)*(-1)=(n:Int)-1-i:=by lia
  rw[e]
 done:=by intro X hP hw hK hc i pins s O H E I hf st hg;subst hP hw hK;let(f0,f1,f2,f3,f4,f5):=hf it (by simp);erw[wpAny_pyNext_range_end (I.ok.hd hc) st (by have:n<=i:=hg;lia) λh' eb=>#[Z,I.turned (t':=s.toks) (λb o hb e=>eb b o hb e) f0 f1 f3 f4 f5]]
 self:=λ_ _ _ _ _ st h=>WL st h
inductive aeZ(R:It->Hp->Prop)(vs:List V)(H1:Hp):Prop |mk (p:_)(n:_)(h0:vs=[.ref p])(h1:H1 p=some (.wI 0 n))(h2:0<=n)(h3:n<2^62)(h4:R (AU n.toNat) H1)
def a6R(ta:TA):TI:=λO H R=>ta O H λvs H1=>aeZ R vs H1
theorem QO(hg:Gl X "reversed")(hm:X.mg "reversed"=none)(ha:PA X [a] ta)(hs:autoParam (starEach [a] X.env=[(false,eval a X.env)]) r8_._auto_1)(hV:autoParam (starEach [] X.env=[]) r8_._auto_1): PI X tg (.Call (.Name "reversed" p) [a] [] pos) (a6R ta):=by
 intro pins s O H R I h;erw[Call_ (qv I hg hm PyProof.Rows.boot_reversed (yf (aZ (ha pos pins s O H _ I h) λus s1 #[vs,H1,I1,r1,q1]=>?_) (by rw[hs,hV]) (by rw[hV];rfl)))];let(l,n,e,hl,n0,n1,q):=q1;subst e;let(u1,rfl,jh):=vals1 r1;cases(show u1=Value.ref l from jh);obtain⟨t,u,v,e⟩:∃t u v,s1.heap.get? l=some {cls:=.type "range",data:=.fields (List.toArray [.int 0 t,.int n u,.int 1 v])}:=I1.bS l _ hl;obtain⟨m,rfl⟩:∃m:Nat,n=m:=#[n.toNat,ao];erw[abE ao e ?_];have hit:IsRangeIter (s1.heap.push (yU m)) s1.heap.objs.size ((0+((m:Int)-1)*1)+((0:Nat):Int)*(-1)) ((m:Int)-((0:Nat):Int)) (-1):=by
  have e1:(0+((m:Int)-1)*1)+((0:Nat):Int)*(-1)=0+((m:Int)-1)*1:=by lia
  have e2:(m:Int)-((0:Nat):Int)=m:=by lia
  rw[e1,e2];erw[eJ _ rfl]
 erw[WL hit ?_];erw[s1.heap.objs.size,[s1.heap.objs.size],_,_,H1,Z,I1.kept (t':=s1.toks) λb o e=>cF _ e,Y9 _ m,hit,λb hb=>?_,q];have e:b=s1.heap.objs.size:=by simpa using hb
 subst e;erw[I1.qG (aV _) (I1.bS.fresh (aV _))]
theorem UP{n:Nat}{g:TG}{tb:TS}{D:Ends}{O:St}{H:Hp}(Pv:Nat->St->Hp->Prop)(h0:Pv 0 O H) (hs:∀i O H,i<n->Pv i O H->g (.int ((n:Int)-1-i)) O H λσ2 H2=>tb {D with nx:=Pv (i+1),ct:=Pv (i+1),bk:=D.nx} σ2 H2)(hd:∀O H,Pv n O H->D.nx O H): ∃W:Nat->Nat->St->Hp->Prop,(∃m,W 0 m O H)/\∀i m O H,W i m O H->((AU n).stop i H/\D.nx O H)\/((AU n).go i H/\∃N:St->Hp->Prop,(∀σ' H',N σ' H'->∃m',m'<m/\W (i+1) m' σ' H')/\∀x H',(AU n).je i H x H'->g x O H' λσ2 H2=>tb {D with nx:=N,ct:=N,bk:=D.nx} σ2 H2):=by
 erw[λi m O H=>m=n-i/\i<=n/\Pv i O H,#[n,by simp,eX _,h0],?_];rintro i m O H ⟨rfl,hi,p⟩;by_cases ck:i<n
 ·erw[.inr #[ck,Pv (i+1),λσ' H' q=>#[n-(i+1),ao,Z,ck,q],λx H' hy=>?_]]
  let(rfl,rfl):=hy;erw[hs i O _ ck p]
 ·have e:i=n:=by lia
  subst e;erw[.inl #[aV _,hd O H p]]
theorem z9(K:aa){X:Cx}(hK:X.K=K){a:Expr}{ta:TE}(ha:PE X a ta)(he:autoParam (∀whole,isTrue a X.env whole=(do let v<-whole;standAt a.pos;holding [v] (truthy v))) d8_._auto_1): PT X a (λO H Q=>ta O H λx H'=>∃k,JY K x H' k/\Q k H'):=by subst hK;erw[a29 ha he]
inductive aeO(K:aa)(x:V)(y:V)(H:Hp)(Q:VK):Prop |mk (a:_)(b:_)(xs:_)(ys:_)(h0:x= .ref a)(h1:y= .ref b)(h2:aU K H a xs)(h3:aU K H b ys)(h4:xs.length+ys.length<=sizeLine)(h5:∀c H',aF H H'->aU K H' c (xs++ys)->Q (.ref c) H')
def a21(K:aa):R2:=λx y H Q=>aeO K x y H Q
section
variable {X:Cx}
theorem VT(K:aa)(hK:X.K=K):cX X (binaryOp .Add) (a21 K):=by
 subst hK;intro pins s O H x y v u Q I rx ry h;let(a,b,xs,ys,rfl,rfl,ha,hb,hz,q):=h;cases rx;cases ry;let(its,r1,p1,_):=I.tuple ha;let(lR,r2,p2,_):=I.tuple hb;by_cases e0:xs=[]
 ·subst e0
  have i0:its=[]:=r1.GS.mpr rfl;subst i0;let((cls,dd,data,sl),ho,hc,n,hd):=id p1;let((VP,xM,data2,sl2),oY,jQ,n2,hd2):=id p2;simp only at hc hd jQ hd2;subst hc hd jQ hd2;erw[concat_meets #[_,ho,Z] #[_,oY,Z] noFill_tuple_add seq_tuple_add WX WY (WZ _ _) (tuple_addW0 a b _ lR.toArray n n2 dd xM sl sl2 (by simp)) #[ho,oY,#[.ref b,H,I,Z,q _ _ (aF.refl H) hb]]]
 ·erw[_H.abA p1 p2 (λz=>e0 (r1.GS.mp z)) (λz=>#[.ref a,H,I,Z,?_]) (λz=>?_) (by rw[<-r1.length,<-r2.length];erw[hz])]
  ·have e1:ys=[]:=r2.GS.mp z
   subst e1;erw[q _ _ (aF.refl H) (by rw[om];erw[ha])]
  ·have hf:H s.heap.objs.size=none:=I.bS.fresh (aV _)
   have nw:Nw H (upd H s.heap.objs.size (.tup (xs++ys))) s.heap.objs.size (.tup (xs++ys)):=.of hf;erw[.ref s.heap.objs.size,_,I.laid (t':=s.toks) (o:=.tup (xs++ys)) (λb ob q=>cF _ q) (aV _) ?_,Z,q _ _ nw.same (aU.of nw.at')];erw[by rw[cv];erw[hz],_,r1.append r2,IsTup.new _ _]
end
theorem VF(xs:List V):m4 xs none (some (-1))=xs.take (xs.length-1):=by
 unfold m4;have e:=_H.JC (-1) xs.length xs.length;rw[_H.Pc];have e2:_H.cC xs.length xs.length (some (-1))=xs.length-1:=by simp at e;omega
 rw[e2];simp
section
variable {X:Cx}
theorem zi(K:aa)(h:X.K=K){o e:Expr}{to:TE}{t:TA}{apos cA:Pos}(ho:PE X o to)(ha:PA X [e] t) (jv:autoParam (attributeBase o "extend" X.env (eval o X.env)=eval o X.env) r8_._auto_1) (jt:autoParam (((backTo cA (starEach [e] X.env)).all (λx=>!x.1)&&(backToKw cA (keywordEach [] X.env)).all (λx=>x.1.isSome) &&decide ([e].length+([]:List Keyword).length+(if([]:List Keyword).isEmpty then 0 else 1)<30))=true) r8_._auto_1) (jr:autoParam ((apos.endLine==cA.line)=true) r8_._auto_1)(hs:autoParam (starEach [e] X.env=(false,eval e X.env)::starEach [] X.env) r8_._auto_1)(jq:autoParam ((backTo cA (starEach [] X.env)).any (·.1)=false) r8_._auto_1): PE X (.Call (.Attribute o "extend" apos) [e] [] cA) (rP K "list" QE to t):=by subst h;erw[uH PySem.F.plainAttrs_list PySem.F.slot_list_extend PySem.F.type_list_extend a5c ho ha jv jt jr hs jq]
open PyProof
end
end _L
namespace _L
open PySem PySem.Spec PyProof.Rows
section
variable {K:aa} {H H' H2:Hp}
end
section
variable {X:Cx} {tg:Expr}
end
theorem kA{t:TS}{D:Ends}(h:let E':=D;t E' O H):t D O H:=h
theorem iC{g:TG}{x:V}{tb:TS}{D:Ends}{O:St}{H:Hp}(h:let E':=D;g x O H λσ2 H2=>tb E' σ2 H2):g x O H λσ2 H2=>tb D σ2 H2:=h
theorem AK{c:TT}{tb:TS}{D:Ends}{Nx:St->Hp->Prop}{O:St}{H:Hp}(h:let E':=D;c O H λb H1=>if b=true then tb E' O H1 else Nx O H1):c O H λb H1=>if b=true then tb D O H1 else Nx O H1:=h
end _L
namespace _l
open PySem _L
def nY(i:Int):Int:=if i<0 then-i else i
theorem JW(i:Int):nY i=(i.natAbs:Int):=by unfold nY;split<;>lia
def aE(ns:List Int):Nat:=ns.foldr (λz m=>max z.natAbs m) 0
theorem Hu:∀{ns:List Int}{z:Int},z∈ns->z.natAbs<=aE ns
 |n::ns,z,h=>by
  show z.natAbs<=max n.natAbs (aE ns);rcases cM.mp h with rfl|h
  ·erw[Nat.le_max_left _ _]
  ·erw[iG (Hu h) (Nat.le_max_right _ _)]
theorem Ht:∀{ns:List Int},ns≠[]->∃z∈ns,z.natAbs=aE ns
 |[],h=>absurd Z h |[n],_=>#[n,.head _,by show n.natAbs=max n.natAbs 0;lia] |n::m::ns,_=>by
  let(z,hz,e):=Ht (ns:=m::ns) (by simp);by_cases h:n.natAbs<=aE (m::ns)
  ·erw[z,.tail _ hz,by show _=max n.natAbs (aE (m::ns));lia]
  ·erw[n,.head _,by show _=max n.natAbs (aE (m::ns));lia]
theorem qo(h:∀z∈ns,z.natAbs<=m):aE ns<=m:=by cases ns with |nil=>erw[eX _] |cons a r=>let(z,hz,e):=Ht (ns:=a::r) (by simp);rw[<-e];erw[h z hz]
theorem a67(h:∃z∈ns,z≠0):0<aE ns:=by
 let(z,hz,h0):=h;have:=Hu hz
 lia
theorem Tf(cD:ns≠[]){M:Int}(h1:M∈ns.map nY)(h2:∀a∈ns.map nY,a<=M):M=(aE ns:Int):=by
 let(z,hz,e):=cJ.mp h1;let(y,hy,ey):=Ht cD;have a1:=Hu hz;have a2:=h2 (nY y) (cJ.mpr #[y,hy,Z]);rw[JW]at e a2
 lia
def jG(p q:Int):Int:=(2*(p.natAbs:Int)+q)/(2*q)
def gZ(p q:Int):Int:=if p>=0 then jG p q else-jG p q
structure xZ(x p q:Int):Prop where
 lo:-q<=2*(x*q-p)
 hi:2*(x*q-p)<=q
 vq:2*(x*q-p)=q\/2*(x*q-p)=-q->p.natAbs<=(x*q).natAbs
theorem M8(hq:0<q):2*q*jG p q<=2*(p.natAbs:Int)+q/\2*(p.natAbs:Int)+q<2*q*jG p q+2*q:=by have h:=Int.mul_ediv_add_emod (2*(p.natAbs:Int)+q) (2*q);have h0:=wm (2*(p.natAbs:Int)+q) (show 2*q≠0 by omega);have h1:=yu (2*(p.natAbs:Int)+q) (show 0<2*q by omega);unfold jG;constructor<;>omega
theorem M9(hq:0<q):0<=jG p q:=Int.ediv_nonneg ao ao
theorem near_is(hq:0<q):xZ (gZ p q) p q:=by
 let(h1,h2):=M8 (p:=p) hq;have h0:=M9 (p:=p) hq;rw[uc,Bq q]at h1 h2;have hs0:0<=jG p q*q:=gT h0 (Ez hq);unfold gZ;split
 ·erw[?_,?_,λh=>?_]<;>(generalize jG p q*q=s at*;omega)
 ·erw[?_,?_,?_]<;>rw[Int.neg_mul]<;>(generalize jG p q*q=s at*;omega)
theorem zL{x y q:Int}(hq:0<q)(h:x<y):x*q+q<=y*q:=by have:(x+1)*q<=y*q:=Bp ao ao;rw[Int.add_mul,lG]at this;erw[this]
theorem a4X(hq:0<q)(a:xZ x p q)(b:xZ y p q):x=y:=by
 have key:∀{x y:Int},xZ x p q->xZ y p q->¬x<y:=λ{x y} a b h=>by
  have g:=zL hq h;have e1:=a.lo;have e2:=a.hi;have e3:=b.lo;have e4:=b.hi;have f1:=a.vq;have f2:=b.vq;have hx:x*q=0\/q<=x*q\/x*q<=-q:=by
   rcases Xk x 0 with h|h|h
   ·have:=zL hq h;lia
   ·left;rw[h,Ew]
   ·have:=zL hq h;lia
  have hy:y*q=0\/q<=y*q\/y*q<=-q:=by
   rcases Xk y 0 with h|h|h
   ·have:=zL hq h;lia
   ·left;rw[h,Ew]
   ·have:=zL hq h;lia
  generalize x*q=u at*;generalize y*q=v at*;have hu:=f1 ao;have hv:=f2 ao
  lia
 rcases Xk x y with h|h|h
 ·erw[absurd h (key a b)]
 ·erw[h]
 ·erw[absurd h (key b a)]
theorem a4Z(hq:0<q)(a:xZ x p q):x=gZ p q:=a4X hq a (near_is hq)
theorem Sm(hq:0<q):gZ (-p) q=-gZ p q:=by let(a,b,c):=near_is (p:=p) hq;refine(a4Z hq ?_).symm;erw[?_,?_,?_]<;>rw[Int.neg_mul]<;>omega
theorem a4Y(hq:0<q)(hp:0<=p):0<=gZ p q:=by unfold gZ;rw[ba hp];erw[M9 hq]
end _l
namespace _C
open _l
def g6(ns ms:List Int):List Int:=(ns.zip ms).map λp=>p.1*(aE ms:Int)-p.2*(aE ns:Int)
theorem a5l(h:z∈g6 ns ms):∃a b,a∈ns/\b∈ms/\z=a*(aE ms:Int)-b*(aE ns:Int):=by let((a,b),hp,rfl):=cJ.mp h;erw[a,b,(Ep hp).1,(Ep hp).2,Z]
theorem oN{a b:Int}{m n:Nat}(h:a.natAbs<=m)(g:b.natAbs<=n):(a*b).natAbs<=m*n:=by rw[iH];erw[o8 h g]
theorem Jy(h1:∀z∈ns,z.natAbs<=1000)(h2:∀z∈ms,z.natAbs<=1000):∀z∈g6 ns ms,z.natAbs<=2000000:=λz hz=>by let(a,b,ha,hb,rfl):=a5l hz;have l1:=qo h1;have l2:=qo h2;have e1:=oN (b:=(aE ms:Int)) (n:=1000) (h1 a ha) aL;have e2:=oN (b:=(aE ns:Int)) (n:=1000) (h2 b hb) aL;omega
def sR(zs:List Int)(i:Nat):Nat:=aE (zs.take i)
theorem Th:∀(xs ys:List Int),aE (xs++ys)=max (aE xs) (aE ys) |[],ys=>by simp[aE] |x::xs,ys=>by show max x.natAbs (aE (xs++ys))=max (max x.natAbs (aE xs)) (aE ys);rw[Th xs ys];lia
theorem a7L(h:zs[i]? =some z):sR zs (i+1)=max (sR zs i) z.natAbs:=by
 unfold sR;rw[lF,h,Th];show max _ (max z.natAbs 0)=_
 lia
def vQ(r:Rat):Rat:=if r.num<0 then-r else r
theorem acr(r:Rat):(vQ r).num=nY r.num:=by
 unfold vQ nY;split
 ·rfl
 ·rfl
theorem acu(r:Rat):(vQ r).den=r.den:=by
 unfold vQ;split
 ·rfl
 ·rfl
theorem ab7(hb:0<b):0<=(Rat.divInt a b).num↔0<=a:=by rw[Rat.num_nonneg,ye hb]
theorem acs(hL:0<L):vQ (Rat.divInt c L)=Rat.divInt (nY c) L:=by
 have h:=ab7 (a:=c) hL;unfold vQ nY;by_cases hc:c<0
 ·rw[ba hc,ba ao,Rat.neg_divInt]
 ·rw[bc hc,bc ao]
theorem DI(hL:0<L):Rat.divInt a L<=Rat.divInt b L↔a<=b:=by
 rw[Rat.le_iff_sub_nonneg,WS _ _ ao ao,ye (jd hL hL),<-Int.sub_mul];constructor
 ·intro h
  have:=Int.nonneg_of_mul_nonneg_left h hL
  lia
 ·intro h
  erw[gT ao ao]
theorem Vu(hL:0<L):Rat.divInt a L<Rat.divInt b L↔a<b:=by rw[<-Rat.not_le,DI hL];lia
theorem YY(h1:0<l1)(h2:0<l2):Rat.divInt b l2-Rat.divInt a l1=Rat.divInt (b*l1-a*l2) (l1*l2):=by rw[WS _ _ ao ao,Bq l2 l1]
theorem abk(hp:p≠0)(hh:h≠0)(e:p*L=h*q):Rat.divInt (j*j*q*q) (p*p)=Rat.divInt ((j*L)^2) (h^2):=by
 rw[Rat.divInt_eq_divInt_iff (KD hp hp) (by rw[fU,fU,m9,lG];erw[KD hh hh])];have e2:(p*L)*(p*L)=(h*q)*(h*q):=by rw[e]
 rw[fU,fU,m9,lG,fU,fU,m9,lG];have a1:j*j*q*q*(h*h)=(j*j)*((h*q)*(h*q)):=by ac_rfl
 have a2:j*L*(j*L)*(p*p)=(j*j)*((p*L)*(p*L)):=by ac_rfl
 rw[a1,a2,e2]
end _C
namespace _P
def mn(a b:Rat):Rat:=if b<a then b else a
theorem eZ(a b:Rat):mn a b<=a:=by
 unfold mn;split
 ·next h=>erw[Rat.le_of_lt h]
 ·erw[iE]
theorem gN(a b:Rat):mn a b<=b:=by
 unfold mn;split
 ·erw[iE]
 ·next h=>erw[Ej.mp h]
theorem gE(h1:c<=a)(h2:c<=b):c<=mn a b:=by unfold mn;split<;>assumption
theorem sE(a b:Rat):mn a b=a\/mn a b=b:=by
 unfold mn;split
 ·erw[.inr rfl]
 ·erw[.inl rfl]
theorem uU(hc:c=a\/c=b)(h1:c<=a)(h2:c<=b):mn a b=c:=by
 rcases hc with rfl|rfl
 ·erw[rn (eZ _ _) (gE h1 h2)]
 ·erw[rn (gN _ _) (gE h1 h2)]
theorem uX{a b c:Rat}(h:a<=b)(hc:0<=c):a<=b+c:=cL h (by have:=(Rat.add_le_add_left (c:=b)).mpr hc;rwa [Bc]at this)
theorem add_r{a b c:Rat}(h:a<=b):a+c<=b+c:=Rat.add_le_add_right.mpr h
section
variable (n:Nat)(own:Nat->Rat)(L:Nat->Option Nat)(r f:Int)
def Rz:Nat->Rat |0=>own 0 |i+1=>match L i with |some m=>mn (own (i+1)) (Rz i+((r*(m:Int):Int):Rat)) |none=>own (i+1)
def Pz(g:Nat->Rat):Nat->Rat |0=>g n |k+1=>match L (n-(k+1))with |some m=>mn (g (n-(k+1))) (Pz g k+((f*(m:Int):Int):Rat)) |none=>g (n-(k+1))
def fl(g:Nat->Rat)(i:Nat):Rat:=Pz n L f g (n-i)
def gf(i:Nat):Rat:=fl n L f (Rz own L r) i
end
section
variable {n:Nat}{own g:Nat->Rat}{L:Nat->Option Nat}{r f:Int}
theorem qI:fl n L f g n=g n:=by unfold fl;rw[Bg];rfl
theorem nM(hi:i<n)(h:L i=some m):fl n L f g i=mn (g i) (fl n L f g (i+1)+((f*(m:Int):Int):Rat)):=by
 unfold fl;have e:n-i=(n-(i+1))+1:=by omega
 rw[e];show(match L (n-((n-(i+1))+1))with|some m=>_|none=>_)=_;have e2:n-((n-(i+1))+1)=i:=by omega
 rw[e2,h]
theorem qH(hi:i<n)(h:L i=none):fl n L f g i=g i:=by
 unfold fl;have e:n-i=(n-(i+1))+1:=by lia
 rw[e];show(match L (n-((n-(i+1))+1))with|some m=>_|none=>_)=_;have e2:n-((n-(i+1))+1)=i:=by lia
 rw[e2,h]
theorem Gg:gf n own L r f n=Rz own L r n:=qI
theorem ze(hi:i<n)(h:L i=some m):gf n own L r f i=mn (Rz own L r i) (gf n own L r f (i+1)+((f*(m:Int):Int):Rat)):=nM hi h
theorem Gf(hi:i<n)(h:L i=none):gf n own L r f i=Rz own L r i:=qH hi h
theorem o5(h:L i=some m):Rz own L r (i+1)=mn (own (i+1)) (Rz own L r i+((r*(m:Int):Int):Rat)):=by show(match L i with|some m=>_|none=>_)=_;rw[h]
theorem xY(h:L i=none):Rz own L r (i+1)=own (i+1):=by show(match L i with|some m=>_|none=>_)=_;rw[h]
theorem DY(i:Nat):Rz own L r i<=own i:=by cases i with |zero=>erw[iE] |succ i=>cases h:L i with |none=>rw[xY h];erw[iE] |some m=>rw[o5 h];erw[eZ _ _]
theorem QG(hi:i<=n):gf n own L r f i<=Rz own L r i:=by
 rcases Nat.lt_or_eq_of_le hi with hi|rfl
 ·cases h:L i with |none=>rw[Gf hi h];erw[iE] |some m=>rw[ze hi h];erw[eZ _ _]
 ·rw[Gg];erw[iE]
theorem Ca(hi:i<=n):gf n own L r f i<=own i:=cL (QG hi) (DY i)
theorem a2k(hi:i<n)(h:L i=some m):gf n own L r f i<=gf n own L r f (i+1)+((f*(m:Int):Int):Rat):=by rw[ze hi h];erw[gN _ _]
theorem xn{a:Int}{m:Nat}(h:0<=a):(0:Rat)<=((a*(m:Int):Int):Rat):=by have:((0:Int):Rat)<=((a*(m:Int):Int):Rat):=Ba.mpr (gT h ao);erw[this]
theorem a2i(hi:i<n)(h:L i=some m)(hr:0<=r)(hf:0<=f):gf n own L r f (i+1)<=gf n own L r f i+((r*(m:Int):Int):Rat):=by
 have h1:gf n own L r f (i+1)<=Rz own L r i+((r*(m:Int):Int):Rat):=by erw[cL (QG hi) ?_];rw[o5 h];erw[gN _ _]
 rw[ze hi h];rcases sE (Rz own L r i) (gf n own L r f (i+1)+((f*(m:Int):Int):Rat))with e|e
 ·rw[e];erw[h1]
 ·rw[e];erw[uX (uX iE (xn hf)) (xn hr)]
theorem DX(hr:0<=r)(h0:∀i,i<=n->0<=own i):∀i,i<=n->0<=Rz own L r i |0,hi=>h0 0 hi |i+1,hi=>by cases h:L i with |none=>rw[xY h];erw[h0 _ hi] |some m=>rw[o5 h];erw[gE (h0 _ hi) (uX (DX hr h0 i ao) (xn hr))]
theorem down{C:Nat->Prop}(hn:C n)(hs:∀i,i<n->C (i+1)->C i):∀i,i<=n->C i:=by
 have key:∀k,k<=n->C (n-k):=λk=>by induction k with |zero=>intro _;erw[hn] |succ k ih=>
  intro hk;erw[hs _ aL ?_];have e:n-(k+1)+1=n-k:=by omega
  rw[e];erw[ih aL]
 intro i hi;have:=key (n-i) aL;have e:n-(n-i)=i:=by omega
 rwa [e]at this
theorem C9(hr:0<=r)(hf:0<=f)(h0:∀i,i<=n->0<=own i):∀i,i<=n->0<=gf n own L r f i:=by
 erw[down ?_ λi hi ih=>?_]
 ·rw[Gg];erw[DX hr h0 n (aV _)]
 ·cases h:L i with |none=>rw[Gf hi h];erw[DX hr h0 i ao] |some m=>rw[ze hi h];erw[gE (DX hr h0 i ao) (uX ih (xn hf))]
structure Keeps(n:Nat)(own:Nat->Rat)(L:Nat->Option Nat)(r f:Int)(q:Nat->Rat):Prop where
 own:∀i,i<=n->q i<=own i
 rise:∀i m,i<n->L i=some m->q (i+1)<=q i+((r*(m:Int):Int):Rat)
 IZ:∀i m,i<n->L i=some m->q i<=q (i+1)+((f*(m:Int):Int):Rat)
theorem QH(hr:0<=r)(hf:0<=f):Keeps n own L r f (gf n own L r f):=#[λi hi=>Ca hi,λi m hi h=>a2i hi h hr hf,λi m hi h=>a2k hi h]
theorem CY{q:Nat->Rat}(k:Keeps n own L r f q):∀i,i<=n->q i<=Rz own L r i |0,hi=>k.own 0 hi |i+1,hi=>by cases h:L i with |none=>rw[xY h];erw[k.own _ hi] |some m=>rw[o5 h];erw[gE (k.own _ hi) (cL (k.rise i m ao h) (add_r (CY k i ao)))]
theorem a6l(k:Keeps n own L r f q):∀i,i<=n->q i<=gf n own L r f i:=by
 erw[down ?_ λi hi ih=>?_]
 ·rw[Gg];erw[CY k n (aV _)]
 ·cases h:L i with |none=>rw[Gf hi h];erw[CY k i ao] |some m=>rw[ze hi h];erw[gE (CY k i ao) (cL (k.IZ i m hi h) (add_r ih))]
theorem a2h(hr:0<=r)(hf:0<=f)(k:Keeps n own L r f q)(g:∀q',Keeps n own L r f q'->∀i,i<=n->q' i<=q i):∀i,i<=n->q i=gf n own L r f i:=λi hi=>rn (a6l k i hi) (g _ (QH hr hf) i hi)
end
open _b
theorem qk{n:Nat}(h1:Bd n a)(h2:Bd n b):Bd n (mn a b):=by rcases sE a b with e|e<;>rw[e]<;>assumption
theorem jW{n:Nat}{q:Rat}{z:Int}(h:Bd n q)(hz:z.natAbs<2^24):Bd (n+25) (q+(z:Rat)):=by have b:Bd 24 (z:Rat):=#[hz,by show 1<2^24;decide];exact(h.add b).mono ao
theorem DZ{b:Nat}{own:Nat->Rat}{L:Nat->Option Nat}{r:Int}(ho:∀i,Bd b (own i))(hL:∀i m,L i=some m->(r*(m:Int)).natAbs<2^24):∀i,Bd (b+25*i) (Rz own L r i) |0=>ho 0 |i+1=>by cases h:L i with |none=>rw[xY h];exact(ho _).mono ao |some m=>rw[o5 h];erw[qk ((ho _).mono ao) ((jW (DZ ho hL i) (hL i m h)).mono ao)]
theorem IX{n b:Nat}{g:Nat->Rat}{L:Nat->Option Nat}{f:Int}(ho:∀i,i<=n->Bd b (g i))(hL:∀i m,L i=some m->(f*(m:Int)).natAbs<2^24):∀i,i<=n->Bd (b+25*(n-i)) (fl n L f g i):=by
 erw[down ?_ λi hi ih=>?_]
 ·rw[qI];exact(ho n (aV _)).mono ao
 ·cases h:L i with |none=>rw[qH hi h];exact(ho i ao).mono ao |some m=>rw[nM hi h];erw[qk ((ho i ao).mono ao) ((jW ih (hL i m h)).mono ao)]
def lst(n:Nat)(g:Nat->Rat):List Rat:=(List.range (n+1)).map g
theorem lP(n:Nat)(g:Nat->Rat):(lst n g).length=n+1:=by simp[lst]
theorem lQ{n:Nat}(g:Nat->Rat){i:Nat}(h:i<=n):(lst n g)[i]? =some (g i):=by unfold lst;rw[bO,bL (by simp;lia),Bn];rfl
theorem Hj{n:Nat}(h:∀k,k<=n->k≠i->g' k=g k):(lst n g).set i (g' i)=lst n g':=by
 apply KA;intro k;by_cases hk:k<=n
 ·rw[lQ g' hk,List.getElem?_set]
  by_cases e:i=k
  ·subst e;rw[ba rfl,ba (by rw[lP];lia)]
  ·rw[bc e,lQ g hk,h k hk (λz=>e z.symm)]
 ·rw[og (by rw[yk,lP];lia),og (by rw[lP];lia)]
theorem qm{n:Nat}(h:∀k,k<=n->g' k=g k):lst n g=lst n g':=by
 apply KA;intro k;by_cases hk:k<=n
 ·rw[lQ g hk,lQ g' hk,h k hk]
 ·rw[og (by rw[lP];lia),og (by rw[lP];lia)]
end _P
namespace _O
open _P _C _l _b
abbrev Itm:=Option (List Int × Int)
def topR(rate sp:Int):Rat:=Rat.divInt ((sp*rate)^2) 10000
def cornO(j:Int)(ns ms:List Int):Option Rat:=if aE (g6 ns ms)=0 then none else some (Rat.divInt ((j*aE ns*aE ms)^2) ((aE (g6 ns ms):Int)^2))
def mnO(a:Rat):Option Rat->Rat |none=>a |some c=>mn a c
def betR(j rate:Int):Itm->Itm->Rat |some (ns,sp),some (ms,sq)=>mnO (mn (topR rate sp) (topR rate sq)) (cornO j ns ms) |_,_=>0
def atO(os:List Itm)(i:Nat):Itm:=(os[i]?).join
def ownF(j rate:Int)(os:List Itm):Nat->Rat |0=>0 |i+1=>betR j rate (atO os i) (atO os (i+1))
def leadF(os:List Itm)(i:Nat):Option Nat:=(atO os i).map λq=>aE q.1
def ownL(j rate:Int)(os:List Itm):List Rat:=(List.range (os.length+1)).map (ownF j rate os)
theorem nU(h:os[i]? =some o):atO os i=o:=by unfold atO;rw[h];rfl
theorem Wi(h:os.length<=i):atO os i=none:=by unfold atO;rw[og h];rfl
theorem vL(j rate:Int)(o:Itm):betR j rate o none=0:=by unfold betR;split<;>simp_all
theorem AB(j rate:Int)(o:Itm):betR j rate none o=0:=by unfold betR;split<;>simp_all
theorem a30(j rate:Int)(os:List Itm):∀n,n=os.length->ownF j rate os n=0 |0,_=>rfl |n+1,h=>by show betR j rate (atO os n) (atO os (n+1))=0;rw[Wi (i:=n+1) ao];erw[vL _ _ _]
theorem a2X(j rate:Int)(os:List Itm):(ownL j rate os).length=os.length+1:=by simp[ownL]
theorem a2Y(j rate:Int)(os:List Itm){i:Nat}(h:i<=os.length):(ownL j rate os)[i]? =some (ownF j rate os i):=by unfold ownL;rw[bO,bL (by simp;lia),Bn];rfl
theorem R5(j rate:Int){os:List Itm}(h:os≠[]):ownL j rate os=[0]++(List.range (os.length-1)).map (λi=>ownF j rate os (i+1))++[0]:=by
 have h0:0<os.length:=Bl.mpr h;apply KA;intro i;by_cases hi:i<=os.length
 ·rw[a2Y j rate os hi]
  rcases Nat.eq_zero_or_pos i with rfl|hp
  ·rfl
  ·by_cases hl:i=os.length
   ·rw[oh (by simp;lia),hl,a30 j rate os _ rfl]
    have:os.length-([0]++List.map (λi=>ownF j rate os (i+1)) (List.range (os.length-1))).length=0:=by simp;lia
    rw[this];rfl
   ·rw[oj (by simp;lia),oh (by simp;lia),bO]
    have e:i-[(0:Rat)].length=i-1:=rfl;rw[e,bL (by simp;lia),Bn];show some _=some (ownF j rate os (i-1+1));rw[Nat.sub_add_cancel hp]
 ·rw[og (by rw[a2X];lia),og (by simp;lia)]
theorem rK(rate sp:Int):0<=topR rate sp:=by
 unfold topR;rw[ye aw,fU,fU,m9,lG];rcases Int.le_total 0 (sp*rate)with h|h
 ·erw[gT h h]
 ·erw[Xj h h]
theorem Zd(a:Int):0<=a^2:=by
 rw[fU,fU,m9,lG];rcases Int.le_total 0 a with h|h
 ·erw[gT h h]
 ·erw[Xj h h]
theorem abl(h:cornO j ns ms=some c):0<=c:=by
 unfold cornO at h;split at h
 ·cases h
 ·next h0=>
  cases h;rw[ye]
  ·erw[Zd _]
  ·rw[fU,fU,m9,lG];erw[jd ao ao]
theorem ac0(j rate:Int)(o p:Itm):0<=betR j rate o p:=by
 unfold betR;split
 ·next ns sp ms sq=>
  have h:=gE (rK rate sp) (rK rate sq);unfold mnO;split
  ·erw[h]
  ·next c e=>erw[gE h (abl e)]
 ·erw[iE]
theorem zk(j rate:Int)(os:List Itm):∀i,0<=ownF j rate os i |0=>iE |i+1=>ac0 _ _ _ _
def OkI(o:Itm):Prop:=∀ns sp,o=some (ns,sp)->(∀z∈ns,(z.natAbs:Int)<=100)/\1<=sp/\sp<=20
theorem F4{a:Int}{m:Nat}(h:a.natAbs<=m):(a^2).natAbs<=m*m:=by rw[fU,fU,m9,lG];erw[oN h h]
theorem pP(h1:1<=sp)(h2:sp<=20)(h3:10<=rate)(h4:rate<=200):Bd 64 (topR rate sp):=by
 have qE:(2:Nat)^64=18446744073709551616:=by decide
 have a:=F4 (oN (a:=sp) (b:=rate) (m:=20) (n:=200) ao ao);erw[kP aw (by rw[qE];lia) aw]
theorem VI(h1:1<=j)(h2:j<=50)(hn:∀z∈ns,(z.natAbs:Int)<=100)(hm:∀z∈ms,(z.natAbs:Int)<=100)(h:cornO j ns ms=some c):Bd 64 c:=by
 have qE:(2:Nat)^64=18446744073709551616:=by decide
 have cb:=Jy (λz hz=>by have:=hn z hz;lia) (λz hz=>by have:=hm z hz;lia) (ns:=ns) (ms:=ms);have hb:=qo cb;have l1:=qo (ns:=ns) (m:=100) λz hz=>by have:=hn z hz;lia
 have l2:=qo (ns:=ms) (m:=100) λz hz=>by have:=hm z hz;lia
 unfold cornO at h;split at h
 ·cases h
 ·next h0=>cases h;have a:=F4 (oN (oN (a:=j) (b:=(aE ns:Int)) (m:=50) (n:=100) ao ao) (b:=(aE ms:Int)) (n:=100) ao);have b:=F4 (a:=(aE (g6 ns ms):Int)) (m:=2000000) ao;erw[kP ?_ (by rw[qE];lia) (by rw[qE];lia)];rw[fU,fU,m9,lG];erw[KD ao ao]
theorem qk{n:Nat}(h1:Bd n a)(h2:Bd n b):Bd n (mn a b):=by rcases sE a b with e|e<;>rw[e]<;>assumption
theorem KN:Bd 64 (0:Rat):=#[ aw,aw]
theorem ac2(h1:1<=j)(h2:j<=50)(h3:10<=rate)(h4:rate<=200)(ho:OkI o)(hp:OkI p):Bd 64 (betR j rate o p):=by
 unfold betR;split
 ·next ns sp ms sq=>
  let(a1,a2,a3):=ho ns sp rfl;let(b1,b2,b3):=hp ms sq rfl;have h:=qk (pP a2 a3 h3 h4) (pP b2 b3 h3 h4);unfold mnO;split
  ·erw[h]
  ·next c e=>erw[qk h (VI h1 h2 a1 b1 e)]
 ·erw[KN]
def OkIs(os:List Itm):Prop:=∀i,OkI (atO os i)
theorem zm{j rate:Int}{os:List Itm}(h1:1<=j)(h2:j<=50)(h3:10<=rate)(h4:rate<=200)(ho:OkIs os):∀i,Bd 64 (ownF j rate os i) |0=>KN |i+1=>ac2 h1 h2 h3 h4 (ho i) (ho (i+1))
end _O
namespace _W
open PySem _L
def gb(pl ns:List Int):List Int:=List.zipWith (λa b=>a+b) pl ns
theorem qU{pl:List Int}(h:ns.length=pl.length):(gb pl ns).length=pl.length:=by unfold gb;rw[List.length_zipWith,h];erw[Nat.min_self _]
theorem AJ{pl ns:List Int}{i:Nat}{a b:Int}(h1:pl[i]? =some a)(h2:ns[i]? =some b):(gb pl ns)[i]? =some (a+b):=by unfold gb;rw[List.getElem?_zipWith,h1,h2]
structure fo(rs pl:List Int):Prop where
 len:pl.length=rs.length
 at':∀(i:Nat)(x r:Int),pl[i]? =some x->rs[i]? =some r->0<=x/\x<=r
end _W
namespace _L
open PySem PySem.Spec PyProof.Rows
def y6(z:Str):It:=#[λi _=>i<z.cps.size,λi H x H'=>H'=H/\∃c,z.cps.toList[i]? =some c/\x= .str ⟨#[c]⟩,λi _=>z.cps.size<=i]
theorem Y8{P:ag}{w:World}{K:aa}{tg:Expr}(it:Addr)(z:Str)(t:Tok)(ty:String)(Ik:["enumerate","zip","dict_itemiterator","dict_reverseitemiterator","odict_iterator","itertools.zip_longest","itertools.pairwise"].contains ty=false) (W:∀A':ai,A'.handled=none->Walks P w A' it [it] [it] z.cps.size (SignAt z) (λi h=>h.IsStrIter it ty z t i)) (self:∀(A:ai)(i:Nat)(s:af)(Q:Value->af->Prop)(E:Value->af->Prop),s.heap.IsStrIter it ty z t i->Q (.ref it) s->wpAny (model P w) A (pyIter (.ref it)) Q E s): Turn P w K tg (y6 z) [it] it (λi h=>h.IsStrIter it ty z t i/\i<=z.cps.size) where
 mem:=by simp
 obj:=λi h st b hb=>by
  have e:b=it:=by simpa using hb
  subst e;let((o,e,c,d),_):=st;erw[o,e,λv z=>by rw[d]at z;cases z]
 keep:=λi h h' st k=>#[let#[o,e,r]:=st.1;#[o,k it (by simp) o e,r],st.2]
 item:=by intro X hP hw hK hc i pins s O H E I hf st hg;subst hP hw hK;let(f0,f1,f2,f3,f4,f5):=hf it (by simp);refine(W X.A (I.ok.hd hc)).item i s _ _ hg st.1 λv h' tk hv iX kk=>?_;let(c,u,ec,rfl):=hv;have I1:Inv X pins O H {s with heap:=h',toks:=tk}:=I.turned (λb o hb e=>kk b o (by simpa using hb) e) f0 f1 f3 f4 f5;let(o,e,cl,d):=id iX;erw[_,Z,A8 (s:={s with heap:=h',toks:=tk}) e cl d Ik #[.str ⟨#[c]⟩,H,I1,#[u,Z],#[Z,c,by simpa using ec,Z],#[iX,hg],λb hb=>(hf b hb).1]]
 done:=by intro X hP hw hK hc i pins s O H E I hf st hg;subst hP hw hK;let(f0,f1,f2,f3,f4,f5):=hf it (by simp);let(st,hle):=st;have ei:i=z.cps.size:=Nat.le_antisymm hle hg;subst ei;exact(W X.A (I.ok.hd hc)).done s _ _ st λh' tk eb=>#[Z,I.turned (λb o hb e=>eb b o (by simpa using hb) e) f0 f1 f3 f4 f5]
 self:=λA i s Q E st h=>self A i s Q E st.1 h
section
variable {X:Cx} {tg:Expr}
inductive aeW(R:It->Hp->Prop)(x:V)(H1:Hp):Prop |mk (z:_)(h0:x= .str z)(h1:R (y6 z) H1)
def a6O(tl:TE):TI:=λO H R=>tl O H λx H1=>aeW R x H1
theorem Gi{l:Expr}(hl:PE X l tl):PI X tg l (a6O tl):=by
 intro pins s O H R I h;erw[aZ (hl pins s O H _ I h) λv s1 #[x,H1,I1,r1,q1]=>?_];let(z,e,q):=q1;subst e;let(t,rfl):=r1;have fin:∀ty,["enumerate","zip","dict_itemiterator","dict_reverseitemiterator","odict_iterator","itertools.zip_longest","itertools.pairwise"].contains ty=false->(∀A':ai,A'.handled=none->Walks X.prog X.w A' s1.heap.objs.size [s1.heap.objs.size] [s1.heap.objs.size] z.cps.size (SignAt z) (λi h=>h.IsStrIter s1.heap.objs.size ty z t i))->(∀(A:ai)(i:Nat)(s:af)(Q:Value->af->Prop)(E:Value->af->Prop),s.heap.IsStrIter s1.heap.objs.size ty z t i->Q (.ref s1.heap.objs.size) s->wpAny (model X.prog X.w) A (pyIter (.ref s1.heap.objs.size)) Q E s)->K3 X pins O tg R (.ref s1.heap.objs.size) {s1 with heap:=s1.heap.push {cls:=.type ty,data:=.fields (List.toArray [.str z t,.int 0 0])}}:=λty h1 h2 h3=>by
  erw[s1.heap.objs.size,[s1.heap.objs.size],_,_,H1,Z,I1.kept (t':=s1.toks) λb o e=>cF _ e,Y8 _ z t ty h1 h2 h3,#[#[_,eJ _ Z,Z,Z],eX _],λb hb=>?_,q];have e:b=s1.heap.objs.size:=by simpa using hb
  subst e;erw[I1.qG (aV _) (I1.bS.fresh (aV _))]
 cases ha:z.cps.all (·<128)
 ·erw[wpAny_pyIter_wide ha (fin "str_iterator" aw (λA' hA=>Walks.strWide hA _ z t) (λ_ _ _ _ _ st h=>wpAny_pyIter_striter_wide st h))]
 ·erw[wpAny_pyIter_ascii ha (fin "str_ascii_iterator" aw (λA' hA=>Walks.strAscii hA _ z t) (λ_ _ _ _ _ st h=>wpAny_pyIter_striter_ascii st h))]
theorem VM{D:Addr}(rest:St)(nw:Nw H H0 D (.lst []))(hz:z.length<=1000) (hs:∀(c:Nat)(H2:Hp)(Q':VK),c∈z.cps.toList->aF H H2->(∀H3,aF H2 H3->Q' (.bl (f c)) H3)->te (some (.str ⟨#[c]⟩)::rest) H2 Q') (hq:∀H',aF H H'->H' D=some (.lst ((z.cps.toList.map f).map V.bl))->Q (.ref D) H'):m6 (y6 z) (gs 0) kI te Q D (none::rest) H0:=by
 have hl:z.cps.toList.length=z.cps.size:=by simp
 erw[VN (xs:=z.cps.toList.map λc=>V.str ⟨#[c]⟩) (bs:=z.cps.toList.map f) rest nw (by simp) (by simpa[Str.length]using hz) ?_ ?_ ?_ hq]
 ·intro i x H2 ex s2
  rw[bO]at ex;cases ec:z.cps.toList[i]? with |none=>rw[ec]at ex;cases ex |some c=>rw[ec]at ex;cases ex;erw[by have:=(cK.mp ec).1;show i<z.cps.size;omega,λy H3 #[e3,c',Vg,e]=>#[e3,?_]];rw[ec]at Vg;cases Vg;erw[e]
 ·intro H2 s2
  show z.cps.size<=(z.cps.toList.map _).length;rw[aW,hl];erw[aV _]
 ·intro i x b H2 Q' ex eb s2 oX
  rw[bO]at ex eb;cases ec:z.cps.toList[i]? with |none=>rw[ec]at ex;cases ex |some c=>rw[ec]at ex eb;cases ex;cases eb;erw[hs c H2 Q' (fz ec) s2 oX]
theorem Rj:cX X (compareOp .In) (λx y H Q=>∃c j,x= .str ⟨#[c]⟩/\y= .str j/\Q (.bl (decide (c∈j.cps.toList))) H):=by intro pins s O H x y v u Q I rx ry h;let(c,j,rfl,rfl,q):=h;erw[a36 pins s O H _ _ v u Q I rx ry #[_,_,Z,Z,?_]];rw[PySem.StrLaws.found_one];erw[q]
inductive aeH(K:aa)(x:V)(y:V)(H:Hp)(Q:VK):Prop |mk (p:_)(xs:_)(d:_)(ds:_)(h0:y= .ref p)(h1:aU K H p xs)(h2:RD K H x d)(h3:aI K H xs ds)(h4:SeqAt.shaped d=true)(h5:(∀e∈ds,SeqAt.shaped e=true))(h6:Q (.bl (ds.any λe=>PyData.eqv e d)) H)
def a1Y(K:aa):R2:=λx y H Q=>aeH K x y H Q
theorem a6J(K:aa)(hK:X.K=K)(hu:X.A.units+65<cLine):cX X (compareOp .In) (a1Y K):=by
 subst hK;intro pins s O H x y v u Q I rx ry h;let(p,xs,d,ds,rfl,hx,hd,sX,sd,sds,q):=h;cases ry;let(its,r,pl,hz):=I.tuple hx;let(k1,k2):=V3 I hu rx hd sd r sX sds;erw[SeqAt.in_tupleAt (vv s.heap d) (show s.heap.IsTuple p its.toArray from pl) (λw hw=>k1 w (by simpa using hw)) #[.bl _,H,I,Z,?_]];have e:its.toArray.any (vv s.heap d)=ds.any λe=>PyData.eqv e d:=by rw[<-k2];simp
 rw[e];erw[q]
end
structure MA(K:aa)(C:Addr)(m qual:Str)(st:Stmt):Prop where ex:∃f fd,Meth K C m f/\lA K m qual st f fd
def dA(P:ag)(w:World)(K:aa)(mg:cm)(ay:Heap)(C:Addr)(m:Str)(k:Nat)(sp:Sp):Prop:=∃f fd ps,fu P w K mg ay kd k f fd ps sp/\Meth K C m f/\Binds K fd ps []
structure CA(K:aa)(mg:cm)(C:Addr)(x qual:Str)(st:Stmt):Prop where
 mgC:mg x=some (.ref C)
 ex:∃f fd,Mk K C f/\lA K "__init__" qual st f fd
def E9(P:ag)(w:World)(K:aa)(mg:cm)(ay:Heap)(C:Addr)(x:Str)(k:Nat)(sp:Sp):Prop:=∃f fd ps,fu P w K mg ay kd k f fd ps sp/\Mk K C f/\Binds K fd ps []/\mg x=some (.ref C)
section
variable {P:ag}{w:World}{K:aa}{mg:cm}{ay:Heap}
theorem hJ{C:Addr}{m qual:Str}{st:Stmt}{f:Addr}{oc:Value}{od an:Option Addr}{j5:Array (Option Value)}{kV doc pm aK ct:Value} (a:PySem.W.findIn K (.ref C) m=some (some (.ref f)))(i:PySem.W.isFn K (.ref f)=true) (l:K.lookup f=some #[oc,od,.func (PySem.W.fnOf m qual (mK st) (jb st) (aQ st) .none kV doc pm an aK ct),j5]) (c:PySem.W.codeIn K aK qual=true)(k:PySem.W.keepIn K (.ref f)=true):MA K C m qual st:=#[f,_,#[a,i,k],IP l c k]
theorem VX{h:Heap}{C:Addr}{x qual:Str}{st:Stmt}{f:Addr}{oc:Value}{od an:Option Addr}{j5:Array (Option Value)}{kV doc pm aK ct:Value}(X:K.In h)(G:h.Ns mainGlobals mg) (aC:PySem.W.nsIn K mainGlobals x=some (some (.ref C)))(mk:PySem.W.makesIn K C=true)(kc:PySem.W.keepIn K (.ref C)=true) (a:PySem.W.findIn K (.ref C) "__init__"=some (some (.ref f)))(i:PySem.W.isFn K (.ref f)=true) (l:K.lookup f=some #[oc,od,.func (PySem.W.fnOf "__init__" qual (mK st) (jb st) (aQ st) .none kV doc pm an aK ct),j5]) (c:PySem.W.codeIn K aK qual=true)(k:PySem.W.keepIn K (.ref f)=true):CA K mg C x qual st:=#[Be X G aC,f,_,#[mk,a,i,kc],IP l c k]
theorem MA.has{C:Addr}{m qual:Str}{st:Stmt}{N ps:List Str}{k:Nat}{sp:Sp}(F:MA K C m qual st)(S:bf N ps (aQ st))(len:∀vs H Q E,sp vs H Q E->vs.length=ps.length) (hb:∀(kV doc pm:Value)(an:Option Addr)(aK ct:Value)(us:List Value),us.length=ps.length->bindArgs (PySem.W.fnOf m qual (mK st) (jb st) (aQ st) .none kV doc pm an aK ct) #[us,[]]=pure (ps.zip us)) (lU:∀(f:Addr)(aK:Value)(A:ai)(outer:List Env)(s:af)(H:Hp)(vs:List V)(Q:VK)(E:XK),dP k (A.deeper (envOfC qual (aQ st) s.heap.objs.size f aK))->sp vs H Q E->∃t,iT (mM kd P w K mg ay N qual (aQ st) f aK A outer s H E).uQ (jb st) t/\t {nx:=λ_ H'=>Q .bu H',rt:=Q} (start N vs) H):dA P w K mg ay C m (k+1) sp:=by let(f,fd,hm,F):=F.ex;erw[f,fd,ps,F.ok S len λaK A outer s H vs Q E=>lU f aK A outer s H vs Q E,hm,F.binds hb]
theorem CA.has{C:Addr}{x qual:Str}{st:Stmt}{N ps:List Str}{k:Nat}{sp:Sp}(F:CA K mg C x qual st)(S:bf N ps (aQ st))(len:∀vs H Q E,sp vs H Q E->vs.length=ps.length) (hb:∀(kV doc pm:Value)(an:Option Addr)(aK ct:Value)(us:List Value),us.length=ps.length->bindArgs (PySem.W.fnOf "__init__" qual (mK st) (jb st) (aQ st) .none kV doc pm an aK ct) #[us,[]]=pure (ps.zip us)) (lU:∀(f:Addr)(aK:Value)(A:ai)(outer:List Env)(s:af)(H:Hp)(vs:List V)(Q:VK)(E:XK),dP k (A.deeper (envOfC qual (aQ st) s.heap.objs.size f aK))->sp vs H Q E->∃t,iT (mM kd P w K mg ay N qual (aQ st) f aK A outer s H E).uQ (jb st) t/\t {nx:=λ_ H'=>Q .bu H',rt:=Q} (start N vs) H):E9 P w K mg ay C x (k+1) sp:=by let(f,fd,hm,F'):=F.ex;erw[f,fd,ps,F'.ok S len λaK A outer s H vs Q E=>lU f aK A outer s H vs Q E,hm,F'.binds hb,F.mgC]
end
section
variable {X:Cx}{k:Nat}{x m:Str}{C:Addr}{p pos apos:Pos}{o e:Expr}{es:List Expr}{t:TA}{ta:TE}{sp:Sp}
inductive WI(C:Addr)(m:Str)(sp:Sp)(t:TA)(O:St)(Q:VK)(x:V)(H1:Hp):Prop |mk (a:_)(dx:_)(fs:_)(h0:x= .ref a)(h1:H1 a=some (.ins C dx fs))(h2:fs.lookup m=none)(h3:t O H1 λvs H2=>sp (x::vs) H2 Q E0)
def Lg(C:Addr)(m:Str)(sp:Sp)(ta:TE)(t:TA):TE:=λO H Q=>ta O H λx H1=>WI C m sp t O Q x H1
theorem Sw{O:St}{Q:VK}{x:V}{H1:Hp}:Ea C m sp [] E0 t O Q x H1=WI C m sp t O Q x H1:=by
 have e1:(λ(vs:List V) H1=>sp (x::(vs++[])) H1 Q E0)=λvs H1=>sp (x::vs) H1 Q E0:=by funext vs H1;rw[om]
 erw[propext #[λ#[a,dx,fs,h0,h1,h2,h3]=>#[a,dx,fs,h0,h1,h2,?_],λ#[a,dx,fs,h0,h1,h2,h3]=>#[a,dx,fs,h0,h1,h2,?_]]]
 ·rw[<-e1];erw[h3]
 ·rw[e1];erw[h3]
theorem ko{pl:Sem Bool}(F:dA X.prog X.w X.K X.mg X.ay C m k sp)(c:ka X.K C)(hr:dP k X.A)(he:PE X o ta)(ha:PA X (e::es) t) (nu:autoParam (starEach (e::es) X.env=(false,eval e X.env)::starEach es X.env) r8_._auto_1)(gr:autoParam ((backTo pos (starEach es X.env)).any (·.1)=false) r8_._auto_1) (ht:eval (.Call (.Attribute o m apos) (e::es) [] pos) X.env=(do
 let ov<-eval o X.env
 standAt apos.atName
 let(f,first)<-holding [ov] (getMethod ov m pl)
 callWith pos f first (backTo pos (starEach (e::es) X.env)) (backToKw pos (keywordEach [] X.env))):=by rfl): PE X (.Call (.Attribute o m apos) (e::es) [] pos) (Lg C m sp ta t):=by
 let(f,fd,ps,F,hm,hb):=F;have h:=a2w (pos:=pos) (apos:=apos) (pl:=pl) he c hm F hr hb .nil Cf ha nu gr ht;intro pins s O H Q I hq;erw[h pins s O H Q I ?_];show ta O H λx H1=>Ea C m sp [] E0 t O Q x H1;simp only[Sw];erw[hq]
theorem jL{pl:Sem Bool}(F:dA X.prog X.w X.K X.mg X.ay C m k sp)(c:ka X.K C)(hr:dP k X.A)(he:PE X o ta) (ht:eval (.Call (.Attribute o m apos) [] [] pos) X.env=(do
 let ov<-eval o X.env
 standAt apos.atName
 let(f,first)<-holding [ov] (getMethod ov m pl)
 callWith pos f first (backTo pos (starEach [] X.env)) (backToKw pos (keywordEach [] X.env))):=by rfl): PE X (.Call (.Attribute o m apos) [] [] pos) (Lg C m sp ta uk):=by
 let(f,fd,ps,F,hm,hb):=F;have h:=a2v (pos:=pos) (apos:=apos) (pl:=pl) he c hm F hr hb .nil Cf ht;intro pins s O H Q I hq;erw[h pins s O H Q I ?_];show ta O H λx H1=>Ea C m sp [] E0 uk O Q x H1;simp only[Sw];erw[hq]
def YH(C:Addr)(sp:Sp)(t:TA):TE:=λO H Q=>t O H λvs H1=>∀x dx,H1 x=none->H1 dx=none->dx≠x->sp (.ref x::vs) (upd (upd H1 dx (.own x)) x (.ins C dx [])) (λv H2=>v= .bu/\Q (.ref x) H2) E0
theorem QT(F:E9 X.prog X.w X.K X.mg X.ay C x k sp)(hr:dP (k+1) X.A)(hg:Gl X x)(ha:PA X (e::es) t)(ju:autoParam ((x==("__debug__":Str))=false) q8_._auto_1) (he:autoParam (starEach (e::es) X.env=(false,eval e X.env)::starEach es X.env) r8_._auto_1)(gr:autoParam ((backTo pos (starEach es X.env)).any (·.1)=false) r8_._auto_1): PE X (.Call (.Name x p) (e::es) [] pos) (YH C sp t):=by
 let(f,fd,ps,F,M,hb,hm):=F;have h:=a2x (pos:=pos) (p:=p) M F hr hg hm hb .nil Cf ha ju he gr;intro pins s O H Q I hq;erw[h pins s O H Q I ?_];have e1:(λ(vs:List V) H1=>∀x dx,H1 x=none->H1 dx=none->dx≠x->sp (.ref x::(vs++[])) (upd (upd H1 dx (.own x)) x (.ins C dx [])) (λv H2=>v= .bu/\Q (.ref x) H2) E0) =λvs H1=>∀x dx,H1 x=none->H1 dx=none->dx≠x->sp (.ref x::vs) (upd (upd H1 dx (.own x)) x (.ins C dx [])) (λv H2=>v= .bu/\Q (.ref x) H2) E0:=by funext vs H1;rw[om]
 show t O H λvs H1=>∀x dx,H1 x=none->H1 dx=none->dx≠x->sp (.ref x::(vs++[])) (upd (upd H1 dx (.own x)) x (.ins C dx [])) (λv H2=>v= .bu/\Q (.ref x) H2) E0;rw[e1];erw[hq]
inductive IAt(C:Addr)(x:Str)(Q:VK)(v:V)(H1:Hp):Prop |mk (a dx:Addr)(fs:List (Str×V))(u:V)(h0:v= .ref a)(h1:H1 a=some (.ins C dx fs))(h2:fs.lookup x=some u)(h3:Q u H1)
theorem cS(T:ka X.K C)(hn:iU X.K C x)(he:PE X e ta)(hb:autoParam (attributeBase e x X.env (eval e X.env)=eval e X.env) r8_._auto_1): PE X (.Attribute e x pos) (λO H Q=>ta O H λv H1=>IAt C x Q v H1):=by intro pins s O H Q I h;erw[ac9 hb (aZ (he pins s O H _ I h) λu s1 #[v,H1,I1,rx,a,dx,fs,w,ex,ea,l,q]=>?_)];subst ex;obtain rfl:u=Value.ref a:=rx;erw[UB I1 ea T hn l λu' s2 I2 ru=>#[w,H1,I2,ru,q]]
inductive af5(C:Addr)(x:Str)(D:Ends)(O:St)(y v:V)(H2:Hp):Prop |mk (a dx:Addr)(fs:List (Str×V))(h0:v= .ref a)(h1:H2 a=some (.ins C dx fs))(h2:fs.length<1000)(h3:D.nx O (upd H2 a (.ins C dx (ji x y fs))))
inductive af9(C a:Addr)(x:Str)(D:Ends)(O:St)(z:V)(H3:Hp):Prop |mk (vA:Addr)(p9:List (Str×V))(h0:H3 a=some (.ins C vA p9))(h1:p9.length<1000)(h2:D.nx O (upd H3 a (.ins C vA (ji x z p9))))
inductive afa(C:Addr)(x:Str)(tv:TE)(rd:V->V->Hp->VK->Prop)(D:Ends)(O:St)(v:V)(H1:Hp):Prop |mk (a dx:Addr)(fs:List (Str×V))(u:V)(h0:v= .ref a)(h1:H1 a=some (.ins C dx fs))(h2:fs.lookup x=some u)(h3:tv O H1 λy H2=>rd u y H2 λz H3=>af9 C a x D O z H3)
theorem iJ(T:ka X.K C)(hn:iU X.K C x)(ha:PE X o ta)(hv:PE X value tv)(hs:autoParam (swapsWith value (some (.Attribute o x pos')) pos.line X.env=pure false) r8_._auto_1): PS X (.Assign [.Attribute o x pos'] value pos) (λD O H=>tv O H λy H1=>ta O H1 λv H2=>af5 C x D O y v H2):=by intro pins s O H D I h;erw[plainObj_wpAny_Assign_Attribute (aZ (hv pins s O H _ I h) λu s1 #[y,H1,I1,ry,q]=>aZ (ha pins s1 O H1 _ I1 q) λov s2 #[v,H2,I2,rx,a,dx,fs,ex,ea,l,q2]=>?_) hs];subst ex;obtain rfl:ov=Value.ref a:=rx;erw[Me I2 ea T hn l ry λs3 I3=>#[O,_,I3,q2]]
theorem a2d{rd:V->V->Hp->VK->Prop}(T:ka X.K C)(hn:iU X.K C x)(ha:PE X o ta)(hv:PE X value tv)(hop:aeS X op rd): PS X (.AugAssign (.Attribute o x pO) op value pos) (λD O H=>ta O H λv H1=>afa C x tv rd D O v H1):=by intro pins s O H D I h;erw[wpAny_AugAssign_AttributeAny (aZ (ha pins s O H _ I h) λov s1 #[v,H1,I1,rx,a,dx,fs,u,ex,ea,l,q]=>?_)];subst ex;obtain rfl:ov=Value.ref a:=rx;erw[UB I1 ea T hn l λu s2 I2 ru=>aZ (hv pins s2 O H1 _ I2 q) λw3 s3 #[y,H2,I3,ry,q3]=>aZ (hop pins s3 O H2 _ y u w3 _ I3 ru ry q3) λw4 s4 #[z,H3,I4,rz,vA,p9,xI,l',q4]=>?_];erw[Me I4 xI T hn l' rz λs5 I5=>#[O,_,I5,q4]]
end
def dI(S:List Addr)(H H':Hp):Prop:=∀b o,H b=some o->b∉S->H' b=some o
theorem dI.refl(S:List Addr)(H:Hp):dI S H H:=λ_ _ e _=>e
theorem dI.of(s:aF H H'):dI S H H':=λb o e _=>s b o e
theorem dI.trans(a:dI S H H1)(b:dI S H1 H2):dI S H H2:=λc o e n=>b c o (a c o e n) n
theorem JH(h:a∈S):dI S H (upd H a o):=λb o' e n=>by have hb:b≠a:=λz=>n (by rw[z];erw[h]);rw[aY hb];erw[e]
def Kb:HO->Prop | .lst _=>True | .ins _ _ _=>True | .dK _=>True | .rO _=>True |_=>False
def cQ(H H':Hp):Prop:=∀b o,¬Kb o->H b=some o->H' b=some o
section
variable {K:aa} {H H' H2:Hp}
theorem cQ.refl:cQ H H:=λ_ _ _ e=>e
theorem cQ.trans(a:cQ H H')(b:cQ H' H2):cQ H H2:=λc o n e=>b c o n (a c o n e)
theorem fm.v(s:fm H H'):cQ H H':=λb o n e=>s b o (λxs z=>n (by rw[z];trivial)) e
theorem aF.v(s:aF H H'):cQ H H':=λb o _ e=>s b o e
theorem dI.v(s:dI S H H')(h:∀x∈S,∀o,H x=some o->Kb o):cQ H H':=λb o n e=>s b o e λz=>n (h b z o e)
theorem cQ.upd(h:H a=some o)(m:Kb o):cQ H (upd H a o'):=λb p n e=>by
 have hb:b≠a:=λz=>by rw[z,h]at e;cases e;erw[n m]
 rw[aY hb];erw[e]
theorem aU.v(s:cQ H H')(h:aU K H a xs):aU K H' a xs:=h.imp (λr=>r.imp (s _ _ (λz=>z)) λ#[o,e]=>#[o,s _ _ (λz=>z) e]) id
mutual
theorem RD.v(s:cQ H H'):∀{x:V}(d:ah),dW d=true->RD K H x d->RD K H' x d |x,.none,_,h=>by simpa[RD]using h |x,.bool b,_,h=>by simpa[RD]using h |x,.int i,_,h=>by simpa[RD]using h |x,.str y,_,h=>by simpa[RD]using h |x,.list ds,n,h=>by simp[dW]at n |x,.tuple ds,n,h=>by rw[RD]at h⊢;let(a,xs,e,h1,h2):=h;erw[a,xs,e,h1.v s,aI.v s ds (by simpa[dW]using n) h2] |x,.dict _,_,h=>by simp[RD]at h
theorem aI.v (s:cQ H H'):∀{xs:List V}(ds:List ah),cx ds=true->aI K H xs ds->aI K H' xs ds |xs,[],_,h=>by simpa[aI]using h |xs,d::ds,n,h=>by rw[aI]at h⊢;rw[cx,fA]at n;let(y,ys,e,h1,h2):=h;erw[y,ys,e,RD.v s d n.1 h1,aI.v s ds n.2 h2]
end
end
abbrev jU(elt tg iter fE fk:Expr)(scope:Scope)(pos:Pos):Expr:=.ListComp elt [#[tg,iter,[],0],#[fE,fk,[],0]] scope pos
theorem abu(elt tg iter fE fk:Expr)(scope:Scope)(pos:Pos)(it acc:Value)(env:Env): compTurn (jU elt tg iter fE fk scope pos) 0 it acc env=(do standAt iter.pos match<-pyNext it with
 |none=>pure (.done .next) |some v=>
  letOwnedTupleGo tg it v
  assign tg env v
  let mut ok:=true
  for c in([]:List Expr) do if ok then ok<-isTrue c env (eval c env)
  if ok then
   let x<-eval fk env
   standAt fk.pos
   let x<-foldedSetIterable fk env x
   let _<-runOwn (.compStart (jU elt tg iter fE fk scope pos) 1 (<-holding [x] (pyIter x)) acc env) env
  again (.compLoop (jU elt tg iter fE fk scope pos) 0 it acc env)):=by rfl
theorem abt(elt tg iter fE fk:Expr)(scope:Scope)(pos:Pos)(it acc:Value)(env:Env): compTurn (jU elt tg iter fE fk scope pos) 1 it acc env=(do standAt fk.pos match<-pyNext it with
 |none=>pure (.done .next) |some v=>
  letOwnedTupleGo fE it v
  assign fE env v
  (do let _<-call (.builtin "list.append") [acc,<-eval elt env])
  again (.compLoop (jU elt tg iter fE fk scope pos) 1 it acc env)):=by rfl
section
variable {prog:ag}{w:World}{A:ai}{R:Result->af->Prop}{s:af}{elt tg iter fE fk:Expr}{scope:Scope}{pos:Pos}{it acc:Value}{env:Env}
theorem abw(I:Nat->af->Prop) (turn:∀n s,I n s->wpAny (model prog w) A (pyNext it) (λr s₁=>match r with |none=>R (.ok .next) s₁ |some v=>wpAny (model prog w) A (letOwnedTupleGo fE it v) (λ_ s₁=>wpAny (model prog w) A (assign fE env v) (λ_ s₂=>wpAny (model prog w) A (eval elt env) (λx s₄=>wpAny (model prog w) A (call (.builtin "list.append") [acc,x]) (λ_ s₅=>∃m,m<n/\I m s₅) (λ_ _=>False) s₄) (λ_ _=>False) s₂) (λ_ _=>False) s₁) (λ_ _=>False) s₁) (λ_ _=>False) s) (n:Nat)(h:I n s):codeAny (model prog w) A (.compLoop (jU elt tg iter fE fk scope pos) 1 it acc env) R s:=by erw[codeAny_loop Z I (λn s hI=>?_) n h];show wpAny _ A ((compTurn (jU elt tg iter fE fk scope pos) 1 it acc env).onRaise (λx=>do noteFrame x env;theTreesLotGoes x)) _ _ s;erw[wpAny_noted ?_];rw[abt];erw[aJ (tV (aJ (gJ (turn n s hI) (λr s₁ h₁=>?_) λ_ _ h'=>h'.elim)))];cases r with |none=>erw[cf h₁] |some v=>erw[aJ (gJ h₁ (λ_ Lp h₁=>?_) λ_ _ h'=>h'.elim)];erw[aJ (gJ h₁ (λ_ s₂ h₂=>?_) λ_ _ h'=>h'.elim)];erw[aJ (aJ (gJ h₂ (λx s₄ h₄=>aJ (gJ h₄ (λ_ s₅ h₅=>cf (cf #[Z,h₅])) λ_ _ h'=>h'.elim)) λ_ _ h'=>h'.elim))]
theorem abv(h0:codeAny (model prog w) A (.compLoop (jU elt tg iter fE fk scope pos) 1 it acc env) R s) (h:wpAny (model prog w) A (pyIter it) (λTv s'=>codeAny (model prog w) A (.compLoop (jU elt tg iter fE fk scope pos) 1 Tv acc env) R s') (notedBy (model prog w) A env λx s'=>R (.error x) s') s): codeAny (model prog w) A (.compStart (jU elt tg iter fE fk scope pos) 1 it acc env) R s:=by
 erw[codeAny_of_tree ?_];show wpAny _ _ ((compStart (jU elt tg iter fE fk scope pos) 1 it acc env).onRaise (λx=>do noteFrame x env;standAt theWindowsPlace)) _ _ s;erw[wpAny_notedAt ?_];unfold compStart;show wpAny _ _ (ask>>=_) _ _ s;erw[aJ (wpAny_askSetting (wpAny_ite ?_))];split
 ·first |erw[aJ (cf (cf (And.intro Z h0)))] |erw[cf (And.intro Z h0)]
 ·first |erw[aJ (B6 (aJ (tV (aJ (gJ h (λTv s' h'=>cf #[Z,h']) λ_ _ h'=>h')))))]
theorem abx(I:Nat->af->Prop)(hV:∀x,foldedSetIterable fk env x=pure x) (turn:∀n s,I n s->wpAny (model prog w) A (pyNext it) (λr s₁=>match r with |none=>R (.ok .next) s₁ |some v=>wpAny (model prog w) A (letOwnedTupleGo tg it v) (λ_ s₁=>wpAny (model prog w) A (assign tg env v) (λ_ s₂=>wpAny (model prog w) A (eval fk env) (λx s₃=>wpAny (model prog w) A (pyIter x) (λD6 s₄=>codeAny (model prog w) A (.compStart (jU elt tg iter fE fk scope pos) 1 D6 acc env) (λr s₅=>match r with| .ok _=>∃m,m<n/\I m s₅| .error _=>False) s₄) (λ_ _=>False) s₃) (λ_ _=>False) s₂) (λ_ _=>False) s₁) (λ_ _=>False) s₁) (λ_ _=>False) s) (n:Nat)(h:I n s):codeAny (model prog w) A (.compLoop (jU elt tg iter fE fk scope pos) 0 it acc env) R s:=by erw[codeAny_loop Z I (λn s hI=>?_) n h];show wpAny _ A ((compTurn (jU elt tg iter fE fk scope pos) 0 it acc env).onRaise (λx=>do noteFrame x env;theTreesLotGoes x)) _ _ s;erw[wpAny_noted ?_];rw[abu];erw[aJ (tV (aJ (gJ (turn n s hI) (λr s₁ h₁=>?_) λ_ _ h'=>h'.elim)))];cases r with |none=>erw[cf h₁] |some v=>erw[aJ (gJ h₁ (λ_ Lp h₁=>?_) λ_ _ h'=>h'.elim)];erw[aJ (gJ h₁ (λ_ s₂ h₂=>?_) λ_ _ h'=>h'.elim)];erw[aJ (wpAny_tests_nil ?_)];simp only[vX];erw[aJ (gJ h₂ (λx s₃ h₃=>?_) λ_ _ h'=>h'.elim)];erw[aJ (tV (aJ (yc (hV x) (aJ (rk (gJ h₃ (λD6 s₄ h₄=>?_) λ_ _ h'=>h'.elim))))))];erw[aJ (wpAny_runOwn (yd h₄ λr s₅ h₅=>?_))];cases r with |error e=>erw[h₅.elim] |ok f=>erw[cf #[Z,h₅]]
end
def aeR(J:It)(g:TG)(te:TE)(D:Addr)(R:St->Hp->Prop)(O:St)(H:Hp):Prop:=∃W:Nat->Nat->St->Hp->Prop,(∃m,W 0 m O H)/\∀i m σ' H',W i m σ' H'->(J.stop i H'/\R σ' H')\/(J.go i H'/\∀x H2,J.je i H' x H2->g x σ' H2 λσ3 H3=>te σ3 H3 λy H5=>∃ys,H5 D=some (.lst ys)/\ys.length<sizeLine/\∃m',m'<m/\W (i+1) m' σ3 (upd H5 D (.lst (ys++[y]))))
def WJ(J:It)(g:TG)(pN:TI)(g2:TG)(te:TE)(Q:VK)(D:Addr)(O:St)(H:Hp):Prop:=∃W:Nat->Nat->St->Hp->Prop,(∃m,W 0 m O H)/\∀i m σ' H',W i m σ' H'->(J.stop i H'/\Q (.ref D) H')\/(J.go i H'/\∀x H2,J.je i H' x H2->g x σ' H2 λσ3 H3=>pN σ3 H3 λJ2 H4=>aeR J2 g2 te D (λσ5 H5=>∃m',m'<m/\W (i+1) m' σ5 H5) σ3 H4)
def YQ(js:List (Option Nat))(wi:TI)(g:TG)(pN:TI)(g2:TG)(te:TE):TE:=λO H Q=>wi O H λJ H1=>∀D H2,Nw H1 H2 D (.lst [])->WJ J g pN g2 te Q D (stC js O) H2
set_option maxHeartbeats 1000000 in
theorem a2B{X:Cx}{N:List Str}{js:List (Option Nat)}{elt tg iter fE fk:Expr}{scope:Scope}{pos:Pos}{wi:TI}{g:TG}{pN:TI}{g2:TG}{te:TE}(hc:X.calm=true)(hN:Ay X N js scope=true)(hS:tJ X scope=true) (hi:PI X tg iter wi)(hg:∀cl s H fp pins,PG (df X N scope cl s H fp pins) tg g)(Dr:∀cl s H fp pins,PI (df X N scope cl s H fp pins) fE fk pN)(hg2:∀cl s H fp pins,PG (df X N scope cl s H fp pins) fE g2)(he:∀cl s H fp pins,PE (df X N scope cl s H fp pins) elt te) (hs:autoParam (∀x,foldedSetIterable iter X.env x=pure x) d8_._auto_1)(hV:∀env x,foldedSetIterable fk env x=pure x:=by intro _ _;rfl):PE X (.ListComp elt [#[tg,iter,[],0],#[fE,fk,[],0]] scope pos) (YQ js wi g pN g2 te):=by
 intro pins s O H Q I h;have lV:=hS;unfold tJ at lV;rw[fA,fA]at lV;let((k1,k2),k3):=lV;have mF:scope.kind= .function:=fK.mp k1;have sT:∀x∈scope.names,x.2= .free->∃c,X.env.cells.lookup x.1=some c:=λx hx e=>by have:=gc.mp k3 x hx;rw[e]at this;erw[I.ok.has x.1 (.inl (fK.mp this))]
 have p8:∀x∈scope.names,x.2≠ .cell:=λx hx e=>by have:=gc.mp k3 x hx;rw[e]at this;erw[eK this]
 have zW:∀x∈scope.names,x.2= .local->scope.names.lookup x.1=some .local:=λx hx e=>by have:=gc.mp k3 x hx;rw[e]at this;erw[fK.mp this]
 let(cl,A2,c1,c2):=JB sT;rw[eval_ListComp];erw[WN (use:=none) Z hs A2 mF zW (aZ (hi pins s O H _ I h) λv s1 h1=>aZ h1 λzP s2 h2=>?_)];let(it,fp,tn,J,H2,e,I2,T,ow,f2,h2):=h2;subst e;have hD:H2 s2.heap.objs.size=none:=I2.bS.fresh (aV _);let(W,(m0,w0),turn):=h2 _ _ (Nw.of hD);erw[o7 (WM p8 (by intro y hy;simp at hy) (λh₁ sL sI=>?_) mF)];have nL:∀b∈fp,b<s2.heap.objs.size:=λb hb=>by let(o,e,_):=T.obj _ _ ow b hb;erw[cE e]
 have I3:Inv X pins O (upd H2 s2.heap.objs.size (.lst [])) {s2 with heap:=s2.heap.push {cls:=.type "list",dict:=none,data:=.seq ([]:List Value).toArray}}:=I2.CV (its:=[]) (t':=s2.toks) .nil (eX _);generalize sZ:s2.heap.push {cls:=.type "list",dict:=none,data:=.seq ([]:List Value).toArray}=h3 at I3 sL sI;have rS:h3.objs.size=s2.heap.objs.size+1:=by rw[<-sZ,pL]
 have zO:∀b o,s2.heap.get? b=some o->h3.get? b=some o:=λb o e=>by rw[<-sZ];erw[cF _ e]
 have f3:∀b∈fp,jZ X pins (upd H2 s2.heap.objs.size (.lst [])) b:=λb hb=>#[by rw[aY (eY (nL b hb))];exact(f2 b hb).1,(f2 b hb).2];have sF:∀b o,h3.get? b=some o->h₁.get? b=some o:=λb o e=>(sI.2 b (eY (cE e))).trans (cF _ e);have I4:Inv (df X N scope cl {s2 with heap:=h3} (upd H2 s2.heap.objs.size (.lst [])) fp pins) [] (stC js O) (upd H2 s2.heap.objs.size (.lst [])) {s2 with heap:=h₁,toks:=s2.toks+([]:List (Str×Value)).length}:=I3.comp (s:={s2 with heap:=h3}) hN hS c1 c2 f3 (λb hb=>by show b<h3.objs.size;rw[rS];erw[Bh (nL b hb)]) (by simpa using sL) sF;have rX:tn 0 h₁:=T.keep _ _ _ ow λb _ o e=>sF b o (zO b o e);have loop:codeAny (model X.prog X.w) X.A (.compLoop (jU elt tg iter fE fk scope pos) 0 (.ref it) (.ref s2.heap.objs.size) (compEnvC scope cl h3.objs.size X.env)) (compPost (model X.prog X.w) X.A X.xe none (EP X pins O Q) (.ref s2.heap.objs.size) h3.objs.size) {s2 with heap:=h₁,toks:=s2.toks+([]:List (Str×Value)).length}:=by
  erw[abx (λn s'=>∃i σ' H',Inv (df X N scope cl {s2 with heap:=h3} (upd H2 s2.heap.objs.size (.lst [])) fp pins) [] σ' H' s'/\tn i s'.heap/\(∀b∈fp,H' b=none)/\W i n σ' H') (hV _) ?_ m0 #[0,_,_,I4,rX,λb hb=>(f3 b hb).1,w0]];rintro n s5 ⟨i,σ5,H5,I5,mh,pk,w5⟩;have ki:∀{H':Hp},(∀b∈fp,H' b=none)->∀b∈fp,jZ (df X N scope cl {s2 with heap:=h3} (upd H2 s2.heap.objs.size (.lst [])) fp pins) [] H' b:=λ{H'} hn b hb=>by
   let(_,q1,q2,q3,q4,q5):=f3 b hb;erw[hn b hb,λz=>?_,I4.ok.tD b hb,.inl hb,λx c e=>q4 x c (c1 x c e),λp hp=>q5 p (by simpa[df]using hp)];have ck:b<h3.objs.size:=by rw[rS];erw[Bh (nL b hb)]
   erw[eY ck z]
  rcases turn i n σ5 H5 w5 with⟨stop,qn⟩|⟨go,step⟩
  ·erw[aZ (T.done (df X N scope cl {s2 with heap:=h3} (upd H2 s2.heap.objs.size (.lst [])) fp pins) rfl rfl rfl hc i [] s5 σ5 H5 _ I5 (ki pk) mh stop) λr s6 #[hr,I6]=>?_]
   subst hr;let(m,hm,_):=I6.loc;erw[m,hm,λh7 qy=>?_];have u0:Un (fZ X.stack) fp (upd H2 s2.heap.objs.size (.lst [])) H5 h3 s6.heap:=I6.ay;have ne:∀b o,h3.get? b=some o->b≠h3.objs.size:=λb o e=>eY (cE e);have u:Un (fZ X.stack) fp (upd H2 s2.heap.objs.size (.lst [])) H5 h3 h7:=#[λb o e n hb hx=>(qy.2 b (ne b o e)).trans (u0.keep b o e n hb hx),λb o e n hb hx=>let#[sl,q]:=u0.slot b o e n hb hx;#[sl,(qy.2 b (ne b o e)).trans q],u0.free,λb o e hx=>let#[o',q]:=u0.there b o e hx;#[o',(qy.2 b (ne b o e)).trans q],u0.lI,u0.kX,u0.lJ];have I7:Inv X pins O H5 {s6 with heap:=h7}:=I3.JG (s':={s6 with heap:=h7}) (ch:=fp) I6.os u (I6.bS.but I6.free qy) I6.bare λb hb=>#[(f3 b hb).2.2.2.1,(f3 b hb).2.1,(f3 b hb).2.2.2.2.1,(f3 b hb).2.2.2.2.2];erw[.ref s2.heap.objs.size,H5,I7,Z,qn]
  ·erw[aZ (T.item (df X N scope cl {s2 with heap:=h3} (upd H2 s2.heap.objs.size (.lst [])) fp pins) rfl rfl rfl hc i [] s5 σ5 H5 _ I5 (ki pk) mh go) λr s6 #[u,hr,h6]=>?_]
   subst hr;erw[aZ h6 λ_ s7 #[x,H7,I7,r7,y7,lK,Ab]=>?_];have AW:=I7.pinned (ki Ab) (T.obj _ _ lK);erw[aZ (hg _ _ _ _ _ _ s7 σ5 H7 x u _ AW r7 (step x H7 y7)) λ_ s8 #[σ8,H8,I8,q8]=>?_];have again:∀{s':af}{σ7:St}{H7:Hp},Inv (df X N scope cl {s2 with heap:=h3} (upd H2 s2.heap.objs.size (.lst [])) fp pins) ([]++qc fp s7.heap) σ7 H7 s'->(∃m',m'<n/\W (i+1) m' σ7 H7)->∃m,m<n/\∃i σ' H',Inv (df X N scope cl {s2 with heap:=h3} (upd H2 s2.heap.objs.size (.lst [])) fp pins) [] σ' H' s'/\tn i s'.heap/\(∀b∈fp,H' b=none)/\W i m σ' H':=λ{s' σ7 H7} J7 n7=>by let(m',hm,w7):=n7;erw[m',hm,i+1,σ7,H7,J7.ui,T.keep _ _ _ lK λb hb o e=>(J7.pin (b,o) (gS _ (gS _ (oO hb e)))).1,λb hb=>?_,w7];let(o,e,d):=T.obj _ _ lK b hb;exact(J7.pin (b,o) (gS _ (gS _ (oO hb e)))).2.1
   erw[aZ (Dr _ _ _ _ _ _ s8 σ8 H8 _ I8 q8) λv9 s9 h9=>aZ h9 λag2 uu qF=>?_];let(D6,IU,Yi,J2,o6,e2,AX,T2,LB,xE,V,(k0,v0),Yd):=qF;subst e2;have EY:∀{H':Hp},(∀b∈IU,H' b=none)->∀b∈IU,jZ (df X N scope cl {s2 with heap:=h3} (upd H2 s2.heap.objs.size (.lst [])) fp pins) ([]++qc fp s7.heap) H' b:=λ{H'} hn b hb=>#[hn b hb,(xE b hb).2];have SR:codeAny (model X.prog X.w) X.A (.compLoop (jU elt tg iter fE fk scope pos) 1 (.ref D6) (.ref s2.heap.objs.size) (compEnvC scope cl h3.objs.size X.env)) (λr s₅=>match r with| .ok _=>∃m,m<n/\∃i σ' H',Inv (df X N scope cl {s2 with heap:=h3} (upd H2 s2.heap.objs.size (.lst [])) fp pins) [] σ' H' s₅/\tn i s₅.heap/\(∀b∈fp,H' b=none)/\W i m σ' H'| .error _=>False) uu:=by
    erw[abw (λk s'=>∃i σ' H',Inv (df X N scope cl {s2 with heap:=h3} (upd H2 s2.heap.objs.size (.lst [])) fp pins) ([]++qc fp s7.heap) σ' H' s'/\Yi i s'.heap/\(∀b∈IU,H' b=none)/\V i k σ' H') ?_ k0 #[0,_,_,AX,LB,λb hb=>(xE b hb).1,v0]];rintro k oB ⟨i2,Bv,jc,y8,LA,UN,v11⟩;rcases Yd i2 k Bv jc v11 with⟨Z7,q2⟩|⟨go2,Za⟩
    ·erw[aZ (T2.done (df X N scope cl {s2 with heap:=h3} (upd H2 s2.heap.objs.size (.lst [])) fp pins) rfl rfl rfl hc i2 _ oB Bv jc _ y8 (EY UN) LA Z7) λr fM #[hr,I12]=>?_]
     subst hr;erw[again I12 q2]
    ·erw[aZ (T2.item (df X N scope cl {s2 with heap:=h3} (upd H2 s2.heap.objs.size (.lst [])) fp pins) rfl rfl rfl hc i2 _ oB Bv jc _ y8 (EY UN) LA go2) λr fM #[u2,hr,vm]=>?_]
     subst hr;erw[aZ vm λ_ gm #[x2,AZ,I13,r13,XB,EZ,a93]=>?_];have aff:=I13.pinned (EY a93) (T2.obj _ _ EZ);erw[aZ (hg2 _ _ _ _ _ _ gm Bv AZ x2 u2 _ aff r13 (Za x2 AZ XB)) λ_ fL #[Bu,AY,I14,q14]=>?_];erw[aZ (he _ _ _ _ _ _ fL Bu AY _ I14 q14) λyv mV #[y,H15,I15,r15,ys,xu,hz,XR]=>?_];erw[aZ (CH _ mV Bu H15 (.ref s2.heap.objs.size) [y] (.ref s2.heap.objs.size) [yv] (λ_ K8=>∃m',m'<k/\V (i2+1) m' Bu K8) I15 Z (.cons r15 .nil) #[_,ys,y,Z,Z,xu,hz,XR]) λ_ pU #[v16,K8,K7,r16,q16]=>?_];let(m',hm,XQ):=q16;erw[m',hm,i2+1,Bu,K8,K7.ui,T2.keep _ _ _ EZ λb hb o e=>(K7.pin (b,o) (gS _ (gS _ (oO hb e)))).1,λb hb=>?_,XQ];let(o,e,d):=T2.obj _ _ EZ b hb;exact(K7.pin (b,o) (gS _ (gS _ (oO hb e)))).2.1
   erw[abv SR (T2.self _ 0 _ _ _ LB SR)]
 erw[WR loop (T.self _ 0 _ _ _ rX loop)]
section
variable {K:aa}
theorem a1g(n q:Nat):((List.range n).map λ_=>q).sum=n*q:=by induction n with |zero=>simp |succ n ih=>rw[Kt,fT,List.sum_append,Nat.add_mul,Nat.one_mul,ih];simp
theorem abr{a1 a2:Addr}{xs ys:List V}{b:Nat->Nat->Bool}{pN:TI}{te:TE}{Q:VK}{D:Addr}{H H0:Hp}(rest:St)(hx:aD K H a1 xs)(hy:aD K H a2 ys)(nw:Nw H H0 D (.lst []))(hz:xs.length*ys.length<=1000) (hw:∀x v H3 R,aF H H3->R (tT K a2) H3->pN (some x::v::rest) H3 R) (hs:∀i j x y H2 Q',xs[i]? =some x->ys[j]? =some y->aF H H2->(∀H3,aF H2 H3->Q' (.bl (b i j)) H3)->te (some x::some y::rest) H2 Q') (hq:∀H',aF H H'->H' D=some (.lst ((((List.range xs.length).flatMap λi=>(List.range ys.length).map λj=>b i j)).map V.bl))->Q (.ref D) H'):WJ (tT K a1) (gs 0) pN (gs 1) te Q D (none::none::rest) H0:=by
 have hD:=nw.no;have line:(1000:Nat)<sizeLine:=by decide
 erw[λi m O H2=>m=xs.length-i/\i<=xs.length/\aF H H2/\H2 D=some (.lst ((((List.range i).flatMap λi=>(List.range ys.length).map λj=>b i j)).map V.bl))/\∃v v',O=v::v'::rest,#[_,Z,eX _,nw.same,nw.at',none,none,Z],?_];rintro i m O H2 ⟨rfl,hi,s2,d2,v,v',rfl⟩;by_cases ck:i<xs.length
 ·erw[.inr #[#[xs,xs[i],hx.go s2,by simp[ck]],λx H3 yl=>?_]]
  let(e,yl):=yl;subst e;have ex:=yl xs (hx.go s2);erw[hw x v' _ _ s2 ?_];erw[λj k O H4=>k=ys.length-j/\j<=ys.length/\aF H H4/\H4 D=some (.lst ((((List.range i).flatMap λi=>(List.range ys.length).map λj=>b i j)++(List.range j).map (b i)).map V.bl))/\∃v',O=some x::v'::rest,#[_,Z,eX _,s2,by simpa using d2,v',Z],?_];rintro j k O H4 ⟨rfl,hj,s4,d4,v',rfl⟩;by_cases Ug:j<ys.length
  ·erw[.inr #[#[ys,ys[j],hy.go s4,by simp[Ug]],λy H5 yl=>?_]]
   let(e,yl):=yl;subst e;have ey:=yl ys (hy.go s4);erw[hs i j x y _ _ ex ey s4 λH6 s6=>?_];have d6:=s6 _ _ d4;erw[_,d6,?_,ys.length-(j+1),aL,Z,aL,λq o e=>?_,?_,_,Z]
   ·have hl:(((List.range i).flatMap λi=>(List.range ys.length).map λj=>b i j)).length=i*ys.length:=by rw[List.length_flatMap];simp only[aW,iy];erw[a1g _ _]
    have h1:i*ys.length+j<xs.length*ys.length:=by have h2:(i+1)*ys.length<=xs.length*ys.length:=Kq _ ck;rw[Nat.add_mul,Nat.one_mul]at h2;omega
    rw[aW,cv,hl,aW,iy];omega
   ·rw[aY (eM e hD)];erw[s6 _ _ (s4 _ _ e)]
   ·rw[bZ,Kt,fT,fT,fT,fT,yn];rfl
  ·have e:j=ys.length:=by omega
   subst e;erw[.inl #[#[ys,hy.go s4,aV _],xs.length-(i+1),aL,Z,aL,s4,?_,_,_,Z]];rw[Kt,List.flatMap_append];simpa using d4
 ·have e:i=xs.length:=by omega
  subst e;erw[.inl #[#[xs,hx.go s2,aV _],hq H2 s2 d2]]
theorem acf{n m:Nat}{b:Nat->Nat->Bool}:(((List.range n).flatMap λi=>(List.range m).map λj=>b i j)).any id=(List.range n).any λi=>(List.range m).any λj=>b i j:=by rw[List.any_flatMap];congr 1;funext i;rw[List.any_map];rfl
end
end _L
namespace _P
section
variable {n:Nat}{own:Nat->Rat}{L:Nat->Option Nat}{r f:Int}
end
end _P
namespace _O
open _P _l _C
end _O
namespace _P
section
variable {n:Nat}{own zo:Nat->Rat}{L L':Nat->Option Nat}{r f:Int}
end
section
variable {n:Nat}{own zo q:Nat->Rat}{L:Nat->Option Nat}{r f r' f':Int}
theorem Sx(h1:a'<=a)(h2:b'<=b):mn a' b'<=mn a b:=gE (cL (eZ _ _) h1) (cL (gN _ _) h2)
end
end _P
namespace _O
open _P _l _C
theorem LC{a b:Int}(h0:0<=a)(h:a<=b):a^2<=b^2:=by rw[fU,fU,m9,lG,fU,fU,m9,lG];erw[wk h h h0 ao]
theorem BN(h0:0<=pT)(h1:pT<=sp)(h2:0<=pY)(h3:pY<=rate):topR pY pT<=topR rate sp:=by unfold topR;rw[DI aw];erw[LC (gT h0 h2) (wk h1 h3 h2 ao)]
theorem abm(h0:0<=j)(h:j<=j')(a b:Rat)(Uq:a<=b):mnO a (cornO j ns ms)<=mnO b (cornO j' ns ms):=by
 unfold cornO;by_cases hz:aE (g6 ns ms)=0
 ·rw[ba hz,ba hz];erw[Uq]
 ·rw[bc hz,bc hz]
  erw[Sx Uq ?_];have hp:(0:Int)<(aE (g6 ns ms):Int)^2:=by rw[fU,fU,m9,lG];erw[jd ao ao]
  rw[DI hp];erw[LC (gT (gT h0 ao) ao) ?_];erw[Bp (Bp h ao) ao]
theorem ac1(h0:0<=j)(h:j<=j')(r0:0<=rate)(hr:rate<=pY)(ho:OkI o)(hp:OkI p):betR j rate o p<=betR j' pY o p:=by cases o with |none=>rw[AB,AB];erw[iE] |some q=>cases p with |none=>rw[vL,vL];erw[iE] |some q'=>let(ns,sp):=q;let(ms,sq):=q';let(_,a,_):=ho ns sp rfl;let(_,b,_):=hp ms sq rfl;erw[abm h0 h _ _ (Sx (BN ao (dc _) r0 hr) (BN ao (dc _) r0 hr))]
theorem a2Z{j j' rate pY:Int}{os:List Itm}(h0:0<=j)(h:j<=j')(r0:0<=rate)(hr:rate<=pY)(ok:OkIs os):∀i,ownF j rate os i<=ownF j' pY os i |0=>iE |i+1=>ac1 h0 h r0 hr (ok i) (ok (i+1))
end _O
namespace _P
section
variable {n:Nat}{own zo:Nat->Rat}{L L':Nat->Option Nat}{r f:Int}{c:Nat}
end
end _P
namespace _O
open _P
section
variable (j rate:Int)(os1 os2:List Itm)
end
end _O
namespace _P
section
variable {n:Nat}{own:Nat->Rat}{L:Nat->Option Nat}{r f:Int}
theorem IW(hi:i<=n):fl n L f g i<=g i:=by
 rcases Kr i n with h|h
 ·cases e:L i with |none=>rw[qH h e];erw[iE] |some m=>rw[nM h e];erw[eZ _ _]
 ·have:i=n:=by lia
  subst this;rw[qI];erw[iE]
theorem acD(hr:0<=r)(hf:0<=f):∀i,i<=n->Rz (fl n L f own) L r i=gf n own L r f i:=by
 erw[a2h hr hf #[λi hi=>cL (DY i) (IW hi),λi m hi h=>?_,λi m hi h=>?_] ?_]
 ·rw[o5 h];erw[gN _ _]
 ·rw[o5 h]
  rcases sE (fl n L f own (i+1)) (Rz (fl n L f own) L r i+((r*(m:Int):Int):Rat))with e|e
  ·rw[e]
   erw[cL (DY i) ?_];rw[nM hi h];erw[gN _ _]
  ·rw[e]
   erw[uX (uX iE (xn hr)) (xn hf)]
 ·intro q' k
  have h1:∀i,i<=n->q' i<=fl n L f own i:=by
   erw[down ?_ ?_]
   ·rw[qI];erw[k.own n (aV _)]
   ·intro i hi ih
    cases e:L i with |none=>rw[qH hi e];erw[k.own i ao] |some m=>rw[nM hi e];erw[gE (k.own i ao) (cL (k.IZ i m hi e) (add_r ih))]
  intro i;induction i with |zero=>erw[λhi=>h1 0 hi] |succ i ih=>intro hi;cases e:L i with |none=>rw[xY e];erw[h1 _ hi] |some m=>rw[o5 e];erw[gE (h1 _ hi) (cL (k.rise i m ao e) (add_r (ih ao)))]
end
end _P
namespace _R
open _P _b _l
open _O (topR ownF leadF Itm OkIs)
theorem DK{n:Nat}(hb:b≠0)(h2:b.natAbs<2^n):(Rat.divInt a b).den<2^n:=by obtain⟨-,e⟩:=Hn (a:=a) hb;have l2:=_A.SQ (p:=a) hb;omega
structure Dd(D:Nat)(q:Rat):Prop where
 nn:0<=q
 den:q.den<2^D
theorem Dd.mono{D:Nat}(h:Dd D q)(l:D<=E):Dd E q:=#[h.nn,gK h.den (tY aw l)]
theorem Dd.bd{D:Nat}(h:Dd D q)(hl:q<=2000):Bd (D+11) q:=by
 have h1:=Rat.num_nonneg.mpr h.nn;have Du:¬((2000:Rat)<q):=Ej.mpr hl;rw[Rat.lt_iff]at Du;have e1:(2000:Rat).num=2000:=rfl;have e2:(2000:Rat).den=1:=rfl;rw[e1,e2]at Du;have h2:q.num<=2000*(q.den:Int):=by lia
 erw[?_,gK h.den (tY aw ao)];have h3:=h.den;have h4:q.num.natAbs<=2000*q.den:=by lia
 have h5:(2:Nat)^(D+11)=2^D*2048:=by rw[Nat.pow_add]
 rw[h5];have h6:2000*q.den<2000*2^D:=Nat.mul_lt_mul_of_pos_left h3 aw
 lia
theorem Dd.mn{D:Nat}(h1:Dd D a)(h2:Dd D b):Dd D (mn a b):=by rcases sE a b with e|e<;>rw[e]<;>assumption
theorem Dd.add{D:Nat}(h:Dd D q){z:Int}(hz:0<=z):Dd D (q+(z:Rat)):=by
 erw[uX h.nn (by have:=Ba.mpr hz;erw[this]),?_];rw[add_div,Rat.num_intCast,Rat.den_intCast];have e:(q.den:Int)*((1:Nat):Int)=(q.den:Int):=by lia
 rw[e];have hd:=q.den_pos;erw[DK ao (by have:=h.den;lia)]
theorem Vt(ha:0<=a)(hb:0<b):0<=Rat.divInt a b:=(ye hb).mpr ha
theorem div_pos(ha:0<a)(hb:0<b):0<Rat.divInt a b:=by
 have h0:=Vt (Ez ha) hb;erw[Kg h0 λe=>?_];have h2:0<=Rat.divInt (-a) b:=by rw[<-Rat.neg_divInt,<-e];decide
 have:=(ye hb).mp h2
 lia
theorem Dd.mul{D:Nat}(h:Dd D q){a s:Int}(ha:0<=a)(hs:0<s)(hm:s.natAbs<2^m):Dd (D+m) (q*Rat.divInt a s):=by erw[Rat.mul_nonneg h.nn (Vt ha hs),?_];have h1:(Rat.divInt a s).den<2^m:=DK ao hm;rw[mul_div];have hd:=q.den_pos;have hd2:=(Rat.divInt a s).den_pos;erw[DK (Ao _ _) ?_];rw[iH];erw[sD (by have:=h.den;lia) ao]
theorem EI(rate sp:Int):Dd 14 (topR rate sp):=#[_O.rK _ _,DK aw aw]
theorem BM(h1:1<=sp)(h2:sp<=20)(h3:10<=rate)(h4:rate<=200):topR rate sp<=1600:=by
 have e:(1600:Rat)=Rat.divInt 16000000 10000:=by decide+kernel
 rw[e];refine(_C.DI aw).mpr ?_;have hp:sp*rate<=20*200:=wk h2 h4 ao ao;have Dm:0<=sp*rate:=gT ao ao;rw[fU,fU,m9,lG];have:=wk hp hp Dm aw
 lia
theorem a2W(h1:1<=j)(h2:j<=50)(h3:10<=rate)(h4:rate<=200)(ho:OkIs os)(i:Nat):Dd 64 (ownF j rate os i):=#[_O.zk _ _ _ _,(_O.zm h1 h2 h3 h4 ho i).den]
theorem a99{D n:Nat}(hf:0<=f)(h:∀i,i<=n->Dd D (g i)):∀i,i<=n->Dd D (fl n L f g i):=by
 erw[down ?_ ?_]
 ·rw[qI];erw[h n (aV _)]
 ·intro i hi ih
  cases e:L i with |none=>rw[qH hi e];erw[h i ao] |some m=>rw[nM hi e];exact(h i ao).mn (ih.add (gT hf ao))
theorem abZ(h3:10<=rate)(h4:rate<=200)(ho:_O.OkI o):_O.betR j rate o p<=1600:=by cases o with |none=>rw[_O.AB];decide+kernel |some q=>cases p with |none=>rw[_O.vL];decide+kernel |some q'=>let(ns,sp):=q;let(ms,sq):=q';obtain⟨-,a1,a2⟩:=ho ns sp rfl;have ht:=BM a1 a2 h3 h4;show _O.mnO (mn (topR rate sp) (topR rate sq)) (_O.cornO j ns ms)<=1600;cases _O.cornO j ns ms with |none=>erw[cL (eZ _ _) ht] |some c=>erw[cL (eZ _ _) (cL (eZ _ _) ht)]
theorem a2U{j rate:Int}{os:List Itm}(h3:10<=rate)(h4:rate<=200)(ho:OkIs os):∀i,ownF j rate os i<=1600 |0=>by show(0:Rat)<=1600;decide+kernel |i+1=>abZ h3 h4 (ho i)
abbrev pH:=Option (Rat × Int × Int)
def oK(r f:Int)(pc top R:Rat)(left:Int):pH->Rat |none=>mn (mn (pc+(r:Rat)) top) (R+((f*(2*left-1):Int):Rat)) |some (sq,st,gn)=>mn (mn (mn (pc+(r:Rat)) top) (R+((f*(2*left-1):Int):Rat))) (sq*Rat.divInt (2*(st-gn-1)+1) (2*st))
def uO(r f:Int)(pc top R:Rat)(left:Int):pH->Rat |none=>mn (mn (pc+((2*r:Int):Rat)) top) (R+((2*f*(left-1):Int):Rat)) |some (sq,st,gn)=>mn (mn (mn (pc+((2*r:Int):Rat)) top) (R+((2*f*(left-1):Int):Rat))) (sq*Rat.divInt (st-gn-1) st)
def GN:pH->pH |none=>none |some (sq,st,gn)=>some (sq,st,gn+1)
def tN(D:Nat)(pc:Rat):pH->Prop |none=>True |some (sq,st,gn)=>0<=gn/\gn<=st/\st<=1000/\Dd D sq/\sq<=2000/\(st=0->pc=0)/\pc*(st:Rat)<=sq*((st-gn:Int):Rat)
def Halt(pc:Rat)(bG:pH):Prop:=bG≠none/\pc=0
theorem zB{D:Nat}{pc:Rat}(h:tN D pc (some (sq,st,gn)))(hp:0<=pc)(hn:¬Halt pc (some (sq,st,gn))):gn<st/\0<sq/\0<pc:=by
 let(g0,g1,g2,hd,hl,hz,hh):=h;have zV:0<pc:=Kg hp λe=>hn #[by simp,e.symm];have nu:gn<st:=by
  rcases Int.lt_or_le gn st with h|h
  ·erw[h]
  ·have e:st-gn=0:=by lia
   rw[e]at hh;have e0:sq*((0:Int):Rat)=0:=Rat.mul_zero sq;rw[e0]at hh;exfalso;rcases Int.lt_or_le 0 st with h3|h3
   ·have h4:(0:Rat)<(st:Rat):=Kj.mpr h3
    have h5:=Rat.mul_pos zV h4;erw[absurd (Std.lt_of_lt_of_le h5 hh) (Rat.lt_irrefl)]
   ·rw[hz ao]at zV;erw[absurd zV (Rat.lt_irrefl)]
 erw[nu,?_,zV];erw[Kg hd.nn λe=>?_];rw[<-e,Rat.zero_mul]at hh;have h4:(0:Rat)<(st:Rat):=Kj.mpr (show(0:Int)<st by lia);erw[absurd (Std.lt_of_lt_of_le (Rat.mul_pos zV h4) hh) (Rat.lt_irrefl)]
section
variable {D:Nat}{r f:Int}{pc top R:Rat}{left:Int}{bG:pH}
theorem aaM:uO r f pc top R left bG<=top:=by cases bG with |none=>erw[cL (eZ _ _) (gN _ _)] |some q=>let(sq,st,gn):=q;erw[cL (eZ _ _) (cL (eZ _ _) (gN _ _))]
theorem SA:oK r f pc top R left bG<=top:=by cases bG with |none=>erw[cL (eZ _ _) (gN _ _)] |some q=>let(sq,st,gn):=q;erw[cL (eZ _ _) (cL (eZ _ _) (gN _ _))]
theorem aaN(hr:0<=r)(hf:0<=f)(hl:1<=left)(hp:Dd (D+10) pc)(ht:Dd (D+10) top)(hR:Dd (D+10) R)(hs:tN D pc bG)(hn:¬Halt pc bG):Dd (D+10) (uO r f pc top R left bG):=by have h1:=(hp.add (z:=2*r) ao).mn ht;have h2:=hR.add (z:=2*f*(left-1)) (gT ao ao);cases bG with |none=>erw[h1.mn h2] |some q=>let(sq,st,gn):=q;let(a,b,c):=zB hs hp.nn hn;let(g0,g1,g2,hd,hl,hz,hh):=hs;exact(h1.mn h2).mn (hd.mul (m:=10) ao ao ao)
theorem SE(hr:0<=r)(hf:0<=f)(hl:1<=left)(hp:Dd (D+10) pc)(ht:Dd (D+10) top)(hR:Dd (D+10) R)(hs:tN D pc bG)(hn:¬Halt pc bG):Dd (D+11) (oK r f pc top R left bG):=by have h1:=((hp.add (z:=r) ao).mn ht).mono (show D+10<=D+11 by lia);have h2:=(hR.add (z:=f*(2*left-1)) (gT ao ao)).mono (show D+10<=D+11 by lia);cases bG with |none=>erw[h1.mn h2] |some q=>let(sq,st,gn):=q;let(a,b,c):=zB hs hp.nn hn;let(g0,g1,g2,hd,hl,hz,hh):=hs;exact(h1.mn h2).mn (hd.mul (m:=11) ao ao ao)
theorem add_pos{x:Rat}{z:Int}(hx:0<=x)(hz:0<z):0<x+(z:Rat):=by have h1:((0:Int):Rat)<(z:Rat):=Kj.mpr hz;have h2:x+((0:Int):Rat)<x+(z:Rat):=Rat.add_lt_add_left.mpr h1;rw[show((0:Int):Rat)=0 from Z,Bc]at h2;erw[Std.lt_of_le_of_lt hx h2]
theorem Hc(ha:0<a)(hb:0<b):0<mn a b:=by rcases sE a b with e|e<;>rw[e]<;>assumption
theorem SD(hr:1<=r)(hf:1<=f)(hl:1<=left)(hp:0<=pc)(ht:0<top)(hR:0<=R)(hs:tN D pc bG)(hn:¬Halt pc bG):0<oK r f pc top R left bG:=by have h1:=Hc (Hc (add_pos hp (show 0<r by lia)) ht) (add_pos hR (show 0<f*(2*left-1)from jd ao ao));cases bG with |none=>erw[h1] |some q=>let(sq,st,gn):=q;let(a,b,c):=zB hs hp hn;let(g0,g1,g2,hd,hl,hz,hh):=hs;erw[Hc h1 (Rat.mul_pos b (div_pos ao ao))]
theorem Vs(a:Int):Rat.divInt a 1=(a:Rat):=by
 conv=>rhs;rw[<-vZ (a:Rat)]
 rfl
theorem ab8(hs:0<s):Rat.divInt a s*(s:Rat)=(a:Rat):=by
 have e:(s:Rat)=Rat.divInt s 1:=by rw[Vs]
 rw[e,WT _ _,ua,Bq a s];have e2:Rat.divInt (s*a) s=Rat.divInt (s*a) (s*1):=by rw[ua]
 rw[e2,Rat.divInt_mul_left ao,Vs]
theorem Z5(hs:tN D pc bG)(hp:0<=pc)(hn:¬Halt pc bG):tN D (uO r f pc top R left bG) (GN bG):=by cases bG with |none=>trivial |some q=>
 let(sq,st,gn):=q;let(a,b,c):=zB hs hp hn;let(g0,g1,g2,hd,hl,hz,hh):=hs;erw[ao,ao,g2,hd,hl,λe=>by lia,?_];have h1:uO r f pc top R left (some (sq,st,gn))<=sq*Rat.divInt (st-gn-1) st:=gN _ _;have h2:(0:Rat)<=(st:Rat):=Kh.mpr ao;have h3:=Rat.mul_le_mul_of_nonneg_right h1 h2;have h4:sq*Rat.divInt (st-gn-1) st*(st:Rat)=sq*((st-(gn+1):Int):Rat):=by
  rw[Rat.mul_assoc,ab8 ao];congr 2
  lia
 rw[h4]at h3;erw[h3]
end
end _R
namespace _R
open _P _b _l
section
variable {b top R A A' F F' r f p:Rat}
theorem a2N(hr:0<=r)(hf:0<=f)(hA:A'=A+2*r)(hF:F=F'+2*f)(hp:p=mn (mn (b+A) top) (R+F)):mn (mn (p+2*r) top) (R+F')=mn (mn (b+A') top) (R+F'):=by subst hp hA hF;unfold mn;grind
theorem a2P(hr:0<=r)(hf:0<=f)(hB:B=A+r)(hG:F=G+f)(hp:p=mn (mn (b+A) top) (R+F)):mn (mn (p+r) top) (R+G)=mn (mn (b+B) top) (R+G):=by subst hp hB hG;unfold mn;grind
theorem Yr(he:e=mn R (b+T))(hB:B<=T)(hG:0<=G):mn (mn (b+B) top) (e+G)=mn (mn (b+B) top) (R+G):=by subst he;unfold mn;grind
theorem a2R(he:e=mn R (b+T))(ht:R<=top):mn (mn (b+T) top) (R+0)=e:=by subst he;unfold mn;grind
theorem a2M(h1:b<=top)(h2:b<=R+F):b=mn (mn (b+0) top) (R+F):=by unfold mn;grind
end
open _O (Itm atO betR ownF leadF topR)
theorem a98(hg:∀k,1<=k->k<=m->g' k=g (i+k))(hL:∀k,k<m->L' k=L (i+k)):∀k,k<=m->1<=k->fl m L' f g' k=fl (i+m) L f g (i+k):=by
 erw[down ?_ ?_]
 ·intro h;rw[qI,qI];erw[hg m h (aV _)]
 ·intro k hk ih h
  have e:=ih aL;cases hl:L (i+k)with |none=>rw[qH hk (by rw[hL k hk];erw[hl]),qH aL hl];erw[hg k h aL] |some c=>rw[nM hk (by rw[hL k hk];erw[hl]),nM aL hl,e,hg k h aL];rfl
theorem JQ(os:List Itm)(i k:Nat):atO (os.drop i) k=atO os (i+k):=by unfold atO;rw[Xf]
theorem a2V(j rate:Int)(os:List Itm)(i k:Nat):ownF j rate (os.drop i) (k+1)=ownF j rate os (i+k+1):=by show betR j rate (atO (os.drop i) k) (atO (os.drop i) (k+1))=betR j rate (atO os (i+k)) (atO os (i+k+1));rw[JQ,JQ];rfl
theorem a68(os:List Itm)(i k:Nat):leadF (os.drop i) k=leadF os (i+k):=by unfold leadF;rw[JQ]
theorem a1J(h:i<os.length):fl (os.drop i).length (leadF (os.drop i)) f (ownF j rate (os.drop i)) 1=fl os.length (leadF os) f (ownF j rate os) (i+1):=by have hl:(os.drop i).length=os.length-i:=Bm;have e:=a98 (m:=os.length-i) (i:=i) (g:=ownF j rate os) (g':=ownF j rate (os.drop i)) (L:=leadF os) (L':=leadF (os.drop i)) (f:=f) (λk h1 h2=>by obtain⟨k',rfl⟩:∃k',k=k'+1:=#[k-1,aL];erw[a2V j rate os i k']) (λk _=>a68 os i k) 1 aL (aV _);rw[hl,e,show i+(os.length-i)=os.length by omega]
theorem QZ{j rate:Int}{os:List Itm}{i:Nat}{ns:List Int}{sp:Int}(h:os[i]? =some (some (ns,sp))):ownF j rate os (i+1)<=topR rate sp:=by show betR j rate (atO os i) (atO os (i+1))<=_;rw[_O.nU h];cases atO os (i+1)with |none=>rw[_O.vL];erw[_O.rK _ _] |some q=>let(ms,sq):=q;show _O.mnO (mn (topR rate sp) (topR rate sq)) (_O.cornO j ns ms)<=_;cases _O.cornO j ns ms with |none=>erw[eZ _ _] |some c=>erw[cL (eZ _ _) (eZ _ _)]
theorem QY{j rate:Int}{os:List Itm}{i:Nat}{ns:List Int}{sp:Int}(h:os[i]? =some (some (ns,sp))):ownF j rate os i<=topR rate sp:=by cases i with |zero=>erw[_O.rK _ _] |succ i=>show betR j rate (atO os i) (atO os (i+1))<=_;rw[_O.nU h];cases atO os i with |none=>rw[_O.AB];erw[_O.rK _ _] |some q=>let(ms,sq):=q;show _O.mnO (mn (topR rate sq) (topR rate sp)) (_O.cornO j ms ns)<=_;cases _O.cornO j ms ns with |none=>erw[gN _ _] |some c=>erw[cL (eZ _ _) (gN _ _)]
theorem a2T{j rate:Int}{os:List Itm}{i:Nat}(h:os[i]? =some none):ownF j rate os i=0/\ownF j rate os (i+1)=0:=by
 erw[?_,?_]
 ·cases i with |zero=>rfl |succ i=>show betR j rate (atO os i) (atO os (i+1))=0;rw[_O.nU h,_O.vL]
 ·show betR j rate (atO os i) (atO os (i+1))=0
  rw[_O.nU h,_O.AB]
end _R
namespace _L
open PySem PySem.Spec PyProof.Rows
section
variable {X:Cx}
end
theorem IJ{K:aa}{mg:cm}{t:Tok}(X:K.In h)(G:h.Ns mainGlobals mg)(a:PySem.W.nsIn K mainGlobals x=some (some (.str z t))):GV mg x (.str z):=#[_,Be X G a,t,Z]
theorem abb(f:Array Value->Array Value)(o:Obj):(o.mapFields f).dict=o.dict:=by let(c,d,dt,sl):=o;cases dt<;>rfl
def TrD(h B:Heap)(ex:Addr)(cls:Value)(dx:Option Addr)(fl:Value):Prop:=∃ob fs tb ot ts,h.get? ex=some ob/\ob.cls=cls/\ob.dict=dx/\ob.data= .fields fs/\fs[1]? =some (.ref tb)/\B.get? tb=none/\tb≠ex/\h.get? tb=some ot/\ot.data= .fields ts/\ts[3]? =some fl/\fs[2]? =some .none
def qZ(B:Heap)(l:List Env)(ex:Addr)(cls:Value)(dx:Option Addr)(fl:Value)(h:Heap):Prop:=B.StaysIn h/\B.get? ex=none/\h.FunFrames B l/\TrD h B ex cls dx fl
section
variable {M:Model}{A:ai}{E:Value->af->Prop}{s:af}{B:Heap}{env:Env}{outer:List Env}{L ex:Addr}{ob:Obj}{fs:Array Value}{head:Value}{nx:Bool}{Q:Unit->af->Prop}{cls fl:Value}{dx:Option Addr}
theorem aaK(hA:A.frames=some (env::outer))(ff:s.heap.FunFrames B (env::outer))(hL:env.frame=some L)(ho:s.heap.get? ex=some ob)(st:B.StaysIn s.heap)(hB:B.get? ex=none)(hd:ob.data= .fields fs)(hz:1<fs.size)(jQ:fs[2]? =some .none) (q:∀h',qZ B (env::outer) ex ob.cls ob.dict (rawInt L) h'->s.heap.UpToSlots h'->Q () {s with heap:=h'}): wpAny M A (do let a<-frameOf env;let pl<-entryPlaceOf L nx;let b<-EntryCells.newEntry head a .none (rawInt L) .none pl;setField (.ref ex) 1 b) Q E s:=by
 have zF:ex∉(env::outer).filterMap (·.frame):=λhm=>by let(_,o,e1,nf):=ff.mem hm;rw[ho]at e1;cases e1;erw[nf fs hd]
 erw[aJ (wpAny_frameOf_fun hA ff hL λg1 k1=>aJ (wpAny_entryPlaceOf λpl hp=>?_))];unfold EntryCells.newEntry newFields;erw[aJ (o7 ?_ (hp.sizeOk5 _ _ _ _ _))];have o1:g1.get? ex=some ob:=(k1.2.1 ex zF).trans ho;have F0:B.StaysIn g1:=λb o e=>(k1.2.1 b λhm=>by rw[(ff.mem hm).1]at e;cases e).trans (st b o e);generalize hT:({cls:=.type "traceback",dict:=none,data:=.fields ([head,.ref L,.none,rawInt L,.none]++(if pl.isEmpty then List.replicate 6 Value.none else pl)).toArray}:Obj)=T;have o2:(g1.push T).get? ex=some ob:=cF T o1;erw[Ec o2 hd hz (q _ ?_ ?_)];all_goals have ne:g1.objs.size≠ex:=yh (cE o1)
 all_goals have keep:∀b o,b≠ex->g1.get? b=some o->((g1.push T).update ex (Obj.mapFields (·.setIfInBounds 1 (Value.ref g1.objs.size)))).get? b=some o:=λb o nb e=>by rw[Br _ _ (kG nb)];erw[cF _ e]
 all_goals have sA:∀b o,s.heap.get? b=some o->(∀vs,o.data≠ .fields vs)->b≠ex:=λb o e nf z=>by rw[z,ho]at e;cases e;erw[nf fs hd]
 ·have d3:=Em hd (·.setIfInBounds 1 (Value.ref g1.objs.size))
  have o3:=KH (Obj.mapFields (·.setIfInBounds 1 (Value.ref g1.objs.size))) o2 (X4 d3);erw[λb o e=>keep b o (λz=>by rw[z,hB]at e;cases e) (F0 b o e),hB,ff.of_keeps λb o e nf=>?_,?_]
  ·let(sl,e1):=k1.2.2 b o e
   erw[_,keep b _ (sA b o e nf) e1,Z]
  ·erw[_,_,g1.objs.size,T,_,o3,Obj.cls_mapFields _ _,abb _ _,d3,by simp[hz],F0.fresh,ne,?_,by rw[<-hT],?_]
   ·rw[Br _ _ (kG ne)];erw[eJ g1 (by rw[<-hT];rfl)]
   ·erw[?_,by simpa using jQ]
    first|(simp;done)|(rcases hp with rfl|⟨_,_,_,_,_,_,_,rfl⟩<;>simp)
 ·intro b o e nf
  let(sl,e1):=k1.2.2 b o e;erw[sl,keep b _ (sA b o e nf) e1]
theorem a4E(hA:A.frames=some (env::outer))(hL:env.frame=some L)(x:qZ B (env::outer) ex cls dx .none s.heap) (q:∀h',qZ B (env::outer) ex cls dx (rawInt L) h'->s.heap.UpToSlots h'->Q () {s with heap:=h'}):wpAny M A (noteFrame (.ref ex) env) Q E s:=by
 let(st,hB,ff,ob,fs,tb,ot,ts,ho,rfl,rfl,hd,h1,Dt,nt,ht,sW,h3,jQ):=x;unfold noteFrame;simp only[hL];erw[aJ (kf ho hd h1 ?_)];rw[ba (show(Value.ref tb !=Value.none)=true from by simp)];erw[aJ (kf ht sW h3 ?_)];rw[bc (show¬((Value.none==rawInt L)=true)from by simp[rawInt])];erw[aJ (Ec ht sW (Xp.mp h3).1 ?_)];have other:∀b,b≠tb->(s.heap.update tb (Obj.mapFields (·.setIfInBounds 3 Value.none))).get? b=s.heap.get? b:=λb nb=>Br _ _ (kG nb);have sA:∀b o,s.heap.get? b=some o->(∀vs,o.data≠ .fields vs)->b≠tb:=λb o e nf z=>by rw[z,ht]at e;cases e;erw[nf ts sW]
 erw[aaK (s:={s with heap:=s.heap.update tb (Obj.mapFields (·.setIfInBounds 3 Value.none))}) hA (ff.of_keeps λb o e nf=>#[o,(other b (sA b o e nf)).trans e,Z]) hL ((other ex (kG nt)).trans ho) (λb o e=>(other b λz=>by rw[z,Dt]at e;cases e).trans (st b o e)) hB hd (Xp.mp h1).1 jQ λh' y up=>q h' y λb o e nf=>up b o ((other b (sA b o e nf)).trans e) nf]
theorem a96{l:List Env}(x:qZ B l ex cls dx fl s.heap)(q:∀h',qZ B l ex cls dx .none h'->s.heap.UpToSlots h'->Q () {s with heap:=h'}):wpAny M A (setFlight (.ref ex) none) Q E s:=by
 let(st,hB,ff,ob,fs,tb,ot,ts,ho,hc,hx,hd,h1,Dt,nt,ht,sW,h3,jQ):=x;have z3:3<ts.size:=(Xp.mp h3).1;have other:∀b,b≠tb->(s.heap.update tb (Obj.mapFields (·.setIfInBounds 3 ((none:Option Addr).elim Value.none λf=>rawInt f)))).get? b=s.heap.get? b:=λb nb=>Br _ _ (kG nb);have sA:∀b o,s.heap.get? b=some o->(∀vs,o.data≠ .fields vs)->b≠tb:=λb o e nf z=>by rw[z,ht]at e;cases e;erw[nf ts sW]
 unfold setFlight;erw[aJ (kf ho hd h1 ?_)];rw[ba (show(Value.ref tb !=Value.none)=true from by simp)];erw[Ec ht sW z3 (q _ #[λb o e=>(other b λz=>by rw[z,Dt]at e;cases e).trans (st b o e),hB,ff.of_keeps λb o e nf=>#[o,(other b (sA b o e nf)).trans e,rfl],?_] λb o e nf=>#[o.slots,(other b (sA b o e nf)).trans e])];erw[ob,fs,tb,_,_,(other ex (kG nt)).trans ho,hc,hx,hd,h1,Dt,nt,KH _ ht (X4 (Em sW _)),Em sW _,by simp[z3],jQ]
theorem a66(hA:A.frames=some (env::outer))(hL:env.frame=some L)(x:qZ B (env::outer) ex cls dx .none s.heap) (q:∀h',qZ B outer ex cls dx .none h'->s.heap.UpToSlots h'->Q () {s with heap:=h'}):wpAny M A (leaving env (.ref ex)) Q E s:=by unfold leaving;erw[aJ (a4E hA hL x λh1 x1 u1=>a96 x1 λh2 x2 u2=>q h2 ?_ (u1.trans u2))];let(a,b,(_,_,c),d):=x2;erw[a,b,c,d]
end
end _L
namespace _L
open PySem PySem.Spec PyProof.Rows
open Builtin Builtin.ObjectAttr
section
variable {prog:ag}{w:World}{A:ai}{E:Value->af->Prop}{s:af}{K:aa}{x C:Addr}{ox:Obj}{fs:Array Value}{name:Str}{v:Value}{Q:Unit->af->Prop}
end
end _L
namespace _L
open PySem PySem.Spec PyProof.Rows
section
variable {X:Cx}{o e value:Expr}{f:Str}{pos pos' pO:Pos}{ta tv:TE}
end
section
variable {prog:ag}{w:World}{A:ai}{E:Value->af->Prop}{h:Heap}{g:Array GenState}{d:Drawn}{t:Nat}{os:OsState}
variable {nm q:Str}{C N fI:Addr}{bs bm VZ:List Value}{a7Z:Bool}{sn:List Str}{sub:List Value}{ab:Bool}{col:Option Bool}{dd:Option Addr}{k0 k1 k2 k3 k5:Option Value}{B newId TH:String}{mN:cm}{rest:List Value}{oI:Obj}
end
section
variable {M:Model}{A:ai}{E:Value->af->Prop}{env:Env}{nm q:Str}{C N:Addr}{bs bm:List Value}{a7Z:Bool}{sn:List Str}{sub:List Value}{ab:Bool}{col:Option Bool}{dd:Option Addr}{k0 k1 k2 k3 k5:Option Value}{newId:String}
end
def rj(P:ag)(w:World):kb:=λouter H s E e s'=>∃(ex:Addr)(cls:Value)(dx:Option Addr)(H':Hp)(B:Heap),e= .ref ex/\s'.os=s.os/\AllBare s'.gens/\qZ B outer ex cls dx .none s'.heap/\Fl P w outer H s.heap ex H' B s'.heap/\E cls dx H'
section
variable {P:ag}{w:World}{K:aa}{mg:cm}{ay:Heap}{N:List Str}{qual:Str}{scope:Scope}{f:Addr}{cd:Value}{A:ai}{outer:List Env}{s:af}{H:Hp}{E:XK}{pins:List (Addr×Obj)}{O:St}{H1:Hp}{s1:af}{ex:Addr}{C:Addr}{dx:Addr}
end
section
variable {X:Cx}{x:Str}{C fI:Addr}{VZ:List Value}{newId TH B:String}{e:Expr}{t:TA}{np cA pos:Pos}{k:Nat}{fd:FuncData}{ps:List Str}{sp:Sp}
end
section
variable {X:Cx}{i:Nat}{n y:Str}{Dc:Addr}{JJ:List Value}{newD:String}{body ET:List Stmt}{b0:Stmt}{np zU pos:Pos}{tb:XK->TS}{th:TS}{Cs:Addr->Prop}
end
end _L
namespace _L
open PySem PySem.Spec PyProof.Rows PySem.W
section
variable {prog:ag}{w:World}{A:ai}{E:Value->af->Prop}{h:Heap}{g:Array GenState}{d:Drawn}{t:Nat}{os:OsState}{K:Frag}{x C:Addr}{ox:Obj}{od:Obj}{f:Str}{v:Value}
end
section
variable {X:Cx}{e:Expr}{f:Str}{pos:Pos}{ta:TE}
end
end _L
namespace _L
open PySem PySem.Spec PyProof.Rows
def y9(P:ag)(w:World)(K:aa)(mg:cm)(ay:Heap)(x:Str)(k:Nat)(sp:Sp):Prop:=∃f fd ps,fu P w K mg ay (rj P w) k f fd ps sp/\mg x=some (.ref f)/\PySem.W.keepIn K (.ref f)=true/\Binds K fd ps []
section
variable {X:Cx}{k:Nat}{x:Str}{p pos:Pos}{e:Expr}{es:List Expr}{t:TA}{sp:Sp}
end
section
variable {P:ag}{w:World}{K:aa}{mg:cm}{ay:Heap}{N:List Str}{qual:Str}{scope:Scope}{f:Addr}{cd:Value}{A:ai}{outer:List Env}{s:af}{H:Hp}{E E0:XK}
theorem a2L(he:∀cls dx H',E cls dx H'->E0 cls dx H'):Passes (rj P w) (mM (rj P w) P w K mg ay N qual scope f cd A outer s H E0) E:=by
 intro pins O H1 s1 e s2 I hx;let(ex,cls,dx,H',B,rfl,ho,hg,Ad,F,q):=hx;have Ad:qZ B (envOfC qual scope s.heap.objs.size f cd::outer) ex cls dx .none s2.heap:=Ad;show wpAny (model P w) (A.deeper (envOfC qual scope s.heap.objs.size f cd)) (leaving (envOfC qual scope s.heap.objs.size f cd) (.ref ex)) _ _ _;erw[a66 (L:=s.heap.objs.size) I.ok.frames Z Ad λh' x1 x2=>?_];have F2:=F.step Ad.1 x1.1 x2 Ad.2.2.1;have sub:∀b,b∈fZ outer->b∈fZ (envOfC qual scope s.heap.objs.size f cd::outer):=λb hb=>by let(env,h1,h2):=Bk.mp hb;erw[Bk.mpr #[env,.tail _ h1,h2]]
 have zF:∀b o,s.heap.get? b=some o->b∉fZ outer->b∉fZ (envOfC qual scope s.heap.objs.size f cd::outer):=λb o e hb hm=>by
  let(env,h1,h2):=Bk.mp hm;rcases cM.mp h1 with z|h1
  ·subst z
   have e1:s.heap.objs.size=b:=eW h2;have e2:=cE e;rw[<-e1]at e2;erw[absurd e2 (we _)]
  ·erw[hb (Bk.mpr #[env,h1,h2])]
 have nx:∀b:Addr,b∉([]:List Addr):=λ_=>iu;erw[ex,cls,dx,H',B,Z,ho.trans I.os,hg,x1,#[#[λb o e n hb _=>?_,λb o e n hb _=>?_,λb o e n _=>?_,λb o e _=>?_,λb xs e=>?_,λb o u e=>?_,λb ps e=>?_],F2.bS,λb o e n hb=>?_,F2.k2,λb o e hb=>?_,λb hb=>F2.fr b (sub b hb),?_,F2.ne],he _ _ _ q]
 ·erw[F2.un.keep b o (I.ay.keep b o e n hb (nx b)) (I.ay.free b o e n (nx b)) (zF b o e hb) (nx b)]
 ·let(sl,e1):=I.ay.slot b o e n hb (nx b)
  let(sl2,e2):=F2.un.slot b _ e1 (I.ay.free b o e n (nx b)) (sub b hb) (nx b);erw[sl2,e2]
 ·let(sl,e1):=I.ay.any e n (nx b)
  erw[F2.un.free b _ e1 (I.ay.free b o e n (nx b)) (nx b)]
 ·let(o1,e1):=I.ay.there b o e (nx b)
  erw[F2.un.there b o1 e1 (nx b)]
 ·erw[F2.un.lI b xs (I.ay.lI b xs e)]
 ·erw[F2.un.kX b o u (I.ay.kX b o u e)]
 ·let(m1,e1):=I.ay.lJ b ps e
  let(m2,e2):=F2.un.lJ b _ e1;erw[m1++m2,by rw[<-Array.append_assoc];erw[e2]]
 ·erw[F2.k1 b o (I.ay.keep b o e n hb (nx b)) (I.ay.free b o e n (nx b)) (zF b o e hb)]
 ·let(o1,e1):=I.ay.there b o e (nx b)
  erw[F2.k3 b o1 e1 (zF b o e hb)]
 ·cases e:s.heap.get? ex with |none=>rfl |some o=>let(o1,e1):=I.ay.there ex o e (nx ex);rw[F2.nw]at e1;cases e1
end
end _L
namespace _L
open PySem PySem.Spec PyProof.Rows
open Builtin Builtin.ObjectAttr
section
variable {prog:ag}{w:World}{A:ai}{E:Value->af->Prop}{s:af}{K:aa}{x C dx:Addr}{ox:Obj}{fs:Array Value}{name:Str}{v:Value}{Q:Unit->af->Prop}{mA:cm}{ks:List Str}
end
section
variable {X:Cx}{o e value:Expr}{f:Str}{pos pos' pO:Pos}{ta tv:TE}
end
end _L
namespace _L
open PySem PySem.Spec PyProof.Rows
def E8(P:ag)(w:World)(K:aa)(mg:cm)(ay:Heap)(C:Addr)(m:Str)(k:Nat)(sp:Sp):Prop:=∃f fd ps,fu P w K mg ay (rj P w) k f fd ps sp/\Meth K C m f/\Binds K fd ps []
section
variable {P:ag}{w:World}{K:aa}{mg:cm}{ay:Heap}
theorem lA.okD{m qual:Str}{st:Stmt}{f:Addr}{fd:FuncData}{N ps:List Str}{k:Nat}{sp:Sp}(F:lA K m qual st f fd)(S:bf N ps (aQ st))(len:∀vs H Q E,sp vs H Q E->vs.length=ps.length) (lU:∀(aK:Value)(A:ai)(outer:List Env)(s:af)(H:Hp)(vs:List V)(Q:VK)(E:XK),dP k (A.deeper (envOfC qual (aQ st) s.heap.objs.size f aK))->sp vs H Q E->∃t,iT (mM (rj P w) P w K mg ay N qual (aQ st) f aK A outer s H E) (jb st) t/\t {nx:=λ_ H'=>Q .bu H',rt:=Q} (start N vs) H):fu P w K mg ay (rj P w) (k+1) f fd ps sp:=by let(oc,od,kV,doc,pm,an,aK,ct,j5,rfl,lk,jP):=F.ex;erw[UR lk jP S len λA outer s H vs Q E hr lS=>lU aK A outer s H vs Q E hr lS]
theorem MA.a8b{C:Addr}{m qual:Str}{st:Stmt}{N ps:List Str}{k:Nat}{sp:Sp}(F:MA K C m qual st)(S:bf N ps (aQ st))(len:∀vs H Q E,sp vs H Q E->vs.length=ps.length) (hb:∀(kV doc pm:Value)(an:Option Addr)(aK ct:Value)(us:List Value),us.length=ps.length->bindArgs (PySem.W.fnOf m qual (mK st) (jb st) (aQ st) .none kV doc pm an aK ct) #[us,[]]=pure (ps.zip us)) (lU:∀(f:Addr)(aK:Value)(A:ai)(outer:List Env)(s:af)(H:Hp)(vs:List V)(Q:VK)(E:XK),dP k (A.deeper (envOfC qual (aQ st) s.heap.objs.size f aK))->sp vs H Q E->∃t,iT (mM (rj P w) P w K mg ay N qual (aQ st) f aK A outer s H E) (jb st) t/\t {nx:=λ_ H'=>Q .bu H',rt:=Q} (start N vs) H):E8 P w K mg ay C m (k+1) sp:=by let(f,fd,hm,F):=F.ex;erw[f,fd,ps,F.okD S len λaK A outer s H vs Q E=>lU f aK A outer s H vs Q E,hm,F.binds hb]
end
section
variable {X:Cx}{k:Nat}{x m:Str}{C:Addr}{p pos apos:Pos}{o e:Expr}{es:List Expr}{t:TA}{ta:TE}{sp:Sp}{E:XK}
end
end _L
namespace _L
open PySem PySem.Spec PyProof.Rows SeqAt
section
variable {X:Cx}{k:Nat}{x:Str}{p pos:Pos}{e:Expr}{es:List Expr}{t:TA}{sp:Sp}{E:XK}
inductive af8(X:Cx)(i:Nat)(CX:kb)(E:XK)(t:TA)(O:St)(H:Hp)(Q:VK):Prop |mk (f:Addr)(fd:FuncData)(ps:List Str)(k:Nat)(sp:Sp)(h0:O[i]? =some (some (.ref f)))(h1:fu X.prog X.w X.K X.mg X.ay CX k f fd ps sp)(h2:PySem.W.keepIn X.K (.ref f)=true)(h3:Binds X.K fd ps [])(h4:dP k X.A)(h5:t O H λvs H1=>sp vs H1 Q E)
theorem a2D(i:Nat){CX:kb}(hp:Passes CX X E)(hN:autoParam (X.N[i]? =some x) r8_._auto_1)(hv:autoParam (DT X.env.scope x) d8_._auto_1)(ha:PA X (e::es) t)(hd:autoParam ((x==("__debug__":Str))=false) q8_._auto_1) (jP:autoParam ((x==("__classdict__":Str))=false) q8_._auto_1)(he:autoParam (starEach (e::es) X.env=(false,eval e X.env)::starEach es X.env) r8_._auto_1)(gr:autoParam ((backTo pos (starEach es X.env)).any (·.1)=false) r8_._auto_1): PE X (.Call (.Name x p) (e::es) [] pos) (λO H Q=>af8 X i CX E t O H Q):=by intro pins s O H Q I h;let(f,fd,ps,k,sp,h0,F,hk,hb,hr,ht):=h;erw[Ef (aZ (QR (pos:=p) hN hv hd jP pins s O H (λv H'=>v= .ref f/\H'=H) I #[_,h0,Z,Z]) λu s1 #[v,H1,I1,rv,e1,e2]=>?_)];subst e1 e2;cases(show u=Value.ref f from rv);erw[Kk (h₀:=X.ay) I1.ok.mod.xp hk (aZ (ha pos pins s1 O H1 _ I1 ht) λus s2 #[vs,H2,I2,r,q]=>#[I2.iO,?_]) he gr];erw[C6 F hr hb .nil hp I2 r ?_];rw[om];erw[q]
end
section
variable {X:Cx}
end
end _L
namespace _L
open PySem PySem.Spec PyProof.Rows
section
variable {κ : Type} [DecidableEq κ]
end
section
variable {P:ag}{w:World}{H:Hp}{h:Heap}{a:Addr}
end
section
variable {X:Cx}{pins:List (Addr×Obj)}{O:St}{H:Hp}{s:af}{a:Addr}{y v:V}{u r:Value}{o:Option V}{A:ai}{E:Value->af->Prop}
end
section
variable {X:Cx}{pins:List (Addr×Obj)}{O:St}{H:Hp}{s:af}{a:Addr}{eU:List (Key×V)}{k:Key}{u:Value}{A:ai}{E:Value->af->Prop}
end
def WG(i:Expr):Prop:=∀ov iv,subscripted i false ov iv=operate [ov,iv] (getItem ov iv)
theorem Z1{prog:ag}{w:World}{A:ai}{E:Value->af->Prop}{s:af}{env:Env}{value slice:Expr}{pos:Pos}{T id:String}{Q:Value->af->Prop} (hl:typeLookup (.type T) "__getitem__"=pure (some (.builtin id)))(hs:WG slice) (h:wpAny (model prog w) A (eval value env) (λo s₁=>wpAny (model prog w) A (eval slice env) (λi s₂=>s₂.TypeIs o T/\wpAny (model prog w) A (getItem o i) Q E s₂) E s₁) E s): wpAny (model prog w) A (eval (.Subscript value slice pos) env) Q E s:=by
 erw[Subscript_ (gJ h (λo s₁ h₁=>gJ h₁ (λi s₂ h₂=>?_) λ_ _ x=>x) λ_ _ x=>x)];let(hT,h₂):=h₂;unfold subscriptTail;erw[aJ ?_];rw[getitemInPython_of_ne hT.not_modules];erw[aJ (Eb hT hl ?_)];have fin:wpAny (model prog w) A (subscripted slice false o i) (λr s₃=>wpAny (model prog w) A (letTemporaryGo value o r>>=λ_=>pure r) Q E s₃) E s₂:=by rw[hs o i];erw[wpAny_operating (gJ h₂ (λr s₃ h₃=>aJ (wpAny_letTemporaryGo (cf h₃))) λ_ _ x=>x)]
 first |erw[cf (aJ fin)] |erw[aJ (cf (aJ fin))] |erw[aJ fin]
section
variable {X:Cx}{o i e value:Expr}{pos pos' pO:Pos}{td ty tv:TE}
end
section
variable {X:Cx} {pos:Pos}
end
section
variable {X:Cx}{pins:List (Addr×Obj)}{O:St}{H:Hp}{s:af}{a:Addr}{y d:V}{u r:Value}{o:Option V}{A:ai}{E:Value->af->Prop}
end
section
variable {X:Cx}{o e f:Expr}{apos cA:Pos}{td ty tx:TE}
end
section
variable {X:Cx}{pins:List (Addr×Obj)}{O:St}{H:Hp}{s:af}{a:Addr}{eU:List (Key×V)}{A:ai}{E:Value->af->Prop}
end
section
variable {X:Cx}{pins:List (Addr×Obj)}{O:St}{H:Hp}{s:af}{a:Addr}{y:V}{u:Value}{A:ai}{E:Value->af->Prop}
end
end _L
namespace _L
open PySem PySem.Spec PyProof.Rows PySem.W
structure GD(w:World)(K:Frag)(mg:cm)(x:Str)(a:Addr):Prop where
 at':mg x=some (.ref a)
 ob:∃es n,K.lookup a=some #[.type "dict",none,.dict es n,#[]]/\KeysLit w.params es.toList
 lo:(a==sysModules)=false
theorem a8G{w:World}{K:Frag}{mg:cm}{n:Nat}(X:K.In h)(G:h.Ns mainGlobals mg)(e:nsIn K mainGlobals x=some (some (.ref a)))(hl:K.lookup a=some #[.type "dict",none,.dict es n,#[]])(hk:KeysLit w.params es.toList)(lo:(a==sysModules)=false):GD w K mg x a:=#[mg_of X G e,#[es,n,hl,hk],lo]
section
variable {X:Cx}{i:Expr}{x:Str}{a:Addr}{pos p:Pos}{ty:TE}
inductive af6(K:Frag)(a:Addr)(Q:VK)(y:V)(H:Hp):Prop |mk (z:Str)(r:Option Value)(h0:y= .str z)(h1:nsIn K a z=some r)(h2:Q (.bl r.isSome) H)
theorem a2K(G:GD X.w X.K X.mg x a)(hg:Gl X x)(hi:PE X i ty)(ju:autoParam ((x==("__debug__":Str))=false) q8_._auto_1):PC X .In i (.Name x p) (λO H Q=>ty O H λy H1=>af6 X.K a Q y H1):=by intro pins s O H Q I h;let(es,n,hl,hk):=G.ob;erw[aZ (hi pins s O H _ I h) λiv s1 #[y,H1,I1,ry,z,r,ey,e,q]=>zM I1 hg G.at' ?_ ju];subst ey;let(t,rfl):=ry;erw[wpAny_in_of (strKind_is X.prog X.w z t) G.lo (mapOf_K (prog:=X.prog) I1.iO hl hk) ?_];rw[find_K hl e];erw[.bl r.isSome,H1,I1.tok _,Z,q]
inductive af7(K:Frag)(a:Addr)(Q:VK)(y:V)(H:Hp):Prop |mk (z:Str)(u:Value)(v:V)(h0:y= .str z)(h1:nsIn K a z=some (some u))(h2:RelV v u)(h3:Q v H)
theorem a2z(G:GD X.w X.K X.mg x a)(hg:Gl X x)(hi:PE X i ty)(hs:WG i)(ju:autoParam ((x==("__debug__":Str))=false) q8_._auto_1):PE X (.Subscript (.Name x p) i pos) (λO H Q=>ty O H λy H1=>af7 X.K a Q y H1):=by intro pins s O H Q I h;let(es,n,hl,hk):=G.ob;erw[Z1 PySem.F.slot_dict_getitem.lookup hs (zM I hg G.at' ?_ ju)];erw[aZ (hi pins s O H _ I h) λiv s1 #[y,H1,I1,ry,z,u,v,ey,e,rv,q]=>?_];subst ey;let(t,rfl):=ry;have hm:=mapOf_K (prog:=X.prog) (w:=X.w) I1.iO hl hk;erw[hm.typeIs,wpAny_getItem_of (strKind_is X.prog X.w z t) hm (find_K hl e) #[v,H1,I1.tok _,rv,q]]
end
theorem a6a{l:OpenLaw}{q:ag}{loose:List Str}{XP:(cm)->Heap->Prop}{YP:World->Heap->Prop}{d:DefRec}{K:Params->Frag}{k:Nat}{x:Str}{st:Stmt}(hn:l.most=some 63)(A1:d.params.defaults=[]) (hr:dP k callerA)(hY:∀(w:World)(h:Heap),YP w h->(K w.params).In h)(All:World->Frag->(cm)->Prop) (F:∀(w:World)(mg:cm)(h:Heap),(K w.params).In h->h.Ns mainGlobals mg->All w (K w.params) mg) (L:∀(w:World)(K:Frag)(mg:cm),All w K mg->FA K mg d.name st) (hb:∀(kV doc pm:Value)(an:Option Addr)(aK ct u:Value),bindArgs (fnOf d.name d.name (mK st) (jb st) (aQ st) .none kV doc pm an aK ct) #[[u],[]]=pure [(x,u)]) (ok:∀(P:ag)(w:World)(K:Frag)(mg:cm)(ay:Heap)(f:Addr)(fd:FuncData),All w K mg->lA K d.name d.name st f fd->fu P w K mg ay kd k f fd [x] (λvs H Q _=>∃(a:Addr)(ns:List Int),vs=[.ref a]/\aD K H a (ns.map V.int)/\ns.length<=63/\∀H',Q (.bl true) H')): WalkO q loose XP YP l.row.toRowW d [] (λf vs=>PySem.call f vs):=_L.XN (n:=63) (k:=k) (x:=x) (CX:=λ_=>kd) (sp:=λw=>λvs H Q _=>∃(a:Addr)(ns:List Int),vs=[.ref a]/\aD (K w.params) H a (ns.map V.int)/\ns.length<=63/\∀H',Q (.bl true) H') hn aw A1 hr hY (λw mg fa h KX G zY=>by
 have A:=F w mg h KX G;let(f,fd,hm,Fn):=(L _ _ _ A).ex;have e:fa=f:=by rw[zY]at hm;injection (eW hm)
 subst e;erw[fd,λs u=>?_,λay _ _=>ok l.prog w _ mg ay fa fd A Fn];let(oc,od,kV,doc,pm,an,aK,ct,j5,rfl,lk,jP):=Fn.ex;erw[.of_eq (hb kV doc pm an aK ct u)]) (λ_ _ a ns hl _ hS=>#[a,ns,Z,hS,hl,λ_=>rfl]) λ_ _ _ _ _ z=>z
end _L
set_option exponentiation.threshold 6000
namespace _L
open PySem PySem.Spec PyProof.Rows
section
variable {X:Cx}
theorem jV:fw X (.type "str") (λxs H Q=>(∃i,xs=[.int i]/\i.natAbs.log2<1920/\Q (.str (toString i)) H)\/∃z,xs=[.str z]/\Q (.str z) H):=by
 intro pins s O H xs us Q I r h;rcases h with⟨i,rfl,hz,q⟩|⟨z,rfl,q⟩
 ·let(u,rfl,t,rfl):=vals1 r
  erw[PySem.P.str_of_int hz #[.str _,H,I.tok _,#[_,Z],q]]
 ·let(u,rfl,t,rfl):=vals1 r
  erw[PySem.P.str_of_str #[.str _,H,I,#[_,Z],q]]
def rFv(x:V)(H:Hp)(Q:VK):Prop:=(∃i,x= .int i/\i.natAbs.log2<1920/\Q (.str (toString i)) H)\/∃z,x= .str z/\z.length<=sizeLine/\Q (.str z) H
theorem kO(h:PE X e te):PE X (.FormattedValue e (-1) none pos) (λO H Q=>te O H λx H'=>rFv x H' Q):=by
 intro pins s O H Q I ht;erw[wpAny_FormattedValue_plain (aZ (h pins s O H _ I ht) λv s1 #[x,H1,I1,r1,q1]=>?_)];rcases q1 with⟨i,rfl,hz,q⟩|⟨z,rfl,hz,q⟩
 ·let(t,rfl):=r1
  erw[wpAny_formatField_int hz #[.str _,H1,I1.tok _,#[_,Z],q]]
 ·let(t,rfl):=r1
  erw[wpAny_formatField_str #[.str _,H1,I1,#[_,Z],q] #[.str _,H1,I1.tok _,#[_,Z],q] hz]
abbrev TJ:=Str->St->Hp->VK->Prop
def PJ(X:Cx)(es:List Expr)(t:TJ):Prop:=∀(pins:List (Addr×Obj))(s:af)(O:St)(H:Hp)(Q:VK)(acc:Str),Inv X pins O H s->t acc O H Q->Joins (model X.prog X.w) X.A X.xe (evalEach es X.env) acc (λout s₁=>out.length<=sizeLine/\EP X pins O Q (.str out s₁.toks) {s₁ with toks:=s₁.toks+1}) s
theorem wQ:PJ X [] (λacc O H Q=>acc.length<=sizeLine/\Q (.str acc) H):=by intro pins s O H Q acc I h;erw[h.1,.str _,H,I.tok _,#[_,Z],h.2]
theorem gC(h:PE X e te)(hj:PJ X es tj)(he:autoParam (evalEach (e::es) X.env=eval e X.env::evalEach es X.env) r8_._auto_1): PJ X (e::es) (λacc O H Q=>te O H λx H'=>∃y,x= .str y/\(acc++y).length<=sizeLine/\tj (acc++y) O H' Q):=by intro pins s O H Q acc I ht;rw[he];erw[aZ (h pins s O H _ I ht) λv s1 #[x,H1,I1,r1,q1]=>?_];let(y,rfl,hl,q):=q1;let(t,rfl):=r1;erw[y,t,Z,hl,hj pins s1 O H1 Q _ I1 q]
theorem wR{t:TJ}(h:PJ X (e1::e2::es) t):PE X (.JoinedStr (e1::e2::es) pos) (λO H Q=>t Str.empty O H Q):=λpins s O H Q I ht=>wpAny_JoinedStr (h pins s O H Q _ I ht)
theorem CZ(sep:Str){B:Nat}:∀(zs:List Str),(∀z∈zs,z.length<=B)->(Txt.join sep zs).length<=zs.length*(B+sep.length)
 |[],_=>eX _ |a::r,h=>by
  show(Builtin.Str.glued sep (a::r)).length<=_;rw[tW,len_join_cons];have:=sumLen_le_of_bound id B (a::r) h;rw[List.map_id]at this;rw[gz]at this⊢;have e1:(r.length+1)*(B+sep.length)=B*(r.length+1)+(r.length*sep.length+sep.length):=by rw[Nat.mul_add,En (r.length+1) B,Nat.add_mul r.length 1 sep.length,Nat.one_mul]
  lia
inductive aez(K:aa)(x:V)(vs:List V)(H:Hp)(Q:VK):Prop |mk (sep:Str)(l:Addr)(zs:List Str)(h0:x= .str sep)(h1:vs=[.ref l])(h2:aD K H l (zs.map V.str))(h3:(∀z∈zs,z.length<=4000))(h4:sep.length<=8)(h5:zs.length<=1000)(h6:Q (.str (Txt.join sep zs)) H)
def QC(K:aa):V->List V->Hp->VK->Prop:=λx vs H Q=>aez K x vs H Q
theorem a5h(K:aa)(hK:X.K=K):y4 X "str.join" (QC K):=by subst hK;intro pins s O H x vs v us Q I rx rv h;let(sep,l,zs,rfl,rfl,hl,hz,hs,hn,q):=h;let(t,rfl):=rx;let(u,rfl,ru):=vals1 rv;cases(show u=Value.ref l from ru);let(its,r,pl,_):=I.list hl;have Il:=sumLen_le_of_bound id 4000 zs hz;rw[List.map_id]at Il;have h1:zs.length*sep.length<=1000*8:=o8 hn hs;erw[join_list (ys:=zs) pl.isList (StrsAre.of_carried (JE r)) ao λt' k=>?_];erw[.str _,H,I.tok _,#[_,Z],q]
theorem qe(K:aa)(h:X.K=K){o e:Expr}{to:TE}{t:TA}{apos cA:Pos}(ho:PE X o to)(ha:PA X [e] t) (jv:autoParam (attributeBase o "join" X.env (eval o X.env)=eval o X.env) r8_._auto_1) (jt:autoParam (((backTo cA (starEach [e] X.env)).all (λx=>!x.1)&&(backToKw cA (keywordEach [] X.env)).all (λx=>x.1.isSome) &&decide ([e].length+([]:List Keyword).length+(if([]:List Keyword).isEmpty then 0 else 1)<30))=true) r8_._auto_1) (jr:autoParam ((apos.endLine==cA.line)=true) r8_._auto_1)(hs:autoParam (starEach [e] X.env=(false,eval e X.env)::starEach [] X.env) r8_._auto_1)(jq:autoParam ((backTo cA (starEach [] X.env)).any (·.1)=false) r8_._auto_1): PE X (.Call (.Attribute o "join" apos) [e] [] cA) (rP K "str" (QC K) to t):=by subst h;erw[uH Bf PySem.F.slot_str_join PySem.F.type_str_join (a5h X.K rfl) ho ha jv jt jr hs jq]
theorem L1{i:Int}(h:i.natAbs<10^40):(Str.ofString (toString i)).length<=41:=by rw[WU];erw[WQ (k:=40) aw h]
theorem ng{i:Int}(h:i.natAbs<10^40):i.natAbs.log2<1920:=by
 by_cases h0:i.natAbs=0
 ·rw[h0];decide
 ·exact(Nat.log2_lt h0).mpr (rC h aw)
theorem VU:∀(l:List (Str×Tok)),Vals ((l.map (·.1)).map V.str) (strValues l) |[]=>.nil |(z,t)::l=>.cons #[t,Z] (VU l)
theorem split_len(x y:Str):(Txt.split x y).length<=x.length+2:=by
 unfold Txt.split;split
 ·simp
 ·split
  ·simp
  ·have e1:=StrLaws.occ_length_le x y 0 x.length (x.length+1)
   rw[length_partsBetween];omega
inductive aer(x:V)(vs:List V)(H:Hp)(Q:VK):Prop |mk (z y:Str)(h0:x= .str z)(h1:vs=[.str y])(h2:(y.length==0)=false)(h3:z.length+2<=sizeLine)(h4:∀p H',Nw H H' p (.lst ((Txt.split z y).map V.str))->Q (.ref p) H')
def QA:V->List V->Hp->VK->Prop:=λx vs H Q=>aer x vs H Q
theorem a5f:y4 X "str.split" QA:=by
 intro pins s O H x0 vs v us Q I rx rv h;let(x,y,rfl,rfl,hy,hz,q):=h;let(t,rfl):=rx;let(u0,rfl,u,rfl):=vals1 rv;have key:∀(l:List (Str×Tok))(k:Nat),l.map (·.1)=Txt.split x y->EP X pins O Q (.ref s.heap.objs.size) {s with toks:=k,heap:=s.heap.push {cls:=.type "list",data:=.seq (strValues l).toArray}}:=λl k e=>by have nw:Nw H (upd H s.heap.objs.size (.lst ((Txt.split x y).map V.str))) s.heap.objs.size (.lst ((Txt.split x y).map V.str)):=.of (I.bS.fresh (aV _));erw[.ref s.heap.objs.size,_,I.laid (t':=k) (o:=.lst ((Txt.split x y).map V.str)) (λb ob q=>cF _ q) (aV _) ?_,Z,q _ _ nw];have:=split_len x y;erw[by rw[aW];omega,_,0,by rw[<-e];erw[VU l],eJ _ Z]
 cases h1:(decide (x.length<y.length)||decide (Builtin.Str.strKind x<Builtin.Str.strKind y))
 ·cases hf:(Builtin.Str.occurrences x y 0 x.length (x.length+1)).isEmpty
  ·have e1:=StrLaws.occ_length_le x y 0 x.length (x.length+1)
   erw[vY F.slot_str_split (B8 _ _ _) F.entry_str_split (F.args_str_split_2 _ _) (meets_str_split_sep x y t u h1 hy hf aL (by rw[length_partsBetween];omega)) ?_];show wants _ _ _ {s with toks:=_,heap:=s.heap.push {cls:=.type "list",data:=.seq (strsFrom s.toks (Builtin.Str.partsBetween x (Builtin.Str.occurrences x y 0 x.length (x.length+1)) y.length)).toArray}};rw[strsFrom_eq];erw[key (numbered s.toks _) _ ((numbered_texts _ _).trans ((bc (WO h1)).trans (bc (WO hf))).symm)]
  ·erw[vY F.slot_str_split (B8 _ _ _) F.entry_str_split (F.args_str_split_2 _ _) (meets_str_split_not_found x y t u h1 hy hf) (key [(x,t)] s.toks ((bc (WO h1)).trans (ba hf)).symm)]
 ·erw[vY F.slot_str_split (B8 _ _ _) F.entry_str_split (F.args_str_split_2 _ _) (meets_str_split_cannot_occur x y t u h1) (key [(x,t)] s.toks (ba h1).symm)]
theorem Gm(K:aa)(h:X.K=K){o e:Expr}{to:TE}{t:TA}{apos cA:Pos}(ho:PE X o to)(ha:PA X [e] t) (jv:autoParam (attributeBase o "split" X.env (eval o X.env)=eval o X.env) r8_._auto_1) (jt:autoParam (((backTo cA (starEach [e] X.env)).all (λx=>!x.1)&&(backToKw cA (keywordEach [] X.env)).all (λx=>x.1.isSome) &&decide ([e].length+([]:List Keyword).length+(if([]:List Keyword).isEmpty then 0 else 1)<30))=true) r8_._auto_1) (jr:autoParam ((apos.endLine==cA.line)=true) r8_._auto_1)(hs:autoParam (starEach [e] X.env=(false,eval e X.env)::starEach [] X.env) r8_._auto_1)(jq:autoParam ((backTo cA (starEach [] X.env)).any (·.1)=false) r8_._auto_1): PE X (.Call (.Attribute o "split" apos) [e] [] cA) (rP K "str" QA to t):=by subst h;erw[uH Bf PySem.F.slot_str_split PySem.F.type_str_split a5f ho ha jv jt jr hs jq]
inductive aew(x:V)(vs:List V)(H:Hp)(Q:VK):Prop |mk (z y:Str)(h0:x= .str z)(h1:vs=[.str y])(h3:z.length<=sizeLine)(h4:Q (.str (Txt.removeprefix z y)) H)
def QB:V->List V->Hp->VK->Prop:=λx vs H Q=>aew x vs H Q
theorem a5g:y4 X "str.removeprefix" QB:=by intro pins s O H x0 vs v us Q I rx rv h;let(x,y,rfl,rfl,hz,q):=h;let(t,rfl):=rx;let(u0,rfl,u,rfl):=vals1 rv;erw[SC.removeprefix (λt' k=>#[.str _,H,I.kept (t':=k) (λ_ _ e=>e),#[_,Z],q]) (hsz:=hz)]
theorem a2H(K:aa)(h:X.K=K){o e:Expr}{to:TE}{t:TA}{apos cA:Pos}(ho:PE X o to)(ha:PA X [e] t) (jv:autoParam (attributeBase o "removeprefix" X.env (eval o X.env)=eval o X.env) r8_._auto_1) (jt:autoParam (((backTo cA (starEach [e] X.env)).all (λx=>!x.1)&&(backToKw cA (keywordEach [] X.env)).all (λx=>x.1.isSome) &&decide ([e].length+([]:List Keyword).length+(if([]:List Keyword).isEmpty then 0 else 1)<30))=true) r8_._auto_1) (jr:autoParam ((apos.endLine==cA.line)=true) r8_._auto_1)(hs:autoParam (starEach [e] X.env=(false,eval e X.env)::starEach [] X.env) r8_._auto_1)(jq:autoParam ((backTo cA (starEach [] X.env)).any (·.1)=false) r8_._auto_1): PE X (.Call (.Attribute o "removeprefix" apos) [e] [] cA) (rP K "str" QB to t):=by subst h;erw[uH Bf PySem.F.slot_str_removeprefix PySem.F.type_str_removeprefix a5g ho ha jv jt jr hs jq]
inductive aeG(xs:List V)(H:Hp)(Q:VK):Prop |mk (z:Str)(n:Int)(h0:xs=[.str z])(h1:PySem.intText? z=some n)(h2:z.length<=640)(h3:Q (.int n) H)
theorem abK:fw X (.type "int") (λxs H Q=>aeG xs H Q):=by intro pins s O H xs us Q I r h;let(z,n,rfl,hn,hl,q):=h;let(u,rfl,t,rfl):=vals1 r;erw[PySem.W.KIN.call_text hn hl #[.int _,H,I.tok _,#[_,Z],q]]
inductive af3(K:aa)(t1 t2:TG)(v:V)(O:St)(H:Hp)(Q:St->Hp->Prop):Prop |mk (a:Addr)(x:V)(xs:List V)(h0:v= .ref a)(h1:aD K H a (x::xs))(h2:xs.length<=16000)(h3:∀p H',Nw H H' p (.lst xs)->t1 x O H' λσ1 H1=>t2 (.ref p) σ1 H1 Q)
def a91(K:aa)(t1 t2:TG):TG:=λv O H Q=>af3 K t1 t2 v O H Q
theorem QQ(K:aa)(hK:X.K=K){e1 e2:Expr}{k:Nat}{t1 t2:TG}{sp pos:Pos}(hc:X.calm=true)(h1:PG X e1 t1)(h2:PG X e2 t2) (hs:autoParam (assignEach [e1,.Starred e2 sp] X.env=[(false,assign e1 X.env),(true,assign e2 X.env)]) r8_._auto_1):PG X (.Tuple [e1,.Starred e2 sp] k pos) (a91 K t1 t2):=by subst hK;intro pins s O H v u Q I r hw;let(a,x,xs,e,hq,hl,hw):=hw;subst e;cases r;let(its,rv,ht,hz):=I.list hq;have hh:X.A.handled=none:=I.ok.hd hc;have zZ:=ht.isList;cases rv with |cons r1 rr=>
 rename_i ux iV;have hlen:=rr.length;have ck:a≠s.heap.objs.size:=by let(o,ho,_):=zZ;erw[eY (cE ho)]
 rw[assign_Tuple];erw[aJ (tV ?_)];unfold unpack;rw[hs];erw[aJ (rk ?_)];show wpAny _ _ (unpackItems (.ref a) 2 (some 1)) _ _ _;unfold unpackItems;erw[aJ ?_];unfold notIterableAtAll;erw[aJ (Eb zZ.typeIs slot_list_iter.lookup ?_)];erw[cf ?_];simp only[Bool.false_eq_true,if_false];erw[aJ (rk (B7 zZ ?_))];have sz:(ux::iV).toArray.size=xs.length+1:=by rw[eH,gz,hlen]
 erw[aJ (rk (PySem.W.kun_draw ck 1 0 _ _ #[_,eJ _ Z,Z,Z] (zZ.push _) aL λh₁ Iz U5=>?_))];have Ub:h₁.IsList a (ux::iV).toArray:=(zZ.push _).extBut U5.extBut ck;rw[Nat.zero_add]at Iz;have a7y:=Iz;let(oi,ky,_):=a7y;have a7p:=Ub;let(ol,qA,_):=a7p;rw[bc (by simp)];erw[aJ (rk (PySem.W.kun_collect (s:={s with heap:=h₁}) (T:="list_iterator") (.inr (.inr (.inl rfl))) (Walks.list (A:=X.A.in1) hh s.heap.objs.size a ck (ux::iV).toArray) (λj u st=>st.1.typeIs) (k:=1) aL #[Iz,Ub] (cE ky) (cE qA) (λh₂ tk hk=>?_) (by rw[B9];omega)))];have ea:(ux::iV).toArray.toList.drop 1=iV:=by simp
 rw[ea];show wpAny _ _ (if iV.length<2-1-1 then _ else _) _ _ _;rw[bc aL];show wpAny _ _ (newList (iV.take (iV.length-(2-1-1)))>>=λd=>pure ((ux::iV).toArray.toList.take 1++[d]++iV.drop (iV.length-(2-1-1)))) _ _ _;have eb:iV.take (iV.length-(2-1-1))=iV:=tZ aL;have ec:iV.drop (iV.length-(2-1-1))=[]:=List.drop_eq_nil_of_le aL;rw[eb,ec];have he:Heap.ExtBut s.heap.objs.size s.heap h₂:=λb o hb e=>hk b o hb (U5.extBut b o hb (cF _ e));erw[aJ (wpAny_newList (s:={s with heap:=h₂,toks:=tk}) (cf ?_) ?_)]
 ·have I2:Inv X pins O H {s with heap:=h₂,toks:=tk}:=I.kept (t':=tk) λb o e=>he b o (eY (cE e)) e
  have nw:Nw H (upd H h₂.objs.size (.lst xs)) h₂.objs.size (.lst xs):=.of (I2.bS.fresh (aV _));have I3:Inv X pins O (upd H h₂.objs.size (.lst xs)) {s with heap:=h₂.push {cls:=.type "list",data:=.seq iV.toArray},toks:=tk}:=I2.laid (t':=tk) (o:=.lst xs) (λb ob q=>cF _ q) (aV _) #[by rw[gz]at hz;omega,iV,0,rr,eJ _ rfl];show wpAny _ _ (assignInOrder (assign e1 X.env::[assign e2 X.env]) (ux::[Value.ref h₂.objs.size])) _ _ _;erw[Eh (aZ (h1 pins _ O _ _ _ _ I3 r1 (hw _ _ nw)) λ_ s1 #[σ1,H1,I1,q1]=>?_)];erw[Eh (aZ (h2 pins s1 σ1 H1 (.ref h₂.objs.size) _ _ I1 Z q1) λ_ s2 #[σ2,H2,I2,q2]=>?_)];erw[assignInOrder_nil #[σ2,H2,I2,q2]]
 ·rw[<-hlen,B9];omega
end
end _L
namespace _T
open PySem PySem.Spec PyProof.Rows PySem.NumText
def Free(c:Nat)(z:Str):Prop:=c∉z.cps.toList
def gl(c:Nat):List (List Nat)->List Nat |[]=>[] |[x]=>x |x::y::r=>x++c::gl c (y::r)
theorem IL(c:Nat):∀zs:List Str,(PySem.Str.join ⟨#[c]⟩ zs).cps.toList=gl c (zs.map λz=>z.cps.toList) |[]=>by simp[PySem.Str.join,PySem.Str.empty,gl] |[x]=>rfl |x::y::r=>by show((x++⟨#[c]⟩)++PySem.Str.join ⟨#[c]⟩ (y::r)).cps.toList=_;rw[rA,rA,oo,oo,IL c (y::r)];show(x.cps.toList++[c])++gl c _=x.cps.toList++c::gl c _;rw[yn];rfl
theorem VG{c:Nat}:∀{a b r s:List Nat},c∉a->c∉b->a++c::r=b++c::s->a=b/\r=s |[],[],r,s,_,_,e=>by simpa using e |[],y::b,r,s,_,h,e=>by simp at e;exact(h (by rw[e.1];erw[.head _])).elim |x::a,[],r,s,h,_,e=>by simp at e;exact(h (by rw[<-e.1];erw[.head _])).elim |x::a,y::b,r,s,h1,h2,e=>by simp only[List.cons_append,List.cons.injEq]at e;let(e1,e2):=VG (λz=>h1 (.tail _ z)) (λz=>h2 (.tail _ z)) e.2;erw[by rw[e.1,e1],e2]
theorem Uz{c:Nat}:∀{as bs:List (List Nat)},as≠[]->bs≠[]->(∀a∈as,c∉a)->(∀b∈bs,c∉b)->gl c as=gl c bs->as=bs
 |[],_,h,_,_,_,_=>(h Z).elim |_,[],_,h,_,_,_=>(h Z).elim |[a],[b],_,_,_,_,e=>by rw[show a=b from e] |[a],b::b'::r,_,_,ha,_,e=>by
  have:c∈a:=by rw[show a=b++c::gl c (b'::r)from e];simp
  exact(ha a (.head _) this).elim |a::a'::r,[b],_,_,_,hb,e=>by
  have:c∈b:=by rw[<-show a++c::gl c (a'::r)=b from e];simp
  exact(hb b (.head _) this).elim |a::a'::r,b::b'::s,_,_,ha,hb,e=>by let(e1,e2):=VG (ha a (.head _)) (hb b (.head _)) (show a++c::gl c (a'::r)=b++c::gl c (b'::s)from e);rw[e1,Uz (by simp) (by simp) (λx hx=>ha x (.tail _ hx)) (λx hx=>hb x (.tail _ hx)) e2]
theorem Av{x y:Str}(h:x.cps.toList=y.cps.toList):x=y:=PySem.Str.ext' (Array.toList_inj.mp h)
theorem map_inj:∀{xs ys:List Str},xs.map (λz=>z.cps.toList)=ys.map (λz=>z.cps.toList)->xs=ys |[],[],_=>rfl |[],y::ys,h=>by simp at h |x::xs,[],h=>by simp at h |x::xs,y::ys,h=>by simp only[rE,List.cons.injEq]at h;rw[Av h.1,map_inj h.2]
theorem LG(x y:Str):Txt.split x y≠[]:=by
 unfold Txt.split;split
 ·simp
 ·split
  ·simp
  ·rw[StrLaws.partsBetween_eq]
   let(p,r,e):=StrLaws.partsFrom_ne x y.length 0 (Builtin.Str.occurrences x y 0 x.length (x.length+1));rw[e];simp
theorem BX(cD:zs≠[])(hf:∀z∈zs,Free c z):Txt.split (Txt.join ⟨#[c]⟩ zs) ⟨#[c]⟩=zs:=by
 have e:=StrLaws.join_split (Txt.join ⟨#[c]⟩ zs) ⟨#[c]⟩;have fr:=StrLaws.split_free (Txt.join ⟨#[c]⟩ zs) c;have e2:Txt.join ⟨#[c]⟩ zs=PySem.Str.join ⟨#[c]⟩ zs:=tW _ _;have e3:=lC (λz:Str=>z.cps.toList) (e.trans e2);simp only[IL]at e3;erw[map_inj (Uz (by simpa using LG _ _) (by simpa using cD) (λa ha=>?_) (λb hb=>?_) e3)]
 ·let(z,hz,rfl):=cJ.mp ha
  erw[fr z hz]
 ·let(z,hz,rfl):=cJ.mp hb
  erw[hf z hz]
def numS(i:Int):Str:=Str.ofString (toString i)
def isFig(c:Nat):Bool:=decide (48<=c)&&decide (c<=57)
def figs(z:Str):List Nat:=match z.cps.toList with |45::r=>r |l=>l
def numIn? (z:Str):Option Int:=bif (figs z).isEmpty|| !(figs z).all isFig then none else bif decide ((figs z)[0]? =some 48)&& !decide (z="0")then none else intText? z
theorem xD(h:cs.all isFig=true):AllDigits cs:=λc hc=>by have:=gc.mp h c hc;simpa[isFig]using this
theorem Vv(h:AllDigits cs):cs.all isFig=true:=gc.mpr λc hc=>by have:=h c hc;simpa[isFig]using this
theorem qQ(m:Nat):(numS (m:Int)).cps.toList=(Nat.toDigits 10 m).map Char.toNat:=PySem.W.KIN.signs_num m
theorem Au(m:Nat):(numS (Int.negSucc m)).cps.toList=45::(Nat.toDigits 10 (m+1)).map Char.toNat:=by unfold numS;rw[signs_ofString];show("-"++Nat.repr (m+1)).toList.map Char.toNat=_;rw[String.toList_append,fT,Nat.toList_repr];rfl
theorem pD(m:Nat):AllDigits ((Nat.toDigits 10 m).map Char.toNat):=λc hc=>by let(ch,mH,e):=cJ.mp hc;have r:=digit_range (Nat.isDigit_of_mem_toDigits aw aw mH);rw[<-e];erw[r]
theorem DJ(m:Nat):(Nat.toDigits 10 m).map Char.toNat≠[]:=λe=>by have h:=toDigits_len_ge 10 m;rw[List.map_eq_nil_iff.mp e]at h;erw[absurd h aw]
theorem abe:∀d:Nat,d<10->d≠0->(Nat.digitChar d).toNat≠48:=by decide
theorem Tg(m:Nat)(h0:m≠0):((Nat.toDigits 10 m).map Char.toNat)[0]? ≠some 48:=by induction m using Nat.strongRecOn with |_ m ih=>
 by_cases h:m<10
 ·rw[X5 h]
  simpa using abe m h h0
 ·have hm:m%10<10:=Nat.mod_lt m aw
  have t:Nat.toDigits 10 (m/10)++Nat.toDigits 10 (m%10)=Nat.toDigits 10 (10*(m/10)+m%10):=Nat.toDigits_append_toDigits aw aL hm;rw[Nat.div_add_mod]at t;rw[<-t,fT,oj (Bl.mpr (DJ _))];erw[ih (m/10) aL aL]
theorem aba(m:Nat):((Nat.toDigits 10 m).map Char.toNat).head? ≠some 45:=λe=>by have:=pD m 45 (List.mem_of_mem_head? e);omega
theorem a9c{l:List Nat}(h:z.cps.toList=l)(hh:l.head? ≠some 45):figs z=l:=by
 unfold figs;rw[h];split
 ·simp at hh
 ·rfl
theorem a9e(m:Nat):figs (numS (m:Int))=(Nat.toDigits 10 m).map Char.toNat:=a9c (qQ m) (aba m)
theorem a9d(m:Nat):figs (numS (Int.negSucc m))=(Nat.toDigits 10 (m+1)).map Char.toNat:=by unfold figs;rw[Au];rfl
theorem Vb(m:Nat):((Nat.toDigits 10 m).map Char.toNat).isEmpty=false:=by have:=DJ m;cases h:(Nat.toDigits 10 m).map Char.toNat with |nil=>exact(this h).elim |cons=>rfl
theorem Cy(hl:(numS i).length<=4300):numIn? (numS i)=some i:=by unfold numIn?;cases i with
 |ofNat m=>
  have ef:figs (numS (Int.ofNat m))=(Nat.toDigits 10 m).map Char.toNat:=a9e m;have ec:(numS (Int.ofNat m)).cps.toList=(Nat.toDigits 10 m).map Char.toNat:=qQ m;have e:=Kd (x:=numS (Int.ofNat m)) (by rw[ec];erw[pD m]) (by rw[ec];erw[DJ m]) hl;rw[ec,PySem.W.KIN.val_back]at e;rw[ef,Vv (pD m),Vb,e];have h2:(decide (((Nat.toDigits 10 m).map Char.toNat)[0]? =some 48)&& !decide (numS (Int.ofNat m)="0"))=false:=by
   by_cases h0:m=0
   ·subst h0;decide+kernel
   ·rw[dE (Tg m h0)];rfl
  rw[h2];rfl |negSucc m=>have e:=intText_neg (x:=numS (Int.negSucc m)) (Au m) (pD (m+1)) (DJ (m+1)) hl;rw[PySem.W.KIN.val_back]at e;rw[a9d,Vv (pD (m+1)),Vb,dE (Tg (m+1) aL),e];erw[lC some (Int.negSucc_eq m).symm]
theorem kQ(h:c≠45)(h1:c<48):Free c (numS i):=λhc=>by cases i with |ofNat m=>rw[show(numS (Int.ofNat m)).cps.toList=_ from qQ m]at hc;have:=pD m c hc;omega |negSucc m=>
 rw[Au]at hc;rcases cM.mp hc with e|hc
 ·erw[h e]
 ·have:=pD (m+1) c hc
  omega
theorem a6E(h1:figs z≠[])(h2:(figs z).all isFig=true)(hl:z.length<=4300):∃n,intText? z=some n:=by
 unfold figs at h1 h2;split at h1
 ·rename_i r h
  rw[h]at h2;erw[_,intText_neg h (xD h2) h1 hl]
 ·rename_i h
  split at h2
  ·rename_i r h'
   exact(h r h').elim
  ·erw[_,Kd (xD h2) h1 hl]
theorem a1t(z:Str):(Txt.removeprefix z "-").cps.toList=figs z:=by
 rw[StrLaws.removeprefix_eq];have e1:(Str.ofString "-").cps.toList=[45]:=by decide+kernel
 have e2:(Str.ofString "-").length=1:=by decide+kernel
 have hn:z.cps.toList.length=z.length:=by simp[Str.length]
 rw[e2,StrLaws.subAt_eq,e1,e2,List.drop_zero];unfold figs;cases hz:z.cps.toList with |nil=>rw[hz]at hn;have h0:z.length=0:=hn.symm;rw[bc (by simp)];erw[hz] |cons a r=>
  rw[hz]at hn;simp only[gz]at hn;by_cases ha:a=45
  ·subst ha
   rw[ba (by simp;omega)];show((List.drop 1 (45::r)).take _).toArray.toList=r;rw[List.drop_one,List.tail_cons,tZ aL]
  ·rw[bc (by simp;intro _;erw[λe=>ha (by simpa using e)])]
   rw[hz];split
   ·rename_i h;simp at h;exact(ha h.1).elim
   ·rfl
end _T
namespace _L
open PySem PySem.Spec PyProof.Rows
inductive acO(tb:TE)(O:St)(Q:VK)(x:V)(H1:Hp):Prop |mk (z:Str)(h0:x= .str z)(h1:z.length<=16777216)(h2:if z="" then tb O H1 Q else Q (.str z) H1)
def YB(ta tb:TE):TE:=λO H Q=>ta O H λx H1=>acO tb O Q x H1
theorem Z3{z:Str}(h:z.length=0):z="":=_T.Av (by have:z.cps.size=0:=h;rw[Array.eq_empty_of_size_eq_zero this];rfl)
theorem QS(ha:PE X a ta)(hb:PE X (.BoolOp .Or (b::rest) pos) tb):PE X (.BoolOp .Or (a::b::rest) pos) (YB ta tb):=by
 intro pins s O H Q I h;erw[BoolOp_or (aZ (ha pins s O H _ I h) λv s1 #[x,H1,I1,r1,q1]=>?_)];let(z,rfl,hl,q1):=q1;let(t,rfl):=(show∃t,v=Value.str z t from r1);erw[P.truthy_str aL ?_];by_cases e:z=""
 ·rw[ba e]at q1
  subst e;erw[hb pins _ O H1 Q (I1.tok _) q1]
 ·rw[bc e]at q1
  have:((z.length:Int) !=0)=true:=by rw[bne_iff_ne];intro h0;erw[e (Z3 aL)]
  rw[this];erw[.str z,H1,I1.tok _,#[t,Z],q1]
section
variable {P:ag}{w:World}{K:aa}{mg:cm}{ay:Heap}{k:Nat}{sp:Sp}{C:Addr}{x m:Str}{f:Addr}{fd:FuncData}{ps:List Str}
theorem fu.d(F:fu P w K mg ay kd k f fd ps sp):fu P w K mg ay (rj P w) k f fd ps sp:=#[F.len,λA outer s H args us vs Q E hr he hb hv hs=>yd (F.run A outer s H args us vs Q E hr he hb hv hs) λr s' hq=>by cases r with |ok fl=>cases fl<;>erw[hq] |error e=>erw[hq.elim]]
theorem fu.n(F:fu P w K mg ay (rj P w) k f fd ps sp):fu P w K mg ay kd k f fd ps (λvs H Q _=>sp vs H Q E0):=#[λvs H Q E h=>F.len vs H Q E0 h,λA outer s H args us vs Q E hr he hb hv hs=>yd (F.run A outer s H args us vs Q E0 hr he hb hv hs) λr s' hq=>by cases r with |ok fl=>cases fl<;>erw[hq] |error e=>let(_,_,_,_,_,_,_,_,_,_,z):=hq;erw[z]]
theorem bj.d(F:bj P w K mg ay x k sp):y9 P w K mg ay x k sp:=by let(f,fd,ps,F,h1,h2,h3):=F;erw[f,fd,ps,F.d,h1,h2,h3]
theorem y9.le(F:y9 P w K mg ay x k sp)(h:k<=j):y9 P w K mg ay x j sp:=by let(f,fd,ps,F,h1,h2,h3):=F;erw[f,fd,ps,F.mono h,h1,h2,h3]
theorem E8.n(F:E8 P w K mg ay C m k sp):dA P w K mg ay C m k (λvs H Q _=>sp vs H Q E0):=by let(f,fd,ps,F,h1,h2):=F;erw[f,fd,ps,F.n,h1,h2]
end
end _L
namespace _t
open _l
end _t
namespace _L
open PySem PySem.Spec PyProof.Rows
theorem a0W:typeLookup (.type "list_reverseiterator") "__len__"=pure none:=by rw[typeLookup_type,builtinLookup_eq_fast];kernel_rfl
theorem a0Y:typeLookup (.type "list_reverseiterator") "__length_hint__"=pure (some (.builtin "list_reverseiterator.__length_hint__")):=by rw[typeLookup_type,builtinLookup_eq_fast];kernel_rfl
section
variable {prog:ag}{w:World}{A:ai}{E:Value->af->Prop}{s:af}
def E4(I l:Addr)(its:Array Value)(i:Nat)(s:af):Prop:=i<=its.size/\s.heap.IsRevIter I l ((its.size:Int)-1-(i:Int))/\s.heap.IsList l its
theorem a0U(hh:A.handled=none)(I l:Addr)(cD:l≠I)(its:Array Value): WalksS prog w A I [I,l] [I] Eq its.size (λi v=>its[its.size-1-i]? =some v) (E4 I l its) where
 sub:=λb hb=>cM.mpr (.inl (cV.mp hb))
 grefl:=λ_=>rfl
 gtrans:=λ_ _ _=>Eq.trans
 frame:=λi s h' tk x _ hk=>#[x.1,x.2.1.at λo e=>hk I (by simp) o e,x.2.2.at λo e=>hk l (by simp) o e]
 item:=λi s Q E hi x hQ=>by
  have e:(its.size:Int)-1-(i:Int)=((its.size-1-i:Nat):Int):=by omega
  have hit:=x.2.1;rw[e]at hit;erw[wpAny_pyNext_rev_item hit x.2.2 (KI (i:=its.size-1-i) aL) λh' a7A U6=>?_];erw[hQ _ {s with heap:=h'} (KI aL) #[hi,?_,x.2.2.at λo eo=>(U6.2 l cD).trans eo] #[λb o hb eo=>U6.extBut b o (λz=>hb (cV.mpr z)) eo,Z,Z,Z,aV _]];have e2:((its.size-1-i:Nat):Int)-1=(its.size:Int)-1-((i+1:Nat):Int):=by omega
  rw[<-e2];erw[a7A]
 done:=λs Q E x hQ=>by have hit:=x.2.1;rw[show(its.size:Int)-1-(its.size:Int)=-1 by omega]at hit;erw[wpAny_pyNext_rev_end hh hit λh' IC=>hQ {s with heap:=h'} #[λb o hb eo=>IC b o (λz=>hb (cV.mpr z)) eo,Z,Z,Z,aV _]]
 self:=λ_ _ _ _ x hQ=>wpAny_pyIter_revIter x.2.1 hQ
theorem a0Z{l:Addr}{Q:List Value->af->Prop}(hh:A.handled=none)(cD:l≠I)(x:E4 I l its 0 s)(hI:I<s.heap.objs.size)(hl:l<s.heap.objs.size)(hn:its.size<=sizeLine) (hQ:∀s' acc,Moved [I] Eq s s'->ItemsOf (λi v=>its[its.size-1-i]? =some v) acc its.size->Q acc.toList s'):wpAny (model prog w) A (collect (.ref I)) Q E s:=by
 have W:=a0U (prog:=prog) (w:=w) (A:=A.in1) hh I l cD its;have hT:∀{i s},E4 I l its i s->s.TypeIs (.ref I) "list_reverseiterator":=λy=>y.2.1.typeIs;obtain⟨S,hS⟩:∃S,s.heap.objs.size=S:=#[_,Z];let nw:Obj:={cls:=.type "list",data:=.seq ([]:List Value).toArray};have Ur:S≠I:=yh (hS▸hI);have hSl:S≠l:=yh (hS▸hl);have hSf:S∉[I,l]:=by simp[Ur,hSl]
 have sf:Builtin.List.listSameRef (.ref S) (.ref I)=false:=by simp[Builtin.List.listSameRef,Ur]
 have y:=W.frame 0 s (s.heap.push nw) s.toks x (aV _) λb _ o e=>cF _ e;have aS:(s.heap.push nw).get? S=some nw:=by rw[<-hS];erw[eJ _ rfl]
 unfold collect;apply aJ;apply wpAny_runValue;apply codeAny_builtin F.entry_proto_collect;rw[Xr F.plain_proto_collect _];apply aJ (m:=newList []);erw[o7 ?_];rw[hS];erw[cf #[plainId_quiet F.plain_list_iadd _,codeAny_builtin F.entry_list_iadd ?_]];rw[Xr F.plain_list_iadd _];show wpAny _ A.in1 (Builtin.List.listExtendWith (.ref S) (.ref I) (.ref S)) _ _ _;unfold Builtin.List.listExtendWith;apply aJ;apply wpAny_typeOf (hT y);rw[bc (by rw[sf];decide)];apply aJ;apply W.self 0 _ _ _ y;apply aJ;apply rk;unfold Builtin.List.listLengthHint;apply aJ;apply Eb (hT y) a0W;apply aJ (m:=specialOf (Value.ref I) (Str.ofString "__length_hint__"));apply Eb (hT y) a0Y
 (generalize Ui:("list_reverseiterator.__length_hint__":String)=z0;wp_delta;rw[show splitId z0=some ("list_reverseiterator","__length_hint__")from by subst Ui;decide+kernel];subst Ui);apply aJ;apply wpAny_isInstance (b:=true) (hT y) (by rw[isSubtype_type];kernel_rfl);apply cf;rw[bc aw];erw[cf #[plainId_quiet F.plain_extend_loop _,codeAny_extend_loopS W hn _ hSf _ its.size 0 _ _ _ Z (eX _) y aS (ItemsOf.nil _) λs' aco c' hm lV xA=>?_]];apply aJ (m:=load S);apply wpAny_load lV;erw[cf (hQ s' aco (Moved.drop_new (o:=nw) (tk:=s.toks) (hS▸hm) (aV _)) xA)]
theorem a0V(sep:Str):∀(ps:List (Str×Tok)),JoinOk sep (ps.map (·.1))=true->Gives (PySem.joinTail sep (strValues ps)) (joinMade sep ps) |[],h=>gives_joinTail sep [] ((Bs _).mp h) |[p],h=>gives_joinTail sep [p] ((Bs _).mp h) |p::q::r,h=>gives_joinTail sep (p::q::r) ((Bs _).mp h)
theorem a0X{I l:Addr}{its:Array Value}{zs:List Str}{sep:Str}{t:Tok}{Q:Value->af->Prop}(hh:A.handled=none)(cD:l≠I)(x:E4 I l its 0 s)(hI:I<s.heap.objs.size)(hl:l<s.heap.objs.size) (hz:StrsAre its.toList zs)(hn:its.size<=sizeLine)(bS:(zs.map (·.length)).sum+zs.length*sep.length<=16777216) (hQ:∀h' t' k,(∀b o,b≠I->s.heap.get? b=some o->h'.get? b=some o)->Q (.str (Txt.join sep zs.reverse) t') {s with heap:=h',toks:=k}): wpAny (model prog w) A (call (.builtin "str.join") [.str sep t,.ref I]) Q E s:=by
 have hT:s.TypeIs (.ref I) "list_reverseiterator":=x.2.1.typeIs;apply wpAny_call;erw[codeAny_call_builtin F.slot_str_join.plain F.entry_str_join (F.slot_str_join.check _ _ _ _ _ _ _ _ (B8 _ _ _) (F.args_str_join_2 _ _) ?_)];rw[join_tree_other];erw[aJ (wpAny_typeOf hT ?_)];show wpAny _ A.in1 ((pyIter (.ref I)).tryCatch _>>=λit=>collect it>>=λvs=>PySem.joinTail sep vs) _ _ s;erw[aJ (wpAny_tryCatch (wpAny_pyIter_revIter x.2.1 ?_))];erw[aJ (a0Z hh cD x hI hl hn λs' acc hm xA=>?_)];have ea:acc.toList=its.toList.reverse:=by
  erw[KA λj=>?_];by_cases hj:j<its.size
  ·have h1:=xA.2 j _ (KI (by rw[xA.1];erw[hj]))
   rw[List.getElem?_reverse (by simpa using hj),mR,Xo,Xo];exact(KI (by rw[xA.1];erw[hj])).trans h1.symm
  ·exact(og (by rw[mR,xA.1];omega)).trans (og (by rw[List.length_reverse,mR];omega)).symm
 let(ps,hv,ht):=strsAre_values hz;have ev:strValues ps.reverse=acc.toList:=by rw[ea,hv];unfold strValues;rw[Xb]
 have et:(ps.reverse).map (·.1)=zs.reverse:=by rw[Xb,ht]
 have ok:JoinOk sep (ps.reverse.map (·.1))=true:=joinOk_of (by rw[et,Xb,List.sum_reverse,List.length_reverse];erw[bS]);rw[<-ev];have uN:=(Bs _).mp ok;have post:(Txt.join sep (ps.reverse.map (·.1))).length<=sizeLine/\∀t' k,Q (.str (Txt.join sep (ps.reverse.map (·.1))) t') {s' with toks:=k}:=by
  erw[joinFit_length uN,λt' k=>?_];rw[et];have e:({s' with toks:=k}:af)={s with heap:=s'.heap,toks:=k}:=by rcases s' with⟨a,b,c,d,f⟩;have e1:_=b:=hm.gens;have e2:c=_:=hm.drawn;have e3:f=_:=hm.os;subst e1 e2 e3;rfl
  rw[e];erw[hQ _ t' k λb o hb eo=>hm.heap b o (λz=>hb (cV.mp z)) eo]
 erw[a0V sep ps.reverse ok prog w A (wants Q E) s' (post_join ps.reverse post)]
end
section
variable {X:Cx}
inductive aeA(K:aa)(x:V)(vs:List V)(H:Hp)(Q:VK):Prop |mk (sep:Str)(l:Addr)(zs:List Str)(h0:x= .str sep)(h1:vs=[.ref l])(h2:aD K H l (zs.map V.str))(h3:(∀z∈zs,z.length<=4000))(h4:sep.length<=8)(h5:zs.length<=1000)(h6:Q (.str (Txt.join sep zs.reverse)) H)
def YL(K:aa)(to:TE)(t:TA):TE:=λO H Q=>to O H λx H1=>EG K "str" x H1/\t O H1 λvs H2=>aeA K x vs H2 Q
theorem a2I(K:aa)(h:X.K=K){o a:Expr}{to:TE}{t:TA}{apos cA p pos:Pos}(hg:Gl X "reversed")(hm:X.mg "reversed"=none)(ho:PE X o to)(ha:PA X [a] t)(hc:autoParam (X.calm=true) r8_._auto_1) (jv:autoParam (attributeBase o "join" X.env (eval o X.env)=eval o X.env) r8_._auto_1) (jt:autoParam (((backTo cA (starEach [.Call (.Name "reversed" p) [a] [] pos] X.env)).all (λx=>!x.1)&&(backToKw cA (keywordEach [] X.env)).all (λx=>x.1.isSome) &&decide ([Expr.Call (.Name "reversed" p) [a] [] pos].length+([]:List Keyword).length+(if([]:List Keyword).isEmpty then 0 else 1)<30))=true) r8_._auto_1) (jr:autoParam ((apos.endLine==cA.line)=true) r8_._auto_1)(hs:autoParam (starEach [.Call (.Name "reversed" p) [a] [] pos] X.env=(false,eval (.Call (.Name "reversed" p) [a] [] pos) X.env)::starEach [] X.env) r8_._auto_1) (jq:autoParam ((backTo cA (starEach [] X.env)).any (·.1)=false) r8_._auto_1)(hs1:autoParam (starEach [a] X.env=[(false,eval a X.env)]) r8_._auto_1)(hV:autoParam (starEach [] X.env=[]) r8_._auto_1): PE X (.Call (.Attribute o "join" apos) [.Call (.Name "reversed" p) [a] [] pos] [] cA) (YL K to t):=by
 subst h;intro pins s O H Q I h;erw[wpAny_Call_method_late jv jt jr Z (aZ (ho pins s O H _ I h) λv s1 #[x,H1,I1,r1,ty,q1]=>?_)];let(h1,h2):=KZ I1 r1 ty;erw["str","str.join",Bf,PySem.F.slot_str_join,PySem.F.type_str_join,h1,h2,?_];rw[hs];erw[Calls.callWith_builtin (by show(false||(backTo cA (starEach [] X.env)).any (·.1))=false;rw[jq]<;>rfl) (Calls.evalArgs_plain ?_)];show wpAny _ _ (spliced ((false,eval (.Call (.Name "reversed" p) [a] [] pos) X.env)::backTo cA (starEach [] X.env))) _ _ s1;erw[Calls.spliced_cons ?_];erw[Call_ (qv I1 hg hm PyProof.Rows.boot_reversed (yf (aZ (ha pos pins s1 O H1 _ I1 q1) λus s2 #[vs,H2,I2,r2,q2]=>?_) (by rw[hs1,hV]) (by rw[hV];rfl)))];let(sep,l,zs,rfl,rfl,hl,hz,hb,hn,q):=q2;let(tk,rfl):=r1;let(u,rfl,ru):=vals1 r2;cases(show u=Value.ref l from ru);let(its,r,pl,_):=I2.list hl;have hlen:=r.length;rw[aW]at hlen;have Il:=sumLen_le_of_bound id 4000 zs hz;rw[List.map_id]at Il;have hle:zs.length*sep.length<=1000*8:=o8 hn hb;erw[call_reversed_list pl.isList ?_];have fresh:=I2.bS.fresh (aV s2.heap.objs.size);have I3:Inv X pins O H2 {s2 with heap:=s2.heap.push (revObj l ((its.toArray.size:Int)-1))}:=I2.kept (t':=s2.toks) λb o e=>cF _ e;let(f0,f1,f2,f3,f4,f5):=I2.qG (pins:=pins) (aV s2.heap.objs.size) fresh;erw[Calls.spliced_nil ?_];have cD:l≠s2.heap.objs.size:=λz=>by let(o,ho,_):=pl.isList;erw[absurd (cE ho) (by rw[z];erw[we _])]
 have p5:l<s2.heap.objs.size:=by let(o,ho,_):=pl.isList;erw[cE ho]
 have ck:∀{b},b<=s2.heap.objs.size->b<(s2.heap.push (revObj l ((its.toArray.size:Int)-1))).objs.size:=λ{b} e=>by rw[pL];erw[Nat.lt_succ_of_le e]
 erw[a0X (its:=its.toArray) (zs:=zs) (I2.ok.hd hc) cD #[eX _,#[_,eJ _ Z,Z,by show Data.fields _=Data.fields _;simp],Heap.IsList.at pl.isList λo e=>cF _ e] (ck (aV _)) (ck (Bi p5)) (StrsAre.of_carried (JE r)) (by rw[eH,<-hlen,B9];omega) aL λh' t' k kk=>?_];erw[.str _,H2,I3.turned (t':=k) kk f0 f1 f3 f4 f5,#[_,Z],q]
inductive aeo(x:V)(vs:List V)(H:Hp)(Q:VK):Prop |mk (z:Str)(i:Int)(h0:x= .str z)(h1:vs=[.int i])(h3:PadOk i=true)(h4:Q (.str (Txt.zfill z i)) H)
def Qy:V->List V->Hp->VK->Prop:=λx vs H Q=>aeo x vs H Q
theorem a5d:y4 X "str.zfill" Qy:=by intro pins s O H x0 vs v us Q I rx rv h;let(x,i,rfl,rfl,hp,q):=h;let(t,rfl):=rx;let(u0,rfl,u,rfl):=vals1 rv;erw[SC.zfill hp λt' k=>#[.str _,H,I.tok k,#[_,Z],q]]
theorem a2F(K:aa)(h:X.K=K){o e:Expr}{to:TE}{t:TA}{apos cA:Pos}(ho:PE X o to)(ha:PA X [e] t) (jv:autoParam (attributeBase o "zfill" X.env (eval o X.env)=eval o X.env) r8_._auto_1) (jt:autoParam (((backTo cA (starEach [e] X.env)).all (λx=>!x.1)&&(backToKw cA (keywordEach [] X.env)).all (λx=>x.1.isSome) &&decide ([e].length+([]:List Keyword).length+(if([]:List Keyword).isEmpty then 0 else 1)<30))=true) r8_._auto_1) (jr:autoParam ((apos.endLine==cA.line)=true) r8_._auto_1)(hs:autoParam (starEach [e] X.env=(false,eval e X.env)::starEach [] X.env) r8_._auto_1)(jq:autoParam ((backTo cA (starEach [] X.env)).any (·.1)=false) r8_._auto_1): PE X (.Call (.Attribute o "zfill" apos) [e] [] cA) (rP K "str" Qy to t):=by subst h;erw[uH Bf PySem.F.slot_str_zfill PySem.F.type_str_zfill a5d ho ha jv jt jr hs jq]
inductive aeq(x:V)(vs:List V)(H:Hp)(Q:VK):Prop |mk (z y:Str)(h0:x= .str z)(h1:vs=[.str y])(h4:Q (.bl (Txt.startswith z y)) H)
def Qz:V->List V->Hp->VK->Prop:=λx vs H Q=>aeq x vs H Q
theorem a5e:y4 X "str.startswith" Qz:=by intro pins s O H x0 vs v us Q I rx rv h;let(x,y,rfl,rfl,q):=h;let(t,rfl):=rx;let(u0,rfl,u,rfl):=vals1 rv;erw[SC.startswith #[.bl _,H,I,Z,q]]
theorem a2G(K:aa)(h:X.K=K){o e:Expr}{to:TE}{t:TA}{apos cA:Pos}(ho:PE X o to)(ha:PA X [e] t) (jv:autoParam (attributeBase o "startswith" X.env (eval o X.env)=eval o X.env) r8_._auto_1) (jt:autoParam (((backTo cA (starEach [e] X.env)).all (λx=>!x.1)&&(backToKw cA (keywordEach [] X.env)).all (λx=>x.1.isSome) &&decide ([e].length+([]:List Keyword).length+(if([]:List Keyword).isEmpty then 0 else 1)<30))=true) r8_._auto_1) (jr:autoParam ((apos.endLine==cA.line)=true) r8_._auto_1)(hs:autoParam (starEach [e] X.env=(false,eval e X.env)::starEach [] X.env) r8_._auto_1)(jq:autoParam ((backTo cA (starEach [] X.env)).any (·.1)=false) r8_._auto_1): PE X (.Call (.Attribute o "startswith" apos) [e] [] cA) (rP K "str" Qz to t):=by subst h;erw[uH Bf PySem.F.slot_str_startswith PySem.F.type_str_startswith a5e ho ha jv jt jr hs jq]
inductive aeN(xs:List V)(H:Hp)(Q:VK):Prop |mk (i j:Int)(h0:xs=[.int i,.int j])(h1:0<j)(h2:Wd j)(h3:∀p H',Nw H H' p (.tup [.int (i/j),.int (i%j)])->Q (.ref p) H')
theorem abM:fw X (.builtin "divmod") (λxs H Q=>aeN xs H Q):=by intro pins s O H xs us Q I r h;let(i,j,rfl,h1,h2,q):=h;let(u,w',rfl,(t,rfl),(t',rfl)):=vals2 r;erw[divmod_int aL ?_ (.inl (X0 h2.log))];rw[Int.fdiv_eq_ediv_of_nonneg i aL,Xl i aL];have hn:H s.heap.objs.size=none:=I.bS.fresh (aV _);erw[.ref s.heap.objs.size,upd H s.heap.objs.size (.tup [.int (i/j),.int (i%j)]),?_,Z,q _ _ (Nw.of hn)];erw[I.laid (λb o e=>cF _ e) (aV _) #[by show 2<=sizeLine;decide,[.int (i/j) s.toks,.int (i%j) (s.toks+1)],.cons #[_,Z] (.cons #[_,Z] .nil),_,eJ s.heap Z,Z,0,Z]]
end
theorem a94{z:Str}{g:TG}{tb:TS}{D:Ends}{O:St}{H:Hp}(Pv:Nat->St->Hp->Prop)(h0:Pv 0 O H) (hs:∀i c O H,z.cps.toList[i]? =some c->Pv i O H->g (.str ⟨#[c]⟩) O H λσ2 H2=>tb {D with nx:=Pv (i+1),ct:=Pv (i+1),bk:=D.nx} σ2 H2)(hd:∀O H,Pv z.cps.size O H->D.nx O H): ∃W:Nat->Nat->St->Hp->Prop,(∃m,W 0 m O H)/\∀i m O H,W i m O H->((y6 z).stop i H/\D.nx O H)\/((y6 z).go i H/\∃N:St->Hp->Prop,(∀σ' H',N σ' H'->∃m',m'<m/\W (i+1) m' σ' H')/\∀x H',(y6 z).je i H x H'->g x O H' λσ2 H2=>tb {D with nx:=N,ct:=N,bk:=D.nx} σ2 H2):=by
 erw[λi m O H=>m=z.cps.size-i/\i<=z.cps.size/\Pv i O H,#[z.cps.size,by simp,eX _,h0],?_];rintro i m O H ⟨rfl,hi,p⟩;by_cases ck:i<z.cps.size
 ·erw[.inr #[ck,Pv (i+1),λσ' H' q=>#[z.cps.size-(i+1),aL,Z,ck,q],λx H' hy=>?_]]
  let(rfl,c,hc,rfl):=hy;erw[hs i c O _ hc p]
 ·have e:i=z.cps.size:=by omega
  subst e;erw[.inl #[aV _,hd O H p]]
end _L
namespace _N
open PySem PySem.Spec PyProof.Rows PySem.NumText _T
def mY:Nat->Nat->List Char |0,_=>[] |e+1,r=>mY e (r/10)++[(r%10).digitChar]
theorem Vw:∀e m:Nat,10^e<=m->Nat.toDigits 10 m=Nat.toDigits 10 (m/10^e)++mY e (m%10^e)
 |0,m,_=>by simp[mY] |e+1,m,h=>by
  have hp:0<10^e:=Nat.pow_pos aw;have qF:10<=m:=by rw[wc]at h;omega
  have hd:10^e<=m/10:=by rw[Nat.le_div_iff_mul_le aw];rw[wc]at h;erw[h]
  rw[Nat.toDigits_of_base_le aw qF,Vw e (m/10) hd,Nat.div_div_eq_div_mul,<-Nat.pow_succ',yn];show _=_++(mY e (m%10^(e+1)/10)++[(m%10^(e+1)%10).digitChar]);rw[Nat.pow_succ',Nat.mod_mul_right_div_self,Nat.mod_mul_right_mod]
theorem QU:∀e:Nat,mY e 0=List.replicate e '0' |0=>rfl |e+1=>by show mY e 0++['0']=_;rw[QU e,List.replicate_succ']
theorem QV:∀e r:Nat,r<10^(e+1)->mY (e+1) r=List.replicate (e+1-(Nat.toDigits 10 r).length) '0'++Nat.toDigits 10 r
 |0,r,h=>by have h:r<10:=h;rw[X5 h];show[]++[(r%10).digitChar]=_;rw[Nat.mod_eq_of_lt h];rfl |e+1,r,h=>by
  show mY (e+1) (r/10)++[(r%10).digitChar]=_;by_cases hr:r<10
  ·rw[Nat.div_eq_of_lt hr,QU,Nat.mod_eq_of_lt hr,X5 hr]
   simp
  ·have hd:r/10<10^(e+1):=by rw[Nat.div_lt_iff_lt_mul aw,<-wc];erw[h]
   rw[QV e (r/10) hd,Nat.toDigits_of_base_le (b:=10) (n:=r) aw aL,cv,yn];have:e+1+1-((Nat.toDigits 10 (r/10)).length+[(r%10).digitChar].length)=e+1-(Nat.toDigits 10 (r/10)).length:=by simp
   rw[this]
theorem KJ(r:Nat)(h:r<10^64):(Txt.zfill (numS (r:Int)) 64).cps.toList=(mY 64 r).map Char.toNat:=by
 have ec:=qQ r;have el:(numS (r:Int)).length=(Nat.toDigits 10 r).length:=by show(numS (r:Int)).cps.size=_;rw[<-mR,ec,aW]
 rw[QV 63 r h,fT,List.map_replicate];unfold Txt.zfill;split
 ·rename_i hl
  have:64-(Nat.toDigits 10 r).length=0:=by omega
  show(numS (r:Int)).cps.toList=_;rw[ec,show 63+1-(Nat.toDigits 10 r).length=0 by omega];rfl
 ·rename_i hl
  have hd:=pD r;have h0:∀c,(numS (r:Int)).cps[0]? =some c->48<=c:=λc e=>by rw[<-Xo,ec]at e;exact(hd c (fz e)).1
  have hz:zfilled (numS (r:Int)) ((64:Int).toNat-(numS (r:Int)).length)=Builtin.Str.padded (numS (r:Int)) ((64:Int).toNat-(numS (r:Int)).length) 0 48:=by
   unfold zfilled;split
   ·rename_i e;erw[absurd (h0 _ e) aw]
   ·rename_i e;erw[absurd (h0 _ e) aw]
   ·rfl
  rw[hz];show(Array.replicate _ 48++(numS (r:Int)).cps++Array.replicate 0 48).toList=_;rw[oo,oo,Array.toList_replicate,ec,el];simp
theorem a4x(m:Nat)(h:10^64<=m):numS (m:Int)=numS ((m/10^64:Nat):Int)++Txt.zfill (numS ((m%10^64:Nat):Int)) 64:=by erw[Av ?_];rw[rA,oo,qQ,qQ,KJ _ (Nat.mod_lt _ (Nat.pow_pos aw)),<-fT,<-Vw 64 m h]
theorem a4w(h:i<0):numS i="-"++numS (-i):=by obtain⟨m,rfl⟩:∃m:Nat,i=Int.negSucc m:=#[(-i-1).toNat,aL];erw[Av ?_];rw[rA,oo,Au,show-Int.negSucc m=((m+1:Nat):Int)from Z,qQ];rfl
theorem Xy{r:Nat}(h:r<10^64):(Txt.zfill (numS (r:Int)) 64).length=64:=by
 show(Txt.zfill (numS (r:Int)) 64).cps.size=64;rw[<-mR,KJ r h,aW];have:∀e r,(mY e r).length=e:=λe=>by induction e with |zero=>intro r;rfl |succ e ih=>intro r;show(mY e (r/10)++[_]).length=_;rw[cv,ih];rfl
 erw[this 64 r]
def cat(zs:List Str):Str:=Txt.join "" zs
theorem abB:cat []=Str.empty:=by unfold cat Txt.join;rw[tW];rfl
theorem VS(z:Str)(zs:List Str):cat (z::zs)=z++cat zs:=by unfold cat Txt.join;rw[tW,tW];cases zs with |nil=>exact(Str.append_empty z).symm |cons y r=>show(z++"")++PySem.Str.join "" (y::r)=_;rw[show(Str.ofString "")=Str.empty from by decide+kernel,Str.append_empty]
structure Wr(N r:Nat)(zs:List Str):Prop where
 e:numS (N:Int)=numS (r:Int)++cat zs.reverse
 d:r=N/(10^64)^zs.length
 l:∀z∈zs,z.length<=64
 b:zs.length=0\/(10^64)^zs.length<=N
theorem Wr.nil(N:Nat):Wr N N []:=#[by rw[show([]:List Str).reverse=[]from Z,abB,Str.append_empty],by simp,λ_ h=>by simp at h,.inl rfl]
theorem Wr.step(h:Wr N r zs)(hr:10^64<=r):Wr N (r/10^64) (zs++[Txt.zfill (numS ((r%10^64:Nat):Int)) 64]):=by
 have hm:r%10^64<10^64:=Nat.mod_lt _ (Nat.pow_pos aw);erw[?_,?_,λz hz=>?_,.inr ?_]
 ·rw[List.reverse_append,List.reverse_cons,List.reverse_nil,Er,List.singleton_append,VS,<-Str.append_assoc,<-a4x r hr]
  erw[h.e]
 ·rw[cv,yj,wc (10^64) zs.length,<-Nat.div_div_eq_div_mul,<-h.d]
 ·rcases gy.mp hz with hz|hz
  ·erw[h.l z hz]
  ·rw[cV.mp hz,Xy hm];erw[aV _]
 ·rw[cv,yj,wc (10^64) zs.length,En]
  have h2:=h.d;generalize(10^64)^zs.length=B at*;rw[h2]at hr;by_cases hB:B=0
  ·subst hB;simp
  ·exact(Nat.le_div_iff_mul_le (Nat.pos_of_ne_zero hB)).mp hr
theorem Wr.len(h:Wr N r zs)(hN:N<10^540):zs.length<=8:=by
 rcases h.b with e|e
 ·omega
 ·rw[<-Nat.pow_mul]at e
  have:=(Nat.pow_lt_pow_iff_right (a:=10) aw).mp (Eo e hN);omega
theorem Ta(h:m<10^540):((m:Nat):Int).natAbs.log2<1920:=by
 rw[Xi];by_cases h0:m=0
 ·rw[h0];decide
 ·exact(Nat.log2_lt h0).mpr (rC h aG)
theorem a63(h:i.natAbs<10^540):(numS i).length<=541:=by show(Str.ofString (toString i)).length<=541;rw[WU];erw[WQ (k:=540) aw h]
theorem acp(h:¬i<0):((i.natAbs:Nat):Int)=i:=by omega
theorem abs_neg(h:i<0):((i.natAbs:Nat):Int)=-i:=by omega
theorem ab0(cs:List Nat)(c:Nat):digitsVal (cs++[c])=digitsVal cs*10+(c-48):=by unfold digitsVal;rw[u9];rfl
theorem Vj{cs:List Nat}{i c:Nat}(h:cs[i]? =some c):digitsVal (cs.take (i+1))=digitsVal (cs.take i)*10+(c-48):=by rw[List.take_add_one,h];erw[ab0 _ _]
theorem Vk{cs:List Nat}(h:AllDigits cs):∀i,digitsVal (cs.take i)<10^i |0=>by simp[digitsVal] |i+1=>by have ih:=Vk h i;rw[wc];cases hc:cs[i]? with |none=>rw[List.take_add_one,hc];simp;omega |some c=>have:=h c (fz hc);rw[Vj hc];omega
theorem YW(z:Str):Txt.startswith z "-"=decide (z.cps.toList.head? =some 45):=by
 have e1:(Str.ofString "-").cps.toList=[45]:=by decide+kernel
 have e2:(Str.ofString "-").length=1:=by decide+kernel
 have hn:z.cps.toList.length=z.length:=by simp[Str.length]
 unfold Txt.startswith;rw[e2,StrLaws.subAt_eq,e1,e2,List.drop_zero,<-hn];cases z.cps.toList with |nil=>rfl |cons c r=>simp[Xn]
theorem a4v{z y:Str}{n:Int}(ef:y.cps.toList=figs z)(h1:figs z≠[])(h2:(figs z).all isFig=true)(hl:z.length<=4300)(hn:intText? z=some n): n=if Txt.startswith z "-"=true then-((digitsVal y.cps.toList:Nat):Int)else((digitsVal y.cps.toList:Nat):Int):=by
 rw[YW,ef];unfold figs at*;split at h1
 ·rename_i r h
  rw[h]at h2;have e:=intText_neg h (xD h2) h1 hl;rw[hn]at e;rw[h];simpa using e
 ·rename_i h
  split at h2
  ·rename_i r h'
   exact(h r h').elim
  ·have e:=Kd (xD h2) h1 hl
   rw[hn]at e;have hh:z.cps.toList.head? ≠some 45:=λz'=>by cases hz:z.cps.toList with |nil=>rw[hz]at z';cases z' |cons c r=>rw[hz]at z';cases z';erw[h r hz]
   rw[dE hh];simpa using e
theorem Y4(h1:48<=c)(h2:c<=57):intText? ⟨#[c]⟩=some ((c-48:Nat):Int):=by have e:=Kd (x:=⟨#[c]⟩) (λa ha=>by rw[cV.mp ha];erw[h1,h2]) (by simp) (by show 1<=4300;decide);rw[e];show some (((0*10+(c-48):Nat):Nat):Int)=_;rw[Nat.zero_mul,Nat.zero_add]
end _N
namespace _L
open PySem PySem.Spec PyProof.Rows
section
variable {prog:ag}{w:World}{A:ai}{E:Value->af->Prop}{s:af}
end
section
variable {X:Cx} {tg:Expr} {ex:Addr}
end
section
variable {X:Cx} {ex:Addr} {pos:Pos}
end
section
variable {K:aa} {H:Hp}
end
section
variable {X:Cx}{ex:Addr}{k:Nat}{x m:Str}{C:Addr}{p pos apos:Pos}{o e:Expr}{es:List Expr}{t:TA}{ta:TE}{sp:Addr->Sp}
end
section
variable {X:Cx}{CX:kb}{k:Nat}{f:Addr}{fd:FuncData}{ps:List Str}{sp:Sp}{gw:List V}{ds:List Value}{E:St->XK}{x:Str}{p pos:Pos}{e:Expr}{es:List Expr}{t:TA}
end
section
variable {X:Cx}{i:Nat}{n y:Str}{Dc:Addr}{JJ:List Value}{newD:String}{body ET:List Stmt}{b0:Stmt}{np zU pos:Pos}{tb:(St->XK)->TS}{th:TS}{Cs:Addr->Prop}
end
section
variable {prog:ag}{w:World}{A:ai}{E:Value->af->Prop}{s:af}{I ax ex:Addr}
end
section
variable {X:Cx}
end
section
variable {X:Cx}{ex:Addr}{k:Nat}{x m:Str}{C:Addr}{p pos apos:Pos}{o e:Expr}{es:List Expr}{t:TA}{ta:TE}{sp:Addr->Sp}
end
section
variable {X:Cx}{y:Str}{Dc:Addr}{JJ:List Value}{newD:String}{body ET:List Stmt}{b0:Stmt}{np zU pos:Pos}{tb:(St->XK)->TS}{th:Addr->TS}{Cs:Addr->Prop}
end
section
variable {K:aa} {H:Hp}
end
end _L
namespace _a
open PySem PySem.Spec PyProof.Rows _L _l _b _C _P _W _R
open _O (topR cornO mnO betR atO ownF leadF ownL OkI OkIs)
open _O (Itm)
open _T (numS)
open _O (topR cornO mnO betR atO ownF leadF ownL OkI OkIs Itm)
def top(i:Nat):Stmt:=PySem.Challenge.pw_glidequeue_k59_whole_told_at_once_is_the.main.body.getD i (.Pass #[0,0,0,0])
abbrev O5:Stmt:=top 125
abbrev PV:Stmt:=top 124
abbrev PQ:Stmt:=top 48
abbrev Pk:Stmt:=top 13
abbrev P6:Stmt:=top 50
abbrev P8:Stmt:=top 47
abbrev OX:Stmt:=top 43
abbrev O1:Stmt:=top 44
abbrev P4:Stmt:=top 45
abbrev P5:Stmt:=top 46
abbrev Pu:Stmt:=top 41
abbrev Pr:Stmt:=top 40
abbrev Pj:Stmt:=top 32
def kB:Str:="abcdefghijklmnopqrstuvwxyz"
abbrev NW:Stmt:=top 51
abbrev NX:Stmt:=top 14
abbrev NY:Stmt:=top 61
abbrev PL:Stmt:=top 58
abbrev Ph:Stmt:=top 60
abbrev NZ:Stmt:=top 59
abbrev PR:Stmt:=top 64
abbrev OP:Stmt:=top 63
abbrev OO:Stmt:=top 42
abbrev Ol:Stmt:=top 66
abbrev OY:Stmt:=top 69
abbrev ON:Stmt:=top 127
abbrev Po:Stmt:=top 37
abbrev Pl:Stmt:=top 36
abbrev PZ:Stmt:=top 35
abbrev Pq:Stmt:=top 30
abbrev Pm:Stmt:=top 21
abbrev OW:Stmt:=top 34
abbrev PU:Stmt:=top 33
abbrev Ft:Stmt:=top 71
abbrev O2:Stmt:=top 70
abbrev OT:Stmt:=top 54
abbrev O7:Stmt:=top 52
abbrev Oi:Stmt:=top 53
abbrev PM:Stmt:=top 122
abbrev O0:Stmt:=top 120
abbrev O8:Stmt:=top 119
abbrev Py:Stmt:=top 118
abbrev Oc:Stmt:=top 121
abbrev Px:Stmt:=top 67
abbrev OM:Stmt:=top 65
abbrev PD:Stmt:=top 72
abbrev PK:Stmt:=top 116
abbrev PX:Stmt:=top 117
abbrev P2:Stmt:=top 115
abbrev O4:Stmt:=top 73
abbrev Om:Stmt:=top 78
structure tO(K:aa)(C:Addr):Prop where
 cl:ka K C
 mq:iU K C "machine"
 xk:iU K C "begun_at"
 qj:iU K C "done"
 kS:iU K C "queue"
 xj:iU K C "pace"
 zI:iU K C "rate_now"
 GU:iU K C "side"
 GW:iU K C "mark"
 CG:iU K C "stopping"
abbrev Ov:Stmt:=inClass (top 77) 3
abbrev Oz:Stmt:=inClass (top 77) 4
abbrev Ou:Stmt:=inClass (top 77) 5
abbrev OC:Stmt:=inClass (top 77) 6
abbrev Oo:Stmt:=inClass (top 77) 7
abbrev OG:Stmt:=inClass (top 77) 8
abbrev Oy:Stmt:=inClass (top 77) 9
abbrev OF:Stmt:=inClass (top 77) 10
abbrev OA:Stmt:=inClass (top 77) 1
abbrev OD:Stmt:=inClass (top 77) 2
abbrev OE:Stmt:=inClass (top 77) 0
abbrev OH:Stmt:=inClass (top 77) 11
abbrev OK:Stmt:=inClass (top 77) 16
abbrev OB:Stmt:=inClass (top 77) 15
abbrev Ox:Stmt:=inClass (top 77) 14
abbrev OI:Stmt:=inClass (top 77) 13
abbrev OJ:Stmt:=inClass (top 77) 12
abbrev Ot:Stmt:=inClass (top 77) 21
abbrev Oe:Stmt:=top 83
def Ae:Str:="0123456789"
abbrev O6:Stmt:=top 92
abbrev OV:Stmt:=top 91
abbrev OS:Stmt:=top 90
abbrev Pg:Stmt:=top 89
abbrev Od:Stmt:=top 84
abbrev Of:Stmt:=top 86
abbrev Og:Stmt:=top 85
abbrev Pa:Stmt:=top 133
abbrev P9:Stmt:=top 132
abbrev Oh:Stmt:=top 88
abbrev Pb:Stmt:=top 134
abbrev OZ:Stmt:=top 126
abbrev OU:Stmt:=top 128
abbrev Pf:Stmt:=top 129
abbrev Fx:Stmt:=top 99
abbrev Fv:Stmt:=top 100
abbrev Fu:Stmt:=top 104
abbrev Fy:Stmt:=top 105
abbrev Fw:Stmt:=top 103
abbrev Q0:Stmt:=top 22
abbrev Pp:Stmt:=top 20
structure K9(K:aa)(D:Addr):Prop where
 cl:ka K D
 mq:iU K D "machine"
 uS:iU K D "runner"
abbrev PH:Stmt:=inClass (top 108) 0
abbrev OQ:Stmt:=top 109
abbrev Oa:Stmt:=inClass (top 108) 3
abbrev Ob:Stmt:=inClass (top 108) 4
abbrev O9:Stmt:=inClass (top 108) 2
abbrev Fj:Stmt:=inClass (top 108) 1
abbrev PF:Stmt:=top 31
abbrev Pt:Stmt:=top 130
abbrev O3:Stmt:=top 131
abbrev Oj:Stmt:=top 135
abbrev Pw:Stmt:=top 136
abbrev PY:Stmt:=top 137
abbrev P7:Stmt:=top 138
def Fb(K:aa):Sp:=λvs H Q _=>∃(a:Addr)(ns:List Int),vs=[.ref a]/\aD K H a (ns.map V.int)/\ns.length<=63/\∀H',Q (.bl true) H'
abbrev wA:Stmt:=top 139
structure fJ(K:aa)(mg:cm)(C D:Addr):Prop where
 tc:tO K C
 init:CA K mg C "Runner" "Runner.__init__" OE
 a5A:MA K C "place" "Runner.place" OA
 a5C:MA K C "leads_to" "Runner.leads_to" OD
 a5y:MA K C "square" "Runner.square" Ov
 a5z:MA K C "rate" "Runner.rate" Oz
 a5v:MA K C "tool" "Runner.tool" Ou
 a5D:MA K C "last_mark" "Runner.last_mark" OC
 a5t:MA K C "waiting" "Runner.waiting" Oo
 a5E:MA K C "is_held" "Runner.is_held" OG
 a5x:MA K C "stands" "Runner.stands" Oy
 a5F:MA K C "is_halted" "Runner.is_halted" OF
 a5G:MA K C "feed" "Runner.feed" OH
 a5I:MA K C "entries" "Runner.entries" OJ
 a5H:MA K C "entries_of_first" "Runner.entries_of_first" OI
 a5w:MA K C "steps_of_first" "Runner.steps_of_first" Ox
 a5B:MA K C "next_square" "Runner.next_square" OB
 a5J:MA K C "end_first" "Runner.end_first" OK
 a5u:MA K C "turn_rate" "Runner.turn_rate" Ot
 td:K9 K D
 ab9:CA K mg D "Desk" "Desk.__init__" PH
 say:MA K D "say" "Desk.say" Fj
 a0J:MA K D "say_steps" "Desk.say_steps" Oa
 a0K:MA K D "say_rate" "Desk.say_rate" Ob
 a0I:MA K D "say_to" "Desk.say_to" O9
structure All(w:World)(K:aa)(mg:cm):Prop where
 B:m8 mg
 vn:GT K mg "NOUGHT" [.int 0,.int 1]
 a8K:GT K mg "SIDES" [.str "up",.str "down"]
 a8Y:GT K mg "AXES" [.int 2,.int 3]
 UC:GV mg "PART" (.int 10000000000000000000000000000000000000000000000000000000000000000)
 a8L:GV mg "PART_FIGURES" (.int 64)
 a8Q:GV mg "LONGEST_RAIL" (.int 100)
 a8V:GV mg "GREATEST_CHANGE" (.int 50)
 a8N:GV mg "MOST_TICKS" (.int 100)
 UG:GV mg "MOST_STEPS" (.int 100)
 UH:GV mg "GREATEST_SPEED" (.int 20)
 a8P:GV mg "LONGEST_WAIT" (.int 1000)
 a8R:GV mg "LONGEST_NAME" (.int 8)
 a8T:GV mg "LEAST_RATE" (.int 10)
 a8U:GV mg "GREATEST_RATE" (.int 200)
 a8W:GV mg "FIRST_RATE" (.int 100)
 a8M:GV mg "MOST_WAITING" (.int 20)
 a8O:GV mg "MOST_ENTRIES" (.int 100)
 UD:GV mg "NOT_DUE" (.int 1)
 a8J:GV mg "WRONG_TICKS" (.int 2)
 a8Z:GV mg "ABOVE_TOP" (.int 3)
 a8S:GV mg "LETTERS" (.str kB)
 a8X:GV mg "FIGURES" (.str Ae)
 UE:GV mg "NOTHING" (.str "none")
 ans:∃a,GD w K mg "ANSWERS" a/\PySem.W.nsIn K a "place"=some (mg "answer_place")/\PySem.W.nsIn K a "square"=some (mg "answer_square")/\PySem.W.nsIn K a "plan"=some (mg "answer_plan")/\PySem.W.nsIn K a "tool"=some (mg "answer_tool")/\PySem.W.nsIn K a "mark"=some (mg "answer_mark")/\(∃v,PySem.W.nsIn K a "tool"=some (some v))/\(∃v,PySem.W.nsIn K a "mark"=some (some v))/\PySem.W.nsIn K a "line"=some none/\PySem.W.nsIn K a "wait"=some none/\PySem.W.nsIn K a "steps"=some none/\PySem.W.nsIn K a "rate"=some none/\PySem.W.nsIn K a "to"=some none
 dk:∃C D,fJ K mg C D
 law:FA K mg "law" wA
 a9Q:FA K mg "is_whole" Pk
 a9P:FA K mg "is_whole_within" NX
 a9X:FA K mg "is_machine" Pp
 a9V:FA K mg "is_place" Pm
 aac:FA K mg "are_rails" Q0
 a9Z:FA K mg "is_item" Pq
 UW:FA K mg "is_line" Pj
 a9B:FA K mg "place_behind" PU
 a9G:FA K mg "moved" OW
 aab:FA K mg "are_steps" PZ
 a9T:FA K mg "is_short_item" Pl
 a9W:FA K mg "is_name" Po
 aa2:FA K mg "fraction" Pu
 a9z:FA K mg "plus_whole" OO
 a9H:FA K mg "minus" OX
 a9l:FA K mg "times" O1
 a9Y:FA K mg "is_less" P4
 a9L:FA K mg "least" P5
 a9J:FA K mg "lowest_terms" P8
 aa7:FA K mg "common_divisor" PQ
 a9M:FA K mg "lead_of" P6
 a9j:FA K mg "ways_of" NW
 a9q:FA K mg "stand_at" O7
 a9o:FA K mg "step_rows" Oi
 a9F:FA K mg "nearest" OT
 aa6:FA K mg "corner_square" PL
 a9k:FA K mg "top_square" NZ
 a9U:FA K mg "is_rate" Ph
 aa1:FA K mg "greatest_turn" NY
 UT:FA K mg "own_bounds" OP
 aaa:FA K mg "bound_between" PR
 a9A:FA K mg "plan_of" OM
 a9N:FA K mg "kept_by_rise" Ol
 UU:FA K mg "kept_by_fall" Px
 a9m:FA K mg "ticks_of" O2
 UX:FA K mg "are_enough" Ft
 a9p:FA K mg "step_entry" PD
 a9y:FA K mg "reach_behind_first" Om
 a9w:FA K mg "show_fraction" Og
 a9u:FA K mg "show_number" Oe
 a9t:FA K mg "show_numbers" Od
 a9v:FA K mg "show_item" Of
 a9x:FA K mg "show_entry" Oh
 a9O:FA K mg "item_in" Pg
 a9D:FA K mg "numbers_in" OS
 a9s:FA K mg "size_of" O6
 a9E:FA K mg "number_in" OV
 aag:FA K mg "answer_place" Fx
 aae:FA K mg "answer_square" Fv
 aaf:FA K mg "answer_plan" Fw
 aad:FA K mg "answer_tool" Fu
 aah:FA K mg "answer_mark" Fy
 a9C:FA K mg "only_number" OQ
 aav:FA K mg "_law_bag" PV
 aaj:FA K mg "_law_take" O5
 aan:FA K mg "_law_machine" OZ
 aal:FA K mg "_law_place" ON
 aam:FA K mg "_law_name" OU
 aar:FA K mg "_law_item" Pf
 aao:FA K mg "_law_line_from" Pt
 aaq:FA K mg "_law_item_text" P9
 aai:FA K mg "_law_there" O3
 aas:FA K mg "_law_fraction_text" Pa
 aau:FA K mg "_law_entry_text" Pb
 aak:FA K mg "_law_row" Oj
 aat:FA K mg "_law_fed" Pw
 aaw:FA K mg "_law_all_told" PY
 aap:FA K mg "_law_last" P7
 a9K:FA K mg "look" P2
 aa5:FA K mg "due_entries" PK
 aa9:FA K mg "bounds_between" PX
 aa3:FA K mg "fault_of_entry" Py
 a9S:FA K mg "is_step_with" O8
 a9R:FA K mg "is_timed" O0
 a9r:FA K mg "square_of" Oc
 aa8:FA K mg "can_meet" PM
 aa0:FA K mg "is_fraction" Pr
 aa4:FA K mg "ends" PF
 a9I:FA K mg "middles" OY
 a9n:FA K mg "tape_of" O4
def AO(K:aa)(P:ag)(w:World)(mg:cm)(ay:Heap)(C:Addr)(D:Addr):Prop:=∀(f:Addr)(fd:FuncData),All w K mg->fJ K mg C D->lA K "law" "law" wA f fd->fu P w K mg ay kd 16 f fd ["_law_script"] (Fb K)
theorem neW:Nonempty (aa×ag×World×(cm)×Heap×Addr×Addr):=#[default,default,#[λ_ _=>0,{strHash:=λ_=>0,shareClass:=λa=>a,mergeTok:=id,idOf:=λ_=>0,idOfShared:=λ_ _=>0,followText:=λ_=>false,idOfImm:=λ_=>0}],λ_=>none,default,(0:Nat),(0:Nat)]
@[irreducible] noncomputable def KP:aa×ag×World×(cm)×Heap×Addr×Addr:=@Classical.epsilon _ neW λx=>¬AO x.1 x.2.1 x.2.2.1 x.2.2.2.1 x.2.2.2.2.1 x.2.2.2.2.2.1 x.2.2.2.2.2.2
@[irreducible] noncomputable def K:aa:=KP.1
@[irreducible] noncomputable def P:ag:=KP.2.1
@[irreducible] noncomputable def w:World:=KP.2.2.1
@[irreducible] noncomputable def mg:cm:=KP.2.2.2.1
@[irreducible] noncomputable def ay:Heap:=KP.2.2.2.2.1
@[irreducible] noncomputable def C:Addr:=KP.2.2.2.2.2.1
@[irreducible] noncomputable def D:Addr:=KP.2.2.2.2.2.2
theorem Yp(h:AO K P w mg ay C D)(K':aa)(P':ag)(w':World)(SF:cm)(Wb:Heap)(C':Addr)(D':Addr):AO K' P' w' SF Wb C' D':=Classical.byContradiction λn=>by have e:=Classical.epsilon_spec (p:=λx:aa×ag×World×(cm)×Heap×Addr×Addr=>¬AO x.1 x.2.1 x.2.2.1 x.2.2.2.1 x.2.2.2.2.1 x.2.2.2.2.2.1 x.2.2.2.2.2.2) #[(K',P',w',SF,Wb,C',D'),n];unfold K P w mg ay C D KP at h;erw[e h]
end _a
namespace _a
open PySem PySem.Spec PyProof.Rows _L
section
inductive ad5(vs:List V)(H:Hp)(Q:VK):Prop |mk (p:_)(many:_)(h0:vs=[.ref p,.int many])(h1:gI H p)(h2:1<=many)(h3:many<=10^40)(h4:∀d H',0<=d->d<many->bN p H H'->Q (.int d) H')
def Zq:Sp:=λvs H Q _=>ad5 vs H Q
theorem Mq:bf ["_law_bag_here","_law_many","_law_digit","_law_number","_law_room"] ["_law_bag_here","_law_many"] (aQ O5):=bo aG
theorem fX(AA:All w K mg):bj P w K mg ay "_law_take" 1 Zq:=by
 exists AA.aaj.has,Mq,eD λ_ _=>rfl
 ·let(p,many,rfl,(c,m,hp,ok),h1,h2,k):=h
  let(c0,m0,m1):=id ok;have nd:=Mq.nd;erw[_,(az (bI (bX Ci (px K (pv 0) aB) aB (bQ _)) (az (pS 2 nd (aM uI (px K (pv 0) aB) (pv 1))) (az (fg (aM zq (px K (pv 0) aB) (pv 1)) (uG (pv 0) aB set_list)) (aH (aO (pv 2))))) bP) (az (pS 3 nd aB) (az (pS 4 nd aB) (az (uE fS (bX oF (pv 4) (pv 1) (bQ _)) (az (fg (aM uI (aM Gr (aM dR (aM cN (px K (pv 0) aB) aB) aB) aB) aB) (uG (pv 0) aB set_list)) (az (pS 3 nd (aM dR (aM cN (pv 3) aB) (aM uI (aM cN (aM zq (px K (pv 0) aB) aB) aB) aB))) (aH (pS 4 nd (aM cN (pv 4) aB)))))) (aH (aO (aM uI (pv 3) (pv 1)))))))),?_];erw[_,Z,.inl #[p,_,0,.int c,Z,Z,aD.of hp,Z,_,_,Z,Z,_,Z,?_]];erw[fQ (λhc=>?_) (λ_=>?_)]
  ·erw[_,Z,.inl #[p,_,0,.int c,Z,Z,aD.of hp,Z,_,Z,_,_,Z,Z,h1,?_]]
   erw[_,Z,.inl #[p,_,0,.int c,Z,Z,aD.of hp,Z,_,Z,_,_,Z,Z,#[h1,KQ ao h2],?_]];erw[_,Z,p,_,0,0,Z,Z,hp,Z,?_];erw[_,Z,?_];erw[k _ _ (wm _ ao) (yu _ ao) (bN.upd #[Int.ediv_nonneg c0 ao,m0,m1])]
  ·erw[uf (λO H2=>∃(v:Option V)(n r:Int),O=[some (.ref p),some (.int many),v,some (.int n),some (.int r)]/\bN p H H2/\1<=r) (λO _=>match O with|[_,_,_,_,some (.int r)]=>(many-r).toNat|_=>0) ?_ ?_ ?_]
   ·erw[none,0,1,Z,.refl #[c,m,hp,ok],dc _]
   ·rintro O H2 ⟨v,n,r,rfl,bx,Dk⟩
    erw[AK ?_];intro E1;let(c',m',Dn,c0',m0',m1'):=id bx.bU;erw[_,Z,_,Z,_,_,Z,Z,_,Z,?_];erw[fQ (λhc=>?_) (λhc=>?_)]
    ·have ck:r<many:=kF hc
     erw[_,Z,.inl #[p,_,1,.int m',Z,Z,aD.of Dn,Z,_,_,Z,Z,.of_right (dC aw aw),_,_,Z,Z,_,_,Z,Z,#[aw,aw,?_],_,_,Z,Z,(by show(0:Int)<2147483629;decide),?_]]
     ·have qE:(2:Nat)^64=18446744073709551616:=by decide
      rw[qE];lia
     erw[_,Z,p,_,1,1,Z,Z,Dn,Z,?_];have g0:0<=((m'*48271+7919)^(3:Int).toNat)%2147483629:=wm _ aw;have g1:((m'*48271+7919)^(3:Int).toNat)%2147483629<2147483629:=yu _ aw;have bx2:bN p H (_L.upd H2 p (.lst [.int c',.int (((m'*48271+7919)^(3:Int).toNat)%2147483629)])):=bx.trans (.upd #[c0',g0,Int.lt_trans g1 aw]);erw[_,Z,_,_,Z,Z,.of_right (dC aw aw),_,Z,.inl #[p,_,1,.int _,Z,Z,aD.of bZ,Z,_,_,Z,Z,#[aw,KQ aw aw],_,_,Z,Z,.of_right (dC aw aw),_,_,Z,Z,(by show(0:Int)<1073741789;decide),_,_,Z,Z,?_]];erw[_,Z,_,_,Z,Z,.of_right (dC aw aw),?_];erw[#[v,_,_,Z,bx2,?_],?_]
     ·lia
     ·show(many-r*1073741789).toNat<(many-r).toNat
      lia
    ·erw[_,Z,_,Z,_,_,Z,Z,h1,?_]
     erw[k _ _ (wm _ ao) (yu _ ao) bx]
   ·rintro O H2 Q1 Q2 hq ⟨v1,e1,v2,e2,i,j,e3,e4,kk,e5,q⟩
    erw[v1,e1,v2,e2,i,j,e3,e4,kk,e5,hq _ _ q]
end
section
inductive ael(vs:List V)(H:Hp)(Q:VK):Prop |mk (a:Addr)(ns:List Int)(at':Int)(h0:vs=[.ref a,.int at'])(h1:aD K H a (ns.map V.int))(h2:ns.length<=63)(h3:0<=at')(h4:at'<=100)(h5:∀p H',H p=none->gI H' p->aF H H'->Q (.ref p) H')
def a0f:Sp:=λvs H Q _=>ael vs H Q
theorem NM:bf ["_law_script","_law_at","_law_cell","_law_mix","_law_k"] ["_law_script","_law_at"] (aQ PV):=bo aG
theorem TB{ns:List Int}{j:Nat}(h:j<ns.length):∃z,fb (ns.map V.int) (j:Int)=some (.int z):=#[ns[j],acd (by simp[h])]
theorem a4b(AA:All w K mg):bj P w K mg ay "_law_bag" 1 a0f:=by
 exists AA.aav.has,NM,eD λ_ _=>rfl
 ·let(a,ns,at',rfl,hS,hlen,h0,h1,k):=h
  obtain⟨j,rfl⟩:∃j:Nat,at'=(j:Int):=#[at'.toNat,ao];have nd:=NM.nd;erw[_,(az (pS 2 nd aB) (az (iZ (bI (bX oF (pv 1) (fW K AA.B (ak (pv 0) au)) (bQ _)) (aH (pS 2 nd (fh (x:="abs") tK Z (AA.B.at "abs") w6 (ak (px K (pv 0) (pv 1)) au)))) bP)) (az (pS 3 nd (aM dR (aM dR (aM cN (aM cN aB (pv 1)) (pv 1)) (aM cN aB (pv 1))) aB)) (az (gW fS Z (sx Z (AA.B.at "range") (ak (fh (x:="min") (JF rfl) rfl (AA.B.at "min") X2 (ak (fW K AA.B (ak (pv 0) au)) (ak aB au))) au)) (aR 4 nd) (aH (pS 3 nd (aM uI (aM Gr (aM dR (aM dR (aM cN (pv 3) aB) (aM uI (px K (pv 0) (pv 4)) aB)) (aM cN (pv 4) (pv 4))) aB) aB)))) (az (iZ (bI (bX oF (pv 2) (aM Gr aB aB) (bQ _)) (aH (pS 2 nd aB)) bP)) (aH (aO (dj (ak (pv 2) (ak (pv 3) au)))))))))),?_];erw[λO H'=>H'=H/\∃c:Int,O=[some (.ref a),some (.int (j:Int)),some (.int c),none,none]/\0<=c,?_,?_]
  ·erw[_,Z,_,Z,a,_,Z,.inl hS,_,_,Z,Z,_,Z,?_]
   erw[fQ (λhc=>?_) (λ_=>?_)]
   ·have hj:(j:Int)<((ns.map V.int).length:Int):=kF hc
    rw[aW]at hj;let(z,hz):=TB (ns:=ns) (j:=j) ao;erw[_,Z,_,Z,.inl #[a,_,_,_,Z,Z,hS,hz,z,Z,?_]];erw[Z,_,Z,by split<;>lia]
   ·erw[Z,0,Z,dc _]
  rintro O H' ⟨rfl,c,rfl,c0⟩;erw[_,Z,_,_,Z,Z,.of_left (dC aw aw),_,Z,_,_,Z,Z,.of_right (dC ao ao),_,Z,_,_,Z,Z,.of_left (dC aw aw),_,_,Z,Z,_,_,Z,Z,?_];erw[_,Z,a,_,Z,.inl hS,_,_,Z,_,Z,?_,?_,?_]
  ·split<;>lia
  ·split<;>(try rw[aW])<;>lia
  erw[xC (Pv:=λi O H2=>H2=H'/\∃(m:Int)(v:Option V),O=[some (.ref a),some (.int (j:Int)),some (.int c),some (.int m),v]/\0<=m/\m<2147483648) ?_ ?_ ?_]
  ·erw[Z,_,none,Z,?_,?_]
   ·have:(0:Int)<=(j:Int)*(j:Int):=gT ao ao
    rw[uc];lia
   ·have:(j:Int)*(j:Int)<=100*100:=wk ao ao ao ao
    rw[uc];lia
  ·rintro i O H2 hi ⟨rfl,m,v,rfl,m0,m1⟩
   erw[iC ?_];intro E1;have nF:i<ns.length:=by rw[aW]at hi;split at hi<;>lia
   let(z,hz):=TB (ns:=ns) (j:=i) nF;rw[<-Int.zero_add (i:Int)]at hz;have TX:0<=z%2147483647:=wm _ aw;have Df:z%2147483647<2147483647:=yu _ aw;have a7F:(0:Int)<=(0+(i:Int))*(0+(i:Int)):=gT ao ao;have hii:(0+(i:Int))*(0+(i:Int))<=100*100:=wk ao ao ao ao;erw[_,Z,_,_,Z,Z,.of_right (dC aw aw),_,Z,_,Z,.inl #[a,_,_,_,Z,Z,hS,hz,_,_,Z,Z,(by show(0:Int)<2147483647;decide),_,_,Z,Z,_,Z,_,Z,_,_,Z,Z,.of_right (dC ao ao),_,_,Z,Z,_,_,Z,Z,#[aw,aw,?_],_,_,Z,Z,(by show(0:Int)<2147483629;decide),?_]]
   ·have qE:(2:Nat)^64=18446744073709551616:=by decide
    rw[qE];generalize(0+(i:Int))*(0+(i:Int))=ii at a7F hii⊢;generalize z%2147483647=zz at TX Df⊢
    lia
   ·erw[Z,_,_,Z,wm _ aw,Int.lt_trans (yu _ aw) aw]
  ·rintro O H2 ⟨rfl,m,v,rfl,m0,m1⟩
   erw[λO H3=>H3=H2/\∃c:Int,O=[some (.ref a),some (.int (j:Int)),some (.int c),some (.int m),v]/\0<=c,?_,?_]
   ·erw[kA ?_];intro E2
    erw[_,Z,_,_,Z,Z,#[aw,aw,aw],_,_,Z,Z,_,Z,?_];erw[fQ (λhc=>?_) (λ_=>?_)]
    ·erw[Z,0,Z,dc _]
    ·erw[Z,c,Z,c0]
   rintro O H3 ⟨rfl,c,rfl,c0⟩;erw[_,Z,_,Z,(by show 2<=sizeLine;decide),λp H4 nw=>?_];erw[k p H4 nw.no #[c,m,nw.at',c0,m0,m1] nw.same]
inductive aed(vs:List V)(H:Hp)(Q:VK):Prop |mk (a:Int)(b:Int)(h0:vs=[.int a,.int b])(h1:Q (.int (Int.gcd a b)) H)
def a08:Sp:=λvs H Q _=>aed vs H Q
end
section
inductive adN(vs:List V)(H:Hp)(Q:VK):Prop |mk (a:Int)(b:Int)(h0:vs=[.int a,.int b])(h1:b≠0)(h2:Wd b)(h3:∀t H',Nw H H' t (.tup [.int (_A.lowP a b),.int (_A.hU a b)])->Q (.ref t) H')
def ZT:Sp:=λvs H Q _=>adN vs H Q
end
section
def oU(T:String):Bool:=jg T "int"&& !jg T "bool"
inductive adY(vs:List V)(H:Hp)(Q:VK):Prop |mk (v:_)(T:_)(h0:vs=[v])(h1:vR K H v T)(h2:Q (.bl (oU T)) H)
def a00:Sp:=λvs H Q _=>adY vs H Q
theorem NJ:bf ["p","q","high","low"] ["p","q"] (aQ PQ):=bo aG
theorem RY(AA:All w K mg):bj P w K mg ay "common_divisor" 1 a08:=by
 exists AA.aa7.has,NJ,eD λ_ _=>rfl
 ·let(a,b,rfl,k):=h
  have nd:=NJ.nd;erw[_,(az (za (i:=2) (j:=3) Z nd Z Z aw Z Z (ak (fh (x:="abs") tK Z (AA.B.at "abs") w6 (ak (pv 0) au)) (ak (fh (x:="abs") tK rfl (AA.B.at "abs") w6 (ak (pv 1) au)) au)) rfl) (az (uE fS (bX (kR K Z hr.units) (pv 3) aB (bQ _)) (aH (za (i:=2) (j:=3) Z nd Z Z aw Z Z (ak (pv 3) (ak (aM uI (pv 2) (pv 3)) au)) Z))) (aH (aO (pv 2))))),?_];erw[_,Z,_,Z,_,Z,_,Z,_,_,Z,?_];erw[uf (λO H2=>H2=H/\∃(x y:Int),O=[some (.int a),some (.int b),some (.int x),some (.int y)]/\0<=x/\0<=y/\Int.gcd x y=Int.gcd a b) (λO _=>match O with|[_,_,_,some (.int y)]=>y.natAbs|_=>0) ?_ ?_ ?_]
  ·erw[Z,_,_,Z,by split<;>lia,by split<;>lia,?_]
   have h1:(if a<0 then-a else a).natAbs=a.natAbs:=by split<;>lia
   have h2:(if b<0 then-b else b).natAbs=b.natAbs:=by split<;>lia
   unfold Int.gcd;rw[h1,h2]
  ·rintro O H2 ⟨rfl,x,y,rfl,x0,y0,e⟩
   erw[AK ?_];intro E1;erw[_,Z,.inl #[_,_,Z,Z,_,Z,?_]];erw[fQ (λhc=>?_) (λhc=>?_)]
   ·have hy:y≠0:=by simpa using hc
    have ve:0<y:=by lia
    erw[_,Z,_,Z,_,Z,_,_,Z,Z,ve,_,_,Z,?_];erw[#[Z,_,_,Z,y0,wm _ hy,(_A.a8I ve).trans e],?_];show(x%y).natAbs<y.natAbs;have:=wm x hy;have:=yu x ve
    lia
   ·have hy:y=0:=by simpa using hc
    subst hy;erw[_,Z,?_];rw[Int.gcd_zero_right]at e;have e2:x=((Int.gcd a b:Nat):Int):=by lia
    rw[e2];erw[k]
  ·rintro O H2 Q1 Q2 hq ⟨v1,e1,h⟩
   erw[v1,e1,?_];rcases h with⟨i,j,e3,e4,kk,e5,q⟩|⟨d,e,r1,r2,s1,s2,kk,e5,q⟩
   ·erw[.inl #[i,j,e3,e4,kk,e5,hq _ _ q]]
   ·erw[.inr #[d,e,r1,r2,s1,s2,kk,e5,hq _ _ q]]
end
section
theorem Nj:bf ["thing"] ["thing"] (aQ Pk):=bo aG
theorem uL(AA:All w K mg):bj P w K mg ay "is_whole" 1 a00:=by
 exists AA.a9Q.has,Nj,dg λ_=>rfl
 ·let(v,T,rfl,ty,k):=h
  have nd:=Nj.nd;erw[_,(aH (aO (qd (mj K AA.B (ak (pv 0) (ak (mi (x:="int") (v:=.ty "int") Z (AA.B.at "int") X3 rfl) au))) (oE (Gj (mj K AA.B (ak (pv 0) (ak (mi (x:="bool") (v:=.ty "bool") rfl (AA.B.at "bool") PyProof.Rows.boot_bool rfl) au)))))))),?_];erw[_,Z,.inl #[_,T,"int",_,Z,ty,aw,Z,_,Z,?_]];unfold oU at k;erw[fQ (λhc=>?_) (λhc=>?_)]
  ·erw[_,Z,.inl #[_,T,"bool",_,Z,ty,aw,Z,_,Z,?_]]
   rw[hc,jD]at k;erw[k]
  ·rw[EA.mpr hc,jE]at k
   erw[k]
end
end _a
namespace _a
open PySem PySem.Spec PyProof.Rows _L _l
section
def eF(ns:List Int)(sp:Int):ah:=.tuple [.str "line",.tuple (ns.map PyData.int),.int sp]
theorem Hr(ns:List Int)(sp:Int):dW (eF ns sp)=true:=by simp[eF,dW,cx,mm]
structure ft(ax:Nat)(m:Int)(ns:List Int):Prop where
 len:ns.length=ax
 bd:∀z∈ns,(z.natAbs:Int)<=m
 nz:∃z∈ns,z≠0
theorem ft.lead(h:ft ax m ns):0<aE ns/\(aE ns:Int)<=m:=by
 erw[a67 h.nz,?_];have hm:0<=m:=by let(z,hz,_):=h.nz;have:=h.bd z hz;lia
 have:=qo (ns:=ns) (m:=m.toNat) λz hz=>by have:=h.bd z hz;lia
 lia
theorem ft.ne(h:ft ax m ns):ns≠[]:=by let(z,hz,_):=h.nz;intro e;subst e;cases hz
theorem oT{v:V}(h:RD K H v (eF ns sp)):∃a b,v= .ref a/\aU K H a [.str "line",.ref b,.int sp]/\aU K H b (ns.map V.int):=by let(a,xs,rfl,h1,h2):=h.cu;let(x1,r1,rfl,e1,h2):=h2.cons_inv;let(x2,r2,rfl,e2,h2):=h2.cons_inv;let(x3,r3,rfl,e3,h2):=h2.cons_inv;cases h2.nil_inv;cases e1.str_inv;cases e3.int_inv;let(b,ys,rfl,h3,h4):=e2.cu;rw[h4.gj]at h3;erw[a,b,Z,h1,h3]
inductive adR(vs:List V)(H:Hp)(Q:VK):Prop |mk (v:_)(ns:_)(sp:_)(h0:vs=[v])(h1:RD K H v (eF ns sp))(h2:ns≠[])(h3:ns.length<=1000)(h4:∀H',aF H H'->Q (.int (aE ns)) H')
def ZV:Sp:=λvs H Q _=>adR vs H Q
theorem oP{ns:List Int}{i:Nat}{d:ah}(h:(ns.map f)[i]? =some d):∃n,ns[i]? =some n/\f n=d:=by rw[bO]at h;cases e:ns[i]? with |none=>rw[e]at h;cases h |some n=>rw[e]at h;erw[n,Z,eW h]
theorem CJ{ns:List Int}{i:Nat}{n:Int}(h:(ns.map V.int)[i]? =some x)(e:ns[i]? =some n):x= .int n:=by rw[bO,e]at h;exact(eW h).symm
theorem N6:bf ["line"] ["line"] (aQ P6):=bo aG
theorem qf(AA:All w K mg):bj P w K mg ay "lead_of" 1 ZV:=by
 exists AA.a9M.has,N6,dg λ_=>rfl
 ·let(v,ns,sp,rfl,rd,cD,hz,k):=h
  have nd:=N6.nd;let(a,b,rfl,ha,hb):=oT rd;erw[_,(aH (aO (fh (x:="max") (SG K Z Z) Z (AA.B.at "max") Kn (ak (eQ (N:=["step"]) (js:=[none]) rfl rfl rfl (j3 K rfl (px K (pv 0) aB)) (λ_ _ _ _ _=>(aR 0 (iM _))) (λ_ _ _ _ _=>e9) (λ_ _ _ _ _=>(fh (x:="abs") tK rfl (AA.B.at "abs") w6 (ak (pv 0) au)))) au)))),?_];erw[_,Z,.inr #[a,_,1,.ref b,Z,Z,ha,Z,b,Z,#[_,hb],λD H0 nw=>?_]];erw[qR (K:=K) (xs:=ns.map V.int) (ds:=(ns.map nY).map PyData.int) [] hb nw (by simp) (by simpa using hz) (mm _) ?_ ?_]
  ·intro i x d H2 Q' ex ed s2 hq
   let(m,em,rfl):=oP ed;rw[bO]at em;cases en:ns[i]? with |none=>rw[en]at em;cases em |some n=>rw[en]at em;cases em;cases CJ ex en;erw[_,Z,n,Z,hq _ _ (aF.refl _) (fO _)]
  ·intro H' ys s2 d2 r2
   rw[r2.gj]at d2;erw[D,_,Z,aD.of d2,by simpa using cD,λM h1 h2=>?_];rw[Tf cD h1 h2];erw[k H' s2]
end
end _a
namespace _a
open PySem PySem.Spec PyProof.Rows _L _b
section
theorem N9:bf ["p","q","divisor"] ["p","q"] (aQ P8):=bo aG
theorem Co(AA:All w K mg):bj P w K mg ay "lowest_terms" 2 ZT:=by
 exists AA.a9J.has,N9,eD λ_ _=>rfl
 ·let(a,b,rfl,hb,wb,k):=h
  have nd:=N9.nd;have sw:Wd (_A.sg a b):=Eo (_A.a0s hb) wb;erw[_,(az (pS 2 nd (pf (RY AA) hr (ak (pv 0) (ak (pv 1) au)))) (az (iZ (bI (bX oF (pv 1) aB (bQ _)) (aH (pS 2 nd (jk jf (pv 2)))) bP)) (aH (aO (iK (ak (aM Rk (pv 0) (pv 2)) (ak (aM Rk (pv 1) (pv 2)) au))))))),?_];erw[_,Z,_,Z,a,b,Z,?_];erw[λO H'=>H'=H/\O=[some (.int a),some (.int b),some (.int (_A.sg a b))],?_,?_]
  ·erw[_,Z,_,_,Z,Z,_,Z,?_]
   erw[fQ (λhc=>?_) (λhc=>?_)]
   ·have hd:b<0:=kF hc
    erw[_,Z,_,Z,?_];erw[Z,?_];unfold _A.sg;rw[ba hd];rfl
   ·have hd:¬b<0:=λz=>hc (cj z)
    erw[Z,?_];unfold _A.sg;rw[bc hd];rfl
  rintro O H' ⟨rfl,rfl⟩;erw[_,Z,_,Z,_,_,Z,Z,#[_A.yR hb,sw],_,Z,_,Z,_,_,Z,Z,#[_A.yR hb,sw],(by show 2<=sizeLine;decide),λt H4 nw=>?_];erw[k t H4 nw]
def bJ(H:Hp)(v:V)(r:Rat):Prop:=∃p,v= .ref p/\aU K H p [.int r.num,.int r.den]
theorem bJ.go{v:V}(h:bJ H v r)(s:aF H H'):bJ H' v r:=by let(p,e,q):=h;erw[p,e,q.go s]
def cP(r:Rat):ah:=.tuple [.int r.num,.int r.den]
theorem bJ.rd{v:V}(h:bJ H v r):RD K H v (cP r):=by let(p,rfl,q):=h;erw[fN q (cG (fO _) (cG (fO _) cW))]
theorem a1O(r:Rat):dv 1 (cP r):=iq.tup (.cons (.int _) (.cons (.int _) .nil))
theorem eqR(h:r=s):PyData.eqv (cP r) (cP s)=true:=by rw[h];exact(a1O s).refl
theorem md{n:Nat}(h:i.natAbs<2^n)(l:n<=5000):Wd i:=gK h (tY aw l)
theorem _root_._b.Bd.wn(h:Bd 2000 r):Wd r.num:=md h.num aw
theorem _root_._b.Bd.wd(h:Bd 2000 r):Wd (r.den:Int):=md (n:=2000) (by have:=h.den;omega) aw
theorem XH(h:Bd 2000 r)(g:Bd 2000 s):Wd ((r.den:Int)*(s.den:Int)):=md (n:=4000) (Jw h g) aw
theorem C7{t:Addr}(hb:b≠0)(e:r=Rat.divInt a b)(h:H' t=some (.tup [.int (_A.lowP a b),.int (_A.hU a b)])):bJ H' (.ref t) r:=by let(e1,e2):=Hn (a:=a) hb;rw[e1,e2,<-e]at h;erw[t,Z,aU.of h]
inductive adw(op:Rat->Rat->Rat)(K:aa)(vs:List V)(H:Hp)(Q:VK):Prop |mk (v1:_)(v2:_)(r:_)(s:_)(h0:vs=[v1,v2])(h1:bJ H v1 r)(h2:bJ H v2 s)(h3:Bd 2000 r)(h4:Bd 2000 s)(h5:∀v H',bJ H' v (op r s)->aF H H'->Q v H')
def LS(op:Rat->Rat->Rat)(K:aa):Sp:=λvs H Q _=>adw op K vs H Q
theorem N0:bf ["one","other","p","q","r","s"] ["one","other"] (aQ OX):=bo aG
theorem a3N(AA:All w K mg):bj P w K mg ay "minus" 3 (LS (·-·) K):=by
 exists AA.a9H.has,N0,eD λ_ _=>rfl
 ·let(v1,v2,r,s,rfl,(p,rfl,hp),(q,rfl,hq),br,bs,k):=h
  have nd:=N0.nd;erw[_,(az (fg (pv 0) (eu K Z (n:=2) Z (bV (aR 2 nd) (bV (aR 3 nd) eg)))) (az (fg (pv 1) (eu K Z (n:=2) Z (bV (aR 4 nd) (bV (aR 5 nd) eg)))) (aH (aO (pf (Co AA) hr (ak (aM j6 (aM cN (pv 2) (pv 5)) (aM cN (pv 4) (pv 3))) (ak (aM cN (pv 3) (pv 5)) au))))))),?_];erw[_,Z,_,_,Z,hp,Z,_,_,Z,_,_,Z,Z,?_];erw[_,Z,_,_,Z,hq,Z,_,_,Z,_,_,Z,Z,?_];erw[_,Z,_,Z,_,_,Z,Z,pK br.wn.bits bs.wd.bits,_,Z,_,Z,_,_,Z,Z,pK bs.wn.bits br.wd.bits,_,_,Z,Z,_,Z,_,Z,_,_,Z,Z,pK br.wd.bits bs.wd.bits,?_];erw[_,_,Z,Ao r s,XH br bs,λt H' nw=>k _ _ (C7 (Ao r s) (Z0 r s) nw.at') nw.same]
theorem KO{a:Int}{b:Nat}{x:Rat}(hb:b≠0)(hx:Rat.divInt a b=x):∃g,a=x.num*g/\(b:Int)=x.den*g:=by let(g,_,p):=Rat.divInt_num_den (z':=x.den_nz) (c:=x.reduced) aL hx;erw[g,p]
theorem XC(hx:Rat.divInt r.num s.den=x)(hy:Rat.divInt s.num r.den=y)(m:r*s=Rat.divInt (r.num*s.num) (r.den*s.den)):x.num*y.num=(r*s).num/\(y.den:Int)*x.den=(r*s).den:=by
 let(g,h1,h2):=KO s.den_nz hx;let(h,h3,h4):=KO r.den_nz hy;have w:∀{q:Rat}{a b g h:Int},q.num=a*g->q.den=b*h->a.natAbs.Coprime b.natAbs:=λ{q a b g h} p z=>by have c:Int.gcd q.num q.den=1:=q.reduced;rw[p,z,Int.gcd_eq_natAbs_gcd_natAbs,iH,iH]at c;erw[Nat.Coprime.coprime_mul_right_right (Nat.Coprime.coprime_mul_right c)]
 have c:(x.num*y.num).natAbs.gcd (x.den*y.den)=1:=by rw[iH];erw[Nat.Coprime.mul_left (Nat.Coprime.mul_right x.reduced (w h1 h4)) (Nat.Coprime.mul_right (w h3 h2) y.reduced)]
 have e:r*s=x*y:=by rw[m,<-hx,<-hy,WT,Bq (s.den:Int)]
 rw[e,Rat.num_mul,Rat.den_mul,c,Nat.div_one,En x.den];erw[(Int.ediv_one _).symm,Z]
theorem Mm:bf ["one","other","p","s","r","q"] ["one","other"] (aQ O1):=bo aG
theorem Rx(AA:All w K mg):bj P w K mg ay "times" 3 (LS (·*·) K):=by
 exists AA.a9l.has,Mm,eD λ_ _=>rfl
 ·let(v1,v2,r,s,rfl,(p,rfl,hp),(q,rfl,hq),br,bs,k):=h
  have nd:=Mm.nd;have nr:=Int.ne_of_gt (den_pos r);have ns:=Int.ne_of_gt (den_pos s);erw[_,(az (fg (pf (Co AA) hr (ak (px K (pv 0) aB) (ak (px K (pv 1) aB) au))) (eu K Z (n:=2) Z (bV (aR 2 nd) (bV (aR 3 nd) eg)))) (az (fg (pf (Co AA) hr (ak (px K (pv 1) aB) (ak (px K (pv 0) aB) au))) (eu K Z (n:=2) Z (bV (aR 4 nd) (bV (aR 5 nd) eg)))) (aH (aO (iK (ak (aM cN (pv 2) (pv 4)) (ak (aM cN (pv 5) (pv 3)) au))))))),?_];erw[_,Z,Or.inr #[_,_,_,_,Z,Z,hp,Z,_,Z,Or.inr #[_,_,_,_,Z,Z,hq,Z,_,_,Z,ns,bs.wd,λt1 H1 n1=>?_]]];let(_,e,g1):=C7 ns Z n1.at';cases e;erw[_,_,Z,g1,Z,_,_,Z,_,_,Z,Z,?_];erw[_,Z,Or.inr #[_,_,_,_,Z,Z,hq.go n1.same,Z,_,Z,Or.inr #[_,_,_,_,Z,Z,hp.go n1.same,Z,_,_,Z,nr,br.wd,λt2 H2 n2=>?_]]];let(_,e,g2):=C7 nr Z n2.at';cases e;erw[_,_,Z,g2,Z,_,_,Z,_,_,Z,Z,?_];have b1:Bd 2000 _:=kP ns br.num (by have:=bs.den;omega);have b2:Bd 2000 _:=kP nr bs.num (by have:=br.den;omega);erw[_,Z,_,Z,_,_,Z,Z,pK b1.wn.bits b2.wn.bits,_,Z,_,Z,_,_,Z,Z,pK b2.wd.bits b1.wd.bits,?_];erw[cy Z,λt H' n=>k _ _ #[t,Z,aU.of ?_] (n1.same.trans (n2.same.trans n.same))];let(e1,e2):=XC Z Z (mul_div r s);rw[<-e1,<-e2];erw[n.at']
inductive adP(vs:List V)(H:Hp)(Q:VK):Prop |mk (v1:_)(v2:_)(r:_)(s:_)(h0:vs=[v1,v2])(h1:bJ H v1 r)(h2:bJ H v2 s)(h3:Bd 2000 r)(h4:Bd 2000 s)(h5:Q (.bl (decide (r<s))) H)
def ZU:Sp:=λvs H Q _=>adP vs H Q
theorem N4:bf ["one","other","p","q","r","s"] ["one","other"] (aQ P4):=bo aG
theorem zx(AA:All w K mg):bj P w K mg ay "is_less" 1 ZU:=by
 exists AA.a9Y.has,N4,eD λ_ _=>rfl
 ·let(v1,v2,r,s,rfl,(p,rfl,hp),(q,rfl,hq),br,bs,k):=h
  have nd:=N4.nd;erw[_,(az (fg (pv 0) (eu K Z (n:=2) Z (bV (aR 2 nd) (bV (aR 3 nd) eg)))) (az (fg (pv 1) (eu K Z (n:=2) Z (bV (aR 4 nd) (bV (aR 5 nd) eg)))) (aH (aO (jl oF (aM cN (pv 2) (pv 5)) (aM cN (pv 4) (pv 3)) (bQ _)))))),?_];erw[_,Z,_,_,Z,hp,Z,_,_,Z,_,_,Z,Z,?_];erw[_,Z,_,_,Z,hq,Z,_,_,Z,_,_,Z,Z,?_];erw[_,Z,_,Z,_,_,Z,Z,pK br.wn.bits bs.wd.bits,_,Z,_,Z,_,_,Z,Z,pK bs.wn.bits br.wd.bits,_,_,Z,Z,?_];have e:decide (r.num*(s.den:Int)<s.num*(r.den:Int))=decide (r<s):=by rw[kg,decide_eq_true_iff,decide_eq_true_iff,Rat.lt_iff]
  show Q (.bl (decide (r.num*(s.den:Int)<s.num*(r.den:Int)))) H;rw[e];erw[k]
def fc(H:Hp):List V->List Rat->Prop |[],[]=>True |v::vs,r::rs=>bJ H v r/\Bd 2000 r/\fc H vs rs |_,_=>False
theorem fc.go{H H':Hp}(s:aF H H'):∀{vs:List V}{rs:List Rat},fc H vs rs->fc H' vs rs |[],[],_=>trivial |v::vs,r::rs,h=>#[h.1.go s,h.2.1,fc.go s h.2.2] |[],_::_,h=>h.elim |_::_,[],h=>h.elim
theorem fc.length{H:Hp}:∀{vs:List V}{rs:List Rat},fc H vs rs->vs.length=rs.length |[],[],_=>rfl |v::vs,r::rs,h=>by rw[gz,gz,fc.length h.2.2] |[],_::_,h=>h.elim |_::_,[],h=>h.elim
theorem fc.get{H:Hp}:∀{vs:List V}{rs:List Rat}{i:Nat}{v:V},fc H vs rs->vs[i]? =some v->∃r,rs[i]? =some r/\bJ H v r/\Bd 2000 r
 |[],[],i,v,_,e=>by simp at e |v::vs,r::rs,0,v',h,e=>by
  have e':v=v':=by simpa using e
  subst e';erw[r,Z,h.1,h.2.1] |v::vs,r::rs,i+1,v',h,e=>by let(r',e1,q):=fc.get h.2.2 (show vs[i]? =some v' by simpa using e);erw[r',by simpa using e1,q] |[],_::_,_,_,h,_=>h.elim |_::_,[],_,_,h,_=>h.elim
inductive adQ(vs:List V)(H:Hp)(Q:VK):Prop |mk (l:_)(xs:_)(rs:_)(h0:vs=[.ref l])(h1:aD K H l xs)(h2:fc H xs rs)(h3:xs≠[])(h4:∀(i:Nat)(v:V)(r:Rat),xs[i]? =some v->rs[i]? =some r->(∀s∈rs,r<=s)->Q v H)
def yM:Sp:=λvs H Q _=>adQ vs H Q
theorem N5:bf ["some","best","one"] ["some"] (aQ P5):=bo aG
theorem uK(AA:All w K mg):bj P w K mg ay "least" 2 yM:=by
 exists AA.a9L.has,N5,dg λ_=>rfl
 ·let(l,xs,rs,rfl,hl,ny,cD,k):=h
  have nd:=N5.nd;erw[_,(az (pS 1 nd (px K (pv 0) aB)) (az (gW fS Z (mX K Z (pv 0)) (aR 2 nd) (aH (bI (cw (pf (zx AA) hr (ak (pv 2) (ak (pv 1) au)))) (aH (pS 1 nd (pv 2))) bP))) (aH (aO (pv 1))))),?_];have hlen:=ny.length;have h0:0<xs.length:=Bl.mpr cD;have e0:=bL h0;erw[_,Z,.inl #[l,xs,0,xs[0],Z,Z,hl,cB aw e0,?_]];erw[_,Z,l,Z,#[_,hl],UQ (K:=K) (a:=l) (xs:=xs) (λi O H2=>H2=H/\∃(j:Nat)(b:V)(r:Rat)(v:Option V),xs[j]? =some b/\rs[j]? =some r/\(∀(m:Nat)(s:Rat),m<i->rs[m]? =some s->r<=s)/\O=[some (.ref l),some b,v]) ?_ (λi O H2 _ h=>by rw[h.1];erw[hl]) ?_ ?_]
  ·let(r,e1,_):=ny.get e0
   erw[Z,0,_,r,none,e0,e1,λm s hm=>absurd hm (Nat.not_lt_zero _),Z]
  ·rintro i x O H2 hx ⟨rfl,j,b,r,v,eb,er,hm,rfl⟩
   erw[iC ?_];intro E1;let(t,et,rt,bt):=ny.get hx;let(r2,UZ,rb,bb):=ny.get eb;rw[er]at UZ;cases UZ;erw[_,Z,_,Z,x,b,t,r,Z,rt,rb,bt,bb,_,Z,?_];erw[fQ (λhc=>?_) (λhc=>?_)]
   ·have ck:t<r:=kF hc
    erw[_,Z,?_];erw[Z,i,x,t,_,hx,et,λm s Iv es=>?_,Z];rcases Nat.lt_succ_iff_lt_or_eq.mp Iv with h|h
    ·erw[cL (Rat.le_of_lt ck) (hm m s h es)]
    ·subst h
     rw[et]at es;cases es;erw[iE]
   ·have hnl:¬t<r:=λz=>hc (cj z)
    erw[Z,j,b,r,_,eb,er,λm s Iv es=>?_,Z];rcases Nat.lt_succ_iff_lt_or_eq.mp Iv with h|h
    ·erw[hm m s h es]
    ·subst h
     rw[et]at es;cases es;erw[Ej.mp hnl]
  ·rintro O H2 ⟨rfl,j,b,r,v,eb,er,hm,rfl⟩
   erw[_,Z,k j b r eb er λs hs=>?_];let(m,hml,em):=X9.mp hs;erw[hm m s ao (by rw[bL hml,em])]
inductive adK(vs:List V)(H:Hp)(Q:VK):Prop |mk (a:_)(b:_)(h0:vs=[.int a,.int b])(h1:b≠0)(h2:Wd b)(h3:∀v H',bJ H' v (Rat.divInt a b)->aF H H'->Q v H')
def LV:Sp:=λvs H Q _=>adK vs H Q
theorem Nv:bf ["p","q"] ["p","q"] (aQ Pu):=bo aG
theorem x9(AA:All w K mg):bj P w K mg ay "fraction" 3 LV:=by
 exists AA.aa2.has,Nv,eD λ_ _=>rfl
 ·let(a,b,rfl,hb,wb,k):=h
  have nd:=Nv.nd;erw[_,(az (bI (PW.pt (iI (cR (cw (pf (uL AA) hr (ak (pv 0) au)))) (jJ (cR (cw (pf (uL AA) hr (ak (pv 1) au))))))) (aH kn) bP) (az (bI (bX (dN K Z hr.units) (pv 1) aB (bQ _)) (aH kn) bP) (aH (aO (pf (Co AA) hr (ak (pv 0) (ak (pv 1) au))))))),?_];have iw:oU "int"=true:=by decide
  erw[_,Z,_,"int",Z,Z,_,Z,?_];rw[iw];erw[aP ?_];erw[_,Z,_,"int",Z,Z,_,Z,?_];rw[iw];erw[aP ?_];erw[_,Z,.inl #[_,_,Z,Z,_,Z,?_]];rw[dE hb];erw[aP ?_];erw[_,Z,_,Z,_,_,Z,hb,wb,λt H' nw=>k _ _ (C7 hb Z nw.at') nw.same]
inductive adZ(vs:List V)(H:Hp)(Q:VK):Prop |mk (v:_)(r:_)(h0:vs=[v])(h1:bJ H v r)(h2:Q (.bl true) H)
def a01:Sp:=λvs H Q _=>adZ vs H Q
theorem Nr:bf ["thing","p","q"] ["thing"] (aQ Pr):=bo aG
theorem a3V(AA:All w K mg):bj P w K mg ay "is_fraction" 2 a01:=by
 exists AA.aa0.has,Nr,dg λ_=>rfl
 ·let(v,r,rfl,(p,rfl,hp),k):=h
  have nd:=Nr.nd;erw[_,(az (bI (PW.pt (iI (cR (cw (mj K AA.B (ak (pv 0) (ak (mi (x:="tuple") (v:=.ty "tuple") Z (AA.B.at "tuple") ir rfl) au))))) (jJ (bX (kR K rfl hr.units) (fW K AA.B (ak (pv 0) au)) aB (bQ _))))) (aH (aO j4)) bP) (az (fg (pv 0) (eu K Z (n:=2) Z (bV (aR 1 nd) (bV (aR 2 nd) eg)))) (az (bI (PW.pt (iI (cR (cw (pf (uL AA) hr (ak (pv 1) au)))) (jJ (cR (cw (pf (uL AA) hr (ak (pv 2) au))))))) (aH (aO j4)) bP) (aH (aO (qd (jl Ci (pv 2) aB (bQ _)) (oE (jl (dN K Z hr.units) (pf (RY AA) hr (ak (pv 1) (ak (pv 2) au))) aB (bQ _))))))))),?_];have iw:oU "int"=true:=by decide
  have mT:jg "tuple" "tuple"=true:=by decide
  erw[_,Z,.inl #[_,"tuple","tuple",true,Z,.inr #[Z,_,hp],aw,mT,_,Z,aP ?_]];erw[_,Z,p,_,Z,.inr hp,.inl #[_,_,Z,Z,_,Z,aP ?_]];erw[_,Z,p,_,Z,hp,Z,_,_,Z,_,_,Z,Z,?_];erw[_,Z,_,"int",Z,Z,_,Z,?_];rw[iw];erw[aP ?_];erw[_,Z,_,"int",Z,Z,_,Z,?_];rw[iw];erw[aP ?_];erw[_,Z,_,_,Z,Z,_,Z,?_];rw[cj (den_pos r)];erw[bM ?_];erw[_,Z,_,Z,_,_,Z,.inl #[_,_,Z,Z,?_]];rw[cop r];erw[k]
end
end _a
namespace _a
open PySem PySem.Spec PyProof.Rows _L _b _l
section
def fG(rs:List Int)(r f j t:Int):ah:=.tuple [.tuple (rs.map PyData.int),.int r,.int f,.int j,.int t]
theorem kT(rs:List Int)(r f j t:Int):dW (fG rs r f j t)=true:=by simp[fG,dW,cx,mm]
theorem oQ{v:V}{t:Int}(h:RD K H v (fG rs r f j t)):∃a b,v= .ref a/\aU K H a [.ref b,.int r,.int f,.int j,.int t]/\aU K H b (rs.map V.int):=by let(a,xs,rfl,h1,h2):=h.cu;let(x1,r1,rfl,e1,h2):=h2.cons_inv;let(x2,r2,rfl,e2,h2):=h2.cons_inv;let(x3,r3,rfl,e3,h2):=h2.cons_inv;let(x4,r4,rfl,e4,h2):=h2.cons_inv;let(x5,r5,rfl,e5,h2):=h2.cons_inv;cases h2.nil_inv;cases e2.int_inv;cases e3.int_inv;cases e4.int_inv;cases e5.int_inv;let(b,ys,rfl,h3,h4):=e1.cu;rw[h4.gj]at h3;erw[a,b,Z,h1,h3]
structure gH(rs:List Int)(r f j t:Int):Prop where
 len:rs.length=2\/rs.length=3
 rl:∀z∈rs,1<=z/\z<=100
 r1:1<=r/\r<=50
 f1:1<=f/\f<=50
 j1:1<=j/\j<=50
 t1:1<=t/\t<=100
inductive adM(vs:List V)(H:Hp)(Q:VK):Prop |mk (p:_)(h0:vs=[.ref p])(h1:gI H p)(h2:∀v rs r f j t H',RD K H' v (fG rs r f j t)->gH rs r f j t->bN p H H'->Q v H')
def ZS:Sp:=λvs H Q _=>adM vs H Q
end
section
abbrev Itm:=Option (List Int × Int)
def itR(d:ah)(o:Itm):Prop:=(∃ns sp,d=eF ns sp/\o=some (ns,sp))\/∃w x,d= .tuple [.str w,x]/\(w="wait"\/w="tool"\/w="mark")/\dW x=true/\o=none
theorem itR.no{d:ah}(h:itR d o):dW d=true:=by
 rcases h with⟨ns,sp,rfl,_⟩|⟨w,x,rfl,_,h,_⟩
 ·erw[Hr _ _]
 ·simp[dW,cx,h]
theorem zQ{v:V}{d:ah}(h:RD K H v d)(i:itR d o):∃a w ys,v= .ref a/\aU K H a (.str w::ys)/\(PyData.eqv (.str w) (.str "line")=o.isSome)/\SeqAt.shaped (.str w)=true:=by
 rcases i with⟨ns,sp,rfl,rfl⟩|⟨w,x,rfl,hw,_,rfl⟩
 ·let(a,b,rfl,h1,_):=oT h
  erw[a,_,_,Z,h1,(by show PyData.eqv (.str "line") (.str "line")=true;decide+kernel),aG]
 ·let(a,xs,rfl,h1,h2):=h.cu
  let(x1,r1,rfl,e1,h2):=h2.cons_inv;cases e1.str_inv;erw[a,w,r1,Z,h1,?_,?_]
  ·show PyData.eqv (.str w) (.str "line")=false
   rcases hw with rfl|rfl|rfl<;>decide+kernel
  ·rcases hw with rfl|rfl|rfl<;>decide+kernel
theorem a60:SeqAt.shaped (.str "line")=true:=by decide+kernel
theorem iP{d:ah}(h:itR d (some (ns,sp))):d=eF ns sp:=by
 rcases h with⟨zA,pT,e1,e2⟩|⟨_,_,_,_,_,e2⟩
 ·cases e2;erw[e1]
 ·cases e2
structure cU(ax:Nat)(ds:List ah)(os:List Itm):Prop where
 len:ds.length=os.length
 it:∀(i:Nat)(d:ah)(o:Itm),ds[i]? =some d->os[i]? =some o->itR d o
 ok:∀(i:Nat)(ns:List Int)(sp:Int),os[i]? =some (some (ns,sp))->ft ax 100 ns/\1<=sp/\sp<=20
theorem cU.nil:cU ax [] []:=#[Z,λi d o e=>by simp at e,λi ns sp e=>by simp at e]
theorem oA{α:Type}{xs:List α}{x y:α}{j:Nat}(e:(xs++[x])[j]? =some y):xs[j]? =some y\/(j=xs.length/\y=x):=by
 by_cases hj:j<xs.length
 ·rw[oj hj]at e;erw[.inl e]
 ·have qC:j=xs.length:=by
   have:=(cK.mp e).1;rw[cv]at this;have:j<xs.length+1:=this
   lia
  rw[qC,oh (aV _),Bg]at e;erw[.inr #[qC,(eW e).symm]]
theorem cU.snoc{ax:Nat}{ds:List ah}{os:List Itm}{d:ah}{o:Itm}(h:cU ax ds os)(i:itR d o)(g:∀ns sp,o=some (ns,sp)->ft ax 100 ns/\1<=sp/\sp<=20):cU ax (ds++[d]) (os++[o]):=by
 have hl:=h.len;erw[by rw[cv,cv,h.len];rfl,λj d' o' e1 e2=>?_,λj ns sp e=>?_]
 ·rcases oA e1 with e1|⟨j1,rfl⟩
  ·rcases oA e2 with e2|⟨j2,rfl⟩
   ·erw[h.it j d' o' e1 e2]
   ·have:=(cK.mp e1).1;lia
  ·rcases oA e2 with e2|⟨j2,rfl⟩
   ·have:=(cK.mp e2).1;lia
   ·erw[i]
 ·rcases oA e with e|⟨_,e⟩
  ·erw[h.ok j ns sp e]
  ·erw[g ns sp e.symm]
theorem cU.no{ax:Nat}{ds:List ah}{os:List Itm}(h:cU ax ds os):cx ds=true:=dU.mpr λd hd=>by let(i,hi):=oa.mp hd;have hl:=(cK.mp hi).1;exact(h.it i d _ hi (bL (by rw[<-h.len];erw[hl]))).no
theorem cU.get{ax:Nat}{ds:List ah}{os:List Itm}(h:cU ax ds os){i:Nat}{d:ah}(e:ds[i]? =some d):∃o,os[i]? =some o/\itR d o:=by have hl:=(cK.mp e).1;have e2:=bL (show i<os.length by rw[<-h.len];erw[hl]);erw[_,e2,h.it i d _ e e2]
theorem aI.wz{l:Addr}{d:ah}(dl:H l=some (.lst ys))(r:aI K H ys ds)(rd:RD K H y d)(n1:cx ds=true)(n2:dW d=true):aI K (_L.upd H l (.lst (ys++[y]))) (ys++[y]) (ds++[d]):=by have t:fm H (_L.upd H l (.lst (ys++[y]))):=.iW dl;exact(aI.t t _ n1 r).append (cG (RD.t t _ n2 rd) cW)
inductive ae1(vs:List V)(H:Hp)(Q:VK):Prop |mk (v:_)(d:_)(o:_)(h0:vs=[v])(h1:RD K H v d)(h2:itR d o)(h3:Q (.bl o.isSome) H)
def a03:Sp:=λvs H Q _=>ae1 vs H Q
theorem Nh:bf ["item"] ["item"] (aQ Pj):=bo aG
theorem oJ(AA:All w K mg):bj P w K mg ay "is_line" 1 a03:=by
 exists AA.UW.has,Nh,dg λ_=>rfl
 ·let(v,d,o,rfl,ri,it,k):=h
  have nd:=Nh.nd;erw[_,(aH (aO (jl (dN K Z hr.units) (px K (pv 0) aB) bR (bQ _)))),?_];let(a,wd,ys,rfl,h1,ew,sw):=zQ ri it;erw[_,Z,.inr #[a,_,0,.str wd,Z,Z,h1,cB (dc 0) Z,.inr #[_,_,bC _,bC _,sw,a60,?_]]];rw[ew];erw[k]
theorem ou{H:Hp}:∀{xs:List V}{zs:List Str},aI K H xs (zs.map PyData.str)->xs=zs.map V.str |xs,[],h=>h.nil_inv |xs,n::ns,h=>by let(y,ys,rfl,h1,h2):=h.cons_inv;rw[h1.str_inv,ou h2];rfl
theorem acx:kB.cps.toList.length=26:=by decide+kernel
end
section
theorem AH{xs:List α}(h:xs.getLast? =some x):fb xs (-1)=some x:=by
 unfold fb jo;have hl:xs≠[]:=by intro e;rw[e]at h;cases h
 have h0:0<xs.length:=Bl.mpr hl;rw[bc aw,ba ao];rw[Kx]at h;show xs[((-1:Int)+(xs.length:Int)).toNat]? =some x;have e:((-1:Int)+(xs.length:Int)).toNat=xs.length-1:=by lia
 rw[e];erw[h]
end
end _a
namespace _a
open PySem PySem.Spec PyProof.Rows _L _b
section
def XM(ns:List Int):ah:=.tuple (ns.map λz=>cP (Rat.divInt z (_l.aE ns)))
theorem pZ(r:Rat):dW (cP r)=true:=by simp[cP,dW,cx]
theorem Sf{α:Type}{f:α->ah}(h:∀a,dW (f a)=true)(l:List α):cx (l.map f)=true:=dU.mpr λd hd=>by let(a,_,rfl):=cJ.mp hd;erw[h a]
inductive acU(vs:List V)(H:Hp)(Q:VK):Prop |mk (v:_)(ns:_)(sp:_)(h0:vs=[v])(h1:RD K H v (eF ns sp))(h2:ft ns.length 1000 ns)(h3:ns.length<=1000)(h4:∀v' H',RD K H' v' (XM ns)->aF H H'->Q v' H')
def Zj:Sp:=λvs H Q _=>acU vs H Q
theorem Mg:bf ["line","lead"] ["line"] (aQ NW):=bo aG
theorem Rw(AA:All w K mg):bj P w K mg ay "ways_of" 4 Zj:=by
 exists AA.a9j.has,Mg,dg λ_=>rfl
 ·let(v,ns,sp,rfl,rd,ok,hz,k):=h
  have nd:=Mg.nd;erw[_,(az (pS 1 nd (pf (qf AA) hr (ak (pv 0) au))) (aH (aO (dF (x:="tuple") (kh K Z) Z (AA.B.at "tuple") ir (ak (eQ (N:=["step","lead"]) (js:=[none,some 1]) rfl rfl rfl (j3 K rfl (px K (pv 0) aB)) (λ_ _ _ _ _=>(aR 0 (jN aw))) (λ_ _ _ _ _=>e9) (λ_ _ _ _ _=>(pf (x9 AA) hr (ak (pv 0) (ak (pv 1) au))))) au))))),?_];erw[_,Z,v,ns,sp,Z,rd,ok.ne,hz,λH1 s1=>?_];let(a,b,rfl,ha,hb):=oT (RD.mono s1 _ rd);let(lp,lm):=ok.lead;erw[_,Z,.inr #[a,_,1,.ref b,Z,Z,ha,Z,b,Z,#[_,hb],λD H0 nw=>?_]];erw[qR (K:=K) (xs:=ns.map V.int) (ds:=ns.map λz=>cP (Rat.divInt z (_l.aE ns))) _ hb nw (by simp) (by simpa using hz) (Sf (λ_=>pZ _) _) ?_ ?_]
  ·intro i x d H2 Q' ex ed s2 hq
   let(n,en,rfl):=oP ed;cases CJ ex en;erw[_,Z,_,Z,n,_,Z,aL,md (n:=20) aL aw,λv3 H3 r3 s3=>?_];erw[hq _ _ s3 r3.rd]
  ·intro H' ys s2 d2 r2
   erw[D,_,Z,.inl #[aD.of d2,λt H4 n4=>?_]];erw[k _ _ (fN (aU.of n4.at') (aI.mono n4.same _ r2)) (s1.trans (s2.trans n4.same))]
end
end _a
namespace _a
open PySem PySem.Spec PyProof.Rows _L
section
end
section
theorem mT:jg "tuple" "tuple"=true:=by decide
theorem XG(d:ah):(∃i,d= .int i/\oU (lH d)=true)\/(oU (lH d)=false/\∀i,d≠ .int i):=by cases d with |int i=>erw[.inl #[i,Z,by simp[lH];decide]] |_=>erw[.inr #[by simp[lH];decide,λ_ z=>nomatch z]]
theorem yC(d:ah):(∃ds,d= .tuple ds)\/(jg (lH d) "tuple"=false/\∀ds,d≠ .tuple ds):=by cases d with |tuple ds=>erw[.inl #[ds,Z]] |_=>erw[.inr #[by simp[lH];decide,λ_ z=>nomatch z]]
def dw(lo hi:Int):ah->Bool | .int i=>decide (lo<=i)&&decide (i<=hi) |_=>false
theorem a6H{lo hi:Int}{d:ah}(h:∀i,d≠ .int i):dw lo hi d=false:=by cases d<;>first|rfl|erw[absurd rfl (h _)]
inductive acV(vs:List V)(H:Hp)(Q:VK):Prop |mk (v:_)(d:_)(lo:_)(hi:_)(h0:vs=[v,.int lo,.int hi])(h1:RD K H v d)(h2:Q (.bl (dw lo hi d)) H)
def Zk:Sp:=λvs H Q _=>acV vs H Q
theorem Mh:bf ["thing","low","high"] ["thing","low","high"] (aQ NX):=bo aG
theorem oG(AA:All w K mg):bj P w K mg ay "is_whole_within" 2 Zk:=by
 exists AA.a9P.has,Mh,iB λ_ _ _=>rfl
 ·let(v,d,lo,hi,rfl,rd,k):=h
  have nd:=Mh.nd;erw[_,(aH (aO (qd (pf (uL AA) hr (ak (pv 0) au)) (oE (a2C zp zp (pv 1) (pv 0) (pv 2)))))),?_];erw[_,Z,_,_,Z,rd.ty,_,Z,?_];rcases XG d with⟨i,rfl,e⟩|⟨e,hn⟩
  ·cases rd.int_inv
   rw[e];erw[bM ?_];have k:Q (.bl (decide (lo<=i)&&decide (i<=hi))) H:=k;erw[_,Z,_,Z,_,_,Z,Z,_,Z,?_];erw[fQ (λhc=>?_) (λhc=>?_)]
   ·have jR:decide (lo<=i)=true:=hc
    rw[jR,jD]at k;erw[_,Z,_,_,Z,Z,k]
   ·have jR:decide (lo<=i)=false:=EA.mpr hc
    rw[jR,jE]at k;erw[k]
  ·rw[e]
   erw[aP ?_];rw[a6H hn]at k;erw[k]
end
end _a
namespace _a
open PySem PySem.Spec PyProof.Rows _L _b _l _C
section
theorem Xx{ns ms:List Int}{i:Nat}{a b:Int}(h1:ns[i]? =some a)(h2:ms[i]? =some b):(g6 ns ms)[i]? =some (a*(aE ms:Int)-b*(aE ns:Int)):=by unfold g6;rw[bO,(Bo (z:=(a,b))).mpr #[h1,h2]];rfl
def Aw(j:Int)(ns ms:List Int):ah:=if aE (g6 ns ms)=0 then .none else cP (Rat.divInt ((j*aE ns*aE ms)^2) ((aE (g6 ns ms):Int)^2))
inductive aeh(vs:List V)(H:Hp)(Q:VK):Prop |mk (v:_)(v1:_)(v2:_)(rs:_)(r:_)(f:_)(j:_)(t:_)(ns:_)(ms:_)(cO:_)(dZ:_)(h0:vs=[v,v1,v2])(h1:RD K H v (fG rs r f j t))(h2:RD K H v1 (eF ns cO))(h3:RD K H v2 (eF ms dZ))(h4:ft ns.length 1000 ns)(h5:ft ns.length 1000 ms)(h6:ns.length<=1000)(h7:1<=j)(h8:j<=50)(h9:∀v' H',RD K H' v' (Aw j ns ms)->aF H H'->Q v' H')
def a0b:Sp:=λvs H Q _=>aeh vs H Q
theorem zip2{ns ms:List Int}(h:ms.length=ns.length){i:Nat}{x y:V}(ex:(ns.map V.int)[i]? =some x)(ey:(ms.map V.int)[i]? =some y):∃a b,ns[i]? =some a/\ms[i]? =some b/\x= .int a/\y= .int b:=by rw[bO]at ex ey;cases e1:ns[i]? with |none=>rw[e1]at ex;cases ex |some a=>cases e2:ms[i]? with |none=>rw[e2]at ey;cases ey |some b=>rw[e1]at ex;rw[e2]at ey;erw[a,b,Z,Z,(eW ex).symm,(eW ey).symm]
inductive acY(vs:List V)(H:Hp)(Q:VK):Prop |mk (v1:_)(v2:_)(ns:_)(ms:_)(cO:_)(dZ:_)(h0:vs=[v1,v2])(h1:RD K H v1 (eF ns cO))(h2:RD K H v2 (eF ms dZ))(h3:ft ns.length 1000 ns)(h4:ft ns.length 1000 ms)(h5:ns.length<=1000)(h6:∀v' H',bJ H' v' (Rat.divInt (aE (g6 ns ms)) ((aE ns:Int)*aE ms))->aF H H'->Q v' H')
def Zm:Sp:=λvs H Q _=>acY vs H Q
theorem Mi:bf ["one","other","greatest","way","new_way","p","q","difference"] ["one","other"] (aQ NY):=bo aG
theorem a3h(AA:All w K mg):bj P w K mg ay "greatest_turn" 5 Zm:=by
 exists AA.aa1.has,Mi,eD λ_ _=>rfl
 ·let(v1,v2,ns,ms,cO,dZ,rfl,G0,wK,ku,gY,hz,k):=h
  have nd:=Mi.nd;let(lp1,lm1):=ku.lead;let(lp2,lm2):=gY.lead;have zS:ms.length<=1000:=by rw[gY.len];erw[hz]
  have a4m:ft ms.length 1000 ms:=#[Z,gY.bd,gY.nz];have cb:=Jy (λz hz=>by have:=ku.bd z hz;lia) (λz hz=>by have:=gY.bd z hz;lia) (ns:=ns) (ms:=ms);have L0:(0:Int)<(aE ns:Int)*aE ms:=jd ao ao;have Lb:((aE ns:Int)*aE ms).natAbs<=1000*1000:=oN ao ao;have agC:(g6 ns ms).length=ns.length:=by simp[g6,gY.len]
  have Um:∀c:Int,c.natAbs<=2000000->Bd 2000 (Rat.divInt c ((aE ns:Int)*aE ms)):=λc hc=>(kP (n:=30) ao ao ao).mono aw;erw[_,(az (pS 2 nd (iK (ak aB (ak aB au)))) (az (gW fS Z (oC K Z false false Z (AA.B.at "zip") (ak (pf (Rw AA) hr (ak (pv 0) au)) (ak (pf (Rw AA) hr (ak (pv 1) au)) au))) (eu K rfl (n:=2) rfl (bV (aR 3 nd) (bV (aR 4 nd) eg))) (az (fg (pf (a3N AA) hr (ak (pv 4) (ak (pv 3) au))) (eu K Z (n:=2) Z (bV (aR 5 nd) (bV (aR 6 nd) eg)))) (az (pS 7 nd (iK (ak (fh (x:="abs") tK Z (AA.B.at "abs") w6 (ak (pv 5) au)) (ak (pv 6) au)))) (aH (bI (cw (pf (zx AA) hr (ak (pv 2) (ak (pv 7) au)))) (aH (pS 2 nd (pv 7))) bP))))) (aH (aO (pv 2))))),?_];erw[cy Z,λg0 H1 n1=>?_];erw[_,Z,v1,ns,cO,Z,RD.mono n1.same _ G0,ku,hz,λw1 H2 r2 s2=>?_];have t2:=n1.same.trans s2;erw[_,Z,v2,ms,dZ,Z,RD.mono t2 _ wK,a4m,zS,λw2 H3 r3 s3=>?_];have t3:=t2.trans s3;let(c1,xs1,rfl,h1,q1):=(RD.mono s3 _ r2).cu;let(c2,xs2,rfl,h2,q2):=r3.cu;have l1:=q1.length;have l2:=q2.length;rw[aW]at l1 l2;erw[c1,c2,Z,#[_,h1],#[_,h2],?_];erw[UO (K:=K) (b1:=false) (b2:=false) (xs:=xs1) (ys:=xs2) ns.length (by rw[l1,l2,gY.len];lia) (λi O H4=>aF H3 H4/\∃g u1 u2 u3 u4 u5,bJ H4 g (Rat.divInt (sR (g6 ns ms) i) ((aE ns:Int)*aE ms))/\O=[some v1,some v2,some g,u1,u2,u3,u4,u5]) ?_ (λi O H4 _ h=>#[h1.go h.1,h2.go h.1]) ?_ ?_]
  ·erw[aF.refl _,.ref g0,none,none,none,none,none,#[g0,Z,?_],Z]
   have e0:Rat.divInt ((sR (g6 ns ms) 0:Nat):Int) ((aE ns:Int)*aE ms)=0:=by show Rat.divInt 0 _=0;erw[Rat.zero_divInt _]
   rw[e0];erw[aU.of (s3 _ _ (s2 _ _ n1.at'))]
  ·rintro i x y O H4 ex ey ⟨s4,g,u1,u2,u3,u4,u5,rg,rfl⟩ T H5 n5
   erw[iC ?_];intro E1;let(d1,e1,rx):=q1.get' i ex;let(d2,e2,ry):=q2.get' i ey;let(a,ea,rfl):=oP e1;let(b,eb,rfl):=oP e2;have qa:=ku.bd a (fz ea);have qb:=gY.bd b (fz eb);have cz:=Xx ea eb;have czb:=cb _ (fz cz);have t5:=s4.trans n5.same;erw[T,_,Z,aU.of n5.at',Z,_,_,Z,_,_,Z,Z,?_];have jI:∀{H':Hp}{v:V}{r:Rat},RD K H' v (cP r)->bJ H' v r:=λ{H' v r} h=>by let(p,xs,rfl,h1,h2):=h.cu;have:=h2.gj (ns:=[r.num,r.den]);subst this;erw[p,Z,h1]
   erw[_,Z,_,Z,y,x,_,_,Z,jI (RD.mono t5 _ ry),jI (RD.mono t5 _ rx),(kP (n:=30) ao ao ao).mono aw,(kP (n:=30) ao ao ao).mono aw,λv6 H6 r6 s6=>?_];have ed:Rat.divInt b (aE ms)-Rat.divInt a (aE ns)=Rat.divInt (b*aE ns-a*aE ms) ((aE ns:Int)*aE ms):=YY ao ao;have r6:bJ H6 v6 (Rat.divInt b (aE ms)-Rat.divInt a (aE ns)):=r6;rw[ed]at r6;let(p6,rfl,h6):=r6;erw[p6,_,Z,h6,Z,_,_,Z,_,_,Z,Z,?_];erw[_,Z,_,Z,_,Z,cy Z,λdd H7 n7=>?_];have FC:=s6.trans n7.same;have rD:bJ H7 (.ref dd) (Rat.divInt (((a*(aE ms:Int)-b*(aE ns:Int)).natAbs:Nat):Int) ((aE ns:Int)*aE ms)):=by
    have e:Rat.divInt (((a*(aE ms:Int)-b*(aE ns:Int)).natAbs:Nat):Int) ((aE ns:Int)*aE ms)=vQ (Rat.divInt (b*aE ns-a*aE ms) ((aE ns:Int)*aE ms)):=by rw[acs L0,JW];congr 1;lia
    rw[e];erw[dd,Z,?_];rw[acr,acu];erw[aU.of n7.at']
   have rG:bJ H7 g _:=(rg.go n5.same).go FC;have hG:sR (g6 ns ms) i<=2000000:=qo λz hz=>cb z (Bj hz);erw[_,Z,_,Z,g,.ref dd,_,_,Z,rG,rD,Um _ ao,Um _ ao,_,Z,?_];have hs:=a7L cz;erw[fQ (λhc=>?_) (λhc=>?_)]
   ·have ck:=(Vu L0).mp (kF hc)
    erw[_,Z,?_];erw[t5.trans FC,_,_,_,_,_,_,?_,Z];rw[hs,Nat.max_eq_right ao];erw[rD]
   ·have hge:¬_:=λz=>hc (cj ((Vu L0).mpr z))
    erw[t5.trans FC,_,_,_,_,_,_,?_,Z];rw[hs,Nat.max_eq_left ao];erw[rG]
  ·rintro O H4 ⟨s4,g,u1,u2,u3,u4,u5,rg,rfl⟩
   erw[_,Z,k _ _ ?_ (t3.trans s4)];have:sR (g6 ns ms) ns.length=aE (g6 ns ms):=by unfold sR;rw[tZ ao]
   rw[this]at rg;erw[rg]
theorem NH:bf ["machine","one","other","jump","p","q"] ["machine","one","other"] (aQ PL):=bo aG
theorem a49(AA:All w K mg):bj P w K mg ay "corner_square" 6 a0b:=by
 exists AA.aa6.has,NH,iB λ_ _ _=>rfl
 ·let(v,v1,v2,rs,r,f',j,t,ns,ms,cO,dZ,rfl,rd,G0,wK,ku,gY,hz,j1,j2,k):=h
  have nd:=NH.nd;let(lp1,lm1):=ku.lead;let(lp2,lm2):=gY.lead;have L0:(0:Int)<(aE ns:Int)*aE ms:=jd ao ao;have Lb:((aE ns:Int)*aE ms).natAbs<=1000*1000:=oN ao ao;have cb:=Jy (λz hz=>by have:=ku.bd z hz;lia) (λz hz=>by have:=gY.bd z hz;lia) (ns:=ns) (ms:=ms);have hH:=qo cb;erw[_,(az (pS 3 nd (px K (pv 0) aB)) (az (fg (pf (a3h AA) hr (ak (pv 1) (ak (pv 2) au))) (eu K Z (n:=2) Z (bV (aR 4 nd) (bV (aR 5 nd) eg)))) (az (bI (bX (dN K Z hr.units) (pv 4) aB (bQ _)) (aH (aO gX)) bP) (aH (aO (pf (x9 AA) hr (ak (aM cN (aM cN (aM cN (pv 3) (pv 3)) (pv 5)) (pv 5)) (ak (aM cN (pv 4) (pv 4)) au)))))))),?_];let(am,bm,rfl,gF,jO):=oQ rd;erw[_,Z,.inr #[am,_,3,.int j,Z,Z,gF,Z,?_]];erw[_,Z,_,Z,v1,v2,ns,ms,cO,dZ,Z,G0,wK,ku,gY,hz,λv3 H3 r3 s3=>?_];obtain⟨JM⟩:Nonempty (Bd 30 (Rat.divInt (aE (g6 ns ms)) ((aE ns:Int)*aE ms))):=⟨kP (n:=30) ao ao ao⟩;have en:=vZ (Rat.divInt (aE (g6 ns ms)) ((aE ns:Int)*aE ms));obtain⟨R,hR⟩:∃R,Rat.divInt (aE (g6 ns ms)) ((aE ns:Int)*aE ms)=R:=#[_,Z];rw[hR]at r3 JM en;have dp:=den_pos R;have As:R.num*((aE ns:Int)*aE ms)=aE (g6 ns ms)*R.den:=by rw[<-hR]at en;have:=(Rat.divInt_eq_divInt_iff (by rw[hR];lia) ao).mp en;rw[hR]at this;erw[this]
  have nb:=JM.num;have db:=JM.den;let(p3,rfl,h3):=r3;erw[p3,_,Z,h3,Z,_,_,Z,_,_,Z,Z,?_];erw[_,Z,.inl #[_,_,Z,Z,_,Z,?_]];erw[fQ (λhc=>?_) (λhc=>?_)]
  ·have h0:R.num=0:=by simpa using hc
   have hl:aE (g6 ns ms)=0:=by
    rw[h0,Ew]at As;rcases Int.mul_eq_zero.mp As.symm with h|h
    ·lia
    ·lia
   erw[k .bu H3 ?_ s3];unfold Aw;rw[ba hl];erw[yY]
  ·have h0:R.num≠0:=by simpa using hc
   have hl:aE (g6 ns ms)≠0:=by
    intro z;rw[z]at As;have:R.num*((aE ns:Int)*aE ms)=0:=by rw[As];erw[Ew _]
    rcases Int.mul_eq_zero.mp this with h|h
    ·erw[h0 h]
    ·lia
   have m1:(j*j).natAbs<=50*50:=oN ao ao;have qE:(2:Nat)^64=18446744073709551616:=by decide
   erw[_,Z,_,Z,_,_,Z,Z,.of_left (dC ao ao),_,Z,_,_,Z,Z,.of_left (dC ao ao),_,Z,_,_,Z,Z,.of_right (dC ao ao),?_];erw[_,Z,_,Z,_,_,Z,Z,.of_left (dC ao ao),?_];erw[_,_,Z,KD h0 h0,?_,λv4 H4 r4 s4=>?_]
   ·erw[md (n:=60) ?_ aw]
    rw[iH];erw[sD (n:=30) (m:=30) nb nb]
   ·erw[k _ _ ?_ (s3.trans s4)]
    unfold Aw;rw[bc hl];have e:=abk (j:=j) (p:=R.num) (q:=R.den) (h:=aE (g6 ns ms)) (L:=(aE ns:Int)*aE ms) h0 ao As;rw[e,<-uc]at r4;erw[r4.rd]
def G4 (d:ah):Bool:=dw 10 200 d
inductive adm(vs:List V)(H:Hp)(Q:VK):Prop |mk (v:_)(d:_)(h0:vs=[v])(h1:RD K H v d)(h2:Q (.bl (G4 d)) H)
def ZC:Sp:=λvs H Q _=>adm vs H Q
theorem Ng:bf ["thing"] ["thing"] (aQ Ph):=bo aG
theorem RV(AA:All w K mg):bj P w K mg ay "is_rate" 3 ZC:=by
 exists AA.a9U.has,Ng,dg λ_=>rfl
 ·let(v,d,rfl,rd,k):=h
  have nd:=Ng.nd;erw[_,(aH (aO (pf (oG AA) hr (ak (pv 0) (ak (dM (x:="LEAST_RATE") Z AA.a8T) (ak (dM (x:="GREATEST_RATE") Z AA.a8U) au)))))),?_];erw[_,Z,v,d,10,200,Z,rd,k]
inductive acZ(vs:List V)(H:Hp)(Q:VK):Prop |mk (v:_)(ns:_)(sp:_)(r:_)(h0:vs=[v,.int r])(h1:RD K H v (eF ns sp))(h2:1<=sp)(h3:sp<=20)(h4:10<=r)(h5:r<=200)(h6:∀v' H',bJ H' v' (Rat.divInt ((sp*r)^2) 10000)->aF H H'->Q v' H')
def Zn:Sp:=λvs H Q _=>acZ vs H Q
theorem Zg(a b:Int):a*a*b*b=(a*b)^2:=by rw[fU,fU,m9,lG];ac_rfl
theorem a1M(h1:10<=r)(h2:r<=200):G4 (.int r)=true:=by show(decide (10<=r)&&decide (r<=200))=true;rw[cj h1,cj h2];rfl
theorem Mj:bf ["line","rate","speed"] ["line","rate"] (aQ NZ):=bo aG
theorem x6(AA:All w K mg):bj P w K mg ay "top_square" 4 Zn:=by
 exists AA.a9k.has,Mj,eD λ_ _=>rfl
 ·let(v,ns,sp,r,rfl,rd,s1,s2,r1,r2,k):=h
  have nd:=Mj.nd;erw[_,(az (bI (cR (cw (pf (RV AA) hr (ak (pv 1) au)))) (aH kn) bP) (az (pS 2 nd (px K (pv 0) aB)) (aH (aO (pf (x9 AA) hr (ak (aM cN (aM cN (aM cN (pv 2) (pv 2)) (pv 1)) (pv 1)) (ak (aM cN aB aB) au))))))),?_];erw[_,Z,_,.int r,Z,fO r,_,Z,?_];rw[a1M r1 r2];erw[aP ?_];let(a,b,rfl,ha,hb):=oT rd;erw[_,Z,.inr #[a,_,2,.int sp,Z,Z,ha,Z,?_]];have m1:(sp*sp).natAbs<=20*20:=by rw[iH];erw[o8 ao ao]
  erw[_,Z,_,Z,_,_,Z,Z,.of_left (dC ao ao),_,Z,_,_,Z,Z,.of_left (dC ao ao),_,Z,_,_,Z,Z,.of_right (dC ao ao),?_];erw[_,_,Z,Z,.of_left (dC aw aw),?_];erw[_,_,Z,aw,md (n:=20) aw aw,λv' H' r' s'=>k v' H' ?_ s'];rw[Zg]at r';erw[r']
end
end _a
namespace _a
open PySem PySem.Spec PyProof.Rows _L _b _l _C _P
open _O (topR cornO mnO betR atO ownF leadF ownL OkI OkIs)
section
theorem C1(n:Nat)(h:n<=1000):n<sizeLine:=Eo h aw
theorem jI{v:V}(h:RD K H v (cP r)):bJ H v r:=by let(p,xs,rfl,h1,h2):=h.cu;have:=h2.gj (ns:=[r.num,r.den]);subst this;erw[p,Z,h1]
theorem ft.up(h:ft ax 100 ns):ft ns.length 1000 ns:=#[Z,λz hz=>by have:=h.bd z hz;lia,h.nz]
theorem cU.lO{ax:Nat}{ds:List ah}{os:List Itm}(h:cU ax ds os):OkIs os:=λi ns sp e=>by unfold atO at e;cases ho:os[i]? with |none=>rw[ho]at e;cases e |some o=>rw[ho]at e;have e':o=some (ns,sp):=e;subst e';let(a,b,c):=h.ok i ns sp ho;erw[a.bd,b,c]
theorem xf(h:aU K H a [.int 0,.int 1]):bJ H (.ref a) 0:=#[a,Z,h]
theorem abn(j:Int)(ns ms:List Int):Aw j ns ms=match cornO j ns ms with|none=>.none|some c=>cP c:=by unfold Aw cornO;split<;>rfl
inductive aej(vs:List V)(H:Hp)(Q:VK):Prop |mk (m:_)(v1:_)(v2:_)(rate:_)(rs:_)(r:_)(f:_)(j:_)(t:_)(d1:_)(d2:_)(o1:_)(o2:_)(ax:_)(h0:vs=[m,v1,v2,.int rate])(h1:RD K H m (fG rs r f j t))(h2:1<=j)(h3:j<=50)(h4:RD K H v1 d1)(h5:RD K H v2 d2)(h6:itR d1 o1)(h7:itR d2 o2)(h8:(∀ns sp,o1=some (ns,sp)->ft ax 100 ns/\1<=sp/\sp<=20))(h9:(∀ns sp,o2=some (ns,sp)->ft ax 100 ns/\1<=sp/\sp<=20))(qF:ax<=100)(II:10<=rate)(vm:rate<=200)(Uu:∀v H',bJ H' v (betR j rate o1 o2)->aF H H'->Q v H')
def a0d:Sp:=λvs H Q _=>aej vs H Q
theorem NK:bf ["machine","one","other","rate","squares","corner"] ["machine","one","other","rate"] (aQ PR):=bo aG
theorem RZ(AA:All w K mg):bj P w K mg ay "bound_between" 7 a0d:=by
 let(aN,jw,kJ):=AA.vn;exists AA.aaa.has,NK,xV λ_ _ _ _=>rfl
 ·let(m,v1,v2,rate,rs,r,f,j,t,d1,d2,o1,o2,ax,rfl,rm,j1,j2,r1,r2,i1,i2,k1,k2,hax,cg,cn,k):=h
  have nd:=NK.nd;erw[_,(az (bI (PW.pt (iI (cR (cw (pf (oJ AA) hr (ak (pv 1) au)))) (jJ (cR (cw (pf (oJ AA) hr (ak (pv 2) au))))))) (aH (aO (dM (x:="NOUGHT") Z jw))) bP) (az (pS 4 nd (dj (ak (pf (x6 AA) hr (ak (pv 1) (ak (pv 3) au))) (ak (pf (x6 AA) hr (ak (pv 2) (ak (pv 3) au))) au)))) (az (pS 5 nd (pf (a49 AA) hr (ak (pv 0) (ak (pv 1) (ak (pv 2) au))))) (az (iZ (bI (bX wU (pv 5) gX (bQ _)) (aH (fP (iL K Z (pv 4) (ak (pv 5) au)))) bP)) (aH (aO (pf (uK AA) hr (ak (pv 4) au)))))))),?_];erw[_,Z,v1,d1,o1,Z,r1,i1,_,Z,?_];cases o1 with |none=>erw[bM (bM ?_)];have:=k _ H (xf (kJ H)) (aF.refl _);erw[this] |some q1=>let(ns,sp):=q1;erw[aP ?_];erw[_,Z,v2,d2,o2,Z,r2,i2,_,Z,?_];cases o2 with |none=>erw[bM ?_];erw[k _ H (xf (kJ H)) (aF.refl _)] |some q2=>let(ms,sq):=q2;erw[aP ?_];have e1:=iP i1;have e2:=iP i2;subst e1 e2;let(ku,a1,a2):=k1 ns sp rfl;let(gY,b1,b2):=k2 ms sq rfl;erw[_,Z,_,Z,v1,ns,sp,rate,Z,r1,a1,a2,cg,cn,λt1 H1 a1f s1=>?_];erw[_,Z,_,Z,v2,ms,sq,rate,Z,RD.mono s1 _ r2,b1,b2,cg,cn,λt2 H2 a1e s2=>?_];erw[cy Z,λl H3 n3=>?_];have t3:=s1.trans (s2.trans n3.same);have j7:ft ns.length 1000 ms:=#[by rw[ku.len,gY.len],gY.up.bd,gY.nz];erw[_,Z,_,Z,_,Z,m,v1,v2,rs,r,f,j,t,ns,ms,sp,sq,Z,RD.mono t3 _ rm,RD.mono t3 _ r1,RD.mono t3 _ r2,ku.up,j7,by rw[ku.len];lia,j1,j2,λc H4 rc s4=>?_];have T1:Bd 2000 (topR rate sp):=(_O.pP a1 a2 cg cn).mono aw;have T2:Bd 2000 (topR rate sq):=(_O.pP b1 b2 cg cn).mono aw;have R1:bJ H4 t1 (topR rate sp):=((a1f.go s2).go n3.same).go s4;have R2:bJ H4 t2 (topR rate sq):=(a1e.go n3.same).go s4;have t4:=t3.trans s4;rw[abn]at rc;cases hc:cornO j ns ms with
   |none=>
    rw[hc]at rc;cases rc.GP;erw[λO H5=>H5=H4/\O=[some m,some v1,some v2,some (.int rate),some (.ref l),some .bu],?_,?_]
    ·erw[kA ?_];intro E1
     erw[_,Z,Z,_,Z,aP ?_];erw[Z,Z]
    rintro O H5 ⟨rfl,rfl⟩;erw[_,Z,l,[t1,t2],[topR rate sp,topR rate sq],Z,aD.of (s4 _ _ n3.at'),#[R1,T1,R2,T2,trivial],by simp,λi v q e1 e2 hq=>?_];have nA:betR j rate (some (ns,sp)) (some (ms,sq))=q:=by
     show mnO (mn _ _) (cornO j ns ms)=q;rw[hc];erw[uU ?_ (hq _ (by simp)) (hq _ (by simp))]
     match i,e2 with |0,e2=>cases e2;erw[.inl rfl] |1,e2=>cases e2;erw[.inr rfl]
    erw[k v _ ?_ t4];rw[nA]
    match i,e1,e2 with |0,e1,e2=>cases e1;cases e2;erw[R1] |1,e1,e2=>cases e1;cases e2;erw[R2]
   |some cq=>
    rw[hc]at rc;have Rc:bJ H4 c cq:=jI rc;have Tc:Bd 2000 cq:=(_O.VI j1 j2 ku.bd gY.bd hc).mono aw;have lZ:=s4 _ _ n3.at';have tU:fm H4 (_L.upd H4 l (.lst ([t1,t2]++[c]))):=.iW lZ;erw[λO H5=>H5=_L.upd H4 l (.lst ([t1,t2]++[c]))/\O=[some m,some v1,some v2,some (.int rate),some (.ref l),some c],?_,?_]
    ·erw[kA ?_];intro E2
     let(pc,rfl,_):=id Rc;erw[_,Z,Z,_,Z,bM ?_];erw[_,Z,.inl #[Z,_,aD.of lZ],_,Z,l,[t1,t2],_,Z,Z,lZ,C1 _ (X7 Z),?_];erw[Z,Z]
    rintro O H5 ⟨rfl,rfl⟩;have up:∀{v:V}{q:Rat},bJ H4 v q->bJ (_L.upd H4 l (.lst ([t1,t2]++[c]))) v q:=λ{v q} h=>jI (RD.t tU _ (pZ q) h.rd);erw[_,Z,l,[t1,t2,c],[topR rate sp,topR rate sq,cq],Z,aD.of bZ,#[up R1,T1,up R2,T2,up Rc,Tc,trivial],by simp,λi v q e1 e2 hq=>?_];have nA:betR j rate (some (ns,sp)) (some (ms,sq))=q:=by
     show mnO (mn _ _) (cornO j ns ms)=q;rw[hc];show mn (mn _ _) cq=q;have h1:=hq _ (show topR rate sp∈[topR rate sp,topR rate sq,cq] by simp);have h2:=hq _ (show topR rate sq∈[topR rate sp,topR rate sq,cq] by simp);have h3:=hq _ (show cq∈[topR rate sp,topR rate sq,cq] by simp);erw[uU ?_ (gE h1 h2) h3]
     match i,e2 with |0,e2=>cases e2;erw[.inl (uU (.inl rfl) h1 h2).symm] |1,e2=>cases e2;erw[.inl (uU (.inr rfl) h1 h2).symm] |2,e2=>cases e2;erw[.inr rfl]
    have sU:aF H (_L.upd H4 l (.lst ([t1,t2]++[c]))):=λb o e=>by have h0:H2 l=none:=n3.no;have e2:=s2 b o (s1 b o e);rw[aY (eM e2 h0)];erw[t4 b o e]
    erw[k v _ ?_ sU];rw[nA]
    match i,e1,e2 with |0,e1,e2=>cases e1;cases e2;erw[up R1] |1,e1,e2=>cases e1;cases e2;erw[up R2] |2,e1,e2=>cases e1;cases e2;erw[up Rc]
end
section
theorem qh(qs:List Rat):cx (qs.map cP)=true:=Sf pZ qs
theorem aI.Fh{l:Addr}{d:ah}(dl:H l=some (.lst ys))(r:aI K H ys ds)(rd:RD K H y d)(n1:cx ds=true)(n2:dW d=true):aI K (_L.upd H l (.lst (ys.set i y))) (ys.set i y) (ds.set i d):=by have t:fm H (_L.upd H l (.lst (ys.set i y))):=.iW dl;have r':=aI.t t _ n1 r;have Qu:=RD.t t _ n2 rd;clear r rd dl t;generalize _L.upd H l (.lst (ys.set i y))=H' at r' Qu;induction ds generalizing ys i with |nil=>cases r'.nil_inv;erw[cW] |cons d0 ds ih=>
 let(y0,yr,rfl,h1,h2):=r'.cons_inv;have zJ:cx ds=true:=by rw[cx,fA]at n1;erw[n1.2]
 cases i with |zero=>erw[cG Qu h2] |succ i=>erw[cG h1 (ih zJ h2)]
theorem Jx(xs:List V):m4 xs (some 1) none=xs.drop 1:=by unfold m4;have e:_H.cC xs.length 0 (some 1)=min 1 xs.length:=_H.Pe _ _ 1;rw[e,_H.Pc];cases xs with |nil=>rfl |cons x xs=>
 have e2:min 1 (x::xs).length=1:=by simp
 rw[e2,tZ (by simp)]
inductive adB(vs:List V)(H:Hp)(Q:VK):Prop |mk (m:_)(iv:_)(rate:_)(rs:_)(r:_)(f:_)(j:_)(t:_)(ds:_)(os:_)(h0:vs=[m,iv,.int rate])(h1:RD K H m (fG rs r f j t))(h2:gH rs r f j t)(h3:RD K H iv (.tuple ds))(h4:cU rs.length ds os)(h5:ds.length<=100)(h6:10<=rate)(h7:rate<=200)(h8:∀l ys H',H l=none->H' l=some (.lst ys)->aI K H' ys ((ownL j rate os).map cP)->aF H H'->Q (.ref l) H')
def ZK:Sp:=λvs H Q _=>adB vs H Q
theorem C3:bf ["machine","items","rate","between"] ["machine","items","rate"] (aQ OP):=bo aG
theorem RM(AA:All w K mg):bj P w K mg ay "own_bounds" 8 ZK:=by
 let(aN,jw,kJ):=AA.vn;exists AA.UT.has,C3,iB λ_ _ _=>rfl
 ·let(m,iv,rate,rs,r,f,j,t,ds,os,rfl,rm,aA,ri,row,hz,cg,cn,k):=h
  have nd:=C3.nd;have rN:∀H',RD K H' (.ref aN) (cP 0):=λH'=>(xf (kJ H')).rd;erw[_,(az (bI (cR (z9 K Z (pv 1))) (aH (aO (dj (ak (dM (x:="NOUGHT") Z jw) au)))) bP) (az (C8 (i0:=3) nd Z (Or.inl Z) (N:=["one","other","machine","rate"]) (js:=[none,none,some 0,some 2]) Z Z Z (oC K Z false false Z (AA.B.at "zip") (ak (pv 1) (ak (zh (yO K rfl) (pv 1) (zb aB) zc) au))) (λ_ _ _ _ _=>(eu K rfl (n:=2) rfl (bV (aR 0 (show List.Nodup (["one","other","machine","rate"]:List Str) by decide+kernel)) (bV (aR 1 (show List.Nodup (["one","other","machine","rate"]:List Str) by decide+kernel)) eg)))) (λ_ _ _ _ _=>e9) (λ_ _ _ _ _=>(pf (RZ AA) hr (ak (pv 2) (ak (pv 0) (ak (pv 1) (ak (pv 3) au))))))) (aH (aO (aM (xP K Z) (aM (xP K Z) (dj (ak (dM (x:="NOUGHT") Z jw) au)) (pv 3)) (dj (ak (dM (x:="NOUGHT") Z jw) au))))))),?_];let(ia,xs,rfl,hi,eO):=ri.cu;have lx:=eO.length;have ll:=row.len;erw[_,Z,_,.inr (.inl #[_,hi,Z]),?_];cases hd:xs with
  |nil=>
   subst hd;erw[bM ?_];erw[cy Z,λl H1 n1=>?_];erw[k l [.ref aN] H1 n1.no n1.at' ?_ n1.same];have e:os=[]:=by
    have:os.length=0:=by rw[<-ll,<-lx];rfl
    erw[Kw.mp this]
   rw[e];erw[cG (rN H1) cW] |cons x0 xr=>
   erw[aP ?_];have cD:os≠[]:=by intro e;rw[e]at ll;rw[hd]at lx;simp at ll lx;rw[ll]at lx;cases lx
   have Ih:0<xs.length:=by rw[hd];simp
   erw[_,Z,_,Z,1,Z,ia,xs,Z,.inr #[hi,?_,λtl H1 n1=>?_]]
   ·rintro⟨h1,_⟩
    have e:_H.cC xs.length 0 (some 1)=min 1 xs.length:=_H.Pe _ _ 1;rw[e]at h1
    lia
   erw[ia,tl,Z,#[_,hi.go n1.same],#[_,aU.of n1.at'],λD H2 n2=>?_];have et:=n1.at';rw[Jx]at et;have zw:∀(i:Nat)(o:Itm),os[i]? =some o->∀(ns:List Int)(sp:Int),o=some (ns,sp)->ft rs.length 100 ns/\1<=sp/\sp<=20:=λi o e ns sp e'=>row.ok i ns sp (by rw[e,e']);have lr:=aA.len;erw[vF (K:=K) (b1:=false) (b2:=false) (xs:=xs) (ys:=xs.drop 1) (ds:=((List.range (os.length-1)).map (λi=>ownF j rate os (i+1))).map cP) _ Z (hi.go n1.same) (aU.of et) n2 (by rw[Bm];simp;lia) (by simp;lia) (qh _) ?_ ?_]
   ·intro i x y d H3 Q' ex ey ed s3 hq
    have gm:=n1.same.trans s3;rw[Xf]at ey;let(d1,e1,r1):=eO.get' i ex;let(d2,e2,r2):=eO.get' (1+i) ey;let(o1,Ag,i1):=row.get e1;let(o2,vw,i2):=row.get e2;have Dr:1+i<os.length:=(cK.mp vw).1;have dG:d=cP (betR j rate o1 o2):=by rw[bO,bO,bL (by simp;lia),Bn]at ed;have:=(eW ed).symm;rw[this];show cP (betR j rate (atO os i) (atO os (i+1)))=_;rw[_O.nU Ag,_O.nU (show os[i+1]? =some o2 by rw[Ks];erw[vw])]
    subst dG;erw[_,Z,_,Z,_,Z,_,Z,m,x,y,rate,rs,r,f,j,t,d1,d2,o1,o2,rs.length,Z,RD.mono gm _ rm,aA.j1.1,aA.j1.2,RD.mono gm _ r1,RD.mono gm _ r2,i1,i2,zw _ _ Ag,zw _ _ vw,ao,cg,cn,λv H4 rv s4=>?_];erw[hq _ _ s4 rv.rd]
   ·intro H3 zs s3 d3 r3
    have lz:=r3.length;simp at lz;erw[cy Z,λl1 H4 n4=>?_];erw[_,Z,l1,D,_,zs,Z,Z,aD.of n4.at',aD.of (n4.same _ _ d3),yN _ (by simp;lia),λl2 H5 n5=>?_];erw[cy Z,λl3 H6 n6=>?_];erw[l2,l3,_,_,Z,Z,aD.of (n6.same _ _ n5.at'),aD.of n6.at',yN _ (by simp;lia),λl H7 n7=>?_];have yT:aF H H6:=n1.same.trans (s3.trans (n4.same.trans (n5.same.trans n6.same)));have nl:H l=none:=by cases e:H l with |none=>rfl |some o=>have:=yT _ _ e;rw[n7.no]at this;cases this
    erw[k l _ H7 nl n7.at' ?_ (yT.trans n7.same)];rw[_O.R5 j rate cD,fT,fT];exact((cG (rN H7) cW).append (aI.mono (n4.same.trans (n5.same.trans (n6.same.trans n7.same))) _ r3)).append (cG (rN H7) cW)
end
section
end
section
inductive adz(vs:List V)(H:Hp)(Q:VK):Prop |mk (v:_)(r:_)(z:_)(h0:vs=[v,.int z])(h1:bJ H v r)(h2:Bd 2000 r)(h3:z.natAbs<2^24)(h4:∀v H',bJ H' v (r+(z:Rat))->aF H H'->Q v H')
def ZI:Sp:=λvs H Q _=>adz vs H Q
theorem XD{r:Rat}{z:Int}(m:r+(z:Rat)=Rat.divInt (r.num*(1:Nat)+z*r.den) (r.den*(1:Nat))):r.num+z*r.den=(r+(z:Rat)).num/\(r.den:Int)=(r+(z:Rat)).den:=by
 have c:(r.num+z*r.den).natAbs.Coprime r.den:=(Int.gcd_add_mul_right_left (r.den:Int) r.num z).trans r.reduced;have e:r+(z:Rat)=#[r.num+z*r.den,r.den,r.den_nz,c]:=by rw[m,Rat.mk_eq_divInt,Int.natCast_one,ua,ua]
 rw[e];erw[Z,Z]
theorem MT:bf ["one","more","p","q"] ["one","more"] (aQ OO):=bo aG
theorem lN(AA:All w K mg):bj P w K mg ay "plus_whole" 4 ZI:=by
 exists AA.a9z.has,MT,eD λ_ _=>rfl
 ·let(v,r,z,rfl,(p,rfl,hp),br,hz,k):=h
  have nd:=MT.nd;erw[_,(az (fg (pv 0) (eu K Z (n:=2) Z (bV (aR 2 nd) (bV (aR 3 nd) eg)))) (aH (aO (iK (ak (aM dR (pv 2) (aM cN (pv 1) (pv 3))) (ak (pv 3) au)))))),?_];erw[_,Z,_,_,Z,hp,Z,_,_,Z,_,_,Z,Z,?_];have bz:Bd 24 (z:Rat):=#[hz,by show 1<2^24;decide];let(e1,e2):=XD (add_div r z);erw[_,Z,_,Z,_,Z,_,_,Z,Z,pK (bz.mono aw).wn.bits br.wd.bits,_,_,Z,Z,_,Z,(by show 2<=sizeLine;decide),λt H' n=>k _ _ #[t,Z,aU.of ?_] n.same];rw[<-e1,<-e2];erw[n.at']
theorem qr{os:List Itm}{i:Nat}{ns:List Int}{sp:Int}(h:os[i]? =some (some (ns,sp))):leadF os i=some (aE ns):=by unfold leadF;rw[_O.nU h];rfl
theorem Hv{os:List Itm}{i:Nat}(h:os[i]? =some none):leadF os i=none:=by unfold leadF;rw[_O.nU h];rfl
theorem xo{os:List Itm}(h:OkIs os){i m:Nat}(e:leadF os i=some m):m<=100:=by unfold leadF at e;cases ho:atO os i with |none=>rw[ho]at e;cases e |some q=>rw[ho]at e;cases e;let(a,_,_):=h i q.1 q.2 ho;erw[qo λz hz=>by have:=a z hz;lia]
theorem wu{r:Int}{m:Nat}(h1:1<=r)(h2:r<=50)(h3:m<=100):(2*r*(m:Int)).natAbs<2^24:=by
 have iQ:(2:Nat)^24=16777216:=by decide
 have:=oN (a:=2*r) (b:=(m:Int)) (m:=100) (n:=100) ao ao;rw[iQ];lia
inductive adk(vs:List V)(H:Hp)(Q:VK):Prop |mk (m:_)(iv:_)(l:_)(ys:_)(rs:_)(r:_)(f:_)(j:_)(t:_)(ds:_)(os:_)(g:_)(h0:vs=[m,iv,.ref l])(h1:RD K H m (fG rs r f j t))(h2:gH rs r f j t)(h3:RD K H iv (.tuple ds))(h4:cU rs.length ds os)(h5:ds.length<=30)(h6:H l=some (.lst ys))(h7:aI K H ys ((lst os.length g).map cP))(h8:(∀i,Bd 64 (g i)))(h9:∀l ys H',H l=none->H' l=some (.lst ys)->aI K H' ys ((lst os.length (Rz g (leadF os) (2*r))).map cP)->aF H H'->Q (.ref l) H')
def Zz:Sp:=λvs H Q _=>adk vs H Q
theorem MI:bf ["machine","items","squares","rise","kept","i","item"] ["machine","items","squares"] (aQ Ol):=bo aG
theorem a3E(AA:All w K mg):bj P w K mg ay "kept_by_rise" 5 Zz:=by
 erw[AA.a9N.has MI (λvs H Q E h=>?_) (λ_ _ _ _ _ _=>iB λ_ _ _=>rfl) (λf aK A outer s H vs Q E hr h=>?_)]
 · let(m,iv,l,ys,rs,r,f,j,t,ds,os,g,rfl,_):=h
   rfl
 · let(m,iv,l,ys,rs,r,f,j,t,ds,os,g,rfl,rm,aA,ri,row,hz,dl,yX,bg,k):=h
   have nd:=MI.nd;erw[_,(az (pS 3 nd (px K (pv 0) aB)) (az (pS 4 nd (dF (x:="list") (CW K Z) Z (AA.B.at "list") El (ak (pv 2) au))) (az (gW fS Z (zf K Z false Z (AA.B.at "enumerate") (ak (pv 1) au)) (eu K rfl (n:=2) rfl (bV (aR 5 nd) (bV (aR 6 nd) eg))) (aH (bI (cw (pf (oJ AA) hr (ak (pv 6) au))) (aH (fg (pf (uK AA) hr (ak (dj (ak (px K (pv 4) (aM dR (pv 5) aB)) (ak (pf (lN AA) hr (ak (px K (pv 4) (pv 5)) (ak (aM cN (aM cN aB (pv 3)) (pf (qf AA) hr (ak (pv 6) au))) au))) au))) au)) (uG (pv 4) (aM dR (pv 5) aB) set_list))) bP))) (aH (aO (pv 4)))))),?_];let(ma,mb,rfl,gF,jO):=oQ rm;let(ia,xs,rfl,hi,eO):=ri.cu;have lx:=eO.length;have ll:=row.len;have lr:=aA.len;have hL:∀i m,leadF os i=some m->(2*r*(m:Int)).natAbs<2^24:=λi m e=>wu aA.r1.1 aA.r1.2 (xo row.lO e);have RB:∀i,i<=30->Bd 900 (Rz g (leadF os) (2*r) i):=λi hi=>(DZ bg hL i).mono aL;erw[_,Z,.inr #[ma,_,1,.int r,Z,Z,gF,Z,?_]];erw[_,Z,l,ys,Z,.inl (aD.of dl),λD H1 n1=>?_];erw[_,Z,ia,Z,#[_,hi.go n1.same],Ac (K:=K) (b:=false) (a:=ia) (xs:=xs) (λi O H2=>aF H H2/\∃zs v1 v2,H2 D=some (.lst zs)/\aI K H2 zs ((lst os.length λk=>if k<=i then Rz g (leadF os) (2*r) k else g k).map cP)/\O=[some (.ref ma),some (.ref ia),some (.ref l),some (.int r),some (.ref D),v1,v2]) ?_ (λi O H2 _ h=>hi.go h.1) ?_ ?_]
   · erw[n1.same,ys,none,none,n1.at',?_,Z]
     rw[qm (g:=λk=>if k<=0 then Rz g (leadF os) (2*r) k else g k) (g':=g)]
     ·erw[aI.mono n1.same _ yX]
     · intro k _
       show g k=if k<=0 then Rz g (leadF os) (2*r) k else g k;split
       · next h => have:k=0:=by omega
                   subst this;rfl
       ·rfl
   · rintro i y O H2 hy ⟨s2,zs,v1,v2,dz,rz,rfl⟩ T H3 n3
     erw[iC ?_];intro E1;have sP:i<xs.length:=(cK.mp hy).1;let(d,ed,rd):=eO.get' i hy;let(o,eo,it):=row.get ed;have s3:=s2.trans n3.same;have lz:=rz.length;rw[aW,lP]at lz;erw[T,_,Z,aU.of n3.at',Z,_,_,Z,_,_,Z,Z,?_];erw[_,Z,y,d,o,Z,RD.mono s3 _ rd,it,_,Z,?_];cases o with
     |none=>
       erw[aP ?_];erw[s3,zs,_,_,n3.same _ _ dz,?_,Z];rw[qm (g:=λk=>if k<=i+1 then Rz g (leadF os) (2*r) k else g k) (g':=λk=>if k<=i then Rz g (leadF os) (2*r) k else g k)]
       ·erw[aI.mono n3.same _ rz]
       · intro k _
         show(if k<=i then Rz g (leadF os) (2*r) k else g k)=if k<=i+1 then Rz g (leadF os) (2*r) k else g k;by_cases h1:k<=i
         ·rw[ba h1,ba aL]
         · rw[bc h1]
           by_cases h2:k=i+1
           ·subst h2;rw[ba (aV _),xY (Hv eo)]
           ·rw[bc aL] |some q=>
       let(ns,sp):=q;erw[bM ?_];have dG:=iP it;subst dG;let(bW,_,_):=row.ok i ns sp eo;have Jt:=n3.same _ _ dz;have FG:=aI.mono n3.same _ rz;obtain⟨z1,nN⟩:∃z,zs[i+1]? =some z:=#[_,bL (show i+1<zs.length by omega)];obtain⟨z0,jy⟩:∃z,zs[i]? =some z:=#[_,bL (show i<zs.length by omega)];have R1:bJ H3 z1 (g (i+1)):=by
        let(d1,e1,r1):=FG.get' (i+1) nN;rw[bO,lQ _ (show i+1<=os.length by omega)]at e1;cases e1;have:¬(i+1<=i):=by omega
        simp only[bc this]at r1;erw[jI r1]
       have R0:bJ H3 z0 (Rz g (leadF os) (2*r) i):=by let(d1,e1,r1):=FG.get' i jy;rw[bO,lQ _ (show i<=os.length by omega)]at e1;cases e1;simp only[ba (aV i)]at r1;erw[jI r1]
       have tG:((i:Int)+1).toNat=i+1:=by omega
       have vN:fb zs ((i:Int)+1)=some z1:=cB aL (by rw[tG];erw[nN]);have vO:fb zs (i:Int)=some z0:=cB aL (by simpa using jy);erw[_,Z,_,Z,_,_,Z,Z,.inl #[D,_,_,_,Z,Z,aD.of Jt,vN,?_]];erw[_,Z,_,Z,.inl #[D,_,_,_,Z,Z,aD.of Jt,vO,?_]];erw[_,Z,_,_,Z,Z,.of_left (dC aw aw),?_];erw[_,Z,y,ns,sp,Z,RD.mono s3 _ rd,bW.ne,by rw[bW.len];omega,λH4 s4=>?_];have iz:=aA.r1;erw[_,_,Z,Z,.of_left (dC aL aL),?_];have us:=hL i _ (qr eo);erw[z0,_,_,Z,R0.go s4,(RB i aL).mono aw,us,λu H5 ru s5=>?_];erw[cy Z,λl2 H6 n6=>?_];have iY:=s4.trans (s5.trans n6.same);have Wz:=R1.go iY;have Ru:=ru.go n6.same;have B1:Bd 2000 (g (i+1)):=(bg _).mono aw;have B2:Bd 2000 (Rz g (leadF os) (2*r) i+((2*r*(aE ns:Int):Int):Rat)):=(jW (RB i aL) us).mono aw;erw[l2,[z1,u],[_,_],Z,aD.of n6.at',#[Wz,B1,Ru,B2,trivial],by simp,λc v q e1 e2 hq=>?_];have nA:mn (g (i+1)) (Rz g (leadF os) (2*r) i+((2*r*(aE ns:Int):Int):Rat))=q:=by
        erw[uU ?_ (hq _ (by simp)) (hq _ (by simp))]
        match c,e2 with |0,e2=>cases e2;erw[.inl rfl] |1,e2=>cases e2;erw[.inr rfl]
       have Rv:bJ H6 v q:=by match c,e1,e2 with |0,e1,e2=>cases e1;cases e2;erw[Wz] |1,e1,e2=>cases e1;cases e2;erw[Ru]
       have jS:=iY _ _ Jt;have ix1:jo zs.length ((i:Int)+1)=some (i+1):=by unfold jo;rw[ba aL,ba aL,tG]
       erw[_,Z,_,Z,_,_,Z,Z,D,zs,_,_,Z,Z,jS,ix1,?_];erw[λb o e=>?_,_,_,_,bZ,?_,Z]
       ·rw[aY (eM e n1.no)];erw[iY b o (s3 b o e)]
       · have h:=aI.Fh (i:=i+1) jS (aI.mono iY _ FG) Rv.rd (qh _) (pZ _)
         rw[<-Es]at h;have e:(lst os.length λk=>if k<=i then Rz g (leadF os) (2*r) k else g k).set (i+1) q=lst os.length λk=>if k<=i+1 then Rz g (leadF os) (2*r) k else g k:=by
          rw[<-Hj (g:=λk=>if k<=i then Rz g (leadF os) (2*r) k else g k) (g':=λk=>if k<=i+1 then Rz g (leadF os) (2*r) k else g k) (i:=i+1)]
          · simp only[ba (aV (i+1))]
            rw[o5 (qr eo),nA]
          · intro k _ hk
            show(if k<=i+1 then _ else _)=if k<=i then _ else _;by_cases h1:k<=i
            ·rw[ba h1,ba aL]
            ·rw[bc h1,bc aL]
         rw[e]at h;erw[h]
   · rintro O H2 ⟨s2,zs,v1,v2,dz,rz,rfl⟩
     rw[qm (g:=λk=>if k<=xs.length then Rz g (leadF os) (2*r) k else g k) (g':=Rz g (leadF os) (2*r)) (λk hk=>by show _=if k<=xs.length then _ else _;rw[ba aL])]at rz;erw[_,Z,k D zs H2 n1.no dz rz s2]
end
section
def gP(r f:Int)(ld:Nat)(top b e:Rat)(k:Nat):Rat:=mn (mn (b+((r*(2*(1+(k:Int))-1):Int):Rat)) top) (e+((f*(2*((ld:Int)-(1+(k:Int)))+1):Int):Rat))
def He(r f:Int)(ld:Nat)(top b e:Rat):List Rat:=(List.range ld).map (gP r f ld top b e)
theorem Sy(h:q=x\/q=y\/q=z)(h1:q<=x)(h2:q<=y)(h3:q<=z):mn (mn x y) z=q:=by
 erw[rn ?_ (gE (gE h1 h2) h3)];rcases h with h|h|h
 ·rw[h];erw[cL (eZ _ _) (eZ _ _)]
 ·rw[h];erw[cL (eZ _ _) (gN _ _)]
 ·rw[h];erw[gN _ _]
theorem FU{r:Int}{k ld:Nat}(h1:1<=r)(h2:r<=50)(hk:k<ld)(hl:ld<=100):(r*(2*(1+(k:Int))-1)).natAbs<=50*200:=by rw[iH];erw[o8 ao ao]
theorem IY{f:Int}{k ld:Nat}(h1:1<=f)(h2:f<=50)(hk:k<ld)(hl:ld<=100):(f*(2*((ld:Int)-(1+(k:Int)))+1)).natAbs<=50*201:=by rw[iH];erw[o8 aL aL]
theorem jK:(2:Nat)^24=16777216:=by decide
inductive adL(vs:List V)(H:Hp)(Q:VK):Prop |mk (m:_)(iv:_)(bv:_)(ev:_)(rate:_)(rs:_)(r:_)(f:_)(j:_)(t:_)(ns:_)(sp:_)(b:_)(e:_)(h0:vs=[m,iv,bv,ev,.int rate])(h1:RD K H m (fG rs r f j t))(h2:gH rs r f j t)(h3:RD K H iv (eF ns sp))(h4:ft rs.length 100 ns)(h5:1<=sp)(h6:sp<=20)(h7:bJ H bv b)(h8:bJ H ev e)(h9:Bd 1800 b)(qF:Bd 1800 e)(II:10<=rate)(vm:rate<=200)(Uu:∀l ys H',H l=none->H' l=some (.lst ys)->aI K H' ys ((He r f (aE ns) (topR rate sp) b e).map cP)->aF H H'->Q (.ref l) H')
def ZR:Sp:=λvs H Q _=>adL vs H Q
theorem qp{n:Nat}(h:ft n 100 ns):aE ns<=100:=by have:=h.lead;lia
theorem a1P{α:Type}(g:Nat->α)(i:Nat):(List.range (i+1)).map g=(List.range i).map g++[g i]:=by rw[Kt,fT];rfl
theorem N1:bf ["machine","line","begin","end","rate","rise","fall","top","lead","told","k","risen","falling"] ["machine","line","begin","end","rate"] (aQ OY):=bo aG
theorem a3O(AA:All w K mg):bj P w K mg ay "middles" 5 ZR:=by
 exists AA.a9I.has,N1,al5 λ_ _ _ _ _=>rfl
 ·let(m,iv,bv,ev,rate,rs,r,f,j,t,ns,sp,b,e,rfl,rm,aA,ri,bW,cO,dZ,Rb,Re,bb,be,cg,cn,k):=h
  have nd:=N1.nd;erw[_,(az (za (i:=5) (j:=6) Z nd Z Z aw Z Z (ak (px K (pv 0) aB) (ak (px K (pv 0) aB) au)) Z) (az (pS 7 nd (pf (x6 AA) hr (ak (pv 1) (ak (pv 4) au)))) (az (pS 8 nd (pf (qf AA) hr (ak (pv 1) au))) (az (pS 9 nd (dj au)) (az (gW fS Z (QP Z (AA.B.at "range") (ak aB (ak (aM dR (pv 8) aB) au))) (aR 10 nd) (az (pS 11 nd (pf (lN AA) hr (ak (pv 2) (ak (aM cN (pv 5) (aM j6 (aM cN aB (pv 10)) aB)) au)))) (az (pS 12 nd (pf (lN AA) hr (ak (pv 3) (ak (aM cN (pv 6) (aM dR (aM cN aB (aM j6 (pv 8) (pv 10))) aB)) au)))) (aH (fP (iL K Z (pv 9) (ak (pf (uK AA) hr (ak (dj (ak (pv 11) (ak (pv 7) (ak (pv 12) au)))) au)) au))))))) (aH (aO (pv 9)))))))),?_];let(ma,mb,rfl,gF,jO):=oQ rm;have iz:=aA.r1;have ie:=aA.f1;have lr:=aA.len;have mz:=qp bW;erw[_,Z,.inr #[ma,_,1,.int r,Z,Z,gF,Z,_,Z,.inr #[ma,_,2,.int f,Z,Z,gF,Z,_,_,Z,?_]]];erw[_,Z,_,Z,iv,ns,sp,rate,Z,ri,cO,dZ,cg,cn,λtv H1 Rt1 s1=>?_];erw[_,Z,iv,ns,sp,Z,RD.mono s1 _ ri,bW.ne,by rw[bW.len];omega,λH2 s2=>?_];erw[cy Z,λD H3 n3=>?_];have gm:=s1.trans (s2.trans n3.same);have nD:H D=none:=by cases e:H D with |none=>rfl |some o=>have:=(s1.trans s2) _ _ e;rw[n3.no]at this;cases this
  erw[_,Z,_,_,Z,Z,_,_,Z,#[aL,aL,aL,aL],?_];have eN:(((aE ns:Int)+1)-1).toNat=aE ns:=by omega
  rw[eN];have tb:Bd 2000 (topR rate sp):=(_O.pP cO dZ cg cn).mono aw;erw[xC (Pv:=λi O H4=>aF H H4/\bJ H4 tv (topR rate sp)/\∃zs v1 v2 v3,H4 D=some (.lst zs)/\aI K H4 zs (((List.range i).map (gP r f (aE ns) (topR rate sp) b e)).map cP)/\O=[some (.ref ma),some iv,some bv,some ev,some (.int rate),some (.int r),some (.int f),some tv,some (.int (aE ns)),some (.ref D),v1,v2,v3]) ?_ ?_ ?_]
  ·erw[gm,Rt1.go (s2.trans n3.same),[],none,none,none,n3.at',cW,Z]
  ·rintro i O H4 Uj ⟨s4,E5,zs,v1,v2,v3,dz,rz,rfl⟩
   erw[iC ?_];intro E2;have lz:=rz.length;rw[aW,aW,iy]at lz;have Up:=FU iz.1 iz.2 Uj mz;have Uo:=IY ie.1 ie.2 Uj mz;erw[_,Z,_,Z,_,Z,_,_,Z,Z,.of_left (dC aw aw),_,_,Z,Z,_,_,Z,Z,.of_left (dC aL aL),?_];erw[bv,b,_,Z,Rb.go s4,bb.mono aw,(by rw[jK];omega),λu1 H5 jh s5=>?_];erw[_,Z,_,Z,_,Z,_,Z,_,_,Z,Z,_,_,Z,Z,.of_left (dC aw aw),_,_,Z,Z,_,_,Z,Z,.of_left (dC aL aL),?_];erw[ev,e,_,Z,Re.go (s4.trans s5),be.mono aw,(by rw[jK];omega),λu2 H6 mW s6=>?_];have wF:=s5.trans s6;have jS:=wF _ _ dz;erw[_,Z,.inl #[Z,_,aD.of jS],?_];erw[_,Z,_,Z,_,Z,cy Z,λlq H7 n7=>?_];have R1:=jh.go (s6.trans n7.same);have R2:=(E5.go wF).go n7.same;have R3:=mW.go n7.same;erw[lq,[u1,tv,u2],[_,_,_],Z,aD.of n7.at',#[R1,(jW bb (by rw[jK];omega)).mono aw,R2,tb,R3,(jW be (by rw[jK];omega)).mono aw,trivial],by simp,λc v q e1 e2 hq=>?_];have nA:gP r f (aE ns) (topR rate sp) b e i=q:=by
    erw[Sy ?_ (hq _ (by simp)) (hq _ (by simp)) (hq _ (by simp))]
    match c,e2 with |0,e2=>cases e2;erw[.inl rfl] |1,e2=>cases e2;erw[.inr (.inl rfl)] |2,e2=>cases e2;erw[.inr (.inr rfl)]
   have Rv:bJ H7 v q:=by match c,e1,e2 with |0,e1,e2=>cases e1;cases e2;erw[R1] |1,e1,e2=>cases e1;cases e2;erw[R2] |2,e1,e2=>cases e1;cases e2;erw[R3]
   have Q3:=wF.trans n7.same;have Js:=n7.same _ _ jS;erw[D,zs,_,Z,Z,Js,C1 _ aL,?_];have h8:=aI.wz Js (aI.mono Q3 _ rz) Rv.rd (qh _) (pZ _);have Rt8:bJ (_L.upd H7 D (.lst (zs++[v]))) tv (topR rate sp):=by let(ta,rfl,ht):=R2;erw[ta,Z,ht.t (.iW Js)]
   erw[λb o e=>?_,Rt8,_,_,_,_,bZ,?_,Z]
   ·rw[aY (eM e nD)];erw[Q3 b o (s4 b o e)]
   ·rw[a1P,fT,nA]
    erw[h8]
  ·rintro O H4 ⟨s4,E5,zs,v1,v2,v3,dz,rz,rfl⟩
   erw[_,Z,k D zs H4 nD dz rz s4]
end
end _a
namespace _a
open PySem PySem.Spec PyProof.Rows _L _b _l _W
section
def dh(pl:List Int):ah:=.tuple (pl.map PyData.int)
theorem gp(pl:List Int):dW (dh pl)=true:=by rw[dh,dW];erw[mm pl]
theorem QK{v:V}{pl:List Int}(h:RD K H v (dh pl)):∃a,v= .ref a/\aU K H a (pl.map V.int):=by let(a,xs,rfl,h1,h2):=h.cu;rw[h2.gj]at h1;erw[a,Z,h1]
theorem QJ{pl:List Int}(h:aU K H a (pl.map V.int)):RD K H (.ref a) (dh pl):=fN h (pW pl)
def g9(pl:List Int):Itm->List Int |none=>pl |some (ns,_)=>gb pl ns
theorem bN.putL{l:Addr}(b:bN p H H1)(hp:l≠p)(nl:H l=none):bN p H (_L.upd H1 l (.lst xs)):=by
 erw[?_,λc o n e=>?_]
 ·let(c',m',e,ok):=b.bU
  erw[c',m',by rw[aY hp.symm];erw[e],ok]
 ·rw[aY (eM e nl)];erw[b.same c o n e]
inductive ady(vs:List V)(H:Hp)(Q:VK):Prop |mk (p:_)(m:_)(rs:_)(r:_)(f:_)(j:_)(t:_)(h0:vs=[.ref p,m])(h1:gI H p)(h2:RD K H m (fG rs r f j t))(h3:gH rs r f j t)(h4:∀v pl H',RD K H' v (dh pl)->fo rs pl->bN p H H'->Q v H')
def ZH:Sp:=λvs H Q _=>ady vs H Q
theorem MS:bf ["_law_bag_here","_law_machine_here"] ["_law_bag_here","_law_machine_here"] (aQ ON):=bo aG
theorem a3J(AA:All w K mg):bj P w K mg ay "_law_place" 2 ZH:=by
 exists AA.aal.has,MS,eD λ_ _=>rfl
 ·let(p,m,rs,r,f,j,t,rfl,bg,rm,wX,k):=h
  have nd:=MS.nd;erw[_,(aH (aO (dF (x:="tuple") (kh K Z) Z (AA.B.at "tuple") ir (ak (eQ (N:=["_law_rail","_law_bag_here"]) (js:=[none,some 0]) rfl rfl rfl (j3 K rfl (px K (pv 1) aB)) (λ_ _ _ _ _=>(aR 0 (jN aw))) (λ_ _ _ _ _=>e9) (λ_ _ _ _ _=>(pf (fX AA) hr (ak (pv 1) (ak (aM dR (pv 0) aB) au))))) au)))),?_];let(ma,mb,rfl,gF,jO):=oQ rm;have lr:=wX.len;erw[_,Z,.inr #[ma,_,0,.ref mb,Z,Z,gF,cB (dc 0) Z,mb,Z,#[_,jO],λD H1 n1=>?_]];erw[VJ (K:=K) (J:=tS K mb) (p:=p) (H:=H) rs.length _ n1 bg ao (λi=>.int (rs.getD i 0)) (λi H2 hi b2=>?_) (λH2 b2=>?_) (λi d=>∃z r,d= .int z/\rs[i]? =some r/\0<=z/\z<=r) ?_ ?_]
  ·have Iw:=jO.t (bN.t bg b2)
   have e:(rs.map V.int)[i]? =some (.int (rs.getD i 0)):=by rw[bO,Ky,bL hi];rfl
   erw[#[_,_,Iw,e],λy H3 #[e3,y3]=>#[e3,by have:=y3 _ Iw;rw[e]at this;exact(eW this).symm]]
  ·erw[_,jO.t (bN.t bg b2),by rw[aW];erw[aV _]]
  ·intro i H2 Q' hi b2 hq
   have er:rs[i]? =some (rs.getD i 0):=by rw[Ky,bL hi];rfl
   let(r0,r1):=wX.rl _ (fz er);erw[_,Z,_,Z,_,_,Z,Z,p,_,Z,b2.bU,ao,ao,λz H3 z0 z1 b3=>?_];erw[hq _ _ _ #[z,_,Z,er,z0,ao] Z (fO z) b3]
  ·intro H2 ys ds b2 d2 r2 l2 nl pd
   have sX:∃pl:List Int,ds=pl.map PyData.int/\fo rs pl:=by
    have key:∀(ds:List ah),(∀d∈ds,∃z:Int,d= .int z)->∃pl:List Int,ds=pl.map PyData.int:=by intro ds;induction ds with |nil=>erw[λ_=>#[[],Z]] |cons d ds ih=>intro h;let(z,rfl):=h d (.head _);let(pl,rfl):=ih λx hx=>h x (.tail _ hx);erw[z::pl,Z]
    let(pl,rfl):=key ds λd hd=>by let(i,hi):=oa.mp hd;let(z,_,e,_):=pd i d hi;erw[z,e]
    erw[pl,Z,by simpa using l2,λi x r e1 e2=>?_];let(z,r',e,er,h0,h1):=pd i (.int x) (by rw[bO,e1];rfl);cases e;rw[e2]at er;cases er;erw[h0,h1]
   let(pl,rfl,on):=sX;erw[D,_,Z,.inl #[aD.of d2,λt H3 n3=>?_]];have et:=n3.at';rw[r2.gj]at et;erw[k (.ref t) pl H3 (QJ (aU.of et)) on (b2.trans (.fi b2.bU n3.same))]
end
section
def da(z:Str):Prop:=∀c∈z.cps.toList,c<0x110000
theorem da.app(ha:da a)(hb:da b):da (a++b):=λc hc=>by rw[rA,oo,gy]at hc;erw[hc.elim (ha c) (hb c)]
theorem da.joined{sep:Str}(hs:da sep):∀l:List Str,(∀a∈l,da a)->da (PySem.Str.join sep l) |[],_=>λc hc=>by simp[PySem.Str.join,PySem.Str.empty]at hc |[x],h=>h x (.head _) |x::y::r,h=>((h x (.head _)).app hs).app (da.joined hs (y::r) λa ha=>h a (.tail _ ha))
theorem da.join{l:List Str}(hs:da sep)(h:∀a∈l,da a):da (Txt.join sep l):=by show da (Builtin.Str.glued sep l);rw[tW];erw[da.joined hs l h]
theorem Rr{n:Nat}(h:da z):dv n (.str z):=#[by show PyData.strOk z=true;unfold PyData.strOk;rw[Xq];erw[λc hc=>cj (h c (by simpa using hc))],eX _]
theorem Rp{n:Nat}(h:dv n (.str z)):da z:=λc hc=>by have q:PyData.strOk z=true:=h.lay;unfold PyData.strOk at q;rw[Xq]at q;erw[kF (q c (by simpa using hc))]
theorem jM(h:z.cps.all (·<0x110000)=true):da z:=Rp (n:=0) #[h,eX _]
theorem Ls:∀(ds:List ah),(∀d∈ds,∃z:Str,d= .str z/\z.length=1/\da z/\z.cps.toList.all (λc=>decide (97<=c)&&decide (c<=122))=true)->∃zs:List Str,ds=zs.map PyData.str/\∀z∈zs,z.length=1/\da z/\z.cps.toList.all (λc=>decide (97<=c)&&decide (c<=122))=true |[],_=>#[[],Z,λ_ h=>nomatch h] |d::ds,h=>by let(z,rfl,e):=h d (.head _);let(zs,rfl,q):=Ls ds λx hx=>h x (.tail _ hx);erw[z::zs,Z,λy hy=>by
 rcases cM.mp hy with rfl|hy
 ·erw[e]
 ·erw[q y hy]]
theorem acv:da kB:=jM aG
def CO(c:Nat):Bool:=decide (97<=c)&&decide (c<=122)
def qi(s:Str):Bool:=(decide (1<=s.length)&&decide (s.length<=8))&&s.cps.toList.all CO
def Gq(w s:Str):Prop:=(w="tool"/\(s="up"\/s="down"))\/(w="mark"/\qi s=true)
def qV(d:ah):Prop:=(∃n,d= .tuple [.str "wait",.int n]/\1<=n/\n<=1000)\/∃w s,d= .tuple [.str w,.str s]/\(w="tool"\/w="mark")/\dv 0 (.str s)/\Gq w s
theorem Uw:∀l:List Str,(PySem.Str.join ("":Str) l).cps.toList=(l.map λz=>z.cps.toList).flatten
 |[]=>by simp[PySem.Str.join,PySem.Str.empty] |[x]=>by simp[PySem.Str.join] |x::y::r=>by
  show((x++("":Str))++PySem.Str.join ("":Str) (y::r)).cps.toList=_;rw[rA,rA,oo,oo,Uw (y::r)];have:(("":Str)).cps.toList=[]:=by decide+kernel
  rw[this];simp
theorem a56{l:List Str}(h1:1<=l.length)(h8:l.length<=8)(h:∀z∈l,z.length=1/\z.cps.toList.all CO=true):qi (Txt.join ("":Str) l)=true:=by
 have e:(Txt.join ("":Str) l).cps.toList=(l.map λz=>z.cps.toList).flatten:=by show(Builtin.Str.glued ("":Str) l).cps.toList=_;rw[tW];erw[Uw l]
 have el:(Txt.join ("":Str) l).length=l.length:=by
  show(Txt.join ("":Str) l).cps.size=_;rw[<-mR,e,List.length_flatten,Et];have:∀(l:List Str),(∀z∈l,z.length=1/\z.cps.toList.all CO=true)->(l.map (List.length∘λz=>z.cps.toList)).sum=l.length:=by intro l;induction l with |nil=>intro _;rfl |cons a r ih=>
   intro h;rw[rE,List.sum_cons,ih λz hz=>h z (.tail _ hz),gz];have:=(h a (.head _)).1;have e2:(List.length∘λz:Str=>z.cps.toList) a=1:=by show a.cps.toList.length=1;rw[mR];erw[this]
   rw[e2,Ks]
  erw[this l h]
 unfold qi;rw[el,e,cj h1,cj h8,jD,jD,gc];intro c hc;let(cs,p7,jQ):=List.mem_flatten.mp hc;let(z,hz,rfl):=cJ.mp p7;erw[gc.mp (h z hz).2 c jQ]
theorem qV.it{d:ah}(h:qV d):itR d none:=by
 rcases h with⟨n,rfl,_⟩|⟨w,s,rfl,hw|hw,_⟩
 ·erw[.inr #[_,_,Z,.inl Z,Z,Z]]
 ·erw[.inr #[_,_,Z,.inr (.inl hw),Z,Z]]
 ·erw[.inr #[_,_,Z,.inr (.inr hw),Z,Z]]
end
end _a
namespace _a
open PySem PySem.Spec PyProof.Rows _L _l _W
open _O (Itm)
section
theorem SJ{v:V}{rs:List Int}{es:List ah}(h:RD K H v (.tuple (.tuple (rs.map PyData.int)::es))):∃a b ys,v= .ref a/\aU K H a (.ref b::ys)/\aU K H b (rs.map V.int):=by let(a,xs,rfl,h1,h2):=h.cu;let(x1,r1,rfl,e1,h2):=h2.cons_inv;let(b,ys,rfl,h3,h4):=e1.cu;rw[h4.gj]at h3;erw[a,b,r1,Z,h1,h3]
def gh(z:Str):ah->Bool | .str x=>x==z |_=>false
theorem qJ(z:Str)(d:ah):PyData.eqv d (.str z)=gh z d:=by cases d<;>simp[PyData.eqv,gh]
theorem V0(z:Str)(d:ah):PyData.eqv (.str z) d=gh z d:=by cases d<;>simp[PyData.eqv,gh];rw[kg];simp;erw[eq_comm]
theorem Z4(d:ah):(∃z,d= .str z)\/(jg (lH d) "str"=false/\∀z,d≠ .str z):=by cases d with |str z=>erw[.inl #[z,Z]] |_=>erw[.inr #[by simp[lH];decide,λ_ z=>nomatch z]]
theorem Y3:jg "str" "str"=true:=by decide
def Ia(d:ah):Bool:=gh "up" d||gh "down" d
def xc(c:Nat):Bool:=decide (97<=c)&&decide (c<=122)
def isNm:ah->Bool | .str x=>(decide (1<=x.length)&&decide (x.length<=8))&&x.cps.toList.all xc |_=>false
def qx(wd v:ah):Bool:=if gh "wait" wd then dw 1 1000 v else if gh "tool" wd then Ia v else gh "mark" wd&&isNm v
def zy:ah->Bool | .int i=>i !=0 |_=>true
def uM(n:Nat):ah->Bool | .tuple ds=>(ds.length==n&&ds.all (dw (-100) 100))&&ds.any zy |_=>false
def nk(n:Nat):ah->Bool | .tuple [wd,a,b]=>gh "line" wd&&(uM n a&&dw 1 20 b) | .tuple [wd,v]=>qx wd v |_=>false
def kK:ah->Bool | .str x=>decide (x.length<=900) |_=>true
def C2:ah->Bool | .tuple ds=>ds.all kK |_=>true
inductive acX(f:ah->Bool)(K:aa)(vs:List V)(H:Hp)(Q:VK):Prop |mk (v:_)(d:_)(h0:vs=[v])(h1:RD K H v d)(h2:kK d=true)(h3:∀H',aF H H'->Q (.bl (f d)) H')
def Zl(f:ah->Bool)(K:aa):Sp:=λvs H Q _=>acX f K vs H Q
theorem a0q(h:kK (.str z)=true):z.length<=900:=kF h
theorem Sr(n:Nat):decide ((1:Int)<=(n:Int))=decide (1<=n):=by rw[kg];simp;omega
theorem a54(n:Nat):decide ((n:Int)<=8)=decide (n<=8):=by rw[kg];simp;omega
theorem Wt{l:List Nat}:(l.map f).all id=l.all f:=by rw[List.all_map];rfl
theorem acw:∀c<128,decide (c∈kB.cps.toList)=xc c:=by decide+kernel
theorem acz:∀c∈kB.cps.toList,c<128:=by decide+kernel
theorem acy(c:Nat):decide (c∈kB.cps.toList)=xc c:=by
 by_cases h:c<128
 ·erw[acw c h]
 ·rw[dE (λhc=>h (acz c hc)),xc,dE (show¬c<=122 by omega),Bool.and_false]
theorem Nn:bf ["thing"] ["thing"] (aQ Po):=bo aG
theorem a3Y(AA:All w K mg):bj P w K mg ay "is_name" 1 (Zl isNm K):=by
 exists AA.a9W.has,Nn,dg λ_=>rfl
 ·let(v,d,rfl,rd,sh,k):=h
  have nd:=Nn.nd;erw[_,(az (bI (PW.pt (iI (cR (cw (mj K AA.B (ak (pv 0) (ak (mi (x:="str") (v:=.ty "str") Z (AA.B.at "str") jC rfl) au))))) (jJ (cR (a2b zp zp aB (fh (x:="len") abG rfl (AA.B.at "len") PySem.boot_len (ak (pv 0) au)) (dM (x:="LONGEST_NAME") rfl AA.a8R)))))) (aH (aO j4)) bP) (aH (aO (fh (x:="all") (vP K Z Z) Z (AA.B.at "all") yg (ak (eQ (N:=["letter"]) (js:=[none]) rfl rfl rfl (Gi (pv 0)) (λ_ _ _ _ _=>(aR 0 (iM _))) (λ_ _ _ _ _=>e9) (λ_ _ _ _ _=>(jl Rj (pv 0) (dM (x:="LETTERS") rfl AA.a8S) (by with_unfolding_all rfl)))) au))))),?_];rcases Z4 d with⟨z,rfl⟩|⟨ht,hn⟩
  ·erw[_,Z,.inl #[_,_,"str",true,Z,rd.ty,aw,Y3,_,Z,aP ?_]]
   cases rd.str_inv;have hl:=a0q sh;have k:∀H',aF H H'->Q (.bl ((decide (1<=z.length)&&decide (z.length<=8))&&z.cps.toList.all xc)) H':=k;erw[_,Z,z,Z,iG hl aw,_,_,Z,Z,_,Z,?_];erw[fQ (λh1=>?_) (λh1=>?_)]
   ·rw[<-Sr,show decide ((1:Int)<=(z.length:Int))=true from h1,jD]at k
    erw[_,_,Z,Z,_,Z,?_];rw[a54];cases e8:decide (z.length<=8)with |false=>rw[e8,jE]at k;erw[bM (k H (aF.refl _))] |true=>
     rw[e8,jD]at k;erw[aP #[_,Z,z,Z,λD H0 nw=>?_]];erw[VM (f:=xc) [] nw ao (λc H2 Q' hc s2 hq=>?_) (λH2 s2 d2=>?_)]
     ·erw[_,Z,c,kB,Z,Z,?_]
      rw[acy];erw[hq _ (aF.refl _)]
     ·erw[D,_,Z,aD.of d2,?_]
      rw[Wt];erw[k H2 s2]
   ·rw[<-Sr,show decide ((1:Int)<=(z.length:Int))=false from EA.mpr h1,jE,jE]at k
    erw[_,Z,bM (k H (aF.refl _))]
  ·have e:isNm d=false:=by cases d<;>first|rfl|erw[absurd rfl (hn _)]
   rw[e]at k;erw[_,Z,.inl #[_,_,"str",false,Z,rd.ty,aw,ht,_,Z,bM ?_]];erw[k H (aF.refl _)]
inductive ad9(vs:List V)(H:Hp)(Q:VK):Prop |mk (x:_)(v:_)(wd:_)(d:_)(h0:vs=[x,v])(h1:RD K H x wd)(h2:RD K H v d)(h3:dv 8 wd)(h4:dv 8 d)(h5:kK d=true)(h6:∀H',aF H H'->Q (.bl (qx wd d)) H')
def Zu:Sp:=λvs H Q _=>ad9 vs H Q
theorem si{d:ah}(h:dv 8 d):SeqAt.shaped d=true:=h.shaped aw
theorem Nk:bf ["word","value"] ["word","value"] (aQ Pl):=bo aG
theorem a3X(AA:All w K mg):bj P w K mg ay "is_short_item" 3 Zu:=by
 exists AA.a9T.has,Nk,eD λ_ _=>rfl
 ·let(x,v,wd,d,rfl,FI,rd,Gx,wZ,sh,k):=h
  have nd:=Nk.nd;let(aS,a8f,Zf):=AA.a8K;erw[_,(az (bI (bX (dN K Z hr.units) (pv 0) bR (bQ _)) (aH (aO (pf (oG AA) hr (ak (pv 1) (ak aB (ak (dM (x:="LONGEST_WAIT") Z AA.a8P) au)))))) bP) (az (bI (bX (dN K Z hr.units) (pv 0) bR (bQ _)) (aH (aO (jl (a6J K Z (hr.Y1)) (pv 1) (dM (x:="SIDES") Z a8f) (by with_unfolding_all rfl)))) bP) (aH (aO (qd (jl (dN K Z hr.units) (pv 0) bR (bQ _)) (oE (pf (a3Y AA) hr (ak (pv 1) au)))))))),?_];have k:∀H',aF H H'->Q (.bl (if gh "wait" wd then dw 1 1000 d else if gh "tool" wd then Ia d else gh "mark" wd&&isNm d)) H':=k;erw[_,Z,.inr #[_,_,FI,bC _,si Gx,aG,_,Z,?_]];rw[qJ];cases e1:gh "wait" wd with |true=>rw[e1,ba rfl]at k;erw[bM #[_,Z,_,d,1,1000,Z,rd,k H (aF.refl _)]] |false=>rw[e1,bc eK]at k;erw[aP #[_,Z,.inr #[_,_,FI,bC _,si Gx,aG,_,Z,?_]]];rw[qJ];cases e2:gh "tool" wd with
   |true=>
    rw[e2,ba rfl]at k;erw[bM #[_,Z,aS,_,d,[.str "up",.str "down"],Z,Zf H,rd,cG (bC _) (cG (bC _) cW),si wZ,?_,?_]]
    ·intro e he
     rcases cM.mp he with rfl|he
     ·decide+kernel
     rcases cM.mp he with rfl|he
     ·decide+kernel
     ·exact(iu he).elim
    ·have e:([.str "up",.str "down"]:List ah).any (λe=>PyData.eqv e d)=Ia d:=by rw[yp,yp,List.any_nil,V0,V0,Bool.or_false];rfl
     rw[e];erw[k H (aF.refl _)] |false=>rw[e2,bc eK]at k;erw[aP #[_,Z,.inr #[_,_,FI,bC _,si Gx,aG,_,Z,?_]]];rw[qJ];cases e3:gh "mark" wd with |true=>rw[e3,jD]at k;erw[bM #[_,Z,_,d,Z,rd,sh,k]] |false=>rw[e3,jE]at k;erw[aP (k H (aF.refl _))]
theorem a4s(i:Int):(!decide (i=0))=(i !=0):=by rw[kg];simp
theorem a6I{lo hi:Int}{d:ah}(h:dw lo hi d=true):∃i,d= .int i:=by cases d<;>simp[dw]at h;erw[_,Z]
theorem any_map'{ds:List ah}:(ds.map f).any id=ds.any f:=by rw[List.any_map];rfl
inductive ad7(vs:List V)(H:Hp)(Q:VK):Prop |mk (m:V)(v:V)(rs:List Int)(es:List ah)(d:ah)(h0:vs=[m,v])(h1:RD K H m ((.tuple (.tuple (rs.map PyData.int)::es))))(h2:RD K H v d)(h3:rs.length<=3)(h4:∀H',aF H H'->Q (.bl (uM rs.length d)) H')
def Zs:Sp:=λvs H Q _=>ad7 vs H Q
theorem NQ:bf ["machine","thing","rails"] ["machine","thing"] (aQ PZ):=bo aG
theorem a4d(AA:All w K mg):bj P w K mg ay "are_steps" 3 Zs:=by
 exists AA.aab.has,NQ,eD λ_ _=>rfl
 ·let(m,v,rs,es,d,rfl,rm,rd,l3,k):=h
  have nd:=NQ.nd;erw[_,(az (pS 2 nd (px K (pv 0) aB)) (az (bI (PW.pt (iI (cR (cw (mj K AA.B (ak (pv 1) (ak (mi (x:="tuple") (v:=.ty "tuple") Z (AA.B.at "tuple") ir rfl) au))))) (jJ (bX (kR K rfl hr.units) (fW K AA.B (ak (pv 1) au)) (fW K AA.B (ak (pv 2) au)) (bQ _))))) (aH (aO j4)) bP) (az (bI (cR (cw (fh (x:="all") (vP K Z Z) Z (AA.B.at "all") yg (ak (eQ (N:=["step"]) (js:=[none]) rfl rfl rfl (j3 K rfl (pv 1)) (λ_ _ _ _ _=>(aR 0 (iM _))) (λ_ _ _ _ _=>e9) (λ_ _ _ _ _=>(pf (oG AA) hr (ak (pv 0) (ak (jk jf (dM (x:="MOST_STEPS") rfl AA.UG)) (ak (dM (x:="MOST_STEPS") rfl AA.UG) au)))))) au)))) (aH (aO j4)) bP) (aH (aO (fh (x:="any") (Wn K Z Z) Z (AA.B.at "any") Ko (ak (eQ (N:=["step"]) (js:=[none]) rfl rfl rfl (j3 K rfl (pv 1)) (λ_ _ _ _ _=>(aR 0 (iM _))) (λ_ _ _ _ _=>e9) (λ_ _ _ _ _=>(jl (kR K rfl hr.units) (pv 0) aB (bQ _)))) au))))))),?_];let(am,ar,ym,rfl,hm,har):=SJ rm;erw[_,Z,.inr #[am,_,0,_,Z,Z,hm,cB (dc 0) Z,?_]];rcases yC d with⟨ds,rfl⟩|⟨ht,hn⟩
  ·erw[_,Z,.inl #[_,_,"tuple",true,Z,rd.ty,aw,mT,_,Z,aP ?_]]
   let(av,xs,rfl,hx,hd):=rd.cu;have hl:=hd.length;erw[_,Z,av,_,Z,.inr hx,_,Z,ar,_,Z,.inr har,.inl #[_,_,Z,Z,_,Z,?_]];have k:∀H',aF H H'->Q (.bl ((ds.length==rs.length&&ds.all (dw (-100) 100))&&ds.any zy)) H':=k;have e0:(!decide ((xs.length:Int)=((rs.map V.int).length:Int)))= !(ds.length==rs.length):=by rw[hl,aW];congr 1;rw[kg];simp;lia
   rw[e0];cases e:(ds.length==rs.length)with |false=>rw[e,jE,jE]at k;erw[bM (k H (aF.refl _))] |true=>
    rw[e,jD]at k;erw[aP ?_];have el:ds.length=rs.length:=fK.mp e;erw[_,Z,av,Z,#[_,hx],λD H0 nw=>?_];erw[Ax (xs:=xs) (bs:=ds.map (dw (-100) 100)) [] hx nw (by rw[aW,hl]) ao ?_ ?_]
    ·intro i x b H2 Q' ex eb s2 hq
     let(d,ed,rfl):=CK eb;let(x',kz,rx):=hd.get i ed;rw[ex]at kz;cases kz;erw[_,Z,_,Z,_,d,-100,100,Z,RD.mono s2 _ rx,hq _ (aF.refl _)]
    ·intro H2 s2 d2
     erw[D,_,Z,aD.of d2,_,Z,?_];rw[all_map];cases e1:ds.all (dw (-100) 100)with |false=>rw[e1,jE]at k;erw[bM (k H2 s2)] |true=>
      rw[e1,jD]at k;erw[aP #[_,Z,av,Z,#[_,hx.go s2],λD2 H3 n3=>?_]];erw[Ax (xs:=xs) (bs:=ds.map zy) [] (hx.go s2) n3 (by rw[aW,hl]) ao ?_ ?_]
      ·intro i x b H4 Q' ex eb s4 hq
       let(d,ed,rfl):=CK eb;let(x',kz,rx):=hd.get i ed;rw[ex]at kz;cases kz;let(z,rfl):=a6I (gc.mp e1 d (fz ed));cases rx.int_inv;erw[_,Z,.inl #[_,_,Z,Z,?_]];show Q' (.bl (!decide (z=0))) H4;rw[a4s];erw[hq _ (aF.refl _)]
      ·intro H4 s4 d4
       erw[D2,_,Z,aD.of d4,?_];rw[any_map'];erw[k H4 (s2.trans s4)]
  ·have e:uM rs.length d=false:=by cases d<;>first|rfl|erw[absurd rfl (hn _)]
   rw[e]at k;erw[_,Z,.inl #[_,_,"tuple",false,Z,rd.ty,aw,ht,_,Z,bM ?_]];erw[k H (aF.refl _)]
theorem item_cases(n:Nat)(d:ah):(∃wd a b,d= .tuple [wd,a,b])\/(∃wd v,d= .tuple [wd,v])\/(∃ds,d= .tuple ds/\ds.length≠3/\ds.length≠2/\nk n d=false)\/(jg (lH d) "tuple"=false/\nk n d=false):=by
 rcases yC d with⟨ds,rfl⟩|⟨ht,hn⟩
 ·match ds with |[r,a,b]=>erw[.inl #[r,a,b,Z]] |[r,a]=>erw[.inr (.inl #[r,a,Z])] |[]=>erw[.inr (.inr (.inl #[_,Z,by simp,by simp,by simp[nk]]))] |[_]=>erw[.inr (.inr (.inl #[_,Z,by simp,by simp,by simp[nk]]))] |_::_::_::_::_=>erw[.inr (.inr (.inl #[_,Z,by simp,by simp,by simp[nk]]))]
 ·erw[.inr (.inr (.inr #[ht,by cases d<;>first|rfl|erw[absurd rfl (hn _)]]))]
inductive adV(vs:List V)(H:Hp)(Q:VK):Prop |mk (m:V)(v:V)(rs:List Int)(es:List ah)(d:ah)(h0:vs=[m,v])(h1:RD K H m ((.tuple (.tuple (rs.map PyData.int)::es))))(h2:RD K H v d)(h3:rs.length<=3)(h4:dv 8 d)(h5:C2 d=true)(h6:∀H',aF H H'->Q (.bl (nk rs.length d)) H')
def ZX:Sp:=λvs H Q _=>adV vs H Q
theorem Ct{ds:List ah}(h:dv 8 (.tuple ds)){d:ah}(hd:d∈ds):dv 8 d:=((dv.cu (n:=7) h) d hd).le aw
theorem sh8{ds:List ah}(h:C2 (.tuple ds)=true){d:ah}(hd:d∈ds):kK d=true:=gc.mp (show ds.all kK=true from h) d hd
theorem Nq:bf ["machine","thing","word","steps","speed","value"] ["machine","thing"] (aQ Pq):=bo aG
theorem GI(AA:All w K mg):bj P w K mg ay "is_item" 4 ZX:=by
 exists AA.a9Z.has,Nq,eD λ_ _=>rfl
 ·let(m,v,rs,es,d,rfl,rm,rd,l3,wZ,sh,k):=h
  have nd:=Nq.nd;erw[_,(az (bI (cR (cw (mj K AA.B (ak (pv 1) (ak (mi (x:="tuple") (v:=.ty "tuple") Z (AA.B.at "tuple") ir rfl) au))))) (aH (aO j4)) bP) (az (bI (bX (dN K Z hr.units) (fW K AA.B (ak (pv 1) au)) aB (bQ _)) (az (fg (pv 1) (eu K Z (n:=3) Z (bV (aR 2 nd) (bV (aR 3 nd) (bV (aR 4 nd) eg))))) (aH (aO (qd (jl (dN K Z hr.units) (pv 2) bR (bQ _)) (qd (pf (a4d AA) hr (ak (pv 0) (ak (pv 3) au))) (oE (pf (oG AA) hr (ak (pv 4) (ak aB (ak (dM (x:="GREATEST_SPEED") Z AA.UH) au)))))))))) bP) (az (bI (bX (dN K Z hr.units) (fW K AA.B (ak (pv 1) au)) aB (bQ _)) (az (fg (pv 1) (eu K Z (n:=2) Z (bV (aR 2 nd) (bV (aR 5 nd) eg)))) (aH (aO (pf (a3X AA) hr (ak (pv 2) (ak (pv 5) au)))))) bP) (aH (aO j4))))),?_];rcases item_cases rs.length d with⟨wd,a,b,rfl⟩|⟨wd,a,rfl⟩|⟨ds,rfl,h3,h2,hf⟩|⟨ht,hf⟩
  ·erw[_,Z,.inl #[_,_,"tuple",true,Z,rd.ty,aw,mT,_,Z,aP ?_]]
   let(p,xs,rfl,hx,hd):=rd.cu;let(u1,ys,rfl,r1,hd):=hd.cons_inv;let(u2,ys,rfl,r2,hd):=hd.cons_inv;let(u3,ys,rfl,r3,hd):=hd.cons_inv;cases hd.nil_inv;have k:∀H',aF H H'->Q (.bl (gh "line" wd&&(uM rs.length a&&dw 1 20 b))) H':=k;erw[_,Z,p,_,Z,.inr hx,.inl #[_,_,Z,Z,_,Z,bM ?_]];erw[_,Z,p,_,Z,hx,Z,_,_,Z,_,_,Z,_,_,Z,Z,?_];erw[_,Z,.inr #[_,_,r1,bC _,si (Ct wZ (by simp)),aG,_,Z,?_]];rw[qJ];cases e1:gh "line" wd with |false=>rw[e1,jE]at k;erw[aP (k H (aF.refl _))] |true=>rw[e1,jD]at k;erw[bM #[_,Z,_,Z,_,_,rs,es,a,Z,rm,r2,l3,λH1 s1=>#[_,Z,?_]]];cases e2:uM rs.length a with |false=>rw[e2,jE]at k;erw[aP (k H1 s1)] |true=>rw[e2,jD]at k;erw[bM #[_,Z,_,b,1,20,Z,RD.mono s1 _ r3,k H1 s1]]
  ·erw[_,Z,.inl #[_,_,"tuple",true,Z,rd.ty,aw,mT,_,Z,aP ?_]]
   let(p,xs,rfl,hx,hd):=rd.cu;let(u1,ys,rfl,r1,hd):=hd.cons_inv;let(u2,ys,rfl,r2,hd):=hd.cons_inv;cases hd.nil_inv;have k:∀H',aF H H'->Q (.bl (qx wd a)) H':=k;erw[_,Z,p,_,Z,.inr hx,.inl #[_,_,Z,Z,_,Z,aP ?_]];erw[_,Z,p,_,Z,.inr hx,.inl #[_,_,Z,Z,_,Z,bM ?_]];erw[_,Z,p,_,Z,hx,Z,_,_,Z,_,_,Z,Z,?_];erw[_,Z,_,Z,_,_,wd,a,Z,r1,r2,Ct wZ (by simp),Ct wZ (by simp),sh8 sh (by simp),k]
  ·rw[hf]at k
   erw[_,Z,.inl #[_,_,"tuple",true,Z,rd.ty,aw,mT,_,Z,aP ?_]];let(p,xs,rfl,hx,hd):=rd.cu;have hl:=hd.length;erw[_,Z,p,_,Z,.inr hx,.inl #[_,_,Z,Z,_,Z,?_]];rw[show decide ((xs.length:Int)=3)=false from dE ao];erw[aP #[_,Z,p,_,Z,.inr hx,.inl #[_,_,Z,Z,_,Z,?_]]];rw[show decide ((xs.length:Int)=2)=false from dE ao];erw[aP (k H (aF.refl _))]
  ·rw[hf]at k
   erw[_,Z,.inl #[_,_,"tuple",false,Z,rd.ty,aw,ht,_,Z,bM ?_]];erw[k H (aF.refl _)]
def Ib(rs:List Int):ah->Bool | .tuple es=>es.length==rs.length&&((es.zip rs).map λp=>dw 0 p.2 p.1).all id |_=>false
inductive ae0(vs:List V)(H:Hp)(Q:VK):Prop |mk (m:V)(v:V)(rs:List Int)(ds:List ah)(d:ah)(h0:vs=[m,v])(h1:RD K H m (.tuple (.tuple (rs.map PyData.int)::ds)))(h2:RD K H v d)(h3:rs.length<=3)(h4:∀H',aF H H'->Q (.bl (Ib rs d)) H')
def a02:Sp:=λvs H Q _=>ae0 vs H Q
theorem zip_get{es:List ah}{rs:List Int}{i:Nat}{b:Bool}(h:((es.zip rs).map λp=>dw 0 p.2 p.1)[i]? =some b):∃e r,es[i]? =some e/\rs[i]? =some r/\dw 0 r e=b:=by rw[bO]at h;cases q:(es.zip rs)[i]? with |none=>rw[q]at h;cases h |some p=>rw[q]at h;let(e1,e2):=Bo.mp q;erw[p.1,p.2,e1,e2,eW h]
theorem ints_get{rs:List Int}{i:Nat}{r:Int}(h:rs[i]? =some r):(rs.map V.int)[i]? =some (.int r):=by rw[bO,h];rfl
theorem Nl:bf ["machine","thing","rails"] ["machine","thing"] (aQ Pm):=bo aG
theorem Cp(AA:All w K mg):bj P w K mg ay "is_place" 3 a02:=by
 exists AA.a9V.has,Nl,eD λ_ _=>rfl
 ·let(m,v,rs,ds,d,rfl,rm,rd,l3,k):=h
  have nd:=Nl.nd;erw[_,(az (pS 2 nd (px K (pv 0) aB)) (az (bI (PW.pt (iI (cR (cw (mj K AA.B (ak (pv 1) (ak (mi (x:="tuple") (v:=.ty "tuple") Z (AA.B.at "tuple") ir rfl) au))))) (jJ (bX (kR K rfl hr.units) (fW K AA.B (ak (pv 1) au)) (fW K AA.B (ak (pv 2) au)) (bQ _))))) (aH (aO j4)) bP) (aH (aO (fh (x:="all") (vP K Z Z) Z (AA.B.at "all") yg (ak (eQ (N:=["number","rail"]) (js:=[none,none]) rfl rfl rfl (oC K rfl false false rfl (AA.B.at "zip") (ak (pv 1) (ak (pv 2) au))) (λ_ _ _ _ _=>(eu K rfl (n:=2) rfl (bV (aR 0 (jN aw)) (bV (aR 1 (jN aw)) eg)))) (λ_ _ _ _ _=>e9) (λ_ _ _ _ _=>(pf (oG AA) hr (ak (pv 0) (ak aB (ak (pv 1) au)))))) au)))))),?_];let(am,xm,rfl,hm,hdm):=rm.cu;let(yr,ym,rfl,r1,agl):=hdm.cons_inv;let(ar,xr,rfl,Dk,hdr):=r1.cu;cases hdr.gj;erw[_,Z,.inr #[am,_,0,_,Z,Z,hm,cB (dc 0) Z,?_]];rcases yC d with⟨es,rfl⟩|⟨ht,hn⟩
  ·erw[_,Z,.inl #[_,_,"tuple",true,Z,rd.ty,aw,mT,_,Z,aP ?_]]
   let(av,xs,rfl,hx,hd):=rd.cu;have hl:=hd.length;erw[_,Z,av,_,Z,.inr hx,_,Z,ar,_,Z,.inr Dk,.inl #[_,_,Z,Z,_,Z,?_]];have k:∀H',aF H H'->Q (.bl (es.length==rs.length&&((es.zip rs).map λp=>dw 0 p.2 p.1).all id)) H':=k;have e0:(decide ((xs.length:Int)=((rs.map V.int).length:Int)))=(es.length==rs.length):=by rw[hl,aW,kg];simp;lia
   rw[e0];cases e:(es.length==rs.length)with |false=>rw[e,jE]at k;erw[bM (k H (aF.refl _))] |true=>
    rw[e,jD]at k;erw[aP ?_];have el:es.length=rs.length:=fK.mp e;erw[_,Z,_,Z,av,ar,Z,#[_,hx],#[_,Dk],λD H0 nw=>?_];erw[abq (b1:=false) (b2:=false) (xs:=xs) (ys:=rs.map V.int) (bs:=(es.zip rs).map λp=>dw 0 p.2 p.1) [] rfl hx Dk nw (by rw[aW,aW,List.length_zip,hl]) (by rw[aW,List.length_zip];lia) ?_ ?_]
    ·intro i x y b H2 Q' ex ey eb s2 hq
     let(e',r,ee,er,rfl):=zip_get eb;let(x',kz,rx):=hd.get i ee;rw[ex]at kz;cases kz;rw[ints_get er]at ey;cases ey;erw[_,Z,_,Z,_,e',0,r,Z,RD.mono s2 _ rx,hq _ (aF.refl _)]
    ·intro H2 s2 d2
     erw[D,_,Z,aD.of d2,k H2 s2]
  ·have e:Ib rs d=false:=by cases d<;>first|rfl|erw[absurd rfl (hn _)]
   rw[e]at k;erw[_,Z,.inl #[_,_,"tuple",false,Z,rd.ty,aw,ht,_,Z,bM ?_]];erw[k H (aF.refl _)]
inductive adJ(vs:List V)(H:Hp)(Q:VK):Prop |mk (pw:_)(b:_)(pl:_)(ns:_)(h0:vs=[pw,.ref b])(h1:RD K H pw (dh pl))(h2:aU K H b (ns.map V.int))(h3:ns.length=pl.length)(h4:pl.length<=1000)(h5:∀v' H',RD K H' v' (dh (gb pl ns))->aF H H'->Q v' H')
def ZQ:Sp:=λvs H Q _=>adJ vs H Q
theorem MZ:bf ["place","steps"] ["place","steps"] (aQ OW):=bo aG
theorem RP(AA:All w K mg):bj P w K mg ay "moved" 1 ZQ:=by
 exists AA.a9G.has,MZ,eD λ_ _=>rfl
 ·let(pw,b,pl,ns,rfl,rp,hb,ln,hz,k):=h
  have nd:=MZ.nd;erw[_,(aH (aO (dF (x:="tuple") (kh K Z) Z (AA.B.at "tuple") ir (ak (eQ (N:=["number","step"]) (js:=[none,none]) rfl rfl rfl (oC K rfl false false rfl (AA.B.at "zip") (ak (pv 0) (ak (pv 1) au))) (λ_ _ _ _ _=>(eu K rfl (n:=2) rfl (bV (aR 0 (jN aw)) (bV (aR 1 (jN aw)) eg)))) (λ_ _ _ _ _=>e9) (λ_ _ _ _ _=>(aM dR (pv 0) (pv 1)))) au)))),?_];let(pa,rfl,hp):=QK rp;erw[_,Z,_,Z,pa,b,Z,#[_,hp],#[_,hb],λD H1 n1=>?_];erw[vF (K:=K) (b1:=false) (b2:=false) (xs:=pl.map V.int) (ys:=ns.map V.int) (ds:=(gb pl ns).map PyData.int) [] rfl hp hb n1 (by simp[qU ln,ln]) (by rw[aW,qU ln];erw[hz]) (mm _) ?_ ?_]
  ·intro i x y d H2 Q' ex ey ed s2 hq
   let(m,em,rfl):=oP ed;rw[bO]at ex ey;cases e1:pl[i]? with |none=>rw[e1]at ex;cases ex |some u=>cases e2:ns[i]? with |none=>rw[e2]at ey;cases ey |some v=>rw[e1]at ex;rw[e2]at ey;cases ex;cases ey;rw[AJ e1 e2]at em;cases em;erw[_,Z,_,Z,_,_,Z,Z,hq _ _ (aF.refl _) (fO _)]
  ·intro H2 zs s2 d2 r2
   erw[D,_,Z,.inl #[aD.of d2,λt H3 n3=>?_]];have et:=n3.at';rw[r2.gj]at et;erw[k (.ref t) H3 (QJ (aU.of et)) (s2.trans n3.same)]
inductive aek(vs:List V)(H:Hp)(Q:VK):Prop |mk (pw:_)(iv:_)(pl:_)(d:_)(o:_)(h0:vs=[pw,iv])(h1:RD K H pw (dh pl))(h2:RD K H iv d)(h3:itR d o)(h4:(∀ns sp,o=some (ns,sp)->ns.length=pl.length))(h5:pl.length<=1000)(h6:∀v' H',RD K H' v' (dh (g9 pl o))->aF H H'->Q v' H')
def a0e:Sp:=λvs H Q _=>aek vs H Q
theorem NL:bf ["place","item"] ["place","item"] (aQ PU):=bo aG
theorem Cq(AA:All w K mg):bj P w K mg ay "place_behind" 2 a0e:=by
 exists AA.a9B.has,NL,eD λ_ _=>rfl
 ·let(pw,iv,pl,d,o,rfl,rp,ri,it,hl,hz,k):=h
  have nd:=NL.nd;erw[_,(aH (aO (kr (cw (pf (oJ AA) hr (ak (pv 1) au))) (pf (RP AA) hr (ak (pv 0) (ak (px K (pv 1) aB) au))) (pv 0)))),?_];erw[_,Z,iv,d,o,Z,ri,it,_,Z,?_];cases o with |some q=>let(ns,sp):=q;erw[bM ?_];have ed:=iP it;subst ed;let(a,b,rfl,ha,hb):=oT ri;erw[_,Z,_,Z,.inr #[a,_,1,.ref b,Z,Z,ha,Z,pw,b,pl,ns,Z,rp,hb,hl ns sp Z,hz,λv' H' r s=>k v' H' r s]] |none=>erw[aP ?_];erw[_,Z,k pw H rp (aF.refl _)]
end
end _a
namespace _a
open PySem PySem.Spec PyProof.Rows _L _b _l _W
open _O (Itm)
section
structure jB(n:Nat)(d:ah)(o:Itm):Prop where
 it:itR d o
 ln:∀ns sp,o=some (ns,sp)->ft n 100 ns/\1<=sp/\sp<=20
 ot:o=none->qV d
theorem a55(h:qi z=true):isNm (.str z)=true:=h
theorem ace:∀{ns:List Int},(∃z∈ns,z≠0)->(ns.map PyData.int).any zy=true:=λ{ns} #[z,hz,h]=>yo.mpr #[.int z,cJ.mpr #[z,hz,Z],by show(z !=0)=true;simpa using h]
theorem ack{ns:List Int}(h:∀z∈ns,(z.natAbs:Int)<=100):(ns.map PyData.int).all (dw (-100) 100)=true:=by rw[gc];intro d hd;let(z,hz,rfl):=cJ.mp hd;have:=h z hz;show(decide (-100<=z)&&decide (z<=100))=true;rw[cj aL,cj aL];rfl
theorem jB.is{n:Nat}{d:ah}(h:jB n d o):nk n d=true/\dv 8 d/\C2 d=true:=by cases o with
 |some q=>
  let(ns,sp):=q;have ed:=iP h.it;subst ed;let(bW,s1,s2):=h.ln ns sp rfl;erw[?_,?_,Z]
  ·show(gh "line" (.str "line")&&(uM n (.tuple (ns.map PyData.int))&&dw 1 20 (.int sp)))=true
   have e1:gh "line" (.str "line")=true:=by decide+kernel
   have e2:uM n (.tuple (ns.map PyData.int))=true:=by show(((ns.map PyData.int).length==n&&(ns.map PyData.int).all (dw (-100) 100))&&(ns.map PyData.int).any zy)=true;rw[ack bW.bd,ace bW.nz,aW,bW.len,Ke];rfl
   have e3:dw 1 20 (.int sp)=true:=by show(decide (1<=sp)&&decide (sp<=20))=true;rw[cj s1,cj s2];rfl
   rw[e1,e2,e3];rfl
  ·refine(iq.tup (n:=1) (.cons #[aG,eX _] (.cons (iq.tup (n:=0) λd hd=>?_) (.cons (.int _) .nil)))).le aw
   let(a,_,rfl):=cJ.mp hd;erw[.int _] |none=>
  rcases h.ot rfl with⟨z,rfl,z1,z2⟩|⟨w,s,rfl,hw,ml,on⟩
  ·erw[?_,(iq.tup (n:=0) (.cons #[aG,eX _] (.cons (.int _) .nil))).le aw,Z]
   show qx (.str "wait") (.int z)=true;unfold qx;rw[ba aG];show(decide (1<=z)&&decide (z<=1000))=true;rw[cj z1,cj z2];rfl
  ·have a6e:kK (.str s)=true:=by
    erw[cj ?_];rcases on with⟨_,rfl|rfl⟩|⟨_,hn⟩
    ·decide+kernel
    ·decide+kernel
    ·unfold qi at hn
     simp only[fA,Eg]at hn
     lia
   erw[?_,(iq.tup (n:=0) (.cons ?_ (.cons ml .nil))).le aw,?_]
   ·rcases on with⟨rfl,hs⟩|⟨rfl,hn⟩
    ·show qx (.str "tool") (.str s)=true
     unfold qx;rw[bc aG,ba aG];rcases hs with rfl|rfl<;>decide+kernel
    ·show qx (.str "mark") (.str s)=true
     unfold qx;rw[bc aG,bc aG];rw[a55 hn];decide+kernel
   ·rcases hw with rfl|rfl<;>erw[aG,eX _]
   ·show([.str w,.str s]:List ah).all kK=true
    rw[yt,yt,KC,a6e];rcases hw with rfl|rfl<;>decide+kernel
end
end _a
namespace _a
open PySem PySem.Spec PyProof.Rows _L _b _l
section
def gG(ti:Int)(q:Rat)(t:Int):Bool:=decide (ti*ti*(q.den:Int)<=t*t*q.num)
inductive aec(vs:List V)(H:Hp)(Q:VK):Prop |mk (m:_)(sq:_)(t:_)(rs:_)(r:_)(f:_)(j:_)(ti:_)(q:_)(h0:vs=[m,sq,.int t])(h1:RD K H m (fG rs r f j ti))(h2:bJ H sq q)(h3:Bd 2000 q)(h4:1<=ti)(h5:ti<=100)(h6:0<=t)(h7:t.natAbs<2^2400)(h8:Q (.bl (gG ti q t)) H)
def Fe:Sp:=λvs H Q _=>aec vs H Q
theorem ND:bf ["machine","square","t","p","q","ticks"] ["machine","square","t"] (aQ Ft):=bo aG
theorem RW(F:FA K mg "are_enough" Ft)(B:m8 mg):bj P w K mg ay "are_enough" 1 Fe:=by
 exists F.has,ND,iB λ_ _ _=>rfl
 ·let(m,sq,t,rs,r,f,j,ti,q,rfl,rm,(p,rfl,hp),bq,t1,t2,t0,tw,k):=h
  have nd:=ND.nd;erw[_,(az (fg (pv 1) (eu K Z (n:=2) Z (bV (aR 3 nd) (bV (aR 4 nd) eg)))) (az (pS 5 nd (px K (pv 0) aB)) (aH (aO (jl Cj (aM cN (aM cN (pv 2) (pv 2)) (pv 3)) (aM cN (aM cN (pv 5) (pv 5)) (pv 4)) (bQ _)))))),?_];let(a,b,rfl,ha,hb):=oQ rm;have wt:Wd t:=md tw aw;have XE:Wd (t*t):=md (n:=4800) (by rw[iH];erw[sD (n:=2400) (m:=2400) tw tw]) aw;have m1:(ti*ti).natAbs<=100*100:=by rw[iH];erw[o8 aL aL]
  erw[_,Z,_,_,Z,hp,Z,_,_,Z,_,_,Z,Z,?_];erw[_,Z,.inr #[a,_,4,.int ti,Z,Z,ha,Z,?_]];erw[_,Z,_,Z,_,_,Z,Z,pK wt.bits wt.bits,_,Z,_,_,Z,Z,pK XE.bits bq.wn.bits,?_];erw[_,Z,_,Z,_,_,Z,Z,.of_left (dC aL aL),_,Z,_,_,Z,Z,.of_left (dC aL aL),?_];erw[_,_,Z,Z,k]
theorem V9{t:Int}(hq:0<q.num)(h0:0<=t)(h:ti*ti*(q.den:Int)<=t):gG ti q t=true:=by
 erw[cj (Int.le_trans h ?_)];by_cases ht:t=0
 ·subst ht;simp
 ·have e1:t*1<=t*t:=Ey ao h0
  have e2:t*t*1<=t*t*q.num:=Ey ao (gT h0 h0)
  lia
theorem aaP(h1:1<=ti):gG ti q 0=false:=by
 erw[dE λh=>?_];have:=jd (jd (show 0<ti by lia) (show 0<ti by lia)) (den_pos q);simp only[Ew]at h
 lia
inductive ad1(vs:List V)(H:Hp)(Q:VK):Prop |mk (m:_)(sq:_)(rs:_)(r:_)(f:_)(j:_)(ti:_)(q:_)(h0:vs=[m,sq])(h1:RD K H m (fG rs r f j ti))(h2:bJ H sq q)(h3:Bd 2000 q)(h4:1<=ti)(h5:ti<=100)(h6:0<q.num)(h7:∀T,1<=T->T.natAbs<2^2400->gG ti q T=true->gG ti q (T-1)=false->Q (.int T) H)
def LK:Sp:=λvs H Q _=>ad1 vs H Q
theorem Mn:bf ["machine","square","enough","too_few","between"] ["machine","square"] (aQ O2):=bo aG
theorem a3j(AA:All w K mg)(A4:bj P w K mg ay "are_enough" 1 Fe):bj P w K mg ay "ticks_of" 2 LK:=by
 exists AA.a9m.has,Mn,eD λ_ _=>rfl
 ·let(m,sq,rs,r,f,j,ti,q,rfl,rm,rq,bq,t1,t2,hq,k):=h
  have nd:=Mn.nd;erw[_,(az (pS 2 nd aB) (az (uE fS (cR (cw (pf A4 hr (ak (pv 0) (ak (pv 1) (ak (pv 2) au)))))) (aH (pS 2 nd (aM cN aB (pv 2))))) (az (pS 3 nd (aM zq (pv 2) aB)) (az (uE fS (bX Ci (aM j6 (pv 2) (pv 3)) aB (bQ _)) (az (pS 4 nd (aM zq (aM dR (pv 3) (pv 2)) aB)) (aH (bI (cw (pf A4 hr (ak (pv 0) (ak (pv 1) (ak (pv 4) au))))) (aH (pS 2 nd (pv 4))) (aH (pS 3 nd (pv 4))))))) (aH (aO (pv 2))))))),?_];have lim:(ti*ti*(q.den:Int)).natAbs<2^2399:=by
   have m1:(ti*ti).natAbs<=100*100:=by rw[iH];erw[o8 ao ao]
   have hd:=bq.den;rw[iH];have:(q.den:Int).natAbs=q.den:=rfl;rw[this];have:=sD (n:=14) (m:=2000) (a:=(ti*ti).natAbs) (b:=q.den) (Eo m1 aw) hd;erw[gK this (tY aw aw)]
  have p0:0<ti*ti*(q.den:Int):=jd (jd ao ao) (den_pos q);have e2:(2:Nat)^2400=2^2399*2:=wc 2 2399;generalize hL:ti*ti*(q.den:Int)=L at lim p0;erw[uf (λO H2=>H2=H/\∃(x:Int),O=[some m,some sq,some (.int x),none,none]/\1<=x/\x<=2*L/\gG ti q (x/2)=false) (λO _=>match O with|[_,_,some (.int x),_,_]=>(L-x).toNat|_=>0) ?_ ?_ ?_]
  ·erw[Z,1,Z,ao,ao,aaP t1]
  ·rintro O H2 ⟨rfl,x,rfl,x1,xL,hx⟩
   erw[AK ?_];intro E1;have xw:x.natAbs<2^2400:=by lia
   erw[_,Z,_,Z,_,Z,m,sq,x,rs,r,f,j,ti,q,Z,rm,rq,bq,t1,t2,ao,xw,_,Z,?_];cases Ds:gG ti q x with
   |false=>
    have ck:x<L:=by
     by_cases ck:x<L
     ·erw[ck]
     ·rw[V9 hq ao ao]at Ds;cases Ds
    erw[fQ (λhc=>?_) (λhc=>(hc Z).elim)];erw[_,Z,_,_,Z,Z,.of_left (dC aw aw),?_];erw[#[Z,_,Z,ao,ao,?_],?_]
    ·have:2*x/2=x:=by lia
     rw[this];erw[Ds]
    ·show(L-2*x).toNat<(L-x).toNat
     lia |true=>
    erw[fQ (λhc=>nomatch hc) (λhc=>?_)];erw[_,Z,_,_,Z,Z,#[aw,md (n:=2) aw aw],?_];erw[uf (λO H3=>H3=H2/\∃(lo hi:Int)(v:Option V),O=[some m,some sq,some (.int hi),some (.int lo),v]/\0<=lo/\lo<hi/\hi<=2*L/\gG ti q lo=false/\gG ti q hi=true) (λO _=>match O with|[_,_,some (.int x),some (.int y),_]=>(x-y).toNat|_=>0) ?_ ?_ ?_]
    ·erw[Z,x/2,x,none,Z,ao,ao,xL,hx,Ds]
    ·rintro O H3 ⟨rfl,lo,hi,v,rfl,l0,lh,A5,Vc,DC⟩
     erw[AK ?_];intro E2;erw[_,Z,_,Z,_,_,Z,Z,_,_,Z,Z,_,Z,?_];erw[fQ (λhc=>?_) (λhc=>?_)]
     ·have hgt:hi-lo>1:=kF hc
      erw[_,Z,_,Z,_,_,Z,Z,_,_,Z,Z,#[aw,md (n:=2) aw aw],?_];have mw:((lo+hi)/2).natAbs<2^2400:=by lia
      erw[_,Z,_,Z,_,Z,m,sq,(lo+hi)/2,rs,r,f,j,ti,q,Z,rm,rq,bq,t1,t2,ao,mw,_,Z,?_];cases hm:gG ti q ((lo+hi)/2)with
      |true=>
       erw[bM ?_];erw[_,Z,#[Z,lo,_,_,Z,l0,ao,ao,Vc,hm],?_];show((lo+hi)/2-lo).toNat<(hi-lo).toNat
       lia |false=>
       erw[aP ?_];erw[_,Z,#[Z,_,hi,_,Z,ao,ao,A5,hm,DC],?_];show(hi-(lo+hi)/2).toNat<(hi-lo).toNat
       lia
     ·have hle:¬hi-lo>1:=λz=>hc (cj z)
      have e:lo=hi-1:=by lia
      subst e;erw[_,Z,k hi ao ao DC Vc]
    ·rintro O H2 Q1 Q2 hq ⟨v1,e1,v2,e2,i,j,e3,e4,i2,j2,e5,e6,kk,e7,q⟩
     erw[v1,e1,v2,e2,i,j,e3,e4,i2,j2,e5,e6,kk,e7,hq _ _ q]
  ·rintro O H2 Q1 Q2 hq ⟨v1,e1,v2,e2,v3,e3,m',Zh,x',uz,r',f',j',Yl,q',e4,h1,h2,h3,h4,h5,h6,h7,b,eb,q⟩
   erw[v1,e1,v2,e2,v3,e3,m',Zh,x',uz,r',f',j',Yl,q',e4,h1,h2,h3,h4,h5,h6,h7,b,eb,hq _ _ q]
end
end _a
namespace _a
open PySem PySem.Spec PyProof.Rows _L _l
section
theorem XJ(h:j.natAbs<2^64):Wd j:=rC h aG
inductive adH(vs:List V)(H:Hp)(Q:VK):Prop |mk (p:Int)(q:Int)(h0:vs=[.int p,.int q])(h1:0<q)(h2:q<=10^6)(h3:p.natAbs<=10^9)(h4:Q (.int (gZ p q)) H)
def ZO:Sp:=λvs H Q _=>adH vs H Q
theorem MW:bf ["p","q","size"] ["p","q"] (aQ OT):=bo aG
theorem a3L(AA:All w K mg):bj P w K mg ay "nearest" 1 ZO:=by
 exists AA.a9F.has,MW,eD λ_ _=>rfl
 ·let(p,q,rfl,q0,q1,p1,k):=h
  have nd:=MW.nd;erw[_,(az (pS 2 nd (aM zq (aM dR (aM cN aB (fh (x:="abs") tK Z (AA.B.at "abs") w6 (ak (pv 0) au))) (pv 1)) (aM cN aB (pv 1)))) (aH (aO (kr (bX Cj (pv 0) aB (bQ _)) (pv 2) (jk jf (pv 2)))))),?_];erw[_,Z,p,Z,_,_,Z,Z,.of_left (dC aw aw),_,Z,_,_,Z,Z,_,Z,_,_,Z,Z,.of_left (dC aw aw),_,_,Z,Z,#[ao,XJ ao],?_];have e:(2*(if p<0 then-p else p)+q)/(2*q)=jG p q:=by unfold jG;rw[<-JW];rfl
  erw[_,Z,_,_,Z,Z,_,Z,?_];unfold gZ at k;rw[<-e]at k;erw[fQ (λhc=>?_) (λhc=>?_)]
  ·have hp:p>=0:=kF hc
   rw[ba hp]at k;erw[_,Z,k]
  ·have hp:¬p>=0:=λz=>hc (cj z)
   rw[bc hp]at k;erw[_,Z,_,Z,k]
def Ly(ns:List Int)(k:Int):ah:=.tuple ((ns.map λz=>gZ (k*z) (aE ns)).map PyData.int)
theorem a2e{k z:Int}(h:k.natAbs<=10^6)(g:(z.natAbs:Int)<=1000):(k*z).natAbs<=10^9:=by rw[iH];erw[iG (o8 h (show z.natAbs<=1000 by lia)) aw]
inductive ad6(vs:List V)(H:Hp)(Q:VK):Prop |mk (v:_)(ns:_)(sp:_)(k:_)(h0:vs=[v,.int k])(h1:RD K H v (eF ns sp))(h2:ft ns.length 1000 ns)(h3:ns.length<=1000)(h4:k.natAbs<=10^6)(h5:∀v' H',RD K H' v' (Ly ns k)->aF H H'->Q v' H')
def Zr:Sp:=λvs H Q _=>ad6 vs H Q
theorem Ms:bf ["line","k","lead"] ["line","k"] (aQ O7):=bo aG
theorem GB(AA:All w K mg):bj P w K mg ay "stand_at" 2 Zr:=by
 exists AA.a9q.has,Ms,eD λ_ _=>rfl
 ·let(v,ns,sp,kk,rfl,rd,ok,hz,hk,k):=h
  have nd:=Ms.nd;erw[_,(az (pS 2 nd (pf (qf AA) hr (ak (pv 0) au))) (aH (aO (dF (x:="tuple") (kh K Z) Z (AA.B.at "tuple") ir (ak (eQ (N:=["step","lead","k"]) (js:=[none,some 2,some 1]) rfl rfl rfl (j3 K rfl (px K (pv 0) aB)) (λ_ _ _ _ _=>(aR 0 (show List.Nodup (["step","lead","k"]:List Str) by decide+kernel))) (λ_ _ _ _ _=>e9) (λ_ _ _ _ _=>(pf (a3L AA) hr (ak (aM cN (pv 2) (pv 0)) (ak (pv 1) au))))) au))))),?_];erw[_,Z,v,ns,sp,Z,rd,ok.ne,hz,λH1 s1=>?_];let(a,b,rfl,ha,hb):=oT (RD.mono s1 _ rd);let(lp,lm):=ok.lead;erw[_,Z,.inr #[a,_,1,.ref b,Z,Z,ha,Z,b,Z,#[_,hb],λD H0 nw=>?_]];erw[qR (K:=K) (xs:=ns.map V.int) (ds:=(ns.map λz=>gZ (kk*z) (aE ns)).map PyData.int) _ hb nw (by simp) (by simpa using hz) (mm _) ?_ ?_]
  ·intro i x d H2 Q' ex ed s2 hq
   rw[Et]at ed;let(n,en,rfl):=oP ed;cases CJ ex en;erw[_,Z,_,Z,_,_,Z,Z,.of_left (dC ao ao),_,Z,_,_,Z,ao,ao,a2e hk (ok.bd n (fz en)),?_];erw[hq _ _ (aF.refl _) (fO _)]
  ·intro H' ys s2 d2 r2
   erw[D,_,Z,.inl #[aD.of d2,λt H4 n4=>?_]];erw[k _ _ (fN (aU.of n4.at') (aI.mono n4.same _ r2)) (s1.trans (s2.trans n4.same))]
end
section
def gd(ns:List Int)(j:Nat):List Int:=ns.map λz=>gZ (((j:Int)+1)*z) (aE ns)-gZ ((j:Int)*z) (aE ns)
def lM(ns:List Int):List ah:=(List.range (aE ns)).map λj=>.tuple ((gd ns j).map PyData.int)
theorem FQ(zs:List Int):dW (.tuple (zs.map PyData.int))=true:=by rw[dW];erw[mm zs]
theorem FO(ns:List Int):cx (lM ns)=true:=dU.mpr λd hd=>by let(j,_,rfl):=cJ.mp hd;erw[FQ _]
theorem Qg(h:i<aE ns):(lM ns)[i]? =some (.tuple ((gd ns i).map PyData.int)):=by unfold lM;rw[bO,bL (by simpa using h),Bn];rfl
theorem FP(ns:List Int):(lM ns).length=aE ns:=by simp[lM]
inductive adi(vs:List V)(H:Hp)(Q:VK):Prop |mk (v:_)(ns:_)(sp:_)(h0:vs=[v])(h1:RD K H v (eF ns sp))(h2:ft ns.length 1000 ns)(h3:ns.length<=1000)(h4:∀l ys H',H l=none->H' l=some (.lst ys)->aI K H' ys (lM ns)->aF H H'->Q (.ref l) H')
def Zx:Sp:=λvs H Q _=>adi vs H Q
theorem MG:bf ["line","rows","before","k","behind"] ["line"] (aQ Oi):=bo aG
theorem GF(AA:All w K mg):bj P w K mg ay "step_rows" 3 Zx:=by
 exists AA.a9o.has,MG,dg λ_=>rfl
 ·let(v,ns,sp,rfl,rd,ok,hz,k):=h
  have nd:=MG.nd;let(lp,lm):=ok.lead;erw[_,(az (pS 1 nd (dj au)) (az (pS 2 nd (pf (GB AA) hr (ak (pv 0) (ak aB au)))) (az (gW fS Z (QP Z (AA.B.at "range") (ak aB (ak (aM dR (pf (qf AA) hr (ak (pv 0) au)) aB) au))) (aR 3 nd) (az (pS 4 nd (pf (GB AA) hr (ak (pv 0) (ak (pv 3) au)))) (az (fP (iL K Z (pv 1) (ak (dF (x:="tuple") (kh K Z) Z (AA.B.at "tuple") ir (ak (eQ (N:=["new","old"]) (js:=[none,none]) rfl rfl rfl (oC K rfl false false rfl (AA.B.at "zip") (ak (pv 4) (ak (pv 2) au))) (λ_ _ _ _ _=>(eu K rfl (n:=2) rfl (bV (aR 0 (jN aw)) (bV (aR 1 (jN aw)) eg)))) (λ_ _ _ _ _=>e9) (λ_ _ _ _ _=>(aM j6 (pv 0) (pv 1)))) au)) au))) (aH (pS 2 nd (pv 4)))))) (aH (aO (pv 1)))))),?_];erw[cy Z,λl H1 n1=>?_];erw[_,Z,v,ns,sp,0,Z,RD.mono n1.same _ rd,ok,hz,aw,λu H2 ru s2=>?_];have t2:=n1.same.trans s2;erw[_,Z,v,ns,sp,Z,RD.mono t2 _ rd,ok.ne,hz,λH3 s3=>?_];erw[_,_,Z,Z,_,_,Z,#[ao,ao,ao,ao],?_];have t3:=t2.trans s3;have e3:((aE ns:Int)+1-1).toNat=aE ns:=by lia
  erw[xC (Pv:=λi O H4=>aF H H4/\(∃ys,H4 l=some (.lst ys)/\aI K H4 ys ((lM ns).take i))/\∃b v1 v2,RD K H4 b (Ly ns i)/\O=[some v,some (.ref l),some b,v1,v2]) ?_ ?_ ?_]
  ·erw[t3,#[[],s3 _ _ (s2 _ _ n1.at'),cW],u,none,none,RD.mono s3 _ ru,Z]
  ·rintro i O H4 hi ⟨t4,⟨ys,dl,ry⟩,b,v1,v2,rb,rfl⟩
   erw[iC ?_];intro E1;have nF:i<aE ns:=by lia
   erw[_,Z,_,Z,v,ns,sp,_,Z,RD.mono t4 _ rd,ok,hz,ao,λb2 H5 G3 s5=>?_];erw[_,Z,.inl #[Z,_,aD.of (s5 _ _ dl)],?_];let(a1,xs1,rfl,h1,q1):=G3.cu;have e1:=q1.gj;subst e1;let(a0,xs0,rfl,h0,q0):=(RD.mono s5 _ rb).cu;have e0:=q0.gj;subst e0;erw[_,Z,_,Z,a1,a0,Z,#[_,h1],#[_,h0],λD H6 nw=>?_];erw[vF (K:=K) (b1:=false) (b2:=false) (ds:=(gd ns i).map PyData.int) [] rfl h1 h0 nw (by simp[gd]) (by simpa[gd]using hz) (mm _) ?_ ?_]
   ·intro j x y d H7 Q' ex ey ed s7 hq
    let(m,em,rfl):=oP ed;unfold gd at em;rw[bO]at em ex ey;rw[bO]at ex ey;cases en:ns[j]? with |none=>rw[en]at em;cases em |some n=>
     rw[en]at em ex ey;cases em;cases ex;cases ey;erw[_,Z,_,Z,_,_,Z,Z,?_];have ee:(1:Int)+(i:Int)=(i:Int)+1:=by lia
     rw[ee];erw[hq _ _ (aF.refl _) (fO _)]
   ·intro H7 zs s7 d7 r7
    erw[D,_,Z,.inl #[aD.of d7,λt H8 n8=>?_]];have kL:=s5.trans (s7.trans n8.same);have lY:=kL _ _ dl;have len:=ry.length;rw[u7,FP]at len;erw[l,ys,_,Z,Z,lY,?_,?_]
    ·have:(1000:Nat)<sizeLine:=by decide
     lia
    erw[_,Z,?_];have tt:fm H8 (_L.upd H8 l (.lst (ys++[.ref t]))):=.iW lY;erw[λb o e=>?_,#[_,bZ,?_],_,_,_,?_,Z]
    ·rw[aY (eM e n1.no)];erw[kL b o (t4 b o e)]
    ·rw[lF,Qg nF]
     have nt:cx ((lM ns).take i)=true:=dU.mpr λd hd=>dU.mp (FO ns) d (Bj hd);exact(aI.t tt _ nt (aI.mono kL _ ry)).append (cG (RD.t tt _ (FQ _) (fN (aU.of n8.at') (aI.mono n8.same _ r7))) cW)
    ·have ee:(1:Int)+(i:Int)=((i+1:Nat):Int):=by lia
     rw[ee]at G3;erw[RD.t tt _ (FQ _) (RD.mono (s7.trans n8.same) _ G3)]
  ·rintro O H4 ⟨t4,⟨ys,dl,ry⟩,b,v1,v2,rb,rfl⟩
   rw[e3,tZ (by rw[FP];erw[aV _])]at ry;erw[_,Z,k l ys H4 n1.no dl ry t4]
end
end _a
namespace _a
open PySem PySem.Spec PyProof.Rows _L _b _l _C _P
open _O (topR cornO mnO betR atO ownF leadF ownL OkI OkIs)
section
def tP(H:Hp)(v:V):Option Rat->Prop |none=>v= .bu |some q=>bJ H v q
theorem tP.go{H H':Hp}{v:V}:∀{o:Option Rat},tP H v o->aF H H'->tP H' v o |none,h,_=>h |some _,h,s=>bJ.go h s
theorem bJ.tt{v:V}(h:bJ H v q)(s:fm H H'):bJ H' v q:=by let(a,rfl,h):=h;erw[a,Z,h.t s]
def E6(n:Nat):Option Rat->Prop |none=>True |some q=>Bd n q
def uV(r f:Int)(e b:Option Rat):List Rat:=(0::e.toList.map λq=>q+((-f:Int):Rat))++b.toList.map λq=>q+((-r:Int):Rat)
def vh(r f:Int)(bd:Rat)(e b:Option Rat):List Rat:=(bd::e.toList.map λq=>q+(r:Rat))++b.toList.map λq=>q+(f:Rat)
def CI(r f:Int)(bd:Rat)(e b:Option Rat):Bool:=!((uV r f e b).any λl=>(vh r f bd e b).any λh=>decide (h<l))
theorem fc.tt{H H':Hp}(s:fm H H'):∀{vs:List V}{rs:List Rat},fc H vs rs->fc H' vs rs |[],[],_=>trivial |v::vs,q::rs,h=>#[h.1.tt s,h.2.1,fc.tt s h.2.2] |[],_::_,h=>h.elim |_::_,[],h=>h.elim
theorem fc.snoc{H:Hp}{v:V}{q:Rat}(hv:bJ H v q)(hb:Bd 2000 q):∀{vs:List V}{rs:List Rat},fc H vs rs->fc H (vs++[v]) (rs++[q]) |[],[],_=>#[hv,hb,trivial] |v::vs,q::rs,h=>#[h.1,h.2.1,fc.snoc hv hb h.2.2] |[],_::_,h=>h.elim |_::_,[],h=>h.elim
theorem Wm{α:Type}(l:List α)(p:α->Bool)(g:Nat->Bool)(h:∀i x,l[i]? =some x->g i=p x):(List.range l.length).any g=l.any p:=by
 rw[kg,yo,yo];erw[λ#[i,hi,e]=>?_,λ#[x,hx,e]=>?_]
 ·have hi:=List.mem_range.mp hi
  erw[l[i],wj hi,by rw[<-h i _ (bL hi)];erw[e]]
 ·let(i,hi):=oa.mp hx
  erw[i,List.mem_range.mpr (cK.mp hi).1,by rw[h i x hi];erw[e]]
inductive aei(vs:List V)(H:Hp)(Q:VK):Prop |mk (m:_)(bv:_)(ev:_)(gv:_)(rs:_)(r:_)(f:_)(j:_)(t:_)(bd:_)(e:_)(b:_)(h0:vs=[m,bv,ev,gv])(h1:RD K H m (fG rs r f j t))(h2:gH rs r f j t)(h3:bJ H bv bd)(h4:Bd 1900 bd)(h5:tP H ev e)(h6:E6 1900 e)(h7:tP H gv b)(h8:E6 1900 b)(h9:∀H',aF H H'->Q (.bl (CI r f bd e b)) H')
def a0c:Sp:=λvs H Q _=>aei vs H Q
theorem NI:bf ["machine","bound","ended","begun","rise","fall","lows","highs"] ["machine","bound","ended","begun"] (aQ PM):=bo aG
theorem RX(AA:All w K mg):bj P w K mg ay "can_meet" 5 a0c:=by
 exists AA.aa8.has,NI,xV λ_ _ _ _=>rfl
 ·let(m,bv,ev,gv,rs,r,f,j,t,bd,e,b,rfl,rm,aA,Rb,bb,Re,be,Rg,bg,k):=h
  have nd:=NI.nd;let(aN,jw,kJ):=AA.vn;erw[_,(az (za (i:=4) (j:=5) Z nd Z Z aw Z Z (ak (px K (pv 0) aB) (ak (px K (pv 0) aB) au)) Z) (az (pS 6 nd (dj (ak (dM (x:="NOUGHT") Z jw) au))) (az (pS 7 nd (dj (ak (pv 1) au))) (az (iZ (bI (bX wU (pv 2) gX (bQ _)) (az (fP (iL K Z (pv 6) (ak (pf (lN AA) hr (ak (pv 2) (ak (jk jf (pv 5)) au))) au))) (aH (fP (iL K Z (pv 7) (ak (pf (lN AA) hr (ak (pv 2) (ak (pv 4) au))) au))))) bP)) (az (iZ (bI (bX wU (pv 3) gX (bQ _)) (az (fP (iL K Z (pv 6) (ak (pf (lN AA) hr (ak (pv 3) (ak (jk jf (pv 4)) au))) au))) (aH (fP (iL K Z (pv 7) (ak (pf (lN AA) hr (ak (pv 3) (ak (pv 5) au))) au))))) bP)) (aH (aO (Gj (fh (x:="any") (Wn K Z Z) Z (AA.B.at "any") Ko (ak (a2B (N:=["low","high","highs"]) (js:=[none,none,some 7]) rfl rfl rfl (mX K rfl (pv 6)) (λ_ _ _ _ _=>(aR 0 (show List.Nodup (["low","high","highs"]:List Str) by decide+kernel))) (λ_ _ _ _ _=>(mX K rfl (pv 2))) (λ_ _ _ _ _=>(aR 1 (show List.Nodup (["low","high","highs"]:List Str) by decide+kernel))) (λ_ _ _ _ _=>(pf (zx AA) hr (ak (pv 1) (ak (pv 0) au))))) au)))))))))),?_];let(ma,mb,rfl,gF,jO):=oQ rm;have iz:=aA.r1;have ie:=aA.f1;erw[_,Z,.inr #[ma,_,1,.int r,Z,Z,gF,Z,_,Z,.inr #[ma,_,2,.int f,Z,Z,gF,Z,_,_,Z,?_]]];erw[cy Z,λl1 H1 n1=>?_];erw[_,Z,cy Z,λl2 H2 n2=>?_];have l12:l1≠l2:=eM n1.at' n2.no;have Si:H l1=none:=n1.no;have Sh:H l2=none:=by cases e:H l2 with |none=>rfl |some o=>have:=n1.same _ _ e;rw[n2.no]at this;cases this
  have R0:∀H',bJ H' (.ref aN) 0:=λH'=>#[aN,Z,kJ H'];have b0:Bd 2000 (0:Rat):=#[aw,aw];have s2:=n1.same.trans n2.same;have ap:∀{H3:Hp}{l:Addr}{xs:List V}{v:V},H l=none->aF H H3->aF H (_L.upd H3 l (.lst (xs++[v]))):=λ{H3 l xs v} hn s3=>λq o eq=>by rw[aY (eM eq hn)];erw[s3 _ _ eq]
  erw[λO H3=>aF H H3/\∃xs ys,H3 l1=some (.lst xs)/\H3 l2=some (.lst ys)/\fc H3 xs (0::e.toList.map λq=>q+((-f:Int):Rat))/\fc H3 ys (bd::e.toList.map λq=>q+(r:Rat))/\O=[some (.ref ma),some bv,some ev,some gv,some (.int r),some (.int f),some (.ref l1),some (.ref l2)],?_,?_]
  ·erw[kA ?_];intro E1
   erw[_,Z,Z,_,Z,?_];have V1:fc H2 [.ref aN] [0]:=#[R0 _,b0,trivial];have V2:fc H2 [bv] [bd]:=#[Rb.go s2,bb.mono aw,trivial];cases e with |none=>have e0:ev= .bu:=Re;subst e0;erw[aP #[s2,_,_,n2.same _ _ n1.at',n2.at',V1,V2,Z]] |some q=>
    have Re:bJ H ev q:=Re;have be:Bd 1900 q:=be;let(ae,e0,he):=id Re;subst e0;erw[bM ?_];have d1:=n2.same _ _ n1.at';erw[_,Z,.inl #[Z,_,aD.of d1],?_];erw[_,Z,_,Z,_,Z,.ref ae,q,_,Z,Re.go s2,be.mono aw,(by rw[jK];lia),λu1 H3 jh s3=>?_];have Aq:=s3 _ _ d1;erw[l1,_,u1,Z,Z,Aq,cy Z,?_];have t3:fm H3 (_L.upd H3 l1 (.lst ([.ref aN]++[u1]))):=.iW Aq;have wH:=s2.trans s3;have Fq:=ap (l:=l1) (xs:=[.ref aN]) (v:=u1) Si wH;have d2:(_L.upd H3 l1 (.lst ([.ref aN]++[u1]))) l2=some (.lst [bv]):=by rw[aY l12.symm];erw[s3 _ _ n2.at']
    have Ap:(_L.upd H3 l1 (.lst ([.ref aN]++[u1]))) l1=some (.lst ([.ref aN]++[u1])):=bZ;have AN:fc (_L.upd H3 l1 (.lst ([.ref aN]++[u1]))) ([.ref aN]++[u1]) ([0]++[q+((-f:Int):Rat)]):=(fc.snoc jh ((jW be (by rw[jK];lia)).mono aw) (V1.go s3)).tt t3;have AM:=(V2.go s3).tt t3;have WB:=Re.go Fq;generalize _L.upd H3 l1 (.lst ([.ref aN]++[u1]))=H4 at Fq d2 Ap AN AM WB⊢;erw[_,Z,.inl #[Z,_,aD.of d2],?_];erw[_,Z,_,Z,.ref ae,q,_,Z,WB,be.mono aw,(by rw[jK];lia),λu2 H5 mW s5=>?_];have xN:=s5 _ _ d2;erw[l2,_,u2,Z,Z,xN,cy Z,?_];have t5:fm H5 (_L.upd H5 l2 (.lst ([bv]++[u2]))):=.iW xN;erw[ap (l:=l2) Sh (Fq.trans s5),_,_,(aY l12).trans (s5 _ _ Ap),bZ,(AN.go s5).tt t5,(fc.snoc mW ((jW be (by rw[jK];lia)).mono aw) (AM.go s5)).tt t5,Z]
  rintro O H3 ⟨s3,xs,ys,d1,d2,V1,V2,rfl⟩;have lx:=V1.length;have ly:=V2.length;have le:e.toList.length<=1:=by cases e<;>simp
  have Df:xs.length<=2:=by rw[lx,gz,aW];lia
  have zS:ys.length<=2:=by rw[ly,gz,aW];lia
  erw[λO H4=>aF H H4/\∃xs ys,H4 l1=some (.lst xs)/\H4 l2=some (.lst ys)/\fc H4 xs (uV r f e b)/\fc H4 ys (vh r f bd e b)/\O=[some (.ref ma),some bv,some ev,some gv,some (.int r),some (.int f),some (.ref l1),some (.ref l2)],?_,?_]
  ·erw[kA ?_];intro E2
   erw[_,Z,Z,_,Z,?_];cases b with |none=>have e0:gv= .bu:=Rg;subst e0;erw[aP #[s3,_,_,d1,d2,by unfold uV;simpa using V1,by unfold vh;simpa using V2,Z]] |some q=>
    have Rg:bJ H gv q:=Rg;have bg:Bd 1900 q:=bg;let(ae,e0,he):=id Rg;subst e0;erw[bM ?_];erw[_,Z,.inl #[Z,_,aD.of d1],?_];erw[_,Z,_,Z,_,Z,.ref ae,q,_,Z,Rg.go s3,bg.mono aw,(by rw[jK];lia),λu1 H4 jh s4=>?_];have Aq:=s4 _ _ d1;erw[l1,_,u1,Z,Z,Aq,C1 _ ao,?_];have t4:fm H4 (_L.upd H4 l1 (.lst (xs++[u1]))):=.iW Aq;have wG:=s3.trans s4;have Fp:=ap (l:=l1) (xs:=xs) (v:=u1) Si wG;have xN:(_L.upd H4 l1 (.lst (xs++[u1]))) l2=some (.lst ys):=by rw[aY l12.symm];erw[s4 _ _ d2]
    have Ap:(_L.upd H4 l1 (.lst (xs++[u1]))) l1=some (.lst (xs++[u1])):=bZ;have AN:=(fc.snoc jh ((jW bg (by rw[jK];lia)).mono aw) (V1.go s4)).tt t4;have AM:=(V2.go s4).tt t4;have WA:=Rg.go Fp;generalize _L.upd H4 l1 (.lst (xs++[u1]))=H5 at Fp xN Ap AN AM WA⊢;erw[_,Z,.inl #[Z,_,aD.of xN],?_];erw[_,Z,_,Z,.ref ae,q,_,Z,WA,bg.mono aw,(by rw[jK];lia),λu2 H6 mW s6=>?_];have VD:=s6 _ _ xN;erw[l2,_,u2,Z,Z,VD,C1 _ ao,?_];have t6:fm H6 (_L.upd H6 l2 (.lst (ys++[u2]))):=.iW VD;erw[ap (l:=l2) Sh (Fp.trans s6),_,_,(aY l12).trans (s6 _ _ Ap),bZ,(AN.go s6).tt t6,(fc.snoc mW ((jW bg (by rw[jK];lia)).mono aw) (AM.go s6)).tt t6,Z]
  rintro O H4 ⟨s4,xs,ys,d1,d2,V1,V2,rfl⟩;have lx:=V1.length;have ly:=V2.length;have lb:b.toList.length<=1:=by cases b<;>simp
  have Df:xs.length<=3:=by rw[lx];unfold uV;rw[cv,gz,aW,aW];lia
  have zS:ys.length<=3:=by rw[ly];unfold vh;rw[cv,gz,aW,aW];lia
  erw[_,Z,l1,Z,#[_,aD.of d1],λD H5 n5=>?_];erw[abr (K:=K) (b:=λi j=>((vh r f bd e b)[j]?.bind λh=>(uV r f e b)[i]?.map λl=>decide (h<l)).getD false) _ (aD.of d1) (aD.of d2) n5 (iG (o8 Df zS) aw) ?_ ?_ ?_]
  ·intro x v H6 R s6 hR
   erw[_,Z,l2,Z,#[_,aD.of (s6 _ _ d2)],hR]
  ·intro i j' x y H6 Q' ex ey s6 hq
   let(l,el,Rl,bl):=V1.get ex;let(h,eh,Rh,bh):=V2.get ey;have hq:=hq H6 (aF.refl _);rw[el,eh]at hq;erw[_,Z,_,Z,y,x,h,l,Z,Rh.go s6,Rl.go s6,bh,bl,hq]
  ·intro H6 s6 d6
   erw[D,_,Z,aD.of d6,?_];have ea:(((List.range xs.length).flatMap λi=>(List.range ys.length).map λj=>((vh r f bd e b)[j]?.bind λh=>(uV r f e b)[i]?.map λl=>decide (h<l)).getD false)).any id=(uV r f e b).any λl=>(vh r f bd e b).any λh=>decide (h<l):=by rw[acf,lx,ly];erw[Wm _ _ _ λi l el=>Wm _ _ _ λj' h eh=>?_];rw[el,eh];rfl
   rw[ea];erw[_,Z,k H6 (s4.trans s6)]
def BS(pV:List Int)(t:Int)(q:Rat):ah:=.tuple [.str "step",.tuple (pV.map PyData.int),.int t,cP q]
theorem EV{v:V}{t:Int}(h:RD K H v (BS zs t q)):∃a b c,v= .ref a/\aU K H a [.str "step",.ref b,.int t,c]/\aU K H b (zs.map V.int)/\bJ H c q:=by let(a,xs,rfl,hx,hd):=h.cu;let(u1,ys,rfl,r1,hd):=hd.cons_inv;let(u2,ys,rfl,r2,hd):=hd.cons_inv;let(u3,ys,rfl,r3,hd):=hd.cons_inv;let(u4,ys,rfl,r4,hd):=hd.cons_inv;cases hd.nil_inv;cases r1.str_inv;cases r3.int_inv;let(b,bs,rfl,hb,hbs):=r2.cu;rw[hbs.gj]at hb;let(c,cs,rfl,hc,p7):=r4.cu;let(c1,cr,rfl,e1,p7):=p7.cons_inv;let(c2,cr,rfl,e2,p7):=p7.cons_inv;cases p7.nil_inv;cases e1.int_inv;cases e2.int_inv;erw[a,b,_,Z,hx,hb,c,Z,hc]
inductive ad0(vs:List V)(H:Hp)(Q:VK):Prop |mk (m:_)(sq:_)(rs:_)(r:_)(f:_)(j:_)(ti:_)(t:_)(q:_)(h0:vs=[m,.int t,sq])(h1:RD K H m (fG rs r f j ti))(h2:bJ H sq q)(h3:Bd 2000 q)(h4:1<=ti)(h5:ti<=100)(h6:0<q)(h7:1<=t)(h8:t.natAbs<2^2400)(h9:gG ti q t=true)(qF:gG ti q (t-1)=false)(II:∀H',aF H H'->Q (.bl true) H')
def LJ:Sp:=λvs H Q _=>ad0 vs H Q
theorem Ml:bf ["machine","t","square"] ["machine","t","square"] (aQ O0):=bo aG
theorem a3i(AA:All w K mg)(A4:bj P w K mg ay "are_enough" 1 Fe):bj P w K mg ay "is_timed" 3 LJ:=by
 exists AA.a9R.has,Ml,iB λ_ _ _=>rfl
 ·let(m,sq,rs,r,f,j,ti,t,q,rfl,rm,Rq,bq,L6,L5,q0,t1,t2,Jl,Jk,k):=h
  have nd:=Ml.nd;let(aN,jw,kJ):=AA.vn;erw[_,(az (bI (PW.pt (iI (cR (cw (pf (uL AA) hr (ak (pv 1) au)))) (iI (bX oF (pv 1) aB (bQ _)) (iI (cR (cw (pf (a3V AA) hr (ak (pv 2) au)))) (jJ (cR (cw (pf (zx AA) hr (ak (dM (x:="NOUGHT") Z jw) (ak (pv 2) au)))))))))) (aH (aO j4)) bP) (aH (aO (qd (pf A4 hr (ak (pv 0) (ak (pv 2) (ak (pv 1) au)))) (oE (Gj (pf A4 hr (ak (pv 0) (ak (pv 2) (ak (aM j6 (pv 1) aB) au)))))))))),?_];erw[_,Z,_,_,Z,(fO (K:=K) (H:=H) t).ty,_,Z,?_];rw[show oU (lH (.int t))=true from(by decide:oU "int"=true)];erw[aP #[_,Z,_,_,Z,Z,_,Z,?_]];rw[dE aL];erw[aP ?_];erw[_,Z,sq,q,Z,Rq,_,Z,aP ?_];erw[_,Z,.ref aN,sq,0,q,Z,#[aN,Z,kJ H],Rq,#[aw,aw],bq,_,Z,?_];rw[cj q0];erw[aP ?_];erw[_,Z,_,Z,_,Z,m,sq,t,rs,r,f,j,ti,q,Z,rm,Rq,bq,L6,L5,aL,t2,?_];rw[Jl];erw[_,Z,bM ?_];erw[_,Z,_,Z,_,Z,_,_,Z,Z,m,sq,t-1,rs,r,f,j,ti,q,Z,rm,Rq,bq,L6,L5,aL,aL,?_];rw[Jk];erw[_,Z,k H (aF.refl _)]
inductive adb(vs:List V)(H:Hp)(Q:VK):Prop |mk (v:_)(u:_)(zs:_)(t:_)(q:_)(h0:vs=[v,u])(h1:RD K H v (.tuple (zs.map PyData.int)))(h2:RD K H u (BS zs t q))(h3:zs.length<=1000)(h4:∀H',aF H H'->Q (.bl true) H')
def Zv:Sp:=λvs H Q _=>adb vs H Q
theorem Mu:bf ["row","entry"] ["row","entry"] (aQ O8):=bo aG
theorem a3m(AA:All w K mg):bj P w K mg ay "is_step_with" 2 Zv:=by
 exists AA.a9S.has,Mu,eD λ_ _=>rfl
 ·let(v,u,zs,t,q,rfl,rv,ru,lz,k):=h
  have nd:=Mu.nd;erw[_,(az (bI (PW.pt (iI (cR (cw (mj K AA.B (ak (pv 1) (ak (mi (x:="tuple") (v:=.ty "tuple") Z (AA.B.at "tuple") ir rfl) au))))) (iI (bX (kR K rfl hr.units) (fW K AA.B (ak (pv 1) au)) aB (bQ _)) (jJ (bX (kR K rfl hr.units) (px K (pv 1) aB) bR (bQ _)))))) (aH (aO j4)) bP) (aH (aO (qd (jl (dN K Z hr.units) (px K (pv 1) aB) (pv 0) (bQ _)) (oE (fh (x:="all") (vP K Z Z) Z (AA.B.at "all") yg (ak (eQ (N:=["number"]) (js:=[none]) rfl rfl rfl (j3 K rfl (px K (pv 1) aB)) (λ_ _ _ _ _=>(aR 0 (iM _))) (λ_ _ _ _ _=>e9) (λ_ _ _ _ _=>(pf (uL AA) hr (ak (pv 0) au)))) au))))))),?_];let(a,b,c,rfl,h1,h2,h3):=EV ru;erw[_,Z,.inl #[_,_,"tuple",true,Z,ru.ty,aw,mT,_,Z,aP ?_]];erw[_,Z,a,_,Z,.inr h1,.inl #[_,_,Z,Z,_,Z,aP ?_]];erw[_,Z,.inr #[a,_,0,.str "step",Z,Z,h1,Z,.inr #[_,_,bC _,bC _,aG,aG,_,Z,?_]]];rw[qJ,show gh "step" (.str "step")=true by decide+kernel];erw[aP ?_];have ok:dv 1 (.tuple (zs.map PyData.int)):=iq.tup (n:=0) λd hd=>by let(i,_,rfl):=cJ.mp hd;erw[.int i]
  erw[_,Z,.inr #[a,_,1,.ref b,Z,Z,h1,Z,_,Z,.inr #[_,_,fN h2 (pW zs),rv,ok.shaped aw,ok.shaped aw,?_]]];rw[ok.refl];erw[_,Z,bM ?_];erw[_,Z,.inr #[a,_,1,.ref b,Z,Z,h1,Z,b,Z,#[_,h2],λD H2 n2=>?_]];erw[Ax (xs:=zs.map V.int) (bs:=zs.map λ_=>true) [] h2 n2 (by simp) (by simp;omega) ?_ ?_]
  ·intro i x y H3 Q' ex ey s3 hq
   rw[bO]at ex ey;let(z,ez,rfl):=tX.mp ex;rw[ez]at ey;cases ey;erw[_,Z,_,_,Z,(fO (K:=K) (H:=H3) z).ty,?_];rw[show oU (lH (.int z))=true from(by decide:oU "int"=true)];erw[hq _ (aF.refl _)]
  ·intro H3 s3 d3
   erw[D,_,Z,aD.of d3,?_];have e:(zs.map λ_=>true).all id=true:=gc.mpr λx hx=>by let(_,_,rfl):=cJ.mp hx;rfl
   rw[e];erw[k H3 s3]
def vC(zs:List Int)(top:Rat):ah:=.tuple [.str "step",.tuple (zs.map PyData.int),cP top]
inductive ae8(vs:List V)(H:Hp)(Q:VK):Prop |mk (m:_)(xv:_)(ev:_)(rs:_)(r:_)(f:_)(j:_)(ti:_)(h0:vs=[m,xv,ev])(h1:RD K H m (fG rs r f j ti))(h2:gH rs r f j ti)(h3:((∃d,RD K H xv d/\RD K H ev d/\qV d/\∀H',aF H H'->Q .bu H')\/ ∃zs top t q,RD K H xv (vC zs top)/\RD K H ev (BS zs t q)/\zs.length<=1000/\Bd 2000 top/\Bd 2000 q/\0<q/\1<=t/\t.natAbs<2^2400/\gG ti q t=true/\gG ti q (t-1)=false/\∀H',aF H H'->Q (if top<q then .int 3 else .bu) H'))
def M0:Sp:=λvs H Q _=>ae8 vs H Q
theorem Nz:bf ["machine","expected","entry","word","row","top"] ["machine","expected","entry"] (aQ Py):=bo aG
theorem a42(AA:All w K mg)(a7B:bj P w K mg ay "is_timed" 3 LJ):bj P w K mg ay "fault_of_entry" 5 M0:=by
 exists AA.aa3.has,Nz,iB λ_ _ _=>rfl
 ·let(m,xv,ev,rs,r,f,j,ti,rfl,rm,aA,hc):=h
  have nd:=Nz.nd;erw[_,(az (bI (bX (kR K Z hr.units) (px K (pv 1) aB) bR (bQ _)) (aH (aO (kr (PW.pt (sr (cw (pf (GI AA) hr (ak (pv 0) (ak (pv 2) au)))) (wN (bX (dN K Z hr.units) (pv 2) (pv 1) (bQ _))))) gX (dM (x:="NOT_DUE") Z AA.UD)))) bP) (az (fg (pv 1) (eu K Z (n:=3) Z (bV (aR 3 nd) (bV (aR 4 nd) (bV (aR 5 nd) eg))))) (az (bI (cR (cw (pf (a3m AA) hr (ak (pv 4) (ak (pv 2) au))))) (aH (aO (dM (x:="NOT_DUE") Z AA.UD))) bP) (az (bI (cR (cw (pf a7B hr (ak (pv 0) (ak (px K (pv 2) aB) (ak (px K (pv 2) aB) au)))))) (aH (aO (dM (x:="WRONG_TICKS") Z AA.a8J))) bP) (aH (aO (kr (cw (pf (zx AA) hr (ak (pv 5) (ak (px K (pv 2) aB) au)))) (dM (x:="ABOVE_TOP") Z AA.a8Z) gX))))))),?_];rcases hc with⟨d,rx,re,fF,k⟩|⟨zs,top,t,q,rx,re,lz,bt,bq,q0,t1,t2,Jl,Jk,k⟩
  ·obtain⟨wd,u,rfl,hw⟩:∃wd u,d= .tuple [.str wd,u]/\gh "step" (.str wd)=false:=by
    rcases fF with⟨n,rfl,_,_⟩|⟨wd,z,rfl,hw,_,_⟩
    ·erw["wait",_,Z,aG]
    ·erw[wd,_,Z,?_]
     rcases hw with rfl|rfl<;>decide+kernel
   let(i1,i2,i3):=jB.is (n:=rs.length) (d:=.tuple [.str wd,u]) (o:=none) #[fF.it,(λ_ _ z=>nomatch z),λ_=>fF];let(a,xs,rfl,h1,hd):=id rx.cu;let(u1,ys,rfl,e1,hd):=hd.cons_inv;cases e1.str_inv;have lr:=aA.len;erw[_,Z,.inr #[a,_,0,.str wd,Z,Z,h1,cB (dc 0) Z,.inr #[_,_,bC _,bC _,si (Ct i2 (by simp)),aG,_,Z,?_]]];rw[qJ,hw];erw[bM #[_,Z,_,Z,m,ev,rs,[PyData.int r,.int f,.int j,.int ti],_,Z,rm,re,ao,i2,i3,λH1 s1=>?_]];rw[i1];erw[_,Z,bM ?_];erw[_,Z,_,Z,.inr #[_,_,RD.mono s1 _ re,RD.mono s1 _ rx,si i2,si i2,_,Z,?_]];rw[eqv_refl _ i2.lay];erw[bM (k H1 s1)]
  ·let(a,b,c,rfl,h1,h2,h3):=EV re
   let(x,xs,rfl,g1,hd):=id rx.cu;let(u1,ys,rfl,e1,hd):=hd.cons_inv;let(u2,ys,rfl,e2,hd):=hd.cons_inv;let(u3,ys,rfl,e3,hd):=hd.cons_inv;cases hd.nil_inv;cases e1.str_inv;let(tp,ts,rfl,ht,sH):=e3.cu;let(c1,cr,rfl,q1,sH):=sH.cons_inv;let(c2,cr,rfl,q2,sH):=sH.cons_inv;cases sH.nil_inv;cases q1.int_inv;cases q2.int_inv;have Rt':bJ H (.ref tp) top:=#[tp,Z,ht];erw[_,Z,.inr #[x,_,0,.str "step",Z,Z,g1,cB (dc 0) Z,.inr #[_,_,bC _,bC _,aG,aG,_,Z,?_]]];rw[qJ,show gh "step" (.str "step")=true by decide+kernel];erw[aP ?_];erw[_,Z,x,_,Z,g1,Z,_,_,Z,_,_,Z,_,_,Z,Z,?_];erw[_,Z,_,Z,u2,.ref a,zs,t,q,Z,e2,re,lz,λH1 s1=>#[_,Z,aP ?_]];erw[_,Z,_,Z,.inr #[a,_,2,.int t,Z,Z,h1.go s1,Z,_,Z,.inr #[a,_,3,c,Z,Z,h1.go s1,Z,?_]]];erw[m,c,rs,r,f,j,ti,t,q,Z,RD.mono s1 _ rm,h3.go s1,bq,aA.t1.1,aA.t1.2,q0,t1,t2,Jl,Jk,λH2 s2=>#[_,Z,aP ?_]];have fM:=s1.trans s2;erw[_,Z,_,Z,.inr #[a,_,3,c,Z,Z,h1.go fM,Z,?_]];erw[.ref tp,c,top,q,Z,Rt'.go fM,h3.go fM,bt,bq,_,Z,?_];have k:=k H2 fM;by_cases ck:top<q
   ·rw[ba ck]at k
    rw[cj ck];erw[bM k]
   ·rw[bc ck]at k
    rw[dE ck];erw[aP k]
inductive adh(vs:List V)(H:Hp)(Q:VK):Prop |mk (ev:_)(h0:vs=[ev])(h1:((∃d,RD K H ev d/\qV d/\Q .bu H)\/∃zs t q,RD K H ev (BS zs t q)/\∀v,bJ H v q->Q v H))
def Zw:Sp:=λvs H Q _=>adh vs H Q
theorem Mz:bf ["entry"] ["entry"] (aQ Oc):=bo aG
theorem a3q(AA:All w K mg):bj P w K mg ay "square_of" 1 Zw:=by
 exists AA.a9r.has,Mz,dg λ_=>rfl
 ·let(ev,rfl,hc):=h
  have nd:=Mz.nd;erw[_,(aH (aO (kr (bX (dN K Z hr.units) (px K (pv 0) aB) bR (bQ _)) (px K (pv 0) aB) gX))),?_];rcases hc with⟨d,re,fF,k⟩|⟨zs,t,q,re,k⟩
  ·obtain⟨wd,u,rfl,hw,hs⟩:∃wd u,d= .tuple [.str wd,u]/\gh "step" (.str wd)=false/\SeqAt.shaped (.str wd)=true:=by
    rcases fF with⟨n,rfl,_,_⟩|⟨wd,z,rfl,hw,_,_⟩
    ·erw["wait",_,Z,aG,aG]
    ·erw[wd,_,Z,?_]
     rcases hw with rfl|rfl<;>erw[aG,aG]
   let(a,xs,rfl,h1,hd):=id re.cu;let(u1,ys,rfl,e1,hd):=hd.cons_inv;cases e1.str_inv;erw[_,Z,.inr #[a,_,0,.str wd,Z,Z,h1,cB (dc 0) Z,.inr #[_,_,bC _,bC _,hs,aG,_,Z,?_]]];rw[qJ,hw];erw[aP k]
  ·let(a,b,c,rfl,h1,h2,h3):=EV re
   erw[_,Z,.inr #[a,_,0,.str "step",Z,Z,h1,Z,.inr #[_,_,bC _,bC _,aG,aG,_,Z,?_]]];rw[qJ,show gh "step" (.str "step")=true by decide+kernel];erw[bM #[_,Z,.inr #[a,_,3,c,Z,Z,h1,Z,k _ h3]]]
end
section
inductive ae7(vs:List V)(H:Hp)(Q:VK):Prop |mk (m:_)(iv:_)(l:_)(ys:_)(rs:_)(r:_)(f:_)(j:_)(t:_)(ds:_)(os:_)(g:_)(h0:vs=[m,iv,.ref l])(h1:RD K H m (fG rs r f j t))(h2:gH rs r f j t)(h3:RD K H iv (.tuple ds))(h4:cU rs.length ds os)(h5:ds.length<=30)(h6:H l=some (.lst ys))(h7:aI K H ys ((lst os.length g).map cP))(h8:(∀i,i<=os.length->Bd 900 (g i)))(h9:∀l ys H',H l=none->H' l=some (.lst ys)->aI K H' ys ((lst os.length (fl os.length (leadF os) (2*f) g)).map cP)->aF H H'->Q (.ref l) H')
def a06:Sp:=λvs H Q _=>ae7 vs H Q
theorem C4:bf ["machine","items","squares","fall","kept","i"] ["machine","items","squares"] (aQ Px):=bo aG
theorem a44(AA:All w K mg):bj P w K mg ay "kept_by_fall" 5 a06:=by
 erw[AA.UU.has C4 (λvs H Q E h=>?_) (λ_ _ _ _ _ _=>iB λ_ _ _=>rfl) (λfa aK A outer s H vs Q E hr h=>?_)]
 · let(m,iv,l,ys,rs,r,f,j,t,ds,os,g,rfl,_):=h
   rfl
 · let(m,iv,l,ys,rs,r,f,j,t,ds,os,g,rfl,rm,aA,ri,row,hz,dl,yX,bg,k):=h
   have nd:=C4.nd;erw[_,(az (pS 3 nd (px K (pv 0) aB)) (az (pS 4 nd (dF (x:="list") (CW K Z) Z (AA.B.at "list") El (ak (pv 2) au))) (az (gW fS Z (QO Z (AA.B.at "reversed") (ak (dF (x:="range") VV rfl (AA.B.at "range") PyProof.Rows.boot_range (ak (fW K AA.B (ak (pv 1) au)) au)) au)) (aR 5 nd) (aH (bI (cw (pf (oJ AA) hr (ak (px K (pv 1) (pv 5)) au))) (aH (fg (pf (uK AA) hr (ak (dj (ak (px K (pv 4) (pv 5)) (ak (pf (lN AA) hr (ak (px K (pv 4) (aM dR (pv 5) aB)) (ak (aM cN (aM cN aB (pv 3)) (pf (qf AA) hr (ak (px K (pv 1) (pv 5)) au))) au))) au))) au)) (uG (pv 4) (pv 5) set_list))) bP))) (aH (aO (pv 4)))))),?_];let(ma,mb,rfl,gF,jO):=oQ rm;let(ia,xs,rfl,hi,eO):=ri.cu;have lx:=eO.length;have ll:=row.len;have lr:=aA.len;have hL:∀i m,leadF os i=some m->(2*f*(m:Int)).natAbs<2^24:=λi m e=>wu aA.f1.1 aA.f1.2 (xo row.lO e);have FB:∀i,i<=os.length->Bd 1700 (fl os.length (leadF os) (2*f) g i):=λi hi=>(IX bg hL i hi).mono ao;erw[_,Z,.inr #[ma,_,2,.int f,Z,Z,gF,Z,?_]];erw[_,Z,l,ys,Z,.inl (aD.of dl),λD H1 n1=>?_];erw[_,Z,ia,_,Z,.inr (hi.go n1.same),_,Z,λpr H2 n2=>?_];erw[pr,_,Z,n2.at',ao,ao,?_];have eN:((xs.length:Int)).toNat=os.length:=by lia
   rw[eN];erw[UP (Pv:=λi O H5=>aF H H5/\∃zs v1,H5 D=some (.lst zs)/\aI K H5 zs ((lst os.length λk=>if os.length<=k+i then fl os.length (leadF os) (2*f) g k else g k).map cP)/\O=[some (.ref ma),some (.ref ia),some (.ref l),some (.int f),some (.ref D),v1]) ?_ ?_ ?_]
   · erw[n1.same.trans n2.same,ys,none,n2.same _ _ n1.at',?_,Z]
     rw[qm (g:=λk=>if os.length<=k+0 then fl os.length (leadF os) (2*f) g k else g k) (g':=g)]
     ·erw[aI.mono (n1.same.trans n2.same) _ yX]
     · intro k hk
       show g k=if os.length<=k+0 then _ else g k;split
       · next h => have:k=os.length:=by lia
                   subst this;erw[qI.symm]
       ·rfl
   · rintro i O H3 hin ⟨s3,zs,v1,dz,rz,rfl⟩
     erw[iC ?_];intro E1;obtain⟨x,hx⟩:∃x,xs[os.length-1-i]? =some x:=#[_,bL (show os.length-1-i<xs.length by lia)];generalize hc:os.length-1-i=c at hx;have hZ:c<os.length:=by lia
     have eI:((os.length:Int)-1-(i:Int))=(c:Int):=by lia
     rw[eI];let(d,ed,rd):=eO.get' c hx;let(o,eo,it):=row.get ed;have lz:=rz.length;rw[aW,lP]at lz;have AF:fb xs (c:Int)=some x:=cB ao (by simpa using hx);erw[_,Z,_,Z,.inr #[ia,_,_,_,Z,Z,hi.go s3,AF,?_]];erw[x,d,o,Z,RD.mono s3 _ rd,it,_,Z,?_];cases o with
     |none=>
       erw[aP ?_];erw[s3,zs,_,dz,?_,Z];rw[qm (g:=λk=>if os.length<=k+(i+1)then fl os.length (leadF os) (2*f) g k else g k) (g':=λk=>if os.length<=k+i then fl os.length (leadF os) (2*f) g k else g k)]
       ·erw[rz]
       · intro k _
         show(if os.length<=k+i then _ else g k)=if os.length<=k+(i+1)then _ else g k;by_cases h1:os.length<=k+i
         ·rw[ba h1,ba ao]
         · rw[bc h1]
           by_cases h2:k=c
           ·subst h2;rw[ba ao,qH hZ (Hv eo)]
           ·rw[bc ao] |some q=>
       let(ns,sp):=q;erw[bM ?_];have dG:=iP it;subst dG;let(bW,_,_):=row.ok c ns sp eo;obtain⟨z1,nN⟩:∃z,zs[c+1]? =some z:=#[_,bL (show c+1<zs.length by lia)];obtain⟨z0,jy⟩:∃z,zs[c]? =some z:=#[_,bL (show c<zs.length by lia)];have R1:bJ H3 z1 (fl os.length (leadF os) (2*f) g (c+1)):=by
        let(d1,e1,r1):=rz.get' (c+1) nN;rw[bO,lQ _ (show c+1<=os.length by lia)]at e1;cases e1;have:os.length<=c+1+i:=by lia
        simp only[ba this]at r1;erw[jI r1]
       have R0:bJ H3 z0 (g c):=by
        let(d1,e1,r1):=rz.get' c jy;rw[bO,lQ _ (show c<=os.length by lia)]at e1;cases e1;have:¬os.length<=c+i:=by lia
        simp only[bc this]at r1;erw[jI r1]
       have tG:((c:Int)+1).toNat=c+1:=by lia
       have vN:fb zs ((c:Int)+1)=some z1:=cB ao (by rw[tG];erw[nN]);have vO:fb zs (c:Int)=some z0:=cB ao (by simpa using jy);erw[_,Z,_,Z,.inl #[D,_,_,_,Z,Z,aD.of dz,vO,?_]];erw[_,Z,_,Z,_,_,Z,Z,.inl #[D,_,_,_,Z,Z,aD.of dz,vN,?_]];erw[_,Z,_,_,Z,Z,.of_left (dC aw aw),?_];erw[_,Z,_,Z,.inr #[ia,_,_,_,Z,Z,hi.go s3,AF,?_]];erw[x,ns,sp,Z,RD.mono s3 _ rd,bW.ne,by rw[bW.len];lia,λH4 s4=>?_];have ie:=aA.f1;erw[_,_,Z,Z,.of_left (dC ao ao),?_];have us:=hL c _ (qr eo);erw[z1,_,_,Z,R1.go s4,(FB (c+1) ao).mono aw,us,λu H5 ru s5=>?_];erw[cy Z,λl2 H6 n6=>?_];have iY:=s4.trans (s5.trans n6.same);have AQ:=R0.go iY;have Ru:=ru.go n6.same;have B1:Bd 2000 (g c):=(bg _ ao).mono aw;have B2:Bd 2000 (fl os.length (leadF os) (2*f) g (c+1)+((2*f*(aE ns:Int):Int):Rat)):=(jW (FB (c+1) ao) us).mono aw;erw[l2,[z0,u],[_,_],Z,aD.of n6.at',#[AQ,B1,Ru,B2,trivial],by simp,λc' v q e1 e2 hq=>?_];have nA:mn (g c) (fl os.length (leadF os) (2*f) g (c+1)+((2*f*(aE ns:Int):Int):Rat))=q:=by
        erw[uU ?_ (hq _ (by simp)) (hq _ (by simp))]
        match c',e2 with |0,e2=>cases e2;erw[.inl rfl] |1,e2=>cases e2;erw[.inr rfl]
       have Rv:bJ H6 v q:=by match c',e1,e2 with |0,e1,e2=>cases e1;cases e2;erw[AQ] |1,e1,e2=>cases e1;cases e2;erw[Ru]
       have jS:=iY _ _ dz;have HU:jo zs.length (c:Int)=some c:=by unfold jo;rw[ba ao,ba ao];simp
       erw[_,Z,_,Z,D,zs,_,_,Z,Z,jS,HU,?_];erw[λb o e=>?_,_,_,bZ,?_,Z]
       ·rw[aY (eM e n1.no)];erw[iY b o (s3 b o e)]
       · have h:=aI.Fh (i:=c) jS (aI.mono iY _ rz) Rv.rd (qh _) (pZ _)
         rw[<-Es]at h;have e:(lst os.length λk=>if os.length<=k+i then fl os.length (leadF os) (2*f) g k else g k).set c q=lst os.length λk=>if os.length<=k+(i+1)then fl os.length (leadF os) (2*f) g k else g k:=by
          rw[<-Hj (g:=λk=>if os.length<=k+i then fl os.length (leadF os) (2*f) g k else g k) (g':=λk=>if os.length<=k+(i+1)then fl os.length (leadF os) (2*f) g k else g k) (i:=c)]
          · have:os.length<=c+(i+1):=by lia
            simp only[ba this];rw[nM hZ (qr eo),nA]
          · intro k _ hk
            show(if os.length<=k+(i+1)then _ else g k)=if os.length<=k+i then _ else g k;by_cases h1:os.length<=k+i
            ·rw[ba h1,ba ao]
            ·rw[bc h1,bc ao]
         rw[e]at h;erw[h]
   · rintro O H3 ⟨s3,zs,v1,dz,rz,rfl⟩
     rw[qm (g:=λk=>if os.length<=k+os.length then fl os.length (leadF os) (2*f) g k else g k) (g':=fl os.length (leadF os) (2*f) g) (λk hk=>by show _=if os.length<=k+os.length then _ else _;rw[ba ao])]at rz;erw[_,Z,k D zs H3 n1.no dz rz s3]
def cH(r f j rate:Int)(os:List Itm):Nat->Rat:=gf os.length (ownF j rate os) (leadF os) (2*r) (2*f)
def kN(r f j rate:Int)(os:List Itm):List Rat:=lst os.length (cH r f j rate os)
theorem a2l(r f j rate:Int)(os:List Itm):(kN r f j rate os).length=os.length+1:=lP _ _
inductive adx(vs:List V)(H:Hp)(Q:VK):Prop |mk (m:_)(iv:_)(rate:_)(rs:_)(r:_)(f:_)(j:_)(t:_)(ds:_)(os:_)(h0:vs=[m,iv,.int rate])(h1:RD K H m (fG rs r f j t))(h2:gH rs r f j t)(h3:RD K H iv (.tuple ds))(h4:cU rs.length ds os)(h5:ds.length<=30)(h6:10<=rate)(h7:rate<=200)(h8:∀l ys H',H l=none->H' l=some (.lst ys)->aI K H' ys ((kN r f j rate os).map cP)->aF H H'->Q (.ref l) H')
def F8:Sp:=λvs H Q _=>adx vs H Q
theorem MR:bf ["machine","items","rate","risen"] ["machine","items","rate"] (aQ OM):=bo aG
theorem GG(AA:All w K mg):bj P w K mg ay "plan_of" 9 F8:=by
 exists AA.a9A.has,MR,iB λ_ _ _=>rfl
 ·let(m,iv,rate,rs,r,f,j,t,ds,os,rfl,rm,aA,ri,row,hz,cg,cn,k):=h
  have nd:=MR.nd;erw[_,(az (pS 3 nd (pf (a3E AA) hr (ak (pv 0) (ak (pv 1) (ak (pf (RM AA) hr (ak (pv 0) (ak (pv 1) (ak (pv 2) au)))) au))))) (aH (aO (pf (a44 AA) hr (ak (pv 0) (ak (pv 1) (ak (pv 3) au))))))),?_];have ll:=row.len;have hB:=_O.zm aA.j1.1 aA.j1.2 cg cn row.lO;have hL:∀i m,leadF os i=some m->(2*r*(m:Int)).natAbs<2^24:=λi m e=>wu aA.r1.1 aA.r1.2 (xo row.lO e);erw[_,Z,_,Z,_,Z,_,Z,_,Z,m,iv,rate,rs,r,f,j,t,ds,os,Z,rm,aA,ri,row,aL,cg,cn,λl1 y1 H1 xh d1 r1 s1=>?_];erw[m,iv,l1,y1,rs,r,f,j,t,ds,os,ownF j rate os,Z,RD.mono s1 _ rm,aA,RD.mono s1 _ ri,row,hz,d1,r1,hB,λl2 y2 H2 uR d2 r2 s2=>?_];have fM:=s1.trans s2;erw[_,Z,_,Z,_,Z,m,iv,l2,y2,rs,r,f,j,t,ds,os,_,Z,RD.mono fM _ rm,aA,RD.mono fM _ ri,row,hz,d2,r2,λi hi=>(DZ hB hL i).mono aL,λl3 y3 H3 zD d3 r3 s3=>?_];have nl:H l3=none:=by cases e:H l3 with |none=>rfl |some o=>have:=fM _ _ e;rw[zD]at this;cases this
  erw[k l3 y3 H3 nl d3 r3 (fM.trans s3)]
end
end _a
namespace _a
open PySem PySem.Spec PyProof.Rows _L _b _l _W
section
def RowW(ds:List ah)(os:List Itm):Prop:=∀(i:Nat)(d:ah),os[i]? =some none->ds[i]? =some d->qV d
theorem RowW.snoc{ds:List ah}{os:List Itm}{d:ah}{o:Itm}(h:RowW ds os)(hl:ds.length=os.length)(hd:o=none->qV d):RowW (ds++[d]) (os++[o]):=by
 intro i x e1 e2;rcases oA e1 with h1|⟨h1,A7⟩
 ·rcases oA e2 with h2|⟨h2,_⟩
  ·erw[h i x h1 h2]
  ·have:=(cK.mp h1).1;lia
 ·rcases oA e2 with h2|⟨_,Du⟩
  ·have:=(cK.mp h2).1;lia
  ·subst Du;erw[hd A7.symm]
end
end _a
namespace _a
open PySem PySem.Spec PyProof.Rows _L _b _l _C _P
open _O (topR cornO mnO betR atO ownF leadF ownL OkI OkIs)
section
def xW(ti:Int)(q:Rat)(T:Int):Prop:=1<=T/\gG ti q T=true/\gG ti q (T-1)=false
open Classical in
noncomputable def me(ti:Int)(q:Rat):Int:=if h:∃T,xW ti q T then h.choose else 0
theorem V8{t:Int}(hq:0<=q.num)(h0:0<=s)(h:s<=t)(e:gG ti q s=true):gG ti q t=true:=by erw[cj (Int.le_trans (kF e) ?_)];erw[Bp (wk h h h0 ao) hq]
theorem Yq(hq:0<=q.num)(h1:xW ti q S)(h2:xW ti q T):S=T:=by
 let(a1,a2,a3):=h1;let(b1,b2,b3):=h2;by_cases h:S<=T-1
 ·have:=V8 hq ao h a2
  rw[b3]at this;cases this
 ·by_cases h':T<=S-1
  ·have:=V8 hq ao h' b2
   rw[a3]at this;cases this
  ·lia
theorem L4(hq:0<=q.num)(h:xW ti q T):me ti q=T:=by have hx:∃T,xW ti q T:=#[T,h];unfold me;rw[dif_pos hx];erw[Yq hq hx.choose_spec h]
theorem GO{q:Rat}(h:0<q):0<q.num:=by
 have h1:=Rat.num_nonneg.mpr (Rat.le_of_lt h);have h2:q.num≠0:=λe=>by rw[Rat.num_eq_zero.mp e]at h;erw[absurd h aw]
 lia
noncomputable def mU(ti:Int)(zs:List Int)(q:Rat):ah:=.tuple [.str "step",.tuple (zs.map PyData.int),.int (me ti q),cP q]
theorem EX(ti:Int)(zs:List Int)(q:Rat):dW (mU ti zs q)=true:=by simp[mU,dW,cx,mm,pZ]
inductive aea(vs:List V)(H:Hp)(Q:VK):Prop |mk (m:_)(rv:_)(sq:_)(rs:_)(r:_)(f:_)(j:_)(ti:_)(zs:_)(q:_)(h0:vs=[m,rv,sq])(h1:RD K H m (fG rs r f j ti))(h2:gH rs r f j ti)(h3:RD K H rv (.tuple (zs.map PyData.int)))(h4:bJ H sq q)(h5:Bd 2000 q)(h6:0<q)(h7:∀v H',RD K H' v (mU ti zs q)->aF H H'->Q v H')
def C0:Sp:=λvs H Q _=>aea vs H Q
theorem NB:bf ["machine","row","square"] ["machine","row","square"] (aQ PD):=bo aG
theorem a45(AA:All w K mg)(a6X:bj P w K mg ay "ticks_of" 2 LK):bj P w K mg ay "step_entry" 3 C0:=by
 exists AA.a9p.has,NB,iB λ_ _ _=>rfl
 ·let(m,rv,sq,rs,r,f,j,ti,zs,q,rfl,rm,aA,rr,Rq,bq,q0,k):=h
  have nd:=NB.nd;erw[_,(aH (aO (iK (ak bR (ak (pv 1) (ak (pf a6X hr (ak (pv 0) (ak (pv 2) au))) (ak (pv 2) au))))))),?_];have t1:=aA.t1;have qn:0<q.num:=GO q0;erw[_,Z,_,Z,_,Z,m,sq,rs,r,f,j,ti,q,Z,rm,Rq,bq,t1.1,t1.2,qn,λT T1 _ T2 T3=>?_];erw[_,Z,cy Z,λt H1 n1=>k (.ref t) H1 ?_ n1.same];have e:=L4 ao #[T1,T2,T3];unfold mU;rw[e];erw[fN (aU.of n1.at') (cG (bC _) (cG (RD.mono n1.same _ rr) (cG (fO _) (cG (Rq.go n1.same).rd cW))))]
noncomputable def j8(r f ti:Int)(ns:List Int)(top b e:Rat):List ah:=(List.range (aE ns)).map λk=>mU ti (gd ns k) (gP r f (aE ns) top b e k)
noncomputable def fR(r f j ti rate:Int)(ds:List ah)(os:List Itm)(i:Nat):List ah:=match os[i]? with |some (some (ns,sp))=>j8 r f ti ns (topR rate sp) (cH r f j rate os i) (cH r f j rate os (i+1)) |_=>[ds.getD i .none]
noncomputable def fC(r f j ti rate:Int)(ds:List ah)(os:List Itm):Nat->List ah |0=>[] |i+1=>fC r f j ti rate ds os i++fR r f j ti rate ds os i
theorem Hs(r f ti:Int)(ns:List Int)(top b e:Rat):cx (j8 r f ti ns top b e)=true:=dU.mpr λd hd=>by let(k,_,rfl):=cJ.mp hd;erw[EX _ _ _]
theorem Sz{r f:Int}{ld k:Nat}{top b e:Rat}(hr:1<=r)(hf:1<=f)(hk:k<ld)(ht:0<top)(hb:0<=b)(he:0<=e):0<gP r f ld top b e k:=by
 have pos:∀{x:Rat}{z:Int},0<=x->0<z->0<x+(z:Rat):=λ{x z} hx hz=>by have h1:((0:Int):Rat)<(z:Rat):=Kj.mpr hz;have h2:x+((0:Int):Rat)<x+(z:Rat):=Rat.add_lt_add_left.mpr h1;rw[show((0:Int):Rat)=0 from Z,Bc]at h2;erw[Std.lt_of_le_of_lt hx h2]
 have h1:=pos (z:=r*(2*(1+(k:Int))-1)) hb (jd ao ao);have h2:=pos (z:=f*(2*((ld:Int)-(1+(k:Int)))+1)) he (jd ao ao);unfold gP;rcases sE (mn (b+((r*(2*(1+(k:Int))-1):Int):Rat)) top) (e+((f*(2*((ld:Int)-(1+(k:Int)))+1):Int):Rat))with h|h
 ·rw[h]
  rcases sE (b+((r*(2*(1+(k:Int))-1):Int):Rat)) top with h'|h'<;>rw[h']<;>assumption
 ·rw[h];erw[h2]
theorem BL(h1:1<=sp)(h2:10<=rate):0<topR rate sp:=by
 have h0:=_O.rK rate sp;erw[Kg h0 λe=>?_];have hp:0<(sp*rate)^2:=by rw[fU,fU,m9,lG];erw[jd (jd ao ao) (jd ao ao)]
 have h2:0<=Rat.divInt (-((sp*rate)^2)) 10000:=by rw[<-Rat.neg_divInt];show 0<=-(topR rate sp);rw[<-e];decide
 have:=(ye aw).mp h2
 lia
end
section
def jT(rate:Int)(ds:List ah)(os:List Itm)(i:Nat):List ah:=match os[i]? with |some (some (ns,sp))=>(List.range (aE ns)).map λk=>vC (gd ns k) (topR rate sp) |_=>[ds.getD i .none]
def ij(rate:Int)(ds:List ah)(os:List Itm):Nat->List ah |0=>[] |i+1=>ij rate ds os i++jT rate ds os i
def m5(j rate:Int)(os:List Itm)(i:Nat):List Rat:=match os[i]? with |some (some (ns,sp))=>ownF j rate os i::List.replicate (aE ns-1) (topR rate sp) |_=>[ownF j rate os i]
def la(j rate:Int)(os:List Itm):Nat->List Rat |0=>[] |i+1=>la j rate os i++m5 j rate os i
theorem vB{rate:Int}{ds:List ah}{os:List Itm}{i:Nat}{ns:List Int}{sp:Int}(h:os[i]? =some (some (ns,sp))):jT rate ds os i=(List.range (aE ns)).map λk=>vC (gd ns k) (topR rate sp):=by unfold jT;rw[h]
theorem Am{rate:Int}{ds:List ah}{os:List Itm}{i:Nat}{d:ah}(h:os[i]? =some none)(hd:ds[i]? =some d):jT rate ds os i=[d]:=by unfold jT;rw[h,Ky,hd];rfl
theorem AD{j rate:Int}{os:List Itm}{i:Nat}{ns:List Int}{sp:Int}(h:os[i]? =some (some (ns,sp))):m5 j rate os i=ownF j rate os i::List.replicate (aE ns-1) (topR rate sp):=by unfold m5;rw[h]
theorem DQ{j rate:Int}{os:List Itm}{i:Nat}(h:os[i]? =some none):m5 j rate os i=[ownF j rate os i]:=by unfold m5;rw[h]
theorem Vm(zs:List Int)(q:Rat):dW (vC zs q)=true:=by
 have:cx (zs.map PyData.int)=true:=dU.mpr λd hd=>by let(i,_,rfl):=cJ.mp hd;rfl
 simp[vC,dW,cx,this,cP]
theorem An{n:Nat}{rate:Int}{ds:List ah}{os:List Itm}(row:cU n ds os):∀i,i<=os.length->(ij rate ds os i).length<=100*i/\cx (ij rate ds os i)=true
 |0,_=>#[aV _,Z] |i+1,h=>by
  have ll:=row.len;let(ih,ino):=An (rate:=rate) row i ao;obtain⟨o,eo⟩:∃o,os[i]? =some o:=#[_,bL (show i<os.length by lia)];have key:(jT rate ds os i).length<=100/\cx (jT rate ds os i)=true:=by cases o with |none=>obtain⟨d',ed⟩:∃d',ds[i]? =some d':=#[_,bL (show i<ds.length by lia)];rw[Am eo ed];have:=dU.mp row.no _ (fz ed);erw[by simp,by simp[cx,this]] |some q=>let(ns,sp):=q;let(bW,_,_):=row.ok i ns sp eo;have:=qp bW;rw[vB eo,aW,iy];erw[ao,dU.mpr λd hd=>?_];let(k,_,rfl):=cJ.mp hd;erw[Vm _ _]
  erw[?_,?_]
  ·show(ij rate ds os i++jT rate ds os i).length<=_
   rw[cv];lia
  ·erw[dU.mpr λd hd=>?_]
   rcases gy.mp hd with h1|h1
   ·erw[dU.mp ino d h1]
   ·erw[dU.mp key.2 d h1]
theorem qS{n:Nat}{j rate:Int}{ds:List ah}{os:List Itm}(row:cU n ds os):∀i,i<=os.length->(la j rate os i).length=(ij rate ds os i).length |0,_=>rfl |i+1,h=>by have ll:=row.len;show(la j rate os i++m5 j rate os i).length=(ij rate ds os i++jT rate ds os i).length;rw[cv,cv,qS row i ao];obtain⟨o,eo⟩:∃o,os[i]? =some o:=#[_,bL (show i<os.length by lia)];cases o with |none=>obtain⟨d',ed⟩:∃d',ds[i]? =some d':=#[_,bL (show i<ds.length by lia)];rw[Am eo ed,DQ eo];rfl |some q=>
 let(ns,sp):=q;let(bW,_,_):=row.ok i ns sp eo;have:=bW.lead;rw[vB eo,AD eo];simp
 lia
inductive aef(vs:List V)(H:Hp)(Q:VK):Prop |mk (iv:_)(rate:_)(n:_)(ds:_)(os:_)(h0:vs=[iv,.int rate])(h1:RD K H iv (.tuple ds))(h2:cU n ds os)(h3:n<=3)(h4:ds.length<=30)(h5:10<=rate)(h6:rate<=200)(h7:∀l ys H',H l=none->H' l=some (.lst ys)->aI K H' ys (ij rate ds os os.length)->aF H H'->Q (.ref l) H')
def a0a:Sp:=λvs H Q _=>aef vs H Q
theorem NG:bf ["items","rate","due","item","top"] ["items","rate"] (aQ PK):=bo aG
theorem a48(AA:All w K mg):bj P w K mg ay "due_entries" 5 a0a:=by
 exists AA.aa5.has,NG,eD λ_ _=>rfl
 ·let(iv,rate,n,ds,os,rfl,ri,row,n3,hz,cg,cn,k):=h
  have nd:=NG.nd;erw[_,(az (pS 2 nd (dj au)) (az (gW fS Z (j3 K Z (pv 0)) (aR 3 nd) (aH (bI (cw (pf (oJ AA) hr (ak (pv 3) au))) (az (pS 4 nd (pf (x6 AA) hr (ak (pv 3) (ak (pv 1) au)))) (aH (fP (zi K Z (pv 2) (ak (eQ (N:=["row","top"]) (js:=[none,some 4]) Z Z Z (mX K Z (pf (GF AA) hr (ak (pv 3) au))) (λ_ _ _ _ _=>(aR 0 (jN aw))) (λ_ _ _ _ _=>e9) (λ_ _ _ _ _=>(iK (ak bR (ak (pv 0) (ak (pv 1) au)))))) au))))) (aH (fP (iL K Z (pv 2) (ak (pv 3) au))))))) (aH (aO (pv 2))))),?_];have ll:=row.len;have iQ:sizeLine=16777216:=by decide
  erw[cy Z,λD H2 n2=>?_];have nD:=n2.no;let(ia,xs,rfl,hi,eO):=ri.cu;have lx:=eO.length;erw[_,Z,ia,Z,#[_,hi.go n2.same],IV (K:=K) (a:=ia) (xs:=xs) (λi O H3=>aF H H3/\∃zs v1 v2,H3 D=some (.lst zs)/\aI K H3 zs (ij rate ds os i)/\O=[some (.ref ia),some (.int rate),some (.ref D),v1,v2]) #[n2.same,[],none,none,n2.at',cW,Z] (λi O H3 _ h=>hi.go h.1) ?_ ?_]
  ·rintro i y O H3 hy ⟨s3,zs,v1,v2,dz,rz,rfl⟩
   erw[iC ?_];intro E1;have sP:i<xs.length:=(cK.mp hy).1;let(d,ed,rd):=eO.get' i hy;let(o,eo,it):=row.get ed;have pX:=RD.mono s3 _ rd;let(tl,tn):=An (rate:=rate) row i ao;have lz:=rz.length;erw[_,Z,y,d,o,Z,pX,it,_,Z,?_];cases o with
   |none=>
    erw[aP ?_];erw[_,Z,.inl #[Z,_,aD.of dz],_,Z,D,zs,_,Z,Z,dz,ao,?_];erw[λb o e=>?_,_,_,_,bZ,?_,Z]
    ·rw[aY (eM e nD)];erw[s3 b o e]
    ·show aI K _ _ (ij rate ds os i++jT rate ds os i)
     rw[Am eo ed];erw[aI.wz dz rz pX tn it.no] |some q=>
    let(ns,sp):=q;erw[bM ?_];have dG:=iP it;subst dG;let(bW,cO,dZ):=row.ok i ns sp eo;have mz:=qp bW;erw[_,Z,_,Z,y,ns,sp,rate,Z,pX,cO,dZ,cg,cn,λtv H4 E5 s4=>?_];have mJ:=s4 _ _ dz;erw[_,Z,.inl #[Z,_,aD.of mJ],?_];erw[_,Z,y,ns,sp,Z,RD.mono s4 _ pX,#[Z,λz hz=>by have:=bW.bd z hz;lia,bW.nz],by rw[bW.len];lia,λl3 y3 H6 zD nQ yV s6=>?_];have CM:=yV.length;rw[lM,aW,iy]at CM;erw[l3,Z,#[_,aD.of nQ],λD2 H7 n7=>?_];have nE:cx (jT rate ds os i)=true:=by rw[vB eo];erw[dU.mpr λd hd=>by let(k,_,rfl):=cJ.mp hd;erw[Vm _ _]]
    have lE:(jT rate ds os i).length=aE ns:=by rw[vB eo,aW,iy]
    erw[vG (K:=K) (ds:=jT rate ds os i) _ (aD.of nQ) n7 (by rw[lE,CM]) ao nE ?_ ?_]
    ·intro q x dd H8 Q' ex Ak s8 hq
     have qz:q<aE ns:=by have:=(cK.mp ex).1;lia
     let(d3,e3,r3):=yV.get' q ex;rw[lM,bO,mQ qz]at e3;cases e3;rw[vB eo,bO,mQ qz]at Ak;cases Ak;erw[_,Z,_,Z,cy Z,λt H9 n9=>?_];erw[hq _ _ n9.same (fN (aU.of n9.at') (cG (bC _) (cG (RD.mono (s8.trans n9.same) _ r3) (cG (E5.go ((s6.trans s8).trans n9.same)).rd cW))))]
    ·intro H8 z8 s8 d8 r8
     have kL:=s4.trans (s6.trans s8);have Al:=kL _ _ dz;have l8:=r8.length;erw[D,D2,zs,z8,Z,Z,Al,d8,ao,?_];have tu:fm H8 (_L.upd H8 D (.lst (zs++z8))):=.iW Al;erw[λb o e=>?_,_,_,_,bZ,?_,Z]
     ·rw[aY (eM e nD)];erw[kL b o (s3 b o e)]
     ·exact(aI.t tu _ tn (aI.mono kL _ rz)).append (aI.t tu _ nE r8)
  ·rintro O H3 ⟨s3,zs,v1,v2,dz,rz,rfl⟩
   rw[lx,ll]at rz;erw[_,Z,k D zs H3 nD dz rz s3]
theorem a97(n:Nat)(v:V):(List.replicate n [v]).flatten=List.replicate n v:=by induction n with |zero=>rfl |succ n ih=>rw[u6,Eu,ih,u6];rfl
theorem Qt{H:Hp}{v:V}{q:Rat}(h:bJ H v q):∀n,aI K H (List.replicate n v) ((List.replicate n q).map cP) |0=>cW |n+1=>by rw[u6,u6,rE];erw[cG h.rd (Qt h n)]
inductive aem(vs:List V)(H:Hp)(Q:VK):Prop |mk (m:_)(iv:_)(rate:_)(rs:_)(r:_)(f:_)(j:_)(t:_)(ds:_)(os:_)(h0:vs=[m,iv,.int rate])(h1:RD K H m (fG rs r f j t))(h2:gH rs r f j t)(h3:RD K H iv (.tuple ds))(h4:cU rs.length ds os)(h5:ds.length<=30)(h6:10<=rate)(h7:rate<=200)(h8:∀l ys H',H l=none->H' l=some (.lst ys)->aI K H' ys ((la j rate os os.length++[ownF j rate os os.length]).map cP)->aF H H'->Q (.ref l) H')
def a0g:Sp:=λvs H Q _=>aem vs H Q
theorem NN:bf ["machine","items","rate","own","bounds","i","item"] ["machine","items","rate"] (aQ PX):=bo aG
theorem a4a(AA:All w K mg):bj P w K mg ay "bounds_between" 9 a0g:=by
 exists AA.aa9.has,NN,iB λ_ _ _=>rfl
 ·let(m,iv,rate,rs,r,f,j,t,ds,os,rfl,rm,aA,ri,row,hz,cg,cn,k):=h
  have nd:=NN.nd;erw[_,(az (pS 3 nd (pf (RM AA) hr (ak (pv 0) (ak (pv 1) (ak (pv 2) au))))) (az (pS 4 nd (dj au)) (az (gW fS Z (zf K Z false Z (AA.B.at "enumerate") (ak (pv 1) au)) (eu K rfl (n:=2) rfl (bV (aR 5 nd) (bV (aR 6 nd) eg))) (az (fP (iL K Z (pv 4) (ak (px K (pv 3) (pv 5)) au))) (aH (bI (cw (pf (oJ AA) hr (ak (pv 6) au))) (aH (fP (zi K Z (pv 4) (ak (aM a31 (dj (ak (pf (x6 AA) hr (ak (pv 6) (ak (pv 2) au))) au)) (aM j6 (pf (qf AA) hr (ak (pv 6) au)) aB)) au)))) bP)))) (aH (aO (aM (xP K Z) (pv 4) (dj (ak (px K (pv 3) (jk jf aB)) au)))))))),?_];have ll:=row.len;have lr:=aA.len;have iQ:sizeLine=16777216:=by decide
  erw[_,Z,_,Z,_,Z,m,iv,rate,rs,r,f,j,t,ds,os,Z,rm,aA,ri,row,ao,cg,cn,λl1 y1 H1 xh vE sj s1=>?_];have CN:=sj.length;rw[aW,ownL,aW,iy]at CN;have own:∀(c:Nat)(u:V)(H':Hp),c<=os.length->y1[c]? =some u->aF H1 H'->bJ H' u (ownF j rate os c):=by intro c u H' hc e t';let(d1,e1,r1):=sj.get' c e;rw[bO,ownL,bO,mQ ao]at e1;cases e1;exact(jI r1).go t'
  erw[cy Z,λD H2 n2=>?_];have nD:H D=none:=by cases e:H D with |none=>rfl |some o=>have:=s1 _ _ e;rw[n2.no]at this;cases this
  let(ia,xs,rfl,hi,eO):=ri.cu;have lx:=eO.length;have nob:∀i,cx ((la j rate os i).map cP)=true:=λi=>qh _;erw[_,Z,ia,Z,#[_,hi.go (s1.trans n2.same)],Ac (K:=K) (b:=false) (a:=ia) (xs:=xs) (λi O H3=>aF H1 H3/\∃zs v1 v2,H3 D=some (.lst zs)/\aI K H3 zs ((la j rate os i).map cP)/\O=[some m,some (.ref ia),some (.int rate),some (.ref l1),some (.ref D),v1,v2]) #[n2.same,[],none,none,n2.at',cW,Z] (λi O H3 _ h=>hi.go (s1.trans h.1)) ?_ ?_]
  ·rintro i y O H3 hy ⟨s3,zs,v1,v2,dz,rz,rfl⟩ T H4 n4
   erw[iC ?_];intro E2;have sP:i<xs.length:=(cK.mp hy).1;let(d,ed,rd):=eO.get' i hy;let(o,eo,it):=row.get ed;have fL:=s3.trans n4.same;have s4:=s1.trans fL;have mJ:=n4.same _ _ dz;have C5:=aI.mono n4.same _ rz;have yZ:=RD.mono s4 _ rd;have lz:=rz.length;rw[aW,qS row i ao]at lz;have tl:=(An (rate:=rate) row i ao).1;obtain⟨z0,jy⟩:∃z,y1[i]? =some z:=#[_,bL (show i<y1.length by lia)];have R0:=own i z0 H4 ao jy fL;have lZ:=fL _ _ vE;erw[T,_,Z,aU.of n4.at',Z,_,_,Z,_,_,Z,Z,?_];erw[_,Z,.inl #[Z,_,aD.of mJ],?_];erw[_,Z,_,Z,.inl #[l1,_,_,z0,Z,Z,aD.of lZ,cB ao (by simpa using jy),?_]];erw[D,zs,z0,Z,Z,mJ,ao,?_];have t5:fm H4 (_L.upd H4 D (.lst (zs++[z0]))):=.iW mJ;have mV:aF H1 (_L.upd H4 D (.lst (zs++[z0]))):=λb o e=>by rw[aY (eM e n2.no)];erw[fL b o e]
   have d5:(_L.upd H4 D (.lst (zs++[z0]))) D=some (.lst (zs++[z0])):=bZ;have r5:aI K (_L.upd H4 D (.lst (zs++[z0]))) (zs++[z0]) ((la j rate os i++[ownF j rate os i]).map cP):=by rw[fT];erw[aI.wz mJ C5 R0.rd (nob i) (pZ _)]
   generalize _L.upd H4 D (.lst (zs++[z0]))=H5 at t5 mV d5 r5⊢;have s5:=s1.trans mV;have FZ:=RD.mono s5 _ rd;erw[_,Z,y,d,o,Z,FZ,it,_,Z,?_];cases o with |none=>erw[aP #[mV,_,_,_,d5,?_,Z]];show aI K H5 _ ((la j rate os i++m5 j rate os i).map cP);rw[DQ eo];erw[r5] |some q=>
    let(ns,sp):=q;erw[bM ?_];have dG:=iP it;subst dG;let(bW,cO,dZ):=row.ok i ns sp eo;have mz:=qp bW;have mE:=bW.lead;erw[_,Z,.inl #[Z,_,aD.of d5],?_];erw[_,Z,_,Z,y,ns,sp,rate,Z,FZ,cO,dZ,cg,cn,λtv H6 Rt6 s6=>?_];erw[cy Z,λlt H7 n7=>?_];erw[_,Z,y,ns,sp,Z,RD.mono (s6.trans n7.same) _ FZ,bW.ne,by rw[bW.len];lia,λH8 s8=>?_];have d7:=s8 _ _ n7.at';have ek:((aE ns:Int)-1).toNat=aE ns-1:=by lia
    erw[_,_,Z,Z,lt,_,_,Z,Z,d7,ao,ao,by rw[ek];show 1*_<=_;lia,λlp nlp=>?_];rw[ek,a97];have n9:Nw H8 (_L.upd H8 lp (.lst (List.replicate (aE ns-1) tv))) lp (.lst (List.replicate (aE ns-1) tv)):=.of nlp;generalize _L.upd H8 lp (.lst (List.replicate (aE ns-1) tv))=H9 at n9⊢;have Fz:=s6.trans (n7.same.trans (s8.trans n9.same));have d9:=Fz _ _ d5;erw[D,lp,_,_,Z,Z,d9,n9.at',by rw[cv,List.length_replicate];show _+1+_<=_;lia,?_];have t9:fm H9 (_L.upd H9 D (.lst (zs++[z0]++List.replicate (aE ns-1) tv))):=.iW d9;erw[λb o e=>?_,_,_,_,bZ,?_,Z]
    ·rw[aY (eM e n2.no)];erw[Fz b o (mV b o e)]
    ·show aI K _ _ ((la j rate os i++m5 j rate os i).map cP)
     have eb:la j rate os i++m5 j rate os i=(la j rate os i++[ownF j rate os i])++List.replicate (aE ns-1) (topR rate sp):=by rw[AD eo];simp
     rw[eb,fT];exact(aI.t t9 _ (qh _) (aI.mono Fz _ r5)).append (aI.t t9 _ (qh _) (Qt (Rt6.go (n7.same.trans (s8.trans n9.same))) _))
  ·rintro O H3 ⟨s3,zs,v1,v2,dz,rz,rfl⟩
   rw[lx,ll]at rz;have lz:=rz.length;rw[aW,qS row _ (aV _)]at lz;have tl:=(An (rate:=rate) row _ (aV _)).1;obtain⟨z0,jy⟩:∃z,y1[os.length]? =some z:=#[_,bL (show os.length<y1.length by lia)];have R0:=own _ z0 H3 (aV _) jy s3;erw[_,Z,_,Z,1,Z,.inl #[l1,_,-1,z0,Z,Z,aD.of (s3 _ _ vE),AH (by rw[Kx,CN];erw[jy]),?_]];erw[cy Z,λl5 H4 n4=>?_];erw[D,l5,_,_,Z,Z,aD.of (n4.same _ _ dz),aD.of n4.at',by show _+1<=_;lia,λl6 H5 n5=>?_];have nl6:H l6=none:=by cases e:H l6 with |none=>rfl |some o=>have:=n4.same _ _ (s3 _ _ (s1 _ _ e));rw[n5.no]at this;cases this
   have FD:=n4.same.trans n5.same;erw[k l6 _ H5 nl6 n5.at' ?_ (s1.trans (s3.trans FD))];rw[fT];exact(aI.mono FD _ rz).append (cG (R0.go FD).rd cW)
end
section
def uF(sq:Nat->Option Rat):Nat->Option Rat |0=>none |k+1=>sq k
def nS(j rate:Int)(os:List Itm):List Rat:=la j rate os os.length++[ownF j rate os os.length]
def afk(ti:Int)(du e:ah):Option Rat->Prop |none=>e=du/\qV e |some q=>∃zs top,du=vC zs top/\e=mU ti zs q/\q<=top/\0<q/\Bd 1900 q/\Bd 2000 top/\zs.length<=1000
structure Ww(r f j ti rate:Int)(ds:List ah)(os:List Itm)(es:List ah)(sq:Nat->Option Rat):Prop where
 len:es.length=(ij rate ds os os.length).length
 ent:∀k e du,es[k]? =some e->(ij rate ds os os.length)[k]? =some du->afk ti du e (sq k)
 aaO:sq es.length=none
 meet:∀k b,(nS j rate os)[k]? =some b->CI r f b (uF sq k) (sq k)=true
theorem L8{ti:Int}{q:Rat}(h0:1<=ti):∀n:Nat,1<=n->gG ti q (n:Int)=true->∃T:Int,T<=n/\xW ti q T |0,h,_=>by lia |n+1,_,h=>by cases e:gG ti q (n:Int)with |false=>erw[((n+1:Nat):Int),dc _,ao,h,by rw[Int.natCast_add,Int.natCast_one,Int.add_sub_cancel];erw[e]] |true=>
 by_cases hn:1<=n
 ·let(T,h1,h2):=L8 h0 n hn e
  erw[T,ao,h2]
 ·have hn:n=0:=by lia
  subst hn;have e:=kF e;have hp:0<ti*ti*(q.den:Int):=jd (jd ao ao) (by have:=q.den_pos;lia);simp at e
  lia
theorem Yj(h1:1<=ti)(h2:ti<=100)(q0:0<q)(bq:Bd 2000 q):1<=me ti q/\(me ti q).natAbs<2^2400/\gG ti q (me ti q)=true/\gG ti q (me ti q-1)=false:=by
 have hn:=GO q0;have hd:=q.den_pos;have e:gG ti q ((ti.toNat*q.den:Nat):Int)=true:=by
  erw[cj ?_];have et:((ti.toNat*q.den:Nat):Int)=ti*(q.den:Int):=by rw[Int.natCast_mul,Int.toNat_of_nonneg ao]
  rw[et];have p1:0<=ti*ti*(q.den:Int):=gT (gT ao ao) ao;have:ti*(q.den:Int)*(ti*(q.den:Int))*q.num=(ti*ti*(q.den:Int))*((q.den:Int)*q.num):=by simp only[Bq,KG,uc]
  rw[this];have p2:1<=(q.den:Int)*q.num:=by
   have:0<(q.den:Int)*q.num:=jd ao hn
   lia
  have:=Ey p2 p1;rw[ua]at this;erw[this]
 let(T,hT,tc):=L8 h1 (ti.toNat*q.den) (Nat.mul_pos ao hd) e;have eT:=L4 (Ez hn) tc;rw[eT];erw[tc.1,?_,tc.2.1,tc.2.2];have b1:ti.toNat*q.den<128*2^2000:=Nat.mul_lt_mul_of_lt_of_le ao (Bi bq.den) (Nat.two_pow_pos _);have b2:128*2^2000<=2^2400:=by rw[show 128=2^7 from Z,<-Nat.pow_add];erw[tY aw aw]
 have:=tc.1
 lia
inductive adO(vs:List V)(H:Hp)(Q:VK):Prop |mk (m:_)(iv:_)(rate:_)(tv:_)(rs:_)(r:_)(f:_)(j:_)(t:_)(ds:_)(os:_)(es:_)(sq:_)(h0:vs=[m,iv,.int rate,tv])(h1:RD K H m (fG rs r f j t))(h2:gH rs r f j t)(h3:RD K H iv (.tuple ds))(h4:cU rs.length ds os)(h5:ds.length<=30)(h6:10<=rate)(h7:rate<=200)(h8:RD K H tv (.list es))(h9:Ww r f j t rate ds os es sq)(qF:∀H',aF H H'->Q .bu H')
def LW:Sp:=λvs H Q _=>adO vs H Q
theorem ac6{rs:List Int}{r f j t rate:Int}{ds:List ah}{os:List Itm}(aA:gH rs r f j t)(row:cU rs.length ds os)(cg:10<=rate)(cn:rate<=200):∀b∈nS j rate os,Bd 1900 b:=by
 have hB:=_O.zm aA.j1.1 aA.j1.2 cg cn row.lO;have key:∀i,i<=os.length->∀b∈la j rate os i,Bd 1900 b:=by intro i;induction i with |zero=>intro _ b hb;exact(iu hb).elim |succ i ih=>
  intro hi b hb;rcases gy.mp hb with h1|h1
  ·erw[ih ao b h1]
  ·obtain⟨o,eo⟩:∃o,os[i]? =some o:=#[_,bL (show i<os.length by lia)]
   cases o with |none=>rw[DQ eo,cV]at h1;rw[h1];exact(hB i).mono aw |some q=>
    let(ns,sp):=q;let(bW,cO,dZ):=row.ok i ns sp eo;rw[AD eo]at h1;rcases cM.mp h1 with h1|h1
    ·rw[h1];exact(hB i).mono aw
    ·rw[(List.mem_replicate.mp h1).2];exact(_O.pP cO dZ cg cn).mono aw
 intro b hb;rcases gy.mp hb with h1|h1
 ·erw[key _ (aV _) b h1]
 ·rw[cV.mp h1];exact(hB _).mono aw
theorem N3:bf ["machine","items","rate","thing","due","bounds","ended","at","expected","why","begun"] ["machine","items","rate","thing"] (aQ P2):=bo aG
theorem a3Q(AA:All w K mg)(a7S:bj P w K mg ay "fault_of_entry" 5 M0):bj P w K mg ay "look" 10 LW:=by
 exists AA.a9K.has,N3,xV λ_ _ _ _=>rfl
 ·let(m,iv,rate,tv,rs,r,f,j,t,ds,os,es,sq,rfl,rm,aA,ri,row,hz,cg,cn,rt,tp,k):=h
  have nd:=N3.nd;erw[_,(az (bI (cR (cw (mj K AA.B (ak (pv 3) (ak (mi (x:="list") (v:=.ty "list") Z (AA.B.at "list") El rfl) au))))) (aH kn) bP) (az (pS 4 nd (pf (a48 AA) hr (ak (pv 1) (ak (pv 2) au)))) (az (pS 5 nd (pf (a4a AA) hr (ak (pv 0) (ak (pv 1) (ak (pv 2) au))))) (az (pS 6 nd gX) (az (gW fS Z (zf K Z true Z (AA.B.at "enumerate") (ak (pv 4) au)) (eu K rfl (n:=2) rfl (bV (aR 7 nd) (bV (aR 8 nd) eg))) (az (bI (bX (dN K Z hr.units) (pv 7) (fW K AA.B (ak (pv 3) au)) (bQ _)) (aH kn) bP) (az (pS 9 nd (pf a7S hr (ak (pv 0) (ak (pv 8) (ak (px K (pv 3) (pv 7)) au))))) (az (bI (bX wU (pv 9) gX (bQ _)) (aH kn) bP) (az (pS 10 nd (pf (a3q AA) hr (ak (px K (pv 3) (pv 7)) au))) (az (bI (cR (cw (pf (RX AA) hr (ak (pv 0) (ak (px K (pv 5) (pv 7)) (ak (pv 6) (ak (pv 10) au))))))) (aH kn) bP) (aH (pS 6 nd (pv 10))))))))) (az (bI (bX Ci (fW K AA.B (ak (pv 3) au)) (fW K AA.B (ak (pv 4) au)) (bQ _)) (aH kn) bP) (aH (bI (cR (cw (pf (RX AA) hr (ak (pv 0) (ak (px K (pv 5) (jk jf aB)) (ak (pv 6) (ak gX au))))))) (aH kn) bP)))))))),?_];have ll:=row.len;have lr:=aA.len;have bdb:=ac6 aA row cg cn;erw[_,Z,.inl #[_,_,"list",true,Z,rt.ty,aw,(by decide:jg "list" "list"=true),_,Z,aP ?_]];erw[_,Z,_,Z,iv,rate,rs.length,ds,os,Z,ri,row,ao,hz,cg,cn,λlD yD H1 nD dD rD s1=>?_];erw[_,Z,_,Z,_,Z,m,iv,rate,rs,r,f,j,t,ds,os,Z,RD.mono s1 _ rm,aA,RD.mono s1 _ ri,row,hz,cg,cn,λlB yB H2 nB dB rB s2=>?_];have fM:=s1.trans s2;let(ta,xt,rfl,ht,sH):=rt.lst_inv;have lxt:=sH.length;have lyD:=rD.length;have CL:=rB.length;have Hx:(nS j rate os).length=(ij rate ds os os.length).length+1:=by unfold nS;rw[cv,qS row _ (aV _)];rfl
  rw[aW]at CL;have CL:yB.length=(ij rate ds os os.length).length+1:=by rw[CL];erw[Hx]
  have dl:=(An (rate:=rate) row _ (aV _)).1;have te:=tp.len;have bv:∀(c:Nat)(u:V)(H':Hp),yB[c]? =some u->aF H2 H'->∃b,(nS j rate os)[c]? =some b/\bJ H' u b/\Bd 1900 b:=by intro c u H' e sm;let(d1,e1,r1):=rB.get' c e;rw[bO]at e1;let(b,eb,rfl):=tX.mp e1;erw[b,eb,(jI r1).go sm,bdb b (fz eb)]
  have obd:∀c,c<es.length->E6 1900 (sq c):=λc hc=>by obtain⟨e,ee⟩:∃e,es[c]? =some e:=#[_,bL hc];obtain⟨du,ed⟩:∃d,(ij rate ds os os.length)[c]? =some d:=#[_,bL ao];have:=tp.ent c e du ee ed;cases hs:sq c with |none=>trivial |some q=>rw[hs]at this;let(_,_,_,_,_,_,b,_):=this;erw[b]
  have Gn:∀c,c<=es.length->E6 1900 (uF sq c):=λc hc=>by cases c with |zero=>trivial |succ c=>erw[obd c ao]
  erw[_,Z,lD,Z,#[_,aD.of (s2 _ _ dD)],Ac (K:=K) (b:=true) (a:=lD) (xs:=yD) (λi O H3=>aF H2 H3/\∃ev v1 v2 v3 v4,tP H3 ev (uF sq i)/\O=[some m,some iv,some (.int rate),some (.ref ta),some (.ref lD),some (.ref lB),some ev,v1,v2,v3,v4]) #[aF.refl _,.bu,none,none,none,none,Z,Z] (λi O H3 _ h=>aD.of (h.1 _ _ (s2 _ _ dD))) ?_ ?_]
  ·rintro i y O H3 hy ⟨s3,ev,v1,v2,v3,v4,oe,rfl⟩ T H4 n4
   erw[iC ?_];intro E1;have hiy:i<yD.length:=(cK.mp hy).1;let(du,xH,Qs):=rD.get' i hy;have hie:i<es.length:=by lia
   obtain⟨e,ee⟩:∃e,es[i]? =some e:=#[_,bL hie];let(x,ex,rx):=sH.get i ee;have lL:=s3.trans n4.same;have uw:=fM.trans lL;have ent:=tp.ent i e du ee xH;have AG:∀{α:Type}{l:List α}{u:α},l[i]? =some u->fb l (i:Int)=some u:=λh=>cB ao (by simpa using h);obtain⟨ub,vt⟩:∃u,yB[i]? =some u:=#[_,bL ao];erw[T,_,Z,aU.of n4.at',Z,_,_,Z,_,_,Z,Z,?_];erw[_,Z,_,Z,ta,_,Z,.inl (ht.go uw),.inl #[_,_,Z,Z,_,Z,?_]];rw[dE (show¬((i:Int)=(xt.length:Int)) by lia)];erw[aP ?_];erw[_,Z,_,Z,_,Z,_,Z,.inl #[ta,_,_,x,Z,Z,ht.go uw,AG ex,m,y,x,rs,r,f,j,t,Z,RD.mono uw _ rm,aA,?_]];cases hs:sq i with |none=>rw[hs]at ent;let(rfl,fF):=ent;erw[.inl #[_,RD.mono (s2.trans lL) _ Qs,RD.mono uw _ rx,fF,λH5 s5=>?_]];erw[_,Z,Z,_,Z,aP ?_];have uv:=uw.trans s5;erw[_,Z,_,Z,.inl #[ta,_,_,x,Z,Z,ht.go uv,AG ex,x,Z,.inl #[_,RD.mono uv _ rx,fF,?_]]];let(b,eb,Rb,bb):=bv i ub H5 vt (lL.trans s5);have mt:=tp.meet i b eb;rw[hs]at mt;erw[_,Z,_,Z,_,Z,.inl #[lB,_,_,ub,Z,Z,aD.of ((lL.trans s5) _ _ dB),AG vt,_,Z,_,Z,m,ub,ev,.bu,rs,r,f,j,t,b,uF sq i,none,Z,RD.mono uv _ rm,aA,Rb,bb,oe.go (n4.same.trans s5),Gn i ao,Z,trivial,λH6 s6=>?_]];rw[mt];erw[_,Z,aP #[_,Z,(lL.trans s5).trans s6,.bu,_,_,_,_,by show tP H6 .bu (sq i);rw[hs];rfl,Z]] |some q=>rw[hs]at ent;let(zs,top,rfl,rfl,qt,q0,bq,bt,lz):=ent;let(k1,k2,k3,k4):=Yj (ti:=t) aA.t1.1 aA.t1.2 q0 (bq.mono aw);erw[.inr #[zs,top,me t q,q,RD.mono (s2.trans lL) _ Qs,RD.mono uw _ rx,lz,bt,bq.mono aw,q0,k1,k2,k3,k4,λH5 s5=>?_]];rw[bc (Ej.mpr qt)];erw[_,Z,Z,_,Z,aP ?_];have uv:=uw.trans s5;erw[_,Z,_,Z,.inl #[ta,_,_,x,Z,Z,ht.go uv,AG ex,x,Z,.inr #[zs,_,q,RD.mono uv _ rx,λgv Rg=>?_]]];let(b,eb,Rb,bb):=bv i ub H5 vt (lL.trans s5);have mt:=tp.meet i b eb;rw[hs]at mt;erw[_,Z,_,Z,_,Z,.inl #[lB,_,_,ub,Z,Z,aD.of ((lL.trans s5) _ _ dB),AG vt,_,Z,_,Z,m,ub,ev,gv,rs,r,f,j,t,b,uF sq i,some q,Z,RD.mono uv _ rm,aA,Rb,bb,oe.go (n4.same.trans s5),Gn i ao,Rg,bq,λH6 s6=>?_]];rw[mt];erw[_,Z,aP #[_,Z,(lL.trans s5).trans s6,gv,_,_,_,_,by show tP H6 gv (sq i);rw[hs];erw[bJ.go Rg s6],Z]]
  ·rintro O H3 ⟨s3,ev,v1,v2,v3,v4,oe,rfl⟩
   have FE:=fM.trans s3;have d3:=s3 _ _ (s2 _ _ dD);erw[_,Z,ta,_,Z,.inl (ht.go FE),_,Z,lD,_,Z,.inl (aD.of d3),_,_,Z,Z,_,Z,?_];rw[dE (show¬((xt.length:Int)>(yD.length:Int)) by lia)];erw[aP ?_];obtain⟨ub,vt⟩:∃u,yB[yD.length]? =some u:=#[_,bL ao];let(b,eb,Rb,bb):=bv _ ub H3 vt s3;have mt:=tp.meet _ b eb;have e1:yD.length=es.length:=by lia
   rw[e1,tp.aaO]at mt;erw[_,Z,_,Z,1,Z,.inl #[lB,_,-1,ub,Z,Z,aD.of (s3 _ _ dB),AH (by rw[Kx,CL,<-lyD];erw[vt]),_,Z,m,ub,ev,.bu,rs,r,f,j,t,b,uF sq es.length,none,Z,RD.mono FE _ rm,aA,Rb,bb,by rw[<-e1];erw[oe],Gn _ (aV _),Z,trivial,λH4 s4=>?_]];rw[mt];erw[_,Z,aP (k H4 (FE.trans s4))]
end
section
theorem tF{r f j ti rate:Int}{ds:List ah}{os:List Itm}{i:Nat}{ns:List Int}{sp:Int}(h:os[i]? =some (some (ns,sp))):fR r f j ti rate ds os i=j8 r f ti ns (topR rate sp) (cH r f j rate os i) (cH r f j rate os (i+1)):=by unfold fR;rw[h]
theorem xF{r f j ti rate:Int}{ds:List ah}{os:List Itm}{i:Nat}{d:ah}(h:os[i]? =some none)(hd:ds[i]? =some d):fR r f j ti rate ds os i=[d]:=by unfold fR;rw[h,Ky,hd];rfl
theorem EL{n:Nat}{r f j ti rate:Int}{ds:List ah}{os:List Itm}(row:cU n ds os):∀i,i<=os.length->cx (fC r f j ti rate ds os i)=true
 |0,_=>rfl |i+1,h=>by
  have ll:=row.len;erw[dU.mpr λd hd=>?_];rcases gy.mp hd with h1|h1
  ·erw[dU.mp (EL row i ao) d h1]
  ·obtain⟨o,eo⟩:∃o,os[i]? =some o:=#[_,bL (show i<os.length by lia)]
   cases o with |none=>obtain⟨d',ed⟩:∃d',ds[i]? =some d':=#[_,bL (show i<ds.length by lia)];rw[xF eo ed,cV]at h1;subst h1;erw[dU.mp row.no _ (fz ed)] |some q=>let(ns,sp):=q;rw[tF eo]at h1;erw[dU.mp (Hs _ _ _ _ _ _ _) d h1]
theorem L9{n:Nat}{r f j ti rate:Int}{ds:List ah}{os:List Itm}(row:cU n ds os):∀i,i<=os.length->(fC r f j ti rate ds os i).length<=100*i |0,_=>aV _ |i+1,h=>by have ll:=row.len;have ih:=L9 (r:=r) (f:=f) (j:=j) (ti:=ti) (rate:=rate) row i ao;show(fC r f j ti rate ds os i++fR r f j ti rate ds os i).length<=_;rw[cv];obtain⟨o,eo⟩:∃o,os[i]? =some o:=#[_,bL (show i<os.length by lia)];cases o with
 |none=>
  obtain⟨d',ed⟩:∃d',ds[i]? =some d':=#[_,bL (show i<ds.length by lia)];rw[xF eo ed];show _+1<=_
  lia |some q=>
  let(ns,sp):=q;let(bW,_,_):=row.ok i ns sp eo;have:=qp bW;rw[tF eo,j8,aW,iy]
  lia
inductive ad4(vs:List V)(H:Hp)(Q:VK):Prop |mk (m:_)(iv:_)(rate:_)(rs:_)(r:_)(f:_)(j:_)(t:_)(ds:_)(os:_)(h0:vs=[m,iv,.int rate])(h1:RD K H m (fG rs r f j t))(h2:gH rs r f j t)(h3:RD K H iv (.tuple ds))(h4:cU rs.length ds os)(h5:ds.length<=30)(h6:10<=rate)(h7:rate<=200)(h8:∀l ys H',H l=none->H' l=some (.lst ys)->aI K H' ys (fC r f j t rate ds os os.length)->aF H H'->Q (.ref l) H')
def F7:Sp:=λvs H Q _=>ad4 vs H Q
theorem wO{rs:List Int}{r f j t rate:Int}{ds:List ah}{os:List Itm}(aA:gH rs r f j t)(row:cU rs.length ds os)(hz:ds.length<=30)(cg:10<=rate)(cn:rate<=200):∀i,i<=os.length->Bd 1700 (cH r f j rate os i):=λi hi=>by have ll:=row.len;have hB:=_O.zm aA.j1.1 aA.j1.2 cg cn row.lO;have hL:∀i m,leadF os i=some m->(2*r*(m:Int)).natAbs<2^24:=λi m e=>wu aA.r1.1 aA.r1.2 (xo row.lO e);have A5:∀i m,leadF os i=some m->(2*f*(m:Int)).natAbs<2^24:=λi m e=>wu aA.f1.1 aA.f1.2 (xo row.lO e);exact(IX (b:=900) (λi hi=>(DZ hB hL i).mono ao) A5 i hi).mono ao
theorem Mp:bf ["machine","items","rate","plan","tape","i","item","squares"] ["machine","items","rate"] (aQ O4):=bo aG
theorem a3k(AA:All w K mg)(Io:bj P w K mg ay "step_entry" 3 C0):bj P w K mg ay "tape_of" 10 F7:=by
 exists AA.a9n.has,Mp,iB λ_ _ _=>rfl
 ·let(m,iv,rate,rs,r,f,j,t,ds,os,rfl,rm,aA,ri,row,hz,cg,cn,k):=h
  have nd:=Mp.nd;erw[_,(az (pS 3 nd (pf (GG AA) hr (ak (pv 0) (ak (pv 1) (ak (pv 2) au))))) (az (pS 4 nd (dj au)) (az (gW fS Z (zf K Z false Z (AA.B.at "enumerate") (ak (pv 1) au)) (eu K rfl (n:=2) rfl (bV (aR 5 nd) (bV (aR 6 nd) eg))) (aH (bI (cw (pf (oJ AA) hr (ak (pv 6) au))) (az (pS 7 nd (pf (a3O AA) hr (ak (pv 0) (ak (pv 6) (ak (px K (pv 3) (pv 5)) (ak (px K (pv 3) (aM dR (pv 5) aB)) (ak (pv 2) au))))))) (aH (fP (zi K Z (pv 4) (ak (eQ (N:=["row","square","machine"]) (js:=[none,none,some 0]) Z Z Z (oC K Z true true Z (AA.B.at "zip") (ak (pf (GF AA) hr (ak (pv 6) au)) (ak (pv 7) au))) (λ_ _ _ _ _=>(eu K rfl (n:=2) rfl (bV (aR 0 (show List.Nodup (["row","square","machine"]:List Str) by decide+kernel)) (bV (aR 1 (show List.Nodup (["row","square","machine"]:List Str) by decide+kernel)) eg)))) (λ_ _ _ _ _=>e9) (λ_ _ _ _ _=>(pf Io hr (ak (pv 2) (ak (pv 0) (ak (pv 1) au)))))) au))))) (aH (fP (iL K Z (pv 4) (ak (pv 6) au))))))) (aH (aO (pv 4)))))),?_];have ll:=row.len;have lr:=aA.len;have iz:=aA.r1;have ie:=aA.f1;have PB:=wO aA row hz cg cn;have PN:∀i,i<=os.length->0<=cH r f j rate os i:=C9 aL aL (λi _=>_O.zk j rate os i);erw[_,Z,_,Z,_,Z,m,iv,rate,rs,r,f,j,t,ds,os,Z,rm,aA,ri,row,hz,cg,cn,λl1 y1 H1 xh vE sj s1=>?_];have CN:=sj.length;rw[aW,a2l]at CN;erw[cy Z,λD H2 n2=>?_];have nD:H D=none:=by cases e:H D with |none=>rfl |some o=>have:=s1 _ _ e;rw[n2.no]at this;cases this
  let(ia,xs,rfl,hi,eO):=ri.cu;have lx:=eO.length;erw[_,Z,ia,Z,#[_,hi.go (s1.trans n2.same)],Ac (K:=K) (b:=false) (a:=ia) (xs:=xs) (λi O H3=>aF H1 H3/\∃zs v1 v2 v3,H3 D=some (.lst zs)/\aI K H3 zs (fC r f j t rate ds os i)/\O=[some m,some (.ref ia),some (.int rate),some (.ref l1),some (.ref D),v1,v2,v3]) #[n2.same,[],none,none,none,n2.at',cW,Z] (λi O H3 _ h=>hi.go (s1.trans h.1)) ?_ ?_]
  ·rintro i y O H3 hy ⟨s3,zs,v1,v2,v3,dz,rz,rfl⟩ T H4 n4
   erw[iC ?_];intro E1;have sP:i<xs.length:=(cK.mp hy).1;let(d,ed,rd):=eO.get' i hy;let(o,eo,it):=row.get ed;have fL:=s3.trans n4.same;have s4:=s1.trans fL;have mJ:=n4.same _ _ dz;have C5:=aI.mono n4.same _ rz;have yZ:=RD.mono s4 _ rd;have tn:=EL (r:=r) (f:=f) (j:=j) (ti:=t) (rate:=rate) row i aL;have tl:=L9 (r:=r) (f:=f) (j:=j) (ti:=t) (rate:=rate) row i aL;have lz:=rz.length;have iQ:sizeLine=16777216:=by decide
   erw[T,_,Z,aU.of n4.at',Z,_,_,Z,_,_,Z,Z,?_];erw[_,Z,y,d,o,Z,yZ,it,_,Z,?_];cases o with
   |none=>
    erw[aP ?_];erw[_,Z,.inl #[Z,_,aD.of mJ],_,Z,D,zs,_,Z,Z,mJ,aL,?_];erw[λb o e=>?_,_,_,_,_,bZ,?_,Z]
    ·rw[aY (eM e n2.no)];erw[fL b o e]
    ·show aI K _ _ (fC r f j t rate ds os i++fR r f j t rate ds os i)
     rw[xF eo ed];erw[aI.wz mJ C5 yZ tn it.no] |some q=>
    let(ns,sp):=q;erw[bM ?_];have dG:=iP it;subst dG;let(bW,cO,dZ):=row.ok i ns sp eo;have mz:=qp bW;have lZ:=fL _ _ vE;have rl4:=aI.mono fL _ sj;obtain⟨z0,jy⟩:∃z,y1[i]? =some z:=#[_,bL (show i<y1.length by omega)];obtain⟨z1,nN⟩:∃z,y1[i+1]? =some z:=#[_,bL (show i+1<y1.length by omega)];have tG:((i:Int)+1).toNat=i+1:=by omega
    have vO:fb y1 (i:Int)=some z0:=cB aL (by simpa using jy);have vN:fb y1 ((i:Int)+1)=some z1:=cB aL (by rw[tG];erw[nN]);have rat:∀(c:Nat)(u:V),c<=os.length->y1[c]? =some u->bJ H4 u (cH r f j rate os c):=by intro c u hc e;let(d1,e1,r1):=rl4.get' c e;rw[bO]at e1;have e2:(kN r f j rate os)[c]? =some (cH r f j rate os c):=lQ _ hc;rw[e2]at e1;cases e1;erw[jI r1]
    have R0:=rat i z0 aL jy;have R1:=rat (i+1) z1 aL nN;have P0:=PN i aL;have P1:=PN (i+1) aL;erw[_,Z,_,Z,_,Z,_,Z,.inl #[l1,_,_,_,Z,Z,aD.of lZ,vO,?_]];erw[_,Z,_,Z,_,_,Z,Z,.inl #[l1,_,_,_,Z,Z,aD.of lZ,vN,?_]];erw[_,Z,m,y,z0,z1,rate,rs,r,f,j,t,ns,sp,_,_,Z,RD.mono s4 _ rm,aA,yZ,bW,cO,dZ,R0,R1,(PB i aL).mono aw,(PB (i+1) aL).mono aw,cg,cn,λl2 y2 H5 uR xK yW s5=>?_];have dz5:=s5 _ _ mJ;erw[_,Z,.inl #[Z,_,aD.of dz5],?_];erw[_,Z,y,ns,sp,Z,RD.mono s5 _ yZ,#[Z,λz hz=>by have:=bW.bd z hz;omega,bW.nz],by rw[bW.len];omega,λl3 y3 H6 zD nQ yV s6=>?_];have Vr:=s6 _ _ xK;have a1B:=aI.mono s6 _ yW;have SK:=yW.length;rw[aW,He,aW,iy]at SK;have CM:=yV.length;rw[lM,aW,iy]at CM;erw[_,Z,l3,l2,Z,#[_,aD.of nQ],#[_,aD.of Vr],λD2 H7 n7=>?_];have wF:=s5.trans s6;erw[vF (K:=K) (b1:=true) (b2:=true) (xs:=y3) (ys:=y2) (ds:=j8 r f t ns (topR rate sp) (cH r f j rate os i) (cH r f j rate os (i+1))) _ Z (aD.of nQ) (aD.of Vr) n7 (by rw[j8,aW,iy];omega) (by rw[j8,aW,iy];omega) (Hs _ _ _ _ _ _ _) ?_ ?_]
    ·intro q x y' dd H8 Q' ex ey Ak s8 hq
     have qz:q<aE ns:=by have:=(cK.mp ex).1;omega
     let(d3,e3,r3):=yV.get' q ex;let(d2,e2,r2):=a1B.get' q ey;rw[lM,bO,mQ qz]at e3;cases e3;rw[He,bO,bO,mQ qz]at e2;cases e2;rw[j8,bO,mQ qz]at Ak;cases Ak;have Up:=FU iz.1 iz.2 qz mz;have Uo:=IY ie.1 ie.2 qz mz;have bm:Bd 2000 (gP r f (aE ns) (topR rate sp) (cH r f j rate os i) (cH r f j rate os (i+1)) q):=qk (qk ((jW (PB i aL) (by rw[jK];omega)).mono aw) ((_O.pP cO dZ cg cn).mono aw)) ((jW (PB (i+1) aL) (by rw[jK];omega)).mono aw);erw[_,Z,_,Z,_,Z,m,x,y',rs,r,f,j,t,gd ns q,_,Z,RD.mono (s4.trans (wF.trans s8)) _ rm,aA,RD.mono s8 _ r3,jI (RD.mono s8 _ r2),bm,Sz iz.1 ie.1 qz (BL cO cg) P0 P1,λv H9 rv s9=>hq v H9 s9 rv]
    ·intro H8 z8 s8 d8 r8
     have kL:=wF.trans s8;have Al:=kL _ _ mJ;have l8:=r8.length;rw[j8,aW,iy]at l8;erw[D,D2,zs,z8,Z,Z,Al,d8,aL,?_];have tu:fm H8 (_L.upd H8 D (.lst (zs++z8))):=.iW Al;erw[λb o e=>?_,_,_,_,_,bZ,?_,Z]
     ·rw[aY (eM e n2.no)];erw[kL b o (fL b o e)]
     ·show aI K _ _ (fC r f j t rate ds os i++fR r f j t rate ds os i)
      rw[tF eo];exact(aI.t tu _ tn (aI.mono kL _ C5)).append (aI.t tu _ (Hs _ _ _ _ _ _ _) r8)
  ·rintro O H3 ⟨s3,zs,v1,v2,v3,dz,rz,rfl⟩
   have e:xs.length=os.length:=by omega
   rw[e]at rz;erw[_,Z,k D zs H3 nD dz rz (s1.trans s3)]
end
end _a
namespace _a
open PySem PySem.Spec PyProof.Rows _L _b _l _W
section
end
end _a
namespace _a
open PySem PySem.Spec PyProof.Rows _L _b _l _C _P
open _O (topR cornO mnO betR atO ownF leadF ownL OkI OkIs)
section
inductive adA(vs:List V)(H:Hp)(Q:VK):Prop |mk (m:_)(iv:_)(rate:_)(rs:_)(r:_)(f:_)(j:_)(t:_)(ds:_)(os:_)(h0:vs=[m,iv,.int rate])(h1:RD K H m (fG rs r f j t))(h2:gH rs r f j t)(h3:RD K H iv (.list ds))(h4:cU rs.length ds os)(h5:ds.length<=100)(h6:10<=rate)(h7:rate<=200)(h8:∀l ys H',H l=none->H' l=some (.lst ys)->aI K H' ys ((ownL j rate os).map cP)->aF H H'->Q (.ref l) H')
def ZJ:Sp:=λvs H Q _=>adA vs H Q
theorem a3K(AA:All w K mg):bj P w K mg ay "own_bounds" 8 ZJ:=by
 let(aN,jw,kJ):=AA.vn;exists AA.UT.has,C3,iB λ_ _ _=>rfl
 ·let(m,iv,rate,rs,r,f,j,t,ds,os,rfl,rm,aA,ri,row,hz,cg,cn,k):=h
  have nd:=C3.nd;have rN:∀H',RD K H' (.ref aN) (cP 0):=λH'=>(xf (kJ H')).rd;erw[_,(az (bI (cR (z9 K Z (pv 1))) (aH (aO (dj (ak (dM (x:="NOUGHT") Z jw) au)))) bP) (az (C8 (i0:=3) nd Z (Or.inl Z) (N:=["one","other","machine","rate"]) (js:=[none,none,some 0,some 2]) Z Z Z (oC K Z true true Z (AA.B.at "zip") (ak (pv 1) (ak (zh (yO K rfl) (pv 1) (zb aB) zc) au))) (λ_ _ _ _ _=>(eu K rfl (n:=2) rfl (bV (aR 0 (show List.Nodup (["one","other","machine","rate"]:List Str) by decide+kernel)) (bV (aR 1 (show List.Nodup (["one","other","machine","rate"]:List Str) by decide+kernel)) eg)))) (λ_ _ _ _ _=>e9) (λ_ _ _ _ _=>(pf (RZ AA) hr (ak (pv 2) (ak (pv 0) (ak (pv 1) (ak (pv 3) au))))))) (aH (aO (aM (xP K Z) (aM (xP K Z) (dj (ak (dM (x:="NOUGHT") Z jw) au)) (pv 3)) (dj (ak (dM (x:="NOUGHT") Z jw) au))))))),?_];let(ia,xs,rfl,hi,eO):=ri.lst_inv;have lx:=eO.length;have ll:=row.len;erw[_,Z,_,.inl #[_,hi,Z],?_];cases hd:xs with
  |nil=>
   subst hd;erw[bM ?_];erw[cy Z,λl H1 n1=>?_];erw[k l [.ref aN] H1 n1.no n1.at' ?_ n1.same];have e:os=[]:=by
    have:os.length=0:=by rw[<-ll,<-lx];rfl
    erw[Kw.mp this]
   rw[e];erw[cG (rN H1) cW] |cons x0 xr=>
   erw[aP ?_];have cD:os≠[]:=by intro e;rw[e]at ll;rw[hd]at lx;simp at ll lx;rw[ll]at lx;cases lx
   have Ih:0<xs.length:=by rw[hd];simp
   erw[_,Z,_,Z,1,Z,ia,xs,Z,.inl #[hi,λtl H1 n1=>?_]];erw[ia,tl,Z,#[_,hi.go n1.same],#[_,aD.of n1.at'],λD H2 n2=>?_];have et:=n1.at';rw[Jx]at et;have zw:∀(i:Nat)(o:Itm),os[i]? =some o->∀(ns:List Int)(sp:Int),o=some (ns,sp)->ft rs.length 100 ns/\1<=sp/\sp<=20:=λi o e ns sp e'=>row.ok i ns sp (by rw[e,e']);have lr:=aA.len;erw[vF (K:=K) (b1:=true) (b2:=true) (xs:=xs) (ys:=xs.drop 1) (ds:=((List.range (os.length-1)).map (λi=>ownF j rate os (i+1))).map cP) _ Z (hi.go n1.same) (aD.of et) n2 (by rw[Bm];simp;lia) (by simp;lia) (qh _) ?_ ?_]
   ·intro i x y d H3 Q' ex ey ed s3 hq
    have gm:=n1.same.trans s3;rw[Xf]at ey;let(d1,e1,r1):=eO.get' i ex;let(d2,e2,r2):=eO.get' (1+i) ey;let(o1,Ag,i1):=row.get e1;let(o2,vw,i2):=row.get e2;have Dr:1+i<os.length:=(cK.mp vw).1;have dG:d=cP (betR j rate o1 o2):=by rw[bO,bO,bL (by simp;lia),Bn]at ed;have:=(eW ed).symm;rw[this];show cP (betR j rate (atO os i) (atO os (i+1)))=_;rw[_O.nU Ag,_O.nU (show os[i+1]? =some o2 by rw[Ks];erw[vw])]
    subst dG;erw[_,Z,_,Z,_,Z,_,Z,m,x,y,rate,rs,r,f,j,t,d1,d2,o1,o2,rs.length,Z,RD.mono gm _ rm,aA.j1.1,aA.j1.2,RD.mono gm _ r1,RD.mono gm _ r2,i1,i2,zw _ _ Ag,zw _ _ vw,ao,cg,cn,λv H4 rv s4=>?_];erw[hq _ _ s4 rv.rd]
   ·intro H3 zs s3 d3 r3
    have lz:=r3.length;simp at lz;erw[cy Z,λl1 H4 n4=>?_];erw[_,Z,l1,D,_,zs,Z,Z,aD.of n4.at',aD.of (n4.same _ _ d3),yN _ (by simp;lia),λl2 H5 n5=>?_];erw[cy Z,λl3 H6 n6=>?_];erw[l2,l3,_,_,Z,Z,aD.of (n6.same _ _ n5.at'),aD.of n6.at',yN _ (by simp;lia),λl H7 n7=>?_];have yT:aF H H6:=n1.same.trans (s3.trans (n4.same.trans (n5.same.trans n6.same)));have nl:H l=none:=by cases e:H l with |none=>rfl |some o=>have:=yT _ _ e;rw[n7.no]at this;cases this
    erw[k l _ H7 nl n7.at' ?_ (yT.trans n7.same)];rw[_O.R5 j rate cD,fT,fT];exact((cG (rN H7) cW).append (aI.mono (n4.same.trans (n5.same.trans (n6.same.trans n7.same))) _ r3)).append (cG (rN H7) cW)
inductive ae6(vs:List V)(H:Hp)(Q:VK):Prop |mk (m:_)(iv:_)(l:_)(ys:_)(rs:_)(r:_)(f:_)(j:_)(t:_)(ds:_)(os:_)(g:_)(h0:vs=[m,iv,.ref l])(h1:RD K H m (fG rs r f j t))(h2:gH rs r f j t)(h3:RD K H iv (.list ds))(h4:cU rs.length ds os)(h5:ds.length<=30)(h6:H l=some (.lst ys))(h7:aI K H ys ((lst os.length g).map cP))(h8:(∀i,i<=os.length->Bd 900 (g i)))(h9:∀l ys H',H l=none->H' l=some (.lst ys)->aI K H' ys ((lst os.length (fl os.length (leadF os) (2*f) g)).map cP)->aF H H'->Q (.ref l) H')
def a05:Sp:=λvs H Q _=>ae6 vs H Q
theorem a43(AA:All w K mg):bj P w K mg ay "kept_by_fall" 5 a05:=by
 erw[AA.UU.has C4 (λvs H Q E h=>?_) (λ_ _ _ _ _ _=>iB λ_ _ _=>rfl) (λfa aK A outer s H vs Q E hr h=>?_)]
 · let(m,iv,l,ys,rs,r,f,j,t,ds,os,g,rfl,_):=h
   rfl
 · let(m,iv,l,ys,rs,r,f,j,t,ds,os,g,rfl,rm,aA,ri,row,hz,dl,yX,bg,k):=h
   have nd:=C4.nd;erw[_,(az (pS 3 nd (px K (pv 0) aB)) (az (pS 4 nd (dF (x:="list") (CW K Z) Z (AA.B.at "list") El (ak (pv 2) au))) (az (gW fS Z (QO Z (AA.B.at "reversed") (ak (dF (x:="range") VV rfl (AA.B.at "range") PyProof.Rows.boot_range (ak (fW K AA.B (ak (pv 1) au)) au)) au)) (aR 5 nd) (aH (bI (cw (pf (oJ AA) hr (ak (px K (pv 1) (pv 5)) au))) (aH (fg (pf (uK AA) hr (ak (dj (ak (px K (pv 4) (pv 5)) (ak (pf (lN AA) hr (ak (px K (pv 4) (aM dR (pv 5) aB)) (ak (aM cN (aM cN aB (pv 3)) (pf (qf AA) hr (ak (px K (pv 1) (pv 5)) au))) au))) au))) au)) (uG (pv 4) (pv 5) set_list))) bP))) (aH (aO (pv 4)))))),?_];let(ma,mb,rfl,gF,jO):=oQ rm;let(ia,xs,rfl,hi,eO):=ri.lst_inv;have lx:=eO.length;have ll:=row.len;have lr:=aA.len;have hL:∀i m,leadF os i=some m->(2*f*(m:Int)).natAbs<2^24:=λi m e=>wu aA.f1.1 aA.f1.2 (xo row.lO e);have FB:∀i,i<=os.length->Bd 1700 (fl os.length (leadF os) (2*f) g i):=λi hi=>(IX bg hL i hi).mono ao;erw[_,Z,.inr #[ma,_,2,.int f,Z,Z,gF,Z,?_]];erw[_,Z,l,ys,Z,.inl (aD.of dl),λD H1 n1=>?_];erw[_,Z,ia,_,Z,.inl (hi.go n1.same),_,Z,λpr H2 n2=>?_];erw[pr,_,Z,n2.at',ao,ao,?_];have eN:((xs.length:Int)).toNat=os.length:=by lia
   rw[eN];erw[UP (Pv:=λi O H5=>aF H H5/\∃zs v1,H5 D=some (.lst zs)/\aI K H5 zs ((lst os.length λk=>if os.length<=k+i then fl os.length (leadF os) (2*f) g k else g k).map cP)/\O=[some (.ref ma),some (.ref ia),some (.ref l),some (.int f),some (.ref D),v1]) ?_ ?_ ?_]
   · erw[n1.same.trans n2.same,ys,none,n2.same _ _ n1.at',?_,Z]
     rw[qm (g:=λk=>if os.length<=k+0 then fl os.length (leadF os) (2*f) g k else g k) (g':=g)]
     ·erw[aI.mono (n1.same.trans n2.same) _ yX]
     · intro k hk
       show g k=if os.length<=k+0 then _ else g k;split
       · next h => have:k=os.length:=by lia
                   subst this;erw[qI.symm]
       ·rfl
   · rintro i O H3 hin ⟨s3,zs,v1,dz,rz,rfl⟩
     erw[iC ?_];intro E1;obtain⟨x,hx⟩:∃x,xs[os.length-1-i]? =some x:=#[_,bL (show os.length-1-i<xs.length by lia)];generalize hc:os.length-1-i=c at hx;have hZ:c<os.length:=by lia
     have eI:((os.length:Int)-1-(i:Int))=(c:Int):=by lia
     rw[eI];let(d,ed,rd):=eO.get' c hx;let(o,eo,it):=row.get ed;have lz:=rz.length;rw[aW,lP]at lz;have AF:fb xs (c:Int)=some x:=cB ao (by simpa using hx);erw[_,Z,_,Z,.inl #[ia,_,_,_,Z,Z,hi.go s3,AF,?_]];erw[x,d,o,Z,RD.mono s3 _ rd,it,_,Z,?_];cases o with
     |none=>
       erw[aP ?_];erw[s3,zs,_,dz,?_,Z];rw[qm (g:=λk=>if os.length<=k+(i+1)then fl os.length (leadF os) (2*f) g k else g k) (g':=λk=>if os.length<=k+i then fl os.length (leadF os) (2*f) g k else g k)]
       ·erw[rz]
       · intro k _
         show(if os.length<=k+i then _ else g k)=if os.length<=k+(i+1)then _ else g k;by_cases h1:os.length<=k+i
         ·rw[ba h1,ba ao]
         · rw[bc h1]
           by_cases h2:k=c
           ·subst h2;rw[ba ao,qH hZ (Hv eo)]
           ·rw[bc ao] |some q=>
       let(ns,sp):=q;erw[bM ?_];have dG:=iP it;subst dG;let(bW,_,_):=row.ok c ns sp eo;obtain⟨z1,nN⟩:∃z,zs[c+1]? =some z:=#[_,bL (show c+1<zs.length by lia)];obtain⟨z0,jy⟩:∃z,zs[c]? =some z:=#[_,bL (show c<zs.length by lia)];have R1:bJ H3 z1 (fl os.length (leadF os) (2*f) g (c+1)):=by
        let(d1,e1,r1):=rz.get' (c+1) nN;rw[bO,lQ _ (show c+1<=os.length by lia)]at e1;cases e1;have:os.length<=c+1+i:=by lia
        simp only[ba this]at r1;erw[jI r1]
       have R0:bJ H3 z0 (g c):=by
        let(d1,e1,r1):=rz.get' c jy;rw[bO,lQ _ (show c<=os.length by lia)]at e1;cases e1;have:¬os.length<=c+i:=by lia
        simp only[bc this]at r1;erw[jI r1]
       have tG:((c:Int)+1).toNat=c+1:=by lia
       have vN:fb zs ((c:Int)+1)=some z1:=cB ao (by rw[tG];erw[nN]);have vO:fb zs (c:Int)=some z0:=cB ao (by simpa using jy);erw[_,Z,_,Z,.inl #[D,_,_,_,Z,Z,aD.of dz,vO,?_]];erw[_,Z,_,Z,_,_,Z,Z,.inl #[D,_,_,_,Z,Z,aD.of dz,vN,?_]];erw[_,Z,_,_,Z,Z,.of_left (dC aw aw),?_];erw[_,Z,_,Z,.inl #[ia,_,_,_,Z,Z,hi.go s3,AF,?_]];erw[x,ns,sp,Z,RD.mono s3 _ rd,bW.ne,by rw[bW.len];lia,λH4 s4=>?_];have ie:=aA.f1;erw[_,_,Z,Z,.of_left (dC ao ao),?_];have us:=hL c _ (qr eo);erw[z1,_,_,Z,R1.go s4,(FB (c+1) ao).mono aw,us,λu H5 ru s5=>?_];erw[cy Z,λl2 H6 n6=>?_];have iY:=s4.trans (s5.trans n6.same);have AQ:=R0.go iY;have Ru:=ru.go n6.same;have B1:Bd 2000 (g c):=(bg _ ao).mono aw;have B2:Bd 2000 (fl os.length (leadF os) (2*f) g (c+1)+((2*f*(aE ns:Int):Int):Rat)):=(jW (FB (c+1) ao) us).mono aw;erw[l2,[z0,u],[_,_],Z,aD.of n6.at',#[AQ,B1,Ru,B2,trivial],by simp,λc' v q e1 e2 hq=>?_];have nA:mn (g c) (fl os.length (leadF os) (2*f) g (c+1)+((2*f*(aE ns:Int):Int):Rat))=q:=by
        erw[uU ?_ (hq _ (by simp)) (hq _ (by simp))]
        match c',e2 with |0,e2=>cases e2;erw[.inl rfl] |1,e2=>cases e2;erw[.inr rfl]
       have Rv:bJ H6 v q:=by match c',e1,e2 with |0,e1,e2=>cases e1;cases e2;erw[AQ] |1,e1,e2=>cases e1;cases e2;erw[Ru]
       have jS:=iY _ _ dz;have HU:jo zs.length (c:Int)=some c:=by unfold jo;rw[ba ao,ba ao];simp
       erw[_,Z,_,Z,D,zs,_,_,Z,Z,jS,HU,?_];erw[λb o e=>?_,_,_,bZ,?_,Z]
       ·rw[aY (eM e n1.no)];erw[iY b o (s3 b o e)]
       · have h:=aI.Fh (i:=c) jS (aI.mono iY _ rz) Rv.rd (qh _) (pZ _)
         rw[<-Es]at h;have e:(lst os.length λk=>if os.length<=k+i then fl os.length (leadF os) (2*f) g k else g k).set c q=lst os.length λk=>if os.length<=k+(i+1)then fl os.length (leadF os) (2*f) g k else g k:=by
          rw[<-Hj (g:=λk=>if os.length<=k+i then fl os.length (leadF os) (2*f) g k else g k) (g':=λk=>if os.length<=k+(i+1)then fl os.length (leadF os) (2*f) g k else g k) (i:=c)]
          · have:os.length<=c+(i+1):=by lia
            simp only[ba this];rw[nM hZ (qr eo),nA]
          · intro k _ hk
            show(if os.length<=k+(i+1)then _ else g k)=if os.length<=k+i then _ else g k;by_cases h1:os.length<=k+i
            ·rw[ba h1,ba ao]
            ·rw[bc h1,bc ao]
         rw[e]at h;erw[h]
   · rintro O H3 ⟨s3,zs,v1,dz,rz,rfl⟩
     rw[qm (g:=λk=>if os.length<=k+os.length then fl os.length (leadF os) (2*f) g k else g k) (g':=fl os.length (leadF os) (2*f) g) (λk hk=>by show _=if os.length<=k+os.length then _ else _;rw[ba ao])]at rz;erw[_,Z,k D zs H3 n1.no dz rz s3]
def FX(f j rate:Int)(os:List Itm):Rat:=fl os.length (leadF os) (2*f) (ownF j rate os) 1
inductive adl(vs:List V)(H:Hp)(Q:VK):Prop |mk (m:_)(iv:_)(rate:_)(rs:_)(r:_)(f:_)(j:_)(t:_)(ds:_)(os:_)(h0:vs=[m,iv,.int rate])(h1:RD K H m (fG rs r f j t))(h2:gH rs r f j t)(h3:RD K H iv (.list ds))(h4:cU rs.length ds os)(h5:ds.length<=30)(h6:1<=ds.length)(h7:10<=rate)(h8:rate<=200)(h9:∀v H',bJ H' v (FX f j rate os)->aF H H'->Q v H')
def ZA:Sp:=λvs H Q _=>adl vs H Q
theorem MJ:bf ["machine","items","rate"] ["machine","items","rate"] (aQ Om):=bo aG
theorem a3I(AA:All w K mg):bj P w K mg ay "reach_behind_first" 9 ZA:=by
 exists AA.a9y.has,MJ,iB λ_ _ _=>rfl
 ·let(m,iv,rate,rs,r,f,j,t,ds,os,rfl,rm,aA,ri,row,hz,h1,cg,cn,k):=h
  have nd:=MJ.nd;erw[_,(aH (aO (px K (pf (a43 AA) hr (ak (pv 0) (ak (pv 1) (ak (pf (a3K AA) hr (ak (pv 0) (ak (pv 1) (ak (pv 2) au)))) au)))) aB))),?_];have ll:=row.len;have hB:=_O.zm aA.j1.1 aA.j1.2 cg cn row.lO;erw[_,Z,_,Z,_,Z,_,Z,_,Z,m,iv,rate,rs,r,f,j,t,ds,os,Z,rm,aA,ri,row,ao,cg,cn,λl1 y1 H1 xh d1 r1 s1=>?_];erw[m,iv,l1,y1,rs,r,f,j,t,ds,os,ownF j rate os,Z,RD.mono s1 _ rm,aA,RD.mono s1 _ ri,row,hz,d1,r1,λi _=>(hB i).mono aw,λl2 y2 H2 uR d2 r2 s2=>?_];have ly:=r2.length;rw[aW,lP]at ly;obtain⟨z,ez⟩:∃z,y2[1]? =some z:=#[_,bL (show 1<y2.length by lia)];erw[.inl #[l2,_,1,z,Z,Z,aD.of d2,cB aw ez,?_]];let(d,ed,rd):=r2.get' 1 ez;rw[bO,lQ _ (show 1<=os.length by lia)]at ed;cases ed;erw[k z H2 (jI rd) (s1.trans s2)]
end
end _a
namespace _a
open PySem PySem.Spec PyProof.Rows _L _b _l _C _P _W _R
open _O (topR cornO mnO betR atO ownF leadF ownL OkI OkIs)
section
def gB(m b d q p r s k t:V):List (Str×V):=[("machine",m),("begun_at",b),("done",d),("queue",q),("pace",p),("rate_now",r),("side",s),("mark",k),("stopping",t)]
structure bw where
 rs:List Int
 r:Int
 f:Int
 j:Int
 t:Int
abbrev bw.D(M:bw):ah:=fG M.rs M.r M.f M.j M.t
abbrev bw.Ok(M:bw):Prop:=gH M.rs M.r M.f M.j M.t
structure bp where
 pl:List Int
 dn:Nat
 ds:List ah
 os:List Itm
 pc:Rat
 rate:Int
 side:Str
 mark:Str
 bG:_R.pH
def xX(H:Hp)(v:V):_R.pH->Prop |none=>v= .bu |some (sq,st,gn)=>∃a u,v= .ref a/\aU K H a [u,.int st,.int gn]/\bJ H u sq
structure dy(M:bw)(D:Nat)(S:bp):Prop where
 row:cU M.rs.length S.ds S.os
 rw:RowW S.ds S.os
 len:S.ds.length<=20
 cg:10<=S.rate
 cn:S.rate<=200
 dn:S.dn=0\/∃ns sp,S.os[0]? =some (some (ns,sp))/\S.dn<aE ns
 pl:S.pl.length=M.rs.length
 pd:Dd (D+10) S.pc
 pm:S.pc<=1600
 bG:tN D S.pc S.bG
 D1:64<=D
 D2:D<=1500
structure cT(C:Addr)(H:Hp)(a q:Addr)(M:bw)(S:bp):Prop where
 ob:∃dx mv bv cI tv,H a=some (.ins C dx (gB mv bv (.int S.dn) (.ref q) cI (.int S.rate) (.str S.side) (.str S.mark) tv))/\RD K H mv M.D/\RD K H bv (dh S.pl)/\bJ H cI S.pc/\xX H tv S.bG
 qu:∃ys,H q=some (.lst ys)/\aI K H ys S.ds
theorem bJ.v{v:V}(s:cQ H H')(h:bJ H v q):bJ H' v q:=by let(p,rfl,hp):=h;erw[p,Z,aU.v s hp]
theorem xX.v{v:V}{t:_R.pH}(s:cQ H H')(h:xX H v t):xX H' v t:=by cases t with |none=>erw[h] |some q=>let(sq,st,gn):=q;let(a,u,rfl,h1,h2):=h;erw[a,u,Z,aU.v s h1,bJ.v s h2]
theorem cT.go(h:cT C H a q M S)(hn:cx S.ds=true)(s:cQ H H')(ea:∀o,H a=some o->H' a=some o)(eq:∀o,H q=some o->H' q=some o):cT C H' a q M S:=by let((dx,mv,bv,cI,tv,e,r1,r2,r3,r4),ys,Af,rq):=h;erw[#[dx,mv,bv,cI,tv,ea _ e,RD.v s _ (kT _ _ _ _ _) r1,RD.v s _ (gp _) r2,r3.v s,r4.v s],ys,eq _ Af,aI.v s _ hn rq]
theorem cT.same(h:cT C H a q M S)(hn:cx S.ds=true)(s:aF H H'):cT C H' a q M S:=h.go hn s.v (λo e=>s _ _ e) (λo e=>s _ _ e)
theorem cT.ne(h:cT C H a q M S):a≠q:=by let((dx,mv,bv,cI,tv,e,_),ys,Af,_):=h;erw[zG e Af (by intro z;cases z)]
theorem cT.v(h:cT C H a q M S)(b:dI [a,q] H H'):cQ H H':=by
 let((dx,mv,bv,cI,tv,e,_),ys,Af,_):=h;erw[b.v λx hx o eo=>?_];simp only[cM,iu,kE]at hx;rcases hx with rfl|rfl
 ·rw[e]at eo;cases eo;trivial
 ·rw[Af]at eo;cases eo;trivial
inductive ad3(C:Addr)(G:bw->bp->Hp->VK->Prop)(vs:List V)(H:Hp)(Q:VK):Prop |mk (a:_)(q:_)(M:_)(D:_)(S:_)(h0:vs=[.ref a])(h1:cT C H a q M S)(h2:dy M D S)(h3:M.Ok)(h4:G M S H Q)
def jF(C:Addr)(G:bw->bp->Hp->VK->Prop):Sp:=λvs H Q _=>ad3 C G vs H Q
theorem a0A:bf ["self"] ["self"] (aQ Ov):=bo aG
def UI:bw->bp->Hp->VK->Prop:=λ_ S H Q=>∀v,bJ H v S.pc->Q v H
theorem a3x(RR:fJ K mg C D):dA P w K mg ay C "square" 1 (jF C UI):=by
 exists RR.a5y.has,a0A,dg λ_=>rfl
 ·let(a,q,M,D,S,rfl,R,ok,aA,k):=h
  let(dx,mv,bv,cI,tv,e,r1,r2,r3,r4):=R.ob;erw[_,(aH (aO (cS RR.tc.cl RR.tc.xj (pv 0)))),_,Z,a,dx,_,_,Z,e,Z,k cI r3]
theorem a0C:bf ["self"] ["self"] (aQ Oz):=bo aG
theorem a3z(RR:fJ K mg C D):dA P w K mg ay C "rate" 1 (jF C λ_ S H Q=>Q (.int S.rate) H):=by
 exists RR.a5z.has,a0C,dg λ_=>rfl
 ·let(a,q,M,D,S,rfl,R,ok,aA,k):=h
  let(dx,mv,bv,cI,tv,e,r1,r2,r3,r4):=R.ob;erw[_,(aH (aO (cS RR.tc.cl RR.tc.zI (pv 0)))),_,Z,a,dx,_,_,Z,e,Z,k]
theorem a0z:bf ["self"] ["self"] (aQ Ou):=bo aG
theorem a3w(RR:fJ K mg C D):dA P w K mg ay C "tool" 1 (jF C λ_ S H Q=>Q (.str S.side) H):=by
 exists RR.a5v.has,a0z,dg λ_=>rfl
 ·let(a,q,M,D,S,rfl,R,ok,aA,k):=h
  let(dx,mv,bv,cI,tv,e,r1,r2,r3,r4):=R.ob;erw[_,(aH (aO (cS RR.tc.cl RR.tc.GU (pv 0)))),_,Z,a,dx,_,_,Z,e,Z,k]
theorem a0E:bf ["self"] ["self"] (aQ OC):=bo aG
theorem a3D(RR:fJ K mg C D):dA P w K mg ay C "last_mark" 1 (jF C λ_ S H Q=>Q (.str S.mark) H):=by
 exists RR.a5D.has,a0E,dg λ_=>rfl
 ·let(a,q,M,D,S,rfl,R,ok,aA,k):=h
  let(dx,mv,bv,cI,tv,e,r1,r2,r3,r4):=R.ob;erw[_,(aH (aO (cS RR.tc.cl RR.tc.GW (pv 0)))),_,Z,a,dx,_,_,Z,e,Z,k]
theorem a0x:bf ["self"] ["self"] (aQ Oo):=bo aG
theorem a3u(AA:All w K mg)(RR:fJ K mg C D):dA P w K mg ay C "waiting" 1 (jF C λ_ S H Q=>∀l ys H',H l=none->H' l=some (.lst ys)->aI K H' ys S.ds->aF H H'->Q (.ref l) H'):=by
 exists RR.a5t.has,a0x,dg λ_=>rfl
 ·let(a,q,M,D,S,rfl,R,ok,aA,k):=h
  let(dx,mv,bv,cI,tv,e,r1,r2,r3,r4):=R.ob;let(ys,eq,rq):=R.qu;erw[_,(aH (aO (dF (x:="list") (CW K Z) Z (AA.B.at "list") El (ak (cS RR.tc.cl RR.tc.kS (pv 0)) au)))),_,Z,a,dx,_,_,Z,e,Z,q,ys,Z,.inl (aD.of eq),λl H1 n1=>?_];erw[k l ys H1 n1.no n1.at' (aI.mono n1.same _ rq) n1.same]
theorem a0H:bf ["self"] ["self"] (aQ OG):=bo aG
theorem RI(RR:fJ K mg C D):dA P w K mg ay C "is_held" 1 (jF C λ_ S H Q=>Q (.bl S.bG.isSome) H):=by
 exists RR.a5E.has,a0H,dg λ_=>rfl
 ·let(a,q,M,D,S,rfl,R,ok,aA,k):=h
  let(dx,mv,bv,cI,tv,e,r1,r2,r3,r4):=R.ob;erw[_,(aH (aO (jl wU (cS RR.tc.cl RR.tc.CG (pv 0)) gX (bQ _)))),_,Z,a,dx,_,_,Z,e,Z,?_];cases hs:S.bG with |none=>rw[hs]at r4 k;cases(show tv= .bu from r4);erw[Z,k] |some z=>rw[hs]at r4 k;let(sq,st,gn):=z;let(b,u,rfl,_):=r4;erw[Z,k]
theorem a1N(q:Rat):PyData.eqv (cP q) (cP 0)=decide (q=0):=by
 by_cases h:q=0
 ·rw[cj h];erw[eqR h]
 ·rw[dE h]
  cases e:PyData.eqv (cP q) (cP 0)with |false=>rfl |true=>
   exfalso;apply h;have e':(PyData.eqv (.int q.num) (.int (0:Rat).num)&&(PyData.eqv (.int (q.den:Int)) (.int ((0:Rat).den:Int))&&true))=true:=e;rw[Bt,fA]at e';let(a,b):=e';have h1:q.num=(0:Rat).num:=by simpa[PyData.eqv]using a
   have h2:(q.den:Int)=((0:Rat).den:Int):=by simpa[PyData.eqv]using b
   erw[Rat.ext h1 ao]
theorem a0B:bf ["self"] ["self"] (aQ Oy):=bo aG
theorem RE(AA:All w K mg)(RR:fJ K mg C D):dA P w K mg ay C "stands" 1 (jF C λ_ S H Q=>Q (.bl (decide (S.pc=0))) H):=by
 let(aN,jw,kJ):=AA.vn;exists RR.a5x.has,a0B,dg λ_=>rfl
 ·let(a,q,M,D,S,rfl,R,ok,aA,k):=h
  let(dx,mv,bv,cI,tv,e,r1,r2,r3,r4):=R.ob;erw[_,(aH (aO (jl (dN K Z hr.units) (cS RR.tc.cl RR.tc.xj (pv 0)) (dM (x:="NOUGHT") rfl jw) (bQ _)))),_,Z,a,dx,_,_,Z,e,Z,.inr #[_,_,r3.rd,(xf (kJ H)).rd,Z,Z,?_]];rw[a1N];erw[k]
theorem a0G:bf ["self"] ["self"] (aQ OF):=bo aG
theorem RH(AA:All w K mg)(RR:fJ K mg C D):dA P w K mg ay C "is_halted" 2 (jF C λ_ S H Q=>Q (.bl (S.bG.isSome&&decide (S.pc=0))) H):=by
 exists RR.a5F.has,a0G,dg λ_=>rfl
 ·let(a,q,M,D,S,rfl,R,ok,aA,k):=h
  let(dx,mv,bv,cI,tv,e,r1,r2,r3,r4):=R.ob;erw[_,(aH (aO (qd (jL (RI RR) RR.tc.cl (hr.mono aw) (pv 0)) (oE (jL (RE AA RR) RR.tc.cl (hr.mono aw) (pv 0)))))),_,Z,a,dx,_,Z,e,Z,a,q,M,D,S,Z,R,ok,aA,_,Z,?_];cases hs:S.bG.isSome with |false=>rw[hs]at k;erw[aP k] |true=>rw[hs]at k;erw[bM #[_,Z,a,dx,_,Z,e,Z,a,q,M,D,S,Z,R,ok,aA,?_]];erw[k]
end
section
def rW(ns:List Int)(k:Int):List Int:=ns.map λz=>gZ (k*z) (aE ns)
def jj(S:bp):List Int:=if S.dn=0 then S.pl else match S.os[0]? with |some (some (ns,_))=>gb S.pl (rW ns S.dn) |_=>S.pl
def kW(S:bp):List Int:=S.os.foldl g9 S.pl
theorem W6{n:Nat}{pl:List Int}{o:Itm}(h:pl.length=n)(ho:∀ns sp,o=some (ns,sp)->ns.length=n):(g9 pl o).length=n:=by cases o with |none=>erw[h] |some q=>let(ns,sp):=q;show(gb pl ns).length=n;rw[qU (by rw[ho ns sp Z,h])];erw[h]
theorem Dx{n:Nat}:∀(os:List Itm)(pl:List Int),pl.length=n->(∀o∈os,∀ns sp,o=some (ns,sp)->ns.length=n)->(os.foldl g9 pl).length=n |[],pl,h,_=>h |o::os,pl,h,ho=>Dx os (g9 pl o) (W6 h (ho o (.head _))) λx hx=>ho x (.tail _ hx)
theorem dy.ml{D:Nat}(h:dy M D S):∀o∈S.os,∀ns sp,o=some (ns,sp)->ns.length=M.rs.length:=λo ho ns sp e=>by let(i,hi):=oa.mp ho;rw[e]at hi;exact(h.row.ok i ns sp hi).1.len
theorem dy.first{D:Nat}(h:dy M D S)(hn:S.dn≠0):∃ns sp,S.os[0]? =some (some (ns,sp))/\S.dn<aE ns:=by
 rcases h.dn with e|e
 ·exact(hn e).elim
 ·erw[e]
theorem a0D:bf ["self"] ["self"] (aQ OA):=bo aG
theorem a3A(AA:All w K mg)(RR:fJ K mg C D):dA P w K mg ay C "place" 3 (jF C λ_ S H Q=>∀v H',RD K H' v (dh (jj S))->aF H H'->Q v H'):=by
 exists RR.a5A.has,a0D,dg λ_=>rfl
 ·let(a,q,M,D,S,rfl,R,ok,aA,k):=h
  let(dx,mv,bv,cI,tv,e,r1,r2,r3,r4):=R.ob;let(ys,eq,rq):=R.qu;erw[_,(az (bI (bX (dN K Z hr.units) (cS RR.tc.cl RR.tc.qj (pv 0)) aB (bQ _)) (aH (aO (cS RR.tc.cl RR.tc.xk (pv 0)))) bP) (aH (aO (pf (RP AA) hr (ak (cS RR.tc.cl RR.tc.xk (pv 0)) (ak (pf (GB AA) hr (ak (px K (cS RR.tc.cl RR.tc.kS (pv 0)) aB) (ak (cS RR.tc.cl RR.tc.qj (pv 0)) au))) au)))))),_,Z,a,dx,_,_,Z,e,Z,.inl #[_,_,Z,Z,_,Z,?_]];by_cases h0:S.dn=0
  ·rw[cj ao]
   have ep:jj S=S.pl:=by unfold jj;rw[ba h0]
   rw[ep]at k;erw[bM #[_,Z,a,dx,_,_,Z,e,Z,k bv H r2 (aF.refl _)]]
  ·rw[dE ao]
   erw[aP ?_];let(ns,sp,eo,hd):=ok.first h0;let(bW,cO,dZ):=ok.row.ok 0 ns sp eo;have ep:jj S=gb S.pl (rW ns S.dn):=by unfold jj;rw[bc h0,eo]
   rw[ep]at k;have ll:=ok.row.len;have A0:0<S.os.length:=(cK.mp eo).1;obtain⟨d,ed⟩:∃d,S.ds[0]? =some d:=#[_,bL (show 0<S.ds.length by lia)];let(y,ey,ry):=rq.get 0 ed;have it:=ok.row.it 0 d _ ed eo;have dG:=iP it;subst dG;have mz:=qp bW;have lr:=aA.len;erw[_,Z,a,dx,_,_,Z,e,Z,?_];erw[_,Z,a,dx,_,_,Z,e,Z,.inl #[q,_,0,y,Z,Z,aD.of eq,cB (dc 0) ey,?_]];erw[_,Z,a,dx,_,_,Z,e,Z,y,ns,sp,_,Z,ry,#[Z,λz hz=>by have:=bW.bd z hz;lia,bW.nz],by rw[bW.len];lia,ao,λu H1 ru s1=>?_];let(b,xs,rfl,hb,hx):=ru.cu;rw[hx.gj]at hb;erw[bv,b,S.pl,_,Z,RD.mono s1 _ r2,hb,by rw[aW,bW.len,ok.pl],by rw[ok.pl];lia,λv H2 rv s2=>k v H2 rv (s1.trans s2)]
theorem MM:bf ["self","here","item"] ["self"] (aQ OD):=bo aG
theorem RF(AA:All w K mg)(RR:fJ K mg C D):dA P w K mg ay C "leads_to" 3 (jF C λ_ S H Q=>∀v H',RD K H' v (dh (kW S))->aF H H'->Q v H'):=by
 exists RR.a5C.has,MM,dg λ_=>rfl
 ·let(a,q,M,D,S,rfl,R,ok,aA,k):=h
  let(dx,mv,bv,cI,tv,e,r1,r2,r3,r4):=R.ob;let(ys,eq,rq):=R.qu;have nd:=MM.nd;have ll:=ok.row.len;have ly:=rq.length;have lr:=aA.len;erw[_,(az (pS 1 nd (cS RR.tc.cl RR.tc.xk (pv 0))) (az (gW fS Z (mX K Z (cS RR.tc.cl RR.tc.kS (pv 0))) (aR 2 nd) (aH (pS 1 nd (pf (Cq AA) hr (ak (pv 1) (ak (pv 2) au)))))) (aH (aO (pv 1))))),_,Z,a,dx,_,_,Z,e,Z,_,Z,a,dx,_,_,Z,e,Z,q,Z,#[_,aD.of eq],?_];erw[UQ (K:=K) (a:=q) (xs:=ys) (λi O H1=>aF H H1/\∃hv v2,RD K H1 hv (dh ((S.os.take i).foldl g9 S.pl))/\O=[some (.ref a),some hv,v2]) #[aF.refl _,bv,none,r2,Z] (λi O H1 _ h=>aD.of (h.1 _ _ eq)) ?_ ?_]
  ·rintro i x O H1 hx ⟨s1,hv,v2,rh,rfl⟩
   erw[iC ?_];intro E1;let(d,ed,rd):=rq.get' i hx;let(o,eo,it):=ok.row.get ed;have lp:((S.os.take i).foldl g9 S.pl).length=M.rs.length:=Dx _ _ ok.pl λo ho=>ok.ml o (Bj ho);erw[_,Z,_,Z,hv,x,_,d,o,Z,rh,RD.mono s1 _ rd,it,λns sp e'=>by rw[lp];erw[ok.ml o (fz eo) ns sp e'],ao,λv H2 rv s2=>?_];erw[s1.trans s2,v,_,?_,Z];rw[lF,eo,u9];erw[rv]
  ·rintro O H1 ⟨s1,hv,v2,rh,rfl⟩
   rw[ly,ll,o9]at rh;erw[_,Z,k hv H1 rh s1]
structure Mv(a q:Addr)(H:Hp)(q':Addr)(H':Hp):Prop where
 but:dI [a,q] H H'
 nq:q'=q\/H q'=none
theorem a0F:bf ["self","machine","place"] ["self","machine","place"] (aQ OE):=bo aG
def oz(pl:List Int):bp:=#[pl,0,[],[],0,100,"up","",none]
inductive adq(C:Addr)(vs:List V)(H:Hp)(Q:VK):Prop |mk (a:_)(dx:_)(mv:_)(gM:_)(M:_)(pl:_)(h0:vs=[.ref a,mv,gM])(h1:H a=some (.ins C dx []))(h2:RD K H mv (bw.D M))(h3:RD K H gM (dh pl))(h4:∀q H',cT C H' a q M (oz pl)->H q=none->dI [a] H H'->Q .bu H')
def ZF(C:Addr):Sp:=λvs H Q _=>adq C vs H Q
theorem a3F(AA:All w K mg)(RR:fJ K mg C D):E9 P w K mg ay C "Runner" 1 (ZF C):=by
 let(aN,jw,kJ):=AA.vn;exists RR.init.has,a0F,iB λ_ _ _=>rfl
 ·let(a,dx,mv,gM,M,pl,rfl,e,rm,rp,k):=h
  erw[_,(az (iJ RR.tc.cl RR.tc.mq (pv 0) (pv 1)) (az (iJ RR.tc.cl RR.tc.xk (pv 0) (pv 2)) (az (iJ RR.tc.cl RR.tc.qj (pv 0) aB) (az (iJ RR.tc.cl RR.tc.kS (pv 0) (dj au)) (az (iJ RR.tc.cl RR.tc.xj (pv 0) (dM (x:="NOUGHT") rfl jw)) (az (iJ RR.tc.cl RR.tc.zI (pv 0) (dM (x:="FIRST_RATE") rfl AA.a8W)) (az (iJ RR.tc.cl RR.tc.GU (pv 0) bR) (az (iJ RR.tc.cl RR.tc.GW (pv 0) bR) (aH (iJ RR.tc.cl RR.tc.CG (pv 0) gX)))))))))),?_];erw[_,Z,_,Z,a,dx,_,Z,e,aw,?_];erw[_,Z,_,Z,a,dx,_,Z,bZ,by show 1<1000;decide,?_];erw[_,Z,a,dx,_,Z,bZ,by show 2<1000;decide,?_];erw[cy Z,λq H1 n1=>?_];have aq:a≠q:=λz=>by have:=n1.no;rw[<-z,bZ]at this;cases this
  have e1:=n1.same _ _ (bZ (a:=a));erw[_,Z,a,dx,_,Z,e1,by show 3<1000;decide,?_];erw[_,Z,a,dx,_,Z,bZ,by show 4<1000;decide,?_];erw[_,Z,a,dx,_,Z,bZ,by show 5<1000;decide,?_];erw[_,Z,a,dx,_,Z,bZ,by show 6<1000;decide,?_];erw[_,Z,a,dx,_,Z,bZ,by show 7<1000;decide,?_];erw[_,Z,a,dx,_,Z,bZ,by show 8<1000;decide,?_];have key:∀X:Hp,(∀b,b≠a->X b=H1 b)->Q .bu (_L.upd X a (.ins C dx (gB mv gM (.int 0) (.ref q) (.ref aN) (.int 100) (.str "up") (.str "") .bu))):=by
   intro X hX;have bt:dI [a] H (_L.upd X a (.ins C dx (gB mv gM (.int 0) (.ref q) (.ref aN) (.int 100) (.str "up") (.str "") .bu))):=λb o eb hb=>by have ha:b≠a:=λz=>hb (by rw[z];erw[.head _]);rw[aY ha,hX b ha];erw[n1.same _ _ (by rw[aY ha,aY ha,aY ha];erw[eb])]
   have sv:=bt.v λx hx o eo=>by rw[cV]at hx;rw[hx,e]at eo;cases eo;trivial
   erw[k q _ #[#[dx,mv,gM,.ref aN,.bu,bZ,RD.v sv _ (kT _ _ _ _ _) rm,RD.v sv _ (gp _) rp,xf (kJ _),Z],[],?_,cW] ?_ bt]
   ·rw[aY aq.symm,hX q aq.symm];erw[n1.at']
   ·have:=n1.no
    rw[aY aq.symm,aY aq.symm,aY aq.symm]at this;erw[this]
  erw[key _ (λb hb=>by rw[aY hb,aY hb,aY hb,aY hb,aY hb])]
theorem a1s{pl:List Int}(hp:pl.length=M.rs.length):dy M 64 (oz pl):=#[.nil,λi d e=>by simp[oz]at e,by simp[oz],(show(10:Int)<=100 by decide),(show(100:Int)<=200 by decide),.inl rfl,hp,#[(show(0:Rat)<=0 by decide),(show(0:Rat).den<2^74 by decide+kernel)],(show(0:Rat)<=1600 by decide+kernel),trivial,aw,aw]
theorem Cm{pl:List Int}(h:fo rs pl):Ib rs (dh pl)=true:=by show((pl.map PyData.int).length==rs.length&&(((pl.map PyData.int).zip rs).map λp=>dw 0 p.2 p.1).all id)=true;rw[aW,h.len,Ke,jD,gc];intro b hb;let((d,r),hm,rfl):=cJ.mp hb;let(i,hi):=oa.mp hm;let(e1,e2):=(Bo (z:=(d,r))).mp hi;rw[bO]at e1;cases e:pl[i]? with |none=>rw[e]at e1;cases e1 |some x=>rw[e]at e1;cases e1;let(a1,a2):=h.at' i x r e e2;show(decide (0<=x)&&decide (x<=r))=true;rw[cj a1,cj a2];rfl
def tq(S:bp)(d:ah)(o:Itm):bp:={S with ds:=S.ds++[d],os:=S.os++[o]}
theorem dy.vp{D:Nat}{d:ah}(h:dy M D S)(it:jB M.rs.length d o)(hl:S.ds.length<20):dy M D (tq S d o):=by
 have ll:=h.row.len;erw[h.row.snoc it.it it.ln,RowW.snoc h.rw ll it.ot,by show(S.ds++[d]).length<=20;rw[cv];show _+1<=20;lia,h.cg,h.cn,?_,h.pl,h.pd,h.pm,h.bG,h.D1,h.D2];rcases h.dn with e|⟨ns,sp,e,e2⟩
 ·erw[.inl e]
 ·erw[.inr #[ns,sp,?_,e2]]
  show(S.os++[o])[0]? =_;rw[oj (cK.mp e).1];erw[e]
theorem MN:bf ["self","item"] ["self","item"] (aQ OH):=bo aG
inductive ads(C:Addr)(vs:List V)(H:Hp)(Q:VK):Prop |mk (a:_)(q:_)(M:_)(D:_)(S:_)(v:_)(d:_)(o:_)(h0:vs=[.ref a,v])(h1:cT C H a q M S)(h2:dy M D S)(h3:M.Ok)(h4:RD K H v d)(h5:jB M.rs.length d o)(h6:fo M.rs (g9 (kW S) o))(h7:S.ds.length<20)(h8:∀H',cT C H' a q M (tq S d o)->dI [a,q] H H'->Q (.int (S.ds.length+1:Nat)) H')
def LP(C:Addr):Sp:=λvs H Q _=>ads C vs H Q
theorem RJ(AA:All w K mg)(RR:fJ K mg C D):dA P w K mg ay C "feed" 5 (LP C):=by
 exists RR.a5G.has,MN,eD λ_ _=>rfl
 ·let(a,q,M,D,S,v,d,o,rfl,R,ok,aA,rd,it,gD,hl,k):=h
  let(dx,mv,bv,cI,tv,e,r1,r2,r3,r4):=R.ob;let(ys,eq,rq):=R.qu;have nd:=MN.nd;have lr:=aA.len;have ly:=rq.length;let(i1,i2,i3):=it.is;erw[_,(az (bI (cR (cw (pf (GI AA) hr (ak (cS RR.tc.cl RR.tc.mq (pv 0)) (ak (pv 1) au))))) (aH kn) bP) (az (bI (cR (cw (pf (Cp AA) hr (ak (cS RR.tc.cl RR.tc.mq (pv 0)) (ak (pf (Cq AA) hr (ak (jL (RF AA RR) RR.tc.cl (hr.mono aw) (pv 0)) (ak (pv 1) au))) au))))) (aH kn) bP) (az (bI (bX Cj (fW K AA.B (ak (cS RR.tc.cl RR.tc.kS (pv 0)) au)) (dM (x:="MOST_WAITING") rfl AA.a8M) (bQ _)) (aH kn) bP) (az (fP (iL K Z (cS RR.tc.cl RR.tc.kS (pv 0)) (ak (pv 1) au))) (aH (aO (fW K AA.B (ak (cS RR.tc.cl RR.tc.kS (pv 0)) au)))))))),?_];erw[_,Z,a,dx,_,_,Z,e,Z,_,Z,mv,v,M.rs,_,d,Z,r1,rd,ao,i2,i3,λH1 s1=>#[_,Z,?_]];rw[i1];erw[aP ?_];have e1:=s1 _ _ e;have R1:=R.same ok.row.no s1;erw[_,Z,a,dx,_,_,Z,e1,Z,?_];erw[_,Z,a,dx,_,Z,e1,Z,a,q,M,D,S,Z,R1,ok,aA,λg H2 rg s2=>?_];have fM:=s1.trans s2;have gl:(kW S).length=M.rs.length:=Dx _ _ ok.pl ok.ml;erw[_,Z,g,v,kW S,d,o,Z,rg,RD.mono fM _ rd,it.it,λns sp e'=>by rw[gl];exact(it.ln ns sp e').1.len,ao,λu H3 ru s3=>?_];have gm:=fM.trans s3;erw[mv,u,M.rs,_,_,Z,RD.mono gm _ r1,ru,ao,λH4 s4=>#[_,Z,?_]];rw[Cm gD];erw[aP ?_];have fL:=gm.trans s4;have e4:=fL _ _ e;have eq4:=fL _ _ eq;erw[_,Z,a,dx,_,_,Z,e4,Z,q,_,Z,.inl (aD.of eq4),_,_,Z,Z,_,Z,?_];rw[show decide ((ys.length:Int)>=20)=false from dE ao];erw[aP ?_];have iQ:sizeLine=16777216:=by decide
  erw[_,Z,a,dx,_,_,Z,e4,Z,.inl #[Z,_,aD.of eq4],_,Z,q,ys,_,Z,Z,eq4,ao,?_];have aq:=R.ne;have tu:cQ H4 (_L.upd H4 q (.lst (ys++[v]))):=.upd eq4 trivial;have e5:(_L.upd H4 q (.lst (ys++[v]))) a=some (.ins C dx (gB mv bv (.int S.dn) (.ref q) cI (.int S.rate) (.str S.side) (.str S.mark) tv)):=by rw[aY aq];erw[e4]
  erw[_,Z,a,dx,_,_,Z,e5,Z,q,_,Z,.inl (aD.of bZ),?_];have sv:cQ H (_L.upd H4 q (.lst (ys++[v]))):=fL.v.trans tu;have el:((ys++[v]).length:Int)=((S.ds.length+1:Nat):Int):=by rw[cv,ly];rfl
  rw[el];erw[k _ #[#[dx,mv,bv,cI,tv,e5,RD.v sv _ (kT _ _ _ _ _) r1,RD.v sv _ (gp _) r2,r3.v sv,r4.v sv],_,bZ,?_] λb o' eb hb=>?_]
  ·exact(aI.v sv _ ok.row.no rq).append (cG (RD.v sv _ it.it.no rd) cW)
  ·have IG:b≠q:=λz=>hb (by rw[z];simp)
   rw[aY IG];erw[fL _ _ eb]
end
section
def kY(S:bp):bp:=match S.os with |o::os=>{S with pl:=g9 S.pl o,ds:=S.ds.tail,os:=os,dn:=0} |[]=>S
theorem cU.tail{n:Nat}{d:ah}{ds:List ah}{os:List Itm}(h:cU n (d::ds) (o::os)):cU n ds os:=#[by have:=h.len;simpa using this,λi d' o' e1 e2=>h.it (i+1) d' o' (by simpa using e1) (by simpa using e2),λi ns sp e=>h.ok (i+1) ns sp (by simpa using e)]
theorem RowW.tail{d:ah}{ds:List ah}{os:List Itm}(h:RowW (d::ds) (o::os)):RowW ds os:=λi d' e1 e2=>h (i+1) d' (by simpa using e1) (by simpa using e2)
structure lj(M:bw)(D:Nat)(S:bp):Prop where
 row:cU M.rs.length S.ds S.os
 rw:RowW S.ds S.os
 len:S.ds.length<=20
 cg:10<=S.rate
 cn:S.rate<=200
 pl:S.pl.length=M.rs.length
 pd:Dd (D+10) S.pc
 pm:S.pc<=1600
 bG:tN D S.pc S.bG
 D1:64<=D
 D2:D<=1500
theorem dy.raw{D:Nat}(h:dy M D S):lj M D S:=#[h.row,h.rw,h.len,h.cg,h.cn,h.pl,h.pd,h.pm,h.bG,h.D1,h.D2]
theorem lj.ok{M:bw}{D:Nat}{S:bp}(h:lj M D S)(hd:S.dn=0\/∃ns sp,S.os[0]? =some (some (ns,sp))/\S.dn<aE ns):dy M D S:=#[h.row,h.rw,h.len,h.cg,h.cn,hd,h.pl,h.pd,h.pm,h.bG,h.D1,h.D2]
theorem lj.end{D:Nat}(h:lj M D S)(hn:S.os≠[]):dy M D (kY S):=by let(pl,dn,ds,os,pc,rate,side,mark,bG):=S;cases os with |nil=>exact(hn Z).elim |cons o os=>have ll:=h.row.len;cases ds with |nil=>simp at ll |cons d ds=>
 erw[h.row.tail,h.rw.tail,?_,h.cg,h.cn,.inl Z,?_,h.pd,h.pm,h.bG,h.D1,h.D2]
 ·have:=h.len
  simp only[gz]at this;show ds.length<=20
  lia
 ·erw[W6 h.pl λns sp e=>(h.row.ok 0 ns sp (by rw[<-e];rfl)).1.len]
theorem abh(xs:List V):m4 xs (some 1) none=xs.drop 1:=Jx xs
theorem MQ:bf ["self"] ["self"] (aQ OK):=bo aG
inductive adv(C:Addr)(vs:List V)(H:Hp)(Q:VK):Prop |mk (a:_)(q:_)(M:_)(D:_)(S:_)(h0:vs=[.ref a])(h1:cT C H a q M S)(h2:lj M D S)(h3:M.Ok)(h4:S.os≠[])(h5:∀q' H',cT C H' a q' M (kY S)->H q'=none->dI [a] H H'->Q .bu H')
def ZG(C:Addr):Sp:=λvs H Q _=>adv C vs H Q
theorem RL(AA:All w K mg)(RR:fJ K mg C D):dA P w K mg ay C "end_first" 3 (ZG C):=by
 exists RR.a5J.has,MQ,dg λ_=>rfl
 ·let(a,q,M,D,S,rfl,R,ok,aA,hn,k):=h
  let(dx,mv,bv,cI,tv,e,r1,r2,r3,r4):=R.ob;let(ys,eq,rq):=R.qu;have aq:=R.ne;have nd:=MQ.nd;have lr:=aA.len;have ll:=ok.row.len;erw[_,(az (iJ RR.tc.cl RR.tc.xk (pv 0) (pf (Cq AA) hr (ak (cS RR.tc.cl RR.tc.xk (pv 0)) (ak (px K (cS RR.tc.cl RR.tc.kS (pv 0)) aB) au)))) (az (iJ RR.tc.cl RR.tc.kS (pv 0) (zh (yO K rfl) (cS RR.tc.cl RR.tc.kS (pv 0)) (zb aB) zc)) (aH (iJ RR.tc.cl RR.tc.qj (pv 0) aB)))),?_];let(pl,dn,ds,os,pc,rate,side,mark,bG):=S;cases os with |nil=>exact(hn Z).elim |cons o os=>cases ds with |nil=>simp at ll |cons d ds=>
   let(y,yr,rfl,ry,rr):=rq.cons_inv;have it:itR d o:=ok.row.it 0 d o Z rfl;have lp:pl.length=M.rs.length:=ok.pl;erw[_,Z,a,dx,_,_,Z,e,Z,?_];erw[_,Z,a,dx,_,_,Z,e,Z,.inl #[q,_,0,y,Z,Z,aD.of eq,cB (dc 0) Z,?_]];erw[bv,y,pl,d,o,Z,r2,ry,it,λns sp e'=>by rw[lp];exact(ok.row.ok 0 ns sp (by rw[<-e'];rfl)).1.len,ao,λu H1 ru s1=>?_];have e1:=s1 _ _ e;erw[_,Z,a,dx,_,Z,e1,by show 9<1000;decide,?_];have eq1:(_L.upd H1 a (.ins C dx (gB mv u (.int dn) (.ref q) cI (.int rate) (.str side) (.str mark) tv))) q=some (.lst (y::yr)):=by rw[aY aq.symm];erw[s1 _ _ eq]
   erw[_,Z,a,dx,_,_,Z,bZ,Z,_,Z,q,_,Z,.inl #[aD.of eq1,λq' H2 n2=>?_]];have e2:=n2.same _ _ (bZ (a:=a));erw[_,Z,a,dx,_,Z,e2,by show 9<1000;decide,?_];erw[_,Z,a,dx,_,Z,bZ,by show 9<1000;decide,?_];have JS:a≠q':=λz=>by have:=n2.no;rw[<-z,bZ]at this;cases this
   have key:∀X:Hp,(∀b,b≠a->X b=H2 b)->Q .bu (_L.upd X a (.ins C dx (gB mv u (.int 0) (.ref q') cI (.int rate) (.str side) (.str mark) tv))):=by
    intro X hX;have bt:dI [a] H (_L.upd X a (.ins C dx (gB mv u (.int 0) (.ref q') cI (.int rate) (.str side) (.str mark) tv))):=λb o' eb hb=>by have ha:b≠a:=λz=>hb (by rw[z];erw[.head _]);rw[aY ha,hX b ha];erw[n2.same _ _ (by rw[aY ha];erw[s1 _ _ eb])]
    have sv:=bt.v λx hx o' eo=>by rw[cV]at hx;rw[hx,e]at eo;cases eo;trivial
    have YX:cQ H1 (_L.upd X a (.ins C dx (gB mv u (.int 0) (.ref q') cI (.int rate) (.str side) (.str mark) tv))):=λb o' nb eb=>by
     have ha:b≠a:=λz=>by rw[z,e1]at eb;cases eb;erw[nb trivial]
     rw[aY ha,hX b ha];erw[n2.same _ _ (by rw[aY ha];erw[eb])]
    have oX:=n2.at';rw[abh]at oX;erw[k q' _ #[#[dx,mv,u,cI,tv,bZ,RD.v sv _ (kT _ _ _ _ _) r1,RD.v YX _ (gp _) ru,r3.v sv,r4.v sv],yr,?_,?_] ?_ bt]
    ·rw[aY JS.symm,hX q' JS.symm];erw[oX]
    ·erw[aI.v sv _ ok.row.tail.no rr]
    ·cases e':H q' with |none=>rfl |some o'=>have h1:=s1 _ _ e';have h2:=n2.no;rw[aY JS.symm,h1]at h2;cases h2
   erw[key _ (λb hb=>by rw[aY hb])]
theorem mn4(h:q=x\/q=y\/q=z\/q=u)(h1:q<=x)(h2:q<=y)(h3:q<=z)(h4:q<=u):mn (mn (mn x y) z) u=q:=by
 erw[rn ?_ (gE (gE (gE h1 h2) h3) h4)];rcases h with h|h|h|h
 ·rw[h];erw[cL (eZ _ _) (cL (eZ _ _) (eZ _ _))]
 ·rw[h];erw[cL (eZ _ _) (cL (eZ _ _) (gN _ _))]
 ·rw[h];erw[cL (eZ _ _) (gN _ _)]
 ·rw[h];erw[gN _ _]
theorem Te{l:Addr}(dl:H l=some (.lst [u1,u2,u3]))(R1:bJ H u1 x)(R2:bJ H u2 y)(R3:bJ H u3 z)(b1:Bd 2000 x)(b2:Bd 2000 y)(b3:Bd 2000 z)(k:∀v,bJ H v (mn (mn x y) z)->Q v H):yM [.ref l] H Q E0:=by
 erw[l,[u1,u2,u3],[x,y,z],Z,aD.of dl,#[R1,b1,R2,b2,R3,b3,trivial],by simp,λc v q e1 e2 hq=>k v ?_];have e:mn (mn x y) z=q:=by
  erw[Sy ?_ (hq _ (by simp)) (hq _ (by simp)) (hq _ (by simp))]
  match c,e2 with |0,e2=>cases e2;erw[.inl rfl] |1,e2=>cases e2;erw[.inr (.inl rfl)] |2,e2=>cases e2;erw[.inr (.inr rfl)]
 rw[e]
 match c,e1,e2 with |0,e1,e2=>cases e1;cases e2;erw[R1] |1,e1,e2=>cases e1;cases e2;erw[R2] |2,e1,e2=>cases e1;cases e2;erw[R3]
theorem Td{l:Addr}{t:Rat}(dl:H l=some (.lst [u1,u2,u3,u4]))(R1:bJ H u1 x)(R2:bJ H u2 y)(R3:bJ H u3 z)(R4:bJ H u4 t)(b1:Bd 2000 x)(b2:Bd 2000 y)(b3:Bd 2000 z)(b4:Bd 2000 t)(k:∀v,bJ H v (mn (mn (mn x y) z) t)->Q v H):yM [.ref l] H Q E0:=by
 erw[l,[u1,u2,u3,u4],[x,y,z,t],Z,aD.of dl,#[R1,b1,R2,b2,R3,b3,R4,b4,trivial],by simp,λc v q e1 e2 hq=>k v ?_];have e:mn (mn (mn x y) z) t=q:=by
  erw[mn4 ?_ (hq _ (by simp)) (hq _ (by simp)) (hq _ (by simp)) (hq _ (by simp))]
  match c,e2 with |0,e2=>cases e2;erw[.inl rfl] |1,e2=>cases e2;erw[.inr (.inl rfl)] |2,e2=>cases e2;erw[.inr (.inr (.inl rfl))] |3,e2=>cases e2;erw[.inr (.inr (.inr rfl))]
 rw[e]
 match c,e1,e2 with |0,e1,e2=>cases e1;cases e2;erw[R1] |1,e1,e2=>cases e1;cases e2;erw[R2] |2,e1,e2=>cases e1;cases e2;erw[R3] |3,e1,e2=>cases e1;cases e2;erw[R4]
theorem DL{D:Nat}{q:Rat}{z:Int}(h:Dd D q)(hl:q<=1600)(hz:0<=z)(zS:z<2^24)(hD:D<=1700):Bd 2000 (q+(z:Rat)):=by have b:Bd (D+11) q:=h.bd (cL hl aG);exact(jW b ao).mono ao
theorem ML:bf ["self","top","reach","left","rise","fall","middles","ends","square","steps","gone","still"] ["self","top","reach","left"] (aQ OB):=bo aG
def Cv(M:bw)(S:bp)(top R:Rat)(left:Int):bp:={S with pc:=uO M.r M.f S.pc top R left S.bG,bG:=GN S.bG}
inductive adp(C:Addr)(vs:List V)(H:Hp)(Q:VK):Prop |mk (a:_)(q:_)(M:_)(D:_)(S:_)(tv:_)(Rv:_)(top:_)(R:_)(left:_)(h0:vs=[.ref a,tv,Rv,.int left])(h1:cT C H a q M S)(h2:dy M D S)(h3:M.Ok)(h4:bJ H tv top)(h5:Dd 14 top)(h6:top<=1600)(h7:bJ H Rv R)(h8:Dd 64 R)(h9:R<=1600)(qF:1<=left)(II:left<=100)(vm:¬Halt S.pc S.bG)(Uu:∀v H',bJ H' v (oK M.r M.f S.pc top R left S.bG)->cT C H' a q M (Cv M S top R left)->dI [a] H H'->Q v H')
def ZE(C:Addr):Sp:=λvs H Q _=>adp C vs H Q
theorem a3C(AA:All w K mg)(RR:fJ K mg C D):dA P w K mg ay C "next_square" 5 (ZE C):=by
 exists RR.a5B.has,ML,xV λ_ _ _ _=>rfl
 ·let(a,q,M,D,S,tv,Rv,top,R,left,rfl,R0,ok,aA,rt,td,tl,rR,Rd,Rl,l1,l2,nh,k):=h
  let(dx,mv,bv,cI,sv,e,r1,r2,r3,r4):=R0.ob;let(ys,eq,rq):=R0.qu;have aq:=R0.ne;have nd:=ML.nd;have iz:=aA.r1;have ie:=aA.f1;have D1:=ok.D1;have D2:=ok.D2;have iQ:(2:Int)^24=16777216:=by decide
  let(ma,mb,rfl,gF,jO):=oQ r1;erw[_,(az (za (i:=4) (j:=5) Z nd Z Z aw Z Z (ak (px K (cS RR.tc.cl RR.tc.mq (pv 0)) aB) (ak (px K (cS RR.tc.cl RR.tc.mq (pv 0)) aB) au)) rfl) (az (pS 6 nd (dj (ak (pf (lN AA) hr (ak (cS RR.tc.cl RR.tc.xj (pv 0)) (ak (pv 4) au))) (ak (pv 1) (ak (pf (lN AA) hr (ak (pv 2) (ak (aM cN (pv 5) (aM j6 (aM cN aB (pv 3)) aB)) au))) au))))) (az (pS 7 nd (dj (ak (pf (lN AA) hr (ak (cS RR.tc.cl RR.tc.xj (pv 0)) (ak (aM cN aB (pv 4)) au))) (ak (pv 1) (ak (pf (lN AA) hr (ak (pv 2) (ak (aM cN (aM cN aB (pv 5)) (aM j6 (pv 3) aB)) au))) au))))) (az (iZ (bI (cw (jL (RI RR) RR.tc.cl (hr.mono aw) (pv 0))) (az (fg (cS RR.tc.cl RR.tc.CG (pv 0)) (eu K rfl (n:=3) rfl (bV (aR 8 nd) (bV (aR 9 nd) (bV (aR 10 nd) eg))))) (az (pS 11 nd (aM j6 (aM j6 (pv 9) (pv 10)) aB)) (az (fP (iL K Z (pv 6) (ak (pf (Rx AA) hr (ak (pv 8) (ak (pf (x9 AA) hr (ak (aM dR (aM cN aB (pv 11)) aB) (ak (aM cN aB (pv 9)) au))) au))) au))) (az (fP (iL K Z (pv 7) (ak (pf (Rx AA) hr (ak (pv 8) (ak (pf (x9 AA) hr (ak (pv 11) (ak (pv 9) au))) au))) au))) (aH (iJ RR.tc.cl RR.tc.CG (pv 0) (iK (ak (pv 8) (ak (pv 9) (ak (aM dR (pv 10) aB) au)))))))))) bP)) (az (iJ RR.tc.cl RR.tc.xj (pv 0) (pf (uK AA) hr (ak (pv 7) au))) (aH (aO (pf (uK AA) hr (ak (pv 6) au))))))))),?_];erw[_,Z,a,dx,_,_,Z,e,Z,.inr #[ma,_,1,.int M.r,Z,Z,gF,Z,?_]];erw[_,Z,a,dx,_,_,Z,e,Z,.inr #[ma,_,2,.int M.f,Z,Z,gF,Z,_,_,Z,?_]];have fl1:(M.f*(2*left-1)).natAbs<=50*200:=by rw[iH];erw[o8 ao ao]
  have a9b:0<=M.f*(2*left-1):=gT ao ao;have fl2:(2*M.f*(left-1)).natAbs<=100*100:=by rw[iH];erw[o8 ao ao]
  have a9a:0<=2*M.f*(left-1):=gT ao ao;have QW:Bd 2000 S.pc:=(ok.pd.bd (cL ok.pm aG)).mono ao;have RB:Bd 2000 R:=(Rd.bd (cL Rl aG)).mono aw;have tB:Bd 2000 top:=(td.bd (cL tl aG)).mono aw;have B1:Bd 2000 (S.pc+(M.r:Rat)):=DL ok.pd ok.pm ao ao ao;have B2:Bd 2000 (R+((M.f*(2*left-1):Int):Rat)):=DL Rd Rl a9b ao ao;have B3:Bd 2000 (S.pc+((2*M.r:Int):Rat)):=DL ok.pd ok.pm ao ao ao;have B4:Bd 2000 (R+((2*M.f*(left-1):Int):Rat)):=DL Rd Rl a9a ao ao;erw[_,Z,a,dx,_,_,Z,e,Z,_,Z,cI,_,_,Z,r3,QW,ao,λu1 H1 jh s1=>?_];erw[_,Z,_,Z,_,Z,_,Z,_,_,Z,Z,.of_left (dC aw aw),_,_,Z,Z,_,_,Z,Z,.of_left (dC ao ao),Rv,_,_,Z,rR.go s1,RB,ao,λu2 H2 mW s2=>?_];erw[cy Z,λlm H3 n3=>?_];have gm:=s1.trans (s2.trans n3.same);erw[_,Z,a,dx,_,_,Z,gm _ _ e,Z,_,Z,_,_,Z,Z,.of_left (dC aw aw),cI,_,_,Z,r3.go gm,QW,ao,λu3 H4 ru3 s4=>?_];have fL:=gm.trans s4;erw[_,Z,_,Z,_,Z,_,_,Z,Z,.of_left (dC aw aw),_,Z,_,_,Z,Z,_,_,Z,Z,.of_left (dC ao ao),Rv,_,_,Z,rR.go fL,RB,ao,λu4 H5 ru4 s5=>?_];erw[cy Z,λle H6 n6=>?_];have pU:=fL.trans (s5.trans n6.same);have iY:=s4.trans (s5.trans n6.same);have e6:=pU _ _ e;have R6:=R0.same ok.row.no pU;have U1:=jh.go (s2.trans (n3.same.trans iY));have U2:=mW.go (n3.same.trans iY);have U3:=ru3.go (s5.trans n6.same);have U4:=ru4.go n6.same;have T6:=rt.go pU;have dm:=iY _ _ n3.at';have de:=n6.at';have JU:a≠lm:=λz=>by have:=n3.no;rw[<-z,(s1.trans s2) _ _ e]at this;cases this
  have Wu:a≠le:=λz=>by have:=n6.no;rw[<-z,(fL.trans s5) _ _ e]at this;cases this
  have SX:lm≠le:=λz=>by have:=n6.no;rw[<-z,(s4.trans s5) _ _ n3.at']at this;cases this
  have nlm:H lm=none:=by cases e':H lm with |none=>rfl |some o=>have:=(s1.trans s2) _ _ e';rw[n3.no]at this;cases this
  have nle:H le=none:=by cases e':H le with |none=>rfl |some o=>have:=(fL.trans s5) _ _ e';rw[n6.no]at this;cases this
  erw[λO H7=>∃uo w8 w9 rF KR um ue,O=[some (.ref a),some tv,some Rv,some (.int left),some (.int M.r),some (.int M.f),some (.ref lm),some (.ref le),w8,w9,rF,KR]/\dI [a,lm,le] H6 H7/\H7 a=some (.ins C dx (gB (.ref ma) bv (.int S.dn) (.ref q) cI (.int S.rate) (.str S.side) (.str S.mark) uo))/\xX H7 uo (GN S.bG)/\H7 lm=some (.lst um)/\H7 le=some (.lst ue)/\(∀H8 Q',cQ H7 H8->H8 lm=some (.lst um)->(∀v,bJ H8 v (oK M.r M.f S.pc top R left S.bG)->Q' v H8)->yM [.ref lm] H8 Q' E0)/\(∀H8 Q',cQ H7 H8->H8 le=some (.lst ue)->(∀v,bJ H8 v (uO M.r M.f S.pc top R left S.bG)->Q' v H8)->yM [.ref le] H8 Q' E0),?_,?_]
  ·erw[_,Z,a,dx,_,Z,e6,Z,a,q,M,D,S,Z,R6,ok,aA,_,Z,?_]
   cases hs:S.bG with |none=>rw[hs]at r4;erw[aP #[sv,_,_,_,_,_,_,Z,dI.refl _ _,e6,r4,dm,de,λH8 Q' sV d8 kq=>Te d8 (U1.v sV) (T6.v sV) (U2.v sV) B1 tB B2 kq,λH8 Q' sV d8 kq=>Te d8 (U3.v sV) (T6.v sV) (U4.v sV) B3 tB B4 kq]] |some z=>
    let(sq,st,gn):=z;rw[hs]at r4;have sk:=ok.bG;rw[hs]at sk nh;let(g1,g2,g3):=zB sk ok.pd.nn nh;let(gn0,gn1,F0,F3,F1,_,_):=sk;let(ta,su,rfl,hta,hsu):=r4;erw[bM ?_];have a6Z:=hta.go pU;have Im:=hsu.go pU;have LD:Bd 2000 sq:=(F3.bd F1).mono ao;erw[_,Z,a,dx,_,_,Z,e6,Z,ta,_,Z,a6Z,Z,_,_,Z,_,_,Z,_,_,Z,Z,?_];erw[_,Z,_,Z,_,_,Z,Z,_,_,Z,Z,?_];have iQ:sizeLine=16777216:=by decide
    erw[_,Z,.inl #[Z,_,aD.of dm],_,Z,_,Z,_,_,Z,Z,.of_left (dC aw aw),_,_,Z,Z,_,Z,_,_,Z,Z,.of_left (dC aw aw),_,_,Z,ao,md (n:=64) ao aw,λfv H7 rf s7=>?_];have fB:Bd 2000 (Rat.divInt (2*(st-gn-1)+1) (2*st)):=(kP (n:=12) ao ao ao).mono aw;have fB2:Bd 2000 (Rat.divInt (st-gn-1) st):=(kP (n:=12) ao ao ao).mono aw;have pB:Bd 2000 (sq*Rat.divInt (2*(st-gn-1)+1) (2*st)):=((F3.bd F1).mul (kP (n:=12) ao ao ao)).mono ao;have pB2:Bd 2000 (sq*Rat.divInt (st-gn-1) st):=((F3.bd F1).mul (kP (n:=12) ao ao ao)).mono ao;erw[su,fv,sq,_,Z,Im.go s7,rf,LD,fB,λx1 H8 rx1 s8=>?_];have wD:=s7.trans s8;have Vo:=wD _ _ dm;erw[lm,_,_,Z,Z,Vo,by show 3<sizeLine;lia,?_];have v8:cQ H8 (_L.upd H8 lm (.lst ([u1,tv,u2]++[x1]))):=.upd Vo trivial;have VB:(_L.upd H8 lm (.lst ([u1,tv,u2]++[x1]))) le=some (.lst [u3,tv,u4]):=by rw[aY SX.symm];erw[wD _ _ de]
    erw[_,Z,.inl #[Z,_,aD.of VB],_,Z,_,Z,_,Z,_,_,Z,ao,md (n:=64) ao aw,λgv H9 rg s9=>?_];erw[su,gv,sq,_,Z,((Im.go wD).v v8).go s9,rg,LD,fB2,λx2 o6 rx2 uu=>?_];have wC:=s9.trans uu;have VC:=wC _ _ VB;erw[le,_,_,Z,Z,VC,by show 3<sizeLine;lia,?_];have v10:cQ o6 (_L.upd o6 le (.lst ([u3,tv,u4]++[x2]))):=.upd VC trivial;erw[_,Z,_,Z,_,Z,_,_,Z,Z,cy Z,λtn jc sC=>?_];have XU:cQ H6 o6:=(wD.v.trans v8).trans wC.v;have XT:cQ H6 jc:=(XU.trans v10).trans sC.same.v;have e8:(_L.upd H8 lm (.lst ([u1,tv,u2]++[x1]))) a=some (.ins C dx (gB (.ref ma) bv (.int S.dn) (.ref q) cI (.int S.rate) (.str S.side) (.str S.mark) (.ref ta))):=by rw[aY JU];erw[wD _ _ e6]
    have Vh:jc a=some (.ins C dx (gB (.ref ma) bv (.int S.dn) (.ref q) cI (.int S.rate) (.str S.side) (.str S.mark) (.ref ta))):=sC.same _ _ (by rw[aY Wu];erw[wC _ _ e8]);erw[_,Z,a,dx,_,Z,Vh,by show 9<1000;decide,?_];have BG:cQ jc (_L.upd jc a (.ins C dx (gB (.ref ma) bv (.int S.dn) (.ref q) cI (.int S.rate) (.str S.side) (.str S.mark) (.ref tn)))):=.upd Vh trivial;have uh:=XT.trans BG;have XS:=(((v8.trans wC.v).trans v10).trans sC.same.v).trans BG;have XX:=(v10.trans sC.same.v).trans BG;erw[.ref tn,_,_,_,_,[u1,tv,u2,x1],[u3,tv,u4,x2],Z,λb o' eb hb=>?_,bZ,#[tn,su,Z,aU.v BG (aU.of sC.at'),Im.v uh],?_,?_,λH' Q' sV d' kq=>?_,λH' Q' sV d' kq=>?_]
    ·have ha:b≠a:=λz=>hb (by rw[z];simp)
     have hlm:b≠lm:=λz=>hb (by rw[z];simp);have hle:b≠le:=λz=>hb (by rw[z];simp);rw[aY ha];erw[sC.same _ _ (by rw[aY hle];erw[wC _ _ (by rw[aY hlm];erw[wD _ _ eb])])]
    ·rw[aY JU.symm]
     erw[sC.same _ _ (by rw[aY SX];erw[wC _ _ bZ])]
    ·rw[aY Wu.symm]
     erw[sC.same _ _ bZ]
    ·erw[Td d' ((U1.v uh).v sV) ((T6.v uh).v sV) ((U2.v uh).v sV) ((rx1.v XS).v sV) B1 tB B2 pB kq]
    ·erw[Td d' ((U3.v uh).v sV) ((T6.v uh).v sV) ((U4.v uh).v sV) ((rx2.v XX).v sV) B3 tB B4 pB2 kq]
  ·rintro O H7 ⟨uo,w8,w9,rF,KR,um,ue,rfl,bt,e7,lK,dm7,de7,km,ke⟩
   erw[_,Z,?_];dsimp only[uk];erw[ke H7 _ .refl de7 λpe rpe=>?_];erw[_,Z,a,dx,_,Z,e7,by show 9<1000;decide,?_];have v8:cQ H7 (_L.upd H7 a (.ins C dx (gB (.ref ma) bv (.int S.dn) (.ref q) pe (.int S.rate) (.str S.side) (.str S.mark) uo))):=.upd e7 trivial;erw[_,Z,?_];dsimp only[uk];erw[km _ _ v8 (by rw[aY JU.symm];erw[dm7]) λv rv=>?_];have bH:dI [a] H (_L.upd H7 a (.ins C dx (gB (.ref ma) bv (.int S.dn) (.ref q) pe (.int S.rate) (.str S.side) (.str S.mark) uo))):=λb o' eb hb=>by
    have ha:b≠a:=λz=>hb (by rw[z];simp);rw[aY ha];erw[bt b o' (pU _ _ eb) λhm=>?_];simp only[cM,iu,kE]at hm;rcases hm with h|h|h
    ·erw[ha h]
    ·rw[h,nlm]at eb;cases eb
    ·rw[h,nle]at eb;cases eb
   have vH:cQ H (_L.upd H7 a (.ins C dx (gB (.ref ma) bv (.int S.dn) (.ref q) pe (.int S.rate) (.str S.side) (.str S.mark) uo))):=bH.v λx hx o' eo=>by rw[cV]at hx;rw[hx,e]at eo;cases eo;trivial
   erw[k v _ rv #[#[dx,.ref ma,bv,pe,uo,bZ,RD.v vH _ (kT _ _ _ _ _) r1,RD.v vH _ (gp _) r2,rpe.v v8,lK.v v8],ys,bH _ _ eq (by rw[cV];erw[aq.symm]),aI.v vH _ ok.row.no rq] bH]
end
end _a
set_option maxHeartbeats 2000000
namespace _a
open PySem PySem.Spec PyProof.Rows _L _b _l _C _P _W _R
open _O (topR cornO mnO betR atO ownF leadF ownL OkI OkIs)
section
noncomputable def kj(M:bw)(S:bp):Rat:=FX M.f M.j S.rate S.os
noncomputable def mr(M:bw)(S:bp)(ns:List Int)(sp:Int):Rat:=oK M.r M.f S.pc (topR S.rate sp) (kj M S) ((aE ns:Int)-S.dn) S.bG
noncomputable def my(M:bw)(S:bp)(ns:List Int)(sp:Int):ah:=mU M.t (gd ns S.dn) (mr M S ns sp)
noncomputable def kx(M:bw)(S:bp)(ns:List Int)(sp:Int):bp:={Cv M S (topR S.rate sp) (kj M S) ((aE ns:Int)-S.dn)with dn:=S.dn+1}
def iA(ns:List Int)(S:bp):bp:=if S.dn=aE ns then kY S else S
def cZ(d:ah)(S:bp):bp:=match d with | .tuple [.str w,.str s]=>if w="tool" then{S with side:=s}else if w="mark" then{S with mark:=s}else S |_=>S
inductive One(M:bw):bp->ah->bp->Prop |line {S:bp}{ns:List Int}{sp:Int}:S.os[0]? =some (some (ns,sp))->¬Halt S.pc S.bG->One M S (my M S ns sp) (iA ns (kx M S ns sp)) |fF {S:bp}{d:ah}:S.os[0]? =some none->S.ds[0]? =some d->¬Halt S.pc S.bG->One M S d (kY (cZ d S))
inductive Run(M:bw):bp->List ah->bp->Prop |nil (S:bp):Run M S [] S |cons {S S1 S2:bp}{e:ah}{es:List ah}:One M S e S1->Run M S1 es S2->Run M S (e::es) S2
theorem Run.trans{fs:List ah}(h:Run M S es S1)(g:Run M S1 fs S2):Run M S (es++fs) S2:=by induction h with |nil=>erw[g] |cons o _ ih=>erw[.cons o (ih g)]
theorem Run.snoc{M:bw}{S S1 S2:bp}{es:List ah}{e:ah}(h:Run M S es S1)(g:One M S1 e S2):Run M S (es++[e]) S2:=h.trans (.cons g (.nil _))
theorem Fi{D:Nat}(h:lj M D S)(d:ah):lj M D (cZ d S)/\(cZ d S).os=S.os/\(cZ d S).ds=S.ds/\(cZ d S).dn=S.dn/\(cZ d S).pl=S.pl:=by
 unfold cZ;split
 ·split
  ·erw[#[h.row,h.rw,h.len,h.cg,h.cn,h.pl,h.pd,h.pm,h.bG,h.D1,h.D2],Z,Z,Z,Z]
  ·split
   ·erw[#[h.row,h.rw,h.len,h.cg,h.cn,h.pl,h.pd,h.pm,h.bG,h.D1,h.D2],Z,Z,Z,Z]
   ·erw[h,Z,Z,Z,Z]
 ·erw[h,Z,Z,Z,Z]
theorem G1{D:Nat}(h:lj M D S)(aA:M.Ok)(hn:S.os≠[]):Dd 64 (kj M S)/\kj M S<=1600:=by
 have h1:1<=S.os.length:=by cases e:S.os with|nil=>exact(hn e).elim|cons _ _=>simp
 erw[a99 (by have:=aA.f1;lia) (λi _=>a2W aA.j1.1 aA.j1.2 h.cg h.cn h.row.lO i) 1 h1,?_];erw[cL (IW h1) (a2U h.cg h.cn h.row.lO 1)]
theorem SW{D:Nat}(h:lj M D S)(aA:M.Ok)(eo:S.os[0]? =some (some (ns,sp)))(hd:S.dn<aE ns)(nh:¬Halt S.pc S.bG):lj M D (kx M S ns sp):=by
 have hn:S.os≠[]:=λe=>by rw[e]at eo;simp at eo
 let(R1,R2):=G1 h aA hn;let(bW,s1,s2):=h.row.ok 0 ns sp eo;have D1:=h.D1;have iz:=aA.r1;have ie:=aA.f1;erw[h.row,h.rw,h.len,h.cg,h.cn,h.pl,?_,?_,?_,h.D1,h.D2]
 ·erw[aaN ao ao ao h.pd ((EI _ _).mono ao) (R1.mono ao) h.bG nh]
 ·erw[cL aaM (BM s1 s2 h.cg h.cn)]
 ·erw[Z5 h.bG h.pd.nn nh]
theorem One.ok{M:bw}{D:Nat}{S S1:bp}{e:ah}(h:dy M D S)(aA:M.Ok)(o:One M S e S1):dy M D S1:=by cases o with
 |@line ns sp eo nh=>
  have hd:S.dn<aE ns:=by
   rcases h.dn with e|⟨zA,pT,e1,e2⟩
   ·rw[e];exact(h.row.ok 0 ns sp eo).1.lead.1
   ·rw[eo]at e1;cases e1;erw[e2]
  have raw:=SW h.raw aA eo hd nh;have hn:S.os≠[]:=λe=>by rw[e]at eo;simp at eo
  unfold iA;split
  ·erw[raw.end hn]
  ·next cD=>
   erw[raw.ok (.inr #[ns,sp,eo,?_])];have:(kx M S ns sp).dn=S.dn+1:=rfl
   lia |fF eo ed nh=>let(h1,h2,_):=Fi h.raw e;erw[h1.end ?_];rw[h2];intro z;rw[z]at eo;simp at eo
theorem Run.ok{M:bw}{D:Nat}{S S1:bp}{es:List ah}(h:dy M D S)(aA:M.Ok)(r:Run M S es S1):dy M D S1:=by induction r with |nil=>erw[h] |cons o _ ih=>erw[ih (o.ok h aA)]
theorem One.no{D:Nat}(h:dy M D S)(o:One M S e S1):dW e=true:=by cases o with |line _ _=>erw[EX _ _ _] |fF eo ed _=>erw[dU.mp h.row.no _ (fz ed)]
theorem Run.no{D:Nat}{es:List ah}(h:dy M D S)(aA:M.Ok)(r:Run M S es S1):cx es=true:=by induction r with |nil=>rfl |cons o _ ih=>rw[cx,fA];erw[o.no h,ih (o.ok h aA)]
theorem D5{b:Bool}{A B A' B':Prop}(h1:A->A')(h2:B->B'):(if b=true then A else B)->(if b=true then A' else B'):=by
 cases b
 ·erw[h2]
 ·erw[h1]
theorem MK:bf ["self","most","line","lead","rows","top","reach","told","middle"] ["self","most"] (aQ Ox):=bo aG
inductive ado(C:Addr)(vs:List V)(H:Hp)(Q:VK):Prop |mk (a:_)(q:_)(M:_)(D:_)(S:_)(ns:_)(sp:_)(most:_)(h0:vs=[.ref a,.int most])(h1:cT C H a q M S)(h2:dy M D S)(h3:M.Ok)(h4:S.os[0]? =some (some (ns,sp)))(h5:¬Halt S.pc S.bG)(h6:1<=most)(h7:most<=1000)(h8:∀l ys es S' q' H',H l=none->H' l=some (.lst ys)->aI K H' ys es->Run M S es S'->1<=es.length->(es.length:Int)<=most->cT C H' a q' M S'->Mv a q H q' H'->l≠q'->Q (.ref l) H')
def LO(C:Addr):Sp:=λvs H Q _=>ado C vs H Q
theorem a3y(AA:All w K mg)(RR:fJ K mg C D)(Io:bj P w K mg ay "step_entry" 3 C0):dA P w K mg ay C "steps_of_first" 10 (LO C):=by
 exists RR.a5w.has,MK,eD λ_ _=>rfl
 ·let(a,q,M,D,S,ns,sp,most,rfl,R0,ok,aA,eo,nh,m1,m2,k):=h
  let(dx,mv,bv,cI,tv,e,r1,r2,r3,r4):=R0.ob;let(ys,eq,rq):=R0.qu;have aq:=R0.ne;have nd:=MK.nd;have lr:=aA.len;have iz:=aA.r1;have ie:=aA.f1;have ll:=ok.row.len;have h20:=ok.len;have A0:0<S.os.length:=(cK.mp eo).1;have cD:S.os≠[]:=λz=>by rw[z]at A0;erw[absurd A0 aw]
  obtain⟨d,ed⟩:∃d,S.ds[0]? =some d:=#[_,bL (show 0<S.ds.length by lia)];let(y,ey,ry):=rq.get 0 ed;have dG:=iP (ok.row.it 0 d _ ed eo);subst dG;let(bW,cO,dZ):=ok.row.ok 0 ns sp eo;have a3g:ft ns.length 1000 ns:=#[Z,λz hz=>by have:=bW.bd z hz;lia,bW.nz];have afW:=bW.lead.1;have mz:=qp bW;have zD:ns.length<=3:=by rw[bW.len];lia
  have hd0:S.dn<aE ns:=by
   rcases ok.dn with e'|⟨zA,pT,e1,e2⟩
   ·lia
   ·rw[eo]at e1;cases e1;erw[e2]
  let(Rd,Rl):=G1 ok.raw aA cD;erw[_,(az (pS 2 nd (px K (cS RR.tc.cl RR.tc.kS (pv 0)) aB)) (az (pS 3 nd (pf (qf AA) hr (ak (pv 2) au))) (az (pS 4 nd (pf (GF AA) hr (ak (pv 2) au))) (az (pS 5 nd (pf (x6 AA) hr (ak (pv 2) (ak (cS RR.tc.cl RR.tc.zI (pv 0)) au)))) (az (pS 6 nd (pf (a3I AA) hr (ak (cS RR.tc.cl RR.tc.mq (pv 0)) (ak (cS RR.tc.cl RR.tc.kS (pv 0)) (ak (cS RR.tc.cl RR.tc.zI (pv 0)) au))))) (az (pS 7 nd (dj au)) (az (iZ (uE fS (PW.pt (sr (bX oF (fW K AA.B (ak (pv 7) au)) (pv 1) (bQ _)) (sr (bX oF (cS RR.tc.cl RR.tc.qj (pv 0)) (pv 3) (bQ _)) (wN (cR (cw (jL (RH AA RR) RR.tc.cl (hr.mono aw) (pv 0)))))))) (az (pS 8 nd (ko (a3C AA RR) RR.tc.cl (hr.mono aw) (pv 0) (ak (pv 5) (ak (pv 6) (ak (aM j6 (pv 3) (cS RR.tc.cl RR.tc.qj (pv 0))) au))))) (az (fP (iL K Z (pv 7) (ak (pf Io hr (ak (cS RR.tc.cl RR.tc.mq (pv 0)) (ak (px K (pv 4) (cS RR.tc.cl RR.tc.qj (pv 0))) (ak (pv 8) au)))) au))) (aH (a2d RR.tc.cl RR.tc.qj (pv 0) aB a6v)))))) (az (iZ (bI (bX (dN K Z hr.units) (cS RR.tc.cl RR.tc.qj (pv 0)) (pv 3) (bQ _)) (aH (fP (jL (RL AA RR) RR.tc.cl (hr.mono aw) (pv 0)))) bP)) (aH (aO (pv 7))))))))))),?_];erw[_,Z,a,dx,_,_,Z,e,Z,.inl #[q,_,0,y,Z,Z,aD.of eq,cB (dc 0) ey,?_]];erw[_,Z,y,ns,sp,Z,ry,bW.ne,ao,λH1 s1=>?_];erw[_,Z,y,ns,sp,Z,RD.mono s1 _ ry,a3g,ao,λoS yr H2 nlr Vp Qj s2=>?_];have fM:=s1.trans s2;erw[_,Z,_,Z,a,dx,_,_,Z,fM _ _ e,Z,y,ns,sp,S.rate,Z,RD.mono fM _ ry,cO,dZ,ok.cg,ok.cn,λuj H3 rtp s3=>?_];have gm:=fM.trans s3;have e3:=gm _ _ e;erw[_,Z,a,dx,_,_,Z,e3,Z,_,Z,a,dx,_,_,Z,e3,Z,_,Z,a,dx,_,_,Z,e3,Z,mv,.ref q,S.rate,M.rs,M.r,M.f,M.j,M.t,S.ds,S.os,Z,RD.mono gm _ r1,aA,wJ (aD.of (gm _ _ eq)) (aI.mono gm _ rq),ok.row,ao,ao,ok.cg,ok.cn,λuC H4 rrc s4=>?_];have fL:=gm.trans s4;erw[cy Z,λl H5 n5=>?_];have mV:=fL.trans n5.same;have Q5:aF H2 H5:=s3.trans (s4.trans n5.same);have nl:H l=none:=by cases e':H l with |none=>rfl |some o=>have:=fL _ _ e';rw[n5.no]at this;cases this
  have Sl:H oS=none:=by cases e':H oS with |none=>rfl |some o=>have:=s1 _ _ e';rw[nlr]at this;cases this
  have al:a≠l:=λz=>by rw[<-z,e]at nl;cases nl
  have ql:q≠l:=λz=>by rw[<-z,eq]at nl;cases nl
  have Ws:a≠oS:=λz=>by rw[<-z,e]at Sl;cases Sl
  have llr:l≠oS:=λz=>by have:=n5.no;rw[z,(s3.trans s4) _ _ Vp]at this;cases this
  have XA:=Qj.length;rw[FP]at XA;have td:=EI S.rate sp;have tl:=BM cO dZ ok.cg ok.cn;have tp:=BL cO ok.cg;have a4B:iA ns S=S:=by unfold iA;rw[bc ao]
  have iQ:sizeLine=16777216:=by decide
  erw[λO H6=>∃T es us w8,O=[some (.ref a),some (.int most),some y,some (.int (aE ns)),some (.ref oS),some uj,some uC,some (.ref l),w8]/\dI [a,l] H5 H6/\cT C H6 a q M T/\lj M D T/\T.os=S.os/\T.ds=S.ds/\T.rate=S.rate/\T.dn<=aE ns/\1<=es.length/\(es.length:Int)<=most/\H6 l=some (.lst us)/\aI K H6 us es/\cx es=true/\Run M S es (iA ns T),?_,?_]
  ·erw[kA ?_];intro E1
   erw[uf (λO H6=>∃T es us w8,O=[some (.ref a),some (.int most),some y,some (.int (aE ns)),some (.ref oS),some uj,some uC,some (.ref l),w8]/\dI [a,l] H5 H6/\cT C H6 a q M T/\lj M D T/\T.os=S.os/\T.ds=S.ds/\T.rate=S.rate/\T.dn=S.dn+es.length/\T.dn<=aE ns/\(es.length:Int)<=most/\H6 l=some (.lst us)/\aI K H6 us es/\cx es=true/\Run M S es (iA ns T)/\(es=[]->¬Halt T.pc T.bG)) (λ_ H6=>match H6 l with|some (.lst us)=>2000-us.length|_=>0) ?_ ?_ ?_]
   ·erw[S,[],[],none,Z,dI.refl _ _,R0.same ok.row.no mV,ok.raw,Z,Z,Z,Z,ao,by simp;lia,n5.at',cW,Z,by rw[a4B];erw[.nil _],λ_=>nh]
   ·rintro O H6 ⟨T,es,us,w8,rfl,bt,RT,raw,iS,nO,lX,DE,Uk,mG,dl,rd,oZ,run,hnh⟩
    have lu:=rd.length;let(vy,mv6,bv6,a2J,Y5,e6,t1,t2,t3,t4):=RT.ob;have EF:cQ H5 H6:=bt.v λx hx o' eC=>by
     simp only[cM,iu,kE]at hx;rcases hx with rfl|rfl
     ·rw[mV _ _ e]at eC;cases eC;trivial
     ·rw[n5.at']at eC;cases eC;trivial
    have nos:cx T.ds=true:=by rw[nO];erw[ok.row.no]
    have Je:1<=es.length->∃T' jz mS BE,[some (.ref a),some (.int most),some y,some (.int (aE ns)),some (.ref oS),some uj,some uC,some (.ref l),w8]=[some (.ref a),some (.int most),some y,some (.int (aE ns)),some (.ref oS),some uj,some uC,some (.ref l),BE]/\dI [a,l] H5 H6/\cT C H6 a q M T'/\lj M D T'/\T'.os=S.os/\T'.ds=S.ds/\T'.rate=S.rate/\T'.dn<=aE ns/\1<=jz.length/\(jz.length:Int)<=most/\H6 l=some (.lst mS)/\aI K H6 mS jz/\cx jz=true/\Run M S jz (iA ns T'):=λh1=>#[T,es,us,w8,Z,bt,RT,raw,iS,nO,lX,Uk,h1,mG,dl,rd,oZ,run];erw[_,Z,l,us,Z,.inl (aD.of dl),_,Z,_,_,Z,Z,_,Z,?_];show if decide ((us.length:Int)<most)=true then _ else _;by_cases c1:(us.length:Int)<most
    ·rw[cj c1]
     erw[bM ?_];erw[_,Z,a,vy,_,_,Z,e6,Z,_,Z,_,_,Z,Z,_,Z,?_];show if decide ((T.dn:Int)<(aE ns:Int))=true then _ else _;by_cases c2:T.dn<aE ns
     ·rw[cj ao]
      erw[bM ?_];have Cr:dy M D T:=raw.ok (.inr #[ns,sp,by rw[iS];erw[eo],c2]);have a4A:iA ns T=T:=by unfold iA;rw[bc ao]
      erw[_,Z,a,vy,_,Z,e6,Z,a,q,M,D,T,Z,RT,Cr,aA,_,Z,?_];by_cases c3:Halt T.pc T.bG
      ·have hb:(T.bG.isSome&&decide (T.pc=0))=true:=by let(h1,h2):=c3;rw[cj h2,Bt];cases hs:T.bG with |none=>exact(h1 hs).elim |some _=>rfl
       rw[hb];erw[aP ?_];erw[Je ?_];cases es with |nil=>exact(hnh Z c3).elim |cons _ _=>simp
      ·have hb:(T.bG.isSome&&decide (T.pc=0))=false:=by cases hs:T.bG with |none=>rfl |some _=>show decide (T.pc=0)=false;erw[dE λh2=>c3 #[by rw[hs];simp,h2]]
       rw[hb];erw[bM ?_];have rT:kj M T=kj M S:=by unfold kj;rw[iS,lX]
       erw[_,Z,a,vy,_,Z,e6,Z,?_];erw[_,Z,_,Z,_,Z,_,Z,a,vy,_,_,Z,e6,Z,_,_,Z,Z,?_];have a1b:bJ H6 uj (topR S.rate sp):=((rtp.go s4).go n5.same).v EF;have a1k:bJ H6 uC (kj M S):=(rrc.go n5.same).v EF;erw[a,q,M,D,T,uj,uC,topR S.rate sp,kj M S,_,Z,RT,Cr,aA,a1b,td,tl,a1k,Rd,Rl,ao,ao,c3,λmid H7 a1v R7 b7=>?_];let(tH,uT,DM,Cd,BI,e7',Lm,YV,YU,YT):=R7.ob;have e7:H7 a=some (.ins C tH (gB uT DM (.int T.dn) (.ref q) Cd (.int T.rate) (.str T.side) (.str T.mark) BI)):=e7';have BF:cQ H6 H7:=b7.v λx hx o' eC=>by rw[cV]at hx;rw[hx,e6]at eC;cases eC;trivial
       have pC:=b7 _ _ dl (by rw[cV];erw[al.symm]);have ab6:=Q5 _ _ Vp;have ab5:=bt _ _ ab6 (by simp;erw[Ws.symm,llr.symm]);have ab4:=b7 _ _ ab5 (by rw[cV];erw[Ws.symm]);have a1z:aI K H7 yr (lM ns):=aI.v BF _ (FO ns) (aI.v EF _ (FO ns) (aI.mono Q5 _ Qj));obtain⟨rv,UY⟩:∃rv,yr[T.dn]? =some rv:=#[_,bL (show T.dn<yr.length by lia)];let(dr,Vf,rdr):=a1z.get' T.dn UY;rw[Qg c2]at Vf;cases Vf;have mB:Bd 2000 (oK M.r M.f T.pc (topR S.rate sp) (kj M S) ((aE ns:Int)-T.dn) T.bG):=by have D1:=raw.D1;have D2:=raw.D2;exact((SE ao ao ao raw.pd (td.mono ao) (Rd.mono ao) raw.bG c3).bd (cL SA (cL tl aG))).mono ao
       have mP:0<oK M.r M.f T.pc (topR S.rate sp) (kj M S) ((aE ns:Int)-T.dn) T.bG:=SD iz.1 ie.1 ao raw.pd.nn tp Rd.nn raw.bG c3;erw[_,Z,.inl #[Z,_,aD.of pC],?_];erw[_,Z,a,tH,_,_,Z,e7,Z,?_];erw[_,Z,_,Z,a,tH,_,_,Z,e7,Z,.inl #[oS,_,_,_,Z,Z,aD.of ab4,cB (show(0:Int)<=(T.dn:Int) by lia) (by simpa using UY),?_]];erw[_,Z,uT,rv,mid,M.rs,M.r,M.f,M.j,M.t,gd ns T.dn,_,Z,Lm,aA,rdr,a1v,mB,mP,λent H8 a1H s8=>?_];have lY:=s8 _ _ pC;erw[l,us,_,Z,Z,lY,ao,?_];have e8:(_L.upd H8 l (.lst (us++[ent]))) a=some (.ins C tH (gB uT DM (.int T.dn) (.ref q) Cd (.int T.rate) (.str T.side) (.str T.mark) BI)):=by rw[aY al];erw[s8 _ _ e7]
       erw[_,Z,a,tH,_,_,Z,e8,Z,_,_,Z,Z,tH,_,e8,by show 9<1000;decide,?_];have vl:cQ H8 (_L.upd H8 l (.lst (us++[ent]))):=.upd lY trivial;have va:cQ (_L.upd H8 l (.lst (us++[ent]))) (_L.upd (_L.upd H8 l (.lst (us++[ent]))) a (.ins C tH (gB uT DM (.int ((T.dn:Int)+1)) (.ref q) Cd (.int T.rate) (.str T.side) (.str T.mark) BI))):=.upd e8 trivial;have v7:=(s8.v.trans vl).trans va;have eS:kx M T ns sp={Cv M T (topR S.rate sp) (kj M S) ((aE ns:Int)-T.dn)with dn:=T.dn+1}:=by unfold kx;rw[rT,lX]
       have eE:my M T ns sp=mU M.t (gd ns T.dn) (oK M.r M.f T.pc (topR S.rate sp) (kj M S) ((aE ns:Int)-T.dn) T.bG):=by unfold my mr;rw[rT,lX]
       have a7e:One M T (my M T ns sp) (iA ns (kx M T ns sp)):=.line (by rw[iS];erw[eo]) c3;let(yq,eq7,rq7):=R7.qu;have GR:cx (es++[my M T ns sp])=true:=dU.mpr λd hd=>by
        rcases gy.mp hd with h|h
        ·erw[dU.mp oZ d h]
        ·rw[cV]at h;rw[h];erw[EX _ _ _]
       have q7l:q≠l:=ql;erw[#[kx M T ns sp,es++[my M T ns sp],us++[ent],_,Z,λb o' eb hb=>?_,?_,SW raw aA (by rw[iS];erw[eo]) c2 c3,iS,nO,lX,?_,?_,?_,?_,?_,?_,?_,λz=>by simp at z],?_]
       ·have ha:b≠a:=λz=>hb (by rw[z];simp)
        have gQ:b≠l:=λz=>hb (by rw[z];simp);rw[aY ha,aY gQ];erw[s8 _ _ (b7 _ _ (bt _ _ eb hb) (by rw[cV];erw[ha]))]
       ·rw[eS]
        erw[#[tH,uT,DM,Cd,BI,?_,RD.v v7 _ (kT _ _ _ _ _) Lm,RD.v v7 _ (gp _) YV,YU.v v7,YT.v v7],yq,?_,aI.v v7 _ nos rq7]
        ·erw[bZ]
        ·rw[aY aq.symm,aY ql];erw[s8 _ _ eq7]
       ·show T.dn+1=_
        rw[cv];show _=_+(_+1);lia
       ·show T.dn+1<=_
        lia
       ·rw[cv];show((es.length+1:Nat):Int)<=most;lia
       ·rw[aY al.symm,bZ]
       ·erw[aI.v va _ GR (aI.v vl _ GR ?_)]
        have r7:aI K H8 us es:=aI.mono s8 _ (aI.v BF _ oZ rd);erw[r7.append (cG ?_ cW)];rw[eE];erw[a1H]
       ·erw[GR]
       ·rw[a4A]at run
        erw[run.snoc a7e]
       ·show(match(_L.upd (_L.upd H8 l (.lst (us++[ent]))) a _) l with|some (.lst us)=>2000-us.length|_=>0)<(match H6 l with|some (.lst us)=>2000-us.length|_=>0)
        rw[aY al.symm,bZ,dl];show 2000-(us++[ent]).length<2000-us.length;rw[cv];show 2000-(us.length+1)<_
        lia
     ·rw[dE ao]
      erw[aP ?_];erw[Je ao]
    ·rw[dE c1]
     erw[aP ?_];erw[Je ao]
   ·rintro O H6 Q1 Q2 hq ⟨v1,f1,l',mS,f2,f3,v2,f4,i1,i2,f5,f6,b1,f7,h⟩
    erw[v1,f1,l',mS,f2,f3,v2,f4,i1,i2,f5,f6,b1,f7,D5 ?_ (hq _ _) h];rintro⟨v3,f8,a',vA,p9,u',f9,xE,Jc,v4,f12,i3,i4,f13,f14,b2,Jb,h⟩;erw[v3,f8,a',vA,p9,u',f9,xE,Jc,v4,f12,i3,i4,f13,f14,b2,Jb,D5 ?_ (hq _ _) h];rintro⟨v5,Ja,a2,vz,IQ,J9,J8,J6,a3,q3,M3,D3,S3,J5,J4,J3,J1,b3,J0,h⟩;erw[v5,Ja,a2,vz,IQ,J9,J8,J6,a3,q3,M3,D3,S3,J5,J4,J3,J1,b3,J0,hq _ _ h]
  ·rintro O H6 ⟨T,es,us,w8,rfl,bt,RT,raw,iS,nO,lX,Uk,h1,mG,dl,rd,oZ,run⟩
   let(vy,mv6,bv6,a2J,Y5,e6,t1,t2,t3,t4):=RT.ob;have a7n:T.os≠[]:=by rw[iS];erw[cD]
   have bH:∀{H7:Hp},dI [a] H6 H7->dI [a,q] H H7:=λ{H7} b7 b o' eb hb=>by
    have ha:b≠a:=λz=>hb (by rw[z];simp);erw[b7 _ _ (bt _ _ (mV _ _ eb) λhm=>?_) (by rw[cV];erw[ha])];simp only[cM,iu,kE]at hm;rcases hm with h|h
    ·erw[ha h]
    ·rw[h,nl]at eb;cases eb
   erw[λO H7=>∃q' BE,O=[some (.ref a),some (.int most),some y,some (.int (aE ns)),some (.ref oS),some uj,some uC,some (.ref l),BE]/\cT C H7 a q' M (iA ns T)/\Mv a q H q' H7/\l≠q'/\∃mS,H7 l=some (.lst mS)/\aI K H7 mS es,?_,?_]
   ·erw[kA ?_];intro E2
    erw[_,Z,a,vy,_,_,Z,e6,Z,_,Z,.inl #[_,_,Z,Z,_,Z,?_]];show if decide ((T.dn:Int)=(aE ns:Int))=true then _ else _;by_cases c:T.dn=aE ns
    ·rw[cj ao]
     erw[bM ?_];erw[_,Z,a,vy,_,Z,e6,Z,a,q,M,D,T,Z,RT,raw,aA,a7n,λq' H7 R7 nq b7=>?_];have BF:cQ H6 H7:=b7.v λx hx o' eC=>by rw[cV]at hx;rw[hx,e6]at eC;cases eC;trivial
     erw[q',_,Z,by unfold iA;rw[ba c];erw[R7],#[bH b7,.inr ?_],λz=>?_,us,b7 _ _ dl (by rw[cV];erw[al.symm]),aI.v BF _ oZ rd]
     ·cases e':H q' with |none=>rfl |some o'=>
      have h5:=mV _ _ e';by_cases ha:q'=a
      ·rw[ha,e6]at nq;cases nq
      ·by_cases gQ:q'=l
       ·rw[gQ,nl]at e';cases e'
       ·have:=bt _ _ h5 (by simp;erw[ha,gQ])
        rw[nq]at this;cases this
     ·rw[<-z,dl]at nq;cases nq
    ·rw[dE ao]
     erw[aP ?_];erw[q,_,Z,by unfold iA;rw[bc c];erw[RT],#[bH (dI.refl _ _),.inl Z],ql.symm,us,dl,rd]
   ·rintro O H7 ⟨q',BE,rfl,R7,uT,lq,mS,pC,rd7⟩
    erw[_,Z,k l mS es (iA ns T) q' H7 nl pC rd7 run h1 mG R7 uT lq]
end
section
theorem Mv.trans(m1:Mv a q H q1 H1)(m2:Mv a q1 H1 q2 H2)(ha:H1 a≠none):Mv a q H q2 H2:=by
 erw[λb o e hb=>?_,?_]
 ·erw[m2.but _ _ (m1.but _ _ e hb) λhm=>?_]
  simp only[cM,iu,kE]at hm hb;rcases hm with h|h
  ·erw[hb (.inl h)]
  ·rcases m1.nq with h1|h1
   ·erw[hb (.inr (h.trans h1))]
   ·rw[<-h]at h1;rw[h1]at e;cases e
 ·rcases m2.nq with h|h
  ·rw[h];erw[m1.nq]
  ·cases e:H q2 with |none=>erw[.inr rfl] |some o=>
   by_cases h1:q2=q
   ·erw[.inl h1]
   ·by_cases h2:q2=a
    ·rw[h2]at h;exact(ha h).elim
    ·have:=m1.but _ _ e (by simp;erw[h2,h1])
     rw[h]at this;cases this
inductive adt(C:Addr)(vs:List V)(H:Hp)(Q:VK):Prop |mk (a:_)(q:_)(M:_)(D:_)(S:_)(most:_)(h0:vs=[.ref a,.int most])(h1:cT C H a q M S)(h2:dy M D S)(h3:M.Ok)(h4:S.os≠[])(h5:¬Halt S.pc S.bG)(h6:1<=most)(h7:most<=1000)(h8:∀l ys es S' q' H',H l=none->H' l=some (.lst ys)->aI K H' ys es->Run M S es S'->1<=es.length->(es.length:Int)<=most->cT C H' a q' M S'->Mv a q H q' H'->l≠q'->Q (.ref l) H')
def LQ(C:Addr):Sp:=λvs H Q _=>adt C vs H Q
theorem MO:bf ["self","most","item"] ["self","most"] (aQ OI):=bo aG
theorem a3G(AA:All w K mg)(RR:fJ K mg C D)(a8n:dA P w K mg ay C "steps_of_first" 10 (LO C)):dA P w K mg ay C "entries_of_first" 11 (LQ C):=by
 erw[RR.a5H.has MO (λvs H Q E h=>?_) (λ_ _ _ _ _ _=>eD λ_ _=>rfl) (λf aK A outer s H vs Q E hr h=>?_)]
 · let(a,q,M,D,S,most,rfl,_):=h
   rfl
 · let(a,q,M,D,S,most,rfl,R0,ok,aA,cD,nh,m1,m2,k):=h
   let(dx,mv,bv,cI,tv,e,r1,r2,r3,r4):=R0.ob;let(ys,eq,rq):=R0.qu;have aq:=R0.ne;have nd:=MO.nd;have ll:=ok.row.len;have A0:0<S.os.length:=by cases h:S.os with|nil=>exact(cD h).elim|cons _ _=>simp
   obtain⟨d,ed⟩:∃d,S.ds[0]? =some d:=#[_,bL (show 0<S.ds.length by lia)];let(y,ey,ry):=rq.get 0 ed;let(o,eo,it):=ok.row.get ed;erw[_,(az (pS 2 nd (px K (cS RR.tc.cl RR.tc.kS (pv 0)) aB)) (az (bI (cw (pf (oJ AA) hr (ak (pv 2) au))) (aH (aO (ko a8n RR.tc.cl (hr.mono aw) (pv 0) (ak (pv 1) au)))) bP) (az (iZ (bI (bX (dN K Z hr.units) (px K (pv 2) aB) bR (bQ _)) (aH (iJ RR.tc.cl RR.tc.GU (pv 0) (px K (pv 2) aB))) bP)) (az (iZ (bI (bX (dN K Z hr.units) (px K (pv 2) aB) bR (bQ _)) (aH (iJ RR.tc.cl RR.tc.GW (pv 0) (px K (pv 2) aB))) bP)) (az (fP (jL (RL AA RR) RR.tc.cl (hr.mono aw) (pv 0))) (aH (aO (dj (ak (pv 2) au))))))))),?_];erw[_,Z,a,dx,_,_,Z,e,Z,.inl #[q,_,0,y,Z,Z,aD.of eq,cB (dc 0) ey,?_]];erw[_,Z,y,d,o,Z,ry,it,_,Z,?_];cases o with |some z=>let(ns,sp):=z;erw[bM ?_];erw[_,Z,a,dx,_,Z,e,Z,_,Z,a,q,M,D,S,ns,sp,most,Z,R0,ok,aA,eo,nh,m1,m2,k] |none=>
     erw[aP ?_];have fF:=ok.rw 0 d eo ed;have wd:∃z u ya yr,d= .tuple [.str z,u]/\y= .ref ya/\aU K H ya (.str z::[yr])/\RD K H yr u/\SeqAt.shaped (.str z)=true:=by
      rcases fF with⟨n,rfl,_⟩|⟨w',s',rfl,hw,_⟩
      · let(ya,xs,rfl,h1,h2):=ry.cu
        let(x1,rr,rfl,e1,h2):=h2.cons_inv;let(x2,rr,rfl,e2,h2):=h2.cons_inv;cases h2.nil_inv;cases e1.str_inv;erw[_,_,ya,x2,Z,Z,h1,e2,aG]
      · let(ya,xs,rfl,h1,h2):=ry.cu
        let(x1,rr,rfl,e1,h2):=h2.cons_inv;let(x2,rr,rfl,e2,h2):=h2.cons_inv;cases h2.nil_inv;cases e1.str_inv;erw[_,_,ya,x2,Z,Z,h1,e2,by rcases hw with rfl|rfl<;>decide+kernel]
     let(z,u,ya,yr,rfl,rfl,Ie,Q8,sz):=wd;have tU:SeqAt.shaped (.str "tool")=true:=by decide+kernel
     have tM:SeqAt.shaped (.str "mark")=true:=by decide+kernel
     have eqT:∀(x y:Str),PyData.eqv (.str x) (.str y)=decide (x=y):=λx y=>by show(x==y)=decide (x=y);rw[kg];simp
     erw[λO H1=>O=[some (.ref a),some (.int most),some (.ref ya)]/\dI [a] H H1/\H1 a=some (.ins C dx (gB mv bv (.int S.dn) (.ref q) cI (.int S.rate) (.str (if z="tool" then(cZ (.tuple [.str z,u]) S).side else S.side)) (.str S.mark) tv)),?_,?_]
     · erw[kA ?_];intro E1
       erw[_,Z,.inr #[ya,_,0,.str z,Z,Z,Ie,cB (dc 0) Z,.inr #[_,_,bC _,bC _,sz,tU,_,Z,?_]]];rw[eqT];by_cases c:z="tool"
       · rw[cj c]
         erw[bM ?_];have hu:∃s',u= .str s':=by
          rcases fF with⟨n,h,_⟩|⟨w',s',h,hw,_⟩
          ·cases h;erw[absurd c aG]
          ·cases h;erw[_,rfl]
         let(s',rfl):=hu;cases Q8.str_inv;erw[_,Z,.inr #[ya,_,1,.str s',Z,Z,Ie,cB aw Z,_,Z,a,dx,_,Z,e,by show 9<1000;decide,?_]];erw[Z,JH (by simp),?_];rw[ba c];have es:(cZ (.tuple [.str z,.str s']) S).side=s':=by unfold cZ;simp only[ba c]
         rw[es];erw[bZ]
       · rw[dE c]
         erw[aP #[Z,dI.refl _ _,?_]];rw[bc c];erw[e]
     rintro O H1 ⟨rfl,b1,e1⟩;have XZ:cQ H H1:=b1.v λx hx o' eC=>by rw[cV]at hx;rw[hx,e]at eC;cases eC;trivial
     have TY:=aU.v XZ Ie;erw[λO H2=>O=[some (.ref a),some (.int most),some (.ref ya)]/\dI [a] H H2/\H2 a=some (.ins C dx (gB mv bv (.int S.dn) (.ref q) cI (.int S.rate) (.str (cZ (.tuple [.str z,u]) S).side) (.str (cZ (.tuple [.str z,u]) S).mark) tv)),?_,?_]
     · erw[kA ?_];intro E2
       erw[_,Z,.inr #[ya,_,0,.str z,Z,Z,TY,cB (dc 0) Z,.inr #[_,_,bC _,bC _,sz,tM,_,Z,?_]]];rw[eqT];by_cases c:z="mark"
       · rw[cj c]
         erw[bM ?_];have nt:¬z="tool":=by rw[c];decide+kernel
         rw[bc nt]at e1;have hu:∃s',u= .str s':=by
          rcases fF with⟨n,h,_⟩|⟨w',s',h,hw,_⟩
          ·cases h;erw[absurd c aG]
          ·cases h;erw[_,rfl]
         let(s',rfl):=hu;cases Q8.str_inv;erw[_,Z,.inr #[ya,_,1,.str s',Z,Z,TY,cB aw Z,_,Z,a,dx,_,Z,e1,by show 9<1000;decide,?_]];erw[Z,b1.trans (JH (by simp)),?_];have es:(cZ (.tuple [.str z,.str s']) S).side=S.side/\(cZ (.tuple [.str z,.str s']) S).mark=s':=by constructor<;>(unfold cZ;simp only[bc nt,ba c])
         rw[es.1,es.2];erw[bZ]
       · rw[dE c]
         erw[aP #[Z,b1,?_]];have em:(cZ (.tuple [.str z,u]) S).mark=S.mark:=by
          unfold cZ;split
          · next h => cases h;split
                      ·rfl
                      ·first|rfl|rw[bc c]
          ·rfl
         have es:(if z="tool" then(cZ (.tuple [.str z,u]) S).side else S.side)=(cZ (.tuple [.str z,u]) S).side:=by
          by_cases c2:z="tool"
          ·rw[ba c2]
          · rw[bc c2]
            unfold cZ;split
            ·next h=>cases h;first|rfl|rw[bc c2,bc c]
            ·rfl
         rw[es]at e1;rw[em];erw[e1]
     rintro O H2 ⟨rfl,b2,e2⟩;have yy:cQ H H2:=b2.v λx hx o' eC=>by rw[cV]at hx;rw[hx,e]at eC;cases eC;trivial
     let(Qw,Cg,ds',dn',pl'):=Fi ok.raw (.tuple [.str z,u]);have fx:(cZ (.tuple [.str z,u]) S).pc=S.pc/\(cZ (.tuple [.str z,u]) S).rate=S.rate/\(cZ (.tuple [.str z,u]) S).bG=S.bG:=by
      unfold cZ;split
      · split
        ·erw[Z,Z,Z]
        ·split<;>erw[Z,Z,Z]
      ·erw[Z,Z,Z]
     have R2:cT C H2 a q M (cZ (.tuple [.str z,u]) S):=by
      erw[#[dx,mv,bv,cI,tv,?_,RD.v yy _ (kT _ _ _ _ _) r1,?_,?_,?_],ys,b2 _ _ eq (by rw[cV];erw[aq.symm]),?_]
      ·rw[dn',fx.2.1];erw[e2]
      ·rw[pl'];erw[RD.v yy _ (gp _) r2]
      ·rw[fx.1];erw[r3.v yy]
      ·rw[fx.2.2];erw[r4.v yy]
      ·rw[ds'];erw[aI.v yy _ ok.row.no rq]
     erw[_,Z,a,dx,_,Z,e2,Z,a,q,M,D,_,Z,R2,Qw,aA,by rw[Cg];erw[cD],λq' H3 R3 nq b3=>?_];have JO:=b2.trans b3;have XY:cQ H H3:=JO.v λx hx o' eC=>by rw[cV]at hx;rw[hx,e]at eC;cases eC;trivial
     have nq0:H q'=none:=by cases e':H q' with |none=>rfl |some o'=>
        by_cases ha:q'=a
        ·rw[ha,e2]at nq;cases nq
        · have:=b2 _ _ e' (by rw[cV];erw[ha])
          rw[nq]at this;cases this
     refine⟨_,Z,cy Z,λl H4 n4=>?_⟩;have nl:H l=none:=by cases e':H l with |none=>rfl |some o'=>
        by_cases ha:l=a
        · let(Vi,_,_,_,_,e3,_):=R3.ob
          have:=n4.no;rw[ha,e3]at this;cases this
        · have:=JO _ _ e' (by rw[cV];erw[ha])
          rw[n4.no]at this;cases this
     have okS:dy M D (kY (cZ (.tuple [.str z,u]) S)):=Qw.end (by rw[Cg];erw[cD]);erw[k l [.ref ya] [.tuple [.str z,u]] _ q' H4 nl n4.at' (cG (RD.v (XY.trans n4.same.v) _ (dU.mp ok.row.no _ (fz ed)) ry) cW) (.cons (.fF eo ed nh) (.nil _)) (by simp) (by simpa using m1) (R3.same okS.row.no n4.same) #[λb o' eb hb=>n4.same _ _ (JO _ _ eb (by rw[cV];intro h;erw[hb (by rw[h];simp)])),.inr nq0] ?_];intro h;have:=n4.no;let(yq,eq3,_):=R3.qu;rw[h,eq3]at this;cases this
inductive adu(C:Addr)(vs:List V)(H:Hp)(Q:VK):Prop |mk (a:_)(q:_)(M:_)(D:_)(S:_)(n:_)(h0:vs=[.ref a,.int n])(h1:cT C H a q M S)(h2:dy M D S)(h3:M.Ok)(h4:0<=n)(h5:n<=1000)(h6:∀l ys es S' q' H',H l=none->H' l=some (.lst ys)->aI K H' ys es->Run M S es S'->(es.length:Int)<=n->((es.length:Int)=n\/S'.os=[]\/Halt S'.pc S'.bG)->cT C H' a q' M S'->Mv a q H q' H'->l≠q'->Q (.ref l) H')
def LR(C:Addr):Sp:=λvs H Q _=>adu C vs H Q
theorem MP:bf ["self","n","told"] ["self","n"] (aQ OJ):=bo aG
theorem a3H(AA:All w K mg)(RR:fJ K mg C D)(a8t:dA P w K mg ay C "entries_of_first" 11 (LQ C)):dA P w K mg ay C "entries" 12 (LR C):=by
 exists RR.a5I.has,MP,eD λ_ _=>rfl
 ·let(a,q,M,D,S,n,rfl,R0,ok,aA,n0,n1,k):=h
  have nd:=MP.nd;erw[_,(az (pS 2 nd (dj au)) (az (iZ (uE fS (PW.pt (sr (bX oF (fW K AA.B (ak (pv 2) au)) (pv 1) (bQ _)) (sr (z9 K Z (cS RR.tc.cl RR.tc.kS (pv 0))) (wN (cR (cw (jL (RH AA RR) RR.tc.cl (hr.mono aw) (pv 0)))))))) (aH (fP (zi K Z (pv 2) (ak (ko a8t RR.tc.cl (hr.mono aw) (pv 0) (ak (aM j6 (pv 1) (fW K AA.B (ak (pv 2) au))) au)) au)))))) (aH (aO (pv 2))))),?_];erw[cy Z,λl H1 nw=>?_];let(dx,mv,bv,cI,tv,e,r1,r2,r3,r4):=R0.ob;let(ys,eq,rq):=R0.qu;have al:a≠l:=λz=>by have:=nw.no;rw[<-z,e]at this;cases this
  have ql:q≠l:=λz=>by have:=nw.no;rw[<-z,eq]at this;cases this
  have U7:H q≠none:=by rw[eq];simp
  have ha0:H a≠none:=by rw[e];simp
  erw[λO H2=>∃es S' q' us,O=[some (.ref a),some (.int n),some (.ref l)]/\cT C H2 a q' M S'/\H2 l=some (.lst us)/\aI K H2 us es/\Run M S es S'/\(es.length:Int)<=n/\((es.length:Int)=n\/S'.os=[]\/Halt S'.pc S'.bG)/\Mv a q H q' H2/\l≠q',?_,?_]
  ·erw[kA ?_];intro E3
   erw[uf (λO H2=>∃es S' q' us,O=[some (.ref a),some (.int n),some (.ref l)]/\cT C H2 a q' M S'/\H2 l=some (.lst us)/\aI K H2 us es/\Run M S es S'/\(es.length:Int)<=n/\Mv a q H q' H2/\l≠q') (λ_ H2=>match H2 l with|some (.lst us)=>2000-us.length|_=>0) ?_ ?_ ?_]
   ·erw[[],S,q,[],Z,R0.same ok.row.no nw.same,nw.at',cW,.nil _,by simpa using n0,#[.of nw.same,.inl rfl],ql.symm]
   ·rintro O H2 ⟨es,S',q',us,rfl,R2,dl,rd,run,mG,xl,lq⟩
    have uN:=run.ok ok aA;have oZ:=run.no ok aA;have lu:=rd.length;let(vz,Sv,bv2,afE,tv2,e2,t1,t2,t3,t4):=R2.ob;let(yq,eq2,rq2):=R2.qu;have Hh:=rq2.length;have SY:=uN.row.len;erw[_,Z,l,us,Z,.inl (aD.of dl),_,Z,_,_,Z,Z,_,Z,?_];show if decide ((us.length:Int)<n)=true then _ else _;by_cases c1:(us.length:Int)<n
    ·rw[cj c1]
     erw[bM ?_];erw[_,Z,a,vz,_,_,Z,e2,Z,_,.inl #[_,aD.of eq2,Z],?_];cases kU:S'.os with |nil=>have:yq=[]:=Kw.mp (by rw[Hh,SY,kU];rfl);subst this;erw[aP ?_];erw[es,S',q',us,Z,R2,dl,rd,run,mG,.inr (.inl kU),xl,lq] |cons o os=>
      have cD:S'.os≠[]:=by rw[kU];simp
      have:∃y yr,yq=y::yr:=by cases yq with |nil=>rw[SY,kU]at Hh;simp at Hh |cons y yr=>erw[y,yr,Z]
      let(y,yr,rfl):=this;erw[bM ?_];erw[_,Z,a,vz,_,Z,e2,Z,a,q',M,D,S',Z,R2,uN,aA,_,Z,?_];by_cases c3:Halt S'.pc S'.bG
      ·have hb:(S'.bG.isSome&&decide (S'.pc=0))=true:=by let(h1,h2):=c3;rw[cj h2,Bt];cases hs:S'.bG with |none=>exact(h1 hs).elim |some _=>rfl
       rw[hb];erw[aP #[es,S',q',us,Z,R2,dl,rd,run,mG,.inr (.inr c3),xl,lq]]
      ·have hb:(S'.bG.isSome&&decide (S'.pc=0))=false:=by cases hs:S'.bG with |none=>rfl |some _=>show decide (S'.pc=0)=false;erw[dE λh2=>c3 #[by rw[hs];simp,h2]]
       rw[hb];erw[bM ?_];erw[_,Z,.inl #[Z,_,aD.of dl],?_];erw[_,Z,a,vz,_,Z,e2,Z,_,Z,_,Z,l,us,Z,.inl (aD.of dl),_,_,Z,Z,?_];erw[a,q',M,D,S',_,Z,R2,uN,aA,cD,c3,ao,ao,λl2 y2 fs S2 q2 H3 uR xK wK FK f1 f2 R3 zK lq2=>?_];have XW:=R2.v zK.but;have nQ:=zK.but _ _ dl (by simp;erw[al.symm,lq]);have pX:=aI.v XW _ oZ rd;have SK:=wK.length;have iQ:sizeLine=16777216:=by decide
       erw[l,l2,us,y2,Z,Z,nQ,xK,ao,?_];have vu:cQ H3 (_L.upd H3 l (.lst (us++y2))):=.upd nQ trivial;have a7j:=FK.no uN aA;have gY:=FK.ok uN aA;have SO:l≠q2:=λz=>by
        rcases zK.nq with h|h
        ·erw[lq (z.trans h)]
        ·rw[<-z,dl]at h;cases h
       erw[#[es++fs,S2,q2,us++y2,Z,R3.go gY.row.no vu (λo' eC=>by rw[aY al];erw[eC]) (λo' eC=>by rw[aY SO.symm];erw[eC]),bZ,(aI.v vu _ oZ pX).append (aI.v vu _ a7j wK),run.trans FK,by rw[cv];lia,?_,SO],?_]
       ·have m:=xl.trans zK (by rw[e2];simp)
        erw[λb o' eb hb=>by
         have gQ:b≠l:=λz=>by have:=nw.no;rw[<-z,eb]at this;cases this
         rw[aY gQ];erw[m.but _ _ eb hb],m.nq]
       ·show(match(_L.upd H3 l (.lst (us++y2))) l with|some (.lst us)=>2000-us.length|_=>0)<(match H2 l with|some (.lst us)=>2000-us.length|_=>0)
        rw[bZ,dl];show 2000-(us++y2).length<2000-us.length;rw[cv]
        lia
    ·rw[dE c1]
     erw[aP ?_];erw[es,S',q',us,Z,R2,dl,rd,run,mG,.inl ao,xl,lq]
   ·rintro O H6 Q1 Q2 hq ⟨v1,f1,l',mS,f2,f3,v2,f4,i1,i2,f5,f6,b1,f7,h⟩
    erw[v1,f1,l',mS,f2,f3,v2,f4,i1,i2,f5,f6,b1,f7,D5 ?_ (hq _ _) h];rintro⟨v3,f8,a',vA,p9,u',f9,xE,Jc,b2,Jb,h⟩;erw[v3,f8,a',vA,p9,u',f9,xE,Jc,b2,Jb,D5 ?_ (hq _ _) h];rintro⟨v5,Ja,a2,vz,IQ,J9,J8,J6,a3,q3,M3,D3,S3,J5,J4,J3,J1,b3,J0,h⟩;erw[v5,Ja,a2,vz,IQ,J9,J8,J6,a3,q3,M3,D3,S3,J5,J4,J3,J1,b3,J0,hq _ _ h]
  ·rintro O H2 ⟨es,S',q',us,rfl,R2,dl,rd,run,mG,nG,xl,lq⟩
   erw[_,Z,k l us es S' q' H2 nw.no dl rd run mG nG R2 xl lq]
end
section
theorem cT.a28{mv:V}(R:cT C H a q M S)(e:H a=some (.ins C dx (gB mv bv (.int S.dn) (.ref q) cI (.int S.rate) (.str S.side) (.str S.mark) tv))){DN Ce BJ:V}(hn:cx S.ds=true)(hd:S'.ds=S.ds) (r1:RD K H mv M.D)(r2:RD K H DN (dh S'.pl))(r3:bJ H Ce S'.pc)(r4:xX H BJ S'.bG):cT C (_L.upd H a (.ins C dx (gB mv DN (.int S'.dn) (.ref q) Ce (.int S'.rate) (.str S'.side) (.str S'.mark) BJ))) a q M S':=by
 have v:cQ H (_L.upd H a (.ins C dx (gB mv DN (.int S'.dn) (.ref q) Ce (.int S'.rate) (.str S'.side) (.str S'.mark) BJ))):=.upd e trivial;let(ys,eq,rq):=R.qu;erw[#[dx,mv,DN,Ce,BJ,bZ,RD.v v _ (kT _ _ _ _ _) r1,RD.v v _ (gp _) r2,r3.v v,r4.v v],ys,?_,?_]
 ·rw[aY R.ne.symm];erw[eq]
 ·rw[hd];erw[aI.v v _ hn rq]
theorem a0y:bf ["self","rate"] ["self","rate"] (aQ Ot):=bo aG
inductive adn(C:Addr)(vs:List V)(H:Hp)(Q:VK):Prop |mk (a:_)(q:_)(M:_)(D:_)(S:_)(rate:_)(h0:vs=[.ref a,.int rate])(h1:cT C H a q M S)(h2:dy M D S)(h3:M.Ok)(h4:10<=rate)(h5:rate<=200)(h6:S.pc=0)(h7:∀H',cT C H' a q M {S with rate:=rate}->dI [a] H H'->Q (.int rate) H')
def ZD(C:Addr):Sp:=λvs H Q _=>adn C vs H Q
theorem a3v(AA:All w K mg)(RR:fJ K mg C D):dA P w K mg ay C "turn_rate" 4 (ZD C):=by
 exists RR.a5u.has,a0y,eD λ_ _=>rfl
 ·let(a,q,M,D,S,rate,rfl,R,ok,aA,h1,h2,hp,k):=h
  let(dx,mv,bv,cI,tv,e,r1,r2,r3,r4):=R.ob;erw[_,(az (bI (cR (cw (pf (RV AA) hr (ak (pv 1) au)))) (aH kn) bP) (az (bI (cR (cw (jL (RE AA RR) RR.tc.cl (hr.mono aw) (pv 0)))) (aH kn) bP) (az (iJ RR.tc.cl RR.tc.zI (pv 0) (pv 1)) (aH (aO (pv 1)))))),?_];erw[_,Z,_,.int rate,Z,fO _,_,Z,?_];have er:G4 (.int rate)=true:=by show(decide (10<=rate)&&decide (rate<=200))=true;rw[cj h1,cj h2];rfl
  rw[er];erw[aP ?_];erw[_,Z,a,dx,_,Z,e,Z,a,q,M,D,S,Z,R,ok,aA,_,Z,?_];rw[cj hp];erw[aP ?_];erw[_,Z,_,Z,a,dx,_,Z,e,by show 9<1000;decide,?_];erw[_,Z,k _ (R.a28 (S':={S with rate:=rate}) e ok.row.no rfl r1 r2 r3 r4) (JH (by simp))]
end
section
noncomputable def jm(M:bw)(rate:Int)(os:List Itm)(i k:Nat):Rat:=match os[i]? with |some (some (ns,sp))=>mn (mn (cH M.r M.f M.j rate os i+((2*M.r*(k:Int):Int):Rat)) (topR rate sp)) (fl os.length (leadF os) (2*M.f) (ownF M.j rate os) (i+1)+((2*M.f*((aE ns:Int)-k):Int):Rat)) |_=>cH M.r M.f M.j rate os i
structure Inv1(M:bw)(rate:Int)(pl:List Int)(ds:List ah)(os:List Itm)(i k:Nat)(T:bp):Prop where
 nO:T.ds=ds.drop i
 iS:T.os=os.drop i
 DE:T.dn=k
 kl:k=0\/∃ns sp,os[i]? =some (some (ns,sp))/\k<aE ns
 DA:T.pc=jm M rate os i k
 lX:T.rate=rate
 Dz:T.bG=none
 Jg:T.pl=(os.take i).foldl g9 pl
 il:i<=os.length
noncomputable def upTo(M:bw)(rate:Int)(ds:List ah)(os:List Itm)(i k:Nat):List ah:=fC M.r M.f M.j M.t rate ds os i++(fR M.r M.f M.j M.t rate ds os i).take k
theorem a6F(r:Int)(k:Nat):((2*r*((k+1:Nat):Int):Int):Rat)=((2*r*(k:Int):Int):Rat)+2*(r:Rat):=by
 have e:2*r*((k+1:Nat):Int)=2*r*(k:Int)+2*r:=by rw[Int.natCast_add,Int.mul_add];omega
 rw[e,Bb,Ki 2 r];rfl
theorem zd{M:bw}{rate:Int}{os:List Itm}(aA:M.Ok){i:Nat}(hi:i<=os.length):cH M.r M.f M.j rate os i=Rz (fl os.length (leadF os) (2*M.f) (ownF M.j rate os)) (leadF os) (2*M.r) i:=by have iz:=aA.r1;have ie:=aA.f1;exact(acD aL aL i hi).symm
theorem zj{D:Nat}{rate:Int}{ds:List ah}{os:List Itm}(aA:M.Ok){i:Nat}(hi:i<=os.length):jm M rate os i 0=cH M.r M.f M.j rate os i:=by
 have iz:=aA.r1;have ie:=aA.f1;unfold jm;split
 ·next ns sp e=>
  have hl:i<os.length:=(cK.mp e).1;have e0:((2*M.r*((0:Nat):Int):Int):Rat)=0:=by
   have:2*M.r*((0:Nat):Int)=0:=by simp
   rw[this];rfl
  rw[e0];refine(a2M ?_ ?_).symm
  ·erw[cL (Ca hi) (QY e)]
  ·rw[zd aA hi]
   erw[cL (DY i) ?_];rw[nM hl (qr e)];erw[cL (gN _ _) ?_];have e1:2*M.f*((aE ns:Int)-((0:Nat):Int))=2*M.f*(aE ns:Int):=by simp
   rw[e1];erw[iE]
 ·rfl
theorem a2Q{rate:Int}{os:List Itm}(aA:M.Ok){i:Nat}{ns:List Int}{sp:Int}(e:os[i]? =some (some (ns,sp))):jm M rate os i (aE ns)=cH M.r M.f M.j rate os (i+1):=by
 have iz:=aA.r1;have ie:=aA.f1;have hl:i<os.length:=(cK.mp e).1;unfold jm;rw[e];show mn (mn _ _) _=_;have e1:((2*M.f*((aE ns:Int)-(aE ns:Int)):Int):Rat)=0:=by rw[Int.sub_self,Int.mul_zero];rfl
 rw[e1];erw[a2R ?_ (cL (IW aL) (QZ e))];rw[zd aA (show i+1<=os.length by omega),o5 (qr e),<-zd aA (show i<=os.length by omega)]
theorem a2O{rate:Int}{os:List Itm}(aA:M.Ok){i k:Nat}{ns:List Int}{sp:Int}(e:os[i]? =some (some (ns,sp)))(hk:k<aE ns): uO M.r M.f (jm M rate os i k) (topR rate sp) (fl os.length (leadF os) (2*M.f) (ownF M.j rate os) (i+1)) ((aE ns:Int)-k) none=jm M rate os i (k+1)/\oK M.r M.f (jm M rate os i k) (topR rate sp) (fl os.length (leadF os) (2*M.f) (ownF M.j rate os) (i+1)) ((aE ns:Int)-k) none=gP M.r M.f (aE ns) (topR rate sp) (cH M.r M.f M.j rate os i) (cH M.r M.f M.j rate os (i+1)) k:=by
 have iz:=aA.r1;have ie:=aA.f1;have hl:i<os.length:=(cK.mp e).1;have rq:(0:Rat)<=(M.r:Rat):=Kh.mpr aL;have fq:(0:Rat)<=(M.f:Rat):=Kh.mpr aL;have ep:∀k,jm M rate os i k=mn (mn (cH M.r M.f M.j rate os i+((2*M.r*(k:Int):Int):Rat)) (topR rate sp)) (fl os.length (leadF os) (2*M.f) (ownF M.j rate os) (i+1)+((2*M.f*((aE ns:Int)-k):Int):Rat)):=λk=>by unfold jm;rw[e]
 have c2:((2*M.r:Int):Rat)=2*(M.r:Rat):=by rw[Ki];rfl
 erw[?_,?_]
 ·show mn (mn (jm M rate os i k+((2*M.r:Int):Rat)) (topR rate sp)) (_+((2*M.f*((aE ns:Int)-k-1):Int):Rat))=_
  rw[ep (k+1),c2];have e1:((2*M.f*((aE ns:Int)-((k+1:Nat):Int)):Int):Rat)=((2*M.f*((aE ns:Int)-k-1):Int):Rat):=by congr 2;omega
  rw[e1];erw[a2N (A:=((2*M.r*(k:Int):Int):Rat)) (F:=((2*M.f*((aE ns:Int)-k):Int):Rat)) rq fq (a6F M.r k) ?_ (ep k)];have e2:2*M.f*((aE ns:Int)-k)=2*M.f*((aE ns:Int)-k-1)+2*M.f:=by rw[Int.mul_sub (2*M.f) _ 1];omega
  rw[e2,Bb,Ki 2 M.f];rfl
 ·show mn (mn (jm M rate os i k+(M.r:Rat)) (topR rate sp)) (_+((M.f*(2*((aE ns:Int)-k)-1):Int):Rat))=_
  have eB:((M.r*(2*(1+(k:Int))-1):Int):Rat)=((2*M.r*(k:Int):Int):Rat)+(M.r:Rat):=by
   rw[<-Bb];congr 1;have h1:2*(1+(k:Int))-1=2*k+1:=by omega
   rw[h1,Int.mul_add,ua,KG,uc]
  have eG:((2*M.f*((aE ns:Int)-k):Int):Rat)=((M.f*(2*((aE ns:Int)-k)-1):Int):Rat)+(M.f:Rat):=by rw[<-Bb];congr 1;rw[Int.mul_sub M.f,ua,KG,uc];omega
  rw[a2P (B:=((M.r*(2*(1+(k:Int))-1):Int):Rat)) (G:=((M.f*(2*((aE ns:Int)-k)-1):Int):Rat)) rq fq eB eG (ep k)];show _=gP _ _ _ _ _ _ _;unfold gP;have eG2:((M.f*(2*((aE ns:Int)-(1+(k:Int)))+1):Int):Rat)=((M.f*(2*((aE ns:Int)-k)-1):Int):Rat):=by congr 2;omega
  rw[eG2];refine(Yr (T:=((2*M.r*(aE ns:Int):Int):Rat)) ?_ ?_ ?_).symm
  ·rw[zd aA (show i+1<=os.length by omega),o5 (qr e),<-zd aA (show i<=os.length by omega)]
  ·erw[Ba.mpr ?_]
   have h1:M.r*(2*(1+(k:Int))-1)<=M.r*(2*(aE ns:Int)):=Ey aL aL;have h2:M.r*(2*(aE ns:Int))=2*M.r*(aE ns:Int):=by rw[KG,uc]
   omega
  ·erw[Kh.mpr (gT aL aL)]
theorem drop_cons{α:Type}{l:List α}{i:Nat}{x:α}(h:l[i]? =some x):l.drop i=x::l.drop (i+1):=by have hl:i<l.length:=(cK.mp h).1;rw[List.drop_eq_getElem_cons hl];rw[bL hl]at h;cases h;rfl
theorem a2j{M:bw}{rate:Int}{os:List Itm}(aA:M.Ok){i:Nat}(e:os[i]? =some none):cH M.r M.f M.j rate os i=cH M.r M.f M.j rate os (i+1):=by
 have iz:=aA.r1;have ie:=aA.f1;have hl:i<os.length:=(cK.mp e).1;let(h0,h1):=a2T (j:=M.j) (rate:=rate) e;have nn:=C9 (n:=os.length) (own:=ownF M.j rate os) (L:=leadF os) (r:=2*M.r) (f:=2*M.f) aL aL (λi _=>_O.zk M.j rate os i);have z:∀c,c<=os.length->ownF M.j rate os c=0->cH M.r M.f M.j rate os c=0:=λc hc e'=>by erw[rn ?_ (nn c hc)];rw[<-e'];erw[Ca hc]
 rw[z i aL h0,z (i+1) aL h1]
theorem a3c{D:Nat}{rate:Int}{pl:List Int}{ds:List ah}{os:List Itm}(aA:M.Ok)(row:cU M.rs.length ds os){i k:Nat}{T T1:bp}{e:ah}(h:Inv1 M rate pl ds os i k T)(o:One M T e T1): ∃i' k',Inv1 M rate pl ds os i' k' T1/\upTo M rate ds os i' k'=upTo M rate ds os i k++[e]:=by
 have ll:=row.len;have hn:T.os≠[]:=by intro z;cases o with |line e1 _=>rw[z]at e1;simp at e1 |fF e1 _ _=>rw[z]at e1;simp at e1
 have il:i<os.length:=by
  rcases Kr i os.length with c|c
  ·erw[c]
  ·exact(hn (by rw[h.iS,List.drop_eq_nil_of_le c])).elim
 obtain⟨x,ex⟩:∃x,os[i]? =some x:=#[_,bL il];obtain⟨d,ed⟩:∃d,ds[i]? =some d:=#[_,bL (show i<ds.length by omega)];have iS:T.os=x::os.drop (i+1):=by rw[h.iS];erw[drop_cons ex]
 have nO:T.ds=d::ds.drop (i+1):=by rw[h.nO];erw[drop_cons ed]
 have QL:(os.take (i+1)).foldl g9 pl=g9 T.pl x:=by rw[lF,ex,u9,h.Jg];rfl
 cases o with |@line ns sp e1 nh=>
  rw[iS]at e1;cases e1;have bW:=(row.ok i ns sp ex).1;have lp:=bW.lead.1;have hk:k<aE ns:=by
   rcases h.kl with z|⟨zA,pT,z1,z2⟩
   ·omega
   ·rw[ex]at z1;cases z1;erw[z2]
  have Qv:kj M T=fl os.length (leadF os) (2*M.f) (ownF M.j rate os) (i+1):=by unfold kj FX;rw[h.iS,h.lX];erw[a1J il]
  let(pe,pm):=a2O (rate:=rate) aA ex hk;have eN:kx M T ns sp={T with pc:=jm M rate os i (k+1),dn:=k+1,bG:=none}:=by unfold kx Cv;rw[Qv,h.lX,h.DE,h.Dz,h.DA,pe];rfl
  have eE:my M T ns sp=mU M.t (gd ns k) (gP M.r M.f (aE ns) (topR rate sp) (cH M.r M.f M.j rate os i) (cH M.r M.f M.j rate os (i+1)) k):=by unfold my mr;rw[Qv,h.lX,h.DE,h.Dz,h.DA,pm]
  have eL:=tF (r:=M.r) (f:=M.f) (j:=M.j) (ti:=M.t) (rate:=rate) (ds:=ds) ex;have gk:(fR M.r M.f M.j M.t rate ds os i)[k]? =some (my M T ns sp):=by rw[eL,j8,bO,mQ hk,eE];rfl
  have lE:(fR M.r M.f M.j M.t rate ds os i).length=aE ns:=by rw[eL,j8,aW,iy]
  have up:upTo M rate ds os i (k+1)=upTo M rate ds os i k++[my M T ns sp]:=by unfold upTo;rw[lF,gk,yn];rfl
  rw[eN];unfold iA;by_cases c:k+1=aE ns
  ·erw[i+1,0,?_,?_]
   ·rw[ba c]
    have Jq:kY {T with pc:=jm M rate os i (k+1),dn:=k+1,bG:=none}={T with pc:=jm M rate os i (k+1),dn:=0,bG:=none,pl:=g9 T.pl (some (ns,sp)),ds:=ds.drop (i+1),os:=os.drop (i+1)}:=by unfold kY;simp only[iS,nO];rfl
    rw[Jq];erw[Z,Z,Z,.inl Z,?_,h.lX,Z,QL.symm,aL];show jm M rate os i (k+1)=jm M rate os (i+1) 0;rw[c,a2Q aA ex,zj (D:=D) (ds:=ds) aA aL]
   ·rw[<-up]
    unfold upTo;rw[wg,om,c,tZ aL];rfl
  ·erw[i,k+1,?_,up]
   rw[bc c];erw[h.nO,h.iS,Z,.inr #[ns,sp,ex,aL],Z,h.lX,Z,h.Jg,h.il] |fF e1 e2 nh=>
  rw[iS]at e1;cases e1;rw[nO]at e2;cases e2;have k0:k=0:=by
   rcases h.kl with z|⟨zA,pT,z1,z2⟩
   ·erw[z]
   ·rw[ex]at z1;cases z1
  subst k0;erw[i+1,0,?_,?_]
  ·have sO:(cZ e T).os=T.os/\(cZ e T).ds=T.ds/\(cZ e T).pl=T.pl/\(cZ e T).pc=T.pc/\(cZ e T).rate=T.rate/\(cZ e T).bG=T.bG:=by
    unfold cZ;split
    ·split
     ·erw[Z,Z,Z,Z,Z,Z]
     ·split<;>erw[Z,Z,Z,Z,Z,Z]
    ·erw[Z,Z,Z,Z,Z,Z]
   let(s1,s2,s3,s4,s5,s6):=sO;have Jq:kY (cZ e T)={cZ e T with pl:=g9 T.pl none,ds:=ds.drop (i+1),os:=os.drop (i+1),dn:=0}:=by unfold kY;rw[s1,iS];simp only[s2,s3,nO];rfl
   rw[Jq];erw[Z,Z,Z,.inl Z,?_,by show(cZ e T).rate=_;rw[s5];erw[h.lX],by show(cZ e T).bG=_;rw[s6];erw[h.Dz],QL.symm,aL];show(cZ e T).pc=_;rw[s4,h.DA,zj (D:=D) (ds:=ds) aA aL,zj (D:=D) (ds:=ds) aA aL];erw[a2j aA ex]
  ·unfold upTo
   rw[wg,om,wg,om];show fC _ _ _ _ _ _ _ i++fR _ _ _ _ _ _ _ i=_;rw[xF ex ed]
theorem Qc{D:Nat}{rate:Int}{pl:List Int}{ds:List ah}{os:List Itm}(aA:M.Ok)(row:cU M.rs.length ds os){T T1:bp}{es:List ah}(r:Run M T es T1):∀{i k:Nat},Inv1 M rate pl ds os i k T->∃i' k',Inv1 M rate pl ds os i' k' T1/\upTo M rate ds os i' k'=upTo M rate ds os i k++es:=by induction r with |nil=>intro i k h;erw[i,k,h,by rw[om]] |cons o _ ih=>intro i k h;let(i1,k1,h1,e1):=a3c (D:=D) aA row h o;let(i2,k2,h2,e2):=ih h1;erw[i2,k2,h2,by rw[e2,e1,yn];rfl]
theorem a6z{rate:Int}{pl:List Int}{ds:List ah}{os:List Itm}{i k:Nat}(h:Inv1 M rate pl ds os i k T)(hn:T.os=[]):i=os.length/\k=0/\upTo M rate ds os i k=fC M.r M.f M.j M.t rate ds os os.length:=by
 have hi:i=os.length:=by
  rcases Kr i os.length with c|c
  ·have:=h.iS
   rw[hn]at this;have h2:=lC List.length this;rw[Bm]at h2;simp at h2;omega
  ·have:=h.il;omega
 have hk:k=0:=by
  rcases h.kl with z|⟨ns,sp,z,_⟩
  ·erw[z]
  ·have:=(cK.mp z).1;omega
 erw[hi,hk,?_];subst hi hk;unfold upTo;rw[wg,om]
end
end _a
set_option maxHeartbeats 4000000
namespace _a
open PySem PySem.Spec PyProof.Rows _L _b _l _C _P _W _R
open _O (topR cornO mnO betR atO ownF leadF ownL OkI OkIs)
section
theorem a2o{D:Nat}(ok:dy M D S):(jj S).length=M.rs.length:=by
 unfold jj;split
 ·erw[ok.pl]
 ·split
  ·next ns sp eo=>rw[qU (by rw[ok.pl];simp[rW];exact(ok.row.ok 0 ns sp eo).1.len)];erw[ok.pl]
  ·erw[ok.pl]
theorem CD(hq:0<q)(hk:0<=k)(qB:k<=q)(hz:0<=z):0<=gZ (k*z) q/\gZ (k*z) q<=z:=by
 have hp:0<=k*z:=gT hk hz;erw[a4Y hq hp,?_];have h1:k*z<=q*z:=Bp qB hz;unfold gZ;rw[ba hp];let(a,_):=M8 (p:=k*z) hq;have e:(((k*z).natAbs:Nat):Int)=k*z:=Int.natAbs_of_nonneg hp;rw[e]at a;by_cases hh:jG (k*z) q<=z
 ·erw[hh]
 ·exfalso
  have h2:z+1<=jG (k*z) q:=by lia
  have h3:q*(z+1)<=q*jG (k*z) q:=Ey h2 (Ez hq);have h4:q*(z+1)=q*z+q:=by rw[Int.mul_add,ua]
  have h5:2*q*jG (k*z) q=2*(q*jG (k*z) q):=by rw[uc]
  rw[h5]at a
  lia
theorem a50(hq:0<q)(hk:0<=k)(qB:k<=q)(a0:0<=a)(a1:a<=r)(b0:0<=a+z)(b1:a+z<=r):0<=a+gZ (k*z) q/\a+gZ (k*z) q<=r:=by
 by_cases hz:0<=z
 ·have:=CD hq hk qB hz
  lia
 ·have h:=CD (z:=-z) hq hk qB ao
  rw[show k*-z=-(k*z) by rw[Int.mul_neg],Sm hq]at h
  lia
theorem a3d{rs pl ns:List Int}{k:Int}(hn:ns.length=pl.length)(hq:0<(aE ns:Int))(hk:0<=k)(qB:k<=aE ns)(h0:fo rs pl)(h1:fo rs (gb pl ns)):fo rs (gb pl (rW ns k)):=by
 have ls:(rW ns k).length=pl.length:=by unfold rW;rw[aW];erw[hn]
 erw[by rw[qU ls];erw[h0.len],λi x r e1 e2=>?_];have hi:i<rs.length:=(cK.mp e2).1;have hip:i<pl.length:=by rw[h0.len];erw[hi]
 obtain⟨a,ea⟩:∃a,pl[i]? =some a:=#[_,bL hip];obtain⟨z,ez⟩:∃z,ns[i]? =some z:=#[_,bL (show i<ns.length by lia)];have es:(rW ns k)[i]? =some (gZ (k*z) (aE ns)):=by unfold rW;rw[bO,ez];rfl
 rw[AJ ea es]at e1;cases e1;have p0:=h0.at' i a r ea e2;have p1:=h1.at' i (a+z) r (AJ ea ez) e2;erw[a50 hq hk qB p0.1 p0.2 p1.1 p1.2]
def iD(M:bw)(S:bp):Prop:=∀i,i<=S.os.length->fo M.rs ((S.os.take i).foldl g9 S.pl)
theorem iD.pl(h:iD M S):fo M.rs S.pl:=h 0 (eX _)
theorem iD.eq(h:iD M S)(e1:S'.os=S.os)(e2:S'.pl=S.pl):iD M S':=by unfold iD;rw[e1,e2];erw[h]
theorem iD.vp{d:ah}(h:iD M S)(ho:fo M.rs (g9 (kW S) o)):iD M (tq S d o):=λi hi=>by
 show fo M.rs (((S.os++[o]).take i).foldl g9 S.pl);have nF:i<=S.os.length+1:=by
  have:(tq S d o).os.length=S.os.length+1:=by show(S.os++[o]).length=_;rw[cv];rfl
  lia
 by_cases hl:i<=S.os.length
 ·rw[afr hl]
  erw[h i hl]
 ·rw[tZ (by rw[cv];show S.os.length+1<=i;lia),u9]
  erw[ho]
theorem iD.end(h:iD M S):iD M (kY S):=by unfold kY;cases e:S.os with |nil=>erw[h] |cons o os=>intro i hi;have:=h (i+1) (by rw[e];erw[Nat.succ_le_succ hi]);rw[e]at this;erw[this]
theorem iD.place{D:Nat}(ok:dy M D S)(h:iD M S):fo M.rs (jj S):=by
 by_cases h0:S.dn=0
 ·unfold jj
  rw[ba h0];erw[h.pl]
 ·let(ns,sp,eo,hd):=ok.first h0
  have bW:=(ok.row.ok 0 ns sp eo).1;unfold jj;rw[bc h0,eo];have lp:=bW.lead.1;have h1:=h 1 (by have:=(cK.mp eo).1;lia);have e1:(S.os.take 1).foldl g9 S.pl=gb S.pl ns:=by cases e:S.os with |nil=>rw[e]at eo;simp at eo |cons o os=>rw[e]at eo;cases(eW eo);rfl
  rw[e1]at h1;erw[a3d (by rw[bW.len];erw[h.pl.len.symm]) ao ao ao h.pl h1]
theorem One.Gv{D:Nat}(ok:dy M D S)(o:One M S e S1)(h:iD M S):iD M S1:=by cases o with
 |@line ns sp eo nh=>
  have h1:iD M (kx M S ns sp):=h.eq Z rfl;unfold iA;split
  ·erw[h1.end]
  ·erw[h1] |fF eo ed nh=>let(_,e1,_,_,e2):=Fi ok.raw e;exact(h.eq e1 e2).end
theorem Run.Gv{D:Nat}(ok:dy M D S)(aA:M.Ok)(r:Run M S es S1)(h:iD M S):iD M S1:=by induction r with |nil=>erw[h] |cons o _ ih=>erw[ih (One.ok ok aA o) (o.Gv ok h)]
end
end _a
set_option maxHeartbeats 1000000
namespace _a
open PySem PySem.Spec PyProof.Rows _L
open _T (numS)
section
def AS (i:Int):Prop:=i.natAbs<10^540
inductive adF(vs:List V)(H:Hp)(Q:VK):Prop |mk (i:_)(h0:vs=[.int i])(h1:AS i)(h2:∀H',aF H H'->Q (.str (numS i)) H')
def F9:Sp:=λvs H Q _=>adF vs H Q
theorem Sg{d:ah}(h:cx ds=true)(i:dW d=true):cx (ds++[d])=true:=dU.mpr λx hx=>(gy.mp hx).elim (dU.mp h x) λz=>by rw[cV.mp z];erw[i]
theorem MC:bf ["number","rest","parts","low","written"] ["number"] (aQ Oe):=bo aG
theorem oH(AA:All w K mg):bj P w K mg ay "show_number" 1 F9:=by
 erw[AA.a9u.has MC (λvs H Q E h=>?_) (λ_ _ _ _ _ _=>dg λ_=>rfl) (λf aK A outer s H vs Q E hr h=>?_)]
 · let(i,rfl,_):=h
   rfl
 · let(i,rfl,hn,k):=h
   have nd:=MC.nd;erw[_,(az (pS 1 nd (fh (x:="abs") tK Z (AA.B.at "abs") w6 (ak (pv 0) au))) (az (pS 2 nd (dj au)) (az (uE fS (bX Cj (pv 1) (dM (x:="PART") Z AA.UC) (bQ _)) (az (fg (fh (x:="divmod") abM Z (AA.B.at "divmod") PyProof.Rows.boot_divmod (ak (pv 1) (ak (dM (x:="PART") rfl AA.UC) au))) (eu K rfl (n:=2) rfl (bV (aR 1 nd) (bV (aR 3 nd) eg)))) (aH (fP (iL K Z (pv 2) (ak (a2F K Z (dF (x:="str") jV Z (AA.B.at "str") jC (ak (pv 3) au)) (ak (dM (x:="PART_FIGURES") rfl AA.a8L) au)) au)))))) (az (fP (iL K Z (pv 2) (ak (dF (x:="str") jV Z (AA.B.at "str") jC (ak (pv 1) au)) au))) (az (pS 4 nd (a2I K Z Z (AA.B.at "reversed") bR (ak (pv 2) au))) (aH (aO (kr (bX oF (pv 0) aB (bQ _)) (wR (gC bR (gC (kO (pv 4)) wQ))) (pv 4))))))))),?_];erw[_,Z,i,Z,?_];rw[show(if i<0 then-i else i)=((i.natAbs:Nat):Int) by split<;>omega];erw[cy Z,λl H1 n1=>?_];erw[uf (λO H2=>aF H H2/\∃(r:Nat)(zs:List Str)(v3 v4:Option V),O=[some (.int i),some (.int r),some (.ref l),v3,v4]/\H2 l=some (.lst (zs.map V.str))/\_N.Wr i.natAbs r zs) (λO _=>match O with|[_,some (.int y),_,_,_]=>y.natAbs|_=>0) ?_ ?_ ?_]
   ·erw[n1.same,_,[],_,_,Z,n1.at',_N.Wr.nil _]
   · rintro O H2 ⟨s2,r,zs,v3,v4,rfl,dl,wr⟩
     erw[AK ?_];intro E1;erw[_,Z,_,_,Z,Z,_,Z,?_];have eB:(10000000000000000000000000000000000000000000000000000000000000000:Int)=((10^64:Nat):Int):=by decide+kernel
     rw[eB];have len:=wr.len hn
     have ll : (zs.map V.str).length < sizeLine := by rw[aW];have:(8:Nat)<sizeLine:=by decide
                                                      omega
     have nl:H l=none:=n1.no;have put:∀(H3:Hp)(z:Str),aF H2 H3->aF H (upd H3 l (.lst (zs.map V.str++[.str z]))):=λH3 z s3 b o e=>by
      have hb:b≠l:=λy=>by rw[y,nl]at e;cases e
      rw[aY hb];erw[s3 _ _ (s2 _ _ e)]
     erw[fQ (λhc=>?_) (λhc=>?_)]
     · have hr:10^64<=r:=by have:=kF hc;omega
       have hm:r%10^64<10^64:=Nat.mod_lt _ (Nat.pow_pos aw);erw[_,Z,_,_,Z,aG,by show(10^64:Nat)<2^5000;decide+kernel,λt H3 n3=>?_];erw[_,_,Z,aU.of n3.at',Z,_,_,Z,_,_,Z,Z,?_];have em:(((r:Nat):Int)%((10^64:Nat):Int))=((r%10^64:Nat):Int):=rfl;have ed:(((r:Nat):Int)/((10^64:Nat):Int))=((r/10^64:Nat):Int):=rfl;have lg:=_N.Ta (rC hm (by decide+kernel:10^64<10^540));erw[_,Z,.inl #[Z,_,aD.of (n3.same _ _ dl)],_,Z,.inl #[_,Z,lg,Z,#[_,_,Z,Z,aG,#[l,_,_,Z,Z,n3.same _ _ dl,ll,?_]]]];erw[#[put H3 _ n3.same,r/10^64,zs++[Txt.zfill (numS ((r%10^64:Nat):Int)) 64],_,_,Z,?_,wr.step hr],?_]
       ·rw[bZ,fT];rfl
       · show((r/10^64:Nat):Int).natAbs<((r:Nat):Int).natAbs
         have:r/10^64<r:=Nat.div_lt_self aL aw;omega
     · have hr:r<10^64:=by have:=(mt cj) hc;omega
       have lg:=_N.Ta (rC hr (by decide+kernel:10^64<10^540));have lr:(numS (r:Int)).length<=64:=by show(numS (r:Int)).cps.size<=64;rw[<-mR,_T.qQ,aW];exact(Nat.length_toDigits_le_iff aw aw).mpr hr
       erw[_,Z,.inl #[Z,_,aD.of dl],_,Z,.inl #[_,Z,lg,#[l,_,_,Z,Z,dl,ll,?_]]];erw[Z,_,Z,#["",l,zs++[numS (r:Int)],Z,Z,aD.of (by rw[bZ,fT];rfl),λz hz=>?_,aG,by rw[cv,yj];omega,?_]]
       · rcases gy.mp hz with hz|hz
         ·have:=wr.l z hz;omega
         ·rw[cV.mp hz];omega
       have ew:Txt.join "" (zs++[numS (r:Int)]).reverse=numS (i.natAbs:Int):=by rw[List.reverse_append,List.reverse_cons,List.reverse_nil,Er,List.singleton_append];exact(_N.VS _ _).trans wr.e.symm
       rw[ew];have iQ:sizeLine=16777216:=by decide
       have l0:(numS (i.natAbs:Int)).length<=541:=_N.a63 (by rw[Xi];erw[hn]);have e0:Str.empty.length=0:=by decide+kernel
       have e1:Str.length "-"=1:=by decide+kernel
       erw[_,Z,_,_,Z,Z,_,Z,?_];have fin:=k _ (put H2 (numS (r:Int)) (aF.refl _));erw[fQ (λhi=>?_) (λhi=>?_)]
       · have hi:=kF hi
         erw[_,Z,by simp only[cY];omega,_,Z,.inr #[_,Z,aL,_,Z,by simp only[cY];omega,by simp only[cY];omega,?_]];rw[Ei,_N.abs_neg hi,<-_N.a4w hi];erw[fin]
       · have hi:=(mt cj) hi
         rw[_N.acp hi];erw[_,Z,fin]
   · rintro O H2 Q1 Q2 hq h
     let(v1,e1,i1,j1,e2,e3,kk,e4,q):=h;erw[v1,e1,i1,j1,e2,e3,kk,e4,hq _ _ q]
end
end _a
namespace _a
open PySem PySem.Spec PyProof.Rows _L _l _W
open _T (numS numIn? figs isFig Free)
section
def oV:Option Int->V |some i=>.int i |none=>.bu
def oD:Option Int->ah |some i=>.int i |none=>.none
theorem a9f:∀c<128,decide (c∈Ae.cps.toList)=isFig c:=by decide+kernel
theorem a9h:∀c∈Ae.cps.toList,c<128:=by decide+kernel
theorem a9g(c:Nat):decide (c∈Ae.cps.toList)=isFig c:=by
 by_cases h:c<128
 ·erw[a9f c h]
 ·rw[dE (λhc=>h (a9h c hc)),isFig,dE (show¬c<=57 by omega),Bool.and_false]
inductive ad8(vs:List V)(H:Hp)(Q:VK):Prop |mk (y:Str)(h0:vs=[.str y])(h1:PySem.NumText.AllDigits y.cps.toList)(h2:y.length<=640)(h3:Q (.int ((PySem.NumText.digitsVal y.cps.toList:Nat):Int)) H)
def Zt:Sp:=λvs H Q _=>ad8 vs H Q
theorem Mr:bf ["figures","size","figure"] ["figures"] (aQ O6):=bo aG
theorem a3l(AA:All w K mg):bj P w K mg ay "size_of" 1 Zt:=by
 exists AA.a9s.has,Mr,dg λ_=>rfl
 ·let(y,rfl,hd,hl,k):=h
  have nd:=Mr.nd;erw[_,(az (pS 1 nd aB) (az (gW fS Z (Gi (pv 0)) (aR 2 nd) (aH (pS 1 nd (aM dR (aM cN aB (pv 1)) (dF (x:="int") abK Z (AA.B.at "int") X3 (ak (pv 2) au)))))) (aH (aO (pv 1))))),?_];have hsz:y.cps.size=y.cps.toList.length:=mR.symm;have rF:Wd (10:Int):=by show(10:Nat)<2^5000;decide+kernel
  erw[_,Z,y,Z,?_];erw[a94 (Pv:=λi O H'=>H'=H/\∃v2,O=[some (.str y),some (.int ((PySem.NumText.digitsVal (y.cps.toList.take i):Nat):Int)),v2]) ?_ ?_ ?_]
  ·erw[Z,_,Z]
  ·rintro i c O H2 hc ⟨rfl,v2,rfl⟩
   let(c1,c2):=hd c (fz hc);have hi:i<640:=by have:=(cK.mp hc).1;have e:y.length=y.cps.size:=rfl;omega
   have wv:Wd ((PySem.NumText.digitsVal (y.cps.toList.take i):Nat):Int):=by show Int.natAbs _<2^5000;rw[Xi];erw[rC (gK (_N.Vk hd i) (tY aw (Bi hi))) aG]
   have ei:=_N.Y4 c1 c2;erw[_,Z,_,_,Z,Z,pK rF.bits wv.bits,_,Z,#[_,_,Z,ei,by show 1<=640;decide,_,_,Z,Z,?_]];erw[Z,some (.str ⟨#[c]⟩),?_];rw[_N.Vj hc];show[some (.str y),some (V.int (10*_+_)),_]=_;rw[Int.natCast_add,Int.natCast_mul,Bq];rfl
  ·rintro O H2 ⟨rfl,v2,rfl⟩
   erw[_,Z,?_];rw[hsz,o9];erw[k]
inductive adG(vs:List V)(H:Hp)(Q:VK):Prop |mk (z:Str)(h0:vs=[.str z])(h1:z.length<=640)(h2:∀H',aF H H'->Q (oV (numIn? z)) H')
def ZN:Sp:=λvs H Q _=>adG vs H Q
theorem MY:bf ["word","figures","size"] ["word"] (aQ OV):=bo aG
theorem GH(AA:All w K mg):bj P w K mg ay "number_in" 2 ZN:=by
 exists AA.a9E.has,MY,dg λ_=>rfl
 ·let(z,rfl,hl,k):=h
  have nd:=MY.nd;have iQ:sizeLine=16777216:=by decide
  erw[_,(az (pS 1 nd (a2H K Z (pv 0) (ak bR au))) (az (bI (PW.pt (iI (bX wV (pv 1) bR (bQ _)) (jJ (cR (cw (fh (x:="all") (vP K Z Z) Z (AA.B.at "all") yg (ak (eQ (N:=["sign"]) (js:=[none]) rfl rfl rfl (Gi (pv 1)) (λ_ _ _ _ _=>(aR 0 (iM _))) (λ_ _ _ _ _=>e9) (λ_ _ _ _ _=>(jl Rj (pv 0) (dM (x:="FIGURES") rfl AA.a8X) (by with_unfolding_all rfl)))) au))))))) (aH (aO gX)) bP) (az (bI (PW.pt (sr (bX wV (Gk Tr (pv 1) aB (λ_ _=>rfl)) bR (bQ _)) (wN (bX Gs (pv 0) bR (bQ _))))) (aH (aO gX)) bP) (az (pS 2 nd (pf (a3l AA) hr (ak (pv 1) au))) (aH (aO (kr (cw (a2G K Z (pv 0) (ak bR au))) (jk jf (pv 2)) (pv 2)))))))),?_];erw[_,Z,Z,z,"-",Z,Z,aL,?_];have ef:=_T.a1t z;generalize hz:Txt.removeprefix z "-"=y at ef;unfold numIn? at k;rw[<-ef]at k;have hly:y.length<=z.length:=by
   have e1:y.cps.toList.length=(figs z).length:=by rw[ef]
   have e2:(figs z).length<=z.cps.toList.length:=by
    unfold figs;split
    ·rename_i h;rw[h];simp
    ·rename_i h _;erw[aV _]
   simpa[Str.length]using iG (Nat.le_of_eq e1) e2
  erw[_,Z,Z,_,Z,?_];erw[fQ (λh0=>?_) (λh0=>?_)]
  ·have hy:y="":=by simpa using h0
   rw[hy]at k;erw[bM (k H (aF.refl _))]
  ·have hy:y≠"":=by simpa using h0
   have cD:y.cps.toList≠[]:=λe=>hy (_T.Av (by rw[e];rfl));have he:y.cps.toList.isEmpty=false:=by cases h:y.cps.toList with|nil=>exact(cD h).elim|cons=>rfl
   rw[he,Bool.false_or]at k;erw[_,Z,y,Z,λD H0 nw=>?_];erw[VM (f:=isFig) [] nw aL (λc H2 Q' hc s2 hq=>?_) (λH2 s2 d2=>?_)]
   ·erw[_,Z,c,Ae,Z,Z,?_]
    rw[a9g];erw[hq _ (aF.refl _)]
   ·erw[D,_,Z,aD.of d2,?_]
    rw[Wt];erw[_,Z,?_];cases hf:y.cps.toList.all isFig with |false=>rw[hf]at k;erw[bM (k H2 s2)] |true=>rw[hf]at k;erw[aP ?_];let(n,hn):=_T.a6E (z:=z) (by rw[<-ef];erw[cD]) (by rw[<-ef];erw[hf]) aL;rw[hn]at k;have nv:=_N.a4v ef (by rw[<-ef];erw[cD]) (by rw[<-ef];erw[hf]) aL hn;cases hc:y.cps.toList with |nil=>exact(cD hc).elim |cons c r=>
     erw[_,Z,y,0,c,Z,Z,aL,cB (dc 0) (by rw[hc];rfl),Z,_,Z,?_];have e0:decide (y.cps.toList[0]? =some 48)=decide (V.str ⟨#[c]⟩=V.str "0"):=by
      rw[hc,kg];simp only[Eg];erw[λh=>?_,λh=>?_]
      ·have h:c=48:=by simpa using h
       rw[h];decide+kernel
      ·have h:(⟨#[c]⟩:Str)="0":=by simpa using h
       have h2:[c]=[48]:=(lC (λz:Str=>z.cps.toList) h).trans aG;simpa using h2
     rw[e0]at k;have e1:(!decide (z="0"))= !decide (V.str z=V.str "0"):=by simp
     rw[e1]at k;cases h1:decide (V.str ⟨#[c]⟩=V.str "0")with
     |true=>rw[h1,jD]at k;erw[bM #[_,Z,Z,_,Z,?_]];cases h2: !decide (V.str z=V.str "0")with |true=>rw[h2]at k;erw[bM (k H2 s2)] |false=>rw[h2]at k;erw[aP #[_,Z,y,Z,_T.xD hf,aL,?_]];have fin:=k H2 s2;erw[_,Z,Z,z,"-",Z,Z,?_];erw[_,Z,?_];cases hs:Txt.startswith z "-" with |true=>rw[nv,ba hs]at fin;erw[bM #[_,Z,_,Z,fin]] |false=>rw[nv,bc (by rw[hs];decide)]at fin;erw[aP #[_,Z,fin]]
     |false=>rw[h1,jE]at k;erw[aP #[_,Z,y,Z,_T.xD hf,aL,?_]];have fin:=k H2 s2;erw[_,Z,Z,z,"-",Z,Z,?_];erw[_,Z,?_];cases hs:Txt.startswith z "-" with |true=>rw[nv,ba hs]at fin;erw[bM #[_,Z,_,Z,fin]] |false=>rw[nv,bc (by rw[hs];decide)]at fin;erw[aP #[_,Z,fin]]
inductive adD(vs:List V)(H:Hp)(Q:VK):Prop |mk (l:Addr)(zs:List Str)(h0:vs=[.ref l])(h1:aD K H l (zs.map V.str))(h2:zs.length<=1000)(h3:(∀z∈zs,z.length<=640))(h4:∀p H',aF H H'->H p=none->H' p=some (.lst (zs.map λz=>oV (numIn? z)))->Q (.ref p) H')
def ZM:Sp:=λvs H Q _=>adD vs H Q
theorem Cu(o:Option Int):RD K H (oV o) (oD o):=by cases o with |none=>erw[yY] |some i=>erw[fO _]
theorem a4q{v:V}(h:RD K H v (oD o)):v=oV o:=by cases o with |none=>erw[h.GP] |some i=>erw[h.int_inv]
theorem S5{H:Hp}:∀{xs:List V}{zs:List Str},aI K H xs (zs.map λz=>oD (numIn? z))->xs=zs.map λz=>oV (numIn? z) |xs,[],h=>h.nil_inv |xs,n::ns,h=>by let(y,ys,rfl,h1,h2):=h.cons_inv;rw[a4q h1,S5 h2];rfl
theorem a4r(zs:List Str):cx (zs.map λz=>oD (numIn? z))=true:=dU.mpr λd hd=>by let(z,_,rfl):=cJ.mp hd;cases numIn? z<;>rfl
theorem MV:bf ["words"] ["words"] (aQ OS):=bo aG
theorem RO(AA:All w K mg):bj P w K mg ay "numbers_in" 3 ZM:=by
 exists AA.a9D.has,MV,dg λ_=>rfl
 ·let(l,zs,rfl,hl,hn,hz,k):=h
  have nd:=MV.nd;erw[_,(aH (aO (eQ (N:=["word"]) (js:=[none]) Z Z Z (mX K Z (pv 0)) (λ_ _ _ _ _=>(aR 0 (iM _))) (λ_ _ _ _ _=>e9) (λ_ _ _ _ _=>(pf (GH AA) hr (ak (pv 0) au)))))),?_];erw[_,Z,l,Z,#[_,hl],λD H1 n1=>?_];erw[vG (K:=K) (ds:=zs.map λz=>oD (numIn? z)) _ hl n1 (by simp) (by simp;omega) (a4r _) ?_ ?_]
  ·intro i x d H2 Q' ex ed s2 hq
   rw[bO]at ex ed;let(z,ez,rfl):=tX.mp ex;rw[ez]at ed;cases ed;erw[_,Z,z,Z,hz z (fz ez),λH3 s3=>hq _ _ s3 (Cu _)]
  ·intro H2 ys s2 d2 r2
   rw[S5 r2]at d2;erw[k D H2 s2 n1.no d2]
def vS(z:Str):Prop:=∀c∈z.cps.toList,c<0x110000
theorem Gz{n:Nat}(h:vS z):dv n (.str z):=#[by show PyData.strOk z=true;unfold PyData.strOk;rw[Xq];erw[λc hc=>cj (h c (by simpa using hc))],eX _]
theorem Ux{c x:Nat}:∀{as:List (List Nat)}{a:List Nat},a∈as->x∈a->x∈_T.gl c as
 |[],a,h,_=>nomatch h |[b],a,h,hx=>by rw[cV.mp h]at hx;erw[hx] |b::d::r,a,h,hx=>by
  show x∈b++c::_T.gl c (d::r);rcases cM.mp h with rfl|h
  ·erw[Xa _ hx]
  ·erw[gS _ (.tail _ (Ux h hx))]
theorem Uy{c:Nat}:∀{as:List (List Nat)}{a:List Nat},a∈as->a.length<=(_T.gl c as).length
 |[],a,h=>nomatch h |[b],a,h=>by rw[cV.mp h];erw[aV _] |b::d::r,a,h=>by
  show a.length<=(b++c::_T.gl c (d::r)).length;rw[cv,gz];rcases cM.mp h with rfl|h
  ·omega
  ·have:=Uy (c:=c) h;omega
theorem LH(z:Str)(c:Nat):_T.gl c ((Txt.split z ⟨#[c]⟩).map λy=>y.cps.toList)=z.cps.toList:=by rw[<-_T.IL,StrLaws.join_split]
theorem Zi(h:vS z)(hy:y∈Txt.split z ⟨#[c]⟩):vS y:=λx hx=>h x (by rw[<-LH z c];erw[Ux (cJ.mpr #[y,hy,Z]) hx])
theorem split_le(hy:y∈Txt.split z ⟨#[c]⟩):y.length<=z.length:=by have:=Uy (c:=c) (cJ.mpr #[y,hy,Z]:y.cps.toList∈(Txt.split z ⟨#[c]⟩).map λy=>y.cps.toList);rw[LH]at this;simpa[Str.length]using this
theorem pR:(" ":Str)=⟨#[32]⟩:=by decide+kernel
theorem a4T:("\n":Str)=⟨#[10]⟩:=by decide+kernel
def nI (z:Str):ah:=oD (numIn? z)
def gU:List Str->ah |[]=>.none |w::rest=>if w="line" then(match rest with |[]=>.none |r::rs=>.tuple [.str w,.tuple (((r::rs).map nI).take rs.length),((r::rs).map nI).getLastD .none]) else match rest with |[r]=>.tuple [.str w,if w="wait" then nI r else .str r] |_=>.none
def uZ(n:Nat)(z:Str):ah:=bif nk n (gU (Txt.split z " "))then gU (Txt.split z " ")else .none
theorem S4{H:Hp}:∀(zs:List Str),aI K H (zs.map λz=>oV (numIn? z)) (zs.map nI) |[]=>by simp[aI] |z::zs=>by rw[rE,rE,aI];erw[_,_,Z,Cu _,S4 zs]
theorem uB{d:ah}(h:RD K H x d)(r:aI K H xs ds):aI K H (x::xs) (d::ds):=by rw[aI];erw[_,_,Z,h,r]
theorem FY:aI K H [] []:=by simp[aI]
theorem GX{n:Nat}(z:Str):dv n (nI z):=by unfold nI;cases numIn? z with |none=>erw[.bu] |some i=>erw[.int i]
theorem Su(z:Str):kK (nI z)=true:=by unfold nI;cases numIn? z<;>rfl
theorem L7:gU ["line"]= .none:=by unfold gU;dsimp only;rw[ba rfl]
theorem EK:gU ("line"::r::rs)= .tuple [.str "line",.tuple (((r::rs).map nI).take rs.length),((r::rs).map nI).getLastD .none]:=by unfold gU;dsimp only;rw[ba rfl]
theorem BO{w:Str}(h:w≠"line"):gU [w,r]= .tuple [.str w,if w="wait" then nI r else .str r]:=by unfold gU;dsimp only;rw[bc h]
theorem EJ{w:Str}(h:w≠"line")(hl:ws.length≠1):gU (w::ws)= .none:=by
 unfold gU;dsimp only;rw[bc h];split
 ·exact(hl Z).elim
 ·rfl
theorem Yn(h:∀w∈ws,vS w/\w.length<=640):dv 8 (gU ws)/\C2 (gU ws)=true:=by cases ws with |nil=>erw[.bu,Z] |cons w rest=>
 let(hw,hl):=h w (.head _);have sw:kK (.str w)=true:=cj aL;by_cases hx:w="line"
 ·subst hx
  cases rest with |nil=>rw[L7];erw[.bu,Z] |cons r rs=>
   rw[EK];have hm:∀d∈(r::rs).map nI,dv 0 d:=λd hd=>by let(z,_,rfl):=cJ.mp hd;erw[GX z]
   have Uc:dv 0 (((r::rs).map nI).getLastD .none)/\kK (((r::rs).map nI).getLastD .none)=true:=by rw[Xc];cases e:((r::rs).map nI).getLast? with |none=>erw[.bu,Z] |some d=>let(z,_,rfl):=cJ.mp (List.mem_of_getLast? e);erw[GX z,Su z]
   have hs:iq 2 [.str "line",.tuple (((r::rs).map nI).take rs.length),((r::rs).map nI).getLastD .none]:=λd hd=>by
    simp only[cM,iu,kE]at hd;rcases hd with rfl|rfl|rfl
    ·erw[Gz hw]
    ·exact(iq.tup (n:=0) λd hd=>hm d (Bj hd)).le aw
    ·erw[Uc.1.le aw]
   erw[hs.tup.le aw,?_];show[_,_,_].all kK=true;simp only[yt,KC,Bt,sw,Uc.2];rfl
 ·match rest,h with
  |[],_=>rw[EJ hx (by simp)];erw[.bu,Z] |[r],h=>
   rw[BO hx];let(hr,hlr):=h r (.tail _ (.head _));have hv:dv 0 (if w="wait" then nI r else .str r)/\kK (if w="wait" then nI r else .str r)=true:=by
    split
    ·erw[GX r,Su r]
    ·erw[Gz hr,cj aL]
   have hs:iq 1 [.str w,if w="wait" then nI r else .str r]:=λd hd=>by
    simp only[cM,iu,kE]at hd;rcases hd with rfl|rfl
    ·erw[Gz hw]
    ·erw[hv.1.le aw]
   erw[hs.tup.le aw,?_];show[_,_].all kK=true;simp only[yt,KC,Bt,sw,hv.2] |_::_::_,_=>rw[EJ hx (by simp)];erw[.bu,Z]
inductive adU(vs:List V)(H:Hp)(Q:VK):Prop |mk (m:V)(rs:List Int)(es:List ah)(z:Str)(h0:vs=[m,.str z])(h1:RD K H m (.tuple (.tuple (rs.map PyData.int)::es)))(h2:cx es=true)(h3:rs.length<=3)(h4:z.length<=600)(h5:vS z)(h6:∀v H',aF H H'->RD K H' v (uZ rs.length z)->Q v H')
def Fc:Sp:=λvs H Q _=>adU vs H Q
theorem Nf:bf ["machine","row","word","rest","thing","numbers"] ["machine","row"] (aQ Pg):=bo aG
theorem a3T(AA:All w K mg):bj P w K mg ay "item_in" 5 Fc:=by
 exists AA.a9O.has,Nf,eD λ_ _=>rfl
 ·let(m,rs,es,z,rfl,rm,ne,l3,hz,tz,k):=h
  have nd:=Nf.nd;have iQ:sizeLine=16777216:=by decide
  have vf:∀y∈Txt.split z " ",vS y/\y.length<=640:=λy hy=>by rw[pR]at hy;have:=split_le hy;erw[Zi tz hy,aL]
  have Dj:=split_len z " ";erw[_,(az (fg (Gm K Z (pv 1) (ak bR au)) (QQ K Z Z (aR 2 nd) (aR 3 nd))) (az (pS 4 nd gX) (az (iZ (bI (bX wV (pv 2) bR (bQ _)) (az (pS 5 nd (pf (RO AA) hr (ak (pv 3) au))) (aH (pS 4 nd (kr (z9 K Z (pv 5)) (iK (ak (pv 2) (ak (dF (x:="tuple") (kh K Z) Z (AA.B.at "tuple") ir (ak (zh (yO K rfl) (pv 5) zc (zb (jk jf aB))) au)) (ak (px K (pv 5) (jk jf aB)) au)))) gX)))) (aH (bI (bX wV (fW K AA.B (ak (pv 3) au)) aB (bQ _)) (aH (pS 4 nd (iK (ak (pv 2) (ak (kr (bX wV (pv 2) bR (bQ _)) (pf (GH AA) hr (ak (px K (pv 3) aB) au)) (px K (pv 3) aB)) au))))) bP)))) (aH (aO (kr (cw (pf (GI AA) hr (ak (pv 0) (ak (pv 4) au)))) (pv 4) gX)))))),?_];erw[_,Z,Z,z," ",Z,Z,aG,aL,λl H1 n1=>?_];obtain⟨x,ws,ew⟩:∃x ws,Txt.split z " "=x::ws:=by cases e:Txt.split z " " with |nil=>exact(_T.LG _ _ e).elim |cons x ws=>erw[x,ws,Z]
  unfold uZ at k;rw[ew]at n1 vf Dj k;rw[gz]at Dj;erw[l,.str x,ws.map V.str,Z,aD.of n1.at',by rw[aW];omega,λp H2 n2=>?_];have s2:=n1.same.trans n2.same;have Dh:∀y∈ws,y.length<=640:=λy hy=>(vf y (.tail _ hy)).2;erw[λO H3=>∃t w5,O=[some m,some (.str z),some (.str x),some (.ref p),some t,w5]/\aF H H3/\RD K H3 t (gU (x::ws)),?_,?_]
  ·erw[_,Z,Z,_,Z,?_]
   erw[fQ (λh0=>?_) (λh0=>?_)]
   ·have hx:x="line":=by simpa using h0
    subst hx;erw[_,Z,p,ws,Z,aD.of n2.at',aL,Dh,λq H3 s3 nq e3=>?_];erw[_,Z,!(ws.map λz=>oV (numIn? z)).isEmpty,.inl #[_,aD.of e3,Z],?_];cases ws with |nil=>erw[aP #[.bu,_,Z,s2.trans s3,?_]];rw[L7];erw[yY] |cons r uz=>
     erw[bM #[_,Z,?_]];erw[_,Z,1,Z,_,Z,q,_,Z,.inl #[aD.of e3,λq2 H4 n4=>?_]];rw[VF]at n4;have n4':=n4.at';erw[q2,_,Z,.inl #[aD.of n4',λq3 H5 n5=>?_]];obtain⟨v,ev⟩:∃v,((r::uz).map λz=>oV (numIn? z)).getLast? =some v:=#[_,Xd (by simp)];have e5:=n5.same _ _ (n4.same _ _ e3);erw[_,Z,1,Z,.inl #[q,_,-1,v,Z,Z,aD.of e5,AH ev,?_]];erw[by show 3<=sizeLine;omega,λq6 H6 n6=>?_];have s6:=(((s2.trans s3).trans n4.same).trans n5.same).trans n6.same;erw[_,_,Z,s6,?_];rw[EK];have el:((r::uz).map nI).getLastD .none=oD (numIn? ((r::uz).getLast (by simp))):=by rw[Xc,List.getLast?_map,Xd (by simp)];rfl
     have evv:v=oV (numIn? ((r::uz).getLast (by simp))):=by rw[List.getLast?_map,Xd (by simp)]at ev;exact(eW ev).symm
     erw[fN (aU.of n6.at') (uB (bC _) (uB ?_ (uB ?_ FY)))]
     ·erw[fN (aU.of (n6.same _ _ n5.at')) ?_]
      rw[aW,gz,X8];exact(S4 (r::uz)).take _
     ·rw[el,evv];erw[Cu _]
   ·have hx:x≠"line":=by simpa using h0
    erw[_,Z,p,_,Z,.inl (aD.of n2.at'),Z,_,Z,?_];erw[fQ (λh1=>?_) (λh1=>?_)]
    ·have mE:ws.length=1:=by have h1:=kF h1;rw[aW]at h1;injection h1 with h1;omega
     match ws,mE,n2,Dh,k with
     |[r],_,n2,Dh,k=>
      erw[_,Z,_,Z,Z,_,Z,?_];erw[fQ (λh2=>?_) (λh2=>?_)]
      ·have Ii:x="wait":=by simpa using h2
       erw[_,Z,.inl #[p,_,0,.str r,Z,Z,aD.of n2.at',Z,?_]];erw[r,Z,Dh r (.head _),λH3 s3=>?_];erw[by show 2<=sizeLine;omega,λq6 H6 n6=>?_];erw[_,_,Z,(s2.trans s3).trans n6.same,?_];rw[BO hx,ba Ii];erw[fN (aU.of n6.at') (uB (bC _) (uB (Cu _) FY))]
      ·have Ii:x≠"wait":=by simpa using h2
       erw[_,Z,.inl #[p,_,0,.str r,Z,Z,aD.of n2.at',Z,?_]];erw[by show 2<=sizeLine;omega,λq6 H6 n6=>?_];erw[_,_,Z,s2.trans n6.same,?_];rw[BO hx,bc Ii];erw[fN (aU.of n6.at') (uB (bC _) (uB (bC _) FY))]
    ·have mE:ws.length≠1:=λe=>h1 (cj (by rw[aW,e];rfl))
     erw[.bu,_,Z,s2,?_];rw[EJ hx mE];erw[yY]
  ·rintro O H3 ⟨t,w5,rfl,s3,rt⟩
   have ok:=Yn (ws:=x::ws) vf;erw[_,Z,_,Z,m,t,rs,es,gU (x::ws),Z,RD.mono s3 _ rm,rt,l3,ok.1,ok.2,λH4 s4=>#[_,Z,?_]];cases hi:nk rs.length (gU (x::ws))with |true=>rw[hi]at k;erw[bM #[_,Z,k _ _ (s3.trans s4) (RD.mono s4 _ rt)]] |false=>rw[hi]at k;erw[aP (k _ _ (s3.trans s4) yY)]
end
end _a
set_option maxHeartbeats 2000000
namespace _a
open PySem PySem.Spec PyProof.Rows _L _l _W
open _T (numS numIn? figs isFig Free)
section
def ug:ah->Str | .int i=>numS i | .str z=>z |_=>Str.empty
def fj(ns:List Int):Str:=Txt.join " " (ns.map numS)
def gR(a b:Int):Str:=if b=1 then numS a else numS a++"/"++numS b
def gq:ah->Str | .tuple [.str _,.tuple xs,.int sp]=>"line "++Txt.join " " (xs.map ug)++" "++numS sp | .tuple [.str w,u]=>w++" "++ug u |_=>Str.empty
def gu:ah->Str | .tuple [.str _,.tuple xs,.int t,.tuple [.int a,.int b]]=>"step "++Txt.join " " (xs.map ug)++" "++numS t++" "++gR a b |d=>gq d
def Nm (i:Int):Prop:=i.natAbs<10^40
def nZ(w:Str):Prop:=w="wait"\/w="tool"\/w="mark"
def AL(w:Str):Prop:=w="tool"\/w="mark"
theorem AL.ok{w:Str}(h:AL w):nZ w:=.inr h
theorem AL.ne{w:Str}(h:AL w):decide (w="wait")=false:=by rcases h with rfl|rfl<;>decide+kernel
def TI(d:ah):Prop:=(∃ns sp,d=eF ns sp/\ns.length<=3/\(∀n∈ns,Nm n)/\Nm sp)\/(∃w i,d= .tuple [.str w,.int i]/\nZ w/\Nm i)\/∃w z,d= .tuple [.str w,.str z]/\AL w/\z.length<=100
theorem SH(ns:List Int):(ns.map PyData.int).map ug=ns.map numS:=by rw[Et];rfl
theorem D4(ns:List Int)(sp:Int):gq (eF ns sp)="line "++fj ns++" "++numS sp:=by show Str.ofString "line "++Txt.join " " ((ns.map PyData.int).map ug)++" "++numS sp=_;rw[SH];rfl
theorem fY(h:Nm i):(numS i).length<=41:=L1 h
theorem uP(h:∀n∈ns,Nm n)(hl:ns.length<=3):(fj ns).length<=126:=by
 have:=CZ " " (B:=41) (ns.map numS) (λz hz=>by let(n,hn,rfl):=cJ.mp hz;erw[fY (h n hn)]);rw[aW]at this;have e:Str.length " "=1:=by decide+kernel
 rw[e]at this;unfold fj
 lia
theorem BD{w:Str}(h:nZ w):w.length=4:=by rcases h with rfl|rfl|rfl<;>decide+kernel
theorem I0{d:ah}(h:TI d):(gq d).length<=400:=by
 have e1:Str.length " "=1:=by decide+kernel
 have e2:Str.length "line "=5:=by decide+kernel
 rcases h with⟨ns,sp,rfl,hl,hb,hs⟩|⟨w,i,rfl,hw,hi⟩|⟨w,z,rfl,hw,hz⟩
 ·rw[D4]
  have h1:=uP hb hl;have h2:=fY hs;simp only[cY]
  lia
 ·show(w++" "++numS i).length<=400
  have h2:=fY hi;have h3:=BD hw;simp only[cY]
  lia
 ·show(w++" "++z).length<=400
  have h3:=BD hw.ok;simp only[cY]
  lia
theorem TI.nw{w:Str}(h:TI (.tuple [.str w,.str z])):decide (w="wait")=false:=by
 rcases h with⟨ns,sp,e,_⟩|⟨w',i,e,_⟩|⟨w',z',e,hw,_⟩
 ·unfold eF at e;cases e
 ·cases e
 ·cases e;erw[hw.ne]
theorem Nm.l(h:Nm i):AS i:=rC h aG
theorem XO:SeqAt.shaped (.str "wait")=true:=by decide+kernel
theorem nj:SeqAt.shaped (.str "line")=true:=by decide+kernel
theorem wy:SeqAt.shaped (.str "step")=true:=by decide+kernel
theorem qK(x y:Str):PyData.eqv (.str x) (.str y)=decide (x=y):=by show(x==y)=decide (x=y);rw[kg];simp
theorem yE{v:V}{d:ah}(h:RD K H v d)(i:TI d):(∃ns sp a b,d=eF ns sp/\v= .ref a/\aU K H a [.str "line",.ref b,.int sp]/\RD K H (.ref b) (.tuple (ns.map PyData.int))/\ns.length<=3/\(∀n∈ns,Nm n)/\Nm sp)\/∃w u a y,d= .tuple [.str w,u]/\nZ w/\v= .ref a/\aU K H a [.str w,y]/\RD K H y u/\((∃i,u= .int i/\y= .int i/\Nm i)\/∃z,u= .str z/\y= .str z/\z.length<=100):=by
 rcases i with⟨ns,sp,rfl,hl,hb,hs⟩|⟨w,i,rfl,hw,hi⟩|⟨w,z,rfl,hw,hz⟩
 ·let(a,xs,rfl,h1,h2):=h.cu
  let(x1,r,rfl,e1,h2):=h2.cons_inv;let(x2,r,rfl,e2,h2):=h2.cons_inv;let(x3,r,rfl,e3,h2):=h2.cons_inv;cases h2.nil_inv;cases e1.str_inv;cases e3.int_inv;let(b,ys,rfl,_,_):=id e2.cu;erw[.inl #[ns,sp,a,b,Z,Z,h1,e2,hl,hb,hs]]
 ·let(a,xs,rfl,h1,h2):=h.cu
  let(x1,r,rfl,e1,h2):=h2.cons_inv;let(x2,r,rfl,e2,h2):=h2.cons_inv;cases h2.nil_inv;cases e1.str_inv;cases e2.int_inv;erw[.inr #[w,_,a,_,Z,hw,Z,h1,e2,.inl #[i,Z,Z,hi]]]
 ·let(a,xs,rfl,h1,h2):=h.cu
  let(x1,r,rfl,e1,h2):=h2.cons_inv;let(x2,r,rfl,e2,h2):=h2.cons_inv;cases h2.nil_inv;cases e1.str_inv;cases e2.str_inv;erw[.inr #[w,_,a,_,Z,hw.ok,Z,h1,e2,.inr #[z,Z,Z,hz]]]
theorem yx{w:Str}(h:nZ w):SeqAt.shaped (.str w)=true:=by rcases h with rfl|rfl|rfl<;>decide+kernel
theorem BC{w:Str}(h:nZ w):decide (w="line")=false/\decide (w="step")=false:=by rcases h with rfl|rfl|rfl<;>decide+kernel
inductive adE(vs:List V)(H:Hp)(Q:VK):Prop |mk (v:_)(ns:_)(h0:vs=[v])(h1:RD K H v (.tuple (ns.map PyData.int)))(h2:ns.length<=3)(h3:(∀n∈ns,Nm n))(h4:∀H',aF H H'->Q (.str (fj ns)) H')
def LU:Sp:=λvs H Q _=>adE vs H Q
theorem oM(zs:List Str):cx (zs.map PyData.str)=true:=dU.mpr λd hd=>by let(z,_,rfl):=cJ.mp hd;rfl
theorem MB:bf ["numbers"] ["numbers"] (aQ Od):=bo aG
theorem GC(AA:All w K mg):bj P w K mg ay "show_numbers" 2 LU:=by
 exists AA.a9t.has,MB,dg λ_=>rfl
 ·let(v,ns,rfl,rv,hl,hb,k):=h
  have nd:=MB.nd;erw[_,(aH (aO (qe K Z bR (ak (eQ (N:=["number"]) (js:=[none]) Z Z Z (j3 K Z (pv 0)) (λ_ _ _ _ _=>(aR 0 (iM _))) (λ_ _ _ _ _=>e9) (λ_ _ _ _ _=>(pf (oH AA) hr (ak (pv 0) au)))) au)))),?_];let(a,xs,rfl,h1,h2):=rv.cu;rw[h2.gj]at h1;erw[Z,?_];erw[_,Z,a,Z,#[_,h1],λD H1 n1=>?_];erw[qR (K:=K) (ds:=(ns.map numS).map PyData.str) _ h1 n1 (by simp) (by simp;lia) (oM _) ?_ ?_]
  ·intro i x d H2 Q' ex ed s2 hq
   rw[bO]at ex;let(n,en,rfl):=tX.mp ex;rw[bO,bO,en]at ed;cases ed;have hn:=hb n (fz en);erw[_,Z,n,Z,hn.l,λH3 s3=>hq _ _ s3 (bC _)]
  ·intro H2 zs s2 d2 r2
   rw[ou r2]at d2;erw[" ",D,ns.map numS,Z,Z,aD.of d2,λz hz=>?_,aG,by rw[aW];lia,k _ s2];let(n,hn,rfl):=cJ.mp hz;have:=fY (hb n hn)
   lia
inductive adX(vs:List V)(H:Hp)(Q:VK):Prop |mk (v:_)(d:_)(h0:vs=[v])(h1:RD K H v d)(h2:TI d)(h3:(∀b:Bool,(b=true↔∃ns sp,d=eF ns sp)->Q (.bl b) H))
def ZZ:Sp:=λvs H Q _=>adX vs H Q
theorem yF{w:Str}{u:ah}(h:nZ w):¬∃ns sp,PyData.tuple [.str w,u]=eF ns sp:=by rintro⟨ns,sp,e⟩;unfold eF at e;injection e with e;injection e with e1 e2;injection e2 with e2 e3;cases e3
abbrev a0N:Stmt:=top 32
theorem Ni:bf ["item"] ["item"] (aQ a0N):=bo aG
theorem a3W(AA:All w K mg):bj P w K mg ay "is_line" 1 ZZ:=by
 exists AA.UW.has,Ni,dg λ_=>rfl
 ·let(v,d,rfl,rv,ti,k):=h
  have nd:=Ni.nd;erw[_,(aH (aO (jl (dN K Z hr.units) (px K (pv 0) aB) bR (bQ _)))),?_];rcases yE rv ti with⟨ns,sp,a,b,rfl,rfl,h1,_⟩|⟨w,u,a,y,rfl,hw,rfl,h1,_⟩
  ·erw[_,Z,.inr #[a,_,0,.str "line",Z,Z,h1,cB (dc 0) Z,.inr #[_,_,bC _,bC _,nj,nj,?_]]]
   rw[qK,cj rfl];erw[k true #[λ_=>#[_,_,Z],λ_=>rfl]]
  ·erw[_,Z,.inr #[a,_,0,.str w,Z,Z,h1,cB (dc 0) Z,.inr #[_,_,bC _,bC _,yx hw,nj,?_]]]
   rw[qK,(BC hw).1];erw[k false #[λz=>(by cases z),λz=>(yF hw z).elim]]
inductive adT(vs:List V)(H:Hp)(Q:VK):Prop |mk (v:_)(d:_)(h0:vs=[v])(h1:RD K H v d)(h2:TI d)(h3:∀H',aF H H'->Q (.str (gq d)) H')
def LX:Sp:=λvs H Q _=>adT vs H Q
theorem MD:bf ["item","word","steps","speed","value"] ["item"] (aQ Of):=bo aG
theorem a3r(AA:All w K mg):bj P w K mg ay "show_item" 3 LX:=by
 exists AA.a9v.has,MD,dg λ_=>rfl
 ·let(v,d,rfl,rv,ti,k):=h
  have nd:=MD.nd;have iQ:sizeLine=16777216:=by decide
  have e1:Str.length " "=1:=by decide+kernel
  have e2:Str.length "line"=4:=by decide+kernel
  have e0:Str.empty.length=0:=by decide+kernel
  erw[_,(az (bI (cw (pf (a3W AA) hr (ak (pv 0) au))) (az (fg (pv 0) (eu K Z (n:=3) Z (bV (aR 1 nd) (bV (aR 2 nd) (bV (aR 3 nd) eg))))) (aH (aO (wR (gC (kO (pv 1)) (gC bR (gC (kO (pf (GC AA) hr (ak (pv 2) au))) (gC bR (gC (kO (pf (oH AA) hr (ak (pv 3) au))) wQ))))))))) bP) (az (fg (pv 0) (eu K Z (n:=2) Z (bV (aR 1 nd) (bV (aR 4 nd) eg)))) (aH (aO (kr (bX (dN K Z hr.units) (pv 1) bR (bQ _)) (wR (gC (kO (pv 1)) (gC bR (gC (kO (pf (oH AA) hr (ak (pv 4) au))) wQ)))) (wR (gC (kO (pv 1)) (gC bR (gC (kO (pv 4)) wQ))))))))),?_];erw[_,Z,v,d,Z,rv,ti,λb hb=>#[_,Z,?_]];rcases yE rv ti with⟨ns,sp,a,b',rfl,rfl,h1,r2,hl,hn,hs⟩|⟨w,u,a,y,rfl,hw,rfl,h1,ry,hv⟩
  ·cases(hb.mpr #[_,_,rfl])
   erw[bM ?_];have Dv:=uP hn hl;have xB:=fY hs;erw[_,Z,a,_,Z,h1,Z,_,_,Z,_,_,Z,_,_,Z,Z,?_];erw[_,Z,.inr #["line",Z,ao,_,Z,by simp only[cY];lia,?_]];erw[_,Z,by simp only[cY];lia,?_];erw[_,Z,.ref b',ns,Z,r2,hl,hn,λH1 s1=>.inr #[_,Z,ao,_,Z,by simp only[cY];lia,?_]];erw[_,Z,by simp only[cY];lia,?_];erw[_,Z,sp,Z,hs.l,λH2 s2=>.inr #[_,Z,ao,_,Z,by simp only[cY];lia,?_]];erw[by simp only[cY];lia,?_];have e:Str.empty++"line"++" "++fj ns++" "++numS sp=gq (eF ns sp):=by
    rw[D4,Ei];have:(Str.ofString "line"++Str.ofString " ")=Str.ofString "line ":=by decide+kernel
    rw[this]
   have:=k H2 (s1.trans s2);rw[<-e]at this;erw[this]
  ·have IG:b=false:=by cases b with |false=>rfl |true=>exact(yF hw (hb.mp Z)).elim
   subst IG;erw[aP ?_];have w4:=BD hw;erw[_,Z,a,_,Z,h1,Z,_,_,Z,_,_,Z,Z,?_];have eA:Str.empty++w++" "++ug u=gq (.tuple [.str w,u]):=by rw[Ei];rcases hv with⟨i,rfl,_⟩|⟨z,rfl,_⟩<;>rfl
   rw[<-eA]at k;erw[_,Z,.inr #[_,_,bC _,bC _,yx hw,XO,_,Z,?_]];rw[qK];rcases hv with⟨i,rfl,rfl,hi⟩|⟨z,rfl,rfl,hz⟩
   ·have xB:=fY hi
    have fin:∀H',aF H H'->Q (.str (Str.empty++w++" "++numS i)) H':=k;have l1:(Str.empty++w).length<=sizeLine:=by simp only[cY];lia
    have l2:(Str.empty++w++" ").length<=sizeLine:=by simp only[cY];lia
    have l3:(Str.empty++w++" "++numS i).length<=sizeLine:=by simp only[cY];lia
    cases hw1:decide (w="wait")with |true=>erw[bM #[_,Z,.inr #[w,Z,ao,_,Z,l1,#[_,Z,l2,#[_,Z,i,Z,hi.l,λH2 s2=>.inr #[_,Z,ao,_,Z,l3,l3,fin H2 s2]]]]]] |false=>erw[aP #[_,Z,.inr #[w,Z,ao,_,Z,l1,#[_,Z,l2,#[_,Z,.inl #[i,Z,ng hi,_,Z,l3,l3,fin H (aF.refl _)]]]]]]
   ·rw[ti.nw]
    erw[aP #[_,Z,.inr #[w,Z,ao,_,Z,by simp only[cY];lia,?_]]];erw[_,Z,by simp only[cY];lia,?_];erw[_,Z,.inr #[z,Z,ao,_,Z,by simp only[cY];lia,?_]];erw[by simp only[cY];lia,k H (aF.refl _)]
theorem sz:sizeLine=16777216:=by decide
theorem cO:Str.length " "=1:=by decide+kernel
theorem M6:Str.empty.length=0:=by decide+kernel
def jY (i:Int):Prop:=i.natAbs<10^540
theorem qg(h:jY i):(numS i).length<=541:=by show(Str.ofString (toString i)).length<=541;rw[WU];erw[WQ (k:=540) aw h]
theorem CS(h:jY i):i.natAbs.log2<1920:=by
 by_cases h0:i.natAbs=0
 ·rw[h0];decide
 ·exact(Nat.log2_lt h0).mpr (rC h aG)
inductive ae2(vs:List V)(H:Hp)(Q:VK):Prop |mk (v:_)(a:_)(b:_)(h0:vs=[v])(h1:RD K H v (.tuple [.int a,.int b]))(h2:jY a)(h3:jY b)(h4:Q (.str (gR a b)) H)
def a04:Sp:=λvs H Q _=>ae2 vs H Q
inductive ae3(vs:List V)(H:Hp)(Q:VK):Prop |mk (v:_)(a:_)(b:_)(h0:vs=[v])(h1:RD K H v (.tuple [.int a,.int b]))(h2:jY a)(h3:jY b)(h4:∀H',aF H H'->Q (.str (gR a b)) H')
def Fd:Sp:=λvs H Q _=>ae3 vs H Q
theorem EH{v:V}(h:RD K H v (.tuple [.int a,.int b])):∃p,v= .ref p/\aU K H p [.int a,.int b]:=by let(p,xs,rfl,h1,h2):=h.cu;let(x1,r,rfl,e1,h2):=h2.cons_inv;let(x2,r,rfl,e2,h2):=h2.cons_inv;cases h2.nil_inv;cases e1.int_inv;cases e2.int_inv;erw[p,Z,h1]
theorem Ff:Str.length "/"=1:=by decide+kernel
theorem Aa(ha:jY a)(hb:jY b):(gR a b).length<=1100:=by
 have h1:=qg ha;have h2:=qg hb;have h3:=Ff;unfold gR;split
 ·lia
 ·simp only[cY];lia
theorem ME:bf ["one","p","q"] ["one"] (aQ Og):=bo aG
theorem RA(AA:All w K mg):bj P w K mg ay "show_fraction" 2 Fd:=by
 exists AA.a9w.has,ME,dg λ_=>rfl
 ·let(v,a,b,rfl,rv,na,nb,k):=h
  have nd:=ME.nd;erw[_,(az (fg (pv 0) (eu K Z (n:=2) Z (bV (aR 1 nd) (bV (aR 2 nd) eg)))) (aH (aO (kr (bX (dN K Z hr.units) (pv 2) aB (bQ _)) (pf (oH AA) hr (ak (pv 1) au)) (wR (gC (kO (pf (oH AA) hr (ak (pv 1) au))) (gC bR (gC (kO (pf (oH AA) hr (ak (pv 2) au))) wQ)))))))),?_];let(p,rfl,h1):=EH rv;have l1:=qg na;have l2:=qg nb;have Ss:AS a:=na;have nbL:AS b:=nb;have hs:=sz;have h0:=M6;have Dj:=Ff;erw[_,Z,p,_,Z,h1,Z,_,_,Z,_,_,Z,Z,?_];erw[_,Z,.inl #[_,_,Z,Z,_,Z,?_]];by_cases hb:b=1
  ·rw[cj hb]
   erw[bM #[_,Z,a,Z,Ss,λH1 s1=>?_]];have:=k H1 s1;unfold gR at this;rw[ba hb]at this;erw[this]
  ·rw[dE hb]
   erw[aP #[_,Z,a,Z,Ss,λH1 s1=>.inr #[_,Z,ao,_,Z,by simp only[cY];lia,?_]]];erw[_,Z,by simp only[cY];lia,?_];erw[_,Z,b,Z,nbL,λH2 s2=>.inr #[_,Z,ao,_,Z,by simp only[cY];lia,?_]];erw[by simp only[cY];lia,?_];have:=k H2 (s1.trans s2);unfold gR at this;rw[bc hb]at this;have e:Str.empty++numS a++"/"++numS b=numS a++"/"++numS b:=by rw[Ei]
   rw[<-e]at this;erw[this]
theorem Nb:bf ["_law_one"] ["_law_one"] (aQ Pa):=bo aG
theorem RS(AA:All w K mg):bj P w K mg ay "_law_fraction_text" 1 a04:=by
 exists AA.aas.has,Nb,dg λ_=>rfl
 ·let(v,a,b,rfl,rv,na,nb,k):=h
  have nd:=Nb.nd;erw[_,(aH (aO (kr (bX (dN K Z hr.units) (px K (pv 0) aB) aB (bQ _)) (dF (x:="str") jV Z (AA.B.at "str") jC (ak (px K (pv 0) aB) au)) (aM jn (aM jn (dF (x:="str") jV rfl (AA.B.at "str") jC (ak (px K (pv 0) aB) au)) bR) (dF (x:="str") jV rfl (AA.B.at "str") jC (ak (px K (pv 0) aB) au)))))),?_];let(p,rfl,h1):=EH rv;have l1:=qg na;have l2:=qg nb;have hs:=sz;have Dj:=Ff;erw[_,Z,.inr #[p,_,1,.int b,Z,Z,h1,Z,.inl #[_,_,Z,Z,_,Z,?_]]];by_cases hb:b=1
  ·rw[cj hb]
   erw[bM #[_,Z,.inr #[p,_,0,.int a,Z,Z,h1,Z,.inl #[a,Z,CS na,?_]]]];unfold gR at k;rw[ba hb]at k;erw[k]
  ·rw[dE hb]
   erw[aP #[_,Z,.inr #[p,_,0,.int a,Z,Z,h1,Z,.inl #[a,Z,CS na,?_]]]];erw[_,_,Z,Z,by change (numS a).length+_<=_;lia,?_];erw[_,Z,.inr #[p,_,1,.int b,Z,Z,h1,Z,.inl #[b,Z,CS nb,?_]]];erw[_,_,Z,Z,by simp only[cY];change (numS a).length+_+(numS b).length<=_;lia,?_];unfold gR at k;rw[bc hb]at k;erw[k]
theorem Na:bf ["_law_item_here"] ["_law_item_here"] (aQ P9):=bo aG
theorem RQ(AA:All w K mg):bj P w K mg ay "_law_item_text" 1 LX:=by
 exists AA.aaq.has,Na,dg λ_=>rfl
 ·let(v,d,rfl,rv,ti,k):=h
  have nd:=Na.nd;erw[_,(az (bI (bX (dN K Z hr.units) (px K (pv 0) aB) bR (bQ _)) (aH (aO (aM jn (aM jn (aM jn bR (qe K Z bR (ak (eQ (N:=["_law_step"]) (js:=[none]) Z Z Z (j3 K Z (px K (pv 0) aB)) (λ_ _ _ _ _=>(aR 0 (iM _))) (λ_ _ _ _ _=>e9) (λ_ _ _ _ _=>(dF (x:="str") jV Z (AA.B.at "str") jC (ak (pv 0) au)))) au))) bR) (dF (x:="str") jV rfl (AA.B.at "str") jC (ak (px K (pv 0) aB) au))))) bP) (aH (aO (aM jn (aM jn (px K (pv 0) aB) bR) (dF (x:="str") jV Z (AA.B.at "str") jC (ak (px K (pv 0) aB) au)))))),?_];have hs:=sz;have A7:=cO;have h5:Str.length "line "=5:=by decide+kernel
  rcases yE rv ti with⟨ns,sp,a,b,rfl,rfl,h1,r2,hl,hn,lS⟩|⟨w,u,a,y,rfl,hw,rfl,h1,ry,hv⟩
  ·erw[_,Z,.inr #[a,_,0,.str "line",Z,Z,h1,cB (dc 0) Z,.inr #[_,_,bC _,bC _,nj,nj,_,Z,?_]]]
   rw[qK,cj rfl];erw[bM ?_];have Dv:=uP hn hl;have xB:=fY lS;let(b',xs,e',g1,g2):=r2.cu;cases e';rw[g2.gj]at g1;erw[Z,?_];erw[_,Z,.inr #[a,_,1,.ref b,Z,Z,h1,cB aw Z,b,Z,#[_,g1],λD H1 n1=>?_]];erw[qR (K:=K) (ds:=(ns.map numS).map PyData.str) _ g1 n1 (by simp) (by simp;lia) (oM _) ?_ ?_]
   ·intro i x d H2 Q' ex ed s2 hq
    rw[bO]at ex;let(n,en,rfl):=tX.mp ex;rw[bO,bO,en]at ed;cases ed;have hn:=hn n (fz en);erw[_,Z,.inl #[n,Z,ng hn,hq _ _ (aF.refl _) (bC _)]]
   ·intro H2 zs s2 d2 r2
    rw[ou r2]at d2;erw[" ",D,ns.map numS,Z,Z,aD.of d2,λz hz=>?_,aG,by rw[aW];lia,?_]
    ·let(n,zX,rfl):=cJ.mp hz
     have:=fY (hn n zX)
     lia
    erw[_,_,Z,Z,by change _+(fj ns).length<=_;lia,?_];erw[_,_,Z,Z,by simp only[cY];change _+(fj ns).length+_<=_;lia,?_];erw[_,Z,.inr #[a,_,2,.int sp,Z,Z,h1.go s2,cB aw Z,.inl #[sp,Z,ng lS,?_]]];erw[_,_,Z,Z,by simp only[cY];change _+(fj ns).length+_+(numS sp).length<=_;lia,?_];have:=k H2 s2;rw[D4]at this;erw[this]
  ·erw[_,Z,.inr #[a,_,0,.str w,Z,Z,h1,cB (dc 0) Z,.inr #[_,_,bC _,bC _,yx hw,nj,_,Z,?_]]]
   rw[qK,(BC hw).1];erw[aP ?_];have w4:=BD hw;have fin:=k H (aF.refl _);erw[_,Z,.inr #[a,_,0,.str w,Z,Z,h1,cB (dc 0) Z,?_]];erw[_,_,Z,Z,ao,?_];erw[_,Z,.inr #[a,_,1,y,Z,Z,h1,cB aw Z,?_]];rcases hv with⟨i,rfl,rfl,hi⟩|⟨z,rfl,rfl,hz⟩
   ·have xB:=fY hi
    erw[.inl #[i,Z,ng hi,_,_,Z,Z,by simp only[cY];change _+(numS i).length<=_;lia,fin]]
   ·erw[.inr #[z,Z,_,_,Z,Z,by simp only[cY];lia,fin]]
def DU(d:ah):Prop:=TI d/\(∀ns sp,d≠eF ns sp)\/∃(ns:List Int)(t a b:Int),d= .tuple [.str "step",.tuple (ns.map PyData.int),.int t,.tuple [.int a,.int b]]/\ns.length<=3/\(∀n∈ns,Nm n)/\jY t/\jY a/\jY b
inductive ae9(vs:List V)(H:Hp)(Q:VK):Prop |mk (v:_)(d:_)(h0:vs=[v])(h1:RD K H v d)(h2:DU d)(h3:∀H',aF H H'->Q (.str (gu d)) H')
def M1:Sp:=λvs H Q _=>ae9 vs H Q
theorem Ai{d:ah}(h:TI d)(hn:∀ns sp,d≠eF ns sp):gu d=gq d:=by
 rcases h with⟨ns,sp,rfl,_⟩|⟨w,i,rfl,_⟩|⟨w,z,rfl,_⟩
 ·exact(hn _ _ Z).elim
 ·rfl
 ·rfl
theorem Ah(ns:List Int)(t a b:Int):gu (.tuple [.str "step",.tuple (ns.map PyData.int),.int t,.tuple [.int a,.int b]])="step "++fj ns++" "++numS t++" "++gR a b:=by show Str.ofString "step "++Txt.join " " ((ns.map PyData.int).map ug)++" "++numS t++" "++gR a b=_;rw[SH];rfl
theorem Lx{v:V}{ns:List Int}{t a b:Int}(h:RD K H v (.tuple [.str "step",.tuple (ns.map PyData.int),.int t,.tuple [.int a,.int b]])):∃p r q,v= .ref p/\aU K H p [.str "step",.ref r,.int t,.ref q]/\RD K H (.ref r) (.tuple (ns.map PyData.int))/\aU K H r (ns.map V.int)/\RD K H (.ref q) (.tuple [.int a,.int b]):=by let(p,xs,rfl,h1,h2):=h.cu;let(x1,r,rfl,e1,h2):=h2.cons_inv;let(x2,r,rfl,e2,h2):=h2.cons_inv;let(x3,r,rfl,e3,h2):=h2.cons_inv;let(x4,r,rfl,e4,h2):=h2.cons_inv;cases h2.nil_inv;cases e1.str_inv;cases e3.int_inv;let(r',ys,rfl,g1,g2):=id e2.cu;rw[g2.gj]at g1;let(q,rfl,_):=EH e4;erw[p,r',q,Z,h1,e2,g1,e4]
theorem MF:bf ["entry","word","row","t","square"] ["entry"] (aQ Oh):=bo aG
theorem a3s(AA:All w K mg):bj P w K mg ay "show_entry" 4 M1:=by
 exists AA.a9x.has,MF,dg λ_=>rfl
 ·let(v,d,rfl,rv,te,k):=h
  have nd:=MF.nd;erw[_,(az (bI (bX (kR K Z hr.units) (px K (pv 0) aB) bR (bQ _)) (aH (aO (pf (a3r AA) hr (ak (pv 0) au)))) bP) (az (fg (pv 0) (eu K Z (n:=4) Z (bV (aR 1 nd) (bV (aR 2 nd) (bV (aR 3 nd) (bV (aR 4 nd) eg)))))) (aH (aO (wR (gC (kO (pv 1)) (gC bR (gC (kO (pf (GC AA) hr (ak (pv 2) au))) (gC bR (gC (kO (pf (oH AA) hr (ak (pv 3) au))) (gC bR (gC (kO (pf (RA AA) hr (ak (pv 4) au))) wQ)))))))))))),?_];have hs:=sz;have A7:=cO;have h0:=M6;have h4:Str.length "step"=4:=by decide+kernel
  rcases te with⟨ti,hn⟩|⟨ns,t,a,b,rfl,hl,hn,ht,ha,hb⟩
  ·rw[Ai ti hn]at k
   rcases yE rv ti with⟨ns,sp,a,b,rfl,_⟩|⟨w,u,a,y,rfl,hw,rfl,h1,ry,hv⟩
   ·exact(hn _ _ Z).elim
   ·erw[_,Z,.inr #[a,_,0,.str w,Z,Z,h1,cB (dc 0) Z,.inr #[_,_,bC _,bC _,yx hw,wy,_,Z,?_]]]
    rw[qK,(BC hw).2];erw[bM #[_,Z,_,_,Z,rv,ti,k]]
  ·let(p,r,q,rfl,h1,g2,g3,g4):=Lx rv
   erw[_,Z,.inr #[p,_,0,.str "step",Z,Z,h1,cB (dc 0) Z,.inr #[_,_,bC _,bC _,wy,wy,_,Z,?_]]];rw[qK,cj rfl];erw[aP ?_];have Dv:=uP hn hl;have xB:=qg ht;have Uv:=Aa ha hb;erw[_,Z,p,_,Z,h1,Z,_,_,Z,_,_,Z,_,_,Z,_,_,Z,Z,?_];erw[_,Z,.inr #["step",Z,ao,_,Z,by simp only[cY];lia,?_]];erw[_,Z,by simp only[cY];lia,?_];erw[_,Z,.ref r,ns,Z,g2,hl,hn,λH1 s1=>.inr #[_,Z,ao,_,Z,by simp only[cY];lia,?_]];erw[_,Z,by simp only[cY];lia,?_];erw[_,Z,t,Z,ht,λH2 s2=>.inr #[_,Z,ao,_,Z,by simp only[cY];lia,?_]];erw[_,Z,by simp only[cY];lia,?_];erw[_,Z,.ref q,a,b,Z,RD.mono (s1.trans s2) _ g4,ha,hb,λH3 s3=>.inr #[_,Z,ao,_,Z,by simp only[cY];lia,?_]];erw[by simp only[cY];lia,?_];rw[Ah]at k;have fin:=k H3 (s1.trans (s2.trans s3));have e:Str.empty++"step"++" "++fj ns++" "++numS t++" "++gR a b="step "++fj ns++" "++numS t++" "++gR a b:=by
    rw[Ei];have:(Str.ofString "step"++Str.ofString " ")=Str.ofString "step ":=by decide+kernel
    rw[this]
   rw[<-e]at fin;erw[fin]
theorem Nc:bf ["_law_entry","_law_told"] ["_law_entry"] (aQ Pb):=bo aG
theorem a3R(AA:All w K mg):bj P w K mg ay "_law_entry_text" 2 M1:=by
 exists AA.aau.has,Nc,dg λ_=>rfl
 ·let(v,d,rfl,rv,te,k):=h
  have nd:=Nc.nd;erw[_,(az (bI (bX (kR K Z hr.units) (px K (pv 0) aB) bR (bQ _)) (aH (aO (pf (RQ AA) hr (ak (pv 0) au)))) bP) (az (pS 1 nd (qe K Z bR (ak (eQ (N:=["_law_step"]) (js:=[none]) Z Z Z (j3 K Z (px K (pv 0) aB)) (λ_ _ _ _ _=>(aR 0 (iM _))) (λ_ _ _ _ _=>e9) (λ_ _ _ _ _=>(dF (x:="str") jV Z (AA.B.at "str") jC (ak (pv 0) au)))) au))) (aH (aO (aM jn (aM jn (aM jn (aM jn (aM jn bR (pv 1)) bR) (dF (x:="str") jV Z (AA.B.at "str") jC (ak (px K (pv 0) aB) au))) bR) (pf (RS AA) hr (ak (px K (pv 0) aB) au))))))),?_];have hs:=sz;have A7:=cO;have h5:Str.length "step "=5:=by decide+kernel
  rcases te with⟨ti,hn⟩|⟨ns,t,a,b,rfl,hl,hn,ht,ha,hb⟩
  ·rw[Ai ti hn]at k
   rcases yE rv ti with⟨ns,sp,a,b,rfl,_⟩|⟨w,u,a,y,rfl,hw,rfl,h1,ry,hv⟩
   ·exact(hn _ _ Z).elim
   ·erw[_,Z,.inr #[a,_,0,.str w,Z,Z,h1,cB (dc 0) Z,.inr #[_,_,bC _,bC _,yx hw,wy,_,Z,?_]]]
    rw[qK,(BC hw).2];erw[bM #[_,Z,_,_,Z,rv,ti,k]]
  ·let(p,r,q,rfl,h1,g2,g3,g4):=Lx rv
   erw[_,Z,.inr #[p,_,0,.str "step",Z,Z,h1,cB (dc 0) Z,.inr #[_,_,bC _,bC _,wy,wy,_,Z,?_]]];rw[qK,cj rfl];erw[aP ?_];have Dv:=uP hn hl;have xB:=qg ht;have Uv:=Aa ha hb;erw[Z,?_];erw[_,Z,.inr #[p,_,1,.ref r,Z,Z,h1,cB aw Z,r,Z,#[_,g3],λD H1 n1=>?_]];erw[qR (K:=K) (ds:=(ns.map numS).map PyData.str) _ g3 n1 (by simp) (by simp;lia) (oM _) ?_ ?_]
   ·intro i x d H2 Q' ex ed s2 hq
    rw[bO]at ex;let(n,en,rfl):=tX.mp ex;rw[bO,bO,en]at ed;cases ed;have hn:=hn n (fz en);erw[_,Z,.inl #[n,Z,ng hn,hq _ _ (aF.refl _) (bC _)]]
   ·intro H2 zs s2 d2 r2
    rw[ou r2]at d2;erw[" ",D,ns.map numS,Z,Z,aD.of d2,λz hz=>?_,aG,by rw[aW];lia,?_]
    ·let(n,zX,rfl):=cJ.mp hz
     have:=fY (hn n zX)
     lia
    have vm:=h1.go s2;erw[_,Z,?_];erw[_,_,Z,Z,by change _+(fj ns).length<=_;lia,?_];erw[_,_,Z,Z,by simp only[cY];change _+(fj ns).length+_<=_;lia,?_];erw[_,Z,.inr #[p,_,2,.int t,Z,Z,vm,cB aw Z,.inl #[t,Z,CS ht,?_]]];erw[_,_,Z,Z,by simp only[cY];change _+(fj ns).length+_+(numS t).length<=_;lia,?_];erw[_,_,Z,Z,by simp only[cY];change _+(fj ns).length+_+(numS t).length+_<=_;lia,?_];erw[_,Z,.inr #[p,_,3,.ref q,Z,Z,vm,cB aw Z,.ref q,a,b,Z,RD.mono s2 _ g4,ha,hb,?_]];erw[_,_,Z,Z,by simp only[cY];change _+(fj ns).length+_+(numS t).length+_+_<=_;lia,?_];have:=k H2 s2;rw[Ah]at this;erw[this]
end
end _a
set_option maxHeartbeats 1000000
namespace _a
open PySem PySem.Spec PyProof.Rows _L _b _l _W
open _O (Itm)
section
theorem N2:bf ["_law_bag_here","_law_axes","_law_far","_law_rails","_law_bounds"] ["_law_bag_here"] (aQ OZ):=bo aG
theorem a3P(AA:All w K mg):bj P w K mg ay "_law_machine" 2 ZS:=by
 exists AA.aan.has,N2,dg λ_=>rfl
 ·let(p,rfl,bg,k):=h
  have nd:=N2.nd;erw[_,(az (pS 1 nd (aM dR aB (pf (fX AA) hr (ak (pv 0) (ak aB au))))) (az (pS 2 nd (px K (dj (ak aB (ak aB au))) (pf (fX AA) hr (ak (pv 0) (ak aB au))))) (az (pS 3 nd (dF (x:="tuple") (kh K Z) Z (AA.B.at "tuple") ir (ak (eQ (N:=["_law_axis","_law_bag_here","_law_far"]) (js:=[none,some 0,some 2]) rfl rfl rfl (sx rfl (AA.B.at "range") (ak (pv 1) au)) (λ_ _ _ _ _=>(aR 0 (show List.Nodup (["_law_axis","_law_bag_here","_law_far"]:List Str) by decide+kernel))) (λ_ _ _ _ _=>e9) (λ_ _ _ _ _=>(aM dR aB (pf (fX AA) hr (ak (pv 1) (ak (pv 2) au)))))) au))) (az (pS 4 nd (dF (x:="tuple") (kh K Z) Z (AA.B.at "tuple") ir (ak (eQ (N:=["_law_k","_law_bag_here"]) (js:=[none,some 0]) rfl rfl rfl (sx rfl (AA.B.at "range") (ak aB au)) (λ_ _ _ _ _=>(aR 0 (jN aw))) (λ_ _ _ _ _=>e9) (λ_ _ _ _ _=>(aM dR aB (pf (fX AA) hr (ak (pv 1) (ak aB au)))))) au))) (aH (aO (aM (VT K Z) (aM (VT K Z) (iK (ak (pv 3) au)) (pv 4)) (iK (ak (aM dR aB (pf (fX AA) hr (ak (pv 0) (ak aB au)))) au))))))))),?_];erw[_,Z,p,2,Z,bg,aw,aw,λt0 H1 t00 t01 b1=>?_];erw[_,_,Z,Z,?_];erw[cy Z,λl H2 nw=>?_];have b2:bN p H1 H2:=.fi b1.bU nw.same;have lne:l≠p:=λe=>b1.bU.ne (e▸nw.no);erw[_,Z,p,2,Z,b2.bU,aw,aw,λi H3 i0 i1 b3=>?_];let(vq,mf,ef):=a6D [100,20] i0 i1;have f1:1<=vq/\vq<=100:=by
   rcases cM.mp mf with rfl|mf
   ·erw[aw,aw]
   rcases cM.mp mf with rfl|mf
   ·erw[aw,aw]
   ·exact(iu mf).elim
  erw[.inl #[l,_,_,_,Z,Z,aD.of (b3.same _ _ lne nw.at'),ef,?_]];erw[_,Z,_,Z,ao,ao,λD H4 n4=>?_];have hN:(2+t0).toNat<=1000:=by lia
  erw[Jz (2+t0).toNat [some (.ref p),some (.int vq)] n4 b3.bU hN (λi=>.int (0+(i:Int))) (λi H5 hi b5=>#[hi,λy H6 #[e1,e2]=>#[e1,e2]]) (λH5 b5=>aV _) (λz=>1<=z/\z<=100) ?_ ?_]
  ·intro i H5 Q' hi b5 hq
   erw[_,Z,_,Z,p,vq,Z,b5.bU,f1.1,ao,λz H6 z0 z1 b6=>?_];erw[_,_,Z,Z,hq _ _ #[ao,ao] b6]
  intro H5 rs b5 d5 lr pr;erw[D,_,Z,.inl #[aD.of d5,λq H6 n6=>?_]];have b6:bN p H5 H6:=.fi b5.bU n6.same;erw[3,Z,aw,aw,λD2 H7 n7=>?_];erw[Jz 3 [some (.ref p)] n7 b6.bU aw (λi=>.int (0+(i:Int))) (λi H8 hi b8=>#[hi,λy H9 #[e1,e2]=>#[e1,e2]]) (λH8 b8=>aV _) (λz=>1<=z/\z<=50) ?_ ?_]
  ·intro i H8 Q' hi b8 hq
   erw[_,Z,p,50,Z,b8.bU,aw,aw,λz H9 z0 z1 b9=>?_];erw[_,_,Z,Z,hq _ _ #[ao,ao] b9]
  intro H8 bs b8 d8 lb pb;erw[D2,_,Z,.inl #[aD.of d8,λq2 H9 n9=>?_]];have b9:bN p H8 H9:=.fi b8.bU n9.same;erw[_,Z,cy Z,λt1 o6 Ha=>?_];have xS:bN p H9 o6:=.fi b9.bU Ha.same
  match bs,lb,pb,n9 with |[x1,x2,x3],_,pb,n9=>have p1:=pb x1 (.head _);have p2:=pb x2 (.tail _ (.head _));have p3:=pb x3 (.tail _ (.tail _ (.head _)));erw[_,Z,t1,q2,_,_,Z,Z,aU.of Ha.at',aU.of (Ha.same _ _ n9.at'),cy Z,λv1 jc oB a11=>?_];have DS:bN p o6 jc:=.fi xS.bU oB;erw[_,Z,p,100,Z,DS.bU,aw,aw,λz H12 z0 z1 qT=>?_];erw[_,_,Z,Z,cy Z,λt2 AZ GZ=>?_];have vM:bN p H12 AZ:=.fi qT.bU GZ.same;erw[v1,t2,_,_,Z,Z,(aU.t (bN.t DS.bU qT) a11).go GZ.same,aU.of GZ.at',cy Z,λv2 AY fL a14=>?_];have pF:bN p AZ AY:=.fi vM.bU fL;have sq:aU K AY q (rs.map V.int):=aU.t (bN.t b6.bU (b8.trans (b9.trans (xS.trans (DS.trans (qT.trans (vM.trans pF))))))) (aU.of n6.at');erw[k (.ref v2) rs x1 x2 x3 (1+z) AY (fN a14 (cG (fN sq (pW rs)) (cG (fO _) (cG (fO _) (cG (fO _) (cG (fO _) cW)))))) #[ao,pr,p1,p2,p3,ao] (b1.trans (b2.trans (b3.trans (b5.trans (b6.trans (b8.trans (b9.trans (xS.trans (DS.trans (qT.trans (vM.trans pF)))))))))))]
inductive adI(vs:List V)(H:Hp)(Q:VK):Prop |mk (p:_)(h0:vs=[.ref p])(h1:gI H p)(h2:∀z H',dv 0 (.str z)->qi z=true->bN p H H'->Q (.str z) H')
def ZP:Sp:=λvs H Q _=>adI vs H Q
theorem MX:bf ["_law_bag_here"] ["_law_bag_here"] (aQ OU):=bo aG
theorem a3M(AA:All w K mg):bj P w K mg ay "_law_name" 2 ZP:=by
 exists AA.aam.has,MX,dg λ_=>rfl
 ·let(p,rfl,bg,k):=h
  have nd:=MX.nd;erw[_,(aH (aO (qe K Z bR (ak (eQ (N:=["_law_k","_law_bag_here"]) (js:=[none,some 0]) Z Z Z (sx Z (AA.B.at "range") (ak (aM dR aB (pf (fX AA) hr (ak (pv 0) (ak aB au)))) au)) (λ_ _ _ _ _=>(aR 0 (jN aw))) (λ_ _ _ _ _=>e9) (λ_ _ _ _ _=>(Gk Tr bR (pf (fX AA) hr (ak (pv 1) (ak aB au))) (λ_ _=>rfl)))) au)))),?_];erw[Z,?_];erw[_,Z,p,8,Z,bg,aw,aw,λn H1 n0 n1 b1=>?_];erw[_,_,Z,Z,_,Z,aL,aL,λD H2 nD=>?_];erw[VJ (K:=K) (J:=qX 0 (1+n).toNat) (p:=p) (H:=H1) (1+n).toNat _ nD b1.bU aL (λi=>.int (0+(i:Int))) (λi H3 hi _=>#[hi,λy H4 #[e,q]=>#[e,q]]) (λH3 _=>aV _) (λ_ d=>∃z:Str,d= .str z/\z.length=1/\da z/\z.cps.toList.all (λc=>decide (97<=c)&&decide (c<=122))=true) ?_ ?_]
  ·intro i H3 Q' hi b3 hq
   erw[_,Z,p,26,Z,b3.bU,aw,aw,λd H4 d0 d1 b4=>?_];have hd:d.toNat<kB.cps.toList.length:=by rw[acx];omega
   erw[kB,d,kB.cps.toList[d.toNat],Z,Z,aG,cB d0 (bL hd),?_];have ku:da ⟨#[kB.cps.toList[d.toNat]]⟩:=λc hc=>by have jR:c=kB.cps.toList[d.toNat]:=cV.mp hc;rw[jR];erw[acv _ (wj hd)]
   have gY:(⟨#[kB.cps.toList[d.toNat]]⟩:Str).cps.toList.all (λc=>decide (97<=c)&&decide (c<=122))=true:=by have:=gc.mp (show kB.cps.toList.all (λc=>decide (97<=c)&&decide (c<=122))=true by decide+kernel) _ (wj hd);show([kB.cps.toList[d.toNat]]:List Nat).all _=true;rw[yt,KC,Bt];erw[this]
   erw[hq _ _ _ #[_,Z,Z,ku,gY] Z (bC _) b4]
  ·intro H3 ys ds b3 d3 r3 l3 nl pd
   let(zs,rfl,hz):=Ls ds λd hd=>by let(i,hi):=oa.mp hd;erw[pd i d hi]
   rw[ou r3]at d3;rw[aW]at l3;erw["",D,zs,Z,Z,aD.of d3,λz mC=>by rw[(hz z mC).1];decide,aw,aL,?_];erw[k _ _ (Rr (da.join (jM aG) λa ha=>(hz a ha).2.1)) (a56 aL aL λz mC=>#[(hz z mC).1,(hz z mC).2.2]) (b1.trans b3)]
inductive adW(vs:List V)(H:Hp)(Q:VK):Prop |mk (p:Addr)(ax:Nat)(h0:vs=[.ref p,.int ax])(h1:gI H p)(h2:1<=ax)(h3:ax<=3)(h4:∀v d o H',RD K H' v d->jB ax d o->bN p H H'->Q v H')
def ZY:Sp:=λvs H Q _=>adW vs H Q
theorem jB.fF{n:Nat}{d:ah}(h:qV d):jB n d none:=#[h.it,(λ_ _ z=>nomatch z),λ_=>h]
theorem Nd:bf ["_law_bag_here","_law_axes","_law_sort","_law_speed","_law_most","_law_steps"] ["_law_bag_here","_law_axes"] (aQ Pf):=bo aG
theorem a3U(AA:All w K mg):bj P w K mg ay "_law_item" 3 ZY:=by
 exists AA.aar.has,Nd,eD λ_ _=>rfl
 ·let(p,ax,rfl,bg,ax1,ax2,k):=h
  have nd:=Nd.nd;erw[_,(az (pS 2 nd (pf (fX AA) hr (ak (pv 0) (ak aB au)))) (az (bI (bX (dN K Z hr.units) (pv 2) aB (bQ _)) (aH (aO (iK (ak bR (ak (aM dR aB (pf (fX AA) hr (ak (pv 0) (ak aB au)))) au))))) bP) (az (bI (bX (dN K Z hr.units) (pv 2) aB (bQ _)) (aH (aO (iK (ak bR (ak (px K (dj (ak bR (ak bR au))) (pf (fX AA) hr (ak (pv 0) (ak aB au)))) au))))) bP) (az (bI (bX (dN K Z hr.units) (pv 2) aB (bQ _)) (aH (aO (iK (ak bR (ak (pf (a3M AA) hr (ak (pv 0) au)) au))))) bP) (az (pS 3 nd (aM dR aB (pf (fX AA) hr (ak (pv 0) (ak aB au))))) (az (pS 4 nd (px K (dj (ak aB (ak aB (ak aB au)))) (pf (fX AA) hr (ak (pv 0) (ak aB au))))) (az (C8 (i0:=5) nd Z (Or.inl Z) (N:=["_law_axis","_law_most","_law_bag_here"]) (js:=[none,some 4,some 0]) Z Z Z (sx Z (AA.B.at "range") (ak (pv 1) au)) (λ_ _ _ _ _=>(aR 0 (show List.Nodup (["_law_axis","_law_most","_law_bag_here"]:List Str) by decide+kernel))) (λ_ _ _ _ _=>e9) (λ_ _ _ _ _=>(aM j6 (pf (fX AA) hr (ak (pv 2) (ak (aM dR (aM cN aB (pv 1)) aB) au))) (pv 1)))) (az (iZ (bI (cR (cw (fh (x:="any") (Wo K Z Z) Z (AA.B.at "any") Ko (ak (pv 5) au)))) (aH (fg aB (uG (pv 5) (pf (fX AA) hr (ak (pv 0) (ak (pv 1) au))) set_list))) bP)) (aH (aO (iK (ak bR (ak (dF (x:="tuple") (kh K Z) Z (AA.B.at "tuple") ir (ak (pv 5) au)) (ak (pv 3) au)))))))))))))),?_];erw[_,Z,p,6,Z,bg,aw,aw,λso H1 s0 s1 b1=>?_];erw[_,Z,.inl #[_,_,Z,Z,_,Z,?_]];erw[fQ (λhc=>?_) (λhc=>?_)]
  ·erw[_,Z,p,1000,Z,b1.bU,aw,aw,λn H2 n0 n1 b2=>?_]
   erw[_,_,Z,Z,cy Z,λt H3 n3=>?_];erw[k (.ref t) _ none H3 (fN (aU.of n3.at') (cG (bC _) (cG (fO _) cW))) (.fF (.inl #[_,Z,aL,aL])) (b1.trans (b2.trans (.fi b2.bU n3.same)))]
  erw[_,Z,.inl #[_,_,Z,Z,_,Z,?_]];erw[fQ (λhc=>?_) (λhc=>?_)]
  ·erw[cy Z,λc H2 n2=>?_]
   have b2:bN p H1 H2:=.fi b1.bU n2.same;have cp:c≠p:=λz=>b1.bU.ne (z▸n2.no);erw[_,Z,p,2,Z,b2.bU,aw,aw,λi H3 i0 i1 b3=>?_];have hi:∃z:Str,fb ([.str "up",.str "down"]:List V) i=some (.str z)/\dv 0 (.str z)/\Gq "tool" z:=by
    rcases(show i=0\/i=1 by omega)with rfl|rfl
    ·erw["up",Z,#[aG,aG],.inl #[Z,.inl Z]]
    ·erw["down",Z,#[aG,aG],.inl #[Z,.inr Z]]
   let(z,ez,Gw,onz):=hi;erw[.inl #[c,_,_,_,Z,Z,aD.of (b3.same _ _ cp n2.at'),ez,cy Z,λt H4 n4=>?_]];erw[k (.ref t) _ none H4 (fN (aU.of n4.at') (cG (bC _) (cG (bC _) cW))) (.fF (.inr #[_,_,Z,.inl Z,Gw,onz])) (b1.trans (b2.trans (b3.trans (.fi b3.bU n4.same))))]
  erw[_,Z,.inl #[_,_,Z,Z,_,Z,?_]];erw[fQ (λhc=>?_) (λhc=>?_)]
  ·erw[_,Z,p,Z,b1.bU,λz H2 Gw nz b2=>#[cy Z,λt H3 n3=>?_]]
   erw[k (.ref t) _ none H3 (fN (aU.of n3.at') (cG (bC _) (cG (bC _) cW))) (.fF (.inr #[_,_,Z,.inr Z,Gw,.inr #[Z,nz]])) (b1.trans (b2.trans (.fi b2.bU n3.same)))]
  erw[_,Z,p,20,Z,b1.bU,aw,aw,λsp H2 p0 p1 b2=>?_];erw[_,_,Z,Z,?_];erw[cy Z,λc H3 n3=>?_];have b3:bN p H2 H3:=.fi b2.bU n3.same;have cp:c≠p:=λz=>b2.bU.ne (z▸n3.no);erw[_,Z,p,3,Z,b3.bU,aw,aw,λi H4 i0 i1 b4=>?_];have hm:∃m:Int,fb ([.int 3,.int 20,.int 100]:List V) i=some (.int m)/\1<=m/\m<=100:=by
   rcases(show i=0\/i=1\/i=2 by omega)with rfl|rfl|rfl
   ·erw[3,Z,aw,aw]
   ·erw[20,Z,aw,aw]
   ·erw[100,Z,aw,aw]
  let(m,em,m1,m2):=hm;erw[.inl #[c,_,_,_,Z,Z,aD.of (b4.same _ _ cp n3.at'),em,?_]];have pF:=b1.trans (b2.trans (b3.trans b4));erw[_,Z,_,Z,aL,aL,λD H5 nD=>?_];erw[Jz (J:=qX 0 ax) (p:=p) (H:=H4) ax _ nD pF.bU aL (λi=>.int (0+(i:Int))) (λi H3 hi _=>#[hi,λy H4 #[e,q]=>#[e,q]]) (λH3 _=>aV _) (λz=>(z.natAbs:Int)<=m) ?_ ?_]
  ·intro i H6 Q' hi b6 hq
   erw[_,Z,_,Z,_,_,Z,Z,.of_left (dC aw aw),_,_,Z,Z,p,2*m+1,Z,b6.bU,aL,aL,λd H7 d0 d1 b7=>?_];erw[_,Z,_,_,Z,Z,hq _ _ aL b7]
  intro H6 is b6 d6 l6 W9;have JN:=pF.trans b6;have lp:D≠p:=λz=>pF.bU.ne (z▸nD.no);have nl:H D=none:=by cases e:H D with |none=>rfl |some o=>have:=pF.same _ _ lp e;rw[nD.no]at this;cases this
  erw[λO H7=>bN p H H7/\∃(is:List Int),H7 D=some (.lst (is.map V.int))/\ft ax 100 is/\O=[some (.ref p),some (.int ax),some (.int so),some (.int (1+sp)),some (.int m),some (.ref D)],?_,?_]
  ·erw[kA ?_];intro E1
   erw[_,Z,D,is,Z,.inl (aD.of d6),_,Z,?_];cases ha:is.any (· !=0)with
   |false=>
    erw[bM ?_];erw[_,Z,_,Z,_,Z,p,(ax:Int),Z,JN.bU,aL,aL,λix H7 i0 i1 b7=>?_];have d7:=b7.same _ _ lp d6;erw[D,_,ix,ix.toNat,Z,Z,d7,?_,?_]
    ·unfold jo;rw[ba i0,ba (by rw[aW,l6];erw[i1])]
    erw[?_,is.set ix.toNat 1,?_,#[?_,?_,?_],Z]
    ·have Wg:=JN.trans b7
     erw[?_,λb o n e=>?_]
     ·let(c',m',e,ok):=Wg.bU
      erw[c',m',by rw[aY lp.symm];erw[e],ok]
     ·rw[aY (eM e nl)];erw[Wg.same b o n e]
    ·rw[bZ,Es]
    ·rw[yk];erw[l6]
    ·intro z hz
     rcases List.mem_or_eq_of_mem_set hz with h|h
     ·have:=W9 z h;omega
     ·rw[h];decide
    ·erw[1,X9.mpr #[ix.toNat,by rw[yk];omega,by rw[Xe]],aw] |true=>erw[aP ?_];erw[JN,is,d6,#[l6,λz hz=>by have:=W9 z hz;omega,?_],Z];let(z,hz,h0):=yo.mp ha;erw[z,hz,by simpa using h0]
  rintro O H7 ⟨b7,is,d7,ok,rfl⟩;erw[_,Z,D,_,Z,.inl #[aD.of d7,λq H8 n8=>?_]];erw[_,Z,cy Z,λt H9 n9=>?_];erw[k (.ref t) (eF is (1+sp)) (some (is,1+sp)) H9 (fN (aU.of n9.at') (cG (bC _) (cG (fN (aU.of (n9.same _ _ n8.at')) (pW is)) (cG (fO _) cW)))) #[.inl #[is,_,Z,Z],λns sp e=>by cases e;erw[ok,aL,aL],λz=>nomatch z] (b7.trans (.fi b7.bU (n8.same.trans n9.same)))]
end
end _a
set_option maxHeartbeats 2000000
namespace _a
open PySem PySem.Spec PyProof.Rows _L _l _W
open _T (numS numIn? figs isFig Free)
open _O (Itm)
section
theorem xq(sep a:Str)(as:List Str)(h:as≠[]):Txt.join sep (a::as)=a++sep++Txt.join sep as:=by show Builtin.Str.glued sep (a::as)=a++sep++Builtin.Str.glued sep as;rw[tW,tW];cases as with |nil=>exact(h Z).elim |cons b r=>rfl
theorem join_snoc(sep b:Str):∀(as:List Str),as≠[]->Txt.join sep (as++[b])=Txt.join sep as++sep++b |[],h=>(h Z).elim |[a],_=>rfl |a::c::r,_=>by have e:=join_snoc sep b (c::r) (by simp);rw[List.cons_append,xq sep a (c::r++[b]) (by simp),e,xq sep a (c::r) (by simp)];simp only[WW]
theorem Hq(ns:List Int)(sp:Int)(h:ns≠[]):gq (eF ns sp)=Txt.join ⟨#[32]⟩ ("line"::(ns.map numS++[numS sp])):=by
 have hn:ns.map numS≠[]:=by simpa using h
 rw[D4,<-pR,xq _ _ _ (by simp),join_snoc _ _ _ hn];have e:("line ":Str)="line"++" ":=by decide+kernel
 rw[e];unfold fj;simp only[WW]
theorem nK(ha:Free c a)(hb:Free c b):Free c (a++b):=λh=>by rw[rA,oo,gy]at h;erw[h.elim ha hb]
theorem IS{c:Nat}{sep:Str}(hs:Free c sep):∀l:List Str,(∀a∈l,Free c a)->Free c (Txt.join sep l) |[],_=>λh=>by have e:(Txt.join sep []).cps.toList=[]:=rfl;rw[e]at h;cases h |[x],h=>h x (.head _) |x::y::r,h=>by rw[xq _ _ _ (by simp)];erw[nK (nK (h x (.head _)) hs) (IS hs (y::r) λa ha=>h a (.tail _ ha))]
theorem sy(i:Int):da (numS i):=λc hc=>by cases i with |ofNat m=>rw[show(numS (Int.ofNat m)).cps.toList=_ from _T.qQ m]at hc;have:=_T.pD m c hc;omega |negSucc m=>
 rw[_T.Au]at hc;rcases cM.mp hc with e|hc
 ·omega
 ·have:=_T.pD (m+1) c hc
  omega
structure qY(n:Nat)(d:ah):Prop where
 rt:uZ n (gq d)=d
 len:(gq d).length<=400
 ok:vS (gq d)
 fr:Free 10 (gq d)
 ti:TI d
 wZ:dv 8 d
theorem iR(h:(z.cps.toList.all λx=>x !=c)=true):Free c z:=λhc=>by have:=gc.mp h c hc;simp at this
theorem a57(h:qi z=true)(hc:c<97):Free c z:=λh'=>by unfold qi at h;rw[fA]at h;have:=gc.mp h.2 c h';unfold CO at this;simp at this;omega
theorem Rf{w:Str}(h:Gq w s)(hc:c=10\/c=32):Free c s:=by
 rcases h with⟨_,rfl|rfl⟩|⟨_,hn⟩
 ·rcases hc with rfl|rfl<;>erw[iR aG]
 ·rcases hc with rfl|rfl<;>erw[iR aG]
 ·erw[a57 hn aL]
theorem GY(h:i.natAbs<10^40):nI (numS i)= .int i:=by unfold nI;have:(numS i).length<=41:=L1 h;rw[_T.Cy aL];rfl
theorem a58{ns:List Int}(h:∀z∈ns,z.natAbs<10^40):(ns.map numS).map nI=ns.map PyData.int:=by rw[Et];erw[List.map_congr_left λz hz=>GY (h z hz)]
theorem Tt{n:Nat}{d:ah}(e:gq d=Txt.join ⟨#[32]⟩ ws)(hn:ws≠[])(hf:∀z∈ws,Free 32 z)(ht:gU ws=d)(hi:nk n d=true):uZ n (gq d)=d:=by unfold uZ;rw[e,pR,_T.BX hn hf,ht,hi];rfl
theorem jB.tx{n:Nat}{d:ah}(h:jB n d o)(n1:1<=n)(n3:n<=3):qY n d:=by have hi:=h.is.1;have cO:da (" ":Str):=jM aG;have UJ:Free 10 (" ":Str):=iR aG;cases o with
 |some q=>
  let(ns,sp):=q;have ed:=iP h.it;subst ed;let(bW,s1,s2):=h.ln ns sp rfl;have hb:∀z∈ns,z.natAbs<10^40:=λz hz=>by have:=bW.bd z hz;omega
  have hs:sp.natAbs<10^40:=by omega
  have cD:ns≠[]:=λe=>by rw[e]at bW;have:=bW.len;simp at this;omega
  have ti:TI (eF ns sp):=.inl #[ns,sp,Z,by rw[bW.len];erw[n3],hb,hs];erw[Tt (Hq ns sp cD) (by simp) (λz hz=>?_) ?_ hi,I0 ti,?_,?_,ti,h.is.2.1]
  ·rcases cM.mp hz with rfl|hz
   ·erw[iR aG]
   ·rcases gy.mp hz with hz|hz
    ·let(i,_,rfl):=cJ.mp hz
     erw[_T.kQ aw aw]
    ·rw[cV.mp hz];erw[_T.kQ aw aw]
  ·obtain⟨x,xs,rfl⟩:∃x xs,ns=x::xs:=by cases ns with|nil=>exact(cD rfl).elim|cons x xs=>erw[x,xs,rfl]
   have e1:(x::xs).map numS++[numS sp]=numS x::(xs.map numS++[numS sp]):=rfl;have e2:(numS x::(xs.map numS++[numS sp])).map nI=(x::xs).map PyData.int++[.int sp]:=by rw[<-e1,fT,a58 hb];show _++[nI (numS sp)]=_;rw[GY hs]
   rw[e1,EK,e2,cv,aW,yj,List.take_left' (by simp),Xc,List.getLast?_append,List.getLast?_singleton];rfl
  ·rw[Hq ns sp cD,<-pR]
   erw[da.join cO λa ha=>?_];rcases cM.mp ha with rfl|ha
   ·erw[jM aG]
   ·rcases gy.mp ha with ha|ha
    ·let(i,_,rfl):=cJ.mp ha
     erw[sy i]
    ·rw[cV.mp ha];erw[sy sp]
  ·rw[Hq ns sp cD,<-pR]
   erw[IS UJ _ λa ha=>?_];rcases cM.mp ha with rfl|ha
   ·erw[iR aG]
   ·rcases gy.mp ha with ha|ha
    ·let(i,_,rfl):=cJ.mp ha
     erw[_T.kQ aw aw]
    ·rw[cV.mp ha];erw[_T.kQ aw aw] |none=>
  have key:∀(w y:Str)(u:ah),d= .tuple [.str w,u]->gq d=w++" "++y->w≠"line"->(if w="wait" then nI y else .str y)=u->Free 32 w->Free 32 y->Free 10 w->Free 10 y->da w->da y->TI d->qY n d:=λw y u e1 e2 hw hu f1 f2 f3 f4 o1 o2 ti=>by
   have ej:gq d=Txt.join ⟨#[32]⟩ [w,y]:=by rw[e2,<-pR];rfl
   erw[Tt ej (by simp) (λz hz=>?_) ?_ hi,I0 ti,?_,?_,ti,h.is.2.1]
   ·simp only[cM,iu,kE]at hz
    rcases hz with rfl|rfl
    ·erw[f1]
    ·erw[f2]
   ·rw[BO hw,hu,e1]
   ·rw[e2];exact(o1.app cO).app o2
   ·rw[e2];erw[nK (nK f3 UJ) f4]
  rcases h.ot rfl with⟨z,rfl,z1,z2⟩|⟨w,s,rfl,hw,ml,on⟩
  ·have hb:z.natAbs<10^40:=by omega
   erw[key "wait" (numS z) (.int z) Z Z aG (by rw[ba Z,GY hb]) (iR aG) (_T.kQ aw aw) (iR aG) (_T.kQ aw aw) (jM aG) (sy z) (.inr (.inl #[_,_,Z,.inl Z,hb]))]
  ·have hl:s.length<=100:=by
    rcases on with⟨_,rfl|rfl⟩|⟨_,hn⟩
    ·decide+kernel
    ·decide+kernel
    ·unfold qi at hn
     simp only[fA,Eg]at hn;omega
   have cD:w≠"line"/\w≠"wait"/\Free 32 w/\Free 10 w/\da w:=by
    rcases hw with rfl|rfl
    ·erw[aG,aG,iR aG,iR aG,jM aG]
    ·erw[aG,aG,iR aG,iR aG,jM aG]
   erw[key w s (.str s) Z Z cD.1 (by rw[bc cD.2.1]) cD.2.2.1 (Rf on (.inr Z)) cD.2.2.2.1 (Rf on (.inl Z)) cD.2.2.2.2 (Rp ml) (.inr (.inr #[_,_,Z,hw,hl]))]
theorem qY.no{n:Nat}{d:ah}(h:qY n d):dW d=true:=by
 rcases h.ti with⟨ns,sp,rfl,_⟩|⟨w,i,rfl,_⟩|⟨w,z,rfl,_⟩
 ·erw[Hr _ _]
 ·rfl
 ·rfl
theorem qY.ne{n:Nat}{d:ah}(h:qY n d):d≠ .none:=by rcases h.ti with⟨ns,sp,rfl,_⟩|⟨w,i,rfl,_⟩|⟨w,z,rfl,_⟩<;>erw[λz=>nomatch z]
end
end _a
namespace _a
open PySem PySem.Spec PyProof.Rows _L _b _l _C _P _W _R
open _O (topR cornO mnO betR atO ownF leadF ownL OkI OkIs)
open _T (numS)
section
theorem dy.item{D:Nat}(ok:dy M D S){i:Nat}{d:ah}(ed:S.ds[i]? =some d):∃o,S.os[i]? =some o/\jB M.rs.length d o:=by let(o,eo,it):=ok.row.get ed;erw[o,eo,it,λns sp e=>ok.row.ok i ns sp (by rw[eo,e]),λe=>ok.rw i d (by rw[eo,e]) ed]
theorem bw.Ok.n3{M:bw}(aA:M.Ok):1<=M.rs.length/\M.rs.length<=3:=by
 have:=aA.len
 lia
theorem dy.tx{D:Nat}(ok:dy M D S)(aA:M.Ok):∀d∈S.ds,qY M.rs.length d:=λd hd=>by let(i,hi):=oa.mp hd;let(o,_,h):=ok.item hi;erw[h.tx aA.n3.1 aA.n3.2]
structure o4(S:bp):Prop where
 s1:S.side.length<=100
 m1:S.mark.length<=100
 s2:da S.side
 m2:da S.mark
theorem o4.eq(h:o4 S)(a:S'.side=S.side)(b:S'.mark=S.mark):o4 S':=#[by rw[a];erw[h.s1],by rw[b];erw[h.m1],by rw[a];erw[h.s2],by rw[b];erw[h.m2]]
theorem QX:2^1700<10^540:=by decide+kernel
theorem xR(h:Bd 1700 q):jY q.num/\jY q.den:=#[rC h.num QX,rC (show(q.den:Int).natAbs<2^1700 from h.den) QX]
theorem Sn(hq:0<q)(hk:0<=k)(qB:k<=q):(gZ (k*z) q).natAbs<=z.natAbs:=by
 by_cases hz:0<=z
 ·have:=CD hq hk qB hz
  omega
 ·have h:=CD (z:=-z) hq hk qB aL
  rw[show k*-z=-(k*z) by rw[Int.mul_neg],Sm hq]at h;omega
theorem Yk(h1:1<=ti)(h2:ti<=100)(hq:0<q.num)(hd:q.den<2^1600):jY (me ti q):=by
 unfold me;split
 ·next hx=>
  let(a,b,c):=hx.choose_spec;generalize hx.choose=T at a b c;have hm:ti*ti<=10000:=by
   have:=wk h2 h2 ao aw
   lia
  have Iw:ti*ti*(q.den:Int)<=10000*(q.den:Int):=Bp hm ao;have ck:T-1<ti*ti*(q.den:Int):=Int.not_le.mp λh=>by rw[V9 hq ao h]at c;cases c
  have hp:10001*2^1600<10^540:=by decide+kernel
  show T.natAbs<10^540;generalize(10:Nat)^540=X at hp⊢;generalize(2:Nat)^1600=Y at hp hd
  lia
 ·show(0:Int).natAbs<10^540
  decide+kernel
theorem One.yG{D:Nat}(h:dy M D S)(aA:M.Ok)(hD:D<=1000)(o:One M S e S1):DU e:=by cases o with
 |@line ns sp eo nh=>
  let(bW,s1,s2):=h.row.ok 0 ns sp eo;have hd:S.dn<aE ns:=by
   rcases h.dn with e|⟨zA,pT,e1,e2⟩
   ·rw[e];erw[bW.lead.1]
   ·rw[eo]at e1;cases e1;erw[e2]
  have hn:S.os≠[]:=λe=>by rw[e]at eo;simp at eo
  let(R1,R2):=G1 h.raw aA hn;have D1:=h.D1;have iz:=aA.r1;have ie:=aA.f1;have mD:=SE (r:=M.r) (f:=M.f) (left:=(aE ns:Int)-S.dn) ao ao ao h.pd ((EI S.rate sp).mono ao) (R1.mono ao) h.bG nh;have mL:mr M S ns sp<=1600:=cL SA (BM s1 s2 h.cg h.cn);have tp:0<topR S.rate sp:=BL s1 h.cg;have mP:0<mr M S ns sp:=SD iz.1 ie.1 ao h.pd.nn tp R1.nn h.bG nh;have bd:Bd 1700 (mr M S ns sp):=(mD.bd (cL mL aG)).mono ao;let(b1,b2):=xR bd;have Lo:=aA.t1;have n3:=aA.n3;erw[.inr #[gd ns S.dn,_,_,_,Z,?_,λz hz=>?_,Yk Lo.1 Lo.2 (GO mP) (gK mD.den (tY aw ao)),b1,b2]]
  ·show(ns.map _).length<=3
   rw[aW,bW.len];erw[n3.2]
  ·let(y,hy,rfl):=cJ.mp hz
   have hy2:=bW.bd y hy;have c1:=Sn (z:=y) (q:=(aE ns:Int)) (k:=(S.dn:Int)+1) ao ao ao;have c2:=Sn (z:=y) (q:=(aE ns:Int)) (k:=(S.dn:Int)) ao ao ao;show Int.natAbs _<10^40
   lia |fF eo ed nh=>
  let(o,eC,it):=h.item ed;rw[eo]at eC;cases eC;erw[.inl #[(it.tx aA.n3.1 aA.n3.2).ti,λns sp e=>?_]];rcases it.it with⟨_,_,_,z⟩|⟨w,x,e2,hw,_⟩
  ·cases z
  ·rw[e2]at e
   erw[yF (show nZ w from hw) #[ns,sp,e]]
theorem Run.yG{D:Nat}(h:dy M D S)(aA:M.Ok)(hD:D<=1000)(r:Run M S es S1):∀e∈es,DU e:=by induction r with |nil=>erw[λe he=>nomatch he] |cons o _ ih=>
 intro e he;rcases cM.mp he with rfl|he
 ·erw[o.yG h aA hD]
 ·erw[ih (o.ok h aA) e he]
theorem DB(S:bp):(kY S).side=S.side/\(kY S).mark=S.mark:=by unfold kY;split<;>erw[Z,Z]
theorem One.sd{D:Nat}(h:dy M D S)(aA:M.Ok)(o:One M S e S1)(hs:o4 S):o4 S1:=by cases o with
 |@line ns sp eo nh=>
  have h1:o4 (kx M S ns sp):=hs.eq Z rfl;unfold iA;split
  ·let(a,b):=DB (kx M S ns sp)
   erw[h1.eq a b]
  ·erw[h1] |fF eo ed nh=>
  have tx:=h.tx aA e (fz ed);let(a,b):=DB (cZ e S);erw[o4.eq ?_ a b];rcases tx.ti with⟨ns,sp,rfl,_⟩|⟨w,i,rfl,_⟩|⟨w,y,rfl,_,hy⟩
  ·erw[hs]
  ·erw[hs]
  ·have oy:da y:=λc hc=>tx.ok c (by rw[show gq (.tuple [.str w,.str y])=w++" "++y from Z,rA,oo,gy];erw[.inr hc]);show o4 (cZ (.tuple [.str w,.str y]) S);unfold cZ;dsimp only;split
   ·erw[hy,hs.m1,oy,hs.m2]
   ·split
    ·erw[hs.s1,hy,hs.s2,oy]
    ·erw[hs]
theorem Run.sd{D:Nat}(h:dy M D S)(aA:M.Ok)(r:Run M S es S1)(hs:o4 S):o4 S1:=by induction r with |nil=>erw[hs] |cons o _ ih=>erw[ih (o.ok h aA) (o.sd h aA hs)]
end
section
theorem zt{pl:List Int}(h:fo rs pl)(hr:∀z∈rs,1<=z/\z<=100):∀n∈pl,0<=n/\n<=100:=λn hn=>by
 let(i,hi):=oa.mp hn;have hl:i<rs.length:=by rw[<-h.len];exact(cK.mp hi).1
 have e:=bL hl;have:=h.at' i n _ hi e;have:=hr _ (wj hl)
 lia
structure RG(M:bw)(D:Nat)(S:bp):Prop where
 ok:dy M D S
 aA:M.Ok
 sd:o4 S
 on:iD M S
 hD:D<=1000
theorem RG.place{D:Nat}(g:RG M D S):∀n∈jj S,Nm n:=λn hn=>by
 have:=zt (g.on.place g.ok) g.aA.rl n hn;show n.natAbs<10^40
 lia
theorem RG.pc{D:Nat}(g:RG M D S):jY S.pc.num/\jY S.pc.den:=by have:=g.hD;erw[xR ((g.ok.pd.bd (cL g.ok.pm aG)).mono ao)]
def kv(z:Str):Str:=if z="" then "none" else z
def wL (q:Rat):Str:=gR q.num q.den
def Cb(r f j rate:Int)(os:List Itm):Str:=Txt.join " " ((kN r f j rate os).map wL)
inductive Wd |place |square |gf |rL |mark
def Wd.txt:Wd->Str | .place=>"place" | .square=>"square" | .gf=>"plan" | .rL=>"tool" | .mark=>"mark"
def xU(M:bw)(S:bp):Wd->Str | .place=>fj (jj S) | .square=>wL S.pc | .gf=>Cb M.r M.f M.j S.rate S.os | .rL=>S.side | .mark=>kv S.mark
inductive acW(C:Addr)(w:Wd)(vs:List V)(H:Hp)(Q:VK):Prop |mk (a:_)(q:_)(M:_)(D:_)(S:_)(h0:vs=[.ref a])(h1:cT C H a q M S)(h2:RG M D S)(h3:∀H',aF H H'->Q (.str (xU M S w)) H')
def ur(C:Addr)(w:Wd):Sp:=λvs H Q _=>acW C w vs H Q
theorem NU:bf ["runner"] ["runner"] (aQ Fx):=bo aG
theorem a4h(F:FA K mg "answer_place" Fx)(B:m8 mg)(TC:tO K C)(a74:bj P w K mg ay "show_numbers" 2 LU)(a8q:dA P w K mg ay C "place" 3 (jF C λ_ S H Q=>∀v H',RD K H' v (dh (jj S))->aF H H'->Q v H')):bj P w K mg ay "answer_place" 4 (ur C .place):=by
 exists F.has,NU,dg λ_=>rfl
 ·let(a,q,M,D,S,rfl,R,g,k):=h
  let(dx,mv,bv,cI,tv,e,r1,r2,r3,r4):=R.ob;have nd:=NU.nd;have lr:=g.aA.n3;have lp:=a2o g.ok;erw[_,(aH (aO (pf a74 hr (ak (jL a8q TC.cl (hr.mono aw) (pv 0)) au)))),?_];erw[_,Z,a,dx,_,Z,e,Z,a,q,M,D,S,Z,R,g.ok,g.aA,λv H1 rv s1=>#[v,jj S,Z,rv,ao,g.place,λH2 s2=>k _ (s1.trans s2)]]
theorem NS:bf ["runner"] ["runner"] (aQ Fv):=bo aG
theorem a4f(F:FA K mg "answer_square" Fv)(B:m8 mg)(TC:tO K C)(Ip:bj P w K mg ay "show_fraction" 2 Fd)(a8o:dA P w K mg ay C "square" 1 (jF C UI)):bj P w K mg ay "answer_square" 3 (ur C .square):=by
 exists F.has,NS,dg λ_=>rfl
 ·let(a,q,M,D,S,rfl,R,g,k):=h
  let(dx,mv,bv,cI,tv,e,r1,r2,r3,r4):=R.ob;have nd:=NS.nd;erw[_,(aH (aO (pf Ip hr (ak (jL a8o TC.cl (hr.mono aw) (pv 0)) au)))),?_];erw[_,Z,a,dx,_,Z,e,Z,a,q,M,D,S,Z,R,g.ok,g.aA,λv rv=>#[v,_,_,Z,rv.rd,g.pc.1,g.pc.2,λH2 s2=>k H2 s2]]
theorem NP:bf ["runner"] ["runner"] (aQ Fu):=bo aG
theorem a4c(F:FA K mg "answer_tool" Fu)(B:m8 mg)(TC:tO K C)(a8m:dA P w K mg ay C "tool" 1 (jF C λ_ S H Q=>Q (.str S.side) H)):bj P w K mg ay "answer_tool" 2 (ur C .rL):=by
 exists F.has,NP,dg λ_=>rfl
 ·let(a,q,M,D,S,rfl,R,g,k):=h
  let(dx,mv,bv,cI,tv,e,r1,r2,r3,r4):=R.ob;have nd:=NP.nd;erw[_,(aH (aO (jL a8m TC.cl (hr.mono aw) (pv 0)))),?_];erw[_,Z,a,dx,_,Z,e,Z,a,q,M,D,S,Z,R,g.ok,g.aA,k H (aF.refl _)]
theorem NV:bf ["runner"] ["runner"] (aQ Fy):=bo aG
theorem a4i(F:FA K mg "answer_mark" Fy)(B:m8 mg)(TC:tO K C)(a8g:GV mg "NOTHING" (.str "none"))(a8r:dA P w K mg ay C "last_mark" 1 (jF C λ_ S H Q=>Q (.str S.mark) H)):bj P w K mg ay "answer_mark" 2 (ur C .mark):=by
 exists F.has,NV,dg λ_=>rfl
 ·let(a,q,M,D,S,rfl,R,g,k):=h
  let(dx,mv,bv,cI,tv,e,r1,r2,r3,r4):=R.ob;have nd:=NV.nd;have sd:=g.sd.m1;erw[_,(aH (aO (QS (jL a8r TC.cl (hr.mono aw) (pv 0)) (oE (dM (x:="NOTHING") Z a8g))))),?_];have k2:Q (.str (kv S.mark)) H:=k H (aF.refl _);unfold kv at k2;erw[_,Z,a,dx,_,Z,e,Z,a,q,M,D,S,Z,R,g.ok,g.aA,?_];erw[_,Z,ao,?_];split
  ·next e0=>rw[ba e0]at k2;erw[k2]
  ·next e0=>rw[bc e0]at k2;erw[k2]
theorem Cc{r f j rate:Int}{os:List Itm}{i:Nat}{q:Rat}(h:(kN r f j rate os)[i]? =some q):i<=os.length/\q=cH r f j rate os i:=by
 have hl:i<(kN r f j rate os).length:=(cK.mp h).1;have e:(kN r f j rate os).length=os.length+1:=lP _ _;have h2:i<=os.length:=by lia
 erw[h2,?_];have:=lQ (cH r f j rate os) h2;erw[eW (h.symm.trans this)]
theorem NT:bf ["runner","plan"] ["runner"] (aQ Fw):=bo aG
theorem a4g(F:FA K mg "answer_plan" Fw)(B:m8 mg)(TC:tO K C)(a7b:bj P w K mg ay "plan_of" 9 F8)(Ip:bj P w K mg ay "show_fraction" 2 Fd)(a8l:dA P w K mg ay C "waiting" 1 (jF C λ_ S H Q=>∀l ys H',H l=none->H' l=some (.lst ys)->aI K H' ys S.ds->aF H H'->Q (.ref l) H'))(a8p:dA P w K mg ay C "rate" 1 (jF C λ_ S H Q=>Q (.int S.rate) H)):bj P w K mg ay "answer_plan" 10 (ur C .gf):=by
 exists F.has,NT,dg λ_=>rfl
 ·let(a,q,M,D,S,rfl,R,g,k):=h
  let(dx,mv,bv,cI,tv,e,r1,r2,r3,r4):=R.ob;have nd:=NT.nd;have ok:=g.ok;have aA:=g.aA;have hl:=ok.len;erw[_,(az (pS 1 nd (pf a7b hr (ak (cS TC.cl TC.mq (pv 0)) (ak (dF (x:="tuple") (kh K rfl) rfl (B.at "tuple") ir (ak (jL a8l TC.cl (hr.mono aw) (pv 0)) au)) (ak (jL a8p TC.cl (hr.mono aw) (pv 0)) au))))) (aH (aO (qe K Z bR (ak (eQ (N:=["square"]) (js:=[none]) Z Z Z (mX K Z (pv 1)) (λ_ _ _ _ _=>(aR 0 (iM _))) (λ_ _ _ _ _=>e9) (λ_ _ _ _ _=>(pf Ip hr (ak (pv 0) au)))) au))))),?_];erw[_,Z,a,dx,_,_,Z,e,Z,?_];erw[_,Z,a,dx,_,Z,e,Z,a,q,M,D,S,Z,R,ok,aA,λl ys H1 nl el rl s1=>?_];erw[l,ys,Z,.inl #[aD.of el,λt H2 n2=>?_]];have s2:=s1.trans n2.same;have e2:=s2 _ _ e;erw[_,Z,a,dx,_,Z,e2,Z,a,q,M,D,S,Z,R.same ok.row.no s2,ok,aA,?_];erw[mv,.ref t,S.rate,M.rs,M.r,M.f,M.j,M.t,S.ds,S.os,Z,RD.mono s2 _ r1,aA,fN (aU.of n2.at') (aI.mono n2.same _ rl),ok.row,ao,ok.cg,ok.cn,λp zs H3 np ep rp s3=>?_];erw[Z,?_];have lz:=rp.length;have lp:(kN M.r M.f M.j S.rate S.os).length=S.os.length+1:=lP _ _;have ll:=ok.row.len;rw[aW,lp]at lz;erw[_,Z,p,Z,#[_,aD.of ep],λD2 H4 n4=>?_];erw[vG (K:=K) (ds:=((kN M.r M.f M.j S.rate S.os).map wL).map PyData.str) _ (aD.of ep) n4 (by rw[aW,aW,lp];erw[lz]) ao (oM _) ?_ ?_]
  ·intro i x d H5 Q' ex ed s5 hq
   let(d',dG,rx):=rp.get' i ex;rw[bO]at dG;rw[bO,bO]at ed;cases eq:(kN M.r M.f M.j S.rate S.os)[i]? with |none=>rw[eq]at dG;cases dG |some qq=>rw[eq]at dG ed;cases dG;cases ed;let(hi,rfl):=Cc eq;let(n1,n2):=xR (wO aA ok.row ao ok.cg ok.cn i hi);erw[_,Z,x,_,_,Z,RD.mono s5 _ rx,n1,n2,λH6 s6=>hq _ _ s6 (bC _)]
  ·intro H5 ws s5 d5 r5
   rw[ou r5]at d5;erw[" ",D2,_,Z,Z,aD.of d5,λz hz=>?_,aG,by rw[aW,lp];lia,k _ (s2.trans (s3.trans s5))];let(qq,hq,rfl):=cJ.mp hz;let(i,hi):=oa.mp hq;let(nF,rfl):=Cc hi;let(n1,n2):=xR (wO aA ok.row ao ok.cg ok.cn i nF);have:=Aa n1 n2;show(gR _ _).length<=_
   lia
end
end _a
set_option maxHeartbeats 1000000
namespace _a
open PySem PySem.Spec PyProof.Rows _L _b _l _C _P _W
open _O (topR cornO mnO betR atO ownF leadF ownL OkI OkIs)
open _T (numS)
section
def vc:ah->Bool | .tuple ds=>(ds.length==2||ds.length==3)&&ds.all (dw 1 100) |_=>false
def oW:ah->Bool | .tuple [r,a,b,c,t]=>vc r&&dw 1 100 t&&[a,b,c].all (dw 1 50) |_=>false
theorem a6L(n:Nat):De (.int n) [.int 2,.int 3]=(n==2||n==3):=by
 show((2:Int)==n||((3:Int)==n||false))=_;rw[Bool.or_false];congr 1
 ·rw[kg];simp;lia
 ·rw[kg];simp;lia
inductive aeg(f:ah->Bool)(K:aa)(vs:List V)(H:Hp)(Q:VK):Prop |mk (v:_)(d:_)(h0:vs=[v])(h1:RD K H v d)(h2:∀H',aF H H'->Q (.bl (f d)) H')
def M4(f:ah->Bool)(K:aa):Sp:=λvs H Q _=>aeg f K vs H Q
theorem NR:bf ["thing"] ["thing"] (aQ Q0):=bo aG
theorem a4e(AA:All w K mg):bj P w K mg ay "are_rails" 3 (M4 vc K):=by
 exists AA.aac.has,NR,dg λ_=>rfl
 ·let(v,d,rfl,rd,k):=h
  have nd:=NR.nd;let(aX,a8h,Ze):=AA.a8Y;erw[_,(az (bI (PW.pt (iI (cR (cw (mj K AA.B (ak (pv 0) (ak (mi (x:="tuple") (v:=.ty "tuple") Z (AA.B.at "tuple") ir rfl) au))))) (jJ (bX (a4F K rfl) (fW K AA.B (ak (pv 0) au)) (dM (x:="AXES") rfl a8h) (by with_unfolding_all rfl))))) (aH (aO j4)) bP) (aH (aO (fh (x:="all") (vP K Z Z) Z (AA.B.at "all") yg (ak (eQ (N:=["rail"]) (js:=[none]) rfl rfl rfl (j3 K rfl (pv 0)) (λ_ _ _ _ _=>(aR 0 (iM _))) (λ_ _ _ _ _=>e9) (λ_ _ _ _ _=>(pf (oG AA) hr (ak (pv 0) (ak aB (ak (dM (x:="LONGEST_RAIL") rfl AA.a8Q) au)))))) au))))),?_];rcases yC d with⟨ds,rfl⟩|⟨ht,hn⟩
  ·erw[_,Z,.inl #[_,_,"tuple",true,Z,rd.ty,aw,mT,_,Z,aP ?_]]
   let(p,xs,rfl,hx,hd):=rd.cu;have hl:=hd.length;erw[_,Z,p,_,Z,.inr hx,aX,_,Z,.inr (Ze H),Z,Z,_,Z,?_];have k:∀H',aF H H'->Q (.bl ((ds.length==2||ds.length==3)&&ds.all (dw 1 100))) H':=k;show if(!De (.int xs.length) [.int 2,.int 3])=true then _ else _;rw[a6L,hl];cases Jr:(ds.length==2||ds.length==3)with |false=>rw[Jr,jE]at k;erw[bM (k H (aF.refl _))] |true=>
    rw[Jr,jD]at k;erw[aP ?_];have l3:ds.length<=3:=by rw[Bool.or_eq_true,fK,fK]at Jr;lia
    erw[_,Z,p,Z,#[_,hx],λD H0 nw=>?_];erw[Ax (xs:=xs) (bs:=ds.map (dw 1 100)) [] hx nw (by rw[aW,hl]) ao ?_ ?_]
    ·intro i x b H2 Q' ex eb s2 hq
     let(d,ed,rfl):=CK eb;let(x',kz,rx):=hd.get i ed;rw[ex]at kz;cases kz;erw[_,Z,_,d,1,100,Z,RD.mono s2 _ rx,hq _ (aF.refl _)]
    ·intro H2 s2 d2
     erw[D,_,Z,aD.of d2,?_];rw[all_map];erw[k H2 s2]
  ·have e:vc d=false:=by cases d<;>first|rfl|erw[absurd rfl (hn _)]
   rw[e]at k;erw[_,Z,.inl #[_,_,"tuple",false,Z,rd.ty,aw,ht,_,Z,bM ?_]];erw[k H (aF.refl _)]
theorem a5s(d:ah):(∃r a b c t,d= .tuple [r,a,b,c,t])\/(∃ds,d= .tuple ds/\ds.length≠5/\oW d=false)\/(jg (lH d) "tuple"=false/\oW d=false):=by
 rcases yC d with⟨ds,rfl⟩|⟨ht,hn⟩
 ·match ds with |[r,a,b,c,t]=>erw[.inl #[r,a,b,c,t,Z]] |[]=>erw[.inr (.inl #[_,Z,by simp,by simp[oW]])] |[_]=>erw[.inr (.inl #[_,Z,by simp,by simp[oW]])] |[_,_]=>erw[.inr (.inl #[_,Z,by simp,by simp[oW]])] |[_,_,_]=>erw[.inr (.inl #[_,Z,by simp,by simp[oW]])] |[_,_,_,_]=>erw[.inr (.inl #[_,Z,by simp,by simp[oW]])] |_::_::_::_::_::_::_=>erw[.inr (.inl #[_,Z,by simp,by simp[oW]])]
 ·erw[.inr (.inr #[ht,by cases d<;>first|rfl|erw[absurd rfl (hn _)]])]
theorem Np:bf ["thing","rails","rise","fall","jump","ticks"] ["thing"] (aQ Pp):=bo aG
theorem a3Z(AA:All w K mg):bj P w K mg ay "is_machine" 4 (M4 oW K):=by
 exists AA.a9X.has,Np,dg λ_=>rfl
 ·let(v,d,rfl,rd,k):=h
  have nd:=Np.nd;erw[_,(az (bI (PW.pt (iI (cR (cw (mj K AA.B (ak (pv 0) (ak (mi (x:="tuple") (v:=.ty "tuple") Z (AA.B.at "tuple") ir rfl) au))))) (jJ (bX (kR K rfl hr.units) (fW K AA.B (ak (pv 0) au)) aB (bQ _))))) (aH (aO j4)) bP) (az (fg (pv 0) (eu K Z (n:=5) Z (bV (aR 1 nd) (bV (aR 2 nd) (bV (aR 3 nd) (bV (aR 4 nd) (bV (aR 5 nd) eg))))))) (az (bI (PW.pt (iI (cR (cw (pf (a4e AA) hr (ak (pv 1) au)))) (jJ (cR (cw (pf (oG AA) hr (ak (pv 5) (ak aB (ak (dM (x:="MOST_TICKS") Z AA.a8N) au))))))))) (aH (aO j4)) bP) (aH (aO (fh (x:="all") (vP K Z Z) Z (AA.B.at "all") yg (ak (eQ (N:=["change"]) (js:=[none]) rfl rfl rfl (j3 K rfl (iK (ak (pv 2) (ak (pv 3) (ak (pv 4) au))))) (λ_ _ _ _ _=>(aR 0 (iM _))) (λ_ _ _ _ _=>e9) (λ_ _ _ _ _=>(pf (oG AA) hr (ak (pv 0) (ak aB (ak (dM (x:="GREATEST_CHANGE") rfl AA.a8V) au)))))) au))))))),?_];rcases a5s d with⟨r,a,b,c,t,rfl⟩|⟨ds,rfl,hl,hf⟩|⟨ht,hf⟩
  ·erw[_,Z,.inl #[_,_,"tuple",true,Z,rd.ty,aw,mT,_,Z,aP ?_]]
   let(p,xs,rfl,hx,hd):=rd.cu;let(u1,ys,rfl,r1,hd):=hd.cons_inv;let(u2,ys,rfl,r2,hd):=hd.cons_inv;let(u3,ys,rfl,r3,hd):=hd.cons_inv;let(u4,ys,rfl,r4,hd):=hd.cons_inv;let(u5,ys,rfl,r5,hd):=hd.cons_inv;cases hd.nil_inv;have k:∀H',aF H H'->Q (.bl (vc r&&dw 1 100 t&&[a,b,c].all (dw 1 50))) H':=k;erw[_,Z,p,_,Z,.inr hx,.inl #[_,_,Z,Z,_,Z,aP ?_]];erw[_,Z,p,_,Z,hx,Z,_,_,Z,_,_,Z,_,_,Z,_,_,Z,_,_,Z,Z,?_];erw[_,Z,_,r,Z,r1,λH1 s1=>#[_,Z,?_]];cases e1:vc r with |false=>rw[e1,jE,jE]at k;erw[bM (k H1 s1)] |true=>rw[e1,jD]at k;erw[aP ?_];erw[_,Z,_,t,1,100,Z,RD.mono s1 _ r5,_,Z,?_];cases e2:dw 1 100 t with |false=>rw[e2,jE]at k;erw[bM (k H1 s1)] |true=>
    rw[e2,jD]at k;erw[aP ?_];erw[_,Z,_,Z,_,Z,cy Z,λq H2 nq=>?_];have s2:=s1.trans nq.same;erw[q,Z,#[_,aU.of nq.at'],λD H0 nw=>?_];have hd3:aI K H2 [u2,u3,u4] [a,b,c]:=cG (RD.mono s2 _ r2) (cG (RD.mono s2 _ r3) (cG (RD.mono s2 _ r4) cW));erw[Ax (xs:=[u2,u3,u4]) (bs:=[a,b,c].map (dw 1 50)) [] (aU.of nq.at') nw Z (X7 Z) ?_ ?_]
    ·intro i x b' H3 Q' ex eb s3 hq
     let(d,ed,rfl):=CK eb;let(x',kz,rx):=hd3.get i ed;rw[ex]at kz;cases kz;erw[_,Z,_,d,1,50,Z,RD.mono s3 _ rx,hq _ (aF.refl _)]
    ·intro H3 s3 d3
     erw[D,_,Z,aD.of d3,?_];rw[all_map];erw[k H3 (s2.trans s3)]
  ·rw[hf]at k
   erw[_,Z,.inl #[_,_,"tuple",true,Z,rd.ty,aw,mT,_,Z,aP ?_]];let(p,xs,rfl,hx,hd):=rd.cu;erw[_,Z,p,_,Z,.inr hx,.inl #[_,_,Z,Z,_,Z,?_]];have e:(!decide ((xs.length:Int)=5))=true:=by rw[hd.length];simp;lia
   rw[e];erw[bM (k H (aF.refl _))]
  ·rw[hf]at k
   erw[_,Z,.inl #[_,_,"tuple",false,Z,rd.ty,aw,ht,_,Z,bM ?_]];erw[k H (aF.refl _)]
end
end _a
set_option maxHeartbeats 2000000
namespace _a
open PySem PySem.Spec PyProof.Rows _L _b _l _C _P _W _R
open _O (topR cornO mnO betR atO ownF leadF ownL OkI OkIs)
open _T (numS numIn? Free)
section
def r9(D:Addr)(H:Hp)(a r:Addr)(M:bw):Prop:=∃dx mv,H a=some (.ins D dx [("machine",mv),("runner",.ref r)])/\RD K H mv M.D
theorem a5r{t:Int}(h:gH rs r f j t):oW (fG rs r f j t)=true:=by
 show(vc (.tuple (rs.map PyData.int))&&dw 1 100 (.int t)&&[PyData.int r,.int f,.int j].all (dw 1 50))=true;have h1:vc (.tuple (rs.map PyData.int))=true:=by show(((rs.map PyData.int).length==2||(rs.map PyData.int).length==3)&&(rs.map PyData.int).all (dw 1 100))=true;rw[aW,fA,Bool.or_eq_true,fK,fK];erw[h.len,gc.mpr λd hd=>?_];let(z,hz,rfl):=cJ.mp hd;have:=h.rl z hz;show(decide (1<=z)&&decide (z<=100))=true;rw[cj this.1,cj this.2];rfl
 have q:∀{lo hi z:Int},lo<=z/\z<=hi->dw lo hi (.int z)=true:=λ{lo hi z} h=>by show(decide (lo<=z)&&decide (z<=hi))=true;rw[cj h.1,cj h.2];rfl
 rw[h1,q h.t1];show(dw 1 50 (.int r)&&(dw 1 50 (.int f)&&(dw 1 50 (.int j)&&true)))=true;rw[q h.r1,q h.f1,q h.j1];rfl
theorem NF:bf ["self","machine","place"] ["self","machine","place"] (aQ PH):=bo aG
inductive aee(C:Addr)(D:Addr)(vs:List V)(H:Hp)(Q:VK):Prop |mk (a:_)(dx:_)(mv:_)(gM:_)(M:_)(pl:_)(h0:vs=[.ref a,mv,gM])(h1:H a=some (.ins D dx []))(h2:RD K H mv (bw.D M))(h3:RD K H gM (dh pl))(h4:M.Ok)(h5:fo M.rs pl)(h6:∀r q H',r9 D H' a r M->cT C H' r q M (oz pl)->H r=none->H q=none->dI [a] H H'->Q .bu H')
def a09(C D:Addr):Sp:=λvs H Q _=>aee C D vs H Q
theorem a47(AA:All w K mg)(RR:fJ K mg C D):E9 P w K mg ay D "Desk" 5 (a09 C D):=by
 exists RR.ab9.has,NF,iB λ_ _ _=>rfl
 ·let(a,dx,mv,gM,M,pl,rfl,e,rm,rp,aA,gD,k):=h
  have nd:=NF.nd;have lr:=aA.len;erw[_,(az (bI (cR (cw (pf (a3Z AA) hr (ak (pv 1) au)))) uD bP) (az (bI (cR (cw (pf (Cp AA) hr (ak (pv 1) (ak (pv 2) au))))) uD bP) (az (iJ RR.td.cl RR.td.mq (pv 0) (pv 1)) (aH (iJ RR.td.cl RR.td.uS (pv 0) (QT (a3F AA RR) (hr.mono aw) rfl (ak (pv 1) (ak (pv 2) au)))))))),?_];erw[_,Z,mv,_,Z,rm,λH1 s1=>#[_,Z,?_]];rw[a5r aA];erw[aP ?_];erw[_,Z,_,Z,mv,gM,M.rs,_,_,Z,RD.mono s1 _ rm,RD.mono s1 _ rp,ao,λH2 s2=>#[_,Z,?_]];rw[Cm gD];erw[aP ?_];have fM:=s1.trans s2;have e2:=fM _ _ e;erw[_,Z,_,Z,a,dx,_,Z,e2,aw,?_];have v2:cQ H (_L.upd H2 a (.ins D dx [("machine",mv)])):=fM.v.trans (.upd e2 trivial);erw[_,Z,_,Z,λr rx ny Iq ne=>?_];have ar:a≠r:=λz=>by rw[<-z,bZ]at ny;cases ny
  have Wl:a≠rx:=λz=>by rw[<-z,bZ]at Iq;cases Iq
  have s3:aF (_L.upd H2 a (.ins D dx [("machine",mv)])) (_L.upd (_L.upd (_L.upd H2 a (.ins D dx [("machine",mv)])) rx (.own r)) r (.ins C rx [])):=(aF.new Iq).trans (aF.new (by rw[aY ne.symm];erw[ny]));have v3:=v2.trans s3.v;erw[r,rx,mv,gM,M,pl,Z,bZ,RD.v v3 _ (kT _ _ _ _ _) rm,RD.v v3 _ (gp _) rp,λq H3 R3 nq bt=>#[Z,?_]];have nr:H r=none:=by cases e':H r with |none=>rfl |some o=>rw[aY ar.symm,fM _ _ e']at ny;cases ny
  have S9:q≠a:=λz=>by rw[z,aY ar,aY Wl,bZ]at nq;cases nq
  have nqH:H q=none:=by cases e':H q with |none=>rfl |some o=>
   have h1:(_L.upd H2 a (.ins D dx [("machine",mv)])) q=some o:=by rw[aY S9];erw[fM _ _ e']
   cases(s3 _ _ h1).symm.trans nq
  have e3:=bt a _ (by rw[aY ar,aY Wl];erw[bZ]) (λz=>ar (cV.mp z));erw[_,Z,a,dx,_,Z,e3,by show 1<1000;decide,?_];have v4:cQ H3 (_L.upd H3 a (.ins D dx [("machine",mv),("runner",.ref r)])):=.upd e3 trivial;have bH:dI [a] H (_L.upd H3 a (.ins D dx [("machine",mv),("runner",.ref r)])):=λb o eb hb=>by
   have ha:b≠a:=λz=>hb (by rw[z];erw[.head _]);have hbr:b≠r:=λz=>by rw[z,nr]at eb;cases eb
   rw[aY ha];erw[bt b o (s3 _ _ (by rw[aY ha];erw[fM _ _ eb])) (λz=>hbr (cV.mp z))]
  have vH:=bH.v λx hx o eo=>by rw[cV]at hx;rw[hx,e]at eo;cases eo;trivial
  erw[k r q _ #[dx,mv,bZ,RD.v vH _ (kT _ _ _ _ _) rm] ?_ nr nqH bH];erw[R3.go Z v4 (λo eo=>by rw[aY ar.symm];erw[eo]) (λo eo=>by rw[aY S9];erw[eo])]
inductive adC(vs:List V)(H:Hp)(Q:VK):Prop |mk (l:Addr)(z:Str)(h0:vs=[.ref l])(h1:aD K H l [.str z])(h2:z.length<=640)(h3:∀H',aF H H'->Q (oV (numIn? z)) H')
def ZL:Sp:=λvs H Q _=>adC vs H Q
theorem MU:bf ["words"] ["words"] (aQ OQ):=bo aG
theorem RN(AA:All w K mg):bj P w K mg ay "only_number" 4 ZL:=by
 exists AA.a9C.has,MU,dg λ_=>rfl
 ·let(l,z,rfl,hl,zl,k):=h
  have nd:=MU.nd;erw[_,(aH (aO (kr (bX (dN K Z hr.units) (fW K AA.B (ak (pv 0) au)) aB (bQ _)) (pf (GH AA) hr (ak (px K (pv 0) aB) au)) gX))),?_];erw[_,Z,l,_,Z,.inl hl,.inl #[_,_,Z,Z,_,Z,bM ?_]];erw[_,Z,.inl #[l,_,0,.str z,Z,Z,hl,Z,z,Z,zl,k]]
theorem Mv.same(m:Mv a q H q' H')(s:aF H' H2):Mv a q H q' H2:=#[λb o e hb=>s _ _ (m.but b o e hb),m.nq]
theorem Mv.ahead(s:aF H H')(m:Mv a q H' q' H2):Mv a q H q' H2:=#[λb o e hb=>m.but b o (s _ _ e) hb,m.nq.imp id λe=>by cases h:H q' with |none=>rfl |some o=>rw[s _ _ h]at e;cases e]
theorem Ji{d:ah}(h:DU d):(gu d).length<=2000:=by
 rcases h with⟨ti,hn⟩|⟨ns,t,a,b,rfl,hl,hn,ht,ha,hb⟩
 ·rw[Ai ti hn]
  have:=I0 ti
  lia
 ·rw[Ah]
  have Dv:=uP hn hl;have xB:=qg ht;have Uv:=Aa ha hb;have A7:=cO;have h5:Str.length "step "=5:=by decide+kernel
  simp only[cY]
  lia
def qM(es:List ah):Str:=kv (Txt.join "\n" (es.map gu))
theorem S7{n:Int}(h:Nm n):oV (numIn? (numS n))=V.int n:=by rw[_T.Cy (by have:=fY h;lia)];rfl
def Wy(C r q:Addr)(M:bw)(S:bp)(n:Int)(H:Hp)(Q:VK):Prop:=∀es S' q' H',Run M S es S'->(es.length:Int)<=n->((es.length:Int)=n\/S'.os=[]\/Halt S'.pc S'.bG)->cT C H' r q' M S'->Mv r q H q' H'->Q (.str (qM es)) H'
theorem Mx:bf ["self","words","number"] ["self","words"] (aQ Oa):=bo aG
inductive adf(C:Addr)(D:Addr)(vs:List V)(H:Hp)(Q:VK):Prop |mk (a:_)(r:_)(q:_)(M:_)(D':_)(S:_)(l:_)(n:_)(h0:vs=[.ref a,.ref l])(h1:r9 D H a r M)(h2:cT C H r q M S)(h3:RG M D' S)(h4:aD K H l [.str (numS n)])(h5:0<=n)(h6:n<=100)(h7:Wy C r q M S n H Q)
def LM(C D:Addr):Sp:=λvs H Q _=>adf C D vs H Q
theorem a3o(AA:All w K mg)(RR:fJ K mg C D)(a8u:dA P w K mg ay C "entries" 12 (LR C)):dA P w K mg ay D "say_steps" 13 (LM C D):=by
 exists RR.a0J.has,Mx,eD λ_ _=>rfl
 ·let(a,r,q,M,D',S,l,n,rfl,(dx,mv,ea,rm),Ra,g,hl,n0,n1,k):=h
  have nd:=Mx.nd;have nm:Nm n:=by show n.natAbs<10^40;lia
  erw[_,(az (pS 2 nd (pf (RN AA) hr (ak (pv 1) au))) (az (bI (cR (cw (pf (oG AA) hr (ak (pv 2) (ak aB (ak (dM (x:="MOST_ENTRIES") Z AA.a8O) au)))))) uD bP) (aH (aO (QS (qe K Z bR (ak (eQ (N:=["entry"]) (js:=[none]) Z Z Z (mX K Z (ko a8u RR.tc.cl (hr.mono aw) (cS RR.td.cl RR.td.uS (pv 0)) (ak (pv 2) au))) (λ_ _ _ _ _=>(aR 0 (iM _))) (λ_ _ _ _ _=>e9) (λ_ _ _ _ _=>(pf (a3s AA) hr (ak (pv 0) au)))) au)) (oE (dM (x:="NOTHING") rfl AA.UE))))))),?_];erw[_,Z,l,_,Z,hl,by have:=fY nm;lia,λH1 s1=>?_];rw[S7 nm];erw[_,Z,.int n,.int n,0,100,Z,fO _,_,Z,?_];rw[show dw 0 100 (.int n)=true by show(decide (0<=n)&&decide (n<=100))=true;rw[cj n0,cj n1];rfl];erw[aP ?_];let(rx,uA,G2,FN,FL,er,_):=Ra.ob;erw[Z,?_];erw[_,Z,a,dx,_,_,Z,s1 _ _ ea,Z,r,rx,_,Z,s1 _ _ er,Z,_,Z,r,q,M,D',S,n,Z,Ra.same g.ok.row.no s1,g.ok,g.aA,n0,ao,λle ys es S' q' H2 nl dl rd run he nG R2 Sv lq=>?_];have ly:=rd.length;have te:=run.yG g.ok g.aA g.hD;erw[le,Z,#[_,aD.of dl],λD2 H4 n4=>?_];erw[vG (K:=K) (ds:=(es.map gu).map PyData.str) _ (aD.of dl) n4 (by simp;erw[ly]) ao (oM _) ?_ ?_]
  ·intro i x d H5 Q' ex ed s5 hq
   let(d',dG,rx):=rd.get' i ex;rw[bO,bO,dG]at ed;cases ed;erw[_,Z,x,d',Z,RD.mono s5 _ rx,te d' (fz dG),λH6 s6=>hq _ _ s6 (bC _)]
  ·intro H5 ws s5 d5 r5
   rw[ou r5]at d5;erw["\n",D2,es.map gu,Z,Z,aD.of d5,λz hz=>?_,aG,by rw[aW];lia,?_]
   ·let(d,hd,rfl):=cJ.mp hz
    have:=Ji (te d hd)
    lia
   have hj:=CZ "\n" (B:=2000) (es.map gu) (λz hz=>by let(d,hd,rfl):=cJ.mp hz;erw[Ji (te d hd)]);have n1:Str.length "\n"=1:=by decide+kernel
   rw[n1,aW]at hj;have qC:es.length*(2000+1)<=100*2001:=Kq _ ao;have k2:=k es S' q' H5 run he nG (R2.same (run.ok g.ok g.aA).row.no s5) (Mv.ahead s1 (Sv.same s5));unfold qM kv at k2;erw[_,Z,ao,?_];split
   ·next e0=>rw[ba e0]at k2;erw[k2]
   ·next e0=>rw[bc e0]at k2;erw[k2]
theorem My:bf ["self","words","number"] ["self","words"] (aQ Ob):=bo aG
inductive adg(C:Addr)(D:Addr)(vs:List V)(H:Hp)(Q:VK):Prop |mk (a:_)(r:_)(q:_)(M:_)(D':_)(S:_)(l:_)(n:_)(h0:vs=[.ref a,.ref l])(h1:r9 D H a r M)(h2:cT C H r q M S)(h3:RG M D' S)(h4:aD K H l [.str (numS n)])(h5:10<=n)(h6:n<=200)(h7:S.pc=0)(h8:∀H',cT C H' r q M {S with rate:=n}->dI [r] H H'->Q (.str (numS n)) H')
def LN(C D:Addr):Sp:=λvs H Q _=>adg C D vs H Q
theorem a3p(AA:All w K mg)(RR:fJ K mg C D):dA P w K mg ay D "say_rate" 5 (LN C D):=by
 exists RR.a0K.has,My,eD λ_ _=>rfl
 ·let(a,r,q,M,D',S,l,n,rfl,(dx,mv,ea,rm),Ra,g,hl,n1,n2,pz,k):=h
  have nd:=My.nd;have nm:Nm n:=by show n.natAbs<10^40;lia
  erw[_,(az (pS 2 nd (pf (RN AA) hr (ak (pv 1) au))) (az (bI (bX Ri (pv 2) gX (bQ _)) uD bP) (aH (aO (pf (oH AA) hr (ak (ko (a3v AA RR) RR.tc.cl (hr.mono aw) (cS RR.td.cl RR.td.uS (pv 0)) (ak (pv 2) au)) au)))))),?_];erw[_,Z,l,_,Z,hl,by have:=fY nm;lia,λH1 s1=>?_];rw[S7 nm];erw[_,Z,Z,_,Z,aP ?_];let(rx,uA,G2,FN,FL,er,_):=Ra.ob;erw[_,Z,a,dx,_,_,Z,s1 _ _ ea,Z,r,rx,_,Z,s1 _ _ er,Z,_,Z,r,q,M,D',S,n,Z,Ra.same g.ok.row.no s1,g.ok,g.aA,n1,n2,pz,λH' R' b'=>?_];erw[n,Z,nm.l,λH2 s2=>k H2 (R'.same g.ok.row.no s2) λb o eb hb=>s2 _ _ (b' b o (s1 _ _ eb) hb)]
def pQ(a b:List Int):List Int:=(a.zip b).map λp=>p.1-p.2
def vU(C:Addr)(a q:Addr)(M:bw)(S:bp)(d:ah)(o:Itm)(H:Hp)(Q:VK):Prop:=jB M.rs.length d o/\fo M.rs (g9 (kW S) o)/\S.ds.length<20/\∀H',cT C H' a q M (tq S d o)->dI [a,q] H H'->Q (.str (numS (S.ds.length+1:Nat))) H'
theorem vU.go{C:Addr}{d:ah}(h:vU C a q M S d o H Q)(s:aF H H1):vU C a q M S d o H1 Q:=by let(h1,h2,h3,h4):=h;erw[h1,h2,h3,λH' R' b'=>h4 H' R' λb o' eb hb=>b' b o' (s b o' eb) hb]
theorem S8{n:Nat}(h:n<=20):AS ((n+1:Nat):Int):=Nm.l (show((n+1:Nat):Int).natAbs<10^40 by omega)
def toS(ns:List Int)(sp:Int):Str:=Txt.join " " ("to"::(ns.map numS++[numS sp]))
theorem a4y{ns:List Int}(h:∀n∈ns,Nm n):(ns.map numS).map (λz=>oV (numIn? z))=ns.map V.int:=by rw[Et];erw[List.map_congr_left λn hn=>?_];show oV (numIn? (numS n))=_;rw[_T.Cy (by have:=fY (h n hn);lia)];rfl
theorem Mw:bf ["self","words","numbers","place","steps"] ["self","words"] (aQ O9):=bo aG
inductive ade(C:Addr)(D:Addr)(vs:List V)(H:Hp)(Q:VK):Prop |mk (a:_)(r:_)(q:_)(M:_)(D':_)(S:_)(l:_)(ns:_)(sp:_)(h0:vs=[.ref a,.ref l])(h1:r9 D H a r M)(h2:cT C H r q M S)(h3:dy M D' S)(h4:M.Ok)(h5:aD K H l ((ns.map numS++[numS sp]).map V.str))(h6:fo M.rs ns)(h7:1<=sp)(h8:sp<=20)(h9:∃o,vU C r q M S (eF (pQ ns (kW S)) sp) o H Q)
def LL(C D:Addr)  :Sp:=λvs H Q _=>ade C D vs H Q
theorem a3n(AA:All w K mg)(RR:fJ K mg C D):dA P w K mg ay D "say_to" 6 (LL C D):=by
 exists RR.a0I.has,Mw,eD λ_ _=>rfl
 ·let(a,r,q,M,D',S,l,ns,sp,rfl,(dx,mv,ea,rm),Ra,ok,aA,hl,gD,cO,dZ,o,fe):=h
  have nd:=Mw.nd;have lr:=aA.len;have ln:=gD.len;have nb:=zt gD aA.rl;have nm:∀n∈ns,Nm n:=λn hn=>by have:=nb n hn;show n.natAbs<10^40;lia
  have sm:Nm sp:=by show sp.natAbs<10^40;lia
  erw[_,(az (pS 2 nd (pf (RO AA) hr (ak (pv 1) au))) (az (pS 3 nd (dF (x:="tuple") (kh K Z) Z (AA.B.at "tuple") ir (ak (zh (yO K rfl) (pv 2) zc (zb (jk jf aB))) au))) (az (bI (PW.pt (iI (cR (cw (pf (Cp AA) hr (ak (cS RR.td.cl RR.td.mq (pv 0)) (ak (pv 3) au))))) (jJ (cR (cw (pf (oG AA) hr (ak (px K (pv 2) (jk jf aB)) (ak aB (ak (dM (x:="GREATEST_SPEED") rfl AA.UH) au))))))))) uD bP) (az (pS 4 nd (dF (x:="tuple") (kh K Z) Z (AA.B.at "tuple") ir (ak (eQ (N:=["number","begun"]) (js:=[none,none]) rfl rfl rfl (oC K rfl false false rfl (AA.B.at "zip") (ak (pv 3) (ak (jL (RF AA RR) RR.tc.cl (hr.mono aw) (cS RR.td.cl RR.td.uS (pv 0))) au))) (λ_ _ _ _ _=>(eu K rfl (n:=2) rfl (bV (aR 0 (jN aw)) (bV (aR 1 (jN aw)) eg)))) (λ_ _ _ _ _=>e9) (λ_ _ _ _ _=>(aM j6 (pv 0) (pv 1)))) au))) (aH (aO (pf (oH AA) hr (ak (ko (RJ AA RR) RR.tc.cl (hr.mono aw) (cS RR.td.cl RR.td.uS (pv 0)) (ak (iK (ak bR (ak (pv 4) (ak (px K (pv 2) (jk jf aB)) au)))) au)) au)))))))),?_];erw[_,Z,l,_,Z,hl,by simp;lia,λz hz=>?_,λp H1 s1 np d1=>?_]
  ·rcases gy.mp hz with hz|hz
   ·let(n,hn,rfl):=cJ.mp hz
    have:=fY (nm n hn);lia
   ·rw[cV.mp hz]
    have:=fY sm;lia
  rw[fT,a4y nm,show[numS sp].map (λz=>oV (numIn? z))=[V.int sp] by show[oV (numIn? (numS sp))]=_;rw[_T.Cy (by have:=fY sm;lia)];rfl]at d1;have cl:=VF (ns.map V.int++[V.int sp]);rw[cv,aW,yj,X8,List.take_left' (by rw[aW])]at cl;erw[_,Z,_,Z,_,Z,p,_,Z,.inl #[aD.of d1,λl2 H2 n2=>?_]];have d2:=n2.at';rw[show(-(1:Int))=-1 from Z,cl]at d2;erw[l2,_,Z,.inl #[aD.of d2,λt H3 n3=>?_]];have s3:=s1.trans (n2.same.trans n3.same);have Jp:=s3 _ _ ea;have rt:RD K H3 (.ref t) (dh ns):=fN (aU.of n3.at') (pW ns);erw[_,Z,a,dx,_,_,Z,Jp,Z,_,Z,mv,.ref t,M.rs,_,_,Z,RD.mono s3 _ rm,rt,ao,λH4 s4=>#[_,Z,?_]];rw[Cm gD];erw[aP ?_];have wG:=s3.trans s4;have Vn:H4 p=some (.lst (ns.map V.int++[V.int sp])):=s4 _ _ (n3.same _ _ (n2.same _ _ d1));have Wj:fb (ns.map V.int++[V.int sp]) (-1)=some (.int sp):=AH (by simp);erw[_,Z,_,Z,.inl #[p,_,-1,.int sp,Z,Z,aD.of Vn,Wj,_,.int sp,1,20,Z,fO _,_,Z,?_]];rw[show dw 1 20 (.int sp)=true by show(decide (1<=sp)&&decide (sp<=20))=true;rw[cj cO,cj dZ];rfl];erw[aP ?_];have ea4:=wG _ _ ea;let(rx,uA,G2,FN,FL,er,_):=Ra.ob;have Jf:=wG _ _ er;have R4:=Ra.same ok.row.no wG;erw[_,Z,_,Z,a,dx,_,_,Z,ea4,Z,r,rx,_,Z,Jf,Z,r,q,M,D',S,Z,R4,ok,aA,λg H5 rg s5=>?_];let(ga,gx,rfl,hg,hgx):=rg.cu;rw[hgx.gj]at hg;have gl:(kW S).length=M.rs.length:=Dx _ _ ok.pl ok.ml;have U0:aU K H5 t (ns.map V.int):=aU.of (s5 _ _ (s4 _ _ n3.at'));erw[t,ga,Z,#[_,U0],#[_,hg],λD2 H6 n6=>?_];erw[vF (K:=K) (b1:=false) (b2:=false) (xs:=ns.map V.int) (ys:=(kW S).map V.int) (ds:=(pQ ns (kW S)).map PyData.int) _ Z U0 hg n6 (by simp[pQ]) (by simp[pQ];lia) (mm _) ?_ ?_]
  ·intro i x y d H7 Q' ex ey ed s7 hq
   let(u,v,e1,e2,rfl,rfl):=zip2 ao ex ey;let(m,em,rfl):=oP ed;unfold pQ at em;rw[bO,(Bo (z:=(u,v))).mpr #[e1,e2]]at em;cases em;erw[_,Z,_,Z,_,_,Z,Z,hq _ _ (aF.refl _) (fO _)]
  intro H7 zs s7 d7 r7;rw[r7.gj]at d7;erw[D2,_,Z,.inl #[aD.of d7,λtt H8 n8=>?_]];have kL:=s5.trans (s7.trans n8.same);have s8:=wG.trans kL;erw[_,Z,a,dx,_,_,Z,s8 _ _ ea,Z,r,rx,_,Z,s8 _ _ er,Z,?_];erw[_,Z,_,Z,_,Z,.inl #[p,_,-1,.int sp,Z,Z,aD.of (kL _ _ Vn),Wj,cy Z,λtu H9 n9=>?_]];have s9:=s8.trans n9.same;have rl:RD K H9 (.ref tu) (eF (pQ ns (kW S)) sp):=fN (aU.of n9.at') (cG (bC _) (cG (fN (aU.of (n9.same _ _ n8.at')) (pW _)) (cG (fO _) cW)));let(h1,h2,h3,h4):=fe.go s9;erw[r,q,M,D',S,.ref tu,_,o,Z,Ra.same ok.row.no s9,ok,aA,rl,h1,h2,h3,λH' R' b'=>#[_,Z,S8 ao,λH2 t2=>h4 H2 (R'.same (Sg ok.row.no h1.it.no) t2) (b'.trans (.of t2))]]
inductive kD |wd (w:Wd) |steps (n:Int) |rate (n:Int) |item (d:ah)(o:Itm) |to (ns:List Int)(sp:Int)
def kD.txt:kD->Str | .wd w=>w.txt | .steps n=>"steps"++" "++numS n | .rate n=>"rate"++" "++numS n | .item d _=>gq d | .to ns sp=>toS ns sp
def kD.Ok(C:Addr)(r q:Addr)(M:bw)(S:bp)(H:Hp)(Q:VK):kD->Prop | .wd w=>∀H',aF H H'->Q (.str (xU M S w)) H' | .steps n=>0<=n/\n<=100/\Wy C r q M S n H Q | .rate n=>10<=n/\n<=200/\S.pc=0/\∀H',cT C H' r q M {S with rate:=n}->dI [r] H H'->Q (.str (numS n)) H' | .item d o=>vU C r q M S d o H Q | .to ns sp=>fo M.rs ns/\1<=sp/\sp<=20/\∃o,vU C r q M S (eF (pQ ns (kW S)) sp) o H Q
theorem Ym{d:ah}(h:gU ws=d)(hd:d≠ .none):∃z y rest ds,ws=z::y::rest/\d= .tuple (.str z::ds):=by
 subst h
 match ws with
 |[]=>exact(hd Z).elim |[z]=>exact(hd (by unfold gU;dsimp only;split<;>rfl)).elim |z::y::rest=>
  erw[z,y,rest,?_];unfold gU at hd⊢;dsimp only at hd⊢;split
  ·erw[_,Z,Z]
  ·next hz=>
   rw[bc hz]at hd
   match rest,hd with |[],_=>erw[_,Z,Z] |_::_,hd=>exact(hd Z).elim
def K1 (z:Str):Prop:=z = "line" \/ nZ z
theorem qY.word{n:Nat}{d:ah}(h:qY n d):∃z y rest,Txt.split (gq d) " "=z::y::rest/\K1 z:=by
 have e:=h.rt;unfold uZ at e;have e2:gU (Txt.split (gq d) " ")=d:=by cases hc:nk n (gU (Txt.split (gq d) " "))with |true=>rw[hc]at e;erw[e] |false=>rw[hc]at e;exact(h.ne e.symm).elim
 let(z,y,rest,ds,hw,hd):=Ym e2 h.ne;erw[z,y,rest,hw,?_];rcases h.ti with⟨ns,sp,rfl,_⟩|⟨w,i,rfl,hw,_⟩|⟨w,y,rfl,hw,_⟩
 ·cases hd;erw[.inl rfl]
 ·cases hd;erw[.inr hw]
 ·cases hd;erw[.inr hw.ok]
structure K5(gA:Addr):Prop where
 line:PySem.W.nsIn K gA "line"=some none
 wait:PySem.W.nsIn K gA "wait"=some none
 rL:∃v,PySem.W.nsIn K gA "tool"=some (some v)
 mark:∃v,PySem.W.nsIn K gA "mark"=some (some v)
 steps:PySem.W.nsIn K gA "steps"=some none
 rate:PySem.W.nsIn K gA "rate"=some none
 to:PySem.W.nsIn K gA "to"=some none
theorem ach(h1:∀Q':Bool->Hp->Prop,(∀c,Q' c H)->ta O H Q')(h2:∀Q':Bool->Hp->Prop,Q' false H->tb O H Q')(k:Q false H):Ll ta tb O H Q:=h1 _ λc=>by cases c with |true=>erw[h2 _ k] |false=>erw[k]
structure RwW(y:Str):Prop where
 sh:SeqAt.shaped (.str y)=true
 n1:PyData.eqv (.str y) (.str "to")=false
 n2:PyData.eqv (.str y) (.str "steps")=false
 n3:PyData.eqv (.str y) (.str "rate")=false
theorem a0S(h:K1 y):RwW y:=by rcases h with rfl|rfl|rfl|rfl<;>erw[aG,aG,aG,aG]
theorem jH:SeqAt.shaped (.str "to")=true/\SeqAt.shaped (.str "steps")=true/\SeqAt.shaped (.str "rate")=true/\PyData.eqv (.str "to") (.str "to")=true:=by decide+kernel
theorem K5.row(h:K5 gA){y:Str}(hy:K1 y):∃ov,PySem.W.nsIn K gA y=some ov:=by
 rcases hy with rfl|rfl|rfl|rfl
 ·erw[_,h.line]
 ·erw[_,h.wait]
 ·erw[_,h.rL.choose_spec]
 ·erw[_,h.mark.choose_spec]
theorem XI(w:Wd):Txt.split w.txt " "=[w.txt]/\w.txt.length<=100:=by cases w<;>erw[aG,aG]
theorem LI(hz:Free 32 z)(n:Int):Txt.split (z++" "++numS n) " "=[z,numS n]:=by
 have ej:z++" "++numS n=Txt.join ⟨#[32]⟩ [z,numS n]:=by rw[<-pR];rfl
 rw[ej,pR];erw[_T.BX (by simp) λy hy=>?_];simp only[cM,iu,kE]at hy;rcases hy with rfl|rfl
 ·erw[hz]
 ·erw[_T.kQ aw aw]
theorem yQ:PyData.eqv (.str "steps") (.str "to")=false/\PyData.eqv (.str "steps") (.str "steps")=true/\PyData.eqv (.str "rate") (.str "to")=false/\PyData.eqv (.str "rate") (.str "steps")=false/\PyData.eqv (.str "rate") (.str "rate")=true:=by decide+kernel
theorem Yg:Txt.split (toS ns sp) " "=("to":Str)::(ns.map numS++[numS sp]):=by
 unfold toS;rw[pR];erw[_T.BX (by simp) λz hz=>?_];rcases cM.mp hz with rfl|hz
 ·erw[iR aG]
 ·rcases gy.mp hz with hz|hz
  ·let(i,_,rfl):=cJ.mp hz
   erw[_T.kQ aw aw]
  ·rw[cV.mp hz];erw[_T.kQ aw aw]
theorem Yh(h:∀n∈ns,Nm n)(hs:Nm sp)(hl:ns.length<=3):(toS ns sp).length<=400:=by
 have:=CZ " " (B:=41) ("to"::(ns.map numS++[numS sp])) (λz hz=>by
  rcases cM.mp hz with rfl|hz
  ·decide+kernel
  ·rcases gy.mp hz with hz|hz
   ·let(i,hi,rfl):=cJ.mp hz
    erw[fY (h i hi)]
   ·rw[cV.mp hz];erw[fY hs]);rw[cO,gz,cv,aW,yj]at this;unfold toS;have:(ns.length+1+1)*(41+1)<=5*42:=Kq _ ao
 lia
inductive ada(C:Addr)(D:Addr)(vs:List V)(H:Hp)(Q:VK):Prop |mk (a:_)(r:_)(q:_)(M:_)(D':_)(S:_)(c:_)(h0:vs=[.ref a,.str (kD.txt c)])(h1:r9 D H a r M)(h2:cT C H r q M S)(h3:RG M D' S)(h4:c.Ok C r q M S H Q)
def BZ(C D:Addr):Sp:=λvs H Q _=>ada C D vs H Q
theorem Mt:bf ["self","text","word","rest","answer","item"] ["self","text"] (aQ Fj):=bo aG
theorem a3t(F:MA K D "say" "Desk.say" Fj)(TC:K9 K D)(RC:tO K C)(B:m8 mg)(a75:bj P w K mg ay "show_number" 1 F9)(GA:GD w K mg "ANSWERS" gA)(NA:K5 gA)(hW:∀v:Wd,∃fn,PySem.W.nsIn K gA v.txt=some (mg fn)/\y9 P w K mg ay fn 10 (ur C v))(a7z:bj P w K mg ay "item_in" 5 Fc)(a8B:dA P w K mg ay D "say_steps" 13 (LM C D))(a8C:dA P w K mg ay D "say_rate" 5 (LN C D))(a8A:dA P w K mg ay D "say_to" 6 (LL C D))(a8s:dA P w K mg ay C "feed" 5 (LP C)):E8 P w K mg ay D "say" 14 (BZ C D):=by
 erw[F.a8b Mt (λvs H Q E h=>?_) (λ_ _ _ _ _ _=>eD λ_ _=>rfl) (λf0 aK A outer s H vs Q E hr h=>?_)]
 ·let(a,r,q,M,D',S,c,rfl,_):=h
  rfl
 ·let(a,r,q,M,D',S,c,rfl,(dx,mv,ea,rm),Ra,g,k):=h
  have nd:=Mt.nd;have lr:=g.aA.n3;have iQ:sizeLine=16777216:=by decide
  erw[_,(az (bI (cR (cw (mj K B (ak (pv 1) (ak (mi (x:="str") (v:=.ty "str") Z (B.at "str") jC rfl) au))))) uD bP) (az (fg (Gm K Z (pv 1) (ak bR au)) (QQ K Z Z (aR 2 nd) (aR 3 nd))) (az (bI (PW.pt (sr (a2a (a2K GA Z (pv 2)) (by with_unfolding_all rfl)) (wN (cR (z9 K Z (pv 3)))))) (az (pS 4 nd (a2z GA Z (pv 2) (λ_ _=>rfl))) (aH (aO (a2D 4 (a2L λ_ _ _ z=>z) (ha:=(ak (cS TC.cl TC.uS (pv 0)) au)))))) bP) (az (bI (bX (dN K Z hr.units) (pv 2) bR (bQ _)) (aH (aO (ko a8A TC.cl (hr.mono aw) (pv 0) (ak (pv 3) au)))) bP) (az (bI (bX (dN K Z hr.units) (pv 2) bR (bQ _)) (aH (aO (ko a8B TC.cl (hr.mono aw) (pv 0) (ak (pv 3) au)))) bP) (az (bI (bX (dN K Z hr.units) (pv 2) bR (bQ _)) (aH (aO (ko a8C TC.cl (hr.mono aw) (pv 0) (ak (pv 3) au)))) bP) (az (pS 5 nd (pf a7z hr (ak (cS TC.cl TC.mq (pv 0)) (ak (pv 1) au)))) (az (bI (bX Ri (pv 5) gX (bQ _)) uD bP) (aH (aO (pf a75 hr (ak (ko a8s RC.cl (hr.mono aw) (cS TC.cl TC.uS (pv 0)) (ak (pv 5) au)) au)))))))))))),?_];erw[_,Z,.inl #[_,"str","str",true,Z,Z,aw,aw,_,Z,aP ?_]];cases c with
  |wd v=>let(hz,hl):=XI v;let(fn,hG,f,fd,ps,Fo,hm,hk,hb):=hW v;rw[hm]at hG;erw[_,Z,Z,v.txt," ",Z,Z,aG,ao,λl H1 n1=>?_];rw[hz]at n1;erw[l,.str v.txt,[],Z,aD.of n1.at',aw,λp H2 n2=>?_];have s2:=n1.same.trans n2.same;erw[_,Z,v.txt,_,Z,hG,true,Z,bM ?_];erw[_,Z,false,.inl #[_,aD.of n2.at',Z],bM ?_];erw[_,Z,v.txt,_,.ref f,Z,hG,Z,?_];erw[f,fd,ps,10,_,Z,Fo,hk,hb,hr.mono aw,_,Z,a,dx,_,_,Z,s2 _ _ ea,Z,r,q,M,D',S,Z,Ra.same g.ok.row.no s2,g,λH' s'=>k H' (s2.trans s')] |steps n=>
   let(n0,zJ,k):=k;have nm:Nm n:=by show n.natAbs<10^40;lia
   have hl:=fY nm;have e5:Str.length "steps"=5:=by decide+kernel
   have h1:=cO;erw[_,Z,Z,_," ",Z,Z,aG,by simp only[kD.txt,cY];lia,λl H1 n1=>?_];rw[show Txt.split (kD.txt (.steps n)) " "=[Str.ofString "steps",numS n]from LI (iR aG) n]at n1;erw[l,.str "steps",[.str (numS n)],Z,aD.of n1.at',by show 1<=16000;decide,λp H2 n2=>?_];have s2:=n1.same.trans n2.same;erw[_,Z,"steps",_,Z,NA.steps,false,Z,aP ?_];erw[_,Z,.inr #[_,_,bC _,bC _,jH.2.1,jH.1,_,Z,?_]];rw[yQ.1];erw[aP #[_,Z,.inr #[_,_,bC _,bC _,jH.2.1,jH.2.1,_,Z,?_]]];rw[yQ.2.1];erw[bM ?_];erw[_,Z,a,dx,_,Z,s2 _ _ ea,Z,_,Z,a,r,q,M,D',S,p,n,Z,#[dx,mv,s2 _ _ ea,RD.mono s2 _ rm],Ra.same g.ok.row.no s2,g,aD.of n2.at',n0,zJ,λes S' q' H' h1 h2 h3 h4 h5=>k es S' q' H' h1 h2 h3 h4 (Mv.ahead s2 h5)] |rate n=>
   let(zJ,n2',pz,k):=k;have nm:Nm n:=by show n.natAbs<10^40;lia
   have hl:=fY nm;have e5:Str.length "rate"=4:=by decide+kernel
   have h1:=cO;erw[_,Z,Z,_," ",Z,Z,aG,by simp only[kD.txt,cY];lia,λl H1 n1=>?_];rw[show Txt.split (kD.txt (.rate n)) " "=[Str.ofString "rate",numS n]from LI (iR aG) n]at n1;erw[l,.str "rate",[.str (numS n)],Z,aD.of n1.at',by show 1<=16000;decide,λp H2 n2=>?_];have s2:=n1.same.trans n2.same;erw[_,Z,"rate",_,Z,NA.rate,false,Z,aP ?_];erw[_,Z,.inr #[_,_,bC _,bC _,jH.2.2.1,jH.1,_,Z,?_]];rw[yQ.2.2.1];erw[aP #[_,Z,.inr #[_,_,bC _,bC _,jH.2.2.1,jH.2.1,_,Z,?_]]];rw[yQ.2.2.2.1];erw[aP #[_,Z,.inr #[_,_,bC _,bC _,jH.2.2.1,jH.2.2.1,_,Z,?_]]];rw[yQ.2.2.2.2];erw[bM ?_];erw[_,Z,a,dx,_,Z,s2 _ _ ea,Z,_,Z,a,r,q,M,D',S,p,n,Z,#[dx,mv,s2 _ _ ea,RD.mono s2 _ rm],Ra.same g.ok.row.no s2,g,aD.of n2.at',zJ,n2',pz,λH' R' b'=>k H' R' λx o e hx=>b' x o (s2 _ _ e) hx] |item d o=>
   have k0:=k;let(it,gD,_):=k;have Hy:=g.ok.len;have tx:=it.tx lr.1 lr.2;have ok:=g.ok;have aA:=g.aA;let(y,y2,Xz,hs,hy):=tx.word;let(ov,hov):=NA.row hy;generalize eys:y2::Xz=ys at hs;have W:=a0S hy;have hl:(kD.txt (.item d o)).length<=400:=tx.len;have A0:=tx.len;have xu:ys.length<=1000:=by
    have:=split_len (gq d) " ";rw[hs,gz]at this
    lia
   erw[_,Z,Z,_," ",Z,Z,aG,ao,λl H1 n1=>?_];change Nw H H1 l (.lst ((Txt.split (gq d) " ").map V.str))at n1;rw[hs]at n1;erw[l,.str y,ys.map V.str,Z,aD.of n1.at',by rw[aW];lia,λp H2 n2=>?_];have s2:=n1.same.trans n2.same;unfold gs;dsimp only;unfold Le Li;dsimp only;erw[ach (λQ' hq=>#[_,Z,y,ov,Z,hov,_,Z,hq _]) (λQ' hq=>#[_,Z,true,.inl #[_,aD.of n2.at',by rw[<-eys];rfl],hq]) ?_];erw[aP ?_];erw[_,Z,.inr #[_,_,bC _,bC _,W.sh,jH.1,_,Z,?_]];rw[W.n1];erw[aP #[_,Z,.inr #[_,_,bC _,bC _,W.sh,jH.2.1,_,Z,?_]]];rw[W.n2];erw[aP #[_,Z,.inr #[_,_,bC _,bC _,W.sh,jH.2.2.1,_,Z,?_]]];rw[W.n3];erw[aP ?_];erw[_,Z,a,dx,_,_,Z,s2 _ _ ea,Z,_,Z,mv,M.rs,_,_,Z,RD.mono s2 _ rm,Z,ao,ao,tx.ok,λv H3 s3 rv=>?_];change RD K H3 v (uZ M.rs.length (gq d))at rv;rw[tx.rt]at rv;have wH:=s2.trans s3;have nv:v≠ .bu:=λe=>by rw[e]at rv;rcases tx.ti with⟨ns,sp,rfl,_⟩|⟨w,i,rfl,_⟩|⟨w,z,rfl,_⟩<;>(let(p,xs,e,_):=rv.cu;cases e)
   erw[_,Z,Z,_,Z,?_];rw[dE nv];erw[aP ?_];let(rx,uA,G2,FN,FL,er,_):=Ra.ob;erw[_,Z,a,dx,_,_,Z,wH _ _ ea,Z,r,rx,_,Z,wH _ _ er,Z,_,Z,?_];let(_,_,h3,h4):=k0.go wH;erw[r,q,M,D',S,v,d,o,Z,Ra.same ok.row.no wH,ok,aA,rv,it,gD,h3,λH' R' b'=>#[_,Z,S8 ao,λH2 t2=>h4 H2 (R'.same (Sg ok.row.no it.it.no) t2) (b'.trans (.of t2))]] |to ns sp=>
   let(gD,a0i,a0h,o,fe):=k;have nb:=zt gD g.aA.rl;have ln:=gD.len;have nm:∀n∈ns,Nm n:=λn hn=>by have:=nb n hn;show n.natAbs<10^40;lia
   have sm:Nm sp:=by show sp.natAbs<10^40;lia
   have hl:(kD.txt (.to ns sp)).length<=400:=Yh nm sm ao;erw[_,Z,Z,_," ",Z,Z,aG,ao,λl H1 n1=>?_];rw[show Txt.split (kD.txt (.to ns sp)) " "=("to":Str)::(ns.map numS++[numS sp])from Yg]at n1;erw[l,.str "to",(ns.map numS++[numS sp]).map V.str,Z,aD.of n1.at',by simp;lia,λp H2 n2=>?_];have s2:=n1.same.trans n2.same;erw[_,Z,"to",_,Z,NA.to,false,Z,aP ?_];erw[_,Z,.inr #[_,_,bC _,bC _,jH.1,jH.1,_,Z,?_]];rw[jH.2.2.2];erw[bM ?_];erw[_,Z,a,dx,_,Z,s2 _ _ ea,Z,_,Z,a,r,q,M,D',S,p,ns,sp,Z,#[dx,mv,s2 _ _ ea,RD.mono s2 _ rm],Ra.same g.ok.row.no s2,g.ok,g.aA,aD.of n2.at',gD,a0i,a0h,o,fe.go s2]
end
section
def dq(pl:List Int)(os:List Itm)(i:Nat):List Int:=(os.take i).foldl g9 pl
theorem xT{pl:List Int}{os:List Itm}{i:Nat}(h:os[i]? =some o):dq pl os (i+1)=g9 (dq pl os i) o:=by unfold dq;rw[lF,h,u9];rfl
def qN(pl:List Int)(os:List Itm):Nat->List ah |0=>[] |i+1=>qN pl os i++[dh (dq pl os (i+1))]
theorem xG(pl:List Int)(os:List Itm):∀i,(qN pl os i).length=i |0=>rfl |i+1=>by show(qN pl os i++[dh (dq pl os (i+1))]).length=_;rw[cv,xG pl os i];rfl
theorem V7(pl:List Int)(os:List Itm):∀i,cx (qN pl os i)=true
 |0=>rfl |i+1=>dU.mpr λd hd=>by
  rcases gy.mp (show d∈qN pl os i++[dh (dq pl os (i+1))]from hd)with h|h
  ·erw[dU.mp (V7 pl os i) d h]
  ·rw[cV.mp h];erw[gp _]
inductive aeb(vs:List V)(H:Hp)(Q:VK):Prop |mk (m:_)(x:_)(iv:_)(rs:_)(r:_)(f:_)(j:_)(t:_)(pl:_)(ds:_)(os:_)(h0:vs=[m,x,iv])(h1:RD K H m (fG rs r f j t))(h2:RD K H x (dh pl))(h3:RD K H iv (.tuple ds))(h4:cU rs.length ds os)(h5:rs.length<=3)(h6:ds.length<=30)(h7:(∀i,i<=os.length->fo rs (dq pl os i)))(h8:∀l ys H',H l=none->H' l=some (.lst ys)->aI K H' ys (qN pl os os.length)->aF H H'->Q (.ref l) H')
def a07:Sp:=λvs H Q _=>aeb vs H Q
theorem NC:bf ["machine","place","items","told","here","at","item"] ["machine","place","items"] (aQ PF):=bo aG
theorem a46(AA:All w K mg):bj P w K mg ay "ends" 4 a07:=by
 exists AA.aa4.has,NC,iB λ_ _ _=>rfl
 ·let(m,x,iv,rs,r,f,j,t,pl,ds,os,rfl,rm,rp,ri,row,hr3,hz,on,k):=h
  have nd:=NC.nd;erw[_,(az (pS 3 nd (dj au)) (az (pS 4 nd (pv 1)) (az (gW fS Z (zf K Z false Z (AA.B.at "enumerate") (ak (pv 2) au)) (eu K rfl (n:=2) rfl (bV (aR 5 nd) (bV (aR 6 nd) eg))) (az (pS 4 nd (pf (Cq AA) hr (ak (pv 4) (ak (pv 6) au)))) (az (bI (cR (cw (pf (Cp AA) hr (ak (pv 0) (ak (pv 4) au))))) (aH kn) bP) (aH (fP (iL K Z (pv 3) (ak (pv 4) au))))))) (aH (aO (pv 3)))))),?_];have ll:=row.len;have iQ:sizeLine=16777216:=by decide
  erw[cy Z,λD H1 n1=>?_];let(ia,xs,rfl,hi,eO):=ri.cu;have lx:=eO.length;erw[_,Z,?_];erw[_,Z,ia,Z,#[_,hi.go n1.same],Ac (K:=K) (b:=false) (a:=ia) (xs:=xs) (λi O H3=>aF H H3/\∃zs v hv v2,H3 D=some (.lst zs)/\aI K H3 zs (qN pl os i)/\RD K H3 hv (dh (dq pl os i))/\O=[some m,some x,some (.ref ia),some (.ref D),some hv,v,v2]) #[n1.same,[],none,x,none,n1.at',cW,RD.mono n1.same _ rp,Z] (λi O H3 _ h=>hi.go h.1) ?_ ?_]
  ·rintro i y O H3 hy ⟨s3,zs,v,hv,v2,dz,rz,rh,rfl⟩ T H4 n4
   erw[iC ?_];intro E1;have sP:i<xs.length:=(cK.mp hy).1;let(d,ed,rd):=eO.get' i hy;let(o,eo,it):=row.get ed;have s4:=s3.trans n4.same;have oi:=on i aL;have zv:=on (i+1) aL;have lz:=rz.length;rw[xG]at lz;erw[T,_,Z,aU.of n4.at',Z,_,_,Z,_,_,Z,Z,?_];erw[_,Z,_,Z,hv,y,dq pl os i,d,o,Z,RD.mono n4.same _ rh,RD.mono s4 _ rd,it,λns sp e=>?_,by rw[oi.len];omega,λv' H5 rv s5=>?_]
   ·subst e
    rw[(row.ok i ns sp eo).1.len,oi.len]
   rw[<-xT eo]at rv;erw[_,Z,_,Z,m,v',rs,_,_,Z,RD.mono (s4.trans s5) _ rm,rv,hr3,λH6 s6=>#[_,Z,?_]];rw[Cm zv];erw[aP ?_];have pU:=s4.trans (s5.trans s6);have jS:=s6 _ _ (s5 _ _ (n4.same _ _ dz));erw[_,Z,.inl #[Z,_,aD.of jS],_,Z,D,zs,_,Z,Z,jS,aL,?_];have s7:aF H (_L.upd H6 D (.lst (zs++[v']))):=λb o e=>by rw[aY (eM e n1.no)];erw[pU b o e]
   erw[s7,_,_,_,_,bZ,?_,RD.t (.iW jS) _ (gp _) (RD.mono s6 _ rv),Z];erw[aI.wz jS (aI.mono (n4.same.trans (s5.trans s6)) _ rz) (RD.mono s6 _ rv) (V7 pl os i) (gp _)]
  ·rintro O H3 ⟨s3,zs,v,hv,v2,dz,rz,rh,rfl⟩
   rw[lx,ll]at rz;erw[_,Z,k D zs H3 n1.no dz rz s3]
end
end _a
set_option maxHeartbeats 1000000
namespace _a
open PySem PySem.Spec PyProof.Rows _L _l _W
section
inductive ae4(vs:List V)(H:Hp)(Q:VK):Prop |mk (p:_)(m:_)(rs:_)(r:_)(f:_)(j:_)(t:_)(x:_)(pl:_)(mo:_)(h0:vs=[.ref p,m,x,.int mo])(h1:gI H p)(h2:RD K H m (fG rs r f j t))(h3:gH rs r f j t)(h4:RD K H x (dh pl))(h5:fo rs pl)(h6:1<=mo)(h7:mo<=100)(h8:∀v ns sp H',RD K H' v (eF ns sp)->ft rs.length 100 ns->fo rs (gb pl ns)->1<=sp->sp<=20->bN p H H'->Q v H')
def LY:Sp:=λvs H Q _=>ae4 vs H Q
theorem Nt:bf ["_law_bag_here","_law_machine_here","_law_here","_law_most","_law_speed","_law_steps","_law_at","_law_rail","_law_low"] ["_law_bag_here","_law_machine_here","_law_here","_law_most"] (aQ Pt):=bo aG
theorem a40(AA:All w K mg):bj P w K mg ay "_law_line_from" 2 LY:=by
 exists AA.aao.has,Nt,xV λ_ _ _ _=>rfl
 ·let(p,m,rs,r0,f0,j0,t0,x,pl,mo,rfl,bg,rm,wX,rx,on,mo1,mo2,k):=h
  have nd:=Nt.nd;erw[_,(az (pS 4 nd (aM dR aB (pf (fX AA) hr (ak (pv 0) (ak aB au))))) (az (pS 5 nd (dj au)) (az (gW fS Z (oC K Z false false Z (AA.B.at "zip") (ak (pv 2) (ak (px K (pv 1) aB) au))) (eu K rfl (n:=2) rfl (bV (aR 6 nd) (bV (aR 7 nd) eg))) (az (pS 8 nd (fh (x:="max") (VW Z) Z (AA.B.at "max") Kn (ak (jk jf (pv 6)) (ak (jk jf (pv 3)) au)))) (aH (fP (iL K Z (pv 5) (ak (aM dR (pv 8) (pf (fX AA) hr (ak (pv 0) (ak (aM dR (aM j6 (fh (x:="min") (JF Z) Z (AA.B.at "min") X2 (ak (aM j6 (pv 7) (pv 6)) (ak (pv 3) au))) (pv 8)) aB) au)))) au)))))) (az (iZ (bI (cR (cw (fh (x:="any") (Wo K Z Z) Z (AA.B.at "any") Ko (ak (pv 5) au)))) (aH (fg (px K (dj (ak aB (ak (jk jf aB) au))) (dF (x:="int") abL Z (AA.B.at "int") X3 (ak (jl (dN K rfl hr.units) (px K (pv 2) aB) (px K (px K (pv 1) aB) aB) (bQ _)) au))) (uG (pv 5) aB set_list))) bP)) (aH (aO (iK (ak bR (ak (dF (x:="tuple") (kh K Z) Z (AA.B.at "tuple") ir (ak (pv 5) au)) (ak (pv 4) au)))))))))),?_];have lr:=wX.len;have lp:=on.len;let(ma,mb,rfl,gF,jO):=oQ rm;let(xa,xx,rfl,Dg,hxx):=rx.cu;rw[hxx.gj]at Dg;erw[_,Z,p,20,Z,bg,aw,aw,λsp H1 p0 p1 b1=>?_];erw[_,_,Z,Z,?_];erw[cy Z,λl H2 n2=>?_];have b2:bN p H1 H2:=.fi b1.bU n2.same;have qT:=b1.trans b2;have CT:l≠p:=λz=>b1.bU.ne (z▸n2.no);have nl:H l=none:=by cases e:H l with |none=>rfl |some o=>have:=b1.same _ _ CT e;rw[n2.no]at this;cases this
  have EO:=bN.t bg qT;erw[_,Z,_,Z,.inr #[ma,_,0,.ref mb,Z,Z,gF.t EO,cB (dc 0) Z,xa,mb,Z,#[_,Dg.t EO],#[_,jO.t EO],?_]];erw[UO (K:=K) (b1:=false) (b2:=false) (xs:=pl.map V.int) (ys:=rs.map V.int) rs.length (by simp[lp]) (λi O H3=>bN p H H3/\∃(is:List Int)(v1 v2 v3:Option V),H3 l=some (.lst (is.map V.int))/\is.length=i/\(∀(j:Nat)(z a r:Int),is[j]? =some z->pl[j]? =some a->rs[j]? =some r->0<=a+z/\a+z<=r/\(z.natAbs:Int)<=mo)/\O=[some (.ref p),some (.ref ma),some (.ref xa),some (.int mo),some (.int (1+sp)),some (.ref l),v1,v2,v3]) ?_ (λi O H3 _ h=>#[Dg.t (bN.t bg h.1),jO.t (bN.t bg h.1)]) ?_ ?_]
  ·erw[qT,[],none,none,none,n2.at',Z,λj z a r e=>by simp at e,Z]
  ·rintro i x y O H3 ex ey ⟨b3,is,v1,v2,v3,dl,li,hz,rfl⟩ T H4 n4
   erw[iC ?_];intro E1;have b4:bN p H3 H4:=.fi b3.bU n4.same;have hx:∃a r,pl[i]? =some a/\rs[i]? =some r/\x= .int a/\y= .int r:=by rw[bO]at ex ey;cases e1:pl[i]? with |none=>rw[e1]at ex;cases ex |some u=>cases e2:rs[i]? with |none=>rw[e2]at ey;cases ey |some v=>rw[e1]at ex;rw[e2]at ey;erw[u,v,Z,Z,(eW ex).symm,(eW ey).symm]
   let(a,r,ea,er,rfl,rfl):=hx;let(a0,a1):=on.at' i a r ea er;let(r0,r1):=wX.rl r (fz er);erw[T,_,Z,aU.of n4.at',Z,_,_,Z,_,_,Z,Z,?_];erw[_,Z,_,Z,_,Z,_,Z,_,_,Z,?_];have lZ:=n4.same _ _ dl;have a7q:∃low:Int,(if(-mo:Int)>-a then-mo else-a)=low/\low<=0/\-mo<=low/\-a<=low:=#[_,Z,by split<;>lia,by split<;>lia,by split<;>lia];let(low,aaT,lo0,lo1,lo2):=a7q;rw[aaT];have hhi:∃hi:Int,(if mo<r-a then mo else r-a)=hi/\0<=hi/\hi<=mo/\hi<=r-a:=#[_,Z,by split<;>lia,by split<;>lia,by split<;>lia];let(hi,DC,hi0,hi1,Dr):=hhi;erw[_,Z,.inl #[Z,_,aD.of lZ],?_];erw[_,Z,_,Z,_,Z,_,Z,_,_,Z,Z,_,Z,_,_,Z,?_];rw[DC];erw[_,Z,_,_,Z,Z,_,_,Z,Z,p,hi-low+1,Z,b4.bU,ao,ao,λd H5 d0 d1 b5=>?_];have Jv:=b5.same _ _ CT lZ;erw[_,_,Z,Z,l,_,_,Z,Z,Jv,?_,?_]
   ·rw[aW,li]
    have:(1000:Nat)<sizeLine:=by decide
    have:=(cK.mp er).1
    lia
   have tL:=b3.trans (b4.trans b5);erw[?_,is++[low+d],_,_,_,?_,?_,?_,Z]
   ·erw[?_,λb o n e=>?_]
    ·let(c',m',e,ok):=tL.bU
     erw[c',m',by rw[aY CT.symm];erw[e],ok]
    ·rw[aY (eM e nl)];erw[tL.same b o n e]
   ·rw[bZ,fT];rfl
   ·rw[cv,li];rfl
   ·intro j z a' r' ej xI pA
    by_cases hj:j<is.length
    ·rw[oj hj]at ej
     erw[hz j z a' r' ej xI pA]
    ·have qC:j=is.length:=by
      have:=(cK.mp ej).1;rw[cv]at this;have:j<is.length+1:=this
      lia
     rw[qC,oh (aV _),Bg]at ej;cases ej;rw[qC,li]at xI pA;rw[ea]at xI;rw[er]at pA;cases xI;cases pA
     lia
  ·rintro O H3 ⟨b3,is,v1,v2,v3,dl,li,hz,rfl⟩
   have l0:0<is.length:=by lia
   have lp0:0<pl.length:=by lia
   have lr0:0<rs.length:=by lia
   have ea:=bL lp0;have er:=bL lr0;have a3:=Dg.t (bN.t bg b3);have m3:=gF.t (bN.t bg b3);have mb3:=jO.t (bN.t bg b3);erw[λO H4=>bN p H H4/\∃(is:List Int),H4 l=some (.lst (is.map V.int))/\ft rs.length 100 is/\fo rs (gb pl is)/\O=[some (.ref p),some (.ref ma),some (.ref xa),some (.int mo),some (.int (1+sp)),some (.ref l),v1,v2,v3],?_,?_]
   ·erw[kA ?_];intro E2
    erw[_,Z,l,is,Z,.inl (aD.of dl),_,Z,?_];cases ha:is.any (· !=0)with
    |false=>
     erw[bM ?_];have z0:∀z∈is,z=0:=λz mC=>by have:=List.any_eq_false.mp ha z mC;simpa using this
     erw[_,Z,cy Z,λc H4 n4=>?_];have s4:=n4.same;erw[_,Z,.inr #[xa,_,0,.int pl[0],Z,Z,a3.go s4,cB (dc 0) (by rw[bO];show Option.map _ pl[0]? =_;rw[ea];rfl),?_]];erw[_,Z,.inr #[ma,_,0,.ref mb,Z,Z,m3.go s4,cB (dc 0) Z,?_]];erw[.inr #[mb,_,0,.int rs[0],Z,Z,mb3.go s4,cB (dc 0) (by rw[bO];show Option.map _ rs[0]? =_;rw[er];rfl),?_]];erw[.inl #[_,_,Z,Z,.inr #[_,Z,?_]]];let(a0,a1):=on.at' 0 _ _ ea er;let(r0,r1):=wX.rl _ (fz er);have hy:∃y:Int,fb ([.int 1,.int (-1)]:List V) (if decide (pl[0]=rs[0])=true then 1 else 0)=some (.int y)/\y.natAbs=1/\0<=pl[0]+y/\pl[0]+y<=rs[0]:=by
      by_cases h:pl[0]=rs[0]
      ·rw[cj h];erw[-1,Z,Z,ao,ao]
      ·rw[dE h];erw[1,Z,Z,ao,ao]
     let(y,ey,y1,y2,y3):=hy;erw[.inl #[c,_,_,_,Z,Z,aD.of n4.at',ey,?_]];have lZ:=s4 _ _ dl;erw[_,Z,l,_,0,0,Z,Z,lZ,?_,?_]
     ·unfold jo;rw[ba (dc 0),ba (by rw[aW];lia)];rfl
     have b4:bN p H3 H4:=.fi b3.bU s4;have Wf:=b3.trans b4;have ls:(is.set 0 y).length=pl.length:=by rw[yk];lia
     erw[?_,is.set 0 y,?_,#[?_,?_,?_],#[?_,?_],Z]
     ·erw[?_,λb o n e=>?_]
      ·let(c',m',e,ok):=Wf.bU
       erw[c',m',by rw[aY CT.symm];erw[e],ok]
      ·rw[aY (eM e nl)];erw[Wf.same b o n e]
     ·rw[bZ,Es]
     ·rw[yk];erw[li]
     ·intro z mC
      rcases List.mem_or_eq_of_mem_set mC with h|h
      ·rw[z0 z h];decide
      ·rw[h];lia
     ·erw[y,X9.mpr #[0,by rw[yk];lia,by rw[Xe]],ao]
     ·rw[qU ls];erw[lp]
     ·intro j x r ej pA
      have hj:j<pl.length:=by have:=(cK.mp ej).1;rw[qU ls]at this;erw[this]
      have Aj:=AJ (bL hj) (bL (show j<(is.set 0 y).length by lia));rw[ej]at Aj;have Jm:=eW Aj;by_cases h0:j=0
      ·subst h0
       rw[Xe]at Jm;rw[er]at pA;cases pA
       lia
      ·rw[List.getElem_set_ne (kG h0)]at Jm
       have TX:=z0 _ (wj (show j<is.length by lia));have:=on.at' j _ r (bL hj) pA
       lia |true=>
     erw[aP ?_];have ls:is.length=pl.length:=by lia
     erw[b3,is,dl,#[li,λz mC=>?_,?_],#[?_,?_],Z]
     ·let(j,hj):=oa.mp mC
      have Ug:=(cK.mp hj).1;have:=hz j z _ _ hj (bL (show j<pl.length by lia)) (bL (show j<rs.length by lia))
      lia
     ·let(z,mC,h0):=yo.mp ha
      erw[z,mC,by simpa using h0]
     ·rw[qU ls];erw[lp]
     ·intro j x r ej pA
      have hj:j<pl.length:=by have:=(cK.mp ej).1;rw[qU ls]at this;erw[this]
      have Aj:=AJ (bL hj) (bL (show j<is.length by lia));rw[ej]at Aj;have Jm:=eW Aj;have:=hz j _ _ r (bL (show j<is.length by lia)) (bL hj) pA
      lia
   rintro O H4 ⟨b4,is,dl,ok,on2,rfl⟩;erw[_,Z,l,_,Z,.inl #[aD.of dl,λq H5 n5=>?_]];erw[_,Z,cy Z,λt H6 n6=>?_];erw[k (.ref t) is (1+sp) H6 (fN (aU.of n6.at') (cG (bC _) (cG (fN (aU.of (n6.same _ _ n5.at')) (pW is)) (cG (fO _) cW)))) ok on2 ao ao (b4.trans (.fi b4.bU (n5.same.trans n6.same)))]
end
end _a
set_option maxHeartbeats 2000000
namespace _a
open PySem PySem.Spec PyProof.Rows _L _b _l _C _P _W _R
open _O (topR cornO mnO betR atO ownF leadF ownL OkI OkIs Itm)
section
def ud(f:Int->Int->Int)(xs ys:List Int):List Int:=(xs.zip ys).map λp=>f p.1 p.2
theorem abp{D:Addr}{n:Nat}(f:Int->Int->Int)(rest:_L.St)(p4:n=2)(h1:eV b1 K H l1 (xs.map V.int))(h2:eV b2 K H l2 (ys.map V.int))(nw:Nw H H0 D (.lst []))(hl:xs.length=ys.length)(hz:xs.length<=1000) (he:∀(u v:Int)(H2:Hp)(Q':VK),aF H H2->Q' (.int (f u v)) H2->te (some (.int u)::some (.int v)::rest) H2 Q')(hq:∀H',aF H H'->H' D=some (.lst ((ud f xs ys).map V.int))->Q (.ref D) H'): m6 (tR K b1 b2 l1 l2) (A9 K n (vo (gs 0) (vo (gs 1) Dw))) kI te Q D (none::none::rest) H0:=by erw[vF (K:=K) (ds:=(ud f xs ys).map PyData.int) rest p4 h1 h2 nw (by simp[ud]) (by simp[ud];lia) (mm _) ?_ λH' zs s' d' r'=>hq H' s' (by rw[<-r'.gj];erw[d'])];intro i x y d H7 Q' ex ey ed s7 hq;let(u,v,e1,e2,rfl,rfl):=zip2 hl.symm ex ey;let(m,em,rfl):=oP ed;unfold ud at em;rw[bO,(Bo (z:=(u,v))).mpr #[e1,e2]]at em;cases em;erw[he u v H7 Q' s7 (hq _ _ (aF.refl _) (fO _))]
theorem KL:∀xs ys:List Int,ud (λa b=>a+b) xs ys=gb xs ys |[],_=>by cases‹List Int›<;>rfl |_::_,[]=>rfl |x::xs,y::ys=>by show(x+y)::ud _ xs ys=(x+y)::gb xs ys;rw[KL xs ys]
inductive ad2(vs:List V)(H:Hp)(Q:VK):Prop |mk (x:_)(iv:_)(pl:_)(d:_)(o:_)(h0:vs=[x,iv])(h1:RD K H x (dh pl))(h2:RD K H iv d)(h3:itR d o)(h4:(∀ns sp,o=some (ns,sp)->ns.length=pl.length))(h5:pl.length<=3)(h6:∀v H',RD K H' v (dh (g9 pl o))->aF H H'->Q v H')
def Zo:Sp:=λvs H Q _=>ad2 vs H Q
theorem Mo:bf ["_law_here","_law_item_here"] ["_law_here","_law_item_here"] (aQ O3):=bo aG
theorem Ry(AA:All w K mg):bj P w K mg ay "_law_there" 1 Zo:=by
 exists AA.aai.has,Mo,eD λ_ _=>rfl
 ·let(x,iv,pl,d,o,rfl,rx,ri,it,hl,l3,k):=h
  have nd:=Mo.nd;erw[_,(az (bI (bX (kR K Z hr.units) (px K (pv 1) aB) bR (bQ _)) (aH (aO (pv 0))) bP) (aH (aO (dF (x:="tuple") (kh K Z) Z (AA.B.at "tuple") ir (ak (eQ (N:=["_law_at","_law_step"]) (js:=[none,none]) rfl rfl rfl (oC K rfl false false rfl (AA.B.at "zip") (ak (pv 0) (ak (px K (pv 1) aB) au))) (λ_ _ _ _ _=>(eu K rfl (n:=2) rfl (bV (aR 0 (jN aw)) (bV (aR 1 (jN aw)) eg)))) (λ_ _ _ _ _=>e9) (λ_ _ _ _ _=>(aM dR (pv 0) (pv 1)))) au))))),?_];let(a,wd,ys,rfl,h1,ew,sw):=zQ ri it;erw[_,Z,.inr #[a,_,0,.str wd,Z,Z,h1,cB (dc 0) Z,.inr #[_,_,bC _,bC _,sw,nj,_,Z,?_]]];rw[ew];cases o with |none=>erw[bM #[_,Z,k x H rx (aF.refl _)]] |some q=>let(ns,sp):=q;erw[aP ?_];have ed:=iP it;subst ed;let(pa,rfl,hp):=QK rx;let(a',b,e',ha,hb):=oT ri;cases e';erw[_,Z,_,Z,.inr #[a,_,1,.ref b,Z,Z,ha,Z,pa,b,Z,#[_,hp],#[_,hb],λD H1 n1=>?_]];erw[abp (b1:=false) (b2:=false) (λa b=>a+b) _ Z hp hb n1 (hl ns sp Z).symm ao (λu v H2 Q' s2 q=>#[_,Z,_,Z,_,_,Z,Z,q]) λH2 s2 d2=>?_];rw[KL]at d2;erw[D,_,Z,.inl #[aD.of d2,λt H3 n3=>?_]];erw[k _ H3 (fN (aU.of n3.at') (pW (gb pl ns))) (s2.trans n3.same)]
structure mO(n:Nat)(ds:List ah)(os:List Itm):Prop where
 len:ds.length=os.length
 it:∀(i:Nat)(d:ah)(o:Itm),ds[i]? =some d->os[i]? =some o->jB n d o
theorem mO.nil{n:Nat}:mO n [] []:=#[Z,λi d o e=>by simp at e]
theorem mO.snoc{n:Nat}{ds:List ah}{os:List Itm}{d:ah}{o:Itm}(h:mO n ds os)(i:jB n d o):mO n (ds++[d]) (os++[o]):=by
 erw[by rw[cv,cv,h.len];rfl,λj d' o' e1 e2=>?_];have hl:=h.len;rcases oA e1 with e1|⟨j1,rfl⟩
 ·rcases oA e2 with e2|⟨j2,rfl⟩
  ·erw[h.it j d' o' e1 e2]
  ·have:=(cK.mp e1).1;omega
 ·rcases oA e2 with e2|⟨_,rfl⟩
  ·have:=(cK.mp e2).1;omega
  ·erw[i]
theorem mO.row{n:Nat}{ds:List ah}{os:List Itm}(h:mO n ds os):cU n ds os:=#[h.len,λi d o e1 e2=>(h.it i d o e1 e2).it,λi ns sp e=>by have hl:=(cK.mp e).1;exact(h.it i _ _ (bL (by rw[h.len];erw[hl])) e).ln ns sp Z]
theorem mO.rw{n:Nat}{ds:List ah}{os:List Itm}(h:mO n ds os):RowW ds os:=λi d e1 e2=>(h.it i d none e2 e1).ot rfl
theorem JV{t:TS}{D:Ends}(h:∀D':Ends,(∀O H,D.nx O H->D'.nx O H)->t D' O H):t D O H:=h D λ_ _ z=>z
theorem a6s{M:bw}{ms:List Int}{sp:Int}(Gy:ft M.rs.length 100 ms)(cO:1<=sp)(dZ:sp<=20):jB M.rs.length (eF ms sp) (some (ms,sp)):=#[.inl #[ms,sp,Z,Z],λn' s' e=>by cases e;erw[Gy,cO,dZ],λe=>by cases e]
theorem acb{pl:List Int}{os:List Itm}{i:Nat}(h:i<=os.length):dq pl (os++[o]) i=dq pl os i:=by unfold dq;rw[afr h]
theorem Wh{pl:List Int}{os:List Itm}:dq pl (os++[o]) (os.length+1)=g9 (dq pl os os.length) o:=by unfold dq;rw[tZ (by rw[cv];erw[aV _]),u9,o9];rfl
theorem a3e{rs pl:List Int}{os:List Itm}(h:∀i,i<=os.length->fo rs (dq pl os i))(g:fo rs (g9 (dq pl os os.length) o)):∀i,i<=(os++[o]).length->fo rs (dq pl (os++[o]) i):=λi hi=>by
 rw[cv]at hi;by_cases c:i<=os.length
 ·rw[acb c];erw[h i c]
 ·have:i=os.length+1:=by have:i<=os.length+1:=hi;omega
  rw[this,Wh];erw[g]
def uY:Itm->Nat |some (ns,_)=>aE ns |none=>0
def j9:List Itm->Nat |[]=>0 |o::os=>uY o+j9 os
theorem zN:∀(a b:List Itm),j9 (a++b)=j9 a+j9 b |[],b=>(Nat.zero_add _).symm |o::a,b=>by show uY o+j9 (a++b)=uY o+j9 a+j9 b;rw[zN a b,Nat.add_assoc]
structure K0(M:bw)(pl:List Int)(ds:List ah)(os:List Itm):Prop where
 it:mO M.rs.length ds os
 ld:j9 os<=120
 on:∀i,i<=os.length->fo M.rs (dq pl os i)
inductive adj(vs:List V)(H:Hp)(Q:VK):Prop |mk (p:_)(m:_)(x:_)(M:_)(pl:_)(h0:vs=[.ref p,m,x])(h1:gI H p)(h2:RD K H m (bw.D M))(h3:M.Ok)(h4:RD K H x (dh pl))(h5:fo M.rs pl)(h6:∀v ds os H',RD K H' v (.tuple ds)->K0 M pl ds os->ds.length<=12->bN p H H'->Q v H')
def Zy:Sp:=λvs H Q _=>adj vs H Q
theorem MH:bf ["_law_bag_here","_law_machine_here","_law_place_here","_law_most","_law_many","_law_found","_law_left","_law_k","_law_plain","_law_item_here","_law_lead"] ["_law_bag_here","_law_machine_here","_law_place_here"] (aQ Oj):=bo aG
theorem a3B(AA:All w K mg):bj P w K mg ay "_law_row" 4 Zy:=by
 exists AA.aak.has,MH,iB λ_ _ _=>rfl
 ·let(p,m,x,M,pl,rfl,bg,rm,aA,rx,on,k):=h
  have nd:=MH.nd;erw[_,(az (pS 3 nd (px K (dj (ak aB (ak aB (ak aB au)))) (pf (fX AA) hr (ak (pv 0) (ak aB au))))) (az (pS 4 nd (pf (fX AA) hr (ak (pv 0) (ak aB au)))) (az (pS 5 nd (dj au)) (az (pS 6 nd aB) (az (gW fS Z (sx Z (AA.B.at "range") (ak (pv 4) au)) (aR 7 nd) (az (pS 8 nd (jl (dN K Z hr.units) (pf (fX AA) hr (ak (pv 0) (ak aB au))) aB (bQ _))) (az (pS 9 nd (pf (a3U AA) hr (ak (pv 0) (ak (fW K AA.B (ak (px K (pv 1) aB) au)) au)))) (az (iZ (bI (PW.pt (iI (cR (cw (pv 8))) (jJ (bX (dN K Z hr.units) (px K (pv 9) aB) bR (bQ _))))) (aH (pS 9 nd (pf (a40 AA) hr (ak (pv 0) (ak (pv 1) (ak (pv 2) (ak (pv 3) au))))))) bP)) (az (iZ (pS 10 nd (kr (bX (dN K Z hr.units) (px K (pv 9) aB) bR (bQ _)) (fh (x:="max") (SG K Z Z) Z (AA.B.at "max") Kn (ak (eQ (N:=["_law_step"]) (js:=[none]) rfl rfl rfl (j3 K rfl (px K (pv 9) aB)) (λ_ _ _ _ _=>(aR 0 (iM _))) (λ_ _ _ _ _=>e9) (λ_ _ _ _ _=>(fh (x:="abs") tK rfl (AA.B.at "abs") w6 (ak (pv 0) au)))) au)) aB))) (aH (bI (bX zp (pv 10) (pv 6) (bQ _)) (az (fP (iL K Z (pv 5) (ak (pv 9) au))) (az (pS 2 nd (pf (Ry AA) hr (ak (pv 2) (ak (pv 9) au)))) (aH (pS 6 nd (aM j6 (pv 6) (pv 10)))))) bP))))))) (aH (aO (dF (x:="tuple") (kh K Z) Z (AA.B.at "tuple") ir (ak (pv 5) au))))))))),?_];have lr:=aA.len;have iQ:sizeLine=16777216:=by decide
  erw[cy Z,λc H1 n1=>?_];have b1:bN p H H1:=.fi bg n1.same;have cp:c≠p:=λz=>bg.ne (z▸n1.no);erw[_,Z,p,3,Z,b1.bU,aw,aw,λi H2 i0 i1 b2=>?_];obtain⟨mo,em,m1,m2⟩:∃m:Int,fb ([.int 3,.int 12,.int 40]:List V) i=some (.int m)/\1<=m/\m<=100:=by
   rcases(show i=0\/i=1\/i=2 by lia)with rfl|rfl|rfl
   ·erw[3,Z,aw,aw]
   ·erw[12,Z,aw,aw]
   ·erw[40,Z,aw,aw]
  erw[.inl #[c,_,_,_,Z,Z,aD.of (b2.same _ _ cp n1.at'),em,?_]];have qT:=b1.trans b2;erw[_,Z,p,13,Z,b2.bU,aw,aw,λmany H3 y0 y1 b3=>?_];have vM:=qT.trans b3;erw[cy Z,λD H4 n4=>?_];have pF:=vM.trans (.fi b3.bU n4.same);have Gh:pl.length<=3:=by rw[on.len];lia
  have Dp:D≠p:=λz=>vM.bU.ne (z▸n4.no);have nD:H D=none:=by cases e:H D with |none=>rfl |some o=>have:=vM.same _ _ (λz=>by rw[z]at e;erw[Dp z]) e;rw[n4.no]at this;cases this
  have Sj:=kT M.rs M.r M.f M.j M.t;erw[_,Z,_,Z,ao,ao,?_];erw[xC (Pv:=λi O H4=>bN p H H4/\∃zs ds os xv,∃left:Int,∃v7 v8 v9 v10,H4 D=some (.lst zs)/\aI K H4 zs ds/\K0 M pl ds os/\left=120-(j9 os:Int)/\ds.length<=i/\RD K H4 xv (dh (dq pl os os.length))/\O=[some (.ref p),some m,some xv,some (.int mo),some (.int many),some (.ref D),some (.int left),v7,v8,v9,v10]) ?_ ?_ ?_]
  ·erw[pF,[],[],[],x,120,none,none,none,none,n4.at',cW,#[.nil,eX _,λi hi=>by have:i=0:=Nat.le_zero.mp hi;rw[this];erw[on]],Z,aV _,RD.t (bN.t bg pF) _ (gp _) rx,Z]
  ·rintro i O H5 hi5 ⟨b5,zs,ds,os,xv,left,v7,v8,v9,v10,dl,rz,fV,Vd,hl,uy,rfl⟩
   erw[iC ?_];intro E1;have lz:=rz.length;have no:=fV.it.row.no;erw[_,Z,p,4,Z,b5.bU,aw,aw,λt1 H6 ES ER b6=>.inl #[_,_,Z,Z,?_]];have DR:=b5.trans b6;have t6:=bN.t b5.bU b6;have rm6:=RD.t (bN.t bg DR) _ Sj rm;let(ma,mb,mys,hm,gF,jO):=SJ rm6;erw[_,Z,_,Z,.inr #[ma,_,0,.ref mb,hm,Z,gF,cB (dc 0) Z,mb,_,Z,.inr jO,?_]];rw[aW];erw[p,M.rs.length,Z,DR.bU,ao,ao,λiv d o H7 ri it b7=>?_];have AE:=DR.trans b7;have t7:=t6.trans (bN.t DR.bU b7);have pC:=b7.same _ _ Dp (b6.same _ _ Dp dl);have Ck:=fV.on os.length (aV _);erw[λO H8=>bN p H H8/\∃iv d o v8,O=[some (.ref p),some m,some xv,some (.int mo),some (.int many),some (.ref D),some (.int left),some (.int (0+(i:Int))),v8,some iv,v10]/\H8 D=some (.lst zs)/\aI K H8 zs ds/\RD K H8 xv (dh (dq pl os os.length))/\RD K H8 iv d/\jB M.rs.length d o/\fo M.rs (g9 (dq pl os os.length) o),?_,?_]
   ·erw[kA ?_];intro E2
    erw[JV λD' hD=>?_];have line:∀(v8 iv:V),yJ (EN LY (yI (wx 0) (yI (wx 1) (yI (wx 2) (yI (wx 3) uk))))) (gs 9) D' [some (.ref p),some m,some xv,some (.int mo),some (.int many),some (.ref D),some (.int left),some (.int (0+(i:Int))),some v8,some iv,v10] H7:=λv8 iv=>by erw[_,Z,_,Z,_,Z,_,Z,p,m,M.rs,M.r,M.f,M.j,M.t,xv,_,mo,Z,AE.bU,RD.t (bN.t bg AE) _ Sj rm,aA,RD.t t7 _ (gp _) uy,Ck,m1,m2,λiv' ns sp H8 rl Gy a3b cO dZ b8=>hD _ _ ?_];have t8:=t7.trans (bN.t AE.bU b8);erw[AE.trans b8,iv',_,some (ns,sp),_,Z,b8.same _ _ Dp pC,aI.t t8 _ no rz,RD.t t8 _ (gp _) uy,rl,a6s Gy cO dZ,a3b]
    let(wa,y,xs,rfl,zT,ew,yP):=zQ ri it.it;by_cases hb:t1=0
    ·erw[_,Z,_,Z,?_]
     rw[cj hb];erw[aP #[_,Z,.inr #[wa,_,0,.str y,Z,Z,zT,cB (dc 0) Z,.inr #[_,_,bC _,bC _,yP,nj,_,Z,?_]]]];rw[ew];cases o with |some q=>erw[bM (line _ _)] |none=>erw[aP (hD _ _ #[AE,_,d,none,_,Z,pC,aI.t t7 _ no rz,RD.t t7 _ (gp _) uy,ri,it,Ck])]
    ·erw[_,Z,_,Z,?_]
     rw[dE hb];erw[bM (line _ _)]
   rintro O H8 ⟨b8,iv,d,o,v8,rfl,lY,Q7,Qa,ri,it,gD⟩;erw[λO H9=>bN p H H9/\∃(lead:Int),lead=(uY o:Int)/\O=[some (.ref p),some m,some xv,some (.int mo),some (.int many),some (.ref D),some (.int left),some (.int (0+(i:Int))),v8,some iv,some (.int lead)]/\H9 D=some (.lst zs)/\aI K H9 zs ds/\RD K H9 xv (dh (dq pl os os.length))/\RD K H9 iv d,?_,?_]
   ·erw[kA ?_];intro E3
    erw[JV λD' hD=>?_];let(wa,y,xs,rfl,zT,ew,yP):=zQ ri it.it;erw[_,Z,.inr #[wa,_,0,.str y,Z,Z,zT,cB (dc 0) Z,.inr #[_,_,bC _,bC _,yP,nj,_,Z,?_]]];rw[ew];cases o with |none=>erw[aP (hD _ _ #[b8,0,Z,Z,lY,Q7,Qa,ri])] |some q=>
     let(ns,sp):=q;have ed:=iP it.it;subst ed;have bW:=(it.ln ns sp Z).1;have SV:=bW.len;have cD:ns≠[]:=λz=>by rw[z]at SV;simp at SV;lia
     let(a',b,e',ha,hb):=oT ri;cases e';erw[bM #[_,Z,.inr #[wa,_,1,.ref b,Z,Z,ha,Z,b,Z,#[_,hb],λD1 H0 nw=>?_]]];erw[qR (K:=K) (xs:=ns.map V.int) (ds:=(ns.map nY).map PyData.int) [] hb nw (by simp) (by simp;lia) (mm _) ?_ ?_]
     ·intro i x d H2 Q' ex ed s2 hq
      let(m,em,rfl):=oP ed;rw[bO]at em;cases en:ns[i]? with |none=>rw[en]at em;cases em |some n=>rw[en]at em;cases em;cases CJ ex en;erw[_,Z,n,Z,hq _ _ (aF.refl _) (fO _)]
     ·intro H' ys s2 d2 r2
      rw[r2.gj]at d2;erw[D1,_,Z,aD.of d2,by simpa using cD,λmx h1 h2=>?_];rw[Tf cD h1 h2];erw[hD _ _ #[b8.trans (.fi b8.bU s2),_,Z,Z,s2 _ _ lY,aI.mono s2 _ Q7,RD.mono s2 _ Qa,RD.mono s2 _ ri]]
   rintro O H9 ⟨b9,lead,l0,rfl,qP,Q6,Q9,Qn⟩;erw[_,Z,_,Z,_,_,Z,Z,_,Z,?_];have ll:=fV.it.len;erw[fQ (λhc=>?_) (λhc=>?_)]
   ·erw[_,Z,.inl #[Z,_,aD.of qP],_,Z,D,zs,_,Z,Z,qP,ao,?_]
    have tu:fm H9 (_L.upd H9 D (.lst (zs++[iv]))):=.iW qP;have xS:bN p H (_L.upd H9 D (.lst (zs++[iv]))):=b9.putL Dp nD;erw[_,Z,_,Z,xv,iv,_,d,o,Z,RD.t tu _ (gp _) Q9,RD.t tu _ it.it.no Qn,it.it,λns sp e=>?_,by rw[Ck.len];lia,λv jc rv oB=>?_]
    ·rw[(it.ln ns sp e).1.len,Ck.len]
    erw[_,Z,_,Z,_,_,Z,Z,?_];erw[xS.trans (.fi xS.bU oB),zs++[iv],ds++[d],os++[o],v,left-lead,_,_,_,_,oB _ _ bZ,aI.mono oB _ (aI.wz qP Q6 Qn no it.it.no),#[fV.it.snoc it,?_,a3e fV.on gD],?_,?_,?_,Z]
    ·have jR:=kF hc
     rw[zN];show j9 os+(uY o+0)<=120
     lia
    ·rw[zN]
     show left-lead=120-((j9 os+(uY o+0):Nat):Int)
     lia
    ·rw[cv];show ds.length+1<=i+1;lia
    ·rw[cv]
     show RD K jc v (dh (dq pl (os++[o]) (os.length+1)));rw[Wh];erw[rv]
   ·erw[b9,zs,ds,os,xv,left,_,_,_,_,qP,Q6,fV,Vd,ao,Q9,Z]
  ·rintro O H5 ⟨b5,zs,ds,os,xv,left,v7,v8,v9,v10,dl,rz,fV,Vd,hl,uy,rfl⟩
   erw[_,Z,D,_,Z,.inl #[aD.of dl,λt H6 n6=>?_]];erw[k (.ref t) ds os H6 (fN (aU.of n6.at') (aI.mono n6.same _ rz)) fV ao (b5.trans (.fi b5.bU n6.same))]
end
end _a
namespace _a
open PySem PySem.Spec PyProof.Rows _L _b _l _C _P _W _R
open _O (topR cornO mnO betR atO ownF leadF ownL OkI OkIs Itm)
open _T (numS)
section
theorem gI.but(h:gI H p)(b:dI S' H H')(hp:p∉S'):gI H' p:=by let(c,m,e,k):=h;erw[c,m,b _ _ e hp,k]
theorem D9{H:Hp}{x y C dx:Addr}{fs:List (Str×V)}{ys:List V}(h1:H x=some (.ins C dx fs))(h2:H y=some (.lst ys)):x≠y:=zG h1 h2 (by intro z;cases z)
theorem CB{x r q:Addr}(h1:x≠r)(h2:x≠q):x∉[r,q]:=λz=>by simp only[cM,iu,kE]at z;erw[z.elim h1 h2]
structure DW(C D:Addr)(H0:Hp)(M:bw)(p a r q0:Addr)(H:Hp)(q:Addr)(S:bp):Prop where
 bg:gI H p
 dk:r9 D H a r M
 x:cT C H r q M S
 pq:p≠q
 hp:H0 p≠none
 hr:H0 r≠none
 fr:∀x o,H0 x=some o->x≠p->x≠r->x≠q0->H x=some o
 nq:q=q0\/H0 q=none
section
variable {H0:Hp}{M:bw}{p a r q0 q q':Addr}{H H':Hp}{S S':bp}
theorem DW.pr(h:DW C D H0 M p a r q0 H q S):p≠r:=by let(c,m',ep,_):=h.bg;let(rx,mv,bv,cI,tv,er,_):=h.x.ob;exact(D9 er ep).symm
theorem DW.ad(h:DW C D H0 M p a r q0 H q S):a≠r/\a≠q/\a≠p:=by let(dx,mv,ea,_):=h.dk;let(rx,mv',bv,cI,tv,er,_):=h.x.ob;let(ys,eq,_):=h.x.qu;let(c,m',ep,_):=h.bg;erw[zG ea er (by intro z;injection z with _ _ z;cases z),D9 ea eq,D9 ea ep]
theorem r9.v(dk:r9 D H a r M)(v:cQ H H')(ea:∀o,H a=some o->H' a=some o):r9 D H' a r M:=by let(dx,mv,e,rm):=dk;erw[dx,mv,ea _ e,RD.v v _ (kT _ _ _ _ _) rm]
theorem DW.Qr(h:DW C D H0 M p a r q0 H q S):DW C D H M p a r q H q S:=by let(rx,mv,bv,cI,tv,er,_):=h.x.ob;erw[h.bg,h.dk,h.x,h.pq,h.bg.ne,(λz=>by rw[er]at z;cases z),λ_ _ e _ _ _=>e,.inl rfl]
theorem DW.vb(b:DW C D Hz M p a r q1 H0 q0 S0)(h:DW C D H0 M p a r q0 H q S):cQ H0 H:=λx o nc e=>by
 let(rx,mv,bv,cI,tv,er,_):=b.x.ob;let(ys,eq,_):=b.x.qu;let(c,m',ep,_):=b.bg;erw[h.fr x o e (λz=>?_) (λz=>?_) λz=>?_]
 ·rw[z,ep]at e;cases e;erw[nc trivial]
 ·rw[z,er]at e;cases e;erw[nc trivial]
 ·rw[z,eq]at e;cases e;erw[nc trivial]
theorem DW.same(h:DW C D H0 M p a r q0 H q S)(n:cx S.ds=true)(s:aF H H'):DW C D H0 M p a r q0 H' q S:=#[(bN.fi h.bg s).bU,h.dk.v s.v (λo e=>s _ _ e),h.x.same n s,h.pq,h.hp,h.hr,λx o e n1 n2 n3=>s _ _ (h.fr x o e n1 n2 n3),h.nq]
theorem DW.draw(h:DW C D H0 M p a r q0 H q S)(n:cx S.ds=true)(b:bN p H H'):DW C D H0 M p a r q0 H' q S:=by have v:=(bN.t h.bg b).v;erw[b.bU,h.dk.v v (λo e=>b.same _ _ h.ad.2.2 e),h.x.go n v (λo e=>b.same _ _ h.pr.symm e) (λo e=>b.same _ _ h.pq.symm e),h.pq,h.hp,h.hr,λx o e n1 n2 n3=>b.same _ _ n1 (h.fr x o e n1 n2 n3),h.nq]
theorem DW.put{l:Addr}(h:DW C D H0 M p a r q0 H q S)(n:cx S.ds=true)(hl:H0 l=none)(lp:l≠p)(lr:l≠r)(lq:l≠q)(e:H l=some (.lst xs)):DW C D H0 M p a r q0 (_L.upd H l (.lst zs)) q S:=by
 have v:cQ H (_L.upd H l (.lst zs)):=.upd e trivial;let(dx,mv,ea,_):=id h.dk;have al:a≠l:=D9 ea e;erw[?_,h.dk.v v (λo e=>by rw[aY al];erw[e]),h.x.go n v (λo e=>by rw[aY lr.symm];erw[e]) (λo e=>by rw[aY lq.symm];erw[e]),h.pq,h.hp,h.hr,λx o e n1 n2 n3=>?_,h.nq]
 ·let(c,m,e,k):=h.bg
  erw[c,m,by rw[aY lp.symm];erw[e],k]
 ·rw[aY (eM e hl)];erw[h.fr x o e n1 n2 n3]
theorem DW.mv(h:DW C D H0 M p a r q0 H q S)(mv:Mv r q H q' H')(R:cT C H' r q' M S'):DW C D H0 M p a r q0 H' q' S'/\cQ H H':=by
 have v:=h.x.v mv.but;let(d1,d2,d3):=h.ad;have U7:∀x o,H0 x=some o->x≠p->x≠r->x≠q0->x≠q:=λx o e n1 n2 n3 z=>by
  rcases h.nq with e'|e'
  ·erw[n3 (by rw[z,e'])]
  ·rw[z,e']at e;cases e
 erw[#[gI.but h.bg mv.but (CB h.pr h.pq),h.dk.v v (λo e=>mv.but _ _ e (CB d1 d2)),R,λz=>?_,h.hp,h.hr,λx o e n1 n2 n3=>mv.but _ _ (h.fr x o e n1 n2 n3) (CB n2 (U7 x o e n1 n2 n3)),?_],v]
 ·rcases mv.nq with e|e
  ·erw[h.pq (by rw[z,e])]
  ·erw[h.bg.ne (by rw[z];erw[e])]
 ·rcases mv.nq with e|e
  ·rw[e];erw[h.nq]
  ·by_cases z0:q'=q0
   ·erw[.inl z0]
   ·erw[.inr ?_]
    cases e0:H0 q' with |none=>rfl |some o=>
     by_cases z1:q'=p
     ·erw[absurd e (by rw[z1];erw[h.bg.ne])]
     ·by_cases z2:q'=r
      ·let(rx,mv,bv,cI,tv,er,_):=h.x.ob
       rw[z2,er]at e;cases e
      ·rw[h.fr _ _ e0 z1 z2 z0]at e;cases e
end
theorem RG.vp{D:Nat}{d:ah}(g:RG M D S)(it:jB M.rs.length d o)(hl:S.ds.length<20)(gD:fo M.rs (g9 (kW S) o)):RG M D (tq S d o):=#[g.ok.vp it hl,g.aA,g.sd.eq Z Z,g.on.vp gD,g.hD]
theorem Lq:∀(g ns:List Int),ns.length=g.length->pQ (gb g ns) g=ns |[],[],_=>rfl |[],_::_,h=>by simp at h |_::_,[],h=>by simp at h |a::g,c::ns,h=>by show(a+c-a)::pQ (gb g ns) g=c::ns;rw[Lq g ns (by simpa using h),show a+c-a=c by lia]
theorem Yf(sp:Int)(h:ns≠[]):("to ":Str)++fj ns++" "++numS sp=toS ns sp:=by
 have hn:ns.map numS≠[]:=by simpa using h
 unfold toS;rw[xq _ _ _ (by simp),join_snoc _ _ _ hn,show("to ":Str)="to"++" " by decide+kernel];unfold fj;simp only[WW]
def ja(S:bp)(ds:List ah)(os:List Itm)(i:Nat):bp:={S with ds:=ds.take i,os:=os.take i}
theorem US{ds:List ah}{os:List Itm}{i:Nat}{d:ah}(h1:ds[i]? =some d)(h2:os[i]? =some o):tq (ja S ds os i) d o=ja S ds os (i+1):=by unfold tq ja;rw[lF,h1,lF,h2];rfl
def acC(C:Addr)(r q:Addr)(M:bw)(S:bp)(d:ah)(o:Itm)(z:Str):Prop:=∃c,z=kD.txt c/\∀H Q,vU C r q M S d o H Q->c.Ok C r q M S H Q
inductive ae5(C:Addr)(D:Addr)(vs:List V)(H:Hp)(Q:VK):Prop |mk (H0:_)(p:_)(a:_)(r:_)(q0:_)(x:_)(iv:_)(q:_)(M:_)(D':_)(S:_)(ds:_)(os:_)(h0:vs=[.ref p,.ref a,x,iv])(h1:DW C D H0 M p a r q0 H q S)(h2:RG M D' S)(h3:S.ds=[])(h4:S.os=[])(h5:S.pl.length<=3)(h6:RD K H x (dh S.pl))(h7:RD K H iv (.tuple ds))(h8:K0 M S.pl ds os)(h9:ds.length<=12)(qF:∀H',DW C D H0 M p a r q0 H' q (ja S ds os ds.length)->RG M D' (ja S ds os ds.length)->Q (.str (Cb M.r M.f M.j S.rate os)) H')
def LZ(C D:Addr):Sp:=λvs H Q _=>ae5 C D vs H Q
theorem Ny:bf ["_law_bag_here","_law_desk","_law_place_here","_law_row_here","_law_item_here","_law_text","_law_squares"] ["_law_bag_here","_law_desk","_law_place_here","_law_row_here"] (aQ Pw):=bo aG
theorem a41(AA:All w K mg)(RR:fJ K mg C D)(vk:dA P w K mg ay D "say" 14 (BZ C D)):bj P w K mg ay "_law_fed" 15 (LZ C D):=by
 exists AA.aat.has,Ny,xV λ_ _ _ _=>rfl
 ·let(H0,p,a,r,q0,x,iv,q,M,D',S,ds,os,rfl,T,g,ed0,eo0,Gh,rx,ri,fV,hz,k):=h
  have nd:=Ny.nd;erw[_,(az (gW fS Z (j3 K Z (pv 3)) (aR 4 nd) (az (pS 5 nd (pf (RQ AA) hr (ak (pv 4) au))) (az (pS 2 nd (pf (Ry AA) hr (ak (pv 2) (ak (pv 4) au)))) (az (iZ (bI (PW.pt (sr (bX (dN K Z hr.units) (px K (pv 4) aB) bR (bQ _)) (wN (bX (dN K Z hr.units) (pf (fX AA) hr (ak (pv 0) (ak aB au))) aB (bQ _))))) (aH (pS 5 nd (aM jn (aM jn (aM jn bR (qe K Z bR (ak (eQ (N:=["_law_at"]) (js:=[none]) Z Z Z (j3 K Z (pv 2)) (λ_ _ _ _ _=>(aR 0 (iM _))) (λ_ _ _ _ _=>e9) (λ_ _ _ _ _=>(dF (x:="str") jV Z (AA.B.at "str") jC (ak (pv 0) au)))) au))) bR) (dF (x:="str") jV rfl (AA.B.at "str") jC (ak (px K (pv 4) aB) au))))) bP)) (aH (fP (ko vk RR.td.cl (hr.mono aw) (pv 1) (ak (pv 5) au)))))))) (az (pS 6 nd (ko vk RR.td.cl (hr.mono aw) (pv 1) (ak bR au))) (aH (aO (pv 6))))),?_];have aA:=g.aA;have lr:=aA.len;have no:=fV.it.row.no;have ll:=fV.it.len;have z0:ja S ds os 0=S:=by unfold ja;rw[wg,wg,<-ed0,<-eo0]
  let(ia,xs,rfl,hi,eO):=ri.cu;have lx:=eO.length;erw[_,Z,ia,Z,#[_,hi],IV (K:=K) (a:=ia) (xs:=xs) (λi O H3=>cQ H H3/\DW C D H0 M p a r q0 H3 q (ja S ds os i)/\RG M D' (ja S ds os i)/\∃xv v4 v5,RD K H3 xv (dh (dq S.pl os i))/\O=[some (.ref p),some (.ref a),some xv,some (.ref ia),v4,v5,none]) ?_ (λi O H3 _ h=>aU.v h.1 hi) ?_ ?_]
  ·rw[z0]
   erw[λ_ _ _ e=>e,T,g,x,none,none,rx,Z]
  ·rintro i y O H3 hy ⟨v3,T3,g3,xv,v4,v5,uy,rfl⟩
   erw[iC ?_];intro E1;have sP:i<xs.length:=(cK.mp hy).1;let(d,ed,rd):=eO.get' i hy;obtain⟨o,eo⟩:∃o,os[i]? =some o:=#[_,bL (show i<os.length by lia)];have it:=fV.it.it i d o ed eo;have tx:=it.tx aA.n3.1 aA.n3.2;have zv:=fV.on (i+1) ao;have Gu:=fV.on i ao;have n3:=g3.ok.row.no;have pX:=RD.v v3 _ tx.no rd;have IA:kW (ja S ds os i)=dq S.pl os i:=rfl;have Hy:(ja S ds os i).ds.length<20:=by show(ds.take i).length<20;rw[u7];lia
   erw[_,Z,y,d,Z,pX,tx.ti,λH4 s4=>?_];have Qp:=RD.mono s4 _ pX;erw[_,Z,_,Z,xv,y,_,d,o,Z,RD.mono s4 _ uy,Qp,it.it,λns sp e=>?_,by rw[Gu.len];lia,λv H5 rv s5=>?_]
   ·rw[(it.ln ns sp e).1.len,Gu.len]
   rw[<-xT eo]at rv;have Q4:=s4.trans s5;have T5:=T3.same n3 Q4;have Qo:=RD.mono s5 _ Qp;erw[λO H6=>∃z,O=[some (.ref p),some (.ref a),some v,some (.ref ia),some y,some (.str z),none]/\acC C r q M (ja S ds os i) d o z/\bN p H5 H6,?_,?_]
   ·erw[kA ?_];intro E2
    erw[JV λE' hE=>?_];let(wa,wd,ys,rfl,zT,ew,yP):=zQ Qo it.it;erw[_,Z,.inr #[wa,_,0,.str wd,Z,Z,zT,cB (dc 0) Z,.inr #[_,_,bC _,bC _,yP,nj,_,Z,?_]]];rw[ew];cases o with |none=>erw[aP (aP (hE _ _ #[_,Z,#[.item d none,Z,λ_ _ h=>h],.refl T5.bg]))] |some qq=>
     let(ns,sp):=qq;have dG:=iP it.it;subst dG;let(bW,s1,s2):=it.ln ns sp rfl;erw[bM #[_,Z,p,2,Z,T5.bg,aw,aw,λt1 H6 ES ER b6=>.inl #[_,_,Z,Z,_,Z,?_]]];erw[fQ (λhc=>?_) (λhc=>hE _ _ #[_,Z,#[.item _ _,Z,λ_ _ h=>h],b6])];have t6:=(bN.t T5.bg b6);have gD:fo M.rs (gb (dq S.pl os i) ns):=by have:=zv;rw[xT eo]at this;erw[this]
     rw[xT eo]at rv;change RD K H5 v (dh (gb (dq S.pl os i) ns))at rv;have nb:=zt gD aA.rl;have ln:=gD.len;have nm:∀n∈gb (dq S.pl os i) ns,Nm n:=λn hn=>by have:=nb n hn;show n.natAbs<10^40;lia
     have sm:Nm sp:=by show sp.natAbs<10^40;lia
     have l1:=fY sm;have l2:=uP nm ao;have l3:=cO;have iQ:sizeLine=16777216:=by decide
     have l4:Str.length "to "=3:=by decide+kernel
     have rv6:=RD.t t6 _ (gp _) rv;have ri6:=RD.t t6 _ (Hr _ _) Qo;let(av,xs',rfl,vj,Ig):=rv6.cu;rw[Ig.gj]at vj;erw[Z,?_];erw[_,Z,av,Z,#[_,vj],λD7 H7 n7=>?_];erw[qR (K:=K) (ds:=((gb (dq S.pl os i) ns).map numS).map PyData.str) _ vj n7 (by simp) (by simp;lia) (oM _) ?_ ?_]
     ·intro i x d H2 Q' ex ed s2 hq
      rw[bO]at ex;let(n,en,rfl):=tX.mp ex;rw[bO,bO,en]at ed;cases ed;erw[_,Z,.inl #[n,Z,ng (nm n (fz en)),hq _ _ (aF.refl _) (bC _)]]
     ·intro H8 zs s8 d8 r8
      rw[ou r8]at d8;let(ia',ib,e',hia,_):=oT (RD.mono s8 _ ri6);cases e';erw[" ",D7,(gb (dq S.pl os i) ns).map numS,Z,Z,aD.of d8,λz hz=>?_,aG,by rw[aW];lia,_,_,Z,Z,?_,_,_,Z,Z,?_,_,Z,.inr #[wa,_,2,.int sp,Z,Z,hia,Z,.inl #[sp,Z,ng sm,_,_,Z,Z,?_,hE _ _ #[_,Z,#[.to (gb (dq S.pl os i) ns) sp,Yf sp ?_,λH' Q' h=>#[gD,s1,s2,some (ns,sp),by rw[IA,Lq _ _ (by rw[bW.len,Gu.len])];erw[h]]],b6.trans (.fi b6.bU s8)]]]]
      ·let(n,hn,rfl):=cJ.mp hz
       have:=fY (nm n hn)
       lia
      ·show Str.length "to "+(fj _).length<=_
       lia
      ·show Str.length ("to "++fj _)+Str.length " "<=_
       rw[cY]
       lia
      ·show Str.length ("to "++fj _++" ")+(numS sp).length<=_
       rw[cY,cY]
       lia
      ·intro e
       rw[e]at ln;simp at ln
       lia
   rintro O H6 ⟨z,rfl,⟨c,ez,cok⟩,b6⟩;subst ez;have T6:=T5.draw n3 b6;have v6:=Q4.v.trans (bN.t T5.bg b6).v;let(dx,mv,ea,uA):=id T6.dk;erw[_,Z,a,dx,_,Z,ea,Z,_,Z,a,r,q,M,D',ja S ds os i,c,Z,T6.dk,T6.x,g3,cok _ _ #[it,?_,Hy,λH7 R7 b7=>?_]]
   ·rw[IA,<-xT eo];erw[zv]
   ·have m7:=T6.mv #[b7,.inl Z] R7
    rw[US ed eo]at m7;have g7:=g3.vp it Hy (by rw[IA,<-xT eo];erw[zv]);rw[US ed eo]at g7;erw[v3.trans (v6.trans m7.2),m7.1,g7,v,_,_,RD.v ((bN.t T5.bg b6).v.trans m7.2) _ (gp _) rv,Z]
  ·rintro O H3 ⟨v3,T3,g3,xv,v4,v5,uy,rfl⟩
   rw[lx]at T3 g3;let(dx,mv,ea,uA):=id T3.dk;erw[_,Z,a,dx,_,Z,ea,Z,a,r,q,M,D',ja S ds os ds.length,.wd .gf,Z,T3.dk,T3.x,g3,λH4 s4=>#[_,Z,?_]];have:=k H4 (T3.same g3.ok.row.no s4) g3;show Q (.str (Cb M.r M.f M.j S.rate (os.take ds.length))) H4;rw[tZ ao];erw[this]
end
end _a
set_option maxHeartbeats 4000000
namespace _a
open PySem PySem.Spec PyProof.Rows _L _b _l _C _P _W _R
open _O (topR cornO mnO betR atO ownF leadF ownL OkI OkIs Itm)
open _T (numS numIn? Free)
section
theorem mZ{c:Nat}{a b:Str}:c∈(a++b).cps.toList↔c∈a.cps.toList\/c∈b.cps.toList:=by rw[rA,oo,gy]
theorem a4u(h:c≠45)(h1:c<48)(h2:c≠32):Free c (fj ns):=IS (iR (by rw[show(" ":Str).cps.toList=[32] by decide+kernel];simp;erw[λe=>h2 e.symm])) _ λa ha=>by let(i,_,rfl):=cJ.mp ha;erw[_T.kQ h h1]
theorem a92:Free 10 (gR p q):=by
 unfold gR;split
 ·erw[_T.kQ aw aw]
 ·erw[nK (nK (_T.kQ aw aw) (iR aG)) (_T.kQ aw aw)]
def B0(e:ah):Prop:=Free 10 (gu e)/\32∈(gu e).cps.toList
theorem One.ef{D:Nat}(g:RG M D S)(o:One M S e S1):B0 e:=by have ok:=g.ok;have aA:=g.aA;cases o with |@line ns sp eo nh=>have ez:gu (my M S ns sp)="step "++fj (gd ns S.dn)++" "++numS (me M.t (mr M S ns sp))++" "++gR (mr M S ns sp).num ((mr M S ns sp).den:Int):=Ah _ _ _ _;unfold B0;rw[ez];erw[nK (nK (nK (nK (nK (iR aG) (a4u aw aw aw)) (iR aG)) (_T.kQ aw aw)) (iR aG)) a92,?_];erw[mZ.mpr (.inl (mZ.mpr (.inl (mZ.mpr (.inl (mZ.mpr (.inl (mZ.mpr (.inl aG)))))))))] |@fF _ eo ed nh=>
 let(o,eC,it):=ok.item ed;rw[eo]at eC;cases eC;have tx:=ok.tx aA e (fz ed);have nl:∀ns sp,e≠eF ns sp:=λns sp ee=>by
  rcases it.it with⟨_,_,_,z⟩|⟨w,x,e2,hw,_⟩
  ·cases z
  ·rw[e2]at ee
   erw[yF (show nZ w from hw) #[ns,sp,ee]]
 unfold B0;rw[Ai tx.ti nl];erw[tx.fr,?_];rcases tx.ti with⟨ns,sp,ee,_⟩|⟨w,i,ee,hw,_⟩|⟨w,z,ee,hw,_⟩
 ·exact(nl ns sp ee).elim
 ·subst ee
  erw[mZ.mpr (.inl (mZ.mpr (.inr aG)))]
 ·subst ee
  erw[mZ.mpr (.inl (mZ.mpr (.inr aG)))]
theorem RG.run{D:Nat}(g:RG M D S)(r:Run M S es S1):RG M D S1:=#[r.ok g.ok g.aA,g.aA,r.sd g.ok g.aA g.sd,r.Gv g.ok g.aA g.on,g.hD]
theorem Run.ef{D:Nat}(r:Run M S es S1):RG M D S->∀e∈es,B0 e:=by induction r with |nil=>erw[λ_ e he=>nomatch he] |cons o r ih=>
 intro g e he;rcases cM.mp he with rfl|he
 ·erw[o.ef g]
 ·erw[ih (g.run (.cons o (.nil _))) e he]
theorem aaJ:qM []="none":=by decide+kernel
theorem aaI(h:∀e∈es,B0 e)(cD:es≠[]):¬qM es="none"/\Txt.split (qM es) "\n"=es.map gu:=by
 have sp:32∈(Txt.join "\n" (es.map gu)).cps.toList:=by cases es with |nil=>exact(cD Z).elim |cons e es=>have h0:=(h e (.head _)).2;cases es with |nil=>erw[h0] |cons e2 es2=>rw[rE,xq _ _ _ (by simp)];erw[mZ.mpr (.inl (mZ.mpr (.inl h0)))]
 have e1:qM es=Txt.join "\n" (es.map gu):=by unfold qM kv;rw[bc];intro e;rw[e]at sp;revert sp;decide+kernel
 rw[e1];erw[λe=>?_,?_]
 ·rw[e]at sp
  revert sp;decide+kernel
 ·rw[a4T]
  erw[_T.BX (by simpa using cD) λz hz=>?_];let(e,he,rfl):=cJ.mp hz;exact(h e he).1
theorem Z9(n:Int):("steps ":Str)++numS n=kD.txt (.steps n):=by show _="steps"++" "++numS n;rw[show("steps ":Str)="steps"++" " by decide+kernel]
theorem a69{os:List Itm}{i:Nat}(h:os[i]? =some o):j9 (os.take (i+1))=j9 (os.take i)+uY o:=by rw[lF,h,zN];rfl
theorem Tj(os:List Itm)(i:Nat):j9 (os.take i)<=j9 os:=by have:=zN (os.take i) (os.drop i);rw[List.take_append_drop]at this;omega
theorem BP{r f j ti rate:Int}{ds:List ah}{os:List Itm}(hl:ds.length=os.length):∀i,i<=os.length->(fC r f j ti rate ds os i).length<=j9 (os.take i)+i
 |0,_=>eX _ |i+1,hi=>by
  have ih:=BP (r:=r) (f:=f) (j:=j) (ti:=ti) (rate:=rate) hl i aL;obtain⟨o,eo⟩:∃o,os[i]? =some o:=#[_,bL (show i<os.length by omega)];obtain⟨d,ed⟩:∃d,ds[i]? =some d:=#[_,bL (show i<ds.length by omega)];have h:(fC r f j ti rate ds os (i+1)).length=(fC r f j ti rate ds os i).length+(fR r f j ti rate ds os i).length:=by show(fC r f j ti rate ds os i++fR r f j ti rate ds os i).length=_;rw[cv]
  rw[h,a69 eo];cases o with |none=>rw[xF eo ed];show _+1<=_;omega |some q=>
   let(ns,sp):=q;have:(fR r f j ti rate ds os i).length=aE ns:=by rw[tF eo,j8,aW,iy]
   rw[this];show _<=_+aE ns+(i+1);omega
theorem Y0{rate:Int}{ds:List ah}{os:List Itm}(hl:ds.length=os.length)(l12:ds.length<=12)(ld:j9 os<=120){i k:Nat}(hi:i<=os.length):(upTo M rate ds os i k).length<=133:=by
 unfold upTo;rw[cv];have h4:=List.length_take_le' k (fR M.r M.f M.j M.t rate ds os i);rcases Kr i os.length with c|c
 ·have h2:=BP (r:=M.r) (f:=M.f) (j:=M.j) (ti:=M.t) (rate:=rate) hl (i+1) aL
  have h3:(fC M.r M.f M.j M.t rate ds os (i+1)).length=(fC M.r M.f M.j M.t rate ds os i).length+(fR M.r M.f M.j M.t rate ds os i).length:=by show(fC M.r M.f M.j M.t rate ds os i++fR M.r M.f M.j M.t rate ds os i).length=_;rw[cv]
  have:=Tj os (i+1);omega
 ·have h2:=BP (r:=M.r) (f:=M.f) (j:=M.j) (ti:=M.t) (rate:=rate) hl i hi
  have h5:(fR M.r M.f M.j M.t rate ds os i).length=1:=by unfold fR;rw[og c];rfl
  have:=Tj os i;omega
inductive aen(C:Addr)(D:Addr)(vs:List V)(H:Hp)(Q:VK):Prop |mk (H0:_)(p:_)(a:_)(r:_)(q0:_)(q:_)(M:_)(D':_)(S:_)(pl:_)(ds:_)(os:_)(h0:vs=[.ref p,.ref a])(h1:DW C D H0 M p a r q0 H q S)(h2:RG M D' S)(h3:Inv1 M S.rate pl ds os 0 0 S)(h4:cU M.rs.length ds os)(h5:ds.length<=12)(h6:j9 os<=120)(h7:∀l q' S' H',H l=none->H' l=some (.lst (((fC M.r M.f M.j M.t S.rate ds os os.length).map gu).map V.str))->DW C D H M p a r q H' q' S'->RG M D' S'->Inv1 M S.rate pl ds os os.length 0 S'->Run M S (fC M.r M.f M.j M.t S.rate ds os os.length) S'->cQ H H'->Q (.ref l) H')
def M5(C D:Addr):Sp:=λvs H Q _=>aen C D vs H Q
theorem NO:bf ["_law_bag_here","_law_desk","_law_found","_law_turn","_law_told"] ["_law_bag_here","_law_desk"] (aQ PY):=bo aG
theorem a4j(AA:All w K mg)(RR:fJ K mg C D)(vk:dA P w K mg ay D "say" 14 (BZ C D)):bj P w K mg ay "_law_all_told" 15 (M5 C D):=by
 exists AA.aaw.has,NO,eD λ_ _=>rfl
 ·let(H0,p,a,r,q0,q,M,D',S,pl,ds,os,rfl,T0,g,inv,row,l12,ld,k):=h
  have nd:=NO.nd;have T:=T0.Qr;have iQ:sizeLine=16777216:=by decide
  erw[_,(az (pS 2 nd (dj au)) (az (gW fS Z (sx Z (AA.B.at "range") (ak aB au)) (aR 3 nd) (az (pS 4 nd (ko vk RR.td.cl (hr.mono aw) (pv 1) (ak (aM jn bR (dF (x:="str") jV Z (AA.B.at "str") jC (ak (px K (dj (ak (aM dR aB (pf (fX AA) hr (ak (pv 0) (ak aB au)))) (ak (aM dR aB (pf (fX AA) hr (ak (pv 0) (ak aB au)))) au))) (pf (fX AA) hr (ak (pv 0) (ak aB au)))) au))) au))) (az (bI (bX wV (pv 4) bR (bQ _)) (aH (aO (pv 2))) bP) (aH (fP (zi K Z (pv 2) (ak (Gm K Z (pv 4) (ak bR au)) au))))))) (aH (aO (pv 2))))),?_];erw[cy Z,λl H1 n1=>?_];have T1:=T.same g.ok.row.no n1.same;have lq:l≠q:=λz=>by let(ys,eq,_):=T0.x.qu;rw[<-z,n1.no]at eq;cases eq
  have lp:l≠p:=λz=>T0.bg.ne (z▸n1.no);have lr:l≠r:=λz=>by let(rx,mv,bv,cI,tv,er,_):=T0.x.ob;rw[<-z,n1.no]at er;cases er
  have fin:∀{es:List ah}{S3:bp}{q3:Addr}{H3:Hp},Run M S es S3->S3.os=[]->DW C D H M p a r q H3 q3 S3->RG M D' S3->cQ H H3->H3 l=some (.lst ((es.map gu).map V.str))->Q (.ref l) H3:=λ{es S3 q3 H3} run kU T3 g3 v3 dl=>by let(i,kk,zR,e3):=Qc (D:=D') g.aA row run inv;let(hi,hk,e4):=a6z zR kU;subst hi hk;have e0:upTo M S.rate ds os 0 0=[]:=rfl;rw[e0,Er,e4]at e3;subst e3;erw[k l q3 S3 H3 n1.no dl T3 g3 zR run v3]
  have CU:∀{es:List ah}{S3:bp},Run M S es S3->es.length<=133/\S3.bG=none:=λ{es S3} run=>by let(i,kk,zR,e3):=Qc (D:=D') g.aA row run inv;have e0:upTo M S.rate ds os 0 0=[]:=rfl;rw[e0,Er]at e3;rw[<-e3];erw[Y0 row.len l12 ld zR.il,zR.Dz]
  erw[300,Z,aw,aw,xC (Pv:=λi O H3=>∃es S3 q3 v3 v4,O=[some (.ref p),some (.ref a),some (.ref l),v3,v4]/\DW C D H M p a r q H3 q3 S3/\RG M D' S3/\Run M S es S3/\H3 l=some (.lst ((es.map gu).map V.str))/\l≠q3/\i<=es.length/\cQ H H3) ?_ ?_ ?_]
  ·erw[[],S,q,none,none,Z,T1,g,.nil _,n1.at',lq,aV _,n1.same.v]
  ·rintro i O H3 hi ⟨es,S3,q3,v3,v4,rfl,T3,g3,run,dl,Hm,mG,v⟩
   erw[iC ?_];intro E1;let(afZ,afz):=CU run;have no3:=g3.ok.row.no;let(dx,mv,ea,uA):=id T3.dk;erw[_,Z,a,dx,_,Z,ea,Z,?_];erw[_,Z,p,100,Z,T3.bg,aw,aw,λt1 H4 ES ER b4=>#[_,_,Z,Z,?_]];erw[_,Z,p,5,Z,b4.bU,aw,aw,λt2 H5 t20 t21 b5=>#[_,_,Z,Z,?_]];erw[cy Z,λc H6 n6=>?_];have We:=(b4.trans b5).trans (.fi b5.bU n6.same);have cp:c≠p:=λz=>(b4.trans b5).bU.ne (z▸n6.no);erw[_,Z,p,2,Z,We.bU,aw,aw,λix H7 i0 i1 b7=>?_];have JL:=We.trans b7;obtain⟨n,en,hn1,p4⟩:∃n:Int,fb [V.int (1+t1),V.int (1+t2)] ix=some (.int n)/\1<=n/\n<=100:=by
    rcases(show ix=0\/ix=1 by omega)with rfl|rfl
    ·erw[_,Z,aL,aL]
    ·erw[_,Z,aL,aL]
   have nm:Nm n:=by show n.natAbs<10^40;omega
   have e6:Str.length "steps "=6:=by decide+kernel
   have a4V:=fY nm;have T7:=T3.draw no3 JL;have pC:=JL.same _ _ lp dl;have v7:=v.trans (bN.t T3.bg JL).v;erw[.inl #[c,_,_,_,Z,Z,aD.of (b7.same _ _ cp n6.at'),en,.inl #[n,Z,ng nm,_,_,Z,Z,by show Str.length "steps "+(numS n).length<=_;omega,?_]]];erw[a,r,q3,M,D',S3,.steps n,lC (λz=>[V.ref a,V.str z]) (Z9 n),T7.dk,T7.x,g3,aL,p4,λjz S' q' H8 run' he nG R8 Hb=>?_];have ef:=run'.ef g3;have g8:=g3.run run';have T8:=T7.mv Hb R8;have r8:=run.trans run';have lY:=Hb.but _ _ pC (CB lr Hm);have SN:l≠q':=λz=>by
    rcases Hb.nq with e|e
    ·erw[Hm (by rw[z,e])]
    ·rw[<-z,pC]at e;cases e
   have v8:=v7.trans T8.2;erw[_,Z,Z,_,Z,?_];by_cases cD:jz=[]
   ·subst cD
    rw[aaJ,cj rfl];have Z6:=(CU r8).2;have kU:S'.os=[]:=by
     rcases nG with z|z|z
     ·simp at z;omega
     ·erw[z]
     ·erw[absurd Z6 z.1]
    rw[om]at r8;erw[bM #[_,Z,fin r8 kU T8.1 g8 v8 lY]]
   ·let(x1,x2):=aaI ef cD
    rw[dE (λz=>x1 (by injection z))];have te:=run'.yG g3.ok g3.aA g3.hD;have hj:=CZ "\n" (B:=2000) (jz.map gu) (λz hz=>by let(d,hd,rfl):=cJ.mp hz;erw[Ji (te d hd)]);have xh:Str.length "\n"=1:=by decide+kernel
    rw[xh,aW]at hj;have qC:jz.length*(2000+1)<=100*2001:=Kq _ aL;have hl:(qM jz).length<=300000:=by
     unfold qM kv;split
     ·have:Str.length "none"=4:=by decide+kernel
      omega
     ·omega
    have l8:=(CU r8).1;erw[aP #[_,Z,.inl #[Z,_,aD.of lY],_,Z,Z,_,"\n",Z,Z,aG,aL,λl2 H9 n9=>?_]];rw[x2]at n9;have qP:=n9.same _ _ lY;have ne9:l2≠l:=λz=>by have:=n9.no;rw[z,lY]at this;cases this
    have le:((es++jz).map gu).length<=133:=by rw[aW];erw[l8]
    erw[l,l2,_,_,Z,Z,qP,n9.at',by rw[aW,aW,aW,aW];rw[aW,cv]at le;omega,?_];have T9:=T8.1.same g8.ok.row.no n9.same;erw[es++jz,S',q',_,_,Z,T9.put g8.ok.row.no n1.no lp lr SN qP,g8,r8,?_,SN,?_,v8.trans (n9.same.v.trans (.upd qP trivial))]
    ·rw[bZ,fT,fT]
    ·rw[cv]
     have:0<jz.length:=Bl.mpr cD;omega
  ·rintro O H3 ⟨es,S3,q3,v3,v4,rfl,T3,g3,run,dl,Hm,mG,v⟩
   have:=(CU run).1;have agr:300<=es.length:=mG;omega
end
end _a
set_option maxHeartbeats 2000000
namespace _a
open PySem PySem.Spec PyProof.Rows _L _b _l _C _P _W _R
open _O (topR cornO mnO betR atO ownF leadF ownL OkI OkIs)
section
def FH(zs:List Int):ah:=.tuple (zs.map PyData.int)
def fD(os:List Itm)(i:Nat):List ah:=match os[i]? with |some (some (ns,_))=>(List.range (aE ns)).map λk=>.tuple [.int i,FH (gd ns k)] |_=>[.tuple [.int i,.none]]
def dH(os:List Itm):Nat->List ah |0=>[] |i+1=>dH os i++fD os i
theorem qO{os:List Itm}{i:Nat}{ns:List Int}{sp:Int}(h:os[i]? =some (some (ns,sp))):fD os i=(List.range (aE ns)).map λk=>.tuple [.int i,FH (gd ns k)]:=by unfold fD;rw[h]
theorem vD{os:List Itm}{i:Nat}(h:os[i]? =some none):fD os i=[.tuple [.int i,.none]]:=by unfold fD;rw[h]
theorem DG{n:Nat}{rate:Int}{ds:List ah}{os:List Itm}(row:cU n ds os):∀i,i<=os.length->(dH os i).length=(ij rate ds os i).length |0,_=>rfl |i+1,h=>by have ll:=row.len;show(dH os i++fD os i).length=(ij rate ds os i++jT rate ds os i).length;rw[cv,cv,DG row i ao];obtain⟨o,eo⟩:∃o,os[i]? =some o:=#[_,bL (show i<os.length by lia)];cases o with |none=>obtain⟨d',ed⟩:∃d',ds[i]? =some d':=#[_,bL (show i<ds.length by lia)];rw[Am eo ed,vD eo];rfl |some q=>let(ns,sp):=q;rw[vB eo,qO eo,aW,aW]
theorem Vq{n:Nat}{ds:List ah}{os:List Itm}(row:cU n ds os){i:Nat}(hi:i<os.length):1<=(fD os i).length:=by obtain⟨o,eo⟩:∃o,os[i]? =some o:=#[_,bL hi];cases o with |none=>rw[vD eo];erw[aV _] |some q=>let(ns,sp):=q;let(bW,_,_):=row.ok i ns sp eo;have:=bW.lead;rw[qO eo,aW,iy];lia
theorem DH(os:List Itm){i k:Nat}(h:i<=k):(dH os i).length<=(dH os k).length:=by induction h with |refl=>erw[aV _] |step _ ih=>erw[iG ih ?_];show _<=(dH os _++fD os _).length;rw[cv];lia
theorem Vl{n0:Nat}{j rate:Int}{ds:List ah}{os:List Itm}(row:cU n0 ds os):∀n,n<=os.length->∀k,k<(dH os n).length->∃i c,i<n/\k=(dH os i).length+c/\c<(fD os i).length/\(dH os n)[k]? =(fD os i)[c]? /\(ij rate ds os n)[k]? =(jT rate ds os i)[c]? /\(la j rate os n)[k]? =(m5 j rate os i)[c]?
 |0,_,k,h=>by simp[dH]at h |n+1,hn,k,h=>by
  have l1:=DG (rate:=rate) row n ao;have l2:=qS (j:=j) (rate:=rate) row n ao;by_cases hk:k<(dH os n).length
  ·let(i,c,a1,a2,a3,a4,a5,a6):=Vl (j:=j) (rate:=rate) row n ao k hk
   erw[i,c,ao,a2,a3,?_,?_,?_]
   ·rw[<-a4];erw[oj hk]
   ·rw[<-a5];erw[oj ao]
   ·rw[<-a6];erw[oj ao]
  ·have h':k<(dH os n++fD os n).length:=h
   rw[cv]at h';erw[n,k-(dH os n).length,ao,ao,ao,?_,?_,?_]
   ·erw[oh ao]
   ·rw[l1];erw[oh ao]
   ·rw[l1,<-l2];erw[oh ao]
structure At(j rate:Int)(ds:List ah)(os:List Itm)(k i c:Nat):Prop where
 hi:i<os.length
 ek:k=(dH os i).length+c
 hc:c<(fD os i).length
 dl:(dH os os.length)[k]? =(fD os i)[c]?
 du:(ij rate ds os os.length)[k]? =(jT rate ds os i)[c]?
 bd:(nS j rate os)[k]? =(m5 j rate os i)[c]?
theorem JP{n0:Nat}{j rate:Int}{ds:List ah}{os:List Itm}(row:cU n0 ds os){k:Nat}(h:k<(dH os os.length).length):∃i c,At j rate ds os k i c:=by let(i,c,a1,a2,a3,a4,a5,a6):=Vl (j:=j) (rate:=rate) row _ (aV _) k h;erw[i,c,a1,a2,a3,a4,a5,?_];rw[<-a6];erw[oj ?_];rw[qS (ds:=ds) row _ (aV _),<-DG row _ (aV _)];erw[h]
theorem At.prev{n0:Nat}{j rate:Int}{ds:List ah}{os:List Itm}(row:cU n0 ds os){k i c i' c':Nat}(h:At j rate ds os (k+1) i c)(g:At j rate ds os k i' c'):(i'=i/\0<c)\/(i'+1=i/\c=0):=by
 have e1:=h.ek;have e2:=g.ek;have b1:=h.hc;have b2:=g.hc;have step:∀x,(dH os (x+1)).length=(dH os x).length+(fD os x).length:=λx=>by show(dH os x++fD os x).length=_;rw[cv]
 rcases Nat.lt_trichotomy i' i with ck|heq|hgt
 ·by_cases hs:i'+1=i
  ·subst hs
   rw[step]at e1;erw[.inr #[Z,ao]]
  ·have m1:=DH os (show i'+2<=i by lia)
   have s1:=step i';have s2:=step (i'+1);have ne:=Vq row (show i'+1<os.length by have:=h.hi;lia);rw[show i'+2=i'+1+1 from Z,s2,s1]at m1
   lia
 ·subst heq
  erw[.inl #[Z,ao]]
 ·have m1:=DH os (show i+1<=i' by lia)
  rw[step]at m1
  lia
theorem Gp(j rate:Int)(os:List Itm):ownF j rate os os.length=0:=by cases h:os.length with |zero=>rfl |succ n=>show betR j rate (atO os n) (atO os (n+1))=0;rw[_O.Wi (i:=n+1) ao,_O.vL]
theorem W8{j rate:Int}{os:List Itm}{i:Nat}(hi:i<os.length):(m5 j rate os i)[0]? =some (ownF j rate os i):=by obtain⟨o,eo⟩:∃o,os[i]? =some o:=#[_,bL hi];cases o with |none=>rw[DQ eo];rfl |some q=>let(ns,sp):=q;rw[AD eo];rfl
theorem ac4{j rate:Int}{os:List Itm}{i c:Nat}{ns:List Int}{sp:Int}(eo:os[i]? =some (some (ns,sp)))(h0:0<c)(hc:c<aE ns):(m5 j rate os i)[c]? =some (topR rate sp):=by rw[AD eo];obtain⟨c',rfl⟩:∃c',c=c'+1:=#[c-1,ao];rw[List.getElem?_cons_succ,List.getElem?_replicate,ba ao]
theorem Hg{r f:Int}{b x:Rat}(x0:0<=x)(xb:x<=b)(he:∀q,e=some q->q<=x+(f:Rat)/\x<=q+(r:Rat))(hg:∀q,g=some q->q<=x+(r:Rat)/\x<=q+(f:Rat)):CI r f b e g=true:=by
 have sub:∀{a c:Rat}{z:Int},a<=c+(z:Rat)->a+((-z:Int):Rat)<=c:=λ{a c z} h=>by have:=Rat.add_le_add_right (c:=((-z:Int):Rat))|>.mpr h;rw[Rat.add_assoc,<-Bb,Int.add_right_neg]at this;have z0:c+((0:Int):Rat)=c:=Bc _;rw[z0]at this;erw[this]
 unfold CI;rw[Bs,EA];intro h;let(l,hl,h):=yo.mp h;let(u,hu,h):=yo.mp h;have h:=kF h;have l1:l<=x:=by
  rcases gy.mp hl with hl|hl
  ·rcases cM.mp hl with rfl|hl
   ·erw[x0]
   ·let(q,hq,rfl):=cJ.mp hl
    erw[sub (he q (Kp.mp hq)).1]
  ·let(q,hq,rfl):=cJ.mp hl
   erw[sub (hg q (Kp.mp hq)).1]
 have u1:x<=u:=by
  rcases gy.mp hu with hu|hu
  ·rcases cM.mp hu with rfl|hu
   ·erw[xb]
   ·let(q,hq,rfl):=cJ.mp hu
    exact(he q (Kp.mp hq)).2
  ·let(q,hq,rfl):=cJ.mp hu
   exact(hg q (Kp.mp hq)).2
 erw[Ej.mpr (cL l1 u1) h]
theorem ac5{n0:Nat}{j rate:Int}{ds:List ah}{os:List Itm}(row:cU n0 ds os):(nS j rate os)[(ij rate ds os os.length).length]? =some 0:=by unfold nS;rw[oh (by rw[qS (ds:=ds) row _ (aV _)];erw[aV _]),qS (ds:=ds) row _ (aV _),Bg,Gp];rfl
theorem At.kind{n0:Nat}{j rate:Int}{ds:List ah}{os:List Itm}(row:cU n0 ds os){k i c:Nat}(a:At j rate ds os k i c): (os[i]? =some none/\c=0/\(dH os os.length)[k]? =some (.tuple [.int i,.none])/\∃d,ds[i]? =some d/\itR d none/\(ij rate ds os os.length)[k]? =some d)\/ ∃ns sp,os[i]? =some (some (ns,sp))/\c<aE ns/\(dH os os.length)[k]? =some (.tuple [.int i,FH (gd ns c)])/\(ij rate ds os os.length)[k]? =some (vC (gd ns c) (topR rate sp)):=by have ll:=row.len;obtain⟨o,eo⟩:∃o,os[i]? =some o:=#[_,bL a.hi];have hc:=a.hc;cases o with
 |none=>
  obtain⟨d',ed⟩:∃d',ds[i]? =some d':=#[_,bL (show i<ds.length by have:=a.hi;lia)];rw[vD eo]at hc;have h0:c=0:=by simpa using hc
  subst h0;have e1:=a.dl;rw[vD eo]at e1;have e2:=a.du;rw[Am eo ed]at e2;erw[.inl #[eo,Z,e1,d',ed,row.it i d' none ed eo,e2]] |some p=>let(ns,sp):=p;rw[qO eo,aW,iy]at hc;have e1:=a.dl;rw[qO eo,bO,mQ hc]at e1;have e2:=a.du;rw[vB eo,bO,mQ hc]at e2;erw[.inr #[ns,sp,eo,hc,e1,e2]]
theorem a61(r f ti:Int)(ns:List Int)(top b e:Rat):(j8 r f ti ns top b e).length=aE ns:=by rw[j8,aW,iy]
theorem a62{top:Rat}(h:k<aE ns):(j8 r f ti ns top b e)[k]? =some (mU ti (gd ns k) (gP r f (aE ns) top b e k)):=by rw[j8,bO,mQ h];rfl
def vJ{α:Type}(I:Nat->List α):Nat->List α |0=>[] |i+1=>vJ I i++I i
theorem Az{α:Type}{I:Nat->List α}{os:List Itm}(hl:∀i,i<os.length->(I i).length=(fD os i).length):∀n,n<=os.length->(vJ I n).length=(dH os n).length |0,_=>rfl |n+1,hn=>by show(vJ I n++I n).length=(dH os n++fD os n).length;rw[cv,cv,Az hl n ao,hl n ao]
theorem JD{α:Type}{I:Nat->List α}{os:List Itm}(hl:∀i,i<os.length->(I i).length=(fD os i).length){i c:Nat}(hc:c<(fD os i).length):∀n,i<n->n<=os.length->(vJ I n)[(dH os i).length+c]? =(I i)[c]?
 |0,h,_=>by lia |n+1,h,hn=>by
  show(vJ I n++I n)[_]? =_;have l:=Az hl n ao;by_cases e:i=n
  ·subst e
   rw[oh ao,l,Nat.add_sub_cancel_left]
  ·have m:=DH os (show i+1<=n by lia)
   have:(dH os (i+1)).length=(dH os i).length+(fD os i).length:=by show(dH os i++fD os i).length=_;rw[cv]
   rw[oj ao];erw[JD hl hc n ao ao]
def jA(r f:Int)(ld:Nat)(top b e:Rat)(c:Nat):Rat:=mn (mn (b+((2*r*(c:Int):Int):Rat)) top) (e+((2*f*((ld:Int)-(c:Int)):Int):Rat))
theorem abS{r f:Int}{ld:Nat}{top b e:Rat}(h1:b<=top)(h2:b<=e+((2*f*(ld:Int):Int):Rat)):jA r f ld top b e 0=b:=by
 unfold jA;have z:b+((2*r*((0:Nat):Int):Int):Rat)=b:=by rw[show(2*r*((0:Nat):Int):Int)=0 by simp];erw[Bc _]
 rw[z,show(ld:Int)-((0:Nat):Int)=ld by simp];erw[rn (cL (eZ _ _) (eZ _ _)) (gE (gE iE h1) h2)]
theorem abV{r f:Int}{ld:Nat}{top b e:Rat}(h1:e<=top)(h2:e<=b+((2*r*(ld:Int):Int):Rat)):jA r f ld top b e ld=e:=by
 unfold jA;have z:e+((2*f*((ld:Int)-(ld:Int)):Int):Rat)=e:=by rw[Int.sub_self,Int.mul_zero];erw[Bc _]
 rw[z];erw[rn (gN _ _) (gE (gE h2 h1) iE)]
theorem VY{r f:Int}{ld k:Nat}{top b e:Rat}(hr:0<=r)(hf:0<=f): (gP r f ld top b e k<=jA r f ld top b e k+(r:Rat)/\jA r f ld top b e k<=gP r f ld top b e k+(f:Rat))/\(gP r f ld top b e k<=jA r f ld top b e (k+1)+(f:Rat)/\jA r f ld top b e (k+1)<=gP r f ld top b e k+(r:Rat)):=by
 have ny:(0:Rat)<=(r:Rat):=Ba.mpr hr;have hf':(0:Rat)<=(f:Rat):=Ba.mpr hf;have e1:r*(2*(1+(k:Int))-1)=2*r*k+r:=by grind
 have e2:f*(2*((ld:Int)-(1+(k:Int)))+1)=2*f*((ld:Int)-k)-f:=by grind
 have e3:2*r*((k+1:Nat):Int)=2*r*k+2*r:=by grind
 have e4:2*f*((ld:Int)-((k+1:Nat):Int))=2*f*((ld:Int)-k)-2*f:=by grind
 unfold gP jA;rw[e1,e2,e3,e4];generalize 2*r*(k:Int)=x;generalize 2*f*((ld:Int)-k)=y;simp only[Bb,Rat.intCast_sub,Ki];have t2:((2:Int):Rat)=2:=rfl;rw[t2];generalize(r:Rat)=R at*;generalize(f:Rat)=F at*;generalize(x:Rat)=X;generalize(y:Rat)=Y;unfold mn;erw[#[?_,?_],?_,?_]<;>grind
theorem abT{r f:Int}{ld c:Nat}{top b e:Rat}(hr:0<=r)(hf:0<=f)(hc:c<=ld)(ht:0<=top)(hb:0<=b)(he:0<=e):0<=jA r f ld top b e c:=by
 have nn:∀{z:Int}{x:Rat},0<=x->0<=z->0<=x+(z:Rat):=λ{z x} hx hz=>by have:(0:Rat)<=(z:Rat):=Ba.mpr hz;grind
 erw[gE (gE (nn hb (gT ao ao)) ht) (nn he (gT ao ao))]
theorem a5j{r f:Int}{ld k:Nat}{top b e:Rat}:gP r f ld top b e k<=top:=cL (eZ _ _) (gN _ _)
theorem abU{r f:Int}{ld k:Nat}{top b e:Rat}:jA r f ld top b e k<=top:=cL (eZ _ _) (gN _ _)
section
variable {r f j ti rt':Int}{ds:List ah}{os:List Itm}
noncomputable def uq(r f j rt':Int)(os:List Itm)(i:Nat):List (Option Rat):=match os[i]? with |some (some (ns,sp))=>(List.range (aE ns)).map λk=>some (gP r f (aE ns) (topR rt' sp) (cH r f j rt' os i) (cH r f j rt' os (i+1)) k) |_=>[none]
noncomputable def pM(r f j rt':Int)(os:List Itm)(i c:Nat):Rat:=match os[i]? with |some (some (ns,sp))=>jA r f (aE ns) (topR rt' sp) (cH r f j rt' os i) (cH r f j rt' os (i+1)) c |_=>cH r f j rt' os i
noncomputable def rZ(r f j rt':Int)(os:List Itm)(k:Nat):Option Rat:=((vJ (uq r f j rt' os) os.length)[k]?).getD none
theorem BW{i:Nat}{ns:List Int}{sp:Int}(h:os[i]? =some (some (ns,sp))):uq r f j rt' os i=(List.range (aE ns)).map λk=>some (gP r f (aE ns) (topR rt' sp) (cH r f j rt' os i) (cH r f j rt' os (i+1)) k):=by unfold uq;rw[h]
theorem BV{i:Nat}(h:os[i]? =some none):uq r f j rt' os i=[none]:=by unfold uq;rw[h]
theorem wq{i c:Nat}{ns:List Int}{sp:Int}(h:os[i]? =some (some (ns,sp))):pM r f j rt' os i c=jA r f (aE ns) (topR rt' sp) (cH r f j rt' os i) (cH r f j rt' os (i+1)) c:=by unfold pM;rw[h]
theorem EC{i c:Nat}(h:os[i]? =some none):pM r f j rt' os i c=cH r f j rt' os i:=by unfold pM;rw[h]
theorem F6(hi:i<os.length):(uq r f j rt' os i).length=(fD os i).length:=by obtain⟨o,eo⟩:∃o,os[i]? =some o:=#[_,bL hi];cases o with |none=>rw[BV eo,vD eo];rfl |some q=>let(ns,sp):=q;rw[BW eo,qO eo,aW,aW]
theorem V6(hi:i<os.length):(fR r f j ti rt' ds os i).length=(fD os i).length:=by obtain⟨o,eo⟩:∃o,os[i]? =some o:=#[_,bL hi];cases o with |none=>unfold fR;rw[eo,vD eo];rfl |some q=>let(ns,sp):=q;rw[tF eo,qO eo,a61,aW,iy]
theorem EM:∀n,fC r f j ti rt' ds os n=vJ (fR r f j ti rt' ds os) n |0=>rfl |n+1=>by show _++_=_++_;rw[EM n]
theorem F5(hi:i<os.length)(hc:c<(fD os i).length):rZ r f j rt' os ((dH os i).length+c)=((uq r f j rt' os i)[c]?).getD none:=by unfold rZ;rw[JD (λi hi=>F6 hi) hc _ hi (aV _)]
end
theorem a2m{t:Int}(rate:Int)(os:List Itm)(aA:gH rs r f j t):Keeps os.length (ownF j rate os) (leadF os) (2*r) (2*f) (cH r f j rate os):=QH (by have:=aA.r1;lia) (by have:=aA.f1;lia)
theorem Ti{os:List Itm}{i:Nat}{ns:List Int}{sp:Int}(h:os[i]? =some (some (ns,sp))):leadF os i=some (aE ns):=by unfold leadF;rw[_O.nU h];rfl
theorem Ys{rs:List Int}{r f j ti rate rt':Int}{ds:List ah}{os:List Itm}(aA:gH rs r f j ti)(row:cU rs.length ds os)(pV:RowW ds os)(hz:ds.length<=30)(h1:10<=rt')(h2:rt'<=rate)(h3:rate<=200):Ww r f j ti rate ds os (fC r f j ti rt' ds os os.length) (rZ r f j rt' os):=by
 have ll:=row.len;have r1:=aA.r1;have f1:=aA.f1;have kp:=a2m rt' os aA;have nn:∀i,i<=os.length->0<=cH r f j rt' os i:=C9 ao ao λi _=>_O.zk j rt' os i;have W7:=wO aA row hz h1 (show rt'<=200 by lia);have Ju:=DG (rate:=rate) row _ (aV os.length);have tl:(fC r f j ti rt' ds os os.length).length=(dH os os.length).length:=by rw[EM];erw[Az (λi hi=>V6 hi) _ (aV _)]
 have te:∀{i c:Nat},i<os.length->c<(fD os i).length->(fC r f j ti rt' ds os os.length)[(dH os i).length+c]? =(fR r f j ti rt' ds os i)[c]?:=λhi hc=>by rw[EM];erw[JD (λi hi=>V6 hi) hc _ hi (aV _)]
 have ln:∀{i:Nat}{ns:List Int}{sp:Int},os[i]? =some (some (ns,sp))->jA r f (aE ns) (topR rt' sp) (cH r f j rt' os i) (cH r f j rt' os (i+1)) 0=cH r f j rt' os i/\jA r f (aE ns) (topR rt' sp) (cH r f j rt' os i) (cH r f j rt' os (i+1)) (aE ns)=cH r f j rt' os (i+1):=λ{i ns sp} eo=>by have hi:=(cK.mp eo).1;erw[abS (cL (kp.own i ao) (QY eo)) (kp.IZ i _ hi (Ti eo)),abV (cL (kp.own (i+1) ao) (QZ eo)) (kp.rise i _ hi (Ti eo))]
 have dS:∀i,(dH os (i+1)).length=(dH os i).length+(fD os i).length:=λi=>by show(dH os i++fD os i).length=_;rw[cv]
 erw[by rw[tl,Ju],λk e du ee xH=>?_,?_,λk b eb=>?_]
 ·have hk:k<(dH os os.length).length:=by rw[<-tl];exact(cK.mp ee).1
  let(i,c,a):=JP (j:=j) (rate:=rate) row hk;have hi:=a.hi;have hc:=a.hc;have ek:=a.ek;subst ek;rw[te hi hc]at ee;rw[F5 hi hc];rcases a.kind row with⟨eo,c0,_,d,ed,itd,Jo⟩|⟨ns,sp,eo,hZ,_,Jo⟩
  ·rw[Jo]at xH
   cases xH;subst c0;rw[BV eo];have:(fR r f j ti rt' ds os i)=[du]:=by unfold fR;rw[eo];simp[ed]
   rw[this]at ee;cases ee;erw[Z,pV i _ eo ed]
  ·rw[Jo]at xH
   cases xH;let(bW,cO,dZ):=row.ok i ns sp eo;rw[tF eo,a62 hZ]at ee;cases ee;rw[BW eo,bO,mQ hZ];have q0:0<gP r f (aE ns) (topR rt' sp) (cH r f j rt' os i) (cH r f j rt' os (i+1)) c:=Sz ao ao hZ (BL cO h1) (nn i ao) (nn (i+1) ao);erw[gd ns c,topR rate sp,Z,Z,cL a5j (_O.BN ao (dc _) ao h2),q0,?_,(_O.pP cO dZ ao h3).mono aw,by unfold gd;rw[aW,bW.len];have:=aA.len;lia];have mz:=qp bW;have Up:=FU r1.1 r1.2 hZ mz;have Uo:=IY f1.1 f1.2 hZ mz;erw[qk (qk ((jW (W7 i ao) (by rw[jK];lia)).mono aw) ((_O.pP cO dZ h1 ao).mono aw)) ((jW (W7 (i+1) ao) (by rw[jK];lia)).mono aw)]
 ·unfold rZ
  rw[og (by rw[Az (λi hi=>F6 hi) _ (aV _),tl];erw[aV _])];rfl
 ·--rM agE
  have Hx:(nS j rate os).length=(dH os os.length).length+1:=by unfold nS;rw[cv,qS (ds:=ds) row _ (aV _),Ju];rfl
  have hk:k<(dH os os.length).length+1:=by rw[<-Hx];exact(cK.mp eb).1
  have ahead:∀(x:Rat),(∀k',k=k'+1->∀i' c',At j rate ds os k' i' c'->∀ns sp,os[i']? =some (some (ns,sp))->c'<aE ns->x=jA r f (aE ns) (topR rt' sp) (cH r f j rt' os i') (cH r f j rt' os (i'+1)) (c'+1))->∀q,uF (rZ r f j rt' os) k=some q->q<=x+(f:Rat)/\x<=q+(r:Rat):=by intro x hx q hq;cases Ue:k with |zero=>rw[Ue]at hq;cases hq |succ k'=>
   subst Ue;have hq:rZ r f j rt' os k'=some q:=hq;let(i',c',a'):=JP (j:=j) (rate:=rate) row (show k'<(dH os os.length).length by lia);have e1:=hx k' Z i' c' a';have ek:=a'.ek;rw[ek,F5 a'.hi a'.hc]at hq;rcases a'.kind row with⟨eo,c0,_⟩|⟨ns,sp,eo,hZ,_⟩
   ·subst c0
    rw[BV eo]at hq;cases hq
   ·rw[BW eo,bO,mQ hZ]at hq
    cases hq;rw[e1 ns sp eo hZ];exact(VY ao ao).2
  by_cases hkn:k=(dH os os.length).length
  ·--rM end
   have e0:(nS j rate os)[k]? =some 0:=by rw[hkn,Ju];erw[ac5 row]
   rw[e0]at eb;cases eb;have sn:rZ r f j rt' os k=none:=by unfold rZ;rw[og (by rw[Az (λi hi=>F6 hi) _ (aV _)];lia)];rfl
   have p0:cH r f j rt' os os.length=0:=rn (by have:=kp.own os.length (aV _);rw[Gp]at this;erw[this]) (nn _ (aV _));erw[Hg (x:=cH r f j rt' os os.length) (by rw[p0];erw[iE]) (by rw[p0];erw[iE]) (ahead _ λk' Ve i' c' a' ns sp eo hZ=>?_) (λq hq=>by rw[sn]at hq;cases hq)];have ek:=a'.ek;have hdl:(fD os i').length=aE ns:=by rw[qO eo,aW,iy]
   have nF:i'+1=os.length:=by
    by_cases h:i'+1=os.length
    ·erw[h]
    ·have ck:i'+1<os.length:=by have:=a'.hi;lia
     have m:=DH os (show i'+1+1<=os.length by lia);have g:=Vq row ck;have d1:=dS i';have d2:=dS (i'+1)
     lia
   have jR:c'+1=aE ns:=by
    have d1:=dS i';rw[nF]at d1
    lia
   rw[jR,(ln eo).2,nF]
  ·let(i,c,a):=JP (j:=j) (rate:=rate) row (show k<(dH os os.length).length by lia)
   have hi:=a.hi;have hc:=a.hc;have ek:=a.ek;have vx:=a.bd;rw[eb]at vx;have zo:cH r f j rt' os i<=ownF j rate os i:=cL (kp.own i ao) (_O.a2Z (by have:=aA.j1;lia) (dc _) ao h2 row.lO i);obtain⟨o,eo⟩:∃o,os[i]? =some o:=#[_,bL hi];have hA:∀k',k=k'+1->∀i' c',At j rate ds os k' i' c'->∀ns sp,os[i']? =some (some (ns,sp))->c'<aE ns->pM r f j rt' os i c=jA r f (aE ns) (topR rt' sp) (cH r f j rt' os i') (cH r f j rt' os (i'+1)) (c'+1):=by
    intro k' Ve i' c' a' ns sp eC hZ;have ek2:=a'.ek;subst Ve;have hdl:(fD os i').length=aE ns:=by rw[qO eC,aW,iy]
    rcases a.prev row a' with⟨rfl,hc0⟩|⟨rfl,rfl⟩
    ·rw[wq eC,show c=c'+1 by lia]
    ·have d1:=dS i'
     rw[show c'+1=aE ns by lia,(ln eC).2];cases o with |none=>erw[EC eo] |some q=>let(ns2,dZ):=q;rw[wq eo,(ln eo).1]
   have yL:=F5 (r:=r) (f:=f) (j:=j) (rt':=rt') hi hc;rw[<-ek]at yL;cases o with |none=>
    have c0:c=0:=by rw[vD eo]at hc;simpa using hc
    subst c0;rw[W8 hi]at vx;cases vx;rw[BV eo]at yL;erw[Hg (x:=pM r f j rt' os i 0) (by rw[EC eo];erw[nn i ao]) (by rw[EC eo];erw[zo]) (ahead _ hA) (λq hq=>by rw[yL]at hq;cases hq)] |some p=>
    let(ns,sp):=p;let(bW,cO,dZ):=row.ok i ns sp eo;have hZ:c<aE ns:=by rw[qO eo,aW,iy]at hc;erw[hc]
    have x0:0<=pM r f j rt' os i c:=by rw[wq eo];erw[abT ao ao ao (_O.rK _ _) (nn i ao) (nn (i+1) ao)]
    have xb:pM r f j rt' os i c<=b:=by
     by_cases h0:c=0
     ·subst h0
      rw[W8 hi]at vx;cases vx;rw[wq eo,(ln eo).1];erw[zo]
     ·rw[ac4 eo ao hZ]at vx
      cases vx;rw[wq eo];erw[cL abU (_O.BN ao (dc _) ao h2)]
    rw[BW eo,bO,mQ hZ]at yL;erw[Hg (x:=pM r f j rt' os i c) x0 xb (ahead _ hA) (λq hq=>?_)];rw[yL]at hq;cases hq;rw[wq eo];exact(VY ao ao).1
end
end _a
namespace _a
open PySem PySem.Spec PyProof.Rows _L _b _l _C _P _W _R
open _O (topR cornO mnO betR atO ownF leadF ownL OkI OkIs Itm)
open _T (numS numIn? Free)
section
def dX(w z:Str):ah->Str | .tuple [.str w',.str y]=>if w'=w then y else z |_=>z
theorem a0u(e:ah)(S:bp):(cZ e S).side=dX "tool" S.side e/\(cZ e S).mark=dX "mark" S.mark e:=by
 have n1:¬(("tool":Str)="mark"):=by decide+kernel
 unfold cZ dX;split
 ·next w' y=>
  try dsimp only
  by_cases h1:w'="tool"
  ·first |(rw[ba h1,ba h1,bc (by rw[h1];erw[n1])];erw[Z,Z]) |simp[h1,n1]
  ·by_cases h2:w'="mark"
   ·first |(rw[bc h1,bc h1,ba h2,ba h2];erw[Z,Z]) |simp[h1,h2,n1]
   ·first |(rw[bc h1,bc h1,bc h2,bc h2];erw[Z,Z]) |simp[h1,h2]
 ·next h=>first|erw[Z,Z]|(constructor<;>split<;>first|rfl|erw[absurd rfl (h _ _)])
theorem One.last(o:One M S e S1):S1.side=dX "tool" S.side e/\S1.mark=dX "mark" S.mark e:=by cases o with
 |@line ns sp eo nh=>
  have h:(iA ns (kx M S ns sp)).side=S.side/\(iA ns (kx M S ns sp)).mark=S.mark:=by
   unfold iA;split
   ·erw[DB (kx M S ns sp)]
   ·erw[Z,Z]
  erw[h] |fF eo ed nh=>let(a,b):=DB (cZ e S);rw[a,b];erw[a0u e S]
theorem Run.last(r:Run M S es S1):S1.side=es.foldl (dX "tool") S.side/\S1.mark=es.foldl (dX "mark") S.mark:=by induction r with |nil=>erw[Z,Z] |cons o _ ih=>let(a,b):=o.last;rw[ih.1,ih.2,a,b];erw[Z,Z]
theorem a95{w:Str}{top:Rat}(z:Str):(j8 r f ti ns top b e).foldl (dX w) z=z:=by
 unfold j8;rw[List.foldl_map];have:∀l:List Nat,l.foldl (λx y=>dX w x (mU ti (gd ns y) (gP r f (aE ns) top b e y))) z=z:=λl=>by induction l with |nil=>rfl |cons a l ih=>erw[ih]
 erw[this _]
theorem La{r f j ti rate:Int}{ds:List ah}{os:List Itm}{n:Nat}(row:cU n ds os)(w z:Str):∀i,i<=os.length->(fC r f j ti rate ds os i).foldl (dX w) z=(ds.take i).foldl (dX w) z |0,_=>rfl |i+1,hi=>by have ih:=La (r:=r) (f:=f) (j:=j) (ti:=ti) (rate:=rate) row w z i aL;have ll:=row.len;obtain⟨o,eo⟩:∃o,os[i]? =some o:=#[_,bL (show i<os.length by omega)];obtain⟨d,ed⟩:∃d,ds[i]? =some d:=#[_,bL (show i<ds.length by omega)];show(fC r f j ti rate ds os i++fR r f j ti rate ds os i).foldl (dX w) z=_;rw[u9,ih,lF,ed,u9];cases o with |none=>rw[xF eo ed];rfl |some q=>let(ns,sp):=q;have e0:=iP (row.it i d _ ed eo);subst e0;rw[tF eo,a95];rfl
theorem a6d{w:Str}:∀(ds:List ah),(∀d∈ds,∀z:Str,dX w z d=z\/(dX w z d≠""/\∀z',dX w z' d=dX w z d))->kv (ds.foldl (dX w) "")=ds.foldl (dX w) "none":=λds h=>by
 have key:∀(ds:List ah),(∀d∈ds,∀z:Str,dX w z d=z\/(dX w z d≠""/\∀z',dX w z' d=dX w z d))->∀a b:Str,kv a=b->b≠""->kv (ds.foldl (dX w) a)=ds.foldl (dX w) b:=λds=>by induction ds with |nil=>erw[λ_ a b e _=>e] |cons d ds ih=>
  intro h a b e hb;erw[ih (λd hd=>h d (.tail _ hd)) _ _ ?_ ?_]
  ·rcases h d (.head _) a with e1|⟨e1,e2⟩
   ·rcases h d (.head _) b with f1|⟨f1,f2⟩
    ·rw[e1,f1,e]
    ·rw[<-f2 a]at f1
     rw[<-f2 a];unfold kv;rw[bc f1]
   ·rw[e2 b]
    unfold kv;rw[bc e1]
  ·rcases h d (.head _) b with f1|⟨f1,_⟩
   ·rw[f1];erw[hb]
   ·erw[f1]
 erw[key ds h "" "none" aG aG]
inductive adS(vs:List V)(H:Hp)(Q:VK):Prop |mk (iv:_)(ww:_)(z:_)(n:_)(ds:_)(os:_)(h0:vs=[iv,.str ww,.str z])(h1:RD K H iv (.tuple ds))(h2:mO n ds os)(h3:(ww="tool"\/ww="mark"))(h4:Q (.str (ds.foldl (dX ww) z)) H)
def ZW:Sp:=λvs H Q _=>adS vs H Q
theorem a5L{ww:Str}(h:ww="tool"\/ww="mark"):SeqAt.shaped (.str ww)=true/\PyData.eqv (.str "line") (.str ww)=false/\PyData.eqv (.str "wait") (.str ww)=false/\∀w':Str,(w'="tool"\/w'="mark")->SeqAt.shaped (.str w')=true/\(PyData.eqv (.str w') (.str ww)=decide (w'=ww)):=by rcases h with rfl|rfl<;>erw[aG,aG,aG,λw' h'=>by rcases h' with rfl|rfl<;>erw[aG,aG]]
theorem N8:bf ["_law_row_here","_law_word","_law_first","_law_found","_law_item_here"] ["_law_row_here","_law_word","_law_first"] (aQ P7):=bo aG
theorem RU(AA:All w K mg):bj P w K mg ay "_law_last" 1 ZW:=by
 exists AA.aap.has,N8,iB λ_ _ _=>rfl
 ·let(iv,ww,z,n,ds,os,rfl,ri,row,hw,k):=h
  have nd:=N8.nd;let(q1,q2,q3,q4):=a5L hw;erw[_,(az (pS 3 nd (pv 2)) (az (gW fS Z (j3 K Z (pv 0)) (aR 4 nd) (aH (bI (bX (dN K Z hr.units) (px K (pv 4) aB) (pv 1) (bQ _)) (aH (pS 3 nd (px K (pv 4) aB))) bP))) (aH (aO (pv 3))))),?_];let(ia,xs,rfl,hi,eO):=ri.cu;have lx:=eO.length;have ll:=row.len;erw[_,Z,_,Z,ia,Z,#[_,hi],IV (K:=K) (a:=ia) (xs:=xs) (λi O H3=>H3=H/\∃v4,O=[some (.ref ia),some (.str ww),some (.str z),some (.str ((ds.take i).foldl (dX ww) z)),v4]) #[Z,none,Z] (λi O H3 _ h=>by rw[h.1];erw[hi]) ?_ ?_]
  ·rintro i y O H3 hy ⟨rfl,v4,rfl⟩
   erw[iC ?_];intro E1;have sP:i<xs.length:=(cK.mp hy).1;let(d,ed,rd):=eO.get' i hy;obtain⟨o,eo⟩:∃o,os[i]? =some o:=#[_,bL (show i<os.length by omega)];have it:=row.it i d o ed eo;have et:∀z',dX ww ((ds.take i).foldl (dX ww) z) d=z'->(ds.take (i+1)).foldl (dX ww) z=z':=λz' e=>by rw[lF,ed,u9];erw[e]
   cases o with |some q=>let(ns,sp):=q;have e0:=iP it.it;subst e0;let(a,b,rfl,ha,hb):=oT rd;erw[_,Z,.inr #[a,_,0,.str "line",Z,Z,ha,Z,_,Z,.inr #[_,_,bC _,bC _,nj,q1,_,Z,?_]]];rw[q2];erw[aP #[Z,_,by rw[et _ rfl];rfl]] |none=>
    rcases it.ot rfl with⟨m,rfl,_,_⟩|⟨w',y',rfl,TZ,_,_⟩
    ·let(a,zs,rfl,ha,vd):=rd.cu
     let(x1,r1,rfl,e1,vd):=vd.cons_inv;cases e1.str_inv;erw[_,Z,.inr #[a,_,0,.str "wait",Z,Z,ha,cB (dc 0) Z,_,Z,.inr #[_,_,bC _,bC _,aG,q1,_,Z,?_]]];rw[q3];erw[aP #[Z,_,by rw[et _ rfl];rfl]]
    ·let(a,zs,rfl,ha,vd):=rd.cu
     let(x1,r1,rfl,e1,vd):=vd.cons_inv;let(x2,r2,rfl,e2,vd):=vd.cons_inv;cases e1.str_inv;cases e2.str_inv;let(q5,q6):=q4 w' TZ;erw[_,Z,.inr #[a,_,0,.str w',Z,Z,ha,cB (dc 0) Z,_,Z,.inr #[_,_,bC _,bC _,q5,q1,_,Z,?_]]];rw[q6];by_cases hc:w'=ww
     ·rw[cj hc]
      erw[bM #[_,Z,.inr #[a,_,1,.str y',Z,Z,ha,cB (show(0:Int)<=1 by decide) Z,Z,some (.ref a),?_]]];rw[et y' (by show(if w'=ww then y' else _)=y';rw[ba hc])];rfl
     ·rw[dE hc]
      erw[aP #[Z,_,by rw[et _ (show(if w'=ww then y' else _)=_ from bc hc)];rfl]]
  ·rintro O H3 ⟨rfl,v4,rfl⟩
   rw[lx,o9];erw[_,Z,k]
theorem S6(ns:List Int):da (fj ns):=da.join (jM aG) λa ha=>by let(i,_,rfl):=cJ.mp ha;erw[sy i]
theorem IT(a b:Int):da (gR a b):=by
 unfold gR;split
 ·erw[sy a]
 ·exact((sy a).app (jM aG)).app (sy b)
theorem a4H(h:da z):da (kv z):=by
 unfold kv;split
 ·erw[jM aG]
 ·erw[h]
theorem Lr{zs:List Str}(h:∀z∈zs,da z):dv 1 (.list (zs.map PyData.str)):=iq.lst (n:=0) λd hd=>by let(z,hz,rfl):=cJ.mp hd;erw[Rr (h z hz)]
theorem EU{H:Hp}:∀zs:List Str,aI K H (zs.map V.str) (zs.map PyData.str) |[]=>cW |z::zs=>cG (bC z) (EU zs)
theorem One.ml{D:Nat}(g:RG M D S)(o:One M S e S1):da (gu e):=by have ok:=g.ok;have aA:=g.aA;cases o with |@line ns sp eo nh=>have ez:gu (my M S ns sp)="step "++fj (gd ns S.dn)++" "++numS (me M.t (mr M S ns sp))++" "++gR (mr M S ns sp).num ((mr M S ns sp).den:Int):=Ah _ _ _ _;rw[ez];exact(((((jM aG).app (S6 _)).app (jM aG)).app (sy _)).app (jM aG)).app (IT _ _) |@fF _ eo ed nh=>
 let(o,eC,it):=ok.item ed;rw[eo]at eC;cases eC;have tx:=ok.tx aA e (fz ed);have nl:∀ns sp,e≠eF ns sp:=λns sp ee=>by
  rcases it.it with⟨_,_,_,z⟩|⟨w,x,e2,hw,_⟩
  ·cases z
  ·rw[e2]at ee
   erw[yF (show nZ w from hw) #[ns,sp,ee]]
 rw[Ai tx.ti nl];erw[tx.ok]
theorem Run.ml{D:Nat}(r:Run M S es S1):RG M D S->∀e∈es,da (gu e):=by induction r with |nil=>erw[λ_ e he=>nomatch he] |cons o r ih=>
 intro g e he;rcases cM.mp he with rfl|he
 ·erw[o.ml g]
 ·erw[ih (g.run (.cons o (.nil _))) e he]
theorem QI{M:bw}{rate:Int}{os:List Itm}(aA:M.Ok){i:Nat}(hi:i=0\/i=os.length):cH M.r M.f M.j rate os i=0:=by
 have iz:=aA.r1;have ie:=aA.f1;have hle:i<=os.length:=by omega
 have nn:=C9 (n:=os.length) (own:=ownF M.j rate os) (L:=leadF os) (r:=2*M.r) (f:=2*M.f) aL aL (λi _=>_O.zk M.j rate os i);have e0:ownF M.j rate os i=0:=by
  rcases hi with rfl|rfl
  ·rfl
  ·erw[Gp M.j rate os]
 erw[rn ?_ (nn i hle)];rw[<-e0];erw[Ca hle]
theorem a6A{M:bw}{S:bp}{ds:List ah}{os:List Itm}(aA:M.Ok)(hl:ds.length=os.length)(d5:S.bG=none)(d6:S.dn=0)(d7:S.pc=0):Inv1 M S.rate S.pl ds os 0 0 (ja S ds os ds.length):=by
 erw[?_,?_,d6,.inl Z,?_,Z,d5,Z,eX _]
 ·show ds.take ds.length=ds
  rw[o9]
 ·show os.take ds.length=os
  rw[hl,o9]
 ·show S.pc=_
  rw[d7,zj (D:=64) (ds:=ds) aA (eX _),QI aA (.inl Z)]
theorem a6y{rate:Int}{pl:List Int}{ds:List ah}{os:List Itm}(aA:M.Ok)(h:Inv1 M rate pl ds os os.length 0 T):T.pc=0/\jj T=dq pl os os.length:=by
 erw[?_,?_]
 ·rw[h.DA,zj (D:=64) (ds:=ds) aA (aV _),QI aA (.inr Z)]
 ·unfold jj
  rw[ba h.DE];erw[h.Jg]
def yw:List Wd:=[.place,.square,.rL,.mark]
theorem a6c{w:Str}{n:Nat}{ds:List ah}{os:List Itm}(row:mO n ds os)(hw:w="tool"\/w="mark"):∀d∈ds,∀z:Str,dX w z d=z\/(dX w z d≠""/\∀z',dX w z' d=dX w z d):=λd hd z=>by let(i,hi):=oa.mp hd;have hl:=(cK.mp hi).1;obtain⟨o,eo⟩:∃o,os[i]? =some o:=#[_,bL (show i<os.length by have:=row.len;omega)];have it:=row.it i d o hi eo;cases o with |some q=>let(ns,sp):=q;have e0:=iP it.it;subst e0;erw[.inl rfl] |none=>
 rcases it.ot rfl with⟨m,rfl,_,_⟩|⟨w',y',rfl,TZ,_,on⟩
 ·erw[.inl rfl]
 ·by_cases hc:w'=w
  ·erw[.inr #[?_,λz'=>?_]]
   ·show(if w'=w then y' else z)≠""
    rw[ba hc];intro e;subst e;rcases on with⟨_,h|h⟩|⟨_,h⟩
    ·revert h;decide+kernel
    ·revert h;decide+kernel
    ·revert h;decide+kernel
   ·show(if w'=w then y' else z')=(if w'=w then y' else z)
    rw[ba hc,ba hc]
  ·erw[.inl (bc hc)]
theorem aaL{pv:V}{ys:List V}{pl:List Int}{os:List Itm}(rp:RD K H pv (dh pl))(r:aI K H ys (qN pl os os.length)):∃vl,(pv::ys).getLast? =some vl/\RD K H vl (dh (dq pl os os.length)):=by have hl:=r.length;rw[xG]at hl;cases h:os.length with |zero=>rw[h]at hl;rw[Kw.mp hl];erw[pv,Z,rp] |succ n=>rw[h]at r hl;let(y,ey,ry):=r.get n (d:=dh (dq pl os (n+1))) (by show(qN pl os n++[dh (dq pl os (n+1))])[n]? =_;rw[oh (by rw[xG];erw[aV _]),xG,Bg];rfl);erw[y,?_,ry];rw[Kx,gz,X8,hl,List.getElem?_cons_succ];erw[ey]
end
end _a
set_option maxHeartbeats 4000000
namespace _a
open PySem PySem.Spec PyProof.Rows _L _b _l _C _P _W _R
open _O (topR cornO mnO betR atO ownF leadF ownL OkI OkIs Itm)
open _T (numS numIn? Free)
section
theorem N7:bf ["_law_script","_law_at","_law_bag_here","_law_machine_here","_law_place_here","_law_row_here","_law_desk","_law_rate","_law_squares","_law_tape","_law_there_here","_law_due"] ["_law_script"] (aQ wA):=bo aG
theorem a3S(AA:All w K mg)(RR:fJ K mg C D)(F:lA K "law" "law" wA f fd)(vk:dA P w K mg ay D "say" 14 (BZ C D))(a8x:bj P w K mg ay "_law_fed" 15 (LZ C D))(a6Y:bj P w K mg ay "tape_of" 10 F7)(a7r:bj P w K mg ay "look" 10 LW)(a8y:bj P w K mg ay "_law_all_told" 15 (M5 C D)):fu P w K mg ay kd 16 f fd ["_law_script"] (Fb K):=by
 erw[F.ok N7 (λvs H Q E h=>?_) (λaK A outer s H vs Q E hr h=>?_)]
 ·let(a,ns,rfl,_):=h
  rfl
 ·let(a,ns,rfl,hS,hlen,k):=h
  have nd:=N7.nd;have iQ:sizeLine=16777216:=by decide
  erw[_,(az (gW fS Z (sx Z (AA.B.at "range") (ak (fh (x:="max") (VW rfl) rfl (AA.B.at "max") Kn (ak aB (ak (fh (x:="min") (JF rfl) rfl (AA.B.at "min") X2 (ak aB (ak (fW K AA.B (ak (pv 0) au)) au))) au))) au)) (aR 1 nd) (az (pS 2 nd (pf (a4b AA) hr (ak (pv 0) (ak (pv 1) au)))) (az (pS 3 nd (pf (a3P AA) hr (ak (pv 2) au))) (az (pS 4 nd (pf (a3J AA) hr (ak (pv 2) (ak (pv 3) au)))) (az (pS 5 nd (pf (a3B AA) hr (ak (pv 2) (ak (pv 3) (ak (pv 4) au))))) (az (pS 6 nd (QT (a47 AA RR) (hr.mono aw) Z (ak (pv 3) (ak (pv 4) au)))) (az (pS 7 nd (px K (dj (ak aB (ak (aM dR aB (pf (fX AA) hr (ak (pv 2) (ak aB au)))) au))) (pf (fX AA) hr (ak (pv 2) (ak aB au))))) (az (C8 (i0:=8) nd Z (Or.inl Z) (N:=["_law_one"]) (js:=[none]) Z Z Z (mX K Z (pf (GG AA) hr (ak (pv 3) (ak (pv 5) (ak (pv 7) au))))) (λ_ _ _ _ _=>(aR 0 (iM _))) (λ_ _ _ _ _=>e9) (λ_ _ _ _ _=>(pf (RS AA) hr (ak (pv 0) au)))) (az (bI (PW.pt (iI (bX Gs (ko vk RR.td.cl (hr.mono aw) (pv 6) (ak (aM jn bR (dF (x:="str") jV Z (AA.B.at "str") jC (ak (pv 7) au))) au)) (dF (x:="str") jV rfl (AA.B.at "str") jC (ak (pv 7) au)) (bQ _)) (jJ (bX Gs (pf a8x hr (ak (pv 2) (ak (pv 6) (ak (pv 4) (ak (pv 5) au))))) (qe K rfl bR (ak (pv 8) au)) (bQ _))))) (aH (aO j4)) bP) (az (pS 9 nd (pf a6Y hr (ak (pv 3) (ak (pv 5) (ak (pv 7) au))))) (az (bI (bX wU (pf a7r hr (ak (pv 3) (ak (pv 5) (ak (pv 7) (ak (pv 9) au))))) gX (bQ _)) (aH (aO j4)) bP) (az (bI (bX (kR K Z hr.units) (pf a8y hr (ak (pv 2) (ak (pv 6) au))) (eQ (N:=["_law_entry"]) (js:=[none]) Z Z Z (mX K Z (pv 9)) (λ_ _ _ _ _=>(aR 0 (iM _))) (λ_ _ _ _ _=>e9) (λ_ _ _ _ _=>(pf (a3R AA) hr (ak (pv 0) au)))) (bQ _)) (aH (aO j4)) bP) (az (pS 10 nd (px K (aM (xP K Z) (dj (ak (pv 4) au)) (pf (a46 AA) hr (ak (pv 3) (ak (pv 4) (ak (pv 5) au))))) (jk jf aB))) (az (pS 11 nd (dj (ak (qe K Z bR (ak (eQ (N:=["_law_one"]) (js:=[none]) Z Z Z (j3 K Z (pv 10)) (λ_ _ _ _ _=>(aR 0 (iM _))) (λ_ _ _ _ _=>e9) (λ_ _ _ _ _=>(dF (x:="str") jV Z (AA.B.at "str") jC (ak (pv 0) au)))) au)) (ak bR (ak (pf (RU AA) hr (ak (pv 5) (ak bR (ak bR au)))) (ak (pf (RU AA) hr (ak (pv 5) (ak bR (ak bR au)))) au)))))) (aH (bI (bX (kR K Z hr.units) (eQ (N:=["_law_word","_law_desk"]) (js:=[none,some 6]) Z Z Z (mX K Z (dj (ak bR (ak bR (ak bR (ak bR au)))))) (λ_ _ _ _ _=>(aR 0 (jN aw))) (λ_ _ _ _ _=>e9) (λ_ _ _ _ _=>(ko vk RR.td.cl (hr.mono aw) (pv 1) (ak (pv 0) au)))) (pv 11) (bQ _)) (aH (aO j4)) bP)))))))))))))))) (aH (aO j4))),?_];erw[_,Z,a,_,Z,.inl hS,_,_,Z,_,_,Z,_,Z,?_,?_,?_]
  ·split<;>(try split)<;>lia
  ·split<;>(try split)<;>(try rw[aW])<;>lia
  have hN:(if(if((ns.map V.int).length:Int)<3 then((ns.map V.int).length:Int)else 3)>1 then(if((ns.map V.int).length:Int)<3 then((ns.map V.int).length:Int)else 3)else 1).toNat<=4:=by split<;>(try split)<;>lia
  erw[xC (Pv:=λi O H2=>aF H H2/\∃v1 v2 v3 v4 v5 v6 v7 v8 v9 v10 v11,O=[some (.ref a),v1,v2,v3,v4,v5,v6,v7,v8,v9,v10,v11]) ?_ ?_ ?_]
  ·erw[aF.refl _,none,none,none,none,none,none,none,none,none,none,none,Z]
  ·rintro i O H2 hi ⟨s2,v1,v2,v3,v4,v5,v6,v7,v8,v9,v10,v11,rfl⟩
   erw[iC ?_];intro E1;have hi8:i<4:=gK hi hN;erw[_,Z,_,Z,a,ns,_,Z,s2.seq hS,hlen,ao,ao,λp H3 np bg3 s3=>?_];erw[_,Z,p,Z,bg3,λm rs r0 f' j t H9 rm aA b9=>?_];erw[_,Z,_,Z,p,m,rs,r0,f',j,t,Z,b9.bU,rm,aA,λgM pl HA rp gD bA=>?_];have Dm:H p=none:=by cases e:H p with |none=>rfl |some o=>erw[absurd (s2 _ _ e) (by rw[np];erw[λz=>nomatch z])]
   have FT:RD K HA m (bw.D #[rs,r0,f',j,t]):=RD.v (bN.t b9.bU bA).v _ (kT _ _ _ _ _) rm;generalize hM:(#[rs,r0,f',j,t]:bw)=M at FT;have j7:M.Ok:=by rw[<-hM];erw[aA]
   have zu:fo M.rs pl:=by rw[<-hM];erw[gD]
   erw[_,Z,_,Z,_,Z,p,m,gM,M,pl,Z,bA.bU,FT,j7,rp,zu,λiv ds os HB ri fV l12 bB=>?_];have b3B:=b9.trans (bA.trans bB);have Fm:aF H HB:=bN.a0L (s2.trans s3) Dm b3B;have no:=fV.it.row.no;have CC:=kT M.rs M.r M.f M.j M.t;have Qi:RD K HB m (bw.D M):=RD.t (bN.t bA.bU bB) _ CC FT;have Qf:RD K HB gM (dh pl):=RD.t (bN.t bA.bU bB) _ (gp _) rp;erw[_,Z,_,Z,λx dx hx hdx ne=>?_];have wB:aF HB (_L.upd (_L.upd HB dx (.own x)) x (.ins D dx [])):=(aF.new hdx).trans (aF.new (by rw[aY ne.symm];erw[hx]));erw[x,dx,m,gM,M,pl,Z,bZ,RD.mono wB _ Qi,RD.mono wB _ Qf,j7,zu,λr1 q1 HC dk R1 nr nq bt=>#[Z,?_]];have yS:aF HB HC:=λb o eb=>bt b o (wB b o eb) λz=>by rw[cV.mp z,hx]at eb;cases eb
   have W5:=(bN.fi bB.bU yS);have GQ:cx (oz pl).ds=true:=rfl;have T0:DW C D HC M p x r1 q1 HC q1 (oz pl):=by let(rx,mv,bv,cI,tv,er,_):=R1.ob;erw[W5.bU,dk,R1,λz=>?_,W5.bU.ne,(λz=>by rw[er]at z;cases z),λ_ _ e _ _ _=>e,.inl rfl];have h1:HB p≠none:=bB.bU.ne;rw[z]at h1;cases e:HB q1 with |none=>erw[h1 e] |some o=>rw[wB _ _ e]at nq;cases nq
   have g0:RG M 64 (oz pl):=#[a1s zu.len,j7,#[show Str.length "up"<=100 by decide+kernel,show Str.length ""<=100 by decide+kernel,show da "up" from jM aG,show da "" from jM aG],λi hi=>by have:i=0:=Nat.le_zero.mp hi;rw[this];erw[zu],aw];have riC:RD K HC iv (.tuple ds):=RD.mono yS _ ri;have rmC:RD K HC m (bw.D M):=RD.mono yS _ Qi;have rpC:RD K HC gM (dh pl):=RD.mono yS _ Qf;have sHC:=Fm.trans yS;erw[_,Z,p,191,Z,T0.bg,aw,aw,λt1 HD ES ER bD=>#[_,_,Z,Z,?_]];erw[cy Z,λlc HE nE=>?_];have bE:=bD.trans (.fi bD.bU nE.same);have cp:lc≠p:=λz=>bD.bU.ne (z▸nE.no);erw[_,Z,p,2,Z,bE.bU,aw,aw,λix HF i0 i1 Wc=>?_];have bF:=bE.trans Wc;obtain⟨rate,en,cg,cn⟩:∃n:Int,fb [V.int 100,V.int (10+t1)] ix=some (.int n)/\10<=n/\n<=200:=by
    rcases(show ix=0\/ix=1 by lia)with rfl|rfl
    ·erw[_,Z,ao,ao]
    ·erw[_,Z,ao,ao]
   erw[.inl #[lc,_,_,_,Z,Z,aD.of (Wc.same _ _ cp nE.at'),en,?_]];have TF:=T0.draw GQ bF;have Qh:RD K HF m (bw.D M):=RD.t (bN.t T0.bg bF) _ CC rmC;have Qe:RD K HF gM (dh pl):=RD.t (bN.t T0.bg bF) _ (gp _) rpC;have FW:RD K HF iv (.tuple ds):=RD.t (bN.t T0.bg bF) _ (by rw[dW];erw[no]) riC;have nm:Nm rate:=by show rate.natAbs<10^40;lia
   have row:=fV.it.row;have ll:=row.len;erw[_,Z,_,Z,_,Z,m,iv,rate,M.rs,M.r,M.f,M.j,M.t,ds,os,Z,Qh,j7,FW,row,ao,cg,cn,λl1 y1 HG xh vE sj sG=>#[l1,Z,#[_,aD.of vE],λD2 HI nI=>?_]];have lz:=sj.length;have lp:(kN M.r M.f M.j rate os).length=os.length+1:=lP _ _;rw[aW,lp]at lz;have TI:=TF.same GQ (sG.trans nI.same);erw[vG (K:=K) (ds:=((kN M.r M.f M.j rate os).map wL).map PyData.str) _ (aD.of vE) nI (by rw[aW,aW,lp];erw[lz]) ao (oM _) ?_ ?_]
   ·intro i x d H5 Q' ex ed s5 hq
    let(d',dG,rx):=sj.get' i ex;rw[bO]at dG;rw[bO,bO]at ed;cases eq:(kN M.r M.f M.j rate os)[i]? with |none=>rw[eq]at dG;cases dG |some qq=>rw[eq]at dG ed;cases dG;cases ed;let(hi,rfl):=Cc eq;let(n1,n2):=xR (wO j7 row ao cg cn i hi);erw[_,Z,x,_,_,Z,RD.mono s5 _ rx,n1,n2,hq _ _ (aF.refl _) (bC _)]
   intro HJ ws sJ dJ rJ;rw[ou rJ]at dJ;have Fs:=sG.trans sJ;have TJ:=TF.same GQ Fs;have Ka:HF D2=none:=by cases e:HF D2 with |none=>rfl |some o=>have:=sG _ _ e;rw[nI.no]at this;cases this
   let(dx1,mv1,ea,uA):=id TJ.dk;have e5:Str.length "rate "=5:=by decide+kernel
   have a4V:=fY nm;have eR:("rate ":Str)++numS rate=kD.txt (.rate rate):=by show _="rate"++" "++numS rate;rw[show("rate ":Str)="rate"++" " by decide+kernel]
   erw[_,Z,x,dx1,_,Z,ea,Z,_,Z,.inl #[rate,Z,ng nm,_,_,Z,Z,by show Str.length "rate "+(numS rate).length<=_;lia,?_]];erw[x,r1,q1,M,64,oz pl,.rate rate,lC (λz=>[V.ref x,V.str z]) eR,TJ.dk,TJ.x,g0,cg,cn,Z,λHK RK bK=>?_];have bK':Mv r1 q1 HJ q1 HK:=#[λb o e hb=>bK b o e (λz=>hb (by rw[cV.mp z];erw[.head _])),.inl Z];let(TK,vK):=TJ.Qr.mv bK' RK;erw[_,Z,.inl #[rate,Z,ng nm,Z,_,Z,?_]];rw[cj (show V.str (numS rate)=V.str (Str.ofString (toString rate))from Z)];generalize Us:({oz pl with rate:=rate}:bp)=S1 at TK;have e1:S1.ds=[]/\S1.os=[]/\S1.pl=pl/\S1.rate=rate/\S1.bG=none/\S1.dn=0/\S1.pc=0/\S1.side="up"/\S1.mark="":=by rw[<-Us];erw[Z,Z,Z,Z,Z,Z,Z,Z,Z]
   have g1:RG M 64 S1:=by rw[<-Us];have o:=g0.ok;erw[#[o.row,o.rw,o.len,cg,cn,o.dn,o.pl,o.pd,o.pm,o.bG,o.D1,o.D2],j7,g0.sd.eq Z Z,g0.on.eq Z Z,aw]
   let(d1,d2,d3,d4,d5,d6,d7,d8',d9'):=e1;have KY:=(Fs.v).trans vK;have Gh:S1.pl.length<=3:=by rw[d3,zu.len];have:=j7.n3;lia
   erw[aP #[_,Z,_,Z,_,Z,_,Z,HJ,p,x,r1,q1,gM,iv,q1,M,64,S1,ds,os,Z,TK,g1,d1,d2,Gh,by rw[d3];erw[RD.v KY _ (gp _) Qe],RD.v KY _ (by rw[dW];erw[no]) FW,by rw[d3];erw[fV],l12,λHL TL gL=>?_]];have D2p:D2≠p:=λz=>TF.bg.ne (by rw[<-z];erw[Ka]);have D2r:D2≠r1:=λz=>by let(rx,mv,bv,cI,tv,er,_):=TF.x.ob;rw[<-z,Ka]at er;cases er
   have D2q:D2≠q1:=λz=>by let(ys,eq,_):=TF.x.qu;rw[<-z,Ka]at eq;cases eq
   have dL:=TL.fr _ _ dJ D2p D2r D2q;erw[Z,_,Z," ",D2,_,Z,Z,aD.of dL,λz hz=>?_,aG,by rw[aW,lp];lia,Z,_,Z,?_]
   ·let(qq,hq,rfl):=cJ.mp hz
    let(i,hi):=oa.mp hq;let(nF,rfl):=Cc hi;let(n1,n2):=xR (wO j7 row ao cg cn i nF);have:=Aa n1 n2;show(gR _ _).length<=_
    lia
   rw[d4,cj (show V.str (Cb M.r M.f M.j rate os)=V.str (Txt.join " " ((kN M.r M.f M.j rate os).map wL))from Z)];erw[aP ?_];have EE:=Fs.v.trans (DW.vb TJ TL);have Se:dW (.tuple ds)=true:=by rw[dW];erw[no]
   have FR:=RD.v EE _ CC Qh;have FV:=RD.v EE _ Se FW;have rpL:=RD.v EE _ (gp _) Qe;erw[_,Z,_,Z,_,Z,m,iv,rate,M.rs,M.r,M.f,M.j,M.t,ds,os,Z,FR,j7,FV,row,ao,cg,cn,λl2 y2 HM uR xK yW sM=>?_];erw[_,Z,_,Z,_,Z,_,Z,m,iv,rate,.ref l2,M.rs,M.r,M.f,M.j,M.t,ds,os,_,_,Z,RD.mono sM _ FR,j7,RD.mono sM _ FV,row,ao,cg,cn,wJ (aD.of xK) yW,Ys j7 row fV.it.rw ao cg (dc _) cn,λHN sN=>#[Z,_,Z,?_]];rw[cj (show V.bu=V.bu from Z)];erw[aP ?_];have TN:=TL.same gL.ok.row.no (sM.trans sN);erw[_,Z,_,Z,HJ,p,x,r1,q1,q1,M,64,_,S1.pl,ds,os,Z,TN,gL,a6A j7 row.len d5 d6 d7,row,l12,fV.ld,λl3 q3 S3 HO zD nQ TO gO a6B run KW=>?_];have Jf:(ja S1 ds os ds.length).rate=rate:=d4;rw[Jf]at nQ run;have GL:l2≠p/\l2≠r1/\l2≠q1:=by let(rx,mv,bv,cI,tv,er,_):=TL.x.ob;let(ys,eq,_):=TL.x.qu;erw[λz=>TL.bg.ne (z▸uR),(λz=>by rw[<-z,uR]at er;cases er),(λz=>by rw[<-z,uR]at eq;cases eq)]
   have VE:=TO.fr _ _ (sN _ _ xK) GL.1 GL.2.1 GL.2.2;have noT:=EL (r:=M.r) (f:=M.f) (j:=M.j) (ti:=M.t) (rate:=rate) row os.length (aV _);have rT:=aI.v KW _ noT (aI.mono sN _ yW);have lT:=rT.length;have bT:(fC M.r M.f M.j M.t rate ds os os.length).length<=133:=by
    have h1:=BP (r:=M.r) (f:=M.f) (j:=M.j) (ti:=M.t) (rate:=rate) ll os.length (aV _);rw[o9]at h1;have:=fV.ld
    lia
   have teT:=run.yG gL.ok gL.aA gL.hD;have Cr:=run.ml gL;erw[_,Z,l2,Z,#[_,aD.of VE],λD3 HP nP=>?_];erw[vG (K:=K) (ds:=((fC M.r M.f M.j M.t rate ds os os.length).map gu).map PyData.str) _ (aD.of VE) nP (by rw[aW,aW];erw[lT]) ao (oM _) ?_ ?_]
   ·intro i x d H5 Q' ex ed s5 hq
    let(d',dG,rx):=rT.get' i ex;rw[bO,bO,dG]at ed;cases ed;erw[_,Z,x,d',Z,RD.mono s5 _ rx,teT d' (fz dG),λH6 s6=>hq _ _ s6 (bC _)]
   intro HQ wT sQ dQ rQ;have GJ:dv 1 (.list (((fC M.r M.f M.j M.t rate ds os os.length).map gu).map PyData.str)):=Lr λz hz=>by let(d,hd,rfl):=cJ.mp hz;erw[Cr d hd]
   erw[.inr #[_,_,wJ (aD.of (sQ _ _ nQ)) (EU _),wJ (aD.of dQ) rQ,GJ.shaped aw,GJ.shaped aw,_,Z,?_]];rw[GJ.refl];erw[aP ?_];have TQ:=TO.same gO.ok.row.no sQ;have ED:=((sM.trans sN).v.trans KW).trans sQ.v;erw[_,Z,cy Z,λl4 HR nR=>?_];have rmR:=RD.mono nR.same _ (RD.v ED _ CC FR);have Qd:=RD.mono nR.same _ (RD.v ED _ (gp _) rpL);have Qm:=RD.mono nR.same _ (RD.v ED _ Se FV);erw[_,Z,_,Z,_,Z,m,gM,iv,M.rs,M.r,M.f,M.j,M.t,pl,ds,os,Z,rmR,Qd,Qm,row,by have:=j7.n3;lia,ao,fV.on,λl5 y5 HS nl5 Jv Qk sS=>?_];let(vl,el,rvl):=aaL (RD.mono sS _ Qd) Qk;have l5l:=Qk.length;rw[xG]at l5l;erw[l4,l5,_,_,Z,Z,aD.of (sS _ _ nR.at'),aD.of Jv,by simp;lia,λl6 _H nT=>?_];erw[_,Z,.inl #[l6,_,-1,vl,Z,Z,aD.of nT.at',AH el,?_]];let(av,xs',rfl,vj,Ig):=(RD.mono nT.same _ rvl).cu;rw[Ig.gj]at vj;erw[Z,_,Z,av,Z,#[_,vj],λD7 H7 n7=>?_];have Ro:=fV.on os.length (aV _);have Sk:∀n∈dq pl os os.length,Nm n:=λn hn=>by have:=zt Ro j7.rl n hn;show n.natAbs<10^40;lia
   have lE:(dq pl os os.length).length<=3:=by rw[Ro.len];have:=j7.n3;lia
   erw[qR (K:=K) (ds:=((dq pl os os.length).map numS).map PyData.str) _ vj n7 (by simp) (by simp;lia) (oM _) ?_ ?_]
   ·intro i x d H2 Q' ex ed s2 hq
    rw[bO]at ex;let(n,en,rfl):=tX.mp ex;rw[bO,bO,en]at ed;cases ed;erw[_,Z,.inl #[n,Z,ng (Sk n (fz en)),hq _ _ (aF.refl _) (bC _)]]
   intro H8 zs s8 d8 r8;rw[ou r8]at d8;have Oq:aF HR H8:=sS.trans (nT.same.trans s8);have Ql:=RD.mono Oq _ Qm;erw[" ",D7,(dq pl os os.length).map numS,Z,Z,aD.of d8,λz hz=>?_,aG,by rw[aW];lia,?_]
   ·let(n,hn,rfl):=cJ.mp hz
    have:=fY (Sk n hn)
    lia
   erw[_,Z,iv,"tool","up",_,ds,os,Z,Ql,fV.it,.inl Z,?_];erw[_,Z,iv,"mark","none",_,ds,os,Z,Ql,fV.it,.inr Z,?_];erw[cy Z,λl7 HV nV=>?_];have OL:aF HQ HV:=nR.same.trans (Oq.trans nV.same);have TV:=TQ.same gO.ok.row.no OL;erw[cy Z,λl8 HW nW=>?_];have Ud:aD K HW l8 (yw.map λv=>V.str v.txt):=aD.of nW.at';erw[l8,Z,#[_,Ud],λD8 HX nX=>?_];have TW:=TV.same gO.ok.row.no nW.same;erw[vG (K:=K) (ds:=(yw.map (xU M S3)).map PyData.str) _ Ud nX (by rfl) aw (oM _) ?_ ?_]
   ·intro i x8 d H3 Q' ex ed s3 hq
    rw[bO]at ex;let(v,ev,rfl):=tX.mp ex;rw[bO,bO,ev]at ed;cases ed;have T3:=TW.same gO.ok.row.no s3;let(Vi,zK,Jp,rm3):=id T3.dk;erw[_,Z,x,Vi,_,Z,Jp,Z,_,Z,x,r1,q3,M,64,S3,.wd v,Z,T3.dk,T3.x,gO,λH4 s4=>hq _ _ s4 (bC _)]
   intro HY w8 sY dY rY;let(pz,plz):=a6y j7 a6B;let(Hl,Hk):=run.last;rw[La row _ _ _ (aV _),<-ll,o9]at Hl Hk;have eS:(ja S1 ds os ds.length).side="up"/\(ja S1 ds os ds.length).mark="":=#[d8',d9'];rw[eS.1]at Hl;rw[eS.2]at Hk;have eq4:yw.map (xU M S3)=[fj (dq pl os os.length),"0",ds.foldl (dX "tool") "up",ds.foldl (dX "mark") "none"]:=by show[fj (jj S3),wL S3.pc,S3.side,kv S3.mark]=_;rw[plz,pz,Hl,Hk,a6d ds (a6c fV.it (.inr Z)),d3];rfl
   have GK:dv 1 (.list ((yw.map (xU M S3)).map PyData.str)):=Lr λz hz=>by let(v,_,rfl):=cJ.mp hz;cases v with |place=>erw[S6 _] |square=>erw[IT _ _] |rL=>erw[gO.sd.s2] |mark=>erw[a4H gO.sd.m2] |gf=>erw[da.join (jM aG) λa ha=>by let(q,_,rfl):=cJ.mp ha;erw[IT _ _]]
   have r7:RD K HY (.ref l7) (.list ((yw.map (xU M S3)).map PyData.str)):=by rw[eq4];erw[wJ (aD.of (sY _ _ (nW.same _ _ nV.at'))) (EU [fj (dq pl os os.length),"0",ds.foldl (dX "tool") "up",ds.foldl (dX "mark") "none"])]
   erw[_,Z,.inr #[_,_,wJ (aD.of dY) rY,r7,GK.shaped aw,GK.shaped aw,_,Z,?_]];rw[GK.refl];erw[aP #[λb o e=>?_,_,_,_,_,_,_,_,_,_,_,_,Z]];have m1:b≠p:=λz=>by rw[z,Dm]at e;cases e
   have m2:b≠r1:=λz=>by rw[z]at e;have:=(Fm.trans wB) _ _ e;rw[nr]at this;cases this
   have m3:b≠q1:=λz=>by rw[z]at e;have:=(Fm.trans wB) _ _ e;rw[nq]at this;cases this
   erw[sY _ _ (nW.same _ _ (OL _ _ (sQ _ _ (TO.fr _ _ (sN _ _ (sM _ _ (TL.fr _ _ (TJ.fr _ _ (sHC _ _ e) m1 m2 m3) m1 m2 m3))) m1 m2 m3))))]
  ·rintro O H2 ⟨s2,v1,v2,v3,v4,v5,v6,v7,v8,v9,v10,v11,rfl⟩
   erw[k _]
end
end _a
set_option maxHeartbeats 1000000
namespace _a
open PySem PySem.Spec PyProof.Rows _L
theorem AI{K:aa}{mg:cm}{v:Value}(X:K.In h)(G:h.Ns mainGlobals mg)(e1:PySem.W.nsIn K mainGlobals fn=some (some v))(e2:PySem.W.nsIn K a z=some (some v)):PySem.W.nsIn K a z=some (mg fn):=by rw[e2,Be X G e1]
theorem Wq{K:aa}{v:Value}(e1:PySem.W.nsIn K mainGlobals fn=some (some v))(e2:PySem.W.nsIn K a z=some (some v)):∃v,PySem.W.nsIn K a z=some (some v):=#[v,e2]
theorem aci:AO K P w mg ay C D:=by
 intro f fd A R F;let(gA,GA,a0,a1,a2,a3,a4,t0,t1,b0,b1,b2,b3,b4):=A.ans;have TC:=R.tc;have fn:bj P w K mg ay "fraction" 3 LV:=x9 A;have pl:bj P w K mg ay "plan_of" 9 F8:=GG A;have ent:bj P w K mg ay "step_entry" 3 C0:=a45 A (a3j A (RW A.UX A.B));have rfd:=RJ A R;have rsf:=a3y A R ent;have reo:=a3G A R rsf;have ren:=a3H A R reo;have rpl:=a3A A R;have rwt:=a3u A R;have rsq:=a3x R;have rrt:=a3z R;have rto:=a3w R;have rmk:=a3D R;have iti:bj P w K mg ay "item_in" 5 Fc:=a3T A;have snb:bj P w K mg ay "show_number" 1 F9:=oH A;have sns:=GC A;have Md:=RA A;have Zb:=a3o A R ren;have Zc:=a3p A R;have Z8:=a3n A R;have hW:∀v:Wd,∃fn,PySem.W.nsIn K gA v.txt=some (mg fn)/\y9 P w K mg ay fn 10 (ur C v):=λv=>by cases v with |place=>erw[_,a0,(a4h A.aag A.B TC sns rpl).d.le aw] |square=>erw[_,a1,(a4f A.aae A.B TC Md rsq).d.le aw] |gf=>erw[_,a2,(a4g A.aaf A.B TC pl Md rwt rrt).d.le aw] |rL=>erw[_,a3,(a4c A.aad A.B TC rto).d.le aw] |mark=>erw[_,a4,(a4i A.aah A.B TC A.UE rmk).d.le aw]
 have say:=(a3t R.say R.td TC A.B snb GA #[b0,b1,t0,t1,b2,b3,b4] hW iti Zb Zc Z8 rfd).n;have Yt:bj P w K mg ay "tape_of" 10 F7:=a3k A ent;have lok:=a3Q A (a42 A (a3i A (RW A.UX A.B)));have vp:=a41 A R say;erw[a3S A R F say vp Yt lok (a4j A R say)]
theorem acj{P:ag}{w:World}{K:aa}{mg:cm}{ay:Heap}(A:All w K mg)(F:lA K "law" "law" wA f fd):fu P w K mg ay kd 16 f fd ["_law_script"] (Fb K):=by let(C',D',R'):=A.dk;erw[Yp aci K P w mg ay C' D' f fd A R' F]
end _a
end
set_option maxHeartbeats 1000000
set_option exponentiation.threshold 6000
def PySem.W.Fast.tw8934810555924165206:PySem.Program:=PySem.Challenge.pw_glidequeue_k59_whole_told_at_once_is_the
theorem PySem.W.Fast.te8934810555924165206:PySem.Challenge.pw_glidequeue_k59_whole_told_at_once_is_the=PySem.W.Fast.tw8934810555924165206:=rfl
local macro_rules|`(command|universe $x:ident)=>return Lean.mkNullNode (<-((x.getId.toString.splitOn "_").drop 1).toArray.mapM fun i=>`(command|theorem $(Lean.mkIdent (`_root_.PySem.W.Fast++Lean.Name.mkSimple s!"tw{(`PySem.Challenge.cw_glidequeue_k59_whole_told_at_once_is_the_holds++Lean.Name.mkSimple ((match i.front with|'h'=>"heap"|'t'=>"tree"|'v'=>"view"|'s'=>"sts"|'e'=>"env"|_=>"o")++"_"++(i.drop 1).toString)).hash}")):ident:True:=True.intro))
universe t_h1113_h39_t1042_t1112_t910_t966_t908_t831_v39_t757_t466_t396_t318_o1043_o967_t671_s1043_o913_o909_o832_s967_o761_t212_t197_s761_o502_t182_o467_s913_s253_s397_o397_s502_t252_t160_o1112_o1110_s319_s467_o319_t145_t130_o253_s213_s832_o975_o973_o1088_o1086_t108_o622_o620_o613_o935_o940_o933_o938_o501_o499_o1054_o945_o1093_o1052_o1061_o1018_o987_o473_o1091_o213_o1059_o666_o1016_o822_o994_o1071_o594_o245_o1025_o464_o506_o274_o592_o396_o776_o247_o466_o267_o814_o943_o774_o394_o812_o980_o265_o459_o445_o1037_o985_o992_o978_o433_o298_o1035_o1100_o824_o457_o686_o252_o431_o250_o1098_o515_o296_o443_o198_o391_o1083_o795_o887_o807_o438_o928_o272_t93_t78_o1081_o183_o805_o793_o999_s909_o161_o259_o885_o1023_o436_o608_o997_o146_t501_o606_o926_o310_o601_o1006_o257_o318_o1066_o308_o131_o655_o1069_o1004_o599_o952_o305_o389_o316_o1049_o109_o664_o482_o524_o412_o1064_o906_o950_o303_o662_o293_o675_o480_o767_o410_o1047_o94_o643_o386_o381_o341_o327_o348_o291_o452_o346_o798_o1042_o339_o450_o79_o384_o419_o325_o234_o1032_o819_o64_o636_o355_o489_o698_o417_o1030_o1040_o800_o917_o700_o522_o781_o908_o634_o487_o471_o769_o629_o641_o788_o376_o779_o496_o954_o1107_o618_o353_t63_o829_o650_o374_o786_o910_o627_o379_o754_o1105_o971_o369_o494_o405_o288_o831_o475_o1057_o611_o367_o334_o545_s161_o241_o177_o332_o1078_o360_o882_o239_o232_o665_o91_o286_o403_o175_o426_o817_o756_o648_o151_o880_o578_o735_o966_o362_o749_o424_o485_o1076_o847_o429_o1011_o861_o840_o854_o875_o868_s109_o1096_o964_o125_o733_o166_o901_o455_o462_o225_o270_o983_o707_o60_o742_o114_o866_o552_o899_o76_o143_o210_o106_o180_o128_o195_o559_o852_o859_o873_o845_o838_o123_o351_o263_o158_o218_o203_o740_o408_o337_o441_o1013_o179_o136_o69_o99_o536_o344_o931_o810_o84_o894_o188_o281_o990_o712_o719_o59_o726_o157_o127_o273_o81_o111_o96_o124_o1021_o1103_o53_o224_o75_o133_o200_o215_o148_o185_o90_o209_o142_o105_o194_o772_o478_o803_o791_o1028_o892_o593_o258_o163_o390_o279_o481_o523_o154_o955_o727_o956_o720_o330_o1092_o621_o45_o372_o448_o927_h46_o965_o685_o418_o632_o437_o663_o607_o696_o934_o615_o565_o818_o169_o667_o924_o139_s64_o287_o944_o741_o699_o706_o614_o951_o176_o586_o649_o600_o544_o656_o579_o635_o939_s49_o425_o401_o881_o266_o87_o280_o206_o117_o509_o102_o415_o314_o513_o1041_o628_o237_o765_o365_o1002_o173_o597_o948_o492_o604_o358_o784_o642_o827_t47_o1048_o1065_o979_o1060_o368_s198_o333_o874_o385_o458_o893_o900_o488_o56_o867_o768_o668_o799_o780_o806_o411_o246_o830_o1106_o886_o500_o853_o1087_o1012_o846_o839_o1036_o993_o347_o860_o1031_o1005_o240_o1053_o823_o191_o395_o907_o794_o474_o998_o432_o233_o1024_o375_o787_o1017_o404_o974_o444_o251_o1111_o304_o221_o354_o1070_o465_o775_o297_o72_o813_o317_o309_o920_o340_o1099_o495_o986_o451_o380_o66_o361_o1082_o326_o674_o284_o61_e41_o292
open PySem PySem.W PyProof.Rows
set_option maxRecDepth 100000 in
set_option maxHeartbeats 0 in
theorem PySem.Challenge.cw_glidequeue_k59_whole_told_at_once_is_the_holds : PySem.Challenge.rw_glidequeue_k59_whole_told_at_once_is_the.Holds := by
 w_on; o_law; k_head; (case hw=>w_witness2)
 k_fill
 refine _L.a6a (l:=PySem.Challenge.rw_glidequeue_k59_whole_told_at_once_is_the) (k:=16) (x:="_law_script") (st:=_a.wA) rfl rfl ⟨rfl,by decide,by decide⟩ (fun w h Y=>PySem.W.kIn_of Y) _a.All ?F (fun _ _ _ A=>A.law) (fun _ _ _ _ _ _ _=>rfl) (fun _ _ _ _ _ _ _ A F=>_a.acj A F)
 case F=>
  intro w mg h KX G
  refine⟨_L.abW KX G ?b,?t1,?t2,?t3,?gp0,?gp1,?gi0,?gi1,?gi2,?gi3,?gi4,?gi5,?gi6,?gi7,?gi8,?gi9,?gi10,?gi11,?gi12,?gi13,?gi14,?gs0,?gs1,?gs2,?an,?dk,?fl,?ff0,?ff1,?ff2,?ff3,?ff4,?ff5,?ff6,?ff7,?ff8,?ff9,?ff10,?ff11,?ff12,?ff13,?ff14,?ff15,?ff16,?ff17,?ff18,?ff19,?ff20,?ff21,?ff22,?ff23,?ff24,?ff25,?ff26,?ff27,?ff28,?ff29,?ff30,?ff31,?ff32,?ff33,?ff34,?ff35,?ff36,?ff37,?ff38,?ff39,?ff40,?ff41,?ff42,?ff43,?ff44,?ff45,?ff46,?ff47,?ff48,?ff49,?ff50,?ff51,?ff52,?ff53,?ff54,?ff55,?ff56,?ff57,?ff58,?ff59,?ff60,?ff61,?ff62,?ff63,?ff64,?ff65,?ff66,?ff67,?ff68,?ff69,?ff70,?ff71,?ff72,?ff73,?ff74,?ff75,?ff76,?ff77,?ff78,?fz0⟩
  case b=>(unfold _L.DP; repeat (refine _L.tQ.cons ?z ?_; (case z=>k_is))); exact _L.tQ.nil
  case t1=>refine' _L.IK KX G ?a ?l ?z ?r; (case a=>k_is); (case l=>k_is); (case z=>decide); (case r=>exact .cons ⟨_,rfl⟩ (.cons ⟨_,rfl⟩ .nil))
  case t2=>refine' _L.IK KX G ?a ?l ?z ?r; (case a=>k_is); (case l=>k_is); (case z=>decide); (case r=>exact .cons ⟨_,rfl⟩ (.cons ⟨_,rfl⟩ .nil))
  case t3=>refine' _L.IK KX G ?a ?l ?z ?r; (case a=>k_is); (case l=>k_is); (case z=>decide); (case r=>exact .cons ⟨_,rfl⟩ (.cons ⟨_,rfl⟩ .nil))
  case gp0=>(refine' _L.jx KX G ?z; (case z=>k_is))
  case gp1=>(refine' _L.jx KX G ?z; (case z=>k_is))
  case gi0=>(refine' _L.jx KX G ?z; (case z=>k_is))
  case gi1=>(refine' _L.jx KX G ?z; (case z=>k_is))
  case gi2=>(refine' _L.jx KX G ?z; (case z=>k_is))
  case gi3=>(refine' _L.jx KX G ?z; (case z=>k_is))
  case gi4=>(refine' _L.jx KX G ?z; (case z=>k_is))
  case gi5=>(refine' _L.jx KX G ?z; (case z=>k_is))
  case gi6=>(refine' _L.jx KX G ?z; (case z=>k_is))
  case gi7=>(refine' _L.jx KX G ?z; (case z=>k_is))
  case gi8=>(refine' _L.jx KX G ?z; (case z=>k_is))
  case gi9=>(refine' _L.jx KX G ?z; (case z=>k_is))
  case gi10=>(refine' _L.jx KX G ?z; (case z=>k_is))
  case gi11=>(refine' _L.jx KX G ?z; (case z=>k_is))
  case gi12=>(refine' _L.jx KX G ?z; (case z=>k_is))
  case gi13=>(refine' _L.jx KX G ?z; (case z=>k_is))
  case gi14=>(refine' _L.jx KX G ?z; (case z=>k_is))
  case gs0=>(refine' _L.IJ KX G ?z; (case z=>k_is))
  case gs1=>(refine' _L.IJ KX G ?z; (case z=>k_is))
  case gs2=>(refine' _L.IJ KX G ?z; (case z=>k_is))
  case an=>
   refine' ⟨_,_L.a8G KX G ?ga ?gl ?gk ?go,_a.AI KX G ?e1x0 ?e2x0,_a.AI KX G ?e1x1 ?e2x1,_a.AI KX G ?e1x2 ?e2x2,_a.AI KX G ?e1x3 ?e2x3,_a.AI KX G ?e1x4 ?e2x4,_a.Wq (fn:="answer_tool") ?tn0 ?tm0,_a.Wq (fn:="answer_mark") ?tn1 ?tm1,?na0,?na1,?na2,?na3,?na4⟩
   case ga=>k_is
   case gl=>k_is
   case go=>decide
   case e1x0=>k_is
   case e2x0=>k_is
   case e1x1=>k_is
   case e2x1=>k_is
   case e1x2=>k_is
   case e2x2=>k_is
   case e1x3=>k_is
   case e2x3=>k_is
   case e1x4=>k_is
   case e2x4=>k_is
   case gk=>
    show KeysLit _ (_::_)
    repeat (first | exact trivial | refine And.intro ⟨_,_,rfl,rfl⟩ ?_)
   case tn0=>k_is
   case tm0=>k_is
   case tn1=>k_is
   case tm1=>k_is
   case na0=>k_is
   case na1=>k_is
   case na2=>k_is
   case na3=>k_is
   case na4=>k_is
  case dk=>
   refine' ⟨_,_,_a.fJ.mk (_a.tO.mk (_L.ka.mk ?pg ?hd ?po ?sa) ?n1 ?n2 ?n3 ?n4 ?n5 ?n6 ?n7 ?n8 ?n9) (_L.VX KX G ?aC ?mk ?kc ?ia ?iii ?il ?ic ?ik) (_L.hJ ?a0 ?i0 ?l0 ?c0 ?k0) (_L.hJ ?a1 ?i1 ?l1 ?c1 ?k1) (_L.hJ ?a2 ?i2 ?l2 ?c2 ?k2) (_L.hJ ?a3 ?i3 ?l3 ?c3 ?k3) (_L.hJ ?a4 ?i4 ?l4 ?c4 ?k4) (_L.hJ ?a5 ?i5 ?l5 ?c5 ?k5) (_L.hJ ?a6 ?i6 ?l6 ?c6 ?k6) (_L.hJ ?a7 ?i7 ?l7 ?c7 ?k7) (_L.hJ ?a8 ?i8 ?l8 ?c8 ?k8) (_L.hJ ?a9 ?i9 ?l9 ?c9 ?k9) (_L.hJ ?a10 ?i10 ?l10 ?c10 ?k10) (_L.hJ ?a11 ?i11 ?l11 ?c11 ?k11) (_L.hJ ?a12 ?i12 ?l12 ?c12 ?k12) (_L.hJ ?a13 ?i13 ?l13 ?c13 ?k13) (_L.hJ ?a14 ?i14 ?l14 ?c14 ?k14) (_L.hJ ?a15 ?i15 ?l15 ?c15 ?k15) (_L.hJ ?a16 ?i16 ?l16 ?c16 ?k16) (_a.K9.mk (_L.ka.mk ?dpg ?dhd ?dpo ?dsa) ?d1 ?d2) (_L.VX KX G ?daC ?dmk ?dkc ?dia ?dii ?dil ?dic ?dik) (_L.hJ ?sa0 ?si0 ?sl0 ?sc0 ?sk0) (_L.hJ ?sa1 ?si1 ?sl1 ?sc1 ?sk1) (_L.hJ ?sa2 ?si2 ?sl2 ?sc2 ?sk2) (_L.hJ ?sa3 ?si3 ?sl3 ?sc3 ?sk3)⟩
   (case aC=>k_is)
   (case daC=>k_is)
   case n1 | n2 | n3 | n4 | n5 | n6 | n7 | n8 | n9 | d1 | d2=>(unfold _L.iU; k_is)
   case pg | hd | po | sa | mk | kc | ia | iii | il | ic | ik | dpg | dhd | dpo | dsa | dmk | dkc | dia | dii | dil | dic | dik | sa0 | si0 | sl0 | sc0 | sk0 | sa1 | si1 | sl1 | sc1 | sk1 | sa2 | si2 | sl2 | sc2 | sk2 | sa3 | si3 | sl3 | sc3 | sk3 | a0 | i0 | l0 | c0 | k0 | a1 | i1 | l1 | c1 | k1 | a2 | i2 | l2 | c2 | k2 | a3 | i3 | l3 | c3 | k3 | a4 | i4 | l4 | c4 | k4 | a5 | i5 | l5 | c5 | k5 | a6 | i6 | l6 | c6 | k6 | a7 | i7 | l7 | c7 | k7 | a8 | i8 | l8 | c8 | k8 | a9 | i9 | l9 | c9 | k9 | a10 | i10 | l10 | c10 | k10 | a11 | i11 | l11 | c11 | k11 | a12 | i12 | l12 | c12 | k12 | a13 | i13 | l13 | c13 | k13 | a14 | i14 | l14 | c14 | k14 | a15 | i15 | l15 | c15 | k15 | a16 | i16 | l16 | c16 | k16=>k_is
  all_goals (refine' _L.a9i KX G ?a ?l ?c ?k; (case a=>k_is); (case l=>k_is); (case c=>k_is); (case k=>k_is))
#print axioms PySem.Challenge.cw_glidequeue_k59_whole_told_at_once_is_the_holds
