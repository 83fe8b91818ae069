import PyProof.Rows.All
import Wide.All
import OpenK.AllK
import Wide.FinOn
import Lean
import PyProof.EqAt
import PyProof.EqKinds
import PyProof.TupleCall
import PySem.Challenge.RW_glidequeue_k48_tapes_let_by
set_option Elab.async false
set_option linter.all false
set_option maxRecDepth 100000
def PySem.pq9:Nat->Lean.Syntax->Lean.MacroM (Lean.TSyntax `rcasesPat)
|0,_=>Lean.Macro.throwUnsupported
|n+1,s=>do
 if s.isOfKind `ident then let x:Lean.Ident:=⟨s⟩;`(rcasesPat|$x:ident)
 else if s.isOfKind `Lean.Parser.Term.hole then `(rcasesPat|_)
 else
  let as:=if s.isOfKind `Lean.Parser.Term.tuple then #[s[1][0]]++s[1][2].getSepArgs else s[1].getSepArgs
  let ps<-as.mapM (PySem.pq9 n)
  `(rcasesPat|⟨$ps,*⟩)
def PySem.pn9:Nat->Lean.Syntax->Nat
|0,_=>1
|n+1,s=>if s.isOfKind `ident||s.isOfKind `Lean.Parser.Term.hole then 1 else (if s.isOfKind `Lean.Parser.Term.tuple then #[s[1][0]]++s[1][2].getSepArgs else s[1].getSepArgs).foldl (fun k x=>k+PySem.pn9 n x) 0
noncomputable section
local macro_rules|`(command|def $i:declId $s:optDeclSig $v:declVal)=>`(command|noncomputable def $i:declId $s:optDeclSig $v:declVal)
local macro_rules|`(command|abbrev $i:declId $s:optDeclSig $v:declVal)=>`(command|noncomputable abbrev $i:declId $s:optDeclSig $v:declVal)
local macro_rules|`(tactic|trivial)=>`(tactic|first|exact Or.inl rfl|exact Or.inr rfl|exact Or.inr (Or.inl rfl)|exact Or.inr (Or.inr rfl)|assumption|exact fun _=>rfl|exact fun _ _=>rfl)
theorem r8_(h:True:=by rfl):True:=h
theorem q8_(h:True:=by decide):True:=h
theorem d8_(h:True:=by trivial):True:=h
theorem f8_(h:True:=by with_unfolding_all rfl):True:=h
theorem PySem.oq9{T:Prop}(h:∀G:Prop,(T->G)->G):T:=h T id
local macro_rules|`(tactic|erw[$r,*])=>do
 let t:=r.getElems.map λr=>(⟨r.raw[1]⟩:Lean.Term)
 if t.size==1 then `(tactic|refine $(t[0]!)) else `(tactic|refine ⟨$t,*⟩)
local macro_rules|`(tactic|let $p:term:=$t)=>do
 let q<-PySem.pq9 9 p
 if PySem.pn9 9 p<7 then `(tactic|obtain $q:rcasesPat:=$t) else `(tactic|first|(refine PySem.oq9 fun G e=>?_;obtain $q:rcasesPat:=$t;refine e ?_;clear e G)|obtain $q:rcasesPat:=$t)
local macro_rules|`(#[$a,$b,*])=>`(⟨$a,$b,*⟩)
local macro_rules|`(tactic|exists $a,$b,$c)=>do
 let i:=λx:Lean.Name=>Lean.mkIdent x
 `(tactic|erw[$a $b (λ_ _ _ _ h=>by cases h;subst_vars;rfl) (λ_ _ _ _ _ _=>$c) (λ_ $(i `aM) $(i `A) $(i `outer) $(i `s) $(i `H) $(i `vs) $(i `Q) $(i `E) $(i `hr) $(i `h)=>?_)])
set_option hygiene false
local macro_rules|`(command|inductive $i:declId $c:ctor*)=>do
 let j:=Lean.mkIdent (i.raw[0].getId.appendAfter "_")
 let k:Lean.Ident:=⟨i.raw[0]⟩
 `(inductive $j:ident (vs:List V)(H:Hp)(Q:VK):Prop $c:ctor*
  def $k:ident:Sp:=λvs H Q _=>$j vs H Q)
set_option hygiene true
local macro_rules|`(%[$a,*|$t])=>do
 let c:=λ n=>Lean.mkIdent n
 let n:=t.raw.getId
 let f:Lean.Ident:=c (if n== `az then `au else if n== `cU then `bI else if n== `cH then `bX else `aE)
 let l:List Lean.Term:=a.getElems.toList
 let (l,t)<-if n== `aG then do {let y:=l.getLast!;let u<-`($t $y);pure (l.dropLast,u)} else pure (l,t)
 let z:Lean.Term<-l.foldrM (λ(x r:Lean.Term)=>if x.raw.isOfKind `num then `($f ($(c `pv) $x) $r) else `($f $x $r)) t
 pure z
local macro_rules|`(tactic|let $x:ident:=$t)=>`(tactic|have $x:ident:=$t)
local macro_rules|`(tactic|let $x:ident:$y:term:=$t)=>`(tactic|have $x:ident : $y := $t)
abbrev bU:=PySem.Str->Option PySem.Value
theorem aA{p:Prop}(h:autoParam (p) q8_._auto_1):p:=h
theorem aP{p:Prop}(h:p:=by decide+kernel):p:=h
theorem aw {p:Prop} (h:p:=by lia):p:=h
theorem bZ{p:Prop}(h:p:=by omega):p:=h
theorem Z {α : Sort _} {a : α}:a=a:=rfl
abbrev ag:=PySem.W.Frag
abbrev ah:=PySem.Shared
abbrev ai:=PySem.Program
abbrev aj:=PySem.PyData
abbrev ak:=PySem.Around
abbrev aJ:=@PySem.wpAny_bind
abbrev aQ:=@if_pos
abbrev aV:=@if_neg
abbrev aY:=@Nat.le_refl
abbrev bo:=@List.getElem?_eq_getElem
abbrev bB:=@List.length_map
abbrev bN:=@PySem.wpAny_pure
abbrev bV:=@List.getElem?_map
abbrev bW:=@Rat.le_trans
abbrev cm:=@List.getElem?_eq_some_iff
abbrev cu:=@decide_eq_true
abbrev cw:=@PySem.intBits_le_64
abbrev cy:=@List.length_append
abbrev cC:=@PySem.Heap.lt_size
abbrev cD:=@PySem.Heap.get?_push_of_some
abbrev dg:=@List.mem_cons
abbrev dP:=@decide_eq_false
abbrev eO:=@PySem.PassesOwn.never
abbrev eQ:=@Option.some.inj
abbrev eR:=@Nat.ne_of_lt
abbrev fg:=@List.size_toArray
abbrev fh:=@Int.pow_succ
abbrev fj:=@PySem.Heap.get?_push_size
abbrev fu:=@Rat.le_refl
abbrev fC:=@beq_iff_eq
abbrev fD:=@Int.le_refl
abbrev fM:=@PySem.wpAny_mono
abbrev fN:=@PyProof.Rows.boot_tuple
abbrev fX:=@Nat.zero_le
abbrev fY:=@Bool.and_eq_true
abbrev gk:=@List.not_mem_nil
abbrev gm:=@List.mem_singleton
abbrev gC:=@List.mem_map
abbrev gK:=@Nat.lt_of_lt_of_le
abbrev gL:=@Int.natAbs_mul
abbrev gY:=@Nat.le_trans
abbrev gZ:=@List.mem_of_getElem?
abbrev hJ:=@Int.mul_pos
abbrev ir:=@List.mem_append_right
abbrev iu:=@List.length_range
abbrev iy:=@Int.mul_nonneg
abbrev iX:=@List.all_eq_true
abbrev jd:=@PySem.IntMulOk.of_bits
abbrev jr:=@List.map_append
abbrev jt:=@Bool.false_ne_true
abbrev jI:=@PySem.wpAny_holding
abbrev jJ:=@or_false
abbrev jK:=@PyProof.Rows.boot_list
abbrev jL:=@List.mem_append
abbrev jM:=@List.length_take
abbrev jN:=@List.getElem?_range
abbrev kf:=@PySem.wpAny_field
abbrev kg:=@of_decide_eq_true
abbrev kh:=@List.length_cons
abbrev ki:=@Int.one_mul
abbrev kJ:=@Ne.symm
abbrev kK:=@Int.pow_zero
abbrev lG:=@List.take_succ
abbrev lH:=@List.lookup_cons
abbrev lJ:=@List.append_nil
abbrev lK:=@Bool.true_and
abbrev mj:=@List.getElem?_eq_none
abbrev mq:=@List.getElem?_append_left
abbrev mx:=@Bool.false_and
abbrev nj:=@List.getElem?_append_right
abbrev om:=@PySem.W.Looks.here
abbrev oo:=@Nat.mul_le_mul
abbrev pC:=@PySem.wpAny_standAt
abbrev qQ:=@PySem.wpAny_truthy_bool
abbrev qR:=@PySem.wpAny_newObj_type
abbrev qS:=@Rat.le_antisymm
abbrev qT:=@List.length_drop
abbrev qU:=@List.getElem?_drop
abbrev qV:=@Int.emod_nonneg
abbrev qX:=@PySem.Heap.size_push
abbrev qY:=@Bool.eq_iff_iff
abbrev tL:=@Rat.not_lt
abbrev tN:=@Rat.intCast_le_intCast
abbrev tO:=@PyProof.Rows.boot_abs
abbrev tP:=@Nat.pow_le_pow_right
abbrev tQ:=@List.replicate_succ
abbrev vc:=@PySem.wpAny_call
abbrev vd:=@if_true
abbrev vf:=@Rat.num_divInt_den
abbrev vg:=@Rat.add_zero
abbrev vh:=@PyProof.Rows.boot_str
abbrev vi:=@PyProof.Rows.boot_int
abbrev vj:=@PyProof.Rows.boot_all
abbrev vk:=@List.take_of_length_le
abbrev vm:=@List.mem_iff_getElem?
abbrev vn:=@List.getD_eq_getElem?_getD
abbrev vo:=@List.any_eq_true
abbrev vp:=@Int.emod_lt_of_pos
abbrev xI:=@PySem.wpAny_seqItems
abbrev xJ:=@PySem.wpAny_loadPart_at
abbrev xK:=@PySem.codeAny_mono
abbrev xM:=@PySem.W.mg_of
abbrev xN:=@Nat.lt_of_le_of_lt
abbrev xO:=@Nat.lt_irrefl
abbrev xP:=@List.map_set
abbrev xQ:=@List.length_set
abbrev xR:=@List.getElem_range
abbrev xS:=@Bool.eq_false_iff
abbrev zD:=@PySem.wpAny_passesOwn
abbrev zE:=@PySem.wpAny_of_eq
abbrev zF:=@Rat.num_intCast
abbrev zG:=@Rat.divInt_nonneg_iff_of_pos_right
abbrev zH:=@Rat.den_intCast
abbrev zI:=@PyProof.Rows.callWith_type1
abbrev zJ:=@Option.map_eq_some_iff
abbrev zK:=@Nat.lt_or_ge
abbrev zL:=@List.take_length
abbrev zM:=@List.of_mem_zip
abbrev zN:=@List.mem_of_mem_take
abbrev zO:=@List.mem_filterMap
abbrev zP:=@List.mem_cons_of_mem
abbrev zQ:=@List.length_replicate
abbrev zR:=@List.getElem_mem
abbrev zS:=@List.getElem?_take
abbrev zT:=@List.foldl_append
abbrev zU:=@List.ext_getElem?
abbrev zV:=@Int.mul_le_mul
abbrev zW:=@Int.mul_assoc
abbrev CJ:=@PySem.wpAny_setField_rec
abbrev CK:=@PySem.wpAny_rule
abbrev CL:=@PySem.wpAny_pyIter_list
abbrev CM:=@PySem.wpAny_Call_Name_kw
abbrev CO:=@PySem.call_meets
abbrev CP:=@Rat.le_of_lt
abbrev CQ:=@Rat.intCast_mul
abbrev CS:=@PySem.F.excBase_ValueError
abbrev CT:=@Nat.sub_self
abbrev CU:=@Nat.not_lt_zero
abbrev CV:=@Nat.ne_of_gt
abbrev CW:=@Nat.lt_succ_of_lt
abbrev CY:=@List.map_cons
abbrev CZ:=@List.length_pos_iff
abbrev D5:=@List.getElem?_set_self
abbrev D6:=@List.append_assoc
abbrev D7:=@Int.zero_mul
abbrev D8:=@Int.zero_add
abbrev D9:=@Int.le_of_lt
abbrev De:=@PySem.Heap.get?_update_other
abbrev Df:=@Array.length_toList
abbrev FL:=@PySem.wpAny_setField
abbrev FO:=@PySem.wpAny_onRaise
abbrev FP:=@PySem.wpAny_execs_nil
abbrev FQ:=@PySem.wpAny_call_entry
abbrev FR:=@PySem.wpAny_callSpecial?_slot
abbrev FT:=@PySem.wpAny_attempt
abbrev FU:=@PySem.sizeLine_eq
abbrev FV:=@PySem.W.looks_findIn
abbrev FW:=@decide_eq_true_eq
abbrev FX:=@PySem.codeAny_call_builtin
abbrev FY:=@beq_self_eq_true
abbrev G0:=@Rat.lt_iff
abbrev G1:=@Rat.intCast_lt_intCast
abbrev G2:=@PySem.mem_of_lookup
abbrev G3:=@PySem.W.looks_clsIn
abbrev G4:=@PySem.W.callWith_K
abbrev G6:=@PySem.W.any_some
abbrev G7:=@PySem.Obj.data_mapFields
abbrev G8:=@Nat.le_succ
abbrev G9:=@List.length_eq_zero_iff
abbrev Ga:=@List.flatten_cons
abbrev Gb:=@List.any_cons
abbrev Gd:=@Int.mul_zero
abbrev Ge:=@Int.mul_le_mul_of_nonneg_right
abbrev Gf:=@PySem.Heap.get?_update_self
abbrev Lm:=@PySem.wpAny_pyIter_rangeiter
abbrev Lo:=@PySem.wpAny_loadPart
abbrev Lp:=@PySem.wpAny_isSubtype_exc
abbrev Lq:=@PySem.wpAny_execs_cons
abbrev Lr:=@decide_eq_true_iff
abbrev Ls:=@beq_eq_false_iff_ne
abbrev Lu:=@Std.lt_of_le_of_ne
abbrev Lv:=@Rat.num_nonneg
abbrev Lx:=@Rat.add_le_add_right
abbrev Ly:=@PySem.W.hideAll_get
abbrev Lz:=@PySem.W.cellsFrom_some
abbrev LA:=@PySem.F.slot_zip_next
abbrev LB:=@PySem.F.slot_tuple_iterator_next
abbrev LC:=@PySem.F.excAttr_ValueError
abbrev LD:=@PyProof.Rows.boot_max
abbrev LF:=@PyProof.Rows.boot_isinstance
abbrev LG:=@Option.mem_toList
abbrev LH:=@Nat.lt_succ_iff_lt_or_eq
abbrev LI:=@Nat.le_of_lt
abbrev LJ:=@Nat.add_comm
abbrev LK:=@List.take_zero
abbrev LL:=@List.set_set
abbrev LM:=@List.range_succ
abbrev LN:=@List.nodup_cons
abbrev LO:=@List.mem_of_mem_drop
abbrev LP:=@List.mem_cons_self
abbrev LQ:=@List.mem_append_left
abbrev LR:=@List.getElem?_zip_eq_some
abbrev LS:=@List.getElem?_set_ne
abbrev LU:=@List.getElem?_replicate
abbrev LV:=@List.forIn_cons
abbrev LW:=@List.all_cons
abbrev LX:=@Int.mul_ne_zero
abbrev LY:=@Int.mul_le_mul_of_nonneg_left
abbrev LZ:=@Int.mul_comm
abbrev M0:=@Int.lt_or_le
abbrev M1:=@Bool.not_eq_true'
abbrev M4:=@Bool.and_true
abbrev M5:=@Bool.and_false
abbrev M6:=@Array.getElem?_eq_some_iff
abbrev XM:=@PySem.wpAny_updateSeq_pair
abbrev XN:=@PySem.wpAny_pyNext_range_end
abbrev XO:=@PySem.wpAny_newFunctionEnv_cells
abbrev XQ:=@PySem.wpAny_newFunctionEnv
abbrev XR:=@PySem.wpAny_comprehension_free
abbrev XS:=@PySem.plainObj_wpAny_Assign_Attribute
abbrev XT:=@PySem.codeAny_compStart_list
abbrev XU:=@PySem.codeAny_call_function
abbrev XW:=@Rat.le_of_mul_le_mul_right
abbrev XX:=@Rat.divInt_sub_divInt
abbrev XY:=@PySem.Within.cons
abbrev XZ:=@PySem.W.set_plain
abbrev Y0:=@PySem.W.plainGet_of
abbrev Y1:=@PySem.W.looks_findIn
abbrev Y2:=@PySem.W.codeRec_of
abbrev Y3:=@PySem.Str.cps_append
abbrev Y4:=@PySem.F.plainAttrs_list
abbrev Y5:=@PyProof.Rows.slot_tuple_getitem
abbrev Y6:=@PyProof.Rows.boot_min
abbrev Y7:=@PyProof.Rows.boot_bool
abbrev Y8:=@PyProof.Rows.boot_any
abbrev Y9:=@Option.bind_eq_some_iff
abbrev Ya:=@PySem.Obj.isFreed_of_fields
abbrev Yb:=@Nat.lt_succ_self
abbrev Yc:=@Nat.add_sub_cancel_left
abbrev Yd:=@List.mem_iff_getElem
abbrev Ye:=@List.getLast?_eq_getElem?
abbrev Yf:=@List.filterMap_cons
abbrev Yg:=@List.drop_eq_getElem_cons
abbrev Yh:=@List.contains_cons
abbrev Yi:=@Int.toNat_natCast
abbrev Yj:=@Int.mul_nonneg_of_nonpos_of_nonpos
abbrev Yk:=@Int.lt_trichotomy
abbrev Yl:=@Int.fdiv_eq_ediv_of_nonneg
abbrev Ym:=@PySem.Heap.get?_push_cases
abbrev Yn:=@PySem.F.slot_range_reversed
abbrev Yo:=@Array.toList_append
abbrev afT:=@PySem.F.entry_tuple_iterator_next
abbrev afU:=@PySem.F.args_tuple_iterator_next_1
abbrev afV:=@List.drop_append_of_le_length
abbrev afW:=@Array.all_eq_true_iff_forall_mem
namespace _L
open PySem PySem.Spec PyProof.Rows
abbrev Key:=Sum Int Str
def Uh:Key->Value->Bool | .inl k,v=>Value.isInt k v | .inr x,v=>Value.isStrOf x v
def a6T(w:World):Key->Int | .inl k=>hashInt k | .inr x=>hashStr w x
theorem sA:∀{k:Key}{v:Value},Uh k v=true->(∃i t,k=Sum.inl i/\v=Value.int i t)\/(∃x t,k=Sum.inr x/\v=Value.str x t) | .inl i,v,h=>by let(t,e):=Value.isInt_shape (k:=i) (v:=v) h;erw[.inl #[i,t,Z,e]] | .inr x,v,h=>by let(t,e):=Value.isStrOf_shape (x:=x) (v:=v) h;erw[.inr #[x,t,Z,e]]
theorem a6S(a b:Int):decide ((Sum.inl a:Key)=Sum.inl b)=(a==b):=by
 by_cases e:a=b
 ·subst e;simp
 ·let h:¬(Sum.inl a:Key)=Sum.inl b:=λq=>e (Sum.inl.inj q)
  rw[dP h];exact(Ls.mpr e).symm
theorem a6P(a b:Str):decide ((Sum.inr a:Key)=Sum.inr b)=decide (a=b):=by
 by_cases e:a=b
 ·subst e;simp
 ·let h:¬(Sum.inr a:Key)=Sum.inr b:=λq=>e (Sum.inr.inj q)
  rw[dP h,dP e]
theorem a6R(a:Int)(b:Str):decide ((Sum.inl a:Key)=Sum.inr b)=false:=dP (λq=>nomatch q)
theorem a6Q(a:Str)(b:Int):decide ((Sum.inr a:Key)=Sum.inl b)=false:=dP (λq=>nomatch q)
def Io(prog:ai)(w:World):PySem.KeyKind prog w Key where
 is:=Uh
 hash:=a6T w
 inj:=λv a b ha hb=>by
  rcases sA ha with⟨i,t,rfl,rfl⟩|⟨x,t,rfl,rfl⟩
  ·rcases sA hb with⟨j,u,rfl,e⟩|⟨y,u,rfl,e⟩
   ·injection e with e1 _;rw[e1]
   ·erw[nomatch e]
  ·rcases sA hb with⟨j,u,rfl,e⟩|⟨y,u,rfl,e⟩
   ·erw[nomatch e]
   ·injection e with e1 _;rw[e1]
 byValue:=λk v h=>by rcases sA h with⟨i,t,rfl,rfl⟩|⟨x,t,rfl,rfl⟩<;>rfl
 pyHash:=λhv h=>by
  rcases sA hv with⟨i,t,rfl,rfl⟩|⟨x,t,rfl,rfl⟩
  ·erw[wpAny_pyHash_int h]
  ·erw[wpAny_pyHash_str h]
 eqBool:=λhu hv h=>by
  rcases sA hu with⟨i,t,rfl,rfl⟩|⟨x,t,rfl,rfl⟩
  ·rcases sA hv with⟨j,u,rfl,rfl⟩|⟨y,u,rfl,rfl⟩
   ·rw[a6S]at h;erw[wpAny_eqBool_int h]
   ·rw[a6R]at h;erw[SeqAt.EqAt.int_str i t y u _ _ _ _ h]
  ·rcases sA hv with⟨j,u,rfl,rfl⟩|⟨y,u,rfl,rfl⟩
   ·rw[a6Q]at h;erw[SeqAt.EqAt.str_int x t j u _ _ _ _ h]
   ·rw[a6P]at h;erw[wpAny_eqBool_str h]
 «strs»:=λk x t v h=>by
  rcases sA h with⟨i,u,rfl,e⟩|⟨y,u,rfl,e⟩
  ·erw[nomatch e]
  ·injection e with e1 _
   subst e1;cases v<;>rfl
inductive V where |bM|bl (b:Bool)|int (i:Int)|str (x:Str)|zl (b:Array UInt8)|F3 (b:UInt64)|ref (a:Addr)|ty (n:String) deriving DecidableEq
def RelV:V->Value->Prop | .bM,u=>u=Value.none | .bl b,u=>u=Value.bool b | .int i,u=>∃t,u=Value.int i t | .str x,u=>∃t,u=Value.str x t | .zl b,u=>∃t,u=Value.bytes b t | .F3 b,u=>∃t,u=Value.float b t | .ref a,u=>u=Value.ref a | .ty n,u=>u=Value.type n
abbrev Vals:List V->List Value->Prop:=Paired RelV
theorem Vals.length(r:Vals xs us):xs.length=us.length:=Paired.length r
theorem Vals.get:∀{xs:List V}{us:List Value}{i:Nat}{x:V},Vals xs us->xs[i]? =some x->∃u,us[i]? =some u/\RelV x u |_,_,_,_,.nil,e=>by simp at e |_,_,0,_,.cons r _,e=>by simp at e;subst e;erw[_,rfl,r] |_,_,i+1,x,.cons _ t,e=>by let(u,h1,h2):=Vals.get (i:=i) (x:=x) t (by simpa using e);erw[u,by simpa using h1,h2]
theorem Vals.set{x:V}{u:Value}(r:RelV x u):∀{xs:List V}{us:List Value}(i:Nat),Vals xs us->Vals (xs.set i x) (us.set i u) |_,_,_,.nil=>.nil |_,_,0,.cons _ t=>.cons r t |_,_,i+1,.cons q t=>.cons q (Vals.set r i t)
theorem Vals.append:∀{xs ys:List V}{us ws:List Value},Vals xs us->Vals ys ws->Vals (xs++ys) (us++ws) |_,_,_,_,.nil,s=>s |_,_,_,_,.cons r t,s=>.cons r (Vals.append t s)
theorem Vals.take:∀{xs:List V}{us:List Value}(n:Nat),Vals xs us->Vals (xs.take n) (us.take n) |_,_,0,_=>.nil |_,_,_+1,.nil=>.nil |_,_,n+1,.cons r t=>.cons r (Vals.take n t)
theorem Vals.drop:∀{xs:List V}{us:List Value}(n:Nat),Vals xs us->Vals (xs.drop n) (us.drop n) |_,_,0,r=>r |_,_,_+1,.nil=>.nil |_,_,n+1,.cons _ t=>Vals.drop n t
def qM:Option V->Option Value->Prop |some v,some u=>RelV v u |none,none=>True |_,_=>False
def KV{κ:Type}:List (κ×V)->List (κ×Value)->Prop:=Paired λ(p:κ×V)(q:κ×Value)=>p.1=q.1/\RelV p.2 q.2
def kV:Key->V | .inl i=>.int i | .inr x=>.str x
inductive HO where /--a list -/ |lst (xs:List V) /--a tuple (never changes) -/ |tup (xs:List V) /--a dict Yx keys are ints and texts; one Yx keys are tuples of ints and texts (tV empty one is both) -/ |dK (fm:List (Key×V))|dT (fm:List (List Key×V)) /--a set of ints: its members,its size -/ |set (S:Int->Bool)(n:Nat) /--an instance of tV class at C,its dict at dx,its attributes -/ |ins (C dx:Addr)(fs:List (Str×V)) /--tV dict of tV instance at x -/ |own (x:Addr) /--tV dict of an exception -/ |xd (fs:List (Str×V)) /--a bound method,f of x -/ |met (f x:Addr) /--a range object lo,lo+1,.. below hi -/ |vJ (lo hi:Int) /--a Zb ag5 is known to tV object (tV ag9; a dict while a loop walks it): read,never written while it is so -/ |oU (o:Obj)(u:HO) /--a code agn table -/ |rA (ps:Array Value) /--any other Zb,by what is true of its one object (a def of agh own: ahn a S n:=HO.ext λh=>..) -/ |ext (φ:Heap->Prop)
abbrev Hp:=Addr->Option HO
def upd(H:Hp)(a:Addr)(o:HO):Hp:=λb=>if b=a then some o else H b
theorem bP:upd H a o a=some o:=by unfold upd;rw[aQ rfl]
theorem aU(h:b≠a):upd H a o b=H b:=by unfold upd;rw[aV h]
theorem B5{H:Hp}{a b:Addr}{o u:HO}(h:H a=some o)(h':H b=some u)(d:o≠u):a≠b:=by intro e;subst e;rw[h]at h';erw[d (eQ h')]
theorem dH{H:Hp}{a b:Addr}{o:HO}(h:H a=some o)(h':H b=none):a≠b:=by intro e;subst e;rw[h]at h';cases h'
section
variable (P:ai) (w:World)
def gj(H:Hp)(h:Heap)(a:Addr):HO->Prop | .lst xs=>xs.length<=sizeLine/\∃(its:List Value)(n:Nat),Vals xs its/\h.get? a=some {cls:=.type "list",data:=.seq its.toArray n} | .tup xs=>xs.length<=sizeLine/\∃its:List Value,Vals xs its/\IsTup h a its.toArray | .dK fm=>fm.length<=sizeLine/\(a==sysModules)=false/\∃vs,KV fm vs/\h.DictOf (Io P w) a vs | .dT fm=>fm.length<=sizeLine/\(a==sysModules)=false/\∃xs:List (List Key×Addr×Value),Paired (λ(p:List Key×V)(q:List Key×Addr×Value)=>p.1=q.1/\H q.2.1=some (.tup (p.1.map kV))/\RelV p.2 q.2.2) fm xs/\∃o es ep,h.get? a=some o/\o.ExactDict/\o.data= .dict es ep/\es.toList=xs.map (entryOfKey (tupleKind (Io P w)))/\(xs.map (·.1)).Nodup | .set S n=>h.SetOf (intKind P w) a S n | .ins C dx fs=>H dx=some (.own a)/\fs.length<=1000/\dx≠a/\h.get? a=some (PySem.W.instObj C dx)/\∃mA,h.Ns1 dx mA/\(∀f,qM (fs.lookup f) (mA f))/\PySem.Within mA (fs.map (·.1)) | .own _=>∃o,h.get? a=some o | .xd fs=>∃mA,h.Ns1 a mA/\∀f,qM (fs.lookup f) (mA f) | .vJ lo hi=>∃t u v,h.get? a=some {cls:=.type "range",data:=.fields (List.toArray [.int lo t,.int hi u,.int 1 v])} | .oU o u=>h.get? a=some o/\gj H h a u | .rA ps=>h.get? a=some {cls:=.none,data:=.fields ps} | .met f x=>h.get? a=some (PySem.W.methodObj (.ref f) (.ref x)) | .ext φ=>φ h/\(∃o,h.get? a=some o)/\∀h1 h2:Heap,φ h1->(∀o,h1.get? a=some o->h2.get? a=some o)->φ h2
def fb(H:Hp)(h:Heap):Prop:=∀a o,H a=some o->gj P w H h a o
end
section
variable {P:ai}{w:World}{H H':Hp}{h h':Heap}{a:Addr}{o:HO}
theorem gj.lt(x:gj P w H h a o):a<h.objs.size:=by cases o with |lst xs=>let(_,_,_,_,e):=x;erw[cC e] |tup xs=>let(_,_,_,p):=x;erw[p.lt] |dK fm=>let(_,_,_,_,o,_,_,e,_):=x;erw[cC e] |dT fm=>let(_,_,_,_,o,_,_,e,_):=x;erw[cC e] |set S n=>let(o,_,_,_,e,_):=x;erw[cC e] |ins C dx fs=>let(_,_,_,e,_):=x;erw[cC e] |own y=>let(_,e):=x;erw[cC e] |xd fs=>let(_,(_,_,_,e,_),_):=x;erw[cC e] |vJ lo hi=>let(_,_,_,e):=x;erw[cC e] |oU ob u=>let(e,_):=x;erw[cC e] |rA ps=>erw[cC (show h.get? a=some _ from x)] |met f y=>erw[cC (show h.get? a=some _ from x)] |ext φ=>let(_,(_,e),_):=x;erw[cC e]
theorem Paired.TC{α β:Type}{F G:α->β->Prop}:∀{l₁:List α}{l₂:List β},Paired F l₁ l₂->(∀a b,F a b->G a b)->Paired G l₁ l₂ |_,_,.nil,_=>.nil |_,_,.cons r t,f=>.cons (f _ _ r) (Paired.TC t f)
theorem gj.ny(x:gj P w H h a o)(k:∀b u,(b=a\/H b=some (.own a))->h.get? b=some u->h'.get? b=some u) (ho:∀b,H b=some (.own a)->H' b=some (.own a))(ht:∀b xs,H b=some (.tup xs)->H' b=some (.tup xs)):gj P w H' h' a o:=by induction o with |lst xs=>let(z,its,n,r,e):=x;erw[z,its,n,r,k _ _ (.inl Z) e] |tup xs=>let(z,its,r,ob,e,c):=x;erw[z,its,r,ob,k _ _ (.inl Z) e,c] |dK fm=>let(z,y,vs,r,ob,es,ep,e,c):=x;erw[z,y,vs,r,ob,es,ep,k _ _ (.inl Z) e,c] |dT fm=>let(z,y,xs,r,ob,es,ep,e,c):=x;erw[z,y,xs,Paired.TC r λp q z=>#[z.1,ht _ _ z.2.1,z.2.2],ob,es,ep,k _ _ (.inl Z) e,c] |set S n=>let(ob,es,ep,t,e,c):=x;erw[ob,es,ep,t,k _ _ (.inl Z) e,c] |ins C dx fs=>let(d,z,ne,e,mA,(od,es,ep,e2,c),r):=x;erw[ho _ d,z,ne,k _ _ (.inl Z) e,mA,#[od,es,ep,k _ _ (.inr d) e2,c],r] |own y=>let(ob,e):=x;erw[ob,k _ _ (.inl Z) e] |xd fs=>let(mA,(od,es,ep,e,c),r):=x;erw[mA,#[od,es,ep,k _ _ (.inl Z) e,c],r] |vJ lo hi=>let(t,u,v,e):=x;erw[t,u,v,k _ _ (.inl Z) e] |oU ob u ih=>let(e,q):=x;erw[k _ _ (.inl Z) e,ih q] |rA ps=>let e:h.get? a=some {cls:=.none,data:=.fields ps}:=x;show h'.get? a=some {cls:=.none,data:=.fields ps};erw[k a _ (.inl Z) e] |met f y=>let e:h.get? a=some (PySem.W.methodObj (.ref f) (.ref y)):=x;show h'.get? a=some (PySem.W.methodObj (.ref f) (.ref y));erw[k a _ (.inl Z) e] |ext φ=>let(p,(o,e),st):=x;erw[st _ _ p λo q=>k _ _ (.inl Z) q,#[o,k _ _ (.inl Z) e],st]
theorem fb.lt(x:fb P w H h)(e:H a=some o):a<h.objs.size:=(x a o e).lt
theorem fb.fresh(x:fb P w H h)(e:h.objs.size<=a):H a=none:=by cases q:H a with |none=>rfl |some u=>erw[absurd (gK (x.lt q) e) (xO _)]
theorem fb.kept(x:fb P w H h)(k:∀b u,h.get? b=some u->h'.get? b=some u):fb P w H h':=λa o e=>(x a o e).ny (λb u _ q=>k b u q) (λ_ q=>q) λ_ _ q=>q
theorem fb.laid(x:fb P w H h)(k:∀b u,h.get? b=some u->h'.get? b=some u)(hp:h.objs.size<=a)(new:gj P w (upd H a o) h' a o):fb P w (upd H a o) h':=λb u e=>by
 let hn:=x.fresh hp;by_cases hb:b=a
 ·subst hb;rw[bP]at e;cases e;erw[new]
 ·rw[aU hb]at e
  exact(x b u e).ny (λc v _ q=>k c v q) (λc q=>by rw[aU (dH q hn)];erw[q]) λc xs q=>by rw[aU (dH q hn)];erw[q]
end
def Rd(H:Hp)(a:Addr)(u:HO):Prop:=H a=some u\/∃o,H a=some (.oU o u)
theorem Rd.ok{P:ai}{w:World}{H:Hp}{h:Heap}{a:Addr}{u:HO}(r:Rd H a u)(x:fb P w H h):gj P w H h a u:=by
 rcases r with r|⟨o,r⟩
 ·erw[x a u r]
 ·let(_,q):=x a _ r
  erw[q]
def FF:Option HO->Prop |some (.lst _)=>True |some (.dK _)=>True |some (.dT _)=>True |some (.set _ _)=>True |some (.ins _ _ _)=>True |some (.ext _)=>True |_=>False
section
variable {P:ai}{w:World}{H:Hp}{h h':Heap}{x e:Addr}{o':HO}
theorem fb.write(ok:fb P w H h)(mu:FF (H x))(he:e=x\/H e=some (.own x))(k:∀b u,b≠e->h.get? b=some u->h'.get? b=some u)(yV:∃u,h'.get? e=some u) (new:gj P w (upd H x o') h' x o'):fb P w (upd H x o') h':=λb u q=>by
 let SQ:∀c y,H c=some (.own y)->c≠x:=λc y r z=>by subst z;rw[r]at mu;erw[mu]
 let a5f:∀c xs,H c=some (.tup xs)->c≠x:=λc xs r z=>by subst z;rw[r]at mu;erw[mu]
 by_cases hb:b=x
 ·subst hb;rw[bP]at q;cases q;erw[new]
 ·rw[aU hb]at q
  by_cases wH:b=e
  ·let q':H b=some (.own x):=by
    rcases he with z|z
    ·erw[absurd (wH.trans z) hb]
    ·rw[wH];erw[z]
   rw[q]at q';cases q';let(v,hv):=yV;erw[v,by rw[wH];erw[hv]]
  ·refine(ok b u q).ny (λc v hc r=>k c v ?_ r) (λc r=>by rw[aU (SQ c b r)];erw[r]) λc xs r=>by rw[aU (a5f c xs r)];erw[r]
   rcases hc with rfl|hc
   ·erw[wH]
   ·rintro rfl
    rcases he with z|z
    ·erw[SQ c b hc z]
    ·rw[hc]at z;cases z;erw[hb rfl]
end
structure Un(fs ex:List Addr)(H H':Hp)(h h':Heap):Prop where
 keep:∀b o,h.get? b=some o->H b=none->b∉fs->b∉ex->h'.get? b=some o
 slot:∀b o,h.get? b=some o->H b=none->b∈fs->b∉ex->∃sl,h'.get? b=some {o with slots:=sl}
 free:∀b o,h.get? b=some o->H b=none->b∉ex->H' b=none
 there:∀b o,h.get? b=some o->b∉ex->∃o',h'.get? b=some o'
 lM:∀b xs,H b=some (.tup xs)->H' b=some (.tup xs)
 kU:∀b o u,H b=some (.oU o u)->H' b=some (.oU o u)
 lO:∀b ps,H b=some (.rA ps)->∃more,H' b=some (.rA (ps++more))
section
variable {fs kT ex p4:List Addr}{H H1 H2:Hp}{h h1 h2 h':Heap}{a x e:Addr}{o:HO}
theorem Un.any(u:Un fs ex H H1 h h1){b:Addr}{ob:Obj}(q:h.get? b=some ob)(n:H b=none)(hx:b∉ex):∃sl,h1.get? b=some {ob with slots:=sl}:=by
 by_cases hb:b∈fs
 ·erw[u.slot b ob q n hb hx]
 ·erw[ob.slots,u.keep b ob q n hb hx]
theorem Un.kept(k:∀b u,h.get? b=some u->h'.get? b=some u):Un fs ex H H h h':=#[λb ob q _ _ _=>k b ob q,λb ob q _ _ _=>#[ob.slots,k b ob q],λ_ _ _ n _=>n,λb ob q _=>#[ob,k b ob q],λ_ _ q=>q,λ_ _ _ q=>q,λ_ ps q=>#[#[],by rw[q];simp]]
theorem Un.refl:Un fs ex H H h h:=Un.kept λ_ _ q=>q
theorem Un.laid(k:∀b u,h.get? b=some u->h'.get? b=some u)(hp:h.objs.size<=a)(hn:H a=none):Un fs ex H (upd H a o) h h' where
 keep:=λb u q _ _ _=>k b u q
 slot:=λb u q _ _ _=>#[u.slots,k b u q]
 free:=λb u q n _=>by rw[aU (eR (gK (cC q) hp))];erw[n]
 there:=λb u q _=>#[u,k b u q]
 lM:=λb xs q=>by rw[aU (dH q hn)];erw[q]
 kU:=λb u xs q=>by rw[aU (dH q hn)];erw[q]
 lO:=λb ps q=>#[#[],by rw[aU (dH q hn),q];simp]
theorem Un.write(mu:FF (H x))(he:e=x\/H e=some (.own x))(k:∀b u,b≠e->h.get? b=some u->h'.get? b=some u)(yV:∃u,h'.get? e=some u):Un fs ex H (upd H x o) h h':=by
 let hx:∀b,H b=none->b≠x:=λb n z=>by subst z;rw[n]at mu;erw[mu]
 let hb:∀b,H b=none->b≠e:=λb n z=>by
  subst z;rcases he with r|r
  ·erw[hx b n r]
  ·rw[n]at r;cases r
 let hm:∀b u,H b=some u->¬FF (some u)->b≠x:=λb u q nm z=>by subst z;rw[q]at mu;erw[nm mu]
 erw[λb u q n _ _=>k b u (hb b n) q,λb u q n _ _=>#[u.slots,k b u (hb b n) q],λb u q n _=>by rw[aU (hx b n)];erw[n],λb u q _=>?_,λb xs q=>by rw[aU (hm b _ q λz=>z)];erw[q],λb u xs q=>by rw[aU (hm b _ q λz=>z)];erw[q],λb ps q=>#[#[],by rw[aU (hm b _ q λz=>z),q];simp]];by_cases wH:b=e
 ·subst wH;erw[yV]
 ·erw[u,k b u wH q]
end
def Dw(h:Heap)(H:Hp):List Addr:=(List.range h.objs.size).filter λa=>(H a).isSome
def sJ(h:Heap)(H:Hp):Heap:=PySem.W.hideAll h (Dw h H)
theorem a88(h:Heap)(H:Hp):(sJ h H).objs.size=h.objs.size:=PySem.W.hideAll_size _ _
theorem a89(e:h.get? b=some o)(n:H b=none):(sJ h H).get? b=some o:=Ly _ e λhm=>by let q:(H b).isSome=true:=(List.mem_filter.mp hm).2;rw[n]at q;simp at q
theorem a5a(e:(sJ h H).get? b=some o):h.get? b=some o/\H b=none:=by let e':h.get? b=some o:=PySem.W.of_hideAll (Dw h H) e;erw[e',?_];cases q:H b with |none=>rfl |some x=>let hm:b∈Dw h H:=List.mem_filter.mpr #[List.mem_range.mpr (cC e'),by simp[q]];let z:(sJ h H).get? b=none:=PySem.W.hideAll_none (Dw h H) hm;rw[z]at e;cases e
structure Mod(K:ag)(mg:bU)(aD:Heap):Prop where
 qe:K.In aD
 glob:aD.Ns mainGlobals mg
 blt:∃mb,aD.Ns builtinsNs mb/\∀x:Str,x≠"__name__"->mb x=bootBuiltins x
 nolimit:aD.NoLimit
structure Cx where
 prog:ai
 w:World
 K:ag
 mg:bU
 aD:Heap
 A:ak
 N:List Str
 s₀:ah
 H₀:Hp
 env:Env
 outer:List Env
 stack:List Env
 ex:List Addr
 fn:Str->Bool
 calm:Bool
 pn:List (Addr×Obj)
 xe:Value->ah->Prop
def fV(l:List Env):List Addr:=l.filterMap (·.frame)
abbrev Cx.fs(X:Cx):List Addr:=fV X.outer
def KY(sc:Scope)(x:Str):Prop:=sc.names.lookup x=some .local\/sc.names.lookup x=some .cell\/sc.names.lookup x=some .free
def Loc(sc:Scope)(x:Str):Prop:=sc.names.lookup x=some .local\/sc.names.lookup x=some .cell
def Look(env:Env)(h:Heap)(m:bU)(x:Str)(u:Value):Prop:=(env.kindOf x=some .local/\m x=some u)\/((env.kindOf x=some .cell\/env.kindOf x=some .free)/\∃c,env.cells.lookup x=some c/\h.IsCell c (some u))
structure Cx.Ok(X:Cx):Prop where
 mod:Mod X.K X.mg X.aD
 kind:X.env.scope.kind= .function
 glob:X.env.globals=mainGlobals
 blt:X.env.builtins=builtinsNs
 above:X.s₀.heap.objs.size<=X.env.locals
 inj:∀x y c,X.env.cells.lookup x=some c->X.env.cells.lookup y=some c->x=y
 has:∀x,(X.env.kindOf x=some .cell\/X.env.kindOf x=some .free)->∃c,X.env.cells.lookup x=some c
 uR:∀x c,X.fn x=true->X.env.cells.lookup x=some c->X.s₀.heap.objs.size<=c
 hd:X.calm=true->X.A.handled=none
 frames:X.A.frames=some X.stack
 vz:X.stack=X.outer\/(X.stack=X.env::X.outer/\X.env.frame=some X.env.locals)
 BR:∀b∈X.ex,b≠X.env.locals/\∀x c,X.env.cells.lookup x=some c->c≠b
 bs:∀b o,X.aD.get? b=some o->X.s₀.heap.get? b=some o/\X.H₀ b=none
 mY:X.aD.objs.size<=X.s₀.heap.objs.size
 uu:∀b o,X.aD.get? b=some o->b∉X.ex
 qA:∀b∈X.ex,b∉X.fs
 kD:X.s₀.heap.FunFrames X.aD X.outer
 oW:∀b∈X.fs,X.H₀ b=none
structure Inv(X:Cx)(ay:List (Addr×Obj))(O:List (Option V))(H:Hp)(s:ah):Prop where
 ok:X.Ok
 os:s.os=X.s₀.os
 bare:AllBare s.gens
 aD:Un X.fs X.ex X.H₀ H X.s₀.heap s.heap
 loc:∃m,s.heap.Ns X.env.locals m/\∀(i:Nat)(x:Str)(v:V),X.N[i]? =some x->O[i]? =some (some v)->KY X.env.scope x->∃u,RelV v u/\Look X.env s.heap m x u
 cell:∀x c,X.env.cells.lookup x=some c->∃v,s.heap.IsCell c v
 free:H X.env.locals=none
 kW:∀x c,X.env.cells.lookup x=some c->H c=none
 pin:∀p∈X.pn++ay,s.heap.get? p.1=some p.2/\H p.1=none/\p.1≠X.env.locals/\p.1∉X.fs/\∀v,p.2.data≠ .cell v
 bp:fb X.prog X.w H s.heap
 len:O.length=X.N.length
section
variable {X:Cx}{ay:List (Addr×Obj)}{O:List (Option V)}{H H':Hp}{s:ah}{h':Heap}
theorem Cx.Ok.a5q(ok:X.Ok){b:Addr}{o:Obj}(e:X.aD.get? b=some o):b∉X.fs:=λhb=>by have:=(ok.kD.mem hb).1;rw[e]at this;cases this
theorem Inv.bs(I:Inv X ay O H s):∀b o,X.aD.get? b=some o->s.heap.get? b=some o/\H b=none:=λb o e=>#[I.aD.keep b o (I.ok.bs b o e).1 (I.ok.bs b o e).2 (I.ok.a5q e) (I.ok.uu b o e),I.aD.free b o (I.ok.bs b o e).1 (I.ok.bs b o e).2 (I.ok.uu b o e)]
theorem Inv.bk(I:Inv X ay O H s):∀b o,X.aD.get? b=some o->s.heap.get? b=some o:=λb o e=>(I.bs b o e).1
theorem Inv.mod(I:Inv X ay O H s):Mod X.K X.mg X.aD:=I.ok.mod
theorem Inv.fG(I:Inv X ay O H s):X.K.In s.heap:=I.ok.mod.qe.keeps I.bk
theorem Inv.lt(I:Inv X ay O H s):X.env.locals<s.heap.objs.size:=let#[_,hn,_]:=I.loc;hn.lt
theorem Inv.sz(I:Inv X ay O H s):X.s₀.heap.objs.size<=s.heap.objs.size:=gY I.ok.above (LI I.lt)
theorem Inv.a5o(I:Inv X ay O H s){a:Addr}(h:s.heap.objs.size<=a):a∉X.fs:=λhb=>by let(_,o,ho,_):=I.ok.kD.mem hb;erw[absurd (gK (cC ho) (gY I.sz h)) (xO _)]
theorem Inv.m6(I:Inv X ay O H s):∀x c,X.env.cells.lookup x=some c->c≠X.env.locals:=λx c e z=>by let(v,o,ho,hd):=I.cell x c e;let(m,(o',es,ep,oO,Jm,_),_):=I.loc;rw[z,oO]at ho;cases ho;rw[Jm]at hd;cases hd
theorem Inv.kD(I:Inv X ay O H s):s.heap.FunFrames X.aD X.outer:=by
 let all:∀(l:List Env),(∀b∈fV l,b∈X.fs)->X.s₀.heap.FunFrames X.aD l->s.heap.FunFrames X.aD l:=by intro l;induction l with |nil=>intro _ _;trivial |cons env r ih=>intro hs hl;let(hk,(L,o,hf,hn,ho,hd),hr):=hl;let hL:L∈X.fs:=hs L (by unfold fV;rw[Yf,hf];erw[LP]);let(sl,e):=I.aD.slot L o ho (I.ok.oW L hL) hL λz=>I.ok.qA L z hL;erw[hk,#[L,_,hf,hn,e,hd],ih (λb hb=>hs b (by unfold fV;rw[Yf,hf];erw[zP _ hb])) hr]
 erw[all X.outer (λ_ hb=>hb) I.ok.kD]
theorem Inv.stack(I:Inv X ay O H s):s.heap.FunFrames X.aD X.stack:=by
 rcases I.ok.vz with e|⟨e,hf⟩
 ·rw[e];erw[I.kD]
 ·rw[e]
  let(m,hn,_):=I.loc;erw[.cons (by rw[I.ok.kind];decide) hf hn ?_ I.kD];erw[Heap.get?_none_of_le (gY I.ok.mY I.ok.above)]
theorem Inv.Gw(I:Inv X ay O H s):∀b∈fV X.stack,b∈X.env.locals::X.fs:=λb hb=>by
 rcases I.ok.vz with e|⟨e,hf⟩
 ·rw[e]at hb;erw[zP _ hb]
 ·rw[e]at hb
  unfold fV at hb;rw[Yf,hf]at hb;erw[hb]
theorem Inv.DH(I:Inv X ay O H s):∀b∈fV X.stack,H b=none:=λb hb=>by
 rcases dg.mp (I.Gw b hb)with e|hb
 ·rw[e];erw[I.free]
 ·let(_,o,ho,_):=I.ok.kD.mem hb
  erw[I.aD.free b o ho (I.ok.oW b hb) λz=>I.ok.qA b z hb]
theorem Inv.step{t':Nat}{ch:List Addr}(I:Inv X ay O H s) (qk:∀b∈ch,(b∈X.ex\/X.s₀.heap.objs.size<=b)/\b≠X.env.locals/\(∀x c,X.env.cells.lookup x=some c->c≠b)/\∀p∈X.pn++ay,p.1≠b) (keep:∀b o,b≠X.env.locals->b∉X.fs->b∉ch->s.heap.get? b=some o->H b=none->h'.get? b=some o) (slot:∀b o,b≠X.env.locals->b∈X.fs->b∉ch->s.heap.get? b=some o->H b=none->∃sl,h'.get? b=some {o with slots:=sl})(free:∀b o,b∉ch->s.heap.get? b=some o->H b=none->H' b=none) (there:∀b o,b∉ch->s.heap.get? b=some o->∃o',h'.get? b=some o') (lM:∀b xs,H b=some (.tup xs)->H' b=some (.tup xs))(kU:∀b o u,H b=some (.oU o u)->H' b=some (.oU o u))(lO:∀b ps,H b=some (.rA ps)->∃more,H' b=some (.rA (ps++more))) (ns:∀m,s.heap.Ns X.env.locals m->h'.Ns X.env.locals m)(bp:fb X.prog X.w H' h')(hg:AllBare g'): Inv X ay O H' {s with heap:=h',gens:=g',drawn:=d',toks:=t'}:=by
 let T8:∀b o,X.s₀.heap.get? b=some o->b≠X.env.locals:=λb o e=>eR (gK (cC e) I.ok.above);let Ep:∀b o,X.s₀.heap.get? b=some o->b∉X.ex->b∉ch:=λb o e hx hb=>by
  rcases(qk b hb).1 with z|z
  ·erw[hx z]
  ·erw[absurd (gK (cC e) z) (xO _)]
 let cellK:∀x c,X.env.cells.lookup x=some c->∀v,s.heap.IsCell c v->h'.IsCell c v:=λx c e v #[o,ho,hd]=>by
  let B6:c∉ch:=λz=>(qk c z).2.2.1 x c e rfl;by_cases hc:c∈X.fs
  ·let(sl,q):=slot c o (I.m6 x c e) hc B6 ho (I.kW x c e)
   erw[_,q,hd]
  ·erw[o,keep c o (I.m6 x c e) hc B6 ho (I.kW x c e),hd]
 erw[I.ok,I.os,hg,#[λb o e n hb hx=>?_,λb o e n hb hx=>?_,λb o e n hx=>?_,λb o e hx=>?_,λb xs e=>lM b xs (I.aD.lM b xs e),λb o xs e=>kU b o xs (I.aD.kU b o xs e),λb ps e=>?_],?_,λx c e=>?_,?_,λx c e=>?_,λp hp=>?_,bp,I.len]
 ·erw[keep b o (T8 b o e) hb (Ep b o e hx) (I.aD.keep b o e n hb hx) (I.aD.free b o e n hx)]
 ·let(sl,e1):=I.aD.slot b o e n hb hx
  let(GN,e2):=slot b _ (T8 b o e) hb (Ep b o e hx) e1 (I.aD.free b o e n hx);erw[GN,e2]
 ·let(o',e1):=I.aD.there b o e hx
  erw[free b o' (Ep b o e hx) e1 (I.aD.free b o e n hx)]
 ·let(o',e1):=I.aD.there b o e hx
  erw[there b o' (Ep b o e hx) e1]
 ·let(m1,e1):=I.aD.lO b ps e
  let(m2,e2):=lO b _ e1;erw[m1++m2,by rw[e2,Array.append_assoc]]
 ·let(m,hn,hl):=I.loc
  erw[m,ns m hn,λi x v e1 e2 e3=>?_];let(u,r,l):=hl i x v e1 e2 e3;erw[u,r,?_];rcases l with l|⟨k,c,e,z⟩
  ·erw[.inl l]
  ·erw[.inr #[k,c,e,cellK x c e _ z]]
 ·let(v,z):=I.cell x c e
  erw[v,cellK x c e v z]
 ·let(m,(o,_,_,ho,_),_):=I.loc
  erw[free _ o (λz=>(qk _ z).2.1 Z) ho I.free]
 ·let(v,o,ho,hd):=I.cell x c e
  erw[free c o (λz=>(qk c z).2.2.1 x c e Z) ho (I.kW x c e)]
 ·let(e,n,ne,nf,d):=I.pin p hp
  let B6:p.1∉ch:=λz=>(qk p.1 z).2.2.2 p hp rfl;erw[keep p.1 p.2 ne nf B6 e n,free p.1 p.2 B6 e n,ne,nf,d]
theorem Inv.un(I:Inv X ay O H s)(u:Un X.fs [] H H' s.heap h')(bp:fb X.prog X.w H' h'):Inv X ay O H' {s with heap:=h',toks:=t'}:=by let(m,(o,es,ep,ho,r),_):=id I.loc;let(sl,hL):=u.any ho I.free (by simp);erw[I.step (g':=s.gens) (d':=s.drawn) (ch:=[]) (λ_ z=>nomatch z) (λb o _ hb _ e n=>u.keep b o e n hb (by simp)) (λb o _ hb _ e n=>u.slot b o e n hb (by simp)) (λb o _ e n=>u.free b o e n (by simp)) (λb o _ e=>u.there b o e (by simp)) u.lM u.kU u.lO (λm' hm=>by let(o',qB,K1,oO,r'):=hm;rw[ho]at oO;cases oO;erw[_,qB,K1,hL,r']) bp I.bare]
theorem Inv.call(I:Inv X ay O H s)(u:Un (fV X.stack) ch H H' s.heap h')(bp:fb X.prog X.w H' h')(hg:AllBare g') (qk:∀b∈ch,(b∈X.ex\/X.s₀.heap.objs.size<=b)/\b≠X.env.locals/\(∀x c,X.env.cells.lookup x=some c->c≠b)/\∀p∈X.pn++ay,p.1≠b): Inv X ay O H' {s with heap:=h',gens:=g',drawn:=d',toks:=t'}:=by let(m,(o,es,ep,ho,r),_):=id I.loc;let(sl,hL):=u.any ho I.free λz=>(qk _ z).2.1 rfl;erw[I.step (ch:=ch) qk (λb o hL hb hc e n=>u.keep b o e n (λz=>(dg.mp (I.Gw b z)).elim hL hb) hc) (λb o _ _ hc e n=>u.any e n hc) (λb o hc e n=>u.free b o e n hc) (λb o hc e=>u.there b o e hc) u.lM u.kU u.lO (λm' hm=>by let(o',qB,K1,oO,r'):=hm;rw[ho]at oO;cases oO;erw[_,qB,K1,hL,r']) bp hg]
theorem Inv.turned{it:Addr}(I:Inv X ay O H s)(k:∀b o,b≠it->s.heap.get? b=some o->h'.get? b=some o)(hn:H it=none)(hL:it≠X.env.locals) (h1:it∈X.ex\/X.s₀.heap.objs.size<=it)(h2:∀x c,X.env.cells.lookup x=some c->c≠it)(h3:∀p∈X.pn++ay,p.1≠it):Inv X ay O H {s with heap:=h',toks:=t'}:=by
 let B0:∀b u,H b=some u->b≠it:=λb u e z=>by rw[z,hn]at e;cases e
 erw[I.step (g':=s.gens) (d':=s.drawn) (ch:=[it]) (λb hb=>?_) (λb o _ _ hc e _=>k b o (λz=>hc (by simp[z])) e) (λb o _ _ hc e _=>#[o.slots,k b o (λz=>hc (by simp[z])) e]) (λ_ _ _ _ n=>n) (λb o hc e=>#[o,k b o (λz=>hc (by simp[z])) e]) (λ_ _ e=>e) (λ_ _ _ e=>e) (λb ps e=>#[#[],by rw[e];simp]) (λm hm=>?_) (λb u e=>?_) I.bare]
 ·let e:b=it:=by simpa using hb
  subst e;erw[h1,hL,h2,h3]
 ·let(o,es,ep,ho,r):=hm
  erw[o,es,ep,k _ o (kJ hL) ho,r]
 ·refine(I.bp b u e).ny (λc v hc q=>k c v ?_ q) (λ_ q=>q) λ_ _ q=>q
  rcases hc with z|z
  ·rw[z];erw[B0 b u e]
  ·erw[B0 c _ z]
theorem Inv.tok(I:Inv X ay O H s)(t:Nat):Inv X ay O H {s with toks:=t}:=I.un (h':=s.heap) (t':=t) Un.refl I.bp
theorem Inv.kept(I:Inv X ay O H s)(k:∀b u,s.heap.get? b=some u->h'.get? b=some u):Inv X ay O H {s with heap:=h',toks:=t'}:=I.un (Un.kept k) (I.bp.kept k)
theorem Inv.laid{a:Addr}{o:HO}{t':Nat}(I:Inv X ay O H s)(k:∀b u,s.heap.get? b=some u->h'.get? b=some u)(hp:s.heap.objs.size<=a)(new:gj X.prog X.w (upd H a o) h' a o): Inv X ay O (upd H a o) {s with heap:=h',toks:=t'}:=I.un (Un.laid k hp (I.bp.fresh hp)) (I.bp.laid k hp new)
theorem Inv.write(I:Inv X ay O H s)(mu:FF (H x))(he:e=x\/H e=some (.own x))(k:∀b u,b≠e->s.heap.get? b=some u->h'.get? b=some u)(yV:∃u,h'.get? e=some u) (new:gj X.prog X.w (upd H x o) h' x o):Inv X ay O (upd H x o) {s with heap:=h',toks:=t'}:=I.un (Un.write mu he k yV) (I.bp.write mu he k yV new)
theorem Inv.RZ(I:Inv X ay O H s)(h:∀p∈HM,s.heap.get? p.1=some p.2/\H p.1=none/\p.1≠X.env.locals/\p.1∉X.fs/\∀v,p.2.data≠ .cell v):Inv X HM O H s:=#[I.ok,I.os,I.bare,I.aD,I.loc,I.cell,I.free,I.kW,λp hp=>(jL.mp hp).elim (λz=>I.pin p (LQ _ z)) (h p),I.bp,I.len]
theorem Ib{N:List Str}(hN:N.Nodup){i j:Nat}{x:Str}(a:N[i]? =some x)(b:N[j]? =some x):i=j:=by let(h1,e1):=cm.mp a;let(h2,e2):=cm.mp b;exact(List.getElem_inj hN).mp (e1.trans e2.symm)
theorem MN{M:Model}{A:ak}{E:Value->ah->Prop}{i:Nat}{x:Str}{v:V}{u:Value}{Q:Unit->ah->Prop}(I:Inv X ay O H s)(hN:X.N.Nodup)(hi:X.N[i]? =some x)(hx:Loc X.env.scope x)(r:RelV v u) (h:∀s',Inv X ay (O.set i (some v)) H s'->(∃a,Heap.SameBut a s.heap s'.heap/\(a=X.env.locals\/X.env.cells.lookup x=some a))->Q () s')(hf:autoParam (X.fn x=true\/X.env.scope.names.lookup x=some .local) d8_._auto_1):wpAny M A (storeName X.env x u) Q E s:=by
 let(m,hn,hl):=id I.loc;let BD:(X.env.scope.kind== .class||(X.env.scope.kind== .module&&X.env.locals !=X.env.globals))=false:=by rw[I.ok.kind];rfl
 let ES:i<O.length:=by rw[I.len];exact(cm.mp hi).1
 let m6:=I.m6;let tracked:∀{a:Addr}{h':Heap},(∃o,s.heap.get? a=some o/\H a=none)->Heap.SameBut a s.heap h'->fb X.prog X.w H h':=λ{a h'} ha hs b ob e=>by
  let(_,_,uJ):=ha;refine(I.bp b ob e).ny (λc w' hc q=>(hs.2 c ?_).trans q) (λ_ q=>q) λ_ _ q=>q;rintro rfl;rcases hc with rfl|hc
  ·rw[uJ]at e;cases e
  ·rw[uJ]at hc;cases hc
 rcases hx with hk|hk
 ·erw[wpAny_storeName_local hk hn (λh' Jf hs=>?_) BD]
  let(oL,_,_,UA,_):=id hn;erw[h _ #[I.ok,I.os,I.bare,#[λb o e n hb hx=>?_,λb o e n hb hx=>?_,I.aD.free,λb o e hx=>?_,I.aD.lM,I.aD.kU,I.aD.lO],#[_,Jf,λj y v' e1 e2 e3=>?_],λy c e=>?_,I.free,I.kW,λp hp=>?_,tracked #[oL,UA,I.free] hs,by simpa using I.len] #[_,hs,.inl rfl]]
  ·exact(hs.2 b (eR (gK (cC e) I.ok.above))).trans (I.aD.keep b o e n hb hx)
  ·let(sl,e1):=I.aD.slot b o e n hb hx
   erw[sl,(hs.2 b (eR (gK (cC e) I.ok.above))).trans e1]
  ·let(o',e1):=I.aD.there b o e hx
   erw[o',(hs.2 b (eR (gK (cC e) I.ok.above))).trans e1]
  ·by_cases hj:j=i
   ·subst hj
    rw[hi]at e1;cases e1;rw[D5 ES]at e2;cases e2;erw[u,r,.inl #[hk,by simp]]
   ·rw[LS (kJ hj)]at e2
    let(u',r',q):=hl j y v' e1 e2 e3;erw[u',r',?_];rcases q with⟨k,e⟩|⟨k,c,e,z⟩
    ·erw[.inl #[k,?_]]
     have:y≠x:=λe=>hj (Ib hN e1 (e▸hi));simp[this,e]
    ·erw[.inr #[k,c,e,z.sameBut hs (m6 y c e)]]
  ·let(w',z):=I.cell y c e
   erw[w',z.sameBut hs (m6 y c e)]
  ·let(e,n,ne,nf,d):=I.pin p hp
   erw[(hs.2 p.1 ne).trans e,n,ne,nf,d]
 ·let Jj:X.fn x=true:=by
   rcases hf with z|z
   ·erw[z]
   ·rw[z]at hk;cases hk
  let(c,hc):=I.ok.has x (.inl hk);let(w',z):=I.cell x c hc;erw[wpAny_storeName_cell I.ok.kind hk hc z (λh' kC hs=>?_)];let(oc,Uz,a7K):=id z;erw[h {s with heap:=h'} #[I.ok,I.os,I.bare,#[λb o e n hb hx=>?_,λb o e n hb hx=>?_,I.aD.free,λb o e hx=>?_,I.aD.lM,I.aD.kU,I.aD.lO],#[m,hn.sameBut hs (kJ (m6 x c hc)),λj y v' e1 e2 e3=>?_],λy c' e=>?_,I.free,I.kW,λp hp=>?_,tracked #[oc,Uz,I.kW x c hc] hs,by simpa using I.len] #[c,hs,.inr hc]]
  ·exact(hs.2 b (eR (gK (cC e) (I.ok.uR x c Jj hc)))).trans (I.aD.keep b o e n hb hx)
  ·let(sl,e1):=I.aD.slot b o e n hb hx
   erw[sl,(hs.2 b (eR (gK (cC e) (I.ok.uR x c Jj hc)))).trans e1]
  ·let(o',e1):=I.aD.there b o e hx
   erw[o',(hs.2 b (eR (gK (cC e) (I.ok.uR x c Jj hc)))).trans e1]
  ·by_cases hj:j=i
   ·subst hj
    rw[hi]at e1;cases e1;rw[D5 ES]at e2;cases e2;erw[u,r,.inr #[.inl hk,c,hc,kC]]
   ·rw[LS (kJ hj)]at e2
    let(u',r',q):=hl j y v' e1 e2 e3;erw[u',r',?_];rcases q with q|⟨k,c',e,z'⟩
    ·erw[.inl q]
    ·erw[.inr #[k,c',e,z'.sameBut hs ?_]]
     rintro rfl;erw[hj (Ib hN e1 (I.ok.inj _ _ _ e hc▸hi))]
  ·by_cases UO:c'=c
   ·subst UO;erw[_,kC]
   ·let(w2,z2):=I.cell y c' e
    erw[w2,z2.sameBut hs UO]
  ·let(e,n,ne,nf,d):=I.pin p hp
   erw[(hs.2 p.1 ?_).trans e,n,ne,nf,d];intro q;rw[q,Uz]at e;let q':oc=p.2:=eQ e;erw[d w' (by rw[<-q'];erw[a7K])]
theorem xX{M:Model}{A:ak}{E:Value->ah->Prop}{i:Nat}{x:Str}{v:V}{u:Value}{Q:Unit->ah->Prop}(I:Inv X ay O H s)(hN:X.N.Nodup)(hi:X.N[i]? =some x)(hx:Loc X.env.scope x)(r:RelV v u) (h:∀s',Inv X ay (O.set i (some v)) H s'->Q () s')(hf:autoParam (X.fn x=true\/X.env.scope.names.lookup x=some .local) d8_._auto_1):wpAny M A (storeName X.env x u) Q E s:=MN I hN hi hx r (λs' I' _=>h s' I') hf
theorem Inv.Cp(I:Inv X ay O H s)(ho:s'.os=s.os)(u:Un (fV X.stack) ch H H' s.heap s'.heap)(bp:fb X.prog X.w H' s'.heap)(hg:AllBare s'.gens) (qk:∀b∈ch,(b∈X.ex\/X.s₀.heap.objs.size<=b)/\b≠X.env.locals/\(∀x c,X.env.cells.lookup x=some c->c≠b)/\∀p∈X.pn++ay,p.1≠b):Inv X ay O H' s':=by let(h',g',d',t',o'):=s';let e:o'=s.os:=ho;subst e;erw[I.call (g':=g') (t':=t') (d':=d') u bp hg qk]
end
abbrev XK:=Value->Option Addr->Hp->Prop
abbrev St:=List (Option V)
abbrev VK:=V->Hp->Prop
abbrev TE:=St->Hp->VK->Prop
abbrev TT:=St->Hp->(Bool->Hp->Prop)->Prop
abbrev TA:=St->Hp->(List V->Hp->Prop)->Prop
structure Ends where
 nx:St->Hp->Prop
 rt:VK
 bk:St->Hp->Prop:=λ_ _=>False
 ct:St->Hp->Prop:=λ_ _=>False
abbrev TS:=Ends->St->Hp->Prop
def EP(X:Cx)(ay:List (Addr×Obj))(O:St)(Q:VK)(u:Value)(s':ah):Prop:=∃v H',Inv X ay O H' s'/\RelV v u/\Q v H'
def TP(X:Cx)(ay:List (Addr×Obj))(O:St)(Q:Bool->Hp->Prop)(b:Bool)(s':ah):Prop:=∃H',Inv X ay O H' s'/\Q b H'
def AP(X:Cx)(ay:List (Addr×Obj))(O:St)(Q:List V->Hp->Prop)(us:List Value)(s':ah):Prop:=∃vs H',Inv X ay O H' s'/\Vals vs us/\Q vs H'
def SP(X:Cx)(ay:List (Addr×Obj))(D:Ends)(f:Flow)(s':ah):Prop:=match f with | .next=>∃σ' H',Inv X ay σ' H' s'/\D.nx σ' H' | .brk=>∃σ' H',Inv X ay σ' H' s'/\D.bk σ' H' | .cont=>∃σ' H',Inv X ay σ' H' s'/\D.ct σ' H' | .ret u=>∃v σ' H',Inv X ay σ' H' s'/\RelV v u/\D.rt v H'
def PE(X:Cx)(e:Expr)(t:TE):Prop:=∀(ay:List (Addr×Obj))(s:ah)(O:St)(H:Hp)(Q:VK),Inv X ay O H s->t O H Q->wpAny (model X.prog X.w) X.A (eval e X.env) (EP X ay O Q) X.xe s
def PT(X:Cx)(e:Expr)(t:TT):Prop:=∀(ay:List (Addr×Obj))(s:ah)(O:St)(H:Hp)(Q:Bool->Hp->Prop),Inv X ay O H s->t O H Q->wpAny (model X.prog X.w) X.A (isTrue e X.env (eval e X.env)) (TP X ay O Q) X.xe s
def PW(X:Cx)(e:Expr)(t:TT):Prop:=∀(whole:Sem Value)(ay:List (Addr×Obj))(s:ah)(O:St)(H:Hp)(Q:Bool->Hp->Prop),Inv X ay O H s->t O H Q->wpAny (model X.prog X.w) X.A (isTrue e X.env whole) (TP X ay O Q) X.xe s
theorem PW.pt{t:TT}(h:PW X e t):PT X e t:=h _
def PA(X:Cx)(es:List Expr)(t:TA):Prop:=∀(pos:Pos)(ay:List (Addr×Obj))(s:ah)(O:St)(H:Hp)(Q:List V->Hp->Prop),Inv X ay O H s->t O H Q->wpAny (model X.prog X.w) X.A (spliced (backTo pos (starEach es X.env))) (AP X ay O Q) X.xe s
def PS(X:Cx)(st:Stmt)(t:TS):Prop:=∀(ay:List (Addr×Obj))(s:ah)(O:St)(H:Hp)(D:Ends),Inv X ay O H s->t D O H->wpAny (model X.prog X.w) X.A (exec st X.env) (SP X ay D) X.xe s
def ip(X:Cx)(st:List Stmt)(t:TS):Prop:=∀(ay:List (Addr×Obj))(s:ah)(O:St)(H:Hp)(D:Ends),Inv X ay O H s->t D O H->wpAny (model X.prog X.w) X.A (execs st X.env) (SP X ay D) X.xe s
theorem bc{α:Type}{t:Sem α}{Q Q':α->ah->Prop}{M:Model}{A:ak}{E:Value->ah->Prop}{s:ah}(h:wpAny M A t Q E s)(hQ:∀a s,Q a s->Q' a s):wpAny M A t Q' E s:=fM h hQ λ_ _ x=>x
section
variable {X:Cx}
inductive adB(i:Nat)(O:St)(H:Hp)(Q:VK):Prop |mk v(_:O[i]? =some (some v))(_:Q v H)
def Mu(i:Nat):TE:=λO H Q=>adB i O H Q
def tC (v:V):TE:=λ_ H Q=>Q v H
theorem a3v(hN:X.N[i]? =some x)(hv:KY X.env.scope x)(hd:autoParam ((x==("__debug__":Str))=false) q8_._auto_1)(fU:autoParam ((x==("__classdict__":Str))=false) q8_._auto_1):PE X (.Name x pos) (Mu i):=by
 intro ay s O H Q I h;let(v,e,h):=h;let(m,hn,hl):=I.loc;let(u,r,l):=hl i x v hN e hv;let fin:EP X ay O Q u s:=#[v,H,I,r,h];rcases l with⟨hk,hm⟩|⟨hk,c,hc,qm⟩
 ·erw[wpAny_Name (wpAny_loadName_local I.ok.kind hk hn hm fin) hd]
 ·rcases hk with hk|hk
  ·erw[wpAny_Name (wpAny_loadName_cell I.ok.kind hk hc qm fin) hd]
  ·erw[wpAny_Name (wpAny_loadName_free I.ok.kind hk hc qm fin fU) hd]
theorem aB{i j pos}:PE X (.Constant (.int i) j pos) (tC (.int i)):=λ_ _ _ H _ I h=>wpAny_Constant_int #[.int i,H,I.tok _,#[_,Z],h]
theorem j4{b j pos}:PE X (.Constant (.bool b) j pos) (tC (.bl b)):=λ_ _ _ H _ I h=>Constant_bool #[.bl b,H,I,Z,h]
theorem fQ{j pos}:PE X (.Constant .none j pos) (tC .bM):=λ_ _ _ H _ I h=>Constant_none #[.bM,H,I,Z,h]
theorem eU{x j pos}:PE X (.Constant (.str x) j pos) (tC (.str x)):=λ_ _ _ H _ I h=>Calls.Constant_str #[.str x,H,I.tok _,#[_,Z],h]
def Gl(X:Cx)(x:Str):Prop:=X.env.kindOf x=some .globalImplicit
theorem wo{E:Value->ah->Prop}{ay:List (Addr×Obj)}{s:ah}{O:St}{H:Hp}{x:Str}{u:Value}{pos:Pos}{Q:Value->ah->Prop}(I:Inv X ay O H s)(hg:Gl X x)(hm:X.mg x=some u)(h:Q u s) (hd:autoParam ((x==("__debug__":Str))=false) q8_._auto_1):wpAny (model X.prog X.w) X.A (eval (.Name x pos) X.env) Q E s:=Calls.Name_function_global I.ok.kind hg (Calls.loadGlobal_global (by rw[I.ok.glob];erw[I.mod.glob.keeps I.bk]) hm h) hd
theorem sy{E:Value->ah->Prop}{ay:List (Addr×Obj)}{s:ah}{O:St}{H:Hp}{x:Str}{u:Value}{pos:Pos}{Q:Value->ah->Prop}(I:Inv X ay O H s)(hg:Gl X x)(hm:X.mg x=none)(hv:bootBuiltins x=some u)(h:Q u s) (hn:autoParam (x≠"__name__") q8_._auto_1)(hd:autoParam ((x==("__debug__":Str))=false) q8_._auto_1):wpAny (model X.prog X.w) X.A (eval (.Name x pos) X.env) Q E s:=by let(mb,h1,h2):=I.mod.blt;erw[Calls.Name_function_global I.ok.kind hg (Calls.loadGlobal_builtin (by rw[I.ok.glob];erw[I.mod.glob.keeps I.bk]) hm (by rw[I.ok.blt];erw[h1.keeps I.bk]) ((h2 x hn).trans hv) h) hd]
theorem a3C{v:V}(hg:Gl X x)(hm:X.mg x=some u)(r:RelV v u)(hd:autoParam ((x==("__debug__":Str))=false) q8_._auto_1):PE X (.Name x pos) (tC v):=λ_ _ _ H _ I h=>wo I hg hm #[v,H,I,r,h] hd
theorem cK{v:V}(hg:Gl X x)(hm:X.mg x=none)(hv:bootBuiltins x=some u)(r:RelV v u)(hn:autoParam (x≠"__name__") q8_._auto_1)(hd:autoParam ((x==("__debug__":Str))=false) q8_._auto_1):PE X (.Name x pos) (tC v):=λ_ _ _ H _ I h=>sy I hg hm hv #[v,H,I,r,h] hn hd
variable {a b:Expr}{ta tb:TE}{pos:Pos}
inductive ItB(Q:Bool->Hp->Prop)(x:V)(H1:Hp):Prop |mk c(_:x= .bl c)(_:Q c H1)
def tB(t:TE):TT:=λO H Q=>t O H λx H1=>ItB Q x H1
theorem cf{t:TE}(h:PE X e t)(he:autoParam (∀whole,isTrue e X.env whole=(do let v<-whole;standAt e.pos;holding [v] (truthy v))) d8_._auto_1):PT X e (tB t):=by intro ay s O H Q I hw;erw[isTrue_plain (bc (h ay s O H _ I hw) λv s1 #[x,H1,I1,r1,q1]=>?_) (he _)];let(d,rfl,q):=q1;cases r1;erw[qQ #[H1,I1,q]]
variable {tA DD:TT} {rest:List Expr}
def ZO(t u:TT):TT:=λO H Q=>t O H λc H1=>if c=true then u O H1 Q else Q false H1
def Zs(t u:TT):TT:=λO H Q=>t O H λc H1=>if c=true then Q true H1 else u O H1 Q
def Zu(t:TT):TT:=λO H Q=>t O H λc H1=>Q (!c) H1
theorem pL(ha:PT X a tA):PW X (.BoolOp .And [a] pos) tA:=by intro wh ay s O H Q I h;erw[isTrue_and (bc (ha ay s O H Q I h) λc s1 e=>?_)];cases c with |true=>erw[isTrue_and_nil e] |false=>erw[e]
theorem ku(ha:PT X a tA):PW X (.BoolOp .Or [a] pos) tA:=by intro wh ay s O H Q I h;erw[isTrue_or (bc (ha ay s O H Q I h) λc s1 e=>?_)];cases c with |false=>erw[isTrue_or_nil e] |true=>erw[e]
theorem mG(ha:PT X a tA)(hb:PW X (.BoolOp .And (b::rest) pos) DD):PW X (.BoolOp .And (a::b::rest) pos) (ZO tA DD):=by intro wh ay s O H Q I h;erw[isTrue_and (bc (ha ay s O H _ I h) λc s1 #[H1,I1,q1]=>?_)];cases c with |true=>erw[hb wh ay s1 O H1 Q I1 q1] |false=>erw[H1,I1,q1]
theorem hZ(ha:PT X a tA)(hb:PW X (.BoolOp .Or (b::rest) pos) DD):PW X (.BoolOp .Or (a::b::rest) pos) (Zs tA DD):=by intro wh ay s O H Q I h;erw[isTrue_or (bc (ha ay s O H _ I h) λc s1 #[H1,I1,q1]=>?_)];cases c with |true=>erw[H1,I1,q1] |false=>erw[hb wh ay s1 O H1 Q I1 q1]
theorem dj(ha:PT X a tA):PT X (.UnaryOp .Not a pos) (Zu tA):=by intro ay s O H Q I h;erw[isTrue_not (ha ay s O H (λc H1=>Q (!c) H1) I h)]
inductive adK(tb:TE)(O:St)(Q:VK)(x:V)(H1:Hp):Prop |mk c(_:x= .bl c)(_:if c=true then tb O H1 Q else Q (.bl false) H1)
def ZN(ta tb:TE):TE:=λO H Q=>ta O H λx H1=>adK tb O Q x H1
inductive Xz(tb:TE)(O:St)(Q:VK)(x:V)(H1:Hp):Prop |mk c(_:x= .bl c)(_:if c=true then Q (.bl true) H1 else tb O H1 Q)
def Zr(ta tb:TE):TE:=λO H Q=>ta O H λx H1=>Xz tb O Q x H1
inductive adG(Q:VK)(x:V)(H1:Hp):Prop |mk c(_:x= .bl c)(_:Q (.bl (!c)) H1)
def Zt(ta:TE):TE:=λO H Q=>ta O H λx H1=>adG Q x H1
theorem gN{op}{t:TE}(h:PE X a t):PE X (.BoolOp op [a] pos) t:=λay s O H Q I hw=>BoolOp_one (h ay s O H Q I hw)
theorem gP(ha:PE X a ta)(hb:PE X (.BoolOp .And (b::rest) pos) tb):PE X (.BoolOp .And (a::b::rest) pos) (ZN ta tb):=by intro ay s O H Q I h;erw[BoolOp_and (bc (ha ay s O H _ I h) λv s1 #[x,H1,I1,r1,q1]=>?_)];let(c,rfl,q1):=q1;cases r1;erw[qQ ?_];cases c with |true=>erw[hb ay s1 O H1 Q I1 q1] |false=>erw[.bl false,H1,I1,Z,q1]
theorem a3w(ha:PE X a ta)(hb:PE X (.BoolOp .Or (b::rest) pos) tb):PE X (.BoolOp .Or (a::b::rest) pos) (Zr ta tb):=by intro ay s O H Q I h;erw[BoolOp_or (bc (ha ay s O H _ I h) λv s1 #[x,H1,I1,r1,q1]=>?_)];let(c,rfl,q1):=q1;cases r1;erw[qQ ?_];cases c with |false=>erw[hb ay s1 O H1 Q I1 q1] |true=>erw[.bl true,H1,I1,Z,q1]
theorem vN(ha:PE X a ta):PE X (.UnaryOp .Not a pos) (Zt ta):=by intro ay s O H Q I h;erw[UnaryOp_ (bc (ha ay s O H _ I h) λv s1 #[x,H1,I1,r1,q1]=>?_)];let(c,rfl,q1):=q1;cases r1;erw[not_of (qQ #[.bl (!c),H1,I1,Z,q1])]
def ZF(t:TT)(ta tb:TE):TE:=λO H Q=>t O H λc H1=>if c=true then ta O H1 Q else tb O H1 Q
theorem yi(hc:PT X c tA)(ha:PE X a ta)(hb:PE X b tb):PE X (.IfExp c a b pos) (ZF tA ta tb):=by intro ay s O H Q I h;erw[wpAny_IfExp (bc (hc ay s O H _ I h) λd s1 #[H1,I1,q1]=>?_)];cases d with |true=>erw[ha ay s1 O H1 Q I1 q1] |false=>erw[hb ay s1 O H1 Q I1 q1]
end
def aL(K:ag)(H:Hp)(a:Addr)(xs:List V):Prop:=Rd H a (.lst xs)\/ ∃(o:Obj)(its:Array Value)(n:Nat),K.lookup a=some o/\o.cls= .type "list"/\o.dict=none/\o.data= .seq its n/\its.size<=sizeLine/\Vals xs its.toList
def aW(K:ag)(H:Hp)(a:Addr)(xs:List V):Prop:=Rd H a (.tup xs)\/ ∃(o:Obj)(its:Array Value)(n:Nat),K.lookup a=some o/\o.cls= .type "tuple"/\o.data= .seq its n/\its.size<=sizeLine/\Vals xs its.toList
def ad9:Value->Option V | .none=>some .bM | .bool b=>some (.bl b) | .int i _=>some (.int i) | .str x _=>some (.str x) | .bytes b _=>some (.zl b) | .float b _=>some (.F3 b) | .ref a=>some (.ref a) | .type n=>some (.ty n) |_=>none
theorem RelV.abs(r:RelV x u):ad9 u=some x:=by cases x with |bM=>cases r;rfl |bl _=>cases r;rfl |int _=>let(t,rfl):=r;rfl |str _=>let(t,rfl):=r;rfl |zl _=>let(t,rfl):=r;rfl |F3 _=>let(t,rfl):=r;rfl |ref _=>cases r;rfl |ty _=>cases r;rfl
theorem RelV.inj{x y:V}{u:Value}(r:RelV x u)(q:RelV y u):x=y:=eQ (r.abs.symm.trans q.abs)
theorem Vals.inj:∀{xs ys:List V}{us:List Value},Vals xs us->Vals ys us->xs=ys |_,_,_,.nil,.nil=>rfl |_,_,_,.cons r t,.cons r' t'=>by rw[r.inj r',Vals.inj t t']
section
variable {X:Cx}{ay:List (Addr×Obj)}{O:St}{H:Hp}{s:ah}{a:Addr}{xs ys:List V}
theorem aL.of{K:ag}(h:H a=some (.lst xs)):aL K H a xs:=.inl (.inl h)
theorem aW.of{K:ag}(h:H a=some (.tup xs)):aW K H a xs:=.inl (.inl h)
theorem Inv.list(I:Inv X ay O H s)(h:aL X.K H a xs):∃its:List Value,Vals xs its/\PlainL s.heap a its.toArray/\xs.length<=sizeLine:=by
 rcases h with h|⟨o,its,n,hk,hc,hd,hs,hz,r⟩
 ·let(z,its,n,r,e):=h.ok I.bp
  erw[its,r,#[_,n,e,Z,Z,Z],z]
 ·erw[its.toList,r,#[o,n,I.fG a o hk,hc,hd,by simpa using hs],?_]
  let e:=r.length;simp only[Df]at e
  lia
theorem Inv.tuple(I:Inv X ay O H s)(h:aW X.K H a xs):∃its:List Value,Vals xs its/\IsTup s.heap a its.toArray/\xs.length<=sizeLine:=by
 rcases h with h|⟨o,its,n,hk,hc,hs,hz,r⟩
 ·let(z,its,r,p):=h.ok I.bp
  erw[its,r,p,z]
 ·erw[its.toList,r,#[o,I.fG a o hk,hc,n,by simpa using hs],?_]
  let e:=r.length;simp only[Df]at e
  lia
theorem Inv.TY(I:Inv X ay O H s)(h:aL X.K H a xs)(h':aL X.K H a ys):xs=ys:=by
 let(its,r,(o,n,e,_,_,d),_):=I.list h;let(its',r',(o',n',e',_,_,d'),_):=I.list h';rw[e]at e';cases e';rw[d]at d';injection d' with d1 _;have:its=its':=by simpa using congrArg Array.toList d1
 subst this;erw[r.inj r']
theorem Inv.Mm(I:Inv X ay O H s)(h:aW X.K H a xs)(h':aW X.K H a ys):xs=ys:=by
 let(its,r,(o,e,_,n,d),_):=I.tuple h;let(its',r',(o',e',_,n',d'),_):=I.tuple h';rw[e]at e';cases e';rw[d]at d';injection d' with d1 _;have:its=its':=by simpa using congrArg Array.toList d1
 subst this;erw[r.inj r']
end
abbrev Cx.lL(X:Cx)(E:Value->ah->Prop):Cx:={X with xe:=E}
abbrev Cx.sf(X:Cx):Cx:=X.lL λ_ _=>False
theorem Cx.Ok.lL{X:Cx}(ok:X.Ok)(E:Value->ah->Prop):(X.lL E).Ok:=#[ok.mod,ok.kind,ok.glob,ok.blt,ok.above,ok.inj,ok.has,ok.uR,ok.hd,ok.frames,ok.vz,ok.BR,ok.bs,ok.mY,ok.uu,ok.qA,ok.kD,ok.oW]
theorem Cx.Ok.pF{X:Cx}{E:Value->ah->Prop}(ok:(X.lL E).Ok):X.Ok:=#[ok.mod,ok.kind,ok.glob,ok.blt,ok.above,ok.inj,ok.has,ok.uR,ok.hd,ok.frames,ok.vz,ok.BR,ok.bs,ok.mY,ok.uu,ok.qA,ok.kD,ok.oW]
section
variable {X:Cx}{ay:List (Addr×Obj)}{O:St}{H:Hp}{s:ah}{E:Value->ah->Prop}
theorem Inv.lL(I:Inv X ay O H s)(E:Value->ah->Prop):Inv (X.lL E) ay O H s:=#[I.ok.lL E,I.os,I.bare,I.aD,I.loc,I.cell,I.free,I.kW,I.pin,I.bp,I.len]
theorem Inv.pF(I:Inv (X.lL E) ay O H s):Inv X ay O H s:=#[I.ok.pF,I.os,I.bare,I.aD,I.loc,I.cell,I.free,I.kW,I.pin,I.bp,I.len]
theorem SP.pF{D:Ends}(h:SP (X.lL E) ay D f s'):SP X ay D f s':=by cases f with |next=>let(σ',H',I,q):=h;erw[σ',H',I.pF,q] |brk=>let(σ',H',I,q):=h;erw[σ',H',I.pF,q] |cont=>let(σ',H',I,q):=h;erw[σ',H',I.pF,q] |ret u=>let(v,σ',H',I,r,q):=h;erw[v,σ',H',I.pF,r,q]
theorem ip.sf{st:List Stmt}{t:TS}(h:ip X.sf st t):ip X st t:=λay s O H D I hw=>fM (h ay s O H D (I.lL _) hw) (λ_ _ q=>q.pF) λ_ _ z=>False.elim z
end
section
variable {X:Cx}{st:Stmt}{rest:List Stmt}{t u:TS}{e:Expr}{te:TE}{pos:Pos}
def Zw:TS:=λD O H=>D.nx O H
def Gv(t u:TS):TS:=λD O H=>t {D with nx:=u D} O H
theorem bC:ip X [] Zw:=λ_ _ O H _ I h=>FP #[O,H,I,h]
theorem aE(h1:PS X st t)(h2:ip X rest u):ip X (st::rest) (Gv t u):=by intro ay s O H D I h;erw[Lq (bc (h1 ay s O H {D with nx:=u D} I h) λf s1 q=>?_)];cases f with |next=>let(σ',H',I',q):=q;erw[h2 ay s1 σ' H' D I' q] |ret v=>erw[q] |brk=>erw[q] |cont=>erw[q]
theorem aG(h1:PS X st t):ip X [st] t:=by intro ay s O H D I h;erw[Lq (bc (h1 ay s O H D I h) λf s1 q=>?_)];cases f with |next=>erw[FP q] |ret v=>erw[q] |brk=>erw[q] |cont=>erw[q]
theorem Inv.quiet{ay:List (Addr×Obj)}{O:St}{H:Hp}{s:ah}(I:Inv X ay O H s):interactive X.env=false:=by simp[interactive,I.ok.kind]
def ZJ(te:TE):TS:=λD O H=>te O H λ_ H1=>D.nx O H1
theorem eJ(he:PE X e te)(hs:autoParam (swapsWith e none pos.line X.env=pure false) r8_._auto_1):PS X (.Expr e pos) (ZJ te):=by intro ay s O H D I h;erw[wpAny_Expr_any (bc (he ay s O H _ I h) λv s1 #[x,H1,I1,r1,q1]=>#[O,H1,I1,q1]) I.quiet hs]
def Zm(te:TE):TS:=λD O H=>te O H D.rt
theorem aR(he:PE X e te):PS X (.Return (some e) pos) (Zm te):=by intro ay s O H D I h;erw[wpAny_Return_some (bc (he ay s O H _ I h) λv s1 #[x,H1,I1,r1,q1]=>#[x,O,H1,I1,r1,q1])]
def ZE(c:TT)(t u:TS):TS:=λD O H=>c O H λb H1=>if b=true then t D O H1 else u D O H1
theorem bw(hc:PT X c tc)(ha:ip X a t)(hb:ip X b u):PS X (.If c a b pos) (ZE tc t u):=by intro ay s O H D I h;erw[wpAny_If (bc (hc ay s O H _ I h) λd s1 #[H1,I1,q1]=>?_)];cases d with |true=>erw[ha ay s1 O H1 D I1 q1] |false=>erw[hb ay s1 O H1 D I1 q1]
def Zx:TS:=λ_ _ _=>False
theorem uk:PS X st Zx:=λ_ _ _ _ _ _ h=>h.elim
end
abbrev TG:=V->St->Hp->(St->Hp->Prop)->Prop
abbrev mZ:=List V->St->Hp->(St->Hp->Prop)->Prop
def PG(X:Cx)(target:Expr)(t:TG):Prop:=∀(ay:List (Addr×Obj))(s:ah)(O:St)(H:Hp)(v:V)(u:Value)(Q:St->Hp->Prop),Inv X ay O H s->RelV v u->t v O H Q->wpAny (model X.prog X.w) X.A (assign target X.env u) (λ_ s'=>∃σ' H',Inv X ay σ' H' s'/\Q σ' H') X.xe s
def zt(X:Cx)(ts:List Expr)(t:mZ):Prop:=∀(ay:List (Addr×Obj))(s:ah)(O:St)(H:Hp)(vs:List V)(us:List Value)(Q:St->Hp->Prop),Inv X ay O H s->Vals vs us->t vs O H Q->wpAny (model X.prog X.w) X.A (assignInOrder ((assignEach ts X.env).map (·.2)) us) (λ_ s'=>∃σ' H',Inv X ay σ' H' s'/\Q σ' H') X.xe s
abbrev L6:=V->V->V->Hp->(Hp->Prop)->Prop
def Xr(X:Cx)(t:L6):Prop:=∀(ay:List (Addr×Obj))(s:ah)(O:St)(H:Hp)(o i v:V)(ov iv u:Value)(Q:Hp->Prop),Inv X ay O H s->RelV o ov->RelV i iv->RelV v u->t o i v H Q->wpAny (model X.prog X.w) X.A (setItem ov iv u) (λ_ s'=>∃H',Inv X ay O H' s'/\Q H') X.xe s
abbrev Xi:=V->V->Hp->VK->Prop
def PIp(X:Cx)(op:Operator)(t:Xi):Prop:=∀(ay:List (Addr×Obj))(s:ah)(O:St)(H:Hp)(x y:V)(v u:Value)(Q:VK),Inv X ay O H s->RelV x v->RelV y u->t x y H Q->wpAny (model X.prog X.w) X.A (inplaceOp op v u) (EP X ay O Q) X.xe s
section
variable {X:Cx} {pos:Pos}
def ie(i:Nat):TG:=λv O H Q=>Q (O.set i (some v)) H
theorem a3t(hN:X.N.Nodup)(hi:X.N[i]? =some x)(hx:Loc X.env.scope x)(hf:autoParam (X.fn x=true\/X.env.scope.names.lookup x=some .local) d8_._auto_1):PG X (.Name x pos) (ie i):=by intro ay s O H v u Q I r h;erw[wpAny_assign_Name (xX I hN hi hx r (λs' I'=>#[_,H,I',h]) hf)]
def F1:mZ:=λvs O H Q=>vs=[]/\Q O H
inductive afF(t:TG)(u:mZ)(vs:List V)(O:St)(H:Hp)(Q:St->Hp->Prop):Prop |mk v r(_:vs=v::r)(_:t v O H λσ' H'=>u r σ' H' Q)
def wN(t:TG)(u:mZ):mZ:=λvs O H Q=>afF t u vs O H Q
theorem cU:zt X [] F1:=by intro ay s O H vs us Q I r h;let(e,h):=h;subst e;cases r;erw[assignInOrder_nil #[O,H,I,h]]
theorem bI{t:TG}(h1:PG X e t)(h2:zt X es u) (hs:autoParam ((assignEach (e::es) X.env).map (·.2)=assign e X.env::(assignEach es X.env).map (·.2)) r8_._auto_1):zt X (e::es) (wN t u):=by intro ay s O H vs us Q I r h;let(v,vr,e1,h):=h;subst e1;cases r with |cons r rr=>rw[hs];erw[assignInOrder_cons (bc (h1 ay s O H _ _ _ I r h) λ_ s1 #[σ1,H1,I1,q1]=>?_)];erw[h2 ay s1 σ1 H1 _ _ Q I1 rr q1]
inductive afD(K:ag)(n:Nat)(t:mZ)(v:V)(O:St)(H:Hp)(Q:St->Hp->Prop):Prop |mk a xs(_:v= .ref a)(_:aW K H a xs)(_:xs.length=n)(_:t xs O H Q)
def BL(K:ag)(n:Nat)(t:mZ):TG:=λv O H Q=>afD K n t v O H Q
theorem a3s{t:mZ}(hc:X.calm=true)(h:zt X es t) (hn:autoParam ((assignEach es X.env).length=n) r8_._auto_1)(gG:autoParam ((assignEach es X.env).findIdx? (·.1)=none) r8_._auto_1):PG X (.Tuple es k pos) (BL X.K n t):=by intro ay s O H v u Q I r hw;let(a,xs,e1,hq,hl,hw):=hw;subst e1;cases r;let(its,rv,ht,hz):=I.tuple hq;erw[assign_Tuple_tuple (I.ok.hd hc) ht (by simp[hn,<-hl,rv.length]) gG λh' hx=>?_];let I1:Inv X ay O H {s with heap:=h'}:=I.kept (t':=s.toks) λb o e=>hx b o (eR (cC e)) e;erw[h ay _ O H xs _ Q I1 (by simpa using rv) hw]
def a9o(to ti:TE)(t:L6):TG:=λv O H Q=>to O H λo H1=>ti O H1 λi H2=>t o i v H2 λH3=>Q O H3
theorem rP{to:TE}{t:L6}(ho:PE X o to)(hi:PE X i ti)(hs:Xr X t) (ha:∀v,assign (.Subscript o i pos) X.env v=(do
 let ov<-holding [v] (eval o X.env)
 let iv<-holding [v,ov] (eval i X.env)
 standAt pos
 holding [v,ov,iv] (setItem ov iv v)
 release [v,ov,iv] []):=by intro _;rfl):PG X (.Subscript o i pos) (a9o to ti t):=by
 intro ay s O H v u Q I r h;rw[ha];erw[aJ (jI (bc (ho ay s O H _ I h) λov s1 #[x,H1,I1,r1,q1]=>?_))];erw[aJ (jI (bc (hi ay s1 O H1 _ I1 q1) λiv s2 #[y,H2,I2,r2,q2]=>?_))];erw[aJ (pC (aJ (jI (bc (hs ay s2 O H2 x y v ov iv u _ I2 r1 r2 r q2) λ_ s3 #[H3,I3,q3]=>?_))))];erw[wpAny_release #[O,H3,I3,q3]]
def DE(te:TE)(g:TG):TS:=λD O H=>te O H λx H1=>g x O H1 D.nx
theorem fe(he:PE X e te)(hg:PG X tg g)(hs:autoParam (swapsWithSole [tg] e pos.line X.env=pure false) r8_._auto_1)(hw:autoParam (swappedStores [tg] e X.env=pure none) r8_._auto_1) (h1:autoParam ((assignEach [tg] X.env).map (·.2)=[assign tg X.env]) r8_._auto_1):PS X (.Assign [tg] e pos) (DE te g):=by intro ay s O H D I h;erw[wpAny_Assign_stores (bc (he ay s O H _ I h) λv s1 #[x,H1,I1,r1,q1]=>?_) hs hw];rw[h1];erw[bc (hg ay s1 O H1 x v _ I1 r1 q1) λ_ s2 q=>q]
theorem a3c(hN:X.N.Nodup)(hi:X.N[i]? =some x)(hx:Loc X.env.scope x)(he:PE X e te)(hs:autoParam (swapsWith e (some (.Name x pos')) pos.line X.env=pure false) r8_._auto_1)(hf:autoParam (X.fn x=true\/X.env.scope.names.lookup x=some .local) d8_._auto_1): PS X (.Assign [.Name x pos'] e pos) (DE te (ie i)):=by intro ay s O H D I h;erw[wpAny_Assign_Name (bc (he ay s O H _ I h) λv s1 #[y,H1,I1,r1,q1]=>?_) hs];erw[xX I1 hN hi hx r1 (λs2 I2=>#[_,H1,I2,q1]) hf]
inductive adF(i:Nat)(j:Nat)(D:Ends)(O:St)(vs:List V)(H1:Hp):Prop |mk v w(_:vs=[v,w])(_:D.nx ((O.set i (some v)).set j (some w)) H1)
def Zq(i j:Nat)(ta:TA):TS:=λD O H=>ta O H λvs H1=>adF i j D O vs H1
theorem rL{px pt:Pos}{kt k2 Ax}(hc:X.calm=true)(hN:X.N.Nodup)(hi:X.N[i]? =some x)(hj:X.N[j]? =some y)(hij:i≠j) (hx:X.env.scope.names.lookup x=some .local)(hy:X.env.scope.names.lookup y=some .local)(ha:PA X [a,b] ta) (hw:swappedStores [.Tuple [.Name x px,.Name y py] kt pt] (.Tuple [a,b] k2 Ax) X.env=pure (some [x,y])) (hs:autoParam (swapsWithSole [.Tuple [.Name x px,.Name y py] kt pt] (.Tuple [a,b] k2 Ax) pos.line X.env=pure false) r8_._auto_1): PS X (.Assign [.Tuple [.Name x px,.Name y py] kt pt] (.Tuple [a,b] k2 Ax) pos) (Zq i j ta):=by
 intro ay s O H D I h;rw[exec_Assign_arm];erw[aJ (pC ?_)];rw[hs];erw[aJ (bN ?_)];rw[aV aA];erw[aJ (Tuple_ (bc (ha _ ay s O H _ I h) λus s1 #[vs,H1,I1,r1,q1]=>?_))];let(v,w,e1,q1):=q1;subst e1;obtain⟨u1,u2,rfl,rv,dA⟩:∃u1 u2,us=[u1,u2]/\RelV v u1/\RelV w u2:=by cases r1 with |cons p q=>cases q with |cons p' q'=>cases q';erw[_,_,Z,p,p']
 erw[qR ?_ (by show 2<=sizeLine;decide)];let I2:Inv X ay O H1 {s1 with heap:=s1.heap.push {cls:=.type "tuple",data:=.seq [u1,u2].toArray}}:=I1.kept (t':=s1.toks) λb o e=>cD _ e;rw[hw];erw[aJ (bN ?_)];show wpAny (model X.prog X.w) X.A (do rule "assign.swapped-stores";let items<-unpackItems (.ref s1.heap.objs.size) 2 none;assignInOrder [λv=>bindName X.env y v,λv=>bindName X.env x v] items.reverse;pure Flow.next) _ _ _;erw[aJ (CK (aJ (unpackItems_tuple (items:=(List.toArray [u1,u2])) (I.ok.hd hc) (IsTup.new s1.heap _) λh' hx'=>?_)))];let I3:=I2.kept (h':=h') (t':=s1.toks) λb o e=>hx' b o (eR (cC e)) e;show wpAny _ _ (assignInOrder [λv=>bindName X.env y v,λv=>bindName X.env x v] [u2,u1]>>=λ_=>pure Flow.next) _ _ _;erw[aJ (assignInOrder_cons (wpAny_bindName (xX I3 hN hj (.inl hy) dA (λs2 I4=>?_) (.inr hy))))];erw[assignInOrder_cons (wpAny_bindName (xX I4 hN hi (.inl hx) rv (λs3 I5=>assignInOrder_nil (bN ?_)) (.inr hx)))];rw[List.set_comm _ _ (kJ hij)]at I5;erw[_,H1,I5,q1]
inductive aft(f:Int->Int->Int)(x:V)(y:V)(H:Hp)(Q:VK):Prop |mk i j(_:x= .int i)(_:y= .int j)(_:Q (.int (f i j)) H)
def ipI(f:Int->Int->Int):Xi:=λx y H Q=>aft f x y H Q
theorem a73:PIp X .Add (ipI λi j=>i+j):=by intro ay s O H x y v u Q I r1 r2 h;let(i,j,e1,e2,q):=h;subst e1;subst e2;let(t,rfl):=r1;let(t',rfl):=r2;erw[iadd_int #[.int _,H,I.tok _,#[_,Z],q]]
def Mt(c:TT)(tb:TS):TS:=λD O H=>∃W:Nat->St->Hp->Prop,(∃m,W m O H)/\∀m O H,W m O H->c O H λb H1=>if b=true then∃N:St->Hp->Prop,(∀σ' H',N σ' H'->∃m',m'<m/\W m' σ' H')/\tb {D with nx:=N,ct:=N,bk:=D.nx} O H1 else D.nx O H1
theorem pM(hp:PassesOwn (model X.prog X.w) X.A X.env X.xe)(hc:PT X c tc)(hb:ip X body tb):PS X (.While c body [] pos) (Mt tc tb):=by intro ay s O H D I h;let(W,(m0,w0),turn):=h;erw[wpAny_While (codeAny_whileLoop (λn s'=>∃σ' H',Inv X ay σ' H' s'/\W n σ' H') ?_ m0 #[O,H,I,w0])];rintro n s1 ⟨σ1,H1,I1,w1⟩;erw[zD hp (bc (hc ay s1 σ1 H1 _ I1 (turn n σ1 H1 w1)) λb s2 #[H2,I2,q2]=>?_)];cases b with
 |true=>let(N,hN,q2):=q2;rw[aQ rfl];erw[zD hp (bc (hb ay s2 σ1 H2 _ I2 q2) λf s3 q3=>?_)];cases f with |next=>let(σ3,H3,I3,n3):=q3;let(m',hm,w3):=hN σ3 H3 n3;erw[m',hm,σ3,H3,I3,w3] |cont=>let(σ3,H3,I3,n3):=q3;let(m',hm,w3):=hN σ3 H3 n3;erw[m',hm,σ3,H3,I3,w3] |brk=>erw[q3] |ret v=>erw[q3]
 |false=>rw[aV jt];erw[FP #[σ1,H2,I2,q2]]
end
structure It where
 go:Nat->Hp->Prop
 jO:Nat->Hp->V->Hp->Prop
 stop:Nat->Hp->Prop
def kI(X:Cx)(ay:List (Addr×Obj))(H:Hp)(b:Addr):Prop:=H b=none/\b≠X.env.locals/\b∉X.fs/\(b∈X.ex\/X.s₀.heap.objs.size<=b)/\(∀x c,X.env.cells.lookup x=some c->c≠b)/\∀p∈X.pn++ay,p.1≠b
theorem Inv.sW{X:Cx}{ay:List (Addr×Obj)}{O:St}{H H':Hp}{s:ah}{b:Addr}(I:Inv X ay O H s)(hb:s.heap.objs.size<=b)(hn:H' b=none):kI X ay H' b:=by
 erw[hn,CV (gK I.lt hb),I.a5o hb,.inr (gY I.sz hb),λx c e z=>?_,λp hp z=>?_]
 ·let(v,q):=I.cell x c e
  erw[absurd (gK q.lt (by rw[z];erw[hb])) (xO _)]
 ·erw[absurd (gK (cC (I.pin p hp).1) (by rw[z];erw[hb])) (xO _)]
structure Turn(P:ai)(w:World)(K:ag)(tg:Expr)(J:It)(fp:List Addr)(it:Addr)(tn:Nat->Heap->Prop):Prop where
 mem:it∈fp
 obj:∀i h,tn i h->∀b∈fp,∃o,h.get? b=some o/\∀v,o.data≠ .cell v
 keep:∀i h h',tn i h->(∀b∈fp,∀o,h.get? b=some o->h'.get? b=some o)->tn i h'
 item:∀(X:Cx),X.prog=P->X.w=w->X.K=K->X.calm=true->∀(i:Nat)(ay:List (Addr×Obj))(s:ah)(O:St)(H:Hp)(E:Value->ah->Prop),Inv X ay O H s->(∀b∈fp,kI X ay H b)->tn i s.heap->J.go i H->wpAny (model P w) X.A (pyNext (.ref it)) (λr s1=>∃u,r=some u/\wpAny (model P w) X.A (letOwnedTupleGo tg (.ref it) u) (λ_ s2=>∃x H',Inv X ay O H' s2/\RelV x u/\J.jO i H x H'/\tn (i+1) s2.heap/\∀b∈fp,H' b=none) E s1) E s
 done:∀(X:Cx),X.prog=P->X.w=w->X.K=K->X.calm=true->∀(i:Nat)(ay:List (Addr×Obj))(s:ah)(O:St)(H:Hp)(E:Value->ah->Prop),Inv X ay O H s->(∀b∈fp,kI X ay H b)->tn i s.heap->J.stop i H->wpAny (model P w) X.A (pyNext (.ref it)) (λr s1=>r=none/\Inv X ay O H s1) E s
 self:∀(A:ak)(i:Nat)(s:ah)(Q:Value->ah->Prop)(E:Value->ah->Prop),tn i s.heap->Q (.ref it) s->wpAny (model P w) A (pyIter (.ref it)) Q E s
abbrev TI:=St->Hp->(It->Hp->Prop)->Prop
def FE(X:Cx)(ay:List (Addr×Obj))(O:St)(tg:Expr)(R:It->Hp->Prop)(Bl:Value)(s2:ah):Prop:=∃(it:Addr)(fp:List Addr)(tn:Nat->Heap->Prop)(J:It)(H':Hp),Bl= .ref it/\Inv X ay O H' s2/\Turn X.prog X.w X.K tg J fp it tn/\tn 0 s2.heap/\(∀b∈fp,kI X ay H' b)/\R J H'
def PI(X:Cx)(tg iter:Expr)(wi:TI):Prop:=∀(ay:List (Addr×Obj))(s:ah)(O:St)(H:Hp)(R:It->Hp->Prop),Inv X ay O H s->wi O H R->wpAny (model X.prog X.w) X.A (eval iter X.env) (λv s1=>wpAny (model X.prog X.w) X.A (pyIter v) (FE X ay O tg R) X.xe s1) X.xe s
theorem za{M:Model}{A:ak}{E:Value->ah->Prop}{s:ah}{tg:Expr}{it:Addr}{u:Value}{o:Obj}{n:String}{vs:Array Value}{Q:Unit->ah->Prop}(ho:s.heap.get? it=some o)(hc:o.cls= .type n)(hd:o.data= .fields vs) (hn:["enumerate","zip","dict_itemiterator","dict_reverseitemiterator","odict_iterator","itertools.zip_longest","itertools.pairwise"].contains n=false)(hQ:Q () s):wpAny M A (letOwnedTupleGo tg (.ref it) u) Q E s:=by unfold letOwnedTupleGo;cases tg<;>first |erw[bN hQ] |(cases u<;>first
        |erw[bN hQ]
        | (erw[aJ (wpAny_load ho ?_)]
           rw[hc,hd];show wpAny M A (if(["enumerate","zip","dict_itemiterator","dict_reverseitemiterator","odict_iterator","itertools.zip_longest","itertools.pairwise"].contains n&&vs[0]? ==some (rawInt _))=true then _ else _) Q E s;rw[aV (by intro h;rw[hn,mx]at h;cases h)];erw[bN hQ]))
def uZ(K:ag)(a:Addr):It:=#[λi H=>∃xs x,aL K H a xs/\xs[i]? =some x,λi H x H'=>H'=H/\∀xs,aL K H a xs->xs[i]? =some x,λi H=>∃xs,aL K H a xs/\xs.length<=i]
def uY(K:ag)(a:Addr):It:=#[λi H=>∃xs x,aW K H a xs/\xs[i]? =some x,λi H x H'=>H'=H/\∀xs,aW K H a xs->xs[i]? =some x,λi H=>∃xs,aW K H a xs/\xs.length<=i]
def qO(lo:Int)(n:Nat):It:=#[λi _=>i<n,λi H x H'=>H'=H/\x= .int (lo+i),λi _=>n<=i]
theorem Z3{P:ai}{w:World}{K:ag}{tg:Expr}(a it:Addr):Turn P w K tg (uZ K a) [it] it (λi h=>h.IsListIter it a i) where
 mem:=by simp
 obj:=λi h st b hb=>by
  let e:b=it:=by simpa using hb
  subst e;let(o,e,c,d):=st;erw[o,e,λv z=>by rw[d]at z;cases z]
 keep:=λi h h' st k=>st.at λo e=>k it (by simp) o e
 item:=by intro X hP hw hK hc i ay s O H E I hf st hg;subst hP hw hK;let(xs,x,hq,hx):=hg;let(its,rv,p,hz):=I.list hq;let(u,hu,ru):=rv.get hx;let(f0,f1,f2,f3,f4,f5):=hf it (by simp);erw[wpAny_pyNext_list_item st p.isList (x:=u) (by simpa using hu) λh' hW sb=>?_];let I1:Inv X ay O H {s with heap:=h'}:=I.turned (t':=s.toks) (λb o hb e=>(sb.2 b hb).trans e) f0 f1 f3 f4 f5;let(o,e,c,d):=id hW;erw[u,Z,za (s:={s with heap:=h'}) e c d aA #[x,H,I1,ru,#[Z,λys hy=>by rw[I.TY hy hq];erw[hx]],hW,λb hb=>(hf b hb).1]]
 done:=by intro X hP hw hK hc i ay s O H E I hf st hg;subst hP hw hK;let(xs,hq,hx):=hg;let(its,rv,p,hz):=I.list hq;let(f0,f1,f2,f3,f4,f5):=hf it (by simp);let hl:=rv.length;erw[wpAny_pyNext_list_end (I.ok.hd hc) st p.isList (by simp;lia) λh' eb=>#[Z,I.turned (t':=s.toks) (λb o hb e=>eb b o hb e) f0 f1 f3 f4 f5]]
 self:=λ_ _ _ _ _ st h=>wpAny_pyIter_listiter st h
theorem YZ{P:ai}{w:World}{K:ag}{tg:Expr}(a it:Addr):Turn P w K tg (uY K a) [it] it (λi h=>h.IsTupleIter it a i) where
 mem:=by simp
 obj:=λi h st b hb=>by
  let e:b=it:=by simpa using hb
  subst e;let(o,e,c,d):=st;erw[o,e,λv z=>by rw[d]at z;cases z]
 keep:=λi h h' st k=>st.at λo e=>k it (by simp) o e
 item:=by intro X hP hw hK hc i ay s O H E I hf st hg;subst hP hw hK;let(xs,x,hq,hx):=hg;let(its,rv,p,hz):=I.tuple hq;let(u,hu,ru):=rv.get hx;let(f0,f1,f2,f3,f4,f5):=hf it (by simp);erw[wpAny_pyNext_tuple_item st (show s.heap.IsTuple a its.toArray from p) (x:=u) (by simpa using hu) λh' hW sb=>?_];let I1:Inv X ay O H {s with heap:=h'}:=I.turned (t':=s.toks) (λb o hb e=>(sb.2 b hb).trans e) f0 f1 f3 f4 f5;let(o,e,c,d):=id hW;erw[u,Z,za (s:={s with heap:=h'}) e c d aA #[x,H,I1,ru,#[Z,λys hy=>by rw[I.Mm hy hq];erw[hx]],hW,λb hb=>(hf b hb).1]]
 done:=by intro X hP hw hK hc i ay s O H E I hf st hg;subst hP hw hK;let(xs,hq,hx):=hg;let(its,rv,p,hz):=I.tuple hq;let(f0,f1,f2,f3,f4,f5):=hf it (by simp);let hl:=rv.length;erw[wpAny_pyNext_tuple_end (I.ok.hd hc) st (show s.heap.IsTuple a its.toArray from p) (by simp;lia) λh' eb=>#[Z,I.turned (t':=s.toks) (λb o hb e=>eb b o hb e) f0 f1 f3 f4 f5]]
 self:=λ_ _ _ _ _ st h=>wpAny_pyIter_tupleiter st h
theorem Z2{P:ai}{w:World}{K:ag}{tg:Expr}(it:Addr)(lo:Int)(n:Nat):Turn P w K tg (qO lo n) [it] it (λi h=>IsRangeIter h it (lo+(i:Nat)*1) ((n:Int)-(i:Nat)) 1) where
 mem:=by simp
 obj:=λi h st b hb=>by
  let e:b=it:=by simpa using hb
  subst e;erw[_,st,λv z=>by let z':Data.fields _=Data.cell v:=z;cases z']
 keep:=λi h h' st k=>k it (by simp) _ st
 item:=by intro X hP hw hK hc i ay s O H E I hf st hg;subst hP hw hK;let(f0,f1,f2,f3,f4,f5):=hf it (by simp);let W:=Walks.range (prog:=X.prog) (w:=X.w) (I.ok.hd hc) it lo 1 n;erw[W.item i s _ _ hg st λv h' tk hv hW kk=>?_];let(t,rfl):=hv;let I1:Inv X ay O H {s with heap:=h',toks:=tk}:=I.turned (λb o hb e=>kk b o (by simpa using hb) e) f0 f1 f3 f4 f5;erw[_,Z,za (s:={s with heap:=h',toks:=tk}) (n:="range_iterator") hW rfl rfl aA #[.int (lo+i),H,I1,#[t,?_],#[Z,Z],hW,λb hb=>(hf b hb).1]];rw[Int.mul_one]
 done:=by intro X hP hw hK hc i ay s O H E I hf st hg;subst hP hw hK;let(f0,f1,f2,f3,f4,f5):=hf it (by simp);erw[XN (I.ok.hd hc) st (by have:n<=i:=hg;lia) λh' eb=>#[Z,I.turned (t':=s.toks) (λb o hb e=>eb b o hb e) f0 f1 f3 f4 f5]]
 self:=λ_ _ _ _ _ st h=>Lm st h
section
variable {X:Cx} {tg:Expr}
inductive afB(K:ag)(R:It->Hp->Prop)(x:V)(H1:Hp):Prop |mk a(_:x= .ref a)(_:(∃xs,aL K H1 a xs))(_:R (uZ K a) H1)
def Uv(K:ag)(tl:TE):TI:=λO H R=>tl O H λx H1=>afB K R x H1
inductive afv(K:ag)(R:It->Hp->Prop)(x:V)(H1:Hp):Prop |mk a(_:x= .ref a)(_:(∃xs,aW K H1 a xs))(_:R (uY K a) H1)
def Uu(K:ag)(tl:TE):TI:=λO H R=>tl O H λx H1=>afv K R x H1
theorem a3r(hl:PE X l tl):PI X tg l (Uv X.K tl):=by
 intro ay s O H R I h;erw[bc (hl ay s O H _ I h) λv s1 #[x,H1,I1,r1,q1]=>?_];let(a,e,(xs,hq),q):=q1;subst e;cases r1;let(its,rv,p,hz):=I1.list hq;erw[CL p.isList ?_];erw[s1.heap.objs.size,[s1.heap.objs.size],_,_,H1,Z,I1.kept (t':=s1.toks) λb o e=>cD _ e,Z3 a _,#[_,fj _ Z,Z,Z],λb hb=>?_,q];let e:b=s1.heap.objs.size:=by simpa using hb
 subst e;erw[I1.sW (aY _) (I1.bp.fresh (aY _))]
theorem a3n(hl:PE X l tl):PI X tg l (Uu X.K tl):=by
 intro ay s O H R I h;erw[bc (hl ay s O H _ I h) λv s1 #[x,H1,I1,r1,q1]=>?_];let(a,e,(xs,hq),q):=q1;subst e;cases r1;let(its,rv,p,hz):=I1.tuple hq;erw[wpAny_pyIter_tuple (show s1.heap.IsTuple a its.toArray from p) ?_];erw[s1.heap.objs.size,[s1.heap.objs.size],_,_,H1,Z,I1.kept (t':=s1.toks) λb o e=>cD _ e,YZ a _,#[_,fj _ Z,Z,Z],λb hb=>?_,q];let e:b=s1.heap.objs.size:=by simpa using hb
 subst e;erw[I1.sW (aY _) (I1.bp.fresh (aY _))]
theorem RN{ay:List (Addr×Obj)}{O:St}{H:Hp}{s:ah}{R:It->Hp->Prop}{E:Value->ah->Prop}{lo hi:Int}{t u v:Tok}{tk:Nat}(I:Inv X ay O H s)(h1:-(2^62)<=lo)(h2:lo<2^62)(h3:-(2^62)<=hi)(h4:hi<2^62) (q:R (qO lo (hi-lo).toNat) H):wpAny (model X.prog X.w) X.A (pyIter (.ref s.heap.objs.size)) (FE X ay O tg R) E {s with heap:=s.heap.push {cls:=.type "range",data:=.fields (List.toArray [.int lo t,.int hi u,.int 1 v])},toks:=tk}:=by
 erw[wpAny_pyIter_range (IsRange.new ..) (small_one h1 h2 h3 h4) ?_];let I1:Inv X ay O H {s with heap:=s.heap.push {cls:=.type "range",data:=.fields (List.toArray [.int lo t,.int hi u,.int 1 v])},toks:=tk}:=I.kept λb o e=>cD _ e;erw[(s.heap.push {cls:=.type "range",data:=.fields (List.toArray [.int lo t,.int hi u,.int 1 v])}).objs.size,[(s.heap.push {cls:=.type "range",data:=.fields (List.toArray [.int lo t,.int hi u,.int 1 v])}).objs.size],_,_,H,Z,I1.kept (t':=tk) λb o e=>cD _ e,Z2 _ lo (hi-lo).toNat,?_,λb hb=>?_,q]
 ·let e1:lo+((0:Nat):Int)*1=lo:=by simp
  let e2:(((hi-lo).toNat:Nat):Int)-((0:Nat):Int)=Builtin.Range.rangeSize lo hi 1:=by rw[rangeSize_one];split<;>lia
  show IsRangeIter _ _ (lo+((0:Nat):Int)*1) ((((hi-lo).toNat:Nat):Int)-((0:Nat):Int)) 1;rw[e1,e2];erw[fj _ rfl]
 ·let e:b=(s.heap.push {cls:=.type "range",data:=.fields (List.toArray [.int lo t,.int hi u,.int 1 v])}).objs.size:=by simpa using hb
  subst e;erw[I1.sW (aY _) (I1.bp.fresh (aY _))]
inductive afz(R:It->Hp->Prop)(vs:List V)(H1:Hp):Prop |mk (j:Int)(_:vs=[.int j])(_:-(2^62)<=j)(_:j<2^62)(_:R (qO 0 j.toNat) H1)
def a7j(ta:TA):TI:=λO H R=>ta O H λvs H1=>afz R vs H1
inductive afy(R:It->Hp->Prop)(vs:List V)(H1:Hp):Prop |mk (i:Int)(j:Int)(_:vs=[.int i,.int j])(_:(-(2^62)<=i/\i<2^62/\-(2^62)<=j/\j<2^62))(_:R (qO i (j-i).toNat) H1)
def a7i(ta:TA):TI:=λO H R=>ta O H λvs H1=>afy R vs H1
theorem pN(hg:Gl X "range")(hm:X.mg "range"=none)(ha:PA X [a] ta)(hs:autoParam (starEach [a] X.env=[(false,eval a X.env)]) r8_._auto_1):PI X tg (.Call (.Name "range" p) [a] [] pos) (a7j ta):=by intro ay s O H R I h;erw[Call_ (sy I hg hm boot_range (zI (bc (ha pos ay s O H _ I h) λus s1 #[vs,H1,I1,r1,q1]=>?_) hs Z))];let(j,e,q1,q2,q):=q1;subst e;cases r1 with |cons r rr=>cases rr;let(t,rfl):=r;erw[call_range_1 (RN I1 aw aw q1 q2 (by simpa using q))]
theorem E6(hg:Gl X "range")(hm:X.mg "range"=none)(ha:PA X [a,b] ta)(hs:autoParam (starEach [a,b] X.env=[(false,eval a X.env),(false,eval b X.env)]) r8_._auto_1)(iT:autoParam (starEach [b] X.env=[(false,eval b X.env)]) r8_._auto_1): PI X tg (.Call (.Name "range" p) [a,b] [] pos) (a7i ta):=by intro ay s O H R I h;erw[Call_ (sy I hg hm boot_range (zI (bc (ha pos ay s O H _ I h) λus s1 #[vs,H1,I1,r1,q1]=>?_) (by rw[hs,iT]) (by rw[iT];rfl)))];let(i,j,e,(q1,q2,q3,q4),q):=q1;subst e;cases r1 with |cons r rr=>cases rr with |cons r' rr=>cases rr;let(t,rfl):=r;let(t',rfl):=r';erw[call_range_2 (RN I1 q1 q2 q3 q4 q)]
def ZG(wi:TI)(g:TG)(tb:TS):TS:=λD O H=>wi O H λJ H1=>∃W:Nat->Nat->St->Hp->Prop,(∃m,W 0 m O H1)/\∀i m O H,W i m O H->(J.stop i H/\D.nx O H)\/(J.go i H/\∃N:St->Hp->Prop,(∀σ' H',N σ' H'->∃m',m'<m/\W (i+1) m' σ' H')/\∀x H',J.jO i H x H'->g x O H' λσ2 H2=>tb {D with nx:=N,ct:=N,bk:=D.nx} σ2 H2)
def rM(fp:List Addr)(h:Heap):List (Addr×Obj):=fp.filterMap λb=>(h.get? b).map λo=>(b,o)
theorem pV(hb:b∈fp)(e:h.get? b=some o):(b,o)∈rM fp h:=zO.mpr #[b,hb,by rw[e];rfl]
theorem a59(hp:p∈rM fp h):p.1∈fp/\h.get? p.1=some p.2:=by let(b,hb,e):=zO.mp hp;cases q:h.get? b with |none=>rw[q]at e;cases e |some o=>rw[q]at e;let e':(b,o)=p:=eQ e;subst e';erw[hb,q]
theorem Inv.pinned{ay:List (Addr×Obj)}{O:St}{H:Hp}{s:ah}{fp:List Addr}(I:Inv X ay O H s)(hf:∀b∈fp,kI X ay H b)(ho:∀b∈fp,∃o,s.heap.get? b=some o/\∀v,o.data≠ .cell v):Inv X (ay++rM fp s.heap) O H s:=I.RZ λp hp=>(jL.mp hp).elim (λz=>I.pin p (ir _ z)) λz=>by let(hb,e):=a59 z;let(f0,f1,f2,_):=hf p.1 hb;let(o,e',d):=ho p.1 hb;rw[e]at e';cases e';erw[e,f0,f1,f2,d]
theorem Inv.vv{ay pl:List (Addr×Obj)}{O:St}{H:Hp}{s:ah}(I:Inv X (ay++pl) O H s):Inv X ay O H s:=I.RZ λp hp=>I.pin p (ir _ (LQ _ hp))
theorem g9(hp:PassesOwn (model X.prog X.w) X.A X.env X.xe)(hc:X.calm=true)(hi:PI X tg iter wi)(hg:PG X tg g)(hb:ip X body tb) (hs:autoParam (∀x,foldedSetIterable iter X.env x=pure x) d8_._auto_1):PS X (.For tg iter body [] pos) (ZG wi g tb):=by
 intro ay s O H D I h;erw[wpAny_For (bc (hi ay s O H _ I h) λv s1 h1=>bc h1 λBl s2 h2=>?_) hs];let(it,fp,tn,J,H2,e,I2,T,pH,f2,W,(m0,w0),turn):=h2;subst e;let kM:∀{H':Hp},(∀b∈fp,H' b=none)->∀b∈fp,kI X ay H' b:=λhn b hb=>#[hn b hb,(f2 b hb).2];erw[codeAny_forLoop_any (λn s'=>∃i σ' H',Inv X ay σ' H' s'/\tn i s'.heap/\(∀b∈fp,H' b=none)/\W i n σ' H') ?_ m0 #[0,O,H2,I2,pH,λb hb=>(f2 b hb).1,w0]];rintro n s3 ⟨i,σ3,H3,I3,MT,Ve,w3⟩;rcases turn i n σ3 H3 w3 with⟨stop,qn⟩|⟨go,N,hN,step⟩
 ·erw[zD hp (bc (T.done X Z Z Z hc i ay s3 σ3 H3 X.xe I3 (kM Ve) MT stop) λr s4 #[hr,I4]=>?_)]
  subst hr;erw[FP #[σ3,H3,I4,qn]]
 ·erw[zD hp (bc (T.item X Z Z Z hc i ay s3 σ3 H3 X.xe I3 (kM Ve) MT go) λr s4 #[u,hr,h4]=>?_)]
  subst hr;erw[zD hp (bc h4 λ_ s5 #[x,H5,I5,r5,y5,nA,qy]=>?_)];let I5':=I5.pinned (kM qy) (T.obj _ _ nA);erw[zD hp (bc (hg _ s5 σ3 H5 x u _ I5' r5 (step x H5 y5)) λ_ s6 #[σ6,H6,I6,q6]=>?_)];erw[zD hp (bc (hb _ s6 σ6 H6 _ I6 q6) λf s7 q7=>?_)];let again:∀{σ7:St}{H7:Hp},Inv X (ay++rM fp s5.heap) σ7 H7 s7->N σ7 H7->∃m,m<n/\∃i σ' H',Inv X ay σ' H' s7/\tn i s7.heap/\(∀b∈fp,H' b=none)/\W i m σ' H':=λ{σ7 H7} I7 n7=>by let(m',hm,w7):=hN σ7 H7 n7;erw[m',hm,i+1,σ7,H7,I7.vv,T.keep _ _ _ nA λb hb o e=>(I7.pin (b,o) (ir _ (ir _ (pV hb e)))).1,λb hb=>?_,w7];let(o,e,d):=T.obj _ _ nA b hb;exact(I7.pin (b,o) (ir _ (ir _ (pV hb e)))).2.1
  cases f with |next=>let(σ7,H7,I7,n7):=q7;erw[again I7 n7] |cont=>let(σ7,H7,I7,n7):=q7;erw[again I7 n7] |brk=>let(σ7,H7,I7,q7):=q7;erw[σ7,H7,I7.vv,q7] |ret v=>let(x7,σ7,H7,I7,r7,q7):=q7;erw[x7,σ7,H7,I7.vv,r7,q7]
end
theorem BN{K:ag}{a:Addr}{xs:List V}{g:TG}{tb:TS}{D:Ends}{O:St}{H:Hp}(Pv:Nat->St->Hp->Prop)(h0:Pv 0 O H)(hl:∀i O H,i<=xs.length->Pv i O H->aL K H a xs) (hs:∀i x O H,xs[i]? =some x->Pv i O H->g x O H λσ2 H2=>tb {D with nx:=Pv (i+1),ct:=Pv (i+1),bk:=D.nx} σ2 H2)(hd:∀O H,Pv xs.length O H->D.nx O H): ∃W:Nat->Nat->St->Hp->Prop,(∃m,W 0 m O H)/\∀i m O H,W i m O H->((uZ K a).stop i H/\D.nx O H)\/((uZ K a).go i H/\∃N:St->Hp->Prop,(∀σ' H',N σ' H'->∃m',m'<m/\W (i+1) m' σ' H')/\∀x H',(uZ K a).jO i H x H'->g x O H' λσ2 H2=>tb {D with nx:=N,ct:=N,bk:=D.nx} σ2 H2):=by
 erw[λi m O H=>m=xs.length-i/\i<=xs.length/\Pv i O H,#[xs.length,by simp,fX _,h0],?_];rintro i m O H ⟨rfl,hi,p⟩;let q:=hl i O H hi p;by_cases bK:i<xs.length
 ·erw[.inr #[#[xs,xs[i],q,by simp[bK]],Pv (i+1),λσ' H' p'=>#[xs.length-(i+1),aw,Z,bK,p'],λx H' y=>?_]]
  let(e,y):=y;subst e;erw[hs i x O _ (y xs q) p]
 ·let e:i=xs.length:=by lia
  subst e;erw[.inl #[#[xs,q,aY _],hd O H p]]
theorem Vg{K:ag}{a:Addr}{xs:List V}{g:TG}{tb:TS}{D:Ends}{O:St}{H:Hp}(Pv:Nat->St->Hp->Prop)(h0:Pv 0 O H)(hl:∀i O H,i<=xs.length->Pv i O H->aW K H a xs) (hs:∀i x O H,xs[i]? =some x->Pv i O H->g x O H λσ2 H2=>tb {D with nx:=Pv (i+1),ct:=Pv (i+1),bk:=D.nx} σ2 H2)(hd:∀O H,Pv xs.length O H->D.nx O H): ∃W:Nat->Nat->St->Hp->Prop,(∃m,W 0 m O H)/\∀i m O H,W i m O H->((uY K a).stop i H/\D.nx O H)\/((uY K a).go i H/\∃N:St->Hp->Prop,(∀σ' H',N σ' H'->∃m',m'<m/\W (i+1) m' σ' H')/\∀x H',(uY K a).jO i H x H'->g x O H' λσ2 H2=>tb {D with nx:=N,ct:=N,bk:=D.nx} σ2 H2):=by
 erw[λi m O H=>m=xs.length-i/\i<=xs.length/\Pv i O H,#[xs.length,by simp,fX _,h0],?_];rintro i m O H ⟨rfl,hi,p⟩;let q:=hl i O H hi p;by_cases bK:i<xs.length
 ·erw[.inr #[#[xs,xs[i],q,by simp[bK]],Pv (i+1),λσ' H' p'=>#[xs.length-(i+1),bZ,Z,bK,p'],λx H' y=>?_]]
  let(e,y):=y;subst e;erw[hs i x O _ (y xs q) p]
 ·let e:i=xs.length:=by omega
  subst e;erw[.inl #[#[xs,q,aY _],hd O H p]]
theorem qz{lo:Int}{n:Nat}{g:TG}{tb:TS}{D:Ends}{O:St}{H:Hp}(Pv:Nat->St->Hp->Prop)(h0:Pv 0 O H) (hs:∀i O H,i<n->Pv i O H->g (.int (lo+i)) O H λσ2 H2=>tb {D with nx:=Pv (i+1),ct:=Pv (i+1),bk:=D.nx} σ2 H2)(hd:∀O H,Pv n O H->D.nx O H): ∃W:Nat->Nat->St->Hp->Prop,(∃m,W 0 m O H)/\∀i m O H,W i m O H->((qO lo n).stop i H/\D.nx O H)\/((qO lo n).go i H/\∃N:St->Hp->Prop,(∀σ' H',N σ' H'->∃m',m'<m/\W (i+1) m' σ' H')/\∀x H',(qO lo n).jO i H x H'->g x O H' λσ2 H2=>tb {D with nx:=N,ct:=N,bk:=D.nx} σ2 H2):=by
 erw[λi m O H=>m=n-i/\i<=n/\Pv i O H,#[n,by simp,fX _,h0],?_];rintro i m O H ⟨rfl,hi,p⟩;by_cases bK:i<n
 ·erw[.inr #[bK,Pv (i+1),λσ' H' p'=>#[n-(i+1),aw,Z,bK,p'],λx H' y=>?_]]
  let(e,y):=y;subst e y;erw[hs i O _ bK p]
 ·let e:i=n:=by lia
  subst e;erw[.inl #[aY _,hd O H p]]
theorem pD{D:Ends}(Pv:St->Hp->Prop)(μ:St->Hp->Nat)(h0:Pv O H) (hs:∀O H,Pv O H->c O H λb H1=>if b=true then tb {D with nx:=λσ' H'=>Pv σ' H'/\μ σ' H'<μ O H,ct:=λσ' H'=>Pv σ' H'/\μ σ' H'<μ O H,bk:=D.nx} O H1 else D.nx O H1) (mono:∀O H Q Q',(∀b H1,Q b H1->Q' b H1)->c O H Q->c O H Q'):Mt c tb D O H:=by erw[λm O H=>m=μ O H/\Pv O H,#[_,Z,h0],?_];rintro m O H ⟨rfl,p⟩;erw[mono O H _ _ (λb H1 q=>?_) (hs O H p)];cases b with |true=>erw[_,λσ' H' #[p',l]=>#[_,l,Z,p'],q] |false=>erw[q]
abbrev R2:=V->V->Hp->VK->Prop
def dN(X:Cx)(f:Value->Value->Sem Value)(r:R2):Prop:=∀(ay:List (Addr×Obj))(s:ah)(O:St)(H:Hp)(x y:V)(v u:Value)(Q:VK),Inv X ay O H s->RelV x v->RelV y u->r x y H Q->wpAny (model X.prog X.w) X.A (f v u) (EP X ay O Q) X.xe s
def KZ(X:Cx)(f:Value->Sem Value)(r:V->Hp->VK->Prop):Prop:=∀(ay:List (Addr×Obj))(s:ah)(O:St)(H:Hp)(x:V)(v:Value)(Q:VK),Inv X ay O H s->RelV x v->r x H Q->wpAny (model X.prog X.w) X.A (f v) (EP X ay O Q) X.xe s
def fW(X:Cx)(f:Value)(r:List V->Hp->VK->Prop):Prop:=∀(ay:List (Addr×Obj))(s:ah)(O:St)(H:Hp)(xs:List V)(us:List Value)(Q:VK),Inv X ay O H s->Vals xs us->r xs H Q->wpAny (model X.prog X.w) X.A (call f us) (EP X ay O Q) X.xe s
def adk(X:Cx)(r:V->Hp->(Bool->Hp->Prop)->Prop):Prop:=∀(ay:List (Addr×Obj))(s:ah)(O:St)(H:Hp)(x:V)(v:Value)(Q:Bool->Hp->Prop),Inv X ay O H s->RelV x v->r x H Q->wpAny (model X.prog X.w) X.A (truthy v) (TP X ay O Q) X.xe s
def A6(r:R2)(ta tb:TE):TE:=λO H Q=>ta O H λx H1=>tb O H1 λy H2=>r x y H2 Q
def Zi(r:V->Hp->VK->Prop)(ta:TE):TE:=λO H Q=>ta O H λx H1=>r x H1 Q
inductive IrI(C:Int->Int->Prop)(g:Int->Int->V)(x:V)(y:V)(H:Hp)(Q:VK):Prop |mk i j(_:x= .int i)(_:y= .int j)(_:C i j)(_:Q (g i j) H)
def rI(C:Int->Int->Prop)(g:Int->Int->V):R2:=λx y H Q=>IrI C g x y H Q
inductive afl(g:Int->Int->V)(x:V)(y:V)(H:Hp)(Q:VK):Prop |mk i j(_:x= .int i)(_:y= .int j)(_:Q (g i j) H)
def lQ(g:Int->Int->V):R2:=λx y H Q=>afl g x y H Q
inductive IrU(g:Int->V)(x:V)(H:Hp)(Q:VK):Prop |mk i(_:x= .int i)(_:Q (g i) H)
def rU(g:Int->V):V->Hp->VK->Prop:=λx H Q=>IrU g x H Q
section
variable {X:Cx}{a b c:Expr}{ta tb tc:TE}{pos:Pos}
theorem KA(ha:PE X a ta)(hb:PE X b tb){ay:List (Addr×Obj)}{s:ah}{O:St}{H:Hp}{R:V->V->Hp->Prop}(I:Inv X ay O H s) (h:ta O H λx H1=>tb O H1 λy H2=>R x y H2){Q:Value->ah->Prop}{f:Value->Value->Sem Value} (hf:∀v u s2 x y H2,Inv X ay O H2 s2->RelV x v->RelV y u->R x y H2->wpAny (model X.prog X.w) X.A (f v u) Q X.xe s2): wpAny (model X.prog X.w) X.A (eval a X.env) (λv s₁=>wpAny (model X.prog X.w) X.A (eval b X.env) (λu s₂=>wpAny (model X.prog X.w) X.A (f v u) Q X.xe s₂) X.xe s₁) X.xe s:=by erw[bc (ha ay s O H _ I h) λv s1 #[x,H1,I1,r1,q1]=>?_];erw[bc (hb ay s1 O H1 _ I1 q1) λu s2 #[y,H2,I2,r2,q2]=>?_];erw[hf v u s2 x y H2 I2 r1 r2 q2]
theorem aO(ho:dN X (binaryOp op) r)(ha:PE X a ta)(hb:PE X b tb):PE X (.BinOp a op b pos) (A6 r ta tb):=by intro ay s O H Q I h;erw[wpAny_BinOp (KA ha hb I h λv u s2 x y H2 I2 rx ry q=>ho ay s2 O H2 x y v u Q I2 rx ry q)]
theorem nI(ho:KZ X (unaryOp op) r)(ha:PE X a ta):PE X (.UnaryOp op a pos) (Zi r ta):=by intro ay s O H Q I h;erw[UnaryOp_ (bc (ha ay s O H _ I h) λv s1 #[x,H1,I1,r1,q1]=>ho ay s1 O H1 x v Q I1 r1 q1)]
theorem AG{f:Value->Value->Sem Value}{C:Int->Int->Prop}{g:Int->Int->Int} (rule:∀(i j:Int)(t u:Tok)(s:ah)(Q:Value->ah->Prop)(E:Value->ah->Prop),C i j->Q (.int (g i j) s.toks) {s with toks:=s.toks+1}->wpAny (model X.prog X.w) X.A (f (.int i t) (.int j u)) Q E s): dN X f (rI C λi j=>.int (g i j)):=by intro ay s O H x y v u Q I rx ry h;let(i,j,rfl,rfl,hc,q):=h;let(t,rfl):=rx;let(t',rfl):=ry;erw[rule i j t t' s _ _ hc #[.int (g i j),H,I.tok _,#[_,Z],q]]
theorem Sk{f:Value->Value->Sem Value}{g:Int->Int->Int} (rule:∀(i j:Int)(t u:Tok)(s:ah)(Q:Value->ah->Prop)(E:Value->ah->Prop),Q (.int (g i j) s.toks) {s with toks:=s.toks+1}->wpAny (model X.prog X.w) X.A (f (.int i t) (.int j u)) Q E s): dN X f (lQ λi j=>.int (g i j)):=by intro ay s O H x y v u Q I rx ry h;let(i,j,rfl,rfl,q):=h;let(t,rfl):=rx;let(t',rfl):=ry;erw[rule i j t t' s _ _ #[.int (g i j),H,I.tok _,#[_,Z],q]]
theorem yn{f:Value->Value->Sem Value}{g:Int->Int->Bool} (rule:∀(i j:Int)(t u:Tok)(s:ah)(Q:Value->ah->Prop)(E:Value->ah->Prop),Q (.bool (g i j)) s->wpAny (model X.prog X.w) X.A (f (.int i t) (.int j u)) Q E s): dN X f (lQ λi j=>.bl (g i j)):=by intro ay s O H x y v u Q I rx ry h;let(i,j,rfl,rfl,q):=h;let(t,rfl):=rx;let(t',rfl):=ry;erw[rule i j t t' s _ _ #[.bl (g i j),H,I,Z,q]]
def afS(i j:Int):Prop:=0<=j/\j<=1000000/\i.natAbs<2^64
theorem cM:dN X (binaryOp .Add) (lQ λi j=>.int (i+j)):=Sk λ_ _ _ _ _ _ _ q=>add_int q
theorem fE:dN X (binaryOp .Sub) (lQ λi j=>.int (i-j)):=Sk λ_ _ _ _ _ _ _ q=>sub_int q
theorem uq:dN X (binaryOp .Mod) (rI (λ_ j=>0<j) λi j=>.int (i%j)):=AG λi j _ _ _ _ _ hc q=>by let h1:(0:Int)<j:=hc;erw[mod_int' aw (by rw[Int.fmod_eq_emod_of_nonneg i aw];erw[q])]
theorem vO:dN X (binaryOp .Pow) (rI afS λi j=>.int (i^j.toNat)):=AG λ_ _ _ _ _ _ _ hc q=>pow_int_small hc.1 hc.2.1 hc.2.2 q
theorem YT{f:Value->Sem Value}{g:Int->Int} (rule:∀(i:Int)(t:Tok)(s:ah)(Q:Value->ah->Prop)(E:Value->ah->Prop),Q (.int (g i) s.toks) {s with toks:=s.toks+1}->wpAny (model X.prog X.w) X.A (f (.int i t)) Q E s): KZ X f (rU λi=>.int (g i)):=by intro ay s O H x v Q I rx h;let(i,rfl,q):=h;let(t,rfl):=rx;erw[rule i t s _ _ #[.int (g i),H,I.tok _,#[_,Z],q]]
theorem nu:KZ X (unaryOp .USub) (rU λi=>.int (-i)):=YT λ_ _ _ _ _ q=>neg_int q
theorem JE{ay:List (Addr×Obj)}{O:St}{H:Hp}{s:ah}{Q:VK}{k k':Bool}(I:Inv X ay O H s)(q:Q (.bl k) H)(e:k=k'):EP X ay O Q (.bool k') s:=by subst e;erw[.bl k,H,I,Z,q]
theorem ky:dN X (compareOp .Lt) (lQ λi j=>.bl (decide (i<j))):=yn λ_ _ _ _ _ _ _ q=>lt_int q
theorem Ef:dN X (compareOp .LtE) (lQ λi j=>.bl (decide (i<=j))):=yn λ_ _ _ _ _ _ _ q=>le_int q
theorem mH:dN X (compareOp .Gt) (lQ λi j=>.bl (decide (j<i))):=yn λ_ _ _ _ _ _ _ q=>gt_int q
theorem Eg:dN X (compareOp .GtE) (lQ λi j=>.bl (decide (j<=i))):=yn λ_ _ _ _ _ _ _ q=>ge_int q
theorem a41:dN X (compareOp .In) (λx y H Q=>∃i j,x= .str i/\y= .str j/\Q (.bl (!(Builtin.Str.occurrences j i 0 j.length 1).isEmpty)) H):=by intro ay s O H x y v u Q I rx ry h;let(i,j,rfl,rfl,q):=h;let(t,rfl):=rx;let(t',rfl):=ry;erw[in_str (JE I q Z)]
theorem a40:dN X (compareOp .Is) (λx y H Q=>y= .bM/\Q (.bl (decide (x= .bM))) H):=by intro ay s O H x y v u Q I rx ry h;let(rfl,q):=h;cases ry;erw[is_none_gen (JE I q ?_)];cases x<;>first |(cases rx;rfl) |(let(t,rfl):=rx;rfl)
theorem nJ:dN X (compareOp .IsNot) (λx y H Q=>y= .bM/\Q (.bl (!decide (x= .bM))) H):=by intro ay s O H x y v u Q I rx ry h;let(rfl,q):=h;cases ry;erw[isnot_none_gen (JE I q ?_)];cases x<;>first |(cases rx;rfl) |(let(t,rfl):=rx;rfl)
theorem dN.or(h:dN X f r)(h':dN X f r'):dN X f (λx y H Q=>r x y H Q\/r' x y H Q):=by
 intro ay s O H x y v u Q I rx ry q;rcases q with q|q
 ·erw[h ay s O H x y v u Q I rx ry q]
 ·erw[h' ay s O H x y v u Q I rx ry q]
theorem bf(b:Expr){op:CmpOp}(h:autoParam (op≠ .In) q8_._auto_1)(h2:autoParam (op≠ .NotIn) q8_._auto_1):behindInMarks op b=false:=by
 let e1:(op==CmpOp.In)=false:=by cases op<;>first|rfl|erw[absurd rfl h]
 let e2:(op==CmpOp.NotIn)=false:=by cases op<;>first|rfl|erw[absurd rfl h2]
 cases b<;>simp[behindInMarks,e1,e2]
theorem eV(ho:dN X (compareOp op) r)(ha:PE X a ta)(hb:PE X b tb)(hm:behindInMarks op b=false):PE X (.Compare a [op] [b] pos) (A6 r ta tb):=by intro ay s O H Q I h;erw[wpAny_Compare1 (KA ha hb I h λv u s2 x y H2 I2 rx ry q=>ho ay s2 O H2 x y v u Q I2 rx ry q) hm]
inductive adD(Q:Bool->Hp->Prop)(x:V)(H':Hp):Prop |mk k(_:x= .bl k)(_:Q k H')
def Mw(t:TE):TT:=λO H Q=>t O H λx H'=>adD Q x H'
theorem bL(ho:dN X (compareOp op) r)(ha:PE X a ta)(hb:PE X b tb)(hm:behindInMarks op b=false):PT X (.Compare a [op] [b] pos) (Mw (A6 r ta tb)):=by intro ay s O H Q I h;erw[wpAny_isTrue_Compare1 (bc (ha ay s O H _ I h) λv s1 #[x,H1,I1,r1,q1]=>bc (hb ay s1 O H1 _ I1 q1) λu s2 #[y,H2,I2,r2,q2]=>bc (ho ay s2 O H2 x y v u _ I2 r1 r2 q2) λc s3 #[z,H3,I3,r3,k,e,q3]=>?_) hm];subst e;cases r3;erw[qQ #[H3,I3,q3]]
inductive adI(r':R2)(tc:TE)(O:St)(Q:VK)(y:V)(z:V)(H3:Hp):Prop |mk k(_:z= .bl k)(_:(if k=true then tc O H3 λw' H4=>r' y w' H4 Q else Q (.bl false) H3))
def MC(r r':R2)(ta tb tc:TE):TE:=λO H Q=>ta O H λx H1=>tb O H1 λy H2=>r x y H2 λz H3=>adI r' tc O Q y z H3
theorem a3F(ho:dN X (compareOp op) r)(oO:dN X (compareOp vP) r')(ha:PE X a ta)(hb:PE X b tb)(hc:PE X c tc) (hm:autoParam (lastMarks [op,vP] [b,c]=false) f8_._auto_1):PE X (.Compare a [op,vP] [b,c] pos) (MC r r' ta tb tc):=by intro ay s O H Q I h;erw[Compare_chain (bc (ha ay s O H _ I h) λv s1 #[x,H1,I1,r1,q1]=>chain_link (bc (hb ay s1 O H1 _ I1 q1) λu s2 #[y,H2,I2,r2,q2]=>bc (ho ay s2 O H2 x y v u _ I2 r1 r2 q2) λd s3 #[z,H3,I3,r3,k,e,q3]=>?_)) hm];subst e;cases r3;erw[qQ ?_];cases k with |false=>erw[ite_ff #[.bl false,H3,I3,Z,q3]] |true=>erw[ite_tt (chain_last (bc (hc ay s3 O H3 _ I3 q3) λw' s4 #[z',H4,I4,r4,q4]=>oO ay s4 O H4 y z' u w' Q I4 r2 r4 q4))]
theorem a37(ho:dN X (compareOp op) r)(oO:dN X (compareOp vP) r')(ha:PE X a ta)(hb:PE X b tb)(hc:PE X c tc) (hm:autoParam (lastMarks [op,vP] [b,c]=false) f8_._auto_1):PT X (.Compare a [op,vP] [b,c] pos) (Mw (MC r r' ta tb tc)):=by intro ay s O H Q I h;erw[isTrue_chain (bc (ha ay s O H _ I h) λv s1 #[x,H1,I1,r1,q1]=>test_link (bc (hb ay s1 O H1 _ I1 q1) λu s2 #[y,H2,I2,r2,q2]=>bc (ho ay s2 O H2 x y v u _ I2 r1 r2 q2) λd s3 #[z,H3,I3,r3,k,e,q3]=>?_)) hm];subst e;cases r3;erw[qQ ?_];cases k with |false=>let(k',e',q'):=q3;cases e';erw[ite_ff #[H3,I3,q']] |true=>erw[ite_tt (test_last (bc (hc ay s3 O H3 _ I3 q3) λw' s4 #[z',H4,I4,r4,q4]=>bc (oO ay s4 O H4 y z' u w' _ I4 r2 r4 q4) λd' s5 #[z2,H5,I5,r5,k2,e2,q5]=>?_))];subst e2;cases r5;erw[qQ #[H5,I5,q5]]
def L5(K:ag)(x:V)(H:Hp)(k:Bool):Prop:=match x with | .bM=>k=false | .bl b=>k=b | .int i=>k=(i !=0) | .str y=>y.length<=sizeLine/\k=((y.length:Int) !=0) | .zl y=>y.size<=sizeLine/\k=((y.size:Int) !=0) | .ref p=>(∃xs,aL K H p xs/\k= !xs.isEmpty)\/(∃xs,aW K H p xs/\k= !xs.isEmpty)\/∃fm,H p=some (.dK fm)/\k= !fm.isEmpty |_=>False
theorem a72{fm:List (κ×V)}{vs:List (κ×Value)}(r:KV fm vs):(!vs.isEmpty)= !fm.isEmpty:=by cases r<;>rfl
theorem Uo(r:Vals xs its):(!its.toArray.isEmpty)= !xs.isEmpty:=by cases r<;>simp
theorem wm:(sizeLine:Nat)<2^63:=by rw[FU];decide
theorem Z7:adk X (λx H Q=>∃k,L5 X.K x H k/\Q k H):=by intro ay s O H x v Q I rx h;let(k,e,q):=h;let hl:=wm;let hs:sizeLine=16777216:=FU;cases x with |bM=>cases rx;let e':k=false:=e;subst e';erw[truthy_none #[H,I,q]] |bl b=>cases rx;let e':k=b:=e;subst e';erw[qQ #[H,I,q]] |int i=>let(t,rfl):=rx;let e':k=(i !=0):=e;subst e';erw[PySem.P.truthy_int #[H,I,q]] |str y=>let(t,rfl):=rx;obtain⟨hy,e'⟩:y.length<=sizeLine/\k=((y.length:Int) !=0):=e;subst e';erw[PySem.P.truthy_str aw #[H,I.tok _,q]] |zl y=>let(t,rfl):=rx;obtain⟨hy,e'⟩:y.size<=sizeLine/\k=((y.size:Int) !=0):=e;subst e';erw[PySem.W.truthy_bytes aw #[H,I.tok _,q]] |ref p=>
 cases rx;let e':(∃xs,aL X.K H p xs/\k= !xs.isEmpty)\/(∃xs,aW X.K H p xs/\k= !xs.isEmpty)\/∃fm,H p=some (.dK fm)/\k= !fm.isEmpty:=e;rcases e' with⟨xs,hx,e'⟩|⟨xs,hx,e'⟩|⟨fm,hx,e'⟩
 ·subst e'
  let(its,r,pl,hz):=I.list hx;let hlen:=r.length;erw[wpAny_truthy_list pl.isList (by simp only[fg];lia) #[H,I.tok _,by rw[Uo r];erw[q]]]
 ·subst e'
  let(its,r,pl,hz):=I.tuple hx;let hlen:=r.length;erw[truthy_tuple pl (by simp only[fg];lia) #[H,I.tok _,by rw[Uo r];erw[q]]]
 ·subst e'
  obtain⟨hz,hS,vs,r,m⟩:fm.length<=sizeLine/\(p==sysModules)=false/\∃vs,KV fm vs/\s.heap.DictOf (Io X.prog X.w) p vs:=I.bp p _ hx;let hlen:fm.length=vs.length:=Paired.length r;erw[wpAny_truthy_dict hS m aw #[H,I.tok _,by rw[a72 r];erw[q]]] |_=>exact(show False from e).elim
theorem a36(ha:PE X a ta)(he:∀whole,isTrue a X.env whole=(do let v<-whole;standAt a.pos;holding [v] (truthy v))): PT X a (λO H Q=>ta O H λx H'=>∃k,L5 X.K x H' k/\Q k H'):=by intro ay s O H Q I h;erw[isTrue_plain (bc (ha ay s O H _ I h) λv s1 #[x,H1,I1,r1,q1]=>Z7 ay s1 O H1 x v Q I1 r1 q1) (he _)]
theorem vals1(r:Vals [x] us):∃u,us=[u]/\RelV x u:=by cases r with |cons r1 r2=>cases r2;erw[_,rfl,r1]
theorem vals2(r:Vals [x,y] us):∃u w',us=[u,w']/\RelV x u/\RelV y w':=by cases r with |cons r1 r2=>cases r2 with |cons r3 r4=>cases r4;erw[_,_,rfl,r1,r3]
theorem qJ:fW X (.builtin "abs") (λxs H Q=>∃i,xs=[.int i]/\Q (.int (if i<0 then-i else i)) H):=by intro ay s O H xs us Q I r h;let(i,rfl,q):=h;let(u,rfl,t,rfl):=vals1 r;erw[call_abs_int λu tk=>#[.int (if i<0 then-i else i),H,I.tok _,#[_,Z],q]]
theorem aco(hc:X.calm=true):fW X (.builtin "max") (λxs H Q=>∃i j,xs=[.int i,.int j]/\Q (.int (if j>i then j else i)) H):=by
 intro ay s O H xs us Q I r h;let(i,j,rfl,q):=h;let(u,w',rfl,(t,rfl),(t',rfl)):=vals2 r;erw[max_two_ints (I.ok.hd hc) λh' tk k=>#[_,H,I.kept k,?_,q]];by_cases hj:j>i
 ·rw[aQ hj,aQ hj];erw[_,Z]
 ·rw[aV hj,aV hj];erw[_,Z]
theorem Kw(hc:X.calm=true):fW X (.builtin "min") (λxs H Q=>∃i j,xs=[.int i,.int j]/\Q (.int (if j<i then j else i)) H):=by
 intro ay s O H xs us Q I r h;let(i,j,rfl,q):=h;let(u,w',rfl,(t,rfl),(t',rfl)):=vals2 r;erw[min_two_ints (I.ok.hd hc) λh' tk k=>#[_,H,I.kept k,?_,q]];by_cases hj:j<i
 ·rw[aQ hj,aQ hj];erw[_,Z]
 ·rw[aV hj,aV hj];erw[_,Z]
theorem zk:fW X (.type "int") (λxs H Q=>(∃i,xs=[.int i]/\Q (.int i) H)\/∃k,xs=[.bl k]/\Q (.int (if k then 1 else 0)) H):=by
 intro ay s O H xs us Q I r h;rcases h with⟨i,rfl,q⟩|⟨k,rfl,q⟩
 ·let(u,rfl,t,rfl):=vals1 r
  erw[call_int_int #[.int i,H,I,#[_,Z],q]]
 ·let(u,rfl,r1):=vals1 r
  cases r1;erw[call_int_bool #[.int (if k then 1 else 0),H,I.tok _,#[_,Z],q]]
end
structure xE(h:Heap)(x dx C:Addr)(mA:bU):Prop where
 obj:h.get? x=some (PySem.W.instObj C dx)
 ns:h.Ns1 dx mA
 ne:dx≠x
theorem IC{h:Heap}{dx:Addr}{mA:bU}(n:h.Ns1 dx mA):∃od,h.get? dx=some od/\∀name,PySem.W.lookIn name od=some (mA name):=by
 let(o,es,ep,ho,hd,hk,_,hm):=n;erw[o,ho,λname=>?_];let e:=hm name;unfold nsFind findBy at e;rw[<-Array.find?_toList]at e;unfold PySem.W.lookIn;rw[hd];dsimp only;split
 ·rename_i y q
  rw[q]at e;erw[congrArg some e]
 ·rename_i q
  rw[q]at e;let a:es.toList.any (·.refKey)=false:=by rw[List.any_eq_false];intro y hy;let(z,t,a81):=hk y (Array.mem_toList_iff.mp hy);simp[DictEntry.refKey,a81]
  let a':¬es.toList.any (·.refKey)=true:=by rw[a];erw[jt]
  rw[aV a'];erw[congrArg some e]
theorem xE.look{C:Addr}(I:xE h x dx C mA):∃od,PySem.W.InstAt h x (PySem.W.instObj C dx) C (some od)/\∀name,PySem.W.lookIn name od=some (mA name):=let#[od,ho,hl]:=IC I.ns
 #[od,#[I.obj,Z,Z,ho],hl]
section
variable {prog:ai}{w:World}{A:ak}{E:Value->ah->Prop}{s:ah}{K:ag}{x dx C f:Addr}{mA:bU}{name:Str}{v:Value}
theorem get_map{expr:Bool}{Q:Value->ah->Prop}(X:K.In s.heap)(I:xE s.heap x dx C mA)(hg:PySem.W.plainGet K C name=true)(hh:PySem.W.hasDictIn K C=true) (ha:PySem.W.findIn K (.ref C) name=some none)(hv:mA name=some v)(hv':PySem.W.handedIn v=true)(h:Q v {s with toks:=s.toks+1}): wpAny (model prog w) A (getAttr (.ref x) name expr) Q E s:=by let(od,J,hl):=I.look;erw[PySem.W.get_value X J (Y0 hg).1 (PySem.W.findObj_own hh ha Z (by rw[hl,hv])) hv' h]
theorem a99{Q:Value×List Value->ah->Prop}(X:K.In s.heap)(I:xE s.heap x dx C mA)(hg:PySem.W.plainGet K C name=true) (hf:PySem.W.findIn K (.ref C) name=some (some (.ref f)))(ht:PySem.W.isFn K (.ref f)=true)(hv:mA name=none)(h:Q (.ref f,[.ref x]) s): wpAny (model prog w) A (getMethod (.ref x) name pl) Q E s:=by let(od,J,hl):=I.look;erw[PySem.W.method_fn X J (Y0 hg).1 (Y0 hg).2 hf (fC.mp ht) (by show(PySem.W.lookIn name od).map (·.isSome)=some false;rw[hl,hv];rfl) h]
theorem a1r{ns:List Str}{Q:Unit->ah->Prop}(X:K.In s.heap)(I:xE s.heap x dx C mA) (hs:PySem.W.findIn K (.ref C) "__setattr__"=some (some (.builtin "object.__setattr__")))(hp:PySem.W.plainOver K C=true)(ht:PySem.W.takerIn K C name=some none)(hh:PySem.W.hasDictIn K C=true) (hw:PySem.Within mA ns)(EK:ns.length<=sizeLine) (h:∀h',xE h' x dx C (λy=>if y=name then some v else mA y)->Heap.SameBut dx s.heap h'->Q () {s with heap:=h',toks:=s.toks+2}): wpAny (model prog w) A (setAttr (.ref x) name v) Q E s:=by let(od,J,hl):=I.look;erw[XZ X J hs (PySem.W.osa_open (s:={s with toks:=s.toks+1}) (r:=none) X J hp ht λb=>?_)];let(cd,hc,Jm):=G6 hh;let hx:s.heap.get? x=some #[.ref C,some dx,.plain,#[]]:=I.obj;erw[aJ (bN (aJ (aJ (Lo hx (aJ (om (s:={s with toks:=s.toks+1}) (G3 X hc) ?_))))))];rw[Jm];erw[bN (a:=some dx) (aJ (bN (aJ ?_)))];erw[wpAny_nsSet1 (s:={s with toks:=s.toks+1}) I.ns λh' yS iT=>?_];let(oD,esD,epD,Jc,hdD,hcD):=yS.count (XY name v hw);erw[aJ (wpAny_lookBehind Jc (by rw[hdD];erw[pastItsLine_dict (gY hcD (by rw[kh];lia))]) ?_)];erw[bN (h _ #[(iT.2 _ (kJ I.ne)).trans I.obj,yS,I.ne] iT)]
theorem a61{R:Result->ah->Prop}{vs:List Value}{kw:List (Str×Value)}(X:K.In s.heap)(hm:PySem.W.makesIn K C=true) (hi:PySem.W.findIn K (.ref C) "__init__"=some (some (.ref f)))(hf:PySem.W.typeIn K (.ref f)=some (.type "function")) (h:codeAny (model prog w) (A.under (.builtin "type.__call__" #[.ref C::vs,kw])) (.call (.ref f) #[.ref (s.heap.objs.size+1)::vs,kw]) (PySem.W.InitBack (s.heap.objs.size+1) R) {s with heap:=(s.heap.push PySem.W.emptyDict).push (PySem.W.instObj C s.heap.objs.size)}): codeAny (model prog w) A (.call (.ref C) #[vs,kw]) R s:=by let(hh,g,d,t,os):=s;erw[PySem.W.make_core (PySem.W.makes_of X hm) (Y1 X hi) (λself=>PySem.W.bind_fn X self hf) (.inl Z) h]
end
def iP(f:Str)(v:V):List (Str×V)->List (Str×V) |[]=>[(f,v)] |(g,x)::r=>if g=f then(g,v)::r else(g,x)::iP f v r
theorem IB(f g:Str)(v:V):∀fs:List (Str×V),(iP f v fs).lookup g=if g=f then some v else fs.lookup g
 |[]=>by
  show List.lookup g [(f,v)]=_;by_cases h:g=f
  ·let hb:(g==f)=true:=fC.mpr h
   simp only[List.lookup,hb,aQ h]
  ·let hb:(g==f)=false:=Ls.mpr h
   simp only[List.lookup,hb,aV h] |(k,x)::r=>by
  let ih:=IB f g v r;rw[show iP f v ((k,x)::r)=(if k=f then(k,v)::r else(k,x)::iP f v r)from rfl];by_cases hk:k=f
  ·rw[aQ hk]
   by_cases h:g=k
   ·let hb:(g==k)=true:=fC.mpr h
    simp only[List.lookup,hb,aQ (h.trans hk)]
   ·let hb:(g==k)=false:=Ls.mpr h
    simp only[List.lookup,hb,aV (λe:g=f=>h (e.trans hk.symm))]
  ·rw[aV hk]
   by_cases h:g=k
   ·let hb:(g==k)=true:=fC.mpr h
    simp only[List.lookup,hb,aV (λe:g=f=>hk (h.symm.trans e))]
   ·let hb:(g==k)=false:=Ls.mpr h
    simp only[List.lookup,hb];erw[ih]
theorem IQ(f:Str)(v:V):∀fs:List (Str×V),f∈(iP f v fs).map (·.1)/\∀g,g∈fs.map (·.1)->g∈(iP f v fs).map (·.1)
 |[]=>#[by simp[iP],λg h=>by simp at h] |(k,x)::r=>by
  let(i1,i2):=IQ f v r;rw[show iP f v ((k,x)::r)=(if k=f then(k,v)::r else(k,x)::iP f v r)from rfl];by_cases hk:k=f
  ·rw[aQ hk]
   subst hk;erw[by simp,λg h=>by simpa using h]
  ·rw[aV hk]
   erw[?_,λg h=>?_]
   ·rw[CY]
    erw[zP _ i1]
   ·rw[CY]at h⊢
    rcases dg.mp h with e|e
    ·erw[dg.mpr (.inl e)]
    ·erw[zP _ (i2 g e)]
theorem U5(f:Str)(v:V):∀fs:List (Str×V),(iP f v fs).length<=fs.length+1
 |[]=>by simp[iP] |(k,x)::r=>by
  let ih:=U5 f v r;rw[show iP f v ((k,x)::r)=(if k=f then(k,v)::r else(k,x)::iP f v r)from rfl];by_cases hk:k=f
  ·rw[aQ hk,kh,kh];lia
  ·rw[aV hk,kh,kh];lia
theorem qM.some_of{v:V}(r:qM (some v) o):∃u,o=some u/\RelV v u:=by cases o with |none=>exact(show False from r).elim |some u=>erw[u,Z,r]
theorem qM.none_of(r:qM none o):o=none:=by cases o with |none=>rfl |some u=>exact(show False from r).elim
theorem a8F{v:V}(r:RelV v u):PySem.W.handedIn u=true:=by cases v with |bM=>cases(show u=Value.none from r);rfl |bl b=>cases(show u=Value.bool b from r);rfl |int i=>let(t,e):=(show∃t,u=Value.int i t from r);cases e;rfl |str x=>let(t,e):=(show∃t,u=Value.str x t from r);cases e;rfl |zl b=>let(t,e):=(show∃t,u=Value.bytes b t from r);cases e;rfl |F3 b=>let(t,e):=(show∃t,u=Value.float b t from r);cases e;rfl |ref a=>cases(show u=Value.ref a from r);rfl |ty n=>cases(show u=Value.type n from r);rfl
section
variable {P:ai}{w:World}{H H':Hp}{h h':Heap}{a C dx:Addr}{fs kT:List (Str×V)}
theorem IZ(bp:fb P w H h)(e:H a=some (.ins C dx fs)):∃mA,xE h a dx C mA/\(∀f,qM (fs.lookup f) (mA f))/\PySem.Within mA (fs.map (·.1))/\fs.length<=1000/\H dx=some (.own a):=by let(d,z,ne,ob,mA,n,r,q):=(show gj P w H h a (.ins C dx fs)from bp a _ e);erw[mA,#[ob,n,ne],r,q,z,d]
end
structure mi(K:ag)(C:Addr):Prop where
 pg:PySem.W.plainGet K C Str.empty=true
 hd:PySem.W.hasDictIn K C=true
 po:PySem.W.plainOver K C=true
 sa:PySem.W.findIn K (.ref C) "__setattr__"=some (some (.builtin "object.__setattr__"))
theorem mi.get{K:ag}{C:Addr}(c:mi K C)(f:Str):PySem.W.plainGet K C f=true:=c.pg
def ka(K:ag)(C:Addr)(f:Str):Prop:=PySem.W.findIn K (.ref C) f=some none
theorem ka.Zg{K:ag}{C:Addr}(n:ka K C f):PySem.W.takerIn K C f=some none:=by unfold PySem.W.takerIn;rw[show PySem.W.findIn K (.ref C) f=some none from n];rfl
structure Meth(K:ag)(C:Addr)(m:Str)(f:Addr):Prop where
 at_:PySem.W.findIn K (.ref C) m=some (some (.ref f))
 fn:PySem.W.isFn K (.ref f)=true
 kp:PySem.W.keepIn K (.ref f)=true
section
variable {X:Cx}{ay:List (Addr×Obj)}{O:St}{H:Hp}{s:ah}{a C dx:Addr}{fs:List (Str×V)}{f:Str}{v:V}{A:ak}{E:Value->ah->Prop}
theorem V6{b:Bool}{Q:Value->ah->Prop}(I:Inv X ay O H s)(e:H a=some (.ins C dx fs))(c:mi X.K C)(n:ka X.K C f)(l:fs.lookup f=some v) (h:∀u s',Inv X ay O H s'->RelV v u->Q u s'):wpAny (model X.prog X.w) A (getAttr (.ref a) f b) Q E s:=by let(mA,ahy,r,_,_,_):=IZ I.bp e;let(u,hu,ru):=qM.some_of (v:=v) (o:=mA f) (by rw[<-l];erw[r f]);erw[get_map I.fG ahy (c.get f) c.hd n hu (a8F ru) (h u _ (I.tok _) ru)]
theorem V5{Q:Value×List Value->ah->Prop}(I:Inv X ay O H s)(e:H a=some (.ins C dx fs))(c:mi X.K C)(k:Meth X.K C m g)(l:fs.lookup m=none) (h:Q (.ref g,[.ref a]) s):wpAny (model X.prog X.w) A (getMethod (.ref a) m pl) Q E s:=by let(mA,ahy,r,_,_,_):=IZ I.bp e;let hn:mA m=none:=qM.none_of (by rw[<-l];erw[r m]);erw[a99 I.fG ahy (c.get m) k.at_ k.fn hn h]
theorem Nq{y:V}{u:Value}{Q:Unit->ah->Prop}(I:Inv X ay O H s)(e:H a=some (.ins C dx fs))(c:mi X.K C)(n:ka X.K C f)(hl:fs.length<1000)(ry:RelV y u) (h:∀s',Inv X ay O (upd H a (.ins C dx (iP f y fs))) s'->Q () s'):wpAny (model X.prog X.w) A (setAttr (.ref a) f u) Q E s:=by
 let(mA,ahy,r,wi,_,ho):=IZ I.bp e;let hz:(fs.map (·.1)).length<=sizeLine:=by rw[bB,FU];lia
 erw[a1r I.fG ahy c.sa c.po n.Zg c.hd wi hz λh' O' sb=>h _ ?_];let hd:∃o,h'.get? dx=some o:=let#[o,_,_,e',_]:=O'.ns;#[o,e'];erw[I.write (x:=a) (e:=dx) (by rw[e];erw[True.intro]) (.inr ho) (λb q hb z=>(sb.2 b hb).trans z) hd ?_];erw[by rw[aU ahy.ne];erw[ho],?_,ahy.ne,O'.obj,_,O'.ns,λg=>?_,λg hg=>?_]
 ·have:=U5 f y fs;lia
 ·show qM ((iP f y fs).lookup g) (if g=f then some u else mA g)
  rw[IB];by_cases q:g=f
  ·rw[aQ q,aQ q];erw[ry]
  ·rw[aV q,aV q];erw[r g]
 ·by_cases q:g=f
  ·rw[q];exact(IQ f y fs).1
  ·refine(IQ f y fs).2 g (wi g λz=>hg ?_)
   show(if g=f then some u else mA g)=none;rw[aV q];erw[z]
theorem Inv.made(I:Inv X ay O H s):Inv X ay O (upd (upd H s.heap.objs.size (.own (s.heap.objs.size+1))) (s.heap.objs.size+1) (.ins C s.heap.objs.size [])) {s with heap:=(s.heap.push PySem.W.emptyDict).push (PySem.W.instObj C s.heap.objs.size)}:=by
 let e1:(s.heap.push PySem.W.emptyDict).get? s.heap.objs.size=some PySem.W.emptyDict:=fj s.heap rfl;let e2:((s.heap.push PySem.W.emptyDict).push (PySem.W.instObj C s.heap.objs.size)).get? (s.heap.objs.size+1)=some (PySem.W.instObj C s.heap.objs.size):=by have:=fj (s.heap.push PySem.W.emptyDict) (o:=PySem.W.instObj C s.heap.objs.size) rfl;rwa [qX]at this
 let e3:(s.heap.push PySem.W.emptyDict).Ns s.heap.objs.size (λ_=>none):=#[PySem.W.emptyDict,#[],_,e1,Z,(λe he=>absurd he (by simp)),λ_=>rfl];let I1:=I.laid (a:=s.heap.objs.size) (o:=.own (s.heap.objs.size+1)) (h':=s.heap.push PySem.W.emptyDict) (t':=s.toks) (λb u q=>cD _ q) (aY _) #[_,e1];erw[I1.laid (a:=s.heap.objs.size+1) (o:=.ins C s.heap.objs.size []) (t':=s.toks) (λb u q=>cD _ q) (Nat.le_of_eq (qX _ _)) ?_];let ne:s.heap.objs.size≠s.heap.objs.size+1:=eR (Yb _);erw[by rw[aU ne,bP],fX _,ne,e2,λ_=>none,(Heap.Ns1.of_empty e3).at λo q=>cD _ q,λ_=>True.intro,λy hy=>absurd rfl hy]
theorem X8{prog:ai}{w:World}{env:Env}{e:Expr}{f:Str}{pos:Pos}{s:ah}{Q:Value->ah->Prop}(hb:attributeBase e f env (eval e env)=eval e env) (h:wpAny (model prog w) A (eval e env) (λo s₁=>wpAny (model prog w) A (getAttr o f true) Q E s₁) E s):wpAny (model prog w) A (eval (.Attribute e f pos) env) Q E s:=Attribute_any_ h (by rw[arm_eval_Attribute,hb])
end
def afs(X:Cx)(op:Operator)(rd:V->V->Hp->VK->Prop):Prop:=∀(ay:List (Addr×Obj))(s:ah)(O:St)(H:Hp)(x y:V)(u v:Value)(Q:VK),Inv X ay O H s->RelV x u->RelV y v->rd x y H Q->wpAny (model X.prog X.w) X.A (inplaceOp op u v) (EP X ay O Q) X.xe s
structure df(k:Nat)(A:ak):Prop where
 hd:A.handled=none
 dp:A.depth+3*k+5<recursionLimit
 un:A.units+16*k+200<cLine
theorem df.mono(r:df k A)(h:j<=k):df j A:=#[r.hd,by have:=r.dp;lia,by have:=r.un;lia]
theorem df.deeper(r:df (k+1) A)(env:Env):df k (A.deeper env):=#[r.hd,by have:=r.dp;show A.depth+1+3*k+5<_;lia,by have:=r.un;show A.units+3+16*k+200<_;lia]
theorem a62{A:ak}{C:Addr}{us:List Value}{kw:List (Str×Value)}:(A.under (.builtin "type.__call__" #[.ref C::us,kw])).depth=A.depth+1:=by first|rfl|simp[Around.under,Code.weight,Code.isCreation,Code.isGuard,Code.isCaller,Code.frames,Code.isFrame,guardIds]
theorem a60{A:ak}{C:Addr}{us:List Value}{kw:List (Str×Value)}:(A.under (.builtin "type.__call__" #[.ref C::us,kw])).units=A.units+1:=by first|rfl|simp[Around.under,Code.cUnits,Code.frames,Code.isFrame]
theorem df.make(r:df (k+1) A)(C:Addr)(us:List Value)(kw:List (Str×Value)):df k (A.under (.builtin "type.__call__" #[.ref C::us,kw])):=#[r.hd,by have:=r.dp;rw[a62];omega,by have:=r.un;rw[a60];omega]
theorem df.depth(r:df k A):A.depth<recursionLimit:=by have:=r.dp;lia
theorem df.units(r:df k A):A.units+64<cLine:=by have:=r.un;lia
def xW:TA:=λ_ H Q=>Q [] H
def ZK(ta:TE)(tr:TA):TA:=λO H Q=>ta O H λx H1=>tr O H1 λxs H2=>Q (x::xs) H2
section
variable {X:Cx}{e:Expr}{es:List Expr}{te:TE}{t:TA}{pos:Pos}
theorem az:PA X [] xW:=λ_ _ _ _ H Q I h=>Calls.spliced_nil #[[],H,I,.nil,h]
theorem au(ha:PE X e te)(hr:PA X es t)(hs:autoParam (starEach (e::es) X.env=(false,eval e X.env)::starEach es X.env) r8_._auto_1):PA X (e::es) (ZK te t):=by intro pos ay s O H Q I h;rw[hs];show wpAny _ _ (spliced ((false,eval e X.env)::backTo pos (starEach es X.env))) _ _ s;erw[Calls.spliced_cons (bc (ha ay s O H _ I h) λu s1 #[x,H1,I1,r1,q1]=>?_)];erw[bc (hr pos ay s1 O H1 _ I1 q1) λus s2 #[xs,H2,I2,r2,q2]=>#[x::xs,H2,I2,.cons r1 r2,q2]]
end
abbrev Sp:=List V->Hp->VK->XK->Prop
abbrev lC:=List Env->Hp->ah->XK->Value->ah->Prop
structure tI(P:ai)(w:World)(K:ag)(mg:bU)(aD:Heap)(A:ak)(outer:List Env)(s:ah)(H:Hp):Prop where
 frames:A.frames=some outer
 mod:Mod K mg aD
 bs:∀b o,aD.get? b=some o->s.heap.get? b=some o/\H b=none
 mY:aD.objs.size<=s.heap.objs.size
 kD:s.heap.FunFrames aD outer
 oW:∀b∈fV outer,H b=none
 bp:fb P w H s.heap
 bare:AllBare s.gens
def CE(outer:List Env)(P:ai)(w:World)(H:Hp)(s:ah)(Q:VK)(u:Value)(s':ah):Prop:=∃v H',s'.os=s.os/\AllBare s'.gens/\Un (fV outer) [] H H' s.heap s'.heap/\fb P w H' s'.heap/\RelV v u/\Q v H'
def CR(CX:lC)(outer:List Env)(P:ai)(w:World)(H:Hp)(s:ah)(Q:VK)(E:XK)(r:Result)(s':ah):Prop:=match r with | .ok (.ret u)=>CE outer P w H s Q u s' | .ok _=>False | .error e=>CX outer H s E e s'
structure iq(P:ai)(w:World)(K:ag)(mg:bU)(aD:Heap)(CX:lC)(k:Nat)(f:Addr)(fd:FuncData)(ps:List Str)(sp:Sp):Prop where
 len:∀vs H Q E,sp vs H Q E->vs.length=ps.length
 run:∀(A:ak)(outer:List Env)(s:ah)(H:Hp)(args:Args)(us:List Value)(vs:List V)(Q:VK)(E:XK),df k A->tI P w K mg aD A outer s H->BindsTo s fd args (ps.zip us)->Vals vs us->sp vs H Q E->codeAny (model P w) A (.call (.ref f) args) (CR CX outer P w H s Q E) s
theorem tI.make{P:ai}{w:World}{K:ag}{mg:bU}{aD:Heap}(e:tI P w K mg aD A outer s H)(C:Addr)(us:List Value)(kw:List (Str×Value)): tI P w K mg aD (A.under (.builtin "type.__call__" #[.ref C::us,kw])) outer s H:=#[by first|erw[e.frames]|(simpa[Around.under,Code.envs,Code.isFrame,pushEnvs]using e.frames),e.mod,e.bs,e.mY,e.kD,e.oW,e.bp,e.bare]
section
variable {X:Cx}{ay:List (Addr×Obj)}{O:St}{H:Hp}{s s':ah}
theorem Inv.BW(I:Inv X ay O H s):tI X.prog X.w X.K X.mg X.aD X.A X.stack s H:=#[I.ok.frames,I.ok.mod,I.bs,gY I.ok.mY I.sz,I.stack,I.DH,I.bp,I.bare]
theorem Inv.after(I:Inv X ay O H s)(h:CE X.stack X.prog X.w H s Q u s'):EP X ay O Q u s':=by let(v,H',os,bare,un,bp,r,q):=h;let(hh,g,d,t,Ee):=s';obtain rfl:Ee=s.os:=os;erw[v,H',I.call (h':=hh) (g':=g) (d':=d) (t':=t) (ch:=[]) un bp bare (λb z=>absurd z (by simp)),r,q]
end
def ZM(sp:Sp)(dvs:List V)(E:XK)(t:TA):TE:=λO H Q=>t O H λvs H1=>sp (vs++dvs) H1 Q E
inductive FJ(C:Addr)(m:Str)(sp:Sp)(dvs:List V)(E:XK)(t:TA)(O:St)(Q:VK)(x:V)(H1:Hp):Prop |mk a dx fs(_:x= .ref a)(_:H1 a=some (.ins C dx fs))(_:fs.lookup m=none)(_:t O H1 λvs H2=>sp (x::(vs++dvs)) H2 Q E)
def My(C:Addr)(m:Str)(sp:Sp)(dvs:List V)(E:XK)(ta:TE)(t:TA):TE:=λO H Q=>ta O H λx H1=>FJ C m sp dvs E t O Q x H1
def ZA(C:Addr)(sp:Sp)(dvs:List V)(E:XK)(t:TA):TE:=λO H Q=>t O H λvs H1=>∀x dx,H1 x=none->H1 dx=none->dx≠x->sp (.ref x::(vs++dvs)) (upd (upd H1 dx (.own x)) x (.ins C dx [])) (λv H2=>v= .bM/\Q (.ref x) H2) E
def Binds(K:ag)(fd:FuncData)(ps:List Str)(ds:List Value):Prop:=∀(s:ah)(us:List Value),K.In s.heap->(us++ds).length=ps.length->BindsTo s fd #[us,[]] (ps.zip (us++ds))
theorem Binds.all{K:ag}(h:∀us:List Value,us.length=ps.length->bindArgs fd #[us,[]]=pure (ps.zip us)):Binds K fd ps []:=λs us _ hl=>by rw[lJ]at hl⊢;erw[.of_eq (h us hl)]
def Passes(CX:lC)(X:Cx)(E:XK):Prop:=∀(ay:List (Addr×Obj))(O:St)(H:Hp)(s:ah)(e:Value)(s':ah),Inv X ay O H s->CX X.stack H s E e s'->X.xe e s'
section
variable {X:Cx}{CX:lC}{k:Nat}{f C:Addr}{fd:FuncData}{ps:List Str}{sp:Sp}{dvs:List V}{ds:List Value}{E:XK}{x m:Str}{p pos apos:Pos}{e o:Expr}{es:List Expr}{ta:TE}{t:TA}
theorem Hh{ay:List (Addr×Obj)}{O:St}{H:Hp}{s:ah}{Q:VK}{us:List Value}{vs:List V}(F:iq X.prog X.w X.K X.mg X.aD CX k f fd ps sp)(hr:df k X.A)(hb:Binds X.K fd ps ds)(hd:Vals dvs ds)(hx:Passes CX X E) (I:Inv X ay O H s)(r:Vals vs us)(h:sp (vs++dvs) H Q E):wpAny (model X.prog X.w) X.A (call (.ref f) us) (EP X ay O Q) X.xe s:=by
 let r2:Vals (vs++dvs) (us++ds):=r.append hd;let hl:(us++ds).length=ps.length:=by rw[<-r2.length];erw[F.len _ _ _ _ h]
 erw[vc (xK (F.run X.A X.stack s H #[us,[]] (us++ds) (vs++dvs) Q E hr I.BW (hb s us I.fG hl) r2 h) λr s' hq=>?_)];cases r with |error e=>erw[hx ay O H s e s' I hq] |ok fl=>cases fl with |ret u=>erw[I.after hq] |next=>erw[False.elim hq] |brk=>erw[False.elim hq] |cont=>erw[False.elim hq]
theorem a3G(F:iq X.prog X.w X.K X.mg X.aD CX k f fd ps sp)(hr:df k X.A)(hg:Gl X x)(hm:X.mg x=some (.ref f))(hk:PySem.W.keepIn X.K (.ref f)=true)(hb:Binds X.K fd ps ds)(hd:Vals dvs ds)(hx:Passes CX X E) (ha:PA X (e::es) t)(jj:autoParam ((x==("__debug__":Str))=false) q8_._auto_1)(he:autoParam (starEach (e::es) X.env=(false,eval e X.env)::starEach es X.env) r8_._auto_1)(gy:autoParam ((backTo pos (starEach es X.env)).any (·.1)=false) r8_._auto_1): PE X (.Call (.Name x p) (e::es) [] pos) (ZM sp dvs E t):=by intro ay s O H Q I h;erw[CM (wo I hg hm ?_ jj)];erw[G4 (h₀:=X.aD) I.ok.mod.qe hk (bc (ha pos ay s O H _ I h) λus s1 #[vs,H1,I1,r,q]=>#[I1.fG,?_]) he gy];erw[Hh F hr hb hd hx I1 r q]
theorem a3z(he:PE X o ta)(c:mi X.K C)(hm:Meth X.K C m f)(F:iq X.prog X.w X.K X.mg X.aD CX k f fd ps sp)(hr:df k X.A)(hb:Binds X.K fd ps ds)(hd:Vals dvs ds)(hx:Passes CX X E)(ha:PA X (e::es) t) (gG:autoParam (starEach (e::es) X.env=(false,eval e X.env)::starEach es X.env) r8_._auto_1)(gy:autoParam ((backTo pos (starEach es X.env)).any (·.1)=false) r8_._auto_1) (ht:eval (.Call (.Attribute o m apos) (e::es) [] pos) X.env=(do
 let ov<-eval o X.env
 standAt apos.atName
 let(f,first)<-holding [ov] (getMethod ov m pl)
 callWith pos f first (backTo pos (starEach (e::es) X.env)) (backToKw pos (keywordEach [] X.env))):=by rfl): PE X (.Call (.Attribute o m apos) (e::es) [] pos) (My C m sp dvs E ta t):=by
 intro ay s O H Q I h;erw[PySem.W.methodCall_KW (pl:=pl) (bc (he ay s O H _ I h) λu s1 #[x,H1,I1,rx,a,dx,fs,ex,ea,l,q]=>?_) ht];subst ex;obtain rfl:u=Value.ref a:=rx;erw[V5 I1 ea c hm l ?_];erw[G4 (first:=[.ref a]) (h₀:=X.aD) I.ok.mod.qe hm.kp (bc (ha pos ay s1 O H1 _ I1 q) λus s2 #[vs,H2,I2,r,q2]=>#[I2.fG,?_]) gG gy];erw[Hh (us:=.ref a::us) (vs:=.ref a::vs) F hr hb hd hx I2 (.cons Z r) q2]
theorem a3y(he:PE X o ta)(c:mi X.K C)(hm:Meth X.K C m f)(F:iq X.prog X.w X.K X.mg X.aD CX k f fd ps sp)(hr:df k X.A)(hb:Binds X.K fd ps ds)(hd:Vals dvs ds)(hx:Passes CX X E) (ht:eval (.Call (.Attribute o m apos) [] [] pos) X.env=(do
 let ov<-eval o X.env
 standAt apos.atName
 let(f,first)<-holding [ov] (getMethod ov m pl)
 callWith pos f first (backTo pos (starEach [] X.env)) (backToKw pos (keywordEach [] X.env))):=by rfl): PE X (.Call (.Attribute o m apos) [] [] pos) (My C m sp dvs E ta xW):=by
 intro ay s O H Q I h;erw[PySem.W.methodCall_KW (pl:=pl) (bc (he ay s O H _ I h) λu s1 #[x,H1,I1,rx,a,dx,fs,ex,ea,l,q]=>?_) ht];subst ex;obtain rfl:u=Value.ref a:=rx;erw[V5 I1 ea c hm l ?_];erw[PySem.W.callWith_K0 (first:=[.ref a]) I1.fG hm.kp (Hh (us:=[.ref a]) (vs:=[.ref a]) F hr hb hd hx I1 (.cons rfl .nil) q)]
structure Mk(K:ag)(C f:Addr):Prop where
 makes:PySem.W.makesIn K C=true
 init:PySem.W.findIn K (.ref C) "__init__"=some (some (.ref f))
 fn:PySem.W.isFn K (.ref f)=true
 kp:PySem.W.keepIn K (.ref C)=true
theorem a27{ay:List (Addr×Obj)}{O:St}{H:Hp}{s:ah}{Q:VK}{us:List Value}{vs:List V}(M:Mk X.K C f)(F:iq X.prog X.w X.K X.mg X.aD CX k f fd ps sp)(hr:df (k+1) X.A)(hb:Binds X.K fd ps ds)(hd:Vals dvs ds) (hx:Passes CX X E)(I:Inv X ay O H s)(r:Vals vs us) (h:∀x dx,H x=none->H dx=none->dx≠x->sp (.ref x::(vs++dvs)) (upd (upd H dx (.own x)) x (.ins C dx [])) (λv H2=>v= .bM/\Q (.ref x) H2) E): wpAny (model X.prog X.w) X.A (call (.ref C) us) (EP X ay O Q) X.xe s:=by
 let hq:=h (s.heap.objs.size+1) s.heap.objs.size (I.bp.fresh (G8 _)) (I.bp.fresh (aY _)) (eR (Yb _));let I2:=Inv.made (C:=C) I;let r2:Vals (V.ref (s.heap.objs.size+1)::(vs++dvs)) (Value.ref (s.heap.objs.size+1)::(us++ds)):=.cons Z (r.append hd);let hl:(Value.ref (s.heap.objs.size+1)::us++ds).length=ps.length:=by let e:=r2.length;rw[F.len _ _ _ _ hq]at e;erw[e.symm]
 erw[vc (a61 (f:=f) I.fG M.makes M.init (fC.mp M.fn) (xK (F.run _ X.stack _ _ #[Value.ref (s.heap.objs.size+1)::us,[]] (Value.ref (s.heap.objs.size+1)::(us++ds)) _ _ E (hr.make C us []) (I2.BW.make C us []) (hb _ (Value.ref (s.heap.objs.size+1)::us) I2.fG hl) r2 hq) λr s' ji=>?_))];cases r with |error e=>erw[hx ay O _ _ e s' I2 ji] |ok fl=>cases fl with |ret u=>let(v,H',I3,rv,ev,q3):=I2.after ji;subst ev;erw[rv,#[V.ref (s.heap.objs.size+1),H',I3,Z,q3]] |next=>erw[False.elim ji] |brk=>erw[False.elim ji] |cont=>erw[False.elim ji]
theorem a3A(M:Mk X.K C f)(F:iq X.prog X.w X.K X.mg X.aD CX k f fd ps sp)(hr:df (k+1) X.A)(hg:Gl X x)(hm:X.mg x=some (.ref C))(hb:Binds X.K fd ps ds)(hd:Vals dvs ds)(hx:Passes CX X E) (ha:PA X (e::es) t)(jj:autoParam ((x==("__debug__":Str))=false) q8_._auto_1)(he:autoParam (starEach (e::es) X.env=(false,eval e X.env)::starEach es X.env) r8_._auto_1)(gy:autoParam ((backTo pos (starEach es X.env)).any (·.1)=false) r8_._auto_1): PE X (.Call (.Name x p) (e::es) [] pos) (ZA C sp dvs E t):=by intro ay s O H Q I h;erw[CM (wo I hg hm ?_ jj)];erw[G4 (h₀:=X.aD) I.ok.mod.qe M.kp (bc (ha pos ay s O H _ I h) λus s1 #[vs,H1,I1,r,q]=>#[I1.fG,?_]) he gy];erw[a27 M F hr hb hd hx I1 r q]
end
structure bu(N P:List Str)(sc:Scope):Prop where
 kind:sc.kind= .function
 co:sc.isCoroutine=false
 gen:sc.isGenerator=false
 nd:N.Nodup
 pre:N.take P.length=P
 par:∀x∈P,sc.names.lookup x=some .local\/sc.names.lookup x=some .cell
 a5p:∀y∈sc.names,y.2≠ .free
theorem WJ{kindOf:Str->Option NameKind}{x:Str}:∀{binds:List (Str×Value)}{m:bU},(∀v,(x,v)∉binds)->bindL kindOf binds m x=m x
 |[],_,_=>rfl |(n,v)::r,m,h=>by
  unfold bindL;rw[WJ λw hw=>h w (zP _ hw)];split
  ·have:x≠n:=by rintro rfl;erw[h v LP]
   simp[this]
  ·rfl
theorem WL{kindOf:Str->Option NameKind}{x:Str}:∀{binds:List (Str×Value)}{m:bU},(∀v,(x,v)∉binds)->bindC kindOf binds m x=m x
 |[],_,_=>rfl |(n,v)::r,m,h=>by
  unfold bindC;rw[WL λw hw=>h w (zP _ hw)];split
  ·rfl
  ·have:x≠n:=by rintro rfl;erw[h v LP]
   simp[this]
theorem WK{kindOf:Str->Option NameKind}{x:Str}{v:Value}:∀{P:List Str}{vs:List Value}{i:Nat}{m:bU},P.Nodup->P[i]? =some x->vs[i]? =some v->kindOf x=some .local->bindL kindOf (P.zip vs) m x=some v |[],_,_,_,_,h,_,_=>by simp at h |_::_,[],_,_,_,_,h,_=>by simp at h |p::P,w::vs,0,m,nd,h1,h2,hk=>by simp at h1 h2;subst h1;subst h2;show bindL kindOf ((p,w)::P.zip vs) m p=_;unfold bindL;rw[WJ λv hv=>(LN.mp nd).1 (zM hv).1,aQ hk];simp |p::P,w::vs,i+1,m,nd,h1,h2,hk=>by show bindL kindOf ((p,w)::P.zip vs) m x=_;unfold bindL;erw[WK (i:=i) (LN.mp nd).2 (by simpa using h1) (by simpa using h2) hk]
theorem WM{kindOf:Str->Option NameKind}{x:Str}{v:Value}:∀{P:List Str}{vs:List Value}{i:Nat}{m:bU},P.Nodup->P[i]? =some x->vs[i]? =some v->kindOf x≠some .local->bindC kindOf (P.zip vs) m x=some v |[],_,_,_,_,h,_,_=>by simp at h |_::_,[],_,_,_,_,h,_=>by simp at h |p::P,w::vs,0,m,nd,h1,h2,hk=>by simp at h1 h2;subst h1;subst h2;show bindC kindOf ((p,w)::P.zip vs) m p=_;unfold bindC;rw[WL λv hv=>(LN.mp nd).1 (zM hv).1,aV hk];simp |p::P,w::vs,i+1,m,nd,h1,h2,hk=>by show bindC kindOf ((p,w)::P.zip vs) m x=_;unfold bindC;erw[WM (i:=i) (LN.mp nd).2 (by simpa using h1) (by simpa using h2) hk]
def start(N:List Str)(vs:List V):St:=vs.map some++List.replicate (N.length-vs.length) none
def jn(CX:lC)(P:ai)(w:World)(K:ag)(mg:bU)(aD:Heap)(N:List Str)(qual:Str)(scope:Scope)(f:Addr)(cd:Value)(A:ak)(outer:List Env)(s:ah)(H:Hp)(E:XK):Cx where
 prog:=P
 w:=w
 K:=K
 mg:=mg
 aD:=aD
 A:=A.deeper (envOfC qual scope s.heap.objs.size f cd)
 N:=N
 s₀:=s
 H₀:=H
 env:=envOfC qual scope s.heap.objs.size f cd
 outer:=outer
 stack:=envOfC qual scope s.heap.objs.size f cd::outer
 ex:=[]
 calm:=true
 fn:=λ_=>true
 pn:=[]
 xe:=λe s'=>wpAny (model P w) (A.deeper (envOfC qual scope s.heap.objs.size f cd)) (leaving (envOfC qual scope s.heap.objs.size f cd) e) (λ_ Hb=>CX outer H s E e Hb) (λe' Hb=>CX outer H s E e' Hb) s'
theorem WA{sc:Scope}{n:Nat}{x:Str}(h:sc.names.lookup x=some .cell):∃c,(cellsFrom n sc.names []).lookup x=some c:=by let q:=Lz sc.names n [] (.inl h);erw[Option.isSome_iff_exists.mp q]
theorem IW{CX:lC}{P:ai}{w:World}{K:ag}{mg:bU}{aD:Heap}{N ps:List Str}{qual:Str}{scope:Scope}{f:Addr}{cd:Value}{A:ak}{outer:List Env}{s s1:ah}{H:Hp}{E:XK}{us:List Value}{vs:List V} (S:bu N ps scope)(hd:A.handled=none)(e0:tI P w K mg aD A outer s H)(hl:vs.length=ps.length)(r:Vals vs us) (x:InCallC s s.heap.objs.size (bindL (envOfC qual scope s.heap.objs.size f cd).kindOf (ps.zip us) λ_=>none) (cellsFrom (s.heap.objs.size+1) scope.names []) (bindC (envOfC qual scope s.heap.objs.size f cd).kindOf (ps.zip us) λ_=>none) s1): Inv (jn CX P w K mg aD N qual scope f cd A outer s H E) [] (start N vs) H s1:=by
 let gy:ps.length<=N.length:=by have:=congrArg List.length S.pre;rw[jM]at this;lia
 let(h1,tk,rfl,hk):=x.done;let vX:∀b:Addr,b∉(jn CX P w K mg aD N qual scope f cd A outer s H E).ex:=λb z=>absurd (show b∈([]:List Addr)from z) (by simp);erw[#[e0.mod,S.kind,Z,Z,aY _,λy z c h1 h2=>?_,λy hy=>?_,λy c _ h=>?_,λ_=>hd,Around.frames_deeper e0.frames,.inr #[Z,Z],λb z=>absurd z (vX b),e0.bs,e0.mY,λb _ _=>vX b,λb z=>absurd z (vX b),e0.kD,e0.oW],rfl,e0.bare,Un.kept hk,#[_,x.toInCall.ns,λi y v h1 h2 h3=>?_],λy c h=>#[_,x.cell y c h],e0.bp.fresh (aY _),λy c h=>?_,λp hp=>absurd (show p∈([]:List (Addr×Obj))from hp) (by simp),e0.bp.kept hk,?_]
 ·erw[name_of_addr x.apart (G2 h1) (G2 h2)]
 ·let hy:scope.names.lookup y=some .cell\/scope.names.lookup y=some .free:=hy
  rcases hy with hy|hy
  ·erw[WA hy]
  ·erw[absurd Z (S.a5p _ (G2 hy))]
 ·erw[LI (x.above y c (G2 h))]
 ·let hi:i<vs.length:=by
   unfold start at h2;by_cases hi:i<vs.length
   ·erw[hi]
   ·rw[nj (by simpa using hi)]at h2
    rw[LU]at h2;split at h2<;>cases h2
  let ha:vs[i]? =some v:=by unfold start at h2;rw[mq (by simpa using hi),bV]at h2;cases e:vs[i]? with |none=>rw[e]at h2;cases h2 |some a=>rw[e]at h2;cases h2;rfl
  let(u,hu,rv):=r.get ha;let hp:ps[i]? =some y:=by rw[<-S.pre,List.getElem?_take_of_lt aw];erw[h1]
  let T9:ps.Nodup:=by rw[<-S.pre];erw[S.nd.sublist (List.take_sublist _ _)]
  erw[u,rv,?_];rcases S.par y (gZ hp)with k|k
  ·erw[.inl #[k,WK T9 hp hu k]]
  ·let(c,e):=WA (n:=s.heap.objs.size+1) k
   erw[.inr #[.inl k,c,e,?_]];let q:=x.cell y c e;rw[WM T9 hp hu (by show scope.names.lookup y≠_;rw[k];decide)]at q;erw[q]
 ·erw[e0.bp.fresh (LI (x.above y c (G2 h)))]
 ·unfold start
  show _=N.length;rw[cy,bB,zQ]
  lia
theorem Vh{P:ai}{w:World}{K:ag}{mg:bU}{aD:Heap}{kV:Value}(lk:K.lookup f=some #[oc,od,.func (PySem.W.fnOf name qual params body scope dV kV doc pm an aM ct),gc])(fU:PySem.W.codeIn K aM qual=true)(S:bu N ps scope) (len:∀vs H Q E,sp vs H Q E->vs.length=ps.length) (jk:∀(A:ak)(outer:List Env)(s:ah)(H:Hp)(vs:List V)(Q:VK)(E:XK),df k (A.deeper (envOfC qual scope s.heap.objs.size f aM))->sp vs H Q E->∃t,ip (jn CX P w K mg aD N qual scope f aM A outer s H E) body t/\t {nx:=λ_ H'=>Q .bM H',rt:=Q} (start N vs) H): iq P w K mg aD CX (k+1) f (PySem.W.fnOf name qual params body scope dV kV doc pm an aM ct) ps sp:=by
 erw[len,λA outer s H args us vs Q E hr e0 hb r iJ=>?_];let hl:=len _ _ _ _ iJ;let KX:K.In s.heap:=e0.mod.qe.keeps λb o e=>(e0.bs b o e).1;let lim:s.heap.NoLimit:=e0.mod.nolimit.keeps λb o e=>(e0.bs b o e).1;let lV:∀y∈ps.zip us,scope.names.lookup y.1=some .local\/(scope.names.lookup y.1=some .cell/\((cellsFrom (s.heap.objs.size+1) scope.names []).lookup y.1).isSome=true):=λ#[n,v] hy=>by
  rcases S.par n (zM hy).1 with q|q
  ·erw[.inl q]
  ·erw[.inr #[q,Lz _ _ _ (.inl q)]]
 erw[XU hr.depth (KX _ _ lk) Z S.co S.gen Z (Y2 KX fU) (hb _ _ _ _ ?_)];erw[XO S.kind lV λenv he s1 x=>?_];subst he;erw[lim.keeps x.toInCall.keep,codeAny_func ?_];let(t,ht,hq):=jk A outer s H vs Q E (hr.deeper _) iJ;let I:Inv (jn CX P w K mg aD N qual scope f aM A outer s H E) [] (start N vs) H s1:=IW S hr.hd e0 hl r x;erw[fM (ht [] s1 (start N vs) H _ I hq) (λfl s' hs=>?_) λe s' hs=>hs];let fin:∀{σ':St}{H':Hp}{v:V}{u:Value},Inv (jn CX P w K mg aD N qual scope f aM A outer s H E) [] σ' H' s'->RelV v u->Q v H'->CE outer P w H s Q u s':=λ{σ' H' v u} J rv q=>#[v,H',J.os,J.bare,J.aD,J.bp,rv,q];cases fl with |ret u=>let(v,σ',H',J,rv,q):=hs;erw[fin J rv q] |next=>let(σ',H',J,q):=hs;erw[fin (v:=V.bM) (u:=Value.none) J Z q] |brk=>let(_,_,_,q):=hs;erw[False.elim q] |cont=>let(_,_,_,q):=hs;erw[False.elim q]
section
variable {X:Cx}{x:Str}{p pos:Pos}{e:Expr}{es:List Expr}{t:TA}{id T:String}{r:List V->Hp->VK->Prop}
def DC(r:List V->Hp->VK->Prop)(t:TA):TE:=λO H Q=>t O H λvs H1=>r vs H1 Q
theorem eK(hc:fW X (.builtin id) r)(hg:Gl X x)(hm:X.mg x=none)(hv:bootBuiltins x=some (.builtin id))(ha:PA X (e::es) t)(hn:autoParam (x≠"__name__") q8_._auto_1)(jj:autoParam ((x==("__debug__":Str))=false) q8_._auto_1) (he:autoParam (starEach (e::es) X.env=(false,eval e X.env)::starEach es X.env) r8_._auto_1)(gy:autoParam ((backTo pos (starEach es X.env)).any (·.1)=false) r8_._auto_1):PE X (.Call (.Name x p) (e::es) [] pos) (DC r t):=by intro ay s O H Q I h;erw[CM (sy I hg hm hv ?_ hn jj)];erw[PyProof.Rows.callWith_builtin1 (bc (ha pos ay s O H _ I h) λus s1 #[vs,H1,I1,r1,q1]=>hc ay s1 O H1 vs us Q I1 r1 q1) he gy]
theorem iE(hc:fW X (.type T) r)(hg:Gl X x)(hm:X.mg x=none)(hv:bootBuiltins x=some (.type T))(ha:PA X (e::es) t)(hn:autoParam (x≠"__name__") q8_._auto_1)(jj:autoParam ((x==("__debug__":Str))=false) q8_._auto_1) (he:autoParam (starEach (e::es) X.env=(false,eval e X.env)::starEach es X.env) r8_._auto_1)(gy:autoParam ((backTo pos (starEach es X.env)).any (·.1)=false) r8_._auto_1):PE X (.Call (.Name x p) (e::es) [] pos) (DC r t):=by intro ay s O H Q I h;erw[CM (sy I hg hm hv ?_ hn jj)];erw[zI (bc (ha pos ay s O H _ I h) λus s1 #[vs,H1,I1,r1,q1]=>hc ay s1 O H1 vs us Q I1 r1 q1) he gy]
end
end _L
namespace _H
open PySem PyProof.Rows
section
variable {prog:ai}{w:World}{A:ak}{E:Value->ah->Prop}{s:ah}
def cn(n d:Nat):Option Int->Nat |none=>d |some v=>if v<0 then(v+(n:Int)).toNat else min v.toNat n
theorem Qn (n d:Nat):cn n d none=d:=rfl
theorem Aj(n d k:Nat):cn n d (some (k:Int))=min k n:=by show(if(k:Int)<0 then((k:Int)+(n:Int)).toNat else min (k:Int).toNat n)=min k n;rw[aV aw,Yi]
theorem a1P(n d:Nat)(hd:d<=n)(o:Option Int):cn n d o<=n:=by cases o with |none=>erw[hd] |some v=>
 show(if v<0 then(v+(n:Int)).toNat else min v.toNat n)<=n;by_cases hv:v<0
 ·rw[aQ hv];lia
 ·rw[aV hv];erw[Nat.min_le_right _ _]
theorem Wy(v:Int)(n d:Nat):(if v<0 then max (v+(n:Int)) 0 else min v (n:Int))=((cn n d (some v):Nat):Int):=by
 show(if v<0 then max (v+(n:Int)) 0 else min v (n:Int))=(((if v<0 then(v+(n:Int)).toNat else min v.toNat n):Nat):Int);by_cases hv:v<0
 ·simp only[aQ hv];lia
 ·simp only[aV hv];lia
theorem ad8(lo hi:Option Int)(n:Nat):Builtin.Slice.sliceAdjust lo hi 1 (n:Int)=(((cn n 0 lo:Nat):Int),((cn n n hi:Nat):Int)):=by
 let h1:¬((1:Int)<0):=by lia
 unfold Builtin.Slice.sliceAdjust;simp only[h1,if_false];erw[Prod.ext ?_ ?_]
 ·cases lo with |none=>rfl |some v=>erw[Wy v n 0]
 ·cases hi with |none=>rfl |some v=>erw[Wy v n n]
theorem a3l(i j:Nat):Builtin.Slice.slicePlaces (i:Int) (j:Int) 1=j-i:=by
 unfold Builtin.Slice.slicePlaces;let h1:(1:Int)>0:=by lia
 simp only[h1,vd,Int.ediv_one];split<;>lia
theorem Nj{v:Value}{o:Option Int}{Q:Option Int->ah->Prop}(p:IsPart v o)(h:Q o s):wpAny (model prog w) A (Builtin.Slice.slicePartIndex v) Q E s:=by cases p with |none=>erw[slicePart_none h] |int i t=>erw[slicePart_int h]
theorem a1g{sl:Addr}{vl vu:Value}{lo hi:Option Int}{n:Nat}{Q:Int×Int×Nat->ah->Prop}(hs:s.heap.IsSliceOf sl vl vu .none)(pl:IsPart vl lo)(pu:IsPart vu hi) (h:Q (((cn n 0 lo:Nat):Int),1,cn n n hi-cn n 0 lo) s):wpAny (model prog w) A (Builtin.Slice.sliceApplied (.ref sl) (pure (n:Int))) Q E s:=by let(os,kB,qj,uK):=id hs;unfold Builtin.Slice.sliceApplied Builtin.Slice.sliceFields;erw[aJ (aJ (kf kB uK (x:=vl) Z (aJ (kf kB uK (x:=vu) Z (aJ (kf kB uK (x:=.none) Z (bN ?_)))))))];erw[aJ (slicePart_none ?_)];show wpAny _ _ (if((1:Int)==0)=true then _ else _) _ _ s;rw[aV aA];erw[aJ (Nj pl (aJ (Nj pu (aJ (bN ?_)))))];show wpAny _ _ (match Builtin.Slice.sliceAdjust lo hi 1 (n:Int)with|(lo,hi)=>pure (lo,(1:Int),Builtin.Slice.slicePlaces lo hi 1)) _ _ s;rw[ad8 lo hi n];show wpAny _ _ (pure (((cn n 0 lo:Nat):Int),(1:Int),Builtin.Slice.slicePlaces ((cn n 0 lo:Nat):Int) ((cn n n hi:Nat):Int) 1)) _ _ s;rw[a3l];erw[bN h]
theorem a3m(xs:Array Value)(i k:Nat):((List.range k).filterMap λ(m:Nat)=>xs[((i:Int)+(m:Int)*1).toNat]?).toArray=((xs.toList.drop i).take k).toArray:=by
 let e:(λ(m:Nat)=>xs[((i:Int)+(m:Int)*1).toNat]?)=λm=>xs[i+m]?:=by
  funext m;have:((i:Int)+(m:Int)*1).toNat=i+m:=by lia
  rw[this]
 rw[e];have:=pick_run xs i k;rw[List.filterMap_map]at this;let e2:((λx=>xs[x]?)∘λx=>i+x)=λm=>xs[i+m]?:=rfl;rw[e2]at this;rw[this]
theorem a9a{t sl:Addr}{items:Array Value}{vl vu:Value}{lo hi:Option Int}{Q:Value->ah->Prop}(ht:IsTup s.heap t items)(hs:s.heap.IsSliceOf sl vl vu .none)(pl:IsPart vl lo)(pu:IsPart vu hi) (hw:¬(cn items.size 0 lo=0/\cn items.size items.size hi=items.size)) (h:Q (.ref s.heap.objs.size) {s with heap:=s.heap.push {cls:=.type "tuple",data:=.seq ((items.toList.drop (cn items.size 0 lo)).take (cn items.size items.size hi-cn items.size 0 lo)).toArray}}) (EK:items.size<=sizeLine):wpAny (model prog w) A (getItem (.ref t) (.ref sl)) Q E s:=by
 let EJ:sizeOk (.seq ((items.toList.drop (cn items.size 0 lo)).take (cn items.size items.size hi-cn items.size 0 lo)).toArray):=by show((items.toList.drop (cn items.size 0 lo)).take (cn items.size items.size hi-cn items.size 0 lo)).toArray.size<=sizeLine;rw[fg,jM,qT,Df];omega
 let hj:cn items.size items.size hi<=items.size:=a1P _ _ (aY _) hi;let(os,kB,qj,uK):=id hs;let hTs:s.TypeIs (.ref sl) "slice":=#[os,kB,qj];unfold getItem
 try with_reducible erw[jI ?_]
 first|erw[aJ (bN ?_)]|skip
 erw[aJ (wpAny_sequenceKey ht.typeIs aA ?_)];erw[aJ (FR (name:=Str.ofString "__getitem__") ht.typeIs Y5 (FQ Y5 ht.typeIs entry_tuple_getitem ?_ (args_tuple_getitem _ _)))];show wpAny _ _ (Builtin.Tuple.tupleItemsOf (.ref t)>>=_) _ _ s;erw[aJ (tupleItemsOf_ ht ?_)];erw[aJ (wpAny_typeOf hTs ?_)];rw[aQ aA];erw[aJ (a1g hs pl pu ?_)];let lT:¬((((cn items.size 0 lo:Nat):Int)==0&&(1:Int)==1&&(cn items.size items.size hi-cn items.size 0 lo)==items.size)=true):=by intro q;rw[fY,fY]at q;let q1:((cn items.size 0 lo:Nat):Int)=0:=eq_of_beq q.1.1;let q2:cn items.size items.size hi-cn items.size 0 lo=items.size:=eq_of_beq q.2;erw[hw #[bZ,bZ]]
 show wpAny _ _ (if(((cn items.size 0 lo:Nat):Int)==0&&(1:Int)==1&&(cn items.size items.size hi-cn items.size 0 lo)==items.size)=true then _ else _) _ _ s;rw[aV lT,a3m]
 first |erw[aJ (m:=Builtin.Tuple.tupleExact _) (qR (bN #[_,Z,bN h]) EJ)] |erw[aJ (m:=Builtin.Tuple.tupleExact _) (qR (aJ (bN (bN #[_,Z,bN h]))) EJ)] |erw[aJ (aJ (m:=Builtin.Tuple.tupleExact _) (qR (bN (bN #[_,Z,bN h])) EJ))] |erw[aJ (aJ (m:=Builtin.Tuple.tupleExact _) (qR (bN #[_,Z,bN h]) EJ))]
end
end _H
namespace _L
open PySem PySem.Spec PyProof.Rows
abbrev TO:=St->Hp->(Option Int->Hp->Prop)->Prop
def PO(X:Cx)(e:Option Expr)(t:TO):Prop:=∀(ay:List (Addr×Obj))(s:ah)(O:St)(H:Hp)(Q:Option Int->Hp->Prop),Inv X ay O H s->t O H Q->wpAny (model X.prog X.w) X.A (evalPart e X.env) (λu s'=>∃o H',Inv X ay O H' s'/\IsPart u o/\Q o H') X.xe s
def Zv:TO:=λ_ H Q=>Q none H
inductive adE(Q:Option Int->Hp->Prop)(x:V)(H1:Hp):Prop |mk i(_:x= .int i)(_:Q (some i) H1)
def Zo(t:TE):TO:=λO H Q=>t O H λx H1=>adE Q x H1
section
variable {X:Cx}{e:Expr}{te:TE}{lo hi:Option Expr}{tl th:TO}{pos p2:Pos}
theorem yh:PO X none Zv:=by intro ay s O H Q I h;rw[evalPart_none];erw[bN #[none,H,I,.none,h]]
theorem uo(h:PE X e te):PO X (some e) (Zo te):=by intro ay s O H Q I hw;rw[evalPart_some];erw[bc (h ay s O H _ I hw) λu s1 #[x,H1,I1,r1,q1]=>?_];let(i,rfl,q):=q1;let(t,rfl):=r1;erw[some i,H1,I1,.int i t,q]
def Fz(X:Cx)(r:V->Option Int->Option Int->Hp->VK->Prop):Prop:=∀(ay:List (Addr×Obj))(s:ah)(O:St)(H:Hp)(x:V)(v vl vu:Value)(lo hi:Option Int)(sl:Addr)(Q:VK),Inv X ay O H s->RelV x v->s.heap.IsSliceOf sl vl vu .none->IsPart vl lo->IsPart vu hi->r x lo hi H Q->∃T id,typeLookup (.type T) "__getitem__"=pure (some (.builtin id))/\s.TypeIs v T/\wpAny (model X.prog X.w) X.A (getItem v (.ref sl)) (EP X ay O Q) X.xe s
def Zl(r:V->Option Int->Option Int->Hp->VK->Prop)(te:TE)(tl th:TO):TE:=λO H Q=>te O H λx H1=>tl O H1 λl H2=>th O H2 λu H3=>r x l u H3 Q
theorem vM(hr:Fz X r)(he:PE X e te)(hl:PO X lo tl)(hu:PO X hi th):PE X (.Subscript e (.Slice lo hi none p2) pos) (Zl r te tl th):=by intro ay s O H Q I h;erw[Subscript_ (bc (he ay s O H _ I h) λv s1 #[x,H1,I1,r1,q1]=>?_)];erw[wpAny_Slice (bc (hl ay s1 O H1 _ I1 q1) λvl s2 #[l,H2,I2,pl,q2]=>bc (hu ay s2 O H2 _ I2 q2) λvu s3 #[u,H3,I3,pu,q3]=>?_)];rw[evalPart_none];erw[bN ?_];let I4:Inv X ay O H3 {s3 with heap:=s3.heap.push {cls:=.type "slice",data:=.fields (List.toArray [vl,vu,.none])}}:=I3.kept (t':=s3.toks) λb ob q=>cD _ q;let(T,id,hT,ht,hg):=hr ay {s3 with heap:=s3.heap.push {cls:=.type "slice",data:=.fields (List.toArray [vl,vu,.none])}} O H3 x v vl vu l u s3.heap.objs.size Q I4 r1 (Heap.IsSliceOf.new ..) pl pu q3;show wpAny (model X.prog X.w) X.A (subscriptTail e (.Slice lo hi none p2) v (.ref s3.heap.objs.size)) (EP X ay O Q) X.xe {s3 with heap:=s3.heap.push {cls:=.type "slice",data:=.fields (List.toArray [vl,vu,.none])}};erw[tail_any (ops:=[.ref s3.heap.objs.size,v]) ht hT hg (by with_unfolding_all rfl)]
def kX(xs:List V)(lo hi:Option Int):List V:=(xs.drop (_H.cn xs.length 0 lo)).take (_H.cn xs.length xs.length hi-_H.cn xs.length 0 lo)
theorem Wo(xs:List V)(lo hi:Option Int):(kX xs lo hi).length<=xs.length:=by
 unfold kX;rw[jM,qT]
 lia
inductive af5(K:ag)(x:V)(lo:Option Int)(hi:Option Int)(H:Hp)(Q:VK):Prop |mk a xs(_:x= .ref a)(_:aW K H a xs)(_:¬(_H.cn xs.length 0 lo=0/\_H.cn xs.length xs.length hi=xs.length))(_:∀p,H p=none->Q (.ref p) (upd H p (.tup (kX xs lo hi))))
def a2O(K:ag):V->Option Int->Option Int->Hp->VK->Prop:=λx lo hi H Q=>af5 K x lo hi H Q
theorem a1h:Fz X (a2O X.K):=by
 intro ay s O H x v vl vu lo hi sl Q I rx hs pl pu h;let(a,xs,rfl,hx,hw,q):=h;cases rx;let(its,r,ht,hz):=I.tuple hx;let hlen:its.toArray.size=xs.length:=by rw[fg];erw[r.length.symm]
 erw["tuple",_,Y5.lookup,ht.typeIs,?_];erw[_H.a9a ht hs pl pu (by rw[hlen];erw[hw]) ?_ (by rw[hlen];erw[hz])];rw[hlen];erw[.ref s.heap.objs.size,_,I.laid (t':=s.toks) (o:=.tup (kX xs lo hi)) (λb ob q=>cD _ q) (aY _) ?_,Z,q _ (I.bp.fresh (aY _))];erw[gY (Wo xs lo hi) hz,_,(r.drop (_H.cn xs.length 0 lo)).take (_H.cn xs.length xs.length hi-_H.cn xs.length 0 lo),IsTup.new _ _]
end
def iS(n:Nat)(i:Int):Option Nat:=if 0<=i then(if i<n then some i.toNat else none)else if-(n:Int)<=i then some (i+n).toNat else none
def eY{α:Type}(xs:List α)(i:Int):Option α:=(iS xs.length i).bind λj=>xs[j]?
theorem Ui(h:iS n i=some j):seqIndex? i n=some j/\j<n/\-(n:Int)<=i/\i<n:=by
 unfold iS at h;by_cases h0:0<=i
 ·rw[aQ h0]at h
  by_cases h1:i<n
  ·rw[aQ h1]at h
   let e:i.toNat=j:=eQ h;erw[by rw[seqIndex_of h0 h1,e],aw,aw,h1]
  ·rw[aV h1]at h;cases h
 ·rw[aV h0]at h
  by_cases h1:-(n:Int)<=i
  ·rw[aQ h1]at h
   let e:(i+n).toNat=j:=eQ h;erw[by rw[seqIndex_neg aw h1,e],aw,h1,aw]
  ·rw[aV h1]at h;cases h
theorem KR{v:α}(h:eY xs i=some v):∃j,seqIndex? i xs.length=some j/\xs[j]? =some v/\j<xs.length/\-(xs.length:Int)<=i/\i<xs.length:=by unfold eY at h;cases e:iS xs.length i with |none=>rw[e]at h;cases h |some j=>rw[e]at h;let(h1,h2,h3,h4):=Ui e;erw[j,h1,h,h2,h3,h4]
theorem acV{xs:List α}{j:Nat}{v:α}(h:xs[j]? =some v):eY xs (j:Int)=some v:=by
 let hj:j<xs.length:=(cm.mp h).1;let e:iS xs.length (j:Int)=some j:=by unfold iS;rw[aQ aw,aQ aw];simp
 unfold eY;rw[e];erw[h]
def Xq(b:Expr):Prop:=∀o i,subscripted b false o i=operate [o,i] (getItem o i)
def tG(X:Cx)(r:R2):Prop:=∀(value slice:Expr)(ay:List (Addr×Obj))(s:ah)(O:St)(H:Hp)(x y:V)(v u:Value)(Q:VK),Inv X ay O H s->RelV x v->RelV y u->r x y H Q->subscripted slice false v u=operate [v,u] (getItem v u)->wpAny (model X.prog X.w) X.A (subscriptTail value slice v u) (EP X ay O Q) X.xe s
def Xw(X:Cx)(id:String)(r:V->List V->Hp->VK->Prop):Prop:=∀(ay:List (Addr×Obj))(s:ah)(O:St)(H:Hp)(x:V)(xs:List V)(v:Value)(us:List Value)(Q:VK),Inv X ay O H s->RelV x v->Vals xs us->r x xs H Q->wpAny (model X.prog X.w) X.A (call (.builtin id) (v::us)) (EP X ay O Q) X.xe s
section
variable {X:Cx}{a b:Expr}{ta tb:TE}{pos:Pos}
theorem tG.or(h:tG X r)(h':tG X r'):tG X (λx y H Q=>r x y H Q\/r' x y H Q):=by
 intro value slice ay s O H x y v u Q I rx ry q hs;rcases q with q|q
 ·erw[h value slice ay s O H x y v u Q I rx ry q hs]
 ·erw[h' value slice ay s O H x y v u Q I rx ry q hs]
theorem S4(hr:tG X r)(ha:PE X a ta)(hb:PE X b tb)(hs:Xq b):PE X (.Subscript a b pos) (A6 r ta tb):=by intro ay s O H Q I h;erw[Subscript_ (KA ha hb I h λv u s2 x y H2 I2 rx ry q=>hr a b ay s2 O H2 x y v u Q I2 rx ry q (hs _ _))]
inductive aff(K:ag)(x:V)(y:V)(H:Hp)(Q:VK):Prop |mk p xs i v(_:x= .ref p)(_:y= .int i)(_:aL K H p xs)(_:eY xs i=some v)(_:Q v H)
def HA(K:ag):R2:=λx y H Q=>aff K x y H Q
inductive afd(K:ag)(x:V)(y:V)(H:Hp)(Q:VK):Prop |mk p xs i v(_:x= .ref p)(_:y= .int i)(_:aW K H p xs)(_:eY xs i=some v)(_:Q v H)
def Hz(K:ag):R2:=λx y H Q=>afd K x y H Q
inductive afe(x:V)(y:V)(H:Hp)(Q:VK):Prop |mk z i c(_:x= .str z)(_:y= .int i)(_:z.length<=sizeLine)(_:eY z.cps.toList i=some c)(_:Q (.str ⟨#[c]⟩) H)
def a2T:R2:=λx y H Q=>afe x y H Q
theorem a6Z:tG X (HA X.K):=by
 intro value slice ay s O H x y v u Q I rx ry h hs;let(p,xs,i,z,rfl,rfl,hq,he,q):=h;cases rx;let(t,rfl):=ry;let(its,r,pl,hz):=I.list hq;let(j,h1,h2,h3,h4,h5):=KR he;let(w,ew,dA):=r.get h2;let hl:=r.length;let hn:=wm;let fin:EP X ay O Q w s:=#[z,H,I,dA,q];by_cases h0:0<=i
 ·let hj:i.toNat=j:=by rw[seqIndex_of h0 h5]at h1;erw[eQ h1]
  erw[item_listR pl.isList h0 aw (by rw[hj];simpa using ew) fin hs]
 ·let hj:(i+(its.toArray.size:Int)).toNat=j:=by rw[seqIndex_neg aw h4]at h1;rw[fg,<-hl];erw[eQ h1]
  erw[subscriptTail_builtinR (x:=w) pl.isList.typeIs slot_list_getitem.lookup (wpAny_getItem_list_neg (Q:=λr s'=>r=w/\EP X ay O Q r s') pl.isList aw (by rw[fg]<;>lia) aw (by rw[hj];simpa using ew) #[Z,fin]) hs]
theorem a6X:tG X (Hz X.K):=by intro value slice ay s O H x y v u Q I rx ry h hs;let(p,xs,i,z,rfl,rfl,hq,he,q):=h;cases rx;let(t,rfl):=ry;let(its,r,pl,hz):=I.tuple hq;let(j,h1,h2,h3,h4,h5):=KR he;let(w,ew,dA):=r.get h2;let hl:=r.length;let hn:=wm;let fin:EP X ay O Q w s:=#[z,H,I,dA,q];erw[subscriptTail_builtinR (x:=w) pl.typeIs slot_tuple_getitem.lookup (getItem_tuple (j:=j) (Q:=λr s'=>r=w/\EP X ay O Q r s') pl aw aw (by rw[fg,<-hl];erw[h1]) (by simpa using ew) #[Z,fin]) hs]
theorem a6Y:tG X a2T:=by
 intro value slice ay s O H x y v u Q I rx ry h hs;let(z,i,c,rfl,rfl,hz,he,q):=h;let(t,rfl):=rx;let(t',rfl):=ry;let(j,h1,h2,h3,h4,h5):=KR he;let hl:z.cps.toList.length=z.length:=by simp[Str.length]
 rw[hl]at h1 h4 h5;let hn:=wm;erw[tail_any (typeIs_str s z t) slot_str_getitem.lookup (getItem_str (c:=c) (by let e1:decide (i< -(2^63:Int))=false:=dP aw;let e2:decide (i>=2^63)=false:=dP aw;rw[e1,e2,Bool.or_false]) (by rw[h1];simpa using h2) #[.str ⟨#[c]⟩,H,I.tok _,#[_,Z],q]) hs]
theorem a5Z(its:List Value)(n j:Nat)(u:Value):Obj.mapSeq (·.setIfInBounds j u) {cls:=.type "list",data:=.seq its.toArray n}={cls:=.type "list",data:=.seq (its.set j u).toArray n}:=by simp[Obj.mapSeq]
theorem Inv.lst{ay:List (Addr×Obj)}{O:St}{H:Hp}{s:ah}{p:Addr}{xs:List V}(I:Inv X ay O H s)(h:H p=some (.lst xs)): ∃(its:List Value)(n:Nat),Vals xs its/\s.heap.get? p=some {cls:=.type "list",data:=.seq its.toArray n}/\xs.length<=sizeLine:=by let(z,its,n,r,e):=I.bp p _ h;erw[its,n,r,e,z]
theorem Inv.a6s{ay:List (Addr×Obj)}{O:St}{H:Hp}{s:ah}{p:Addr}{xs ys:List V}{its its':List Value}{n n':Nat}{f:Obj->Obj}(I:Inv X ay O H s)(h:H p=some (.lst xs)) (ho:s.heap.get? p=some {cls:=.type "list",data:=.seq its.toArray n})(hf:f {cls:=.type "list",data:=.seq its.toArray n}={cls:=.type "list",data:=.seq its'.toArray n'})(r:Vals ys its')(hz:ys.length<=sizeLine)(t:Nat): Inv X ay O (upd H p (.lst ys)) {s with heap:=s.heap.update p f,toks:=t}:=by
 let e:(s.heap.update p f).get? p=some {cls:=.type "list",data:=.seq its'.toArray n'}:=by rw[Gf f ho (by rw[hf]<;>rfl),hf]
 erw[I.write (x:=p) (e:=p) (by rw[h];trivial) (.inl Z) (λb u hb q=>(De _ _ (kJ hb)).trans q) #[_,e] ?_];erw[hz,its',n',r,e]
inductive af8(o:V)(i:V)(v:V)(H:Hp)(Q:Hp->Prop):Prop |mk p xs k j(_:o= .ref p)(_:i= .int k)(_:H p=some (.lst xs))(_:iS xs.length k=some j)(_:Q (upd H p (.lst (xs.set j v))))
def a2R:V->V->V->Hp->(Hp->Prop)->Prop:=λo i v H Q=>af8 o i v H Q
theorem set_list:Xr X a2R:=by
 intro ay s O H o i v ov iv u Q I ro ri rv h;let(p,xs,k,j,rfl,rfl,hp,hj,q):=h;cases ro;let(t,rfl):=ri;let(its,n,r,ho,hz):=I.lst hp;let(h1,h2,h3,h4):=Ui hj;let hl:=r.length;let hn:=wm;let I':Inv X ay O (upd H p (.lst (xs.set j v))) {s with heap:=s.heap.update p (Obj.mapSeq (·.setIfInBounds j u))}:=I.a6s hp ho (a5Z its n j u) (r.set rv j) (by rw[xQ];erw[hz]) s.toks;by_cases h0:0<=k
 ·let hk:k.toNat=j:=by rw[seqIndex_of h0 h4]at h1;erw[eQ h1]
  erw[PySem.W.ki_setAt ho h0 aw (by rw[fg,<-hl];erw[h4]) (by rw[hk];erw[_,I',q])]
 ·let hk:(k+(its.toArray.size:Int)).toNat=j:=by rw[seqIndex_neg aw h3]at h1;rw[fg,<-hl];erw[eQ h1]
  erw[PySem.W.ki_setBack ho aw (by rw[fg,<-hl];erw[h3]) aw (by rw[hk];erw[_,I',q])]
theorem a1e(lo hi:Option Int)(n:Nat):(sliceBounds lo hi none n).1=((_H.cn n 0 lo:Nat):Int)/\(sliceBounds lo hi none n).2.1=((_H.cn n n hi:Nat):Int)/\(sliceBounds lo hi none n).2.2=1:=by
 erw[?_,?_,Z]
 ·cases lo with |none=>simp[sliceBounds,_H.cn] |some i=>
  simp only[sliceBounds,_H.cn,Option.getD_none,show(1:Int)>0 by decide,vd];by_cases h:i<0
  ·simp only[h,vd]<;>lia
  ·simp only[h,if_false]<;>lia
 ·cases hi with |none=>simp[sliceBounds,_H.cn] |some i=>
  simp only[sliceBounds,_H.cn,Option.getD_none,show(1:Int)>0 by decide,vd];by_cases h:i<0
  ·simp only[h,vd]<;>lia
  ·simp only[h,if_false]<;>lia
theorem a1f(its:List Value)(lo hi:Option Int):slicePick its.toArray lo hi none=((its.drop (_H.cn its.length 0 lo)).take (_H.cn its.length its.length hi-_H.cn its.length 0 lo)).toArray:=by let(h1,h2,h3):=a1e lo hi its.toArray.size;unfold slicePick;rw[h1,h2,h3];simp only[sliceRange_one,pick_run,fg]<;>rfl
inductive af6(K:ag)(x:V)(lo:Option Int)(hi:Option Int)(H:Hp)(Q:VK):Prop |mk a xs(_:x= .ref a)(_:aL K H a xs)(_:∀p,H p=none->Q (.ref p) (upd H p (.lst (kX xs lo hi))))
def a2P(K:ag):V->Option Int->Option Int->Hp->VK->Prop:=λx lo hi H Q=>af6 K x lo hi H Q
theorem a1i:Fz X (a2P X.K):=by intro ay s O H x v vl vu lo hi sl Q I rx hs pl pu h;let(a,xs,rfl,hx,q):=h;cases rx;let(its,r,ht,hz):=I.list hx;let hlen:=r.length;erw["list",_,slot_list_getitem.lookup,ht.isList.typeIs,?_];erw[wpAny_getItem_list_slice ht.isList hs pl pu .none (by simp) ?_ (by rw[fg]<;>lia)];rw[a1f,<-hlen];erw[.ref s.heap.objs.size,_,I.laid (t':=s.toks) (o:=.lst (kX xs lo hi)) (λb ob q=>cD _ q) (aY _) ?_,Z,q _ (I.bp.fresh (aY _))];erw[gY (Wo xs lo hi) hz,_,0,(r.drop (_H.cn xs.length 0 lo)).take (_H.cn xs.length xs.length hi-_H.cn xs.length 0 lo),fj _ Z]
theorem acr:fW X (.builtin "len") (λxs H Q=>∃p ys,xs=[.ref p]/\(aL X.K H p ys\/aW X.K H p ys)/\Q (.int ys.length) H):=by
 intro ay s O H xs us Q I r h;let(p,ys,rfl,hq,q):=h;let(u,rfl,rx):=vals1 r;cases rx;let hn:=wm;rcases hq with hq|hq
 ·let(its,r',pl,hz):=I.list hq
  let hlen:=r'.length;erw[Calls.call_len_list pl.isList (by simp only[fg]<;>lia) #[.int ys.length,H,I.tok _,#[s.toks+1,by rw[fg,hlen]],q]]
 ·let(its,r',pl,hz):=I.tuple hq
  let hlen:=r'.length;erw[len_tuple pl (by simp only[fg]<;>lia) #[.int ys.length,H,I.tok _,#[s.toks+1,by rw[fg,hlen]],q]]
theorem acq:fW X (.builtin "len") (λxs H Q=>∃z,xs=[.str z]/\z.length<=sizeLine/\Q (.int z.length) H):=by intro ay s O H xs us Q I r h;let(z,rfl,hz,q):=h;let(u,rfl,t,rfl):=vals1 r;let hn:=wm;erw[len_str aw #[.int z.length,H,I.tok _,#[_,Z],q]]
theorem fW.or(h:fW X f r)(h':fW X f r'):fW X f (λxs H Q=>r xs H Q\/r' xs H Q):=by
 intro ay s O H xs us Q I rs q;rcases q with q|q
 ·erw[h ay s O H xs us Q I rs q]
 ·erw[h' ay s O H xs us Q I rs q]
theorem acp:fW X (.type "list") (λxs H Q=>∃p ys,xs=[.ref p]/\(aL X.K H p ys\/aW X.K H p ys)/\∀l,H l=none->Q (.ref l) (upd H l (.lst ys))):=by
 intro ay s O H xs us Q I r h;let(p,ys,rfl,hq,q):=h;let(u,rfl,rx):=vals1 r;cases rx;let fin:∀(its:List Value),Vals ys its->ys.length<=sizeLine->∀(h':Heap)(c':Nat),(∀b o',s.heap.get? b=some o'->h'.get? b=some o')->h'.get? s.heap.objs.size=some {cls:=.type "list",dict:=none,data:=.seq its.toArray c',slots:=#[]}->EP X ay O Q (.ref s.heap.objs.size) {s with heap:=h'}:=λits r' hz h' c' kp e=>#[.ref s.heap.objs.size,_,I.laid (t':=s.toks) kp (aY _) (show gj X.prog X.w _ h' _ (.lst ys)from#[hz,its,c',r',e]),Z,q _ (I.bp.fresh (aY _))];rcases hq with hq|hq
 ·let(its,r',pl,hz):=I.list hq
  let hlen:=r'.length;let(o,ho,hc,n,hd):=pl.isList;erw[call_list_seq p (.inl Z) ho hc hd (λh' c' kp e=>fin its r' hz h' c' kp e) (by simp only[fg]<;>lia)]
 ·let(its,r',pl,hz):=I.tuple hq
  let hlen:=r'.length;let(o,ho,hc,n,hd):=pl;erw[call_list_seq p (.inr Z) ho hc hd (λh' c' kp e=>fin its r' hz h' c' kp e) (by simp only[fg]<;>lia)]
theorem acj:fW X (.type "tuple") (λxs H Q=>∃p ys,xs=[.ref p]/\((aL X.K H p ys/\∀l,H l=none->Q (.ref l) (upd H l (.tup ys)))\/(aW X.K H p ys/\Q (.ref p) H))):=by
 intro ay s O H xs us Q I r h;let(p,ys,rfl,h):=h;let(u,rfl,rx):=vals1 r;cases rx;rcases h with⟨hq,q⟩|⟨hq,q⟩
 ·let(its,r',pl,hz):=I.list hq
  let hlen:=r'.length;erw[call_tuple_list pl.isList (λh' kp=>?_) (by simp only[fg]<;>lia)];let I1:Inv X ay O H {s with heap:=h'}:=I.kept (t':=s.toks) kp;let I2:Inv X ay O (upd H h'.objs.size (.tup ys)) {s with heap:=h'.push {cls:=.type "tuple",data:=.seq its.toArray}}:=I1.laid (t':=s.toks) (λb o e=>cD _ e) (aY _) (show gj X.prog X.w _ _ _ (.tup ys)from#[hz,its,r',IsTup.new _ _]);erw[.ref h'.objs.size,_,I2,Z,q _ (I1.bp.fresh (aY _))]
 ·let(its,r',pl,hz):=I.tuple hq
  erw[call_tuple_same pl #[.ref p,H,I,Z,q]]
def Mg(K:ag)(T:String)(x:V)(H:Hp):Prop:=match x with | .str _=>T="str" | .int _=>T="int" | .ref p=>(T="list"/\∃xs,aL K H p xs)\/(T="tuple"/\∃o,K.lookup p=some o/\o.cls= .type "tuple"/\o.dict=none)\/ (T="dict"/\((∃fm,H p=some (.dK fm))\/∃fm,H p=some (.dT fm)))\/(T="set"/\∃S n,H p=some (.set S n)) |_=>False
theorem YV{ay:List (Addr×Obj)}{O:St}{H:Hp}{s:ah}{T:String}{x:V}{v:Value}(I:Inv X ay O H s)(r:RelV x v)(ty:Mg X.K T x H): s.TypeIs v T/\∀a,v= .ref a->∃ob,s.heap.get? a=some ob/\ob.dict=none:=by cases x with
 |str z=>let(t,rfl):=r;cases(show T="str" from ty);erw[typeIs_str s z t,λ_ e=>nomatch e] |int i=>let(t,rfl):=r;cases(show T="int" from ty);erw[typeIs_int s i t,λ_ e=>nomatch e] |ref p=>
  cases r;rcases ty with⟨rfl,xs,hq⟩|⟨rfl,o,hk,hc,hd⟩|⟨rfl,hk⟩|⟨rfl,S,n,hk⟩
  ·let(its,_,pl,_):=I.list hq
   erw[pl.isList.typeIs,λa e=>?_];cases e;let(o,n,e,c,hd,_):=pl;erw[o,e,hd]
  ·erw[#[o,I.fG p o hk,hc],λa e=>?_]
   cases e;erw[o,I.fG _ o hk,hd]
  ·let z:∃o,s.heap.get? p=some o/\o.ExactDict:=by
    rcases hk with⟨fm,hk⟩|⟨fm,hk⟩
    ·let(_,_,_,_,o,_,_,e,ex,_):=I.bp p _ hk
     erw[o,e,ex]
    ·let(_,_,_,_,o,_,_,e,ex,_):=I.bp p _ hk
     erw[o,e,ex]
   let(o,e,ex):=z;erw[#[o,e,ex.1],λa e2=>?_];cases e2;erw[o,e,ex.2.1]
  ·let(o,_,_,_,e,ex,_):=I.bp p _ hk
   erw[#[o,e,ex.1],λa e2=>?_];cases e2;erw[o,e,ex.2.1] |_=>erw[False.elim ty]
def A7(K:ag)(T:String)(r:V->List V->Hp->VK->Prop)(to:TE)(t:TA):TE:=λO H Q=>to O H λx H1=>Mg K T x H1/\t O H1 λxs H2=>r x xs H2 Q
variable {o e:Expr}{es:List Expr}{to:TE}{t:TA}{name:Str}{apos dZ:Pos}{T id:String}{r:V->List V->Hp->VK->Prop}
theorem E8(pa:PlainAttrs T)(slot:Slot T name id)(J6:typeOf (.builtin id)=pure (.type "method_descriptor"))(hm:Xw X id r)(ho:PE X o to)(ha:PA X (e::es) t) (sQ:autoParam (attributeBase o name X.env (eval o X.env)=eval o X.env) r8_._auto_1) (sM:autoParam (((backTo dZ (starEach (e::es) X.env)).all (λx=>!x.1)&&(backToKw dZ (keywordEach [] X.env)).all (λx=>x.1.isSome) &&decide ((e::es).length+([]:List Keyword).length+(if([]:List Keyword).isEmpty then 0 else 1)<30))=true) r8_._auto_1) (sG:autoParam ((apos.endLine==dZ.line)=true) r8_._auto_1)(hs:autoParam (starEach (e::es) X.env=(false,eval e X.env)::starEach es X.env) r8_._auto_1)(sF:autoParam ((backTo dZ (starEach es X.env)).any (·.1)=false) r8_._auto_1): PE X (.Call (.Attribute o name apos) (e::es) [] dZ) (A7 X.K T r to t):=by intro ay s O H Q I h;erw[wpAny_Call_method_late sQ sM sG Z (bc (ho ay s O H _ I h) λv s1 #[x,H1,I1,r1,ty,q1]=>?_)];let(h1,h2):=YV I1 r1 ty;erw[T,id,pa,slot,J6,h1,h2,?_];let hA:=ha dZ ay s1 O H1 _ I1 q1;rw[hs]at hA⊢;erw[Calls.callWith_builtin (by show(false||(backTo dZ (starEach es X.env)).any (·.1))=false;rw[sF]<;>rfl) (Calls.evalArgs_plain ?_)];erw[bc hA λus s2 #[vs,H2,I2,r2,q2]=>hm ay s2 O H2 x vs v us Q I2 r1 r2 q2]
end
def Le(X:Cx)(id:String)(r:V->List V->Hp->VK->Prop):Prop:=∀(ay:List (Addr×Obj))(s:ah)(O:St)(H:Hp)(x:V)(xs:List V)(v:Value)(us:List Value)(Q:VK),Inv X ay O H s->RelV x v->Vals xs us->r x xs H Q->wpAny (model X.prog X.w) X.A (call (.builtin id) (v::us)) (EP X ay O Q) X.xe s
theorem Vals.one:∀{x:V}{us:List Value},Vals [x] us->∃u,us=[u]/\RelV x u |_,_,.cons r .nil=>#[_,Z,r]
theorem Vals.eraseIdx:∀{xs:List V}{us:List Value}(i:Nat),Vals xs us->Vals (xs.eraseIdx i) (us.eraseIdx i) |_,_,_,.nil=>.nil |_,_,0,.cons _ t=>t |_,_,i+1,.cons r t=>.cons r (Vals.eraseIdx i t)
theorem Vals.rep{xs:List V}{us:List Value}(h:Vals xs us):∀k:Nat,Vals (List.replicate k xs).flatten (List.replicate k us).flatten |0=>.nil |k+1=>by rw[tQ,tQ,Ga,Ga];erw[Vals.append h (Vals.rep h k)]
theorem U6{α:Type}:∀(l:List α)(i:Nat),(l.eraseIdx i).length<=l.length |[],_=>aY _ |_::_,0=>G8 _ |_::r,i+1=>Nat.succ_le_succ (U6 r i)
theorem foldl_rep(its:List Value):∀(k:Nat)(acc:List Value),List.foldl (λx1 x2=>x1++x2) acc.toArray (List.replicate k its.toArray)=(acc++(List.replicate k its).flatten).toArray
 |0,acc=>by simp |k+1,acc=>by
  let e:acc.toArray++its.toArray=(acc++its).toArray:=by simp
  let e2:(acc++its)++(List.replicate k its).flatten=acc++(List.replicate (k+1) its).flatten:=by rw[tQ,Ga,D6]
  rw[<-e2,<-foldl_rep its k (acc++its),<-e,tQ,List.foldl_cons]
section
variable {X:Cx}{ay:List (Addr×Obj)}{O:St}{H:Hp}{s:ah}{l b:Addr}{xs ys zs:List V}
theorem Inv.Iz{its its':List Value}{n:Nat}{t':Nat}(I:Inv X ay O H s)(hH:H l=some (.lst xs)) (e:s.heap.get? l=some {cls:=.type "list",data:=.seq its.toArray n})(hf:f its.toArray=its'.toArray)(hv:Vals ys its')(hz:ys.length<=sizeLine): Inv X ay O (upd H l (.lst ys)) {s with heap:=s.heap.update l (Obj.mapSeq f),toks:=t'}:=by let q:=PySem.IsL.update e f;rw[hf]at q;erw[I.write (x:=l) (e:=l) (by rw[hH];erw[trivial]) (.inl Z) (λb' u hb hu=>(De s.heap (Obj.mapSeq f) (kJ hb)).trans hu) #[_,q] ?_];erw[hz,its',_,hv,q]
theorem Inv.EB(I:Inv X ay O H s)(hv:Vals ys its)(hz:ys.length<=sizeLine): Inv X ay O (upd H s.heap.objs.size (.lst ys)) {s with heap:=s.heap.push {cls:=.type "list",data:=.seq its.toArray},toks:=t'}:=I.laid (λ_ _ q=>cD _ q) (aY _) #[hz,its,0,hv,fj _ Z]
theorem Inv.fresh(I:Inv X ay O H s):H s.heap.objs.size=none:=I.bp.fresh (aY _)
theorem Inv.Be(I:Inv X ay O H s)(hH:H l=some (.lst xs)):xs.length<=sizeLine/\∃(its:List Value)(n:Nat),Vals xs its/\xs.length=its.length/\s.heap.get? l=some {cls:=.type "list",data:=.seq its.toArray n}:=by let(z,its,n,r,e):=I.bp l _ hH;erw[z,its,n,r,r.length,e]
theorem SR(h:n<=sizeLine):Builtin.List.listTooLong n=false:=by unfold Builtin.List.listTooLong;erw[dP aw]
end
section
variable {X:Cx}
inductive afq(x:V)(vs:List V)(H:Hp)(Q:VK):Prop |mk l xs y(_:x= .ref l)(_:vs=[y])(_:H l=some (.lst xs))(_:xs.length<sizeLine)(_:Q .bM (upd H l (.lst (xs++[y]))))
def RQ:V->List V->Hp->VK->Prop:=λx vs H Q=>afq x vs H Q
theorem Et:Le X "list.append" RQ:=by
 intro ay s O H x vs v us Q I rx rv h;let(l,xs,y,rfl,rfl,hH,hz,q):=h;cases rx;let(u,rfl,ru):=rv.one;let(z,its,n,r,hl,e):=I.Be hH;erw[CO F.slot_list_append #[_,e,Z] F.entry_list_append (F.args_list_append_2 _ _) (PySem.list_append l its.toArray n u (by rw[fg];lia)) #[e,?_]];erw[.bM,_,I.Iz (its':=its++[u]) hH e (by simp) (r.append (.cons ru .nil)) ?_,Z,q];rw[cy,List.length_singleton]
 lia
inductive afn(x:V)(vs:List V)(H:Hp)(Q:VK):Prop |mk l b xs zs(_:x= .ref l)(_:vs=[.ref b])(_:H l=some (.lst xs))(_:H b=some (.lst zs))(_:xs.length+zs.length<=sizeLine)(_:Q .bM (upd H l (.lst (xs++zs))))
def RP:V->List V->Hp->VK->Prop:=λx vs H Q=>afn x vs H Q
theorem a5O:Le X "list.extend" RP:=by
 intro ay s O H x vs v us Q I rx rv h;let(l,b,xs,zs,rfl,rfl,hH,hB,hz,q):=h;cases rx;let(u,rfl,ru):=rv.one;cases ru;let(z,its,n,r,hl,e):=I.Be hH;let(z2,oK,n2,r2,sH,e2):=I.Be hB;let EK:its.toArray.size+oK.toArray.size<=sizeLine:=by rw[fg,fg];lia
 let Jg:¬(!its.toArray.isEmpty&&Builtin.List.listTooLong (its.toArray.size+oK.toArray.size))=true:=by rw[SR EK,M5];erw[jt]
 erw[CO F.slot_list_extend #[_,e,Z] F.entry_list_extend (F.args_list_extend_2 _ _) (AutoSeq1.list_extend_list_list_0 l its.toArray n b oK.toArray n2 Jg (by rw[fg];lia) aw) #[e,e2,?_]];erw[.bM,_,I.Iz (its':=its++oK) hH e (by simp) (r.append r2) ?_,Z,q];rw[cy]
 lia
inductive afa(x:V)(vs:List V)(H:Hp)(Q:VK):Prop |mk l xs i k y(_:x= .ref l)(_:vs=[.int i])(_:H l=some (.lst xs))(_:-(2^63)<=i)(_:i<2^63)(_:seqIndex? i xs.length=some k)(_:xs[k]? =some y)(_:Q y (upd H l (.lst (xs.eraseIdx k))))
def RO:V->List V->Hp->VK->Prop:=λx vs H Q=>afa x vs H Q
theorem a5N:Le X "list.pop" RO:=by
 intro ay s O H x vs v us Q I rx rv h;let(l,xs,i,k,y,rfl,rfl,hH,h1,h2,hk,hy,q):=h;cases rx;let(u,rfl,ru):=rv.one;let(t,rfl):=ru;let(z,its,n,r,hl,e):=I.Be hH;let(w,hw,dA):=r.get hy;erw[CO F.slot_list_pop #[_,e,Z] F.entry_list_pop (F.args_list_pop_2 _ _) (MeetsSeq.list_pop_at l its.toArray n i t k w (fitsIndex_both h1 h2) (by rw[fg,<-hl];erw[hk]) (by rw[<-Array.getElem?_toList];erw[hw]) (by rw[fg];lia)) #[e,?_]];erw[y,_,I.Iz (its':=its.eraseIdx k) hH e ?_ (r.eraseIdx k) ?_,dA,q]
 ·show its.toArray.eraseIdxIfInBounds k=(its.eraseIdx k).toArray
  rw[List.eraseIdxIfInBounds_toArray]
 ·have:=U6 xs k
  lia
inductive af9(x:V)(y:V)(H:Hp)(Q:VK):Prop |mk l k xs(_:x= .ref l)(_:y= .int k)(_:H l=some (.lst xs))(_:-(2^63)<=k)(_:k<2^63)(_:xs.length*k.toNat<=sizeLine)(_:∀p,H p=none->Q (.ref p) (upd H p (.lst (List.replicate k.toNat xs).flatten)))
def a2S:R2:=λx y H Q=>af9 x y H Q
theorem len_rep{α:Type}(xs:List α)(k:Nat):(List.replicate k xs).flatten.length=k*xs.length:=by induction k with |zero=>simp |succ k ih=>rw[tQ,Ga,cy,ih,Nat.succ_mul,LJ]
theorem a3W:dN X (binaryOp .Mult) a2S:=by
 intro ay s O H x y v u Q I rx ry h;let(l,k,xs,rfl,rfl,hH,h1,h2,hz,q):=h;cases rx;let(t,rfl):=ry;let(z,its,n,r,hl,e):=I.Be hH;let hlen:its.toArray.size*k.toNat<=sizeLine:=by rw[fg,<-hl];erw[hz]
 let a8s:¬its.toArray.size*k.toNat>(2^63-1)/8:=by
  have:(sizeLine:Nat)<=(2^63-1)/8:=by decide
  lia
 let a8g:¬(!Builtin.List.listFitsIndex k)=true:=by rw[fitsIndex_both h1 h2];erw[jt]
 let Jg:¬Builtin.List.listTooLong (its.toArray.size*k.toNat)=true:=by rw[SR hlen];erw[jt]
 let a7P:List.foldl (λx1 x2=>x1++x2) #[] (List.replicate (if its.toArray.isEmpty=true then 0 else k.toNat) its.toArray)=(List.replicate k.toNat its).flatten.toArray:=by
  let f0:∀m:Nat,List.foldl (λx1 x2=>x1++x2) #[] (List.replicate m its.toArray)=(List.replicate m its).flatten.toArray:=λm=>by have:=foldl_rep its m [];rw[List.nil_append]at this;erw[this]
  rw[f0];cases its with |nil=>simp |cons a r'=>rw[aV (by simp)]
 erw[wpAny_binaryOp_repeat_ref (T:="list") (U:="int") aA #[_,e,Z] (λs'=>typeIs_int s' k t) noFill_list_mul F.fills_int_mul F.slot_int_rmul repeat_list F.slot_int_index.lookup (CO F.slot_int_rmul (typeIs_int s k t) F.entry_int_rmul (F.args_int_rmul_2 _ _) (int___rmul___int_list k t l its.toArray n) #[e,Z,#[_,e,Z],CO F.slot_list_mul #[_,e,Z] F.entry_list_mul (F.args_list_mul_2 _ _) (AutoListH.list___mul___list_int_3 l its.toArray n k t a8g a8s Jg) #[e,?_]])];rw[a7P];erw[.ref _,_,I.EB (t':=s.toks) (r.rep k.toNat) (by rw[len_rep,Nat.mul_comm];erw[hz]),Z,q _ I.fresh]
end
end _L
namespace _AA
open PySem PySem.W PySem.Calls PyProof.Rows
theorem a77{P:Params}:∀(ns:List Int)(vs:List Value),WellAll P h vs (ns.map WData.int)->IntsAre vs ns:=by intro ns;induction ns with |nil=>intro vs w;rw[List.map_nil]at w;cases w;erw[.nil] |cons n ns ih=>intro vs w;rw[CY]at w;cases w with |cons a b=>cases a;erw[.cons _ _ (ih _ b)]
theorem a1w{l:OpenLaw}{n:Nat}(hn:l.most=some n){P:Params}{h:Heap}{args:List WData}{vals:List Value} (EL:l.row.toRowW.claim.pre args=true)(J4:WellAll P h vals args): ∃a vs ns,vals=[Value.ref a]/\args=[WData.list (ns.map WData.int)]/\h.get? a=some {cls:=.type "list",data:=.seq vs.toArray}/\IntsAre vs ns/\ns.length<=n:=by
 let hsh:WShape.hasAll [] args [.list .int]=true:=(pre_splitW EL).1;let hc:l.pre.holds [] {args:=args}=true:=(pre_splitW EL).2;let(d,r,rfl,h1,h2):=hasAllW_cons hsh;obtain rfl:=hasAllW_nil h2;let(xs,rfl,h3):=hasW_list h1;let(ns,rfl):=items_int h3;let hlen:ns.length<=n:=by
  unfold OpenLaw.pre at hc;let h4:(WTm.not (.lt (.lit (.int (n:Int))) (.len (.arg 0)))).holds [] {args:=[.list (ns.map .int)]}=true:=by let h4:=(holds_andW hc).1;rw[hn]at h4;erw[h4]
  let h5:=condW_of h4 (w_not (w_lt w_lit (w_len_list (w_arg Z))));rw[bB]at h5;erw[Nat.le_of_not_lt λq=>?_];let q':(n:Int)<((ns.length:Nat):Int):=by omega
  first |(rw[cu q']at h5;erw[absurd h5 aA]) |(simp at h5;omega)
 cases J4 with |cons w1 w2=>cases w2;cases w1 with |list ho Jp=>erw[_,_,ns,Z,Z,ho,a77 ns _ Jp,hlen]
theorem a3e(l:OpenLaw)(args:List WData):l.row.toRowW.claim.post args (.bool true) args=true:=postW_of (r:=l.row.toRowW) (X:=(true==true)) (show WShape.has [] (.bool true) .bool=true by first|rfl|decide|simp[WShape.has,WShape.arms,WShape.armsAll]) (show(WTm.eq .res (.lit (.bool true))).value [] {args:=args,res:=some (.bool true),after:=args}=some (.bool (true==true))from w_eq_bool (w_res Z) w_lit) rfl
theorem acT{l:OpenLaw}{n:Nat}{q:ai}{loose:List Str}{XP:(bU)->Heap->Prop}{YP:World->Heap->Prop}{d:DefRec} (hn:l.most=some n)(BB:d.params.defaults=[]) (call:∀(w:World)(s₀ s₁:ah)(mg mb:bU)(fa:Addr)(o:Obj)(pm cd doc:Value)(a:Addr)(vs:List Value)(ns:List Int),Ground q loose [] XP w s₀ mg mb s₁.heap->YP w s₁.heap->s₁.heap.get? fa=some o->o.data= .func (docDef d.name d.params d.body d.scope pm cd doc)->s₁.heap.CodeRec cd d.name->mg d.name=some (.ref fa)->s₁.heap.get? a=some {cls:=.type "list",data:=.seq vs.toArray}->IntsAre vs ns->ns.length<=n->s₁.gens=#[]->codeAny (model l.prog w) callerA (.call (.ref fa) #[[.ref a],[]]) (λr s'=>r= .ok (.ret (.bool true))/\OldK s₁.heap s'.heap/\s'.os=s₁.os/\AllBare s'.gens) s₁): WalkO q loose XP YP l.row.toRowW d [] (λf vs=>PySem.call f vs):=by intro w s₀ s₁ mg mb G Y fa o pm cd doc dV kV ho hd fU hD Bv hg args vals as EL agO hrd J4 hlo;obtain rfl:dV= .none:=Dflts.none hD BB;obtain rfl:kV= .none:=Dflts.noKw hD;let(a,vs,ns,rfl,rfl,Jb,hints,hlen):=a1w hn EL J4;erw[enter_call (xK (call w s₀ s₁ mg mb fa o pm cd doc a vs ns G Y ho (fd_plain hd) fU Bv Jb hints hlen hg) λr s' hq=>?_)];let(rfl,h2,h3,h4):=hq;erw[.inl #[.bool true,.bool true,[],Z,λ_=>rfl,.bool true,a3e l _,λ_=>#[List.Pairwise.nil,λ_ hm=>(nomatch hm)]],h2,h3,h4]
end _AA
namespace _L
open PySem PySem.Spec PyProof.Rows
theorem Mf:∀{vs:List Value}{ns:List Int},IntsAre vs ns->Vals (ns.map V.int) vs |_,_,.nil=>.nil |_,_,.cons n t h=>.cons #[t,Z] (Mf h)
def Ld(H:Hp):Prop:=∀b,H b=none\/∃o xs,H b=some (.oU o (.lst xs))
theorem a6J{P:ai}{w:World}{K:ag}{mg mb:bU}{CX:lC}{k:Nat}{fa a:Addr}{fd:FuncData}{x:Str}{sp:Sp}{s₁:ah}{vs:List Value}{ns:List Int} (KX:K.In s₁.heap)(UB:s₁.heap.Ns mainGlobals mg)(hb:s₁.heap.Ns builtinsNs mb)(hbb:∀x:Str,x≠"__name__"->mb x=bootBuiltins x)(a7W:s₁.heap.NoLimit)(hg:s₁.gens=#[]) (ha:s₁.heap.get? a=some {cls:=.type "list",data:=.seq vs.toArray})(hi:IntsAre vs ns)(hl:ns.length<=sizeLine)(hr:df k callerA) (F:∀aD:Heap,K.In aD->aD.Ns mainGlobals mg->iq P w K mg aD CX k fa fd [x] sp)(a8y:∀(s:ah)(u:Value),BindsTo s fd #[[u],[]] [(x,u)]) (iJ:∀H:Hp,Ld H->aL K H a (ns.map V.int)->sp [.ref a] H (λv _=>v= .bl true) λ_ _ _=>False) (Jt:∀H e s',CX [] H s₁ (λ_ _ _=>False) e s'->False): codeAny (model P w) callerA (.call (.ref fa) #[[.ref a],[]]) (λr s'=>r= .ok (.ret (.bool true))/\OldK s₁.heap s'.heap/\s'.os=s₁.os/\AllBare s'.gens) s₁:=by
 let rv:=Mf hi;let a6D:=hi.length;let core:∀H:Hp,Ld H->aL K H a (ns.map V.int)->fb P w H s₁.heap->(∀b,H b≠none->b=a)->(H a≠none->K.lookup a=none)->codeAny (model P w) callerA (.call (.ref fa) #[[.ref a],[]]) (λr s'=>r= .ok (.ret (.bool true))/\OldK s₁.heap s'.heap/\s'.os=s₁.os/\AllBare s'.gens) s₁:=by
  intro H hO hS bp hA hK;let WX:∀{b:Addr}{o:Obj},s₁.heap.get? b=some o->H b=none->(sJ s₁.heap H).get? b=some o:=λe n=>a89 e n;let vX:∀{b:Addr}{o:Obj}{es:Array DictEntry}{ep:Nat},s₁.heap.get? b=some o->o.data= .dict es ep->H b=none:=λ{b o es ep} e d=>by cases q:H b with |none=>rfl |some u=>let e':b=a:=hA b (by rw[q];simp);subst e';rw[ha]at e;cases e;let d':Data.seq vs.toArray _=Data.dict es ep:=d;cases d'
  let En:∀{b:Addr}{m:bU},s₁.heap.Ns b m->(sJ s₁.heap H).Ns b m:=λ{b m} #[o,es,ep,e,d,r]=>#[o,es,ep,WX e (vX e d),d,r];let UY:K.In (sJ s₁.heap H):=λb o e=>WX (KX b o e) (by cases q:H b with |none=>rfl |some u=>let e':b=a:=hA b (by rw[q];simp);subst e';rw[hK (by rw[q];simp)]at e;cases e);let hM:Mod K mg (sJ s₁.heap H):=#[UY,En UB,#[mb,En hb,hbb],let#[mc,h1,h2]:=a7W;#[mc,En h1,h2]];let e0:tI P w K mg (sJ s₁.heap H) callerA [] s₁ H:=#[Z,hM,λb o e=>a5a e,Nat.le_of_eq (a88 _ _),trivial,λb hb=>absurd (show b∈([]:List Addr)from hb) (by simp),bp,.of_eq hg];erw[xK ((F _ UY (En UB)).run callerA [] s₁ H #[[.ref a],[]] [.ref a] [.ref a] _ _ hr e0 (a8y s₁ (.ref a)) (.cons Z .nil) (iJ H hO hS)) λr s' h=>?_];cases r with |error e=>exact(Jt H e s' h).elim |ok fl=>cases fl with |next=>erw[False.elim h] |brk=>erw[False.elim h] |cont=>erw[False.elim h] |ret u=>let(v,H',os,bare,un,a7J,r',q):=h;let q':v= .bl true:=q;subst q';obtain rfl:u=Value.bool true:=r';erw[Z,OldK.of_keep λb o e=>?_,os,bare];cases q:H b with |none=>erw[un.keep b o e q (by intro z;erw[absurd (show b∈([]:List Addr)from z) (by simp)]) (by simp)] |some u=>
   rcases hO b with z|⟨ob,xs,z⟩
   ·rw[q]at z;cases z
   ·let z2:=un.kU b ob _ z
    let(e1,_):=bp b _ z;let(e2,_):=a7J b _ z2;rw[e]at e1;cases e1;erw[e2]
 cases hk:K.lookup a with |some o=>let e:=KX a o hk;rw[ha]at e;cases e;erw[core (λ_=>none) (λ_=>.inl Z) (.inr #[_,vs.toArray,_,hk,Z,Z,Z,by rw[fg,a6D];erw[hl],by simpa using rv]) (λb u z=>by let z':(none:Option HO)=some u:=z;cases z') (λb z=>absurd rfl z) λz=>absurd rfl z] |none=>
  erw[core (λb=>if b=a then some (.oU {cls:=.type "list",data:=.seq vs.toArray} (.lst (ns.map V.int)))else none) (λb=>?_) (.inl (.inr #[{cls:=.type "list",data:=.seq vs.toArray},aQ Z])) (λb u z=>?_) (λb z=>?_) λ_=>hk]
  ·by_cases hb:b=a
   ·erw[.inr #[_,_,aQ hb]]
   ·erw[.inl (aV hb)]
  ·by_cases hb:b=a
   ·let z':=(aQ hb).symm.trans z
    cases z';subst hb;erw[ha,by rw[bB];erw[hl],vs,_,rv,ha]
   ·let z':=(aV hb).symm.trans z
    cases z'
  ·by_cases hb:b=a
   ·erw[hb]
   ·erw[absurd (aV hb) z]
theorem YA{l:PySem.W.OpenLaw}{n k:Nat}{q:ai}{loose:List Str}{XP:(bU)->Heap->Prop}{YP:World->Heap->Prop}{d:DefRec}{K:Params->ag}{CX:World->lC}{sp:World->Sp}{x:Str} (hn:l.most=some n)(yS:n<=sizeLine)(BB:d.params.defaults=[])(hr:df k callerA) (hY:∀(w:World)(h:Heap),YP w h->(K w.params).In h) (F:∀(w:World)(mg:bU)(fa:Addr)(h:Heap),(K w.params).In h->h.Ns mainGlobals mg->mg d.name=some (.ref fa)->∃fd:FuncData,(∀(s:ah)(u:Value),BindsTo s fd #[[u],[]] [(x,u)])/\∀aD:Heap,(K w.params).In aD->aD.Ns mainGlobals mg->iq l.prog w (K w.params) mg aD (CX w) k fa fd [x] (sp w)) (iJ:∀(w:World)(H:Hp)(a:Addr)(ns:List Int),ns.length<=n->Ld H->aL (K w.params) H a (ns.map V.int)->sp w [.ref a] H (λv _=>v= .bl true) λ_ _ _=>False) (Jt:∀(w:World)(H:Hp)(s:ah)(e:Value)(s':ah),CX w [] H s (λ_ _ _=>False) e s'->False): PySem.W.WalkO q loose XP YP l.row.toRowW d [] (λf vs=>PySem.call f vs):=by erw[_AA.acT hn BB λw s₀ s₁ mg mb fa o pm cd doc a vs ns G Y ho hd fU Bv Jb hints hlen hg=>?_];let KX:=hY w _ Y;let(fd,hb,hF):=F w mg fa _ KX G.T.g Bv;erw[a6J KX G.T.g G.T.b G.T.builtins G.T.nolimit hg Jb hints (gY hlen yS) hr hF hb (λH hO hS=>iJ w H a ns hlen hO hS) λH e s'=>Jt w H s₁ e s']
def inClass(s:Stmt)(j:Nat):Stmt:=match s with | .ClassDef _ _ _ body _ _ _ _ _ _ _=>body.getD j (.Pass #[0,0,0,0]) |_=>.Pass #[0,0,0,0]
def m5(s:Stmt):Arguments:=match s with | .FunctionDef _ a _ _ _ _ _ _ _ _=>a |_=>{posonlyargs:=[],args:=[],vararg:=none,kwonlyargs:=[],kw_defaults:=[],kwarg:=none,defaults:=[]}
def gS(s:Stmt):List Stmt:=match s with | .FunctionDef _ _ b _ _ _ _ _ _ _=>b |_=>[]
def aX(s:Stmt):Scope:=match s with | .FunctionDef _ _ _ _ _ _ sc _ _ _=>sc |_=>{kind:=.function,names:=[],isGenerator:=false,isCoroutine:=false}
abbrev iM:lC:=λ_ _ _ _ _ _=>False
abbrev E0:XK:=λ_ _ _=>False
theorem Eb:Passes iM X E0:=λ_ _ _ _ _ _ _ h=>h.elim
structure me(K:ag)(x qual:Str)(st:Stmt)(f:Addr)(fd:FuncData):Prop where
 ex:∃(oc:Value)(od:Option Addr)(kV doc pm:Value)(an:Option Addr)(aM ct:Value)(gc:Array (Option Value)),fd=PySem.W.fnOf x qual (m5 st) (gS st) (aX st) .none kV doc pm an aM ct/\K.lookup f=some #[oc,od,.func fd,gc]/\PySem.W.codeIn K aM qual=true
 kp:PySem.W.keepIn K (.ref f)=true
section
variable {P:ai}{w:World}{K:ag}{mg:bU}{aD:Heap}
theorem me.ok{x qual:Str}{st:Stmt}{f:Addr}{fd:FuncData}{N ps:List Str}{k:Nat}{sp:Sp}(F:me K x qual st f fd)(S:bu N ps (aX st))(len:∀vs H Q E,sp vs H Q E->vs.length=ps.length) (jk:∀(aM:Value)(A:ak)(outer:List Env)(s:ah)(H:Hp)(vs:List V)(Q:VK)(E:XK),df k (A.deeper (envOfC qual (aX st) s.heap.objs.size f aM))->sp vs H Q E->∃t,ip (jn iM P w K mg aD N qual (aX st) f aM A outer s H E).sf (gS st) t/\t {nx:=λ_ H'=>Q .bM H',rt:=Q} (start N vs) H):iq P w K mg aD iM (k+1) f fd ps sp:=by let(oc,od,kV,doc,pm,an,aM,ct,gc,rfl,lk,fU):=F.ex;erw[Vh lk fU S len λA outer s H vs Q E hr iJ=>?_];let(t,h,q):=jk aM A outer s H vs Q E hr iJ;erw[t,h.sf,q]
theorem me.binds{x qual:Str}{st:Stmt}{f:Addr}{fd:FuncData}{ps:List Str}(F:me K x qual st f fd) (h:∀(kV doc pm:Value)(an:Option Addr)(aM ct:Value)(us:List Value),us.length=ps.length->bindArgs (PySem.W.fnOf x qual (m5 st) (gS st) (aX st) .none kV doc pm an aM ct) #[us,[]]=pure (ps.zip us)):Binds K fd ps []:=by let(oc,od,kV,doc,pm,an,aM,ct,gc,rfl,lk,fU):=F.ex;erw[.all (h kV doc pm an aM ct)]
theorem F2{x qual:Str}{st:Stmt}{f:Addr}{oc:Value}{od an:Option Addr}{gc:Array (Option Value)}{kV doc pm aM ct:Value}(l:K.lookup f=some #[oc,od,.func (PySem.W.fnOf x qual (m5 st) (gS st) (aX st) .none kV doc pm an aM ct),gc]) (c:PySem.W.codeIn K aM qual=true)(k:PySem.W.keepIn K (.ref f)=true):me K x qual st f (PySem.W.fnOf x qual (m5 st) (gS st) (aX st) .none kV doc pm an aM ct):=#[#[oc,od,kV,doc,pm,an,aM,ct,gc,Z,l,c],k]
end
section
variable {X:Cx}
theorem pv(i:Nat){x:Str}{pos:Pos}(hN:autoParam (X.N[i]? =some x) r8_._auto_1)(hv:autoParam (KY X.env.scope x) d8_._auto_1)(hd:autoParam ((x==("__debug__":Str))=false) q8_._auto_1) (fU:autoParam ((x==("__classdict__":Str))=false) q8_._auto_1):PE X (.Name x pos) (Mu i):=a3v hN hv hd fU
abbrev o0{X:Cx}:=@pv X 0
abbrev u8{X:Cx}:=@pv X 1
abbrev w4{X:Cx}:=@pv X 2
abbrev L2{X:Cx}:=@pv X 3
abbrev M2{X:Cx}:=@pv X 4
abbrev P3{X:Cx}:=@pv X 5
abbrev W1{X:Cx}:=@pv X 6
abbrev a1b{X:Cx}:=@pv X 7
abbrev a1j{X:Cx}:=@pv X 9
end
theorem ba{A B:Prop}(h:B):if false=true then A else B:=by rw[aV jt];erw[h]
theorem bA{A B:Prop}(h:A):if true=true then A else B:=by rw[aQ rfl];erw[h]
theorem dW{c A B:Prop}[Decidable c](h1:c->A)(h2:¬c->B):if c then A else B:=by
 by_cases h:c
 ·rw[aQ h]
  erw[h1 h]
 ·rw[aV h]
  erw[h2 h]
def aH(H H':Hp):Prop:=∀b o,H b=some o->H' b=some o
theorem aH.refl(H:Hp):aH H H:=λ_ _ h=>h
theorem aH.trans(a:aH H H1)(b:aH H1 H2):aH H H2:=λc o h=>b c o (a c o h)
theorem aH.free(e:aH H H'){l:Addr}(h:H' l=Option.none):H l=Option.none:=by cases q:H l with |none=>rfl |some o=>rw[e l o q]at h;cases h
theorem aH.seq{K:ag}(e:aH H H')(h:aL K H a xs):aL K H' a xs:=by
 rcases h with(h|⟨o,h⟩)|h
 ·erw[.inl (.inl (e _ _ h))]
 ·erw[.inl (.inr #[o,e _ _ h])]
 ·erw[.inr h]
def Wd (i:Int):Prop:=i.natAbs<2^5000
theorem Wd.bits(h:Wd i):Builtin.Int.intBits i<=2^20:=gY (PyProof.Rows.intBits_le h) aA
theorem Wd.log(h:Wd i):i.natAbs.log2<9000:=by
 by_cases e:i.natAbs=0
 ·rw[e];decide
 ·let h1:i.natAbs.log2<5000:=(Nat.log2_lt e).mpr h
  lia
section
variable {X:Cx}
theorem pO:dN X (binaryOp .FloorDiv) (rI (λ_ j=>0<j/\Wd j) λi j=>.int (i/j)):=AG λi j _ _ _ _ _ hc q=>by let h1:(0:Int)<j:=hc.1;erw[floordiv_int aw (by rw[Yl i aw];erw[q]) (.inl (PyProof.noPylong_of_log2 hc.2.log))]
theorem Sj:dN X (binaryOp .FloorDiv) (rI (λ_ j=>j≠0/\Wd j) λi j=>.int (i.fdiv j)):=AG λ_ _ _ _ _ _ _ hc q=>floordiv_int hc.1 q (.inl (PyProof.noPylong_of_log2 hc.2.log))
end
def xD(K:ag)(H:Hp)(x:V)(T:String):Prop:=match x with | .bM=>T="NoneType" | .bl _=>T="bool" | .int _=>T="int" | .str _=>T="str" | .ref a=>(T="list"/\∃xs,aL K H a xs)\/(T="tuple"/\∃xs,aW K H a xs) |_=>False
def iz(T n:String):Bool:=T==n||(T=="bool"&&n=="int")
def Du:List String:=["NoneType","bool","int","str","list","tuple"]
def A4:List String:=["bool","int","str","list","tuple"]
theorem Ue{K:ag}(h1:T∈Du)(h2:n∈A4):PySem.W.kitOne K (.type T) (.type n)=some (iz T n):=by
 let all:Du.all (λT=>A4.all λn=>PySem.W.kitOne [] (.type T) (.type n)==some (iz T n))=true:=by decide+kernel
 let a1:=iX.mp all T h1;let a2:=iX.mp a1 n h2;let e:PySem.W.kitOne K (.type T) (.type n)=PySem.W.kitOne [] (.type T) (.type n):=by unfold PySem.W.kitOne PySem.W.kitCls PySem.W.subIn;rfl
 rw[e];erw[fC.mp a2]
section
variable {X:Cx}
theorem xD.mem{K:ag}(h:xD K H x T):T∈Du:=by cases x with |bM=>cases(show T="NoneType" from h);decide |bl b=>cases(show T="bool" from h);decide |int b=>cases(show T="int" from h);decide |str b=>cases(show T="str" from h);decide |ref a=>rcases(show(T="list"/\∃xs,aL K H a xs)\/(T="tuple"/\∃xs,aW K H a xs)from h)with⟨e,_⟩|⟨e,_⟩<;>cases e<;>decide |_=>exact(show False from h).elim
theorem Ug{ay:List (Addr×Obj)}{s:ah}{O:St}{H:Hp}{x:V}{u:Value}{T:String}(I:Inv X ay O H s)(rx:RelV x u)(ty:xD X.K H x T): ∃P:Heap->Prop,PySem.W.KitX X.K u (.type T) P/\P s.heap/\u≠ .builtin "__main__.__loader__#opaque":=by cases x with
 |bM=>cases(show T="NoneType" from ty);cases(show u=Value.none from rx);erw[_,PySem.W.kitx_none,True.intro,λz=>nomatch z] |bl b=>cases(show T="bool" from ty);cases(show u=Value.bool b from rx);erw[_,PySem.W.kitx_bool,True.intro,λz=>nomatch z] |int b=>cases(show T="int" from ty);let(t,q):=(show∃t,u=Value.int b t from rx);cases q;erw[_,PySem.W.kitx_int,True.intro,λz=>nomatch z] |str b=>cases(show T="str" from ty);let(t,q):=(show∃t,u=Value.str b t from rx);cases q;erw[_,PySem.W.kitx_str,True.intro,λz=>nomatch z] |ref a=>
  cases(show u=Value.ref a from rx);rcases(show(T="list"/\∃xs,aL X.K H a xs)\/(T="tuple"/\∃xs,aW X.K H a xs)from ty)with⟨e,xs,hx⟩|⟨e,xs,hx⟩
  ·cases e
   let(its,r,(o,n,h1,h2,_),_):=I.list hx;erw[_,PySem.W.kitx_list,#[o,h1,h2],λz=>nomatch z]
  ·cases e
   let(its,r,(o,h1,h2,_),_):=I.tuple hx;erw[_,PySem.W.kitx_tuple,#[o,h1,h2],λz=>nomatch z] |_=>exact(show False from ty).elim
inductive afh(K:ag)(xs:List V)(H:Hp)(Q:VK):Prop |mk x T n b(_:xs=[x,.ty n])(_:xD K H x T)(_:n∈A4)(_:iz T n=b)(_:Q (.bl b) H)
def HC(K:ag):List V->Hp->VK->Prop:=λxs H Q=>afh K xs H Q
theorem acu:fW X (.builtin "isinstance") (HC X.K):=by intro ay s O H xs us Q I r h;let(x,T,n,b,rfl,ty,hn,rfl,q):=h;let(u,c,rfl,rx,rc):=vals2 r;cases(show c=Value.type n from rc);let(P,ahx,p,hx):=Ug I rx ty;erw[PySem.W.kia_one ahx I.fG p (Ue ty.mem hn) hx λtk=>#[.bl (iz T n),H,I.tok _,Z,q]]
inductive afg(K:ag)(xs:List V)(H:Hp)(Q:VK):Prop |mk (x:V)(T:String)(p:Addr)(ns:List String)(b:Bool)(_:xs=[x,.ref p])(_:H p=some (.tup (ns.map V.ty)))(_:xD K H x T)(_:(∀n∈ns,n∈A4))(_:ns.any (iz T)=b)(_:Q (.bl b) H)
def HB(K:ag):List V->Hp->VK->Prop:=λxs H Q=>afg K xs H Q
theorem Ud{K:ag}{T:String}(h1:T∈Du):∀{ns:List String},(∀n∈ns,n∈A4)->PySem.W.kitAny K (.type T) (ns.map Value.type)=some (ns.any (iz T)) |[],_=>rfl |n::r,h=>by let e:=Ue (K:=K) h1 (h n (LP ..));let ih:=Ud (K:=K) h1 (ns:=r) λm hm=>h m (zP _ hm);rw[CY,PySem.W.kitAny,e,Gb];cases iz T n with |true=>rfl |false=>simpa using ih
theorem Md:∀{ns:List String}{us:List Value},Vals (ns.map V.ty) us->us=ns.map Value.type |[],_,.nil=>rfl |n::r,_,.cons q t=>by cases(show _=Value.type n from q);rw[Md t];rfl
theorem acs:fW X (.builtin "isinstance") (HB X.K):=by intro ay s O H xs us Q I r h;let(x,T,p,ns,b,rfl,hp,ty,hn,rfl,q):=h;let(u,c,rfl,rx,rc):=vals2 r;cases(show c=Value.ref p from rc);let(P,ahx,pp,hx):=Ug I rx ty;let(_,its,rv,(cls,dd,dt,sl),h1,h2,n,h3):=(show gj X.prog X.w H s.heap p (.tup (ns.map V.ty))from I.bp p _ hp);simp only at h2 h3;subst h2 h3;let e:=Md rv;subst e;erw[PySem.W.kia_tup ahx I.fG pp h1 (Ud ty.mem hn) hx λtk=>#[.bl _,H,I.tok _,Z,q]]
end
mutual
def RD(K:ag)(H:Hp):V->aj->Prop |x,.none=>x= .bM |x,.bool b=>x= .bl b |x,.int i=>x= .int i |x,.str y=>x= .str y |x,.list ds=>∃a xs,x= .ref a/\aL K H a xs/\aI K H xs ds |x,.tuple ds=>∃a xs,x= .ref a/\aW K H a xs/\aI K H xs ds |_,.dict _=>False
def aI (K:ag)(H:Hp):List V->List aj->Prop |xs,[]=>xs=[] |xs,d::ds=>∃y ys,xs=y::ys/\RD K H y d/\aI K H ys ds
end
section
variable {X:Cx}
mutual
theorem RD.reads{ay:List (Addr×Obj)}{s:ah}{O:St}{H:Hp}(I:Inv X ay O H s):∀{x:V}{u:Value}(d:aj),RelV x u->RD X.K H x d->∃as,Reads s.heap u d as |x,u,.none,r,h=>by cases(show x= .bM from by simpa[RD]using h);cases(show u=Value.none from r);erw[_,.none] |x,u,.bool b,r,h=>by cases(show x= .bl b from by simpa[RD]using h);cases(show u=Value.bool b from r);erw[_,.bool b] |x,u,.int i,r,h=>by cases(show x= .int i from by simpa[RD]using h);let(t,q):=(show∃t,u=Value.int i t from r);cases q;erw[_,.int i t] |x,u,.str y,r,h=>by cases(show x= .str y from by simpa[RD]using h);let(t,q):=(show∃t,u=Value.str y t from r);cases q;erw[_,.str y t] |x,u,.list ds,r,h=>by rw[RD]at h;let(a,xs,rfl,hx,hd):=h;cases(show u=Value.ref a from r);let(its,rv,(o,n,h1,h2,h3,h4),_):=I.list hx;let(as,q):=aI.reads I ds rv hd;erw[_,.list h1 h2 h4 (by simpa using q)] |x,u,.tuple ds,r,h=>by rw[RD]at h;let(a,xs,rfl,hx,hd):=h;cases(show u=Value.ref a from r);let(its,rv,(o,h1,h2,n,h4),_):=I.tuple hx;let(as,q):=aI.reads I ds rv hd;erw[_,.tuple h1 h2 h4 (by simpa using q)] |x,u,.dict _,r,h=>by simp[RD]at h
theorem aI.reads {ay:List (Addr×Obj)}{s:ah}{O:St}{H:Hp}(I:Inv X ay O H s):∀{xs:List V}{us:List Value}(ds:List aj),Vals xs us->aI X.K H xs ds->∃as,ReadsAll s.heap us ds as |xs,us,[],r,h=>by cases(show xs=[]from by simpa[aI]using h);cases r;erw[_,.nil] |xs,us,d::ds,r,h=>by rw[aI]at h;let(y,ys,rfl,h1,h2):=h;cases r with |cons ra rb=>let(as,q):=RD.reads I d ra h1;let(bs,q'):=aI.reads I ds rb h2;erw[_,.cons q q']
end
inductive afo(K:ag)(x:V)(y:V)(H:Hp)(Q:VK):Prop |mk d e(_:RD K H x d)(_:RD K H y e)(_:SeqAt.shaped d=true)(_:SeqAt.shaped e=true)(_:Q (.bl (PyData.eqv d e)) H)
def HD(K:ag):R2:=λx y H Q=>afo K x y H Q
inductive afb(K:ag)(x:V)(y:V)(H:Hp)(Q:VK):Prop |mk d e(_:RD K H x d)(_:RD K H y e)(_:SeqAt.shaped d=true)(_:SeqAt.shaped e=true)(_:Q (.bl (!PyData.eqv d e)) H)
def Hy(K:ag):R2:=λx y H Q=>afb K x y H Q
theorem a44(hu:X.A.units+64<cLine):dN X (compareOp .Eq) (HD X.K):=by intro ay s O H x y v u Q I rx ry h;let(d,e,hd,he,sd,se,q):=h;let(as,ra):=RD.reads I d rx hd;let(bs,rb):=RD.reads I e ry he;erw[eq_dataH ra rb sd se hu #[.bl _,H,I,Z,q]]
theorem a3Y(hu:X.A.units+64<cLine):dN X (compareOp .NotEq) (Hy X.K):=by intro ay s O H x y v u Q I rx ry h;let(d,e,hd,he,sd,se,q):=h;let(as,ra):=RD.reads I d rx hd;let(bs,rb):=RD.reads I e ry he;erw[ne_dataH ra rb sd se hu #[.bl _,H,I,Z,q]]
end
theorem aH.new{t:Addr}(ht:H t=none):aH H (upd H t o):=λb o' e=>by rw[aU (dH e ht)];erw[e]
structure Nw(H H':Hp)(p:Addr)(o:HO):Prop where
 no:H p=none
 at':H' p=some o
 same:aH H H'
 eq:H'=upd H p o
theorem Nw.of(h:H p=none):Nw H (upd H p o) p o:=#[h,bP,.new h,Z]
def Ft:List Str:=["len","abs","min","max","range","isinstance","int","bool","str","tuple","list","any","all","sum","zip","enumerate","sorted","reversed","ord","chr","divmod","repr","dict","set"]
def tK (mg:bU):Prop:=∀x∈Ft,mg x=none
theorem tK.at{mg:bU}(B:tK mg)(x:Str)(h:autoParam (x∈Ft) q8_._auto_1):mg x=none:=B x h
theorem fo{α:Type}{C:List α->Prop}(h:∀a,C [a]):∀us:List α,us.length=1->C us |[_],_=>h _
theorem dY{α:Type}{C:List α->Prop}(h:∀a b,C [a,b]):∀us:List α,us.length=2->C us |[_,_],_=>h _ _
theorem kG{α:Type}{C:List α->Prop}(h:∀a b c,C [a,b,c]):∀us:List α,us.length=3->C us |[_,_,_],_=>h _ _ _
theorem uT{α:Type}{C:List α->Prop}(h:∀a b c d,C [a,b,c,d]):∀us:List α,us.length=4->C us |[_,_,_,_],_=>h _ _ _ _
theorem Cu{α:Type}{C:List α->Prop}(h:∀a b c d e,C [a,b,c,d,e]):∀us:List α,us.length=5->C us |[_,_,_,_,_],_=>h _ _ _ _ _
def Vd(N P:List Str)(sc:Scope):Bool:=decide (sc.kind= .function)&& !sc.isCoroutine&& !sc.isGenerator&&decide N.Nodup&&decide (N.take P.length=P)&&P.all (λx=>decide (sc.names.lookup x=some .local\/sc.names.lookup x=some .cell))&&sc.names.all λy=>decide (y.2≠ .free)
theorem bD{P:List Str}(h:Vd N P sc=true):bu N P sc:=by unfold Vd at h;simp only[fY,FW,M1,iX]at h;let((((((h1,h2),h3),h4),h5),h6),h7):=h;erw[h1,h2,h3,h4,h5,h6,h7]
structure FA(K:ag)(mg:bU)(x:Str)(st:Stmt):Prop where ex:∃f fd,mg x=some (.ref f)/\me K x x st f fd
def bE(P:ai)(w:World)(K:ag)(mg:bU)(aD:Heap)(x:Str)(k:Nat)(sp:Sp):Prop:=∃f fd ps,iq P w K mg aD iM k f fd ps sp/\mg x=some (.ref f)/\PySem.W.keepIn K (.ref f)=true/\Binds K fd ps []
section
variable {P:ai}{w:World}{K:ag}{mg:bU}{aD:Heap}
theorem a9L{h:Heap}{x:Str}{st:Stmt}{f:Addr}{oc:Value}{od an:Option Addr}{gc:Array (Option Value)}{kV doc pm aM ct:Value}(X:K.In h)(G:h.Ns mainGlobals mg) (a:PySem.W.nsIn K mainGlobals x=some (some (.ref f))) (l:K.lookup f=some #[oc,od,.func (PySem.W.fnOf x x (m5 st) (gS st) (aX st) .none kV doc pm an aM ct),gc]) (c:PySem.W.codeIn K aM x=true)(k:PySem.W.keepIn K (.ref f)=true):FA K mg x st:=#[f,_,xM X G a,F2 l c k]
theorem FA.has{x:Str}{st:Stmt}{N ps:List Str}{k:Nat}{sp:Sp}(F:FA K mg x st)(S:bu N ps (aX st))(len:∀vs H Q E,sp vs H Q E->vs.length=ps.length) (hb:∀(kV doc pm:Value)(an:Option Addr)(aM ct:Value)(us:List Value),us.length=ps.length->bindArgs (PySem.W.fnOf x x (m5 st) (gS st) (aX st) .none kV doc pm an aM ct) #[us,[]]=pure (ps.zip us)) (jk:∀(f:Addr)(aM:Value)(A:ak)(outer:List Env)(s:ah)(H:Hp)(vs:List V)(Q:VK)(E:XK),df k (A.deeper (envOfC x (aX st) s.heap.objs.size f aM))->sp vs H Q E->∃t,ip (jn iM P w K mg aD N x (aX st) f aM A outer s H E).sf (gS st) t/\t {nx:=λ_ H'=>Q .bM H',rt:=Q} (start N vs) H):bE P w K mg aD x (k+1) sp:=by let(f,fd,hm,F):=F.ex;erw[f,fd,ps,F.ok S len λaM A outer s H vs Q E=>jk f aM A outer s H vs Q E,hm,F.kp,F.binds hb]
end
section
variable {X:Cx}{k:Nat}{x:Str}{p pos:Pos}{e:Expr}{es:List Expr}{t:TA}{sp:Sp}
def Mz(sp:Sp)(t:TA):TE:=λO H Q=>t O H λvs H1=>sp vs H1 Q E0
theorem rS(F:bE X.prog X.w X.K X.mg X.aD x k sp)(hr:df k X.A)(hg:Gl X x)(ha:PA X (e::es) t)(jj:autoParam ((x==("__debug__":Str))=false) q8_._auto_1) (he:autoParam (starEach (e::es) X.env=(false,eval e X.env)::starEach es X.env) r8_._auto_1)(gy:autoParam ((backTo pos (starEach es X.env)).any (·.1)=false) r8_._auto_1): PE X (.Call (.Name x p) (e::es) [] pos) (Mz sp t):=by
 let(f,fd,ps,F,hm,hk,hb):=F;let h:=a3G (pos:=pos) (p:=p) F hr hg hm hk hb .nil Eb ha jj he gy;intro ay s O H Q I hq;erw[h ay s O H Q I ?_];let e1:(λ(vs:List V) H1=>sp (vs++[]) H1 Q E0)=λvs H1=>sp vs H1 Q E0:=by funext vs H1;rw[lJ]
 show t O H λvs H1=>sp (vs++[]) H1 Q E0;rw[e1];erw[hq]
theorem pf(F:bE X.prog X.w X.K X.mg X.aD x j sp)(hr:df k X.A)(ha:PA X (e::es) t)(hjk:autoParam (j<=k) q8_._auto_1)(hg:autoParam (Gl X x) r8_._auto_1)(jj:autoParam ((x==("__debug__":Str))=false) q8_._auto_1)(he:autoParam (starEach (e::es) X.env=(false,eval e X.env)::starEach es X.env) r8_._auto_1)(gy:autoParam ((backTo pos (starEach es X.env)).any (·.1)=false) r8_._auto_1):PE X (.Call (.Name x p) (e::es) [] pos) (Mz sp t):=rS F (hr.mono hjk) hg ha jj he gy
theorem bR:dN X (binaryOp .Mult) (rI (λi j=>IntMulOk i j) λi j=>.int (i*j)):=AG λ_ _ _ _ _ _ _ hc q=>mul_int q hc
theorem a43:dN X (compareOp .Eq) (lQ λi j=>.bl (decide (i=j))):=yn λ_ _ _ _ _ _ _ q=>eq_int (by rw[Bool.beq_eq_decide_eq];erw[q])
theorem a3X:dN X (compareOp .NotEq) (lQ λi j=>.bl (!decide (i=j))):=yn λ_ _ _ _ _ _ _ q=>ne_int (by rw[bne,Bool.beq_eq_decide_eq];erw[q])
theorem a45(hu:X.A.units+64<cLine):dN X (compareOp .Eq) (λx y H Q=>lQ (λi j=>.bl (decide (i=j))) x y H Q\/HD X.K x y H Q):=a43.or (a44 hu)
theorem a3Z(hu:X.A.units+64<cLine):dN X (compareOp .NotEq) (λx y H Q=>lQ (λi j=>.bl (!decide (i=j))) x y H Q\/Hy X.K x y H Q):=a3X.or (a3Y hu)
mutual
theorem eqv_refl:∀d:aj,d.canLay0=true->PyData.eqv d d=true | .none,_=>by simp[PyData.eqv] | .bool b,_=>by simp[PyData.eqv] | .int i,_=>by simp[PyData.eqv] | .str x,_=>by simp[PyData.eqv] | .list ds,h=>by simp only[PyData.eqv];erw[eqvAll_refl ds (by simpa[PyData.canLay0]using h)] | .tuple ds,h=>by simp only[PyData.eqv];erw[eqvAll_refl ds (by simpa[PyData.canLay0]using h)] | .dict _,h=>by simp[PyData.canLay0]at h
theorem eqvAll_refl:∀ds:List aj,PyData.canLayAll0 ds=true->PyData.eqvAll ds ds=true |[],_=>by simp[PyData.eqvAll] |d::ds,h=>by simp only[PyData.canLayAll0,fY]at h;simp only[PyData.eqvAll,fY];erw[eqv_refl d h.1,eqvAll_refl ds h.2]
end
theorem rJ{K:ag}(b:Bool):RD K H (.bl b) (.bool b):=by simp[RD]
theorem dF{K:ag}(i:Int):RD K H (.int i) (.int i):=by simp[RD]
theorem cL{K:ag}(x:Str):RD K H (.str x) (.str x):=by simp[RD]
theorem Au{K:ag}:RD K H .bM .none:=by simp[RD]
theorem fJ{K:ag}{H:Hp}{p:Addr}{xs:List V}{ds:List aj}(h:aW K H p xs)(r:aI K H xs ds):RD K H (.ref p) (.tuple ds):=by rw[RD];erw[p,xs,Z,h,r]
theorem rH{K:ag}{H:Hp}{p:Addr}{xs:List V}{ds:List aj}(h:aL K H p xs)(r:aI K H xs ds):RD K H (.ref p) (.list ds):=by rw[RD];erw[p,xs,Z,h,r]
theorem cH{K:ag}:aI K H [] []:=by simp[aI]
theorem bX{K:ag}{H:Hp}{x:V}{xs:List V}{d:aj}{ds:List aj}(h:RD K H x d)(r:aI K H xs ds):aI K H (x::xs) (d::ds):=by rw[aI];erw[x,xs,Z,h,r]
inductive adH(t:TS)(D:Ends)(O:St)(H:Hp):Prop |mk (Lg:St->Hp->Prop)(_:t {D with nx:=Lg} O H)(_:∀σ' H',Lg σ' H'->D.nx σ' H')
def Zz(t:TS):TS:=λD O H=>adH t D O H
theorem je{st:Stmt}{t:TS}(h:PS X st t):PS X st (Zz t):=by intro ay s O H D I hq;let(Lg,q,m):=hq;erw[bc (h ay s O H _ I q) λf s1 q1=>?_];cases f with |next=>let(σ',H',I',q'):=q1;erw[σ',H',I',m _ _ q'] |brk=>erw[q1] |cont=>erw[q1] |ret u=>erw[q1]
end
def uW(K:ag)(xs:List Str):Prop:=∀x∈xs,PySem.W.nsIn K mainGlobals x=some none
theorem uW.nil{K:ag}:uW K []:=λ_ h=>nomatch h
theorem uW.cons{K:ag}(a:PySem.W.nsIn K mainGlobals x=some none)(r:uW K xs):uW K (x::xs):=λy hy=>by
 rcases dg.mp hy with e|e
 ·rw[e];erw[a]
 ·erw[r y e]
theorem acH{K:ag}{mg:bU}(X:K.In h)(G:h.Ns mainGlobals mg)(a:uW K Ft):tK mg:=λx hx=>PySem.W.mg_none_of X G (a x hx)
theorem a6I{l:PySem.W.OpenLaw}{q:ai}{loose:List Str}{XP:(bU)->Heap->Prop}{YP:World->Heap->Prop}{d:DefRec}{K:Params->ag}{k:Nat}{x:Str}{st:Stmt}(hn:l.most=some 63)(BB:d.params.defaults=[]) (hr:df k callerA)(hY:∀(w:World)(h:Heap),YP w h->(K w.params).In h)(All:ag->(bU)->Prop) (F:∀(w:World)(mg:bU)(h:Heap),(K w.params).In h->h.Ns mainGlobals mg->All (K w.params) mg) (L:∀(K:ag)(mg:bU),All K mg->FA K mg d.name st) (hb:∀(kV doc pm:Value)(an:Option Addr)(aM ct u:Value),bindArgs (PySem.W.fnOf d.name d.name (m5 st) (gS st) (aX st) .none kV doc pm an aM ct) #[[u],[]]=pure [(x,u)]) (ok:∀(P:ai)(w:World)(K:ag)(mg:bU)(aD:Heap)(f:Addr)(fd:FuncData),All K mg->me K d.name d.name st f fd->iq P w K mg aD iM k f fd [x] (λvs H Q _=>∃(a:Addr)(ns:List Int),vs=[.ref a]/\aL K H a (ns.map V.int)/\ns.length<=63/\∀H',Q (.bl true) H')): PySem.W.WalkO q loose XP YP l.row.toRowW d [] (λf vs=>PySem.call f vs):=_L.YA (n:=63) (k:=k) (x:=x) (CX:=λ_=>iM) (sp:=λw=>λvs H Q _=>∃(a:Addr)(ns:List Int),vs=[.ref a]/\aL (K w.params) H a (ns.map V.int)/\ns.length<=63/\∀H',Q (.bl true) H') hn aA BB hr hY (λw mg fa h KX G Bv=>by
 let A:=F w mg h KX G;let(f,fd,hm,Fn):=(L _ _ A).ex;let e:fa=f:=by rw[Bv]at hm;injection (eQ hm)
 subst e;erw[fd,λs u=>?_,λaD _ _=>ok l.prog w _ mg aD fa fd A Fn];let(oc,od,kV,doc,pm,an,aM,ct,gc,rfl,lk,fU):=Fn.ex;erw[.of_eq (hb kV doc pm an aM ct u)]) (λ_ _ a ns hl _ hS=>#[a,ns,Z,hS,hl,λ_=>rfl]) λ_ _ _ _ _ z=>z
theorem Kt{env:Env}:∀(ns:List (Str×NameKind))(cs:List (Str×Addr)),(∀x∈ns,x.2= .free->∃c,env.cells.lookup x.1=some c)->(∀x c,cs.lookup x=some c->env.cells.lookup x=some c)->∃cl,(forIn ns cs (λx r=>if(x.2==NameKind.free)=true then do let a<-cellOf env x.1;pure (ForInStep.yield ((x.1,a)::r))else pure (ForInStep.yield r)):Sem (List (Str×Addr)))=pure cl/\(∀x c,cl.lookup x=some c->env.cells.lookup x=some c)/\(∀x c,cs.lookup x=some c->∃c',cl.lookup x=some c')/\∀x∈ns,x.2= .free->∃c,cl.lookup x.1=some c
 |[],cs,_,h2=>#[cs,Z,h2,λx c e=>#[c,e],λ_ h=>nomatch h] |(n,k)::r,cs,h1,h2=>by
  by_cases hk:k= .free
  ·subst hk
   let(c,hc):=h1 (n,.free) (.head _) rfl;let e1:cellOf env n=pure c:=by unfold cellOf;rw[show env.cells.lookup n=some c from hc]
   let(cl,a1,a2,a3,a4):=Kt r ((n,c)::cs) (λx hx=>h1 x (.tail _ hx)) (λx d e=>by rw[lH]at e;cases z:x==n with |true=>rw[z]at e;cases e;rw[fC.mp z];erw[hc] |false=>rw[z]at e;erw[h2 x d e]);erw[cl,?_,a2,λx d e=>?_,λx hx hf=>?_]
   ·rw[LV]
    show(do let r'<-(if(NameKind.free==NameKind.free)=true then do let a<-cellOf env n;pure (ForInStep.yield ((n,a)::cs))else pure (ForInStep.yield cs));_)=_;rw[aQ (by rfl),e1];erw[a1]
   ·by_cases z:x==n
    ·erw[a3 x c (by rw[lH,z])]
    ·erw[a3 x d (by rw[lH,xS.mpr z];erw[e])]
   ·rcases dg.mp hx with rfl|hx
    ·erw[a3 n c (by rw[lH,FY])]
    ·erw[a4 x hx hf]
  ·let(cl,a1,a2,a3,a4):=Kt r cs (λx hx=>h1 x (.tail _ hx)) h2
   erw[cl,?_,a2,a3,λx hx hf=>?_]
   ·rw[LV]
    show(do let r'<-(if(k==NameKind.free)=true then do let a<-cellOf env n;pure (ForInStep.yield ((n,a)::cs))else pure (ForInStep.yield cs));_)=_;rw[aV (by simpa using hk)];erw[a1]
   ·rcases dg.mp hx with rfl|hx
    ·erw[absurd hf hk]
    ·erw[a4 x hx hf]
theorem Ku(h1:∀x∈scope.names,x.2= .free->∃c,env.cells.lookup x.1=some c): ∃cl,closureFor scope env=pure cl/\(∀x c,cl.lookup x=some c->env.cells.lookup x=some c)/\∀x∈scope.names,x.2= .free->∃c,cl.lookup x.1=some c:=by
 let(cl,a1,a2,_,a4):=Kt (env:=env) scope.names [] h1 (λx c e=>nomatch e);erw[cl,?_,a2,a4];unfold closureFor;show(forIn scope.names ([]:List (Str×Addr)) (λ(x:Str×NameKind) r=>match x with|(name,kind)=>if(kind==NameKind.free)=true then do let a<-cellOf env name;pure (ForInStep.yield ((name,a)::r))else pure (ForInStep.yield r))>>=λr=>(pure r:Sem (List (Str×Addr))))=pure cl;let ef:(λ(x:Str×NameKind)(r:List (Str×Addr))=>match x with|(name,kind)=>(if(kind==NameKind.free)=true then do let a<-cellOf env name;pure (ForInStep.yield ((name,a)::r))else pure (ForInStep.yield r):Sem (ForInStep (List (Str×Addr))))) =λx r=>if(x.2==NameKind.free)=true then do let a<-cellOf env x.1;pure (ForInStep.yield ((x.1,a)::r))else pure (ForInStep.yield r):=by funext x r;let(n,k):=x;rfl
 rw[ef,a1];rfl
theorem TM{env:Env}(hk:env.scope.kind= .function){x:Str}(hx:env.kindOf x=some .cell):∀{names:List (Str×NameKind)},names.lookup x=some .free->(names.map λ(n,k)=>if(k==NameKind.free&&env.scope.kind== .function&&env.kindOf n==some .cell)then(n,NameKind.cell)else(n,k)).lookup x=some .cell |[],h=>nomatch h |(n,k)::r,h=>by let ih:=@TM env hk x hx r;show List.lookup x ((if(k==NameKind.free&&env.scope.kind== .function&&env.kindOf n==some .cell)=true then(n,NameKind.cell)else(n,k))::_)=_;cases z:x==n with |true=>simp only[lH,z]at h;cases h;let e:=fC.mp z;subst e;rw[aQ (by rw[hk,hx];rfl),lH,z] |false=>simp only[lH,z]at h;split<;>(simp only[lH,z];erw[ih h])
def dv(X:Cx)(N:List Str)(scope:Scope)(cl:List (Str×Addr))(s:ah)(H:Hp)(fp:List Addr)(ay:List (Addr×Obj)):Cx:={prog:=X.prog,w:=X.w,K:=X.K,mg:=X.mg,aD:=X.aD,A:=X.A,N:=N,s₀:=s,H₀:=H,env:=compEnvC scope cl s.heap.objs.size X.env,outer:=X.stack,stack:=X.stack,ex:=fp,fn:=λ_=>false,calm:=X.calm,pn:=X.pn++ay,xe:=λ_ _=>False}
def stC(js:List (Option Nat))(O:St):St:=js.map λ|none=>none|some j=>(O[j]?).join
def Ck(X:Cx)(N:List Str)(js:List (Option Nat))(scope:Scope):Bool:=N.length==js.length&&(N.zip js).all λp=>match p.2 with|none=>true|some j=>X.N[j]? ==some p.1&&scope.names.lookup p.1==some NameKind.free&&X.env.kindOf p.1==some NameKind.cell
def uQ(X:Cx)(scope:Scope):Bool:=scope.kind== .function&&X.env.scope.kind== .function&&scope.names.all λx=>match x.2 with | .free=>X.env.kindOf x.1==some NameKind.cell | .cell=>false | .local=>scope.names.lookup x.1==some NameKind.local |_=>true
section
variable {X:Cx}{ay:List (Addr×Obj)}{O:St}{H:Hp}{s:ah}
theorem lookup_mem{α β:Type}[BEq α][LawfulBEq α]:∀{l:List (α×β)}{x:α}{b:β},l.lookup x=some b->(x,b)∈l |[],_,_,h=>nomatch h |(n,k)::r,x,b,h=>by rw[lH]at h;cases z:x==n with |true=>rw[z]at h;cases h;rw[fC.mp z];erw[.head _] |false=>rw[z]at h;erw[.tail _ (lookup_mem h)]
theorem RC{env:Env}{x:Str}{k:NameKind}:∀{names:List (Str×NameKind)},(names.map λ(n,k)=>if(k==NameKind.free&&env.scope.kind== .function&&env.kindOf n==some .cell)then(n,NameKind.cell)else(n,k)).lookup x=some k->names.lookup x=some k\/(k= .cell/\names.lookup x=some .free) |[],h=>nomatch h |(n,k')::r,h=>by let ih:=@RC env x k r;let h':List.lookup x ((if(k'==NameKind.free&&env.scope.kind== .function&&env.kindOf n==some .cell)=true then(n,NameKind.cell)else(n,k'))::(r.map λ(n,k)=>if(k==NameKind.free&&env.scope.kind== .function&&env.kindOf n==some .cell)then(n,NameKind.cell)else(n,k)))=some k:=h;cases z:x==n with
 |true=>
  split at h'
  ·rename_i hc
   simp only[lH,z]at h';cases h';rw[fY,fY]at hc;let e:k'= .free:=fC.mp hc.1.1;subst e;erw[.inr #[Z,by rw[lH,z]]]
  ·simp only[lH,z]at h'
   cases h';erw[.inl (by rw[lH,z])] |false=>
  rw[lH,z];erw[ih ?_];split at h'
  ·simpa only[lH,z]using h'
  ·simpa only[lH,z]using h'
theorem Inv.comp{N:List Str}{js:List (Option Nat)}{cl:List (Str×Addr)}{fp:List Addr}{tk:Nat}(I:Inv X ay O H s)(hN:Ck X N js scope=true)(hS:uQ X scope=true) (c1:∀x c,cl.lookup x=some c->X.env.cells.lookup x=some c)(c2:∀x∈scope.names,x.2= .free->∃c,cl.lookup x.1=some c)(hf:∀b∈fp,kI X ay H b)(hfl:∀b∈fp,b<s.heap.objs.size) (hn:h'.Ns s.heap.objs.size λ_=>none)(hk:∀b o,s.heap.get? b=some o->h'.get? b=some o):Inv (dv X N scope cl s H fp ay) [] (stC js O) H {s with heap:=h',toks:=tk}:=by
 unfold uQ at hS;rw[fY,fY]at hS;let((s1,s2),s3):=hS;let lV:scope.kind= .function:=fC.mp s1;let a80:X.env.scope.kind= .function:=fC.mp s2;unfold Ck at hN;rw[fY]at hN;let(n1,n2):=hN;let hlen:N.length=js.length:=fC.mp n1;let Ut:∀x k,(relabel scope X.env).names.lookup x=some k->scope.names.lookup x=some k\/(k= .cell/\scope.names.lookup x=some .free):=λx k e=>RC e;let a5u:∀x,scope.names.lookup x≠some .cell:=λx e=>by have:=iX.mp s3 _ (lookup_mem e);erw[jt this]
 let Vc:∀b∈(dv X N scope cl s H fp ay).fs,b∈X.env.locals::X.fs:=I.Gw;let ok:(dv X N scope cl s H fp ay).Ok:={
  mod:=I.ok.mod
  kind:=lV
  glob:=I.ok.glob
  blt:=I.ok.blt
  above:=aY _
  inj:=λx y c e1 e2=>I.ok.inj x y c (c1 x c e1) (c1 y c e2)
  has:=λx hx=>by
   let fr:scope.names.lookup x=some .free->∃c,cl.lookup x=some c:=λe=>c2 (x,.free) (lookup_mem e) rfl;rcases hx with e|e
   ·rcases Ut x _ e with e|⟨_,e⟩
    ·erw[absurd e (a5u x)]
    ·erw[fr e]
   ·rcases Ut x _ e with e|⟨z,_⟩
    ·erw[fr e]
    ·cases z
  uR:=λx c e=>nomatch e
  hd:=I.ok.hd
  frames:=I.ok.frames
  vz:=.inl rfl
  BR:=λb hb=>#[eR (hfl b hb),λx c e=>(hf b hb).2.2.2.2.1 x c (c1 x c e)]
  bs:=I.bs
  mY:=gY I.ok.mY I.sz
  uu:=λb o e hb=>by
   rcases(hf b hb).2.2.2.1 with z|z
   ·erw[I.ok.uu b o e z]
   ·erw[absurd (gK (cC e) (gY I.ok.mY z)) (xO _)]
  qA:=λb hb z=>by
   let(_,q1,q2,_):=hf b hb;rcases dg.mp (Vc b z)with e|e
   ·erw[q1 e]
   ·erw[q2 e]
  kD:=I.stack
  oW:=I.DH};erw[ok,Z,I.bare,Un.kept hk,#[_,hn,λi x v e1 e2 e3=>?_],λx c e=>?_,I.bp.fresh (aY _),λx c e=>I.kW x c (c1 x c e),λp hp=>?_,I.bp.kept hk,?_]
 ·let zf:(js.map λ|none=>none|some j=>(O[j]?).join)[i]? =some (some v):=e2
  rw[bV]at zf;cases hj:js[i]? with |none=>rw[hj]at zf;cases zf |some o=>rw[hj]at zf;cases o with |none=>cases zf |some j=>
   let hz:(N.zip js)[i]? =some (x,some j):=by rw[LR];erw[e1,hj]
   let Wz:=iX.mp n2 _ (gZ hz);simp only[fY,fC]at Wz;let((h1,h2),h3):=Wz;let Fb:(O[j]?).join=some v:=by simpa using zf
   let hσ:O[j]? =some (some v):=by cases q:O[j]? with |none=>rw[q]at Fb;cases Fb |some o=>
    rw[q]at Fb;have:o=some v:=by simpa using Fb
    rw[this]
   let(m,hm,hl):=I.loc;let(u,r,l):=hl j x v h1 hσ (.inr (.inl h3));erw[u,r,?_];rcases l with⟨k,_⟩|⟨_,c,hc,qm⟩
   ·rw[h3]at k;cases k
   ·let(c',kC):=c2 (x,.free) (lookup_mem h2) rfl
    have:=c1 x c' kC;rw[hc]at this;cases this;erw[.inr #[.inl (TM a80 h3 h2),c,kC,?_]];let(ob,ho,hd):=qm;erw[ob,hk _ _ ho,hd]
 ·let(v,ob,ho,hd):=I.cell x c (c1 x c e)
  erw[v,ob,hk _ _ ho,hd]
 ·let yQ:p∈X.pn++ay:=by simpa[dv]using hp
  let(a1,a2,a3,a4,a5):=I.pin p yQ;erw[hk _ _ a1,a2,eR (cC a1),λz=>?_,a5];rcases dg.mp (Vc p.1 z)with e|e
  ·erw[a3 e]
  ·erw[a4 e]
 ·show(js.map _).length=N.length
  rw[bB,hlen]
end
theorem Ww{prog:ai}{w:World}{A:ak}{R:Result->ah->Prop}{s:ah}{elt target iter:Expr}{ifs:List Expr}{scope:Scope}{pos:Pos}{it acc:Value}{env:Env}(I:Nat->ah->Prop) (turn:∀n s,I n s->wpAny (model prog w) A (pyNext it) (λr s₁=>match r with |none=>R (.ok .next) s₁ |some v=>wpAny (model prog w) A (letOwnedTupleGo target it v) (λ_ s₁=>wpAny (model prog w) A (assign target env v) (λ_ s₂=>wpAny (model prog w) A (forIn ifs true λc r=>if r=true then do let ok<-isTrue c env (eval c env);pure (ForInStep.yield ok)else pure (ForInStep.yield r)) (λok s₃=>if ok=true then wpAny (model prog w) A (eval elt env) (λx s₄=>wpAny (model prog w) A (call (.builtin "list.append") [acc,x]) (λ_ s₅=>∃m,m<n/\I m s₅) (λ_ _=>False) s₄) (λ_ _=>False) s₃ else∃m,m<n/\I m s₃) (λ_ _=>False) s₂) (λ_ _=>False) s₁) (λ_ _=>False) s₁) (λ_ _=>False) s) (n:Nat)(h:I n s):codeAny (model prog w) A (.compLoop (.ListComp elt [#[target,iter,ifs,0]] scope pos) 0 it acc env) R s:=by erw[codeAny_loop Z I (λn s hI=>?_) n h];show wpAny _ A ((compTurn (.ListComp elt [#[target,iter,ifs,0]] scope pos) 0 it acc env).onRaise (λx=>do noteFrame x env;theTreesLotGoes x)) _ _ s;erw[wpAny_noted ?_];rw[compTurn_list];erw[aJ (pC (aJ (fM (turn n s hI) (λr s₁ h₁=>?_) λ_ _ h'=>h'.elim)))];cases r with |none=>erw[bN h₁] |some v=>erw[aJ (fM h₁ (λ_ MI h₁=>?_) λ_ _ h'=>h'.elim)];erw[aJ (fM h₁ (λ_ s₂ h₂=>aJ (fM h₂ (λok s₃ h₃=>?_) λ_ _ h'=>h'.elim)) λ_ _ h'=>h'.elim)];cases ok with |false=>erw[bN #[Z,h₃]] |true=>erw[aJ (aJ (fM h₃ (λx s₄ h₄=>aJ (fM h₄ (λ_ s₅ h₅=>bN (bN #[Z,h₅])) λ_ _ h'=>h'.elim)) λ_ _ h'=>h'.elim))]
def Lc(X:Cx)(ifs:List Expr)(t:TT):Prop:=∀(ay:List (Addr×Obj))(s:ah)(O:St)(H:Hp)(Q:Bool->Hp->Prop),Inv X ay O H s->t O H Q->wpAny (model X.prog X.w) X.A (forIn ifs true λc r=>if r=true then do let ok<-isTrue c X.env (eval c X.env);pure (ForInStep.yield ok)else pure (ForInStep.yield r)) (TP X ay O Q) X.xe s
def kL:TT:=λ_ H Q=>Q true H
theorem fP:Lc X [] kL:=λ_ _ _ H _ I h=>wpAny_tests_nil #[H,I,h]
def mh(J:It)(g:TG)(tt:TT)(te:TE)(Q:VK)(D:Addr)(O:St)(H:Hp):Prop:=∃W:Nat->Nat->St->Hp->Prop,(∃m,W 0 m O H)/\∀i m σ' H',W i m σ' H'->(J.stop i H'/\Q (.ref D) H')\/(J.go i H'/\∀x H2,J.jO i H' x H2->g x σ' H2 λσ3 H3=>tt σ3 H3 λok H4=>if ok=true then te σ3 H4 λy H5=>∃ys,H5 D=some (.lst ys)/\ys.length<sizeLine/\∃m',m'<m/\W (i+1) m' σ3 (upd H5 D (.lst (ys++[y]))) else∃m',m'<m/\W (i+1) m' σ3 H4)
def MB(js:List (Option Nat))(wi:TI)(g:TG)(tt:TT)(te:TE):TE:=λO H Q=>wi O H λJ H1=>∀D H2,Nw H1 H2 D (.lst [])->mh J g tt te Q D (stC js O) H2
theorem fb.but{P:ai}{w:World}{C:Addr}(ok:fb P w H h)(hn:H C=none)(hs:Heap.SameBut C h h'):fb P w H h':=λb ob e=>by
 refine(ok b ob e).ny (λc w' hc q=>(hs.2 c ?_).trans q) (λ_ q=>q) λ_ _ q=>q;rintro rfl;rcases hc with rfl|hc
 ·rw[hn]at e;cases e
 ·rw[hn]at hc;cases hc
set_option maxHeartbeats 1000000 in
theorem gO{X:Cx}{N:List Str}{js:List (Option Nat)}{elt tg iter:Expr}{ifs:List Expr}{scope:Scope}{pos:Pos}{wi:TI}{g:TG}{tt:TT}{te:TE}(hc:X.calm=true)(hN:Ck X N js scope=true)(hS:uQ X scope=true) (hi:PI X tg iter wi)(hg:∀cl s H fp ay,PG (dv X N scope cl s H fp ay) tg g)(ht:∀cl s H fp ay,Lc (dv X N scope cl s H fp ay) ifs tt)(he:∀cl s H fp ay,PE (dv X N scope cl s H fp ay) elt te) (hs:autoParam (∀x,foldedSetIterable iter X.env x=pure x) d8_._auto_1):PE X (.ListComp elt [#[tg,iter,ifs,0]] scope pos) (MB js wi g tt te):=by
 intro ay s O H Q I h;let oS:=hS;unfold uQ at oS;rw[fY,fY]at oS;let((k1,k2),k3):=oS;let lV:scope.kind= .function:=fC.mp k1;let uJ:∀x∈scope.names,x.2= .free->∃c,X.env.cells.lookup x.1=some c:=λx hx e=>by have:=iX.mp k3 x hx;rw[e]at this;erw[I.ok.has x.1 (.inl (fC.mp this))]
 let qm:∀x∈scope.names,x.2≠ .cell:=λx hx e=>by have:=iX.mp k3 x hx;rw[e]at this;erw[jt this]
 let Bu:∀x∈scope.names,x.2= .local->scope.names.lookup x.1=some .local:=λx hx e=>by have:=iX.mp k3 x hx;rw[e]at this;erw[fC.mp this]
 let(cl,BE,c1,c2):=Ku uJ;rw[eval_ListComp];erw[XR (use:=none) Z hs BE lV Bu (bc (hi ay s O H _ I h) λv s1 h1=>bc h1 λBl s2 h2=>?_)];let(it,fp,tn,J,H2,e,I2,T,pH,f2,h2):=h2;subst e;let hD:H2 s2.heap.objs.size=none:=I2.bp.fresh (aY _);let(W,(m0,w0),turn):=h2 _ _ (Nw.of hD);erw[qR (XQ qm (by intro y hy;simp at hy) (λh₁ uE uC=>?_) lV)];let oX:∀b∈fp,b<s2.heap.objs.size:=λb hb=>by let(o,e,_):=T.obj _ _ pH b hb;erw[cC e]
 let I3:Inv X ay O (upd H2 s2.heap.objs.size (.lst [])) {s2 with heap:=s2.heap.push {cls:=.type "list",dict:=none,data:=.seq ([]:List Value).toArray}}:=I2.EB (its:=[]) (t':=s2.toks) .nil (fX _);generalize uL:s2.heap.push {cls:=.type "list",dict:=none,data:=.seq ([]:List Value).toArray}=h3 at I3 uE uC;let tW:h3.objs.size=s2.heap.objs.size+1:=by rw[<-uL,qX]
 let Bj:∀b o,s2.heap.get? b=some o->h3.get? b=some o:=λb o e=>by rw[<-uL];erw[cD _ e]
 let f3:∀b∈fp,kI X ay (upd H2 s2.heap.objs.size (.lst [])) b:=λb hb=>#[by rw[aU (eR (oX b hb))];exact(f2 b hb).1,(f2 b hb).2];let uB:∀b o,h3.get? b=some o->h₁.get? b=some o:=λb o e=>(uC.2 b (eR (cC e))).trans (cD _ e);let I4:Inv (dv X N scope cl {s2 with heap:=h3} (upd H2 s2.heap.objs.size (.lst [])) fp ay) [] (stC js O) (upd H2 s2.heap.objs.size (.lst [])) {s2 with heap:=h₁,toks:=s2.toks+([]:List (Str×Value)).length}:=I3.comp (s:={s2 with heap:=h3}) hN hS c1 c2 f3 (λb hb=>by show b<h3.objs.size;rw[tW];erw[CW (oX b hb)]) (by simpa using uE) uB;let tX:tn 0 h₁:=T.keep _ _ _ pH λb _ o e=>uB b o (Bj b o e);let loop:codeAny (model X.prog X.w) X.A (.compLoop (.ListComp elt [#[tg,iter,ifs,0]] scope pos) 0 (.ref it) (.ref s2.heap.objs.size) (compEnvC scope cl h3.objs.size X.env)) (compPost (model X.prog X.w) X.A X.xe none (EP X ay O Q) (.ref s2.heap.objs.size) h3.objs.size) {s2 with heap:=h₁,toks:=s2.toks+([]:List (Str×Value)).length}:=by
  erw[Ww (λn s'=>∃i σ' H',Inv (dv X N scope cl {s2 with heap:=h3} (upd H2 s2.heap.objs.size (.lst [])) fp ay) [] σ' H' s'/\tn i s'.heap/\(∀b∈fp,H' b=none)/\W i n σ' H') ?_ m0 #[0,_,_,I4,tX,λb hb=>(f3 b hb).1,w0]];rintro n s5 ⟨i,σ5,H5,I5,nA,qy,w5⟩;let kM:∀{H':Hp},(∀b∈fp,H' b=none)->∀b∈fp,kI (dv X N scope cl {s2 with heap:=h3} (upd H2 s2.heap.objs.size (.lst [])) fp ay) [] H' b:=λ{H'} hn b hb=>by
   let(_,q1,q2,q3,q4,q5):=f3 b hb;erw[hn b hb,λz=>?_,I4.ok.qA b hb,.inl hb,λx c e=>q4 x c (c1 x c e),λp hp=>q5 p (by simpa[dv]using hp)];let bK:b<h3.objs.size:=by rw[tW];erw[CW (oX b hb)]
   erw[eR bK z]
  rcases turn i n σ5 H5 w5 with⟨stop,qn⟩|⟨go,step⟩
  ·erw[bc (T.done (dv X N scope cl {s2 with heap:=h3} (upd H2 s2.heap.objs.size (.lst [])) fp ay) rfl rfl rfl hc i [] s5 σ5 H5 _ I5 (kM qy) nA stop) λr s6 #[hr,I6]=>?_]
   subst hr;let(m,hm,_):=I6.loc;erw[m,hm,λh7 sE=>?_];let u0:Un (fV X.stack) fp (upd H2 s2.heap.objs.size (.lst [])) H5 h3 s6.heap:=I6.aD;let ne:∀b o,h3.get? b=some o->b≠h3.objs.size:=λb o e=>eR (cC e);let u:Un (fV X.stack) fp (upd H2 s2.heap.objs.size (.lst [])) H5 h3 h7:=#[λb o e n hb hx=>(sE.2 b (ne b o e)).trans (u0.keep b o e n hb hx),λb o e n hb hx=>let#[sl,q]:=u0.slot b o e n hb hx;#[sl,(sE.2 b (ne b o e)).trans q],u0.free,λb o e hx=>let#[o',q]:=u0.there b o e hx;#[o',(sE.2 b (ne b o e)).trans q],u0.lM,u0.kU,u0.lO];let I7:Inv X ay O H5 {s6 with heap:=h7}:=I3.Cp (s':={s6 with heap:=h7}) (ch:=fp) I6.os u (I6.bp.but I6.free sE) I6.bare λb hb=>#[(f3 b hb).2.2.2.1,(f3 b hb).2.1,(f3 b hb).2.2.2.2.1,(f3 b hb).2.2.2.2.2];erw[.ref s2.heap.objs.size,H5,I7,Z,qn]
  ·erw[bc (T.item (dv X N scope cl {s2 with heap:=h3} (upd H2 s2.heap.objs.size (.lst [])) fp ay) rfl rfl rfl hc i [] s5 σ5 H5 _ I5 (kM qy) nA go) λr s6 #[u,hr,h6]=>?_]
   subst hr;erw[bc h6 λ_ s7 #[x,H7,I7,r7,y7,mC,BM]=>?_];let CF:=I7.pinned (kM BM) (T.obj _ _ mC);erw[bc (hg _ _ _ _ _ _ s7 σ5 H7 x u _ CF r7 (step x H7 y7)) λ_ s8 #[σ8,H8,I8,q8]=>?_];erw[bc (ht _ _ _ _ _ _ s8 σ8 H8 _ I8 q8) λok s9 #[H9,I9,q9]=>?_];let again:∀{s':ah}{σ7:St}{H7:Hp},Inv (dv X N scope cl {s2 with heap:=h3} (upd H2 s2.heap.objs.size (.lst [])) fp ay) ([]++rM fp s7.heap) σ7 H7 s'->(∃m',m'<n/\W (i+1) m' σ7 H7)->∃m,m<n/\∃i σ' H',Inv (dv X N scope cl {s2 with heap:=h3} (upd H2 s2.heap.objs.size (.lst [])) fp ay) [] σ' H' s'/\tn i s'.heap/\(∀b∈fp,H' b=none)/\W i m σ' H':=λ{s' σ7 H7} J7 n7=>by let(m',hm,w7):=n7;erw[m',hm,i+1,σ7,H7,J7.vv,T.keep _ _ _ mC λb hb o e=>(J7.pin (b,o) (ir _ (ir _ (pV hb e)))).1,λb hb=>?_,w7];let(o,e,d):=T.obj _ _ mC b hb;exact(J7.pin (b,o) (ir _ (ir _ (pV hb e)))).2.1
   cases ok with |false=>rw[aV jt]at q9⊢;erw[again I9 q9] |true=>rw[aQ rfl]at q9⊢;erw[bc (he _ _ _ _ _ _ s9 σ8 H9 _ I9 q9) λyv kP #[y,gB,vb,HE,ys,jU,hz,jP]=>?_];erw[bc (Et _ kP σ8 gB (.ref s2.heap.objs.size) [y] (.ref s2.heap.objs.size) [yv] (λ_ jc=>∃m',m'<n/\W (i+1) m' σ8 jc) vb Z (.cons HE .nil) #[_,ys,y,Z,Z,jU,hz,jP]) λ_ vG #[v11,jc,zy,r11,Aw]=>?_];erw[again zy Aw]
 erw[XT loop (T.self _ 0 _ _ _ tX loop)]
theorem Kx:∀{bs:List Bool}{us:List Value},Vals (bs.map V.bl) us->us=bs.map Value.bool |[],_,.nil=>rfl |b::r,_,.cons q t=>by cases(show _=Value.bool b from q);rw[Kx t];rfl
section
variable {X:Cx}
theorem acw(hc:X.calm=true):fW X (.builtin "all") (λxs H Q=>∃(l:Addr)(bs:List Bool),xs=[.ref l]/\aL X.K H l (bs.map V.bl)/\Q (.bl (bs.all id)) H):=by
 intro ay s O H xs us Q I r h;let(l,bs,rfl,hl,q):=h;let(u,rfl,ru):=vals1 r;cases(show u=Value.ref l from ru);let(its,rv,pl,hz):=I.list hl;let e:=Kx rv;subst e;let iK:=pl.isList;let bK:l<s.heap.objs.size:=by let(_,e,_):=iK;erw[cC e]
 let hh:=I.ok.hd hc;erw[call_all_walk (CL iK ?_)];erw[s.heap.objs.size,[s.heap.objs.size,l],[s.heap.objs.size],(bs.map Value.bool).toArray.size,_,_,λi=>(bs[i]?).getD true,Z,Walks.list (A:=X.A.in1) hh _ l (eR bK) (bs.map Value.bool).toArray,#[#[_,fj _ Z,Z,Z],iK.push _],λi v s' Q' E' hP hQ=>?_,λh' tk hk=>?_]
 ·let oT:(bs.map Value.bool)[i]? =some v:=by simpa using hP
  rw[bV]at oT;cases e:bs[i]? with |none=>rw[e]at oT;cases oT |some b=>rw[e]at oT;cases oT;simp only[e,Option.getD_some]at hQ;erw[qQ hQ]
 ·let e:((List.range (bs.map Value.bool).toArray.size).all λi=>(bs[i]?).getD true)=bs.all id:=by rw[fg,bB];erw[LSm.range_all bs]
  rw[e];erw[.bl _,H,I.kept (LSm.kept_iter hk),Z,q]
theorem acv(hc:X.calm=true):fW X (.builtin "any") (λxs H Q=>∃(l:Addr)(bs:List Bool),xs=[.ref l]/\aL X.K H l (bs.map V.bl)/\Q (.bl (bs.any id)) H):=by
 intro ay s O H xs us Q I r h;let(l,bs,rfl,hl,q):=h;let(u,rfl,ru):=vals1 r;cases(show u=Value.ref l from ru);let(its,rv,pl,hz):=I.list hl;let e:=Kx rv;subst e;let iK:=pl.isList;let bK:l<s.heap.objs.size:=by let(_,e,_):=iK;erw[cC e]
 let hh:=I.ok.hd hc;erw[call_any_walk (CL iK ?_)];erw[s.heap.objs.size,[s.heap.objs.size,l],[s.heap.objs.size],(bs.map Value.bool).toArray.size,_,_,λi=>(bs[i]?).getD false,Z,Walks.list (A:=X.A.in1) hh _ l (eR bK) (bs.map Value.bool).toArray,#[#[_,fj _ Z,Z,Z],iK.push _],λi v s' Q' E' hP hQ=>?_,λh' tk hk=>?_]
 ·let oT:(bs.map Value.bool)[i]? =some v:=by simpa using hP
  rw[bV]at oT;cases e:bs[i]? with |none=>rw[e]at oT;cases oT |some b=>rw[e]at oT;cases oT;simp only[e,Option.getD_some]at hQ;erw[qQ hQ]
 ·let e:((List.range (bs.map Value.bool).toArray.size).any λi=>(bs[i]?).getD false)=bs.any id:=by rw[fg,bB];erw[LSm.range_any bs]
  rw[e];erw[.bl _,H,I.kept (LSm.kept_iter hk),Z,q]
end
theorem xo{tt:TT}{D:Addr}(n:Nat)(Pv:Nat->St->Hp->Prop)(h0:Pv 0 O H) (hs:∀i O H,i<n->Pv i O H->J.go i H/\∀x H2,J.jO i H x H2->g x O H2 λσ3 H3=>tt σ3 H3 λok H4=>if ok=true then te σ3 H4 λy H5=>∃ys,H5 D=some (.lst ys)/\ys.length<sizeLine/\∃m',m'<n-i/\m'=n-(i+1)/\i+1<=n/\Pv (i+1) σ3 (upd H5 D (.lst (ys++[y]))) else∃m',m'<n-i/\m'=n-(i+1)/\i+1<=n/\Pv (i+1) σ3 H4) (hd:∀O H,Pv n O H->J.stop n H/\Q (.ref D) H): mh J g tt te Q D O H:=by
 erw[λi m O H=>m=n-i/\i<=n/\Pv i O H,#[n,by simp,fX _,h0],?_];rintro i m O H ⟨rfl,hi,p⟩;by_cases bK:i<n
 ·erw[.inr (hs i O H bK p)]
 ·let e:i=n:=by lia
  subst e;erw[.inl (hd O H p)]
section
variable {X:Cx} {tg:Expr}
theorem ixK(K:ag)(h:X.K=K):tG X (λx y H Q=>HA K x y H Q\/Hz K x y H Q):=by subst h;erw[a6Z.or a6X]
inductive af7(K:ag)(x:V)(lo:Option Int)(hi:Option Int)(H:Hp)(Q:VK):Prop |mk a xs(_:x= .ref a)(_:((aL K H a xs/\∀p H',Nw H H' p (.lst (kX xs lo hi))->Q (.ref p) H')\/ (aW K H a xs/\¬(_H.cn xs.length 0 lo=0/\_H.cn xs.length xs.length hi=xs.length)/\∀p H',Nw H H' p (.tup (kX xs lo hi))->Q (.ref p) H')))
def a2Q(K:ag):V->Option Int->Option Int->Hp->VK->Prop:=λx lo hi H Q=>af7 K x lo hi H Q
theorem vE(K:ag)(h:X.K=K):Fz X (a2Q K):=by
 subst h;intro ay s O H x v vl vu lo hi sl Q I rx hs pl pu hq;let(a,xs,e,hq):=hq;rcases hq with⟨h1,k⟩|⟨h1,h2,k⟩
 ·erw[a1i ay s O H x v vl vu lo hi sl Q I rx hs pl pu #[a,xs,e,h1,λp hp=>k p _ (.of hp)]]
 ·erw[a1h ay s O H x v vl vu lo hi sl Q I rx hs pl pu #[a,xs,e,h1,h2,λp hp=>k p _ (.of hp)]]
theorem a6E(K:ag)(h:X.K=K):fW X (.builtin "len") (λxs H Q=>∃p ys,xs=[.ref p]/\(aL K H p ys\/aW K H p ys)/\Q (.int ys.length) H):=by subst h;erw[acr]
theorem a71(K:ag)(h:X.K=K):fW X (.builtin "isinstance") (λxs H Q=>HC K xs H Q\/HB K xs H Q):=by subst h;erw[acu.or acs]
theorem cJ(K:ag)(h:X.K=K)(hu:X.A.units+64<cLine):dN X (compareOp .Eq) (λx y H Q=>lQ (λi j=>.bl (decide (i=j))) x y H Q\/HD K x y H Q):=by subst h;erw[a45 hu]
theorem iH(K:ag)(h:X.K=K)(hu:X.A.units+64<cLine):dN X (compareOp .NotEq) (λx y H Q=>lQ (λi j=>.bl (!decide (i=j))) x y H Q\/Hy K x y H Q):=by subst h;erw[a3Z hu]
theorem tE(K:ag)(h:X.K=K)(hc:X.calm=true):fW X (.builtin "all") (λxs H Q=>∃(l:Addr)(bs:List Bool),xs=[.ref l]/\aL K H l (bs.map V.bl)/\Q (.bl (bs.all id)) H):=by subst h;erw[acw hc]
theorem Xc(K:ag)(h:X.K=K)(hc:X.calm=true):fW X (.builtin "any") (λxs H Q=>∃(l:Addr)(bs:List Bool),xs=[.ref l]/\aL K H l (bs.map V.bl)/\Q (.bl (bs.any id)) H):=by subst h;erw[acv hc]
theorem ED(K:ag)(h:X.K=K):fW X (.type "list") (λxs H Q=>∃p ys,xs=[.ref p]/\(aL K H p ys\/aW K H p ys)/\∀l H',Nw H H' l (.lst ys)->Q (.ref l) H'):=by subst h;intro ay s O H xs us Q I r hq;let(p,ys,e,h1,k):=hq;erw[acp ay s O H xs us Q I r #[p,ys,e,h1,λl hl=>k l _ (.of hl)]]
theorem oq(K:ag)(h:X.K=K):fW X (.type "tuple") (λxs H Q=>∃p ys,xs=[.ref p]/\((aL K H p ys/\∀l H',Nw H H' l (.tup ys)->Q (.ref l) H')\/(aW K H p ys/\Q (.ref p) H))):=by subst h;intro ay s O H xs us Q I r hq;let(p,ys,e,h1):=hq;erw[acj ay s O H xs us Q I r #[p,ys,e,h1.imp (λ#[a,k]=>#[a,λl hl=>k l _ (.of hl)]) id]]
def Zj(t:TA):TE:=λO H Q=>t O H λxs H1=>xs.length<=sizeLine/\∀p H',Nw H1 H' p (.tup xs)->Q (.ref p) H'
def ZC(t:TA):TE:=λO H Q=>t O H λxs H1=>xs.length<=sizeLine/\∀p H',Nw H1 H' p (.lst xs)->Q (.ref p) H'
theorem cQ{t:TA}{x1}(h:PA X es t):PE X (.Tuple es x1 pos) (Zj t):=by intro ay s O H Q I hq;erw[wpAny_Tuple_spliced (bc (h pos ay s O H _ I hq) λus s1 #[xs,H1,I1,r,z,q]=>#[by rw[<-r.length];erw[z],?_])];let hf:H1 s1.heap.objs.size=none:=I1.bp.fresh (aY _);erw[.ref s1.heap.objs.size,upd H1 s1.heap.objs.size (.tup xs),I1.laid (t':=s1.toks) (λb u e=>cD _ e) (aY _) ?_,Z,q _ _ (.of hf)];erw[z,us,r,#[_,fj _ Z,Z,_,Z]]
theorem cX{t:TA}(h:PA X es t):PE X (.List es pos) (ZC t):=by intro ay s O H Q I hq;erw[wpAny_List_spliced (bc (h pos ay s O H _ I hq) λus s1 #[xs,H1,I1,r,z,q]=>#[by rw[<-r.length];erw[z],?_])];let hf:H1 s1.heap.objs.size=none:=I1.bp.fresh (aY _);erw[.ref s1.heap.objs.size,upd H1 s1.heap.objs.size (.lst xs),I1.laid (t':=s1.toks) (λb u e=>cD _ e) (aY _) ?_,Z,q _ _ (.of hf)];erw[z,us,0,r,fj _ Z]
theorem rO(K:ag)(h:X.K=K){l:Expr}{tl:TE}(hl:PE X l tl):PI X tg l (Uv K tl):=by subst h;erw[a3r hl]
theorem oF(K:ag)(h:X.K=K){l:Expr}{tl:TE}(hl:PE X l tl):PI X tg l (Uu K tl):=by subst h;erw[a3n hl]
theorem cW(K:ag)(h:X.K=K){es:List Expr}{k:Nat}{t:mZ}{n:Nat}{pos:Pos}(hc:X.calm=true)(hg:zt X es t)(hn:autoParam ((assignEach es X.env).length=n) r8_._auto_1)(gG:autoParam ((assignEach es X.env).findIdx? (·.1)=none) r8_._auto_1): PG X (.Tuple es k pos) (BL K n t):=by subst h;erw[a3s hc hg hn gG]
theorem iQ(K:ag)(h:X.K=K){o e:Expr}{to:TE}{t:TA}{apos dZ:Pos}(ho:PE X o to)(ha:PA X [e] t) (sQ:autoParam (attributeBase o "append" X.env (eval o X.env)=eval o X.env) r8_._auto_1) (sM:autoParam (((backTo dZ (starEach [e] X.env)).all (λx=>!x.1)&&(backToKw dZ (keywordEach [] X.env)).all (λx=>x.1.isSome) &&decide ([e].length+([]:List Keyword).length+(if([]:List Keyword).isEmpty then 0 else 1)<30))=true) r8_._auto_1) (sG:autoParam ((apos.endLine==dZ.line)=true) r8_._auto_1)(hs:autoParam (starEach [e] X.env=(false,eval e X.env)::starEach [] X.env) r8_._auto_1)(sF:autoParam ((backTo dZ (starEach [] X.env)).any (·.1)=false) r8_._auto_1): PE X (.Call (.Attribute o "append" apos) [e] [] dZ) (A7 K "list" RQ to t):=by subst h;erw[E8 Y4 PySem.F.slot_list_append PySem.F.type_list_append Et ho ha sQ sM sG hs sF]
theorem Dm{j:Nat}{x:V}{O:St}{H:Hp}{A B:St->Hp->Prop}(h:A (O.set j (some x)) H):ie j x O H λσ3 H3=>kL σ3 H3 λok H4=>if ok=true then A σ3 H4 else B σ3 H4:=by show if true=true then A (O.set j (some x)) H else B (O.set j (some x)) H;rw[aQ rfl];erw[h]
theorem yes(h:Q true H):kL O H Q:=h
end
theorem aL.go{K:ag}{xs:List V}(s:aH H H')(h:aL K H a xs):aL K H' a xs:=h.imp (λr=>r.imp (s _ _) λ#[o,e]=>#[o,s _ _ e]) id
theorem aW.go{K:ag}{xs:List V}(s:aH H H')(h:aW K H a xs):aW K H' a xs:=h.imp (λr=>r.imp (s _ _) λ#[o,e]=>#[o,s _ _ e]) id
mutual
theorem RD.mono{K:ag}{H H':Hp}(s:aH H H'):∀{x:V}(d:aj),RD K H x d->RD K H' x d |x,.none,h=>by simpa[RD]using h |x,.bool b,h=>by simpa[RD]using h |x,.int i,h=>by simpa[RD]using h |x,.str y,h=>by simpa[RD]using h |x,.list ds,h=>by rw[RD]at h⊢;let(a,xs,e,h1,h2):=h;erw[a,xs,e,h1.go s,aI.mono s ds h2] |x,.tuple ds,h=>by rw[RD]at h⊢;let(a,xs,e,h1,h2):=h;erw[a,xs,e,h1.go s,aI.mono s ds h2] |x,.dict _,h=>by simp[RD]at h
theorem aI.mono {K:ag}{H H':Hp}(s:aH H H'):∀{xs:List V}(ds:List aj),aI K H xs ds->aI K H' xs ds |xs,[],h=>by simpa[aI]using h |xs,d::ds,h=>by rw[aI]at h⊢;let(y,ys,e,h1,h2):=h;erw[y,ys,e,RD.mono s d h1,aI.mono s ds h2]
end
section
variable {K:ag} {H H':Hp}
theorem aI.nil_inv(h:aI K H xs []):xs=[]:=by simpa[aI]using h
theorem aI.cons_inv(h:aI K H xs (d::ds)):∃y ys,xs=y::ys/\RD K H y d/\aI K H ys ds:=by rw[aI]at h;erw[h]
theorem RD.cF(h:RD K H x (.tuple ds)):∃a xs,x= .ref a/\aW K H a xs/\aI K H xs ds:=by rw[RD]at h;erw[h]
theorem RD.lst_inv(h:RD K H x (.list ds)):∃a xs,x= .ref a/\aL K H a xs/\aI K H xs ds:=by rw[RD]at h;erw[h]
theorem RD.int_inv(h:RD K H x (.int i)):x= .int i:=by rw[RD]at h;erw[h]
theorem RD.acI(h:RD K H x (.bool i)):x= .bl i:=by rw[RD]at h;erw[h]
theorem RD.str_inv(h:RD K H x (.str i)):x= .str i:=by rw[RD]at h;erw[h]
theorem RD.AY(h:RD K H x .none):x= .bM:=by rw[RD]at h;erw[h]
theorem aI.length:∀{xs:List V}{ds:List aj},aI K H xs ds->xs.length=ds.length |xs,[],h=>by rw[h.nil_inv];rfl |xs,d::ds,h=>by let(y,ys,rfl,_,h2):=h.cons_inv;rw[kh,kh,aI.length h2]
theorem aI.append:∀{xs ys:List V}{ds es:List aj},aI K H xs ds->aI K H ys es->aI K H (xs++ys) (ds++es) |xs,ys,[],es,h,g=>by rw[h.nil_inv];erw[g] |xs,ys,d::ds,es,h,g=>by let(y,zs,rfl,h1,h2):=h.cons_inv;erw[bX h1 (aI.append h2 g)]
theorem aI.get:∀(n:Nat){xs:List V}{ds:List aj}{d:aj},aI K H xs ds->ds[n]? =some d->∃x,xs[n]? =some x/\RD K H x d
 |n,xs,[],d,h,e=>by simp at e |0,xs,d'::ds,d,h,e=>by
  let(y,zs,rfl,h1,h2):=h.cons_inv;let e':d'=d:=by simpa using e
  subst e';erw[y,Z,h1] |n+1,xs,d'::ds,d,h,e=>by let(y,zs,rfl,h1,h2):=h.cons_inv;erw[aI.get n h2 (by simpa using e)]
theorem aI.get'(n:Nat){xs:List V}{ds:List aj}{x:V}(h:aI K H xs ds)(e:xs[n]? =some x):∃d,ds[n]? =some d/\RD K H x d:=by
 let hl:n<ds.length:=by rw[<-h.length];exact(cm.mp e).1
 let(y,e1,r):=h.get n (bo hl);rw[e]at e1;cases e1;erw[_,bo hl,r]
def kn:aj->String | .none=>"NoneType" | .bool _=>"bool" | .int _=>"int" | .str _=>"str" | .list _=>"list" | .tuple _=>"tuple" | .dict _=>"dict"
theorem RD.ty{x:V}:∀{d:aj},RD K H x d->xD K H x (kn d) | .none,h=>by rw[h.AY];rfl | .bool b,h=>by rw[h.acI];rfl | .int b,h=>by rw[h.int_inv];rfl | .str b,h=>by rw[h.str_inv];rfl | .list ds,h=>by let(a,xs,rfl,h1,_):=h.lst_inv;erw[.inl #[Z,xs,h1]] | .tuple ds,h=>by let(a,xs,rfl,h1,_):=h.cF;erw[.inr #[Z,xs,h1]] | .dict _,h=>by simp[RD]at h
structure e9(n:Nat)(d:aj):Prop where
 lay:d.canLay0=true
 dep:d.depth<=n
def gW(n:Nat)(ds:List aj):Prop:=∀d∈ds,e9 n d
theorem e9.le(h:e9 n d)(l:n<=m):e9 m d:=#[h.lay,gY h.dep l]
theorem yo{n:Nat}:∀{ds:List aj},gW n ds↔(PyData.canLayAll0 ds=true/\PyData.depthAll ds<=n)
 |[]=>#[λ_=>#[Z,fX _],λ_ _ h=>nomatch h] |d::ds=>by
  let ih:=yo (n:=n) (ds:=ds);simp only[PyData.canLayAll0,PyData.depthAll,fY];constructor
  ·intro h
   let h1:=h d (.head _);let h2:=ih.mp λx hx=>h x (.tail _ hx);erw[#[h1.lay,h2.1],Nat.max_le.mpr #[h1.dep,h2.2]]
  ·rintro⟨⟨a,b⟩,c⟩ x hx
   let c':=Nat.max_le.mp c;rcases dg.mp hx with rfl|hx
   ·erw[a,c'.1]
   ·erw[ih.mpr #[b,c'.2] x hx]
theorem gW.tup(h:gW n ds):e9 (n+1) (.tuple ds):=#[by simpa[PyData.canLay0]using(yo.mp h).1,by simpa[PyData.depth]using(yo.mp h).2]
theorem gW.lst{n:Nat}{ds:List aj}(h:gW n ds):e9 (n+1) (.list ds):=#[by simpa[PyData.canLay0]using(yo.mp h).1,by simpa[PyData.depth]using(yo.mp h).2]
theorem e9.cF(h:e9 (n+1) (.tuple ds)):gW n ds:=yo.mpr #[by simpa[PyData.canLay0]using h.lay,by simpa[PyData.depth]using h.dep]
theorem e9.int(i:Int):e9 n (.int i):=#[Z,fX _]
theorem gW.nil:gW n []:=λ_ h=>nomatch h
theorem gW.cons(h:e9 n d)(g:gW n ds):gW n (d::ds):=λx hx=>by
 rcases dg.mp hx with rfl|hx
 ·erw[h]
 ·erw[g x hx]
theorem e9.shaped(h:e9 n d)(l:n<=64):SeqAt.shaped d=true:=by unfold SeqAt.shaped;rw[h.lay,lK];erw[cu (gY h.dep l)]
theorem e9.refl(h:e9 n d):PyData.eqv d d=true:=eqv_refl d h.lay
def del(H:Hp)(p:Addr):Hp:=λb=>if b=p then none else H b
theorem Wf:del H p b=some o↔b≠p/\H b=some o:=by
 unfold del;by_cases e:b=p
 ·rw[aQ e];simp[e]
 ·rw[aV e];simp[e]
variable {p:Addr}{n m:Nat}{v:V}{vs:List V}{d:aj}{ds es:List aj}
end
end _L
namespace _L
open PySem PySem.Spec PyProof.Rows
def fr(H H':Hp):Hp:=λb=>match H b with|none=>H' b|some _=>none
theorem sT:fr H H' b=some o↔H b=none/\H' b=some o:=by unfold fr;cases H b<;>simp
theorem a9s:aH (fr H H') H':=λb o e=>(sT.mp e).2
theorem Jw(s:aH H1 H2):aH (fr H H1) (fr H H2):=λb o e=>sT.mpr #[(sT.mp e).1,s _ _ (sT.mp e).2]
theorem a9t(s:aH H H1):aH (fr H1 H2) (fr H H2):=λb o e=>sT.mpr #[s.free (sT.mp e).1,(sT.mp e).2]
def DB(K:ag)(d:aj):TE:=λ_ H Q=>∀v H',aH H H'->RD K (fr H H') v d->Q v H'
def ZD(K:ag)(ds:List aj):TA:=λ_ H Q=>∀vs H',aH H H'->aI K (fr H H') vs ds->Q vs H'
def Bf(f:Expr->Option aj):List Expr->Option (List aj) |[]=>some [] |e::es=>match f e,Bf f es with |some d,some ds=>some (d::ds) |_,_=>none
def lit:Nat->Expr->Option aj
 |0,_=>none |_+1,.Constant .none _ _=>some .none |_+1,.Constant (.bool b) _ _=>some (.bool b) |_+1,.Constant (.int i) _ _=>some (.int i) |_+1,.Constant (.str x) _ _=>some (.str x) |n+1,.Tuple es _ _=>match Bf (lit n) es with |some ds=>if ds.length<=1000 then some (.tuple ds)else none |none=>none
 |n+1,.List es _=>match Bf (lit n) es with |some ds=>if ds.length<=1000 then some (.list ds)else none |none=>none
 |n+1,.UnaryOp .USub a _=>match lit n a with |some (.int i)=>some (.int (-i)) |_=>none
 |n+1,.BinOp a .Pow b _=>match lit n a,lit n b with |some (.int i),some (.int j)=>if 0<=j/\j<=1000000/\i.natAbs<2^64 then some (.int (i^j.toNat))else none |_,_=>none
 |_,_=>none
section
variable {X:Cx}
theorem a05(h:∀a b,e≠ .Starred a b):starEach (e::es) env=(false,eval e env)::starEach es env:=by cases e<;>first|rfl|erw[absurd rfl (h _ _)]
theorem a6C(h:lit n e=some d):∀a b,e≠ .Starred a b:=by intro a b z;subst z;cases n<;>simp[lit]at h
theorem S8(K:ag)(f:Expr->Option aj)(hp:∀e d,f e=some d->∀a b,e≠ .Starred a b)(hf:∀e d,f e=some d->PE X e (DB K d)):∀(es:List Expr)(ds:List aj),Bf f es=some ds->PA X es (ZD K ds)
 |[],ds,h=>by cases h;intro pos ay s O H Q I hq;erw[az pos ay s O H Q I (hq [] H (aH.refl H) cH)] |e::es,ds,h=>by
  rw[Bf]at h;split at h
  ·rename_i d Kj e1 e2
   cases h;intro pos ay s O H Q I hq;erw[au (hf e d e1) (S8 K f hp hf es Kj e2) (a05 (hp e d e1)) pos ay s O H Q I ?_];intro v H1 s1 r1 vs H2 s2 r2;erw[hq (v::vs) H2 (s1.trans s2) (bX (RD.mono (Jw s2) _ r1) (aI.mono (a9t s1) _ r2))]
  ·cases h
theorem AD(K:ag)(hK:X.K=K):∀(n:Nat)(e:Expr)(d:aj),lit n e=some d->PE X e (DB K d)
 |0,e,d,h=>by simp[lit]at h |n+1,e,d,h=>by
  let hA:=S8 (X:=X) K (lit n) (λe d h=>a6C h) (λe d h=>AD K hK n e d h);unfold lit at h;split at h
  case h_1=>cases‹Nat.succ n=0›
  case h_2=>cases h;intro ay s O H Q I hq;erw[fQ ay s O H Q I (hq .bM H (aH.refl H) Au)]
  case h_3=>cases h;intro ay s O H Q I hq;erw[j4 ay s O H Q I (hq (.bl _) H (aH.refl H) (rJ _))]
  case h_4=>cases h;intro ay s O H Q I hq;erw[aB ay s O H Q I (hq (.int _) H (aH.refl H) (dF _))]
  case h_5=>cases h;intro ay s O H Q I hq;erw[eU ay s O H Q I (hq (.str _) H (aH.refl H) (cL _))]
  case h_6=>
   rename_i m es _ _ hm;cases hm;split at h
   ·rename_i ds e1
    by_cases hl:ds.length<=1000
    ·rw[aQ hl]at h
     cases h;intro ay s O H Q I hq;erw[cQ (hA es ds e1) ay s O H Q I ?_];intro vs H1 s1 r1;erw[by rw[r1.length];erw[gY hl aA],λp H' nw=>?_];erw[hq _ _ (s1.trans nw.same) (fJ (aW.of (sT.mpr #[s1.free nw.no,nw.at'])) (aI.mono (Jw nw.same) _ r1))]
    ·rw[aV hl]at h;cases h
   ·cases h
  case h_7=>
   rename_i m es _ hm;cases hm;split at h
   ·rename_i ds e1
    by_cases hl:ds.length<=1000
    ·rw[aQ hl]at h
     cases h;intro ay s O H Q I hq;erw[cX (hA es ds e1) ay s O H Q I ?_];intro vs H1 s1 r1;erw[by rw[r1.length];erw[gY hl aA],λp H' nw=>?_];erw[hq _ _ (s1.trans nw.same) (rH (aL.of (sT.mpr #[s1.free nw.no,nw.at'])) (aI.mono (Jw nw.same) _ r1))]
    ·rw[aV hl]at h;cases h
   ·cases h
  case h_8=>
   rename_i m a _ hm;cases hm;split at h
   ·rename_i i e1
    cases h;intro ay s O H Q I hq;erw[nI nu (AD K hK n a _ e1) ay s O H Q I ?_];intro v H1 s1 r1;erw[i,r1.int_inv,hq _ _ s1 (dF _)]
   ·cases h
  case h_9=>
   rename_i m a b _ hm;cases hm;split at h
   ·rename_i i j e1 e2
    by_cases hc:0<=j/\j<=1000000/\i.natAbs<2^64
    ·rw[aQ hc]at h
     cases h;intro ay s O H Q I hq;erw[aO vO (AD K hK n a _ e1) (AD K hK n b _ e2) ay s O H Q I ?_];intro v H1 s1 r1 v2 H2 s2 r2;erw[i,j,r1.int_inv,r2.int_inv,hc,hq _ _ (s1.trans s2) (dF _)]
    ·rw[aV hc]at h;cases h
   ·cases h
  case h_10=>cases h
end
end _L
namespace _L
theorem cI{v:α}(h0:0<=i)(h:xs[i.toNat]? =some v):eY xs i=some v:=by let hl:i.toNat<xs.length:=(cm.mp h).1;unfold eY iS;rw[aQ h0,aQ aw];erw[h]
end _L
namespace _L
open PySem PySem.Spec PyProof.Rows
theorem Af(n:Nat)(h:n<=1000):n<=sizeLine:=gY h aA
structure Xt(X:Cx)(e:Expr)(t:TE):Prop where out:PE X e t
theorem a3B(K:ag)(hK:X.K=K)(n:Nat)(e:Expr)(d:aj)(h:lit n e=some d):Xt X e (DB K d):=⟨AD K hK n e d h⟩
section
variable {X:Cx}{p pos pos':Pos}{a b e:Expr}{es:List Expr}{ta tb te:TE}{t:TA}{x:Str}
theorem px(K:ag)(ha:PE X a ta)(hb:PE X b tb)(hK:autoParam (X.K=K) r8_._auto_1)(hp:autoParam (Xq b) d8_._auto_1):PE X (.Subscript a b pos) (A6 (λx y H Q=>HA K x y H Q\/Hz K x y H Q) ta tb):=S4 (ixK K hK) ha hb hp
theorem cV(K:ag)(B:tK X.mg)(ha:PA X (e::es) t)(hK:autoParam (X.K=K) r8_._auto_1)(hg:autoParam (Gl X "isinstance") r8_._auto_1)(he:autoParam (starEach (e::es) X.env=(false,eval e X.env)::starEach es X.env) r8_._auto_1)(gy:autoParam ((backTo pos (starEach es X.env)).any (·.1)=false) r8_._auto_1):PE X (.Call (.Name "isinstance" p) (e::es) [] pos) (DC (λxs H Q=>HC K xs H Q\/HB K xs H Q) t):=eK (a71 K hK) hg (B.at "isinstance") LF ha aA aA he gy
theorem cY(K:ag)(B:tK X.mg)(ha:PA X (e::es) t)(hK:autoParam (X.K=K) r8_._auto_1)(hg:autoParam (Gl X "len") r8_._auto_1)(he:autoParam (starEach (e::es) X.env=(false,eval e X.env)::starEach es X.env) r8_._auto_1)(gy:autoParam ((backTo pos (starEach es X.env)).any (·.1)=false) r8_._auto_1):PE X (.Call (.Name "len" p) (e::es) [] pos) (DC (λxs H Q=>∃p ys,xs=[.ref p]/\(aL K H p ys\/aW K H p ys)/\Q (.int ys.length) H) t):=eK (a6E K hK) hg (B.at "len") PySem.boot_len ha aA aA he gy
theorem pS(i:Nat)(hN:X.N.Nodup)(he:PE X e te)(hi:autoParam (X.N[i]? =some x) r8_._auto_1)(hx:autoParam (Loc X.env.scope x) d8_._auto_1)(hs:autoParam (swapsWith e (some (.Name x pos')) pos.line X.env=pure false) r8_._auto_1)(hf:autoParam (X.fn x=true\/X.env.scope.names.lookup x=some .local) d8_._auto_1):PS X (.Assign [.Name x pos'] e pos) (DE te (ie i)):=a3c hN hi hx he hs hf
theorem aZ(i:Nat)(hN:X.N.Nodup)(hi:autoParam (X.N[i]? =some x) r8_._auto_1)(hx:autoParam (Loc X.env.scope x) d8_._auto_1)(hf:autoParam (X.fn x=true\/X.env.scope.names.lookup x=some .local) d8_._auto_1):PG X (.Name x pos) (ie i):=a3t hN hi hx hf
theorem uw (a:Str):[a].Nodup:=by simp
theorem gu{a b:Str}(h:(a==b)=false):[a,b].Nodup:=by
 have:a≠b:=λz=>by rw[z,FY]at h;cases h
 simp[this]
theorem bG{n:Nat}(h:Nat.ble n 1000=true):n<=sizeLine:=Af n (Nat.le_of_ble_eq_true h)
end
def GV(mg:bU)(x:Str)(v:V):Prop:=∃u,mg x=some u/\RelV v u
def GT(K:ag)(mg:bU)(x:Str)(vs:List V):Prop:=∃a,GV mg x (.ref a)/\∀H,aW K H a vs
theorem dC{v:V}(hg:Gl X x)(h:GV X.mg x v)(hd:autoParam ((x==("__debug__":Str))=false) q8_._auto_1):PE X (.Name x pos) (tC v):=by let(u,hm,r):=h;erw[a3C hg hm r hd]
section
variable {K:ag} {mg:bU} {h:Heap}
theorem nU{t:Tok}(X:K.In h)(G:h.Ns mainGlobals mg)(a:PySem.W.nsIn K mainGlobals x=some (some (.int i t))):GV mg x (.int i):=#[_,xM X G a,t,Z]
theorem V3(X:K.In h)(G:h.Ns mainGlobals mg)(a:PySem.W.nsIn K mainGlobals x=some (some (.ref b))) (l:K.lookup b=some #[.type "tuple",od,.seq its n,gc])(hz:its.size<=sizeLine)(r:Vals vs its.toList):GT K mg x vs:=#[b,#[_,xM X G a,Z],λH=>.inr #[_,its,n,l,Z,Z,hz,r]]
end
theorem Wv{xs:List V}{bs:List Bool}{D:Addr}(rest:St)(nw:Nw H H0 D (.lst []))(hl:xs.length=bs.length)(hz:xs.length<=1000) (go:∀i x H2,xs[i]? =some x->aH H H2->J.go i H2/\∀y H3,J.jO i H2 y H3->H3=H2/\y=x)(stop:∀H2,aH H H2->J.stop xs.length H2) (hs:∀(i:Nat)(x:V)(b:Bool)(H2:Hp)(Q':VK),xs[i]? =some x->bs[i]? =some b->aH H H2->(∀H3,aH H2 H3->Q' (.bl b) H3)->te (some x::rest) H2 Q') (hq:∀H',aH H H'->H' D=some (.lst (bs.map V.bl))->Q (.ref D) H'):mh J (ie 0) kL te Q D (none::rest) H0:=by
 let hD:=nw.no;erw[xo xs.length (λi O H2=>aH H H2/\H2 D=some (.lst ((bs.take i).map V.bl))/\∃v,O=v::rest) ?_ ?_ ?_]
 ·erw[nw.same,nw.at',none,Z]
 ·rintro i O H2 hi ⟨s2,d2,v,rfl⟩
  let EU:i<bs.length:=by rw[<-hl];erw[hi]
  let ex:=bo hi;let eb:=bo EU;let(g1,g2):=go i _ H2 ex s2;erw[g1,λy H3 hy=>?_];let(rfl,rfl):=g2 y H3 hy;erw[Dm ?_];erw[hs i _ _ _ _ ex eb s2 λH4 s4=>?_];erw[_,s4 _ _ d2,?_,xs.length-(i+1),aw,Z,aw,λb o e=>?_,?_,_,Z]
  ·rw[bB,jM]
   have:(1000:Nat)<sizeLine:=by decide
   lia
  ·rw[aU (dH e hD)];erw[s4 b o (s2 b o e)]
  ·rw[bP,lG,eb,jr];rfl
 ·rintro O H2 ⟨s2,d2,v,rfl⟩
  erw[stop H2 s2,hq H2 s2 ?_];rw[d2,hl,zL]
theorem Fj{K:ag}{bs:List Bool}{D:Addr}(rest:St)(hx:aW K H a xs)(nw:Nw H H0 D (.lst []))(hl:xs.length=bs.length)(hz:xs.length<=1000) (hs:∀(i:Nat)(x:V)(b:Bool)(H2:Hp)(Q':VK),xs[i]? =some x->bs[i]? =some b->aH H H2->(∀H3,aH H2 H3->Q' (.bl b) H3)->te (some x::rest) H2 Q') (hq:∀H',aH H H'->H' D=some (.lst (bs.map V.bl))->Q (.ref D) H'):mh (uY K a) (ie 0) kL te Q D (none::rest) H0:=Wv rest nw hl hz (λi x H2 e s=>#[#[xs,x,hx.go s,e],λy H3 #[e3,y3]=>#[e3,by have:=y3 _ (hx.go s);rw[e]at this;exact(eQ this).symm]]) (λH2 s=>#[xs,hx.go s,aY _]) hs hq
theorem TB{ds:List aj}{i:Nat}{b:Bool}(h:(ds.map f)[i]? =some b):∃d,ds[i]? =some d/\f d=b:=by rw[bV]at h;cases e:ds[i]? with |none=>rw[e]at h;cases h |some d=>rw[e]at h;erw[d,Z,eQ h]
theorem all_map{ds:List aj}:(ds.map f).all id=ds.all f:=by rw[List.all_map];rfl
section
variable {X:Cx}
inductive afp(K:ag)(x:V)(y:V)(H:Hp)(Q:VK):Prop |mk a b xs ys(_:x= .ref a)(_:y= .ref b)(_:aL K H a xs)(_:aL K H b ys)(_:xs.length+ys.length<=sizeLine)(_:∀p H',Nw H H' p (.lst (xs++ys))->Q (.ref p) H')
def a2X(K:ag):R2:=λx y H Q=>afp K x y H Q
theorem Co(K:ag)(hK:X.K=K):dN X (binaryOp .Add) (a2X K):=by
 subst hK;intro ay s O H x y v u Q I rx ry h;let(a,b,xs,ys,rfl,rfl,ha,hb,hz,q):=h;cases rx;cases ry;let(its,r1,p1,_):=I.list ha;let(oK,r2,p2,_):=I.list hb;let((cls,dd,data,sl),n,ho,hc,hdd,hd):=id p1;let((ahe,dd2,data2,sl2),n2,yR,iU,agW,hd2):=id p2;simp only at hc hd iU hd2;subst hc hd iU hd2;let e:its.toArray++oK.toArray=(its++oK).toArray:=by simp
 erw[concat_meets #[_,ho,Z] #[_,yR,Z] noFill_list_add seq_list_add PySem.F.slot_list_add PySem.F.entry_list_add (PySem.F.args_list_add_2 _ _) (list_addW a b its.toArray oK.toArray n n2 dd dd2 sl sl2 (by rw[fg,fg,<-r1.length,<-r2.length];erw[hz])) #[ho,yR,?_]];rw[e];let nw:Nw H (upd H s.heap.objs.size (.lst (xs++ys))) s.heap.objs.size (.lst (xs++ys)):=.of (I.bp.fresh (aY _));erw[.ref s.heap.objs.size,_,I.laid (t':=s.toks) (o:=.lst (xs++ys)) (λb ob q=>cD _ q) (aY _) ?_,Z,q _ _ nw];erw[by rw[cy];erw[hz],_,0,r1.append r2,fj _ Z]
open Classical in
noncomputable def wU(h:Heap)(d:aj)(w:Value):Bool:=if q:∃e as,Reads h w e as then PyData.eqv q.choose d else false
theorem abd{h:Heap}{d e:aj}{w:Value}{as:List Addr}(r:Reads h w e as):wU h d w=PyData.eqv e d:=by let q:∃e as,Reads h w e as:=#[e,as,r];unfold wU;rw[dif_pos q];let(as',r'):=q.choose_spec;rw[(Reads.unique r' e as r).1]
theorem Vw{ay:List (Addr×Obj)}{s:ah}{O:St}{H:Hp}(I:Inv X ay O H s)(hu:X.A.units+65<cLine){x:V}{u:Value}{d:aj}(rx:RelV x u)(hd:RD X.K H x d)(sd:SeqAt.shaped d=true): ∀{xs:List V}{us:List Value}{ds:List aj},Vals xs us->aI X.K H xs ds->(∀e∈ds,SeqAt.shaped e=true)->(∀w∈us,SeqAt.EqAt X.A.in1 s w u (wU s.heap d w))/\us.any (wU s.heap d)=ds.any λe=>PyData.eqv e d |xs,us,[],rv,h,_=>by cases h.nil_inv;cases rv;erw[λ_ h=>(gk h).elim,Z] |xs,us,e::ds,rv,h,se=>by let(y,ys,rfl,h1,h2):=h.cons_inv;cases rv with |cons ra rb=>
 rename_i w ws;let(as,q1):=RD.reads I e ra h1;let(bs,q2):=RD.reads I d rx hd;let key:SeqAt.EqAt X.A.in1 s w u (PyData.eqv e d):=SeqAt.eqAt_reads e d X.A.in1 s w u as bs q1 q2 (SeqAt.canLay_of_shaped (se e (.head _))) (SeqAt.canLay_of_shaped sd) (SeqAt.room_of_shaped (se e (.head _)) (by show X.A.units+1+64<cLine;omega));let(k1,k2):=Vw I hu rx hd sd rb h2 (λe' he=>se e' (.tail _ he));let ew:wU s.heap d w=PyData.eqv e d:=abd q1;erw[λz hz=>?_,?_]
 ·rcases dg.mp hz with rfl|hz
  ·rw[ew];erw[key]
  ·erw[k1 z hz]
 ·rw[Gb,Gb,ew,k2]
theorem W0{prog:ai}{w:World}{A:ak}{E:Value->ah->Prop}{it t:Addr}{items:Array Value}(dM:t≠it):∀(n i:Nat)(s:ah)(Q:List Value->ah->Prop),s.heap.IsListIter it t i->s.heap.IsList t items->i+n<=items.size->(∀h',h'.IsListIter it t (i+n)->Heap.SameBut it s.heap h'->Q ((items.toList.drop i).take n) {s with heap:=h'})->wpAny (model prog w) A (draw (.ref it) n) Q E s
 |0,i,s,Q,hit,_,_,hQ=>by show wpAny _ _ (pure []) Q E s;erw[bN (by simpa using hQ s.heap hit (Heap.SameBut.refl ..))] |n+1,i,s,Q,hit,ht,hle,hQ=>by
  let bK:i<items.size:=by lia
  show wpAny _ _ (pyNext (.ref it)>>=_) Q E s;erw[aJ (wpAny_pyNext_list_item hit ht (x:=items[i]) (by simp[bK]) λh₁ Jh Bq=>?_)];erw[aJ (jI (W0 dM n (i+1) _ _ Jh (ht.extBut Bq.extBut dM) aw λh₂ a83 a7x=>bN ?_))];let hd:items.toList.drop i=items[i]::items.toList.drop (i+1):=by simp[Yg,bK]
  have:=hQ h₂ (by rw[show i+(n+1)=i+1+n by lia];erw[a83]) (Bq.trans a7x);rw[hd,List.take_succ_cons]at this;erw[this]
theorem YQ{prog:ai}{w:World}{A:ak}{E:Value->ah->Prop}{s:ah}{t:Addr}{items:Array Value}{Q:List Value->ah->Prop}(hh:A.handled=none)(ht:s.heap.IsList t items) (hQ:∀h',Heap.ExtBut s.heap.objs.size s.heap h'->Q items.toList {s with heap:=h'}):wpAny (model prog w) A (unpackItems (.ref t) items.size none) Q E s:=by
 let bK:t≠s.heap.objs.size:=by let(o,ho,_):=ht;erw[eR (cC ho)]
 unfold unpackItems;erw[aJ ?_]
 ·unfold notIterableAtAll
  erw[aJ (wpAny_specialOf ht.typeIs slot_list_iter.lookup ?_)];erw[bN ?_];simp only[Bool.false_eq_true,if_false];erw[aJ (jI (CL ht ?_))];erw[aJ (jI (W0 bK items.size 0 _ _ #[_,fj _ Z,Z,Z] (ht.push _) aw λh₁ Jh Bq=>?_))];let Jp:List.take items.size (List.drop 0 items.toList)=items.toList:=by rw[List.drop_zero];erw[vk (by simp)]
  rw[Jp];rw[aV (by simp)];let a7q:h₁.IsList t items:=(ht.push _).extBut Bq.extBut bK;erw[aJ (jI (wpAny_pyNext_list_end hh Jh a7q (by simp) λh₂ a8j=>?_))];simp only[Option.isSome_none,Bool.false_eq_true,if_false];erw[bN (hQ h₂ λb o hb e=>a8j b o hb (Bq.extBut b o hb (cD _ e)))]
theorem acX{prog:ai}{w:World}{A:ak}{E:Value->ah->Prop}{s:ah}{env:Env}{elts:List Expr} {x1}{pos:Pos}{t:Addr}{items:Array Value}{Q:Unit->ah->Prop}(hh:A.handled=none)(ht:s.heap.IsList t items) (hn:(assignEach elts env).length=items.size)(a7B:(assignEach elts env).findIdx? (·.1)=none) (h:∀h',Heap.ExtBut s.heap.objs.size s.heap h'->wpAny (model prog w) A (assignInOrder ((assignEach elts env).map (·.2)) items.toList) Q E {s with heap:=h'}): wpAny (model prog w) A (assign (.Tuple elts x1 pos) env (.ref t)) Q E s:=by rw[assign_Tuple];erw[aJ (pC ?_)];unfold unpack;rw[hn,a7B];erw[aJ (jI (YQ hh ht h))]
inductive afE(K:ag)(n:Nat)(t:mZ)(v:V)(O:St)(H:Hp)(Q:St->Hp->Prop):Prop |mk a xs(_:v= .ref a)(_:aL K H a xs)(_:xs.length=n)(_:t xs O H Q)
def a9q(K:ag)(n:Nat)(t:mZ):TG:=λv O H Q=>afE K n t v O H Q
theorem pgL(K:ag)(hK:X.K=K){es:List Expr}{k:Nat}{t:mZ}{n:Nat}{pos:Pos}(hc:X.calm=true)(h:zt X es t) (hn:autoParam ((assignEach es X.env).length=n) r8_._auto_1)(gG:autoParam ((assignEach es X.env).findIdx? (·.1)=none) r8_._auto_1):PG X (.Tuple es k pos) (a9q K n t):=by subst hK;intro ay s O H v u Q I r hw;let(a,xs,e1,hq,hl,hw):=hw;subst e1;cases r;let(its,rv,ht,hz):=I.list hq;erw[acX (I.ok.hd hc) ht.isList (by simp[hn,<-hl,rv.length]) gG λh' hx=>?_];let I1:Inv X ay O H {s with heap:=h'}:=I.kept (t':=s.toks) λb o e=>hx b o (eR (cC e)) e;erw[h ay _ O H xs _ Q I1 (by simpa using rv) hw]
end
end _L
namespace _L
theorem df.YR{k:Nat}{A:PySem.Around}(r:df k A):A.units+65<PySem.cLine:=by have:=r.un;lia
end _L
namespace _L
open PySem PySem.Spec PyProof.Rows
def lA(b:Bool)(h:Heap)(it l:Addr)(k:Nat):Prop:=match b with|true=>h.IsListIter it l k|false=>h.IsTupleIter it l k
def iW(b:Bool)(h:Heap)(l:Addr)(xs:Array Value):Prop:=match b with|true=>h.IsList l xs|false=>h.IsTuple l xs
def uP(b:Bool):String:=match b with|true=>"list_iterator"|false=>"tuple_iterator"
theorem lA.to{it:Addr}(x:lA b h it l k)(e:∀o,h.get? it=some o->g.get? it=some o):lA b g it l k:=by cases b<;>(let(o,ho,r):=x;erw[o,e o ho,r])
theorem iW.to(x:iW b h l xs)(e:∀o,h.get? l=some o->g.get? l=some o):iW b g l xs:=by cases b<;>(let(o,ho,r):=x;erw[o,e o ho,r])
theorem lA.ob{it:Addr}(x:lA b h it l k):∃o,h.get? it=some o/\o.cls= .type (uP b)/\∀v,o.data≠ .cell v:=by cases b<;>(let(o,ho,c,d):=x;erw[o,ho,c,λv z=>by rw[d]at z;cases z])
section
variable {prog:ai}{w:World}{A:ak}{E:Value->ah->Prop}{s:ah}
theorem yG{b:Bool}{l:Addr}{xs:Array Value}{Q:Value->ah->Prop}(x:iW b s.heap l xs) (q:Q (.ref s.heap.objs.size) {s with heap:=s.heap.push {cls:=.type (uP b),data:=.fields (List.toArray [.ref l,.int 0 0])}}):wpAny (model prog w) A (pyIter (.ref l)) Q E s:=by
 cases b
 ·erw[wpAny_pyIter_tuple x q]
 ·erw[CL x q]
theorem a5d{it t:Addr}{k:Nat}{ts:Array Value}{x:Value}{Q:Value->ah->Prop}(hi:s.heap.IsTupleIter it t k)(ht:s.heap.IsTuple t ts)(hx:ts[k]? =some x) (q:∀g,g.IsTupleIter it t (k+1)->Heap.SameBut it s.heap g->Q x {s with heap:=g}):wpAny (model prog w) A (Builtin.SmallTypes.nextOf (.ref it)) Q E s:=by let(oi,mT,ci,di):=id hi;let(ot,Ja,_,nt,dt):=ht;unfold Builtin.SmallTypes.nextOf;erw[aJ (FR (name:=Str.ofString "__next__") hi.typeIs LB (FQ LB hi.typeIs afT ?_ (afU _)))];show wpAny _ _ (field (.ref it) 0>>=_) _ _ s;erw[aJ (kf mT di (x:=.ref t) Z ?_)];show wpAny _ _ (if(Value.ref t==Value.none)=true then _ else _) _ _ s;rw[aV (show¬((Value.ref t==Value.none)=true)from jt)];show wpAny _ _ (field (.ref it) 1>>=_) _ _ s;erw[aJ (kf mT di (x:=.int k 0) Z ?_)];show wpAny _ _ (seqItems? (.ref t)>>=_) _ _ s;erw[aJ (xI Ja dt ?_)];simp only[Yi,hx];erw[aJ (FL mT di (by simp) (bN #[x,Z,bN (q _ ?_ (Heap.SameBut.update ..))]))];erw[_,Gf _ mT (Ya (G7 di _)),(Obj.cls_mapFields ..).trans ci,by rw[G7 di];simp[rawInt]]
theorem abj{it t:Addr}{k:Nat}{ts:Array Value}{Q:Value->ah->Prop}(hh:A.handled=none)(hi:s.heap.IsTupleIter it t k)(ht:s.heap.IsTuple t ts)(hx:ts[k]? =none) (q:∀g e,Heap.ExtBut it s.heap g->(∃o,g.get? e=some o/\o.cls= .type "StopIteration")->E (.ref e) {s with heap:=g}):wpAny (model prog w) A (Builtin.SmallTypes.nextOf (.ref it)) Q E s:=by
 let(oi,mT,ci,di):=id hi;let(ot,Ja,_,nt,dt):=ht;unfold Builtin.SmallTypes.nextOf;erw[aJ (FR (name:=Str.ofString "__next__") hi.typeIs LB (FQ LB hi.typeIs afT ?_ (afU _)))];show wpAny _ _ (field (.ref it) 0>>=_) _ _ s;erw[aJ (kf mT di (x:=.ref t) Z ?_)];show wpAny _ _ (if(Value.ref t==Value.none)=true then _ else _) _ _ s;rw[aV (show¬((Value.ref t==Value.none)=true)from jt)];show wpAny _ _ (field (.ref it) 1>>=_) _ _ s;erw[aJ (kf mT di (x:=.int k 0) Z ?_)];show wpAny _ _ (seqItems? (.ref t)>>=_) _ _ s;erw[aJ (xI Ja dt ?_)];simp only[Yi,hx];erw[aJ (CK (aJ (FL mT di (by simp) ?_)))];show wpAny _ _ (newExc (.type "StopIteration") []>>=_) _ _ _;erw[aJ ?_];simp only[newExc,newTuple];erw[aJ (qR ?_ (by size_fits))];erw[aJ (m:=firstArgMember _ _) (zE (a:=Value.none) (by first|rfl|(simp only[firstArgMember];rfl)) ?_)];erw[qR ?_ (by size_fits)];simp only[raiseNew];erw[aJ (wpAny_handled ?_)]
 first|rw[show A.in1.handled=none from hh]|rw[hh]
 erw[aJ (bN (wpAny_throw (q _ _ (((Heap.SameBut.update ..).extBut.push _).push _) #[_,fj _ Z,Z])))]
theorem Em{b:Bool}{it l:Addr}{k:Nat}{xs:Array Value}{x:Value}{Q:Value->ah->Prop}(hi:lA b s.heap it l k)(hl:iW b s.heap l xs)(hx:xs[k]? =some x) (q:∀g,lA b g it l (k+1)->Heap.SameBut it s.heap g->Q x {s with heap:=g}):wpAny (model prog w) A (Builtin.SmallTypes.nextOf (.ref it)) Q E s:=by
 cases b
 ·erw[a5d hi hl hx q]
 ·erw[wpAny_nextOf_list_item hi hl hx q]
theorem K4{b:Bool}{it l:Addr}{k:Nat}{xs:Array Value}{Q:Value->ah->Prop}(hh:A.handled=none)(hi:lA b s.heap it l k)(hl:iW b s.heap l xs)(hx:xs[k]? =none) (q:∀g e,Heap.ExtBut it s.heap g->(∃o,g.get? e=some o/\o.cls= .type "StopIteration")->E (.ref e) {s with heap:=g}):wpAny (model prog w) A (Builtin.SmallTypes.nextOf (.ref it)) Q E s:=by
 cases b
 ·erw[abj hh hi hl hx q]
 ·erw[wpAny_nextOf_list_end hh hi hl hx q]
structure Zp(b1 b2:Bool)(h:Heap)(z TI TO i1 i2 l1 l2:Addr)(f0:Value)(k:Nat):Prop where
 zz:IsZip h z TI TO f0
 ti:IsPair h TI (.ref i1) (.ref i2)
 to:∃a b,IsPair h TO a b
 n1:lA b1 h i1 l1 k
 n2:lA b2 h i2 l2 k
theorem Se{z TI TO:Addr}{Q:Bool->ah->Prop}(hz:IsZip s.heap z TI TO .none)(q:Q true s):wpAny (model prog w) A (Builtin.SmallTypes.ownedTupleIsFree (.ref z)) Q E s:=by unfold Builtin.SmallTypes.ownedTupleIsFree;erw[aJ (kf hz Z (x:=.none) Z (bN q))]
theorem Yr{b1 b2:Bool}{z TI TO i1 i2 l1 l2:Addr}{k:Nat}{xs ys:Array Value}{x y:Value}{Q:Value->ah->Prop}(D:ZipApart z TI TO i1 i2 l1 l2)(ahx:Zp b1 b2 s.heap z TI TO i1 i2 l1 l2 .none k) (uG:iW b1 s.heap l1 xs)(sH:iW b2 s.heap l2 ys)(hx:xs[k]? =some x)(hy:ys[k]? =some y) (q:∀g,Zp b1 b2 g z TI TO i1 i2 l1 l2 (rawInt s.heap.objs.size) (k+1)->IsPair g s.heap.objs.size x y->(∀c o,c≠z->c≠TO->c≠i1->c≠i2->s.heap.get? c=some o->g.get? c=some o)->Q (.ref s.heap.objs.size) {s with heap:=g}): wpAny (model prog w) A (Builtin.«zip.__next__» #[[.ref z],[]]) (λr s'=>∃v,r= .done (.ret v)/\Q v s') E s:=by
 let(hz,nT,(a,b,oQ),h1,h2):=ahx;show wpAny _ _ (field (.ref z) 2>>=_) _ _ _;erw[aJ (kf hz Z (x:=.bool false) Z ?_)];show wpAny _ _ (field (.ref z) 3>>=_) _ _ _;erw[aJ (kf hz Z (x:=.ref TI) Z (aJ (xI nT Z ?_)))];show wpAny _ _ (Builtin.SmallTypes.ownedTupleIsFree (.ref z)>>=_) _ _ _;erw[aJ (Se hz ?_)];simp only[vd];erw[aJ (CK (aJ (kf hz Z (x:=.ref TO) Z (aJ (CJ hz (by simp) λg1 z1 e1=>?_)))))];replace z1:IsZip g1 z TI TO .ellipsis:=z1;erw[aJ ?_];simp only[List.zipIdx_cons,List.zipIdx_nil,LV,List.forIn_nil];erw[aJ (aJ (FO ?_))];show wpAny _ _ (Builtin.SmallTypes.nextOf (.ref i1)>>=_) _ _ _;erw[aJ (Em (h1.to λo e=>e1.extBut _ _ D.i1z e) (uG.to λo e=>e1.extBut _ _ D.l1z e) hx λg2 n1 e2=>bN ?_)];let t2:IsPair g2 TO a b:=e2.extBut _ _ D.TOi1 (e1.extBut _ _ D.TOz oQ);erw[aJ (xI t2 Z (aJ (XM t2 λg3 t3 e3=>?_)))];replace t3:IsPair g3 TO x b:=t3;erw[aJ (wpAny_letGo (bN ?_))];erw[aJ (aJ (FO ?_))];show wpAny _ _ (Builtin.SmallTypes.nextOf (.ref i2)>>=_) _ _ _;erw[aJ (Em (h2.to λo e=>e3.extBut _ _ D.TOi2.symm (e2.extBut _ _ D.i12.symm (e1.extBut _ _ D.i2z e))) (sH.to λo e=>e3.extBut _ _ D.l2TO (e2.extBut _ _ D.l2i1 (e1.extBut _ _ D.l2z e))) hy λg4 n2 e4=>bN ?_)];let t4:IsPair g4 TO x b:=e4.extBut _ _ D.TOi2 t3;erw[aJ (xI t4 Z (aJ (XM t4 λg5 t5 e5=>?_)))];replace t5:IsPair g5 TO x y:=t5;erw[aJ (wpAny_letGo (bN (bN ?_)))];erw[aJ (xI t5 Z (aJ (wpAny_newTuple ?_)))];let sz:g5.objs.size=s.heap.objs.size:=by rw[e5.1,e4.1,e3.1,e2.1,e1.1]
 let z5:IsZip g5 z TI TO .ellipsis:=e5.extBut _ _ D.TOz.symm (e4.extBut _ _ D.i2z.symm (e3.extBut _ _ D.TOz.symm (e2.extBut _ _ D.i1z.symm z1)));let kp:∀c o,c≠z->c≠TO->c≠i1->c≠i2->s.heap.get? c=some o->g5.get? c=some o:=λc o c1 c2 c3 c4 e=>e5.extBut _ _ c2 (e4.extBut _ _ c4 (e3.extBut _ _ c2 (e2.extBut _ _ c3 (e1.extBut _ _ c1 e))));let m1:lA b1 g5 i1 l1 (k+1):=n1.to λo e=>e5.extBut _ _ D.TOi1.symm (e4.extBut _ _ D.i12 (e3.extBut _ _ D.TOi1.symm e));let m2:lA b2 g5 i2 l2 (k+1):=n2.to λo e=>e5.extBut _ _ D.TOi2.symm e;let Gh:z<g5.objs.size:=cC z5;show wpAny _ _ (Builtin.SmallTypes.ownedTupleHandOut (.ref z) (.ref g5.objs.size)>>=_) _ _ _;erw[aJ ?_];unfold Builtin.SmallTypes.ownedTupleHandOut;let z6:IsZip (g5.push {cls:=.type "tuple",data:=.seq (List.toArray [x,y])}) z TI TO .ellipsis:=cD _ z5;erw[aJ (CJ z6 (by simp) λg7 z7 e7=>?_)];replace z7:IsZip g7 z TI TO (rawInt g5.objs.size):=z7;erw[CJ z7 (by simp) λg8 z8 e8=>?_];replace z8:IsZip g8 z TI TO (rawInt g5.objs.size):=z8;let up:∀c o,c≠z->g5.get? c=some o->g8.get? c=some o:=λc o c1 e=>e8.extBut _ _ c1 (e7.extBut _ _ c1 (cD _ e));let t8:IsPair g8 g5.objs.size x y:=e8.extBut _ _ (CV Gh) (e7.extBut _ _ (CV Gh) (fj _ Z));rw[sz]at z8 t8;erw[bN #[_,Z,?_]];show Q (.ref g5.objs.size) _;rw[sz];erw[q g8 #[z8,up _ _ D.TIz (kp _ _ D.TIz D.TITO D.TIi1 D.TIi2 nT),#[_,_,up _ _ D.TOz t5],m1.to λo e=>up _ o D.i1z e,m2.to λo e=>up _ o D.i2z e] t8 λc o c1 c2 c3 c4 e=>up c o c1 (kp c o c1 c2 c3 c4 e)]
theorem Ys{b1 b2:Bool}{z TI TO i1 i2 l1 l2:Addr}{k:Nat}{xs ys:Array Value}{Q:Fin->ah->Prop}(hh:A.handled=none)(D:ZipApart z TI TO i1 i2 l1 l2)(ahx:Zp b1 b2 s.heap z TI TO i1 i2 l1 l2 .none k) (uG:iW b1 s.heap l1 xs)(sH:iW b2 s.heap l2 ys)(wF:xs[k]? =none\/ys[k]? =none) (q:∀g e,(∀c o,c≠z->c≠TO->c≠i1->c≠i2->s.heap.get? c=some o->g.get? c=some o)->(∃o,g.get? e=some o/\o.cls= .type "StopIteration")->E (.ref e) {s with heap:=g}): wpAny (model prog w) A (Builtin.«zip.__next__» #[[.ref z],[]]) Q E s:=by let(hz,nT,(a,b,oQ),h1,h2):=ahx;show wpAny _ _ (field (.ref z) 2>>=_) _ _ _;erw[aJ (kf hz Z (x:=.bool false) Z ?_)];show wpAny _ _ (field (.ref z) 3>>=_) _ _ _;erw[aJ (kf hz Z (x:=.ref TI) Z (aJ (xI nT Z ?_)))];show wpAny _ _ (Builtin.SmallTypes.ownedTupleIsFree (.ref z)>>=_) _ _ _;erw[aJ (Se hz ?_)];simp only[vd];erw[aJ (CK (aJ (kf hz Z (x:=.ref TO) Z (aJ (CJ hz (by simp) λg1 z1 e1=>?_)))))];replace z1:IsZip g1 z TI TO .ellipsis:=z1;erw[aJ ?_];simp only[List.zipIdx_cons,List.zipIdx_nil,LV,List.forIn_nil];erw[aJ (aJ (FO ?_))];show wpAny _ _ (Builtin.SmallTypes.nextOf (.ref i1)>>=_) _ _ _;let j1:=h1.to λo e=>e1.extBut _ _ D.i1z e;let k1:=uG.to λo e=>e1.extBut _ _ D.l1z e;cases hx:xs[k]? with
 |none=>
  erw[aJ (K4 hh j1 k1 hx λg2 er e2 #[oe,wz,BF]=>?_)];let z2:IsZip g2 z TI TO .ellipsis:=e2 _ _ D.i1z.symm z1;let nz:er≠z:=λv=>by subst v;rw[z2]at wz;cases wz;simp at BF
  erw[CJ z2 (by simp) λg3 _ e3=>q g3 er (λc o c1 _ c3 _ v=>e3.extBut _ _ c1 (e2 _ _ c3 (e1.extBut _ _ c1 v))) #[oe,e3.extBut _ _ nz wz,BF]] |some x=>
  let hy:ys[k]? =none:=by rcases wF with h|h;rw[hx]at h;cases h;erw[h]
  erw[aJ (Em j1 k1 hx λg2 n1 e2=>bN ?_)];let t2:IsPair g2 TO a b:=e2.extBut _ _ D.TOi1 (e1.extBut _ _ D.TOz oQ);erw[aJ (xI t2 Z (aJ (XM t2 λg3 t3 e3=>?_)))];erw[aJ (wpAny_letGo (bN ?_))];erw[aJ (aJ (FO ?_))];show wpAny _ _ (Builtin.SmallTypes.nextOf (.ref i2)>>=_) _ _ _;erw[aJ (K4 hh (h2.to λo e=>e3.extBut _ _ D.TOi2.symm (e2.extBut _ _ D.i12.symm (e1.extBut _ _ D.i2z e))) (sH.to λo e=>e3.extBut _ _ D.l2TO (e2.extBut _ _ D.l2i1 (e1.extBut _ _ D.l2z e))) hy λg4 er e4 #[oe,wz,BF]=>?_)];let z4:IsZip g4 z TI TO .ellipsis:=e4 _ _ D.i2z.symm (e3.extBut _ _ D.TOz.symm (e2.extBut _ _ D.i1z.symm z1));let nz:er≠z:=λv=>by subst v;rw[z4]at wz;cases wz;simp at BF
  erw[CJ z4 (by simp) λg5 _ e5=>q g5 er (λc o c1 c2 c3 c4 v=>e5.extBut _ _ c1 (e4 _ _ c4 (e3.extBut _ _ c2 (e2.extBut _ _ c3 (e1.extBut _ _ c1 v))))) #[oe,e5.extBut _ _ nz wz,BF]]
abbrev Dl(b1:Bool)(h:Heap)(l1:Addr):Heap:=h.push {cls:=.type (uP b1),data:=.fields (List.toArray [.ref l1,.int 0 0])}
abbrev Dk(b1 b2:Bool)(h:Heap)(l1 l2:Addr):Heap:=(Dl b1 h l1).push {cls:=.type (uP b2),data:=.fields (List.toArray [.ref l2,.int 0 0])}
abbrev Dj(b1 b2:Bool)(h:Heap)(l1 l2:Addr):Heap:=(Dk b1 b2 h l1 l2).push {cls:=.type "tuple",data:=.seq (List.toArray [.ref h.objs.size,.ref (Dl b1 h l1).objs.size])}
abbrev Di(b1 b2:Bool)(h:Heap)(l1 l2:Addr):Heap:=(Dj b1 b2 h l1 l2).push {cls:=.type "tuple",data:=.seq (List.toArray [.none,.none])}
abbrev xT(b1 b2:Bool)(h:Heap)(l1 l2:Addr):Heap:=(Di b1 b2 h l1 l2).push {cls:=.type "zip",data:=.fields (List.toArray [.none,.bool false,.bool false,.ref (Dk b1 b2 h l1 l2).objs.size,.ref (Dj b1 b2 h l1 l2).objs.size])}
theorem Yq(b1 b2:Bool)(l1 l2:Addr)(xs ys:Array Value):Meets (Builtin.«zip.__new__» #[[.type "zip",.ref l1,.ref l2],[]]) (λ_ R s=>iW b1 s.heap l1 xs/\iW b2 s.heap l2 ys/\R (.ok (.ret (.ref (Di b1 b2 s.heap l1 l2).objs.size))) {s with heap:=xT b1 b2 s.heap l1 l2}):=.of_wp λprog w A R s h=>by
 let(hp,gg,d,tk,os):=s;let(uG,sH,h):=h;let J8:=sub_zip;let hL1:iW b1 (Shared.heap #[hp,gg,d,tk,os]) l1 xs:=uG;let qo:iW b2 (Shared.heap #[hp.push {cls:=.type (uP b1),data:=.fields (List.toArray [.ref l1,.int 0 0])},gg,d,tk,os]) l2 ys:=sH.to λo e=>cD _ e
 wp_walk using yG hL1,yG qo;erw[_,Z,h]
theorem Yt{b1 b2:Bool}{l1 l2:Addr}{xs ys:Array Value}{Q:Value->ah->Prop}(uG:iW b1 s.heap l1 xs)(sH:iW b2 s.heap l2 ys) (q:∀g,Zp b1 b2 g (s.heap.objs.size+4) (s.heap.objs.size+2) (s.heap.objs.size+3) s.heap.objs.size (s.heap.objs.size+1) l1 l2 .none 0->(∀c o,s.heap.get? c=some o->g.get? c=some o)->Q (.ref (s.heap.objs.size+4)) {s with heap:=g}): wpAny (model prog w) A (call (.type "zip") [.ref l1,.ref l2]) Q E s:=by
 erw[callType_new PySem.F.called_zip aA (PySem.F.typeCall_zip_2 _ _) (PySem.F.newCall_zip_2 _ _) (λobj=>PySem.F.args_object_init_3 obj _ _) PySem.F.entry_zip_new (Yq b1 b2 l1 l2 xs ys) #[uG,sH,?_]];let z1:(Dl b1 s.heap l1).objs.size=s.heap.objs.size+1:=qX ..;let z2:(Dk b1 b2 s.heap l1 l2).objs.size=s.heap.objs.size+2:=by rw[qX,z1]
 let z3:(Dj b1 b2 s.heap l1 l2).objs.size=s.heap.objs.size+3:=by rw[qX,z2]
 let z4:(Di b1 b2 s.heap l1 l2).objs.size=s.heap.objs.size+4:=by rw[qX,z3]
 let g5:(xT b1 b2 s.heap l1 l2).get? (Di b1 b2 s.heap l1 l2).objs.size=some _:=fj _ rfl;let g4:(xT b1 b2 s.heap l1 l2).get? (Dj b1 b2 s.heap l1 l2).objs.size=some _:=cD _ (fj _ Z);let g3:(xT b1 b2 s.heap l1 l2).get? (Dk b1 b2 s.heap l1 l2).objs.size=some _:=cD _ (cD _ (fj _ Z));let g2:(xT b1 b2 s.heap l1 l2).get? (Dl b1 s.heap l1).objs.size=some _:=cD _ (cD _ (cD _ (fj _ Z)));let g1:(xT b1 b2 s.heap l1 l2).get? s.heap.objs.size=some _:=cD _ (cD _ (cD _ (cD _ (fj _ Z))));show _/\_;rw[z2,z3,z4]at g5;rw[z1,z2]at g3;rw[z3]at g4;rw[z1]at g2;rw[z4];erw[#[_,g5,Z],q _ #[g5,g3,#[_,_,g4],?_,?_] λc o e=>cD _ (cD _ (cD _ (cD _ (cD _ e))))]
 ·cases b1<;>erw[_,g1,rfl,rfl]
 ·cases b2<;>erw[_,g2,rfl,rfl]
end
section
variable {X:Cx}{ay:List (Addr×Obj)}{O:St}{H:Hp}{s:ah}{h':Heap}
theorem Inv.A5{t':Nat}{fp:List Addr}(I:Inv X ay O H s)(k:∀b o,b∉fp->s.heap.get? b=some o->h'.get? b=some o)(hf:∀b∈fp,kI X ay H b):Inv X ay O H {s with heap:=h',toks:=t'}:=by
 let B0:∀b u,H b=some u->b∉fp:=λb u e z=>by rw[(hf b z).1]at e;cases e
 let hL:X.env.locals∉fp:=λz=>(hf _ z).2.1 rfl;erw[I.step (g':=s.gens) (d':=s.drawn) (ch:=fp) (λb hb=>?_) (λb o _ _ hc e _=>k b o hc e) (λb o _ _ hc e _=>#[o.slots,k b o hc e]) (λ_ _ _ _ n=>n) (λb o hc e=>#[o,k b o hc e]) (λ_ _ e=>e) (λ_ _ _ e=>e) (λb ps e=>#[#[],by rw[e];simp]) (λm hm=>?_) (λb u e=>?_) I.bare]
 ·let(f0,f1,f2,f3,f4,f5):=hf b hb
  erw[f3,f1,f4,f5]
 ·let(o,es,ep,ho,r):=hm
  erw[o,es,ep,k _ o hL ho,r]
 ·refine(I.bp b u e).ny (λc v hc q=>k c v ?_ q) (λ_ q=>q) λ_ _ q=>q
  rcases hc with z|z
  ·rw[z];erw[B0 b u e]
  ·erw[B0 c _ z]
end
def fq(b:Bool)(K:ag)(H:Hp)(a:Addr)(xs:List V):Prop:=match b with|true=>aL K H a xs|false=>aW K H a xs
theorem fq.get{X:Cx}{ay:List (Addr×Obj)}{O:St}{H:Hp}{s:ah}{b:Bool}{a:Addr}{xs:List V}(I:Inv X ay O H s)(h:fq b X.K H a xs):∃its:List Value,Vals xs its/\iW b s.heap a its.toArray:=by
 cases b
 ·let(its,r,p,_):=I.tuple h;erw[its,r,p]
 ·let(its,r,p,_):=I.list h;erw[its,r,p.isList]
theorem fq.inj{X:Cx}{ay:List (Addr×Obj)}{O:St}{H:Hp}{s:ah}{b:Bool}{a:Addr}{xs ys:List V}(I:Inv X ay O H s)(h:fq b X.K H a xs)(g:fq b X.K H a ys):xs=ys:=by
 cases b
 ·erw[I.Mm h g]
 ·erw[I.TY h g]
def uX(K:ag)(b1 b2:Bool)(l1 l2:Addr):It:=#[λi H=>∃xs ys x y,fq b1 K H l1 xs/\fq b2 K H l2 ys/\xs[i]? =some x/\ys[i]? =some y,λi H v H'=>∃T x y,v= .ref T/\(∀xs,fq b1 K H l1 xs->xs[i]? =some x)/\(∀ys,fq b2 K H l2 ys->ys[i]? =some y)/\Nw H H' T (.tup [x,y]),λi H=>∃xs ys,fq b1 K H l1 xs/\fq b2 K H l2 ys/\(xs.length<=i\/ys.length<=i)]
theorem YY{P:ai}{w:World}{K:ag}{elts:List Expr}{kt:Nat}{pos:Pos}{b1 b2:Bool}{z TI TO i1 i2 l1 l2:Addr}(D:ZipApart z TI TO i1 i2 l1 l2): Turn P w K (.Tuple elts kt pos) (uX K b1 b2 l1 l2) [z,TI,TO,i1,i2] z (λi h=>Zp b1 b2 h z TI TO i1 i2 l1 l2 .none i) where
 mem:=by simp
 obj:=λi h st b hb=>by
  let(hz,nT,(a,c,oQ),h1,h2):=st;simp only[dg,gk,jJ]at hb;rcases hb with rfl|rfl|rfl|rfl|rfl
  ·erw[_,hz,λv e=>by cases e]
  ·erw[_,nT,λv e=>by cases e]
  ·erw[_,oQ,λv e=>by cases e]
  ·let(o,e,_,n):=h1.ob;erw[o,e,n]
  ·let(o,e,_,n):=h2.ob;erw[o,e,n]
 keep:=λi h h' st k=>by let(hz,nT,(a,c,oQ),h1,h2):=st;erw[k z (by simp) _ hz,k TI (by simp) _ nT,#[a,c,k TO (by simp) _ oQ],h1.to λo e=>k i1 (by simp) o e,h2.to λo e=>k i2 (by simp) o e]
 item:=by
  intro X hP hw hK hc i ay s O H E I hf st hg;subst hP hw hK;let(xs,ys,x,y,q1,q2,e1,e2):=hg;let(IS,r1,p1):=q1.get I;let(oK,r2,p2):=q2.get I;let(u1,J5,jR):=r1.get e1;let(u2,hu2,oA):=r2.get e2;let hT:s.TypeIs (.ref z) "zip":=#[_,st.zz,Z];unfold pyNext;erw[aJ (FT (FR (name:=Str.ofString "__next__") hT LA (FQ LA hT PySem.F.entry_zip_next (Yr D st p1 p2 (x:=u1) (y:=u2) (by simpa using J5) (by simpa using hu2) λg zg tg kp=>bN ?_) (PySem.F.args_zip_next_1 _))))];erw[_,Z,?_];erw[wpAny_letOwnedTupleGo_zip zg.zz λg' Yp sb=>?_];let hs:=sb.extBut;let Gh:z<s.heap.objs.size:=cC st.zz;let nw:Nw H (upd H s.heap.objs.size (.tup [x,y])) s.heap.objs.size (.tup [x,y]):=.of (I.bp.fresh (aY _));let I1:Inv X ay O (upd H s.heap.objs.size (.tup [x,y])) {s with heap:=s.heap.push {cls:=.type "tuple",data:=.seq (List.toArray [u1,u2])}}:=I.laid (t':=s.toks) (λb ob q=>cD _ q) (aY _) #[by show 2<=sizeLine;decide,[u1,u2],.cons jR (.cons oA .nil),#[_,fj _ Z,Z,_,Z]];let Iw:∀b∈[z,TI,TO,i1,i2],b<s.heap.objs.size:=λb hb=>by
   simp only[dg,gk,jJ]at hb;let(hz,nT,(a,c,oQ),h1,h2):=st;rcases hb with rfl|rfl|rfl|rfl|rfl
   ·erw[cC hz]
   ·erw[cC nT]
   ·erw[cC oQ]
   ·let(o,e,_):=h1.ob;erw[cC e]
   ·let(o,e,_):=h2.ob;erw[cC e]
  let hn:∀b∈[z,TI,TO,i1,i2],upd H s.heap.objs.size (.tup [x,y]) b=none:=λb hb=>by rw[aU (eR (Iw b hb))];exact(hf b hb).1
  let I2:Inv X ay O (upd H s.heap.objs.size (.tup [x,y])) {s with heap:=g'}:=Inv.A5 (s:={s with heap:=s.heap.push {cls:=.type "tuple",data:=.seq (List.toArray [u1,u2])}}) (t':=s.toks) (fp:=[z,TI,TO,i1,i2]) I1 (λb o hb e=>by
   let e:(s.heap.push {cls:=.type "tuple",data:=.seq (List.toArray [u1,u2])}).get? b=some o:=e;let nz:b≠z:=λq=>hb (by simp[q]);rcases Ym e with⟨Jn,rfl⟩|e'
   ·subst Jn
    erw[hs _ _ nz tg]
   ·erw[hs _ _ nz (kp b o nz (λq=>hb (by simp[q])) (λq=>hb (by simp[q])) (λq=>hb (by simp[q])) e')]) (λb hb=>by let(f0,f1,f2,f3,f4,f5):=hf b hb;erw[hn b hb,f1,f2,f3,f4,f5]);erw[.ref s.heap.objs.size,_,I2,Z,#[s.heap.objs.size,x,y,Z,λzs hz=>?_,λzs hz=>?_,nw],?_,hn]
  ·rw[fq.inj I hz q1];erw[e1]
  ·rw[fq.inj I hz q2];erw[e2]
  ·let(_,nT,(a,c,oQ),h1,h2):=zg
   erw[Yp,hs _ _ D.TIz nT,#[a,c,hs _ _ D.TOz oQ],h1.to λo e=>hs _ o D.i1z e,h2.to λo e=>hs _ o D.i2z e]
 done:=by intro X hP hw hK hc i ay s O H E I hf st hg;subst hP hw hK;let(xs,ys,q1,q2,wF):=hg;let(IS,r1,p1):=q1.get I;let(oK,r2,p2):=q2.get I;let hT:s.TypeIs (.ref z) "zip":=#[_,st.zz,Z];let l1:=r1.length;let l2:=r2.length;unfold pyNext;erw[aJ (FT (FR (name:=Str.ofString "__next__") hT LA (FQ LA hT PySem.F.entry_zip_next (Ys (I.ok.hd hc) D st p1 p2 (wF.imp (λh=>by simp;lia) λh=>by simp;lia) λg e kp he=>?_) (PySem.F.args_zip_next_1 _))))];let(o,ho,fT):=he;erw[aJ (wpAny_isInstance (T:="StopIteration") (b:=true) #[o,ho,fT] isSubtype_stop (bN #[Z,?_]))];erw[I.A5 (t':=s.toks) (fp:=[z,TI,TO,i1,i2]) (λb o hb e=>kp b o (λq=>hb (by simp[q])) (λq=>hb (by simp[q])) (λq=>hb (by simp[q])) (λq=>hb (by simp[q])) e) hf]
 self:=λ_ _ _ _ _ st h=>wpAny_pyIter_zip st.zz h
inductive afu(K:ag)(b1:Bool)(b2:Bool)(R:It->Hp->Prop)(vs:List V)(H1:Hp):Prop |mk l1 l2(_:vs=[.ref l1,.ref l2])(_:(∃xs,fq b1 K H1 l1 xs))(_:(∃ys,fq b2 K H1 l2 ys))(_:R (uX K b1 b2 l1 l2) H1)
def a7f(K:ag)(b1 b2:Bool)(ta:TA):TI:=λO H R=>ta O H λvs H1=>afu K b1 b2 R vs H1
theorem kQ(K:ag){X:Cx}(hK:X.K=K)(b1 b2:Bool){elts:List Expr}{kt:Nat}{tT:Pos}{a b:Expr}{ta:TA}{p pos:Pos}(hg:Gl X "zip")(hm:X.mg "zip"=none)(ha:PA X [a,b] ta)(hs:autoParam (starEach [a,b] X.env=[(false,eval a X.env),(false,eval b X.env)]) r8_._auto_1)(iT:autoParam (starEach [b] X.env=[(false,eval b X.env)]) r8_._auto_1): PI X (.Tuple elts kt tT) (.Call (.Name "zip" p) [a,b] [] pos) (a7f K b1 b2 ta):=by
 subst hK;intro ay s O H R I h;erw[Call_ (sy I hg hm PyProof.Rows.boot_zip (zI (bc (ha pos ay s O H _ I h) λus s1 #[vs,H1,I1,r1,q1]=>?_) (by rw[hs,iT]) (by rw[iT];rfl)))];let(l1,l2,e,(xs,h1),(ys,h2),q):=q1;subst e;let(u1,u2,rfl,jR,oA):=vals2 r1;cases(show u1=Value.ref l1 from jR);cases(show u2=Value.ref l2 from oA);let(IS,v1,p1):=h1.get I1;let(oK,v2,p2):=h2.get I1;let a1:l1<s1.heap.objs.size:=by cases b1<;>(let(o,e,_):=p1;erw[cC e])
 let a2:l2<s1.heap.objs.size:=by cases b2<;>(let(o,e,_):=p2;erw[cC e])
 erw[Yt p1 p2 λg zg kp=>wpAny_pyIter_zip zg.zz ?_];erw[_,_,_,_,H1,Z,I1.kept (t':=s1.toks) kp,YY (zipApart_new a1 a2),zg,λc hc=>?_,q];let hle:s1.heap.objs.size<=c:=by simp only[dg,gk,jJ]at hc;rcases hc with rfl|rfl|rfl|rfl|rfl<;>first|erw[aY _]|erw[Nat.le_add_right _ _]
 erw[I1.sW hle (I1.bp.fresh hle)]
theorem fq.go{b:Bool}{K:ag}{xs:List V}(s:aH H H')(h:fq b K H a xs):fq b K H' a xs:=by
 cases b
 ·erw[aW.go s h]
 ·erw[aL.go s h]
theorem ac2{K:ag}{bs:List Bool}{D:Addr}(rest:St)(hn:n=2)(h1:fq b1 K H l1 xs)(h2:fq b2 K H l2 ys)(nw:Nw H H0 D (.lst [])) (hl:min xs.length ys.length=bs.length)(hz:bs.length<=1000) (hs:∀(i:Nat)(x y:V)(b:Bool)(H2:Hp)(Q':VK),xs[i]? =some x->ys[i]? =some y->bs[i]? =some b->aH H H2->(∀H3,aH H2 H3->Q' (.bl b) H3)->te (some x::some y::rest) H2 Q') (hq:∀H',aH H H'->H' D=some (.lst (bs.map V.bl))->Q (.ref D) H'):mh (uX K b1 b2 l1 l2) (BL K n (wN (ie 0) (wN (ie 1) F1))) kL te Q D (none::none::rest) H0:=by
 subst hn;let hD:=nw.no;erw[xo bs.length (λi O H2=>aH H H2/\H2 D=some (.lst ((bs.take i).map V.bl))/\∃v v',O=v::v'::rest) ?_ ?_ ?_]
 ·erw[nw.same,nw.at',none,none,Z]
 ·rintro i O H2 hi ⟨s2,d2,v,v',rfl⟩
  let hx:i<xs.length:=by lia
  let hy:i<ys.length:=by lia
  let ex:=bo hx;let ey:=bo hy;let eb:=bo hi;erw[#[xs,ys,_,_,h1.go s2,h2.go s2,ex,ey],λy' H3 mR=>?_];let(T,x0,y0,rfl,k1,k2,n3):=mR;let e1:=k1 _ (h1.go s2);let e2:=k2 _ (h2.go s2);rw[ex]at e1;rw[ey]at e2;cases e1;cases e2;erw[T,_,Z,aW.of n3.at',Z,_,_,Z,_,_,Z,Z,?_];erw[yes (bA ?_)];erw[hs i _ _ _ _ _ ex ey eb (s2.trans n3.same) λH4 s4=>?_];erw[_,s4 _ _ (n3.same _ _ d2),?_,bs.length-(i+1),aw,Z,aw,λb o e=>?_,?_,_,_,Z]
  ·rw[bB,jM]
   have:(1000:Nat)<sizeLine:=by decide
   lia
  ·rw[aU (dH e hD)];erw[s4 b o (n3.same b o (s2 b o e))]
  ·rw[bP,lG,eb,jr];rfl
 ·rintro O H2 ⟨s2,d2,v,v',rfl⟩
  erw[#[xs,ys,h1.go s2,h2.go s2,aw],hq H2 s2 ?_];rw[d2,zL]
theorem gj.there{P:ai}{w:World}(x:gj P w H h a o):∃ob,h.get? a=some ob:=by induction o with |lst xs=>let(_,_,_,_,e):=x;erw[_,e] |tup xs=>let(_,_,_,ob,e,_):=x;erw[ob,e] |dK fm=>let(_,_,_,_,ob,_,_,e,_):=x;erw[ob,e] |dT fm=>let(_,_,_,_,ob,_,_,e,_):=x;erw[ob,e] |set S n=>let(ob,_,_,_,e,_):=x;erw[ob,e] |ins C dx fs=>let(_,_,_,e,_):=x;erw[_,e] |own y=>erw[x] |xd fs=>let(_,(ob,_,_,e,_),_):=x;erw[ob,e] |vJ lo hi=>let(_,_,_,e):=x;erw[_,e] |oU ob u=>erw[_,x.1] |rA ps=>erw[_,x] |met f y=>erw[_,x] |ext φ=>erw[x.2.1]
structure Fl(P:ai)(w:World)(outer:List Env)(H:Hp)(h₁:Heap)(ex:Addr)(H':Hp)(B h:Heap):Prop where
 un:Un (fV outer) [] H H' h₁ h
 bp:fb P w H' h
 k1:∀b o,h₁.get? b=some o->H b=none->b∉fV outer->B.get? b=some o
 k2:∀b o,H' b=some o->∃ob,B.get? b=some ob
 k3:∀b o,h₁.get? b=some o->b∉fV outer->∃ob,B.get? b=some ob
 fr:∀b∈fV outer,H' b=none
 nw:h₁.get? ex=none
 ne:H' ex=none
theorem Fl.step{P:ai}{w:World}{aD:Heap}(F:Fl P w outer H h₁ ex H' B h)(st:B.StaysIn h)(hW:B.StaysIn h')(up:h.UpToSlots h')(ff:h.FunFrames aD outer):Fl P w outer H h₁ ex H' B h':=by
 let slot:∀b o,h₁.get? b=some o->H b=none->b∈fV outer->∃sl,h'.get? b=some {o with slots:=sl}:=λb o e n hb=>by let(sl,e1):=F.un.slot b o e n hb (by simp);let(_,o2,e2,hd):=ff.mem hb;rw[e1]at e2;cases e2;let(GN,e3):=up b _ e1 (λvs=>hd vs);erw[GN,e3]
 erw[#[λb o e n hb _=>hW b o (F.k1 b o e n hb),λb o e n hb _=>slot b o e n hb,F.un.free,λb o e hx=>?_,F.un.lM,F.un.kU,F.un.lO],λb u e=>?_,F.k1,F.k2,F.k3,F.fr,F.nw,F.ne]
 ·by_cases hb:b∈fV outer
  ·let(_,o2,e2,hd):=ff.mem hb
   let(sl,e3):=up b o2 e2 hd;erw[_,e3]
  ·let(ob,e1):=F.k3 b o e hb
   erw[ob,hW b ob e1]
 ·refine(F.bp b u e).ny (λc v hc q=>?_) (λ_ q=>q) λ_ _ q=>q
  let inB:∃ob,B.get? c=some ob:=by
   rcases hc with z|z
   ·rw[z];erw[F.k2 b u e]
   ·erw[F.k2 c _ z]
  let(ob,e1):=inB;let e2:=st c ob e1;rw[q]at e2;cases e2;erw[hW c _ e1]
structure Exc(K:ag)(mg:bU)(x:Str)(C:Addr)(gz:List Value)(newId:String):Prop where
 at':mg x=some (.ref C)
 ok:PySem.W.excIn K C gz newId=true
theorem Exc.own{K:ag}{mg:bU}{C:Addr}(e:Exc K mg x C gz newId)(X:K.In h):OwnCls x C gz newId mg h:=by
 erw[e.at',?_];let q:=e.ok;unfold PySem.W.excIn at q;split at q
 ·rename_i dd cd sl ho
  split at q
  ·rename_i D2 bl a0 a1 a2 a3 nn a5 hm hs
   simp only[fC,fY,M1]at q;let(((((r1,r2),BC),ht),bp),Bt):=q;subst r1 r2;let(c1,c2,c3,c4,c5,c6,c7,c8,c9,c10,c11):=cd;dsimp only at hm BC bp Bt;subst hm BC;obtain⟨l⟩:=sl;simp only at hs;subst hs;erw[bl,c4,c1,c5,c2,c6,c7,c8,c9,c10,dd,a0,a1,a2,a3,a5,_,X _ _ ho,.of_isNs (PySem.W.isNs_of_in X bp),PySem.W.nsMap_none_of_in X bp Bt,PySem.W.tail_of_in X ht]
  ·cases q
 ·cases q
section
variable {M:Model}{A:ak}{Ex:Value->ah->Prop}
theorem ab2{h:Heap}{g:Array GenState}{d:Drawn}{tk:Nat}{os:OsState}{e:Addr}{oe:Obj}{Q:Bool->ah->Prop}{C D N N':Addr}{nm SX q q':Str}{bs WC bm Kz:List Value}{hdct UN:Bool}{sn Ni:List Str}{sub MJ:List Value}{ab Xh:Bool}{col Wx:Option Bool}{dd Wi:Option Addr}{k0 k1 k2 k3 k5 j0 j1 j2 j3 j5:Option Value}{newId a5B:String} (hC:h.get? C=some (excClassObj nm q C N bs bm hdct sn sub ab col dd k0 k1 k2 k3 k5 newId))(hD:h.get? D=some (excClassObj SX q' D N' WC Kz UN Ni MJ Xh Wx Wi j0 j1 j2 j3 j5 a5B)) (he:h.get? e=some oe)(BD:oe.cls= .ref C)(hb:Kz.contains (.type "BaseException")=true)(hs:(Value.ref C::bm).contains (.ref D)=true) (hq:Q true #[h,g,d,tk,os]):wpAny M A (excMatches (.ref e) (.ref D)) Q Ex #[h,g,d,tk,os]:=by
 let hcB:(Value.ref D::Kz).contains (.type "BaseException")=true:=by rw[Yh,hb,Bool.or_true]
 let f:=tc_notTuple;unfold excMatches
 repeat (first|(with_reducible erw[xJ he ?_];rw[BD])|with_reducible erw[xJ hD ?_]|(with_reducible erw[Lp hD ?_];rw[hcB])|(with_reducible erw[Lp hC ?_];rw[hs])|with_reducible erw[xJ hC ?_]|wp_step)
 erw[hq]
end
abbrev Cx.hand(X:Cx)(ex:Addr):Cx:={X with A:=X.A.mark (some (.ref ex)),calm:=false,xe:=λ_ _=>False}
section
variable {X:Cx}{ay:List (Addr×Obj)}{O:St}{H:Hp}{s:ah}
theorem Inv.hand(I:Inv X ay O H s)(ex:Addr):Inv (X.hand ex) ay O H s:=#[#[I.ok.mod,I.ok.kind,I.ok.glob,I.ok.blt,I.ok.above,I.ok.inj,I.ok.has,I.ok.uR,λh=>(jt h).elim,I.ok.frames,I.ok.vz,I.ok.BR,I.ok.bs,I.ok.mY,I.ok.uu,I.ok.qA,I.ok.kD,I.ok.oW],I.os,I.bare,I.aD,I.loc,I.cell,I.free,I.kW,I.pin,I.bp,I.len]
theorem Inv.back(ok:X.Ok)(I:Inv (X.hand ex) ay O H s):Inv X ay O H s:=#[ok,I.os,I.bare,I.aD,I.loc,I.cell,I.free,I.kW,I.pin,I.bp,I.len]
theorem YS{M:Model}{A:ak}{E:Value->ah->Prop}{i:Nat}{x:Str}{v:V}{pos:Pos}{Q:Unit->ah->Prop}(I:Inv X ay O H s)(hN:X.N.Nodup)(hi:X.N[i]? =some x)(hk:X.env.kindOf x=some .local)(hs:X.env.scope.names.lookup x=some .local) (hv:O[i]? =some (some v))(h:∀s',Inv X ay (O.set i none) H s'->Q () s'):wpAny M A (unbindBehindTheSuite X.env x pos) Q E s:=by
 let(m,hn,hl):=id I.loc;let BD:(X.env.scope.kind== .class||(X.env.scope.kind== .module&&X.env.locals !=X.env.globals))=false:=by rw[I.ok.kind];rfl
 let ES:i<O.length:=by rw[I.len];exact(cm.mp hi).1
 let m6:=I.m6;let(u,r,look):=hl i x v hi hv (.inl hs);let hm:m x=some u:=by
  rcases look with⟨_,e⟩|⟨k,_⟩
  ·erw[e]
  ·rcases k with k|k<;>(rw[hk]at k;cases k)
 unfold unbindBehindTheSuite;erw[FO (wpAny_unbindName_local hk hn hm BD λh' u' Jf wx=>?_)];let(oL,_,_,UA,_):=id hn;let tr:fb X.prog X.w H h':=λb ob e=>by
  refine(I.bp b ob e).ny (λc w' hc q=>(wx.2 c ?_).trans q) (λ_ q=>q) λ_ _ q=>q;rintro rfl;rcases hc with rfl|hc
  ·rw[I.free]at e;cases e
  ·rw[I.free]at hc;cases hc
 let lt:∀b o,X.s₀.heap.get? b=some o->b≠X.env.locals:=λb o e=>eR (gK (cC e) I.ok.above);erw[h _ #[I.ok,I.os,I.bare,#[λb o e n hb hx=>(wx.2 b (lt b o e)).trans (I.aD.keep b o e n hb hx),λb o e n hb hx=>?_,I.aD.free,λb o e hx=>?_,I.aD.lM,I.aD.kU,I.aD.lO],#[_,Jf,λj y v' e1 e2 e3=>?_],λy c e=>?_,I.free,I.kW,λp hp=>?_,tr,by simpa using I.len]]
 ·let(sl,e1):=I.aD.slot b o e n hb hx
  erw[sl,(wx.2 b (lt b o e)).trans e1]
 ·let(o',e1):=I.aD.there b o e hx
  erw[o',(wx.2 b (lt b o e)).trans e1]
 ·by_cases hj:j=i
  ·subst hj
   rw[D5 ES]at e2;cases e2
  ·rw[LS (kJ hj)]at e2
   let(u2,r2,q):=hl j y v' e1 e2 e3;erw[u2,r2,?_];rcases q with⟨k,e⟩|⟨k,c,e,z⟩
   ·have:y≠x:=λe=>hj (Ib hN e1 (e▸hi))
    erw[.inl #[k,by simp[this,e]]]
   ·erw[.inr #[k,c,e,z.sameBut wx (m6 y c e)]]
 ·let(w',z):=I.cell y c e
  erw[w',z.sameBut wx (m6 y c e)]
 ·let(e,n,ne,nf,d):=I.pin p hp
  erw[(wx.2 p.1 ne).trans e,n,ne,nf,d]
end
def qN(X:Cx)(st:List Stmt)(t:TS):Prop:=∀(s:ah)(O:St)(H:Hp)(D:Ends),Inv X [] O H s->t D O H->wpAny (model X.prog X.w) X.A (execs st X.env) (SP X [] D) X.xe s
def Xs(X:Cx)(st:Stmt)(t:TS):Prop:=∀(s:ah)(O:St)(H:Hp)(D:Ends),Inv X [] O H s->t D O H->wpAny (model X.prog X.w) X.A (exec st X.env) (SP X [] D) X.xe s
theorem Inv.acO{X:Cx}{ay:List (Addr×Obj)}{O:St}{H:Hp}{s:ah}(I:Inv X ay O H s):Inv X [] O H s:=#[I.ok,I.os,I.bare,I.aD,I.loc,I.cell,I.free,I.kW,λp hp=>I.pin p (LQ _ (by simpa using hp)),I.bp,I.len]
theorem a9y{P:ai}{w:World}{K:ag}{mg:bU}{aD:Heap}{kV:Value}(lk:K.lookup f=some #[oc,od,.func (PySem.W.fnOf name qual params body scope dV kV doc pm an aM ct),gc])(fU:PySem.W.codeIn K aM qual=true)(S:bu N ps scope) (len:∀vs H Q E,sp vs H Q E->vs.length=ps.length) (jk:∀(A:ak)(outer:List Env)(s:ah)(H:Hp)(vs:List V)(Q:VK)(E:XK),df k (A.deeper (envOfC qual scope s.heap.objs.size f aM))->sp vs H Q E->∃t,qN (jn CX P w K mg aD N qual scope f aM A outer s H E) body t/\t {nx:=λ_ H'=>Q .bM H',rt:=Q} (start N vs) H): iq P w K mg aD CX (k+1) f (PySem.W.fnOf name qual params body scope dV kV doc pm an aM ct) ps sp:=by
 erw[len,λA outer s H args us vs Q E hr e0 hb r iJ=>?_];let hl:=len _ _ _ _ iJ;let KX:K.In s.heap:=e0.mod.qe.keeps λb o e=>(e0.bs b o e).1;let lim:s.heap.NoLimit:=e0.mod.nolimit.keeps λb o e=>(e0.bs b o e).1;let lV:∀y∈ps.zip us,scope.names.lookup y.1=some .local\/(scope.names.lookup y.1=some .cell/\((cellsFrom (s.heap.objs.size+1) scope.names []).lookup y.1).isSome=true):=λ#[n,v] hy=>by
  rcases S.par n (zM hy).1 with q|q
  ·erw[.inl q]
  ·erw[.inr #[q,Lz _ _ _ (.inl q)]]
 erw[XU hr.depth (KX _ _ lk) Z S.co S.gen Z (Y2 KX fU) (hb _ _ _ _ ?_)];erw[XO S.kind lV λenv he s1 x=>?_];subst he;erw[lim.keeps x.toInCall.keep,codeAny_func ?_];let(t,ht,hq):=jk A outer s H vs Q E (hr.deeper _) iJ;let I:Inv (jn CX P w K mg aD N qual scope f aM A outer s H E) [] (start N vs) H s1:=IW S hr.hd e0 hl r x;erw[fM (ht s1 (start N vs) H _ I hq) (λfl s' hs=>?_) λe s' hs=>hs];let fin:∀{σ':St}{H':Hp}{v:V}{u:Value},Inv (jn CX P w K mg aD N qual scope f aM A outer s H E) [] σ' H' s'->RelV v u->Q v H'->CE outer P w H s Q u s':=λ{σ' H' v u} J rv q=>#[v,H',J.os,J.bare,J.aD,J.bp,rv,q];cases fl with |ret u=>let(v,σ',H',J,rv,q):=hs;erw[fin J rv q] |next=>let(σ',H',J,q):=hs;erw[fin (v:=V.bM) (u:=Value.none) J Z q] |brk=>let(_,_,_,q):=hs;erw[False.elim q] |cont=>let(_,_,_,q):=hs;erw[False.elim q]
def ExcAt(ex:Addr)(cls:Value)(h:Heap):Prop:=∃o,h.get? ex=some o/\o.cls=cls
def takes(K:ag)(C D:Addr):Prop:=PySem.W.mroIn K C (.ref D)=some true
end _L
namespace _L
open PySem PySem.Spec PyProof.Rows PySem.W Builtin.Getset_descriptor
section
variable {prog:ai}{w:World}{A:ak}{E:Value->ah->Prop}{h:Heap}{g:Array GenState}{d:Drawn}{t:Nat}{os:OsState}{K:Frag}{x C:Addr}{o:Obj}
theorem Vp(h1:h.get? x=some o)(h2:o.cls= .ref C):Looks M h (typeOf (.ref x)) (.ref C):=h2▸(Looks.ld h1).andThen .now
structure pq(K:Frag)(C:Addr):Prop where
 ga:findIn K (.ref C) "__getattribute__"=some (some (.builtin "BaseException.__getattribute__"))
 gx:findIn K (.ref C) "__getattr__"=some none
 cl:findIn K (.ref C) "__class__"=some (some (.builtin "object.__class__"))
 gt:specialIn K (.builtin "object.__class__") "__get__"=some (some (.builtin "getset_descriptor.__get__"))
 tk:takesIn K (.builtin "object.__class__")=some true
 ob:mroIn K C (.type "object")=some true
 be:mroIn K C (.type "BaseException")=some true
 is:hasDictIn K C=true
theorem a6z(X:K.In h)(k:pq K C):Looks M h (Builtin.ObjectAttr.find (.ref x) (.ref C) "__class__") (.bind (.builtin "getset_descriptor.__get__") (.builtin "object.__class__")):=by let L1:=FV (M:=M) X k.cl;let _L:Looks M h (Builtin.ObjectAttr.getOf (some (.builtin "object.__class__"))) (some (.builtin "getset_descriptor.__get__")):=looks_specialIn X k.gt;let L3:=looks_takesIn (M:=M) X k.tk;unfold Builtin.ObjectAttr.find;erw[L1.andThen (_L.andThen ?_)];let L4:Looks M h (Builtin.ObjectAttr.dataDescriptor? (some (.builtin "object.__class__")) (some (.builtin "getset_descriptor.__get__"))) (some (.builtin "getset_descriptor.__get__",.builtin "object.__class__")):=L3.andThen .now;erw[L4.andThen (Looks.tag .now)]
theorem V9{M:Model}{Td:Value}{Q:Unit->ah->Prop}(X:K.In h)(k:pq K C)(L0:Looks M h (typeOf (.ref x)) (.ref C))(hq:Q () #[h,g,d,t,os]): wpAny M A (checkBuiltinCall "BaseException.__getattribute__" #[[.ref x,Td],[]]) Q E #[h,g,d,t,os]:=by
 let hk:builtinKind "BaseException.__getattribute__"=some .slot:=by decide+kernel
 let iJ:splitId "BaseException.__getattribute__"=some ("BaseException","__getattribute__"):=by decide+kernel
 let ha:=PySem.F.args_bexc_ga (.ref x) Td;let L1:=looks_mroIn (M:=M) X k.be;simp only[checkBuiltinCall,hk,iJ];erw[aJ ?_];unfold isInstance;erw[aJ (L0.at (L1.at ?_))]
 repeat (first|assumption|wp_step)
theorem get_cls{R:Result->ah->Prop}{tp:Value}(X:K.In h)(k:pq K C)(L0:Looks (model prog w) h (typeOf (.ref x)) (.ref C))(hq:R (.ok (.ret (.ref C))) #[h,g,d,t,os]): codeAny (model prog w) A (.call (.builtin "getset_descriptor.__get__") #[[.builtin "object.__class__",.ref x,tp],[]]) R #[h,g,d,t,os]:=by
 let L1:=looks_mroIn (M:=model prog w) X k.ob;erw[FX KF.slot_gs.plain KF.entry_gs (KF.slot_gs.check _ _ _ _ _ _ _ _ KF.type_class (KF.args_gs _ _ _) ?_)];unfold Builtin.«getset_descriptor.__get__»descrGet;rw[dga_obj];erw[aJ (bN ?_)];unfold descrGetter descrCheckInstance descrNameAndClass isInstance;simp only[KF.owner_class];repeat lk
 erw[Code.quiet_builtin _ aP,codeAny_builtin KF.entry_class ?_];unfold Builtin.«object.__class__»shownTypeOf;repeat lk
 erw[hq]
theorem a9c{tk:Tok}{Q:Fin->ah->Prop}(X:K.In h)(k:pq K C)(L0:Looks (model prog w) h (typeOf (.ref x)) (.ref C)) (hq:Q (.done (.ret (.ref C))) #[h,g,d,t,os]):wpAny (model prog w) A (Builtin.«object.__getattribute__» #[[.ref x,.str "__class__" tk],[]]) Q E #[h,g,d,t,os]:=by let L1:=a6z (M:=model prog w) (x:=x) X k;erw[aJ (bN (aJ (bN (aJ (L0.at (aJ (L1.at ?_)))))))];show wpAny _ _ (Builtin.ObjectAttr.bindTo _ _ (.ref x) (.ref C)) _ _ _;unfold Builtin.ObjectAttr.bindTo;show wpAny _ _ (holding [_] (call (.builtin "getset_descriptor.__get__") [.builtin "object.__class__",.ref x,.ref C])>>=_) _ _ _;erw[aJ (jI (vc (get_cls X k L0 (bN hq))))]
theorem acd{Q:Option Value->ah->Prop}(X:K.In h)(k:pq K C)(L0:Looks (model prog w) h (typeOf (.ref x)) (.ref C)) (hq:Q (some (.ref C)) #[h,g,d,t+1,os]):wpAny (model prog w) A (getAttr? (.ref x) "__class__") Q E #[h,g,d,t,os]:=by
 let L1:=FV (M:=model prog w) X k.ga;let _L:=FV (M:=model prog w) X k.gx;let f3:=LC.ga.bind (.ref x);let J3:(Value.builtin "BaseException.__getattribute__"==Value.builtin "object.__getattribute__")=false:=by decide+kernel
 unfold getAttr? getAttrBy? getAttrBy;erw[aJ (wpAny_mkText (aJ (FT (jI (aJ (L0.at (aJ (L1.at ?_))))))))];show wpAny _ _ (if(onTheHeap (Value.ref C)&&Value.builtin "BaseException.__getattribute__"==Value.builtin "object.__getattribute__")=true then _ else _) _ _ _;rw[J3,M5,aV aA];unfold getAttrByItsOwn hookBefore;erw[aJ ?_];show wpAny _ _ (typeLookup (.ref C) "__getattr__") _ _ _;erw[_L.at (aJ (FT (jI ?_)))];unfold callGetattribute;show wpAny _ _ (boundAndCalled _ _ _) _ _ _;unfold boundAndCalled;rw[f3];erw[aJ (bN (vc ?_))];erw[FX LC.ga.plain PySem.F.entry_bexc_ga (V9 X k L0 (a9c X k L0 ?_))];erw[handed_on Z (bN hq)]
theorem Uc(k:pq K C):KitX K (.ref x) (.ref C) (ExcAt x (.ref C)) where
 ty:=λM h _ p=>by let(o,h1,h2):=p;erw[Vp h1 h2]
 it:=λ_ _ X _=>by
  let(cd,hc,_):=any_some k.is;unfold clsIn at hc;split at hc
  ·rename_i c1 d1 cd1 sl1 ho
   intro A' Q' E' s' kk q;unfold isType loadHead;erw[aJ (Lo (kk _ _ (X _ _ ho)) (bN q))]
  ·cases hc
 ne:=λh tp dd its n sl X htp=>by
  let(cd,hc,_):=any_some k.is;erw[xS.mpr λq=>?_];let e:C=tp:=Value.ref.inj (fC.mp q);subst e;unfold clsIn at hc;split at hc
  ·rename_i c1 d1 cd1 sl1 ho
   cases(X _ _ ho).symm.trans htp
  ·cases hc
 ca:=λ{prog w A E Q s} X p q=>by let(o,h1,h2):=p;let(h0,g0,d0,t0,os0):=s;erw[acd X k (Vp h1 h2) q]
end
end _L
namespace _L
open PySem PySem.Spec PyProof.Rows
def ace:V->Option Value | .ref D=>some (.ref D) | .ty n=>some (.type n) |_=>none
theorem Me:∀{Ds:List Addr}{us:List Value},Vals (Ds.map V.ref) us->us=Ds.map Value.ref |[],_,.nil=>rfl |n::r,_,.cons q t=>by cases(show _=Value.ref n from q);rw[Me t];rfl
theorem acG:bootBuiltins "ValueError"=some (.type "ValueError"):=by kernel_rfl
@[reducible]def Ky:List Value:=[.type "ValueError",.type "Exception",.type "BaseException",.type "object"]
@[reducible]def SO:String:="ValueError.__new__"
theorem FA.a8D{P:ai}{w:World}{K:ag}{mg:bU}{aD:Heap}{x:Str}{st:Stmt}{N ps:List Str}{k:Nat}{sp:Sp}(F:FA K mg x st)(S:bu N ps (aX st))(len:∀vs H Q E,sp vs H Q E->vs.length=ps.length) (hb:∀(kV doc pm:Value)(an:Option Addr)(aM ct:Value)(us:List Value),us.length=ps.length->bindArgs (PySem.W.fnOf x x (m5 st) (gS st) (aX st) .none kV doc pm an aM ct) #[us,[]]=pure (ps.zip us)) (jk:∀(f:Addr)(aM:Value)(A:ak)(outer:List Env)(s:ah)(H:Hp)(vs:List V)(Q:VK)(E:XK),df k (A.deeper (envOfC x (aX st) s.heap.objs.size f aM))->sp vs H Q E->∃t,qN (jn iM P w K mg aD N x (aX st) f aM A outer s H E) (gS st) t/\t {nx:=λ_ H'=>Q .bM H',rt:=Q} (start N vs) H):bE P w K mg aD x (k+1) sp:=by let(f,fd,hm,F):=F.ex;let sP:=F.binds hb;let kp:=F.kp;let(oc,od,kV,doc,pm,an,aM,ct,gc,rfl,lk,fU):=F.ex;erw[f,_,ps,a9y lk fU S len λA outer s H vs Q E hr iJ=>jk f aM A outer s H vs Q E hr iJ,hm,kp,sP]
end _L
namespace _A
theorem a9b(a b:Int):Int.gcd b (a.fmod b)=Int.gcd a b:=by rw[Int.fmod_def,Int.gcd_sub_mul_left_right,Int.gcd_comm]
theorem V8(h:0<b):Int.gcd b (a%b)=Int.gcd a b:=by rw[<-Int.fmod_eq_emod_of_nonneg a (D9 h)];erw[a9b a b]
def sg(p q:Int):Int:=if q<0 then-(Int.gcd p q:Int)else(Int.gcd p q:Int)
def lowP (p q:Int):Int:=p.fdiv (sg p q)
def iI (p q:Int):Int:=q.fdiv (sg p q)
theorem EZ(h:q≠0):0<(Int.gcd p q:Int):=by
 have:Int.gcd p q≠0:=λz=>h (Int.gcd_eq_zero_iff.mp z).2
 lia
theorem Ah(h:q≠0):sg p q≠0:=by have:=EZ (p:=p) h;unfold sg;split<;>omega
theorem Nm(p q:Int):sg p q∣p:=by
 unfold sg;split
 ·erw[Int.neg_dvd.mpr (Int.gcd_dvd_left p q)]
 ·erw[Int.gcd_dvd_left p q]
theorem Nl(p q:Int):sg p q∣q:=by
 unfold sg;split
 ·erw[Int.neg_dvd.mpr (Int.gcd_dvd_right p q)]
 ·erw[Int.gcd_dvd_right p q]
theorem IA(p q:Int):sg p q*lowP p q=p:=by unfold lowP;rw[Int.fdiv_eq_ediv_of_dvd (Nm p q)];erw[Int.mul_ediv_cancel' (Nm p q)]
theorem Ez(p q:Int):sg p q*iI p q=q:=by unfold iI;rw[Int.fdiv_eq_ediv_of_dvd (Nl p q)];erw[Int.mul_ediv_cancel' (Nl p q)]
theorem Np(p q:Int):(sg p q).natAbs=Int.gcd p q:=by unfold sg;split<;>lia
theorem a6w(h:q≠0):Int.gcd (lowP p q) (iI p q)=1:=by
 let e:Int.gcd (sg p q*lowP p q) (sg p q*iI p q)=(sg p q).natAbs*Int.gcd (lowP p q) (iI p q):=Int.gcd_mul_left _ _ _;rw[IA,Ez,Np]at e;let g:=EZ (p:=p) h;let g':0<Int.gcd p q:=by lia
 let e':Int.gcd p q*1=Int.gcd p q*Int.gcd (lowP p q) (iI p q):=by lia
 exact(Nat.eq_of_mul_eq_mul_left g' e').symm
theorem a6x(h:q≠0):0<iI p q:=by
 let e:=Ez p q;let g:=EZ (p:=p) h;by_cases hq:q<0
 ·let es:sg p q=-(Int.gcd p q:Int):=by unfold sg;rw[aQ hq]
  rw[es]at e;erw[Int.not_le.mp λhl=>?_];have:0<=-(Int.gcd p q:Int)*iI p q:=Yj aw hl
  lia
 ·let es:sg p q=(Int.gcd p q:Int):=by unfold sg;rw[aV hq]
  rw[es]at e;erw[Int.not_le.mp λhl=>?_];have:(Int.gcd p q:Int)*iI p q<=0:=Int.mul_nonpos_of_nonneg_of_nonpos aw hl
  lia
theorem Xg{s x y:Int}(hs:s≠0)(e:s*x=y):x.natAbs<=y.natAbs:=by rw[<-e,gL];erw[Nat.le_mul_of_pos_left _ aw]
theorem a6y(h:q≠0):(lowP p q).natAbs<=p.natAbs:=Xg (Ah h) (IA p q)
theorem TK(h:q≠0):(iI p q).natAbs<=q.natAbs:=Xg (Ah h) (Ez p q)
theorem Nk(h:q≠0):(sg p q).natAbs<=q.natAbs:=by rw[Np];erw[Nat.le_of_dvd aw (Int.gcd_dvd_natAbs_right p q)]
end _A
namespace _d
open Rat
theorem Ey(hb:b≠0):_A.lowP a b=(Rat.divInt a b).num/\_A.iI a b=((Rat.divInt a b).den:Int):=by
 let hp:=_A.a6x (p:=a) hb;let hc:=_A.a6w (p:=a) hb;let a8p:(_A.iI a b).natAbs≠0:=by lia
 let a8r:(_A.lowP a b).natAbs.Coprime (_A.iI a b).natAbs:=hc;let e1:Rat.divInt a b=Rat.divInt (_A.lowP a b) (_A.iI a b):=by let h:=Rat.divInt_mul_left (a:=_A.sg a b) (n:=_A.lowP a b) (d:=_A.iI a b) (_A.Ah hb);rw[_A.IA,_A.Ez]at h;erw[h]
 let e2:(#[_A.lowP a b,(_A.iI a b).natAbs,a8p,a8r]:Rat)=Rat.divInt (_A.lowP a b) (((_A.iI a b).natAbs:Nat):Int):=Rat.mk_eq_divInt;let e3:(((_A.iI a b).natAbs:Nat):Int)=_A.iI a b:=by lia
 rw[e3]at e2;rw[e1,<-e2];erw[Z,e3.symm]
theorem den_pos(r:Rat):(0:Int)<(r.den:Int):=by have:=r.den_pos;omega
theorem cop(r:Rat):Int.gcd r.num r.den=1:=by have:=r.reduced;simpa[Int.gcd,Nat.Coprime]using this
structure Bd(n:Nat)(r:Rat):Prop where
 num:r.num.natAbs<2^n
 den:r.den<2^n
theorem Bd.mono(h:Bd n r)(l:n<=m):Bd m r:=#[gK h.num (tP aA l),gK h.den (tP aA l)]
theorem oH(h:a<2^n)(g:b<2^m):a*b<2^(n+m):=by rw[Nat.pow_add];erw[Nat.mul_lt_mul'' h g]
theorem nL(hb:b≠0)(h1:a.natAbs<2^n)(h2:b.natAbs<2^n):Bd n (Rat.divInt a b):=by
 let(e1,e2):=Ey (a:=a) hb;let l1:=_A.a6y (p:=a) hb;let l2:=_A.TK (p:=a) hb;erw[?_,?_]
 ·rw[<-e1];lia
 ·lia
theorem tj(r s:Rat):(r.den:Int)*(s.den:Int)≠0:=Int.ne_of_gt (hJ (den_pos r) (den_pos s))
theorem add_div(r s:Rat):r+s=Rat.divInt (r.num*s.den+s.num*r.den) (r.den*s.den):=by let h:=Rat.divInt_add_divInt r.num s.num (d₁:=r.den) (d₂:=s.den) (by have:=den_pos r;lia) (by have:=den_pos s;lia);rw[vf,vf]at h;erw[h]
theorem a00(r s:Rat):r-s=Rat.divInt (r.num*s.den-s.num*r.den) (r.den*s.den):=by let h:=XX r.num s.num (d₁:=r.den) (d₂:=s.den) (by have:=den_pos r;lia) (by have:=den_pos s;lia);rw[vf,vf]at h;erw[h]
theorem mul_div(r s:Rat):r*s=Rat.divInt (r.num*s.num) (r.den*s.den):=by let h:=Rat.divInt_mul_divInt r.num s.num (d₁:=r.den) (d₂:=s.den);rw[vf,vf]at h;erw[h]
section
variable {n m:Nat} {r s:Rat}
theorem abV(h:Bd n r)(g:Bd m s):(r.num*s.den).natAbs<2^(n+m):=by rw[gL];erw[oH h.num (by have:=g.den;omega)]
theorem abU(h:Bd n r)(g:Bd m s):(s.num*r.den).natAbs<2^(n+m):=by rw[gL,Nat.mul_comm];erw[oH (by have:=h.den;lia) g.num]
theorem Kn(h:Bd n r)(g:Bd m s):((r.den:Int)*(s.den:Int)).natAbs<2^(n+m):=by rw[gL];erw[oH (by have:=h.den;lia) (by have:=g.den;lia)]
theorem Bd.add(h:Bd n r)(g:Bd m s):Bd (n+m+1) (r+s):=by
 rw[add_div];let h1:=abV h g;let h2:=abU h g;let h3:=Kn h g;let e:2^(n+m+1)=2^(n+m)+2^(n+m):=by rw[Nat.pow_succ];omega
 erw[nL (tj r s) bZ bZ]
theorem Bd.mul(h:Bd n r)(g:Bd m s):Bd (n+m) (r*s):=by rw[mul_div];erw[nL (tj r s) (by rw[gL];erw[oH h.num g.num]) (Kn h g)]
end
end _d
namespace _L
open PySem PySem.Spec PyProof.Rows
def eZ(H H':Hp):Prop:=∀b o,(∀xs,o≠ .lst xs)->H b=some o->H' b=some o
section
variable {K:ag} {H H' H2:Hp}
theorem eZ.trans(a:eZ H H')(b:eZ H' H2):eZ H H2:=λc o n e=>b c o n (a c o n e)
theorem eZ.iO{D:Addr}(h:H D=some (.lst xs)):eZ H (upd H D (.lst ys)):=λb o n e=>by rw[aU (B5 e h (n xs))];erw[e]
theorem aW.t(s:eZ H H')(h:aW K H a xs):aW K H' a xs:=h.imp (λr=>r.imp (s _ _ λ_ z=>nomatch z) λ#[o,e]=>#[o,s _ _ (λ_ z=>nomatch z) e]) id
mutual
def dG:aj->Bool | .list _=>false | .dict _=>false | .tuple ds=>bS ds | .none=>true | .bool _=>true | .int _=>true | .str _=>true
def bS:List aj->Bool |[]=>true |d::ds=>dG d&&bS ds
end
theorem cj:∀{ds:List aj},bS ds=true↔∀d∈ds,dG d=true
 |[]=>#[λ_ _ h=>(nomatch h),λ_=>by simp[bS]] |d::ds=>by
  rw[bS,fY,cj (ds:=ds)];constructor
  ·rintro⟨a,b⟩ x hx
   rcases dg.mp hx with rfl|hx
   ·erw[a]
   ·erw[b x hx]
  ·intro h
   erw[h d (.head _),λx hx=>h x (.tail _ hx)]
theorem mK(ns:List Int):bS (ns.map PyData.int)=true:=cj.mpr λd hd=>by let(i,_,rfl):=gC.mp hd;simp[dG]
mutual
theorem RD.t(s:eZ H H'):∀{x:V}(d:aj),dG d=true->RD K H x d->RD K H' x d |x,.none,_,h=>by simpa[RD]using h |x,.bool b,_,h=>by simpa[RD]using h |x,.int i,_,h=>by simpa[RD]using h |x,.str y,_,h=>by simpa[RD]using h |x,.list ds,n,h=>by simp[dG]at n |x,.tuple ds,n,h=>by rw[RD]at h⊢;let(a,xs,e,h1,h2):=h;erw[a,xs,e,h1.t s,aI.t s ds (by simpa[dG]using n) h2] |x,.dict _,_,h=>by simp[RD]at h
theorem aI.t (s:eZ H H'):∀{xs:List V}(ds:List aj),bS ds=true->aI K H xs ds->aI K H' xs ds |xs,[],_,h=>by simpa[aI]using h |xs,d::ds,n,h=>by rw[aI]at h⊢;rw[bS,fY]at n;let(y,ys,e,h1,h2):=h;erw[y,ys,e,RD.t s d n.1 h1,aI.t s ds n.2 h2]
end
theorem aI.j7:∀{xs:List V}{ns:List Int},aI K H xs (ns.map PyData.int)->xs=ns.map V.int |xs,[],h=>h.nil_inv |xs,n::ns,h=>by let(y,ys,rfl,h1,h2):=h.cons_inv;rw[h1.int_inv,aI.j7 h2];rfl
theorem ug:∀(ns:List Int),aI K H (ns.map V.int) (ns.map PyData.int) |[]=>cH |n::ns=>bX (dF n) (ug ns)
theorem Ks{xs:List V}{ds:List aj}{D:Addr}(rest:St)(nw:Nw H H0 D (.lst []))(hl:xs.length=ds.length)(hz:xs.length<=1000)(hn:bS ds=true) (go:∀i x H2,xs[i]? =some x->aH H H2->J.go i H2/\∀y H3,J.jO i H2 y H3->H3=H2/\y=x)(stop:∀H2,aH H H2->J.stop xs.length H2) (hs:∀(i:Nat)(x:V)(d:aj)(H2:Hp)(Q':VK),xs[i]? =some x->ds[i]? =some d->aH H H2->(∀y H3,aH H2 H3->RD K H3 y d->Q' y H3)->te (some x::rest) H2 Q') (hq:∀H' ys,aH H H'->H' D=some (.lst ys)->aI K H' ys ds->Q (.ref D) H'):mh J (ie 0) kL te Q D (none::rest) H0:=by
 let hD:=nw.no;erw[xo xs.length (λi O H2=>aH H H2/\(∃ys,H2 D=some (.lst ys)/\aI K H2 ys (ds.take i))/\∃v,O=v::rest) ?_ ?_ ?_]
 ·erw[nw.same,#[[],nw.at',cH],none,Z]
 ·rintro i O H2 hi ⟨s2,⟨ys,d2,r2⟩,v,rfl⟩
  let EU:i<ds.length:=by rw[<-hl];erw[hi]
  let ex:=bo hi;let eb:=bo EU;let(g1,g2):=go i _ H2 ex s2;erw[g1,λy H3 hy=>?_];let(rfl,rfl):=g2 y H3 hy;erw[Dm ?_];erw[hs i _ _ _ _ ex eb s2 λz H4 s4 r4=>?_];let d4:=s4 _ _ d2;let len:=r2.length;rw[jM]at len;erw[ys,d4,?_,xs.length-(i+1),aw,Z,aw,λb o e=>?_,#[ys++[z],bP,?_],_,Z]
  ·have:(1000:Nat)<sizeLine:=by decide
   lia
  ·rw[aU (dH e hD)];erw[s4 b o (s2 b o e)]
  ·let t:eZ H4 (upd H4 D (.lst (ys++[z]))):=.iO d4
   rw[lG,eb];let n1:bS (ds.take i)=true:=cj.mpr λd hd=>cj.mp hn d (zN hd);exact(aI.t t _ n1 (aI.mono s4 _ r2)).append %[RD.t t _ (cj.mp hn _ (zR EU)) r4|cH]
 ·rintro O H2 ⟨s2,⟨ys,d2,r2⟩,v,rfl⟩
  erw[stop H2 s2,hq H2 ys s2 d2 ?_];rw[hl,zL]at r2;erw[r2]
theorem Fi{D:Addr}(rest:St)(hx:aW K H a xs)(nw:Nw H H0 D (.lst []))(hl:xs.length=ds.length)(hz:xs.length<=1000)(hn:bS ds=true) (hs:∀(i:Nat)(x:V)(d:aj)(H2:Hp)(Q':VK),xs[i]? =some x->ds[i]? =some d->aH H H2->(∀y H3,aH H2 H3->RD K H3 y d->Q' y H3)->te (some x::rest) H2 Q') (hq:∀H' ys,aH H H'->H' D=some (.lst ys)->aI K H' ys ds->Q (.ref D) H'):mh (uY K a) (ie 0) kL te Q D (none::rest) H0:=Ks rest nw hl hz hn (λi x H2 e s=>#[#[xs,x,hx.go s,e],λy H3 #[e3,y3]=>#[e3,by have:=y3 _ (hx.go s);rw[e]at this;exact(eQ this).symm]]) (λH2 s=>#[xs,hx.go s,aY _]) hs hq
theorem Ws{D:Addr}(rest:St)(hx:aL K H a xs)(nw:Nw H H0 D (.lst []))(hl:xs.length=ds.length)(hz:xs.length<=1000)(hn:bS ds=true) (hs:∀(i:Nat)(x:V)(d:aj)(H2:Hp)(Q':VK),xs[i]? =some x->ds[i]? =some d->aH H H2->(∀y H3,aH H2 H3->RD K H3 y d->Q' y H3)->te (some x::rest) H2 Q') (hq:∀H' ys,aH H H'->H' D=some (.lst ys)->aI K H' ys ds->Q (.ref D) H'):mh (uZ K a) (ie 0) kL te Q D (none::rest) H0:=Ks rest nw hl hz hn (λi x H2 e s=>#[#[xs,x,hx.go s,e],λy H3 #[e3,y3]=>#[e3,by have:=y3 _ (hx.go s);rw[e]at this;exact(eQ this).symm]]) (λH2 s=>#[xs,hx.go s,aY _]) hs hq
theorem Wr{lo:Int}{n:Nat}{ds:List aj}{D:Addr}(rest:St)(nw:Nw H H0 D (.lst []))(hl:n=ds.length)(hz:n<=1000)(hn:bS ds=true) (hs:∀(i:Nat)(d:aj)(H2:Hp)(Q':VK),ds[i]? =some d->aH H H2->(∀y H3,aH H2 H3->RD K H3 y d->Q' y H3)->te (some (.int (lo+i))::rest) H2 Q') (hq:∀H' ys,aH H H'->H' D=some (.lst ys)->aI K H' ys ds->Q (.ref D) H'):mh (qO lo n) (ie 0) kL te Q D (none::rest) H0:=by
 let hx:∀i x,((List.range n).map λi:Nat=>V.int (lo+i))[i]? =some x->i<n/\x= .int (lo+i):=λi x e=>by rw[bV]at e;cases h:(List.range n)[i]? with |none=>rw[h]at e;cases e |some j=>rw[h]at e;let(h1,h2):=cm.mp h;rw[xR]at h2;subst h2;erw[by simpa using h1,(eQ e).symm]
 erw[Ks (xs:=(List.range n).map λi:Nat=>V.int (lo+i)) rest nw (by simpa using hl) (by simpa using hz) hn (λi x H2 e s=>?_) (λH2 s=>?_) (λi x d H2 Q' e1 e2 s k=>?_) hq]
 ·let(h1,rfl):=hx i x e
  erw[h1,λy H3 #[e3,y3]=>#[e3,y3]]
 ·show n<=_
  simp
 ·let(h1,rfl):=hx i x e1
  erw[hs i d H2 Q' e2 s k]
theorem xn{D:Addr}(rest:St)(yS:n=2)(h1:fq b1 K H l1 xs)(h2:fq b2 K H l2 ys)(nw:Nw H H0 D (.lst [])) (hl:min xs.length ys.length=ds.length)(hz:ds.length<=1000)(hn:bS ds=true) (hs:∀(i:Nat)(x y:V)(d:aj)(H2:Hp)(Q':VK),xs[i]? =some x->ys[i]? =some y->ds[i]? =some d->aH H H2->(∀z H3,aH H2 H3->RD K H3 z d->Q' z H3)->te (some x::some y::rest) H2 Q') (hq:∀H' zs,aH H H'->H' D=some (.lst zs)->aI K H' zs ds->Q (.ref D) H'):mh (uX K b1 b2 l1 l2) (BL K n (wN (ie 0) (wN (ie 1) F1))) kL te Q D (none::none::rest) H0:=by
 subst yS;let hD:=nw.no;erw[xo ds.length (λi O H2=>aH H H2/\(∃zs,H2 D=some (.lst zs)/\aI K H2 zs (ds.take i))/\∃v v',O=v::v'::rest) ?_ ?_ ?_]
 ·erw[nw.same,#[[],nw.at',cH],none,none,Z]
 ·rintro i O H2 hi ⟨s2,⟨zs,d2,r2⟩,v,v',rfl⟩
  let hx:i<xs.length:=by lia
  let hy:i<ys.length:=by lia
  let ex:=bo hx;let ey:=bo hy;let eb:=bo hi;erw[#[xs,ys,_,_,h1.go s2,h2.go s2,ex,ey],λy' H3 mR=>?_];let(T,x0,y0,rfl,k1,k2,n3):=mR;let e1:=k1 _ (h1.go s2);let e2:=k2 _ (h2.go s2);rw[ex]at e1;rw[ey]at e2;cases e1;cases e2;erw[T,_,Z,aW.of n3.at',Z,_,_,Z,_,_,Z,Z,?_];erw[yes (bA ?_)];erw[hs i _ _ _ _ _ ex ey eb (s2.trans n3.same) λz H4 s4 r4=>?_];let iC:=n3.same.trans s4;let d4:=iC _ _ d2;let len:=r2.length;rw[jM]at len;erw[zs,d4,?_,ds.length-(i+1),aw,Z,aw,λb o e=>?_,#[zs++[z],bP,?_],_,_,Z]
  ·have:(1000:Nat)<sizeLine:=by decide
   lia
  ·rw[aU (dH e hD)];erw[iC b o (s2 b o e)]
  ·let t:eZ H4 (upd H4 D (.lst (zs++[z]))):=.iO d4
   rw[lG,eb];let n1:bS (ds.take i)=true:=cj.mpr λd hd=>cj.mp hn d (zN hd);exact(aI.t t _ n1 (aI.mono iC _ r2)).append %[RD.t t _ (cj.mp hn _ (zR hi)) r4|cH]
 ·rintro O H2 ⟨s2,⟨zs,d2,r2⟩,v,v',rfl⟩
  erw[#[xs,ys,h1.go s2,h2.go s2,aw],hq H2 zs s2 d2 ?_];rw[zL]at r2;erw[r2]
end
theorem Uq:∀{ns:List Int}{us:List Value},Vals (ns.map V.int) us->(∀v∈us,∃a t,v=Value.int a t)/\numsOf us=ns
 |[],_,.nil=>#[λ_ h=>(nomatch h),rfl] |n::ns,_,.cons q r=>by
  let(t,rfl):=(show∃t,_=Value.int n t from q);let(h1,h2):=Uq r;erw[λv hv=>?_,?_]
  ·rcases dg.mp hv with rfl|hv
   ·erw[n,t,Z]
   ·erw[h1 v hv]
  ·show n::numsOf _=_
   rw[h2]
section
variable {X:Cx}
theorem Ip(K:ag)(hK:X.K=K)(hc:X.calm=true):fW X (.builtin "max") (λxs H Q=>∃(l:Addr)(ns:List Int),xs=[.ref l]/\aL K H l (ns.map V.int)/\ns≠[]/\∀M,M∈ns->(∀a∈ns,a<=M)->Q (.int M) H):=by
 subst hK;intro ay s O H xs us Q I r h;let(l,ns,rfl,hl,dM,q):=h;let(u,rfl,ru):=vals1 r;cases(show u=Value.ref l from ru);let(its,rv,pl,hz):=I.list hl;let(a1,a2):=Uq rv;let all:AllInts its.toArray:=λv hv=>a1 v (by simpa using hv);let(ps,Ux):=all.items;let e0:numsOf (intItems ps).toList=ns:=by rw[<-Ux];erw[a2]
 rw[nums_intItems]at e0;let hlen:ps.size=ns.length:=by rw[<-e0,bB,Df]
 let uD:0<ps.size:=by rw[hlen];erw[CZ.mpr dM]
 erw[max_intList (I.ok.hd hc) (by rw[<-Ux];erw[pl.isList]) uD λv h' tk hv hk=>?_];let(t,rfl):=intItems_at hv;let(h1,h2):=argBest_gt (numAt ps) (ps.size-1);erw[.int _,H,I.kept hk,#[_,Z],q _ ?_ λa ha=>?_]
 ·rw[numAt_eq,e0];erw[getD_mem bZ]
 ·let(j,hj,rfl):=mem_getD ha
  rw[<-e0,<-numAt_eq];erw[h2 j bZ]
theorem Ur{ns:List Int}{us:List Value}(r:Vals (ns.map V.int) us){i:Nat}{v:Value}(h:us[i]? =some v):∃n t,ns[i]? =some n/\v=Value.int n t:=by
 let hl:=r.length;rw[bB]at hl;let hi:i<ns.length:=by rw[hl];exact(cm.mp h).1
 let(u,e,ru):=r.get (i:=i) (x:=.int ns[i]) (by rw[bV,bo hi];rfl);rw[h]at e;cases e;let(t,rfl):=(show∃t,v=Value.int ns[i] t from ru);erw[_,t,bo hi,Z]
theorem a2M(ns:List Int):((List.range ns.length).any λi=>((ns.map (· !=0))[i]?).getD false)=ns.any (· !=0):=by have:=LSm.range_any (ns.map (· !=0));rw[bB]at this;rw[this,List.any_map];rfl
theorem ad0(K:ag)(hK:X.K=K)(hc:X.calm=true):fW X (.builtin "any") (λxs H Q=>∃(l:Addr)(ns:List Int),xs=[.ref l]/\(aL K H l (ns.map V.int)\/aW K H l (ns.map V.int))/\Q (.bl (ns.any (· !=0))) H):=by
 subst hK;intro ay s O H xs us Q I r h;let(l,ns,rfl,hl,q):=h;let(u,rfl,ru):=vals1 r;cases(show u=Value.ref l from ru);let hh:=I.ok.hd hc;let fin:∀(its:List Value),Vals (ns.map V.int) its->((List.range its.toArray.size).any λi=>((ns.map (· !=0))[i]?).getD false)=ns.any (· !=0):=λits rv=>by rw[fg,<-rv.length,bB];erw[a2M ns]
 rcases hl with hl|hl
 ·let(its,rv,pl,hz):=I.list hl
  let iK:=pl.isList;let bK:l<s.heap.objs.size:=by let(_,e,_):=iK;erw[cC e]
  erw[call_any_walk (CL iK ?_)];erw[s.heap.objs.size,[s.heap.objs.size,l],[s.heap.objs.size],its.toArray.size,_,_,λi=>((ns.map (· !=0))[i]?).getD false,Z,Walks.list (A:=X.A.in1) hh _ l (eR bK) its.toArray,#[#[_,fj _ Z,Z,Z],iK.push _],λi v s' Q' E' hP hQ=>?_,λh' tk hk=>?_]
  ·let(n,t,e,rfl):=Ur rv (i:=i) (v:=v) (by simpa using hP)
   simp only[bV,e]at hQ;erw[truthy_int hQ]
  ·rw[fin its rv]
   erw[.bl _,H,I.kept (LSm.kept_iter hk),Z,q]
 ·let(its,rv,pl,hz):=I.tuple hl
  let iK:s.heap.IsTuple l its.toArray:=by let((cls,dd,data,sl),ho,kC,n,hd):=pl;erw[_,ho,kC,by simpa using#[n,hd]]
  let bK:l<s.heap.objs.size:=by let(_,e,_):=iK;erw[cC e]
  erw[call_any_walk (wpAny_pyIter_tuple iK ?_)];erw[s.heap.objs.size,[s.heap.objs.size,l],[s.heap.objs.size],its.toArray.size,_,_,λi=>((ns.map (· !=0))[i]?).getD false,Z,Walks.tuple (A:=X.A.in1) hh _ l (eR bK) its.toArray,#[#[_,fj _ Z,Z,Z],iK.push _],λi v s' Q' E' hP hQ=>?_,λh' tk hk=>?_]
  ·let(n,t,e,rfl):=Ur rv (i:=i) (v:=v) (by simpa using hP)
   simp only[bV,e]at hQ;erw[truthy_int hQ]
  ·rw[fin its rv]
   erw[.bl _,H,I.kept (LSm.kept_iter hk),Z,q]
end
end _L
set_option maxHeartbeats 1000000
namespace _c
open PySem PySem.Spec PyProof.Rows _L
def Xu(c m:Int):Prop:=0<=c/\0<=m/\m<2147483648
def gX(H:Hp)(p:Addr):Prop:=∃c m,H p=some (.lst [.int c,.int m])/\Xu c m
structure bJ(p:Addr)(H H':Hp):Prop where
 bF:gX H' p
 same:∀b o,b≠p->H b=some o->H' b=some o
theorem bJ.refl(h:gX H p):bJ p H H:=#[h,λ_ _ _ e=>e]
theorem bJ.trans(a:bJ p H H1)(b:bJ p H1 H2):bJ p H H2:=#[b.bF,λc o n e=>b.same c o n (a.same c o n e)]
theorem bJ.upd(h:Xu c m):bJ p H (_L.upd H p (.lst [.int c,.int m])):=#[#[c,m,bP,h],λb o n e=>by rw[aU n];erw[e]]
theorem bJ.fR(h:gX H p)(s:aH H H'):bJ p H H':=by let(c,m,e,ok):=h;erw[#[c,m,s _ _ e,ok],λb o _ e=>s b o e]
theorem Mb(h0:0<=j)(h:j<=10^40):Wd j:=by
 have:j.natAbs<=10^40:=by lia
 erw[xN this aP]
theorem gX.ne(h:gX H p):H p≠none:=by let(c,m,e,_):=h;rw[e];erw[λz=>nomatch z]
theorem gX.T7(h:gX H p)(e:H q=some o)(n:∀xs,o≠ .lst xs):q≠p:=by let(c,m,e',_):=h;erw[B5 e e' (n _)]
theorem bJ.t(bg:gX H p)(b:bJ p H H'):eZ H H':=λc o n e=>b.same c o (bg.T7 e n) e
theorem bJ.P4(s:aH H0 H)(hp:H0 p=none)(b:bJ p H H'):aH H0 H':=λc o e=>b.same c o (dH e hp) (s c o e)
section
variable {K:ag}
theorem ac5{D:Addr}(n:Nat)(rest:_L.St)(nw:Nw H H0 D (.lst []))(bg:gX H p)(hn:n<=1000)(xv:Nat->V) (go:∀i H2,i<n->bJ p H H2->J.go i H2/\∀y H3,J.jO i H2 y H3->H3=H2/\y=xv i)(stop:∀H2,bJ p H H2->J.stop n H2)(Pz:Int->Prop) (hs:∀i H2 (Q':VK),i<n->bJ p H H2->(∀z H3,Pz z->bJ p H2 H3->Q' (.int z) H3)->te (some (xv i)::rest) H2 Q') (hq:∀H' (is:List Int),bJ p H H'->H' D=some (.lst (is.map V.int))->is.length=n->(∀z∈is,Pz z)->Q (.ref D) H'):mh J (ie 0) kL te Q D (none::rest) H0:=by
 let BJ:D≠p:=λe=>bg.ne (e▸nw.no);erw[xo n (λi O H3=>bJ p H H3/\(∃is:List Int,H3 D=some (.lst (is.map V.int))/\is.length=i/\∀z∈is,Pz z)/\∃v,O=v::rest) ?_ ?_ ?_]
 ·erw[.fR bg nw.same,#[[],nw.at',Z,λ_ h=>(gk h).elim],none,Z]
 ·rintro i O H3 hi ⟨b3,⟨is,d3,li,pi⟩,v,rfl⟩
  let(g1,g2):=go i H3 hi b3;erw[g1,λy H4 hy=>?_];let(rfl,rfl):=g2 y H4 hy;erw[Dm ?_];erw[hs i _ _ hi b3 λz H5 pz b5=>?_];erw[_,b5.same _ _ BJ d3,?_,n-(i+1),aw,Z,aw,?_,#[is++[z],?_,?_,?_],_,Z]
  ·rw[bB,li]
   have:(1000:Nat)<sizeLine:=by decide
   lia
  ·let Ct:=b3.trans b5
   erw[?_,λb o n e=>?_]
   ·let(c,m,e,ok):=Ct.bF
    erw[c,m,by rw[aU BJ.symm];erw[e],ok]
   ·rw[aU (dH e nw.no)];erw[Ct.same b o n e]
  ·rw[bP,jr];rfl
  ·rw[cy,li];rfl
  ·intro y hy
   rcases jL.mp hy with h|h
   ·erw[pi y h]
   ·rw[gm.mp h];erw[pz]
 ·rintro O H3 ⟨b3,⟨is,d3,li,pi⟩,v,rfl⟩
  erw[stop H3 b3,hq H3 is b3 d3 li pi]
theorem a78(ns:List Int){i:Int}(h0:0<=i)(h:i<ns.length):∃z,z∈ns/\eY (ns.map V.int) i=some (.int z):=by
 let hl:i.toNat<ns.length:=by omega
 erw[ns[i.toNat],zR hl,cI h0 (by rw[bV,bo hl];rfl)]
theorem Wt{D:Addr}(n:Nat)(rest:_L.St)(nw:Nw H H0 D (.lst []))(bg:gX H p)(hn:n<=1000)(xv:Nat->V) (go:∀i H2,i<n->bJ p H H2->J.go i H2/\∀y H3,J.jO i H2 y H3->H3=H2/\y=xv i)(stop:∀H2,bJ p H H2->J.stop n H2)(Pd:Nat->aj->Prop) (hs:∀i H2 (Q':VK),i<n->bJ p H H2->(∀y d H3,Pd i d->dG d=true->RD K H3 y d->bJ p H2 H3->Q' y H3)->te (some (xv i)::rest) H2 Q') (hq:∀H' ys ds,bJ p H H'->H' D=some (.lst ys)->aI K H' ys ds->ds.length=n->bS ds=true->(∀i d,ds[i]? =some d->Pd i d)->Q (.ref D) H'):mh J (ie 0) kL te Q D (none::rest) H0:=by
  let BJ:D≠p:=λe=>bg.ne (e▸nw.no);erw[xo n (λi O H3=>bJ p H H3/\(∃ys ds,H3 D=some (.lst ys)/\aI K H3 ys ds/\ds.length=i/\bS ds=true/\∀j d,ds[j]? =some d->Pd j d)/\∃v,O=v::rest) ?_ ?_ ?_]
  ·erw[.fR bg nw.same,#[[],[],nw.at',cH,Z,Z,λj d e=>by simp at e],none,Z]
  · rintro i O H3 hi ⟨b3,⟨ys,ds,d3,r3,li,ni,pi⟩,v,rfl⟩
    let(g1,g2):=go i H3 hi b3;erw[g1,λy H4 hy=>?_];let(rfl,rfl):=g2 y H4 hy;erw[Dm ?_];erw[hs i _ _ hi b3 λz d H5 pz nz rz b5=>?_];let d5:=b5.same _ _ BJ d3;let t:eZ H5 (_L.upd H5 D (.lst (ys++[z]))):=.iO d5;erw[ys,d5,?_,n-(i+1),aw,Z,aw,?_,#[ys++[z],ds++[d],bP,?_,?_,?_,?_],_,Z]
    · rw[r3.length,li]
      have:(1000:Nat)<sizeLine:=by decide
      lia
    · let Ct:=b3.trans b5
      erw[?_,λb o n e=>?_]
      · let(c,m,e,ok):=Ct.bF
        erw[c,m,by rw[aU BJ.symm];erw[e],ok]
      ·rw[aU (dH e nw.no)];erw[Ct.same b o n e]
    ·exact(aI.t ((bJ.t b3.bF b5).trans t) _ ni r3).append %[RD.t t _ nz rz|cH]
    ·rw[cy,li];rfl
    ·exact cj.mpr λx hx=>by
        rcases jL.mp hx with h|h
        ·erw[cj.mp ni x h]
        ·rw[gm.mp h];erw[nz]
    · intro j e he
      by_cases hj:j<ds.length
      · rw[mq hj]at he
        erw[pi j e he]
      · have wB:j=ds.length:=by
          have:=(cm.mp he).1;rw[cy]at this;have:j<ds.length+1:=this
          lia
        subst wB;rw[nj (aY _),CT]at he;cases he;rw[li];erw[pz]
  · rintro O H3 ⟨b3,⟨ys,ds,d3,r3,li,ni,pi⟩,v,rfl⟩
    erw[stop H3 b3,hq H3 ys ds b3 d3 r3 li ni pi]
end
end _c
namespace _L
open PySem PySem.Spec PyProof.Rows
abbrev F9(b:Bool)(h:Heap)(l:Addr):Heap:=h.push {cls:=.type (uP b),data:=.fields (List.toArray [.ref l,.int 0 0])}
abbrev K6(b:Bool)(h:Heap)(l:Addr):Heap:=(F9 b h l).push {cls:=.type "enumerate",data:=.fields (List.toArray [.none,.bool false,.ref h.objs.size,rawInt 0,.none,.none])}
theorem abk(b:Bool)(l:Addr)(xs:Array Value):Meets (Builtin.«enumerate.__new__» #[[.type "enumerate",.ref l],[]]) (λ_ R s=>iW b s.heap l xs/\R (.ok (.ret (.ref (F9 b s.heap l).objs.size))) {s with heap:=K6 b s.heap l}):=.of_wp λprog w A R s h=>by
 let(hp,gg,d,tk,os):=s;let(hl,h):=h;let J8:=sub_enumerate;let hL:iW b (Shared.heap #[hp,gg,d,tk,os]) l xs:=hl
 wp_walk using yG hL;erw[wpAny_stack_any λst=>bN ?_];split
 ·rename_i c _ _ _ _ _
  cases(c==Value.type "enumerate")
  ·wp_walk using yG hL
   erw[_,Z,h]
  ·wp_walk using yG hL
   erw[_,Z,h]
 ·wp_walk using yG hL
  erw[_,Z,h]
section
variable {prog:ai}{w:World}{A:ak}{E:Value->ah->Prop}{s:ah}
theorem abl{b:Bool}{l:Addr}{xs:Array Value}{Q:Value->ah->Prop}(hl:iW b s.heap l xs) (q:∀g,IsEnum g (s.heap.objs.size+1) s.heap.objs.size 0 .none->lA b g s.heap.objs.size l 0->(∀c o,s.heap.get? c=some o->g.get? c=some o)->Q (.ref (s.heap.objs.size+1)) {s with heap:=g}): wpAny (model prog w) A (call (.type "enumerate") [.ref l]) Q E s:=by erw[callType_new PySem.F.called_enumerate aA (PySem.F.typeCall_enumerate_1 _) (PySem.F.newCall_enumerate_1 _) (λobj=>PySem.F.args_object_init_2 obj _) PySem.F.entry_enumerate_new (abk b l xs) #[hl,?_]];let z1:(F9 b s.heap l).objs.size=s.heap.objs.size+1:=qX ..;let g2:(K6 b s.heap l).get? (F9 b s.heap l).objs.size=some _:=fj _ rfl;let g1:(K6 b s.heap l).get? s.heap.objs.size=some _:=cD _ (fj _ Z);show _/\_;rw[z1]at g2⊢;erw[#[_,g2,Z],q _ g2 ?_ λc o e=>cD _ (cD _ e)];cases b<;>erw[_,g1,rfl,rfl]
theorem VI{b:Bool}{it l:Addr}{xs:Array Value}(hh:A.handled=none)(ne:l≠it):Draws prog w A it [it,l] xs.size (λi x=>xs[i]? =some x) (λi h=>lA b h it l i/\iW b h l xs) where
 live:=λi h st=>by let(o,e,_):=st.1.ob;erw[o,e]
 frame:=λi h h' st k=>#[st.1.to λo e=>k it (by simp) o e,st.2.to λo e=>k l (by simp) o e]
 item:=λi s Q E hi st hQ=>Em st.1 st.2 (x:=xs[i]) (by simp[hi]) λg gi sb=>hQ _ g s.toks (by simp[hi]) #[gi,st.2.to λo e=>sb.extBut _ _ ne e] sb
 done:=λs Q E st hE=>K4 hh st.1 st.2 (by simp) λg e a b=>hE g e a b
end
def CD(K:ag)(b:Bool)(l:Addr):It:=#[λi H=>∃xs x,fq b K H l xs/\xs[i]? =some x,λi H v H'=>∃T x,v= .ref T/\(∀xs,fq b K H l xs->xs[i]? =some x)/\Nw H H' T (.tup [.int i,x]),λi H=>∃xs,fq b K H l xs/\xs.length=i]
theorem Z4{P:ai}{w:World}{K:ag}{elts:List Expr}{kt:Nat}{pos:Pos}{b:Bool}{e it l:Addr}(D:e≠it): Turn P w K (.Tuple elts kt pos) (CD K b l) [e,it] e (λi h=>(∃old,IsEnum h e it i old)/\lA b h it l i) where
 mem:=by simp
 obj:=λi h st c hc=>by
  let((old,he),h1):=st;simp only[dg,gk,jJ]at hc;rcases hc with rfl|rfl
  ·erw[_,he,λv e=>by cases e]
  ·let(o,e,_,n):=h1.ob;erw[o,e,n]
 keep:=λi h h' st k=>by let((old,he),h1):=st;erw[#[old,k e (by simp) _ he],h1.to λo q=>k it (by simp) o q]
 item:=by
  intro X hP hw hK hc i ay s O H E I hf st hg;subst hP hw hK;let(xs,x,q1,e1):=hg;let(its,r1,p1):=q1.get I;let(u1,J5,jR):=r1.get e1;let((old,he),h1):=st;let(oi,mT,ci,_):=h1.ob;let IP:∃o,s.heap.get? l=some o/\(o.cls= .type "list"\/o.cls= .type "tuple"):=by cases b<;>(let(o,ho,cc,_):=p1;first|erw[o,ho,.inl cc]|erw[o,ho,.inr cc])
  let(ol,wy,cl):=IP;let nel:e≠l:=λz=>by subst z;rw[he]at wy;cases wy;rcases cl with h|h<;>simp at h
  let nil:l≠it:=λz=>by subst z;rw[mT]at wy;cases wy;rw[ci]at cl;cases b<;>(rcases cl with h|h<;>simp[uP]at h)
  let bK:i<its.toArray.size:=by rw[fg,<-r1.length];exact(cm.mp e1).1
  erw[wpAny_pyNext_enum_itemD (VI (I.ok.hd hc) nil) he #[h1,p1] bK D (by simp[D,nel]) λy h' tk hPy ho gG hT EK kp=>#[_,Z,?_]];let ey:y=u1:=by
   let a1:its.toArray[i]? =some y:=hPy;let a2:its.toArray[i]? =some u1:=by simpa using J5
   rw[a1]at a2;erw[eQ a2]
  subst ey;erw[wpAny_letOwnedTupleGo_enum ho λg' he' sb=>?_];let hs:=sb.extBut;let elt:e<s.heap.objs.size:=cC he;let ilt:it<s.heap.objs.size:=cC mT;let nw:Nw H (upd H s.heap.objs.size (.tup [.int i,x])) s.heap.objs.size (.tup [.int i,x]):=.of (I.bp.fresh (aY _));let I1:Inv X ay O (upd H s.heap.objs.size (.tup [.int i,x])) {s with heap:=s.heap.push {cls:=.type "tuple",data:=.seq (List.toArray [.int i tk,y])},toks:=tk+1}:=I.laid (t':=tk+1) (λb ob q=>cD _ q) (aY _) #[by show 2<=sizeLine;decide,[.int i tk,y],.cons #[tk,Z] (.cons jR .nil),#[_,fj _ Z,Z,_,Z]];let Iw:∀c∈[e,it],c<s.heap.objs.size:=λc hc=>by
   simp only[dg,gk,jJ]at hc;rcases hc with rfl|rfl
   ·erw[elt]
   ·erw[ilt]
  let hn:∀c∈[e,it],upd H s.heap.objs.size (.tup [.int i,x]) c=none:=λc hc=>by rw[aU (eR (Iw c hc))];exact(hf c hc).1
  let I2:Inv X ay O (upd H s.heap.objs.size (.tup [.int i,x])) {s with heap:=g',toks:=tk+1}:=Inv.A5 (s:={s with heap:=s.heap.push {cls:=.type "tuple",data:=.seq (List.toArray [.int i tk,y])},toks:=tk+1}) (t':=tk+1) (fp:=[e,it]) I1 (λc o hc q=>by
   let q:(s.heap.push {cls:=.type "tuple",data:=.seq (List.toArray [.int i tk,y])}).get? c=some o:=q;let nz:c≠e:=λz=>hc (by simp[z]);rcases Ym q with⟨Jn,rfl⟩|q'
   ·subst Jn
    erw[hs _ _ nz hT]
   ·erw[hs _ _ nz (kp c o nz (λz=>hc (by simp[z])) q')]) (λc hc=>by let(f0,f1,f2,f3,f4,f5):=hf c hc;erw[hn c hc,f1,f2,f3,f4,f5]);erw[.ref s.heap.objs.size,_,I2,Z,#[s.heap.objs.size,x,Z,λzs hz=>?_,nw],#[#[_,by simpa using he'],gG.1.to λo q=>hs _ o (kJ D) q],hn];rw[fq.inj I hz q1];erw[e1]
 done:=by
  intro X hP hw hK hc i ay s O H E I hf st hg;subst hP hw hK;let(xs,q1,wF):=hg;let(its,r1,p1):=q1.get I;let((old,he),h1):=st;let(oi,mT,ci,_):=h1.ob;let IP:∃o,s.heap.get? l=some o/\(o.cls= .type "list"\/o.cls= .type "tuple"):=by cases b<;>(let(o,ho,cc,_):=p1;first|erw[o,ho,.inl cc]|erw[o,ho,.inr cc])
  let(ol,wy,cl):=IP;let nil:l≠it:=λz=>by subst z;rw[mT]at wy;cases wy;rw[ci]at cl;cases b<;>(rcases cl with h|h<;>simp[uP]at h)
  let hi:i=its.toArray.size:=by rw[fg,<-r1.length];erw[wF.symm]
  subst hi;erw[wpAny_pyNext_enum_endD (VI (I.ok.hd hc) nil) he #[h1,p1] λh' kp=>#[Z,?_]];erw[I.A5 (t':=s.toks) (fp:=[e,it]) (λc o hc q=>kp c o (λz=>hc (by simp[z])) q) hf]
 self:=λ_ _ _ _ _ st h=>by let((old,he),_):=st;erw[wpAny_pyIter_enum he h]
inductive afC(K:ag)(b:Bool)(R:It->Hp->Prop)(vs:List V)(H1:Hp):Prop |mk l(_:vs=[.ref l])(_:(∃xs,fq b K H1 l xs))(_:R (CD K b l) H1)
def a7l(K:ag)(b:Bool)(ta:TA):TI:=λO H R=>ta O H λvs H1=>afC K b R vs H1
theorem AB(K:ag){X:Cx}(hK:X.K=K)(b:Bool){elts:List Expr}{kt:Nat}{tT:Pos}{a:Expr}{ta:TA}{p pos:Pos}(hg:Gl X "enumerate")(hm:X.mg "enumerate"=none)(ha:PA X [a] ta)(hs:autoParam (starEach [a] X.env=[(false,eval a X.env)]) r8_._auto_1)(iT:autoParam (starEach [] X.env=[]) r8_._auto_1): PI X (.Tuple elts kt tT) (.Call (.Name "enumerate" p) [a] [] pos) (a7l K b ta):=by
 subst hK;intro ay s O H R I h;erw[Call_ (sy I hg hm PyProof.Rows.boot_enumerate (zI (bc (ha pos ay s O H _ I h) λus s1 #[vs,H1,I1,r1,q1]=>?_) (by rw[hs,iT]) (by rw[iT];rfl)))];let(l,e,(xs,h1),q):=q1;subst e;let(u1,rfl,jR):=vals1 r1;cases(show u1=Value.ref l from jR);let(IS,v1,p1):=h1.get I1;erw[abl p1 λg zg ig kp=>wpAny_pyIter_enum zg ?_];erw[_,_,_,_,H1,Z,I1.kept (t':=s1.toks) kp,Z4 (CV (Yb _)),#[#[_,zg],ig],λc hc=>?_,q];let hle:s1.heap.objs.size<=c:=by simp only[dg,gk,jJ]at hc;rcases hc with rfl|rfl<;>first|erw[aY _]|erw[Nat.le_add_right _ _]
 erw[I1.sW hle (I1.bp.fresh hle)]
theorem BO{K:ag}{b:Bool}{a:Addr}{xs:List V}{g:TG}{tb:TS}{D:Ends}{O:St}{H:Hp}(Pv:Nat->St->Hp->Prop)(h0:Pv 0 O H)(hl:∀i O H,i<=xs.length->Pv i O H->fq b K H a xs) (hs:∀i x O H,xs[i]? =some x->Pv i O H->∀T H',Nw H H' T (.tup [.int i,x])->g (.ref T) O H' λσ2 H2=>tb {D with nx:=Pv (i+1),ct:=Pv (i+1),bk:=D.nx} σ2 H2)(hd:∀O H,Pv xs.length O H->D.nx O H): ∃W:Nat->Nat->St->Hp->Prop,(∃m,W 0 m O H)/\∀i m O H,W i m O H->((CD K b a).stop i H/\D.nx O H)\/((CD K b a).go i H/\∃N:St->Hp->Prop,(∀σ' H',N σ' H'->∃m',m'<m/\W (i+1) m' σ' H')/\∀x H',(CD K b a).jO i H x H'->g x O H' λσ2 H2=>tb {D with nx:=N,ct:=N,bk:=D.nx} σ2 H2):=by
 erw[λi m O H=>m=xs.length-i/\i<=xs.length/\Pv i O H,#[xs.length,by simp,fX _,h0],?_];rintro i m O H ⟨rfl,hi,p⟩;let q:=hl i O H hi p;by_cases bK:i<xs.length
 ·erw[.inr #[#[xs,xs[i],q,by simp[bK]],Pv (i+1),λσ' H' p'=>#[xs.length-(i+1),aw,Z,bK,p'],λx H' y=>?_]]
  let(T,z,rfl,ez,nw):=y;erw[hs i z O H (ez xs q) p T H' nw]
 ·let e:i=xs.length:=by lia
  subst e;erw[.inl #[#[xs,q,Z],hd O H p]]
theorem Jy{K:ag}{b1 b2:Bool}{a1 a2:Addr}{xs ys:List V}{g:TG}{tb:TS}{D:Ends}{O:St}{H:Hp}(n:Nat)(hn:n=min xs.length ys.length)(Pv:Nat->St->Hp->Prop)(h0:Pv 0 O H)(hl:∀i O H,i<=n->Pv i O H->fq b1 K H a1 xs/\fq b2 K H a2 ys) (hs:∀i x y O H,xs[i]? =some x->ys[i]? =some y->Pv i O H->∀T H',Nw H H' T (.tup [x,y])->g (.ref T) O H' λσ2 H2=>tb {D with nx:=Pv (i+1),ct:=Pv (i+1),bk:=D.nx} σ2 H2)(hd:∀O H,Pv n O H->D.nx O H): ∃W:Nat->Nat->St->Hp->Prop,(∃m,W 0 m O H)/\∀i m O H,W i m O H->((uX K b1 b2 a1 a2).stop i H/\D.nx O H)\/((uX K b1 b2 a1 a2).go i H/\∃N:St->Hp->Prop,(∀σ' H',N σ' H'->∃m',m'<m/\W (i+1) m' σ' H')/\∀x H',(uX K b1 b2 a1 a2).jO i H x H'->g x O H' λσ2 H2=>tb {D with nx:=N,ct:=N,bk:=D.nx} σ2 H2):=by
 erw[λi m O H=>m=n-i/\i<=n/\Pv i O H,#[n,by simp,fX _,h0],?_];rintro i m O H ⟨rfl,hi,p⟩;let(q1,q2):=hl i O H hi p;by_cases bK:i<n
 ·let l1:i<xs.length:=by lia
  let l2:i<ys.length:=by lia
  erw[.inr #[#[xs,ys,xs[i],ys[i],q1,q2,by simp[l1],by simp[l2]],Pv (i+1),λσ' H' p'=>#[n-(i+1),aw,Z,bK,p'],λx H' y=>?_]];let(T,z1,z2,rfl,e1,e2,nw):=y;erw[hs i z1 z2 O H (e1 xs q1) (e2 ys q2) p T H' nw]
 ·let e:i=n:=by lia
  subst e;erw[.inl #[#[xs,ys,q1,q2,aw],hd O H p]]
section
variable {X:Cx}
theorem a3H(K:ag)(h:X.K=K){o e:Expr}{to:TE}{t:TA}{apos dZ:Pos}(ho:PE X o to)(ha:PA X [e] t) (sQ:autoParam (attributeBase o "pop" X.env (eval o X.env)=eval o X.env) r8_._auto_1) (sM:autoParam (((backTo dZ (starEach [e] X.env)).all (λx=>!x.1)&&(backToKw dZ (keywordEach [] X.env)).all (λx=>x.1.isSome) &&decide ([e].length+([]:List Keyword).length+(if([]:List Keyword).isEmpty then 0 else 1)<30))=true) r8_._auto_1) (sG:autoParam ((apos.endLine==dZ.line)=true) r8_._auto_1)(hs:autoParam (starEach [e] X.env=(false,eval e X.env)::starEach [] X.env) r8_._auto_1)(sF:autoParam ((backTo dZ (starEach [] X.env)).any (·.1)=false) r8_._auto_1): PE X (.Call (.Attribute o "pop" apos) [e] [] dZ) (A7 K "list" RO to t):=by subst h;erw[E8 Y4 PySem.F.slot_list_pop PySem.F.type_list_pop a5N ho ha sQ sM sG hs sF]
end
set_option maxHeartbeats 1000000 in
theorem E4{X:Cx}{N:List Str}{js:List (Option Nat)}{elt tg iter:Expr}{ifs:List Expr}{scope:Scope}{pos:Pos}{wi:TI}{g:TG}{tt:TT}{te:TE}{i0:Nat}{x0:Str}{yf MZ:Pos}(hNd:X.N.Nodup)(Bw:X.N[i0]? =some x0)(Bp:Loc X.env.scope x0)(hc:X.calm=true)(hN:Ck X N js scope=true)(hS:uQ X scope=true) (hi:PI X tg iter wi)(hg:∀cl s H fp ay,PG (dv X N scope cl s H fp ay) tg g)(ht:∀cl s H fp ay,Lc (dv X N scope cl s H fp ay) ifs tt)(he:∀cl s H fp ay,PE (dv X N scope cl s H fp ay) elt te) (hsw:autoParam (swapsWith (.ListComp elt [#[tg,iter,ifs,0]] scope pos) (some (.Name x0 yf)) MZ.line X.env=pure true) r8_._auto_1)(hf0:autoParam (X.fn x0=true\/X.env.scope.names.lookup x0=some .local) d8_._auto_1) (hs:autoParam (∀x,foldedSetIterable iter X.env x=pure x) d8_._auto_1):PS X (.Assign [.Name x0 yf] (.ListComp elt [#[tg,iter,ifs,0]] scope pos) MZ) (DE (MB js wi g tt te) (ie i0)):=by
 intro ay s O H D0 I h;let oS:=hS;unfold uQ at oS;rw[fY,fY]at oS;let((k1,k2),k3):=oS;let lV:scope.kind= .function:=fC.mp k1;let uJ:∀x∈scope.names,x.2= .free->∃c,X.env.cells.lookup x.1=some c:=λx hx e=>by have:=iX.mp k3 x hx;rw[e]at this;erw[I.ok.has x.1 (.inl (fC.mp this))]
 let qm:∀x∈scope.names,x.2≠ .cell:=λx hx e=>by have:=iX.mp k3 x hx;rw[e]at this;erw[jt this]
 let Bu:∀x∈scope.names,x.2= .local->scope.names.lookup x.1=some .local:=λx hx e=>by have:=iX.mp k3 x hx;rw[e]at this;erw[fC.mp this]
 let(cl,BE,c1,c2):=Ku uJ;rw[exec_Assign_Name_used _ _ _ _ hsw];erw[aJ (pC (aJ ?_))];show wpAny _ X.A (do let _<-comprehension (.ListComp elt [#[tg,iter,ifs,0]] scope pos) scope X.env _ (newList []) false (eval iter X.env) (some (assign (.Name x0 yf) X.env))) _ _ s;erw[aJ (fM (XR (use:=some (assign (.Name x0 yf) X.env)) (Q:=λ_ s'=>SP X ay D0 .next s') Z hs BE lV Bu (bc (hi ay s O H _ I h) λv s1 h1=>bc h1 λBl s2 h2=>?_)) (λ_ s' hq=>bN (bN hq)) λ_ _ e=>e)];let(it,fp,tn,J,H2,e,I2,T,pH,f2,h2):=h2;subst e;let hD:H2 s2.heap.objs.size=none:=I2.bp.fresh (aY _);let(W,(m0,w0),turn):=h2 _ _ (Nw.of hD);erw[qR (XQ qm (by intro y hy;simp at hy) (λh₁ uE uC=>?_) lV)];let oX:∀b∈fp,b<s2.heap.objs.size:=λb hb=>by let(o,e,_):=T.obj _ _ pH b hb;erw[cC e]
 let I3:Inv X ay O (upd H2 s2.heap.objs.size (.lst [])) {s2 with heap:=s2.heap.push {cls:=.type "list",dict:=none,data:=.seq ([]:List Value).toArray}}:=I2.EB (its:=[]) (t':=s2.toks) .nil (fX _);generalize uL:s2.heap.push {cls:=.type "list",dict:=none,data:=.seq ([]:List Value).toArray}=h3 at I3 uE uC;let tW:h3.objs.size=s2.heap.objs.size+1:=by rw[<-uL,qX]
 let Bj:∀b o,s2.heap.get? b=some o->h3.get? b=some o:=λb o e=>by rw[<-uL];erw[cD _ e]
 let f3:∀b∈fp,kI X ay (upd H2 s2.heap.objs.size (.lst [])) b:=λb hb=>#[by rw[aU (eR (oX b hb))];exact(f2 b hb).1,(f2 b hb).2];let uB:∀b o,h3.get? b=some o->h₁.get? b=some o:=λb o e=>(uC.2 b (eR (cC e))).trans (cD _ e);let I4:Inv (dv X N scope cl {s2 with heap:=h3} (upd H2 s2.heap.objs.size (.lst [])) fp ay) [] (stC js O) (upd H2 s2.heap.objs.size (.lst [])) {s2 with heap:=h₁,toks:=s2.toks+([]:List (Str×Value)).length}:=I3.comp (s:={s2 with heap:=h3}) hN hS c1 c2 f3 (λb hb=>by show b<h3.objs.size;rw[tW];erw[CW (oX b hb)]) (by simpa using uE) uB;let tX:tn 0 h₁:=T.keep _ _ _ pH λb _ o e=>uB b o (Bj b o e);let loop:codeAny (model X.prog X.w) X.A (.compLoop (.ListComp elt [#[tg,iter,ifs,0]] scope pos) 0 (.ref it) (.ref s2.heap.objs.size) (compEnvC scope cl h3.objs.size X.env)) (compPost (model X.prog X.w) X.A X.xe (some (assign (.Name x0 yf) X.env)) (λ_ s'=>SP X ay D0 .next s') (.ref s2.heap.objs.size) h3.objs.size) {s2 with heap:=h₁,toks:=s2.toks+([]:List (Str×Value)).length}:=by
  erw[Ww (λn s'=>∃i σ' H',Inv (dv X N scope cl {s2 with heap:=h3} (upd H2 s2.heap.objs.size (.lst [])) fp ay) [] σ' H' s'/\tn i s'.heap/\(∀b∈fp,H' b=none)/\W i n σ' H') ?_ m0 #[0,_,_,I4,tX,λb hb=>(f3 b hb).1,w0]];rintro n s5 ⟨i,σ5,H5,I5,nA,qy,w5⟩;let kM:∀{H':Hp},(∀b∈fp,H' b=none)->∀b∈fp,kI (dv X N scope cl {s2 with heap:=h3} (upd H2 s2.heap.objs.size (.lst [])) fp ay) [] H' b:=λ{H'} hn b hb=>by
   let(_,q1,q2,q3,q4,q5):=f3 b hb;erw[hn b hb,λz=>?_,I4.ok.qA b hb,.inl hb,λx c e=>q4 x c (c1 x c e),λp hp=>q5 p (by simpa[dv]using hp)];let bK:b<h3.objs.size:=by rw[tW];erw[CW (oX b hb)]
   erw[eR bK z]
  rcases turn i n σ5 H5 w5 with⟨stop,qn⟩|⟨go,step⟩
  ·erw[bc (T.done (dv X N scope cl {s2 with heap:=h3} (upd H2 s2.heap.objs.size (.lst [])) fp ay) rfl rfl rfl hc i [] s5 σ5 H5 _ I5 (kM qy) nA stop) λr s6 #[hr,I6]=>?_]
   subst hr;let(m,hm,_):=I6.loc;let u0:Un (fV X.stack) fp (upd H2 s2.heap.objs.size (.lst [])) H5 h3 s6.heap:=I6.aD;let I7:Inv X ay O H5 s6:=I3.Cp (s':=s6) (ch:=fp) I6.os u0 I6.bp I6.bare λb hb=>#[(f3 b hb).2.2.2.1,(f3 b hb).2.1,(f3 b hb).2.2.2.2.1,(f3 b hb).2.2.2.2.2];let hC:kI X ay H5 h3.objs.size:=I3.sW (aY _) I6.free;show wpAny _ X.A (assign (.Name x0 yf) X.env (.ref s2.heap.objs.size)) _ _ s6;erw[wpAny_assign_Name (MN I7 hNd Bw Bp (show RelV (.ref s2.heap.objs.size) (.ref s2.heap.objs.size)from Z) (λs8 I8 hsb=>?_) hf0)];let(a,sb,ha):=hsb;let hCa:h3.objs.size≠a:=by
    rcases ha with rfl|ha
    ·erw[hC.2.1]
    ·erw[λz=>hC.2.2.2.2.1 x0 a ha z.symm]
   erw[m,hm.sameBut sb hCa,λh9 hs9=>#[_,H5,?_,qn]];erw[I8.A5 (t':=s8.toks) (fp:=[h3.objs.size]) (λb o hb e=>hs9.extBut b o (λz=>hb (by simp[z])) e) λb hb=>by rw[gm.mp hb];erw[hC]]
  ·erw[bc (T.item (dv X N scope cl {s2 with heap:=h3} (upd H2 s2.heap.objs.size (.lst [])) fp ay) rfl rfl rfl hc i [] s5 σ5 H5 _ I5 (kM qy) nA go) λr s6 #[u,hr,h6]=>?_]
   subst hr;erw[bc h6 λ_ s7 #[x,H7,I7,r7,y7,mC,BM]=>?_];let CF:=I7.pinned (kM BM) (T.obj _ _ mC);erw[bc (hg _ _ _ _ _ _ s7 σ5 H7 x u _ CF r7 (step x H7 y7)) λ_ s8 #[σ8,H8,I8,q8]=>?_];erw[bc (ht _ _ _ _ _ _ s8 σ8 H8 _ I8 q8) λok s9 #[H9,I9,q9]=>?_];let again:∀{s':ah}{σ7:St}{H7:Hp},Inv (dv X N scope cl {s2 with heap:=h3} (upd H2 s2.heap.objs.size (.lst [])) fp ay) ([]++rM fp s7.heap) σ7 H7 s'->(∃m',m'<n/\W (i+1) m' σ7 H7)->∃m,m<n/\∃i σ' H',Inv (dv X N scope cl {s2 with heap:=h3} (upd H2 s2.heap.objs.size (.lst [])) fp ay) [] σ' H' s'/\tn i s'.heap/\(∀b∈fp,H' b=none)/\W i m σ' H':=λ{s' σ7 H7} J7 n7=>by let(m',hm,w7):=n7;erw[m',hm,i+1,σ7,H7,J7.vv,T.keep _ _ _ mC λb hb o e=>(J7.pin (b,o) (ir _ (ir _ (pV hb e)))).1,λb hb=>?_,w7];let(o,e,d):=T.obj _ _ mC b hb;exact(J7.pin (b,o) (ir _ (ir _ (pV hb e)))).2.1
   cases ok with |false=>rw[aV jt]at q9⊢;erw[again I9 q9] |true=>rw[aQ rfl]at q9⊢;erw[bc (he _ _ _ _ _ _ s9 σ8 H9 _ I9 q9) λyv kP #[y,gB,vb,HE,ys,jU,hz,jP]=>?_];erw[bc (Et _ kP σ8 gB (.ref s2.heap.objs.size) [y] (.ref s2.heap.objs.size) [yv] (λ_ jc=>∃m',m'<n/\W (i+1) m' σ8 jc) vb Z (.cons HE .nil) #[_,ys,y,Z,Z,jU,hz,jP]) λ_ vG #[v11,jc,zy,r11,Aw]=>?_];erw[again zy Aw]
 erw[XT loop (T.self _ 0 _ _ _ tX loop)]
theorem qN.ac1{X:Cx}{st:Stmt}{rest:List Stmt}{t u:TS}(h1:Xs X st t)(h2:ip X rest u):qN X (st::rest) (Gv t u):=by intro s O H D I h;erw[Lq (bc (h1 s O H {D with nx:=u D} I h) λf s1 q=>?_)];cases f with |next=>let(σ',H',I',q):=q;erw[h2 [] s1 σ' H' D I' q] |ret v=>erw[q] |brk=>erw[q] |cont=>erw[q]
theorem WB:∀{zs:List Str}{us:List Value},Vals (zs.map V.str) us->CarriedAll us (zs.map PyData.str) |[],_,.nil=>.nil |z::zs,_,.cons q r=>by let(t,rfl):=(show∃t,_=Value.str z t from q);erw[.cons (.str z t) (WB r)]
section
variable {X:Cx}
inductive afc(K:ag)(x:V)(vs:List V)(H:Hp)(Q:VK):Prop |mk (sep:Str)(l:Addr)(zs:List Str)(_:x= .str sep)(_:vs=[.ref l])(_:aL K H l (zs.map V.str))(_:(∀z∈zs,z.length<=8))(_:sep.length<=8)(_:zs.length<=1000)(_:Q (.str (Txt.join sep zs)) H)
def rJoin(K:ag):V->List V->Hp->VK->Prop:=λx vs H Q=>afc K x vs H Q
theorem a5P(K:ag)(hK:X.K=K):Xw X "str.join" (rJoin K):=by subst hK;intro ay s O H x vs v us Q I rx rv h;let(sep,l,zs,rfl,rfl,hl,hz,hs,hn,q):=h;let(t,rfl):=rx;let(u,rfl,ru):=vals1 rv;cases(show u=Value.ref l from ru);let(its,r,pl,_):=I.list hl;erw[join_madeW (l:=zs) (g:=id) 8 pl.isList (by rw[List.map_id];erw[WB r]) (λa ha=>hz a ha) aw aw λt' k=>?_];rw[List.map_id];erw[.str _,H,I.tok _,#[_,Z],q]
theorem a3I(K:ag)(h:X.K=K){o e:Expr}{to:TE}{t:TA}{apos dZ:Pos}(ho:PE X o to)(ha:PA X [e] t) (sQ:autoParam (attributeBase o "join" X.env (eval o X.env)=eval o X.env) r8_._auto_1) (sM:autoParam (((backTo dZ (starEach [e] X.env)).all (λx=>!x.1)&&(backToKw dZ (keywordEach [] X.env)).all (λx=>x.1.isSome) &&decide ([e].length+([]:List Keyword).length+(if([]:List Keyword).isEmpty then 0 else 1)<30))=true) r8_._auto_1) (sG:autoParam ((apos.endLine==dZ.line)=true) r8_._auto_1)(hs:autoParam (starEach [e] X.env=(false,eval e X.env)::starEach [] X.env) r8_._auto_1)(sF:autoParam ((backTo dZ (starEach [] X.env)).any (·.1)=false) r8_._auto_1): PE X (.Call (.Attribute o "join" apos) [e] [] dZ) (A7 K "str" (rJoin K) to t):=by subst h;erw[E8 PySem.F.plainAttrs_str PySem.F.slot_str_join PySem.F.type_str_join (a5P X.K rfl) ho ha sQ sM sG hs sF]
end
section
variable {X:Cx}
theorem acn:fW X (.type "range") (λxs H Q=>∃n,xs=[.int n]/\∀p H',Nw H H' p (.vJ 0 n)->Q (.ref p) H'):=by intro ay s O H xs us Q I r h;let(n,rfl,q):=h;let(u,rfl,t,rfl):=vals1 r;erw[call_range_1 ?_];let hf:H s.heap.objs.size=none:=I.bp.fresh (aY _);erw[.ref s.heap.objs.size,upd H s.heap.objs.size (.vJ 0 n),I.laid (t':=s.toks+1+1) (λb u e=>cD _ e) (aY _) ?_,Z,q _ _ (.of hf)];erw[_,_,_,fj _ Z]
end
theorem ZZ:isSubtype (.type "range_iterator") (.type "reversed")=pure false:=by rw[isSubtype_type];kernel_rfl
section
variable {prog:ai}{w:World}{A:ak}{E:Value->ah->Prop}{s:ah}
abbrev An(n:Nat):Obj:={cls:=.type "range_iterator",data:=.fields (List.toArray [rawInt (0+((n:Int)-1)*1),rawInt (n:Int),rawInt (-1)])}
abbrev Hg(n:Nat):Bool:=Builtin.Range.rangeFitsLong 0&&Builtin.Range.rangeFitsLong n&&Builtin.Range.rangeFitsLong 1&&Builtin.Range.rangeFitsLong (-1)&&Builtin.Range.rangeFitsLong (0-1)&&Builtin.Range.rangeFitsLong (Builtin.Range.rangeSize 0 n 1)
theorem QZ(h:n<2^62):Hg n=true:=by unfold Hg;rw[rangeSize_one];simp only[Builtin.Range.rangeFitsLong,fY,FW];split<;>lia
theorem a2z(r:Addr)(a b c:Int)(t u v:Tok)(hc0:¬(!(Builtin.Range.rangeFitsLong a&&Builtin.Range.rangeFitsLong b&&Builtin.Range.rangeFitsLong c&&Builtin.Range.rangeFitsLong (-c)&&Builtin.Range.rangeFitsLong (a-c)&&Builtin.Range.rangeFitsLong (Builtin.Range.rangeSize a b c)))=true):Meets (Builtin.«range.__reversed__» #[[.ref r],[]]) (λ_ R s=>s.heap.get? r=some {cls:=.type "range",dict:=none,data:=.fields (List.toArray [.int a t,.int b u,.int c v]),slots:=#[]}/\R (.ok (.ret (.ref s.heap.objs.size))) {s with heap:=s.heap.push {cls:=.type (if(Builtin.Range.rangeFitsLong a&&Builtin.Range.rangeFitsLong b&&Builtin.Range.rangeFitsLong c&&Builtin.Range.rangeFitsLong (-c)&&Builtin.Range.rangeFitsLong (a-c)&&Builtin.Range.rangeFitsLong (Builtin.Range.rangeSize a b c))=true then "range_iterator" else "longrange_iterator"),data:=.fields (List.toArray [rawInt (a+(Builtin.Range.rangeSize a b c-1)*c),rawInt (Builtin.Range.rangeSize a b c),rawInt (-c)])},toks:=s.toks}):=.of_wp λprog w A R s h=>by
 let(hp,g,d,tk,os):=s;let(hl,h):=h
 wp_walk;erw[_,Z,h]
theorem ack{l:Addr}{n:Nat}{t u v:Tok}{Q:Value->ah->Prop}(hn:n<2^62)(hl:s.heap.get? l=some {cls:=.type "range",data:=.fields (List.toArray [.int 0 t,.int n u,.int 1 v])}) (h:Q (.ref s.heap.objs.size) {s with heap:=s.heap.push (An n)}):wpAny (model prog w) A (call (.builtin "range.__reversed__") [.ref l]) Q E s:=by
 let hT:s.TypeIs (.ref l) "range":=#[_,hl,Z];erw[CO Yn hT F.entry_range_reversed (F.args_range_reversed_1 _) (a2z l 0 n 1 t u v (by have:=QZ hn;unfold Hg at this;rw[this];decide)) #[hl,?_]];rw[aQ (QZ hn)];let e:Builtin.Range.rangeSize 0 n 1=n:=by rw[rangeSize_one];split<;>lia
 rw[e];erw[h]
theorem acb{l:Addr}{n:Nat}{t u v:Tok}{Q₁:Value->ah->Prop}(hn:n<2^62)(hl:s.heap.get? l=some {cls:=.type "range",data:=.fields (List.toArray [.int 0 t,.int n u,.int 1 v])}) (h:Q₁ (.ref s.heap.objs.size) {s with heap:=s.heap.push (An n)}): codeAny (model prog w) A (.call (.builtin "reversed.__new__") #[[.type "reversed",.ref l],[]]) (wants Q₁ E) s:=by
 let hT:s.TypeIs (.ref l) "range":=#[_,hl,Z];erw[codeAny_of_tree ?_];show wpAny _ A.in1 (do checkBuiltinCall "reversed.__new__" #[[.type "reversed",.ref l],[]];again (.builtin "reversed.__new__" #[[.type "reversed",.ref l],[]])) _ _ s;erw[aJ (zE (F.newCall_reversed_1 _) (bN #[plainId_quiet F.plain_reversed_new _,codeAny_builtin F.entry_reversed_new ?_]))];rw[Around.under_plainId F.plain_reversed_new _];unfold Builtin.«reversed.__new__»;erw[aJ (zE (newClass_reversed _) ?_)]
 try dsimp only
 erw[aJ (zE (a:=()) (by first|rfl|kernel_rfl) ?_)];erw[aJ (zE (a:=()) (by first|rfl|kernel_rfl) ?_)]
 try dsimp only
 erw[aJ (wpAny_specialOf hT Yn.lookup ?_)]
 try dsimp only
 erw[aJ (zE (Yn.bind _) ?_)]
 try dsimp only
 first |rw[aV (show¬((Value.builtin "range.__reversed__"==Value.none)=true)from jt)] |(show wpAny _ _ (if(Value.builtin "range.__reversed__"==Value.none)=true then _ else _) _ _ _;rw[aV (show¬((Value.builtin "range.__reversed__"==Value.none)=true)from jt)])
 erw[aJ (CK ?_)];erw[aJ (m:=runValue (.call (.builtin "range.__reversed__") #[[.ref l],[]])) (show wpAny _ _ (call (.builtin "range.__reversed__") [.ref l]) _ _ _ from ack hn hl ?_)]
 first |erw[bN h] |erw[aJ (bN (bN h))]
theorem acm{l:Addr}{n:Nat}{t u v:Tok}{Q:Value->ah->Prop}(hn:n<2^62)(hl:s.heap.get? l=some {cls:=.type "range",data:=.fields (List.toArray [.int 0 t,.int n u,.int 1 v])}) (h:Q (.ref s.heap.objs.size) {s with heap:=s.heap.push (An n)}):wpAny (model prog w) A (call (.type "reversed") [.ref l]) Q E s:=by erw[callType_other (U:="range_iterator") (Q₁:=λobj s₁=>obj= .ref s.heap.objs.size/\s₁={s with heap:=s.heap.push (An n)}) aP F.create_reversed #[_,_,F.mro_reversed] F.made_reversed ZZ (F.typeCall_reversed_1 _) (acb hn hl #[Z,Z]) ?_];rintro obj s₁ ⟨rfl,rfl⟩;erw[#[_,fj _ Z,Z],h]
end
def CC(n:Nat):It:=#[λi _=>i<n,λi H x H'=>H'=H/\x= .int ((n:Int)-1-i),λi _=>n<=i]
theorem Z1{P:ai}{w:World}{K:ag}{tg:Expr}(it:Addr)(n:Nat):Turn P w K tg (CC n) [it] it (λi h=>IsRangeIter h it ((0+((n:Int)-1)*1)+(i:Nat)*(-1)) ((n:Int)-(i:Nat)) (-1)) where
 mem:=by simp
 obj:=λi h st b hb=>by
  let e:b=it:=by simpa using hb
  subst e;erw[_,st,λv z=>by let z':Data.fields _=Data.cell v:=z;cases z']
 keep:=λi h h' st k=>k it (by simp) _ st
 item:=by
  intro X hP hw hK hc i ay s O H E I hf st hg;subst hP hw hK;let(f0,f1,f2,f3,f4,f5):=hf it (by simp);let W:=Walks.range (prog:=X.prog) (w:=X.w) (I.ok.hd hc) it (0+((n:Int)-1)*1) (-1) n;erw[W.item i s _ _ hg st λv h' tk hv hW kk=>?_];let(t,rfl):=hv;let I1:Inv X ay O H {s with heap:=h',toks:=tk}:=I.turned (λb o hb e=>kk b o (by simpa using hb) e) f0 f1 f3 f4 f5;erw[_,Z,za (s:={s with heap:=h',toks:=tk}) (n:="range_iterator") hW rfl rfl aA #[.int ((n:Int)-1-i),H,I1,#[t,?_],#[Z,Z],hW,λb hb=>(hf b hb).1]];let e:(0+((n:Int)-1)*1)+(i:Int)*(-1)=(n:Int)-1-i:=by lia
  rw[e]
 done:=by intro X hP hw hK hc i ay s O H E I hf st hg;subst hP hw hK;let(f0,f1,f2,f3,f4,f5):=hf it (by simp);erw[XN (I.ok.hd hc) st (by have:n<=i:=hg;lia) λh' eb=>#[Z,I.turned (t':=s.toks) (λb o hb e=>eb b o hb e) f0 f1 f3 f4 f5]]
 self:=λ_ _ _ _ _ st h=>Lm st h
inductive afA(R:It->Hp->Prop)(vs:List V)(H1:Hp):Prop |mk p n(_:vs=[.ref p])(_:H1 p=some (.vJ 0 n))(_:0<=n)(_:n<2^62)(_:R (CC n.toNat) H1)
def a7k(ta:TA):TI:=λO H R=>ta O H λvs H1=>afA R vs H1
theorem a3p(hg:Gl X "reversed")(hm:X.mg "reversed"=none)(ha:PA X [a] ta)(hs:autoParam (starEach [a] X.env=[(false,eval a X.env)]) r8_._auto_1)(iT:autoParam (starEach [] X.env=[]) r8_._auto_1): PI X tg (.Call (.Name "reversed" p) [a] [] pos) (a7k ta):=by
 intro ay s O H R I h;erw[Call_ (sy I hg hm PyProof.Rows.boot_reversed (zI (bc (ha pos ay s O H _ I h) λus s1 #[vs,H1,I1,r1,q1]=>?_) (by rw[hs,iT]) (by rw[iT];rfl)))];let(l,n,e,hl,n0,n1,q):=q1;subst e;let(u1,rfl,jR):=vals1 r1;cases(show u1=Value.ref l from jR);obtain⟨t,u,v,e⟩:∃t u v,s1.heap.get? l=some {cls:=.type "range",data:=.fields (List.toArray [.int 0 t,.int n u,.int 1 v])}:=I1.bp l _ hl;obtain⟨m,rfl⟩:∃m:Nat,n=m:=#[n.toNat,aw];erw[acm aw e ?_];let hit:IsRangeIter (s1.heap.push (An m)) s1.heap.objs.size ((0+((m:Int)-1)*1)+((0:Nat):Int)*(-1)) ((m:Int)-((0:Nat):Int)) (-1):=by
  let e1:(0+((m:Int)-1)*1)+((0:Nat):Int)*(-1)=0+((m:Int)-1)*1:=by lia
  let e2:(m:Int)-((0:Nat):Int)=m:=by lia
  rw[e1,e2];erw[fj _ rfl]
 erw[Lm hit ?_];erw[s1.heap.objs.size,[s1.heap.objs.size],_,_,H1,Z,I1.kept (t':=s1.toks) λb o e=>cD _ e,Z1 _ m,hit,λb hb=>?_,q];let e:b=s1.heap.objs.size:=by simpa using hb
 subst e;erw[I1.sW (aY _) (I1.bp.fresh (aY _))]
theorem a9v{n:Nat}{g:TG}{tb:TS}{D:Ends}{O:St}{H:Hp}(Pv:Nat->St->Hp->Prop)(h0:Pv 0 O H) (hs:∀i O H,i<n->Pv i O H->g (.int ((n:Int)-1-i)) O H λσ2 H2=>tb {D with nx:=Pv (i+1),ct:=Pv (i+1),bk:=D.nx} σ2 H2)(hd:∀O H,Pv n O H->D.nx O H): ∃W:Nat->Nat->St->Hp->Prop,(∃m,W 0 m O H)/\∀i m O H,W i m O H->((CC n).stop i H/\D.nx O H)\/((CC n).go i H/\∃N:St->Hp->Prop,(∀σ' H',N σ' H'->∃m',m'<m/\W (i+1) m' σ' H')/\∀x H',(CC n).jO i H x H'->g x O H' λσ2 H2=>tb {D with nx:=N,ct:=N,bk:=D.nx} σ2 H2):=by
 erw[λi m O H=>m=n-i/\i<=n/\Pv i O H,#[n,by simp,fX _,h0],?_];rintro i m O H ⟨rfl,hi,p⟩;by_cases bK:i<n
 ·erw[.inr #[bK,Pv (i+1),λσ' H' q=>#[n-(i+1),aw,Z,bK,q],λx H' hy=>?_]]
  let(rfl,rfl):=hy;erw[hs i O _ bK p]
 ·let e:i=n:=by lia
  subst e;erw[.inl #[aY _,hd O H p]]
theorem HG(K:ag){X:Cx}(hK:X.K=K){a:Expr}{ta:TE}(ha:PE X a ta)(he:autoParam (∀whole,isTrue a X.env whole=(do let v<-whole;standAt a.pos;holding [v] (truthy v))) d8_._auto_1): PT X a (λO H Q=>ta O H λx H'=>∃k,L5 K x H' k/\Q k H'):=by subst hK;erw[a36 ha he]
section
variable {X:Cx}
theorem yj(K:ag)(h:X.K=K){o e:Expr}{to:TE}{t:TA}{apos dZ:Pos}(ho:PE X o to)(ha:PA X [e] t) (sQ:autoParam (attributeBase o "extend" X.env (eval o X.env)=eval o X.env) r8_._auto_1) (sM:autoParam (((backTo dZ (starEach [e] X.env)).all (λx=>!x.1)&&(backToKw dZ (keywordEach [] X.env)).all (λx=>x.1.isSome) &&decide ([e].length+([]:List Keyword).length+(if([]:List Keyword).isEmpty then 0 else 1)<30))=true) r8_._auto_1) (sG:autoParam ((apos.endLine==dZ.line)=true) r8_._auto_1)(hs:autoParam (starEach [e] X.env=(false,eval e X.env)::starEach [] X.env) r8_._auto_1)(sF:autoParam ((backTo dZ (starEach [] X.env)).any (·.1)=false) r8_._auto_1): PE X (.Call (.Attribute o "extend" apos) [e] [] dZ) (A7 K "list" RP to t):=by subst h;erw[E8 Y4 PySem.F.slot_list_extend PySem.F.type_list_extend a5O ho ha sQ sM sG hs sF]
open PyProof
end
end _L
namespace _L
open PySem PySem.Spec PyProof.Rows
def zw(lo:Int)(n:Nat):It:=#[λi _=>i<n,λi H x H'=>H'=H/\x= .int (lo-i),λi _=>n<=i]
theorem Z5{P:ai}{w:World}{K:ag}{tg:Expr}(it:Addr)(lo:Int)(n:Nat):Turn P w K tg (zw lo n) [it] it (λi h=>IsRangeIter h it (lo+(i:Nat)*(-1)) ((n:Int)-(i:Nat)) (-1)) where
 mem:=by simp
 obj:=λi h st b hb=>by
  let e:b=it:=by simpa using hb
  subst e;erw[_,st,λv z=>by let z':Data.fields _=Data.cell v:=z;cases z']
 keep:=λi h h' st k=>k it (by simp) _ st
 item:=by
  intro X hP hw hK hc i ay s O H E I hf st hg;subst hP hw hK;let(f0,f1,f2,f3,f4,f5):=hf it (by simp);let W:=Walks.range (prog:=X.prog) (w:=X.w) (I.ok.hd hc) it lo (-1) n;erw[W.item i s _ _ hg st λv h' tk hv hW kk=>?_];let(t,rfl):=hv;let I1:Inv X ay O H {s with heap:=h',toks:=tk}:=I.turned (λb o hb e=>kk b o (by simpa using hb) e) f0 f1 f3 f4 f5;erw[_,Z,za (s:={s with heap:=h',toks:=tk}) (n:="range_iterator") hW rfl rfl aA #[.int (lo-i),H,I1,#[t,?_],#[Z,Z],hW,λb hb=>(hf b hb).1]];let e:lo+(i:Int)*(-1)=lo-i:=by lia
  rw[e]
 done:=by intro X hP hw hK hc i ay s O H E I hf st hg;subst hP hw hK;let(f0,f1,f2,f3,f4,f5):=hf it (by simp);erw[XN (I.ok.hd hc) st (by have:n<=i:=hg;lia) λh' eb=>#[Z,I.turned (t':=s.toks) (λb o hb e=>eb b o hb e) f0 f1 f3 f4 f5]]
 self:=λ_ _ _ _ _ st h=>Lm st h
theorem a1c(ha:-(2^62)<=a)(ha':a<2^62)(hb:-(2^62)<=b)(wI:b<2^62):Builtin.Range.small a b (-1)=true:=by unfold Builtin.Range.small Builtin.Range.rangeSize;rw[aV aA,show(-(-1):Int)=1 by decide,Int.ediv_one];simp only[Builtin.Range.rangeFitsLong,fY,Bool.or_eq_true,FW,fC,show¬((-1:Int)>0) by decide,if_false];split<;>lia
theorem a1n(a b:Int):Builtin.Range.rangeSize a b (-1)=(((a-b).toNat:Nat):Int):=by unfold Builtin.Range.rangeSize;rw[aV aA,show(-(-1):Int)=1 by decide,Int.ediv_one];split<;>lia
inductive afx(R:It->Hp->Prop)(vs:List V)(H1:Hp):Prop |mk (i:Int)(j:Int)(_:vs=[.int i,.int j,.int (-1)])(_:(-(2^62)<=i/\i<2^62/\-(2^62)<=j/\j<2^62))(_:R (zw i (i-j).toNat) H1)
def a7h(ta:TA):TI:=λO H R=>ta O H λvs H1=>afx R vs H1
section
variable {X:Cx} {tg:Expr}
theorem a2L{ay:List (Addr×Obj)}{O:St}{H:Hp}{s:ah}{R:It->Hp->Prop}{E:Value->ah->Prop}{lo hi:Int}{t u v:Tok}{tk:Nat}(I:Inv X ay O H s)(h1:-(2^62)<=lo)(h2:lo<2^62)(h3:-(2^62)<=hi)(h4:hi<2^62) (q:R (zw lo (lo-hi).toNat) H):wpAny (model X.prog X.w) X.A (pyIter (.ref s.heap.objs.size)) (FE X ay O tg R) E {s with heap:=s.heap.push {cls:=.type "range",data:=.fields (List.toArray [.int lo t,.int hi u,.int (-1) v])},toks:=tk}:=by
 erw[wpAny_pyIter_range (IsRange.new ..) (a1c h1 h2 h3 h4) ?_];let I1:Inv X ay O H {s with heap:=s.heap.push {cls:=.type "range",data:=.fields (List.toArray [.int lo t,.int hi u,.int (-1) v])},toks:=tk}:=I.kept λb o e=>cD _ e;erw[(s.heap.push {cls:=.type "range",data:=.fields (List.toArray [.int lo t,.int hi u,.int (-1) v])}).objs.size,[(s.heap.push {cls:=.type "range",data:=.fields (List.toArray [.int lo t,.int hi u,.int (-1) v])}).objs.size],_,_,H,Z,I1.kept (t':=tk) λb o e=>cD _ e,Z5 _ lo (lo-hi).toNat,?_,λb hb=>?_,q]
 ·let e1:lo+((0:Nat):Int)*(-1)=lo:=by simp
  let e2:(((lo-hi).toNat:Nat):Int)-((0:Nat):Int)=Builtin.Range.rangeSize lo hi (-1):=by rw[a1n];lia
  show IsRangeIter _ _ (lo+((0:Nat):Int)*(-1)) ((((lo-hi).toNat:Nat):Int)-((0:Nat):Int)) (-1);rw[e1,e2];erw[fj _ rfl]
 ·let e:b=(s.heap.push {cls:=.type "range",data:=.fields (List.toArray [.int lo t,.int hi u,.int (-1) v])}).objs.size:=by simpa using hb
  subst e;erw[I1.sW (aY _) (I1.bp.fresh (aY _))]
theorem a3q(hg:Gl X "range")(hm:X.mg "range"=none)(ha:PA X [a,b,c] ta)(hs:autoParam (starEach [a,b,c] X.env=[(false,eval a X.env),(false,eval b X.env),(false,eval c X.env)]) r8_._auto_1)(iT:autoParam (starEach [b,c] X.env=[(false,eval b X.env),(false,eval c X.env)]) r8_._auto_1): PI X tg (.Call (.Name "range" p) [a,b,c] [] pos) (a7h ta):=by intro ay s O H R I h;erw[Call_ (sy I hg hm boot_range (zI (bc (ha pos ay s O H _ I h) λus s1 #[vs,H1,I1,r1,q1]=>?_) (by rw[hs,iT]) (by rw[iT];rfl)))];let(i,j,e,(q1,q2,q3,q4),q):=q1;subst e;cases r1 with |cons r rr=>cases rr with |cons r' rr=>cases rr with |cons r'' rr=>cases rr;let(t,rfl):=r;let(t',rfl):=r';let(t'',rfl):=r'';erw[call_range_3 aA (a2L I1 q1 q2 q3 q4 q) (Or.inl (PyProof.noPylong_small aw))]
theorem a9w{lo:Int}{n:Nat}{g:TG}{tb:TS}{D:Ends}{O:St}{H:Hp}(Pv:Nat->St->Hp->Prop)(h0:Pv 0 O H) (hs:∀i O H,i<n->Pv i O H->g (.int (lo-i)) O H λσ2 H2=>tb {D with nx:=Pv (i+1),ct:=Pv (i+1),bk:=D.nx} σ2 H2)(hd:∀O H,Pv n O H->D.nx O H): ∃W:Nat->Nat->St->Hp->Prop,(∃m,W 0 m O H)/\∀i m O H,W i m O H->((zw lo n).stop i H/\D.nx O H)\/((zw lo n).go i H/\∃N:St->Hp->Prop,(∀σ' H',N σ' H'->∃m',m'<m/\W (i+1) m' σ' H')/\∀x H',(zw lo n).jO i H x H'->g x O H' λσ2 H2=>tb {D with nx:=N,ct:=N,bk:=D.nx} σ2 H2):=by
 erw[λi m O H=>m=n-i/\i<=n/\Pv i O H,#[n,by simp,fX _,h0],?_];rintro i m O H ⟨rfl,hi,hp⟩;by_cases h:i<n
 ·erw[.inr #[h,Pv (i+1),λσ' H' yQ=>#[n-(i+1),aw,Z,aw,yQ],?_]]
  rintro x H' ⟨rfl,rfl⟩;erw[hs i O H' h hp]
 ·let e:i=n:=by lia
  subst e;erw[.inl #[aY _,hd O H hp]]
end
theorem Wu{K:ag}{bs:List Bool}{D:Addr}(rest:St)(hn:n=2)(h1:fq b1 K H l1 xs)(h2:fq b2 K H l2 ys)(nw:Nw H H0 D (.lst [])) (hl:min xs.length ys.length=bs.length)(hz:bs.length<=100000) (hs:∀(i:Nat)(x y:V)(b:Bool)(H2:Hp)(Q':VK),xs[i]? =some x->ys[i]? =some y->bs[i]? =some b->aH H H2->(∀H3,aH H2 H3->Q' (.bl b) H3)->te (some x::some y::rest) H2 Q') (hq:∀H',aH H H'->H' D=some (.lst (bs.map V.bl))->Q (.ref D) H'):mh (uX K b1 b2 l1 l2) (BL K n (wN (ie 0) (wN (ie 1) F1))) kL te Q D (none::none::rest) H0:=by
 subst hn;let hD:=nw.no;erw[xo bs.length (λi O H2=>aH H H2/\H2 D=some (.lst ((bs.take i).map V.bl))/\∃v v',O=v::v'::rest) ?_ ?_ ?_]
 ·erw[nw.same,nw.at',none,none,Z]
 ·rintro i O H2 hi ⟨s2,d2,v,v',rfl⟩
  let hx:i<xs.length:=by lia
  let hy:i<ys.length:=by lia
  let ex:=bo hx;let ey:=bo hy;let eb:=bo hi;erw[#[xs,ys,_,_,h1.go s2,h2.go s2,ex,ey],λy' H3 mR=>?_];let(T,x0,y0,rfl,k1,k2,n3):=mR;let e1:=k1 _ (h1.go s2);let e2:=k2 _ (h2.go s2);rw[ex]at e1;rw[ey]at e2;cases e1;cases e2;erw[T,_,Z,aW.of n3.at',Z,_,_,Z,_,_,Z,Z,?_];erw[yes (bA ?_)];erw[hs i _ _ _ _ _ ex ey eb (s2.trans n3.same) λH4 s4=>?_];erw[_,s4 _ _ (n3.same _ _ d2),?_,bs.length-(i+1),aw,Z,aw,λb o e=>?_,?_,_,_,Z]
  ·rw[bB,jM]
   have:(100000:Nat)<sizeLine:=by decide
   lia
  ·rw[aU (dH e hD)];erw[s4 b o (n3.same b o (s2 b o e))]
  ·rw[bP,lG,eb,jr];rfl
 ·rintro O H2 ⟨s2,d2,v,v',rfl⟩
  erw[#[xs,ys,h1.go s2,h2.go s2,aw],hq H2 s2 ?_];rw[d2,zL]
theorem jZ{t:TS}{D:Ends}(h:let E':=D;t E' O H):t D O H:=h
theorem gh{g:TG}{x:V}{tb:TS}{D:Ends}{O:St}{H:Hp}(h:let E':=D;g x O H λσ2 H2=>tb E' σ2 H2):g x O H λσ2 H2=>tb D σ2 H2:=h
theorem xB{c:TT}{tb:TS}{D:Ends}{Nx:St->Hp->Prop}{O:St}{H:Hp}(h:let E':=D;c O H λb H1=>if b=true then tb E' O H1 else Nx O H1):c O H λb H1=>if b=true then tb D O H1 else Nx O H1:=h
end _L
namespace _l
open PySem _L
def jq(i:Int):Int:=if i<0 then-i else i
theorem Cv(i:Int):jq i=(i.natAbs:Int):=by unfold jq;split<;>lia
def aF(ns:List Int):Nat:=ns.foldr (λz m=>max z.natAbs m) 0
theorem IL:∀{ns:List Int}{z:Int},z∈ns->z.natAbs<=aF ns
 |n::ns,z,h=>by
  show z.natAbs<=max n.natAbs (aF ns);rcases dg.mp h with rfl|h
  ·erw[Nat.le_max_left _ _]
  ·erw[gY (IL h) (Nat.le_max_right _ _)]
theorem IK:∀{ns:List Int},ns≠[]->∃z∈ns,z.natAbs=aF ns
 |[],h=>absurd Z h |[n],_=>#[n,.head _,by show n.natAbs=max n.natAbs 0;lia] |n::m::ns,_=>by
  let(z,hz,e):=IK (ns:=m::ns) (by simp);by_cases h:n.natAbs<=aF (m::ns)
  ·erw[z,.tail _ hz,by show _=max n.natAbs (aF (m::ns));lia]
  ·erw[n,.head _,by show _=max n.natAbs (aF (m::ns));lia]
theorem qd(h:∀z∈ns,z.natAbs<=m):aF ns<=m:=by cases ns with |nil=>erw[fX _] |cons a r=>let(z,hz,e):=IK (ns:=a::r) (by simp);rw[<-e];erw[h z hz]
theorem a6G(h:∃z∈ns,z≠0):0<aF ns:=by
 let(z,hz,h0):=h;have:=IL hz
 lia
theorem IJ(dM:ns≠[]){M:Int}(h1:M∈ns.map jq)(h2:∀a∈ns.map jq,a<=M):M=(aF ns:Int):=by
 let(z,hz,e):=gC.mp h1;let(y,hy,ey):=IK dM;let a1:=IL hz;let a2:=h2 (jq y) (gC.mpr #[y,hy,Z]);rw[Cv]at e a2
 lia
def mD(p q:Int):Int:=(2*(p.natAbs:Int)+q)/(2*q)
def jA(p q:Int):Int:=if p>=0 then mD p q else-mD p q
structure zv(x p q:Int):Prop where
 lo:-q<=2*(x*q-p)
 hi:2*(x*q-p)<=q
 wQ:2*(x*q-p)=q\/2*(x*q-p)=-q->p.natAbs<=(x*q).natAbs
theorem a1l(hq:0<q):2*q*mD p q<=2*(p.natAbs:Int)+q/\2*(p.natAbs:Int)+q<2*q*mD p q+2*q:=by let h:=Int.mul_ediv_add_emod (2*(p.natAbs:Int)+q) (2*q);let h0:=qV (2*(p.natAbs:Int)+q) (show 2*q≠0 by omega);let h1:=vp (2*(p.natAbs:Int)+q) (show 0<2*q by omega);unfold mD;constructor<;>omega
theorem a1m(hq:0<q):0<=mD p q:=Int.ediv_nonneg aw aw
theorem near_is(hq:0<q):zv (jA p q) p q:=by
 let(h1,h2):=a1l (p:=p) hq;let h0:=a1m (p:=p) hq;rw[zW,LZ q]at h1 h2;let hs0:0<=mD p q*q:=iy h0 (D9 hq);unfold jA;split
 ·erw[?_,?_,λh=>?_]<;>(generalize mD p q*q=s at*;omega)
 ·erw[?_,?_,?_]<;>rw[Int.neg_mul]<;>(generalize mD p q*q=s at*;omega)
theorem B9{x y q:Int}(hq:0<q)(h:x<y):x*q+q<=y*q:=by have:(x+1)*q<=y*q:=Ge aw aw;rw[Int.add_mul,ki]at this;erw[this]
theorem a5D(hq:0<q)(a:zv x p q)(b:zv y p q):x=y:=by
 let key:∀{x y:Int},zv x p q->zv y p q->¬x<y:=λ{x y} a b h=>by
  let g:=B9 hq h;let e1:=a.lo;let e2:=a.hi;let e3:=b.lo;let e4:=b.hi;let f1:=a.wQ;let f2:=b.wQ;let hx:x*q=0\/q<=x*q\/x*q<=-q:=by
   rcases Yk x 0 with h|h|h
   ·have:=B9 hq h;lia
   ·left;rw[h,D7]
   ·have:=B9 hq h;lia
  let hy:y*q=0\/q<=y*q\/y*q<=-q:=by
   rcases Yk y 0 with h|h|h
   ·have:=B9 hq h;lia
   ·left;rw[h,D7]
   ·have:=B9 hq h;lia
  generalize x*q=u at*;generalize y*q=v at*;let hu:=f1 aw;let hv:=f2 aw
  lia
 rcases Yk x y with h|h|h
 ·erw[absurd h (key a b)]
 ·erw[h]
 ·erw[absurd h (key b a)]
theorem a5E(hq:0<q)(a:zv x p q):x=jA p q:=a5D hq a (near_is hq)
theorem T5(hq:0<q):jA 0 q=0:=(a5E hq #[aw,aw,λh=>by lia]).symm
end _l
namespace _C
open _l
def dk(ns ms:List Int):List Int:=(ns.zip ms).map λp=>p.1*(aF ms:Int)-p.2*(aF ns:Int)
theorem a5W(h:z∈dk ns ms):∃a b,a∈ns/\b∈ms/\z=a*(aF ms:Int)-b*(aF ns:Int):=by let((a,b),hp,rfl):=gC.mp h;erw[a,b,(zM hp).1,(zM hp).2,Z]
theorem mL{a b:Int}{m n:Nat}(h:a.natAbs<=m)(g:b.natAbs<=n):(a*b).natAbs<=m*n:=by rw[gL];erw[oo h g]
theorem Fh(h1:∀z∈ns,z.natAbs<=1000)(h2:∀z∈ms,z.natAbs<=1000):∀z∈dk ns ms,z.natAbs<=2000000:=λz hz=>by let(a,b,ha,hb,rfl):=a5W hz;let l1:=qd h1;let l2:=qd h2;let e1:=mL (b:=(aF ms:Int)) (n:=1000) (h1 a ha) bZ;let e2:=mL (b:=(aF ns:Int)) (n:=1000) (h2 b hb) bZ;omega
def uI(zs:List Int)(i:Nat):Nat:=aF (zs.take i)
theorem Ua:∀(xs ys:List Int),aF (xs++ys)=max (aF xs) (aF ys) |[],ys=>by simp[aF] |x::xs,ys=>by show max x.natAbs (aF (xs++ys))=max (max x.natAbs (aF xs)) (aF ys);rw[Ua xs ys];lia
theorem a8a(h:zs[i]? =some z):uI zs (i+1)=max (uI zs i) z.natAbs:=by
 unfold uI;rw[lG,h,Ua];show max _ (max z.natAbs 0)=_
 lia
def xC(r:Rat):Rat:=if r.num<0 then-r else r
theorem ada(r:Rat):(xC r).num=jq r.num:=by
 unfold xC jq;split
 ·rfl
 ·rfl
theorem ade(r:Rat):(xC r).den=r.den:=by
 unfold xC;split
 ·rfl
 ·rfl
theorem abL(hb:0<b):0<=(Rat.divInt a b).num↔0<=a:=by rw[Lv,zG hb]
theorem adb(hL:0<L):xC (Rat.divInt c L)=Rat.divInt (jq c) L:=by
 let h:=abL (a:=c) hL;unfold xC jq;by_cases hc:c<0
 ·rw[aQ hc,aQ aw,Rat.neg_divInt]
 ·rw[aV hc,aV aw]
theorem Fe(hL:0<L):Rat.divInt a L<=Rat.divInt b L↔a<=b:=by
 rw[Rat.le_iff_sub_nonneg,XX _ _ aw aw,zG (hJ hL hL),<-Int.sub_mul];constructor
 ·intro h
  have:=Int.nonneg_of_mul_nonneg_left h hL
  lia
 ·intro h
  erw[iy aw aw]
theorem We(hL:0<L):Rat.divInt a L<Rat.divInt b L↔a<b:=by rw[<-Rat.not_le,Fe hL];lia
theorem ZY(h1:0<l1)(h2:0<l2):Rat.divInt b l2-Rat.divInt a l1=Rat.divInt (b*l1-a*l2) (l1*l2):=by rw[XX _ _ aw aw,LZ l2 l1]
theorem abW(hp:p≠0)(hh:h≠0)(e:p*L=h*q):Rat.divInt (j*j*q*q) (p*p)=Rat.divInt ((j*L)^2) (h^2):=by
 rw[Rat.divInt_eq_divInt_iff (LX hp hp) (by rw[fh,fh,kK,ki];erw[LX hh hh])];let e2:(p*L)*(p*L)=(h*q)*(h*q):=by rw[e]
 rw[fh,fh,kK,ki,fh,fh,kK,ki];let a1:j*j*q*q*(h*h)=(j*j)*((h*q)*(h*q)):=by ac_rfl
 let a2:j*L*(j*L)*(p*p)=(j*j)*((p*L)*(p*L)):=by ac_rfl
 rw[a1,a2,e2]
end _C
namespace _P
def mn(a b:Rat):Rat:=if b<a then b else a
theorem dR(a b:Rat):mn a b<=a:=by
 unfold mn;split
 ·next h=>erw[CP h]
 ·erw[fu]
theorem fw(a b:Rat):mn a b<=b:=by
 unfold mn;split
 ·erw[fu]
 ·next h=>erw[tL.mp h]
theorem gE(h1:c<=a)(h2:c<=b):c<=mn a b:=by unfold mn;split<;>assumption
theorem nN(a b:Rat):mn a b=a\/mn a b=b:=by
 unfold mn;split
 ·erw[.inr rfl]
 ·erw[.inl rfl]
theorem sj(hc:c=a\/c=b)(h1:c<=a)(h2:c<=b):mn a b=c:=by
 rcases hc with rfl|rfl
 ·erw[qS (dR _ _) (gE h1 h2)]
 ·erw[qS (fw _ _) (gE h1 h2)]
theorem uA{a b c:Rat}(h:a<=b)(hc:0<=c):a<=b+c:=bW h (by have:=(Rat.add_le_add_left (c:=b)).mpr hc;rwa [vg]at this)
theorem add_r{a b c:Rat}(h:a<=b):a+c<=b+c:=Lx.mpr h
section
variable (n:Nat)(own:Nat->Rat)(L:Nat->Option Nat)(r f:Int)
def Rz:Nat->Rat |0=>own 0 |i+1=>match L i with |some m=>mn (own (i+1)) (Rz i+((r*(m:Int):Int):Rat)) |none=>own (i+1)
def Pz(g:Nat->Rat):Nat->Rat |0=>g n |k+1=>match L (n-(k+1))with |some m=>mn (g (n-(k+1))) (Pz g k+((f*(m:Int):Int):Rat)) |none=>g (n-(k+1))
def fl(g:Nat->Rat)(i:Nat):Rat:=Pz n L f g (n-i)
def jz(i:Nat):Rat:=fl n L f (Rz own L r) i
end
section
variable {n:Nat}{own g:Nat->Rat}{L:Nat->Option Nat}{r f:Int}
theorem nX:fl n L f g n=g n:=by unfold fl;rw[CT];rfl
theorem lX(hi:i<n)(h:L i=some m):fl n L f g i=mn (g i) (fl n L f g (i+1)+((f*(m:Int):Int):Rat)):=by
 unfold fl;let e:n-i=(n-(i+1))+1:=by omega
 rw[e];show(match L (n-((n-(i+1))+1))with|some m=>_|none=>_)=_;let e2:n-((n-(i+1))+1)=i:=by omega
 rw[e2,h]
theorem nV(hi:i<n)(h:L i=none):fl n L f g i=g i:=by
 unfold fl;let e:n-i=(n-(i+1))+1:=by lia
 rw[e];show(match L (n-((n-(i+1))+1))with|some m=>_|none=>_)=_;let e2:n-((n-(i+1))+1)=i:=by lia
 rw[e2,h]
theorem HJ:jz n own L r f n=Rz own L r n:=nX
theorem Ay(hi:i<n)(h:L i=some m):jz n own L r f i=mn (Rz own L r i) (jz n own L r f (i+1)+((f*(m:Int):Int):Rat)):=lX hi h
theorem HI(hi:i<n)(h:L i=none):jz n own L r f i=Rz own L r i:=nV hi h
theorem ph(h:L i=some m):Rz own L r (i+1)=mn (own (i+1)) (Rz own L r i+((r*(m:Int):Int):Rat)):=by show(match L i with|some m=>_|none=>_)=_;rw[h]
theorem uU(h:L i=none):Rz own L r (i+1)=own (i+1):=by show(match L i with|some m=>_|none=>_)=_;rw[h]
theorem FC(i:Nat):Rz own L r i<=own i:=by cases i with |zero=>erw[fu] |succ i=>cases h:L i with |none=>rw[uU h];erw[fu] |some m=>rw[ph h];erw[dR _ _]
theorem RV(hi:i<=n):jz n own L r f i<=Rz own L r i:=by
 rcases Nat.lt_or_eq_of_le hi with hi|rfl
 ·cases h:L i with |none=>rw[HI hi h];erw[fu] |some m=>rw[Ay hi h];erw[dR _ _]
 ·rw[HJ];erw[fu]
theorem a3h(hi:i<=n):jz n own L r f i<=own i:=bW (RV hi) (FC i)
theorem a3i(hi:i<n)(h:L i=some m):jz n own L r f i<=jz n own L r f (i+1)+((f*(m:Int):Int):Rat):=by rw[Ay hi h];erw[fw _ _]
theorem wc{a:Int}{m:Nat}(h:0<=a):(0:Rat)<=((a*(m:Int):Int):Rat):=by have:((0:Int):Rat)<=((a*(m:Int):Int):Rat):=tN.mpr (iy h aw);erw[this]
theorem a3g(hi:i<n)(h:L i=some m)(hr:0<=r)(hf:0<=f):jz n own L r f (i+1)<=jz n own L r f i+((r*(m:Int):Int):Rat):=by
 let h1:jz n own L r f (i+1)<=Rz own L r i+((r*(m:Int):Int):Rat):=by erw[bW (RV hi) ?_];rw[ph h];erw[fw _ _]
 rw[Ay hi h];rcases nN (Rz own L r i) (jz n own L r f (i+1)+((f*(m:Int):Int):Rat))with e|e
 ·rw[e];erw[h1]
 ·rw[e];erw[uA (uA fu (wc hf)) (wc hr)]
theorem CB(hr:0<=r)(h0:∀i,i<=n->0<=own i):∀i,i<=n->0<=Rz own L r i |0,hi=>h0 0 hi |i+1,hi=>by cases h:L i with |none=>rw[uU h];erw[h0 _ hi] |some m=>rw[ph h];erw[gE (h0 _ hi) (uA (CB hr h0 i aw) (wc hr))]
theorem down{C:Nat->Prop}(hn:C n)(hs:∀i,i<n->C (i+1)->C i):∀i,i<=n->C i:=by
 let key:∀k,k<=n->C (n-k):=λk=>by induction k with |zero=>intro _;erw[hn] |succ k ih=>
  intro hk;erw[hs _ bZ ?_];let e:n-(k+1)+1=n-k:=by omega
  rw[e];erw[ih bZ]
 intro i hi;have:=key (n-i) bZ;let e:n-(n-i)=i:=by omega
 rwa [e]at this
theorem RU(hr:0<=r)(hf:0<=f)(h0:∀i,i<=n->0<=own i):∀i,i<=n->0<=jz n own L r f i:=by
 erw[down ?_ λi hi ih=>?_]
 ·rw[HJ];erw[CB hr h0 n (aY _)]
 ·cases h:L i with |none=>rw[HI hi h];erw[CB hr h0 i aw] |some m=>rw[Ay hi h];erw[gE (CB hr h0 i aw) (uA ih (wc hf))]
structure Keeps(n:Nat)(own:Nat->Rat)(L:Nat->Option Nat)(r f:Int)(q:Nat->Rat):Prop where
 own:∀i,i<=n->q i<=own i
 rise:∀i m,i<n->L i=some m->q (i+1)<=q i+((r*(m:Int):Int):Rat)
 JH:∀i m,i<n->L i=some m->q i<=q (i+1)+((f*(m:Int):Int):Rat)
theorem RW(hr:0<=r)(hf:0<=f):Keeps n own L r f (jz n own L r f):=#[λi hi=>a3h hi,λi m hi h=>a3g hi h hr hf,λi m hi h=>a3i hi h]
theorem EF{q:Nat->Rat}(k:Keeps n own L r f q):∀i,i<=n->q i<=Rz own L r i |0,hi=>k.own 0 hi |i+1,hi=>by cases h:L i with |none=>rw[uU h];erw[k.own _ hi] |some m=>rw[ph h];erw[gE (k.own _ hi) (bW (k.rise i m aw h) (add_r (EF k i aw)))]
theorem a6U(k:Keeps n own L r f q):∀i,i<=n->q i<=jz n own L r f i:=by
 erw[down ?_ λi hi ih=>?_]
 ·rw[HJ];erw[EF k n (aY _)]
 ·cases h:L i with |none=>rw[HI hi h];erw[EF k i aw] |some m=>rw[Ay hi h];erw[gE (EF k i aw) (bW (k.JH i m hi h) (add_r ih))]
theorem a3f(hr:0<=r)(hf:0<=f)(k:Keeps n own L r f q)(g:∀q',Keeps n own L r f q'->∀i,i<=n->q' i<=q i):∀i,i<=n->q i=jz n own L r f i:=λi hi=>qS (a6U k i hi) (g _ (RW hr hf) i hi)
end
open _d
theorem pU(h1:Bd n a)(h2:Bd n b):Bd n (mn a b):=by rcases nN a b with e|e<;>rw[e]<;>assumption
theorem jH{n:Nat}{q:Rat}{z:Int}(h:Bd n q)(hz:z.natAbs<2^24):Bd (n+25) (q+(z:Rat)):=by let b:Bd 24 (z:Rat):=#[hz,by show 1<2^24;decide];exact(h.add b).mono aw
theorem L7{b:Nat}{own:Nat->Rat}{L:Nat->Option Nat}{r:Int}(ho:∀i,Bd b (own i))(hL:∀i m,L i=some m->(r*(m:Int)).natAbs<2^24):∀i,Bd (b+25*i) (Rz own L r i) |0=>ho 0 |i+1=>by cases h:L i with |none=>rw[uU h];exact(ho _).mono aw |some m=>rw[ph h];erw[pU ((ho _).mono aw) ((jH (L7 ho hL i) (hL i m h)).mono aw)]
theorem JD{n b:Nat}{g:Nat->Rat}{L:Nat->Option Nat}{f:Int}(ho:∀i,i<=n->Bd b (g i))(hL:∀i m,L i=some m->(f*(m:Int)).natAbs<2^24):∀i,i<=n->Bd (b+25*(n-i)) (fl n L f g i):=by
 erw[down ?_ λi hi ih=>?_]
 ·rw[nX];exact(ho n (aY _)).mono aw
 ·cases h:L i with |none=>rw[nV hi h];exact(ho i aw).mono aw |some m=>rw[lX hi h];erw[pU ((ho i aw).mono aw) ((jH ih (hL i m h)).mono aw)]
def lst(n:Nat)(g:Nat->Rat):List Rat:=(List.range (n+1)).map g
theorem pX(n:Nat)(g:Nat->Rat):(lst n g).length=n+1:=by simp[lst]
theorem nO(g:Nat->Rat){i:Nat}(h:i<=n):(lst n g)[i]? =some (g i):=by unfold lst;rw[bV,bo (by simp;lia),xR];rfl
theorem Iy(h:∀k,k<=n->k≠i->g' k=g k):(lst n g).set i (g' i)=lst n g':=by
 apply zU;intro k;by_cases hk:k<=n
 ·rw[nO g' hk,List.getElem?_set]
  by_cases e:i=k
  ·subst e;rw[aQ rfl,aQ (by rw[pX];lia)]
  ·rw[aV e,nO g hk,h k hk (λz=>e z.symm)]
 ·rw[mj (by rw[xQ,pX];lia),mj (by rw[pX];lia)]
theorem sr(h:∀k,k<=n->g' k=g k):lst n g=lst n g':=by
 apply zU;intro k;by_cases hk:k<=n
 ·rw[nO g hk,nO g' hk,h k hk]
 ·rw[mj (by rw[pX];lia),mj (by rw[pX];lia)]
end _P
namespace _O
open _P _C _l _d
abbrev Itm:=Option (List Int × Int)
def topR(rate sp:Int):Rat:=Rat.divInt ((sp*rate)^2) 10000
def cornO(j:Int)(ns ms:List Int):Option Rat:=if aF (dk ns ms)=0 then none else some (Rat.divInt ((j*aF ns*aF ms)^2) ((aF (dk ns ms):Int)^2))
def mnO(a:Rat):Option Rat->Rat |none=>a |some c=>mn a c
def betR(j rate:Int):Itm->Itm->Rat |some (ns,sp),some (ms,sq)=>mnO (mn (topR rate sp) (topR rate sq)) (cornO j ns ms) |_,_=>0
def atO(os:List Itm)(i:Nat):Itm:=(os[i]?).join
def ownF(j rate:Int)(os:List Itm):Nat->Rat |0=>0 |i+1=>betR j rate (atO os i) (atO os (i+1))
def leadF(os:List Itm)(i:Nat):Option Nat:=(atO os i).map λq=>aF q.1
def ownL(j rate:Int)(os:List Itm):List Rat:=(List.range (os.length+1)).map (ownF j rate os)
theorem m8(h:os[i]? =some o):atO os i=o:=by unfold atO;rw[h];rfl
theorem KN(h:os.length<=i):atO os i=none:=by unfold atO;rw[mj h];rfl
theorem tx(j rate:Int)(o:Itm):betR j rate o none=0:=by unfold betR;split<;>simp_all
theorem Cq(j rate:Int)(o:Itm):betR j rate none o=0:=by unfold betR;split<;>simp_all
theorem Ed(j rate:Int)(os:List Itm):∀n,n=os.length->ownF j rate os n=0 |0,_=>rfl |n+1,h=>by show betR j rate (atO os n) (atO os (n+1))=0;rw[KN (i:=n+1) aw];erw[tx _ _ _]
theorem Sa(j rate:Int)(os:List Itm):(ownL j rate os).length=os.length+1:=by simp[ownL]
theorem Sb(j rate:Int)(os:List Itm){i:Nat}(h:i<=os.length):(ownL j rate os)[i]? =some (ownF j rate os i):=by unfold ownL;rw[bV,bo (by simp;lia),xR];rfl
theorem Sd(j rate:Int){os:List Itm}(h:os≠[]):ownL j rate os=[0]++(List.range (os.length-1)).map (λi=>ownF j rate os (i+1))++[0]:=by
 let h0:0<os.length:=CZ.mpr h;apply zU;intro i;by_cases hi:i<=os.length
 ·rw[Sb j rate os hi]
  rcases Nat.eq_zero_or_pos i with rfl|hp
  ·rfl
  ·by_cases hl:i=os.length
   ·rw[nj (by simp;lia),hl,Ed j rate os _ rfl]
    have:os.length-([0]++List.map (λi=>ownF j rate os (i+1)) (List.range (os.length-1))).length=0:=by simp;lia
    rw[this];rfl
   ·rw[mq (by simp;lia),nj (by simp;lia),bV]
    let e:i-[(0:Rat)].length=i-1:=rfl;rw[e,bo (by simp;lia),xR];show some _=some (ownF j rate os (i-1+1));rw[Nat.sub_add_cancel hp]
 ·rw[mj (by rw[Sa];lia),mj (by simp;lia)]
theorem ou(rate sp:Int):0<=topR rate sp:=by
 unfold topR;rw[zG aA,fh,fh,kK,ki];rcases Int.le_total 0 (sp*rate)with h|h
 ·erw[iy h h]
 ·erw[Yj h h]
theorem a06(a:Int):0<=a^2:=by
 rw[fh,fh,kK,ki];rcases Int.le_total 0 a with h|h
 ·erw[iy h h]
 ·erw[Yj h h]
theorem abX(h:cornO j ns ms=some c):0<=c:=by
 unfold cornO at h;split at h
 ·cases h
 ·next h0=>
  cases h;rw[zG]
  ·erw[a06 _]
  ·rw[fh,fh,kK,ki];erw[hJ aw aw]
theorem acL(j rate:Int)(o p:Itm):0<=betR j rate o p:=by
 unfold betR;split
 ·next ns sp ms sq=>
  let h:=gE (ou rate sp) (ou rate sq);unfold mnO;split
  ·erw[h]
  ·next c e=>erw[gE h (abX e)]
 ·erw[fu]
theorem rW(j rate:Int)(os:List Itm):∀i,0<=ownF j rate os i |0=>fu |i+1=>acL _ _ _ _
def OkI(o:Itm):Prop:=∀ns sp,o=some (ns,sp)->(∀z∈ns,(z.natAbs:Int)<=100)/\1<=sp/\sp<=20
theorem GC{a:Int}{m:Nat}(h:a.natAbs<=m):(a^2).natAbs<=m*m:=by rw[fh,fh,kK,ki];erw[mL h h]
theorem lN{rate:Int}(h1:1<=sp)(h2:sp<=20)(h3:10<=rate)(h4:rate<=200):Bd 64 (topR rate sp):=by
 let mU:(2:Nat)^64=18446744073709551616:=by decide
 let a:=GC (mL (a:=sp) (b:=rate) (m:=20) (n:=200) aw aw);erw[nL aA (by rw[mU];lia) aA]
theorem Kr(h1:1<=j)(h2:j<=50)(hn:∀z∈ns,(z.natAbs:Int)<=100)(hm:∀z∈ms,(z.natAbs:Int)<=100)(h:cornO j ns ms=some c):Bd 64 c:=by
 let mU:(2:Nat)^64=18446744073709551616:=by decide
 let cb:=Fh (λz hz=>by have:=hn z hz;lia) (λz hz=>by have:=hm z hz;lia) (ns:=ns) (ms:=ms);let hb:=qd cb;let l1:=qd (ns:=ns) (m:=100) λz hz=>by have:=hn z hz;lia
 let l2:=qd (ns:=ms) (m:=100) λz hz=>by have:=hm z hz;lia
 unfold cornO at h;split at h
 ·cases h
 ·next h0=>cases h;let a:=GC (mL (mL (a:=j) (b:=(aF ns:Int)) (m:=50) (n:=100) aw aw) (b:=(aF ms:Int)) (n:=100) aw);let b:=GC (a:=(aF (dk ns ms):Int)) (m:=2000000) aw;erw[nL ?_ (by rw[mU];lia) (by rw[mU];lia)];rw[fh,fh,kK,ki];erw[LX aw aw]
theorem pU(h1:Bd n a)(h2:Bd n b):Bd n (mn a b):=by rcases nN a b with e|e<;>rw[e]<;>assumption
theorem Gi:Bd 64 (0:Rat):=#[ aA,aA]
theorem acN{rate:Int}(h1:1<=j)(h2:j<=50)(h3:10<=rate)(h4:rate<=200)(ho:OkI o)(hp:OkI p):Bd 64 (betR j rate o p):=by
 unfold betR;split
 ·next ns sp ms sq=>
  let(a1,a2,a3):=ho ns sp rfl;let(b1,b2,b3):=hp ms sq rfl;let h:=pU (lN a2 a3 h3 h4) (lN b2 b3 h3 h4);unfold mnO;split
  ·erw[h]
  ·next c e=>erw[pU h (Kr h1 h2 a1 b1 e)]
 ·erw[Gi]
def OkIs(os:List Itm):Prop:=∀i,OkI (atO os i)
theorem AE{j rate:Int}{os:List Itm}(h1:1<=j)(h2:j<=50)(h3:10<=rate)(h4:rate<=200)(ho:OkIs os):∀i,Bd 64 (ownF j rate os i) |0=>Gi |i+1=>acN h1 h2 h3 h4 (ho i) (ho (i+1))
end _O
namespace _W
open PySem _L
def m9(pl ns:List Int):List Int:=List.zipWith (λa b=>a+b) pl ns
theorem xA(h:ns.length=pl.length):(m9 pl ns).length=pl.length:=by unfold m9;rw[List.length_zipWith,h];erw[Nat.min_self _]
theorem KW{pl ns:List Int}{i:Nat}{a b:Int}(h1:pl[i]? =some a)(h2:ns[i]? =some b):(m9 pl ns)[i]? =some (a+b):=by unfold m9;rw[List.getElem?_zipWith,h1,h2]
structure lj(rs pl:List Int):Prop where
 len:pl.length=rs.length
 at':∀(i:Nat)(x r:Int),pl[i]? =some x->rs[i]? =some r->0<=x/\x<=r
end _W
namespace _P
section
variable {n:Nat}{own AF q:Nat->Rat}{L:Nat->Option Nat}{r f r' f':Int}
theorem Tr(h1:a'<=a)(h2:b'<=b):mn a' b'<=mn a b:=gE (bW (dR _ _) h1) (bW (fw _ _) h2)
end
end _P
namespace _O
open _P _l _C
theorem MW{a b:Int}(h0:0<=a)(h:a<=b):a^2<=b^2:=by rw[fh,fh,kK,ki,fh,fh,kK,ki];erw[zV h h h0 aw]
theorem Dz{rate:Int}(h0:0<=iB)(h1:iB<=sp)(h2:0<=rK)(h3:rK<=rate):topR rK iB<=topR rate sp:=by unfold topR;rw[Fe aA];erw[MW (iy h0 h2) (zV h1 h3 h2 aw)]
theorem abY(h0:0<=j)(h:j<=j')(a b:Rat)(UU:a<=b):mnO a (cornO j ns ms)<=mnO b (cornO j' ns ms):=by
 unfold cornO;by_cases hz:aF (dk ns ms)=0
 ·rw[aQ hz,aQ hz];erw[UU]
 ·rw[aV hz,aV hz]
  erw[Tr UU ?_];let hp:(0:Int)<(aF (dk ns ms):Int)^2:=by rw[fh,fh,kK,ki];erw[hJ aw aw]
  rw[Fe hp];erw[MW (iy (iy h0 aw) aw) ?_];erw[Ge (Ge h aw) aw]
theorem acM{rate:Int}(h0:0<=j)(h:j<=j')(r0:0<=rate)(hr:rate<=rK)(ho:OkI o)(hp:OkI p):betR j rate o p<=betR j' rK o p:=by cases o with |none=>rw[Cq,Cq];erw[fu] |some q=>cases p with |none=>rw[tx,tx];erw[fu] |some q'=>let(ns,sp):=q;let(ms,sq):=q';let(_,a,_):=ho ns sp rfl;let(_,b,_):=hp ms sq rfl;erw[abY h0 h _ _ (Tr (Dz aw (fD _) r0 hr) (Dz aw (fD _) r0 hr))]
theorem a3S{j j' rate rK:Int}{os:List Itm}(h0:0<=j)(h:j<=j')(r0:0<=rate)(hr:rate<=rK)(ok:OkIs os):∀i,ownF j rate os i<=ownF j' rK os i |0=>fu |i+1=>acM h0 h r0 hr (ok i) (ok (i+1))
end _O
namespace _P
section
variable {n:Nat}{own:Nat->Rat}{L:Nat->Option Nat}{r f:Int}
theorem BP(hi:i<=n):fl n L f g i<=g i:=by
 rcases zK i n with h|h
 ·cases e:L i with |none=>rw[nV h e];erw[fu] |some m=>rw[lX h e];erw[dR _ _]
 ·have:i=n:=by lia
  subst this;rw[nX];erw[fu]
theorem JC(hf:0<=f)(h0:∀i,i<=n->0<=g i):∀i,i<=n->0<=fl n L f g i:=by
 erw[down ?_ ?_]
 ·rw[nX];erw[h0 n (aY _)]
 ·intro i hi ih
  cases e:L i with |none=>rw[nV hi e];erw[h0 i aw] |some m=>rw[lX hi e];erw[gE (h0 i aw) (uA ih (wc hf))]
theorem ado(hr:0<=r)(hf:0<=f):∀i,i<=n->Rz (fl n L f own) L r i=jz n own L r f i:=by
 erw[a3f hr hf #[λi hi=>bW (FC i) (BP hi),λi m hi h=>?_,λi m hi h=>?_] ?_]
 ·rw[ph h];erw[fw _ _]
 ·rw[ph h]
  rcases nN (fl n L f own (i+1)) (Rz (fl n L f own) L r i+((r*(m:Int):Int):Rat))with e|e
  ·rw[e]
   erw[bW (FC i) ?_];rw[lX hi h];erw[fw _ _]
  ·rw[e]
   erw[uA (uA fu (wc hr)) (wc hf)]
 ·intro q' k
  let h1:∀i,i<=n->q' i<=fl n L f own i:=by
   erw[down ?_ ?_]
   ·rw[nX];erw[k.own n (aY _)]
   ·intro i hi ih
    cases e:L i with |none=>rw[nV hi e];erw[k.own i aw] |some m=>rw[lX hi e];erw[gE (k.own i aw) (bW (k.JH i m hi e) (add_r ih))]
  intro i;induction i with |zero=>erw[λhi=>h1 0 hi] |succ i ih=>intro hi;cases e:L i with |none=>rw[uU e];erw[h1 _ hi] |some m=>rw[ph e];erw[gE (h1 _ hi) (bW (k.rise i m aw e) (add_r (ih aw)))]
theorem a9C(hf:0<=f)(h0:∀i,i<=n->0<=g i)(hg:g 0=0):fl n L f g 0=g 0:=qS (BP (fX _)) (by rw[hg];erw[JC hf h0 0 (fX _)])
theorem adn(hr:0<=r)(h0:∀i,i<=n->0<=g i)(hg:g n=0):Rz g L r n=g n:=qS (FC n) (by rw[hg];erw[CB hr h0 n (aY _)])
end
end _P
namespace _L
open PySem PySem.Spec PyProof.Rows
def Lh(z:Str):It:=#[λi _=>i<z.cps.size,λi H x H'=>H'=H/\∃c,z.cps.toList[i]? =some c/\x= .str ⟨#[c]⟩,λi _=>z.cps.size<=i]
theorem Z0{P:ai}{w:World}{K:ag}{tg:Expr}(it:Addr)(z:Str)(t:Tok)(ty:String)(J6:["enumerate","zip","dict_itemiterator","dict_reverseitemiterator","odict_iterator","itertools.zip_longest","itertools.pairwise"].contains ty=false) (W:∀A':ak,A'.handled=none->Walks P w A' it [it] [it] z.cps.size (SignAt z) (λi h=>h.IsStrIter it ty z t i)) (self:∀(A:ak)(i:Nat)(s:ah)(Q:Value->ah->Prop)(E:Value->ah->Prop),s.heap.IsStrIter it ty z t i->Q (.ref it) s->wpAny (model P w) A (pyIter (.ref it)) Q E s): Turn P w K tg (Lh z) [it] it (λi h=>h.IsStrIter it ty z t i/\i<=z.cps.size) where
 mem:=by simp
 obj:=λi h st b hb=>by
  let e:b=it:=by simpa using hb
  subst e;let((o,e,c,d),_):=st;erw[o,e,λv z=>by rw[d]at z;cases z]
 keep:=λi h h' st k=>#[let#[o,e,r]:=st.1;#[o,k it (by simp) o e,r],st.2]
 item:=by intro X hP hw hK hc i ay s O H E I hf st hg;subst hP hw hK;let(f0,f1,f2,f3,f4,f5):=hf it (by simp);refine(W X.A (I.ok.hd hc)).item i s _ _ hg st.1 λv h' tk hv hW kk=>?_;let(c,u,ec,rfl):=hv;let I1:Inv X ay O H {s with heap:=h',toks:=tk}:=I.turned (λb o hb e=>kk b o (by simpa using hb) e) f0 f1 f3 f4 f5;let(o,e,cl,d):=id hW;erw[_,Z,za (s:={s with heap:=h',toks:=tk}) e cl d J6 #[.str ⟨#[c]⟩,H,I1,#[u,Z],#[Z,c,by simpa using ec,Z],#[hW,hg],λb hb=>(hf b hb).1]]
 done:=by intro X hP hw hK hc i ay s O H E I hf st hg;subst hP hw hK;let(f0,f1,f2,f3,f4,f5):=hf it (by simp);let(st,hle):=st;let ei:i=z.cps.size:=Nat.le_antisymm hle hg;subst ei;exact(W X.A (I.ok.hd hc)).done s _ _ st λh' tk eb=>#[Z,I.turned (λb o hb e=>eb b o (by simpa using hb) e) f0 f1 f3 f4 f5]
 self:=λA i s Q E st h=>self A i s Q E st.1 h
section
variable {X:Cx} {tg:Expr}
inductive afw(R:It->Hp->Prop)(x:V)(H1:Hp):Prop |mk z(_:x= .str z)(_:R (Lh z) H1)
def a7g(tl:TE):TI:=λO H R=>tl O H λx H1=>afw R x H1
theorem a3o(hl:PE X l tl):PI X tg l (a7g tl):=by
 intro ay s O H R I h;erw[bc (hl ay s O H _ I h) λv s1 #[x,H1,I1,r1,q1]=>?_];let(z,e,q):=q1;subst e;let(t,rfl):=r1;let fin:∀ty,["enumerate","zip","dict_itemiterator","dict_reverseitemiterator","odict_iterator","itertools.zip_longest","itertools.pairwise"].contains ty=false->(∀A':ak,A'.handled=none->Walks X.prog X.w A' s1.heap.objs.size [s1.heap.objs.size] [s1.heap.objs.size] z.cps.size (SignAt z) (λi h=>h.IsStrIter s1.heap.objs.size ty z t i))->(∀(A:ak)(i:Nat)(s:ah)(Q:Value->ah->Prop)(E:Value->ah->Prop),s.heap.IsStrIter s1.heap.objs.size ty z t i->Q (.ref s1.heap.objs.size) s->wpAny (model X.prog X.w) A (pyIter (.ref s1.heap.objs.size)) Q E s)->FE X ay O tg R (.ref s1.heap.objs.size) {s1 with heap:=s1.heap.push {cls:=.type ty,data:=.fields (List.toArray [.str z t,.int 0 0])}}:=λty h1 h2 h3=>by
  erw[s1.heap.objs.size,[s1.heap.objs.size],_,_,H1,Z,I1.kept (t':=s1.toks) λb o e=>cD _ e,Z0 _ z t ty h1 h2 h3,#[#[_,fj _ Z,Z,Z],fX _],λb hb=>?_,q];let e:b=s1.heap.objs.size:=by simpa using hb
  subst e;erw[I1.sW (aY _) (I1.bp.fresh (aY _))]
 cases ha:z.cps.all (·<128)
 ·erw[wpAny_pyIter_wide ha (fin "str_iterator" aA (λA' hA=>Walks.strWide hA _ z t) (λ_ _ _ _ _ st h=>wpAny_pyIter_striter_wide st h))]
 ·erw[wpAny_pyIter_ascii ha (fin "str_ascii_iterator" aA (λA' hA=>Walks.strAscii hA _ z t) (λ_ _ _ _ _ st h=>wpAny_pyIter_striter_ascii st h))]
theorem ac3{D:Addr}(rest:St)(nw:Nw H H0 D (.lst []))(hz:z.length<=1000) (hs:∀(c:Nat)(H2:Hp)(Q':VK),c∈z.cps.toList->aH H H2->(∀H3,aH H2 H3->Q' (.bl (f c)) H3)->te (some (.str ⟨#[c]⟩)::rest) H2 Q') (hq:∀H',aH H H'->H' D=some (.lst ((z.cps.toList.map f).map V.bl))->Q (.ref D) H'):mh (Lh z) (ie 0) kL te Q D (none::rest) H0:=by
 let hl:z.cps.toList.length=z.cps.size:=by simp
 erw[Wv (xs:=z.cps.toList.map λc=>V.str ⟨#[c]⟩) (bs:=z.cps.toList.map f) rest nw (by simp) (by simpa[Str.length]using hz) ?_ ?_ ?_ hq]
 ·intro i x H2 ex s2
  rw[bV]at ex;cases ec:z.cps.toList[i]? with |none=>rw[ec]at ex;cases ex |some c=>rw[ec]at ex;cases ex;erw[by have:=(cm.mp ec).1;show i<z.cps.size;omega,λy H3 #[e3,c',sZ,e]=>#[e3,?_]];rw[ec]at sZ;cases sZ;erw[e]
 ·intro H2 s2
  show z.cps.size<=(z.cps.toList.map _).length;rw[bB,hl];erw[aY _]
 ·intro i x b H2 Q' ex eb s2 ji
  rw[bV]at ex eb;cases ec:z.cps.toList[i]? with |none=>rw[ec]at ex;cases ex |some c=>rw[ec]at ex eb;cases ex;cases eb;erw[hs c H2 Q' (gZ ec) s2 ji]
theorem a42:dN X (compareOp .In) (λx y H Q=>∃c j,x= .str ⟨#[c]⟩/\y= .str j/\Q (.bl (decide (c∈j.cps.toList))) H):=by intro ay s O H x y v u Q I rx ry h;let(c,j,rfl,rfl,q):=h;erw[a41 ay s O H _ _ v u Q I rx ry #[_,_,Z,Z,?_]];rw[PySem.StrLaws.found_one];erw[q]
inductive afk(K:ag)(x:V)(y:V)(H:Hp)(Q:VK):Prop |mk p xs d ds(_:y= .ref p)(_:aW K H p xs)(_:RD K H x d)(_:aI K H xs ds)(_:SeqAt.shaped d=true)(_:(∀e∈ds,SeqAt.shaped e=true))(_:Q (.bl (ds.any λe=>PyData.eqv e d)) H)
def a2W(K:ag):R2:=λx y H Q=>afk K x y H Q
theorem a7c(K:ag)(hK:X.K=K)(hu:X.A.units+65<cLine):dN X (compareOp .In) (a2W K):=by
 subst hK;intro ay s O H x y v u Q I rx ry h;let(p,xs,d,ds,rfl,hx,hd,uK,sd,sds,q):=h;cases ry;let(its,r,pl,hz):=I.tuple hx;let(k1,k2):=Vw I hu rx hd sd r uK sds;erw[SeqAt.in_tupleAt (wU s.heap d) (show s.heap.IsTuple p its.toArray from pl) (λw hw=>k1 w (by simpa using hw)) #[.bl _,H,I,Z,?_]];let e:its.toArray.any (wU s.heap d)=ds.any λe=>PyData.eqv e d:=by rw[<-k2];simp
 rw[e];erw[q]
end
structure MA(K:ag)(C:Addr)(m qual:Str)(st:Stmt):Prop where ex:∃f fd,Meth K C m f/\me K m qual st f fd
def gJ(P:ai)(w:World)(K:ag)(mg:bU)(aD:Heap)(C:Addr)(m:Str)(k:Nat)(sp:Sp):Prop:=∃f fd ps,iq P w K mg aD iM k f fd ps sp/\Meth K C m f/\Binds K fd ps []
structure CA(K:ag)(mg:bU)(C:Addr)(x qual:Str)(st:Stmt):Prop where
 mgC:mg x=some (.ref C)
 ex:∃f fd,Mk K C f/\me K "__init__" qual st f fd
def Lf(P:ai)(w:World)(K:ag)(mg:bU)(aD:Heap)(C:Addr)(x:Str)(k:Nat)(sp:Sp):Prop:=∃f fd ps,iq P w K mg aD iM k f fd ps sp/\Mk K C f/\Binds K fd ps []/\mg x=some (.ref C)
section
variable {P:ai}{w:World}{K:ag}{mg:bU}{aD:Heap}
theorem jh{C:Addr}{m qual:Str}{st:Stmt}{f:Addr}{oc:Value}{od an:Option Addr}{gc:Array (Option Value)}{kV doc pm aM ct:Value} (a:PySem.W.findIn K (.ref C) m=some (some (.ref f)))(i:PySem.W.isFn K (.ref f)=true) (l:K.lookup f=some #[oc,od,.func (PySem.W.fnOf m qual (m5 st) (gS st) (aX st) .none kV doc pm an aM ct),gc]) (c:PySem.W.codeIn K aM qual=true)(k:PySem.W.keepIn K (.ref f)=true):MA K C m qual st:=#[f,_,#[a,i,k],F2 l c k]
theorem acy{h:Heap}{C:Addr}{x qual:Str}{st:Stmt}{f:Addr}{oc:Value}{od an:Option Addr}{gc:Array (Option Value)}{kV doc pm aM ct:Value}(X:K.In h)(G:h.Ns mainGlobals mg) (aC:PySem.W.nsIn K mainGlobals x=some (some (.ref C)))(mk:PySem.W.makesIn K C=true)(kc:PySem.W.keepIn K (.ref C)=true) (a:PySem.W.findIn K (.ref C) "__init__"=some (some (.ref f)))(i:PySem.W.isFn K (.ref f)=true) (l:K.lookup f=some #[oc,od,.func (PySem.W.fnOf "__init__" qual (m5 st) (gS st) (aX st) .none kV doc pm an aM ct),gc]) (c:PySem.W.codeIn K aM qual=true)(k:PySem.W.keepIn K (.ref f)=true):CA K mg C x qual st:=#[xM X G aC,f,_,#[mk,a,i,kc],F2 l c k]
theorem MA.has{C:Addr}{m qual:Str}{st:Stmt}{N ps:List Str}{k:Nat}{sp:Sp}(F:MA K C m qual st)(S:bu N ps (aX st))(len:∀vs H Q E,sp vs H Q E->vs.length=ps.length) (hb:∀(kV doc pm:Value)(an:Option Addr)(aM ct:Value)(us:List Value),us.length=ps.length->bindArgs (PySem.W.fnOf m qual (m5 st) (gS st) (aX st) .none kV doc pm an aM ct) #[us,[]]=pure (ps.zip us)) (jk:∀(f:Addr)(aM:Value)(A:ak)(outer:List Env)(s:ah)(H:Hp)(vs:List V)(Q:VK)(E:XK),df k (A.deeper (envOfC qual (aX st) s.heap.objs.size f aM))->sp vs H Q E->∃t,ip (jn iM P w K mg aD N qual (aX st) f aM A outer s H E).sf (gS st) t/\t {nx:=λ_ H'=>Q .bM H',rt:=Q} (start N vs) H):gJ P w K mg aD C m (k+1) sp:=by let(f,fd,hm,F):=F.ex;erw[f,fd,ps,F.ok S len λaM A outer s H vs Q E=>jk f aM A outer s H vs Q E,hm,F.binds hb]
theorem CA.has{C:Addr}{x qual:Str}{st:Stmt}{N ps:List Str}{k:Nat}{sp:Sp}(F:CA K mg C x qual st)(S:bu N ps (aX st))(len:∀vs H Q E,sp vs H Q E->vs.length=ps.length) (hb:∀(kV doc pm:Value)(an:Option Addr)(aM ct:Value)(us:List Value),us.length=ps.length->bindArgs (PySem.W.fnOf "__init__" qual (m5 st) (gS st) (aX st) .none kV doc pm an aM ct) #[us,[]]=pure (ps.zip us)) (jk:∀(f:Addr)(aM:Value)(A:ak)(outer:List Env)(s:ah)(H:Hp)(vs:List V)(Q:VK)(E:XK),df k (A.deeper (envOfC qual (aX st) s.heap.objs.size f aM))->sp vs H Q E->∃t,ip (jn iM P w K mg aD N qual (aX st) f aM A outer s H E).sf (gS st) t/\t {nx:=λ_ H'=>Q .bM H',rt:=Q} (start N vs) H):Lf P w K mg aD C x (k+1) sp:=by let(f,fd,hm,F'):=F.ex;erw[f,fd,ps,F'.ok S len λaM A outer s H vs Q E=>jk f aM A outer s H vs Q E,hm,F'.binds hb,F.mgC]
end
section
variable {X:Cx}{k:Nat}{x m:Str}{C:Addr}{p pos apos:Pos}{o e:Expr}{es:List Expr}{t:TA}{ta:TE}{sp:Sp}
inductive XA(C:Addr)(m:Str)(sp:Sp)(t:TA)(O:St)(Q:VK)(x:V)(H1:Hp):Prop |mk a dx fs(_:x= .ref a)(_:H1 a=some (.ins C dx fs))(_:fs.lookup m=none)(_:t O H1 λvs H2=>sp (x::vs) H2 Q E0)
def Mx(C:Addr)(m:Str)(sp:Sp)(ta:TE)(t:TA):TE:=λO H Q=>ta O H λx H1=>XA C m sp t O Q x H1
theorem To{O:St}{Q:VK}{x:V}{H1:Hp}:FJ C m sp [] E0 t O Q x H1=XA C m sp t O Q x H1:=by
 let e1:(λ(vs:List V) H1=>sp (x::(vs++[])) H1 Q E0)=λvs H1=>sp (x::vs) H1 Q E0:=by funext vs H1;rw[lJ]
 erw[propext #[λ#[a,dx,fs,h0,h1,h2,h3]=>#[a,dx,fs,h0,h1,h2,?_],λ#[a,dx,fs,h0,h1,h2,h3]=>#[a,dx,fs,h0,h1,h2,?_]]]
 ·rw[<-e1];erw[h3]
 ·rw[e1];erw[h3]
theorem rQ(F:gJ X.prog X.w X.K X.mg X.aD C m k sp)(c:mi X.K C)(hr:df k X.A)(he:PE X o ta)(ha:PA X (e::es) t) (gG:autoParam (starEach (e::es) X.env=(false,eval e X.env)::starEach es X.env) r8_._auto_1)(gy:autoParam ((backTo pos (starEach es X.env)).any (·.1)=false) r8_._auto_1) (ht:eval (.Call (.Attribute o m apos) (e::es) [] pos) X.env=(do
 let ov<-eval o X.env
 standAt apos.atName
 let(f,first)<-holding [ov] (getMethod ov m pl)
 callWith pos f first (backTo pos (starEach (e::es) X.env)) (backToKw pos (keywordEach [] X.env))):=by rfl): PE X (.Call (.Attribute o m apos) (e::es) [] pos) (Mx C m sp ta t):=by
 let(f,fd,ps,F,hm,hb):=F;let h:=a3z (pos:=pos) (apos:=apos) (pl:=pl) he c hm F hr hb .nil Eb ha gG gy ht;intro ay s O H Q I hq;erw[h ay s O H Q I ?_];show ta O H λx H1=>FJ C m sp [] E0 t O Q x H1;simp only[To];erw[hq]
theorem lR(F:gJ X.prog X.w X.K X.mg X.aD C m k sp)(c:mi X.K C)(hr:df k X.A)(he:PE X o ta) (ht:eval (.Call (.Attribute o m apos) [] [] pos) X.env=(do
 let ov<-eval o X.env
 standAt apos.atName
 let(f,first)<-holding [ov] (getMethod ov m pl)
 callWith pos f first (backTo pos (starEach [] X.env)) (backToKw pos (keywordEach [] X.env))):=by rfl): PE X (.Call (.Attribute o m apos) [] [] pos) (Mx C m sp ta xW):=by
 let(f,fd,ps,F,hm,hb):=F;let h:=a3y (pos:=pos) (apos:=apos) (pl:=pl) he c hm F hr hb .nil Eb ht;intro ay s O H Q I hq;erw[h ay s O H Q I ?_];show ta O H λx H1=>FJ C m sp [] E0 xW O Q x H1;simp only[To];erw[hq]
def Zy(C:Addr)(sp:Sp)(t:TA):TE:=λO H Q=>t O H λvs H1=>∀x dx,H1 x=none->H1 dx=none->dx≠x->sp (.ref x::vs) (upd (upd H1 dx (.own x)) x (.ins C dx [])) (λv H2=>v= .bM/\Q (.ref x) H2) E0
theorem a3x(F:Lf X.prog X.w X.K X.mg X.aD C x k sp)(hr:df (k+1) X.A)(hg:Gl X x)(ha:PA X (e::es) t)(jj:autoParam ((x==("__debug__":Str))=false) q8_._auto_1) (he:autoParam (starEach (e::es) X.env=(false,eval e X.env)::starEach es X.env) r8_._auto_1)(gy:autoParam ((backTo pos (starEach es X.env)).any (·.1)=false) r8_._auto_1): PE X (.Call (.Name x p) (e::es) [] pos) (Zy C sp t):=by
 let(f,fd,ps,F,M,hb,hm):=F;let h:=a3A (pos:=pos) (p:=p) M F hr hg hm hb .nil Eb ha jj he gy;intro ay s O H Q I hq;erw[h ay s O H Q I ?_];let e1:(λ(vs:List V) H1=>∀x dx,H1 x=none->H1 dx=none->dx≠x->sp (.ref x::(vs++[])) (upd (upd H1 dx (.own x)) x (.ins C dx [])) (λv H2=>v= .bM/\Q (.ref x) H2) E0) =λvs H1=>∀x dx,H1 x=none->H1 dx=none->dx≠x->sp (.ref x::vs) (upd (upd H1 dx (.own x)) x (.ins C dx [])) (λv H2=>v= .bM/\Q (.ref x) H2) E0:=by funext vs H1;rw[lJ]
 show t O H λvs H1=>∀x dx,H1 x=none->H1 dx=none->dx≠x->sp (.ref x::(vs++[])) (upd (upd H1 dx (.own x)) x (.ins C dx [])) (λv H2=>v= .bM/\Q (.ref x) H2) E0;rw[e1];erw[hq]
inductive IAt(C:Addr)(x:Str)(Q:VK)(v:V)(H1:Hp):Prop |mk (a dx:Addr)(fs:List (Str×V))(u:V)(_:v= .ref a)(_:H1 a=some (.ins C dx fs))(_:fs.lookup x=some u)(_:Q u H1)
theorem dE(T:mi X.K C)(hn:ka X.K C x)(he:PE X e ta)(hb:autoParam (attributeBase e x X.env (eval e X.env)=eval e X.env) r8_._auto_1): PE X (.Attribute e x pos) (λO H Q=>ta O H λv H1=>IAt C x Q v H1):=by intro ay s O H Q I h;erw[X8 hb (bc (he ay s O H _ I h) λu s1 #[v,H1,I1,rx,a,dx,fs,w,ex,ea,l,q]=>?_)];subst ex;obtain rfl:u=Value.ref a:=rx;erw[V6 I1 ea T hn l λu' s2 I2 ru=>#[w,H1,I2,ru,q]]
inductive afG(C:Addr)(x:Str)(D:Ends)(O:St)(y v:V)(H2:Hp):Prop |mk (a dx:Addr)(fs:List (Str×V))(_:v= .ref a)(_:H2 a=some (.ins C dx fs))(_:fs.length<1000)(_:D.nx O (upd H2 a (.ins C dx (iP x y fs))))
inductive afH(C a:Addr)(x:Str)(D:Ends)(O:St)(z:V)(H3:Hp):Prop |mk (p5:Addr)(kT:List (Str×V))(_:H3 a=some (.ins C p5 kT))(_:kT.length<1000)(_:D.nx O (upd H3 a (.ins C p5 (iP x z kT))))
inductive afI(C:Addr)(x:Str)(tv:TE)(rd:V->V->Hp->VK->Prop)(D:Ends)(O:St)(v:V)(H1:Hp):Prop |mk (a dx:Addr)(fs:List (Str×V))(u:V)(_:v= .ref a)(_:H1 a=some (.ins C dx fs))(_:fs.lookup x=some u)(_:tv O H1 λy H2=>rd u y H2 λz H3=>afH C a x D O z H3)
theorem jf(T:mi X.K C)(hn:ka X.K C x)(ha:PE X o ta)(hv:PE X value tv)(hs:autoParam (swapsWith value (some (.Attribute o x pos')) pos.line X.env=pure false) r8_._auto_1): PS X (.Assign [.Attribute o x pos'] value pos) (λD O H=>tv O H λy H1=>ta O H1 λv H2=>afG C x D O y v H2):=by intro ay s O H D I h;erw[XS (bc (hv ay s O H _ I h) λu s1 #[y,H1,I1,ry,q]=>bc (ha ay s1 O H1 _ I1 q) λov s2 #[v,H2,I2,rx,a,dx,fs,ex,ea,l,q2]=>?_) hs];subst ex;obtain rfl:ov=Value.ref a:=rx;erw[Nq I2 ea T hn l ry λs3 I3=>#[O,_,I3,q2]]
theorem a3d{rd:V->V->Hp->VK->Prop}(T:mi X.K C)(hn:ka X.K C x)(ha:PE X o ta)(hv:PE X value tv)(hop:afs X op rd): PS X (.AugAssign (.Attribute o x tT) op value pos) (λD O H=>ta O H λv H1=>afI C x tv rd D O v H1):=by intro ay s O H D I h;erw[wpAny_AugAssign_AttributeAny (bc (ha ay s O H _ I h) λov s1 #[v,H1,I1,rx,a,dx,fs,u,ex,ea,l,q]=>?_)];subst ex;obtain rfl:ov=Value.ref a:=rx;erw[V6 I1 ea T hn l λu s2 I2 ru=>bc (hv ay s2 O H1 _ I2 q) λw3 s3 #[y,H2,I3,ry,q3]=>bc (hop ay s3 O H2 _ y u w3 _ I3 ru ry q3) λw4 s4 #[z,H3,I4,rz,p5,kT,mX,l',q4]=>?_];erw[Nq I4 mX T hn l' rz λs5 I5=>#[O,_,I5,q4]]
end
def dJ(S:List Addr)(H H':Hp):Prop:=∀b o,H b=some o->b∉S->H' b=some o
theorem dJ.refl(S:List Addr)(H:Hp):dJ S H H:=λ_ _ e _=>e
theorem dJ.of(s:aH H H'):dJ S H H':=λb o e _=>s b o e
theorem dJ.trans(a:dJ S H H1)(b:dJ S H1 H2):dJ S H H2:=λc o e n=>b c o (a c o e n) n
theorem dJ.mono(h:∀x,x∈S->x∈S')(a:dJ S H H1):dJ S' H H1:=λc o e n=>a c o e λz=>n (h c z)
theorem Fp(h:a∈S):dJ S H (upd H a o):=λb o' e n=>by let hb:b≠a:=λz=>n (by rw[z];erw[h]);rw[aU hb];erw[e]
def Ll:HO->Prop | .lst _=>True | .ins _ _ _=>True | .dK _=>True | .rA _=>True |_=>False
def cZ(H H':Hp):Prop:=∀b o,¬Ll o->H b=some o->H' b=some o
section
variable {K:ag} {H H' H2:Hp}
theorem cZ.refl:cZ H H:=λ_ _ _ e=>e
theorem cZ.trans(a:cZ H H')(b:cZ H' H2):cZ H H2:=λc o n e=>b c o n (a c o n e)
theorem eZ.v(s:eZ H H'):cZ H H':=λb o n e=>s b o (λxs z=>n (by rw[z];trivial)) e
theorem aH.v(s:aH H H'):cZ H H':=λb o _ e=>s b o e
theorem dJ.v(s:dJ S H H')(h:∀x∈S,∀o,H x=some o->Ll o):cZ H H':=λb o n e=>s b o e λz=>n (h b z o e)
theorem cZ.upd(h:H a=some o)(m:Ll o):cZ H (upd H a o'):=λb p n e=>by
 let hb:b≠a:=λz=>by rw[z,h]at e;cases e;erw[n m]
 rw[aU hb];erw[e]
theorem aW.v(s:cZ H H')(h:aW K H a xs):aW K H' a xs:=h.imp (λr=>r.imp (s _ _ (λz=>z)) λ#[o,e]=>#[o,s _ _ (λz=>z) e]) id
mutual
theorem RD.v(s:cZ H H'):∀{x:V}(d:aj),dG d=true->RD K H x d->RD K H' x d |x,.none,_,h=>by simpa[RD]using h |x,.bool b,_,h=>by simpa[RD]using h |x,.int i,_,h=>by simpa[RD]using h |x,.str y,_,h=>by simpa[RD]using h |x,.list ds,n,h=>by simp[dG]at n |x,.tuple ds,n,h=>by rw[RD]at h⊢;let(a,xs,e,h1,h2):=h;erw[a,xs,e,h1.v s,aI.v s ds (by simpa[dG]using n) h2] |x,.dict _,_,h=>by simp[RD]at h
theorem aI.v (s:cZ H H'):∀{xs:List V}(ds:List aj),bS ds=true->aI K H xs ds->aI K H' xs ds |xs,[],_,h=>by simpa[aI]using h |xs,d::ds,n,h=>by rw[aI]at h⊢;rw[bS,fY]at n;let(y,ys,e,h1,h2):=h;erw[y,ys,e,RD.v s d n.1 h1,aI.v s ds n.2 h2]
end
end
abbrev kF(elt tg iter fO fH:Expr)(scope:Scope)(pos:Pos):Expr:=.ListComp elt [#[tg,iter,[],0],#[fO,fH,[],0]] scope pos
theorem ac7(elt tg iter fO fH:Expr)(scope:Scope)(pos:Pos)(it acc:Value)(env:Env): compTurn (kF elt tg iter fO fH scope pos) 0 it acc env=(do standAt iter.pos match<-pyNext it with
 |none=>pure (.done .next) |some v=>
  letOwnedTupleGo tg it v
  assign tg env v
  let mut ok:=true
  for c in([]:List Expr) do if ok then ok<-isTrue c env (eval c env)
  if ok then
   let x<-eval fH env
   standAt fH.pos
   let x<-foldedSetIterable fH env x
   let _<-runOwn (.compStart (kF elt tg iter fO fH scope pos) 1 (<-holding [x] (pyIter x)) acc env) env
  again (.compLoop (kF elt tg iter fO fH scope pos) 0 it acc env)):=by rfl
theorem ac6(elt tg iter fO fH:Expr)(scope:Scope)(pos:Pos)(it acc:Value)(env:Env): compTurn (kF elt tg iter fO fH scope pos) 1 it acc env=(do standAt fH.pos match<-pyNext it with
 |none=>pure (.done .next) |some v=>
  letOwnedTupleGo fO it v
  assign fO env v
  (do let _<-call (.builtin "list.append") [acc,<-eval elt env])
  again (.compLoop (kF elt tg iter fO fH scope pos) 1 it acc env)):=by rfl
section
variable {prog:ai}{w:World}{A:ak}{R:Result->ah->Prop}{s:ah}{elt tg iter fO fH:Expr}{scope:Scope}{pos:Pos}{it acc:Value}{env:Env}
theorem ac9(I:Nat->ah->Prop) (turn:∀n s,I n s->wpAny (model prog w) A (pyNext it) (λr s₁=>match r with |none=>R (.ok .next) s₁ |some v=>wpAny (model prog w) A (letOwnedTupleGo fO it v) (λ_ s₁=>wpAny (model prog w) A (assign fO env v) (λ_ s₂=>wpAny (model prog w) A (eval elt env) (λx s₄=>wpAny (model prog w) A (call (.builtin "list.append") [acc,x]) (λ_ s₅=>∃m,m<n/\I m s₅) (λ_ _=>False) s₄) (λ_ _=>False) s₂) (λ_ _=>False) s₁) (λ_ _=>False) s₁) (λ_ _=>False) s) (n:Nat)(h:I n s):codeAny (model prog w) A (.compLoop (kF elt tg iter fO fH scope pos) 1 it acc env) R s:=by erw[codeAny_loop Z I (λn s hI=>?_) n h];show wpAny _ A ((compTurn (kF elt tg iter fO fH scope pos) 1 it acc env).onRaise (λx=>do noteFrame x env;theTreesLotGoes x)) _ _ s;erw[wpAny_noted ?_];rw[ac6];erw[aJ (pC (aJ (fM (turn n s hI) (λr s₁ h₁=>?_) λ_ _ h'=>h'.elim)))];cases r with |none=>erw[bN h₁] |some v=>erw[aJ (fM h₁ (λ_ MI h₁=>?_) λ_ _ h'=>h'.elim)];erw[aJ (fM h₁ (λ_ s₂ h₂=>?_) λ_ _ h'=>h'.elim)];erw[aJ (aJ (fM h₂ (λx s₄ h₄=>aJ (fM h₄ (λ_ s₅ h₅=>bN (bN #[Z,h₅])) λ_ _ h'=>h'.elim)) λ_ _ h'=>h'.elim))]
theorem ac8(h0:codeAny (model prog w) A (.compLoop (kF elt tg iter fO fH scope pos) 1 it acc env) R s) (h:wpAny (model prog w) A (pyIter it) (λUm s'=>codeAny (model prog w) A (.compLoop (kF elt tg iter fO fH scope pos) 1 Um acc env) R s') (notedBy (model prog w) A env λx s'=>R (.error x) s') s): codeAny (model prog w) A (.compStart (kF elt tg iter fO fH scope pos) 1 it acc env) R s:=by
 erw[codeAny_of_tree ?_];show wpAny _ _ ((compStart (kF elt tg iter fO fH scope pos) 1 it acc env).onRaise (λx=>do noteFrame x env;standAt theWindowsPlace)) _ _ s;erw[wpAny_notedAt ?_];unfold compStart;show wpAny _ _ (ask>>=_) _ _ s;erw[aJ (wpAny_askSetting (wpAny_ite ?_))];split
 ·first |erw[aJ (bN (bN (And.intro Z h0)))] |erw[bN (And.intro Z h0)]
 ·first |erw[aJ (CK (aJ (pC (aJ (fM h (λUm s' h'=>bN #[Z,h']) λ_ _ h'=>h')))))]
theorem aca(I:Nat->ah->Prop)(iT:∀x,foldedSetIterable fH env x=pure x) (turn:∀n s,I n s->wpAny (model prog w) A (pyNext it) (λr s₁=>match r with |none=>R (.ok .next) s₁ |some v=>wpAny (model prog w) A (letOwnedTupleGo tg it v) (λ_ s₁=>wpAny (model prog w) A (assign tg env v) (λ_ s₂=>wpAny (model prog w) A (eval fH env) (λx s₃=>wpAny (model prog w) A (pyIter x) (λEH s₄=>codeAny (model prog w) A (.compStart (kF elt tg iter fO fH scope pos) 1 EH acc env) (λr s₅=>match r with| .ok _=>∃m,m<n/\I m s₅| .error _=>False) s₄) (λ_ _=>False) s₃) (λ_ _=>False) s₂) (λ_ _=>False) s₁) (λ_ _=>False) s₁) (λ_ _=>False) s) (n:Nat)(h:I n s):codeAny (model prog w) A (.compLoop (kF elt tg iter fO fH scope pos) 0 it acc env) R s:=by erw[codeAny_loop Z I (λn s hI=>?_) n h];show wpAny _ A ((compTurn (kF elt tg iter fO fH scope pos) 0 it acc env).onRaise (λx=>do noteFrame x env;theTreesLotGoes x)) _ _ s;erw[wpAny_noted ?_];rw[ac7];erw[aJ (pC (aJ (fM (turn n s hI) (λr s₁ h₁=>?_) λ_ _ h'=>h'.elim)))];cases r with |none=>erw[bN h₁] |some v=>erw[aJ (fM h₁ (λ_ MI h₁=>?_) λ_ _ h'=>h'.elim)];erw[aJ (fM h₁ (λ_ s₂ h₂=>?_) λ_ _ h'=>h'.elim)];erw[aJ (wpAny_tests_nil ?_)];simp only[vd];erw[aJ (fM h₂ (λx s₃ h₃=>?_) λ_ _ h'=>h'.elim)];erw[aJ (pC (aJ (zE (iT x) (aJ (jI (fM h₃ (λEH s₄ h₄=>?_) λ_ _ h'=>h'.elim))))))];erw[aJ (wpAny_runOwn (xK h₄ λr s₅ h₅=>?_))];cases r with |error e=>erw[h₅.elim] |ok f=>erw[bN #[Z,h₅]]
end
def afr(J:It)(g:TG)(te:TE)(D:Addr)(R:St->Hp->Prop)(O:St)(H:Hp):Prop:=∃W:Nat->Nat->St->Hp->Prop,(∃m,W 0 m O H)/\∀i m σ' H',W i m σ' H'->(J.stop i H'/\R σ' H')\/(J.go i H'/\∀x H2,J.jO i H' x H2->g x σ' H2 λσ3 H3=>te σ3 H3 λy H5=>∃ys,H5 D=some (.lst ys)/\ys.length<sizeLine/\∃m',m'<m/\W (i+1) m' σ3 (upd H5 D (.lst (ys++[y]))))
def XJ(J:It)(g:TG)(rj:TI)(g2:TG)(te:TE)(Q:VK)(D:Addr)(O:St)(H:Hp):Prop:=∃W:Nat->Nat->St->Hp->Prop,(∃m,W 0 m O H)/\∀i m σ' H',W i m σ' H'->(J.stop i H'/\Q (.ref D) H')\/(J.go i H'/\∀x H2,J.jO i H' x H2->g x σ' H2 λσ3 H3=>rj σ3 H3 λJ2 H4=>afr J2 g2 te D (λσ5 H5=>∃m',m'<m/\W (i+1) m' σ5 H5) σ3 H4)
def ZL(js:List (Option Nat))(wi:TI)(g:TG)(rj:TI)(g2:TG)(te:TE):TE:=λO H Q=>wi O H λJ H1=>∀D H2,Nw H1 H2 D (.lst [])->XJ J g rj g2 te Q D (stC js O) H2
set_option maxHeartbeats 1000000 in
theorem a3E{X:Cx}{N:List Str}{js:List (Option Nat)}{elt tg iter fO fH:Expr}{scope:Scope}{pos:Pos}{wi:TI}{g:TG}{rj:TI}{g2:TG}{te:TE}(hc:X.calm=true)(hN:Ck X N js scope=true)(hS:uQ X scope=true) (hi:PI X tg iter wi)(hg:∀cl s H fp ay,PG (dv X N scope cl s H fp ay) tg g)(sL:∀cl s H fp ay,PI (dv X N scope cl s H fp ay) fO fH rj)(hg2:∀cl s H fp ay,PG (dv X N scope cl s H fp ay) fO g2)(he:∀cl s H fp ay,PE (dv X N scope cl s H fp ay) elt te) (hs:autoParam (∀x,foldedSetIterable iter X.env x=pure x) d8_._auto_1)(iT:∀env x,foldedSetIterable fH env x=pure x:=by intro _ _;rfl):PE X (.ListComp elt [#[tg,iter,[],0],#[fO,fH,[],0]] scope pos) (ZL js wi g rj g2 te):=by
 intro ay s O H Q I h;let oS:=hS;unfold uQ at oS;rw[fY,fY]at oS;let((k1,k2),k3):=oS;let lV:scope.kind= .function:=fC.mp k1;let uJ:∀x∈scope.names,x.2= .free->∃c,X.env.cells.lookup x.1=some c:=λx hx e=>by have:=iX.mp k3 x hx;rw[e]at this;erw[I.ok.has x.1 (.inl (fC.mp this))]
 let qm:∀x∈scope.names,x.2≠ .cell:=λx hx e=>by have:=iX.mp k3 x hx;rw[e]at this;erw[jt this]
 let Bu:∀x∈scope.names,x.2= .local->scope.names.lookup x.1=some .local:=λx hx e=>by have:=iX.mp k3 x hx;rw[e]at this;erw[fC.mp this]
 let(cl,BE,c1,c2):=Ku uJ;rw[eval_ListComp];erw[XR (use:=none) Z hs BE lV Bu (bc (hi ay s O H _ I h) λv s1 h1=>bc h1 λBl s2 h2=>?_)];let(it,fp,tn,J,H2,e,I2,T,pH,f2,h2):=h2;subst e;let hD:H2 s2.heap.objs.size=none:=I2.bp.fresh (aY _);let(W,(m0,w0),turn):=h2 _ _ (Nw.of hD);erw[qR (XQ qm (by intro y hy;simp at hy) (λh₁ uE uC=>?_) lV)];let oX:∀b∈fp,b<s2.heap.objs.size:=λb hb=>by let(o,e,_):=T.obj _ _ pH b hb;erw[cC e]
 let I3:Inv X ay O (upd H2 s2.heap.objs.size (.lst [])) {s2 with heap:=s2.heap.push {cls:=.type "list",dict:=none,data:=.seq ([]:List Value).toArray}}:=I2.EB (its:=[]) (t':=s2.toks) .nil (fX _);generalize uL:s2.heap.push {cls:=.type "list",dict:=none,data:=.seq ([]:List Value).toArray}=h3 at I3 uE uC;let tW:h3.objs.size=s2.heap.objs.size+1:=by rw[<-uL,qX]
 let Bj:∀b o,s2.heap.get? b=some o->h3.get? b=some o:=λb o e=>by rw[<-uL];erw[cD _ e]
 let f3:∀b∈fp,kI X ay (upd H2 s2.heap.objs.size (.lst [])) b:=λb hb=>#[by rw[aU (eR (oX b hb))];exact(f2 b hb).1,(f2 b hb).2];let uB:∀b o,h3.get? b=some o->h₁.get? b=some o:=λb o e=>(uC.2 b (eR (cC e))).trans (cD _ e);let I4:Inv (dv X N scope cl {s2 with heap:=h3} (upd H2 s2.heap.objs.size (.lst [])) fp ay) [] (stC js O) (upd H2 s2.heap.objs.size (.lst [])) {s2 with heap:=h₁,toks:=s2.toks+([]:List (Str×Value)).length}:=I3.comp (s:={s2 with heap:=h3}) hN hS c1 c2 f3 (λb hb=>by show b<h3.objs.size;rw[tW];erw[CW (oX b hb)]) (by simpa using uE) uB;let tX:tn 0 h₁:=T.keep _ _ _ pH λb _ o e=>uB b o (Bj b o e);let loop:codeAny (model X.prog X.w) X.A (.compLoop (kF elt tg iter fO fH scope pos) 0 (.ref it) (.ref s2.heap.objs.size) (compEnvC scope cl h3.objs.size X.env)) (compPost (model X.prog X.w) X.A X.xe none (EP X ay O Q) (.ref s2.heap.objs.size) h3.objs.size) {s2 with heap:=h₁,toks:=s2.toks+([]:List (Str×Value)).length}:=by
  erw[aca (λn s'=>∃i σ' H',Inv (dv X N scope cl {s2 with heap:=h3} (upd H2 s2.heap.objs.size (.lst [])) fp ay) [] σ' H' s'/\tn i s'.heap/\(∀b∈fp,H' b=none)/\W i n σ' H') (iT _) ?_ m0 #[0,_,_,I4,tX,λb hb=>(f3 b hb).1,w0]];rintro n s5 ⟨i,σ5,H5,I5,nA,qy,w5⟩;let kM:∀{H':Hp},(∀b∈fp,H' b=none)->∀b∈fp,kI (dv X N scope cl {s2 with heap:=h3} (upd H2 s2.heap.objs.size (.lst [])) fp ay) [] H' b:=λ{H'} hn b hb=>by
   let(_,q1,q2,q3,q4,q5):=f3 b hb;erw[hn b hb,λz=>?_,I4.ok.qA b hb,.inl hb,λx c e=>q4 x c (c1 x c e),λp hp=>q5 p (by simpa[dv]using hp)];let bK:b<h3.objs.size:=by rw[tW];erw[CW (oX b hb)]
   erw[eR bK z]
  rcases turn i n σ5 H5 w5 with⟨stop,qn⟩|⟨go,step⟩
  ·erw[bc (T.done (dv X N scope cl {s2 with heap:=h3} (upd H2 s2.heap.objs.size (.lst [])) fp ay) rfl rfl rfl hc i [] s5 σ5 H5 _ I5 (kM qy) nA stop) λr s6 #[hr,I6]=>?_]
   subst hr;let(m,hm,_):=I6.loc;erw[m,hm,λh7 sE=>?_];let u0:Un (fV X.stack) fp (upd H2 s2.heap.objs.size (.lst [])) H5 h3 s6.heap:=I6.aD;let ne:∀b o,h3.get? b=some o->b≠h3.objs.size:=λb o e=>eR (cC e);let u:Un (fV X.stack) fp (upd H2 s2.heap.objs.size (.lst [])) H5 h3 h7:=#[λb o e n hb hx=>(sE.2 b (ne b o e)).trans (u0.keep b o e n hb hx),λb o e n hb hx=>let#[sl,q]:=u0.slot b o e n hb hx;#[sl,(sE.2 b (ne b o e)).trans q],u0.free,λb o e hx=>let#[o',q]:=u0.there b o e hx;#[o',(sE.2 b (ne b o e)).trans q],u0.lM,u0.kU,u0.lO];let I7:Inv X ay O H5 {s6 with heap:=h7}:=I3.Cp (s':={s6 with heap:=h7}) (ch:=fp) I6.os u (I6.bp.but I6.free sE) I6.bare λb hb=>#[(f3 b hb).2.2.2.1,(f3 b hb).2.1,(f3 b hb).2.2.2.2.1,(f3 b hb).2.2.2.2.2];erw[.ref s2.heap.objs.size,H5,I7,Z,qn]
  ·erw[bc (T.item (dv X N scope cl {s2 with heap:=h3} (upd H2 s2.heap.objs.size (.lst [])) fp ay) rfl rfl rfl hc i [] s5 σ5 H5 _ I5 (kM qy) nA go) λr s6 #[u,hr,h6]=>?_]
   subst hr;erw[bc h6 λ_ s7 #[x,H7,I7,r7,y7,mC,BM]=>?_];let CF:=I7.pinned (kM BM) (T.obj _ _ mC);erw[bc (hg _ _ _ _ _ _ s7 σ5 H7 x u _ CF r7 (step x H7 y7)) λ_ s8 #[σ8,H8,I8,q8]=>?_];let again:∀{s':ah}{σ7:St}{H7:Hp},Inv (dv X N scope cl {s2 with heap:=h3} (upd H2 s2.heap.objs.size (.lst [])) fp ay) ([]++rM fp s7.heap) σ7 H7 s'->(∃m',m'<n/\W (i+1) m' σ7 H7)->∃m,m<n/\∃i σ' H',Inv (dv X N scope cl {s2 with heap:=h3} (upd H2 s2.heap.objs.size (.lst [])) fp ay) [] σ' H' s'/\tn i s'.heap/\(∀b∈fp,H' b=none)/\W i m σ' H':=λ{s' σ7 H7} J7 n7=>by let(m',hm,w7):=n7;erw[m',hm,i+1,σ7,H7,J7.vv,T.keep _ _ _ mC λb hb o e=>(J7.pin (b,o) (ir _ (ir _ (pV hb e)))).1,λb hb=>?_,w7];let(o,e,d):=T.obj _ _ mC b hb;exact(J7.pin (b,o) (ir _ (ir _ (pV hb e)))).2.1
   erw[bc (sL _ _ _ _ _ _ s8 σ8 H8 _ I8 q8) λv9 s9 h9=>bc h9 λagG kP qq=>?_];let(EH,Jx,Z8,J2,gB,e2,vb,T2,MV,zb,V,(k0,v0),Z6):=qq;subst e2;let Gy:∀{H':Hp},(∀b∈Jx,H' b=none)->∀b∈Jx,kI (dv X N scope cl {s2 with heap:=h3} (upd H2 s2.heap.objs.size (.lst [])) fp ay) ([]++rM fp s7.heap) H' b:=λ{H'} hn b hb=>#[hn b hb,(zb b hb).2];let TL:codeAny (model X.prog X.w) X.A (.compLoop (kF elt tg iter fO fH scope pos) 1 (.ref EH) (.ref s2.heap.objs.size) (compEnvC scope cl h3.objs.size X.env)) (λr s₅=>match r with| .ok _=>∃m,m<n/\∃i σ' H',Inv (dv X N scope cl {s2 with heap:=h3} (upd H2 s2.heap.objs.size (.lst [])) fp ay) [] σ' H' s₅/\tn i s₅.heap/\(∀b∈fp,H' b=none)/\W i m σ' H'| .error _=>False) kP:=by
    erw[ac9 (λk s'=>∃i σ' H',Inv (dv X N scope cl {s2 with heap:=h3} (upd H2 s2.heap.objs.size (.lst [])) fp ay) ([]++rM fp s7.heap) σ' H' s'/\Z8 i s'.heap/\(∀b∈Jx,H' b=none)/\V i k σ' H') ?_ k0 #[0,_,_,vb,MV,λb hb=>(zb b hb).1,v0]];rintro k vG ⟨i2,Dh,jc,zy,MU,Vf,v11⟩;rcases Z6 i2 k Dh jc v11 with⟨a03,q2⟩|⟨go2,a04⟩
    ·erw[bc (T2.done (dv X N scope cl {s2 with heap:=h3} (upd H2 s2.heap.objs.size (.lst [])) fp ay) rfl rfl rfl hc i2 _ vG Dh jc _ zy (Gy Vf) MU a03) λr iD #[hr,I12]=>?_]
     subst hr;erw[again I12 q2]
    ·erw[bc (T2.item (dv X N scope cl {s2 with heap:=h3} (upd H2 s2.heap.objs.size (.lst [])) fp ay) rfl rfl rfl hc i2 _ vG Dh jc _ zy (Gy Vf) MU go2) λr iD #[u2,hr,wK]=>?_]
     subst hr;erw[bc wK λ_ eG #[x2,CH,I13,r13,Yw,Gz,a9u]=>?_];let afN:=I13.pinned (Gy a9u) (T2.obj _ _ Gz);erw[bc (hg2 _ _ _ _ _ _ eG Dh CH x2 u2 _ afN r13 (a04 x2 CH Yw)) λ_ fZ #[Dg,zC,I14,q14]=>?_];erw[bc (he _ _ _ _ _ _ fZ Dg zC _ I14 q14) λyv mE #[y,CG,I15,r15,ys,jU,hz,YE]=>?_];erw[bc (Et _ mE Dg CG (.ref s2.heap.objs.size) [y] (.ref s2.heap.objs.size) [yv] (λ_ zB=>∃m',m'<k/\V (i2+1) m' Dg zB) I15 Z (.cons r15 .nil) #[_,ys,y,Z,Z,jU,hz,YE]) λ_ jx #[v16,zB,Li,r16,q16]=>?_];let(m',hm,YD):=q16;erw[m',hm,i2+1,Dg,zB,Li.vv,T2.keep _ _ _ Gz λb hb o e=>(Li.pin (b,o) (ir _ (ir _ (pV hb e)))).1,λb hb=>?_,YD];let(o,e,d):=T2.obj _ _ Gz b hb;exact(Li.pin (b,o) (ir _ (ir _ (pV hb e)))).2.1
   erw[ac8 TL (T2.self _ 0 _ _ _ MV TL)]
 erw[XT loop (T.self _ 0 _ _ _ tX loop)]
section
variable {K:ag}
theorem a2d(n q:Nat):((List.range n).map λ_=>q).sum=n*q:=by induction n with |zero=>simp |succ n ih=>rw[LM,jr,List.sum_append,Nat.add_mul,Nat.one_mul,ih];simp
theorem ac4{a1 a2:Addr}{xs ys:List V}{b:Nat->Nat->Bool}{rj:TI}{te:TE}{Q:VK}{D:Addr}{H H0:Hp}(rest:St)(hx:aL K H a1 xs)(hy:aL K H a2 ys)(nw:Nw H H0 D (.lst []))(hz:xs.length*ys.length<=1000) (hw:∀x v H3 R,aH H H3->R (uZ K a2) H3->rj (some x::v::rest) H3 R) (hs:∀i j x y H2 Q',xs[i]? =some x->ys[j]? =some y->aH H H2->(∀H3,aH H2 H3->Q' (.bl (b i j)) H3)->te (some x::some y::rest) H2 Q') (hq:∀H',aH H H'->H' D=some (.lst ((((List.range xs.length).flatMap λi=>(List.range ys.length).map λj=>b i j)).map V.bl))->Q (.ref D) H'):XJ (uZ K a1) (ie 0) rj (ie 1) te Q D (none::none::rest) H0:=by
 let hD:=nw.no;let line:(1000:Nat)<sizeLine:=by decide
 erw[λi m O H2=>m=xs.length-i/\i<=xs.length/\aH H H2/\H2 D=some (.lst ((((List.range i).flatMap λi=>(List.range ys.length).map λj=>b i j)).map V.bl))/\∃v v',O=v::v'::rest,#[_,Z,fX _,nw.same,nw.at',none,none,Z],?_];rintro i m O H2 ⟨rfl,hi,s2,d2,v,v',rfl⟩;by_cases bK:i<xs.length
 ·erw[.inr #[#[xs,xs[i],hx.go s2,by simp[bK]],λx H3 yl=>?_]]
  let(e,yl):=yl;subst e;let ex:=yl xs (hx.go s2);erw[hw x v' _ _ s2 ?_];erw[λj k O H4=>k=ys.length-j/\j<=ys.length/\aH H H4/\H4 D=some (.lst ((((List.range i).flatMap λi=>(List.range ys.length).map λj=>b i j)++(List.range j).map (b i)).map V.bl))/\∃v',O=some x::v'::rest,#[_,Z,fX _,s2,by simpa using d2,v',Z],?_];rintro j k O H4 ⟨rfl,hj,s4,d4,v',rfl⟩;by_cases UH:j<ys.length
  ·erw[.inr #[#[ys,ys[j],hy.go s4,by simp[UH]],λy H5 yl=>?_]]
   let(e,yl):=yl;subst e;let ey:=yl ys (hy.go s4);erw[hs i j x y _ _ ex ey s4 λH6 s6=>?_];let d6:=s6 _ _ d4;erw[_,d6,?_,ys.length-(j+1),bZ,Z,bZ,λq o e=>?_,?_,_,Z]
   ·let hl:(((List.range i).flatMap λi=>(List.range ys.length).map λj=>b i j)).length=i*ys.length:=by rw[List.length_flatMap];simp only[bB,iu];erw[a2d _ _]
    let h1:i*ys.length+j<xs.length*ys.length:=by let h2:(i+1)*ys.length<=xs.length*ys.length:=Nat.mul_le_mul_right _ bK;rw[Nat.add_mul,Nat.one_mul]at h2;omega
    rw[bB,cy,hl,bB,iu];omega
   ·rw[aU (dH e hD)];erw[s6 _ _ (s4 _ _ e)]
   ·rw[bP,LM,jr,jr,jr,jr,D6];rfl
  ·let e:j=ys.length:=by omega
   subst e;erw[.inl #[#[ys,hy.go s4,aY _],xs.length-(i+1),bZ,Z,bZ,s4,?_,_,_,Z]];rw[LM,List.flatMap_append];simpa using d4
 ·let e:i=xs.length:=by omega
  subst e;erw[.inl #[#[xs,hx.go s2,aY _],hq H2 s2 d2]]
theorem ad1{n m:Nat}{b:Nat->Nat->Bool}:(((List.range n).flatMap λi=>(List.range m).map λj=>b i j)).any id=(List.range n).any λi=>(List.range m).any λj=>b i j:=by rw[List.any_flatMap];congr 1;funext i;rw[List.any_map];rfl
end
end _L
namespace _R
open _P _d _l
open _O (topR ownF leadF Itm OkIs)
theorem Ff(hb:b≠0)(h2:b.natAbs<2^n):(Rat.divInt a b).den<2^n:=by obtain⟨-,e⟩:=Ey (a:=a) hb;let l2:=_A.TK (p:=a) hb;omega
structure Dd(D:Nat)(q:Rat):Prop where
 nn:0<=q
 den:q.den<2^D
theorem Dd.mono{D:Nat}(h:Dd D q)(l:D<=E):Dd E q:=#[h.nn,gK h.den (tP aA l)]
theorem Dd.bd{D:Nat}(h:Dd D q)(hl:q<=2000):Bd (D+11) q:=by
 let h1:=Lv.mpr h.nn;let sR:¬((2000:Rat)<q):=tL.mpr hl;rw[G0]at sR;let e1:(2000:Rat).num=2000:=rfl;let e2:(2000:Rat).den=1:=rfl;rw[e1,e2]at sR;let h2:q.num<=2000*(q.den:Int):=by lia
 erw[?_,gK h.den (tP aA aw)];let h3:=h.den;let h4:q.num.natAbs<=2000*q.den:=by lia
 let h5:(2:Nat)^(D+11)=2^D*2048:=by rw[Nat.pow_add]
 rw[h5];let h6:2000*q.den<2000*2^D:=Nat.mul_lt_mul_of_pos_left h3 aA
 lia
theorem Dd.mn{D:Nat}(h1:Dd D a)(h2:Dd D b):Dd D (mn a b):=by rcases nN a b with e|e<;>rw[e]<;>assumption
theorem Dd.add{D:Nat}(h:Dd D q){z:Int}(hz:0<=z):Dd D (q+(z:Rat)):=by
 erw[uA h.nn (by have:=tN.mpr hz;erw[this]),?_];rw[add_div,zF,zH];let e:(q.den:Int)*((1:Nat):Int)=(q.den:Int):=by lia
 rw[e];let hd:=q.den_pos;erw[Ff aw (by have:=h.den;lia)]
theorem Wc(ha:0<=a)(hb:0<b):0<=Rat.divInt a b:=(zG hb).mpr ha
theorem div_pos(ha:0<a)(hb:0<b):0<Rat.divInt a b:=by
 let h0:=Wc (D9 ha) hb;erw[Lu h0 λe=>?_];let h2:0<=Rat.divInt (-a) b:=by rw[<-Rat.neg_divInt,<-e];decide
 have:=(zG hb).mp h2
 lia
theorem Dd.mul{D:Nat}(h:Dd D q){a s:Int}(ha:0<=a)(hs:0<s)(hm:s.natAbs<2^m):Dd (D+m) (q*Rat.divInt a s):=by erw[Rat.mul_nonneg h.nn (Wc ha hs),?_];let h1:(Rat.divInt a s).den<2^m:=Ff aw hm;rw[mul_div];let hd:=q.den_pos;let hd2:=(Rat.divInt a s).den_pos;erw[Ff (tj _ _) ?_];rw[gL];erw[oH (by have:=h.den;lia) aw]
theorem Gq(rate sp:Int):Dd 14 (topR rate sp):=#[_O.ou _ _,Ff aA aA]
theorem Dy{rate:Int}(h1:1<=sp)(h2:sp<=20)(h3:10<=rate)(h4:rate<=200):topR rate sp<=1600:=by
 let e:(1600:Rat)=Rat.divInt 16000000 10000:=by decide+kernel
 rw[e];refine(_C.Fe aA).mpr ?_;let hp:sp*rate<=20*200:=zV h2 h4 aw aw;let EN:0<=sp*rate:=iy aw aw;rw[fh,fh,kK,ki];have:=zV hp hp EN aA
 lia
theorem a3Q{rate:Int}(h1:1<=j)(h2:j<=50)(h3:10<=rate)(h4:rate<=200)(ho:OkIs os)(i:Nat):Dd 64 (ownF j rate os i):=#[_O.rW _ _ _ _,(_O.AE h1 h2 h3 h4 ho i).den]
theorem a9E{D:Nat}(hf:0<=f)(h:∀i,i<=n->Dd D (g i)):∀i,i<=n->Dd D (fl n L f g i):=by
 erw[down ?_ ?_]
 ·rw[nX];erw[h n (aY _)]
 ·intro i hi ih
  cases e:L i with |none=>rw[nV hi e];erw[h i aw] |some m=>rw[lX hi e];exact(h i aw).mn (ih.add (iy hf aw))
theorem acK{rate:Int}(h3:10<=rate)(h4:rate<=200)(ho:_O.OkI o):_O.betR j rate o p<=1600:=by cases o with |none=>rw[_O.Cq];decide+kernel |some q=>cases p with |none=>rw[_O.tx];decide+kernel |some q'=>let(ns,sp):=q;let(ms,sq):=q';obtain⟨-,a1,a2⟩:=ho ns sp rfl;let ht:=Dy a1 a2 h3 h4;show _O.mnO (mn (topR rate sp) (topR rate sq)) (_O.cornO j ns ms)<=1600;cases _O.cornO j ns ms with |none=>erw[bW (dR _ _) ht] |some c=>erw[bW (dR _ _) (bW (dR _ _) ht)]
theorem a3O{j rate:Int}{os:List Itm}(h3:10<=rate)(h4:rate<=200)(ho:OkIs os):∀i,ownF j rate os i<=1600 |0=>by show(0:Rat)<=1600;decide+kernel |i+1=>acK h3 h4 (ho i)
abbrev gI:=Option (Rat × Int × Int)
def kz(r f:Int)(pc top R:Rat)(left:Int):gI->Rat |none=>mn (mn (pc+(r:Rat)) top) (R+((f*(2*left-1):Int):Rat)) |some (sq,st,gn)=>mn (mn (mn (pc+(r:Rat)) top) (R+((f*(2*left-1):Int):Rat))) (sq*Rat.divInt (2*(st-gn-1)+1) (2*st))
def nM(r f:Int)(pc top R:Rat)(left:Int):gI->Rat |none=>mn (mn (pc+((2*r:Int):Rat)) top) (R+((2*f*(left-1):Int):Rat)) |some (sq,st,gn)=>mn (mn (mn (pc+((2*r:Int):Rat)) top) (R+((2*f*(left-1):Int):Rat))) (sq*Rat.divInt (st-gn-1) st)
def vV:gI->gI |none=>none |some (sq,st,gn)=>some (sq,st,gn+1)
def qL(D:Nat)(pc:Rat):gI->Prop |none=>True |some (sq,st,gn)=>0<=gn/\gn<=st/\st<=1000/\Dd D sq/\sq<=2000/\(st=0->pc=0)/\pc*(st:Rat)<=sq*((st-gn:Int):Rat)
def Halt(pc:Rat)(stp:gI):Prop:=stp≠none/\pc=0
theorem yE{D:Nat}(h:qL D pc (some (sq,st,gn)))(hp:0<=pc)(hn:¬Halt pc (some (sq,st,gn))):gn<st/\0<sq/\0<pc:=by
 let(g0,g1,g2,hd,hl,hz,hh):=h;let Bs:0<pc:=Lu hp λe=>hn #[by simp,e.symm];let gG:gn<st:=by
  rcases M0 gn st with h|h
  ·erw[h]
  ·let e:st-gn=0:=by lia
   rw[e]at hh;let e0:sq*((0:Int):Rat)=0:=Rat.mul_zero sq;rw[e0]at hh;exfalso;rcases M0 0 st with h3|h3
   ·let h4:(0:Rat)<(st:Rat):=G1.mpr h3
    let h5:=Rat.mul_pos Bs h4;erw[absurd (Std.lt_of_lt_of_le h5 hh) (Rat.lt_irrefl)]
   ·rw[hz aw]at Bs;erw[absurd Bs (Rat.lt_irrefl)]
 erw[gG,?_,Bs];erw[Lu hd.nn λe=>?_];rw[<-e,Rat.zero_mul]at hh;let h4:(0:Rat)<(st:Rat):=G1.mpr (show(0:Int)<st by lia);erw[absurd (Std.lt_of_lt_of_le (Rat.mul_pos Bs h4) hh) (Rat.lt_irrefl)]
section
variable {D:Nat}{r f:Int}{pc top R:Rat}{left:Int}{stp:gI}
theorem VB:nM r f pc top R left stp<=top:=by cases stp with |none=>erw[bW (dR _ _) (fw _ _)] |some q=>let(sq,st,gn):=q;erw[bW (dR _ _) (bW (dR _ _) (fw _ _))]
theorem Tv:kz r f pc top R left stp<=top:=by cases stp with |none=>erw[bW (dR _ _) (fw _ _)] |some q=>let(sq,st,gn):=q;erw[bW (dR _ _) (bW (dR _ _) (fw _ _))]
theorem abg(hr:0<=r)(hf:0<=f)(hl:1<=left)(hp:Dd (D+10) pc)(ht:Dd (D+10) top)(hR:Dd (D+10) R)(hs:qL D pc stp)(hn:¬Halt pc stp):Dd (D+10) (nM r f pc top R left stp):=by let h1:=(hp.add (z:=2*r) aw).mn ht;let h2:=hR.add (z:=2*f*(left-1)) (iy aw aw);cases stp with |none=>erw[h1.mn h2] |some q=>let(sq,st,gn):=q;let(a,b,c):=yE hs hp.nn hn;let(g0,g1,g2,hd,hl,hz,hh):=hs;exact(h1.mn h2).mn (hd.mul (m:=10) aw aw aw)
theorem Tx(hr:0<=r)(hf:0<=f)(hl:1<=left)(hp:Dd (D+10) pc)(ht:Dd (D+10) top)(hR:Dd (D+10) R)(hs:qL D pc stp)(hn:¬Halt pc stp):Dd (D+11) (kz r f pc top R left stp):=by let h1:=((hp.add (z:=r) aw).mn ht).mono (show D+10<=D+11 by lia);let h2:=(hR.add (z:=f*(2*left-1)) (iy aw aw)).mono (show D+10<=D+11 by lia);cases stp with |none=>erw[h1.mn h2] |some q=>let(sq,st,gn):=q;let(a,b,c):=yE hs hp.nn hn;let(g0,g1,g2,hd,hl,hz,hh):=hs;exact(h1.mn h2).mn (hd.mul (m:=11) aw aw aw)
theorem add_pos{x:Rat}{z:Int}(hx:0<=x)(hz:0<z):0<x+(z:Rat):=by let h1:((0:Int):Rat)<(z:Rat):=G1.mpr hz;let h2:x+((0:Int):Rat)<x+(z:Rat):=Rat.add_lt_add_left.mpr h1;rw[show((0:Int):Rat)=0 from Z,vg]at h2;erw[Std.lt_of_le_of_lt hx h2]
theorem Im(ha:0<a)(hb:0<b):0<mn a b:=by rcases nN a b with e|e<;>rw[e]<;>assumption
theorem Tw(hr:1<=r)(hf:1<=f)(hl:1<=left)(hp:0<=pc)(ht:0<top)(hR:0<=R)(hs:qL D pc stp)(hn:¬Halt pc stp):0<kz r f pc top R left stp:=by let h1:=Im (Im (add_pos hp (show 0<r by lia)) ht) (add_pos hR (show 0<f*(2*left-1)from hJ aw aw));cases stp with |none=>erw[h1] |some q=>let(sq,st,gn):=q;let(a,b,c):=yE hs hp hn;let(g0,g1,g2,hd,hl,hz,hh):=hs;erw[Im h1 (Rat.mul_pos b (div_pos aw aw))]
theorem Wb(a:Int):Rat.divInt a 1=(a:Rat):=by
 conv=>rhs;rw[<-vf (a:Rat)]
 rfl
theorem abM(hs:0<s):Rat.divInt a s*(s:Rat)=(a:Rat):=by
 let e:(s:Rat)=Rat.divInt s 1:=by rw[Wb]
 rw[e,Rat.divInt_mul_divInt _ _,Int.mul_one,LZ a s];let e2:Rat.divInt (s*a) s=Rat.divInt (s*a) (s*1):=by rw[Int.mul_one]
 rw[e2,Rat.divInt_mul_left aw,Wb]
theorem a02(hs:qL D pc stp)(hp:0<=pc)(hn:¬Halt pc stp):qL D (nM r f pc top R left stp) (vV stp):=by cases stp with |none=>trivial |some q=>
 let(sq,st,gn):=q;let(a,b,c):=yE hs hp hn;let(g0,g1,g2,hd,hl,hz,hh):=hs;erw[aw,aw,g2,hd,hl,λe=>by lia,?_];let h1:nM r f pc top R left (some (sq,st,gn))<=sq*Rat.divInt (st-gn-1) st:=fw _ _;let h2:(0:Rat)<=(st:Rat):=Rat.intCast_nonneg.mpr aw;let h3:=Rat.mul_le_mul_of_nonneg_right h1 h2;let h4:sq*Rat.divInt (st-gn-1) st*(st:Rat)=sq*((st-(gn+1):Int):Rat):=by
  rw[Rat.mul_assoc,abM aw];congr 2
  lia
 rw[h4]at h3;erw[h3]
end
end _R
namespace _R
open _P _d _l
open _O (Itm atO betR ownF leadF topR)
theorem a9D(hg:∀k,1<=k->k<=m->g' k=g (i+k))(hL:∀k,k<m->L' k=L (i+k)):∀k,k<=m->1<=k->fl m L' f g' k=fl (i+m) L f g (i+k):=by
 erw[down ?_ ?_]
 ·intro h;rw[nX,nX];erw[hg m h (aY _)]
 ·intro k hk ih h
  let e:=ih bZ;cases hl:L (i+k)with |none=>rw[nV hk (by rw[hL k hk];erw[hl]),nV bZ hl];erw[hg k h bZ] |some c=>rw[lX hk (by rw[hL k hk];erw[hl]),lX bZ hl,e,hg k h bZ];rfl
theorem KO(os:List Itm)(i k:Nat):atO (os.drop i) k=atO os (i+k):=by unfold atO;rw[qU]
theorem a3P(j rate:Int)(os:List Itm)(i k:Nat):ownF j rate (os.drop i) (k+1)=ownF j rate os (i+k+1):=by show betR j rate (atO (os.drop i) k) (atO (os.drop i) (k+1))=betR j rate (atO os (i+k)) (atO os (i+k+1));rw[KO,KO];rfl
theorem a6H(os:List Itm)(i k:Nat):leadF (os.drop i) k=leadF os (i+k):=by unfold leadF;rw[KO]
theorem a2E{rate:Int}(h:i<os.length):fl (os.drop i).length (leadF (os.drop i)) f (ownF j rate (os.drop i)) 1=fl os.length (leadF os) f (ownF j rate os) (i+1):=by let hl:(os.drop i).length=os.length-i:=qT;let e:=a9D (m:=os.length-i) (i:=i) (g:=ownF j rate os) (g':=ownF j rate (os.drop i)) (L:=leadF os) (L':=leadF (os.drop i)) (f:=f) (λk h1 h2=>by obtain⟨k',rfl⟩:∃k',k=k'+1:=#[k-1,bZ];erw[a3P j rate os i k']) (λk _=>a6H os i k) 1 bZ (aY _);rw[hl,e,show i+(os.length-i)=os.length by omega]
theorem a3N{j rate:Int}{os:List Itm}{i:Nat}{ns:List Int}{sp:Int}(h:os[i]? =some (some (ns,sp))):ownF j rate os (i+1)<=topR rate sp:=by show betR j rate (atO os i) (atO os (i+1))<=_;rw[_O.m8 h];cases atO os (i+1)with |none=>rw[_O.tx];erw[_O.ou _ _] |some q=>let(ms,sq):=q;show _O.mnO (mn (topR rate sp) (topR rate sq)) (_O.cornO j ns ms)<=_;cases _O.cornO j ns ms with |none=>erw[dR _ _] |some c=>erw[bW (dR _ _) (dR _ _)]
theorem a3M{j rate:Int}{os:List Itm}{i:Nat}{ns:List Int}{sp:Int}(h:os[i]? =some (some (ns,sp))):ownF j rate os i<=topR rate sp:=by cases i with |zero=>erw[_O.ou _ _] |succ i=>show betR j rate (atO os i) (atO os (i+1))<=_;rw[_O.m8 h];cases atO os i with |none=>rw[_O.Cq];erw[_O.ou _ _] |some q=>let(ms,sq):=q;show _O.mnO (mn (topR rate sq) (topR rate sp)) (_O.cornO j ms ns)<=_;cases _O.cornO j ms ns with |none=>erw[fw _ _] |some c=>erw[bW (dR _ _) (fw _ _)]
end _R
namespace _L
open PySem PySem.Spec PyProof.Rows
theorem a98{K:ag}{mg:bU}{t:Tok}(X:K.In h)(G:h.Ns mainGlobals mg)(a:PySem.W.nsIn K mainGlobals x=some (some (.str z t))):GV mg x (.str z):=#[_,xM X G a,t,Z]
theorem abN(f:Array Value->Array Value)(o:Obj):(o.mapFields f).dict=o.dict:=by let(c,d,dt,sl):=o;cases dt<;>rfl
def TrD(h B:Heap)(ex:Addr)(cls:Value)(dx:Option Addr)(fl:Value):Prop:=∃ob fs tb ot ts,h.get? ex=some ob/\ob.cls=cls/\ob.dict=dx/\ob.data= .fields fs/\fs[1]? =some (.ref tb)/\B.get? tb=none/\tb≠ex/\h.get? tb=some ot/\ot.data= .fields ts/\ts[3]? =some fl/\fs[2]? =some .none
def pk(B:Heap)(l:List Env)(ex:Addr)(cls:Value)(dx:Option Addr)(fl:Value)(h:Heap):Prop:=B.StaysIn h/\B.get? ex=none/\h.FunFrames B l/\TrD h B ex cls dx fl
theorem pk.there{cls fl:Value}(x:pk B l ex cls dx fl h):∃ob,h.get? ex=some ob/\ob.cls=cls/\ob.dict=dx/\∃fs,ob.data= .fields fs/\fs[2]? =some .none:=by let(_,_,_,ob,fs,_,_,_,e,c,d,z,_,_,_,_,_,_,z2):=x;erw[ob,e,c,d,fs,z,z2]
section
variable {M:Model}{A:ak}{E:Value->ah->Prop}{s:ah}{B:Heap}{env:Env}{outer:List Env}{L ex:Addr}{ob:Obj}{fs:Array Value}{head:Value}{nx:Bool}{Q:Unit->ah->Prop}{cls fl:Value}{dx:Option Addr}
theorem Vy(hA:A.frames=some (env::outer))(ff:s.heap.FunFrames B (env::outer))(hL:env.frame=some L)(ho:s.heap.get? ex=some ob)(st:B.StaysIn s.heap)(hB:B.get? ex=none)(hd:ob.data= .fields fs)(hz:1<fs.size)(iU:fs[2]? =some .none) (q:∀h',pk B (env::outer) ex ob.cls ob.dict (rawInt L) h'->s.heap.UpToSlots h'->Q () {s with heap:=h'}): wpAny M A (do let a<-frameOf env;let pl<-entryPlaceOf L nx;let b<-EntryCells.newEntry head a .none (rawInt L) .none pl;setField (.ref ex) 1 b) Q E s:=by
 let Eo:ex∉(env::outer).filterMap (·.frame):=λhm=>by let(_,o,e1,nf):=ff.mem hm;rw[ho]at e1;cases e1;erw[nf fs hd]
 erw[aJ (wpAny_frameOf_fun hA ff hL λg1 k1=>aJ (wpAny_entryPlaceOf λpl hp=>?_))];unfold EntryCells.newEntry newFields;erw[aJ (qR ?_ (hp.sizeOk5 _ _ _ _ _))];let o1:g1.get? ex=some ob:=(k1.2.1 ex Eo).trans ho;let DI:B.StaysIn g1:=λb o e=>(k1.2.1 b λhm=>by rw[(ff.mem hm).1]at e;cases e).trans (st b o e);generalize hT:({cls:=.type "traceback",dict:=none,data:=.fields ([head,.ref L,.none,rawInt L,.none]++(if pl.isEmpty then List.replicate 6 Value.none else pl)).toArray}:Obj)=T;let o2:(g1.push T).get? ex=some ob:=cD T o1;erw[FL o2 hd hz (q _ ?_ ?_)];all_goals let ne:g1.objs.size≠ex:=CV (cC o1)
 all_goals let keep:∀b o,b≠ex->g1.get? b=some o->((g1.push T).update ex (Obj.mapFields (·.setIfInBounds 1 (Value.ref g1.objs.size)))).get? b=some o:=λb o nb e=>by rw[De _ _ (kJ nb)];erw[cD _ e]
 all_goals let ur:∀b o,s.heap.get? b=some o->(∀vs,o.data≠ .fields vs)->b≠ex:=λb o e nf z=>by rw[z,ho]at e;cases e;erw[nf fs hd]
 ·let d3:=G7 hd (·.setIfInBounds 1 (Value.ref g1.objs.size))
  let o3:=Gf (Obj.mapFields (·.setIfInBounds 1 (Value.ref g1.objs.size))) o2 (Ya d3);erw[λb o e=>keep b o (λz=>by rw[z,hB]at e;cases e) (DI b o e),hB,ff.of_keeps λb o e nf=>?_,?_]
  ·let(sl,e1):=k1.2.2 b o e
   erw[_,keep b _ (ur b o e nf) e1,Z]
  ·erw[_,_,g1.objs.size,T,_,o3,Obj.cls_mapFields _ _,abN _ _,d3,by simp[hz],DI.fresh,ne,?_,by rw[<-hT],?_]
   ·rw[De _ _ (kJ ne)];erw[fj g1 (by rw[<-hT];rfl)]
   ·erw[?_,by simpa using iU]
    first|(simp;done)|(rcases hp with rfl|⟨_,_,_,_,_,_,_,rfl⟩<;>simp)
 ·intro b o e nf
  let(sl,e1):=k1.2.2 b o e;erw[sl,keep b _ (ur b o e nf) e1]
theorem a5m(hA:A.frames=some (env::outer))(ff:s.heap.FunFrames B (env::outer))(hL:env.frame=some L)(ho:s.heap.get? ex=some ob)(st:B.StaysIn s.heap)(hB:B.get? ex=none)(hd:ob.data= .fields fs)(h1:fs[1]? =some .none)(iU:fs[2]? =some .none) (q:∀h',pk B (env::outer) ex ob.cls ob.dict (rawInt L) h'->s.heap.UpToSlots h'->Q () {s with heap:=h'}):wpAny M A (noteFrame (.ref ex) env) Q E s:=by unfold noteFrame;simp only[hL];erw[aJ (kf ho hd h1 ?_)];rw[aV aA];erw[Vy hA ff hL ho st hB hd (M6.mp h1).1 iU q]
theorem a5l(hA:A.frames=some (env::outer))(hL:env.frame=some L)(x:pk B (env::outer) ex cls dx .none s.heap) (q:∀h',pk B (env::outer) ex cls dx (rawInt L) h'->s.heap.UpToSlots h'->Q () {s with heap:=h'}):wpAny M A (noteFrame (.ref ex) env) Q E s:=by
 let(st,hB,ff,ob,fs,tb,ot,ts,ho,rfl,rfl,hd,h1,EY,nt,ht,qi,h3,iU):=x;unfold noteFrame;simp only[hL];erw[aJ (kf ho hd h1 ?_)];rw[aQ (show(Value.ref tb !=Value.none)=true from by simp)];erw[aJ (kf ht qi h3 ?_)];rw[aV (show¬((Value.none==rawInt L)=true)from by simp[rawInt])];erw[aJ (FL ht qi (M6.mp h3).1 ?_)];let other:∀b,b≠tb->(s.heap.update tb (Obj.mapFields (·.setIfInBounds 3 Value.none))).get? b=s.heap.get? b:=λb nb=>De _ _ (kJ nb);let ur:∀b o,s.heap.get? b=some o->(∀vs,o.data≠ .fields vs)->b≠tb:=λb o e nf z=>by rw[z,ht]at e;cases e;erw[nf ts qi]
 erw[Vy (s:={s with heap:=s.heap.update tb (Obj.mapFields (·.setIfInBounds 3 Value.none))}) hA (ff.of_keeps λb o e nf=>#[o,(other b (ur b o e nf)).trans e,Z]) hL ((other ex (kJ nt)).trans ho) (λb o e=>(other b λz=>by rw[z,EY]at e;cases e).trans (st b o e)) hB hd (M6.mp h1).1 iU λh' y up=>q h' y λb o e nf=>up b o ((other b (ur b o e nf)).trans e) nf]
theorem JB(x:pk B l ex cls dx fl s.heap)(q:∀h',pk B l ex cls dx .none h'->s.heap.UpToSlots h'->Q () {s with heap:=h'}):wpAny M A (setFlight (.ref ex) none) Q E s:=by
 let(st,hB,ff,ob,fs,tb,ot,ts,ho,hc,hx,hd,h1,EY,nt,ht,qi,h3,iU):=x;let z3:3<ts.size:=(M6.mp h3).1;let other:∀b,b≠tb->(s.heap.update tb (Obj.mapFields (·.setIfInBounds 3 ((none:Option Addr).elim Value.none λf=>rawInt f)))).get? b=s.heap.get? b:=λb nb=>De _ _ (kJ nb);let ur:∀b o,s.heap.get? b=some o->(∀vs,o.data≠ .fields vs)->b≠tb:=λb o e nf z=>by rw[z,ht]at e;cases e;erw[nf ts qi]
 unfold setFlight;erw[aJ (kf ho hd h1 ?_)];rw[aQ (show(Value.ref tb !=Value.none)=true from by simp)];erw[FL ht qi z3 (q _ #[λb o e=>(other b λz=>by rw[z,EY]at e;cases e).trans (st b o e),hB,ff.of_keeps λb o e nf=>#[o,(other b (ur b o e nf)).trans e,rfl],?_] λb o e nf=>#[o.slots,(other b (ur b o e nf)).trans e])];erw[ob,fs,tb,_,_,(other ex (kJ nt)).trans ho,hc,hx,hd,h1,EY,nt,Gf _ ht (Ya (G7 qi _)),G7 qi _,by simp[z3],iU]
theorem a6F(hA:A.frames=some (env::outer))(ff:s.heap.FunFrames B (env::outer))(hL:env.frame=some L)(ho:s.heap.get? ex=some ob)(st:B.StaysIn s.heap)(hB:B.get? ex=none)(hd:ob.data= .fields fs)(h1:fs[1]? =some .none)(iU:fs[2]? =some .none) (q:∀h',pk B outer ex ob.cls ob.dict .none h'->s.heap.UpToSlots h'->Q () {s with heap:=h'}):wpAny M A (leaving env (.ref ex)) Q E s:=by unfold leaving;erw[aJ (a5m hA ff hL ho st hB hd h1 iU λh1 x1 u1=>JB x1 λh2 x2 u2=>q h2 ?_ (u1.trans u2))];let(a,b,(_,_,c),d):=x2;erw[a,b,c,d]
end
end _L
namespace _L
open PySem PySem.Spec PyProof.Rows
open Builtin Builtin.ObjectAttr
def tR:List Value:=[.type "ValueError",.type "Exception",.type "BaseException",.type "object"]
def pP:List Value->Bool | .ref _::r=>pP r |l=>l==tR
theorem RF(self:Value){l:List Value}(e:pP l=true):refuseLoop self "__setattr__" l=pure ():=by induction l with |nil=>simp[pP,tR]at e |cons v r ih=>cases v with |ref c=>rw[refuseLoop_ref];erw[ih (by simpa[pP]using e)] |_=>let e':=fC.mp (show(_==tR)=true from e);rw[e'];erw[PySem.F.store_ValueError.passes self]
theorem UT{t:String}(ht:(tR.contains (.type t))=true):∀{l:List Value},pP l=true->l.contains (.type t)=true |l,e=>by induction l with |nil=>simp[pP,tR]at e |cons v r ih=>cases v with |ref c=>rw[Yh,ih (by simpa[pP]using e),Bool.or_true] |_=>let e':=fC.mp (show(_==tR)=true from e);rw[e'];erw[ht]
def HP(K:ag)(C:Addr):Bool:=(PySem.W.clsIn K C).any λcd=>pP cd.mro
section
variable {prog:ai}{w:World}{A:ak}{E:Value->ah->Prop}{s:ah}{K:ag}{x C:Addr}{ox:Obj}{fs:Array Value}{name:Str}{v:Value}{Q:Unit->ah->Prop}
theorem a1t(X:K.In s.heap)(hx:s.heap.get? x=some ox)(hc:ox.cls= .ref C)(hd:ox.dict=none)(hf:ox.data= .fields fs) (hs:PySem.W.findIn K (.ref C) "__setattr__"=some (some (.builtin "object.__setattr__")))(hp:HP K C=true)(ht:PySem.W.takerIn K C name=some none)(hh:PySem.W.hasDictIn K C=true) (h:∀h',h'.get? x=some {ox with dict:=some s.heap.objs.size}->h'.Ns1 s.heap.objs.size (λy=>if y=name then some v else none)->(∀b o,b≠x->s.heap.get? b=some o->h'.get? b=some o)->Q () {s with heap:=h',toks:=s.toks+2}): wpAny (model prog w) A (setAttr (.ref x) name v) Q E s:=by
 let I:PySem.W.InstAt s.heap x ox C none:=#[hx,hc,by unfold PySem.W.notCls;rw[hf],by rw[hd];trivial];erw[XZ X I hs ?_];let SF:=PySem.F.store_object;let(cd,fU,ho):=G6 hp;let ne:cd.mro.isEmpty=false:=by cases q:cd.mro with|nil=>rw[q]at ho;simp[pP,tR]at ho|cons _ _=>rfl
 let sub:PySem.W.Looks (model prog w) s.heap (isInstance (.ref x) (.type "object")) true:=I.type.andThen (PySem.W.looks_mroIn X (by unfold PySem.W.mroIn;rw[fU,Option.bind_some,aV (by rw[ne];decide),UT aA ho]));erw[FX SF.slot.plain SF.entry (@PySem.W.check_slot (model prog w) _ _ {s with toks:=s.toks+1} "object.__setattr__" "object" "__setattr__" (.ref x) [.str name s.toks,v] [] _ SF.kind SF.split sub (SF.args (.ref x) (.str name s.toks) v) ?_)];let(attr,ha,hr):=Y9.mp ht;let hm:PySem.W.Looks (model prog w) s.heap (mroOf (.ref C)) cd.mro:=(G3 X fU).andThen .now;let L3:PySem.W.Looks (model prog w) s.heap (storeTaker? attr) none:=by cases attr with |none=>erw[.now] |some a=>let(b,hb,e):=zJ.mp hr;refine(PySem.W.looks_takesIn X hb).andThen ?_;cases b with |false=>erw[.now] |true=>cases e
 rw[PySem.W.osa_eq,refuse_eq];erw[aJ (aJ (om (s:={s with toks:=s.toks+1}) I.type (aJ (om (s:={s with toks:=s.toks+1}) hm ?_))))];rw[RF _ ho];erw[bN (aJ (om (s:={s with toks:=s.toks+1}) I.type (aJ (om (s:={s with toks:=s.toks+1}) (Y1 X ha) (aJ (om (s:={s with toks:=s.toks+1}) L3 ?_))))))];let(cd2,iU,hd2):=G6 hh;erw[aJ (bN (aJ (aJ (Lo (s:={s with toks:=s.toks+1}) hx ?_))))];rw[hc];erw[aJ (om (s:={s with toks:=s.toks+1}) (G3 X iU) ?_)];rw[hd2,hd,hf];rw[aV aA];show wpAny _ _ (if(!true|| !typeHasDict (Value.ref C))=true then _ else _) _ _ _;rw[aV (by simp[typeHasDict])];let x1:(s.heap.push {cls:=.type "dict",data:=.dict #[]}).get? x=some ox:=cD _ hx;let nx:x≠s.heap.objs.size:=eR (cC hx);erw[aJ (wpAny_alloc' (aJ (wpAny_update' x1 (bN ?_))))];let gd:((s.heap.push {cls:=.type "dict",data:=.dict #[]}).update x λo=>{cls:=o.cls,dict:=some s.heap.objs.size,data:=o.data,slots:=o.slots}).get? s.heap.objs.size=some {cls:=.type "dict",data:=.dict #[]}:=(Heap.get?_update_ne _ _ _ _ nx.symm).trans (Heap.get?_push_at Z rfl);let n0:((s.heap.push {cls:=.type "dict",data:=.dict #[]}).update x λo=>{cls:=o.cls,dict:=some s.heap.objs.size,data:=o.data,slots:=o.slots}).Ns s.heap.objs.size (λ_=>none):=#[_,#[],_,gd,Z,(λe he=>absurd he (by simp)),λ_=>rfl];show wpAny _ _ (storeInDict s.heap.objs.size (.str name s.toks) name v) _ _ _;unfold storeInDict newKeyGuard;erw[aJ (bN (aJ (wpAny_nsSet1 (Heap.Ns1.of_empty n0) λh2 n2 sb=>?_)))];let(oD,esD,epD,e1,e2,e3):=n2.count (XY name v PySem.Within.nil);erw[aJ (wpAny_lookBehind e1 (by rw[e2];erw[pastItsLine_dict (gY e3 (by rw[kh,List.length_nil,FU];lia))]) ?_)];erw[bN (h h2 ?_ n2 λb o nb e=>?_)]
 ·refine(sb.2 x nx).trans (Gf _ x1 ?_)
  let(oc,od,HY,gc):=ox;cases hf;rfl
 ·exact(sb.2 b (eR (cC e))).trans ((Heap.get?_update_ne _ _ _ _ nb).trans (cD _ e))
end
end _L
namespace _L
open PySem PySem.Spec PyProof.Rows
def tH(ex C:Addr)(h:Heap):Prop:=∃ob fs,h.get? ex=some ob/\ob.cls= .ref C/\ob.dict=none/\ob.data= .fields fs/\fs[1]? =some .none/\fs[2]? =some .none
def ng(ex C dx:Addr)(h:Heap):Prop:=∃ob fs,h.get? ex=some ob/\ob.cls= .ref C/\ob.dict=some dx/\ob.data= .fields fs/\fs[1]? =some .none/\fs[2]? =some .none
structure zo(K:ag)(C:Addr)(f:Str):Prop where
 sa:PySem.W.findIn K (.ref C) "__setattr__"=some (some (.builtin "object.__setattr__"))
 ov:HP K C=true
 tk:PySem.W.takerIn K C f=some none
 hd:PySem.W.hasDictIn K C=true
inductive af3(K:ag)(f:Str)(D:Ends)(O:St)(y:V)(x:V)(H2:Hp):Prop |mk ex C(_:x= .ref ex)(_:H2 ex=some (.ext (tH ex C)))(_:zo K C f)(_:∀dx,H2 dx=none->dx≠ex->D.nx O (upd (upd H2 dx (.xd [(f,y)])) ex (.ext (ng ex C dx))))
def a1J(K:ag)(ta tv:TE)(f:Str):TS:=λD O H=>tv O H λy H1=>ta O H1 λx H2=>af3 K f D O y x H2
section
variable {X:Cx}{o e value:Expr}{f:Str}{pos pos' tT:Pos}{ta tv:TE}
theorem a3a(K:ag)(hK:X.K=K)(ha:PE X o ta)(hv:PE X value tv)(hs:autoParam (swapsWith value (some (.Attribute o f pos')) pos.line X.env=pure false) r8_._auto_1):PS X (.Assign [.Attribute o f pos'] value pos) (a1J K ta tv f):=by
 subst hK;intro ay s O H D I h;erw[XS (bc (hv ay s O H _ I h) λu s1 #[y,H1,I1,ry,q]=>bc (ha ay s1 O H1 _ I1 q) λov s2 #[x,H2,I2,rx,ex,C,e1,ee,xc,q2]=>?_) hs];subst e1;obtain rfl:ov=Value.ref ex:=rx;let((ob,fs,g1,g2,g3,g4,g5,g6),_,_):=(show gj X.prog X.w H2 s2.heap ex (.ext (tH ex C))from I2.bp ex _ ee);erw[a1t I2.fG g1 g2 g3 g4 xc.sa xc.ov xc.tk xc.hd λh' k1 k2 k3=>?_];let ne:s2.heap.objs.size≠ex:=CV (cC g1);let fr:H2 s2.heap.objs.size=none:=I2.bp.fresh (aY _);let(oD,es,ep,d1,d2):=id k2;let hmD:(s2.heap.push oD).get? s2.heap.objs.size=some oD:=fj _ (by let(oc,od,HY,gc):=oD;have:HY= .dict es ep:=d2.1;subst this;rfl);let Jl:gj X.prog X.w (upd H2 s2.heap.objs.size (.xd [(f,y)])) (s2.heap.push oD) s2.heap.objs.size (.xd [(f,y)]):=by
  erw[_,k2.at λo e=>?_,λg=>?_]
  ·rw[d1]at e;cases e;erw[hmD]
  ·by_cases q:g=f
   ·subst q
    simp only[List.lookup,FY,vd];erw[ry]
   ·have:(g==f)=false:=by simpa using q
    simp only[List.lookup,this,aV q];trivial
 let J1:=I2.laid (a:=s2.heap.objs.size) (o:=.xd [(f,y)]) (h':=s2.heap.push oD) (t':=s2.toks+2) (λb u q=>cD _ q) (aY _) Jl;let J2:=J1.write (x:=ex) (e:=ex) (o:=.ext (ng ex C s2.heap.objs.size)) (h':=h') (t':=s2.toks+2) (by rw[aU ne.symm,ee];trivial) (.inl Z) (λb u nb e=>by
  rcases Ym e with⟨rfl,rfl⟩|e
  ·erw[d1]
  ·erw[k3 b u nb e]) #[_,k1] #[#[_,fs,k1,g2,Z,g4,g5,g6],#[_,k1],λh1 h2 #[vU,kT,z1,z2] k=>#[vU,kT,k _ z1,z2]];erw[O,_,J2,q2 _ fr ne]
end
abbrev Vq(rest:List Value):Obj:={cls:=.type "tuple",data:=.seq rest.toArray}
abbrev JX(C t:Addr):Obj:={cls:=.ref C,data:=.fields (List.toArray [.ref t,.none,.none,.none,.bool false,.none])}
abbrev oZ(h:Heap)(C:Addr)(rest:List Value):Heap:=(h.push (Vq rest)).push (JX C h.objs.size)
section
variable {prog:ai}{w:World}{A:ak}{E:Value->ah->Prop}{h:Heap}{g:Array GenState}{d:Drawn}{t:Nat}{os:OsState}
variable {nm q:Str}{C N fI:Addr}{bs bm gz:List Value}{hdct:Bool}{sn:List Str}{sub:List Value}{ab:Bool}{col:Option Bool}{dd:Option Addr}{k0 k1 k2 k3 k5:Option Value}{B newId yP:String}{mN:bU}{rest:List Value}{oI:Obj}
theorem Vr:(oZ h C rest).get? (h.objs.size+1)=some (JX C h.objs.size):=by have:=fj (h.push (Vq rest)) (o:=JX C h.objs.size) rfl;rwa [qX]at this
theorem zc(e:h.get? b=some o):(oZ h C rest).get? b=some o:=cD _ (cD _ e)
theorem Ze(F:ExcBaseFacts B newId yP gz)(T:OwnTail h gz bm){Q:Fin->ah->Prop}(hC:h.get? C=some (excClassObj nm q C N bs bm hdct sn sub ab col dd k0 k1 k2 k3 k5 newId))(hn:h.Ns N mN)(hi:mN "__init__"=some (.ref fI)) (hf:h.get? fI=some oI)(Jk:oI.cls= .type "function")(hz:rest.length<=sizeLine) (hq:wpAny (model prog w) A (call (.ref fI) (.ref (h.objs.size+1)::rest)) (λr s'=>r= .none/\Q (.done (.ret (.ref (h.objs.size+1)))) s') E #[oZ h C rest,g,d,t,os]): wpAny (model prog w) A (Builtin.«type.__call__» #[.ref C::rest,[]]) Q E #[h,g,d,t,os]:=by
 repeat (first|with_reducible erw[xJ hC ?_]|with_reducible erw[wpAny_madeBy_exc hC ?_]|wp_step)
 erw[codeAny_call_builtin_code (Code.quiet_builtin _ F.quiet) (wpAny_check_new_subT F T hC (codeAny_exc_new_subT F T hC ?_ hz))];show wpAny _ _ _ _ _ _;let c1:=zc (C:=C) (rest:=rest) hC;let f1:=zc (C:=C) (rest:=rest) hf;let n1:(oZ h C rest).Ns N mN:=let#[o,es,ep,e,r]:=hn;#[o,es,ep,zc e,r];let x1:=Vr (h:=h) (C:=C) (rest:=rest);let cc:(Value.ref C::bm).contains (.ref C)=true:=by simp
 let T1:=T.keeps (h':=oZ h C rest) λb o e=>zc e;unfold isInstance
 repeat (first|with_reducible erw[xJ x1 ?_]|(with_reducible erw[Lp c1 ?_];rw[cc])|wp_step)
 show wpAny _ _ (typeLookup (.ref C) _) _ _ _;erw[wpAny_typeLookup_tail c1 n1 T1 F.mroIs F.init.lookup ?_];rw[hi];erw[jI (aJ ?_)];unfold bindSpecial;erw[aJ (wpAny_typeOf (T:="function") #[_,f1,Jk] ?_)];rw[aQ aA];erw[bN (aJ (fM hq (λr s' #[e,z]=>?_) λ_ _ z=>z))];subst e
 wp_walk;erw[z]
theorem acx(F:ExcBaseFacts B newId yP gz)(T:OwnTail h gz bm){Q:Value->ah->Prop}(hC:h.get? C=some (excClassObj nm q C N bs bm hdct sn sub ab col dd k0 k1 k2 k3 k5 newId))(hn:h.Ns N mN)(hi:mN "__init__"=some (.ref fI)) (hf:h.get? fI=some oI)(Jk:oI.cls= .type "function")(hz:rest.length<=sizeLine) (hq:wpAny (model prog w) (A.under (.builtin "type.__call__" #[.ref C::rest,[]])) (call (.ref fI) (.ref (h.objs.size+1)::rest)) (λr s'=>r= .none/\Q (.ref (h.objs.size+1)) s') E #[oZ h C rest,g,d,t,os]): wpAny (model prog w) A (call (.ref C) rest) Q E #[h,g,d,t,os]:=by
 let f1:=tc_lookup;let f2:=tc_bind (.ref C);let hT:(#[h,g,d,t,os]:ah).TypeIs (.ref C) "type":=#[_,hC,Z];erw[vc (codeAny_of_tree ?_)];show wpAny _ _ (callAny (.ref C) _) _ _ _
 repeat (any_goals (first|assumption|with_reducible erw[xJ hC ?_]|wp_step))
 erw[Z,codeAny_call_builtin_at (Code.quiet_builtin _ aP) entry_typeCall (wpAny_check_type_call_sub hC (Ze F T hC hn hi hf Jk hz ?_))];erw[hq]
end
section
variable {M:Model}{A:ak}{E:Value->ah->Prop}{env:Env}{nm q:Str}{C N:Addr}{bs bm:List Value}{hdct:Bool}{sn:List Str}{sub:List Value}{ab:Bool}{col:Option Bool}{dd:Option Addr}{k0 k1 k2 k3 k5:Option Value}{newId:String}
theorem a2N{s:ah}{x:Sem Value}{Q:Flow->ah->Prop}(hb:bm.contains (.type "BaseException")=true)(hh:A.handled=none) (h:wpAny M A x (λv s1=>∃e oe fs,v= .ref e/\s1.heap.get? C=some (excClassObj nm q C N bs bm hdct sn sub ab col dd k0 k1 k2 k3 k5 newId)/\s1.heap.get? e=some oe/\oe.cls= .ref C/\oe.data= .fields fs/\fs[1]? =some .none/\E (.ref e) s1) E s): wpAny M A (raiseStmt env (some x) none) Q E s:=by
 let cb:(Value.ref C::bm).contains (.type "BaseException")=true:=by rw[Yh,hb,Bool.or_true]
 unfold raiseStmt;erw[aJ (fM h (λv s1 #[e,oe,fs,ev,hC,he,hc,qi,h1,hE]=>?_) λ_ _ z=>z)];subst ev;let(hp,g,d,tk,os):=s1;let(oc,odd,HY,gc):=oe;cases hc;cases qi
 repeat (first|with_reducible erw[xJ he ?_]|with_reducible erw[xJ hC ?_]|(with_reducible erw[Lp hC ?_];rw[cb])|rw[h1]|wp_step)
 erw[wpAny_raiseNew_none hh hE]
end
def xH(P:ai)(w:World):lC:=λouter H s E e s'=>∃(ex:Addr)(cls:Value)(dx:Option Addr)(H':Hp)(B:Heap),e= .ref ex/\s'.os=s.os/\AllBare s'.gens/\pk B outer ex cls dx .none s'.heap/\Fl P w outer H s.heap ex H' B s'.heap/\E cls dx H'
theorem Ko:del H p p=none:=by unfold del;rw[aQ rfl]
theorem xj(h:b≠p):del H p b=H b:=by unfold del;rw[aV h]
theorem fb.del{P:ai}{w:World}(ok:fb P w H h)(e:H p=some (.ext φ)):fb P w (del H p) h:=λb u q=>by
 let(nb,q):=Wf.mp q;refine(ok b u q).ny (λ_ _ _ z=>z) (λc z=>?_) λc xs z=>?_
 ·rw[xj (λy=>by rw[y,e]at z;cases z)];erw[z]
 ·rw[xj (λy=>by rw[y,e]at z;cases z)];erw[z]
section
variable {P:ai}{w:World}{K:ag}{mg:bU}{aD:Heap}{N:List Str}{qual:Str}{scope:Scope}{f:Addr}{cd:Value}{A:ak}{outer:List Env}{s:ah}{H:Hp}{E:XK}{ay:List (Addr×Obj)}{O:St}{H1:Hp}{s1:ah}{ex:Addr}{C:Addr}{dx:Addr}
theorem xU(I:Inv (jn (xH P w) P w K mg aD N qual scope f cd A outer s H E) ay O H1 s1)(hx:H1 ex=some (.ext (ng ex C dx)))(hs:s.heap.objs.size<=ex)(q:E (.ref C) (some dx) (del H1 ex)): (jn (xH P w) P w K mg aD N qual scope f cd A outer s H E).xe (.ref ex) s1:=by
 let gG:s1.heap.FunFrames aD (envOfC qual scope s.heap.objs.size f cd::outer):=I.stack;let oP:∀env∈(envOfC qual scope s.heap.objs.size f cd::outer),∀b,env.frame=some b->b∈ex::fV (envOfC qual scope s.heap.objs.size f cd::outer):=λenv he b hb=>.tail _ (zO.mpr #[env,he,hb]);let hB:(PySem.W.hideAll s1.heap (ex::fV (envOfC qual scope s.heap.objs.size f cd::outer))).StaysIn s1.heap:=λb o e=>PySem.W.of_hideAll _ e;let((ob,fs,g1,g2,g3,g4,g5,g6),_,_):=(show gj P w H1 s1.heap ex (.ext (ng ex C dx))from I.bp ex _ hx);let nw:s.heap.get? ex=none:=Heap.get?_none_of_le hs;let Eo:∀b o,s.heap.get? b=some o->b∉fV outer->b∉ex::fV (envOfC qual scope s.heap.objs.size f cd::outer):=λb o e hb hm=>by
  rcases dg.mp hm with rfl|hm
  ·rw[nw]at e;cases e
  let(env,he,hf):=zO.mp hm;rcases dg.mp he with rfl|he
  ·let e1:s.heap.objs.size=b:=eQ hf
   let h1:=cC e;rw[<-e1]at h1;erw[absurd h1 (xO _)]
  ·erw[hb (zO.mpr #[env,he,hf])]
 let Ih:∀b u,H1 b=some u->(∀φ,u≠ .ext φ)->del H1 ex b=some u:=λb u e n=>by rw[xj (λz=>by rw[z,hx]at e;erw[n _ (eQ e).symm])];erw[e]
 let F0:Fl P w outer H s.heap ex (del H1 ex) (PySem.W.hideAll s1.heap (ex::fV (envOfC qual scope s.heap.objs.size f cd::outer))) s1.heap:=by
  erw[#[I.aD.keep,I.aD.slot,λb o e n hb=>?_,I.aD.there,λb xs e=>Ih b _ (I.aD.lM b xs e) (λ_ z=>nomatch z),λb o u e=>Ih b _ (I.aD.kU b o u e) (λ_ z=>nomatch z),λb ps e=>?_],I.bp.del hx,λb o e n hb=>Ly _ (I.aD.keep b o e n hb (gk)) (Eo b o e hb),λb o e=>?_,λb o e hb=>?_,λb hb=>?_,nw,Ko]
  ·by_cases z:b=ex
   ·rw[z];erw[Ko]
   ·rw[xj z];erw[I.aD.free b o e n hb]
  ·let(more,e1):=I.aD.lO b ps e
   erw[more,Ih b _ e1 (λ_ z=>nomatch z)]
  ·let(nb,e):=Wf.mp e
   let(vU,e1):=(I.bp b o e).there;erw[vU,Ly _ e1 λhm=>?_];rcases dg.mp hm with z|hm
   ·erw[nb z]
   ·rw[I.DH b hm]at e
    cases e
  ·let(vU,e1):=I.aD.there b o e (gk)
   erw[vU,Ly _ e1 (Eo b o e hb)]
  ·let(env,he,hf):=zO.mp hb
   let e1:=I.DH b (zO.mpr #[env,.tail _ he,hf]);by_cases z:b=ex
   ·rw[z];erw[Ko]
   ·rw[xj z];erw[e1]
 show wpAny (model P w) (A.deeper (envOfC qual scope s.heap.objs.size f cd)) (leaving (envOfC qual scope s.heap.objs.size f cd) (.ref ex)) _ _ _;erw[a6F (L:=s.heap.objs.size) I.ok.frames (PySem.W.funFrames_hide gG oP) Z g1 hB (PySem.W.hideAll_none _ (.head _)) g4 g5 g6 λh' x1 x2=>?_];erw[ex,.ref C,some dx,del H1 ex,_,Z,I.os,I.bare,by rw[g2,g3]at x1;erw[x1],F0.step hB x1.1 x2 gG.2.2,q]
end
def JW(K:ag)(C fI:Addr)(gz:List Value)(newId:String):Bool:=match K.lookup C with |some #[.type "type",_,.cls cd,sl]=>(match cd.mro,sl.toList with | .ref C'::bm,[_,_,_,_,some (.builtin n),_]=>C'==C&&n==newId&& !cd.hasDel&&PySem.W.tailIn K gz bm&&PySem.W.nsOkIn K cd.ns&&(PySem.W.nsIn K cd.ns "__init__"==some (some (.ref fI))) |_,_=>false) |_=>false
structure xG(K:ag)(mg:bU)(x:Str)(C fI:Addr)(gz:List Value)(newId:String):Prop where
 at':mg x=some (.ref C)
 ok:JW K C fI gz newId=true
theorem a5g{K:ag}{h:Heap}{N:Addr}{m:bU}{n:Str}{v:Value}(X:K.In h)(G:h.Ns N m)(e:PySem.W.nsIn K N n=some (some v)):m n=some v:=by
 let(o,es,ep,ho,hd,_,hf):=G;unfold PySem.W.nsIn at e;split at e
 ·rename_i c d qB n' sl q
  let z:=X _ _ q;rw[ho]at z;cases z;cases hd;split at e
  ·rename_i en he
   cases e;rw[<-hf];unfold nsFind findBy;rw[<-Array.find?_toList,he];rfl
  ·split at e<;>cases e
 ·cases e
theorem xG.own{K:ag}{mg:bU}{C:Addr}(e:xG K mg x C fI gz newId)(X:K.In h): ∃tl N nm q bs hdct sn sub ab col dd k0 k1 k2 k3 k5 mN,h.get? C=some (excClassObj nm q C N bs tl hdct sn sub ab col dd k0 k1 k2 k3 k5 newId)/\h.Ns N mN/\mN "__init__"=some (.ref fI)/\OwnTail h gz tl:=by
 let q:=e.ok;unfold JW at q;split at q
 ·rename_i dd cd sl ho
  split at q
  ·rename_i D2 bl a0 a1 a2 a3 nn a5 hm hs
   simp only[fC,fY,M1]at q;let(((((r1,r2),BC),ht),bp),Bt):=q;subst r1 r2;let(c1,c2,c3,c4,c5,c6,c7,c8,c9,c10,c11):=cd;dsimp only at hm BC bp Bt;subst hm BC;obtain⟨l⟩:=sl;simp only at hs;subst hs;let G:=Heap.Ns.of_isNs (PySem.W.isNs_of_in X bp);erw[bl,c4,c1,c5,c2,c6,c7,c8,c9,c10,dd,a0,a1,a2,a3,a5,_,X _ _ ho,G,a5g X G Bt,PySem.W.tail_of_in X ht]
  ·cases q
 ·cases q
def fnAt(K:ag)(f:Addr):Bool:=match K.lookup f with |some o=>o.cls== .type "function" |none=>false
theorem a9z{K:ag}(X:K.In h)(e:fnAt K f=true):∃o,h.get? f=some o/\o.cls= .type "function":=by
 unfold fnAt at e;split at e
 ·rename_i o ho
  erw[o,X _ _ ho,fC.mp e]
 ·cases e
def Zn(E:XK)(C:Addr)(sp:Sp)(t:TA):TS:=λ_ O H=>t O H λvs H1=>vs.length<=sizeLine/\∀ex,H1 ex=none->sp (.ref ex::vs) (upd H1 ex (.ext (tH ex C))) (λv H2=>v= .bM/\∃dx,H2 ex=some (.ext (ng ex C dx))/\E (.ref C) (some dx) (del H2 ex)) (λ_ _ _=>False)
def pA(ex:Addr)(cls:Value)(dx:Option Addr)(h:Heap):Prop:=∃o,h.get? ex=some o/\o.cls=cls/\o.dict=dx/\∃fs,o.data= .fields fs/\fs[2]? =some .none
def ClsAt(K:ag)(C:Addr):Prop:=∀h,K.In h->∃nm q N bs tl hdct sn sub ab col dd k0 k1 k2 k3 k5 newId,h.get? C=some (excClassObj nm q C N bs tl hdct sn sub ab col dd k0 k1 k2 k3 k5 newId)
theorem xG.cls{K:ag}{mg:bU}{C:Addr}(e:xG K mg x C fI gz newId):ClsAt K C:=λh X=>by let(tl,N,nm,q,bs,hdct,sn,sub,ab,col,dd,k0,k1,k2,k3,k5,mN,hC,_):=e.own X;erw[nm,q,N,bs,tl,hdct,sn,sub,ab,col,dd,k0,k1,k2,k3,k5,newId,hC]
end _L
namespace _L
open PySem PySem.Spec PyProof.Rows PySem.W
section
variable {prog:ai}{w:World}{A:ak}{E:Value->ah->Prop}{h:Heap}{g:Array GenState}{d:Drawn}{t:Nat}{os:OsState}{K:Frag}{x C:Addr}{ox:Obj}{od:Obj}{f:Str}{v:Value}
theorem ab4{b:Bool}{Q:Value->ah->Prop}(X:K.In h)(k:pq K C)(I:InstAt h x ox C (some od))(ha:findIn K (.ref C) f=some none)(hl:lookIn f od=some (some v))(hv:handedIn v=true) (hq:Q v #[h,g,d,t+1,os]):wpAny (model prog w) A (getAttr (.ref x) f b) Q E #[h,g,d,t,os]:=by
 let L0:=I.type (M:=model prog w);let L1:=FV (M:=model prog w) X k.ga;let _L:=FV (M:=model prog w) X k.gx;let L3:=looks_find (M:=model prog w) X I (findObj_own k.is ha Z hl);let f3:=LC.ga.bind (.ref x);let J3:(Value.builtin "BaseException.__getattribute__"==Value.builtin "object.__getattribute__")=false:=by decide+kernel
 let Bp:(b&&onTheHeap (Value.builtin "BaseException.__getattribute__"))=false:=by cases b<;>rfl
 unfold getAttr getAttrBy;erw[aJ (wpAny_mkText (jI (aJ (L0.at (aJ (L1.at ?_))))))];show wpAny _ _ (if(onTheHeap (Value.ref C)&&Value.builtin "BaseException.__getattribute__"==Value.builtin "object.__getattribute__")=true then _ else _) _ _ _;rw[J3,M5,aV aA];unfold getAttrByItsOwn hookBefore;erw[aJ ?_];show wpAny _ _ (typeLookup (.ref C) "__getattr__") _ _ _;erw[_L.at (aJ (FT (jI ?_)))];unfold callGetattribute;rw[Bp,aV aA];unfold boundAndCalled;rw[f3];erw[aJ (bN (vc ?_))];erw[FX LC.ga.plain PySem.F.entry_bexc_ga (V9 X k L0 ?_)];erw[aJ (bN (aJ (bN (aJ (L0.at (aJ (L3.at ?_)))))))];erw[bN (handed_on hv hq)]
end
inductive adA(K:Frag)(f:Str)(Q:VK)(x:V)(H1:Hp):Prop |mk ex C dx fs i(_:x= .ref ex)(_:H1 ex=some (.ext (pA ex (.ref C) (some dx))))(_:H1 dx=some (.xd fs))(_:pq K C)(_:findIn K (.ref C) f=some none)(_:fs.lookup f=some (.int i))(_:Q (.int i) H1)
def Zh(K:Frag)(ta:TE)(f:Str):TE:=λO H Q=>ta O H λx H1=>adA K f Q x H1
section
variable {X:Cx}{e:Expr}{f:Str}{pos:Pos}{ta:TE}
theorem E7(K:Frag)(hK:X.K=K)(he:PE X e ta)(hb:autoParam (attributeBase e f X.env (eval e X.env)=eval e X.env) r8_._auto_1):PE X (.Attribute e f pos) (Zh K ta f):=by subst hK;intro ay s O H Q I h;erw[X8 hb (bc (he ay s O H _ I h) λu s1 #[x,H1,I1,rx,ex,C,dx,fs,i,ee,h1,h2,k,ha,hl,q]=>?_)];subst ee;obtain rfl:u=Value.ref ex:=rx;let((o,o1,o2,o3,kT,o4,o5),_,_):=(show gj X.prog X.w H1 s1.heap ex (.ext (pA ex (.ref C) (some dx)))from I1.bp ex _ h1);let(mA,n1,n2):=(show gj X.prog X.w H1 s1.heap dx (.xd fs)from I1.bp dx _ h2);let(od,e1,e2):=IC n1;let r:=n2 f;rw[hl]at r;cases em:mA f with |none=>rw[em]at r;erw[r.elim] |some v=>rw[em]at r;let(t,rfl):=(show∃t,v=Value.int i t from r);let J:InstAt s1.heap ex o C (some od):=#[o1,o2,by unfold notCls;rw[o4],by rw[o3];erw[e1]];let(hp,g,d,tk,os):=s1;erw[ab4 I1.fG k J ha (by rw[e2,em]) Z #[.int i,H1,I1.tok _,#[t,Z],q]]
inductive afj(K:Frag)(xs:List V)(H:Hp)(Q:VK):Prop |mk (ex:Addr)(C:Addr)(dx:Option Addr)(c:V)(cv:Value)(b:Bool)(_:xs=[.ref ex,c])(_:H ex=some (.ext (pA ex (.ref C) dx)))(_:pq K C)(_:ace c=some cv)(_:kitOne K (.ref C) cv=some b)(_:Q (.bl b) H)
def a2V(K:Frag):List V->Hp->VK->Prop:=λxs H Q=>afj K xs H Q
inductive afi(K:Frag)(xs:List V)(H:Hp)(Q:VK):Prop |mk (ex:Addr)(C:Addr)(p:Addr)(dx:Option Addr)(Ds:List Addr)(b:Bool)(_:xs=[.ref ex,.ref p])(_:H ex=some (.ext (pA ex (.ref C) dx)))(_:pq K C)(_:H p=some (.tup (Ds.map V.ref)))(_:kitAny K (.ref C) (Ds.map Value.ref)=some b)(_:Q (.bl b) H)
def a2U(K:Frag):List V->Hp->VK->Prop:=λxs H Q=>afi K xs H Q
theorem IT(K:Frag)(hK:X.K=K):fW X (.builtin "isinstance") (λxs H Q=>a2V K xs H Q\/a2U K xs H Q):=by
 subst hK;intro ay s O H xs us Q I r h;rcases h with⟨ex,C,dx,c,cv,b,rfl,he,k,hc,kb,q⟩|⟨ex,C,p,dx,Ds,b,rfl,he,k,hp,kb,q⟩
 ·let(u,v,rfl,rx,rc):=vals2 r
  cases(show u=Value.ref ex from rx);let hv:v=cv:=by cases c with |ref D=>cases(show v=Value.ref D from rc);erw[eQ hc] |ty n=>cases(show v=Value.type n from rc);erw[eQ hc] |_=>cases hc
  subst hv;let(o,o1,o2,_):=(I.bp ex _ he).1;erw[kia_one (Uc k) I.fG #[o,o1,o2] kb (λz=>nomatch z) λtk=>#[.bl b,H,I.tok _,rfl,q]]
 ·let(u,v,rfl,rx,rc):=vals2 r
  cases(show u=Value.ref ex from rx);cases(show v=Value.ref p from rc);let(o,o1,o2,_):=(I.bp ex _ he).1;let(_,its,rv,(cls,dd,dt,sl),h1,h2,n,h3):=(show gj X.prog X.w H s.heap p (.tup (Ds.map V.ref))from I.bp p _ hp);simp only at h2 h3;subst h2 h3;let e:=Me rv;subst e;erw[kia_tup (Uc k) I.fG #[o,o1,o2] h1 kb (λz=>nomatch z) λtk=>#[.bl b,H,I.tok _,rfl,q]]
end
end _L
namespace _L
open PySem PySem.Spec PyProof.Rows
def FK(P:ai)(w:World)(K:ag)(mg:bU)(aD:Heap)(x:Str)(k:Nat)(sp:Sp):Prop:=∃f fd ps,iq P w K mg aD (xH P w) k f fd ps sp/\mg x=some (.ref f)/\PySem.W.keepIn K (.ref f)=true/\Binds K fd ps []
theorem FA.a8C{P:ai}{w:World}{K:ag}{mg:bU}{aD:Heap}{x:Str}{st:Stmt}{N ps:List Str}{k:Nat}{sp:Sp}(F:FA K mg x st)(S:bu N ps (aX st))(len:∀vs H Q E,sp vs H Q E->vs.length=ps.length) (hb:∀(kV doc pm:Value)(an:Option Addr)(aM ct:Value)(us:List Value),us.length=ps.length->bindArgs (PySem.W.fnOf x x (m5 st) (gS st) (aX st) .none kV doc pm an aM ct) #[us,[]]=pure (ps.zip us)) (jk:∀(f:Addr)(aM:Value)(A:ak)(outer:List Env)(s:ah)(H:Hp)(vs:List V)(Q:VK)(E:XK),df k (A.deeper (envOfC x (aX st) s.heap.objs.size f aM))->sp vs H Q E->∃t,ip (jn (xH P w) P w K mg aD N x (aX st) f aM A outer s H E) (gS st) t/\t {nx:=λ_ H'=>Q .bM H',rt:=Q} (start N vs) H):FK P w K mg aD x (k+1) sp:=by let(f,fd,hm,F):=F.ex;let sP:=F.binds hb;let kp:=F.kp;let(oc,od,kV,doc,pm,an,aM,ct,gc,rfl,lk,fU):=F.ex;erw[f,_,ps,Vh lk fU S len λA outer s H vs Q E hr iJ=>jk f aM A outer s H vs Q E hr iJ,hm,kp,sP]
theorem acf{K:ag}{mg:bU}{C:Addr}(X:K.In h)(G:h.Ns mainGlobals mg)(a:PySem.W.nsIn K mainGlobals x=some (some (.ref C)))(k:JW K C fI gz newId=true):xG K mg x C fI gz newId:=#[xM X G a,k]
structure pj(k:Nat)(A:ak):Prop where
 dp:A.depth+3*k+5<recursionLimit
 un:A.units+16*k+200<cLine
theorem pj.mono(r:pj k A)(h:j<=k):pj j A:=#[by have:=r.dp;lia,by have:=r.un;lia]
theorem df.mark(r:df k A)(v:Option Value):pj k (A.mark v):=#[r.dp,r.un]
theorem pj.deeper(r:pj (k+1) A)(env:Env):pj k (A.deeper env):=#[by have:=r.dp;show A.depth+1+3*k+5<_;lia,by have:=r.un;show A.units+3+16*k+200<_;lia]
abbrev Kp(P:ai)(w:World)(K:ag)(mg:bU)(aD:Heap)(N:List Str)(qual:Str)(scope:Scope)(f:Addr)(cd:Value)(A:ak)(outer:List Env)(s:ah)(H:Hp):Cx:={(jn iM P w K mg aD N qual scope f cd A outer s H (λ_ _ _=>False))with calm:=false,xe:=λ_ _=>False}
def XF(P:ai)(w:World)(K:ag)(mg:bU)(aD:Heap)(k:Nat)(f:Addr)(fd:FuncData)(ps:List Str)(sp:Sp):Prop:=(∀vs H Q E,sp vs H Q E->vs.length=ps.length)/\∀(A:ak)(outer:List Env)(s:ah)(H:Hp)(args:Args)(us:List Value)(vs:List V)(Q:VK),pj k A->tI P w K mg aD A outer s H->BindsTo s fd args (ps.zip us)->Vals vs us->sp vs H Q (λ_ _ _=>False)->codeAny (model P w) A (.call (.ref f) args) (λr s'=>match r with| .ok (.ret u)=>CE outer P w H s Q u s'|_=>False) s
theorem a9x{P:ai}{w:World}{K:ag}{mg:bU}{aD:Heap}{kV:Value}(lk:K.lookup f=some #[oc,od,.func (PySem.W.fnOf name qual params body scope dV kV doc pm an aM ct),gc])(fU:PySem.W.codeIn K aM qual=true)(S:bu N ps scope)(len:∀vs H Q E,sp vs H Q E->vs.length=ps.length) (jk:∀(A:ak)(outer:List Env)(s:ah)(H:Hp)(vs:List V)(Q:VK),pj k (A.deeper (envOfC qual scope s.heap.objs.size f aM))->sp vs H Q (λ_ _ _=>False)->∃t,ip (Kp P w K mg aD N qual scope f aM A outer s H) body t/\t {nx:=λ_ H'=>Q .bM H',rt:=Q} (start N vs) H): XF P w K mg aD (k+1) f (PySem.W.fnOf name qual params body scope dV kV doc pm an aM ct) ps sp:=by
 erw[len,λA outer s H args us vs Q hr e0 hb r iJ=>?_];let hl:=len _ _ _ _ iJ;let KX:K.In s.heap:=e0.mod.qe.keeps λb o e=>(e0.bs b o e).1;let lim:s.heap.NoLimit:=e0.mod.nolimit.keeps λb o e=>(e0.bs b o e).1;let hk:∀y∈ps.zip us,scope.names.lookup y.1=some .local\/(scope.names.lookup y.1=some .cell/\((cellsFrom (s.heap.objs.size+1) scope.names []).lookup y.1).isSome=true):=λ#[n,v] hy=>by
  rcases S.par n (zM hy).1 with q|q
  ·erw[.inl q]
  ·erw[.inr #[q,Lz _ _ _ (.inl q)]]
 erw[XU (by have:=hr.dp;lia) (KX _ _ lk) Z S.co S.gen Z (Y2 KX fU) (hb _ _ _ _ ?_)];erw[XO S.kind hk λenv he s1 x=>?_];subst he;erw[lim.keeps x.toInCall.keep,codeAny_func ?_];let(t,ht,hq):=jk A outer s H vs Q (hr.deeper _) iJ;let e1:tI P w K mg aD {A with handled:=none} outer s H:=#[e0.frames,e0.mod,e0.bs,e0.mY,e0.kD,e0.oW,e0.bp,e0.bare];let I:=IW (CX:=iM) (A:={A with handled:=none}) (E:=λ_ _ _=>False) S rfl e1 hl r x;let J:Inv (Kp P w K mg aD N qual scope f aM A outer s H) [] (start N vs) H s1:=#[#[I.ok.mod,I.ok.kind,I.ok.glob,I.ok.blt,I.ok.above,I.ok.inj,I.ok.has,I.ok.uR,λh=>(jt h).elim,Around.frames_deeper e0.frames,I.ok.vz,I.ok.BR,I.ok.bs,I.ok.mY,I.ok.uu,I.ok.qA,I.ok.kD,I.ok.oW],I.os,I.bare,I.aD,I.loc,I.cell,I.free,I.kW,I.pin,I.bp,I.len];erw[fM (ht [] s1 (start N vs) H _ J hq) (λfl s' hs=>?_) λe s' hs=>hs.elim];cases fl with |ret u=>let(v,σ',H',J',rv,q):=hs;erw[v,H',J'.os,J'.bare,J'.aD,J'.bp,rv,q] |next=>let(σ',H',J',q):=hs;erw[V.bM,H',J'.os,J'.bare,J'.aD,J'.bp,Z,q] |brk=>let(_,_,_,q):=hs;erw[False.elim q] |cont=>let(_,_,_,q):=hs;erw[False.elim q]
def Lk(P:ai)(w:World)(K:ag)(mg:bU)(aD:Heap)(x:Str)(k:Nat)(sp:Sp):Prop:=∃f fd ps,XF P w K mg aD k f fd ps sp/\mg x=some (.ref f)/\PySem.W.keepIn K (.ref f)=true/\Binds K fd ps []
theorem FA.a8B{P:ai}{w:World}{K:ag}{mg:bU}{aD:Heap}{x:Str}{st:Stmt}{N ps:List Str}{k:Nat}{sp:Sp}(F:FA K mg x st)(S:bu N ps (aX st))(len:∀vs H Q E,sp vs H Q E->vs.length=ps.length) (hb:∀(kV doc pm:Value)(an:Option Addr)(aM ct:Value)(us:List Value),us.length=ps.length->bindArgs (PySem.W.fnOf x x (m5 st) (gS st) (aX st) .none kV doc pm an aM ct) #[us,[]]=pure (ps.zip us)) (jk:∀(f:Addr)(aM:Value)(A:ak)(outer:List Env)(s:ah)(H:Hp)(vs:List V)(Q:VK),pj k (A.deeper (envOfC x (aX st) s.heap.objs.size f aM))->sp vs H Q (λ_ _ _=>False)->∃t,ip (Kp P w K mg aD N x (aX st) f aM A outer s H) (gS st) t/\t {nx:=λ_ H'=>Q .bM H',rt:=Q} (start N vs) H):Lk P w K mg aD x (k+1) sp:=by let(f,fd,hm,F):=F.ex;let sP:=F.binds hb;let kp:=F.kp;let(oc,od,kV,doc,pm,an,aM,ct,gc,rfl,lk,fU):=F.ex;erw[f,_,ps,a9x lk fU S len λA outer s H vs Q hr iJ=>jk f aM A outer s H vs Q hr iJ,hm,kp,sP]
section
variable {X:Cx}{k:Nat}{x:Str}{p pos:Pos}{e:Expr}{es:List Expr}{t:TA}{sp:Sp}
def ZI(sp:Sp)(t:TA):TE:=λO H Q=>t O H λvs H1=>sp vs H1 Q (λ_ _ _=>False)
theorem S5(F:Lk X.prog X.w X.K X.mg X.aD x k sp)(hr:pj k X.A)(hg:Gl X x)(ha:PA X (e::es) t)(jj:autoParam ((x==("__debug__":Str))=false) q8_._auto_1) (he:autoParam (starEach (e::es) X.env=(false,eval e X.env)::starEach es X.env) r8_._auto_1)(gy:autoParam ((backTo pos (starEach es X.env)).any (·.1)=false) r8_._auto_1):PE X (.Call (.Name x p) (e::es) [] pos) (ZI sp t):=by
 let(f,fd,ps,F,hm,hk,hb):=F;intro ay s O H Q I h;erw[CM (wo I hg hm ?_ jj)];erw[G4 (h₀:=X.aD) I.ok.mod.qe hk (bc (ha pos ay s O H _ I h) λus s1 #[vs,H1,I1,r,q]=>#[I1.fG,?_]) he gy];let hl:(us++[]).length=ps.length:=by rw[lJ,<-r.length];erw[F.1 _ _ _ _ q]
 let bt:=hb s1 us I1.fG hl;rw[lJ]at bt;erw[vc (xK (F.2 X.A X.stack s1 H1 #[us,[]] us vs Q hr I1.BW bt r q) λr s' hq=>?_)];cases r with |error e=>erw[hq.elim] |ok fl=>cases fl with |ret u=>erw[I1.after hq] |next=>erw[hq.elim] |brk=>erw[hq.elim] |cont=>erw[hq.elim]
end
end _L
namespace _L
open PySem PySem.Spec PyProof.Rows
open Builtin Builtin.ObjectAttr
section
variable {prog:ai}{w:World}{A:ak}{E:Value->ah->Prop}{s:ah}{K:ag}{x C dx:Addr}{ox:Obj}{fs:Array Value}{name:Str}{v:Value}{Q:Unit->ah->Prop}{mA:bU}{ks:List Str}
theorem a1s(X:K.In s.heap)(hx:s.heap.get? x=some ox)(hc:ox.cls= .ref C)(hd:ox.dict=some dx)(hf:ox.data= .fields fs)(hn:s.heap.Ns1 dx mA)(hw:PySem.Within mA ks)(hz:ks.length<1000) (hs:PySem.W.findIn K (.ref C) "__setattr__"=some (some (.builtin "object.__setattr__")))(hp:HP K C=true)(ht:PySem.W.takerIn K C name=some none)(hh:PySem.W.hasDictIn K C=true) (h:∀h',h'.Ns1 dx (λy=>if y=name then some v else mA y)->Heap.SameBut dx s.heap h'->Q () {s with heap:=h',toks:=s.toks+2}):wpAny (model prog w) A (setAttr (.ref x) name v) Q E s:=by
 let(oD,Jc,_):=IC hn;let I:PySem.W.InstAt s.heap x ox C (some oD):=#[hx,hc,by unfold PySem.W.notCls;rw[hf],by rw[hd];erw[Jc]];erw[XZ X I hs ?_];let S0:=PySem.F.store_object;let(cd,fU,ho):=G6 hp;let ne:cd.mro.isEmpty=false:=by cases q:cd.mro with|nil=>rw[q]at ho;simp[pP,tR]at ho|cons _ _=>rfl
 let sub:PySem.W.Looks (model prog w) s.heap (isInstance (.ref x) (.type "object")) true:=I.type.andThen (PySem.W.looks_mroIn X (by unfold PySem.W.mroIn;rw[fU,Option.bind_some,aV (by rw[ne];decide),UT aA ho]));erw[FX S0.slot.plain S0.entry (@PySem.W.check_slot (model prog w) _ _ {s with toks:=s.toks+1} "object.__setattr__" "object" "__setattr__" (.ref x) [.str name s.toks,v] [] _ S0.kind S0.split sub (S0.args (.ref x) (.str name s.toks) v) ?_)];let(qK,ha,hr):=Y9.mp ht;let hm:PySem.W.Looks (model prog w) s.heap (mroOf (.ref C)) cd.mro:=(G3 X fU).andThen .now;let L3:PySem.W.Looks (model prog w) s.heap (storeTaker? qK) none:=by cases qK with |none=>erw[.now] |some a=>let(b,hb,e):=zJ.mp hr;refine(PySem.W.looks_takesIn X hb).andThen ?_;cases b with |false=>erw[.now] |true=>cases e
 rw[PySem.W.osa_eq,refuse_eq];erw[aJ (aJ (om (s:={s with toks:=s.toks+1}) I.type (aJ (om (s:={s with toks:=s.toks+1}) hm ?_))))];rw[RF _ ho];erw[bN (aJ (om (s:={s with toks:=s.toks+1}) I.type (aJ (om (s:={s with toks:=s.toks+1}) (Y1 X ha) (aJ (om (s:={s with toks:=s.toks+1}) L3 ?_))))))];let(cd2,iU,hd2):=G6 hh;erw[aJ (bN (aJ (aJ (Lo (s:={s with toks:=s.toks+1}) hx ?_))))];rw[hc];erw[aJ (om (s:={s with toks:=s.toks+1}) (G3 X iU) ?_)];rw[hd2,hd];rw[aV aA];erw[bN (a:=some dx) ?_];show wpAny _ _ (storeInDict dx (.str name s.toks) name v) _ _ _;unfold storeInDict newKeyGuard;erw[aJ (bN (aJ (wpAny_nsSet1 hn λh2 n2 sb=>?_)))];let(o2,es2,ep2,e1,e2,e3):=n2.count (XY name v hw);erw[aJ (wpAny_lookBehind e1 (by rw[e2];erw[pastItsLine_dict (gY e3 (by rw[kh,FU];lia))]) ?_)];erw[bN (h h2 n2 sb)]
end
inductive af2(K:ag)(f:Str)(D:Ends)(O:St)(y:V)(x:V)(H2:Hp):Prop |mk ex C dx fs(_:x= .ref ex)(_:H2 ex=some (.ext (ng ex C dx)))(_:H2 dx=some (.xd fs))(_:zo K C f)(_:fs.length<1000)(_:D.nx O (upd H2 dx (.xd (iP f y fs))))
def a1I(K:ag)(ta tv:TE)(f:Str):TS:=λD O H=>tv O H λy H1=>ta O H1 λx H2=>af2 K f D O y x H2
section
variable {X:Cx}{o e value:Expr}{f:Str}{pos pos' tT:Pos}{ta tv:TE}
theorem a39(K:ag)(hK:X.K=K)(ha:PE X o ta)(hv:PE X value tv)(hs:autoParam (swapsWith value (some (.Attribute o f pos')) pos.line X.env=pure false) r8_._auto_1):PS X (.Assign [.Attribute o f pos'] value pos) (a1I K ta tv f):=by
 subst hK;intro ay s O H D I h;erw[XS (bc (hv ay s O H _ I h) λu s1 #[y,H1,I1,ry,q]=>bc (ha ay s1 O H1 _ I1 q) λov s2 #[x,H2,I2,rx,ex,C,dx,fs,e1,ee,ed,xc,hl,q2]=>?_) hs];subst e1;obtain rfl:ov=Value.ref ex:=rx;let((ob,vs,g1,g2,g3,g4,g5,g6),_,_):=(show gj X.prog X.w H2 s2.heap ex (.ext (ng ex C dx))from I2.bp ex _ ee);let(mA,n1,n2):=(show gj X.prog X.w H2 s2.heap dx (.xd fs)from I2.bp dx _ ed);let hw:PySem.Within mA (fs.map (·.1)):=λg hg=>by cases e:fs.lookup g with
  |none=>let r:=n2 g;rw[e]at r;cases em:mA g with |none=>erw[absurd em hg] |some _=>rw[em]at r;erw[r.elim]
  |some z=>erw[gC.mpr #[(g,z),lookup_mem e,Z]]
 erw[a1s I2.fG g1 g2 g3 g4 n1 hw (by rw[bB];erw[hl]) xc.sa xc.ov xc.tk xc.hd λh' k1 k2=>?_];let keep:∀b u,b≠dx->s2.heap.get? b=some u->h'.get? b=some u:=λb u nb z=>(k2.2 b nb).trans z;let nd:∀b,H2 b=none->b≠dx:=λb z y=>by rw[y,ed]at z;cases z
 let(oD,_,_,eD,_):=id k1;let un:Un X.fs [] H2 (upd H2 dx (.xd (iP f y fs))) s2.heap h':=by
  erw[λb o z n _ _=>keep b o (nd b n) z,λb o z n _ _=>#[o.slots,keep b o (nd b n) z],λb o z n _=>by rw[aU (nd b n)];erw[n],λb o z _=>?_,λb xs z=>?_,λb o u z=>?_,λb ps z=>#[#[],?_]]
  ·by_cases hb:b=dx
   ·rw[hb];erw[oD,eD]
   ·erw[o,keep b o hb z]
  ·rw[aU (λy=>by rw[y,ed]at z;cases z)];erw[z]
  ·rw[aU (λy=>by rw[y,ed]at z;cases z)];erw[z]
  ·rw[aU (λy=>by rw[y,ed]at z;cases z),Array.append_empty];erw[z]
 let bp:fb X.prog X.w (upd H2 dx (.xd (iP f y fs))) h':=λb u z=>by
  by_cases hb:b=dx
  ·subst hb
   rw[bP]at z;cases z;erw[_,k1,λg=>?_];rw[IB];by_cases hg:g=f
   ·rw[aQ hg,aQ hg];erw[ry]
   ·rw[aV hg,aV hg];erw[n2 g]
  ·rw[aU hb]at z
   refine(I2.bp b u z).ny (λc v hc y=>keep c v ?_ y) (λc y=>?_) λc xs y=>?_
   ·rcases hc with rfl|hc
    ·erw[hb]
    ·intro y;rw[y,ed]at hc;cases hc
   ·rw[aU (λy'=>by rw[y',ed]at y;cases y)];erw[y]
   ·rw[aU (λy'=>by rw[y',ed]at y;cases y)];erw[y]
 erw[O,_,I2.un (t':=s2.toks+2) un bp,q2]
end
end _L
namespace _L
open PySem PySem.Spec PyProof.Rows
section
variable {X:Cx}{x:Str}{C fI:Addr}{gz:List Value}{newId yP B:String}{e e2:Expr}{t:TA}{np dZ pos:Pos}{k:Nat}{fd:FuncData}{ps:List Str}{sp:Sp}
theorem yg(hx:∀ay O H s ex dx,Inv X ay O H s->H ex=some (.ext (ng ex C dx))->X.s₀.heap.objs.size<=ex->E (.ref C) (some dx) (del H ex)->X.xe (.ref ex) s) (EC:xG X.K X.mg x C fI gz newId)(FB:ExcBaseFacts B newId yP gz)(hh:X.A.handled=none)(F:iq X.prog X.w X.K X.mg X.aD iM k fI fd ps sp)(hr:df (k+1) X.A)(hb:Binds X.K fd ps [])(hf:fnAt X.K fI=true)(hg:Gl X x)(ha:PA X [e,e2] t) (he:autoParam (starEach [e,e2] X.env=[(false,eval e X.env),(false,eval e2 X.env)]) r8_._auto_1)(hd:autoParam ((x==("__debug__":Str))=false) q8_._auto_1): PS X (.Raise (some (.Call (.Name x np) [e,e2] [] dZ)) none pos) (Zn E C sp t):=by
 intro ay s O H D I h;let(tl,Nn,nm,q,bs,hdct,sn,sub,ab,col,dd,k0,k1,k2,k3,k5,mN,hC,hN,hi,T):=EC.own I.ok.mod.qe;let hA:=ha dZ ay s O H _ I h;rw[arm_exec_Raise];erw[aJ (pC (a2N (C:=C) (nm:=nm) (q:=q) (N:=Nn) (bs:=bs) (bm:=tl) (hdct:=hdct) (sn:=sn) (sub:=sub) (ab:=ab) (col:=col) (dd:=dd) (k0:=k0) (k1:=k1) (k2:=k2) (k3:=k3) (k5:=k5) (newId:=newId) (T.hasType FB.hasBase) hh (aJ (fM (wpAny_Call_ofName (wo I hg EC.at' ?_ hd)) (λv s3 h3=>aJ (pC (bN h3))) λ_ _ z=>z))))];unfold callWith;rw[he]at hA⊢;erw[aJ (jI (fM (Calls.evalArgs_plain (Q:=λ(a:Args) s2=>a.kw=[]/\AP X ay O (λvs H1=>vs.length<=sizeLine/\∀ex,H1 ex=none->sp (.ref ex::vs) (upd H1 ex (.ext (tH ex C))) (λv H2=>v= .bM/\∃dx,H2 ex=some (.ext (ng ex C dx))/\E (.ref C) (some dx) (del H2 ex)) (λ_ _ _=>False)) a.pos s2) (bc hA λus s2 z=>#[Z,z])) (λa s2 z=>aJ (pC ?_)) λ_ _ z=>z))];let(us,akw):=a;let(hkw,vs,H1,I1,r1,z1,w1):=z;obtain rfl:akw=[]:=hkw;let C2:=I1.bk _ _ hC;let T2:=T.keeps I1.bk;let N2:=hN.keeps I1.bk;let(oI,f1,f2):=a9z I1.fG hf;let lus:us.length<=sizeLine:=by rw[<-r1.length];erw[z1]
 let(hp,g,d,tk,os):=s2;rw[show(backTo dZ [(false,eval e X.env),(false,eval e2 X.env)]).any (·.1)=false from rfl];erw[aJ (wpAny_keeperOf_exc C2 ?_)];let I1':Inv X ay O H1 #[oZ hp C us,g,d,tk,os]:=I1.kept (t':=tk) (h':=oZ hp C us) λb u e=>zc e;let xa:=Vr (h:=hp) (C:=C) (rest:=us);let fx:H1 (hp.objs.size+1)=none:=I1.bp.fresh (G8 _);let I2:Inv X ay O (upd H1 (hp.objs.size+1) (.ext (tH (hp.objs.size+1) C))) #[oZ hp C us,g,d,tk,os]:=by erw[I1.laid (a:=hp.objs.size+1) (o:=.ext (tH (hp.objs.size+1) C)) (h':=oZ hp C us) (t':=tk) (λb u e=>zc e) (G8 _) ?_];erw[#[_,_,xa,Z,Z,Z,Z,Z],#[_,xa],λh1 h2 #[vU,kT,y1,y2] k=>#[vU,kT,k _ y1,y2]]
 let hq:=w1 (hp.objs.size+1) fx;let r2:Vals (V.ref (hp.objs.size+1)::vs) (Value.ref (hp.objs.size+1)::us):=.cons Z r1;let hl:(Value.ref (hp.objs.size+1)::us++[]).length=ps.length:=by let e:=r2.length;rw[F.len _ _ _ _ hq]at e;rw[lJ];erw[e.symm]
 let bt:=hb #[oZ hp C us,g,d,tk,os] (Value.ref (hp.objs.size+1)::us) I2.fG hl;rw[lJ]at bt;erw[aJ (acx FB T2 C2 N2 hi f1 f2 lus (vc (xK (F.run _ X.stack _ _ #[Value.ref (hp.objs.size+1)::us,[]] (Value.ref (hp.objs.size+1)::us) _ _ (λ_ _ _=>False) (hr.make C us []) (I2.BW.make C us []) bt r2 hq) λr s' ji=>?_)))];cases r with |error e=>erw[False.elim ji] |ok fl=>cases fl with |ret u=>let(v,H',I3,rv,ev,dx,ed,q3):=I2.after ji;subst ev;erw[rv,aJ (jI (wpAny_point (bN ?_)))];let((ob,fs,g1,g2,g3,g4,g5,g6),_,_):=(show gj X.prog X.w H' s'.heap _ (.ext (ng (hp.objs.size+1) C dx))from I3.bp _ _ ed);erw[_,ob,fs,Z,I3.bk _ _ hC,g1,g2,g4,g5,hx ay O H' s' _ dx I3 ed (gY I1.sz (G8 _)) q3] |next=>erw[False.elim ji] |brk=>erw[False.elim ji] |cont=>erw[False.elim ji]
end
theorem qN.Wq{X:Cx}{st:Stmt}{rest:List Stmt}{t u:TS}(h1:PS X st t)(h2:qN X rest u):qN X (st::rest) (Gv t u):=by intro s O H D I h;erw[Lq (fM (h1 [] s O H _ I h) (λf s1 q=>?_) λ_ _ x=>x)];cases f with |next=>let(σ',H',I',q'):=q;erw[h2 s1 σ' H' D I' q'] |brk=>erw[q] |cont=>erw[q] |ret v=>erw[q]
def FD(CX:lC)(X:Cx)(E:St->XK):Prop:=∀(ay:List (Addr×Obj))(O:St)(H:Hp)(s:ah)(e:Value)(s':ah),Inv X ay O H s->CX X.stack H s (E O) e s'->X.xe e s'
section
variable {X:Cx}{CX:lC}{k:Nat}{f:Addr}{fd:FuncData}{ps:List Str}{sp:Sp}{dvs:List V}{ds:List Value}{E:St->XK}{x:Str}{p pos:Pos}{e:Expr}{es:List Expr}{t:TA}
theorem a28{ay:List (Addr×Obj)}{O:St}{H:Hp}{s:ah}{Q:VK}{us:List Value}{vs:List V}(F:iq X.prog X.w X.K X.mg X.aD CX k f fd ps sp)(hr:df k X.A)(hb:Binds X.K fd ps ds)(hd:Vals dvs ds)(hx:FD CX X E)(I:Inv X ay O H s)(r:Vals vs us)(h:sp (vs++dvs) H Q (E O)):wpAny (model X.prog X.w) X.A (call (.ref f) us) (EP X ay O Q) X.xe s:=by
 let r2:Vals (vs++dvs) (us++ds):=r.append hd;let hl:(us++ds).length=ps.length:=by rw[<-r2.length];erw[F.len _ _ _ _ h]
 erw[vc (xK (F.run X.A X.stack s H #[us,[]] (us++ds) (vs++dvs) Q (E O) hr I.BW (hb s us I.fG hl) r2 h) λr s' hq=>?_)];cases r with |error e=>erw[hx ay O H s e s' I hq] |ok fl=>cases fl with |ret u=>erw[I.after hq] |next=>erw[False.elim hq] |brk=>erw[False.elim hq] |cont=>erw[False.elim hq]
def ZH(sp:Sp)(E:St->XK)(t:TA):TE:=λO H Q=>t O H λvs H1=>sp vs H1 Q (E O)
theorem a3D(F:FK X.prog X.w X.K X.mg X.aD x k sp)(hp:FD (xH X.prog X.w) X E)(hr:df k X.A)(hg:Gl X x)(ha:PA X (e::es) t)(jj:autoParam ((x==("__debug__":Str))=false) q8_._auto_1) (he:autoParam (starEach (e::es) X.env=(false,eval e X.env)::starEach es X.env) r8_._auto_1)(gy:autoParam ((backTo pos (starEach es X.env)).any (·.1)=false) r8_._auto_1): PE X (.Call (.Name x p) (e::es) [] pos) (ZH sp E t):=by let(f,fd,ps,F,hm,hk,hb):=F;intro ay s O H Q I h;erw[CM (wo I hg hm ?_ jj)];erw[G4 (h₀:=X.aD) I.ok.mod.qe hk (bc (ha pos ay s O H _ I h) λus s1 #[vs,H1,I1,r,q]=>#[I1.fG,?_]) he gy];erw[a28 (dvs:=[]) (ds:=[]) F hr hb .nil hp I1 r (by rw[lJ];erw[q])]
end
inductive adC(i:Nat)(Cs:Addr->Prop)(tb:(St->XK)->TS)(th:TS)(D:Ends)(O:St)(H:Hp):Prop |mk (E:St->XK)(_:tb E D O H)(_:(∀σ' cls dx H',E σ' cls dx H'->∃C,cls= .ref C/\Cs C))(_:∀(C ex:Addr)(dx:Option Addr)(σ':St)(H':Hp),σ'.length=O.length->E σ' (.ref C) dx H'->H' ex=none->th {nx:=λσ2 H2=>D.nx (σ2.set i none) H2,rt:=D.rt,bk:=λσ2 H2=>D.bk (σ2.set i none) H2,ct:=λσ2 H2=>D.ct (σ2.set i none) H2} (σ'.set i (some (.ref ex))) (upd H' ex (.ext (pA ex (.ref C) dx))))
def Zk(i:Nat)(Cs:Addr->Prop)(tb:(St->XK)->TS)(th:TS):TS:=λD O H=>adC i Cs tb th D O H
section
variable {X:Cx}{i:Nat}{n y:Str}{Dc:Addr}{Fs:List Value}{newD:String}{body A8:List Stmt}{b0:Stmt}{np uD pos:Pos}{tb:(St->XK)->TS}{th:TS}{Cs:Addr->Prop}
theorem a3b(gG:X.stack=X.env::X.outer)(hfr:X.env.frame=some X.env.locals)(hN:X.N.Nodup)(hi:X.N[i]? =some n)(hk:X.env.kindOf n=some .local)(hs:X.env.scope.names.lookup n=some .local) (hb:∀(E:St->XK)(xe:Value->ah->Prop),FD (xH X.prog X.w) (X.lL xe) E->ip (X.lL xe) body (tb E)) (hg:Gl X y)(hy:Exc X.K X.mg y Dc Fs newD)(Jo:Fs.contains (.type "BaseException")=true)(Js:∀C,Cs C->ClsAt X.K C/\takes X.K C Dc) (hh:∀ex,ip (X.hand ex) (b0::A8) th)(jj:autoParam ((y==("__debug__":Str))=false) q8_._auto_1): Xs X (.Try body [.ExceptHandler (some (.Name y np)) (some n) (b0::A8) uD] [] [] pos) (Zk i Cs tb th):=by
 intro s O H D I h;let(E,hq,fT,hth):=h;erw[wpAny_Try_except ?_];let ps:FD (xH X.prog X.w) (X.lL λe s₁=>wpAny (model X.prog X.w) X.A (noteFrame e X.env) (λ_ s₂=>wpAny (model X.prog X.w) X.A (setFlight e none) (λ_ s₃=>wpAny (model X.prog X.w) X.A (handleBy e X.env [.ExceptHandler (some (.Name y np)) (some n) (b0::A8) uD]) (SP X [] D) X.xe s₃) X.xe s₂) X.xe s₁) E:=by
  intro HM σ' H1 s1 ev s2 I1 hx;let(ex,cls,dx,H',B,rfl,ho,UL,JA,F,hE):=hx;let(C,rfl,hC):=fT σ' cls dx H' hE;let I0:Inv X [] σ' H1 s1:=I1.pF.acO;let(Uy,g2,d2,t2,o2):=s2;let a9A:pk B (X.env::X.outer) ex (.ref C) dx .none Uy:=by rw[<-gG];erw[JA]
  let hA:X.A.frames=some (X.env::X.outer):=by rw[<-gG];erw[I0.ok.frames]
  erw[a5l (s:=#[Uy,g2,d2,t2,o2]) hA hfr a9A λh4 EW YO=>?_];erw[JB EW λh5 BQ YN=>?_];let F4:=F.step JA.1 EW.1 YO JA.2.2.1;let ff4:h4.FunFrames B X.stack:=by rw[gG];erw[EW.2.2.1]
  let F5:=F4.step EW.1 BQ.1 YN ff4;let ff5:h5.FunFrames B X.stack:=by rw[gG];erw[BQ.2.2.1]
  let I5:Inv X [] σ' H' #[h5,g2,d2,t2,o2]:=I0.Cp (s':=#[h5,g2,d2,t2,o2]) ho F5.un F5.bp UL (λb hb=>(gk hb).elim);erw[wpAny_handleBy_cons (codeAny_handlers_test (wo (X:=X.hand ex) (I5.hand ex) hg hy.at' ?_ jj)) (by intro q;cases q)];let(eC,tk):=Js C hC;let(nm,q,Nn,bs,tl,hdct,sn,sub,ab,col,dd,k0,k1,k2,k3,k5,nw,oC):=eC _ I5.fG;let(tl',Nn',SX,q',WC,UN,Ni,MJ,Xh,Wx,Wi,j0,j1,j2,j3,j5,mN',oD,ah1,agM,TL'):=(hy.own I5.fG).obj;let(ob,hob,a7L,_):=BQ.there;let J8:(Value.ref C::tl).contains (.ref Dc)=true:=by
   let(cd,ha,wI):=Y9.mp tk;split at wI
   ·cases wI
   ·let hc:=eQ wI
    unfold PySem.W.clsIn at ha;split at ha
    ·rename_i c1 c2 cd' c4 hl
     cases ha;let e1:=I5.fG _ _ hl;rw[show(Shared.heap #[h5,g2,d2,t2,o2]).get? C=some _ from oC]at e1;let e2:=eQ e1;unfold excClassObj at e2;injection e2 with _ _ e3 _;injection e3 with e4;rw[<-e4]at hc;erw[hc]
    ·cases ha
  erw[ab2 oC oD hob a7L (TL'.hasType Jo) J8 ?_];erw[codeAny_handlers_suite_as ?_];erw[JB (s:=#[h5,g2,d2,t2,o2]) BQ λh6 Vi YM=>?_];let F6:=F5.step BQ.1 Vi.1 YM ff5;let YU:Un (fV X.stack) [] H1 (upd H' ex (.ext (pA ex (.ref C) dx))) s1.heap h6:=by
   let nb:∀b u,H' b=some u->b≠ex:=λb u e z=>by rw[z,F6.ne]at e;cases e
   erw[F6.un.keep,F6.un.slot,λb o e n hx=>?_,F6.un.there,λb xs e=>?_,λb o u e=>?_,λb ps e=>?_]
   ·rw[aU (λz=>by rw[z,F6.nw]at e;cases e)];erw[F6.un.free b o e n hx]
   ·have:=F6.un.lM b xs e;rw[aU (nb b _ this)];erw[this]
   ·have:=F6.un.kU b o u e;rw[aU (nb b _ this)];erw[this]
   ·let(more,e1):=F6.un.lO b ps e;erw[more,by rw[aU (nb b _ e1)];erw[e1]]
  let a7I:fb X.prog X.w (upd H' ex (.ext (pA ex (.ref C) dx))) h6:=λb u e=>by
   by_cases UP:b=ex
   ·subst UP
    rw[bP]at e;cases e;let(o6,e6,c6):=Vi.there;erw[#[o6,e6,c6],#[o6,e6],λg1 g3 #[o7,e7,c7] k=>#[o7,k o7 e7,c7]]
   ·rw[aU UP]at e
    refine(F6.bp b u e).ny (λc v hc q=>q) (λc q=>?_) λc xs q=>?_
    ·rw[aU (λz=>by rw[z,F6.ne]at q;cases q)];erw[q]
    ·rw[aU (λz=>by rw[z,F6.ne]at q;cases q)];erw[q]
  let I6:Inv X [] σ' (upd H' ex (.ext (pA ex (.ref C) dx))) #[h6,g2,d2,t2,o2]:=I0.Cp (s':=#[h6,g2,d2,t2,o2]) ho YU a7I UL (λb hb=>(gk hb).elim);erw[xX (X:=X.hand ex) (I6.hand ex) hN hi (.inl hs) (v:=.ref ex) Z (λs7 I7=>?_) (.inr hs)];erw[fM (hh ex [] s7 _ _ _ I7 (hth C ex dx σ' H' (I0.len.trans I.len.symm) hE F.ne)) (λf s8 q=>?_) λe s8 q=>False.elim q];let un:∀(σ2:St)(H2:Hp)(Q:Unit->ah->Prop),Inv (X.hand ex) [] σ2 H2 s8->(∀s9,Inv X [] (σ2.set i none) H2 s9->Q () s9)->wpAny (model X.prog X.w) X.A (do bindName X.env n .none;unbindBehindTheSuite X.env n uD) Q X.xe s8:=λσ2 H2 Q I8 hq=>by
   let XB:=I8.back I0.ok;let bK:i<σ2.length:=by rw[XB.len];exact(cm.mp hi).1
   unfold bindName;erw[aJ (aJ (jI (wpAny_point (aJ (xX XB hN hi (.inl hs) (v:=.bM) Z (λs9 I9=>wpAny_point ?_) (.inr hs))))))];erw[YS I9 hN hi hk hs (v:=.bM) (D5 bK) λkP vb=>hq kP ?_];rw[LL]at vb;erw[vb]
  cases f with |next=>let(σ2,H2,I8,dq):=q;erw[un σ2 H2 _ I8 λs9 I9=>#[_,H2,I9,dq]] |brk=>let(σ2,H2,I8,dq):=q;erw[un σ2 H2 _ I8 λs9 I9=>#[_,H2,I9,dq]] |cont=>let(σ2,H2,I8,dq):=q;erw[un σ2 H2 _ I8 λs9 I9=>#[_,H2,I9,dq]] |ret u=>let(v,σ2,H2,I8,r8,dq):=q;erw[un σ2 H2 _ I8 λs9 I9=>#[v,_,H2,I9,r8,dq]]
 erw[fM (hb E _ ps [] s O H D (I.lL _) hq) (λf s1 q=>?_) λe s1 q=>q];let q':=q.pF;cases f with |next=>erw[FP q'] |brk=>erw[q'] |cont=>erw[q'] |ret u=>erw[q']
end
end _L
namespace _R
open _P _d _l
theorem a8k{D:Nat}(hs:qL D pc (some (sq,st,gn)))(hp:0<=pc)(hn:¬Halt pc (some (sq,st,gn)))(h2:sq<=((2*f*st:Int):Rat)): ∃a y:Rat,0<=a/\a<=(f:Rat)/\0<=y/\sq*Rat.divInt (2*(st-gn-1)+1) (2*st)=2*y+a/\sq*Rat.divInt (st-gn-1) st=2*y/\pc<=2*y+2*a:=by
 let(g1,g2,g3):=yE hs hp hn;let(c0,c1,c2,hd,hl,hz,hh):=hs;let s0:(0:Rat)<(st:Rat):=G1.mpr (show(0:Int)<st by omega);let n0:(0:Rat)<=((st-gn-1:Int):Rat):=tN.mpr (show(0:Int)<=st-gn-1 by omega);generalize en:st-gn-1=n at*;let eg:st-gn=n+1:=by omega
 rw[eg]at hh;simp only[Rat.divInt_eq_div,Rat.intCast_add,CQ]at*;let e2:((2:Int):Rat)=2:=rfl;let e1:((1:Int):Rat)=1:=rfl;rw[e2]at*;rw[e1]at*;generalize(st:Rat)=s at*;generalize(n:Rat)=N at*;let ha:sq/(2*s)*(2*s)=sq:=by
  have:(2*s)≠0:=by grind
  grind
 generalize hA:sq/(2*s)=a at*;let a0:0<=a:=by erw[XW (c:=2*s) ?_ (by grind)];rw[Rat.zero_mul,ha];erw[CP g2]
 erw[a,a*N,a0,?_,Rat.mul_nonneg a0 n0,?_,?_,?_]
 ·erw[XW (c:=2*s) ?_ (by grind)]
  grind
 ·rw[<-hA]
  grind
 ·rw[<-hA]
  grind
 ·erw[XW (c:=s) ?_ s0]
  let e:(2*(a*N)+2*a)*s=sq*(N+1):=by rw[<-ha];grind
  rw[e];erw[hh]
theorem a5e{D:Nat}{top:Rat}{stp:gI}(hr:0<=r)(hf:0<=f)(hl:1<=left)(hp:0<=pc)(pt:pc<=top)(pR:pc<=R+((2*f*left:Int):Rat))(hs:qL D pc stp)(hn:¬Halt pc stp)(h2:∀a st gn,stp=some (a,st,gn)->a<=((2*f*st:Int):Rat)): kz r f pc top R left stp<=pc+(r:Rat)/\pc<=kz r f pc top R left stp+(f:Rat)/\kz r f pc top R left stp<=nM r f pc top R left stp+(f:Rat)/\nM r f pc top R left stp<=kz r f pc top R left stp+(r:Rat):=by
 let r0:(0:Rat)<=(r:Rat):=tN.mpr hr;let f0:(0:Rat)<=(f:Rat):=tN.mpr hf;let e2:((2:Int):Rat)=2:=rfl;let e1:((1:Int):Rat)=1:=rfl;let c1:((2*f*left:Int):Rat)=2*((f*left:Int):Rat):=by simp only[CQ,e2];grind
 let c2:((f*(2*left-1):Int):Rat)=2*((f*left:Int):Rat)-(f:Rat):=by simp only[CQ,Rat.intCast_sub,e2,e1];grind
 let c3:((2*f*(left-1):Int):Rat)=2*((f*left:Int):Rat)-2*(f:Rat):=by simp only[CQ,Rat.intCast_sub,e2,e1];grind
 let c4:((2*r:Int):Rat)=2*(r:Rat):=by rw[CQ];rfl
 rw[c1]at pR;let key:∀x y z w:Rat,(x=pc+(r:Rat)\/x=top\/x=R+(2*((f*left:Int):Rat)-(f:Rat)))->x<=pc+(r:Rat)->x<=top->x<=R+(2*((f*left:Int):Rat)-(f:Rat))->(y=pc+2*(r:Rat)\/y=top\/y=R+(2*((f*left:Int):Rat)-2*(f:Rat)))->y<=pc+2*(r:Rat)->y<=top->y<=R+(2*((f*left:Int):Rat)-2*(f:Rat))->pc<=x+(f:Rat)/\x<=y+(f:Rat)/\y<=x+(r:Rat):=by
  intro x y _ _ hx x1 x2 x3 hy y1 y2 y3;erw[?_,?_,?_]
  ·grind
  ·grind
  ·grind
 let m3:∀a b c:Rat,(mn (mn a b) c=a\/mn (mn a b) c=b\/mn (mn a b) c=c):=λa b c=>by
  rcases nN (mn a b) c with e|e
  ·rw[e];rcases nN a b with e|e
   ·erw[.inl e]
   ·erw[.inr (.inl e)]
  ·erw[.inr (.inr e)]
 let l1:∀a b c:Rat,mn (mn a b) c<=a:=λa b c=>bW (dR _ _) (dR _ _);let l2:∀a b c:Rat,mn (mn a b) c<=b:=λa b c=>bW (dR _ _) (fw _ _);let l3:∀a b c:Rat,mn (mn a b) c<=c:=λa b c=>fw _ _;let X:=key (mn (mn (pc+(r:Rat)) top) (R+(2*((f*left:Int):Rat)-(f:Rat)))) (mn (mn (pc+2*(r:Rat)) top) (R+(2*((f*left:Int):Rat)-2*(f:Rat)))) 0 0 (m3 _ _ _) (l1 _ _ _) (l2 _ _ _) (l3 _ _ _) (m3 _ _ _) (l1 _ _ _) (l2 _ _ _) (l3 _ _ _);cases stp with |none=>unfold kz nM;simp only[c2,c3,c4];erw[l1 _ _ _,X] |some q=>
  let(sq,st,gn):=q;let(a,y,a0,af,y0,e1,e2,py):=a8k hs hp hn (h2 sq st gn Z);unfold kz nM;simp only[c2,c3,c4,e1,e2];let xl:=l1 (pc+(r:Rat)) top (R+(2*((f*left:Int):Rat)-(f:Rat)));clear l1 l2 l3 m3 key;generalize mn (mn (pc+(r:Rat)) top) (R+(2*((f*left:Int):Rat)-(f:Rat)))=x at*;generalize mn (mn (pc+2*(r:Rat)) top) (R+(2*((f*left:Int):Rat)-2*(f:Rat)))=z at*;let ml:=dR x (2*y+a);let mr:=fw x (2*y+a);let nl:=dR z (2*y);let nr:=fw z (2*y);let mc:=nN x (2*y+a);let nc:=nN z (2*y);generalize mn x (2*y+a)=u at*;generalize mn z (2*y)=v at*;let(X1,X2,X3):=X;erw[?_,?_,?_,?_]
  ·grind
  ·grind
  ·grind
  ·grind
end _R
namespace _c
open PySem PySem.Spec PyProof.Rows _L _l _d _C _P _W _R
open _O (topR cornO mnO betR atO ownF leadF ownL OkI OkIs)
open _O (topR)
open _O (Itm)
def top(i:Nat):Stmt:=PySem.Challenge.pw_glidequeue_k48_tapes_let_by.main.body.getD i (.Pass #[0,0,0,0])
abbrev Pg:=top 85
abbrev QO:=top 84
abbrev QK:=top 27
abbrev Qr:=top 15
abbrev Qk:=top 97
abbrev Qj:=top 29
abbrev Ql:=top 26
abbrev Qa:=top 22
abbrev Pb:=top 23
abbrev Qh:=top 24
abbrev Qi:=top 25
abbrev QA:=top 20
abbrev Qx:=top 19
abbrev Qd:=top 91
abbrev Qz:=top 87
abbrev Qm:=top 86
abbrev Qq:=top 51
def kY:Str:="abcdefghijklmnopqrstuvwxyz"
abbrev Q7:=top 94
abbrev P5:=top 30
abbrev P6:=top 16
abbrev P7:=top 40
abbrev QI:=top 37
abbrev Qp:=top 39
abbrev P9:=top 38
abbrev P8:=top 100
abbrev QM:=top 59
abbrev Q6:=top 58
abbrev Q5:=top 21
abbrev QC:=top 60
abbrev Ph:=top 88
abbrev Qg:=top 89
abbrev Qb:=top 90
abbrev Qc:=top 104
abbrev Q4:=top 92
abbrev Qe:=top 93
abbrev Qo:=top 95
abbrev Q8:=top 33
abbrev Pk:=top 31
abbrev Pq:=top 32
abbrev GU:=top 63
abbrev Pe:=top 62
abbrev QE:=top 64
abbrev u7:=top 96
abbrev Pj:=top 98
abbrev Pp:=top 99
abbrev Pc:=top 103
abbrev QL:=top 101
abbrev Q3:=top 102
abbrev GW:=top 106
abbrev Pf:=top 105
abbrev Qu:=top 56
abbrev Qs:=top 55
abbrev QQ:=top 54
abbrev Qv:=top 50
abbrev Qt:=top 42
abbrev Q9:=top 53
abbrev QN:=top 52
abbrev QJ:=top 77
abbrev Pa:=top 75
abbrev Pl:=top 74
abbrev QD:=top 73
abbrev Po:=top 76
abbrev QH:=top 71
abbrev QP:=top 72
abbrev a1L:=top 70
abbrev QB:=top 110
abbrev QG:=top 107
abbrev Qw:=top 108
abbrev QF:=top 109
abbrev sLL:=top 111
abbrev Pr:=top 82
structure Xm(K:ag)(C:Addr):Prop where
 cl:mi K C
 uy:ka K C "machine"
 yI:ka K C "begun_at"
 si:ka K C "done"
 kR:ka K C "queue"
 ux:ka K C "pace"
 B8:ka K C "rate_now"
 Ii:ka K C "side"
 Te:ka K C "mark"
 yH:ka K C "stopping"
abbrev Px:=inClass (top 81) 3
abbrev PF:=inClass (top 81) 4
abbrev Pw:=inClass (top 81) 5
abbrev Pt:=inClass (top 81) 7
abbrev PR:=inClass (top 81) 8
abbrev PD:=inClass (top 81) 9
abbrev PQ:=inClass (top 81) 10
abbrev PH:=inClass (top 81) 1
abbrev PK:=inClass (top 81) 2
abbrev PL:=inClass (top 81) 0
abbrev PV:=inClass (top 81) 11
abbrev PZ:=inClass (top 81) 16
abbrev PJ:=inClass (top 81) 15
abbrev PC:=inClass (top 81) 14
abbrev PX:=inClass (top 81) 13
abbrev PY:=inClass (top 81) 12
abbrev Pu:=inClass (top 81) 21
abbrev PU:=inClass (top 81) 19
abbrev Py:=inClass (top 81) 17
abbrev PM:=inClass (top 81) 18
def acg(s:Stmt):List Stmt:=match s with | .ClassDef _ _ _ b _ _ _ _ _ _ _=>b |_=>[]
abbrev GQ:=(acg (top 9)).getD 0 (.Pass #[0,0,0,0])
structure Xv(K:ag)(mg:bU)(C fI:Addr):Prop where
 e:xG K mg "NoTape" C fI Ky SO
 i:PySem.W.findIn K (.ref C) "__init__"=some (some (.ref fI))
 x:zo K C "at"
 y:zo K C "why"
 f:fnAt K fI=true
 fn:∃fd,me K "__init__" "NoTape.__init__" GQ fI fd
structure XG(K:ag)(mg:bU)(C fI cG c0 c1 c2 c3 c4 c5 c6 c7 c8 c9:Addr):Prop where
 oc:Xv K mg C fI
 g:Exc K mg "GlideError" cG Ky SO
 t:takes K C cG
 k:pq K C
 h0:GV mg "Full" (.ref c0)
 h1:GV mg "Moving" (.ref c1)
 h2:GV mg "NoFraction" (.ref c2)
 h3:GV mg "NoItem" (.ref c3)
 h4:GV mg "NoLine" (.ref c4)
 h5:GV mg "NoMachine" (.ref c5)
 h6:GV mg "NoPlace" (.ref c6)
 h7:GV mg "NoRate" (.ref c7)
 h8:GV mg "NoText" (.ref c8)
 h9:GV mg "OffRails" (.ref c9)
 any:PySem.W.kitAny K (.ref C) [.ref c0,.ref c1,.ref c2,.ref c3,.ref c4,.ref c5,.ref c6,.ref c7,.ref c8,.ref c9]=some false
 own:PySem.W.kitOne K (.ref C) (.ref C)=some true
 ve:PySem.W.kitOne K (.ref C) (.type "ValueError")=some true
 v:mg "ValueError"=none
 fat:PySem.W.findIn K (.ref C) "at"=some none
 fwhy:PySem.W.findIn K (.ref C) "why"=some none
abbrev Qf:=top 112
abbrev Qy:=top 113
abbrev Pm:=top 114
def GH(K:ag):Sp:=λvs H Q _=>∃(a:Addr)(ns:List Int),vs=[.ref a]/\aL K H a (ns.map V.int)/\ns.length<=63/\∀H',Q (.bl true) H'
abbrev y9:=top 115
structure gT(K:ag)(mg:bU)(C:Addr):Prop where
 tc:Xm K C
 init:CA K mg C "Runner" "Runner.__init__" PL
 a6c:MA K C "place" "Runner.place" PH
 a6e:MA K C "leads_to" "Runner.leads_to" PK
 a6a:MA K C "square" "Runner.square" Px
 a6b:MA K C "rate" "Runner.rate" PF
 a66:MA K C "tool" "Runner.tool" Pw
 a64:MA K C "waiting" "Runner.waiting" Pt
 a6f:MA K C "is_held" "Runner.is_held" PR
 a69:MA K C "stands" "Runner.stands" PD
 a6g:MA K C "is_halted" "Runner.is_halted" PQ
 a6j:MA K C "feed" "Runner.feed" PV
 a6l:MA K C "entries" "Runner.entries" PY
 a6k:MA K C "entries_of_first" "Runner.entries_of_first" PX
 a68:MA K C "steps_of_first" "Runner.steps_of_first" PC
 a6d:MA K C "next_square" "Runner.next_square" PJ
 a6m:MA K C "end_first" "Runner.end_first" PZ
 a67:MA K C "stops_in" "Runner.stops_in" Py
 a6h:MA K C "hold" "Runner.hold" PM
 a6i:MA K C "go" "Runner.go" PU
 a65:MA K C "turn_rate" "Runner.turn_rate" Pu
structure All(K:ag)(mg:bU):Prop where
 B:tK mg
 wM:GT K mg "NOUGHT" [.int 0,.int 1]
 a9e:GT K mg "SIDES" [.str "up",.str "down"]
 Va:GV mg "NO_BORDER" (.int 4)
 BK:GV mg "NOT_DUE" (.int 1)
 a9d:GV mg "WRONG_TICKS" (.int 2)
 a9n:GV mg "ABOVE_TOP" (.int 3)
 a9j:GV mg "LEAST_RATE" (.int 10)
 a9l:GV mg "GREATEST_RATE" (.int 200)
 a9m:GV mg "FIRST_RATE" (.int 100)
 a9f:GV mg "MOST_WAITING" (.int 20)
 Vb:GV mg "MOST_STEPS" (.int 100)
 a9k:GV mg "GREATEST_SPEED" (.int 20)
 a9g:GV mg "LONGEST_WAIT" (.int 1000)
 a9h:GV mg "LONGEST_NAME" (.int 8)
 a9i:GV mg "LETTERS" (.str kY)
 aa9:FA K mg "is_whole" Qr
 aa8:FA K mg "is_whole_within" P6
 aaj:FA K mg "is_fraction" Qx
 aal:FA K mg "fraction" QA
 a9X:FA K mg "plus_whole" Q5
 aa2:FA K mg "minus" Qa
 a9Q:FA K mg "times" Pb
 aah:FA K mg "is_less" Qh
 aa5:FA K mg "least" Qi
 aa3:FA K mg "lowest_terms" Ql
 aap:FA K mg "common_divisor" QK
 aa6:FA K mg "lead_of" Qj
 a9O:FA K mg "ways_of" P5
 a9U:FA K mg "stand_at" Pk
 a9S:FA K mg "step_rows" Pq
 aa0:FA K mg "nearest" Q8
 aao:FA K mg "corner_square" QI
 a9P:FA K mg "top_square" P9
 aad:FA K mg "is_rate" Qp
 aak:FA K mg "greatest_turn" P7
 aae:FA K mg "is_place" Qt
 aai:FA K mg "is_item" Qv
 aag:FA K mg "is_line" Qq
 a9Z:FA K mg "place_behind" QN
 aa1:FA K mg "moved" Q9
 aat:FA K mg "are_steps" QQ
 aac:FA K mg "is_short_item" Qs
 aaf:FA K mg "is_name" Qu
 Vm:FA K mg "own_bounds" Q6
 aas:FA K mg "bound_between" QM
 aa7:FA K mg "kept_by_fall" QC
 a9R:FA K mg "ticks_of" Pe
 Vn:FA K mg "are_enough" GU
 a9T:FA K mg "step_entry" QE
 aa4:FA K mg "look" a1L
 aan:FA K mg "due_entries" QH
 aar:FA K mg "bounds_between" QP
 aam:FA K mg "fault_of_entry" QD
 aab:FA K mg "is_step_with" Pl
 aaa:FA K mg "is_timed" Pa
 a9V:FA K mg "square_of" Po
 aaq:FA K mg "can_meet" QJ
 a9W:FA K mg "reach_behind_first" Pr
 aaW:FA K mg "_law_bag" QO
 aax:FA K mg "_law_take" Pg
 Vo:FA K mg "_law_number" Qm
 aaR:FA K mg "_law_frac" Qz
 aay:FA K mg "_law_sum" Ph
 aaM:FA K mg "_law_less" Qg
 aaG:FA K mg "_law_min" Qb
 aaI:FA K mg "_law_machine" Qd
 aaE:FA K mg "_law_place" Q4
 aaL:FA K mg "_law_line" Qe
 aaF:FA K mg "_law_other" Q7
 aaO:FA K mg "_law_items" Qo
 aaB:FA K mg "_law_sizes" u7
 aaN:FA K mg "_law_lead" Qk
 aaz:FA K mg "_law_stand" Pj
 aaC:FA K mg "_law_rows" Pp
 aau:FA K mg "_law_top" P8
 aaV:FA K mg "_law_bounds" QL
 aaD:FA K mg "_law_plan" Q3
 aav:FA K mg "_law_ticks" Pc
 aaH:FA K mg "_law_middles" Qc
 aaw:FA K mg "_law_tape" Pf
 F7:FA K mg "_law_alike" GW
 aaU:FA K mg "_law_due_entries" QG
 aaP:FA K mg "_law_is_fraction" Qw
 aaT:FA K mg "_law_entry_fault" QF
 aaS:FA K mg "_law_fits" QB
 aaK:FA K mg "_law_look" sLL
 aaJ:FA K mg "_law_looked" Qf
 aaQ:FA K mg "_law_held_tape" Qy
 aaA:FA K mg "_law_some_tape" Pm
 law:FA K mg "law" y9
 ex:∃C fI cG c0 c1 c2 c3 c4 c5 c6 c7 c8 c9,XG K mg C fI cG c0 c1 c2 c3 c4 c5 c6 c7 c8 c9
 rc:∃C,gT K mg C
def Cz(K:ag)(P:ai)(w:World)(mg:bU)(aD:Heap)(C:Addr):Prop:=∀(f:Addr)(fd:FuncData),All K mg->gT K mg C->me K "law" "law" y9 f fd->iq P w K mg aD iM 15 f fd ["_law_script"] (GH K)
theorem neW:Nonempty (ag×ai×World×(bU)×Heap×Addr):=#[default,default,#[λ_ _=>0,{strHash:=λ_=>0,shareClass:=λa=>a,mergeTok:=id,idOf:=λ_=>0,idOfShared:=λ_ _=>0,followText:=λ_=>false,idOfImm:=λ_=>0}],λ_=>none,default,(0:Nat)]
@[irreducible] noncomputable def KP:ag×ai×World×(bU)×Heap×Addr:=@Classical.epsilon _ neW λx=>¬Cz x.1 x.2.1 x.2.2.1 x.2.2.2.1 x.2.2.2.2.1 x.2.2.2.2.2
@[irreducible] noncomputable def K:ag:=KP.1
@[irreducible] noncomputable def P:ai:=KP.2.1
@[irreducible] noncomputable def w:World:=KP.2.2.1
@[irreducible] noncomputable def mg:bU:=KP.2.2.2.1
@[irreducible] noncomputable def aD:Heap:=KP.2.2.2.2.1
@[irreducible] noncomputable def C:Addr:=KP.2.2.2.2.2
theorem Zc(h:Cz K P w mg aD C)(K':ag)(P':ai)(w':World)(Tz:bU)(WY:Heap)(C':Addr):Cz K' P' w' Tz WY C':=Classical.byContradiction λn=>by let e:=Classical.epsilon_spec (p:=λx:ag×ai×World×(bU)×Heap×Addr=>¬Cz x.1 x.2.1 x.2.2.1 x.2.2.2.1 x.2.2.2.2.1 x.2.2.2.2.2) #[(K',P',w',Tz,WY,C'),n];unfold K P w mg aD C KP at h;erw[e h]
abbrev a1k:=bE P w K mg aD
abbrev a1q:=gJ P w K mg aD
abbrev a1v:=All K mg
end _c
namespace _c
open PySem PySem.Spec PyProof.Rows _L
section
inductive N5|mk p many(_:vs=[.ref p,.int many])(_:gX H p)(_:1<=many)(_:many<=10^40)(_:∀d H',0<=d->d<many->bJ p H H'->Q (.int d) H')
theorem NH:bu ["_law_bag_here","_law_many","_law_digit","_law_number_here","_law_room"] ["_law_bag_here","_law_many"] (aX Pg):=bD aP
theorem fk(AA:a1v):a1k "_law_take" 1 N5:=by
 exists AA.aax.has,NH,dY λ_ _=>rfl
 ·let(p,many,rfl,(c,m,hp,ok),h1,h2,k):=h
  let(c0,m0,m1):=id ok;let nd:=NH.nd;erw[_,%[bw (bL mH (px K o0 aB) aB (bf _)) %[pS 2 nd (aO uq (px K o0 aB) u8),fe (aO pO (px K o0 aB) u8) (rP o0 aB set_list),aR w4|aG] bC,pS 3 nd aB,pS 4 nd aB,pM eO (bL ky M2 u8 (bf _)) %[fe (aO uq (aO vO (aO cM (aO bR (px K o0 aB) aB) aB) aB) aB) (rP o0 aB set_list),pS 3 nd (aO cM (aO bR L2 aB) (aO uq (aO bR (aO pO (px K o0 aB) aB) aB) aB)),pS 4 nd (aO bR M2 aB)|aG],aR (aO uq L2 u8)|aG],?_];erw[_,Z,.inl #[p,_,0,.int c,Z,Z,aL.of hp,Z,_,_,Z,Z,_,Z,?_]];erw[dW (λhc=>?_) (λ_=>?_)]
  ·erw[_,Z,.inl #[p,_,0,.int c,Z,Z,aL.of hp,Z,_,Z,_,_,Z,Z,h1,?_]]
   erw[_,Z,.inl #[p,_,0,.int c,Z,Z,aL.of hp,Z,_,Z,_,_,Z,Z,#[h1,Mb aw h2],?_]];erw[_,Z,p,_,0,0,Z,Z,hp,Z,?_];erw[_,Z,?_];erw[k _ _ (qV _ aw) (vp _ aw) (bJ.upd #[Int.ediv_nonneg c0 aw,m0,m1])]
  ·erw[pD (λO H2=>∃(v:Option V)(n r:Int),O=[some (.ref p),some (.int many),v,some (.int n),some (.int r)]/\bJ p H H2/\1<=r) (λO _=>match O with|[_,_,_,_,some (.int r)]=>(many-r).toNat|_=>0) ?_ ?_ ?_]
   ·erw[none,0,1,Z,.refl #[c,m,hp,ok],fD _]
   ·rintro O H2 ⟨v,n,r,rfl,bx,Br⟩
    erw[xB ?_];intro E1;let(c',m',yQ,c0',m0',Iq):=id bx.bF;erw[_,Z,_,Z,_,_,Z,Z,_,Z,?_];erw[dW (λhc=>?_) (λhc=>?_)]
    ·let bK:r<many:=kg hc
     erw[_,Z,.inl #[p,_,1,.int m',Z,Z,aL.of yQ,Z,_,_,Z,Z,.of_right (cw aA aA),_,_,Z,Z,_,_,Z,Z,#[aA,aA,?_],_,_,Z,Z,(by show(0:Int)<2147483629;decide),?_]]
     ·let mU:(2:Nat)^64=18446744073709551616:=by decide
      rw[mU];lia
     erw[_,Z,p,_,1,1,Z,Z,yQ,Z,?_];let g0:0<=((m'*48271+7919)^(5:Int).toNat)%2147483629:=qV _ aA;let g1:((m'*48271+7919)^(5:Int).toNat)%2147483629<2147483629:=vp _ aA;let bx2:bJ p H (_L.upd H2 p (.lst [.int c',.int (((m'*48271+7919)^(5:Int).toNat)%2147483629)])):=bx.trans (.upd #[c0',g0,Int.lt_trans g1 aA]);erw[_,Z,_,_,Z,Z,.of_right (cw aA aA),_,Z,.inl #[p,_,1,.int _,Z,Z,aL.of bP,Z,_,_,Z,Z,#[aA,Mb aA aA],_,_,Z,Z,.of_right (cw aA aA),_,_,Z,Z,(by show(0:Int)<1073741789;decide),_,_,Z,Z,?_]];erw[_,Z,_,_,Z,Z,.of_right (cw aA aA),?_];erw[#[v,_,_,Z,bx2,?_],?_]
     ·lia
     ·show(many-r*1073741789).toNat<(many-r).toNat
      lia
    ·erw[_,Z,_,Z,_,_,Z,Z,h1,?_]
     erw[k _ _ (qV _ aw) (vp _ aw) bx]
   ·rintro O H2 Q1 Q2 hq ⟨v1,e1,v2,e2,i,j,e3,e4,kk,e5,q⟩
    erw[v1,e1,v2,e2,i,j,e3,e4,kk,e5,hq _ _ q]
end
section
inductive a19|mk (a:Addr)(ns:List Int)(at':Int)(_:vs=[.ref a,.int at'])(_:aL K H a (ns.map V.int))(_:ns.length<=63)(_:0<=at')(_:at'<=100)(_:∀p H',H p=none->gX H' p->aH H H'->Q (.ref p) H')
theorem OY:bu ["_law_script","_law_at","_law_cell","_law_mix","_law_k"] ["_law_script","_law_at"] (aX QO):=bD aP
theorem Us{ns:List Int}{j:Nat}(h:j<ns.length):∃z,eY (ns.map V.int) (j:Int)=some (.int z):=#[ns[j],acV (by simp[h])]
theorem a53(AA:a1v):a1k "_law_bag" 1 a19:=by
 exists AA.aaW.has,OY,dY λ_ _=>rfl
 ·let(a,ns,at',rfl,hS,hlen,h0,h1,k):=h
  obtain⟨j,rfl⟩:∃j:Nat,at'=(j:Int):=#[at'.toNat,aw];let nd:=OY.nd;erw[_,%[pS 2 nd aB,je (bw (bL ky u8 (cY K AA.B %[0|az]) (bf _)) (aG (pS 2 nd (eK (x:="abs") qJ Z (AA.B.at "abs") tO %[px K o0 u8|az]))) bC),pS 3 nd (aO cM (aO cM (aO bR (aO bR aB u8) u8) (aO bR aB u8)) aB),(g9 eO Z (pN Z (AA.B.at "range") %[(eK (x:="min") (Kw rfl) rfl (AA.B.at "min") Y6 %[cY K AA.B %[0|az],aB|az])|az]) (aZ 4 nd) (aG (pS 3 nd (aO uq (aO vO (aO cM (aO cM (aO bR L2 aB) (aO uq (px K o0 M2) aB)) (aO bR M2 M2)) aB) aB)))),je (bw (bL ky w4 (aO vO aB aB) (bf _)) (aG (pS 2 nd aB)) bC),aR (cX %[2,3|az])|aG],?_];erw[λO H'=>H'=H/\∃c:Int,O=[some (.ref a),some (.int (j:Int)),some (.int c),none,none]/\0<=c,?_,?_]
  ·erw[_,Z,_,Z,a,_,Z,.inl hS,_,_,Z,Z,_,Z,?_]
   erw[dW (λhc=>?_) (λ_=>?_)]
   ·let hj:(j:Int)<((ns.map V.int).length:Int):=kg hc
    rw[bB]at hj;let(z,hz):=Us (ns:=ns) (j:=j) aw;erw[_,Z,_,Z,.inl #[a,_,_,_,Z,Z,hS,hz,z,Z,?_]];erw[Z,_,Z,by split<;>lia]
   ·erw[Z,0,Z,fD _]
  rintro O H' ⟨rfl,c,rfl,c0⟩;erw[_,Z,_,_,Z,Z,.of_left (cw aA aA),_,Z,_,_,Z,Z,.of_right (cw aw aw),_,Z,_,_,Z,Z,.of_left (cw aA aA),_,_,Z,Z,_,_,Z,Z,?_];erw[_,Z,a,_,Z,.inl hS,_,_,Z,_,Z,?_,?_,?_]
  ·split<;>lia
  ·split<;>(try rw[bB])<;>lia
  erw[qz (Pv:=λi O H2=>H2=H'/\∃(m:Int)(v:Option V),O=[some (.ref a),some (.int (j:Int)),some (.int c),some (.int m),v]/\0<=m/\m<2147483648) ?_ ?_ ?_]
  ·erw[Z,_,none,Z,?_,?_]
   ·have:(0:Int)<=(j:Int)*(j:Int):=iy aw aw
    rw[zW];lia
   ·have:(j:Int)*(j:Int)<=100*100:=zV aw aw aw aw
    rw[zW];lia
  ·rintro i O H2 hi ⟨rfl,m,v,rfl,m0,m1⟩
   erw[gh ?_];intro E1;let wD:i<ns.length:=by rw[bB]at hi;split at hi<;>lia
   let(z,hz):=Us (ns:=ns) (j:=i) wD;rw[<-D8 (i:Int)]at hz;let hz0:0<=z%2147483647:=qV _ aA;let EI:z%2147483647<2147483647:=vp _ aA;let a87:(0:Int)<=(0+(i:Int))*(0+(i:Int)):=iy aw aw;let sI:(0+(i:Int))*(0+(i:Int))<=100*100:=zV aw aw aw aw;erw[_,Z,_,_,Z,Z,.of_right (cw aA aA),_,Z,_,Z,.inl #[a,_,_,_,Z,Z,hS,hz,_,_,Z,Z,(by show(0:Int)<2147483647;decide),_,_,Z,Z,_,Z,_,Z,_,_,Z,Z,.of_right (cw aw aw),_,_,Z,Z,_,_,Z,Z,#[aA,aA,?_],_,_,Z,Z,(by show(0:Int)<2147483629;decide),?_]]
   ·let mU:(2:Nat)^64=18446744073709551616:=by decide
    rw[mU];generalize(0+(i:Int))*(0+(i:Int))=ii at a87 sI⊢;generalize z%2147483647=zz at hz0 EI⊢
    lia
   ·erw[Z,_,_,Z,qV _ aA,Int.lt_trans (vp _ aA) aA]
  ·rintro O H2 ⟨rfl,m,v,rfl,m0,m1⟩
   erw[λO H3=>H3=H2/\∃c:Int,O=[some (.ref a),some (.int (j:Int)),some (.int c),some (.int m),v]/\0<=c,?_,?_]
   ·erw[jZ ?_];intro E2
    erw[_,Z,_,_,Z,Z,#[aA,aA,aA],_,_,Z,Z,_,Z,?_];erw[dW (λhc=>?_) (λ_=>?_)]
    ·erw[Z,0,Z,fD _]
    ·erw[Z,c,Z,c0]
   rintro O H3 ⟨rfl,c,rfl,c0⟩;erw[_,Z,_,Z,(by show 2<=sizeLine;decide),λp H4 nw=>?_];erw[k p H4 nw.no #[c,m,nw.at',c0,m0,m1] nw.same]
inductive a0T|mk (a:Int)(b:Int)(_:vs=[.int a,.int b])(_:Q (.int (Int.gcd a b)) H)
end
section
inductive a0J|mk (a:Int)(b:Int)(_:vs=[.int a,.int b])(_:b≠0)(_:Wd b)(_:∀t H',Nw H H' t (.tup [.int (_A.lowP a b),.int (_A.iI a b)])->Q (.ref t) H')
end
section
def j6(T:String):Bool:=iz T "int"&& !iz T "bool"
inductive Ad|mk v T(_:vs=[v])(_:xD K H v T)(_:Q (.bl (j6 T)) H)
theorem OU:bu ["p","q","high","low"] ["p","q"] (aX QK):=bD aP
theorem SH(AA:a1v):a1k "common_divisor" 1 a0T:=by
 exists AA.aap.has,OU,dY λ_ _=>rfl
 ·let(a,b,rfl,k):=h
  let nd:=OU.nd;erw[_,%[(rL (i:=2) (j:=3) Z nd Z Z aA Z Z %[eK (x:="abs") qJ Z (AA.B.at "abs") tO %[0|az],eK (x:="abs") qJ rfl (AA.B.at "abs") tO %[1|az]|az] rfl),pM eO (bL (iH K Z hr.units) L2 aB (bf _)) (aG (rL (i:=2) (j:=3) Z nd Z Z aA Z Z %[3,aO uq w4 L2|az] Z)),aR w4|aG],?_];erw[_,Z,_,Z,_,Z,_,Z,_,_,Z,?_];erw[pD (λO H2=>H2=H/\∃(x y:Int),O=[some (.int a),some (.int b),some (.int x),some (.int y)]/\0<=x/\0<=y/\Int.gcd x y=Int.gcd a b) (λO _=>match O with|[_,_,_,some (.int y)]=>y.natAbs|_=>0) ?_ ?_ ?_]
  ·erw[Z,_,_,Z,by split<;>lia,by split<;>lia,?_]
   let h1:(if a<0 then-a else a).natAbs=a.natAbs:=by split<;>lia
   let h2:(if b<0 then-b else b).natAbs=b.natAbs:=by split<;>lia
   unfold Int.gcd;rw[h1,h2]
  ·rintro O H2 ⟨rfl,x,y,rfl,x0,y0,e⟩
   erw[xB ?_];intro E1;erw[_,Z,.inl #[_,_,Z,Z,_,Z,?_]];erw[dW (λhc=>?_) (λhc=>?_)]
   ·let hy:y≠0:=by simpa using hc
    let mR:0<y:=by lia
    erw[_,Z,_,Z,_,Z,_,_,Z,Z,mR,_,_,Z,?_];erw[#[Z,_,_,Z,y0,qV _ hy,(_A.V8 mR).trans e],?_];show(x%y).natAbs<y.natAbs;have:=qV x hy;have:=vp x mR
    lia
   ·let hy:y=0:=by simpa using hc
    subst hy;erw[_,Z,?_];rw[Int.gcd_zero_right]at e;let e2:x=((Int.gcd a b:Nat):Int):=by lia
    rw[e2];erw[k]
  ·rintro O H2 Q1 Q2 hq ⟨v1,e1,h⟩
   erw[v1,e1,?_];rcases h with⟨i,j,e3,e4,kk,e5,q⟩|⟨d,e,r1,r2,s1,s2,kk,e5,q⟩
   ·erw[.inl #[i,j,e3,e4,kk,e5,hq _ _ q]]
   ·erw[.inr #[d,e,r1,r2,s1,s2,kk,e5,hq _ _ q]]
end
section
theorem Oy:bu ["thing"] ["thing"] (aX Qr):=bD aP
theorem vR(AA:a1v):a1k "is_whole" 1 Ad:=by
 exists AA.aa9.has,Oy,fo λ_=>rfl
 ·let(v,T,rfl,ty,k):=h
  let nd:=Oy.nd;erw[_,(aG (aR (gP (cV K AA.B %[0,cK (x:="int") (v:=.ty "int") Z (AA.B.at "int") vi rfl|az]) (gN (vN (cV K AA.B %[0,cK (x:="bool") (v:=.ty "bool") rfl (AA.B.at "bool") Y7 rfl|az])))))),?_];erw[_,Z,.inl #[_,T,"int",_,Z,ty,aA,Z,_,Z,?_]];unfold j6 at k;erw[dW (λhc=>?_) (λhc=>?_)]
  ·erw[_,Z,.inl #[_,T,"bool",_,Z,ty,aA,Z,_,Z,?_]]
   rw[hc,lK]at k;erw[k]
  ·rw[xS.mpr hc,mx]at k
   erw[k]
end
end _c
namespace _c
open PySem PySem.Spec PyProof.Rows _L _l
section
def iR(ns:List Int)(sp:Int):aj:=.tuple [.str "line",.tuple (ns.map PyData.int),.int sp]
theorem IH(ns:List Int)(sp:Int):dG (iR ns sp)=true:=by simp[iR,dG,bS,mK]
structure fA(ax:Nat)(m:Int)(ns:List Int):Prop where
 len:ns.length=ax
 bd:∀z∈ns,(z.natAbs:Int)<=m
 nz:∃z∈ns,z≠0
theorem fA.lead(h:fA ax m ns):0<aF ns/\(aF ns:Int)<=m:=by
 erw[a6G h.nz,?_];let hm:0<=m:=by let(z,hz,_):=h.nz;have:=h.bd z hz;lia
 have:=qd (ns:=ns) (m:=m.toNat) λz hz=>by have:=h.bd z hz;lia
 lia
theorem fA.ne(h:fA ax m ns):ns≠[]:=by let(z,hz,_):=h.nz;intro e;subst e;cases hz
theorem nP{v:V}(h:RD K H v (iR ns sp)):∃a b,v= .ref a/\aW K H a [.str "line",.ref b,.int sp]/\aW K H b (ns.map V.int):=by let(a,xs,rfl,h1,h2):=h.cF;let(x1,r1,rfl,e1,h2):=h2.cons_inv;let(x2,r2,rfl,e2,h2):=h2.cons_inv;let(x3,r3,rfl,e3,h2):=h2.cons_inv;cases h2.nil_inv;cases e1.str_inv;cases e3.int_inv;let(b,ys,rfl,h3,h4):=e2.cF;rw[h4.j7]at h3;erw[a,b,Z,h1,h3]
inductive Nc|mk v ns sp(_:vs=[v])(_:RD K H v (iR ns sp))(_:ns≠[])(_:ns.length<=1000)(_:∀H',aH H H'->Q (.int (aF ns)) H')
theorem pW{ns:List Int}{f:Int->aj}{i:Nat}{d:aj}(h:(ns.map f)[i]? =some d):∃n,ns[i]? =some n/\f n=d:=by rw[bV]at h;cases e:ns[i]? with |none=>rw[e]at h;cases h |some n=>rw[e]at h;erw[n,Z,eQ h]
theorem Ba{ns:List Int}{i:Nat}{n:Int}(h:(ns.map V.int)[i]? =some x)(e:ns[i]? =some n):x= .int n:=by rw[bV,e]at h;exact(eQ h).symm
theorem Ol:bu ["_law_line_here"] ["_law_line_here"] (aX Qk):=bD aP
theorem vQ(AA:a1v):a1k "_law_lead" 1 Nc:=by
 exists AA.aaN.has,Ol,fo λ_=>rfl
 ·let(v,ns,sp,rfl,rd,dM,hz,k):=h
  let nd:=Ol.nd;let(a,b,rfl,ha,hb):=nP rd;erw[_,(aG (aR (eK (x:="max") (Ip K Z Z) Z (AA.B.at "max") LD %[gO (N:=["_law_step"]) (js:=[none]) rfl rfl rfl (oF K rfl (px K o0 aB)) (λ_ _ _ _ _=>(aZ 0 (uw _))) (λ_ _ _ _ _=>fP) (λ_ _ _ _ _=>(eK (x:="abs") qJ rfl (AA.B.at "abs") tO %[0|az]))|az]))),?_];erw[_,Z,.inr #[a,_,1,.ref b,Z,Z,ha,Z,b,Z,#[_,hb],λD H0 nw=>?_]];erw[Fi (K:=K) (xs:=ns.map V.int) (ds:=(ns.map jq).map PyData.int) [] hb nw (by simp) (by simpa using hz) (mK _) ?_ ?_]
  ·intro i x d H2 Q' ex ed s2 hq
   let(m,em,rfl):=pW ed;rw[bV]at em;cases en:ns[i]? with |none=>rw[en]at em;cases em |some n=>rw[en]at em;cases em;cases Ba ex en;erw[_,Z,n,Z,hq _ _ (aH.refl _) (dF _)]
  ·intro H' ys s2 d2 r2
   rw[r2.j7]at d2;erw[D,_,Z,aL.of d2,by simpa using dM,λM h1 h2=>?_];rw[IJ dM h1 h2];erw[k H' s2]
theorem Oj:bu ["line"] ["line"] (aX Qj):=bD aP
theorem yx(AA:a1v):a1k "lead_of" 1 Nc:=by
 exists AA.aa6.has,Oj,fo λ_=>rfl
 ·let(v,ns,sp,rfl,rd,dM,hz,k):=h
  let nd:=Oj.nd;let(a,b,rfl,ha,hb):=nP rd;erw[_,(aG (aR (eK (x:="max") (Ip K Z Z) Z (AA.B.at "max") LD %[gO (N:=["step"]) (js:=[none]) rfl rfl rfl (oF K rfl (px K o0 aB)) (λ_ _ _ _ _=>(aZ 0 (uw _))) (λ_ _ _ _ _=>fP) (λ_ _ _ _ _=>(eK (x:="abs") qJ rfl (AA.B.at "abs") tO %[0|az]))|az]))),?_];erw[_,Z,.inr #[a,_,1,.ref b,Z,Z,ha,Z,b,Z,#[_,hb],λD H0 nw=>?_]];erw[Fi (K:=K) (xs:=ns.map V.int) (ds:=(ns.map jq).map PyData.int) [] hb nw (by simp) (by simpa using hz) (mK _) ?_ ?_]
  ·intro i x d H2 Q' ex ed s2 hq
   let(m,em,rfl):=pW ed;rw[bV]at em;cases en:ns[i]? with |none=>rw[en]at em;cases em |some n=>rw[en]at em;cases em;cases Ba ex en;erw[_,Z,n,Z,hq _ _ (aH.refl _) (dF _)]
  ·intro H' ys s2 d2 r2
   rw[r2.j7]at d2;erw[D,_,Z,aL.of d2,by simpa using dM,λM h1 h2=>?_];rw[IJ dM h1 h2];erw[k H' s2]
end
end _c
set_option exponentiation.threshold 6000
namespace _c
open PySem PySem.Spec PyProof.Rows _L _d
section
theorem Oo:bu ["p","q","divisor"] ["p","q"] (aX Ql):=bD aP
theorem Ei(AA:a1v):a1k "lowest_terms" 2 a0J:=by
 exists AA.aa3.has,Oo,dY λ_ _=>rfl
 ·let(a,b,rfl,hb,wb,k):=h
  let nd:=Oo.nd;let sw:Wd (_A.sg a b):=xN (_A.Nk hb) wb;erw[_,%[pS 2 nd (pf (SH AA) hr %[0,1|az]),je (bw (bL ky u8 aB (bf _)) (aG (pS 2 nd (nI nu w4))) bC),aR (cQ %[aO Sj o0 w4,aO Sj u8 w4|az])|aG],?_];erw[_,Z,_,Z,a,b,Z,?_];erw[λO H'=>H'=H/\O=[some (.int a),some (.int b),some (.int (_A.sg a b))],?_,?_]
  ·erw[_,Z,_,_,Z,Z,_,Z,?_]
   erw[dW (λhc=>?_) (λhc=>?_)]
   ·let hd:b<0:=kg hc
    erw[_,Z,_,Z,?_];erw[Z,?_];unfold _A.sg;rw[aQ hd];rfl
   ·let hd:¬b<0:=λz=>hc (cu z)
    erw[Z,?_];unfold _A.sg;rw[aV hd];rfl
  rintro O H' ⟨rfl,rfl⟩;erw[_,Z,_,Z,_,_,Z,Z,#[_A.Ah hb,sw],_,Z,_,Z,_,_,Z,Z,#[_A.Ah hb,sw],(by show 2<=sizeLine;decide),λt H4 nw=>?_];erw[k t H4 nw]
def bj(H:Hp)(v:V)(r:Rat):Prop:=∃p,v= .ref p/\aW K H p [.int r.num,.int r.den]
theorem bj.go{v:V}{r:Rat}(h:bj H v r)(s:aH H H'):bj H' v r:=by let(p,e,q):=h;erw[p,e,q.go s]
def cA(r:Rat):aj:=.tuple [.int r.num,.int r.den]
theorem bj.rd{v:V}(h:bj H v r):RD K H v (cA r):=by let(p,rfl,q):=h;erw[fJ q %[dF _,dF _|cH]]
theorem Hx(r:Rat):e9 1 (cA r):=gW.tup (.cons (.int _) (.cons (.int _) .nil))
theorem RM(r:Rat):SeqAt.shaped (cA r)=true:=(Hx r).shaped aA
theorem Vx(h:r=s):PyData.eqv (cA r) (cA s)=true:=by rw[h];exact(Hx s).refl
theorem jv(h:i.natAbs<2^n)(l:n<=5000):Wd i:=gK h (tP aA l)
theorem _root_._d.Bd.wn(h:Bd 2000 r):Wd r.num:=jv h.num aA
theorem _root_._d.Bd.wd(h:Bd 2000 r):Wd (r.den:Int):=jv (n:=2000) (by have:=h.den;omega) aA
theorem Dp(h:Bd 2000 r)(g:Bd 2000 s):Wd ((r.den:Int)*(s.den:Int)):=jv (n:=4000) (Kn h g) aA
theorem DZ{t:Addr}(hb:b≠0)(e:r=Rat.divInt a b)(h:H' t=some (.tup [.int (_A.lowP a b),.int (_A.iI a b)])):bj H' (.ref t) r:=by let(e1,e2):=Ey (a:=a) hb;rw[e1,e2,<-e]at h;erw[t,Z,aW.of h]
inductive aej(op:Rat->Rat->Rat)(K:ag)(vs:List V)(H:Hp)(Q:VK):Prop |mk v1 v2 r s(_:vs=[v1,v2])(_:bj H v1 r)(_:bj H v2 s)(_:Bd 2000 r)(_:Bd 2000 s)(_:∀v H',bj H' v (op r s)->aH H H'->Q v H')
def DL(op:Rat->Rat->Rat)(K:ag):Sp:=λvs H Q _=>aej op K vs H Q
theorem O9:bu ["one","other","p","q","r","s"] ["one","other"] (aX Qa):=bD aP
theorem a4F(AA:a1v):a1k "minus" 3 (DL (·-·) K):=by
 exists AA.aa2.has,O9,dY λ_ _=>rfl
 ·let(v1,v2,r,s,rfl,(p,rfl,hp),(q,rfl,hq),br,bs,k):=h
  let nd:=O9.nd;erw[_,%[fe o0 (cW K Z (n:=2) Z %[aZ 2 nd,aZ 3 nd|cU]),fe u8 (cW K Z (n:=2) Z %[aZ 4 nd,aZ 5 nd|cU]),aR (pf (Ei AA) hr %[aO fE (aO bR w4 P3) (aO bR M2 L2),aO bR L2 P3|az])|aG],?_];erw[_,Z,_,_,Z,hp,Z,_,_,Z,_,_,Z,Z,?_];erw[_,Z,_,_,Z,hq,Z,_,_,Z,_,_,Z,Z,?_];erw[_,Z,_,Z,_,_,Z,Z,jd br.wn.bits bs.wd.bits,_,Z,_,Z,_,_,Z,Z,jd bs.wn.bits br.wd.bits,_,_,Z,Z,_,Z,_,Z,_,_,Z,Z,jd br.wd.bits bs.wd.bits,?_];erw[_,_,Z,tj r s,Dp br bs,λt H' nw=>k _ _ (DZ (tj r s) (a00 r s) nw.at') nw.same]
theorem xr_dvd{a:Int}{b:Nat}{x:Rat}(hb:b≠0)(hx:Rat.divInt a b=x):∃g,a=x.num*g/\(b:Int)=x.den*g:=by
 obtain⟨g,_,p⟩:=Rat.divInt_num_den (z':=x.den_nz) (c:=x.reduced) (by omega) hx
 exact⟨g,p⟩
theorem xr_cop{q:Rat}{a b g h:Int}(p:q.num=a*g)(z:q.den=b*h):a.natAbs.Coprime b.natAbs:=by
 have c:Int.gcd q.num q.den=1:=q.reduced
 rw [p,z,Int.gcd_eq_natAbs_gcd_natAbs,Int.natAbs_mul,Int.natAbs_mul] at c
 exact Nat.Coprime.coprime_mul_right_right (Nat.Coprime.coprime_mul_right c)
theorem xr_mul{r s x y:Rat}(hx:Rat.divInt r.num s.den=x)(hy:Rat.divInt s.num r.den=y)(m:r*s=Rat.divInt (r.num*s.num) (r.den*s.den)):x.num*y.num=(r*s).num/\(y.den:Int)*x.den=(r*s).den:=by
 obtain⟨g,h1,h2⟩:=xr_dvd s.den_nz hx
 obtain⟨h,h3,h4⟩:=xr_dvd r.den_nz hy
 have c:(x.num*y.num).natAbs.gcd (x.den*y.den)=1:=by rw [Int.natAbs_mul];exact Nat.Coprime.mul_left (Nat.Coprime.mul_right x.reduced (xr_cop h1 h4)) (Nat.Coprime.mul_right (xr_cop h3 h2) y.reduced)
 have e:r*s=x*y:=by rw [m,← hx,← hy,Rat.divInt_mul_divInt,Int.mul_comm (s.den:Int)]
 rw [e,Rat.num_mul,Rat.den_mul,c,Nat.div_one,Nat.mul_comm x.den]
 exact⟨(Int.ediv_one _).symm,rfl⟩
theorem NB:bu ["one","other","p","s","r","q"] ["one","other"] (aX Pb):=bD aP
theorem Sn(AA:a1v):a1k "times" 3 (DL (·*·) K):=by
 exists AA.a9Q.has,NB,dY λ_ _=>rfl
 ·let(v1,v2,r,s,rfl,(p,rfl,hp),(q,rfl,hq),br,bs,k):=h
  let nd:=NB.nd;have nr:=Int.ne_of_gt (den_pos r);have ns:=Int.ne_of_gt (den_pos s)
  refine ⟨_,%[fe (pf (Ei AA) hr %[px K o0 aB,px K u8 aB|az]) (cW K Z (n:=2) Z %[aZ 2 nd,aZ 3 nd|cU]),fe (pf (Ei AA) hr %[px K u8 aB,px K o0 aB|az]) (cW K Z (n:=2) Z %[aZ 4 nd,aZ 5 nd|cU]),aR (cQ %[aO bR w4 M2,aO bR P3 L2|az])|aG],?_⟩
  refine ⟨_,rfl,Or.inr ⟨_,_,_,_,rfl,rfl,hp,rfl,_,rfl,Or.inr ⟨_,_,_,_,rfl,rfl,hq,rfl,_,_,rfl,ns,bs.wd,fun t1 H1 n1=>?_⟩⟩⟩
  obtain ⟨_,e,g1⟩:=DZ ns rfl n1.at';cases e
  refine ⟨_,_,rfl,g1,rfl,_,_,rfl,_,_,rfl,rfl,?_⟩
  refine ⟨_,rfl,Or.inr ⟨_,_,_,_,rfl,rfl,hq.go n1.same,rfl,_,rfl,Or.inr ⟨_,_,_,_,rfl,rfl,hp.go n1.same,rfl,_,_,rfl,nr,br.wd,fun t2 H2 n2=>?_⟩⟩⟩
  obtain ⟨_,e,g2⟩:=DZ nr rfl n2.at';cases e
  refine ⟨_,_,rfl,g2,rfl,_,_,rfl,_,_,rfl,rfl,?_⟩
  have b1:Bd 2000 _:=nL ns br.num (by have:=bs.den;omega)
  have b2:Bd 2000 _:=nL nr bs.num (by have:=br.den;omega)
  refine ⟨_,rfl,_,rfl,_,_,rfl,rfl,jd b1.wn.bits b2.wn.bits,_,rfl,_,rfl,_,_,rfl,rfl,jd b2.wd.bits b1.wd.bits,bG Z,fun t H' n=>k _ _ ⟨t,rfl,aW.of ?_⟩ (n1.same.trans (n2.same.trans n.same))⟩
  obtain ⟨e1,e2⟩:=xr_mul rfl rfl (mul_div r s)
  rw [← e1,← e2];exact n.at'
inductive Nb|mk v1 v2 r s(_:vs=[v1,v2])(_:bj H v1 r)(_:bj H v2 s)(_:Bd 2000 r)(_:Bd 2000 s)(_:Q (.bl (decide (r<s))) H)
theorem Oh:bu ["one","other","p","q","r","s"] ["one","other"] (aX Qh):=bD aP
theorem AR(AA:a1v):a1k "is_less" 1 Nb:=by
 exists AA.aah.has,Oh,dY λ_ _=>rfl
 ·let(v1,v2,r,s,rfl,(p,rfl,hp),(q,rfl,hq),br,bs,k):=h
  let nd:=Oh.nd;erw[_,%[fe o0 (cW K Z (n:=2) Z %[aZ 2 nd,aZ 3 nd|cU]),fe u8 (cW K Z (n:=2) Z %[aZ 4 nd,aZ 5 nd|cU]),aR (eV ky (aO bR w4 P3) (aO bR M2 L2) (bf _))|aG],?_];erw[_,Z,_,_,Z,hp,Z,_,_,Z,_,_,Z,Z,?_];erw[_,Z,_,_,Z,hq,Z,_,_,Z,_,_,Z,Z,?_];erw[_,Z,_,Z,_,_,Z,Z,jd br.wn.bits bs.wd.bits,_,Z,_,Z,_,_,Z,Z,jd bs.wn.bits br.wd.bits,_,_,Z,Z,?_];let e:decide (r.num*(s.den:Int)<s.num*(r.den:Int))=decide (r<s):=by rw[qY,Lr,Lr,G0]
  show Q (.bl (decide (r.num*(s.den:Int)<s.num*(r.den:Int)))) H;rw[e];erw[k]
def fz(H:Hp):List V->List Rat->Prop |[],[]=>True |v::vs,r::rs=>bj H v r/\Bd 2000 r/\fz H vs rs |_,_=>False
theorem fz.go{H H':Hp}(s:aH H H'):∀{vs:List V}{rs:List Rat},fz H vs rs->fz H' vs rs |[],[],_=>trivial |v::vs,r::rs,h=>#[h.1.go s,h.2.1,fz.go s h.2.2] |[],_::_,h=>h.elim |_::_,[],h=>h.elim
theorem fz.length{H:Hp}:∀{vs:List V}{rs:List Rat},fz H vs rs->vs.length=rs.length |[],[],_=>rfl |v::vs,r::rs,h=>by rw[kh,kh,fz.length h.2.2] |[],_::_,h=>h.elim |_::_,[],h=>h.elim
theorem fz.get{H:Hp}:∀{vs:List V}{rs:List Rat}{i:Nat}{v:V},fz H vs rs->vs[i]? =some v->∃r,rs[i]? =some r/\bj H v r/\Bd 2000 r
 |[],[],i,v,_,e=>by simp at e |v::vs,r::rs,0,v',h,e=>by
  let e':v=v':=by simpa using e
  subst e';erw[r,Z,h.1,h.2.1] |v::vs,r::rs,i+1,v',h,e=>by let(r',e1,q):=fz.get h.2.2 (show vs[i]? =some v' by simpa using e);erw[r',by simpa using e1,q] |[],_::_,_,_,h,_=>h.elim |_::_,[],_,_,h,_=>h.elim
inductive y6|mk l xs rs(_:vs=[.ref l])(_:aL K H l xs)(_:fz H xs rs)(_:xs≠[])(_:∀(i:Nat)(v:V)(r:Rat),xs[i]? =some v->rs[i]? =some r->(∀s∈rs,r<=s)->Q v H)
theorem Oi:bu ["some","best","one"] ["some"] (aX Qi):=bD aP
theorem Ek(AA:a1v):a1k "least" 2 y6:=by
 exists AA.aa5.has,Oi,fo λ_=>rfl
 ·let(l,xs,rs,rfl,hl,qg,dM,k):=h
  let nd:=Oi.nd;erw[_,%[pS 1 nd (px K o0 aB),g9 eO Z (rO K Z o0) (aZ 2 nd) (aG (bw (cf (pf (AR AA) hr %[2,1|az])) (aG (pS 1 nd w4)) bC)),aR u8|aG],?_];let hlen:=qg.length;let h0:0<xs.length:=CZ.mpr dM;let e0:=bo h0;erw[_,Z,.inl #[l,xs,0,xs[0],Z,Z,hl,cI aA e0,?_]];erw[_,Z,l,Z,#[_,hl],BN (K:=K) (a:=l) (xs:=xs) (λi O H2=>H2=H/\∃(j:Nat)(b:V)(r:Rat)(v:Option V),xs[j]? =some b/\rs[j]? =some r/\(∀(m:Nat)(s:Rat),m<i->rs[m]? =some s->r<=s)/\O=[some (.ref l),some b,v]) ?_ (λi O H2 _ h=>by rw[h.1];erw[hl]) ?_ ?_]
  ·let(r,e1,_):=qg.get e0
   erw[Z,0,_,r,none,e0,e1,λm s hm=>absurd hm (CU _),Z]
  ·rintro i x O H2 hx ⟨rfl,j,b,r,v,eb,er,hm,rfl⟩
   erw[gh ?_];intro E1;let(t,et,rt,bt):=qg.get hx;let(r2,BU,rb,bb):=qg.get eb;rw[er]at BU;cases BU;erw[_,Z,_,Z,x,b,t,r,Z,rt,rb,bt,bb,_,Z,?_];erw[dW (λhc=>?_) (λhc=>?_)]
   ·let bK:t<r:=kg hc
    erw[_,Z,?_];erw[Z,i,x,t,_,hx,et,λm s wA es=>?_,Z];rcases LH.mp wA with h|h
    ·erw[bW (CP bK) (hm m s h es)]
    ·subst h
     rw[et]at es;cases es;erw[fu]
   ·let Je:¬t<r:=λz=>hc (cu z)
    erw[Z,j,b,r,_,eb,er,λm s wA es=>?_,Z];rcases LH.mp wA with h|h
    ·erw[hm m s h es]
    ·subst h
     rw[et]at es;cases es;erw[tL.mp Je]
  ·rintro O H2 ⟨rfl,j,b,r,v,eb,er,hm,rfl⟩
   erw[_,Z,k j b r eb er λs hs=>?_];let(m,uF,em):=Yd.mp hs;erw[hm m s aw (by rw[bo uF,em])]
inductive a0G|mk a b(_:vs=[.int a,.int b])(_:b≠0)(_:Wd b)(_:∀v H',bj H' v (Rat.divInt a b)->aH H H'->Q v H')
theorem OI:bu ["p","q"] ["p","q"] (aX QA):=bD aP
theorem AS(AA:a1v):a1k "fraction" 3 a0G:=by
 exists AA.aal.has,OI,dY λ_ _=>rfl
 ·let(a,b,rfl,hb,wb,k):=h
  let nd:=OI.nd;erw[_,%[bw (PW.pt (hZ (dj (cf (pf (vR AA) hr %[0|az]))) (ku (dj (cf (pf (vR AA) hr %[1|az])))))) (aG uk) bC,bw (bL (cJ K Z hr.units) u8 aB (bf _)) (aG uk) bC,aR (pf (Ei AA) hr %[0,1|az])|aG],?_];let iw:j6 "int"=true:=by decide
  erw[_,Z,_,"int",Z,Z,_,Z,?_];rw[iw];erw[ba ?_];erw[_,Z,_,"int",Z,Z,_,Z,?_];rw[iw];erw[ba ?_];erw[_,Z,.inl #[_,_,Z,Z,_,Z,?_]];rw[dP hb];erw[ba ?_];erw[_,Z,_,Z,_,_,Z,hb,wb,λt H' nw=>k _ _ (DZ hb Z nw.at') nw.same]
inductive a0N|mk v r(_:vs=[v])(_:bj H v r)(_:Q (.bl true) H)
theorem OE:bu ["thing","p","q"] ["thing"] (aX Qx):=bD aP
theorem a4O(AA:a1v):a1k "is_fraction" 2 a0N:=by
 exists AA.aaj.has,OE,fo λ_=>rfl
 ·let(v,r,rfl,(p,rfl,hp),k):=h
  let nd:=OE.nd;erw[_,%[bw (PW.pt (hZ (dj (cf (cV K AA.B %[0,cK (x:="tuple") (v:=.ty "tuple") Z (AA.B.at "tuple") fN rfl|az]))) (ku (bL (iH K rfl hr.units) (cY K AA.B %[0|az]) aB (bf _))))) (aG (aR j4)) bC,fe o0 (cW K Z (n:=2) Z %[aZ 1 nd,aZ 2 nd|cU]),bw (PW.pt (hZ (dj (cf (pf (vR AA) hr %[1|az]))) (ku (dj (cf (pf (vR AA) hr %[2|az])))))) (aG (aR j4)) bC,aR (gP (eV mH w4 aB (bf _)) (gN (eV (cJ K Z hr.units) (pf (SH AA) hr %[1,2|az]) aB (bf _))))|aG],?_];let iw:j6 "int"=true:=by decide
  let pG:iz "tuple" "tuple"=true:=by decide
  erw[_,Z,.inl #[_,"tuple","tuple",true,Z,.inr #[Z,_,hp],aA,pG,_,Z,ba ?_]];erw[_,Z,p,_,Z,.inr hp,.inl #[_,_,Z,Z,_,Z,ba ?_]];erw[_,Z,p,_,Z,hp,Z,_,_,Z,_,_,Z,Z,?_];erw[_,Z,_,"int",Z,Z,_,Z,?_];rw[iw];erw[ba ?_];erw[_,Z,_,"int",Z,Z,_,Z,?_];rw[iw];erw[ba ?_];erw[_,Z,_,_,Z,Z,_,Z,?_];rw[cu (den_pos r)];erw[bA ?_];erw[_,Z,_,Z,_,_,Z,.inl #[_,_,Z,Z,?_]];rw[cop r];erw[k]
end
end _c
namespace _c
open PySem PySem.Spec PyProof.Rows _L _d _l
section
def fy(rs:List Int)(r f j t:Int):aj:=.tuple [.tuple (rs.map PyData.int),.int r,.int f,.int j,.int t]
theorem oJ(rs:List Int)(r f j t:Int):dG (fy rs r f j t)=true:=by simp[fy,dG,bS,mK]
theorem mM{v:V}{t:Int}(h:RD K H v (fy rs r f j t)):∃a b,v= .ref a/\aW K H a [.ref b,.int r,.int f,.int j,.int t]/\aW K H b (rs.map V.int):=by let(a,xs,rfl,h1,h2):=h.cF;let(x1,r1,rfl,e1,h2):=h2.cons_inv;let(x2,r2,rfl,e2,h2):=h2.cons_inv;let(x3,r3,rfl,e3,h2):=h2.cons_inv;let(x4,r4,rfl,e4,h2):=h2.cons_inv;let(x5,r5,rfl,e5,h2):=h2.cons_inv;cases h2.nil_inv;cases e2.int_inv;cases e3.int_inv;cases e4.int_inv;cases e5.int_inv;let(b,ys,rfl,h3,h4):=e1.cF;rw[h4.j7]at h3;erw[a,b,Z,h1,h3]
structure gA(rs:List Int)(r f j t:Int):Prop where
 len:rs.length=2\/rs.length=3
 rl:∀z∈rs,1<=z/\z<=100
 r1:1<=r/\r<=50
 f1:1<=f/\f<=50
 j1:1<=j/\j<=50
 t1:1<=t/\t<=100
inductive a0I|mk p(_:vs=[.ref p])(_:gX H p)(_:∀v rs r f j t H',RD K H' v (fy rs r f j t)->gA rs r f j t->bJ p H H'->Q v H')
theorem Oc:bu ["_law_bag_here","_law_kind","_law_most","_law_rails"] ["_law_bag_here"] (aX Qd):=bD aP
theorem a4H(AA:a1v):a1k "_law_machine" 2 a0I:=by
 exists AA.aaI.has,Oc,fo λ_=>rfl
 ·let(p,rfl,bg,k):=h
  let nd:=Oc.nd;erw[_,%[pS 1 nd (pf (fk AA) hr %[0,aB|az]),pS 2 nd (px K (cX %[aB,aB,aB,aB,aB,aB,aB,aB|az]) u8),(pS 3 nd (iE (x:="tuple") (oq K Z) Z (AA.B.at "tuple") fN %[(gO (N:=["_law_axis","_law_bag_here","_law_most"]) (js:=[none,some 0,some 2]) rfl rfl rfl (pN rfl (AA.B.at "range") %[aO cM aB (pf (fk AA) hr %[0,aB|az])|az]) (λ_ _ _ _ _=>(aZ 0 (show List.Nodup (["_law_axis","_law_bag_here","_law_most"]:List Str) by decide+kernel))) (λ_ _ _ _ _=>fP) (λ_ _ _ _ _=>(aO cM aB (pf (fk AA) hr %[1,2|az]))))|az])),(bw (bL (cJ K Z hr.units) u8 aB (bf _)) (aG (aR (cQ %[3,aO cM aB (aO bR aB (pf (fk AA) hr %[0,aB|az])),aO cM aB (aO bR aB (pf (fk AA) hr %[0,aB|az])),aO cM aB (aO bR aB (pf (fk AA) hr %[0,aB|az])),aB|az]))) bC),(aR (cQ %[3,aO cM aB (pf (fk AA) hr %[0,aB|az]),aO cM aB (pf (fk AA) hr %[0,aB|az]),aO cM aB (pf (fk AA) hr %[0,aB|az]),aO cM aB (pf (fk AA) hr %[0,aB|az])|az]))|aG],?_];erw[_,Z,p,8,Z,bg,aA,aA,λkd H1 k0 k1 b1=>?_];erw[bG Z,λl H2 nw=>?_];let b2:bJ p H1 H2:=.fR b1.bF nw.same;let(wQ,mf,ef):=a78 [100,100,100,60,60,20,5,100] k0 k1;let f1:1<=wQ/\wQ<=100:=by
   let h:∀z∈([100,100,100,60,60,20,5,100]:List Int),1<=z/\z<=100:=by decide
   erw[h wQ mf]
  erw[_,Z,.inl #[l,_,_,_,Z,Z,aL.of nw.at',ef,?_]];erw[_,Z,p,2,Z,b2.bF,aA,aA,λax H3 a0 a1 b3=>?_];erw[_,_,Z,Z,_,Z,aw,aw,λD H4 n4=>?_];erw[ac5 (J:=qO 0 (2+ax).toNat) (p:=p) (H:=H3) (2+ax).toNat _ n4 b3.bF aw (λi=>.int (0+(i:Int))) (λi H5 hi _=>#[hi,λy H6 #[e,q]=>#[e,q]]) (λH5 _=>aY _) (λz=>1<=z/\z<=100) ?_ ?_]
  ·intro i H5 Q' hi b5 hq
   erw[_,Z,_,Z,p,wQ,Z,b5.bF,f1.1,aw,λd H6 d0 d1 b6=>?_];erw[_,_,Z,Z,hq _ _ aw b6]
  intro H5 is b5 d5 l5 WW;let p8:=b1.trans (b2.trans (b3.trans b5));erw[D,_,Z,.inl #[aL.of d5,λq H6 n6=>?_]];let b6:bJ p H5 H6:=.fR p8.bF n6.same;let q6:aW K H6 q (is.map V.int):=aW.of n6.at';erw[_,Z,.inl #[_,_,Z,Z,_,Z,?_]];erw[dW (λhc=>?_) (λhc=>?_)]
  ·erw[_,Z,_,Z,p,2,Z,b6.bF,aA,aA,λri H7 ri0 DV b7=>?_]
   erw[_,_,Z,Z,.of_left (cw aA aA),_,_,Z,Z,?_];erw[_,Z,p,2,Z,b7.bF,aA,aA,λfa H8 fa0 fa1 b8=>?_];erw[_,_,Z,Z,.of_left (cw aA aA),_,_,Z,Z,?_];erw[_,Z,p,2,Z,b8.bF,aA,aA,λju H9 ju0 ju1 b9=>?_];erw[_,_,Z,Z,.of_left (cw aA aA),_,_,Z,Z,?_];erw[bG Z,λt gB jg=>?_];let Fy:bJ p H9 gB:=.fR b9.bF jg.same;let X0:=b7.trans (b8.trans (b9.trans Fy));let q10:aW K gB q (is.map V.int):=aW.t (bJ.t b6.bF X0) q6;erw[k (.ref t) is (1+49*ri) (1+49*fa) (1+49*ju) 100 gB (fJ (aW.of jg.at') %[fJ q10 (ug is),dF _,dF _,dF _,dF _|cH]) #[aw,WW,aw,aw,aw,aw] (p8.trans (b6.trans X0))]
  ·erw[_,Z,_,Z,p,50,Z,b6.bF,aA,aA,λri H7 ri0 DV b7=>?_]
   erw[_,_,Z,Z,?_];erw[_,Z,p,50,Z,b7.bF,aA,aA,λfa H8 fa0 fa1 b8=>?_];erw[_,_,Z,Z,?_];erw[_,Z,p,50,Z,b8.bF,aA,aA,λju H9 ju0 ju1 b9=>?_];erw[_,_,Z,Z,?_];erw[_,Z,p,100,Z,b9.bF,aA,aA,λti gB ti0 Gs Fy=>?_];erw[_,_,Z,Z,bG Z,λt jc kA=>?_];let b11:bJ p gB jc:=.fR Fy.bF kA.same;let WZ:=b7.trans (b8.trans (b9.trans (Fy.trans b11)));let Aw:aW K jc q (is.map V.int):=aW.t (bJ.t b6.bF WZ) q6;erw[k (.ref t) is (1+ri) (1+fa) (1+ju) (1+ti) jc (fJ (aW.of kA.at') %[fJ Aw (ug is),dF _,dF _,dF _,dF _|cH]) #[aw,WW,aw,aw,aw,aw] (p8.trans (b6.trans WZ))]
inductive a0R|mk a b(_:vs=[.int a,.int b])(_:0<b)(_:Wd b)(_:∀v H',bj H' v (Rat.divInt a b)->aH H H'->Q v H')
theorem OH:bu ["_law_p","_law_q","_law_one","_law_other_here"] ["_law_p","_law_q"] (aX Qz):=bD aP
theorem El(AA:a1v):a1k "_law_frac" 1 a0R:=by
 exists AA.aaR.has,OH,dY λ_ _=>rfl
 ·let(a,b,rfl,hb,wb,k):=h
  let nd:=OH.nd;erw[_,%[(rL (i:=2) (j:=3) Z nd Z Z aA Z Z %[eK (x:="abs") qJ Z (AA.B.at "abs") tO %[0|az],1|az] rfl),pM eO (bL mH L2 aB (bf _)) (aG (rL (i:=2) (j:=3) Z nd Z Z aA Z Z %[3,aO uq w4 L2|az] Z)),aR (cQ %[aO pO o0 w4,aO pO u8 w4|az])|aG],?_];erw[_,Z,_,Z,_,Z,_,_,Z,?_];erw[pD (λO H2=>H2=H/\∃(x y:Int),O=[some (.int a),some (.int b),some (.int x),some (.int y)]/\0<=x/\0<=y/\Int.gcd x y=Int.gcd a b) (λO _=>match O with|[_,_,_,some (.int y)]=>y.natAbs|_=>0) ?_ ?_ ?_]
  ·erw[Z,_,_,Z,by split<;>lia,aw,?_]
   let h1:(if a<0 then-a else a).natAbs=a.natAbs:=by split<;>lia
   unfold Int.gcd;rw[h1]
  ·rintro O H2 ⟨rfl,x,y,rfl,x0,y0,e⟩
   erw[xB ?_];intro E1;erw[_,Z,_,_,Z,Z,_,Z,?_];erw[dW (λhc=>?_) (λhc=>?_)]
   ·let mR:0<y:=kg hc
    let hy:y≠0:=by lia
    erw[_,Z,_,Z,_,Z,_,_,Z,Z,mR,_,_,Z,?_];erw[#[Z,_,_,Z,y0,qV _ hy,(_A.V8 mR).trans e],?_];show(x%y).natAbs<y.natAbs;have:=qV x hy;have:=vp x mR
    lia
   ·let hy:y=0:=by
     have:¬y>0:=λz=>hc (cu z)
     lia
    subst hy;rw[Int.gcd_zero_right]at e;let ex:x=((Int.gcd a b:Nat):Int):=by lia
    let sP:b≠0:=by lia
    let gp:=_A.EZ (p:=a) sP;let es:_A.sg a b=(Int.gcd a b:Int):=by unfold _A.sg;rw[aV aw]
    let gw:Wd (Int.gcd a b:Int):=by rw[<-es];erw[xN (_A.Nk sP) wb]
    let(e1,e2):=Ey (a:=a) sP;let f1:a/(Int.gcd a b:Int)=(Rat.divInt a b).num:=by rw[<-e1];unfold _A.lowP;rw[es,Yl _ aw]
    let f2:b/(Int.gcd a b:Int)=((Rat.divInt a b).den:Int):=by rw[<-e2];unfold _A.iI;rw[es,Yl _ aw]
    subst ex;erw[_,Z,_,Z,_,_,Z,Z,#[gp,gw],_,Z,_,Z,_,_,Z,Z,#[gp,gw],bG Z,λt H6 n6=>?_];let Xa:=n6.at';simp only[f1,f2]at Xa;erw[k _ _ #[t,Z,aW.of Xa] n6.same]
  ·rintro O H2 Q1 Q2 hq ⟨v1,e1,i,j,e3,e4,kk,e5,q⟩
   erw[v1,e1,i,j,e3,e4,kk,e5,hq _ _ q]
theorem Oq:bu ["_law_thing"] ["_law_thing"] (aX Qm):=bD aP
theorem HV(AA:a1v):a1k "_law_number" 1 Ad:=by
 exists AA.Vo.has,Oq,fo λ_=>rfl
 ·let(v,T,rfl,ty,k):=h
  let nd:=Oq.nd;erw[_,(aG (aR (gP (cV K AA.B %[0,cK (x:="int") (v:=.ty "int") Z (AA.B.at "int") vi rfl|az]) (gN (vN (cV K AA.B %[0,cK (x:="bool") (v:=.ty "bool") rfl (AA.B.at "bool") Y7 rfl|az])))))),?_];erw[_,Z,.inl #[_,T,"int",_,Z,ty,aA,Z,_,Z,?_]];unfold j6 at k;erw[dW (λhc=>?_) (λhc=>?_)]
  ·erw[_,Z,.inl #[_,T,"bool",_,Z,ty,aA,Z,_,Z,?_]]
   rw[hc,lK]at k;erw[k]
  ·rw[xS.mpr hc,mx]at k
   erw[k]
end
section
theorem Mh:iz "tuple" "tuple"=true:=by decide
theorem Ml:iz "list" "list"=true:=by decide
abbrev Itm:=Option (List Int × Int)
def itR(d:aj)(o:Itm):Prop:=(∃ns sp,d=iR ns sp/\o=some (ns,sp))\/∃w x,d= .tuple [.str w,x]/\(w="wait"\/w="tool"\/w="mark")/\dG x=true/\o=none
theorem itR.no(h:itR d o):dG d=true:=by
 rcases h with⟨ns,sp,rfl,_⟩|⟨w,x,rfl,_,h,_⟩
 ·erw[IH _ _]
 ·simp[dG,bS,h]
theorem wq{v:V}(h:RD K H v d)(i:itR d o):∃a w ys,v= .ref a/\aW K H a (.str w::ys)/\(PyData.eqv (.str w) (.str "line")=o.isSome)/\SeqAt.shaped (.str w)=true:=by
 rcases i with⟨ns,sp,rfl,rfl⟩|⟨w,x,rfl,hw,_,rfl⟩
 ·let(a,b,rfl,h1,_):=nP h
  erw[a,_,_,Z,h1,(by show PyData.eqv (.str "line") (.str "line")=true;decide+kernel),aP]
 ·let(a,xs,rfl,h1,h2):=h.cF
  let(x1,r1,rfl,e1,h2):=h2.cons_inv;cases e1.str_inv;erw[a,w,r1,Z,h1,?_,?_]
  ·show PyData.eqv (.str w) (.str "line")=false
   rcases hw with rfl|rfl|rfl<;>decide+kernel
  ·rcases hw with rfl|rfl|rfl<;>decide+kernel
theorem wk:SeqAt.shaped (.str "line")=true:=by decide+kernel
theorem jC(h:itR d (some (ns,sp))):d=iR ns sp:=by
 rcases h with⟨gD,iB,e1,e2⟩|⟨_,_,_,_,_,e2⟩
 ·cases e2;erw[e1]
 ·cases e2
structure cg(ax:Nat)(ds:List aj)(os:List Itm):Prop where
 len:ds.length=os.length
 it:∀(i:Nat)(d:aj)(o:Itm),ds[i]? =some d->os[i]? =some o->itR d o
 ok:∀(i:Nat)(ns:List Int)(sp:Int),os[i]? =some (some (ns,sp))->fA ax 100 ns/\1<=sp/\sp<=20
theorem cg.nil:cg ax [] []:=#[Z,λi d o e=>by simp at e,λi ns sp e=>by simp at e]
theorem tZ{α:Type}{xs:List α}{x y:α}{j:Nat}(e:(xs++[x])[j]? =some y):xs[j]? =some y\/(j=xs.length/\y=x):=by
 by_cases hj:j<xs.length
 ·rw[mq hj]at e;erw[.inl e]
 ·let wB:j=xs.length:=by
   have:=(cm.mp e).1;rw[cy]at this;have:j<xs.length+1:=this
   lia
  rw[wB,nj (aY _),CT]at e;erw[.inr #[wB,(eQ e).symm]]
theorem cg.snoc{ax:Nat}{ds:List aj}{os:List Itm}{d:aj}{o:Itm}(h:cg ax ds os)(i:itR d o)(g:∀ns sp,o=some (ns,sp)->fA ax 100 ns/\1<=sp/\sp<=20):cg ax (ds++[d]) (os++[o]):=by
 let hl:=h.len;erw[by rw[cy,cy,h.len];rfl,λj d' o' e1 e2=>?_,λj ns sp e=>?_]
 ·rcases tZ e1 with e1|⟨j1,rfl⟩
  ·rcases tZ e2 with e2|⟨j2,rfl⟩
   ·erw[h.it j d' o' e1 e2]
   ·have:=(cm.mp e1).1;lia
  ·rcases tZ e2 with e2|⟨j2,rfl⟩
   ·have:=(cm.mp e2).1;lia
   ·erw[i]
 ·rcases tZ e with e|⟨_,e⟩
  ·erw[h.ok j ns sp e]
  ·erw[g ns sp e.symm]
theorem cg.no{ax:Nat}{ds:List aj}{os:List Itm}(h:cg ax ds os):bS ds=true:=cj.mpr λd hd=>by let(i,hi):=vm.mp hd;let hl:=(cm.mp hi).1;exact(h.it i d _ hi (bo (by rw[<-h.len];erw[hl]))).no
theorem cg.get{ax:Nat}{ds:List aj}{os:List Itm}(h:cg ax ds os){i:Nat}{d:aj}(e:ds[i]? =some d):∃o,os[i]? =some o/\itR d o:=by let hl:=(cm.mp e).1;let e2:=bo (show i<os.length by rw[<-h.len];erw[hl]);erw[_,e2,h.it i d _ e e2]
theorem aI.vD(dl:H l=some (.lst ys))(r:aI K H ys ds)(rd:RD K H y d)(n1:bS ds=true)(n2:dG d=true):aI K (_L.upd H l (.lst (ys++[y]))) (ys++[y]) (ds++[d]):=by let t:eZ H (_L.upd H l (.lst (ys++[y]))):=.iO dl;exact(aI.t t _ n1 r).append %[RD.t t _ n2 rd|cH]
inductive a0P|mk v d o(_:vs=[v])(_:RD K H v d)(_:itR d o)(_:Q (.bl o.isSome) H)
theorem Ox:bu ["item"] ["item"] (aX Qq):=bD aP
theorem vS(AA:a1v):a1k "is_line" 1 a0P:=by
 exists AA.aag.has,Ox,fo λ_=>rfl
 ·let(v,d,o,rfl,ri,it,k):=h
  let nd:=Ox.nd;erw[_,(aG (aR (eV (cJ K Z hr.units) (px K o0 aB) eU (bf _)))),?_];let(a,wd,ys,rfl,h1,ew,sw):=wq ri it;erw[_,Z,.inr #[a,_,0,.str wd,Z,Z,h1,cI (fD 0) Z,.inr #[_,_,cL _,cL _,sw,wk,?_]]];rw[ew];erw[k]
theorem MK{H:Hp}:∀{xs:List V}{zs:List Str},aI K H xs (zs.map PyData.str)->xs=zs.map V.str |xs,[],h=>h.nil_inv |xs,n::ns,h=>by let(y,ys,rfl,h1,h2):=h.cons_inv;rw[h1.str_inv,MK h2];rfl
theorem adh:kY.cps.toList.length=26:=by decide+kernel
theorem O5:bu ["_law_bag_here","_law_kind","_law_letters"] ["_law_bag_here"] (aX Q7):=bD aP
end
section
theorem KL{xs:List α}(h:xs.getLast? =some x):eY xs (-1)=some x:=by
 unfold eY iS;let hl:xs≠[]:=by intro e;rw[e]at h;cases h
 let h0:0<xs.length:=CZ.mpr hl;rw[aV aA,aQ aw];rw[Ye]at h;show xs[((-1:Int)+(xs.length:Int)).toNat]? =some x;let e:((-1:Int)+(xs.length:Int)).toNat=xs.length-1:=by lia
 rw[e];erw[h]
end
end _c
namespace _c
open PySem PySem.Spec PyProof.Rows _L _d
section
def Yz(ns:List Int):aj:=.tuple (ns.map λz=>cA (Rat.divInt z (_l.aF ns)))
theorem nH(r:Rat):dG (cA r)=true:=by simp[cA,dG,bS]
theorem SS{α:Type}{f:α->aj}(h:∀a,dG (f a)=true)(l:List α):bS (l.map f)=true:=cj.mpr λd hd=>by let(a,_,rfl):=gC.mp hd;erw[h a]
inductive a09|mk v ns sp(_:vs=[v])(_:RD K H v (iR ns sp))(_:fA ns.length 1000 ns)(_:ns.length<=1000)(_:∀v' H',RD K H' v' (Yz ns)->aH H H'->Q v' H')
theorem Nt:bu ["line","lead"] ["line"] (aX P5):=bD aP
theorem Sm(AA:a1v):a1k "ways_of" 4 a09:=by
 exists AA.a9O.has,Nt,fo λ_=>rfl
 ·let(v,ns,sp,rfl,rd,ok,hz,k):=h
  let nd:=Nt.nd;erw[_,%[pS 1 nd (pf (yx AA) hr %[0|az]),(aR (iE (x:="tuple") (oq K Z) Z (AA.B.at "tuple") fN %[gO (N:=["step","lead"]) (js:=[none,some 1]) rfl rfl rfl (oF K rfl (px K o0 aB)) (λ_ _ _ _ _=>(aZ 0 (gu aA))) (λ_ _ _ _ _=>fP) (λ_ _ _ _ _=>(pf (AS AA) hr %[0,1|az]))|az]))|aG],?_];erw[_,Z,v,ns,sp,Z,rd,ok.ne,hz,λH1 s1=>?_];let(a,b,rfl,ha,hb):=nP (RD.mono s1 _ rd);let(lp,lm):=ok.lead;erw[_,Z,.inr #[a,_,1,.ref b,Z,Z,ha,Z,b,Z,#[_,hb],λD H0 nw=>?_]];erw[Fi (K:=K) (xs:=ns.map V.int) (ds:=ns.map λz=>cA (Rat.divInt z (_l.aF ns))) _ hb nw (by simp) (by simpa using hz) (SS (λ_=>nH _) _) ?_ ?_]
  ·intro i x d H2 Q' ex ed s2 hq
   let(n,en,rfl):=pW ed;cases Ba ex en;erw[_,Z,_,Z,n,_,Z,bZ,jv (n:=20) bZ aA,λv3 H3 r3 s3=>?_];erw[hq _ _ s3 r3.rd]
  ·intro H' ys s2 d2 r2
   erw[D,_,Z,.inl #[aL.of d2,λt H4 n4=>?_]];erw[k _ _ (fJ (aW.of n4.at') (aI.mono n4.same _ r2)) (s1.trans (s2.trans n4.same))]
end
end _c
namespace _c
open PySem PySem.Spec PyProof.Rows _L
section
theorem pG:iz "tuple" "tuple"=true:=by decide
theorem Yy(d:aj):(∃i,d= .int i/\j6 (kn d)=true)\/(j6 (kn d)=false/\∀i,d≠ .int i):=by cases d with |int i=>erw[.inl #[i,Z,by simp[kn];decide]] |_=>erw[.inr #[by simp[kn];decide,λ_ z=>nomatch z]]
theorem Gp(d:aj):(∃ds,d= .tuple ds)\/(iz (kn d) "tuple"=false/\∀ds,d≠ .tuple ds):=by cases d with |tuple ds=>erw[.inl #[ds,Z]] |_=>erw[.inr #[by simp[kn];decide,λ_ z=>nomatch z]]
def ib(lo hi:Int):aj->Bool | .int i=>decide (lo<=i)&&decide (i<=hi) |_=>false
theorem a7a{lo hi:Int}(h:∀i,d≠ .int i):ib lo hi d=false:=by cases d<;>first|rfl|erw[absurd rfl (h _)]
inductive a0a|mk v d lo hi(_:vs=[v,.int lo,.int hi])(_:RD K H v d)(_:Q (.bl (ib lo hi d)) H)
theorem Nu:bu ["thing","low","high"] ["thing","low","high"] (aX P6):=bD aP
theorem AN(AA:a1v):a1k "is_whole_within" 2 a0a:=by
 exists AA.aa8.has,Nu,kG λ_ _ _=>rfl
 ·let(v,d,lo,hi,rfl,rd,k):=h
  let nd:=Nu.nd;erw[_,(aG (aR (gP (pf (vR AA) hr %[0|az]) (gN (a3F Ef Ef u8 o0 w4))))),?_];erw[_,Z,_,_,Z,rd.ty,_,Z,?_];rcases Yy d with⟨i,rfl,e⟩|⟨e,hn⟩
  ·cases rd.int_inv
   rw[e];erw[bA ?_];let k:Q (.bl (decide (lo<=i)&&decide (i<=hi))) H:=k;erw[_,Z,_,Z,_,_,Z,Z,_,Z,?_];erw[dW (λhc=>?_) (λhc=>?_)]
   ·let kC:decide (lo<=i)=true:=hc
    rw[kC,lK]at k;erw[_,Z,_,_,Z,Z,k]
   ·let kC:decide (lo<=i)=false:=xS.mpr hc
    rw[kC,mx]at k;erw[k]
  ·rw[e]
   erw[ba ?_];rw[a7a hn]at k;erw[k]
end
end _c
namespace _c
open PySem PySem.Spec PyProof.Rows _L _d _l _C
section
theorem M8{ns ms:List Int}{i:Nat}{a b:Int}(h1:ns[i]? =some a)(h2:ms[i]? =some b):(dk ns ms)[i]? =some (a*(aF ms:Int)-b*(aF ns:Int)):=by unfold dk;rw[bV,(LR (z:=(a,b))).mpr #[h1,h2]];rfl
def Cj(j:Int)(ns ms:List Int):aj:=if aF (dk ns ms)=0 then .none else cA (Rat.divInt ((j*aF ns*aF ms)^2) ((aF (dk ns ms):Int)^2))
inductive a0W|mk v v1 v2 rs r f j t ns ms cR dh(_:vs=[v,v1,v2])(_:RD K H v (fy rs r f j t))(_:RD K H v1 (iR ns cR))(_:RD K H v2 (iR ms dh))(_:fA ns.length 1000 ns)(_:fA ns.length 1000 ms)(_:ns.length<=1000)(_:1<=j)(_:j<=50)(_:∀v' H',RD K H' v' (Cj j ns ms)->aH H H'->Q v' H')
theorem zip2{ns ms:List Int}(h:ms.length=ns.length){i:Nat}{x y:V}(ex:(ns.map V.int)[i]? =some x)(ey:(ms.map V.int)[i]? =some y):∃a b,ns[i]? =some a/\ms[i]? =some b/\x= .int a/\y= .int b:=by rw[bV]at ex ey;cases e1:ns[i]? with |none=>rw[e1]at ex;cases ex |some a=>cases e2:ms[i]? with |none=>rw[e2]at ey;cases ey |some b=>rw[e1]at ex;rw[e2]at ey;erw[a,b,Z,Z,(eQ ex).symm,(eQ ey).symm]
inductive a0c|mk v1 v2 ns ms cR dh(_:vs=[v1,v2])(_:RD K H v1 (iR ns cR))(_:RD K H v2 (iR ms dh))(_:fA ns.length 1000 ns)(_:fA ns.length 1000 ms)(_:ns.length<=1000)(_:∀v' H',bj H' v' (Rat.divInt (aF (dk ns ms)) ((aF ns:Int)*aF ms))->aH H H'->Q v' H')
theorem Nv:bu ["one","other","greatest","way","new_way","p","q","difference"] ["one","other"] (aX P7):=bD aP
theorem a4f(AA:a1v):a1k "greatest_turn" 5 a0c:=by
 exists AA.aak.has,Nv,dY λ_ _=>rfl
 ·let(v1,v2,ns,ms,cR,dh,rfl,Av,uj,eB,fF,hz,k):=h
  let nd:=Nv.nd;let(lp1,lm1):=eB.lead;let(lp2,IG):=fF.lead;let Bn:ms.length<=1000:=by rw[fF.len];erw[hz]
  let a58:fA ms.length 1000 ms:=#[Z,fF.bd,fF.nz];let cb:=Fh (λz hz=>by have:=eB.bd z hz;lia) (λz hz=>by have:=fF.bd z hz;lia) (ns:=ns) (ms:=ms);let L0:(0:Int)<(aF ns:Int)*aF ms:=hJ aw aw;let Lb:((aF ns:Int)*aF ms).natAbs<=1000*1000:=mL aw aw;let ahf:(dk ns ms).length=ns.length:=by simp[dk,fF.len]
  let UQ:∀c:Int,c.natAbs<=2000000->Bd 2000 (Rat.divInt c ((aF ns:Int)*aF ms)):=λc hc=>(nL (n:=30) aw aw aw).mono aA;erw[_,%[pS 2 nd (cQ %[aB,aB|az]),(g9 eO Z (kQ K Z false false Z (AA.B.at "zip") %[pf (Sm AA) hr %[0|az],pf (Sm AA) hr %[1|az]|az]) (cW K rfl (n:=2) rfl %[aZ 3 nd,aZ 4 nd|cU]) %[fe (pf (a4F AA) hr %[4,3|az]) (cW K Z (n:=2) Z %[aZ 5 nd,aZ 6 nd|cU]),(pS 7 nd (cQ %[eK (x:="abs") qJ Z (AA.B.at "abs") tO %[5|az],6|az])),bw (cf (pf (AR AA) hr %[2,7|az])) (aG (pS 2 nd a1b)) bC|aG]),aR w4|aG],?_];erw[bG Z,λg0 H1 n1=>?_];erw[_,Z,v1,ns,cR,Z,RD.mono n1.same _ Av,eB,hz,λw1 H2 r2 s2=>?_];let t2:=n1.same.trans s2;erw[_,Z,v2,ms,dh,Z,RD.mono t2 _ uj,a58,Bn,λw2 H3 r3 s3=>?_];let t3:=t2.trans s3;let(c1,xs1,rfl,h1,q1):=(RD.mono s3 _ r2).cF;let(c2,xs2,rfl,h2,q2):=r3.cF;let l1:=q1.length;let l2:=q2.length;rw[bB]at l1 l2;erw[c1,c2,Z,#[_,h1],#[_,h2],?_];erw[Jy (K:=K) (b1:=false) (b2:=false) (xs:=xs1) (ys:=xs2) ns.length (by rw[l1,l2,fF.len];lia) (λi O H4=>aH H3 H4/\∃g u1 u2 u3 u4 u5,bj H4 g (Rat.divInt (uI (dk ns ms) i) ((aF ns:Int)*aF ms))/\O=[some v1,some v2,some g,u1,u2,u3,u4,u5]) ?_ (λi O H4 _ h=>#[h1.go h.1,h2.go h.1]) ?_ ?_]
  ·erw[aH.refl _,.ref g0,none,none,none,none,none,#[g0,Z,?_],Z]
   let e0:Rat.divInt ((uI (dk ns ms) 0:Nat):Int) ((aF ns:Int)*aF ms)=0:=by show Rat.divInt 0 _=0;erw[Rat.zero_divInt _]
   rw[e0];erw[aW.of (s3 _ _ (s2 _ _ n1.at'))]
  ·rintro i x y O H4 ex ey ⟨s4,g,u1,u2,u3,u4,u5,rg,rfl⟩ T H5 n5
   erw[gh ?_];intro E1;let(d1,e1,rx):=q1.get' i ex;let(d2,e2,ry):=q2.get' i ey;let(a,ea,rfl):=pW e1;let(b,eb,rfl):=pW e2;let qa:=eB.bd a (gZ ea);let qb:=fF.bd b (gZ eb);let cz:=M8 ea eb;let czb:=cb _ (gZ cz);let t5:=s4.trans n5.same;erw[T,_,Z,aW.of n5.at',Z,_,_,Z,_,_,Z,Z,?_];let jy:∀{H':Hp}{v:V}{r:Rat},RD K H' v (cA r)->bj H' v r:=λ{H' v r} h=>by let(p,xs,rfl,h1,h2):=h.cF;have:=h2.j7 (ns:=[r.num,r.den]);subst this;erw[p,Z,h1]
   erw[_,Z,_,Z,y,x,_,_,Z,jy (RD.mono t5 _ ry),jy (RD.mono t5 _ rx),(nL (n:=30) aw aw aw).mono aA,(nL (n:=30) aw aw aw).mono aA,λv6 H6 r6 s6=>?_];let ed:Rat.divInt b (aF ms)-Rat.divInt a (aF ns)=Rat.divInt (b*aF ns-a*aF ms) ((aF ns:Int)*aF ms):=ZY aw aw;let r6:bj H6 v6 (Rat.divInt b (aF ms)-Rat.divInt a (aF ns)):=r6;rw[ed]at r6;let(p6,rfl,h6):=r6;erw[p6,_,Z,h6,Z,_,_,Z,_,_,Z,Z,?_];erw[_,Z,_,Z,_,Z,bG Z,λdd H7 n7=>?_];let oy:=s6.trans n7.same;let rD:bj H7 (.ref dd) (Rat.divInt (((a*(aF ms:Int)-b*(aF ns:Int)).natAbs:Nat):Int) ((aF ns:Int)*aF ms)):=by
    let e:Rat.divInt (((a*(aF ms:Int)-b*(aF ns:Int)).natAbs:Nat):Int) ((aF ns:Int)*aF ms)=xC (Rat.divInt (b*aF ns-a*aF ms) ((aF ns:Int)*aF ms)):=by rw[adb L0,Cv];congr 1;lia
    rw[e];erw[dd,Z,?_];rw[ada,ade];erw[aW.of n7.at']
   let rG:bj H7 g _:=(rg.go n5.same).go oy;let hG:uI (dk ns ms) i<=2000000:=qd λz hz=>cb z (zN hz);erw[_,Z,_,Z,g,.ref dd,_,_,Z,rG,rD,UQ _ aw,UQ _ aw,_,Z,?_];let hs:=a8a cz;erw[dW (λhc=>?_) (λhc=>?_)]
   ·let bK:=(We L0).mp (kg hc)
    erw[_,Z,?_];erw[t5.trans oy,_,_,_,_,_,_,?_,Z];rw[hs,Nat.max_eq_right aw];erw[rD]
   ·let hge:¬_:=λz=>hc (cu ((We L0).mpr z))
    erw[t5.trans oy,_,_,_,_,_,_,?_,Z];rw[hs,Nat.max_eq_left aw];erw[rG]
  ·rintro O H4 ⟨s4,g,u1,u2,u3,u4,u5,rg,rfl⟩
   erw[_,Z,k _ _ ?_ (t3.trans s4)];have:uI (dk ns ms) ns.length=aF (dk ns ms):=by unfold uI;rw[vk aw]
   rw[this]at rg;erw[rg]
theorem OS:bu ["machine","one","other","jump","p","q"] ["machine","one","other"] (aX QI):=bD aP
theorem a51(AA:a1v):a1k "corner_square" 6 a0W:=by
 exists AA.aao.has,OS,kG λ_ _ _=>rfl
 ·let(v,v1,v2,rs,r,f',j,t,ns,ms,cR,dh,rfl,rd,Av,uj,eB,fF,hz,j1,j2,k):=h
  let nd:=OS.nd;let(lp1,lm1):=eB.lead;let(lp2,IG):=fF.lead;let L0:(0:Int)<(aF ns:Int)*aF ms:=hJ aw aw;let Lb:((aF ns:Int)*aF ms).natAbs<=1000*1000:=mL aw aw;let cb:=Fh (λz hz=>by have:=eB.bd z hz;lia) (λz hz=>by have:=fF.bd z hz;lia) (ns:=ns) (ms:=ms);let hH:=qd cb;erw[_,%[pS 3 nd (px K o0 aB),fe (pf (a4f AA) hr %[1,2|az]) (cW K Z (n:=2) Z %[aZ 4 nd,aZ 5 nd|cU]),bw (bL (cJ K Z hr.units) M2 aB (bf _)) (aG (aR fQ)) bC,aR (pf (AS AA) hr %[aO bR (aO bR (aO bR L2 L2) P3) P3,aO bR M2 M2|az])|aG],?_];let(am,bm,rfl,fS,lU):=mM rd;erw[_,Z,.inr #[am,_,3,.int j,Z,Z,fS,Z,?_]];erw[_,Z,_,Z,v1,v2,ns,ms,cR,dh,Z,Av,uj,eB,fF,hz,λv3 H3 r3 s3=>?_];obtain⟨KH⟩:Nonempty (Bd 30 (Rat.divInt (aF (dk ns ms)) ((aF ns:Int)*aF ms))):=⟨nL (n:=30) aw aw aw⟩;let en:=vf (Rat.divInt (aF (dk ns ms)) ((aF ns:Int)*aF ms));obtain⟨R,hR⟩:∃R,Rat.divInt (aF (dk ns ms)) ((aF ns:Int)*aF ms)=R:=#[_,Z];rw[hR]at r3 KH en;let dp:=den_pos R;let Ci:R.num*((aF ns:Int)*aF ms)=aF (dk ns ms)*R.den:=by rw[<-hR]at en;have:=(Rat.divInt_eq_divInt_iff (by rw[hR];lia) aw).mp en;rw[hR]at this;erw[this]
  let nb:=KH.num;let db:=KH.den;let(p3,rfl,h3):=r3;erw[p3,_,Z,h3,Z,_,_,Z,_,_,Z,Z,?_];erw[_,Z,.inl #[_,_,Z,Z,_,Z,?_]];erw[dW (λhc=>?_) (λhc=>?_)]
  ·let h0:R.num=0:=by simpa using hc
   let hl:aF (dk ns ms)=0:=by
    rw[h0,D7]at Ci;rcases Int.mul_eq_zero.mp Ci.symm with h|h
    ·lia
    ·lia
   erw[k .bM H3 ?_ s3];unfold Cj;rw[aQ hl];erw[Au]
  ·let h0:R.num≠0:=by simpa using hc
   let hl:aF (dk ns ms)≠0:=by
    intro z;rw[z]at Ci;have:R.num*((aF ns:Int)*aF ms)=0:=by rw[Ci];erw[D7 _]
    rcases Int.mul_eq_zero.mp this with h|h
    ·erw[h0 h]
    ·lia
   let m1:(j*j).natAbs<=50*50:=mL aw aw;let mU:(2:Nat)^64=18446744073709551616:=by decide
   erw[_,Z,_,Z,_,_,Z,Z,.of_left (cw aw aw),_,Z,_,_,Z,Z,.of_left (cw aw aw),_,Z,_,_,Z,Z,.of_right (cw aw aw),?_];erw[_,Z,_,Z,_,_,Z,Z,.of_left (cw aw aw),?_];erw[_,_,Z,LX h0 h0,?_,λv4 H4 r4 s4=>?_]
   ·erw[jv (n:=60) ?_ aA]
    rw[gL];erw[oH (n:=30) (m:=30) nb nb]
   ·erw[k _ _ ?_ (s3.trans s4)]
    unfold Cj;rw[aV hl];let e:=abW (j:=j) (p:=R.num) (q:=R.den) (h:=aF (dk ns ms)) (L:=(aF ns:Int)*aF ms) h0 aw Ci;rw[e,<-zW]at r4;erw[r4.rd]
def Hw (d:aj):Bool:=ib 10 200 d
inductive a0q|mk v d(_:vs=[v])(_:RD K H v d)(_:Q (.bl (Hw d)) H)
theorem Ov:bu ["thing"] ["thing"] (aX Qp):=bD aP
theorem SA(AA:a1v):a1k "is_rate" 3 a0q:=by
 exists AA.aad.has,Ov,fo λ_=>rfl
 ·let(v,d,rfl,rd,k):=h
  let nd:=Ov.nd;erw[_,(aG (aR (pf (AN AA) hr %[0,dC (x:="LEAST_RATE") Z AA.a9j,dC (x:="GREATEST_RATE") Z AA.a9l|az]))),?_];erw[_,Z,v,d,10,200,Z,rd,k]
inductive a0e|mk v ns sp r(_:vs=[v,.int r])(_:RD K H v (iR ns sp))(_:1<=sp)(_:sp<=20)(_:10<=r)(_:r<=200)(_:∀v' H',bj H' v' (Rat.divInt ((sp*r)^2) 10000)->aH H H'->Q v' H')
theorem MY(a b:Int):a*a*b*b=(a*b)^2:=by rw[fh,fh,kK,ki];ac_rfl
theorem a2I(h1:10<=r)(h2:r<=200):Hw (.int r)=true:=by show(decide (10<=r)&&decide (r<=200))=true;rw[cu h1,cu h2];rfl
theorem Nz:bu ["line","rate","speed"] ["line","rate"] (aX P9):=bD aP
theorem AQ(AA:a1v):a1k "top_square" 4 a0e:=by
 exists AA.a9P.has,Nz,dY λ_ _=>rfl
 ·let(v,ns,sp,r,rfl,rd,s1,s2,r1,r2,k):=h
  let nd:=Nz.nd;erw[_,%[bw (dj (cf (pf (SA AA) hr %[1|az]))) (aG uk) bC,pS 2 nd (px K o0 aB),aR (pf (AS AA) hr %[aO bR (aO bR (aO bR w4 w4) u8) u8,aO bR aB aB|az])|aG],?_];erw[_,Z,_,.int r,Z,dF r,_,Z,?_];rw[a2I r1 r2];erw[ba ?_];let(a,b,rfl,ha,hb):=nP rd;erw[_,Z,.inr #[a,_,2,.int sp,Z,Z,ha,Z,?_]];let m1:(sp*sp).natAbs<=20*20:=by rw[gL];erw[oo aw aw]
  erw[_,Z,_,Z,_,_,Z,Z,.of_left (cw aw aw),_,Z,_,_,Z,Z,.of_left (cw aw aw),_,Z,_,_,Z,Z,.of_right (cw aw aw),?_];erw[_,_,Z,Z,.of_left (cw aA aA),?_];erw[_,_,Z,aA,jv (n:=20) aA aA,λv' H' r' s'=>k v' H' ?_ s'];rw[MY]at r';erw[r']
inductive a0d|mk v ns sp r(_:vs=[v,.int r])(_:RD K H v (iR ns sp))(_:1<=sp)(_:sp<=20)(_:10<=r)(_:r<=200)(_:∀v' H',bj H' v' (Rat.divInt ((sp*r)^2) 10000)->aH H H'->Q v' H')
theorem Ny:bu ["_law_line_here","_law_rate"] ["_law_line_here","_law_rate"] (aX P8):=bD aP
end
end _c
namespace _c
open PySem PySem.Spec PyProof.Rows _L _d _l _C _P
open _O (topR cornO mnO betR atO ownF leadF ownL OkI OkIs)
section
theorem y8(n:Nat)(h:n<=1000):n<sizeLine:=xN h aA
theorem jy{v:V}(h:RD K H v (cA r)):bj H v r:=by let(p,xs,rfl,h1,h2):=h.cF;have:=h2.j7 (ns:=[r.num,r.den]);subst this;erw[p,Z,h1]
theorem fA.up{ax:Nat}{ns:List Int}(h:fA ax 100 ns):fA ns.length 1000 ns:=#[Z,λz hz=>by have:=h.bd z hz;lia,h.nz]
theorem cg.nK{ax:Nat}{ds:List aj}{os:List Itm}(h:cg ax ds os):OkIs os:=λi ns sp e=>by unfold atO at e;cases ho:os[i]? with |none=>rw[ho]at e;cases e |some o=>rw[ho]at e;let e':o=some (ns,sp):=e;subst e';let(a,b,c):=h.ok i ns sp ho;erw[a.bd,b,c]
theorem yC(h:aW K H a [.int 0,.int 1]):bj H (.ref a) 0:=#[a,Z,h]
theorem abZ(j:Int)(ns ms:List Int):Cj j ns ms=match cornO j ns ms with|none=>.none|some c=>cA c:=by unfold Cj cornO;split<;>rfl
inductive a0Y|mk m v1 v2 rate rs r f j t d1 d2 o1 o2 ax(_:vs=[m,v1,v2,.int rate])(_:RD K H m (fy rs r f j t))(_:1<=j)(_:j<=50)(_:RD K H v1 d1)(_:RD K H v2 d2)(_:itR d1 o1)(_:itR d2 o2)(_:(∀ns sp,o1=some (ns,sp)->fA ax 100 ns/\1<=sp/\sp<=20))(_:(∀ns sp,o2=some (ns,sp)->fA ax 100 ns/\1<=sp/\sp<=20))(qq:ax<=100)(sS:10<=rate)(wK:rate<=200)(Ju:∀v H',bj H' v (betR j rate o1 o2)->aH H H'->Q v H')
theorem OW:bu ["machine","one","other","rate","squares","corner"] ["machine","one","other","rate"] (aX QM):=bD aP
theorem SJ(AA:a1v):a1k "bound_between" 7 a0Y:=by
 let(aN,jW,iA):=AA.wM;exists AA.aas.has,OW,uT λ_ _ _ _=>rfl
 ·let(m,v1,v2,rate,rs,r,f,j,t,d1,d2,o1,o2,ax,rfl,rm,j1,j2,r1,r2,i1,i2,k1,k2,US,bO,rt2,k):=h
  let nd:=OW.nd;erw[_,%[bw (PW.pt (hZ (dj (cf (pf (vS AA) hr %[1|az]))) (ku (dj (cf (pf (vS AA) hr %[2|az])))))) (aG (aR (dC (x:="NOUGHT") Z jW))) bC,(pS 4 nd (cX %[pf (AQ AA) hr %[1,3|az],pf (AQ AA) hr %[2,3|az]|az])),pS 5 nd (pf (a51 AA) hr %[0,1,2|az]),je (bw (bL nJ P3 fQ (bf _)) (aG (eJ (iQ K Z M2 %[5|az]))) bC),aR (pf (Ek AA) hr %[4|az])|aG],?_];erw[_,Z,v1,d1,o1,Z,r1,i1,_,Z,?_];cases o1 with |none=>erw[bA (bA ?_)];have:=k _ H (yC (iA H)) (aH.refl _);erw[this] |some q1=>let(ns,sp):=q1;erw[ba ?_];erw[_,Z,v2,d2,o2,Z,r2,i2,_,Z,?_];cases o2 with |none=>erw[bA ?_];erw[k _ H (yC (iA H)) (aH.refl _)] |some q2=>let(ms,sq):=q2;erw[ba ?_];let e1:=jC i1;let e2:=jC i2;subst e1 e2;let(eB,a1,a2):=k1 ns sp rfl;let(fF,b1,b2):=k2 ms sq rfl;erw[_,Z,_,Z,v1,ns,sp,rate,Z,r1,a1,a2,bO,rt2,λt1 H1 Hl s1=>?_];erw[_,Z,_,Z,v2,ms,sq,rate,Z,RD.mono s1 _ r2,b1,b2,bO,rt2,λt2 H2 Hk s2=>?_];erw[bG Z,λl H3 n3=>?_];let t3:=s1.trans (s2.trans n3.same);let iG:fA ns.length 1000 ms:=#[by rw[eB.len,fF.len],fF.up.bd,fF.nz];erw[_,Z,_,Z,_,Z,m,v1,v2,rs,r,f,j,t,ns,ms,sp,sq,Z,RD.mono t3 _ rm,RD.mono t3 _ r1,RD.mono t3 _ r2,eB.up,iG,by rw[eB.len];lia,j1,j2,λc H4 rc s4=>?_];let T1:Bd 2000 (topR rate sp):=(_O.lN a1 a2 bO rt2).mono aA;let T2:Bd 2000 (topR rate sq):=(_O.lN b1 b2 bO rt2).mono aA;let R1:bj H4 t1 (topR rate sp):=((Hl.go s2).go n3.same).go s4;let R2:bj H4 t2 (topR rate sq):=(Hk.go n3.same).go s4;let t4:=t3.trans s4;rw[abZ]at rc;cases hc:cornO j ns ms with
   |none=>
    rw[hc]at rc;cases rc.AY;erw[λO H5=>H5=H4/\O=[some m,some v1,some v2,some (.int rate),some (.ref l),some .bM],?_,?_]
    ·erw[jZ ?_];intro E1
     erw[_,Z,Z,_,Z,ba ?_];erw[Z,Z]
    rintro O H5 ⟨rfl,rfl⟩;erw[_,Z,l,[t1,t2],[topR rate sp,topR rate sq],Z,aL.of (s4 _ _ n3.at'),#[R1,T1,R2,T2,trivial],by simp,λi v q e1 e2 hq=>?_];let mS:betR j rate (some (ns,sp)) (some (ms,sq))=q:=by
     show mnO (mn _ _) (cornO j ns ms)=q;rw[hc];erw[sj ?_ (hq _ (by simp)) (hq _ (by simp))]
     match i,e2 with |0,e2=>cases e2;erw[.inl rfl] |1,e2=>cases e2;erw[.inr rfl]
    erw[k v _ ?_ t4];rw[mS]
    match i,e1,e2 with |0,e1,e2=>cases e1;cases e2;erw[R1] |1,e1,e2=>cases e1;cases e2;erw[R2]
   |some cq=>
    rw[hc]at rc;let Rc:bj H4 c cq:=jy rc;let Tc:Bd 2000 cq:=(_O.Kr j1 j2 eB.bd fF.bd hc).mono aA;let oh:=s4 _ _ n3.at';let tU:eZ H4 (_L.upd H4 l (.lst ([t1,t2]++[c]))):=.iO oh;erw[λO H5=>H5=_L.upd H4 l (.lst ([t1,t2]++[c]))/\O=[some m,some v1,some v2,some (.int rate),some (.ref l),some c],?_,?_]
    ·erw[jZ ?_];intro E2
     let(pc,rfl,_):=id Rc;erw[_,Z,Z,_,Z,bA ?_];erw[_,Z,.inl #[Z,_,aL.of oh],_,Z,l,[t1,t2],_,Z,Z,oh,y8 _ (Nat.le_of_ble_eq_true Z),?_];erw[Z,Z]
    rintro O H5 ⟨rfl,rfl⟩;let up:∀{v:V}{q:Rat},bj H4 v q->bj (_L.upd H4 l (.lst ([t1,t2]++[c]))) v q:=λ{v q} h=>jy (RD.t tU _ (nH q) h.rd);erw[_,Z,l,[t1,t2,c],[topR rate sp,topR rate sq,cq],Z,aL.of bP,#[up R1,T1,up R2,T2,up Rc,Tc,trivial],by simp,λi v q e1 e2 hq=>?_];let mS:betR j rate (some (ns,sp)) (some (ms,sq))=q:=by
     show mnO (mn _ _) (cornO j ns ms)=q;rw[hc];show mn (mn _ _) cq=q;let h1:=hq _ (show topR rate sp∈[topR rate sp,topR rate sq,cq] by simp);let h2:=hq _ (show topR rate sq∈[topR rate sp,topR rate sq,cq] by simp);let h3:=hq _ (show cq∈[topR rate sp,topR rate sq,cq] by simp);erw[sj ?_ (gE h1 h2) h3]
     match i,e2 with |0,e2=>cases e2;erw[.inl (sj (.inl rfl) h1 h2).symm] |1,e2=>cases e2;erw[.inl (sj (.inr rfl) h1 h2).symm] |2,e2=>cases e2;erw[.inr rfl]
    let sU:aH H (_L.upd H4 l (.lst ([t1,t2]++[c]))):=λb o e=>by let h0:H2 l=none:=n3.no;let e2:=s2 b o (s1 b o e);rw[aU (dH e2 h0)];erw[t4 b o e]
    erw[k v _ ?_ sU];rw[mS]
    match i,e1,e2 with |0,e1,e2=>cases e1;cases e2;erw[up R1] |1,e1,e2=>cases e1;cases e2;erw[up R2] |2,e1,e2=>cases e1;cases e2;erw[up Rc]
end
section
theorem mJ(qs:List Rat):bS (qs.map cA)=true:=SS nH qs
theorem aI.Ai(dl:H l=some (.lst ys))(r:aI K H ys ds)(rd:RD K H y d)(n1:bS ds=true)(n2:dG d=true):aI K (_L.upd H l (.lst (ys.set i y))) (ys.set i y) (ds.set i d):=by let t:eZ H (_L.upd H l (.lst (ys.set i y))):=.iO dl;let r':=aI.t t _ n1 r;let DW:=RD.t t _ n2 rd;clear r rd dl t;generalize _L.upd H l (.lst (ys.set i y))=H' at r' DW;induction ds generalizing ys i with |nil=>cases r'.nil_inv;erw[cH] |cons d0 ds ih=>
 let(y0,yr,rfl,h1,h2):=r'.cons_inv;let n1':bS ds=true:=by rw[bS,fY]at n1;erw[n1.2]
 cases i with |zero=>erw[bX DW h2] |succ i=>erw[bX h1 (ih n1' h2)]
theorem Kq(xs:List V):kX xs (some 1) none=xs.drop 1:=by unfold kX;let e:_H.cn xs.length 0 (some 1)=min 1 xs.length:=_H.Aj _ _ 1;rw[e,_H.Qn];cases xs with |nil=>rfl |cons x xs=>
 let e2:min 1 (x::xs).length=1:=by simp
 rw[e2,vk (by simp)]
inductive a0C|mk m iv rate rs r f j t ds os(_:vs=[m,iv,.int rate])(_:RD K H m (fy rs r f j t))(_:gA rs r f j t)(_:RD K H iv (.tuple ds))(_:cg rs.length ds os)(_:ds.length<=100)(_:10<=rate)(_:rate<=200)(_:∀l ys H',H l=none->H' l=some (.lst ys)->aI K H' ys ((ownL j rate os).map cA)->aH H H'->Q (.ref l) H')
theorem DP:bu ["machine","items","rate","between"] ["machine","items","rate"] (aX Q6):=bD aP
theorem a4C(AA:a1v):a1k "own_bounds" 8 a0C:=by
 let(aN,jW,iA):=AA.wM;exists AA.Vm.has,DP,kG λ_ _ _=>rfl
 ·let(m,iv,rate,rs,r,f,j,t,ds,os,rfl,rm,aK,ri,row,hz,bO,rt2,k):=h
  let nd:=DP.nd;let rN:∀H',RD K H' (.ref aN) (cA 0):=λH'=>(yC (iA H')).rd;erw[_,%[bw (dj (HG K Z u8)) (aG (aR (cX %[dC (x:="NOUGHT") Z jW|az]))) bC,(E4 (i0:=3) nd Z (Or.inl Z) (N:=["one","other","machine","rate"]) (js:=[none,none,some 0,some 2]) Z Z Z (kQ K Z false false Z (AA.B.at "zip") %[1,vM (vE K rfl) u8 (uo aB) yh|az]) (λ_ _ _ _ _=>(cW K rfl (n:=2) rfl %[aZ 0 (show List.Nodup (["one","other","machine","rate"]:List Str) by decide+kernel),aZ 1 (show List.Nodup (["one","other","machine","rate"]:List Str) by decide+kernel)|cU])) (λ_ _ _ _ _=>fP) (λ_ _ _ _ _=>(pf (SJ AA) hr %[2,0,1,3|az]))),aR (aO (Co K Z) (aO (Co K Z) (cX %[dC (x:="NOUGHT") Z jW|az]) L2) (cX %[dC (x:="NOUGHT") Z jW|az]))|aG],?_];let(ia,xs,rfl,hi,dI):=ri.cF;let lx:=dI.length;let ll:=row.len;erw[_,Z,_,.inr (.inl #[_,hi,Z]),?_];cases hd:xs with
  |nil=>
   subst hd;erw[bA ?_];erw[bG Z,λl H1 n1=>?_];erw[k l [.ref aN] H1 n1.no n1.at' ?_ n1.same];let e:os=[]:=by
    have:os.length=0:=by rw[<-ll,<-lx];rfl
    erw[G9.mp this]
   rw[e];erw[bX (rN H1) cH] |cons x0 xr=>
   erw[ba ?_];let dM:os≠[]:=by intro e;rw[e]at ll;rw[hd]at lx;simp at ll lx;rw[ll]at lx;cases lx
   let Bp:0<xs.length:=by rw[hd];simp
   erw[_,Z,_,Z,1,Z,ia,xs,Z,.inr #[hi,?_,λtl H1 n1=>?_]]
   ·rintro⟨h1,_⟩
    let e:_H.cn xs.length 0 (some 1)=min 1 xs.length:=_H.Aj _ _ 1;rw[e]at h1
    lia
   erw[ia,tl,Z,#[_,hi.go n1.same],#[_,aW.of n1.at'],λD H2 n2=>?_];let et:=n1.at';rw[Kq]at et;let AJ:∀(i:Nat)(o:Itm),os[i]? =some o->∀(ns:List Int)(sp:Int),o=some (ns,sp)->fA rs.length 100 ns/\1<=sp/\sp<=20:=λi o e ns sp e'=>row.ok i ns sp (by rw[e,e']);let lr:=aK.len;erw[xn (K:=K) (b1:=false) (b2:=false) (xs:=xs) (ys:=xs.drop 1) (ds:=((List.range (os.length-1)).map (λi=>ownF j rate os (i+1))).map cA) _ Z (hi.go n1.same) (aW.of et) n2 (by rw[qT];simp;lia) (by simp;lia) (mJ _) ?_ ?_]
   ·intro i x y d H3 Q' ex ey ed s3 hq
    let eG:=n1.same.trans s3;rw[qU]at ey;let(d1,e1,r1):=dI.get' i ex;let(d2,e2,r2):=dI.get' (1+i) ey;let(o1,qD,i1):=row.get e1;let(o2,nZ,i2):=row.get e2;let sL:1+i<os.length:=(cm.mp nZ).1;let ij:d=cA (betR j rate o1 o2):=by rw[bV,bV,bo (by simp;lia),xR]at ed;have:=(eQ ed).symm;rw[this];show cA (betR j rate (atO os i) (atO os (i+1)))=_;rw[_O.m8 qD,_O.m8 (show os[i+1]? =some o2 by rw[LJ];erw[nZ])]
    subst ij;erw[_,Z,_,Z,_,Z,_,Z,m,x,y,rate,rs,r,f,j,t,d1,d2,o1,o2,rs.length,Z,RD.mono eG _ rm,aK.j1.1,aK.j1.2,RD.mono eG _ r1,RD.mono eG _ r2,i1,i2,AJ _ _ qD,AJ _ _ nZ,aw,bO,rt2,λv H4 rv s4=>?_];erw[hq _ _ s4 rv.rd]
   ·intro H3 zs s3 d3 r3
    let lz:=r3.length;simp at lz;erw[bG Z,λl1 H4 n4=>?_];erw[_,Z,l1,D,_,zs,Z,Z,aL.of n4.at',aL.of (n4.same _ _ d3),Af _ (by simp;lia),λl2 H5 n5=>?_];erw[bG Z,λl3 H6 n6=>?_];erw[l2,l3,_,_,Z,Z,aL.of (n6.same _ _ n5.at'),aL.of n6.at',Af _ (by simp;lia),λl H7 n7=>?_];let lP:aH H H6:=n1.same.trans (s3.trans (n4.same.trans (n5.same.trans n6.same)));let nl:H l=none:=by cases e:H l with |none=>rfl |some o=>have:=lP _ _ e;rw[n7.no]at this;cases this
    erw[k l _ H7 nl n7.at' ?_ (lP.trans n7.same)];rw[_O.Sd j rate dM,jr,jr];exact(%[rN H7|cH].append (aI.mono (n4.same.trans (n5.same.trans (n6.same.trans n7.same))) _ r3)).append %[rN H7|cH]
end
section
inductive a0A|mk v r z(_:vs=[v,.int z])(_:bj H v r)(_:Bd 2000 r)(_:z.natAbs<2^24)(_:∀v H',bj H' v (r+(z:Rat))->aH H H'->Q v H')
theorem xr_addz{r:Rat}{z:Int}(m:r+(z:Rat)=Rat.divInt (r.num*(1:Nat)+z*r.den) (r.den*(1:Nat))):r.num+z*r.den=(r+(z:Rat)).num/\(r.den:Int)=(r+(z:Rat)).den:=by
 have c:(r.num+z*r.den).natAbs.Coprime r.den:=(Int.gcd_add_mul_right_left (r.den:Int) r.num z).trans r.reduced
 have e:r+(z:Rat)=⟨r.num+z*r.den,r.den,r.den_nz,c⟩:=by rw [m,Rat.mk_eq_divInt,Int.natCast_one,Int.mul_one,Int.mul_one]
 rw [e];exact⟨rfl,rfl⟩
theorem O4:bu ["one","more","p","q"] ["one","more"] (aX Q5):=bD aP
theorem rX(AA:a1v):a1k "plus_whole" 4 a0A:=by
 exists AA.a9X.has,O4,dY λ_ _=>rfl
 ·let(v,r,z,rfl,(p,rfl,hp),br,hz,k):=h
  let nd:=O4.nd;refine ⟨_,%[fe o0 (cW K Z (n:=2) Z %[aZ 2 nd,aZ 3 nd|cU]),aR (cQ %[aO cM w4 (aO bR u8 L2),3|az])|aG],?_⟩
  refine ⟨_,rfl,_,_,rfl,hp,rfl,_,_,rfl,_,_,rfl,rfl,?_⟩
  have bz:Bd 24 (z:Rat):=⟨hz,by show 1<2^24;decide⟩
  obtain ⟨e1,e2⟩:=xr_addz (add_div r z)
  refine ⟨_,rfl,_,rfl,_,rfl,_,_,rfl,rfl,jd (bz.mono aA).wn.bits br.wd.bits,_,_,rfl,rfl,_,rfl,bG Z,fun t H' n=>k _ _ ⟨t,rfl,aW.of ?_⟩ n.same⟩
  rw [← e1,← e2];exact n.at'
theorem yO{os:List Itm}{i:Nat}{ns:List Int}{sp:Int}(h:os[i]? =some (some (ns,sp))):leadF os i=some (aF ns):=by unfold leadF;rw[_O.m8 h];rfl
theorem IM{os:List Itm}{i:Nat}(h:os[i]? =some none):leadF os i=none:=by unfold leadF;rw[_O.m8 h];rfl
theorem Bg{os:List Itm}(h:OkIs os){i m:Nat}(e:leadF os i=some m):m<=100:=by unfold leadF at e;cases ho:atO os i with |none=>rw[ho]at e;cases e |some q=>rw[ho]at e;cases e;let(a,_,_):=h i q.1 q.2 ho;erw[qd λz hz=>by have:=a z hz;lia]
theorem A2{r:Int}{m:Nat}(h1:1<=r)(h2:r<=50)(h3:m<=100):(2*r*(m:Int)).natAbs<2^24:=by
 let lW:(2:Nat)^24=16777216:=by decide
 have:=mL (a:=2*r) (b:=(m:Int)) (m:=100) (n:=100) aw aw;rw[lW];lia
end
section
theorem OK:bu ["machine","items","squares","fall","kept","i"] ["machine","items","squares"] (aX QC):=bD aP
def cP(r f j rate:Int)(os:List Itm):Nat->Rat:=jz os.length (ownF j rate os) (leadF os) (2*r) (2*f)
def E5(r f j rate:Int)(os:List Itm):List Rat:=lst os.length (cP r f j rate os)
theorem a3j(r f j rate:Int)(os:List Itm):(E5 r f j rate os).length=os.length+1:=pX _ _
inductive a0y|mk m iv rate rs r f j t ds os(_:vs=[m,iv,.int rate])(_:RD K H m (fy rs r f j t))(_:gA rs r f j t)(_:RD K H iv (.tuple ds))(_:cg rs.length ds os)(_:ds.length<=30)(_:10<=rate)(_:rate<=200)(_:∀l ys H',H l=none->H' l=some (.lst ys)->aI K H' ys ((E5 r f j rate os).map cA)->aH H H'->Q (.ref l) H')
end
section
theorem NJ:bu ["_law_one","_law_other_here"] ["_law_one","_law_other_here"] (aX Ph):=bD aP
theorem yt(AA:a1v):a1k "_law_sum" 2 (DL (·+·) K):=by
 exists AA.aay.has,NJ,dY λ_ _=>rfl
 ·let(v1,v2,r,s,rfl,(p,rfl,hp),(q,rfl,hq),br,bs,k):=h
  let nd:=NJ.nd;erw[_,(aG (aR (pf (El AA) hr %[aO cM (aO bR (px K o0 aB) (px K u8 aB)) (aO bR (px K u8 aB) (px K o0 aB)),aO bR (px K o0 aB) (px K u8 aB)|az]))),?_];erw[_,Z,.inr #[p,_,0,.int r.num,Z,Z,hp,Z,_,Z,.inr #[q,_,1,.int s.den,Z,Z,hq,Z,_,_,Z,Z,jd br.wn.bits bs.wd.bits,?_]]];erw[_,Z,.inr #[q,_,0,.int s.num,Z,Z,hq,Z,_,Z,.inr #[p,_,1,.int r.den,Z,Z,hp,Z,_,_,Z,Z,jd bs.wn.bits br.wd.bits,?_]]];erw[_,_,Z,Z,?_];erw[_,Z,.inr #[p,_,1,.int r.den,Z,Z,hp,Z,_,Z,.inr #[q,_,1,.int s.den,Z,Z,hq,Z,_,_,Z,Z,jd br.wd.bits bs.wd.bits,?_]]];erw[_,_,Z,hJ (den_pos r) (den_pos s),Dp br bs,λv H' r' s'=>k v H' ?_ s'];show bj H' v (r+s);rw[add_div];erw[r']
theorem Og:bu ["_law_one","_law_other_here"] ["_law_one","_law_other_here"] (aX Qg):=bD aP
theorem Ej(AA:a1v):a1k "_law_less" 1 Nb:=by
 exists AA.aaM.has,Og,dY λ_ _=>rfl
 ·let(v1,v2,r,s,rfl,(p,rfl,hp),(q,rfl,hq),br,bs,k):=h
  let nd:=Og.nd;erw[_,(aG (aR (eV ky (aO bR (px K o0 aB) (px K u8 aB)) (aO bR (px K u8 aB) (px K o0 aB)) (bf _)))),?_];erw[_,Z,.inr #[p,_,0,.int r.num,Z,Z,hp,Z,_,Z,.inr #[q,_,1,.int s.den,Z,Z,hq,Z,_,_,Z,Z,jd br.wn.bits bs.wd.bits,?_]]];erw[_,Z,.inr #[q,_,0,.int s.num,Z,Z,hq,Z,_,Z,.inr #[p,_,1,.int r.den,Z,Z,hp,Z,_,_,Z,Z,jd bs.wn.bits br.wd.bits,?_]]];erw[_,_,Z,Z,?_];let e:decide (r.num*(s.den:Int)<s.num*(r.den:Int))=decide (r<s):=by rw[qY,Lr,Lr,G0]
  show Q (.bl (decide (r.num*(s.den:Int)<s.num*(r.den:Int)))) H;rw[e];erw[k]
theorem Oa:bu ["_law_some","_law_best","_law_one"] ["_law_some"] (aX Qb):=bD aP
theorem yu(AA:a1v):a1k "_law_min" 2 y6:=by
 exists AA.aaG.has,Oa,fo λ_=>rfl
 ·let(l,xs,rs,rfl,hl,qg,dM,k):=h
  let nd:=Oa.nd;erw[_,%[pS 1 nd (px K o0 aB),g9 eO Z (rO K Z o0) (aZ 2 nd) (aG (bw (cf (pf (Ej AA) hr %[2,1|az])) (aG (pS 1 nd w4)) bC)),aR u8|aG],?_];let hlen:=qg.length;let h0:0<xs.length:=CZ.mpr dM;let e0:=bo h0;erw[_,Z,.inl #[l,xs,0,xs[0],Z,Z,hl,cI aA e0,?_]];erw[_,Z,l,Z,#[_,hl],BN (K:=K) (a:=l) (xs:=xs) (λi O H2=>H2=H/\∃(j:Nat)(b:V)(r:Rat)(v:Option V),xs[j]? =some b/\rs[j]? =some r/\(∀(m:Nat)(s:Rat),m<i->rs[m]? =some s->r<=s)/\O=[some (.ref l),some b,v]) ?_ (λi O H2 _ h=>by rw[h.1];erw[hl]) ?_ ?_]
  ·let(r,e1,_):=qg.get e0
   erw[Z,0,_,r,none,e0,e1,λm s hm=>absurd hm (CU _),Z]
  ·rintro i x O H2 hx ⟨rfl,j,b,r,v,eb,er,hm,rfl⟩
   erw[gh ?_];intro E1;let(t,et,rt,bt):=qg.get hx;let(r2,BU,rb,bb):=qg.get eb;rw[er]at BU;cases BU;erw[_,Z,_,Z,x,b,t,r,Z,rt,rb,bt,bb,_,Z,?_];erw[dW (λhc=>?_) (λhc=>?_)]
   ·let bK:t<r:=kg hc
    erw[_,Z,?_];erw[Z,i,x,t,_,hx,et,λm s wA es=>?_,Z];rcases LH.mp wA with h|h
    ·erw[bW (CP bK) (hm m s h es)]
    ·subst h
     rw[et]at es;cases es;erw[fu]
   ·let Je:¬t<r:=λz=>hc (cu z)
    erw[Z,j,b,r,_,eb,er,λm s wA es=>?_,Z];rcases LH.mp wA with h|h
    ·erw[hm m s h es]
    ·subst h
     rw[et]at es;cases es;erw[tL.mp Je]
  ·rintro O H2 ⟨rfl,j,b,r,v,eb,er,hm,rfl⟩
   erw[_,Z,k j b r eb er λs hs=>?_];let(m,uF,em):=Yd.mp hs;erw[hm m s aw (by rw[bo uF,em])]
theorem AO(AA:a1v):a1k "_law_top" 2 a0d:=by
 exists AA.aau.has,Ny,dY λ_ _=>rfl
 ·let(v,ns,sp,r,rfl,rd,s1,s2,r1,r2,k):=h
  let nd:=Ny.nd;erw[_,(aG (aR (pf (El AA) hr %[aO bR (aO bR (aO bR (px K o0 aB) (px K o0 aB)) u8) u8,aB|az]))),?_];let(a,b,rfl,ha,hb):=nP rd;let m1:(sp*sp).natAbs<=20*20:=by rw[gL];erw[oo bZ bZ]
  let m2:(sp*sp*r).natAbs<=400*200:=by rw[gL];erw[oo bZ bZ]
  erw[_,Z,.inr #[a,_,2,.int sp,Z,Z,ha,Z,_,Z,.inr #[a,_,2,.int sp,Z,Z,ha,Z,_,_,Z,Z,.of_left (cw bZ bZ),?_]]];erw[_,Z,_,_,Z,Z,.of_left (cw bZ bZ),_,Z,_,_,Z,Z,.of_left (cw bZ bZ),?_];erw[_,_,Z,aA,jv (n:=20) aA aA,λv' H' r' s'=>k v' H' ?_ s'];rw[MY]at r';erw[r']
def jB(r f:Int)(ld:Nat)(top b e:Rat)(k:Nat):Rat:=mn (mn (b+((r*(2*(1+(k:Int))-1):Int):Rat)) top) (e+((f*(2*((ld:Int)-(1+(k:Int)))+1):Int):Rat))
def Eu(r f:Int)(ld:Nat)(top b e:Rat):List Rat:=(List.range ld).map (jB r f ld top b e)
theorem Ts(h:q=x\/q=y\/q=z)(h1:q<=x)(h2:q<=y)(h3:q<=z):mn (mn x y) z=q:=by
 erw[qS ?_ (gE (gE h1 h2) h3)];rcases h with h|h|h
 ·rw[h];erw[bW (dR _ _) (dR _ _)]
 ·rw[h];erw[bW (dR _ _) (fw _ _)]
 ·rw[h];erw[fw _ _]
theorem Hq{r:Int}{k ld:Nat}(h1:1<=r)(h2:r<=50)(hk:k<ld)(hl:ld<=100):(r*(2*(1+(k:Int))-1)).natAbs<=50*200:=by rw[gL];erw[oo aw aw]
theorem JG{f:Int}{k ld:Nat}(h1:1<=f)(h2:f<=50)(hk:k<ld)(hl:ld<=100):(f*(2*((ld:Int)-(1+(k:Int)))+1)).natAbs<=50*201:=by rw[gL];erw[oo bZ bZ]
theorem kv:(2:Nat)^24=16777216:=by decide
inductive a0H|mk m iv bv ev rate rs r f j t ns sp b e(_:vs=[m,iv,bv,ev,.int rate])(_:RD K H m (fy rs r f j t))(_:gA rs r f j t)(_:RD K H iv (iR ns sp))(_:fA rs.length 100 ns)(_:1<=sp)(_:sp<=20)(_:bj H bv b)(_:bj H ev e)(_:Bd 1800 b)(qq:Bd 1800 e)(sS:10<=rate)(wK:rate<=200)(Ju:∀l ys H',H l=none->H' l=some (.lst ys)->aI K H' ys ((Eu r f (aF ns) (topR rate sp) b e).map cA)->aH H H'->Q (.ref l) H')
theorem mO(h:fA n 100 ns):aF ns<=100:=by have:=h.lead;lia
theorem a2K{α:Type}(g:Nat->α)(i:Nat):(List.range (i+1)).map g=(List.range i).map g++[g i]:=by rw[LM,jr];rfl
theorem Ob:bu ["_law_machine_here","_law_line_here","_law_begin","_law_end","_law_rate","_law_lead_here","_law_found","_law_k","_law_rises","_law_falls"] ["_law_machine_here","_law_line_here","_law_begin","_law_end","_law_rate"] (aX Qc):=bD aP
theorem DY(h:aW K H a [.int z,.int 1]):bj H (.ref a) (z:Rat):=by erw[a,Z,?_];rw[zF,zH];erw[h]
theorem M9{z:Int}(h:z.natAbs<=50*201):Bd 100 (z:Rat):=#[by rw[zF];erw[xN h aA],by rw[zH];decide]
theorem a4G(AA:a1v):a1k "_law_middles" 3 a0H:=by
 exists AA.aaH.has,Ob,Cu λ_ _ _ _ _=>rfl
 ·let(m,iv,bv,ev,rate,rs,r,f,j,t,ns,sp,b,e,rfl,rm,aK,ri,bT,cR,dh,Rb,Re,bb,be,bO,rt2,k):=h
  let nd:=Ob.nd;erw[_,%[pS 5 nd (pf (vQ AA) hr %[1|az]),pS 6 nd (cX az),(g9 eO Z (E6 Z (AA.B.at "range") %[aB,aO cM P3 aB|az]) (aZ 7 nd) %[(pS 8 nd (pf (yt AA) hr %[2,cQ %[aO bR (px K o0 aB) (aO fE (aO bR aB a1b) aB),aB|az]|az])),(pS 9 nd (pf (yt AA) hr %[3,cQ %[aO bR (px K o0 aB) (aO cM (aO bR aB (aO fE P3 a1b)) aB),aB|az]|az])),(eJ (iQ K Z W1 %[(pf (yu AA) hr %[(cX %[8,9,pf (AO AA) hr %[1,4|az]|az])|az])|az]))|aG]),aR W1|aG],?_];let(ma,mb,rfl,fS,lU):=mM rm;let kr:=aK.r1;let j8:=aK.f1;let lr:=aK.len;let mQ:=mO bT;erw[_,Z,iv,ns,sp,Z,ri,bT.ne,by rw[bT.len];omega,λH2 s2=>?_];erw[bG Z,λD H3 n3=>?_];let eG:=s2.trans n3.same;let nD:H D=none:=by cases e:H D with |none=>rfl |some o=>have:=s2 _ _ e;rw[n3.no]at this;cases this
  erw[_,Z,_,_,Z,Z,_,_,Z,#[bZ,bZ,bZ,bZ],?_];let eN:(((aF ns:Int)+1)-1).toNat=aF ns:=by omega
  rw[eN];let tb:Bd 2000 (topR rate sp):=(_O.lN cR dh bO rt2).mono aA;erw[qz (Pv:=λi O H4=>aH H H4/\∃zs v1 v2 v3,H4 D=some (.lst zs)/\aI K H4 zs (((List.range i).map (jB r f (aF ns) (topR rate sp) b e)).map cA)/\O=[some (.ref ma),some iv,some bv,some ev,some (.int rate),some (.int (aF ns)),some (.ref D),v1,v2,v3]) ?_ ?_ ?_]
  ·erw[eG,[],none,none,none,n3.at',cH,Z]
  ·rintro i O H4 Ji ⟨s4,zs,v1,v2,v3,dz,rz,rfl⟩
   erw[gh ?_];intro E3;let lz:=rz.length;rw[bB,bB,iu]at lz;let BH:=Hq kr.1 kr.2 Ji mQ;let BG:=JG j8.1 j8.2 Ji mQ;erw[_,Z,_,Z,.inr #[ma,_,1,.int r,Z,Z,fS.go s4,Z,_,Z,_,_,Z,Z,.of_left (cw aA aA),_,_,Z,Z,_,_,Z,Z,.of_left (cw bZ bZ),?_]];erw[bG Z,λt1 H5 n5=>?_];erw[bv,.ref t1,b,_,Z,Rb.go (s4.trans n5.same),DY (aW.of n5.at'),bb.mono aA,(M9 bZ).mono aA,λu1 H6 jR s6=>?_];let vF:=n5.same.trans s6;erw[_,Z,_,Z,.inr #[ma,_,2,.int f,Z,Z,fS.go (s4.trans vF),Z,_,Z,_,Z,_,_,Z,Z,_,_,Z,Z,.of_left (cw aA aA),_,_,Z,Z,_,_,Z,Z,.of_left (cw bZ bZ),?_]];erw[bG Z,λt2 H7 n7=>?_];erw[ev,.ref t2,e,_,Z,Re.go (s4.trans (vF.trans n7.same)),DY (aW.of n7.at'),be.mono aA,(M9 bZ).mono aA,λu2 H8 oA s8=>?_];let rC:=n7.same.trans s8;let kO:=vF.trans rC;let wY:=kO _ _ dz;erw[_,Z,.inl #[Z,_,aL.of wY],?_];erw[_,Z,_,Z,_,Z,_,Z,iv,ns,sp,rate,Z,RD.mono (s4.trans kO) _ ri,cR,dh,bO,rt2,λtv H9 Rt9 s9=>?_];erw[bG Z,λlq gB jg=>?_];let R1:=jR.go (rC.trans (s9.trans jg.same));let R2:=oA.go (s9.trans jg.same);let R3:=Rt9.go jg.same;erw[lq,[u1,u2,tv],[_,_,topR rate sp],Z,aL.of jg.at',#[R1,(jH bb (by rw[kv];omega)).mono aA,R2,(jH be (by rw[kv];omega)).mono aA,R3,tb,trivial],by simp,λc v q e1 e2 hq=>?_];let mS:jB r f (aF ns) (topR rate sp) b e i=q:=by
    erw[Ts ?_ (hq _ (by simp)) (hq _ (by simp)) (hq _ (by simp))]
    match c,e2 with |0,e2=>cases e2;erw[.inl rfl] |1,e2=>cases e2;erw[.inr (.inr rfl)] |2,e2=>cases e2;erw[.inr (.inl rfl)]
   let Rv:bj gB v q:=by match c,e1,e2 with |0,e1,e2=>cases e1;cases e2;erw[R1] |1,e1,e2=>cases e1;cases e2;erw[R2] |2,e1,e2=>cases e1;cases e2;erw[R3]
   let GZ:=kO.trans (s9.trans jg.same);let VU:=GZ _ _ dz;erw[D,zs,_,Z,Z,VU,y8 _ bZ,?_];let sS:=aI.vD VU (aI.mono GZ _ rz) Rv.rd (mJ _) (nH _);erw[λb o e=>?_,_,_,_,_,bP,?_,Z]
   ·rw[aU (dH e nD)];erw[GZ b o (s4 b o e)]
   ·rw[a2K,jr,mS]
    erw[sS]
  ·rintro O H4 ⟨s4,zs,v1,v2,v3,dz,rz,rfl⟩
   erw[_,Z,k D zs H4 nD dz rz s4]
end
end _c
namespace _c
open PySem PySem.Spec PyProof.Rows _L _d _l _W
section
def iZ(pl:List Int):aj:=.tuple (pl.map PyData.int)
theorem jS(pl:List Int):dG (iZ pl)=true:=by rw[iZ,dG];erw[mK pl]
theorem HL{v:V}(h:RD K H v (iZ pl)):∃a,v= .ref a/\aW K H a (pl.map V.int):=by let(a,xs,rfl,h1,h2):=h.cF;rw[h2.j7]at h1;erw[a,Z,h1]
theorem HK(h:aW K H a (pl.map V.int)):RD K H (.ref a) (iZ pl):=fJ h (ug pl)
def j9(pl:List Int):Itm->List Int |none=>pl |some (ns,_)=>m9 pl ns
theorem bJ.putL(b:bJ p H H1)(hp:l≠p)(nl:H l=none):bJ p H (_L.upd H1 l (.lst xs)):=by
 erw[?_,λc o n e=>?_]
 ·let(c',m',e,ok):=b.bF
  erw[c',m',by rw[aU hp.symm];erw[e],ok]
 ·rw[aU (dH e nl)];erw[b.same c o n e]
inductive a0z|mk p m rs r f j t(_:vs=[.ref p,m])(_:gX H p)(_:RD K H m (fy rs r f j t))(_:gA rs r f j t)(_:∀v pl H',RD K H' v (iZ pl)->lj rs pl->bJ p H H'->Q v H')
theorem O3:bu ["_law_bag_here","_law_machine_here"] ["_law_bag_here","_law_machine_here"] (aX Q4):=bD aP
theorem a4A(AA:a1v):a1k "_law_place" 2 a0z:=by
 exists AA.aaE.has,O3,dY λ_ _=>rfl
 ·let(p,m,rs,r,f,j,t,rfl,bg,rm,pQ,k):=h
  let nd:=O3.nd;erw[_,(aG (aR (iE (x:="tuple") (oq K Z) Z (AA.B.at "tuple") fN %[gO (N:=["_law_rail","_law_bag_here"]) (js:=[none,some 0]) rfl rfl rfl (oF K rfl (px K u8 aB)) (λ_ _ _ _ _=>(aZ 0 (gu aA))) (λ_ _ _ _ _=>fP) (λ_ _ _ _ _=>(pf (fk AA) hr %[1,aO cM o0 aB|az]))|az]))),?_];let(ma,mb,rfl,fS,lU):=mM rm;let lr:=pQ.len;erw[_,Z,.inr #[ma,_,0,.ref mb,Z,Z,fS,cI (fD 0) Z,mb,Z,#[_,lU],λD H1 n1=>?_]];erw[Wt (K:=K) (J:=uY K mb) (p:=p) (H:=H) rs.length _ n1 bg aw (λi=>.int (rs.getD i 0)) (λi H2 hi b2=>?_) (λH2 b2=>?_) (λi d=>∃z r,d= .int z/\rs[i]? =some r/\0<=z/\z<=r) ?_ ?_]
  ·let UD:=lU.t (bJ.t bg b2)
   let e:(rs.map V.int)[i]? =some (.int (rs.getD i 0)):=by rw[bV,vn,bo hi];rfl
   erw[#[_,_,UD,e],λy H3 #[e3,y3]=>#[e3,by have:=y3 _ UD;rw[e]at this;exact(eQ this).symm]]
  ·erw[_,lU.t (bJ.t bg b2),by rw[bB];erw[aY _]]
  ·intro i H2 Q' hi b2 hq
   let er:rs[i]? =some (rs.getD i 0):=by rw[vn,bo hi];rfl
   let(r0,r1):=pQ.rl _ (gZ er);erw[_,Z,_,Z,_,_,Z,Z,p,_,Z,b2.bF,aw,aw,λz H3 z0 z1 b3=>?_];erw[hq _ _ _ #[z,_,Z,er,z0,aw] Z (dF z) b3]
  ·intro H2 ys ds b2 d2 r2 l2 nl pd
   let uK:∃pl:List Int,ds=pl.map PyData.int/\lj rs pl:=by
    let key:∀(ds:List aj),(∀d∈ds,∃z:Int,d= .int z)->∃pl:List Int,ds=pl.map PyData.int:=by intro ds;induction ds with |nil=>erw[λ_=>#[[],Z]] |cons d ds ih=>intro h;let(z,rfl):=h d (.head _);let(pl,rfl):=ih λx hx=>h x (.tail _ hx);erw[z::pl,Z]
    let(pl,rfl):=key ds λd hd=>by let(i,hi):=vm.mp hd;let(z,_,e,_):=pd i d hi;erw[z,e]
    erw[pl,Z,by simpa using l2,λi x r e1 e2=>?_];let(z,r',e,er,h0,h1):=pd i (.int x) (by rw[bV,e1];rfl);cases e;rw[e2]at er;cases er;erw[h0,h1]
   let(pl,rfl,on):=uK;erw[D,_,Z,.inl #[aL.of d2,λt H3 n3=>?_]];let et:=n3.at';rw[r2.j7]at et;erw[k (.ref t) pl H3 (HK (aW.of et)) on (b2.trans (.fR b2.bF n3.same))]
inductive a0K|mk p m rs r f j t x pl mo(_:vs=[.ref p,m,x,.int mo])(_:gX H p)(_:RD K H m (fy rs r f j t))(_:gA rs r f j t)(_:RD K H x (iZ pl))(_:lj rs pl)(_:1<=mo)(_:mo<=100)(_:∀v ns sp H',RD K H' v (iR ns sp)->fA rs.length 100 ns->1<=sp->sp<=20->lj rs (m9 pl ns)->bJ p H H'->Q v H')
def gI(rs pl is:List Int)(mo:Int):Prop:=∀(j:Nat)(z a r:Int),is[j]? =some z->pl[j]? =some a->rs[j]? =some r->0<=a+z/\a+z<=r/\(z.natAbs:Int)<=mo
theorem gI.on{is:List Int}(h:gI rs pl is mo)(lp:pl.length=rs.length)(ls:is.length=pl.length):lj rs (m9 pl is):=by
 erw[by rw[xA ls];erw[lp],?_];intro j x r ej qC;let hj:j<pl.length:=by have:=(cm.mp ej).1;rw[xA ls]at this;erw[this]
 let VL:=KW (bo hj) (bo (show j<is.length by lia));rw[ej]at VL;let ej3:=eQ VL;have:=h j _ _ r (bo (show j<is.length by lia)) (bo hj) qC
 lia
theorem gI.bd{is:List Int}(h:gI rs pl is mo)(lp:pl.length=rs.length)(ls:is.length=pl.length):∀z∈is,(z.natAbs:Int)<=mo:=λz nQ=>by let(j,hj):=vm.mp nQ;let UH:=(cm.mp hj).1;exact(h j z _ _ hj (bo (show j<pl.length by lia)) (bo (show j<rs.length by lia))).2.2
theorem gI.snoc{rs pl is:List Int}{mo z a r:Int}(h:gI rs pl is mo)(ea:pl[is.length]? =some a)(er:rs[is.length]? =some r)(hz:0<=a+z/\a+z<=r/\(z.natAbs:Int)<=mo):gI rs pl (is++[z]) mo:=by
 intro j z' a' r' ej mX qC;by_cases hj:j<is.length
 ·rw[mq hj]at ej
  erw[h j z' a' r' ej mX qC]
 ·let wB:j=is.length:=by
   have:=(cm.mp ej).1;rw[cy]at this;have:j<is.length+1:=this
   lia
  rw[wB,nj (aY _),CT]at ej;cases ej;rw[wB]at mX qC;rw[ea]at mX;rw[er]at qC;cases mX;cases qC;erw[hz]
theorem gI.set{is:List Int}(h:gI rs pl is mo)(ea:pl[i]? =some a)(er:rs[i]? =some r)(hz:0<=a+z/\a+z<=r/\(z.natAbs:Int)<=mo):gI rs pl (is.set i z) mo:=by
 intro j z' a' r' ej mX qC;by_cases hj:j=i
 ·subst hj
  rw[ea]at mX;rw[er]at qC;cases mX;cases qC;let hl:j<is.length:=by have:=(cm.mp ej).1;rwa [xQ]at this
  rw[D5 hl]at ej;cases ej;erw[hz]
 ·rw[LS (kJ hj)]at ej
  erw[h j z' a' r' ej mX qC]
theorem Oe:bu ["_law_bag_here","_law_machine_here","_law_place_here","_law_most","_law_steps","_law_flat","_law_axis","_law_stand_here","_law_low","_law_high"] ["_law_bag_here","_law_machine_here","_law_place_here","_law_most"] (aX Qe):=bD aP
theorem a4J(AA:a1v):a1k "_law_line" 2 a0K:=by
 exists AA.aaL.has,Oe,uT λ_ _ _ _=>rfl
 ·let(p,m,rs,r,f,j,t,x,pl,mo,rfl,bg,rm,pQ,rx,on,Tq,Tp,k):=h
  let nd:=Oe.nd;erw[_,%[pS 4 nd (cX az),pS 5 nd (pf (fk AA) hr %[0,aB|az]),(g9 eO Z (AB K Z false Z (AA.B.at "enumerate") %[2|az]) (cW K rfl (n:=2) rfl %[aZ 6 nd,aZ 7 nd|cU]) %[pS 8 nd (eK (x:="max") (aco Z) Z (AA.B.at "max") LD %[aB,aO fE a1b L2|az]),pS 9 nd (eK (x:="min") (Kw Z) Z (AA.B.at "min") Y6 %[px K (px K u8 aB) W1,aO cM a1b L2|az]),(eJ (iQ K Z M2 %[aO fE (aO cM (pv 8) (pf (fk AA) hr %[0,aO cM (aO fE a1j (pv 8)) aB|az])) a1b|az])),bw (bL (cJ K Z hr.units) P3 W1 (bf _)) (aG (fe aB (rP M2 W1 set_list))) bC|aG]),(je (bw (dj (cf (eK (x:="any") (ad0 K Z Z) Z (AA.B.at "any") Y8 %[4|az]))) %[(pS 6 nd (pf (fk AA) hr %[0,cY K AA.B %[4|az]|az])),fe (aO fE aB (aO bR aB (iE (x:="int") zk Z (AA.B.at "int") vi %[eV mH (px K w4 W1) aB (bf _)|az]))) (rP M2 W1 set_list)|aG] bC)),(aR (cQ %[eU,iE (x:="tuple") (oq K Z) Z (AA.B.at "tuple") fN %[4|az],aO cM aB (pf (fk AA) hr %[0,aB|az])|az]))|aG],?_];let lr:=pQ.len;let lp:=on.len;let(ma,mb,rfl,fS,lU):=mM rm;let(xa,rfl,J0):=HL rx;erw[bG Z,λl H1 n1=>?_];let b1:bJ p H H1:=.fR bg n1.same;let yN:l≠p:=λz=>bg.ne (z▸n1.no);erw[_,Z,p,4,Z,b1.bF,aA,aA,λfl H2 f0 f1 b2=>?_];let X7:=b1.trans b2;let ZS:=bJ.t bg X7;erw[_,Z,xa,Z,#[_,J0.t ZS],BO (K:=K) (b:=false) (a:=xa) (xs:=pl.map V.int) (λi O H3=>bJ p H H3/\∃(is:List Int)(v1 v2 v3 v4:Option V),H3 l=some (.lst (is.map V.int))/\is.length=i/\gI rs pl is mo/\O=[some (.ref p),some (.ref ma),some (.ref xa),some (.int mo),some (.ref l),some (.int fl),v1,v2,v3,v4]) ?_ (λi O H3 _ h=>J0.t (bJ.t bg h.1)) ?_ ?_]
  ·erw[X7,[],none,none,none,none,b2.same _ _ yN n1.at',Z,λj z a r e=>by simp at e,Z]
  ·rintro i y O H3 hy ⟨b3,is,v1,v2,v3,v4,dl,li,hz,rfl⟩ T H4 n4
   erw[gh ?_];intro E1;rw[bV]at hy;let(a,ea,rfl):=zJ.mp hy;let UI:i<pl.length:=(cm.mp ea).1;obtain⟨rl,er⟩:∃rl,rs[i]? =some rl:=#[_,bo (show i<rs.length by lia)];let(a0,a1):=on.at' i a rl ea er;let(r0,r1):=pQ.rl rl (gZ er);let b4:bJ p H H4:=b3.trans (.fR b3.bF n4.same);let t4:=bJ.t bg b4;let oh:=n4.same _ _ dl;let atr:eY (rs.map V.int) (i:Int)=some (.int rl):=cI aw (by rw[bV];simp[er]);erw[T,_,Z,aW.of n4.at',Z,_,_,Z,_,_,Z,Z,?_];erw[_,Z,_,Z,_,_,Z,Z,_,_,Z,?_];obtain⟨low,abo,lo0,lo1,lo2⟩:∃low:Int,(if a-mo>0 then a-mo else 0)=low/\0<=low/\a-mo<=low/\low<=a:=#[_,Z,by split<;>lia,by split<;>lia,by split<;>lia];rw[abo];erw[_,Z,.inr #[ma,_,0,.ref mb,Z,Z,fS.t t4,Z,_,Z,.inr #[mb,_,_,.int rl,Z,Z,lU.t t4,atr,_,Z,_,Z,_,_,Z,Z,_,_,Z,?_]]];obtain⟨hi,wX,hi0,EV,sL⟩:∃hi:Int,(if a+mo<rl then a+mo else rl)=hi/\a<=hi/\hi<=rl/\hi<=a+mo:=#[_,Z,by split<;>lia,by split<;>lia,by split<;>lia];rw[wX];erw[_,Z,.inl #[Z,_,aL.of oh],?_];erw[_,Z,_,Z,_,Z,_,Z,_,_,Z,Z,_,_,Z,Z,p,hi-low+1,Z,b4.bF,aw,aw,λd H5 d0 d1 b5=>?_];erw[_,_,Z,Z,_,Z,_,_,Z,Z,l,_,_,Z,Z,b5.same _ _ yN oh,?_,?_]
   ·rw[bB,li]
    have:(1000:Nat)<sizeLine:=by decide
    lia
   let b6:bJ p H (_L.upd H5 l (.lst (is.map V.int++[.int (low+d-a)]))):=(b4.trans b5).putL yN n1.no;let e6:(_L.upd H5 l (.lst (is.map V.int++[.int (low+d-a)]))) l=some (.lst ((is++[low+d-a]).map V.int)):=by rw[bP,jr];rfl
   generalize _L.upd H5 l (.lst (is.map V.int++[.int (low+d-a)]))=H6 at b6 e6⊢;rw[<-li]at ea er;let MS:=hz.snoc ea er (z:=low+d-a) aw;erw[_,Z,_,Z,.inl #[_,_,Z,Z,_,Z,?_]];erw[dW (λhc=>?_) (λhc=>?_)]
   ·let ix:iS ((is++[low+d-a]).map V.int).length (i:Int)=some i:=by unfold iS;rw[aQ aw,aQ (by rw[bB,cy];show(i:Int)<((is.length+1:Nat):Int);lia)];simp
    erw[_,Z,_,Z,l,_,_,_,Z,Z,e6,ix,?_];erw[b6.putL yN n1.no,(is++[low+d-a]).set i 0,_,_,_,_,by rw[bP,xP],by rw[xQ,cy,li];rfl,?_,Z];rw[li]at ea er;erw[MS.set ea er aw]
   ·erw[b6,is++[low+d-a],_,_,_,_,e6,by rw[cy,li];rfl,MS,Z]
  ·rintro O H3 ⟨b3,is,v1,v2,v3,v4,dl,li,hz,rfl⟩
   rw[bB]at li;let t3:=bJ.t bg b3;erw[λO H4=>bJ p H H4/\∃(is:List Int)(v1:Option V),H4 l=some (.lst (is.map V.int))/\fA rs.length 100 is/\lj rs (m9 pl is)/\O=[some (.ref p),some (.ref ma),some (.ref xa),some (.int mo),some (.ref l),some (.int fl),v1,v2,v3,v4],?_,?_]
   ·erw[jZ ?_];intro E2
    erw[_,Z,l,is,Z,.inl (aL.of dl),_,Z,?_];cases ha:is.any (· !=0)with |false=>
     erw[bA ?_];erw[_,Z,_,Z,l,_,Z,.inl (aL.of dl),p,_,Z,b3.bF,(by rw[bB];lia),(by rw[bB];lia),λax H4 a0 a1 b4=>?_];rw[bB]at a1;let X4:=b3.trans b4;let US:ax.toNat<pl.length:=by lia
     let ea:=bo US;let er:=bo (show ax.toNat<rs.length by lia);let(q0,q1):=on.at' _ _ _ ea er;let(r0,r1):=pQ.rl _ (gZ er);let X9:eY (pl.map V.int) ax=some (.int pl[ax.toNat]):=cI a0 (by rw[bV,ea];rfl);generalize pl[ax.toNat]=qa at ea q0 q1 X9;generalize rs[ax.toNat]=qr at er q1 r0 r1;erw[_,Z,_,Z,.inr #[xa,_,_,_,Z,Z,J0.t (bJ.t bg X4),X9,?_]];erw[_,_,Z,Z,.inr #[_,Z,?_]];erw[_,_,Z,Z,.of_left (cw aA aA),_,_,Z,Z,?_];obtain⟨y,ey,y1,y2,y3⟩:∃y:Int,(1-2*(if decide (qa>0)=true then 1 else 0):Int)=y/\y.natAbs=1/\0<=qa+y/\qa+y<=qr:=by
      by_cases h:qa>0
      ·rw[cu h];erw[-1,Z,Z,aw,aw]
      ·rw[dP h];erw[1,Z,Z,aw,aw]
     let oh:=b4.same _ _ yN dl;let ix:iS (is.map V.int).length ax=some ax.toNat:=by unfold iS;rw[aQ a0,aQ (by rw[bB];lia)]
     erw[_,Z,_,Z,l,_,_,_,Z,Z,oh,ix,?_];let st:=hz.set (i:=ax.toNat) ea er (z:=y) aw;let ls:(is.set ax.toNat y).length=pl.length:=by rw[xQ];lia
     erw[X4.putL yN n1.no,is.set ax.toNat y,_,?_,#[aw,λz nQ=>?_,?_],st.on lp ls,Z]
     ·rw[bP,<-xP]
      simp only[ey]
     ·have:=st.bd lp ls z nQ;lia
     ·erw[y,Yd.mpr #[ax.toNat,by rw[xQ];lia,by rw[List.getElem_set_self]],aw] |true=>
     erw[ba ?_];let ls:is.length=pl.length:=by lia
     erw[b3,is,_,dl,#[aw,λz nQ=>?_,?_],hz.on lp ls,Z]
     ·have:=hz.bd lp ls z nQ;lia
     ·let(z,nQ,h0):=vo.mp ha
      erw[z,nQ,by simpa using h0]
   rintro O H4 ⟨b4,is,v1,dl,ok,Eh,rfl⟩;erw[_,Z,l,_,Z,.inl #[aL.of dl,λq H5 n5=>?_]];let b5:bJ p H H5:=b4.trans (.fR b4.bF n5.same);let qp:q≠p:=λe=>b4.bF.ne (e▸n5.no);erw[_,Z,p,20,Z,b5.bF,aA,aA,λsp H6 p0 p1 b6=>?_];erw[_,_,Z,Z,bG Z,λt H7 n7=>?_];let b7:=b5.trans (b6.trans (.fR b6.bF n7.same));erw[k (.ref t) is (1+sp) H7 (fJ (aW.of n7.at') %[cL _,fJ (aW.of (n7.same _ _ (b6.same _ _ qp n5.at'))) (ug is),dF _|cH]) ok aw aw Eh b7]
end
section
def gU(z:Str):Prop:=∀c∈z.cps.toList,c<0x110000
theorem gU.app(ha:gU a)(hb:gU b):gU (a++b):=λc hc=>by rw[Y3,Yo,jL]at hc;erw[hc.elim (ha c) (hb c)]
theorem gU.joined{sep:Str}(hs:gU sep):∀l:List Str,(∀a∈l,gU a)->gU (PySem.Str.join sep l) |[],_=>λc hc=>by simp[PySem.Str.join,PySem.Str.empty]at hc |[x],h=>h x (.head _) |x::y::r,h=>((h x (.head _)).app hs).app (gU.joined hs (y::r) λa ha=>h a (.tail _ ha))
theorem gU.join(hs:gU sep)(h:∀a∈l,gU a):gU (Txt.join sep l):=by show gU (Builtin.Str.glued sep l);rw[StrLaws.glued_eq_join];erw[gU.joined hs l h]
theorem a4d(h:gU z):e9 n (.str z):=#[by show PyData.strOk z=true;unfold PyData.strOk;rw[afW];erw[λc hc=>cu (h c (by simpa using hc))],fX _]
theorem a4b(h:e9 n (.str z)):gU z:=λc hc=>by let q:PyData.strOk z=true:=h.lay;unfold PyData.strOk at q;rw[afW]at q;erw[kg (q c (by simpa using hc))]
theorem Sl(h:z.cps.all (·<0x110000)=true):gU z:=a4b (n:=0) #[h,fX _]
theorem ML:∀(ds:List aj),(∀d∈ds,∃z:Str,d= .str z/\z.length=1/\gU z/\z.cps.toList.all (λc=>decide (97<=c)&&decide (c<=122))=true)->∃zs:List Str,ds=zs.map PyData.str/\∀z∈zs,z.length=1/\gU z/\z.cps.toList.all (λc=>decide (97<=c)&&decide (c<=122))=true |[],_=>#[[],Z,λ_ h=>nomatch h] |d::ds,h=>by let(z,rfl,e):=h d (.head _);let(zs,rfl,q):=ML ds λx hx=>h x (.tail _ hx);erw[z::zs,Z,λy hy=>by
 rcases dg.mp hy with rfl|hy
 ·erw[e]
 ·erw[q y hy]]
theorem adf:gU kY:=Sl aP
def Iv(c:Nat):Bool:=decide (97<=c)&&decide (c<=122)
def B7(s:Str):Bool:=(decide (1<=s.length)&&decide (s.length<=8))&&s.cps.toList.all Iv
def Si(w s:Str):Prop:=(w="tool"/\(s="up"\/s="down"))\/(w="mark"/\B7 s=true)
def kH(d:aj):Prop:=(∃n,d= .tuple [.str "wait",.int n]/\1<=n/\n<=1000)\/∃w s,d= .tuple [.str w,.str s]/\(w="tool"\/w="mark")/\e9 0 (.str s)/\Si w s
theorem V4:∀l:List Str,(PySem.Str.join ("":Str) l).cps.toList=(l.map λz=>z.cps.toList).flatten
 |[]=>by simp[PySem.Str.join,PySem.Str.empty] |[x]=>by simp[PySem.Str.join] |x::y::r=>by
  show((x++("":Str))++PySem.Str.join ("":Str) (y::r)).cps.toList=_;rw[Y3,Y3,Yo,Yo,V4 (y::r)];have:(("":Str)).cps.toList=[]:=by decide+kernel
  rw[this];simp
theorem a5I(h1:1<=l.length)(h8:l.length<=8)(h:∀z∈l,z.length=1/\z.cps.toList.all Iv=true):B7 (Txt.join ("":Str) l)=true:=by
 let e:(Txt.join ("":Str) l).cps.toList=(l.map λz=>z.cps.toList).flatten:=by show(Builtin.Str.glued ("":Str) l).cps.toList=_;rw[StrLaws.glued_eq_join];erw[V4 l]
 let el:(Txt.join ("":Str) l).length=l.length:=by
  show(Txt.join ("":Str) l).cps.size=_;rw[<-Df,e,List.length_flatten,List.map_map];have:∀(l:List Str),(∀z∈l,z.length=1/\z.cps.toList.all Iv=true)->(l.map (List.length∘λz=>z.cps.toList)).sum=l.length:=by intro l;induction l with |nil=>intro _;rfl |cons a r ih=>
   intro h;rw[CY,List.sum_cons,ih λz hz=>h z (.tail _ hz),kh];have:=(h a (.head _)).1;let e2:(List.length∘λz:Str=>z.cps.toList) a=1:=by show a.cps.toList.length=1;rw[Df];erw[this]
   rw[e2,LJ]
  erw[this l h]
 unfold B7;rw[el,e,cu h1,cu h8,lK,lK,iX];intro c hc;let(cs,qj,iU):=List.mem_flatten.mp hc;let(z,hz,rfl):=gC.mp qj;erw[iX.mp (h z hz).2 c iU]
theorem kH.it(h:kH d):itR d none:=by
 rcases h with⟨n,rfl,_⟩|⟨w,s,rfl,hw|hw,_⟩
 ·erw[.inr #[_,_,Z,.inl Z,Z,Z]]
 ·erw[.inr #[_,_,Z,.inr (.inl hw),Z,Z]]
 ·erw[.inr #[_,_,Z,.inr (.inr hw),Z,Z]]
inductive a0D|mk (p:Addr)(_:vs=[.ref p])(_:gX H p)(_:∀v d H',RD K H' v d->kH d->bJ p H H'->Q v H')
theorem a4D(AA:a1v):a1k "_law_other" 2 a0D:=by
 exists AA.aaF.has,O5,fo λ_=>rfl
 ·let(p,rfl,bg,k):=h
  let nd:=O5.nd;erw[_,%[pS 1 nd (pf (fk AA) hr %[0,aB|az]),(bw (bL (cJ K Z hr.units) u8 aB (bf _)) (aG (aR (cQ %[eU,(aO cM aB (pf (fk AA) hr %[0,px K (cX %[aB,aB|az]) (pf (fk AA) hr %[0,aB|az])|az]))|az]))) bC),(bw (bL (cJ K Z hr.units) u8 aB (bf _)) (aG (aR (cQ %[eU,px K (cX %[eU,eU|az]) (pf (fk AA) hr %[0,aB|az])|az]))) bC),pS 2 nd eU,(aR (cQ %[eU,(a3I K Z eU %[(gO (N:=["_law_turn","_law_letters","_law_bag_here"]) (js:=[none,some 2,some 0]) Z Z Z (pN Z (AA.B.at "range") %[aO cM aB (pf (fk AA) hr %[0,aB|az])|az]) (λ_ _ _ _ _=>(aZ 0 (show List.Nodup (["_law_turn","_law_letters","_law_bag_here"]:List Str) by decide+kernel))) (λ_ _ _ _ _=>fP) (λ_ _ _ _ _=>(S4 a6Y u8 (pf (fk AA) hr %[2,aB|az]) (λ_ _=>rfl))))|az])|az]))|aG],?_];erw[_,Z,p,3,Z,bg,aA,aA,λso H1 s0 s1 b1=>?_];erw[_,Z,.inl #[_,_,Z,Z,_,Z,?_]];erw[dW (λhc=>?_) (λhc=>?_)]
  ·erw[_,Z,bG Z,λc H2' Il=>?_]
   let X5:bJ p H1 H2':=.fR b1.bF Il.same;let cp:c≠p:=λz=>b1.bF.ne (z▸Il.no);erw[_,Z,p,2,Z,X5.bF,aA,aA,λi H3' i0 i1 KI=>?_];let hi:∃z:Int,eY ([.int 1000,.int 2]:List V) i=some (.int z)/\2<=z/\z<=1000:=by
    rcases(show i=0\/i=1 by lia)with rfl|rfl
    ·erw[1000,Z,aA,aA]
    ·erw[2,Z,aA,aA]
   let(z,ez,z2,afX):=hi;erw[.inl #[c,_,_,_,Z,Z,aL.of (KI.same _ _ cp Il.at'),ez,?_]];erw[p,z,Z,KI.bF,aw,aw,λn H2 n0 n1 acQ=>?_];let b2:=X5.trans (KI.trans acQ);erw[_,_,Z,Z,bG Z,λt H3 n3=>?_];erw[k (.ref t) _ H3 (fJ (aW.of n3.at') %[cL _,dF _|cH]) (.inl #[_,Z,aw,aw]) (b1.trans (b2.trans (.fR b2.bF n3.same)))]
  erw[_,Z,.inl #[_,_,Z,Z,_,Z,?_]];erw[dW (λhc=>?_) (λhc=>?_)]
  ·erw[bG Z,λc H2 n2=>?_]
   let b2:bJ p H1 H2:=.fR b1.bF n2.same;let cp:c≠p:=λz=>b1.bF.ne (z▸n2.no);erw[_,Z,p,2,Z,b2.bF,aA,aA,λi H3 i0 i1 b3=>?_];let hi:∃z:Str,eY ([.str "up",.str "down"]:List V) i=some (.str z)/\e9 0 (.str z)/\Si "tool" z:=by
    rcases(show i=0\/i=1 by lia)with rfl|rfl
    ·erw["up",Z,#[aP,aP],.inl #[Z,.inl Z]]
    ·erw["down",Z,#[aP,aP],.inl #[Z,.inr Z]]
   let(z,ez,okz,onz):=hi;erw[.inl #[c,_,_,_,Z,Z,aL.of (b3.same _ _ cp n2.at'),ez,bG Z,λt H4 n4=>?_]];erw[k (.ref t) _ H4 (fJ (aW.of n4.at') %[cL _,cL _|cH]) (.inr #[_,_,Z,.inl Z,okz,onz]) (b1.trans (b2.trans (b3.trans (.fR b3.bF n4.same))))]
  erw[Z,?_];erw[_,Z,p,8,Z,b1.bF,aA,aA,λn H2 n0 n1 b2=>?_];erw[_,_,Z,Z,_,Z,aw,aw,λD H3 nD=>?_];erw[Wt (K:=K) (J:=qO 0 (1+n).toNat) (p:=p) (H:=H2) (1+n).toNat _ nD b2.bF aw (λi=>.int (0+(i:Int))) (λi H3 hi _=>#[hi,λy H4 #[e,q]=>#[e,q]]) (λH3 _=>aY _) (λ_ d=>∃z:Str,d= .str z/\z.length=1/\gU z/\z.cps.toList.all (λc=>decide (97<=c)&&decide (c<=122))=true) ?_ ?_]
  ·intro i H3 Q' hi b3 hq
   erw[_,Z,_,Z,p,26,Z,b3.bF,aA,aA,λd H4 d0 d1 b4=>?_];let hd:d.toNat<kY.cps.toList.length:=by rw[adh];lia
   erw[kY,d,kY.cps.toList[d.toNat],Z,Z,aP,cI d0 (bo hd),?_];let eB:gU ⟨#[kY.cps.toList[d.toNat]]⟩:=λc hc=>by let kC:c=kY.cps.toList[d.toNat]:=gm.mp hc;rw[kC];erw[adf _ (zR hd)]
   let fF:(⟨#[kY.cps.toList[d.toNat]]⟩:Str).cps.toList.all (λc=>decide (97<=c)&&decide (c<=122))=true:=by have:=iX.mp (show kY.cps.toList.all (λc=>decide (97<=c)&&decide (c<=122))=true by decide+kernel) _ (zR hd);show([kY.cps.toList[d.toNat]]:List Nat).all _=true;rw[LW,List.all_nil,M4];erw[this]
   erw[hq _ _ _ #[_,Z,Z,eB,fF] Z (cL _) b4]
  ·intro H3 ys ds b3 d3 r3 l3 nl pd
   let(zs,rfl,hz):=ML ds λd hd=>by let(i,hi):=vm.mp hd;erw[pd i d hi]
   rw[MK r3]at d3;rw[bB]at l3;erw["",D,zs,Z,Z,aL.of d3,λz nQ=>by rw[(hz z nQ).1];decide,aA,aw,bG Z,λt H4 n4=>?_];erw[k (.ref t) _ H4 (fJ (aW.of n4.at') %[cL _,cL _|cH]) (.inr #[_,_,Z,.inr Z,a4d (gU.join (Sl aP) λa ha=>(hz a ha).2.1),.inr #[Z,a5I aw aw λz nQ=>#[(hz z nQ).1,(hz z nQ).2.2]]]) (b1.trans (b2.trans (b3.trans (.fR b3.bF n4.same))))]
end
section
def RowW(ds:List aj)(os:List Itm):Prop:=∀(i:Nat)(d:aj),os[i]? =some none->ds[i]? =some d->kH d
theorem RowW.snoc{ds:List aj}{os:List Itm}{d:aj}{o:Itm}(h:RowW ds os)(hl:ds.length=os.length)(hd:o=none->kH d):RowW (ds++[d]) (os++[o]):=by
 intro i x e1 e2;rcases tZ e1 with h1|⟨h1,h1'⟩
 ·rcases tZ e2 with h2|⟨h2,_⟩
  ·erw[h i x h1 h2]
  ·have:=(cm.mp h1).1;lia
 ·rcases tZ e2 with h2|⟨_,sR⟩
  ·have:=(cm.mp h2).1;lia
  ·subst sR;erw[hd h1'.symm]
def tF(rs pl:List Int)(os:List Itm):Prop:=∀i,i<=os.length->lj rs ((os.take i).foldl j9 pl)
theorem tF.nil(h:lj rs pl):tF rs pl []:=λi hi=>by simpa using h
theorem tF.snoc{rs pl:List Int}{os:List Itm}{o:Itm}(h:tF rs pl os)(g:lj rs (j9 (os.foldl j9 pl) o)):tF rs pl (os++[o]):=λi hi=>by
 rw[cy]at hi;by_cases c:i<=os.length
 ·rw[List.take_append_of_le_length c];erw[h i c]
 ·let e:i=(os++[o]).length:=by rw[cy];have:[o].length=1:=rfl;lia
  rw[e,zL,zT];erw[g]
inductive a0L|mk p m rs r f j t fK pl many most(_:vs=[.ref p,m,fK,.int many,.int most])(_:gX H p)(_:RD K H m (fy rs r f j t))(_:gA rs r f j t)(_:RD K H fK (iZ pl))(_:lj rs pl)(_:1<=many)(_:many<=20)(_:1<=most)(_:most<=100)(qq:∀v ds os H',RD K H' v (.tuple ds)->cg rs.length ds os->RowW ds os->(ds.length:Int)<=many/\tF rs pl os->bJ p H H'->Q v H')
theorem Ou:bu ["_law_bag_here","_law_machine_here","_law_place_here","_law_many","_law_most","_law_items_here","_law_straight","_law_turn"] ["_law_bag_here","_law_machine_here","_law_place_here","_law_many","_law_most"] (aX Qo):=bD aP
theorem a4N(AA:a1v):a1k "_law_items" 3 a0L:=by
 exists AA.aaO.has,Ou,Cu λ_ _ _ _ _=>rfl
 ·let(p,m,rs,r,f,j,t,fK,pl,many,most,rfl,bg,rm,aK,pK,on,my1,my2,Tq,Tp,k):=h
  let nd:=Ou.nd;erw[_,%[pS 5 nd (cX az),pS 6 nd (pf (fk AA) hr %[0,aB|az]),(g9 eO Z (pN Z (AA.B.at "range") %[pf (fk AA) hr %[0,aO cM L2 aB|az]|az]) (aZ 7 nd) (aG (bw (bL (cJ K Z hr.units) (pf (fk AA) hr %[0,aO cM aB (aO bR aB (iE (x:="int") zk Z (AA.B.at "int") vi %[eV (cJ K rfl hr.units) W1 aB (bf _)|az]))|az]) aB (bf _)) (aG (eJ (iQ K Z P3 %[pf (a4D AA) hr %[0|az]|az]))) %[(eJ (iQ K Z P3 %[pf (a4J AA) hr %[0,1,2,4|az]|az])),(pS 2 nd (iE (x:="tuple") (oq K Z) Z (AA.B.at "tuple") fN %[gO (N:=["_law_stand_here","_law_step"]) (js:=[none,none]) rfl rfl rfl (kQ K rfl false false rfl (AA.B.at "zip") %[2,px K (px K P3 (nI nu aB)) aB|az]) (λ_ _ _ _ _=>(cW K rfl (n:=2) rfl %[aZ 0 (gu aA),aZ 1 (gu aA)|cU])) (λ_ _ _ _ _=>fP) (λ_ _ _ _ _=>(aO cM o0 u8))|az]))|aG]))),aR (iE (x:="tuple") (oq K Z) Z (AA.B.at "tuple") fN %[5|az])|aG],?_];let lr:=aK.len;let nm:=oJ rs r f j t;erw[bG Z,λl H1 n1=>?_];let b1:bJ p H H1:=.fR bg n1.same;let lp:l≠p:=λz=>bg.ne (z▸n1.no);erw[_,Z,p,3,Z,b1.bF,aA,aA,λst H2 pI DI b2=>?_];erw[_,Z,_,Z,_,_,Z,Z,p,many+1,Z,b2.bF,bZ,bZ,λcnt H3 c0 c1 b3=>?_];let X6:=b1.trans (b2.trans b3);erw[_,Z,bZ,bZ,?_];erw[qz (Pv:=λi O H4=>bJ p H H4/\∃zs es qs fK oE v1,(qs.foldl j9 pl=oE/\tF rs pl qs)/\H4 l=some (.lst zs)/\aI K H4 zs es/\cg rs.length es qs/\RowW es qs/\es.length<=i/\RD K H4 fK (iZ oE)/\lj rs oE/\O=[some (.ref p),some m,some fK,some (.int many),some (.int most),some (.ref l),some (.int st),v1]) ?_ ?_ ?_]
  ·erw[X6,[],[],[],fK,pl,none,#[Z,.nil on],(b2.trans b3).same _ _ lp n1.at',cH,cg.nil,(λi d e=>by simp at e),aY _,RD.t (bJ.t bg X6) _ (jS _) pK,on,Z]
  ·rintro i O H4 Ji ⟨b4,zs,es,qs,fK,oE,v1,⟨C0,uc⟩,dl,rz,row,dA,hl,pK,on,rfl⟩
   erw[gh ?_];intro E1;let lz:=rz.length;erw[_,Z,_,Z,.inl #[_,_,Z,Z,.inr #[_,Z,?_]]];erw[_,_,Z,Z,.of_left (cw aA aA),_,_,Z,Z,?_];erw[p,_,Z,b4.bF,(by split<;>omega),(by split<;>omega),λg H5 g0 g1 b5=>?_];let KG:=b4.trans b5;let Fd:=b5.same _ _ lp dl;let t5:=bJ.t b4.bF b5;let QW:=aI.t t5 _ row.no rz;let Hm:=RD.t t5 _ (jS _) pK;erw[.inl #[_,_,Z,Z,_,Z,?_]];erw[dW (λhc=>?_) (λhc=>?_)]
   ·erw[_,Z,.inl #[Z,_,aL.of Fd],?_]
    erw[_,Z,p,Z,b5.bF,λov d H6 ro ot b6=>?_];let it:=ot.it;let xh:=b6.same _ _ lp Fd;let t6:=bJ.t b5.bF b6;erw[l,zs,_,Z,Z,xh,y8 _ bZ,?_];let tu:eZ H6 (_L.upd H6 l (.lst (zs++[ov]))):=.iO xh;erw[(KG.trans b6).putL lp n1.no,_,_,_,_,oE,_,#[by rw[zT,C0];rfl,uc.snoc (by rw[C0];erw[on])],bP,aI.vD xh (aI.t t6 _ row.no QW) ro row.no it.no,row.snoc it (λgD iB e=>nomatch e),dA.snoc row.len (λ_=>ot),?_,RD.t (t6.trans tu) _ (jS _) Hm,on,rfl];rw[cy];show es.length+1<=i+1;omega
   ·erw[_,Z,.inl #[Z,_,aL.of Fd],?_]
    let Hn:=RD.t (bJ.t bg KG) _ nm rm;erw[_,Z,_,Z,_,Z,_,Z,p,m,rs,r,f,j,t,fK,oE,most,Z,b5.bF,Hn,aK,Hm,on,Tq,Tp,λlv ns sp H6 rl bT cR dh Eh b6=>?_];let xh:=b6.same _ _ lp Fd;let t6:=bJ.t b5.bF b6;erw[l,zs,_,Z,Z,xh,y8 _ bZ,?_];let tu:eZ H6 (_L.upd H6 l (.lst (zs++[lv]))):=.iO xh;let b7:bJ p H (_L.upd H6 l (.lst (zs++[lv]))):=(KG.trans b6).putL lp n1.no;let QV:=aI.vD xh (aI.t t6 _ row.no QW) rl row.no (IH _ _);let Ri:=RD.t (t6.trans tu) _ (jS _) Hm;let Rx:=RD.t tu _ (IH _ _) rl;let uO:(_L.upd H6 l (.lst (zs++[lv]))) l=some (.lst (zs++[lv])):=bP;generalize _L.upd H6 l (.lst (zs++[lv]))=H7 at b7 QV Ri Rx uO⊢;let a2p:cg rs.length (es++[iR ns sp]) (qs++[some (ns,sp)]):=row.snoc (.inl #[_,_,Z,Z]) λgD iB e=>by cases e;erw[bT,cR,dh]
    let(pa,rfl,EM):=HL Ri;let(la,lb,rfl,hla,UE):=nP Rx;let lpl:=on.len;erw[_,Z,_,Z,_,Z,.inl #[l,_,_,.ref la,Z,Z,aL.of uO,KL (by simp),.inr #[la,_,1,.ref lb,Z,Z,hla,Z,pa,lb,Z,#[_,EM],#[_,UE],λD H8 n8=>?_]]];let lns:=bT.len;erw[xn (K:=K) (b1:=false) (b2:=false) (xs:=oE.map V.int) (ys:=ns.map V.int) (ds:=(m9 oE ns).map PyData.int) _ Z EM UE n8 (by rw[bB,bB,bB,xA bZ];omega) (by rw[bB,xA bZ];omega) (mK _) ?_ ?_]
    ·intro q x y dd H9 Q' ex ey ed s9 hq
     rw[bV]at ex ey ed;let(x',p4,rfl):=zJ.mp ex;let(y',JU,rfl):=zJ.mp ey;rw[KW p4 JU]at ed;cases ed;erw[_,Z,_,Z,_,_,Z,Z,hq _ _ (aH.refl _) (dF _)]
    ·intro H9 ys s9 d9 r9
     erw[D,_,Z,.inl #[aL.of d9,λtp gB jg=>?_]];let nC:=s9.trans jg.same;let VT:=jg.at';rw[r9.j7]at VT;erw[b7.trans (.fR b7.bF nC),_,_,_,_,_,_,#[by rw[zT,C0];rfl,uc.snoc (by rw[C0];erw[Eh])],nC _ _ uO,aI.mono nC _ QV,a2p,dA.snoc row.len (λe=>nomatch e),(by rw[cy];show es.length+1<=i+1;omega),HK (aW.of VT),Eh,rfl]
  ·rintro O H4 ⟨b4,zs,es,qs,fK,oE,v1,⟨C0,uc⟩,dl,rz,row,dA,hl,pK,on,rfl⟩
   erw[_,Z,l,_,Z,.inl #[aL.of dl,λtq H5 n5=>?_]];erw[k (.ref tq) es qs H5 (fJ (aW.of n5.at') (aI.mono n5.same _ rz)) row dA #[bZ,uc] (b4.trans (.fR b4.bF n5.same))]
end
end _c
namespace _c
open PySem PySem.Spec PyProof.Rows _L _l
section
theorem Ma(h:j.natAbs<2^64):Wd j:=Nat.lt_trans h aP
inductive a0E|mk (p:Int)(q:Int)(_:vs=[.int p,.int q])(_:0<q)(_:q<=10^6)(_:p.natAbs<=10^9)(_:Q (.int (jA p q)) H)
theorem O7:bu ["p","q","size"] ["p","q"] (aX Q8):=bD aP
theorem a4E(AA:a1v):a1k "nearest" 1 a0E:=by
 exists AA.aa0.has,O7,dY λ_ _=>rfl
 ·let(p,q,rfl,q0,q1,p1,k):=h
  let nd:=O7.nd;erw[_,%[pS 2 nd (aO pO (aO cM (aO bR aB (eK (x:="abs") qJ Z (AA.B.at "abs") tO %[0|az])) u8) (aO bR aB u8)),aR (yi (bL Eg o0 aB (bf _)) w4 (nI nu w4))|aG],?_];erw[_,Z,p,Z,_,_,Z,Z,.of_left (cw aA aA),_,Z,_,_,Z,Z,_,Z,_,_,Z,Z,.of_left (cw aA aA),_,_,Z,Z,#[aw,Ma aw],?_];let e:(2*(if p<0 then-p else p)+q)/(2*q)=mD p q:=by unfold mD;rw[<-Cv];rfl
  erw[_,Z,_,_,Z,Z,_,Z,?_];unfold jA at k;rw[<-e]at k;erw[dW (λhc=>?_) (λhc=>?_)]
  ·let hp:p>=0:=kg hc
   rw[aQ hp]at k;erw[_,Z,k]
  ·let hp:¬p>=0:=λz=>hc (cu z)
   rw[aV hp]at k;erw[_,Z,_,Z,k]
def Ab(ns:List Int)(k:Int):aj:=.tuple ((ns.map λz=>jA (k*z) (aF ns)).map PyData.int)
theorem RS{k z:Int}(h:k.natAbs<=10^6)(g:(z.natAbs:Int)<=1000):(k*z).natAbs<=10^9:=by rw[gL];erw[gY (oo h (show z.natAbs<=1000 by lia)) aA]
inductive a0i|mk v ns sp k(_:vs=[v,.int k])(_:RD K H v (iR ns sp))(_:fA ns.length 1000 ns)(_:ns.length<=1000)(_:k.natAbs<=10^6)(_:∀v' H',RD K H' v' (Ab ns k)->aH H H'->Q v' H')
theorem NL:bu ["line","k","lead"] ["line","k"] (aX Pk):=bD aP
theorem HS(AA:a1v):a1k "stand_at" 2 a0i:=by
 exists AA.a9U.has,NL,dY λ_ _=>rfl
 ·let(v,ns,sp,kk,rfl,rd,ok,hz,hk,k):=h
  let nd:=NL.nd;erw[_,%[pS 2 nd (pf (yx AA) hr %[0|az]),(aR (iE (x:="tuple") (oq K Z) Z (AA.B.at "tuple") fN %[gO (N:=["step","lead","k"]) (js:=[none,some 2,some 1]) rfl rfl rfl (oF K rfl (px K o0 aB)) (λ_ _ _ _ _=>(aZ 0 (show List.Nodup (["step","lead","k"]:List Str) by decide+kernel))) (λ_ _ _ _ _=>fP) (λ_ _ _ _ _=>(pf (a4E AA) hr %[aO bR w4 o0,1|az]))|az]))|aG],?_];erw[_,Z,v,ns,sp,Z,rd,ok.ne,hz,λH1 s1=>?_];let(a,b,rfl,ha,hb):=nP (RD.mono s1 _ rd);let(lp,lm):=ok.lead;erw[_,Z,.inr #[a,_,1,.ref b,Z,Z,ha,Z,b,Z,#[_,hb],λD H0 nw=>?_]];erw[Fi (K:=K) (xs:=ns.map V.int) (ds:=(ns.map λz=>jA (kk*z) (aF ns)).map PyData.int) _ hb nw (by simp) (by simpa using hz) (mK _) ?_ ?_]
  ·intro i x d H2 Q' ex ed s2 hq
   rw[List.map_map]at ed;let(n,en,rfl):=pW ed;cases Ba ex en;erw[_,Z,_,Z,_,_,Z,Z,.of_left (cw aw aw),_,Z,_,_,Z,aw,aw,RS hk (ok.bd n (gZ en)),?_];erw[hq _ _ (aH.refl _) (dF _)]
  ·intro H' ys s2 d2 r2
   erw[D,_,Z,.inl #[aL.of d2,λt H4 n4=>?_]];erw[k _ _ (fJ (aW.of n4.at') (aI.mono n4.same _ r2)) (s1.trans (s2.trans n4.same))]
end
section
def eH(ns:List Int)(j:Nat):List Int:=ns.map λz=>jA (((j:Int)+1)*z) (aF ns)-jA ((j:Int)*z) (aF ns)
def iY(ns:List Int):List aj:=(List.range (aF ns)).map λj=>.tuple ((eH ns j).map PyData.int)
theorem Aq(zs:List Int):dG (.tuple (zs.map PyData.int))=true:=by rw[dG];erw[mK zs]
theorem Ao(ns:List Int):bS (iY ns)=true:=cj.mpr λd hd=>by let(j,_,rfl):=gC.mp hd;erw[Aq _]
theorem Ap(h:i<aF ns):(iY ns)[i]? =some (.tuple ((eH ns i).map PyData.int)):=by unfold iY;rw[bV,bo (by simpa using h),xR];rfl
theorem u9(ns:List Int):(iY ns).length=aF ns:=by simp[iY]
inductive a0o|mk v ns sp(_:vs=[v])(_:RD K H v (iR ns sp))(_:fA ns.length 1000 ns)(_:ns.length<=1000)(_:∀l ys H',H l=none->H' l=some (.lst ys)->aI K H' ys (iY ns)->aH H H'->Q (.ref l) H')
theorem NQ:bu ["line","rows","before","k","behind"] ["line"] (aX Pq):=bD aP
theorem Ss(AA:a1v):a1k "step_rows" 3 a0o:=by
 exists AA.a9S.has,NQ,fo λ_=>rfl
 ·let(v,ns,sp,rfl,rd,ok,hz,k):=h
  let nd:=NQ.nd;let(lp,lm):=ok.lead;erw[_,%[pS 1 nd (cX az),pS 2 nd (pf (HS AA) hr %[0,aB|az]),(g9 eO Z (E6 Z (AA.B.at "range") %[aB,aO cM (pf (yx AA) hr %[0|az]) aB|az]) (aZ 3 nd) %[pS 4 nd (pf (HS AA) hr %[0,3|az]),(eJ (iQ K Z u8 %[(iE (x:="tuple") (oq K Z) Z (AA.B.at "tuple") fN %[gO (N:=["new","old"]) (js:=[none,none]) rfl rfl rfl (kQ K rfl false false rfl (AA.B.at "zip") %[4,2|az]) (λ_ _ _ _ _=>(cW K rfl (n:=2) rfl %[aZ 0 (gu aA),aZ 1 (gu aA)|cU])) (λ_ _ _ _ _=>fP) (λ_ _ _ _ _=>(aO fE o0 u8))|az])|az])),pS 2 nd M2|aG]),aR u8|aG],?_];erw[bG Z,λl H1 n1=>?_];erw[_,Z,v,ns,sp,0,Z,RD.mono n1.same _ rd,ok,hz,aA,λu H2 ru s2=>?_];let t2:=n1.same.trans s2;erw[_,Z,v,ns,sp,Z,RD.mono t2 _ rd,ok.ne,hz,λH3 s3=>?_];erw[_,_,Z,Z,_,_,Z,#[aw,aw,aw,aw],?_];let t3:=t2.trans s3;let e3:((aF ns:Int)+1-1).toNat=aF ns:=by lia
  erw[qz (Pv:=λi O H4=>aH H H4/\(∃ys,H4 l=some (.lst ys)/\aI K H4 ys ((iY ns).take i))/\∃b v1 v2,RD K H4 b (Ab ns i)/\O=[some v,some (.ref l),some b,v1,v2]) ?_ ?_ ?_]
  ·erw[t3,#[[],s3 _ _ (s2 _ _ n1.at'),cH],u,none,none,RD.mono s3 _ ru,Z]
  ·rintro i O H4 hi ⟨t4,⟨ys,dl,ry⟩,b,v1,v2,rb,rfl⟩
   erw[gh ?_];intro E1;let wD:i<aF ns:=by lia
   erw[_,Z,_,Z,v,ns,sp,_,Z,RD.mono t4 _ rd,ok,hz,aw,λb2 H5 Hv s5=>?_];erw[_,Z,.inl #[Z,_,aL.of (s5 _ _ dl)],?_];let(a1,xs1,rfl,h1,q1):=Hv.cF;let e1:=q1.j7;subst e1;let(a0,xs0,rfl,h0,q0):=(RD.mono s5 _ rb).cF;let e0:=q0.j7;subst e0;erw[_,Z,_,Z,a1,a0,Z,#[_,h1],#[_,h0],λD H6 nw=>?_];erw[xn (K:=K) (b1:=false) (b2:=false) (ds:=(eH ns i).map PyData.int) [] rfl h1 h0 nw (by simp[eH]) (by simpa[eH]using hz) (mK _) ?_ ?_]
   ·intro j x y d H7 Q' ex ey ed s7 hq
    let(m,em,rfl):=pW ed;unfold eH at em;rw[bV]at em ex ey;rw[bV]at ex ey;cases en:ns[j]? with |none=>rw[en]at em;cases em |some n=>
     rw[en]at em ex ey;cases em;cases ex;cases ey;erw[_,Z,_,Z,_,_,Z,Z,?_];let ee:(1:Int)+(i:Int)=(i:Int)+1:=by lia
     rw[ee];erw[hq _ _ (aH.refl _) (dF _)]
   ·intro H7 zs s7 d7 r7
    erw[D,_,Z,.inl #[aL.of d7,λt H8 n8=>?_]];let kO:=s5.trans (s7.trans n8.same);let Cd:=kO _ _ dl;let len:=ry.length;rw[jM,u9]at len;erw[l,ys,_,Z,Z,Cd,?_,?_]
    ·have:(1000:Nat)<sizeLine:=by decide
     lia
    erw[_,Z,?_];let tt:eZ H8 (_L.upd H8 l (.lst (ys++[.ref t]))):=.iO Cd;erw[λb o e=>?_,#[_,bP,?_],_,_,_,?_,Z]
    ·rw[aU (dH e n1.no)];erw[kO b o (t4 b o e)]
    ·rw[lG,Ap wD]
     let nt:bS ((iY ns).take i)=true:=cj.mpr λd hd=>cj.mp (Ao ns) d (zN hd);exact(aI.t tt _ nt (aI.mono kO _ ry)).append %[RD.t tt _ (Aq _) (fJ (aW.of n8.at') (aI.mono n8.same _ r7))|cH]
    ·let ee:(1:Int)+(i:Int)=((i+1:Nat):Int):=by lia
     rw[ee]at Hv;erw[RD.t tt _ (Aq _) (RD.mono (s7.trans n8.same) _ Hv)]
  ·rintro O H4 ⟨t4,⟨ys,dl,ry⟩,b,v1,v2,rb,rfl⟩
   rw[e3,vk (by rw[u9];erw[aY _])]at ry;erw[_,Z,k l ys H4 n1.no dl ry t4]
end
end _c
namespace _c
open PySem PySem.Spec PyProof.Rows _L _d _l
section
def eX(ti:Int)(q:Rat)(t:Int):Bool:=decide (ti*ti*(q.den:Int)<=t*t*q.num)
inductive GJ|mk m sq t rs r f j ti q(_:vs=[m,sq,.int t])(_:RD K H m (fy rs r f j ti))(_:bj H sq q)(_:Bd 2000 q)(_:1<=ti)(_:ti<=100)(_:0<=t)(_:t.natAbs<2^2400)(_:Q (.bl (eX ti q t)) H)
theorem ON:bu ["machine","square","t","p","q","ticks"] ["machine","square","t"] (aX GU):=bD aP
theorem SE(F:FA K mg "are_enough" GU)(B:tK mg):a1k "are_enough" 1 GJ:=by
 exists F.has,ON,kG λ_ _ _=>rfl
 ·let(m,sq,t,rs,r,f,j,ti,q,rfl,rm,(p,rfl,hp),bq,t1,t2,t0,tw,k):=h
  let nd:=ON.nd;erw[_,%[fe u8 (cW K Z (n:=2) Z %[aZ 3 nd,aZ 4 nd|cU]),pS 5 nd (px K o0 aB),aR (eV Eg (aO bR (aO bR w4 w4) L2) (aO bR (aO bR P3 P3) M2) (bf _))|aG],?_];let(a,b,rfl,ha,hb):=mM rm;let wt:Wd t:=jv tw aA;let Dn:Wd (t*t):=jv (n:=4800) (by rw[gL];erw[oH (n:=2400) (m:=2400) tw tw]) aA;let m1:(ti*ti).natAbs<=100*100:=by rw[gL];erw[oo bZ bZ]
  erw[_,Z,_,_,Z,hp,Z,_,_,Z,_,_,Z,Z,?_];erw[_,Z,.inr #[a,_,4,.int ti,Z,Z,ha,Z,?_]];erw[_,Z,_,Z,_,_,Z,Z,jd wt.bits wt.bits,_,Z,_,_,Z,Z,jd Dn.bits bq.wn.bits,?_];erw[_,Z,_,Z,_,_,Z,Z,.of_left (cw bZ bZ),_,Z,_,_,Z,Z,.of_left (cw bZ bZ),?_];erw[_,_,Z,Z,k]
theorem VG{t:Int}(hq:0<q.num)(h0:0<=t)(h:ti*ti*(q.den:Int)<=t):eX ti q t=true:=by
 erw[cu (Int.le_trans h ?_)];by_cases ht:t=0
 ·subst ht;simp
 ·let e1:t*1<=t*t:=LY aw h0
  let e2:t*t*1<=t*t*q.num:=LY aw (iy h0 h0)
  lia
theorem VE(h1:1<=ti):eX ti q 0=false:=by
 erw[dP λh=>?_];have:=hJ (hJ (show 0<ti by lia) (show 0<ti by lia)) (den_pos q);simp only[D7]at h
 lia
inductive N3|mk m sq rs r f j ti q(_:vs=[m,sq])(_:RD K H m (fy rs r f j ti))(_:bj H sq q)(_:Bd 2000 q)(_:1<=ti)(_:ti<=100)(_:0<q.num)(_:∀T,1<=T->T.natAbs<2^2400->eX ti q T=true->eX ti q (T-1)=false->Q (.int T) H)
theorem NF:bu ["machine","square","enough","too_few","between"] ["machine","square"] (aX Pe):=bD aP
theorem a4h(AA:a1v)(BI:a1k "are_enough" 1 GJ):a1k "ticks_of" 2 N3:=by
 exists AA.a9R.has,NF,dY λ_ _=>rfl
 ·let(m,sq,rs,r,f,j,ti,q,rfl,rm,rq,bq,t1,t2,hq,k):=h
  let nd:=NF.nd;erw[_,%[pS 2 nd aB,pM eO (dj (cf (pf BI hr %[0,1,2|az]))) (aG (pS 2 nd (aO bR aB w4))),pS 3 nd (aO pO w4 aB),(pM eO (bL mH (aO fE w4 L2) aB (bf _)) %[pS 4 nd (aO pO (aO cM L2 w4) aB),bw (cf (pf BI hr %[0,1,4|az])) (aG (pS 2 nd M2)) (aG (pS 3 nd M2))|aG]),aR w4|aG],?_];let lim:(ti*ti*(q.den:Int)).natAbs<2^2399:=by
   let m1:(ti*ti).natAbs<=100*100:=by rw[gL];erw[oo aw aw]
   let hd:=bq.den;rw[gL];have:(q.den:Int).natAbs=q.den:=rfl;rw[this];have:=oH (n:=14) (m:=2000) (a:=(ti*ti).natAbs) (b:=q.den) (xN m1 aA) hd;erw[gK this (tP aA aA)]
  let p0:0<ti*ti*(q.den:Int):=hJ (hJ aw aw) (den_pos q);let e2:(2:Nat)^2400=2^2399*2:=Nat.pow_succ 2 2399;generalize hL:ti*ti*(q.den:Int)=L at lim p0;erw[pD (λO H2=>H2=H/\∃(x:Int),O=[some m,some sq,some (.int x),none,none]/\1<=x/\x<=2*L/\eX ti q (x/2)=false) (λO _=>match O with|[_,_,some (.int x),_,_]=>(L-x).toNat|_=>0) ?_ ?_ ?_]
  ·erw[Z,1,Z,aw,aw,VE t1]
  ·rintro O H2 ⟨rfl,x,rfl,x1,xL,hx⟩
   erw[xB ?_];intro E1;let xw:x.natAbs<2^2400:=by lia
   erw[_,Z,_,Z,_,Z,m,sq,x,rs,r,f,j,ti,q,Z,rm,rq,bq,t1,t2,aw,xw,_,Z,?_];cases sO:eX ti q x with
   |false=>
    let bK:x<L:=by
     by_cases bK:x<L
     ·erw[bK]
     ·rw[VG hq aw aw]at sO;cases sO
    erw[dW (λhc=>?_) (λhc=>(hc Z).elim)];erw[_,Z,_,_,Z,Z,.of_left (cw aA aA),?_];erw[#[Z,_,Z,aw,aw,?_],?_]
    ·have:2*x/2=x:=by lia
     rw[this];erw[sO]
    ·show(L-2*x).toNat<(L-x).toNat
     lia |true=>
    erw[dW (λhc=>nomatch hc) (λhc=>?_)];erw[_,Z,_,_,Z,Z,#[aA,jv (n:=2) aA aA],?_];erw[pD (λO H3=>H3=H2/\∃(lo hi:Int)(v:Option V),O=[some m,some sq,some (.int hi),some (.int lo),v]/\0<=lo/\lo<hi/\hi<=2*L/\eX ti q lo=false/\eX ti q hi=true) (λO _=>match O with|[_,_,some (.int x),some (.int y),_]=>(x-y).toNat|_=>0) ?_ ?_ ?_]
    ·erw[Z,x/2,x,none,Z,aw,aw,xL,hx,sO]
    ·rintro O H3 ⟨rfl,lo,hi,v,rfl,l0,lh,qo,BZ,wX⟩
     erw[xB ?_];intro E2;erw[_,Z,_,Z,_,_,Z,Z,_,_,Z,Z,_,Z,?_];erw[dW (λhc=>?_) (λhc=>?_)]
     ·let UK:hi-lo>1:=kg hc
      erw[_,Z,_,Z,_,_,Z,Z,_,_,Z,Z,#[aA,jv (n:=2) aA aA],?_];let mw:((lo+hi)/2).natAbs<2^2400:=by lia
      erw[_,Z,_,Z,_,Z,m,sq,(lo+hi)/2,rs,r,f,j,ti,q,Z,rm,rq,bq,t1,t2,aw,mw,_,Z,?_];cases hm:eX ti q ((lo+hi)/2)with
      |true=>
       erw[bA ?_];erw[_,Z,#[Z,lo,_,_,Z,l0,aw,aw,BZ,hm],?_];show((lo+hi)/2-lo).toNat<(hi-lo).toNat
       lia |false=>
       erw[ba ?_];erw[_,Z,#[Z,_,hi,_,Z,aw,aw,qo,hm,wX],?_];show(hi-(lo+hi)/2).toNat<(hi-lo).toNat
       lia
     ·let hle:¬hi-lo>1:=λz=>hc (cu z)
      let e:lo=hi-1:=by lia
      subst e;erw[_,Z,k hi aw aw wX BZ]
    ·rintro O H2 Q1 Q2 hq ⟨v1,e1,v2,e2,i,j,e3,e4,i2,j2,e5,e6,kk,e7,q⟩
     erw[v1,e1,v2,e2,i,j,e3,e4,i2,j2,e5,e6,kk,e7,hq _ _ q]
  ·rintro O H2 Q1 Q2 hq ⟨v1,e1,v2,e2,v3,e3,m',ow,x',mF,r',f',j',Za,q',e4,h1,h2,h3,h4,h5,h6,h7,b,eb,q⟩
   erw[v1,e1,v2,e2,v3,e3,m',ow,x',mF,r',f',j',Za,q',e4,h1,h2,h3,h4,h5,h6,h7,b,eb,hq _ _ q]
end
end _c
namespace _c
open PySem PySem.Spec PyProof.Rows _L _d _l _C _P
open _O (topR cornO mnO betR atO ownF leadF ownL OkI OkIs)
section
def zp(ti:Int)(q:Rat)(T:Int):Prop:=1<=T/\eX ti q T=true/\eX ti q (T-1)=false
open Classical in
noncomputable def nv(ti:Int)(q:Rat):Int:=if h:∃T,zp ti q T then h.choose else 0
theorem VF{t:Int}(hq:0<=q.num)(h0:0<=s)(h:s<=t)(e:eX ti q s=true):eX ti q t=true:=by erw[cu (Int.le_trans (kg e) ?_)];erw[Ge (zV h h h0 aw) hq]
theorem Zd(hq:0<=q.num)(h1:zp ti q S)(h2:zp ti q T):S=T:=by
 let(a1,a2,a3):=h1;let(b1,b2,b3):=h2;by_cases h:S<=T-1
 ·have:=VF hq aw h a2
  rw[b3]at this;cases this
 ·by_cases h':T<=S-1
  ·have:=VF hq aw h' b2
   rw[a3]at this;cases this
  ·lia
theorem DA(hq:0<=q.num)(h:zp ti q T):nv ti q=T:=by let hx:∃T,zp ti q T:=#[T,h];unfold nv;rw[dif_pos hx];erw[Zd hq hx.choose_spec h]
theorem AW{q:Rat}(h:0<q):0<q.num:=by
 let h1:=Lv.mpr (CP h);let h2:q.num≠0:=λe=>by rw[Rat.num_eq_zero.mp e]at h;erw[absurd h aA]
 lia
noncomputable def jQ(ti:Int)(zs:List Int)(q:Rat):aj:=.tuple [.str "step",.tuple (zs.map PyData.int),.int (nv ti q),cA q]
theorem Aa(ti:Int)(zs:List Int)(q:Rat):dG (jQ ti zs q)=true:=by simp[jQ,dG,bS,mK,nH]
inductive GI|mk m rv sq rs r f j ti zs q(_:vs=[m,rv,sq])(_:RD K H m (fy rs r f j ti))(_:gA rs r f j ti)(_:RD K H rv (.tuple (zs.map PyData.int)))(_:bj H sq q)(_:Bd 2000 q)(_:0<q)(_:∀v H',RD K H' v (jQ ti zs q)->aH H H'->Q v H')
theorem OM:bu ["machine","row","square"] ["machine","row","square"] (aX QE):=bD aP
theorem a4X(AA:a1v)(a7s:a1k "ticks_of" 2 N3):a1k "step_entry" 3 GI:=by
 exists AA.a9T.has,OM,kG λ_ _ _=>rfl
 ·let(m,rv,sq,rs,r,f,j,ti,zs,q,rfl,rm,aK,rr,Rq,bq,q0,k):=h
  let nd:=OM.nd;erw[_,(aG (aR (cQ %[eU,1,pf a7s hr %[0,2|az],2|az]))),?_];let t1:=aK.t1;let qn:0<q.num:=AW q0;erw[_,Z,_,Z,_,Z,m,sq,rs,r,f,j,ti,q,Z,rm,Rq,bq,t1.1,t1.2,qn,λT T1 _ T2 T3=>?_];erw[_,Z,bG Z,λt H1 n1=>k (.ref t) H1 ?_ n1.same];let e:=DA aw #[T1,T2,T3];unfold jQ;rw[e];erw[fJ (aW.of n1.at') (bX (cL _) (bX (RD.mono n1.same _ rr) (bX (dF _) (bX (Rq.go n1.same).rd cH))))]
noncomputable def qc(r f ti:Int)(ns:List Int)(top b e:Rat):List aj:=(List.range (aF ns)).map λk=>jQ ti (eH ns k) (jB r f (aF ns) top b e k)
noncomputable def mW(r f j ti rate:Int)(ds:List aj)(os:List Itm)(i:Nat):List aj:=match os[i]? with |some (some (ns,sp))=>qc r f ti ns (topR rate sp) (cP r f j rate os i) (cP r f j rate os (i+1)) |_=>[ds.getD i .none]
noncomputable def my(r f j ti rate:Int)(ds:List aj)(os:List Itm):Nat->List aj |0=>[] |i+1=>my r f j ti rate ds os i++mW r f j ti rate ds os i
theorem TZ(r f ti:Int)(ns:List Int)(top b e:Rat):bS (qc r f ti ns top b e)=true:=cj.mpr λd hd=>by let(k,_,rfl):=gC.mp hd;erw[Aa _ _ _]
theorem Tu{r f:Int}{ld k:Nat}{top b e:Rat}(hr:1<=r)(hf:1<=f)(hk:k<ld)(ht:0<top)(hb:0<=b)(he:0<=e):0<jB r f ld top b e k:=by
 let pos:∀{x:Rat}{z:Int},0<=x->0<z->0<x+(z:Rat):=λ{x z} hx hz=>by let h1:((0:Int):Rat)<(z:Rat):=G1.mpr hz;let h2:x+((0:Int):Rat)<x+(z:Rat):=Rat.add_lt_add_left.mpr h1;rw[show((0:Int):Rat)=0 from Z,vg]at h2;erw[Std.lt_of_le_of_lt hx h2]
 let h1:=pos (z:=r*(2*(1+(k:Int))-1)) hb (hJ aw aw);let h2:=pos (z:=f*(2*((ld:Int)-(1+(k:Int)))+1)) he (hJ aw aw);unfold jB;rcases nN (mn (b+((r*(2*(1+(k:Int))-1):Int):Rat)) top) (e+((f*(2*((ld:Int)-(1+(k:Int)))+1):Int):Rat))with h|h
 ·rw[h]
  rcases nN (b+((r*(2*(1+(k:Int))-1):Int):Rat)) top with h'|h'<;>rw[h']<;>assumption
 ·rw[h];erw[h2]
theorem Dx{rate:Int}(h1:1<=sp)(h2:10<=rate):0<topR rate sp:=by
 let h0:=_O.ou rate sp;erw[Lu h0 λe=>?_];let hp:0<(sp*rate)^2:=by rw[fh,fh,kK,ki];erw[hJ (hJ aw aw) (hJ aw aw)]
 let h2:0<=Rat.divInt (-((sp*rate)^2)) 10000:=by rw[<-Rat.neg_divInt];show 0<=-(topR rate sp);rw[<-e];decide
 have:=(zG aA).mp h2
 lia
end
section
theorem BX{r f j ti rate:Int}{ds:List aj}{os:List Itm}{i:Nat}{ns:List Int}{sp:Int}(h:os[i]? =some (some (ns,sp))):mW r f j ti rate ds os i=qc r f ti ns (topR rate sp) (cP r f j rate os i) (cP r f j rate os (i+1)):=by unfold mW;rw[h]
theorem K2{r f j ti rate:Int}{ds:List aj}{os:List Itm}{i:Nat}(h:os[i]? =some none)(hd:ds[i]? =some d):mW r f j ti rate ds os i=[d]:=by unfold mW;rw[h,vn,hd];rfl
theorem Mr{n:Nat}{r f j ti rate:Int}{ds:List aj}{os:List Itm}(row:cg n ds os):∀i,i<=os.length->bS (my r f j ti rate ds os i)=true
 |0,_=>rfl |i+1,h=>by
  let ll:=row.len;erw[cj.mpr λd hd=>?_];rcases jL.mp hd with h1|h1
  ·erw[cj.mp (Mr row i aw) d h1]
  ·obtain⟨o,eo⟩:∃o,os[i]? =some o:=#[_,bo (show i<os.length by lia)]
   cases o with |none=>obtain⟨d',ed⟩:∃d',ds[i]? =some d':=#[_,bo (show i<ds.length by lia)];rw[K2 eo ed,gm]at h1;subst h1;erw[cj.mp row.no _ (gZ ed)] |some q=>let(ns,sp):=q;rw[BX eo]at h1;erw[cj.mp (TZ _ _ _ _ _ _ _) d h1]
theorem Ms{n:Nat}{r f j ti rate:Int}{ds:List aj}{os:List Itm}(row:cg n ds os):∀i,i<=os.length->(my r f j ti rate ds os i).length<=100*i |0,_=>aY _ |i+1,h=>by let ll:=row.len;let ih:=Ms (r:=r) (f:=f) (j:=j) (ti:=ti) (rate:=rate) row i aw;show(my r f j ti rate ds os i++mW r f j ti rate ds os i).length<=_;rw[cy];obtain⟨o,eo⟩:∃o,os[i]? =some o:=#[_,bo (show i<os.length by lia)];cases o with
 |none=>
  obtain⟨d',ed⟩:∃d',ds[i]? =some d':=#[_,bo (show i<ds.length by lia)];rw[K2 eo ed];show _+1<=_
  lia |some q=>
  let(ns,sp):=q;let(bT,_,_):=row.ok i ns sp eo;have:=mO bT;rw[BX eo,qc,bB,iu]
  lia
theorem RX{rs:List Int}{r f j t rate:Int}{ds:List aj}{os:List Itm}(aK:gA rs r f j t)(row:cg rs.length ds os)(hz:ds.length<=30)(bO:10<=rate)(rt2:rate<=200):∀i,i<=os.length->Bd 1700 (cP r f j rate os i):=λi hi=>by let ll:=row.len;let hB:=_O.AE aK.j1.1 aK.j1.2 bO rt2 row.nK;let hL:∀i m,leadF os i=some m->(2*r*(m:Int)).natAbs<2^24:=λi m e=>A2 aK.r1.1 aK.r1.2 (Bg row.nK e);let qo:∀i m,leadF os i=some m->(2*f*(m:Int)).natAbs<2^24:=λi m e=>A2 aK.f1.1 aK.f1.2 (Bg row.nK e);exact(JD (b:=900) (λi hi=>(L7 hB hL i).mono aw) qo i hi).mono aw
end
end _c
namespace _c
open PySem PySem.Spec PyProof.Rows _L _d _l _W
section
def pairD(p:Int×Int):aj:=.tuple [.int p.1,.int p.2]
def vx:List (Int×Int):=[(6,10),(4,20),(8,5),(3,30),(10,4),(5,12),(2,60),(6,10)]
inductive a0g|mk p fi(_:vs=[.ref p,.bl fi])(_:gX H p)(_:∀t many most H',aW K H' t [.int many,.int most]->1<=many->many<=20->1<=most->most<=100->bJ p H H'->Q (.ref t) H')
theorem NI:bu ["_law_bag_here","_law_first","_law_kind"] ["_law_bag_here","_law_first"] (aX u7):=bD aP
def DF:Expr:=match(gS u7)with|[_,_,_,.Return (some (.Subscript e _ _)) _]=>e|_=>.Constant .none 0 #[0,0,0,0]
theorem ZU:lit 4 DF=some (.list (vx.map pairD)):=by kernel_rfl
def Tt(e:Expr):List Stmt:=match gS u7 with|[a,b,c,.Return (some (.Subscript _ i p)) q]=>[a,b,c,.Return (some (.Subscript e i p)) q]|r=>r
theorem a5T:Tt DF=gS u7:=by kernel_rfl
theorem ZT(e:Expr)(hr:df 1 (A.deeper (envOfC "_law_sizes" (aX u7) s.heap.objs.size f aM))) (he:Xt (jn iM P w K mg aD ["_law_bag_here","_law_first","_law_kind"] "_law_sizes" (aX u7) f aM A outer s H E).sf e (DB K (.list (vx.map pairD)))) (B:tK mg)(a91:a1k "_law_take" 1 N5)(bg:gX H p)(k:∀t many most H',aW K H' t [.int many,.int most]->1<=many->many<=20->1<=most->most<=100->bJ p H H'->Q (.ref t) H'): ∃t,ip (jn iM P w K mg aD ["_law_bag_here","_law_first","_law_kind"] "_law_sizes" (aX u7) f aM A outer s H E).sf (Tt e) t/\t {nx:=λ_ H'=>Q .bM H',rt:=Q} (start ["_law_bag_here","_law_first","_law_kind"] [.ref p,.bl fi]) H:=by
 let nd:=NI.nd;erw[_,%[pS 2 nd (pf a91 hr %[0,aB|az]),bw (PW.pt (mG (cf u8) (pL (bL (cJ K Z hr.units) w4 aB (bf _))))) (aG (aR (cQ %[aB,aB|az]))) bC,bw (PW.pt (mG (cf u8) (pL (bL (cJ K Z hr.units) w4 aB (bf _))))) (aG (aR (cQ %[aB,aB|az]))) bC,aR (px K he.out w4)|aG],?_];erw[_,Z,p,8,Z,bg,aA,aA,λkd H1 k0 k1 b1=>?_];let tb:∀{H2:Hp}{t:Addr}{x y:Int},Nw H1 H2 t (.tup [.int x,.int y])->1<=x->x<=20->1<=y->y<=100->Q (.ref t) H2:=λn2 h1 h2 h3 h4=>k _ _ _ _ (aW.of n2.at') h1 h2 h3 h4 (b1.trans (.fR b1.bF n2.same));let fin:∀(v:V)(H2:Hp),aH H1 H2->RD K (fr H1 H2) v (.list (vx.map pairD))->∃l xs t x y,v= .ref l/\aL K H2 l xs/\eY xs kd=some (.ref t)/\aW K H2 t [.int x,.int y]/\1<=x/\x<=20/\1<=y/\y<=100:=λv H2 s2 r2=>by
  let(l,xs,rfl,hx,hd):=(RD.mono a9s _ r2).lst_inv;let hl:=hd.length;let hk:kd.toNat<vx.length:=by show kd.toNat<8;omega
  let(y,ey,ry):=hd.get kd.toNat (show(vx.map pairD)[kd.toNat]? =some (pairD vx[kd.toNat]) by rw[bV,bo hk];rfl);let hb:∀q∈vx,1<=q.1/\q.1<=20/\1<=q.2/\q.2<=100:=by decide
  let(h1,h2,h3,h4):=hb _ (zR hk);let(t,zs,rfl,ht,hz):=ry.cF;let(z1,zr,rfl,e1,hz):=hz.cons_inv;let(z2,zr,rfl,e2,hz):=hz.cons_inv;cases hz.nil_inv;cases e1.int_inv;cases e2.int_inv;erw[l,xs,t,_,_,Z,hx,cI k0 ey,ht,h1,h2,h3,h4]
 erw[_,Z,_,Z,?_];erw[dW (λhf=>?_) (λhf=>?_)]
 ·erw[_,Z,.inl #[_,_,Z,Z,_,Z,?_]]
  erw[dW (λhc=>?_) (λhc=>?_)]
  ·erw[bG Z,λt H2 n2=>tb n2 aA aA aA aA]
  erw[_,Z,_,Z,?_];erw[dW (λhf=>?_) (λBA=>absurd hf BA)];erw[_,Z,.inl #[_,_,Z,Z,_,Z,?_]];erw[dW (λhc=>?_) (λhc=>?_)]
  ·erw[bG Z,λt H2 n2=>tb n2 aA aA aA aA]
  intro v H2 s2 r2;let(l,xs,t,x,y,rfl,hx,ht,hT,h1,h2,h3,h4):=fin v H2 s2 r2;erw[_,Z,.inl #[l,_,_,_,Z,Z,hx,ht,k _ _ _ _ hT h1 h2 h3 h4 (b1.trans (.fR b1.bF s2))]]
 ·erw[_,Z,_,Z,?_]
  erw[dW (λBA=>absurd BA hf) (λBA=>?_)];intro v H2 s2 r2;let(l,xs,t,x,y,rfl,hx,ht,hT,h1,h2,h3,h4):=fin v H2 s2 r2;erw[_,Z,.inl #[l,_,_,_,Z,Z,hx,ht,k _ _ _ _ hT h1 h2 h3 h4 (b1.trans (.fR b1.bF s2))]]
theorem a4j(AA:a1v):a1k "_law_sizes" 2 a0g:=by
 exists AA.aaB.has,NI,dY λ_ _=>rfl
 ·let(p,fi,rfl,bg,k):=h
  rw[<-a5T];erw[ZT DF hr (a3B K Z 4 DF _ ZU) AA.B (fk AA) bg k]
end
end _c
namespace _c
open PySem PySem.Spec PyProof.Rows _L _l
section
inductive a0h|mk v ns sp k(_:vs=[v,.int k])(_:RD K H v (iR ns sp))(_:fA ns.length 1000 ns)(_:ns.length<=1000)(_:0<=k)(_:k<=10^6)(_:∀v' H',RD K H' v' (Ab ns k)->aH H H'->Q v' H')
theorem a9K(hk:0<=k)(hq:0<q):(if n<0 then-((2*k*jq n+q)/(2*q))else(2*k*jq n+q)/(2*q))=jA (k*n) q:=by
 let e:2*k*jq n=2*((k*n).natAbs:Int):=by rw[Cv,gL,Int.natCast_mul,zW,Int.natAbs_of_nonneg hk]
 rw[e];show(if n<0 then-(mD (k*n) q)else mD (k*n) q)=jA (k*n) q;rcases M0 n 0 with hn|hn
 ·rw[aQ hn]
  rcases M0 0 k with h0|h0
  ·have:k*n<0:=Int.mul_neg_of_pos_of_neg h0 hn
   unfold jA;rw[aV aw]
  ·let e0:k=0:=by lia
   rw[e0,D7,T5 hq];have:=T5 hq;unfold jA at this;rw[aQ aw]at this
   lia
 ·rw[aV aw]
  have:0<=k*n:=iy hk hn;unfold jA;rw[aQ this]
theorem NK:bu ["_law_line_here","_law_k","_law_lead_here","_law_found","_law_step","_law_far"] ["_law_line_here","_law_k"] (aX Pj):=bD aP
theorem a4l(AA:a1v):a1k "_law_stand" 2 a0h:=by
 exists AA.aaz.has,NK,dY λ_ _=>rfl
 ·let(v,ns,sp,kk,rfl,rd,ok,hz,hk,hk2,k):=h
  let nd:=NK.nd;erw[_,%[pS 2 nd (pf (vQ AA) hr %[0|az]),pS 3 nd (cX az),(g9 eO Z (oF K Z (px K o0 aB)) (aZ 4 nd) %[pS 5 nd (aO pO (aO cM (aO bR (aO bR aB u8) (eK (x:="abs") qJ Z (AA.B.at "abs") tO %[4|az])) w4) (aO bR aB w4)),(eJ (iQ K Z L2 %[px K (cX %[5,nI nu P3|az]) (iE (x:="int") zk Z (AA.B.at "int") vi %[eV ky M2 aB (bf _)|az])|az]))|aG]),aR (iE (x:="tuple") (oq K Z) Z (AA.B.at "tuple") fN %[3|az])|aG],?_];erw[_,Z,v,ns,sp,Z,rd,ok.ne,hz,λH1 s1=>?_];let(lp,lm):=ok.lead;erw[bG Z,λl H2 n2=>?_];let(a,b,rfl,ha,hb):=nP (RD.mono (s1.trans n2.same) _ rd);erw[_,Z,.inr #[a,_,1,.ref b,Z,Z,ha,Z,b,Z,#[_,hb],Vg (K:=K) (a:=b) (xs:=ns.map V.int) (λi O H3=>aH H1 H3/\aW K H3 b (ns.map V.int)/\H3 l=some (.lst (((ns.map λz=>jA (kk*z) (aF ns)).take i).map V.int))/\∃v1 v2,O=[some (.ref a),some (.int kk),some (.int (aF ns)),some (.ref l),v1,v2]) #[n2.same,hb,n2.at',none,none,Z] (λi O H3 _ h=>h.2.1) ?_ ?_]]
  ·rintro i x O H3 hx ⟨s3,UR,dl,v1,v2,rfl⟩
   erw[gh ?_];intro E1;obtain⟨n,en⟩:∃n,ns[i]? =some n:=by rw[bV]at hx;cases e:ns[i]? with |none=>rw[e]at hx;cases hx |some n=>erw[n,Z]
   cases Ba hx en;let nb:=ok.bd n (gZ en);let hi:i<ns.length:=(cm.mp en).1;let ab:jq n=(n.natAbs:Int):=Cv n;let pb:=RS (k:=kk) (z:=n) aw nb;let eA:2*kk*jq n=2*((kk*n).natAbs:Int):=by rw[ab,gL,Int.natCast_mul,zW,Int.natAbs_of_nonneg hk]
   erw[_,Z,_,_,Z,Z,.of_left (cw aA aA),_,Z,_,Z,_,_,Z,Z,.of_left (cw aw aw),_,Z,_,_,Z,Z,_,Z,_,_,Z,Z,.of_left (cw aA aA),_,_,Z,Z,#[aw,Ma aw],?_];let fn:=a9K (n:=n) hk (show(0:Int)<aF ns by lia);erw[_,Z,.inl #[Z,_,aL.of dl],_,Z,_,Z,_,Z,bG Z,λc H4 n4=>?_];erw[_,Z,_,_,Z,Z,.inr #[_,Z,?_]];let Ta:=n4.same _ _ dl;let hat:eY ([.int ((2*kk*jq n+(aF ns:Int))/(2*(aF ns:Int))),.int (-((2*kk*jq n+(aF ns:Int))/(2*(aF ns:Int))))]:List V) (if decide (n<0)=true then 1 else 0)=some (.int (jA (kk*n) (aF ns))):=by
    rw[<-fn];by_cases hn:n<0
    ·rw[aQ (cu hn),aQ hn];rfl
    ·rw[aV (λz=>hn (kg z)),aV hn];rfl
   erw[.inl #[c,_,_,_,Z,Z,aL.of n4.at',hat,?_]];erw[l,_,_,Z,Z,Ta,?_,?_]
   ·have:(1000:Nat)<sizeLine:=by decide
    rw[bB,jM,bB];lia
   erw[λb o e=>?_,aW.t (.iO Ta) (UR.go n4.same),?_,_,_,Z]
   ·rw[aU (dH e n2.no)];erw[n4.same b o (s3 b o e)]
   ·rw[bP,lG,bV,en,jr];rfl
  ·rintro O H3 ⟨s3,UR,dl,v1,v2,rfl⟩
   rw[vk (by simp)]at dl;erw[_,Z,l,_,Z,.inl #[aL.of dl,λt H4 n4=>?_]];erw[k _ _ (fJ (aW.of n4.at') (ug _)) (s1.trans (s3.trans n4.same))]
theorem NP:bu ["_law_line_here","_law_stands","_law_found","_law_one","_law_other_here"] ["_law_line_here"] (aX Pp):=bD aP
inductive a0n|mk v ns sp(_:vs=[v])(_:RD K H v (iR ns sp))(_:fA ns.length 100 ns)(_:ns.length<=1000)(_:∀l ys H',H l=none->H' l=some (.lst ys)->aI K H' ys (iY ns)->aH H H'->Q (.ref l) H')
def vA(ns:List Int):List aj:=(List.range (aF ns+1)).map λ(j:Nat)=>Ab ns (j:Int)
theorem MQ(ns:List Int):bS (vA ns)=true:=cj.mpr λd hd=>by let(j,_,rfl):=gC.mp hd;erw[Aq _]
theorem Gx(h:i<=aF ns):(vA ns)[i]? =some (Ab ns (i:Int)):=by unfold vA;rw[bV,jN aw];rfl
theorem abT(xs:List V):kX xs (some 1) none=xs.drop 1:=by
 unfold kX;let e:_H.cn xs.length 0 (some 1)=min 1 xs.length:=_H.Aj _ _ 1;rw[e,_H.Qn];rcases zK 0 xs.length with h|h
 ·rw[show min 1 xs.length=1 by lia,vk]
  rw[qT];erw[aY _]
 ·have:xs=[]:=G9.mp aw
  subst this;rfl
theorem Sr(AA:a1v):a1k "_law_rows" 3 a0n:=by
 exists AA.aaC.has,NP,fo λ_=>rfl
 ·let(v,ns,sp,rfl,rd,eB,hz,k):=h
  let nd:=NP.nd;let(lp,lm):=eB.lead;let ok:fA ns.length 1000 ns:=#[Z,λz hz=>by have:=eB.bd z hz;lia,eB.nz];erw[_,%[(E4 (i0:=1) nd Z (Or.inl Z) (N:=["_law_k","_law_line_here"]) (js:=[none,some 0]) Z Z Z (pN Z (AA.B.at "range") %[aO cM (pf (vQ AA) hr %[0|az]) aB|az]) (λ_ _ _ _ _=>(aZ 0 (gu aA))) (λ_ _ _ _ _=>fP) (λ_ _ _ _ _=>(pf (a4l AA) hr %[1,0|az]))),pS 2 nd (cX az),(g9 eO Z (kQ K Z true true Z (AA.B.at "zip") %[1,vM (vE K rfl) u8 (uo aB) yh|az]) (cW K rfl (n:=2) rfl %[aZ 3 nd,aZ 4 nd|cU]) (aG (eJ (iQ K Z w4 %[(iE (x:="tuple") (oq K Z) Z (AA.B.at "tuple") fN %[gO (N:=["_law_here","_law_there"]) (js:=[none,none]) rfl rfl rfl (kQ K rfl false false rfl (AA.B.at "zip") %[3,4|az]) (λ_ _ _ _ _=>(cW K rfl (n:=2) rfl %[aZ 0 (gu aA),aZ 1 (gu aA)|cU])) (λ_ _ _ _ _=>fP) (λ_ _ _ _ _=>(aO fE u8 o0))|az])|az])))),aR w4|aG],?_];erw[_,Z,v,ns,sp,Z,rd,ok.ne,hz,λH1 s1=>?_];erw[_,_,Z,Z,_,Z,aw,aw,λD H2 n2=>?_];let e1:((aF ns:Int)+1).toNat=aF ns+1:=by lia
  rw[e1];let lS:(vA ns).length=aF ns+1:=by simp[vA]
  erw[Wr (K:=K) (ds:=vA ns) _ n2 lS.symm aw (MQ ns) ?_ ?_]
  ·intro i d H3 Q' ed s3 hq
   let hi:i<aF ns+1:=by rw[<-lS];exact(cm.mp ed).1
   rw[Gx aw]at ed;cases ed;erw[_,Z,_,Z,v,ns,sp,_,Z,RD.mono (s1.trans s3) _ rd,ok,hz,aw,aw,λu H4 ru s4=>hq u H4 s4 ?_];let e0:(0:Int)+(i:Int)=i:=by lia
   rw[e0]at ru;erw[ru]
  intro H3 ys s3 d3 r3;let ly:=r3.length;rw[lS]at ly;erw[bG Z,λl H4 n4=>?_];let nl:H l=none:=by cases e:H l with |none=>rfl |some o=>have:=(s1.trans s3) _ _ e;rw[n4.no]at this;cases this
  let d4:=n4.same _ _ d3;erw[_,Z,_,Z,_,Z,D,_,Z,.inl #[aL.of d4,λc H5 n5=>?_]];let d5:=n5.same _ _ d4;let Tf:=n5.at';rw[abT]at Tf;let r5:=aI.mono (n4.same.trans n5.same) _ r3;erw[D,c,Z,#[_,aL.of d5],#[_,aL.of n5.at'],?_];erw[Jy (K:=K) (b1:=true) (b2:=true) (xs:=ys) (ys:=ys.drop 1) (aF ns) (by rw[qT];lia) (λi O H6=>aH H3 H6/\H6 D=some (.lst ys)/\H6 c=some (.lst (ys.drop 1))/\aI K H6 ys (vA ns)/\(∃zs,H6 l=some (.lst zs)/\aI K H6 zs ((iY ns).take i))/\∃v1 v2,O=[some v,some (.ref D),some (.ref l),v1,v2]) #[n4.same.trans n5.same,d5,Tf,r5,#[[],n5.same _ _ n4.at',cH],none,none,Z] (λi O H6 _ h=>#[aL.of h.2.1,aL.of h.2.2.1]) ?_ ?_]
  ·rintro i x y O H6 ex ey ⟨s6,dD,dc,rD,⟨zs,dl,rz⟩,v1,v2,rfl⟩ T H7 n7
   erw[gh ?_];intro E2;let hi:i<aF ns:=by have:=(cm.mp ey).1;rw[qT]at this;lia
   let(dx,ze,rx):=rD.get' i ex;rw[Gx aw]at ze;cases ze;rw[qU]at ey;let(dy,VN,ry):=rD.get' (1+i) ey;rw[Gx aw]at VN;cases VN;let(a1,xs1,rfl,h1,q1):=(RD.mono n7.same _ ry).cF;let e1:=q1.j7;subst e1;let(a0,xs0,rfl,h0,q0):=(RD.mono n7.same _ rx).cF;let e0:=q0.j7;subst e0;erw[T,_,Z,aW.of n7.at',Z,_,_,Z,_,_,Z,Z,?_];erw[_,Z,.inl #[Z,_,aL.of (n7.same _ _ dl)],?_];erw[_,Z,_,Z,a0,a1,Z,#[_,h0],#[_,h1],λD2 H8 nw=>?_];erw[xn (K:=K) (b1:=false) (b2:=false) (ds:=(eH ns i).map PyData.int) [] rfl h0 h1 nw (by simp[eH]) (by simpa[eH]using hz) (mK _) ?_ ?_]
   ·intro j x y d H9 Q' ex ey ed s9 hq
    let(m,em,rfl):=pW ed;unfold eH at em;rw[bV]at em ex ey;rw[bV]at ex ey;cases en:ns[j]? with |none=>rw[en]at em;cases em |some n=>
     rw[en]at em ex ey;cases em;cases ex;cases ey;erw[_,Z,_,Z,_,_,Z,Z,?_];let ee:((1+i:Nat):Int)=(i:Int)+1:=by lia
     rw[ee];erw[hq _ _ (aH.refl _) (dF _)]
   ·intro H9 ws s9 d9 r9
    erw[D2,_,Z,.inl #[aL.of d9,λt gB jg=>?_]];let yc:=n7.same.trans (s9.trans jg.same);let Wa:=yc _ _ dl;let len:=rz.length;rw[jM,u9]at len;erw[l,zs,_,Z,Z,Wa,?_,?_]
    ·have:(1000:Nat)<sizeLine:=by decide
     lia
    let tt:eZ gB (_L.upd gB l (.lst (zs++[.ref t]))):=.iO Wa;let lD:D≠l:=λe=>by rw[<-e]at n4;have:=n4.no;rw[d3]at this;cases this
    let lc:c≠l:=λe=>by rw[e]at n5;have:=n5.no;rw[n4.at']at this;cases this
    erw[λb o e=>?_,?_,?_,?_,#[_,bP,?_],_,_,Z]
    ·rw[aU (dH e n4.no)];erw[yc b o (s6 b o e)]
    ·rw[aU lD];erw[yc _ _ dD]
    ·rw[aU lc];erw[yc _ _ dc]
    ·erw[aI.t tt _ (MQ ns) (aI.mono yc _ rD)]
    ·rw[lG,Ap hi]
     let nt:bS ((iY ns).take i)=true:=cj.mpr λd hd=>cj.mp (Ao ns) d (zN hd);exact(aI.t tt _ nt (aI.mono yc _ rz)).append %[RD.t tt _ (Aq _) (fJ (aW.of jg.at') (aI.mono jg.same _ r9))|cH]
  ·rintro O H6 ⟨s6,dD,dc,rD,⟨zs,dl,rz⟩,v1,v2,rfl⟩
   rw[vk (by rw[u9];erw[aY _])]at rz;erw[_,Z,k l zs H6 nl dl rz ((s1.trans s3).trans s6)]
end
end _c
namespace _c
open PySem PySem.Spec PyProof.Rows _L _d _l
section
inductive a0f|mk m sq rs r f j ti q(_:vs=[m,sq])(_:RD K H m (fy rs r f j ti))(_:bj H sq q)(_:Bd 2000 q)(_:1<=ti)(_:ti<=100)(_:0<q.num)(_:∀T,1<=T->T.natAbs<2^2400->eX ti q T=true->eX ti q (T-1)=false->∀H',aH H H'->Q (.int T) H')
theorem ND:bu ["_law_machine_here","_law_square","_law_wanted","_law_low","_law_high","_law_half"] ["_law_machine_here","_law_square"] (aX Pc):=bD aP
theorem So(AA:a1v):a1k "_law_ticks" 1 a0f:=by
 erw[AA.aav.has ND (λvs H Q E h=>?_) (λ_ _ _ _ _ _=>dY λ_ _=>rfl) (λf aM A outer s H vs Q E hr h=>?_)]
 · let(m,sq,rs,r,f,j,ti,q,rfl,_):=h
   rfl
 · let(m,sq,rs,r,f,j,ti,q,rfl,rm,(p,rfl,hp),bq,t1,t2,hq,k):=h
   let nd:=ND.nd;erw[_,%[pS 2 nd (aO bR (aO vO (px K o0 aB) aB) (px K u8 aB)),fe (cQ %[aB,aB|az]) (cW K Z (n:=2) Z %[aZ 3 nd,aZ 4 nd|cU]),pM eO (bL ky (aO bR (aO bR M2 M2) (px K u8 aB)) w4 (bf _)) (aG (rL (i:=3) (j:=4) Z nd Z Z aA Z Z %[4,aO bR aB M2|az] Z)),pM eO (bL mH (aO fE M2 L2) aB (bf _)) %[pS 5 nd (aO pO (aO cM L2 M2) aB),bw (bL ky (aO bR (aO bR P3 P3) (px K u8 aB)) w4 (bf _)) (aG (pS 3 nd P3)) (aG (pS 4 nd P3))|aG],aR M2|aG],?_];let(a,b,rfl,ha,hb):=mM rm;let m1:(ti*ti).natAbs<=100*100:=by rw[gL];erw[oo aw aw]
   let eP:ti^(2:Int).toNat=ti*ti:=by show ti^2=ti*ti;rw[fh,fh,kK,ki]
   let lim:(ti*ti*(q.den:Int)).natAbs<2^2399:=by let hd:=bq.den;rw[gL];have:(q.den:Int).natAbs=q.den:=rfl;rw[this];have:=oH (n:=14) (m:=2000) (a:=(ti*ti).natAbs) (b:=q.den) (xN m1 aA) hd;erw[gK this (tP aA aA)]
   let p0:0<ti*ti*(q.den:Int):=hJ (hJ aw aw) (den_pos q);let e2:(2:Nat)^2400=2^2399*2:=Nat.pow_succ 2 2399;let Dn:∀{t:Int},t.natAbs<2^2400->Wd (t*t):=λ{t} tw=>jv (n:=4800) (by rw[gL];erw[oH (n:=2400) (m:=2400) tw tw]) aA;let wt:∀{t:Int},t.natAbs<2^2400->Wd t:=λ{t} tw=>jv tw aA;erw[_,Z,.inr #[a,_,4,.int ti,Z,Z,ha,Z,?_]]
   refine ⟨_, _, rfl, rfl, ⟨by decide, by decide, by have:(2:Nat)^64=18446744073709551616:=by decide
                                                     lia⟩,?_⟩;erw[_,Z,.inr #[p,_,1,.int q.den,Z,Z,hp,Z,?_]];erw[_,_,Z,Z,by rw[eP];erw[.of_left (cw aw aw)],?_];let eW:ti^(2:Int).toNat*(q.den:Int)=ti*ti*(q.den:Int):=by rw[eP]
   let VJ:∀t:Int,decide (t*t*q.num<ti^(2:Int).toNat*(q.den:Int))= !eX ti q t:=λt=>by unfold eX;rw[eW,<-decide_not];erw[decide_eq_decide.mpr aw]
   erw[bG Z,λc0 H0 n0=>?_];erw[c0,_,Z,aW.of n0.at',Z,_,_,Z,_,_,Z,Z,?_];let EN:=hp.go n0.same;let k':∀T:Int,1<=T->T.natAbs<2^2400->eX ti q T=true->eX ti q (T-1)=false->Q (.int T) H0:=λT a1 a2 a3 a4=>(k T a1 a2 a3 a4) H0 n0.same;generalize hL:ti*ti*(q.den:Int)=L at lim p0;erw[pD (λO H2=>H2=H0/\∃(lo x:Int),O=[some (.ref a),some (.ref p),some (.int (ti^(2:Int).toNat*(q.den:Int))),some (.int lo),some (.int x),none]/\0<=lo/\lo<x/\x<=2*L/\eX ti q lo=false) (λO _=>match O with|[_,_,_,_,some (.int x),_]=>(L-x).toNat|_=>0) ?_ ?_ ?_]
   ·erw[Z,0,1,Z,aw,aw,aw,VE t1]
   · rintro O H2 ⟨rfl,lo,x,rfl,l0,lx,xL,hx⟩
     erw[xB ?_];intro E1;let xw:x.natAbs<2^2400:=by lia
     erw[_,Z,_,Z,_,_,Z,Z,jd (wt xw).bits (wt xw).bits,_,Z,.inr #[p,_,0,.int q.num,Z,Z,EN,Z,_,_,Z,Z,jd (Dn xw).bits bq.wn.bits,?_]];erw[_,Z,_,_,Z,Z,_,Z,?_];show if decide (x*x*q.num<ti^(2:Int).toNat*(q.den:Int))=true then _ else _;rw[VJ];cases sO:eX ti q x with
     |false=>
       let bK:x<L:=by
        by_cases bK:x<L
        ·erw[bK]
        ·rw[VG hq aw aw]at sO;cases sO
       erw[bA ?_];erw[_,Z,_,Z,_,_,Z,Z,.of_left (cw aA aA),_,_,Z,?_];erw[#[Z,x,2*x,Z,aw,aw,aw,sO],?_];show(L-2*x).toNat<(L-x).toNat
       lia |true=>
       erw[ba ?_];erw[pD (λO H3=>H3=H2/\∃(lo hi:Int)(v:Option V),O=[some (.ref a),some (.ref p),some (.int (ti^(2:Int).toNat*(q.den:Int))),some (.int lo),some (.int hi),v]/\0<=lo/\lo<hi/\hi<=2*L/\eX ti q lo=false/\eX ti q hi=true) (λO _=>match O with|[_,_,_,some (.int y),some (.int x),_]=>(x-y).toNat|_=>0) ?_ ?_ ?_]
       ·erw[Z,lo,x,none,Z,aw,aw,xL,hx,sO]
       · rintro O H3 ⟨rfl,lo,hi,v,rfl,l0,lh,qo,BZ,wX⟩
         erw[xB ?_];intro E2;erw[_,Z,_,Z,_,_,Z,Z,_,_,Z,Z,_,Z,?_];erw[dW (λhc=>?_) (λhc=>?_)]
         · let UK:hi-lo>1:=kg hc
           erw[_,Z,_,Z,_,_,Z,Z,_,_,Z,Z,#[aA,jv (n:=2) aA aA],?_];let mw:((lo+hi)/2).natAbs<2^2400:=by lia
           erw[_,Z,_,Z,_,_,Z,Z,jd (wt mw).bits (wt mw).bits,_,Z,.inr #[p,_,0,.int q.num,Z,Z,EN,Z,_,_,Z,Z,jd (Dn mw).bits bq.wn.bits,?_]];erw[_,Z,_,_,Z,Z,_,Z,?_];show if decide ((lo+hi)/2*((lo+hi)/2)*q.num<ti^(2:Int).toNat*(q.den:Int))=true then _ else _;rw[VJ];cases hm:eX ti q ((lo+hi)/2)with
           |true=>
             erw[ba ?_];erw[_,Z,#[Z,lo,_,_,Z,l0,aw,aw,BZ,hm],?_];show((lo+hi)/2-lo).toNat<(hi-lo).toNat
             lia |false=>
             erw[bA ?_];erw[_,Z,#[Z,_,hi,_,Z,aw,aw,qo,hm,wX],?_];show(hi-(lo+hi)/2).toNat<(hi-lo).toNat
             lia
         · let hle:¬hi-lo>1:=λz=>hc (cu z)
           let e:lo=hi-1:=by lia
           subst e;erw[_,Z,k' hi aw aw wX BZ]
       · rintro O H2 Q1 Q2 hq ⟨v1,e1,v2,e2,i,j,e3,e4,i2,j2,e5,e6,kk,e7,q⟩
         erw[v1,e1,v2,e2,i,j,e3,e4,i2,j2,e5,e6,kk,e7,hq _ _ q]
   · rintro O H2 Q1 Q2 hq ⟨v1,e1,v2,e2,i,j,e3,e4,mo,v3,e5,h⟩
     erw[v1,e1,v2,e2,i,j,e3,e4,mo,v3,e5,?_];rcases h with⟨a,xs,ii,x,f1,f2,f3,f4,i2,j2,g1,g2,g3,v4,g4,i3,j3,g5,g6,kk,g7,q⟩|⟨a,xs,ii,x,f1,f2,f3,f4,i2,j2,g1,g2,g3,v4,g4,i3,j3,g5,g6,kk,g7,q⟩
     ·erw[.inl #[a,xs,ii,x,f1,f2,f3,f4,i2,j2,g1,g2,g3,v4,g4,i3,j3,g5,g6,kk,g7,hq _ _ q]]
     ·erw[.inr #[a,xs,ii,x,f1,f2,f3,f4,i2,j2,g1,g2,g3,v4,g4,i3,j3,g5,g6,kk,g7,hq _ _ q]]
end
end _c
namespace _c
open PySem PySem.Spec PyProof.Rows _L _d _l _C _P
open _O (topR cornO mnO betR atO ownF leadF ownL OkI OkIs)
section
inductive a0X|mk m iv rate rs r f j t ds os(_:vs=[m,iv,.int rate])(_:RD K H m (fy rs r f j t))(_:gA rs r f j t)(_:RD K H iv (.tuple ds))(_:cg rs.length ds os)(_:ds.length<=100)(_:10<=rate)(_:rate<=200)(_:∀l ys H',H l=none->H' l=some (.lst ys)->aI K H' ys ((ownL j rate os).map cA)->aH H H'->Q (.ref l) H')
def kx(j rate:Int)(os:List Itm)(i:Nat):List Rat:=(List.range (os.length+1)).map λk=>if k<=i then ownF j rate os k else 0
theorem yk(j rate:Int)(os:List Itm)(i:Nat){k:Nat}(h:k<=os.length):(kx j rate os i)[k]? =some (if k<=i then ownF j rate os k else 0):=by unfold kx;rw[bV,bo (by simp;lia),xR];rfl
theorem rV(j rate:Int)(os:List Itm)(i:Nat):(kx j rate os i).length=os.length+1:=by simp[kx]
theorem S9(j rate:Int)(os:List Itm)(i:Nat)(h:i+1<=os.length):(kx j rate os i).set (i+1) (ownF j rate os (i+1))=kx j rate os (i+1):=by
 apply zU;intro k;by_cases hk:k<=os.length
 ·rw[yk j rate os (i+1) hk,List.getElem?_set]
  by_cases e:i+1=k
  ·subst e
   rw[aQ Z,aQ (by rw[rV];lia),aQ (aY _)]
  ·rw[aV e,yk j rate os i hk]
   congr 1;by_cases h1:k<=i
   ·rw[aQ h1,aQ aw]
   ·rw[aV h1,aV aw]
 ·rw[mj (by rw[xQ,rV];lia),mj (by rw[rV];lia)]
theorem a3R(j rate:Int)(os:List Itm)(i:Nat)(h:i+1<=os.length)(e:ownF j rate os (i+1)=0):kx j rate os (i+1)=kx j rate os i:=by
 apply zU;intro k;by_cases hk:k<=os.length
 ·rw[yk j rate os (i+1) hk,yk j rate os i hk]
  congr 1;by_cases h1:k<=i
  ·rw[aQ h1,aQ aw]
  ·rw[aV h1]
   by_cases h2:k=i+1
   ·subst h2;rw[aQ (aY _),e]
   ·rw[aV aw]
 ·rw[mj (by rw[rV];lia),mj (by rw[rV];lia)]
theorem OV:bu ["_law_machine_here","_law_items_here","_law_rate","_law_found","_law_border","_law_one","_law_other_here","_law_a","_law_b","_law_gap","_law_corner"] ["_law_machine_here","_law_items_here","_law_rate"] (aX QL):=bD aP
theorem SI(AA:a1v):a1k "_law_bounds" 3 a0X:=by
 erw[AA.aaV.has OV (λvs H Q E h=>?_) (λ_ _ _ _ _ _=>kG λ_ _ _=>rfl) (λf aM A outer s H vs Q E hr h=>?_)]
 · let(m,iv,rate,rs,r,f,j,t,ds,os,rfl,_):=h
   rfl
 · let(m,iv,rate,rs,r,f,j,t,ds,os,rfl,rm,aK,ri,row,hz,bO,rt2,k):=h
   let nd:=OV.nd;erw[_,%[(E4 (i0:=3) nd Z (Or.inl Z) (N:=["_law_border"]) (js:=[none]) Z Z Z (pN Z (AA.B.at "range") %[aO cM (cY K AA.B %[1|az]) aB|az]) (λ_ _ _ _ _=>(aZ 0 (uw _))) (λ_ _ _ _ _=>fP) (λ_ _ _ _ _=>(cQ %[aB,aB|az]))),(g9 eO Z (E6 Z (AA.B.at "range") %[aB,cY K AA.B %[1|az]|az]) (aZ 4 nd) %[rL (i:=5) (j:=6) Z nd Z Z aA Z Z %[px K u8 (aO fE M2 aB),px K u8 M2|az] Z,(bw (PW.pt (mG (bL (cJ K Z hr.units) (px K P3 aB) eU (bf _)) (pL (bL (cJ K Z hr.units) (px K W1 aB) eU (bf _))))) %[(fe (cQ %[pf (vQ AA) hr %[5|az],pf (vQ AA) hr %[6|az]|az]) (cW K Z (n:=2) Z %[aZ 7 nd,aZ 8 nd|cU])),(pS 9 nd (eK (x:="max") (Ip K Z Z) Z (AA.B.at "max") LD %[gO (N:=["_law_x","_law_y","_law_b","_law_a"]) (js:=[none,none,some 8,some 7]) rfl rfl rfl (kQ K rfl false false rfl (AA.B.at "zip") %[px K P3 aB,px K W1 aB|az]) (λ_ _ _ _ _=>(cW K rfl (n:=2) rfl %[aZ 0 (show List.Nodup (["_law_x","_law_y","_law_b","_law_a"]:List Str) by decide+kernel),aZ 1 (show List.Nodup (["_law_x","_law_y","_law_b","_law_a"]:List Str) by decide+kernel)|cU])) (λ_ _ _ _ _=>fP) (λ_ _ _ _ _=>(eK (x:="abs") qJ rfl (AA.B.at "abs") tO %[aO fE (aO bR o0 w4) (aO bR u8 L2)|az]))|az])),(fe (pf (yu AA) hr %[(cX %[pf (AO AA) hr %[5,2|az],pf (AO AA) hr %[6,2|az]|az])|az]) (rP L2 M2 set_list)),(bw (bL mH a1j aB (bf _)) %[pS 10 nd (pf (El AA) hr %[aO vO (aO bR (aO bR (px K o0 aB) a1b) (pv 8)) aB,aO vO a1j aB|az]),(fe (pf (yu AA) hr %[cX %[px K L2 M2,10|az]|az]) (rP L2 M2 set_list))|aG] bC)|aG] bC)|aG]),aR L2|aG],?_];let(ia,xs,rfl,hi,dI):=ri.cF;let(ma,mb,rfl,fS,lU):=mM rm;let lx:=dI.length;let ll:=row.len;let lr:=aK.len;erw[_,Z,ia,_,Z,.inr hi,_,_,Z,Z,_,Z,aw,aw,λD H1 n1=>?_];let eN:((xs.length:Int)+1).toNat=os.length+1:=by lia
   rw[eN];erw[Wr (K:=K) (lo:=0) (n:=os.length+1) (ds:=(kx j rate os 0).map cA) _ n1 (by rw[bB,rV]) aw (mJ _) ?_ ?_]
   · intro i d H2 Q' ed s2 hq
     let UI:i<=os.length:=by have:=(cm.mp ed).1;rw[bB,rV]at this;lia
     let e0:d=cA 0:=by
      rw[bV,yk j rate os 0 UI]at ed;have:=(eQ ed).symm;rw[this];congr 1;split
      · next h => have:i=0:=by lia
                  subst this;rfl
      ·rfl
     subst e0;erw[bG Z,λz H3 n3=>?_];erw[hq _ _ n3.same (bj.rd #[z,Z,aW.of n3.at'])]
   intro H2 ys s2 d2 r2;erw[_,Z,ia,_,Z,.inr (hi.go s2),_,_,Z,#[aA,aA,aw,aw],?_];erw[qz (Pv:=λi O H5=>aH H H5/\∃(ys:List V)(v1 v2 v3 v4 v5 v6 v7:Option V),H5 D=some (.lst ys)/\aI K H5 ys ((kx j rate os i).map cA)/\O=[some (.ref ma),some (.ref ia),some (.int rate),some (.ref D),v1,v2,v3,v4,v5,v6,v7]) ?_ ?_ ?_]
   ·erw[s2,ys,none,none,none,none,none,none,none,d2,r2,Z]
   · rintro i O H5 oP ⟨s5,ys,v1,v2,v3,v4,v5,v6,v7,dl,uh,rfl⟩
     erw[gh ?_];intro E1;let yT:i+1<os.length:=by lia
     let qD:=bo (show i<os.length by lia);let nZ:=bo yT;obtain⟨x1,zd⟩:∃x,xs[i]? =some x:=#[_,bo (show i<xs.length by lia)];obtain⟨x2,Vs⟩:∃x,xs[i+1]? =some x:=#[_,bo (show i+1<xs.length by lia)];let(d1,e1,r1):=dI.get' i zd;let(d2,e2,r2):=dI.get' (i+1) Vs;let i1:=row.it i d1 _ e1 qD;let i2:=row.it (i+1) d2 _ e2 nZ;let EO:ownF j rate os (i+1)=betR j rate os[i] os[i+1]:=by show betR j rate (atO os i) (atO os (i+1))=_;rw[_O.m8 qD,_O.m8 nZ]
     let C8:((1:Int)+(i:Int)-1).toNat=i:=by lia
     let Kc:((1:Int)+(i:Int)).toNat=i+1:=by lia
     let qK:eY xs ((1:Int)+(i:Int)-1)=some x1:=cI aw (by rw[C8];erw[zd]);let at2:eY xs ((1:Int)+(i:Int))=some x2:=cI aw (by rw[Kc];erw[Vs]);let UJ:=hi.go s5;let(a1,w1,y1,rfl,h1,ew1,ZW):=wq (RD.mono s5 _ r1) i1;let(a2,w2,y2,rfl,h2,ew2,ZV):=wq (RD.mono s5 _ r2) i2;let same:os[i]=none\/os[i+1]=none->aI K H5 ys ((kx j rate os (i+1)).map cA):=λhn=>by
      rw[a3R j rate os i aw]
      ·erw[uh]
      · rw[EO]
        rcases hn with e|e
        ·rw[e];erw[_O.Cq _ _ _]
        ·rw[e];erw[_O.tx _ _ _]
     refine⟨_,Z,_,Z,_,_,Z,Z,.inr #[ia,_,_,_,Z,Z,UJ,qK,_,Z,_,Z,.inr #[ia,_,_,_,Z,Z,UJ,at2,_,_,Z,?_]]⟩;erw[_,Z,.inr #[a1,_,0,.str w1,Z,Z,h1,cI (fD 0) Z,.inr #[_,_,cL _,cL _,ZW,wk,_,Z,?_]]];rw[ew1];cases Jd:os[i]with |none=>erw[ba #[s5,ys,_,_,_,_,_,_,_,dl,same (.inl Jd),Z]] |some q1=>erw[bA ?_];erw[_,Z,.inr #[a2,_,0,.str w2,Z,Z,h2,cI (fD 0) Z,.inr #[_,_,cL _,cL _,ZV,wk,_,Z,?_]]];rw[ew2];cases yR:os[i+1]with |none=>erw[ba #[s5,ys,_,_,_,_,_,_,_,dl,same (.inr yR),Z]] |some q2=>
         erw[bA ?_];let(ns,sp):=q1;let(ms,sq):=q2;rw[Jd]at i1 qD;rw[yR]at i2 nZ;let ed1:=jC i1;let ed2:=jC i2;subst ed1 ed2;let(eB,p1,p2):=row.ok i ns sp qD;let(fF,q1,q2):=row.ok (i+1) ms sq nZ;let T1:Bd 2000 (topR rate sp):=(_O.lN p1 p2 bO rt2).mono aA;let T2:Bd 2000 (topR rate sq):=(_O.lN q1 q2 bO rt2).mono aA;let l1:=mO eB;let l2:=mO fF;let lq1:=eB.lead.1;let kS:=fF.lead.1;let ln1:ns.length<=3:=by rw[eB.len];lia
         let ln2:ms.length<=3:=by rw[fF.len];lia
         let TN:ms.length=ns.length:=by rw[eB.len,fF.len]
         erw[_,Z,_,ns,sp,Z,RD.mono s5 _ r1,eB.ne,aw,λH6 s6=>?_];let DQ:=s5.trans s6;erw[_,Z,_,ms,sq,Z,RD.mono DQ _ r2,fF.ne,aw,λH7 s7=>?_];erw[bG Z,λtq H7' Ij=>?_];erw[tq,_,Z,aW.of Ij.at',Z,_,_,Z,_,_,Z,Z,?_];let oy:=DQ.trans (s7.trans Ij.same);let s67:=s6.trans (s7.trans Ij.same);let(a1',b1,ea1,ha1,BH):=nP (RD.mono oy _ r1);let(a2',b2,ea2,ha2,BG):=nP (RD.mono oy _ r2);cases ea1;cases ea2;erw[_,Z,.inr #[a1,_,1,.ref b1,Z,Z,ha1,Z,_,Z,.inr #[a2,_,1,.ref b2,Z,Z,ha2,Z,b1,b2,Z,#[_,BH],#[_,BG],λD4 H8 n8=>?_]]];erw[xn (K:=K) (b1:=false) (b2:=false) (xs:=ns.map V.int) (ys:=ms.map V.int) (ds:=((dk ns ms).map jq).map PyData.int) _ Z BH BG n8 (by simp[dk]) (by simp[dk];lia) (mK _) ?_ ?_]
         · intro i x y d H9 Q' ex ey ed s9 hq
           let(a,b,e1,e2,rfl,rfl):=zip2 TN ex ey;let(m,em,rfl):=pW ed;rw[bV,M8 e1 e2]at em;cases em;let q1:=eB.bd a (gZ e1);let q2:=fF.bd b (gZ e2);erw[_,Z,_,Z,_,_,Z,Z,.of_left (cw aw aw),?_];erw[_,Z,_,Z,_,_,Z,Z,.of_left (cw aw aw),?_];erw[_,_,Z,Z,_,Z,hq _ _ (aH.refl _) (dF _)]
         intro H9 zs s9 d9 r9;rw[r9.j7]at d9;let m6:dk ns ms≠[]:=by
          let hl:(dk ns ms).length=ns.length:=by simp[dk,TN]
          intro e;rw[e]at hl;erw[eB.ne (G9.mp hl.symm)]
         erw[D4,_,Z,aL.of d9,by simpa using m6,λM h1 h2=>?_];let eM:=IJ m6 h1 h2;subst eM;let rE:=oy.trans s9;let s69:=s67.trans s9;erw[_,Z,_,Z,_,ns,sp,rate,Z,RD.mono rE _ r1,p1,p2,bO,rt2,λt1 gB Hl kP=>?_];erw[_,Z,_,Z,_,ms,sq,rate,Z,RD.mono (rE.trans kP) _ r2,q1,q2,bO,rt2,λt2 jc Hk vG=>?_];erw[bG Z,λlm xF Er=>?_];let R1:bj xF t1 (topR rate sp):=(Hl.go vG).go Er.same;let R2:bj xF t2 (topR rate sq):=Hk.go Er.same;erw[lm,[t1,t2],[topR rate sp,topR rate sq],Z,aL.of Er.at',#[R1,T1,R2,T2,trivial],by simp,λc lv q ec1 VQ hq=>?_];let mS:mn (topR rate sp) (topR rate sq)=q:=by
          erw[sj ?_ (hq _ (by simp)) (hq _ (by simp))]
          match c,VQ with |0,e2=>cases e2;erw[.inl rfl] |1,e2=>cases e2;erw[.inr rfl]
         let rl:bj xF lv (mn (topR rate sp) (topR rate sq)):=by
          rw[mS]
          match c,ec1,VQ with |0,e1,e2=>cases e1;cases e2;erw[R1] |1,e1,e2=>cases e1;cases e2;erw[R2]
         let a1Q:=kP.trans (vG.trans Er.same);let GX:=s69.trans a1Q;let Km:=GX _ _ dl;let ly:=uh.length;rw[bB,rV]at ly;let Uj:iS ys.length ((1:Int)+(i:Int))=some (i+1):=by unfold iS;rw[aQ aw,aQ aw,Kc]
         erw[_,Z,_,Z,D,ys,_,_,Z,Z,Km,Uj,?_];let Ht:=aI.Ai (i:=i+1) Km (aI.mono GX _ uh) rl.rd (mJ _) (nH _);let sD:∀{o:HO},aH H (_L.upd xF D o):=λ{o} b o' e=>by rw[aU (dH e n1.no)];erw[GX b o' (s5 b o' e)]
         let tU:eZ xF (_L.upd xF D (.lst (ys.set (i+1) lv))):=.iO Km;erw[_,Z,_,_,Z,Z,_,Z,?_];rw[Jd,yR]at EO;let cO:cornO j ns ms=if aF (dk ns ms)=0 then none else some (Rat.divInt ((j*aF ns*aF ms)^2) ((aF (dk ns ms):Int)^2)):=rfl;show if decide ((aF (dk ns ms):Int)>0)=true then _ else _;by_cases h0:aF (dk ns ms)=0
         · rw[dP aw]
           erw[ba ?_];rw[aQ h0]at cO;erw[sD,ys.set (i+1) lv,_,_,_,_,_,_,_,bP,?_,Z];rw[<-xP]at Ht;let e:(kx j rate os i).set (i+1) (mn (topR rate sp) (topR rate sq))=kx j rate os (i+1):=by rw[<-S9 j rate os i aw,EO];show _=List.set _ _ (mnO _ (cornO j ns ms));rw[cO];rfl
           rw[<-e];erw[Ht]
         · rw[cu aw]
           erw[bA ?_];rw[aV h0]at cO;let jl:(j*aF ns).natAbs<=50*100:=mL (by have:=aK.j1;lia) aw;let jl2:(j*aF ns*aF ms).natAbs<=50*100*100:=mL jl aw;let cb:=Fh (λz hz=>by have:=eB.bd z hz;lia) (λz hz=>by have:=fF.bd z hz;lia) (ns:=ns) (ms:=ms);let wI:=qd cb;let mU:(2:Nat)^64=18446744073709551616:=by decide
           erw[_,Z,.inr #[ma,_,3,.int j,Z,Z,fS.go sD,Z,?_]];erw[_,Z,_,_,Z,Z,.of_left (cw (by have:=aK.j1;lia) (by have:=aK.j1;lia)),_,Z,_,_,Z,Z,.of_right (cw aw aw),?_];erw[_,_,Z,Z,#[aA,aA,by rw[mU];lia],_,Z,_,_,Z,Z,#[aA,aA,by rw[mU];lia],_,_,Z,?_,?_,λv6 CH r6 eG=>?_]
           · show 0<(aF (dk ns ms):Int)^2
             rw[fh,fh,kK,ki];erw[hJ aw aw]
           · erw[jv (n:=64) ?_ aA]
             show((aF (dk ns ms):Int)^2).natAbs<_;rw[fh,fh,kK,ki,mU];have:=mL (a:=(aF (dk ns ms):Int)) (b:=(aF (dk ns ms):Int)) (m:=2000000) (n:=2000000) aw aw
             lia
           let Rc:bj CH v6 (Rat.divInt ((j*aF ns*aF ms)^2) ((aF (dk ns ms):Int)^2)):=r6;let Tc:Bd 2000 (Rat.divInt ((j*aF ns*aF ms)^2) ((aF (dk ns ms):Int)^2)):=(_O.Kr aK.j1.1 aK.j1.2 eB.bd fF.bd cO).mono aA;generalize Rat.divInt ((j*aF ns*aF ms)^2) ((aF (dk ns ms):Int)^2)=cq at Rc Tc cO;let W9:=eG _ _ (bP (H:=xF) (a:=D) (o:=.lst (ys.set (i+1) lv)));let at3:eY (ys.set (i+1) lv) ((1:Int)+(i:Int))=some lv:=cI aw (by rw[Kc,D5 aw]);let adu:bj CH lv (mn (topR rate sp) (topR rate sq)):=jy (RD.mono eG _ (RD.t tU _ (nH _) rl.rd));erw[_,Z,_,Z,.inl #[D,_,_,_,Z,Z,aL.of W9,at3,_,Z,?_]];erw[bG Z,λIG zC yJ=>?_];let Xp:=adu.go yJ.same;let Xo:=Rc.go yJ.same;erw[IG,[lv,v6],[mn (topR rate sp) (topR rate sq),cq],Z,aL.of yJ.at',#[Xp,_O.pU T1 T2,Xo,Tc,trivial],by simp,λc' lv2 q' abt VP ji=>?_];let a7F:mn (mn (topR rate sp) (topR rate sq)) cq=q':=by
            erw[sj ?_ (ji _ (by simp)) (ji _ (by simp))]
            match c',VP with |0,e2=>cases e2;erw[.inl rfl] |1,e2=>cases e2;erw[.inr rfl]
           let DU:bj zC lv2 (mn (mn (topR rate sp) (topR rate sq)) cq):=by
            rw[a7F]
            match c',abt,VP with |0,e1,e2=>cases e1;cases e2;erw[Xp] |1,e1,e2=>cases e1;cases e2;erw[Xo]
           let W8:=yJ.same _ _ W9;erw[_,Z,_,Z,D,_,_,_,Z,Z,W8,(by rw[xQ];erw[Uj]),?_];let RI:=aI.Ai (i:=i+1) W8 (aI.mono (eG.trans yJ.same) _ Ht) DU.rd (by rw[<-xP];erw[mJ _]) (nH _);erw[λb o' e=>by rw[aU (dH e n1.no)];erw[yJ.same b o' (eG b o' (sD b o' e))],_,_,_,_,_,_,_,_,bP,?_,Z];rw[LL,LL,<-xP]at RI;let e:(kx j rate os i).set (i+1) (mn (mn (topR rate sp) (topR rate sq)) cq)=kx j rate os (i+1):=by rw[<-S9 j rate os i aw,EO];show _=List.set _ _ (mnO _ (cornO j ns ms));rw[cO];rfl
           rw[<-e,LL];erw[RI]
   · rintro O H5 ⟨s5,ys,v1,v2,v3,v4,v5,v6,v7,dl,uh,rfl⟩
     let e:kx j rate os ((xs.length:Int)-1).toNat=ownL j rate os:=by
      apply zU;intro k;by_cases hk:k<=os.length
      · rw[yk j rate os _ hk,_O.Sb j rate os hk]
        congr 1;split
        ·rfl
        · have:k=os.length:=by lia
          exact(_O.Ed j rate os k this).symm
      ·rw[mj (by rw[rV];lia),mj (by rw[_O.Sa];lia)]
     rw[e]at uh;erw[_,Z,k D ys H5 n1.no dl uh s5]
end
section
theorem M7{z:Int}(h:z.natAbs<2^24):Bd 100 (z:Rat):=#[by rw[zF];erw[Nat.lt_trans h aA],by rw[zH];decide]
theorem O2:bu ["_law_machine_here","_law_items_here","_law_rate","_law_found","_law_border","_law_more"] ["_law_machine_here","_law_items_here","_law_rate"] (aX Q3):=bD aP
theorem a4z(AA:a1v):a1k "_law_plan" 4 a0y:=by
 erw[AA.aaD.has O2 (λvs H Q E h=>?_) (λ_ _ _ _ _ _=>kG λ_ _ _=>rfl) (λfa aM A outer s H vs Q E hr h=>?_)]
 · let(m,iv,rate,rs,r,f,j,t,ds,os,rfl,_):=h
   rfl
 · let(m,iv,rate,rs,r,f,j,t,ds,os,rfl,rm,aK,ri,row,hz,bO,rt2,k):=h
   let nd:=O2.nd;erw[_,%[pS 3 nd (pf (SI AA) hr %[0,1,2|az]),(g9 eO Z (a3q Z (AA.B.at "range") %[aO fE (cY K AA.B %[1|az]) aB,aB,nI nu aB|az]) (aZ 4 nd) (aG (bw (bL (cJ K Z hr.units) (px K (px K u8 M2) aB) eU (bf _)) %[(pS 5 nd (pf (yt AA) hr %[px K L2 (aO cM M2 aB),(cQ %[aO bR (aO bR aB (px K o0 aB)) (pf (vQ AA) hr %[px K u8 M2|az]),aB|az])|az])),(fe (pf (yu AA) hr %[cX %[px K L2 M2,5|az]|az]) (rP L2 M2 set_list))|aG] bC))),(g9 eO Z (E6 Z (AA.B.at "range") %[aB,cY K AA.B %[1|az]|az]) (aZ 4 nd) (aG (bw (bL (cJ K Z hr.units) (px K (px K u8 (aO fE M2 aB)) aB) eU (bf _)) %[(pS 5 nd (pf (yt AA) hr %[px K L2 (aO fE M2 aB),(cQ %[aO bR (aO bR aB (px K o0 aB)) (pf (vQ AA) hr %[px K u8 (aO fE M2 aB)|az]),aB|az])|az])),(fe (pf (yu AA) hr %[cX %[px K L2 M2,5|az]|az]) (rP L2 M2 set_list))|aG] bC))),aR L2|aG],?_];let ll:=row.len;let kr:=aK.r1;let j8:=aK.f1;let lr:=aK.len;let hB:=_O.AE aK.j1.1 aK.j1.2 bO rt2 row.nK;let hN:=_O.rW j rate os;let h0:ownF j rate os 0=0:=rfl;let hn:=_O.Ed j rate os os.length rfl;erw[_,Z,_,Z,_,Z,m,iv,rate,rs,r,f,j,t,ds,os,Z,rm,aK,ri,row,aw,bO,rt2,λD y1 H1 nD d1 r1 s1=>?_];let(ma,mb,rfl,fS,lU):=mM rm;let(ia,xs,rfl,hi,dI):=ri.cF;let lx:=dI.length;generalize hg:ownF j rate os=g at hB hN h0 hn;let r1':aI K H1 y1 ((lst os.length g).map cA):=by rw[<-hg];erw[r1]
   let hL:∀i m,leadF os i=some m->(2*f*(m:Int)).natAbs<2^24:=λi m e=>A2 aK.f1.1 aK.f1.2 (Bg row.nK e);let qo:∀i m,leadF os i=some m->(2*r*(m:Int)).natAbs<2^24:=λi m e=>A2 aK.r1.1 aK.r1.2 (Bg row.nK e);let FB:∀i,i<=os.length->Bd 900 (fl os.length (leadF os) (2*f) g i):=λi hi=>(JD (λi _=>hB i) hL i hi).mono aw;let FZ:=a9C (n:=os.length) (L:=leadF os) (f:=2*f) (g:=g) aw (λi _=>hN i) h0;let FN:=JC (n:=os.length) (L:=leadF os) (f:=2*f) (g:=g) aw (λi _=>hN i);erw[_,Z,ia,_,Z,.inr (hi.go s1),_,_,Z,Z,_,Z,_,_,Z,#[aw,aw,aA,aA],?_];let eN:((xs.length:Int)-1-0).toNat=os.length-1:=by lia
   rw[eN];erw[a9w (Pv:=λi O H5=>aH H H5/\∃zs v1 v2,H5 D=some (.lst zs)/\aI K H5 zs ((lst os.length λk=>if os.length<=k+i then fl os.length (leadF os) (2*f) g k else g k).map cA)/\O=[some (.ref ma),some (.ref ia),some (.int rate),some (.ref D),v1,v2]) ?_ ?_ ?_]
   · erw[s1,y1,none,none,d1,?_,Z]
     rw[sr (g:=λk=>if os.length<=k+0 then fl os.length (leadF os) (2*f) g k else g k) (g':=g)]
     ·erw[r1']
     · intro k hk
       show g k=if os.length<=k+0 then _ else g k;split
       · next h => have:k=os.length:=by lia
                   subst this;erw[nX.symm]
       ·rfl
   · rintro i O H3 oP ⟨s3,zs,v1,v2,dz,rz,rfl⟩
     erw[gh ?_];intro E1;obtain⟨x,hx⟩:∃x,xs[os.length-1-i]? =some x:=#[_,bo (show os.length-1-i<xs.length by lia)];generalize hc:os.length-1-i=c at hx;let fT:c<os.length:=by lia
     let eI:((xs.length:Int)-1-(i:Int))=(c:Int):=by lia
     rw[eI];let(d,ed,rd):=dI.get' c hx;let(o,eo,it):=row.get ed;let lz:=rz.length;rw[bB,pX]at lz;let uS:eY xs (c:Int)=some x:=cI aw (by simpa using hx);let(a,wd,yw,rfl,h1,ew,sw):=wq (RD.mono s3 _ rd) it;erw[_,Z,_,Z,.inr #[ia,_,_,_,Z,Z,hi.go s3,uS,.inr #[a,_,0,.str wd,Z,Z,h1,cI (fD 0) Z,.inr #[_,_,cL _,cL _,sw,wk,_,Z,?_]]]];rw[ew];cases o with
     |none=>
       erw[ba ?_];erw[s3,zs,_,_,dz,?_,Z];rw[sr (g:=λk=>if os.length<=k+(i+1)then fl os.length (leadF os) (2*f) g k else g k) (g':=λk=>if os.length<=k+i then fl os.length (leadF os) (2*f) g k else g k)]
       ·erw[rz]
       · intro k _
         show(if os.length<=k+i then _ else g k)=if os.length<=k+(i+1)then _ else g k;by_cases h1:os.length<=k+i
         ·rw[aQ h1,aQ aw]
         · rw[aV h1]
           by_cases h2:k=c
           ·subst h2;rw[aQ aw,nV fT (IM eo)]
           ·rw[aV aw] |some q=>
       let(ns,sp):=q;erw[bA ?_];let ij:=jC it;subst ij;let(bT,_,_):=row.ok c ns sp eo;obtain⟨z1,oY⟩:∃z,zs[c+1]? =some z:=#[_,bo (show c+1<zs.length by lia)];obtain⟨z0,jX⟩:∃z,zs[c]? =some z:=#[_,bo (show c<zs.length by lia)];let R1:bj H3 z1 (fl os.length (leadF os) (2*f) g (c+1)):=by
        let(d1,e1,r1):=rz.get' (c+1) oY;rw[bV,nO _ (show c+1<=os.length by lia)]at e1;cases e1;have:os.length<=c+1+i:=by lia
        simp only[aQ this]at r1;erw[jy r1]
       let R0:bj H3 z0 (g c):=by
        let(d1,e1,r1):=rz.get' c jX;rw[bV,nO _ (show c<=os.length by lia)]at e1;cases e1;have:¬os.length<=c+i:=by lia
        simp only[aV this]at r1;erw[jy r1]
       let C8:((c:Int)+1).toNat=c+1:=by lia
       let qK:eY zs ((c:Int)+1)=some z1:=cI aw (by rw[C8];erw[oY]);let iV:eY zs (c:Int)=some z0:=cI aw (by simpa using jX);erw[_,Z,_,Z,_,_,Z,Z,.inl #[D,_,_,_,Z,Z,aL.of dz,qK,?_]];erw[_,Z,.inr #[ma,_,2,.int f,Z,Z,fS.go s3,Z,_,_,Z,Z,.of_left (cw aA aA),?_]];erw[_,Z,_,Z,.inr #[ia,_,_,_,Z,Z,hi.go s3,uS,?_]];erw[_,ns,sp,Z,RD.mono s3 _ rd,bT.ne,by rw[bT.len];lia,λH4 s4=>?_];erw[_,_,Z,Z,.of_left (cw aw aw),?_];erw[bG Z,λtq H4' vY=>?_];let us:=hL c _ (yO eo);erw[z1,.ref tq,_,_,Z,(R1.go s4).go vY.same,DY (aW.of vY.at'),(FB (c+1) aw).mono aA,(M7 us).mono aA,λu H5 ru s5=>?_];let Ak:=s4.trans (vY.same.trans s5);let zh:=Ak _ _ dz;erw[_,Z,_,Z,.inl #[D,_,_,_,Z,Z,aL.of zh,iV,_,Z,?_]];erw[bG Z,λl2 H6 n6=>?_];let jw:=Ak.trans n6.same;let uV:=R0.go jw;let Ru:=ru.go n6.same;let B1:Bd 2000 (g c):=(hB _).mono aA;let B2:Bd 2000 (fl os.length (leadF os) (2*f) g (c+1)+((2*f*(aF ns:Int):Int):Rat)):=(jH (FB (c+1) aw) us).mono aA;erw[l2,[z0,u],[_,_],Z,aL.of n6.at',#[uV,B1,Ru,B2,trivial],by simp,λc' v q e1 e2 hq=>?_];let mS:mn (g c) (fl os.length (leadF os) (2*f) g (c+1)+((2*f*(aF ns:Int):Int):Rat))=q:=by
        erw[sj ?_ (hq _ (by simp)) (hq _ (by simp))]
        match c',e2 with |0,e2=>cases e2;erw[.inl rfl] |1,e2=>cases e2;erw[.inr rfl]
       let Rv:bj H6 v q:=by match c',e1,e2 with |0,e1,e2=>cases e1;cases e2;erw[uV] |1,e1,e2=>cases e1;cases e2;erw[Ru]
       let qG:=jw _ _ dz;let Bk:iS zs.length (c:Int)=some c:=by unfold iS;rw[aQ aw,aQ aw];simp
       erw[_,Z,_,Z,D,zs,_,_,Z,Z,qG,Bk,?_];erw[λb o e=>?_,_,_,_,bP,?_,Z]
       ·rw[aU (dH e nD)];erw[jw b o (s3 b o e)]
       · let h:=aI.Ai (i:=c) qG (aI.mono jw _ rz) Rv.rd (mJ _) (nH _)
         rw[<-xP]at h;let e:(lst os.length λk=>if os.length<=k+i then fl os.length (leadF os) (2*f) g k else g k).set c q=lst os.length λk=>if os.length<=k+(i+1)then fl os.length (leadF os) (2*f) g k else g k:=by
          rw[<-Iy (g:=λk=>if os.length<=k+i then fl os.length (leadF os) (2*f) g k else g k) (g':=λk=>if os.length<=k+(i+1)then fl os.length (leadF os) (2*f) g k else g k) (i:=c)]
          · have:os.length<=c+(i+1):=by lia
            simp only[aQ this];rw[lX fT (yO eo),mS]
          · intro k _ hk
            show(if os.length<=k+(i+1)then _ else g k)=if os.length<=k+i then _ else g k;by_cases h1:os.length<=k+i
            ·rw[aQ h1,aQ aw]
            ·rw[aV h1,aV aw]
         rw[e]at h;erw[h]
   · rintro O H3 ⟨s3,zs,v1,v2,dz,rz,rfl⟩
     generalize hG:fl os.length (leadF os) (2*f) g=G at FB FZ FN rz;let Gn:G os.length=0:=by rw[<-hG,nX];erw[hn]
     let rzG:aI K H3 zs ((lst os.length G).map cA):=by
      rw[sr (g:=λk=>if os.length<=k+(os.length-1)then G k else g k) (g':=G)]at rz
      ·erw[rz]
      · intro k hk
        show G k=if os.length<=k+(os.length-1)then _ else _;split
        ·rfl
        · next h => have:k=0:=by lia
                    subst this;erw[FZ]
     let RB:∀i,i<=os.length->Bd 1700 (Rz (λi=>if i<=os.length then G i else 0) (leadF os) (2*r) i):=λi hi=>(L7 (b:=900) (λi=>by
      by_cases h:i<=os.length
      ·simp only[aQ h];erw[FB i h]
      ·simp only[aV h];exact(_O.Gi).mono aA) qo i).mono aw;let RE:∀i,i<=os.length->Rz (λi=>if i<=os.length then G i else 0) (leadF os) (2*r) i=Rz G (leadF os) (2*r) i:=by
      intro i;induction i with |zero=>intro _;show(if 0<=os.length then G 0 else 0)=G 0;rw[aQ (fX _)] |succ i ih=>intro hi;let e:(if i+1<=os.length then G (i+1)else 0)=G (i+1):=aQ hi;cases hl:leadF os i with |none=>rw[uU hl,uU hl];erw[e] |some m=>rw[ph hl,ph hl,ih aw];show mn (if i+1<=os.length then G (i+1)else 0) _=_;rw[e]
     let Xn:∀i,i<=os.length->Bd 1700 (Rz G (leadF os) (2*r) i):=λi hi=>by rw[<-RE i hi];erw[RB i hi]
     erw[_,Z,ia,_,Z,.inr (hi.go s3),_,_,Z,#[aA,aA,aw,aw],?_];let eN2:((xs.length:Int)-1).toNat=os.length-1:=by lia
     rw[eN2];erw[qz (Pv:=λi O H5=>aH H H5/\∃zs v1 v2,H5 D=some (.lst zs)/\aI K H5 zs ((lst os.length λk=>if k<=i then Rz G (leadF os) (2*r) k else G k).map cA)/\O=[some (.ref ma),some (.ref ia),some (.int rate),some (.ref D),v1,v2]) ?_ ?_ ?_]
     · erw[s3,zs,v1,v2,dz,?_,Z]
       rw[sr (g:=λk=>if k<=0 then Rz G (leadF os) (2*r) k else G k) (g':=G)]
       ·erw[rzG]
       · intro k _
         show G k=if k<=0 then Rz G (leadF os) (2*r) k else G k;split
         · next h => have:k=0:=by lia
                     subst this;rfl
         ·rfl
     · rintro i O H3 oP ⟨s3,zs,v1,v2,dz,rz,rfl⟩
       erw[gh ?_];intro E2;let fT:i+1<os.length:=by lia
       obtain⟨x,hx⟩:∃x,xs[i]? =some x:=#[_,bo (show i<xs.length by lia)];let eI:((1:Int)+(i:Int)-1)=(i:Int):=by lia
       let(d,ed,rd):=dI.get' i hx;let(o,eo,it):=row.get ed;let lz:=rz.length;rw[bB,pX]at lz;let uS:eY xs ((1:Int)+(i:Int)-1)=some x:=by rw[eI];erw[cI aw (by simpa using hx)]
       let(a,wd,yw,rfl,h1,ew,sw):=wq (RD.mono s3 _ rd) it;erw[_,Z,_,Z,_,_,Z,Z,.inr #[ia,_,_,_,Z,Z,hi.go s3,uS,.inr #[a,_,0,.str wd,Z,Z,h1,cI (fD 0) Z,.inr #[_,_,cL _,cL _,sw,wk,_,Z,?_]]]];rw[ew];cases o with
       |none=>
         erw[ba ?_];erw[s3,zs,_,_,dz,?_,Z];rw[sr (g:=λk=>if k<=i+1 then Rz G (leadF os) (2*r) k else G k) (g':=λk=>if k<=i then Rz G (leadF os) (2*r) k else G k)]
         ·erw[rz]
         · intro k _
           show(if k<=i then _ else G k)=if k<=i+1 then _ else G k;by_cases h1:k<=i
           ·rw[aQ h1,aQ aw]
           · rw[aV h1]
             by_cases h2:k=i+1
             ·subst h2;rw[aQ aw,uU (IM eo)]
             ·rw[aV aw] |some q=>
         let(ns,sp):=q;erw[bA ?_];let ij:=jC it;subst ij;let(bT,_,_):=row.ok i ns sp eo;obtain⟨z1,oY⟩:∃z,zs[i]? =some z:=#[_,bo (show i<zs.length by lia)];obtain⟨z0,jX⟩:∃z,zs[i+1]? =some z:=#[_,bo (show i+1<zs.length by lia)];let R1:bj H3 z1 (Rz G (leadF os) (2*r) i):=by let(d1,e1,r1):=rz.get' i oY;rw[bV,nO _ (show i<=os.length by lia)]at e1;cases e1;simp only[aQ (aY i)]at r1;erw[jy r1]
         let R0:bj H3 z0 (G (i+1)):=by
          let(d1,e1,r1):=rz.get' (i+1) jX;rw[bV,nO _ (show i+1<=os.length by lia)]at e1;cases e1;have:¬i+1<=i:=by lia
          simp only[aV this]at r1;erw[jy r1]
         let VR:((1:Int)+(i:Int)).toNat=i+1:=by lia
         let qK:eY zs ((1:Int)+(i:Int)-1)=some z1:=by rw[eI];erw[cI aw (by simpa using oY)]
         let iV:eY zs ((1:Int)+(i:Int))=some z0:=cI aw (by rw[VR];erw[jX]);erw[_,Z,_,Z,_,_,Z,Z,.inl #[D,_,_,_,Z,Z,aL.of dz,qK,?_]];erw[_,Z,.inr #[ma,_,1,.int r,Z,Z,fS.go s3,Z,_,_,Z,Z,.of_left (cw aA aA),?_]];erw[_,Z,_,Z,_,_,Z,Z,.inr #[ia,_,_,_,Z,Z,hi.go s3,uS,?_]];erw[_,ns,sp,Z,RD.mono s3 _ rd,bT.ne,by rw[bT.len];lia,λH4 s4=>?_];erw[_,_,Z,Z,.of_left (cw aw aw),?_];erw[bG Z,λtq H4' vY=>?_];let us:=qo i _ (yO eo);erw[z1,.ref tq,_,_,Z,(R1.go s4).go vY.same,DY (aW.of vY.at'),(Xn i aw).mono aA,(M7 us).mono aA,λu H5 ru s5=>?_];let Ak:=s4.trans (vY.same.trans s5);let zh:=Ak _ _ dz;erw[_,Z,_,Z,.inl #[D,_,_,_,Z,Z,aL.of zh,iV,_,Z,?_]];erw[bG Z,λl2 H6 n6=>?_];let jw:=Ak.trans n6.same;let uV:=R0.go jw;let Ru:=ru.go n6.same;let B1:Bd 2000 (G (i+1)):=(FB _ aw).mono aA;let B2:Bd 2000 (Rz G (leadF os) (2*r) i+((2*r*(aF ns:Int):Int):Rat)):=(jH (Xn i aw) us).mono aA;erw[l2,[z0,u],[_,_],Z,aL.of n6.at',#[uV,B1,Ru,B2,trivial],by simp,λc' v q e1 e2 hq=>?_];let mS:mn (G (i+1)) (Rz G (leadF os) (2*r) i+((2*r*(aF ns:Int):Int):Rat))=q:=by
          erw[sj ?_ (hq _ (by simp)) (hq _ (by simp))]
          match c',e2 with |0,e2=>cases e2;erw[.inl rfl] |1,e2=>cases e2;erw[.inr rfl]
         let Rv:bj H6 v q:=by match c',e1,e2 with |0,e1,e2=>cases e1;cases e2;erw[uV] |1,e1,e2=>cases e1;cases e2;erw[Ru]
         let qG:=jw _ _ dz;let Bk:iS zs.length ((1:Int)+(i:Int))=some (i+1):=by unfold iS;rw[aQ aw,aQ aw,VR]
         erw[_,Z,_,Z,D,zs,_,_,Z,Z,qG,Bk,?_];erw[λb o e=>?_,_,_,_,bP,?_,Z]
         ·rw[aU (dH e nD)];erw[jw b o (s3 b o e)]
         · let h:=aI.Ai (i:=i+1) qG (aI.mono jw _ rz) Rv.rd (mJ _) (nH _)
           rw[<-xP]at h;let e:(lst os.length λk=>if k<=i then Rz G (leadF os) (2*r) k else G k).set (i+1) q=lst os.length λk=>if k<=i+1 then Rz G (leadF os) (2*r) k else G k:=by
            rw[<-Iy (g:=λk=>if k<=i then Rz G (leadF os) (2*r) k else G k) (g':=λk=>if k<=i+1 then Rz G (leadF os) (2*r) k else G k) (i:=i+1)]
            · simp only[aQ (aY (i+1))]
              rw[ph (yO eo),mS]
            · intro k _ hk
              show(if k<=i+1 then _ else G k)=if k<=i then _ else G k;by_cases h1:k<=i
              ·rw[aQ h1,aQ aw]
              ·rw[aV h1,aV aw]
           rw[e]at h;erw[h]
     · rintro O H4 ⟨s4,zs,v1,v2,dz,rz,rfl⟩
       erw[_,Z,k D zs H4 nD dz ?_ s4];let e:E5 r f j rate os=lst os.length λk=>if k<=os.length-1 then Rz G (leadF os) (2*r) k else G k:=by
        refine(sr λk hk=>?_);show(if k<=os.length-1 then Rz G (leadF os) (2*r) k else G k)=cP r f j rate os k;let e1:Rz G (leadF os) (2*r) k=cP r f j rate os k:=by rw[<-hG,<-hg];erw[ado aw aw k hk]
        split
        ·erw[e1]
        ·next h=>
          have:k=os.length:=by lia
          subst this;rw[<-e1];exact(adn aw FN Gn).symm
       rw[e];erw[rz]
end
end _c
namespace _c
open PySem PySem.Spec PyProof.Rows _L _d _l
section
theorem Mi:iz "tuple" "list"=false:=by decide
theorem Mj:iz "list" "tuple"=false:=by decide
theorem Xe(n:Nat):(List.replicate n true).all id=true:=by induction n with |zero=>rfl |succ n ih=>rw[tQ,LW,ih];rfl
def Xx(D:aj):Prop:=(∃z,D= .int z)\/∃s,D= .str s/\SeqAt.shaped (.str s)=true/\PyData.eqv (.str s) (.str s)=true
def Nx(A:aj->Prop)(D:aj):Prop:=Xx D\/∃ds,(D= .tuple ds\/D= .list ds)/\ds.length<=100000/\∀x∈ds,A x
inductive af1(A:aj->Prop)(K:ag)(vs:List V)(H:Hp)(Q:VK):Prop |mk v u D(_:vs=[v,u])(_:RD K H v D)(_:RD K H u D)(_:A D)(_:∀H',aH H H'->Q (.bl true) H')
def Ae(A:aj->Prop)(K:ag):Sp:=λvs H Q _=>af1 A K vs H Q
theorem GP:bu ["_law_found","_law_due"] ["_law_found","_law_due"] (aX GW):=bD aP
theorem a55(AA:a1v):a1k "_law_alike" 1 (Ae (λ_=>False) K):=by
 erw[AA.F7.has GP (λvs H Q E h=>?_) (λ_ _ _ _ _ _=>dY λ_ _=>rfl) (λf aM A outer s H vs Q E hr h=>?_)]
 ·let(v,u,D,rfl,_,_,h,_):=h
  erw[h.elim]
 ·let(v,u,D,rfl,_,_,h,_):=h
  erw[h.elim]
theorem HX(hn:1<=n)(F:FA K mg "_law_alike" GW)(B:tK mg)(EX:a1k "_law_number" 1 Ad)(wJ:a1k "_law_alike" n (Ae A K)):a1k "_law_alike" (n+1) (Ae (Nx A) K):=by
 erw[F.has GP (λvs H Q E h=>?_) (λ_ _ _ _ _ _=>dY λ_ _=>rfl) (λf aM A' outer s H vs Q E hr h=>?_)]
 ·let(v,u,D,rfl,_):=h
  rfl
 ·let(v,u,D,rfl,rv,ru,hD,k):=h
  let nd:=GP.nd;rcases hD with(⟨z,rfl⟩|⟨z,rfl,sh,eq⟩)|⟨ds,rfl|rfl,hz,hA⟩
  ·erw[_,%[(bw (cf (cV K B %[1,cQ %[cK (x:="list") (v:=.ty "list") Z (B.at "list") jK rfl,cK (x:="tuple") (v:=.ty "tuple") rfl (B.at "tuple") fN rfl|az]|az])) %[bw (PW.pt (hZ (bL (iH K Z hr.units) (cV K B %[1,cK (x:="list") (v:=.ty "list") Z (B.at "list") jK rfl|az]) (cV K B %[0,cK (x:="list") (v:=.ty "list") rfl (B.at "list") jK rfl|az]) (bf _)) (ku (bL (iH K rfl hr.units) (cV K B %[1,cK (x:="tuple") (v:=.ty "tuple") rfl (B.at "tuple") fN rfl|az]) (cV K B %[0,cK (x:="tuple") (v:=.ty "tuple") rfl (B.at "tuple") fN rfl|az]) (bf _))))) (aG (aR j4)) bC,(aR (gP (eV (cJ K Z hr.units) (cY K B %[0|az]) (cY K B %[1|az]) (bf _)) (gN (eK (x:="all") (tE K Z Z) Z (B.at "all") vj %[gO (N:=["_law_one","_law_two"]) (js:=[none,none]) rfl rfl rfl (kQ K rfl false false rfl (B.at "zip") %[0,1|az]) (λ_ _ _ _ _=>(cW K rfl (n:=2) rfl %[aZ 0 (gu aA),aZ 1 (gu aA)|cU])) (λ_ _ _ _ _=>fP) (λ_ _ _ _ _=>(rS wJ (hr.mono aw) rfl %[0,1|az]))|az]))))|aG] bC),bw (cf (cV K B %[1,cK (x:="str") (v:=.ty "str") Z (B.at "str") vh rfl|az])) (aG (aR (gP (cV K B %[0,cK (x:="str") (v:=.ty "str") Z (B.at "str") vh rfl|az]) (gN (eV (cJ K rfl hr.units) o0 u8 (bf _)))))) bC,aR (gP (rS EX (hr.mono aw) Z %[0|az]) (gN (eV (cJ K Z hr.units) o0 u8 (bf _))))|aG],?_]
   cases rv.int_inv;cases ru.int_inv;erw[_,Z,bG Z,λtt H1 n1=>.inr #[_,"int",tt,["list","tuple"],_,Z,n1.at',Z,aA,Z,_,Z,ba ?_]];erw[_,Z,.inl #[_,"int","str",_,Z,Z,aA,Z,_,Z,ba ?_]];erw[_,Z,_,"int",Z,Z,_,Z,bA ?_];erw[_,Z,_,Z,.inl #[_,_,Z,Z,?_]];show Q (.bl (decide (z=z))) H1;rw[cu rfl];erw[k H1 n1.same]
  ·erw[_,%[(bw (cf (cV K B %[1,cQ %[cK (x:="list") (v:=.ty "list") Z (B.at "list") jK rfl,cK (x:="tuple") (v:=.ty "tuple") rfl (B.at "tuple") fN rfl|az]|az])) %[bw (PW.pt (hZ (bL (iH K Z hr.units) (cV K B %[1,cK (x:="list") (v:=.ty "list") Z (B.at "list") jK rfl|az]) (cV K B %[0,cK (x:="list") (v:=.ty "list") rfl (B.at "list") jK rfl|az]) (bf _)) (ku (bL (iH K rfl hr.units) (cV K B %[1,cK (x:="tuple") (v:=.ty "tuple") rfl (B.at "tuple") fN rfl|az]) (cV K B %[0,cK (x:="tuple") (v:=.ty "tuple") rfl (B.at "tuple") fN rfl|az]) (bf _))))) (aG (aR j4)) bC,(aR (gP (eV (cJ K Z hr.units) (cY K B %[0|az]) (cY K B %[1|az]) (bf _)) (gN (eK (x:="all") (tE K Z Z) Z (B.at "all") vj %[gO (N:=["_law_one","_law_two"]) (js:=[none,none]) rfl rfl rfl (kQ K rfl false false rfl (B.at "zip") %[0,1|az]) (λ_ _ _ _ _=>(cW K rfl (n:=2) rfl %[aZ 0 (gu aA),aZ 1 (gu aA)|cU])) (λ_ _ _ _ _=>fP) (λ_ _ _ _ _=>(rS wJ (hr.mono aw) rfl %[0,1|az]))|az]))))|aG] bC),bw (cf (cV K B %[1,cK (x:="str") (v:=.ty "str") Z (B.at "str") vh rfl|az])) (aG (aR (gP (cV K B %[0,cK (x:="str") (v:=.ty "str") Z (B.at "str") vh rfl|az]) (gN (eV (cJ K rfl hr.units) o0 u8 (bf _)))))) bC,aR (gP (rS EX (hr.mono aw) Z %[0|az]) (gN (eV (cJ K Z hr.units) o0 u8 (bf _))))|aG],?_]
   cases rv.str_inv;cases ru.str_inv;erw[_,Z,bG Z,λtt H1 n1=>.inr #[_,"str",tt,["list","tuple"],_,Z,n1.at',Z,aA,Z,_,Z,ba ?_]];erw[_,Z,.inl #[_,"str","str",_,Z,Z,aA,Z,_,Z,bA ?_]];erw[_,Z,.inl #[_,"str","str",_,Z,Z,aA,Z,_,Z,bA ?_]];erw[_,Z,_,Z,.inr #[_,_,cL _,cL _,sh,sh,?_]];rw[eq];erw[k H1 n1.same]
  ·erw[_,%[(bw (cf (cV K B %[1,cQ %[cK (x:="list") (v:=.ty "list") Z (B.at "list") jK rfl,cK (x:="tuple") (v:=.ty "tuple") rfl (B.at "tuple") fN rfl|az]|az])) %[bw (PW.pt (hZ (bL (iH K Z hr.units) (cV K B %[1,cK (x:="list") (v:=.ty "list") Z (B.at "list") jK rfl|az]) (cV K B %[0,cK (x:="list") (v:=.ty "list") rfl (B.at "list") jK rfl|az]) (bf _)) (ku (bL (iH K rfl hr.units) (cV K B %[1,cK (x:="tuple") (v:=.ty "tuple") rfl (B.at "tuple") fN rfl|az]) (cV K B %[0,cK (x:="tuple") (v:=.ty "tuple") rfl (B.at "tuple") fN rfl|az]) (bf _))))) (aG (aR j4)) bC,(aR (gP (eV (cJ K Z hr.units) (cY K B %[0|az]) (cY K B %[1|az]) (bf _)) (gN (eK (x:="all") (tE K Z Z) Z (B.at "all") vj %[gO (N:=["_law_one","_law_two"]) (js:=[none,none]) rfl rfl rfl (kQ K rfl false false rfl (B.at "zip") %[0,1|az]) (λ_ _ _ _ _=>(cW K rfl (n:=2) rfl %[aZ 0 (gu aA),aZ 1 (gu aA)|cU])) (λ_ _ _ _ _=>fP) (λ_ _ _ _ _=>(rS wJ (hr.mono aw) rfl %[0,1|az]))|az]))))|aG] bC),bw (cf (cV K B %[1,cK (x:="str") (v:=.ty "str") Z (B.at "str") vh rfl|az])) (aG (aR (gP (cV K B %[0,cK (x:="str") (v:=.ty "str") Z (B.at "str") vh rfl|az]) (gN (eV (cJ K rfl hr.units) o0 u8 (bf _)))))) bC,aR (gP (rS EX (hr.mono aw) Z %[0|az]) (gN (eV (cJ K Z hr.units) o0 u8 (bf _))))|aG],?_]
   let(va,xs,rfl,hV,dI):=rv.cF;let(ua,ys,rfl,hU,jU):=ru.cF;let lx:=dI.length;let ly:=jU.length;erw[_,Z,bG Z,λtt H1 n1=>.inr #[_,"tuple",tt,["list","tuple"],_,Z,n1.at',.inr #[Z,_,hU.go n1.same],aA,Z,_,Z,bA ?_]];let s1:=n1.same;erw[_,Z,.inl #[_,"tuple","list",_,Z,.inr #[Z,_,hU.go s1],aA,Mi,_,Z,.inl #[_,"tuple","list",_,Z,.inr #[Z,_,hV.go s1],aA,Mi,.inr #[.bool false,.bool false,rJ _,rJ _,Z,Z,_,Z,ba ?_]]]];erw[_,Z,.inl #[_,"tuple","tuple",_,Z,.inr #[Z,_,hU.go s1],aA,Mh,_,Z,.inl #[_,"tuple","tuple",_,Z,.inr #[Z,_,hV.go s1],aA,Mh,.inr #[.bool true,.bool true,rJ _,rJ _,Z,Z,_,Z,ba ?_]]]];erw[_,Z,va,_,Z,.inr (hV.go s1),_,Z,ua,_,Z,.inr (hU.go s1),.inl #[_,_,Z,Z,_,Z,?_]];rw[cu (show(xs.length:Int)=(ys.length:Int) by lia)];erw[bA ?_];erw[_,Z,_,Z,va,ua,Z,#[_,hV.go s1],#[_,hU.go s1],λD2 H2 n2=>?_];erw[Wu (K:=K) (b1:=false) (b2:=false) (xs:=xs) (ys:=ys) (bs:=List.replicate ds.length true) _ Z (hV.go s1) (hU.go s1) n2 (by rw[zQ];lia) (by rw[zQ];lia) ?_ ?_]
   ·intro q x y b H3 Q' ex ey eb s3 hq
    let jE:b=true:=by
     rw[LU]at eb;split at eb
     ·exact(eQ eb).symm
     ·cases eb
    subst jE;let eG:=s1.trans s3;let(d1,e1,r1):=dI.get' q ex;let(d2,e2,r2):=jU.get' q ey;rw[e1]at e2;cases e2;erw[_,Z,_,Z,x,y,d1,Z,RD.mono eG _ r1,RD.mono eG _ r2,hA d1 (gZ e1),λH4 s4=>hq H4 s4]
   ·intro H3 s3 d3
    erw[D2,_,Z,aL.of d3,?_];rw[Xe];erw[k H3 (s1.trans s3)]
  ·erw[_,%[(bw (cf (cV K B %[1,cQ %[cK (x:="list") (v:=.ty "list") Z (B.at "list") jK rfl,cK (x:="tuple") (v:=.ty "tuple") rfl (B.at "tuple") fN rfl|az]|az])) %[bw (PW.pt (hZ (bL (iH K Z hr.units) (cV K B %[1,cK (x:="list") (v:=.ty "list") Z (B.at "list") jK rfl|az]) (cV K B %[0,cK (x:="list") (v:=.ty "list") rfl (B.at "list") jK rfl|az]) (bf _)) (ku (bL (iH K rfl hr.units) (cV K B %[1,cK (x:="tuple") (v:=.ty "tuple") rfl (B.at "tuple") fN rfl|az]) (cV K B %[0,cK (x:="tuple") (v:=.ty "tuple") rfl (B.at "tuple") fN rfl|az]) (bf _))))) (aG (aR j4)) bC,(aR (gP (eV (cJ K Z hr.units) (cY K B %[0|az]) (cY K B %[1|az]) (bf _)) (gN (eK (x:="all") (tE K Z Z) Z (B.at "all") vj %[gO (N:=["_law_one","_law_two"]) (js:=[none,none]) rfl rfl rfl (kQ K rfl true true rfl (B.at "zip") %[0,1|az]) (λ_ _ _ _ _=>(cW K rfl (n:=2) rfl %[aZ 0 (gu aA),aZ 1 (gu aA)|cU])) (λ_ _ _ _ _=>fP) (λ_ _ _ _ _=>(rS wJ (hr.mono aw) rfl %[0,1|az]))|az]))))|aG] bC),bw (cf (cV K B %[1,cK (x:="str") (v:=.ty "str") Z (B.at "str") vh rfl|az])) (aG (aR (gP (cV K B %[0,cK (x:="str") (v:=.ty "str") Z (B.at "str") vh rfl|az]) (gN (eV (cJ K rfl hr.units) o0 u8 (bf _)))))) bC,aR (gP (rS EX (hr.mono aw) Z %[0|az]) (gN (eV (cJ K Z hr.units) o0 u8 (bf _))))|aG],?_]
   let(va,xs,rfl,hV,dI):=rv.lst_inv;let(ua,ys,rfl,hU,jU):=ru.lst_inv;let lx:=dI.length;let ly:=jU.length;erw[_,Z,bG Z,λtt H1 n1=>.inr #[_,"list",tt,["list","tuple"],_,Z,n1.at',.inl #[Z,_,hU.go n1.same],aA,Z,_,Z,bA ?_]];let s1:=n1.same;erw[_,Z,.inl #[_,"list","list",_,Z,.inl #[Z,_,hU.go s1],aA,Ml,_,Z,.inl #[_,"list","list",_,Z,.inl #[Z,_,hV.go s1],aA,Ml,.inr #[.bool true,.bool true,rJ _,rJ _,Z,Z,_,Z,ba ?_]]]];erw[_,Z,.inl #[_,"list","tuple",_,Z,.inl #[Z,_,hU.go s1],aA,Mj,_,Z,.inl #[_,"list","tuple",_,Z,.inl #[Z,_,hV.go s1],aA,Mj,.inr #[.bool false,.bool false,rJ _,rJ _,Z,Z,_,Z,ba ?_]]]];erw[_,Z,va,_,Z,.inl (hV.go s1),_,Z,ua,_,Z,.inl (hU.go s1),.inl #[_,_,Z,Z,_,Z,?_]];rw[cu (show(xs.length:Int)=(ys.length:Int) by lia)];erw[bA ?_];erw[_,Z,_,Z,va,ua,Z,#[_,hV.go s1],#[_,hU.go s1],λD2 H2 n2=>?_];erw[Wu (K:=K) (b1:=true) (b2:=true) (xs:=xs) (ys:=ys) (bs:=List.replicate ds.length true) _ Z (hV.go s1) (hU.go s1) n2 (by rw[zQ];lia) (by rw[zQ];lia) ?_ ?_]
   ·intro q x y b H3 Q' ex ey eb s3 hq
    let jE:b=true:=by
     rw[LU]at eb;split at eb
     ·exact(eQ eb).symm
     ·cases eb
    subst jE;let eG:=s1.trans s3;let(d1,e1,r1):=dI.get' q ex;let(d2,e2,r2):=jU.get' q ey;rw[e1]at e2;cases e2;erw[_,Z,_,Z,x,y,d1,Z,RD.mono eG _ r1,RD.mono eG _ r2,hA d1 (gZ e1),λH4 s4=>hq H4 s4]
   ·intro H3 s3 d3
    erw[D2,_,Z,aL.of d3,?_];rw[Xe];erw[k H3 (s1.trans s3)]
end
end _c
namespace _c
open PySem PySem.Spec PyProof.Rows _L _d _l _C _P
open _O (topR cornO mnO betR atO ownF leadF ownL OkI OkIs)
section
theorem abR{xs:List V}{i:Nat}(ha:xs[i]? =some a)(hb:xs[i+1]? =some b):kX xs (some (i:Int)) (some ((i:Int)+2))=[a,b]:=by
 let h1:i+1<xs.length:=(cm.mp hb).1;unfold kX;let e:(i:Int)+2=((i+2:Nat):Int):=by lia
 rw[e,_H.Aj,_H.Aj];rw[show min i xs.length=i by lia,show min (i+2) xs.length=i+2 by lia,show i+2-i=2 by lia];apply zU;intro k;rw[zS]
 match k with |0=>rw[aQ aA,qU,Nat.add_zero,ha];rfl |1=>rw[aQ aA,qU,hb];rfl |k+2=>rw[aV aw];rfl
inductive N4|mk m iv rate rs r f j t ds os(_:vs=[m,iv,.int rate])(_:RD K H m (fy rs r f j t))(_:gA rs r f j t)(_:RD K H iv (.tuple ds))(_:cg rs.length ds os)(_:ds.length<=30)(_:10<=rate)(_:rate<=200)(_:∀l ys H',H l=none->H' l=some (.lst ys)->aI K H' ys (my r f j t rate ds os os.length)->aH H H'->Q (.ref l) H')
theorem II(r f ti:Int)(ns:List Int)(top b e:Rat):(qc r f ti ns top b e).length=aF ns:=by rw[qc,bB,iu]
theorem U0{top:Rat}(h:k<aF ns):(qc r f ti ns top b e)[k]? =some (jQ ti (eH ns k) (jB r f (aF ns) top b e k)):=by rw[qc,bV,jN h];rfl
theorem NG:bu ["_law_machine_here","_law_items_here","_law_rate","_law_squares","_law_found","_law_number_here","_law_item","_law_begin","_law_end","_law_some","_law_row","_law_square"] ["_law_machine_here","_law_items_here","_law_rate"] (aX Pf):=bD aP
theorem a4i(AA:a1v):a1k "_law_tape" 5 N4:=by
 exists AA.aaw.has,NG,kG λ_ _ _=>rfl
 ·let(m,iv,rate,rs,r,f,j,t,ds,os,rfl,rm,aK,ri,row,hz,bO,rt2,k):=h
  let nd:=NG.nd;erw[_,%[pS 3 nd (pf (a4z AA) hr %[0,1,2|az]),pS 4 nd (cX az),(g9 eO Z (AB K Z false Z (AA.B.at "enumerate") %[1|az]) (cW K rfl (n:=2) rfl %[aZ 5 nd,aZ 6 nd|cU]) (aG (bw (bL (cJ K Z hr.units) (px K W1 aB) eU (bf _)) %[fe (vM (vE K Z) L2 (uo P3) (uo (aO cM P3 aB))) (pgL K Z (n:=2) Z %[aZ 7 nd,aZ 8 nd|cU]),pS 9 nd (pf (a4G AA) hr %[0,6,7,8,2|az]),(g9 eO Z (kQ K Z true true Z (AA.B.at "zip") %[pf (Sr AA) hr %[6|az],9|az]) (cW K rfl (n:=2) rfl %[aZ 10 nd,aZ 11 nd|cU]) (aG (eJ (iQ K Z M2 %[(cQ %[eU,10,pf (So AA) hr %[0,11|az],11|az])|az]))))|aG] (aG (eJ (iQ K Z M2 %[6|az])))))),aR M2|aG],?_];let ll:=row.len;let lr:=aK.len;let kr:=aK.r1;let j8:=aK.f1;let ME:=aK.t1;let PB:=RX aK row hz bO rt2;let PN:∀i,i<=os.length->0<=cP r f j rate os i:=RU aw aw (λi _=>_O.rW j rate os i);erw[_,Z,_,Z,_,Z,m,iv,rate,rs,r,f,j,t,ds,os,Z,rm,aK,ri,row,hz,bO,rt2,λl1 y1 H1 uv zj As s1=>?_];let Ew:=As.length;rw[bB,a3j]at Ew;erw[bG Z,λD H2 n2=>?_];let nD:H D=none:=by cases e:H D with |none=>rfl |some o=>have:=s1 _ _ e;rw[n2.no]at this;cases this
  let(ia,xs,rfl,hi,dI):=ri.cF;let lx:=dI.length;erw[_,Z,ia,Z,#[_,hi.go (s1.trans n2.same)],BO (K:=K) (b:=false) (a:=ia) (xs:=xs) (λi O H3=>aH H1 H3/\∃zs v1 v2 v3 v4 v5 v6 v7,H3 D=some (.lst zs)/\aI K H3 zs (my r f j t rate ds os i)/\O=[some m,some (.ref ia),some (.int rate),some (.ref l1),some (.ref D),v1,v2,v3,v4,v5,v6,v7]) #[n2.same,[],none,none,none,none,none,none,none,n2.at',cH,Z] (λi O H3 _ h=>hi.go (s1.trans h.1)) ?_ ?_]
  ·rintro i y O H3 hy ⟨s3,zs,v1,v2,v3,v4,v5,v6,v7,dz,rz,rfl⟩ T H4 n4
   erw[gh ?_];intro E1;let Bw:i<xs.length:=(cm.mp hy).1;let(d,ed,rd):=dI.get' i hy;let(o,eo,it):=row.get ed;let fZ:=s3.trans n4.same;let s4:=s1.trans fZ;let jF:=n4.same _ _ dz;let vI:=aI.mono n4.same _ rz;let ui:=RD.mono s4 _ rd;let tn:=Mr (r:=r) (f:=f) (j:=j) (ti:=t) (rate:=rate) row i aw;let tl:=Ms (r:=r) (f:=f) (j:=j) (ti:=t) (rate:=rate) row i aw;let lz:=rz.length;let lW:sizeLine=16777216:=by decide
   erw[T,_,Z,aW.of n4.at',Z,_,_,Z,_,_,Z,Z,?_];let(a,wd,yw,rfl,h1,ew,sw):=wq ui it;erw[_,Z,.inr #[a,_,0,.str wd,Z,Z,h1,cI (fD 0) Z,.inr #[_,_,cL _,cL _,sw,wk,_,Z,?_]]];rw[ew];cases o with
   |none=>
    erw[ba ?_];erw[_,Z,.inl #[Z,_,aL.of jF],_,Z,D,zs,_,Z,Z,jF,aw,?_];erw[λb o e=>?_,_,_,_,_,_,_,_,_,bP,?_,Z]
    ·rw[aU (dH e n2.no)];erw[fZ b o e]
    ·show aI K _ _ (my r f j t rate ds os i++mW r f j t rate ds os i)
     rw[K2 eo ed];erw[aI.vD jF vI ui tn it.no] |some q=>
    let(ns,sp):=q;erw[bA ?_];let ij:=jC it;subst ij;let(bT,cR,dh):=row.ok i ns sp eo;let mQ:=mO bT;let oh:=fZ _ _ zj;let rl4:=aI.mono fZ _ As;obtain⟨z0,jX⟩:∃z,y1[i]? =some z:=#[_,bo (show i<y1.length by lia)];obtain⟨z1,oY⟩:∃z,y1[i+1]? =some z:=#[_,bo (show i+1<y1.length by lia)];let rat:∀(c:Nat)(u:V),c<=os.length->y1[c]? =some u->bj H4 u (cP r f j rate os c):=by intro c u hc e;let(d1,e1,r1):=rl4.get' c e;rw[bV]at e1;let e2:(E5 r f j rate os)[c]? =some (cP r f j rate os c):=nO _ hc;rw[e2]at e1;cases e1;erw[jy r1]
    let R0:=rat i z0 aw jX;let R1:=rat (i+1) z1 aw oY;let P0:=PN i aw;let P1:=PN (i+1) aw;erw[_,Z,_,Z,_,Z,_,Z,_,_,Z,Z,_,Z,l1,_,Z,.inl #[aL.of oh,λc H4a Th=>?_]];let ca:=Th.at';rw[abR jX oY]at ca;erw[c,_,Z,aL.of ca,Z,_,_,Z,_,_,Z,Z,?_];let yd:=Th.same;erw[_,Z,_,Z,_,Z,_,Z,_,Z,m,_,z0,z1,rate,rs,r,f,j,t,ns,sp,_,_,Z,RD.mono (s4.trans yd) _ rm,aK,RD.mono yd _ ui,bT,cR,dh,R0.go yd,R1.go yd,(PB i aw).mono aA,(PB (i+1) aw).mono aA,bO,rt2,λl2 y2 H5 pT Ce DU s5'=>?_];let s5:=yd.trans s5';erw[_,Z,_,ns,sp,Z,RD.mono s5 _ ui,#[Z,bT.bd,bT.nz],by rw[bT.len];lia,λl3 y3 H6 AZ p7 ud s6=>?_];let W7:=s6 _ _ Ce;let a2w:=aI.mono s6 _ DU;let TH:=DU.length;rw[bB,Eu,bB,iu]at TH;let we:=ud.length;rw[iY,bB,iu]at we;let vF:=s5.trans s6;let jx:=fZ.trans vF;let qG:=vF _ _ jF;let rz6:=aI.mono vF _ vI;let l3D:l3≠D:=λe=>by rw[e]at AZ;have:=(s5 _ _ jF);rw[AZ]at this;cases this
    let l2D:l2≠D:=λe=>by rw[e]at pT;have:=(yd _ _ jF);rw[pT]at this;cases this
    erw[_,Z,l3,l2,Z,#[_,aL.of p7],#[_,aL.of W7],?_];erw[Jy (K:=K) (b1:=true) (b2:=true) (xs:=y3) (ys:=y2) (aF ns) aw (λq O H7=>aH H1 H7/\H7 l3=some (.lst y3)/\H7 l2=some (.lst y2)/\aI K H7 y3 (iY ns)/\aI K H7 y2 ((Eu r f (aF ns) (topR rate sp) (cP r f j rate os i) (cP r f j rate os (i+1))).map cA)/\∃us jP kj,H7 D=some (.lst us)/\aI K H7 us (my r f j t rate ds os i++(qc r f t ns (topR rate sp) (cP r f j rate os i) (cP r f j rate os (i+1))).take q)/\O=[some m,some (.ref ia),some (.int rate),some (.ref l1),some (.ref D),some (.int i),some (.ref a),some z0,some z1,some (.ref l2),jP,kj]) #[jx,p7,W7,ud,a2w,zs,_,_,qG,by rw[LK,lJ];erw[rz6],Z] (λq O H7 _ h=>#[aL.of h.2.1,aL.of h.2.2.1]) ?_ ?_]
    ·rintro q x y' O H7 ex ey ⟨s7,d3,d2,r3,r2,us,jP,kj,dD,rD,rfl⟩ T2 H8 n8
     erw[gh ?_];intro E2;let nR:q<aF ns:=by have:=(cm.mp ex).1;lia
     let(d3',e3,x3):=r3.get' q ex;let(xk,e2,x2):=r2.get' q ey;rw[Ap nR]at e3;cases e3;rw[Eu,bV,bV,jN nR]at e2;cases e2;let BH:=Hq kr.1 kr.2 nR mQ;let BG:=JG j8.1 j8.2 nR mQ;let bm:Bd 2000 (jB r f (aF ns) (topR rate sp) (cP r f j rate os i) (cP r f j rate os (i+1)) q):=pU (pU ((jH (PB i aw) (by rw[kv];lia)).mono aA) ((_O.lN cR dh bO rt2).mono aA)) ((jH (PB (i+1) aw) (by rw[kv];lia)).mono aA);let mp:=Tu kr.1 j8.1 nR (Dx cR bO) P0 P1;erw[T2,_,Z,aW.of n8.at',Z,_,_,Z,_,_,Z,Z,?_];let Wj:=n8.same _ _ dD;erw[_,Z,.inl #[Z,_,aL.of Wj],?_];erw[_,Z,_,Z,_,Z,m,y',rs,r,f,j,t,_,Z,RD.mono (s1.trans (s7.trans n8.same)) _ rm,jy (RD.mono n8.same _ x2),bm,ME.1,ME.2,AW mp,λTT T1 T2' T3 T4 H9 s9=>?_];let dD9:=s9 _ _ Wj;erw[_,Z,bG Z,λtq gB jg=>?_];let Wm:=jg.same _ _ dD9;let lu:=rD.length;rw[cy,jM,II]at lu;erw[D,us,_,Z,Z,Wm,aw,?_];let nC:=n8.same.trans (s9.trans jg.same);let tt:eZ gB (_L.upd gB D (.lst (us++[.ref tq]))):=.iO Wm;let etk:=DA (D9 (AW mp)) #[T1,T3,T4];let a2e:RD K gB (.ref tq) (jQ t (eH ns q) (jB r f (aF ns) (topR rate sp) (cP r f j rate os i) (cP r f j rate os (i+1)) q)):=by unfold jQ;rw[etk];erw[fJ (aW.of jg.at') %[cL _,RD.mono nC _ x3,dF _,RD.mono nC _ x2|cH]]
     erw[λb o e=>?_,?_,?_,?_,?_,_,_,_,bP,?_,Z]
     ·rw[aU (dH e n2.no)];erw[nC b o (s7 b o e)]
     ·rw[aU l3D];erw[nC _ _ d3]
     ·rw[aU l2D];erw[nC _ _ d2]
     ·erw[aI.t tt _ (Ao ns) (aI.mono nC _ r3)]
     ·erw[aI.t tt _ (mJ _) (aI.mono nC _ r2)]
     ·rw[lG,U0 nR,<-D6]
      let nn:bS (my r f j t rate ds os i++(qc r f t ns (topR rate sp) (cP r f j rate os i) (cP r f j rate os (i+1))).take q)=true:=cj.mpr λd hd=>by
       rcases jL.mp hd with h|h
       ·erw[cj.mp tn d h]
       ·erw[cj.mp (TZ _ _ _ _ _ _ _) d (zN h)]
      exact(aI.t tt _ nn (aI.mono nC _ rD)).append %[RD.t tt _ (Aa _ _ _) a2e|cH]
    ·rintro O H7 ⟨s7,d3,d2,r3,r2,us,jP,kj,dD,rD,rfl⟩
     rw[vk (by rw[II];erw[aY _]),<-BX (ds:=ds) eo]at rD;erw[s7,us,_,_,_,_,_,_,_,dD,rD,Z]
  ·rintro O H3 ⟨s3,zs,v1,v2,v3,v4,v5,v6,v7,dz,rz,rfl⟩
   let e:xs.length=os.length:=by lia
   rw[e]at rz;erw[_,Z,k D zs H3 nD dz rz (s1.trans s3)]
end
end _c
namespace _c
open PySem PySem.Spec PyProof.Rows _L _l _W
open _O (Itm)
section
theorem a63{v:V}{rs:List Int}{es:List aj}(h:RD K H v (.tuple (.tuple (rs.map PyData.int)::es))):∃a b ys,v= .ref a/\aW K H a (.ref b::ys)/\aW K H b (rs.map V.int):=by let(a,xs,rfl,h1,h2):=h.cF;let(x1,r1,rfl,e1,h2):=h2.cons_inv;let(b,ys,rfl,h3,h4):=e1.cF;rw[h4.j7]at h3;erw[a,b,r1,Z,h1,h3]
def gF(z:Str):aj->Bool | .str x=>x==z |_=>false
theorem sX(z:Str)(d:aj):PyData.eqv d (.str z)=gF z d:=by cases d<;>simp[PyData.eqv,gF]
theorem Vv(z:Str)(d:aj):PyData.eqv (.str z) d=gF z d:=by cases d<;>simp[PyData.eqv,gF];rw[qY];simp;erw[eq_comm]
theorem a01(d:aj):(∃z,d= .str z)\/(iz (kn d) "str"=false/\∀z,d≠ .str z):=by cases d with |str z=>erw[.inl #[z,Z]] |_=>erw[.inr #[by simp[kn];decide,λ_ z=>nomatch z]]
theorem YW:iz "str" "str"=true:=by decide
def IU(d:aj):Bool:=gF "up" d||gF "down" d
def yy(c:Nat):Bool:=decide (97<=c)&&decide (c<=122)
def isNm:aj->Bool | .str x=>(decide (1<=x.length)&&decide (x.length<=8))&&x.cps.toList.all yy |_=>false
def sC(wd v:aj):Bool:=if gF "wait" wd then ib 1 1000 v else if gF "tool" wd then IU v else gF "mark" wd&&isNm v
def AV:aj->Bool | .int i=>i !=0 |_=>true
def vT(n:Nat):aj->Bool | .tuple ds=>(ds.length==n&&ds.all (ib (-100) 100))&&ds.any AV |_=>false
def wu(n:Nat):aj->Bool | .tuple [wd,a,b]=>gF "line" wd&&(vT n a&&ib 1 20 b) | .tuple [wd,v]=>sC wd v |_=>false
def u6:aj->Bool | .str x=>decide (x.length<=900) |_=>true
def GO:aj->Bool | .tuple ds=>ds.all u6 |_=>true
inductive adO(f:aj->Bool)(K:ag)(vs:List V)(H:Hp)(Q:VK):Prop |mk v d(_:vs=[v])(_:RD K H v d)(_:u6 d=true)(_:∀H',aH H H'->Q (.bl (f d)) H')
def a0b(f:aj->Bool)(K:ag):Sp:=λvs H Q _=>adO f K vs H Q
theorem a1o(h:u6 (.str z)=true):z.length<=900:=kg h
theorem Tb(n:Nat):decide ((1:Int)<=(n:Int))=decide (1<=n):=by rw[qY];simp;omega
theorem a5G(n:Nat):decide ((n:Int)<=8)=decide (n<=8):=by rw[qY];simp;omega
theorem ad2{l:List Nat}:(l.map f).all id=l.all f:=by rw[List.all_map];rfl
theorem adg:∀c<128,decide (c∈kY.cps.toList)=yy c:=by decide+kernel
theorem adj:∀c∈kY.cps.toList,c<128:=by decide+kernel
theorem adi(c:Nat):decide (c∈kY.cps.toList)=yy c:=by
 by_cases h:c<128
 ·erw[adg c h]
 ·rw[dP (λhc=>h (adj c hc)),yy,dP (show¬c<=122 by omega),M5]
theorem OB:bu ["thing"] ["thing"] (aX Qu):=bD aP
theorem a4R(AA:a1v):a1k "is_name" 1 (a0b isNm K):=by
 exists AA.aaf.has,OB,fo λ_=>rfl
 ·let(v,d,rfl,rd,sh,k):=h
  let nd:=OB.nd;erw[_,%[bw (PW.pt (hZ (dj (cf (cV K AA.B %[0,cK (x:="str") (v:=.ty "str") Z (AA.B.at "str") vh rfl|az]))) (ku (dj (a37 Ef Ef aB (eK (x:="len") acq rfl (AA.B.at "len") PySem.boot_len %[0|az]) (dC (x:="LONGEST_NAME") rfl AA.a9h)))))) (aG (aR j4)) bC,(aR (eK (x:="all") (tE K Z Z) Z (AA.B.at "all") vj %[gO (N:=["letter"]) (js:=[none]) rfl rfl rfl (a3o o0) (λ_ _ _ _ _=>(aZ 0 (uw _))) (λ_ _ _ _ _=>fP) (λ_ _ _ _ _=>(eV a42 o0 (dC (x:="LETTERS") rfl AA.a9i) (by with_unfolding_all rfl)))|az]))|aG],?_];rcases a01 d with⟨z,rfl⟩|⟨ht,hn⟩
  ·erw[_,Z,.inl #[_,_,"str",true,Z,rd.ty,aA,YW,_,Z,ba ?_]]
   cases rd.str_inv;let hl:=a1o sh;let k:∀H',aH H H'->Q (.bl ((decide (1<=z.length)&&decide (z.length<=8))&&z.cps.toList.all yy)) H':=k;erw[_,Z,z,Z,gY hl aA,_,_,Z,Z,_,Z,?_];erw[dW (λh1=>?_) (λh1=>?_)]
   ·rw[<-Tb,show decide ((1:Int)<=(z.length:Int))=true from h1,lK]at k
    erw[_,_,Z,Z,_,Z,?_];rw[a5G];cases e8:decide (z.length<=8)with |false=>rw[e8,mx]at k;erw[bA (k H (aH.refl _))] |true=>
     rw[e8,lK]at k;erw[ba #[_,Z,z,Z,λD H0 nw=>?_]];erw[ac3 (f:=yy) [] nw aw (λc H2 Q' hc s2 hq=>?_) (λH2 s2 d2=>?_)]
     ·erw[_,Z,c,kY,Z,Z,?_]
      rw[adi];erw[hq _ (aH.refl _)]
     ·erw[D,_,Z,aL.of d2,?_]
      rw[ad2];erw[k H2 s2]
   ·rw[<-Tb,show decide ((1:Int)<=(z.length:Int))=false from xS.mpr h1,mx,mx]at k
    erw[_,Z,bA (k H (aH.refl _))]
  ·let e:isNm d=false:=by cases d<;>first|rfl|erw[absurd rfl (hn _)]
   rw[e]at k;erw[_,Z,.inl #[_,_,"str",false,Z,rd.ty,aA,ht,_,Z,bA ?_]];erw[k H (aH.refl _)]
inductive a0k|mk x v wd d(_:vs=[x,v])(_:RD K H x wd)(_:RD K H v d)(_:e9 8 wd)(_:e9 8 d)(_:u6 d=true)(_:∀H',aH H H'->Q (.bl (sC wd d)) H')
theorem kN(h:e9 8 d):SeqAt.shaped d=true:=h.shaped aA
theorem Oz:bu ["word","value"] ["word","value"] (aX Qs):=bD aP
theorem a4P(AA:a1v):a1k "is_short_item" 3 a0k:=by
 exists AA.aac.has,Oz,dY λ_ _=>rfl
 ·let(x,v,wd,d,rfl,Hf,rd,HQ,AL,sh,k):=h
  let nd:=Oz.nd;let(aS,a8J,sqS):=AA.a9e;erw[_,%[bw (bL (cJ K Z hr.units) o0 eU (bf _)) (aG (aR (pf (AN AA) hr %[1,aB,dC (x:="LONGEST_WAIT") Z AA.a9g|az]))) bC,bw (bL (cJ K Z hr.units) o0 eU (bf _)) (aG (aR (eV (a7c K Z (hr.YR)) u8 (dC (x:="SIDES") Z a8J) (by with_unfolding_all rfl)))) bC,aR (gP (eV (cJ K Z hr.units) o0 eU (bf _)) (gN (pf (a4R AA) hr %[1|az])))|aG],?_];let k:∀H',aH H H'->Q (.bl (if gF "wait" wd then ib 1 1000 d else if gF "tool" wd then IU d else gF "mark" wd&&isNm d)) H':=k;erw[_,Z,.inr #[_,_,Hf,cL _,kN HQ,aP,_,Z,?_]];rw[sX];cases e1:gF "wait" wd with |true=>rw[e1,aQ rfl]at k;erw[bA #[_,Z,_,d,1,1000,Z,rd,k H (aH.refl _)]] |false=>rw[e1,aV jt]at k;erw[ba #[_,Z,.inr #[_,_,Hf,cL _,kN HQ,aP,_,Z,?_]]];rw[sX];cases e2:gF "tool" wd with
   |true=>
    rw[e2,aQ rfl]at k;erw[bA #[_,Z,aS,_,d,[.str "up",.str "down"],Z,sqS H,rd,bX (cL _) %[cL _|cH],kN AL,?_,?_]]
    ·intro e he
     rcases dg.mp he with rfl|he
     ·decide+kernel
     rcases dg.mp he with rfl|he
     ·decide+kernel
     ·exact(gk he).elim
    ·let e:([.str "up",.str "down"]:List aj).any (λe=>PyData.eqv e d)=IU d:=by rw[Gb,Gb,List.any_nil,Vv,Vv,Bool.or_false];rfl
     rw[e];erw[k H (aH.refl _)] |false=>rw[e2,aV jt]at k;erw[ba #[_,Z,.inr #[_,_,Hf,cL _,kN HQ,aP,_,Z,?_]]];rw[sX];cases e3:gF "mark" wd with |true=>rw[e3,lK]at k;erw[bA #[_,Z,_,d,Z,rd,sh,k]] |false=>rw[e3,mx]at k;erw[ba (k H (aH.refl _))]
theorem a5c(i:Int):(!decide (i=0))=(i !=0):=by rw[qY];simp
theorem a7b{lo hi:Int}(h:ib lo hi d=true):∃i,d= .int i:=by cases d<;>simp[ib]at h;erw[_,Z]
theorem any_map'{ds:List aj}:(ds.map f).any id=ds.any f:=by rw[List.any_map];rfl
inductive a0j|mk (m:V)(v:V)(rs:List Int)(es:List aj)(d:aj)(_:vs=[m,v])(_:RD K H m ((.tuple (.tuple (rs.map PyData.int)::es))))(_:RD K H v d)(_:rs.length<=3)(_:∀H',aH H H'->Q (.bl (vT rs.length d)) H')
theorem P2:bu ["machine","thing","rails"] ["machine","thing"] (aX QQ):=bD aP
theorem a54(AA:a1v):a1k "are_steps" 3 a0j:=by
 exists AA.aat.has,P2,dY λ_ _=>rfl
 ·let(m,v,rs,es,d,rfl,rm,rd,l3,k):=h
  let nd:=P2.nd;erw[_,%[pS 2 nd (px K o0 aB),bw (PW.pt (hZ (dj (cf (cV K AA.B %[1,cK (x:="tuple") (v:=.ty "tuple") Z (AA.B.at "tuple") fN rfl|az]))) (ku (bL (iH K rfl hr.units) (cY K AA.B %[1|az]) (cY K AA.B %[2|az]) (bf _))))) (aG (aR j4)) bC,(bw (dj (cf (eK (x:="all") (tE K Z Z) Z (AA.B.at "all") vj %[gO (N:=["step"]) (js:=[none]) rfl rfl rfl (oF K rfl u8) (λ_ _ _ _ _=>(aZ 0 (uw _))) (λ_ _ _ _ _=>fP) (λ_ _ _ _ _=>(pf (AN AA) hr %[0,nI nu (dC (x:="MOST_STEPS") rfl AA.Vb),dC (x:="MOST_STEPS") rfl AA.Vb|az]))|az]))) (aG (aR j4)) bC),(aR (eK (x:="any") (Xc K Z Z) Z (AA.B.at "any") Y8 %[gO (N:=["step"]) (js:=[none]) rfl rfl rfl (oF K rfl u8) (λ_ _ _ _ _=>(aZ 0 (uw _))) (λ_ _ _ _ _=>fP) (λ_ _ _ _ _=>(eV (iH K rfl hr.units) o0 aB (bf _)))|az]))|aG],?_];let(am,ar,ym,rfl,hm,har):=a63 rm;erw[_,Z,.inr #[am,_,0,_,Z,Z,hm,cI (fD 0) Z,?_]];rcases Gp d with⟨ds,rfl⟩|⟨ht,hn⟩
  ·erw[_,Z,.inl #[_,_,"tuple",true,Z,rd.ty,aA,pG,_,Z,ba ?_]]
   let(av,xs,rfl,hx,hd):=rd.cF;let hl:=hd.length;erw[_,Z,av,_,Z,.inr hx,_,Z,ar,_,Z,.inr har,.inl #[_,_,Z,Z,_,Z,?_]];let k:∀H',aH H H'->Q (.bl ((ds.length==rs.length&&ds.all (ib (-100) 100))&&ds.any AV)) H':=k;let e0:(!decide ((xs.length:Int)=((rs.map V.int).length:Int)))= !(ds.length==rs.length):=by rw[hl,bB];congr 1;rw[qY];simp;lia
   rw[e0];cases e:(ds.length==rs.length)with |false=>rw[e,mx,mx]at k;erw[bA (k H (aH.refl _))] |true=>
    rw[e,lK]at k;erw[ba ?_];let el:ds.length=rs.length:=fC.mp e;erw[_,Z,av,Z,#[_,hx],λD H0 nw=>?_];erw[Fj (xs:=xs) (bs:=ds.map (ib (-100) 100)) [] hx nw (by rw[bB,hl]) aw ?_ ?_]
    ·intro i x b H2 Q' ex eb s2 hq
     let(d,ed,rfl):=TB eb;let(x',p4,rx):=hd.get i ed;rw[ex]at p4;cases p4;erw[_,Z,_,Z,_,d,-100,100,Z,RD.mono s2 _ rx,hq _ (aH.refl _)]
    ·intro H2 s2 d2
     erw[D,_,Z,aL.of d2,_,Z,?_];rw[all_map];cases e1:ds.all (ib (-100) 100)with |false=>rw[e1,mx]at k;erw[bA (k H2 s2)] |true=>
      rw[e1,lK]at k;erw[ba #[_,Z,av,Z,#[_,hx.go s2],λD2 H3 n3=>?_]];erw[Fj (xs:=xs) (bs:=ds.map AV) [] (hx.go s2) n3 (by rw[bB,hl]) aw ?_ ?_]
      ·intro i x b H4 Q' ex eb s4 hq
       let(d,ed,rfl):=TB eb;let(x',p4,rx):=hd.get i ed;rw[ex]at p4;cases p4;let(z,rfl):=a7b (iX.mp e1 d (gZ ed));cases rx.int_inv;erw[_,Z,.inl #[_,_,Z,Z,?_]];show Q' (.bl (!decide (z=0))) H4;rw[a5c];erw[hq _ (aH.refl _)]
      ·intro H4 s4 d4
       erw[D2,_,Z,aL.of d4,?_];rw[any_map'];erw[k H4 (s2.trans s4)]
  ·let e:vT rs.length d=false:=by cases d<;>first|rfl|erw[absurd rfl (hn _)]
   rw[e]at k;erw[_,Z,.inl #[_,_,"tuple",false,Z,rd.ty,aA,ht,_,Z,bA ?_]];erw[k H (aH.refl _)]
theorem item_cases(n:Nat)(d:aj):(∃wd a b,d= .tuple [wd,a,b])\/(∃wd v,d= .tuple [wd,v])\/(∃ds,d= .tuple ds/\ds.length≠3/\ds.length≠2/\wu n d=false)\/(iz (kn d) "tuple"=false/\wu n d=false):=by
 rcases Gp d with⟨ds,rfl⟩|⟨ht,hn⟩
 ·match ds with |[r,a,b]=>erw[.inl #[r,a,b,Z]] |[r,a]=>erw[.inr (.inl #[r,a,Z])] |[]=>erw[.inr (.inr (.inl #[_,Z,by simp,by simp,by simp[wu]]))] |[_]=>erw[.inr (.inr (.inl #[_,Z,by simp,by simp,by simp[wu]]))] |_::_::_::_::_=>erw[.inr (.inr (.inl #[_,Z,by simp,by simp,by simp[wu]]))]
 ·erw[.inr (.inr (.inr #[ht,by cases d<;>first|rfl|erw[absurd rfl (hn _)]]))]
inductive a0M|mk (m:V)(v:V)(rs:List Int)(es:List aj)(d:aj)(_:vs=[m,v])(_:RD K H m ((.tuple (.tuple (rs.map PyData.int)::es))))(_:RD K H v d)(_:rs.length<=3)(_:e9 8 d)(_:GO d=true)(_:∀H',aH H H'->Q (.bl (wu rs.length d)) H')
theorem rY{ds:List aj}(h:e9 8 (.tuple ds)){d:aj}(hd:d∈ds):e9 8 d:=((e9.cF (n:=7) h) d hd).le aA
theorem sh8{ds:List aj}(h:GO (.tuple ds)=true){d:aj}(hd:d∈ds):u6 d=true:=iX.mp (show ds.all u6=true from h) d hd
theorem OC:bu ["machine","thing","word","steps","speed","value"] ["machine","thing"] (aX Qv):=bD aP
theorem SD(AA:a1v):a1k "is_item" 4 a0M:=by
 exists AA.aai.has,OC,dY λ_ _=>rfl
 ·let(m,v,rs,es,d,rfl,rm,rd,l3,AL,sh,k):=h
  let nd:=OC.nd;erw[_,%[bw (dj (cf (cV K AA.B %[1,cK (x:="tuple") (v:=.ty "tuple") Z (AA.B.at "tuple") fN rfl|az]))) (aG (aR j4)) bC,(bw (bL (cJ K Z hr.units) (cY K AA.B %[1|az]) aB (bf _)) %[fe u8 (cW K Z (n:=3) Z %[aZ 2 nd,aZ 3 nd,aZ 4 nd|cU]),aR (gP (eV (cJ K Z hr.units) w4 eU (bf _)) (gP (pf (a54 AA) hr %[0,3|az]) (gN (pf (AN AA) hr %[4,aB,dC (x:="GREATEST_SPEED") Z AA.a9k|az]))))|aG] bC),(bw (bL (cJ K Z hr.units) (cY K AA.B %[1|az]) aB (bf _)) %[fe u8 (cW K Z (n:=2) Z %[aZ 2 nd,aZ 5 nd|cU]),aR (pf (a4P AA) hr %[2,5|az])|aG] bC),aR j4|aG],?_];rcases item_cases rs.length d with⟨wd,a,b,rfl⟩|⟨wd,a,rfl⟩|⟨ds,rfl,h3,h2,hf⟩|⟨ht,hf⟩
  ·erw[_,Z,.inl #[_,_,"tuple",true,Z,rd.ty,aA,pG,_,Z,ba ?_]]
   let(p,xs,rfl,hx,hd):=rd.cF;let(u1,ys,rfl,r1,hd):=hd.cons_inv;let(u2,ys,rfl,r2,hd):=hd.cons_inv;let(u3,ys,rfl,r3,hd):=hd.cons_inv;cases hd.nil_inv;let k:∀H',aH H H'->Q (.bl (gF "line" wd&&(vT rs.length a&&ib 1 20 b))) H':=k;erw[_,Z,p,_,Z,.inr hx,.inl #[_,_,Z,Z,_,Z,bA ?_]];erw[_,Z,p,_,Z,hx,Z,_,_,Z,_,_,Z,_,_,Z,Z,?_];erw[_,Z,.inr #[_,_,r1,cL _,kN (rY AL (by simp)),aP,_,Z,?_]];rw[sX];cases e1:gF "line" wd with |false=>rw[e1,mx]at k;erw[ba (k H (aH.refl _))] |true=>rw[e1,lK]at k;erw[bA #[_,Z,_,Z,_,_,rs,es,a,Z,rm,r2,l3,λH1 s1=>#[_,Z,?_]]];cases e2:vT rs.length a with |false=>rw[e2,mx]at k;erw[ba (k H1 s1)] |true=>rw[e2,lK]at k;erw[bA #[_,Z,_,b,1,20,Z,RD.mono s1 _ r3,k H1 s1]]
  ·erw[_,Z,.inl #[_,_,"tuple",true,Z,rd.ty,aA,pG,_,Z,ba ?_]]
   let(p,xs,rfl,hx,hd):=rd.cF;let(u1,ys,rfl,r1,hd):=hd.cons_inv;let(u2,ys,rfl,r2,hd):=hd.cons_inv;cases hd.nil_inv;let k:∀H',aH H H'->Q (.bl (sC wd a)) H':=k;erw[_,Z,p,_,Z,.inr hx,.inl #[_,_,Z,Z,_,Z,ba ?_]];erw[_,Z,p,_,Z,.inr hx,.inl #[_,_,Z,Z,_,Z,bA ?_]];erw[_,Z,p,_,Z,hx,Z,_,_,Z,_,_,Z,Z,?_];erw[_,Z,_,Z,_,_,wd,a,Z,r1,r2,rY AL (by simp),rY AL (by simp),sh8 sh (by simp),k]
  ·rw[hf]at k
   erw[_,Z,.inl #[_,_,"tuple",true,Z,rd.ty,aA,pG,_,Z,ba ?_]];let(p,xs,rfl,hx,hd):=rd.cF;let hl:=hd.length;erw[_,Z,p,_,Z,.inr hx,.inl #[_,_,Z,Z,_,Z,?_]];rw[show decide ((xs.length:Int)=3)=false from dP aw];erw[ba #[_,Z,p,_,Z,.inr hx,.inl #[_,_,Z,Z,_,Z,?_]]];rw[show decide ((xs.length:Int)=2)=false from dP aw];erw[ba (k H (aH.refl _))]
  ·rw[hf]at k
   erw[_,Z,.inl #[_,_,"tuple",false,Z,rd.ty,aA,ht,_,Z,bA ?_]];erw[k H (aH.refl _)]
def IV(rs:List Int):aj->Bool | .tuple es=>es.length==rs.length&&((es.zip rs).map λp=>ib 0 p.2 p.1).all id |_=>false
inductive a0O|mk (m:V)(v:V)(rs:List Int)(ds:List aj)(d:aj)(_:vs=[m,v])(_:RD K H m (.tuple (.tuple (rs.map PyData.int)::ds)))(_:RD K H v d)(_:rs.length<=3)(_:∀H',aH H H'->Q (.bl (IV rs d)) H')
theorem zip_get{es:List aj}{rs:List Int}{i:Nat}{b:Bool}(h:((es.zip rs).map λp=>ib 0 p.2 p.1)[i]? =some b):∃e r,es[i]? =some e/\rs[i]? =some r/\ib 0 r e=b:=by rw[bV]at h;cases q:(es.zip rs)[i]? with |none=>rw[q]at h;cases h |some p=>rw[q]at h;let(e1,e2):=LR.mp q;erw[p.1,p.2,e1,e2,eQ h]
theorem ints_get{rs:List Int}{i:Nat}{r:Int}(h:rs[i]? =some r):(rs.map V.int)[i]? =some (.int r):=by rw[bV,h];rfl
theorem OA:bu ["machine","thing","rails"] ["machine","thing"] (aX Qt):=bD aP
theorem a4Q(AA:a1v):a1k "is_place" 3 a0O:=by
 exists AA.aae.has,OA,dY λ_ _=>rfl
 ·let(m,v,rs,ds,d,rfl,rm,rd,l3,k):=h
  let nd:=OA.nd;erw[_,%[pS 2 nd (px K o0 aB),bw (PW.pt (hZ (dj (cf (cV K AA.B %[1,cK (x:="tuple") (v:=.ty "tuple") Z (AA.B.at "tuple") fN rfl|az]))) (ku (bL (iH K rfl hr.units) (cY K AA.B %[1|az]) (cY K AA.B %[2|az]) (bf _))))) (aG (aR j4)) bC,(aR (eK (x:="all") (tE K Z Z) Z (AA.B.at "all") vj %[gO (N:=["number","rail"]) (js:=[none,none]) rfl rfl rfl (kQ K rfl false false rfl (AA.B.at "zip") %[1,2|az]) (λ_ _ _ _ _=>(cW K rfl (n:=2) rfl %[aZ 0 (gu aA),aZ 1 (gu aA)|cU])) (λ_ _ _ _ _=>fP) (λ_ _ _ _ _=>(pf (AN AA) hr %[0,aB,1|az]))|az]))|aG],?_];let(am,xm,rfl,hm,hdm):=rm.cF;let(yr,ym,rfl,r1,agU):=hdm.cons_inv;let(ar,xr,rfl,Br,hdr):=r1.cF;cases hdr.j7;erw[_,Z,.inr #[am,_,0,_,Z,Z,hm,cI (fD 0) Z,?_]];rcases Gp d with⟨es,rfl⟩|⟨ht,hn⟩
  ·erw[_,Z,.inl #[_,_,"tuple",true,Z,rd.ty,aA,pG,_,Z,ba ?_]]
   let(av,xs,rfl,hx,hd):=rd.cF;let hl:=hd.length;erw[_,Z,av,_,Z,.inr hx,_,Z,ar,_,Z,.inr Br,.inl #[_,_,Z,Z,_,Z,?_]];let k:∀H',aH H H'->Q (.bl (es.length==rs.length&&((es.zip rs).map λp=>ib 0 p.2 p.1).all id)) H':=k;let e0:(decide ((xs.length:Int)=((rs.map V.int).length:Int)))=(es.length==rs.length):=by rw[hl,bB,qY];simp;lia
   rw[e0];cases e:(es.length==rs.length)with |false=>rw[e,mx]at k;erw[bA (k H (aH.refl _))] |true=>
    rw[e,lK]at k;erw[ba ?_];let el:es.length=rs.length:=fC.mp e;erw[_,Z,_,Z,av,ar,Z,#[_,hx],#[_,Br],λD H0 nw=>?_];erw[ac2 (b1:=false) (b2:=false) (xs:=xs) (ys:=rs.map V.int) (bs:=(es.zip rs).map λp=>ib 0 p.2 p.1) [] rfl hx Br nw (by rw[bB,bB,List.length_zip,hl]) (by rw[bB,List.length_zip];lia) ?_ ?_]
    ·intro i x y b H2 Q' ex ey eb s2 hq
     let(e',r,ee,er,rfl):=zip_get eb;let(x',p4,rx):=hd.get i ee;rw[ex]at p4;cases p4;rw[ints_get er]at ey;cases ey;erw[_,Z,_,Z,_,e',0,r,Z,RD.mono s2 _ rx,hq _ (aH.refl _)]
    ·intro H2 s2 d2
     erw[D,_,Z,aL.of d2,k H2 s2]
  ·let e:IV rs d=false:=by cases d<;>first|rfl|erw[absurd rfl (hn _)]
   rw[e]at k;erw[_,Z,.inl #[_,_,"tuple",false,Z,rd.ty,aA,ht,_,Z,bA ?_]];erw[k H (aH.refl _)]
inductive a0F|mk pw b pl ns(_:vs=[pw,.ref b])(_:RD K H pw (iZ pl))(_:aW K H b (ns.map V.int))(_:ns.length=pl.length)(_:pl.length<=1000)(_:∀v' H',RD K H' v' (iZ (m9 pl ns))->aH H H'->Q v' H')
theorem O8:bu ["place","steps"] ["place","steps"] (aX Q9):=bD aP
theorem Sz(AA:a1v):a1k "moved" 1 a0F:=by
 exists AA.aa1.has,O8,dY λ_ _=>rfl
 ·let(pw,b,pl,ns,rfl,rp,hb,ln,hz,k):=h
  let nd:=O8.nd;erw[_,(aG (aR (iE (x:="tuple") (oq K Z) Z (AA.B.at "tuple") fN %[gO (N:=["number","step"]) (js:=[none,none]) rfl rfl rfl (kQ K rfl false false rfl (AA.B.at "zip") %[0,1|az]) (λ_ _ _ _ _=>(cW K rfl (n:=2) rfl %[aZ 0 (gu aA),aZ 1 (gu aA)|cU])) (λ_ _ _ _ _=>fP) (λ_ _ _ _ _=>(aO cM o0 u8))|az]))),?_];let(pa,rfl,hp):=HL rp;erw[_,Z,_,Z,pa,b,Z,#[_,hp],#[_,hb],λD H1 n1=>?_];erw[xn (K:=K) (b1:=false) (b2:=false) (xs:=pl.map V.int) (ys:=ns.map V.int) (ds:=(m9 pl ns).map PyData.int) [] rfl hp hb n1 (by simp[xA ln,ln]) (by rw[bB,xA ln];erw[hz]) (mK _) ?_ ?_]
  ·intro i x y d H2 Q' ex ey ed s2 hq
   let(m,em,rfl):=pW ed;rw[bV]at ex ey;cases e1:pl[i]? with |none=>rw[e1]at ex;cases ex |some u=>cases e2:ns[i]? with |none=>rw[e2]at ey;cases ey |some v=>rw[e1]at ex;rw[e2]at ey;cases ex;cases ey;rw[KW e1 e2]at em;cases em;erw[_,Z,_,Z,_,_,Z,Z,hq _ _ (aH.refl _) (dF _)]
  ·intro H2 zs s2 d2 r2
   erw[D,_,Z,.inl #[aL.of d2,λt H3 n3=>?_]];let et:=n3.at';rw[r2.j7]at et;erw[k (.ref t) H3 (HK (aW.of et)) (s2.trans n3.same)]
inductive a0Z|mk pw iv pl d o(_:vs=[pw,iv])(_:RD K H pw (iZ pl))(_:RD K H iv d)(_:itR d o)(_:(∀ns sp,o=some (ns,sp)->ns.length=pl.length))(_:pl.length<=1000)(_:∀v' H',RD K H' v' (iZ (j9 pl o))->aH H H'->Q v' H')
theorem OX:bu ["place","item"] ["place","item"] (aX QN):=bD aP
theorem HW(AA:a1v):a1k "place_behind" 2 a0Z:=by
 exists AA.a9Z.has,OX,dY λ_ _=>rfl
 ·let(pw,iv,pl,d,o,rfl,rp,ri,it,hl,hz,k):=h
  let nd:=OX.nd;erw[_,(aG (aR (yi (cf (pf (vS AA) hr %[1|az])) (pf (Sz AA) hr %[0,px K u8 aB|az]) o0))),?_];erw[_,Z,iv,d,o,Z,ri,it,_,Z,?_];cases o with |some q=>let(ns,sp):=q;erw[bA ?_];let ed:=jC it;subst ed;let(a,b,rfl,ha,hb):=nP ri;erw[_,Z,_,Z,.inr #[a,_,1,.ref b,Z,Z,ha,Z,pw,b,pl,ns,Z,rp,hb,hl ns sp Z,hz,λv' H' r s=>k v' H' r s]] |none=>erw[ba ?_];erw[_,Z,k pw H rp (aH.refl _)]
end
end _c
namespace _c
open PySem PySem.Spec PyProof.Rows _L _d _l _W
open _O (Itm)
section
structure zx(n:Nat)(d:aj)(o:Itm):Prop where
 it:itR d o
 ln:∀ns sp,o=some (ns,sp)->fA n 100 ns/\1<=sp/\sp<=20
 ot:o=none->kH d
theorem a5H(h:B7 z=true):isNm (.str z)=true:=h
theorem acY:∀{ns:List Int},(∃z∈ns,z≠0)->(ns.map PyData.int).any AV=true:=λ{ns} #[z,hz,h]=>vo.mpr #[.int z,gC.mpr #[z,hz,Z],by show(z !=0)=true;simpa using h]
theorem ad5{ns:List Int}(h:∀z∈ns,(z.natAbs:Int)<=100):(ns.map PyData.int).all (ib (-100) 100)=true:=by rw[iX];intro d hd;let(z,hz,rfl):=gC.mp hd;have:=h z hz;show(decide (-100<=z)&&decide (z<=100))=true;rw[cu bZ,cu bZ];rfl
theorem zx.is(h:zx n d o):wu n d=true/\e9 8 d/\GO d=true:=by cases o with
 |some q=>
  let(ns,sp):=q;let ed:=jC h.it;subst ed;let(bT,s1,s2):=h.ln ns sp rfl;erw[?_,?_,Z]
  ·show(gF "line" (.str "line")&&(vT n (.tuple (ns.map PyData.int))&&ib 1 20 (.int sp)))=true
   let e1:gF "line" (.str "line")=true:=by decide+kernel
   let e2:vT n (.tuple (ns.map PyData.int))=true:=by show(((ns.map PyData.int).length==n&&(ns.map PyData.int).all (ib (-100) 100))&&(ns.map PyData.int).any AV)=true;rw[ad5 bT.bd,acY bT.nz,bB,bT.len,FY];rfl
   let e3:ib 1 20 (.int sp)=true:=by show(decide (1<=sp)&&decide (sp<=20))=true;rw[cu s1,cu s2];rfl
   rw[e1,e2,e3];rfl
  ·refine(gW.tup (n:=1) (.cons #[aP,fX _] (.cons (gW.tup (n:=0) λd hd=>?_) (.cons (.int _) .nil)))).le aA
   let(a,_,rfl):=gC.mp hd;erw[.int _] |none=>
  rcases h.ot rfl with⟨z,rfl,z1,z2⟩|⟨w,s,rfl,hw,AI,on⟩
  ·erw[?_,(gW.tup (n:=0) (.cons #[aP,fX _] (.cons (.int _) .nil))).le aA,Z]
   show sC (.str "wait") (.int z)=true;unfold sC;rw[aQ aP];show(decide (1<=z)&&decide (z<=1000))=true;rw[cu z1,cu z2];rfl
  ·let a6K:u6 (.str s)=true:=by
    erw[cu ?_];rcases on with⟨_,rfl|rfl⟩|⟨_,hn⟩
    ·decide+kernel
    ·decide+kernel
    ·unfold B7 at hn
     simp only[fY,FW]at hn
     lia
   erw[?_,(gW.tup (n:=0) (.cons ?_ (.cons AI .nil))).le aA,?_]
   ·rcases on with⟨rfl,hs⟩|⟨rfl,hn⟩
    ·show sC (.str "tool") (.str s)=true
     unfold sC;rw[aV aP,aQ aP];rcases hs with rfl|rfl<;>decide+kernel
    ·show sC (.str "mark") (.str s)=true
     unfold sC;rw[aV aP,aV aP];rw[a5H hn];decide+kernel
   ·rcases hw with rfl|rfl<;>erw[aP,fX _]
   ·show([.str w,.str s]:List aj).all u6=true
    rw[LW,LW,List.all_nil,a6K];rcases hw with rfl|rfl<;>decide+kernel
end
end _c
namespace _c
open PySem PySem.Spec PyProof.Rows _L _d _l _C _P
open _O (topR cornO mnO betR atO ownF leadF ownL OkI OkIs)
section
def lg(H:Hp)(v:V):Option Rat->Prop |none=>v= .bM |some q=>bj H v q
theorem lg.go{H H':Hp}{v:V}:∀{o:Option Rat},lg H v o->aH H H'->lg H' v o |none,h,_=>h |some _,h,s=>bj.go h s
theorem bj.tt{v:V}(h:bj H v q)(s:eZ H H'):bj H' v q:=by let(a,rfl,h):=h;erw[a,Z,h.t s]
def zu(n:Nat):Option Rat->Prop |none=>True |some q=>Bd n q
def uz(r f:Int)(e b:Option Rat):List Rat:=(0::e.toList.map λq=>q+((-f:Int):Rat))++b.toList.map λq=>q+((-r:Int):Rat)
def uH(r f:Int)(bd:Rat)(e b:Option Rat):List Rat:=(bd::e.toList.map λq=>q+(r:Rat))++b.toList.map λq=>q+(f:Rat)
def jT(r f:Int)(bd:Rat)(e b:Option Rat):Bool:=!((uz r f e b).any λl=>(uH r f bd e b).any λh=>decide (h<l))
theorem fz.tt{H H':Hp}(s:eZ H H'):∀{vs:List V}{rs:List Rat},fz H vs rs->fz H' vs rs |[],[],_=>trivial |v::vs,q::rs,h=>#[h.1.tt s,h.2.1,fz.tt s h.2.2] |[],_::_,h=>h.elim |_::_,[],h=>h.elim
theorem fz.snoc{H:Hp}{v:V}{q:Rat}(hv:bj H v q)(hb:Bd 2000 q):∀{vs:List V}{rs:List Rat},fz H vs rs->fz H (vs++[v]) (rs++[q]) |[],[],_=>#[hv,hb,trivial] |v::vs,q::rs,h=>#[h.1,h.2.1,fz.snoc hv hb h.2.2] |[],_::_,h=>h.elim |_::_,[],h=>h.elim
theorem Xb{α:Type}(l:List α)(p:α->Bool)(g:Nat->Bool)(h:∀i x,l[i]? =some x->g i=p x):(List.range l.length).any g=l.any p:=by
 rw[qY,vo,vo];erw[λ#[i,hi,e]=>?_,λ#[x,hx,e]=>?_]
 ·let hi:=List.mem_range.mp hi
  erw[l[i],zR hi,by rw[<-h i _ (bo hi)];erw[e]]
 ·let(i,hi):=vm.mp hx
  erw[i,List.mem_range.mpr (cm.mp hi).1,by rw[h i x hi];erw[e]]
inductive Nh|mk m bv ev gv rs r f j t bd e b(_:vs=[m,bv,ev,gv])(_:RD K H m (fy rs r f j t))(_:gA rs r f j t)(_:bj H bv bd)(_:Bd 1900 bd)(_:lg H ev e)(_:zu 1900 e)(_:lg H gv b)(_:zu 1900 b)(_:∀H',aH H H'->Q (.bl (jT r f bd e b)) H')
theorem OT:bu ["machine","bound","ended","begun","rise","fall","lows","highs"] ["machine","bound","ended","begun"] (aX QJ):=bD aP
theorem SG(AA:a1v):a1k "can_meet" 5 Nh:=by
 exists AA.aaq.has,OT,uT λ_ _ _ _=>rfl
 ·let(m,bv,ev,gv,rs,r,f,j,t,bd,e,b,rfl,rm,aK,Rb,bb,Re,be,Rg,bg,k):=h
  let nd:=OT.nd;let(aN,jW,iA):=AA.wM;erw[_,%[rL (i:=4) (j:=5) Z nd Z Z aA Z Z %[px K o0 aB,px K o0 aB|az] Z,pS 6 nd (cX %[dC (x:="NOUGHT") Z jW|az]),pS 7 nd (cX %[1|az]),(je (bw (bL nJ w4 fQ (bf _)) %[(eJ (iQ K Z W1 %[pf (rX AA) hr %[2,nI nu P3|az]|az])),(eJ (iQ K Z a1b %[pf (rX AA) hr %[2,4|az]|az]))|aG] bC)),(je (bw (bL nJ L2 fQ (bf _)) %[(eJ (iQ K Z W1 %[pf (rX AA) hr %[3,nI nu M2|az]|az])),(eJ (iQ K Z a1b %[pf (rX AA) hr %[3,5|az]|az]))|aG] bC)),(aR (vN (eK (x:="any") (Xc K Z Z) Z (AA.B.at "any") Y8 %[a3E (N:=["low","high","highs"]) (js:=[none,none,some 7]) rfl rfl rfl (rO K rfl W1) (λ_ _ _ _ _=>(aZ 0 (show List.Nodup (["low","high","highs"]:List Str) by decide+kernel))) (λ_ _ _ _ _=>(rO K rfl w4)) (λ_ _ _ _ _=>(aZ 1 (show List.Nodup (["low","high","highs"]:List Str) by decide+kernel))) (λ_ _ _ _ _=>(pf (AR AA) hr %[1,0|az]))|az])))|aG],?_];let(ma,mb,rfl,fS,lU):=mM rm;let kr:=aK.r1;let j8:=aK.f1;erw[_,Z,.inr #[ma,_,1,.int r,Z,Z,fS,Z,_,Z,.inr #[ma,_,2,.int f,Z,Z,fS,Z,_,_,Z,?_]]];erw[bG Z,λl1 H1 n1=>?_];erw[_,Z,bG Z,λl2 H2 n2=>?_];let l12:l1≠l2:=dH n1.at' n2.no;let SW:H l1=none:=n1.no;let SV:H l2=none:=by cases e:H l2 with |none=>rfl |some o=>have:=n1.same _ _ e;rw[n2.no]at this;cases this
  let R0:∀H',bj H' (.ref aN) 0:=λH'=>#[aN,Z,iA H'];let b0:Bd 2000 (0:Rat):=#[aA,aA];let s2:=n1.same.trans n2.same;let ap:∀{H3:Hp}{l:Addr}{xs:List V}{v:V},H l=none->aH H H3->aH H (_L.upd H3 l (.lst (xs++[v]))):=λ{H3 l xs v} hn s3=>λq o eq=>by rw[aU (dH eq hn)];erw[s3 _ _ eq]
  erw[λO H3=>aH H H3/\∃xs ys,H3 l1=some (.lst xs)/\H3 l2=some (.lst ys)/\fz H3 xs (0::e.toList.map λq=>q+((-f:Int):Rat))/\fz H3 ys (bd::e.toList.map λq=>q+(r:Rat))/\O=[some (.ref ma),some bv,some ev,some gv,some (.int r),some (.int f),some (.ref l1),some (.ref l2)],?_,?_]
  ·erw[jZ ?_];intro E1
   erw[_,Z,Z,_,Z,?_];let V1:fz H2 [.ref aN] [0]:=#[R0 _,b0,trivial];let V2:fz H2 [bv] [bd]:=#[Rb.go s2,bb.mono aA,trivial];cases e with |none=>let e0:ev= .bM:=Re;subst e0;erw[ba #[s2,_,_,n2.same _ _ n1.at',n2.at',V1,V2,Z]] |some q=>
    let Re:bj H ev q:=Re;let be:Bd 1900 q:=be;let(ae,e0,he):=id Re;subst e0;erw[bA ?_];let d1:=n2.same _ _ n1.at';erw[_,Z,.inl #[Z,_,aL.of d1],?_];erw[_,Z,_,Z,_,Z,.ref ae,q,_,Z,Re.go s2,be.mono aA,(by rw[kv];lia),λu1 H3 jR s3=>?_];let Cg:=s3 _ _ d1;erw[l1,_,u1,Z,Z,Cg,bG Z,?_];let t3:eZ H3 (_L.upd H3 l1 (.lst ([.ref aN]++[u1]))):=.iO Cg;let DR:=s2.trans s3;let GS:=ap (l:=l1) (xs:=[.ref aN]) (v:=u1) SW DR;let d2:(_L.upd H3 l1 (.lst ([.ref aN]++[u1]))) l2=some (.lst [bv]):=by rw[aU l12.symm];erw[s3 _ _ n2.at']
    let Cf:(_L.upd H3 l1 (.lst ([.ref aN]++[u1]))) l1=some (.lst ([.ref aN]++[u1])):=bP;let Cy:fz (_L.upd H3 l1 (.lst ([.ref aN]++[u1]))) ([.ref aN]++[u1]) ([0]++[q+((-f:Int):Rat)]):=(fz.snoc jR ((jH be (by rw[kv];lia)).mono aA) (V1.go s3)).tt t3;let Cw:=(V2.go s3).tt t3;let Xl:=Re.go GS;generalize _L.upd H3 l1 (.lst ([.ref aN]++[u1]))=H4 at GS d2 Cf Cy Cw Xl⊢;erw[_,Z,.inl #[Z,_,aL.of d2],?_];erw[_,Z,_,Z,.ref ae,q,_,Z,Xl,be.mono aA,(by rw[kv];lia),λu2 H5 oA s5=>?_];let xk:=s5 _ _ d2;erw[l2,_,u2,Z,Z,xk,bG Z,?_];let t5:eZ H5 (_L.upd H5 l2 (.lst ([bv]++[u2]))):=.iO xk;erw[ap (l:=l2) SV (GS.trans s5),_,_,(aU l12).trans (s5 _ _ Cf),bP,(Cy.go s5).tt t5,(fz.snoc oA ((jH be (by rw[kv];lia)).mono aA) (Cw.go s5)).tt t5,Z]
  rintro O H3 ⟨s3,xs,ys,d1,d2,V1,V2,rfl⟩;let lx:=V1.length;let ly:=V2.length;let le:e.toList.length<=1:=by cases e<;>simp
  let EI:xs.length<=2:=by rw[lx,kh,bB];lia
  let Bn:ys.length<=2:=by rw[ly,kh,bB];lia
  erw[λO H4=>aH H H4/\∃xs ys,H4 l1=some (.lst xs)/\H4 l2=some (.lst ys)/\fz H4 xs (uz r f e b)/\fz H4 ys (uH r f bd e b)/\O=[some (.ref ma),some bv,some ev,some gv,some (.int r),some (.int f),some (.ref l1),some (.ref l2)],?_,?_]
  ·erw[jZ ?_];intro E2
   erw[_,Z,Z,_,Z,?_];cases b with |none=>let e0:gv= .bM:=Rg;subst e0;erw[ba #[s3,_,_,d1,d2,by unfold uz;simpa using V1,by unfold uH;simpa using V2,Z]] |some q=>
    let Rg:bj H gv q:=Rg;let bg:Bd 1900 q:=bg;let(ae,e0,he):=id Rg;subst e0;erw[bA ?_];erw[_,Z,.inl #[Z,_,aL.of d1],?_];erw[_,Z,_,Z,_,Z,.ref ae,q,_,Z,Rg.go s3,bg.mono aA,(by rw[kv];lia),λu1 H4 jR s4=>?_];let Cg:=s4 _ _ d1;erw[l1,_,u1,Z,Z,Cg,y8 _ aw,?_];let t4:eZ H4 (_L.upd H4 l1 (.lst (xs++[u1]))):=.iO Cg;let s34:=s3.trans s4;let GR:=ap (l:=l1) (xs:=xs) (v:=u1) SW s34;let xk:(_L.upd H4 l1 (.lst (xs++[u1]))) l2=some (.lst ys):=by rw[aU l12.symm];erw[s4 _ _ d2]
    let Cf:(_L.upd H4 l1 (.lst (xs++[u1]))) l1=some (.lst (xs++[u1])):=bP;let Cy:=(fz.snoc jR ((jH bg (by rw[kv];lia)).mono aA) (V1.go s4)).tt t4;let Cw:=(V2.go s4).tt t4;let Xk:=Rg.go GR;generalize _L.upd H4 l1 (.lst (xs++[u1]))=H5 at GR xk Cf Cy Cw Xk⊢;erw[_,Z,.inl #[Z,_,aL.of xk],?_];erw[_,Z,_,Z,.ref ae,q,_,Z,Xk,bg.mono aA,(by rw[kv];lia),λu2 H6 oA s6=>?_];let Wn:=s6 _ _ xk;erw[l2,_,u2,Z,Z,Wn,y8 _ aw,?_];let t6:eZ H6 (_L.upd H6 l2 (.lst (ys++[u2]))):=.iO Wn;erw[ap (l:=l2) SV (GR.trans s6),_,_,(aU l12).trans (s6 _ _ Cf),bP,(Cy.go s6).tt t6,(fz.snoc oA ((jH bg (by rw[kv];lia)).mono aA) (Cw.go s6)).tt t6,Z]
  rintro O H4 ⟨s4,xs,ys,d1,d2,V1,V2,rfl⟩;let lx:=V1.length;let ly:=V2.length;let lb:b.toList.length<=1:=by cases b<;>simp
  let EI:xs.length<=3:=by rw[lx];unfold uz;rw[cy,kh,bB,bB];lia
  let Bn:ys.length<=3:=by rw[ly];unfold uH;rw[cy,kh,bB,bB];lia
  erw[_,Z,l1,Z,#[_,aL.of d1],λD H5 n5=>?_];erw[ac4 (K:=K) (b:=λi j=>((uH r f bd e b)[j]?.bind λh=>(uz r f e b)[i]?.map λl=>decide (h<l)).getD false) _ (aL.of d1) (aL.of d2) n5 (gY (oo EI Bn) aA) ?_ ?_ ?_]
  ·intro x v H6 R s6 hR
   erw[_,Z,l2,Z,#[_,aL.of (s6 _ _ d2)],hR]
  ·intro i j' x y H6 Q' ex ey s6 hq
   let(l,el,Rl,bl):=V1.get ex;let(h,eh,Rh,bh):=V2.get ey;let hq:=hq H6 (aH.refl _);rw[el,eh]at hq;erw[_,Z,_,Z,y,x,h,l,Z,Rh.go s6,Rl.go s6,bh,bl,hq]
  ·intro H6 s6 d6
   erw[D,_,Z,aL.of d6,?_];let ea:(((List.range xs.length).flatMap λi=>(List.range ys.length).map λj=>((uH r f bd e b)[j]?.bind λh=>(uz r f e b)[i]?.map λl=>decide (h<l)).getD false)).any id=(uz r f e b).any λl=>(uH r f bd e b).any λh=>decide (h<l):=by rw[ad1,lx,ly];erw[Xb _ _ _ λi l el=>Xb _ _ _ λj' h eh=>?_];rw[el,eh];rfl
   rw[ea];erw[_,Z,k H6 (s4.trans s6)]
def DG(dA:List Int)(t:Int)(q:Rat):aj:=.tuple [.str "step",.tuple (dA.map PyData.int),.int t,cA q]
theorem A9{v:V}{t:Int}(h:RD K H v (DG zs t q)):∃a b c,v= .ref a/\aW K H a [.str "step",.ref b,.int t,c]/\aW K H b (zs.map V.int)/\bj H c q:=by let(a,xs,rfl,hx,hd):=h.cF;let(u1,ys,rfl,r1,hd):=hd.cons_inv;let(u2,ys,rfl,r2,hd):=hd.cons_inv;let(u3,ys,rfl,r3,hd):=hd.cons_inv;let(u4,ys,rfl,r4,hd):=hd.cons_inv;cases hd.nil_inv;cases r1.str_inv;cases r3.int_inv;let(b,bs,rfl,hb,hbs):=r2.cF;rw[hbs.j7]at hb;let(c,cs,rfl,hc,qj):=r4.cF;let(c1,cr,rfl,e1,qj):=qj.cons_inv;let(c2,cr,rfl,e2,qj):=qj.cons_inv;cases qj.nil_inv;cases e1.int_inv;cases e2.int_inv;erw[a,b,_,Z,hx,hb,c,Z,hc]
inductive N1|mk m sq rs r f j ti t q(_:vs=[m,.int t,sq])(_:RD K H m (fy rs r f j ti))(_:bj H sq q)(_:Bd 2000 q)(_:1<=ti)(_:ti<=100)(_:0<q)(_:1<=t)(_:t.natAbs<2^2400)(_:eX ti q t=true)(qq:eX ti q (t-1)=false)(sS:∀H',aH H H'->Q (.bl true) H')
theorem NA:bu ["machine","t","square"] ["machine","t","square"] (aX Pa):=bD aP
theorem a4g(AA:a1v)(BI:a1k "are_enough" 1 GJ):a1k "is_timed" 3 N1:=by
 exists AA.aaa.has,NA,kG λ_ _ _=>rfl
 ·let(m,sq,rs,r,f,j,ti,t,q,rfl,rm,Rq,bq,Gs,Mp,q0,t1,t2,sY,K5,k):=h
  let nd:=NA.nd;let(aN,jW,iA):=AA.wM;erw[_,%[bw (PW.pt (hZ (dj (cf (pf (vR AA) hr %[1|az]))) (hZ (bL ky u8 aB (bf _)) (hZ (dj (cf (pf (a4O AA) hr %[2|az]))) (ku (dj (cf (pf (AR AA) hr %[dC (x:="NOUGHT") Z jW,2|az])))))))) (aG (aR j4)) bC,aR (gP (pf BI hr %[0,2,1|az]) (gN (vN (pf BI hr %[0,2,aO fE u8 aB|az]))))|aG],?_];erw[_,Z,_,_,Z,(dF (K:=K) (H:=H) t).ty,_,Z,?_];rw[show j6 (kn (.int t))=true from(by decide:j6 "int"=true)];erw[ba #[_,Z,_,_,Z,Z,_,Z,?_]];rw[dP bZ];erw[ba ?_];erw[_,Z,sq,q,Z,Rq,_,Z,ba ?_];erw[_,Z,.ref aN,sq,0,q,Z,#[aN,Z,iA H],Rq,#[aA,aA],bq,_,Z,?_];rw[cu q0];erw[ba ?_];erw[_,Z,_,Z,_,Z,m,sq,t,rs,r,f,j,ti,q,Z,rm,Rq,bq,Gs,Mp,bZ,t2,?_];rw[sY];erw[_,Z,bA ?_];erw[_,Z,_,Z,_,Z,_,_,Z,Z,m,sq,t-1,rs,r,f,j,ti,q,Z,rm,Rq,bq,Gs,Mp,bZ,bZ,?_];rw[K5];erw[_,Z,k H (aH.refl _)]
inductive a0l|mk v u zs t q(_:vs=[v,u])(_:RD K H v (.tuple (zs.map PyData.int)))(_:RD K H u (DG zs t q))(_:zs.length<=1000)(_:∀H',aH H H'->Q (.bl true) H')
theorem NM:bu ["row","entry"] ["row","entry"] (aX Pl):=bD aP
theorem a4k(AA:a1v):a1k "is_step_with" 2 a0l:=by
 exists AA.aab.has,NM,dY λ_ _=>rfl
 ·let(v,u,zs,t,q,rfl,rv,ru,lz,k):=h
  let nd:=NM.nd;erw[_,%[bw (PW.pt (hZ (dj (cf (cV K AA.B %[1,cK (x:="tuple") (v:=.ty "tuple") Z (AA.B.at "tuple") fN rfl|az]))) (hZ (bL (iH K rfl hr.units) (cY K AA.B %[1|az]) aB (bf _)) (ku (bL (iH K rfl hr.units) (px K u8 aB) eU (bf _)))))) (aG (aR j4)) bC,(aR (gP (eV (cJ K Z hr.units) (px K u8 aB) o0 (bf _)) (gN (eK (x:="all") (tE K Z Z) Z (AA.B.at "all") vj %[gO (N:=["number"]) (js:=[none]) rfl rfl rfl (oF K rfl (px K u8 aB)) (λ_ _ _ _ _=>(aZ 0 (uw _))) (λ_ _ _ _ _=>fP) (λ_ _ _ _ _=>(pf (vR AA) hr %[0|az]))|az]))))|aG],?_];let(a,b,c,rfl,h1,h2,h3):=A9 ru;erw[_,Z,.inl #[_,_,"tuple",true,Z,ru.ty,aA,pG,_,Z,ba ?_]];erw[_,Z,a,_,Z,.inr h1,.inl #[_,_,Z,Z,_,Z,ba ?_]];erw[_,Z,.inr #[a,_,0,.str "step",Z,Z,h1,Z,.inr #[_,_,cL _,cL _,aP,aP,_,Z,?_]]];rw[sX,show gF "step" (.str "step")=true by decide+kernel];erw[ba ?_];let ok:e9 1 (.tuple (zs.map PyData.int)):=gW.tup (n:=0) λd hd=>by let(i,_,rfl):=gC.mp hd;erw[.int i]
  erw[_,Z,.inr #[a,_,1,.ref b,Z,Z,h1,Z,_,Z,.inr #[_,_,fJ h2 (ug zs),rv,ok.shaped aA,ok.shaped aA,?_]]];rw[ok.refl];erw[_,Z,bA ?_];erw[_,Z,.inr #[a,_,1,.ref b,Z,Z,h1,Z,b,Z,#[_,h2],λD H2 n2=>?_]];erw[Fj (xs:=zs.map V.int) (bs:=zs.map λ_=>true) [] h2 n2 (by simp) (by simp;omega) ?_ ?_]
  ·intro i x y H3 Q' ex ey s3 hq
   rw[bV]at ex ey;let(z,ez,rfl):=zJ.mp ex;rw[ez]at ey;cases ey;erw[_,Z,_,_,Z,(dF (K:=K) (H:=H3) z).ty,?_];rw[show j6 (kn (.int z))=true from(by decide:j6 "int"=true)];erw[hq _ (aH.refl _)]
  ·intro H3 s3 d3
   erw[D,_,Z,aL.of d3,?_];let e:(zs.map λ_=>true).all id=true:=iX.mpr λx hx=>by let(_,_,rfl):=gC.mp hx;rfl
   rw[e];erw[k H3 s3]
def jG(zs:List Int)(top:Rat):aj:=.tuple [.str "step",.tuple (zs.map PyData.int),cA top]
inductive Nf|mk m xv ev rs r f j ti(_:vs=[m,xv,ev])(_:RD K H m (fy rs r f j ti))(_:gA rs r f j ti)(_:((∃d,RD K H xv d/\RD K H ev d/\kH d/\∀H',aH H H'->Q .bM H')\/ ∃zs top t q,RD K H xv (jG zs top)/\RD K H ev (DG zs t q)/\zs.length<=1000/\Bd 2000 top/\Bd 2000 q/\0<q/\1<=t/\t.natAbs<2^2400/\eX ti q t=true/\eX ti q (t-1)=false/\∀H',aH H H'->Q (if top<q then .int 3 else .bM) H'))
theorem OL:bu ["machine","expected","entry","word","row","top"] ["machine","expected","entry"] (aX QD):=bD aP
theorem a4V(AA:a1v)(a84:a1k "is_timed" 3 N1):a1k "fault_of_entry" 5 Nf:=by
 exists AA.aam.has,OL,kG λ_ _ _=>rfl
 ·let(m,xv,ev,rs,r,f,j,ti,rfl,rm,aK,hc):=h
  let nd:=OL.nd;erw[_,%[bw (bL (iH K Z hr.units) (px K u8 aB) eU (bf _)) (aG (aR (yi (PW.pt (mG (cf (pf (SD AA) hr %[0,2|az])) (pL (bL (cJ K Z hr.units) w4 u8 (bf _))))) fQ (dC (x:="NOT_DUE") Z AA.BK)))) bC,fe u8 (cW K Z (n:=3) Z %[aZ 3 nd,aZ 4 nd,aZ 5 nd|cU]),bw (dj (cf (pf (a4k AA) hr %[4,2|az]))) (aG (aR (dC (x:="NOT_DUE") Z AA.BK))) bC,bw (dj (cf (pf a84 hr %[0,px K w4 aB,px K w4 aB|az]))) (aG (aR (dC (x:="WRONG_TICKS") Z AA.a9d))) bC,aR (yi (cf (pf (AR AA) hr %[5,px K w4 aB|az])) (dC (x:="ABOVE_TOP") Z AA.a9n) fQ)|aG],?_];rcases hc with⟨d,rx,re,dQ,k⟩|⟨zs,top,t,q,rx,re,lz,bt,bq,q0,t1,t2,sY,K5,k⟩
  ·obtain⟨wd,u,rfl,hw⟩:∃wd u,d= .tuple [.str wd,u]/\gF "step" (.str wd)=false:=by
    rcases dQ with⟨n,rfl,_,_⟩|⟨wd,z,rfl,hw,_,_⟩
    ·erw["wait",_,Z,aP]
    ·erw[wd,_,Z,?_]
     rcases hw with rfl|rfl<;>decide+kernel
   let(i1,i2,i3):=zx.is (n:=rs.length) (d:=.tuple [.str wd,u]) (o:=none) #[dQ.it,(λ_ _ z=>nomatch z),λ_=>dQ];let(a,xs,rfl,h1,hd):=id rx.cF;let(u1,ys,rfl,e1,hd):=hd.cons_inv;cases e1.str_inv;let lr:=aK.len;erw[_,Z,.inr #[a,_,0,.str wd,Z,Z,h1,cI (fD 0) Z,.inr #[_,_,cL _,cL _,kN (rY i2 (by simp)),aP,_,Z,?_]]];rw[sX,hw];erw[bA #[_,Z,_,Z,m,ev,rs,[PyData.int r,.int f,.int j,.int ti],_,Z,rm,re,aw,i2,i3,λH1 s1=>?_]];rw[i1];erw[_,Z,bA ?_];erw[_,Z,_,Z,.inr #[_,_,RD.mono s1 _ re,RD.mono s1 _ rx,kN i2,kN i2,_,Z,?_]];rw[eqv_refl _ i2.lay];erw[bA (k H1 s1)]
  ·let(a,b,c,rfl,h1,h2,h3):=A9 re
   let(x,xs,rfl,g1,hd):=id rx.cF;let(u1,ys,rfl,e1,hd):=hd.cons_inv;let(u2,ys,rfl,e2,hd):=hd.cons_inv;let(u3,ys,rfl,e3,hd):=hd.cons_inv;cases hd.nil_inv;cases e1.str_inv;let(tp,ts,rfl,ht,jV):=e3.cF;let(c1,cr,rfl,q1,jV):=jV.cons_inv;let(c2,cr,rfl,q2,jV):=jV.cons_inv;cases jV.nil_inv;cases q1.int_inv;cases q2.int_inv;let Rt':bj H (.ref tp) top:=#[tp,Z,ht];erw[_,Z,.inr #[x,_,0,.str "step",Z,Z,g1,cI (fD 0) Z,.inr #[_,_,cL _,cL _,aP,aP,_,Z,?_]]];rw[sX,show gF "step" (.str "step")=true by decide+kernel];erw[ba ?_];erw[_,Z,x,_,Z,g1,Z,_,_,Z,_,_,Z,_,_,Z,Z,?_];erw[_,Z,_,Z,u2,.ref a,zs,t,q,Z,e2,re,lz,λH1 s1=>#[_,Z,ba ?_]];erw[_,Z,_,Z,.inr #[a,_,2,.int t,Z,Z,h1.go s1,Z,_,Z,.inr #[a,_,3,c,Z,Z,h1.go s1,Z,?_]]];erw[m,c,rs,r,f,j,ti,t,q,Z,RD.mono s1 _ rm,h3.go s1,bq,aK.t1.1,aK.t1.2,q0,t1,t2,sY,K5,λH2 s2=>#[_,Z,ba ?_]];let iD:=s1.trans s2;erw[_,Z,_,Z,.inr #[a,_,3,c,Z,Z,h1.go iD,Z,?_]];erw[.ref tp,c,top,q,Z,Rt'.go iD,h3.go iD,bt,bq,_,Z,?_];let k:=k H2 iD;by_cases bK:top<q
   ·rw[aQ bK]at k
    rw[cu bK];erw[bA k]
   ·rw[aV bK]at k
    rw[dP bK];erw[ba k]
inductive a0m|mk ev(_:vs=[ev])(_:((∃d,RD K H ev d/\kH d/\Q .bM H)\/∃zs t q,RD K H ev (DG zs t q)/\∀v,bj H v q->Q v H))
theorem NO:bu ["entry"] ["entry"] (aX Po):=bD aP
theorem a4n(AA:a1v):a1k "square_of" 1 a0m:=by
 exists AA.a9V.has,NO,fo λ_=>rfl
 ·let(ev,rfl,hc):=h
  let nd:=NO.nd;erw[_,(aG (aR (yi (bL (cJ K Z hr.units) (px K o0 aB) eU (bf _)) (px K o0 aB) fQ))),?_];rcases hc with⟨d,re,dQ,k⟩|⟨zs,t,q,re,k⟩
  ·obtain⟨wd,u,rfl,hw,hs⟩:∃wd u,d= .tuple [.str wd,u]/\gF "step" (.str wd)=false/\SeqAt.shaped (.str wd)=true:=by
    rcases dQ with⟨n,rfl,_,_⟩|⟨wd,z,rfl,hw,_,_⟩
    ·erw["wait",_,Z,aP,aP]
    ·erw[wd,_,Z,?_]
     rcases hw with rfl|rfl<;>erw[aP,aP]
   let(a,xs,rfl,h1,hd):=id re.cF;let(u1,ys,rfl,e1,hd):=hd.cons_inv;cases e1.str_inv;erw[_,Z,.inr #[a,_,0,.str wd,Z,Z,h1,cI (fD 0) Z,.inr #[_,_,cL _,cL _,hs,aP,_,Z,?_]]];rw[sX,hw];erw[ba k]
  ·let(a,b,c,rfl,h1,h2,h3):=A9 re
   erw[_,Z,.inr #[a,_,0,.str "step",Z,Z,h1,Z,.inr #[_,_,cL _,cL _,aP,aP,_,Z,?_]]];rw[sX,show gF "step" (.str "step")=true by decide+kernel];erw[bA #[_,Z,.inr #[a,_,3,c,Z,Z,h1,Z,k _ h3]]]
end
section
def gR(rate:Int)(ds:List aj)(os:List Itm)(i:Nat):List aj:=match os[i]? with |some (some (ns,sp))=>(List.range (aF ns)).map λk=>jG (eH ns k) (topR rate sp) |_=>[ds.getD i .none]
def cT(rate:Int)(ds:List aj)(os:List Itm):Nat->List aj |0=>[] |i+1=>cT rate ds os i++gR rate ds os i
def jo(j rate:Int)(os:List Itm)(i:Nat):List Rat:=match os[i]? with |some (some (ns,sp))=>ownF j rate os i::List.replicate (aF ns-1) (topR rate sp) |_=>[ownF j rate os i]
def ja(j rate:Int)(os:List Itm):Nat->List Rat |0=>[] |i+1=>ja j rate os i++jo j rate os i
theorem o8{rate:Int}{ds:List aj}{os:List Itm}{i:Nat}{ns:List Int}{sp:Int}(h:os[i]? =some (some (ns,sp))):gR rate ds os i=(List.range (aF ns)).map λk=>jG (eH ns k) (topR rate sp):=by unfold gR;rw[h]
theorem qH{rate:Int}{ds:List aj}{os:List Itm}{i:Nat}(h:os[i]? =some none)(hd:ds[i]? =some d):gR rate ds os i=[d]:=by unfold gR;rw[h,vn,hd];rfl
theorem xu{j rate:Int}{os:List Itm}{i:Nat}{ns:List Int}{sp:Int}(h:os[i]? =some (some (ns,sp))):jo j rate os i=ownF j rate os i::List.replicate (aF ns-1) (topR rate sp):=by unfold jo;rw[h]
theorem Cr{j rate:Int}{os:List Itm}{i:Nat}(h:os[i]? =some none):jo j rate os i=[ownF j rate os i]:=by unfold jo;rw[h]
theorem VY(zs:List Int)(q:Rat):dG (jG zs q)=true:=by
 have:bS (zs.map PyData.int)=true:=cj.mpr λd hd=>by let(i,_,rfl):=gC.mp hd;rfl
 simp[jG,dG,bS,this,cA]
theorem uN{n:Nat}{rate:Int}{ds:List aj}{os:List Itm}(row:cg n ds os):∀i,i<=os.length->(cT rate ds os i).length<=100*i/\bS (cT rate ds os i)=true
 |0,_=>#[aY _,Z] |i+1,h=>by
  let ll:=row.len;let(ih,ino):=uN (rate:=rate) row i aw;obtain⟨o,eo⟩:∃o,os[i]? =some o:=#[_,bo (show i<os.length by lia)];let key:(gR rate ds os i).length<=100/\bS (gR rate ds os i)=true:=by cases o with |none=>obtain⟨d',ed⟩:∃d',ds[i]? =some d':=#[_,bo (show i<ds.length by lia)];rw[qH eo ed];have:=cj.mp row.no _ (gZ ed);erw[by simp,by simp[bS,this]] |some q=>let(ns,sp):=q;let(bT,_,_):=row.ok i ns sp eo;have:=mO bT;rw[o8 eo,bB,iu];erw[aw,cj.mpr λd hd=>?_];let(k,_,rfl):=gC.mp hd;erw[VY _ _]
  erw[?_,?_]
  ·show(cT rate ds os i++gR rate ds os i).length<=_
   rw[cy];lia
  ·erw[cj.mpr λd hd=>?_]
   rcases jL.mp hd with h1|h1
   ·erw[cj.mp ino d h1]
   ·erw[cj.mp key.2 d h1]
theorem m7{n:Nat}{j rate:Int}{ds:List aj}{os:List Itm}(row:cg n ds os):∀i,i<=os.length->(ja j rate os i).length=(cT rate ds os i).length |0,_=>rfl |i+1,h=>by let ll:=row.len;show(ja j rate os i++jo j rate os i).length=(cT rate ds os i++gR rate ds os i).length;rw[cy,cy,m7 row i aw];obtain⟨o,eo⟩:∃o,os[i]? =some o:=#[_,bo (show i<os.length by lia)];cases o with |none=>obtain⟨d',ed⟩:∃d',ds[i]? =some d':=#[_,bo (show i<ds.length by lia)];rw[qH eo ed,Cr eo];rfl |some q=>
 let(ns,sp):=q;let(bT,_,_):=row.ok i ns sp eo;have:=bT.lead;rw[o8 eo,xu eo];simp
 lia
inductive a0V|mk iv rate n ds os(_:vs=[iv,.int rate])(_:RD K H iv (.tuple ds))(_:cg n ds os)(_:n<=3)(_:ds.length<=30)(_:10<=rate)(_:rate<=200)(_:∀l ys H',H l=none->H' l=some (.lst ys)->aI K H' ys (cT rate ds os os.length)->aH H H'->Q (.ref l) H')
theorem OQ:bu ["items","rate","due","item","top"] ["items","rate"] (aX QH):=bD aP
theorem a50(AA:a1v):a1k "due_entries" 5 a0V:=by
 exists AA.aan.has,OQ,dY λ_ _=>rfl
 ·let(iv,rate,n,ds,os,rfl,ri,row,n3,hz,bO,rt2,k):=h
  let nd:=OQ.nd;erw[_,%[pS 2 nd (cX az),(g9 eO Z (oF K Z o0) (aZ 3 nd) (aG (bw (cf (pf (vS AA) hr %[3|az])) %[pS 4 nd (pf (AQ AA) hr %[3,1|az]),(eJ (yj K Z w4 %[gO (N:=["row","top"]) (js:=[none,some 4]) Z Z Z (rO K Z (pf (Ss AA) hr %[3|az])) (λ_ _ _ _ _=>(aZ 0 (gu aA))) (λ_ _ _ _ _=>fP) (λ_ _ _ _ _=>(cQ %[eU,0,1|az]))|az]))|aG] (aG (eJ (iQ K Z w4 %[3|az])))))),aR w4|aG],?_];let ll:=row.len;let lW:sizeLine=16777216:=by decide
  erw[bG Z,λD H2 n2=>?_];let nD:=n2.no;let(ia,xs,rfl,hi,dI):=ri.cF;let lx:=dI.length;erw[_,Z,ia,Z,#[_,hi.go n2.same],Vg (K:=K) (a:=ia) (xs:=xs) (λi O H3=>aH H H3/\∃zs v1 v2,H3 D=some (.lst zs)/\aI K H3 zs (cT rate ds os i)/\O=[some (.ref ia),some (.int rate),some (.ref D),v1,v2]) #[n2.same,[],none,none,n2.at',cH,Z] (λi O H3 _ h=>hi.go h.1) ?_ ?_]
  ·rintro i y O H3 hy ⟨s3,zs,v1,v2,dz,rz,rfl⟩
   erw[gh ?_];intro E1;let Bw:i<xs.length:=(cm.mp hy).1;let(d,ed,rd):=dI.get' i hy;let(o,eo,it):=row.get ed;let ye:=RD.mono s3 _ rd;let(tl,tn):=uN (rate:=rate) row i aw;let lz:=rz.length;erw[_,Z,y,d,o,Z,ye,it,_,Z,?_];cases o with
   |none=>
    erw[ba ?_];erw[_,Z,.inl #[Z,_,aL.of dz],_,Z,D,zs,_,Z,Z,dz,aw,?_];erw[λb o e=>?_,_,_,_,bP,?_,Z]
    ·rw[aU (dH e nD)];erw[s3 b o e]
    ·show aI K _ _ (cT rate ds os i++gR rate ds os i)
     rw[qH eo ed];erw[aI.vD dz rz ye tn it.no] |some q=>
    let(ns,sp):=q;erw[bA ?_];let ij:=jC it;subst ij;let(bT,cR,dh):=row.ok i ns sp eo;let mQ:=mO bT;erw[_,Z,_,Z,y,ns,sp,rate,Z,ye,cR,dh,bO,rt2,λtv H4 Rt4 s4=>?_];let jF:=s4 _ _ dz;erw[_,Z,.inl #[Z,_,aL.of jF],?_];erw[_,Z,y,ns,sp,Z,RD.mono s4 _ ye,#[Z,λz hz=>by have:=bT.bd z hz;lia,bT.nz],by rw[bT.len];lia,λl3 y3 H6 AZ p7 ud s6=>?_];let we:=ud.length;rw[iY,bB,iu]at we;erw[l3,Z,#[_,aL.of p7],λD2 H7 n7=>?_];let nE:bS (gR rate ds os i)=true:=by rw[o8 eo];erw[cj.mpr λd hd=>by let(k,_,rfl):=gC.mp hd;erw[VY _ _]]
    let lE:(gR rate ds os i).length=aF ns:=by rw[o8 eo,bB,iu]
    erw[Ws (K:=K) (ds:=gR rate ds os i) _ (aL.of p7) n7 (by rw[lE,we]) aw nE ?_ ?_]
    ·intro q x dd H8 Q' ex C5 s8 hq
     let nR:q<aF ns:=by have:=(cm.mp ex).1;lia
     let(d3,e3,r3):=ud.get' q ex;rw[iY,bV,jN nR]at e3;cases e3;rw[o8 eo,bV,jN nR]at C5;cases C5;erw[_,Z,_,Z,bG Z,λt H9 n9=>?_];erw[hq _ _ n9.same (fJ (aW.of n9.at') (bX (cL _) (bX (RD.mono (s8.trans n9.same) _ r3) (bX (Rt4.go ((s6.trans s8).trans n9.same)).rd cH))))]
    ·intro H8 z8 s8 d8 r8
     let kO:=s4.trans (s6.trans s8);let wY:=kO _ _ dz;let l8:=r8.length;erw[D,D2,zs,z8,Z,Z,wY,d8,aw,?_];let tu:eZ H8 (_L.upd H8 D (.lst (zs++z8))):=.iO wY;erw[λb o e=>?_,_,_,_,bP,?_,Z]
     ·rw[aU (dH e nD)];erw[kO b o (s3 b o e)]
     ·exact(aI.t tu _ tn (aI.mono kO _ rz)).append (aI.t tu _ nE r8)
  ·rintro O H3 ⟨s3,zs,v1,v2,dz,rz,rfl⟩
   rw[lx,ll]at rz;erw[_,Z,k D zs H3 nD dz rz s3]
theorem a9B(n:Nat)(v:V):(List.replicate n [v]).flatten=List.replicate n v:=by induction n with |zero=>rfl |succ n ih=>rw[tQ,Ga,ih,tQ];rfl
theorem RH{H:Hp}{v:V}{q:Rat}(h:bj H v q):∀n,aI K H (List.replicate n v) ((List.replicate n q).map cA) |0=>cH |n+1=>by rw[tQ,tQ,CY];erw[bX h.rd (RH h n)]
inductive a1a|mk m iv rate rs r f j t ds os(_:vs=[m,iv,.int rate])(_:RD K H m (fy rs r f j t))(_:gA rs r f j t)(_:RD K H iv (.tuple ds))(_:cg rs.length ds os)(_:ds.length<=30)(_:10<=rate)(_:rate<=200)(_:∀l ys H',H l=none->H' l=some (.lst ys)->aI K H' ys ((ja j rate os os.length++[ownF j rate os os.length]).map cA)->aH H H'->Q (.ref l) H')
theorem OZ:bu ["machine","items","rate","own","bounds","i","item"] ["machine","items","rate"] (aX QP):=bD aP
theorem a52(AA:a1v):a1k "bounds_between" 9 a1a:=by
 exists AA.aar.has,OZ,kG λ_ _ _=>rfl
 ·let(m,iv,rate,rs,r,f,j,t,ds,os,rfl,rm,aK,ri,row,hz,bO,rt2,k):=h
  let nd:=OZ.nd;erw[_,%[pS 3 nd (pf (a4C AA) hr %[0,1,2|az]),pS 4 nd (cX az),(g9 eO Z (AB K Z false Z (AA.B.at "enumerate") %[1|az]) (cW K rfl (n:=2) rfl %[aZ 5 nd,aZ 6 nd|cU]) %[eJ (iQ K Z M2 %[px K L2 P3|az]),(bw (cf (pf (vS AA) hr %[6|az])) (aG (eJ (yj K Z M2 %[(aO a3W (cX %[pf (AQ AA) hr %[6,2|az]|az]) (aO fE (pf (yx AA) hr %[6|az]) aB))|az]))) bC)|aG]),aR (aO (Co K Z) M2 (cX %[px K L2 (nI nu aB)|az]))|aG],?_];let ll:=row.len;let lr:=aK.len;let lW:sizeLine=16777216:=by decide
  erw[_,Z,_,Z,_,Z,m,iv,rate,rs,r,f,j,t,ds,os,Z,rm,aK,ri,row,aw,bO,rt2,λl1 y1 H1 uv zj As s1=>?_];let Ew:=As.length;rw[bB,ownL,bB,iu]at Ew;let own:∀(c:Nat)(u:V)(H':Hp),c<=os.length->y1[c]? =some u->aH H1 H'->bj H' u (ownF j rate os c):=by intro c u H' hc e t';let(d1,e1,r1):=As.get' c e;rw[bV,ownL,bV,jN aw]at e1;cases e1;exact(jy r1).go t'
  erw[bG Z,λD H2 n2=>?_];let nD:H D=none:=by cases e:H D with |none=>rfl |some o=>have:=s1 _ _ e;rw[n2.no]at this;cases this
  let(ia,xs,rfl,hi,dI):=ri.cF;let lx:=dI.length;let nob:∀i,bS ((ja j rate os i).map cA)=true:=λi=>mJ _;erw[_,Z,ia,Z,#[_,hi.go (s1.trans n2.same)],BO (K:=K) (b:=false) (a:=ia) (xs:=xs) (λi O H3=>aH H1 H3/\∃zs v1 v2,H3 D=some (.lst zs)/\aI K H3 zs ((ja j rate os i).map cA)/\O=[some m,some (.ref ia),some (.int rate),some (.ref l1),some (.ref D),v1,v2]) #[n2.same,[],none,none,n2.at',cH,Z] (λi O H3 _ h=>hi.go (s1.trans h.1)) ?_ ?_]
  ·rintro i y O H3 hy ⟨s3,zs,v1,v2,dz,rz,rfl⟩ T H4 n4
   erw[gh ?_];intro E2;let Bw:i<xs.length:=(cm.mp hy).1;let(d,ed,rd):=dI.get' i hy;let(o,eo,it):=row.get ed;let fZ:=s3.trans n4.same;let s4:=s1.trans fZ;let jF:=n4.same _ _ dz;let vI:=aI.mono n4.same _ rz;let ui:=RD.mono s4 _ rd;let lz:=rz.length;rw[bB,m7 row i aw]at lz;let tl:=(uN (rate:=rate) row i aw).1;obtain⟨z0,jX⟩:∃z,y1[i]? =some z:=#[_,bo (show i<y1.length by lia)];let R0:=own i z0 H4 aw jX fZ;let oh:=fZ _ _ zj;erw[T,_,Z,aW.of n4.at',Z,_,_,Z,_,_,Z,Z,?_];erw[_,Z,.inl #[Z,_,aL.of jF],?_];erw[_,Z,_,Z,.inl #[l1,_,_,z0,Z,Z,aL.of oh,cI aw (by simpa using jX),?_]];erw[D,zs,z0,Z,Z,jF,aw,?_];let t5:eZ H4 (_L.upd H4 D (.lst (zs++[z0]))):=.iO jF;let mE:aH H1 (_L.upd H4 D (.lst (zs++[z0]))):=λb o e=>by rw[aU (dH e n2.no)];erw[fZ b o e]
   let d5:(_L.upd H4 D (.lst (zs++[z0]))) D=some (.lst (zs++[z0])):=bP;let r5:aI K (_L.upd H4 D (.lst (zs++[z0]))) (zs++[z0]) ((ja j rate os i++[ownF j rate os i]).map cA):=by rw[jr];erw[aI.vD jF vI R0.rd (nob i) (nH _)]
   generalize _L.upd H4 D (.lst (zs++[z0]))=H5 at t5 mE d5 r5⊢;let s5:=s1.trans mE;let Hu:=RD.mono s5 _ rd;erw[_,Z,y,d,o,Z,Hu,it,_,Z,?_];cases o with |none=>erw[ba #[mE,_,_,_,d5,?_,Z]];show aI K H5 _ ((ja j rate os i++jo j rate os i).map cA);rw[Cr eo];erw[r5] |some q=>
    let(ns,sp):=q;erw[bA ?_];let ij:=jC it;subst ij;let(bT,cR,dh):=row.ok i ns sp eo;let mQ:=mO bT;let uG:=bT.lead;erw[_,Z,.inl #[Z,_,aL.of d5],?_];erw[_,Z,_,Z,y,ns,sp,rate,Z,Hu,cR,dh,bO,rt2,λtv H6 Rt6 s6=>?_];erw[bG Z,λlt H7 n7=>?_];erw[_,Z,y,ns,sp,Z,RD.mono (s6.trans n7.same) _ Hu,bT.ne,by rw[bT.len];lia,λH8 s8=>?_];let d7:=s8 _ _ n7.at';let ek:((aF ns:Int)-1).toNat=aF ns-1:=by lia
    erw[_,_,Z,Z,lt,_,_,Z,Z,d7,aw,aw,by rw[ek];show 1*_<=_;lia,λlp nlp=>?_];rw[ek,a9B];let n9:Nw H8 (_L.upd H8 lp (.lst (List.replicate (aF ns-1) tv))) lp (.lst (List.replicate (aF ns-1) tv)):=.of nlp;generalize _L.upd H8 lp (.lst (List.replicate (aF ns-1) tv))=H9 at n9⊢;let rE:=s6.trans (n7.same.trans (s8.trans n9.same));let d9:=rE _ _ d5;erw[D,lp,_,_,Z,Z,d9,n9.at',by rw[cy,zQ];show _+1+_<=_;lia,?_];let t9:eZ H9 (_L.upd H9 D (.lst (zs++[z0]++List.replicate (aF ns-1) tv))):=.iO d9;erw[λb o e=>?_,_,_,_,bP,?_,Z]
    ·rw[aU (dH e n2.no)];erw[rE b o (mE b o e)]
    ·show aI K _ _ ((ja j rate os i++jo j rate os i).map cA)
     let eb:ja j rate os i++jo j rate os i=(ja j rate os i++[ownF j rate os i])++List.replicate (aF ns-1) (topR rate sp):=by rw[xu eo];simp
     rw[eb,jr];exact(aI.t t9 _ (mJ _) (aI.mono rE _ r5)).append (aI.t t9 _ (mJ _) (RH (Rt6.go (n7.same.trans (s8.trans n9.same))) _))
  ·rintro O H3 ⟨s3,zs,v1,v2,dz,rz,rfl⟩
   rw[lx,ll]at rz;let lz:=rz.length;rw[bB,m7 row _ (aY _)]at lz;let tl:=(uN (rate:=rate) row _ (aY _)).1;obtain⟨z0,jX⟩:∃z,y1[os.length]? =some z:=#[_,bo (show os.length<y1.length by lia)];let R0:=own _ z0 H3 (aY _) jX s3;erw[_,Z,_,Z,1,Z,.inl #[l1,_,-1,z0,Z,Z,aL.of (s3 _ _ zj),KL (by rw[Ye,Ew];erw[jX]),?_]];erw[bG Z,λl5 H4 n4=>?_];erw[D,l5,_,_,Z,Z,aL.of (n4.same _ _ dz),aL.of n4.at',by show _+1<=_;lia,λl6 H5 n5=>?_];let nl6:H l6=none:=by cases e:H l6 with |none=>rfl |some o=>have:=n4.same _ _ (s3 _ _ (s1 _ _ e));rw[n5.no]at this;cases this
   let Al:=n4.same.trans n5.same;erw[k l6 _ H5 nl6 n5.at' ?_ (s1.trans (s3.trans Al))];rw[jr];exact(aI.mono Al _ rz).append (bX (R0.go Al).rd cH)
end
section
def gb(sq:Nat->Option Rat):Nat->Option Rat |0=>none |k+1=>sq k
def cN(j rate:Int)(os:List Itm):List Rat:=ja j rate os os.length++[ownF j rate os os.length]
def XH(ti:Int)(du e:aj):Option Rat->Prop |none=>e=du/\kH e |some q=>∃zs top,du=jG zs top/\e=jQ ti zs q/\q<=top/\0<q/\Bd 1900 q/\Bd 2000 top/\zs.length<=1000
structure kZ(r f j ti rate:Int)(ds:List aj)(os:List Itm)(es:List aj)(sq:Nat->Option Rat):Prop where
 len:es.length=(cT rate ds os os.length).length
 ent:∀k e du,es[k]? =some e->(cT rate ds os os.length)[k]? =some du->XH ti du e (sq k)
 VD:sq es.length=none
 meet:∀k b,(cN j rate os)[k]? =some b->jT r f b (gb sq k) (sq k)=true
theorem Mq{ti:Int}{q:Rat}(h0:1<=ti):∀n:Nat,1<=n->eX ti q (n:Int)=true->∃T:Int,T<=n/\zp ti q T |0,h,_=>by lia |n+1,_,h=>by cases e:eX ti q (n:Int)with |false=>erw[((n+1:Nat):Int),fD _,aw,h,by rw[Int.natCast_add,Int.natCast_one,Int.add_sub_cancel];erw[e]] |true=>
 by_cases hn:1<=n
 ·let(T,h1,h2):=Mq h0 n hn e
  erw[T,aw,h2]
 ·let hn:n=0:=by lia
  subst hn;let e:=kg e;let hp:0<ti*ti*(q.den:Int):=hJ (hJ aw aw) (by have:=q.den_pos;lia);simp at e
  lia
theorem Mn(h1:1<=ti)(h2:ti<=100)(q0:0<q)(bq:Bd 2000 q):1<=nv ti q/\(nv ti q).natAbs<2^2400/\eX ti q (nv ti q)=true/\eX ti q (nv ti q-1)=false:=by
 let hn:=AW q0;let hd:=q.den_pos;let e:eX ti q ((ti.toNat*q.den:Nat):Int)=true:=by
  erw[cu ?_];let et:((ti.toNat*q.den:Nat):Int)=ti*(q.den:Int):=by rw[Int.natCast_mul,Int.toNat_of_nonneg aw]
  rw[et];let p1:0<=ti*ti*(q.den:Int):=iy (iy aw aw) aw;have:ti*(q.den:Int)*(ti*(q.den:Int))*q.num=(ti*ti*(q.den:Int))*((q.den:Int)*q.num):=by simp only[LZ,Int.mul_left_comm,zW]
  rw[this];let p2:1<=(q.den:Int)*q.num:=by
   have:0<(q.den:Int)*q.num:=hJ aw hn
   lia
  have:=LY p2 p1;rw[Int.mul_one]at this;erw[this]
 let(T,hT,tc):=Mq h1 (ti.toNat*q.den) (Nat.mul_pos aw hd) e;let eT:=DA (D9 hn) tc;rw[eT];erw[tc.1,?_,tc.2.1,tc.2.2];let b1:ti.toNat*q.den<128*2^2000:=Nat.mul_lt_mul_of_lt_of_le aw (LI bq.den) (Nat.two_pow_pos _);let b2:128*2^2000<=2^2400:=by rw[show 128=2^7 from Z,<-Nat.pow_add];erw[tP aA aA]
 have:=tc.1
 lia
theorem WS{rs:List Int}{r f j t rate:Int}{ds:List aj}{os:List Itm}(aK:gA rs r f j t)(row:cg rs.length ds os)(bO:10<=rate)(rt2:rate<=200):∀b∈cN j rate os,Bd 1900 b:=by
 let hB:=_O.AE aK.j1.1 aK.j1.2 bO rt2 row.nK;let key:∀i,i<=os.length->∀b∈ja j rate os i,Bd 1900 b:=by intro i;induction i with |zero=>intro _ b hb;exact(gk hb).elim |succ i ih=>
  intro hi b hb;rcases jL.mp hb with h1|h1
  ·erw[ih aw b h1]
  ·obtain⟨o,eo⟩:∃o,os[i]? =some o:=#[_,bo (show i<os.length by lia)]
   cases o with |none=>rw[Cr eo,gm]at h1;rw[h1];exact(hB i).mono aA |some q=>
    let(ns,sp):=q;let(bT,cR,dh):=row.ok i ns sp eo;rw[xu eo]at h1;rcases dg.mp h1 with h1|h1
    ·rw[h1];exact(hB i).mono aA
    ·rw[(List.mem_replicate.mp h1).2];exact(_O.lN cR dh bO rt2).mono aA
 intro b hb;rcases jL.mp hb with h1|h1
 ·erw[key _ (aY _) b h1]
 ·rw[gm.mp h1];exact(hB _).mono aA
end
section
theorem acZ{ls hs:List Rat}{lo hi:Rat}(l1:lo∈ls)(l2:∀l∈ls,l<=lo)(h1:hi∈hs)(h2:∀h∈hs,hi<=h):(ls.any λl=>hs.any λh=>decide (h<l))=decide (hi<lo):=by rw[qY,vo,FW];erw[λ#[l,hl,e]=>?_,λe=>#[lo,l1,vo.mpr #[hi,h1,cu e]]];let(h,hh,e):=vo.mp e;let e:=kg e;erw[Rat.not_le.mp λhle=>tL.mpr (bW (l2 l hl) (bW hle (h2 h hh))) e]
theorem RL(h:aW K H a [.int z,.int 1]):bj H (.ref a) (z:Rat):=by erw[a,Z,?_];rw[zF,zH];erw[h]
theorem WU{z:Int}(h:z.natAbs<=1000):Bd 2000 (z:Rat):=#[by rw[zF];erw[xN h (gK (by decide:1000<2^10) (tP aA aA))],by rw[zH];erw[Nat.one_lt_two_pow aA]]
def AU(e b:Option Rat)(i:Nat):Option Rat:=if i=0 then e else b
def tm(r f:Int)(i:Nat):Int:=if i=0 then f else r
def rn(r f:Int)(i:Nat):Int:=if i=0 then r else f
def kS(r f:Int)(e b:Option Rat):Nat->List Rat |0=>[0] |i+1=>kS r f e b i++(AU e b i).toList.map λq=>q+((-(tm r f i):Int):Rat)
def oM(r f:Int)(bd:Rat)(e b:Option Rat):Nat->List Rat |0=>[bd] |i+1=>oM r f bd e b i++(AU e b i).toList.map λq=>q+(rn r f i:Rat)
theorem OJ:bu ["_law_machine_here","_law_bound","_law_ahead","_law_behind","_law_low","_law_high","_law_square","_law_down","_law_up","_law_least_one"] ["_law_machine_here","_law_bound","_law_ahead","_law_behind"] (aX QB):=bD aP
theorem a4U(AA:a1v):a1k "_law_fits" 3 Nh:=by
 exists AA.aaS.has,OJ,uT λ_ _ _ _=>rfl
 ·let(m,bv,ev,gv,rs,r,f,j,t,bd,e,b,rfl,rm,aK,Rb,bb,Re,be,Rg,bg,k):=h
  let nd:=OJ.nd;erw[_,%[(rL (i:=4) (j:=5) Z nd Z Z aA Z Z %[cQ %[aB,aB|az],1|az] Z),(g9 eO Z (rO K Z (cX %[cQ %[2,px K o0 aB,px K o0 aB|az],cQ %[3,px K o0 aB,px K o0 aB|az]|az])) (cW K Z (n:=3) Z %[aZ 6 nd,aZ 7 nd,aZ 8 nd|cU]) (aG (bw (bL nJ W1 fQ (bf _)) %[(pS 9 nd (pf (yt AA) hr %[6,cQ %[nI nu a1b,aB|az]|az])),je (bw (cf (pf (Ej AA) hr %[4,9|az])) (aG (pS 4 nd a1j)) bC),(pS 5 nd (pf (yu AA) hr %[(cX %[5,(pf (yt AA) hr %[6,cQ %[8,aB|az]|az])|az])|az]))|aG] bC))),aR (vN (pf (Ej AA) hr %[5,4|az]))|aG],?_];let(ma,mb,rfl,fS,lU):=mM rm;let kr:=aK.r1;let j8:=aK.f1;erw[bG Z,λl0 H1 n1=>?_];erw[_,Z,_,_,Z,?_];let R0:bj H1 (.ref l0) 0:=#[l0,Z,aW.of n1.at'];let b0:Bd 1950 (0:Rat):=#[aA,aA];erw[_,Z,_,Z,.inr #[ma,_,2,.int f,Z,Z,fS.go n1.same,Z,_,Z,.inr #[ma,_,1,.int r,Z,Z,fS.go n1.same,Z,?_]]];erw[bG Z,λt0 H2 n2=>?_];let s2:=n1.same.trans n2.same;erw[_,Z,_,Z,.inr #[ma,_,1,.int r,Z,Z,fS.go s2,Z,_,Z,.inr #[ma,_,2,.int f,Z,Z,fS.go s2,Z,?_]]];erw[bG Z,λt1 H3 n3=>?_];let s3:=s2.trans n3.same;erw[bG Z,λll H4 n4=>?_];let s4:=s3.trans n4.same;let T0:H4 t0=some (.tup [ev,.int f,.int r]):=n4.same _ _ (n3.same _ _ n2.at');let T1:H4 t1=some (.tup [gv,.int r,.int f]):=n4.same _ _ n3.at';let dI:∀i x,([.ref t0,.ref t1]:List V)[i]? =some x->i<2/\∃ta sv,x= .ref ta/\H4 ta=some (.tup [sv,.int (tm r f i),.int (rn r f i)])/\lg H4 sv (AU e b i)/\zu 1900 (AU e b i):=by
   intro i x ex
   match i,ex with |0,ex=>cases ex;erw[aA,t0,ev,rfl,T0,Re.go s4,be] |1,ex=>cases ex;erw[aA,t1,gv,rfl,T1,Rg.go s4,bg]
  let du:∀i,1<=tm r f i/\tm r f i<=50/\1<=rn r f i/\rn r f i<=50:=λi=>by unfold tm rn;split<;>lia
  erw[ll,Z,#[_,aL.of n4.at'],BN (K:=K) (a:=ll) (xs:=[.ref t0,.ref t1]) (λi O H5=>aH H4 H5/\∃lv hv v6 v7 v8 v9 lo hi,bj H5 lv lo/\bj H5 hv hi/\Bd 1950 lo/\Bd 1950 hi/\lo∈kS r f e b i/\(∀l∈kS r f e b i,l<=lo)/\hi∈oM r f bd e b i/\(∀h∈oM r f bd e b i,hi<=h)/\O=[some (.ref ma),some bv,some ev,some gv,some lv,some hv,v6,v7,v8,v9]) ?_ (λi O H5 _ h=>aL.of (h.1 _ _ n4.at')) ?_ ?_]
  ·erw[aH.refl _,.ref l0,bv,none,none,none,none,0,bd,R0.go (n2.same.trans (n3.same.trans n4.same)),Rb.go s4,b0,bb.mono aA,by simp[kS],λl hl=>?_,by simp[oM],λh hh=>?_,Z]
   ·have:l=0:=by simpa[kS]using hl
    rw[this];erw[fu]
   ·have:h=bd:=by simpa[oM]using hh
    rw[this];erw[fu]
  ·rintro i x O H5 ex ⟨s5,lv,hv,v6,v7,v8,v9,lo,hi,Rl,Rh,bl,bh,m1,m2,m3,m4,rfl⟩
   erw[gh ?_];intro E1;let(sL,ta,sv,rfl,hT,oV,oB):=dI i x ex;let(d1,d2,u1,u2):=du i;erw[ta,_,Z,aW.of (s5 _ _ hT),Z,_,_,Z,_,_,Z,_,_,Z,Z,?_];erw[_,Z,Z,_,Z,?_];cases ho:AU e b i with
   |none=>
    rw[ho]at oV;let ev0:sv= .bM:=oV;subst ev0;erw[ba #[s5,lv,hv,_,_,_,_,lo,hi,Rl,Rh,bl,bh,?_,λl hl=>m2 l ?_,?_,λh hh=>m4 h ?_,Z]]
    ·simpa[kS,ho]using m1
    ·simpa[kS,ho]using hl
    ·simpa[oM,ho]using m3
    ·simpa[oM,ho]using hh |some q=>
    rw[ho]at oV oB;let oV:bj H4 sv q:=oV;let oB:Bd 1900 q:=oB;let(sa,e0,_):=id oV;subst e0;erw[bA ?_];erw[_,Z,_,Z,_,Z,bG Z,λp1 H6 n6=>?_];let DQ:=s5.trans n6.same;erw[.ref sa,.ref p1,q,_,Z,oV.go DQ,RL (aW.of n6.at'),oB.mono aA,WU aw,λv1 H7 R7 s7=>?_];let WG:Bd 1950 (q+((-(tm r f i):Int):Rat)):=(jH oB (by rw[kv];lia)).mono aA;let oy:=n6.same.trans s7;erw[λO H8=>aH H7 H8/\∃Bc wg,bj H8 Bc wg/\Bd 1950 wg/\wg∈kS r f e b (i+1)/\(∀l∈kS r f e b (i+1),l<=wg)/\O=[some (.ref ma),some bv,some ev,some gv,some Bc,some hv,some (.ref sa),some (.int (tm r f i)),some (.int (rn r f i)),some v1],?_,?_]
    ·erw[jZ ?_];intro E2
     erw[_,Z,_,Z,lv,v1,lo,_,Z,Rl.go oy,R7,bl.mono aA,WG.mono aA,_,Z,?_];let mem:∀l,l∈kS r f e b (i+1)↔l∈kS r f e b i\/l=q+((-(tm r f i):Int):Rat):=λl=>by simp[kS,ho]
     by_cases bK:lo<q+((-(tm r f i):Int):Rat)
     ·rw[cu bK]
      erw[bA #[_,Z,aH.refl _,v1,_,R7,WG,(mem _).mpr (.inr Z),λl hl=>?_,Z]];rcases(mem l).mp hl with h|h
      ·erw[bW (m2 l h) (CP bK)]
      ·rw[h];erw[fu]
     ·rw[dP bK]
      erw[ba #[aH.refl _,lv,lo,Rl.go oy,bl,(mem _).mpr (.inl m1),λl hl=>?_,Z]];rcases(mem l).mp hl with h|h
      ·erw[m2 l h]
      ·rw[h];erw[tL.mp bK]
    rintro O H8 ⟨s8,Bc,wg,Xj,WI,Iq,TF,rfl⟩;let s58:=oy.trans s8;erw[_,Z,_,Z,_,Z,bG Z,λp2 H9 n9=>?_];let rE:=s58.trans n9.same;erw[.ref sa,.ref p2,q,_,Z,oV.go (s5.trans rE),RL (aW.of n9.at'),oB.mono aA,WU aw,λv2 gB R10 kP=>?_];let WE:Bd 1950 (q+(rn r f i:Rat)):=(jH oB (by rw[kv];lia)).mono aA;erw[bG Z,λlq jc kA=>?_];let GY:=rE.trans (kP.trans kA.same);let Ra:=Rh.go GY;let Rc:=R10.go kA.same;erw[lq,[hv,v2],[hi,q+(rn r f i:Rat)],Z,aL.of kA.at',#[Ra,bh.mono aA,Rc,WE.mono aA,trivial],by simp,λc v q' e1 e2 hq=>?_];let mem:∀l,l∈oM r f bd e b (i+1)↔l∈oM r f bd e b i\/l=q+(rn r f i:Rat):=λl=>by simp[oM,ho]
    let UC:∀h∈oM r f bd e b (i+1),q'<=h:=λh hh=>by
     rcases(mem h).mp hh with h1|h1
     ·erw[bW (hq hi (by simp)) (m4 h h1)]
     ·rw[h1];erw[hq _ (by simp)]
    let QR:=n9.same.trans (kP.trans kA.same)
    match c,e1,e2 with |0,e1,e2=>cases e1;cases e2;erw[s5.trans GY,Bc,hv,_,_,_,_,wg,hi,Xj.go QR,Ra,WI,bh,Iq,TF,(mem _).mpr (.inl m3),UC,rfl] |1,e1,e2=>cases e1;cases e2;erw[s5.trans GY,Bc,v2,_,_,_,_,wg,_,Xj.go QR,Rc,WI,WE,Iq,TF,(mem _).mpr (.inr rfl),UC,rfl]
  ·rintro O H5 ⟨s5,lv,hv,v6,v7,v8,v9,lo,hi,Rl,Rh,bl,bh,m1,m2,m3,m4,rfl⟩
   erw[_,Z,_,Z,hv,lv,hi,lo,Z,Rh,Rl,bh.mono aA,bl.mono aA,_,Z,?_];let e1:=acZ (ls:=uz r f e b) (hs:=uH r f bd e b) m1 m2 m3 m4;have:=k H5 (s4.trans s5);unfold jT at this;rw[e1]at this;erw[this]
end
section
def rF(zs:List Int):aj:=.tuple (zs.map PyData.int)
def dX(os:List Itm)(i:Nat):List aj:=match os[i]? with |some (some (ns,_))=>(List.range (aF ns)).map λk=>.tuple [.int i,rF (eH ns k)] |_=>[.tuple [.int i,.none]]
def cB(os:List Itm):Nat->List aj |0=>[] |i+1=>cB os i++dX os i
theorem lZ{os:List Itm}{i:Nat}{ns:List Int}{sp:Int}(h:os[i]? =some (some (ns,sp))):dX os i=(List.range (aF ns)).map λk=>.tuple [.int i,rF (eH ns k)]:=by unfold dX;rw[h]
theorem o9{os:List Itm}{i:Nat}(h:os[i]? =some none):dX os i=[.tuple [.int i,.none]]:=by unfold dX;rw[h]
theorem a23(zs:List Int):dG (rF zs)=true:=by
 have:bS (zs.map PyData.int)=true:=cj.mpr λd hd=>by let(i,_,rfl):=gC.mp hd;rfl
 simp[rF,dG,this]
theorem W5(os:List Itm)(i:Nat):bS (dX os i)=true:=by
 unfold dX;split
 ·erw[cj.mpr λd hd=>by let(k,_,rfl):=gC.mp hd;simp[dG,bS,a23]]
 ·simp[dG,bS]
theorem W6(os:List Itm):∀i,bS (cB os i)=true
 |0=>rfl |i+1=>cj.mpr λd hd=>by
  rcases jL.mp hd with h|h
  ·erw[cj.mp (W6 os i) d h]
  ·erw[cj.mp (W5 os i) d h]
theorem qI{n:Nat}{rate:Int}{ds:List aj}{os:List Itm}(row:cg n ds os):∀i,i<=os.length->(cB os i).length=(cT rate ds os i).length |0,_=>rfl |i+1,h=>by let ll:=row.len;show(cB os i++dX os i).length=(cT rate ds os i++gR rate ds os i).length;rw[cy,cy,qI row i aw];obtain⟨o,eo⟩:∃o,os[i]? =some o:=#[_,bo (show i<os.length by lia)];cases o with |none=>obtain⟨d',ed⟩:∃d',ds[i]? =some d':=#[_,bo (show i<ds.length by lia)];rw[qH eo ed,o9 eo];rfl |some q=>let(ns,sp):=q;rw[o8 eo,lZ eo,bB,bB]
inductive a0U|mk iv n ds os(_:vs=[iv])(_:RD K H iv (.tuple ds))(_:cg n ds os)(_:n<=3)(_:ds.length<=30)(_:∀l ys H',H l=none->H' l=some (.lst ys)->aI K H' ys (cB os os.length)->aH H H'->Q (.ref l) H')
theorem OP:bu ["_law_items_here","_law_found","_law_number_here","_law_item"] ["_law_items_here"] (aX QG):=bD aP
theorem a4Z(AA:a1v):a1k "_law_due_entries" 4 a0U:=by
 exists AA.aaU.has,OP,fo λ_=>rfl
 ·let(iv,n,ds,os,rfl,ri,row,n3,hz,k):=h
  let nd:=OP.nd;erw[_,%[pS 1 nd (cX az),(g9 eO Z (AB K Z false Z (AA.B.at "enumerate") %[0|az]) (cW K rfl (n:=2) rfl %[aZ 2 nd,aZ 3 nd|cU]) (aG (bw (bL (cJ K Z hr.units) (px K L2 aB) eU (bf _)) (aG (eJ (yj K Z u8 %[gO (N:=["_law_row","_law_number_here"]) (js:=[none,some 2]) Z Z Z (rO K Z (pf (Sr AA) hr %[3|az])) (λ_ _ _ _ _=>(aZ 0 (gu aA))) (λ_ _ _ _ _=>fP) (λ_ _ _ _ _=>(cQ %[1,0|az]))|az]))) (aG (eJ (iQ K Z u8 %[cQ %[2,fQ|az]|az])))))),aR u8|aG],?_];let ll:=row.len;let lW:sizeLine=16777216:=by decide
  erw[bG Z,λD H2 n2=>?_];let nD:=n2.no;let(ia,xs,rfl,hi,dI):=ri.cF;let lx:=dI.length;erw[_,Z,ia,Z,#[_,hi.go n2.same],BO (K:=K) (b:=false) (a:=ia) (xs:=xs) (λi O H3=>aH H H3/\∃zs v1 v2,H3 D=some (.lst zs)/\aI K H3 zs (cB os i)/\O=[some (.ref ia),some (.ref D),v1,v2]) #[n2.same,[],none,none,n2.at',cH,Z] (λi O H3 _ h=>hi.go h.1) ?_ ?_]
  ·rintro i y O H3 hy ⟨s3,zs,v1,v2,dz,rz,rfl⟩ T H4 n4
   erw[gh ?_];intro E1;let Bw:i<xs.length:=(cm.mp hy).1;let(d,ed,rd):=dI.get' i hy;let(o,eo,it):=row.get ed;let s4:=s3.trans n4.same;let ui:=RD.mono s4 _ rd;let jF:=n4.same _ _ dz;let vI:=aI.mono n4.same _ rz;let tl:=(uN (rate:=100) row i aw).1;let tn:=W6 os i;let lz:=rz.length;rw[qI (rate:=100) row i aw]at lz;let(a,wd,yw,rfl,h1,ew,sw):=wq ui it;erw[T,_,Z,aW.of n4.at',Z,_,_,Z,_,_,Z,Z,?_];erw[_,Z,.inr #[a,_,0,.str wd,Z,Z,h1,cI (fD 0) Z,.inr #[_,_,cL _,cL _,sw,wk,_,Z,?_]]];rw[ew];cases o with
   |none=>
    erw[ba ?_];erw[_,Z,.inl #[Z,_,aL.of jF],?_];erw[_,Z,bG Z,λt H5 n5=>?_];let zh:=n5.same _ _ jF;erw[D,zs,_,Z,Z,zh,aw,?_];erw[λb o e=>?_,_,_,_,bP,?_,Z]
    ·rw[aU (dH e nD)];erw[n5.same b o (s4 b o e)]
    ·show aI K _ _ (cB os i++dX os i)
     rw[o9 eo];erw[aI.vD zh (aI.mono n5.same _ vI) (fJ (aW.of n5.at') %[dF _,Au|cH]) tn (by simp[dG,bS])] |some q=>
    let(ns,sp):=q;erw[bA ?_];let ij:=jC it;subst ij;let(bT,cR,dh):=row.ok i ns sp eo;let mQ:=mO bT;erw[_,Z,.inl #[Z,_,aL.of jF],?_];erw[_,Z,_,ns,sp,Z,ui,#[Z,bT.bd,bT.nz],by rw[bT.len];lia,λl3 y3 H6 AZ p7 ud s6=>?_];let we:=ud.length;rw[iY,bB,iu]at we;erw[l3,Z,#[_,aL.of p7],λD2 H7 n7=>?_];let nE:=W5 os i;let lE:(dX os i).length=aF ns:=by rw[lZ eo,bB,iu]
    erw[Ws (K:=K) (ds:=dX os i) _ (aL.of p7) n7 (by rw[lE,we]) aw nE ?_ ?_]
    ·intro q x dd H8 Q' ex C5 s8 hq
     let nR:q<aF ns:=by have:=(cm.mp ex).1;lia
     let(d3,e3,r3):=ud.get' q ex;rw[iY,bV,jN nR]at e3;cases e3;rw[lZ eo,bV,jN nR]at C5;cases C5;erw[_,Z,_,Z,bG Z,λt H9 n9=>?_];erw[hq _ _ n9.same (fJ (aW.of n9.at') %[dF _,RD.mono (s8.trans n9.same) _ r3|cH])]
    ·intro H8 z8 s8 d8 r8
     let kO:=s6.trans s8;let wY:=kO _ _ jF;let l8:=r8.length;erw[D,D2,zs,z8,Z,Z,wY,d8,aw,?_];let tu:eZ H8 (_L.upd H8 D (.lst (zs++z8))):=.iO wY;erw[λb o e=>?_,_,_,_,bP,?_,Z]
     ·rw[aU (dH e nD)];erw[kO b o (s4 b o e)]
     ·exact(aI.t tu _ tn (aI.mono kO _ vI)).append (aI.t tu _ nE r8)
  ·rintro O H3 ⟨s3,zs,v1,v2,dz,rz,rfl⟩
   rw[lx,ll]at rz;erw[_,Z,k D zs H3 nD dz rz s3]
inductive a0Q|mk v r(_:vs=[v])(_:bj H v r)(_:Bd 2000 r)(_:∀H',aH H H'->Q (.bl true) H')
theorem OD:bu ["_law_thing"] ["_law_thing"] (aX Qw):=bD aP
theorem a4S(AA:a1v):a1k "_law_is_fraction" 2 a0Q:=by
 exists AA.aaP.has,OD,fo λ_=>rfl
 ·let(v,r,rfl,Rr,br,k):=h
  let nd:=OD.nd;erw[_,%[(bw (PW.pt (hZ (dj (cf (cV K AA.B %[0,cK (x:="tuple") (v:=.ty "tuple") Z (AA.B.at "tuple") fN rfl|az]))) (hZ (bL (iH K rfl hr.units) (cY K AA.B %[0|az]) aB (bf _)) (ku (dj (cf (eK (x:="all") (tE K rfl rfl) rfl (AA.B.at "all") vj %[gO (N:=["_law_one"]) (js:=[none]) rfl rfl rfl (oF K rfl o0) (λ_ _ _ _ _=>(aZ 0 (uw _))) (λ_ _ _ _ _=>fP) (λ_ _ _ _ _=>(pf (HV AA) hr %[0|az]))|az]))))))) (aG (aR j4)) bC),aR (gP (eV mH (px K o0 aB) aB (bf _)) (gN (eV (cJ K Z hr.units) (pf (El AA) hr %[px K o0 aB,px K o0 aB|az]) o0 (bf _))))|aG],?_];let(a,rfl,h1):=id Rr;let hd:=r.den_pos;erw[_,Z,.inl #[_,_,"tuple",true,Z,Rr.rd.ty,aA,pG,_,Z,ba ?_]];erw[_,Z,a,_,Z,.inr h1,.inl #[_,_,Z,Z,_,Z,ba ?_]];erw[_,Z,a,Z,#[_,h1],λD H2 n2=>?_];erw[Fj (xs:=[.int r.num,.int r.den]) (bs:=[true,true]) [] h1 n2 Z (by simp) ?_ ?_]
  ·intro i x y H3 Q' ex ey s3 hq
   obtain⟨z,rfl⟩:∃z,x= .int z:=by match i,ex with |0,ex=>cases ex;erw[_,rfl] |1,ex=>cases ex;erw[_,rfl]
   let JU:y=true:=by match i,ey with |0,ey=>cases ey;rfl |1,ey=>cases ey;rfl
   subst JU;erw[_,Z,_,_,Z,(dF (K:=K) (H:=H3) z).ty,?_];rw[show j6 (kn (.int z))=true from(by decide:j6 "int"=true)];erw[hq _ (aH.refl _)]
  intro H3 s3 d3;erw[D,_,Z,aL.of d3,_,Z,ba ?_];erw[_,Z,.inr #[a,_,1,_,Z,Z,h1.go s3,Z,_,_,Z,Z,_,Z,?_]];rw[cu (show(0:Int)<(r.den:Int) by lia)];erw[bA ?_];erw[_,Z,.inr #[a,_,0,_,Z,Z,h1.go s3,Z,?_]];erw[_,Z,.inr #[a,_,1,_,Z,Z,h1.go s3,Z,?_]];erw[_,_,Z,aw,br.wd,λv H4 R4 s4=>?_];rw[vf]at R4;erw[_,Z,.inr #[_,_,R4.rd,(Rr.go (s3.trans s4)).rd,RM _,RM _,?_]];rw[Vx rfl];erw[k H4 (s3.trans s4)]
abbrev A1:aj->Prop:=Nx λ_=>False
abbrev A3:aj->Prop:=Nx (Nx A1)
theorem EE(h:SeqAt.shaped (.str z)=true):Xx (.str z):=.inr #[z,Z,h,by simp[PyData.eqv]]
theorem a3T(h:kH d):A3 d:=by
 rcases h with⟨n,rfl,_,_⟩|⟨wd,z,rfl,hw,ok,_⟩
 ·erw[.inr #[_,.inl Z,by simp,λx hx=>.inl ?_]]
  simp only[dg,gk,jJ]at hx;rcases hx with rfl|rfl
  ·erw[EE aP]
  ·erw[.inl #[_,Z]]
 ·erw[.inr #[_,.inl Z,by simp,λx hx=>.inl ?_]]
  simp only[dg,gk,jJ]at hx;rcases hx with rfl|rfl
  ·rcases hw with rfl|rfl<;>erw[EE aP]
  ·erw[EE (ok.shaped aA)]
theorem a22(h:zs.length<=1000):A3 (.tuple [.str "step",rF zs]):=by
 erw[.inr #[_,.inl Z,by simp,λx hx=>?_]];simp only[dg,gk,jJ]at hx;rcases hx with rfl|rfl
 ·erw[.inl (EE aP)]
 ·erw[.inr #[_,.inl Z,by rw[bB];lia,λx hx=>.inl ?_]]
  let(i,_,rfl):=gC.mp hx;erw[.inl #[_,Z]]
inductive Ng|mk m iv rv rate ev rs r f j ti(_:vs=[m,iv,rv,.int rate,ev])(_:RD K H m (fy rs r f j ti))(_:gA rs r f j ti)(_:((rv= .bM/\∃d,RD K H iv d/\RD K H ev d/\kH d/\∀H',aH H H'->Q (.int 0) H')\/ ∃ns sp zs q,RD K H iv (iR ns sp)/\1<=sp/\sp<=20/\10<=rate/\rate<=200/\RD K H rv (rF zs)/\RD K H ev (jQ ti zs q)/\zs.length<=1000/\Bd 2000 q/\0<q/\∀H',aH H H'->Q (.int (if topR rate sp<q then 3 else 0)) H'))
theorem OO:bu ["_law_machine_here","_law_item","_law_row","_law_rate","_law_entry","_law_t","_law_square"] ["_law_machine_here","_law_item","_law_row","_law_rate","_law_entry"] (aX QF):=bD aP
theorem a4Y(AA:a1v)(wJ:a1k "_law_alike" 4 (Ae A3 K)):a1k "_law_entry_fault" 5 Ng:=by
 exists AA.aaT.has,OO,Cu λ_ _ _ _ _=>rfl
 ·let(m,iv,rv,rate,ev,rs,r,f,j,ti,rfl,rm,aK,hc):=h
  let nd:=OO.nd;erw[_,%[(bw (bL a40 w4 fQ (bf _)) (aG (aR (iE (x:="int") zk Z (AA.B.at "int") vi %[vN (pf wJ hr %[4,1|az])|az]))) bC),(bw (PW.pt (hZ (dj (cf (cV K AA.B %[4,cK (x:="tuple") (v:=.ty "tuple") Z (AA.B.at "tuple") fN rfl|az]))) (hZ (bL (iH K rfl hr.units) (cY K AA.B %[4|az]) aB (bf _)) (ku (dj (cf (pf wJ hr %[vM (vE K rfl) M2 yh (uo aB),cQ %[eU,2|az]|az]))))))) (aG (aR aB)) bC),fe (vM (vE K Z) M2 (uo aB) yh) (cW K Z (n:=2) Z %[aZ 5 nd,aZ 6 nd|cU]),bw (PW.pt (hZ (dj (cf (pf (HV AA) hr %[5|az]))) (hZ (dj (cf (pf (a4S AA) hr %[6|az]))) (hZ (bL ky (px K W1 aB) aB (bf _)) (ku (bL (iH K Z hr.units) P3 (pf (So AA) hr %[0,6|az]) (bf _))))))) (aG (aR aB)) bC,(aR (aO bR aB (iE (x:="int") zk Z (AA.B.at "int") vi %[(pf (Ej AA) hr %[pf (AO AA) hr %[1,3|az],6|az])|az])))|aG],?_];rcases hc with⟨rfl,d,ri,re,dQ,k⟩|⟨ns,sp,zs,q,ri,cR,dh,bO,rt2,rr,re,lz,bq,q0,k⟩
  ·erw[_,Z,Z,_,Z,bA ?_]
   erw[_,Z,_,Z,ev,iv,d,Z,re,ri,a3T dQ,λH1 s1=>?_];erw[_,Z,.inr #[_,Z,k H1 s1]]
  ·let(a,b,c,rfl,h1,h2,h3):=A9 re
   let(ra,rxs,rfl,Br,_):=id rr.cF;let(t1,t2,t3,t4):=Mn (ti:=ti) aK.t1.1 aK.t1.2 q0 bq;erw[_,Z,Z,_,Z,ba ?_];erw[_,Z,.inl #[_,_,"tuple",true,Z,re.ty,aA,pG,_,Z,ba ?_]];erw[_,Z,a,_,Z,.inr h1,.inl #[_,_,Z,Z,_,Z,ba ?_]];erw[_,Z,_,Z,a,_,Z,.inr #[h1,(by show¬(_H.cn 4 0 none=0/\_H.cn 4 4 (some 2)=4);decide),λp H1 n1=>?_]];let n1:Nw H H1 p (.tup [.str "step",.ref b]):=n1;erw[_,Z,bG Z,λp2 H2 n2=>?_];let s2:=n1.same.trans n2.same;erw[.ref p,.ref p2,.tuple [.str "step",rF zs],Z,fJ (aW.of (n2.same _ _ n1.at')) %[cL _,fJ (h2.go s2) (ug zs)|cH],fJ (aW.of n2.at') %[cL _,RD.mono s2 _ rr|cH],a22 lz,λH3 s3=>#[_,Z,ba ?_]];let nG:=s2.trans s3;erw[_,Z,_,Z,a,_,Z,.inr #[h1.go nG,(by show¬(_H.cn 4 0 (some 2)=0/\_H.cn 4 4 none=4);decide),λp3 H4 n4=>?_]];let n4:Nw H3 H4 p3 (.tup [.int (nv ti q),c]):=n4;let gq:=nG.trans n4.same;erw[p3,_,Z,aW.of n4.at',Z,_,_,Z,_,_,Z,Z,?_];erw[_,Z,_,_,Z,(dF (K:=K) (H:=H4) (nv ti q)).ty,_,Z,?_];rw[show j6 (kn (.int (nv ti q)))=true from(by decide:j6 "int"=true)];erw[ba ?_];let UZ:=h3.go gq;erw[_,Z,c,q,Z,UZ,bq,λH5 s5=>#[_,Z,ba ?_]];let(ca,rfl,hc):=id (UZ.go s5);erw[_,Z,.inr #[ca,_,0,_,Z,Z,hc,Z,_,_,Z,Z,_,Z,?_]];let qn:=AW q0;rw[dP (show¬q.num<1 by lia)];erw[ba ?_];let ko:=gq.trans s5;erw[_,Z,_,Z,_,Z,m,.ref ca,rs,r,f,j,ti,q,Z,RD.mono ko _ rm,#[ca,Z,hc],bq,aK.t1.1,aK.t1.2,qn,λT T1 T2 T3 T4 H6 s6=>?_];let eT:=DA (D9 qn) #[T1,T3,T4];erw[.inl #[_,_,Z,Z,_,Z,?_]];rw[cu eT];erw[ba ?_];let lP:=ko.trans s6;erw[_,Z,_,Z,iv,ns,sp,rate,Z,RD.mono lP _ ri,cR,dh,bO,rt2,λtv H7 R7 s7=>?_];erw[_,Z,tv,.ref ca,topR rate sp,q,Z,R7,bj.go #[ca,Z,hc] (s6.trans s7),(_O.lN cR dh bO rt2).mono aA,bq,.inr #[_,Z,?_]];erw[_,_,Z,Z,.of_left (cw aA aA),?_];let k:=k H7 (lP.trans s7);by_cases bK:topR rate sp<q
   ·rw[aQ bK]at k
    rw[cu bK];erw[k]
   ·rw[aV bK]at k
    rw[dP bK];erw[k]
end
section
theorem Kl{n:Nat}{ds:List aj}{os:List Itm}(row:cg n ds os){i:Nat}(hi:i<os.length):1<=(dX os i).length:=by obtain⟨o,eo⟩:∃o,os[i]? =some o:=#[_,bo hi];cases o with |none=>rw[o9 eo];erw[aY _] |some q=>let(ns,sp):=q;let(bT,_,_):=row.ok i ns sp eo;have:=bT.lead;rw[lZ eo,bB,iu];lia
theorem Cb(os:List Itm){i k:Nat}(h:i<=k):(cB os i).length<=(cB os k).length:=by induction h with |refl=>erw[aY _] |step _ ih=>erw[gY ih ?_];show _<=(cB os _++dX os _).length;rw[cy];lia
theorem VW{n0:Nat}{j rate:Int}{ds:List aj}{os:List Itm}(row:cg n0 ds os):∀n,n<=os.length->∀k,k<(cB os n).length->∃i c,i<n/\k=(cB os i).length+c/\c<(dX os i).length/\(cB os n)[k]? =(dX os i)[c]? /\(cT rate ds os n)[k]? =(gR rate ds os i)[c]? /\(ja j rate os n)[k]? =(jo j rate os i)[c]?
 |0,_,k,h=>by simp[cB]at h |n+1,hn,k,h=>by
  let l1:=qI (rate:=rate) row n aw;let l2:=m7 (j:=j) (rate:=rate) row n aw;by_cases hk:k<(cB os n).length
  ·let(i,c,a1,a2,a3,a4,a5,a6):=VW (j:=j) (rate:=rate) row n aw k hk
   erw[i,c,aw,a2,a3,?_,?_,?_]
   ·rw[<-a4];erw[mq hk]
   ·rw[<-a5];erw[mq aw]
   ·rw[<-a6];erw[mq aw]
  ·let h':k<(cB os n++dX os n).length:=h
   rw[cy]at h';erw[n,k-(cB os n).length,aw,aw,aw,?_,?_,?_]
   ·erw[nj aw]
   ·rw[l1];erw[nj aw]
   ·rw[l1,<-l2];erw[nj aw]
structure At(j rate:Int)(ds:List aj)(os:List Itm)(k i c:Nat):Prop where
 hi:i<os.length
 ek:k=(cB os i).length+c
 hc:c<(dX os i).length
 dl:(cB os os.length)[k]? =(dX os i)[c]?
 du:(cT rate ds os os.length)[k]? =(gR rate ds os i)[c]?
 bd:(cN j rate os)[k]? =(jo j rate os i)[c]?
theorem xy{n0:Nat}{j rate:Int}{ds:List aj}{os:List Itm}(row:cg n0 ds os){k:Nat}(h:k<(cB os os.length).length):∃i c,At j rate ds os k i c:=by let(i,c,a1,a2,a3,a4,a5,a6):=VW (j:=j) (rate:=rate) row _ (aY _) k h;erw[i,c,a1,a2,a3,a4,a5,?_];rw[<-a6];erw[mq ?_];rw[m7 (ds:=ds) row _ (aY _),<-qI row _ (aY _)];erw[h]
theorem At.num{j rate:Int}{ds:List aj}{os:List Itm}{k i c:Nat}(h:At j rate ds os k i c):∃rd,(cB os os.length)[k]? =some (.tuple [.int i,rd]):=by obtain⟨o,eo⟩:∃o,os[i]? =some o:=#[_,bo h.hi];let hc:=h.hc;rw[h.dl];cases o with
 |none=>
  rw[o9 eo]at hc⊢;have:c=0:=by simpa using hc
  subst this;erw[_,Z] |some q=>let(ns,sp):=q;rw[lZ eo]at hc⊢;rw[bB,iu]at hc;rw[bV,jN hc];erw[_,Z]
theorem At.prev{n0:Nat}{j rate:Int}{ds:List aj}{os:List Itm}(row:cg n0 ds os){k i c i' c':Nat}(h:At j rate ds os (k+1) i c)(g:At j rate ds os k i' c'):(i'=i/\0<c)\/(i'+1=i/\c=0):=by
 let e1:=h.ek;let e2:=g.ek;let b1:=h.hc;let b2:=g.hc;let step:∀x,(cB os (x+1)).length=(cB os x).length+(dX os x).length:=λx=>by show(cB os x++dX os x).length=_;rw[cy]
 rcases Nat.lt_trichotomy i' i with bK|heq|UK
 ·by_cases hs:i'+1=i
  ·subst hs
   rw[step]at e1;erw[.inr #[Z,aw]]
  ·let m1:=Cb os (show i'+2<=i by lia)
   let s1:=step i';let s2:=step (i'+1);let ne:=Kl row (show i'+1<os.length by have:=h.hi;lia);rw[show i'+2=i'+1+1 from Z,s2,s1]at m1
   lia
 ·subst heq
  erw[.inl #[Z,aw]]
 ·let m1:=Cb os (show i+1<=i' by lia)
  rw[step]at m1
  lia
end
section
theorem Ec(j rate:Int)(os:List Itm):ownF j rate os os.length=0:=by cases h:os.length with |zero=>rfl |succ n=>show betR j rate (atO os n) (atO os (n+1))=0;rw[_O.KN (i:=n+1) aw,_O.tx]
theorem a3L{j rate:Int}{os:List Itm}{i:Nat}(h:os[i]? =some none):ownF j rate os (i+1)=0:=by show betR j rate (atO os i) (atO os (i+1))=0;rw[_O.m8 h];rfl
theorem xx{j rate:Int}{os:List Itm}{i:Nat}(hi:i<os.length):(jo j rate os i)[0]? =some (ownF j rate os i):=by obtain⟨o,eo⟩:∃o,os[i]? =some o:=#[_,bo hi];cases o with |none=>rw[Cr eo];rfl |some q=>let(ns,sp):=q;rw[xu eo];rfl
theorem KD{j rate:Int}{os:List Itm}{i c:Nat}{ns:List Int}{sp:Int}(eo:os[i]? =some (some (ns,sp)))(h0:0<c)(hc:c<aF ns):(jo j rate os i)[c]? =some (topR rate sp):=by rw[xu eo];obtain⟨c',rfl⟩:∃c',c=c'+1:=#[c-1,aw];rw[List.getElem?_cons_succ,LU,aQ aw]
theorem VX{top:Rat}(h:kH d):d≠jG zs top:=λe=>by rcases h with⟨n,rfl,_,_⟩|⟨wd,z,rfl,_⟩<;>simp[jG]at e
theorem Ul{top:Rat}(h:itR d none):d≠jG zs top:=λe=>by
 rcases h with⟨ns,sp,_,h⟩|⟨wd,x,rfl,_,_,_⟩
 ·cases h
 ·simp[jG]at e
theorem kZ.kind{n0:Nat}{r f j ti rate:Int}{ds:List aj}{os:List Itm}{es:List aj}(tp:kZ r f j ti rate ds os es sq)(row:cg n0 ds os){k i c:Nat}(a:At j rate ds os k i c){e:aj}(ee:es[k]? =some e): (os[i]? =some none/\c=0/\(cB os os.length)[k]? =some (.tuple [.int i,.none])/\sq k=none/\ds[i]? =some e/\kH e)\/ ∃ns sp q,os[i]? =some (some (ns,sp))/\c<aF ns/\(cB os os.length)[k]? =some (.tuple [.int i,rF (eH ns c)])/\sq k=some q/\e=jQ ti (eH ns c) q/\q<=topR rate sp/\0<q/\Bd 1900 q:=by let ll:=row.len;obtain⟨o,eo⟩:∃o,os[i]? =some o:=#[_,bo a.hi];let hc:=a.hc;cases o with
 |none=>
  obtain⟨d',ed⟩:∃d',ds[i]? =some d':=#[_,bo (show i<ds.length by have:=a.hi;lia)];rw[o9 eo]at hc;let h0:c=0:=by simpa using hc
  subst h0;let e1:=a.dl;rw[o9 eo]at e1;let e2:=a.du;rw[qH eo ed]at e2;let en:=tp.ent k e d' ee e2;cases hs:sq k with |none=>rw[hs]at en;let(rfl,dQ):=en;erw[.inl #[eo,Z,e1,Z,ed,dQ]] |some q=>rw[hs]at en;let(zs,top,h,_):=en;exact(Ul (row.it i d' none ed eo) h).elim
 |some p=>let(ns,sp):=p;rw[lZ eo,bB,iu]at hc;let e1:=a.dl;rw[lZ eo,bV,jN hc]at e1;let e2:=a.du;rw[o8 eo,bV,jN hc]at e2;let en:=tp.ent k e _ ee e2;cases hs:sq k with |none=>rw[hs]at en;let(rfl,dQ):=en;exact(VX dQ rfl).elim |some q=>
  rw[hs]at en;let(zs,top,h,rfl,qt,q0,bq,_,_):=en;let hz:zs=eH ns c/\top=topR rate sp:=by
   simp only[jG,PyData.tuple.injEq,List.cons.injEq,true_and,and_true,cA]at h;let(h1,h2,h3):=h;erw[?_,?_]
   ·exact(List.map_inj_right (f:=PyData.int) (λx y e=>by injection e)).mp h1.symm
   ·erw[Rat.ext ?_ ?_]
    ·injection h2 with h2;erw[h2.symm]
    ·injection h3 with h3;lia
  let(rfl,rfl):=hz;erw[.inr #[ns,sp,q,eo,hc,e1,Z,Z,qt,q0,bq]]
end
section
inductive a0B|mk m iv rate rs r f j t ds os(_:vs=[m,iv,.int rate])(_:RD K H m (fy rs r f j t))(_:gA rs r f j t)(_:RD K H iv (.list ds))(_:cg rs.length ds os)(_:ds.length<=100)(_:10<=rate)(_:rate<=200)(_:∀l ys H',H l=none->H' l=some (.lst ys)->aI K H' ys ((ownL j rate os).map cA)->aH H H'->Q (.ref l) H')
theorem a4B(AA:a1v):a1k "own_bounds" 8 a0B:=by
 let(aN,jW,iA):=AA.wM;exists AA.Vm.has,DP,kG λ_ _ _=>rfl
 ·let(m,iv,rate,rs,r,f,j,t,ds,os,rfl,rm,aK,ri,row,hz,bO,rt2,k):=h
  let nd:=DP.nd;let rN:∀H',RD K H' (.ref aN) (cA 0):=λH'=>(yC (iA H')).rd;erw[_,%[bw (dj (HG K Z u8)) (aG (aR (cX %[dC (x:="NOUGHT") Z jW|az]))) bC,(E4 (i0:=3) nd Z (Or.inl Z) (N:=["one","other","machine","rate"]) (js:=[none,none,some 0,some 2]) Z Z Z (kQ K Z true true Z (AA.B.at "zip") %[1,vM (vE K rfl) u8 (uo aB) yh|az]) (λ_ _ _ _ _=>(cW K rfl (n:=2) rfl %[aZ 0 (show List.Nodup (["one","other","machine","rate"]:List Str) by decide+kernel),aZ 1 (show List.Nodup (["one","other","machine","rate"]:List Str) by decide+kernel)|cU])) (λ_ _ _ _ _=>fP) (λ_ _ _ _ _=>(pf (SJ AA) hr %[2,0,1,3|az]))),aR (aO (Co K Z) (aO (Co K Z) (cX %[dC (x:="NOUGHT") Z jW|az]) L2) (cX %[dC (x:="NOUGHT") Z jW|az]))|aG],?_];let(ia,xs,rfl,hi,dI):=ri.lst_inv;let lx:=dI.length;let ll:=row.len;erw[_,Z,_,.inl #[_,hi,Z],?_];cases hd:xs with
  |nil=>
   subst hd;erw[bA ?_];erw[bG Z,λl H1 n1=>?_];erw[k l [.ref aN] H1 n1.no n1.at' ?_ n1.same];let e:os=[]:=by
    have:os.length=0:=by rw[<-ll,<-lx];rfl
    erw[G9.mp this]
   rw[e];erw[bX (rN H1) cH] |cons x0 xr=>
   erw[ba ?_];let dM:os≠[]:=by intro e;rw[e]at ll;rw[hd]at lx;simp at ll lx;rw[ll]at lx;cases lx
   let Bp:0<xs.length:=by rw[hd];simp
   erw[_,Z,_,Z,1,Z,ia,xs,Z,.inl #[hi,λtl H1 n1=>?_]];erw[ia,tl,Z,#[_,hi.go n1.same],#[_,aL.of n1.at'],λD H2 n2=>?_];let et:=n1.at';rw[Kq]at et;let AJ:∀(i:Nat)(o:Itm),os[i]? =some o->∀(ns:List Int)(sp:Int),o=some (ns,sp)->fA rs.length 100 ns/\1<=sp/\sp<=20:=λi o e ns sp e'=>row.ok i ns sp (by rw[e,e']);let lr:=aK.len;erw[xn (K:=K) (b1:=true) (b2:=true) (xs:=xs) (ys:=xs.drop 1) (ds:=((List.range (os.length-1)).map (λi=>ownF j rate os (i+1))).map cA) _ Z (hi.go n1.same) (aL.of et) n2 (by rw[qT];simp;lia) (by simp;lia) (mJ _) ?_ ?_]
   ·intro i x y d H3 Q' ex ey ed s3 hq
    let eG:=n1.same.trans s3;rw[qU]at ey;let(d1,e1,r1):=dI.get' i ex;let(d2,e2,r2):=dI.get' (1+i) ey;let(o1,qD,i1):=row.get e1;let(o2,nZ,i2):=row.get e2;let sL:1+i<os.length:=(cm.mp nZ).1;let ij:d=cA (betR j rate o1 o2):=by rw[bV,bV,bo (by simp;lia),xR]at ed;have:=(eQ ed).symm;rw[this];show cA (betR j rate (atO os i) (atO os (i+1)))=_;rw[_O.m8 qD,_O.m8 (show os[i+1]? =some o2 by rw[LJ];erw[nZ])]
    subst ij;erw[_,Z,_,Z,_,Z,_,Z,m,x,y,rate,rs,r,f,j,t,d1,d2,o1,o2,rs.length,Z,RD.mono eG _ rm,aK.j1.1,aK.j1.2,RD.mono eG _ r1,RD.mono eG _ r2,i1,i2,AJ _ _ qD,AJ _ _ nZ,aw,bO,rt2,λv H4 rv s4=>?_];erw[hq _ _ s4 rv.rd]
   ·intro H3 zs s3 d3 r3
    let lz:=r3.length;simp at lz;erw[bG Z,λl1 H4 n4=>?_];erw[_,Z,l1,D,_,zs,Z,Z,aL.of n4.at',aL.of (n4.same _ _ d3),Af _ (by simp;lia),λl2 H5 n5=>?_];erw[bG Z,λl3 H6 n6=>?_];erw[l2,l3,_,_,Z,Z,aL.of (n6.same _ _ n5.at'),aL.of n6.at',Af _ (by simp;lia),λl H7 n7=>?_];let lP:aH H H6:=n1.same.trans (s3.trans (n4.same.trans (n5.same.trans n6.same)));let nl:H l=none:=by cases e:H l with |none=>rfl |some o=>have:=lP _ _ e;rw[n7.no]at this;cases this
    erw[k l _ H7 nl n7.at' ?_ (lP.trans n7.same)];rw[_O.Sd j rate dM,jr,jr];exact(%[rN H7|cH].append (aI.mono (n4.same.trans (n5.same.trans (n6.same.trans n7.same))) _ r3)).append %[rN H7|cH]
inductive a0S|mk m iv l ys rs r f j t ds os g(_:vs=[m,iv,.ref l])(_:RD K H m (fy rs r f j t))(_:gA rs r f j t)(_:RD K H iv (.list ds))(_:cg rs.length ds os)(_:ds.length<=30)(_:H l=some (.lst ys))(_:aI K H ys ((lst os.length g).map cA))(_:(∀i,i<=os.length->Bd 900 (g i)))(_:∀l ys H',H l=none->H' l=some (.lst ys)->aI K H' ys ((lst os.length (fl os.length (leadF os) (2*f) g)).map cA)->aH H H'->Q (.ref l) H')
theorem a4W(AA:a1v):a1k "kept_by_fall" 5 a0S:=by
 erw[AA.aa7.has OK (λvs H Q E h=>?_) (λ_ _ _ _ _ _=>kG λ_ _ _=>rfl) (λfa aM A outer s H vs Q E hr h=>?_)]
 · let(m,iv,l,ys,rs,r,f,j,t,ds,os,g,rfl,_):=h
   rfl
 · let(m,iv,l,ys,rs,r,f,j,t,ds,os,g,rfl,rm,aK,ri,row,hz,dl,uh,bg,k):=h
   let nd:=OK.nd;erw[_,%[pS 3 nd (px K o0 aB),pS 4 nd (iE (x:="list") (ED K Z) Z (AA.B.at "list") jK %[2|az]),(g9 eO Z (a3p Z (AA.B.at "reversed") %[(iE (x:="range") acn rfl (AA.B.at "range") PyProof.Rows.boot_range %[cY K AA.B %[1|az]|az])|az]) (aZ 5 nd) (aG (bw (cf (pf (vS AA) hr %[px K u8 P3|az])) (aG (fe (pf (Ek AA) hr %[(cX %[px K M2 P3,(pf (rX AA) hr %[px K M2 (aO cM P3 aB),aO bR (aO bR aB L2) (pf (yx AA) hr %[px K u8 P3|az])|az])|az])|az]) (rP M2 P3 set_list))) bC))),aR M2|aG],?_];let(ma,mb,rfl,fS,lU):=mM rm;let(ia,xs,rfl,hi,dI):=ri.lst_inv;let lx:=dI.length;let ll:=row.len;let lr:=aK.len;let hL:∀i m,leadF os i=some m->(2*f*(m:Int)).natAbs<2^24:=λi m e=>A2 aK.f1.1 aK.f1.2 (Bg row.nK e);let FB:∀i,i<=os.length->Bd 1700 (fl os.length (leadF os) (2*f) g i):=λi hi=>(JD bg hL i hi).mono aw;erw[_,Z,.inr #[ma,_,2,.int f,Z,Z,fS,Z,?_]];erw[_,Z,l,ys,Z,.inl (aL.of dl),λD H1 n1=>?_];erw[_,Z,ia,_,Z,.inl (hi.go n1.same),_,Z,λpr H2 n2=>?_];erw[pr,_,Z,n2.at',aw,aw,?_];let eN:((xs.length:Int)).toNat=os.length:=by lia
   rw[eN];erw[a9v (Pv:=λi O H5=>aH H H5/\∃zs v1,H5 D=some (.lst zs)/\aI K H5 zs ((lst os.length λk=>if os.length<=k+i then fl os.length (leadF os) (2*f) g k else g k).map cA)/\O=[some (.ref ma),some (.ref ia),some (.ref l),some (.int f),some (.ref D),v1]) ?_ ?_ ?_]
   · erw[n1.same.trans n2.same,ys,none,n2.same _ _ n1.at',?_,Z]
     rw[sr (g:=λk=>if os.length<=k+0 then fl os.length (leadF os) (2*f) g k else g k) (g':=g)]
     ·erw[aI.mono (n1.same.trans n2.same) _ uh]
     · intro k hk
       show g k=if os.length<=k+0 then _ else g k;split
       · next h => have:k=os.length:=by lia
                   subst this;erw[nX.symm]
       ·rfl
   · rintro i O H3 oP ⟨s3,zs,v1,dz,rz,rfl⟩
     erw[gh ?_];intro E1;obtain⟨x,hx⟩:∃x,xs[os.length-1-i]? =some x:=#[_,bo (show os.length-1-i<xs.length by lia)];generalize hc:os.length-1-i=c at hx;let fT:c<os.length:=by lia
     let eI:((os.length:Int)-1-(i:Int))=(c:Int):=by lia
     rw[eI];let(d,ed,rd):=dI.get' c hx;let(o,eo,it):=row.get ed;let lz:=rz.length;rw[bB,pX]at lz;let uS:eY xs (c:Int)=some x:=cI aw (by simpa using hx);erw[_,Z,_,Z,.inl #[ia,_,_,_,Z,Z,hi.go s3,uS,?_]];erw[x,d,o,Z,RD.mono s3 _ rd,it,_,Z,?_];cases o with
     |none=>
       erw[ba ?_];erw[s3,zs,_,dz,?_,Z];rw[sr (g:=λk=>if os.length<=k+(i+1)then fl os.length (leadF os) (2*f) g k else g k) (g':=λk=>if os.length<=k+i then fl os.length (leadF os) (2*f) g k else g k)]
       ·erw[rz]
       · intro k _
         show(if os.length<=k+i then _ else g k)=if os.length<=k+(i+1)then _ else g k;by_cases h1:os.length<=k+i
         ·rw[aQ h1,aQ aw]
         · rw[aV h1]
           by_cases h2:k=c
           ·subst h2;rw[aQ aw,nV fT (IM eo)]
           ·rw[aV aw] |some q=>
       let(ns,sp):=q;erw[bA ?_];let ij:=jC it;subst ij;let(bT,_,_):=row.ok c ns sp eo;obtain⟨z1,oY⟩:∃z,zs[c+1]? =some z:=#[_,bo (show c+1<zs.length by lia)];obtain⟨z0,jX⟩:∃z,zs[c]? =some z:=#[_,bo (show c<zs.length by lia)];let R1:bj H3 z1 (fl os.length (leadF os) (2*f) g (c+1)):=by
        let(d1,e1,r1):=rz.get' (c+1) oY;rw[bV,nO _ (show c+1<=os.length by lia)]at e1;cases e1;have:os.length<=c+1+i:=by lia
        simp only[aQ this]at r1;erw[jy r1]
       let R0:bj H3 z0 (g c):=by
        let(d1,e1,r1):=rz.get' c jX;rw[bV,nO _ (show c<=os.length by lia)]at e1;cases e1;have:¬os.length<=c+i:=by lia
        simp only[aV this]at r1;erw[jy r1]
       let C8:((c:Int)+1).toNat=c+1:=by lia
       let qK:eY zs ((c:Int)+1)=some z1:=cI aw (by rw[C8];erw[oY]);let iV:eY zs (c:Int)=some z0:=cI aw (by simpa using jX);erw[_,Z,_,Z,.inl #[D,_,_,_,Z,Z,aL.of dz,iV,?_]];erw[_,Z,_,Z,_,_,Z,Z,.inl #[D,_,_,_,Z,Z,aL.of dz,qK,?_]];erw[_,Z,_,_,Z,Z,.of_left (cw aA aA),?_];erw[_,Z,_,Z,.inl #[ia,_,_,_,Z,Z,hi.go s3,uS,?_]];erw[x,ns,sp,Z,RD.mono s3 _ rd,bT.ne,by rw[bT.len];lia,λH4 s4=>?_];let j8:=aK.f1;erw[_,_,Z,Z,.of_left (cw aw aw),?_];let us:=hL c _ (yO eo);erw[z1,_,_,Z,R1.go s4,(FB (c+1) aw).mono aA,us,λu H5 ru s5=>?_];erw[bG Z,λl2 H6 n6=>?_];let jw:=s4.trans (s5.trans n6.same);let uV:=R0.go jw;let Ru:=ru.go n6.same;let B1:Bd 2000 (g c):=(bg _ aw).mono aA;let B2:Bd 2000 (fl os.length (leadF os) (2*f) g (c+1)+((2*f*(aF ns:Int):Int):Rat)):=(jH (FB (c+1) aw) us).mono aA;erw[l2,[z0,u],[_,_],Z,aL.of n6.at',#[uV,B1,Ru,B2,trivial],by simp,λc' v q e1 e2 hq=>?_];let mS:mn (g c) (fl os.length (leadF os) (2*f) g (c+1)+((2*f*(aF ns:Int):Int):Rat))=q:=by
        erw[sj ?_ (hq _ (by simp)) (hq _ (by simp))]
        match c',e2 with |0,e2=>cases e2;erw[.inl rfl] |1,e2=>cases e2;erw[.inr rfl]
       let Rv:bj H6 v q:=by match c',e1,e2 with |0,e1,e2=>cases e1;cases e2;erw[uV] |1,e1,e2=>cases e1;cases e2;erw[Ru]
       let qG:=jw _ _ dz;let Bk:iS zs.length (c:Int)=some c:=by unfold iS;rw[aQ aw,aQ aw];simp
       erw[_,Z,_,Z,D,zs,_,_,Z,Z,qG,Bk,?_];erw[λb o e=>?_,_,_,bP,?_,Z]
       ·rw[aU (dH e n1.no)];erw[jw b o (s3 b o e)]
       · let h:=aI.Ai (i:=c) qG (aI.mono jw _ rz) Rv.rd (mJ _) (nH _)
         rw[<-xP]at h;let e:(lst os.length λk=>if os.length<=k+i then fl os.length (leadF os) (2*f) g k else g k).set c q=lst os.length λk=>if os.length<=k+(i+1)then fl os.length (leadF os) (2*f) g k else g k:=by
          rw[<-Iy (g:=λk=>if os.length<=k+i then fl os.length (leadF os) (2*f) g k else g k) (g':=λk=>if os.length<=k+(i+1)then fl os.length (leadF os) (2*f) g k else g k) (i:=c)]
          · have:os.length<=c+(i+1):=by lia
            simp only[aQ this];rw[lX fT (yO eo),mS]
          · intro k _ hk
            show(if os.length<=k+(i+1)then _ else g k)=if os.length<=k+i then _ else g k;by_cases h1:os.length<=k+i
            ·rw[aQ h1,aQ aw]
            ·rw[aV h1,aV aw]
         rw[e]at h;erw[h]
   · rintro O H3 ⟨s3,zs,v1,dz,rz,rfl⟩
     rw[sr (g:=λk=>if os.length<=k+os.length then fl os.length (leadF os) (2*f) g k else g k) (g':=fl os.length (leadF os) (2*f) g) (λk hk=>by show _=if os.length<=k+os.length then _ else _;rw[aQ aw])]at rz;erw[_,Z,k D zs H3 n1.no dz rz s3]
def uf(f j rate:Int)(os:List Itm):Rat:=fl os.length (leadF os) (2*f) (ownF j rate os) 1
inductive a0p|mk m iv rate rs r f j t ds os(_:vs=[m,iv,.int rate])(_:RD K H m (fy rs r f j t))(_:gA rs r f j t)(_:RD K H iv (.list ds))(_:cg rs.length ds os)(_:ds.length<=30)(_:1<=ds.length)(_:10<=rate)(_:rate<=200)(_:∀v H',bj H' v (uf f j rate os)->aH H H'->Q v H')
theorem NR:bu ["machine","items","rate"] ["machine","items","rate"] (aX Pr):=bD aP
theorem a4x(AA:a1v):a1k "reach_behind_first" 9 a0p:=by
 exists AA.a9W.has,NR,kG λ_ _ _=>rfl
 ·let(m,iv,rate,rs,r,f,j,t,ds,os,rfl,rm,aK,ri,row,hz,h1,bO,rt2,k):=h
  let nd:=NR.nd;erw[_,(aG (aR (px K (pf (a4W AA) hr %[0,1,pf (a4B AA) hr %[0,1,2|az]|az]) aB))),?_];let ll:=row.len;let hB:=_O.AE aK.j1.1 aK.j1.2 bO rt2 row.nK;erw[_,Z,_,Z,_,Z,_,Z,_,Z,m,iv,rate,rs,r,f,j,t,ds,os,Z,rm,aK,ri,row,aw,bO,rt2,λl1 y1 H1 uv d1 r1 s1=>?_];erw[m,iv,l1,y1,rs,r,f,j,t,ds,os,ownF j rate os,Z,RD.mono s1 _ rm,aK,RD.mono s1 _ ri,row,hz,d1,r1,λi _=>(hB i).mono aA,λl2 y2 H2 pT d2 r2 s2=>?_];let ly:=r2.length;rw[bB,pX]at ly;obtain⟨z,ez⟩:∃z,y2[1]? =some z:=#[_,bo (show 1<y2.length by lia)];erw[.inl #[l2,_,1,z,Z,Z,aL.of d2,cI aA ez,?_]];let(d,ed,rd):=r2.get' 1 ez;rw[bV,nO _ (show 1<=os.length by lia)]at ed;cases ed;erw[k z H2 (jy rd) (s1.trans s2)]
end
end _c
namespace _c
open PySem PySem.Spec PyProof.Rows _L _d _l _C _P _W _R
open _O (topR cornO mnO betR atO ownF leadF ownL OkI OkIs)
section
def gM(m b d q p r s k t:V):List (Str×V):=[("machine",m),("begun_at",b),("done",d),("queue",q),("pace",p),("rate_now",r),("side",s),("mark",k),("stopping",t)]
structure ck where
 rs:List Int
 r:Int
 f:Int
 j:Int
 t:Int
abbrev ck.D(M:ck):aj:=fy M.rs M.r M.f M.j M.t
abbrev ck.Ok(M:ck):Prop:=gA M.rs M.r M.f M.j M.t
structure bQ where
 pl:List Int
 dn:Nat
 ds:List aj
 os:List Itm
 pc:Rat
 rate:Int
 side:Str
 mark:Str
 stp:_R.gI
def zq(H:Hp)(v:V):_R.gI->Prop |none=>v= .bM |some (sq,st,gn)=>∃a u,v= .ref a/\aW K H a [u,.int st,.int gn]/\bj H u sq
structure cE(M:ck)(D:Nat)(S:bQ):Prop where
 row:cg M.rs.length S.ds S.os
 rw:RowW S.ds S.os
 len:S.ds.length<=20
 bO:10<=S.rate
 rt2:S.rate<=200
 dn:S.dn=0\/∃ns sp,S.os[0]? =some (some (ns,sp))/\S.dn<aF ns
 pl:S.pl.length=M.rs.length
 pd:Dd (D+10) S.pc
 pm:S.pc<=1600
 stp:qL D S.pc S.stp
 D1:64<=D
 D2:D<=1500
structure da(C:Addr)(H:Hp)(a q:Addr)(M:ck)(S:bQ):Prop where
 ob:∃dx mv bv cS tv,H a=some (.ins C dx (gM mv bv (.int S.dn) (.ref q) cS (.int S.rate) (.str S.side) (.str S.mark) tv))/\RD K H mv M.D/\RD K H bv (iZ S.pl)/\bj H cS S.pc/\zq H tv S.stp
 qu:∃ys,H q=some (.lst ys)/\aI K H ys S.ds
theorem bj.v{v:V}(s:cZ H H')(h:bj H v q):bj H' v q:=by let(p,rfl,hp):=h;erw[p,Z,aW.v s hp]
theorem zq.v{v:V}{t:_R.gI}(s:cZ H H')(h:zq H v t):zq H' v t:=by cases t with |none=>erw[h] |some q=>let(sq,st,gn):=q;let(a,u,rfl,h1,h2):=h;erw[a,u,Z,aW.v s h1,bj.v s h2]
theorem da.go(h:da C H a q M S)(hn:bS S.ds=true)(s:cZ H H')(ea:∀o,H a=some o->H' a=some o)(eq:∀o,H q=some o->H' q=some o):da C H' a q M S:=by let((dx,mv,bv,cS,tv,e,r1,r2,r3,r4),ys,wV,rq):=h;erw[#[dx,mv,bv,cS,tv,ea _ e,RD.v s _ (oJ _ _ _ _ _) r1,RD.v s _ (jS _) r2,r3.v s,r4.v s],ys,eq _ wV,aI.v s _ hn rq]
theorem da.same(h:da C H a q M S)(hn:bS S.ds=true)(s:aH H H'):da C H' a q M S:=h.go hn s.v (λo e=>s _ _ e) (λo e=>s _ _ e)
theorem da.ne(h:da C H a q M S):a≠q:=by let((dx,mv,bv,cS,tv,e,_),ys,wV,_):=h;erw[B5 e wV (by intro z;cases z)]
theorem da.v(h:da C H a q M S)(b:dJ [a,q] H H'):cZ H H':=by
 let((dx,mv,bv,cS,tv,e,_),ys,wV,_):=h;erw[b.v λx hx o eo=>?_];simp only[dg,gk,jJ]at hx;rcases hx with rfl|rfl
 ·rw[e]at eo;cases eo;trivial
 ·rw[wV]at eo;cases eo;trivial
inductive adV(C:Addr)(G:ck->bQ->Hp->VK->Prop)(vs:List V)(H:Hp)(Q:VK):Prop |mk a q M D S(_:vs=[.ref a])(_:da C H a q M S)(_:cE M D S)(_:M.Ok)(_:G M S H Q)
def pJ(C:Addr)(G:ck->bQ->Hp->VK->Prop):Sp:=λvs H Q _=>adV C G vs H Q
theorem a1A:bu ["self"] ["self"] (aX Px):=bD aP
def gSq:ck->bQ->Hp->VK->Prop:=λ_ S H Q=>∀v,bj H v S.pc->Q v H
theorem agk(RR:gT K mg C):a1q C "square" 1 (pJ C gSq):=by
 exists RR.a6a.has,a1A,fo λ_=>rfl
 ·let(a,q,M,D,S,rfl,R,ok,aK,k):=h
  let(dx,mv,bv,cS,tv,e,r1,r2,r3,r4):=R.ob;erw[_,(aG (aR (dE RR.tc.cl RR.tc.ux o0))),_,Z,a,dx,_,_,Z,e,Z,k cS r3]
theorem a1C:bu ["self"] ["self"] (aX PF):=bD aP
theorem agl(RR:gT K mg C):a1q C "rate" 1 (pJ C λ_ S H Q=>Q (.int S.rate) H):=by
 exists RR.a6b.has,a1C,fo λ_=>rfl
 ·let(a,q,M,D,S,rfl,R,ok,aK,k):=h
  let(dx,mv,bv,cS,tv,e,r1,r2,r3,r4):=R.ob;erw[_,(aG (aR (dE RR.tc.cl RR.tc.B8 o0))),_,Z,a,dx,_,_,Z,e,Z,k]
theorem a1z:bu ["self"] ["self"] (aX Pw):=bD aP
theorem agj(RR:gT K mg C):a1q C "tool" 1 (pJ C λ_ S H Q=>Q (.str S.side) H):=by
 exists RR.a66.has,a1z,fo λ_=>rfl
 ·let(a,q,M,D,S,rfl,R,ok,aK,k):=h
  let(dx,mv,bv,cS,tv,e,r1,r2,r3,r4):=R.ob;erw[_,(aG (aR (dE RR.tc.cl RR.tc.Ii o0))),_,Z,a,dx,_,_,Z,e,Z,k]
theorem a1x:bu ["self"] ["self"] (aX Pt):=bD aP
theorem agi(AA:a1v)(RR:gT K mg C):a1q C "waiting" 1 (pJ C λ_ S H Q=>∀l ys H',H l=none->H' l=some (.lst ys)->aI K H' ys S.ds->aH H H'->Q (.ref l) H'):=by
 exists RR.a64.has,a1x,fo λ_=>rfl
 ·let(a,q,M,D,S,rfl,R,ok,aK,k):=h
  let(dx,mv,bv,cS,tv,e,r1,r2,r3,r4):=R.ob;let(ys,eq,rq):=R.qu;erw[_,(aG (aR (iE (x:="list") (ED K Z) Z (AA.B.at "list") jK %[dE RR.tc.cl RR.tc.kR o0|az]))),_,Z,a,dx,_,_,Z,e,Z,q,ys,Z,.inl (aL.of eq),λl H1 n1=>?_];erw[k l ys H1 n1.no n1.at' (aI.mono n1.same _ rq) n1.same]
theorem a1G:bu ["self"] ["self"] (aX PR):=bD aP
theorem HU(RR:gT K mg C):a1q C "is_held" 1 (pJ C λ_ S H Q=>Q (.bl S.stp.isSome) H):=by
 exists RR.a6f.has,a1G,fo λ_=>rfl
 ·let(a,q,M,D,S,rfl,R,ok,aK,k):=h
  let(dx,mv,bv,cS,tv,e,r1,r2,r3,r4):=R.ob;erw[_,(aG (aR (eV nJ (dE RR.tc.cl RR.tc.yH o0) fQ (bf _)))),_,Z,a,dx,_,_,Z,e,Z,?_];cases hs:S.stp with |none=>rw[hs]at r4 k;cases(show tv= .bM from r4);erw[Z,k] |some z=>rw[hs]at r4 k;let(sq,st,gn):=z;let(b,u,rfl,_):=r4;erw[Z,k]
theorem a2J(q:Rat):PyData.eqv (cA q) (cA 0)=decide (q=0):=by
 by_cases h:q=0
 ·rw[cu h];erw[Vx h]
 ·rw[dP h]
  cases e:PyData.eqv (cA q) (cA 0)with |false=>rfl |true=>
   exfalso;apply h;let e':(PyData.eqv (.int q.num) (.int (0:Rat).num)&&(PyData.eqv (.int (q.den:Int)) (.int ((0:Rat).den:Int))&&true))=true:=e;rw[M4,fY]at e';let(a,b):=e';let h1:q.num=(0:Rat).num:=by simpa[PyData.eqv]using a
   let h2:(q.den:Int)=((0:Rat).den:Int):=by simpa[PyData.eqv]using b
   erw[Rat.ext h1 aw]
theorem a1B:bu ["self"] ["self"] (aX PD):=bD aP
theorem Sq(AA:a1v)(RR:gT K mg C):a1q C "stands" 1 (pJ C λ_ S H Q=>Q (.bl (decide (S.pc=0))) H):=by
 let(aN,jW,iA):=AA.wM;exists RR.a69.has,a1B,fo λ_=>rfl
 ·let(a,q,M,D,S,rfl,R,ok,aK,k):=h
  let(dx,mv,bv,cS,tv,e,r1,r2,r3,r4):=R.ob;erw[_,(aG (aR (eV (cJ K Z hr.units) (dE RR.tc.cl RR.tc.ux o0) (dC (x:="NOUGHT") rfl jW) (bf _)))),_,Z,a,dx,_,_,Z,e,Z,.inr #[_,_,r3.rd,(yC (iA H)).rd,Z,Z,?_]];rw[a2J];erw[k]
theorem a1F:bu ["self"] ["self"] (aX PQ):=bD aP
theorem Su(AA:a1v)(RR:gT K mg C):a1q C "is_halted" 2 (pJ C λ_ S H Q=>Q (.bl (S.stp.isSome&&decide (S.pc=0))) H):=by
 exists RR.a6g.has,a1F,fo λ_=>rfl
 ·let(a,q,M,D,S,rfl,R,ok,aK,k):=h
  let(dx,mv,bv,cS,tv,e,r1,r2,r3,r4):=R.ob;erw[_,(aG (aR (gP (lR (HU RR) RR.tc.cl (hr.mono aA) o0) (gN (lR (Sq AA RR) RR.tc.cl (hr.mono aA) o0))))),_,Z,a,dx,_,Z,e,Z,a,q,M,D,S,Z,R,ok,aK,_,Z,?_];cases hs:S.stp.isSome with |false=>rw[hs]at k;erw[ba k] |true=>rw[hs]at k;erw[bA #[_,Z,a,dx,_,Z,e,Z,a,q,M,D,S,Z,R,ok,aK,?_]];erw[k]
end
section
def MR(ns:List Int)(k:Int):List Int:=ns.map λz=>jA (k*z) (aF ns)
def Az(S:bQ):List Int:=if S.dn=0 then S.pl else match S.os[0]? with |some (some (ns,_))=>m9 S.pl (MR ns S.dn) |_=>S.pl
def wL(S:bQ):List Int:=S.os.foldl j9 S.pl
theorem WN{n:Nat}{pl:List Int}{o:Itm}(h:pl.length=n)(ho:∀ns sp,o=some (ns,sp)->ns.length=n):(j9 pl o).length=n:=by cases o with |none=>erw[h] |some q=>let(ns,sp):=q;show(m9 pl ns).length=n;rw[xA (by rw[ho ns sp Z,h])];erw[h]
theorem Jz{n:Nat}:∀(os:List Itm)(pl:List Int),pl.length=n->(∀o∈os,∀ns sp,o=some (ns,sp)->ns.length=n)->(os.foldl j9 pl).length=n |[],pl,h,_=>h |o::os,pl,h,ho=>Jz os (j9 pl o) (WN h (ho o (.head _))) λx hx=>ho x (.tail _ hx)
theorem cE.AI{D:Nat}(h:cE M D S):∀o∈S.os,∀ns sp,o=some (ns,sp)->ns.length=M.rs.length:=λo ho ns sp e=>by let(i,hi):=vm.mp ho;rw[e]at hi;exact(h.row.ok i ns sp hi).1.len
theorem cE.first{D:Nat}(h:cE M D S)(hn:S.dn≠0):∃ns sp,S.os[0]? =some (some (ns,sp))/\S.dn<aF ns:=by
 rcases h.dn with e|e
 ·exact(hn e).elim
 ·erw[e]
theorem a1D:bu ["self"] ["self"] (aX PH):=bD aP
theorem agm(AA:a1v)(RR:gT K mg C):a1q C "place" 3 (pJ C λ_ S H Q=>∀v H',RD K H' v (iZ (Az S))->aH H H'->Q v H'):=by
 exists RR.a6c.has,a1D,fo λ_=>rfl
 ·let(a,q,M,D,S,rfl,R,ok,aK,k):=h
  let(dx,mv,bv,cS,tv,e,r1,r2,r3,r4):=R.ob;let(ys,eq,rq):=R.qu;erw[_,%[bw (bL (cJ K Z hr.units) (dE RR.tc.cl RR.tc.si o0) aB (bf _)) (aG (aR (dE RR.tc.cl RR.tc.yI o0))) bC,(aR (pf (Sz AA) hr %[dE RR.tc.cl RR.tc.yI o0,pf (HS AA) hr %[px K (dE RR.tc.cl RR.tc.kR o0) aB,dE RR.tc.cl RR.tc.si o0|az]|az]))|aG],_,Z,a,dx,_,_,Z,e,Z,.inl #[_,_,Z,Z,_,Z,?_]];by_cases h0:S.dn=0
  ·rw[cu aw]
   let ep:Az S=S.pl:=by unfold Az;rw[aQ h0]
   rw[ep]at k;erw[bA #[_,Z,a,dx,_,_,Z,e,Z,k bv H r2 (aH.refl _)]]
  ·rw[dP aw]
   erw[ba ?_];let(ns,sp,eo,hd):=ok.first h0;let(bT,cR,dh):=ok.row.ok 0 ns sp eo;let ep:Az S=m9 S.pl (MR ns S.dn):=by unfold Az;rw[aV h0,eo]
   rw[ep]at k;let ll:=ok.row.len;let ER:0<S.os.length:=(cm.mp eo).1;obtain⟨d,ed⟩:∃d,S.ds[0]? =some d:=#[_,bo (show 0<S.ds.length by lia)];let(y,ey,ry):=rq.get 0 ed;let it:=ok.row.it 0 d _ ed eo;let ij:=jC it;subst ij;let mQ:=mO bT;let lr:=aK.len;erw[_,Z,a,dx,_,_,Z,e,Z,?_];erw[_,Z,a,dx,_,_,Z,e,Z,.inl #[q,_,0,y,Z,Z,aL.of eq,cI (fD 0) ey,?_]];erw[_,Z,a,dx,_,_,Z,e,Z,y,ns,sp,_,Z,ry,#[Z,λz hz=>by have:=bT.bd z hz;lia,bT.nz],by rw[bT.len];lia,aw,λu H1 ru s1=>?_];let(b,xs,rfl,hb,hx):=ru.cF;rw[hx.j7]at hb;erw[bv,b,S.pl,_,Z,RD.mono s1 _ r2,hb,by rw[bB,bT.len,ok.pl],by rw[ok.pl];lia,λv H2 rv s2=>k v H2 rv (s1.trans s2)]
theorem NV:bu ["self","here","item"] ["self"] (aX PK):=bD aP
theorem a4s(AA:a1v)(RR:gT K mg C):a1q C "leads_to" 3 (pJ C λ_ S H Q=>∀v H',RD K H' v (iZ (wL S))->aH H H'->Q v H'):=by
 exists RR.a6e.has,NV,fo λ_=>rfl
 ·let(a,q,M,D,S,rfl,R,ok,aK,k):=h
  let(dx,mv,bv,cS,tv,e,r1,r2,r3,r4):=R.ob;let(ys,eq,rq):=R.qu;let nd:=NV.nd;let ll:=ok.row.len;let ly:=rq.length;let lr:=aK.len;erw[_,%[pS 1 nd (dE RR.tc.cl RR.tc.yI o0),g9 eO Z (rO K Z (dE RR.tc.cl RR.tc.kR o0)) (aZ 2 nd) (aG (pS 1 nd (pf (HW AA) hr %[1,2|az]))),aR u8|aG],_,Z,a,dx,_,_,Z,e,Z,_,Z,a,dx,_,_,Z,e,Z,q,Z,#[_,aL.of eq],?_];erw[BN (K:=K) (a:=q) (xs:=ys) (λi O H1=>aH H H1/\∃hv v2,RD K H1 hv (iZ ((S.os.take i).foldl j9 S.pl))/\O=[some (.ref a),some hv,v2]) #[aH.refl _,bv,none,r2,Z] (λi O H1 _ h=>aL.of (h.1 _ _ eq)) ?_ ?_]
  ·rintro i x O H1 hx ⟨s1,hv,v2,rh,rfl⟩
   erw[gh ?_];intro E1;let(d,ed,rd):=rq.get' i hx;let(o,eo,it):=ok.row.get ed;let lp:((S.os.take i).foldl j9 S.pl).length=M.rs.length:=Jz _ _ ok.pl λo ho=>ok.AI o (zN ho);erw[_,Z,_,Z,hv,x,_,d,o,Z,rh,RD.mono s1 _ rd,it,λns sp e'=>by rw[lp];erw[ok.AI o (gZ eo) ns sp e'],aw,λv H2 rv s2=>?_];erw[s1.trans s2,v,_,?_,Z];rw[lG,eo,zT];erw[rv]
  ·rintro O H1 ⟨s1,hv,v2,rh,rfl⟩
   rw[ly,ll,zL]at rh;erw[_,Z,k hv H1 rh s1]
structure Mv(a q:Addr)(H:Hp)(q':Addr)(H':Hp):Prop where
 but:dJ [a,q] H H'
 nq:q'=q\/H q'=none
theorem a1E:bu ["self","machine","place"] ["self","machine","place"] (aX PL):=bD aP
def pI(pl:List Int):bQ:=#[pl,0,[],[],0,100,"up","",none]
inductive aec(C:Addr)(vs:List V)(H:Hp)(Q:VK):Prop |mk a dx mv vL M pl(_:vs=[.ref a,mv,vL])(_:H a=some (.ins C dx []))(_:RD K H mv (ck.D M))(_:RD K H vL (iZ pl))(_:∀q H',da C H' a q M (pI pl)->H q=none->dJ [a] H H'->Q .bM H')
def a0t(C:Addr):Sp:=λvs H Q _=>aec C vs H Q
theorem a4t(AA:a1v)(RR:gT K mg C):Lf P w K mg aD C "Runner" 1 (a0t C):=by
 let(aN,jW,iA):=AA.wM;exists RR.init.has,a1E,kG λ_ _ _=>rfl
 ·let(a,dx,mv,vL,M,pl,rfl,e,rm,rp,k):=h
  erw[_,%[jf RR.tc.cl RR.tc.uy o0 u8,jf RR.tc.cl RR.tc.yI o0 w4,jf RR.tc.cl RR.tc.si o0 aB,jf RR.tc.cl RR.tc.kR o0 (cX az),jf RR.tc.cl RR.tc.ux o0 (dC (x:="NOUGHT") rfl jW),jf RR.tc.cl RR.tc.B8 o0 (dC (x:="FIRST_RATE") rfl AA.a9m),jf RR.tc.cl RR.tc.Ii o0 eU,jf RR.tc.cl RR.tc.Te o0 eU,jf RR.tc.cl RR.tc.yH o0 fQ|aG],?_];erw[_,Z,_,Z,a,dx,_,Z,e,aA,?_];erw[_,Z,_,Z,a,dx,_,Z,bP,by show 1<1000;decide,?_];erw[_,Z,a,dx,_,Z,bP,by show 2<1000;decide,?_];erw[bG Z,λq H1 n1=>?_];let aq:a≠q:=λz=>by have:=n1.no;rw[<-z,bP]at this;cases this
  let e1:=n1.same _ _ (bP (a:=a));erw[_,Z,a,dx,_,Z,e1,by show 3<1000;decide,?_];erw[_,Z,a,dx,_,Z,bP,by show 4<1000;decide,?_];erw[_,Z,a,dx,_,Z,bP,by show 5<1000;decide,?_];erw[_,Z,a,dx,_,Z,bP,by show 6<1000;decide,?_];erw[_,Z,a,dx,_,Z,bP,by show 7<1000;decide,?_];erw[_,Z,a,dx,_,Z,bP,by show 8<1000;decide,?_];let key:∀X:Hp,(∀b,b≠a->X b=H1 b)->Q .bM (_L.upd X a (.ins C dx (gM mv vL (.int 0) (.ref q) (.ref aN) (.int 100) (.str "up") (.str "") .bM))):=by
   intro X hX;let bt:dJ [a] H (_L.upd X a (.ins C dx (gM mv vL (.int 0) (.ref q) (.ref aN) (.int 100) (.str "up") (.str "") .bM))):=λb o eb hb=>by let ha:b≠a:=λz=>hb (by rw[z];erw[.head _]);rw[aU ha,hX b ha];erw[n1.same _ _ (by rw[aU ha,aU ha,aU ha];erw[eb])]
   let sv:=bt.v λx hx o eo=>by rw[gm]at hx;rw[hx,e]at eo;cases eo;trivial
   erw[k q _ #[#[dx,mv,vL,.ref aN,.bM,bP,RD.v sv _ (oJ _ _ _ _ _) rm,RD.v sv _ (jS _) rp,yC (iA _),Z],[],?_,cH] ?_ bt]
   ·rw[aU aq.symm,hX q aq.symm];erw[n1.at']
   ·have:=n1.no
    rw[aU aq.symm,aU aq.symm,aU aq.symm]at this;erw[this]
  erw[key _ (λb hb=>by rw[aU hb,aU hb,aU hb,aU hb,aU hb])]
theorem a2q(hp:pl.length=M.rs.length):cE M 64 (pI pl):=#[.nil,λi d e=>by simp[pI]at e,by simp[pI],(show(10:Int)<=100 by decide),(show(100:Int)<=200 by decide),.inl rfl,hp,#[(show(0:Rat)<=0 by decide),(show(0:Rat).den<2^74 by decide+kernel)],(show(0:Rat)<=1600 by decide+kernel),trivial,aA,aA]
theorem a49(h:lj rs pl):IV rs (iZ pl)=true:=by show((pl.map PyData.int).length==rs.length&&(((pl.map PyData.int).zip rs).map λp=>ib 0 p.2 p.1).all id)=true;rw[bB,h.len,FY,lK,iX];intro b hb;let((d,r),hm,rfl):=gC.mp hb;let(i,hi):=vm.mp hm;let(e1,e2):=(LR (z:=(d,r))).mp hi;rw[bV]at e1;cases e:pl[i]? with |none=>rw[e]at e1;cases e1 |some x=>rw[e]at e1;cases e1;let(a1,a2):=h.at' i x r e e2;show(decide (0<=x)&&decide (x<=r))=true;rw[cu a1,cu a2];rfl
def nY(S:bQ)(d:aj)(o:Itm):bQ:={S with ds:=S.ds++[d],os:=S.os++[o]}
theorem cE.wO{D:Nat}(h:cE M D S)(it:zx M.rs.length d o)(hl:S.ds.length<20):cE M D (nY S d o):=by
 let ll:=h.row.len;erw[h.row.snoc it.it it.ln,RowW.snoc h.rw ll it.ot,by show(S.ds++[d]).length<=20;rw[cy];show _+1<=20;lia,h.bO,h.rt2,?_,h.pl,h.pd,h.pm,h.stp,h.D1,h.D2];rcases h.dn with e|⟨ns,sp,e,e2⟩
 ·erw[.inl e]
 ·erw[.inr #[ns,sp,?_,e2]]
  show(S.os++[o])[0]? =_;rw[mq (cm.mp e).1];erw[e]
theorem NX:bu ["self","item"] ["self","item"] (aX PV):=bD aP
inductive aef(C:Addr)(vs:List V)(H:Hp)(Q:VK):Prop |mk a q M D S v d o(_:vs=[.ref a,v])(_:da C H a q M S)(_:cE M D S)(_:M.Ok)(_:RD K H v d)(_:zx M.rs.length d o)(_:lj M.rs (j9 (wL S) o))(_:S.ds.length<20)(_:∀H',da C H' a q M (nY S d o)->dJ [a,q] H H'->Q (.int (S.ds.length+1:Nat)) H')
def a0w(C:Addr):Sp:=λvs H Q _=>aef C vs H Q
theorem Sw(AA:a1v)(RR:gT K mg C):a1q C "feed" 5 (a0w C):=by
 exists RR.a6j.has,NX,dY λ_ _=>rfl
 ·let(a,q,M,D,S,v,d,o,rfl,R,ok,aK,rd,it,AH,hl,k):=h
  let(dx,mv,bv,cS,tv,e,r1,r2,r3,r4):=R.ob;let(ys,eq,rq):=R.qu;let nd:=NX.nd;let lr:=aK.len;let ly:=rq.length;let(i1,i2,i3):=it.is;erw[_,%[bw (dj (cf (pf (SD AA) hr %[dE RR.tc.cl RR.tc.uy o0,1|az]))) (aG uk) bC,(bw (dj (cf (pf (a4Q AA) hr %[dE RR.tc.cl RR.tc.uy o0,pf (HW AA) hr %[lR (a4s AA RR) RR.tc.cl (hr.mono aA) o0,1|az]|az]))) (aG uk) bC),bw (bL Eg (cY K AA.B %[dE RR.tc.cl RR.tc.kR o0|az]) (dC (x:="MOST_WAITING") rfl AA.a9f) (bf _)) (aG uk) bC,eJ (iQ K Z (dE RR.tc.cl RR.tc.kR o0) %[1|az]),aR (cY K AA.B %[dE RR.tc.cl RR.tc.kR o0|az])|aG],?_];erw[_,Z,a,dx,_,_,Z,e,Z,_,Z,mv,v,M.rs,_,d,Z,r1,rd,aw,i2,i3,λH1 s1=>#[_,Z,?_]];rw[i1];erw[ba ?_];let e1:=s1 _ _ e;let R1:=R.same ok.row.no s1;erw[_,Z,a,dx,_,_,Z,e1,Z,?_];erw[_,Z,a,dx,_,Z,e1,Z,a,q,M,D,S,Z,R1,ok,aK,λg H2 rg s2=>?_];let iD:=s1.trans s2;let gl:(wL S).length=M.rs.length:=Jz _ _ ok.pl ok.AI;erw[_,Z,g,v,wL S,d,o,Z,rg,RD.mono iD _ rd,it.it,λns sp e'=>by rw[gl];exact(it.ln ns sp e').1.len,aw,λu H3 ru s3=>?_];let eG:=iD.trans s3;erw[mv,u,M.rs,_,_,Z,RD.mono eG _ r1,ru,aw,λH4 s4=>#[_,Z,?_]];rw[a49 AH];erw[ba ?_];let fZ:=eG.trans s4;let e4:=fZ _ _ e;let eq4:=fZ _ _ eq;erw[_,Z,a,dx,_,_,Z,e4,Z,q,_,Z,.inl (aL.of eq4),_,_,Z,Z,_,Z,?_];rw[show decide ((ys.length:Int)>=20)=false from dP aw];erw[ba ?_];let lW:sizeLine=16777216:=by decide
  erw[_,Z,a,dx,_,_,Z,e4,Z,.inl #[Z,_,aL.of eq4],_,Z,q,ys,_,Z,Z,eq4,aw,?_];let aq:=R.ne;let tu:cZ H4 (_L.upd H4 q (.lst (ys++[v]))):=.upd eq4 trivial;let e5:(_L.upd H4 q (.lst (ys++[v]))) a=some (.ins C dx (gM mv bv (.int S.dn) (.ref q) cS (.int S.rate) (.str S.side) (.str S.mark) tv)):=by rw[aU aq];erw[e4]
  erw[_,Z,a,dx,_,_,Z,e5,Z,q,_,Z,.inl (aL.of bP),?_];let sv:cZ H (_L.upd H4 q (.lst (ys++[v]))):=fZ.v.trans tu;let el:((ys++[v]).length:Int)=((S.ds.length+1:Nat):Int):=by rw[cy,ly];rfl
  rw[el];erw[k _ #[#[dx,mv,bv,cS,tv,e5,RD.v sv _ (oJ _ _ _ _ _) r1,RD.v sv _ (jS _) r2,r3.v sv,r4.v sv],_,bP,?_] λb o' eb hb=>?_]
  ·exact(aI.v sv _ ok.row.no rq).append %[RD.v sv _ it.it.no rd|cH]
  ·let wI:b≠q:=λz=>hb (by rw[z];simp)
   rw[aU wI];erw[fZ _ _ eb]
end
section
def jm(S:bQ):bQ:=match S.os with |o::os=>{S with pl:=j9 S.pl o,ds:=S.ds.tail,os:=os,dn:=0} |[]=>S
theorem cg.tail{n:Nat}{ds:List aj}{os:List Itm}(h:cg n (d::ds) (o::os)):cg n ds os:=#[by have:=h.len;simpa using this,λi d' o' e1 e2=>h.it (i+1) d' o' (by simpa using e1) (by simpa using e2),λi ns sp e=>h.ok (i+1) ns sp (by simpa using e)]
theorem RowW.tail{ds:List aj}{os:List Itm}(h:RowW (d::ds) (o::os)):RowW ds os:=λi d' e1 e2=>h (i+1) d' (by simpa using e1) (by simpa using e2)
structure md(M:ck)(D:Nat)(S:bQ):Prop where
 row:cg M.rs.length S.ds S.os
 rw:RowW S.ds S.os
 len:S.ds.length<=20
 bO:10<=S.rate
 rt2:S.rate<=200
 pl:S.pl.length=M.rs.length
 pd:Dd (D+10) S.pc
 pm:S.pc<=1600
 stp:qL D S.pc S.stp
 D1:64<=D
 D2:D<=1500
theorem cE.raw{D:Nat}(h:cE M D S):md M D S:=#[h.row,h.rw,h.len,h.bO,h.rt2,h.pl,h.pd,h.pm,h.stp,h.D1,h.D2]
theorem md.ok{M:ck}{D:Nat}{S:bQ}(h:md M D S)(hd:S.dn=0\/∃ns sp,S.os[0]? =some (some (ns,sp))/\S.dn<aF ns):cE M D S:=#[h.row,h.rw,h.len,h.bO,h.rt2,hd,h.pl,h.pd,h.pm,h.stp,h.D1,h.D2]
theorem md.end{D:Nat}(h:md M D S)(hn:S.os≠[]):cE M D (jm S):=by let(pl,dn,ds,os,pc,rate,side,mark,stp):=S;cases os with |nil=>exact(hn Z).elim |cons o os=>let ll:=h.row.len;cases ds with |nil=>simp at ll |cons d ds=>
 erw[h.row.tail,h.rw.tail,?_,h.bO,h.rt2,.inl Z,?_,h.pd,h.pm,h.stp,h.D1,h.D2]
 ·have:=h.len
  simp only[kh]at this;show ds.length<=20
  lia
 ·erw[WN h.pl λns sp e=>(h.row.ok 0 ns sp (by rw[<-e];rfl)).1.len]
theorem abS(xs:List V):kX xs (some 1) none=xs.drop 1:=Kq xs
theorem O0:bu ["self"] ["self"] (aX PZ):=bD aP
inductive aei(C:Addr)(vs:List V)(H:Hp)(Q:VK):Prop |mk a q M D S(_:vs=[.ref a])(_:da C H a q M S)(_:md M D S)(_:M.Ok)(_:S.os≠[])(_:∀q' H',da C H' a q' M (jm S)->H q'=none->dJ [a] H H'->Q .bM H')
def a0x(C:Addr):Sp:=λvs H Q _=>aei C vs H Q
theorem Sx(AA:a1v)(RR:gT K mg C):a1q C "end_first" 3 (a0x C):=by
 exists RR.a6m.has,O0,fo λ_=>rfl
 ·let(a,q,M,D,S,rfl,R,ok,aK,hn,k):=h
  let(dx,mv,bv,cS,tv,e,r1,r2,r3,r4):=R.ob;let(ys,eq,rq):=R.qu;let aq:=R.ne;let nd:=O0.nd;let lr:=aK.len;let ll:=ok.row.len;erw[_,%[jf RR.tc.cl RR.tc.yI o0 (pf (HW AA) hr %[dE RR.tc.cl RR.tc.yI o0,px K (dE RR.tc.cl RR.tc.kR o0) aB|az]),jf RR.tc.cl RR.tc.kR o0 (vM (vE K rfl) (dE RR.tc.cl RR.tc.kR o0) (uo aB) yh),jf RR.tc.cl RR.tc.si o0 aB|aG],?_];let(pl,dn,ds,os,pc,rate,side,mark,stp):=S;cases os with |nil=>exact(hn Z).elim |cons o os=>cases ds with |nil=>simp at ll |cons d ds=>
   let(y,yr,rfl,ry,rr):=rq.cons_inv;let it:itR d o:=ok.row.it 0 d o Z rfl;let lp:pl.length=M.rs.length:=ok.pl;erw[_,Z,a,dx,_,_,Z,e,Z,?_];erw[_,Z,a,dx,_,_,Z,e,Z,.inl #[q,_,0,y,Z,Z,aL.of eq,cI (fD 0) Z,?_]];erw[bv,y,pl,d,o,Z,r2,ry,it,λns sp e'=>by rw[lp];exact(ok.row.ok 0 ns sp (by rw[<-e'];rfl)).1.len,aw,λu H1 ru s1=>?_];let e1:=s1 _ _ e;erw[_,Z,a,dx,_,Z,e1,by show 9<1000;decide,?_];let eq1:(_L.upd H1 a (.ins C dx (gM mv u (.int dn) (.ref q) cS (.int rate) (.str side) (.str mark) tv))) q=some (.lst (y::yr)):=by rw[aU aq.symm];erw[s1 _ _ eq]
   erw[_,Z,a,dx,_,_,Z,bP,Z,_,Z,q,_,Z,.inl #[aL.of eq1,λq' H2 n2=>?_]];let e2:=n2.same _ _ (bP (a:=a));erw[_,Z,a,dx,_,Z,e2,by show 9<1000;decide,?_];erw[_,Z,a,dx,_,Z,bP,by show 9<1000;decide,?_];let KS:a≠q':=λz=>by have:=n2.no;rw[<-z,bP]at this;cases this
   let key:∀X:Hp,(∀b,b≠a->X b=H2 b)->Q .bM (_L.upd X a (.ins C dx (gM mv u (.int 0) (.ref q') cS (.int rate) (.str side) (.str mark) tv))):=by
    intro X hX;let bt:dJ [a] H (_L.upd X a (.ins C dx (gM mv u (.int 0) (.ref q') cS (.int rate) (.str side) (.str mark) tv))):=λb o' eb hb=>by let ha:b≠a:=λz=>hb (by rw[z];erw[.head _]);rw[aU ha,hX b ha];erw[n2.same _ _ (by rw[aU ha];erw[s1 _ _ eb])]
    let sv:=bt.v λx hx o' eo=>by rw[gm]at hx;rw[hx,e]at eo;cases eo;trivial
    let ZX:cZ H1 (_L.upd X a (.ins C dx (gM mv u (.int 0) (.ref q') cS (.int rate) (.str side) (.str mark) tv))):=λb o' nb eb=>by
     let ha:b≠a:=λz=>by rw[z,e1]at eb;cases eb;erw[nb trivial]
     rw[aU ha,hX b ha];erw[n2.same _ _ (by rw[aU ha];erw[eb])]
    let ji:=n2.at';rw[abS]at ji;erw[k q' _ #[#[dx,mv,u,cS,tv,bP,RD.v sv _ (oJ _ _ _ _ _) r1,RD.v ZX _ (jS _) ru,r3.v sv,r4.v sv],yr,?_,?_] ?_ bt]
    ·rw[aU KS.symm,hX q' KS.symm];erw[ji]
    ·erw[aI.v sv _ ok.row.tail.no rr]
    ·cases e':H q' with |none=>rfl |some o'=>let h1:=s1 _ _ e';let h2:=n2.no;rw[aU KS.symm,h1]at h2;cases h2
   erw[key _ (λb hb=>by rw[aU hb])]
theorem mn4(h:q=x\/q=y\/q=z\/q=u)(h1:q<=x)(h2:q<=y)(h3:q<=z)(h4:q<=u):mn (mn (mn x y) z) u=q:=by
 erw[qS ?_ (gE (gE (gE h1 h2) h3) h4)];rcases h with h|h|h|h
 ·rw[h];erw[bW (dR _ _) (bW (dR _ _) (dR _ _))]
 ·rw[h];erw[bW (dR _ _) (bW (dR _ _) (fw _ _))]
 ·rw[h];erw[bW (dR _ _) (fw _ _)]
 ·rw[h];erw[fw _ _]
theorem U9(dl:H l=some (.lst [u1,u2,u3]))(R1:bj H u1 x)(R2:bj H u2 y)(R3:bj H u3 z)(b1:Bd 2000 x)(b2:Bd 2000 y)(b3:Bd 2000 z)(k:∀v,bj H v (mn (mn x y) z)->Q v H):y6 [.ref l] H Q E0:=by
 erw[l,[u1,u2,u3],[x,y,z],Z,aL.of dl,#[R1,b1,R2,b2,R3,b3,trivial],by simp,λc v q e1 e2 hq=>k v ?_];let e:mn (mn x y) z=q:=by
  erw[Ts ?_ (hq _ (by simp)) (hq _ (by simp)) (hq _ (by simp))]
  match c,e2 with |0,e2=>cases e2;erw[.inl rfl] |1,e2=>cases e2;erw[.inr (.inl rfl)] |2,e2=>cases e2;erw[.inr (.inr rfl)]
 rw[e]
 match c,e1,e2 with |0,e1,e2=>cases e1;cases e2;erw[R1] |1,e1,e2=>cases e1;cases e2;erw[R2] |2,e1,e2=>cases e1;cases e2;erw[R3]
theorem U8{t:Rat}(dl:H l=some (.lst [u1,u2,u3,u4]))(R1:bj H u1 x)(R2:bj H u2 y)(R3:bj H u3 z)(R4:bj H u4 t)(b1:Bd 2000 x)(b2:Bd 2000 y)(b3:Bd 2000 z)(b4:Bd 2000 t)(k:∀v,bj H v (mn (mn (mn x y) z) t)->Q v H):y6 [.ref l] H Q E0:=by
 erw[l,[u1,u2,u3,u4],[x,y,z,t],Z,aL.of dl,#[R1,b1,R2,b2,R3,b3,R4,b4,trivial],by simp,λc v q e1 e2 hq=>k v ?_];let e:mn (mn (mn x y) z) t=q:=by
  erw[mn4 ?_ (hq _ (by simp)) (hq _ (by simp)) (hq _ (by simp)) (hq _ (by simp))]
  match c,e2 with |0,e2=>cases e2;erw[.inl rfl] |1,e2=>cases e2;erw[.inr (.inl rfl)] |2,e2=>cases e2;erw[.inr (.inr (.inl rfl))] |3,e2=>cases e2;erw[.inr (.inr (.inr rfl))]
 rw[e]
 match c,e1,e2 with |0,e1,e2=>cases e1;cases e2;erw[R1] |1,e1,e2=>cases e1;cases e2;erw[R2] |2,e1,e2=>cases e1;cases e2;erw[R3] |3,e1,e2=>cases e1;cases e2;erw[R4]
theorem Fg{D:Nat}{q:Rat}{z:Int}(h:Dd D q)(hl:q<=1600)(hz:0<=z)(Bn:z<2^24)(hD:D<=1700):Bd 2000 (q+(z:Rat)):=by let b:Bd (D+11) q:=h.bd (bW hl aP);exact(jH b aw).mono aw
theorem NU:bu ["self","top","reach","left","rise","fall","middles","ends","square","steps","gone","still"] ["self","top","reach","left"] (aX PJ):=bD aP
def Ia(M:ck)(S:bQ)(top R:Rat)(left:Int):bQ:={S with pc:=nM M.r M.f S.pc top R left S.stp,stp:=vV S.stp}
inductive aeb(C:Addr)(vs:List V)(H:Hp)(Q:VK):Prop |mk a q M D S tv Rv top R left(_:vs=[.ref a,tv,Rv,.int left])(_:da C H a q M S)(_:cE M D S)(_:M.Ok)(_:bj H tv top)(_:Dd 14 top)(_:top<=1600)(_:bj H Rv R)(_:Dd 64 R)(_:R<=1600)(qq:1<=left)(sS:left<=100)(wK:¬Halt S.pc S.stp)(Ju:∀v H',bj H' v (kz M.r M.f S.pc top R left S.stp)->da C H' a q M (Ia M S top R left)->dJ [a] H H'->Q v H')
def a0s(C:Addr):Sp:=λvs H Q _=>aeb C vs H Q
theorem a4r(AA:a1v)(RR:gT K mg C):a1q C "next_square" 5 (a0s C):=by
 exists RR.a6d.has,NU,uT λ_ _ _ _=>rfl
 ·let(a,q,M,D,S,tv,Rv,top,R,left,rfl,R0,ok,aK,rt,td,tl,rR,Rd,Rl,l1,l2,nh,k):=h
  let(dx,mv,bv,cS,sv,e,r1,r2,r3,r4):=R0.ob;let(ys,eq,rq):=R0.qu;let aq:=R0.ne;let nd:=NU.nd;let kr:=aK.r1;let j8:=aK.f1;let D1:=ok.D1;let D2:=ok.D2;let lW:(2:Int)^24=16777216:=by decide
  let(ma,mb,rfl,fS,lU):=mM r1;erw[_,%[rL (i:=4) (j:=5) Z nd Z Z aA Z Z %[px K (dE RR.tc.cl RR.tc.uy o0) aB,px K (dE RR.tc.cl RR.tc.uy o0) aB|az] rfl,(pS 6 nd (cX %[pf (rX AA) hr %[dE RR.tc.cl RR.tc.ux o0,4|az],1,pf (rX AA) hr %[2,aO bR P3 (aO fE (aO bR aB L2) aB)|az]|az])),(pS 7 nd (cX %[pf (rX AA) hr %[dE RR.tc.cl RR.tc.ux o0,aO bR aB M2|az],1,pf (rX AA) hr %[2,aO bR (aO bR aB P3) (aO fE L2 aB)|az]|az])),(je (bw (cf (lR (HU RR) RR.tc.cl (hr.mono aA) o0)) %[fe (dE RR.tc.cl RR.tc.yH o0) (cW K rfl (n:=3) rfl %[aZ 8 nd,aZ 9 nd,aZ 10 nd|cU]),pS 11 nd (aO fE (aO fE a1j (pv 10)) aB),(eJ (iQ K Z W1 %[(pf (Sn AA) hr %[8,pf (AS AA) hr %[aO cM (aO bR aB (pv 11)) aB,aO bR aB a1j|az]|az])|az])),(eJ (iQ K Z a1b %[(pf (Sn AA) hr %[8,pf (AS AA) hr %[11,9|az]|az])|az])),jf RR.tc.cl RR.tc.yH o0 (cQ %[8,9,aO cM (pv 10) aB|az])|aG] bC)),jf RR.tc.cl RR.tc.ux o0 (pf (Ek AA) hr %[7|az]),aR (pf (Ek AA) hr %[6|az])|aG],?_];erw[_,Z,a,dx,_,_,Z,e,Z,.inr #[ma,_,1,.int M.r,Z,Z,fS,Z,?_]];erw[_,Z,a,dx,_,_,Z,e,Z,.inr #[ma,_,2,.int M.f,Z,Z,fS,Z,_,_,Z,?_]];let fl1:(M.f*(2*left-1)).natAbs<=50*200:=by rw[gL];erw[oo aw aw]
  let a9H:0<=M.f*(2*left-1):=iy aw aw;let fl2:(2*M.f*(left-1)).natAbs<=100*100:=by rw[gL];erw[oo aw aw]
  let a9G:0<=2*M.f*(left-1):=iy aw aw;let S6:Bd 2000 S.pc:=(ok.pd.bd (bW ok.pm aP)).mono aw;let RB:Bd 2000 R:=(Rd.bd (bW Rl aP)).mono aA;let tB:Bd 2000 top:=(td.bd (bW tl aP)).mono aA;let B1:Bd 2000 (S.pc+(M.r:Rat)):=Fg ok.pd ok.pm aw aw aw;let B2:Bd 2000 (R+((M.f*(2*left-1):Int):Rat)):=Fg Rd Rl a9H aw aw;let B3:Bd 2000 (S.pc+((2*M.r:Int):Rat)):=Fg ok.pd ok.pm aw aw aw;let B4:Bd 2000 (R+((2*M.f*(left-1):Int):Rat)):=Fg Rd Rl a9G aw aw;erw[_,Z,a,dx,_,_,Z,e,Z,_,Z,cS,_,_,Z,r3,S6,aw,λu1 H1 jR s1=>?_];erw[_,Z,_,Z,_,Z,_,Z,_,_,Z,Z,.of_left (cw aA aA),_,_,Z,Z,_,_,Z,Z,.of_left (cw aw aw),Rv,_,_,Z,rR.go s1,RB,aw,λu2 H2 oA s2=>?_];erw[bG Z,λlm H3 n3=>?_];let eG:=s1.trans (s2.trans n3.same);erw[_,Z,a,dx,_,_,Z,eG _ _ e,Z,_,Z,_,_,Z,Z,.of_left (cw aA aA),cS,_,_,Z,r3.go eG,S6,aw,λu3 H4 ru3 s4=>?_];let fZ:=eG.trans s4;erw[_,Z,_,Z,_,Z,_,_,Z,Z,.of_left (cw aA aA),_,Z,_,_,Z,Z,_,_,Z,Z,.of_left (cw aw aw),Rv,_,_,Z,rR.go fZ,RB,aw,λu4 H5 ru4 s5=>?_];erw[bG Z,λle H6 n6=>?_];let jx:=fZ.trans (s5.trans n6.same);let jw:=s4.trans (s5.trans n6.same);let e6:=jx _ _ e;let R6:=R0.same ok.row.no jx;let U1:=jR.go (s2.trans (n3.same.trans jw));let U2:=oA.go (n3.same.trans jw);let U3:=ru3.go (s5.trans n6.same);let U4:=ru4.go n6.same;let T6:=rt.go jx;let dm:=jw _ _ n3.at';let de:=n6.at';let KU:a≠lm:=λz=>by have:=n3.no;rw[<-z,(s1.trans s2) _ _ e]at this;cases this
  let Xf:a≠le:=λz=>by have:=n6.no;rw[<-z,(fZ.trans s5) _ _ e]at this;cases this
  let TQ:lm≠le:=λz=>by have:=n6.no;rw[<-z,(s4.trans s5) _ _ n3.at']at this;cases this
  let nlm:H lm=none:=by cases e':H lm with |none=>rfl |some o=>have:=(s1.trans s2) _ _ e';rw[n3.no]at this;cases this
  let nle:H le=none:=by cases e':H le with |none=>rfl |some o=>have:=(fZ.trans s5) _ _ e';rw[n6.no]at this;cases this
  erw[λO H7=>∃vy w8 w9 jP kj um ue,O=[some (.ref a),some tv,some Rv,some (.int left),some (.int M.r),some (.int M.f),some (.ref lm),some (.ref le),w8,w9,jP,kj]/\dJ [a,lm,le] H6 H7/\H7 a=some (.ins C dx (gM (.ref ma) bv (.int S.dn) (.ref q) cS (.int S.rate) (.str S.side) (.str S.mark) vy))/\zq H7 vy (vV S.stp)/\H7 lm=some (.lst um)/\H7 le=some (.lst ue)/\(∀H8 Q',cZ H7 H8->H8 lm=some (.lst um)->(∀v,bj H8 v (kz M.r M.f S.pc top R left S.stp)->Q' v H8)->y6 [.ref lm] H8 Q' E0)/\(∀H8 Q',cZ H7 H8->H8 le=some (.lst ue)->(∀v,bj H8 v (nM M.r M.f S.pc top R left S.stp)->Q' v H8)->y6 [.ref le] H8 Q' E0),?_,?_]
  ·erw[_,Z,a,dx,_,Z,e6,Z,a,q,M,D,S,Z,R6,ok,aK,_,Z,?_]
   cases hs:S.stp with |none=>rw[hs]at r4;erw[ba #[sv,_,_,_,_,_,_,Z,dJ.refl _ _,e6,r4,dm,de,λH8 Q' sV d8 kq=>U9 d8 (U1.v sV) (T6.v sV) (U2.v sV) B1 tB B2 kq,λH8 Q' sV d8 kq=>U9 d8 (U3.v sV) (T6.v sV) (U4.v sV) B3 tB B4 kq]] |some z=>
    let(sq,st,gn):=z;rw[hs]at r4;let sk:=ok.stp;rw[hs]at sk nh;let(g1,g2,g3):=yE sk ok.pd.nn nh;let(gn0,gn1,DI,GB,GA,_,_):=sk;let(ta,su,rfl,hta,hsu):=r4;erw[bA ?_];let a7u:=hta.go jx;let J9:=hsu.go jx;let MX:Bd 2000 sq:=(GB.bd GA).mono aw;erw[_,Z,a,dx,_,_,Z,e6,Z,ta,_,Z,a7u,Z,_,_,Z,_,_,Z,_,_,Z,Z,?_];erw[_,Z,_,Z,_,_,Z,Z,_,_,Z,Z,?_];let lW:sizeLine=16777216:=by decide
    erw[_,Z,.inl #[Z,_,aL.of dm],_,Z,_,Z,_,_,Z,Z,.of_left (cw aA aA),_,_,Z,Z,_,Z,_,_,Z,Z,.of_left (cw aA aA),_,_,Z,aw,jv (n:=64) aw aA,λfv H7 rf s7=>?_];let fB:Bd 2000 (Rat.divInt (2*(st-gn-1)+1) (2*st)):=(nL (n:=12) aw aw aw).mono aA;let fB2:Bd 2000 (Rat.divInt (st-gn-1) st):=(nL (n:=12) aw aw aw).mono aA;let pB:Bd 2000 (sq*Rat.divInt (2*(st-gn-1)+1) (2*st)):=((GB.bd GA).mul (nL (n:=12) aw aw aw)).mono aw;let pB2:Bd 2000 (sq*Rat.divInt (st-gn-1) st):=((GB.bd GA).mul (nL (n:=12) aw aw aw)).mono aw;erw[su,fv,sq,_,Z,J9.go s7,rf,MX,fB,λx1 H8 rx1 s8=>?_];let rC:=s7.trans s8;let W2:=rC _ _ dm;erw[lm,_,_,Z,Z,W2,by show 3<sizeLine;lia,?_];let v8:cZ H8 (_L.upd H8 lm (.lst ([u1,tv,u2]++[x1]))):=.upd W2 trivial;let Wg:(_L.upd H8 lm (.lst ([u1,tv,u2]++[x1]))) le=some (.lst [u3,tv,u4]):=by rw[aU TQ.symm];erw[rC _ _ de]
    erw[_,Z,.inl #[Z,_,aL.of Wg],_,Z,_,Z,_,Z,_,_,Z,aw,jv (n:=64) aw aA,λgv H9 rg s9=>?_];erw[su,gv,sq,_,Z,((J9.go rC).v v8).go s9,rg,MX,fB2,λx2 gB rx2 kP=>?_];let yb:=s9.trans kP;let Wh:=yb _ _ Wg;erw[le,_,_,Z,Z,Wh,by show 3<sizeLine;lia,?_];let v10:cZ gB (_L.upd gB le (.lst ([u3,tv,u4]++[x2]))):=.upd Wh trivial;erw[_,Z,_,Z,_,Z,_,_,Z,Z,bG Z,λtn jc kA=>?_];let YH:cZ H6 gB:=(rC.v.trans v8).trans yb.v;let YG:cZ H6 jc:=(YH.trans v10).trans kA.same.v;let e8:(_L.upd H8 lm (.lst ([u1,tv,u2]++[x1]))) a=some (.ins C dx (gM (.ref ma) bv (.int S.dn) (.ref q) cS (.int S.rate) (.str S.side) (.str S.mark) (.ref ta))):=by rw[aU KU];erw[rC _ _ e6]
    let VS:jc a=some (.ins C dx (gM (.ref ma) bv (.int S.dn) (.ref q) cS (.int S.rate) (.str S.side) (.str S.mark) (.ref ta))):=kA.same _ _ (by rw[aU Xf];erw[yb _ _ e8]);erw[_,Z,a,dx,_,Z,VS,by show 9<1000;decide,?_];let Dt:cZ jc (_L.upd jc a (.ins C dx (gM (.ref ma) bv (.int S.dn) (.ref q) cS (.int S.rate) (.str S.side) (.str S.mark) (.ref tn)))):=.upd VS trivial;let vt:=YG.trans Dt;let YF:=(((v8.trans yb.v).trans v10).trans kA.same.v).trans Dt;let YJ:=(v10.trans kA.same.v).trans Dt;erw[.ref tn,_,_,_,_,[u1,tv,u2,x1],[u3,tv,u4,x2],Z,λb o' eb hb=>?_,bP,#[tn,su,Z,aW.v Dt (aW.of kA.at'),J9.v vt],?_,?_,λH' Q' sV d' kq=>?_,λH' Q' sV d' kq=>?_]
    ·let ha:b≠a:=λz=>hb (by rw[z];simp)
     let hlm:b≠lm:=λz=>hb (by rw[z];simp);let hle:b≠le:=λz=>hb (by rw[z];simp);rw[aU ha];erw[kA.same _ _ (by rw[aU hle];erw[yb _ _ (by rw[aU hlm];erw[rC _ _ eb])])]
    ·rw[aU KU.symm]
     erw[kA.same _ _ (by rw[aU TQ];erw[yb _ _ bP])]
    ·rw[aU Xf.symm]
     erw[kA.same _ _ bP]
    ·erw[U8 d' ((U1.v vt).v sV) ((T6.v vt).v sV) ((U2.v vt).v sV) ((rx1.v YF).v sV) B1 tB B2 pB kq]
    ·erw[U8 d' ((U3.v vt).v sV) ((T6.v vt).v sV) ((U4.v vt).v sV) ((rx2.v YJ).v sV) B3 tB B4 pB2 kq]
  ·rintro O H7 ⟨vy,w8,w9,jP,kj,um,ue,rfl,bt,e7,mC,dm7,de7,km,ke⟩
   erw[_,Z,?_];dsimp only[xW];erw[ke H7 _ .refl de7 λpe rpe=>?_];erw[_,Z,a,dx,_,Z,e7,by show 9<1000;decide,?_];let v8:cZ H7 (_L.upd H7 a (.ins C dx (gM (.ref ma) bv (.int S.dn) (.ref q) pe (.int S.rate) (.str S.side) (.str S.mark) vy))):=.upd e7 trivial;erw[_,Z,?_];dsimp only[xW];erw[km _ _ v8 (by rw[aU KU.symm];erw[dm7]) λv rv=>?_];let bH:dJ [a] H (_L.upd H7 a (.ins C dx (gM (.ref ma) bv (.int S.dn) (.ref q) pe (.int S.rate) (.str S.side) (.str S.mark) vy))):=λb o' eb hb=>by
    let ha:b≠a:=λz=>hb (by rw[z];simp);rw[aU ha];erw[bt b o' (jx _ _ eb) λhm=>?_];simp only[dg,gk,jJ]at hm;rcases hm with h|h|h
    ·erw[ha h]
    ·rw[h,nlm]at eb;cases eb
    ·rw[h,nle]at eb;cases eb
   let vH:cZ H (_L.upd H7 a (.ins C dx (gM (.ref ma) bv (.int S.dn) (.ref q) pe (.int S.rate) (.str S.side) (.str S.mark) vy))):=bH.v λx hx o' eo=>by rw[gm]at hx;rw[hx,e]at eo;cases eo;trivial
   erw[k v _ rv #[#[dx,.ref ma,bv,pe,vy,bP,RD.v vH _ (oJ _ _ _ _ _) r1,RD.v vH _ (jS _) r2,rpe.v v8,mC.v v8],ys,bH _ _ eq (by rw[gm];erw[aq.symm]),aI.v vH _ ok.row.no rq] bH]
end
end _c
set_option maxHeartbeats 2000000
namespace _c
open PySem PySem.Spec PyProof.Rows _L _d _l _C _P _W _R
open _O (topR cornO mnO betR atO ownF leadF ownL OkI OkIs)
section
noncomputable def fc(M:ck)(S:bQ):Rat:=uf M.f M.j S.rate S.os
noncomputable def wj(M:ck)(S:bQ)(ns:List Int)(sp:Int):Rat:=kz M.r M.f S.pc (topR S.rate sp) (fc M S) ((aF ns:Int)-S.dn) S.stp
noncomputable def pZ(M:ck)(S:bQ)(ns:List Int)(sp:Int):aj:=jQ M.t (eH ns S.dn) (wj M S ns sp)
noncomputable def gf(M:ck)(S:bQ)(ns:List Int)(sp:Int):bQ:={Ia M S (topR S.rate sp) (fc M S) ((aF ns:Int)-S.dn)with dn:=S.dn+1}
def gr(ns:List Int)(S:bQ):bQ:=if S.dn=aF ns then jm S else S
def dw(d:aj)(S:bQ):bQ:=match d with | .tuple [.str w,.str s]=>if w="tool" then{S with side:=s}else if w="mark" then{S with mark:=s}else S |_=>S
inductive One(M:ck):bQ->aj->bQ->Prop |line {S:bQ}{ns:List Int}{sp:Int}:S.os[0]? =some (some (ns,sp))->¬Halt S.pc S.stp->One M S (pZ M S ns sp) (gr ns (gf M S ns sp)) |dQ {S:bQ}{d:aj}:S.os[0]? =some none->S.ds[0]? =some d->¬Halt S.pc S.stp->One M S d (jm (dw d S))
inductive Run(M:ck):bQ->List aj->bQ->Prop |nil (S:bQ):Run M S [] S |cons {S S1 S2:bQ}{e:aj}{es:List aj}:One M S e S1->Run M S1 es S2->Run M S (e::es) S2
theorem Run.trans{fs:List aj}(h:Run M S es S1)(g:Run M S1 fs S2):Run M S (es++fs) S2:=by induction h with |nil=>erw[g] |cons o _ ih=>erw[.cons o (ih g)]
theorem Run.snoc{M:ck}{S S1 S2:bQ}{es:List aj}{e:aj}(h:Run M S es S1)(g:One M S1 e S2):Run M S (es++[e]) S2:=h.trans (.cons g (.nil _))
theorem DN{D:Nat}(h:md M D S)(d:aj):md M D (dw d S)/\(dw d S).os=S.os/\(dw d S).ds=S.ds/\(dw d S).dn=S.dn/\(dw d S).pl=S.pl:=by
 unfold dw;split
 ·split
  ·erw[#[h.row,h.rw,h.len,h.bO,h.rt2,h.pl,h.pd,h.pm,h.stp,h.D1,h.D2],Z,Z,Z,Z]
  ·split
   ·erw[#[h.row,h.rw,h.len,h.bO,h.rt2,h.pl,h.pd,h.pm,h.stp,h.D1,h.D2],Z,Z,Z,Z]
   ·erw[h,Z,Z,Z,Z]
 ·erw[h,Z,Z,Z,Z]
theorem DX{D:Nat}(h:md M D S)(aK:M.Ok)(hn:S.os≠[]):Dd 64 (fc M S)/\fc M S<=1600:=by
 let h1:1<=S.os.length:=by cases e:S.os with|nil=>exact(hn e).elim|cons _ _=>simp
 erw[a9E (by have:=aK.f1;lia) (λi _=>a3Q aK.j1.1 aK.j1.2 h.bO h.rt2 h.row.nK i) 1 h1,?_];erw[bW (BP h1) (a3O h.bO h.rt2 h.row.nK 1)]
theorem IE{D:Nat}(h:md M D S)(aK:M.Ok)(eo:S.os[0]? =some (some (ns,sp)))(hd:S.dn<aF ns)(nh:¬Halt S.pc S.stp):md M D (gf M S ns sp):=by
 let hn:S.os≠[]:=λe=>by rw[e]at eo;simp at eo
 let(R1,R2):=DX h aK hn;let(bT,s1,s2):=h.row.ok 0 ns sp eo;let D1:=h.D1;let kr:=aK.r1;let j8:=aK.f1;erw[h.row,h.rw,h.len,h.bO,h.rt2,h.pl,?_,?_,?_,h.D1,h.D2]
 ·erw[abg aw aw aw h.pd ((Gq _ _).mono aw) (R1.mono aw) h.stp nh]
 ·erw[bW VB (Dy s1 s2 h.bO h.rt2)]
 ·erw[a02 h.stp h.pd.nn nh]
theorem One.ok{M:ck}{D:Nat}{S S1:bQ}{e:aj}(h:cE M D S)(aK:M.Ok)(o:One M S e S1):cE M D S1:=by cases o with
 |@line ns sp eo nh=>
  let hd:S.dn<aF ns:=by
   rcases h.dn with e|⟨gD,iB,e1,e2⟩
   ·rw[e];exact(h.row.ok 0 ns sp eo).1.lead.1
   ·rw[eo]at e1;cases e1;erw[e2]
  let raw:=IE h.raw aK eo hd nh;let hn:S.os≠[]:=λe=>by rw[e]at eo;simp at eo
  unfold gr;split
  ·erw[raw.end hn]
  ·next dM=>
   erw[raw.ok (.inr #[ns,sp,eo,?_])];have:(gf M S ns sp).dn=S.dn+1:=rfl
   lia |dQ eo ed nh=>let(h1,h2,_):=DN h.raw e;erw[h1.end ?_];rw[h2];intro z;rw[z]at eo;simp at eo
theorem Run.ok{M:ck}{D:Nat}{S S1:bQ}{es:List aj}(h:cE M D S)(aK:M.Ok)(r:Run M S es S1):cE M D S1:=by induction r with |nil=>erw[h] |cons o _ ih=>erw[ih (o.ok h aK)]
theorem One.no{D:Nat}(h:cE M D S)(o:One M S e S1):dG e=true:=by cases o with |line _ _=>erw[Aa _ _ _] |dQ eo ed _=>erw[cj.mp h.row.no _ (gZ ed)]
theorem Run.no{D:Nat}{es:List aj}(h:cE M D S)(aK:M.Ok)(r:Run M S es S1):bS es=true:=by induction r with |nil=>rfl |cons o _ ih=>rw[bS,fY];erw[o.no h,ih (o.ok h aK)]
theorem EG{b:Bool}{A B A' B':Prop}(h1:A->A')(h2:B->B'):(if b=true then A else B)->(if b=true then A' else B'):=by
 cases b
 ·erw[h2]
 ·erw[h1]
theorem NT:bu ["self","most","line","lead","rows","top","reach","told","middle"] ["self","most"] (aX PC):=bD aP
inductive aea(C:Addr)(vs:List V)(H:Hp)(Q:VK):Prop |mk a q M D S ns sp most(_:vs=[.ref a,.int most])(_:da C H a q M S)(_:cE M D S)(_:M.Ok)(_:S.os[0]? =some (some (ns,sp)))(_:¬Halt S.pc S.stp)(_:1<=most)(_:most<=1000)(_:∀l ys es S' q' H',H l=none->H' l=some (.lst ys)->aI K H' ys es->Run M S es S'->1<=es.length->(es.length:Int)<=most->da C H' a q' M S'->Mv a q H q' H'->l≠q'->Q (.ref l) H')
def N6(C:Addr):Sp:=λvs H Q _=>aea C vs H Q
theorem a4q(AA:a1v)(RR:gT K mg C)(a7A:a1k "step_entry" 3 GI):a1q C "steps_of_first" 10 (N6 C):=by
 exists RR.a68.has,NT,dY λ_ _=>rfl
 ·let(a,q,M,D,S,ns,sp,most,rfl,R0,ok,aK,eo,nh,m1,m2,k):=h
  let(dx,mv,bv,cS,tv,e,r1,r2,r3,r4):=R0.ob;let(ys,eq,rq):=R0.qu;let aq:=R0.ne;let nd:=NT.nd;let lr:=aK.len;let kr:=aK.r1;let j8:=aK.f1;let ll:=ok.row.len;let z9:=ok.len;let ER:0<S.os.length:=(cm.mp eo).1;let dM:S.os≠[]:=λz=>by rw[z]at ER;erw[absurd ER aA]
  obtain⟨d,ed⟩:∃d,S.ds[0]? =some d:=#[_,bo (show 0<S.ds.length by lia)];let(y,ey,ry):=rq.get 0 ed;let ij:=jC (ok.row.it 0 d _ ed eo);subst ij;let(bT,cR,dh):=ok.row.ok 0 ns sp eo;let HR:fA ns.length 1000 ns:=#[Z,λz hz=>by have:=bT.bd z hz;lia,bT.nz];let agv:=bT.lead.1;let mQ:=mO bT;let AZ:ns.length<=3:=by rw[bT.len];lia
  let hd0:S.dn<aF ns:=by
   rcases ok.dn with e'|⟨gD,iB,e1,e2⟩
   ·lia
   ·rw[eo]at e1;cases e1;erw[e2]
  let(Rd,Rl):=DX ok.raw aK dM;erw[_,%[pS 2 nd (px K (dE RR.tc.cl RR.tc.kR o0) aB),pS 3 nd (pf (yx AA) hr %[2|az]),pS 4 nd (pf (Ss AA) hr %[2|az]),pS 5 nd (pf (AQ AA) hr %[2,dE RR.tc.cl RR.tc.B8 o0|az]),pS 6 nd (pf (a4x AA) hr %[dE RR.tc.cl RR.tc.uy o0,dE RR.tc.cl RR.tc.kR o0,dE RR.tc.cl RR.tc.B8 o0|az]),pS 7 nd (cX az),(je (pM eO (PW.pt (mG (bL ky (cY K AA.B %[7|az]) u8 (bf _)) (mG (bL ky (dE RR.tc.cl RR.tc.si o0) L2 (bf _)) (pL (dj (cf (lR (Su AA RR) RR.tc.cl (hr.mono aA) o0))))))) %[pS 8 nd (rQ (a4r AA RR) RR.tc.cl (hr.mono aA) o0 %[5,6,aO fE L2 (dE RR.tc.cl RR.tc.si o0)|az]),(eJ (iQ K Z a1b %[pf a7A hr %[dE RR.tc.cl RR.tc.uy o0,px K M2 (dE RR.tc.cl RR.tc.si o0),8|az]|az])),a3d RR.tc.cl RR.tc.si o0 aB a73|aG])),je (bw (bL (cJ K Z hr.units) (dE RR.tc.cl RR.tc.si o0) L2 (bf _)) (aG (eJ (lR (Sx AA RR) RR.tc.cl (hr.mono aA) o0))) bC),aR a1b|aG],?_];erw[_,Z,a,dx,_,_,Z,e,Z,.inl #[q,_,0,y,Z,Z,aL.of eq,cI (fD 0) ey,?_]];erw[_,Z,y,ns,sp,Z,ry,bT.ne,aw,λH1 s1=>?_];erw[_,Z,y,ns,sp,Z,RD.mono s1 _ ry,HR,aw,λpY yr H2 nlr W3 Rw s2=>?_];let iD:=s1.trans s2;erw[_,Z,_,Z,a,dx,_,_,Z,iD _ _ e,Z,y,ns,sp,S.rate,Z,RD.mono iD _ ry,cR,dh,ok.bO,ok.rt2,λvw H3 rtp s3=>?_];let eG:=iD.trans s3;let e3:=eG _ _ e;erw[_,Z,a,dx,_,_,Z,e3,Z,_,Z,a,dx,_,_,Z,e3,Z,_,Z,a,dx,_,_,Z,e3,Z,mv,.ref q,S.rate,M.rs,M.r,M.f,M.j,M.t,S.ds,S.os,Z,RD.mono eG _ r1,aK,rH (aL.of (eG _ _ eq)) (aI.mono eG _ rq),ok.row,aw,aw,ok.bO,ok.rt2,λvK H4 rrc s4=>?_];let fZ:=eG.trans s4;erw[bG Z,λl H5 n5=>?_];let mE:=fZ.trans n5.same;let QS:aH H2 H5:=s3.trans (s4.trans n5.same);let nl:H l=none:=by cases e':H l with |none=>rfl |some o=>have:=fZ _ _ e';rw[n5.no]at this;cases this
  let SY:H pY=none:=by cases e':H pY with |none=>rfl |some o=>have:=s1 _ _ e';rw[nlr]at this;cases this
  let al:a≠l:=λz=>by rw[<-z,e]at nl;cases nl
  let ql:q≠l:=λz=>by rw[<-z,eq]at nl;cases nl
  let Xd:a≠pY:=λz=>by rw[<-z,e]at SY;cases SY
  let llr:l≠pY:=λz=>by have:=n5.no;rw[z,(s3.trans s4) _ _ W3]at this;cases this
  let Yu:=Rw.length;rw[u9]at Yu;let td:=Gq S.rate sp;let tl:=Dy cR dh ok.bO ok.rt2;let tp:=Dx cR ok.bO;let a5i:gr ns S=S:=by unfold gr;rw[aV aw]
  let lW:sizeLine=16777216:=by decide
  erw[λO H6=>∃T es us w8,O=[some (.ref a),some (.int most),some y,some (.int (aF ns)),some (.ref pY),some vw,some vK,some (.ref l),w8]/\dJ [a,l] H5 H6/\da C H6 a q M T/\md M D T/\T.os=S.os/\T.ds=S.ds/\T.rate=S.rate/\T.dn<=aF ns/\1<=es.length/\(es.length:Int)<=most/\H6 l=some (.lst us)/\aI K H6 us es/\bS es=true/\Run M S es (gr ns T),?_,?_]
  ·erw[jZ ?_];intro E1
   erw[pD (λO H6=>∃T es us w8,O=[some (.ref a),some (.int most),some y,some (.int (aF ns)),some (.ref pY),some vw,some vK,some (.ref l),w8]/\dJ [a,l] H5 H6/\da C H6 a q M T/\md M D T/\T.os=S.os/\T.ds=S.ds/\T.rate=S.rate/\T.dn=S.dn+es.length/\T.dn<=aF ns/\(es.length:Int)<=most/\H6 l=some (.lst us)/\aI K H6 us es/\bS es=true/\Run M S es (gr ns T)/\(es=[]->¬Halt T.pc T.stp)) (λ_ H6=>match H6 l with|some (.lst us)=>2000-us.length|_=>0) ?_ ?_ ?_]
   ·erw[S,[],[],none,Z,dJ.refl _ _,R0.same ok.row.no mE,ok.raw,Z,Z,Z,Z,aw,by simp;lia,n5.at',cH,Z,by rw[a5i];erw[.nil _],λ_=>nh]
   ·rintro O H6 ⟨T,es,us,w8,rfl,bt,RT,raw,gH,jD,kE,qE,UM,sN,dl,rd,lT,run,hnh⟩
    let lu:=rd.length;let(wZ,mv6,bv6,a3J,YX,e6,t1,t2,t3,t4):=RT.ob;let Gm:cZ H5 H6:=bt.v λx hx o' eF=>by
     simp only[dg,gk,jJ]at hx;rcases hx with rfl|rfl
     ·rw[mE _ _ e]at eF;cases eF;trivial
     ·rw[n5.at']at eF;cases eF;trivial
    let nos:bS T.ds=true:=by rw[jD];erw[ok.row.no]
    let zd:1<=es.length->∃T' qB nk Dq,[some (.ref a),some (.int most),some y,some (.int (aF ns)),some (.ref pY),some vw,some vK,some (.ref l),w8]=[some (.ref a),some (.int most),some y,some (.int (aF ns)),some (.ref pY),some vw,some vK,some (.ref l),Dq]/\dJ [a,l] H5 H6/\da C H6 a q M T'/\md M D T'/\T'.os=S.os/\T'.ds=S.ds/\T'.rate=S.rate/\T'.dn<=aF ns/\1<=qB.length/\(qB.length:Int)<=most/\H6 l=some (.lst nk)/\aI K H6 nk qB/\bS qB=true/\Run M S qB (gr ns T'):=λh1=>#[T,es,us,w8,Z,bt,RT,raw,gH,jD,kE,UM,h1,sN,dl,rd,lT,run];erw[_,Z,l,us,Z,.inl (aL.of dl),_,Z,_,_,Z,Z,_,Z,?_];show if decide ((us.length:Int)<most)=true then _ else _;by_cases c1:(us.length:Int)<most
    ·rw[cu c1]
     erw[bA ?_];erw[_,Z,a,wZ,_,_,Z,e6,Z,_,Z,_,_,Z,Z,_,Z,?_];show if decide ((T.dn:Int)<(aF ns:Int))=true then _ else _;by_cases c2:T.dn<aF ns
     ·rw[cu aw]
      erw[bA ?_];let SK:cE M D T:=raw.ok (.inr #[ns,sp,by rw[gH];erw[eo],c2]);let a5h:gr ns T=T:=by unfold gr;rw[aV aw]
      erw[_,Z,a,wZ,_,Z,e6,Z,a,q,M,D,T,Z,RT,SK,aK,_,Z,?_];by_cases c3:Halt T.pc T.stp
      ·let hb:(T.stp.isSome&&decide (T.pc=0))=true:=by let(h1,h2):=c3;rw[cu h2,M4];cases hs:T.stp with |none=>exact(h1 hs).elim |some _=>rfl
       rw[hb];erw[ba ?_];erw[zd ?_];cases es with |nil=>exact(hnh Z c3).elim |cons _ _=>simp
      ·let hb:(T.stp.isSome&&decide (T.pc=0))=false:=by cases hs:T.stp with |none=>rfl |some _=>show decide (T.pc=0)=false;erw[dP λh2=>c3 #[by rw[hs];simp,h2]]
       rw[hb];erw[bA ?_];let rT:fc M T=fc M S:=by unfold fc;rw[gH,kE]
       erw[_,Z,a,wZ,_,Z,e6,Z,?_];erw[_,Z,_,Z,_,Z,_,Z,a,wZ,_,_,Z,e6,Z,_,_,Z,Z,?_];let a2b:bj H6 vw (topR S.rate sp):=((rtp.go s4).go n5.same).v Gm;let a2g:bj H6 vK (fc M S):=(rrc.go n5.same).v Gm;erw[a,q,M,D,T,vw,vK,topR S.rate sp,fc M S,_,Z,RT,SK,aK,a2b,td,tl,a2g,Rd,Rl,aw,aw,c3,λmid H7 a2r R7 b7=>?_];let(uM,oG,Fm,E9,Dv,e7',MD,ZR,ZQ,ZP):=R7.ob;let e7:H7 a=some (.ins C uM (gM oG Fm (.int T.dn) (.ref q) E9 (.int T.rate) (.str T.side) (.str T.mark) Dv)):=e7';let Dr:cZ H6 H7:=b7.v λx hx o' eF=>by rw[gm]at hx;rw[hx,e6]at eF;cases eF;trivial
       let uO:=b7 _ _ dl (by rw[gm];erw[al.symm]);let abJ:=QS _ _ W3;let abI:=bt _ _ abJ (by simp;erw[Xd.symm,llr.symm]);let abH:=b7 _ _ abI (by rw[gm];erw[Xd.symm]);let a2u:aI K H7 yr (iY ns):=aI.v Dr _ (Ao ns) (aI.v Gm _ (Ao ns) (aI.mono QS _ Rw));obtain⟨rv,Vu⟩:∃rv,yr[T.dn]? =some rv:=#[_,bo (show T.dn<yr.length by lia)];let(dr,VO,rdr):=a2u.get' T.dn Vu;rw[Ap c2]at VO;cases VO;let mB:Bd 2000 (kz M.r M.f T.pc (topR S.rate sp) (fc M S) ((aF ns:Int)-T.dn) T.stp):=by let D1:=raw.D1;let D2:=raw.D2;exact((Tx aw aw aw raw.pd (td.mono aw) (Rd.mono aw) raw.stp c3).bd (bW Tv (bW tl aP))).mono aw
       let mP:0<kz M.r M.f T.pc (topR S.rate sp) (fc M S) ((aF ns:Int)-T.dn) T.stp:=Tw kr.1 j8.1 aw raw.pd.nn tp Rd.nn raw.stp c3;erw[_,Z,.inl #[Z,_,aL.of uO],?_];erw[_,Z,a,uM,_,_,Z,e7,Z,?_];erw[_,Z,_,Z,a,uM,_,_,Z,e7,Z,.inl #[pY,_,_,_,Z,Z,aL.of abH,cI (show(0:Int)<=(T.dn:Int) by lia) (by simpa using Vu),?_]];erw[_,Z,oG,rv,mid,M.rs,M.r,M.f,M.j,M.t,eH ns T.dn,_,Z,MD,aK,rdr,a2r,mB,mP,λent H8 a2C s8=>?_];let Cd:=s8 _ _ uO;erw[l,us,_,Z,Z,Cd,aw,?_];let e8:(_L.upd H8 l (.lst (us++[ent]))) a=some (.ins C uM (gM oG Fm (.int T.dn) (.ref q) E9 (.int T.rate) (.str T.side) (.str T.mark) Dv)):=by rw[aU al];erw[s8 _ _ e7]
       erw[_,Z,a,uM,_,_,Z,e8,Z,_,_,Z,Z,uM,_,e8,by show 9<1000;decide,?_];let vl:cZ H8 (_L.upd H8 l (.lst (us++[ent]))):=.upd Cd trivial;let va:cZ (_L.upd H8 l (.lst (us++[ent]))) (_L.upd (_L.upd H8 l (.lst (us++[ent]))) a (.ins C uM (gM oG Fm (.int ((T.dn:Int)+1)) (.ref q) E9 (.int T.rate) (.str T.side) (.str T.mark) Dv))):=.upd e8 trivial;let v7:=(s8.v.trans vl).trans va;let eS:gf M T ns sp={Ia M T (topR S.rate sp) (fc M S) ((aF ns:Int)-T.dn)with dn:=T.dn+1}:=by unfold gf;rw[rT,kE]
       let eE:pZ M T ns sp=jQ M.t (eH ns T.dn) (kz M.r M.f T.pc (topR S.rate sp) (fc M S) ((aF ns:Int)-T.dn) T.stp):=by unfold pZ wj;rw[rT,kE]
       let a7H:One M T (pZ M T ns sp) (gr ns (gf M T ns sp)):=.line (by rw[gH];erw[eo]) c3;let(yq,eq7,rq7):=R7.qu;let Ic:bS (es++[pZ M T ns sp])=true:=cj.mpr λd hd=>by
        rcases jL.mp hd with h|h
        ·erw[cj.mp lT d h]
        ·rw[gm]at h;rw[h];erw[Aa _ _ _]
       let q7l:q≠l:=ql;erw[#[gf M T ns sp,es++[pZ M T ns sp],us++[ent],_,Z,λb o' eb hb=>?_,?_,IE raw aK (by rw[gH];erw[eo]) c2 c3,gH,jD,kE,?_,?_,?_,?_,?_,?_,?_,λz=>by simp at z],?_]
       ·let ha:b≠a:=λz=>hb (by rw[z];simp)
        let iK:b≠l:=λz=>hb (by rw[z];simp);rw[aU ha,aU iK];erw[s8 _ _ (b7 _ _ (bt _ _ eb hb) (by rw[gm];erw[ha]))]
       ·rw[eS]
        erw[#[uM,oG,Fm,E9,Dv,?_,RD.v v7 _ (oJ _ _ _ _ _) MD,RD.v v7 _ (jS _) ZR,ZQ.v v7,ZP.v v7],yq,?_,aI.v v7 _ nos rq7]
        ·erw[bP]
        ·rw[aU aq.symm,aU ql];erw[s8 _ _ eq7]
       ·show T.dn+1=_
        rw[cy];show _=_+(_+1);lia
       ·show T.dn+1<=_
        lia
       ·rw[cy];show((es.length+1:Nat):Int)<=most;lia
       ·rw[aU al.symm,bP]
       ·erw[aI.v va _ Ic (aI.v vl _ Ic ?_)]
        let r7:aI K H8 us es:=aI.mono s8 _ (aI.v Dr _ lT rd);erw[r7.append %[?_|cH]];rw[eE];erw[a2C]
       ·erw[Ic]
       ·rw[a5h]at run
        erw[run.snoc a7H]
       ·show(match(_L.upd (_L.upd H8 l (.lst (us++[ent]))) a _) l with|some (.lst us)=>2000-us.length|_=>0)<(match H6 l with|some (.lst us)=>2000-us.length|_=>0)
        rw[aU al.symm,bP,dl];show 2000-(us++[ent]).length<2000-us.length;rw[cy];show 2000-(us.length+1)<_
        lia
     ·rw[dP aw]
      erw[ba ?_];erw[zd aw]
    ·rw[dP c1]
     erw[ba ?_];erw[zd aw]
   ·rintro O H6 Q1 Q2 hq ⟨v1,f1,l',nk,f2,f3,v2,f4,i1,i2,f5,f6,b1,f7,h⟩
    erw[v1,f1,l',nk,f2,f3,v2,f4,i1,i2,f5,f6,b1,f7,EG ?_ (hq _ _) h];rintro⟨v3,f8,a',p5,kT,u',f9,zb,JS,v4,f12,i3,i4,f13,f14,b2,JR,h⟩;erw[v3,f8,a',p5,kT,u',f9,zb,JS,v4,f12,i3,i4,f13,f14,b2,JR,EG ?_ (hq _ _) h];rintro⟨v5,JQ,a2,xf,Jv,JP,JO,JN,a3,q3,M3,D3,S3,JM,JL,JK,JJ,b3,JI,h⟩;erw[v5,JQ,a2,xf,Jv,JP,JO,JN,a3,q3,M3,D3,S3,JM,JL,JK,JJ,b3,JI,hq _ _ h]
  ·rintro O H6 ⟨T,es,us,w8,rfl,bt,RT,raw,gH,jD,kE,UM,h1,sN,dl,rd,lT,run⟩
   let(wZ,mv6,bv6,a3J,YX,e6,t1,t2,t3,t4):=RT.ob;let a7Q:T.os≠[]:=by rw[gH];erw[dM]
   let bH:∀{H7:Hp},dJ [a] H6 H7->dJ [a,q] H H7:=λ{H7} b7 b o' eb hb=>by
    let ha:b≠a:=λz=>hb (by rw[z];simp);erw[b7 _ _ (bt _ _ (mE _ _ eb) λhm=>?_) (by rw[gm];erw[ha])];simp only[dg,gk,jJ]at hm;rcases hm with h|h
    ·erw[ha h]
    ·rw[h,nl]at eb;cases eb
   erw[λO H7=>∃q' Dq,O=[some (.ref a),some (.int most),some y,some (.int (aF ns)),some (.ref pY),some vw,some vK,some (.ref l),Dq]/\da C H7 a q' M (gr ns T)/\Mv a q H q' H7/\l≠q'/\∃nk,H7 l=some (.lst nk)/\aI K H7 nk es,?_,?_]
   ·erw[jZ ?_];intro E2
    erw[_,Z,a,wZ,_,_,Z,e6,Z,_,Z,.inl #[_,_,Z,Z,_,Z,?_]];show if decide ((T.dn:Int)=(aF ns:Int))=true then _ else _;by_cases c:T.dn=aF ns
    ·rw[cu aw]
     erw[bA ?_];erw[_,Z,a,wZ,_,Z,e6,Z,a,q,M,D,T,Z,RT,raw,aK,a7Q,λq' H7 R7 nq b7=>?_];let Dr:cZ H6 H7:=b7.v λx hx o' eF=>by rw[gm]at hx;rw[hx,e6]at eF;cases eF;trivial
     erw[q',_,Z,by unfold gr;rw[aQ c];erw[R7],#[bH b7,.inr ?_],λz=>?_,us,b7 _ _ dl (by rw[gm];erw[al.symm]),aI.v Dr _ lT rd]
     ·cases e':H q' with |none=>rfl |some o'=>
      let h5:=mE _ _ e';by_cases ha:q'=a
      ·rw[ha,e6]at nq;cases nq
      ·by_cases iK:q'=l
       ·rw[iK,nl]at e';cases e'
       ·have:=bt _ _ h5 (by simp;erw[ha,iK])
        rw[nq]at this;cases this
     ·rw[<-z,dl]at nq;cases nq
    ·rw[dP aw]
     erw[ba ?_];erw[q,_,Z,by unfold gr;rw[aV c];erw[RT],#[bH (dJ.refl _ _),.inl Z],ql.symm,us,dl,rd]
   ·rintro O H7 ⟨q',Dq,rfl,R7,oG,lq,nk,uO,rd7⟩
    erw[_,Z,k l nk es (gr ns T) q' H7 nl uO rd7 run h1 sN R7 oG lq]
end
section
theorem Mv.trans(m1:Mv a q H q1 H1)(m2:Mv a q1 H1 q2 H2)(ha:H1 a≠none):Mv a q H q2 H2:=by
 erw[λb o e hb=>?_,?_]
 ·erw[m2.but _ _ (m1.but _ _ e hb) λhm=>?_]
  simp only[dg,gk,jJ]at hm hb;rcases hm with h|h
  ·erw[hb (.inl h)]
  ·rcases m1.nq with h1|h1
   ·erw[hb (.inr (h.trans h1))]
   ·rw[<-h]at h1;rw[h1]at e;cases e
 ·rcases m2.nq with h|h
  ·rw[h];erw[m1.nq]
  ·cases e:H q2 with |none=>erw[.inr rfl] |some o=>
   by_cases h1:q2=q
   ·erw[.inl h1]
   ·by_cases h2:q2=a
    ·rw[h2]at h;exact(ha h).elim
    ·have:=m1.but _ _ e (by simp;erw[h2,h1])
     rw[h]at this;cases this
inductive aeg(C:Addr)(vs:List V)(H:Hp)(Q:VK):Prop |mk a q M D S most(_:vs=[.ref a,.int most])(_:da C H a q M S)(_:cE M D S)(_:M.Ok)(_:S.os≠[])(_:¬Halt S.pc S.stp)(_:1<=most)(_:most<=1000)(_:∀l ys es S' q' H',H l=none->H' l=some (.lst ys)->aI K H' ys es->Run M S es S'->1<=es.length->(es.length:Int)<=most->da C H' a q' M S'->Mv a q H q' H'->l≠q'->Q (.ref l) H')
def N7(C:Addr):Sp:=λvs H Q _=>aeg C vs H Q
theorem NY:bu ["self","most","item"] ["self","most"] (aX PX):=bD aP
theorem a4v(AA:a1v)(RR:gT K mg C)(a8X:a1q C "steps_of_first" 10 (N6 C)):a1q C "entries_of_first" 11 (N7 C):=by
 erw[RR.a6k.has NY (λvs H Q E h=>?_) (λ_ _ _ _ _ _=>dY λ_ _=>rfl) (λf aM A outer s H vs Q E hr h=>?_)]
 · let(a,q,M,D,S,most,rfl,_):=h
   rfl
 · let(a,q,M,D,S,most,rfl,R0,ok,aK,dM,nh,m1,m2,k):=h
   let(dx,mv,bv,cS,tv,e,r1,r2,r3,r4):=R0.ob;let(ys,eq,rq):=R0.qu;let aq:=R0.ne;let nd:=NY.nd;let ll:=ok.row.len;let ER:0<S.os.length:=by cases h:S.os with|nil=>exact(dM h).elim|cons _ _=>simp
   obtain⟨d,ed⟩:∃d,S.ds[0]? =some d:=#[_,bo (show 0<S.ds.length by lia)];let(y,ey,ry):=rq.get 0 ed;let(o,eo,it):=ok.row.get ed;erw[_,%[pS 2 nd (px K (dE RR.tc.cl RR.tc.kR o0) aB),bw (cf (pf (vS AA) hr %[2|az])) (aG (aR (rQ a8X RR.tc.cl (hr.mono aA) o0 %[1|az]))) bC,je (bw (bL (cJ K Z hr.units) (px K w4 aB) eU (bf _)) (aG (jf RR.tc.cl RR.tc.Ii o0 (px K w4 aB))) bC),je (bw (bL (cJ K Z hr.units) (px K w4 aB) eU (bf _)) (aG (jf RR.tc.cl RR.tc.Te o0 (px K w4 aB))) bC),eJ (lR (Sx AA RR) RR.tc.cl (hr.mono aA) o0),aR (cX %[2|az])|aG],?_];erw[_,Z,a,dx,_,_,Z,e,Z,.inl #[q,_,0,y,Z,Z,aL.of eq,cI (fD 0) ey,?_]];erw[_,Z,y,d,o,Z,ry,it,_,Z,?_];cases o with |some z=>let(ns,sp):=z;erw[bA ?_];erw[_,Z,a,dx,_,Z,e,Z,_,Z,a,q,M,D,S,ns,sp,most,Z,R0,ok,aK,eo,nh,m1,m2,k] |none=>
     erw[ba ?_];let dQ:=ok.rw 0 d eo ed;let wd:∃z u ya yr,d= .tuple [.str z,u]/\y= .ref ya/\aW K H ya (.str z::[yr])/\RD K H yr u/\SeqAt.shaped (.str z)=true:=by
      rcases dQ with⟨n,rfl,_⟩|⟨w',s',rfl,hw,_⟩
      · let(ya,xs,rfl,h1,h2):=ry.cF
        let(x1,rr,rfl,e1,h2):=h2.cons_inv;let(x2,rr,rfl,e2,h2):=h2.cons_inv;cases h2.nil_inv;cases e1.str_inv;erw[_,_,ya,x2,Z,Z,h1,e2,aP]
      · let(ya,xs,rfl,h1,h2):=ry.cF
        let(x1,rr,rfl,e1,h2):=h2.cons_inv;let(x2,rr,rfl,e2,h2):=h2.cons_inv;cases h2.nil_inv;cases e1.str_inv;erw[_,_,ya,x2,Z,Z,h1,e2,by rcases hw with rfl|rfl<;>decide+kernel]
     let(z,u,ya,yr,rfl,rfl,Bo,QX,sz):=wd;let tU:SeqAt.shaped (.str "tool")=true:=by decide+kernel
     let tM:SeqAt.shaped (.str "mark")=true:=by decide+kernel
     let eqT:∀(x y:Str),PyData.eqv (.str x) (.str y)=decide (x=y):=λx y=>by show(x==y)=decide (x=y);rw[qY];simp
     erw[λO H1=>O=[some (.ref a),some (.int most),some (.ref ya)]/\dJ [a] H H1/\H1 a=some (.ins C dx (gM mv bv (.int S.dn) (.ref q) cS (.int S.rate) (.str (if z="tool" then(dw (.tuple [.str z,u]) S).side else S.side)) (.str S.mark) tv)),?_,?_]
     · erw[jZ ?_];intro E1
       erw[_,Z,.inr #[ya,_,0,.str z,Z,Z,Bo,cI (fD 0) Z,.inr #[_,_,cL _,cL _,sz,tU,_,Z,?_]]];rw[eqT];by_cases c:z="tool"
       · rw[cu c]
         erw[bA ?_];let hu:∃s',u= .str s':=by
          rcases dQ with⟨n,h,_⟩|⟨w',s',h,hw,_⟩
          ·cases h;erw[absurd c aP]
          ·cases h;erw[_,rfl]
         let(s',rfl):=hu;cases QX.str_inv;erw[_,Z,.inr #[ya,_,1,.str s',Z,Z,Bo,cI aA Z,_,Z,a,dx,_,Z,e,by show 9<1000;decide,?_]];erw[Z,Fp (by simp),?_];rw[aQ c];let es:(dw (.tuple [.str z,.str s']) S).side=s':=by unfold dw;simp only[aQ c]
         rw[es];erw[bP]
       · rw[dP c]
         erw[ba #[Z,dJ.refl _ _,?_]];rw[aV c];erw[e]
     rintro O H1 ⟨rfl,b1,e1⟩;let YL:cZ H H1:=b1.v λx hx o' eF=>by rw[gm]at hx;rw[hx,e]at eF;cases eF;trivial
     let Uw:=aW.v YL Bo;erw[λO H2=>O=[some (.ref a),some (.int most),some (.ref ya)]/\dJ [a] H H2/\H2 a=some (.ins C dx (gM mv bv (.int S.dn) (.ref q) cS (.int S.rate) (.str (dw (.tuple [.str z,u]) S).side) (.str (dw (.tuple [.str z,u]) S).mark) tv)),?_,?_]
     · erw[jZ ?_];intro E2
       erw[_,Z,.inr #[ya,_,0,.str z,Z,Z,Uw,cI (fD 0) Z,.inr #[_,_,cL _,cL _,sz,tM,_,Z,?_]]];rw[eqT];by_cases c:z="mark"
       · rw[cu c]
         erw[bA ?_];let nt:¬z="tool":=by rw[c];decide+kernel
         rw[aV nt]at e1;let hu:∃s',u= .str s':=by
          rcases dQ with⟨n,h,_⟩|⟨w',s',h,hw,_⟩
          ·cases h;erw[absurd c aP]
          ·cases h;erw[_,rfl]
         let(s',rfl):=hu;cases QX.str_inv;erw[_,Z,.inr #[ya,_,1,.str s',Z,Z,Uw,cI aA Z,_,Z,a,dx,_,Z,e1,by show 9<1000;decide,?_]];erw[Z,b1.trans (Fp (by simp)),?_];let es:(dw (.tuple [.str z,.str s']) S).side=S.side/\(dw (.tuple [.str z,.str s']) S).mark=s':=by constructor<;>(unfold dw;simp only[aV nt,aQ c])
         rw[es.1,es.2];erw[bP]
       · rw[dP c]
         erw[ba #[Z,b1,?_]];let em:(dw (.tuple [.str z,u]) S).mark=S.mark:=by
          unfold dw;split
          · next h => cases h;split
                      ·rfl
                      ·first|rfl|rw[aV c]
          ·rfl
         let es:(if z="tool" then(dw (.tuple [.str z,u]) S).side else S.side)=(dw (.tuple [.str z,u]) S).side:=by
          by_cases c2:z="tool"
          ·rw[aQ c2]
          · rw[aV c2]
            unfold dw;split
            ·next h=>cases h;first|rfl|rw[aV c2,aV c]
            ·rfl
         rw[es]at e1;rw[em];erw[e1]
     rintro O H2 ⟨rfl,b2,e2⟩;let zZ:cZ H H2:=b2.v λx hx o' eF=>by rw[gm]at hx;rw[hx,e]at eF;cases eF;trivial
     let(RK,Ee,Kj,dn',oE):=DN ok.raw (.tuple [.str z,u]);let fx:(dw (.tuple [.str z,u]) S).pc=S.pc/\(dw (.tuple [.str z,u]) S).rate=S.rate/\(dw (.tuple [.str z,u]) S).stp=S.stp:=by
      unfold dw;split
      · split
        ·erw[Z,Z,Z]
        ·split<;>erw[Z,Z,Z]
      ·erw[Z,Z,Z]
     let R2:da C H2 a q M (dw (.tuple [.str z,u]) S):=by
      erw[#[dx,mv,bv,cS,tv,?_,RD.v zZ _ (oJ _ _ _ _ _) r1,?_,?_,?_],ys,b2 _ _ eq (by rw[gm];erw[aq.symm]),?_]
      ·rw[dn',fx.2.1];erw[e2]
      ·rw[oE];erw[RD.v zZ _ (jS _) r2]
      ·rw[fx.1];erw[r3.v zZ]
      ·rw[fx.2.2];erw[r4.v zZ]
      ·rw[Kj];erw[aI.v zZ _ ok.row.no rq]
     erw[_,Z,a,dx,_,Z,e2,Z,a,q,M,D,_,Z,R2,RK,aK,by rw[Ee];erw[dM],λq' H3 R3 nq b3=>?_];let KJ:=b2.trans b3;let YK:cZ H H3:=KJ.v λx hx o' eF=>by rw[gm]at hx;rw[hx,e]at eF;cases eF;trivial
     have nq0:H q'=none:=by cases e':H q' with |none=>rfl |some o'=>
        by_cases ha:q'=a
        ·rw[ha,e2]at nq;cases nq
        · have:=b2 _ _ e' (by rw[gm];erw[ha])
          rw[nq]at this;cases this
     refine⟨_,Z,bG Z,λl H4 n4=>?_⟩;have nl:H l=none:=by cases e':H l with |none=>rfl |some o'=>
        by_cases ha:l=a
        · let(dx3,_,_,_,_,e3,_):=R3.ob
          have:=n4.no;rw[ha,e3]at this;cases this
        · have:=KJ _ _ e' (by rw[gm];erw[ha])
          rw[n4.no]at this;cases this
     let okS:cE M D (jm (dw (.tuple [.str z,u]) S)):=RK.end (by rw[Ee];erw[dM]);erw[k l [.ref ya] [.tuple [.str z,u]] _ q' H4 nl n4.at' %[RD.v (YK.trans n4.same.v) _ (cj.mp ok.row.no _ (gZ ed)) ry|cH] (.cons (.dQ eo ed nh) (.nil _)) (by simp) (by simpa using m1) (R3.same okS.row.no n4.same) #[λb o' eb hb=>n4.same _ _ (KJ _ _ eb (by rw[gm];intro h;erw[hb (by rw[h];simp)])),.inr nq0] ?_];intro h;have:=n4.no;let(yq,eq3,_):=R3.qu;rw[h,eq3]at this;cases this
inductive aeh(C:Addr)(vs:List V)(H:Hp)(Q:VK):Prop |mk a q M D S n(_:vs=[.ref a,.int n])(_:da C H a q M S)(_:cE M D S)(_:M.Ok)(_:0<=n)(_:n<=1000)(_:∀l ys es S' q' H',H l=none->H' l=some (.lst ys)->aI K H' ys es->Run M S es S'->(es.length:Int)<=n->((es.length:Int)=n\/S'.os=[]\/Halt S'.pc S'.stp)->da C H' a q' M S'->Mv a q H q' H'->l≠q'->Q (.ref l) H')
def N8(C:Addr):Sp:=λvs H Q _=>aeh C vs H Q
theorem NZ:bu ["self","n","told"] ["self","n"] (aX PY):=bD aP
theorem a4w(AA:a1v)(RR:gT K mg C)(a8Y:a1q C "entries_of_first" 11 (N7 C)):a1q C "entries" 12 (N8 C):=by
 exists RR.a6l.has,NZ,dY λ_ _=>rfl
 ·let(a,q,M,D,S,n,rfl,R0,ok,aK,n0,n1,k):=h
  let nd:=NZ.nd;erw[_,%[pS 2 nd (cX az),(je (pM eO (PW.pt (mG (bL ky (cY K AA.B %[2|az]) u8 (bf _)) (mG (HG K Z (dE RR.tc.cl RR.tc.kR o0)) (pL (dj (cf (lR (Su AA RR) RR.tc.cl (hr.mono aA) o0))))))) (aG (eJ (yj K Z w4 %[(rQ a8Y RR.tc.cl (hr.mono aA) o0 %[aO fE u8 (cY K AA.B %[2|az])|az])|az]))))),aR w4|aG],?_];erw[bG Z,λl H1 nw=>?_];let(dx,mv,bv,cS,tv,e,r1,r2,r3,r4):=R0.ob;let(ys,eq,rq):=R0.qu;let al:a≠l:=λz=>by have:=nw.no;rw[<-z,e]at this;cases this
  let ql:q≠l:=λz=>by have:=nw.no;rw[<-z,eq]at this;cases this
  let hq0:H q≠none:=by rw[eq];simp
  let ha0:H a≠none:=by rw[e];simp
  erw[λO H2=>∃es S' q' us,O=[some (.ref a),some (.int n),some (.ref l)]/\da C H2 a q' M S'/\H2 l=some (.lst us)/\aI K H2 us es/\Run M S es S'/\(es.length:Int)<=n/\((es.length:Int)=n\/S'.os=[]\/Halt S'.pc S'.stp)/\Mv a q H q' H2/\l≠q',?_,?_]
  ·erw[jZ ?_];intro E3
   erw[pD (λO H2=>∃es S' q' us,O=[some (.ref a),some (.int n),some (.ref l)]/\da C H2 a q' M S'/\H2 l=some (.lst us)/\aI K H2 us es/\Run M S es S'/\(es.length:Int)<=n/\Mv a q H q' H2/\l≠q') (λ_ H2=>match H2 l with|some (.lst us)=>2000-us.length|_=>0) ?_ ?_ ?_]
   ·erw[[],S,q,[],Z,R0.same ok.row.no nw.same,nw.at',cH,.nil _,by simpa using n0,#[.of nw.same,.inl rfl],ql.symm]
   ·rintro O H2 ⟨es,S',q',us,rfl,R2,dl,rd,run,sN,yK,lq⟩
    let mI:=run.ok ok aK;let lT:=run.no ok aK;let lu:=rd.length;let(xf,mv2,bv2,agd,tv2,e2,t1,t2,t3,t4):=R2.ob;let(yq,eq2,rq2):=R2.qu;let Ir:=rq2.length;let TR:=mI.row.len;erw[_,Z,l,us,Z,.inl (aL.of dl),_,Z,_,_,Z,Z,_,Z,?_];show if decide ((us.length:Int)<n)=true then _ else _;by_cases c1:(us.length:Int)<n
    ·rw[cu c1]
     erw[bA ?_];erw[_,Z,a,xf,_,_,Z,e2,Z,_,.inl #[_,aL.of eq2,Z],?_];cases kB:S'.os with |nil=>have:yq=[]:=G9.mp (by rw[Ir,TR,kB];rfl);subst this;erw[ba ?_];erw[es,S',q',us,Z,R2,dl,rd,run,sN,.inr (.inl kB),yK,lq] |cons o os=>
      let dM:S'.os≠[]:=by rw[kB];simp
      have:∃y yr,yq=y::yr:=by cases yq with |nil=>rw[TR,kB]at Ir;simp at Ir |cons y yr=>erw[y,yr,Z]
      let(y,yr,rfl):=this;erw[bA ?_];erw[_,Z,a,xf,_,Z,e2,Z,a,q',M,D,S',Z,R2,mI,aK,_,Z,?_];by_cases c3:Halt S'.pc S'.stp
      ·let hb:(S'.stp.isSome&&decide (S'.pc=0))=true:=by let(h1,h2):=c3;rw[cu h2,M4];cases hs:S'.stp with |none=>exact(h1 hs).elim |some _=>rfl
       rw[hb];erw[ba #[es,S',q',us,Z,R2,dl,rd,run,sN,.inr (.inr c3),yK,lq]]
      ·let hb:(S'.stp.isSome&&decide (S'.pc=0))=false:=by cases hs:S'.stp with |none=>rfl |some _=>show decide (S'.pc=0)=false;erw[dP λh2=>c3 #[by rw[hs];simp,h2]]
       rw[hb];erw[bA ?_];erw[_,Z,.inl #[Z,_,aL.of dl],?_];erw[_,Z,a,xf,_,Z,e2,Z,_,Z,_,Z,l,us,Z,.inl (aL.of dl),_,_,Z,Z,?_];erw[a,q',M,D,S',_,Z,R2,mI,aK,dM,c3,aw,aw,λl2 y2 fs S2 q2 H3 pT Ce uj Am f1 f2 R3 Es kS=>?_];let YI:=R2.v Es.but;let p7:=Es.but _ _ dl (by simp;erw[al.symm,lq]);let ye:=aI.v YI _ lT rd;let TH:=uj.length;let lW:sizeLine=16777216:=by decide
       erw[l,l2,us,y2,Z,Z,p7,Ce,aw,?_];let vu:cZ H3 (_L.upd H3 l (.lst (us++y2))):=.upd p7 trivial;let a7N:=Am.no mI aK;let fF:=Am.ok mI aK;let TJ:l≠q2:=λz=>by
        rcases Es.nq with h|h
        ·erw[lq (z.trans h)]
        ·rw[<-z,dl]at h;cases h
       erw[#[es++fs,S2,q2,us++y2,Z,R3.go fF.row.no vu (λo' eF=>by rw[aU al];erw[eF]) (λo' eF=>by rw[aU TJ.symm];erw[eF]),bP,(aI.v vu _ lT ye).append (aI.v vu _ a7N uj),run.trans Am,by rw[cy];lia,?_,TJ],?_]
       ·let m:=yK.trans Es (by rw[e2];simp)
        erw[λb o' eb hb=>by
         let iK:b≠l:=λz=>by have:=nw.no;rw[<-z,eb]at this;cases this
         rw[aU iK];erw[m.but _ _ eb hb],m.nq]
       ·show(match(_L.upd H3 l (.lst (us++y2))) l with|some (.lst us)=>2000-us.length|_=>0)<(match H2 l with|some (.lst us)=>2000-us.length|_=>0)
        rw[bP,dl];show 2000-(us++y2).length<2000-us.length;rw[cy]
        lia
    ·rw[dP c1]
     erw[ba ?_];erw[es,S',q',us,Z,R2,dl,rd,run,sN,.inl aw,yK,lq]
   ·rintro O H6 Q1 Q2 hq ⟨v1,f1,l',nk,f2,f3,v2,f4,i1,i2,f5,f6,b1,f7,h⟩
    erw[v1,f1,l',nk,f2,f3,v2,f4,i1,i2,f5,f6,b1,f7,EG ?_ (hq _ _) h];rintro⟨v3,f8,a',p5,kT,u',f9,zb,JS,b2,JR,h⟩;erw[v3,f8,a',p5,kT,u',f9,zb,JS,b2,JR,EG ?_ (hq _ _) h];rintro⟨v5,JQ,a2,xf,Jv,JP,JO,JN,a3,q3,M3,D3,S3,JM,JL,JK,JJ,b3,JI,h⟩;erw[v5,JQ,a2,xf,Jv,JP,JO,JN,a3,q3,M3,D3,S3,JM,JL,JK,JJ,b3,JI,hq _ _ h]
  ·rintro O H2 ⟨es,S',q',us,rfl,R2,dl,rd,run,sN,wF,yK,lq⟩
   erw[_,Z,k l us es S' q' H2 nw.no dl rd run sN wF R2 yK lq]
end
section
theorem da.HF{mv:V}(R:da C H a q M S)(e:H a=some (.ins C dx (gM mv bv (.int S.dn) (.ref q) cS (.int S.rate) (.str S.side) (.str S.mark) tv))){Fo Ea tS:V}(hn:bS S.ds=true)(hd:S'.ds=S.ds) (r1:RD K H mv M.D)(r2:RD K H Fo (iZ S'.pl))(r3:bj H Ea S'.pc)(r4:zq H tS S'.stp):da C (_L.upd H a (.ins C dx (gM mv Fo (.int S'.dn) (.ref q) Ea (.int S'.rate) (.str S'.side) (.str S'.mark) tS))) a q M S':=by
 let v:cZ H (_L.upd H a (.ins C dx (gM mv Fo (.int S'.dn) (.ref q) Ea (.int S'.rate) (.str S'.side) (.str S'.mark) tS))):=.upd e trivial;let(ys,eq,rq):=R.qu;erw[#[dx,mv,Fo,Ea,tS,bP,RD.v v _ (oJ _ _ _ _ _) r1,RD.v v _ (jS _) r2,r3.v v,r4.v v],ys,?_,?_]
 ·rw[aU R.ne.symm];erw[eq]
 ·rw[hd];erw[aI.v v _ hn rq]
theorem a1y:bu ["self","rate"] ["self","rate"] (aX Pu):=bD aP
inductive ae9(C:Addr)(vs:List V)(H:Hp)(Q:VK):Prop |mk a q M D S rate(_:vs=[.ref a,.int rate])(_:da C H a q M S)(_:cE M D S)(_:M.Ok)(_:10<=rate)(_:rate<=200)(_:S.pc=0)(_:∀H',da C H' a q M {S with rate:=rate}->dJ [a] H H'->Q (.int rate) H')
def a0r(C:Addr):Sp:=λvs H Q _=>ae9 C vs H Q
theorem a4o(AA:a1v)(RR:gT K mg C):a1q C "turn_rate" 4 (a0r C):=by
 exists RR.a65.has,a1y,dY λ_ _=>rfl
 ·let(a,q,M,D,S,rate,rfl,R,ok,aK,h1,h2,hp,k):=h
  let(dx,mv,bv,cS,tv,e,r1,r2,r3,r4):=R.ob;erw[_,%[bw (dj (cf (pf (SA AA) hr %[1|az]))) (aG uk) bC,bw (dj (cf (lR (Sq AA RR) RR.tc.cl (hr.mono aA) o0))) (aG uk) bC,jf RR.tc.cl RR.tc.B8 o0 u8,aR u8|aG],?_];erw[_,Z,_,.int rate,Z,dF _,_,Z,?_];let er:Hw (.int rate)=true:=by show(decide (10<=rate)&&decide (rate<=200))=true;rw[cu h1,cu h2];rfl
  rw[er];erw[ba ?_];erw[_,Z,a,dx,_,Z,e,Z,a,q,M,D,S,Z,R,ok,aK,_,Z,?_];rw[cu hp];erw[ba ?_];erw[_,Z,_,Z,a,dx,_,Z,e,by show 9<1000;decide,?_];erw[_,Z,k _ (R.HF (S':={S with rate:=rate}) e ok.row.no rfl r1 r2 r3 r4) (Fp (by simp))]
theorem a1H:bu ["self"] ["self"] (aX PU):=bD aP
inductive aee(C:Addr)(vs:List V)(H:Hp)(Q:VK):Prop |mk a q M D S(_:vs=[.ref a])(_:da C H a q M S)(_:cE M D S)(_:∀H',da C H' a q M {S with stp:=none}->dJ [a] H H'->Q (.int (S.ds.length:Nat)) H')
def a0v(C:Addr):Sp:=λvs H Q _=>aee C vs H Q
theorem Sv(AA:a1v)(RR:gT K mg C):a1q C "go" 1 (a0v C):=by
 exists RR.a6i.has,a1H,fo λ_=>rfl
 ·let(a,q,M,D,S,rfl,R,ok,k):=h
  let(dx,mv,bv,cS,tv,e,r1,r2,r3,r4):=R.ob;let(ys,eq,rq):=R.qu;erw[_,%[jf RR.tc.cl RR.tc.yH o0 fQ,aR (cY K AA.B %[dE RR.tc.cl RR.tc.kR o0|az])|aG],?_];erw[_,Z,a,dx,_,Z,e,by show 9<1000;decide,?_];let wV:(_L.upd H a (.ins C dx (gM mv bv (.int S.dn) (.ref q) cS (.int S.rate) (.str S.side) (.str S.mark) .bM))) q=some (.lst ys):=by rw[aU R.ne.symm];erw[eq]
  erw[_,Z,a,dx,_,_,Z,bP,Z,q,_,Z,.inl (aL.of wV),?_];rw[rq.length];erw[k _ (R.HF (S':={S with stp:=none}) e ok.row.no rfl r1 r2 r3 rfl) (Fp (by simp))]
def mz(f:Int)(pc:Rat):Int:=(pc.num+2*f*(pc.den:Int)-1)/(2*f*(pc.den:Int))
theorem MO(hf:1<=f){pc:Rat}(h:0<=pc):(0<=mz f pc)/\(mz f pc=0->pc=0)/\pc<=((2*f*mz f pc:Int):Rat)/\(pc<=1600->mz f pc<=1000):=by
 let hn:=Lv.mpr h;let hd:0<2*f*(pc.den:Int):=hJ aw (den_pos pc);let Jl:2*(pc.den:Int)<=2*f*(pc.den:Int):=by
  have:2*1*(pc.den:Int)<=2*f*(pc.den:Int):=Ge aw aw
  lia
 unfold mz;generalize hD:2*f*(pc.den:Int)=dd at hd Jl;let q1:=Int.mul_ediv_add_emod (pc.num+dd-1) dd;let q2:=qV (pc.num+dd-1) (show dd≠0 by lia);let q3:=vp (pc.num+dd-1) hd;let q0:0<=(pc.num+dd-1)/dd:=Int.ediv_nonneg aw aw;generalize hQ:(pc.num+dd-1)/dd=Q at q0 q1;generalize(pc.num+dd-1)%dd=R at q1 q2 q3;let hle:pc.num<=dd*Q:=by lia
 erw[q0,λe=>?_,?_,λhm=>?_]
 ·rw[e,Gd]at hle
  have:pc.num=0:=by lia
  erw[Rat.num_eq_zero.mp this]
 ·erw[tL.mp λbK=>?_]
  rw[G0,zF,zH]at bK;let e1:2*f*Q*(pc.den:Int)=dd*Q:=by rw[<-hD,Int.mul_right_comm]
  rw[e1]at bK
  lia
 ·let sR:¬((1600:Rat)<pc):=tL.mpr hm
  rw[G0]at sR;let e1:(1600:Rat).num=1600:=rfl;let e2:(1600:Rat).den=1:=rfl;rw[e1,e2]at sR;let h3:pc.num<=1600*(pc.den:Int):=by lia
  erw[Int.not_lt.mp λbK=>?_];let h4:dd*1001<=dd*Q:=LY aw aw
  lia
theorem NS:bu ["self","p","q","in_one"] ["self"] (aX Py):=bD aP
theorem a4p(RR:gT K mg C):a1q C "stops_in" 1 (pJ C λM S H Q=>Q (.int (mz M.f S.pc)) H):=by
 exists RR.a67.has,NS,fo λ_=>rfl
 ·let(a,q,M,D,S,rfl,R,ok,aK,k):=h
  let(dx,mv,bv,cS,tv,e,r1,r2,(pa,rfl,EM),r4):=R.ob;let nd:=NS.nd;let j8:=aK.f1;let(ma,mb,rfl,fS,lU):=mM r1;let bd:Bd 1600 S.pc:=(ok.pd.bd (bW ok.pm aP)).mono (by have:=ok.D2;lia);let hd:0<2*M.f*(S.pc.den:Int):=hJ aw (den_pos S.pc);let wd:Wd (2*M.f*(S.pc.den:Int)):=by
   erw[jv (n:=1700) ?_ aA];rw[gL];let h1:(2*M.f).natAbs<2^7:=by lia
   have:=oH h1 bd.den;erw[gK this (tP aA aA)]
  erw[_,%[fe (dE RR.tc.cl RR.tc.ux o0) (cW K rfl (n:=2) rfl %[aZ 1 nd,aZ 2 nd|cU]),pS 3 nd (aO bR (aO bR aB (px K (dE RR.tc.cl RR.tc.uy o0) aB)) w4),aR (aO pO (aO fE (aO cM u8 L2) aB) L2)|aG],?_];erw[_,Z,a,dx,_,_,Z,e,Z,pa,_,Z,EM,Z,_,_,Z,_,_,Z,Z,?_];erw[_,Z,a,dx,_,_,Z,e,Z,.inr #[ma,_,2,.int M.f,Z,Z,fS,Z,_,_,Z,Z,.of_left (cw aA aA),?_]];erw[_,Z,_,_,Z,Z,.of_left (cw aw aw),?_];erw[_,Z,_,Z,_,_,Z,Z,_,_,Z,Z,_,Z,_,_,Z,Z,#[hd,wd],?_];erw[k]
theorem NW:bu ["self","steps"] ["self"] (aX PM):=bD aP
def oN(M:ck)(S:bQ):bQ:=match S.stp with |none=>{S with stp:=some (S.pc,mz M.f S.pc,0)} |some _=>S
inductive aed(C:Addr)(vs:List V)(H:Hp)(Q:VK):Prop |mk a q M D S(_:vs=[.ref a])(_:da C H a q M S)(_:cE M D S)(_:M.Ok)(_:∀H',da C H' a q M (oN M S)->dJ [a] H H'->Q (.int (mz M.f S.pc)) H')
def a0u(C:Addr):Sp:=λvs H Q _=>aed C vs H Q
theorem cE.hold{D:Nat}(h:cE M D S)(aK:M.Ok)(hD:D<=1490):cE M (D+10) (oN M S):=by let D1:=h.D1;unfold oN;cases hs:S.stp with |some z=>show cE M (D+10) S;let st:=h.stp;erw[h.row,h.rw,h.len,h.bO,h.rt2,h.dn,h.pl,h.pd.mono aw,h.pm,?_,aw,aw];rw[hs]at st⊢;let(sq,hW,gn):=z;let(a1,a2,a3,a4,a5):=st;erw[a1,a2,a3,a4.mono aw,a5] |none=>let(z1,z2,z3,z4):=MO aK.f1.1 h.pd.nn;erw[h.row,h.rw,h.len,h.bO,h.rt2,h.dn,h.pl,h.pd.mono aw,h.pm,?_,aw,aw];erw[fD _,z1,z4 h.pm,h.pd,bW h.pm aP,z2,?_];show S.pc*(mz M.f S.pc:Rat)<=S.pc*((mz M.f S.pc-0:Int):Rat);rw[Int.sub_zero];erw[fu]
theorem a4u(RR:gT K mg C):a1q C "hold" 2 (a0u C):=by
 exists RR.a6h.has,NW,fo λ_=>rfl
 ·let(a,q,M,D,S,rfl,R,ok,aK,k):=h
  let(dx,mv,bv,cS,tv,e,r1,r2,r3,r4):=R.ob;let nd:=NW.nd;erw[_,%[pS 1 nd (lR (a4p RR) RR.tc.cl (hr.mono aA) o0),je (bw (dj (cf (lR (HU RR) RR.tc.cl (hr.mono aA) o0))) (aG (jf RR.tc.cl RR.tc.yH o0 (cQ %[dE RR.tc.cl RR.tc.ux o0,1,aB|az]))) bC),aR u8|aG],?_];erw[_,Z,a,dx,_,Z,e,Z,a,q,M,D,S,Z,R,ok,aK,?_];erw[λO H1=>O=[some (.ref a),some (.int (mz M.f S.pc))]/\da C H1 a q M (oN M S)/\dJ [a] H H1,?_,?_]
  ·erw[jZ ?_];intro E1
   erw[_,Z,a,dx,_,Z,e,Z,a,q,M,D,S,Z,R,ok,aK,_,Z,?_];cases hs:S.stp with |some z=>erw[ba #[Z,?_,dJ.refl _ _]];unfold oN;rw[hs];erw[R] |none=>
    erw[bA ?_];erw[_,Z,a,dx,_,_,Z,e,Z,_,Z,bG Z,λt H1 n1=>?_];let e1:=n1.same _ _ e;erw[_,Z,a,dx,_,Z,e1,by show 9<1000;decide,?_];let eh:oN M S={S with stp:=some (S.pc,mz M.f S.pc,0)}:=by unfold oN;rw[hs]
    erw[Z,?_,λb o' eb hb=>?_]
    ·rw[eh]
     exact(R.same ok.row.no n1.same).HF (S':={S with stp:=some (S.pc,mz M.f S.pc,0)}) e1 ok.row.no rfl (RD.mono n1.same _ r1) (RD.mono n1.same _ r2) (r3.go n1.same) #[t,cS,Z,aW.of n1.at',r3.go n1.same]
    ·let ha:b≠a:=λz=>hb (by rw[z];simp)
     rw[aU ha];erw[n1.same _ _ eb]
  ·rintro O H1 ⟨rfl,R1,b1⟩
   erw[_,Z,k H1 R1 b1]
end
section
structure W4(C:Addr)(M:ck)(ds:List aj)(p x Wl Fl:Addr)(H0:Hp)(H:Hp)(q:Addr)(S:bQ)(m:Nat)(es:List aj):Prop where
 b0:gX H0 p
 bF:bJ p H0 H
 run:da C H x q M S
 wl:∃ws,H Wl=some (.lst ws)/\aI K H ws (ds.drop m)
 fl:∃us,H Fl=some (.lst us)/\aI K H us es
 nx:H0 x=none
 nq:H0 q=none
 nw:H0 Wl=none
 nf:H0 Fl=none
 qw:q≠Wl
 qf:q≠Fl
 wf:Wl≠Fl
section
variable {M:ck}{ds:List aj}{p x Wl Fl:Addr}{H0 H H':Hp}{q q':Addr}{S S':bQ}{m:Nat}{es fs:List aj}
theorem W4.xp(h:W4 C M ds p x Wl Fl H0 H q S m es):x≠p/\q≠p/\Wl≠p/\Fl≠p:=by let hp:=h.b0.ne;erw[λe=>hp (e▸h.nx),λe=>hp (e▸h.nq),λe=>hp (e▸h.nw),λe=>hp (e▸h.nf)]
theorem W4.xl(h:W4 C M ds p x Wl Fl H0 H q S m es):x≠Wl/\x≠Fl/\x≠q:=by let(dx,_,_,_,_,e,_):=h.run.ob;let(ws,ew,_):=h.wl;let(us,eu,_):=h.fl;erw[B5 e ew (by intro z;cases z),B5 e eu (by intro z;cases z),h.run.ne]
theorem W4.bg(h:W4 C M ds p x Wl Fl H0 H q S m es):gX H p:=h.bF.bF
theorem acP(bg:gX H p)(b:bJ p H H'):cZ H H':=(bJ.t bg b).v
theorem W4.draw(h:W4 C M ds p x Wl Fl H0 H q S m es)(b:bJ p H H')(nS:bS S.ds=true)(nD:bS ds=true)(nE:bS es=true):W4 C M ds p x Wl Fl H0 H' q S m es:=by let(h1,h2,h3,h4):=h.xp;let v:=acP h.bg b;let(ws,ew,dA):=h.wl;let(us,eu,ru):=h.fl;erw[h.b0,h.bF.trans b,h.run.go nS v (λo e=>b.same _ _ h1 e) (λo e=>b.same _ _ h2 e),#[ws,b.same _ _ h3 ew,aI.v v _ ?_ dA],#[us,b.same _ _ h4 eu,aI.v v _ nE ru],h.nx,h.nq,h.nw,h.nf,h.qw,h.qf,h.wf];erw[cj.mpr λd hd=>cj.mp nD d (LO hd)]
theorem W4.same(h:W4 C M ds p x Wl Fl H0 H q S m es)(s:aH H H')(nS:bS S.ds=true)(nD:bS ds=true)(nE:bS es=true):W4 C M ds p x Wl Fl H0 H' q S m es:=h.draw (.fR h.bg s) nS nD nE
theorem W4.mv(h:W4 C M ds p x Wl Fl H0 H q S m es)(mv:Mv x q H q' H')(R:da C H' x q' M S')(nD:bS ds=true)(nE:bS es=true):W4 C M ds p x Wl Fl H0 H' q' S' m es:=by
 let(h1,h2,h3,h4):=h.xp;let(g1,g2,g3):=h.xl;let v:=h.run.v mv.but;let(ws,ew,dA):=h.wl;let(us,eu,ru):=h.fl;let(c,mm,eb,AM):=h.bg;let bt:bJ p H H'->bJ p H0 H':=λb=>h.bF.trans b;let pb:H' p=some (.lst [.int c,.int mm]):=mv.but _ _ eb (by simp;erw[h1.symm,h2.symm]);let wR:=mv.but _ _ ew (by simp;erw[g1.symm,h.qw.symm]);let F8:=mv.but _ _ eu (by simp;erw[g2.symm,h.qf.symm]);erw[h.b0,#[#[c,mm,pb,AM],λb o n e=>?_],R,#[ws,wR,aI.v v _ ?_ dA],#[us,F8,aI.v v _ nE ru],h.nx,?_,h.nw,h.nf,?_,?_,h.wf]
 ·erw[mv.but _ _ (h.bF.same _ _ n e) λhm=>?_]
  simp only[dg,gk,jJ]at hm;rcases hm with z|z
  ·rw[z,h.nx]at e;cases e
  ·rw[z,h.nq]at e;cases e
 ·erw[cj.mpr λd hd=>cj.mp nD d (LO hd)]
 ·rcases mv.nq with z|z
  ·rw[z];erw[h.nq]
  ·cases e:H0 q' with |none=>rfl |some o=>
   by_cases hp:q'=p
   ·rw[hp,eb]at z;cases z
   ·have:=h.bF.same _ _ hp e
    rw[z]at this;cases this
 ·intro z
  rcases mv.nq with y|y
  ·erw[h.qw (y.symm.trans z)]
  ·rw[z,ew]at y;cases y
 ·intro z
  rcases mv.nq with y|y
  ·erw[h.qf (y.symm.trans z)]
  ·rw[z,eu]at y;cases y
theorem W4.ext(h:W4 C M ds p x Wl Fl H0 H q S m es)(nS:bS S.ds=true)(nD:bS ds=true)(nE:bS es=true)(nF:bS fs=true){us ys:List V}(eu:H Fl=some (.lst us))(ry:aI K H ys fs):W4 C M ds p x Wl Fl H0 (_L.upd H Fl (.lst (us++ys))) q S m (es++fs):=by let(h1,h2,h3,h4):=h.xp;let(g1,g2,g3):=h.xl;let(ws,ew,dA):=h.wl;let(nk,F8,ru):=h.fl;rw[eu]at F8;cases F8;let v:cZ H (_L.upd H Fl (.lst (us++ys))):=.upd eu trivial;let(c,mm,eb,AM):=h.bg;erw[h.b0,#[#[c,mm,by rw[aU h4.symm];erw[eb],AM],λb o n e=>by rw[aU (dH e h.nf)];erw[h.bF.same _ _ n e]],h.run.go nS v (λo e=>by rw[aU g2];erw[e]) (λo e=>by rw[aU h.qf];erw[e]),#[ws,by rw[aU h.wf];erw[ew],aI.v v _ ?_ dA],#[_,bP,(aI.v v _ nE ru).append (aI.v v _ nF ry)],h.nx,h.nq,h.nw,h.nf,h.qw,h.qf,h.wf];erw[cj.mpr λd hd=>cj.mp nD d (LO hd)]
theorem W4.pop(h:W4 C M ds p x Wl Fl H0 H q S m es)(nS:bS S.ds=true)(nD:bS ds=true)(nE:bS es=true){y:V}{ys:List V}(ew:H Wl=some (.lst (y::ys))):W4 C M ds p x Wl Fl H0 (_L.upd H Wl (.lst ys)) q S (m+1) es/\∃d,ds[m]? =some d/\RD K H y d:=by
 let(h1,h2,h3,h4):=h.xp;let(g1,g2,g3):=h.xl;let(ws,wR,dA):=h.wl;let(us,eu,ru):=h.fl;rw[ew]at wR;cases wR;let hm:m<ds.length:=by
  rcases zK m ds.length with c|c
  ·erw[c]
  ·rw[List.drop_eq_nil_of_le c]at dA
   cases dA.nil_inv
 rw[Yg hm]at dA;let(y',ys',ee,ry,rr):=dA.cons_inv;cases ee;let v:cZ H (_L.upd H Wl (.lst ys)):=.upd ew trivial;let(c,mm,eb,AM):=h.bg;erw[#[h.b0,#[#[c,mm,by rw[aU h3.symm];erw[eb],AM],λb o n e=>by rw[aU (dH e h.nw)];erw[h.bF.same _ _ n e]],h.run.go nS v (λo e=>by rw[aU g1];erw[e]) (λo e=>by rw[aU h.qw];erw[e]),#[_,bP,aI.v v _ ?_ rr],#[us,by rw[aU h.wf.symm];erw[eu],aI.v v _ nE ru],h.nx,h.nq,h.nw,h.nf,h.qw,h.qf,h.wf],_,bo hm,ry];erw[cj.mpr λd hd=>cj.mp nD d (LO hd)]
end
def Ag:aj->aj | .tuple [.str w,row,t,s]=>if PyData.eqv (.str w) (.str "step")then row else .tuple [.str w,row,t,s] |d=>d
theorem a1p(a b c:aj):Ag (.tuple [.str "step",a,b,c])=a:=by show(if PyData.eqv (.str "step") (.str "step")=true then a else PyData.tuple [.str "step",a,b,c])=a;rw[aQ aP]
def lY(ds:List aj)(os:List Itm)(i:Nat):List aj:=match os[i]? with |some (some (ns,_))=>iY ns |_=>[ds.getD i .none]
def Ca(ds:List aj)(os:List Itm):Nat->List aj |0=>[] |i+1=>Ca ds os i++lY ds os i
def tf(ds:List aj)(os:List Itm)(i k:Nat):List aj:=Ca ds os i++(lY ds os i).take k
structure Inv2(pl:List Int)(ds:List aj)(os:List Itm)(m i k:Nat)(T:bQ):Prop where
 jD:T.ds=(ds.take m).drop i
 gH:T.os=(os.take m).drop i
 qE:T.dn=k
 kl:k=0\/∃ns sp,i<m/\os[i]? =some (some (ns,sp))/\k<aF ns
 BV:T.pl=(os.take i).foldl j9 pl
 im:i<=m
 ml:m<=os.length
 j1:T.os=[]->T.pc=0
 j2:T.os[0]? =some none->T.pc=0
theorem VC{top:Rat}{stp:_R.gI}:nM r f pc top R left stp<=R+((2*f*(left-1):Int):Rat):=by cases stp with |none=>erw[fw _ _] |some q=>let(sq,st,gn):=q;erw[bW (dR _ _) (fw _ _)]
theorem VZ{α:Type}{l:List α}{i:Nat}{x:α}(h:l[i]? =some x):l.drop i=x::l.drop (i+1):=by let hl:i<l.length:=(cm.mp h).1;rw[Yg hl];rw[bo hl]at h;cases h;rfl
theorem VA{D:Nat}(h:cE M D T)(aK:M.Ok)(eo:T.os[0]? =some (some (ns,sp)))(nh:¬Halt T.pc T.stp)(hd:T.dn+1=aF ns)(hn:T.os[1]? =none\/T.os[1]? =some none):(gf M T ns sp).pc=0:=by
 let kr:=aK.r1;let j8:=aK.f1;let D1:=h.D1;let dM:T.os≠[]:=λe=>by rw[e]at eo;simp at eo
 let hl:1<=T.os.length:=by have:=(cm.mp eo).1;lia
 let nn:=(IE h.raw aK eo aw nh).pd.nn;erw[qS ?_ nn];erw[bW VC ?_];let e1:2*M.f*((aF ns:Int)-(T.dn:Int)-1)=0:=by rw[show(aF ns:Int)-(T.dn:Int)-1=0 by lia,Gd]
 rw[e1];let e0:fc M T+((0:Int):Rat)=fc M T:=vg _;rw[e0];erw[bW (BP hl) ?_];show betR M.j T.rate (atO T.os 0) (atO T.os 1)<=0;let ea:atO T.os 1=none:=by unfold atO;rcases hn with e|e<;>rw[e]<;>rfl
 rw[ea,_O.tx];erw[fu]
theorem a48{D:Nat}{pl:List Int}{ds:List aj}{os:List Itm}(aK:M.Ok)(row:cg M.rs.length ds os)(dA:RowW ds os){m i k:Nat}{T T1:bQ}{e:aj}(ok:cE M D T)(h:Inv2 pl ds os m i k T)(o:One M T e T1): ∃i' k',Inv2 pl ds os m i' k' T1/\tf ds os i' k'=tf ds os i k++[Ag e]:=by
 let ll:=row.len;let hn:T.os≠[]:=by intro z;cases o with |line e1 _=>rw[z]at e1;simp at e1 |dQ e1 _ _=>rw[z]at e1;simp at e1
 let uF:=h.ml;let lt:(os.take m).length=m:=by rw[jM];lia
 let ltd:(ds.take m).length=m:=by rw[jM];lia
 let im:i<m:=by
  rcases zK i m with c|c
  ·erw[c]
  ·exact(hn (by rw[h.gH,List.drop_eq_nil_of_le aw])).elim
 obtain⟨x,ex⟩:∃x,os[i]? =some x:=#[_,bo (show i<os.length by lia)];obtain⟨d,ed⟩:∃d,ds[i]? =some d:=#[_,bo (show i<ds.length by lia)];let ext:(os.take m)[i]? =some x:=by rw[zS,aQ im];erw[ex]
 let edt:(ds.take m)[i]? =some d:=by rw[zS,aQ im];erw[ed]
 let gH:T.os=x::(os.take m).drop (i+1):=by rw[h.gH];erw[VZ ext]
 let jD:T.ds=d::(ds.take m).drop (i+1):=by rw[h.jD];erw[VZ edt]
 let RY:(os.take (i+1)).foldl j9 pl=j9 T.pl x:=by rw[lG,ex,zT,h.BV];rfl
 let SN:∀(l:List Itm),l=(os.take m).drop (i+1)->T.os[1]? =l[0]?:=λl e=>by rw[gH,e];rfl
 cases o with |@line ns sp e1 nh=>
  let C9:=e1;rw[gH]at C9;cases C9;let bT:=(row.ok i ns sp ex).1;let lp:=bT.lead.1;let hk:k<aF ns:=by
   rcases h.kl with z|⟨gD,iB,_,z1,z2⟩
   ·lia
   ·rw[ex]at z1;cases z1;erw[z2]
  let eL:lY ds os i=iY ns:=by unfold lY;rw[ex]
  let es:Ag (pZ M T ns sp)= .tuple ((eH ns k).map PyData.int):=by unfold pZ jQ;rw[h.qE,a1p]
  let up:tf ds os i (k+1)=tf ds os i k++[Ag (pZ M T ns sp)]:=by unfold tf;rw[lG,eL,Ap hk,es,D6];rfl
  let Kk:(gf M T ns sp).dn=k+1:=by show T.dn+1=_;rw[h.qE]
  unfold gr;by_cases c:k+1=aF ns
  ·erw[i+1,0,?_,?_]
   ·rw[aQ (by rw[Kk];erw[c])]
    let Ke:jm (gf M T ns sp)={gf M T ns sp with dn:=0,pl:=j9 T.pl (some (ns,sp)),ds:=(ds.take m).drop (i+1),os:=(os.take m).drop (i+1)}:=by unfold jm;let eF:(gf M T ns sp).os=some (ns,sp)::(os.take m).drop (i+1):=gH;let ij:(gf M T ns sp).ds=d::(ds.take m).drop (i+1):=jD;simp only[eF,ij];rfl
    rw[Ke];erw[Z,Z,Z,.inl Z,RY.symm,aw,uF,λz=>?_,λz=>?_]
    ·erw[VA ok aK e1 nh (by rw[h.qE];erw[c]) (.inl (by rw[SN _ rfl];rw[show(os.take m).drop (i+1)=[]from z];rfl))]
    ·erw[VA ok aK e1 nh (by rw[h.qE];erw[c]) (.inr (by rw[SN _ rfl];erw[z]))]
   ·rw[<-up]
    unfold tf;rw[LK,lJ,c,eL,vk (by rw[u9];erw[aY _]),<-eL];rfl
  ·erw[i,k+1,?_,up]
   rw[aV (by rw[Kk];erw[c])];erw[h.jD,h.gH,Kk,.inr #[ns,sp,im,ex,aw],h.BV,h.im,uF,λz=>(hn z).elim,λz=>?_];let z':T.os[0]? =some none:=z;rw[e1]at z';cases z' |dQ e1 e2 nh=>
  let C9:=e1;rw[gH]at C9;cases C9;rw[jD]at e2;cases e2;let k0:k=0:=by
   rcases h.kl with z|⟨gD,iB,_,z1,z2⟩
   ·erw[z]
   ·rw[ex]at z1;cases z1
  subst k0;let p0:=h.j2 e1;erw[i+1,0,?_,?_]
  ·let(h1,s1,s2,s3,s4):=DN ok.raw e
   let N0:(dw e T).pc=T.pc:=by
    unfold dw;split
    ·split
     ·rfl
     ·split<;>rfl
    ·rfl
   let Ke:jm (dw e T)={dw e T with pl:=j9 T.pl none,ds:=(ds.take m).drop (i+1),os:=(os.take m).drop (i+1),dn:=0}:=by unfold jm;rw[s1,gH];simp only[s2,s4,jD];rfl
   rw[Ke];erw[Z,Z,Z,.inl Z,RY.symm,aw,uF,λ_=>N0.trans p0,λ_=>N0.trans p0]
  ·unfold tf
   rw[LK,lJ,LK,lJ];show Ca ds os i++lY ds os i=_;let eE:lY ds os i=[e]:=by unfold lY;rw[ex,vn,ed];rfl
   let es:Ag e=e:=by rcases dA i e ex ed with⟨n,rfl,_⟩|⟨w',s',rfl,_⟩<;>rfl
   rw[eE,es]
theorem Inv2.wO{pl:List Int}{ds:List aj}{os:List Itm}{m i k:Nat}(h:Inv2 pl ds os m i k T)(ll:ds.length=os.length)(ed:ds[m]? =some d)(eo:os[m]? =some o):Inv2 pl ds os (m+1) i k (nY T d o):=by
 let im:=h.im;let hm:m<os.length:=(cm.mp eo).1;let lt:(os.take m).length=m:=by rw[jM];lia
 let ltd:(ds.take m).length=m:=by rw[jM];lia
 erw[?_,?_,h.qE,?_,h.BV,aw,hm,λz=>?_,λz=>?_]
 ·show T.ds++[d]=_
  rw[lG,ed,afV aw,h.jD];rfl
 ·show T.os++[o]=_
  rw[lG,eo,afV aw,h.gH];rfl
 ·rcases h.kl with z|⟨ns,sp,z0,z1,z2⟩
  ·erw[.inl z]
  ·erw[.inr #[ns,sp,aw,z1,z2]]
 ·exfalso
  let z':T.os++[o]=[]:=z;simp at z'
 ·let z':(T.os++[o])[0]? =some none:=z
  cases hT:T.os with |nil=>erw[h.j1 hT] |cons a r=>rw[hT]at z';erw[h.j2 (by rw[hT];erw[z'])]
theorem Inv2.goal{pl:List Int}{ds:List aj}{os:List Itm}{m i k:Nat}(h:Inv2 pl ds os m i k T):wL T=(os.take m).foldl j9 pl:=by
 unfold wL;rw[h.gH,h.BV];let e:os.take i=(os.take m).take i:=by rw[List.take_take];congr 1;have:=h.im;lia
 rw[e,<-zT,List.take_append_drop]
end
section
theorem yL{r f:Int}{b x:Rat}(x0:0<=x)(xb:x<=b)(he:∀q,e=some q->q<=x+(f:Rat)/\x<=q+(r:Rat))(hg:∀q,g=some q->q<=x+(r:Rat)/\x<=q+(f:Rat)):jT r f b e g=true:=by
 let sub:∀{a c:Rat}{z:Int},a<=c+(z:Rat)->a+((-z:Int):Rat)<=c:=λ{a c z} h=>by have:=Lx (c:=((-z:Int):Rat))|>.mpr h;rw[Rat.add_assoc,<-Rat.intCast_add,Int.add_right_neg]at this;let z0:c+((0:Int):Rat)=c:=vg _;rw[z0]at this;erw[this]
 unfold jT;rw[M1,xS];intro h;let(l,hl,h):=vo.mp h;let(u,hu,h):=vo.mp h;let h:=kg h;let l1:l<=x:=by
  rcases jL.mp hl with hl|hl
  ·rcases dg.mp hl with rfl|hl
   ·erw[x0]
   ·let(q,hq,rfl):=gC.mp hl
    erw[sub (he q (LG.mp hq)).1]
  ·let(q,hq,rfl):=gC.mp hl
   erw[sub (hg q (LG.mp hq)).1]
 let u1:x<=u:=by
  rcases jL.mp hu with hu|hu
  ·rcases dg.mp hu with rfl|hu
   ·erw[xb]
   ·let(q,hq,rfl):=gC.mp hu
    exact(he q (LG.mp hq)).2
  ·let(q,hq,rfl):=gC.mp hu
   exact(hg q (LG.mp hq)).2
 erw[tL.mpr (bW l1 u1) h]
theorem Fc{n0:Nat}{rate:Int}{ds:List aj}{os:List Itm}(row:cg n0 ds os){i c:Nat}(hc:c<(gR rate ds os i).length):∀n,i<n->n<=os.length->(cT rate ds os n)[(cT rate ds os i).length+c]? =(gR rate ds os i)[c]?
 |0,h,_=>by lia |n+1,h,hn=>by
  show(cT rate ds os n++gR rate ds os n)[_]? =_;by_cases e:i=n
  ·subst e
   rw[nj aw,Yc]
  ·let ih:=Fc row hc n aw aw
   let hl:(cT rate ds os i).length+c<(cT rate ds os n).length:=by rw[bo hc]at ih;exact(cm.mp ih).1
   rw[mq hl];erw[ih]
theorem WV{n0:Nat}{j rate:Int}{ds:List aj}{os:List Itm}(row:cg n0 ds os){i c:Nat}(hc:c<(jo j rate os i).length):∀n,i<n->n<=os.length->(ja j rate os n)[(cT rate ds os i).length+c]? =(jo j rate os i)[c]?
 |0,h,_=>by lia |n+1,h,hn=>by
  show(ja j rate os n++jo j rate os n)[_]? =_;by_cases e:i=n
  ·subst e
   rw[<-m7 (j:=j) row i aw,nj aw,Yc]
  ·let ih:=WV row hc n aw aw
   let hl:(cT rate ds os i).length+c<(ja j rate os n).length:=by rw[bo hc]at ih;exact(cm.mp ih).1
   rw[mq hl];erw[ih]
theorem WT{n0:Nat}{j rate:Int}{ds:List aj}{os:List Itm}(row:cg n0 ds os){i c:Nat}(hi:i<os.length)(hc:c<(jo j rate os i).length):(cN j rate os)[(cT rate ds os i).length+c]? =(jo j rate os i)[c]?:=by
 let h:=WV row hc os.length hi (aY _);let hl:(cT rate ds os i).length+c<(ja j rate os os.length).length:=by rw[bo hc]at h;exact(cm.mp h).1
 unfold cN;rw[mq hl];erw[h]
theorem WR{n0:Nat}{j rate:Int}{ds:List aj}{os:List Itm}(row:cg n0 ds os):(cN j rate os)[(cT rate ds os os.length).length]? =some 0:=by unfold cN;rw[nj (by rw[m7 (ds:=ds) row _ (aY _)];erw[aY _]),m7 (ds:=ds) row _ (aY _),CT,Ec];rfl
theorem mnm(h1:a'<=a)(h2:b'<=b):mn a' b'<=mn a b:=gE (bW (dR _ _) h1) (bW (fw _ _) h2)
theorem a9F(hf:0<=f)(nm:n<=m)(hg:∀k,k<n->g k=g' k)(h0:g n=0)(nn:∀i,i<=m->0<=g' i)(hL:∀k,k<n->L k=L' k):∀k,k<=n->fl n L f g k<=fl m L' f g' k:=by
 erw[down ?_ ?_]
 ·rw[nX,h0];erw[JC hf nn n nm]
 ·intro k hk ih
  cases hl:L' k with |none=>rw[nV hk (by rw[hL k hk];erw[hl]),nV aw hl,hg k hk];erw[fu] |some c=>rw[lX hk (by rw[hL k hk];erw[hl]),lX aw hl,hg k hk];erw[mnm fu (Lx.mpr ih)]
theorem KQ(os ro:List Itm){k:Nat}(h:k<os.length):atO (os++ro) k=atO os k:=by unfold atO;rw[mq h]
theorem a2F(M:ck)(aK:M.Ok)(rate:Int)(os ro:List Itm)(h:1<=os.length):uf M.f M.j rate os<=uf M.f M.j rate (os++ro):=by
 let j8:=aK.f1;unfold uf;erw[a9F aw (by rw[cy];lia) (λk hk=>?_) (_O.Ed _ _ _ _ Z) (λi _=>_O.rW _ _ _ i) (λk hk=>?_) 1 h]
 ·cases k with |zero=>rfl |succ k=>show betR _ _ (atO os k) (atO os (k+1))=betR _ _ (atO (os++ro) k) (atO (os++ro) (k+1));rw[KQ os ro hk,KQ os ro (show k<os.length by lia)]
 ·unfold leadF
  rw[KQ os ro hk]
structure jb(M:ck)(rate:Int)(pl:List Int)(ds:List aj)(os:List Itm)(m i k:Nat)(T:bQ)(es:List aj)(sq:Nat->Option Rat):Prop where
 i2:Inv2 pl ds os m i k T
 rt:T.rate=rate
 len:es.length=(cT rate ds os i).length+k
 ent:∀c e du,es[c]? =some e->(cT rate ds os os.length)[c]? =some du->XH M.t du e (sq c)
 out:∀c,es.length<=c->sq c=none
 meet:∀c b,c<es.length->(cN M.j rate os)[c]? =some b->jT M.r M.f b (gb sq c) (sq c)=true
 pb:∀b,(cN M.j rate os)[es.length]? =some b->T.pc<=b
 pv:∀q,gb sq es.length=some q->q<=T.pc+(M.f:Rat)/\T.pc<=q+(M.r:Rat)
 pt:∀ns sp,T.os[0]? =some (some (ns,sp))->T.pc<=topR rate sp/\T.pc<=fc M T+((2*M.f*((aF ns:Int)-T.dn):Int):Rat)
 hs:∀a st gn,T.stp=some (a,st,gn)->a<=((2*M.f*st:Int):Rat)
end
end _c
set_option maxHeartbeats 1000000
namespace _c
open PySem PySem.Spec PyProof.Rows _L _d _l _C _P
open _O (topR cornO mnO betR atO ownF leadF ownL OkI OkIs)
section
theorem Nr:bu ["self","at","why"] ["self","at","why"] (aX GQ):=bD aP
def AX(x y:V):List (Str×V):=iP "why" y [("at",x)]
inductive GG|mk ex C x y(_:vs=[.ref ex,x,y])(_:H ex=some (.ext (tH ex C)))(_:zo K C "at")(_:zo K C "why")(_:∀dx,H dx=none->dx≠ex->Q .bM (_L.upd (_L.upd (_L.upd H dx (.xd [("at",x)])) ex (.ext (ng ex C dx))) dx (.xd (AX x y))))
theorem a4e(F:me K "__init__" "NoTape.__init__" GQ f fd):iq P w K mg aD iM 1 f fd ["self","at","why"] GG:=by
 erw[F.ok Nr (λvs H Q E h=>?_) (λaM A outer s H vs Q E hr h=>?_)]
 ·let(ex,C,x,y,rfl,_):=h
  rfl
 ·let(ex,C,x,y,rfl,e1,xc,xw,k):=h
  let nd:=Nr.nd;erw[_,%[a3a K Z o0 u8,a39 K Z o0 w4|aG],?_];erw[_,Z,_,Z,ex,C,Z,e1,xc,λdx fd ne=>#[_,Z,_,Z,ex,C,dx,_,Z,bP,by rw[aU ne];erw[bP],xw,(by show 1<1000;decide),k dx fd ne]]
inductive tJ(ti:Int)(du e:aj):Option Rat->Nat->Prop |dQ:e=du->kH e->tJ ti du e none 0 |stp (zs:List Int)(top q:Rat):du=jG zs top->e=jQ ti zs q->0<q->Bd 1900 q->Bd 2000 top->zs.length<=1000->tJ ti du e (some q) (if top<q then 3 else 0)
structure p9(ti rate:Int)(ds:List aj)(os:List Itm)(es:List aj)(sq:Nat->Option Rat)(fa:Nat->Nat):Prop where
 ent:∀k e du,es[k]? =some e->(cT rate ds os os.length)[k]? =some du->tJ ti du e (sq k) (fa k)
 ow:sq es.length=none
 Vl:fa es.length=0
 small:es.length<=1000000
def gQ(r f:Int)(bd:List Rat)(n m:Nat)(sq:Nat->Option Rat)(fa:Nat->Nat)(k:Nat):Nat:=if k=m/\m<n then 1 else if k=n/\n<m then 1 else if fa k=0 then(if jT r f (bd.getD k 0) (gb sq k) (sq k)=true then 0 else 4)else fa k
def FH(n:Nat)(ft:Nat->Nat):Option (Nat×Nat)->Prop |none=>∀k,k<=n->ft k=0 |some (k,y)=>k<=n/\ft k=y/\y≠0/\∀i,i<k->ft i=0
theorem TV(ft:Nat->Nat):∀n,∃res,FH n ft res
 |0=>by
  by_cases h:ft 0=0
  ·erw[none,λk hk=>by rw[Nat.le_zero.mp hk];erw[h]]
  ·erw[some (0,ft 0),aY _,Z,h,λi hi=>absurd hi (CU _)] |n+1=>by let(res,h):=TV ft n;cases res with |some p=>let(k,y):=p;erw[some (k,y),Nat.le_succ_of_le h.1,h.2.1,h.2.2] |none=>
   by_cases hn:ft (n+1)=0
   ·erw[none,λk hk=>?_]
    rcases zK n k with h1|h1
    ·rw[show k=n+1 by lia];erw[hn]
    ·erw[h k h1]
   ·erw[some (n+1,ft (n+1)),aY _,Z,hn,λi hi=>h i aw]
theorem TX(h:FH n ft res){i y:Nat}(hi:i<=n)(pre:∀k,k<i->ft k=0)(e:ft i=y)(hy:y≠0):res=some (i,y):=by cases res with |none=>erw[absurd (e▸h i hi) hy] |some p=>
 let(k,z):=p;let(h1,h2,h3,h4):=h;have:k=i:=by
  rcases Nat.lt_trichotomy k i with a|a|a
  ·erw[absurd (h2▸pre k a) h3]
  ·erw[a]
  ·erw[absurd (e▸h4 i a) hy]
 subst this;rw[<-h2,e]
theorem TU(h:FH n ft res)(pre:∀k,k<=n->ft k=0):res=none:=by cases res with |none=>rfl |some p=>let(k,z):=p;erw[absurd (h.2.1▸pre k h.1) h.2.2.1]
theorem HH{ft:Nat->Nat}{i:Nat}(h:∀k,k<i->ft k=0)(e:ft i=0):∀k,k<i+1->ft k=0:=λk hk=>by
 rcases zK k i with a|a
 ·erw[h k a]
 ·rw[show k=i by lia];erw[e]
def dU(rate:Int)(ds:List aj)(os:List Itm):Nat:=(cT rate ds os os.length).length
def FG(r f j rate:Int)(ds:List aj)(os:List Itm)(es:List aj)(sq:Nat->Option Rat)(fa:Nat->Nat):Option (Nat×Nat)->Prop:=FH (min es.length (dU rate ds os)) (gQ r f (cN j rate os) (dU rate ds os) es.length sq fa)
inductive aew(C:Addr)(vs:List V)(H:Hp)(Q:VK)(E:XK):Prop |mk m iv rate tv rs r f j t ds os es sq fa res(_:vs=[m,iv,.int rate,tv])(_:RD K H m (fy rs r f j t))(_:gA rs r f j t)(_:RD K H iv (.tuple ds))(_:cg rs.length ds os)(_:ds.length<=30)(_:10<=rate)(_:rate<=200)(_:RD K H tv (.list es))(_:p9 t rate ds os es sq fa)(qq:FG r f j rate ds os es sq fa res)(sS:(res=none->∀H',aH H H'->Q .bM H'))(wK:∀k y,res=some (k,y)->∀H' dx,aH H H'->H' dx=some (.xd (AX (.int (k:Nat)) (.int (y:Nat))))->E (.ref C) (some dx) H')
def N9(C:Addr):Sp:=λvs H Q E=>aew C vs H Q E
theorem p9.HZ{ti rate:Int}{ds:List aj}{os:List Itm}{es:List aj}(tp:p9 ti rate ds os es sq fa):∀c,c<es.length->c<dU rate ds os->zu 1900 (sq c):=λc hc hd=>by obtain⟨e,ee⟩:∃e,es[c]? =some e:=#[_,bo hc];obtain⟨du,ed⟩:∃d,(cT rate ds os os.length)[c]? =some d:=#[_,bo hd];have:=tp.ent c e du ee ed;generalize sq c=s at this;generalize fa c=y at this;cases this with |dQ _ _=>trivial |stp _ _ _ _ _ _ b _ _=>erw[b]
theorem p9.HN{ti rate:Int}{ds:List aj}{os:List Itm}{es:List aj}(tp:p9 ti rate ds os es sq fa):∀c,c<=es.length->c<=dU rate ds os->zu 1900 (gb sq c):=λc hc hd=>by cases c with |zero=>trivial |succ c=>erw[tp.HZ c aw aw]
theorem aH.refused{C:Addr}(Al:aH H H5)(fx:H5 ex=none)(JF:H5 dx=none)(_:dx≠ex):aH H (_L.del (_L.upd (_L.upd (_L.upd (_L.upd H5 ex (.ext (tH ex C))) dx (.xd [("at",x)])) ex (.ext (ng ex C dx))) dx (.xd (AX x y))) ex):=λb o e=>by let e5:=Al b o e;let nb:b≠ex:=dH e5 fx;let gu:b≠dx:=dH e5 JF;rw[xj nb,aU gu,aU nb,aU gu,aU nb];erw[e5]
abbrev a1M:=top 70
theorem Od:bu ["machine","items","rate","thing","due","bounds","ended","at","expected","why","begun"] ["machine","items","rate","thing"] (aX a1M):=bD aP
theorem a4I{C:Addr}(AA:a1v)(NC:Xv K mg C fI)(a8h:a1k "fault_of_entry" 5 Nf):FK P w K mg aD "look" 10 (N9 C):=by
 let(fd,FI):=NC.fn;let yY:=NC.e;let yW:iq P w K mg aD iM 1 fI fd ["self","at","why"] GG:=a4e FI;let yZ:Binds K fd ["self","at","why"] []:=FI.binds (λ_ _ _ _ _ _=>kG λ_ _ _=>rfl);let yX:=NC.f;erw[AA.aa4.a8C Od (λvs H Q E h=>?_) (λ_ _ _ _ _ _=>uT λ_ _ _ _=>rfl) (λfa aM A outer s H vs Q E hr h=>?_)]
 ·let(m,iv,rate,tv,rs,r,f,j,t,ds,os,es,sq,fa,res,rfl,_):=h
  rfl
 ·let(m,iv,rate,tv,rs,r,f,j,t,ds,os,es,sq,fa,res,rfl,rm,aK,ri,row,hz,bO,rt2,rt,tp,lk,kq,ke):=h
  let nd:=Od.nd;erw[_,%[bw (dj (cf (cV K AA.B %[3,cK (x:="list") (v:=.ty "list") Z (AA.B.at "list") jK rfl|az]))) (aG (yg (λ_ _ _ _ _ _ I a b q=>xU I a b q) yY CS hr.hd yW (hr.mono aA) yZ yX Z %[aB,dC (x:="NOT_DUE") Z AA.BK|az])) bC,pS 4 nd (pf (a50 AA) hr %[1,2|az]),pS 5 nd (pf (a52 AA) hr %[0,1,2|az]),pS 6 nd fQ,(g9 PassesOwn.leaving Z (AB K Z true Z (AA.B.at "enumerate") %[4|az]) (cW K rfl (n:=2) rfl %[aZ 7 nd,aZ 8 nd|cU]) %[bw (bL (cJ K Z hr.units) a1b (cY K AA.B %[3|az]) (bf _)) (aG (yg (λ_ _ _ _ _ _ I a b q=>xU I a b q) yY CS hr.hd yW (hr.mono aA) yZ yX Z %[7,dC (x:="NOT_DUE") Z AA.BK|az])) bC,pS 9 nd (pf a8h hr %[0,8,px K L2 a1b|az]),bw (bL nJ a1j fQ (bf _)) (aG (yg (λ_ _ _ _ _ _ I a b q=>xU I a b q) yY CS hr.hd yW (hr.mono aA) yZ yX Z %[7,9|az])) bC,pS 10 nd (pf (a4n AA) hr %[px K L2 a1b|az]),bw (dj (cf (pf (SG AA) hr %[0,px K P3 a1b,6,10|az]))) (aG (yg (λ_ _ _ _ _ _ I a b q=>xU I a b q) yY CS hr.hd yW (hr.mono aA) yZ yX Z %[7,dC (x:="NO_BORDER") Z AA.Va|az])) bC,pS 6 nd (pv 10)|aG]),(bw (bL mH (cY K AA.B %[3|az]) (cY K AA.B %[4|az]) (bf _)) (aG (yg (λ_ _ _ _ _ _ I a b q=>xU I a b q) yY CS hr.hd yW (hr.mono aA) yZ yX Z %[cY K AA.B %[4|az],dC (x:="NOT_DUE") Z AA.BK|az])) bC),(bw (dj (cf (pf (SG AA) hr %[0,px K P3 (nI nu aB),6,fQ|az]))) (aG (yg (λ_ _ _ _ _ _ I a b q=>xU I a b q) yY CS hr.hd yW (hr.mono aA) yZ yX Z %[cY K AA.B %[4|az],dC (x:="NO_BORDER") Z AA.Va|az])) bC)|aG],?_];let ll:=row.len;let lr:=aK.len;let KC:=WS aK row bO rt2;erw[_,Z,.inl #[_,_,"list",true,Z,rt.ty,aA,(by decide:iz "list" "list"=true),_,Z,ba ?_]];erw[_,Z,_,Z,iv,rate,rs.length,ds,os,Z,ri,row,aw,hz,bO,rt2,λlD yD H1 nD dD rD s1=>?_];erw[_,Z,_,Z,_,Z,m,iv,rate,rs,r,f,j,t,ds,os,Z,RD.mono s1 _ rm,aK,RD.mono s1 _ ri,row,hz,bO,rt2,λlB yB H2 nB dB rB s2=>?_];let iD:=s1.trans s2;let(ta,xt,rfl,ht,jV):=rt.lst_inv;let lxt:=jV.length;let Iu:yD.length=dU rate ds os:=rD.length;let yM:=rB.length;let Bh:(cN j rate os).length=dU rate ds os+1:=by unfold cN;rw[cy,m7 row _ (aY _)];rfl
  rw[bB]at yM;let yM:yB.length=dU rate ds os+1:=by rw[yM];erw[Bh]
  let bv:∀(c:Nat)(u:V)(H':Hp),yB[c]? =some u->aH H2 H'->∃b,(cN j rate os)[c]? =some b/\(cN j rate os).getD c 0=b/\bj H' u b/\Bd 1900 b:=by intro c u H' e sm;let(d1,e1,r1):=rB.get' c e;rw[bV]at e1;let(b,eb,rfl):=zJ.mp e1;let eb:(cN j rate os)[c]? =some b:=eb;erw[b,eb,by rw[vn,eb];rfl,(jy r1).go sm,KC b (gZ eb)]
  let mF:∀(i y:Nat),i<=es.length->i<=dU rate ds os->(∀k,k<i->gQ r f (cN j rate os) (dU rate ds os) es.length sq fa k=0)->gQ r f (cN j rate os) (dU rate ds os) es.length sq fa i=y->y≠0->∀(H5:Hp)(iv yv:V),iv= .int (i:Nat)->yv= .int (y:Nat)->aH H H5->∀ex,H5 ex=none->GG [.ref ex,iv,yv] (_L.upd H5 ex (.ext (tH ex C))) (λv H2=>v= .bM/\∃dx,H2 ex=some (.ext (ng ex C dx))/\E (.ref C) (some dx) (_L.del H2 ex)) (λ_ _ _=>False):=by
   rintro i y EV sL pre e hy H5 _ _ rfl rfl s5 ex fx;let er:=TX lk (Nat.le_min.mpr #[EV,sL]) pre e hy;erw[ex,C,_,_,Z,bP,NC.x,NC.y,λdx Vk ne=>#[Z,dx,by rw[aU ne.symm];erw[bP],?_]];let JF:H5 dx=none:=by rw[aU ne]at Vk;erw[Vk]
   erw[ke i y er _ dx (aH.refused s5 fx JF ne) ?_];rw[xj ne];erw[bP]
  erw[_,Z,lD,Z,#[_,aL.of (s2 _ _ dD)],BO (K:=K) (b:=true) (a:=lD) (xs:=yD) (λi O H3=>aH H2 H3/\i<=es.length/\(∀k,k<i->gQ r f (cN j rate os) (dU rate ds os) es.length sq fa k=0)/\∃ev v1 v2 v3 v4,lg H3 ev (gb sq i)/\O=[some m,some iv,some (.int rate),some (.ref ta),some (.ref lD),some (.ref lB),some ev,v1,v2,v3,v4]) #[aH.refl _,fX _,λ_ h=>absurd h (CU _),.bM,none,none,none,none,Z,Z] (λi O H3 _ h=>aL.of (h.1 _ _ (s2 _ _ dD))) ?_ ?_]
  ·rintro i y O H3 hy ⟨s3,agR,pre,ev,v1,v2,v3,v4,oe,rfl⟩ T H4 n4
   erw[gh ?_];intro E1;let hiy:i<yD.length:=(cm.mp hy).1;let(du,iL,RG):=rD.get' i hy;let iC:=s3.trans n4.same;let gq:=iD.trans iC;let tD:∀{α:Type}{l:List α}{u:α},l[i]? =some u->eY l (i:Int)=some u:=λh=>cI aw (by simpa using h);obtain⟨ub,mV⟩:∃u,yB[i]? =some u:=#[_,bo aw];erw[T,_,Z,aW.of n4.at',Z,_,_,Z,_,_,Z,Z,?_];erw[_,Z,_,Z,ta,_,Z,.inl (ht.go gq),.inl #[_,_,Z,Z,_,Z,?_]];by_cases qh:i=es.length
   ·rw[cu (show((i:Int)=(xt.length:Int)) by lia)]
    erw[bA #[_,Z,bG Z,λex fx=>?_]];erw[mF i 1 aw aw pre (aQ #[qh,aw]) aA H4 _ _ Z Z gq ex fx]
   rw[dP (show¬((i:Int)=(xt.length:Int)) by lia)];erw[ba ?_];let qh:i<es.length:=by lia
   obtain⟨e,ee⟩:∃e,es[i]? =some e:=#[_,bo qh];let(x,ex,rx):=jV.get i ee;let ent:=tp.ent i e du ee iL;let fL:gQ r f (cN j rate os) (dU rate ds os) es.length sq fa i=if fa i=0 then(if jT r f ((cN j rate os).getD i 0) (gb sq i) (sq i)=true then 0 else 4)else fa i:=by unfold gQ;rw[aV aw,aV aw]
   let pb:=tp.HN i aw aw;let ob:=tp.HZ i aw aw;erw[_,Z,_,Z,_,Z,_,Z,.inl #[ta,_,_,x,Z,Z,ht.go gq,tD ex,m,y,x,rs,r,f,j,t,Z,RD.mono gq _ rm,aK,?_]];generalize hs:sq i=sqi at ent;generalize hf:fa i=fai at ent;cases ent with
   |dQ h1 dQ=>subst h1;erw[.inl #[_,RD.mono (s2.trans iC) _ RG,RD.mono gq _ rx,dQ,λH5 s5=>?_]];erw[_,Z,Z,_,Z,ba ?_];let ko:=gq.trans s5;erw[_,Z,_,Z,.inl #[ta,_,_,x,Z,Z,ht.go ko,tD ex,x,Z,.inl #[_,RD.mono ko _ rx,dQ,?_]]];let(b,eb,C7,Rb,bb):=bv i ub H5 mV (iC.trans s5);rw[hf,hs,C7,aQ rfl]at fL;erw[_,Z,_,Z,_,Z,.inl #[lB,_,_,ub,Z,Z,aL.of ((iC.trans s5) _ _ dB),tD mV,_,Z,_,Z,m,ub,ev,.bM,rs,r,f,j,t,b,gb sq i,none,Z,RD.mono ko _ rm,aK,Rb,bb,oe.go (n4.same.trans s5),pb,Z,trivial,λH6 s6=>?_]];cases mt:jT r f b (gb sq i) none with |true=>rw[mt,aQ rfl]at fL;erw[_,Z,ba #[_,Z,(iC.trans s5).trans s6,aw,HH pre fL,.bM,_,_,_,_,by show lg H6 .bM (sq i);rw[hs];rfl,Z]] |false=>rw[mt,aV aA]at fL;erw[_,Z,bA #[_,Z,bG Z,λex fx=>?_]];erw[mF i 4 aw aw pre fL aA H6 _ _ Z Z (ko.trans s6) ex fx]
   |stp zs top q h1 h2 q0 bq bt lz=>
    subst h1 h2;let(k1,k2,k3,k4):=Mn (ti:=t) aK.t1.1 aK.t1.2 q0 (bq.mono aA);erw[.inr #[zs,top,nv t q,q,RD.mono (s2.trans iC) _ RG,RD.mono gq _ rx,lz,bt,bq.mono aA,q0,k1,k2,k3,k4,λH5 s5=>?_]];let ko:=gq.trans s5;by_cases bK:top<q
    ·rw[aQ bK]
     rw[aQ bK]at hf;rw[hf,aV aA]at fL;erw[_,Z,Z,_,Z,bA ?_];erw[_,Z,_,Z,bG Z,λex fx=>?_];erw[mF i 3 aw aw pre fL aA H5 _ _ Z Z ko ex fx]
    rw[aV bK];rw[aV bK]at hf;erw[_,Z,Z,_,Z,ba ?_];erw[_,Z,_,Z,.inl #[ta,_,_,x,Z,Z,ht.go ko,tD ex,x,Z,.inr #[zs,_,q,RD.mono ko _ rx,λgv Rg=>?_]]];let(b,eb,C7,Rb,bb):=bv i ub H5 mV (iC.trans s5);rw[hf,hs,C7,aQ rfl]at fL;erw[_,Z,_,Z,_,Z,.inl #[lB,_,_,ub,Z,Z,aL.of ((iC.trans s5) _ _ dB),tD mV,_,Z,_,Z,m,ub,ev,gv,rs,r,f,j,t,b,gb sq i,some q,Z,RD.mono ko _ rm,aK,Rb,bb,oe.go (n4.same.trans s5),pb,Rg,bq,λH6 s6=>?_]];cases mt:jT r f b (gb sq i) (some q)with |true=>rw[mt,aQ rfl]at fL;erw[_,Z,ba #[_,Z,(iC.trans s5).trans s6,aw,HH pre fL,gv,_,_,_,_,by show lg H6 gv (sq i);rw[hs];erw[bj.go Rg s6],Z]] |false=>rw[mt,aV aA]at fL;erw[_,Z,bA #[_,Z,bG Z,λex fx=>?_]];erw[mF i 4 aw aw pre fL aA H6 _ _ Z Z (ko.trans s6) ex fx]
  ·rintro O H3 ⟨s3,hde,pre,ev,v1,v2,v3,v4,oe,rfl⟩
   let nG:=iD.trans s3;let d3:=s3 _ _ (s2 _ _ dD);erw[_,Z,ta,_,Z,.inl (ht.go nG),_,Z,lD,_,Z,.inl (aL.of d3),_,_,Z,Z,_,Z,?_];by_cases bK:yD.length<es.length
   ·rw[cu (show((xt.length:Int)>(yD.length:Int)) by lia)]
    erw[bA #[_,Z,lD,_,Z,.inl (aL.of d3),bG Z,λex fx=>?_]];erw[mF yD.length 1 aw aw pre (by unfold gQ;rw[aV aw,aQ #[Iu,aw]]) aA H3 _ _ Z Z nG ex fx]
   rw[dP (show¬((xt.length:Int)>(yD.length:Int)) by lia)];erw[ba ?_];let e1:yD.length=es.length:=by lia
   let fL:gQ r f (cN j rate os) (dU rate ds os) es.length sq fa yD.length=if jT r f ((cN j rate os).getD yD.length 0) (gb sq es.length) none=true then 0 else 4:=by unfold gQ;rw[aV aw,aV aw,e1,tp.Vl,tp.ow,aQ rfl]
   obtain⟨ub,mV⟩:∃u,yB[yD.length]? =some u:=#[_,bo aw];let(b,eb,C7,Rb,bb):=bv _ ub H3 mV s3;rw[C7]at fL;erw[_,Z,_,Z,1,Z,.inl #[lB,_,-1,ub,Z,Z,aL.of (s3 _ _ dB),KL (by rw[Ye,yM,<-Iu];erw[mV]),_,Z,m,ub,ev,.bM,rs,r,f,j,t,b,gb sq es.length,none,Z,RD.mono nG _ rm,aK,Rb,bb,by rw[<-e1];erw[oe],tp.HN _ (aY _) aw,Z,trivial,λH4 s4=>?_]];cases mt:jT r f b (gb sq es.length) none with
   |true=>
    rw[mt,aQ rfl]at fL;erw[_,Z,ba (kq (TU lk λk hk=>?_) H4 (nG.trans s4))];rcases zK k yD.length with a|a
    ·erw[pre k a]
    ·rw[show k=yD.length by lia];erw[fL] |false=>rw[mt,aV aA]at fL;erw[_,Z,bA #[_,Z,lD,_,Z,.inl (aL.of (s4 _ _ d3)),bG Z,λex fx=>?_]];erw[mF yD.length 4 aw aw pre fL aA H4 _ _ Z Z (nG.trans s4) ex fx]
end
section
def Hs:Option (Nat×Nat)->aj |none=>.none |some (k,y)=>.tuple [.int (k:Nat),.int (y:Nat)]
theorem At.kind{n0:Nat}{j rate:Int}{ds:List aj}{os:List Itm}(row:cg n0 ds os){k i c:Nat}(a:At j rate ds os k i c): (os[i]? =some none/\c=0/\(cB os os.length)[k]? =some (.tuple [.int i,.none])/\∃d,ds[i]? =some d/\itR d none/\(cT rate ds os os.length)[k]? =some d)\/ ∃ns sp,os[i]? =some (some (ns,sp))/\c<aF ns/\(cB os os.length)[k]? =some (.tuple [.int i,rF (eH ns c)])/\(cT rate ds os os.length)[k]? =some (jG (eH ns c) (topR rate sp)):=by let ll:=row.len;obtain⟨o,eo⟩:∃o,os[i]? =some o:=#[_,bo a.hi];let hc:=a.hc;cases o with
 |none=>
  obtain⟨d',ed⟩:∃d',ds[i]? =some d':=#[_,bo (show i<ds.length by have:=a.hi;lia)];rw[o9 eo]at hc;let h0:c=0:=by simpa using hc
  subst h0;let e1:=a.dl;rw[o9 eo]at e1;let e2:=a.du;rw[qH eo ed]at e2;erw[.inl #[eo,Z,e1,d',ed,row.it i d' none ed eo,e2]] |some p=>let(ns,sp):=p;rw[lZ eo,bB,iu]at hc;let e1:=a.dl;rw[lZ eo,bV,jN hc]at e1;let e2:=a.du;rw[o8 eo,bV,jN hc]at e2;erw[.inr #[ns,sp,eo,hc,e1,e2]]
theorem abC{top:Rat}(h:jG zs top=jG Gg Gr):zs=Gg/\top=Gr:=by
 simp only[jG,PyData.tuple.injEq,List.cons.injEq,true_and,and_true,cA]at h;let(h1,h2,h3):=h;erw[?_,?_]
 ·exact(List.map_inj_right (f:=PyData.int) (λx y e=>by injection e)).mp h1
 ·erw[Rat.ext ?_ ?_]
  ·injection h2 with h2
  ·injection h3 with h3;lia
theorem tJ.a3U(h:tJ ti d e s y)(hd:itR d none):e=d/\kH e/\s=none/\y=0:=by cases h with |dQ h1 h2=>erw[h1,h2,Z,Z] |stp zs top q h1 _ _ _ _ _=>exact(Ul hd h1).elim
theorem tJ.MM{top:Rat}(h:tJ ti (jG zs top) e s y):∃q,e=jQ ti zs q/\s=some q/\y=(if top<q then 3 else 0)/\0<q/\Bd 1900 q:=by cases h with |dQ h1 h2=>subst h1;exact(VX h2 rfl).elim |stp Gg Gr q h1 h2 q0 bq _ _=>let(rfl,rfl):=abC h1;erw[q,h2,Z,Z,q0,bq]
theorem p9.Fq{n0:Nat}{j ti rate:Int}{ds:List aj}{os:List Itm}{es:List aj}(tp:p9 ti rate ds os es sq fa)(row:cg n0 ds os){k i c:Nat}(a:At j rate ds os k i c)(hk:k<es.length)(hd:k<dU rate ds os)(h:gb sq k=none):(cN j rate os)[k]? =some 0:=by let zi:(cB os os.length).length=dU rate ds os:=qI (rate:=rate) row _ (aY os.length);rw[a.bd];cases k with
 |zero=>
  let e:=a.ek;let c0:c=0:=by lia
  let i0:i=0:=by
   by_cases hi:i=0
   ·erw[hi]
   ·let m:=Cb os (show 1<=i by lia)
    have:=Kl row (show 0<os.length by have:=a.hi;lia);have:(cB os 1).length=(dX os 0).length:=by show([]++dX os 0).length=_;rfl
    lia
  subst c0 i0;erw[xx a.hi] |succ k=>
  let h:sq k=none:=h;let(i',c',a'):=xy (j:=j) (rate:=rate) row (show k<(cB os os.length).length by lia);obtain⟨e,ee⟩:∃e,es[k]? =some e:=#[_,bo aw];rcases a'.kind row with⟨eo,c0,_⟩|⟨ns,sp,_,_,_,iL⟩
  ·rcases a.prev row a' with⟨rfl,hc⟩|⟨rfl,rfl⟩
   ·have:=a.hc
    rw[o9 eo]at this;simp at this;lia
   ·rw[xx a.hi,a3L eo]
  ·let(q,_,hq,_):=(tp.ent k e _ ee iL).MM
   rw[h]at hq;cases hq
theorem At.WH{n0:Nat}{j rate:Int}{ds:List aj}{os:List Itm}(row:cg n0 ds os){k i c:Nat}(a:At j rate ds os (k+1) i c)(hk:k+1<(cB os os.length).length):∃i' rd,(cB os os.length)[k]? =some (.tuple [.int (i':Nat),rd])/\(i'=i->∃ns sp,os[i]? =some (some (ns,sp))/\(cN j rate os)[k+1]? =some (topR rate sp))/\(i'≠i->(cN j rate os)[k+1]? =some (ownF j rate os i)):=by
 let(i',c',a'):=xy (j:=j) (rate:=rate) row (show k<(cB os os.length).length by lia);let(rd,e1):=a'.num;erw[i',rd,e1,λh=>?_,λh=>?_]
 ·rcases a.prev row a' with⟨_,hc⟩|⟨h2,_⟩
  ·rcases a.kind row with⟨_,c0,_⟩|⟨ns,sp,eo,hl,_⟩
   ·lia
   ·erw[ns,sp,eo,by rw[a.bd];erw[KD eo hc hl]]
  ·lia
 ·rcases a.prev row a' with⟨h2,_⟩|⟨_,rfl⟩
  ·exact(h h2).elim
  ·rw[a.bd];erw[xx a.hi]
inductive Nd|mk m iv rate tv rs r f j t ds os es sq fa res(_:vs=[m,iv,.int rate,tv])(_:RD K H m (fy rs r f j t))(_:gA rs r f j t)(_:RD K H iv (.tuple ds))(_:cg rs.length ds os)(_:ds.length<=30)(_:10<=rate)(_:rate<=200)(_:RD K H tv (.list es))(_:p9 t rate ds os es sq fa)(qq:FG r f j rate ds os es sq fa res)(sS:∀v H',aH H H'->RD K H' v (Hs res)->Q v H')
abbrev a1N:=top 111
theorem Ot:bu ["_law_machine_here","_law_items_here","_law_rate","_law_tape_here","_law_due","_law_bounds_here","_law_ahead","_law_at","_law_behind","_law_bound","_law_number_here","_law_row","_law_why"] ["_law_machine_here","_law_items_here","_law_rate","_law_tape_here"] (aX a1N):=bD aP
theorem a4K(AA:a1v)(a94:a1k "_law_entry_fault" 5 Ng):a1k "_law_look" 6 Nd:=by
 exists AA.aaK.has,Ot,uT λ_ _ _ _=>rfl
 ·let(m,iv,rate,tv,rs,r,f,j,t,ds,os,es,sq,fa,res,rfl,rm,aK,ri,row,hz,bO,rt2,rt,tp,lk,k):=h
  let nd:=Ot.nd;erw[_,%[bw (dj (cf (cV K AA.B %[3,cK (x:="list") (v:=.ty "list") Z (AA.B.at "list") jK rfl|az]))) (aG (aR (cQ %[aB,aB|az]))) bC,pS 4 nd (pf (a4Z AA) hr %[1|az]),pS 5 nd (pf (SI AA) hr %[0,1,2|az]),pS 6 nd fQ,(g9 eO Z (pN Z (AA.B.at "range") %[aO cM (cY K AA.B %[3|az]) aB|az]) (aZ 7 nd) %[(fe (cQ %[fQ,cQ %[aB,aB|az]|az]) (cW K Z (n:=2) Z %[aZ 8 nd,aZ 9 nd|cU])),(je (bw (bL (cJ K Z hr.units) a1b (cY K AA.B %[3|az]) (bf _)) (aG (bw (bL ky a1b (cY K AA.B %[4|az]) (bf _)) (aG (aR (cQ %[7,aB|az]))) bC)) %[bw (bL Eg a1b (cY K AA.B %[4|az]) (bf _)) (aG (aR (cQ %[7,aB|az]))) bC,fe (px K M2 a1b) (cW K Z (n:=2) Z %[aZ 10 nd,aZ 11 nd|cU]),pS 12 nd (pf a94 hr %[0,px K u8 (pv 10),11,2,px K L2 a1b|az]),bw (bL mH (pv 12) aB (bf _)) (aG (aR (cQ %[7,12|az]))) bC,je (bw (bL nJ (pv 11) fQ (bf _)) (aG (pS 8 nd (px K (px K L2 a1b) aB))) bC),(bw (bL nJ W1 fQ (bf _)) %[pS 9 nd (px K P3 (pv 10)),bw (bL (cJ K Z hr.units) (px K (px K M2 (aO fE a1b aB)) aB) (pv 10) (bf _)) (aG (pS 9 nd (pf (AO AA) hr %[px K u8 (pv 10),2|az]))) bC|aG] bC)|aG])),bw (dj (cf (pf (a4U AA) hr %[0,9,6,8|az]))) (aG (aR (cQ %[7,aB|az]))) bC,pS 6 nd (pv 8)|aG]),aR fQ|aG],?_];let ll:=row.len;let lr:=aK.len;let KC:=WS aK row bO rt2;erw[_,Z,.inl #[_,_,"list",true,Z,rt.ty,aA,(by decide:iz "list" "list"=true),_,Z,ba ?_]];erw[_,Z,iv,rs.length,ds,os,Z,ri,row,aw,hz,λlD yD H1 nD dD rD s1=>?_];erw[_,Z,_,Z,_,Z,m,iv,rate,rs,r,f,j,t,ds,os,Z,RD.mono s1 _ rm,aK,RD.mono s1 _ ri,row,aw,bO,rt2,λlB yB H2 nB dB rB s2=>?_];let iD:=s1.trans s2;let(ta,xt,rfl,ht,jV):=rt.lst_inv;let(ia,xi,rfl,wC,ET):=ri.cF;let lxt:=jV.length;let Iu:=rD.length;let yM:=rB.length;rw[bB,ownL,bB,iu]at yM;let zi:(cB os os.length).length=dU rate ds os:=qI (rate:=rate) row _ (aY os.length);let dl:dU rate ds os<=100*os.length:=(uN (rate:=rate) row _ (aY _)).1;let lW:sizeLine=16777216:=by decide
  let hsm:=tp.small;let Bh:(cN j rate os).length=dU rate ds os+1:=by unfold cN;rw[cy,m7 (ds:=ds) row _ (aY _)];rfl
  let own:∀(c:Nat)(u:V)(H':Hp),c<=os.length->yB[c]? =some u->aH H2 H'->bj H' u (ownF j rate os c):=by intro c u H' hc e t';let(d1,e1,r1):=rB.get' c e;rw[bV,ownL,bV,jN aw]at e1;cases e1;exact(jy r1).go t'
  let mF:∀(i y:Nat),i<=es.length->i<=dU rate ds os->(∀k,k<i->gQ r f (cN j rate os) (dU rate ds os) es.length sq fa k=0)->gQ r f (cN j rate os) (dU rate ds os) es.length sq fa i=y->y≠0->∀(p:Addr)(H5 H6:Hp)(iv yv:V),iv= .int (i:Nat)->yv= .int (y:Nat)->aH H H5->Nw H5 H6 p (.tup [iv,yv])->Q (.ref p) H6:=by rintro i y EV sL pre e hy p H5 H6 _ _ rfl rfl s5 n6;let er:=TX lk (Nat.le_min.mpr #[EV,sL]) pre e hy;erw[k _ H6 (s5.trans n6.same) ?_];rw[er];erw[fJ (aW.of n6.at') %[dF _,dF _|cH]]
  erw[_,Z,ta,_,Z,.inl (ht.go iD),_,_,Z,Z,_,Z,aw,aw,?_];let eN:((xt.length:Int)+1).toNat=es.length+1:=by lia
  rw[eN];erw[qz (Pv:=λi O H3=>aH H2 H3/\i<=dU rate ds os+1/\(∀k,k<i->gQ r f (cN j rate os) (dU rate ds os) es.length sq fa k=0)/\∃av v1 v2 v3 v4 v5 v6,lg H3 av (gb sq i)/\O=[some m,some (.ref ia),some (.int rate),some (.ref ta),some (.ref lD),some (.ref lB),some av,v1,v2,v3,v4,v5,v6]) ?_ ?_ ?_]
  ·erw[aH.refl _,fX _,λ_ h=>absurd h (CU _),.bM,none,none,none,none,none,none,Z,Z]
  ·rintro i O H3 hi ⟨s3,hn1,pre,av,v1,v2,v3,v4,v5,v6,oa,rfl⟩
   erw[gh ?_];intro E1;let oP:i<=dU rate ds os:=by
    by_cases h:i=dU rate ds os+1
    ·have:=pre (dU rate ds os) aw
     unfold gQ at this;rw[aV aw,aQ #[Z,aw]]at this;cases this
    ·lia
   let tD:∀{α:Type}{l:List α}{u:α},l[i]? =some u->eY l (0+(i:Int))=some u:=λh=>cI aw (by rw[D8];simpa using h);erw[bG Z,λz0 H40 Ti=>?_];erw[bG Z,λz1 H4 Ik=>?_];erw[z1,_,Z,aW.of Ik.at',Z,_,_,Z,_,_,Z,Z,?_];let Tg:=Ti.same.trans Ik.same;let iC:=s3.trans Tg;let gq:=iD.trans iC;let R0:bj H4 (.ref z0) 0:=#[z0,Z,aW.of (Ik.same _ _ Ti.at')];let rZ:=oa.go Tg;erw[λO H5=>aH H4 H5/\∃gv bv b jP kj Mc,lg H5 gv (sq i)/\bj H5 bv b/\(cN j rate os)[i]? =some b/\gQ r f (cN j rate os) (dU rate ds os) es.length sq fa i=(if jT r f b (gb sq i) (sq i)=true then 0 else 4)/\O=[some m,some (.ref ia),some (.int rate),some (.ref ta),some (.ref lD),some (.ref lB),some av,some (.int (0+(i:Int))),some gv,some bv,jP,kj,Mc],?_,?_]
   ·erw[jZ ?_];intro E2
    erw[_,Z,_,Z,ta,_,Z,.inl (ht.go gq),.inl #[_,_,Z,Z,_,Z,?_]];by_cases qh:i=es.length
    ·rw[cu (show(0+(i:Int)=(xt.length:Int)) by lia)]
     erw[bA ?_];erw[_,Z,_,Z,lD,_,Z,.inl (aL.of ((s2.trans iC) _ _ dD)),_,_,Z,Z,_,Z,?_];by_cases bK:i<dU rate ds os
     ·rw[cu (show(0+(i:Int)<(yD.length:Int)) by lia)]
      erw[bA #[_,Z,bG Z,λp H5 n5=>?_]];erw[mF i 1 aw oP pre (by unfold gQ;rw[aQ #[qh,aw]]) aA p H4 H5 _ _ (by rw[D8]) Z gq n5]
     rw[dP (show¬(0+(i:Int)<(yD.length:Int)) by lia)];let hl:(ja j rate os os.length).length=i:=by
      rw[m7 (ds:=ds) (rate:=rate) row _ (aY _)];show dU rate ds os=i
      lia
     let eb:(cN j rate os)[i]? =some 0:=by unfold cN;rw[nj aw,hl,CT,Ec];rfl
     erw[ba #[aH.refl _,.bM,.ref z0,0,_,_,_,by rw[qh,tp.ow];rfl,R0,eb,?_,Z]];unfold gQ;rw[aV aw,aV aw,qh,tp.Vl,aQ Z,vn,<-qh,eb];rfl
    ·rw[dP (show¬(0+(i:Int)=(xt.length:Int)) by lia)]
     erw[ba ?_];let Bz:i<es.length:=by lia
     erw[_,Z,_,Z,lD,_,Z,.inl (aL.of ((s2.trans iC) _ _ dD)),_,_,Z,Z,_,Z,?_];by_cases hge:dU rate ds os<=i
     ·rw[cu (show((yD.length:Int)<=0+(i:Int)) by lia)]
      erw[bA #[_,Z,bG Z,λp H5 n5=>?_]];erw[mF i 1 aw oP pre (by unfold gQ;rw[aV aw,aQ #[aw,aw]]) aA p H4 H5 _ _ (by rw[D8]) Z gq n5]
     rw[dP (show¬((yD.length:Int)<=0+(i:Int)) by lia)];erw[ba ?_];let yU:i<dU rate ds os:=by lia
     let(ix,c,iV):=xy (j:=j) (rate:=rate) row (show i<(cB os os.length).length by lia);obtain⟨e,ee⟩:∃e,es[i]? =some e:=#[_,bo Bz];let(x,ex,rx):=jV.get i ee;let fL:gQ r f (cN j rate os) (dU rate ds os) es.length sq fa i=if fa i=0 then(if jT r f ((cN j rate os).getD i 0) (gb sq i) (sq i)=true then 0 else 4)else fa i:=by unfold gQ;rw[aV aw,aV aw]
     let qx:fa i=0->∀b,(cN j rate os)[i]? =some b->gQ r f (cN j rate os) (dU rate ds os) es.length sq fa i=(if jT r f b (gb sq i) (sq i)=true then 0 else 4):=λh b eb=>by rw[fL,h,aQ Z,vn,eb];rfl
     let knd:=iV.kind row;let(rd,Ka):=iV.num;let(y,ey,ry):=rD.get i Ka;let(ya,ys,rfl,Bo,jU):=(RD.mono (s2.trans iC) _ ry).cF;let(u1,yr,rfl,e1,jU):=jU.cons_inv;let(rv,yr,rfl,e2,jU):=jU.cons_inv;cases jU.nil_inv;cases e1.int_inv;obtain⟨dx,ze⟩:∃d,ds[ix]? =some d:=#[_,bo (by have:=iV.hi;lia)];let(xv,exv,QY):=ET.get ix ze;erw[_,Z,_,Z,.inl #[lD,_,_,.ref ya,Z,Z,aL.of ((s2.trans iC) _ _ dD),tD ey,ya,_,Z,Bo,Z,_,_,Z,_,_,Z,Z,?_]];erw[_,Z,_,Z,_,Z,.inr #[ia,_,_,xv,Z,Z,wC.go gq,cI aw (by simpa using exv),?_]];erw[_,Z,_,Z,_,Z,_,Z,.inl #[ta,_,_,x,Z,Z,ht.go gq,tD ex,?_]];erw[m,xv,rv,rate,x,rs,r,f,j,t,Z,RD.mono gq _ rm,aK,?_];rcases knd with⟨eo,c0,C4,d',jD,Uk,iL⟩|⟨ns,sp,eo,fT,C4,iL⟩
     ·rw[Ka]at C4
      cases C4;cases e2.AY;rw[ze]at jD;cases jD;let(rfl,dQ,hs,hf):=(tp.ent i e _ ee iL).a3U Uk;let qx:=qx hf;erw[.inl #[Z,_,RD.mono gq _ QY,RD.mono gq _ rx,dQ,λH6 s6=>?_]];erw[_,Z,_,_,Z,Z,_,Z,ba ?_];erw[λO H7=>H7=H6/\O=[some m,some (.ref ia),some (.int rate),some (.ref ta),some (.ref lD),some (.ref lB),some av,some (.int (0+(i:Int))),some .bM,some (.ref z0),some (.int (ix:Int)),some .bM,some (.int 0)],#[_,Z,Z,_,Z,ba #[Z,Z]],?_];rintro O H7 ⟨rfl,rfl⟩;let OG:lg H7 .bM (sq i):=by rw[hs];rfl
      cases hp:gb sq i with |none=>rw[hp]at rZ;let ea:av= .bM:=rZ;subst ea;erw[_,Z,Z,_,Z,ba ?_];erw[s6,.bM,.ref z0,0,_,_,_,OG,R0.go s6,tp.Fq row iV Bz yU hp,(by let z:=qx _ (tp.Fq row iV Bz yU hp);erw[z]),Z] |some q'=>cases Bx:i with |zero=>rw[Bx]at hp;cases hp |succ kk=>
       subst Bx;rw[hp]at rZ;let(aa,ea,_):=id (show bj H4 av q' from rZ);subst ea;erw[_,Z,Z,_,Z,bA ?_];let oz:=iC.trans s6;let lP:=iD.trans oz;obtain⟨ub,mV⟩:∃u,yB[ix]? =some u:=#[_,bo (by have:=iV.hi;lia)];let Ro:=own ix ub H7 (by have:=iV.hi;lia) mV oz;erw[_,Z,_,Z,.inl #[lB,_,_,ub,Z,Z,aL.of (oz _ _ dB),cI aw (by simpa using mV),?_]];let(i',DW,K9,b1,b2):=iV.WH row aw;let(yp,JT,Hc):=rD.get kk K9;let(zX,Yv,rfl,hyp,hyps):=(RD.mono (s2.trans oz) _ Hc).cF;let(u1,yr,rfl,K0,hyps):=hyps.cons_inv;cases K0.int_inv;erw[_,Z,_,Z,_,_,Z,Z,.inl #[lD,_,_,.ref zX,Z,Z,aL.of ((s2.trans oz) _ _ dD),cI aw (by rw[show(0+((kk+1:Nat):Int)-1).toNat=kk by lia];erw[JT]),?_]];erw[.inr #[zX,_,0,.int (i':Int),Z,Z,hyp,cI (fD 0) Z,?_]];erw[_,Z,.inl #[_,_,Z,Z,_,Z,?_]];by_cases sI:i'=ix
       ·rw[cu (show((i':Int)=(ix:Int)) by lia)]
        let(gD,iB,eF,jE):=b1 sI;let(HR,GL,GK):=row.ok ix gD iB eF;obtain⟨p5,C3⟩:∃d,ds[ix]? =some d:=#[_,bo (by have:=iV.hi;lia)];let(xv',JV,He):=ET.get ix C3;let C6:=jC (row.it ix p5 _ C3 eF);subst C6;erw[bA #[_,Z,_,Z,.inr #[ia,_,_,xv',Z,Z,wC.go lP,cI aw (by simpa using JV),?_]]];erw[_,Z,xv',gD,iB,rate,Z,RD.mono lP _ He,GL,GK,bO,rt2,λtS H7 R7 s7=>?_];erw[s6.trans s7,.bM,tS,_,_,_,_,lg.go OG s7,R7,jE,(by let z:=qx _ jE;erw[z]),Z]
       ·rw[dP (show¬((i':Int)=(ix:Int)) by lia)]
        erw[ba #[s6,.bM,ub,_,_,_,_,OG,Ro,b2 sI,(by let z:=qx _ (b2 sI);erw[z]),Z]]
     ·rw[Ka]at C4
      cases C4;let C6:=jC (row.it ix dx _ ze eo);subst C6;let(bT,cR,dh):=row.ok ix ns sp eo;let(ra,rxs,rfl,hra,_):=id e2.cF;let(q,rfl,hs,hf,q0,bq):=(tp.ent i e _ ee iL).MM;erw[.inr #[ns,sp,eH ns c,q,RD.mono gq _ QY,cR,dh,bO,rt2,e2,RD.mono gq _ rx,by unfold eH;rw[bB,bT.len];lia,bq.mono aA,q0,λH6 s6=>?_]];by_cases bK:topR rate sp<q
      ·rw[aQ bK]
       rw[aQ bK]at hf;erw[_,Z,_,_,Z,Z,_,Z,bA ?_];erw[_,Z,_,Z,bG Z,λp H7 n7=>?_];erw[mF i 3 aw oP pre (by rw[fL,hf];rfl) aA p H6 H7 _ _ (by rw[D8]) Z (gq.trans s6) n7]
      rw[aV bK];rw[aV bK]at hf;let qx:=qx hf;erw[_,Z,_,_,Z,Z,_,Z,ba ?_];let(mX,jE,sZ,rfl,k1,k2,k3):=A9 (RD.mono (gq.trans s6) _ rx);erw[λO H7=>H7=H6/\O=[some m,some (.ref ia),some (.int rate),some (.ref ta),some (.ref lD),some (.ref lB),some av,some (.int (0+(i:Int))),some sZ,some (.ref z0),some (.int (ix:Int)),some (.ref ra),some (.int 0)],?_,?_]
      ·erw[jZ ?_];intro E3
       erw[_,Z,Z,_,Z,bA ?_];erw[_,Z,_,Z,.inl #[ta,_,_,.ref mX,Z,Z,ht.go (gq.trans s6),tD ex,.inr #[mX,_,3,sZ,Z,Z,k1,Z,Z,Z]]]
      rintro O H7 ⟨rfl,rfl⟩;let OG:lg H7 sZ (sq i):=by rw[hs];erw[k3]
      cases hp:gb sq i with |none=>rw[hp]at rZ;let ea:av= .bM:=rZ;subst ea;erw[_,Z,Z,_,Z,ba ?_];erw[s6,sZ,.ref z0,0,_,_,_,OG,R0.go s6,tp.Fq row iV Bz yU hp,(by let z:=qx _ (tp.Fq row iV Bz yU hp);erw[z]),Z] |some q'=>cases Bx:i with |zero=>rw[Bx]at hp;cases hp |succ kk=>
       subst Bx;rw[hp]at rZ;let(aa,ea,_):=id (show bj H4 av q' from rZ);subst ea;erw[_,Z,Z,_,Z,bA ?_];let oz:=iC.trans s6;let lP:=iD.trans oz;obtain⟨ub,mV⟩:∃u,yB[ix]? =some u:=#[_,bo (by have:=iV.hi;lia)];let Ro:=own ix ub H7 (by have:=iV.hi;lia) mV oz;erw[_,Z,_,Z,.inl #[lB,_,_,ub,Z,Z,aL.of (oz _ _ dB),cI aw (by simpa using mV),?_]];let(i',DW,K9,b1,b2):=iV.WH row aw;let(yp,JT,Hc):=rD.get kk K9;let(zX,Yv,rfl,hyp,hyps):=(RD.mono (s2.trans oz) _ Hc).cF;let(u1,yr,rfl,K0,hyps):=hyps.cons_inv;cases K0.int_inv;erw[_,Z,_,Z,_,_,Z,Z,.inl #[lD,_,_,.ref zX,Z,Z,aL.of ((s2.trans oz) _ _ dD),cI aw (by rw[show(0+((kk+1:Nat):Int)-1).toNat=kk by lia];erw[JT]),?_]];erw[.inr #[zX,_,0,.int (i':Int),Z,Z,hyp,cI (fD 0) Z,?_]];erw[_,Z,.inl #[_,_,Z,Z,_,Z,?_]];by_cases sI:i'=ix
       ·rw[cu (show((i':Int)=(ix:Int)) by lia)]
        let(gD,iB,eF,jE):=b1 sI;let(HR,GL,GK):=row.ok ix gD iB eF;obtain⟨p5,C3⟩:∃d,ds[ix]? =some d:=#[_,bo (by have:=iV.hi;lia)];let(xv',JV,He):=ET.get ix C3;let C6:=jC (row.it ix p5 _ C3 eF);subst C6;erw[bA #[_,Z,_,Z,.inr #[ia,_,_,xv',Z,Z,wC.go lP,cI aw (by simpa using JV),?_]]];erw[_,Z,xv',gD,iB,rate,Z,RD.mono lP _ He,GL,GK,bO,rt2,λtS H7 R7 s7=>?_];erw[s6.trans s7,sZ,tS,_,_,_,_,lg.go OG s7,R7,jE,(by let z:=qx _ jE;erw[z]),Z]
       ·rw[dP (show¬((i':Int)=(ix:Int)) by lia)]
        erw[ba #[s6,sZ,ub,_,_,_,_,OG,Ro,b2 sI,(by let z:=qx _ (b2 sI);erw[z]),Z]]
   ·rintro O H5 ⟨s5,gv,bv,b,jP,kj,Mc,og,Rb,eb,fL,rfl⟩
    let ko:=gq.trans s5;let obi:zu 1900 (sq i):=by
     by_cases qh:i=es.length
     ·rw[qh,tp.ow];trivial
     by_cases yU:i=dU rate ds os
     ·let hh:gQ r f (cN j rate os) (dU rate ds os) es.length sq fa i=1:=by unfold gQ;rw[aV aw,aQ #[yU,aw]]
      rw[hh]at fL;split at fL<;>cases fL
     ·erw[tp.HZ i aw aw]
    erw[_,Z,_,Z,_,Z,_,Z,m,bv,av,gv,rs,r,f,j,t,b,gb sq i,sq i,Z,RD.mono ko _ rm,aK,Rb,KC b (gZ eb),rZ.go s5,tp.HN i aw oP,og,obi,λH6 s6=>?_];cases mt:jT r f b (gb sq i) (sq i)with |true=>rw[mt,aQ rfl]at fL;erw[_,Z,ba #[_,Z,(iC.trans s5).trans s6,aw,HH pre fL,gv,_,_,_,_,_,_,og.go s6,Z]] |false=>rw[mt,aV aA]at fL;erw[_,Z,bA #[_,Z,bG Z,λp H7 n7=>?_]];erw[mF i 4 aw oP pre fL aA p H6 H7 _ _ (by rw[D8]) Z (ko.trans s6) n7]
  ·rintro O H3 ⟨s3,hn1,pre,av,v1,v2,v3,v4,v5,v6,oa,rfl⟩
   let er:=TU lk λk hk=>pre k (by have:=Nat.le_min.mp hk;lia);erw[k .bM H3 (iD.trans s3) ?_];rw[er];erw[Au]
end
section
abbrev a1K:=top 86
theorem O6:bu ["_law_thing"] ["_law_thing"] (aX a1K):=bD aP
theorem Sy(AA:a1v):Lk P w K mg aD "_law_number" 1 Ad:=by
 erw[AA.Vo.a8B O6 (λvs H Q E h=>?_) (λ_ _ _ _ _ _=>fo λ_=>rfl) (λf aM A outer s H vs Q hr h=>?_)]
 ·let(v,T,rfl,_):=h
  rfl
 ·let(v,T,rfl,ty,k):=h
  let nd:=O6.nd;erw[_,(aG (aR (gP (cV K AA.B %[0,cK (x:="int") (v:=.ty "int") Z (AA.B.at "int") vi rfl|az]) (gN (vN (cV K AA.B %[0,cK (x:="bool") (v:=.ty "bool") rfl (AA.B.at "bool") Y7 rfl|az])))))),?_];erw[_,Z,.inl #[_,T,"int",_,Z,ty,aA,Z,_,Z,?_]];unfold j6 at k;erw[dW (λhc=>?_) (λhc=>?_)]
  ·erw[_,Z,.inl #[_,T,"bool",_,Z,ty,aA,Z,_,Z,?_]]
   rw[hc,lK]at k;erw[k]
  ·rw[xS.mpr hc,mx]at k
   erw[k]
inductive Na|mk m iv rate tv rs r f j t ds os es sq fa res(_:vs=[m,iv,.int rate,tv])(_:RD K H m (fy rs r f j t))(_:gA rs r f j t)(_:RD K H iv (.tuple ds))(_:cg rs.length ds os)(_:ds.length<=30)(_:10<=rate)(_:rate<=200)(_:RD K H tv (.list es))(_:e9 8 (.list es))(qq:p9 t rate ds os es sq fa)(sS:FG r f j rate ds os es sq fa res)(wK:∀v H',aH H H'->RD K H' v (Hs res)->Q v H')
theorem Of:bu ["_law_machine_here","_law_items_here","_law_rate","_law_tape_here","_law_kept","_law_found","e","_law_others"] ["_law_machine_here","_law_items_here","_law_rate","_law_tape_here"] (aX Qf):=bD aP
theorem a4L{C:Addr}(AA:a1v)(EA:XG K mg C fI cG c0 c1 c2 c3 c4 c5 c6 c7 c8 c9)(a7U:FK P w K mg aD "look" 10 (N9 C)):a1k "_law_looked" 11 Na:=by
 erw[AA.aaJ.a8D Of (λvs H Q E h=>?_) (λ_ _ _ _ _ _=>uT λ_ _ _ _=>rfl) (λf aM A outer s H vs Q E hr h=>?_)]
 ·let(m,iv,rate,tv,rs,r,f,j,t,ds,os,es,sq,fa,res,rfl,_):=h
  rfl
 ·let(m,iv,rate,tv,rs,r,f,j,t,ds,os,es,sq,fa,res,rfl,rm,aK,ri,row,hz,bO,rt2,rt,ok,tp,lk,k):=h
  let nd:=Of.nd;let hy:=EA.g;let Jo:(Ky).contains (.type "BaseException")=true:=by decide
  let Js:∀C',C'=C->ClsAt K C'/\takes K C' cG:=λC' e=>by subst e;erw[EA.oc.e.cls,EA.t]
  let a8U:=EA.h0;let a8T:=EA.h1;let a8S:=EA.h2;let a8R:=EA.h3;let a8Q:=EA.h4;let a8P:=EA.h5;let a8O:=EA.h6;let a8N:=EA.h7;let a8L:=EA.h8;let a8K:=EA.h9;let a8I:=EA.v;let a8M:GV mg "NoTape" (.ref C):=#[_,EA.oc.e.at',Z];let(ta,xt,rfl,ht,jV):=id rt.lst_inv;erw[_,(qN.Wq (pS 4 nd (yi (cf (cV K AA.B %[3,cK (x:="list") (v:=.ty "list") Z (AA.B.at "list") jK rfl|az])) (iE (x:="list") (ED K rfl) rfl (AA.B.at "list") jK %[3|az]) fQ)) (qN.Wq (pS 5 nd fQ) (qN.ac1 (a3b (i:=6) Z Z nd Z Z Z (λE xe hp=>(aG (bw (bL nJ (a3D a7U hp (hr.mono aA) Z %[0,1,2,3|az]) fQ (bf _)) (aG (pS 5 nd eU)) bC))) Z hy Jo Js (λex=>%[(pS 7 nd (eK (x:="isinstance") (IT K Z) Z (AA.B.at "isinstance") LF %[6,cQ %[dC (x:="Full") rfl a8U,dC (x:="Moving") rfl a8T,dC (x:="NoFraction") rfl a8S,dC (x:="NoItem") rfl a8R,dC (x:="NoLine") rfl a8Q,dC (x:="NoMachine") rfl a8P,dC (x:="NoPlace") rfl a8O,dC (x:="NoRate") rfl a8N,dC (x:="NoText") rfl a8L,dC (x:="OffRails") rfl a8K|az]|az])),pS 5 nd eU,bw (PW.pt (mG (cf (eK (x:="isinstance") (IT K Z) Z (AA.B.at "isinstance") LF %[6,dC (x:="NoTape") rfl a8M|az])) (mG (dj (cf a1b)) (pL (cf (eK (x:="isinstance") (IT K rfl) rfl (AA.B.at "isinstance") LF %[6,cK (x:="ValueError") (v:=.ty "ValueError") rfl a8I acG rfl|az])))))) (aG (bw (PW.pt (mG (cf (S5 (Sy AA) ((hr.mark _).mono aA) Z %[E7 K Z W1|az])) (pL (cf (S5 (Sy AA) ((hr.mark _).mono aA) Z %[E7 K Z W1|az]))))) (aG (pS 5 nd (cQ %[E7 K Z W1,E7 K Z W1|az]))) bC)) bC|aG])) %[bw (PW.pt (mG (bL nJ M2 fQ (bf _)) (pL (bL (iH K Z hr.units) L2 M2 (bf _))))) (aG (aR eU)) bC,aR P3|aG]))),?_];erw[_,Z,.inl #[_,_,"list",true,Z,rt.ty,aA,(by decide:iz "list" "list"=true),_,Z,bA ?_]];erw[_,Z,ta,_,Z,.inl ht,λl1 H1 n1=>?_];let s1:=n1.same;erw[λσ' cls dx H'=>σ'=[some m,some iv,some (.int rate),some (.ref ta),some (.ref l1),some .bM,none,none]/\cls= .ref C/\∃(d:Addr)(kk y:Nat),dx=some d/\res=some (kk,y)/\aH H1 H'/\H' d=some (.xd (AX (.int (kk:Nat)) (.int (y:Nat)))),?_,λσ' cls dx H' h=>#[C,h.2.1,Z],?_]
  ·erw[_,Z,_,Z,_,Z,_,Z,m,iv,rate,.ref ta,rs,r,f,j,t,ds,os,es,sq,fa,res,Z,RD.mono s1 _ rm,aK,RD.mono s1 _ ri,row,hz,bO,rt2,RD.mono s1 _ rt,tp,lk,λer H2 s2=>?_,λkk y er H' dx sm hd=>#[Z,Z,dx,kk,y,Z,er,sm,hd]]
   erw[Z,_,Z,ba ?_];let Ha:=s1.trans s2;erw[_,Z,Z,_,Z,bA ?_];erw[_,Z,_,Z,.inr #[_,_,RD.mono Ha _ rt,rH (aL.of (s2 _ _ n1.at')) (aI.mono Ha _ jV),kN ok,kN ok,_,Z,?_]];rw[eqv_refl _ ok.lay];erw[ba #[_,Z,k _ H2 Ha (by rw[er];erw[Au])]]
  ·rintro C' ex dx σ' H' hl ⟨rfl,eC,d,kk,y,rfl,er,sm,hd⟩ hex
   cases eC;let e1:(_L.upd H' ex (.ext (pA ex (.ref C) (some d)))) ex=some (.ext (pA ex (.ref C) (some d))):=bP;let dne:d≠ex:=dH hd hex;let e3:(_L.upd H' ex (.ext (pA ex (.ref C) (some d)))) d=some (.xd (AX (.int (kk:Nat)) (.int (y:Nat)))):=by rw[aU dne];erw[hd]
   erw[_,Z,bG Z,λt H2 nw=>?_];let e2:=nw.same _ _ e1;let e4:=nw.same _ _ e3;erw[.inr #[ex,C,t,some d,[c0,c1,c2,c3,c4,c5,c6,c7,c8,c9],false,Z,e2,EA.k,nw.at',EA.any,?_]];erw[_,Z,.inl #[ex,C,some d,.ref C,.ref C,true,Z,e2,EA.k,Z,EA.own,_,Z,bA ?_]];erw[_,Z,_,Z,bA ?_];erw[_,Z,.inl #[ex,C,some d,.ty "ValueError",.type "ValueError",true,Z,e2,EA.k,Z,EA.ve,_,Z,bA ?_]];erw[_,Z,ex,C,d,_,(kk:Int),Z,e2,e4,EA.k,EA.fat,Z,_,_,Z,(dF (K:=K) (H:=H2) (kk:Int)).ty,_,Z,?_];rw[show j6 (kn (.int (kk:Int)))=true from(by decide:j6 "int"=true)];erw[bA ?_];erw[_,Z,ex,C,d,_,(y:Int),Z,e2,e4,EA.k,EA.fwhy,Z,_,_,Z,(dF (K:=K) (H:=H2) (y:Int)).ty,_,Z,?_];rw[show j6 (kn (.int (y:Int)))=true from(by decide:j6 "int"=true)];erw[bA ?_];erw[_,Z,ex,C,d,_,(kk:Int),Z,e2,e4,EA.k,EA.fat,Z,_,Z,ex,C,d,_,(y:Int),Z,e2,e4,EA.k,EA.fwhy,Z,bG Z,λp H3 n3=>?_];let DR:aH H1 H3:=sm.trans ((aH.new hex).trans (nw.same.trans n3.same));let nG:=s1.trans DR;erw[_,Z,Z,_,Z,bA ?_];erw[_,Z,_,Z,.inr #[_,_,RD.mono nG _ rt,rH (aL.of (DR _ _ n1.at')) (aI.mono nG _ jV),kN ok,kN ok,_,Z,?_]];rw[eqv_refl _ ok.lay];erw[ba #[_,Z,k _ H3 nG ?_]];rw[er];erw[fJ (aW.of n3.at') %[dF _,dF _|cH]]
end
end _c
set_option maxHeartbeats 2000000
namespace _c
open PySem PySem.Spec PyProof.Rows _L _d _l _C _P _W _R
open _O (topR cornO mnO betR atO ownF leadF ownL OkI OkIs)
section
def xq{α:Type}(I:Nat->List α):Nat->List α |0=>[] |i+1=>xq I i++I i
theorem Cm{α:Type}{I:Nat->List α}{os:List Itm}(hl:∀i,i<os.length->(I i).length=(dX os i).length):∀n,n<=os.length->(xq I n).length=(cB os n).length |0,_=>rfl |n+1,hn=>by show(xq I n++I n).length=(cB os n++dX os n).length;rw[cy,cy,Cm hl n aw,hl n aw]
theorem Kv{α:Type}{I:Nat->List α}{os:List Itm}(hl:∀i,i<os.length->(I i).length=(dX os i).length){i c:Nat}(hc:c<(dX os i).length):∀n,i<n->n<=os.length->(xq I n)[(cB os i).length+c]? =(I i)[c]?
 |0,h,_=>by lia |n+1,h,hn=>by
  show(xq I n++I n)[_]? =_;let l:=Cm hl n aw;by_cases e:i=n
  ·subst e
   rw[nj aw,l,Yc]
  ·let m:=Cb os (show i+1<=n by lia)
   have:(cB os (i+1)).length=(cB os i).length+(dX os i).length:=by show(cB os i++dX os i).length=_;rw[cy]
   rw[mq aw];erw[Kv hl hc n aw aw]
def jY(r f:Int)(ld:Nat)(top b e:Rat)(c:Nat):Rat:=mn (mn (b+((2*r*(c:Int):Int):Rat)) top) (e+((2*f*((ld:Int)-(c:Int)):Int):Rat))
theorem acC{r f:Int}{ld:Nat}{top b e:Rat}(h1:b<=top)(h2:b<=e+((2*f*(ld:Int):Int):Rat)):jY r f ld top b e 0=b:=by
 unfold jY;let z:b+((2*r*((0:Nat):Int):Int):Rat)=b:=by rw[show(2*r*((0:Nat):Int):Int)=0 by simp];erw[vg _]
 rw[z,show(ld:Int)-((0:Nat):Int)=ld by simp];erw[qS (bW (dR _ _) (dR _ _)) (gE (gE fu h1) h2)]
theorem acF{r f:Int}{ld:Nat}{top b e:Rat}(h1:e<=top)(h2:e<=b+((2*r*(ld:Int):Int):Rat)):jY r f ld top b e ld=e:=by
 unfold jY;let z:e+((2*f*((ld:Int)-(ld:Int)):Int):Rat)=e:=by rw[Int.sub_self,Gd];erw[vg _]
 rw[z];erw[qS (fw _ _) (gE (gE h2 h1) fu)]
theorem WD{r f:Int}{ld k:Nat}{top b e:Rat}(hr:0<=r)(hf:0<=f): (jB r f ld top b e k<=jY r f ld top b e k+(r:Rat)/\jY r f ld top b e k<=jB r f ld top b e k+(f:Rat))/\(jB r f ld top b e k<=jY r f ld top b e (k+1)+(f:Rat)/\jY r f ld top b e (k+1)<=jB r f ld top b e k+(r:Rat)):=by
 let qg:(0:Rat)<=(r:Rat):=tN.mpr hr;let BA:(0:Rat)<=(f:Rat):=tN.mpr hf;let e1:r*(2*(1+(k:Int))-1)=2*r*k+r:=by grind
 let e2:f*(2*((ld:Int)-(1+(k:Int)))+1)=2*f*((ld:Int)-k)-f:=by grind
 let e3:2*r*((k+1:Nat):Int)=2*r*k+2*r:=by grind
 let e4:2*f*((ld:Int)-((k+1:Nat):Int))=2*f*((ld:Int)-k)-2*f:=by grind
 unfold jB jY;rw[e1,e2,e3,e4];generalize 2*r*(k:Int)=x;generalize 2*f*((ld:Int)-k)=y;simp only[Rat.intCast_add,Rat.intCast_sub,CQ];let t2:((2:Int):Rat)=2:=rfl;rw[t2];generalize(r:Rat)=R at*;generalize(f:Rat)=F at*;generalize(x:Rat)=X;generalize(y:Rat)=Y;unfold mn;erw[#[?_,?_],?_,?_]<;>grind
theorem acD{r f:Int}{ld c:Nat}{top b e:Rat}(hr:0<=r)(hf:0<=f)(hc:c<=ld)(ht:0<=top)(hb:0<=b)(he:0<=e):0<=jY r f ld top b e c:=by
 let nn:∀{z:Int}{x:Rat},0<=x->0<=z->0<=x+(z:Rat):=λ{z x} hx hz=>by have:(0:Rat)<=(z:Rat):=tN.mpr hz;grind
 erw[gE (gE (nn hb (iy aw aw)) ht) (nn he (iy aw aw))]
theorem a5U{r f:Int}{ld k:Nat}{top b e:Rat}:jB r f ld top b e k<=top:=bW (dR _ _) (fw _ _)
theorem acE{r f:Int}{ld k:Nat}{top b e:Rat}:jY r f ld top b e k<=top:=bW (dR _ _) (fw _ _)
section
variable {r f j ti rt':Int}{ds:List aj}{os:List Itm}
noncomputable def vC(r f j rt':Int)(os:List Itm)(i:Nat):List (Option Rat):=match os[i]? with |some (some (ns,sp))=>(List.range (aF ns)).map λk=>some (jB r f (aF ns) (topR rt' sp) (cP r f j rt' os i) (cP r f j rt' os (i+1)) k) |_=>[none]
noncomputable def qZ(r f j rt':Int)(os:List Itm)(i c:Nat):Rat:=match os[i]? with |some (some (ns,sp))=>jY r f (aF ns) (topR rt' sp) (cP r f j rt' os i) (cP r f j rt' os (i+1)) c |_=>cP r f j rt' os i
noncomputable def tY(r f j rt':Int)(os:List Itm)(k:Nat):Option Rat:=((xq (vC r f j rt' os) os.length)[k]?).getD none
theorem DK{i:Nat}{ns:List Int}{sp:Int}(h:os[i]? =some (some (ns,sp))):vC r f j rt' os i=(List.range (aF ns)).map λk=>some (jB r f (aF ns) (topR rt' sp) (cP r f j rt' os i) (cP r f j rt' os (i+1)) k):=by unfold vC;rw[h]
theorem DJ{i:Nat}(h:os[i]? =some none):vC r f j rt' os i=[none]:=by unfold vC;rw[h]
theorem xV{i c:Nat}{ns:List Int}{sp:Int}(h:os[i]? =some (some (ns,sp))):qZ r f j rt' os i c=jY r f (aF ns) (topR rt' sp) (cP r f j rt' os i) (cP r f j rt' os (i+1)) c:=by unfold qZ;rw[h]
theorem Gj{i c:Nat}(h:os[i]? =some none):qZ r f j rt' os i c=cP r f j rt' os i:=by unfold qZ;rw[h]
theorem GF(hi:i<os.length):(vC r f j rt' os i).length=(dX os i).length:=by obtain⟨o,eo⟩:∃o,os[i]? =some o:=#[_,bo hi];cases o with |none=>rw[DJ eo,o9 eo];rfl |some q=>let(ns,sp):=q;rw[DK eo,lZ eo,bB,bB]
theorem Vz(hi:i<os.length):(mW r f j ti rt' ds os i).length=(dX os i).length:=by obtain⟨o,eo⟩:∃o,os[i]? =some o:=#[_,bo hi];cases o with |none=>unfold mW;rw[eo,o9 eo];rfl |some q=>let(ns,sp):=q;rw[BX eo,lZ eo,II,bB,iu]
theorem Gu:∀n,my r f j ti rt' ds os n=xq (mW r f j ti rt' ds os) n |0=>rfl |n+1=>by show _++_=_++_;rw[Gu n]
theorem GD(hi:i<os.length)(hc:c<(dX os i).length):tY r f j rt' os ((cB os i).length+c)=((vC r f j rt' os i)[c]?).getD none:=by unfold tY;rw[Kv (λi hi=>GF hi) hc _ hi (aY _)]
end
theorem a3k{t:Int}(rate:Int)(os:List Itm)(aK:gA rs r f j t):Keeps os.length (ownF j rate os) (leadF os) (2*r) (2*f) (cP r f j rate os):=RW (by have:=aK.r1;lia) (by have:=aK.f1;lia)
theorem Ub{os:List Itm}{i:Nat}{ns:List Int}{sp:Int}(h:os[i]? =some (some (ns,sp))):leadF os i=some (aF ns):=by unfold leadF;rw[_O.m8 h];rfl
theorem Zf{rs:List Int}{r f j ti rate rt':Int}{ds:List aj}{os:List Itm}(aK:gA rs r f j ti)(row:cg rs.length ds os)(dA:RowW ds os)(hz:ds.length<=30)(h1:10<=rt')(h2:rt'<=rate)(h3:rate<=200):kZ r f j ti rate ds os (my r f j ti rt' ds os os.length) (tY r f j rt' os):=by
 let ll:=row.len;let r1:=aK.r1;let f1:=aK.f1;let kp:=a3k rt' os aK;let nn:∀i,i<=os.length->0<=cP r f j rt' os i:=RU aw aw λi _=>_O.rW j rt' os i;let WO:=RX aK row hz h1 (show rt'<=200 by lia);let zi:=qI (rate:=rate) row _ (aY os.length);let tl:(my r f j ti rt' ds os os.length).length=(cB os os.length).length:=by rw[Gu];erw[Cm (λi hi=>Vz hi) _ (aY _)]
 let te:∀{i c:Nat},i<os.length->c<(dX os i).length->(my r f j ti rt' ds os os.length)[(cB os i).length+c]? =(mW r f j ti rt' ds os i)[c]?:=λhi hc=>by rw[Gu];erw[Kv (λi hi=>Vz hi) hc _ hi (aY _)]
 let ln:∀{i:Nat}{ns:List Int}{sp:Int},os[i]? =some (some (ns,sp))->jY r f (aF ns) (topR rt' sp) (cP r f j rt' os i) (cP r f j rt' os (i+1)) 0=cP r f j rt' os i/\jY r f (aF ns) (topR rt' sp) (cP r f j rt' os i) (cP r f j rt' os (i+1)) (aF ns)=cP r f j rt' os (i+1):=λ{i ns sp} eo=>by let hi:=(cm.mp eo).1;erw[acC (bW (kp.own i aw) (a3M eo)) (kp.JH i _ hi (Ub eo)),acF (bW (kp.own (i+1) aw) (a3N eo)) (kp.rise i _ hi (Ub eo))]
 let dS:∀i,(cB os (i+1)).length=(cB os i).length+(dX os i).length:=λi=>by show(cB os i++dX os i).length=_;rw[cy]
 erw[by rw[tl,zi],λk e du ee iL=>?_,?_,λk b eb=>?_]
 ·let hk:k<(cB os os.length).length:=by rw[<-tl];exact(cm.mp ee).1
  let(i,c,a):=xy (j:=j) (rate:=rate) row hk;let hi:=a.hi;let hc:=a.hc;let ek:=a.ek;subst ek;rw[te hi hc]at ee;rw[GD hi hc];rcases a.kind row with⟨eo,c0,_,d,ed,Uk,K8⟩|⟨ns,sp,eo,fT,_,K8⟩
  ·rw[K8]at iL
   cases iL;subst c0;rw[DJ eo];have:(mW r f j ti rt' ds os i)=[du]:=by unfold mW;rw[eo];simp[ed]
   rw[this]at ee;cases ee;erw[Z,dA i _ eo ed]
  ·rw[K8]at iL
   cases iL;let(bT,cR,dh):=row.ok i ns sp eo;rw[BX eo,U0 fT]at ee;cases ee;rw[DK eo,bV,jN fT];let q0:0<jB r f (aF ns) (topR rt' sp) (cP r f j rt' os i) (cP r f j rt' os (i+1)) c:=Tu aw aw fT (Dx cR h1) (nn i aw) (nn (i+1) aw);erw[eH ns c,topR rate sp,Z,Z,bW a5U (_O.Dz aw (fD _) aw h2),q0,?_,(_O.lN cR dh aw h3).mono aA,by unfold eH;rw[bB,bT.len];have:=aK.len;lia];let mQ:=mO bT;let BH:=Hq r1.1 r1.2 fT mQ;let BG:=JG f1.1 f1.2 fT mQ;erw[pU (pU ((jH (WO i aw) (by rw[kv];lia)).mono aA) ((_O.lN cR dh h1 aw).mono aA)) ((jH (WO (i+1) aw) (by rw[kv];lia)).mono aA)]
 ·unfold tY
  rw[mj (by rw[Cm (λi hi=>GF hi) _ (aY _),tl];erw[aY _])];rfl
 ·--tV ahi
  let Bh:(cN j rate os).length=(cB os os.length).length+1:=by unfold cN;rw[cy,m7 (ds:=ds) row _ (aY _),zi];rfl
  let hk:k<(cB os os.length).length+1:=by rw[<-Bh];exact(cm.mp eb).1
  let ahead:∀(x:Rat),(∀k',k=k'+1->∀i' c',At j rate ds os k' i' c'->∀ns sp,os[i']? =some (some (ns,sp))->c'<aF ns->x=jY r f (aF ns) (topR rt' sp) (cP r f j rt' os i') (cP r f j rt' os (i'+1)) (c'+1))->∀q,gb (tY r f j rt' os) k=some q->q<=x+(f:Rat)/\x<=q+(r:Rat):=by intro x hx q hq;cases UG:k with |zero=>rw[UG]at hq;cases hq |succ k'=>
   subst UG;let hq:tY r f j rt' os k'=some q:=hq;let(i',c',a'):=xy (j:=j) (rate:=rate) row (show k'<(cB os os.length).length by lia);let e1:=hx k' Z i' c' a';let ek:=a'.ek;rw[ek,GD a'.hi a'.hc]at hq;rcases a'.kind row with⟨eo,c0,_⟩|⟨ns,sp,eo,fT,_⟩
   ·subst c0
    rw[DJ eo]at hq;cases hq
   ·rw[DK eo,bV,jN fT]at hq
    cases hq;rw[e1 ns sp eo fT];exact(WD aw aw).2
  by_cases hkn:k=(cB os os.length).length
  ·--tV end
   let e0:(cN j rate os)[k]? =some 0:=by rw[hkn,zi];erw[WR row]
   rw[e0]at eb;cases eb;let sn:tY r f j rt' os k=none:=by unfold tY;rw[mj (by rw[Cm (λi hi=>GF hi) _ (aY _)];lia)];rfl
   let p0:cP r f j rt' os os.length=0:=qS (by have:=kp.own os.length (aY _);rw[Ec]at this;erw[this]) (nn _ (aY _));erw[yL (x:=cP r f j rt' os os.length) (by rw[p0];erw[fu]) (by rw[p0];erw[fu]) (ahead _ λk' wW i' c' a' ns sp eo fT=>?_) (λq hq=>by rw[sn]at hq;cases hq)];let ek:=a'.ek;let hdl:(dX os i').length=aF ns:=by rw[lZ eo,bB,iu]
   let wD:i'+1=os.length:=by
    by_cases h:i'+1=os.length
    ·erw[h]
    ·let bK:i'+1<os.length:=by have:=a'.hi;lia
     let m:=Cb os (show i'+1+1<=os.length by lia);let g:=Kl row bK;let d1:=dS i';let d2:=dS (i'+1)
     lia
   let kC:c'+1=aF ns:=by
    let d1:=dS i';rw[wD]at d1
    lia
   rw[kC,(ln eo).2,wD]
  ·let(i,c,a):=xy (j:=j) (rate:=rate) row (show k<(cB os os.length).length by lia)
   let hi:=a.hi;let hc:=a.hc;let ek:=a.ek;let jE:=a.bd;rw[eb]at jE;let AF:cP r f j rt' os i<=ownF j rate os i:=bW (kp.own i aw) (_O.a3S (by have:=aK.j1;lia) (fD _) aw h2 row.nK i);obtain⟨o,eo⟩:∃o,os[i]? =some o:=#[_,bo hi];let hA:∀k',k=k'+1->∀i' c',At j rate ds os k' i' c'->∀ns sp,os[i']? =some (some (ns,sp))->c'<aF ns->qZ r f j rt' os i c=jY r f (aF ns) (topR rt' sp) (cP r f j rt' os i') (cP r f j rt' os (i'+1)) (c'+1):=by
    intro k' wW i' c' a' ns sp eF fT;let ek2:=a'.ek;subst wW;let hdl:(dX os i').length=aF ns:=by rw[lZ eF,bB,iu]
    rcases a.prev row a' with⟨rfl,hc0⟩|⟨rfl,rfl⟩
    ·rw[xV eF,show c=c'+1 by lia]
    ·let d1:=dS i'
     rw[show c'+1=aF ns by lia,(ln eF).2];cases o with |none=>erw[Gj eo] |some q=>let(ns2,dh):=q;rw[xV eo,(ln eo).1]
   let Ac:=GD (r:=r) (f:=f) (j:=j) (rt':=rt') hi hc;rw[<-ek]at Ac;cases o with |none=>
    let c0:c=0:=by rw[o9 eo]at hc;simpa using hc
    subst c0;rw[xx hi]at jE;cases jE;rw[DJ eo]at Ac;erw[yL (x:=qZ r f j rt' os i 0) (by rw[Gj eo];erw[nn i aw]) (by rw[Gj eo];erw[AF]) (ahead _ hA) (λq hq=>by rw[Ac]at hq;cases hq)] |some p=>
    let(ns,sp):=p;let(bT,cR,dh):=row.ok i ns sp eo;let fT:c<aF ns:=by rw[lZ eo,bB,iu]at hc;erw[hc]
    let x0:0<=qZ r f j rt' os i c:=by rw[xV eo];erw[acD aw aw aw (_O.ou _ _) (nn i aw) (nn (i+1) aw)]
    let xb:qZ r f j rt' os i c<=b:=by
     by_cases h0:c=0
     ·subst h0
      rw[xx hi]at jE;cases jE;rw[xV eo,(ln eo).1];erw[AF]
     ·rw[KD eo aw fT]at jE
      cases jE;rw[xV eo];erw[bW acE (_O.Dz aw (fD _) aw h2)]
    rw[DK eo,bV,jN fT]at Ac;erw[yL (x:=qZ r f j rt' os i c) x0 xb (ahead _ hA) (λq hq=>?_)];rw[Ac]at hq;cases hq;rw[xV eo];exact(WD aw aw).1
end
section
theorem WQ{n0:Nat}{j rate:Int}{ds:List aj}{os:List Itm}(row:cg n0 ds os):∀b∈cN j rate os,0<=b:=by
 let key:∀i,i<=os.length->∀b∈ja j rate os i,0<=b:=by intro i;induction i with |zero=>intro _ b hb;exact(gk hb).elim |succ i ih=>
  intro hi b hb;rcases jL.mp hb with h1|h1
  ·erw[ih aw b h1]
  ·obtain⟨o,eo⟩:∃o,os[i]? =some o:=#[_,bo (show i<os.length by lia)]
   cases o with |none=>rw[Cr eo,gm]at h1;rw[h1];erw[_O.rW _ _ _ _] |some q=>
    let(ns,sp):=q;rw[xu eo]at h1;rcases dg.mp h1 with h1|h1
    ·rw[h1];erw[_O.rW _ _ _ _]
    ·rw[(List.mem_replicate.mp h1).2];erw[_O.ou _ _]
 intro b hb;rcases jL.mp hb with h1|h1
 ·erw[key _ (aY _) b h1]
 ·rw[gm.mp h1];erw[_O.rW _ _ _ _]
theorem VV{n:Nat}{rate:Int}{ds:List aj}{os:List Itm}(row:cg n ds os):∀i,i<=os.length->(Ca ds os i).length=(cT rate ds os i).length |0,_=>rfl |i+1,h=>by let ll:=row.len;show(Ca ds os i++lY ds os i).length=(cT rate ds os i++gR rate ds os i).length;rw[cy,cy,VV row i aw];obtain⟨o,eo⟩:∃o,os[i]? =some o:=#[_,bo (show i<os.length by lia)];cases o with
 |none=>
  obtain⟨d',ed⟩:∃d',ds[i]? =some d':=#[_,bo (show i<ds.length by lia)];rw[qH eo ed];have:(lY ds os i).length=1:=by unfold lY;rw[eo];rfl
  rw[this];rfl |some q=>
  let(ns,sp):=q;rw[o8 eo,bB,iu];have:(lY ds os i).length=aF ns:=by unfold lY;rw[eo,u9]
  rw[this]
theorem Inv2.up{n:Nat}{rate:Int}{pl:List Int}{ds:List aj}{os:List Itm}{m i k:Nat}(row:cg n ds os)(h:Inv2 pl ds os m i k T):(tf ds os i k).length=(cT rate ds os i).length+k:=by
 let im:=h.im;let ml:=h.ml;unfold tf;rw[cy,VV (rate:=rate) row i aw,jM];rcases h.kl with z|⟨ns,sp,z0,z1,z2⟩
 ·lia
 ·have:(lY ds os i).length=aF ns:=by unfold lY;rw[z1,u9]
  lia
theorem Inv2.len{pl:List Int}{ds:List aj}{os:List Itm}{m i k:Nat}(h:Inv2 pl ds os m i k T):T.os.length=m-i:=by
 rw[h.gH,qT,jM];have:=h.ml
 lia
def iA(sq:Nat->Option Rat)(n:Nat)(o:Option Rat):Nat->Option Rat:=λc=>if c=n then o else sq c
theorem vB(h:c≠n):iA sq n o c=sq c:=aV h
theorem xY:iA sq n o n=o:=aQ rfl
theorem prev_lt(h:c<=n):gb (iA sq n o) c=gb sq c:=by cases c with |zero=>rfl |succ c=>erw[vB aw]
theorem RJ{D:Nat}(h:cE M D S)(aK:M.Ok)(hn:S.os≠[]):0<=fc M S:=(DX h.raw aK hn).1.nn
theorem a47{D:Nat}{rate:Int}{pl:List Int}{ds:List aj}{os:List Itm}(aK:M.Ok)(row:cg M.rs.length ds os)(dA:RowW ds os){m i k:Nat}{T T1:bQ}{e:aj}{es:List aj}{sq:Nat->Option Rat}(ok:cE M D T)(h:jb M rate pl ds os m i k T es sq)(o:One M T e T1): ∃i' k' ow,jb M rate pl ds os m i' k' T1 (es++[e]) ow:=by
 let kr:=aK.r1;let j8:=aK.f1;let ll:=row.len;let i2:=h.i2;let im:=i2.im;let ml:=i2.ml;let(i',k',h1,e1):=a48 aK row dA ok i2 o;let L:=congrArg List.length e1;rw[cy,i2.up (rate:=rate) row,h1.up (rate:=rate) row,List.length_singleton,<-h.len]at L;let sx:(es++[e]).length=es.length+1:=by simp
 let V7:∀c x,(es++[e])[c]? =some x->(es[c]? =some x/\c<es.length)\/(c=es.length/\x=e):=λc x hx=>by
  rcases tZ hx with h|⟨h1,h2⟩
  ·erw[.inl #[h,(cm.mp h).1]]
  ·erw[.inr #[h1,h2]]
 let L1:=i2.len;let Xy:=h1.len;cases o with
 |@line ns sp eo nh=>
  let D1:=ok.D1;let D2:=ok.D2;let dM:T.os≠[]:=λz=>by rw[z]at eo;simp at eo
  let hlen:1<=T.os.length:=by have:=(cm.mp eo).1;lia
  let ii:i<m:=by lia
  let eoi:os[i]? =some (some (ns,sp)):=by rw[i2.gH,qU,zS,aQ aw]at eo;erw[eo]
  let(bT,cR,dh):=row.ok i ns sp eoi;let ek:T.dn=k:=i2.qE;let hd:T.dn<aF ns:=by
   rcases ok.dn with z|⟨gD,iB,z1,z2⟩
   ·have:=bT.lead;lia
   ·rw[eo]at z1;cases z1;erw[z2]
  let(pt1,Ax):=h.pt ns sp eo;let p0:=ok.pd.nn;let kE:=h.rt;let(A,Bb,Cc,XI):=a5e (D:=D) (r:=M.r) (f:=M.f) (pc:=T.pc) (top:=topR T.rate sp) (R:=fc M T) (left:=(aF ns:Int)-T.dn) (stp:=T.stp) aw aw aw p0 (by rw[kE];erw[pt1]) Ax ok.stp nh h.hs;let em:wj M T ns sp=kz M.r M.f T.pc (topR T.rate sp) (fc M T) ((aF ns:Int)-T.dn) T.stp:=rfl;let(R1,R2):=DX ok.raw aK dM;let mdd:=Tx (D:=D) (r:=M.r) (f:=M.f) (pc:=T.pc) (top:=topR T.rate sp) (R:=fc M T) (left:=(aF ns:Int)-T.dn) (stp:=T.stp) aw aw aw ok.pd ((Gq _ _).mono aw) (R1.mono aw) ok.stp nh;let Tn:wj M T ns sp<=topR T.rate sp:=Tv;let Z9:=Dy cR dh ok.bO ok.rt2;let mbd:Bd 1900 (wj M T ns sp):=(mdd.bd (bW Tn (bW Z9 aP))).mono aw;let a5Q:0<wj M T ns sp:=Tw kr.1 j8.1 aw p0 (Dx cR ok.bO) R1.nn ok.stp nh;rw[<-em]at A Bb Cc XI;generalize abn:wj M T ns sp=mid at*;generalize K7:nM M.r M.f T.pc (topR T.rate sp) (fc M T) ((aF ns:Int)-T.dn) T.stp=en at*;let VH:en<=topR T.rate sp:=by rw[<-K7];erw[VB]
  let K3:en<=fc M T+((2*M.f*((aF ns:Int)-T.dn-1):Int):Rat):=by rw[<-K7];erw[VC]
  let hN:(gf M T ns sp).pc=en/\(gf M T ns sp).rate=T.rate/\(gf M T ns sp).stp=vV T.stp/\(gf M T ns sp).os=T.os/\(gf M T ns sp).dn=T.dn+1:=#[K7,Z,Z,Z,Z];let Jq:(gr ns (gf M T ns sp)).pc=en/\(gr ns (gf M T ns sp)).rate=T.rate/\(gr ns (gf M T ns sp)).stp=vV T.stp/\((T.dn+1=aF ns/\(gr ns (gf M T ns sp)).os=T.os.tail/\(gr ns (gf M T ns sp)).dn=0)\/(T.dn+1≠aF ns/\(gr ns (gf M T ns sp)).os=T.os/\(gr ns (gf M T ns sp)).dn=T.dn+1)):=by
   let(n1,n2,n3,n4,n5):=hN;unfold gr;by_cases c:T.dn+1=aF ns
   ·rw[aQ (by rw[n5];erw[c])]
    unfold jm;rw[n4];cases kB:T.os with |nil=>exact(dM kB).elim |cons x tl=>erw[n1,n2,n3,.inl #[c,Z,Z]]
   ·rw[aV (by rw[n5];erw[c])]
    erw[n1,n2,n3,.inr #[c,n4,n5]]
  let(t1,t2,t3,t4):=Jq;let idx:(cT rate ds os i).length+k=es.length:=h.len.symm;let lI:(gR rate ds os i).length=aF ns:=by rw[o8 eoi,bB,iu]
  let lB:(jo M.j rate os i).length=aF ns:=by rw[xu eoi,kh,zQ];lia
  let Ki:(cT rate ds os os.length)[es.length]? =some (jG (eH ns k) (topR rate sp)):=by rw[<-idx,Fc row aw os.length aw (aY _),o8 eoi,bV,jN aw];rfl
  let Sg:fc M T<=betR M.j T.rate (atO T.os 0) (atO T.os 1):=BP hlen;erw[i',k',iA sq es.length (some mid),h1,t2.trans kE,by rw[sx];lia,λc x du hx wG=>?_,λc hc=>?_,λc b hc hb=>?_,λb hb=>?_,λq hq=>?_,λgD iB e'=>?_,λa' st gn e'=>?_]
  ·rcases V7 c x hx with⟨g1,g2⟩|⟨g1,g2⟩
   ·rw[vB aw];erw[h.ent c x du g1 wG]
   ·subst g1 g2
    rw[Ki]at wG;cases wG;rw[xY];erw[eH ns k,topR rate sp,Z,?_,by rw[<-kE];erw[Tn],a5Q,mbd,(_O.lN cR dh (by rw[<-kE];erw[ok.bO]) (by rw[<-kE];erw[ok.rt2])).mono aA,by unfold eH;rw[bB,bT.len];have:=aK.len;lia];unfold pZ;rw[ek,abn]
  ·rw[sx]at hc
   rw[vB aw];erw[h.out c aw]
  ·rw[sx]at hc
   by_cases g:c=es.length
   ·subst g
    rw[prev_lt (aY _),xY];erw[yL p0 (h.pb b hb) h.pv λq e=>by cases e;erw[A,Bb]]
   ·rw[prev_lt aw,vB g]
    erw[h.meet c b aw hb]
  ·rw[sx]at hb
   rw[t1];rcases t4 with⟨c1,c2,c3⟩|⟨c1,c2,c3⟩
   ·let ei:i'=i+1:=by rw[c2,List.length_tail]at Xy;have:=h1.im;lia
    let wW:k'=0:=by rw[<-h1.qE];erw[c3]
    let sY:en<=betR M.j T.rate (atO T.os 0) (atO T.os 1):=by
     erw[bW K3 ?_];let e0:2*M.f*((aF ns:Int)-T.dn-1)=0:=by rw[show(aF ns:Int)-T.dn-1=0 by lia,Gd]
     rw[e0];let z0:fc M T+((0:Int):Rat)=fc M T:=vg _;rw[z0];erw[Sg]
    let a0:atO T.os 0=atO os i:=by unfold atO;rw[eo,eoi]
    let Sf:betR M.j T.rate (atO T.os 0) (atO T.os 1)<=ownF M.j rate os (i+1):=by
     by_cases him:i+1<m
     ·let a1:atO T.os 1=atO os (i+1):=by unfold atO;rw[i2.gH,qU,zS,aQ him]
      rw[a0,a1,kE];erw[fu]
     ·let a1:atO T.os 1=none:=_O.KN aw
      rw[a1,_O.tx];erw[_O.rW _ _ _ _]
    by_cases yT:i+1<os.length
    ·have:=WT (j:=M.j) (rate:=rate) row (i:=i+1) (c:=0) yT (by obtain⟨o',eF⟩:∃o,os[i+1]? =some o:=#[_,bo yT];have:=xx (j:=M.j) (rate:=rate) yT;exact(cm.mp this).1);rw[xx yT]at this;rw[<-L,ei,wW,this]at hb;cases hb;erw[bW sY Sf]
    ·let VM:i+1=os.length:=by lia
     rw[<-L,ei,wW,VM,Nat.add_zero,WR row]at hb;cases hb;erw[bW sY (bW Sf ?_)];rw[VM,Ec];erw[fu]
   ·let ei:i'=i:=by rw[c2]at Xy;have:=h1.im;lia
    let wW:k'=k+1:=by rw[<-h1.qE,c3,ek]
    have:=WT (j:=M.j) (rate:=rate) row (i:=i) (c:=k+1) aw aw;rw[KD eoi aw aw]at this;rw[<-L,ei,wW,this]at hb;cases hb;rw[<-kE];erw[VH]
  ·rw[sx]at hq
   let hq:iA sq es.length (some mid) es.length=some q:=hq;rw[xY]at hq;cases hq;rw[t1];erw[Cc,XI]
  ·rw[t1]
   let rN:fc M (gr ns (gf M T ns sp))=uf M.f M.j T.rate (gr ns (gf M T ns sp)).os:=by unfold fc;rw[t2]
   rcases t4 with⟨c1,c2,c3⟩|⟨c1,c2,c3⟩
   ·let sY:en<=fc M T:=by
     erw[bW K3 ?_];let e0:2*M.f*((aF ns:Int)-T.dn-1)=0:=by rw[show(aF ns:Int)-T.dn-1=0 by lia,Gd]
     rw[e0];let z0:fc M T+((0:Int):Rat)=fc M T:=vg _;rw[z0];erw[fu]
    rw[c2,List.getElem?_tail]at e';let V0:1<T.os.length:=(cm.mp e').1;let a0:atO T.os 0=some (ns,sp):=_O.m8 eo;let a1:atO T.os 1=some (gD,iB):=_O.m8 e';erw[?_,?_]
    ·erw[bW sY (bW Sg ?_)]
     rw[a0,a1,<-kE];show _O.mnO (mn (topR T.rate sp) (topR T.rate iB)) (_O.cornO M.j ns gD)<=_;cases _O.cornO M.j ns gD with |none=>erw[fw _ _] |some cc=>erw[bW (dR _ _) (fw _ _)]
    ·erw[bW sY ?_]
     let lf:leadF T.os 1=some (aF gD):=by unfold leadF;rw[a1];rfl
     let e2:fc M T=mn (ownF M.j T.rate T.os 1) (fl T.os.length (leadF T.os) (2*M.f) (ownF M.j T.rate T.os) 2+((2*M.f*(aF gD:Int):Int):Rat)):=lX V0 lf;rw[e2,rN,c2,c3];let e3:uf M.f M.j T.rate T.os.tail=fl T.os.length (leadF T.os) (2*M.f) (ownF M.j T.rate T.os) 2:=by unfold uf;rw[<-List.drop_one];erw[a2E V0]
     rw[e3];erw[bW (fw _ _) ?_];have:((aF gD:Int)-((0:Nat):Int))=(aF gD:Int):=by lia
     rw[this];erw[fu]
   ·rw[c2]at e'
    rw[eo]at e';cases e';erw[by rw[<-kE];erw[VH],?_];rw[rN,c2,c3];have:(aF ns:Int)-((T.dn+1:Nat):Int)=(aF ns:Int)-T.dn-1:=by lia
    rw[this];erw[K3]
  ·rw[t3]at e'
   cases gG:T.stp with |none=>rw[gG]at e';cases e' |some z=>let(z1,z2,z3):=z;rw[gG]at e';cases e';erw[h.hs _ _ _ gG]
 |dQ eo ed nh=>
  let dM:T.os≠[]:=λz=>by rw[z]at eo;simp at eo
  let hlen:1<=T.os.length:=by have:=(cm.mp eo).1;lia
  let ii:i<m:=by lia
  let eoi:os[i]? =some none:=by rw[i2.gH,qU,zS,aQ aw]at eo;erw[eo]
  let Kb:ds[i]? =some e:=by rw[i2.jD,qU,zS,aQ aw]at ed;erw[ed]
  let S7:=i2.j2 eo;let k0:k=0:=by
   rcases i2.kl with z|⟨gD,iB,_,z1,z2⟩
   ·erw[z]
   ·rw[eoi]at z1;cases z1
  subst k0;let(_,s1,s2,s3,s4):=DN ok.raw e;let sp:(dw e T).pc=T.pc/\(dw e T).rate=T.rate/\(dw e T).stp=T.stp:=by
   unfold dw;split
   ·split
    ·erw[Z,Z,Z]
    ·split<;>erw[Z,Z,Z]
   ·erw[Z,Z,Z]
  let Jq:(jm (dw e T)).pc=T.pc/\(jm (dw e T)).rate=T.rate/\(jm (dw e T)).stp=T.stp:=by unfold jm;rw[s1];cases kB:T.os with |nil=>exact(dM kB).elim |cons x tl=>erw[sp]
  let(t1,t2,t3):=Jq;let eB:=(One.dQ (M:=M) eo ed nh).ok ok aK;let idx:(cT rate ds os i).length+0=es.length:=h.len.symm;let Ki:(cT rate ds os os.length)[es.length]? =some e:=by rw[<-idx,Fc row (by rw[qH eoi Kb];simp) os.length aw (aY _),qH eoi Kb];rfl
  erw[i',k',iA sq es.length none,h1,t2.trans h.rt,by rw[sx];lia,λc x du hx wG=>?_,λc hc=>?_,λc b hc hb=>?_,λb hb=>?_,λq hq=>?_,λgD iB e'=>?_,λa' st gn e'=>h.hs a' st gn (by rw[<-t3];erw[e'])]
  ·rcases V7 c x hx with⟨g1,g2⟩|⟨g1,g2⟩
   ·rw[vB aw];erw[h.ent c x du g1 wG]
   ·subst g1 g2
    rw[Ki]at wG;cases wG;rw[xY];erw[Z,dA i _ eoi Kb]
  ·rw[sx]at hc
   rw[vB aw];erw[h.out c aw]
  ·rw[sx]at hc
   by_cases g:c=es.length
   ·subst g
    rw[prev_lt (aY _),xY];erw[yL ok.pd.nn (h.pb b hb) h.pv λq e=>by cases e]
   ·rw[prev_lt aw,vB g]
    erw[h.meet c b aw hb]
  ·rw[t1,S7]
   erw[WQ row b (gZ hb)]
  ·rw[sx]at hq
   let hq:iA sq es.length none es.length=some q:=hq;rw[xY]at hq;cases hq
  ·rw[t1,S7]
   erw[_O.ou _ _,?_];let a7R:(jm (dw e T)).os≠[]:=λz=>by rw[z]at e';simp at e'
   let r1:=RJ eB aK a7R;let hd:(0:Int)<=(aF gD:Int)-((jm (dw e T)).dn:Int):=by
    rcases eB.dn with z|⟨n2,p2,z1,z2⟩
    ·lia
    ·rw[e']at z1;cases z1;lia
   have:(0:Rat)<=((2*M.f*((aF gD:Int)-((jm (dw e T)).dn:Int)):Int):Rat):=tN.mpr (show(0:Int)<=_ from iy aw hd);grind
theorem R5{D:Nat}{rate:Int}{pl:List Int}{ds:List aj}{os:List Itm}(aK:M.Ok)(row:cg M.rs.length ds os)(dA:RowW ds os){m:Nat}{T T1:bQ}{fs:List aj}(r:Run M T fs T1):∀{i k:Nat}{es:List aj}{sq:Nat->Option Rat},cE M D T->jb M rate pl ds os m i k T es sq->∃i' k' ow,jb M rate pl ds os m i' k' T1 (es++fs) ow:=by induction r with |nil=>intro i k es sq _ h;erw[i,k,sq,by rw[lJ];erw[h]] |cons o _ ih=>intro i k es sq ok h;let(i1,k1,sq1,h1):=a47 aK row dA ok h o;let(i2,k2,xZ,h2):=ih (o.ok ok aK) h1;erw[i2,k2,xZ,by rw[D6]at h2;erw[h2]]
theorem jb.wO{D:Nat}{rate:Int}{pl:List Int}{ds:List aj}{os:List Itm}{m i k:Nat}{es:List aj}(aK:M.Ok)(ok:cE M D T)(h:jb M rate pl ds os m i k T es sq)(ll:ds.length=os.length)(ed:ds[m]? =some d)(eo:os[m]? =some o)(bT:cE M D (nY T d o)):jb M rate pl ds os (m+1) i k (nY T d o) es sq:=by let j8:=aK.f1;erw[h.i2.wO ll ed eo,h.rt,h.len,h.ent,h.out,h.meet,h.pb,h.pv,λns sp e=>?_,h.hs];show T.pc<=_/\T.pc<=_;cases hT:T.os with
 |nil=>
  let p0:=h.i2.j1 hT;rw[p0];erw[_O.ou _ _,?_];let dM:(nY T d o).os≠[]:=by show T.os++[o]≠[];simp
  let r1:=RJ bT aK dM;let hd:(0:Int)<=(aF ns:Int)-((nY T d o).dn:Int):=by
   rcases bT.dn with z|⟨n2,p2,z1,z2⟩
   ·lia
   ·rw[e]at z1;cases z1;lia
  have:(0:Rat)<=((2*M.f*((aF ns:Int)-((nY T d o).dn:Int)):Int):Rat):=tN.mpr (show(0:Int)<=_ from iy aw hd);grind |cons x tl=>
  let e0:T.os[0]? =some (some (ns,sp)):=by let e':(T.os++[o])[0]? =some (some (ns,sp)):=e;rw[hT]at e'⊢;erw[e']
  let(a1,a2):=h.pt ns sp e0;erw[a1,bW a2 ?_];have:fc M T<=fc M (nY T d o):=a2F M aK T.rate T.os [o] (by rw[hT];simp);let e2:(nY T d o).dn=T.dn:=rfl;rw[e2];erw[Lx.mpr this]
theorem jb.go{rate:Int}{pl:List Int}{ds:List aj}{os:List Itm}{m i k:Nat}{es:List aj}(h:jb M rate pl ds os m i k T es sq)(s:_R.gI)(hs:∀a st gn,s=some (a,st,gn)->a<=((2*M.f*st:Int):Rat)):jb M rate pl ds os m i k {T with stp:=s} es sq:=#[#[h.i2.jD,h.i2.gH,h.i2.qE,h.i2.kl,h.i2.BV,h.i2.im,h.i2.ml,h.i2.j1,h.i2.j2],h.rt,h.len,h.ent,h.out,h.meet,h.pb,h.pv,h.pt,hs]
theorem jb.hold{D:Nat}{rate:Int}{pl:List Int}{ds:List aj}{os:List Itm}{m i k:Nat}{es:List aj}(aK:M.Ok)(ok:cE M D T)(h:jb M rate pl ds os m i k T es sq):jb M rate pl ds os m i k (oN M T) es sq:=by unfold oN;cases hs:T.stp with |some z=>erw[h] |none=>erw[h.go _ λa st gn e=>?_];cases e;exact(MO aK.f1.1 ok.pd.nn).2.2.1
theorem jb.end{rate:Int}{pl:List Int}{ds:List aj}{os:List Itm}{i k:Nat}{es:List aj}(row:cg M.rs.length ds os)(h:jb M rate pl ds os os.length i k T es sq)(he:T.os=[]):kZ M.r M.f M.j M.t rate ds os es sq:=by
 let L:=h.i2.len;rw[he]at L;let im:=h.i2.im;let ei:i=os.length:=by simp at L;lia
 subst ei;let k0:k=0:=by
  rcases h.i2.kl with z|⟨_,_,z,_⟩
  ·erw[z]
  ·lia
 subst k0;let len:=h.len;rw[Nat.add_zero]at len;erw[len,h.ent,h.out _ (aY _),λc b hb=>?_];by_cases hc:c<es.length
 ·erw[h.meet c b hc hb]
 ·let hl:(cN M.j rate os).length=es.length+1:=by unfold cN;rw[cy,m7 (ds:=ds) row _ (aY _),len];rfl
  let fT:=(cm.mp hb).1;let ec:c=es.length:=by lia
  subst ec;rw[h.out _ (aY _)];let p0:=h.i2.j1 he;erw[yL (x:=T.pc) (by rw[p0];erw[fu]) (h.pb b hb) h.pv λq e=>by cases e]
end
end _c
set_option maxHeartbeats 4000000
namespace _c
open PySem PySem.Spec PyProof.Rows _L _d _l _C _P _W _R
open _O (topR cornO mnO betR atO ownF leadF ownL OkI OkIs)
section
theorem MP(ti:Int)(zs:List Int)(q:Rat):e9 7 (jQ ti zs q):=by
 let h1:e9 1 (.tuple (zs.map PyData.int)):=gW.tup (n:=0) λd hd=>by let(i,_,rfl):=gC.mp hd;erw[.int i]
 let hs:gW 1 [.str "step",.tuple (zs.map PyData.int),.int (nv ti q),cA q]:=λd hd=>by
  simp only[dg,gk,jJ]at hd;rcases hd with rfl|rfl|rfl|rfl
  ·erw[aP,aP]
  ·erw[h1]
  ·erw[.int _]
  ·erw[Hx _]
 erw[hs.tup.le aA]
theorem Sh(h:kH d):e9 7 d:=by
 rcases h with⟨n,rfl,_,_⟩|⟨wd,z,rfl,hw,ok,_⟩
 ·let hs:gW 0 [.str "wait",.int n]:=λd hd=>by
   simp only[dg,gk,jJ]at hd;rcases hd with rfl|rfl
   ·erw[aP,aP]
   ·erw[.int _]
  erw[hs.tup.le aA]
 ·let hs:gW 0 [.str wd,.str z]:=λd hd=>by
   simp only[dg,gk,jJ]at hd;rcases hd with rfl|rfl
   ·rcases hw with rfl|rfl<;>erw[aP,aP]
   ·erw[ok]
  erw[hs.tup.le aA]
theorem kZ.rY{r f j ti rate:Int}{ds:List aj}{os:List Itm}{es:List aj}(tp:kZ r f j ti rate ds os es sq):e9 8 (.list es):=gW.lst (n:=7) λd hd=>by let(k,hk):=vm.mp hd;let hl:=(cm.mp hk).1;obtain⟨du,ed⟩:∃u,(cT rate ds os os.length)[k]? =some u:=#[_,bo (by have:=tp.len;lia)];let en:=tp.ent k d du hk ed;cases hs:sq k with |none=>rw[hs]at en;erw[Sh en.2] |some q=>rw[hs]at en;let(zs,top,_,rfl,_):=en;erw[MP _ _ _]
theorem a1u(n:Nat):seqIndex? 0 (n+1)=some 0:=by unfold seqIndex?;simp
theorem Run.stp(r:Run M S es S1)(h:S.stp=none):S1.stp=none:=by induction r with |nil=>erw[h] |cons o _ ih=>apply ih;cases o with
 |line _ _=>
  unfold gr jm;split
  ·split<;>(show vV _=none;rw[h];rfl)
  ·show vV _=none;rw[h];rfl |dQ _ _ _=>
  let hs:∀(d:aj)(T:bQ),(dw d T).stp=T.stp:=λd T=>by
   unfold dw;split
   ·split
    ·rfl
    ·split<;>rfl
   ·rfl
  unfold jm;split
  ·exact(hs _ _).trans h
  ·exact(hs _ _).trans h
structure CI(M:ck)(pl:List Int)(ds:List aj)(os:List Itm):Prop where
 aK:M.Ok
 row:cg M.rs.length ds os
 rw:RowW ds os
 rr:tF M.rs pl os
 len:ds.length<=20
theorem cE.up{D:Nat}(h:cE M D S)(hD:D<=1490):cE M (D+10) S:=by let D1:=h.D1;erw[h.row,h.rw,h.len,h.bO,h.rt2,h.dn,h.pl,h.pd.mono aw,h.pm,?_,aw,aw];let st:=h.stp;cases hs:S.stp with |none=>trivial |some z=>rw[hs]at st;let(sq,hW,gn):=z;let(a1,a2,a3,a4,a5):=st;erw[a1,a2,a3,a4.mono aw,a5]
theorem cE.go{D:Nat}(h:cE M D S):cE M D {S with stp:=none}:=#[h.row,h.rw,h.len,h.bO,h.rt2,h.dn,h.pl,h.pd,h.pm,trivial,h.D1,h.D2]
theorem cE.rate{D:Nat}(h:cE M D S){rate:Int}(h1:10<=rate)(h2:rate<=200):cE M D {S with rate:=rate}:=#[h.row,h.rw,h.len,h1,h2,h.dn,h.pl,h.pd,h.pm,h.stp,h.D1,h.D2]
theorem aH.but(s:aH H0 H)(b:dJ S H H')(hn:∀x∈S,H0 x=none):aH H0 H':=λb' o e=>b _ _ (s _ _ e) (λhm=>by rw[hn _ hm]at e;cases e)
theorem aH.none(s:aH H0 H)(h:H x=none):H0 x=none:=by cases e:H0 x with |none=>rfl |some o=>have:=s _ _ e;rw[h]at this;cases this
theorem abb:PyData.eqv (.list l) (.list [])=l.isEmpty:=by cases l<;>simp[PyData.eqv,PyData.eqvAll]
theorem a26{D:Nat}(r:Run M S es S1):cE M D S->M.Ok->∀e∈es,e9 7 e:=by induction r with |nil=>intro _ _ e he;cases he |cons o _ ih=>
 intro h aK e he;rcases dg.mp he with rfl|he
 ·cases o with |line _ _=>erw[MP _ _ _] |dQ eo ed _=>erw[Sh (h.rw 0 _ eo ed)]
 ·erw[ih (o.ok h aK) aK e he]
structure G5(C:Addr)(M:ck)(rate:Int)(pl:List Int)(ds:List aj)(os:List Itm)(p x Wl Fl:Addr)(H0:Hp)(D:Nat)(H:Hp)(q:Addr)(S:bQ)(m:Nat)(es:List aj):Prop where
 w:W4 C M ds p x Wl Fl H0 H q S m es
 ok:cE M D S
 inv:∃i k sq,jb M rate pl ds os m i k S es sq
 no:bS es=true
section
variable {M:ck}{rate:Int}{pl:List Int}{ds:List aj}{os:List Itm}{p x Wl Fl:Addr}{H0 H H':Hp}{D:Nat}{q q':Addr}{S S':bQ}{m i k:Nat}{es fs:List aj}
theorem Vj(cx:CI M pl ds os)(inv:Inv2 pl ds os m i k S){d:aj}(ed:ds[m]? =some d):∃o,os[m]? =some o/\zx M.rs.length d o/\lj M.rs (j9 (wL S) o)/\S.ds.length<20:=by
 let ll:=cx.row.len;let Bi:=cx.len;let(o,eo,it):=cx.row.get ed;let hm:m<ds.length:=(cm.mp ed).1;erw[o,eo,#[it,λns sp e=>cx.row.ok m ns sp (by rw[eo,e]),λe=>cx.rw m d (by rw[eo,e]) ed],?_,?_]
 ·rw[inv.goal]
  have:=cx.rr (m+1) aw;rw[lG,eo,zT]at this;erw[this]
 ·rw[inv.jD,qT,jM];lia
theorem G5.draw(cx:CI M pl ds os)(h:G5 C M rate pl ds os p x Wl Fl H0 D H q S m es)(b:bJ p H H'):G5 C M rate pl ds os p x Wl Fl H0 D H' q S m es:=#[h.w.draw b h.ok.row.no cx.row.no h.no,h.ok,h.inv,h.no]
theorem IY(cx:CI M pl ds os)(h:jb M rate pl ds os m i k S es sq):es.length<=2100:=by
 let ll:=cx.row.len;let Bi:=cx.len;let im:=h.i2.im;let ml:=h.i2.ml;let d1:=(uN (rate:=rate) cx.row i aw).1;have:=h.len;rcases h.i2.kl with z|⟨ns,sp,z,z1,z2⟩
 ·lia
 ·have:=mO (cx.row.ok i ns sp z1).1
  lia
theorem G5.run(cx:CI M pl ds os)(h:G5 C M rate pl ds os p x Wl Fl H0 D H q S m es)(r:Run M S fs S')(mv:Mv x q H q' H')(R:da C H' x q' M S'){ys:List V}(ry:aI K H' ys fs):bS fs=true/\cE M D S'/\W4 C M ds p x Wl Fl H0 H' q' S' m es/\(∀us,H' Fl=some (.lst us)->G5 C M rate pl ds os p x Wl Fl H0 D (_L.upd H' Fl (.lst (us++ys))) q' S' m (es++fs)):=by let mI:=r.ok h.ok cx.aK;let nf:=r.no h.ok cx.aK;let w':=h.w.mv mv R cx.row.no h.no;erw[nf,mI,w',λus eu=>?_];let(i,k,sq,inv):=h.inv;let(i',k',ow,a76):=R5 cx.aK cx.row cx.rw r h.ok inv;erw[w'.ext mI.row.no cx.row.no h.no nf eu ry,mI,#[i',k',ow,a76],?_];erw[cj.mpr λd hd=>(jL.mp hd).elim (cj.mp h.no d) (cj.mp nf d)]
end
inductive DM|mk p mv fK iv rate rs r f j ti pl ds os(_:vs=[.ref p,mv,fK,iv,.int rate])(_:gX H p)(_:RD K H mv (fy rs r f j ti))(_:gA rs r f j ti)(_:RD K H fK (iZ pl))(_:lj rs pl)(_:RD K H iv (.tuple ds))(_:cg rs.length ds os)(_:RowW ds os)(_:tF rs pl os)(qq:ds.length<=20)(sS:10<=rate)(wK:rate<=200)(Ju:∀v es sq H',RD K H' v (.list es)->kZ r f j ti rate ds os es sq->bJ p H H'->Q v H')
theorem OF:bu ["_law_bag_here","_law_machine_here","_law_place_here","_law_items_here","_law_rate","_law_runner","_law_waits","_law_found","_law_turn","_law_kind","_law_item","_law_more"] ["_law_bag_here","_law_machine_here","_law_place_here","_law_items_here","_law_rate"] (aX Qy):=bD aP
theorem a4T(AA:a1v)(RR:gT K mg C)(Jr:a1q C "entries" 12 (N8 C)):a1k "_law_held_tape" 13 DM:=by
 exists AA.aaQ.has,OF,Cu λ_ _ _ _ _=>rfl
 ·let(p,mv,fK,iv,rate,rs,r,f,j,ti,pl,ds,os,rfl,bg,rm,aK,pK,on,ri,row,dA,uc,hl,bO,rt2,kk):=h
  let nd:=OF.nd;erw[_,%[pS 5 nd (a3x (a4t AA RR) (hr.mono aA) Z %[1,2|az]),eJ (rQ (a4o AA RR) RR.tc.cl (hr.mono aA) P3 %[4|az]),pS 6 nd (iE (x:="list") (ED K Z) Z (AA.B.at "list") jK %[3|az]),pS 7 nd (cX az),(g9 eO Z (pN Z (AA.B.at "range") %[aB|az]) (aZ 8 nd) %[pS 9 nd (pf (fk AA) hr %[0,aB|az]),(bw (PW.pt (mG (bL ky a1j aB (bf _)) (pL (bL mH (cY K AA.B %[6|az]) aB (bf _))))) (aG (eJ (rQ (Sw AA RR) RR.tc.cl (hr.mono aA) P3 %[a3H K Z W1 %[aB|az]|az]))) (aG (bw (bL (cJ K Z hr.units) a1j aB (bf _)) (aG (eJ (lR (a4u RR) RR.tc.cl (hr.mono aA) P3))) (aG (bw (bL (cJ K Z hr.units) a1j aB (bf _)) (aG (eJ (lR (Sv AA RR) RR.tc.cl (hr.mono aA) P3))) (aG (eJ (yj K Z a1b %[(rQ Jr RR.tc.cl (hr.mono aA) P3 %[aO cM aB (pf (fk AA) hr %[0,aB|az])|az])|az]))))))))|aG]),g9 eO Z (rO K Z W1) (aZ 10 nd) (aG (eJ (rQ (Sw AA RR) RR.tc.cl (hr.mono aA) P3 %[10|az]))),eJ (lR (Sv AA RR) RR.tc.cl (hr.mono aA) P3),pS 11 nd (rQ Jr RR.tc.cl (hr.mono aA) P3 %[aB|az]),(je (pM eO (bL (iH K Z hr.units) (pv 11) (cX az) (bf _)) %[eJ (yj K Z a1b %[11|az]),pS 11 nd (rQ Jr RR.tc.cl (hr.mono aA) P3 %[aB|az])|aG])),aR a1b|aG],?_];let ll:=row.len;let lr3:=aK.len;let(ia,xs,rfl,wC,dI):=ri.cF;let lx:=dI.length;erw[_,Z,_,Z,λx dx nx Ig Ie=>#[x,dx,mv,fK,#[rs,r,f,j,ti],pl,Z,bP,?_,?_,λq CG La nq p8=>#[Z,?_]]]
  ·erw[RD.mono (aH.new Ig|>.trans (aH.new (by rw[aU Ie.symm];erw[nx]))) _ rm]
  ·erw[RD.mono (aH.new Ig|>.trans (aH.new (by rw[aU Ie.symm];erw[nx]))) _ pK]
  let sm:aH H (_L.upd (_L.upd H dx (.own x)) x (.ins C dx [])):=aH.new Ig|>.trans (aH.new (by rw[aU Ie.symm];erw[nx]));let mE:aH H CG:=aH.but sm p8 (by simpa using nx);let a5j:H q=none:=aH.none sm nq;generalize hM:(#[rs,r,f,j,ti]:ck)=M at La;let iG:M.Ok:=by rw[<-hM];erw[aK]
  let Kd:M.rs=rs:=by rw[<-hM]
  let cx:CI M pl ds os:=#[iG,by rw[Kd];erw[row],dA,by rw[Kd];erw[uc],aw];let nD:=cx.row.no;let SM:cE M 64 (pI pl):=a2q (by rw[Kd];erw[on.len]);let(Kh,_,_,_,_,e15,_):=id La.ob;erw[_,Z,x,Kh,_,Z,e15,Z,_,Z,x,q,M,64,pI pl,rate,Z,La,SM,iG,bO,rt2,Z,λzB L9 b16=>?_];let jx:aH H zB:=aH.but mE b16 (by simpa using nx);let eB:cE M 64 {pI pl with rate:=rate}:=SM.rate bO rt2;erw[_,Z,ia,xs,Z,.inr (wC.go jx),λWl XE wa=>?_];erw[bG Z,λFl Lj w6=>?_];let DT:=jx.trans wa.same;let QU:=DT.trans w6.same;let R18:=L9.same eB.row.no (wa.same.trans w6.same);let nW:H Wl=none:=aH.none jx wa.no;let nF:H Fl=none:=aH.none DT w6.no;let qW:q≠Wl:=λz=>by let(_,e',_):=L9.qu;have:=wa.no;rw[<-z,e']at this;cases this
  let qF:q≠Fl:=λz=>by let(_,e',_):=(L9.same eB.row.no wa.same).qu;have:=w6.no;rw[<-z,e']at this;cases this
  let WF:Wl≠Fl:=λz=>by have:=w6.no;rw[<-z,wa.at']at this;cases this
  let a75:jb M rate pl ds os 0 0 0 {pI pl with rate:=rate} [] (λ_=>none):=#[#[Z,Z,Z,.inl rfl,Z,aY _,fX _,λ_=>rfl,λ_=>rfl],Z,Z,(λc e du he=>by simp at he),(λ_ _=>rfl),(λc b hc=>absurd hc (CU _)),(λb hb=>WQ cx.row b (gZ hb)),(λq hq=>by cases hq),(λns sp e=>by cases e),(λ_ _ _ e=>by cases e)];let g0:G5 C M rate pl ds os p x Wl Fl H 64 Lj q {pI pl with rate:=rate} 0 []:=#[#[bg,.fR bg QU,R18,#[xs,w6.same _ _ wa.at',aI.mono QU _ dI],#[[],w6.at',cH],nx,a5j,nW,nF,qW,qF,WF],eB,#[0,0,_,a75],Z];erw[60,Z,aA,aA,qz (Pv:=λc O oj=>∃v8 v9,O=[some (.ref p),some mv,some fK,some (.ref ia),some (.int rate),some (.ref x),some (.ref Wl),some (.ref Fl),v8,v9,none,none]/\∃q S m es,G5 C M rate pl ds os p x Wl Fl H (64+10*c) oj q S m es) ?_ ?_ ?_]
  ·erw[_,_,Z,_,_,_,_,g0]
  ·rintro c O oj hc ⟨v8,v9,rfl,q,S,m,es,g⟩
   erw[gh ?_];intro E1;let kC:c<60:=by simpa using hc
   let hD:64+10*c<=1490:=by lia
   erw[_,Z,p,6,Z,g.w.bg,aA,aA,λkd zA k0 k1 zm=>?_];let g1:=g.draw cx zm;let up:∀{H':Hp}{q:Addr}{S:bQ}{m:Nat}{es:List aj},G5 C M rate pl ds os p x Wl Fl H (64+10*c) H' q S m es->G5 C M rate pl ds os p x Wl Fl H (64+10*(c+1)) H' q S m es:=λg=>#[g.w,g.ok.up hD,g.inv,g.no];let(xg,_,_,_,_,t7,_):=id g1.w.run.ob;erw[_,Z,_,_,Z,Z,_,Z,?_];erw[dW (λhc1=>?_) (λhc1=>?_)]
   ·let(ws,ew,rws):=g1.w.wl
    erw[_,Z,Wl,ws,Z,.inl (aL.of ew),_,_,Z,Z,_,Z,?_];erw[dW (λiU=>?_) (λiU=>?_)]
    ·let hlen:(ws.length:Int)>0:=kg iU
     obtain⟨y,ys,rfl⟩:∃y ys,ws=y::ys:=by cases ws with |nil=>simp at hlen |cons y ys=>erw[y,ys,Z]
     let(w2,d,ed,Hd):=g1.w.pop g1.ok.row.no nD g1.no ew;let(_,_,_,inv1):=g1.inv;let(o,eo,it,AH,z9):=Vj cx inv1.i2 ed;erw[_,Z,x,xg,_,Z,t7,Z,?_];erw[_,Z,.inl #[Z,_,aL.of ew],Wl,_,0,0,y,Z,Z,ew,aA,aA,a1u _,Z,?_];let vW:cZ zA (_L.upd zA Wl (.lst ys)):=.upd ew trivial;erw[x,q,M,64+10*c,S,y,d,o,Z,w2.run,g1.ok,iG,RD.v vW _ it.it.no Hd,it,AH,z9,λH3 R3 b3=>?_];let AK:=g1.ok.wO it z9;erw[_,_,Z,q,nY S d o,m+1,es,up #[w2.mv #[b3,.inl Z] R3 nD g1.no,AK,#[_,_,_,inv1.wO iG g1.ok cx.row.len ed eo AK],g1.no]]
    ·erw[_,Z,.inl #[_,_,Z,Z,_,Z,?_]]
     erw[dW (λ_=>?_) (λ_=>?_)]
     ·erw[_,Z,x,xg,_,Z,t7,Z,x,q,M,64+10*c,S,Z,g1.w.run,g1.ok,iG,λH3 R3 b3=>?_]
      let(_,_,_,inv1):=g1.inv;erw[_,_,Z,q,oN M S,m,es,g1.w.mv #[b3.mono (by simp),.inl rfl] R3 nD g1.no,g1.ok.hold iG hD,#[_,_,_,inv1.hold iG g1.ok],g1.no]
     erw[_,Z,.inl #[_,_,Z,Z,_,Z,?_]];erw[dW (λ_=>?_) (λ_=>?_)]
     ·erw[_,Z,x,xg,_,Z,t7,Z,x,q,M,64+10*c,S,Z,g1.w.run,g1.ok,λH3 R3 b3=>?_]
      let(_,_,_,inv1):=g1.inv;erw[_,_,Z,q,{S with stp:=none},m,es,up #[g1.w.mv #[b3.mono (by simp),.inl rfl] R3 nD g1.no,g1.ok.go,#[_,_,_,inv1.go none (λ_ _ _ e=>by cases e)],g1.no]]
     let(us,eu,ru):=g1.w.fl;erw[_,Z,.inl #[Z,_,aL.of eu],?_];erw[_,Z,x,xg,_,Z,t7,Z,?_];erw[_,Z,p,9,Z,g1.w.bg,aA,aA,λn H6 n0 n1 b6=>?_];let g6:=g1.draw cx b6;erw[_,_,Z,Z,x,q,M,64+10*c,S,1+n,Z,g6.w.run,g6.ok,iG,aw,aw,λl ys fs S' q' H7 nl dl rd run len _ R7 oG lq=>?_];let(nf,ok7,w7,gg):=g6.run cx run oG R7 rd;let(A0,BS,Hi):=w7.fl;let ly:=rd.length;let lu:=Hi.length;let(_,_,_,IX):=g6.inv;let l2:=IY cx IX;let lW:sizeLine=16777216:=by decide
     erw[Fl,l,A0,ys,Z,Z,BS,dl,aw,?_];erw[_,_,Z,q',S',m,es++fs,up (gg A0 BS)]
   ·erw[_,Z,.inl #[_,_,Z,Z,_,Z,?_]]
    erw[dW (λ_=>?_) (λ_=>?_)]
    ·erw[_,Z,x,xg,_,Z,t7,Z,x,q,M,64+10*c,S,Z,g1.w.run,g1.ok,iG,λH3 R3 b3=>?_]
     let(_,_,_,inv1):=g1.inv;erw[_,_,Z,q,oN M S,m,es,g1.w.mv #[b3.mono (by simp),.inl rfl] R3 nD g1.no,g1.ok.hold iG hD,#[_,_,_,inv1.hold iG g1.ok],g1.no]
    erw[_,Z,.inl #[_,_,Z,Z,_,Z,?_]];erw[dW (λ_=>?_) (λ_=>?_)]
    ·erw[_,Z,x,xg,_,Z,t7,Z,x,q,M,64+10*c,S,Z,g1.w.run,g1.ok,λH3 R3 b3=>?_]
     let(_,_,_,inv1):=g1.inv;erw[_,_,Z,q,{S with stp:=none},m,es,up #[g1.w.mv #[b3.mono (by simp),.inl rfl] R3 nD g1.no,g1.ok.go,#[_,_,_,inv1.go none (λ_ _ _ e=>by cases e)],g1.no]]
    let(us,eu,ru):=g1.w.fl;erw[_,Z,.inl #[Z,_,aL.of eu],?_];erw[_,Z,x,xg,_,Z,t7,Z,?_];erw[_,Z,p,9,Z,g1.w.bg,aA,aA,λn H6 n0 n1 b6=>?_];let g6:=g1.draw cx b6;erw[_,_,Z,Z,x,q,M,64+10*c,S,1+n,Z,g6.w.run,g6.ok,iG,aw,aw,λl ys fs S' q' H7 nl dl rd run len _ R7 oG lq=>?_];let(nf,ok7,w7,gg):=g6.run cx run oG R7 rd;let(A0,BS,Hi):=w7.fl;let ly:=rd.length;let lu:=Hi.length;let(_,_,_,IX):=g6.inv;let l2:=IY cx IX;let lW:sizeLine=16777216:=by decide
    erw[Fl,l,A0,ys,Z,Z,BS,dl,aw,?_];erw[_,_,Z,q',S',m,es++fs,up (gg A0 BS)]
  rintro O oj ⟨v8,v9,rfl,q,S,m,es,g⟩;let g:G5 C M rate pl ds os p x Wl Fl H 664 oj q S m es:=g;let(i',k',sq0,inv):=g.inv;let(ws,ew,rws):=g.w.wl;let uF:=inv.i2.ml;let lws:=rws.length;rw[qT]at lws;erw[_,Z,Wl,Z,#[_,aL.of ew],BN (K:=K) (a:=Wl) (xs:=ws) (λc O oj=>∃v10,O=[some (.ref p),some mv,some fK,some (.ref ia),some (.int rate),some (.ref x),some (.ref Wl),some (.ref Fl),v8,v9,v10,none]/\oj Wl=some (.lst ws)/\∃S,W4 C M ds p x Wl Fl H oj q S m es/\cE M 664 S/\jb M rate pl ds os (m+c) i' k' S es sq0) #[_,Z,ew,S,g.w,g.ok,inv] (λc O oj _ h=>by let(_,_,e,_):=h;erw[aL.of e]) ?_ ?_]
  ·rintro c y O oj hy ⟨v10,rfl,JY,S,pE,yA,Bm⟩
   erw[gh ?_];intro E2;let(ws',wR,a21):=pE.wl;rw[JY]at wR;cases wR;let(d,ed,Hd):=a21.get' c hy;rw[qU]at ed;let(o,eo,it,AH,z9):=Vj cx Bm.i2 ed;let(Kg,_,_,_,_,Kf,_):=id pE.run.ob;erw[_,Z,x,Kg,_,Z,Kf,Z,_,Z,x,q,M,664,S,y,d,o,Z,pE.run,yA,iG,Hd,it,AH,z9,λzA L8 zm=>?_];let a5M:Mv x q oj q zA:=#[zm,.inl Z];let AK:=yA.wO it z9;erw[_,Z,zm _ _ JY (by simp;erw[(pE.xl).1.symm,pE.qw.symm]),nY S d o,pE.mv a5M L8 nD g.no,AK,Bm.wO iG yA cx.row.len ed eo AK]
  rintro O oj ⟨v10,rfl,JY,S,pE,yA,Bm⟩;let emn:m+ws.length=os.length:=by lia
  rw[emn]at Bm;let(Kg,_,_,_,_,Kf,_):=id pE.run.ob;erw[_,Z,x,Kg,_,Z,Kf,Z,x,q,M,664,S,Z,pE.run,yA,λzA L8 zm=>?_];let vq:=pE.mv (S':={S with stp:=none}) #[zm.mono (by simp),.inl rfl] L8 nD g.no;let yz:=yA.go;let Up:=Bm.go none (λ_ _ _ e=>by cases e);generalize hS0:({S with stp:=none}:bQ)=S0 at vq yz Up;let sn0:S0.stp=none:=by rw[<-hS0]
  let(Kh,_,_,_,_,t7,_):=id vq.run.ob;let told:∀{fs:List aj}{S':bQ},Run M S0 fs S'->∃i k sq,jb M rate pl ds os os.length i k S' (es++fs) sq/\(es++fs).length<=2100/\¬Halt S'.pc S'.stp:=by intro fs S' run;let(i2,k2,xZ,inv2):=R5 iG cx.row dA run yz Up;erw[i2,k2,xZ,inv2,IY cx inv2,λh=>h.1 (run.stp sn0)]
  erw[_,Z,x,Kh,_,Z,t7,Z,x,q,M,664,S0,100,Z,vq.run,yz,iG,aA,aA,λl1 y1 fs1 S1 q1 H21 uv zj Av R8 agC abi R21 a5L lq1=>?_];let YC:=vq.mv a5L R21 nD g.no;let l1n:H l1=none:=by cases e':H l1 with |none=>rfl |some o'=>
   by_cases hp:l1=p
   ·let(c,mm,eb,_):=vq.bg
    rw[hp,eb]at uv;cases uv
   ·have:=vq.bF.same _ _ hp e'
    rw[uv]at this;cases this
  let l1F:l1≠Fl:=λz=>by let(us,eu,_):=vq.fl;rw[z,eu]at uv;cases uv
  erw[λO qP=>∃q' S' fs kj,O=[some (.ref p),some mv,some fK,some (.ref ia),some (.int rate),some (.ref x),some (.ref Wl),some (.ref Fl),v8,v9,v10,kj]/\W4 C M ds p x Wl Fl H qP q' S' m (es++fs)/\Run M S0 fs S'/\S'.os=[],?_,?_]
  ·erw[jZ ?_];intro E3
   erw[pD (λO qP=>∃q' S' fs gs l ys,O=[some (.ref p),some mv,some fK,some (.ref ia),some (.int rate),some (.ref x),some (.ref Wl),some (.ref Fl),v8,v9,v10,some (.ref l)]/\W4 C M ds p x Wl Fl H qP q' S' m (es++fs)/\Run M S0 (fs++gs) S'/\qP l=some (.lst ys)/\aI K qP ys gs/\(gs=[]->S'.os=[])/\l≠Fl/\H l=none) (λ_ qP=>match qP Fl with|some (.lst us)=>5000-us.length|_=>0) ?_ ?_ ?_]
   ·erw[q1,S1,[],fs1,l1,y1,Z,by rw[lJ];erw[YC],R8,zj,Av,λz=>?_,l1F,l1n]
    rcases abi with h|h|h
    ·rw[z]at h;simp at h
    ·erw[h]
    ·let(_,_,_,_,_,nh):=told R8
     exact(nh h).elim
   ·rintro O qP ⟨q',S',fs,gs,l,ys,rfl,zY,run,dl,rl,hgs,lF,ln⟩
    let(i2,k2,xZ,inv2,U7,nh2):=told run;let mI:=run.ok yz iG;let lT:=run.no yz iG;let noF:bS fs=true:=cj.mpr λd hd=>cj.mp lT d (LQ _ hd);let noG:bS gs=true:=cj.mpr λd hd=>cj.mp lT d (ir _ hd);let SU:bS (es++fs)=true:=cj.mpr λd hd=>(jL.mp hd).elim (cj.mp g.no d) (cj.mp noF d);rw[cy,cy]at U7;let ly:=rl.length;erw[_,Z,bG Z,λle XD vZ=>?_];let okl:e9 8 (.list gs):=gW.lst (n:=7) λd hd=>a26 run yz iG d (ir _ hd);erw[.inr #[.list gs,.list [],rH (aL.of (vZ.same _ _ dl)) (aI.mono vZ.same _ rl),rH (aL.of vZ.at') cH,kN okl,Z,_,Z,?_]];rw[abb];let Gk:=zY.same vZ.same mI.row.no nD SU;let abK:=vZ.same _ _ dl;let a2x:=aI.mono vZ.same _ rl;cases hf:gs with |nil=>subst hf;erw[ba ?_];rw[lJ]at run;erw[q',S',fs,_,Z,Gk,run,hgs Z] |cons f0 fr=>
     rw[<-hf];let dM:gs≠[]:=by rw[hf];simp
     let uD:0<gs.length:=CZ.mpr dM;rw[show(!gs.isEmpty)=true by rw[hf];rfl];erw[bA ?_];let lW:sizeLine=16777216:=by decide
     let(us,eu,ru):=Gk.fl;let lu:=ru.length;rw[cy]at lu;erw[_,Z,.inl #[Z,_,aL.of eu],_,Z,Fl,l,us,ys,Z,Z,eu,abK,aw,?_];let rk:=Gk.ext mI.row.no nD SU noG eu a2x;let JZ:(_L.upd XD Fl (.lst (us++ys))) Fl=some (.lst (us++ys)):=bP;rw[D6]at rk;generalize _L.upd XD Fl (.lst (us++ys))=H25 at rk JZ⊢;let(abB,_,_,_,_,e25,_):=id rk.run.ob;erw[_,Z,x,abB,_,Z,e25,Z,x,q',M,664,S',100,Z,rk.run,mI,iG,aA,aA,λl2 y2 hs S2 q2 XC pT Ce uj Am agB abh R26 Tj kS=>?_];let vX:bS (es++(fs++gs))=true:=cj.mpr λd hd=>(jL.mp hd).elim (cj.mp g.no d) (cj.mp lT d);let YB:=rk.mv Tj R26 nD vX;let run':=run.trans Am;let ab8:XC Fl=some (.lst (us++ys)):=Tj.but _ _ JZ (by simp;erw[(rk.xl).2.1.symm,rk.qf.symm]);erw[#[q2,S2,fs++gs,hs,l2,y2,Z,YB,run',Ce,uj,λz=>?_,λz=>?_,?_],?_]
     ·rcases abh with h|h|h
      ·rw[z]at h;simp at h
      ·erw[h]
      ·let(_,_,_,_,_,nh):=told run'
       exact(nh h).elim
     ·rw[z,JZ]at pT;cases pT
     ·cases e':H l2 with |none=>rfl |some o'=>
      by_cases hp:l2=p
      ·let(c,mm,eb,_):=rk.bg
       rw[hp,eb]at pT;cases pT
      ·have:=rk.bF.same _ _ hp e'
       rw[pT]at this;cases this
     ·let(us0,Vt,ru0):=zY.fl
      have:=vZ.same _ _ Vt;rw[eu]at this;cases this;show(match XC Fl with|some (.lst us)=>5000-us.length|_=>0)<(match qP Fl with|some (.lst us)=>5000-us.length|_=>0);rw[ab8,Vt];show 5000-(us++ys).length<5000-us.length;rw[cy]
      lia
   ·rintro O H6 Q1 Q2 hq ⟨v1,f1,sm,h⟩
    erw[v1,f1,sm,λe' H' n'=>?_];rcases h e' H' n' with⟨i1,i2,g1,g2,b1,g3,g4⟩|⟨d1,d2,g1,g2,g3,g4,b1,g5,g6⟩
    ·erw[.inl #[i1,i2,g1,g2,b1,g3,hq _ _ g4]]
    ·erw[.inr #[d1,d2,g1,g2,g3,g4,b1,g5,hq _ _ g6]]
  rintro O qP ⟨q',S',fs,kj,rfl,zY,run,kB⟩;let(i2,k2,xZ,inv2,U7,nh2):=told run;let tp:=inv2.end cx.row kB;let(us,eu,ru):=zY.fl;erw[_,Z,kk _ (es++fs) xZ _ (rH (aL.of eu) ru) ?_ zY.bF];rw[<-hM]at tp;erw[tp]
end
end _c
set_option maxHeartbeats 2000000
namespace _c
open PySem PySem.Spec PyProof.Rows _L _d _l _C _P _W _R
open _O (topR cornO mnO betR atO ownF leadF ownL OkI OkIs)
section
section
variable {n0:Nat}{r f j ti rate:Int}{ds:List aj}{os:List Itm}{es:List aj}{sq:Nat->Option Rat}
theorem At.du'(row:cg n0 ds os){k i c:Nat}(a:At j rate ds os k i c)(rt2:Int):(cT rt2 ds os os.length)[k]? =(gR rt2 ds os i)[c]?:=by
 let hi:=a.hi;let hl:=qI (rate:=rt2) row i aw;let sH:=qI (rate:=rt2) row (i+1) aw;let e1:(cB os (i+1)).length=(cB os i).length+(dX os i).length:=by show(cB os i++dX os i).length=_;rw[cy]
 let e2:(cT rt2 ds os (i+1)).length=(cT rt2 ds os i).length+(gR rt2 ds os i).length:=by show(cT rt2 ds os i++gR rt2 ds os i).length=_;rw[cy]
 let hc:=a.hc;rw[a.ek,hl];erw[Fc row aw _ hi (aY _)]
theorem kZ.small(tp:kZ r f j ti rate ds os es sq)(row:cg n0 ds os)(hz:ds.length<=30):es.length<=1000000:=by
 let h:=(uN (rate:=rate) row os.length (aY _)).1;have:=tp.len;have:=row.len
 lia
theorem kZ.any(tp:kZ r f j ti rate ds os es sq)(row:cg n0 ds os)(h3:n0<=3)(hz:ds.length<=30){rt2:Int}(h1:10<=rt2)(h2:rt2<=200):∃fa,p9 ti rt2 ds os es sq fa:=by
 let key:∀k,∃y,∀e du,es[k]? =some e->(cT rt2 ds os os.length)[k]? =some du->tJ ti du e (sq k) y:=by
  intro k;by_cases hk:k<es.length
  ·let zi:=qI (rate:=rate) row _ (aY os.length)
   let te:=tp.len;let(i,c,a):=xy (j:=j) (rate:=rate) row (show k<(cB os os.length).length by lia);obtain⟨e,ee⟩:∃e,es[k]? =some e:=#[_,bo hk];let d2:=a.du' row rt2;rcases tp.kind row a ee with⟨eo,c0,_,hs,ed,dQ⟩|⟨ns,sp,q,eo,fT,_,hs,e1,qt,q0,bq⟩
   ·subst c0
    rw[qH eo ed]at d2;erw[0,λe' du C1 iL=>?_];rw[ee]at C1;rw[d2]at iL;cases C1;cases iL;rw[hs];erw[.dQ Z dQ]
   ·rw[o8 eo,bV,jN fT]at d2
    erw[if topR rt2 sp<q then 3 else 0,λe' du C1 iL=>?_];rw[ee]at C1;rw[d2]at iL;cases C1;cases iL;rw[hs];let(bT,cR,dh):=row.ok i ns sp eo;erw[.stp (eH ns c) (topR rt2 sp) q Z e1 q0 bq ((_O.lN cR dh h1 h2).mono aA) (by unfold eH;rw[bB,bT.len];lia)]
  ·erw[0,λe du ee _=>absurd (cm.mp ee).1 hk]
 erw[λk=>if k<es.length then Classical.choose (key k)else 0,λk e du ee iL=>?_,tp.VD,aV (xO _),tp.small row hz];rw[aQ (cm.mp ee).1];erw[Classical.choose_spec (key k) e du ee iL]
theorem kZ.own(tp:kZ r f j ti rate ds os es sq)(row:cg n0 ds os)(hz:ds.length<=30):p9 ti rate ds os es sq (λ_=>0)/\FG r f j rate ds os es sq (λ_=>0) none:=by
 let te:es.length=dU rate ds os:=tp.len;erw[#[λk e du ee iL=>?_,tp.VD,Z,tp.small row hz],λk hk=>?_]
 ·let en:=tp.ent k e du ee iL
  cases hs:sq k with |none=>rw[hs]at en;erw[.dQ en.1 en.2] |some q=>rw[hs]at en;let(zs,top,e1,e2,qt,q0,bq,bt,lz):=en;let h:=tJ.stp (ti:=ti) zs top q e1 e2 q0 bq bt lz;rw[aV (tL.mpr qt)]at h;erw[h]
 ·let hk:=Nat.le_min.mp hk
  let Bh:(cN j rate os).length=dU rate ds os+1:=by unfold cN;rw[cy,m7 (ds:=ds) row _ (aY _)];rfl
  obtain⟨b,eb⟩:∃b,(cN j rate os)[k]? =some b:=#[_,bo aw];unfold gQ;rw[aV aw,aV aw,aQ Z,vn,eb];show(if jT r f b (gb sq k) (sq k)=true then 0 else 4)=0;rw[tp.meet k b eb,aQ rfl]
end
theorem NN:bu ["_law_bag_here","_law_machine_here","_law_place_here","_law_items_here","_law_rate","_law_kind"] ["_law_bag_here","_law_machine_here","_law_place_here","_law_items_here","_law_rate"] (aX Pm):=bD aP
theorem a4m(AA:a1v)(a93:a1k "_law_held_tape" 13 DM):a1k "_law_some_tape" 14 DM:=by
 exists AA.aaA.has,NN,Cu λ_ _ _ _ _=>rfl
 ·let(p,mv,fK,iv,rate,rs,r,f,j,ti,pl,ds,os,rfl,bg,rm,aK,pK,on,ri,row,dA,rr,Bi,bO,rt2,k):=h
  let nd:=NN.nd;let nm:=oJ rs r f j ti;let yF:dG (.tuple ds)=true:=by have:=row.no;simpa[dG]using this
  erw[_,%[pS 5 nd (pf (fk AA) hr %[0,aB|az]),bw (bL (cJ K Z hr.units) P3 aB (bf _)) (aG (aR (pf a93 hr %[0,1,2,3,4|az]))) bC,je (bw (bL (cJ K Z hr.units) P3 aB (bf _)) (aG (pS 4 nd (aO cM aB (pf (fk AA) hr %[0,aO fE M2 aB|az])))) bC),aR (pf (a4i AA) hr %[1,3,4|az])|aG],?_];erw[_,Z,p,3,Z,bg,aA,aA,λkd H1 k0 k1 b1=>?_];let t1:=bJ.t bg b1;let Rp:=RD.t t1 _ nm rm;let a2n:=RD.t t1 _ (jS _) pK;let DV:=RD.t t1 _ yF ri;let fin:∀(p':Addr)(rt':Int)(H2:Hp),p'=p->bJ p H1 H2->10<=rt'->rt'<=rate->N4 [mv,iv,.int rt'] H2 (λv H3=>Q v H3) E:=λp' rt' H2 _ b2 h1 h2=>by let t2:=bJ.t b1.bF b2;erw[mv,iv,rt',rs,r,f,j,ti,ds,os,Z,RD.t t2 _ nm Rp,aK,RD.t t2 _ yF DV,row,aw,h1,aw,λl ys H3 nl dl rl s3=>?_];erw[k _ _ _ H3 (rH (aL.of dl) rl) (Zf aK row dA aw h1 h2 rt2) (b1.trans (b2.trans (.fR b2.bF s3)))]
  erw[_,Z,.inl #[_,_,Z,Z,_,Z,?_]];by_cases h2:kd=2
  ·rw[cu h2]
   erw[bA #[_,Z,_,Z,_,Z,_,Z,_,Z,p,mv,fK,iv,rate,rs,r,f,j,ti,pl,ds,os,Z,b1.bF,Rp,aK,a2n,on,DV,row,dA,rr,Bi,bO,rt2,λv es sq H2 rv tp b2=>?_]];erw[k v es sq H2 rv tp (b1.trans b2)]
  rw[dP h2];erw[ba ?_];erw[λO H2=>bJ p H1 H2/\∃rt':Int,10<=rt'/\rt'<=rate/\O=[some (.ref p),some mv,some fK,some iv,some (.int rt'),some (.int kd)],?_,?_]
  ·erw[jZ ?_];intro E1
   erw[_,Z,.inl #[_,_,Z,Z,_,Z,?_]];by_cases h1:kd=1
   ·rw[cu h1]
    erw[bA #[_,Z,_,Z,_,_,Z,Z,p,rate-9,Z,b1.bF,aw,aw,λx H2 x0 x1 b2=>?_]];erw[_,_,Z,Z,b2,10+x,aw,aw,Z]
   ·rw[dP h1]
    erw[ba #[.refl b1.bF,rate,bO,fD _,Z]]
  ·rintro O H2 ⟨b2,rt',h1,sR,rfl⟩
   erw[_,Z,_,Z,_,Z,fin p rt' H2 Z b2 h1 sR]
end
end _c
set_option maxHeartbeats 4000000
namespace _c
open PySem PySem.Spec PyProof.Rows _L _d _l _C _P _W _R
open _O (topR cornO mnO betR atO ownF leadF ownL OkI OkIs)
section
theorem kZ.keep{r f j ti rate:Int}{ds:List aj}{os:List Itm}{es:List aj}(tp:kZ r f j ti rate ds os es sq)(bg:gX H p)(b:bJ p H H')(rt:RD K H tv (.list es)):RD K H' tv (.list es):=by
 let(ta,xt,rfl,ht,jV):=id rt.lst_inv;let ent:∀(k:Nat)(e:aj),es[k]? =some e->(∃l,e= .tuple l)/\dG e=true:=λk e ee=>by obtain⟨du,ed⟩:∃u,(cT rate ds os os.length)[k]? =some u:=#[_,bo (by have:=(cm.mp ee).1;have:=tp.len;lia)];let en:=tp.ent k e du ee ed;cases hs:sq k with |none=>rw[hs]at en;rcases en.2 with⟨n,rfl,_⟩|⟨wd,z,rfl,_⟩<;>erw[#[_,rfl],rfl] |some q=>rw[hs]at en;let(zs,top,_,rfl,_):=en;erw[#[_,Z],Aa _ _ _]
 let ht':aL K H' ta xt:=by
  rcases ht with(h|⟨o,h⟩)|h
  ·erw[aL.of (b.same _ _ (λe=>?_) h)]
   subst e;let(c,m,e1,_):=bg;rw[h]at e1;cases e1;let(d,ed,rd):=jV.get' 0 rfl;let((l,rfl),_):=ent 0 d ed;let(_,_,h,_):=rd.cF;cases h
  ·erw[.inl (.inr #[o,b.same _ _ (bg.T7 h (λxs e=>by cases e)) h])]
  ·erw[.inr h]
 erw[rH ht' (aI.t (bJ.t bg b) _ (cj.mpr λd hd=>by let(k,hk):=vm.mp hd;exact(ent k d hk).2) jV)]
theorem a3V(h:∀c,Q (.bl c) H)(hb:∀Q':VK,Q' (.bl b) H->tb O H Q'):Xz tb O Q (.bl a) H:=#[a,Z,dW (λ_=>h true) (λ_=>hb _ (h b))]
theorem a1d(c:Bool):IntMulOk 2 (if c=true then 1 else 0):=.of_left (cw aA aA)
theorem a2A(res:Option (Nat×Nat)):e9 1 (Hs res):=by cases res with |none=>erw[aP,aP] |some p=>
 let(k,y):=p;let hs:gW 0 [.int (k:Nat),.int (y:Nat)]:=λd hd=>by simp only[dg,gk,jJ]at hd;rcases hd with rfl|rfl<;>erw[.int _]
 erw[hs.tup]
theorem Om:bu ["_law_script","_law_k","_law_bag_here","_law_machine_here","_law_place_here","_law_many","_law_most","_law_rate","_law_items_here","_law_turn","_law_tape_here","_law_less_rate"] ["_law_script"] (aX y9):=bD aP
theorem a4M(AA:a1v)(F:me K "law" "law" y9 f fd)(a92:a1k "_law_some_tape" 14 DM)(UX:a1k "_law_look" 6 Nd)(UW:a1k "_law_looked" 11 Na):iq P w K mg aD iM 15 f fd ["_law_script"] (GH K):=by
 erw[F.ok Om (λvs H Q E h=>?_) (λaM A outer s H vs Q E hr h=>?_)]
 ·let(a,ns,rfl,_):=h
  rfl
 ·let(a,ns,rfl,hS,hlen,k):=h
  let nd:=Om.nd;erw[_,%[(g9 eO Z (pN Z (AA.B.at "range") %[(aO cM (eK (x:="min") (Kw rfl) rfl (AA.B.at "min") Y6 %[aB,cY K AA.B %[0|az]|az]) aB)|az]) (aZ 1 nd) %[pS 2 nd (pf (a53 AA) hr %[0,1|az]),pS 3 nd (pf (a4H AA) hr %[2|az]),pS 4 nd (pf (a4A AA) hr %[2,3|az]),fe (pf (a4j AA) hr %[2,eV (cJ K Z hr.units) u8 aB (bf _)|az]) (cW K Z (n:=2) Z %[aZ 5 nd,aZ 6 nd|cU]),(pS 7 nd (px K (cX %[aB,aB,aB,aO cM aB (pf (fk AA) hr %[2,aB|az])|az]) (pf (fk AA) hr %[2,aB|az]))),pS 8 nd (pf (a4N AA) hr %[2,3,4,5,6|az]),(g9 eO Z (pN Z (AA.B.at "range") %[(aO fE aB (aO bR aB (iE (x:="int") zk rfl (AA.B.at "int") vi %[a3w (eV mH (cY K AA.B %[8|az]) aB (bf _)) (gN (eV mH W1 aB (bf _)))|az])))|az]) (aZ 9 nd) %[pS 10 nd (pf a92 hr %[2,3,4,8,7|az]),bw (bL nJ (pf UW hr %[3,8,7,10|az]) fQ (bf _)) (aG (aR j4)) bC,bw (bL nJ (pf UX hr %[3,8,7,10|az]) fQ (bf _)) (aG (aR j4)) bC,pS 11 nd (aO cM aB (pf (fk AA) hr %[2,aO fE a1b aB|az])),bw (bL (iH K Z hr.units) (pf UW hr %[3,8,11,10|az]) (pf UX hr %[3,8,11,10|az]) (bf _)) (aG (aR j4)) bC|aG])|aG]),aR j4|aG],?_];erw[_,Z,a,_,Z,.inl hS,_,_,Z,_,_,Z,Z,_,Z,?_,?_,?_]
  ·split<;>lia
  ·split<;>(try rw[bB])<;>lia
  let hN:((if((ns.map V.int).length:Int)<2 then((ns.map V.int).length:Int)else 2)+1).toNat<=32:=by split<;>lia
  erw[qz (Pv:=λi O H2=>aH H H2/\∃v1 v2 v3 v4 v5 v6 v7 v8 v9 v10 v11,O=[some (.ref a),v1,v2,v3,v4,v5,v6,v7,v8,v9,v10,v11]) ?_ ?_ ?_]
  ·erw[aH.refl _,none,none,none,none,none,none,none,none,none,none,none,Z]
  ·rintro i O H2 hi ⟨s2,v1,v2,v3,v4,v5,v6,v7,v8,v9,v10,v11,rfl⟩
   erw[gh ?_];intro E1;let hi8:i<32:=gK hi hN;erw[_,Z,_,Z,a,ns,_,Z,s2.seq hS,hlen,aw,aw,λp H3 np bg3 s3=>?_];erw[_,Z,p,Z,bg3,λmv rs r f j ti H4 rm aK b4=>?_];let nm:=oJ rs r f j ti;erw[_,Z,_,Z,p,mv,rs,r,f,j,ti,Z,b4.bF,rm,aK,λfK pl H5 pK on b5=>?_];let Hn:=RD.t (bJ.t b4.bF b5) _ nm rm;erw[_,Z,_,Z,.inl #[_,_,Z,Z,?_]];erw[p,_,Z,b5.bF,λt many most H6 hT m1 m2 m3 m4 b6=>?_];erw[t,_,Z,hT,Z,_,_,Z,_,_,Z,Z,?_];let t6:=bJ.t b5.bF b6;let rm6:=RD.t t6 _ nm Hn;let a2l:=RD.t t6 _ (jS _) pK;erw[_,Z,p,191,Z,b6.bF,aA,aA,λrt H7 r0 r1 b7=>?_];erw[_,_,Z,Z,bG Z,λc H8 n8=>?_];let b8:bJ p H7 H8:=.fR b7.bF n8.same;let cp:c≠p:=λe=>b7.bF.ne (e▸n8.no);erw[_,Z,p,4,Z,b8.bF,aA,aA,λix H9 i0 i1 b9=>?_];let hm:∃rate:Int,eY [V.int 10,V.int 200,V.int 100,V.int (10+rt)] ix=some (V.int rate)/\10<=rate/\rate<=200:=by
    rcases(show ix=0\/ix=1\/ix=2\/ix=3 by lia)with rfl|rfl|rfl|rfl
    ·erw[10,Z,aw,aw]
    ·erw[200,Z,aw,aw]
    ·erw[100,Z,aw,aw]
    ·erw[10+rt,Z,aw,aw]
   let(rate,er,bO,rt2):=hm;erw[.inl #[c,_,ix,_,Z,Z,aL.of (b9.same _ _ cp n8.at'),er,?_]];let Fu:=b7.trans (b8.trans b9);let t9:=bJ.t b6.bF Fu;let Rk:=RD.t t9 _ nm rm6;let Rf:=RD.t t9 _ (jS _) a2l;erw[_,Z,_,Z,_,Z,_,Z,_,Z,p,mv,rs,r,f,j,ti,fK,pl,many,most,Z,Fu.bF,Rk,aK,Rf,on,m1,m2,m3,m4,λiv ds os zC ri row dA hl Fx=>?_];let(hl,uc):=hl;let MH:=bJ.t Fu.bF Fx;let a2t:=RD.t MH _ nm Rk;let a2m:=RD.t MH _ (jS _) Rf;let Bi:ds.length<=20:=by lia
   let(ia,xi,rfl,wC,ET):=id ri.cF;let yF:dG (.tuple ds)=true:=by have:=row.no;simpa[dG]using this
   let n3:=aK.len;erw[_,Z,ia,_,Z,.inr wC,_,_,Z,Z,a3V (b:=decide (most>50)) (λc=>?_) (λQ' h=>#[_,Z,_,_,Z,Z,h])];obtain⟨z,ez,z1,z2⟩:∃z:Int,(3-2*(if c=true then 1 else 0):Int)=z/\1<=z/\z<=3:=by
    cases c
    ·erw[3,Z,aA,aA]
    ·erw[1,Z,aA,aA]
   erw[.inr #[c,Z,_,_,Z,Z,a1d c,_,_,Z,Z,_,Z,aw,aw,?_]];rw[ez];let fZ:aH H2 zC:=(b4.trans (b5.trans (b6.trans (Fu.trans Fx)))).P4 s3 np;erw[qz (Pv:=λi' O H'=>bJ p zC H'/\∃w9 jP kj,O=[some (.ref a),some (.int (0+(i:Int))),some (.ref p),some mv,some fK,some (.int many),some (.int most),some (.int rate),some (.ref ia),w9,jP,kj]) ?_ ?_ ?_]
   ·erw[.refl Fx.bF,_,_,_,Z]
   ·rintro i' O ahw wD ⟨bb,w9,jP,kj,rfl⟩
    erw[gh ?_];intro E2;let tb:=bJ.t Fx.bF bb;let Rj:=RD.t tb _ nm a2t;let a2k:=RD.t tb _ (jS _) a2m;let Ry:=RD.t tb _ yF ri;erw[_,Z,_,Z,_,Z,_,Z,_,Z,p,mv,fK,.ref ia,rate,rs,r,f,j,ti,pl,ds,os,Z,bb.bF,Rj,aK,a2k,on,Ry,row,dA,uc,Bi,bO,rt2,λtv es sq CG Hj tp p8=>?_];let MG:=bJ.t bb.bF p8;let Ho:=RD.t MG _ nm Rj;let Hr:=RD.t MG _ yF Ry;let(tw,lw):=tp.own row aw;let rY:=tp.rY;erw[_,Z,_,Z,_,Z,_,Z,mv,.ref ia,rate,tv,rs,r,f,j,ti,ds,os,es,sq,_,none,Z,Ho,aK,Hr,row,aw,bO,rt2,Hj,rY,tw,lw,λx zB jx rx=>?_];cases rx.AY;erw[Z,_,Z,ba ?_];erw[_,Z,_,Z,_,Z,_,Z,mv,.ref ia,rate,tv,rs,r,f,j,ti,ds,os,es,sq,_,none,Z,RD.mono jx _ Ho,aK,RD.mono jx _ Hr,row,aw,bO,rt2,RD.mono jx _ Hj,tw,lw,λx XE DT rx=>?_];cases rx.AY;erw[Z,_,Z,ba ?_];let Fw:bJ p CG XE:=.fR p8.bF (jx.trans DT);erw[_,Z,_,Z,_,_,Z,Z,p,rate-9,Z,Fw.bF,aw,aw,λx Lj x0 x1 Fv=>?_];erw[_,_,Z,Z,?_];let(fa,tw2):=tp.any row aw aw (rt2:=10+x) aw aw;let(res,lk):=TV (gQ r f (cN j (10+x) os) (dU (10+x) ds os) es.length sq fa) (min es.length (dU (10+x) ds os));let MF:=bJ.t p8.bF (Fw.trans Fv);let Rm:=RD.t MF _ nm Ho;let RA:=RD.t MF _ yF Hr;let R9:RD K Lj tv (.list es):=tp.keep p8.bF (Fw.trans Fv) Hj;erw[_,Z,_,Z,_,Z,_,Z,mv,.ref ia,10+x,tv,rs,r,f,j,ti,ds,os,es,sq,fa,res,Z,Rm,aK,RA,row,aw,aw,aw,R9,rY,tw2,lk,λv1 oj DS rv1=>?_];erw[_,Z,_,Z,_,Z,_,Z,mv,.ref ia,10+x,tv,rs,r,f,j,ti,ds,os,es,sq,fa,res,Z,RD.mono DS _ Rm,aK,RD.mono DS _ RA,row,aw,aw,aw,RD.mono DS _ R9,tw2,lk,λv2 zA QT rv2=>?_];let pQ:=(a2A res).le (show 1<=8 by decide);erw[.inr #[_,_,RD.mono QT _ rv1,rv2,kN pQ,kN pQ,_,Z,?_]];rw[eqv_refl _ pQ.lay];erw[ba #[bb.trans (p8.trans (Fw.trans (Fv.trans (.fR Fv.bF (DS.trans QT))))),_,_,_,Z]]
   ·rintro O H' ⟨bb,w9,jP,kj,rfl⟩
    erw[s2.trans (bb.P4 fZ np),_,_,_,_,_,_,_,_,_,_,_,Z]
  ·rintro O H2 ⟨s2,v1,v2,v3,v4,v5,v6,v7,v8,v9,v10,v11,rfl⟩
   erw[k _]
end
end _c
set_option maxHeartbeats 1000000
namespace _c
open PySem PySem.Spec PyProof.Rows _L
theorem qv{K:ag}{mg:bU}(X:K.In h)(G:h.Ns mainGlobals mg)(a:PySem.W.nsIn K mainGlobals x=some (some (.ref c))):GV mg x (.ref c):=#[_,xM X G a,Z]
theorem ab3{K:ag}{mg:bU}(X:K.In h)(G:h.Ns mainGlobals mg)(a:PySem.W.nsIn K mainGlobals x=some (some (.ref c)))(q:PySem.W.excIn K c bm nw=true):Exc K mg x c bm nw:=#[xM X G a,q]
theorem Mo{K:ag}{C:Addr}(h:PySem.W.findIn K (.ref C) f=some none):PySem.W.takerIn K C f=some none:=by unfold PySem.W.takerIn;rw[h];rfl
theorem ad3:Cz K P w mg aD C:=by intro f fd A R F;let ent:a1k "step_entry" 3 GI:=a4X A (a4h A (SE A.Vn A.B));let rsf:=a4q A R ent;let reo:=a4v A R rsf;let ren:=a4w A R reo;let(CN,fI,cG,c0,c1,c2,c3,c4,c5,c6,c7,c8,c9,EA):=A.ex;let ID:a1k "_law_number" 1 Ad:=HV A;let alk:a1k "_law_alike" 4 (Ae A3 K):=HX aA A.F7 A.B ID (HX aA A.F7 A.B ID (HX aA A.F7 A.B ID (a55 A)));erw[a4M A F (a4m A (a4T A R ren)) (a4K A (a4Y A alk)) (a4L A EA (a4I A EA.oc (a4V A (a4g A (SE A.Vn A.B)))))]
theorem ad4{P:ai}{w:World}{K:ag}{mg:bU}{aD:Heap}(A:All K mg)(F:me K "law" "law" y9 f fd):iq P w K mg aD iM 15 f fd ["_law_script"] (GH K):=by let(C',R'):=A.rc;erw[Zc ad3 K P w mg aD C' f fd A R' F]
end _c
end
set_option maxHeartbeats 1000000
set_option exponentiation.threshold 6000
def PySem.W.Fast.tw10275959087169545039:PySem.Program:=PySem.Challenge.pw_glidequeue_k48_tapes_let_by
theorem PySem.W.Fast.te10275959087169545039:PySem.Challenge.pw_glidequeue_k48_tapes_let_by=PySem.W.Fast.tw10275959087169545039:=rfl
local macro_rules|`(command|universe $x:ident)=>return Lean.mkNullNode (<-((x.getId.toString.splitOn "_").drop 1).toArray.mapM fun i=>`(command|theorem $(Lean.mkIdent (`_root_.PySem.W.Fast++Lean.Name.mkSimple s!"tw{(`PySem.Challenge.cw_glidequeue_k48_tapes_let_by_holds++Lean.Name.mkSimple ((match i.front with|'h'=>"heap"|'t'=>"tree"|'v'=>"view"|'s'=>"sts"|'e'=>"env"|_=>"o")++"_"++(i.drop 1).toString)).hash}")):ident:True:=True.intro))
universe t_h1013_h39_t1012_t961_t706_v39_t792_t536_t496_t430_t880_t292_o962_s537_s962_o881_t241_t226_o796_t211_s796_o537_t189_o497_s431_s364_o431_t167_s497_s293_t152_o364_o991_o1010_s881_o489_o293_o918_o916_o1012_t115_o491_o982_o655_o984_o989_o946_o998_o657_o996_t100_o650_o880_o923_o648_s242_o870_o868_o878_t363_o906_o944_o536_o970_o968_o534_o242_o925_o627_o951_o701_o949_o937_o629_o406_o541_o875_o356_o463_o873_o517_o858_o505_o977_o461_o975_o512_o510_o503_o496_o430_o404_o719_o494_o398_o227_o721_o393_o449_o428_o212_o391_o456_o351_o396_o956_o856_o710_o454_o901_o954_o138_o168_o276_o811_o899_o308_o153_o283_o447_o809_o1005_o961_o643_o1003_o959_o515_o641_o524_o636_o444_t70_o116_o278_o442_o634_o522_o439_o699_o101_o932_o349_o887_o423_o470_o697_o425_o930_o437_o372_o86_o468_o346_o301_o370_o678_o285_o71_o306_o728_o863_o379_o299_o818_o190_o344_o664_o861_o671_o832_o726_o322_o49_o564_o377_o477_o816_o735_o315_o980_o669_o336_o830_o313_o676_o804_o942_o329_o341_o475_o484_o363_o994_o894_o334_o653_o802_o1008_o662_o892_o339_o784_o487_o482_o354_o292_o270_o853_o889_o646_o327_o263_o601_o935_o973_o866_o685_s168_o290_o184_o420_o825_o268_o320_o182_o386_o692_o851_o823_o939_o904_o418_o622_o580_o700_o683_o261_o913_o777_o384_o361_o501_o837_o103_o839_o389_o987_o620_o247_s116_o911_o187_o206_o66_o599_o742_o531_o132_o782_o966_o466_o846_s190_o130_o165_o239_o121_o173_o587_o195_o879_o232_o209_o254_o224_o150_o113_o98_o297_o571_o763_o143_o473_o844_o91_o783_o311_o642_o204_o186_o134_o208_o106_o1001_o304_o402_o921_o897_o459_o928_o508_o368_o452_o158_o76_o606_o83_o413_o60_o217_o807_o747_o585_o244_o690_o727_o135_s49_o88_o67_o755_o149_o118_o931_o592_o214_o140_o628_o691_o976_o192_o73_o155_o229_o529_o97_o164_o253_o82_o223_o238_o112_o814_o600_o663_o983_o170_o63_o411_o57_t85_o469_o857_o762_o817_o667_o828_o288_o332_o862_o266_o684_o535_o205_h46_o340_o702_o355_o621_o548_o68_o703_o350_o677_o698_o635_o720_o670_o131_o734_o183_o649_o607_o579_o656_o572_o325_o198_o94_o438_o45_o202_s86_o885_o180_o274_o480_o639_o375_o562_o800_o632_o520_o849_o359_o318_t47_o1004_o55_o307_o838_o235_o161_o146_o124_o893_o713_o845_o530_o869_o291_o969_o900_o1011_o335_o955_o419_o997_o511_o938_o328_o443_o250_o810_o371_o176_o945_o300_o490_o495_o483_o912_o362_o269_o516_o504_o917_o385_o824_o262_o314_o462_o397_o874_o831_o950_o56_o803_o960_o852_o888_o220_o990_o345_o284_o476_o277_o412_o905_o924_o321_o424_o448_o79_o523_o455_o378_o392_o109_o405_o429_s227_o842_e41_o185_o399_o194_o704_o128_o416_o625_o674_o281_o835_o695_o909_s101_o435_s212_o409_s153_s71_s138
open PySem PySem.W PyProof.Rows
set_option maxRecDepth 100000 in
set_option maxHeartbeats 0 in
theorem PySem.Challenge.cw_glidequeue_k48_tapes_let_by_holds : PySem.Challenge.rw_glidequeue_k48_tapes_let_by.Holds := by
 w_on; o_law; k_head; (case hw=>w_witness2)
 k_fill
 refine _L.a6I (l:=PySem.Challenge.rw_glidequeue_k48_tapes_let_by) (k:=15) (x:="_law_script") (st:=_c.y9) rfl rfl ⟨rfl,by decide,by decide⟩ (fun w h Y=>PySem.W.kIn_of Y) _c.All ?F (fun _ _ A=>A.law) (fun _ _ _ _ _ _ _=>rfl) (fun _ _ _ _ _ _ _ A F=>_c.ad4 A F)
 case F=>
  intro w mg h KX G
  refine⟨_L.acH KX G ?b,?x1,?x2,?x3,?x4,?x5,?x6,?x7,?x8,?x9,?x10,?x11,?x12,?x13,?x14,?x15,?x16,?x17,?x18,?x19,?x21,?x22,?x23,?x24,?x25,?x26,?x27,?x28,?x29,?x30,?x31,?x32,?x33,?x34,?x35,?x36,?x37,?x38,?x39,?x40,?x41,?x42,?x43,?x44,?x45,?x46,?x47,?x48,?x49,?x50,?x51,?x52,?x53,?x54,?x55,?x56,?x57,?x58,?x59,?x60,?x61,?x62,?x63,?x64,?x65,?x66,?x67,?x68,?x69,?x70,?x71,?x72,?x73,?x74,?x75,?x76,?x77,?x78,?x79,?x80,?x81,?x82,?x83,?x84,?x85,?x86,?x87,?x88,?x89,?x90,?x91,?x92,?x93⟩
  case b=>(unfold _L.Ft; repeat (refine _L.uW.cons ?z ?_; (case z=>k_is))); exact _L.uW.nil
  case x1=>refine' _L.V3 KX G ?a ?l ?z ?r; (case a=>k_is); (case l=>k_is); (case z=>decide); (case r=>exact .cons ⟨_,rfl⟩ (.cons ⟨_,rfl⟩ .nil))
  case x2=>refine' _L.V3 KX G ?a ?l ?z ?r; (case a=>k_is); (case l=>k_is); (case z=>decide); (case r=>exact .cons ⟨_,rfl⟩ (.cons ⟨_,rfl⟩ .nil))
  case x3=>(refine' _L.nU KX G ?z; (case z=>k_is))
  case x4=>(refine' _L.nU KX G ?z; (case z=>k_is))
  case x5=>(refine' _L.nU KX G ?z; (case z=>k_is))
  case x6=>(refine' _L.nU KX G ?z; (case z=>k_is))
  case x7=>(refine' _L.nU KX G ?z; (case z=>k_is))
  case x8=>(refine' _L.nU KX G ?z; (case z=>k_is))
  case x9=>(refine' _L.nU KX G ?z; (case z=>k_is))
  case x10=>(refine' _L.nU KX G ?z; (case z=>k_is))
  case x11=>(refine' _L.nU KX G ?z; (case z=>k_is))
  case x12=>(refine' _L.nU KX G ?z; (case z=>k_is))
  case x13=>(refine' _L.nU KX G ?z; (case z=>k_is))
  case x14=>(refine' _L.nU KX G ?z; (case z=>k_is))
  case x15=>(refine' _L.a98 KX G ?z; (case z=>k_is))
  case x92=>
   refine' ⟨_,_,_,_,_,_,_,_,_,_,_,_,_,⟨_L.acf KX G ?a1 ?q1,?i1,⟨?x1,?x2,_c.Mo ?x3,?x4⟩,⟨?y1,?y2,_c.Mo ?y3,?y4⟩,?f,_,_L.F2 ?l ?c ?kk⟩,_c.ab3 KX G ?a2 ?q2,?t,⟨?k1,?k2,?k3,?k4,?k5,?k6,?k7,?k8⟩,_c.qv KX G ?h0,_c.qv KX G ?h1,_c.qv KX G ?h2,_c.qv KX G ?h3,_c.qv KX G ?h4,_c.qv KX G ?h5,_c.qv KX G ?h6,_c.qv KX G ?h7,_c.qv KX G ?h8,_c.qv KX G ?h9,?any,?own,?ve,PySem.W.mg_none_of KX G ?v,?fat,?fwhy⟩
   case a1=>k_is
   case a2=>k_is
   case i1=>k_is
   case h0=>k_is
   case h1=>k_is
   case h2=>k_is
   case h3=>k_is
   case h4=>k_is
   case h5=>k_is
   case h6=>k_is
   case h7=>k_is
   case h8=>k_is
   case h9=>k_is
   case x1=>k_is
   case x3=>k_is
   case x4=>k_is
   case y1=>k_is
   case y3=>k_is
   case y4=>k_is
   case l=>k_is
   case c=>k_is
   case kk=>k_is
   case k1=>k_is
   case k2=>k_is
   case k3=>k_is
   case k4=>k_is
   case k5=>k_is
   case k6=>k_is
   case k7=>k_is
   case k8=>k_is
   case v=>k_is
   case fat=>k_is
   case fwhy=>k_is
   case q1=>kernel_rfl
   case x2=>kernel_rfl
   case y2=>kernel_rfl
   case f=>kernel_rfl
   case q2=>k_exc
   case t=>(show PySem.W.mroIn _ _ _=_; k_is)
   case any=>kit_is
   case own=>kit_is
   case ve=>kit_is
  case x93=>
   refine' Exists.intro _ (_c.gT.mk (_c.Xm.mk (_L.mi.mk ?pg ?hd ?po ?sa) ?n1 ?n2 ?n3 ?n4 ?n5 ?n6 ?n7 ?n8 ?n9) (_L.acy KX G ?aC ?mk ?kc ?ia ?ii ?il ?ic ?ik) (_L.jh ?a0 ?i0 ?l0 ?c0 ?k0) (_L.jh ?a1 ?i1 ?l1 ?c1 ?k1) (_L.jh ?a2 ?i2 ?l2 ?c2 ?k2) (_L.jh ?a3 ?i3 ?l3 ?c3 ?k3) (_L.jh ?a4 ?i4 ?l4 ?c4 ?k4) (_L.jh ?a5 ?i5 ?l5 ?c5 ?k5) (_L.jh ?a6 ?i6 ?l6 ?c6 ?k6) (_L.jh ?a7 ?i7 ?l7 ?c7 ?k7) (_L.jh ?a8 ?i8 ?l8 ?c8 ?k8) (_L.jh ?a9 ?i9 ?l9 ?c9 ?k9) (_L.jh ?a10 ?i10 ?l10 ?c10 ?k10) (_L.jh ?a11 ?i11 ?l11 ?c11 ?k11) (_L.jh ?a12 ?i12 ?l12 ?c12 ?k12) (_L.jh ?a13 ?i13 ?l13 ?c13 ?k13) (_L.jh ?a14 ?i14 ?l14 ?c14 ?k14) (_L.jh ?a15 ?i15 ?l15 ?c15 ?k15) (_L.jh ?a16 ?i16 ?l16 ?c16 ?k16) (_L.jh ?a17 ?i17 ?l17 ?c17 ?k17) (_L.jh ?a18 ?i18 ?l18 ?c18 ?k18))
   (case aC=>k_is)
   case n1 | n2 | n3 | n4 | n5 | n6 | n7 | n8 | n9=>(unfold _L.ka; k_is)
   case pg | hd | po | sa | mk | kc | ia | ii | il | ic | ik | a0 | i0 | l0 | c0 | k0 | a1 | i1 | l1 | c1 | k1 | a2 | i2 | l2 | c2 | k2 | a3 | i3 | l3 | c3 | k3 | a4 | i4 | l4 | c4 | k4 | a5 | i5 | l5 | c5 | k5 | a6 | i6 | l6 | c6 | k6 | a7 | i7 | l7 | c7 | k7 | a8 | i8 | l8 | c8 | k8 | a9 | i9 | l9 | c9 | k9 | a10 | i10 | l10 | c10 | k10 | a11 | i11 | l11 | c11 | k11 | a12 | i12 | l12 | c12 | k12 | a13 | i13 | l13 | c13 | k13 | a14 | i14 | l14 | c14 | k14 | a15 | i15 | l15 | c15 | k15 | a16 | i16 | l16 | c16 | k16 | a17 | i17 | l17 | c17 | k17 | a18 | i18 | l18 | c18 | k18=>k_is
  all_goals (refine' _L.a9L KX G ?a ?l ?c ?k; (case a=>k_is); (case l=>k_is); (case c=>k_is); (case k=>k_is))
#print axioms PySem.Challenge.cw_glidequeue_k48_tapes_let_by_holds
