import PyProof.Rows.All
import Wide.All
import OpenK.AllK
import Wide.FinOn
import Lean
import PyProof.EqAt
import PyProof.EqKinds
import PyProof.TupleCall
import PySem.Challenge.RW_glidequeue_k58_whole_rows_at_two_desks
set_option Elab.async false
set_option linter.all false
set_option maxRecDepth 100000
def PySem.pq9:Nat->Lean.Syntax->Lean.MacroM (Lean.TSyntax `rcasesPat)
|0,_=>Lean.Macro.throwUnsupported
|n+1,s=>do
 if s.isOfKind `ident then let x:Lean.Ident:=⟨s⟩;`(rcasesPat|$x:ident)
 else if s.isOfKind `Lean.Parser.Term.hole then `(rcasesPat|_)
 else
  let as:=if s.isOfKind `Lean.Parser.Term.tuple then #[s[1][0]]++s[1][2].getSepArgs else s[1].getSepArgs
  let ps<-as.mapM (PySem.pq9 n)
  `(rcasesPat|⟨$ps,*⟩)
local macro_rules|`(tactic|erw[$r,*])=>do
 let t:=r.getElems.map λr=>(⟨r.raw[1]⟩:Lean.Term)
 if t.size==1 then `(tactic|refine $(t[0]!)) else `(tactic|refine ⟨$t,*⟩)
local macro_rules|`(tactic|let $p:term:=$t)=>do
 let q<-PySem.pq9 9 p
 `(tactic|obtain $q:rcasesPat:=$t)
local macro_rules|`(#[$a,$b,*])=>`(⟨$a,$b,*⟩)
noncomputable section
local macro_rules|`(command|def $i:declId $s:optDeclSig $v:declVal)=>`(command|noncomputable def $i:declId $s:optDeclSig $v:declVal)
local macro_rules|`(command|abbrev $i:declId $s:optDeclSig $v:declVal)=>`(command|noncomputable abbrev $i:declId $s:optDeclSig $v:declVal)
local macro_rules|`(tactic|trivial)=>`(tactic|first|exact Or.inl rfl|exact Or.inr rfl|exact Or.inr (Or.inl rfl)|exact Or.inr (Or.inr rfl)|assumption|exact fun _=>rfl|exact fun _ _=>rfl)
theorem r8_(h:True:=by rfl):True:=h
theorem q8_(h:True:=by decide):True:=h
theorem d8_(h:True:=by trivial):True:=h
theorem f8_(h:True:=by with_unfolding_all rfl):True:=h
abbrev bN:=PySem.Str->Option PySem.Value
theorem ay{p:Prop}(h:autoParam (p) q8_._auto_1):p:=h
theorem aH{p:Prop}(h:p:=by decide+kernel):p:=h
theorem au {p:Prop} (h:p:=by lia):p:=h
theorem bR{p:Prop}(h:p:=by omega):p:=h
theorem Z {α : Sort _} {a : α}:a=a:=rfl
abbrev aa:=PySem.W.Frag
abbrev ae:=PySem.Shared
abbrev af:=PySem.Program
abbrev ag:=PySem.PyData
abbrev ah:=PySem.Around
abbrev aL:=@PySem.wpAny_bind
abbrev bo:=@if_neg
abbrev bu:=@if_pos
abbrev bJ:=@List.mem_cons
abbrev bM:=@decide_eq_true
abbrev bV:=@Nat.le_refl
abbrev bW:=@List.length_map
abbrev bZ:=@List.not_mem_nil
abbrev cj:=@List.getElem?_map
abbrev ck:=@PySem.Heap.lt_size
abbrev cn:=@PySem.wpAny_pure
abbrev cx:=@PySem.Heap.get?_push_of_some
abbrev cB:=@List.getElem?_eq_getElem
abbrev cD:=@decide_eq_false
abbrev cE:=@List.mem_singleton
abbrev cG:=@or_false
abbrev dc:=@PySem.intBits_le_64
abbrev dB:=@List.mem_map
abbrev dC:=@PySem.strLen_append
abbrev dQ:=@Option.some.inj
abbrev dR:=@Bool.false_ne_true
abbrev dY:=@Nat.ne_of_lt
abbrev dZ:=@List.getElem?_eq_some_iff
abbrev eg:=@Int.le_refl
abbrev eM:=@Rat.le_trans
abbrev eO:=@List.size_toArray
abbrev eP:=@PySem.Heap.get?_push_size
abbrev eX:=@Bool.and_eq_true
abbrev fH:=@List.length_append
abbrev fV:=@beq_iff_eq
abbrev gf:=@List.mem_of_getElem?
abbrev gp:=@PyProof.Rows.boot_str
abbrev gq:=@List.length_cons
abbrev gC:=@Int.pow_succ
abbrev gM:=@Nat.zero_le
abbrev gO:=@Nat.lt_of_lt_of_le
abbrev gP:=@List.all_eq_true
abbrev hZ:=@Int.natAbs_mul
abbrev iE:=@PySem.wpAny_field
abbrev iG:=@Int.mul_nonneg
abbrev j6:=@PyProof.Rows.boot_tuple
abbrev j7:=@Nat.le_trans
abbrev j8:=@Int.mul_pos
abbrev ji:=@PySem.wpAny_mono
abbrev jj:=@List.mem_append
abbrev jk:=@PySem.IntMulOk.of_bits
abbrev jl:=@Bool.true_and
abbrev jm:=@Bool.false_and
abbrev jI:=@PySem.PassesOwn.never
abbrev jJ:=@Ne.symm
abbrev jY:=@of_decide_eq_true
abbrev jZ:=@congrArg
abbrev ka:=@List.lookup_cons
abbrev kb:=@Bool.eq_iff_iff
abbrev kG:=@List.mem_append_right
abbrev kH:=@List.map_cons
abbrev m6:=@PySem.wpAny_holding
abbrev m7:=@Int.one_mul
abbrev nG:=@PySem.wpAny_truthy_bool
abbrev nH:=@PySem.wpAny_newObj_type
abbrev nJ:=@Int.pow_zero
abbrev oJ:=@List.mem_filterMap
abbrev oK:=@List.map_append
abbrev qj:=@PySem.Str.cps_append
abbrev qk:=@Nat.mul_le_mul
abbrev qo:=@List.append_nil
abbrev qp:=@List.any_cons
abbrev qq:=@Array.toList_append
abbrev rZ:=@PySem.wpAny_seqItems
abbrev sf:=@Rat.num_divInt_den
abbrev si:=@Rat.le_refl
abbrev sj:=@PyProof.Rows.boot_int
abbrev sA:=@PyProof.Rows.boot_abs
abbrev sD:=@List.take_succ
abbrev sE:=@Int.mul_le_mul
abbrev sF:=@Int.mul_assoc
abbrev sG:=@Int.emod_nonneg
abbrev uX:=@PySem.sizeLine_eq
abbrev uY:=@PySem.codeAny_mono
abbrev uZ:=@Nat.pow_le_pow_right
abbrev vb:=@Nat.lt_irrefl
abbrev vc:=@List.take_of_length_le
abbrev vd:=@List.mem_iff_getElem?
abbrev ve:=@List.length_take
abbrev vf:=@List.getElem?_eq_none
abbrev vg:=@List.getElem?_append_left
abbrev vh:=@Int.mul_comm
abbrev vi:=@Int.emod_lt_of_pos
abbrev vj:=@PySem.Heap.size_push
abbrev xu:=@PySem.wpAny_setField
abbrev xy:=@PySem.wpAny_pyIter_list
abbrev xA:=@PySem.wpAny_passesOwn
abbrev xB:=@PySem.wpAny_of_eq
abbrev xC:=@PyProof.Rows.assignInOrder_cons
abbrev xD:=@Rat.divInt_nonneg_iff_of_pos_right
abbrev xE:=@PySem.W.mg_of
abbrev xF:=@PySem.W.callWith_K
abbrev xG:=@Nat.lt_trans
abbrev xH:=@List.of_mem_zip
abbrev xI:=@List.mem_of_mem_take
abbrev xJ:=@List.mem_cons_of_mem
abbrev xK:=@List.length_singleton
abbrev xM:=@List.length_set
abbrev xN:=@List.getElem_mem
abbrev xO:=@List.getElem?_append_right
abbrev xP:=@List.all_cons
abbrev A4:=@PySem.wpAny_standAt
abbrev A5:=@PySem.wpAny_setField_rec
abbrev A6:=@PySem.wpAny_rule
abbrev A7:=@PySem.wpAny_call_entry
abbrev A8:=@PySem.wpAny_callSpecial?_slot
abbrev A9:=@PySem.wpAny_Call_Name_kw
abbrev Aa:=@decide_eq_true_eq
abbrev Ab:=@PySem.call_meets
abbrev Ac:=@PySem.StrLaws.glued_eq_join
abbrev Ad:=@PyProof.Rows.boot_all
abbrev Ae:=@PySem.Obj.data_mapFields
abbrev Af:=@Nat.lt_of_le_of_lt
abbrev Ag:=@List.take_length
abbrev Ah:=@List.getElem?_zip_eq_some
abbrev Ai:=@List.find?_cons
abbrev Aj:=@Int.zero_mul
abbrev Ak:=@Int.mul_one
abbrev Al:=@Int.mul_le_mul_of_nonneg_right
abbrev Am:=@Int.mul_le_mul_of_nonneg_left
abbrev An:=@PySem.Heap.get?_update_other
abbrev Ao:=@Bool.and_true
abbrev Ap:=@Array.length_toList
abbrev DE:=@PySem.wpAny_execs_nil
abbrev DF:=@beq_eq_false_iff_ne
abbrev DG:=@Rat.not_lt
abbrev DH:=@PySem.mem_of_lookup
abbrev DI:=@PySem.W.methodCall_KW
abbrev DJ:=@PyProof.Rows.callWith_type1
abbrev DK:=@Option.map_eq_some_iff
abbrev DL:=@Nat.sub_self
abbrev DM:=@List.mem_cons_self
abbrev DN:=@List.map_map
abbrev DP:=@List.length_pos_iff
abbrev DQ:=@List.getElem_range
abbrev DR:=@List.ext_getElem?
abbrev DS:=@PySem.Heap.get?_update_self
abbrev DT:=@PySem.Heap.SameBut.update
abbrev DU:=@Bool.eq_false_iff
abbrev Lm:=@PySem.wpAny_specialOf
abbrev Lo:=@PySem.wpAny_execs_cons
abbrev Lp:=@decide_eq_true_iff
abbrev Lq:=@beq_self_eq_true
abbrev Lr:=@PyProof.Rows.assignInOrder_nil
abbrev Ls:=@PySem.Str.empty_append
abbrev Lu:=@Std.lt_of_le_of_ne
abbrev Lv:=@Rat.num_nonneg
abbrev Lx:=@Rat.le_antisymm
abbrev Ly:=@PySem.W.hideAll_get
abbrev Lz:=@PySem.W.cellsFrom_some
abbrev LA:=@PySem.Str.append_assoc
abbrev LB:=@PySem.F.slot_zip_next
abbrev LC:=@PySem.F.slot_tuple_iterator_next
abbrev LD:=@PySem.F.excBase_ValueError
abbrev LF:=@PyProof.Rows.boot_max
abbrev LG:=@PySem.Obj.isFreed_of_fields
abbrev LH:=@Nat.ne_of_gt
abbrev LI:=@Nat.lt_succ_of_lt
abbrev LJ:=@Nat.le_of_ble_eq_true
abbrev LK:=@List.nodup_cons
abbrev LL:=@List.mem_append_left
abbrev LM:=@List.forIn_cons
abbrev LN:=@List.all_nil
abbrev LO:=@Int.toNat_natCast
abbrev LP:=@Int.mul_ne_zero
abbrev LQ:=@Int.lt_or_le
abbrev LR:=@Int.le_of_lt
abbrev LS:=@Array.getElem?_eq_some_iff
abbrev Vu:=@PySem.wpAny_updateSeq_pair
abbrev Vv:=@PySem.wpAny_pyIter_rangeiter
abbrev Vw:=@PySem.wpAny_newFunctionEnv_cells
abbrev Vx:=@of_decide_eq_false
abbrev Vy:=@ne_true_of_eq_false
abbrev Vz:=@PySem.codeAny_call_function
abbrev VA:=@Rat.intCast_lt_intCast
abbrev VB:=@Rat.divInt_sub_divInt
abbrev VC:=@PySem.W.plainGet_of
abbrev VD:=@PySem.W.codeRec_of
abbrev VE:=@PySem.F.slot_tuple_add
abbrev VF:=@PySem.F.plainAttrs_str
abbrev VG:=@PySem.F.entry_tuple_add
abbrev VH:=@PySem.F.args_tuple_add_2
abbrev VI:=@PyProof.Rows.slot_tuple_getitem
abbrev VJ:=@PyProof.Rows.boot_list
abbrev VL:=@PyProof.Rows.boot_any
abbrev VM:=@Nat.mul_le_mul_right
abbrev VN:=@List.mem_iff_getElem
abbrev VO:=@List.length_drop
abbrev VP:=@List.getLastD_eq_getLast?
abbrev VQ:=@List.getLast?_eq_some_getLast
abbrev VR:=@List.getElem_set_self
abbrev VS:=@List.getElem?_zipWith
abbrev VT:=@List.foldl_append
abbrev VU:=@List.filterMap_cons
abbrev VW:=@List.any_eq_true
abbrev VX:=@Int.mul_nonneg_of_nonpos_of_nonpos
abbrev VY:=@Int.lt_trichotomy
abbrev VZ:=@PySem.F.slot_range_reversed
abbrev W0:=@Array.all_eq_true_iff_forall_mem
abbrev adK:=@PySem.F.entry_tuple_iterator_next
abbrev adL:=@PySem.F.args_tuple_iterator_next_1
namespace _L
open PySem PySem.Spec PyProof.Rows
abbrev Key:=Sum Int Str
def wD:Key->Value->Bool | .inl k,v=>Value.isInt k v | .inr x,v=>Value.isStrOf x v
def a4s(w:World):Key->Int | .inl k=>hashInt k | .inr x=>hashStr w x
theorem pq:∀{k:Key}{v:Value},wD k v=true->(∃i t,k=Sum.inl i/\v=Value.int i t)\/(∃x t,k=Sum.inr x/\v=Value.str x t) | .inl i,v,h=>by let(t,e):=Value.isInt_shape (k:=i) (v:=v) h;erw[.inl #[i,t,Z,e]] | .inr x,v,h=>by let(t,e):=Value.isStrOf_shape (x:=x) (v:=v) h;erw[.inr #[x,t,Z,e]]
theorem a4r(i:Int)(t:Tok):wD (.inl i) (.int i t)=true:=by simp[wD,Value.isInt]
theorem a4q(x:Str)(t:Tok):wD (.inr x) (.str x t)=true:=by simp[wD,Value.isStrOf]
theorem a4p(a b:Int):decide ((Sum.inl a:Key)=Sum.inl b)=(a==b):=by
 by_cases e:a=b
 ·subst e;simp
 ·have h:¬(Sum.inl a:Key)=Sum.inl b:=λq=>e (Sum.inl.inj q)
  rw[cD h];exact(DF.mpr e).symm
theorem a4m(a b:Str):decide ((Sum.inr a:Key)=Sum.inr b)=decide (a=b):=by
 by_cases e:a=b
 ·subst e;simp
 ·have h:¬(Sum.inr a:Key)=Sum.inr b:=λq=>e (Sum.inr.inj q)
  rw[cD h,cD e]
theorem a4o(a:Int)(b:Str):decide ((Sum.inl a:Key)=Sum.inr b)=false:=cD (λq=>nomatch q)
theorem a4n(a:Str)(b:Int):decide ((Sum.inr a:Key)=Sum.inl b)=false:=cD (λq=>nomatch q)
def jv(prog:af)(w:World):PySem.KeyKind prog w Key where
 is:=wD
 hash:=a4s w
 inj:=λv a b ha hb=>by
  rcases pq ha with⟨i,t,rfl,rfl⟩|⟨x,t,rfl,rfl⟩
  ·rcases pq hb with⟨j,u,rfl,e⟩|⟨y,u,rfl,e⟩
   ·injection e with e1 _;rw[e1]
   ·erw[nomatch e]
  ·rcases pq hb with⟨j,u,rfl,e⟩|⟨y,u,rfl,e⟩
   ·erw[nomatch e]
   ·injection e with e1 _;rw[e1]
 byValue:=λk v h=>by rcases pq h with⟨i,t,rfl,rfl⟩|⟨x,t,rfl,rfl⟩<;>rfl
 pyHash:=λhv h=>by
  rcases pq hv with⟨i,t,rfl,rfl⟩|⟨x,t,rfl,rfl⟩
  ·erw[wpAny_pyHash_int h]
  ·erw[wpAny_pyHash_str h]
 eqBool:=λhu hv h=>by
  rcases pq hu with⟨i,t,rfl,rfl⟩|⟨x,t,rfl,rfl⟩
  ·rcases pq hv with⟨j,u,rfl,rfl⟩|⟨y,u,rfl,rfl⟩
   ·rw[a4p]at h;erw[wpAny_eqBool_int h]
   ·rw[a4o]at h;erw[SeqAt.EqAt.int_str i t y u _ _ _ _ h]
  ·rcases pq hv with⟨j,u,rfl,rfl⟩|⟨y,u,rfl,rfl⟩
   ·rw[a4n]at h;erw[SeqAt.EqAt.str_int x t j u _ _ _ _ h]
   ·rw[a4m]at h;erw[wpAny_eqBool_str h]
 «strs»:=λk x t v h=>by
  rcases pq h with⟨i,u,rfl,e⟩|⟨y,u,rfl,e⟩
  ·erw[nomatch e]
  ·injection e with e1 _
   subst e1;cases v<;>rfl
theorem a3m(prog:af)(w:World)(i:Int)(t:Tok):(jv prog w).is (.inl i) (.int i t)=true:=a4r i t
theorem a3l(prog:af)(w:World)(x:Str)(t:Tok):(jv prog w).is (.inr x) (.str x t)=true:=a4q x t
inductive V where |bD|bl (b:Bool)|int (i:Int)|str (x:Str)|kB (b:Array UInt8)|CI (b:UInt64)|ref (a:Addr)|ty (n:String) deriving DecidableEq
def RelV:V->Value->Prop | .bD,u=>u=Value.none | .bl b,u=>u=Value.bool b | .int i,u=>∃t,u=Value.int i t | .str x,u=>∃t,u=Value.str x t | .kB b,u=>∃t,u=Value.bytes b t | .CI b,u=>∃t,u=Value.float b t | .ref a,u=>u=Value.ref a | .ty n,u=>u=Value.type n
abbrev Vals:List V->List Value->Prop:=Paired RelV
theorem Vals.length{xs:List V}{us:List Value}(r:Vals xs us):xs.length=us.length:=Paired.length r
theorem Vals.get:∀{xs:List V}{us:List Value}{i:Nat}{x:V},Vals xs us->xs[i]? =some x->∃u,us[i]? =some u/\RelV x u |_,_,_,_,.nil,e=>by simp at e |_,_,0,_,.cons r _,e=>by simp at e;subst e;erw[_,rfl,r] |_,_,i+1,x,.cons _ t,e=>by let(u,h1,h2):=Vals.get (i:=i) (x:=x) t (by simpa using e);erw[u,by simpa using h1,h2]
theorem Vals.set{x:V}{u:Value}(r:RelV x u):∀{xs:List V}{us:List Value}(i:Nat),Vals xs us->Vals (xs.set i x) (us.set i u) |_,_,_,.nil=>.nil |_,_,0,.cons _ t=>.cons r t |_,_,i+1,.cons q t=>.cons q (Vals.set r i t)
theorem Vals.append:∀{xs ys:List V}{us ws:List Value},Vals xs us->Vals ys ws->Vals (xs++ys) (us++ws) |_,_,_,_,.nil,s=>s |_,_,_,_,.cons r t,s=>.cons r (Vals.append t s)
theorem Vals.take:∀{xs:List V}{us:List Value}(n:Nat),Vals xs us->Vals (xs.take n) (us.take n) |_,_,0,_=>.nil |_,_,_+1,.nil=>.nil |_,_,n+1,.cons r t=>.cons r (Vals.take n t)
theorem Vals.drop:∀{xs:List V}{us:List Value}(n:Nat),Vals xs us->Vals (xs.drop n) (us.drop n) |_,_,0,r=>r |_,_,_+1,.nil=>.nil |_,_,n+1,.cons _ t=>Vals.drop n t
def jF:Option V->Option Value->Prop |some v,some u=>RelV v u |none,none=>True |_,_=>False
def KV{κ:Type}:List (κ×V)->List (κ×Value)->Prop:=Paired λ(p:κ×V)(q:κ×Value)=>p.1=q.1/\RelV p.2 q.2
def kV:Key->V | .inl i=>.int i | .inr x=>.str x
inductive HO where /--a list -/ |lst (xs:List V) /--a tuple (never changes) -/ |tup (xs:List V) /--a dict Wf keys are ints and texts; one Wf keys are tuples of ints and texts (vv empty one is both) -/ |dK (aO:List (Key×V))|dT (aO:List (List Key×V)) /--a set of ints: its members,its size -/ |set (S:Int->Bool)(n:Nat) /--an instance of vv class at C,its dict at dx,its attributes -/ |ins (C dx:Addr)(fs:List (Str×V)) /--vv dict of vv instance at x -/ |own (x:Addr) /--vv dict of an exception -/ |xd (fs:List (Str×V)) /--a bound method,f of x -/ |met (f x:Addr) /--a range object lo,lo+1,.. below hi -/ |tE (lo hi:Int) /--a X1 adS is known to vv object (vv adY; a dict while a loop walks it): read,never written while it is so -/ |mY (o:Obj)(u:HO) /--a code ae5 table -/ |oN (ps:Array Value) /--any other X1,by what is true of its one object (a def of ae3 own: aeX a S n:=HO.ext λh=>..) -/ |ext (φ:Heap->Prop)
abbrev Hp:=Addr->Option HO
def upd(H:Hp)(a:Addr)(o:HO):Hp:=λb=>if b=a then some o else H b
theorem bQ{H:Hp}{a:Addr}{o:HO}:upd H a o a=some o:=by unfold upd;rw[bu rfl]
theorem aU{H:Hp}{a b:Addr}{o:HO}(h:b≠a):upd H a o b=H b:=by unfold upd;rw[bo h]
theorem E5{H:Hp}{a:Addr}{o u:HO}:upd (upd H a o) a u=upd H a u:=by funext b;unfold upd;split<;>rfl
theorem iM{H:Hp}{a b:Addr}{o u:HO}(h:H a=some o)(h':H b=some u)(d:o≠u):a≠b:=by intro e;subst e;rw[h]at h';erw[d (dQ h')]
theorem iL{H:Hp}{a b:Addr}{o:HO}(h:H a=some o)(h':H b=none):a≠b:=by intro e;subst e;rw[h]at h';cases h'
section
variable (P:af) (w:World)
def fU(H:Hp)(h:Heap)(a:Addr):HO->Prop | .lst xs=>xs.length<=sizeLine/\∃(its:List Value)(n:Nat),Vals xs its/\h.get? a=some {cls:=.type "list",data:=.seq its.toArray n} | .tup xs=>xs.length<=sizeLine/\∃its:List Value,Vals xs its/\IsTup h a its.toArray | .dK aO=>aO.length<=sizeLine/\(a==sysModules)=false/\∃vs,KV aO vs/\h.DictOf (jv P w) a vs | .dT aO=>aO.length<=sizeLine/\(a==sysModules)=false/\∃xs:List (List Key×Addr×Value),Paired (λ(p:List Key×V)(q:List Key×Addr×Value)=>p.1=q.1/\H q.2.1=some (.tup (p.1.map kV))/\RelV p.2 q.2.2) aO xs/\∃o es ep,h.get? a=some o/\o.ExactDict/\o.data= .dict es ep/\es.toList=xs.map (entryOfKey (tupleKind (jv P w)))/\(xs.map (·.1)).Nodup | .set S n=>h.SetOf (intKind P w) a S n | .ins C dx fs=>H dx=some (.own a)/\fs.length<=1000/\dx≠a/\h.get? a=some (PySem.W.instObj C dx)/\∃mA,h.Ns1 dx mA/\(∀f,jF (fs.lookup f) (mA f))/\PySem.Within mA (fs.map (·.1)) | .own _=>∃o,h.get? a=some o | .xd fs=>∃mA,h.Ns1 a mA/\∀f,jF (fs.lookup f) (mA f) | .tE lo hi=>∃t u v,h.get? a=some {cls:=.type "range",data:=.fields (List.toArray [.int lo t,.int hi u,.int 1 v])} | .mY o u=>h.get? a=some o/\fU H h a u | .oN ps=>h.get? a=some {cls:=.none,data:=.fields ps} | .met f x=>h.get? a=some (PySem.W.methodObj (.ref f) (.ref x)) | .ext φ=>φ h/\(∃o,h.get? a=some o)/\∀h1 h2:Heap,φ h1->(∀o,h1.get? a=some o->h2.get? a=some o)->φ h2
def dP(H:Hp)(h:Heap):Prop:=∀a o,H a=some o->fU P w H h a o
end
section
variable {P:af}{w:World}{H H':Hp}{h h':Heap}{a:Addr}{o:HO}
theorem fU.lt(x:fU P w H h a o):a<h.objs.size:=by cases o with |lst xs=>let(_,_,_,_,e):=x;erw[ck e] |tup xs=>let(_,_,_,p):=x;erw[p.lt] |dK aO=>let(_,_,_,_,o,_,_,e,_):=x;erw[ck e] |dT aO=>let(_,_,_,_,o,_,_,e,_):=x;erw[ck e] |set S n=>let(o,_,_,_,e,_):=x;erw[ck e] |ins C dx fs=>let(_,_,_,e,_):=x;erw[ck e] |own y=>let(_,e):=x;erw[ck e] |xd fs=>let(_,(_,_,_,e,_),_):=x;erw[ck e] |tE lo hi=>let(_,_,_,e):=x;erw[ck e] |mY ob u=>let(e,_):=x;erw[ck e] |oN ps=>erw[ck (show h.get? a=some _ from x)] |met f y=>erw[ck (show h.get? a=some _ from x)] |ext φ=>let(_,(_,e),_):=x;erw[ck e]
theorem Paired.Iv{α β:Type}{F G:α->β->Prop}:∀{l₁:List α}{l₂:List β},Paired F l₁ l₂->(∀a b,F a b->G a b)->Paired G l₁ l₂ |_,_,.nil,_=>.nil |_,_,.cons r t,f=>.cons (f _ _ r) (Paired.Iv t f)
theorem fU.oQ(x:fU P w H h a o)(k:∀b u,(b=a\/H b=some (.own a))->h.get? b=some u->h'.get? b=some u) (ho:∀b,H b=some (.own a)->H' b=some (.own a))(ht:∀b xs,H b=some (.tup xs)->H' b=some (.tup xs)):fU P w H' h' a o:=by induction o with |lst xs=>let(z,its,n,r,e):=x;erw[z,its,n,r,k _ _ (.inl Z) e] |tup xs=>let(z,its,r,ob,e,c):=x;erw[z,its,r,ob,k _ _ (.inl Z) e,c] |dK aO=>let(z,y,vs,r,ob,es,ep,e,c):=x;erw[z,y,vs,r,ob,es,ep,k _ _ (.inl Z) e,c] |dT aO=>let(z,y,xs,r,ob,es,ep,e,c):=x;erw[z,y,xs,Paired.Iv r λp q z=>#[z.1,ht _ _ z.2.1,z.2.2],ob,es,ep,k _ _ (.inl Z) e,c] |set S n=>let(ob,es,ep,t,e,c):=x;erw[ob,es,ep,t,k _ _ (.inl Z) e,c] |ins C dx fs=>let(d,z,ne,e,mA,(od,es,ep,e2,c),r):=x;erw[ho _ d,z,ne,k _ _ (.inl Z) e,mA,#[od,es,ep,k _ _ (.inr d) e2,c],r] |own y=>let(ob,e):=x;erw[ob,k _ _ (.inl Z) e] |xd fs=>let(mA,(od,es,ep,e,c),r):=x;erw[mA,#[od,es,ep,k _ _ (.inl Z) e,c],r] |tE lo hi=>let(t,u,v,e):=x;erw[t,u,v,k _ _ (.inl Z) e] |mY ob u ih=>let(e,q):=x;erw[k _ _ (.inl Z) e,ih q] |oN ps=>have e:h.get? a=some {cls:=.none,data:=.fields ps}:=x;show h'.get? a=some {cls:=.none,data:=.fields ps};erw[k a _ (.inl Z) e] |met f y=>have e:h.get? a=some (PySem.W.methodObj (.ref f) (.ref y)):=x;show h'.get? a=some (PySem.W.methodObj (.ref f) (.ref y));erw[k a _ (.inl Z) e] |ext φ=>let(p,(o,e),st):=x;erw[st _ _ p λo q=>k _ _ (.inl Z) q,#[o,k _ _ (.inl Z) e],st]
theorem dP.lt(x:dP P w H h)(e:H a=some o):a<h.objs.size:=(x a o e).lt
theorem dP.fresh(x:dP P w H h)(e:h.objs.size<=a):H a=none:=by cases q:H a with |none=>rfl |some u=>erw[absurd (gO (x.lt q) e) (vb _)]
theorem dP.kept(x:dP P w H h)(k:∀b u,h.get? b=some u->h'.get? b=some u):dP P w H h':=λa o e=>(x a o e).oQ (λb u _ q=>k b u q) (λ_ q=>q) λ_ _ q=>q
theorem dP.laid(x:dP P w H h)(k:∀b u,h.get? b=some u->h'.get? b=some u)(hp:h.objs.size<=a)(new:fU P w (upd H a o) h' a o):dP P w (upd H a o) h':=λb u e=>by
 have hn:=x.fresh hp;by_cases hb:b=a
 ·subst hb;rw[bQ]at e;cases e;erw[new]
 ·rw[aU hb]at e
  exact(x b u e).oQ (λc v _ q=>k c v q) (λc q=>by rw[aU (iL q hn)];erw[q]) λc xs q=>by rw[aU (iL q hn)];erw[q]
end
def Rd(H:Hp)(a:Addr)(u:HO):Prop:=H a=some u\/∃o,H a=some (.mY o u)
theorem Rd.ok{P:af}{w:World}{H:Hp}{h:Heap}{a:Addr}{u:HO}(r:Rd H a u)(x:dP P w H h):fU P w H h a u:=by
 rcases r with r|⟨o,r⟩
 ·erw[x a u r]
 ·let(_,q):=x a _ r
  erw[q]
def zZ:Option HO->Prop |some (.lst _)=>True |some (.dK _)=>True |some (.dT _)=>True |some (.set _ _)=>True |some (.ins _ _ _)=>True |some (.ext _)=>True |_=>False
section
variable {P:af}{w:World}{H:Hp}{h h':Heap}{x e:Addr}{o':HO}
theorem dP.write(ok:dP P w H h)(mu:zZ (H x))(he:e=x\/H e=some (.own x))(k:∀b u,b≠e->h.get? b=some u->h'.get? b=some u)(wN:∃u,h'.get? e=some u) (new:fU P w (upd H x o') h' x o'):dP P w (upd H x o') h':=λb u q=>by
 have QI:∀c y,H c=some (.own y)->c≠x:=λc y r z=>by subst z;rw[r]at mu;erw[mu]
 have a2z:∀c xs,H c=some (.tup xs)->c≠x:=λc xs r z=>by subst z;rw[r]at mu;erw[mu]
 by_cases hb:b=x
 ·subst hb;rw[bQ]at q;cases q;erw[new]
 ·rw[aU hb]at q
  by_cases uo:b=e
  ·have q':H b=some (.own x):=by
    rcases he with z|z
    ·erw[absurd (uo.trans z) hb]
    ·rw[uo];erw[z]
   rw[q]at q';cases q';let(v,hv):=wN;erw[v,by rw[uo];erw[hv]]
  ·refine(ok b u q).oQ (λc v hc r=>k c v ?_ r) (λc r=>by rw[aU (QI c b r)];erw[r]) λc xs r=>by rw[aU (a2z c xs r)];erw[r]
   rcases hc with rfl|hc
   ·erw[uo]
   ·rintro rfl
    rcases he with z|z
    ·erw[QI c b hc z]
    ·rw[hc]at z;cases z;erw[hb rfl]
end
structure Un(fs ex:List Addr)(H H':Hp)(h h':Heap):Prop where
 keep:∀b o,h.get? b=some o->H b=none->b∉fs->b∉ex->h'.get? b=some o
 slot:∀b o,h.get? b=some o->H b=none->b∈fs->b∉ex->∃sl,h'.get? b=some {o with slots:=sl}
 free:∀b o,h.get? b=some o->H b=none->b∉ex->H' b=none
 there:∀b o,h.get? b=some o->b∉ex->∃o',h'.get? b=some o'
 kJ:∀b xs,H b=some (.tup xs)->H' b=some (.tup xs)
 kz:∀b o u,H b=some (.mY o u)->H' b=some (.mY o u)
 kK:∀b ps,H b=some (.oN ps)->∃more,H' b=some (.oN (ps++more))
section
variable {fs ow ex gz:List Addr}{H H1 H2:Hp}{h h1 h2 h':Heap}{a x e:Addr}{o:HO}
theorem Un.any(u:Un fs ex H H1 h h1){b:Addr}{ob:Obj}(q:h.get? b=some ob)(n:H b=none)(hx:b∉ex):∃sl,h1.get? b=some {ob with slots:=sl}:=by
 by_cases hb:b∈fs
 ·erw[u.slot b ob q n hb hx]
 ·erw[ob.slots,u.keep b ob q n hb hx]
theorem Un.kept(k:∀b u,h.get? b=some u->h'.get? b=some u):Un fs ex H H h h':=#[λb ob q _ _ _=>k b ob q,λb ob q _ _ _=>#[ob.slots,k b ob q],λ_ _ _ n _=>n,λb ob q _=>#[ob,k b ob q],λ_ _ q=>q,λ_ _ _ q=>q,λ_ ps q=>#[#[],by rw[q];simp]]
theorem Un.refl:Un fs ex H H h h:=Un.kept λ_ _ q=>q
theorem Un.laid(k:∀b u,h.get? b=some u->h'.get? b=some u)(hp:h.objs.size<=a)(hn:H a=none):Un fs ex H (upd H a o) h h' where
 keep:=λb u q _ _ _=>k b u q
 slot:=λb u q _ _ _=>#[u.slots,k b u q]
 free:=λb u q n _=>by rw[aU (dY (gO (ck q) hp))];erw[n]
 there:=λb u q _=>#[u,k b u q]
 kJ:=λb xs q=>by rw[aU (iL q hn)];erw[q]
 kz:=λb u xs q=>by rw[aU (iL q hn)];erw[q]
 kK:=λb ps q=>#[#[],by rw[aU (iL q hn),q];simp]
theorem Un.write(mu:zZ (H x))(he:e=x\/H e=some (.own x))(k:∀b u,b≠e->h.get? b=some u->h'.get? b=some u)(wN:∃u,h'.get? e=some u):Un fs ex H (upd H x o) h h':=by
 have hx:∀b,H b=none->b≠x:=λb n z=>by subst z;rw[n]at mu;erw[mu]
 have hb:∀b,H b=none->b≠e:=λb n z=>by
  subst z;rcases he with r|r
  ·erw[hx b n r]
  ·rw[n]at r;cases r
 have hm:∀b u,H b=some u->¬zZ (some u)->b≠x:=λb u q nm z=>by subst z;rw[q]at mu;erw[nm mu]
 erw[λb u q n _ _=>k b u (hb b n) q,λb u q n _ _=>#[u.slots,k b u (hb b n) q],λb u q n _=>by rw[aU (hx b n)];erw[n],λb u q _=>?_,λb xs q=>by rw[aU (hm b _ q λz=>z)];erw[q],λb u xs q=>by rw[aU (hm b _ q λz=>z)];erw[q],λb ps q=>#[#[],by rw[aU (hm b _ q λz=>z),q];simp]];by_cases uo:b=e
 ·subst uo;erw[wN]
 ·erw[u,k b u uo q]
end
def AJ(h:Heap)(H:Hp):List Addr:=(List.range h.objs.size).filter λa=>(H a).isSome
def pH(h:Heap)(H:Hp):Heap:=PySem.W.hideAll h (AJ h H)
theorem a5Y(h:Heap)(H:Hp):(pH h H).objs.size=h.objs.size:=PySem.W.hideAll_size _ _
theorem a5Z{h:Heap}{H:Hp}{b:Addr}{o:Obj}(e:h.get? b=some o)(n:H b=none):(pH h H).get? b=some o:=Ly _ e λhm=>by have q:(H b).isSome=true:=(List.mem_filter.mp hm).2;rw[n]at q;simp at q
theorem a2r{h:Heap}{H:Hp}{b:Addr}{o:Obj}(e:(pH h H).get? b=some o):h.get? b=some o/\H b=none:=by have e':h.get? b=some o:=PySem.W.of_hideAll (AJ h H) e;erw[e',?_];cases q:H b with |none=>rfl |some x=>have hm:b∈AJ h H:=List.mem_filter.mpr #[List.mem_range.mpr (ck e'),by simp[q]];have z:(pH h H).get? b=none:=PySem.W.hideAll_none (AJ h H) hm;rw[z]at e;cases e
structure Mod(K:aa)(mg:bN)(aw:Heap):Prop where
 lL:K.In aw
 glob:aw.Ns mainGlobals mg
 blt:∃mb,aw.Ns builtinsNs mb/\∀x:Str,x≠"__name__"->mb x=bootBuiltins x
 nolimit:aw.NoLimit
structure Cx where
 prog:af
 w:World
 K:aa
 mg:bN
 aw:Heap
 A:ah
 N:List Str
 s₀:ae
 H₀:Hp
 env:Env
 outer:List Env
 stack:List Env
 ex:List Addr
 fn:Str->Bool
 calm:Bool
 pn:List (Addr×Obj)
 xe:Value->ae->Prop
def eZ(l:List Env):List Addr:=l.filterMap (·.frame)
abbrev Cx.fs(X:Cx):List Addr:=eZ X.outer
def zW(sc:Scope)(x:Str):Prop:=sc.names.lookup x=some .local\/sc.names.lookup x=some .cell\/sc.names.lookup x=some .free
def Loc(sc:Scope)(x:Str):Prop:=sc.names.lookup x=some .local\/sc.names.lookup x=some .cell
def Look(env:Env)(h:Heap)(m:bN)(x:Str)(u:Value):Prop:=(env.kindOf x=some .local/\m x=some u)\/((env.kindOf x=some .cell\/env.kindOf x=some .free)/\∃c,env.cells.lookup x=some c/\h.IsCell c (some u))
structure Cx.Ok(X:Cx):Prop where
 mod:Mod X.K X.mg X.aw
 kind:X.env.scope.kind= .function
 glob:X.env.globals=mainGlobals
 blt:X.env.builtins=builtinsNs
 above:X.s₀.heap.objs.size<=X.env.locals
 inj:∀x y c,X.env.cells.lookup x=some c->X.env.cells.lookup y=some c->x=y
 has:∀x,(X.env.kindOf x=some .cell\/X.env.kindOf x=some .free)->∃c,X.env.cells.lookup x=some c
 rK:∀x c,X.fn x=true->X.env.cells.lookup x=some c->X.s₀.heap.objs.size<=c
 hd:X.calm=true->X.A.handled=none
 frames:X.A.frames=some X.stack
 sQ:X.stack=X.outer\/(X.stack=X.env::X.outer/\X.env.frame=some X.env.locals)
 zD:∀b∈X.ex,b≠X.env.locals/\∀x c,X.env.cells.lookup x=some c->c≠b
 bs:∀b o,X.aw.get? b=some o->X.s₀.heap.get? b=some o/\X.H₀ b=none
 kW:X.aw.objs.size<=X.s₀.heap.objs.size
 qL:∀b o,X.aw.get? b=some o->b∉X.ex
 pO:∀b∈X.ex,b∉X.fs
 jy:X.s₀.heap.FunFrames X.aw X.outer
 mZ:∀b∈X.fs,X.H₀ b=none
structure Inv(X:Cx)(ak:List (Addr×Obj))(O:List (Option V))(H:Hp)(s:ae):Prop where
 ok:X.Ok
 os:s.os=X.s₀.os
 bare:AllBare s.gens
 aw:Un X.fs X.ex X.H₀ H X.s₀.heap s.heap
 loc:∃m,s.heap.Ns X.env.locals m/\∀(i:Nat)(x:Str)(v:V),X.N[i]? =some x->O[i]? =some (some v)->zW X.env.scope x->∃u,RelV v u/\Look X.env s.heap m x u
 cell:∀x c,X.env.cells.lookup x=some c->∃v,s.heap.IsCell c v
 free:H X.env.locals=none
 kA:∀x c,X.env.cells.lookup x=some c->H c=none
 pin:∀p∈X.pn++ak,s.heap.get? p.1=some p.2/\H p.1=none/\p.1≠X.env.locals/\p.1∉X.fs/\∀v,p.2.data≠ .cell v
 bA:dP X.prog X.w H s.heap
 len:O.length=X.N.length
section
variable {X:Cx}{ak:List (Addr×Obj)}{O:List (Option V)}{H H':Hp}{s:ae}{h':Heap}
theorem Cx.Ok.a2T(ok:X.Ok){b:Addr}{o:Obj}(e:X.aw.get? b=some o):b∉X.fs:=λhb=>by have:=(ok.jy.mem hb).1;rw[e]at this;cases this
theorem Inv.bs(I:Inv X ak O H s):∀b o,X.aw.get? b=some o->s.heap.get? b=some o/\H b=none:=λb o e=>#[I.aw.keep b o (I.ok.bs b o e).1 (I.ok.bs b o e).2 (I.ok.a2T e) (I.ok.qL b o e),I.aw.free b o (I.ok.bs b o e).1 (I.ok.bs b o e).2 (I.ok.qL b o e)]
theorem Inv.bk(I:Inv X ak O H s):∀b o,X.aw.get? b=some o->s.heap.get? b=some o:=λb o e=>(I.bs b o e).1
theorem Inv.mod(I:Inv X ak O H s):Mod X.K X.mg X.aw:=I.ok.mod
theorem Inv.fD(I:Inv X ak O H s):X.K.In s.heap:=I.ok.mod.lL.keeps I.bk
theorem Inv.lt(I:Inv X ak O H s):X.env.locals<s.heap.objs.size:=let#[_,hn,_]:=I.loc;hn.lt
theorem Inv.sz(I:Inv X ak O H s):X.s₀.heap.objs.size<=s.heap.objs.size:=j7 I.ok.above (Nat.le_of_lt I.lt)
theorem Inv.a2R(I:Inv X ak O H s){a:Addr}(h:s.heap.objs.size<=a):a∉X.fs:=λhb=>by let(_,o,ho,_):=I.ok.jy.mem hb;erw[absurd (gO (ck ho) (j7 I.sz h)) (vb _)]
theorem Inv.uJ(I:Inv X ak O H s):∀x c,X.env.cells.lookup x=some c->c≠X.env.locals:=λx c e z=>by let(v,o,ho,hd):=I.cell x c e;let(m,(o',es,ep,mK,Js,_),_):=I.loc;rw[z,mK]at ho;cases ho;rw[Js]at hd;cases hd
theorem Inv.jy(I:Inv X ak O H s):s.heap.FunFrames X.aw X.outer:=by
 have all:∀(l:List Env),(∀b∈eZ l,b∈X.fs)->X.s₀.heap.FunFrames X.aw l->s.heap.FunFrames X.aw l:=by intro l;induction l with |nil=>intro _ _;trivial |cons env r ih=>intro hs hl;let(hk,(L,o,hf,hn,ho,hd),hr):=hl;have hL:L∈X.fs:=hs L (by unfold eZ;rw[VU,hf];erw[DM]);let(sl,e):=I.aw.slot L o ho (I.ok.mZ L hL) hL λz=>I.ok.pO L z hL;erw[hk,#[L,_,hf,hn,e,hd],ih (λb hb=>hs b (by unfold eZ;rw[VU,hf];erw[xJ _ hb])) hr]
 erw[all X.outer (λ_ hb=>hb) I.ok.jy]
theorem Inv.stack(I:Inv X ak O H s):s.heap.FunFrames X.aw X.stack:=by
 rcases I.ok.sQ with e|⟨e,hf⟩
 ·rw[e];erw[I.jy]
 ·rw[e]
  let(m,hn,_):=I.loc;erw[.cons (by rw[I.ok.kind];decide) hf hn ?_ I.jy];erw[Heap.get?_none_of_le (j7 I.ok.kW I.ok.above)]
theorem Inv.Ee(I:Inv X ak O H s):∀b∈eZ X.stack,b∈X.env.locals::X.fs:=λb hb=>by
 rcases I.ok.sQ with e|⟨e,hf⟩
 ·rw[e]at hb;erw[xJ _ hb]
 ·rw[e]at hb
  unfold eZ at hb;rw[VU,hf]at hb;erw[hb]
theorem Inv.AV(I:Inv X ak O H s):∀b∈eZ X.stack,H b=none:=λb hb=>by
 rcases bJ.mp (I.Ee b hb)with e|hb
 ·rw[e];erw[I.free]
 ·let(_,o,ho,_):=I.ok.jy.mem hb
  erw[I.aw.free b o ho (I.ok.mZ b hb) λz=>I.ok.pO b z hb]
theorem Inv.step{g':Array GenState}{t':Nat}{d':Drawn}{ch:List Addr}(I:Inv X ak O H s) (lS:∀b∈ch,(b∈X.ex\/X.s₀.heap.objs.size<=b)/\b≠X.env.locals/\(∀x c,X.env.cells.lookup x=some c->c≠b)/\∀p∈X.pn++ak,p.1≠b) (keep:∀b o,b≠X.env.locals->b∉X.fs->b∉ch->s.heap.get? b=some o->H b=none->h'.get? b=some o) (slot:∀b o,b≠X.env.locals->b∈X.fs->b∉ch->s.heap.get? b=some o->H b=none->∃sl,h'.get? b=some {o with slots:=sl})(free:∀b o,b∉ch->s.heap.get? b=some o->H b=none->H' b=none) (there:∀b o,b∉ch->s.heap.get? b=some o->∃o',h'.get? b=some o') (kJ:∀b xs,H b=some (.tup xs)->H' b=some (.tup xs))(kz:∀b o u,H b=some (.mY o u)->H' b=some (.mY o u))(kK:∀b ps,H b=some (.oN ps)->∃more,H' b=some (.oN (ps++more))) (ns:∀m,s.heap.Ns X.env.locals m->h'.Ns X.env.locals m)(bA:dP X.prog X.w H' h')(hg:AllBare g'): Inv X ak O H' {s with heap:=h',gens:=g',drawn:=d',toks:=t'}:=by
 have QU:∀b o,X.s₀.heap.get? b=some o->b≠X.env.locals:=λb o e=>dY (gO (ck e) I.ok.above);have BM:∀b o,X.s₀.heap.get? b=some o->b∉X.ex->b∉ch:=λb o e hx hb=>by
  rcases(lS b hb).1 with z|z
  ·erw[hx z]
  ·erw[absurd (gO (ck e) z) (vb _)]
 have cellK:∀x c,X.env.cells.lookup x=some c->∀v,s.heap.IsCell c v->h'.IsCell c v:=λx c e v #[o,ho,hd]=>by
  have yN:c∉ch:=λz=>(lS c z).2.2.1 x c e rfl;by_cases hc:c∈X.fs
  ·let(sl,q):=slot c o (I.uJ x c e) hc yN ho (I.kA x c e)
   erw[_,q,hd]
  ·erw[o,keep c o (I.uJ x c e) hc yN ho (I.kA x c e),hd]
 erw[I.ok,I.os,hg,#[λb o e n hb hx=>?_,λb o e n hb hx=>?_,λb o e n hx=>?_,λb o e hx=>?_,λb xs e=>kJ b xs (I.aw.kJ b xs e),λb o xs e=>kz b o xs (I.aw.kz b o xs e),λb ps e=>?_],?_,λx c e=>?_,?_,λx c e=>?_,λp hp=>?_,bA,I.len]
 ·erw[keep b o (QU b o e) hb (BM b o e hx) (I.aw.keep b o e n hb hx) (I.aw.free b o e n hx)]
 ·let(sl,e1):=I.aw.slot b o e n hb hx
  let(EE,e2):=slot b _ (QU b o e) hb (BM b o e hx) e1 (I.aw.free b o e n hx);erw[EE,e2]
 ·let(o',e1):=I.aw.there b o e hx
  erw[free b o' (BM b o e hx) e1 (I.aw.free b o e n hx)]
 ·let(o',e1):=I.aw.there b o e hx
  erw[there b o' (BM b o e hx) e1]
 ·let(m1,e1):=I.aw.kK b ps e
  let(m2,e2):=kK b _ e1;erw[m1++m2,by rw[e2,Array.append_assoc]]
 ·let(m,hn,hl):=I.loc
  erw[m,ns m hn,λi x v e1 e2 e3=>?_];let(u,r,l):=hl i x v e1 e2 e3;erw[u,r,?_];rcases l with l|⟨k,c,e,z⟩
  ·erw[.inl l]
  ·erw[.inr #[k,c,e,cellK x c e _ z]]
 ·let(v,z):=I.cell x c e
  erw[v,cellK x c e v z]
 ·let(m,(o,_,_,ho,_),_):=I.loc
  erw[free _ o (λz=>(lS _ z).2.1 Z) ho I.free]
 ·let(v,o,ho,hd):=I.cell x c e
  erw[free c o (λz=>(lS c z).2.2.1 x c e Z) ho (I.kA x c e)]
 ·let(e,n,ne,nf,d):=I.pin p hp
  have yN:p.1∉ch:=λz=>(lS p.1 z).2.2.2 p hp rfl;erw[keep p.1 p.2 ne nf yN e n,free p.1 p.2 yN e n,ne,nf,d]
theorem Inv.un{t':Nat}(I:Inv X ak O H s)(u:Un X.fs [] H H' s.heap h')(bA:dP X.prog X.w H' h'):Inv X ak O H' {s with heap:=h',toks:=t'}:=by let(m,(o,es,ep,ho,r),_):=id I.loc;let(sl,hL):=u.any ho I.free (by simp);erw[I.step (g':=s.gens) (d':=s.drawn) (ch:=[]) (λ_ z=>nomatch z) (λb o _ hb _ e n=>u.keep b o e n hb (by simp)) (λb o _ hb _ e n=>u.slot b o e n hb (by simp)) (λb o _ e n=>u.free b o e n (by simp)) (λb o _ e=>u.there b o e (by simp)) u.kJ u.kz u.kK (λm' hm=>by let(o',pP,K8,mK,r'):=hm;rw[ho]at mK;cases mK;erw[_,pP,K8,hL,r']) bA I.bare]
theorem Inv.call{g':Array GenState}{t':Nat}{d':Drawn}{ch:List Addr}(I:Inv X ak O H s)(u:Un (eZ X.stack) ch H H' s.heap h')(bA:dP X.prog X.w H' h')(hg:AllBare g') (lS:∀b∈ch,(b∈X.ex\/X.s₀.heap.objs.size<=b)/\b≠X.env.locals/\(∀x c,X.env.cells.lookup x=some c->c≠b)/\∀p∈X.pn++ak,p.1≠b): Inv X ak O H' {s with heap:=h',gens:=g',drawn:=d',toks:=t'}:=by let(m,(o,es,ep,ho,r),_):=id I.loc;let(sl,hL):=u.any ho I.free λz=>(lS _ z).2.1 rfl;erw[I.step (ch:=ch) lS (λb o hL hb hc e n=>u.keep b o e n (λz=>(bJ.mp (I.Ee b z)).elim hL hb) hc) (λb o _ _ hc e n=>u.any e n hc) (λb o hc e n=>u.free b o e n hc) (λb o hc e=>u.there b o e hc) u.kJ u.kz u.kK (λm' hm=>by let(o',pP,K8,mK,r'):=hm;rw[ho]at mK;cases mK;erw[_,pP,K8,hL,r']) bA hg]
theorem Inv.turned{t':Nat}{it:Addr}(I:Inv X ak O H s)(k:∀b o,b≠it->s.heap.get? b=some o->h'.get? b=some o)(hn:H it=none)(hL:it≠X.env.locals) (h1:it∈X.ex\/X.s₀.heap.objs.size<=it)(h2:∀x c,X.env.cells.lookup x=some c->c≠it)(h3:∀p∈X.pn++ak,p.1≠it):Inv X ak O H {s with heap:=h',toks:=t'}:=by
 have yM:∀b u,H b=some u->b≠it:=λb u e z=>by rw[z,hn]at e;cases e
 erw[I.step (g':=s.gens) (d':=s.drawn) (ch:=[it]) (λb hb=>?_) (λb o _ _ hc e _=>k b o (λz=>hc (by simp[z])) e) (λb o _ _ hc e _=>#[o.slots,k b o (λz=>hc (by simp[z])) e]) (λ_ _ _ _ n=>n) (λb o hc e=>#[o,k b o (λz=>hc (by simp[z])) e]) (λ_ _ e=>e) (λ_ _ _ e=>e) (λb ps e=>#[#[],by rw[e];simp]) (λm hm=>?_) (λb u e=>?_) I.bare]
 ·have e:b=it:=by simpa using hb
  subst e;erw[h1,hL,h2,h3]
 ·let(o,es,ep,ho,r):=hm
  erw[o,es,ep,k _ o (jJ hL) ho,r]
 ·refine(I.bA b u e).oQ (λc v hc q=>k c v ?_ q) (λ_ q=>q) λ_ _ q=>q
  rcases hc with z|z
  ·rw[z];erw[yM b u e]
  ·erw[yM c _ z]
theorem Inv.tok(I:Inv X ak O H s)(t:Nat):Inv X ak O H {s with toks:=t}:=I.un (h':=s.heap) (t':=t) Un.refl I.bA
theorem Inv.kept{t':Nat}(I:Inv X ak O H s)(k:∀b u,s.heap.get? b=some u->h'.get? b=some u):Inv X ak O H {s with heap:=h',toks:=t'}:=I.un (Un.kept k) (I.bA.kept k)
theorem Inv.laid{a:Addr}{o:HO}{t':Nat}(I:Inv X ak O H s)(k:∀b u,s.heap.get? b=some u->h'.get? b=some u)(hp:s.heap.objs.size<=a)(new:fU X.prog X.w (upd H a o) h' a o): Inv X ak O (upd H a o) {s with heap:=h',toks:=t'}:=I.un (Un.laid k hp (I.bA.fresh hp)) (I.bA.laid k hp new)
theorem Inv.write{x e:Addr}{o:HO}{t':Nat}(I:Inv X ak O H s)(mu:zZ (H x))(he:e=x\/H e=some (.own x))(k:∀b u,b≠e->s.heap.get? b=some u->h'.get? b=some u)(wN:∃u,h'.get? e=some u) (new:fU X.prog X.w (upd H x o) h' x o):Inv X ak O (upd H x o) {s with heap:=h',toks:=t'}:=I.un (Un.write mu he k wN) (I.bA.write mu he k wN new)
theorem Inv.Qg{Hl:List (Addr×Obj)}(I:Inv X ak O H s)(h:∀p∈Hl,s.heap.get? p.1=some p.2/\H p.1=none/\p.1≠X.env.locals/\p.1∉X.fs/\∀v,p.2.data≠ .cell v):Inv X Hl O H s:=#[I.ok,I.os,I.bare,I.aw,I.loc,I.cell,I.free,I.kA,λp hp=>(jj.mp hp).elim (λz=>I.pin p (LL _ z)) (h p),I.bA,I.len]
theorem QK{N:List Str}(hN:N.Nodup){i j:Nat}{x:Str}(a:N[i]? =some x)(b:N[j]? =some x):i=j:=by let(h1,e1):=dZ.mp a;let(h2,e2):=dZ.mp b;exact(List.getElem_inj hN).mp (e1.trans e2.symm)
theorem Mz{M:Model}{A:ah}{E:Value->ae->Prop}{i:Nat}{x:Str}{v:V}{u:Value}{Q:Unit->ae->Prop}(I:Inv X ak O H s)(hN:X.N.Nodup)(hi:X.N[i]? =some x)(hx:Loc X.env.scope x)(r:RelV v u) (h:∀s',Inv X ak (O.set i (some v)) H s'->(∃a,Heap.SameBut a s.heap s'.heap/\(a=X.env.locals\/X.env.cells.lookup x=some a))->Q () s')(hf:autoParam (X.fn x=true\/X.env.scope.names.lookup x=some .local) d8_._auto_1):wpAny M A (storeName X.env x u) Q E s:=by
 let(m,hn,hl):=id I.loc;have Jt:(X.env.scope.kind== .class||(X.env.scope.kind== .module&&X.env.locals !=X.env.globals))=false:=by rw[I.ok.kind];rfl
 have SG:i<O.length:=by rw[I.len];exact(dZ.mp hi).1
 have uJ:=I.uJ;have tracked:∀{a:Addr}{h':Heap},(∃o,s.heap.get? a=some o/\H a=none)->Heap.SameBut a s.heap h'->dP X.prog X.w H h':=λ{a h'} ha hs b ob e=>by
  let(_,_,wM):=ha;refine(I.bA b ob e).oQ (λc w' hc q=>(hs.2 c ?_).trans q) (λ_ q=>q) λ_ _ q=>q;rintro rfl;rcases hc with rfl|hc
  ·rw[wM]at e;cases e
  ·rw[wM]at hc;cases hc
 rcases hx with hk|hk
 ·erw[wpAny_storeName_local hk hn (λh' Jg hs=>?_) Jt]
  let(oL,_,_,hoL,_):=id hn;erw[h _ #[I.ok,I.os,I.bare,#[λb o e n hb hx=>?_,λb o e n hb hx=>?_,I.aw.free,λb o e hx=>?_,I.aw.kJ,I.aw.kz,I.aw.kK],#[_,Jg,λj y v' e1 e2 e3=>?_],λy c e=>?_,I.free,I.kA,λp hp=>?_,tracked #[oL,hoL,I.free] hs,by simpa using I.len] #[_,hs,.inl rfl]]
  ·exact(hs.2 b (dY (gO (ck e) I.ok.above))).trans (I.aw.keep b o e n hb hx)
  ·let(sl,e1):=I.aw.slot b o e n hb hx
   erw[sl,(hs.2 b (dY (gO (ck e) I.ok.above))).trans e1]
  ·let(o',e1):=I.aw.there b o e hx
   erw[o',(hs.2 b (dY (gO (ck e) I.ok.above))).trans e1]
  ·by_cases hj:j=i
   ·subst hj
    rw[hi]at e1;cases e1;rw[List.getElem?_set_self SG]at e2;cases e2;erw[u,r,.inl #[hk,by simp]]
   ·rw[List.getElem?_set_ne (jJ hj)]at e2
    let(u',r',q):=hl j y v' e1 e2 e3;erw[u',r',?_];rcases q with⟨k,e⟩|⟨k,c,e,z⟩
    ·erw[.inl #[k,?_]]
     have:y≠x:=λe=>hj (QK hN e1 (e▸hi));simp[this,e]
    ·erw[.inr #[k,c,e,z.sameBut hs (uJ y c e)]]
  ·let(w',z):=I.cell y c e
   erw[w',z.sameBut hs (uJ y c e)]
  ·let(e,n,ne,nf,d):=I.pin p hp
   erw[(hs.2 p.1 ne).trans e,n,ne,nf,d]
 ·have Jr:X.fn x=true:=by
   rcases hf with z|z
   ·erw[z]
   ·rw[z]at hk;cases hk
  let(c,hc):=I.ok.has x (.inl hk);let(w',z):=I.cell x c hc;erw[wpAny_storeName_cell I.ok.kind hk hc z (λh' kU hs=>?_)];let(oc,Sz,a5u):=id z;erw[h {s with heap:=h'} #[I.ok,I.os,I.bare,#[λb o e n hb hx=>?_,λb o e n hb hx=>?_,I.aw.free,λb o e hx=>?_,I.aw.kJ,I.aw.kz,I.aw.kK],#[m,hn.sameBut hs (jJ (uJ x c hc)),λj y v' e1 e2 e3=>?_],λy c' e=>?_,I.free,I.kA,λp hp=>?_,tracked #[oc,Sz,I.kA x c hc] hs,by simpa using I.len] #[c,hs,.inr hc]]
  ·exact(hs.2 b (dY (gO (ck e) (I.ok.rK x c Jr hc)))).trans (I.aw.keep b o e n hb hx)
  ·let(sl,e1):=I.aw.slot b o e n hb hx
   erw[sl,(hs.2 b (dY (gO (ck e) (I.ok.rK x c Jr hc)))).trans e1]
  ·let(o',e1):=I.aw.there b o e hx
   erw[o',(hs.2 b (dY (gO (ck e) (I.ok.rK x c Jr hc)))).trans e1]
  ·by_cases hj:j=i
   ·subst hj
    rw[hi]at e1;cases e1;rw[List.getElem?_set_self SG]at e2;cases e2;erw[u,r,.inr #[.inl hk,c,hc,kU]]
   ·rw[List.getElem?_set_ne (jJ hj)]at e2
    let(u',r',q):=hl j y v' e1 e2 e3;erw[u',r',?_];rcases q with q|⟨k,c',e,z'⟩
    ·erw[.inl q]
    ·erw[.inr #[k,c',e,z'.sameBut hs ?_]]
     rintro rfl;erw[hj (QK hN e1 (I.ok.inj _ _ _ e hc▸hi))]
  ·by_cases SQ:c'=c
   ·subst SQ;erw[_,kU]
   ·let(w2,z2):=I.cell y c' e
    erw[w2,z2.sameBut hs SQ]
  ·let(e,n,ne,nf,d):=I.pin p hp
   erw[(hs.2 p.1 ?_).trans e,n,ne,nf,d];intro q;rw[q,Sz]at e;have q':oc=p.2:=dQ e;erw[d w' (by rw[<-q'];erw[a5u])]
theorem AU{M:Model}{A:ah}{E:Value->ae->Prop}{i:Nat}{x:Str}{v:V}{u:Value}{Q:Unit->ae->Prop}(I:Inv X ak O H s)(hN:X.N.Nodup)(hi:X.N[i]? =some x)(hx:Loc X.env.scope x)(r:RelV v u) (h:∀s',Inv X ak (O.set i (some v)) H s'->Q () s')(hf:autoParam (X.fn x=true\/X.env.scope.names.lookup x=some .local) d8_._auto_1):wpAny M A (storeName X.env x u) Q E s:=Mz I hN hi hx r (λs' I' _=>h s' I') hf
theorem Inv.Dm{s':ae}{ch:List Addr}(I:Inv X ak O H s)(ho:s'.os=s.os)(u:Un (eZ X.stack) ch H H' s.heap s'.heap)(bA:dP X.prog X.w H' s'.heap)(hg:AllBare s'.gens) (lS:∀b∈ch,(b∈X.ex\/X.s₀.heap.objs.size<=b)/\b≠X.env.locals/\(∀x c,X.env.cells.lookup x=some c->c≠b)/\∀p∈X.pn++ak,p.1≠b):Inv X ak O H' s':=by let(h',g',d',t',o'):=s';have e:o'=s.os:=ho;subst e;erw[I.call (g':=g') (t':=t') (d':=d') u bA hg lS]
end
abbrev XK:=Value->Option Addr->Hp->Prop
abbrev St:=List (Option V)
abbrev VK:=V->Hp->Prop
abbrev TE:=St->Hp->VK->Prop
abbrev TT:=St->Hp->(Bool->Hp->Prop)->Prop
abbrev TA:=St->Hp->(List V->Hp->Prop)->Prop
structure Ends where
 nx:St->Hp->Prop
 rt:VK
 bk:St->Hp->Prop:=λ_ _=>False
 ct:St->Hp->Prop:=λ_ _=>False
abbrev TS:=Ends->St->Hp->Prop
def EP(X:Cx)(ak:List (Addr×Obj))(O:St)(Q:VK)(u:Value)(s':ae):Prop:=∃v H',Inv X ak O H' s'/\RelV v u/\Q v H'
def TP(X:Cx)(ak:List (Addr×Obj))(O:St)(Q:Bool->Hp->Prop)(b:Bool)(s':ae):Prop:=∃H',Inv X ak O H' s'/\Q b H'
def AP(X:Cx)(ak:List (Addr×Obj))(O:St)(Q:List V->Hp->Prop)(us:List Value)(s':ae):Prop:=∃vs H',Inv X ak O H' s'/\Vals vs us/\Q vs H'
def SP(X:Cx)(ak:List (Addr×Obj))(D:Ends)(f:Flow)(s':ae):Prop:=match f with | .next=>∃σ' H',Inv X ak σ' H' s'/\D.nx σ' H' | .brk=>∃σ' H',Inv X ak σ' H' s'/\D.bk σ' H' | .cont=>∃σ' H',Inv X ak σ' H' s'/\D.ct σ' H' | .ret u=>∃v σ' H',Inv X ak σ' H' s'/\RelV v u/\D.rt v H'
def PE(X:Cx)(e:Expr)(t:TE):Prop:=∀(ak:List (Addr×Obj))(s:ae)(O:St)(H:Hp)(Q:VK),Inv X ak O H s->t O H Q->wpAny (model X.prog X.w) X.A (eval e X.env) (EP X ak O Q) X.xe s
def PT(X:Cx)(e:Expr)(t:TT):Prop:=∀(ak:List (Addr×Obj))(s:ae)(O:St)(H:Hp)(Q:Bool->Hp->Prop),Inv X ak O H s->t O H Q->wpAny (model X.prog X.w) X.A (isTrue e X.env (eval e X.env)) (TP X ak O Q) X.xe s
def PW(X:Cx)(e:Expr)(t:TT):Prop:=∀(whole:Sem Value)(ak:List (Addr×Obj))(s:ae)(O:St)(H:Hp)(Q:Bool->Hp->Prop),Inv X ak O H s->t O H Q->wpAny (model X.prog X.w) X.A (isTrue e X.env whole) (TP X ak O Q) X.xe s
theorem PW.pt{X:Cx}{e:Expr}{t:TT}(h:PW X e t):PT X e t:=h _
def PA(X:Cx)(es:List Expr)(t:TA):Prop:=∀(pos:Pos)(ak:List (Addr×Obj))(s:ae)(O:St)(H:Hp)(Q:List V->Hp->Prop),Inv X ak O H s->t O H Q->wpAny (model X.prog X.w) X.A (spliced (backTo pos (starEach es X.env))) (AP X ak O Q) X.xe s
def PS(X:Cx)(st:Stmt)(t:TS):Prop:=∀(ak:List (Addr×Obj))(s:ae)(O:St)(H:Hp)(D:Ends),Inv X ak O H s->t D O H->wpAny (model X.prog X.w) X.A (exec st X.env) (SP X ak D) X.xe s
def fT(X:Cx)(st:List Stmt)(t:TS):Prop:=∀(ak:List (Addr×Obj))(s:ae)(O:St)(H:Hp)(D:Ends),Inv X ak O H s->t D O H->wpAny (model X.prog X.w) X.A (execs st X.env) (SP X ak D) X.xe s
theorem ba{α:Type}{t:Sem α}{Q Q':α->ae->Prop}{M:Model}{A:ah}{E:Value->ae->Prop}{s:ae}(h:wpAny M A t Q E s)(hQ:∀a s,Q a s->Q' a s):wpAny M A t Q' E s:=ji h hQ λ_ _ x=>x
section
variable {X:Cx}
inductive abj(i:Nat)(O:St)(H:Hp)(Q:VK):Prop |mk (v:_)(h0:O[i]? =some (some v))(h1:Q v H)
def Me(i:Nat):TE:=λO H Q=>abj i O H Q
def tC (v:V):TE:=λ_ H Q=>Q v H
theorem Hm{i:Nat}{x:Str}{pos:Pos}(hN:X.N[i]? =some x)(hv:zW X.env.scope x)(hd:autoParam ((x==("__debug__":Str))=false) q8_._auto_1)(eY:autoParam ((x==("__classdict__":Str))=false) q8_._auto_1):PE X (.Name x pos) (Me i):=by
 intro ak s O H Q I h;let(v,e,h):=h;let(m,hn,hl):=I.loc;let(u,r,l):=hl i x v hN e hv;have fin:EP X ak O Q u s:=#[v,H,I,r,h];rcases l with⟨hk,hm⟩|⟨hk,c,hc,qZ⟩
 ·erw[wpAny_Name (wpAny_loadName_local I.ok.kind hk hn hm fin) hd]
 ·rcases hk with hk|hk
  ·erw[wpAny_Name (wpAny_loadName_cell I.ok.kind hk hc qZ fin) hd]
  ·erw[wpAny_Name (wpAny_loadName_free I.ok.kind hk hc qZ fin eY) hd]
theorem aB{i j pos}:PE X (.Constant (.int i) j pos) (tC (.int i)):=λ_ _ _ H _ I h=>wpAny_Constant_int #[.int i,H,I.tok _,#[_,Z],h]
theorem ju{b j pos}:PE X (.Constant (.bool b) j pos) (tC (.bl b)):=λ_ _ _ H _ I h=>Constant_bool #[.bl b,H,I,Z,h]
theorem gT{j pos}:PE X (.Constant .none j pos) (tC .bD):=λ_ _ _ H _ I h=>Constant_none #[.bD,H,I,Z,h]
theorem bf{x j pos}:PE X (.Constant (.str x) j pos) (tC (.str x)):=λ_ _ _ H _ I h=>Calls.Constant_str #[.str x,H,I.tok _,#[_,Z],h]
def Gl(X:Cx)(x:Str):Prop:=X.env.kindOf x=some .globalImplicit
theorem ub{E:Value->ae->Prop}{ak:List (Addr×Obj)}{s:ae}{O:St}{H:Hp}{x:Str}{u:Value}{pos:Pos}{Q:Value->ae->Prop}(I:Inv X ak O H s)(hg:Gl X x)(hm:X.mg x=some u)(h:Q u s) (hd:autoParam ((x==("__debug__":Str))=false) q8_._auto_1):wpAny (model X.prog X.w) X.A (eval (.Name x pos) X.env) Q E s:=Calls.Name_function_global I.ok.kind hg (Calls.loadGlobal_global (by rw[I.ok.glob];erw[I.mod.glob.keeps I.bk]) hm h) hd
theorem uc{E:Value->ae->Prop}{ak:List (Addr×Obj)}{s:ae}{O:St}{H:Hp}{x:Str}{u:Value}{pos:Pos}{Q:Value->ae->Prop}(I:Inv X ak O H s)(hg:Gl X x)(hm:X.mg x=none)(hv:bootBuiltins x=some u)(h:Q u s) (hn:autoParam (x≠"__name__") q8_._auto_1)(hd:autoParam ((x==("__debug__":Str))=false) q8_._auto_1):wpAny (model X.prog X.w) X.A (eval (.Name x pos) X.env) Q E s:=by let(mb,h1,h2):=I.mod.blt;erw[Calls.Name_function_global I.ok.kind hg (Calls.loadGlobal_builtin (by rw[I.ok.glob];erw[I.mod.glob.keeps I.bk]) hm (by rw[I.ok.blt];erw[h1.keeps I.bk]) ((h2 x hn).trans hv) h) hd]
theorem a09{x:Str}{v:V}{u:Value}{pos:Pos}(hg:Gl X x)(hm:X.mg x=some u)(r:RelV v u)(hd:autoParam ((x==("__debug__":Str))=false) q8_._auto_1):PE X (.Name x pos) (tC v):=λ_ _ _ H _ I h=>ub I hg hm #[v,H,I,r,h] hd
theorem nQ{x:Str}{v:V}{u:Value}{pos:Pos}(hg:Gl X x)(hm:X.mg x=none)(hv:bootBuiltins x=some u)(r:RelV v u)(hn:autoParam (x≠"__name__") q8_._auto_1)(hd:autoParam ((x==("__debug__":Str))=false) q8_._auto_1):PE X (.Name x pos) (tC v):=λ_ _ _ H _ I h=>uc I hg hm hv #[v,H,I,r,h] hn hd
variable {a b:Expr}{ta tb:TE}{pos:Pos}
def PC(X:Cx)(op:CmpOp)(a b:Expr)(t:TE):Prop:=∀(ak:List (Addr×Obj))(s:ae)(O:St)(H:Hp)(Q:VK),Inv X ak O H s->t O H Q->wpAny (model X.prog X.w) X.A (eval a X.env) (λv s₁=>wpAny (model X.prog X.w) X.A (eval b X.env) (λu s₂=>wpAny (model X.prog X.w) X.A (compareOp op v u) (EP X ak O Q) X.xe s₂) X.xe s₁) X.xe s
inductive ItB(Q:Bool->Hp->Prop)(x:V)(H1:Hp):Prop |mk (c:_)(h0:x= .bl c)(h1:Q c H1)
def tB(t:TE):TT:=λO H Q=>t O H λx H1=>ItB Q x H1
theorem Qc{op:CmpOp}{t:TE}(h:PC X op a b t)(h1:behindInMarks op b=false:=by first|erw[ae6 _ ay ay]|rfl):PT X (.Compare a [op] [b] pos) (tB t):=by intro ak s O H Q I hw;erw[wpAny_isTrue_Compare1 (ba (h ak s O H _ I hw) λv s1 h1=>ba h1 λu s2 h2=>ba h2 λc s3 #[x,H1,I1,r1,q1]=>?_) h1];let(d,rfl,q):=q1;cases r1;erw[nG #[H1,I1,q]]
theorem cO{e:Expr}{t:TE}(h:PE X e t)(he:autoParam (∀whole,isTrue e X.env whole=(do let v<-whole;standAt e.pos;holding [v] (truthy v))) d8_._auto_1):PT X e (tB t):=by intro ak s O H Q I hw;erw[isTrue_plain (ba (h ak s O H _ I hw) λv s1 #[x,H1,I1,r1,q1]=>?_) (he _)];let(d,rfl,q):=q1;cases r1;erw[nG #[H1,I1,q]]
variable {tA AQ:TT} {rest:List Expr}
def AS(t u:TT):TT:=λO H Q=>t O H λc H1=>if c=true then u O H1 Q else Q false H1
def Mg(t u:TT):TT:=λO H Q=>t O H λc H1=>if c=true then Q true H1 else u O H1 Q
def Xh(t:TT):TT:=λO H Q=>t O H λc H1=>Q (!c) H1
theorem vP(ha:PT X a tA):PW X (.BoolOp .And [a] pos) tA:=by intro wh ak s O H Q I h;erw[isTrue_and (ba (ha ak s O H Q I h) λc s1 e=>?_)];cases c with |true=>erw[isTrue_and_nil e] |false=>erw[e]
theorem jt(ha:PT X a tA):PW X (.BoolOp .Or [a] pos) tA:=by intro wh ak s O H Q I h;erw[isTrue_or (ba (ha ak s O H Q I h) λc s1 e=>?_)];cases c with |false=>erw[isTrue_or_nil e] |true=>erw[e]
theorem oZ(ha:PT X a tA)(hb:PW X (.BoolOp .And (b::rest) pos) AQ):PW X (.BoolOp .And (a::b::rest) pos) (AS tA AQ):=by intro wh ak s O H Q I h;erw[isTrue_and (ba (ha ak s O H _ I h) λc s1 #[H1,I1,q1]=>?_)];cases c with |true=>erw[hb wh ak s1 O H1 Q I1 q1] |false=>erw[H1,I1,q1]
theorem iU(ha:PT X a tA)(hb:PW X (.BoolOp .Or (b::rest) pos) AQ):PW X (.BoolOp .Or (a::b::rest) pos) (Mg tA AQ):=by intro wh ak s O H Q I h;erw[isTrue_or (ba (ha ak s O H _ I h) λc s1 #[H1,I1,q1]=>?_)];cases c with |true=>erw[H1,I1,q1] |false=>erw[hb wh ak s1 O H1 Q I1 q1]
theorem dj(ha:PT X a tA):PT X (.UnaryOp .Not a pos) (Xh tA):=by intro ak s O H Q I h;erw[isTrue_not (ha ak s O H (λc H1=>Q (!c) H1) I h)]
inductive aby(tb:TE)(O:St)(Q:VK)(x:V)(H1:Hp):Prop |mk (c:_)(h0:x= .bl c)(h1:if c=true then tb O H1 Q else Q (.bl false) H1)
def Xt(ta tb:TE):TE:=λO H Q=>ta O H λx H1=>aby tb O Q x H1
inductive abo(tb:TE)(O:St)(Q:VK)(x:V)(H1:Hp):Prop |mk (c:_)(h0:x= .bl c)(h1:if c=true then Q (.bl true) H1 else tb O H1 Q)
def Xe(ta tb:TE):TE:=λO H Q=>ta O H λx H1=>abo tb O Q x H1
inductive abq(Q:VK)(x:V)(H1:Hp):Prop |mk (c:_)(h0:x= .bl c)(h1:Q (.bl (!c)) H1)
def Xg(ta:TE):TE:=λO H Q=>ta O H λx H1=>abq Q x H1
theorem mx{op}{t:TE}(h:PE X a t):PE X (.BoolOp op [a] pos) t:=λak s O H Q I hw=>BoolOp_one (h ak s O H Q I hw)
theorem lF(ha:PE X a ta)(hb:PE X (.BoolOp .And (b::rest) pos) tb):PE X (.BoolOp .And (a::b::rest) pos) (Xt ta tb):=by intro ak s O H Q I h;erw[BoolOp_and (ba (ha ak s O H _ I h) λv s1 #[x,H1,I1,r1,q1]=>?_)];let(c,rfl,q1):=q1;cases r1;erw[nG ?_];cases c with |true=>erw[hb ak s1 O H1 Q I1 q1] |false=>erw[.bl false,H1,I1,Z,q1]
theorem a04(ha:PE X a ta)(hb:PE X (.BoolOp .Or (b::rest) pos) tb):PE X (.BoolOp .Or (a::b::rest) pos) (Xe ta tb):=by intro ak s O H Q I h;erw[BoolOp_or (ba (ha ak s O H _ I h) λv s1 #[x,H1,I1,r1,q1]=>?_)];let(c,rfl,q1):=q1;cases r1;erw[nG ?_];cases c with |false=>erw[hb ak s1 O H1 Q I1 q1] |true=>erw[.bl true,H1,I1,Z,q1]
theorem Hn(ha:PE X a ta):PE X (.UnaryOp .Not a pos) (Xg ta):=by intro ak s O H Q I h;erw[UnaryOp_ (ba (ha ak s O H _ I h) λv s1 #[x,H1,I1,r1,q1]=>?_)];let(c,rfl,q1):=q1;cases r1;erw[not_of (nG #[.bl (!c),H1,I1,Z,q1])]
def Xn(t:TT)(ta tb:TE):TE:=λO H Q=>t O H λc H1=>if c=true then ta O H1 Q else tb O H1 Q
theorem my{c:Expr}(hc:PT X c tA)(ha:PE X a ta)(hb:PE X b tb):PE X (.IfExp c a b pos) (Xn tA ta tb):=by intro ak s O H Q I h;erw[wpAny_IfExp (ba (hc ak s O H _ I h) λd s1 #[H1,I1,q1]=>?_)];cases d with |true=>erw[ha ak s1 O H1 Q I1 q1] |false=>erw[hb ak s1 O H1 Q I1 q1]
end
def aE(K:aa)(H:Hp)(a:Addr)(xs:List V):Prop:=Rd H a (.lst xs)\/ ∃(o:Obj)(its:Array Value)(n:Nat),K.lookup a=some o/\o.cls= .type "list"/\o.dict=none/\o.data= .seq its n/\its.size<=sizeLine/\Vals xs its.toList
def bc(K:aa)(H:Hp)(a:Addr)(xs:List V):Prop:=Rd H a (.tup xs)\/ ∃(o:Obj)(its:Array Value)(n:Nat),K.lookup a=some o/\o.cls= .type "tuple"/\o.data= .seq its n/\its.size<=sizeLine/\Vals xs its.toList
def ab3:Value->Option V | .none=>some .bD | .bool b=>some (.bl b) | .int i _=>some (.int i) | .str x _=>some (.str x) | .bytes b _=>some (.kB b) | .float b _=>some (.CI b) | .ref a=>some (.ref a) | .type n=>some (.ty n) |_=>none
theorem RelV.abs{x:V}{u:Value}(r:RelV x u):ab3 u=some x:=by cases x with |bD=>cases r;rfl |bl _=>cases r;rfl |int _=>let(t,rfl):=r;rfl |str _=>let(t,rfl):=r;rfl |kB _=>let(t,rfl):=r;rfl |CI _=>let(t,rfl):=r;rfl |ref _=>cases r;rfl |ty _=>cases r;rfl
theorem RelV.inj{x y:V}{u:Value}(r:RelV x u)(q:RelV y u):x=y:=dQ (r.abs.symm.trans q.abs)
theorem Vals.inj:∀{xs ys:List V}{us:List Value},Vals xs us->Vals ys us->xs=ys |_,_,_,.nil,.nil=>rfl |_,_,_,.cons r t,.cons r' t'=>by rw[r.inj r',Vals.inj t t']
section
variable {X:Cx}{ak:List (Addr×Obj)}{O:St}{H:Hp}{s:ae}{a:Addr}{xs ys:List V}
theorem aE.of{K:aa}(h:H a=some (.lst xs)):aE K H a xs:=.inl (.inl h)
theorem bc.of{K:aa}(h:H a=some (.tup xs)):bc K H a xs:=.inl (.inl h)
theorem Inv.list(I:Inv X ak O H s)(h:aE X.K H a xs):∃its:List Value,Vals xs its/\PlainL s.heap a its.toArray/\xs.length<=sizeLine:=by
 rcases h with h|⟨o,its,n,hk,hc,hd,hs,hz,r⟩
 ·let(z,its,n,r,e):=h.ok I.bA
  erw[its,r,#[_,n,e,Z,Z,Z],z]
 ·erw[its.toList,r,#[o,n,I.fD a o hk,hc,hd,by simpa using hs],?_]
  have e:=r.length;simp only[Ap]at e
  lia
theorem Inv.tuple(I:Inv X ak O H s)(h:bc X.K H a xs):∃its:List Value,Vals xs its/\IsTup s.heap a its.toArray/\xs.length<=sizeLine:=by
 rcases h with h|⟨o,its,n,hk,hc,hs,hz,r⟩
 ·let(z,its,r,p):=h.ok I.bA
  erw[its,r,p,z]
 ·erw[its.toList,r,#[o,I.fD a o hk,hc,n,by simpa using hs],?_]
  have e:=r.length;simp only[Ap]at e
  lia
theorem Inv.RK(I:Inv X ak O H s)(h:aE X.K H a xs)(h':aE X.K H a ys):xs=ys:=by
 let(its,r,(o,n,e,_,_,d),_):=I.list h;let(its',r',(o',n',e',_,_,d'),_):=I.list h';rw[e]at e';cases e';rw[d]at d';injection d' with d1 _;have:its=its':=by simpa using jZ Array.toList d1
 subst this;erw[r.inj r']
theorem Inv.M9(I:Inv X ak O H s)(h:bc X.K H a xs)(h':bc X.K H a ys):xs=ys:=by
 let(its,r,(o,e,_,n,d),_):=I.tuple h;let(its',r',(o',e',_,n',d'),_):=I.tuple h';rw[e]at e';cases e';rw[d]at d';injection d' with d1 _;have:its=its':=by simpa using jZ Array.toList d1
 subst this;erw[r.inj r']
end
abbrev Cx.kg(X:Cx)(E:Value->ae->Prop):Cx:={X with xe:=E}
abbrev Cx.tW(X:Cx):Cx:=X.kg λ_ _=>False
theorem Cx.Ok.kg{X:Cx}(ok:X.Ok)(E:Value->ae->Prop):(X.kg E).Ok:=#[ok.mod,ok.kind,ok.glob,ok.blt,ok.above,ok.inj,ok.has,ok.rK,ok.hd,ok.frames,ok.sQ,ok.zD,ok.bs,ok.kW,ok.qL,ok.pO,ok.jy,ok.mZ]
theorem Cx.Ok.nM{X:Cx}{E:Value->ae->Prop}(ok:(X.kg E).Ok):X.Ok:=#[ok.mod,ok.kind,ok.glob,ok.blt,ok.above,ok.inj,ok.has,ok.rK,ok.hd,ok.frames,ok.sQ,ok.zD,ok.bs,ok.kW,ok.qL,ok.pO,ok.jy,ok.mZ]
section
variable {X:Cx}{ak:List (Addr×Obj)}{O:St}{H:Hp}{s:ae}{E:Value->ae->Prop}
theorem Inv.kg(I:Inv X ak O H s)(E:Value->ae->Prop):Inv (X.kg E) ak O H s:=#[I.ok.kg E,I.os,I.bare,I.aw,I.loc,I.cell,I.free,I.kA,I.pin,I.bA,I.len]
theorem Inv.nM(I:Inv (X.kg E) ak O H s):Inv X ak O H s:=#[I.ok.nM,I.os,I.bare,I.aw,I.loc,I.cell,I.free,I.kA,I.pin,I.bA,I.len]
theorem SP.nM{D:Ends}{f:Flow}{s':ae}(h:SP (X.kg E) ak D f s'):SP X ak D f s':=by cases f with |next=>let(σ',H',I,q):=h;erw[σ',H',I.nM,q] |brk=>let(σ',H',I,q):=h;erw[σ',H',I.nM,q] |cont=>let(σ',H',I,q):=h;erw[σ',H',I.nM,q] |ret u=>let(v,σ',H',I,r,q):=h;erw[v,σ',H',I.nM,r,q]
theorem fT.tW{st:List Stmt}{t:TS}(h:fT X.tW st t):fT X st t:=λak s O H D I hw=>ji (h ak s O H D (I.kg _) hw) (λ_ _ q=>q.nM) λ_ _ z=>False.elim z
end
section
variable {X:Cx}{st:Stmt}{rest:List Stmt}{t u:TS}{e:Expr}{te:TE}{pos:Pos}
def Mh:TS:=λD O H=>D.nx O H
def xX(t u:TS):TS:=λD O H=>t {D with nx:=u D} O H
theorem bO:fT X [] Mh:=λ_ _ O H _ I h=>DE #[O,H,I,h]
theorem aD(h1:PS X st t)(h2:fT X rest u):fT X (st::rest) (xX t u):=by intro ak s O H D I h;erw[Lo (ba (h1 ak s O H {D with nx:=u D} I h) λf s1 q=>?_)];cases f with |next=>let(σ',H',I',q):=q;erw[h2 ak s1 σ' H' D I' q] |ret v=>erw[q] |brk=>erw[q] |cont=>erw[q]
theorem aJ(h1:PS X st t):fT X [st] t:=by intro ak s O H D I h;erw[Lo (ba (h1 ak s O H D I h) λf s1 q=>?_)];cases f with |next=>erw[DE q] |ret v=>erw[q] |brk=>erw[q] |cont=>erw[q]
theorem Inv.quiet{ak:List (Addr×Obj)}{O:St}{H:Hp}{s:ae}(I:Inv X ak O H s):interactive X.env=false:=by simp[interactive,I.ok.kind]
def Xp(te:TE):TS:=λD O H=>te O H λ_ H1=>D.nx O H1
theorem mr(he:PE X e te)(hs:autoParam (swapsWith e none pos.line X.env=pure false) r8_._auto_1):PS X (.Expr e pos) (Xp te):=by intro ak s O H D I h;erw[wpAny_Expr_any (ba (he ak s O H _ I h) λv s1 #[x,H1,I1,r1,q1]=>#[O,H1,I1,q1]) I.quiet hs]
def Xa(te:TE):TS:=λD O H=>te O H D.rt
theorem aW(he:PE X e te):PS X (.Return (some e) pos) (Xa te):=by intro ak s O H D I h;erw[wpAny_Return_some (ba (he ak s O H _ I h) λv s1 #[x,H1,I1,r1,q1]=>#[x,O,H1,I1,r1,q1])]
def Eb(c:TT)(t u:TS):TS:=λD O H=>c O H λb H1=>if b=true then t D O H1 else u D O H1
theorem bL{c:Expr}{a b:List Stmt}{tc:TT}(hc:PT X c tc)(ha:fT X a t)(hb:fT X b u):PS X (.If c a b pos) (Eb tc t u):=by intro ak s O H D I h;erw[wpAny_If (ba (hc ak s O H _ I h) λd s1 #[H1,I1,q1]=>?_)];cases d with |true=>erw[ha ak s1 O H1 D I1 q1] |false=>erw[hb ak s1 O H1 D I1 q1]
def Mi:TS:=λ_ _ _=>False
theorem vR:PS X st Mi:=λ_ _ _ _ _ _ h=>h.elim
theorem qE{XA:List Stmt}:fT X XA Mi:=λ_ _ _ _ _ _ h=>h.elim
end
abbrev TG:=V->St->Hp->(St->Hp->Prop)->Prop
abbrev oE:=List V->St->Hp->(St->Hp->Prop)->Prop
def PG(X:Cx)(target:Expr)(t:TG):Prop:=∀(ak:List (Addr×Obj))(s:ae)(O:St)(H:Hp)(v:V)(u:Value)(Q:St->Hp->Prop),Inv X ak O H s->RelV v u->t v O H Q->wpAny (model X.prog X.w) X.A (assign target X.env u) (λ_ s'=>∃σ' H',Inv X ak σ' H' s'/\Q σ' H') X.xe s
def zY(X:Cx)(ts:List Expr)(t:oE):Prop:=∀(ak:List (Addr×Obj))(s:ae)(O:St)(H:Hp)(vs:List V)(us:List Value)(Q:St->Hp->Prop),Inv X ak O H s->Vals vs us->t vs O H Q->wpAny (model X.prog X.w) X.A (assignInOrder ((assignEach ts X.env).map (·.2)) us) (λ_ s'=>∃σ' H',Inv X ak σ' H' s'/\Q σ' H') X.xe s
abbrev L6:=V->V->V->Hp->(Hp->Prop)->Prop
def Vn(X:Cx)(t:L6):Prop:=∀(ak:List (Addr×Obj))(s:ae)(O:St)(H:Hp)(o i v:V)(ov iv u:Value)(Q:Hp->Prop),Inv X ak O H s->RelV o ov->RelV i iv->RelV v u->t o i v H Q->wpAny (model X.prog X.w) X.A (setItem ov iv u) (λ_ s'=>∃H',Inv X ak O H' s'/\Q H') X.xe s
abbrev Vh:=V->V->Hp->VK->Prop
def PIp(X:Cx)(op:Operator)(t:Vh):Prop:=∀(ak:List (Addr×Obj))(s:ae)(O:St)(H:Hp)(x y:V)(v u:Value)(Q:VK),Inv X ak O H s->RelV x v->RelV y u->t x y H Q->wpAny (model X.prog X.w) X.A (inplaceOp op v u) (EP X ak O Q) X.xe s
section
variable {X:Cx} {pos:Pos}
def gc(i:Nat):TG:=λv O H Q=>Q (O.set i (some v)) H
theorem a01{i:Nat}{x:Str}(hN:X.N.Nodup)(hi:X.N[i]? =some x)(hx:Loc X.env.scope x)(hf:autoParam (X.fn x=true\/X.env.scope.names.lookup x=some .local) d8_._auto_1):PG X (.Name x pos) (gc i):=by intro ak s O H v u Q I r h;erw[wpAny_assign_Name (AU I hN hi hx r (λs' I'=>#[_,H,I',h]) hf)]
def CC:oE:=λvs O H Q=>vs=[]/\Q O H
inductive ady(t:TG)(u:oE)(vs:List V)(O:St)(H:Hp)(Q:St->Hp->Prop):Prop |mk (v:_)(r:_)(h0:vs=v::r)(h1:t v O H λσ' H'=>u r σ' H' Q)
def uA(t:TG)(u:oE):oE:=λvs O H Q=>ady t u vs O H Q
theorem ek:zY X [] CC:=by intro ak s O H vs us Q I r h;let(e,h):=h;subst e;cases r;erw[Lr #[O,H,I,h]]
theorem bS{e:Expr}{es:List Expr}{t:TG}{u:oE}(h1:PG X e t)(h2:zY X es u) (hs:autoParam ((assignEach (e::es) X.env).map (·.2)=assign e X.env::(assignEach es X.env).map (·.2)) r8_._auto_1):zY X (e::es) (uA t u):=by intro ak s O H vs us Q I r h;let(v,vr,e1,h):=h;subst e1;cases r with |cons r rr=>rw[hs];erw[xC (ba (h1 ak s O H _ _ _ I r h) λ_ s1 #[σ1,H1,I1,q1]=>?_)];erw[h2 ak s1 σ1 H1 _ _ Q I1 rr q1]
inductive adw(K:aa)(n:Nat)(t:oE)(v:V)(O:St)(H:Hp)(Q:St->Hp->Prop):Prop |mk (a:_)(xs:_)(h0:v= .ref a)(h1:bc K H a xs)(h2:xs.length=n)(h3:t xs O H Q)
def zB(K:aa)(n:Nat)(t:oE):TG:=λv O H Q=>adw K n t v O H Q
theorem a00{es:List Expr}{k:Nat}{t:oE}{n:Nat}(hc:X.calm=true)(h:zY X es t) (hn:autoParam ((assignEach es X.env).length=n) r8_._auto_1)(g9:autoParam ((assignEach es X.env).findIdx? (·.1)=none) r8_._auto_1):PG X (.Tuple es k pos) (zB X.K n t):=by intro ak s O H v u Q I r hw;let(a,xs,e1,hq,hl,hw):=hw;subst e1;cases r;let(its,rv,ht,hz):=I.tuple hq;erw[assign_Tuple_tuple (I.ok.hd hc) ht (by simp[hn,<-hl,rv.length]) g9 λh' hx=>?_];have I1:Inv X ak O H {s with heap:=h'}:=I.kept (t':=s.toks) λb o e=>hx b o (dY (ck e)) e;erw[h ak _ O H xs _ Q I1 (by simpa using rv) hw]
def a7Q(to ti:TE)(t:L6):TG:=λv O H Q=>to O H λo H1=>ti O H1 λi H2=>t o i v H2 λH3=>Q O H3
theorem yz{o i:Expr}{to ti:TE}{t:L6}(ho:PE X o to)(hi:PE X i ti)(hs:Vn X t) (ha:∀v,assign (.Subscript o i pos) X.env v=(do
 let ov<-holding [v] (eval o X.env)
 let iv<-holding [v,ov] (eval i X.env)
 standAt pos
 holding [v,ov,iv] (setItem ov iv v)
 release [v,ov,iv] []):=by intro _;rfl):PG X (.Subscript o i pos) (a7Q to ti t):=by
 intro ak s O H v u Q I r h;rw[ha];erw[aL (m6 (ba (ho ak s O H _ I h) λov s1 #[x,H1,I1,r1,q1]=>?_))];erw[aL (m6 (ba (hi ak s1 O H1 _ I1 q1) λiv s2 #[y,H2,I2,r2,q2]=>?_))];erw[aL (A4 (aL (m6 (ba (hs ak s2 O H2 x y v ov iv u _ I2 r1 r2 r q2) λ_ s3 #[H3,I3,q3]=>?_))))];erw[wpAny_release #[O,H3,I3,q3]]
def AR(te:TE)(g:TG):TS:=λD O H=>te O H λx H1=>g x O H1 D.nx
theorem fh{tg e:Expr}{te:TE}{g:TG}(he:PE X e te)(hg:PG X tg g)(hs:autoParam (swapsWithSole [tg] e pos.line X.env=pure false) r8_._auto_1)(hw:autoParam (swappedStores [tg] e X.env=pure none) r8_._auto_1) (h1:autoParam ((assignEach [tg] X.env).map (·.2)=[assign tg X.env]) r8_._auto_1):PS X (.Assign [tg] e pos) (AR te g):=by intro ak s O H D I h;erw[wpAny_Assign_stores (ba (he ak s O H _ I h) λv s1 #[x,H1,I1,r1,q1]=>?_) hs hw];rw[h1];erw[ba (hg ak s1 O H1 x v _ I1 r1 q1) λ_ s2 q=>q]
theorem ZK{i:Nat}{x:Str}{e:Expr}{te:TE}{pos':Pos}(hN:X.N.Nodup)(hi:X.N[i]? =some x)(hx:Loc X.env.scope x)(he:PE X e te)(hs:autoParam (swapsWith e (some (.Name x pos')) pos.line X.env=pure false) r8_._auto_1)(hf:autoParam (X.fn x=true\/X.env.scope.names.lookup x=some .local) d8_._auto_1): PS X (.Assign [.Name x pos'] e pos) (AR te (gc i)):=by intro ak s O H D I h;erw[wpAny_Assign_Name (ba (he ak s O H _ I h) λv s1 #[y,H1,I1,r1,q1]=>?_) hs];erw[AU I1 hN hi hx r1 (λs2 I2=>#[_,H1,I2,q1]) hf]
inductive abn(i:Nat)(j:Nat)(D:Ends)(O:St)(vs:List V)(H1:Hp):Prop |mk (v:_)(w:_)(h0:vs=[v,w])(h1:D.nx ((O.set i (some v)).set j (some w)) H1)
def Xd(i j:Nat)(ta:TA):TS:=λD O H=>ta O H λvs H1=>abn i j D O vs H1
theorem Hk{i j:Nat}{x y:Str}{a b:Expr}{ta:TA}{px py pt:Pos} {kt k2 Hi}(hc:X.calm=true)(hN:X.N.Nodup)(hi:X.N[i]? =some x)(hj:X.N[j]? =some y)(hij:i≠j) (hx:X.env.scope.names.lookup x=some .local)(hy:X.env.scope.names.lookup y=some .local)(ha:PA X [a,b] ta) (hw:swappedStores [.Tuple [.Name x px,.Name y py] kt pt] (.Tuple [a,b] k2 Hi) X.env=pure (some [x,y])) (hs:autoParam (swapsWithSole [.Tuple [.Name x px,.Name y py] kt pt] (.Tuple [a,b] k2 Hi) pos.line X.env=pure false) r8_._auto_1): PS X (.Assign [.Tuple [.Name x px,.Name y py] kt pt] (.Tuple [a,b] k2 Hi) pos) (Xd i j ta):=by
 intro ak s O H D I h;rw[exec_Assign_arm];erw[aL (A4 ?_)];rw[hs];erw[aL (cn ?_)];rw[bo ay];erw[aL (Tuple_ (ba (ha _ ak s O H _ I h) λus s1 #[vs,H1,I1,r1,q1]=>?_))];let(v,w,e1,q1):=q1;subst e1;obtain⟨u1,u2,rfl,rv,eQ⟩:∃u1 u2,us=[u1,u2]/\RelV v u1/\RelV w u2:=by cases r1 with |cons p q=>cases q with |cons p' q'=>cases q';erw[_,_,Z,p,p']
 erw[nH ?_ (by show 2<=sizeLine;decide)];have I2:Inv X ak O H1 {s1 with heap:=s1.heap.push {cls:=.type "tuple",data:=.seq [u1,u2].toArray}}:=I1.kept (t':=s1.toks) λb o e=>cx _ e;rw[hw];erw[aL (cn ?_)];show wpAny (model X.prog X.w) X.A (do rule "assign.swapped-stores";let items<-unpackItems (.ref s1.heap.objs.size) 2 none;assignInOrder [λv=>bindName X.env y v,λv=>bindName X.env x v] items.reverse;pure Flow.next) _ _ _;erw[aL (A6 (aL (unpackItems_tuple (items:=(List.toArray [u1,u2])) (I.ok.hd hc) (IsTup.new s1.heap _) λh' hx'=>?_)))];have I3:=I2.kept (h':=h') (t':=s1.toks) λb o e=>hx' b o (dY (ck e)) e;show wpAny _ _ (assignInOrder [λv=>bindName X.env y v,λv=>bindName X.env x v] [u2,u1]>>=λ_=>pure Flow.next) _ _ _;erw[aL (xC (wpAny_bindName (AU I3 hN hj (.inl hy) eQ (λs2 I4=>?_) (.inr hy))))];erw[xC (wpAny_bindName (AU I4 hN hi (.inl hx) rv (λs3 I5=>Lr (cn ?_)) (.inr hx)))];rw[List.set_comm _ _ (jJ hij)]at I5;erw[_,H1,I5,q1]
inductive adn(f:Int->Int->Int)(x:V)(y:V)(H:Hp)(Q:VK):Prop |mk (i:_)(j:_)(h0:x= .int i)(h1:y= .int j)(h2:Q (.int (f i j)) H)
def ipI(f:Int->Int->Int):Vh:=λx y H Q=>adn f x y H Q
theorem a4H:PIp X .Add (ipI λi j=>i+j):=by intro ak s O H x y v u Q I r1 r2 h;let(i,j,e1,e2,q):=h;subst e1;subst e2;let(t,rfl):=r1;let(t',rfl):=r2;erw[iadd_int #[.int _,H,I.tok _,#[_,Z],q]]
def Md(c:TT)(tb:TS):TS:=λD O H=>∃W:Nat->St->Hp->Prop,(∃m,W m O H)/\∀m O H,W m O H->c O H λb H1=>if b=true then∃N:St->Hp->Prop,(∀σ' H',N σ' H'->∃m',m'<m/\W m' σ' H')/\tb {D with nx:=N,ct:=N,bk:=D.nx} O H1 else D.nx O H1
theorem vQ{c:Expr}{body:List Stmt}{tc:TT}{tb:TS}(hp:PassesOwn (model X.prog X.w) X.A X.env X.xe)(hc:PT X c tc)(hb:fT X body tb):PS X (.While c body [] pos) (Md tc tb):=by intro ak s O H D I h;let(W,(m0,w0),turn):=h;erw[wpAny_While (codeAny_whileLoop (λn s'=>∃σ' H',Inv X ak σ' H' s'/\W n σ' H') ?_ m0 #[O,H,I,w0])];rintro n s1 ⟨σ1,H1,I1,w1⟩;erw[xA hp (ba (hc ak s1 σ1 H1 _ I1 (turn n σ1 H1 w1)) λb s2 #[H2,I2,q2]=>?_)];cases b with
 |true=>let(N,hN,q2):=q2;rw[bu rfl];erw[xA hp (ba (hb ak s2 σ1 H2 _ I2 q2) λf s3 q3=>?_)];cases f with |next=>let(σ3,H3,I3,n3):=q3;let(m',hm,w3):=hN σ3 H3 n3;erw[m',hm,σ3,H3,I3,w3] |cont=>let(σ3,H3,I3,n3):=q3;let(m',hm,w3):=hN σ3 H3 n3;erw[m',hm,σ3,H3,I3,w3] |brk=>erw[q3] |ret v=>erw[q3]
 |false=>rw[bo dR];erw[DE #[σ1,H2,I2,q2]]
end
structure It where
 go:Nat->Hp->Prop
 lB:Nat->Hp->V->Hp->Prop
 stop:Nat->Hp->Prop
def lg(X:Cx)(ak:List (Addr×Obj))(H:Hp)(b:Addr):Prop:=H b=none/\b≠X.env.locals/\b∉X.fs/\(b∈X.ex\/X.s₀.heap.objs.size<=b)/\(∀x c,X.env.cells.lookup x=some c->c≠b)/\∀p∈X.pn++ak,p.1≠b
theorem Inv.uD{X:Cx}{ak:List (Addr×Obj)}{O:St}{H H':Hp}{s:ae}{b:Addr}(I:Inv X ak O H s)(hb:s.heap.objs.size<=b)(hn:H' b=none):lg X ak H' b:=by
 erw[hn,LH (gO I.lt hb),I.a2R hb,.inr (j7 I.sz hb),λx c e z=>?_,λp hp z=>?_]
 ·let(v,q):=I.cell x c e
  erw[absurd (gO q.lt (by rw[z];erw[hb])) (vb _)]
 ·erw[absurd (gO (ck (I.pin p hp).1) (by rw[z];erw[hb])) (vb _)]
structure Turn(P:af)(w:World)(K:aa)(tg:Expr)(J:It)(fp:List Addr)(it:Addr)(tn:Nat->Heap->Prop):Prop where
 mem:it∈fp
 obj:∀i h,tn i h->∀b∈fp,∃o,h.get? b=some o/\∀v,o.data≠ .cell v
 keep:∀i h h',tn i h->(∀b∈fp,∀o,h.get? b=some o->h'.get? b=some o)->tn i h'
 item:∀(X:Cx),X.prog=P->X.w=w->X.K=K->X.calm=true->∀(i:Nat)(ak:List (Addr×Obj))(s:ae)(O:St)(H:Hp)(E:Value->ae->Prop),Inv X ak O H s->(∀b∈fp,lg X ak H b)->tn i s.heap->J.go i H->wpAny (model P w) X.A (pyNext (.ref it)) (λr s1=>∃u,r=some u/\wpAny (model P w) X.A (letOwnedTupleGo tg (.ref it) u) (λ_ s2=>∃x H',Inv X ak O H' s2/\RelV x u/\J.lB i H x H'/\tn (i+1) s2.heap/\∀b∈fp,H' b=none) E s1) E s
 done:∀(X:Cx),X.prog=P->X.w=w->X.K=K->X.calm=true->∀(i:Nat)(ak:List (Addr×Obj))(s:ae)(O:St)(H:Hp)(E:Value->ae->Prop),Inv X ak O H s->(∀b∈fp,lg X ak H b)->tn i s.heap->J.stop i H->wpAny (model P w) X.A (pyNext (.ref it)) (λr s1=>r=none/\Inv X ak O H s1) E s
 self:∀(A:ah)(i:Nat)(s:ae)(Q:Value->ae->Prop)(E:Value->ae->Prop),tn i s.heap->Q (.ref it) s->wpAny (model P w) A (pyIter (.ref it)) Q E s
abbrev TI:=St->Hp->(It->Hp->Prop)->Prop
def L9(X:Cx)(ak:List (Addr×Obj))(O:St)(tg:Expr)(R:It->Hp->Prop)(C2:Value)(s2:ae):Prop:=∃(it:Addr)(fp:List Addr)(tn:Nat->Heap->Prop)(J:It)(H':Hp),C2= .ref it/\Inv X ak O H' s2/\Turn X.prog X.w X.K tg J fp it tn/\tn 0 s2.heap/\(∀b∈fp,lg X ak H' b)/\R J H'
def PI(X:Cx)(tg iter:Expr)(wi:TI):Prop:=∀(ak:List (Addr×Obj))(s:ae)(O:St)(H:Hp)(R:It->Hp->Prop),Inv X ak O H s->wi O H R->wpAny (model X.prog X.w) X.A (eval iter X.env) (λv s1=>wpAny (model X.prog X.w) X.A (pyIter v) (L9 X ak O tg R) X.xe s1) X.xe s
theorem zy{M:Model}{A:ah}{E:Value->ae->Prop}{s:ae}{tg:Expr}{it:Addr}{u:Value}{o:Obj}{n:String}{vs:Array Value}{Q:Unit->ae->Prop}(ho:s.heap.get? it=some o)(hc:o.cls= .type n)(hd:o.data= .fields vs) (hn:["enumerate","zip","dict_itemiterator","dict_reverseitemiterator","odict_iterator","itertools.zip_longest","itertools.pairwise"].contains n=false)(hQ:Q () s):wpAny M A (letOwnedTupleGo tg (.ref it) u) Q E s:=by unfold letOwnedTupleGo;cases tg<;>first |erw[cn hQ] |(cases u<;>first
        |erw[cn hQ]
        | (erw[aL (wpAny_load ho ?_)]
           rw[hc,hd];show wpAny M A (if(["enumerate","zip","dict_itemiterator","dict_reverseitemiterator","odict_iterator","itertools.zip_longest","itertools.pairwise"].contains n&&vs[0]? ==some (rawInt _))=true then _ else _) Q E s;rw[bo (by intro h;rw[hn,jm]at h;cases h)];erw[cn hQ]))
def rX(K:aa)(a:Addr):It:=#[λi H=>∃xs x,aE K H a xs/\xs[i]? =some x,λi H x H'=>H'=H/\∀xs,aE K H a xs->xs[i]? =some x,λi H=>∃xs,aE K H a xs/\xs.length<=i]
def A1(K:aa)(a:Addr):It:=#[λi H=>∃xs x,bc K H a xs/\xs[i]? =some x,λi H x H'=>H'=H/\∀xs,bc K H a xs->xs[i]? =some x,λi H=>∃xs,bc K H a xs/\xs.length<=i]
def qg(lo:Int)(n:Nat):It:=#[λi _=>i<n,λi H x H'=>H'=H/\x= .int (lo+i),λi _=>n<=i]
theorem WK{P:af}{w:World}{K:aa}{tg:Expr}(a it:Addr):Turn P w K tg (rX K a) [it] it (λi h=>h.IsListIter it a i) where
 mem:=by simp
 obj:=λi h st b hb=>by
  have e:b=it:=by simpa using hb
  subst e;let(o,e,c,d):=st;erw[o,e,λv z=>by rw[d]at z;cases z]
 keep:=λi h h' st k=>st.at λo e=>k it (by simp) o e
 item:=by intro X hP hw hK hc i ak s O H E I hf st hg;subst hP hw hK;let(xs,x,hq,hx):=hg;let(its,rv,p,hz):=I.list hq;let(u,hu,ru):=rv.get hx;let(f0,f1,f2,f3,f4,f5):=hf it (by simp);erw[wpAny_pyNext_list_item st p.isList (x:=u) (by simpa using hu) λh' ie sb=>?_];have I1:Inv X ak O H {s with heap:=h'}:=I.turned (t':=s.toks) (λb o hb e=>(sb.2 b hb).trans e) f0 f1 f3 f4 f5;let(o,e,c,d):=id ie;erw[u,Z,zy (s:={s with heap:=h'}) e c d ay #[x,H,I1,ru,#[Z,λys hy=>by rw[I.RK hy hq];erw[hx]],ie,λb hb=>(hf b hb).1]]
 done:=by intro X hP hw hK hc i ak s O H E I hf st hg;subst hP hw hK;let(xs,hq,hx):=hg;let(its,rv,p,hz):=I.list hq;let(f0,f1,f2,f3,f4,f5):=hf it (by simp);have hl:=rv.length;erw[wpAny_pyNext_list_end (I.ok.hd hc) st p.isList (by simp;lia) λh' eb=>#[Z,I.turned (t':=s.toks) (λb o hb e=>eb b o hb e) f0 f1 f3 f4 f5]]
 self:=λ_ _ _ _ _ st h=>wpAny_pyIter_listiter st h
theorem WG{P:af}{w:World}{K:aa}{tg:Expr}(a it:Addr):Turn P w K tg (A1 K a) [it] it (λi h=>h.IsTupleIter it a i) where
 mem:=by simp
 obj:=λi h st b hb=>by
  have e:b=it:=by simpa using hb
  subst e;let(o,e,c,d):=st;erw[o,e,λv z=>by rw[d]at z;cases z]
 keep:=λi h h' st k=>st.at λo e=>k it (by simp) o e
 item:=by intro X hP hw hK hc i ak s O H E I hf st hg;subst hP hw hK;let(xs,x,hq,hx):=hg;let(its,rv,p,hz):=I.tuple hq;let(u,hu,ru):=rv.get hx;let(f0,f1,f2,f3,f4,f5):=hf it (by simp);erw[wpAny_pyNext_tuple_item st (show s.heap.IsTuple a its.toArray from p) (x:=u) (by simpa using hu) λh' ie sb=>?_];have I1:Inv X ak O H {s with heap:=h'}:=I.turned (t':=s.toks) (λb o hb e=>(sb.2 b hb).trans e) f0 f1 f3 f4 f5;let(o,e,c,d):=id ie;erw[u,Z,zy (s:={s with heap:=h'}) e c d ay #[x,H,I1,ru,#[Z,λys hy=>by rw[I.M9 hy hq];erw[hx]],ie,λb hb=>(hf b hb).1]]
 done:=by intro X hP hw hK hc i ak s O H E I hf st hg;subst hP hw hK;let(xs,hq,hx):=hg;let(its,rv,p,hz):=I.tuple hq;let(f0,f1,f2,f3,f4,f5):=hf it (by simp);have hl:=rv.length;erw[wpAny_pyNext_tuple_end (I.ok.hd hc) st (show s.heap.IsTuple a its.toArray from p) (by simp;lia) λh' eb=>#[Z,I.turned (t':=s.toks) (λb o hb e=>eb b o hb e) f0 f1 f3 f4 f5]]
 self:=λ_ _ _ _ _ st h=>wpAny_pyIter_tupleiter st h
theorem WJ{P:af}{w:World}{K:aa}{tg:Expr}(it:Addr)(lo:Int)(n:Nat):Turn P w K tg (qg lo n) [it] it (λi h=>IsRangeIter h it (lo+(i:Nat)*1) ((n:Int)-(i:Nat)) 1) where
 mem:=by simp
 obj:=λi h st b hb=>by
  have e:b=it:=by simpa using hb
  subst e;erw[_,st,λv z=>by have z':Data.fields _=Data.cell v:=z;cases z']
 keep:=λi h h' st k=>k it (by simp) _ st
 item:=by intro X hP hw hK hc i ak s O H E I hf st hg;subst hP hw hK;let(f0,f1,f2,f3,f4,f5):=hf it (by simp);have W:=Walks.range (prog:=X.prog) (w:=X.w) (I.ok.hd hc) it lo 1 n;erw[W.item i s _ _ hg st λv h' tk hv ie kk=>?_];let(t,rfl):=hv;have I1:Inv X ak O H {s with heap:=h',toks:=tk}:=I.turned (λb o hb e=>kk b o (by simpa using hb) e) f0 f1 f3 f4 f5;erw[_,Z,zy (s:={s with heap:=h',toks:=tk}) (n:="range_iterator") ie rfl rfl ay #[.int (lo+i),H,I1,#[t,?_],#[Z,Z],ie,λb hb=>(hf b hb).1]];rw[Ak]
 done:=by intro X hP hw hK hc i ak s O H E I hf st hg;subst hP hw hK;let(f0,f1,f2,f3,f4,f5):=hf it (by simp);erw[wpAny_pyNext_range_end (I.ok.hd hc) st (by have:n<=i:=hg;lia) λh' eb=>#[Z,I.turned (t':=s.toks) (λb o hb e=>eb b o hb e) f0 f1 f3 f4 f5]]
 self:=λ_ _ _ _ _ st h=>Vv st h
section
variable {X:Cx} {tg:Expr}
inductive adv(K:aa)(R:It->Hp->Prop)(x:V)(H1:Hp):Prop |mk (a:_)(h0:x= .ref a)(h1:(∃xs,aE K H1 a xs))(h2:R (rX K a) H1)
def Sj(K:aa)(tl:TE):TI:=λO H R=>tl O H λx H1=>adv K R x H1
inductive adp(K:aa)(R:It->Hp->Prop)(x:V)(H1:Hp):Prop |mk (a:_)(h0:x= .ref a)(h1:(∃xs,bc K H1 a xs))(h2:R (A1 K a) H1)
def Sh(K:aa)(tl:TE):TI:=λO H R=>tl O H λx H1=>adp K R x H1
theorem ZZ{l:Expr}{tl:TE}(hl:PE X l tl):PI X tg l (Sj X.K tl):=by
 intro ak s O H R I h;erw[ba (hl ak s O H _ I h) λv s1 #[x,H1,I1,r1,q1]=>?_];let(a,e,(xs,hq),q):=q1;subst e;cases r1;let(its,rv,p,hz):=I1.list hq;erw[xy p.isList ?_];erw[s1.heap.objs.size,[s1.heap.objs.size],_,_,H1,Z,I1.kept (t':=s1.toks) λb o e=>cx _ e,WK a _,#[_,eP _ Z,Z,Z],λb hb=>?_,q];have e:b=s1.heap.objs.size:=by simpa using hb
 subst e;erw[I1.uD (bV _) (I1.bA.fresh (bV _))]
theorem ZW{l:Expr}{tl:TE}(hl:PE X l tl):PI X tg l (Sh X.K tl):=by
 intro ak s O H R I h;erw[ba (hl ak s O H _ I h) λv s1 #[x,H1,I1,r1,q1]=>?_];let(a,e,(xs,hq),q):=q1;subst e;cases r1;let(its,rv,p,hz):=I1.tuple hq;erw[wpAny_pyIter_tuple (show s1.heap.IsTuple a its.toArray from p) ?_];erw[s1.heap.objs.size,[s1.heap.objs.size],_,_,H1,Z,I1.kept (t':=s1.toks) λb o e=>cx _ e,WG a _,#[_,eP _ Z,Z,Z],λb hb=>?_,q];have e:b=s1.heap.objs.size:=by simpa using hb
 subst e;erw[I1.uD (bV _) (I1.bA.fresh (bV _))]
theorem Q4{ak:List (Addr×Obj)}{O:St}{H:Hp}{s:ae}{R:It->Hp->Prop}{E:Value->ae->Prop}{lo hi:Int}{t u v:Tok}{tk:Nat}(I:Inv X ak O H s)(h1:-(2^62)<=lo)(h2:lo<2^62)(h3:-(2^62)<=hi)(h4:hi<2^62) (q:R (qg lo (hi-lo).toNat) H):wpAny (model X.prog X.w) X.A (pyIter (.ref s.heap.objs.size)) (L9 X ak O tg R) E {s with heap:=s.heap.push {cls:=.type "range",data:=.fields (List.toArray [.int lo t,.int hi u,.int 1 v])},toks:=tk}:=by
 erw[wpAny_pyIter_range (IsRange.new ..) (small_one h1 h2 h3 h4) ?_];have I1:Inv X ak O H {s with heap:=s.heap.push {cls:=.type "range",data:=.fields (List.toArray [.int lo t,.int hi u,.int 1 v])},toks:=tk}:=I.kept λb o e=>cx _ e;erw[(s.heap.push {cls:=.type "range",data:=.fields (List.toArray [.int lo t,.int hi u,.int 1 v])}).objs.size,[(s.heap.push {cls:=.type "range",data:=.fields (List.toArray [.int lo t,.int hi u,.int 1 v])}).objs.size],_,_,H,Z,I1.kept (t':=tk) λb o e=>cx _ e,WJ _ lo (hi-lo).toNat,?_,λb hb=>?_,q]
 ·have e1:lo+((0:Nat):Int)*1=lo:=by simp
  have e2:(((hi-lo).toNat:Nat):Int)-((0:Nat):Int)=Builtin.Range.rangeSize lo hi 1:=by rw[rangeSize_one];split<;>lia
  show IsRangeIter _ _ (lo+((0:Nat):Int)*1) ((((hi-lo).toNat:Nat):Int)-((0:Nat):Int)) 1;rw[e1,e2];erw[eP _ rfl]
 ·have e:b=(s.heap.push {cls:=.type "range",data:=.fields (List.toArray [.int lo t,.int hi u,.int 1 v])}).objs.size:=by simpa using hb
  subst e;erw[I1.uD (bV _) (I1.bA.fresh (bV _))]
inductive adt(R:It->Hp->Prop)(vs:List V)(H1:Hp):Prop |mk (j:Int)(h0:vs=[.int j])(h1:-(2^62)<=j)(h2:j<2^62)(h3:R (qg 0 j.toNat) H1)
def a4W(ta:TA):TI:=λO H R=>ta O H λvs H1=>adt R vs H1
inductive ads(R:It->Hp->Prop)(vs:List V)(H1:Hp):Prop |mk (i:Int)(j:Int)(h0:vs=[.int i,.int j])(h1:(-(2^62)<=i/\i<2^62/\-(2^62)<=j/\j<2^62))(h2:R (qg i (j-i).toNat) H1)
def a4V(ta:TA):TI:=λO H R=>ta O H λvs H1=>ads R vs H1
theorem tK{a:Expr}{ta:TA}{p pos:Pos}(hg:Gl X "range")(hm:X.mg "range"=none)(ha:PA X [a] ta)(hs:autoParam (starEach [a] X.env=[(false,eval a X.env)]) r8_._auto_1):PI X tg (.Call (.Name "range" p) [a] [] pos) (a4W ta):=by intro ak s O H R I h;erw[Call_ (uc I hg hm boot_range (DJ (ba (ha pos ak s O H _ I h) λus s1 #[vs,H1,I1,r1,q1]=>?_) hs Z))];let(j,e,q1,q2,q):=q1;subst e;cases r1 with |cons r rr=>cases rr;let(t,rfl):=r;erw[call_range_1 (Q4 I1 au au q1 q2 (by simpa using q))]
theorem ZY{a b:Expr}{ta:TA}{p pos:Pos}(hg:Gl X "range")(hm:X.mg "range"=none)(ha:PA X [a,b] ta)(hs:autoParam (starEach [a,b] X.env=[(false,eval a X.env),(false,eval b X.env)]) r8_._auto_1)(mI:autoParam (starEach [b] X.env=[(false,eval b X.env)]) r8_._auto_1): PI X tg (.Call (.Name "range" p) [a,b] [] pos) (a4V ta):=by intro ak s O H R I h;erw[Call_ (uc I hg hm boot_range (DJ (ba (ha pos ak s O H _ I h) λus s1 #[vs,H1,I1,r1,q1]=>?_) (by rw[hs,mI]) (by rw[mI];rfl)))];let(i,j,e,(q1,q2,q3,q4),q):=q1;subst e;cases r1 with |cons r rr=>cases rr with |cons r' rr=>cases rr;let(t,rfl):=r;let(t',rfl):=r';erw[call_range_2 (Q4 I1 q1 q2 q3 q4 q)]
def Xo(wi:TI)(g:TG)(tb:TS):TS:=λD O H=>wi O H λJ H1=>∃W:Nat->Nat->St->Hp->Prop,(∃m,W 0 m O H1)/\∀i m O H,W i m O H->(J.stop i H/\D.nx O H)\/(J.go i H/\∃N:St->Hp->Prop,(∀σ' H',N σ' H'->∃m',m'<m/\W (i+1) m' σ' H')/\∀x H',J.lB i H x H'->g x O H' λσ2 H2=>tb {D with nx:=N,ct:=N,bk:=D.nx} σ2 H2)
def vU(fp:List Addr)(h:Heap):List (Addr×Obj):=fp.filterMap λb=>(h.get? b).map λo=>(b,o)
theorem wB{fp:List Addr}{h:Heap}{b:Addr}{o:Obj}(hb:b∈fp)(e:h.get? b=some o):(b,o)∈vU fp h:=oJ.mpr #[b,hb,by rw[e];rfl]
theorem a2q{fp:List Addr}{h:Heap}{p:Addr×Obj}(hp:p∈vU fp h):p.1∈fp/\h.get? p.1=some p.2:=by let(b,hb,e):=oJ.mp hp;cases q:h.get? b with |none=>rw[q]at e;cases e |some o=>rw[q]at e;have e':(b,o)=p:=dQ e;subst e';erw[hb,q]
theorem Inv.pinned{ak:List (Addr×Obj)}{O:St}{H:Hp}{s:ae}{fp:List Addr}(I:Inv X ak O H s)(hf:∀b∈fp,lg X ak H b)(ho:∀b∈fp,∃o,s.heap.get? b=some o/\∀v,o.data≠ .cell v):Inv X (ak++vU fp s.heap) O H s:=I.Qg λp hp=>(jj.mp hp).elim (λz=>I.pin p (kG _ z)) λz=>by let(hb,e):=a2q z;let(f0,f1,f2,_):=hf p.1 hb;let(o,e',d):=ho p.1 hb;rw[e]at e';cases e';erw[e,f0,f1,f2,d]
theorem Inv.xS{ak pl:List (Addr×Obj)}{O:St}{H:Hp}{s:ae}(I:Inv X (ak++pl) O H s):Inv X ak O H s:=I.Qg λp hp=>I.pin p (kG _ (LL _ hp))
theorem mq{iter:Expr}{body:List Stmt}{wi:TI}{g:TG}{tb:TS}{pos:Pos}(hp:PassesOwn (model X.prog X.w) X.A X.env X.xe)(hc:X.calm=true)(hi:PI X tg iter wi)(hg:PG X tg g)(hb:fT X body tb) (hs:autoParam (∀x,foldedSetIterable iter X.env x=pure x) d8_._auto_1):PS X (.For tg iter body [] pos) (Xo wi g tb):=by
 intro ak s O H D I h;erw[wpAny_For (ba (hi ak s O H _ I h) λv s1 h1=>ba h1 λC2 s2 h2=>?_) hs];let(it,fp,tn,J,H2,e,I2,T,sS,f2,W,(m0,w0),turn):=h2;subst e;have md:∀{H':Hp},(∀b∈fp,H' b=none)->∀b∈fp,lg X ak H' b:=λhn b hb=>#[hn b hb,(f2 b hb).2];erw[codeAny_forLoop_any (λn s'=>∃i σ' H',Inv X ak σ' H' s'/\tn i s'.heap/\(∀b∈fp,H' b=none)/\W i n σ' H') ?_ m0 #[0,O,H2,I2,sS,λb hb=>(f2 b hb).1,w0]];rintro n s3 ⟨i,σ3,H3,I3,MI,Tr,w3⟩;rcases turn i n σ3 H3 w3 with⟨stop,qn⟩|⟨go,N,hN,step⟩
 ·erw[xA hp (ba (T.done X Z Z Z hc i ak s3 σ3 H3 X.xe I3 (md Tr) MI stop) λr s4 #[hr,I4]=>?_)]
  subst hr;erw[DE #[σ3,H3,I4,qn]]
 ·erw[xA hp (ba (T.item X Z Z Z hc i ak s3 σ3 H3 X.xe I3 (md Tr) MI go) λr s4 #[u,hr,h4]=>?_)]
  subst hr;erw[xA hp (ba h4 λ_ s5 #[x,H5,I5,r5,y5,oT,uB]=>?_)];have I5':=I5.pinned (md uB) (T.obj _ _ oT);erw[xA hp (ba (hg _ s5 σ3 H5 x u _ I5' r5 (step x H5 y5)) λ_ s6 #[σ6,H6,I6,q6]=>?_)];erw[xA hp (ba (hb _ s6 σ6 H6 _ I6 q6) λf s7 q7=>?_)];have again:∀{σ7:St}{H7:Hp},Inv X (ak++vU fp s5.heap) σ7 H7 s7->N σ7 H7->∃m,m<n/\∃i σ' H',Inv X ak σ' H' s7/\tn i s7.heap/\(∀b∈fp,H' b=none)/\W i m σ' H':=λ{σ7 H7} I7 n7=>by let(m',hm,w7):=hN σ7 H7 n7;erw[m',hm,i+1,σ7,H7,I7.xS,T.keep _ _ _ oT λb hb o e=>(I7.pin (b,o) (kG _ (kG _ (wB hb e)))).1,λb hb=>?_,w7];let(o,e,d):=T.obj _ _ oT b hb;exact(I7.pin (b,o) (kG _ (kG _ (wB hb e)))).2.1
  cases f with |next=>let(σ7,H7,I7,n7):=q7;erw[again I7 n7] |cont=>let(σ7,H7,I7,n7):=q7;erw[again I7 n7] |brk=>let(σ7,H7,I7,q7):=q7;erw[σ7,H7,I7.xS,q7] |ret v=>let(x7,σ7,H7,I7,r7,q7):=q7;erw[x7,σ7,H7,I7.xS,r7,q7]
end
theorem CH{K:aa}{a:Addr}{xs:List V}{g:TG}{tb:TS}{D:Ends}{O:St}{H:Hp}(Pv:Nat->St->Hp->Prop)(h0:Pv 0 O H)(hl:∀i O H,i<=xs.length->Pv i O H->aE K H a xs) (hs:∀i x O H,xs[i]? =some x->Pv i O H->g x O H λσ2 H2=>tb {D with nx:=Pv (i+1),ct:=Pv (i+1),bk:=D.nx} σ2 H2)(hd:∀O H,Pv xs.length O H->D.nx O H): ∃W:Nat->Nat->St->Hp->Prop,(∃m,W 0 m O H)/\∀i m O H,W i m O H->((rX K a).stop i H/\D.nx O H)\/((rX K a).go i H/\∃N:St->Hp->Prop,(∀σ' H',N σ' H'->∃m',m'<m/\W (i+1) m' σ' H')/\∀x H',(rX K a).lB i H x H'->g x O H' λσ2 H2=>tb {D with nx:=N,ct:=N,bk:=D.nx} σ2 H2):=by
 erw[λi m O H=>m=xs.length-i/\i<=xs.length/\Pv i O H,#[xs.length,by simp,gM _,h0],?_];rintro i m O H ⟨rfl,hi,p⟩;have q:=hl i O H hi p;by_cases cK:i<xs.length
 ·erw[.inr #[#[xs,xs[i],q,by simp[cK]],Pv (i+1),λσ' H' p'=>#[xs.length-(i+1),au,Z,cK,p'],λx H' y=>?_]]
  let(e,y):=y;subst e;erw[hs i x O _ (y xs q) p]
 ·have e:i=xs.length:=by lia
  subst e;erw[.inl #[#[xs,q,bV _],hd O H p]]
theorem CG{lo:Int}{n:Nat}{g:TG}{tb:TS}{D:Ends}{O:St}{H:Hp}(Pv:Nat->St->Hp->Prop)(h0:Pv 0 O H) (hs:∀i O H,i<n->Pv i O H->g (.int (lo+i)) O H λσ2 H2=>tb {D with nx:=Pv (i+1),ct:=Pv (i+1),bk:=D.nx} σ2 H2)(hd:∀O H,Pv n O H->D.nx O H): ∃W:Nat->Nat->St->Hp->Prop,(∃m,W 0 m O H)/\∀i m O H,W i m O H->((qg lo n).stop i H/\D.nx O H)\/((qg lo n).go i H/\∃N:St->Hp->Prop,(∀σ' H',N σ' H'->∃m',m'<m/\W (i+1) m' σ' H')/\∀x H',(qg lo n).lB i H x H'->g x O H' λσ2 H2=>tb {D with nx:=N,ct:=N,bk:=D.nx} σ2 H2):=by
 erw[λi m O H=>m=n-i/\i<=n/\Pv i O H,#[n,by simp,gM _,h0],?_];rintro i m O H ⟨rfl,hi,p⟩;by_cases cK:i<n
 ·erw[.inr #[cK,Pv (i+1),λσ' H' p'=>#[n-(i+1),au,Z,cK,p'],λx H' y=>?_]]
  let(e,y):=y;subst e y;erw[hs i O _ cK p]
 ·have e:i=n:=by lia
  subst e;erw[.inl #[bV _,hd O H p]]
theorem vn{c:TT}{tb:TS}{D:Ends}{O:St}{H:Hp}(Pv:St->Hp->Prop)(μ:St->Hp->Nat)(h0:Pv O H) (hs:∀O H,Pv O H->c O H λb H1=>if b=true then tb {D with nx:=λσ' H'=>Pv σ' H'/\μ σ' H'<μ O H,ct:=λσ' H'=>Pv σ' H'/\μ σ' H'<μ O H,bk:=D.nx} O H1 else D.nx O H1) (mono:∀O H Q Q',(∀b H1,Q b H1->Q' b H1)->c O H Q->c O H Q'):Md c tb D O H:=by erw[λm O H=>m=μ O H/\Pv O H,#[_,Z,h0],?_];rintro m O H ⟨rfl,p⟩;erw[mono O H _ _ (λb H1 q=>?_) (hs O H p)];cases b with |true=>erw[_,λσ' H' #[p',l]=>#[_,l,Z,p'],q] |false=>erw[q]
abbrev R2:=V->V->Hp->VK->Prop
def cV(X:Cx)(f:Value->Value->Sem Value)(r:R2):Prop:=∀(ak:List (Addr×Obj))(s:ae)(O:St)(H:Hp)(x y:V)(v u:Value)(Q:VK),Inv X ak O H s->RelV x v->RelV y u->r x y H Q->wpAny (model X.prog X.w) X.A (f v u) (EP X ak O Q) X.xe s
def L3(X:Cx)(f:Value->Sem Value)(r:V->Hp->VK->Prop):Prop:=∀(ak:List (Addr×Obj))(s:ae)(O:St)(H:Hp)(x:V)(v:Value)(Q:VK),Inv X ak O H s->RelV x v->r x H Q->wpAny (model X.prog X.w) X.A (f v) (EP X ak O Q) X.xe s
def fq(X:Cx)(f:Value)(r:List V->Hp->VK->Prop):Prop:=∀(ak:List (Addr×Obj))(s:ae)(O:St)(H:Hp)(xs:List V)(us:List Value)(Q:VK),Inv X ak O H s->Vals xs us->r xs H Q->wpAny (model X.prog X.w) X.A (call f us) (EP X ak O Q) X.xe s
def abd(X:Cx)(r:V->Hp->(Bool->Hp->Prop)->Prop):Prop:=∀(ak:List (Addr×Obj))(s:ae)(O:St)(H:Hp)(x:V)(v:Value)(Q:Bool->Hp->Prop),Inv X ak O H s->RelV x v->r x H Q->wpAny (model X.prog X.w) X.A (truthy v) (TP X ak O Q) X.xe s
def xY(r:R2)(ta tb:TE):TE:=λO H Q=>ta O H λx H1=>tb O H1 λy H2=>r x y H2 Q
def X6(r:V->Hp->VK->Prop)(ta:TE):TE:=λO H Q=>ta O H λx H1=>r x H1 Q
inductive IrI(C:Int->Int->Prop)(g:Int->Int->V)(x:V)(y:V)(H:Hp)(Q:VK):Prop |mk (i:_)(j:_)(h0:x= .int i)(h1:y= .int j)(h2:C i j)(h3:Q (g i j) H)
def rI(C:Int->Int->Prop)(g:Int->Int->V):R2:=λx y H Q=>IrI C g x y H Q
inductive adf(g:Int->Int->V)(x:V)(y:V)(H:Hp)(Q:VK):Prop |mk (i:_)(j:_)(h0:x= .int i)(h1:y= .int j)(h2:Q (g i j) H)
def kl(g:Int->Int->V):R2:=λx y H Q=>adf g x y H Q
inductive IrU(g:Int->V)(x:V)(H:Hp)(Q:VK):Prop |mk (i:_)(h0:x= .int i)(h1:Q (g i) H)
def rU(g:Int->V):V->Hp->VK->Prop:=λx H Q=>IrU g x H Q
section
variable {X:Cx}{a b c:Expr}{ta tb tc:TE}{pos:Pos}
theorem KG(ha:PE X a ta)(hb:PE X b tb){ak:List (Addr×Obj)}{s:ae}{O:St}{H:Hp}{R:V->V->Hp->Prop}(I:Inv X ak O H s) (h:ta O H λx H1=>tb O H1 λy H2=>R x y H2){Q:Value->ae->Prop}{f:Value->Value->Sem Value} (hf:∀v u s2 x y H2,Inv X ak O H2 s2->RelV x v->RelV y u->R x y H2->wpAny (model X.prog X.w) X.A (f v u) Q X.xe s2): wpAny (model X.prog X.w) X.A (eval a X.env) (λv s₁=>wpAny (model X.prog X.w) X.A (eval b X.env) (λu s₂=>wpAny (model X.prog X.w) X.A (f v u) Q X.xe s₂) X.xe s₁) X.xe s:=by erw[ba (ha ak s O H _ I h) λv s1 #[x,H1,I1,r1,q1]=>?_];erw[ba (hb ak s1 O H1 _ I1 q1) λu s2 #[y,H2,I2,r2,q2]=>?_];erw[hf v u s2 x y H2 I2 r1 r2 q2]
theorem aQ{op:Operator}{r:R2}(ho:cV X (binaryOp op) r)(ha:PE X a ta)(hb:PE X b tb):PE X (.BinOp a op b pos) (xY r ta tb):=by intro ak s O H Q I h;erw[wpAny_BinOp (KG ha hb I h λv u s2 x y H2 I2 rx ry q=>ho ak s2 O H2 x y v u Q I2 rx ry q)]
theorem kO{op:UnaryOp}{r:V->Hp->VK->Prop}(ho:L3 X (unaryOp op) r)(ha:PE X a ta):PE X (.UnaryOp op a pos) (X6 r ta):=by intro ak s O H Q I h;erw[UnaryOp_ (ba (ha ak s O H _ I h) λv s1 #[x,H1,I1,r1,q1]=>ho ak s1 O H1 x v Q I1 r1 q1)]
theorem yD{f:Value->Value->Sem Value}{C:Int->Int->Prop}{g:Int->Int->Int} (rule:∀(i j:Int)(t u:Tok)(s:ae)(Q:Value->ae->Prop)(E:Value->ae->Prop),C i j->Q (.int (g i j) s.toks) {s with toks:=s.toks+1}->wpAny (model X.prog X.w) X.A (f (.int i t) (.int j u)) Q E s): cV X f (rI C λi j=>.int (g i j)):=by intro ak s O H x y v u Q I rx ry h;let(i,j,rfl,rfl,hc,q):=h;let(t,rfl):=rx;let(t',rfl):=ry;erw[rule i j t t' s _ _ hc #[.int (g i j),H,I.tok _,#[_,Z],q]]
theorem Qx{f:Value->Value->Sem Value}{g:Int->Int->Int} (rule:∀(i j:Int)(t u:Tok)(s:ae)(Q:Value->ae->Prop)(E:Value->ae->Prop),Q (.int (g i j) s.toks) {s with toks:=s.toks+1}->wpAny (model X.prog X.w) X.A (f (.int i t) (.int j u)) Q E s): cV X f (kl λi j=>.int (g i j)):=by intro ak s O H x y v u Q I rx ry h;let(i,j,rfl,rfl,q):=h;let(t,rfl):=rx;let(t',rfl):=ry;erw[rule i j t t' s _ _ #[.int (g i j),H,I.tok _,#[_,Z],q]]
theorem vY{f:Value->Value->Sem Value}{g:Int->Int->Bool} (rule:∀(i j:Int)(t u:Tok)(s:ae)(Q:Value->ae->Prop)(E:Value->ae->Prop),Q (.bool (g i j)) s->wpAny (model X.prog X.w) X.A (f (.int i t) (.int j u)) Q E s): cV X f (kl λi j=>.bl (g i j)):=by intro ak s O H x y v u Q I rx ry h;let(i,j,rfl,rfl,q):=h;let(t,rfl):=rx;let(t',rfl):=ry;erw[rule i j t t' s _ _ #[.bl (g i j),H,I,Z,q]]
def adJ(i j:Int):Prop:=0<=j/\j<=1000000/\i.natAbs<2^64
theorem dv:cV X (binaryOp .Add) (kl λi j=>.int (i+j)):=Qx λ_ _ _ _ _ _ _ q=>add_int q
theorem iK:cV X (binaryOp .Sub) (kl λi j=>.int (i-j)):=Qx λ_ _ _ _ _ _ _ q=>sub_int q
theorem qG:cV X (binaryOp .Mod) (rI (λ_ j=>0<j) λi j=>.int (i%j)):=yD λi j _ _ _ _ _ hc q=>by have h1:(0:Int)<j:=hc;erw[mod_int' au (by rw[Int.fmod_eq_emod_of_nonneg i au];erw[q])]
theorem Bz:cV X (binaryOp .Pow) (rI adJ λi j=>.int (i^j.toNat)):=yD λ_ _ _ _ _ _ _ hc q=>pow_int_small hc.1 hc.2.1 hc.2.2 q
theorem Wz{f:Value->Sem Value}{g:Int->Int} (rule:∀(i:Int)(t:Tok)(s:ae)(Q:Value->ae->Prop)(E:Value->ae->Prop),Q (.int (g i) s.toks) {s with toks:=s.toks+1}->wpAny (model X.prog X.w) X.A (f (.int i t)) Q E s): L3 X f (rU λi=>.int (g i)):=by intro ak s O H x v Q I rx h;let(i,rfl,q):=h;let(t,rfl):=rx;erw[rule i t s _ _ #[.int (g i),H,I.tok _,#[_,Z],q]]
theorem kI:L3 X (unaryOp .USub) (rU λi=>.int (-i)):=Wz λ_ _ _ _ _ q=>neg_int q
end
def NN:V->V->Bool | .bD,.bD=>true| .bD,.int _=>true| .int _,.bD=>true| .bD,.bl _=>true| .bl _,.bD=>true| .bD,.str _=>true| .str _,.bD=>true | .int _,.int _=>true| .bl _,.bl _=>true| .str _,.str _=>true| .kB _,.kB _=>true | .int _,.str _=>true| .str _,.int _=>true| .bl _,.str _=>true| .str _,.bl _=>true |_,_=>false
def ZC:R2:=λx y H Q=>NN x y=true/\Q (.bl (decide (x=y))) H
def Zx:R2:=λx y H Q=>NN x y=true/\Q (.bl (!decide (x=y))) H
theorem Uq{i j:Int}:decide (V.int i=V.int j)=(i==j):=by rw[kb];simp
theorem Us{i j:Bool}:decide (V.bl i=V.bl j)=(i==j):=by rw[kb];simp
theorem Up{i j:Str}:decide (V.str i=V.str j)=(i==j):=by rw[kb];simp
theorem Ur{i j:Array UInt8}:decide (V.kB i=V.kB j)=(i.toList==j.toList):=by rw[kb];cases i;cases j;simp
section
variable {X:Cx}{a b c:Expr}{ta tb tc:TE}{pos:Pos}
theorem eD{ak:List (Addr×Obj)}{O:St}{H:Hp}{s:ae}{Q:VK}{k k':Bool}(I:Inv X ak O H s)(q:Q (.bl k) H)(e:k=k'):EP X ak O Q (.bool k') s:=by subst e;erw[.bl k,H,I,Z,q]
theorem jR:cV X (compareOp .Eq) ZC:=by intro ak s O H x y v u Q I rx ry h;let(hs,q):=h;cases x with
 |bD=>cases rx;cases y with |bD=>cases ry;erw[PySem.EqNone.eq_none_none (eD I q (by simp))] |bl j=>cases ry;erw[PySem.EqNone.eq_none_bool (eD I q (by simp))] |int j=>let(t',rfl):=ry;erw[PySem.EqNone.eq_none_int (eD I q (by simp))] |str j=>let(t',rfl):=ry;erw[PySem.EqNone.eq_none_str (eD I q (by simp))] |_=>erw[absurd (show false=true from hs) dR]
 |bl i=>cases rx;cases y with |bD=>cases ry;erw[PySem.EqNone.eq_bool_none (eD I q (by simp))] |bl j=>cases ry;erw[eq_bool (eD I q Us)] |str j=>let(t',rfl):=ry;erw[PySem.EqMixed.eq_bool_str (eD I q (by simp))] |_=>erw[absurd (show false=true from hs) dR]
 |int i=>let(t,rfl):=rx;cases y with |bD=>cases ry;erw[PySem.EqNone.eq_int_none (eD I q (by simp))] |int j=>let(t',rfl):=ry;erw[eq_int (eD I q Uq)] |str j=>let(t',rfl):=ry;erw[PySem.EqMixed.eq_int_str (eD I q (by simp))] |_=>erw[absurd (show false=true from hs) dR]
 |str i=>let(t,rfl):=rx;cases y with |bD=>cases ry;erw[PySem.EqNone.eq_str_none (eD I q (by simp))] |bl j=>cases ry;erw[PySem.EqMixed.eq_str_bool (eD I q (by simp))] |int j=>let(t',rfl):=ry;erw[PySem.EqMixed.eq_str_int (eD I q (by simp))] |str j=>let(t',rfl):=ry;erw[eq_str (eD I q Up)] |_=>erw[absurd (show false=true from hs) dR]
 |kB i=>let(t,rfl):=rx;cases y with |kB j=>let(t',rfl):=ry;erw[PySem.W.eq_bytes (eD I q Ur)] |_=>erw[absurd (show false=true from hs) dR]
 |_=>cases y<;>erw[absurd (show false=true from hs) dR]
theorem HD:cV X (compareOp .NotEq) Zx:=by intro ak s O H x y v u Q I rx ry h;let(hs,q):=h;cases x with
 |bD=>cases rx;cases y with |bD=>cases ry;erw[PySem.EqNone.ne_none_none (eD I q (by simp))] |bl j=>cases ry;erw[PySem.EqNone.ne_none_bool (eD I q (by simp))] |int j=>let(t',rfl):=ry;erw[PySem.EqNone.ne_none_int (eD I q (by simp))] |str j=>let(t',rfl):=ry;erw[PySem.EqNone.ne_none_str (eD I q (by simp))] |_=>erw[absurd (show false=true from hs) dR]
 |bl i=>cases rx;cases y with |bD=>cases ry;erw[PySem.EqNone.ne_bool_none (eD I q (by simp))] |bl j=>cases ry;erw[ne_bool (eD I q (jZ not Us))] |str j=>let(t',rfl):=ry;erw[PySem.EqMixed.ne_bool_str (eD I q (by simp))] |_=>erw[absurd (show false=true from hs) dR]
 |int i=>let(t,rfl):=rx;cases y with |bD=>cases ry;erw[PySem.EqNone.ne_int_none (eD I q (by simp))] |int j=>let(t',rfl):=ry;erw[ne_int (eD I q (jZ not Uq))] |str j=>let(t',rfl):=ry;erw[PySem.EqMixed.ne_int_str (eD I q (by simp))] |_=>erw[absurd (show false=true from hs) dR]
 |str i=>let(t,rfl):=rx;cases y with |bD=>cases ry;erw[PySem.EqNone.ne_str_none (eD I q (by simp))] |bl j=>cases ry;erw[PySem.EqMixed.ne_str_bool (eD I q (by simp))] |int j=>let(t',rfl):=ry;erw[PySem.EqMixed.ne_str_int (eD I q (by simp))] |str j=>let(t',rfl):=ry;erw[ne_str (eD I q (jZ not Up))] |_=>erw[absurd (show false=true from hs) dR]
 |kB i=>let(t,rfl):=rx;cases y with |kB j=>let(t',rfl):=ry;erw[PySem.W.ne_bytes (eD I q (jZ not Ur))] |_=>erw[absurd (show false=true from hs) dR]
 |_=>cases y<;>erw[absurd (show false=true from hs) dR]
theorem ku:cV X (compareOp .Lt) (kl λi j=>.bl (decide (i<j))):=vY λ_ _ _ _ _ _ _ q=>lt_int q
theorem yC:cV X (compareOp .LtE) (kl λi j=>.bl (decide (i<=j))):=vY λ_ _ _ _ _ _ _ q=>le_int q
theorem nS:cV X (compareOp .Gt) (kl λi j=>.bl (decide (j<i))):=vY λ_ _ _ _ _ _ _ q=>gt_int q
theorem BB:cV X (compareOp .GtE) (kl λi j=>.bl (decide (j<=i))):=vY λ_ _ _ _ _ _ _ q=>ge_int q
theorem a0z:cV X (compareOp .In) (λx y H Q=>∃i j,x= .str i/\y= .str j/\Q (.bl (!(Builtin.Str.occurrences j i 0 j.length 1).isEmpty)) H):=by intro ak s O H x y v u Q I rx ry h;let(i,j,rfl,rfl,q):=h;let(t,rfl):=rx;let(t',rfl):=ry;erw[in_str (eD I q Z)]
theorem BA:cV X (compareOp .Is) (λx y H Q=>y= .bD/\Q (.bl (decide (x= .bD))) H):=by intro ak s O H x y v u Q I rx ry h;let(rfl,q):=h;cases ry;erw[is_none_gen (eD I q ?_)];cases x<;>first |(cases rx;rfl) |(let(t,rfl):=rx;rfl)
theorem Hv:cV X (compareOp .IsNot) (λx y H Q=>y= .bD/\Q (.bl (!decide (x= .bD))) H):=by intro ak s O H x y v u Q I rx ry h;let(rfl,q):=h;cases ry;erw[isnot_none_gen (eD I q ?_)];cases x<;>first |(cases rx;rfl) |(let(t,rfl):=rx;rfl)
theorem cV.or{f:Value->Value->Sem Value}{r r':R2}(h:cV X f r)(h':cV X f r'):cV X f (λx y H Q=>r x y H Q\/r' x y H Q):=by
 intro ak s O H x y v u Q I rx ry q;rcases q with q|q
 ·erw[h ak s O H x y v u Q I rx ry q]
 ·erw[h' ak s O H x y v u Q I rx ry q]
theorem bB(b:Expr){op:CmpOp}(h:autoParam (op≠ .In) q8_._auto_1)(h2:autoParam (op≠ .NotIn) q8_._auto_1):behindInMarks op b=false:=by
 have e1:(op==CmpOp.In)=false:=by cases op<;>first|rfl|erw[absurd rfl h]
 have e2:(op==CmpOp.NotIn)=false:=by cases op<;>first|rfl|erw[absurd rfl h2]
 cases b<;>simp[behindInMarks,e1,e2]
theorem fj{op:CmpOp}{r:R2}(ho:cV X (compareOp op) r)(ha:PE X a ta)(hb:PE X b tb)(hm:behindInMarks op b=false):PE X (.Compare a [op] [b] pos) (xY r ta tb):=by intro ak s O H Q I h;erw[wpAny_Compare1 (KG ha hb I h λv u s2 x y H2 I2 rx ry q=>ho ak s2 O H2 x y v u Q I2 rx ry q) hm]
inductive abl(Q:Bool->Hp->Prop)(x:V)(H':Hp):Prop |mk (k:_)(h0:x= .bl k)(h1:Q k H')
def Mf(t:TE):TT:=λO H Q=>t O H λx H'=>abl Q x H'
theorem bU{op:CmpOp}{r:R2}(ho:cV X (compareOp op) r)(ha:PE X a ta)(hb:PE X b tb)(hm:behindInMarks op b=false):PT X (.Compare a [op] [b] pos) (Mf (xY r ta tb)):=by intro ak s O H Q I h;erw[wpAny_isTrue_Compare1 (ba (ha ak s O H _ I h) λv s1 #[x,H1,I1,r1,q1]=>ba (hb ak s1 O H1 _ I1 q1) λu s2 #[y,H2,I2,r2,q2]=>ba (ho ak s2 O H2 x y v u _ I2 r1 r2 q2) λc s3 #[z,H3,I3,r3,k,e,q3]=>?_) hm];subst e;cases r3;erw[nG #[H3,I3,q3]]
inductive abw(r':R2)(tc:TE)(O:St)(Q:VK)(y:V)(z:V)(H3:Hp):Prop |mk (k:_)(h0:z= .bl k)(h1:(if k=true then tc O H3 λw' H4=>r' y w' H4 Q else Q (.bl false) H3))
def Mq(r r':R2)(ta tb tc:TE):TE:=λO H Q=>ta O H λx H1=>tb O H1 λy H2=>r x y H2 λz H3=>abw r' tc O Q y z H3
theorem a0c{op tS:CmpOp}{r r':R2}(ho:cV X (compareOp op) r)(mK:cV X (compareOp tS) r')(ha:PE X a ta)(hb:PE X b tb)(hc:PE X c tc) (hm:autoParam (lastMarks [op,tS] [b,c]=false) f8_._auto_1):PE X (.Compare a [op,tS] [b,c] pos) (Mq r r' ta tb tc):=by intro ak s O H Q I h;erw[Compare_chain (ba (ha ak s O H _ I h) λv s1 #[x,H1,I1,r1,q1]=>chain_link (ba (hb ak s1 O H1 _ I1 q1) λu s2 #[y,H2,I2,r2,q2]=>ba (ho ak s2 O H2 x y v u _ I2 r1 r2 q2) λd s3 #[z,H3,I3,r3,k,e,q3]=>?_)) hm];subst e;cases r3;erw[nG ?_];cases k with |false=>erw[ite_ff #[.bl false,H3,I3,Z,q3]] |true=>erw[ite_tt (chain_last (ba (hc ak s3 O H3 _ I3 q3) λw' s4 #[z',H4,I4,r4,q4]=>mK ak s4 O H4 y z' u w' Q I4 r2 r4 q4))]
theorem ZJ{op tS:CmpOp}{r r':R2}(ho:cV X (compareOp op) r)(mK:cV X (compareOp tS) r')(ha:PE X a ta)(hb:PE X b tb)(hc:PE X c tc) (hm:autoParam (lastMarks [op,tS] [b,c]=false) f8_._auto_1):PT X (.Compare a [op,tS] [b,c] pos) (Mf (Mq r r' ta tb tc)):=by intro ak s O H Q I h;erw[isTrue_chain (ba (ha ak s O H _ I h) λv s1 #[x,H1,I1,r1,q1]=>test_link (ba (hb ak s1 O H1 _ I1 q1) λu s2 #[y,H2,I2,r2,q2]=>ba (ho ak s2 O H2 x y v u _ I2 r1 r2 q2) λd s3 #[z,H3,I3,r3,k,e,q3]=>?_)) hm];subst e;cases r3;erw[nG ?_];cases k with |false=>let(k',e',q'):=q3;cases e';erw[ite_ff #[H3,I3,q']] |true=>erw[ite_tt (test_last (ba (hc ak s3 O H3 _ I3 q3) λw' s4 #[z',H4,I4,r4,q4]=>ba (mK ak s4 O H4 y z' u w' _ I4 r2 r4 q4) λd' s5 #[z2,H5,I5,r5,k2,e2,q5]=>?_))];subst e2;cases r5;erw[nG #[H5,I5,q5]]
def L5(K:aa)(x:V)(H:Hp)(k:Bool):Prop:=match x with | .bD=>k=false | .bl b=>k=b | .int i=>k=(i !=0) | .str y=>y.length<=sizeLine/\k=((y.length:Int) !=0) | .kB y=>y.size<=sizeLine/\k=((y.size:Int) !=0) | .ref p=>(∃xs,aE K H p xs/\k= !xs.isEmpty)\/(∃xs,bc K H p xs/\k= !xs.isEmpty)\/∃aO,H p=some (.dK aO)/\k= !aO.isEmpty |_=>False
theorem a4E{κ:Type}{aO:List (κ×V)}{vs:List (κ×Value)}(r:KV aO vs):(!vs.isEmpty)= !aO.isEmpty:=by cases r<;>rfl
theorem S8{xs:List V}{its:List Value}(r:Vals xs its):(!its.toArray.isEmpty)= !xs.isEmpty:=by cases r<;>simp
theorem ua:(sizeLine:Nat)<2^63:=by rw[uX];decide
theorem WN:abd X (λx H Q=>∃k,L5 X.K x H k/\Q k H):=by intro ak s O H x v Q I rx h;let(k,e,q):=h;have hl:=ua;have hs:sizeLine=16777216:=uX;cases x with |bD=>cases rx;have e':k=false:=e;subst e';erw[truthy_none #[H,I,q]] |bl b=>cases rx;have e':k=b:=e;subst e';erw[nG #[H,I,q]] |int i=>let(t,rfl):=rx;have e':k=(i !=0):=e;subst e';erw[PySem.P.truthy_int #[H,I,q]] |str y=>let(t,rfl):=rx;obtain⟨hy,e'⟩:y.length<=sizeLine/\k=((y.length:Int) !=0):=e;subst e';erw[PySem.P.truthy_str au #[H,I.tok _,q]] |kB y=>let(t,rfl):=rx;obtain⟨hy,e'⟩:y.size<=sizeLine/\k=((y.size:Int) !=0):=e;subst e';erw[PySem.W.truthy_bytes au #[H,I.tok _,q]] |ref p=>
 cases rx;have e':(∃xs,aE X.K H p xs/\k= !xs.isEmpty)\/(∃xs,bc X.K H p xs/\k= !xs.isEmpty)\/∃aO,H p=some (.dK aO)/\k= !aO.isEmpty:=e;rcases e' with⟨xs,hx,e'⟩|⟨xs,hx,e'⟩|⟨aO,hx,e'⟩
 ·subst e'
  let(its,r,pl,hz):=I.list hx;have hlen:=r.length;erw[wpAny_truthy_list pl.isList (by simp only[eO];lia) #[H,I.tok _,by rw[S8 r];erw[q]]]
 ·subst e'
  let(its,r,pl,hz):=I.tuple hx;have hlen:=r.length;erw[truthy_tuple pl (by simp only[eO];lia) #[H,I.tok _,by rw[S8 r];erw[q]]]
 ·subst e'
  obtain⟨hz,hS,vs,r,m⟩:aO.length<=sizeLine/\(p==sysModules)=false/\∃vs,KV aO vs/\s.heap.DictOf (jv X.prog X.w) p vs:=I.bA p _ hx;have hlen:aO.length=vs.length:=Paired.length r;erw[wpAny_truthy_dict hS m au #[H,I.tok _,by rw[a4E r];erw[q]]] |_=>exact(show False from e).elim
theorem ZI(ha:PE X a ta)(he:∀whole,isTrue a X.env whole=(do let v<-whole;standAt a.pos;holding [v] (truthy v))): PT X a (λO H Q=>ta O H λx H'=>∃k,L5 X.K x H' k/\Q k H'):=by intro ak s O H Q I h;erw[isTrue_plain (ba (ha ak s O H _ I h) λv s1 #[x,H1,I1,r1,q1]=>WN ak s1 O H1 x v Q I1 r1 q1) (he _)]
theorem nT:cV X (binaryOp .Add) (λx y H Q=>∃i j,x= .str i/\y= .str j/\i.length+j.length<=sizeLine/\Q (.str (i++j)) H):=by intro ak s O H x y v u Q I rx ry h;let(i,j,rfl,rfl,hz,q):=h;let(t,rfl):=rx;let(t',rfl):=ry;erw[add_str (λt' tk=>#[.str (i++j),H,I.tok _,#[_,Z],q]) hz]
theorem vals1{x:V}{us:List Value}(r:Vals [x] us):∃u,us=[u]/\RelV x u:=by cases r with |cons r1 r2=>cases r2;erw[_,rfl,r1]
theorem vals2{x y:V}{us:List Value}(r:Vals [x,y] us):∃u w',us=[u,w']/\RelV x u/\RelV y w':=by cases r with |cons r1 r2=>cases r2 with |cons r3 r4=>cases r4;erw[_,_,rfl,r1,r3]
theorem pX:fq X (.builtin "abs") (λxs H Q=>∃i,xs=[.int i]/\Q (.int (if i<0 then-i else i)) H):=by intro ak s O H xs us Q I r h;let(i,rfl,q):=h;let(u,rfl,t,rfl):=vals1 r;erw[call_abs_int λu tk=>#[.int (if i<0 then-i else i),H,I.tok _,#[_,Z],q]]
theorem aal(hc:X.calm=true):fq X (.builtin "max") (λxs H Q=>∃i j,xs=[.int i,.int j]/\Q (.int (if j>i then j else i)) H):=by
 intro ak s O H xs us Q I r h;let(i,j,rfl,q):=h;let(u,w',rfl,(t,rfl),(t',rfl)):=vals2 r;erw[max_two_ints (I.ok.hd hc) λh' tk k=>#[_,H,I.kept k,?_,q]];by_cases hj:j>i
 ·rw[bu hj,bu hj];erw[_,Z]
 ·rw[bo hj,bo hj];erw[_,Z]
theorem UO(hc:X.calm=true):fq X (.builtin "min") (λxs H Q=>∃i j,xs=[.int i,.int j]/\Q (.int (if j<i then j else i)) H):=by
 intro ak s O H xs us Q I r h;let(i,j,rfl,q):=h;let(u,w',rfl,(t,rfl),(t',rfl)):=vals2 r;erw[min_two_ints (I.ok.hd hc) λh' tk k=>#[_,H,I.kept k,?_,q]];by_cases hj:j<i
 ·rw[bu hj,bu hj];erw[_,Z]
 ·rw[bo hj,bo hj];erw[_,Z]
theorem UP:fq X (.type "int") (λxs H Q=>(∃i,xs=[.int i]/\Q (.int i) H)\/∃k,xs=[.bl k]/\Q (.int (if k then 1 else 0)) H):=by
 intro ak s O H xs us Q I r h;rcases h with⟨i,rfl,q⟩|⟨k,rfl,q⟩
 ·let(u,rfl,t,rfl):=vals1 r
  erw[call_int_int #[.int i,H,I,#[_,Z],q]]
 ·let(u,rfl,r1):=vals1 r
  cases r1;erw[call_int_bool #[.int (if k then 1 else 0),H,I.tok _,#[_,Z],q]]
end
structure uQ(h:Heap)(x dx C:Addr)(mA:bN):Prop where
 obj:h.get? x=some (PySem.W.instObj C dx)
 ns:h.Ns1 dx mA
 ne:dx≠x
theorem a3Y{h:Heap}{dx:Addr}{mA:bN}(n:h.Ns1 dx mA):∃od,h.get? dx=some od/\∀name,PySem.W.lookIn name od=some (mA name):=by
 let(o,es,ep,ho,hd,hk,_,hm):=n;erw[o,ho,λname=>?_];have e:=hm name;unfold nsFind findBy at e;rw[<-Array.find?_toList]at e;unfold PySem.W.lookIn;rw[hd];dsimp only;split
 ·rename_i y q
  rw[q]at e;erw[jZ some e]
 ·rename_i q
  rw[q]at e;have a:es.toList.any (·.refKey)=false:=by rw[List.any_eq_false];intro y hy;let(z,t,a5L):=hk y (Array.mem_toList_iff.mp hy);simp[DictEntry.refKey,a5L]
  have a':¬es.toList.any (·.refKey)=true:=by rw[a];erw[dR]
  rw[bo a'];erw[jZ some e]
theorem uQ.look{h:Heap}{x dx C:Addr}{mA:bN}(I:uQ h x dx C mA):∃od,PySem.W.InstAt h x (PySem.W.instObj C dx) C (some od)/\∀name,PySem.W.lookIn name od=some (mA name):=let#[od,ho,hl]:=a3Y I.ns
 #[od,#[I.obj,Z,Z,ho],hl]
section
variable {prog:af}{w:World}{A:ah}{E:Value->ae->Prop}{s:ae}{K:aa}{x dx C f:Addr}{mA:bN}{name:Str}{v:Value}
theorem get_map{expr:Bool}{Q:Value->ae->Prop}(X:K.In s.heap)(I:uQ s.heap x dx C mA)(hg:PySem.W.plainGet K C name=true)(hh:PySem.W.hasDictIn K C=true) (ha:PySem.W.findIn K (.ref C) name=some none)(hv:mA name=some v)(hv':PySem.W.handedIn v=true)(h:Q v {s with toks:=s.toks+1}): wpAny (model prog w) A (getAttr (.ref x) name expr) Q E s:=by let(od,J,hl):=I.look;erw[PySem.W.get_value X J (VC hg).1 (PySem.W.findObj_own hh ha Z (by rw[hl,hv])) hv' h]
theorem a7u{pl:Sem Bool}{Q:Value×List Value->ae->Prop}(X:K.In s.heap)(I:uQ s.heap x dx C mA)(hg:PySem.W.plainGet K C name=true) (hf:PySem.W.findIn K (.ref C) name=some (some (.ref f)))(ht:PySem.W.isFn K (.ref f)=true)(hv:mA name=none)(h:Q (.ref f,[.ref x]) s): wpAny (model prog w) A (getMethod (.ref x) name pl) Q E s:=by let(od,J,hl):=I.look;erw[PySem.W.method_fn X J (VC hg).1 (VC hg).2 hf (fV.mp ht) (by show(PySem.W.lookIn name od).map (·.isSome)=some false;rw[hl,hv];rfl) h]
theorem Yb{ns:List Str}{Q:Unit->ae->Prop}(X:K.In s.heap)(I:uQ s.heap x dx C mA) (hs:PySem.W.findIn K (.ref C) "__setattr__"=some (some (.builtin "object.__setattr__")))(hp:PySem.W.plainOver K C=true)(ht:PySem.W.takerIn K C name=some none)(hh:PySem.W.hasDictIn K C=true) (hw:PySem.Within mA ns)(hsz:ns.length<=sizeLine) (h:∀h',uQ h' x dx C (λy=>if y=name then some v else mA y)->Heap.SameBut dx s.heap h'->Q () {s with heap:=h',toks:=s.toks+2}): wpAny (model prog w) A (setAttr (.ref x) name v) Q E s:=by let(od,J,hl):=I.look;erw[PySem.W.set_plain X J hs (PySem.W.osa_open (s:={s with toks:=s.toks+1}) (r:=none) X J hp ht λb=>?_)];let(cd,hc,Js):=PySem.W.any_some hh;have hx:s.heap.get? x=some #[.ref C,some dx,.plain,#[]]:=I.obj;erw[aL (cn (aL (aL (wpAny_loadPart hx (aL (PySem.W.Looks.here (s:={s with toks:=s.toks+1}) (PySem.W.looks_clsIn X hc) ?_))))))];rw[Js];erw[cn (a:=some dx) (aL (cn (aL ?_)))];erw[wpAny_nsSet1 (s:={s with toks:=s.toks+1}) I.ns λh' qU mI=>?_];let(oD,esD,epD,hoD,hdD,hcD):=qU.count (PySem.Within.cons name v hw);erw[aL (wpAny_lookBehind hoD (by rw[hdD];erw[pastItsLine_dict (j7 hcD (by rw[gq];lia))]) ?_)];erw[cn (h _ #[(mI.2 _ (jJ I.ne)).trans I.obj,qU,I.ne] mI)]
theorem a3u{R:Result->ae->Prop}{vs:List Value}{kw:List (Str×Value)}(X:K.In s.heap)(hm:PySem.W.makesIn K C=true) (hi:PySem.W.findIn K (.ref C) "__init__"=some (some (.ref f)))(hf:PySem.W.typeIn K (.ref f)=some (.type "function")) (h:codeAny (model prog w) (A.under (.builtin "type.__call__" #[.ref C::vs,kw])) (.call (.ref f) #[.ref (s.heap.objs.size+1)::vs,kw]) (PySem.W.InitBack (s.heap.objs.size+1) R) {s with heap:=(s.heap.push PySem.W.emptyDict).push (PySem.W.instObj C s.heap.objs.size)}): codeAny (model prog w) A (.call (.ref C) #[vs,kw]) R s:=by let(hh,g,d,t,os):=s;erw[PySem.W.make_core (PySem.W.makes_of X hm) (PySem.W.looks_findIn X hi) (λself=>PySem.W.bind_fn X self hf) (.inl Z) h]
end
def ja(f:Str)(v:V):List (Str×V)->List (Str×V) |[]=>[(f,v)] |(g,x)::r=>if g=f then(g,v)::r else(g,x)::ja f v r
theorem RE(f g:Str)(v:V):∀fs:List (Str×V),(ja f v fs).lookup g=if g=f then some v else fs.lookup g
 |[]=>by
  show List.lookup g [(f,v)]=_;by_cases h:g=f
  ·have hb:(g==f)=true:=fV.mpr h
   simp only[List.lookup,hb,bu h]
  ·have hb:(g==f)=false:=DF.mpr h
   simp only[List.lookup,hb,bo h] |(k,x)::r=>by
  have ih:=RE f g v r;rw[show ja f v ((k,x)::r)=(if k=f then(k,v)::r else(k,x)::ja f v r)from rfl];by_cases hk:k=f
  ·rw[bu hk]
   by_cases h:g=k
   ·have hb:(g==k)=true:=fV.mpr h
    simp only[List.lookup,hb,bu (h.trans hk)]
   ·have hb:(g==k)=false:=DF.mpr h
    simp only[List.lookup,hb,bo (λe:g=f=>h (e.trans hk.symm))]
  ·rw[bo hk]
   by_cases h:g=k
   ·have hb:(g==k)=true:=fV.mpr h
    simp only[List.lookup,hb,bo (λe:g=f=>hk (h.symm.trans e))]
   ·have hb:(g==k)=false:=DF.mpr h
    simp only[List.lookup,hb];erw[ih]
theorem IQ(f:Str)(v:V):∀fs:List (Str×V),f∈(ja f v fs).map (·.1)/\∀g,g∈fs.map (·.1)->g∈(ja f v fs).map (·.1)
 |[]=>#[by simp[ja],λg h=>by simp at h] |(k,x)::r=>by
  let(i1,i2):=IQ f v r;rw[show ja f v ((k,x)::r)=(if k=f then(k,v)::r else(k,x)::ja f v r)from rfl];by_cases hk:k=f
  ·rw[bu hk]
   subst hk;erw[by simp,λg h=>by simpa using h]
  ·rw[bo hk]
   erw[?_,λg h=>?_]
   ·rw[kH]
    erw[xJ _ i1]
   ·rw[kH]at h⊢
    rcases bJ.mp h with e|e
    ·erw[bJ.mpr (.inl e)]
    ·erw[xJ _ (i2 g e)]
theorem RL(f:Str)(v:V):∀fs:List (Str×V),(ja f v fs).length<=fs.length+1
 |[]=>by simp[ja] |(k,x)::r=>by
  have ih:=RL f v r;rw[show ja f v ((k,x)::r)=(if k=f then(k,v)::r else(k,x)::ja f v r)from rfl];by_cases hk:k=f
  ·rw[bu hk,gq,gq];lia
  ·rw[bo hk,gq,gq];lia
theorem jF.some_of{v:V}{o:Option Value}(r:jF (some v) o):∃u,o=some u/\RelV v u:=by cases o with |none=>exact(show False from r).elim |some u=>erw[u,Z,r]
theorem jF.none_of{o:Option Value}(r:jF none o):o=none:=by cases o with |none=>rfl |some u=>exact(show False from r).elim
theorem a6A{v:V}{u:Value}(r:RelV v u):PySem.W.handedIn u=true:=by cases v with |bD=>cases(show u=Value.none from r);rfl |bl b=>cases(show u=Value.bool b from r);rfl |int i=>let(t,e):=(show∃t,u=Value.int i t from r);cases e;rfl |str x=>let(t,e):=(show∃t,u=Value.str x t from r);cases e;rfl |kB b=>let(t,e):=(show∃t,u=Value.bytes b t from r);cases e;rfl |CI b=>let(t,e):=(show∃t,u=Value.float b t from r);cases e;rfl |ref a=>cases(show u=Value.ref a from r);rfl |ty n=>cases(show u=Value.type n from r);rfl
section
variable {P:af}{w:World}{H H':Hp}{h h':Heap}{a C dx:Addr}{fs ow:List (Str×V)}
theorem IZ(bA:dP P w H h)(e:H a=some (.ins C dx fs)):∃mA,uQ h a dx C mA/\(∀f,jF (fs.lookup f) (mA f))/\PySem.Within mA (fs.map (·.1))/\fs.length<=1000/\H dx=some (.own a):=by let(d,z,ne,ob,mA,n,r,q):=(show fU P w H h a (.ins C dx fs)from bA a _ e);erw[mA,#[ob,n,ne],r,q,z,d]
end
structure hU(K:aa)(C:Addr):Prop where
 pg:PySem.W.plainGet K C Str.empty=true
 hd:PySem.W.hasDictIn K C=true
 po:PySem.W.plainOver K C=true
 sa:PySem.W.findIn K (.ref C) "__setattr__"=some (some (.builtin "object.__setattr__"))
theorem hU.get{K:aa}{C:Addr}(c:hU K C)(f:Str):PySem.W.plainGet K C f=true:=c.pg
def iR(K:aa)(C:Addr)(f:Str):Prop:=PySem.W.findIn K (.ref C) f=some none
theorem iR.X5{K:aa}{C:Addr}{f:Str}(n:iR K C f):PySem.W.takerIn K C f=some none:=by unfold PySem.W.takerIn;rw[show PySem.W.findIn K (.ref C) f=some none from n];rfl
structure Meth(K:aa)(C:Addr)(m:Str)(f:Addr):Prop where
 at_:PySem.W.findIn K (.ref C) m=some (some (.ref f))
 fn:PySem.W.isFn K (.ref f)=true
 kp:PySem.W.keepIn K (.ref f)=true
section
variable {X:Cx}{ak:List (Addr×Obj)}{O:St}{H:Hp}{s:ae}{a C dx:Addr}{fs:List (Str×V)}{f:Str}{v:V}{A:ah}{E:Value->ae->Prop}
theorem Th{b:Bool}{Q:Value->ae->Prop}(I:Inv X ak O H s)(e:H a=some (.ins C dx fs))(c:hU X.K C)(n:iR X.K C f)(l:fs.lookup f=some v) (h:∀u s',Inv X ak O H s'->RelV v u->Q u s'):wpAny (model X.prog X.w) A (getAttr (.ref a) f b) Q E s:=by let(mA,af1,r,_,_,_):=IZ I.bA e;let(u,hu,ru):=jF.some_of (v:=v) (o:=mA f) (by rw[<-l];erw[r f]);erw[get_map I.fD af1 (c.get f) c.hd n hu (a6A ru) (h u _ (I.tok _) ru)]
theorem zA{m:Str}{g:Addr}{pl:Sem Bool}{Q:Value×List Value->ae->Prop}(I:Inv X ak O H s)(e:H a=some (.ins C dx fs))(c:hU X.K C)(k:Meth X.K C m g)(l:fs.lookup m=none) (h:Q (.ref g,[.ref a]) s):wpAny (model X.prog X.w) A (getMethod (.ref a) m pl) Q E s:=by let(mA,af1,r,_,_,_):=IZ I.bA e;have hn:mA m=none:=jF.none_of (by rw[<-l];erw[r m]);erw[a7u I.fD af1 (c.get m) k.at_ k.fn hn h]
theorem NK{y:V}{u:Value}{Q:Unit->ae->Prop}(I:Inv X ak O H s)(e:H a=some (.ins C dx fs))(c:hU X.K C)(n:iR X.K C f)(hl:fs.length<1000)(ry:RelV y u) (h:∀s',Inv X ak O (upd H a (.ins C dx (ja f y fs))) s'->Q () s'):wpAny (model X.prog X.w) A (setAttr (.ref a) f u) Q E s:=by
 let(mA,af1,r,wi,_,ho):=IZ I.bA e;have hz:(fs.map (·.1)).length<=sizeLine:=by rw[bW,uX];lia
 erw[Yb I.fD af1 c.sa c.po n.X5 c.hd wi hz λh' O' sb=>h _ ?_];have hd:∃o,h'.get? dx=some o:=let#[o,_,_,e',_]:=O'.ns;#[o,e'];erw[I.write (x:=a) (e:=dx) (by rw[e];erw[True.intro]) (.inr ho) (λb q hb z=>(sb.2 b hb).trans z) hd ?_];erw[by rw[aU af1.ne];erw[ho],?_,af1.ne,O'.obj,_,O'.ns,λg=>?_,λg hg=>?_]
 ·have:=RL f y fs;lia
 ·show jF ((ja f y fs).lookup g) (if g=f then some u else mA g)
  rw[RE];by_cases q:g=f
  ·rw[bu q,bu q];erw[ry]
  ·rw[bo q,bo q];erw[r g]
 ·by_cases q:g=f
  ·rw[q];exact(IQ f y fs).1
  ·refine(IQ f y fs).2 g (wi g λz=>hg ?_)
   show(if g=f then some u else mA g)=none;rw[bo q];erw[z]
theorem Inv.made(I:Inv X ak O H s):Inv X ak O (upd (upd H s.heap.objs.size (.own (s.heap.objs.size+1))) (s.heap.objs.size+1) (.ins C s.heap.objs.size [])) {s with heap:=(s.heap.push PySem.W.emptyDict).push (PySem.W.instObj C s.heap.objs.size)}:=by
 have e1:(s.heap.push PySem.W.emptyDict).get? s.heap.objs.size=some PySem.W.emptyDict:=eP s.heap rfl;have e2:((s.heap.push PySem.W.emptyDict).push (PySem.W.instObj C s.heap.objs.size)).get? (s.heap.objs.size+1)=some (PySem.W.instObj C s.heap.objs.size):=by have:=eP (s.heap.push PySem.W.emptyDict) (o:=PySem.W.instObj C s.heap.objs.size) rfl;rwa [vj]at this
 have e3:(s.heap.push PySem.W.emptyDict).Ns s.heap.objs.size (λ_=>none):=#[PySem.W.emptyDict,#[],_,e1,Z,(λe he=>absurd he (by simp)),λ_=>rfl];have I1:=I.laid (a:=s.heap.objs.size) (o:=.own (s.heap.objs.size+1)) (h':=s.heap.push PySem.W.emptyDict) (t':=s.toks) (λb u q=>cx _ q) (bV _) #[_,e1];erw[I1.laid (a:=s.heap.objs.size+1) (o:=.ins C s.heap.objs.size []) (t':=s.toks) (λb u q=>cx _ q) (Nat.le_of_eq (vj _ _)) ?_];have ne:s.heap.objs.size≠s.heap.objs.size+1:=dY (Nat.lt_succ_self _);erw[by rw[aU ne,bQ],gM _,ne,e2,λ_=>none,(Heap.Ns1.of_empty e3).at λo q=>cx _ q,λ_=>True.intro,λy hy=>absurd rfl hy]
theorem aaK{prog:af}{w:World}{env:Env}{e:Expr}{f:Str}{pos:Pos}{s:ae}{Q:Value->ae->Prop}(hb:attributeBase e f env (eval e env)=eval e env) (h:wpAny (model prog w) A (eval e env) (λo s₁=>wpAny (model prog w) A (getAttr o f true) Q E s₁) E s):wpAny (model prog w) A (eval (.Attribute e f pos) env) Q E s:=Attribute_any_ h (by rw[arm_eval_Attribute,hb])
end
def adm(X:Cx)(op:Operator)(rd:V->V->Hp->VK->Prop):Prop:=∀(ak:List (Addr×Obj))(s:ae)(O:St)(H:Hp)(x y:V)(u v:Value)(Q:VK),Inv X ak O H s->RelV x u->RelV y v->rd x y H Q->wpAny (model X.prog X.w) X.A (inplaceOp op u v) (EP X ak O Q) X.xe s
section
variable {X:Cx}{o e value:Expr}{f:Str}{pos pos' sM:Pos}{ta tv:TE}
end
section
variable {X:Cx}{ak:List (Addr×Obj)}{O:St}{H:Hp}{s:ae}{A:ah}{E:Value->ae->Prop}{Q:Value->ae->Prop}{c:Value}{b:Bool}
end
structure cF(k:Nat)(A:ah):Prop where
 hd:A.handled=none
 dp:A.depth+3*k+5<recursionLimit
 un:A.units+16*k+200<cLine
theorem cF.mono{j k:Nat}{A:ah}(r:cF k A)(h:j<=k):cF j A:=#[r.hd,by have:=r.dp;lia,by have:=r.un;lia]
theorem cF.deeper{k:Nat}{A:ah}(r:cF (k+1) A)(env:Env):cF k (A.deeper env):=#[r.hd,by have:=r.dp;show A.depth+1+3*k+5<_;lia,by have:=r.un;show A.units+3+16*k+200<_;lia]
theorem a3v{A:ah}{C:Addr}{us:List Value}{kw:List (Str×Value)}:(A.under (.builtin "type.__call__" #[.ref C::us,kw])).depth=A.depth+1:=by first|rfl|simp[Around.under,Code.weight,Code.isCreation,Code.isGuard,Code.isCaller,Code.frames,Code.isFrame,guardIds]
theorem a3t{A:ah}{C:Addr}{us:List Value}{kw:List (Str×Value)}:(A.under (.builtin "type.__call__" #[.ref C::us,kw])).units=A.units+1:=by first|rfl|simp[Around.under,Code.cUnits,Code.frames,Code.isFrame]
theorem cF.make{k:Nat}{A:ah}(r:cF (k+1) A)(C:Addr)(us:List Value)(kw:List (Str×Value)):cF k (A.under (.builtin "type.__call__" #[.ref C::us,kw])):=#[r.hd,by have:=r.dp;rw[a3v];omega,by have:=r.un;rw[a3t];omega]
theorem cF.depth{k:Nat}{A:ah}(r:cF k A):A.depth<recursionLimit:=by have:=r.dp;lia
theorem cF.units{k:Nat}{A:ah}(r:cF k A):A.units+64<cLine:=by have:=r.un;lia
def qx:TA:=λ_ H Q=>Q [] H
def Xr(ta:TE)(tr:TA):TA:=λO H Q=>ta O H λx H1=>tr O H1 λxs H2=>Q (x::xs) H2
section
variable {X:Cx}{e:Expr}{es:List Expr}{te:TE}{t:TA}{pos:Pos}
theorem az:PA X [] qx:=λ_ _ _ _ H Q I h=>Calls.spliced_nil #[[],H,I,.nil,h]
theorem ao(ha:PE X e te)(hr:PA X es t)(hs:autoParam (starEach (e::es) X.env=(false,eval e X.env)::starEach es X.env) r8_._auto_1):PA X (e::es) (Xr te t):=by intro pos ak s O H Q I h;rw[hs];show wpAny _ _ (spliced ((false,eval e X.env)::backTo pos (starEach es X.env))) _ _ s;erw[Calls.spliced_cons (ba (ha ak s O H _ I h) λu s1 #[x,H1,I1,r1,q1]=>?_)];erw[ba (hr pos ak s1 O H1 _ I1 q1) λus s2 #[xs,H2,I2,r2,q2]=>#[x::xs,H2,I2,.cons r1 r2,q2]]
end
abbrev Sp:=List V->Hp->VK->XK->Prop
abbrev j4:=List Env->Hp->ae->XK->Value->ae->Prop
structure qi(P:af)(w:World)(K:aa)(mg:bN)(aw:Heap)(A:ah)(outer:List Env)(s:ae)(H:Hp):Prop where
 frames:A.frames=some outer
 mod:Mod K mg aw
 bs:∀b o,aw.get? b=some o->s.heap.get? b=some o/\H b=none
 kW:aw.objs.size<=s.heap.objs.size
 jy:s.heap.FunFrames aw outer
 mZ:∀b∈eZ outer,H b=none
 bA:dP P w H s.heap
 bare:AllBare s.gens
def CE(outer:List Env)(P:af)(w:World)(H:Hp)(s:ae)(Q:VK)(u:Value)(s':ae):Prop:=∃v H',s'.os=s.os/\AllBare s'.gens/\Un (eZ outer) [] H H' s.heap s'.heap/\dP P w H' s'.heap/\RelV v u/\Q v H'
def CR(CX:j4)(outer:List Env)(P:af)(w:World)(H:Hp)(s:ae)(Q:VK)(E:XK)(r:Result)(s':ae):Prop:=match r with | .ok (.ret u)=>CE outer P w H s Q u s' | .ok _=>False | .error e=>CX outer H s E e s'
structure eK(P:af)(w:World)(K:aa)(mg:bN)(aw:Heap)(CX:j4)(k:Nat)(f:Addr)(fd:FuncData)(ps:List Str)(sp:Sp):Prop where
 len:∀vs H Q E,sp vs H Q E->vs.length=ps.length
 run:∀(A:ah)(outer:List Env)(s:ae)(H:Hp)(args:Args)(us:List Value)(vs:List V)(Q:VK)(E:XK),cF k A->qi P w K mg aw A outer s H->BindsTo s fd args (ps.zip us)->Vals vs us->sp vs H Q E->codeAny (model P w) A (.call (.ref f) args) (CR CX outer P w H s Q E) s
theorem eK.mono{P:af}{w:World}{K:aa}{mg:bN}{aw:Heap}{CX:j4}{j k:Nat}{f:Addr}{fd:FuncData}{ps:List Str}{sp:Sp}(F:eK P w K mg aw CX j f fd ps sp)(h:j<=k): eK P w K mg aw CX k f fd ps sp:=#[F.len,λA outer s H args us vs Q E hr=>F.run A outer s H args us vs Q E (hr.mono h)]
theorem qi.make{P:af}{w:World}{K:aa}{mg:bN}{aw:Heap}{A:ah}{outer:List Env}{s:ae}{H:Hp}(e:qi P w K mg aw A outer s H)(C:Addr)(us:List Value)(kw:List (Str×Value)): qi P w K mg aw (A.under (.builtin "type.__call__" #[.ref C::us,kw])) outer s H:=#[by first|erw[e.frames]|(simpa[Around.under,Code.envs,Code.isFrame,pushEnvs]using e.frames),e.mod,e.bs,e.kW,e.jy,e.mZ,e.bA,e.bare]
section
variable {X:Cx}{ak:List (Addr×Obj)}{O:St}{H:Hp}{s s':ae}
theorem Inv.CP(I:Inv X ak O H s):qi X.prog X.w X.K X.mg X.aw X.A X.stack s H:=#[I.ok.frames,I.ok.mod,I.bs,j7 I.ok.kW I.sz,I.stack,I.AV,I.bA,I.bare]
theorem Inv.after{Q:VK}{u:Value}(I:Inv X ak O H s)(h:CE X.stack X.prog X.w H s Q u s'):EP X ak O Q u s':=by let(v,H',os,bare,un,bA,r,q):=h;let(hh,g,d,t,jQ):=s';obtain rfl:jQ=s.os:=os;erw[v,H',I.call (h':=hh) (g':=g) (d':=d) (t':=t) (ch:=[]) un bA bare (λb z=>absurd z (by simp)),r,q]
end
def Xs(sp:Sp)(dvs:List V)(E:XK)(t:TA):TE:=λO H Q=>t O H λvs H1=>sp (vs++dvs) H1 Q E
inductive uT(C:Addr)(m:Str)(sp:Sp)(dvs:List V)(E:XK)(t:TA)(O:St)(Q:VK)(x:V)(H1:Hp):Prop |mk (a:_)(dx:_)(fs:_)(h0:x= .ref a)(h1:H1 a=some (.ins C dx fs))(h2:fs.lookup m=none)(h3:t O H1 λvs H2=>sp (x::(vs++dvs)) H2 Q E)
def Mm(C:Addr)(m:Str)(sp:Sp)(dvs:List V)(E:XK)(ta:TE)(t:TA):TE:=λO H Q=>ta O H λx H1=>uT C m sp dvs E t O Q x H1
def Xl(C:Addr)(sp:Sp)(dvs:List V)(E:XK)(t:TA):TE:=λO H Q=>t O H λvs H1=>∀x dx,H1 x=none->H1 dx=none->dx≠x->sp (.ref x::(vs++dvs)) (upd (upd H1 dx (.own x)) x (.ins C dx [])) (λv H2=>v= .bD/\Q (.ref x) H2) E
def Binds(K:aa)(fd:FuncData)(ps:List Str)(ds:List Value):Prop:=∀(s:ae)(us:List Value),K.In s.heap->(us++ds).length=ps.length->BindsTo s fd #[us,[]] (ps.zip (us++ds))
theorem Binds.all{K:aa}{fd:FuncData}{ps:List Str}(h:∀us:List Value,us.length=ps.length->bindArgs fd #[us,[]]=pure (ps.zip us)):Binds K fd ps []:=λs us _ hl=>by rw[qo]at hl⊢;erw[.of_eq (h us hl)]
def Passes(CX:j4)(X:Cx)(E:XK):Prop:=∀(ak:List (Addr×Obj))(O:St)(H:Hp)(s:ae)(e:Value)(s':ae),Inv X ak O H s->CX X.stack H s E e s'->X.xe e s'
section
variable {X:Cx}{CX:j4}{k:Nat}{f C:Addr}{fd:FuncData}{ps:List Str}{sp:Sp}{dvs:List V}{ds:List Value}{E:XK}{x m:Str}{p pos apos:Pos}{e o:Expr}{es:List Expr}{ta:TE}{t:TA}
theorem Bm{ak:List (Addr×Obj)}{O:St}{H:Hp}{s:ae}{Q:VK}{us:List Value}{vs:List V}(F:eK X.prog X.w X.K X.mg X.aw CX k f fd ps sp)(hr:cF k X.A)(hb:Binds X.K fd ps ds)(hd:Vals dvs ds)(hx:Passes CX X E) (I:Inv X ak O H s)(r:Vals vs us)(h:sp (vs++dvs) H Q E):wpAny (model X.prog X.w) X.A (call (.ref f) us) (EP X ak O Q) X.xe s:=by
 have r2:Vals (vs++dvs) (us++ds):=r.append hd;have hl:(us++ds).length=ps.length:=by rw[<-r2.length];erw[F.len _ _ _ _ h]
 erw[wpAny_call (uY (F.run X.A X.stack s H #[us,[]] (us++ds) (vs++dvs) Q E hr I.CP (hb s us I.fD hl) r2 h) λr s' hq=>?_)];cases r with |error e=>erw[hx ak O H s e s' I hq] |ok fl=>cases fl with |ret u=>erw[I.after hq] |next=>erw[False.elim hq] |brk=>erw[False.elim hq] |cont=>erw[False.elim hq]
theorem a0f(F:eK X.prog X.w X.K X.mg X.aw CX k f fd ps sp)(hr:cF k X.A)(hg:Gl X x)(hm:X.mg x=some (.ref f))(hk:PySem.W.keepIn X.K (.ref f)=true)(hb:Binds X.K fd ps ds)(hd:Vals dvs ds)(hx:Passes CX X E) (ha:PA X (e::es) t)(iO:autoParam ((x==("__debug__":Str))=false) q8_._auto_1)(he:autoParam (starEach (e::es) X.env=(false,eval e X.env)::starEach es X.env) r8_._auto_1)(eJ:autoParam ((backTo pos (starEach es X.env)).any (·.1)=false) r8_._auto_1): PE X (.Call (.Name x p) (e::es) [] pos) (Xs sp dvs E t):=by intro ak s O H Q I h;erw[A9 (ub I hg hm ?_ iO)];erw[xF (h₀:=X.aw) I.ok.mod.lL hk (ba (ha pos ak s O H _ I h) λus s1 #[vs,H1,I1,r,q]=>#[I1.fD,?_]) he eJ];erw[Bm F hr hb hd hx I1 r q]
theorem Qk{pl:Sem Bool}(he:PE X o ta)(c:hU X.K C)(hm:Meth X.K C m f)(F:eK X.prog X.w X.K X.mg X.aw CX k f fd ps sp)(hr:cF k X.A)(hb:Binds X.K fd ps ds)(hd:Vals dvs ds)(hx:Passes CX X E)(ha:PA X (e::es) t) (g9:autoParam (starEach (e::es) X.env=(false,eval e X.env)::starEach es X.env) r8_._auto_1)(eJ:autoParam ((backTo pos (starEach es X.env)).any (·.1)=false) r8_._auto_1) (ht:eval (.Call (.Attribute o m apos) (e::es) [] pos) X.env=(do
 let ov<-eval o X.env
 standAt apos.atName
 let(f,first)<-holding [ov] (getMethod ov m pl)
 callWith pos f first (backTo pos (starEach (e::es) X.env)) (backToKw pos (keywordEach [] X.env))):=by rfl): PE X (.Call (.Attribute o m apos) (e::es) [] pos) (Mm C m sp dvs E ta t):=by
 intro ak s O H Q I h;erw[DI (pl:=pl) (ba (he ak s O H _ I h) λu s1 #[x,H1,I1,rx,a,dx,fs,ex,ea,l,q]=>?_) ht];subst ex;obtain rfl:u=Value.ref a:=rx;erw[zA I1 ea c hm l ?_];erw[xF (first:=[.ref a]) (h₀:=X.aw) I.ok.mod.lL hm.kp (ba (ha pos ak s1 O H1 _ I1 q) λus s2 #[vs,H2,I2,r,q2]=>#[I2.fD,?_]) g9 eJ];erw[Bm (us:=.ref a::us) (vs:=.ref a::vs) F hr hb hd hx I2 (.cons Z r) q2]
theorem Qj{pl:Sem Bool}(he:PE X o ta)(c:hU X.K C)(hm:Meth X.K C m f)(F:eK X.prog X.w X.K X.mg X.aw CX k f fd ps sp)(hr:cF k X.A)(hb:Binds X.K fd ps ds)(hd:Vals dvs ds)(hx:Passes CX X E) (ht:eval (.Call (.Attribute o m apos) [] [] pos) X.env=(do
 let ov<-eval o X.env
 standAt apos.atName
 let(f,first)<-holding [ov] (getMethod ov m pl)
 callWith pos f first (backTo pos (starEach [] X.env)) (backToKw pos (keywordEach [] X.env))):=by rfl): PE X (.Call (.Attribute o m apos) [] [] pos) (Mm C m sp dvs E ta qx):=by
 intro ak s O H Q I h;erw[DI (pl:=pl) (ba (he ak s O H _ I h) λu s1 #[x,H1,I1,rx,a,dx,fs,ex,ea,l,q]=>?_) ht];subst ex;obtain rfl:u=Value.ref a:=rx;erw[zA I1 ea c hm l ?_];erw[PySem.W.callWith_K0 (first:=[.ref a]) I1.fD hm.kp (Bm (us:=[.ref a]) (vs:=[.ref a]) F hr hb hd hx I1 (.cons rfl .nil) q)]
structure Mk(K:aa)(C f:Addr):Prop where
 makes:PySem.W.makesIn K C=true
 init:PySem.W.findIn K (.ref C) "__init__"=some (some (.ref f))
 fn:PySem.W.isFn K (.ref f)=true
 kp:PySem.W.keepIn K (.ref C)=true
theorem YA{ak:List (Addr×Obj)}{O:St}{H:Hp}{s:ae}{Q:VK}{us:List Value}{vs:List V}(M:Mk X.K C f)(F:eK X.prog X.w X.K X.mg X.aw CX k f fd ps sp)(hr:cF (k+1) X.A)(hb:Binds X.K fd ps ds)(hd:Vals dvs ds) (hx:Passes CX X E)(I:Inv X ak O H s)(r:Vals vs us) (h:∀x dx,H x=none->H dx=none->dx≠x->sp (.ref x::(vs++dvs)) (upd (upd H dx (.own x)) x (.ins C dx [])) (λv H2=>v= .bD/\Q (.ref x) H2) E): wpAny (model X.prog X.w) X.A (call (.ref C) us) (EP X ak O Q) X.xe s:=by
 have hq:=h (s.heap.objs.size+1) s.heap.objs.size (I.bA.fresh (Nat.le_succ _)) (I.bA.fresh (bV _)) (dY (Nat.lt_succ_self _));have I2:=Inv.made (C:=C) I;have r2:Vals (V.ref (s.heap.objs.size+1)::(vs++dvs)) (Value.ref (s.heap.objs.size+1)::(us++ds)):=.cons Z (r.append hd);have hl:(Value.ref (s.heap.objs.size+1)::us++ds).length=ps.length:=by have e:=r2.length;rw[F.len _ _ _ _ hq]at e;erw[e.symm]
 erw[wpAny_call (a3u (f:=f) I.fD M.makes M.init (fV.mp M.fn) (uY (F.run _ X.stack _ _ #[Value.ref (s.heap.objs.size+1)::us,[]] (Value.ref (s.heap.objs.size+1)::(us++ds)) _ _ E (hr.make C us []) (I2.CP.make C us []) (hb _ (Value.ref (s.heap.objs.size+1)::us) I2.fD hl) r2 hq) λr s' oh=>?_))];cases r with |error e=>erw[hx ak O _ _ e s' I2 oh] |ok fl=>cases fl with |ret u=>let(v,H',I3,rv,ev,q3):=I2.after oh;subst ev;erw[rv,#[V.ref (s.heap.objs.size+1),H',I3,Z,q3]] |next=>erw[False.elim oh] |brk=>erw[False.elim oh] |cont=>erw[False.elim oh]
theorem a08(M:Mk X.K C f)(F:eK X.prog X.w X.K X.mg X.aw CX k f fd ps sp)(hr:cF (k+1) X.A)(hg:Gl X x)(hm:X.mg x=some (.ref C))(hb:Binds X.K fd ps ds)(hd:Vals dvs ds)(hx:Passes CX X E) (ha:PA X (e::es) t)(iO:autoParam ((x==("__debug__":Str))=false) q8_._auto_1)(he:autoParam (starEach (e::es) X.env=(false,eval e X.env)::starEach es X.env) r8_._auto_1)(eJ:autoParam ((backTo pos (starEach es X.env)).any (·.1)=false) r8_._auto_1): PE X (.Call (.Name x p) (e::es) [] pos) (Xl C sp dvs E t):=by intro ak s O H Q I h;erw[A9 (ub I hg hm ?_ iO)];erw[xF (h₀:=X.aw) I.ok.mod.lL M.kp (ba (ha pos ak s O H _ I h) λus s1 #[vs,H1,I1,r,q]=>#[I1.fD,?_]) he eJ];erw[YA M F hr hb hd hx I1 r q]
end
section
variable {X:Cx}{CX:j4}{k:Nat}{f C:Addr}{fd:FuncData}{ps ks:List Str}{sp:Sp}{E:XK}{x m:Str}{p pos apos ael:Pos}{e o:Expr}{es:List Expr}{kws:List Keyword}{te ta:TE}{t tk:TA}{nm:Option Str}
variable {g:List Value->List Value->List Value}{gV:List V->List V->List V}
end
structure bp(N P:List Str)(sc:Scope):Prop where
 kind:sc.kind= .function
 co:sc.isCoroutine=false
 gen:sc.isGenerator=false
 nd:N.Nodup
 pre:N.take P.length=P
 par:∀x∈P,sc.names.lookup x=some .local\/sc.names.lookup x=some .cell
 a2S:∀y∈sc.names,y.2≠ .free
theorem UT{kindOf:Str->Option NameKind}{x:Str}:∀{binds:List (Str×Value)}{m:bN},(∀v,(x,v)∉binds)->bindL kindOf binds m x=m x
 |[],_,_=>rfl |(n,v)::r,m,h=>by
  unfold bindL;rw[UT λw hw=>h w (xJ _ hw)];split
  ·have:x≠n:=by rintro rfl;erw[h v DM]
   simp[this]
  ·rfl
theorem UW{kindOf:Str->Option NameKind}{x:Str}:∀{binds:List (Str×Value)}{m:bN},(∀v,(x,v)∉binds)->bindC kindOf binds m x=m x
 |[],_,_=>rfl |(n,v)::r,m,h=>by
  unfold bindC;rw[UW λw hw=>h w (xJ _ hw)];split
  ·rfl
  ·have:x≠n:=by rintro rfl;erw[h v DM]
   simp[this]
theorem UU{kindOf:Str->Option NameKind}{x:Str}{v:Value}:∀{P:List Str}{vs:List Value}{i:Nat}{m:bN},P.Nodup->P[i]? =some x->vs[i]? =some v->kindOf x=some .local->bindL kindOf (P.zip vs) m x=some v |[],_,_,_,_,h,_,_=>by simp at h |_::_,[],_,_,_,_,h,_=>by simp at h |p::P,w::vs,0,m,nd,h1,h2,hk=>by simp at h1 h2;subst h1;subst h2;show bindL kindOf ((p,w)::P.zip vs) m p=_;unfold bindL;rw[UT λv hv=>(LK.mp nd).1 (xH hv).1,bu hk];simp |p::P,w::vs,i+1,m,nd,h1,h2,hk=>by show bindL kindOf ((p,w)::P.zip vs) m x=_;unfold bindL;erw[UU (i:=i) (LK.mp nd).2 (by simpa using h1) (by simpa using h2) hk]
theorem UX{kindOf:Str->Option NameKind}{x:Str}{v:Value}:∀{P:List Str}{vs:List Value}{i:Nat}{m:bN},P.Nodup->P[i]? =some x->vs[i]? =some v->kindOf x≠some .local->bindC kindOf (P.zip vs) m x=some v |[],_,_,_,_,h,_,_=>by simp at h |_::_,[],_,_,_,_,h,_=>by simp at h |p::P,w::vs,0,m,nd,h1,h2,hk=>by simp at h1 h2;subst h1;subst h2;show bindC kindOf ((p,w)::P.zip vs) m p=_;unfold bindC;rw[UW λv hv=>(LK.mp nd).1 (xH hv).1,bo hk];simp |p::P,w::vs,i+1,m,nd,h1,h2,hk=>by show bindC kindOf ((p,w)::P.zip vs) m x=_;unfold bindC;erw[UX (i:=i) (LK.mp nd).2 (by simpa using h1) (by simpa using h2) hk]
def start(N:List Str)(vs:List V):St:=vs.map some++List.replicate (N.length-vs.length) none
def iA(CX:j4)(P:af)(w:World)(K:aa)(mg:bN)(aw:Heap)(N:List Str)(qual:Str)(scope:Scope)(f:Addr)(cd:Value)(A:ah)(outer:List Env)(s:ae)(H:Hp)(E:XK):Cx where
 prog:=P
 w:=w
 K:=K
 mg:=mg
 aw:=aw
 A:=A.deeper (envOfC qual scope s.heap.objs.size f cd)
 N:=N
 s₀:=s
 H₀:=H
 env:=envOfC qual scope s.heap.objs.size f cd
 outer:=outer
 stack:=envOfC qual scope s.heap.objs.size f cd::outer
 ex:=[]
 calm:=true
 fn:=λ_=>true
 pn:=[]
 xe:=λe s'=>wpAny (model P w) (A.deeper (envOfC qual scope s.heap.objs.size f cd)) (leaving (envOfC qual scope s.heap.objs.size f cd) e) (λ_ Gy=>CX outer H s E e Gy) (λe' Gy=>CX outer H s E e' Gy) s'
theorem UJ{sc:Scope}{n:Nat}{x:Str}(h:sc.names.lookup x=some .cell):∃c,(cellsFrom n sc.names []).lookup x=some c:=by have q:=Lz sc.names n [] (.inl h);erw[Option.isSome_iff_exists.mp q]
theorem IY{CX:j4}{P:af}{w:World}{K:aa}{mg:bN}{aw:Heap}{N ps:List Str}{qual:Str}{scope:Scope}{f:Addr}{cd:Value}{A:ah}{outer:List Env}{s s1:ae}{H:Hp}{E:XK}{us:List Value}{vs:List V} (S:bp N ps scope)(hd:A.handled=none)(e0:qi P w K mg aw A outer s H)(hl:vs.length=ps.length)(r:Vals vs us) (x:InCallC s s.heap.objs.size (bindL (envOfC qual scope s.heap.objs.size f cd).kindOf (ps.zip us) λ_=>none) (cellsFrom (s.heap.objs.size+1) scope.names []) (bindC (envOfC qual scope s.heap.objs.size f cd).kindOf (ps.zip us) λ_=>none) s1): Inv (iA CX P w K mg aw N qual scope f cd A outer s H E) [] (start N vs) H s1:=by
 have eJ:ps.length<=N.length:=by have:=jZ List.length S.pre;rw[ve]at this;lia
 let(h1,tk,rfl,hk):=x.done;have yL:∀b:Addr,b∉(iA CX P w K mg aw N qual scope f cd A outer s H E).ex:=λb z=>absurd (show b∈([]:List Addr)from z) (by simp);erw[#[e0.mod,S.kind,Z,Z,bV _,λy z c h1 h2=>?_,λy hy=>?_,λy c _ h=>?_,λ_=>hd,Around.frames_deeper e0.frames,.inr #[Z,Z],λb z=>absurd z (yL b),e0.bs,e0.kW,λb _ _=>yL b,λb z=>absurd z (yL b),e0.jy,e0.mZ],rfl,e0.bare,Un.kept hk,#[_,x.toInCall.ns,λi y v h1 h2 h3=>?_],λy c h=>#[_,x.cell y c h],e0.bA.fresh (bV _),λy c h=>?_,λp hp=>absurd (show p∈([]:List (Addr×Obj))from hp) (by simp),e0.bA.kept hk,?_]
 ·erw[name_of_addr x.apart (DH h1) (DH h2)]
 ·have hy:scope.names.lookup y=some .cell\/scope.names.lookup y=some .free:=hy
  rcases hy with hy|hy
  ·erw[UJ hy]
  ·erw[absurd Z (S.a2S _ (DH hy))]
 ·erw[Nat.le_of_lt (x.above y c (DH h))]
 ·have hi:i<vs.length:=by
   unfold start at h2;by_cases hi:i<vs.length
   ·erw[hi]
   ·rw[xO (by simpa using hi)]at h2
    rw[List.getElem?_replicate]at h2;split at h2<;>cases h2
  have ha:vs[i]? =some v:=by unfold start at h2;rw[vg (by simpa using hi),cj]at h2;cases e:vs[i]? with |none=>rw[e]at h2;cases h2 |some a=>rw[e]at h2;cases h2;rfl
  let(u,hu,rv):=r.get ha;have hp:ps[i]? =some y:=by rw[<-S.pre,List.getElem?_take_of_lt au];erw[h1]
  have QV:ps.Nodup:=by rw[<-S.pre];erw[S.nd.sublist (List.take_sublist _ _)]
  erw[u,rv,?_];rcases S.par y (gf hp)with k|k
  ·erw[.inl #[k,UU QV hp hu k]]
  ·let(c,e):=UJ (n:=s.heap.objs.size+1) k
   erw[.inr #[.inl k,c,e,?_]];have q:=x.cell y c e;rw[UX QV hp hu (by show scope.names.lookup y≠_;rw[k];decide)]at q;erw[q]
 ·erw[e0.bA.fresh (Nat.le_of_lt (x.above y c (DH h)))]
 ·unfold start
  show _=N.length;rw[fH,bW,List.length_replicate]
  lia
theorem JT{CX:j4}{P:af}{w:World}{K:aa}{mg:bN}{aw:Heap}{k:Nat}{f:Addr}{name qual:Str}{params:Arguments}{body:List Stmt}{scope:Scope}{dV kV doc pm aI ct oc:Value}{an od:Option Addr} {fO:Array (Option Value)}{N ps:List Str}{sp:Sp}(lk:K.lookup f=some #[oc,od,.func (PySem.W.fnOf name qual params body scope dV kV doc pm an aI ct),fO])(eY:PySem.W.codeIn K aI qual=true)(S:bp N ps scope) (len:∀vs H Q E,sp vs H Q E->vs.length=ps.length) (gb:∀(A:ah)(outer:List Env)(s:ae)(H:Hp)(vs:List V)(Q:VK)(E:XK),cF k (A.deeper (envOfC qual scope s.heap.objs.size f aI))->sp vs H Q E->∃t,fT (iA CX P w K mg aw N qual scope f aI A outer s H E) body t/\t {nx:=λ_ H'=>Q .bD H',rt:=Q} (start N vs) H): eK P w K mg aw CX (k+1) f (PySem.W.fnOf name qual params body scope dV kV doc pm an aI ct) ps sp:=by
 erw[len,λA outer s H args us vs Q E hr e0 hb r fM=>?_];have hl:=len _ _ _ _ fM;have KX:K.In s.heap:=e0.mod.lL.keeps λb o e=>(e0.bs b o e).1;have lim:s.heap.NoLimit:=e0.mod.nolimit.keeps λb o e=>(e0.bs b o e).1;have mR:∀y∈ps.zip us,scope.names.lookup y.1=some .local\/(scope.names.lookup y.1=some .cell/\((cellsFrom (s.heap.objs.size+1) scope.names []).lookup y.1).isSome=true):=λ#[n,v] hy=>by
  rcases S.par n (xH hy).1 with q|q
  ·erw[.inl q]
  ·erw[.inr #[q,Lz _ _ _ (.inl q)]]
 erw[Vz hr.depth (KX _ _ lk) Z S.co S.gen Z (VD KX eY) (hb _ _ _ _ ?_)];erw[Vw S.kind mR λenv he s1 x=>?_];subst he;erw[lim.keeps x.toInCall.keep,codeAny_func ?_];let(t,ht,hq):=gb A outer s H vs Q E (hr.deeper _) fM;have I:Inv (iA CX P w K mg aw N qual scope f aI A outer s H E) [] (start N vs) H s1:=IY S hr.hd e0 hl r x;erw[ji (ht [] s1 (start N vs) H _ I hq) (λfl s' hs=>?_) λe s' hs=>hs];have fin:∀{σ':St}{H':Hp}{v:V}{u:Value},Inv (iA CX P w K mg aw N qual scope f aI A outer s H E) [] σ' H' s'->RelV v u->Q v H'->CE outer P w H s Q u s':=λ{σ' H' v u} J rv q=>#[v,H',J.os,J.bare,J.aw,J.bA,rv,q];cases fl with |ret u=>let(v,σ',H',J,rv,q):=hs;erw[fin J rv q] |next=>let(σ',H',J,q):=hs;erw[fin (v:=V.bD) (u:=Value.none) J Z q] |brk=>let(_,_,_,q):=hs;erw[False.elim q] |cont=>let(_,_,_,q):=hs;erw[False.elim q]
section
variable {X:Cx}{x:Str}{p pos:Pos}{e:Expr}{es:List Expr}{t:TA}{id T:String}{r:List V->Hp->VK->Prop}
def AO(r:List V->Hp->VK->Prop)(t:TA):TE:=λO H Q=>t O H λvs H1=>r vs H1 Q
theorem fK(hc:fq X (.builtin id) r)(hg:Gl X x)(hm:X.mg x=none)(hv:bootBuiltins x=some (.builtin id))(ha:PA X (e::es) t)(hn:autoParam (x≠"__name__") q8_._auto_1)(iO:autoParam ((x==("__debug__":Str))=false) q8_._auto_1) (he:autoParam (starEach (e::es) X.env=(false,eval e X.env)::starEach es X.env) r8_._auto_1)(eJ:autoParam ((backTo pos (starEach es X.env)).any (·.1)=false) r8_._auto_1):PE X (.Call (.Name x p) (e::es) [] pos) (AO r t):=by intro ak s O H Q I h;erw[A9 (uc I hg hm hv ?_ hn iO)];erw[PyProof.Rows.callWith_builtin1 (ba (ha pos ak s O H _ I h) λus s1 #[vs,H1,I1,r1,q1]=>hc ak s1 O H1 vs us Q I1 r1 q1) he eJ]
theorem cI(hc:fq X (.type T) r)(hg:Gl X x)(hm:X.mg x=none)(hv:bootBuiltins x=some (.type T))(ha:PA X (e::es) t)(hn:autoParam (x≠"__name__") q8_._auto_1)(iO:autoParam ((x==("__debug__":Str))=false) q8_._auto_1) (he:autoParam (starEach (e::es) X.env=(false,eval e X.env)::starEach es X.env) r8_._auto_1)(eJ:autoParam ((backTo pos (starEach es X.env)).any (·.1)=false) r8_._auto_1):PE X (.Call (.Name x p) (e::es) [] pos) (AO r t):=by intro ak s O H Q I h;erw[A9 (uc I hg hm hv ?_ hn iO)];erw[DJ (ba (ha pos ak s O H _ I h) λus s1 #[vs,H1,I1,r1,q1]=>hc ak s1 O H1 vs us Q I1 r1 q1) he eJ]
end
end _L
namespace _H
open PySem PyProof.Rows
section
open PySem.SeqAt
open PySem.AutoSeq1 (wpAny_loadPart')
open PySem.MeetsSeq PySem.MeetsSeq2 PySem.MeetsSeq3
end
section
variable {prog:af}{w:World}{A:ah}{E:Value->ae->Prop}{s:ae}
theorem aag{t b:Addr}{vs ws:List Value}{Q:Value->ae->Prop}(ht:IsTup s.heap t vs.toArray)(hb:IsTup s.heap b ws.toArray)(hv:vs≠[]) (h1:ws=[]->Q (.ref t) s)(h2:ws≠[]->Q (.ref s.heap.objs.size) {s with heap:=s.heap.push {cls:=.type "tuple",data:=.seq (vs++ws).toArray}}) (hsz:vs.length+ws.length<=sizeLine):wpAny (model prog w) A (binaryOp .Add (.ref t) (.ref b)) Q E s:=by
 let((cls,dd,data,sl),ho,hc,n,hd):=id ht;let((UG,x9,data2,sl2),lR,gI,n2,hd2):=id hb;simp only at hc hd gI hd2;subst hc hd gI hd2;have e:vs.toArray++ws.toArray=(vs++ws).toArray:=by simp
 by_cases hw:ws=[]
 ·erw[concat_meets #[_,ho,Z] #[_,lR,Z] noFill_tuple_add seq_tuple_add VE VG (VH _ _) (tuple_addW1 t b vs.toArray ws.toArray n n2 dd x9 sl sl2 (by simpa using hv) (by simp[hw])) #[ho,lR,h1 hw]]
 ·erw[concat_meets #[_,ho,Z] #[_,lR,Z] noFill_tuple_add seq_tuple_add VE VG (VH _ _) (tuple_addW2 t b vs.toArray ws.toArray n n2 dd x9 sl sl2 (by simpa using hv) (by simpa using hw) (by rw[eO,eO];erw[hsz])) #[ho,lR,?_]];rw[e];erw[h2 hw]
def cu(n d:Nat):Option Int->Nat |none=>d |some v=>if v<0 then(v+(n:Int)).toNat else min v.toNat n
theorem Pq (n d:Nat):cu n d none=d:=rfl
theorem FV(n d k:Nat):cu n d (some (k:Int))=min k n:=by show(if(k:Int)<0 then((k:Int)+(n:Int)).toNat else min (k:Int).toNat n)=min k n;rw[bo au,LO]
theorem Yr(n d:Nat)(hd:d<=n)(o:Option Int):cu n d o<=n:=by cases o with |none=>erw[hd] |some v=>
 show(if v<0 then(v+(n:Int)).toNat else min v.toNat n)<=n;by_cases hv:v<0
 ·rw[bu hv];lia
 ·rw[bo hv];erw[Nat.min_le_right _ _]
theorem Kx(v:Int)(n d:Nat):(if v<0 then max (v+(n:Int)) 0 else min v (n:Int))=((cu n d (some v):Nat):Int):=by
 show(if v<0 then max (v+(n:Int)) 0 else min v (n:Int))=(((if v<0 then(v+(n:Int)).toNat else min v.toNat n):Nat):Int);by_cases hv:v<0
 ·simp only[bu hv];lia
 ·simp only[bo hv];lia
theorem ab0(lo hi:Option Int)(n:Nat):Builtin.Slice.sliceAdjust lo hi 1 (n:Int)=(((cu n 0 lo:Nat):Int),((cu n n hi:Nat):Int)):=by
 have h1:¬((1:Int)<0):=by lia
 unfold Builtin.Slice.sliceAdjust;simp only[h1,if_false];erw[Prod.ext ?_ ?_]
 ·cases lo with |none=>rfl |some v=>erw[Kx v n 0]
 ·cases hi with |none=>rfl |some v=>erw[Kx v n n]
theorem ZP(i j:Nat):Builtin.Slice.slicePlaces (i:Int) (j:Int) 1=j-i:=by
 unfold Builtin.Slice.slicePlaces;have h1:(1:Int)>0:=by lia
 simp only[h1,if_true,Int.ediv_one];split<;>lia
theorem NC{v:Value}{o:Option Int}{Q:Option Int->ae->Prop}(p:IsPart v o)(h:Q o s):wpAny (model prog w) A (Builtin.Slice.slicePartIndex v) Q E s:=by cases p with |none=>erw[slicePart_none h] |int i t=>erw[slicePart_int h]
theorem Y2{sl:Addr}{vl vu:Value}{lo hi:Option Int}{n:Nat}{Q:Int×Int×Nat->ae->Prop}(hs:s.heap.IsSliceOf sl vl vu .none)(pl:IsPart vl lo)(pu:IsPart vu hi) (h:Q (((cu n 0 lo:Nat):Int),1,cu n n hi-cu n 0 lo) s):wpAny (model prog w) A (Builtin.Slice.sliceApplied (.ref sl) (pure (n:Int))) Q E s:=by let(os,om,Ct,je):=id hs;unfold Builtin.Slice.sliceApplied Builtin.Slice.sliceFields;erw[aL (aL (iE om je (x:=vl) Z (aL (iE om je (x:=vu) Z (aL (iE om je (x:=.none) Z (cn ?_)))))))];erw[aL (slicePart_none ?_)];show wpAny _ _ (if((1:Int)==0)=true then _ else _) _ _ s;rw[bo ay];erw[aL (NC pl (aL (NC pu (aL (cn ?_)))))];show wpAny _ _ (match Builtin.Slice.sliceAdjust lo hi 1 (n:Int)with|(lo,hi)=>pure (lo,(1:Int),Builtin.Slice.slicePlaces lo hi 1)) _ _ s;rw[ab0 lo hi n];show wpAny _ _ (pure (((cu n 0 lo:Nat):Int),(1:Int),Builtin.Slice.slicePlaces ((cu n 0 lo:Nat):Int) ((cu n n hi:Nat):Int) 1)) _ _ s;rw[ZP];erw[cn h]
theorem ZU(xs:Array Value)(i k:Nat):((List.range k).filterMap λ(m:Nat)=>xs[((i:Int)+(m:Int)*1).toNat]?).toArray=((xs.toList.drop i).take k).toArray:=by
 have e:(λ(m:Nat)=>xs[((i:Int)+(m:Int)*1).toNat]?)=λm=>xs[i+m]?:=by
  funext m;have:((i:Int)+(m:Int)*1).toNat=i+m:=by lia
  rw[this]
 rw[e];have:=pick_run xs i k;rw[List.filterMap_map]at this;have e2:((λx=>xs[x]?)∘λx=>i+x)=λm=>xs[i+m]?:=rfl;rw[e2]at this;rw[this]
theorem a7v{t sl:Addr}{items:Array Value}{vl vu:Value}{lo hi:Option Int}{Q:Value->ae->Prop}(ht:IsTup s.heap t items)(hs:s.heap.IsSliceOf sl vl vu .none)(pl:IsPart vl lo)(pu:IsPart vu hi) (hw:¬(cu items.size 0 lo=0/\cu items.size items.size hi=items.size)) (h:Q (.ref s.heap.objs.size) {s with heap:=s.heap.push {cls:=.type "tuple",data:=.seq ((items.toList.drop (cu items.size 0 lo)).take (cu items.size items.size hi-cu items.size 0 lo)).toArray}}) (hsz:items.size<=sizeLine):wpAny (model prog w) A (getItem (.ref t) (.ref sl)) Q E s:=by
 have Cd:sizeOk (.seq ((items.toList.drop (cu items.size 0 lo)).take (cu items.size items.size hi-cu items.size 0 lo)).toArray):=by show((items.toList.drop (cu items.size 0 lo)).take (cu items.size items.size hi-cu items.size 0 lo)).toArray.size<=sizeLine;rw[eO,ve,VO,Ap];omega
 have hj:cu items.size items.size hi<=items.size:=Yr _ _ (bV _) hi;let(os,om,Ct,je):=id hs;have hTs:s.TypeIs (.ref sl) "slice":=#[os,om,Ct];unfold getItem
 try with_reducible erw[m6 ?_]
 first|erw[aL (cn ?_)]|skip
 erw[aL (wpAny_sequenceKey ht.typeIs ay ?_)];erw[aL (A8 (name:=Str.ofString "__getitem__") ht.typeIs VI (A7 VI ht.typeIs entry_tuple_getitem ?_ (args_tuple_getitem _ _)))];show wpAny _ _ (Builtin.Tuple.tupleItemsOf (.ref t)>>=_) _ _ s;erw[aL (tupleItemsOf_ ht ?_)];erw[aL (wpAny_typeOf hTs ?_)];rw[bu ay];erw[aL (Y2 hs pl pu ?_)];have oq:¬((((cu items.size 0 lo:Nat):Int)==0&&(1:Int)==1&&(cu items.size items.size hi-cu items.size 0 lo)==items.size)=true):=by intro q;rw[eX,eX]at q;have q1:((cu items.size 0 lo:Nat):Int)=0:=eq_of_beq q.1.1;have q2:cu items.size items.size hi-cu items.size 0 lo=items.size:=eq_of_beq q.2;erw[hw #[bR,bR]]
 show wpAny _ _ (if(((cu items.size 0 lo:Nat):Int)==0&&(1:Int)==1&&(cu items.size items.size hi-cu items.size 0 lo)==items.size)=true then _ else _) _ _ s;rw[bo oq,ZU]
 first |erw[aL (m:=Builtin.Tuple.tupleExact _) (nH (cn #[_,Z,cn h]) Cd)] |erw[aL (m:=Builtin.Tuple.tupleExact _) (nH (aL (cn (cn #[_,Z,cn h]))) Cd)] |erw[aL (aL (m:=Builtin.Tuple.tupleExact _) (nH (cn (cn #[_,Z,cn h])) Cd))] |erw[aL (aL (m:=Builtin.Tuple.tupleExact _) (nH (cn #[_,Z,cn h]) Cd))]
end
end _H
namespace _L
open PySem PySem.Spec PyProof.Rows
abbrev TO:=St->Hp->(Option Int->Hp->Prop)->Prop
def PO(X:Cx)(e:Option Expr)(t:TO):Prop:=∀(ak:List (Addr×Obj))(s:ae)(O:St)(H:Hp)(Q:Option Int->Hp->Prop),Inv X ak O H s->t O H Q->wpAny (model X.prog X.w) X.A (evalPart e X.env) (λu s'=>∃o H',Inv X ak O H' s'/\IsPart u o/\Q o H') X.xe s
def Xi:TO:=λ_ H Q=>Q none H
inductive abm(Q:Option Int->Hp->Prop)(x:V)(H1:Hp):Prop |mk (i:_)(h0:x= .int i)(h1:Q (some i) H1)
def Xc(t:TE):TO:=λO H Q=>t O H λx H1=>abm Q x H1
section
variable {X:Cx}{e:Expr}{te:TE}{lo hi:Option Expr}{tl th:TO}{pos p2:Pos}
theorem vS:PO X none Xi:=by intro ak s O H Q I h;rw[evalPart_none];erw[cn #[none,H,I,.none,h]]
theorem qF(h:PE X e te):PO X (some e) (Xc te):=by intro ak s O H Q I hw;rw[evalPart_some];erw[ba (h ak s O H _ I hw) λu s1 #[x,H1,I1,r1,q1]=>?_];let(i,rfl,q):=q1;let(t,rfl):=r1;erw[some i,H1,I1,.int i t,q]
def Dx(X:Cx)(r:V->Option Int->Option Int->Hp->VK->Prop):Prop:=∀(ak:List (Addr×Obj))(s:ae)(O:St)(H:Hp)(x:V)(v vl vu:Value)(lo hi:Option Int)(sl:Addr)(Q:VK),Inv X ak O H s->RelV x v->s.heap.IsSliceOf sl vl vu .none->IsPart vl lo->IsPart vu hi->r x lo hi H Q->∃T id,typeLookup (.type T) "__getitem__"=pure (some (.builtin id))/\s.TypeIs v T/\wpAny (model X.prog X.w) X.A (getItem v (.ref sl)) (EP X ak O Q) X.xe s
def X9(r:V->Option Int->Option Int->Hp->VK->Prop)(te:TE)(tl th:TO):TE:=λO H Q=>te O H λx H1=>tl O H1 λl H2=>th O H2 λu H3=>r x l u H3 Q
theorem tL{r:V->Option Int->Option Int->Hp->VK->Prop}(hr:Dx X r)(he:PE X e te)(hl:PO X lo tl)(hu:PO X hi th):PE X (.Subscript e (.Slice lo hi none p2) pos) (X9 r te tl th):=by intro ak s O H Q I h;erw[Subscript_ (ba (he ak s O H _ I h) λv s1 #[x,H1,I1,r1,q1]=>?_)];erw[wpAny_Slice (ba (hl ak s1 O H1 _ I1 q1) λvl s2 #[l,H2,I2,pl,q2]=>ba (hu ak s2 O H2 _ I2 q2) λvu s3 #[u,H3,I3,pu,q3]=>?_)];rw[evalPart_none];erw[cn ?_];have I4:Inv X ak O H3 {s3 with heap:=s3.heap.push {cls:=.type "slice",data:=.fields (List.toArray [vl,vu,.none])}}:=I3.kept (t':=s3.toks) λb ob q=>cx _ q;let(T,id,hT,ht,hg):=hr ak {s3 with heap:=s3.heap.push {cls:=.type "slice",data:=.fields (List.toArray [vl,vu,.none])}} O H3 x v vl vu l u s3.heap.objs.size Q I4 r1 (Heap.IsSliceOf.new ..) pl pu q3;show wpAny (model X.prog X.w) X.A (subscriptTail e (.Slice lo hi none p2) v (.ref s3.heap.objs.size)) (EP X ak O Q) X.xe {s3 with heap:=s3.heap.push {cls:=.type "slice",data:=.fields (List.toArray [vl,vu,.none])}};erw[tail_any (ops:=[.ref s3.heap.objs.size,v]) ht hT hg (by with_unfolding_all rfl)]
def jC(xs:List V)(lo hi:Option Int):List V:=(xs.drop (_H.cu xs.length 0 lo)).take (_H.cu xs.length xs.length hi-_H.cu xs.length 0 lo)
theorem Uy(xs:List V)(lo hi:Option Int):(jC xs lo hi).length<=xs.length:=by
 unfold jC;rw[ve,VO]
 lia
inductive acY(K:aa)(x:V)(lo:Option Int)(hi:Option Int)(H:Hp)(Q:VK):Prop |mk (a:_)(xs:_)(h0:x= .ref a)(h1:bc K H a xs)(h2:¬(_H.cu xs.length 0 lo=0/\_H.cu xs.length xs.length hi=xs.length))(h3:∀p,H p=none->Q (.ref p) (upd H p (.tup (jC xs lo hi))))
def Zt(K:aa):V->Option Int->Option Int->Hp->VK->Prop:=λx lo hi H Q=>acY K x lo hi H Q
theorem Y3:Dx X (Zt X.K):=by
 intro ak s O H x v vl vu lo hi sl Q I rx hs pl pu h;let(a,xs,rfl,hx,hw,q):=h;cases rx;let(its,r,ht,hz):=I.tuple hx;have hlen:its.toArray.size=xs.length:=by rw[eO];erw[r.length.symm]
 erw["tuple",_,VI.lookup,ht.typeIs,?_];erw[_H.a7v ht hs pl pu (by rw[hlen];erw[hw]) ?_ (by rw[hlen];erw[hz])];rw[hlen];erw[.ref s.heap.objs.size,_,I.laid (t':=s.toks) (o:=.tup (jC xs lo hi)) (λb ob q=>cx _ q) (bV _) ?_,Z,q _ (I.bA.fresh (bV _))];erw[j7 (Uy xs lo hi) hz,_,(r.drop (_H.cu xs.length 0 lo)).take (_H.cu xs.length xs.length hi-_H.cu xs.length 0 lo),IsTup.new _ _]
theorem Vals.HZ{xs:List V}{us:List Value}(r:Vals xs us):us=[]↔xs=[]:=by cases r with |nil=>simp |cons _ _=>simp
end
def kx(n:Nat)(i:Int):Option Nat:=if 0<=i then(if i<n then some i.toNat else none)else if-(n:Int)<=i then some (i+n).toNat else none
def fb{α:Type}(xs:List α)(i:Int):Option α:=(kx xs.length i).bind λj=>xs[j]?
theorem RZ{n:Nat}{i:Int}{j:Nat}(h:kx n i=some j):seqIndex? i n=some j/\j<n/\-(n:Int)<=i/\i<n:=by
 unfold kx at h;by_cases h0:0<=i
 ·rw[bu h0]at h
  by_cases h1:i<n
  ·rw[bu h1]at h
   have e:i.toNat=j:=dQ h;erw[by rw[seqIndex_of h0 h1,e],au,au,h1]
  ·rw[bo h1]at h;cases h
 ·rw[bo h0]at h
  by_cases h1:-(n:Int)<=i
  ·rw[bu h1]at h
   have e:(i+n).toNat=j:=dQ h;erw[by rw[seqIndex_neg au h1,e],au,h1,au]
  ·rw[bo h1]at h;cases h
theorem KU{α:Type}{xs:List α}{i:Int}{v:α}(h:fb xs i=some v):∃j,seqIndex? i xs.length=some j/\xs[j]? =some v/\j<xs.length/\-(xs.length:Int)<=i/\i<xs.length:=by unfold fb at h;cases e:kx xs.length i with |none=>rw[e]at h;cases h |some j=>rw[e]at h;let(h1,h2,h3,h4):=RZ e;erw[j,h1,h,h2,h3,h4]
theorem aaP{α:Type}{xs:List α}{j:Nat}{v:α}(h:xs[j]? =some v):fb xs (j:Int)=some v:=by
 have hj:j<xs.length:=(dZ.mp h).1;have e:kx xs.length (j:Int)=some j:=by unfold kx;rw[bu au,bu au];simp
 unfold fb;rw[e];erw[h]
def Vm(b:Expr):Prop:=∀o i,subscripted b false o i=operate [o,i] (getItem o i)
def qe(X:Cx)(r:R2):Prop:=∀(value slice:Expr)(ak:List (Addr×Obj))(s:ae)(O:St)(H:Hp)(x y:V)(v u:Value)(Q:VK),Inv X ak O H s->RelV x v->RelV y u->r x y H Q->subscripted slice false v u=operate [v,u] (getItem v u)->wpAny (model X.prog X.w) X.A (subscriptTail value slice v u) (EP X ak O Q) X.xe s
def DB(X:Cx)(id:String)(r:V->List V->Hp->VK->Prop):Prop:=∀(ak:List (Addr×Obj))(s:ae)(O:St)(H:Hp)(x:V)(xs:List V)(v:Value)(us:List Value)(Q:VK),Inv X ak O H s->RelV x v->Vals xs us->r x xs H Q->wpAny (model X.prog X.w) X.A (call (.builtin id) (v::us)) (EP X ak O Q) X.xe s
section
variable {X:Cx}{a b:Expr}{ta tb:TE}{pos:Pos}
theorem qe.or{r r':R2}(h:qe X r)(h':qe X r'):qe X (λx y H Q=>r x y H Q\/r' x y H Q):=by
 intro value slice ak s O H x y v u Q I rx ry q hs;rcases q with q|q
 ·erw[h value slice ak s O H x y v u Q I rx ry q hs]
 ·erw[h' value slice ak s O H x y v u Q I rx ry q hs]
theorem Hr{r:R2}(hr:qe X r)(ha:PE X a ta)(hb:PE X b tb)(hs:Vm b):PE X (.Subscript a b pos) (xY r ta tb):=by intro ak s O H Q I h;erw[Subscript_ (KG ha hb I h λv u s2 x y H2 I2 rx ry q=>hr a b ak s2 O H2 x y v u Q I2 rx ry q (hs _ _))]
inductive ad7(K:aa)(x:V)(y:V)(H:Hp)(Q:VK):Prop |mk (p:_)(xs:_)(i:_)(v:_)(h0:x= .ref p)(h1:y= .int i)(h2:aE K H p xs)(h3:fb xs i=some v)(h4:Q v H)
def Hc(K:aa):R2:=λx y H Q=>ad7 K x y H Q
inductive ad5(K:aa)(x:V)(y:V)(H:Hp)(Q:VK):Prop |mk (p:_)(xs:_)(i:_)(v:_)(h0:x= .ref p)(h1:y= .int i)(h2:bc K H p xs)(h3:fb xs i=some v)(h4:Q v H)
def GZ(K:aa):R2:=λx y H Q=>ad5 K x y H Q
inductive ad6(x:V)(y:V)(H:Hp)(Q:VK):Prop |mk (z:_)(i:_)(c:_)(h0:x= .str z)(h1:y= .int i)(h2:z.length<=sizeLine)(h3:fb z.cps.toList i=some c)(h4:Q (.str ⟨#[c]⟩) H)
def Zy:R2:=λx y H Q=>ad6 x y H Q
theorem a4u:qe X (Hc X.K):=by
 intro value slice ak s O H x y v u Q I rx ry h hs;let(p,xs,i,z,rfl,rfl,hq,he,q):=h;cases rx;let(t,rfl):=ry;let(its,r,pl,hz):=I.list hq;let(j,h1,h2,h3,h4,h5):=KU he;let(w,ew,eQ):=r.get h2;have hl:=r.length;have hn:=ua;have fin:EP X ak O Q w s:=#[z,H,I,eQ,q];by_cases h0:0<=i
 ·have hj:i.toNat=j:=by rw[seqIndex_of h0 h5]at h1;erw[dQ h1]
  erw[item_listR pl.isList h0 au (by rw[hj];simpa using ew) fin hs]
 ·have hj:(i+(its.toArray.size:Int)).toNat=j:=by rw[seqIndex_neg au h4]at h1;rw[eO,<-hl];erw[dQ h1]
  erw[subscriptTail_builtinR (x:=w) pl.isList.typeIs slot_list_getitem.lookup (wpAny_getItem_list_neg (Q:=λr s'=>r=w/\EP X ak O Q r s') pl.isList au (by rw[eO]<;>lia) au (by rw[hj];simpa using ew) #[Z,fin]) hs]
theorem a4t:qe X (GZ X.K):=by intro value slice ak s O H x y v u Q I rx ry h hs;let(p,xs,i,z,rfl,rfl,hq,he,q):=h;cases rx;let(t,rfl):=ry;let(its,r,pl,hz):=I.tuple hq;let(j,h1,h2,h3,h4,h5):=KU he;let(w,ew,eQ):=r.get h2;have hl:=r.length;have hn:=ua;have fin:EP X ak O Q w s:=#[z,H,I,eQ,q];erw[subscriptTail_builtinR (x:=w) pl.typeIs slot_tuple_getitem.lookup (getItem_tuple (j:=j) (Q:=λr s'=>r=w/\EP X ak O Q r s') pl au au (by rw[eO,<-hl];erw[h1]) (by simpa using ew) #[Z,fin]) hs]
theorem RY:qe X Zy:=by
 intro value slice ak s O H x y v u Q I rx ry h hs;let(z,i,c,rfl,rfl,hz,he,q):=h;let(t,rfl):=rx;let(t',rfl):=ry;let(j,h1,h2,h3,h4,h5):=KU he;have hl:z.cps.toList.length=z.length:=by simp[Str.length]
 rw[hl]at h1 h4 h5;have hn:=ua;erw[tail_any (typeIs_str s z t) slot_str_getitem.lookup (getItem_str (c:=c) (by have e1:decide (i< -(2^63:Int))=false:=cD au;have e2:decide (i>=2^63)=false:=cD au;rw[e1,e2,Bool.or_false]) (by rw[h1];simpa using h2) #[.str ⟨#[c]⟩,H,I.tok _,#[_,Z],q]) hs]
theorem a3s(its:List Value)(n j:Nat)(u:Value):Obj.mapSeq (·.setIfInBounds j u) {cls:=.type "list",data:=.seq its.toArray n}={cls:=.type "list",data:=.seq (its.set j u).toArray n}:=by simp[Obj.mapSeq]
theorem Inv.lst{ak:List (Addr×Obj)}{O:St}{H:Hp}{s:ae}{p:Addr}{xs:List V}(I:Inv X ak O H s)(h:H p=some (.lst xs)): ∃(its:List Value)(n:Nat),Vals xs its/\s.heap.get? p=some {cls:=.type "list",data:=.seq its.toArray n}/\xs.length<=sizeLine:=by let(z,its,n,r,e):=I.bA p _ h;erw[its,n,r,e,z]
theorem Inv.a3Q{ak:List (Addr×Obj)}{O:St}{H:Hp}{s:ae}{p:Addr}{xs ys:List V}{its its':List Value}{n n':Nat}{f:Obj->Obj}(I:Inv X ak O H s)(h:H p=some (.lst xs)) (ho:s.heap.get? p=some {cls:=.type "list",data:=.seq its.toArray n})(hf:f {cls:=.type "list",data:=.seq its.toArray n}={cls:=.type "list",data:=.seq its'.toArray n'})(r:Vals ys its')(hz:ys.length<=sizeLine)(t:Nat): Inv X ak O (upd H p (.lst ys)) {s with heap:=s.heap.update p f,toks:=t}:=by
 have e:(s.heap.update p f).get? p=some {cls:=.type "list",data:=.seq its'.toArray n'}:=by rw[DS f ho (by rw[hf]<;>rfl),hf]
 erw[I.write (x:=p) (e:=p) (by rw[h];trivial) (.inl Z) (λb u hb q=>(An _ _ (jJ hb)).trans q) #[_,e] ?_];erw[hz,its',n',r,e]
inductive ad1(o:V)(i:V)(v:V)(H:Hp)(Q:Hp->Prop):Prop |mk (p:_)(xs:_)(k:_)(j:_)(h0:o= .ref p)(h1:i= .int k)(h2:H p=some (.lst xs))(h3:kx xs.length k=some j)(h4:Q (upd H p (.lst (xs.set j v))))
def Zw:V->V->V->Hp->(Hp->Prop)->Prop:=λo i v H Q=>ad1 o i v H Q
theorem set_list:Vn X Zw:=by
 intro ak s O H o i v ov iv u Q I ro ri rv h;let(p,xs,k,j,rfl,rfl,hp,hj,q):=h;cases ro;let(t,rfl):=ri;let(its,n,r,ho,hz):=I.lst hp;let(h1,h2,h3,h4):=RZ hj;have hl:=r.length;have hn:=ua;have I':Inv X ak O (upd H p (.lst (xs.set j v))) {s with heap:=s.heap.update p (Obj.mapSeq (·.setIfInBounds j u))}:=I.a3Q hp ho (a3s its n j u) (r.set rv j) (by rw[xM];erw[hz]) s.toks;by_cases h0:0<=k
 ·have hk:k.toNat=j:=by rw[seqIndex_of h0 h4]at h1;erw[dQ h1]
  erw[PySem.W.ki_setAt ho h0 au (by rw[eO,<-hl];erw[h4]) (by rw[hk];erw[_,I',q])]
 ·have hk:(k+(its.toArray.size:Int)).toNat=j:=by rw[seqIndex_neg au h3]at h1;rw[eO,<-hl];erw[dQ h1]
  erw[PySem.W.ki_setBack ho au (by rw[eO,<-hl];erw[h3]) au (by rw[hk];erw[_,I',q])]
theorem Y0(lo hi:Option Int)(n:Nat):(sliceBounds lo hi none n).1=((_H.cu n 0 lo:Nat):Int)/\(sliceBounds lo hi none n).2.1=((_H.cu n n hi:Nat):Int)/\(sliceBounds lo hi none n).2.2=1:=by
 erw[?_,?_,Z]
 ·cases lo with |none=>simp[sliceBounds,_H.cu] |some i=>
  simp only[sliceBounds,_H.cu,Option.getD_none,show(1:Int)>0 by decide,if_true];by_cases h:i<0
  ·simp only[h,if_true]<;>lia
  ·simp only[h,if_false]<;>lia
 ·cases hi with |none=>simp[sliceBounds,_H.cu] |some i=>
  simp only[sliceBounds,_H.cu,Option.getD_none,show(1:Int)>0 by decide,if_true];by_cases h:i<0
  ·simp only[h,if_true]<;>lia
  ·simp only[h,if_false]<;>lia
theorem Y1(its:List Value)(lo hi:Option Int):slicePick its.toArray lo hi none=((its.drop (_H.cu its.length 0 lo)).take (_H.cu its.length its.length hi-_H.cu its.length 0 lo)).toArray:=by let(h1,h2,h3):=Y0 lo hi its.toArray.size;unfold slicePick;rw[h1,h2,h3];simp only[sliceRange_one,pick_run,eO]<;>rfl
inductive acZ(K:aa)(x:V)(lo:Option Int)(hi:Option Int)(H:Hp)(Q:VK):Prop |mk (a:_)(xs:_)(h0:x= .ref a)(h1:aE K H a xs)(h2:∀p,H p=none->Q (.ref p) (upd H p (.lst (jC xs lo hi))))
def Zu(K:aa):V->Option Int->Option Int->Hp->VK->Prop:=λx lo hi H Q=>acZ K x lo hi H Q
theorem Y4:Dx X (Zu X.K):=by intro ak s O H x v vl vu lo hi sl Q I rx hs pl pu h;let(a,xs,rfl,hx,q):=h;cases rx;let(its,r,ht,hz):=I.list hx;have hlen:=r.length;erw["list",_,slot_list_getitem.lookup,ht.isList.typeIs,?_];erw[wpAny_getItem_list_slice ht.isList hs pl pu .none (by simp) ?_ (by rw[eO]<;>lia)];rw[Y1,<-hlen];erw[.ref s.heap.objs.size,_,I.laid (t':=s.toks) (o:=.lst (jC xs lo hi)) (λb ob q=>cx _ q) (bV _) ?_,Z,q _ (I.bA.fresh (bV _))];erw[j7 (Uy xs lo hi) hz,_,0,(r.drop (_H.cu xs.length 0 lo)).take (_H.cu xs.length xs.length hi-_H.cu xs.length 0 lo),eP _ Z]
def rB:V->Bool | .bD=>true | .bl _=>true | .int _=>true | .str _=>true |_=>false
def rC:V->V->Bool | .bD,.bD=>true | .bl a,.bl b=>a==b | .bl a,.int b=>(if a then 1 else 0)==b | .int a,.bl b=>a==(if b then 1 else 0) | .int a,.int b=>a==b | .str a,.str b=>a==b |_,_=>false
theorem a9v{A:ah}{s:ae}{y x:V}{u v:Value}(ry:RelV y u)(rx:RelV x v)(fy:rB y=true)(fx:rB x=true):SeqAt.EqAt A s u v (rC y x):=by cases y with
 |bD=>cases ry;cases x with |bD=>cases rx;erw[SeqAt.EqAt.same _] |bl b=>cases rx;erw[SeqAt.EqAt.none_bool b] |int b=>let(t,rfl):=rx;erw[SeqAt.EqAt.none_int b t] |str b=>let(t,rfl):=rx;erw[SeqAt.EqAt.none_str b t] |_=>erw[absurd (show false=true from fx) dR]
 |bl a=>cases ry;cases x with |bD=>cases rx;erw[SeqAt.EqAt.bool_none a] |bl b=>cases rx;erw[SeqAt.EqAt.bool_bool a b] |int b=>let(t,rfl):=rx;erw[SeqAt.EqAt.bool_int a b t] |str b=>let(t,rfl):=rx;erw[SeqAt.EqAt.bool_str a b t] |_=>erw[absurd (show false=true from fx) dR]
 |int a=>let(t',rfl):=ry;cases x with |bD=>cases rx;erw[SeqAt.EqAt.int_none a t'] |bl b=>cases rx;erw[SeqAt.EqAt.int_bool a t' b] |int b=>let(t,rfl):=rx;erw[SeqAt.EqAt.int_int a t' b t] |str b=>let(t,rfl):=rx;erw[SeqAt.EqAt.int_str a t' b t] |_=>erw[absurd (show false=true from fx) dR]
 |str a=>let(t',rfl):=ry;cases x with |bD=>cases rx;erw[SeqAt.EqAt.str_none a t'] |bl b=>cases rx;erw[SeqAt.EqAt.str_bool a t' b] |int b=>let(t,rfl):=rx;erw[SeqAt.EqAt.str_int a t' b t] |str b=>let(t,rfl):=rx;erw[SeqAt.EqAt.str_str a t' b t] |_=>erw[absurd (show false=true from fx) dR]
 |_=>erw[absurd (show false=true from fy) dR]
def pQ(x:V)(u:Value):Bool:=match u with | .none=>rC .bD x | .bool b=>rC (.bl b) x | .int i _=>rC (.int i) x | .str z _=>rC (.str z) x |_=>false
theorem TQ{x y:V}{u:Value}(r:RelV y u)(f:rB y=true):pQ x u=rC y x:=by cases y with |bD=>cases r;rfl |bl b=>cases r;rfl |int i=>let(t,rfl):=r;rfl |str z=>let(t,rfl):=r;rfl |_=>erw[absurd (show false=true from f) dR]
theorem KY{x:V}:∀{xs:List V}{us:List Value},Vals xs us->xs.all rB=true->us.any (pQ x)=xs.any λy=>rC y x |_,_,.nil,_=>rfl |y::xs,u::us,.cons r t,f=>by rw[xP,eX]at f;rw[qp,qp,TQ r f.1,KY t f.2]
theorem Ir{A:ah}{s:ae}{x:V}{v:Value}(rx:RelV x v)(fx:rB x=true):∀{xs:List V}{us:List Value},Vals xs us->xs.all rB=true->∀u∈us,SeqAt.EqAt A s u v (pQ x u)
 |_,_,.nil,_=>λu hu=>by cases hu |y::xs,u::us,.cons r t,f=>λu' hu=>by
  rw[xP,eX]at f;rcases bJ.mp hu with rfl|hu
  ·rw[TQ r f.1];erw[a9v r rx f.1 fx]
  ·erw[Ir rx fx t f.2 u' hu]
def C6(x:V)(xs:List V):Bool:=xs.any λy=>rC y x
inductive ade(K:aa)(neg:Bool)(x:V)(y:V)(H:Hp)(Q:VK):Prop |mk (p:_)(xs:_)(h0:y= .ref p)(h1:(aE K H p xs\/bc K H p xs))(h2:rB x=true)(h3:xs.all rB=true)(h4:Q (.bl (if neg then !C6 x xs else C6 x xs)) H)
def Q8(K:aa)(neg:Bool):R2:=λx y H Q=>ade K neg x y H Q
theorem a0v:cV X (compareOp .NotIn) (Q8 X.K true):=by
 intro ak s O H x y v u Q I rx ry h;let(p,xs,rfl,hq,fx,fs,q):=h;cases ry;rcases hq with hq|hq
 ·let(its,r,pl,hz):=I.list hq
  erw[SeqAt.notIn_listAt (pQ x) pl.isList (λw hw=>Ir rx fx r fs w (by simpa using hw)) #[.bl _,H,I,Z,?_]];rw[show its.toArray.any (pQ x)=its.any (pQ x) by simp,KY r fs];erw[q]
 ·let(its,r,pl,hz):=I.tuple hq
  erw[SeqAt.notIn_tupleAt (pQ x) pl (λw hw=>Ir rx fx r fs w (by simpa using hw)) #[.bl _,H,I,Z,?_]];rw[show its.toArray.any (pQ x)=its.any (pQ x) by simp,KY r fs];erw[q]
theorem aao:fq X (.builtin "len") (λxs H Q=>∃p ys,xs=[.ref p]/\(aE X.K H p ys\/bc X.K H p ys)/\Q (.int ys.length) H):=by
 intro ak s O H xs us Q I r h;let(p,ys,rfl,hq,q):=h;let(u,rfl,rx):=vals1 r;cases rx;have hn:=ua;rcases hq with hq|hq
 ·let(its,r',pl,hz):=I.list hq
  have hlen:=r'.length;erw[Calls.call_len_list pl.isList (by simp only[eO]<;>lia) #[.int ys.length,H,I.tok _,#[s.toks+1,by rw[eO,hlen]],q]]
 ·let(its,r',pl,hz):=I.tuple hq
  have hlen:=r'.length;erw[len_tuple pl (by simp only[eO]<;>lia) #[.int ys.length,H,I.tok _,#[s.toks+1,by rw[eO,hlen]],q]]
theorem aan:fq X (.builtin "len") (λxs H Q=>∃z,xs=[.str z]/\z.length<=sizeLine/\Q (.int z.length) H):=by intro ak s O H xs us Q I r h;let(z,rfl,hz,q):=h;let(u,rfl,t,rfl):=vals1 r;have hn:=ua;erw[len_str au #[.int z.length,H,I.tok _,#[_,Z],q]]
theorem fq.or{f:Value}{r r':List V->Hp->VK->Prop}(h:fq X f r)(h':fq X f r'):fq X f (λxs H Q=>r xs H Q\/r' xs H Q):=by
 intro ak s O H xs us Q I rs q;rcases q with q|q
 ·erw[h ak s O H xs us Q I rs q]
 ·erw[h' ak s O H xs us Q I rs q]
theorem aam:fq X (.type "list") (λxs H Q=>∃p ys,xs=[.ref p]/\(aE X.K H p ys\/bc X.K H p ys)/\∀l,H l=none->Q (.ref l) (upd H l (.lst ys))):=by
 intro ak s O H xs us Q I r h;let(p,ys,rfl,hq,q):=h;let(u,rfl,rx):=vals1 r;cases rx;have fin:∀(its:List Value),Vals ys its->ys.length<=sizeLine->∀(h':Heap)(c':Nat),(∀b o',s.heap.get? b=some o'->h'.get? b=some o')->h'.get? s.heap.objs.size=some {cls:=.type "list",dict:=none,data:=.seq its.toArray c',slots:=#[]}->EP X ak O Q (.ref s.heap.objs.size) {s with heap:=h'}:=λits r' hz h' c' kp e=>#[.ref s.heap.objs.size,_,I.laid (t':=s.toks) kp (bV _) (show fU X.prog X.w _ h' _ (.lst ys)from#[hz,its,c',r',e]),Z,q _ (I.bA.fresh (bV _))];rcases hq with hq|hq
 ·let(its,r',pl,hz):=I.list hq
  have hlen:=r'.length;let(o,ho,hc,n,hd):=pl.isList;erw[call_list_seq p (.inl Z) ho hc hd (λh' c' kp e=>fin its r' hz h' c' kp e) (by simp only[eO]<;>lia)]
 ·let(its,r',pl,hz):=I.tuple hq
  have hlen:=r'.length;let(o,ho,hc,n,hd):=pl;erw[call_list_seq p (.inr Z) ho hc hd (λh' c' kp e=>fin its r' hz h' c' kp e) (by simp only[eO]<;>lia)]
theorem aah:fq X (.type "tuple") (λxs H Q=>∃p ys,xs=[.ref p]/\((aE X.K H p ys/\∀l,H l=none->Q (.ref l) (upd H l (.tup ys)))\/(bc X.K H p ys/\Q (.ref p) H))):=by
 intro ak s O H xs us Q I r h;let(p,ys,rfl,h):=h;let(u,rfl,rx):=vals1 r;cases rx;rcases h with⟨hq,q⟩|⟨hq,q⟩
 ·let(its,r',pl,hz):=I.list hq
  have hlen:=r'.length;erw[call_tuple_list pl.isList (λh' kp=>?_) (by simp only[eO]<;>lia)];have I1:Inv X ak O H {s with heap:=h'}:=I.kept (t':=s.toks) kp;have I2:Inv X ak O (upd H h'.objs.size (.tup ys)) {s with heap:=h'.push {cls:=.type "tuple",data:=.seq its.toArray}}:=I1.laid (t':=s.toks) (λb o e=>cx _ e) (bV _) (show fU X.prog X.w _ _ _ (.tup ys)from#[hz,its,r',IsTup.new _ _]);erw[.ref h'.objs.size,_,I2,Z,q _ (I1.bA.fresh (bV _))]
 ·let(its,r',pl,hz):=I.tuple hq
  erw[call_tuple_same pl #[.ref p,H,I,Z,q]]
def M6(K:aa)(T:String)(x:V)(H:Hp):Prop:=match x with | .str _=>T="str" | .int _=>T="int" | .ref p=>(T="list"/\∃xs,aE K H p xs)\/(T="tuple"/\∃o,K.lookup p=some o/\o.cls= .type "tuple"/\o.dict=none)\/ (T="dict"/\((∃aO,H p=some (.dK aO))\/∃aO,H p=some (.dT aO)))\/(T="set"/\∃S n,H p=some (.set S n)) |_=>False
theorem WB{ak:List (Addr×Obj)}{O:St}{H:Hp}{s:ae}{T:String}{x:V}{v:Value}(I:Inv X ak O H s)(r:RelV x v)(ty:M6 X.K T x H): s.TypeIs v T/\∀a,v= .ref a->∃ob,s.heap.get? a=some ob/\ob.dict=none:=by cases x with
 |str z=>let(t,rfl):=r;cases(show T="str" from ty);erw[typeIs_str s z t,λ_ e=>nomatch e] |int i=>let(t,rfl):=r;cases(show T="int" from ty);erw[typeIs_int s i t,λ_ e=>nomatch e] |ref p=>
  cases r;rcases ty with⟨rfl,xs,hq⟩|⟨rfl,o,hk,hc,hd⟩|⟨rfl,hk⟩|⟨rfl,S,n,hk⟩
  ·let(its,_,pl,_):=I.list hq
   erw[pl.isList.typeIs,λa e=>?_];cases e;let(o,n,e,c,hd,_):=pl;erw[o,e,hd]
  ·erw[#[o,I.fD p o hk,hc],λa e=>?_]
   cases e;erw[o,I.fD _ o hk,hd]
  ·have z:∃o,s.heap.get? p=some o/\o.ExactDict:=by
    rcases hk with⟨aO,hk⟩|⟨aO,hk⟩
    ·let(_,_,_,_,o,_,_,e,ex,_):=I.bA p _ hk
     erw[o,e,ex]
    ·let(_,_,_,_,o,_,_,e,ex,_):=I.bA p _ hk
     erw[o,e,ex]
   let(o,e,ex):=z;erw[#[o,e,ex.1],λa e2=>?_];cases e2;erw[o,e,ex.2.1]
  ·let(o,_,_,_,e,ex,_):=I.bA p _ hk
   erw[#[o,e,ex.1],λa e2=>?_];cases e2;erw[o,e,ex.2.1] |_=>erw[False.elim ty]
def vw(K:aa)(T:String)(r:V->List V->Hp->VK->Prop)(to:TE)(t:TA):TE:=λO H Q=>to O H λx H1=>M6 K T x H1/\t O H1 λxs H2=>r x xs H2 Q
variable {o e:Expr}{es:List Expr}{to:TE}{t:TA}{name:Str}{apos da:Pos}{T id:String}{r:V->List V->Hp->VK->Prop}
theorem yB(pa:PlainAttrs T)(slot:Slot T name id)(J3:typeOf (.builtin id)=pure (.type "method_descriptor"))(hm:DB X id r)(ho:PE X o to)(ha:PA X (e::es) t) (mV:autoParam (attributeBase o name X.env (eval o X.env)=eval o X.env) r8_._auto_1) (mS:autoParam (((backTo da (starEach (e::es) X.env)).all (λx=>!x.1)&&(backToKw da (keywordEach [] X.env)).all (λx=>x.1.isSome) &&decide ((e::es).length+([]:List Keyword).length+(if([]:List Keyword).isEmpty then 0 else 1)<30))=true) r8_._auto_1) (mO:autoParam ((apos.endLine==da.line)=true) r8_._auto_1)(hs:autoParam (starEach (e::es) X.env=(false,eval e X.env)::starEach es X.env) r8_._auto_1)(mJ:autoParam ((backTo da (starEach es X.env)).any (·.1)=false) r8_._auto_1): PE X (.Call (.Attribute o name apos) (e::es) [] da) (vw X.K T r to t):=by intro ak s O H Q I h;erw[wpAny_Call_method_late mV mS mO Z (ba (ho ak s O H _ I h) λv s1 #[x,H1,I1,r1,ty,q1]=>?_)];let(h1,h2):=WB I1 r1 ty;erw[T,id,pa,slot,J3,h1,h2,?_];have hA:=ha da ak s1 O H1 _ I1 q1;rw[hs]at hA⊢;erw[Calls.callWith_builtin (by show(false||(backTo da (starEach es X.env)).any (·.1))=false;rw[mJ]<;>rfl) (Calls.evalArgs_plain ?_)];erw[ba hA λus s2 #[vs,H2,I2,r2,q2]=>hm ak s2 O H2 x vs v us Q I2 r1 r2 q2]
end
def Vq(X:Cx)(id:String)(r:V->List V->Hp->VK->Prop):Prop:=∀(ak:List (Addr×Obj))(s:ae)(O:St)(H:Hp)(x:V)(xs:List V)(v:Value)(us:List Value)(Q:VK),Inv X ak O H s->RelV x v->Vals xs us->r x xs H Q->wpAny (model X.prog X.w) X.A (call (.builtin id) (v::us)) (EP X ak O Q) X.xe s
theorem Vals.one:∀{x:V}{us:List Value},Vals [x] us->∃u,us=[u]/\RelV x u |_,_,.cons r .nil=>#[_,Z,r]
section
variable {X:Cx}{ak:List (Addr×Obj)}{O:St}{H:Hp}{s:ae}{l b:Addr}{xs ys zs:List V}
theorem Inv.Rr{its its':List Value}{n:Nat}{f:Array Value->Array Value}{t':Nat}(I:Inv X ak O H s)(hH:H l=some (.lst xs)) (e:s.heap.get? l=some {cls:=.type "list",data:=.seq its.toArray n})(hf:f its.toArray=its'.toArray)(hv:Vals ys its')(hz:ys.length<=sizeLine): Inv X ak O (upd H l (.lst ys)) {s with heap:=s.heap.update l (Obj.mapSeq f),toks:=t'}:=by have q:=PySem.IsL.update e f;rw[hf]at q;erw[I.write (x:=l) (e:=l) (by rw[hH];erw[trivial]) (.inl Z) (λb' u hb hu=>(An s.heap (Obj.mapSeq f) (jJ hb)).trans hu) #[_,q] ?_];erw[hz,its',_,hv,q]
theorem Inv.RF{its:List Value}{t':Nat}(I:Inv X ak O H s)(hv:Vals ys its)(hz:ys.length<=sizeLine): Inv X ak O (upd H s.heap.objs.size (.lst ys)) {s with heap:=s.heap.push {cls:=.type "list",data:=.seq its.toArray},toks:=t'}:=I.laid (λ_ _ q=>cx _ q) (bV _) #[hz,its,0,hv,eP _ Z]
theorem Inv.Iz(I:Inv X ak O H s)(hH:H l=some (.lst xs)):xs.length<=sizeLine/\∃(its:List Value)(n:Nat),Vals xs its/\xs.length=its.length/\s.heap.get? l=some {cls:=.type "list",data:=.seq its.toArray n}:=by let(z,its,n,r,e):=I.bA l _ hH;erw[z,its,n,r,r.length,e]
theorem a2O{n:Nat}(h:n<=sizeLine):Builtin.List.listTooLong n=false:=by unfold Builtin.List.listTooLong;erw[cD au]
end
section
variable {X:Cx}
inductive adl(x:V)(vs:List V)(H:Hp)(Q:VK):Prop |mk (l:_)(xs:_)(y:_)(h0:x= .ref l)(h1:vs=[y])(h2:H l=some (.lst xs))(h3:xs.length<sizeLine)(h4:Q .bD (upd H l (.lst (xs++[y]))))
def Qa:V->List V->Hp->VK->Prop:=λx vs H Q=>adl x vs H Q
theorem Il:Vq X "list.append" Qa:=by
 intro ak s O H x vs v us Q I rx rv h;let(l,xs,y,rfl,rfl,hH,hz,q):=h;cases rx;let(u,rfl,ru):=rv.one;let(z,its,n,r,hl,e):=I.Iz hH;erw[Ab F.slot_list_append #[_,e,Z] F.entry_list_append (F.args_list_append_2 _ _) (PySem.list_append l its.toArray n u (by rw[eO];lia)) #[e,?_]];erw[.bD,_,I.Rr (its':=its++[u]) hH e (by simp) (r.append (.cons ru .nil)) ?_,Z,q];rw[fH,xK]
 lia
inductive adh(x:V)(vs:List V)(H:Hp)(Q:VK):Prop |mk (l:_)(b:_)(xs:_)(zs:_)(h0:x= .ref l)(h1:vs=[.ref b])(h2:H l=some (.lst xs))(h3:H b=some (.lst zs))(h4:xs.length+zs.length<=sizeLine)(h5:Q .bD (upd H l (.lst (xs++zs))))
def Q9:V->List V->Hp->VK->Prop:=λx vs H Q=>adh x vs H Q
theorem a3f:Vq X "list.extend" Q9:=by
 intro ak s O H x vs v us Q I rx rv h;let(l,b,xs,zs,rfl,rfl,hH,hB,hz,q):=h;cases rx;let(u,rfl,ru):=rv.one;cases ru;let(z,its,n,r,hl,e):=I.Iz hH;let(z2,kS,n2,r2,qV,e2):=I.Iz hB;have hsz:its.toArray.size+kS.toArray.size<=sizeLine:=by rw[eO,eO];lia
 have a5G:¬(!its.toArray.isEmpty&&Builtin.List.listTooLong (its.toArray.size+kS.toArray.size))=true:=by rw[a2O hsz,Bool.and_false];erw[dR]
 erw[Ab F.slot_list_extend #[_,e,Z] F.entry_list_extend (F.args_list_extend_2 _ _) (AutoSeq1.list_extend_list_list_0 l its.toArray n b kS.toArray n2 a5G (by rw[eO];lia) au) #[e,e2,?_]];erw[.bD,_,I.Rr (its':=its++kS) hH e (by simp) (r.append r2) ?_,Z,q];rw[fH]
 lia
end
section
variable {prog:af}{w:World}{A:ah}{E:Value->ae->Prop}{s:ae}
end
section
variable {X:Cx}
end
end _L
namespace _AA
open PySem PySem.W PySem.Calls PyProof.Rows
theorem a4L{P:Params}{h:Heap}:∀(ns:List Int)(vs:List Value),WellAll P h vs (ns.map WData.int)->IntsAre vs ns:=by intro ns;induction ns with |nil=>intro vs w;rw[List.map_nil]at w;cases w;erw[.nil] |cons n ns ih=>intro vs w;rw[kH]at w;cases w with |cons a b=>cases a;erw[.cons _ _ (ih _ b)]
theorem Yg{l:OpenLaw}{n:Nat}(hn:l.most=some n){P:Params}{h:Heap}{args:List WData}{vals:List Value} (Ci:l.row.toRowW.claim.pre args=true)(uh:WellAll P h vals args): ∃a vs ns,vals=[Value.ref a]/\args=[WData.list (ns.map WData.int)]/\h.get? a=some {cls:=.type "list",data:=.seq vs.toArray}/\IntsAre vs ns/\ns.length<=n:=by
 have hsh:WShape.hasAll [] args [.list .int]=true:=(pre_splitW Ci).1;have hc:l.pre.holds [] {args:=args}=true:=(pre_splitW Ci).2;let(d,r,rfl,h1,h2):=hasAllW_cons hsh;obtain rfl:=hasAllW_nil h2;let(xs,rfl,h3):=hasW_list h1;let(ns,rfl):=items_int h3;have hlen:ns.length<=n:=by
  unfold OpenLaw.pre at hc;have h4:(WTm.not (.lt (.lit (.int (n:Int))) (.len (.arg 0)))).holds [] {args:=[.list (ns.map .int)]}=true:=by have h4:=(holds_andW hc).1;rw[hn]at h4;erw[h4]
  have h5:=condW_of h4 (w_not (w_lt w_lit (w_len_list (w_arg Z))));rw[bW]at h5;erw[Nat.le_of_not_lt λq=>?_];have q':(n:Int)<((ns.length:Nat):Int):=by omega
  first |(rw[bM q']at h5;erw[absurd h5 ay]) |(simp at h5;omega)
 cases uh with |cons w1 w2=>cases w2;cases w1 with |list ho Jy=>erw[_,_,ns,Z,Z,ho,a4L ns _ Jy,hlen]
theorem ZO(l:OpenLaw)(args:List WData):l.row.toRowW.claim.post args (.bool true) args=true:=postW_of (r:=l.row.toRowW) (X:=(true==true)) (show WShape.has [] (.bool true) .bool=true by first|rfl|decide|simp[WShape.has,WShape.arms,WShape.armsAll]) (show(WTm.eq .res (.lit (.bool true))).value [] {args:=args,res:=some (.bool true),after:=args}=some (.bool (true==true))from w_eq_bool (w_res Z) w_lit) rfl
theorem aaL{l:OpenLaw}{n:Nat}{q:af}{loose:List Str}{XP:(bN)->Heap->Prop}{YP:World->Heap->Prop}{d:DefRec} (hn:l.most=some n)(zk:d.params.defaults=[]) (call:∀(w:World)(s₀ s₁:ae)(mg mb:bN)(fa:Addr)(o:Obj)(pm cd doc:Value)(a:Addr)(vs:List Value)(ns:List Int),Ground q loose [] XP w s₀ mg mb s₁.heap->YP w s₁.heap->s₁.heap.get? fa=some o->o.data= .func (docDef d.name d.params d.body d.scope pm cd doc)->s₁.heap.CodeRec cd d.name->mg d.name=some (.ref fa)->s₁.heap.get? a=some {cls:=.type "list",data:=.seq vs.toArray}->IntsAre vs ns->ns.length<=n->s₁.gens=#[]->codeAny (model l.prog w) callerA (.call (.ref fa) #[[.ref a],[]]) (λr s'=>r= .ok (.ret (.bool true))/\OldK s₁.heap s'.heap/\s'.os=s₁.os/\AllBare s'.gens) s₁): WalkO q loose XP YP l.row.toRowW d [] (λf vs=>PySem.call f vs):=by intro w s₀ s₁ mg mb G Y fa o pm cd doc dV kV ho hd eY hD zf hg args vals as Ci aeu hrd uh hlo;obtain rfl:dV= .none:=Dflts.none hD zk;obtain rfl:kV= .none:=Dflts.noKw hD;let(a,vs,ns,rfl,rfl,Jd,hints,hlen):=Yg hn Ci uh;erw[enter_call (uY (call w s₀ s₁ mg mb fa o pm cd doc a vs ns G Y ho (fd_plain hd) eY zf Jd hints hlen hg) λr s' hq=>?_)];let(rfl,h2,h3,h4):=hq;erw[.inl #[.bool true,.bool true,[],Z,λ_=>rfl,.bool true,ZO l _,λ_=>#[List.Pairwise.nil,λ_ hm=>(nomatch hm)]],h2,h3,h4]
section
variable {prog:af}{w:World}{A:ah}{E:Value->ae->Prop}{s:ae}{K:Frag}
end
end _AA
namespace _L
open PySem PySem.Spec PyProof.Rows
theorem M4:∀{vs:List Value}{ns:List Int},IntsAre vs ns->Vals (ns.map V.int) vs |_,_,.nil=>.nil |_,_,.cons n t h=>.cons #[t,Z] (M4 h)
def La(H:Hp):Prop:=∀b,H b=none\/∃o xs,H b=some (.mY o (.lst xs))
theorem a4h{P:af}{w:World}{K:aa}{mg mb:bN}{CX:j4}{k:Nat}{fa a:Addr}{fd:FuncData}{x:Str}{sp:Sp}{s₁:ae}{vs:List Value}{ns:List Int} (KX:K.In s₁.heap)(SA:s₁.heap.Ns mainGlobals mg)(hb:s₁.heap.Ns builtinsNs mb)(uq:∀x:Str,x≠"__name__"->mb x=bootBuiltins x)(a5H:s₁.heap.NoLimit)(hg:s₁.gens=#[]) (ha:s₁.heap.get? a=some {cls:=.type "list",data:=.seq vs.toArray})(hi:IntsAre vs ns)(hl:ns.length<=sizeLine)(hr:cF k callerA) (F:∀aw:Heap,K.In aw->aw.Ns mainGlobals mg->eK P w K mg aw CX k fa fd [x] sp)(a6u:∀(s:ae)(u:Value),BindsTo s fd #[[u],[]] [(x,u)]) (fM:∀H:Hp,La H->aE K H a (ns.map V.int)->sp [.ref a] H (λv _=>v= .bl true) λ_ _ _=>False) (JK:∀H e s',CX [] H s₁ (λ_ _ _=>False) e s'->False): codeAny (model P w) callerA (.call (.ref fa) #[[.ref a],[]]) (λr s'=>r= .ok (.ret (.bool true))/\OldK s₁.heap s'.heap/\s'.os=s₁.os/\AllBare s'.gens) s₁:=by
 have rv:=M4 hi;have a48:=hi.length;have core:∀H:Hp,La H->aE K H a (ns.map V.int)->dP P w H s₁.heap->(∀b,H b≠none->b=a)->(H a≠none->K.lookup a=none)->codeAny (model P w) callerA (.call (.ref fa) #[[.ref a],[]]) (λr s'=>r= .ok (.ret (.bool true))/\OldK s₁.heap s'.heap/\s'.os=s₁.os/\AllBare s'.gens) s₁:=by
  intro H hO hS bA hA hK;have V0:∀{b:Addr}{o:Obj},s₁.heap.get? b=some o->H b=none->(pH s₁.heap H).get? b=some o:=λe n=>a5Z e n;have yL:∀{b:Addr}{o:Obj}{es:Array DictEntry}{ep:Nat},s₁.heap.get? b=some o->o.data= .dict es ep->H b=none:=λ{b o es ep} e d=>by cases q:H b with |none=>rfl |some u=>have e':b=a:=hA b (by rw[q];simp);subst e';rw[ha]at e;cases e;have d':Data.seq vs.toArray _=Data.dict es ep:=d;cases d'
  have BI:∀{b:Addr}{m:bN},s₁.heap.Ns b m->(pH s₁.heap H).Ns b m:=λ{b m} #[o,es,ep,e,d,r]=>#[o,es,ep,V0 e (yL e d),d,r];have SY:K.In (pH s₁.heap H):=λb o e=>V0 (KX b o e) (by cases q:H b with |none=>rfl |some u=>have e':b=a:=hA b (by rw[q];simp);subst e';rw[hK (by rw[q];simp)]at e;cases e);have hM:Mod K mg (pH s₁.heap H):=#[SY,BI SA,#[mb,BI hb,uq],let#[mc,h1,h2]:=a5H;#[mc,BI h1,h2]];have e0:qi P w K mg (pH s₁.heap H) callerA [] s₁ H:=#[Z,hM,λb o e=>a2r e,Nat.le_of_eq (a5Y _ _),trivial,λb hb=>absurd (show b∈([]:List Addr)from hb) (by simp),bA,.of_eq hg];erw[uY ((F _ SY (BI SA)).run callerA [] s₁ H #[[.ref a],[]] [.ref a] [.ref a] _ _ hr e0 (a6u s₁ (.ref a)) (.cons Z .nil) (fM H hO hS)) λr s' h=>?_];cases r with |error e=>exact(JK H e s' h).elim |ok fl=>cases fl with |next=>erw[False.elim h] |brk=>erw[False.elim h] |cont=>erw[False.elim h] |ret u=>let(v,H',os,bare,un,a5t,r',q):=h;have q':v= .bl true:=q;subst q';obtain rfl:u=Value.bool true:=r';erw[Z,OldK.of_keep λb o e=>?_,os,bare];cases q:H b with |none=>erw[un.keep b o e q (by intro z;erw[absurd (show b∈([]:List Addr)from z) (by simp)]) (by simp)] |some u=>
   rcases hO b with z|⟨ob,xs,z⟩
   ·rw[q]at z;cases z
   ·have z2:=un.kz b ob _ z
    let(e1,_):=bA b _ z;let(e2,_):=a5t b _ z2;rw[e]at e1;cases e1;erw[e2]
 cases hk:K.lookup a with |some o=>have e:=KX a o hk;rw[ha]at e;cases e;erw[core (λ_=>none) (λ_=>.inl Z) (.inr #[_,vs.toArray,_,hk,Z,Z,Z,by rw[eO,a48];erw[hl],by simpa using rv]) (λb u z=>by have z':(none:Option HO)=some u:=z;cases z') (λb z=>absurd rfl z) λz=>absurd rfl z] |none=>
  erw[core (λb=>if b=a then some (.mY {cls:=.type "list",data:=.seq vs.toArray} (.lst (ns.map V.int)))else none) (λb=>?_) (.inl (.inr #[{cls:=.type "list",data:=.seq vs.toArray},bu Z])) (λb u z=>?_) (λb z=>?_) λ_=>hk]
  ·by_cases hb:b=a
   ·erw[.inr #[_,_,bu hb]]
   ·erw[.inl (bo hb)]
  ·by_cases hb:b=a
   ·have z':=(bu hb).symm.trans z
    cases z';subst hb;erw[ha,by rw[bW];erw[hl],vs,_,rv,ha]
   ·have z':=(bo hb).symm.trans z
    cases z'
  ·by_cases hb:b=a
   ·erw[hb]
   ·erw[absurd (bo hb) z]
theorem Wl{l:PySem.W.OpenLaw}{n k:Nat}{q:af}{loose:List Str}{XP:(bN)->Heap->Prop}{YP:World->Heap->Prop}{d:DefRec}{K:Params->aa}{CX:World->j4}{sp:World->Sp}{x:Str} (hn:l.most=some n)(qU:n<=sizeLine)(zk:d.params.defaults=[])(hr:cF k callerA) (hY:∀(w:World)(h:Heap),YP w h->(K w.params).In h) (F:∀(w:World)(mg:bN)(fa:Addr)(h:Heap),(K w.params).In h->h.Ns mainGlobals mg->mg d.name=some (.ref fa)->∃fd:FuncData,(∀(s:ae)(u:Value),BindsTo s fd #[[u],[]] [(x,u)])/\∀aw:Heap,(K w.params).In aw->aw.Ns mainGlobals mg->eK l.prog w (K w.params) mg aw (CX w) k fa fd [x] (sp w)) (fM:∀(w:World)(H:Hp)(a:Addr)(ns:List Int),ns.length<=n->La H->aE (K w.params) H a (ns.map V.int)->sp w [.ref a] H (λv _=>v= .bl true) λ_ _ _=>False) (JK:∀(w:World)(H:Hp)(s:ae)(e:Value)(s':ae),CX w [] H s (λ_ _ _=>False) e s'->False): PySem.W.WalkO q loose XP YP l.row.toRowW d [] (λf vs=>PySem.call f vs):=by erw[_AA.aaL hn zk λw s₀ s₁ mg mb fa o pm cd doc a vs ns G Y ho hd eY zf Jd hints hlen hg=>?_];have KX:=hY w _ Y;let(fd,hb,hF):=F w mg fa _ KX G.T.g zf;erw[a4h KX G.T.g G.T.b G.T.builtins G.T.nolimit hg Jd hints (j7 hlen qU) hr hF hb (λH hO hS=>fM w H a ns hlen hO hS) λH e s'=>JK w H s₁ e s']
def inClass(s:Stmt)(j:Nat):Stmt:=match s with | .ClassDef _ _ _ body _ _ _ _ _ _ _=>body.getD j (.Pass #[0,0,0,0]) |_=>.Pass #[0,0,0,0]
def jB(s:Stmt):Arguments:=match s with | .FunctionDef _ a _ _ _ _ _ _ _ _=>a |_=>{posonlyargs:=[],args:=[],vararg:=none,kwonlyargs:=[],kw_defaults:=[],kwarg:=none,defaults:=[]}
def fQ(s:Stmt):List Stmt:=match s with | .FunctionDef _ _ b _ _ _ _ _ _ _=>b |_=>[]
def aY(s:Stmt):Scope:=match s with | .FunctionDef _ _ _ _ _ _ sc _ _ _=>sc |_=>{kind:=.function,names:=[],isGenerator:=false,isCoroutine:=false}
abbrev iS:j4:=λ_ _ _ _ _ _=>False
abbrev E0:XK:=λ_ _ _=>False
theorem Bw{X:Cx}:Passes iS X E0:=λ_ _ _ _ _ _ _ h=>h.elim
structure kD(K:aa)(x qual:Str)(st:Stmt)(f:Addr)(fd:FuncData):Prop where
 ex:∃(oc:Value)(od:Option Addr)(kV doc pm:Value)(an:Option Addr)(aI ct:Value)(fO:Array (Option Value)),fd=PySem.W.fnOf x qual (jB st) (fQ st) (aY st) .none kV doc pm an aI ct/\K.lookup f=some #[oc,od,.func fd,fO]/\PySem.W.codeIn K aI qual=true
 kp:PySem.W.keepIn K (.ref f)=true
section
variable {P:af}{w:World}{K:aa}{mg:bN}{aw:Heap}
theorem kD.ok{x qual:Str}{st:Stmt}{f:Addr}{fd:FuncData}{N ps:List Str}{k:Nat}{sp:Sp}(F:kD K x qual st f fd)(S:bp N ps (aY st))(len:∀vs H Q E,sp vs H Q E->vs.length=ps.length) (gb:∀(aI:Value)(A:ah)(outer:List Env)(s:ae)(H:Hp)(vs:List V)(Q:VK)(E:XK),cF k (A.deeper (envOfC qual (aY st) s.heap.objs.size f aI))->sp vs H Q E->∃t,fT (iA iS P w K mg aw N qual (aY st) f aI A outer s H E).tW (fQ st) t/\t {nx:=λ_ H'=>Q .bD H',rt:=Q} (start N vs) H):eK P w K mg aw iS (k+1) f fd ps sp:=by let(oc,od,kV,doc,pm,an,aI,ct,fO,rfl,lk,eY):=F.ex;erw[JT lk eY S len λA outer s H vs Q E hr fM=>?_];let(t,h,q):=gb aI A outer s H vs Q E hr fM;erw[t,h.tW,q]
theorem kD.binds{x qual:Str}{st:Stmt}{f:Addr}{fd:FuncData}{ps:List Str}(F:kD K x qual st f fd) (h:∀(kV doc pm:Value)(an:Option Addr)(aI ct:Value)(us:List Value),us.length=ps.length->bindArgs (PySem.W.fnOf x qual (jB st) (fQ st) (aY st) .none kV doc pm an aI ct) #[us,[]]=pure (ps.zip us)):Binds K fd ps []:=by let(oc,od,kV,doc,pm,an,aI,ct,fO,rfl,lk,eY):=F.ex;erw[.all (h kV doc pm an aI ct)]
theorem JQ{x qual:Str}{st:Stmt}{f:Addr}{oc:Value}{od an:Option Addr}{fO:Array (Option Value)}{kV doc pm aI ct:Value}(l:K.lookup f=some #[oc,od,.func (PySem.W.fnOf x qual (jB st) (fQ st) (aY st) .none kV doc pm an aI ct),fO]) (c:PySem.W.codeIn K aI qual=true)(k:PySem.W.keepIn K (.ref f)=true):kD K x qual st f (PySem.W.fnOf x qual (jB st) (fQ st) (aY st) .none kV doc pm an aI ct):=#[#[oc,od,kV,doc,pm,an,aI,ct,fO,Z,l,c],k]
end
section
variable {X:Cx}
theorem pv(i:Nat){x:Str}{pos:Pos}(hN:autoParam (X.N[i]? =some x) r8_._auto_1)(hv:autoParam (zW X.env.scope x) d8_._auto_1)(hd:autoParam ((x==("__debug__":Str))=false) q8_._auto_1) (eY:autoParam ((x==("__classdict__":Str))=false) q8_._auto_1):PE X (.Name x pos) (Me i):=Hm hN hv hd eY
end
theorem bh{A B:Prop}(h:B):if false=true then A else B:=by rw[bo dR];erw[h]
theorem bF{A B:Prop}(h:A):if true=true then A else B:=by rw[bu rfl];erw[h]
theorem gy{c A B:Prop}[Decidable c](h1:c->A)(h2:¬c->B):if c then A else B:=by
 by_cases h:c
 ·rw[bu h]
  erw[h1 h]
 ·rw[bo h]
  erw[h2 h]
def aF(H H':Hp):Prop:=∀b o,H b=some o->H' b=some o
theorem aF.refl(H:Hp):aF H H:=λ_ _ h=>h
theorem aF.trans{H H1 H2:Hp}(a:aF H H1)(b:aF H1 H2):aF H H2:=λc o h=>b c o (a c o h)
theorem aF.seq{K:aa}{H H':Hp}{a:Addr}{xs:List V}(e:aF H H')(h:aE K H a xs):aE K H' a xs:=by
 rcases h with(h|⟨o,h⟩)|h
 ·erw[.inl (.inl (e _ _ h))]
 ·erw[.inl (.inr #[o,e _ _ h])]
 ·erw[.inr h]
def Wd (i:Int):Prop:=i.natAbs<2^5000
theorem Wd.bits{i:Int}(h:Wd i):Builtin.Int.intBits i<=2^20:=j7 (PyProof.Rows.intBits_le h) ay
theorem Wd.log{i:Int}(h:Wd i):i.natAbs.log2<9000:=by
 by_cases e:i.natAbs=0
 ·rw[e];decide
 ·have h1:i.natAbs.log2<5000:=(Nat.log2_lt e).mpr h
  lia
section
variable {X:Cx}
theorem tR:cV X (binaryOp .FloorDiv) (rI (λ_ j=>0<j/\Wd j) λi j=>.int (i/j)):=yD λi j _ _ _ _ _ hc q=>by have h1:(0:Int)<j:=hc.1;erw[floordiv_int au (by rw[Int.fdiv_eq_ediv_of_nonneg i au];erw[q]) (.inl (PyProof.noPylong_of_log2 hc.2.log))]
theorem Qw:cV X (binaryOp .FloorDiv) (rI (λ_ j=>j≠0/\Wd j) λi j=>.int (i.fdiv j)):=yD λ_ _ _ _ _ _ _ hc q=>floordiv_int hc.1 q (.inl (PyProof.noPylong_of_log2 hc.2.log))
end
def uN(K:aa)(H:Hp)(x:V)(T:String):Prop:=match x with | .bD=>T="NoneType" | .bl _=>T="bool" | .int _=>T="int" | .str _=>T="str" | .ref a=>(T="list"/\∃xs,aE K H a xs)\/(T="tuple"/\∃xs,bc K H a xs) |_=>False
def jK(T n:String):Bool:=T==n||(T=="bool"&&n=="int")
def AG:List String:=["NoneType","bool","int","str","list","tuple"]
def xT:List String:=["bool","int","str","list","tuple"]
theorem RW{K:aa}{T n:String}(h1:T∈AG)(h2:n∈xT):PySem.W.kitOne K (.type T) (.type n)=some (jK T n):=by
 have all:AG.all (λT=>xT.all λn=>PySem.W.kitOne [] (.type T) (.type n)==some (jK T n))=true:=by decide+kernel
 have a1:=gP.mp all T h1;have a2:=gP.mp a1 n h2;have e:PySem.W.kitOne K (.type T) (.type n)=PySem.W.kitOne [] (.type T) (.type n):=by unfold PySem.W.kitOne PySem.W.kitCls PySem.W.subIn;rfl
 rw[e];erw[fV.mp a2]
section
variable {X:Cx}
theorem uN.mem{K:aa}{H:Hp}{x:V}{T:String}(h:uN K H x T):T∈AG:=by cases x with |bD=>cases(show T="NoneType" from h);decide |bl b=>cases(show T="bool" from h);decide |int b=>cases(show T="int" from h);decide |str b=>cases(show T="str" from h);decide |ref a=>rcases(show(T="list"/\∃xs,aE K H a xs)\/(T="tuple"/\∃xs,bc K H a xs)from h)with⟨e,_⟩|⟨e,_⟩<;>cases e<;>decide |_=>exact(show False from h).elim
theorem RX{ak:List (Addr×Obj)}{s:ae}{O:St}{H:Hp}{x:V}{u:Value}{T:String}(I:Inv X ak O H s)(rx:RelV x u)(ty:uN X.K H x T): ∃P:Heap->Prop,PySem.W.KitX X.K u (.type T) P/\P s.heap/\u≠ .builtin "__main__.__loader__#opaque":=by cases x with
 |bD=>cases(show T="NoneType" from ty);cases(show u=Value.none from rx);erw[_,PySem.W.kitx_none,True.intro,λz=>nomatch z] |bl b=>cases(show T="bool" from ty);cases(show u=Value.bool b from rx);erw[_,PySem.W.kitx_bool,True.intro,λz=>nomatch z] |int b=>cases(show T="int" from ty);let(t,q):=(show∃t,u=Value.int b t from rx);cases q;erw[_,PySem.W.kitx_int,True.intro,λz=>nomatch z] |str b=>cases(show T="str" from ty);let(t,q):=(show∃t,u=Value.str b t from rx);cases q;erw[_,PySem.W.kitx_str,True.intro,λz=>nomatch z] |ref a=>
  cases(show u=Value.ref a from rx);rcases(show(T="list"/\∃xs,aE X.K H a xs)\/(T="tuple"/\∃xs,bc X.K H a xs)from ty)with⟨e,xs,hx⟩|⟨e,xs,hx⟩
  ·cases e
   let(its,r,(o,n,h1,h2,_),_):=I.list hx;erw[_,PySem.W.kitx_list,#[o,h1,h2],λz=>nomatch z]
  ·cases e
   let(its,r,(o,h1,h2,_),_):=I.tuple hx;erw[_,PySem.W.kitx_tuple,#[o,h1,h2],λz=>nomatch z] |_=>exact(show False from ty).elim
inductive ad9(K:aa)(xs:List V)(H:Hp)(Q:VK):Prop |mk (x:_)(T:_)(n:_)(b:_)(h0:xs=[x,.ty n])(h1:uN K H x T)(h2:n∈xT)(h3:jK T n=b)(h4:Q (.bl b) H)
def He(K:aa):List V->Hp->VK->Prop:=λxs H Q=>ad9 K xs H Q
theorem aaq:fq X (.builtin "isinstance") (He X.K):=by intro ak s O H xs us Q I r h;let(x,T,n,b,rfl,ty,hn,rfl,q):=h;let(u,c,rfl,rx,rc):=vals2 r;cases(show c=Value.type n from rc);let(P,af0,p,hx):=RX I rx ty;erw[PySem.W.kia_one af0 I.fD p (RW ty.mem hn) hx λtk=>#[.bl (jK T n),H,I.tok _,Z,q]]
inductive ad8(K:aa)(xs:List V)(H:Hp)(Q:VK):Prop |mk (x:V)(T:String)(p:Addr)(ns:List String)(b:Bool)(h0:xs=[x,.ref p])(h1:H p=some (.tup (ns.map V.ty)))(h2:uN K H x T)(h3:(∀n∈ns,n∈xT))(h4:ns.any (jK T)=b)(h5:Q (.bl b) H)
def Hd(K:aa):List V->Hp->VK->Prop:=λxs H Q=>ad8 K xs H Q
theorem RV{K:aa}{T:String}(h1:T∈AG):∀{ns:List String},(∀n∈ns,n∈xT)->PySem.W.kitAny K (.type T) (ns.map Value.type)=some (ns.any (jK T)) |[],_=>rfl |n::r,h=>by have e:=RW (K:=K) h1 (h n (DM ..));have ih:=RV (K:=K) h1 (ns:=r) λm hm=>h m (xJ _ hm);rw[kH,PySem.W.kitAny,e,qp];cases jK T n with |true=>rfl |false=>simpa using ih
theorem M0:∀{ns:List String}{us:List Value},Vals (ns.map V.ty) us->us=ns.map Value.type |[],_,.nil=>rfl |n::r,_,.cons q t=>by cases(show _=Value.type n from q);rw[M0 t];rfl
theorem aap:fq X (.builtin "isinstance") (Hd X.K):=by intro ak s O H xs us Q I r h;let(x,T,p,ns,b,rfl,hp,ty,hn,rfl,q):=h;let(u,c,rfl,rx,rc):=vals2 r;cases(show c=Value.ref p from rc);let(P,af0,pp,hx):=RX I rx ty;let(_,its,rv,(cls,dd,dt,sl),h1,h2,n,h3):=(show fU X.prog X.w H s.heap p (.tup (ns.map V.ty))from I.bA p _ hp);simp only at h2 h3;subst h2 h3;have e:=M0 rv;subst e;erw[PySem.W.kia_tup af0 I.fD pp h1 (RV ty.mem hn) hx λtk=>#[.bl _,H,I.tok _,Z,q]]
end
mutual
def RD(K:aa)(H:Hp):V->ag->Prop |x,.none=>x= .bD |x,.bool b=>x= .bl b |x,.int i=>x= .int i |x,.str y=>x= .str y |x,.list ds=>∃a xs,x= .ref a/\aE K H a xs/\aP K H xs ds |x,.tuple ds=>∃a xs,x= .ref a/\bc K H a xs/\aP K H xs ds |_,.dict _=>False
def aP (K:aa)(H:Hp):List V->List ag->Prop |xs,[]=>xs=[] |xs,d::ds=>∃y ys,xs=y::ys/\RD K H y d/\aP K H ys ds
end
section
variable {X:Cx}
mutual
theorem RD.reads{ak:List (Addr×Obj)}{s:ae}{O:St}{H:Hp}(I:Inv X ak O H s):∀{x:V}{u:Value}(d:ag),RelV x u->RD X.K H x d->∃as,Reads s.heap u d as |x,u,.none,r,h=>by cases(show x= .bD from by simpa[RD]using h);cases(show u=Value.none from r);erw[_,.none] |x,u,.bool b,r,h=>by cases(show x= .bl b from by simpa[RD]using h);cases(show u=Value.bool b from r);erw[_,.bool b] |x,u,.int i,r,h=>by cases(show x= .int i from by simpa[RD]using h);let(t,q):=(show∃t,u=Value.int i t from r);cases q;erw[_,.int i t] |x,u,.str y,r,h=>by cases(show x= .str y from by simpa[RD]using h);let(t,q):=(show∃t,u=Value.str y t from r);cases q;erw[_,.str y t] |x,u,.list ds,r,h=>by rw[RD]at h;let(a,xs,rfl,hx,hd):=h;cases(show u=Value.ref a from r);let(its,rv,(o,n,h1,h2,h3,h4),_):=I.list hx;let(as,q):=aP.reads I ds rv hd;erw[_,.list h1 h2 h4 (by simpa using q)] |x,u,.tuple ds,r,h=>by rw[RD]at h;let(a,xs,rfl,hx,hd):=h;cases(show u=Value.ref a from r);let(its,rv,(o,h1,h2,n,h4),_):=I.tuple hx;let(as,q):=aP.reads I ds rv hd;erw[_,.tuple h1 h2 h4 (by simpa using q)] |x,u,.dict _,r,h=>by simp[RD]at h
theorem aP.reads {ak:List (Addr×Obj)}{s:ae}{O:St}{H:Hp}(I:Inv X ak O H s):∀{xs:List V}{us:List Value}(ds:List ag),Vals xs us->aP X.K H xs ds->∃as,ReadsAll s.heap us ds as |xs,us,[],r,h=>by cases(show xs=[]from by simpa[aP]using h);cases r;erw[_,.nil] |xs,us,d::ds,r,h=>by rw[aP]at h;let(y,ys,rfl,h1,h2):=h;cases r with |cons ra rb=>let(as,q):=RD.reads I d ra h1;let(bs,q'):=aP.reads I ds rb h2;erw[_,.cons q q']
end
inductive adi(K:aa)(x:V)(y:V)(H:Hp)(Q:VK):Prop |mk (d:_)(e:_)(h0:RD K H x d)(h1:RD K H y e)(h2:SeqAt.shaped d=true)(h3:SeqAt.shaped e=true)(h4:Q (.bl (PyData.eqv d e)) H)
def Hf(K:aa):R2:=λx y H Q=>adi K x y H Q
inductive ad3(K:aa)(x:V)(y:V)(H:Hp)(Q:VK):Prop |mk (d:_)(e:_)(h0:RD K H x d)(h1:RD K H y e)(h2:SeqAt.shaped d=true)(h3:SeqAt.shaped e=true)(h4:Q (.bl (!PyData.eqv d e)) H)
def GY(K:aa):R2:=λx y H Q=>ad3 K x y H Q
theorem a0B(hu:X.A.units+64<cLine):cV X (compareOp .Eq) (Hf X.K):=by intro ak s O H x y v u Q I rx ry h;let(d,e,hd,he,sd,se,q):=h;let(as,ra):=RD.reads I d rx hd;let(bs,rb):=RD.reads I e ry he;erw[eq_dataH ra rb sd se hu #[.bl _,H,I,Z,q]]
theorem a0x(hu:X.A.units+64<cLine):cV X (compareOp .NotEq) (GY X.K):=by intro ak s O H x y v u Q I rx ry h;let(d,e,hd,he,sd,se,q):=h;let(as,ra):=RD.reads I d rx hd;let(bs,rb):=RD.reads I e ry he;erw[ne_dataH ra rb sd se hu #[.bl _,H,I,Z,q]]
end
theorem aF.new{H:Hp}{t:Addr}{o:HO}(ht:H t=none):aF H (upd H t o):=λb o' e=>by rw[aU (iL e ht)];erw[e]
structure Nw(H H':Hp)(p:Addr)(o:HO):Prop where
 no:H p=none
 at':H' p=some o
 same:aF H H'
 eq:H'=upd H p o
theorem Nw.of{H:Hp}{p:Addr}{o:HO}(h:H p=none):Nw H (upd H p o) p o:=#[h,bQ,.new h,Z]
def Ds:List Str:=["len","abs","min","max","range","isinstance","int","bool","str","tuple","list","any","all","sum","zip","enumerate","sorted","reversed","ord","chr","divmod","repr","dict","set"]
def bK (mg:bN):Prop:=∀x∈Ds,mg x=none
theorem bK.at{mg:bN}(B:bK mg)(x:Str)(h:autoParam (x∈Ds) q8_._auto_1):mg x=none:=B x h
theorem dw{α:Type}{C:List α->Prop}(h:∀a,C [a]):∀us:List α,us.length=1->C us |[_],_=>h _
theorem dF{α:Type}{C:List α->Prop}(h:∀a b,C [a,b]):∀us:List α,us.length=2->C us |[_,_],_=>h _ _
theorem kX{α:Type}{C:List α->Prop}(h:∀a b c,C [a,b,c]):∀us:List α,us.length=3->C us |[_,_,_],_=>h _ _ _
theorem xi{α:Type}{C:List α->Prop}(h:∀a b c d,C [a,b,c,d]):∀us:List α,us.length=4->C us |[_,_,_,_],_=>h _ _ _ _
theorem al5{α:Type}{C:List α->Prop}(h:∀a b c d e,C [a,b,c,d,e]):∀us:List α,us.length=5->C us |[_,_,_,_,_],_=>h _ _ _ _ _
def Tq(N P:List Str)(sc:Scope):Bool:=decide (sc.kind= .function)&& !sc.isCoroutine&& !sc.isGenerator&&decide N.Nodup&&decide (N.take P.length=P)&&P.all (λx=>decide (sc.names.lookup x=some .local\/sc.names.lookup x=some .cell))&&sc.names.all λy=>decide (y.2≠ .free)
theorem bE{N P:List Str}{sc:Scope}(h:Tq N P sc=true):bp N P sc:=by unfold Tq at h;simp only[eX,Aa,Bool.not_eq_true',gP]at h;let((((((h1,h2),h3),h4),h5),h6),h7):=h;erw[h1,h2,h3,h4,h5,h6,h7]
structure FA(K:aa)(mg:bN)(x:Str)(st:Stmt):Prop where ex:∃f fd,mg x=some (.ref f)/\kD K x x st f fd
def aG(P:af)(w:World)(K:aa)(mg:bN)(aw:Heap)(x:Str)(k:Nat)(sp:Sp):Prop:=∃f fd ps,eK P w K mg aw iS k f fd ps sp/\mg x=some (.ref f)/\PySem.W.keepIn K (.ref f)=true/\Binds K fd ps []
section
variable {P:af}{w:World}{K:aa}{mg:bN}{aw:Heap}
theorem a8b{h:Heap}{x:Str}{st:Stmt}{f:Addr}{oc:Value}{od an:Option Addr}{fO:Array (Option Value)}{kV doc pm aI ct:Value}(X:K.In h)(G:h.Ns mainGlobals mg) (a:PySem.W.nsIn K mainGlobals x=some (some (.ref f))) (l:K.lookup f=some #[oc,od,.func (PySem.W.fnOf x x (jB st) (fQ st) (aY st) .none kV doc pm an aI ct),fO]) (c:PySem.W.codeIn K aI x=true)(k:PySem.W.keepIn K (.ref f)=true):FA K mg x st:=#[f,_,xE X G a,JQ l c k]
theorem FA.has{x:Str}{st:Stmt}{N ps:List Str}{k:Nat}{sp:Sp}(F:FA K mg x st)(S:bp N ps (aY st))(len:∀vs H Q E,sp vs H Q E->vs.length=ps.length) (hb:∀(kV doc pm:Value)(an:Option Addr)(aI ct:Value)(us:List Value),us.length=ps.length->bindArgs (PySem.W.fnOf x x (jB st) (fQ st) (aY st) .none kV doc pm an aI ct) #[us,[]]=pure (ps.zip us)) (gb:∀(f:Addr)(aI:Value)(A:ah)(outer:List Env)(s:ae)(H:Hp)(vs:List V)(Q:VK)(E:XK),cF k (A.deeper (envOfC x (aY st) s.heap.objs.size f aI))->sp vs H Q E->∃t,fT (iA iS P w K mg aw N x (aY st) f aI A outer s H E).tW (fQ st) t/\t {nx:=λ_ H'=>Q .bD H',rt:=Q} (start N vs) H):aG P w K mg aw x (k+1) sp:=by let(f,fd,hm,F):=F.ex;erw[f,fd,ps,F.ok S len λaI A outer s H vs Q E=>gb f aI A outer s H vs Q E,hm,F.kp,F.binds hb]
end
section
variable {X:Cx}{k:Nat}{x:Str}{p pos:Pos}{e:Expr}{es:List Expr}{t:TA}{sp:Sp}
def Mn(sp:Sp)(t:TA):TE:=λO H Q=>t O H λvs H1=>sp vs H1 Q E0
theorem a0a(F:aG X.prog X.w X.K X.mg X.aw x k sp)(hr:cF k X.A)(hg:Gl X x)(ha:PA X (e::es) t)(iO:autoParam ((x==("__debug__":Str))=false) q8_._auto_1) (he:autoParam (starEach (e::es) X.env=(false,eval e X.env)::starEach es X.env) r8_._auto_1)(eJ:autoParam ((backTo pos (starEach es X.env)).any (·.1)=false) r8_._auto_1): PE X (.Call (.Name x p) (e::es) [] pos) (Mn sp t):=by
 let(f,fd,ps,F,hm,hk,hb):=F;have h:=a0f (pos:=pos) (p:=p) F hr hg hm hk hb .nil Bw ha iO he eJ;intro ak s O H Q I hq;erw[h ak s O H Q I ?_];have e1:(λ(vs:List V) H1=>sp (vs++[]) H1 Q E0)=λvs H1=>sp vs H1 Q E0:=by funext vs H1;rw[qo]
 show t O H λvs H1=>sp (vs++[]) H1 Q E0;rw[e1];erw[hq]
theorem pf{j:Nat}(F:aG X.prog X.w X.K X.mg X.aw x j sp)(hr:cF k X.A)(ha:PA X (e::es) t)(hjk:autoParam (j<=k) q8_._auto_1)(hg:autoParam (Gl X x) r8_._auto_1)(iO:autoParam ((x==("__debug__":Str))=false) q8_._auto_1)(he:autoParam (starEach (e::es) X.env=(false,eval e X.env)::starEach es X.env) r8_._auto_1)(eJ:autoParam ((backTo pos (starEach es X.env)).any (·.1)=false) r8_._auto_1):PE X (.Call (.Name x p) (e::es) [] pos) (Mn sp t):=a0a F (hr.mono hjk) hg ha iO he eJ
theorem cc:cV X (binaryOp .Mult) (rI (λi j=>IntMulOk i j) λi j=>.int (i*j)):=yD λ_ _ _ _ _ _ _ hc q=>mul_int q hc
theorem a0A:cV X (compareOp .Eq) (kl λi j=>.bl (decide (i=j))):=vY λ_ _ _ _ _ _ _ q=>eq_int (by rw[Bool.beq_eq_decide_eq];erw[q])
theorem a0w:cV X (compareOp .NotEq) (kl λi j=>.bl (!decide (i=j))):=vY λ_ _ _ _ _ _ _ q=>ne_int (by rw[bne,Bool.beq_eq_decide_eq];erw[q])
theorem a0C(hu:X.A.units+64<cLine):cV X (compareOp .Eq) (λx y H Q=>kl (λi j=>.bl (decide (i=j))) x y H Q\/Hf X.K x y H Q):=a0A.or (a0B hu)
theorem a0y(hu:X.A.units+64<cLine):cV X (compareOp .NotEq) (λx y H Q=>kl (λi j=>.bl (!decide (i=j))) x y H Q\/GY X.K x y H Q):=a0w.or (a0x hu)
mutual
theorem eqv_refl:∀d:ag,d.canLay0=true->PyData.eqv d d=true | .none,_=>by simp[PyData.eqv] | .bool b,_=>by simp[PyData.eqv] | .int i,_=>by simp[PyData.eqv] | .str x,_=>by simp[PyData.eqv] | .list ds,h=>by simp only[PyData.eqv];erw[eqvAll_refl ds (by simpa[PyData.canLay0]using h)] | .tuple ds,h=>by simp only[PyData.eqv];erw[eqvAll_refl ds (by simpa[PyData.canLay0]using h)] | .dict _,h=>by simp[PyData.canLay0]at h
theorem eqvAll_refl:∀ds:List ag,PyData.canLayAll0 ds=true->PyData.eqvAll ds ds=true |[],_=>by simp[PyData.eqvAll] |d::ds,h=>by simp only[PyData.canLayAll0,eX]at h;simp only[PyData.eqvAll,eX];erw[eqv_refl d h.1,eqvAll_refl ds h.2]
end
theorem fz{K:aa}{H:Hp}(i:Int):RD K H (.int i) (.int i):=by simp[RD]
theorem bT{K:aa}{H:Hp}(x:Str):RD K H (.str x) (.str x):=by simp[RD]
theorem yw{K:aa}{H:Hp}:RD K H .bD .none:=by simp[RD]
theorem gj{K:aa}{H:Hp}{p:Addr}{xs:List V}{ds:List ag}(h:bc K H p xs)(r:aP K H xs ds):RD K H (.ref p) (.tuple ds):=by rw[RD];erw[p,xs,Z,h,r]
theorem GS{K:aa}{H:Hp}{p:Addr}{xs:List V}{ds:List ag}(h:aE K H p xs)(r:aP K H xs ds):RD K H (.ref p) (.list ds):=by rw[RD];erw[p,xs,Z,h,r]
theorem dI{K:aa}{H:Hp}:aP K H [] []:=by simp[aP]
theorem cN{K:aa}{H:Hp}{x:V}{xs:List V}{d:ag}{ds:List ag}(h:RD K H x d)(r:aP K H xs ds):aP K H (x::xs) (d::ds):=by rw[aP];erw[x,xs,Z,h,r]
inductive abu(t:TS)(D:Ends)(O:St)(H:Hp):Prop |mk (Ld:St->Hp->Prop)(h0:t {D with nx:=Ld} O H)(h1:∀σ' H',Ld σ' H'->D.nx σ' H')
def Xk(t:TS):TS:=λD O H=>abu t D O H
theorem ig{st:Stmt}{t:TS}(h:PS X st t):PS X st (Xk t):=by intro ak s O H D I hq;let(Ld,q,m):=hq;erw[ba (h ak s O H _ I q) λf s1 q1=>?_];cases f with |next=>let(σ',H',I',q'):=q1;erw[σ',H',I',m _ _ q'] |brk=>erw[q1] |cont=>erw[q1] |ret u=>erw[q1]
end
def rV(K:aa)(xs:List Str):Prop:=∀x∈xs,PySem.W.nsIn K mainGlobals x=some none
theorem rV.nil{K:aa}:rV K []:=λ_ h=>nomatch h
theorem rV.cons{K:aa}{x:Str}{xs:List Str}(a:PySem.W.nsIn K mainGlobals x=some none)(r:rV K xs):rV K (x::xs):=λy hy=>by
 rcases bJ.mp hy with e|e
 ·rw[e];erw[a]
 ·erw[r y e]
theorem aaA{K:aa}{mg:bN}{h:Heap}(X:K.In h)(G:h.Ns mainGlobals mg)(a:rV K Ds):bK mg:=λx hx=>PySem.W.mg_none_of X G (a x hx)
theorem Kw{env:Env}:∀(ns:List (Str×NameKind))(cs:List (Str×Addr)),(∀x∈ns,x.2= .free->∃c,env.cells.lookup x.1=some c)->(∀x c,cs.lookup x=some c->env.cells.lookup x=some c)->∃cl,(forIn ns cs (λx r=>if(x.2==NameKind.free)=true then do let a<-cellOf env x.1;pure (ForInStep.yield ((x.1,a)::r))else pure (ForInStep.yield r)):Sem (List (Str×Addr)))=pure cl/\(∀x c,cl.lookup x=some c->env.cells.lookup x=some c)/\(∀x c,cs.lookup x=some c->∃c',cl.lookup x=some c')/\∀x∈ns,x.2= .free->∃c,cl.lookup x.1=some c
 |[],cs,_,h2=>#[cs,Z,h2,λx c e=>#[c,e],λ_ h=>nomatch h] |(n,k)::r,cs,h1,h2=>by
  by_cases hk:k= .free
  ·subst hk
   let(c,hc):=h1 (n,.free) (.head _) rfl;have e1:cellOf env n=pure c:=by unfold cellOf;rw[show env.cells.lookup n=some c from hc]
   let(cl,a1,a2,a3,a4):=Kw r ((n,c)::cs) (λx hx=>h1 x (.tail _ hx)) (λx d e=>by rw[ka]at e;cases z:x==n with |true=>rw[z]at e;cases e;rw[fV.mp z];erw[hc] |false=>rw[z]at e;erw[h2 x d e]);erw[cl,?_,a2,λx d e=>?_,λx hx hf=>?_]
   ·rw[LM]
    show(do let r'<-(if(NameKind.free==NameKind.free)=true then do let a<-cellOf env n;pure (ForInStep.yield ((n,a)::cs))else pure (ForInStep.yield cs));_)=_;rw[bu (by rfl),e1];erw[a1]
   ·by_cases z:x==n
    ·erw[a3 x c (by rw[ka,z])]
    ·erw[a3 x d (by rw[ka,DU.mpr z];erw[e])]
   ·rcases bJ.mp hx with rfl|hx
    ·erw[a3 n c (by rw[ka,Lq])]
    ·erw[a4 x hx hf]
  ·let(cl,a1,a2,a3,a4):=Kw r cs (λx hx=>h1 x (.tail _ hx)) h2
   erw[cl,?_,a2,a3,λx hx hf=>?_]
   ·rw[LM]
    show(do let r'<-(if(k==NameKind.free)=true then do let a<-cellOf env n;pure (ForInStep.yield ((n,a)::cs))else pure (ForInStep.yield cs));_)=_;rw[bo (by simpa using hk)];erw[a1]
   ·rcases bJ.mp hx with rfl|hx
    ·erw[absurd hf hk]
    ·erw[a4 x hx hf]
theorem UH{env:Env}{scope:Scope}(h1:∀x∈scope.names,x.2= .free->∃c,env.cells.lookup x.1=some c): ∃cl,closureFor scope env=pure cl/\(∀x c,cl.lookup x=some c->env.cells.lookup x=some c)/\∀x∈scope.names,x.2= .free->∃c,cl.lookup x.1=some c:=by
 let(cl,a1,a2,_,a4):=Kw (env:=env) scope.names [] h1 (λx c e=>nomatch e);erw[cl,?_,a2,a4];unfold closureFor;show(forIn scope.names ([]:List (Str×Addr)) (λ(x:Str×NameKind) r=>match x with|(name,kind)=>if(kind==NameKind.free)=true then do let a<-cellOf env name;pure (ForInStep.yield ((name,a)::r))else pure (ForInStep.yield r))>>=λr=>(pure r:Sem (List (Str×Addr))))=pure cl;have ef:(λ(x:Str×NameKind)(r:List (Str×Addr))=>match x with|(name,kind)=>(if(kind==NameKind.free)=true then do let a<-cellOf env name;pure (ForInStep.yield ((name,a)::r))else pure (ForInStep.yield r):Sem (ForInStep (List (Str×Addr))))) =λx r=>if(x.2==NameKind.free)=true then do let a<-cellOf env x.1;pure (ForInStep.yield ((x.1,a)::r))else pure (ForInStep.yield r):=by funext x r;let(n,k):=x;rfl
 rw[ef,a1];rfl
theorem RA{env:Env}(hk:env.scope.kind= .function){x:Str}(hx:env.kindOf x=some .cell):∀{names:List (Str×NameKind)},names.lookup x=some .free->(names.map λ(n,k)=>if(k==NameKind.free&&env.scope.kind== .function&&env.kindOf n==some .cell)then(n,NameKind.cell)else(n,k)).lookup x=some .cell |[],h=>nomatch h |(n,k)::r,h=>by have ih:=@RA env hk x hx r;show List.lookup x ((if(k==NameKind.free&&env.scope.kind== .function&&env.kindOf n==some .cell)=true then(n,NameKind.cell)else(n,k))::_)=_;cases z:x==n with |true=>simp only[ka,z]at h;cases h;have e:=fV.mp z;subst e;rw[bu (by rw[hk,hx];rfl),ka,z] |false=>simp only[ka,z]at h;split<;>(simp only[ka,z];erw[ih h])
def fR(X:Cx)(N:List Str)(scope:Scope)(cl:List (Str×Addr))(s:ae)(H:Hp)(fp:List Addr)(ak:List (Addr×Obj)):Cx:={prog:=X.prog,w:=X.w,K:=X.K,mg:=X.mg,aw:=X.aw,A:=X.A,N:=N,s₀:=s,H₀:=H,env:=compEnvC scope cl s.heap.objs.size X.env,outer:=X.stack,stack:=X.stack,ex:=fp,fn:=λ_=>false,calm:=X.calm,pn:=X.pn++ak,xe:=λ_ _=>False}
def stC(js:List (Option Nat))(O:St):St:=js.map λ|none=>none|some j=>(O[j]?).join
def Dk(X:Cx)(N:List Str)(js:List (Option Nat))(scope:Scope):Bool:=N.length==js.length&&(N.zip js).all λp=>match p.2 with|none=>true|some j=>X.N[j]? ==some p.1&&scope.names.lookup p.1==some NameKind.free&&X.env.kindOf p.1==some NameKind.cell
def xf(X:Cx)(scope:Scope):Bool:=scope.kind== .function&&X.env.scope.kind== .function&&scope.names.all λx=>match x.2 with | .free=>X.env.kindOf x.1==some NameKind.cell | .cell=>false | .local=>scope.names.lookup x.1==some NameKind.local |_=>true
section
variable {X:Cx}{ak:List (Addr×Obj)}{O:St}{H:Hp}{s:ae}
theorem lookup_mem{α β:Type}[BEq α][LawfulBEq α]:∀{l:List (α×β)}{x:α}{b:β},l.lookup x=some b->(x,b)∈l |[],_,_,h=>nomatch h |(n,k)::r,x,b,h=>by rw[ka]at h;cases z:x==n with |true=>rw[z]at h;cases h;rw[fV.mp z];erw[.head _] |false=>rw[z]at h;erw[.tail _ (lookup_mem h)]
theorem PX{env:Env}{x:Str}{k:NameKind}:∀{names:List (Str×NameKind)},(names.map λ(n,k)=>if(k==NameKind.free&&env.scope.kind== .function&&env.kindOf n==some .cell)then(n,NameKind.cell)else(n,k)).lookup x=some k->names.lookup x=some k\/(k= .cell/\names.lookup x=some .free) |[],h=>nomatch h |(n,k')::r,h=>by have ih:=@PX env x k r;have h':List.lookup x ((if(k'==NameKind.free&&env.scope.kind== .function&&env.kindOf n==some .cell)=true then(n,NameKind.cell)else(n,k'))::(r.map λ(n,k)=>if(k==NameKind.free&&env.scope.kind== .function&&env.kindOf n==some .cell)then(n,NameKind.cell)else(n,k)))=some k:=h;cases z:x==n with
 |true=>
  split at h'
  ·rename_i hc
   simp only[ka,z]at h';cases h';rw[eX,eX]at hc;have e:k'= .free:=fV.mp hc.1.1;subst e;erw[.inr #[Z,by rw[ka,z]]]
  ·simp only[ka,z]at h'
   cases h';erw[.inl (by rw[ka,z])] |false=>
  rw[ka,z];erw[ih ?_];split at h'
  ·simpa only[ka,z]using h'
  ·simpa only[ka,z]using h'
theorem Inv.comp{N:List Str}{js:List (Option Nat)}{scope:Scope}{cl:List (Str×Addr)}{fp:List Addr}{h':Heap}{tk:Nat}(I:Inv X ak O H s)(hN:Dk X N js scope=true)(hS:xf X scope=true) (c1:∀x c,cl.lookup x=some c->X.env.cells.lookup x=some c)(c2:∀x∈scope.names,x.2= .free->∃c,cl.lookup x.1=some c)(hf:∀b∈fp,lg X ak H b)(hfl:∀b∈fp,b<s.heap.objs.size) (hn:h'.Ns s.heap.objs.size λ_=>none)(hk:∀b o,s.heap.get? b=some o->h'.get? b=some o):Inv (fR X N scope cl s H fp ak) [] (stC js O) H {s with heap:=h',toks:=tk}:=by
 unfold xf at hS;rw[eX,eX]at hS;let((s1,s2),s3):=hS;have mR:scope.kind= .function:=fV.mp s1;have a5K:X.env.scope.kind= .function:=fV.mp s2;unfold Dk at hN;rw[eX]at hN;let(n1,n2):=hN;have hlen:N.length=js.length:=fV.mp n1;have Sg:∀x k,(relabel scope X.env).names.lookup x=some k->scope.names.lookup x=some k\/(k= .cell/\scope.names.lookup x=some .free):=λx k e=>PX e;have a2U:∀x,scope.names.lookup x≠some .cell:=λx e=>by have:=gP.mp s3 _ (lookup_mem e);erw[dR this]
 have Tp:∀b∈(fR X N scope cl s H fp ak).fs,b∈X.env.locals::X.fs:=I.Ee;have ok:(fR X N scope cl s H fp ak).Ok:={
  mod:=I.ok.mod
  kind:=mR
  glob:=I.ok.glob
  blt:=I.ok.blt
  above:=bV _
  inj:=λx y c e1 e2=>I.ok.inj x y c (c1 x c e1) (c1 y c e2)
  has:=λx hx=>by
   have fr:scope.names.lookup x=some .free->∃c,cl.lookup x=some c:=λe=>c2 (x,.free) (lookup_mem e) rfl;rcases hx with e|e
   ·rcases Sg x _ e with e|⟨_,e⟩
    ·erw[absurd e (a2U x)]
    ·erw[fr e]
   ·rcases Sg x _ e with e|⟨z,_⟩
    ·erw[fr e]
    ·cases z
  rK:=λx c e=>nomatch e
  hd:=I.ok.hd
  frames:=I.ok.frames
  sQ:=.inl rfl
  zD:=λb hb=>#[dY (hfl b hb),λx c e=>(hf b hb).2.2.2.2.1 x c (c1 x c e)]
  bs:=I.bs
  kW:=j7 I.ok.kW I.sz
  qL:=λb o e hb=>by
   rcases(hf b hb).2.2.2.1 with z|z
   ·erw[I.ok.qL b o e z]
   ·erw[absurd (gO (ck e) (j7 I.ok.kW z)) (vb _)]
  pO:=λb hb z=>by
   let(_,q1,q2,_):=hf b hb;rcases bJ.mp (Tp b z)with e|e
   ·erw[q1 e]
   ·erw[q2 e]
  jy:=I.stack
  mZ:=I.AV};erw[ok,Z,I.bare,Un.kept hk,#[_,hn,λi x v e1 e2 e3=>?_],λx c e=>?_,I.bA.fresh (bV _),λx c e=>I.kA x c (c1 x c e),λp hp=>?_,I.bA.kept hk,?_]
 ·have wZ:(js.map λ|none=>none|some j=>(O[j]?).join)[i]? =some (some v):=e2
  rw[cj]at wZ;cases hj:js[i]? with |none=>rw[hj]at wZ;cases wZ |some o=>rw[hj]at wZ;cases o with |none=>cases wZ |some j=>
   have hz:(N.zip js)[i]? =some (x,some j):=by rw[Ah];erw[e1,hj]
   have UI:=gP.mp n2 _ (gf hz);simp only[eX,fV]at UI;let((h1,h2),h3):=UI;have CV:(O[j]?).join=some v:=by simpa using wZ
   have hσ:O[j]? =some (some v):=by cases q:O[j]? with |none=>rw[q]at CV;cases CV |some o=>
    rw[q]at CV;have:o=some v:=by simpa using CV
    rw[this]
   let(m,hm,hl):=I.loc;let(u,r,l):=hl j x v h1 hσ (.inr (.inl h3));erw[u,r,?_];rcases l with⟨k,_⟩|⟨_,c,hc,qZ⟩
   ·rw[h3]at k;cases k
   ·let(c',kU):=c2 (x,.free) (lookup_mem h2) rfl
    have:=c1 x c' kU;rw[hc]at this;cases this;erw[.inr #[.inl (RA a5K h3 h2),c,kU,?_]];let(ob,ho,hd):=qZ;erw[ob,hk _ _ ho,hd]
 ·let(v,ob,ho,hd):=I.cell x c (c1 x c e)
  erw[v,ob,hk _ _ ho,hd]
 ·have Ck:p∈X.pn++ak:=by simpa[fR]using hp
  let(a1,a2,a3,a4,a5):=I.pin p Ck;erw[hk _ _ a1,a2,dY (ck a1),λz=>?_,a5];rcases bJ.mp (Tp p.1 z)with e|e
  ·erw[a3 e]
  ·erw[a4 e]
 ·show(js.map _).length=N.length
  rw[bW,hlen]
end
theorem UD{prog:af}{w:World}{A:ah}{R:Result->ae->Prop}{s:ae}{elt target iter:Expr}{ifs:List Expr}{scope:Scope}{pos:Pos}{it acc:Value}{env:Env}(I:Nat->ae->Prop) (turn:∀n s,I n s->wpAny (model prog w) A (pyNext it) (λr s₁=>match r with |none=>R (.ok .next) s₁ |some v=>wpAny (model prog w) A (letOwnedTupleGo target it v) (λ_ s₁=>wpAny (model prog w) A (assign target env v) (λ_ s₂=>wpAny (model prog w) A (forIn ifs true λc r=>if r=true then do let ok<-isTrue c env (eval c env);pure (ForInStep.yield ok)else pure (ForInStep.yield r)) (λok s₃=>if ok=true then wpAny (model prog w) A (eval elt env) (λx s₄=>wpAny (model prog w) A (call (.builtin "list.append") [acc,x]) (λ_ s₅=>∃m,m<n/\I m s₅) (λ_ _=>False) s₄) (λ_ _=>False) s₃ else∃m,m<n/\I m s₃) (λ_ _=>False) s₂) (λ_ _=>False) s₁) (λ_ _=>False) s₁) (λ_ _=>False) s) (n:Nat)(h:I n s):codeAny (model prog w) A (.compLoop (.ListComp elt [#[target,iter,ifs,0]] scope pos) 0 it acc env) R s:=by erw[codeAny_loop Z I (λn s hI=>?_) n h];show wpAny _ A ((compTurn (.ListComp elt [#[target,iter,ifs,0]] scope pos) 0 it acc env).onRaise (λx=>do noteFrame x env;theTreesLotGoes x)) _ _ s;erw[wpAny_noted ?_];rw[compTurn_list];erw[aL (A4 (aL (ji (turn n s hI) (λr s₁ h₁=>?_) λ_ _ h'=>h'.elim)))];cases r with |none=>erw[cn h₁] |some v=>erw[aL (ji h₁ (λ_ adW h₁=>?_) λ_ _ h'=>h'.elim)];erw[aL (ji h₁ (λ_ s₂ h₂=>aL (ji h₂ (λok s₃ h₃=>?_) λ_ _ h'=>h'.elim)) λ_ _ h'=>h'.elim)];cases ok with |false=>erw[cn #[Z,h₃]] |true=>erw[aL (aL (ji h₃ (λx s₄ h₄=>aL (ji h₄ (λ_ s₅ h₅=>cn (cn #[Z,h₅])) λ_ _ h'=>h'.elim)) λ_ _ h'=>h'.elim))]
def L8(X:Cx)(ifs:List Expr)(t:TT):Prop:=∀(ak:List (Addr×Obj))(s:ae)(O:St)(H:Hp)(Q:Bool->Hp->Prop),Inv X ak O H s->t O H Q->wpAny (model X.prog X.w) X.A (forIn ifs true λc r=>if r=true then do let ok<-isTrue c X.env (eval c X.env);pure (ForInStep.yield ok)else pure (ForInStep.yield r)) (TP X ak O Q) X.xe s
def jL:TT:=λ_ H Q=>Q true H
theorem dJ{X:Cx}:L8 X [] jL:=λ_ _ _ H _ I h=>wpAny_tests_nil #[H,I,h]
def kF(J:It)(g:TG)(tt:TT)(te:TE)(Q:VK)(D:Addr)(O:St)(H:Hp):Prop:=∃W:Nat->Nat->St->Hp->Prop,(∃m,W 0 m O H)/\∀i m σ' H',W i m σ' H'->(J.stop i H'/\Q (.ref D) H')\/(J.go i H'/\∀x H2,J.lB i H' x H2->g x σ' H2 λσ3 H3=>tt σ3 H3 λok H4=>if ok=true then te σ3 H4 λy H5=>∃ys,H5 D=some (.lst ys)/\ys.length<sizeLine/\∃m',m'<m/\W (i+1) m' σ3 (upd H5 D (.lst (ys++[y]))) else∃m',m'<m/\W (i+1) m' σ3 H4)
def Mp(js:List (Option Nat))(wi:TI)(g:TG)(tt:TT)(te:TE):TE:=λO H Q=>wi O H λJ H1=>∀D H2,Nw H1 H2 D (.lst [])->kF J g tt te Q D (stC js O) H2
theorem dP.but{P:af}{w:World}{H:Hp}{h h':Heap}{C:Addr}(ok:dP P w H h)(hn:H C=none)(hs:Heap.SameBut C h h'):dP P w H h':=λb ob e=>by
 refine(ok b ob e).oQ (λc w' hc q=>(hs.2 c ?_).trans q) (λ_ q=>q) λ_ _ q=>q;rintro rfl;rcases hc with rfl|hc
 ·rw[hn]at e;cases e
 ·rw[hn]at hc;cases hc
set_option maxHeartbeats 1000000 in
theorem fi{X:Cx}{N:List Str}{js:List (Option Nat)}{elt tg iter:Expr}{ifs:List Expr}{scope:Scope}{pos:Pos}{wi:TI}{g:TG}{tt:TT}{te:TE}(hc:X.calm=true)(hN:Dk X N js scope=true)(hS:xf X scope=true) (hi:PI X tg iter wi)(hg:∀cl s H fp ak,PG (fR X N scope cl s H fp ak) tg g)(ht:∀cl s H fp ak,L8 (fR X N scope cl s H fp ak) ifs tt)(he:∀cl s H fp ak,PE (fR X N scope cl s H fp ak) elt te) (hs:autoParam (∀x,foldedSetIterable iter X.env x=pure x) d8_._auto_1):PE X (.ListComp elt [#[tg,iter,ifs,0]] scope pos) (Mp js wi g tt te):=by
 intro ak s O H Q I h;have uv:=hS;unfold xf at uv;rw[eX,eX]at uv;let((k1,k2),k3):=uv;have mR:scope.kind= .function:=fV.mp k1;have wM:∀x∈scope.names,x.2= .free->∃c,X.env.cells.lookup x.1=some c:=λx hx e=>by have:=gP.mp k3 x hx;rw[e]at this;erw[I.ok.has x.1 (.inl (fV.mp this))]
 have qZ:∀x∈scope.names,x.2≠ .cell:=λx hx e=>by have:=gP.mp k3 x hx;rw[e]at this;erw[dR this]
 have Jf:∀x∈scope.names,x.2= .local->scope.names.lookup x.1=some .local:=λx hx e=>by have:=gP.mp k3 x hx;rw[e]at this;erw[fV.mp this]
 let(cl,Ju,c1,c2):=UH wM;rw[eval_ListComp];erw[wpAny_comprehension_free (use:=none) Z hs Ju mR Jf (ba (hi ak s O H _ I h) λv s1 h1=>ba h1 λC2 s2 h2=>?_)];let(it,fp,tn,J,H2,e,I2,T,sS,f2,h2):=h2;subst e;have hD:H2 s2.heap.objs.size=none:=I2.bA.fresh (bV _);let(W,(m0,w0),turn):=h2 _ _ (Nw.of hD);erw[nH (wpAny_newFunctionEnv qZ (by intro y hy;simp at hy) (λh₁ ze yY=>?_) mR)];have uC:∀b∈fp,b<s2.heap.objs.size:=λb hb=>by let(o,e,_):=T.obj _ _ sS b hb;erw[ck e]
 have I3:Inv X ak O (upd H2 s2.heap.objs.size (.lst [])) {s2 with heap:=s2.heap.push {cls:=.type "list",dict:=none,data:=.seq ([]:List Value).toArray}}:=I2.RF (its:=[]) (t':=s2.toks) .nil (gM _);generalize zr:s2.heap.push {cls:=.type "list",dict:=none,data:=.seq ([]:List Value).toArray}=h3 at I3 ze yY;have xZ:h3.objs.size=s2.heap.objs.size+1:=by rw[<-zr,vj]
 have IT:∀b o,s2.heap.get? b=some o->h3.get? b=some o:=λb o e=>by rw[<-zr];erw[cx _ e]
 have f3:∀b∈fp,lg X ak (upd H2 s2.heap.objs.size (.lst [])) b:=λb hb=>#[by rw[aU (dY (uC b hb))];exact(f2 b hb).1,(f2 b hb).2];have yT:∀b o,h3.get? b=some o->h₁.get? b=some o:=λb o e=>(yY.2 b (dY (ck e))).trans (cx _ e);have I4:Inv (fR X N scope cl {s2 with heap:=h3} (upd H2 s2.heap.objs.size (.lst [])) fp ak) [] (stC js O) (upd H2 s2.heap.objs.size (.lst [])) {s2 with heap:=h₁,toks:=s2.toks+([]:List (Str×Value)).length}:=I3.comp (s:={s2 with heap:=h3}) hN hS c1 c2 f3 (λb hb=>by show b<h3.objs.size;rw[xZ];erw[LI (uC b hb)]) (by simpa using ze) yT;have yb:tn 0 h₁:=T.keep _ _ _ sS λb _ o e=>yT b o (IT b o e);have loop:codeAny (model X.prog X.w) X.A (.compLoop (.ListComp elt [#[tg,iter,ifs,0]] scope pos) 0 (.ref it) (.ref s2.heap.objs.size) (compEnvC scope cl h3.objs.size X.env)) (compPost (model X.prog X.w) X.A X.xe none (EP X ak O Q) (.ref s2.heap.objs.size) h3.objs.size) {s2 with heap:=h₁,toks:=s2.toks+([]:List (Str×Value)).length}:=by
  erw[UD (λn s'=>∃i σ' H',Inv (fR X N scope cl {s2 with heap:=h3} (upd H2 s2.heap.objs.size (.lst [])) fp ak) [] σ' H' s'/\tn i s'.heap/\(∀b∈fp,H' b=none)/\W i n σ' H') ?_ m0 #[0,_,_,I4,yb,λb hb=>(f3 b hb).1,w0]];rintro n s5 ⟨i,σ5,H5,I5,oT,uB,w5⟩;have md:∀{H':Hp},(∀b∈fp,H' b=none)->∀b∈fp,lg (fR X N scope cl {s2 with heap:=h3} (upd H2 s2.heap.objs.size (.lst [])) fp ak) [] H' b:=λ{H'} hn b hb=>by
   let(_,q1,q2,q3,q4,q5):=f3 b hb;erw[hn b hb,λz=>?_,I4.ok.pO b hb,.inl hb,λx c e=>q4 x c (c1 x c e),λp hp=>q5 p (by simpa[fR]using hp)];have cK:b<h3.objs.size:=by rw[xZ];erw[LI (uC b hb)]
   erw[dY cK z]
  rcases turn i n σ5 H5 w5 with⟨stop,qn⟩|⟨go,step⟩
  ·erw[ba (T.done (fR X N scope cl {s2 with heap:=h3} (upd H2 s2.heap.objs.size (.lst [])) fp ak) rfl rfl rfl hc i [] s5 σ5 H5 _ I5 (md uB) oT stop) λr s6 #[hr,I6]=>?_]
   subst hr;let(m,hm,_):=I6.loc;erw[m,hm,λh7 Cf=>?_];have u0:Un (eZ X.stack) fp (upd H2 s2.heap.objs.size (.lst [])) H5 h3 s6.heap:=I6.aw;have ne:∀b o,h3.get? b=some o->b≠h3.objs.size:=λb o e=>dY (ck e);have u:Un (eZ X.stack) fp (upd H2 s2.heap.objs.size (.lst [])) H5 h3 h7:=#[λb o e n hb hx=>(Cf.2 b (ne b o e)).trans (u0.keep b o e n hb hx),λb o e n hb hx=>let#[sl,q]:=u0.slot b o e n hb hx;#[sl,(Cf.2 b (ne b o e)).trans q],u0.free,λb o e hx=>let#[o',q]:=u0.there b o e hx;#[o',(Cf.2 b (ne b o e)).trans q],u0.kJ,u0.kz,u0.kK];have I7:Inv X ak O H5 {s6 with heap:=h7}:=I3.Dm (s':={s6 with heap:=h7}) (ch:=fp) I6.os u (I6.bA.but I6.free Cf) I6.bare λb hb=>#[(f3 b hb).2.2.2.1,(f3 b hb).2.1,(f3 b hb).2.2.2.2.1,(f3 b hb).2.2.2.2.2];erw[.ref s2.heap.objs.size,H5,I7,Z,qn]
  ·erw[ba (T.item (fR X N scope cl {s2 with heap:=h3} (upd H2 s2.heap.objs.size (.lst [])) fp ak) rfl rfl rfl hc i [] s5 σ5 H5 _ I5 (md uB) oT go) λr s6 #[u,hr,h6]=>?_]
   subst hr;erw[ba h6 λ_ s7 #[x,H7,I7,r7,y7,oS,JS]=>?_];have Lg:=I7.pinned (md JS) (T.obj _ _ oS);erw[ba (hg _ _ _ _ _ _ s7 σ5 H7 x u _ Lg r7 (step x H7 y7)) λ_ s8 #[σ8,H8,I8,q8]=>?_];erw[ba (ht _ _ _ _ _ _ s8 σ8 H8 _ I8 q8) λok s9 #[H9,I9,q9]=>?_];have again:∀{s':ae}{σ7:St}{H7:Hp},Inv (fR X N scope cl {s2 with heap:=h3} (upd H2 s2.heap.objs.size (.lst [])) fp ak) ([]++vU fp s7.heap) σ7 H7 s'->(∃m',m'<n/\W (i+1) m' σ7 H7)->∃m,m<n/\∃i σ' H',Inv (fR X N scope cl {s2 with heap:=h3} (upd H2 s2.heap.objs.size (.lst [])) fp ak) [] σ' H' s'/\tn i s'.heap/\(∀b∈fp,H' b=none)/\W i m σ' H':=λ{s' σ7 H7} J7 n7=>by let(m',hm,w7):=n7;erw[m',hm,i+1,σ7,H7,J7.xS,T.keep _ _ _ oS λb hb o e=>(J7.pin (b,o) (kG _ (kG _ (wB hb e)))).1,λb hb=>?_,w7];let(o,e,d):=T.obj _ _ oS b hb;exact(J7.pin (b,o) (kG _ (kG _ (wB hb e)))).2.1
   cases ok with |false=>rw[bo dR]at q9⊢;erw[again I9 q9] |true=>rw[bu rfl]at q9⊢;erw[ba (he _ _ _ _ _ _ s9 σ8 H9 _ I9 q9) λyv yp #[y,oH,Li,Hg,ys,C7,hz,vo]=>?_];erw[ba (Il _ yp σ8 oH (.ref s2.heap.objs.size) [y] (.ref s2.heap.objs.size) [yv] (λ_ iZ=>∃m',m'<n/\W (i+1) m' σ8 iZ) Li Z (.cons Hg .nil) #[_,ys,y,Z,Z,C7,hz,vo]) λ_ yo #[v11,iZ,Lh,ZH,Hh]=>?_];erw[again Lh Hh]
 erw[codeAny_compStart_list loop (T.self _ 0 _ _ _ yb loop)]
theorem Kz:∀{bs:List Bool}{us:List Value},Vals (bs.map V.bl) us->us=bs.map Value.bool |[],_,.nil=>rfl |b::r,_,.cons q t=>by cases(show _=Value.bool b from q);rw[Kz t];rfl
section
variable {X:Cx}
theorem aas(hc:X.calm=true):fq X (.builtin "all") (λxs H Q=>∃(l:Addr)(bs:List Bool),xs=[.ref l]/\aE X.K H l (bs.map V.bl)/\Q (.bl (bs.all id)) H):=by
 intro ak s O H xs us Q I r h;let(l,bs,rfl,hl,q):=h;let(u,rfl,ru):=vals1 r;cases(show u=Value.ref l from ru);let(its,rv,pl,hz):=I.list hl;have e:=Kz rv;subst e;have gH:=pl.isList;have cK:l<s.heap.objs.size:=by let(_,e,_):=gH;erw[ck e]
 have hh:=I.ok.hd hc;erw[call_all_walk (xy gH ?_)];erw[s.heap.objs.size,[s.heap.objs.size,l],[s.heap.objs.size],(bs.map Value.bool).toArray.size,_,_,λi=>(bs[i]?).getD true,Z,Walks.list (A:=X.A.in1) hh _ l (dY cK) (bs.map Value.bool).toArray,#[#[_,eP _ Z,Z,Z],gH.push _],λi v s' Q' E' hP hQ=>?_,λh' tk hk=>?_]
 ·have mX:(bs.map Value.bool)[i]? =some v:=by simpa using hP
  rw[cj]at mX;cases e:bs[i]? with |none=>rw[e]at mX;cases mX |some b=>rw[e]at mX;cases mX;simp only[e,Option.getD_some]at hQ;erw[nG hQ]
 ·have e:((List.range (bs.map Value.bool).toArray.size).all λi=>(bs[i]?).getD true)=bs.all id:=by rw[eO,bW];erw[LSm.range_all bs]
  rw[e];erw[.bl _,H,I.kept (LSm.kept_iter hk),Z,q]
theorem aar(hc:X.calm=true):fq X (.builtin "any") (λxs H Q=>∃(l:Addr)(bs:List Bool),xs=[.ref l]/\aE X.K H l (bs.map V.bl)/\Q (.bl (bs.any id)) H):=by
 intro ak s O H xs us Q I r h;let(l,bs,rfl,hl,q):=h;let(u,rfl,ru):=vals1 r;cases(show u=Value.ref l from ru);let(its,rv,pl,hz):=I.list hl;have e:=Kz rv;subst e;have gH:=pl.isList;have cK:l<s.heap.objs.size:=by let(_,e,_):=gH;erw[ck e]
 have hh:=I.ok.hd hc;erw[call_any_walk (xy gH ?_)];erw[s.heap.objs.size,[s.heap.objs.size,l],[s.heap.objs.size],(bs.map Value.bool).toArray.size,_,_,λi=>(bs[i]?).getD false,Z,Walks.list (A:=X.A.in1) hh _ l (dY cK) (bs.map Value.bool).toArray,#[#[_,eP _ Z,Z,Z],gH.push _],λi v s' Q' E' hP hQ=>?_,λh' tk hk=>?_]
 ·have mX:(bs.map Value.bool)[i]? =some v:=by simpa using hP
  rw[cj]at mX;cases e:bs[i]? with |none=>rw[e]at mX;cases mX |some b=>rw[e]at mX;cases mX;simp only[e,Option.getD_some]at hQ;erw[nG hQ]
 ·have e:((List.range (bs.map Value.bool).toArray.size).any λi=>(bs[i]?).getD false)=bs.any id:=by rw[eO,bW];erw[LSm.range_any bs]
  rw[e];erw[.bl _,H,I.kept (LSm.kept_iter hk),Z,q]
end
theorem uI{J:It}{g:TG}{tt:TT}{te:TE}{Q:VK}{D:Addr}{O:St}{H:Hp}(n:Nat)(Pv:Nat->St->Hp->Prop)(h0:Pv 0 O H) (hs:∀i O H,i<n->Pv i O H->J.go i H/\∀x H2,J.lB i H x H2->g x O H2 λσ3 H3=>tt σ3 H3 λok H4=>if ok=true then te σ3 H4 λy H5=>∃ys,H5 D=some (.lst ys)/\ys.length<sizeLine/\∃m',m'<n-i/\m'=n-(i+1)/\i+1<=n/\Pv (i+1) σ3 (upd H5 D (.lst (ys++[y]))) else∃m',m'<n-i/\m'=n-(i+1)/\i+1<=n/\Pv (i+1) σ3 H4) (hd:∀O H,Pv n O H->J.stop n H/\Q (.ref D) H): kF J g tt te Q D O H:=by
 erw[λi m O H=>m=n-i/\i<=n/\Pv i O H,#[n,by simp,gM _,h0],?_];rintro i m O H ⟨rfl,hi,p⟩;by_cases cK:i<n
 ·erw[.inr (hs i O H cK p)]
 ·have e:i=n:=by lia
  subst e;erw[.inl (hd O H p)]
section
variable {X:Cx} {tg:Expr}
theorem ixK(K:aa)(h:X.K=K):qe X (λx y H Q=>Hc K x y H Q\/GZ K x y H Q):=by subst h;erw[a4u.or a4t]
inductive ad0(K:aa)(x:V)(lo:Option Int)(hi:Option Int)(H:Hp)(Q:VK):Prop |mk (a:_)(xs:_)(h0:x= .ref a)(h1:((aE K H a xs/\∀p H',Nw H H' p (.lst (jC xs lo hi))->Q (.ref p) H')\/ (bc K H a xs/\¬(_H.cu xs.length 0 lo=0/\_H.cu xs.length xs.length hi=xs.length)/\∀p H',Nw H H' p (.tup (jC xs lo hi))->Q (.ref p) H')))
def Zv(K:aa):V->Option Int->Option Int->Hp->VK->Prop:=λx lo hi H Q=>ad0 K x lo hi H Q
theorem sZ(K:aa)(h:X.K=K):Dx X (Zv K):=by
 subst h;intro ak s O H x v vl vu lo hi sl Q I rx hs pl pu hq;let(a,xs,e,hq):=hq;rcases hq with⟨h1,k⟩|⟨h1,h2,k⟩
 ·erw[Y4 ak s O H x v vl vu lo hi sl Q I rx hs pl pu #[a,xs,e,h1,λp hp=>k p _ (.of hp)]]
 ·erw[Y3 ak s O H x v vl vu lo hi sl Q I rx hs pl pu #[a,xs,e,h1,h2,λp hp=>k p _ (.of hp)]]
theorem a49(K:aa)(h:X.K=K):fq X (.builtin "len") (λxs H Q=>∃p ys,xs=[.ref p]/\(aE K H p ys\/bc K H p ys)/\Q (.int ys.length) H):=by subst h;erw[aao]
theorem a4C(K:aa)(h:X.K=K):fq X (.builtin "isinstance") (λxs H Q=>He K xs H Q\/Hd K xs H Q):=by subst h;erw[aaq.or aap]
theorem dW(K:aa)(h:X.K=K)(hu:X.A.units+64<cLine):cV X (compareOp .Eq) (λx y H Q=>kl (λi j=>.bl (decide (i=j))) x y H Q\/Hf K x y H Q):=by subst h;erw[a0C hu]
theorem mC(K:aa)(h:X.K=K)(hu:X.A.units+64<cLine):cV X (compareOp .NotEq) (λx y H Q=>kl (λi j=>.bl (!decide (i=j))) x y H Q\/GY K x y H Q):=by subst h;erw[a0y hu]
theorem xh(K:aa)(h:X.K=K)(hc:X.calm=true):fq X (.builtin "all") (λxs H Q=>∃(l:Addr)(bs:List Bool),xs=[.ref l]/\aE K H l (bs.map V.bl)/\Q (.bl (bs.all id)) H):=by subst h;erw[aas hc]
theorem aaS(K:aa)(h:X.K=K)(hc:X.calm=true):fq X (.builtin "any") (λxs H Q=>∃(l:Addr)(bs:List Bool),xs=[.ref l]/\aE K H l (bs.map V.bl)/\Q (.bl (bs.any id)) H):=by subst h;erw[aar hc]
theorem ID(K:aa)(h:X.K=K):fq X (.type "list") (λxs H Q=>∃p ys,xs=[.ref p]/\(aE K H p ys\/bc K H p ys)/\∀l H',Nw H H' l (.lst ys)->Q (.ref l) H'):=by subst h;intro ak s O H xs us Q I r hq;let(p,ys,e,h1,k):=hq;erw[aam ak s O H xs us Q I r #[p,ys,e,h1,λl hl=>k l _ (.of hl)]]
theorem kh(K:aa)(h:X.K=K):fq X (.type "tuple") (λxs H Q=>∃p ys,xs=[.ref p]/\((aE K H p ys/\∀l H',Nw H H' l (.tup ys)->Q (.ref l) H')\/(bc K H p ys/\Q (.ref p) H))):=by subst h;intro ak s O H xs us Q I r hq;let(p,ys,e,h1):=hq;erw[aah ak s O H xs us Q I r #[p,ys,e,h1.imp (λ#[a,k]=>#[a,λl hl=>k l _ (.of hl)]) id]]
def X7(t:TA):TE:=λO H Q=>t O H λxs H1=>xs.length<=sizeLine/\∀p H',Nw H1 H' p (.tup xs)->Q (.ref p) H'
def Xm(t:TA):TE:=λO H Q=>t O H λxs H1=>xs.length<=sizeLine/\∀p H',Nw H1 H' p (.lst xs)->Q (.ref p) H'
theorem iH{es:List Expr}{t:TA}{pos:Pos} {x1}(h:PA X es t):PE X (.Tuple es x1 pos) (X7 t):=by intro ak s O H Q I hq;erw[wpAny_Tuple_spliced (ba (h pos ak s O H _ I hq) λus s1 #[xs,H1,I1,r,z,q]=>#[by rw[<-r.length];erw[z],?_])];have hf:H1 s1.heap.objs.size=none:=I1.bA.fresh (bV _);erw[.ref s1.heap.objs.size,upd H1 s1.heap.objs.size (.tup xs),I1.laid (t':=s1.toks) (λb u e=>cx _ e) (bV _) ?_,Z,q _ _ (.of hf)];erw[z,us,r,#[_,eP _ Z,Z,_,Z]]
theorem fA{es:List Expr}{t:TA}{pos:Pos}(h:PA X es t):PE X (.List es pos) (Xm t):=by intro ak s O H Q I hq;erw[wpAny_List_spliced (ba (h pos ak s O H _ I hq) λus s1 #[xs,H1,I1,r,z,q]=>#[by rw[<-r.length];erw[z],?_])];have hf:H1 s1.heap.objs.size=none:=I1.bA.fresh (bV _);erw[.ref s1.heap.objs.size,upd H1 s1.heap.objs.size (.lst xs),I1.laid (t':=s1.toks) (λb u e=>cx _ e) (bV _) ?_,Z,q _ _ (.of hf)];erw[z,us,0,r,eP _ Z]
theorem nP(K:aa)(h:X.K=K){l:Expr}{tl:TE}(hl:PE X l tl):PI X tg l (Sj K tl):=by subst h;erw[ZZ hl]
theorem ko(K:aa)(h:X.K=K){l:Expr}{tl:TE}(hl:PE X l tl):PI X tg l (Sh K tl):=by subst h;erw[ZW hl]
theorem eB(K:aa)(h:X.K=K){es:List Expr}{k:Nat}{t:oE}{n:Nat}{pos:Pos}(hc:X.calm=true)(hg:zY X es t)(hn:autoParam ((assignEach es X.env).length=n) r8_._auto_1)(g9:autoParam ((assignEach es X.env).findIdx? (·.1)=none) r8_._auto_1): PG X (.Tuple es k pos) (zB K n t):=by subst h;erw[a00 hc hg hn g9]
theorem tP(K:aa)(h:X.K=K){o e:Expr}{to:TE}{t:TA}{apos da:Pos}(ho:PE X o to)(ha:PA X [e] t) (mV:autoParam (attributeBase o "append" X.env (eval o X.env)=eval o X.env) r8_._auto_1) (mS:autoParam (((backTo da (starEach [e] X.env)).all (λx=>!x.1)&&(backToKw da (keywordEach [] X.env)).all (λx=>x.1.isSome) &&decide ([e].length+([]:List Keyword).length+(if([]:List Keyword).isEmpty then 0 else 1)<30))=true) r8_._auto_1) (mO:autoParam ((apos.endLine==da.line)=true) r8_._auto_1)(hs:autoParam (starEach [e] X.env=(false,eval e X.env)::starEach [] X.env) r8_._auto_1)(mJ:autoParam ((backTo da (starEach [] X.env)).any (·.1)=false) r8_._auto_1): PE X (.Call (.Attribute o "append" apos) [e] [] da) (vw K "list" Qa to t):=by subst h;erw[yB PySem.F.plainAttrs_list PySem.F.slot_list_append PySem.F.type_list_append Il ho ha mV mS mO hs mJ]
theorem vm{j:Nat}{x:V}{O:St}{H:Hp}{A B:St->Hp->Prop}(h:A (O.set j (some x)) H):gc j x O H λσ3 H3=>jL σ3 H3 λok H4=>if ok=true then A σ3 H4 else B σ3 H4:=by show if true=true then A (O.set j (some x)) H else B (O.set j (some x)) H;rw[bu rfl];erw[h]
theorem yes{O:St}{H:Hp}{Q:Bool->Hp->Prop}(h:Q true H):jL O H Q:=h
end
theorem aE.go{K:aa}{H H':Hp}{a:Addr}{xs:List V}(s:aF H H')(h:aE K H a xs):aE K H' a xs:=h.imp (λr=>r.imp (s _ _) λ#[o,e]=>#[o,s _ _ e]) id
theorem bc.go{K:aa}{H H':Hp}{a:Addr}{xs:List V}(s:aF H H')(h:bc K H a xs):bc K H' a xs:=h.imp (λr=>r.imp (s _ _) λ#[o,e]=>#[o,s _ _ e]) id
mutual
theorem RD.mono{K:aa}{H H':Hp}(s:aF H H'):∀{x:V}(d:ag),RD K H x d->RD K H' x d |x,.none,h=>by simpa[RD]using h |x,.bool b,h=>by simpa[RD]using h |x,.int i,h=>by simpa[RD]using h |x,.str y,h=>by simpa[RD]using h |x,.list ds,h=>by rw[RD]at h⊢;let(a,xs,e,h1,h2):=h;erw[a,xs,e,h1.go s,aP.mono s ds h2] |x,.tuple ds,h=>by rw[RD]at h⊢;let(a,xs,e,h1,h2):=h;erw[a,xs,e,h1.go s,aP.mono s ds h2] |x,.dict _,h=>by simp[RD]at h
theorem aP.mono {K:aa}{H H':Hp}(s:aF H H'):∀{xs:List V}(ds:List ag),aP K H xs ds->aP K H' xs ds |xs,[],h=>by simpa[aP]using h |xs,d::ds,h=>by rw[aP]at h⊢;let(y,ys,e,h1,h2):=h;erw[y,ys,e,RD.mono s d h1,aP.mono s ds h2]
end
section
variable {K:aa} {H H':Hp}
theorem aP.nil_inv{xs:List V}(h:aP K H xs []):xs=[]:=by simpa[aP]using h
theorem aP.cons_inv{xs:List V}{d:ag}{ds:List ag}(h:aP K H xs (d::ds)):∃y ys,xs=y::ys/\RD K H y d/\aP K H ys ds:=by rw[aP]at h;erw[h]
theorem RD.cT{x:V}{ds:List ag}(h:RD K H x (.tuple ds)):∃a xs,x= .ref a/\bc K H a xs/\aP K H xs ds:=by rw[RD]at h;erw[h]
theorem RD.lst_inv{x:V}{ds:List ag}(h:RD K H x (.list ds)):∃a xs,x= .ref a/\aE K H a xs/\aP K H xs ds:=by rw[RD]at h;erw[h]
theorem RD.int_inv{x:V}{i:Int}(h:RD K H x (.int i)):x= .int i:=by rw[RD]at h;erw[h]
theorem RD.aaB{x:V}{i:Bool}(h:RD K H x (.bool i)):x= .bl i:=by rw[RD]at h;erw[h]
theorem RD.str_inv{x:V}{i:Str}(h:RD K H x (.str i)):x= .str i:=by rw[RD]at h;erw[h]
theorem RD.HW{x:V}(h:RD K H x .none):x= .bD:=by rw[RD]at h;erw[h]
theorem aP.length:∀{xs:List V}{ds:List ag},aP K H xs ds->xs.length=ds.length |xs,[],h=>by rw[h.nil_inv];rfl |xs,d::ds,h=>by let(y,ys,rfl,_,h2):=h.cons_inv;rw[gq,gq,aP.length h2]
theorem aP.append:∀{xs ys:List V}{ds es:List ag},aP K H xs ds->aP K H ys es->aP K H (xs++ys) (ds++es) |xs,ys,[],es,h,g=>by rw[h.nil_inv];erw[g] |xs,ys,d::ds,es,h,g=>by let(y,zs,rfl,h1,h2):=h.cons_inv;erw[cN h1 (aP.append h2 g)]
theorem aP.take:∀(n:Nat){xs:List V}{ds:List ag},aP K H xs ds->aP K H (xs.take n) (ds.take n) |0,xs,ds,h=>by rw[List.take_zero,List.take_zero];erw[dI] |n+1,xs,[],h=>by rw[h.nil_inv];erw[dI] |n+1,xs,d::ds,h=>by let(y,zs,rfl,h1,h2):=h.cons_inv;erw[cN h1 (aP.take n h2)]
theorem aP.get:∀(n:Nat){xs:List V}{ds:List ag}{d:ag},aP K H xs ds->ds[n]? =some d->∃x,xs[n]? =some x/\RD K H x d
 |n,xs,[],d,h,e=>by simp at e |0,xs,d'::ds,d,h,e=>by
  let(y,zs,rfl,h1,h2):=h.cons_inv;have e':d'=d:=by simpa using e
  subst e';erw[y,Z,h1] |n+1,xs,d'::ds,d,h,e=>by let(y,zs,rfl,h1,h2):=h.cons_inv;erw[aP.get n h2 (by simpa using e)]
theorem aP.get'(n:Nat){xs:List V}{ds:List ag}{x:V}(h:aP K H xs ds)(e:xs[n]? =some x):∃d,ds[n]? =some d/\RD K H x d:=by
 have hl:n<ds.length:=by rw[<-h.length];exact(dZ.mp e).1
 let(y,e1,r):=h.get n (cB hl);rw[e]at e1;cases e1;erw[_,cB hl,r]
def m9:ag->String | .none=>"NoneType" | .bool _=>"bool" | .int _=>"int" | .str _=>"str" | .list _=>"list" | .tuple _=>"tuple" | .dict _=>"dict"
theorem RD.ty{x:V}:∀{d:ag},RD K H x d->uN K H x (m9 d) | .none,h=>by rw[h.HW];rfl | .bool b,h=>by rw[h.aaB];rfl | .int b,h=>by rw[h.int_inv];rfl | .str b,h=>by rw[h.str_inv];rfl | .list ds,h=>by let(a,xs,rfl,h1,_):=h.lst_inv;erw[.inl #[Z,xs,h1]] | .tuple ds,h=>by let(a,xs,rfl,h1,_):=h.cT;erw[.inr #[Z,xs,h1]] | .dict _,h=>by simp[RD]at h
structure dy(n:Nat)(d:ag):Prop where
 lay:d.canLay0=true
 dep:d.depth<=n
def iC(n:Nat)(ds:List ag):Prop:=∀d∈ds,dy n d
theorem dy.le{n m:Nat}{d:ag}(h:dy n d)(l:n<=m):dy m d:=#[h.lay,j7 h.dep l]
theorem wa{n:Nat}:∀{ds:List ag},iC n ds↔(PyData.canLayAll0 ds=true/\PyData.depthAll ds<=n)
 |[]=>#[λ_=>#[Z,gM _],λ_ _ h=>nomatch h] |d::ds=>by
  have ih:=wa (n:=n) (ds:=ds);simp only[PyData.canLayAll0,PyData.depthAll,eX];constructor
  ·intro h
   have h1:=h d (.head _);have h2:=ih.mp λx hx=>h x (.tail _ hx);erw[#[h1.lay,h2.1],Nat.max_le.mpr #[h1.dep,h2.2]]
  ·rintro⟨⟨a,b⟩,c⟩ x hx
   have c':=Nat.max_le.mp c;rcases bJ.mp hx with rfl|hx
   ·erw[a,c'.1]
   ·erw[ih.mpr #[b,c'.2] x hx]
theorem iC.tup{n:Nat}{ds:List ag}(h:iC n ds):dy (n+1) (.tuple ds):=#[by simpa[PyData.canLay0]using(wa.mp h).1,by simpa[PyData.depth]using(wa.mp h).2]
theorem iC.lst{n:Nat}{ds:List ag}(h:iC n ds):dy (n+1) (.list ds):=#[by simpa[PyData.canLay0]using(wa.mp h).1,by simpa[PyData.depth]using(wa.mp h).2]
theorem dy.cT{n:Nat}{ds:List ag}(h:dy (n+1) (.tuple ds)):iC n ds:=wa.mpr #[by simpa[PyData.canLay0]using h.lay,by simpa[PyData.depth]using h.dep]
theorem dy.int{n:Nat}(i:Int):dy n (.int i):=#[Z,gM _]
theorem dy.bD{n:Nat}:dy n .none:=#[Z,gM _]
theorem iC.nil{n:Nat}:iC n []:=λ_ h=>nomatch h
theorem iC.cons{n:Nat}{d:ag}{ds:List ag}(h:dy n d)(g:iC n ds):iC n (d::ds):=λx hx=>by
 rcases bJ.mp hx with rfl|hx
 ·erw[h]
 ·erw[g x hx]
theorem dy.shaped{n:Nat}{d:ag}(h:dy n d)(l:n<=64):SeqAt.shaped d=true:=by unfold SeqAt.shaped;rw[h.lay,jl];erw[bM (j7 h.dep l)]
theorem dy.refl{n:Nat}{d:ag}(h:dy n d):PyData.eqv d d=true:=eqv_refl d h.lay
variable {p:Addr}{n m:Nat}{v:V}{vs:List V}{d:ag}{ds es:List ag}
end
section
variable {X:Cx}
end
end _L
namespace _H
open PySem PySem.Spec PyProof.Rows
section
variable {prog:af}{w:World}{A:ah}{E:Value->ae->Prop}{s:ae}
end
end _H
namespace _L
open PySem PySem.Spec PyProof.Rows
section
variable {X:Cx}
end
end _L
namespace _L
theorem cL{α:Type}{xs:List α}{i:Int}{v:α}(h0:0<=i)(h:xs[i.toNat]? =some v):fb xs i=some v:=by have hl:i.toNat<xs.length:=(dZ.mp h).1;unfold fb kx;rw[bu h0,bu au];erw[h]
end _L
namespace _L
open PySem PySem.Spec PyProof.Rows
theorem EB(n:Nat)(h:n<=1000):n<=sizeLine:=j7 h ay
section
variable {X:Cx}{p pos pos':Pos}{a b e:Expr}{es:List Expr}{ta tb te:TE}{t:TA}{x:Str}
theorem px(K:aa)(ha:PE X a ta)(hb:PE X b tb)(hK:autoParam (X.K=K) r8_._auto_1)(hp:autoParam (Vm b) d8_._auto_1):PE X (.Subscript a b pos) (xY (λx y H Q=>Hc K x y H Q\/GZ K x y H Q) ta tb):=Hr (ixK K hK) ha hb hp
theorem nR(K:aa)(B:bK X.mg)(ha:PA X (e::es) t)(hK:autoParam (X.K=K) r8_._auto_1)(hg:autoParam (Gl X "isinstance") r8_._auto_1)(he:autoParam (starEach (e::es) X.env=(false,eval e X.env)::starEach es X.env) r8_._auto_1)(eJ:autoParam ((backTo pos (starEach es X.env)).any (·.1)=false) r8_._auto_1):PE X (.Call (.Name "isinstance" p) (e::es) [] pos) (AO (λxs H Q=>He K xs H Q\/Hd K xs H Q) t):=fK (a4C K hK) hg (B.at "isinstance") PyProof.Rows.boot_isinstance ha ay ay he eJ
theorem dS(K:aa)(B:bK X.mg)(ha:PA X (e::es) t)(hK:autoParam (X.K=K) r8_._auto_1)(hg:autoParam (Gl X "len") r8_._auto_1)(he:autoParam (starEach (e::es) X.env=(false,eval e X.env)::starEach es X.env) r8_._auto_1)(eJ:autoParam ((backTo pos (starEach es X.env)).any (·.1)=false) r8_._auto_1):PE X (.Call (.Name "len" p) (e::es) [] pos) (AO (λxs H Q=>∃p ys,xs=[.ref p]/\(aE K H p ys\/bc K H p ys)/\Q (.int ys.length) H) t):=fK (a49 K hK) hg (B.at "len") PySem.boot_len ha ay ay he eJ
theorem pS(i:Nat)(hN:X.N.Nodup)(he:PE X e te)(hi:autoParam (X.N[i]? =some x) r8_._auto_1)(hx:autoParam (Loc X.env.scope x) d8_._auto_1)(hs:autoParam (swapsWith e (some (.Name x pos')) pos.line X.env=pure false) r8_._auto_1)(hf:autoParam (X.fn x=true\/X.env.scope.names.lookup x=some .local) d8_._auto_1):PS X (.Assign [.Name x pos'] e pos) (AR te (gc i)):=ZK hN hi hx he hs hf
theorem bj(i:Nat)(hN:X.N.Nodup)(hi:autoParam (X.N[i]? =some x) r8_._auto_1)(hx:autoParam (Loc X.env.scope x) d8_._auto_1)(hf:autoParam (X.fn x=true\/X.env.scope.names.lookup x=some .local) d8_._auto_1):PG X (.Name x pos) (gc i):=a01 hN hi hx hf
theorem jb (a:Str):[a].Nodup:=by simp
theorem fZ{a b:Str}(h:(a==b)=false):[a,b].Nodup:=by
 have:a≠b:=λz=>by rw[z,Lq]at h;cases h
 simp[this]
theorem df{n:Nat}(h:Nat.ble n 1000=true):n<=sizeLine:=EB n (LJ h)
end
def GV(mg:bN)(x:Str)(v:V):Prop:=∃u,mg x=some u/\RelV v u
def GT(K:aa)(mg:bN)(x:Str)(vs:List V):Prop:=∃a,GV mg x (.ref a)/\∀H,bc K H a vs
theorem fX{X:Cx}{x:Str}{v:V}{pos:Pos}(hg:Gl X x)(h:GV X.mg x v)(hd:autoParam ((x==("__debug__":Str))=false) q8_._auto_1):PE X (.Name x pos) (tC v):=by let(u,hm,r):=h;erw[a09 hg hm r hd]
section
variable {K:aa} {mg:bN} {h:Heap}
theorem lV{x:Str}{i:Int}{t:Tok}(X:K.In h)(G:h.Ns mainGlobals mg)(a:PySem.W.nsIn K mainGlobals x=some (some (.int i t))):GV mg x (.int i):=#[_,xE X G a,t,Z]
theorem JM{x:Str}{vs:List V}{b:Addr}{its:Array Value}{n:Nat}{od:Option Addr}{fO:Array (Option Value)}(X:K.In h)(G:h.Ns mainGlobals mg)(a:PySem.W.nsIn K mainGlobals x=some (some (.ref b))) (l:K.lookup b=some #[.type "tuple",od,.seq its n,fO])(hz:its.size<=sizeLine)(r:Vals vs its.toList):GT K mg x vs:=#[b,#[_,xE X G a,Z],λH=>.inr #[_,its,n,l,Z,Z,hz,r]]
end
section
variable {X:Cx}
theorem a2P(K:aa)(h:X.K=K):cV X (compareOp .NotIn) (Q8 K true):=by subst h;erw[a0v]
end
theorem UC{J:It}{xs:List V}{bs:List Bool}{te:TE}{Q:VK}{D:Addr}{H H0:Hp}(rest:St)(nw:Nw H H0 D (.lst []))(hl:xs.length=bs.length)(hz:xs.length<=1000) (go:∀i x H2,xs[i]? =some x->aF H H2->J.go i H2/\∀y H3,J.lB i H2 y H3->H3=H2/\y=x)(stop:∀H2,aF H H2->J.stop xs.length H2) (hs:∀(i:Nat)(x:V)(b:Bool)(H2:Hp)(Q':VK),xs[i]? =some x->bs[i]? =some b->aF H H2->(∀H3,aF H2 H3->Q' (.bl b) H3)->te (some x::rest) H2 Q') (hq:∀H',aF H H'->H' D=some (.lst (bs.map V.bl))->Q (.ref D) H'):kF J (gc 0) jL te Q D (none::rest) H0:=by
 have hD:=nw.no;erw[uI xs.length (λi O H2=>aF H H2/\H2 D=some (.lst ((bs.take i).map V.bl))/\∃v,O=v::rest) ?_ ?_ ?_]
 ·erw[nw.same,nw.at',none,Z]
 ·rintro i O H2 hi ⟨s2,d2,v,rfl⟩
  have Cp:i<bs.length:=by rw[<-hl];erw[hi]
  have ex:=cB hi;have eb:=cB Cp;let(g1,g2):=go i _ H2 ex s2;erw[g1,λy H3 hy=>?_];let(rfl,rfl):=g2 y H3 hy;erw[vm ?_];erw[hs i _ _ _ _ ex eb s2 λH4 s4=>?_];erw[_,s4 _ _ d2,?_,xs.length-(i+1),au,Z,au,λb o e=>?_,?_,_,Z]
  ·rw[bW,ve]
   have:(1000:Nat)<sizeLine:=by decide
   lia
  ·rw[aU (iL e hD)];erw[s4 b o (s2 b o e)]
  ·rw[bQ,sD,eb,oK];rfl
 ·rintro O H2 ⟨s2,d2,v,rfl⟩
  erw[stop H2 s2,hq H2 s2 ?_];rw[d2,hl,Ag]
theorem Dj{K:aa}{a:Addr}{xs:List V}{bs:List Bool}{te:TE}{Q:VK}{D:Addr}{H H0:Hp}(rest:St)(hx:bc K H a xs)(nw:Nw H H0 D (.lst []))(hl:xs.length=bs.length)(hz:xs.length<=1000) (hs:∀(i:Nat)(x:V)(b:Bool)(H2:Hp)(Q':VK),xs[i]? =some x->bs[i]? =some b->aF H H2->(∀H3,aF H2 H3->Q' (.bl b) H3)->te (some x::rest) H2 Q') (hq:∀H',aF H H'->H' D=some (.lst (bs.map V.bl))->Q (.ref D) H'):kF (A1 K a) (gc 0) jL te Q D (none::rest) H0:=UC rest nw hl hz (λi x H2 e s=>#[#[xs,x,hx.go s,e],λy H3 #[e3,y3]=>#[e3,by have:=y3 _ (hx.go s);rw[e]at this;exact(dQ this).symm]]) (λH2 s=>#[xs,hx.go s,bV _]) hs hq
theorem BR{ds:List ag}{f:ag->Bool}{i:Nat}{b:Bool}(h:(ds.map f)[i]? =some b):∃d,ds[i]? =some d/\f d=b:=by rw[cj]at h;cases e:ds[i]? with |none=>rw[e]at h;cases h |some d=>rw[e]at h;erw[d,Z,dQ h]
theorem all_map{ds:List ag}{f:ag->Bool}:(ds.map f).all id=ds.all f:=by rw[List.all_map];rfl
section
variable {X:Cx}
inductive adk(K:aa)(x:V)(y:V)(H:Hp)(Q:VK):Prop |mk (a:_)(b:_)(xs:_)(ys:_)(h0:x= .ref a)(h1:y= .ref b)(h2:aE K H a xs)(h3:aE K H b ys)(h4:xs.length+ys.length<=sizeLine)(h5:∀p H',Nw H H' p (.lst (xs++ys))->Q (.ref p) H')
def ZE(K:aa):R2:=λx y H Q=>adk K x y H Q
theorem Dl(K:aa)(hK:X.K=K):cV X (binaryOp .Add) (ZE K):=by
 subst hK;intro ak s O H x y v u Q I rx ry h;let(a,b,xs,ys,rfl,rfl,ha,hb,hz,q):=h;cases rx;cases ry;let(its,r1,p1,_):=I.list ha;let(kS,r2,p2,_):=I.list hb;let((cls,dd,data,sl),n,ho,hc,hdd,hd):=id p1;let((UG,x9,data2,sl2),n2,lR,gI,aeA,hd2):=id p2;simp only at hc hd gI hd2;subst hc hd gI hd2;have e:its.toArray++kS.toArray=(its++kS).toArray:=by simp
 erw[concat_meets #[_,ho,Z] #[_,lR,Z] noFill_list_add seq_list_add PySem.F.slot_list_add PySem.F.entry_list_add (PySem.F.args_list_add_2 _ _) (list_addW a b its.toArray kS.toArray n n2 dd x9 sl sl2 (by rw[eO,eO,<-r1.length,<-r2.length];erw[hz])) #[ho,lR,?_]];rw[e];have nw:Nw H (upd H s.heap.objs.size (.lst (xs++ys))) s.heap.objs.size (.lst (xs++ys)):=.of (I.bA.fresh (bV _));erw[.ref s.heap.objs.size,_,I.laid (t':=s.toks) (o:=.lst (xs++ys)) (λb ob q=>cx _ q) (bV _) ?_,Z,q _ _ nw];erw[by rw[fH];erw[hz],_,0,r1.append r2,eP _ Z]
open Classical in
noncomputable def uG(h:Heap)(d:ag)(w:Value):Bool:=if q:∃e as,Reads h w e as then PyData.eqv q.choose d else false
theorem a9u{h:Heap}{d e:ag}{w:Value}{as:List Addr}(r:Reads h w e as):uG h d w=PyData.eqv e d:=by have q:∃e as,Reads h w e as:=#[e,as,r];unfold uG;rw[dif_pos q];let(as',r'):=q.choose_spec;rw[(Reads.unique r' e as r).1]
theorem TN{ak:List (Addr×Obj)}{s:ae}{O:St}{H:Hp}(I:Inv X ak O H s)(hu:X.A.units+65<cLine){x:V}{u:Value}{d:ag}(rx:RelV x u)(hd:RD X.K H x d)(sd:SeqAt.shaped d=true): ∀{xs:List V}{us:List Value}{ds:List ag},Vals xs us->aP X.K H xs ds->(∀e∈ds,SeqAt.shaped e=true)->(∀w∈us,SeqAt.EqAt X.A.in1 s w u (uG s.heap d w))/\us.any (uG s.heap d)=ds.any λe=>PyData.eqv e d |xs,us,[],rv,h,_=>by cases h.nil_inv;cases rv;erw[λ_ h=>(bZ h).elim,Z] |xs,us,e::ds,rv,h,se=>by let(y,ys,rfl,h1,h2):=h.cons_inv;cases rv with |cons ra rb=>
 rename_i w ws;let(as,q1):=RD.reads I e ra h1;let(bs,q2):=RD.reads I d rx hd;have key:SeqAt.EqAt X.A.in1 s w u (PyData.eqv e d):=SeqAt.eqAt_reads e d X.A.in1 s w u as bs q1 q2 (SeqAt.canLay_of_shaped (se e (.head _))) (SeqAt.canLay_of_shaped sd) (SeqAt.room_of_shaped (se e (.head _)) (by show X.A.units+1+64<cLine;omega));let(k1,k2):=TN I hu rx hd sd rb h2 (λe' he=>se e' (.tail _ he));have ew:uG s.heap d w=PyData.eqv e d:=a9u q1;erw[λz hz=>?_,?_]
 ·rcases bJ.mp hz with rfl|hz
  ·rw[ew];erw[key]
  ·erw[k1 z hz]
 ·rw[qp,qp,ew,k2]
end
end _L
namespace _L
theorem cF.Wy{k:Nat}{A:PySem.Around}(r:cF k A):A.units+65<PySem.cLine:=by have:=r.un;lia
end _L
namespace _L
open PySem PySem.Spec PyProof.Rows
def m5(b:Bool)(h:Heap)(it l:Addr)(k:Nat):Prop:=match b with|true=>h.IsListIter it l k|false=>h.IsTupleIter it l k
def jg(b:Bool)(h:Heap)(l:Addr)(xs:Array Value):Prop:=match b with|true=>h.IsList l xs|false=>h.IsTuple l xs
def zM(b:Bool):String:=match b with|true=>"list_iterator"|false=>"tuple_iterator"
theorem m5.to{b:Bool}{h g:Heap}{it l:Addr}{k:Nat}(x:m5 b h it l k)(e:∀o,h.get? it=some o->g.get? it=some o):m5 b g it l k:=by cases b<;>(let(o,ho,r):=x;erw[o,e o ho,r])
theorem jg.to{b:Bool}{h g:Heap}{l:Addr}{xs:Array Value}(x:jg b h l xs)(e:∀o,h.get? l=some o->g.get? l=some o):jg b g l xs:=by cases b<;>(let(o,ho,r):=x;erw[o,e o ho,r])
theorem m5.ob{b:Bool}{h:Heap}{it l:Addr}{k:Nat}(x:m5 b h it l k):∃o,h.get? it=some o/\o.cls= .type (zM b)/\∀v,o.data≠ .cell v:=by cases b<;>(let(o,ho,c,d):=x;erw[o,ho,c,λv z=>by rw[d]at z;cases z])
section
variable {prog:af}{w:World}{A:ah}{E:Value->ae->Prop}{s:ae}
theorem QR{b:Bool}{l:Addr}{xs:Array Value}{Q:Value->ae->Prop}(x:jg b s.heap l xs) (q:Q (.ref s.heap.objs.size) {s with heap:=s.heap.push {cls:=.type (zM b),data:=.fields (List.toArray [.ref l,.int 0 0])}}):wpAny (model prog w) A (pyIter (.ref l)) Q E s:=by
 cases b
 ·erw[wpAny_pyIter_tuple x q]
 ·erw[xy x q]
theorem a2v{it t:Addr}{k:Nat}{ts:Array Value}{x:Value}{Q:Value->ae->Prop}(hi:s.heap.IsTupleIter it t k)(ht:s.heap.IsTuple t ts)(hx:ts[k]? =some x) (q:∀g,g.IsTupleIter it t (k+1)->Heap.SameBut it s.heap g->Q x {s with heap:=g}):wpAny (model prog w) A (Builtin.SmallTypes.nextOf (.ref it)) Q E s:=by let(oi,lQ,ci,di):=id hi;let(ot,Jb,_,nt,dt):=ht;unfold Builtin.SmallTypes.nextOf;erw[aL (A8 (name:=Str.ofString "__next__") hi.typeIs LC (A7 LC hi.typeIs adK ?_ (adL _)))];show wpAny _ _ (field (.ref it) 0>>=_) _ _ s;erw[aL (iE lQ di (x:=.ref t) Z ?_)];show wpAny _ _ (if(Value.ref t==Value.none)=true then _ else _) _ _ s;rw[bo (show¬((Value.ref t==Value.none)=true)from dR)];show wpAny _ _ (field (.ref it) 1>>=_) _ _ s;erw[aL (iE lQ di (x:=.int k 0) Z ?_)];show wpAny _ _ (seqItems? (.ref t)>>=_) _ _ s;erw[aL (rZ Jb dt ?_)];simp only[LO,hx];erw[aL (xu lQ di (by simp) (cn #[x,Z,cn (q _ ?_ (DT ..))]))];erw[_,DS _ lQ (LG (Ae di _)),(Obj.cls_mapFields ..).trans ci,by rw[Ae di];simp[rawInt]]
theorem a9D{it t:Addr}{k:Nat}{ts:Array Value}{Q:Value->ae->Prop}(hh:A.handled=none)(hi:s.heap.IsTupleIter it t k)(ht:s.heap.IsTuple t ts)(hx:ts[k]? =none) (q:∀g e,Heap.ExtBut it s.heap g->(∃o,g.get? e=some o/\o.cls= .type "StopIteration")->E (.ref e) {s with heap:=g}):wpAny (model prog w) A (Builtin.SmallTypes.nextOf (.ref it)) Q E s:=by
 let(oi,lQ,ci,di):=id hi;let(ot,Jb,_,nt,dt):=ht;unfold Builtin.SmallTypes.nextOf;erw[aL (A8 (name:=Str.ofString "__next__") hi.typeIs LC (A7 LC hi.typeIs adK ?_ (adL _)))];show wpAny _ _ (field (.ref it) 0>>=_) _ _ s;erw[aL (iE lQ di (x:=.ref t) Z ?_)];show wpAny _ _ (if(Value.ref t==Value.none)=true then _ else _) _ _ s;rw[bo (show¬((Value.ref t==Value.none)=true)from dR)];show wpAny _ _ (field (.ref it) 1>>=_) _ _ s;erw[aL (iE lQ di (x:=.int k 0) Z ?_)];show wpAny _ _ (seqItems? (.ref t)>>=_) _ _ s;erw[aL (rZ Jb dt ?_)];simp only[LO,hx];erw[aL (A6 (aL (xu lQ di (by simp) ?_)))];show wpAny _ _ (newExc (.type "StopIteration") []>>=_) _ _ _;erw[aL ?_];simp only[newExc,newTuple];erw[aL (nH ?_ (by size_fits))];erw[aL (m:=firstArgMember _ _) (xB (a:=Value.none) (by first|rfl|(simp only[firstArgMember];rfl)) ?_)];erw[nH ?_ (by size_fits)];simp only[raiseNew];erw[aL (wpAny_handled ?_)]
 first|rw[show A.in1.handled=none from hh]|rw[hh]
 erw[aL (cn (wpAny_throw (q _ _ (((DT ..).extBut.push _).push _) #[_,eP _ Z,Z])))]
theorem HS{b:Bool}{it l:Addr}{k:Nat}{xs:Array Value}{x:Value}{Q:Value->ae->Prop}(hi:m5 b s.heap it l k)(hl:jg b s.heap l xs)(hx:xs[k]? =some x) (q:∀g,m5 b g it l (k+1)->Heap.SameBut it s.heap g->Q x {s with heap:=g}):wpAny (model prog w) A (Builtin.SmallTypes.nextOf (.ref it)) Q E s:=by
 cases b
 ·erw[a2v hi hl hx q]
 ·erw[wpAny_nextOf_list_item hi hl hx q]
theorem TZ{b:Bool}{it l:Addr}{k:Nat}{xs:Array Value}{Q:Value->ae->Prop}(hh:A.handled=none)(hi:m5 b s.heap it l k)(hl:jg b s.heap l xs)(hx:xs[k]? =none) (q:∀g e,Heap.ExtBut it s.heap g->(∃o,g.get? e=some o/\o.cls= .type "StopIteration")->E (.ref e) {s with heap:=g}):wpAny (model prog w) A (Builtin.SmallTypes.nextOf (.ref it)) Q E s:=by
 cases b
 ·erw[a9D hh hi hl hx q]
 ·erw[wpAny_nextOf_list_end hh hi hl hx q]
structure Zp(b1 b2:Bool)(h:Heap)(z TI TO i1 i2 l1 l2:Addr)(f0:Value)(k:Nat):Prop where
 zz:IsZip h z TI TO f0
 ti:IsPair h TI (.ref i1) (.ref i2)
 to:∃a b,IsPair h TO a b
 n1:m5 b1 h i1 l1 k
 n2:m5 b2 h i2 l2 k
theorem Qr{z TI TO:Addr}{Q:Bool->ae->Prop}(hz:IsZip s.heap z TI TO .none)(q:Q true s):wpAny (model prog w) A (Builtin.SmallTypes.ownedTupleIsFree (.ref z)) Q E s:=by unfold Builtin.SmallTypes.ownedTupleIsFree;erw[aL (iE hz Z (x:=.none) Z (cn q))]
theorem W4{b1 b2:Bool}{z TI TO i1 i2 l1 l2:Addr}{k:Nat}{xs ys:Array Value}{x y:Value}{Q:Value->ae->Prop}(D:ZipApart z TI TO i1 i2 l1 l2)(af0:Zp b1 b2 s.heap z TI TO i1 i2 l1 l2 .none k) (mQ:jg b1 s.heap l1 xs)(qV:jg b2 s.heap l2 ys)(hx:xs[k]? =some x)(hy:ys[k]? =some y) (q:∀g,Zp b1 b2 g z TI TO i1 i2 l1 l2 (rawInt s.heap.objs.size) (k+1)->IsPair g s.heap.objs.size x y->(∀c o,c≠z->c≠TO->c≠i1->c≠i2->s.heap.get? c=some o->g.get? c=some o)->Q (.ref s.heap.objs.size) {s with heap:=g}): wpAny (model prog w) A (Builtin.«zip.__next__» #[[.ref z],[]]) (λr s'=>∃v,r= .done (.ret v)/\Q v s') E s:=by
 let(hz,lT,(a,b,mW),h1,h2):=af0;show wpAny _ _ (field (.ref z) 2>>=_) _ _ _;erw[aL (iE hz Z (x:=.bool false) Z ?_)];show wpAny _ _ (field (.ref z) 3>>=_) _ _ _;erw[aL (iE hz Z (x:=.ref TI) Z (aL (rZ lT Z ?_)))];show wpAny _ _ (Builtin.SmallTypes.ownedTupleIsFree (.ref z)>>=_) _ _ _;erw[aL (Qr hz ?_)];simp only[if_true];erw[aL (A6 (aL (iE hz Z (x:=.ref TO) Z (aL (A5 hz (by simp) λg1 z1 e1=>?_)))))];replace z1:IsZip g1 z TI TO .ellipsis:=z1;erw[aL ?_];simp only[List.zipIdx_cons,List.zipIdx_nil,LM,List.forIn_nil];erw[aL (aL (wpAny_onRaise ?_))];show wpAny _ _ (Builtin.SmallTypes.nextOf (.ref i1)>>=_) _ _ _;erw[aL (HS (h1.to λo e=>e1.extBut _ _ D.i1z e) (mQ.to λo e=>e1.extBut _ _ D.l1z e) hx λg2 n1 e2=>cn ?_)];have t2:IsPair g2 TO a b:=e2.extBut _ _ D.TOi1 (e1.extBut _ _ D.TOz mW);erw[aL (rZ t2 Z (aL (Vu t2 λg3 t3 e3=>?_)))];replace t3:IsPair g3 TO x b:=t3;erw[aL (wpAny_letGo (cn ?_))];erw[aL (aL (wpAny_onRaise ?_))];show wpAny _ _ (Builtin.SmallTypes.nextOf (.ref i2)>>=_) _ _ _;erw[aL (HS (h2.to λo e=>e3.extBut _ _ D.TOi2.symm (e2.extBut _ _ D.i12.symm (e1.extBut _ _ D.i2z e))) (qV.to λo e=>e3.extBut _ _ D.l2TO (e2.extBut _ _ D.l2i1 (e1.extBut _ _ D.l2z e))) hy λg4 n2 e4=>cn ?_)];have t4:IsPair g4 TO x b:=e4.extBut _ _ D.TOi2 t3;erw[aL (rZ t4 Z (aL (Vu t4 λg5 t5 e5=>?_)))];replace t5:IsPair g5 TO x y:=t5;erw[aL (wpAny_letGo (cn (cn ?_)))];erw[aL (rZ t5 Z (aL (wpAny_newTuple ?_)))];have sz:g5.objs.size=s.heap.objs.size:=by rw[e5.1,e4.1,e3.1,e2.1,e1.1]
 have z5:IsZip g5 z TI TO .ellipsis:=e5.extBut _ _ D.TOz.symm (e4.extBut _ _ D.i2z.symm (e3.extBut _ _ D.TOz.symm (e2.extBut _ _ D.i1z.symm z1)));have kp:∀c o,c≠z->c≠TO->c≠i1->c≠i2->s.heap.get? c=some o->g5.get? c=some o:=λc o c1 c2 c3 c4 e=>e5.extBut _ _ c2 (e4.extBut _ _ c4 (e3.extBut _ _ c2 (e2.extBut _ _ c3 (e1.extBut _ _ c1 e))));have m1:m5 b1 g5 i1 l1 (k+1):=n1.to λo e=>e5.extBut _ _ D.TOi1.symm (e4.extBut _ _ D.i12 (e3.extBut _ _ D.TOi1.symm e));have m2:m5 b2 g5 i2 l2 (k+1):=n2.to λo e=>e5.extBut _ _ D.TOi2.symm e;have DV:z<g5.objs.size:=ck z5;show wpAny _ _ (Builtin.SmallTypes.ownedTupleHandOut (.ref z) (.ref g5.objs.size)>>=_) _ _ _;erw[aL ?_];unfold Builtin.SmallTypes.ownedTupleHandOut;have z6:IsZip (g5.push {cls:=.type "tuple",data:=.seq (List.toArray [x,y])}) z TI TO .ellipsis:=cx _ z5;erw[aL (A5 z6 (by simp) λg7 z7 e7=>?_)];replace z7:IsZip g7 z TI TO (rawInt g5.objs.size):=z7;erw[A5 z7 (by simp) λg8 z8 e8=>?_];replace z8:IsZip g8 z TI TO (rawInt g5.objs.size):=z8;have up:∀c o,c≠z->g5.get? c=some o->g8.get? c=some o:=λc o c1 e=>e8.extBut _ _ c1 (e7.extBut _ _ c1 (cx _ e));have t8:IsPair g8 g5.objs.size x y:=e8.extBut _ _ (LH DV) (e7.extBut _ _ (LH DV) (eP _ Z));rw[sz]at z8 t8;erw[cn #[_,Z,?_]];show Q (.ref g5.objs.size) _;rw[sz];erw[q g8 #[z8,up _ _ D.TIz (kp _ _ D.TIz D.TITO D.TIi1 D.TIi2 lT),#[_,_,up _ _ D.TOz t5],m1.to λo e=>up _ o D.i1z e,m2.to λo e=>up _ o D.i2z e] t8 λc o c1 c2 c3 c4 e=>up c o c1 (kp c o c1 c2 c3 c4 e)]
theorem W5{b1 b2:Bool}{z TI TO i1 i2 l1 l2:Addr}{k:Nat}{xs ys:Array Value}{Q:Fin->ae->Prop}(hh:A.handled=none)(D:ZipApart z TI TO i1 i2 l1 l2)(af0:Zp b1 b2 s.heap z TI TO i1 i2 l1 l2 .none k) (mQ:jg b1 s.heap l1 xs)(qV:jg b2 s.heap l2 ys)(mU:xs[k]? =none\/ys[k]? =none) (q:∀g e,(∀c o,c≠z->c≠TO->c≠i1->c≠i2->s.heap.get? c=some o->g.get? c=some o)->(∃o,g.get? e=some o/\o.cls= .type "StopIteration")->E (.ref e) {s with heap:=g}): wpAny (model prog w) A (Builtin.«zip.__next__» #[[.ref z],[]]) Q E s:=by let(hz,lT,(a,b,mW),h1,h2):=af0;show wpAny _ _ (field (.ref z) 2>>=_) _ _ _;erw[aL (iE hz Z (x:=.bool false) Z ?_)];show wpAny _ _ (field (.ref z) 3>>=_) _ _ _;erw[aL (iE hz Z (x:=.ref TI) Z (aL (rZ lT Z ?_)))];show wpAny _ _ (Builtin.SmallTypes.ownedTupleIsFree (.ref z)>>=_) _ _ _;erw[aL (Qr hz ?_)];simp only[if_true];erw[aL (A6 (aL (iE hz Z (x:=.ref TO) Z (aL (A5 hz (by simp) λg1 z1 e1=>?_)))))];replace z1:IsZip g1 z TI TO .ellipsis:=z1;erw[aL ?_];simp only[List.zipIdx_cons,List.zipIdx_nil,LM,List.forIn_nil];erw[aL (aL (wpAny_onRaise ?_))];show wpAny _ _ (Builtin.SmallTypes.nextOf (.ref i1)>>=_) _ _ _;have j1:=h1.to λo e=>e1.extBut _ _ D.i1z e;have k1:=mQ.to λo e=>e1.extBut _ _ D.l1z e;cases hx:xs[k]? with
 |none=>
  erw[aL (TZ hh j1 k1 hx λg2 er e2 #[oe,oo,zm]=>?_)];have z2:IsZip g2 z TI TO .ellipsis:=e2 _ _ D.i1z.symm z1;have nz:er≠z:=λv=>by subst v;rw[z2]at oo;cases oo;simp at zm
  erw[A5 z2 (by simp) λg3 _ e3=>q g3 er (λc o c1 _ c3 _ v=>e3.extBut _ _ c1 (e2 _ _ c3 (e1.extBut _ _ c1 v))) #[oe,e3.extBut _ _ nz oo,zm]] |some x=>
  have hy:ys[k]? =none:=by rcases mU with h|h;rw[hx]at h;cases h;erw[h]
  erw[aL (HS j1 k1 hx λg2 n1 e2=>cn ?_)];have t2:IsPair g2 TO a b:=e2.extBut _ _ D.TOi1 (e1.extBut _ _ D.TOz mW);erw[aL (rZ t2 Z (aL (Vu t2 λg3 t3 e3=>?_)))];erw[aL (wpAny_letGo (cn ?_))];erw[aL (aL (wpAny_onRaise ?_))];show wpAny _ _ (Builtin.SmallTypes.nextOf (.ref i2)>>=_) _ _ _;erw[aL (TZ hh (h2.to λo e=>e3.extBut _ _ D.TOi2.symm (e2.extBut _ _ D.i12.symm (e1.extBut _ _ D.i2z e))) (qV.to λo e=>e3.extBut _ _ D.l2TO (e2.extBut _ _ D.l2i1 (e1.extBut _ _ D.l2z e))) hy λg4 er e4 #[oe,oo,zm]=>?_)];have z4:IsZip g4 z TI TO .ellipsis:=e4 _ _ D.i2z.symm (e3.extBut _ _ D.TOz.symm (e2.extBut _ _ D.i1z.symm z1));have nz:er≠z:=λv=>by subst v;rw[z4]at oo;cases oo;simp at zm
  erw[A5 z4 (by simp) λg5 _ e5=>q g5 er (λc o c1 c2 c3 c4 v=>e5.extBut _ _ c1 (e4 _ _ c4 (e3.extBut _ _ c2 (e2.extBut _ _ c3 (e1.extBut _ _ c1 v))))) #[oe,e5.extBut _ _ nz oo,zm]]
abbrev Av(b1:Bool)(h:Heap)(l1:Addr):Heap:=h.push {cls:=.type (zM b1),data:=.fields (List.toArray [.ref l1,.int 0 0])}
abbrev Au(b1 b2:Bool)(h:Heap)(l1 l2:Addr):Heap:=(Av b1 h l1).push {cls:=.type (zM b2),data:=.fields (List.toArray [.ref l2,.int 0 0])}
abbrev As(b1 b2:Bool)(h:Heap)(l1 l2:Addr):Heap:=(Au b1 b2 h l1 l2).push {cls:=.type "tuple",data:=.seq (List.toArray [.ref h.objs.size,.ref (Av b1 h l1).objs.size])}
abbrev Aq(b1 b2:Bool)(h:Heap)(l1 l2:Addr):Heap:=(As b1 b2 h l1 l2).push {cls:=.type "tuple",data:=.seq (List.toArray [.none,.none])}
abbrev vk(b1 b2:Bool)(h:Heap)(l1 l2:Addr):Heap:=(Aq b1 b2 h l1 l2).push {cls:=.type "zip",data:=.fields (List.toArray [.none,.bool false,.bool false,.ref (Au b1 b2 h l1 l2).objs.size,.ref (As b1 b2 h l1 l2).objs.size])}
theorem W3(b1 b2:Bool)(l1 l2:Addr)(xs ys:Array Value):Meets (Builtin.«zip.__new__» #[[.type "zip",.ref l1,.ref l2],[]]) (λ_ R s=>jg b1 s.heap l1 xs/\jg b2 s.heap l2 ys/\R (.ok (.ret (.ref (Aq b1 b2 s.heap l1 l2).objs.size))) {s with heap:=vk b1 b2 s.heap l1 l2}):=.of_wp λprog w A R s h=>by
 let(hp,gg,d,tk,os):=s;let(mQ,qV,h):=h;have Sx:=sub_zip;have hL1:jg b1 (Shared.heap #[hp,gg,d,tk,os]) l1 xs:=mQ;have JG:jg b2 (Shared.heap #[hp.push {cls:=.type (zM b1),data:=.fields (List.toArray [.ref l1,.int 0 0])},gg,d,tk,os]) l2 ys:=qV.to λo e=>cx _ e
 wp_walk using QR hL1,QR JG;erw[_,Z,h]
theorem W6{b1 b2:Bool}{l1 l2:Addr}{xs ys:Array Value}{Q:Value->ae->Prop}(mQ:jg b1 s.heap l1 xs)(qV:jg b2 s.heap l2 ys) (q:∀g,Zp b1 b2 g (s.heap.objs.size+4) (s.heap.objs.size+2) (s.heap.objs.size+3) s.heap.objs.size (s.heap.objs.size+1) l1 l2 .none 0->(∀c o,s.heap.get? c=some o->g.get? c=some o)->Q (.ref (s.heap.objs.size+4)) {s with heap:=g}): wpAny (model prog w) A (call (.type "zip") [.ref l1,.ref l2]) Q E s:=by
 erw[callType_new PySem.F.called_zip ay (PySem.F.typeCall_zip_2 _ _) (PySem.F.newCall_zip_2 _ _) (λobj=>PySem.F.args_object_init_3 obj _ _) PySem.F.entry_zip_new (W3 b1 b2 l1 l2 xs ys) #[mQ,qV,?_]];have z1:(Av b1 s.heap l1).objs.size=s.heap.objs.size+1:=vj ..;have z2:(Au b1 b2 s.heap l1 l2).objs.size=s.heap.objs.size+2:=by rw[vj,z1]
 have z3:(As b1 b2 s.heap l1 l2).objs.size=s.heap.objs.size+3:=by rw[vj,z2]
 have z4:(Aq b1 b2 s.heap l1 l2).objs.size=s.heap.objs.size+4:=by rw[vj,z3]
 have g5:(vk b1 b2 s.heap l1 l2).get? (Aq b1 b2 s.heap l1 l2).objs.size=some _:=eP _ rfl;have g4:(vk b1 b2 s.heap l1 l2).get? (As b1 b2 s.heap l1 l2).objs.size=some _:=cx _ (eP _ Z);have g3:(vk b1 b2 s.heap l1 l2).get? (Au b1 b2 s.heap l1 l2).objs.size=some _:=cx _ (cx _ (eP _ Z));have g2:(vk b1 b2 s.heap l1 l2).get? (Av b1 s.heap l1).objs.size=some _:=cx _ (cx _ (cx _ (eP _ Z)));have g1:(vk b1 b2 s.heap l1 l2).get? s.heap.objs.size=some _:=cx _ (cx _ (cx _ (cx _ (eP _ Z))));show _/\_;rw[z2,z3,z4]at g5;rw[z1,z2]at g3;rw[z3]at g4;rw[z1]at g2;rw[z4];erw[#[_,g5,Z],q _ #[g5,g3,#[_,_,g4],?_,?_] λc o e=>cx _ (cx _ (cx _ (cx _ (cx _ e))))]
 ·cases b1<;>erw[_,g1,rfl,rfl]
 ·cases b2<;>erw[_,g2,rfl,rfl]
end
section
variable {X:Cx}{ak:List (Addr×Obj)}{O:St}{H:Hp}{s:ae}{h':Heap}
theorem Inv.E6{t':Nat}{fp:List Addr}(I:Inv X ak O H s)(k:∀b o,b∉fp->s.heap.get? b=some o->h'.get? b=some o)(hf:∀b∈fp,lg X ak H b):Inv X ak O H {s with heap:=h',toks:=t'}:=by
 have yM:∀b u,H b=some u->b∉fp:=λb u e z=>by rw[(hf b z).1]at e;cases e
 have hL:X.env.locals∉fp:=λz=>(hf _ z).2.1 rfl;erw[I.step (g':=s.gens) (d':=s.drawn) (ch:=fp) (λb hb=>?_) (λb o _ _ hc e _=>k b o hc e) (λb o _ _ hc e _=>#[o.slots,k b o hc e]) (λ_ _ _ _ n=>n) (λb o hc e=>#[o,k b o hc e]) (λ_ _ e=>e) (λ_ _ _ e=>e) (λb ps e=>#[#[],by rw[e];simp]) (λm hm=>?_) (λb u e=>?_) I.bare]
 ·let(f0,f1,f2,f3,f4,f5):=hf b hb
  erw[f3,f1,f4,f5]
 ·let(o,es,ep,ho,r):=hm
  erw[o,es,ep,k _ o hL ho,r]
 ·refine(I.bA b u e).oQ (λc v hc q=>k c v ?_ q) (λ_ q=>q) λ_ _ q=>q
  rcases hc with z|z
  ·rw[z];erw[yM b u e]
  ·erw[yM c _ z]
end
def fS(b:Bool)(K:aa)(H:Hp)(a:Addr)(xs:List V):Prop:=match b with|true=>aE K H a xs|false=>bc K H a xs
theorem fS.get{X:Cx}{ak:List (Addr×Obj)}{O:St}{H:Hp}{s:ae}{b:Bool}{a:Addr}{xs:List V}(I:Inv X ak O H s)(h:fS b X.K H a xs):∃its:List Value,Vals xs its/\jg b s.heap a its.toArray:=by
 cases b
 ·let(its,r,p,_):=I.tuple h;erw[its,r,p]
 ·let(its,r,p,_):=I.list h;erw[its,r,p.isList]
theorem fS.inj{X:Cx}{ak:List (Addr×Obj)}{O:St}{H:Hp}{s:ae}{b:Bool}{a:Addr}{xs ys:List V}(I:Inv X ak O H s)(h:fS b X.K H a xs)(g:fS b X.K H a ys):xs=ys:=by
 cases b
 ·erw[I.M9 h g]
 ·erw[I.RK h g]
def rW(K:aa)(b1 b2:Bool)(l1 l2:Addr):It:=#[λi H=>∃xs ys x y,fS b1 K H l1 xs/\fS b2 K H l2 ys/\xs[i]? =some x/\ys[i]? =some y,λi H v H'=>∃T x y,v= .ref T/\(∀xs,fS b1 K H l1 xs->xs[i]? =some x)/\(∀ys,fS b2 K H l2 ys->ys[i]? =some y)/\Nw H H' T (.tup [x,y]),λi H=>∃xs ys,fS b1 K H l1 xs/\fS b2 K H l2 ys/\(xs.length<=i\/ys.length<=i)]
theorem WE{P:af}{w:World}{K:aa}{elts:List Expr}{kt:Nat}{pos:Pos}{b1 b2:Bool}{z TI TO i1 i2 l1 l2:Addr}(D:ZipApart z TI TO i1 i2 l1 l2): Turn P w K (.Tuple elts kt pos) (rW K b1 b2 l1 l2) [z,TI,TO,i1,i2] z (λi h=>Zp b1 b2 h z TI TO i1 i2 l1 l2 .none i) where
 mem:=by simp
 obj:=λi h st b hb=>by
  let(hz,lT,(a,c,mW),h1,h2):=st;simp only[bJ,bZ,cG]at hb;rcases hb with rfl|rfl|rfl|rfl|rfl
  ·erw[_,hz,λv e=>by cases e]
  ·erw[_,lT,λv e=>by cases e]
  ·erw[_,mW,λv e=>by cases e]
  ·let(o,e,_,n):=h1.ob;erw[o,e,n]
  ·let(o,e,_,n):=h2.ob;erw[o,e,n]
 keep:=λi h h' st k=>by let(hz,lT,(a,c,mW),h1,h2):=st;erw[k z (by simp) _ hz,k TI (by simp) _ lT,#[a,c,k TO (by simp) _ mW],h1.to λo e=>k i1 (by simp) o e,h2.to λo e=>k i2 (by simp) o e]
 item:=by
  intro X hP hw hK hc i ak s O H E I hf st hg;subst hP hw hK;let(xs,ys,x,y,q1,q2,e1,e2):=hg;let(S0,r1,p1):=q1.get I;let(kS,r2,p2):=q2.get I;let(u1,kT,tq):=r1.get e1;let(u2,hu2,yt):=r2.get e2;have hT:s.TypeIs (.ref z) "zip":=#[_,st.zz,Z];unfold pyNext;erw[aL (wpAny_attempt (A8 (name:=Str.ofString "__next__") hT LB (A7 LB hT PySem.F.entry_zip_next (W4 D st p1 p2 (x:=u1) (y:=u2) (by simpa using kT) (by simpa using hu2) λg zg tg kp=>cn ?_) (PySem.F.args_zip_next_1 _))))];erw[_,Z,?_];erw[wpAny_letOwnedTupleGo_zip zg.zz λg' W2 sb=>?_];have hs:=sb.extBut;have DV:z<s.heap.objs.size:=ck st.zz;have nw:Nw H (upd H s.heap.objs.size (.tup [x,y])) s.heap.objs.size (.tup [x,y]):=.of (I.bA.fresh (bV _));have I1:Inv X ak O (upd H s.heap.objs.size (.tup [x,y])) {s with heap:=s.heap.push {cls:=.type "tuple",data:=.seq (List.toArray [u1,u2])}}:=I.laid (t':=s.toks) (λb ob q=>cx _ q) (bV _) #[by show 2<=sizeLine;decide,[u1,u2],.cons tq (.cons yt .nil),#[_,eP _ Z,Z,_,Z]];have lts:∀b∈[z,TI,TO,i1,i2],b<s.heap.objs.size:=λb hb=>by
   simp only[bJ,bZ,cG]at hb;let(hz,lT,(a,c,mW),h1,h2):=st;rcases hb with rfl|rfl|rfl|rfl|rfl
   ·erw[ck hz]
   ·erw[ck lT]
   ·erw[ck mW]
   ·let(o,e,_):=h1.ob;erw[ck e]
   ·let(o,e,_):=h2.ob;erw[ck e]
  have hn:∀b∈[z,TI,TO,i1,i2],upd H s.heap.objs.size (.tup [x,y]) b=none:=λb hb=>by rw[aU (dY (lts b hb))];exact(hf b hb).1
  have I2:Inv X ak O (upd H s.heap.objs.size (.tup [x,y])) {s with heap:=g'}:=Inv.E6 (s:={s with heap:=s.heap.push {cls:=.type "tuple",data:=.seq (List.toArray [u1,u2])}}) (t':=s.toks) (fp:=[z,TI,TO,i1,i2]) I1 (λb o hb e=>by
   have e:(s.heap.push {cls:=.type "tuple",data:=.seq (List.toArray [u1,u2])}).get? b=some o:=e;have nz:b≠z:=λq=>hb (by simp[q]);rcases Heap.get?_push_cases e with⟨hbT,rfl⟩|e'
   ·subst hbT
    erw[hs _ _ nz tg]
   ·erw[hs _ _ nz (kp b o nz (λq=>hb (by simp[q])) (λq=>hb (by simp[q])) (λq=>hb (by simp[q])) e')]) (λb hb=>by let(f0,f1,f2,f3,f4,f5):=hf b hb;erw[hn b hb,f1,f2,f3,f4,f5]);erw[.ref s.heap.objs.size,_,I2,Z,#[s.heap.objs.size,x,y,Z,λzs hz=>?_,λzs hz=>?_,nw],?_,hn]
  ·rw[fS.inj I hz q1];erw[e1]
  ·rw[fS.inj I hz q2];erw[e2]
  ·let(_,lT,(a,c,mW),h1,h2):=zg
   erw[W2,hs _ _ D.TIz lT,#[a,c,hs _ _ D.TOz mW],h1.to λo e=>hs _ o D.i1z e,h2.to λo e=>hs _ o D.i2z e]
 done:=by intro X hP hw hK hc i ak s O H E I hf st hg;subst hP hw hK;let(xs,ys,q1,q2,mU):=hg;let(S0,r1,p1):=q1.get I;let(kS,r2,p2):=q2.get I;have hT:s.TypeIs (.ref z) "zip":=#[_,st.zz,Z];have l1:=r1.length;have l2:=r2.length;unfold pyNext;erw[aL (wpAny_attempt (A8 (name:=Str.ofString "__next__") hT LB (A7 LB hT PySem.F.entry_zip_next (W5 (I.ok.hd hc) D st p1 p2 (mU.imp (λh=>by simp;lia) λh=>by simp;lia) λg e kp he=>?_) (PySem.F.args_zip_next_1 _))))];let(o,ho,wO):=he;erw[aL (wpAny_isInstance (T:="StopIteration") (b:=true) #[o,ho,wO] isSubtype_stop (cn #[Z,?_]))];erw[I.E6 (t':=s.toks) (fp:=[z,TI,TO,i1,i2]) (λb o hb e=>kp b o (λq=>hb (by simp[q])) (λq=>hb (by simp[q])) (λq=>hb (by simp[q])) (λq=>hb (by simp[q])) e) hf]
 self:=λ_ _ _ _ _ st h=>wpAny_pyIter_zip st.zz h
inductive ado(K:aa)(b1:Bool)(b2:Bool)(R:It->Hp->Prop)(vs:List V)(H1:Hp):Prop |mk (l1:_)(l2:_)(h0:vs=[.ref l1,.ref l2])(h1:(∃xs,fS b1 K H1 l1 xs))(h2:(∃ys,fS b2 K H1 l2 ys))(h3:R (rW K b1 b2 l1 l2) H1)
def a4T(K:aa)(b1 b2:Bool)(ta:TA):TI:=λO H R=>ta O H λvs H1=>ado K b1 b2 R vs H1
theorem lE(K:aa){X:Cx}(hK:X.K=K)(b1 b2:Bool){elts:List Expr}{kt:Nat}{sM:Pos}{a b:Expr}{ta:TA}{p pos:Pos}(hg:Gl X "zip")(hm:X.mg "zip"=none)(ha:PA X [a,b] ta)(hs:autoParam (starEach [a,b] X.env=[(false,eval a X.env),(false,eval b X.env)]) r8_._auto_1)(mI:autoParam (starEach [b] X.env=[(false,eval b X.env)]) r8_._auto_1): PI X (.Tuple elts kt sM) (.Call (.Name "zip" p) [a,b] [] pos) (a4T K b1 b2 ta):=by
 subst hK;intro ak s O H R I h;erw[Call_ (uc I hg hm PyProof.Rows.boot_zip (DJ (ba (ha pos ak s O H _ I h) λus s1 #[vs,H1,I1,r1,q1]=>?_) (by rw[hs,mI]) (by rw[mI];rfl)))];let(l1,l2,e,(xs,h1),(ys,h2),q):=q1;subst e;let(u1,u2,rfl,tq,yt):=vals2 r1;cases(show u1=Value.ref l1 from tq);cases(show u2=Value.ref l2 from yt);let(S0,v1,p1):=h1.get I1;let(kS,v2,p2):=h2.get I1;have a1:l1<s1.heap.objs.size:=by cases b1<;>(let(o,e,_):=p1;erw[ck e])
 have a2:l2<s1.heap.objs.size:=by cases b2<;>(let(o,e,_):=p2;erw[ck e])
 erw[W6 p1 p2 λg zg kp=>wpAny_pyIter_zip zg.zz ?_];erw[_,_,_,_,H1,Z,I1.kept (t':=s1.toks) kp,WE (zipApart_new a1 a2),zg,λc hc=>?_,q];have hle:s1.heap.objs.size<=c:=by simp only[bJ,bZ,cG]at hc;rcases hc with rfl|rfl|rfl|rfl|rfl<;>first|erw[bV _]|erw[Nat.le_add_right _ _]
 erw[I1.uD hle (I1.bA.fresh hle)]
theorem fS.go{b:Bool}{K:aa}{H H':Hp}{a:Addr}{xs:List V}(s:aF H H')(h:fS b K H a xs):fS b K H' a xs:=by
 cases b
 ·erw[bc.go s h]
 ·erw[aE.go s h]
theorem aac{K:aa}{b1 b2:Bool}{l1 l2:Addr}{xs ys:List V}{bs:List Bool}{te:TE}{Q:VK}{D:Addr}{H H0:Hp}{n:Nat}(rest:St)(hn:n=2)(h1:fS b1 K H l1 xs)(h2:fS b2 K H l2 ys)(nw:Nw H H0 D (.lst [])) (hl:min xs.length ys.length=bs.length)(hz:bs.length<=1000) (hs:∀(i:Nat)(x y:V)(b:Bool)(H2:Hp)(Q':VK),xs[i]? =some x->ys[i]? =some y->bs[i]? =some b->aF H H2->(∀H3,aF H2 H3->Q' (.bl b) H3)->te (some x::some y::rest) H2 Q') (hq:∀H',aF H H'->H' D=some (.lst (bs.map V.bl))->Q (.ref D) H'):kF (rW K b1 b2 l1 l2) (zB K n (uA (gc 0) (uA (gc 1) CC))) jL te Q D (none::none::rest) H0:=by
 subst hn;have hD:=nw.no;erw[uI bs.length (λi O H2=>aF H H2/\H2 D=some (.lst ((bs.take i).map V.bl))/\∃v v',O=v::v'::rest) ?_ ?_ ?_]
 ·erw[nw.same,nw.at',none,none,Z]
 ·rintro i O H2 hi ⟨s2,d2,v,v',rfl⟩
  have hx:i<xs.length:=by lia
  have hy:i<ys.length:=by lia
  have ex:=cB hx;have ey:=cB hy;have eb:=cB hi;erw[#[xs,ys,_,_,h1.go s2,h2.go s2,ex,ey],λy' H3 ug=>?_];let(T,x0,y0,rfl,k1,k2,n3):=ug;have e1:=k1 _ (h1.go s2);have e2:=k2 _ (h2.go s2);rw[ex]at e1;rw[ey]at e2;cases e1;cases e2;erw[T,_,Z,bc.of n3.at',Z,_,_,Z,_,_,Z,Z,?_];erw[yes (bF ?_)];erw[hs i _ _ _ _ _ ex ey eb (s2.trans n3.same) λH4 s4=>?_];erw[_,s4 _ _ (n3.same _ _ d2),?_,bs.length-(i+1),au,Z,au,λb o e=>?_,?_,_,_,Z]
  ·rw[bW,ve]
   have:(1000:Nat)<sizeLine:=by decide
   lia
  ·rw[aU (iL e hD)];erw[s4 b o (n3.same b o (s2 b o e))]
  ·rw[bQ,sD,eb,oK];rfl
 ·rintro O H2 ⟨s2,d2,v,v',rfl⟩
  erw[#[xs,ys,h1.go s2,h2.go s2,au],hq H2 s2 ?_];rw[d2,Ag]
theorem fU.there{P:af}{w:World}{H:Hp}{h:Heap}{a:Addr}{o:HO}(x:fU P w H h a o):∃ob,h.get? a=some ob:=by induction o with |lst xs=>let(_,_,_,_,e):=x;erw[_,e] |tup xs=>let(_,_,_,ob,e,_):=x;erw[ob,e] |dK aO=>let(_,_,_,_,ob,_,_,e,_):=x;erw[ob,e] |dT aO=>let(_,_,_,_,ob,_,_,e,_):=x;erw[ob,e] |set S n=>let(ob,_,_,_,e,_):=x;erw[ob,e] |ins C dx fs=>let(_,_,_,e,_):=x;erw[_,e] |own y=>erw[x] |xd fs=>let(_,(ob,_,_,e,_),_):=x;erw[ob,e] |tE lo hi=>let(_,_,_,e):=x;erw[_,e] |mY ob u=>erw[_,x.1] |oN ps=>erw[_,x] |met f y=>erw[_,x] |ext φ=>erw[x.2.1]
structure Fl(P:af)(w:World)(outer:List Env)(H:Hp)(h₁:Heap)(ex:Addr)(H':Hp)(B h:Heap):Prop where
 un:Un (eZ outer) [] H H' h₁ h
 bA:dP P w H' h
 k1:∀b o,h₁.get? b=some o->H b=none->b∉eZ outer->B.get? b=some o
 k2:∀b o,H' b=some o->∃ob,B.get? b=some ob
 k3:∀b o,h₁.get? b=some o->b∉eZ outer->∃ob,B.get? b=some ob
 fr:∀b∈eZ outer,H' b=none
 nw:h₁.get? ex=none
 ne:H' ex=none
theorem Fl.step{P:af}{w:World}{outer:List Env}{H H':Hp}{h₁ B h h':Heap}{ex:Addr}{aw:Heap}(F:Fl P w outer H h₁ ex H' B h)(st:B.StaysIn h)(ie:B.StaysIn h')(up:h.UpToSlots h')(ff:h.FunFrames aw outer):Fl P w outer H h₁ ex H' B h':=by
 have slot:∀b o,h₁.get? b=some o->H b=none->b∈eZ outer->∃sl,h'.get? b=some {o with slots:=sl}:=λb o e n hb=>by let(sl,e1):=F.un.slot b o e n hb (by simp);let(_,o2,e2,hd):=ff.mem hb;rw[e1]at e2;cases e2;let(EE,e3):=up b _ e1 (λvs=>hd vs);erw[EE,e3]
 erw[#[λb o e n hb _=>ie b o (F.k1 b o e n hb),λb o e n hb _=>slot b o e n hb,F.un.free,λb o e hx=>?_,F.un.kJ,F.un.kz,F.un.kK],λb u e=>?_,F.k1,F.k2,F.k3,F.fr,F.nw,F.ne]
 ·by_cases hb:b∈eZ outer
  ·let(_,o2,e2,hd):=ff.mem hb
   let(sl,e3):=up b o2 e2 hd;erw[_,e3]
  ·let(ob,e1):=F.k3 b o e hb
   erw[ob,ie b ob e1]
 ·refine(F.bA b u e).oQ (λc v hc q=>?_) (λ_ q=>q) λ_ _ q=>q
  have inB:∃ob,B.get? c=some ob:=by
   rcases hc with z|z
   ·rw[z];erw[F.k2 b u e]
   ·erw[F.k2 c _ z]
  let(ob,e1):=inB;have e2:=st c ob e1;rw[q]at e2;cases e2;erw[ie c _ e1]
section
variable {P:af}{w:World}{K:aa}{mg:bN}{aw:Heap}{N:List Str}{qual:Str}{scope:Scope}{f:Addr}{cd:Value}{A:ah}{outer:List Env}{s:ae}{H:Hp}{E:XK}{ak:List (Addr×Obj)}{O:St}{H1:Hp}{s1:ae}{h2:Heap}{ex:Addr}{cls:Value}{vs:List Value}
end
structure Exc(K:aa)(mg:bN)(x:Str)(C:Addr)(nu:List Value)(newId:String):Prop where
 at':mg x=some (.ref C)
 ok:PySem.W.excIn K C nu newId=true
theorem Exc.own{K:aa}{mg:bN}{x:Str}{C:Addr}{nu:List Value}{newId:String}{h:Heap}(e:Exc K mg x C nu newId)(X:K.In h):OwnCls x C nu newId mg h:=by
 erw[e.at',?_];have q:=e.ok;unfold PySem.W.excIn at q;split at q
 ·rename_i dd cd sl ho
  split at q
  ·rename_i D2 bl a0 a1 a2 a3 nn a5 hm hs
   simp only[fV,eX,Bool.not_eq_true']at q;let(((((r1,r2),SM),ht),bA),Cm):=q;subst r1 r2;let(c1,c2,c3,c4,c5,c6,c7,c8,c9,c10,c11):=cd;dsimp only at hm SM bA Cm;subst hm SM;obtain⟨l⟩:=sl;simp only at hs;subst hs;erw[bl,c4,c1,c5,c2,c6,c7,c8,c9,c10,dd,a0,a1,a2,a3,a5,_,X _ _ ho,.of_isNs (PySem.W.isNs_of_in X bA),PySem.W.nsMap_none_of_in X bA Cm,PySem.W.tail_of_in X ht]
  ·cases q
 ·cases q
section
variable {X:Cx}{x:Str}{C:Addr}{nu:List Value}{newId J0 B:String}{e:Expr}{t:TA}{np da pos:Pos}
def Xb(E:XK)(cls:Value)(t:TA):TS:=λ_ O H=>t O H λvs H1=>vs.length<=sizeLine/\E cls none H1
theorem Br{E:XK}(hx:∀ak O H s h2 ex vs,Inv X ak O H s->Heap.MadeExcOf s.heap h2 ex (.ref C) vs->E (.ref C) none H->X.xe (.ref ex) {s with heap:=h2})(EC:Exc X.K X.mg x C nu newId)(FB:ExcBaseFacts B newId J0 nu)(hh:X.A.handled=none)(hg:Gl X x)(ha:PA X [e] t) (he:autoParam (starEach [e] X.env=[(false,eval e X.env)]) r8_._auto_1)(hd:autoParam ((x==("__debug__":Str))=false) q8_._auto_1): PS X (.Raise (some (.Call (.Name x np) [e] [] da)) none pos) (Xb E (.ref C) t):=by intro ak s O H D I h;let(tl,Nn,nm,q,bs,hdct,sn,sub,ab,col,dd,k0,k1,k2,k3,k5,mN,hC,hN,Cm,T):=(EC.own I.ok.mod.lL).obj;erw[wpAny_Raise_call_subT (C:=C) (nm:=nm) (q:=q) (N:=Nn) (bs:=bs) (bm:=tl) (hdct:=hdct) (sn:=sn) (sub:=sub) (ab:=ab) (col:=col) (dd:=dd) (k0:=k0) (k1:=k1) (k2:=k2) (k3:=k3) (k5:=k5) FB (mN:=mN) (T.hasType FB.hasBase) hh (by rw[he];rfl) Cm (ub I hg EC.at' #[Z,?_] hd)];have hA:=ha da ak s O H _ I h;rw[he]at hA⊢;erw[Calls.evalArgs_plain (ba hA λus s2 #[vs,H1,I1,r1,z,w1]=>#[Z,by rw[<-r1.length];erw[z],I1.bk _ _ hC,hN.keeps I1.bk,T.keeps I1.bk,λh' ex hm=>hx ak O H1 s2 h' ex us I1 hm w1])]
end
section
variable {M:Model}{A:ah}{Ex:Value->ae->Prop}
theorem a9n{h:Heap}{g:Array GenState}{d:Drawn}{tk:Nat}{os:OsState}{e:Addr}{oe:Obj}{Q:Bool->ae->Prop}{C D N N':Addr}{nm QN q q':Str}{bs UR bm KA:List Value}{hdct SO:Bool}{sn NB:List Str}{sub Mw:List Value}{ab Vg:Bool}{col UE:Option Bool}{dd oA:Option Addr}{k0 k1 k2 k3 k5 j0 j1 j2 j3 j5:Option Value}{newId a30:String} (hC:h.get? C=some (excClassObj nm q C N bs bm hdct sn sub ab col dd k0 k1 k2 k3 k5 newId))(hD:h.get? D=some (excClassObj QN q' D N' UR KA SO NB Mw Vg UE oA j0 j1 j2 j3 j5 a30)) (he:h.get? e=some oe)(Jt:oe.cls= .ref C)(hb:KA.contains (.type "BaseException")=true)(hs:(Value.ref C::bm).contains (.ref D)=true) (hq:Q true #[h,g,d,tk,os]):wpAny M A (excMatches (.ref e) (.ref D)) Q Ex #[h,g,d,tk,os]:=by
 have hcB:(Value.ref D::KA).contains (.type "BaseException")=true:=by rw[List.contains_cons,hb,Bool.or_true]
 have f:=tc_notTuple;unfold excMatches
 repeat (first|(with_reducible erw[wpAny_loadPart_at he ?_];rw[Jt])|with_reducible erw[wpAny_loadPart_at hD ?_]|(with_reducible erw[wpAny_isSubtype_exc hD ?_];rw[hcB])|(with_reducible erw[wpAny_isSubtype_exc hC ?_];rw[hs])|with_reducible erw[wpAny_loadPart_at hC ?_]|wp_step)
 erw[hq]
end
section
variable {X:Cx}{k:Nat}{x:Str}{p pos:Pos}{e:Expr}{es:List Expr}{t:TA}{sp:Sp}
end
abbrev Cx.hand(X:Cx)(ex:Addr):Cx:={X with A:=X.A.mark (some (.ref ex)),calm:=false,xe:=λ_ _=>False}
section
variable {X:Cx}{ak:List (Addr×Obj)}{O:St}{H:Hp}{s:ae}
theorem Inv.hand(I:Inv X ak O H s)(ex:Addr):Inv (X.hand ex) ak O H s:=#[#[I.ok.mod,I.ok.kind,I.ok.glob,I.ok.blt,I.ok.above,I.ok.inj,I.ok.has,I.ok.rK,λh=>(dR h).elim,I.ok.frames,I.ok.sQ,I.ok.zD,I.ok.bs,I.ok.kW,I.ok.qL,I.ok.pO,I.ok.jy,I.ok.mZ],I.os,I.bare,I.aw,I.loc,I.cell,I.free,I.kA,I.pin,I.bA,I.len]
theorem Inv.back{ex:Addr}(ok:X.Ok)(I:Inv (X.hand ex) ak O H s):Inv X ak O H s:=#[ok,I.os,I.bare,I.aw,I.loc,I.cell,I.free,I.kA,I.pin,I.bA,I.len]
end
def gZ(X:Cx)(st:List Stmt)(t:TS):Prop:=∀(s:ae)(O:St)(H:Hp)(D:Ends),Inv X [] O H s->t D O H->wpAny (model X.prog X.w) X.A (execs st X.env) (SP X [] D) X.xe s
def Vo(X:Cx)(st:Stmt)(t:TS):Prop:=∀(s:ae)(O:St)(H:Hp)(D:Ends),Inv X [] O H s->t D O H->wpAny (model X.prog X.w) X.A (exec st X.env) (SP X [] D) X.xe s
theorem Inv.aaJ{X:Cx}{ak:List (Addr×Obj)}{O:St}{H:Hp}{s:ae}(I:Inv X ak O H s):Inv X [] O H s:=#[I.ok,I.os,I.bare,I.aw,I.loc,I.cell,I.free,I.kA,λp hp=>I.pin p (LL _ (by simpa using hp)),I.bA,I.len]
theorem a7X{CX:j4}{P:af}{w:World}{K:aa}{mg:bN}{aw:Heap}{k:Nat}{f:Addr}{name qual:Str}{params:Arguments}{body:List Stmt}{scope:Scope}{dV kV doc pm aI ct oc:Value}{an od:Option Addr} {fO:Array (Option Value)}{N ps:List Str}{sp:Sp}(lk:K.lookup f=some #[oc,od,.func (PySem.W.fnOf name qual params body scope dV kV doc pm an aI ct),fO])(eY:PySem.W.codeIn K aI qual=true)(S:bp N ps scope) (len:∀vs H Q E,sp vs H Q E->vs.length=ps.length) (gb:∀(A:ah)(outer:List Env)(s:ae)(H:Hp)(vs:List V)(Q:VK)(E:XK),cF k (A.deeper (envOfC qual scope s.heap.objs.size f aI))->sp vs H Q E->∃t,gZ (iA CX P w K mg aw N qual scope f aI A outer s H E) body t/\t {nx:=λ_ H'=>Q .bD H',rt:=Q} (start N vs) H): eK P w K mg aw CX (k+1) f (PySem.W.fnOf name qual params body scope dV kV doc pm an aI ct) ps sp:=by
 erw[len,λA outer s H args us vs Q E hr e0 hb r fM=>?_];have hl:=len _ _ _ _ fM;have KX:K.In s.heap:=e0.mod.lL.keeps λb o e=>(e0.bs b o e).1;have lim:s.heap.NoLimit:=e0.mod.nolimit.keeps λb o e=>(e0.bs b o e).1;have mR:∀y∈ps.zip us,scope.names.lookup y.1=some .local\/(scope.names.lookup y.1=some .cell/\((cellsFrom (s.heap.objs.size+1) scope.names []).lookup y.1).isSome=true):=λ#[n,v] hy=>by
  rcases S.par n (xH hy).1 with q|q
  ·erw[.inl q]
  ·erw[.inr #[q,Lz _ _ _ (.inl q)]]
 erw[Vz hr.depth (KX _ _ lk) Z S.co S.gen Z (VD KX eY) (hb _ _ _ _ ?_)];erw[Vw S.kind mR λenv he s1 x=>?_];subst he;erw[lim.keeps x.toInCall.keep,codeAny_func ?_];let(t,ht,hq):=gb A outer s H vs Q E (hr.deeper _) fM;have I:Inv (iA CX P w K mg aw N qual scope f aI A outer s H E) [] (start N vs) H s1:=IY S hr.hd e0 hl r x;erw[ji (ht s1 (start N vs) H _ I hq) (λfl s' hs=>?_) λe s' hs=>hs];have fin:∀{σ':St}{H':Hp}{v:V}{u:Value},Inv (iA CX P w K mg aw N qual scope f aI A outer s H E) [] σ' H' s'->RelV v u->Q v H'->CE outer P w H s Q u s':=λ{σ' H' v u} J rv q=>#[v,H',J.os,J.bare,J.aw,J.bA,rv,q];cases fl with |ret u=>let(v,σ',H',J,rv,q):=hs;erw[fin J rv q] |next=>let(σ',H',J,q):=hs;erw[fin (v:=V.bD) (u:=Value.none) J Z q] |brk=>let(_,_,_,q):=hs;erw[False.elim q] |cont=>let(_,_,_,q):=hs;erw[False.elim q]
def takes(K:aa)(C D:Addr):Prop:=PySem.W.mroIn K C (.ref D)=some true
section
variable {X:Cx}{i:Nat}{n y:Str}{Dc:Addr}{rL:List Value}{newD:String}{body oO:List Stmt}{b0:Stmt}{np oj pos:Pos}{tb:XK->TS}{th:TS}{Cs:Addr->Prop}
end
end _L
namespace _L
open PySem PySem.Spec PyProof.Rows PySem.W Builtin.Getset_descriptor
section
variable {prog:af}{w:World}{A:ah}{E:Value->ae->Prop}{h:Heap}{g:Array GenState}{d:Drawn}{t:Nat}{os:OsState}{K:Frag}{x C:Addr}{o:Obj}
end
end _L
namespace _L
open PySem PySem.Spec PyProof.Rows
section
variable {X:Cx}
end
@[reducible]def jD:List Value:=[.type "ValueError",.type "Exception",.type "BaseException",.type "object"]
@[reducible]def kQ:String:="ValueError.__new__"
theorem FA.Jx{P:af}{w:World}{K:aa}{mg:bN}{aw:Heap}{x:Str}{st:Stmt}{N ps:List Str}{k:Nat}{sp:Sp}(F:FA K mg x st)(S:bp N ps (aY st))(len:∀vs H Q E,sp vs H Q E->vs.length=ps.length) (hb:∀(kV doc pm:Value)(an:Option Addr)(aI ct:Value)(us:List Value),us.length=ps.length->bindArgs (PySem.W.fnOf x x (jB st) (fQ st) (aY st) .none kV doc pm an aI ct) #[us,[]]=pure (ps.zip us)) (gb:∀(f:Addr)(aI:Value)(A:ah)(outer:List Env)(s:ae)(H:Hp)(vs:List V)(Q:VK)(E:XK),cF k (A.deeper (envOfC x (aY st) s.heap.objs.size f aI))->sp vs H Q E->∃t,gZ (iA iS P w K mg aw N x (aY st) f aI A outer s H E) (fQ st) t/\t {nx:=λ_ H'=>Q .bD H',rt:=Q} (start N vs) H):aG P w K mg aw x (k+1) sp:=by let(f,fd,hm,F):=F.ex;have uk:=F.binds hb;have kp:=F.kp;let(oc,od,kV,doc,pm,an,aI,ct,fO,rfl,lk,eY):=F.ex;erw[f,_,ps,a7X lk eY S len λA outer s H vs Q E hr fM=>gb f aI A outer s H vs Q E hr fM,hm,kp,uk]
end _L
namespace _A
theorem a7x(a b:Int):Int.gcd b (a.fmod b)=Int.gcd a b:=by rw[Int.fmod_def,Int.gcd_sub_mul_left_right,Int.gcd_comm]
theorem a7y{a b:Int}(h:0<b):Int.gcd b (a%b)=Int.gcd a b:=by rw[<-Int.fmod_eq_emod_of_nonneg a (LR h)];erw[a7x a b]
def sg(p q:Int):Int:=if q<0 then-(Int.gcd p q:Int)else(Int.gcd p q:Int)
def lowP (p q:Int):Int:=p.fdiv (sg p q)
def gY (p q:Int):Int:=q.fdiv (sg p q)
theorem JO{p q:Int}(h:q≠0):0<(Int.gcd p q:Int):=by
 have:Int.gcd p q≠0:=λz=>h (Int.gcd_eq_zero_iff.mp z).2
 lia
theorem yk{p q:Int}(h:q≠0):sg p q≠0:=by have:=JO (p:=p) h;unfold sg;split<;>omega
theorem NI(p q:Int):sg p q∣p:=by
 unfold sg;split
 ·erw[Int.neg_dvd.mpr (Int.gcd_dvd_left p q)]
 ·erw[Int.gcd_dvd_left p q]
theorem NH(p q:Int):sg p q∣q:=by
 unfold sg;split
 ·erw[Int.neg_dvd.mpr (Int.gcd_dvd_right p q)]
 ·erw[Int.gcd_dvd_right p q]
theorem IB(p q:Int):sg p q*lowP p q=p:=by unfold lowP;rw[Int.fdiv_eq_ediv_of_dvd (NI p q)];erw[Int.mul_ediv_cancel' (NI p q)]
theorem BV(p q:Int):sg p q*gY p q=q:=by unfold gY;rw[Int.fdiv_eq_ediv_of_dvd (NH p q)];erw[Int.mul_ediv_cancel' (NH p q)]
theorem NJ(p q:Int):(sg p q).natAbs=Int.gcd p q:=by unfold sg;split<;>lia
theorem a3V{p q:Int}(h:q≠0):Int.gcd (lowP p q) (gY p q)=1:=by
 have e:Int.gcd (sg p q*lowP p q) (sg p q*gY p q)=(sg p q).natAbs*Int.gcd (lowP p q) (gY p q):=Int.gcd_mul_left _ _ _;rw[IB,BV,NJ]at e;have g:=JO (p:=p) h;have g':0<Int.gcd p q:=by lia
 have e':Int.gcd p q*1=Int.gcd p q*Int.gcd (lowP p q) (gY p q):=by lia
 exact(Nat.eq_of_mul_eq_mul_left g' e').symm
theorem a3W{p q:Int}(h:q≠0):0<gY p q:=by
 have e:=BV p q;have g:=JO (p:=p) h;by_cases hq:q<0
 ·have es:sg p q=-(Int.gcd p q:Int):=by unfold sg;rw[bu hq]
  rw[es]at e;erw[Int.not_le.mp λhl=>?_];have:0<=-(Int.gcd p q:Int)*gY p q:=VX au hl
  lia
 ·have es:sg p q=(Int.gcd p q:Int):=by unfold sg;rw[bo hq]
  rw[es]at e;erw[Int.not_le.mp λhl=>?_];have:(Int.gcd p q:Int)*gY p q<=0:=Int.mul_nonpos_of_nonneg_of_nonpos au hl
  lia
theorem Vf{s x y:Int}(hs:s≠0)(e:s*x=y):x.natAbs<=y.natAbs:=by rw[<-e,hZ];erw[Nat.le_mul_of_pos_left _ au]
theorem a3X{p q:Int}(h:q≠0):(lowP p q).natAbs<=p.natAbs:=Vf (yk h) (IB p q)
theorem Rz{p q:Int}(h:q≠0):(gY p q).natAbs<=q.natAbs:=Vf (yk h) (BV p q)
theorem Y9{p q:Int}(h:q≠0):(sg p q).natAbs<=q.natAbs:=by rw[NJ];erw[Nat.le_of_dvd au (Int.gcd_dvd_natAbs_right p q)]
end _A
namespace _r
open Rat
theorem IA{a b:Int}(hb:b≠0):_A.lowP a b=(Rat.divInt a b).num/\_A.gY a b=((Rat.divInt a b).den:Int):=by
 have hp:=_A.a3W (p:=a) hb;have hc:=_A.a3V (p:=a) hb;have a6g:(_A.gY a b).natAbs≠0:=by lia
 have a6n:(_A.lowP a b).natAbs.Coprime (_A.gY a b).natAbs:=hc;have e1:Rat.divInt a b=Rat.divInt (_A.lowP a b) (_A.gY a b):=by have h:=Rat.divInt_mul_left (a:=_A.sg a b) (n:=_A.lowP a b) (d:=_A.gY a b) (_A.yk hb);rw[_A.IB,_A.BV]at h;erw[h]
 have e2:(#[_A.lowP a b,(_A.gY a b).natAbs,a6g,a6n]:Rat)=Rat.divInt (_A.lowP a b) (((_A.gY a b).natAbs:Nat):Int):=Rat.mk_eq_divInt;have e3:(((_A.gY a b).natAbs:Nat):Int)=_A.gY a b:=by lia
 rw[e3]at e2;rw[e1,<-e2];erw[Z,e3.symm]
theorem den_pos(r:Rat):(0:Int)<(r.den:Int):=by have:=r.den_pos;omega
structure Bd(n:Nat)(r:Rat):Prop where
 num:r.num.natAbs<2^n
 den:r.den<2^n
theorem Bd.mono{n m:Nat}{r:Rat}(h:Bd n r)(l:n<=m):Bd m r:=#[gO h.num (uZ ay l),gO h.den (uZ ay l)]
theorem mE{a b n m:Nat}(h:a<2^n)(g:b<2^m):a*b<2^(n+m):=by rw[Nat.pow_add];erw[Nat.mul_lt_mul'' h g]
theorem lH{n:Nat}{a b:Int}(hb:b≠0)(h1:a.natAbs<2^n)(h2:b.natAbs<2^n):Bd n (Rat.divInt a b):=by
 let(e1,e2):=IA (a:=a) hb;have l1:=_A.a3X (p:=a) hb;have l2:=_A.Rz (p:=a) hb;erw[?_,?_]
 ·rw[<-e1];lia
 ·lia
theorem pV(r s:Rat):(r.den:Int)*(s.den:Int)≠0:=Int.ne_of_gt (j8 (den_pos r) (den_pos s))
theorem add_div(r s:Rat):r+s=Rat.divInt (r.num*s.den+s.num*r.den) (r.den*s.den):=by have h:=Rat.divInt_add_divInt r.num s.num (d₁:=r.den) (d₂:=s.den) (by have:=den_pos r;lia) (by have:=den_pos s;lia);rw[sf,sf]at h;erw[h]
theorem Xz(r s:Rat):r-s=Rat.divInt (r.num*s.den-s.num*r.den) (r.den*s.den):=by have h:=VB r.num s.num (d₁:=r.den) (d₂:=s.den) (by have:=den_pos r;lia) (by have:=den_pos s;lia);rw[sf,sf]at h;erw[h]
theorem mul_div(r s:Rat):r*s=Rat.divInt (r.num*s.num) (r.den*s.den):=by have h:=Rat.divInt_mul_divInt r.num s.num (d₁:=r.den) (d₂:=s.den);rw[sf,sf]at h;erw[h]
section
variable {n m:Nat} {r s:Rat}
theorem aa7(h:Bd n r)(g:Bd m s):(r.num*s.den).natAbs<2^(n+m):=by rw[hZ];erw[mE h.num (by have:=g.den;omega)]
theorem aa6(h:Bd n r)(g:Bd m s):(s.num*r.den).natAbs<2^(n+m):=by rw[hZ,Nat.mul_comm];erw[mE (by have:=h.den;lia) g.num]
theorem Km(h:Bd n r)(g:Bd m s):((r.den:Int)*(s.den:Int)).natAbs<2^(n+m):=by rw[hZ];erw[mE (by have:=h.den;lia) (by have:=g.den;lia)]
theorem Bd.add(h:Bd n r)(g:Bd m s):Bd (n+m+1) (r+s):=by
 rw[add_div];have h1:=aa7 h g;have h2:=aa6 h g;have h3:=Km h g;have e:2^(n+m+1)=2^(n+m)+2^(n+m):=by rw[Nat.pow_succ];omega
 erw[lH (pV r s) bR bR]
theorem Bd.mul(h:Bd n r)(g:Bd m s):Bd (n+m) (r*s):=by rw[mul_div];erw[lH (pV r s) (by rw[hZ];erw[mE h.num g.num]) (Km h g)]
end
end _r
namespace _L
open PySem PySem.Spec PyProof.Rows
def iX(H H':Hp):Prop:=∀b o,(∀xs,o≠ .lst xs)->H b=some o->H' b=some o
section
variable {K:aa} {H H' H2:Hp}
theorem iX.trans(a:iX H H')(b:iX H' H2):iX H H2:=λc o n e=>b c o n (a c o n e)
theorem iX.vq{D:Addr}{xs ys:List V}(h:H D=some (.lst xs)):iX H (upd H D (.lst ys)):=λb o n e=>by rw[aU (iM e h (n xs))];erw[e]
theorem bc.t{a:Addr}{xs:List V}(s:iX H H')(h:bc K H a xs):bc K H' a xs:=h.imp (λr=>r.imp (s _ _ λ_ z=>nomatch z) λ#[o,e]=>#[o,s _ _ (λ_ z=>nomatch z) e]) id
mutual
def fk:ag->Bool | .list _=>false | .dict _=>false | .tuple ds=>cJ ds | .none=>true | .bool _=>true | .int _=>true | .str _=>true
def cJ:List ag->Bool |[]=>true |d::ds=>fk d&&cJ ds
end
theorem gX:∀{ds:List ag},cJ ds=true↔∀d∈ds,fk d=true
 |[]=>#[λ_ _ h=>(nomatch h),λ_=>by simp[cJ]] |d::ds=>by
  rw[cJ,eX,gX (ds:=ds)];constructor
  ·rintro⟨a,b⟩ x hx
   rcases bJ.mp hx with rfl|hx
   ·erw[a]
   ·erw[b x hx]
  ·intro h
   erw[h d (.head _),λx hx=>h x (.tail _ hx)]
theorem jT(ns:List Int):cJ (ns.map PyData.int)=true:=gX.mpr λd hd=>by let(i,_,rfl):=dB.mp hd;simp[fk]
mutual
theorem RD.t(s:iX H H'):∀{x:V}(d:ag),fk d=true->RD K H x d->RD K H' x d |x,.none,_,h=>by simpa[RD]using h |x,.bool b,_,h=>by simpa[RD]using h |x,.int i,_,h=>by simpa[RD]using h |x,.str y,_,h=>by simpa[RD]using h |x,.list ds,n,h=>by simp[fk]at n |x,.tuple ds,n,h=>by rw[RD]at h⊢;let(a,xs,e,h1,h2):=h;erw[a,xs,e,h1.t s,aP.t s ds (by simpa[fk]using n) h2] |x,.dict _,_,h=>by simp[RD]at h
theorem aP.t (s:iX H H'):∀{xs:List V}(ds:List ag),cJ ds=true->aP K H xs ds->aP K H' xs ds |xs,[],_,h=>by simpa[aP]using h |xs,d::ds,n,h=>by rw[aP]at h⊢;rw[cJ,eX]at n;let(y,ys,e,h1,h2):=h;erw[y,ys,e,RD.t s d n.1 h1,aP.t s ds n.2 h2]
end
theorem aP.fE:∀{xs:List V}{ns:List Int},aP K H xs (ns.map PyData.int)->xs=ns.map V.int |xs,[],h=>h.nil_inv |xs,n::ns,h=>by let(y,ys,rfl,h1,h2):=h.cons_inv;rw[h1.int_inv,aP.fE h2];rfl
theorem ml:∀(ns:List Int),aP K H (ns.map V.int) (ns.map PyData.int) |[]=>dI |n::ns=>cN (fz n) (ml ns)
theorem UA{J:It}{xs:List V}{ds:List ag}{te:TE}{Q:VK}{D:Addr}{H0:Hp}(rest:St)(nw:Nw H H0 D (.lst []))(hl:xs.length=ds.length)(hz:xs.length<=1000)(hn:cJ ds=true) (go:∀i x H2,xs[i]? =some x->aF H H2->J.go i H2/\∀y H3,J.lB i H2 y H3->H3=H2/\y=x)(stop:∀H2,aF H H2->J.stop xs.length H2) (hs:∀(i:Nat)(x:V)(d:ag)(H2:Hp)(Q':VK),xs[i]? =some x->ds[i]? =some d->aF H H2->(∀y H3,aF H2 H3->RD K H3 y d->Q' y H3)->te (some x::rest) H2 Q') (hq:∀H' ys,aF H H'->H' D=some (.lst ys)->aP K H' ys ds->Q (.ref D) H'):kF J (gc 0) jL te Q D (none::rest) H0:=by
 have hD:=nw.no;erw[uI xs.length (λi O H2=>aF H H2/\(∃ys,H2 D=some (.lst ys)/\aP K H2 ys (ds.take i))/\∃v,O=v::rest) ?_ ?_ ?_]
 ·erw[nw.same,#[[],nw.at',dI],none,Z]
 ·rintro i O H2 hi ⟨s2,⟨ys,d2,r2⟩,v,rfl⟩
  have Cp:i<ds.length:=by rw[<-hl];erw[hi]
  have ex:=cB hi;have eb:=cB Cp;let(g1,g2):=go i _ H2 ex s2;erw[g1,λy H3 hy=>?_];let(rfl,rfl):=g2 y H3 hy;erw[vm ?_];erw[hs i _ _ _ _ ex eb s2 λz H4 s4 r4=>?_];have d4:=s4 _ _ d2;have len:=r2.length;rw[ve]at len;erw[ys,d4,?_,xs.length-(i+1),au,Z,au,λb o e=>?_,#[ys++[z],bQ,?_],_,Z]
  ·have:(1000:Nat)<sizeLine:=by decide
   lia
  ·rw[aU (iL e hD)];erw[s4 b o (s2 b o e)]
  ·have t:iX H4 (upd H4 D (.lst (ys++[z]))):=.vq d4
   rw[sD,eb];have n1:cJ (ds.take i)=true:=gX.mpr λd hd=>gX.mp hn d (xI hd);exact(aP.t t _ n1 (aP.mono s4 _ r2)).append (cN (RD.t t _ (gX.mp hn _ (xN Cp)) r4) dI)
 ·rintro O H2 ⟨s2,⟨ys,d2,r2⟩,v,rfl⟩
  erw[stop H2 s2,hq H2 ys s2 d2 ?_];rw[hl,Ag]at r2;erw[r2]
theorem pW{a:Addr}{xs:List V}{ds:List ag}{te:TE}{Q:VK}{D:Addr}{H0:Hp}(rest:St)(hx:bc K H a xs)(nw:Nw H H0 D (.lst []))(hl:xs.length=ds.length)(hz:xs.length<=1000)(hn:cJ ds=true) (hs:∀(i:Nat)(x:V)(d:ag)(H2:Hp)(Q':VK),xs[i]? =some x->ds[i]? =some d->aF H H2->(∀y H3,aF H2 H3->RD K H3 y d->Q' y H3)->te (some x::rest) H2 Q') (hq:∀H' ys,aF H H'->H' D=some (.lst ys)->aP K H' ys ds->Q (.ref D) H'):kF (A1 K a) (gc 0) jL te Q D (none::rest) H0:=UA rest nw hl hz hn (λi x H2 e s=>#[#[xs,x,hx.go s,e],λy H3 #[e3,y3]=>#[e3,by have:=y3 _ (hx.go s);rw[e]at this;exact(dQ this).symm]]) (λH2 s=>#[xs,hx.go s,bV _]) hs hq
theorem Di{a:Addr}{xs:List V}{ds:List ag}{te:TE}{Q:VK}{D:Addr}{H0:Hp}(rest:St)(hx:aE K H a xs)(nw:Nw H H0 D (.lst []))(hl:xs.length=ds.length)(hz:xs.length<=1000)(hn:cJ ds=true) (hs:∀(i:Nat)(x:V)(d:ag)(H2:Hp)(Q':VK),xs[i]? =some x->ds[i]? =some d->aF H H2->(∀y H3,aF H2 H3->RD K H3 y d->Q' y H3)->te (some x::rest) H2 Q') (hq:∀H' ys,aF H H'->H' D=some (.lst ys)->aP K H' ys ds->Q (.ref D) H'):kF (rX K a) (gc 0) jL te Q D (none::rest) H0:=UA rest nw hl hz hn (λi x H2 e s=>#[#[xs,x,hx.go s,e],λy H3 #[e3,y3]=>#[e3,by have:=y3 _ (hx.go s);rw[e]at this;exact(dQ this).symm]]) (λH2 s=>#[xs,hx.go s,bV _]) hs hq
theorem zL{b1 b2:Bool}{l1 l2:Addr}{xs ys:List V}{ds:List ag}{te:TE}{Q:VK}{D:Addr}{H0:Hp}{n:Nat}(rest:St)(qU:n=2)(h1:fS b1 K H l1 xs)(h2:fS b2 K H l2 ys)(nw:Nw H H0 D (.lst [])) (hl:min xs.length ys.length=ds.length)(hz:ds.length<=1000)(hn:cJ ds=true) (hs:∀(i:Nat)(x y:V)(d:ag)(H2:Hp)(Q':VK),xs[i]? =some x->ys[i]? =some y->ds[i]? =some d->aF H H2->(∀z H3,aF H2 H3->RD K H3 z d->Q' z H3)->te (some x::some y::rest) H2 Q') (hq:∀H' zs,aF H H'->H' D=some (.lst zs)->aP K H' zs ds->Q (.ref D) H'):kF (rW K b1 b2 l1 l2) (zB K n (uA (gc 0) (uA (gc 1) CC))) jL te Q D (none::none::rest) H0:=by
 subst qU;have hD:=nw.no;erw[uI ds.length (λi O H2=>aF H H2/\(∃zs,H2 D=some (.lst zs)/\aP K H2 zs (ds.take i))/\∃v v',O=v::v'::rest) ?_ ?_ ?_]
 ·erw[nw.same,#[[],nw.at',dI],none,none,Z]
 ·rintro i O H2 hi ⟨s2,⟨zs,d2,r2⟩,v,v',rfl⟩
  have hx:i<xs.length:=by lia
  have hy:i<ys.length:=by lia
  have ex:=cB hx;have ey:=cB hy;have eb:=cB hi;erw[#[xs,ys,_,_,h1.go s2,h2.go s2,ex,ey],λy' H3 ug=>?_];let(T,x0,y0,rfl,k1,k2,n3):=ug;have e1:=k1 _ (h1.go s2);have e2:=k2 _ (h2.go s2);rw[ex]at e1;rw[ey]at e2;cases e1;cases e2;erw[T,_,Z,bc.of n3.at',Z,_,_,Z,_,_,Z,Z,?_];erw[yes (bF ?_)];erw[hs i _ _ _ _ _ ex ey eb (s2.trans n3.same) λz H4 s4 r4=>?_];have t7:=n3.same.trans s4;have d4:=t7 _ _ d2;have len:=r2.length;rw[ve]at len;erw[zs,d4,?_,ds.length-(i+1),au,Z,au,λb o e=>?_,#[zs++[z],bQ,?_],_,_,Z]
  ·have:(1000:Nat)<sizeLine:=by decide
   lia
  ·rw[aU (iL e hD)];erw[t7 b o (s2 b o e)]
  ·have t:iX H4 (upd H4 D (.lst (zs++[z]))):=.vq d4
   rw[sD,eb];have n1:cJ (ds.take i)=true:=gX.mpr λd hd=>gX.mp hn d (xI hd);exact(aP.t t _ n1 (aP.mono t7 _ r2)).append (cN (RD.t t _ (gX.mp hn _ (xN hi)) r4) dI)
 ·rintro O H2 ⟨s2,⟨zs,d2,r2⟩,v,v',rfl⟩
  erw[#[xs,ys,h1.go s2,h2.go s2,au],hq H2 zs s2 d2 ?_];rw[Ag]at r2;erw[r2]
end
theorem Sa:∀{ns:List Int}{us:List Value},Vals (ns.map V.int) us->(∀v∈us,∃a t,v=Value.int a t)/\numsOf us=ns
 |[],_,.nil=>#[λ_ h=>(nomatch h),rfl] |n::ns,_,.cons q r=>by
  let(t,rfl):=(show∃t,_=Value.int n t from q);let(h1,h2):=Sa r;erw[λv hv=>?_,?_]
  ·rcases bJ.mp hv with rfl|hv
   ·erw[n,t,Z]
   ·erw[h1 v hv]
  ·show n::numsOf _=_
   rw[h2]
section
variable {X:Cx}
theorem Iu(K:aa)(hK:X.K=K)(hc:X.calm=true):fq X (.builtin "max") (λxs H Q=>∃(l:Addr)(ns:List Int),xs=[.ref l]/\aE K H l (ns.map V.int)/\ns≠[]/\∀M,M∈ns->(∀a∈ns,a<=M)->Q (.int M) H):=by
 subst hK;intro ak s O H xs us Q I r h;let(l,ns,rfl,hl,cP,q):=h;let(u,rfl,ru):=vals1 r;cases(show u=Value.ref l from ru);let(its,rv,pl,hz):=I.list hl;let(a1,a2):=Sa rv;have all:AllInts its.toArray:=λv hv=>a1 v (by simpa using hv);let(ps,Sy):=all.items;have e0:numsOf (intItems ps).toList=ns:=by rw[<-Sy];erw[a2]
 rw[nums_intItems]at e0;have hlen:ps.size=ns.length:=by rw[<-e0,bW,Ap]
 have oj:0<ps.size:=by rw[hlen];erw[DP.mpr cP]
 erw[max_intList (I.ok.hd hc) (by rw[<-Sy];erw[pl.isList]) oj λv h' tk hv hk=>?_];let(t,rfl):=intItems_at hv;let(h1,h2):=argBest_gt (numAt ps) (ps.size-1);erw[.int _,H,I.kept hk,#[_,Z],q _ ?_ λa ha=>?_]
 ·rw[numAt_eq,e0];erw[getD_mem bR]
 ·let(j,hj,rfl):=mem_getD ha
  rw[<-e0,<-numAt_eq];erw[h2 j bR]
theorem Sb{ns:List Int}{us:List Value}(r:Vals (ns.map V.int) us){i:Nat}{v:Value}(h:us[i]? =some v):∃n t,ns[i]? =some n/\v=Value.int n t:=by
 have hl:=r.length;rw[bW]at hl;have hi:i<ns.length:=by rw[hl];exact(dZ.mp h).1
 let(u,e,ru):=r.get (i:=i) (x:=.int ns[i]) (by rw[cj,cB hi];rfl);rw[h]at e;cases e;let(t,rfl):=(show∃t,v=Value.int ns[i] t from ru);erw[_,t,cB hi,Z]
theorem Zr(ns:List Int):((List.range ns.length).any λi=>((ns.map (· !=0))[i]?).getD false)=ns.any (· !=0):=by have:=LSm.range_any (ns.map (· !=0));rw[bW]at this;rw[this,List.any_map];rfl
theorem Va(K:aa)(hK:X.K=K)(hc:X.calm=true):fq X (.builtin "any") (λxs H Q=>∃(l:Addr)(ns:List Int),xs=[.ref l]/\(aE K H l (ns.map V.int)\/bc K H l (ns.map V.int))/\Q (.bl (ns.any (· !=0))) H):=by
 subst hK;intro ak s O H xs us Q I r h;let(l,ns,rfl,hl,q):=h;let(u,rfl,ru):=vals1 r;cases(show u=Value.ref l from ru);have hh:=I.ok.hd hc;have fin:∀(its:List Value),Vals (ns.map V.int) its->((List.range its.toArray.size).any λi=>((ns.map (· !=0))[i]?).getD false)=ns.any (· !=0):=λits rv=>by rw[eO,<-rv.length,bW];erw[Zr ns]
 rcases hl with hl|hl
 ·let(its,rv,pl,hz):=I.list hl
  have gH:=pl.isList;have cK:l<s.heap.objs.size:=by let(_,e,_):=gH;erw[ck e]
  erw[call_any_walk (xy gH ?_)];erw[s.heap.objs.size,[s.heap.objs.size,l],[s.heap.objs.size],its.toArray.size,_,_,λi=>((ns.map (· !=0))[i]?).getD false,Z,Walks.list (A:=X.A.in1) hh _ l (dY cK) its.toArray,#[#[_,eP _ Z,Z,Z],gH.push _],λi v s' Q' E' hP hQ=>?_,λh' tk hk=>?_]
  ·let(n,t,e,rfl):=Sb rv (i:=i) (v:=v) (by simpa using hP)
   simp only[cj,e]at hQ;erw[truthy_int hQ]
  ·rw[fin its rv]
   erw[.bl _,H,I.kept (LSm.kept_iter hk),Z,q]
 ·let(its,rv,pl,hz):=I.tuple hl
  have gH:s.heap.IsTuple l its.toArray:=by let((cls,dd,data,sl),ho,kU,n,hd):=pl;erw[_,ho,kU,by simpa using#[n,hd]]
  have cK:l<s.heap.objs.size:=by let(_,e,_):=gH;erw[ck e]
  erw[call_any_walk (wpAny_pyIter_tuple gH ?_)];erw[s.heap.objs.size,[s.heap.objs.size,l],[s.heap.objs.size],its.toArray.size,_,_,λi=>((ns.map (· !=0))[i]?).getD false,Z,Walks.tuple (A:=X.A.in1) hh _ l (dY cK) its.toArray,#[#[_,eP _ Z,Z,Z],gH.push _],λi v s' Q' E' hP hQ=>?_,λh' tk hk=>?_]
  ·let(n,t,e,rfl):=Sb rv (i:=i) (v:=v) (by simpa using hP)
   simp only[cj,e]at hQ;erw[truthy_int hQ]
  ·rw[fin its rv]
   erw[.bl _,H,I.kept (LSm.kept_iter hk),Z,q]
end
end _L
set_option maxHeartbeats 1000000
namespace _a
open PySem PySem.Spec PyProof.Rows _L
def Vp(c m:Int):Prop:=0<=c/\0<=m/\m<2147483648
def fG(H:Hp)(p:Addr):Prop:=∃c m,H p=some (.lst [.int c,.int m])/\Vp c m
structure bI(p:Addr)(H H':Hp):Prop where
 bC:fG H' p
 same:∀b o,b≠p->H b=some o->H' b=some o
theorem bI.refl{p:Addr}{H:Hp}(h:fG H p):bI p H H:=#[h,λ_ _ _ e=>e]
theorem bI.trans{p:Addr}{H H1 H2:Hp}(a:bI p H H1)(b:bI p H1 H2):bI p H H2:=#[b.bC,λc o n e=>b.same c o n (a.same c o n e)]
theorem bI.upd{p:Addr}{H:Hp}{c m:Int}(h:Vp c m):bI p H (_L.upd H p (.lst [.int c,.int m])):=#[#[c,m,bQ,h],λb o n e=>by rw[aU n];erw[e]]
theorem bI.fC{p:Addr}{H H':Hp}(h:fG H p)(s:aF H H'):bI p H H':=by let(c,m,e,ok):=h;erw[#[c,m,s _ _ e,ok],λb o _ e=>s b o e]
theorem LX{j:Int}(h0:0<=j)(h:j<=10^40):Wd j:=by
 have:j.natAbs<=10^40:=by lia
 erw[Af this aH]
theorem fG.ne{H:Hp}{p:Addr}(h:fG H p):H p≠none:=by let(c,m,e,_):=h;rw[e];erw[λz=>nomatch z]
theorem fG.a35{H:Hp}{p:Addr}{q:Addr}{o:HO}(h:fG H p)(e:H q=some o)(n:∀xs,o≠ .lst xs):q≠p:=by let(c,m,e',_):=h;erw[iM e e' (n _)]
theorem bI.t{p:Addr}{H H':Hp}(bg:fG H p)(b:bI p H H'):iX H H':=λc o n e=>b.same c o (bg.a35 e n) e
theorem bI.Po{p:Addr}{H0 H H':Hp}(s:aF H0 H)(hp:H0 p=none)(b:bI p H H'):aF H0 H':=λc o e=>b.same c o (iL e hp) (s c o e)
section
variable {K:aa}
theorem Kv{J:It}{te:TE}{Q:VK}{D p:Addr}{H H0:Hp}(n:Nat)(rest:_L.St)(nw:Nw H H0 D (.lst []))(bg:fG H p)(hn:n<=1000)(xv:Nat->V) (go:∀i H2,i<n->bI p H H2->J.go i H2/\∀y H3,J.lB i H2 y H3->H3=H2/\y=xv i)(stop:∀H2,bI p H H2->J.stop n H2)(Pz:Int->Prop) (hs:∀i H2 (Q':VK),i<n->bI p H H2->(∀z H3,Pz z->bI p H2 H3->Q' (.int z) H3)->te (some (xv i)::rest) H2 Q') (hq:∀H' (is:List Int),bI p H H'->H' D=some (.lst (is.map V.int))->is.length=n->(∀z∈is,Pz z)->Q (.ref D) H'):kF J (gc 0) jL te Q D (none::rest) H0:=by
 have zt:D≠p:=λe=>bg.ne (e▸nw.no);erw[uI n (λi O H3=>bI p H H3/\(∃is:List Int,H3 D=some (.lst (is.map V.int))/\is.length=i/\∀z∈is,Pz z)/\∃v,O=v::rest) ?_ ?_ ?_]
 ·erw[.fC bg nw.same,#[[],nw.at',Z,λ_ h=>(bZ h).elim],none,Z]
 ·rintro i O H3 hi ⟨b3,⟨is,d3,li,pi⟩,v,rfl⟩
  let(g1,g2):=go i H3 hi b3;erw[g1,λy H4 hy=>?_];let(rfl,rfl):=g2 y H4 hy;erw[vm ?_];erw[hs i _ _ hi b3 λz H5 pz b5=>?_];erw[_,b5.same _ _ zt d3,?_,n-(i+1),au,Z,au,?_,#[is++[z],?_,?_,?_],_,Z]
  ·rw[bW,li]
   have:(1000:Nat)<sizeLine:=by decide
   lia
  ·have rO:=b3.trans b5
   erw[?_,λb o n e=>?_]
   ·let(c,m,e,ok):=rO.bC
    erw[c,m,by rw[aU zt.symm];erw[e],ok]
   ·rw[aU (iL e nw.no)];erw[rO.same b o n e]
  ·rw[bQ,oK];rfl
  ·rw[fH,li];rfl
  ·intro y hy
   rcases jj.mp hy with h|h
   ·erw[pi y h]
   ·rw[cE.mp h];erw[pz]
 ·rintro O H3 ⟨b3,⟨is,d3,li,pi⟩,v,rfl⟩
  erw[stop H3 b3,hq H3 is b3 d3 li pi]
theorem a4M(ns:List Int){i:Int}(h0:0<=i)(h:i<ns.length):∃z,z∈ns/\fb (ns.map V.int) i=some (.int z):=by
 have hl:i.toNat<ns.length:=by omega
 erw[ns[i.toNat],xN hl,cL h0 (by rw[cj,cB hl];rfl)]
theorem Ku{J:It}{te:TE}{Q:VK}{D p:Addr}{H H0:Hp}(n:Nat)(rest:_L.St)(nw:Nw H H0 D (.lst []))(bg:fG H p)(hn:n<=1000)(xv:Nat->V) (go:∀i H2,i<n->bI p H H2->J.go i H2/\∀y H3,J.lB i H2 y H3->H3=H2/\y=xv i)(stop:∀H2,bI p H H2->J.stop n H2)(Pd:Nat->ag->Prop) (hs:∀i H2 (Q':VK),i<n->bI p H H2->(∀y d H3,Pd i d->fk d=true->RD K H3 y d->bI p H2 H3->Q' y H3)->te (some (xv i)::rest) H2 Q') (hq:∀H' ys ds,bI p H H'->H' D=some (.lst ys)->aP K H' ys ds->ds.length=n->cJ ds=true->(∀i d,ds[i]? =some d->Pd i d)->Q (.ref D) H'):kF J (gc 0) jL te Q D (none::rest) H0:=by
  have zt:D≠p:=λe=>bg.ne (e▸nw.no);erw[uI n (λi O H3=>bI p H H3/\(∃ys ds,H3 D=some (.lst ys)/\aP K H3 ys ds/\ds.length=i/\cJ ds=true/\∀j d,ds[j]? =some d->Pd j d)/\∃v,O=v::rest) ?_ ?_ ?_]
  ·erw[.fC bg nw.same,#[[],[],nw.at',dI,Z,Z,λj d e=>by simp at e],none,Z]
  · rintro i O H3 hi ⟨b3,⟨ys,ds,d3,r3,li,ni,pi⟩,v,rfl⟩
    let(g1,g2):=go i H3 hi b3;erw[g1,λy H4 hy=>?_];let(rfl,rfl):=g2 y H4 hy;erw[vm ?_];erw[hs i _ _ hi b3 λz d H5 pz nz rz b5=>?_];have d5:=b5.same _ _ zt d3;have t:iX H5 (_L.upd H5 D (.lst (ys++[z]))):=.vq d5;erw[ys,d5,?_,n-(i+1),au,Z,au,?_,#[ys++[z],ds++[d],bQ,?_,?_,?_,?_],_,Z]
    · rw[r3.length,li]
      have:(1000:Nat)<sizeLine:=by decide
      lia
    · have rO:=b3.trans b5
      erw[?_,λb o n e=>?_]
      · let(c,m,e,ok):=rO.bC
        erw[c,m,by rw[aU zt.symm];erw[e],ok]
      ·rw[aU (iL e nw.no)];erw[rO.same b o n e]
    ·exact(aP.t ((bI.t b3.bC b5).trans t) _ ni r3).append (cN (RD.t t _ nz rz) dI)
    ·rw[fH,li];rfl
    ·exact gX.mpr λx hx=>by
        rcases jj.mp hx with h|h
        ·erw[gX.mp ni x h]
        ·rw[cE.mp h];erw[nz]
    · intro j e he
      by_cases hj:j<ds.length
      · rw[vg hj]at he
        erw[pi j e he]
      · have pF:j=ds.length:=by
          have:=(dZ.mp he).1;rw[fH]at this;have:j<ds.length+1:=this
          lia
        subst pF;rw[xO (bV _),DL]at he;cases he;rw[li];erw[pz]
  · rintro O H3 ⟨b3,⟨ys,ds,d3,r3,li,ni,pi⟩,v,rfl⟩
    erw[stop H3 b3,hq H3 ys ds b3 d3 r3 li ni pi]
end
end _a
namespace _l
open PySem _L
def gL(i:Int):Int:=if i<0 then-i else i
theorem zV(i:Int):gL i=(i.natAbs:Int):=by unfold gL;split<;>lia
def aK(ns:List Int):Nat:=ns.foldr (λz m=>max z.natAbs m) 0
theorem IK:∀{ns:List Int}{z:Int},z∈ns->z.natAbs<=aK ns
 |n::ns,z,h=>by
  show z.natAbs<=max n.natAbs (aK ns);rcases bJ.mp h with rfl|h
  ·erw[Nat.le_max_left _ _]
  ·erw[j7 (IK h) (Nat.le_max_right _ _)]
theorem IJ:∀{ns:List Int},ns≠[]->∃z∈ns,z.natAbs=aK ns
 |[],h=>absurd Z h |[n],_=>#[n,.head _,by show n.natAbs=max n.natAbs 0;lia] |n::m::ns,_=>by
  let(z,hz,e):=IJ (ns:=m::ns) (by simp);by_cases h:n.natAbs<=aK (m::ns)
  ·erw[z,.tail _ hz,by show _=max n.natAbs (aK (m::ns));lia]
  ·erw[n,.head _,by show _=max n.natAbs (aK (m::ns));lia]
theorem pk{ns:List Int}{m:Nat}(h:∀z∈ns,z.natAbs<=m):aK ns<=m:=by cases ns with |nil=>erw[gM _] |cons a r=>let(z,hz,e):=IJ (ns:=a::r) (by simp);rw[<-e];erw[h z hz]
theorem a4c{ns:List Int}(h:∃z∈ns,z≠0):0<aK ns:=by
 let(z,hz,h0):=h;have:=IK hz
 lia
theorem II{ns:List Int}(cP:ns≠[]){M:Int}(h1:M∈ns.map gL)(h2:∀a∈ns.map gL,a<=M):M=(aK ns:Int):=by
 let(z,hz,e):=dB.mp h1;let(y,hy,ey):=IJ cP;have a1:=IK hz;have a2:=h2 (gL y) (dB.mpr #[y,hy,Z]);rw[zV]at e a2
 lia
def iT(p q:Int):Int:=(2*(p.natAbs:Int)+q)/(2*q)
def eT(p q:Int):Int:=if p>=0 then iT p q else-iT p q
structure xl(x p q:Int):Prop where
 lo:-q<=2*(x*q-p)
 hi:2*(x*q-p)<=q
 uF:2*(x*q-p)=q\/2*(x*q-p)=-q->p.natAbs<=(x*q).natAbs
theorem NF{p q:Int}(hq:0<q):2*q*iT p q<=2*(p.natAbs:Int)+q/\2*(p.natAbs:Int)+q<2*q*iT p q+2*q:=by have h:=Int.mul_ediv_add_emod (2*(p.natAbs:Int)+q) (2*q);have h0:=sG (2*(p.natAbs:Int)+q) (show 2*q≠0 by omega);have h1:=vi (2*(p.natAbs:Int)+q) (show 0<2*q by omega);unfold iT;constructor<;>omega
theorem NG{p q:Int}(hq:0<q):0<=iT p q:=Int.ediv_nonneg au au
theorem near_is{p q:Int}(hq:0<q):xl (eT p q) p q:=by
 let(h1,h2):=NF (p:=p) hq;have h0:=NG (p:=p) hq;rw[sF,vh q]at h1 h2;have hs0:0<=iT p q*q:=iG h0 (LR hq);unfold eT;split
 ·erw[?_,?_,λh=>?_]<;>(generalize iT p q*q=s at*;omega)
 ·erw[?_,?_,?_]<;>rw[Int.neg_mul]<;>(generalize iT p q*q=s at*;omega)
theorem yQ{x y q:Int}(hq:0<q)(h:x<y):x*q+q<=y*q:=by have:(x+1)*q<=y*q:=Al au au;rw[Int.add_mul,m7]at this;erw[this]
theorem a31{x y p q:Int}(hq:0<q)(a:xl x p q)(b:xl y p q):x=y:=by
 have key:∀{x y:Int},xl x p q->xl y p q->¬x<y:=λ{x y} a b h=>by
  have g:=yQ hq h;have e1:=a.lo;have e2:=a.hi;have e3:=b.lo;have e4:=b.hi;have f1:=a.uF;have f2:=b.uF;have hx:x*q=0\/q<=x*q\/x*q<=-q:=by
   rcases VY x 0 with h|h|h
   ·have:=yQ hq h;lia
   ·left;rw[h,Aj]
   ·have:=yQ hq h;lia
  have hy:y*q=0\/q<=y*q\/y*q<=-q:=by
   rcases VY y 0 with h|h|h
   ·have:=yQ hq h;lia
   ·left;rw[h,Aj]
   ·have:=yQ hq h;lia
  generalize x*q=u at*;generalize y*q=v at*;have hu:=f1 au;have hv:=f2 au
  lia
 rcases VY x y with h|h|h
 ·erw[absurd h (key a b)]
 ·erw[h]
 ·erw[absurd h (key b a)]
theorem Ib{x p q:Int}(hq:0<q)(a:xl x p q):x=eT p q:=a31 hq a (near_is hq)
theorem Ia{q:Int}(hq:0<q):eT 0 q=0:=(Ib hq #[au,au,λh=>by lia]).symm
theorem a33{n q:Int}(hq:0<q):eT (q*n) q=n:=by refine(Ib hq #[?_,?_,?_]).symm<;>rw[vh n q]<;>lia
theorem QS{p q:Int}(hq:0<q):eT (-p) q=-eT p q:=by let(a,b,c):=near_is (p:=p) hq;refine(Ib hq ?_).symm;erw[?_,?_,?_]<;>rw[Int.neg_mul]<;>omega
theorem a32{p q:Int}(hq:0<q)(hp:0<=p):0<=eT p q:=by unfold eT;rw[bu hp];erw[NG hq]
end _l
namespace _L
open PySem PySem.Spec PyProof.Rows
section
variable {prog:af}{w:World}{A:ah}{E:Value->ae->Prop}{s:ae}
end
theorem Ts{K:aa}{b1 b2:Bool}{a1 a2:Addr}{xs ys:List V}{g:TG}{tb:TS}{D:Ends}{O:St}{H:Hp}(n:Nat)(hn:n=min xs.length ys.length)(Pv:Nat->St->Hp->Prop)(h0:Pv 0 O H)(hl:∀i O H,i<=n->Pv i O H->fS b1 K H a1 xs/\fS b2 K H a2 ys) (hs:∀i x y O H,xs[i]? =some x->ys[i]? =some y->Pv i O H->∀T H',Nw H H' T (.tup [x,y])->g (.ref T) O H' λσ2 H2=>tb {D with nx:=Pv (i+1),ct:=Pv (i+1),bk:=D.nx} σ2 H2)(hd:∀O H,Pv n O H->D.nx O H): ∃W:Nat->Nat->St->Hp->Prop,(∃m,W 0 m O H)/\∀i m O H,W i m O H->((rW K b1 b2 a1 a2).stop i H/\D.nx O H)\/((rW K b1 b2 a1 a2).go i H/\∃N:St->Hp->Prop,(∀σ' H',N σ' H'->∃m',m'<m/\W (i+1) m' σ' H')/\∀x H',(rW K b1 b2 a1 a2).lB i H x H'->g x O H' λσ2 H2=>tb {D with nx:=N,ct:=N,bk:=D.nx} σ2 H2):=by
 erw[λi m O H=>m=n-i/\i<=n/\Pv i O H,#[n,by simp,gM _,h0],?_];rintro i m O H ⟨rfl,hi,p⟩;let(q1,q2):=hl i O H hi p;by_cases cK:i<n
 ·have l1:i<xs.length:=by lia
  have l2:i<ys.length:=by lia
  erw[.inr #[#[xs,ys,xs[i],ys[i],q1,q2,by simp[l1],by simp[l2]],Pv (i+1),λσ' H' p'=>#[n-(i+1),au,Z,cK,p'],λx H' y=>?_]];let(T,z1,z2,rfl,e1,e2,nw):=y;erw[hs i z1 z2 O H (e1 xs q1) (e2 ys q2) p T H' nw]
 ·have e:i=n:=by lia
  subst e;erw[.inl #[#[xs,ys,q1,q2,au],hd O H p]]
section
variable {X:Cx}
end
set_option maxHeartbeats 1000000 in
theorem tJ{X:Cx}{N:List Str}{js:List (Option Nat)}{elt tg iter:Expr}{ifs:List Expr}{scope:Scope}{pos:Pos}{wi:TI}{g:TG}{tt:TT}{te:TE}{i0:Nat}{x0:Str}{vO MK:Pos}(hNd:X.N.Nodup)(hix:X.N[i0]? =some x0)(Sr:Loc X.env.scope x0)(hc:X.calm=true)(hN:Dk X N js scope=true)(hS:xf X scope=true) (hi:PI X tg iter wi)(hg:∀cl s H fp ak,PG (fR X N scope cl s H fp ak) tg g)(ht:∀cl s H fp ak,L8 (fR X N scope cl s H fp ak) ifs tt)(he:∀cl s H fp ak,PE (fR X N scope cl s H fp ak) elt te) (hsw:autoParam (swapsWith (.ListComp elt [#[tg,iter,ifs,0]] scope pos) (some (.Name x0 vO)) MK.line X.env=pure true) r8_._auto_1)(hf0:autoParam (X.fn x0=true\/X.env.scope.names.lookup x0=some .local) d8_._auto_1) (hs:autoParam (∀x,foldedSetIterable iter X.env x=pure x) d8_._auto_1):PS X (.Assign [.Name x0 vO] (.ListComp elt [#[tg,iter,ifs,0]] scope pos) MK) (AR (Mp js wi g tt te) (gc i0)):=by
 intro ak s O H D0 I h;have uv:=hS;unfold xf at uv;rw[eX,eX]at uv;let((k1,k2),k3):=uv;have mR:scope.kind= .function:=fV.mp k1;have wM:∀x∈scope.names,x.2= .free->∃c,X.env.cells.lookup x.1=some c:=λx hx e=>by have:=gP.mp k3 x hx;rw[e]at this;erw[I.ok.has x.1 (.inl (fV.mp this))]
 have qZ:∀x∈scope.names,x.2≠ .cell:=λx hx e=>by have:=gP.mp k3 x hx;rw[e]at this;erw[dR this]
 have Jf:∀x∈scope.names,x.2= .local->scope.names.lookup x.1=some .local:=λx hx e=>by have:=gP.mp k3 x hx;rw[e]at this;erw[fV.mp this]
 let(cl,Ju,c1,c2):=UH wM;rw[exec_Assign_Name_used _ _ _ _ hsw];erw[aL (A4 (aL ?_))];show wpAny _ X.A (do let _<-comprehension (.ListComp elt [#[tg,iter,ifs,0]] scope pos) scope X.env _ (newList []) false (eval iter X.env) (some (assign (.Name x0 vO) X.env))) _ _ s;erw[aL (ji (wpAny_comprehension_free (use:=some (assign (.Name x0 vO) X.env)) (Q:=λ_ s'=>SP X ak D0 .next s') Z hs Ju mR Jf (ba (hi ak s O H _ I h) λv s1 h1=>ba h1 λC2 s2 h2=>?_)) (λ_ s' hq=>cn (cn hq)) λ_ _ e=>e)];let(it,fp,tn,J,H2,e,I2,T,sS,f2,h2):=h2;subst e;have hD:H2 s2.heap.objs.size=none:=I2.bA.fresh (bV _);let(W,(m0,w0),turn):=h2 _ _ (Nw.of hD);erw[nH (wpAny_newFunctionEnv qZ (by intro y hy;simp at hy) (λh₁ ze yY=>?_) mR)];have uC:∀b∈fp,b<s2.heap.objs.size:=λb hb=>by let(o,e,_):=T.obj _ _ sS b hb;erw[ck e]
 have I3:Inv X ak O (upd H2 s2.heap.objs.size (.lst [])) {s2 with heap:=s2.heap.push {cls:=.type "list",dict:=none,data:=.seq ([]:List Value).toArray}}:=I2.RF (its:=[]) (t':=s2.toks) .nil (gM _);generalize zr:s2.heap.push {cls:=.type "list",dict:=none,data:=.seq ([]:List Value).toArray}=h3 at I3 ze yY;have xZ:h3.objs.size=s2.heap.objs.size+1:=by rw[<-zr,vj]
 have IT:∀b o,s2.heap.get? b=some o->h3.get? b=some o:=λb o e=>by rw[<-zr];erw[cx _ e]
 have f3:∀b∈fp,lg X ak (upd H2 s2.heap.objs.size (.lst [])) b:=λb hb=>#[by rw[aU (dY (uC b hb))];exact(f2 b hb).1,(f2 b hb).2];have yT:∀b o,h3.get? b=some o->h₁.get? b=some o:=λb o e=>(yY.2 b (dY (ck e))).trans (cx _ e);have I4:Inv (fR X N scope cl {s2 with heap:=h3} (upd H2 s2.heap.objs.size (.lst [])) fp ak) [] (stC js O) (upd H2 s2.heap.objs.size (.lst [])) {s2 with heap:=h₁,toks:=s2.toks+([]:List (Str×Value)).length}:=I3.comp (s:={s2 with heap:=h3}) hN hS c1 c2 f3 (λb hb=>by show b<h3.objs.size;rw[xZ];erw[LI (uC b hb)]) (by simpa using ze) yT;have yb:tn 0 h₁:=T.keep _ _ _ sS λb _ o e=>yT b o (IT b o e);have loop:codeAny (model X.prog X.w) X.A (.compLoop (.ListComp elt [#[tg,iter,ifs,0]] scope pos) 0 (.ref it) (.ref s2.heap.objs.size) (compEnvC scope cl h3.objs.size X.env)) (compPost (model X.prog X.w) X.A X.xe (some (assign (.Name x0 vO) X.env)) (λ_ s'=>SP X ak D0 .next s') (.ref s2.heap.objs.size) h3.objs.size) {s2 with heap:=h₁,toks:=s2.toks+([]:List (Str×Value)).length}:=by
  erw[UD (λn s'=>∃i σ' H',Inv (fR X N scope cl {s2 with heap:=h3} (upd H2 s2.heap.objs.size (.lst [])) fp ak) [] σ' H' s'/\tn i s'.heap/\(∀b∈fp,H' b=none)/\W i n σ' H') ?_ m0 #[0,_,_,I4,yb,λb hb=>(f3 b hb).1,w0]];rintro n s5 ⟨i,σ5,H5,I5,oT,uB,w5⟩;have md:∀{H':Hp},(∀b∈fp,H' b=none)->∀b∈fp,lg (fR X N scope cl {s2 with heap:=h3} (upd H2 s2.heap.objs.size (.lst [])) fp ak) [] H' b:=λ{H'} hn b hb=>by
   let(_,q1,q2,q3,q4,q5):=f3 b hb;erw[hn b hb,λz=>?_,I4.ok.pO b hb,.inl hb,λx c e=>q4 x c (c1 x c e),λp hp=>q5 p (by simpa[fR]using hp)];have cK:b<h3.objs.size:=by rw[xZ];erw[LI (uC b hb)]
   erw[dY cK z]
  rcases turn i n σ5 H5 w5 with⟨stop,qn⟩|⟨go,step⟩
  ·erw[ba (T.done (fR X N scope cl {s2 with heap:=h3} (upd H2 s2.heap.objs.size (.lst [])) fp ak) rfl rfl rfl hc i [] s5 σ5 H5 _ I5 (md uB) oT stop) λr s6 #[hr,I6]=>?_]
   subst hr;let(m,hm,_):=I6.loc;have u0:Un (eZ X.stack) fp (upd H2 s2.heap.objs.size (.lst [])) H5 h3 s6.heap:=I6.aw;have I7:Inv X ak O H5 s6:=I3.Dm (s':=s6) (ch:=fp) I6.os u0 I6.bA I6.bare λb hb=>#[(f3 b hb).2.2.2.1,(f3 b hb).2.1,(f3 b hb).2.2.2.2.1,(f3 b hb).2.2.2.2.2];have hC:lg X ak H5 h3.objs.size:=I3.uD (bV _) I6.free;show wpAny _ X.A (assign (.Name x0 vO) X.env (.ref s2.heap.objs.size)) _ _ s6;erw[wpAny_assign_Name (Mz I7 hNd hix Sr (show RelV (.ref s2.heap.objs.size) (.ref s2.heap.objs.size)from Z) (λs8 I8 hsb=>?_) hf0)];let(a,sb,ha):=hsb;have hCa:h3.objs.size≠a:=by
    rcases ha with rfl|ha
    ·erw[hC.2.1]
    ·erw[λz=>hC.2.2.2.2.1 x0 a ha z.symm]
   erw[m,hm.sameBut sb hCa,λh9 hs9=>#[_,H5,?_,qn]];erw[I8.E6 (t':=s8.toks) (fp:=[h3.objs.size]) (λb o hb e=>hs9.extBut b o (λz=>hb (by simp[z])) e) λb hb=>by rw[cE.mp hb];erw[hC]]
  ·erw[ba (T.item (fR X N scope cl {s2 with heap:=h3} (upd H2 s2.heap.objs.size (.lst [])) fp ak) rfl rfl rfl hc i [] s5 σ5 H5 _ I5 (md uB) oT go) λr s6 #[u,hr,h6]=>?_]
   subst hr;erw[ba h6 λ_ s7 #[x,H7,I7,r7,y7,oS,JS]=>?_];have Lg:=I7.pinned (md JS) (T.obj _ _ oS);erw[ba (hg _ _ _ _ _ _ s7 σ5 H7 x u _ Lg r7 (step x H7 y7)) λ_ s8 #[σ8,H8,I8,q8]=>?_];erw[ba (ht _ _ _ _ _ _ s8 σ8 H8 _ I8 q8) λok s9 #[H9,I9,q9]=>?_];have again:∀{s':ae}{σ7:St}{H7:Hp},Inv (fR X N scope cl {s2 with heap:=h3} (upd H2 s2.heap.objs.size (.lst [])) fp ak) ([]++vU fp s7.heap) σ7 H7 s'->(∃m',m'<n/\W (i+1) m' σ7 H7)->∃m,m<n/\∃i σ' H',Inv (fR X N scope cl {s2 with heap:=h3} (upd H2 s2.heap.objs.size (.lst [])) fp ak) [] σ' H' s'/\tn i s'.heap/\(∀b∈fp,H' b=none)/\W i m σ' H':=λ{s' σ7 H7} J7 n7=>by let(m',hm,w7):=n7;erw[m',hm,i+1,σ7,H7,J7.xS,T.keep _ _ _ oS λb hb o e=>(J7.pin (b,o) (kG _ (kG _ (wB hb e)))).1,λb hb=>?_,w7];let(o,e,d):=T.obj _ _ oS b hb;exact(J7.pin (b,o) (kG _ (kG _ (wB hb e)))).2.1
   cases ok with |false=>rw[bo dR]at q9⊢;erw[again I9 q9] |true=>rw[bu rfl]at q9⊢;erw[ba (he _ _ _ _ _ _ s9 σ8 H9 _ I9 q9) λyv yp #[y,oH,Li,Hg,ys,C7,hz,vo]=>?_];erw[ba (Il _ yp σ8 oH (.ref s2.heap.objs.size) [y] (.ref s2.heap.objs.size) [yv] (λ_ iZ=>∃m',m'<n/\W (i+1) m' σ8 iZ) Li Z (.cons Hg .nil) #[_,ys,y,Z,Z,C7,hz,vo]) λ_ yo #[v11,iZ,Lh,ZH,Hh]=>?_];erw[again Lh Hh]
 erw[codeAny_compStart_list loop (T.self _ 0 _ _ _ yb loop)]
theorem gZ.Kt{X:Cx}{st:Stmt}{rest:List Stmt}{t u:TS}(h1:Vo X st t)(h2:fT X rest u):gZ X (st::rest) (xX t u):=by intro s O H D I h;erw[Lo (ba (h1 s O H {D with nx:=u D} I h) λf s1 q=>?_)];cases f with |next=>let(σ',H',I',q):=q;erw[h2 [] s1 σ' H' D I' q] |ret v=>erw[q] |brk=>erw[q] |cont=>erw[q]
theorem UM:∀{zs:List Str}{us:List Value},Vals (zs.map V.str) us->CarriedAll us (zs.map PyData.str) |[],_,.nil=>.nil |z::zs,_,.cons q r=>by let(t,rfl):=(show∃t,_=Value.str z t from q);erw[.cons (.str z t) (UM r)]
section
variable {X:Cx}
end
section
variable {X:Cx}{ak:List (Addr×Obj)}{O:St}{H:Hp}{s:ae}
end
section
variable {X:Cx}
theorem aak:fq X (.type "range") (λxs H Q=>∃n,xs=[.int n]/\∀p H',Nw H H' p (.tE 0 n)->Q (.ref p) H'):=by intro ak s O H xs us Q I r h;let(n,rfl,q):=h;let(u,rfl,t,rfl):=vals1 r;erw[call_range_1 ?_];have hf:H s.heap.objs.size=none:=I.bA.fresh (bV _);erw[.ref s.heap.objs.size,upd H s.heap.objs.size (.tE 0 n),I.laid (t':=s.toks+1+1) (λb u e=>cx _ e) (bV _) ?_,Z,q _ _ (.of hf)];erw[_,_,_,eP _ Z]
end
theorem Xy:isSubtype (.type "range_iterator") (.type "reversed")=pure false:=by rw[isSubtype_type];kernel_rfl
section
variable {prog:af}{w:World}{A:ah}{E:Value->ae->Prop}{s:ae}
abbrev yu(n:Nat):Obj:={cls:=.type "range_iterator",data:=.fields (List.toArray [rawInt (0+((n:Int)-1)*1),rawInt (n:Int),rawInt (-1)])}
abbrev GB(n:Nat):Bool:=Builtin.Range.rangeFitsLong 0&&Builtin.Range.rangeFitsLong n&&Builtin.Range.rangeFitsLong 1&&Builtin.Range.rangeFitsLong (-1)&&Builtin.Range.rangeFitsLong (0-1)&&Builtin.Range.rangeFitsLong (Builtin.Range.rangeSize 0 n 1)
theorem Pw{n:Nat}(h:n<2^62):GB n=true:=by unfold GB;rw[rangeSize_one];simp only[Builtin.Range.rangeFitsLong,eX,Aa];split<;>lia
theorem Za(r:Addr)(a b c:Int)(t u v:Tok)(hc0:¬(!(Builtin.Range.rangeFitsLong a&&Builtin.Range.rangeFitsLong b&&Builtin.Range.rangeFitsLong c&&Builtin.Range.rangeFitsLong (-c)&&Builtin.Range.rangeFitsLong (a-c)&&Builtin.Range.rangeFitsLong (Builtin.Range.rangeSize a b c)))=true):Meets (Builtin.«range.__reversed__» #[[.ref r],[]]) (λ_ R s=>s.heap.get? r=some {cls:=.type "range",dict:=none,data:=.fields (List.toArray [.int a t,.int b u,.int c v]),slots:=#[]}/\R (.ok (.ret (.ref s.heap.objs.size))) {s with heap:=s.heap.push {cls:=.type (if(Builtin.Range.rangeFitsLong a&&Builtin.Range.rangeFitsLong b&&Builtin.Range.rangeFitsLong c&&Builtin.Range.rangeFitsLong (-c)&&Builtin.Range.rangeFitsLong (a-c)&&Builtin.Range.rangeFitsLong (Builtin.Range.rangeSize a b c))=true then "range_iterator" else "longrange_iterator"),data:=.fields (List.toArray [rawInt (a+(Builtin.Range.rangeSize a b c-1)*c),rawInt (Builtin.Range.rangeSize a b c),rawInt (-c)])},toks:=s.toks}):=.of_wp λprog w A R s h=>by
 let(hp,g,d,tk,os):=s;let(hl,h):=h
 wp_walk;erw[_,Z,h]
theorem aai{l:Addr}{n:Nat}{t u v:Tok}{Q:Value->ae->Prop}(hn:n<2^62)(hl:s.heap.get? l=some {cls:=.type "range",data:=.fields (List.toArray [.int 0 t,.int n u,.int 1 v])}) (h:Q (.ref s.heap.objs.size) {s with heap:=s.heap.push (yu n)}):wpAny (model prog w) A (call (.builtin "range.__reversed__") [.ref l]) Q E s:=by
 have hT:s.TypeIs (.ref l) "range":=#[_,hl,Z];erw[Ab VZ hT F.entry_range_reversed (F.args_range_reversed_1 _) (Za l 0 n 1 t u v (by have:=Pw hn;unfold GB at this;rw[this];decide)) #[hl,?_]];rw[bu (Pw hn)];have e:Builtin.Range.rangeSize 0 n 1=n:=by rw[rangeSize_one];split<;>lia
 rw[e];erw[h]
theorem aaf{l:Addr}{n:Nat}{t u v:Tok}{Q₁:Value->ae->Prop}(hn:n<2^62)(hl:s.heap.get? l=some {cls:=.type "range",data:=.fields (List.toArray [.int 0 t,.int n u,.int 1 v])}) (h:Q₁ (.ref s.heap.objs.size) {s with heap:=s.heap.push (yu n)}): codeAny (model prog w) A (.call (.builtin "reversed.__new__") #[[.type "reversed",.ref l],[]]) (wants Q₁ E) s:=by
 have hT:s.TypeIs (.ref l) "range":=#[_,hl,Z];erw[codeAny_of_tree ?_];show wpAny _ A.in1 (do checkBuiltinCall "reversed.__new__" #[[.type "reversed",.ref l],[]];again (.builtin "reversed.__new__" #[[.type "reversed",.ref l],[]])) _ _ s;erw[aL (xB (F.newCall_reversed_1 _) (cn #[plainId_quiet F.plain_reversed_new _,codeAny_builtin F.entry_reversed_new ?_]))];rw[Around.under_plainId F.plain_reversed_new _];unfold Builtin.«reversed.__new__»;erw[aL (xB (newClass_reversed _) ?_)]
 try dsimp only
 erw[aL (xB (a:=()) (by first|rfl|kernel_rfl) ?_)];erw[aL (xB (a:=()) (by first|rfl|kernel_rfl) ?_)]
 try dsimp only
 erw[aL (Lm hT VZ.lookup ?_)]
 try dsimp only
 erw[aL (xB (VZ.bind _) ?_)]
 try dsimp only
 first |rw[bo (show¬((Value.builtin "range.__reversed__"==Value.none)=true)from dR)] |(show wpAny _ _ (if(Value.builtin "range.__reversed__"==Value.none)=true then _ else _) _ _ _;rw[bo (show¬((Value.builtin "range.__reversed__"==Value.none)=true)from dR)])
 erw[aL (A6 ?_)];erw[aL (m:=runValue (.call (.builtin "range.__reversed__") #[[.ref l],[]])) (show wpAny _ _ (call (.builtin "range.__reversed__") [.ref l]) _ _ _ from aai hn hl ?_)]
 first |erw[cn h] |erw[aL (cn (cn h))]
theorem aaj{l:Addr}{n:Nat}{t u v:Tok}{Q:Value->ae->Prop}(hn:n<2^62)(hl:s.heap.get? l=some {cls:=.type "range",data:=.fields (List.toArray [.int 0 t,.int n u,.int 1 v])}) (h:Q (.ref s.heap.objs.size) {s with heap:=s.heap.push (yu n)}):wpAny (model prog w) A (call (.type "reversed") [.ref l]) Q E s:=by erw[callType_other (U:="range_iterator") (Q₁:=λobj s₁=>obj= .ref s.heap.objs.size/\s₁={s with heap:=s.heap.push (yu n)}) aH F.create_reversed #[_,_,F.mro_reversed] F.made_reversed Xy (F.typeCall_reversed_1 _) (aaf hn hl #[Z,Z]) ?_];rintro obj s₁ ⟨rfl,rfl⟩;erw[#[_,eP _ Z,Z],h]
end
def A0(n:Nat):It:=#[λi _=>i<n,λi H x H'=>H'=H/\x= .int ((n:Int)-1-i),λi _=>n<=i]
theorem WI{P:af}{w:World}{K:aa}{tg:Expr}(it:Addr)(n:Nat):Turn P w K tg (A0 n) [it] it (λi h=>IsRangeIter h it ((0+((n:Int)-1)*1)+(i:Nat)*(-1)) ((n:Int)-(i:Nat)) (-1)) where
 mem:=by simp
 obj:=λi h st b hb=>by
  have e:b=it:=by simpa using hb
  subst e;erw[_,st,λv z=>by have z':Data.fields _=Data.cell v:=z;cases z']
 keep:=λi h h' st k=>k it (by simp) _ st
 item:=by
  intro X hP hw hK hc i ak s O H E I hf st hg;subst hP hw hK;let(f0,f1,f2,f3,f4,f5):=hf it (by simp);have W:=Walks.range (prog:=X.prog) (w:=X.w) (I.ok.hd hc) it (0+((n:Int)-1)*1) (-1) n;erw[W.item i s _ _ hg st λv h' tk hv ie kk=>?_];let(t,rfl):=hv;have I1:Inv X ak O H {s with heap:=h',toks:=tk}:=I.turned (λb o hb e=>kk b o (by simpa using hb) e) f0 f1 f3 f4 f5;erw[_,Z,zy (s:={s with heap:=h',toks:=tk}) (n:="range_iterator") ie rfl rfl ay #[.int ((n:Int)-1-i),H,I1,#[t,?_],#[Z,Z],ie,λb hb=>(hf b hb).1]];have e:(0+((n:Int)-1)*1)+(i:Int)*(-1)=(n:Int)-1-i:=by lia
  rw[e]
 done:=by intro X hP hw hK hc i ak s O H E I hf st hg;subst hP hw hK;let(f0,f1,f2,f3,f4,f5):=hf it (by simp);erw[wpAny_pyNext_range_end (I.ok.hd hc) st (by have:n<=i:=hg;lia) λh' eb=>#[Z,I.turned (t':=s.toks) (λb o hb e=>eb b o hb e) f0 f1 f3 f4 f5]]
 self:=λ_ _ _ _ _ st h=>Vv st h
inductive adu(R:It->Hp->Prop)(vs:List V)(H1:Hp):Prop |mk (p:_)(n:_)(h0:vs=[.ref p])(h1:H1 p=some (.tE 0 n))(h2:0<=n)(h3:n<2^62)(h4:R (A0 n.toNat) H1)
def a4X(ta:TA):TI:=λO H R=>ta O H λvs H1=>adu R vs H1
theorem ZX{X:Cx}{tg:Expr}{a:Expr}{ta:TA}{p pos:Pos}(hg:Gl X "reversed")(hm:X.mg "reversed"=none)(ha:PA X [a] ta)(hs:autoParam (starEach [a] X.env=[(false,eval a X.env)]) r8_._auto_1)(mI:autoParam (starEach [] X.env=[]) r8_._auto_1): PI X tg (.Call (.Name "reversed" p) [a] [] pos) (a4X ta):=by
 intro ak s O H R I h;erw[Call_ (uc I hg hm PyProof.Rows.boot_reversed (DJ (ba (ha pos ak s O H _ I h) λus s1 #[vs,H1,I1,r1,q1]=>?_) (by rw[hs,mI]) (by rw[mI];rfl)))];let(l,n,e,hl,n0,n1,q):=q1;subst e;let(u1,rfl,tq):=vals1 r1;cases(show u1=Value.ref l from tq);obtain⟨t,u,v,e⟩:∃t u v,s1.heap.get? l=some {cls:=.type "range",data:=.fields (List.toArray [.int 0 t,.int n u,.int 1 v])}:=I1.bA l _ hl;obtain⟨m,rfl⟩:∃m:Nat,n=m:=#[n.toNat,au];erw[aaj au e ?_];have hit:IsRangeIter (s1.heap.push (yu m)) s1.heap.objs.size ((0+((m:Int)-1)*1)+((0:Nat):Int)*(-1)) ((m:Int)-((0:Nat):Int)) (-1):=by
  have e1:(0+((m:Int)-1)*1)+((0:Nat):Int)*(-1)=0+((m:Int)-1)*1:=by lia
  have e2:(m:Int)-((0:Nat):Int)=m:=by lia
  rw[e1,e2];erw[eP _ rfl]
 erw[Vv hit ?_];erw[s1.heap.objs.size,[s1.heap.objs.size],_,_,H1,Z,I1.kept (t':=s1.toks) λb o e=>cx _ e,WI _ m,hit,λb hb=>?_,q];have e:b=s1.heap.objs.size:=by simpa using hb
 subst e;erw[I1.uD (bV _) (I1.bA.fresh (bV _))]
theorem a7W{n:Nat}{g:TG}{tb:TS}{D:Ends}{O:St}{H:Hp}(Pv:Nat->St->Hp->Prop)(h0:Pv 0 O H) (hs:∀i O H,i<n->Pv i O H->g (.int ((n:Int)-1-i)) O H λσ2 H2=>tb {D with nx:=Pv (i+1),ct:=Pv (i+1),bk:=D.nx} σ2 H2)(hd:∀O H,Pv n O H->D.nx O H): ∃W:Nat->Nat->St->Hp->Prop,(∃m,W 0 m O H)/\∀i m O H,W i m O H->((A0 n).stop i H/\D.nx O H)\/((A0 n).go i H/\∃N:St->Hp->Prop,(∀σ' H',N σ' H'->∃m',m'<m/\W (i+1) m' σ' H')/\∀x H',(A0 n).lB i H x H'->g x O H' λσ2 H2=>tb {D with nx:=N,ct:=N,bk:=D.nx} σ2 H2):=by
 erw[λi m O H=>m=n-i/\i<=n/\Pv i O H,#[n,by simp,gM _,h0],?_];rintro i m O H ⟨rfl,hi,p⟩;by_cases cK:i<n
 ·erw[.inr #[cK,Pv (i+1),λσ' H' q=>#[n-(i+1),au,Z,cK,q],λx H' hy=>?_]]
  let(rfl,rfl):=hy;erw[hs i O _ cK p]
 ·have e:i=n:=by lia
  subst e;erw[.inl #[bV _,hd O H p]]
theorem yy(K:aa){X:Cx}(hK:X.K=K){a:Expr}{ta:TE}(ha:PE X a ta)(he:autoParam (∀whole,isTrue a X.env whole=(do let v<-whole;standAt a.pos;holding [v] (truthy v))) d8_._auto_1): PT X a (λO H Q=>ta O H λx H'=>∃k,L5 K x H' k/\Q k H'):=by subst hK;erw[ZI ha he]
end _L
namespace _C
open _l
def gm(ns ms:List Int):List Int:=(ns.zip ms).map λp=>p.1*(aK ms:Int)-p.2*(aK ns:Int)
theorem a3p{ns ms:List Int}{z:Int}(h:z∈gm ns ms):∃a b,a∈ns/\b∈ms/\z=a*(aK ms:Int)-b*(aK ns:Int):=by let((a,b),hp,rfl):=dB.mp h;erw[a,b,(xH hp).1,(xH hp).2,Z]
theorem nX{a b:Int}{m n:Nat}(h:a.natAbs<=m)(g:b.natAbs<=n):(a*b).natAbs<=m*n:=by rw[hZ];erw[qk h g]
theorem Kr{ns ms:List Int}(h1:∀z∈ns,z.natAbs<=1000)(h2:∀z∈ms,z.natAbs<=1000):∀z∈gm ns ms,z.natAbs<=2000000:=λz hz=>by let(a,b,ha,hb,rfl):=a3p hz;have l1:=pk h1;have l2:=pk h2;have e1:=nX (b:=(aK ms:Int)) (n:=1000) (h1 a ha) bR;have e2:=nX (b:=(aK ns:Int)) (n:=1000) (h2 b hb) bR;omega
def qW(zs:List Int)(i:Nat):Nat:=aK (zs.take i)
theorem RR:∀(xs ys:List Int),aK (xs++ys)=max (aK xs) (aK ys) |[],ys=>by simp[aK] |x::xs,ys=>by show max x.natAbs (aK (xs++ys))=max (max x.natAbs (aK xs)) (aK ys);rw[RR xs ys];lia
theorem a61{zs:List Int}{i:Nat}{z:Int}(h:zs[i]? =some z):qW zs (i+1)=max (qW zs i) z.natAbs:=by
 unfold qW;rw[sD,h,RR];show max _ (max z.natAbs 0)=_
 lia
def uM(r:Rat):Rat:=if r.num<0 then-r else r
theorem ab4(r:Rat):(uM r).num=gL r.num:=by
 unfold uM gL;split
 ·rfl
 ·rfl
theorem ab6(r:Rat):(uM r).den=r.den:=by
 unfold uM;split
 ·rfl
 ·rfl
theorem a9V{a b:Int}(hb:0<b):0<=(Rat.divInt a b).num↔0<=a:=by rw[Lv,xD hb]
theorem ab5{c L:Int}(hL:0<L):uM (Rat.divInt c L)=Rat.divInt (gL c) L:=by
 have h:=a9V (a:=c) hL;unfold uM gL;by_cases hc:c<0
 ·rw[bu hc,bu au,Rat.neg_divInt]
 ·rw[bo hc,bo au]
theorem Kl{a b L:Int}(hL:0<L):Rat.divInt a L<=Rat.divInt b L↔a<=b:=by
 rw[Rat.le_iff_sub_nonneg,VB _ _ au au,xD (j8 hL hL),<-Int.sub_mul];constructor
 ·intro h
  have:=Int.nonneg_of_mul_nonneg_left h hL
  lia
 ·intro h
  erw[iG au au]
theorem Um{a b L:Int}(hL:0<L):Rat.divInt a L<Rat.divInt b L↔a<b:=by rw[<-Rat.not_le,Kl hL];lia
theorem Xx{a b l1 l2:Int}(h1:0<l1)(h2:0<l2):Rat.divInt b l2-Rat.divInt a l1=Rat.divInt (b*l1-a*l2) (l1*l2):=by rw[VB _ _ au au,vh l2 l1]
theorem aa8{j p q h L:Int}(hp:p≠0)(hh:h≠0)(e:p*L=h*q):Rat.divInt (j*j*q*q) (p*p)=Rat.divInt ((j*L)^2) (h^2):=by
 rw[Rat.divInt_eq_divInt_iff (LP hp hp) (by rw[gC,gC,nJ,m7];erw[LP hh hh])];have e2:(p*L)*(p*L)=(h*q)*(h*q):=by rw[e]
 rw[gC,gC,nJ,m7,gC,gC,nJ,m7];have a1:j*j*q*q*(h*h)=(j*j)*((h*q)*(h*q)):=by ac_rfl
 have a2:j*L*(j*L)*(p*p)=(j*j)*((p*L)*(p*L)):=by ac_rfl
 rw[a1,a2,e2]
end _C
namespace _P
def mn(a b:Rat):Rat:=if b<a then b else a
theorem ij(a b:Rat):mn a b<=a:=by
 unfold mn;split
 ·next h=>erw[Rat.le_of_lt h]
 ·erw[si]
theorem mF(a b:Rat):mn a b<=b:=by
 unfold mn;split
 ·erw[si]
 ·next h=>erw[DG.mp h]
theorem o9{a b c:Rat}(h1:c<=a)(h2:c<=b):c<=mn a b:=by unfold mn;split<;>assumption
theorem BO(a b:Rat):mn a b=a\/mn a b=b:=by
 unfold mn;split
 ·erw[.inr rfl]
 ·erw[.inl rfl]
theorem yR{a b c:Rat}(hc:c=a\/c=b)(h1:c<=a)(h2:c<=b):mn a b=c:=by
 rcases hc with rfl|rfl
 ·erw[Lx (ij _ _) (o9 h1 h2)]
 ·erw[Lx (mF _ _) (o9 h1 h2)]
theorem a4f{a b c:Rat}(h:a<=b)(hc:0<=c):a<=b+c:=eM h (by have:=(Rat.add_le_add_left (c:=b)).mpr hc;rwa [Rat.add_zero]at this)
section
variable (n:Nat)(own:Nat->Rat)(L:Nat->Option Nat)(r f:Int)
def Pz(g:Nat->Rat):Nat->Rat |0=>g n |k+1=>match L (n-(k+1))with |some m=>mn (g (n-(k+1))) (Pz g k+((f*(m:Int):Int):Rat)) |none=>g (n-(k+1))
def fl(g:Nat->Rat)(i:Nat):Rat:=Pz n L f g (n-i)
end
section
variable {n:Nat}{own g:Nat->Rat}{L:Nat->Option Nat}{r f:Int}
theorem CL:fl n L f g n=g n:=by unfold fl;rw[DL];rfl
theorem CM{i m:Nat}(hi:i<n)(h:L i=some m):fl n L f g i=mn (g i) (fl n L f g (i+1)+((f*(m:Int):Int):Rat)):=by
 unfold fl;have e:n-i=(n-(i+1))+1:=by omega
 rw[e];show(match L (n-((n-(i+1))+1))with|some m=>_|none=>_)=_;have e2:n-((n-(i+1))+1)=i:=by omega
 rw[e2,h]
theorem CK{i:Nat}(hi:i<n)(h:L i=none):fl n L f g i=g i:=by
 unfold fl;have e:n-i=(n-(i+1))+1:=by lia
 rw[e];show(match L (n-((n-(i+1))+1))with|some m=>_|none=>_)=_;have e2:n-((n-(i+1))+1)=i:=by lia
 rw[e2,h]
theorem down{C:Nat->Prop}(hn:C n)(hs:∀i,i<n->C (i+1)->C i):∀i,i<=n->C i:=by
 have key:∀k,k<=n->C (n-k):=λk=>by induction k with |zero=>intro _;erw[hn] |succ k ih=>
  intro hk;erw[hs _ bR ?_];have e:n-(k+1)+1=n-k:=by omega
  rw[e];erw[ih bR]
 intro i hi;have:=key (n-i) bR;have e:n-(n-i)=i:=by omega
 rwa [e]at this
end
open _r
theorem BP{n:Nat}{a b:Rat}(h1:Bd n a)(h2:Bd n b):Bd n (mn a b):=by rcases BO a b with e|e<;>rw[e]<;>assumption
theorem L1{n:Nat}{q:Rat}{z:Int}(h:Bd n q)(hz:z.natAbs<2^24):Bd (n+25) (q+(z:Rat)):=by have b:Bd 24 (z:Rat):=#[hz,by show 1<2^24;decide];exact(h.add b).mono au
theorem a81{n b:Nat}{g:Nat->Rat}{L:Nat->Option Nat}{f:Int}(ho:∀i,i<=n->Bd b (g i))(hL:∀i m,L i=some m->(f*(m:Int)).natAbs<2^24):∀i,i<=n->Bd (b+25*(n-i)) (fl n L f g i):=by
 erw[down ?_ λi hi ih=>?_]
 ·rw[CL];exact(ho n (bV _)).mono au
 ·cases h:L i with |none=>rw[CK hi h];exact(ho i au).mono au |some m=>rw[CM hi h];erw[BP ((ho i au).mono au) ((L1 ih (hL i m h)).mono au)]
def lst(n:Nat)(g:Nat->Rat):List Rat:=(List.range (n+1)).map g
theorem u7(n:Nat)(g:Nat->Rat):(lst n g).length=n+1:=by simp[lst]
theorem u9{n:Nat}(g:Nat->Rat){i:Nat}(h:i<=n):(lst n g)[i]? =some (g i):=by unfold lst;rw[cj,cB (by simp;lia),DQ];rfl
theorem a3P{n:Nat}{g g':Nat->Rat}{i:Nat}(h:∀k,k<=n->k≠i->g' k=g k):(lst n g).set i (g' i)=lst n g':=by
 apply DR;intro k;by_cases hk:k<=n
 ·rw[u9 g' hk,List.getElem?_set]
  by_cases e:i=k
  ·subst e;rw[bu rfl,bu (by rw[u7];lia)]
  ·rw[bo e,u9 g hk,h k hk (λz=>e z.symm)]
 ·rw[vf (by rw[xM,u7];lia),vf (by rw[u7];lia)]
theorem Iy{n:Nat}{g g':Nat->Rat}(h:∀k,k<=n->g' k=g k):lst n g=lst n g':=by
 apply DR;intro k;by_cases hk:k<=n
 ·rw[u9 g hk,u9 g' hk,h k hk]
 ·rw[vf (by rw[u7];lia),vf (by rw[u7];lia)]
end _P
namespace _O
open _P _C _l _r
abbrev Itm:=Option (List Int × Int)
def topR(aA sp:Int):Rat:=Rat.divInt ((sp*aA)^2) 10000
def cornO(j:Int)(ns ms:List Int):Option Rat:=if aK (gm ns ms)=0 then none else some (Rat.divInt ((j*aK ns*aK ms)^2) ((aK (gm ns ms):Int)^2))
def mnO(a:Rat):Option Rat->Rat |none=>a |some c=>mn a c
def betR(j aA:Int):Itm->Itm->Rat |some (ns,sp),some (ms,sq)=>mnO (mn (topR aA sp) (topR aA sq)) (cornO j ns ms) |_,_=>0
def atO(os:List Itm)(i:Nat):Itm:=(os[i]?).join
def ownF(j aA:Int)(os:List Itm):Nat->Rat |0=>0 |i+1=>betR j aA (atO os i) (atO os (i+1))
def leadF(os:List Itm)(i:Nat):Option Nat:=(atO os i).map λq=>aK q.1
def ownL(j aA:Int)(os:List Itm):List Rat:=(List.range (os.length+1)).map (ownF j aA os)
theorem Dv{os:List Itm}{i:Nat}{o:Itm}(h:os[i]? =some o):atO os i=o:=by unfold atO;rw[h];rfl
theorem aaO{os:List Itm}{i:Nat}(h:os.length<=i):atO os i=none:=by unfold atO;rw[vf h];rfl
theorem UY(j aA:Int)(o:Itm):betR j aA o none=0:=by unfold betR;split<;>simp_all
theorem aaE(j aA:Int)(o:Itm):betR j aA none o=0:=by unfold betR;split<;>simp_all
theorem a0t(j aA:Int)(os:List Itm):∀n,n=os.length->ownF j aA os n=0 |0,_=>rfl |n+1,h=>by show betR j aA (atO os n) (atO os (n+1))=0;rw[aaO (i:=n+1) au];erw[UY _ _ _]
theorem a0p(j aA:Int)(os:List Itm):(ownL j aA os).length=os.length+1:=by simp[ownL]
theorem a0q(j aA:Int)(os:List Itm){i:Nat}(h:i<=os.length):(ownL j aA os)[i]? =some (ownF j aA os i):=by unfold ownL;rw[cj,cB (by simp;lia),DQ];rfl
theorem a0r(j aA:Int){os:List Itm}(h:os≠[]):ownL j aA os=[0]++(List.range (os.length-1)).map (λi=>ownF j aA os (i+1))++[0]:=by
 have h0:0<os.length:=DP.mpr h;apply DR;intro i;by_cases hi:i<=os.length
 ·rw[a0q j aA os hi]
  rcases Nat.eq_zero_or_pos i with rfl|hp
  ·rfl
  ·by_cases hl:i=os.length
   ·rw[xO (by simp;lia),hl,a0t j aA os _ rfl]
    have:os.length-([0]++List.map (λi=>ownF j aA os (i+1)) (List.range (os.length-1))).length=0:=by simp;lia
    rw[this];rfl
   ·rw[vg (by simp;lia),xO (by simp;lia),cj]
    have e:i-[(0:Rat)].length=i-1:=rfl;rw[e,cB (by simp;lia),DQ];show some _=some (ownF j aA os (i-1+1));rw[Nat.sub_add_cancel hp]
 ·rw[vf (by rw[a0p];lia),vf (by simp;lia)]
theorem AL(aA sp:Int):0<=topR aA sp:=by
 unfold topR;rw[xD ay,gC,gC,nJ,m7];rcases Int.le_total 0 (sp*aA)with h|h
 ·erw[iG h h]
 ·erw[VX h h]
theorem XS(a:Int):0<=a^2:=by
 rw[gC,gC,nJ,m7];rcases Int.le_total 0 a with h|h
 ·erw[iG h h]
 ·erw[VX h h]
theorem aa9{j:Int}{ns ms:List Int}{c:Rat}(h:cornO j ns ms=some c):0<=c:=by
 unfold cornO at h;split at h
 ·cases h
 ·next h0=>
  cases h;rw[xD]
  ·erw[XS _]
  ·rw[gC,gC,nJ,m7];erw[j8 au au]
theorem aaF(j aA:Int)(o p:Itm):0<=betR j aA o p:=by
 unfold betR;split
 ·next ns sp ms sq=>
  have h:=o9 (AL aA sp) (AL aA sq);unfold mnO;split
  ·erw[h]
  ·next c e=>erw[o9 h (aa9 e)]
 ·erw[si]
theorem a0s(j aA:Int)(os:List Itm):∀i,0<=ownF j aA os i |0=>si |i+1=>aaF _ _ _ _
def OkI(o:Itm):Prop:=∀ns sp,o=some (ns,sp)->(∀z∈ns,(z.natAbs:Int)<=100)/\1<=sp/\sp<=20
theorem Ei{a:Int}{m:Nat}(h:a.natAbs<=m):(a^2).natAbs<=m*m:=by rw[gC,gC,nJ,m7];erw[nX h h]
theorem AM{aA sp:Int}(h1:1<=sp)(h2:sp<=20)(h3:10<=aA)(h4:aA<=200):Bd 64 (topR aA sp):=by
 have pK:(2:Nat)^64=18446744073709551616:=by decide
 have a:=Ei (nX (a:=sp) (b:=aA) (m:=20) (n:=200) au au);erw[lH ay (by rw[pK];lia) ay]
theorem Uz{j:Int}{ns ms:List Int}{c:Rat}(h1:1<=j)(h2:j<=50)(hn:∀z∈ns,(z.natAbs:Int)<=100)(hm:∀z∈ms,(z.natAbs:Int)<=100)(h:cornO j ns ms=some c):Bd 64 c:=by
 have pK:(2:Nat)^64=18446744073709551616:=by decide
 have cb:=Kr (λz hz=>by have:=hn z hz;lia) (λz hz=>by have:=hm z hz;lia) (ns:=ns) (ms:=ms);have hb:=pk cb;have l1:=pk (ns:=ns) (m:=100) λz hz=>by have:=hn z hz;lia
 have l2:=pk (ns:=ms) (m:=100) λz hz=>by have:=hm z hz;lia
 unfold cornO at h;split at h
 ·cases h
 ·next h0=>cases h;have a:=Ei (nX (nX (a:=j) (b:=(aK ns:Int)) (m:=50) (n:=100) au au) (b:=(aK ms:Int)) (n:=100) au);have b:=Ei (a:=(aK (gm ns ms):Int)) (m:=2000000) au;erw[lH ?_ (by rw[pK];lia) (by rw[pK];lia)];rw[gC,gC,nJ,m7];erw[LP au au]
theorem BP{n:Nat}{a b:Rat}(h1:Bd n a)(h2:Bd n b):Bd n (mn a b):=by rcases BO a b with e|e<;>rw[e]<;>assumption
theorem LV:Bd 64 (0:Rat):=#[ ay,ay]
theorem aaG{j aA:Int}{o p:Itm}(h1:1<=j)(h2:j<=50)(h3:10<=aA)(h4:aA<=200)(ho:OkI o)(hp:OkI p):Bd 64 (betR j aA o p):=by
 unfold betR;split
 ·next ns sp ms sq=>
  let(a1,a2,a3):=ho ns sp rfl;let(b1,b2,b3):=hp ms sq rfl;have h:=BP (AM a2 a3 h3 h4) (AM b2 b3 h3 h4);unfold mnO;split
  ·erw[h]
  ·next c e=>erw[BP h (Uz h1 h2 a1 b1 e)]
 ·erw[LV]
def OkIs(os:List Itm):Prop:=∀i,OkI (atO os i)
theorem Qs{j aA:Int}{os:List Itm}(h1:1<=j)(h2:j<=50)(h3:10<=aA)(h4:aA<=200)(ho:OkIs os):∀i,Bd 64 (ownF j aA os i) |0=>LV |i+1=>aaG h1 h2 h3 h4 (ho i) (ho (i+1))
end _O
namespace _W
open PySem _L
def dH(pl ns:List Int):List Int:=List.zipWith (λa b=>a+b) pl ns
theorem ny{pl ns:List Int}(h:ns.length=pl.length):(dH pl ns).length=pl.length:=by unfold dH;rw[List.length_zipWith,h];erw[Nat.min_self _]
theorem zU{pl ns:List Int}{i:Nat}{a b:Int}(h1:pl[i]? =some a)(h2:ns[i]? =some b):(dH pl ns)[i]? =some (a+b):=by unfold dH;rw[VS,h1,h2]
structure fF(rs pl:List Int):Prop where
 len:pl.length=rs.length
 at':∀(i:Nat)(x r:Int),pl[i]? =some x->rs[i]? =some r->0<=x/\x<=r
end _W
namespace _L
open PySem PySem.Spec PyProof.Rows
inductive adj(K:aa)(x:V)(y:V)(H:Hp)(Q:VK):Prop |mk (a:_)(b:_)(xs:_)(ys:_)(h0:x= .ref a)(h1:y= .ref b)(h2:bc K H a xs)(h3:bc K H b ys)(h4:xs.length+ys.length<=sizeLine)(h5:∀c H',aF H H'->bc K H' c (xs++ys)->Q (.ref c) H')
def ZD(K:aa):R2:=λx y H Q=>adj K x y H Q
section
variable {X:Cx}
theorem UK(K:aa)(hK:X.K=K):cV X (binaryOp .Add) (ZD K):=by
 subst hK;intro ak s O H x y v u Q I rx ry h;let(a,b,xs,ys,rfl,rfl,ha,hb,hz,q):=h;cases rx;cases ry;let(its,r1,p1,_):=I.tuple ha;let(kS,r2,p2,_):=I.tuple hb;by_cases e0:xs=[]
 ·subst e0
  have i0:its=[]:=r1.HZ.mpr rfl;subst i0;let((cls,dd,data,sl),ho,hc,n,hd):=id p1;let((UG,x9,data2,sl2),lR,gI,n2,hd2):=id p2;simp only at hc hd gI hd2;subst hc hd gI hd2;erw[concat_meets #[_,ho,Z] #[_,lR,Z] noFill_tuple_add seq_tuple_add VE VG (VH _ _) (tuple_addW0 a b _ kS.toArray n n2 dd x9 sl sl2 (by simp)) #[ho,lR,#[.ref b,H,I,Z,q _ _ (aF.refl H) hb]]]
 ·erw[_H.aag p1 p2 (λz=>e0 (r1.HZ.mp z)) (λz=>#[.ref a,H,I,Z,?_]) (λz=>?_) (by rw[<-r1.length,<-r2.length];erw[hz])]
  ·have e1:ys=[]:=r2.HZ.mp z
   subst e1;erw[q _ _ (aF.refl H) (by rw[qo];erw[ha])]
  ·have hf:H s.heap.objs.size=none:=I.bA.fresh (bV _)
   have nw:Nw H (upd H s.heap.objs.size (.tup (xs++ys))) s.heap.objs.size (.tup (xs++ys)):=.of hf;erw[.ref s.heap.objs.size,_,I.laid (t':=s.toks) (o:=.tup (xs++ys)) (λb ob q=>cx _ q) (bV _) ?_,Z,q _ _ nw.same (bc.of nw.at')];erw[by rw[fH];erw[hz],_,r1.append r2,IsTup.new _ _]
end
theorem Uw(xs:List V):jC xs none (some (-1))=xs.take (xs.length-1):=by
 unfold jC;have e:=_H.Kx (-1) xs.length xs.length;rw[_H.Pq];have e2:_H.cu xs.length xs.length (some (-1))=xs.length-1:=by simp at e;omega
 rw[e2];simp
section
variable {X:Cx}
theorem a0h(K:aa)(h:X.K=K){o e:Expr}{to:TE}{t:TA}{apos da:Pos}(ho:PE X o to)(ha:PA X [e] t) (mV:autoParam (attributeBase o "extend" X.env (eval o X.env)=eval o X.env) r8_._auto_1) (mS:autoParam (((backTo da (starEach [e] X.env)).all (λx=>!x.1)&&(backToKw da (keywordEach [] X.env)).all (λx=>x.1.isSome) &&decide ([e].length+([]:List Keyword).length+(if([]:List Keyword).isEmpty then 0 else 1)<30))=true) r8_._auto_1) (mO:autoParam ((apos.endLine==da.line)=true) r8_._auto_1)(hs:autoParam (starEach [e] X.env=(false,eval e X.env)::starEach [] X.env) r8_._auto_1)(mJ:autoParam ((backTo da (starEach [] X.env)).any (·.1)=false) r8_._auto_1): PE X (.Call (.Attribute o "extend" apos) [e] [] da) (vw K "list" Q9 to t):=by subst h;erw[yB PySem.F.plainAttrs_list PySem.F.slot_list_extend PySem.F.type_list_extend a3f ho ha mV mS mO hs mJ]
open PyProof
end
end _L
namespace _L
open PySem PySem.Spec PyProof.Rows
section
variable {K:aa} {H H' H2:Hp}
end
def Le(z:Str):It:=#[λi _=>i<z.cps.size,λi H x H'=>H'=H/\∃c,z.cps.toList[i]? =some c/\x= .str ⟨#[c]⟩,λi _=>z.cps.size<=i]
theorem WH{P:af}{w:World}{K:aa}{tg:Expr}(it:Addr)(z:Str)(t:Tok)(ty:String)(J3:["enumerate","zip","dict_itemiterator","dict_reverseitemiterator","odict_iterator","itertools.zip_longest","itertools.pairwise"].contains ty=false) (W:∀A':ah,A'.handled=none->Walks P w A' it [it] [it] z.cps.size (SignAt z) (λi h=>h.IsStrIter it ty z t i)) (self:∀(A:ah)(i:Nat)(s:ae)(Q:Value->ae->Prop)(E:Value->ae->Prop),s.heap.IsStrIter it ty z t i->Q (.ref it) s->wpAny (model P w) A (pyIter (.ref it)) Q E s): Turn P w K tg (Le z) [it] it (λi h=>h.IsStrIter it ty z t i/\i<=z.cps.size) where
 mem:=by simp
 obj:=λi h st b hb=>by
  have e:b=it:=by simpa using hb
  subst e;let((o,e,c,d),_):=st;erw[o,e,λv z=>by rw[d]at z;cases z]
 keep:=λi h h' st k=>#[let#[o,e,r]:=st.1;#[o,k it (by simp) o e,r],st.2]
 item:=by intro X hP hw hK hc i ak s O H E I hf st hg;subst hP hw hK;let(f0,f1,f2,f3,f4,f5):=hf it (by simp);refine(W X.A (I.ok.hd hc)).item i s _ _ hg st.1 λv h' tk hv ie kk=>?_;let(c,u,ec,rfl):=hv;have I1:Inv X ak O H {s with heap:=h',toks:=tk}:=I.turned (λb o hb e=>kk b o (by simpa using hb) e) f0 f1 f3 f4 f5;let(o,e,cl,d):=id ie;erw[_,Z,zy (s:={s with heap:=h',toks:=tk}) e cl d J3 #[.str ⟨#[c]⟩,H,I1,#[u,Z],#[Z,c,by simpa using ec,Z],#[ie,hg],λb hb=>(hf b hb).1]]
 done:=by intro X hP hw hK hc i ak s O H E I hf st hg;subst hP hw hK;let(f0,f1,f2,f3,f4,f5):=hf it (by simp);let(st,hle):=st;have ei:i=z.cps.size:=Nat.le_antisymm hle hg;subst ei;exact(W X.A (I.ok.hd hc)).done s _ _ st λh' tk eb=>#[Z,I.turned (λb o hb e=>eb b o (by simpa using hb) e) f0 f1 f3 f4 f5]
 self:=λA i s Q E st h=>self A i s Q E st.1 h
section
variable {X:Cx} {tg:Expr}
inductive adq(R:It->Hp->Prop)(x:V)(H1:Hp):Prop |mk (z:_)(h0:x= .str z)(h1:R (Le z) H1)
def a4U(tl:TE):TI:=λO H R=>tl O H λx H1=>adq R x H1
theorem Qh{l:Expr}{tl:TE}(hl:PE X l tl):PI X tg l (a4U tl):=by
 intro ak s O H R I h;erw[ba (hl ak s O H _ I h) λv s1 #[x,H1,I1,r1,q1]=>?_];let(z,e,q):=q1;subst e;let(t,rfl):=r1;have fin:∀ty,["enumerate","zip","dict_itemiterator","dict_reverseitemiterator","odict_iterator","itertools.zip_longest","itertools.pairwise"].contains ty=false->(∀A':ah,A'.handled=none->Walks X.prog X.w A' s1.heap.objs.size [s1.heap.objs.size] [s1.heap.objs.size] z.cps.size (SignAt z) (λi h=>h.IsStrIter s1.heap.objs.size ty z t i))->(∀(A:ah)(i:Nat)(s:ae)(Q:Value->ae->Prop)(E:Value->ae->Prop),s.heap.IsStrIter s1.heap.objs.size ty z t i->Q (.ref s1.heap.objs.size) s->wpAny (model X.prog X.w) A (pyIter (.ref s1.heap.objs.size)) Q E s)->L9 X ak O tg R (.ref s1.heap.objs.size) {s1 with heap:=s1.heap.push {cls:=.type ty,data:=.fields (List.toArray [.str z t,.int 0 0])}}:=λty h1 h2 h3=>by
  erw[s1.heap.objs.size,[s1.heap.objs.size],_,_,H1,Z,I1.kept (t':=s1.toks) λb o e=>cx _ e,WH _ z t ty h1 h2 h3,#[#[_,eP _ Z,Z,Z],gM _],λb hb=>?_,q];have e:b=s1.heap.objs.size:=by simpa using hb
  subst e;erw[I1.uD (bV _) (I1.bA.fresh (bV _))]
 cases ha:z.cps.all (·<128)
 ·erw[wpAny_pyIter_wide ha (fin "str_iterator" ay (λA' hA=>Walks.strWide hA _ z t) (λ_ _ _ _ _ st h=>wpAny_pyIter_striter_wide st h))]
 ·erw[wpAny_pyIter_ascii ha (fin "str_ascii_iterator" ay (λA' hA=>Walks.strAscii hA _ z t) (λ_ _ _ _ _ st h=>wpAny_pyIter_striter_ascii st h))]
theorem UB{z:Str}{f:Nat->Bool}{te:TE}{Q:VK}{D:Addr}{H H0:Hp}(rest:St)(nw:Nw H H0 D (.lst []))(hz:z.length<=1000) (hs:∀(c:Nat)(H2:Hp)(Q':VK),c∈z.cps.toList->aF H H2->(∀H3,aF H2 H3->Q' (.bl (f c)) H3)->te (some (.str ⟨#[c]⟩)::rest) H2 Q') (hq:∀H',aF H H'->H' D=some (.lst ((z.cps.toList.map f).map V.bl))->Q (.ref D) H'):kF (Le z) (gc 0) jL te Q D (none::rest) H0:=by
 have hl:z.cps.toList.length=z.cps.size:=by simp
 erw[UC (xs:=z.cps.toList.map λc=>V.str ⟨#[c]⟩) (bs:=z.cps.toList.map f) rest nw (by simp) (by simpa[Str.length]using hz) ?_ ?_ ?_ hq]
 ·intro i x H2 ex s2
  rw[cj]at ex;cases ec:z.cps.toList[i]? with |none=>rw[ec]at ex;cases ex |some c=>rw[ec]at ex;cases ex;erw[by have:=(dZ.mp ec).1;show i<z.cps.size;omega,λy H3 #[e3,c',U7,e]=>#[e3,?_]];rw[ec]at U7;cases U7;erw[e]
 ·intro H2 s2
  show z.cps.size<=(z.cps.toList.map _).length;rw[bW,hl];erw[bV _]
 ·intro i x b H2 Q' ex eb s2 oh
  rw[cj]at ex eb;cases ec:z.cps.toList[i]? with |none=>rw[ec]at ex;cases ex |some c=>rw[ec]at ex eb;cases ex;cases eb;erw[hs c H2 Q' (gf ec) s2 oh]
theorem Qv:cV X (compareOp .In) (λx y H Q=>∃c j,x= .str ⟨#[c]⟩/\y= .str j/\Q (.bl (decide (c∈j.cps.toList))) H):=by intro ak s O H x y v u Q I rx ry h;let(c,j,rfl,rfl,q):=h;erw[a0z ak s O H _ _ v u Q I rx ry #[_,_,Z,Z,?_]];rw[PySem.StrLaws.found_one];erw[q]
inductive adb(K:aa)(x:V)(y:V)(H:Hp)(Q:VK):Prop |mk (p:_)(xs:_)(d:_)(ds:_)(h0:y= .ref p)(h1:bc K H p xs)(h2:RD K H x d)(h3:aP K H xs ds)(h4:SeqAt.shaped d=true)(h5:(∀e∈ds,SeqAt.shaped e=true))(h6:Q (.bl (ds.any λe=>PyData.eqv e d)) H)
def Zz(K:aa):R2:=λx y H Q=>adb K x y H Q
theorem a4Q(K:aa)(hK:X.K=K)(hu:X.A.units+65<cLine):cV X (compareOp .In) (Zz K):=by
 subst hK;intro ak s O H x y v u Q I rx ry h;let(p,xs,d,ds,rfl,hx,hd,je,sd,Yd,q):=h;cases ry;let(its,r,pl,hz):=I.tuple hx;let(k1,k2):=TN I hu rx hd sd r je Yd;erw[SeqAt.in_tupleAt (uG s.heap d) (show s.heap.IsTuple p its.toArray from pl) (λw hw=>k1 w (by simpa using hw)) #[.bl _,H,I,Z,?_]];have e:its.toArray.any (uG s.heap d)=ds.any λe=>PyData.eqv e d:=by rw[<-k2];simp
 rw[e];erw[q]
end
structure MA(K:aa)(C:Addr)(m qual:Str)(st:Stmt):Prop where ex:∃f fd,Meth K C m f/\kD K m qual st f fd
def cS(P:af)(w:World)(K:aa)(mg:bN)(aw:Heap)(C:Addr)(m:Str)(k:Nat)(sp:Sp):Prop:=∃f fd ps,eK P w K mg aw iS k f fd ps sp/\Meth K C m f/\Binds K fd ps []
structure CA(K:aa)(mg:bN)(C:Addr)(x qual:Str)(st:Stmt):Prop where
 mgC:mg x=some (.ref C)
 ex:∃f fd,Mk K C f/\kD K "__init__" qual st f fd
def xn(P:af)(w:World)(K:aa)(mg:bN)(aw:Heap)(C:Addr)(x:Str)(k:Nat)(sp:Sp):Prop:=∃f fd ps,eK P w K mg aw iS k f fd ps sp/\Mk K C f/\Binds K fd ps []/\mg x=some (.ref C)
section
variable {P:af}{w:World}{K:aa}{mg:bN}{aw:Heap}
theorem ip{C:Addr}{m qual:Str}{st:Stmt}{f:Addr}{oc:Value}{od an:Option Addr}{fO:Array (Option Value)}{kV doc pm aI ct:Value} (a:PySem.W.findIn K (.ref C) m=some (some (.ref f)))(i:PySem.W.isFn K (.ref f)=true) (l:K.lookup f=some #[oc,od,.func (PySem.W.fnOf m qual (jB st) (fQ st) (aY st) .none kV doc pm an aI ct),fO]) (c:PySem.W.codeIn K aI qual=true)(k:PySem.W.keepIn K (.ref f)=true):MA K C m qual st:=#[f,_,#[a,i,k],JQ l c k]
theorem UQ{h:Heap}{C:Addr}{x qual:Str}{st:Stmt}{f:Addr}{oc:Value}{od an:Option Addr}{fO:Array (Option Value)}{kV doc pm aI ct:Value}(X:K.In h)(G:h.Ns mainGlobals mg) (aC:PySem.W.nsIn K mainGlobals x=some (some (.ref C)))(mk:PySem.W.makesIn K C=true)(kc:PySem.W.keepIn K (.ref C)=true) (a:PySem.W.findIn K (.ref C) "__init__"=some (some (.ref f)))(i:PySem.W.isFn K (.ref f)=true) (l:K.lookup f=some #[oc,od,.func (PySem.W.fnOf "__init__" qual (jB st) (fQ st) (aY st) .none kV doc pm an aI ct),fO]) (c:PySem.W.codeIn K aI qual=true)(k:PySem.W.keepIn K (.ref f)=true):CA K mg C x qual st:=#[xE X G aC,f,_,#[mk,a,i,kc],JQ l c k]
theorem MA.has{C:Addr}{m qual:Str}{st:Stmt}{N ps:List Str}{k:Nat}{sp:Sp}(F:MA K C m qual st)(S:bp N ps (aY st))(len:∀vs H Q E,sp vs H Q E->vs.length=ps.length) (hb:∀(kV doc pm:Value)(an:Option Addr)(aI ct:Value)(us:List Value),us.length=ps.length->bindArgs (PySem.W.fnOf m qual (jB st) (fQ st) (aY st) .none kV doc pm an aI ct) #[us,[]]=pure (ps.zip us)) (gb:∀(f:Addr)(aI:Value)(A:ah)(outer:List Env)(s:ae)(H:Hp)(vs:List V)(Q:VK)(E:XK),cF k (A.deeper (envOfC qual (aY st) s.heap.objs.size f aI))->sp vs H Q E->∃t,fT (iA iS P w K mg aw N qual (aY st) f aI A outer s H E).tW (fQ st) t/\t {nx:=λ_ H'=>Q .bD H',rt:=Q} (start N vs) H):cS P w K mg aw C m (k+1) sp:=by let(f,fd,hm,F):=F.ex;erw[f,fd,ps,F.ok S len λaI A outer s H vs Q E=>gb f aI A outer s H vs Q E,hm,F.binds hb]
theorem CA.has{C:Addr}{x qual:Str}{st:Stmt}{N ps:List Str}{k:Nat}{sp:Sp}(F:CA K mg C x qual st)(S:bp N ps (aY st))(len:∀vs H Q E,sp vs H Q E->vs.length=ps.length) (hb:∀(kV doc pm:Value)(an:Option Addr)(aI ct:Value)(us:List Value),us.length=ps.length->bindArgs (PySem.W.fnOf "__init__" qual (jB st) (fQ st) (aY st) .none kV doc pm an aI ct) #[us,[]]=pure (ps.zip us)) (gb:∀(f:Addr)(aI:Value)(A:ah)(outer:List Env)(s:ae)(H:Hp)(vs:List V)(Q:VK)(E:XK),cF k (A.deeper (envOfC qual (aY st) s.heap.objs.size f aI))->sp vs H Q E->∃t,fT (iA iS P w K mg aw N qual (aY st) f aI A outer s H E).tW (fQ st) t/\t {nx:=λ_ H'=>Q .bD H',rt:=Q} (start N vs) H):xn P w K mg aw C x (k+1) sp:=by let(f,fd,hm,F'):=F.ex;erw[f,fd,ps,F'.ok S len λaI A outer s H vs Q E=>gb f aI A outer s H vs Q E,hm,F'.binds hb,F.mgC]
end
section
variable {X:Cx}{k:Nat}{x m:Str}{C:Addr}{p pos apos:Pos}{o e:Expr}{es:List Expr}{t:TA}{ta:TE}{sp:Sp}
inductive Vr(C:Addr)(m:Str)(sp:Sp)(t:TA)(O:St)(Q:VK)(x:V)(H1:Hp):Prop |mk (a:_)(dx:_)(fs:_)(h0:x= .ref a)(h1:H1 a=some (.ins C dx fs))(h2:fs.lookup m=none)(h3:t O H1 λvs H2=>sp (x::vs) H2 Q E0)
def Ml(C:Addr)(m:Str)(sp:Sp)(ta:TE)(t:TA):TE:=λO H Q=>ta O H λx H1=>Vr C m sp t O Q x H1
theorem Rf{O:St}{Q:VK}{x:V}{H1:Hp}:uT C m sp [] E0 t O Q x H1=Vr C m sp t O Q x H1:=by
 have e1:(λ(vs:List V) H1=>sp (x::(vs++[])) H1 Q E0)=λvs H1=>sp (x::vs) H1 Q E0:=by funext vs H1;rw[qo]
 erw[propext #[λ#[a,dx,fs,h0,h1,h2,h3]=>#[a,dx,fs,h0,h1,h2,?_],λ#[a,dx,fs,h0,h1,h2,h3]=>#[a,dx,fs,h0,h1,h2,?_]]]
 ·rw[<-e1];erw[h3]
 ·rw[e1];erw[h3]
theorem kr{pl:Sem Bool}(F:cS X.prog X.w X.K X.mg X.aw C m k sp)(c:hU X.K C)(hr:cF k X.A)(he:PE X o ta)(ha:PA X (e::es) t) (g9:autoParam (starEach (e::es) X.env=(false,eval e X.env)::starEach es X.env) r8_._auto_1)(eJ:autoParam ((backTo pos (starEach es X.env)).any (·.1)=false) r8_._auto_1) (ht:eval (.Call (.Attribute o m apos) (e::es) [] pos) X.env=(do
 let ov<-eval o X.env
 standAt apos.atName
 let(f,first)<-holding [ov] (getMethod ov m pl)
 callWith pos f first (backTo pos (starEach (e::es) X.env)) (backToKw pos (keywordEach [] X.env))):=by rfl): PE X (.Call (.Attribute o m apos) (e::es) [] pos) (Ml C m sp ta t):=by
 let(f,fd,ps,F,hm,hb):=F;have h:=Qk (pos:=pos) (apos:=apos) (pl:=pl) he c hm F hr hb .nil Bw ha g9 eJ ht;intro ak s O H Q I hq;erw[h ak s O H Q I ?_];show ta O H λx H1=>uT C m sp [] E0 t O Q x H1;simp only[Rf];erw[hq]
theorem iI{pl:Sem Bool}(F:cS X.prog X.w X.K X.mg X.aw C m k sp)(c:hU X.K C)(hr:cF k X.A)(he:PE X o ta) (ht:eval (.Call (.Attribute o m apos) [] [] pos) X.env=(do
 let ov<-eval o X.env
 standAt apos.atName
 let(f,first)<-holding [ov] (getMethod ov m pl)
 callWith pos f first (backTo pos (starEach [] X.env)) (backToKw pos (keywordEach [] X.env))):=by rfl): PE X (.Call (.Attribute o m apos) [] [] pos) (Ml C m sp ta qx):=by
 let(f,fd,ps,F,hm,hb):=F;have h:=Qj (pos:=pos) (apos:=apos) (pl:=pl) he c hm F hr hb .nil Bw ht;intro ak s O H Q I hq;erw[h ak s O H Q I ?_];show ta O H λx H1=>uT C m sp [] E0 qx O Q x H1;simp only[Rf];erw[hq]
def Xj(C:Addr)(sp:Sp)(t:TA):TE:=λO H Q=>t O H λvs H1=>∀x dx,H1 x=none->H1 dx=none->dx≠x->sp (.ref x::vs) (upd (upd H1 dx (.own x)) x (.ins C dx [])) (λv H2=>v= .bD/\Q (.ref x) H2) E0
theorem Hq(F:xn X.prog X.w X.K X.mg X.aw C x k sp)(hr:cF (k+1) X.A)(hg:Gl X x)(ha:PA X (e::es) t)(iO:autoParam ((x==("__debug__":Str))=false) q8_._auto_1) (he:autoParam (starEach (e::es) X.env=(false,eval e X.env)::starEach es X.env) r8_._auto_1)(eJ:autoParam ((backTo pos (starEach es X.env)).any (·.1)=false) r8_._auto_1): PE X (.Call (.Name x p) (e::es) [] pos) (Xj C sp t):=by
 let(f,fd,ps,F,M,hb,hm):=F;have h:=a08 (pos:=pos) (p:=p) M F hr hg hm hb .nil Bw ha iO he eJ;intro ak s O H Q I hq;erw[h ak s O H Q I ?_];have e1:(λ(vs:List V) H1=>∀x dx,H1 x=none->H1 dx=none->dx≠x->sp (.ref x::(vs++[])) (upd (upd H1 dx (.own x)) x (.ins C dx [])) (λv H2=>v= .bD/\Q (.ref x) H2) E0) =λvs H1=>∀x dx,H1 x=none->H1 dx=none->dx≠x->sp (.ref x::vs) (upd (upd H1 dx (.own x)) x (.ins C dx [])) (λv H2=>v= .bD/\Q (.ref x) H2) E0:=by funext vs H1;rw[qo]
 show t O H λvs H1=>∀x dx,H1 x=none->H1 dx=none->dx≠x->sp (.ref x::(vs++[])) (upd (upd H1 dx (.own x)) x (.ins C dx [])) (λv H2=>v= .bD/\Q (.ref x) H2) E0;rw[e1];erw[hq]
inductive IAt(C:Addr)(x:Str)(Q:VK)(v:V)(H1:Hp):Prop |mk (a dx:Addr)(fs:List (Str×V))(u:V)(h0:v= .ref a)(h1:H1 a=some (.ins C dx fs))(h2:fs.lookup x=some u)(h3:Q u H1)
theorem cH(T:hU X.K C)(hn:iR X.K C x)(he:PE X e ta)(hb:autoParam (attributeBase e x X.env (eval e X.env)=eval e X.env) r8_._auto_1): PE X (.Attribute e x pos) (λO H Q=>ta O H λv H1=>IAt C x Q v H1):=by intro ak s O H Q I h;erw[aaK hb (ba (he ak s O H _ I h) λu s1 #[v,H1,I1,rx,a,dx,fs,w,ex,ea,l,q]=>?_)];subst ex;obtain rfl:u=Value.ref a:=rx;erw[Th I1 ea T hn l λu' s2 I2 ru=>#[w,H1,I2,ru,q]]
inductive adz(C:Addr)(x:Str)(D:Ends)(O:St)(y v:V)(H2:Hp):Prop |mk (a dx:Addr)(fs:List (Str×V))(h0:v= .ref a)(h1:H2 a=some (.ins C dx fs))(h2:fs.length<1000)(h3:D.nx O (upd H2 a (.ins C dx (ja x y fs))))
inductive adE(C a:Addr)(x:Str)(D:Ends)(O:St)(z:V)(H3:Hp):Prop |mk (iy:Addr)(ow:List (Str×V))(h0:H3 a=some (.ins C iy ow))(h1:ow.length<1000)(h2:D.nx O (upd H3 a (.ins C iy (ja x z ow))))
inductive adF(C:Addr)(x:Str)(tv:TE)(rd:V->V->Hp->VK->Prop)(D:Ends)(O:St)(v:V)(H1:Hp):Prop |mk (a dx:Addr)(fs:List (Str×V))(u:V)(h0:v= .ref a)(h1:H1 a=some (.ins C dx fs))(h2:fs.lookup x=some u)(h3:tv O H1 λy H2=>rd u y H2 λz H3=>adE C a x D O z H3)
theorem fW{value:Expr}{tv:TE}{pos':Pos}(T:hU X.K C)(hn:iR X.K C x)(ha:PE X o ta)(hv:PE X value tv)(hs:autoParam (swapsWith value (some (.Attribute o x pos')) pos.line X.env=pure false) r8_._auto_1): PS X (.Assign [.Attribute o x pos'] value pos) (λD O H=>tv O H λy H1=>ta O H1 λv H2=>adz C x D O y v H2):=by intro ak s O H D I h;erw[plainObj_wpAny_Assign_Attribute (ba (hv ak s O H _ I h) λu s1 #[y,H1,I1,ry,q]=>ba (ha ak s1 O H1 _ I1 q) λov s2 #[v,H2,I2,rx,a,dx,fs,ex,ea,l,q2]=>?_) hs];subst ex;obtain rfl:ov=Value.ref a:=rx;erw[NK I2 ea T hn l ry λs3 I3=>#[O,_,I3,q2]]
theorem ZL{op:Operator}{rd:V->V->Hp->VK->Prop}{value:Expr}{tv:TE}{sM:Pos}(T:hU X.K C)(hn:iR X.K C x)(ha:PE X o ta)(hv:PE X value tv)(hop:adm X op rd): PS X (.AugAssign (.Attribute o x sM) op value pos) (λD O H=>ta O H λv H1=>adF C x tv rd D O v H1):=by intro ak s O H D I h;erw[wpAny_AugAssign_AttributeAny (ba (ha ak s O H _ I h) λov s1 #[v,H1,I1,rx,a,dx,fs,u,ex,ea,l,q]=>?_)];subst ex;obtain rfl:ov=Value.ref a:=rx;erw[Th I1 ea T hn l λu s2 I2 ru=>ba (hv ak s2 O H1 _ I2 q) λw3 s3 #[y,H2,I3,ry,q3]=>ba (hop ak s3 O H2 _ y u w3 _ I3 ru ry q3) λw4 s4 #[z,H3,I4,rz,iy,ow,wY,l',q4]=>?_];erw[NK I4 wY T hn l' rz λs5 I5=>#[O,_,I5,q4]]
end
def bP(S:List Addr)(H H':Hp):Prop:=∀b o,H b=some o->b∉S->H' b=some o
theorem bP.refl(S:List Addr)(H:Hp):bP S H H:=λ_ _ e _=>e
theorem bP.of{S:List Addr}{H H':Hp}(s:aF H H'):bP S H H':=λb o e _=>s b o e
theorem bP.trans{S:List Addr}{H H1 H2:Hp}(a:bP S H H1)(b:bP S H1 H2):bP S H H2:=λc o e n=>b c o (a c o e n) n
theorem zN{S:List Addr}{H:Hp}{a:Addr}{o:HO}(h:a∈S):bP S H (upd H a o):=λb o' e n=>by have hb:b≠a:=λz=>n (by rw[z];erw[h]);rw[aU hb];erw[e]
def Ll:HO->Prop | .lst _=>True | .ins _ _ _=>True | .dK _=>True | .oN _=>True |_=>False
def cw(H H':Hp):Prop:=∀b o,¬Ll o->H b=some o->H' b=some o
section
variable {K:aa} {H H' H2:Hp}
theorem cw.refl:cw H H:=λ_ _ _ e=>e
theorem cw.trans(a:cw H H')(b:cw H' H2):cw H H2:=λc o n e=>b c o n (a c o n e)
theorem iX.v(s:iX H H'):cw H H':=λb o n e=>s b o (λxs z=>n (by rw[z];trivial)) e
theorem aF.v(s:aF H H'):cw H H':=λb o _ e=>s b o e
theorem bP.v{S:List Addr}(s:bP S H H')(h:∀x∈S,∀o,H x=some o->Ll o):cw H H':=λb o n e=>s b o e λz=>n (h b z o e)
theorem cw.upd{a:Addr}{o o':HO}(h:H a=some o)(m:Ll o):cw H (upd H a o'):=λb p n e=>by
 have hb:b≠a:=λz=>by rw[z,h]at e;cases e;erw[n m]
 rw[aU hb];erw[e]
theorem bc.v{a:Addr}{xs:List V}(s:cw H H')(h:bc K H a xs):bc K H' a xs:=h.imp (λr=>r.imp (s _ _ (λz=>z)) λ#[o,e]=>#[o,s _ _ (λz=>z) e]) id
mutual
theorem RD.v(s:cw H H'):∀{x:V}(d:ag),fk d=true->RD K H x d->RD K H' x d |x,.none,_,h=>by simpa[RD]using h |x,.bool b,_,h=>by simpa[RD]using h |x,.int i,_,h=>by simpa[RD]using h |x,.str y,_,h=>by simpa[RD]using h |x,.list ds,n,h=>by simp[fk]at n |x,.tuple ds,n,h=>by rw[RD]at h⊢;let(a,xs,e,h1,h2):=h;erw[a,xs,e,h1.v s,aP.v s ds (by simpa[fk]using n) h2] |x,.dict _,_,h=>by simp[RD]at h
theorem aP.v (s:cw H H'):∀{xs:List V}(ds:List ag),cJ ds=true->aP K H xs ds->aP K H' xs ds |xs,[],_,h=>by simpa[aP]using h |xs,d::ds,n,h=>by rw[aP]at h⊢;rw[cJ,eX]at n;let(y,ys,e,h1,h2):=h;erw[y,ys,e,RD.v s d n.1 h1,aP.v s ds n.2 h2]
end
end
end _L
namespace _P
section
variable {n:Nat}{own:Nat->Rat}{L:Nat->Option Nat}{r f:Int}
end
end _P
namespace _O
open _P _l _C
end _O
namespace _P
section
variable {n:Nat}{own Ht:Nat->Rat}{L L':Nat->Option Nat}{r f:Int}
end
section
variable {n:Nat}{own Ht q:Nat->Rat}{L:Nat->Option Nat}{r f r' f':Int}
end
end _P
namespace _O
open _P _l _C
end _O
namespace _P
section
variable {n:Nat}{own Ht:Nat->Rat}{L L':Nat->Option Nat}{r f:Int}{c:Nat}
end
end _P
namespace _O
open _P
section
variable (j aA:Int) (os1 os2:List Itm)
end
end _O
namespace _P
section
variable {n:Nat}{own:Nat->Rat}{L:Nat->Option Nat}{r f:Int}
theorem a7Z{g:Nat->Rat}{i:Nat}(hi:i<=n):fl n L f g i<=g i:=by
 rcases Nat.lt_or_ge i n with h|h
 ·cases e:L i with |none=>rw[CK h e];erw[si] |some m=>rw[CM h e];erw[ij _ _]
 ·have:i=n:=by lia
  subst this;rw[CL];erw[si]
end
end _P
namespace _R
open _P _r _l
open _O (topR ownF leadF Itm OkIs)
theorem D6{n:Nat}{a b:Int}(hb:b≠0)(h2:b.natAbs<2^n):(Rat.divInt a b).den<2^n:=by obtain⟨-,e⟩:=IA (a:=a) hb;have l2:=_A.Rz (p:=a) hb;omega
structure Dd(D:Nat)(q:Rat):Prop where
 nn:0<=q
 den:q.den<2^D
theorem Dd.mono{D E:Nat}{q:Rat}(h:Dd D q)(l:D<=E):Dd E q:=#[h.nn,gO h.den (uZ ay l)]
theorem Dd.bd{D:Nat}{q:Rat}(h:Dd D q)(hl:q<=2000):Bd (D+11) q:=by
 have h1:=Lv.mpr h.nn;have uz:¬((2000:Rat)<q):=DG.mpr hl;rw[Rat.lt_iff]at uz;have e1:(2000:Rat).num=2000:=rfl;have e2:(2000:Rat).den=1:=rfl;rw[e1,e2]at uz;have h2:q.num<=2000*(q.den:Int):=by lia
 erw[?_,gO h.den (uZ ay au)];have h3:=h.den;have h4:q.num.natAbs<=2000*q.den:=by lia
 have h5:(2:Nat)^(D+11)=2^D*2048:=by rw[Nat.pow_add]
 rw[h5];have h6:2000*q.den<2000*2^D:=Nat.mul_lt_mul_of_pos_left h3 ay
 lia
theorem Dd.mn{D:Nat}{a b:Rat}(h1:Dd D a)(h2:Dd D b):Dd D (mn a b):=by rcases BO a b with e|e<;>rw[e]<;>assumption
theorem Dd.add{D:Nat}{q:Rat}(h:Dd D q){z:Int}(hz:0<=z):Dd D (q+(z:Rat)):=by
 erw[a4f h.nn (by have:=Rat.intCast_le_intCast.mpr hz;erw[this]),?_];rw[add_div,Rat.num_intCast,Rat.den_intCast];have e:(q.den:Int)*((1:Nat):Int)=(q.den:Int):=by lia
 rw[e];have hd:=q.den_pos;erw[D6 au (by have:=h.den;lia)]
theorem Ul{a b:Int}(ha:0<=a)(hb:0<b):0<=Rat.divInt a b:=(xD hb).mpr ha
theorem div_pos{a b:Int}(ha:0<a)(hb:0<b):0<Rat.divInt a b:=by
 have h0:=Ul (LR ha) hb;erw[Lu h0 λe=>?_];have h2:0<=Rat.divInt (-a) b:=by rw[<-Rat.neg_divInt,<-e];decide
 have:=(xD hb).mp h2
 lia
theorem Dd.mul{D m:Nat}{q:Rat}(h:Dd D q){a s:Int}(ha:0<=a)(hs:0<s)(hm:s.natAbs<2^m):Dd (D+m) (q*Rat.divInt a s):=by erw[Rat.mul_nonneg h.nn (Ul ha hs),?_];have h1:(Rat.divInt a s).den<2^m:=D6 au hm;rw[mul_div];have hd:=q.den_pos;have hd2:=(Rat.divInt a s).den_pos;erw[D6 (pV _ _) ?_];rw[hZ];erw[mE (by have:=h.den;lia) au]
theorem AK(aA sp:Int):Dd 14 (topR aA sp):=#[_O.AL _ _,D6 ay ay]
theorem xV{aA sp:Int}(h1:1<=sp)(h2:sp<=20)(h3:10<=aA)(h4:aA<=200):topR aA sp<=1600:=by
 have e:(1600:Rat)=Rat.divInt 16000000 10000:=by decide+kernel
 rw[e];refine(_C.Kl ay).mpr ?_;have hp:sp*aA<=20*200:=sE h2 h4 au au;have hp0:0<=sp*aA:=iG au au;rw[gC,gC,nJ,m7];have:=sE hp hp hp0 ay
 lia
theorem a0o{j aA:Int}{os:List Itm}(h1:1<=j)(h2:j<=50)(h3:10<=aA)(h4:aA<=200)(ho:OkIs os)(i:Nat):Dd 64 (ownF j aA os i):=#[_O.a0s _ _ _ _,(_O.Qs h1 h2 h3 h4 ho i).den]
theorem a80{D n:Nat}{g:Nat->Rat}{L:Nat->Option Nat}{f:Int}(hf:0<=f)(h:∀i,i<=n->Dd D (g i)):∀i,i<=n->Dd D (fl n L f g i):=by
 erw[down ?_ ?_]
 ·rw[CL];erw[h n (bV _)]
 ·intro i hi ih
  cases e:L i with |none=>rw[CK hi e];erw[h i au] |some m=>rw[CM hi e];exact(h i au).mn (ih.add (iG hf au))
theorem aaD{j aA:Int}{o p:Itm}(h3:10<=aA)(h4:aA<=200)(ho:_O.OkI o):_O.betR j aA o p<=1600:=by cases o with |none=>rw[_O.aaE];decide+kernel |some q=>cases p with |none=>rw[_O.UY];decide+kernel |some q'=>let(ns,sp):=q;let(ms,sq):=q';obtain⟨-,a1,a2⟩:=ho ns sp rfl;have ht:=xV a1 a2 h3 h4;show _O.mnO (mn (topR aA sp) (topR aA sq)) (_O.cornO j ns ms)<=1600;cases _O.cornO j ns ms with |none=>erw[eM (ij _ _) ht] |some c=>erw[eM (ij _ _) (eM (ij _ _) ht)]
theorem a0n{j aA:Int}{os:List Itm}(h3:10<=aA)(h4:aA<=200)(ho:OkIs os):∀i,ownF j aA os i<=1600 |0=>by show(0:Rat)<=1600;decide+kernel |i+1=>aaD h3 h4 (ho i)
abbrev nC:=Option (Rat × Int × Int)
def p7(r f:Int)(pc top R:Rat)(left:Int):nC->Rat |none=>mn (mn (pc+(r:Rat)) top) (R+((f*(2*left-1):Int):Rat)) |some (sq,st,gn)=>mn (mn (mn (pc+(r:Rat)) top) (R+((f*(2*left-1):Int):Rat))) (sq*Rat.divInt (2*(st-gn-1)+1) (2*st))
def wj(r f:Int)(pc top R:Rat)(left:Int):nC->Rat |none=>mn (mn (pc+((2*r:Int):Rat)) top) (R+((2*f*(left-1):Int):Rat)) |some (sq,st,gn)=>mn (mn (mn (pc+((2*r:Int):Rat)) top) (R+((2*f*(left-1):Int):Rat))) (sq*Rat.divInt (st-gn-1) st)
def wg:nC->nC |none=>none |some (sq,st,gn)=>some (sq,st,gn+1)
def rQ(D:Nat)(pc:Rat):nC->Prop |none=>True |some (sq,st,gn)=>0<=gn/\gn<=st/\st<=1000/\Dd D sq/\sq<=2000/\(st=0->pc=0)/\pc*(st:Rat)<=sq*((st-gn:Int):Rat)
def Halt(pc:Rat)(aR:nC):Prop:=aR≠none/\pc=0
theorem yJ{D:Nat}{pc:Rat}{sq:Rat}{st gn:Int}(h:rQ D pc (some (sq,st,gn)))(hp:0<=pc)(hn:¬Halt pc (some (sq,st,gn))):gn<st/\0<sq/\0<pc:=by
 let(g0,g1,g2,hd,hl,hz,hh):=h;have za:0<pc:=Lu hp λe=>hn #[by simp,e.symm];have g9:gn<st:=by
  rcases LQ gn st with h|h
  ·erw[h]
  ·have e:st-gn=0:=by lia
   rw[e]at hh;have e0:sq*((0:Int):Rat)=0:=Rat.mul_zero sq;rw[e0]at hh;exfalso;rcases LQ 0 st with h3|h3
   ·have h4:(0:Rat)<(st:Rat):=VA.mpr h3
    have h5:=Rat.mul_pos za h4;erw[absurd (Std.lt_of_lt_of_le h5 hh) (Rat.lt_irrefl)]
   ·rw[hz au]at za;erw[absurd za (Rat.lt_irrefl)]
 erw[g9,?_,za];erw[Lu hd.nn λe=>?_];rw[<-e,Rat.zero_mul]at hh;have h4:(0:Rat)<(st:Rat):=VA.mpr (show(0:Int)<st by lia);erw[absurd (Std.lt_of_lt_of_le (Rat.mul_pos za h4) hh) (Rat.lt_irrefl)]
section
variable {D:Nat}{r f:Int}{pc top R:Rat}{left:Int}{aR:nC}
theorem a9A:wj r f pc top R left aR<=top:=by cases aR with |none=>erw[eM (ij _ _) (mF _ _)] |some q=>let(sq,st,gn):=q;erw[eM (ij _ _) (eM (ij _ _) (mF _ _))]
theorem Io:p7 r f pc top R left aR<=top:=by cases aR with |none=>erw[eM (ij _ _) (mF _ _)] |some q=>let(sq,st,gn):=q;erw[eM (ij _ _) (eM (ij _ _) (mF _ _))]
theorem a9B(hr:0<=r)(hf:0<=f)(hl:1<=left)(hp:Dd (D+10) pc)(ht:Dd (D+10) top)(hR:Dd (D+10) R)(hs:rQ D pc aR)(hn:¬Halt pc aR):Dd (D+10) (wj r f pc top R left aR):=by have h1:=(hp.add (z:=2*r) au).mn ht;have h2:=hR.add (z:=2*f*(left-1)) (iG au au);cases aR with |none=>erw[h1.mn h2] |some q=>let(sq,st,gn):=q;let(a,b,c):=yJ hs hp.nn hn;let(g0,g1,g2,hd,hl,hz,hh):=hs;exact(h1.mn h2).mn (hd.mul (m:=10) au au au)
theorem Iq(hr:0<=r)(hf:0<=f)(hl:1<=left)(hp:Dd (D+10) pc)(ht:Dd (D+10) top)(hR:Dd (D+10) R)(hs:rQ D pc aR)(hn:¬Halt pc aR):Dd (D+11) (p7 r f pc top R left aR):=by have h1:=((hp.add (z:=r) au).mn ht).mono (show D+10<=D+11 by lia);have h2:=(hR.add (z:=f*(2*left-1)) (iG au au)).mono (show D+10<=D+11 by lia);cases aR with |none=>erw[h1.mn h2] |some q=>let(sq,st,gn):=q;let(a,b,c):=yJ hs hp.nn hn;let(g0,g1,g2,hd,hl,hz,hh):=hs;exact(h1.mn h2).mn (hd.mul (m:=11) au au au)
theorem add_pos{x:Rat}{z:Int}(hx:0<=x)(hz:0<z):0<x+(z:Rat):=by have h1:((0:Int):Rat)<(z:Rat):=VA.mpr hz;have h2:x+((0:Int):Rat)<x+(z:Rat):=Rat.add_lt_add_left.mpr h1;rw[show((0:Int):Rat)=0 from Z,Rat.add_zero]at h2;erw[Std.lt_of_le_of_lt hx h2]
theorem Im{a b:Rat}(ha:0<a)(hb:0<b):0<mn a b:=by rcases BO a b with e|e<;>rw[e]<;>assumption
theorem Ip(hr:1<=r)(hf:1<=f)(hl:1<=left)(hp:0<=pc)(ht:0<top)(hR:0<=R)(hs:rQ D pc aR)(hn:¬Halt pc aR):0<p7 r f pc top R left aR:=by have h1:=Im (Im (add_pos hp (show 0<r by lia)) ht) (add_pos hR (show 0<f*(2*left-1)from j8 au au));cases aR with |none=>erw[h1] |some q=>let(sq,st,gn):=q;let(a,b,c):=yJ hs hp hn;let(g0,g1,g2,hd,hl,hz,hh):=hs;erw[Im h1 (Rat.mul_pos b (div_pos au au))]
theorem Uk(a:Int):Rat.divInt a 1=(a:Rat):=by
 conv=>rhs;rw[<-sf (a:Rat)]
 rfl
theorem a9W{a s:Int}(hs:0<s):Rat.divInt a s*(s:Rat)=(a:Rat):=by
 have e:(s:Rat)=Rat.divInt s 1:=by rw[Uk]
 rw[e,Rat.divInt_mul_divInt _ _,Ak,vh a s];have e2:Rat.divInt (s*a) s=Rat.divInt (s*a) (s*1):=by rw[Ak]
 rw[e2,Rat.divInt_mul_left au,Uk]
theorem XD(hs:rQ D pc aR)(hp:0<=pc)(hn:¬Halt pc aR):rQ D (wj r f pc top R left aR) (wg aR):=by cases aR with |none=>trivial |some q=>
 let(sq,st,gn):=q;let(a,b,c):=yJ hs hp hn;let(g0,g1,g2,hd,hl,hz,hh):=hs;erw[au,au,g2,hd,hl,λe=>by lia,?_];have h1:wj r f pc top R left (some (sq,st,gn))<=sq*Rat.divInt (st-gn-1) st:=mF _ _;have h2:(0:Rat)<=(st:Rat):=Rat.intCast_nonneg.mpr au;have h3:=Rat.mul_le_mul_of_nonneg_right h1 h2;have h4:sq*Rat.divInt (st-gn-1) st*(st:Rat)=sq*((st-(gn+1):Int):Rat):=by
  rw[Rat.mul_assoc,a9W au];congr 2
  lia
 rw[h4]at h3;erw[h3]
end
end _R
namespace _L
open PySem PySem.Spec PyProof.Rows
section
variable {X:Cx}
end
theorem JL{K:aa}{mg:bN}{x z:Str}{t:Tok}{h:Heap}(X:K.In h)(G:h.Ns mainGlobals mg)(a:PySem.W.nsIn K mainGlobals x=some (some (.str z t))):GV mg x (.str z):=#[_,xE X G a,t,Z]
theorem aa0(f:Array Value->Array Value)(o:Obj):(o.mapFields f).dict=o.dict:=by let(c,d,dt,sl):=o;cases dt<;>rfl
def TrD(h B:Heap)(ex:Addr)(cls:Value)(dx:Option Addr)(fl:Value):Prop:=∃ob fs tb ot ts,h.get? ex=some ob/\ob.cls=cls/\ob.dict=dx/\ob.data= .fields fs/\fs[1]? =some (.ref tb)/\B.get? tb=none/\tb≠ex/\h.get? tb=some ot/\ot.data= .fields ts/\ts[3]? =some fl/\fs[2]? =some .none
def kE(B:Heap)(l:List Env)(ex:Addr)(cls:Value)(dx:Option Addr)(fl:Value)(h:Heap):Prop:=B.StaysIn h/\B.get? ex=none/\h.FunFrames B l/\TrD h B ex cls dx fl
theorem kE.there{B h:Heap}{l:List Env}{ex:Addr}{cls fl:Value}{dx:Option Addr}(x:kE B l ex cls dx fl h):∃ob,h.get? ex=some ob/\ob.cls=cls/\ob.dict=dx/\∃fs,ob.data= .fields fs/\fs[2]? =some .none:=by let(_,_,_,ob,fs,_,_,_,e,c,d,z,_,_,_,_,_,_,z2):=x;erw[ob,e,c,d,fs,z,z2]
section
variable {M:Model}{A:ah}{E:Value->ae->Prop}{s:ae}{B:Heap}{env:Env}{outer:List Env}{L ex:Addr}{ob:Obj}{fs:Array Value}{head:Value}{nx:Bool}{Q:Unit->ae->Prop}{cls fl:Value}{dx:Option Addr}
theorem TV(hA:A.frames=some (env::outer))(ff:s.heap.FunFrames B (env::outer))(hL:env.frame=some L)(ho:s.heap.get? ex=some ob)(st:B.StaysIn s.heap)(hB:B.get? ex=none)(hd:ob.data= .fields fs)(hz:1<fs.size)(gI:fs[2]? =some .none) (q:∀h',kE B (env::outer) ex ob.cls ob.dict (rawInt L) h'->s.heap.UpToSlots h'->Q () {s with heap:=h'}): wpAny M A (do let a<-frameOf env;let pl<-entryPlaceOf L nx;let b<-EntryCells.newEntry head a .none (rawInt L) .none pl;setField (.ref ex) 1 b) Q E s:=by
 have qM:ex∉(env::outer).filterMap (·.frame):=λhm=>by let(_,o,e1,nf):=ff.mem hm;rw[ho]at e1;cases e1;erw[nf fs hd]
 erw[aL (wpAny_frameOf_fun hA ff hL λg1 k1=>aL (wpAny_entryPlaceOf λpl hp=>?_))];unfold EntryCells.newEntry newFields;erw[aL (nH ?_ (hp.sizeOk5 _ _ _ _ _))];have o1:g1.get? ex=some ob:=(k1.2.1 ex qM).trans ho;have Ef:B.StaysIn g1:=λb o e=>(k1.2.1 b λhm=>by rw[(ff.mem hm).1]at e;cases e).trans (st b o e);generalize hT:({cls:=.type "traceback",dict:=none,data:=.fields ([head,.ref L,.none,rawInt L,.none]++(if pl.isEmpty then List.replicate 6 Value.none else pl)).toArray}:Obj)=T;have o2:(g1.push T).get? ex=some ob:=cx T o1;erw[xu o2 hd hz (q _ ?_ ?_)];all_goals have ne:g1.objs.size≠ex:=LH (ck o1)
 all_goals have keep:∀b o,b≠ex->g1.get? b=some o->((g1.push T).update ex (Obj.mapFields (·.setIfInBounds 1 (Value.ref g1.objs.size)))).get? b=some o:=λb o nb e=>by rw[An _ _ (jJ nb)];erw[cx _ e]
 all_goals have qK:∀b o,s.heap.get? b=some o->(∀vs,o.data≠ .fields vs)->b≠ex:=λb o e nf z=>by rw[z,ho]at e;cases e;erw[nf fs hd]
 ·have d3:=Ae hd (·.setIfInBounds 1 (Value.ref g1.objs.size))
  have o3:=DS (Obj.mapFields (·.setIfInBounds 1 (Value.ref g1.objs.size))) o2 (LG d3);erw[λb o e=>keep b o (λz=>by rw[z,hB]at e;cases e) (Ef b o e),hB,ff.of_keeps λb o e nf=>?_,?_]
  ·let(sl,e1):=k1.2.2 b o e
   erw[_,keep b _ (qK b o e nf) e1,Z]
  ·erw[_,_,g1.objs.size,T,_,o3,Obj.cls_mapFields _ _,aa0 _ _,d3,by simp[hz],Ef.fresh,ne,?_,by rw[<-hT],?_]
   ·rw[An _ _ (jJ ne)];erw[eP g1 (by rw[<-hT];rfl)]
   ·erw[?_,by simpa using gI]
    first|(simp;done)|(rcases hp with rfl|⟨_,_,_,_,_,_,_,rfl⟩<;>simp)
 ·intro b o e nf
  let(sl,e1):=k1.2.2 b o e;erw[sl,keep b _ (qK b o e nf) e1]
theorem a2N(hA:A.frames=some (env::outer))(ff:s.heap.FunFrames B (env::outer))(hL:env.frame=some L)(ho:s.heap.get? ex=some ob)(st:B.StaysIn s.heap)(hB:B.get? ex=none)(hd:ob.data= .fields fs)(h1:fs[1]? =some .none)(gI:fs[2]? =some .none) (q:∀h',kE B (env::outer) ex ob.cls ob.dict (rawInt L) h'->s.heap.UpToSlots h'->Q () {s with heap:=h'}):wpAny M A (noteFrame (.ref ex) env) Q E s:=by unfold noteFrame;simp only[hL];erw[aL (iE ho hd h1 ?_)];rw[bo ay];erw[TV hA ff hL ho st hB hd (LS.mp h1).1 gI q]
theorem QJ(hA:A.frames=some (env::outer))(hL:env.frame=some L)(x:kE B (env::outer) ex cls dx .none s.heap) (q:∀h',kE B (env::outer) ex cls dx (rawInt L) h'->s.heap.UpToSlots h'->Q () {s with heap:=h'}):wpAny M A (noteFrame (.ref ex) env) Q E s:=by
 let(st,hB,ff,ob,fs,tb,ot,ts,ho,rfl,rfl,hd,h1,Cy,nt,ht,qY,h3,gI):=x;unfold noteFrame;simp only[hL];erw[aL (iE ho hd h1 ?_)];rw[bu (show(Value.ref tb !=Value.none)=true from by simp)];erw[aL (iE ht qY h3 ?_)];rw[bo (show¬((Value.none==rawInt L)=true)from by simp[rawInt])];erw[aL (xu ht qY (LS.mp h3).1 ?_)];have other:∀b,b≠tb->(s.heap.update tb (Obj.mapFields (·.setIfInBounds 3 Value.none))).get? b=s.heap.get? b:=λb nb=>An _ _ (jJ nb);have qK:∀b o,s.heap.get? b=some o->(∀vs,o.data≠ .fields vs)->b≠tb:=λb o e nf z=>by rw[z,ht]at e;cases e;erw[nf ts qY]
 erw[TV (s:={s with heap:=s.heap.update tb (Obj.mapFields (·.setIfInBounds 3 Value.none))}) hA (ff.of_keeps λb o e nf=>#[o,(other b (qK b o e nf)).trans e,Z]) hL ((other ex (jJ nt)).trans ho) (λb o e=>(other b λz=>by rw[z,Cy]at e;cases e).trans (st b o e)) hB hd (LS.mp h1).1 gI λh' y up=>q h' y λb o e nf=>up b o ((other b (qK b o e nf)).trans e) nf]
theorem CJ{l:List Env}(x:kE B l ex cls dx fl s.heap)(q:∀h',kE B l ex cls dx .none h'->s.heap.UpToSlots h'->Q () {s with heap:=h'}):wpAny M A (setFlight (.ref ex) none) Q E s:=by
 let(st,hB,ff,ob,fs,tb,ot,ts,ho,hc,hx,hd,h1,Cy,nt,ht,qY,h3,gI):=x;have z3:3<ts.size:=(LS.mp h3).1;have other:∀b,b≠tb->(s.heap.update tb (Obj.mapFields (·.setIfInBounds 3 ((none:Option Addr).elim Value.none λf=>rawInt f)))).get? b=s.heap.get? b:=λb nb=>An _ _ (jJ nb);have qK:∀b o,s.heap.get? b=some o->(∀vs,o.data≠ .fields vs)->b≠tb:=λb o e nf z=>by rw[z,ht]at e;cases e;erw[nf ts qY]
 unfold setFlight;erw[aL (iE ho hd h1 ?_)];rw[bu (show(Value.ref tb !=Value.none)=true from by simp)];erw[xu ht qY z3 (q _ #[λb o e=>(other b λz=>by rw[z,Cy]at e;cases e).trans (st b o e),hB,ff.of_keeps λb o e nf=>#[o,(other b (qK b o e nf)).trans e,rfl],?_] λb o e nf=>#[o.slots,(other b (qK b o e nf)).trans e])];erw[ob,fs,tb,_,_,(other ex (jJ nt)).trans ho,hc,hx,hd,h1,Cy,nt,DS _ ht (LG (Ae qY _)),Ae qY _,by simp[z3],gI]
theorem a4b(hA:A.frames=some (env::outer))(ff:s.heap.FunFrames B (env::outer))(hL:env.frame=some L)(ho:s.heap.get? ex=some ob)(st:B.StaysIn s.heap)(hB:B.get? ex=none)(hd:ob.data= .fields fs)(h1:fs[1]? =some .none)(gI:fs[2]? =some .none) (q:∀h',kE B outer ex ob.cls ob.dict .none h'->s.heap.UpToSlots h'->Q () {s with heap:=h'}):wpAny M A (leaving env (.ref ex)) Q E s:=by unfold leaving;erw[aL (a2N hA ff hL ho st hB hd h1 gI λh1 x1 u1=>CJ x1 λh2 x2 u2=>q h2 ?_ (u1.trans u2))];let(a,b,(_,_,c),d):=x2;erw[a,b,c,d]
theorem a4a(hA:A.frames=some (env::outer))(hL:env.frame=some L)(x:kE B (env::outer) ex cls dx .none s.heap) (q:∀h',kE B outer ex cls dx .none h'->s.heap.UpToSlots h'->Q () {s with heap:=h'}):wpAny M A (leaving env (.ref ex)) Q E s:=by unfold leaving;erw[aL (QJ hA hL x λh1 x1 u1=>CJ x1 λh2 x2 u2=>q h2 ?_ (u1.trans u2))];let(a,b,(_,_,c),d):=x2;erw[a,b,c,d]
end
end _L
namespace _L
open PySem PySem.Spec PyProof.Rows
open Builtin Builtin.ObjectAttr
section
variable {prog:af}{w:World}{A:ah}{E:Value->ae->Prop}{s:ae}{K:aa}{x C:Addr}{ox:Obj}{fs:Array Value}{name:Str}{v:Value}{Q:Unit->ae->Prop}
end
end _L
namespace _L
open PySem PySem.Spec PyProof.Rows
section
variable {X:Cx}{o e value:Expr}{f:Str}{pos pos' sM:Pos}{ta tv:TE}
end
section
variable {prog:af}{w:World}{A:ah}{E:Value->ae->Prop}{h:Heap}{g:Array GenState}{d:Drawn}{t:Nat}{os:OsState}
variable {nm q:Str}{C N fI:Addr}{bs bm nu:List Value}{hdct:Bool}{sn:List Str}{sub:List Value}{ab:Bool}{col:Option Bool}{dd:Option Addr}{k0 k1 k2 k3 k5:Option Value}{B newId J0:String}{mN:bN}{rest:List Value}{oI:Obj}
end
section
variable {M:Model}{A:ah}{E:Value->ae->Prop}{env:Env}{nm q:Str}{C N:Addr}{bs bm:List Value}{hdct:Bool}{sn:List Str}{sub:List Value}{ab:Bool}{col:Option Bool}{dd:Option Addr}{k0 k1 k2 k3 k5:Option Value}{newId:String}
end
def jh(P:af)(w:World):j4:=λouter H s E e s'=>∃(ex:Addr)(cls:Value)(dx:Option Addr)(H':Hp)(B:Heap),e= .ref ex/\s'.os=s.os/\AllBare s'.gens/\kE B outer ex cls dx .none s'.heap/\Fl P w outer H s.heap ex H' B s'.heap/\E cls dx H'
section
variable {P:af}{w:World}{K:aa}{mg:bN}{aw:Heap}{N:List Str}{qual:Str}{scope:Scope}{f:Addr}{cd:Value}{A:ah}{outer:List Env}{s:ae}{H:Hp}{E:XK}{ak:List (Addr×Obj)}{O:St}{H1:Hp}{s1:ae}{ex:Addr}{C:Addr}{dx:Addr}
end
section
variable {X:Cx}{x:Str}{C fI:Addr}{nu:List Value}{newId J0 B:String}{e:Expr}{t:TA}{np da pos:Pos}{k:Nat}{fd:FuncData}{ps:List Str}{sp:Sp}
end
def qh(ex:Addr)(cls:Value)(dx:Option Addr)(h:Heap):Prop:=∃o,h.get? ex=some o/\o.cls=cls/\o.dict=dx/\∃fs,o.data= .fields fs/\fs[2]? =some .none
def ClsAt(K:aa)(C:Addr):Prop:=∀h,K.In h->∃nm q N bs tl hdct sn sub ab col dd k0 k1 k2 k3 k5 newId,h.get? C=some (excClassObj nm q C N bs tl hdct sn sub ab col dd k0 k1 k2 k3 k5 newId)
theorem Exc.cls{K:aa}{mg:bN}{x:Str}{C:Addr}{nu:List Value}{newId:String}(e:Exc K mg x C nu newId):ClsAt K C:=λh X=>by let(tl,N,nm,q,bs,hdct,sn,sub,ab,col,dd,k0,k1,k2,k3,k5,mN,hC,_):=(e.own X).obj;erw[nm,q,N,bs,tl,hdct,sn,sub,ab,col,dd,k0,k1,k2,k3,k5,newId,hC]
section
variable {X:Cx}{i:Nat}{n y:Str}{Dc:Addr}{rL:List Value}{newD:String}{body oO:List Stmt}{b0:Stmt}{np oj pos:Pos}{tb:XK->TS}{th:TS}{Cs:Addr->Prop}
end
end _L
namespace _L
open PySem PySem.Spec PyProof.Rows PySem.W
section
variable {prog:af}{w:World}{A:ah}{E:Value->ae->Prop}{h:Heap}{g:Array GenState}{d:Drawn}{t:Nat}{os:OsState}{K:Frag}{x C:Addr}{ox:Obj}{od:Obj}{f:Str}{v:Value}
end
section
variable {X:Cx}{e:Expr}{f:Str}{pos:Pos}{ta:TE}
end
end _L
namespace _L
open PySem PySem.Spec PyProof.Rows
def rY(P:af)(w:World)(K:aa)(mg:bN)(aw:Heap)(x:Str)(k:Nat)(sp:Sp):Prop:=∃f fd ps,eK P w K mg aw (jh P w) k f fd ps sp/\mg x=some (.ref f)/\PySem.W.keepIn K (.ref f)=true/\Binds K fd ps []
theorem FA.rn{P:af}{w:World}{K:aa}{mg:bN}{aw:Heap}{x:Str}{st:Stmt}{N ps:List Str}{k:Nat}{sp:Sp}(F:FA K mg x st)(S:bp N ps (aY st))(len:∀vs H Q E,sp vs H Q E->vs.length=ps.length) (hb:∀(kV doc pm:Value)(an:Option Addr)(aI ct:Value)(us:List Value),us.length=ps.length->bindArgs (PySem.W.fnOf x x (jB st) (fQ st) (aY st) .none kV doc pm an aI ct) #[us,[]]=pure (ps.zip us)) (gb:∀(f:Addr)(aI:Value)(A:ah)(outer:List Env)(s:ae)(H:Hp)(vs:List V)(Q:VK)(E:XK),cF k (A.deeper (envOfC x (aY st) s.heap.objs.size f aI))->sp vs H Q E->∃t,fT (iA (jh P w) P w K mg aw N x (aY st) f aI A outer s H E) (fQ st) t/\t {nx:=λ_ H'=>Q .bD H',rt:=Q} (start N vs) H):rY P w K mg aw x (k+1) sp:=by let(f,fd,hm,F):=F.ex;have uk:=F.binds hb;have kp:=F.kp;let(oc,od,kV,doc,pm,an,aI,ct,fO,rfl,lk,eY):=F.ex;erw[f,_,ps,JT lk eY S len λA outer s H vs Q E hr fM=>gb f aI A outer s H vs Q E hr fM,hm,kp,uk]
section
variable {X:Cx}{k:Nat}{x:Str}{p pos:Pos}{e:Expr}{es:List Expr}{t:TA}{sp:Sp}
end
structure oF(k:Nat)(A:ah):Prop where
 dp:A.depth+3*k+5<recursionLimit
 un:A.units+16*k+200<cLine
theorem oF.mono{j k:Nat}{A:ah}(r:oF k A)(h:j<=k):oF j A:=#[by have:=r.dp;lia,by have:=r.un;lia]
theorem oF.units{k:Nat}{A:ah}(r:oF k A):A.units+64<cLine:=by have:=r.un;lia
theorem cF.mark{k:Nat}{A:ah}(r:cF k A)(v:Option Value):oF k (A.mark v):=#[r.dp,r.un]
theorem oF.deeper{k:Nat}{A:ah}(r:oF (k+1) A)(env:Env):oF k (A.deeper env):=#[by have:=r.dp;show A.depth+1+3*k+5<_;lia,by have:=r.un;show A.units+3+16*k+200<_;lia]
abbrev De(P:af)(w:World)(K:aa)(mg:bN)(aw:Heap)(N:List Str)(qual:Str)(scope:Scope)(f:Addr)(cd:Value)(A:ah)(outer:List Env)(s:ae)(H:Hp):Cx:={(iA iS P w K mg aw N qual scope f cd A outer s H (λ_ _ _=>False))with calm:=false,xe:=λ_ _=>False}
section
variable {X:Cx}{k:Nat}{x:Str}{p pos:Pos}{e:Expr}{es:List Expr}{t:TA}{sp:Sp}
end
section
variable {P:af}{w:World}{K:aa}{mg:bN}{aw:Heap}{N:List Str}{qual:Str}{scope:Scope}{f:Addr}{cd:Value}{A:ah}{outer:List Env}{s:ae}{H:Hp}{E E0:XK}
theorem tQ(he:∀cls dx H',E cls dx H'->E0 cls dx H'):Passes (jh P w) (iA (jh P w) P w K mg aw N qual scope f cd A outer s H E0) E:=by
 intro ak O H1 s1 e s2 I hx;let(ex,cls,dx,H',B,rfl,ho,hg,pL,F,q):=hx;have pL:kE B (envOfC qual scope s.heap.objs.size f cd::outer) ex cls dx .none s2.heap:=pL;show wpAny (model P w) (A.deeper (envOfC qual scope s.heap.objs.size f cd)) (leaving (envOfC qual scope s.heap.objs.size f cd) (.ref ex)) _ _ _;erw[a4a (L:=s.heap.objs.size) I.ok.frames Z pL λh' x1 x2=>?_];have F2:=F.step pL.1 x1.1 x2 pL.2.2.1;have sub:∀b,b∈eZ outer->b∈eZ (envOfC qual scope s.heap.objs.size f cd::outer):=λb hb=>by let(env,h1,h2):=oJ.mp hb;erw[oJ.mpr #[env,.tail _ h1,h2]]
 have qM:∀b o,s.heap.get? b=some o->b∉eZ outer->b∉eZ (envOfC qual scope s.heap.objs.size f cd::outer):=λb o e hb hm=>by
  let(env,h1,h2):=oJ.mp hm;rcases bJ.mp h1 with z|h1
  ·subst z
   have e1:s.heap.objs.size=b:=dQ h2;have e2:=ck e;rw[<-e1]at e2;erw[absurd e2 (vb _)]
  ·erw[hb (oJ.mpr #[env,h1,h2])]
 have nx:∀b:Addr,b∉([]:List Addr):=λ_=>bZ;erw[ex,cls,dx,H',B,Z,ho.trans I.os,hg,x1,#[#[λb o e n hb _=>?_,λb o e n hb _=>?_,λb o e n _=>?_,λb o e _=>?_,λb xs e=>?_,λb o u e=>?_,λb ps e=>?_],F2.bA,λb o e n hb=>?_,F2.k2,λb o e hb=>?_,λb hb=>F2.fr b (sub b hb),?_,F2.ne],he _ _ _ q]
 ·erw[F2.un.keep b o (I.aw.keep b o e n hb (nx b)) (I.aw.free b o e n (nx b)) (qM b o e hb) (nx b)]
 ·let(sl,e1):=I.aw.slot b o e n hb (nx b)
  let(sl2,e2):=F2.un.slot b _ e1 (I.aw.free b o e n (nx b)) (sub b hb) (nx b);erw[sl2,e2]
 ·let(sl,e1):=I.aw.any e n (nx b)
  erw[F2.un.free b _ e1 (I.aw.free b o e n (nx b)) (nx b)]
 ·let(o1,e1):=I.aw.there b o e (nx b)
  erw[F2.un.there b o1 e1 (nx b)]
 ·erw[F2.un.kJ b xs (I.aw.kJ b xs e)]
 ·erw[F2.un.kz b o u (I.aw.kz b o u e)]
 ·let(m1,e1):=I.aw.kK b ps e
  let(m2,e2):=F2.un.kK b _ e1;erw[m1++m2,by rw[<-Array.append_assoc];erw[e2]]
 ·erw[F2.k1 b o (I.aw.keep b o e n hb (nx b)) (I.aw.free b o e n (nx b)) (qM b o e hb)]
 ·let(o1,e1):=I.aw.there b o e (nx b)
  erw[F2.k3 b o1 e1 (qM b o e hb)]
 ·cases e:s.heap.get? ex with |none=>rfl |some o=>let(o1,e1):=I.aw.there ex o e (nx ex);rw[F2.nw]at e1;cases e1
end
end _L
namespace _L
open PySem PySem.Spec PyProof.Rows
open Builtin Builtin.ObjectAttr
section
variable {prog:af}{w:World}{A:ah}{E:Value->ae->Prop}{s:ae}{K:aa}{x C dx:Addr}{ox:Obj}{fs:Array Value}{name:Str}{v:Value}{Q:Unit->ae->Prop}{mA:bN}{ks:List Str}
end
section
variable {X:Cx}{o e value:Expr}{f:Str}{pos pos' sM:Pos}{ta tv:TE}
end
end _L
namespace _L
open PySem PySem.Spec PyProof.Rows
def hJ(P:af)(w:World)(K:aa)(mg:bN)(aw:Heap)(C:Addr)(m:Str)(k:Nat)(sp:Sp):Prop:=∃f fd ps,eK P w K mg aw (jh P w) k f fd ps sp/\Meth K C m f/\Binds K fd ps []
section
variable {P:af}{w:World}{K:aa}{mg:bN}{aw:Heap}
theorem kD.okD{m qual:Str}{st:Stmt}{f:Addr}{fd:FuncData}{N ps:List Str}{k:Nat}{sp:Sp}(F:kD K m qual st f fd)(S:bp N ps (aY st))(len:∀vs H Q E,sp vs H Q E->vs.length=ps.length) (gb:∀(aI:Value)(A:ah)(outer:List Env)(s:ae)(H:Hp)(vs:List V)(Q:VK)(E:XK),cF k (A.deeper (envOfC qual (aY st) s.heap.objs.size f aI))->sp vs H Q E->∃t,fT (iA (jh P w) P w K mg aw N qual (aY st) f aI A outer s H E) (fQ st) t/\t {nx:=λ_ H'=>Q .bD H',rt:=Q} (start N vs) H):eK P w K mg aw (jh P w) (k+1) f fd ps sp:=by let(oc,od,kV,doc,pm,an,aI,ct,fO,rfl,lk,eY):=F.ex;erw[JT lk eY S len λA outer s H vs Q E hr fM=>gb aI A outer s H vs Q E hr fM]
theorem MA.rn{C:Addr}{m qual:Str}{st:Stmt}{N ps:List Str}{k:Nat}{sp:Sp}(F:MA K C m qual st)(S:bp N ps (aY st))(len:∀vs H Q E,sp vs H Q E->vs.length=ps.length) (hb:∀(kV doc pm:Value)(an:Option Addr)(aI ct:Value)(us:List Value),us.length=ps.length->bindArgs (PySem.W.fnOf m qual (jB st) (fQ st) (aY st) .none kV doc pm an aI ct) #[us,[]]=pure (ps.zip us)) (gb:∀(f:Addr)(aI:Value)(A:ah)(outer:List Env)(s:ae)(H:Hp)(vs:List V)(Q:VK)(E:XK),cF k (A.deeper (envOfC qual (aY st) s.heap.objs.size f aI))->sp vs H Q E->∃t,fT (iA (jh P w) P w K mg aw N qual (aY st) f aI A outer s H E) (fQ st) t/\t {nx:=λ_ H'=>Q .bD H',rt:=Q} (start N vs) H):hJ P w K mg aw C m (k+1) sp:=by let(f,fd,hm,F):=F.ex;erw[f,fd,ps,F.okD S len λaI A outer s H vs Q E=>gb f aI A outer s H vs Q E,hm,F.binds hb]
end
section
variable {X:Cx}{k:Nat}{x m:Str}{C:Addr}{p pos apos:Pos}{o e:Expr}{es:List Expr}{t:TA}{ta:TE}{sp:Sp}{E:XK}
inductive Lf(C:Addr)(m:Str)(sp:Sp)(E:XK)(t:TA)(O:St)(Q:VK)(x:V)(H1:Hp):Prop |mk (a:Addr)(dx:Addr)(fs:List (Str×V))(h0:x= .ref a)(h1:H1 a=some (.ins C dx fs))(h2:fs.lookup m=none)(h3:t O H1 λvs H2=>sp (x::vs) H2 Q E)
def Mj(C:Addr)(m:Str)(sp:Sp)(E:XK)(ta:TE)(t:TA):TE:=λO H Q=>ta O H λx H1=>Lf C m sp E t O Q x H1
theorem Rg{O:St}{Q:VK}{x:V}{H1:Hp}:uT C m sp [] E t O Q x H1=Lf C m sp E t O Q x H1:=by
 have e1:(λ(vs:List V) H1=>sp (x::(vs++[])) H1 Q E)=λvs H1=>sp (x::vs) H1 Q E:=by funext vs H1;rw[qo]
 erw[propext #[λ#[a,dx,fs,h0,h1,h2,h3]=>#[a,dx,fs,h0,h1,h2,?_],λ#[a,dx,fs,h0,h1,h2,h3]=>#[a,dx,fs,h0,h1,h2,?_]]]
 ·rw[<-e1];erw[h3]
 ·rw[e1];erw[h3]
theorem yA{pl:Sem Bool}(F:hJ X.prog X.w X.K X.mg X.aw C m k sp)(hp:Passes (jh X.prog X.w) X E)(c:hU X.K C)(hr:cF k X.A)(he:PE X o ta)(ha:PA X (e::es) t) (g9:autoParam (starEach (e::es) X.env=(false,eval e X.env)::starEach es X.env) r8_._auto_1)(eJ:autoParam ((backTo pos (starEach es X.env)).any (·.1)=false) r8_._auto_1) (ht:eval (.Call (.Attribute o m apos) (e::es) [] pos) X.env=(do
 let ov<-eval o X.env
 standAt apos.atName
 let(f,first)<-holding [ov] (getMethod ov m pl)
 callWith pos f first (backTo pos (starEach (e::es) X.env)) (backToKw pos (keywordEach [] X.env))):=by rfl): PE X (.Call (.Attribute o m apos) (e::es) [] pos) (Mj C m sp E ta t):=by
 let(f,fd,ps,F,hm,hb):=F;have h:=Qk (pos:=pos) (apos:=apos) (pl:=pl) he c hm F hr hb .nil hp ha g9 eJ ht;intro ak s O H Q I hq;erw[h ak s O H Q I ?_];show ta O H λx H1=>uT C m sp [] E t O Q x H1;simp only[Rg];erw[hq]
theorem a05{pl:Sem Bool}(F:hJ X.prog X.w X.K X.mg X.aw C m k sp)(hp:Passes (jh X.prog X.w) X E)(c:hU X.K C)(hr:cF k X.A)(he:PE X o ta) (ht:eval (.Call (.Attribute o m apos) [] [] pos) X.env=(do
 let ov<-eval o X.env
 standAt apos.atName
 let(f,first)<-holding [ov] (getMethod ov m pl)
 callWith pos f first (backTo pos (starEach [] X.env)) (backToKw pos (keywordEach [] X.env))):=by rfl): PE X (.Call (.Attribute o m apos) [] [] pos) (Mj C m sp E ta qx):=by
 let(f,fd,ps,F,hm,hb):=F;have h:=Qj (pos:=pos) (apos:=apos) (pl:=pl) he c hm F hr hb .nil hp ht;intro ak s O H Q I hq;erw[h ak s O H Q I ?_];show ta O H λx H1=>uT C m sp [] E qx O Q x H1;simp only[Rg];erw[hq]
end
end _L
namespace _L
open PySem PySem.Spec PyProof.Rows SeqAt
section
variable {X:Cx}{k:Nat}{x:Str}{p pos:Pos}{e:Expr}{es:List Expr}{t:TA}{sp:Sp}{E:XK}
inductive adD(X:Cx)(i:Nat)(CX:j4)(E:XK)(t:TA)(O:St)(H:Hp)(Q:VK):Prop |mk (f:Addr)(fd:FuncData)(ps:List Str)(k:Nat)(sp:Sp)(h0:O[i]? =some (some (.ref f)))(h1:eK X.prog X.w X.K X.mg X.aw CX k f fd ps sp)(h2:PySem.W.keepIn X.K (.ref f)=true)(h3:Binds X.K fd ps [])(h4:cF k X.A)(h5:t O H λvs H1=>sp vs H1 Q E)
theorem a0e(i:Nat){CX:j4}(hp:Passes CX X E)(hN:autoParam (X.N[i]? =some x) r8_._auto_1)(hv:autoParam (zW X.env.scope x) d8_._auto_1)(ha:PA X (e::es) t)(hd:autoParam ((x==("__debug__":Str))=false) q8_._auto_1) (eY:autoParam ((x==("__classdict__":Str))=false) q8_._auto_1)(he:autoParam (starEach (e::es) X.env=(false,eval e X.env)::starEach es X.env) r8_._auto_1)(eJ:autoParam ((backTo pos (starEach es X.env)).any (·.1)=false) r8_._auto_1): PE X (.Call (.Name x p) (e::es) [] pos) (λO H Q=>adD X i CX E t O H Q):=by intro ak s O H Q I h;let(f,fd,ps,k,sp,h0,F,hk,hb,hr,ht):=h;erw[A9 (ba (Hm (pos:=p) hN hv hd eY ak s O H (λv H'=>v= .ref f/\H'=H) I #[_,h0,Z,Z]) λu s1 #[v,H1,I1,rv,e1,e2]=>?_)];subst e1 e2;cases(show u=Value.ref f from rv);erw[xF (h₀:=X.aw) I1.ok.mod.lL hk (ba (ha pos ak s1 O H1 _ I1 ht) λus s2 #[vs,H2,I2,r,q]=>#[I2.fD,?_]) he eJ];erw[Bm F hr hb .nil hp I2 r ?_];rw[qo];erw[q]
end
section
variable {X:Cx}
end
end _L
namespace _L
open PySem PySem.Spec PyProof.Rows
section
variable {κ : Type} [DecidableEq κ]
def jn(aO:List (κ×V))(k:κ):Option V:=(aO.find? λkv=>decide (kv.1=k)).map (·.2)
def putK(aO:List (κ×V))(k:κ)(v:V):List (κ×V):=if(aO.any λkv=>decide (kv.1=k))=true then aO.map (λkv=>if kv.1=k then(kv.1,v)else kv)else aO++[(k,v)]
theorem E2{p:κ×V}{r:List (κ×V)}{k:κ}(e:p.1=k):jn (p::r) k=some p.2:=by simp[jn,Ai,e]
theorem E3{p:κ×V}{r:List (κ×V)}{k:κ}(e:¬p.1=k):jn (p::r) k=jn r k:=by simp[jn,Ai,e]
theorem M5(k:κ):∀aO:List (κ×V),(aO.any λkv=>decide (kv.1=k))=(jn aO k).isSome
 |[]=>rfl |p::r=>by
  rw[qp];by_cases e:p.1=k
  ·simp only[E2 e,bM e,Bool.true_or,Option.isSome_some]
  ·rw[E3 e,cD e,Bool.false_or];erw[M5 k r]
theorem IH(aO:List (κ×V))(k:κ)(v:V):(putK aO k v).length<=aO.length+1:=by
 unfold putK;split
 ·rw[bW];lia
 ·rw[fH,gq,List.length_nil];lia
theorem jF.a4D{o:Option V}{u:Option Value}(r:jF o u):o.isSome=u.isSome:=by cases o with
 |none=>cases u with |none=>rfl |some _=>exact(show False from r).elim
 |some _=>cases u with |none=>exact(show False from r).elim |some _=>rfl
theorem KV.val{aO:List (κ×V)}{vs:List (κ×Value)}(r:KV aO vs)(k:κ):jF (jn aO k) (valueAt vs k):=by unfold KV at r;induction r with |nil=>erw[True.intro] |@cons p q ps qs h t ih=>
 let(h1,h2):=h;by_cases e:p.1=k
 ·have e':q.1=k:=h1.symm.trans e
  have b:valueAt (q::qs) k=some q.2:=by simp[valueAt,Ai,e']
  rw[E2 e,b];erw[h2]
 ·have e':¬q.1=k:=λz=>e (h1.trans z)
  have b:valueAt (q::qs) k=valueAt qs k:=by simp[valueAt,Ai,e']
  rw[E3 e,b];erw[ih]
theorem KV.any{aO:List (κ×V)}{vs:List (κ×Value)}(r:KV aO vs)(k:κ):(aO.any λkv=>decide (kv.1=k))=vs.any λkv=>decide (kv.1=k):=by unfold KV at r;induction r with |nil=>rfl |cons h t ih=>rw[qp,qp,ih,h.1]
theorem KV.GP{aO:List (κ×V)}{vs:List (κ×Value)}(r:KV aO vs)(k:κ){y:V}{u:Value}(ry:RelV y u): KV (aO.map λkv=>if kv.1=k then(kv.1,y)else kv) (vs.map λkv=>if kv.1=k then(kv.1,u)else kv):=by unfold KV at r⊢;induction r with |nil=>erw[.nil] |@cons p q ps qs h t ih=>
 rw[kH,kH];erw[.cons ?_ ih];let(h1,h2):=h;by_cases e:p.1=k
 ·rw[bu e,bu (h1.symm.trans e)];erw[h1,ry]
 ·rw[bo e,bo (λz=>e (h1.trans z))];erw[h1,h2]
theorem KV.put{aO:List (κ×V)}{vs:List (κ×Value)}(r:KV aO vs)(k:κ){y:V}{u:Value}(ry:RelV y u):KV (putK aO k y) (stored vs k u):=by
 unfold putK stored;rw[r.any k];by_cases e:(vs.any λkv=>decide (kv.1=k))=true
 ·rw[bu e,bu e];erw[r.GP k ry]
 ·rw[bo e,bo e];erw[Paired.snoc r #[Z,ry]]
theorem KV.length{aO:List (κ×V)}{vs:List (κ×Value)}(r:KV aO vs):aO.length=vs.length:=Paired.length r
end
theorem C0{P:af}{w:World}{k:Key}{u:Value}(r:RelV (kV k) u):(jv P w).is k u=true:=by cases k with |inl i=>let(t,e):=(show∃t,u=Value.int i t from r);subst e;erw[a3m P w i t] |inr x=>let(t,e):=(show∃t,u=Value.str x t from r);subst e;erw[a3l P w x t]
theorem S5{P:af}{w:World}:∀{ks:List Key}{us:List Value},Vals (ks.map kV) us->ItemsAre (jv P w) ks us |[],_,r=>by rw[List.map_nil]at r;cases r;erw[.nil] |k::ks,_,r=>by rw[kH]at r;cases r with |cons h t=>erw[.cons (C0 h) (S5 t)]
abbrev KT(H:Hp):List (List Key×V)->List (List Key×Addr×Value)->Prop:=Paired λp q=>p.1=q.1/\H q.2.1=some (.tup (p.1.map kV))/\RelV p.2 q.2.2
theorem KT.val{H:Hp}{aO:List (List Key×V)}{xs:List (List Key×Addr×Value)}(r:KT H aO xs)(k:List Key):jF (jn aO k) ((atKey xs k).map (·.2)):=by induction r with |nil=>erw[True.intro] |@cons p q ps qs h t ih=>
 let(h1,_,h2):=h;by_cases e:p.1=k
 ·have e':q.1=k:=h1.symm.trans e
  have b:atKey (q::qs) k=some q.2:=by simp[atKey,Ai,e']
  rw[E2 e,b];erw[h2]
 ·have e':¬q.1=k:=λz=>e (h1.trans z)
  have b:atKey (q::qs) k=atKey qs k:=by simp[atKey,Ai,e']
  rw[E3 e,b];erw[ih]
theorem KT.GP{H:Hp}{aO:List (List Key×V)}{xs:List (List Key×Addr×Value)}(r:KT H aO xs)(k:List Key){y:V}{u:Value}(ry:RelV y u): KT H (aO.map λkv=>if kv.1=k then(kv.1,y)else kv) (xs.map (putAt k u)):=by induction r with |nil=>erw[.nil] |@cons p q ps qs h t ih=>
 rw[kH,kH];erw[.cons ?_ ih];let(h1,h2,h3):=h;unfold putAt;by_cases e:p.1=k
 ·rw[bu e,bu (h1.symm.trans e)];erw[h1,h2,ry]
 ·rw[bo e,bo (λz=>e (h1.trans z))];erw[h1,h2,h3]
theorem KT.put{H:Hp}{aO:List (List Key×V)}{xs:List (List Key×Addr×Value)}(r:KT H aO xs)(k:List Key){b:Addr}{y:V}{u:Value}(hb:H b=some (.tup (k.map kV)))(ry:RelV y u): KT H (putK aO k y) (storedH xs k b u):=by
 have e:(aO.any λkv=>decide (kv.1=k))=(atKey xs k).isSome:=by rw[M5,(r.val k).a4D,Option.isSome_map]
 unfold putK storedH;rw[e];by_cases q:(atKey xs k).isSome=true
 ·rw[bu q,bu q];erw[r.GP k ry]
 ·rw[bo q,bo q];erw[Paired.snoc r #[Z,hb,ry]]
theorem KT.keeps{H H':Hp}{aO:List (List Key×V)}{xs:List (List Key×Addr×Value)}(r:KT H aO xs)(ht:∀b ys,H b=some (.tup ys)->H' b=some (.tup ys)):KT H' aO xs:=Paired.Iv r λ_ _ z=>#[z.1,ht _ _ z.2.1,z.2.2]
section
variable {P:af}{w:World}{H:Hp}{h:Heap}{a:Addr}
theorem PZ{u:HO}(ok:dP P w H h)(e:Rd H a u):fU P w H h a u:=e.ok ok
theorem Kh{aO:List (Key×V)}(ok:dP P w H h)(e:Rd H a (.dK aO)):aO.length<=sizeLine/\(a==sysModules)=false/\∃vs,KV aO vs/\h.DictOf (jv P w) a vs:=show fU P w H h a (.dK aO)from PZ ok e
theorem Ui{aO:List (Key×V)}(ok:dP P w H h)(e:H a=some (.dK aO)):aO.length<=sizeLine/\(a==sysModules)=false/\∃vs,KV aO vs/\h.DictOf (jv P w) a vs:=Kh ok (.inl e)
theorem IS{ks:List Key}(ok:dP P w H h)(e:H a=some (.tup (ks.map kV))):(tupleKind (jv P w)).is h ks a:=by let(_,its,r,o,h1,h2,n,h3):=(show fU P w H h a (.tup (ks.map kV))from ok a _ e);erw[o,its.toArray,n,h1,h2,h3,by simpa using S5 r]
theorem Kf{aO:List (List Key×V)}(ok:dP P w H h)(e:Rd H a (.dT aO)):aO.length<=sizeLine/\(a==sysModules)=false/\∃xs,KT H aO xs/\h.DictOfH (tupleKind (jv P w)) a xs:=by
 let(z,y,xs,r,o,es,ep,h1,h2,h3,h4,h5):=(show fU P w H h a (.dT aO)from PZ ok e);erw[z,y,xs,r,o,es,ep,h1,h2,h3,h4,λx hx=>?_,h5];have all:∀{l:List (List Key×V)}{m:List (List Key×Addr×Value)},KT H l m->∀x∈m,(tupleKind (jv P w)).is h x.1 x.2.1:=by intro l m q;induction q with |nil=>intro x hx;erw[nomatch hx] |@cons p q ps qs hq t ih=>
  intro x hx;rcases bJ.mp hx with e|hx
  ·subst e
   erw[IS ok (by rw[<-hq.1];erw[hq.2.1])]
  ·erw[ih x hx]
 erw[all r x hx]
theorem a9K{aO:List (List Key×V)}(ok:dP P w H h)(e:H a=some (.dT aO)):aO.length<=sizeLine/\(a==sysModules)=false/\∃xs,KT H aO xs/\h.DictOfH (tupleKind (jv P w)) a xs:=Kf ok (.inl e)
end
def uW(H:Hp)(a:Addr)(y:V)(r:Option V):Prop:=(∃aO k,Rd H a (.dK aO)/\y=kV k/\r=jn aO k)\/∃aO k b,Rd H a (.dT aO)/\y= .ref b/\H b=some (.tup (k.map kV))/\r=jn aO k
def xt(H:Hp)(a:Addr)(y v:V)(H':Hp):Prop:=(∃aO k,H a=some (.dK aO)/\y=kV k/\aO.length<sizeLine/\H'=upd H a (.dK (putK aO k v)))\/ ∃aO k b,H a=some (.dT aO)/\y= .ref b/\H b=some (.tup (k.map kV))/\aO.length<sizeLine/\H'=upd H a (.dT (putK aO k v))
theorem uW.k{H:Hp}{a:Addr}{aO:List (Key×V)}{k:Key}(e:H a=some (.dK aO)):uW H a (kV k) (jn aO k):=.inl #[aO,k,.inl e,Z,Z]
theorem xt.k{H:Hp}{a:Addr}{aO:List (Key×V)}{k:Key}{v:V}(e:H a=some (.dK aO))(hl:aO.length<sizeLine):xt H a (kV k) v (upd H a (.dK (putK aO k v))):=.inl #[aO,k,e,Z,hl,Z]
section
variable {X:Cx}{ak:List (Addr×Obj)}{O:St}{H:Hp}{s:ae}{a:Addr}{y v:V}{u r:Value}{o:Option V}{A:ah}{E:Value->ae->Prop}
theorem Inv.big(I:Inv X ak O H s):sysModules<s.heap.objs.size:=by have h:mainGlobals<s.heap.objs.size:=(I.mod.glob.keeps I.bk).lt;erw[xG ay h]
theorem aa4{Q:Value->ae->Prop}(hu:A.units+1<cLine)(I:Inv X ak O H s)(g:uW H a y (some v))(ry:RelV y u)(h:∀w' s',Inv X ak O H s'->RelV v w'->Q w' s'): wpAny (model X.prog X.w) A (getItem (.ref a) u) Q E s:=by
 rcases g with⟨aO,k,e,ey,l⟩|⟨aO,k,b,e,ey,eb,l⟩
 ·subst ey
  let(z,hd,vs,rel,dd):=Kh I.bA e;let(w',hw,eQ):=jF.some_of (v:=v) (o:=valueAt vs k) (by rw[l];erw[rel.val k]);erw[wpAny_getItem_of (C0 ry) dd.mapOf hw (h w' _ (I.tok _) eQ)]
 ·subst ey
  cases(show u=Value.ref b from ry);let(z,hd,xs,rel,dd):=Kf I.bA e;let(w',hw,eQ):=jF.some_of (v:=v) (o:=(atKey xs k).map (·.2)) (by rw[l];erw[rel.val k]);let(p,hp,Cj):=DK.mp hw;erw[wpAny_getItem_heap (tupleKind_room_in1 hu) (IS I.bA eb) dd hp ?_];rw[Cj];erw[h w' _ (I.tok _) eQ]
theorem Kn{h':Heap}{t':Nat}{ob:HO}(I:Inv X ak O H s)(mu:zZ (H a))(hs:Heap.SameBut a s.heap h')(he:∃q,h'.get? a=some q)(new:fU X.prog X.w (upd H a ob) h' a ob): Inv X ak O (upd H a ob) {s with heap:=h',toks:=t'}:=I.write (x:=a) (e:=a) mu (.inl Z) (λb q hb z=>(hs.2 b hb).trans z) he new
theorem Uj{P:af}{w:World}{H':Hp}{h':Heap}{aO:List (Key×V)}{vs:List (Key×Value)}(z:aO.length<=sizeLine)(hd:(a==sysModules)=false)(rel:KV aO vs)(dd:h'.DictOf (jv P w) a vs): fU P w H' h' a (.dK aO):=#[z,hd,vs,rel,dd]
theorem aa3{H':Hp}{Q:Unit->ae->Prop}(hu:A.units+1<cLine)(I:Inv X ak O H s)(g:xt H a y v H')(ry:RelV y u)(rv:RelV v r)(h:∀s',Inv X ak O H' s'->Q () s'): wpAny (model X.prog X.w) A (setItem (.ref a) u r) Q E s:=by
 rcases g with⟨aO,k,e,ey,l,eH⟩|⟨aO,k,b,e,ey,eb,l,eH⟩
 ·subst ey eH
  let(z,hd,vs,rel,dd):=Ui I.bA e;have hz:vs.length<=sizeLine:=by rw[<-rel.length];erw[z]
  have hl:(putK aO k v).length<=sizeLine:=by have:=IH aO k v;lia
  erw[wpAny_setItem_pairs (hsz:=hz) (C0 ry) dd λh' oA hs=>h _ ?_];have he:∃q,h'.get? a=some q:=let#[q,_,_,hq,_]:=oA;#[q,hq];erw[Kn I (by rw[e];erw[True.intro]) hs he (Uj hl hd (rel.put k rv) oA)]
 ·subst ey eH
  cases(show u=Value.ref b from ry);let(z,hd,xs,rel,dd):=a9K I.bA e;have hz:xs.length<=sizeLine:=by rw[<-Paired.length rel];erw[z]
  have hl:(putK aO k v).length<=sizeLine:=by have:=IH aO k v;lia
  erw[wpAny_setItem_heap (hsz:=hz) (tupleKind_room_in1 hu) (IS I.bA eb) dd λh' oA hs=>h _ ?_];let(q,es,ep,hq,h2,h3,h4,_,h5):=oA;erw[Kn I (by rw[e];erw[True.intro]) hs #[q,hq] #[hl,hd,_,(rel.put k eb rv).keeps λc ys ec=>?_,q,es,ep,hq,h2,h3,h4,h5]];rw[aU (iM ec e (λz=>nomatch z))];erw[ec]
end
section
variable {X:Cx}{ak:List (Addr×Obj)}{O:St}{H:Hp}{s:ae}{a:Addr}{aO:List (Key×V)}{k:Key}{u:Value}{A:ah}{E:Value->ae->Prop}
end
def DA(i:Expr):Prop:=∀ov iv,subscripted i false ov iv=operate [ov,iv] (getItem ov iv)
theorem Mu{prog:af}{w:World}{A:ah}{E:Value->ae->Prop}{s:ae}{env:Env}{value slice:Expr}{pos:Pos}{T id:String}{Q:Value->ae->Prop} (hl:typeLookup (.type T) "__getitem__"=pure (some (.builtin id)))(hs:DA slice) (h:wpAny (model prog w) A (eval value env) (λo s₁=>wpAny (model prog w) A (eval slice env) (λi s₂=>s₂.TypeIs o T/\wpAny (model prog w) A (getItem o i) Q E s₂) E s₁) E s): wpAny (model prog w) A (eval (.Subscript value slice pos) env) Q E s:=by
 erw[Subscript_ (ji h (λo s₁ h₁=>ji h₁ (λi s₂ h₂=>?_) λ_ _ x=>x) λ_ _ x=>x)];let(hT,h₂):=h₂;unfold subscriptTail;erw[aL ?_];rw[getitemInPython_of_ne hT.not_modules];erw[aL (Lm hT hl ?_)];have fin:wpAny (model prog w) A (subscripted slice false o i) (λr s₃=>wpAny (model prog w) A (letTemporaryGo value o r>>=λ_=>pure r) Q E s₃) E s₂:=by rw[hs o i];erw[wpAny_operating (ji h₂ (λr s₃ h₃=>aL (wpAny_letTemporaryGo (cn h₃))) λ_ _ x=>x)]
 first |erw[cn (aL fin)] |erw[aL (cn (aL fin))] |erw[aL fin]
theorem a9Z{X:Cx}{ak:List (Addr×Obj)}{O:St}{H:Hp}{s:ae}{a:Addr}{y:V}{o:Option V}(I:Inv X ak O H s)(g:uW H a y o):s.TypeIs (.ref a) "dict":=by
 rcases g with⟨aO,k,e,_,_⟩|⟨aO,k,b,e,_,_,_⟩
 ·let(_,_,vs,_,dd):=Kh I.bA e
  erw[dd.typeIs]
 ·let(_,_,xs,_,dd):=Kf I.bA e
  erw[dd.typeIs]
inductive abv(Q:VK)(x:V)(y:V)(H2:Hp):Prop |mk (a:_)(v:_)(h0:x= .ref a)(h1:uW H2 a y (some v))(h2:Q v H2)
def Mo(td ty:TE):TE:=λO H Q=>td O H λx H1=>ty O H1 λy H2=>abv Q x y H2
inductive acV(D:Ends)(O:St)(v:V)(x:V)(y:V)(H3:Hp):Prop |mk (a:_)(H4:_)(h0:x= .ref a)(h1:xt H3 a y v H4)(h2:D.nx O H4)
def Ys(td ty tv:TE):TS:=λD O H=>tv O H λv H1=>td O H1 λx H2=>ty O H2 λy H3=>acV D O v x y H3
section
variable {X:Cx}{o i e value:Expr}{pos pos' sM:Pos}{td ty tv:TE}
theorem Qm(hu:X.A.units+1<cLine)(ho:PE X o td)(hi:PE X i ty)(hs:DA i):PE X (.Subscript o i pos) (Mo td ty):=by intro ak s O H Q I h;erw[Mu PySem.F.slot_dict_getitem.lookup hs (ba (ho ak s O H _ I h) λu s1 #[x,H1,I1,rx,q1]=>ba (hi ak s1 O H1 _ I1 q1) λiv s2 #[y,H2,I2,ry,a,v,ex,g,q2]=>?_)];subst ex;obtain rfl:u=Value.ref a:=rx;erw[a9Z I2 g,aa4 hu I2 g ry λw' s3 I3 eQ=>#[v,H2,I3,eQ,q2]]
theorem p4(hu:X.A.units+1<cLine)(ho:PE X o td)(hi:PE X i ty)(hv:PE X value tv)(hs:swapsWith value (some (.Subscript o i pos')) pos.line X.env=pure false): PS X (.Assign [.Subscript o i pos'] value pos) (Ys td ty tv):=by intro ak s O H D I h;erw[wpAny_Assign_Subscript (ba (hv ak s O H _ I h) λr s1 #[v,H1,I1,rv,q1]=>ba (ho ak s1 O H1 _ I1 q1) λu s2 #[x,H2,I2,rx,q2]=>ba (hi ak s2 O H2 _ I2 q2) λiv s3 #[y,H3,I3,ry,a,H4,ex,g,q3]=>?_) hs];subst ex;obtain rfl:u=Value.ref a:=rx;erw[aa3 hu I3 g ry rv λs4 I4=>#[O,H4,I4,q3]]
end
theorem a9T{P:af}{w:World}{H:Hp}(h:Heap)(hb:sysModules<h.objs.size):fU P w H (h.push {cls:=.type "dict",data:=.dict #[]}) h.objs.size (.dK []):=#[gM _,DF.mpr (jJ (dY hb)),[],.nil,Heap.DictOf.new h]
section
variable {X:Cx} {pos:Pos}
end
def Ea:List (TE×TE)->St->Hp->(List (V×V)->Hp->Prop)->Prop |[],_,H,Q=>Q [] H |(tk,tv)::r,O,H,Q=>tk O H λx H1=>tv O H1 λy H2=>Ea r O H2 λps H3=>Q ((x,y)::ps) H3
abbrev VV:List (V×V)->List (Value×Value)->Prop:=Paired λp q=>RelV p.1 q.1/\RelV p.2 q.2
def Dz(X:Cx)(pos:Pos)(keys:List (Option Expr))(values:List Expr)(oM:List (TE×TE)):Prop:=∀(ak:List (Addr×Obj))(s:ae)(O:St)(H:Hp)(Q:List (V×V)->Hp->Prop),Inv X ak O H s->Ea oM O H Q->wpAny (model X.prog X.w) X.A (evalPairs (pairTrees keys values X.env pos)) (λvs s'=>∃ps H',Inv X ak O H' s'/\VV ps vs/\Q ps H') X.xe s
theorem ZN{X:Cx}{pos:Pos}:Dz X pos [] [] []:=λak s O H Q I h=>pairTrees_nil_walk #[[],H,I,.nil,h]
theorem Bs{X:Cx}{pos:Pos}{k v:Expr}{ks:List (Option Expr)}{vs:List Expr}{tk tv:TE}{oM:List (TE×TE)}(hk:PE X k tk)(hv:PE X v tv)(hr:Dz X pos ks vs oM): Dz X pos (some k::ks) (v::vs) ((tk,tv)::oM):=λak s O H Q I h=>pairTrees_cons_walk (ba (hk ak s O H _ I h) λu s1 #[x,H1,I1,rx,q1]=>ba (hv ak s1 O H1 _ I1 q1) λw2 s2 #[y,H2,I2,ry,q2]=>ba (hr ak s2 O H2 _ I2 q2) λws s3 #[ps,H3,I3,rel,q3]=>#[(x,y)::ps,H3,I3,.cons #[rx,ry] rel,q3])
def wA(aO more:List (Key×V)):List (Key×V):=more.foldl (λacc kv=>putK acc kv.1 kv.2) aO
theorem KV.merge:∀{more:List (Key×V)}{rs:List (Key×Value)}{aO:List (Key×V)}{vs:List (Key×Value)},KV more rs->KV aO vs->KV (wA aO more) (merged vs rs):=by intro more rs aO vs r;unfold KV at r;induction r generalizing aO vs with |nil=>intro q;erw[q] |@cons p q ps qs h t ih=>
 intro r0;have e:KV (putK aO p.1 p.2) (stored vs q.1 q.2):=by have:=r0.put p.1 h.2;rw[<-h.1];erw[this]
 erw[ih e]
theorem RM:∀(more aO:List (Key×V)),(wA aO more).length<=aO.length+more.length |[],aO=>by show aO.length<=aO.length+0;lia |p::r,aO=>by have h1:=RM r (putK aO p.1 p.2);have h2:=IH aO p.1 p.2;show(wA (putK aO p.1 p.2) r).length<=_;rw[gq];lia
theorem UL{P:af}{w:World}:∀{aO:List (Key×V)}{ws:List (Value×Value)},VV (aO.map λkv=>(kV kv.1,kv.2)) ws->∃rs,Carries (jv P w) ws rs/\KV aO rs |[],_,r=>by rw[List.map_nil]at r;cases r;erw[[],True.intro,.nil] |p::aO,_,r=>by rw[kH]at r;cases r with |@cons a b as bs h t=>let(rs,c,q):=UL (P:=P) (w:=w) t;let(b1,b2):=b;erw[(p.1,b2)::rs,#[C0 h.1,Z,c],.cons #[Z,h.2] q]
def Xq(oM:List (TE×TE)):TE:=λO H Q=>∀p,H p=none->Ea oM O (upd H p (.dK [])) λps H2=>H2 p=some (.dK [])/\∃aO:List (Key×V),ps=aO.map (λkv=>(kV kv.1,kv.2))/\aO.length<=15/\Q (.ref p) (upd H2 p (.dK (wA [] aO)))
theorem a0b{X:Cx}{pos:Pos}{keys:List (Option Expr)}{values:List Expr}{oM:List (TE×TE)}(h:Dz X pos keys values oM)(Jy:keys.all (·.isSome)=true)(hl:keys.length=values.length)(h0:keys≠[]) (h15:keys.length<=15):PE X (.Dict keys values pos) (Xq oM):=by
 intro ak s O H Q I q;have hn:=I.bA.fresh (bV s.heap.objs.size);have I1:=I.laid (a:=s.heap.objs.size) (o:=.dK []) (h':=s.heap.push {cls:=.type "dict",data:=.dict #[]}) (t':=s.toks) (λ_ _ q=>cx _ q) (bV _) (a9T s.heap I.big);erw[wpAny_Dict_walk (knd:=jv X.prog X.w) Jy hl h0 h15 (ba (h ak _ O _ _ I1 (q _ hn)) λws s2 #[ps,H2,I2,rel,e,aO,ep,lk,q2]=>?_)];subst ep;let(rs,c,rk):=UL (P:=X.prog) (w:=X.w) rel;let(z,hd,vs0,r0,dd):=Ui I2.bA e;cases r0;erw[rs,c,dd,λh' oA hs=>#[.ref s.heap.objs.size,_,?_,Z,q2]];have hz:(wA [] aO).length<=sizeLine:=by have h1:=RM aO [];rw[List.length_nil]at h1;rw[uX];lia
 have he:∃q,h'.get? s.heap.objs.size=some q:=let#[q,_,_,hq,_]:=oA;#[q,hq];erw[Kn I2 (by rw[e];erw[True.intro]) hs he (Uj hz hd (rk.merge .nil) oA)]
section
variable {X:Cx}{ak:List (Addr×Obj)}{O:St}{H:Hp}{s:ae}{a:Addr}{y d:V}{u r:Value}{o:Option V}{A:ah}{E:Value->ae->Prop}
end
section
variable {X:Cx}{o e f:Expr}{apos da:Pos}{td ty tx:TE}
end
section
variable {X:Cx}{ak:List (Addr×Obj)}{O:St}{H:Hp}{s:ae}{a:Addr}{aO:List (Key×V)}{A:ah}{E:Value->ae->Prop}
end
section
variable {X:Cx}{ak:List (Addr×Obj)}{O:St}{H:Hp}{s:ae}{a:Addr}{y:V}{u:Value}{A:ah}{E:Value->ae->Prop}
end
end _L
namespace _L
open PySem PySem.Spec PyProof.Rows PySem.W
structure GD(w:World)(K:Frag)(mg:bN)(x:Str)(a:Addr):Prop where
 at':mg x=some (.ref a)
 ob:∃es n,K.lookup a=some #[.type "dict",none,.dict es n,#[]]/\KeysLit w.params es.toList
 lo:(a==sysModules)=false
theorem a7w{w:World}{K:Frag}{mg:bN}{x:Str}{a:Addr}{h:Heap}{es:Array DictEntry}{n:Nat}(X:K.In h)(G:h.Ns mainGlobals mg)(e:nsIn K mainGlobals x=some (some (.ref a)))(hl:K.lookup a=some #[.type "dict",none,.dict es n,#[]])(hk:KeysLit w.params es.toList)(lo:(a==sysModules)=false):GD w K mg x a:=#[mg_of X G e,#[es,n,hl,hk],lo]
section
variable {X:Cx}{i:Expr}{x:Str}{a:Addr}{pos p:Pos}{ty:TE}
inductive adA(K:Frag)(a:Addr)(Q:VK)(y:V)(H:Hp):Prop |mk (z:Str)(r:Option Value)(h0:y= .str z)(h1:nsIn K a z=some r)(h2:Q (.bl r.isSome) H)
theorem Qo(G:GD X.w X.K X.mg x a)(hg:Gl X x)(hi:PE X i ty)(iO:autoParam ((x==("__debug__":Str))=false) q8_._auto_1):PC X .In i (.Name x p) (λO H Q=>ty O H λy H1=>adA X.K a Q y H1):=by intro ak s O H Q I h;let(es,n,hl,hk):=G.ob;erw[ba (hi ak s O H _ I h) λiv s1 #[y,H1,I1,ry,z,r,ey,e,q]=>ub I1 hg G.at' ?_ iO];subst ey;let(t,rfl):=ry;erw[wpAny_in_of (strKind_is X.prog X.w z t) G.lo (mapOf_K (prog:=X.prog) I1.fD hl hk) ?_];rw[find_K hl e];erw[.bl r.isSome,H1,I1.tok _,Z,q]
inductive adB(K:Frag)(a:Addr)(Q:VK)(y:V)(H:Hp):Prop |mk (z:Str)(u:Value)(v:V)(h0:y= .str z)(h1:nsIn K a z=some (some u))(h2:RelV v u)(h3:Q v H)
theorem Ql(G:GD X.w X.K X.mg x a)(hg:Gl X x)(hi:PE X i ty)(hs:DA i)(iO:autoParam ((x==("__debug__":Str))=false) q8_._auto_1):PE X (.Subscript (.Name x p) i pos) (λO H Q=>ty O H λy H1=>adB X.K a Q y H1):=by intro ak s O H Q I h;let(es,n,hl,hk):=G.ob;erw[Mu PySem.F.slot_dict_getitem.lookup hs (ub I hg G.at' ?_ iO)];erw[ba (hi ak s O H _ I h) λiv s1 #[y,H1,I1,ry,z,u,v,ey,e,rv,q]=>?_];subst ey;let(t,rfl):=ry;have hm:=mapOf_K (prog:=X.prog) (w:=X.w) I1.fD hl hk;erw[hm.typeIs,wpAny_getItem_of (strKind_is X.prog X.w z t) hm (find_K hl e) #[v,H1,I1.tok _,rv,q]]
end
theorem a4g{l:OpenLaw}{q:af}{loose:List Str}{XP:(bN)->Heap->Prop}{YP:World->Heap->Prop}{d:DefRec}{K:Params->Frag}{k:Nat}{x:Str}{st:Stmt}(hn:l.most=some 63)(zk:d.params.defaults=[]) (hr:cF k callerA)(hY:∀(w:World)(h:Heap),YP w h->(K w.params).In h)(All:World->Frag->(bN)->Prop) (F:∀(w:World)(mg:bN)(h:Heap),(K w.params).In h->h.Ns mainGlobals mg->All w (K w.params) mg) (L:∀(w:World)(K:Frag)(mg:bN),All w K mg->FA K mg d.name st) (hb:∀(kV doc pm:Value)(an:Option Addr)(aI ct u:Value),bindArgs (fnOf d.name d.name (jB st) (fQ st) (aY st) .none kV doc pm an aI ct) #[[u],[]]=pure [(x,u)]) (ok:∀(P:af)(w:World)(K:Frag)(mg:bN)(aw:Heap)(f:Addr)(fd:FuncData),All w K mg->kD K d.name d.name st f fd->eK P w K mg aw iS k f fd [x] (λvs H Q _=>∃(a:Addr)(ns:List Int),vs=[.ref a]/\aE K H a (ns.map V.int)/\ns.length<=63/\∀H',Q (.bl true) H')): WalkO q loose XP YP l.row.toRowW d [] (λf vs=>PySem.call f vs):=_L.Wl (n:=63) (k:=k) (x:=x) (CX:=λ_=>iS) (sp:=λw=>λvs H Q _=>∃(a:Addr)(ns:List Int),vs=[.ref a]/\aE (K w.params) H a (ns.map V.int)/\ns.length<=63/\∀H',Q (.bl true) H') hn ay zk hr hY (λw mg fa h KX G zf=>by
 have A:=F w mg h KX G;let(f,fd,hm,Fn):=(L _ _ _ A).ex;have e:fa=f:=by rw[zf]at hm;injection (dQ hm)
 subst e;erw[fd,λs u=>?_,λaw _ _=>ok l.prog w _ mg aw fa fd A Fn];let(oc,od,kV,doc,pm,an,aI,ct,fO,rfl,lk,eY):=Fn.ex;erw[.of_eq (hb kV doc pm an aI ct u)]) (λ_ _ a ns hl _ hS=>#[a,ns,Z,hS,hl,λ_=>rfl]) λ_ _ _ _ _ z=>z
end _L
set_option exponentiation.threshold 6000
namespace _L
open PySem PySem.Spec PyProof.Rows
section
variable {X:Cx}
theorem gJ:fq X (.type "str") (λxs H Q=>(∃i,xs=[.int i]/\i.natAbs.log2<1920/\Q (.str (toString i)) H)\/∃z,xs=[.str z]/\Q (.str z) H):=by
 intro ak s O H xs us Q I r h;rcases h with⟨i,rfl,hz,q⟩|⟨z,rfl,q⟩
 ·let(u,rfl,t,rfl):=vals1 r
  erw[PySem.P.str_of_int hz #[.str _,H,I.tok _,#[_,Z],q]]
 ·let(u,rfl,t,rfl):=vals1 r
  erw[PySem.P.str_of_str #[.str _,H,I,#[_,Z],q]]
def ZA(x:V)(H:Hp)(Q:VK):Prop:=(∃i,x= .int i/\i.natAbs.log2<1920/\Q (.str (toString i)) H)\/∃z,x= .str z/\z.length<=sizeLine/\Q (.str z) H
theorem kP{e:Expr}{te:TE}{pos:Pos}(h:PE X e te):PE X (.FormattedValue e (-1) none pos) (λO H Q=>te O H λx H'=>ZA x H' Q):=by
 intro ak s O H Q I ht;erw[wpAny_FormattedValue_plain (ba (h ak s O H _ I ht) λv s1 #[x,H1,I1,r1,q1]=>?_)];rcases q1 with⟨i,rfl,hz,q⟩|⟨z,rfl,hz,q⟩
 ·let(t,rfl):=r1
  erw[wpAny_formatField_int hz #[.str _,H1,I1.tok _,#[_,Z],q]]
 ·let(t,rfl):=r1
  erw[wpAny_formatField_str #[.str _,H1,I1,#[_,Z],q] #[.str _,H1,I1.tok _,#[_,Z],q] hz]
abbrev TJ:=Str->St->Hp->VK->Prop
def PJ(X:Cx)(es:List Expr)(t:TJ):Prop:=∀(ak:List (Addr×Obj))(s:ae)(O:St)(H:Hp)(Q:VK)(acc:Str),Inv X ak O H s->t acc O H Q->Joins (model X.prog X.w) X.A X.xe (evalEach es X.env) acc (λout s₁=>out.length<=sizeLine/\EP X ak O Q (.str out s₁.toks) {s₁ with toks:=s₁.toks+1}) s
theorem vT:PJ X [] (λacc O H Q=>acc.length<=sizeLine/\Q (.str acc) H):=by intro ak s O H Q acc I h;erw[h.1,.str _,H,I.tok _,#[_,Z],h.2]
theorem gD{e:Expr}{es:List Expr}{te:TE}{tj:TJ}(h:PE X e te)(hj:PJ X es tj)(he:autoParam (evalEach (e::es) X.env=eval e X.env::evalEach es X.env) r8_._auto_1): PJ X (e::es) (λacc O H Q=>te O H λx H'=>∃y,x= .str y/\(acc++y).length<=sizeLine/\tj (acc++y) O H' Q):=by intro ak s O H Q acc I ht;rw[he];erw[ba (h ak s O H _ I ht) λv s1 #[x,H1,I1,r1,q1]=>?_];let(y,rfl,hl,q):=q1;let(t,rfl):=r1;erw[y,t,Z,hl,hj ak s1 O H1 Q _ I1 q]
theorem vV{e1 e2:Expr}{es:List Expr}{t:TJ}{pos:Pos}(h:PJ X (e1::e2::es) t):PE X (.JoinedStr (e1::e2::es) pos) (λO H Q=>t Str.empty O H Q):=λak s O H Q I ht=>wpAny_JoinedStr (h ak s O H Q _ I ht)
theorem C1(sep:Str){B:Nat}:∀(zs:List Str),(∀z∈zs,z.length<=B)->(Txt.join sep zs).length<=zs.length*(B+sep.length)
 |[],_=>gM _ |a::r,h=>by
  show(Builtin.Str.glued sep (a::r)).length<=_;rw[Ac,len_join_cons];have:=sumLen_le_of_bound id B (a::r) h;rw[List.map_id]at this;rw[gq]at this⊢;have e1:(r.length+1)*(B+sep.length)=B*(r.length+1)+(r.length*sep.length+sep.length):=by rw[Nat.mul_add,Nat.mul_comm (r.length+1) B,Nat.add_mul r.length 1 sep.length,Nat.one_mul]
  lia
inductive ad4(K:aa)(x:V)(vs:List V)(H:Hp)(Q:VK):Prop |mk (sep:Str)(l:Addr)(zs:List Str)(h0:x= .str sep)(h1:vs=[.ref l])(h2:aE K H l (zs.map V.str))(h3:(∀z∈zs,z.length<=4000))(h4:sep.length<=8)(h5:zs.length<=1000)(h6:Q (.str (Txt.join sep zs)) H)
def Q7(K:aa):V->List V->Hp->VK->Prop:=λx vs H Q=>ad4 K x vs H Q
theorem a3i(K:aa)(hK:X.K=K):DB X "str.join" (Q7 K):=by subst hK;intro ak s O H x vs v us Q I rx rv h;let(sep,l,zs,rfl,rfl,hl,hz,hs,hn,q):=h;let(t,rfl):=rx;let(u,rfl,ru):=vals1 rv;cases(show u=Value.ref l from ru);let(its,r,pl,_):=I.list hl;have a5b:=sumLen_le_of_bound id 4000 zs hz;rw[List.map_id]at a5b;have h1:zs.length*sep.length<=1000*8:=qk hn hs;erw[join_list (ys:=zs) pl.isList (StrsAre.of_carried (UM r)) au λt' k=>?_];erw[.str _,H,I.tok _,#[_,Z],q]
theorem vW(K:aa)(h:X.K=K){o e:Expr}{to:TE}{t:TA}{apos da:Pos}(ho:PE X o to)(ha:PA X [e] t) (mV:autoParam (attributeBase o "join" X.env (eval o X.env)=eval o X.env) r8_._auto_1) (mS:autoParam (((backTo da (starEach [e] X.env)).all (λx=>!x.1)&&(backToKw da (keywordEach [] X.env)).all (λx=>x.1.isSome) &&decide ([e].length+([]:List Keyword).length+(if([]:List Keyword).isEmpty then 0 else 1)<30))=true) r8_._auto_1) (mO:autoParam ((apos.endLine==da.line)=true) r8_._auto_1)(hs:autoParam (starEach [e] X.env=(false,eval e X.env)::starEach [] X.env) r8_._auto_1)(mJ:autoParam ((backTo da (starEach [] X.env)).any (·.1)=false) r8_._auto_1): PE X (.Call (.Attribute o "join" apos) [e] [] da) (vw K "str" (Q7 K) to t):=by subst h;erw[yB VF PySem.F.slot_str_join PySem.F.type_str_join (a3i X.K rfl) ho ha mV mS mO hs mJ]
theorem M7{i:Int}(h:i.natAbs<10^40):(Str.ofString (toString i)).length<=41:=by rw[PySem.ofString_length];erw[int_text_length_le10 (k:=40) ay h]
theorem gF{i:Int}(h:i.natAbs<10^40):i.natAbs.log2<1920:=by
 by_cases h0:i.natAbs=0
 ·rw[h0];decide
 ·exact(Nat.log2_lt h0).mpr (xG h ay)
theorem UN:∀(l:List (Str×Tok)),Vals ((l.map (·.1)).map V.str) (strValues l) |[]=>.nil |(z,t)::l=>.cons #[t,Z] (UN l)
theorem split_len(x y:Str):(Txt.split x y).length<=x.length+2:=by
 unfold Txt.split;split
 ·simp
 ·split
  ·simp
  ·have e1:=StrLaws.occ_length_le x y 0 x.length (x.length+1)
   rw[length_partsBetween];omega
inductive acX(x:V)(vs:List V)(H:Hp)(Q:VK):Prop |mk (z y:Str)(h0:x= .str z)(h1:vs=[.str y])(h2:(y.length==0)=false)(h3:z.length+2<=sizeLine)(h4:∀p H',Nw H H' p (.lst ((Txt.split z y).map V.str))->Q (.ref p) H')
def Q5:V->List V->Hp->VK->Prop:=λx vs H Q=>acX x vs H Q
theorem a3g:DB X "str.split" Q5:=by
 intro ak s O H x0 vs v us Q I rx rv h;let(x,y,rfl,rfl,hy,hz,q):=h;let(t,rfl):=rx;let(u0,rfl,u,rfl):=vals1 rv;have key:∀(l:List (Str×Tok))(k:Nat),l.map (·.1)=Txt.split x y->EP X ak O Q (.ref s.heap.objs.size) {s with toks:=k,heap:=s.heap.push {cls:=.type "list",data:=.seq (strValues l).toArray}}:=λl k e=>by have nw:Nw H (upd H s.heap.objs.size (.lst ((Txt.split x y).map V.str))) s.heap.objs.size (.lst ((Txt.split x y).map V.str)):=.of (I.bA.fresh (bV _));erw[.ref s.heap.objs.size,_,I.laid (t':=k) (o:=.lst ((Txt.split x y).map V.str)) (λb ob q=>cx _ q) (bV _) ?_,Z,q _ _ nw];have:=split_len x y;erw[by rw[bW];omega,_,0,by rw[<-e];erw[UN l],eP _ Z]
 cases h1:(decide (x.length<y.length)||decide (Builtin.Str.strKind x<Builtin.Str.strKind y))
 ·cases hf:(Builtin.Str.occurrences x y 0 x.length (x.length+1)).isEmpty
  ·have e1:=StrLaws.occ_length_le x y 0 x.length (x.length+1)
   erw[Ab F.slot_str_split (typeIs_str _ _ _) F.entry_str_split (F.args_str_split_2 _ _) (meets_str_split_sep x y t u h1 hy hf bR (by rw[length_partsBetween];omega)) ?_];show wants _ _ _ {s with toks:=_,heap:=s.heap.push {cls:=.type "list",data:=.seq (strsFrom s.toks (Builtin.Str.partsBetween x (Builtin.Str.occurrences x y 0 x.length (x.length+1)) y.length)).toArray}};rw[strsFrom_eq];erw[key (numbered s.toks _) _ ((numbered_texts _ _).trans ((bo (Vy h1)).trans (bo (Vy hf))).symm)]
  ·erw[Ab F.slot_str_split (typeIs_str _ _ _) F.entry_str_split (F.args_str_split_2 _ _) (meets_str_split_not_found x y t u h1 hy hf) (key [(x,t)] s.toks ((bo (Vy h1)).trans (bu hf)).symm)]
 ·erw[Ab F.slot_str_split (typeIs_str _ _ _) F.entry_str_split (F.args_str_split_2 _ _) (meets_str_split_cannot_occur x y t u h1) (key [(x,t)] s.toks (bu h1).symm)]
theorem tO(K:aa)(h:X.K=K){o e:Expr}{to:TE}{t:TA}{apos da:Pos}(ho:PE X o to)(ha:PA X [e] t) (mV:autoParam (attributeBase o "split" X.env (eval o X.env)=eval o X.env) r8_._auto_1) (mS:autoParam (((backTo da (starEach [e] X.env)).all (λx=>!x.1)&&(backToKw da (keywordEach [] X.env)).all (λx=>x.1.isSome) &&decide ([e].length+([]:List Keyword).length+(if([]:List Keyword).isEmpty then 0 else 1)<30))=true) r8_._auto_1) (mO:autoParam ((apos.endLine==da.line)=true) r8_._auto_1)(hs:autoParam (starEach [e] X.env=(false,eval e X.env)::starEach [] X.env) r8_._auto_1)(mJ:autoParam ((backTo da (starEach [] X.env)).any (·.1)=false) r8_._auto_1): PE X (.Call (.Attribute o "split" apos) [e] [] da) (vw K "str" Q5 to t):=by subst h;erw[yB VF PySem.F.slot_str_split PySem.F.type_str_split a3g ho ha mV mS mO hs mJ]
inductive ad2(x:V)(vs:List V)(H:Hp)(Q:VK):Prop |mk (z y:Str)(h0:x= .str z)(h1:vs=[.str y])(h3:z.length<=sizeLine)(h4:Q (.str (Txt.removeprefix z y)) H)
def Q6:V->List V->Hp->VK->Prop:=λx vs H Q=>ad2 x vs H Q
theorem a3h:DB X "str.removeprefix" Q6:=by intro ak s O H x0 vs v us Q I rx rv h;let(x,y,rfl,rfl,hz,q):=h;let(t,rfl):=rx;let(u0,rfl,u,rfl):=vals1 rv;erw[SC.removeprefix (λt' k=>#[.str _,H,I.kept (t':=k) (λ_ _ e=>e),#[_,Z],q]) (hsz:=hz)]
theorem a0g(K:aa)(h:X.K=K){o e:Expr}{to:TE}{t:TA}{apos da:Pos}(ho:PE X o to)(ha:PA X [e] t) (mV:autoParam (attributeBase o "removeprefix" X.env (eval o X.env)=eval o X.env) r8_._auto_1) (mS:autoParam (((backTo da (starEach [e] X.env)).all (λx=>!x.1)&&(backToKw da (keywordEach [] X.env)).all (λx=>x.1.isSome) &&decide ([e].length+([]:List Keyword).length+(if([]:List Keyword).isEmpty then 0 else 1)<30))=true) r8_._auto_1) (mO:autoParam ((apos.endLine==da.line)=true) r8_._auto_1)(hs:autoParam (starEach [e] X.env=(false,eval e X.env)::starEach [] X.env) r8_._auto_1)(mJ:autoParam ((backTo da (starEach [] X.env)).any (·.1)=false) r8_._auto_1): PE X (.Call (.Attribute o "removeprefix" apos) [e] [] da) (vw K "str" Q6 to t):=by subst h;erw[yB VF PySem.F.slot_str_removeprefix PySem.F.type_str_removeprefix a3h ho ha mV mS mO hs mJ]
inductive ada(xs:List V)(H:Hp)(Q:VK):Prop |mk (z:Str)(n:Int)(h0:xs=[.str z])(h1:PySem.intText? z=some n)(h2:z.length<=640)(h3:Q (.int n) H)
theorem xg:fq X (.type "int") (λxs H Q=>ada xs H Q):=by intro ak s O H xs us Q I r h;let(z,n,rfl,hn,hl,q):=h;let(u,rfl,t,rfl):=vals1 r;erw[PySem.W.KIN.call_text hn hl #[.int _,H,I.tok _,#[_,Z],q]]
inductive adx(K:aa)(t1 t2:TG)(v:V)(O:St)(H:Hp)(Q:St->Hp->Prop):Prop |mk (a:Addr)(x:V)(xs:List V)(h0:v= .ref a)(h1:aE K H a (x::xs))(h2:xs.length<=16000)(h3:∀p H',Nw H H' p (.lst xs)->t1 x O H' λσ1 H1=>t2 (.ref p) σ1 H1 Q)
def Tj(K:aa)(t1 t2:TG):TG:=λv O H Q=>adx K t1 t2 v O H Q
theorem Qi(K:aa)(hK:X.K=K){e1 e2:Expr}{k:Nat}{t1 t2:TG}{sp pos:Pos}(hc:X.calm=true)(h1:PG X e1 t1)(h2:PG X e2 t2) (hs:autoParam (assignEach [e1,.Starred e2 sp] X.env=[(false,assign e1 X.env),(true,assign e2 X.env)]) r8_._auto_1):PG X (.Tuple [e1,.Starred e2 sp] k pos) (Tj K t1 t2):=by subst hK;intro ak s O H v u Q I r hw;let(a,x,xs,e,hq,hl,hw):=hw;subst e;cases r;let(its,rv,ht,hz):=I.list hq;have hh:X.A.handled=none:=I.ok.hd hc;have mM:=ht.isList;cases rv with |cons r1 rr=>
 rename_i ux dD;have hlen:=rr.length;have cK:a≠s.heap.objs.size:=by let(o,ho,_):=mM;erw[dY (ck ho)]
 rw[assign_Tuple];erw[aL (A4 ?_)];unfold unpack;rw[hs];erw[aL (m6 ?_)];show wpAny _ _ (unpackItems (.ref a) 2 (some 1)) _ _ _;unfold unpackItems;erw[aL ?_];unfold notIterableAtAll;erw[aL (Lm mM.typeIs slot_list_iter.lookup ?_)];erw[cn ?_];simp only[Bool.false_eq_true,if_false];erw[aL (m6 (xy mM ?_))];have sz:(ux::dD).toArray.size=xs.length+1:=by rw[eO,gq,hlen]
 erw[aL (m6 (PySem.W.kun_draw cK 1 0 _ _ #[_,eP _ Z,Z,Z] (mM.push _) bR λh₁ uj wH=>?_))];have zh:h₁.IsList a (ux::dD).toArray:=(mM.push _).extBut wH.extBut cK;rw[Nat.zero_add]at uj;have Jm:=uj;let(oi,lQ,_):=Jm;have Jk:=zh;let(ol,zc,_):=Jk;rw[bo (by simp)];erw[aL (m6 (PySem.W.kun_collect (s:={s with heap:=h₁}) (T:="list_iterator") (.inr (.inr (.inl rfl))) (Walks.list (A:=X.A.in1) hh s.heap.objs.size a cK (ux::dD).toArray) (λj u st=>st.1.typeIs) (k:=1) bR #[uj,zh] (ck lQ) (ck zc) (λh₂ tk hk=>?_) (by rw[uX];omega)))];have ea:(ux::dD).toArray.toList.drop 1=dD:=by simp
 rw[ea];show wpAny _ _ (if dD.length<2-1-1 then _ else _) _ _ _;rw[bo bR];show wpAny _ _ (newList (dD.take (dD.length-(2-1-1)))>>=λd=>pure ((ux::dD).toArray.toList.take 1++[d]++dD.drop (dD.length-(2-1-1)))) _ _ _;have eb:dD.take (dD.length-(2-1-1))=dD:=vc bR;have ec:dD.drop (dD.length-(2-1-1))=[]:=List.drop_eq_nil_of_le bR;rw[eb,ec];have he:Heap.ExtBut s.heap.objs.size s.heap h₂:=λb o hb e=>hk b o hb (wH.extBut b o hb (cx _ e));erw[aL (wpAny_newList (s:={s with heap:=h₂,toks:=tk}) (cn ?_) ?_)]
 ·have I2:Inv X ak O H {s with heap:=h₂,toks:=tk}:=I.kept (t':=tk) λb o e=>he b o (dY (ck e)) e
  have nw:Nw H (upd H h₂.objs.size (.lst xs)) h₂.objs.size (.lst xs):=.of (I2.bA.fresh (bV _));have I3:Inv X ak O (upd H h₂.objs.size (.lst xs)) {s with heap:=h₂.push {cls:=.type "list",data:=.seq dD.toArray},toks:=tk}:=I2.laid (t':=tk) (o:=.lst xs) (λb ob q=>cx _ q) (bV _) #[by rw[gq]at hz;omega,dD,0,rr,eP _ rfl];show wpAny _ _ (assignInOrder (assign e1 X.env::[assign e2 X.env]) (ux::[Value.ref h₂.objs.size])) _ _ _;erw[xC (ba (h1 ak _ O _ _ _ _ I3 r1 (hw _ _ nw)) λ_ s1 #[σ1,H1,I1,q1]=>?_)];erw[xC (ba (h2 ak s1 σ1 H1 (.ref h₂.objs.size) _ _ I1 Z q1) λ_ s2 #[σ2,H2,I2,q2]=>?_)];erw[Lr #[σ2,H2,I2,q2]]
 ·rw[<-hlen,uX];omega
end
end _L
namespace _T
open PySem PySem.Spec PyProof.Rows PySem.NumText
def Free(c:Nat)(z:Str):Prop:=c∉z.cps.toList
def gl(c:Nat):List (List Nat)->List Nat |[]=>[] |[x]=>x |x::y::r=>x++c::gl c (y::r)
theorem JN(c:Nat):∀zs:List Str,(PySem.Str.join ⟨#[c]⟩ zs).cps.toList=gl c (zs.map λz=>z.cps.toList) |[]=>by simp[PySem.Str.join,PySem.Str.empty,gl] |[x]=>rfl |x::y::r=>by show((x++⟨#[c]⟩)++PySem.Str.join ⟨#[c]⟩ (y::r)).cps.toList=_;rw[qj,qj,qq,qq,JN c (y::r)];show(x.cps.toList++[c])++gl c _=x.cps.toList++c::gl c _;rw[List.append_assoc];rfl
theorem Ux{c:Nat}:∀{a b r s:List Nat},c∉a->c∉b->a++c::r=b++c::s->a=b/\r=s |[],[],r,s,_,_,e=>by simpa using e |[],y::b,r,s,_,h,e=>by simp at e;exact(h (by rw[e.1];erw[.head _])).elim |x::a,[],r,s,h,_,e=>by simp at e;exact(h (by rw[<-e.1];erw[.head _])).elim |x::a,y::b,r,s,h1,h2,e=>by simp only[List.cons_append,List.cons.injEq]at e;let(e1,e2):=Ux (λz=>h1 (.tail _ z)) (λz=>h2 (.tail _ z)) e.2;erw[by rw[e.1,e1],e2]
theorem Tg{c:Nat}:∀{as bs:List (List Nat)},as≠[]->bs≠[]->(∀a∈as,c∉a)->(∀b∈bs,c∉b)->gl c as=gl c bs->as=bs
 |[],_,h,_,_,_,_=>(h Z).elim |_,[],_,h,_,_,_=>(h Z).elim |[a],[b],_,_,_,_,e=>by rw[show a=b from e] |[a],b::b'::r,_,_,ha,_,e=>by
  have:c∈a:=by rw[show a=b++c::gl c (b'::r)from e];simp
  exact(ha a (.head _) this).elim |a::a'::r,[b],_,_,_,hb,e=>by
  have:c∈b:=by rw[<-show a++c::gl c (a'::r)=b from e];simp
  exact(hb b (.head _) this).elim |a::a'::r,b::b'::s,_,_,ha,hb,e=>by let(e1,e2):=Ux (ha a (.head _)) (hb b (.head _)) (show a++c::gl c (a'::r)=b++c::gl c (b'::s)from e);rw[e1,Tg (by simp) (by simp) (λx hx=>ha x (.tail _ hx)) (λx hx=>hb x (.tail _ hx)) e2]
theorem Ks{x y:Str}(h:x.cps.toList=y.cps.toList):x=y:=PySem.Str.ext' (Array.toList_inj.mp h)
theorem map_inj:∀{xs ys:List Str},xs.map (λz=>z.cps.toList)=ys.map (λz=>z.cps.toList)->xs=ys |[],[],_=>rfl |[],y::ys,h=>by simp at h |x::xs,[],h=>by simp at h |x::xs,y::ys,h=>by simp only[kH,List.cons.injEq]at h;rw[Ks h.1,map_inj h.2]
theorem ML(x y:Str):Txt.split x y≠[]:=by
 unfold Txt.split;split
 ·simp
 ·split
  ·simp
  ·rw[StrLaws.partsBetween_eq]
   let(p,r,e):=StrLaws.partsFrom_ne x y.length 0 (Builtin.Str.occurrences x y 0 x.length (x.length+1));rw[e];simp
theorem sT{c:Nat}{zs:List Str}(cP:zs≠[])(hf:∀z∈zs,Free c z):Txt.split (Txt.join ⟨#[c]⟩ zs) ⟨#[c]⟩=zs:=by
 have e:=StrLaws.join_split (Txt.join ⟨#[c]⟩ zs) ⟨#[c]⟩;have fr:=StrLaws.split_free (Txt.join ⟨#[c]⟩ zs) c;have e2:Txt.join ⟨#[c]⟩ zs=PySem.Str.join ⟨#[c]⟩ zs:=Ac _ _;have e3:=jZ (λz:Str=>z.cps.toList) (e.trans e2);simp only[JN]at e3;erw[map_inj (Tg (by simpa using ML _ _) (by simpa using cP) (λa ha=>?_) (λb hb=>?_) e3)]
 ·let(z,hz,rfl):=dB.mp ha
  erw[fr z hz]
 ·let(z,hz,rfl):=dB.mp hb
  erw[hf z hz]
def numS(i:Int):Str:=Str.ofString (toString i)
def isFig(c:Nat):Bool:=decide (48<=c)&&decide (c<=57)
def figs(z:Str):List Nat:=match z.cps.toList with |45::r=>r |l=>l
def numIn? (z:Str):Option Int:=bif (figs z).isEmpty|| !(figs z).all isFig then none else bif decide ((figs z)[0]? =some 48)&& !decide (z="0")then none else intText? z
theorem Tx{cs:List Nat}(h:cs.all isFig=true):AllDigits cs:=λc hc=>by have:=gP.mp h c hc;simpa[isFig]using this
theorem Uo{cs:List Nat}(h:AllDigits cs):cs.all isFig=true:=gP.mpr λc hc=>by have:=h c hc;simpa[isFig]using this
theorem Dh(m:Nat):(numS (m:Int)).cps.toList=(Nat.toDigits 10 m).map Char.toNat:=PySem.W.KIN.signs_num m
theorem Dg(m:Nat):(numS (Int.negSucc m)).cps.toList=45::(Nat.toDigits 10 (m+1)).map Char.toNat:=by unfold numS;rw[signs_ofString];show("-"++Nat.repr (m+1)).toList.map Char.toNat=_;rw[String.toList_append,oK,Nat.toList_repr];rfl
theorem pU(m:Nat):AllDigits ((Nat.toDigits 10 m).map Char.toNat):=λc hc=>by let(ch,lS,e):=dB.mp hc;have r:=digit_range (Nat.isDigit_of_mem_toDigits ay ay lS);rw[<-e];erw[r]
theorem CZ(m:Nat):(Nat.toDigits 10 m).map Char.toNat≠[]:=λe=>by have h:=toDigits_len_ge 10 m;rw[List.map_eq_nil_iff.mp e]at h;erw[absurd h ay]
theorem aa2:∀d:Nat,d<10->d≠0->(Nat.digitChar d).toNat≠48:=by decide
theorem RP(m:Nat)(h0:m≠0):((Nat.toDigits 10 m).map Char.toNat)[0]? ≠some 48:=by induction m using Nat.strongRecOn with |_ m ih=>
 by_cases h:m<10
 ·rw[Nat.toDigits_of_lt_base h]
  simpa using aa2 m h h0
 ·have hm:m%10<10:=Nat.mod_lt m ay
  have t:Nat.toDigits 10 (m/10)++Nat.toDigits 10 (m%10)=Nat.toDigits 10 (10*(m/10)+m%10):=Nat.toDigits_append_toDigits ay bR hm;rw[Nat.div_add_mod]at t;rw[<-t,oK,vg (DP.mpr (CZ _))];erw[ih (m/10) bR bR]
theorem a9Y(m:Nat):((Nat.toDigits 10 m).map Char.toNat).head? ≠some 45:=λe=>by have:=pU m 45 (List.mem_of_mem_head? e);omega
theorem a84{z:Str}{l:List Nat}(h:z.cps.toList=l)(hh:l.head? ≠some 45):figs z=l:=by
 unfold figs;rw[h];split
 ·simp at hh
 ·rfl
theorem a86(m:Nat):figs (numS (m:Int))=(Nat.toDigits 10 m).map Char.toNat:=a84 (Dh m) (a9Y m)
theorem a85(m:Nat):figs (numS (Int.negSucc m))=(Nat.toDigits 10 (m+1)).map Char.toNat:=by unfold figs;rw[Dg];rfl
theorem U0(m:Nat):((Nat.toDigits 10 m).map Char.toNat).isEmpty=false:=by have:=CZ m;cases h:(Nat.toDigits 10 m).map Char.toNat with |nil=>exact(this h).elim |cons=>rfl
theorem yH{i:Int}(hl:(numS i).length<=4300):numIn? (numS i)=some i:=by unfold numIn?;cases i with
 |ofNat m=>
  have ef:figs (numS (Int.ofNat m))=(Nat.toDigits 10 m).map Char.toNat:=a86 m;have ec:(numS (Int.ofNat m)).cps.toList=(Nat.toDigits 10 m).map Char.toNat:=Dh m;have e:=intText_digits (x:=numS (Int.ofNat m)) (by rw[ec];erw[pU m]) (by rw[ec];erw[CZ m]) hl;rw[ec,PySem.W.KIN.val_back]at e;rw[ef,Uo (pU m),U0,e];have h2:(decide (((Nat.toDigits 10 m).map Char.toNat)[0]? =some 48)&& !decide (numS (Int.ofNat m)="0"))=false:=by
   by_cases h0:m=0
   ·subst h0;decide+kernel
   ·rw[cD (RP m h0)];rfl
  rw[h2];rfl |negSucc m=>have e:=intText_neg (x:=numS (Int.negSucc m)) (Dg m) (pU (m+1)) (CZ (m+1)) hl;rw[PySem.W.KIN.val_back]at e;rw[a85,Uo (pU (m+1)),U0,cD (RP (m+1) bR),e];erw[jZ some (Int.negSucc_eq m).symm]
theorem gW{i:Int}{c:Nat}(h:c≠45)(h1:c<48):Free c (numS i):=λhc=>by cases i with |ofNat m=>rw[show(numS (Int.ofNat m)).cps.toList=_ from Dh m]at hc;have:=pU m c hc;omega |negSucc m=>
 rw[Dg]at hc;rcases bJ.mp hc with e|hc
 ·erw[h e]
 ·have:=pU (m+1) c hc
  omega
theorem a4N{z:Str}(h1:figs z≠[])(h2:(figs z).all isFig=true)(hl:z.length<=4300):∃n,intText? z=some n:=by
 unfold figs at h1 h2;split at h1
 ·rename_i r h
  rw[h]at h2;erw[_,intText_neg h (Tx h2) h1 hl]
 ·rename_i h
  split at h2
  ·rename_i r h'
   exact(h r h').elim
  ·erw[_,intText_digits (Tx h2) h1 hl]
theorem YZ(z:Str):(Txt.removeprefix z "-").cps.toList=figs z:=by
 rw[StrLaws.removeprefix_eq];have e1:(Str.ofString "-").cps.toList=[45]:=by decide+kernel
 have e2:(Str.ofString "-").length=1:=by decide+kernel
 have hn:z.cps.toList.length=z.length:=by simp[Str.length]
 rw[e2,StrLaws.subAt_eq,e1,e2,List.drop_zero];unfold figs;cases hz:z.cps.toList with |nil=>rw[hz]at hn;have h0:z.length=0:=hn.symm;rw[bo (by simp)];erw[hz] |cons a r=>
  rw[hz]at hn;simp only[gq]at hn;by_cases ha:a=45
  ·subst ha
   rw[bu (by simp;omega)];show((List.drop 1 (45::r)).take _).toArray.toList=r;rw[List.drop_one,List.tail_cons,vc bR]
  ·rw[bo (by simp;intro _;erw[λe=>ha (by simpa using e)])]
   rw[hz];split
   ·rename_i h;simp at h;exact(ha h.1).elim
   ·rfl
end _T
namespace _L
open PySem PySem.Spec PyProof.Rows
inductive abp(tb:TE)(O:St)(Q:VK)(x:V)(H1:Hp):Prop |mk (z:Str)(h0:x= .str z)(h1:z.length<=16777216)(h2:if z="" then tb O H1 Q else Q (.str z) H1)
def Xf(ta tb:TE):TE:=λO H Q=>ta O H λx H1=>abp tb O Q x H1
theorem XB{z:Str}(h:z.length=0):z="":=_T.Ks (by have:z.cps.size=0:=h;rw[Array.eq_empty_of_size_eq_zero this];rfl)
theorem a03{X:Cx}{a b:Expr}{rest:List Expr}{pos:Pos}{ta tb:TE}(ha:PE X a ta)(hb:PE X (.BoolOp .Or (b::rest) pos) tb):PE X (.BoolOp .Or (a::b::rest) pos) (Xf ta tb):=by
 intro ak s O H Q I h;erw[BoolOp_or (ba (ha ak s O H _ I h) λv s1 #[x,H1,I1,r1,q1]=>?_)];let(z,rfl,hl,q1):=q1;let(t,rfl):=(show∃t,v=Value.str z t from r1);erw[P.truthy_str bR ?_];by_cases e:z=""
 ·rw[bu e]at q1
  subst e;erw[hb ak _ O H1 Q (I1.tok _) q1]
 ·rw[bo e]at q1
  have:((z.length:Int) !=0)=true:=by rw[bne_iff_ne];intro h0;erw[e (XB bR)]
  rw[this];erw[.str z,H1,I1.tok _,#[t,Z],q1]
section
variable {P:af}{w:World}{K:aa}{mg:bN}{aw:Heap}{k:Nat}{sp:Sp}{C:Addr}{x m:Str}{f:Addr}{fd:FuncData}{ps:List Str}
theorem eK.d(F:eK P w K mg aw iS k f fd ps sp):eK P w K mg aw (jh P w) k f fd ps sp:=#[F.len,λA outer s H args us vs Q E hr he hb hv hs=>uY (F.run A outer s H args us vs Q E hr he hb hv hs) λr s' hq=>by cases r with |ok fl=>cases fl<;>erw[hq] |error e=>erw[hq.elim]]
theorem eK.n(F:eK P w K mg aw (jh P w) k f fd ps sp):eK P w K mg aw iS k f fd ps (λvs H Q _=>sp vs H Q E0):=#[λvs H Q E h=>F.len vs H Q E0 h,λA outer s H args us vs Q E hr he hb hv hs=>uY (F.run A outer s H args us vs Q E0 hr he hb hv hs) λr s' hq=>by cases r with |ok fl=>cases fl<;>erw[hq] |error e=>let(_,_,_,_,_,_,_,_,_,_,z):=hq;erw[z]]
theorem aG.d(F:aG P w K mg aw x k sp):rY P w K mg aw x k sp:=by let(f,fd,ps,F,h1,h2,h3):=F;erw[f,fd,ps,F.d,h1,h2,h3]
theorem rY.le{j:Nat}(F:rY P w K mg aw x k sp)(h:k<=j):rY P w K mg aw x j sp:=by let(f,fd,ps,F,h1,h2,h3):=F;erw[f,fd,ps,F.mono h,h1,h2,h3]
theorem hJ.n(F:hJ P w K mg aw C m k sp):cS P w K mg aw C m k (λvs H Q _=>sp vs H Q E0):=by let(f,fd,ps,F,h1,h2):=F;erw[f,fd,ps,F.n,h1,h2]
end
end _L
namespace _L
open PySem PySem.Spec PyProof.Rows PySem.W
section
variable {P:af}{w:World}{K:Frag}{mg:bN}{aw:Heap}{N:List Str}{qual:Str}{scope:Scope}{f:Addr}{cd:Value}{cl:List (Str×Addr)}{A:ah}{outer:List Env}{s:ae}{H:Hp}{E E0:XK}
end
section
variable {X:Cx}{x:Str}{p pos:Pos}{E:XK}
end
section
variable {X:Cx}{ak:List (Addr×Obj)}{O:St}{H:Hp}{s:ae}{pr:Arguments}{bd:Expr}{sc:Scope}{Rx:Pos}{cl:List (Str×Addr)}{T c:Addr}{q:Str}
end
section
variable {X:Cx}{k:Nat}{x:Str}{p pos Rx:Pos}{pr:Arguments}{bd:Expr}{sc:Scope}{sp:SpH}{T c:Addr}{q:Str}{N:List Str}
end
section
variable {P:af}{w:World}{K:Frag}{mg:bN}{aw:Heap}
end
end _L
namespace _L
open PySem PySem.Spec PyProof.Rows
section
variable {P:af}{w:World}{K:aa}{mg:bN}{aw:Heap}{N:List Str}{qual:Str}{scope:Scope}{f:Addr}{cd:Value}{A:ah}{outer:List Env}{s:ae}{H:Hp}{E:XK}{ak:List (Addr×Obj)}{O:St}{H1:Hp}{s1:ae}{ex:Addr}{C:Addr}{dx:Addr}{φ:Heap->Prop}{cls:Value}{dxo:Option Addr}{h2:Heap}{vs:List Value}
theorem Ay(I:Inv (iA (jh P w) P w K mg aw N qual scope f cd A outer s H E) ak O H1 s1)(hx:Heap.MadeExcOf s1.heap h2 ex cls vs)(q:E cls none H1):(iA (jh P w) P w K mg aw N qual scope f cd A outer s H E).xe (.ref ex) {s1 with heap:=h2}:=by
 let(t,e1,_):=hx.there;have hf:H1 ex=none:=by cases e:H1 ex with |none=>rfl |some o=>let(ob,e2):=(I.bA ex o e).there;rw[hx.new]at e2;cases e2
 have nw:s.heap.get? ex=none:=by cases e:s.heap.get? ex with |none=>rfl |some o=>let(ob,e2):=I.aw.there ex o e (bZ);rw[hx.new]at e2;cases e2
 have I2:=I.kept (t':=s1.toks) hx.keeps;have g9:h2.FunFrames aw (envOfC qual scope s.heap.objs.size f cd::outer):=I2.stack;have SH:∀env∈(envOfC qual scope s.heap.objs.size f cd::outer),∀b,env.frame=some b->b∈ex::eZ (envOfC qual scope s.heap.objs.size f cd::outer):=λenv he b hb=>.tail _ (oJ.mpr #[env,he,hb]);have hB:(PySem.W.hideAll h2 (ex::eZ (envOfC qual scope s.heap.objs.size f cd::outer))).StaysIn h2:=λb o e=>PySem.W.of_hideAll _ e;have qM:∀b o,s.heap.get? b=some o->b∉eZ outer->b∉ex::eZ (envOfC qual scope s.heap.objs.size f cd::outer):=λb o e hb hm=>by
  rcases bJ.mp hm with rfl|hm
  ·rw[nw]at e;cases e
  let(env,he,hf):=oJ.mp hm;rcases bJ.mp he with rfl|he
  ·have e1:s.heap.objs.size=b:=dQ hf
   have h1:=ck e;rw[<-e1]at h1;erw[absurd h1 (vb _)]
  ·erw[hb (oJ.mpr #[env,he,hf])]
 have F0:Fl P w outer H s.heap ex H1 (PySem.W.hideAll h2 (ex::eZ (envOfC qual scope s.heap.objs.size f cd::outer))) h2:=by
  erw[I2.aw,I2.bA,λb o e n hb=>Ly _ (I2.aw.keep b o e n hb (bZ)) (qM b o e hb),λb o e=>?_,λb o e hb=>?_,λb hb=>?_,nw,hf]
  ·let(HQ,e1):=(I2.bA b o e).there
   erw[HQ,Ly _ e1 λhm=>?_];rcases bJ.mp hm with z|hm
   ·rw[z,hf]at e;cases e
   ·rw[I2.AV b hm]at e
    cases e
  ·let(HQ,e1):=I2.aw.there b o e (bZ)
   erw[HQ,Ly _ e1 (qM b o e hb)]
  ·let(env,he,hf):=oJ.mp hb
   erw[I2.AV b (oJ.mpr #[env,.tail _ he,hf])]
 show wpAny (model P w) (A.deeper (envOfC qual scope s.heap.objs.size f cd)) (leaving (envOfC qual scope s.heap.objs.size f cd) (.ref ex)) _ _ _;erw[a4b (L:=s.heap.objs.size) I.ok.frames (PySem.W.funFrames_hide g9 SH) Z e1 hB (PySem.W.hideAll_none _ (.head _)) Z Z Z λh' x1 x2=>?_];erw[ex,cls,none,H1,_,Z,I.os,I.bare,x1,F0.step hB x1.1 x2 g9.2.2,q]
end
section
variable {X:Cx} {sc:Scope}
end
end _L
namespace _b
open _l
end _b
namespace _L
open PySem PySem.Spec PyProof.Rows
def DD(A:ah)(h:Heap):Prop:=∃ex o fs,A.handled=some (.ref ex)/\h.get? ex=some o/\o.data= .fields fs/\fs[2]? =some .none
theorem a9z:entryFor table "proto.unchain"=some Builtin.«proto.unchain»:=entryFor_of_tree (by kernel_rfl)
section
variable {prog:af}{w:World}{A:ah}{E:Value->ae->Prop}{s:ae}
theorem Zs{α:Type}{e:Addr}{oe:Obj}{fe:Array Value}{Q:α->ae->Prop}(hh:DD A s.heap)(cP:∀ex,A.handled=some (.ref ex)->ex≠e)(oo:s.heap.get? e=some oe)(SN:oe.data= .fields fe)(hz:2<fe.size) (h:∀g,Heap.SameBut e s.heap g->(∃o,g.get? e=some o/\o.cls=oe.cls)->E (.ref e) {s with heap:=g}):wpAny (model prog w) A (raiseNew (.ref e):Sem α) Q E s:=by
 let(ex,o,fs,h1,h2,h3,h4):=hh;have ne:=cP ex h1;unfold raiseNew;erw[aL (wpAny_handled ?_)];rw[h1];have hb:(Value.ref ex !=Value.ref e)=true:=by rw[bne_iff_ne];intro z;injection z with z;erw[ne z]
 dsimp only;rw[bu hb];erw[aL (m6 (wpAny_runValue (codeAny_builtin a9z ?_)))];show wpAny _ _ (field (.ref ex) 2>>=_) _ _ s;erw[aL (iE h2 h3 (x:=.none) h4 ?_)];show wpAny _ _ (if(Value.none==Value.none)=true then _ else _) _ _ s;rw[bu (show(Value.none==Value.none)=true from Z)];erw[cn ?_];show wpAny _ _ (setField (.ref e) 2 (.ref ex)>>=_) _ _ s;erw[aL (xu oo SN hz (wpAny_throw (h _ (DT ..) #[_,DS _ oo (LG (Ae SN _)),Obj.cls_mapFields ..])))]
theorem XE{α:Type}{it:Addr}{Q:α->ae->Prop}{f:Obj->Obj}(hh:DD A s.heap)(hi:∀ex,A.handled=some (.ref ex)->ex≠it) (h:∀g e,Heap.ExtBut it s.heap g->(∃o,g.get? e=some o/\o.cls= .type "StopIteration")->E (.ref e) {s with heap:=g}):wpAny (model prog w) A (newExc (.type "StopIteration") []>>=λe=>(raiseNew e:Sem α)) Q E {s with heap:=s.heap.update it f}:=by
 let(ex,o,fs,h1,h2,h3,h4):=id hh;have e2:(s.heap.update it f).get? ex=some o:=((DT (h:=s.heap) (a:=it) (f:=f)).2 ex (hi ex h1)).trans h2;erw[aL ?_];simp only[newExc,newTuple];erw[aL (nH ?_ (by size_fits))];erw[aL (m:=firstArgMember _ _) (xB (a:=Value.none) (by first|rfl|(simp only[firstArgMember];rfl)) ?_)];erw[nH ?_ (by size_fits)];have lt:ex<(s.heap.update it f).objs.size:=ck e2;erw[Zs (hh:=#[ex,o,fs,h1,cx _ (cx _ e2),h3,h4]) (λgz z=>?_) (eP _ Z) Z (LJ Z) λg sb #[o',e',c']=>h g _ ?_ #[o',e',c']]
 ·rw[h1]at z
  cases z;erw[dY (ck (cx _ e2))]
 ·intro b ob hb eb
  have e3:(s.heap.update it f).get? b=some ob:=((DT (h:=s.heap) (a:=it) (f:=f)).2 b hb).trans eb;have e4:=cx {cls:=.type "tuple",data:=.seq #[]} e3;exact(sb.2 b (dY (ck e4))).trans (cx _ e4)
def HdN(A:ah)(b:Addr):Prop:=∀ex,A.handled=some (.ref ex)->ex≠b
theorem a44{it l:Addr}{i:Nat} {items}{Q:Option Value->ae->Prop}(hh:DD A s.heap)(hn:HdN A it) (hit:s.heap.IsListIter it l i)(hl:s.heap.IsList l items)(hx:items[i]? =none) (hQ:∀h',Heap.ExtBut it s.heap h'->Q none {s with heap:=h'}):wpAny (model prog w) A (pyNext (.ref it)) Q E s:=by let(o,ho,hc,hd):=id hit;let(ol,zc,_,nl,hdl):=hl;unfold pyNext;erw[aL (wpAny_attempt (A8 (name:=Str.ofString "__next__") hit.typeIs slot_listiter_next (A7 slot_listiter_next hit.typeIs entry_listiter_next ?_ (args_listiter_next _))))];show wpAny _ _ (field (.ref it) 0>>=_) _ _ s;erw[aL (iE ho hd (x:=.ref l) Z ?_)];show wpAny _ _ (if(Value.ref l==Value.none)=true then _ else _) _ _ s;rw[bo (show¬((Value.ref l==Value.none)=true)from dR)];show wpAny _ _ (field (.ref it) 1>>=_) _ _ s;erw[aL (iE ho hd (x:=.int i 0) Z ?_)];show wpAny _ _ (seqItems? (.ref l)>>=_) _ _ s;erw[aL (rZ zc hdl ?_)];simp only[LO,hx];erw[aL (A6 (aL (xu ho hd (by simp) ?_)))];erw[XE (A:=A.in1) hh hn λg e xb ex=>?_];erw[aL (wpAny_isInstance (T:="StopIteration") (b:=true) ex isSubtype_stop ?_)];erw[cn (hQ _ xb)]
end
def xq(ex:Addr)(H:Hp):Prop:=∃cls dx,H ex=some (.ext (qh ex cls dx))
theorem xq.go{ex:Addr}{H H':Hp}(s:aF H H')(h:xq ex H):xq ex H':=let#[c,d,e]:=h;#[c,d,s _ _ e]
theorem Inv.hdS{X:Cx}{ak:List (Addr×Obj)}{O:St}{H:Hp}{s:ae}{ex:Addr}(I:Inv X ak O H s)(hx:X.A.handled=some (.ref ex))(h:xq ex H):DD X.A s.heap:=by let(cls,dx,e):=h;let((o,o1,o2,o3,fs,o4,o5),_,_):=(show fU X.prog X.w H s.heap ex (.ext (qh ex cls dx))from I.bA ex _ e);erw[ex,o,fs,hx,o1,o4,o5]
section
variable {X:Cx} {tg:Expr} {ex:Addr}
end
section
variable {X:Cx} {ex:Addr} {pos:Pos}
end
section
variable {K:aa} {H:Hp}
end
structure jW(ex:Addr)(k:Nat)(A:ah):Prop where
 n:oF k A
 hd:A.handled=some (.ref ex)
theorem jW.mono{ex:Addr}{j k:Nat}{A:ah}(r:jW ex k A)(h:j<=k):jW ex j A:=#[r.n.mono h,r.hd]
theorem jW.deeper{ex:Addr}{k:Nat}{A:ah}(r:jW ex (k+1) A)(env:Env):jW ex k (A.deeper env):=#[r.n.deeper env,r.hd]
theorem cF.a3r{k:Nat}{A:ah}(r:cF k A)(ex:Addr):jW ex k (A.mark (some (.ref ex))):=#[r.mark _,Z]
def A2(ex:Addr)(P:af)(w:World)(K:aa)(mg:bN)(aw:Heap)(k:Nat)(f:Addr)(fd:FuncData)(ps:List Str)(sp:Sp):Prop:=(∀vs H Q E,sp vs H Q E->vs.length=ps.length)/\∀(A:ah)(outer:List Env)(s:ae)(H:Hp)(args:Args)(us:List Value)(vs:List V)(Q:VK),jW ex k A->qi P w K mg aw A outer s H->BindsTo s fd args (ps.zip us)->Vals vs us->sp vs H Q (λ_ _ _=>False)->codeAny (model P w) A (.call (.ref f) args) (λr s'=>match r with| .ok (.ret u)=>CE outer P w H s Q u s'|_=>False) s
theorem Tt{ex:Addr}{P:af}{w:World}{K:aa}{mg:bN}{aw:Heap}{k:Nat}{f:Addr}{name qual:Str}{params:Arguments}{body:List Stmt}{scope:Scope}{dV kV doc pm aI ct oc:Value}{an od:Option Addr} {fO:Array (Option Value)}{N ps:List Str}{sp:Sp}(lk:K.lookup f=some #[oc,od,.func (PySem.W.fnOf name qual params body scope dV kV doc pm an aI ct),fO])(eY:PySem.W.codeIn K aI qual=true)(S:bp N ps scope)(len:∀vs H Q E,sp vs H Q E->vs.length=ps.length) (gb:∀(A:ah)(outer:List Env)(s:ae)(H:Hp)(vs:List V)(Q:VK),jW ex k (A.deeper (envOfC qual scope s.heap.objs.size f aI))->sp vs H Q (λ_ _ _=>False)->∃t,fT (De P w K mg aw N qual scope f aI A outer s H) body t/\t {nx:=λ_ H'=>Q .bD H',rt:=Q} (start N vs) H): A2 ex P w K mg aw (k+1) f (PySem.W.fnOf name qual params body scope dV kV doc pm an aI ct) ps sp:=by
 erw[len,λA outer s H args us vs Q hr e0 hb r fM=>?_];have hl:=len _ _ _ _ fM;have KX:K.In s.heap:=e0.mod.lL.keeps λb o e=>(e0.bs b o e).1;have lim:s.heap.NoLimit:=e0.mod.nolimit.keeps λb o e=>(e0.bs b o e).1;have hk:∀y∈ps.zip us,scope.names.lookup y.1=some .local\/(scope.names.lookup y.1=some .cell/\((cellsFrom (s.heap.objs.size+1) scope.names []).lookup y.1).isSome=true):=λ#[n,v] hy=>by
  rcases S.par n (xH hy).1 with q|q
  ·erw[.inl q]
  ·erw[.inr #[q,Lz _ _ _ (.inl q)]]
 erw[Vz (by have:=hr.n.dp;omega) (KX _ _ lk) Z S.co S.gen Z (VD KX eY) (hb _ _ _ _ ?_)];erw[Vw S.kind hk λenv he s1 x=>?_];subst he;erw[lim.keeps x.toInCall.keep,codeAny_func ?_];let(t,ht,hq):=gb A outer s H vs Q (hr.deeper _) fM;have e1:qi P w K mg aw {A with handled:=none} outer s H:=#[e0.frames,e0.mod,e0.bs,e0.kW,e0.jy,e0.mZ,e0.bA,e0.bare];have I:=IY (CX:=iS) (A:={A with handled:=none}) (E:=λ_ _ _=>False) S rfl e1 hl r x;have J:Inv (De P w K mg aw N qual scope f aI A outer s H) [] (start N vs) H s1:=#[#[I.ok.mod,I.ok.kind,I.ok.glob,I.ok.blt,I.ok.above,I.ok.inj,I.ok.has,I.ok.rK,λh=>(dR h).elim,Around.frames_deeper e0.frames,I.ok.sQ,I.ok.zD,I.ok.bs,I.ok.kW,I.ok.qL,I.ok.pO,I.ok.jy,I.ok.mZ],I.os,I.bare,I.aw,I.loc,I.cell,I.free,I.kA,I.pin,I.bA,I.len];erw[ji (ht [] s1 (start N vs) H _ J hq) (λfl s' hs=>?_) λe s' hs=>hs.elim];cases fl with |ret u=>let(v,σ',H',J',rv,q):=hs;erw[v,H',J'.os,J'.bare,J'.aw,J'.bA,rv,q] |next=>let(σ',H',J',q):=hs;erw[V.bD,H',J'.os,J'.bare,J'.aw,J'.bA,Z,q] |brk=>let(_,_,_,q):=hs;erw[False.elim q] |cont=>let(_,_,_,q):=hs;erw[False.elim q]
def Lk(P:af)(w:World)(K:aa)(mg:bN)(aw:Heap)(x:Str)(k:Nat)(sp:Addr->Sp):Prop:=∃f fd ps,(∀ex,A2 ex P w K mg aw k f fd ps (sp ex))/\mg x=some (.ref f)/\PySem.W.keepIn K (.ref f)=true/\Binds K fd ps []
def uR(P:af)(w:World)(K:aa)(mg:bN)(aw:Heap)(C:Addr)(m:Str)(k:Nat)(sp:Addr->Sp):Prop:=∃f fd ps,(∀ex,A2 ex P w K mg aw k f fd ps (sp ex))/\Meth K C m f/\Binds K fd ps []
theorem FA.Cu{P:af}{w:World}{K:aa}{mg:bN}{aw:Heap}{x:Str}{st:Stmt}{N ps:List Str}{k:Nat}{sp:Addr->Sp}(F:FA K mg x st)(S:bp N ps (aY st))(len:∀ex vs H Q E,sp ex vs H Q E->vs.length=ps.length) (hb:∀(kV doc pm:Value)(an:Option Addr)(aI ct:Value)(us:List Value),us.length=ps.length->bindArgs (PySem.W.fnOf x x (jB st) (fQ st) (aY st) .none kV doc pm an aI ct) #[us,[]]=pure (ps.zip us)) (gb:∀(ex f:Addr)(aI:Value)(A:ah)(outer:List Env)(s:ae)(H:Hp)(vs:List V)(Q:VK),jW ex k (A.deeper (envOfC x (aY st) s.heap.objs.size f aI))->sp ex vs H Q (λ_ _ _=>False)->∃t,fT (De P w K mg aw N x (aY st) f aI A outer s H) (fQ st) t/\t {nx:=λ_ H'=>Q .bD H',rt:=Q} (start N vs) H):Lk P w K mg aw x (k+1) sp:=by let(f,fd,hm,F):=F.ex;have uk:=F.binds hb;have kp:=F.kp;let(oc,od,kV,doc,pm,an,aI,ct,fO,rfl,lk,eY):=F.ex;erw[f,_,ps,λex=>Tt lk eY S (len ex) λA outer s H vs Q hr fM=>gb ex f aI A outer s H vs Q hr fM,hm,kp,uk]
theorem MA.Cu{P:af}{w:World}{K:aa}{mg:bN}{aw:Heap}{C:Addr}{m qual:Str}{st:Stmt}{N ps:List Str}{k:Nat}{sp:Addr->Sp}(F:MA K C m qual st)(S:bp N ps (aY st))(len:∀ex vs H Q E,sp ex vs H Q E->vs.length=ps.length) (hb:∀(kV doc pm:Value)(an:Option Addr)(aI ct:Value)(us:List Value),us.length=ps.length->bindArgs (PySem.W.fnOf m qual (jB st) (fQ st) (aY st) .none kV doc pm an aI ct) #[us,[]]=pure (ps.zip us)) (gb:∀(ex f:Addr)(aI:Value)(A:ah)(outer:List Env)(s:ae)(H:Hp)(vs:List V)(Q:VK),jW ex k (A.deeper (envOfC qual (aY st) s.heap.objs.size f aI))->sp ex vs H Q (λ_ _ _=>False)->∃t,fT (De P w K mg aw N qual (aY st) f aI A outer s H) (fQ st) t/\t {nx:=λ_ H'=>Q .bD H',rt:=Q} (start N vs) H):uR P w K mg aw C m (k+1) sp:=by let(f,fd,hm,F):=F.ex;have uk:=F.binds hb;let(oc,od,kV,doc,pm,an,aI,ct,fO,rfl,lk,eY):=F.ex;erw[f,_,ps,λex=>Tt lk eY S (len ex) λA outer s H vs Q hr fM=>gb ex f aI A outer s H vs Q hr fM,hm,uk]
section
variable {X:Cx}{ex:Addr}{k:Nat}{x m:Str}{C:Addr}{p pos apos:Pos}{o e:Expr}{es:List Expr}{t:TA}{ta:TE}{sp:Addr->Sp}
theorem GC{ak:List (Addr×Obj)}{O:St}{H:Hp}{s:ae}{Q:VK}{us:List Value}{vs:List V}{f:Addr}{fd:FuncData}{ps:List Str}{sp:Sp}(F:A2 ex X.prog X.w X.K X.mg X.aw k f fd ps sp)(hr:jW ex k X.A)(hb:Binds X.K fd ps [])(I:Inv X ak O H s)(r:Vals vs us)(h:sp vs H Q (λ_ _ _=>False)): wpAny (model X.prog X.w) X.A (call (.ref f) us) (EP X ak O Q) X.xe s:=by
 have hl:(us++[]).length=ps.length:=by rw[qo,<-r.length];erw[F.1 _ _ _ _ h]
 have bt:=hb s us I.fD hl;rw[qo]at bt;erw[wpAny_call (uY (F.2 X.A X.stack s H #[us,[]] us vs Q hr I.CP bt r h) λr s' hq=>?_)];cases r with |error e=>erw[hq.elim] |ok fl=>cases fl with |ret u=>erw[I.after hq] |next=>erw[hq.elim] |brk=>erw[hq.elim] |cont=>erw[hq.elim]
inductive abt(C:Addr)(m:Str)(sp:Sp)(Q:VK)(x:V)(H1:Hp):Prop |mk (a:_)(dx:_)(fs:_)(h0:x= .ref a)(h1:H1 a=some (.ins C dx fs))(h2:fs.lookup m=none)(h3:sp [x] H1 Q (λ_ _ _=>False))
theorem a06{pl:Sem Bool}(F:uR X.prog X.w X.K X.mg X.aw C m k sp)(c:hU X.K C)(hr:jW ex k X.A)(he:PE X o ta) (ht:eval (.Call (.Attribute o m apos) [] [] pos) X.env=(do
 let ov<-eval o X.env
 standAt apos.atName
 let(f,first)<-holding [ov] (getMethod ov m pl)
 callWith pos f first (backTo pos (starEach [] X.env)) (backToKw pos (keywordEach [] X.env))):=by rfl): PE X (.Call (.Attribute o m apos) [] [] pos) (λO H Q=>ta O H λx H1=>abt C m (sp ex) Q x H1):=by
 let(f,fd,ps,F,hm,hb):=F;intro ak s O H Q I h;erw[DI (pl:=pl) (ba (he ak s O H _ I h) λu s1 #[x,H1,I1,rx,a,dx,fs,gz,ea,l,q]=>?_) ht];subst gz;obtain rfl:u=Value.ref a:=rx;erw[zA I1 ea c hm l ?_];erw[PySem.W.callWith_K0 (first:=[.ref a]) I1.fD hm.kp (GC (us:=[.ref a]) (vs:=[.ref a]) (F ex) hr hb I1 (.cons rfl .nil) q)]
end
def Dy(CX:j4)(X:Cx)(E:St->XK):Prop:=∀(ak:List (Addr×Obj))(O:St)(H:Hp)(s:ae)(e:Value)(s':ae),Inv X ak O H s->CX X.stack H s (E O) e s'->X.xe e s'
section
variable {X:Cx}{CX:j4}{k:Nat}{f:Addr}{fd:FuncData}{ps:List Str}{sp:Sp}{dvs:List V}{ds:List Value}{E:St->XK}{x:Str}{p pos:Pos}{e:Expr}{es:List Expr}{t:TA}
theorem YB{ak:List (Addr×Obj)}{O:St}{H:Hp}{s:ae}{Q:VK}{us:List Value}{vs:List V}(F:eK X.prog X.w X.K X.mg X.aw CX k f fd ps sp)(hr:cF k X.A)(hb:Binds X.K fd ps ds)(hd:Vals dvs ds)(hx:Dy CX X E)(I:Inv X ak O H s)(r:Vals vs us)(h:sp (vs++dvs) H Q (E O)):wpAny (model X.prog X.w) X.A (call (.ref f) us) (EP X ak O Q) X.xe s:=by
 have r2:Vals (vs++dvs) (us++ds):=r.append hd;have hl:(us++ds).length=ps.length:=by rw[<-r2.length];erw[F.len _ _ _ _ h]
 erw[wpAny_call (uY (F.run X.A X.stack s H #[us,[]] (us++ds) (vs++dvs) Q (E O) hr I.CP (hb s us I.fD hl) r2 h) λr s' hq=>?_)];cases r with |error e=>erw[hx ak O H s e s' I hq] |ok fl=>cases fl with |ret u=>erw[I.after hq] |next=>erw[False.elim hq] |brk=>erw[False.elim hq] |cont=>erw[False.elim hq]
end
section
variable {X:Cx}{i:Nat}{n y:Str}{Dc:Addr}{rL:List Value}{newD:String}{body oO:List Stmt}{b0:Stmt}{np oj pos:Pos}{tb:(St->XK)->TS}{th:TS}{Cs:Addr->Prop}
end
section
variable {prog:af}{w:World}{A:ah}{E:Value->ae->Prop}{s:ae}{I ax ex:Addr}
theorem Wj(hx:A.handled=some (.ref ex))(cP:ax≠I)(hex:ex≠I)(items:Array Value): Walks prog w A I [I,ax,ex] [I] items.size (λi v=>items[i]? =some v) (λi h=>h.IsListIter I ax i/\h.IsList ax items/\∃o fs,h.get? ex=some o/\o.data= .fields fs/\fs[2]? =some .none) where
 sub:=λb hb=>by simp at hb;simp[hb]
 frame:=λ_ _ _ st hk=>#[st.1.at λo e=>hk I (by simp) o e,st.2.1.at λo e=>hk ax (by simp) o e,by let(o,fs,e,z):=st.2.2;erw[o,fs,hk ex (by simp) o e,z]]
 item:=λi s Q E hi st hQ=>by erw[wpAny_pyNext_list_item st.1 st.2.1 (x:=items[i]) (by simp[hi]) λh' a5Q J6=>?_];let(o,fs,e,z):=st.2.2;erw[hQ _ h' s.toks (by simp[hi]) #[a5Q,st.2.1.extBut J6.extBut cP,o,fs,J6.extBut _ _ hex e,z] λb o hb e=>J6.extBut b o (λh=>hb (by simp[h])) e]
 done:=λs Q E st hQ=>by let(o,fs,e,z1,z2):=st.2.2;erw[a44 #[ex,o,fs,hx,e,z1,z2] (λgz z=>by rw[hx]at z;cases z;erw[hex]) st.1 st.2.1 (by simp) λh' he'=>hQ h' s.toks λb o hb e=>he' b o (λh=>hb (by simp[h])) e]
 self:=λ_ _ _ _ st hQ=>wpAny_pyIter_listiter st.1 hQ
theorem aad{items:Array Value}{k:Nat}{Q:List Value->ae->Prop}(W:Walks prog w A.in1 I [I,ax,ex] [I] items.size (λi v=>items[i]? =some v) (λi h=>h.IsListIter I ax i/\h.IsList ax items/\∃o fs,h.get? ex=some o/\o.data= .fields fs/\fs[2]? =some .none)) (hk:k<=items.size)(g9:s.heap.IsListIter I ax k/\s.heap.IsList ax items/\∃o fs,s.heap.get? ex=some o/\o.data= .fields fs/\fs[2]? =some .none)(hI:I<s.heap.objs.size)(SS:ax<s.heap.objs.size)(hx:ex<s.heap.objs.size) (hQ:∀h' tk,(∀b o,b≠I->s.heap.get? b=some o->h'.get? b=some o)->Q (items.toList.drop k) {s with heap:=h',toks:=tk})(hsz:items.size<=sizeLine):wpAny (model prog w) A (collect (.ref I)) Q E s:=by
 erw[wpAny_collect_iter (T:="list_iterator") (.inr (.inr (.inl Z))) (PySem.W.kun_shift W hk).toS (λi u st=>st.1.typeIs) (by rw[Nat.add_zero];erw[g9]) (λb hb=>?_) (DM ..) (λs' acc hm ha=>?_) bR]
 ·simp only[bJ,bZ,cG]at hb
  rcases hb with rfl|rfl|rfl
  ·erw[hI]
  ·erw[SS]
  ·erw[hx]
 ·let(h',g',d',t',o'):=s'
  let(m1,m2,m3,m4,_):=hm;have m2:g'=s.gens:=m2;have m3:d'=s.drawn:=m3;have m4:o'=s.os:=m4;subst m2 m3 m4;rw[PySem.W.kun_acc hk ha];erw[hQ h' t' λb o hb e=>m1 b o (by simpa using hb) e]
end
section
variable {X:Cx}
theorem a02(ex:Addr)(K:aa)(hK:X.K=K){e1 e2:Expr}{k:Nat}{t1 t2:TG}{sp pos:Pos}(hc:X.A.handled=some (.ref ex))(h1:PG X e1 t1)(h2:PG X e2 t2) (hs:autoParam (assignEach [e1,.Starred e2 sp] X.env=[(false,assign e1 X.env),(true,assign e2 X.env)]) r8_._auto_1):PG X (.Tuple [e1,.Starred e2 sp] k pos) (λv O H Q=>xq ex H/\Tj K t1 t2 v O H Q):=by
 subst hK;intro ak s O H v u Q I r hw;let(hdh,a,x,xs,e,hq,hl,hw):=hw;subst e;cases r;let(its,rv,ht,hz):=I.list hq;have je:=I.hdS hc hdh;have hex:ex<s.heap.objs.size:=by let(gz,o,fs,z1,z2,_):=je;rw[hc]at z1;cases z1;erw[ck z2]
 have mM:=ht.isList;cases rv with |cons r1 rr=>
  rename_i ux dD;have hlen:=rr.length;have cK:a≠s.heap.objs.size:=by let(o,ho,_):=mM;erw[dY (ck ho)]
  rw[assign_Tuple];erw[aL (A4 ?_)];unfold unpack;rw[hs];erw[aL (m6 ?_)];show wpAny _ _ (unpackItems (.ref a) 2 (some 1)) _ _ _;unfold unpackItems;erw[aL ?_];unfold notIterableAtAll;erw[aL (Lm mM.typeIs slot_list_iter.lookup ?_)];erw[cn ?_];simp only[Bool.false_eq_true,if_false];erw[aL (m6 (xy mM ?_))];have sz:(ux::dD).toArray.size=xs.length+1:=by rw[eO,gq,hlen]
  erw[aL (m6 (PySem.W.kun_draw cK 1 0 _ _ #[_,eP _ Z,Z,Z] (mM.push _) bR λh₁ uj wH=>?_))];have zh:h₁.IsList a (ux::dD).toArray:=(mM.push _).extBut wH.extBut cK;rw[Nat.zero_add]at uj;have Jm:=uj;let(oi,lQ,_):=Jm;have Jk:=zh;let(ol,zc,_):=Jk;have So:∃o fs,h₁.get? ex=some o/\o.data= .fields fs/\fs[2]? =some .none:=by let(gz,o,fs,z1,z2,z3,z4):=je;rw[hc]at z1;cases z1;erw[o,fs,wH.extBut _ _ (dY hex) (cx _ z2),z3,z4]
  rw[bo (by simp)];erw[aL (m6 (aad (s:={s with heap:=h₁}) (ex:=ex) (Wj (A:=X.A.in1) hc cK (dY hex) (ux::dD).toArray) (k:=1) bR #[uj,zh,So] (ck lQ) (ck zc) (ck So.choose_spec.choose_spec.1) (λh₂ tk hk=>?_) (by rw[uX];omega)))];have ea:(ux::dD).toArray.toList.drop 1=dD:=by simp
  rw[ea];show wpAny _ _ (if dD.length<2-1-1 then _ else _) _ _ _;rw[bo bR];show wpAny _ _ (newList (dD.take (dD.length-(2-1-1)))>>=λd=>pure ((ux::dD).toArray.toList.take 1++[d]++dD.drop (dD.length-(2-1-1)))) _ _ _;have eb:dD.take (dD.length-(2-1-1))=dD:=vc bR;have ec:dD.drop (dD.length-(2-1-1))=[]:=List.drop_eq_nil_of_le bR;rw[eb,ec];have he:Heap.ExtBut s.heap.objs.size s.heap h₂:=λb o hb e=>hk b o hb (wH.extBut b o hb (cx _ e));erw[aL (wpAny_newList (s:={s with heap:=h₂,toks:=tk}) (cn ?_) ?_)]
  ·have I2:Inv X ak O H {s with heap:=h₂,toks:=tk}:=I.kept (t':=tk) λb o e=>he b o (dY (ck e)) e
   have nw:Nw H (upd H h₂.objs.size (.lst xs)) h₂.objs.size (.lst xs):=.of (I2.bA.fresh (bV _));have I3:Inv X ak O (upd H h₂.objs.size (.lst xs)) {s with heap:=h₂.push {cls:=.type "list",data:=.seq dD.toArray},toks:=tk}:=I2.laid (t':=tk) (o:=.lst xs) (λb ob q=>cx _ q) (bV _) #[by rw[gq]at hz;omega,dD,0,rr,eP _ rfl];show wpAny _ _ (assignInOrder (assign e1 X.env::[assign e2 X.env]) (ux::[Value.ref h₂.objs.size])) _ _ _;erw[xC (ba (h1 ak _ O _ _ _ _ I3 r1 (hw _ _ nw)) λ_ s1 #[σ1,H1,I1,q1]=>?_)];erw[xC (ba (h2 ak s1 σ1 H1 (.ref h₂.objs.size) _ _ I1 Z q1) λ_ s2 #[σ2,H2,I2,q2]=>?_)];erw[Lr #[σ2,H2,I2,q2]]
  ·rw[<-hlen,uX];omega
end
section
variable {X:Cx}{ex:Addr}{k:Nat}{x m:Str}{C:Addr}{p pos apos:Pos}{o e:Expr}{es:List Expr}{t:TA}{ta:TE}{sp:Addr->Sp}
inductive abr(C:Addr)(m:Str)(sp:Sp)(t:TA)(O:St)(Q:VK)(x:V)(H1:Hp):Prop |mk (a:Addr)(dx:Addr)(fs:List (Str×V))(h0:x= .ref a)(h1:H1 a=some (.ins C dx fs))(h2:fs.lookup m=none)(h3:t O H1 λvs H2=>sp (x::vs) H2 Q (λ_ _ _=>False))
theorem a07{pl:Sem Bool}(F:uR X.prog X.w X.K X.mg X.aw C m k sp)(c:hU X.K C)(hr:jW ex k X.A)(he:PE X o ta)(ha:PA X (e::es) t) (g9:autoParam (starEach (e::es) X.env=(false,eval e X.env)::starEach es X.env) r8_._auto_1)(eJ:autoParam ((backTo pos (starEach es X.env)).any (·.1)=false) r8_._auto_1) (ht:eval (.Call (.Attribute o m apos) (e::es) [] pos) X.env=(do
 let ov<-eval o X.env
 standAt apos.atName
 let(f,first)<-holding [ov] (getMethod ov m pl)
 callWith pos f first (backTo pos (starEach (e::es) X.env)) (backToKw pos (keywordEach [] X.env))):=by rfl): PE X (.Call (.Attribute o m apos) (e::es) [] pos) (λO H Q=>ta O H λx H1=>abr C m (sp ex) t O Q x H1):=by
 let(f,fd,ps,F,hm,hb):=F;intro ak s O H Q I h;erw[DI (pl:=pl) (ba (he ak s O H _ I h) λu s1 #[x,H1,I1,rx,a,dx,fs,gz,ea,l,q]=>?_) ht];subst gz;obtain rfl:u=Value.ref a:=rx;erw[zA I1 ea c hm l ?_];erw[xF (h₀:=X.aw) (first:=[.ref a]) I1.ok.mod.lL hm.kp (ba (ha pos ak s1 O H1 _ I1 q) λus s2 #[vs,H2,I2,r,q2]=>#[I2.fD,GC (us:=.ref a::us) (vs:=.ref a::vs) (F ex) hr hb I2 (.cons rfl r) q2]) g9 eJ]
inductive adC(X:Cx)(ex:Addr)(i:Nat)(t:TA)(O:St)(H:Hp)(Q:VK):Prop |mk (f:Addr)(fd:FuncData)(ps:List Str)(k:Nat)(sp:Sp)(h0:O[i]? =some (some (.ref f)))(F:A2 ex X.prog X.w X.K X.mg X.aw k f fd ps sp)(hk:PySem.W.keepIn X.K (.ref f)=true)(hb:Binds X.K fd ps [])(hr:jW ex k X.A)(ht:t O H λvs H1=>sp vs H1 Q (λ_ _ _=>False))
theorem a0d(ex:Addr)(i:Nat)(hN:autoParam (X.N[i]? =some x) r8_._auto_1)(hv:autoParam (zW X.env.scope x) d8_._auto_1)(ha:PA X (e::es) t)(hd:autoParam ((x==("__debug__":Str))=false) q8_._auto_1) (eY:autoParam ((x==("__classdict__":Str))=false) q8_._auto_1)(he:autoParam (starEach (e::es) X.env=(false,eval e X.env)::starEach es X.env) r8_._auto_1)(eJ:autoParam ((backTo pos (starEach es X.env)).any (·.1)=false) r8_._auto_1): PE X (.Call (.Name x p) (e::es) [] pos) (λO H Q=>adC X ex i t O H Q):=by intro ak s O H Q I h;let(f,fd,ps,k,sp,h0,F,hk,hb,hr,ht):=h;erw[A9 (ba (Hm (pos:=p) hN hv hd eY ak s O H (λv H'=>v= .ref f/\H'=H) I #[_,h0,Z,Z]) λu s1 #[v,H1,I1,rv,e1,e2]=>?_)];subst e1 e2;cases(show u=Value.ref f from rv);erw[xF (h₀:=X.aw) I1.ok.mod.lL hk (ba (ha pos ak s1 O H1 _ I1 ht) λus s2 #[vs,H2,I2,r,q]=>#[I2.fD,GC F hr hb I2 r q]) he eJ]
end
inductive abk(Cs:Addr->Prop)(tb:(St->XK)->TS)(th:Addr->TS)(D:Ends)(O:St)(H:Hp):Prop |mk (E:St->XK)(h0:tb E D O H)(h1:(∀σ' cls dx H',E σ' cls dx H'->∃C,cls= .ref C/\Cs C))(h2:∀(C ex:Addr)(dx:Option Addr)(σ':St)(H':Hp),σ'.length=O.length->E σ' (.ref C) dx H'->H' ex=none->th ex D σ' (upd H' ex (.ext (qh ex (.ref C) dx))))
def X8(Cs:Addr->Prop)(tb:(St->XK)->TS)(th:Addr->TS):TS:=λD O H=>abk Cs tb th D O H
section
variable {X:Cx}{y:Str}{Dc:Addr}{rL:List Value}{newD:String}{body oO:List Stmt}{b0:Stmt}{np oj pos:Pos}{tb:(St->XK)->TS}{th:Addr->TS}{Cs:Addr->Prop}
theorem Hj(g9:X.stack=X.env::X.outer)(hfr:X.env.frame=some X.env.locals) (hb:∀(E:St->XK)(xe:Value->ae->Prop),Dy (jh X.prog X.w) (X.kg xe) E->fT (X.kg xe) body (tb E)) (hg:Gl X y)(hy:Exc X.K X.mg y Dc rL newD)(ur:rL.contains (.type "BaseException")=true)(uy:∀C,Cs C->ClsAt X.K C/\takes X.K C Dc) (hh:∀ex,fT (X.hand ex) (b0::oO) (th ex))(iO:autoParam ((y==("__debug__":Str))=false) q8_._auto_1): Vo X (.Try body [.ExceptHandler (some (.Name y np)) none (b0::oO) oj] [] [] pos) (X8 Cs tb th):=by
 intro s O H D I h;let(E,hq,wO,hth):=h;erw[wpAny_Try_except ?_];have ps:Dy (jh X.prog X.w) (X.kg λe s₁=>wpAny (model X.prog X.w) X.A (noteFrame e X.env) (λ_ s₂=>wpAny (model X.prog X.w) X.A (setFlight e none) (λ_ s₃=>wpAny (model X.prog X.w) X.A (handleBy e X.env [.ExceptHandler (some (.Name y np)) none (b0::oO) oj]) (SP X [] D) X.xe s₃) X.xe s₂) X.xe s₁) E:=by
  intro Hl σ' H1 s1 ev s2 I1 hx;let(ex,cls,dx,H',B,rfl,ho,SI,pL,F,hE):=hx;let(C,rfl,hC):=wO σ' cls dx H' hE;have I0:Inv X [] σ' H1 s1:=I1.nM.aaJ;let(Cj,g2,d2,t2,o2):=s2;have a7Y:kE B (X.env::X.outer) ex (.ref C) dx .none Cj:=by rw[<-g9];erw[pL]
  have hA:X.A.frames=some (X.env::X.outer):=by rw[<-g9];erw[I0.ok.frames]
  erw[QJ (s:=#[Cj,g2,d2,t2,o2]) hA hfr a7Y λh4 Cr Wx=>?_];erw[CJ Cr λh5 zC Ww=>?_];have F4:=F.step pL.1 Cr.1 Wx pL.2.2.1;have ff4:h4.FunFrames B X.stack:=by rw[g9];erw[Cr.2.2.1]
  have F5:=F4.step Cr.1 zC.1 Ww ff4;have ff5:h5.FunFrames B X.stack:=by rw[g9];erw[zC.2.2.1]
  have I5:Inv X [] σ' H' #[h5,g2,d2,t2,o2]:=I0.Dm (s':=#[h5,g2,d2,t2,o2]) ho F5.un F5.bA SI (λb hb=>(bZ hb).elim);erw[wpAny_handleBy_cons (codeAny_handlers_test (ub (X:=X.hand ex) (I5.hand ex) hg hy.at' ?_ iO)) (by intro q;cases q)];let(eC,tk):=uy C hC;let(nm,q,Nn,bs,tl,hdct,sn,sub,ab,col,dd,k0,k1,k2,k3,k5,nw,oC):=eC _ I5.fD;let(tl',Nn',QN,q',UR,SO,NB,Mw,Vg,UE,oA,j0,j1,j2,j3,j5,mN',oD,aeE,aeq,TL'):=(hy.own I5.fD).obj;let(ob,hob,a5v,_):=zC.there;have Sx:(Value.ref C::tl).contains (.ref Dc)=true:=by
   let(cd,ha,uu):=Option.bind_eq_some_iff.mp tk;split at uu
   ·cases uu
   ·have hc:=dQ uu
    unfold PySem.W.clsIn at ha;split at ha
    ·rename_i c1 c2 cd' c4 hl
     cases ha;have e1:=I5.fD _ _ hl;rw[show(Shared.heap #[h5,g2,d2,t2,o2]).get? C=some _ from oC]at e1;have e2:=dQ e1;unfold excClassObj at e2;injection e2 with _ _ e3 _;injection e3 with e4;rw[<-e4]at hc;erw[hc]
    ·cases ha
  erw[a9n oC oD hob a5v (TL'.hasType ur) Sx ?_];erw[codeAny_handlers_suite ?_];erw[CJ (s:=#[h5,g2,d2,t2,o2]) zC λh6 Tv Wv=>?_];have F6:=F5.step zC.1 Tv.1 Wv ff5;have WA:Un (eZ X.stack) [] H1 (upd H' ex (.ext (qh ex (.ref C) dx))) s1.heap h6:=by
   have nb:∀b u,H' b=some u->b≠ex:=λb u e z=>by rw[z,F6.ne]at e;cases e
   erw[F6.un.keep,F6.un.slot,λb o e n hx=>?_,F6.un.there,λb xs e=>?_,λb o u e=>?_,λb ps e=>?_]
   ·rw[aU (λz=>by rw[z,F6.nw]at e;cases e)];erw[F6.un.free b o e n hx]
   ·have:=F6.un.kJ b xs e;rw[aU (nb b _ this)];erw[this]
   ·have:=F6.un.kz b o u e;rw[aU (nb b _ this)];erw[this]
   ·let(more,e1):=F6.un.kK b ps e;erw[more,by rw[aU (nb b _ e1)];erw[e1]]
  have a5s:dP X.prog X.w (upd H' ex (.ext (qh ex (.ref C) dx))) h6:=λb u e=>by
   by_cases wQ:b=ex
   ·subst wQ
    rw[bQ]at e;cases e;let(o6,e6,c6):=Tv.there;erw[#[o6,e6,c6],#[o6,e6],λg1 g3 #[o7,e7,c7] k=>#[o7,k o7 e7,c7]]
   ·rw[aU wQ]at e
    refine(F6.bA b u e).oQ (λc v hc q=>q) (λc q=>?_) λc xs q=>?_
    ·rw[aU (λz=>by rw[z,F6.ne]at q;cases q)];erw[q]
    ·rw[aU (λz=>by rw[z,F6.ne]at q;cases q)];erw[q]
  have I6:Inv X [] σ' (upd H' ex (.ext (qh ex (.ref C) dx))) #[h6,g2,d2,t2,o2]:=I0.Dm (s':=#[h6,g2,d2,t2,o2]) ho WA a5s SI (λb hb=>(bZ hb).elim);erw[ji (hh ex [] _ _ _ _ (I6.hand ex) (hth C ex dx σ' H' (I0.len.trans I.len.symm) hE F.ne)) (λf s8 q=>?_) λe s8 q=>False.elim q];cases f with |next=>let(σ2,H2,I8,dq):=q;erw[_,H2,I8.back I0.ok,dq] |brk=>let(σ2,H2,I8,dq):=q;erw[_,H2,I8.back I0.ok,dq] |cont=>let(σ2,H2,I8,dq):=q;erw[_,H2,I8.back I0.ok,dq] |ret u=>let(v,σ2,H2,I8,r8,dq):=q;erw[v,_,H2,I8.back I0.ok,r8,dq]
 erw[ji (hb E _ ps [] s O H D (I.kg _) hq) (λf s1 q=>?_) λe s1 q=>q];have q':=q.nM;cases f with |next=>erw[DE q'] |brk=>erw[q'] |cont=>erw[q'] |ret u=>erw[q']
end
section
variable {K:aa} {H:Hp}
end
end _L
namespace _P
section
variable {n:Nat}{own Ht:Nat->Rat}{L L':Nat->Option Nat}{r f:Int}
end
end _P
namespace _O
open _P _l _C _b
end _O
namespace _L
open PySem PySem.Spec PyProof.Rows
section
variable {prog:af}{w:World}{A:ah}{R:Result->ae->Prop}{s:ae}{elt tg iter tg2 aem:Expr}{scope:Scope}{pos:Pos}{it acc:Value}{env:Env}
end
section
variable {K:aa}
end
theorem gZ.nk{X:Cx}{st:Stmt}{rest:List Stmt}{t u:TS}(h1:PS X st t)(h2:gZ X rest u):gZ X (st::rest) (xX t u):=by intro s O H D I h;erw[Lo (ji (h1 [] s O H _ I h) (λf s1 q=>?_) λ_ _ x=>x)];cases f with |next=>let(σ',H',I',q'):=q;erw[h2 s1 σ' H' D I' q'] |brk=>erw[q] |cont=>erw[q] |ret v=>erw[q]
section
variable {X:Cx}{i:Nat}{n y:Str}{Dc:Addr}{rL:List Value}{newD:String}{body oO:List Stmt}{b0:Stmt}{np oj pos:Pos}{tb:XK->TS}{th:TS}{Cs:Addr->Prop}
end
section
variable {X:Cx}{i:Nat}{n y:Str}{Dc:Addr}{rL:List Value}{newD:String}{body oO:List Stmt}{b0:Stmt}{np oj pos:Pos}{tb:(St->XK)->TS}{th:TS}{Cs:Addr->Prop}
end
section
variable {X:Cx}{i:Nat}{n y:Str}{Dc:Addr}{rL:List Value}{newD:String}{body oO:List Stmt}{b0:Stmt}{np oj pos:Pos}{tb:(St->XK)->TS}{th:Addr->TS}{Cs:Addr->Prop}
end
section
variable {X:Cx}{k:Nat}{m:Str}{C:Addr}{pos apos:Pos}{o e:Expr}{es:List Expr}{t:TA}{ta:TE}{sp:Sp}{E:St->XK}
theorem Ho{pl:Sem Bool}(F:hJ X.prog X.w X.K X.mg X.aw C m k sp)(hp:Dy (jh X.prog X.w) X E)(c:hU X.K C)(hr:cF k X.A)(he:PE X o ta)(ha:PA X (e::es) t) (g9:autoParam (starEach (e::es) X.env=(false,eval e X.env)::starEach es X.env) r8_._auto_1)(eJ:autoParam ((backTo pos (starEach es X.env)).any (·.1)=false) r8_._auto_1) (ht:eval (.Call (.Attribute o m apos) (e::es) [] pos) X.env=(do
 let ov<-eval o X.env
 standAt apos.atName
 let(f,first)<-holding [ov] (getMethod ov m pl)
 callWith pos f first (backTo pos (starEach (e::es) X.env)) (backToKw pos (keywordEach [] X.env))):=by rfl): PE X (.Call (.Attribute o m apos) (e::es) [] pos) (λO H Q=>ta O H λx H1=>Lf C m sp (E O) t O Q x H1):=by
 let(f,fd,ps,F,hm,hb):=F;intro ak s O H Q I h;erw[DI (pl:=pl) (ba (he ak s O H _ I h) λu s1 #[x,H1,I1,rx,a,dx,fs,ex,ea,l,q]=>?_) ht];subst ex;obtain rfl:u=Value.ref a:=rx;erw[zA I1 ea c hm l ?_];erw[xF (h₀:=X.aw) (first:=[.ref a]) I1.ok.mod.lL hm.kp (ba (ha pos ak s1 O H1 _ I1 q) λus s2 #[vs,H2,I2,r,q2]=>#[I2.fD,?_]) g9 eJ];erw[YB (us:=.ref a::us) (vs:=.ref a::vs) (dvs:=[]) (ds:=[]) F hr hb .nil hp I2 (.cons Z r) (by rw[qo];erw[q2])]
end
end _L
namespace _a
open PySem PySem.Spec PyProof.Rows _L _l _r _C _P _W _R
open _O (topR cornO mnO betR atO ownF leadF ownL OkI OkIs)
open _O (Itm)
open _T (numS)
def top(i:Nat):Stmt:=PySem.Challenge.pw_glidequeue_k58_whole_rows_at_two_desks.main.body.getD i (.Pass #[0,0,0,0])
abbrev EO:Stmt:=top 104
abbrev Gk:Stmt:=top 103
abbrev Gh:Stmt:=top 46
abbrev G0:Stmt:=top 12
abbrev FQ:Stmt:=top 48
abbrev FT:Stmt:=top 45
abbrev Fy:Stmt:=top 39
abbrev FL:Stmt:=top 41
abbrev EL:Stmt:=top 42
abbrev FO:Stmt:=top 43
abbrev FP:Stmt:=top 44
abbrev G8:Stmt:=top 38
abbrev FZ:Stmt:=top 30
def jE:Str:="abcdefghijklmnopqrstuvwxyz"
abbrev EG:Stmt:=top 49
abbrev EH:Stmt:=top 13
abbrev EI:Stmt:=top 59
abbrev Gg:Stmt:=top 56
abbrev FY:Stmt:=top 58
abbrev EK:Stmt:=top 57
abbrev Gi:Stmt:=top 62
abbrev FD:Stmt:=top 61
abbrev FC:Stmt:=top 40
abbrev Ga:Stmt:=top 65
abbrev Fz:Stmt:=top 106
abbrev FH:Stmt:=top 52
abbrev ES:Stmt:=top 50
abbrev F9:Stmt:=top 51
abbrev Gd:Stmt:=top 68
abbrev EM:Stmt:=top 67
abbrev Gb:Stmt:=top 69
abbrev Fc:Stmt:=top 74
abbrev G3:Stmt:=top 35
abbrev G1:Stmt:=top 34
abbrev Gn:Stmt:=top 33
abbrev G5:Stmt:=top 29
abbrev G2:Stmt:=top 20
abbrev FK:Stmt:=top 32
abbrev Gj:Stmt:=top 31
structure fc(K:aa)(C:Addr):Prop where
 cl:hU K C
 lI:iR K C "machine"
 tZ:iR K C "begun_at"
 nW:iR K C "done"
 jc:iR K C "queue"
 tY:iR K C "pace"
 BN:iR K C "rate_now"
 QX:iR K C "side"
 QY:iR K C "mark"
 tX:iR K C "stopping"
abbrev Fs:Stmt:=inClass (top 73) 8
abbrev Fg:Stmt:=inClass (top 73) 9
abbrev Fq:Stmt:=inClass (top 73) 10
abbrev Fh:Stmt:=inClass (top 73) 1
abbrev Fj:Stmt:=inClass (top 73) 2
abbrev Fm:Stmt:=inClass (top 73) 0
abbrev Ft:Stmt:=inClass (top 73) 11
abbrev Fw:Stmt:=inClass (top 73) 16
abbrev Fi:Stmt:=inClass (top 73) 15
abbrev Ff:Stmt:=inClass (top 73) 14
abbrev Fu:Stmt:=inClass (top 73) 13
abbrev Fv:Stmt:=inClass (top 73) 12
abbrev Fe:Stmt:=inClass (top 73) 17
abbrev Fp:Stmt:=inClass (top 73) 18
abbrev Bh:Stmt:=inClass (top 73) 19
abbrev Fx:Stmt:=inClass (top 73) 20
abbrev Fd:Stmt:=inClass (top 73) 21
def wW:Str:="0123456789"
abbrev FJ:Stmt:=top 84
abbrev FG:Stmt:=top 83
abbrev FX:Stmt:=top 82
abbrev F1:Stmt:=top 78
abbrev F3:Stmt:=top 79
abbrev F7:Stmt:=top 77
abbrev FU:Stmt:=top 111
abbrev F8:Stmt:=top 81
abbrev FN:Stmt:=top 105
abbrev FI:Stmt:=top 107
abbrev FW:Stmt:=top 108
abbrev Gr:Stmt:=top 88
abbrev Bi:Stmt:=top 89
abbrev Gs:Stmt:=top 90
abbrev Gq:Stmt:=top 91
abbrev Gm:Stmt:=top 98
abbrev Gp:Stmt:=top 21
abbrev G4:Stmt:=top 19
structure iQ where
 n:Addr
 o:Addr
 f:Addr
 m:Addr
 r:Addr
structure lj(K:aa)(D:Addr):Prop where
 cl:hU K D
 lI:iR K D "machine"
 qP:iR K D "runner"
abbrev Gf:Stmt:=inClass (top 100) 0
abbrev FE:Stmt:=top 101
abbrev EW:Stmt:=inClass (top 100) 3
abbrev EY:Stmt:=inClass (top 100) 4
abbrev EU:Stmt:=inClass (top 100) 2
abbrev Bg:Stmt:=inClass (top 100) 1
abbrev G7:Stmt:=top 109
abbrev EN:Stmt:=top 110
abbrev ER:Stmt:=top 113
abbrev Fb:Stmt:=top 114
abbrev EZ:Stmt:=top 115
abbrev FF:Stmt:=top 116
abbrev EV:Stmt:=top 117
abbrev FR:Stmt:=top 118
abbrev G9:Stmt:=top 119
abbrev EJ:Stmt:=top 120
abbrev Ge:Stmt:=top 121
abbrev G6:Stmt:=top 122
abbrev ET:Stmt:=top 123
def Es(K:aa):Sp:=λvs H Q _=>∃(a:Addr)(ns:List Int),vs=[.ref a]/\aE K H a (ns.map V.int)/\ns.length<=63/\∀H',Q (.bl true) H'
abbrev vE:Stmt:=top 124
structure Vl(K:aa)(mg:bN)(R:iQ):Prop where
 f:Exc K mg "Full" R.f jD kQ
 m:Exc K mg "Moving" R.m jD kQ
 r:Exc K mg "NoRate" R.r jD kQ
 tf:takes K R.f R.f
 tm:takes K R.m R.m
structure Vt(K:aa)(mg:bN)(C D:Addr):Prop where
 tc:fc K C
 init:CA K mg C "Runner" "Runner.__init__" Fm
 a3D:MA K C "place" "Runner.place" Fh
 a3F:MA K C "leads_to" "Runner.leads_to" Fj
 a3G:MA K C "is_held" "Runner.is_held" Fs
 a3C:MA K C "stands" "Runner.stands" Fg
 a3H:MA K C "is_halted" "Runner.is_halted" Fq
 a3J:MA K C "feed" "Runner.feed" Ft
 a3L:MA K C "entries" "Runner.entries" Fv
 a3K:MA K C "entries_of_first" "Runner.entries_of_first" Fu
 a3B:MA K C "steps_of_first" "Runner.steps_of_first" Ff
 a3E:MA K C "next_square" "Runner.next_square" Fi
 a3M:MA K C "end_first" "Runner.end_first" Fw
 a3A:MA K C "stops_in" "Runner.stops_in" Fe
 a3I:MA K C "hold" "Runner.hold" Fp
 Ro:MA K C "go" "Runner.go" Bh
 a3N:MA K C "drop" "Runner.drop" Fx
 a3z:MA K C "turn_rate" "Runner.turn_rate" Fd
 td:lj K D
 a9X:CA K mg D "Desk" "Desk.__init__" Gf
 say:MA K D "say" "Desk.say" Bg
 Yo:MA K D "say_steps" "Desk.say_steps" EW
 Yp:MA K D "say_rate" "Desk.say_rate" EY
 Yn:MA K D "say_to" "Desk.say_to" EU
structure All(w:World)(K:aa)(mg:bN):Prop where
 B:bK mg
 CB:GT K mg "NOUGHT" [.int 0,.int 1]
 a7A:GT K mg "SIDES" [.str "up",.str "down"]
 a7P:GT K mg "AXES" [.int 2,.int 3]
 a7H:GV mg "LONGEST_RAIL" (.int 100)
 a7M:GV mg "GREATEST_CHANGE" (.int 50)
 a7D:GV mg "MOST_TICKS" (.int 100)
 a7E:GV mg "MOST_STEPS" (.int 100)
 Ti:GV mg "GREATEST_SPEED" (.int 20)
 a7G:GV mg "LONGEST_WAIT" (.int 1000)
 a7I:GV mg "LONGEST_NAME" (.int 8)
 a7K:GV mg "LEAST_RATE" (.int 10)
 a7L:GV mg "GREATEST_RATE" (.int 200)
 a7N:GV mg "FIRST_RATE" (.int 100)
 a7C:GV mg "MOST_WAITING" (.int 20)
 a7F:GV mg "MOST_ENTRIES" (.int 100)
 a7J:GV mg "LETTERS" (.str jE)
 a7O:GV mg "FIGURES" (.str wW)
 a7B:GV mg "NOTHING" (.str "none")
 ans:∃a,GD w K mg "ANSWERS" a/\PySem.W.nsIn K a "place"=some (mg "answer_place")/\PySem.W.nsIn K a "state"=some (mg "answer_state")/\PySem.W.nsIn K a "hold"=some (mg "answer_hold")/\PySem.W.nsIn K a "go"=some (mg "answer_go")/\PySem.W.nsIn K a "drop"=some (mg "answer_drop")/\(∃v,PySem.W.nsIn K a "tool"=some (some v))/\(∃v,PySem.W.nsIn K a "mark"=some (some v))/\PySem.W.nsIn K a "line"=some none/\PySem.W.nsIn K a "wait"=some none/\PySem.W.nsIn K a "steps"=some none/\PySem.W.nsIn K a "rate"=some none/\PySem.W.nsIn K a "to"=some none
 cls:∃R,Vl K mg R
 dk:∃C D,Vt K mg C D
 law:FA K mg "law" vE
 a8E:FA K mg "is_whole" G0
 a8D:FA K mg "is_whole_within" EH
 a8J:FA K mg "is_machine" G4
 a8H:FA K mg "is_place" G2
 a8S:FA K mg "are_rails" Gp
 a8L:FA K mg "is_item" G5
 TB:FA K mg "is_line" FZ
 a8q:FA K mg "place_behind" Gj
 a8w:FA K mg "moved" FK
 a8R:FA K mg "are_steps" Gn
 a8F:FA K mg "is_short_item" G1
 a8I:FA K mg "is_name" G3
 a8N:FA K mg "fraction" G8
 a8p:FA K mg "plus" Fy
 a8o:FA K mg "plus_whole" FC
 a8x:FA K mg "minus" FL
 a8e:FA K mg "times" EL
 a8K:FA K mg "is_less" FO
 a8z:FA K mg "least" FP
 a8y:FA K mg "lowest_terms" FT
 a8P:FA K mg "common_divisor" Gh
 a8A:FA K mg "lead_of" FQ
 a8c:FA K mg "ways_of" EG
 a8i:FA K mg "stand_at" ES
 a8g:FA K mg "step_rows" F9
 a8v:FA K mg "nearest" FH
 a8O:FA K mg "corner_square" Gg
 a8d:FA K mg "top_square" EK
 a8G:FA K mg "is_rate" FY
 a8M:FA K mg "greatest_turn" EI
 a8r:FA K mg "own_bounds" FD
 a8Q:FA K mg "bound_between" Gi
 a8B:FA K mg "kept_by_fall" Ga
 a8f:FA K mg "ticks_of" EM
 a8T:FA K mg "are_enough" Gd
 a8h:FA K mg "step_entry" Gb
 a8n:FA K mg "reach_behind_first" Fc
 a8l:FA K mg "show_fraction" F7
 a8j:FA K mg "show_numbers" F1
 a8k:FA K mg "show_item" F3
 a8m:FA K mg "show_entry" F8
 a8C:FA K mg "item_in" FX
 a8t:FA K mg "numbers_in" FG
 a8u:FA K mg "number_in" FJ
 a8W:FA K mg "answer_hold" Gr
 TF:FA K mg "answer_go" Bi
 a8X:FA K mg "answer_drop" Gs
 a8V:FA K mg "answer_place" Gq
 a8U:FA K mg "answer_state" Gm
 a8s:FA K mg "only_number" FE
 a9h:FA K mg "_law_bag" Gk
 a90:FA K mg "_law_take" EO
 a99:FA K mg "_law_machine" FN
 a96:FA K mg "_law_place" Fz
 a98:FA K mg "_law_name" FI
 a9d:FA K mg "_law_item" FW
 a9a:FA K mg "_law_line_from" G7
 a9c:FA K mg "_law_item_text" FU
 a8Z:FA K mg "_law_there" EN
 a93:FA K mg "_law_stand" ER
 a9b:FA K mg "_law_leads" FR
 a95:FA K mg "_law_read_step" Fb
 a92:FA K mg "_law_step_right" EZ
 a97:FA K mg "_law_one_told" FF
 a91:FA K mg "_law_steps_told" EV
 a9f:FA K mg "_law_fed" G9
 a8Y:FA K mg "_law_turned" EJ
 a9g:FA K mg "_law_dropped" Ge
 a9e:FA K mg "_law_held" G6
 a94:FA K mg "_law_said" ET
def zX(K:aa)(P:af)(w:World)(mg:bN)(aw:Heap):Prop:=∀(f:Addr)(fd:FuncData),All w K mg->kD K "law" "law" vE f fd->eK P w K mg aw iS 18 f fd ["_law_script"] (Es K)
theorem neW:Nonempty (aa×af×World×(bN)×Heap):=#[default,default,#[λ_ _=>0,{strHash:=λ_=>0,shareClass:=λa=>a,mergeTok:=id,idOf:=λ_=>0,idOfShared:=λ_ _=>0,followText:=λ_=>false,idOfImm:=λ_=>0}],λ_=>none,default]
@[irreducible] noncomputable def KP:aa×af×World×(bN)×Heap:=@Classical.epsilon _ neW λx=>¬zX x.1 x.2.1 x.2.2.1 x.2.2.2.1 x.2.2.2.2
@[irreducible] noncomputable def K:aa:=KP.1
@[irreducible] noncomputable def P:af:=KP.2.1
@[irreducible] noncomputable def w:World:=KP.2.2.1
@[irreducible] noncomputable def mg:bN:=KP.2.2.2.1
@[irreducible] noncomputable def aw:Heap:=KP.2.2.2.2
theorem X2(h:zX K P w mg aw)(K':aa)(P':af)(w':World)(Rj:bN)(V1:Heap):zX K' P' w' Rj V1:=Classical.byContradiction λn=>by have e:=Classical.epsilon_spec (p:=λx:aa×af×World×(bN)×Heap=>¬zX x.1 x.2.1 x.2.2.1 x.2.2.2.1 x.2.2.2.2) #[(K',P',w',Rj,V1),n];unfold K P w mg aw KP at h;erw[e h]
end _a
namespace _a
open PySem PySem.Spec PyProof.Rows _L
section
inductive abJ(vs:List V)(H:Hp)(Q:VK):Prop |mk (p:_)(many:_)(h0:vs=[.ref p,.int many])(h1:fG H p)(h2:1<=many)(h3:many<=10^40)(h4:∀d H',0<=d->d<many->bI p H H'->Q (.int d) H')
def lD:Sp:=λvs H Q _=>abJ vs H Q
theorem NW:bp ["_law_bag_here","_law_many","_law_digit","_law_number","_law_room"] ["_law_bag_here","_law_many"] (aY EO):=bE aH
theorem a0Q(F:FA K mg "_law_take" EO)(B:bK mg):aG P w K mg aw "_law_take" 1 lD:=by
 erw[F.has NW (λvs H Q E h=>?_) (λ_ _ _ _ _ _=>dF λ_ _=>rfl) (λf aI A outer s H vs Q E hr h=>?_)]
 ·let(p,many,rfl,_):=h
  rfl
 ·let(p,many,rfl,(c,m,hp,ok),h1,h2,k):=h
  let(c0,m0,m1):=id ok;have nd:=NW.nd;erw[_,(aD (bL (bU nS (px K (pv 0) aB) aB (bB _)) (aD (pS 2 nd (aQ qG (px K (pv 0) aB) (pv 1))) (aD (fh (aQ tR (px K (pv 0) aB) (pv 1)) (yz (pv 0) aB set_list)) (aJ (aW (pv 2))))) bO) (aD (pS 3 nd aB) (aD (pS 4 nd aB) (aD (vQ jI (bU ku (pv 4) (pv 1) (bB _)) (aD (fh (aQ qG (aQ Bz (aQ dv (aQ cc (px K (pv 0) aB) aB) aB) aB) aB) (yz (pv 0) aB set_list)) (aD (pS 3 nd (aQ dv (aQ cc (pv 3) aB) (aQ qG (aQ cc (aQ tR (px K (pv 0) aB) aB) aB) aB))) (aJ (pS 4 nd (aQ cc (pv 4) aB)))))) (aJ (aW (aQ qG (pv 3) (pv 1)))))))),?_];erw[_,Z,.inl #[p,_,0,.int c,Z,Z,aE.of hp,Z,_,_,Z,Z,_,Z,?_]];erw[gy (λhc=>?_) (λ_=>?_)]
  ·erw[_,Z,.inl #[p,_,0,.int c,Z,Z,aE.of hp,Z,_,Z,_,_,Z,Z,h1,?_]]
   erw[_,Z,.inl #[p,_,0,.int c,Z,Z,aE.of hp,Z,_,Z,_,_,Z,Z,#[h1,LX au h2],?_]];erw[_,Z,p,_,0,0,Z,Z,hp,Z,?_];erw[_,Z,?_];erw[k _ _ (sG _ au) (vi _ au) (bI.upd #[Int.ediv_nonneg c0 au,m0,m1])]
  ·erw[vn (λO H2=>∃(v:Option V)(n r:Int),O=[some (.ref p),some (.int many),v,some (.int n),some (.int r)]/\bI p H H2/\1<=r) (λO _=>match O with|[_,_,_,_,some (.int r)]=>(many-r).toNat|_=>0) ?_ ?_ ?_]
   ·erw[none,0,1,Z,.refl #[c,m,hp,ok],eg _]
   ·rintro O H2 ⟨v,n,r,rfl,bx,Cg⟩
    let(c',m',Ck,c0',m0',m1'):=id bx.bC;erw[_,Z,_,Z,_,_,Z,Z,_,Z,?_];erw[gy (λhc=>?_) (λhc=>?_)]
    ·have cK:r<many:=jY hc
     erw[_,Z,.inl #[p,_,1,.int m',Z,Z,aE.of Ck,Z,_,_,Z,Z,.of_right (dc ay ay),_,_,Z,Z,_,_,Z,Z,#[ay,ay,?_],_,_,Z,Z,(by show(0:Int)<2147483629;decide),?_]]
     ·have pK:(2:Nat)^64=18446744073709551616:=by decide
      rw[pK];lia
     erw[_,Z,p,_,1,1,Z,Z,Ck,Z,?_];have g0:0<=((m'*48271+7919)^(3:Int).toNat)%2147483629:=sG _ ay;have g1:((m'*48271+7919)^(3:Int).toNat)%2147483629<2147483629:=vi _ ay;have bx2:bI p H (_L.upd H2 p (.lst [.int c',.int (((m'*48271+7919)^(3:Int).toNat)%2147483629)])):=bx.trans (.upd #[c0',g0,Int.lt_trans g1 ay]);erw[_,Z,_,_,Z,Z,.of_right (dc ay ay),_,Z,.inl #[p,_,1,.int _,Z,Z,aE.of bQ,Z,_,_,Z,Z,#[ay,LX ay ay],_,_,Z,Z,.of_right (dc ay ay),_,_,Z,Z,(by show(0:Int)<1073741789;decide),_,_,Z,Z,?_]];erw[_,Z,_,_,Z,Z,.of_right (dc ay ay),?_];erw[#[v,_,_,Z,bx2,?_],?_]
     ·lia
     ·show(many-r*1073741789).toNat<(many-r).toNat
      lia
    ·erw[_,Z,_,Z,_,_,Z,Z,h1,?_]
     erw[k _ _ (sG _ au) (vi _ au) bx]
   ·rintro O H2 Q1 Q2 hq ⟨v1,e1,v2,e2,i,j,e3,e4,kk,e5,q⟩
    erw[v1,e1,v2,e2,i,j,e3,e4,kk,e5,hq _ _ q]
end
section
inductive acU(K:aa)(vs:List V)(H:Hp)(Q:VK):Prop |mk (a:Addr)(ns:List Int)(at':Int)(h0:vs=[.ref a,.int at'])(h1:aE K H a (ns.map V.int))(h2:ns.length<=63)(h3:0<=at')(h4:at'<=100)(h5:∀p H',H p=none->fG H' p->aF H H'->Q (.ref p) H')
def Ny(K:aa):Sp:=λvs H Q _=>acU K vs H Q
theorem Pf:bp ["_law_script","_law_at","_law_cell","_law_mix","_law_k"] ["_law_script","_law_at"] (aY Gk):=bE aH
theorem Se{ns:List Int}{j:Nat}(h:j<ns.length):∃z,fb (ns.map V.int) (j:Int)=some (.int z):=#[ns[j],aaP (by simp[h])]
theorem a2e(F:FA K mg "_law_bag" Gk)(B:bK mg):aG P w K mg aw "_law_bag" 1 (Ny K):=by
 erw[F.has Pf (λvs H Q E h=>?_) (λ_ _ _ _ _ _=>dF λ_ _=>rfl) (λf aI A outer s H vs Q E hr h=>?_)]
 ·let(a,ns,at',rfl,_):=h
  rfl
 ·let(a,ns,at',rfl,hS,hlen,h0,h1,k):=h
  obtain⟨j,rfl⟩:∃j:Nat,at'=(j:Int):=#[at'.toNat,au];have nd:=Pf.nd;erw[_,(aD (pS 2 nd aB) (aD (ig (bL (bU ku (pv 1) (dS K B (ao (pv 0) az)) (bB _)) (aJ (pS 2 nd (fK (x:="abs") pX Z (B.at "abs") sA (ao (px K (pv 0) (pv 1)) az)))) bO)) (aD (pS 3 nd (aQ dv (aQ dv (aQ cc (aQ cc aB (pv 1)) (pv 1)) (aQ cc aB (pv 1))) aB)) (aD (mq jI Z (tK Z (B.at "range") (ao (fK (x:="min") (UO rfl) rfl (B.at "min") PyProof.Rows.boot_min (ao (dS K B (ao (pv 0) az)) (ao aB az))) az)) (bj 4 nd) (aJ (pS 3 nd (aQ qG (aQ Bz (aQ dv (aQ dv (aQ cc (pv 3) aB) (aQ qG (px K (pv 0) (pv 4)) aB)) (aQ cc (pv 4) (pv 4))) aB) aB)))) (aD (ig (bL (bU ku (pv 2) (aQ Bz aB aB) (bB _)) (aJ (pS 2 nd aB)) bO)) (aJ (aW (fA (ao (pv 2) (ao (pv 3) az)))))))))),?_];erw[λO H'=>H'=H/\∃c:Int,O=[some (.ref a),some (.int (j:Int)),some (.int c),none,none]/\0<=c,?_,?_]
  ·erw[_,Z,_,Z,a,_,Z,.inl hS,_,_,Z,Z,_,Z,?_]
   erw[gy (λhc=>?_) (λ_=>?_)]
   ·have hj:(j:Int)<((ns.map V.int).length:Int):=jY hc
    rw[bW]at hj;let(z,hz):=Se (ns:=ns) (j:=j) au;erw[_,Z,_,Z,.inl #[a,_,_,_,Z,Z,hS,hz,z,Z,?_]];erw[Z,_,Z,by split<;>lia]
   ·erw[Z,0,Z,eg _]
  rintro O H' ⟨rfl,c,rfl,c0⟩;erw[_,Z,_,_,Z,Z,.of_left (dc ay ay),_,Z,_,_,Z,Z,.of_right (dc au au),_,Z,_,_,Z,Z,.of_left (dc ay ay),_,_,Z,Z,_,_,Z,Z,?_];erw[_,Z,a,_,Z,.inl hS,_,_,Z,_,Z,?_,?_,?_]
  ·split<;>lia
  ·split<;>(try rw[bW])<;>lia
  erw[CG (Pv:=λi O H2=>H2=H'/\∃(m:Int)(v:Option V),O=[some (.ref a),some (.int (j:Int)),some (.int c),some (.int m),v]/\0<=m/\m<2147483648) ?_ ?_ ?_]
  ·erw[Z,_,none,Z,?_,?_]
   ·have:(0:Int)<=(j:Int)*(j:Int):=iG au au
    rw[sF];lia
   ·have:(j:Int)*(j:Int)<=100*100:=sE au au au au
    rw[sF];lia
  ·rintro i O H2 hi ⟨rfl,m,v,rfl,m0,m1⟩
   have zj:i<ns.length:=by rw[bW]at hi;split at hi<;>lia
   let(z,hz):=Se (ns:=ns) (j:=i) zj;rw[<-Int.zero_add (i:Int)]at hz;have Sl:0<=z%2147483647:=sG _ ay;have hz1:z%2147483647<2147483647:=vi _ ay;have a5W:(0:Int)<=(0+(i:Int))*(0+(i:Int)):=iG au au;have hii:(0+(i:Int))*(0+(i:Int))<=100*100:=sE au au au au;erw[_,Z,_,_,Z,Z,.of_right (dc ay ay),_,Z,_,Z,.inl #[a,_,_,_,Z,Z,hS,hz,_,_,Z,Z,(by show(0:Int)<2147483647;decide),_,_,Z,Z,_,Z,_,Z,_,_,Z,Z,.of_right (dc au au),_,_,Z,Z,_,_,Z,Z,#[ay,ay,?_],_,_,Z,Z,(by show(0:Int)<2147483629;decide),?_]]
   ·have pK:(2:Nat)^64=18446744073709551616:=by decide
    rw[pK];generalize(0+(i:Int))*(0+(i:Int))=ii at a5W hii⊢;generalize z%2147483647=zz at Sl hz1⊢
    lia
   ·erw[Z,_,_,Z,sG _ ay,Int.lt_trans (vi _ ay) ay]
  ·rintro O H2 ⟨rfl,m,v,rfl,m0,m1⟩
   erw[λO H3=>H3=H2/\∃c:Int,O=[some (.ref a),some (.int (j:Int)),some (.int c),some (.int m),v]/\0<=c,?_,?_]
   ·erw[_,Z,_,_,Z,Z,#[ay,ay,ay],_,_,Z,Z,_,Z,?_]
    erw[gy (λhc=>?_) (λ_=>?_)]
    ·erw[Z,0,Z,eg _]
    ·erw[Z,c,Z,c0]
   rintro O H3 ⟨rfl,c,rfl,c0⟩;erw[_,Z,_,Z,(by show 2<=sizeLine;decide),λp H4 nw=>?_];erw[k p H4 nw.no #[c,m,nw.at',c0,m0,m1] nw.same]
inductive acO(vs:List V)(H:Hp)(Q:VK):Prop |mk (a:Int)(b:Int)(h0:vs=[.int a,.int b])(h1:Q (.int (Int.gcd a b)) H)
def Ew:Sp:=λvs H Q _=>acO vs H Q
end
section
inductive acr(vs:List V)(H:Hp)(Q:VK):Prop |mk (a:Int)(b:Int)(h0:vs=[.int a,.int b])(h1:b≠0)(h2:Wd b)(h3:∀t H',Nw H H' t (.tup [.int (_A.lowP a b),.int (_A.gY a b)])->Q (.ref t) H')
def vB:Sp:=λvs H Q _=>acr vs H Q
end
section
def yU(T:String):Bool:=jK T "int"&& !jK T "bool"
inductive acC(K:aa)(vs:List V)(H:Hp)(Q:VK):Prop |mk (v:_)(T:_)(h0:vs=[v])(h1:uN K H v T)(h2:Q (.bl (yU T)) H)
def Ba(K:aa):Sp:=λvs H Q _=>acC K vs H Q
theorem Pa:bp ["p","q","high","low"] ["p","q"] (aY Gh):=bE aH
theorem a2b(F:FA K mg "common_divisor" Gh)(B:bK mg):aG P w K mg aw "common_divisor" 1 Ew:=by
 erw[F.has Pa (λvs H Q E h=>?_) (λ_ _ _ _ _ _=>dF λ_ _=>rfl) (λf aI A outer s H vs Q E hr h=>?_)]
 ·let(a,b,rfl,_):=h
  rfl
 ·let(a,b,rfl,k):=h
  have nd:=Pa.nd;erw[_,(aD (Hk (i:=2) (j:=3) Z nd Z Z ay Z Z (ao (fK (x:="abs") pX Z (B.at "abs") sA (ao (pv 0) az)) (ao (fK (x:="abs") pX rfl (B.at "abs") sA (ao (pv 1) az)) az)) rfl) (aD (vQ jI (bU (mC K Z hr.units) (pv 3) aB (bB _)) (aJ (Hk (i:=2) (j:=3) Z nd Z Z ay Z Z (ao (pv 3) (ao (aQ qG (pv 2) (pv 3)) az)) Z))) (aJ (aW (pv 2))))),?_];erw[_,Z,_,Z,_,Z,_,Z,_,_,Z,?_];erw[vn (λO H2=>H2=H/\∃(x y:Int),O=[some (.int a),some (.int b),some (.int x),some (.int y)]/\0<=x/\0<=y/\Int.gcd x y=Int.gcd a b) (λO _=>match O with|[_,_,_,some (.int y)]=>y.natAbs|_=>0) ?_ ?_ ?_]
  ·erw[Z,_,_,Z,by split<;>lia,by split<;>lia,?_]
   have h1:(if a<0 then-a else a).natAbs=a.natAbs:=by split<;>lia
   have h2:(if b<0 then-b else b).natAbs=b.natAbs:=by split<;>lia
   unfold Int.gcd;rw[h1,h2]
  ·rintro O H2 ⟨rfl,x,y,rfl,x0,y0,e⟩
   erw[_,Z,.inl #[_,_,Z,Z,_,Z,?_]];erw[gy (λhc=>?_) (λhc=>?_)]
   ·have hy:y≠0:=by simpa using hc
    have ug:0<y:=by lia
    erw[_,Z,_,Z,_,Z,_,_,Z,Z,ug,_,_,Z,?_];erw[#[Z,_,_,Z,y0,sG _ hy,(_A.a7y ug).trans e],?_];show(x%y).natAbs<y.natAbs;have:=sG x hy;have:=vi x ug
    lia
   ·have hy:y=0:=by simpa using hc
    subst hy;erw[_,Z,?_];rw[Int.gcd_zero_right]at e;have e2:x=((Int.gcd a b:Nat):Int):=by lia
    rw[e2];erw[k]
  ·rintro O H2 Q1 Q2 hq ⟨v1,e1,h⟩
   erw[v1,e1,?_];rcases h with⟨i,j,e3,e4,kk,e5,q⟩|⟨d,e,r1,r2,s1,s2,kk,e5,q⟩
   ·erw[.inl #[i,j,e3,e4,kk,e5,hq _ _ q]]
   ·erw[.inr #[d,e,r1,r2,s1,s2,kk,e5,hq _ _ q]]
end
section
theorem OT:bp ["thing"] ["thing"] (aY G0):=bE aH
theorem a1Q(F:FA K mg "is_whole" G0)(B:bK mg):aG P w K mg aw "is_whole" 1 (Ba K):=by
 erw[F.has OT (λvs H Q E h=>?_) (λ_ _ _ _ _ _=>dw λ_=>rfl) (λf aI A outer s H vs Q E hr h=>?_)]
 ·let(v,T,rfl,_):=h
  rfl
 ·let(v,T,rfl,ty,k):=h
  have nd:=OT.nd;erw[_,(aJ (aW (lF (nR K B (ao (pv 0) (ao (nQ (x:="int") (v:=.ty "int") Z (B.at "int") sj rfl) az))) (mx (Hn (nR K B (ao (pv 0) (ao (nQ (x:="bool") (v:=.ty "bool") rfl (B.at "bool") PyProof.Rows.boot_bool rfl) az)))))))),?_];erw[_,Z,.inl #[_,T,"int",_,Z,ty,ay,Z,_,Z,?_]];unfold yU at k;erw[gy (λhc=>?_) (λhc=>?_)]
  ·erw[_,Z,.inl #[_,T,"bool",_,Z,ty,ay,Z,_,Z,?_]]
   rw[hc,jl]at k;erw[k]
  ·rw[DU.mpr hc,jm]at k
   erw[k]
end
end _a
namespace _a
open PySem PySem.Spec PyProof.Rows _L _l
section
def du(ns:List Int)(sp:Int):ag:=.tuple [.str "line",.tuple (ns.map PyData.int),.int sp]
theorem a47(ns:List Int)(sp:Int):fk (du ns sp)=true:=by simp[du,fk,cJ,jT]
structure fg(ax:Nat)(m:Int)(ns:List Int):Prop where
 len:ns.length=ax
 bd:∀z∈ns,(z.natAbs:Int)<=m
 nz:∃z∈ns,z≠0
theorem fg.lead{ax:Nat}{m:Int}{ns:List Int}(h:fg ax m ns):0<aK ns/\(aK ns:Int)<=m:=by
 erw[a4c h.nz,?_];have hm:0<=m:=by let(z,hz,_):=h.nz;have:=h.bd z hz;lia
 have:=pk (ns:=ns) (m:=m.toNat) λz hz=>by have:=h.bd z hz;lia
 lia
theorem fg.ne{ax:Nat}{m:Int}{ns:List Int}(h:fg ax m ns):ns≠[]:=by let(z,hz,_):=h.nz;intro e;subst e;cases hz
theorem o8{H:Hp}{v:V}{ns:List Int}{sp:Int}(h:RD K H v (du ns sp)):∃a b,v= .ref a/\bc K H a [.str "line",.ref b,.int sp]/\bc K H b (ns.map V.int):=by let(a,xs,rfl,h1,h2):=h.cT;let(x1,r1,rfl,e1,h2):=h2.cons_inv;let(x2,r2,rfl,e2,h2):=h2.cons_inv;let(x3,r3,rfl,e3,h2):=h2.cons_inv;cases h2.nil_inv;cases e1.str_inv;cases e3.int_inv;let(b,ys,rfl,h3,h4):=e2.cT;rw[h4.fE]at h3;erw[a,b,Z,h1,h3]
inductive acv(K:aa)(vs:List V)(H:Hp)(Q:VK):Prop |mk (v:_)(ns:_)(sp:_)(h0:vs=[v])(h1:RD K H v (du ns sp))(h2:ns≠[])(h3:ns.length<=1000)(h4:∀H',aF H H'->Q (.int (aK ns)) H')
def sX(K:aa):Sp:=λvs H Q _=>acv K vs H Q
theorem kR{ns:List Int}{f:Int->ag}{i:Nat}{d:ag}(h:(ns.map f)[i]? =some d):∃n,ns[i]? =some n/\f n=d:=by rw[cj]at h;cases e:ns[i]? with |none=>rw[e]at h;cases h |some n=>rw[e]at h;erw[n,Z,dQ h]
theorem wC{ns:List Int}{i:Nat}{x:V}{n:Int}(h:(ns.map V.int)[i]? =some x)(e:ns[i]? =some n):x= .int n:=by rw[cj,e]at h;exact(dQ h).symm
theorem OI:bp ["line"] ["line"] (aY FQ):=bE aH
theorem a1N(F:FA K mg "lead_of" FQ)(B:bK mg):aG P w K mg aw "lead_of" 1 (sX K):=by
 erw[F.has OI (λvs H Q E h=>?_) (λ_ _ _ _ _ _=>dw λ_=>rfl) (λf aI A outer s H vs Q E hr h=>?_)]
 ·let(v,ns,sp,rfl,_):=h
  rfl
 ·let(v,ns,sp,rfl,rd,cP,hz,k):=h
  have nd:=OI.nd;let(a,b,rfl,ha,hb):=o8 rd;erw[_,(aJ (aW (fK (x:="max") (Iu K Z Z) Z (B.at "max") LF (ao (fi (N:=["step"]) (js:=[none]) rfl rfl rfl (ko K rfl (px K (pv 0) aB)) (λ_ _ _ _ _=>(bj 0 (jb _))) (λ_ _ _ _ _=>dJ) (λ_ _ _ _ _=>(fK (x:="abs") pX rfl (B.at "abs") sA (ao (pv 0) az)))) az)))),?_];erw[_,Z,.inr #[a,_,1,.ref b,Z,Z,ha,Z,b,Z,#[_,hb],λD H0 nw=>?_]];erw[pW (K:=K) (xs:=ns.map V.int) (ds:=(ns.map gL).map PyData.int) [] hb nw (by simp) (by simpa using hz) (jT _) ?_ ?_]
  ·intro i x d H2 Q' ex ed s2 hq
   let(m,em,rfl):=kR ed;rw[cj]at em;cases en:ns[i]? with |none=>rw[en]at em;cases em |some n=>rw[en]at em;cases em;cases wC ex en;erw[_,Z,n,Z,hq _ _ (aF.refl _) (fz _)]
  ·intro H' ys s2 d2 r2
   rw[r2.fE]at d2;erw[D,_,Z,aE.of d2,by simpa using cP,λM h1 h2=>?_];rw[II cP h1 h2];erw[k H' s2]
end
end _a
namespace _a
open PySem PySem.Spec PyProof.Rows _L _r
section
theorem OL:bp ["p","q","divisor"] ["p","q"] (aY FT):=bE aH
theorem a1J(F:FA K mg "lowest_terms" FT)(B:bK mg)(a6o:aG P w K mg aw "common_divisor" 1 Ew):aG P w K mg aw "lowest_terms" 2 vB:=by
 erw[F.has OL (λvs H Q E h=>?_) (λ_ _ _ _ _ _=>dF λ_ _=>rfl) (λf aI A outer s H vs Q E hr h=>?_)]
 ·let(a,b,rfl,_):=h
  rfl
 ·let(a,b,rfl,hb,wb,k):=h
  have nd:=OL.nd;have sw:Wd (_A.sg a b):=Af (_A.Y9 hb) wb;erw[_,(aD (pS 2 nd (pf a6o hr (ao (pv 0) (ao (pv 1) az)))) (aD (ig (bL (bU ku (pv 1) aB (bB _)) (aJ (pS 2 nd (kO kI (pv 2)))) bO)) (aJ (aW (iH (ao (aQ Qw (pv 0) (pv 2)) (ao (aQ Qw (pv 1) (pv 2)) az))))))),?_];erw[_,Z,_,Z,a,b,Z,?_];erw[λO H'=>H'=H/\O=[some (.int a),some (.int b),some (.int (_A.sg a b))],?_,?_]
  ·erw[_,Z,_,_,Z,Z,_,Z,?_]
   erw[gy (λhc=>?_) (λhc=>?_)]
   ·have hd:b<0:=jY hc
    erw[_,Z,_,Z,?_];erw[Z,?_];unfold _A.sg;rw[bu hd];rfl
   ·have hd:¬b<0:=λz=>hc (bM z)
    erw[Z,?_];unfold _A.sg;rw[bo hd];rfl
  rintro O H' ⟨rfl,rfl⟩;erw[_,Z,_,Z,_,_,Z,Z,#[_A.yk hb,sw],_,Z,_,Z,_,_,Z,Z,#[_A.yk hb,sw],(by show 2<=sizeLine;decide),λt H4 nw=>?_];erw[k t H4 nw]
def cg(K:aa)(H:Hp)(v:V)(r:Rat):Prop:=∃p,v= .ref p/\bc K H p [.int r.num,.int r.den]
theorem cg.go{H H':Hp}{v:V}{r:Rat}(h:cg K H v r)(s:aF H H'):cg K H' v r:=by let(p,e,q):=h;erw[p,e,q.go s]
def fN(r:Rat):ag:=.tuple [.int r.num,.int r.den]
theorem cg.rd{H:Hp}{v:V}{r:Rat}(h:cg K H v r):RD K H v (fN r):=by let(p,rfl,q):=h;erw[gj q (cN (fz _) (cN (fz _) dI))]
theorem Zq(r:Rat):dy 1 (fN r):=iC.tup (.cons (.int _) (.cons (.int _) .nil))
theorem eqR{r s:Rat}(h:r=s):PyData.eqv (fN r) (fN s)=true:=by rw[h];exact(Zq s).refl
theorem j9{n:Nat}{i:Int}(h:i.natAbs<2^n)(l:n<=5000):Wd i:=gO h (uZ ay l)
theorem _root_._r.Bd.wn{r:Rat}(h:Bd 2000 r):Wd r.num:=j9 h.num ay
theorem _root_._r.Bd.wd{r:Rat}(h:Bd 2000 r):Wd (r.den:Int):=j9 (n:=2000) (by have:=h.den;omega) ay
theorem E1{r s:Rat}(h:Bd 2000 r)(g:Bd 2000 s):Wd ((r.den:Int)*(s.den:Int)):=j9 (n:=4000) (Km h g) ay
theorem Bp{H':Hp}{t:Addr}{a b:Int}{r:Rat}(hb:b≠0)(e:r=Rat.divInt a b)(h:H' t=some (.tup [.int (_A.lowP a b),.int (_A.gY a b)])):cg K H' (.ref t) r:=by let(e1,e2):=IA (a:=a) hb;rw[e1,e2,<-e]at h;erw[t,Z,bc.of h]
inductive acb(op:Rat->Rat->Rat)(K:aa)(vs:List V)(H:Hp)(Q:VK):Prop |mk (v1:_)(v2:_)(r:_)(s:_)(h0:vs=[v1,v2])(h1:cg K H v1 r)(h2:cg K H v2 s)(h3:Bd 2000 r)(h4:Bd 2000 s)(h5:∀v H',cg K H' v (op r s)->aF H H'->Q v H')
def sW(op:Rat->Rat->Rat)(K:aa):Sp:=λvs H Q _=>acb op K vs H Q
theorem Oq:bp ["one","other","p","q","r","s"] ["one","other"] (aY Fy):=bE aH
theorem a1x(F:FA K mg "plus" Fy)(B:bK mg)(ui:aG P w K mg aw "lowest_terms" 2 vB):aG P w K mg aw "plus" 3 (sW (·+·) K):=by
 erw[F.has Oq (λvs H Q E h=>?_) (λ_ _ _ _ _ _=>dF λ_ _=>rfl) (λf aI A outer s H vs Q E hr h=>?_)]
 ·let(v1,v2,r,s,rfl,_):=h
  rfl
 ·let(v1,v2,r,s,rfl,(p,rfl,hp),(q,rfl,hq),br,bs,k):=h
  have nd:=Oq.nd;erw[_,(aD (fh (pv 0) (eB K Z (n:=2) Z (bS (bj 2 nd) (bS (bj 3 nd) ek)))) (aD (fh (pv 1) (eB K Z (n:=2) Z (bS (bj 4 nd) (bS (bj 5 nd) ek)))) (aJ (aW (pf ui hr (ao (aQ dv (aQ cc (pv 2) (pv 5)) (aQ cc (pv 4) (pv 3))) (ao (aQ cc (pv 3) (pv 5)) az))))))),?_];erw[_,Z,_,_,Z,hp,Z,_,_,Z,_,_,Z,Z,?_];erw[_,Z,_,_,Z,hq,Z,_,_,Z,_,_,Z,Z,?_];erw[_,Z,_,Z,_,_,Z,Z,jk br.wn.bits bs.wd.bits,_,Z,_,Z,_,_,Z,Z,jk bs.wn.bits br.wd.bits,_,_,Z,Z,_,Z,_,Z,_,_,Z,Z,jk br.wd.bits bs.wd.bits,?_];erw[_,_,Z,pV r s,E1 br bs,λt H' nw=>k _ _ (Bp (pV r s) (add_div r s) nw.at') nw.same]
theorem OE:bp ["one","other","p","q","r","s"] ["one","other"] (aY FL):=bE aH
theorem a1H(F:FA K mg "minus" FL)(B:bK mg)(ui:aG P w K mg aw "lowest_terms" 2 vB):aG P w K mg aw "minus" 3 (sW (·-·) K):=by
 erw[F.has OE (λvs H Q E h=>?_) (λ_ _ _ _ _ _=>dF λ_ _=>rfl) (λf aI A outer s H vs Q E hr h=>?_)]
 ·let(v1,v2,r,s,rfl,_):=h
  rfl
 ·let(v1,v2,r,s,rfl,(p,rfl,hp),(q,rfl,hq),br,bs,k):=h
  have nd:=OE.nd;erw[_,(aD (fh (pv 0) (eB K Z (n:=2) Z (bS (bj 2 nd) (bS (bj 3 nd) ek)))) (aD (fh (pv 1) (eB K Z (n:=2) Z (bS (bj 4 nd) (bS (bj 5 nd) ek)))) (aJ (aW (pf ui hr (ao (aQ iK (aQ cc (pv 2) (pv 5)) (aQ cc (pv 4) (pv 3))) (ao (aQ cc (pv 3) (pv 5)) az))))))),?_];erw[_,Z,_,_,Z,hp,Z,_,_,Z,_,_,Z,Z,?_];erw[_,Z,_,_,Z,hq,Z,_,_,Z,_,_,Z,Z,?_];erw[_,Z,_,Z,_,_,Z,Z,jk br.wn.bits bs.wd.bits,_,Z,_,Z,_,_,Z,Z,jk bs.wn.bits br.wd.bits,_,_,Z,Z,_,Z,_,Z,_,_,Z,Z,jk br.wd.bits bs.wd.bits,?_];erw[_,_,Z,pV r s,E1 br bs,λt H' nw=>k _ _ (Bp (pV r s) (Xz r s) nw.at') nw.same]
theorem NT:bp ["one","other","p","q","r","s"] ["one","other"] (aY EL):=bE aH
theorem a0N(F:FA K mg "times" EL)(B:bK mg)(ui:aG P w K mg aw "lowest_terms" 2 vB):aG P w K mg aw "times" 3 (sW (·*·) K):=by
 erw[F.has NT (λvs H Q E h=>?_) (λ_ _ _ _ _ _=>dF λ_ _=>rfl) (λf aI A outer s H vs Q E hr h=>?_)]
 ·let(v1,v2,r,s,rfl,_):=h
  rfl
 ·let(v1,v2,r,s,rfl,(p,rfl,hp),(q,rfl,hq),br,bs,k):=h
  have nd:=NT.nd;erw[_,(aD (fh (pv 0) (eB K Z (n:=2) Z (bS (bj 2 nd) (bS (bj 3 nd) ek)))) (aD (fh (pv 1) (eB K Z (n:=2) Z (bS (bj 4 nd) (bS (bj 5 nd) ek)))) (aJ (aW (pf ui hr (ao (aQ cc (pv 2) (pv 4)) (ao (aQ cc (pv 3) (pv 5)) az))))))),?_];erw[_,Z,_,_,Z,hp,Z,_,_,Z,_,_,Z,Z,?_];erw[_,Z,_,_,Z,hq,Z,_,_,Z,_,_,Z,Z,?_];erw[_,Z,_,Z,_,_,Z,Z,jk br.wn.bits bs.wn.bits,_,Z,_,Z,_,_,Z,Z,jk br.wd.bits bs.wd.bits,?_];erw[_,_,Z,pV r s,E1 br bs,λt H' nw=>k _ _ (Bp (pV r s) (mul_div r s) nw.at') nw.same]
inductive acs(K:aa)(vs:List V)(H:Hp)(Q:VK):Prop |mk (v1:_)(v2:_)(r:_)(s:_)(h0:vs=[v1,v2])(h1:cg K H v1 r)(h2:cg K H v2 s)(h3:Bd 2000 r)(h4:Bd 2000 s)(h5:Q (.bl (decide (r<s))) H)
def B8(K:aa):Sp:=λvs H Q _=>acs K vs H Q
theorem OG:bp ["one","other","p","q","r","s"] ["one","other"] (aY FO):=bE aH
theorem a1L(F:FA K mg "is_less" FO)(B:bK mg):aG P w K mg aw "is_less" 1 (B8 K):=by
 erw[F.has OG (λvs H Q E h=>?_) (λ_ _ _ _ _ _=>dF λ_ _=>rfl) (λf aI A outer s H vs Q E hr h=>?_)]
 ·let(v1,v2,r,s,rfl,_):=h
  rfl
 ·let(v1,v2,r,s,rfl,(p,rfl,hp),(q,rfl,hq),br,bs,k):=h
  have nd:=OG.nd;erw[_,(aD (fh (pv 0) (eB K Z (n:=2) Z (bS (bj 2 nd) (bS (bj 3 nd) ek)))) (aD (fh (pv 1) (eB K Z (n:=2) Z (bS (bj 4 nd) (bS (bj 5 nd) ek)))) (aJ (aW (fj ku (aQ cc (pv 2) (pv 5)) (aQ cc (pv 4) (pv 3)) (bB _)))))),?_];erw[_,Z,_,_,Z,hp,Z,_,_,Z,_,_,Z,Z,?_];erw[_,Z,_,_,Z,hq,Z,_,_,Z,_,_,Z,Z,?_];erw[_,Z,_,Z,_,_,Z,Z,jk br.wn.bits bs.wd.bits,_,Z,_,Z,_,_,Z,Z,jk bs.wn.bits br.wd.bits,_,_,Z,Z,?_];have e:decide (r.num*(s.den:Int)<s.num*(r.den:Int))=decide (r<s):=by rw[kb,Lp,Lp,Rat.lt_iff]
  show Q (.bl (decide (r.num*(s.den:Int)<s.num*(r.den:Int)))) H;rw[e];erw[k]
def rS(K:aa)(H:Hp):List V->List Rat->Prop |[],[]=>True |v::vs,r::rs=>cg K H v r/\Bd 2000 r/\rS K H vs rs |_,_=>False
theorem rS.length{H:Hp}:∀{vs:List V}{rs:List Rat},rS K H vs rs->vs.length=rs.length |[],[],_=>rfl |v::vs,r::rs,h=>by rw[gq,gq,rS.length h.2.2] |[],_::_,h=>h.elim |_::_,[],h=>h.elim
theorem rS.get{H:Hp}:∀{vs:List V}{rs:List Rat}{i:Nat}{v:V},rS K H vs rs->vs[i]? =some v->∃r,rs[i]? =some r/\cg K H v r/\Bd 2000 r
 |[],[],i,v,_,e=>by simp at e |v::vs,r::rs,0,v',h,e=>by
  have e':v=v':=by simpa using e
  subst e';erw[r,Z,h.1,h.2.1] |v::vs,r::rs,i+1,v',h,e=>by let(r',e1,q):=rS.get h.2.2 (show vs[i]? =some v' by simpa using e);erw[r',by simpa using e1,q] |[],_::_,_,_,h,_=>h.elim |_::_,[],_,_,h,_=>h.elim
inductive acu(K:aa)(vs:List V)(H:Hp)(Q:VK):Prop |mk (l:_)(xs:_)(rs:_)(h0:vs=[.ref l])(h1:aE K H l xs)(h2:rS K H xs rs)(h3:xs≠[])(h4:∀(i:Nat)(v:V)(r:Rat),xs[i]? =some v->rs[i]? =some r->(∀s∈rs,r<=s)->Q v H)
def oW(K:aa):Sp:=λvs H Q _=>acu K vs H Q
theorem OH:bp ["some","best","one"] ["some"] (aY FP):=bE aH
theorem a1M(F:FA K mg "least" FP)(B:bK mg)(Jo:aG P w K mg aw "is_less" 1 (B8 K)):aG P w K mg aw "least" 2 (oW K):=by
 erw[F.has OH (λvs H Q E h=>?_) (λ_ _ _ _ _ _=>dw λ_=>rfl) (λf aI A outer s H vs Q E hr h=>?_)]
 ·let(l,xs,rs,rfl,_):=h
  rfl
 ·let(l,xs,rs,rfl,hl,lP,cP,k):=h
  have nd:=OH.nd;erw[_,(aD (pS 1 nd (px K (pv 0) aB)) (aD (mq jI Z (nP K Z (pv 0)) (bj 2 nd) (aJ (bL (cO (pf Jo hr (ao (pv 2) (ao (pv 1) az)))) (aJ (pS 1 nd (pv 2))) bO))) (aJ (aW (pv 1))))),?_];have hlen:=lP.length;have h0:0<xs.length:=DP.mpr cP;have e0:=cB h0;erw[_,Z,.inl #[l,xs,0,xs[0],Z,Z,hl,cL ay e0,?_]];erw[_,Z,l,Z,#[_,hl],CH (K:=K) (a:=l) (xs:=xs) (λi O H2=>H2=H/\∃(j:Nat)(b:V)(r:Rat)(v:Option V),xs[j]? =some b/\rs[j]? =some r/\(∀(m:Nat)(s:Rat),m<i->rs[m]? =some s->r<=s)/\O=[some (.ref l),some b,v]) ?_ (λi O H2 _ h=>by rw[h.1];erw[hl]) ?_ ?_]
  ·let(r,e1,_):=lP.get e0
   erw[Z,0,_,r,none,e0,e1,λm s hm=>absurd hm (Nat.not_lt_zero _),Z]
  ·rintro i x O H2 hx ⟨rfl,j,b,r,v,eb,er,hm,rfl⟩
   let(t,et,rt,bt):=lP.get hx;let(r2,CN,rb,bb):=lP.get eb;rw[er]at CN;cases CN;erw[_,Z,_,Z,x,b,t,r,Z,rt,rb,bt,bb,_,Z,?_];erw[gy (λhc=>?_) (λhc=>?_)]
   ·have cK:t<r:=jY hc
    erw[_,Z,?_];erw[Z,i,x,t,_,hx,et,λm s Ji es=>?_,Z];rcases Nat.lt_succ_iff_lt_or_eq.mp Ji with h|h
    ·erw[eM (Rat.le_of_lt cK) (hm m s h es)]
    ·subst h
     rw[et]at es;cases es;erw[si]
   ·have SD:¬t<r:=λz=>hc (bM z)
    erw[Z,j,b,r,_,eb,er,λm s Ji es=>?_,Z];rcases Nat.lt_succ_iff_lt_or_eq.mp Ji with h|h
    ·erw[hm m s h es]
    ·subst h
     rw[et]at es;cases es;erw[DG.mp SD]
  ·rintro O H2 ⟨rfl,j,b,r,v,eb,er,hm,rfl⟩
   erw[_,Z,k j b r eb er λs hs=>?_];let(m,hml,em):=VN.mp hs;erw[hm m s au (by rw[cB hml,em])]
inductive acp(K:aa)(vs:List V)(H:Hp)(Q:VK):Prop |mk (a:_)(b:_)(h0:vs=[.int a,.int b])(h1:b≠0)(h2:Wd b)(h3:∀v H',cg K H' v (Rat.divInt a b)->aF H H'->Q v H')
def vz(K:aa):Sp:=λvs H Q _=>acp K vs H Q
theorem P1:bp ["p","q"] ["p","q"] (aY G8):=bE aH
theorem a23(F:FA K mg "fraction" G8)(B:bK mg)(Co:aG P w K mg aw "is_whole" 1 (Ba K))(ui:aG P w K mg aw "lowest_terms" 2 vB):aG P w K mg aw "fraction" 3 (vz K):=by
 erw[F.has P1 (λvs H Q E h=>?_) (λ_ _ _ _ _ _=>dF λ_ _=>rfl) (λf aI A outer s H vs Q E hr h=>?_)]
 ·let(a,b,rfl,_):=h
  rfl
 ·let(a,b,rfl,hb,wb,k):=h
  have nd:=P1.nd;erw[_,(aD (bL (PW.pt (iU (dj (cO (pf Co hr (ao (pv 0) az)))) (jt (dj (cO (pf Co hr (ao (pv 1) az))))))) (aJ vR) bO) (aD (bL (bU (dW K Z hr.units) (pv 1) aB (bB _)) (aJ vR) bO) (aJ (aW (pf ui hr (ao (pv 0) (ao (pv 1) az))))))),?_];have iw:yU "int"=true:=by decide
  erw[_,Z,_,"int",Z,Z,_,Z,?_];rw[iw];erw[bh ?_];erw[_,Z,_,"int",Z,Z,_,Z,?_];rw[iw];erw[bh ?_];erw[_,Z,.inl #[_,_,Z,Z,_,Z,?_]];rw[cD hb];erw[bh ?_];erw[_,Z,_,Z,_,_,Z,hb,wb,λt H' nw=>k _ _ (Bp hb Z nw.at') nw.same]
end
end _a
namespace _a
open PySem PySem.Spec PyProof.Rows _L _r _l
section
def jw(rs:List Int)(r f j t:Int):ag:=.tuple [.tuple (rs.map PyData.int),.int r,.int f,.int j,.int t]
theorem gw(rs:List Int)(r f j t:Int):fk (jw rs r f j t)=true:=by simp[jw,fk,cJ,jT]
theorem nY{H:Hp}{v:V}{rs:List Int}{r f j t:Int}(h:RD K H v (jw rs r f j t)):∃a b,v= .ref a/\bc K H a [.ref b,.int r,.int f,.int j,.int t]/\bc K H b (rs.map V.int):=by let(a,xs,rfl,h1,h2):=h.cT;let(x1,r1,rfl,e1,h2):=h2.cons_inv;let(x2,r2,rfl,e2,h2):=h2.cons_inv;let(x3,r3,rfl,e3,h2):=h2.cons_inv;let(x4,r4,rfl,e4,h2):=h2.cons_inv;let(x5,r5,rfl,e5,h2):=h2.cons_inv;cases h2.nil_inv;cases e2.int_inv;cases e3.int_inv;cases e4.int_inv;cases e5.int_inv;let(b,ys,rfl,h3,h4):=e1.cT;rw[h4.fE]at h3;erw[a,b,Z,h1,h3]
structure qc(rs:List Int)(r f j t:Int):Prop where
 len:rs.length=2\/rs.length=3
 rl:∀z∈rs,1<=z/\z<=100
 r1:1<=r/\r<=50
 f1:1<=f/\f<=50
 j1:1<=j/\j<=50
 t1:1<=t/\t<=100
inductive acq(K:aa)(vs:List V)(H:Hp)(Q:VK):Prop |mk (p:_)(h0:vs=[.ref p])(h1:fG H p)(h2:∀v rs r f j t H',RD K H' v (jw rs r f j t)->qc rs r f j t->bI p H H'->Q v H')
def Ng(K:aa):Sp:=λvs H Q _=>acq K vs H Q
end
section
abbrev Itm:=Option (List Int × Int)
def itR(d:ag)(o:Itm):Prop:=(∃ns sp,d=du ns sp/\o=some (ns,sp))\/∃w x,d= .tuple [.str w,x]/\(w="wait"\/w="tool"\/w="mark")/\fk x=true/\o=none
theorem itR.no{d:ag}{o:Itm}(h:itR d o):fk d=true:=by
 rcases h with⟨ns,sp,rfl,_⟩|⟨w,x,rfl,_,h,_⟩
 ·erw[a47 _ _]
 ·simp[fk,cJ,h]
theorem S7{H:Hp}{v:V}{d:ag}{o:Itm}(h:RD K H v d)(i:itR d o):∃a w ys,v= .ref a/\bc K H a (.str w::ys)/\(PyData.eqv (.str w) (.str "line")=o.isSome)/\SeqAt.shaped (.str w)=true:=by
 rcases i with⟨ns,sp,rfl,rfl⟩|⟨w,x,rfl,hw,_,rfl⟩
 ·let(a,b,rfl,h1,_):=o8 h
  erw[a,_,_,Z,h1,(by show PyData.eqv (.str "line") (.str "line")=true;decide+kernel),aH]
 ·let(a,xs,rfl,h1,h2):=h.cT
  let(x1,r1,rfl,e1,h2):=h2.cons_inv;cases e1.str_inv;erw[a,w,r1,Z,h1,?_,?_]
  ·show PyData.eqv (.str w) (.str "line")=false
   rcases hw with rfl|rfl|rfl<;>decide+kernel
  ·rcases hw with rfl|rfl|rfl<;>decide+kernel
theorem a46:SeqAt.shaped (.str "line")=true:=by decide+kernel
theorem pA{d:ag}{ns:List Int}{sp:Int}(h:itR d (some (ns,sp))):d=du ns sp:=by
 rcases h with⟨mz,mi,e1,e2⟩|⟨_,_,_,_,_,e2⟩
 ·cases e2;erw[e1]
 ·cases e2
structure iB(ax:Nat)(ds:List ag)(os:List Itm):Prop where
 len:ds.length=os.length
 it:∀(i:Nat)(d:ag)(o:Itm),ds[i]? =some d->os[i]? =some o->itR d o
 ok:∀(i:Nat)(ns:List Int)(sp:Int),os[i]? =some (some (ns,sp))->fg ax 100 ns/\1<=sp/\sp<=20
theorem iB.nil{ax:Nat}:iB ax [] []:=#[Z,λi d o e=>by simp at e,λi ns sp e=>by simp at e]
theorem sY{α:Type}{xs:List α}{x y:α}{j:Nat}(e:(xs++[x])[j]? =some y):xs[j]? =some y\/(j=xs.length/\y=x):=by
 by_cases hj:j<xs.length
 ·rw[vg hj]at e;erw[.inl e]
 ·have pF:j=xs.length:=by
   have:=(dZ.mp e).1;rw[fH]at this;have:j<xs.length+1:=this
   lia
  rw[pF,xO (bV _),DL]at e;erw[.inr #[pF,(dQ e).symm]]
theorem iB.snoc{ax:Nat}{ds:List ag}{os:List Itm}{d:ag}{o:Itm}(h:iB ax ds os)(i:itR d o)(g:∀ns sp,o=some (ns,sp)->fg ax 100 ns/\1<=sp/\sp<=20):iB ax (ds++[d]) (os++[o]):=by
 have hl:=h.len;erw[by rw[fH,fH,h.len];rfl,λj d' o' e1 e2=>?_,λj ns sp e=>?_]
 ·rcases sY e1 with e1|⟨j1,rfl⟩
  ·rcases sY e2 with e2|⟨j2,rfl⟩
   ·erw[h.it j d' o' e1 e2]
   ·have:=(dZ.mp e1).1;lia
  ·rcases sY e2 with e2|⟨j2,rfl⟩
   ·have:=(dZ.mp e2).1;lia
   ·erw[i]
 ·rcases sY e with e|⟨_,e⟩
  ·erw[h.ok j ns sp e]
  ·erw[g ns sp e.symm]
theorem iB.no{ax:Nat}{ds:List ag}{os:List Itm}(h:iB ax ds os):cJ ds=true:=gX.mpr λd hd=>by let(i,hi):=vd.mp hd;have hl:=(dZ.mp hi).1;exact(h.it i d _ hi (cB (by rw[<-h.len];erw[hl]))).no
theorem iB.get{ax:Nat}{ds:List ag}{os:List Itm}(h:iB ax ds os){i:Nat}{d:ag}(e:ds[i]? =some d):∃o,os[i]? =some o/\itR d o:=by have hl:=(dZ.mp e).1;have e2:=cB (show i<os.length by rw[<-h.len];erw[hl]);erw[_,e2,h.it i d _ e e2]
inductive acE(K:aa)(vs:List V)(H:Hp)(Q:VK):Prop |mk (v:_)(d:_)(o:_)(h0:vs=[v])(h1:RD K H v d)(h2:itR d o)(h3:Q (.bl o.isSome) H)
def vC(K:aa):Sp:=λvs H Q _=>acE K vs H Q
theorem OQ:bp ["item"] ["item"] (aY FZ):=bE aH
theorem a1U(F:FA K mg "is_line" FZ)(B:bK mg):aG P w K mg aw "is_line" 1 (vC K):=by
 erw[F.has OQ (λvs H Q E h=>?_) (λ_ _ _ _ _ _=>dw λ_=>rfl) (λf aI A outer s H vs Q E hr h=>?_)]
 ·let(v,d,o,rfl,_):=h
  rfl
 ·let(v,d,o,rfl,ri,it,k):=h
  have nd:=OQ.nd;erw[_,(aJ (aW (fj (dW K Z hr.units) (px K (pv 0) aB) bf (bB _)))),?_];let(a,wd,ys,rfl,h1,ew,sw):=S7 ri it;erw[_,Z,.inr #[a,_,0,.str wd,Z,Z,h1,cL (eg 0) Z,.inr #[_,_,bT _,bT _,sw,a46,?_]]];rw[ew];erw[k]
theorem sP{H:Hp}:∀{xs:List V}{zs:List Str},aP K H xs (zs.map PyData.str)->xs=zs.map V.str |xs,[],h=>h.nil_inv |xs,n::ns,h=>by let(y,ys,rfl,h1,h2):=h.cons_inv;rw[h1.str_inv,sP h2];rfl
theorem ab9:jE.cps.toList.length=26:=by decide+kernel
end
section
theorem KS{α:Type}{xs:List α}{x:α}(h:xs.getLast? =some x):fb xs (-1)=some x:=by
 unfold fb kx;have hl:xs≠[]:=by intro e;rw[e]at h;cases h
 have h0:0<xs.length:=DP.mpr hl;rw[bo ay,bu au];rw[List.getLast?_eq_getElem?]at h;show xs[((-1:Int)+(xs.length:Int)).toNat]? =some x;have e:((-1:Int)+(xs.length:Int)).toNat=xs.length-1:=by lia
 rw[e];erw[h]
end
end _a
namespace _a
open PySem PySem.Spec PyProof.Rows _L _r
section
def Wi(ns:List Int):ag:=.tuple (ns.map λz=>fN (Rat.divInt z (_l.aK ns)))
theorem yx(r:Rat):fk (fN r)=true:=by simp[fN,fk,cJ]
theorem QM{α:Type}{f:α->ag}(h:∀a,fk (f a)=true)(l:List α):cJ (l.map f)=true:=gX.mpr λd hd=>by let(a,_,rfl):=dB.mp hd;erw[h a]
inductive abz(K:aa)(vs:List V)(H:Hp)(Q:VK):Prop |mk (v:_)(ns:_)(sp:_)(h0:vs=[v])(h1:RD K H v (du ns sp))(h2:fg ns.length 1000 ns)(h3:ns.length<=1000)(h4:∀v' H',RD K H' v' (Wi ns)->aF H H'->Q v' H')
def MO(K:aa):Sp:=λvs H Q _=>abz K vs H Q
theorem NO:bp ["line","lead"] ["line"] (aY EG):=bE aH
theorem a0J(F:FA K mg "ways_of" EG)(B:bK mg)(pD:aG P w K mg aw "lead_of" 1 (sX K))(qX:aG P w K mg aw "fraction" 3 (vz K)):aG P w K mg aw "ways_of" 4 (MO K):=by
 erw[F.has NO (λvs H Q E h=>?_) (λ_ _ _ _ _ _=>dw λ_=>rfl) (λf aI A outer s H vs Q E hr h=>?_)]
 ·let(v,ns,sp,rfl,_):=h
  rfl
 ·let(v,ns,sp,rfl,rd,ok,hz,k):=h
  have nd:=NO.nd;erw[_,(aD (pS 1 nd (pf pD hr (ao (pv 0) az))) (aJ (aW (cI (x:="tuple") (kh K Z) Z (B.at "tuple") j6 (ao (fi (N:=["step","lead"]) (js:=[none,some 1]) rfl rfl rfl (ko K rfl (px K (pv 0) aB)) (λ_ _ _ _ _=>(bj 0 (fZ ay))) (λ_ _ _ _ _=>dJ) (λ_ _ _ _ _=>(pf qX hr (ao (pv 0) (ao (pv 1) az))))) az))))),?_];erw[_,Z,v,ns,sp,Z,rd,ok.ne,hz,λH1 s1=>?_];let(a,b,rfl,ha,hb):=o8 (RD.mono s1 _ rd);let(lp,lm):=ok.lead;erw[_,Z,.inr #[a,_,1,.ref b,Z,Z,ha,Z,b,Z,#[_,hb],λD H0 nw=>?_]];erw[pW (K:=K) (xs:=ns.map V.int) (ds:=ns.map λz=>fN (Rat.divInt z (_l.aK ns))) _ hb nw (by simp) (by simpa using hz) (QM (λ_=>yx _) _) ?_ ?_]
  ·intro i x d H2 Q' ex ed s2 hq
   let(n,en,rfl):=kR ed;cases wC ex en;erw[_,Z,_,Z,n,_,Z,bR,j9 (n:=20) bR ay,λv3 H3 r3 s3=>?_];erw[hq _ _ s3 r3.rd]
  ·intro H' ys s2 d2 r2
   erw[D,_,Z,.inl #[aE.of d2,λt H4 n4=>?_]];erw[k _ _ (gj (bc.of n4.at') (aP.mono n4.same _ r2)) (s1.trans (s2.trans n4.same))]
end
end _a
namespace _a
open PySem PySem.Spec PyProof.Rows _L
section
end
section
theorem qv:jK "tuple" "tuple"=true:=by decide
theorem Wg(d:ag):(∃i,d= .int i/\yU (m9 d)=true)\/(yU (m9 d)=false/\∀i,d≠ .int i):=by cases d with |int i=>erw[.inl #[i,Z,by simp[m9];decide]] |_=>erw[.inr #[by simp[m9];decide,λ_ z=>nomatch z]]
theorem xU(d:ag):(∃ds,d= .tuple ds)\/(jK (m9 d) "tuple"=false/\∀ds,d≠ .tuple ds):=by cases d with |tuple ds=>erw[.inl #[ds,Z]] |_=>erw[.inr #[by simp[m9];decide,λ_ z=>nomatch z]]
def cZ(lo hi:Int):ag->Bool | .int i=>decide (lo<=i)&&decide (i<=hi) |_=>false
theorem a4O{lo hi:Int}{d:ag}(h:∀i,d≠ .int i):cZ lo hi d=false:=by cases d<;>first|rfl|erw[absurd rfl (h _)]
inductive abA(K:aa)(vs:List V)(H:Hp)(Q:VK):Prop |mk (v:_)(d:_)(lo:_)(hi:_)(h0:vs=[v,.int lo,.int hi])(h1:RD K H v d)(h2:Q (.bl (cZ lo hi d)) H)
def mh(K:aa):Sp:=λvs H Q _=>abA K vs H Q
theorem NP:bp ["thing","low","high"] ["thing","low","high"] (aY EH):=bE aH
theorem a0I(F:FA K mg "is_whole_within" EH)(B:bK mg)(Co:aG P w K mg aw "is_whole" 1 (Ba K)):aG P w K mg aw "is_whole_within" 2 (mh K):=by
 erw[F.has NP (λvs H Q E h=>?_) (λ_ _ _ _ _ _=>kX λ_ _ _=>rfl) (λf aI A outer s H vs Q E hr h=>?_)]
 ·let(v,d,lo,hi,rfl,_):=h
  rfl
 ·let(v,d,lo,hi,rfl,rd,k):=h
  have nd:=NP.nd;erw[_,(aJ (aW (lF (pf Co hr (ao (pv 0) az)) (mx (a0c yC yC (pv 1) (pv 0) (pv 2)))))),?_];erw[_,Z,_,_,Z,rd.ty,_,Z,?_];rcases Wg d with⟨i,rfl,e⟩|⟨e,hn⟩
  ·cases rd.int_inv
   rw[e];erw[bF ?_];have k:Q (.bl (decide (lo<=i)&&decide (i<=hi))) H:=k;erw[_,Z,_,Z,_,_,Z,Z,_,Z,?_];erw[gy (λhc=>?_) (λhc=>?_)]
   ·have kU:decide (lo<=i)=true:=hc
    rw[kU,jl]at k;erw[_,Z,_,_,Z,Z,k]
   ·have kU:decide (lo<=i)=false:=DU.mpr hc
    rw[kU,jm]at k;erw[k]
  ·rw[e]
   erw[bh ?_];rw[a4O hn]at k;erw[k]
end
end _a
namespace _a
open PySem PySem.Spec PyProof.Rows _L _r _l _C
section
theorem W7{ns ms:List Int}{i:Nat}{a b:Int}(h1:ns[i]? =some a)(h2:ms[i]? =some b):(gm ns ms)[i]? =some (a*(aK ms:Int)-b*(aK ns:Int)):=by unfold gm;rw[cj,(Ah (z:=(a,b))).mpr #[h1,h2]];rfl
def zJ(j:Int)(ns ms:List Int):ag:=if aK (gm ns ms)=0 then .none else fN (Rat.divInt ((j*aK ns*aK ms)^2) ((aK (gm ns ms):Int)^2))
inductive acR(K:aa)(vs:List V)(H:Hp)(Q:VK):Prop |mk (v:_)(v1:_)(v2:_)(rs:_)(r:_)(f:_)(j:_)(t:_)(ns:_)(ms:_)(fu:_)(jM:_)(h0:vs=[v,v1,v2])(h1:RD K H v (jw rs r f j t))(h2:RD K H v1 (du ns fu))(h3:RD K H v2 (du ms jM))(h4:fg ns.length 1000 ns)(h5:fg ns.length 1000 ms)(h6:ns.length<=1000)(h7:1<=j)(h8:j<=50)(h9:∀v' H',RD K H' v' (zJ j ns ms)->aF H H'->Q v' H')
def Ey(K:aa):Sp:=λvs H Q _=>acR K vs H Q
theorem zip2{ns ms:List Int}(h:ms.length=ns.length){i:Nat}{x y:V}(ex:(ns.map V.int)[i]? =some x)(ey:(ms.map V.int)[i]? =some y):∃a b,ns[i]? =some a/\ms[i]? =some b/\x= .int a/\y= .int b:=by rw[cj]at ex ey;cases e1:ns[i]? with |none=>rw[e1]at ex;cases ex |some a=>cases e2:ms[i]? with |none=>rw[e2]at ey;cases ey |some b=>rw[e1]at ex;rw[e2]at ey;erw[a,b,Z,Z,(dQ ex).symm,(dQ ey).symm]
inductive abD(K:aa)(vs:List V)(H:Hp)(Q:VK):Prop |mk (v1:_)(v2:_)(ns:_)(ms:_)(fu:_)(jM:_)(h0:vs=[v1,v2])(h1:RD K H v1 (du ns fu))(h2:RD K H v2 (du ms jM))(h3:fg ns.length 1000 ns)(h4:fg ns.length 1000 ms)(h5:ns.length<=1000)(h6:∀v' H',cg K H' v' (Rat.divInt (aK (gm ns ms)) ((aK ns:Int)*aK ms))->aF H H'->Q v' H')
def MQ(K:aa):Sp:=λvs H Q _=>abD K vs H Q
theorem NQ:bp ["one","other","greatest","way","new_way","p","q","difference"] ["one","other"] (aY EI):=bE aH
theorem a0K(F:FA K mg "greatest_turn" EI)(B:bK mg)(Ss:aG P w K mg aw "ways_of" 4 (MO K))(a5E:aG P w K mg aw "minus" 3 (sW (·-·) K))(Jo:aG P w K mg aw "is_less" 1 (B8 K)):aG P w K mg aw "greatest_turn" 5 (MQ K):=by
 erw[F.has NQ (λvs H Q E h=>?_) (λ_ _ _ _ _ _=>dF λ_ _=>rfl) (λf aI A outer s H vs Q E hr h=>?_)]
 ·let(v1,v2,ns,ms,fu,jM,rfl,_):=h
  rfl
 ·let(v1,v2,ns,ms,fu,jM,rfl,GU,vN,jS,gU,hz,k):=h
  have nd:=NQ.nd;let(lp1,lm1):=jS.lead;let(lp2,lm2):=gU.lead;have Sk:ms.length<=1000:=by rw[gU.len];erw[hz]
  have a2p:fg ms.length 1000 ms:=#[Z,gU.bd,gU.nz];have cb:=Kr (λz hz=>by have:=jS.bd z hz;lia) (λz hz=>by have:=gU.bd z hz;lia) (ns:=ns) (ms:=ms);have L0:(0:Int)<(aK ns:Int)*aK ms:=j8 au au;have Lb:((aK ns:Int)*aK ms).natAbs<=1000*1000:=nX au au;have aeQ:(gm ns ms).length=ns.length:=by simp[gm,gU.len]
  have SR:∀c:Int,c.natAbs<=2000000->Bd 2000 (Rat.divInt c ((aK ns:Int)*aK ms)):=λc hc=>(lH (n:=30) au au au).mono ay;erw[_,(aD (pS 2 nd (iH (ao aB (ao aB az)))) (aD (mq jI Z (lE K Z false false Z (B.at "zip") (ao (pf Ss hr (ao (pv 0) az)) (ao (pf Ss hr (ao (pv 1) az)) az))) (eB K rfl (n:=2) rfl (bS (bj 3 nd) (bS (bj 4 nd) ek))) (aD (fh (pf a5E hr (ao (pv 4) (ao (pv 3) az))) (eB K Z (n:=2) Z (bS (bj 5 nd) (bS (bj 6 nd) ek)))) (aD (pS 7 nd (iH (ao (fK (x:="abs") pX Z (B.at "abs") sA (ao (pv 5) az)) (ao (pv 6) az)))) (aJ (bL (cO (pf Jo hr (ao (pv 2) (ao (pv 7) az)))) (aJ (pS 2 nd (pv 7))) bO))))) (aJ (aW (pv 2))))),?_];erw[df Z,λg0 H1 n1=>?_];erw[_,Z,v1,ns,fu,Z,RD.mono n1.same _ GU,jS,hz,λw1 H2 r2 s2=>?_];have t2:=n1.same.trans s2;erw[_,Z,v2,ms,jM,Z,RD.mono t2 _ vN,a2p,Sk,λw2 H3 r3 s3=>?_];have t3:=t2.trans s3;let(c1,xs1,rfl,h1,q1):=(RD.mono s3 _ r2).cT;let(c2,xs2,rfl,h2,q2):=r3.cT;have l1:=q1.length;have l2:=q2.length;rw[bW]at l1 l2;erw[c1,c2,Z,#[_,h1],#[_,h2],?_];erw[Ts (K:=K) (b1:=false) (b2:=false) (xs:=xs1) (ys:=xs2) ns.length (by rw[l1,l2,gU.len];lia) (λi O H4=>aF H3 H4/\∃g u1 u2 u3 u4 u5,cg K H4 g (Rat.divInt (qW (gm ns ms) i) ((aK ns:Int)*aK ms))/\O=[some v1,some v2,some g,u1,u2,u3,u4,u5]) ?_ (λi O H4 _ h=>#[h1.go h.1,h2.go h.1]) ?_ ?_]
  ·erw[aF.refl _,.ref g0,none,none,none,none,none,#[g0,Z,?_],Z]
   have e0:Rat.divInt ((qW (gm ns ms) 0:Nat):Int) ((aK ns:Int)*aK ms)=0:=by show Rat.divInt 0 _=0;erw[Rat.zero_divInt _]
   rw[e0];erw[bc.of (s3 _ _ (s2 _ _ n1.at'))]
  ·rintro i x y O H4 ex ey ⟨s4,g,u1,u2,u3,u4,u5,rg,rfl⟩ T H5 n5
   let(d1,e1,rx):=q1.get' i ex;let(d2,e2,ry):=q2.get' i ey;let(a,ea,rfl):=kR e1;let(b,eb,rfl):=kR e2;have qa:=jS.bd a (gf ea);have qb:=gU.bd b (gf eb);have cz:=W7 ea eb;have czb:=cb _ (gf cz);have t5:=s4.trans n5.same;erw[T,_,Z,bc.of n5.at',Z,_,_,Z,_,_,Z,Z,?_];have qB:∀{H':Hp}{v:V}{r:Rat},RD K H' v (fN r)->cg K H' v r:=λ{H' v r} h=>by let(p,xs,rfl,h1,h2):=h.cT;have:=h2.fE (ns:=[r.num,r.den]);subst this;erw[p,Z,h1]
   erw[_,Z,_,Z,y,x,_,_,Z,qB (RD.mono t5 _ ry),qB (RD.mono t5 _ rx),(lH (n:=30) au au au).mono ay,(lH (n:=30) au au au).mono ay,λv6 H6 r6 s6=>?_];have ed:Rat.divInt b (aK ms)-Rat.divInt a (aK ns)=Rat.divInt (b*aK ns-a*aK ms) ((aK ns:Int)*aK ms):=Xx au au;have r6:cg K H6 v6 (Rat.divInt b (aK ms)-Rat.divInt a (aK ns)):=r6;rw[ed]at r6;let(p6,rfl,h6):=r6;erw[p6,_,Z,h6,Z,_,_,Z,_,_,Z,Z,?_];erw[_,Z,_,Z,_,Z,df Z,λdd H7 n7=>?_];have Gv:=s6.trans n7.same;have rD:cg K H7 (.ref dd) (Rat.divInt (((a*(aK ms:Int)-b*(aK ns:Int)).natAbs:Nat):Int) ((aK ns:Int)*aK ms)):=by
    have e:Rat.divInt (((a*(aK ms:Int)-b*(aK ns:Int)).natAbs:Nat):Int) ((aK ns:Int)*aK ms)=uM (Rat.divInt (b*aK ns-a*aK ms) ((aK ns:Int)*aK ms)):=by rw[ab5 L0,zV];congr 1;lia
    rw[e];erw[dd,Z,?_];rw[ab4,ab6];erw[bc.of n7.at']
   have rG:cg K H7 g _:=(rg.go n5.same).go Gv;have hG:qW (gm ns ms) i<=2000000:=pk λz hz=>cb z (xI hz);erw[_,Z,_,Z,g,.ref dd,_,_,Z,rG,rD,SR _ au,SR _ au,_,Z,?_];have hs:=a61 cz;erw[gy (λhc=>?_) (λhc=>?_)]
   ·have cK:=(Um L0).mp (jY hc)
    erw[_,Z,?_];erw[t5.trans Gv,_,_,_,_,_,_,?_,Z];rw[hs,Nat.max_eq_right au];erw[rD]
   ·have Jq:¬_:=λz=>hc (bM ((Um L0).mpr z))
    erw[t5.trans Gv,_,_,_,_,_,_,?_,Z];rw[hs,Nat.max_eq_left au];erw[rG]
  ·rintro O H4 ⟨s4,g,u1,u2,u3,u4,u5,rg,rfl⟩
   erw[_,Z,k _ _ ?_ (t3.trans s4)];have:qW (gm ns ms) ns.length=aK (gm ns ms):=by unfold qW;rw[vc au]
   rw[this]at rg;erw[rg]
theorem P9:bp ["machine","one","other","jump","p","q"] ["machine","one","other"] (aY Gg):=bE aH
theorem a2a(F:FA K mg "corner_square" Gg)(B:bK mg)(a65:aG P w K mg aw "greatest_turn" 5 (MQ K))(qX:aG P w K mg aw "fraction" 3 (vz K)):aG P w K mg aw "corner_square" 6 (Ey K):=by
 erw[F.has P9 (λvs H Q E h=>?_) (λ_ _ _ _ _ _=>kX λ_ _ _=>rfl) (λf aI A outer s H vs Q E hr h=>?_)]
 ·let(v,v1,v2,rs,r,f',j,t,ns,ms,fu,jM,rfl,_):=h
  rfl
 ·let(v,v1,v2,rs,r,f',j,t,ns,ms,fu,jM,rfl,rd,GU,vN,jS,gU,hz,j1,j2,k):=h
  have nd:=P9.nd;let(lp1,lm1):=jS.lead;let(lp2,lm2):=gU.lead;have L0:(0:Int)<(aK ns:Int)*aK ms:=j8 au au;have Lb:((aK ns:Int)*aK ms).natAbs<=1000*1000:=nX au au;have cb:=Kr (λz hz=>by have:=jS.bd z hz;lia) (λz hz=>by have:=gU.bd z hz;lia) (ns:=ns) (ms:=ms);have hH:=pk cb;erw[_,(aD (pS 3 nd (px K (pv 0) aB)) (aD (fh (pf a65 hr (ao (pv 1) (ao (pv 2) az))) (eB K Z (n:=2) Z (bS (bj 4 nd) (bS (bj 5 nd) ek)))) (aD (bL (bU (dW K Z hr.units) (pv 4) aB (bB _)) (aJ (aW gT)) bO) (aJ (aW (pf qX hr (ao (aQ cc (aQ cc (aQ cc (pv 3) (pv 3)) (pv 5)) (pv 5)) (ao (aQ cc (pv 4) (pv 4)) az)))))))),?_];let(am,bm,rfl,jd,jV):=nY rd;erw[_,Z,.inr #[am,_,3,.int j,Z,Z,jd,Z,?_]];erw[_,Z,_,Z,v1,v2,ns,ms,fu,jM,Z,GU,vN,jS,gU,hz,λv3 H3 r3 s3=>?_];obtain⟨KL⟩:Nonempty (Bd 30 (Rat.divInt (aK (gm ns ms)) ((aK ns:Int)*aK ms))):=⟨lH (n:=30) au au au⟩;have en:=sf (Rat.divInt (aK (gm ns ms)) ((aK ns:Int)*aK ms));obtain⟨R,hR⟩:∃R,Rat.divInt (aK (gm ns ms)) ((aK ns:Int)*aK ms)=R:=#[_,Z];rw[hR]at r3 KL en;have dp:=den_pos R;have zI:R.num*((aK ns:Int)*aK ms)=aK (gm ns ms)*R.den:=by rw[<-hR]at en;have:=(Rat.divInt_eq_divInt_iff (by rw[hR];lia) au).mp en;rw[hR]at this;erw[this]
  have nb:=KL.num;have db:=KL.den;let(p3,rfl,h3):=r3;erw[p3,_,Z,h3,Z,_,_,Z,_,_,Z,Z,?_];erw[_,Z,.inl #[_,_,Z,Z,_,Z,?_]];erw[gy (λhc=>?_) (λhc=>?_)]
  ·have h0:R.num=0:=by simpa using hc
   have hl:aK (gm ns ms)=0:=by
    rw[h0,Aj]at zI;rcases Int.mul_eq_zero.mp zI.symm with h|h
    ·lia
    ·lia
   erw[k .bD H3 ?_ s3];unfold zJ;rw[bu hl];erw[yw]
  ·have h0:R.num≠0:=by simpa using hc
   have hl:aK (gm ns ms)≠0:=by
    intro z;rw[z]at zI;have:R.num*((aK ns:Int)*aK ms)=0:=by rw[zI];erw[Aj _]
    rcases Int.mul_eq_zero.mp this with h|h
    ·erw[h0 h]
    ·lia
   have m1:(j*j).natAbs<=50*50:=nX au au;have pK:(2:Nat)^64=18446744073709551616:=by decide
   erw[_,Z,_,Z,_,_,Z,Z,.of_left (dc au au),_,Z,_,_,Z,Z,.of_left (dc au au),_,Z,_,_,Z,Z,.of_right (dc au au),?_];erw[_,Z,_,Z,_,_,Z,Z,.of_left (dc au au),?_];erw[_,_,Z,LP h0 h0,?_,λv4 H4 r4 s4=>?_]
   ·erw[j9 (n:=60) ?_ ay]
    rw[hZ];erw[mE (n:=30) (m:=30) nb nb]
   ·erw[k _ _ ?_ (s3.trans s4)]
    unfold zJ;rw[bo hl];have e:=aa8 (j:=j) (p:=R.num) (q:=R.den) (h:=aK (gm ns ms)) (L:=(aK ns:Int)*aK ms) h0 au zI;rw[e,<-sF]at r4;erw[r4.rd]
def nO (d:ag):Bool:=cZ 10 200 d
inductive abZ(K:aa)(vs:List V)(H:Hp)(Q:VK):Prop |mk (v:_)(d:_)(h0:vs=[v])(h1:RD K H v d)(h2:Q (.bl (nO d)) H)
def AY(K:aa):Sp:=λvs H Q _=>abZ K vs H Q
theorem OP:bp ["thing"] ["thing"] (aY FY):=bE aH
theorem a1T(F:FA K mg "is_rate" FY)(B:bK mg)(a6L:GV mg "LEAST_RATE" (.int 10))(a6M:GV mg "GREATEST_RATE" (.int 200))(iV:aG P w K mg aw "is_whole_within" 2 (mh K)):aG P w K mg aw "is_rate" 3 (AY K):=by
 erw[F.has OP (λvs H Q E h=>?_) (λ_ _ _ _ _ _=>dw λ_=>rfl) (λf aI A outer s H vs Q E hr h=>?_)]
 ·let(v,d,rfl,_):=h
  rfl
 ·let(v,d,rfl,rd,k):=h
  have nd:=OP.nd;erw[_,(aJ (aW (pf iV hr (ao (pv 0) (ao (fX (x:="LEAST_RATE") Z a6L) (ao (fX (x:="GREATEST_RATE") Z a6M) az)))))),?_];erw[_,Z,v,d,10,200,Z,rd,k]
inductive abF(K:aa)(vs:List V)(H:Hp)(Q:VK):Prop |mk (v:_)(ns:_)(sp:_)(r:_)(h0:vs=[v,.int r])(h1:RD K H v (du ns sp))(h2:1<=sp)(h3:sp<=20)(h4:10<=r)(h5:r<=200)(h6:∀v' H',cg K H' v' (Rat.divInt ((sp*r)^2) 10000)->aF H H'->Q v' H')
def AW(K:aa):Sp:=λvs H Q _=>abF K vs H Q
theorem XW(a b:Int):a*a*b*b=(a*b)^2:=by rw[gC,gC,nJ,m7];ac_rfl
theorem Zn{r:Int}(h1:10<=r)(h2:r<=200):nO (.int r)=true:=by show(decide (10<=r)&&decide (r<=200))=true;rw[bM h1,bM h2];rfl
theorem NS:bp ["line","rate","speed"] ["line","rate"] (aY EK):=bE aH
theorem a0M(F:FA K mg "top_square" EK)(B:bK mg)(Jn:aG P w K mg aw "is_rate" 3 (AY K))(qX:aG P w K mg aw "fraction" 3 (vz K)):aG P w K mg aw "top_square" 4 (AW K):=by
 erw[F.has NS (λvs H Q E h=>?_) (λ_ _ _ _ _ _=>dF λ_ _=>rfl) (λf aI A outer s H vs Q E hr h=>?_)]
 ·let(v,ns,sp,r,rfl,_):=h
  rfl
 ·let(v,ns,sp,r,rfl,rd,s1,s2,r1,r2,k):=h
  have nd:=NS.nd;erw[_,(aD (bL (dj (cO (pf Jn hr (ao (pv 1) az)))) (aJ vR) bO) (aD (pS 2 nd (px K (pv 0) aB)) (aJ (aW (pf qX hr (ao (aQ cc (aQ cc (aQ cc (pv 2) (pv 2)) (pv 1)) (pv 1)) (ao (aQ cc aB aB) az))))))),?_];erw[_,Z,_,.int r,Z,fz r,_,Z,?_];rw[Zn r1 r2];erw[bh ?_];let(a,b,rfl,ha,hb):=o8 rd;erw[_,Z,.inr #[a,_,2,.int sp,Z,Z,ha,Z,?_]];have m1:(sp*sp).natAbs<=20*20:=by rw[hZ];erw[qk au au]
  erw[_,Z,_,Z,_,_,Z,Z,.of_left (dc au au),_,Z,_,_,Z,Z,.of_left (dc au au),_,Z,_,_,Z,Z,.of_right (dc au au),?_];erw[_,_,Z,Z,.of_left (dc ay ay),?_];erw[_,_,Z,ay,j9 (n:=20) ay ay,λv' H' r' s'=>k v' H' ?_ s'];rw[XW]at r';erw[r']
end
end _a
namespace _a
open PySem PySem.Spec PyProof.Rows _L _r _l _C _P
open _O (topR cornO mnO betR atO ownF leadF ownL OkI OkIs)
section
theorem XZ(n:Nat)(h:n<=1000):n<sizeLine:=Af h ay
theorem qB{H:Hp}{v:V}{r:Rat}(h:RD K H v (fN r)):cg K H v r:=by let(p,xs,rfl,h1,h2):=h.cT;have:=h2.fE (ns:=[r.num,r.den]);subst this;erw[p,Z,h1]
theorem fg.up{ax:Nat}{ns:List Int}(h:fg ax 100 ns):fg ns.length 1000 ns:=#[Z,λz hz=>by have:=h.bd z hz;lia,h.nz]
theorem iB.BF{ax:Nat}{ds:List ag}{os:List Itm}(h:iB ax ds os):OkIs os:=λi ns sp e=>by unfold atO at e;cases ho:os[i]? with |none=>rw[ho]at e;cases e |some o=>rw[ho]at e;have e':o=some (ns,sp):=e;subst e';let(a,b,c):=h.ok i ns sp ho;erw[a.bd,b,c]
theorem yI{H:Hp}{a:Addr}(h:bc K H a [.int 0,.int 1]):cg K H (.ref a) 0:=#[a,Z,h]
theorem aaa(j:Int)(ns ms:List Int):zJ j ns ms=match cornO j ns ms with|none=>.none|some c=>fN c:=by unfold zJ cornO;split<;>rfl
inductive acS(K:aa)(vs:List V)(H:Hp)(Q:VK):Prop |mk (m:_)(v1:_)(v2:_)(aA:_)(rs:_)(r:_)(f:_)(j:_)(t:_)(d1:_)(d2:_)(o1:_)(o2:_)(ax:_)(h0:vs=[m,v1,v2,.int aA])(h1:RD K H m (jw rs r f j t))(h2:1<=j)(h3:j<=50)(h4:RD K H v1 d1)(h5:RD K H v2 d2)(h6:itR d1 o1)(h7:itR d2 o2)(h8:(∀ns sp,o1=some (ns,sp)->fg ax 100 ns/\1<=sp/\sp<=20))(h9:(∀ns sp,o2=some (ns,sp)->fg ax 100 ns/\1<=sp/\sp<=20))(T9:ax<=100)(T7:10<=aA)(zw:aA<=200)(T5:∀v H',cg K H' v (betR j aA o1 o2)->aF H H'->Q v H')
def Ez(K:aa):Sp:=λvs H Q _=>acS K vs H Q
theorem Pc:bp ["machine","one","other","rate","squares","corner"] ["machine","one","other","rate"] (aY Gi):=bE aH
theorem a2c(F:FA K mg "bound_between" Gi)(B:bK mg)(gN:GT K mg "NOUGHT" [.int 0,.int 1])(ou:aG P w K mg aw "is_line" 1 (vC K))(Cc:aG P w K mg aw "top_square" 4 (AW K))(a6m:aG P w K mg aw "corner_square" 6 (Ey K))(wK:aG P w K mg aw "least" 2 (oW K)):aG P w K mg aw "bound_between" 7 (Ez K):=by
 let(aN,pJ,qy):=gN;erw[F.has Pc (λvs H Q E h=>?_) (λ_ _ _ _ _ _=>xi λ_ _ _ _=>rfl) (λf aI A outer s H vs Q E hr h=>?_)]
 ·let(m,v1,v2,aA,rs,r,f,j,t,d1,d2,o1,o2,ax,rfl,_):=h
  rfl
 ·let(m,v1,v2,aA,rs,r,f,j,t,d1,d2,o1,o2,ax,rfl,rm,j1,j2,r1,r2,i1,i2,k1,k2,SS,dM,eF,k):=h
  have nd:=Pc.nd;erw[_,(aD (bL (PW.pt (iU (dj (cO (pf ou hr (ao (pv 1) az)))) (jt (dj (cO (pf ou hr (ao (pv 2) az))))))) (aJ (aW (fX (x:="NOUGHT") Z pJ))) bO) (aD (pS 4 nd (fA (ao (pf Cc hr (ao (pv 1) (ao (pv 3) az))) (ao (pf Cc hr (ao (pv 2) (ao (pv 3) az))) az)))) (aD (pS 5 nd (pf a6m hr (ao (pv 0) (ao (pv 1) (ao (pv 2) az))))) (aD (ig (bL (bU Hv (pv 5) gT (bB _)) (aJ (mr (tP K Z (pv 4) (ao (pv 5) az)))) bO)) (aJ (aW (pf wK hr (ao (pv 4) az)))))))),?_];erw[_,Z,v1,d1,o1,Z,r1,i1,_,Z,?_];cases o1 with |none=>erw[bF (bF ?_)];have:=k _ H (yI (qy H)) (aF.refl _);erw[this] |some q1=>let(ns,sp):=q1;erw[bh ?_];erw[_,Z,v2,d2,o2,Z,r2,i2,_,Z,?_];cases o2 with |none=>erw[bF ?_];erw[k _ H (yI (qy H)) (aF.refl _)] |some q2=>let(ms,sq):=q2;erw[bh ?_];have e1:=pA i1;have e2:=pA i2;subst e1 e2;let(jS,a1,a2):=k1 ns sp rfl;let(gU,b1,b2):=k2 ms sq rfl;erw[_,Z,_,Z,v1,ns,sp,aA,Z,r1,a1,a2,dM,eF,λt1 H1 YI s1=>?_];erw[_,Z,_,Z,v2,ms,sq,aA,Z,RD.mono s1 _ r2,b1,b2,dM,eF,λt2 H2 YH s2=>?_];erw[df Z,λl H3 n3=>?_];have t3:=s1.trans (s2.trans n3.same);have yE:fg ns.length 1000 ms:=#[by rw[jS.len,gU.len],gU.up.bd,gU.nz];erw[_,Z,_,Z,_,Z,m,v1,v2,rs,r,f,j,t,ns,ms,sp,sq,Z,RD.mono t3 _ rm,RD.mono t3 _ r1,RD.mono t3 _ r2,jS.up,yE,by rw[jS.len];lia,j1,j2,λc H4 rc s4=>?_];have T1:Bd 2000 (topR aA sp):=(_O.AM a1 a2 dM eF).mono ay;have T2:Bd 2000 (topR aA sq):=(_O.AM b1 b2 dM eF).mono ay;have R1:cg K H4 t1 (topR aA sp):=((YI.go s2).go n3.same).go s4;have R2:cg K H4 t2 (topR aA sq):=(YH.go n3.same).go s4;have t4:=t3.trans s4;rw[aaa]at rc;cases hc:cornO j ns ms with
   |none=>
    rw[hc]at rc;cases rc.HW;erw[λO H5=>H5=H4/\O=[some m,some v1,some v2,some (.int aA),some (.ref l),some .bD],?_,?_]
    ·erw[_,Z,Z,_,Z,bh ?_]
     erw[Z,Z]
    rintro O H5 ⟨rfl,rfl⟩;erw[_,Z,l,[t1,t2],[topR aA sp,topR aA sq],Z,aE.of (s4 _ _ n3.at'),#[R1,T1,R2,T2,trivial],by simp,λi v q e1 e2 hq=>?_];have yZ:betR j aA (some (ns,sp)) (some (ms,sq))=q:=by
     show mnO (mn _ _) (cornO j ns ms)=q;rw[hc];erw[yR ?_ (hq _ (by simp)) (hq _ (by simp))]
     match i,e2 with |0,e2=>cases e2;erw[.inl rfl] |1,e2=>cases e2;erw[.inr rfl]
    erw[k v _ ?_ t4];rw[yZ]
    match i,e1,e2 with |0,e1,e2=>cases e1;cases e2;erw[R1] |1,e1,e2=>cases e1;cases e2;erw[R2]
   |some cq=>
    rw[hc]at rc;have Rc:cg K H4 c cq:=qB rc;have Tc:Bd 2000 cq:=(_O.Uz j1 j2 jS.bd gU.bd hc).mono ay;have rJ:=s4 _ _ n3.at';have tU:iX H4 (_L.upd H4 l (.lst ([t1,t2]++[c]))):=.vq rJ;erw[λO H5=>H5=_L.upd H4 l (.lst ([t1,t2]++[c]))/\O=[some m,some v1,some v2,some (.int aA),some (.ref l),some c],?_,?_]
    ·let(pc,rfl,_):=id Rc
     erw[_,Z,Z,_,Z,bF ?_];erw[_,Z,.inl #[Z,_,aE.of rJ],_,Z,l,[t1,t2],_,Z,Z,rJ,XZ _ (LJ Z),?_];erw[Z,Z]
    rintro O H5 ⟨rfl,rfl⟩;have up:∀{v:V}{q:Rat},cg K H4 v q->cg K (_L.upd H4 l (.lst ([t1,t2]++[c]))) v q:=λ{v q} h=>qB (RD.t tU _ (yx q) h.rd);erw[_,Z,l,[t1,t2,c],[topR aA sp,topR aA sq,cq],Z,aE.of bQ,#[up R1,T1,up R2,T2,up Rc,Tc,trivial],by simp,λi v q e1 e2 hq=>?_];have yZ:betR j aA (some (ns,sp)) (some (ms,sq))=q:=by
     show mnO (mn _ _) (cornO j ns ms)=q;rw[hc];show mn (mn _ _) cq=q;have h1:=hq _ (show topR aA sp∈[topR aA sp,topR aA sq,cq] by simp);have h2:=hq _ (show topR aA sq∈[topR aA sp,topR aA sq,cq] by simp);have h3:=hq _ (show cq∈[topR aA sp,topR aA sq,cq] by simp);erw[yR ?_ (o9 h1 h2) h3]
     match i,e2 with |0,e2=>cases e2;erw[.inl (yR (.inl rfl) h1 h2).symm] |1,e2=>cases e2;erw[.inl (yR (.inr rfl) h1 h2).symm] |2,e2=>cases e2;erw[.inr rfl]
    have sU:aF H (_L.upd H4 l (.lst ([t1,t2]++[c]))):=λb o e=>by have h0:H2 l=none:=n3.no;have e2:=s2 b o (s1 b o e);rw[aU (iL e2 h0)];erw[t4 b o e]
    erw[k v _ ?_ sU];rw[yZ]
    match i,e1,e2 with |0,e1,e2=>cases e1;cases e2;erw[up R1] |1,e1,e2=>cases e1;cases e2;erw[up R2] |2,e1,e2=>cases e1;cases e2;erw[up Rc]
end
section
theorem QL(qs:List Rat):cJ (qs.map fN)=true:=QM yx qs
theorem aP.Yc{H:Hp}{l:Addr}{ys:List V}{y:V}{ds:List ag}{d:ag}{i:Nat}(dl:H l=some (.lst ys))(r:aP K H ys ds)(rd:RD K H y d)(n1:cJ ds=true)(n2:fk d=true):aP K (_L.upd H l (.lst (ys.set i y))) (ys.set i y) (ds.set i d):=by have t:iX H (_L.upd H l (.lst (ys.set i y))):=.vq dl;have r':=aP.t t _ n1 r;have Q0:=RD.t t _ n2 rd;clear r rd dl t;generalize _L.upd H l (.lst (ys.set i y))=H' at r' Q0;induction ds generalizing ys i with |nil=>cases r'.nil_inv;erw[dI] |cons d0 ds ih=>
 let(y0,yr,rfl,h1,h2):=r'.cons_inv;have yP:cJ ds=true:=by rw[cJ,eX]at n1;erw[n1.2]
 cases i with |zero=>erw[cN Q0 h2] |succ i=>erw[cN h1 (ih yP h2)]
theorem Uv(xs:List V):jC xs (some 1) none=xs.drop 1:=by unfold jC;have e:_H.cu xs.length 0 (some 1)=min 1 xs.length:=_H.FV _ _ 1;rw[e,_H.Pq];cases xs with |nil=>rfl |cons x xs=>
 have e2:min 1 (x::xs).length=1:=by simp
 rw[e2,vc (by simp)]
theorem Ov:bp ["machine","items","rate","between"] ["machine","items","rate"] (aY FD):=bE aH
end
section
end
section
inductive ace(K:aa)(vs:List V)(H:Hp)(Q:VK):Prop |mk (v:_)(r:_)(z:_)(h0:vs=[v,.int z])(h1:cg K H v r)(h2:Bd 2000 r)(h3:z.natAbs<2^24)(h4:∀v H',cg K H' v (r+(z:Rat))->aF H H'->Q v H')
def B0(K:aa):Sp:=λvs H Q _=>ace K vs H Q
theorem Ou:bp ["one","more"] ["one","more"] (aY FC):=bE aH
theorem a1w(F:FA K mg "plus_whole" FC)(B:bK mg)(a5m:aG P w K mg aw "plus" 3 (sW (·+·) K)):aG P w K mg aw "plus_whole" 4 (B0 K):=by
 erw[F.has Ou (λvs H Q E h=>?_) (λ_ _ _ _ _ _=>dF λ_ _=>rfl) (λf aI A outer s H vs Q E hr h=>?_)]
 ·let(v,r,z,rfl,_):=h
  rfl
 ·let(v,r,z,rfl,rv,br,hz,k):=h
  have nd:=Ou.nd;erw[_,(aJ (aW (pf a5m hr (ao (pv 0) (ao (iH (ao (pv 1) (ao aB az))) az))))),?_];erw[_,Z,_,Z,df Z,λt H1 n1=>?_];have bz:Bd 24 (z:Rat):=#[hz,by show 1<2^24;decide];erw[v,.ref t,r,(z:Rat),Z,rv.go n1.same,#[t,Z,bc.of n1.at'],br,bz.mono ay,λv' H' r' s'=>k v' H' r' (n1.same.trans s')]
theorem RS{os:List Itm}{i:Nat}{ns:List Int}{sp:Int}(h:os[i]? =some (some (ns,sp))):leadF os i=some (aK ns):=by unfold leadF;rw[_O.Dv h];rfl
theorem a4d{os:List Itm}{i:Nat}(h:os[i]? =some none):leadF os i=none:=by unfold leadF;rw[_O.Dv h];rfl
theorem a4e{os:List Itm}(h:OkIs os){i m:Nat}(e:leadF os i=some m):m<=100:=by unfold leadF at e;cases ho:atO os i with |none=>rw[ho]at e;cases e |some q=>rw[ho]at e;cases e;let(a,_,_):=h i q.1 q.2 ho;erw[pk λz hz=>by have:=a z hz;lia]
theorem Wu{r:Int}{m:Nat}(h1:1<=r)(h2:r<=50)(h3:m<=100):(2*r*(m:Int)).natAbs<2^24:=by
 have iP:(2:Nat)^24=16777216:=by decide
 have:=nX (a:=2*r) (b:=(m:Int)) (m:=100) (n:=100) au au;rw[iP];lia
end
section
theorem P4:bp ["machine","items","squares","fall","kept","i"] ["machine","items","squares"] (aY Ga):=bE aH
end
section
theorem mn3{x y z q:Rat}(h:q=x\/q=y\/q=z)(h1:q<=x)(h2:q<=y)(h3:q<=z):mn (mn x y) z=q:=by
 erw[Lx ?_ (o9 (o9 h1 h2) h3)];rcases h with h|h|h
 ·rw[h];erw[eM (ij _ _) (ij _ _)]
 ·rw[h];erw[eM (ij _ _) (mF _ _)]
 ·rw[h];erw[mF _ _]
theorem RQ{n:Nat}{ns:List Int}(h:fg n 100 ns):aK ns<=100:=by have:=h.lead;lia
end
end _a
namespace _a
open PySem PySem.Spec PyProof.Rows _L _r _l _W
section
def eR(pl:List Int):ag:=.tuple (pl.map PyData.int)
theorem jP(pl:List Int):fk (eR pl)=true:=by rw[eR,fk];erw[jT pl]
theorem Qf{H:Hp}{v:V}{pl:List Int}(h:RD K H v (eR pl)):∃a,v= .ref a/\bc K H a (pl.map V.int):=by let(a,xs,rfl,h1,h2):=h.cT;rw[h2.fE]at h1;erw[a,Z,h1]
theorem Qe{H:Hp}{a:Addr}{pl:List Int}(h:bc K H a (pl.map V.int)):RD K H (.ref a) (eR pl):=gj h (ml pl)
def gK(pl:List Int):Itm->List Int |none=>pl |some (ns,_)=>dH pl ns
inductive acd(K:aa)(vs:List V)(H:Hp)(Q:VK):Prop |mk (p:_)(m:_)(rs:_)(r:_)(f:_)(j:_)(t:_)(h0:vs=[.ref p,m])(h1:fG H p)(h2:RD K H m (jw rs r f j t))(h3:qc rs r f j t)(h4:∀v pl H',RD K H' v (eR pl)->fF rs pl->bI p H H'->Q v H')
def Nb(K:aa):Sp:=λvs H Q _=>acd K vs H Q
theorem Ot:bp ["_law_bag_here","_law_machine_here"] ["_law_bag_here","_law_machine_here"] (aY Fz):=bE aH
theorem a1y(F:FA K mg "_law_place" Fz)(B:bK mg)(dU:aG P w K mg aw "_law_take" 1 lD):aG P w K mg aw "_law_place" 2 (Nb K):=by
 erw[F.has Ot (λvs H Q E h=>?_) (λ_ _ _ _ _ _=>dF λ_ _=>rfl) (λf aI A outer s H vs Q E hr h=>?_)]
 ·let(p,m,rs,r,f,j,t,rfl,_):=h
  rfl
 ·let(p,m,rs,r,f,j,t,rfl,bg,rm,w6,k):=h
  have nd:=Ot.nd;erw[_,(aJ (aW (cI (x:="tuple") (kh K Z) Z (B.at "tuple") j6 (ao (fi (N:=["_law_rail","_law_bag_here"]) (js:=[none,some 0]) rfl rfl rfl (ko K rfl (px K (pv 1) aB)) (λ_ _ _ _ _=>(bj 0 (fZ ay))) (λ_ _ _ _ _=>dJ) (λ_ _ _ _ _=>(pf dU hr (ao (pv 1) (ao (aQ dv (pv 0) aB) az))))) az)))),?_];let(ma,mb,rfl,jd,jV):=nY rm;have lr:=w6.len;erw[_,Z,.inr #[ma,_,0,.ref mb,Z,Z,jd,cL (eg 0) Z,mb,Z,#[_,jV],λD H1 n1=>?_]];erw[Ku (K:=K) (J:=A1 K mb) (p:=p) (H:=H) rs.length _ n1 bg au (λi=>.int (rs.getD i 0)) (λi H2 hi b2=>?_) (λH2 b2=>?_) (λi d=>∃z r,d= .int z/\rs[i]? =some r/\0<=z/\z<=r) ?_ ?_]
  ·have Jj:=jV.t (bI.t bg b2)
   have e:(rs.map V.int)[i]? =some (.int (rs.getD i 0)):=by rw[cj,List.getD_eq_getElem?_getD,cB hi];rfl
   erw[#[_,_,Jj,e],λy H3 #[e3,y3]=>#[e3,by have:=y3 _ Jj;rw[e]at this;exact(dQ this).symm]]
  ·erw[_,jV.t (bI.t bg b2),by rw[bW];erw[bV _]]
  ·intro i H2 Q' hi b2 hq
   have er:rs[i]? =some (rs.getD i 0):=by rw[List.getD_eq_getElem?_getD,cB hi];rfl
   let(r0,r1):=w6.rl _ (gf er);erw[_,Z,_,Z,_,_,Z,Z,p,_,Z,b2.bC,au,au,λz H3 z0 z1 b3=>?_];erw[hq _ _ _ #[z,_,Z,er,z0,au] Z (fz z) b3]
  ·intro H2 ys ds b2 d2 r2 l2 nl pd
   have je:∃pl:List Int,ds=pl.map PyData.int/\fF rs pl:=by
    have key:∀(ds:List ag),(∀d∈ds,∃z:Int,d= .int z)->∃pl:List Int,ds=pl.map PyData.int:=by intro ds;induction ds with |nil=>erw[λ_=>#[[],Z]] |cons d ds ih=>intro h;let(z,rfl):=h d (.head _);let(pl,rfl):=ih λx hx=>h x (.tail _ hx);erw[z::pl,Z]
    let(pl,rfl):=key ds λd hd=>by let(i,hi):=vd.mp hd;let(z,_,e,_):=pd i d hi;erw[z,e]
    erw[pl,Z,by simpa using l2,λi x r e1 e2=>?_];let(z,r',e,er,h0,h1):=pd i (.int x) (by rw[cj,e1];rfl);cases e;rw[e2]at er;cases er;erw[h0,h1]
   let(pl,rfl,on):=je;erw[D,_,Z,.inl #[aE.of d2,λt H3 n3=>?_]];have et:=n3.at';rw[r2.fE]at et;erw[k (.ref t) pl H3 (Qe (bc.of et)) on (b2.trans (.fC b2.bC n3.same))]
end
section
def dN(z:Str):Prop:=∀c∈z.cps.toList,c<0x110000
theorem dN.app{a b:Str}(ha:dN a)(hb:dN b):dN (a++b):=λc hc=>by rw[qj,qq,jj]at hc;erw[hc.elim (ha c) (hb c)]
theorem dN.joined{sep:Str}(hs:dN sep):∀l:List Str,(∀a∈l,dN a)->dN (PySem.Str.join sep l) |[],_=>λc hc=>by simp[PySem.Str.join,PySem.Str.empty]at hc |[x],h=>h x (.head _) |x::y::r,h=>((h x (.head _)).app hs).app (dN.joined hs (y::r) λa ha=>h a (.tail _ ha))
theorem dN.join{sep:Str}{l:List Str}(hs:dN sep)(h:∀a∈l,dN a):dN (Txt.join sep l):=by show dN (Builtin.Str.glued sep l);rw[Ac];erw[dN.joined hs l h]
theorem a0H{n:Nat}{z:Str}(h:dN z):dy n (.str z):=#[by show PyData.strOk z=true;unfold PyData.strOk;rw[W0];erw[λc hc=>bM (h c (by simpa using hc))],gM _]
theorem Qz{n:Nat}{z:Str}(h:dy n (.str z)):dN z:=λc hc=>by have q:PyData.strOk z=true:=h.lay;unfold PyData.strOk at q;rw[W0]at q;erw[jY (q c (by simpa using hc))]
theorem p5{z:Str}(h:z.cps.all (·<0x110000)=true):dN z:=Qz (n:=0) #[h,gM _]
theorem My:∀(ds:List ag),(∀d∈ds,∃z:Str,d= .str z/\z.length=1/\dN z/\z.cps.toList.all (λc=>decide (97<=c)&&decide (c<=122))=true)->∃zs:List Str,ds=zs.map PyData.str/\∀z∈zs,z.length=1/\dN z/\z.cps.toList.all (λc=>decide (97<=c)&&decide (c<=122))=true |[],_=>#[[],Z,λ_ h=>nomatch h] |d::ds,h=>by let(z,rfl,e):=h d (.head _);let(zs,rfl,q):=My ds λx hx=>h x (.tail _ hx);erw[z::zs,Z,λy hy=>by
 rcases bJ.mp hy with rfl|hy
 ·erw[e]
 ·erw[q y hy]]
theorem ab7:dN jE:=p5 aH
def BU(c:Nat):Bool:=decide (97<=c)&&decide (c<=122)
def p9(s:Str):Bool:=(decide (1<=s.length)&&decide (s.length<=8))&&s.cps.toList.all BU
def Hu(w s:Str):Prop:=(w="tool"/\(s="up"\/s="down"))\/(w="mark"/\p9 s=true)
def xk(d:ag):Prop:=(∃n,d= .tuple [.str "wait",.int n]/\1<=n/\n<=1000)\/∃w s,d= .tuple [.str w,.str s]/\(w="tool"\/w="mark")/\dy 0 (.str s)/\Hu w s
theorem Ta:∀l:List Str,(PySem.Str.join ("":Str) l).cps.toList=(l.map λz=>z.cps.toList).flatten
 |[]=>by simp[PySem.Str.join,PySem.Str.empty] |[x]=>by simp[PySem.Str.join] |x::y::r=>by
  show((x++("":Str))++PySem.Str.join ("":Str) (y::r)).cps.toList=_;rw[qj,qj,qq,qq,Ta (y::r)];have:(("":Str)).cps.toList=[]:=by decide+kernel
  rw[this];simp
theorem a3a{l:List Str}(h1:1<=l.length)(h8:l.length<=8)(h:∀z∈l,z.length=1/\z.cps.toList.all BU=true):p9 (Txt.join ("":Str) l)=true:=by
 have e:(Txt.join ("":Str) l).cps.toList=(l.map λz=>z.cps.toList).flatten:=by show(Builtin.Str.glued ("":Str) l).cps.toList=_;rw[Ac];erw[Ta l]
 have el:(Txt.join ("":Str) l).length=l.length:=by
  show(Txt.join ("":Str) l).cps.size=_;rw[<-Ap,e,List.length_flatten,DN];have:∀(l:List Str),(∀z∈l,z.length=1/\z.cps.toList.all BU=true)->(l.map (List.length∘λz=>z.cps.toList)).sum=l.length:=by intro l;induction l with |nil=>intro _;rfl |cons a r ih=>
   intro h;rw[kH,List.sum_cons,ih λz hz=>h z (.tail _ hz),gq];have:=(h a (.head _)).1;have e2:(List.length∘λz:Str=>z.cps.toList) a=1:=by show a.cps.toList.length=1;rw[Ap];erw[this]
   rw[e2,Nat.add_comm]
  erw[this l h]
 unfold p9;rw[el,e,bM h1,bM h8,jl,jl,gP];intro c hc;let(cs,Ct,gI):=List.mem_flatten.mp hc;let(z,hz,rfl):=dB.mp Ct;erw[gP.mp (h z hz).2 c gI]
theorem xk.it{d:ag}(h:xk d):itR d none:=by
 rcases h with⟨n,rfl,_⟩|⟨w,s,rfl,hw|hw,_⟩
 ·erw[.inr #[_,_,Z,.inl Z,Z,Z]]
 ·erw[.inr #[_,_,Z,.inr (.inl hw),Z,Z]]
 ·erw[.inr #[_,_,Z,.inr (.inr hw),Z,Z]]
end
section
def RowW(ds:List ag)(os:List Itm):Prop:=∀(i:Nat)(d:ag),os[i]? =some none->ds[i]? =some d->xk d
theorem RowW.snoc{ds:List ag}{os:List Itm}{d:ag}{o:Itm}(h:RowW ds os)(hl:ds.length=os.length)(hd:o=none->xk d):RowW (ds++[d]) (os++[o]):=by
 intro i x e1 e2;rcases sY e1 with h1|⟨h1,zx⟩
 ·rcases sY e2 with h2|⟨h2,_⟩
  ·erw[h i x h1 h2]
  ·have:=(dZ.mp h1).1;lia
 ·rcases sY e2 with h2|⟨_,uz⟩
  ·have:=(dZ.mp h2).1;lia
  ·subst uz;erw[hd zx.symm]
end
end _a
namespace _a
open PySem PySem.Spec PyProof.Rows _L _l
section
theorem AA{j:Int}(h:j.natAbs<2^64):Wd j:=xG h aH
inductive acm(vs:List V)(H:Hp)(Q:VK):Prop |mk (p:Int)(q:Int)(h0:vs=[.int p,.int q])(h1:0<q)(h2:q<=10^6)(h3:p.natAbs<=10^9)(h4:Q (.int (eT p q)) H)
def Er:Sp:=λvs H Q _=>acm vs H Q
theorem OA:bp ["p","q","size"] ["p","q"] (aY FH):=bE aH
theorem a1E(F:FA K mg "nearest" FH)(B:bK mg):aG P w K mg aw "nearest" 1 Er:=by
 erw[F.has OA (λvs H Q E h=>?_) (λ_ _ _ _ _ _=>dF λ_ _=>rfl) (λf aI A outer s H vs Q E hr h=>?_)]
 ·let(p,q,rfl,_):=h
  rfl
 ·let(p,q,rfl,q0,q1,p1,k):=h
  have nd:=OA.nd;erw[_,(aD (pS 2 nd (aQ tR (aQ dv (aQ cc aB (fK (x:="abs") pX Z (B.at "abs") sA (ao (pv 0) az))) (pv 1)) (aQ cc aB (pv 1)))) (aJ (aW (my (bU BB (pv 0) aB (bB _)) (pv 2) (kO kI (pv 2)))))),?_];erw[_,Z,p,Z,_,_,Z,Z,.of_left (dc ay ay),_,Z,_,_,Z,Z,_,Z,_,_,Z,Z,.of_left (dc ay ay),_,_,Z,Z,#[au,AA au],?_];have e:(2*(if p<0 then-p else p)+q)/(2*q)=iT p q:=by unfold iT;rw[<-zV];rfl
  erw[_,Z,_,_,Z,Z,_,Z,?_];unfold eT at k;rw[<-e]at k;erw[gy (λhc=>?_) (λhc=>?_)]
  ·have hp:p>=0:=jY hc
   rw[bu hp]at k;erw[_,Z,k]
  ·have hp:¬p>=0:=λz=>hc (bM z)
   rw[bo hp]at k;erw[_,Z,_,Z,k]
def MG(ns:List Int)(k:Int):ag:=.tuple ((ns.map λz=>eT (k*z) (aK ns)).map PyData.int)
theorem ZM{k z:Int}(h:k.natAbs<=10^6)(g:(z.natAbs:Int)<=1000):(k*z).natAbs<=10^9:=by rw[hZ];erw[j7 (qk h (show z.natAbs<=1000 by lia)) ay]
inductive abL(K:aa)(vs:List V)(H:Hp)(Q:VK):Prop |mk (v:_)(ns:_)(sp:_)(k:_)(h0:vs=[v,.int k])(h1:RD K H v (du ns sp))(h2:fg ns.length 1000 ns)(h3:ns.length<=1000)(h4:k.natAbs<=10^6)(h5:∀v' H',RD K H' v' (MG ns k)->aF H H'->Q v' H')
def AX(K:aa):Sp:=λvs H Q _=>abL K vs H Q
theorem NY:bp ["line","k","lead"] ["line","k"] (aY ES):=bE aH
theorem a0T(F:FA K mg "stand_at" ES)(B:bK mg)(pD:aG P w K mg aw "lead_of" 1 (sX K))(a5B:aG P w K mg aw "nearest" 1 Er):aG P w K mg aw "stand_at" 2 (AX K):=by
 erw[F.has NY (λvs H Q E h=>?_) (λ_ _ _ _ _ _=>dF λ_ _=>rfl) (λf aI A outer s H vs Q E hr h=>?_)]
 ·let(v,ns,sp,k,rfl,_):=h
  rfl
 ·let(v,ns,sp,kk,rfl,rd,ok,hz,hk,k):=h
  have nd:=NY.nd;erw[_,(aD (pS 2 nd (pf pD hr (ao (pv 0) az))) (aJ (aW (cI (x:="tuple") (kh K Z) Z (B.at "tuple") j6 (ao (fi (N:=["step","lead","k"]) (js:=[none,some 2,some 1]) rfl rfl rfl (ko K rfl (px K (pv 0) aB)) (λ_ _ _ _ _=>(bj 0 (show List.Nodup (["step","lead","k"]:List Str) by decide+kernel))) (λ_ _ _ _ _=>dJ) (λ_ _ _ _ _=>(pf a5B hr (ao (aQ cc (pv 2) (pv 0)) (ao (pv 1) az))))) az))))),?_];erw[_,Z,v,ns,sp,Z,rd,ok.ne,hz,λH1 s1=>?_];let(a,b,rfl,ha,hb):=o8 (RD.mono s1 _ rd);let(lp,lm):=ok.lead;erw[_,Z,.inr #[a,_,1,.ref b,Z,Z,ha,Z,b,Z,#[_,hb],λD H0 nw=>?_]];erw[pW (K:=K) (xs:=ns.map V.int) (ds:=(ns.map λz=>eT (kk*z) (aK ns)).map PyData.int) _ hb nw (by simp) (by simpa using hz) (jT _) ?_ ?_]
  ·intro i x d H2 Q' ex ed s2 hq
   rw[DN]at ed;let(n,en,rfl):=kR ed;cases wC ex en;erw[_,Z,_,Z,_,_,Z,Z,.of_left (dc au au),_,Z,_,_,Z,au,au,ZM hk (ok.bd n (gf en)),?_];erw[hq _ _ (aF.refl _) (fz _)]
  ·intro H' ys s2 d2 r2
   erw[D,_,Z,.inl #[aE.of d2,λt H4 n4=>?_]];erw[k _ _ (gj (bc.of n4.at') (aP.mono n4.same _ r2)) (s1.trans (s2.trans n4.same))]
end
section
def gs(ns:List Int)(j:Nat):List Int:=ns.map λz=>eT (((j:Int)+1)*z) (aK ns)-eT ((j:Int)*z) (aK ns)
def oX(ns:List Int):List ag:=(List.range (aK ns)).map λj=>.tuple ((gs ns j).map PyData.int)
theorem GL(zs:List Int):fk (.tuple (zs.map PyData.int))=true:=by rw[fk];erw[jT zs]
theorem GJ(ns:List Int):cJ (oX ns)=true:=gX.mpr λd hd=>by let(j,_,rfl):=dB.mp hd;erw[GL _]
theorem PF{ns:List Int}{i:Nat}(h:i<aK ns):(oX ns)[i]? =some (.tuple ((gs ns i).map PyData.int)):=by unfold oX;rw[cj,cB (by simpa using h),DQ];rfl
theorem GK(ns:List Int):(oX ns).length=aK ns:=by simp[oX]
inductive abW(K:aa)(vs:List V)(H:Hp)(Q:VK):Prop |mk (v:_)(ns:_)(sp:_)(h0:vs=[v])(h1:RD K H v (du ns sp))(h2:fg ns.length 1000 ns)(h3:ns.length<=1000)(h4:∀l ys H',H l=none->H' l=some (.lst ys)->aP K H' ys (oX ns)->aF H H'->Q (.ref l) H')
def El(K:aa):Sp:=λvs H Q _=>abW K vs H Q
theorem O9:bp ["line","rows","before","k","behind"] ["line"] (aY F9):=bE aH
theorem a1g(F:FA K mg "step_rows" F9)(B:bK mg)(pD:aG P w K mg aw "lead_of" 1 (sX K))(Ce:aG P w K mg aw "stand_at" 2 (AX K)):aG P w K mg aw "step_rows" 3 (El K):=by
 erw[F.has O9 (λvs H Q E h=>?_) (λ_ _ _ _ _ _=>dw λ_=>rfl) (λf aI A outer s H vs Q E hr h=>?_)]
 ·let(v,ns,sp,rfl,_):=h
  rfl
 ·let(v,ns,sp,rfl,rd,ok,hz,k):=h
  have nd:=O9.nd;let(lp,lm):=ok.lead;erw[_,(aD (pS 1 nd (fA az)) (aD (pS 2 nd (pf Ce hr (ao (pv 0) (ao aB az)))) (aD (mq jI Z (ZY Z (B.at "range") (ao aB (ao (aQ dv (pf pD hr (ao (pv 0) az)) aB) az))) (bj 3 nd) (aD (pS 4 nd (pf Ce hr (ao (pv 0) (ao (pv 3) az)))) (aD (mr (tP K Z (pv 1) (ao (cI (x:="tuple") (kh K Z) Z (B.at "tuple") j6 (ao (fi (N:=["new","old"]) (js:=[none,none]) rfl rfl rfl (lE K rfl false false rfl (B.at "zip") (ao (pv 4) (ao (pv 2) az))) (λ_ _ _ _ _=>(eB K rfl (n:=2) rfl (bS (bj 0 (fZ ay)) (bS (bj 1 (fZ ay)) ek)))) (λ_ _ _ _ _=>dJ) (λ_ _ _ _ _=>(aQ iK (pv 0) (pv 1)))) az)) az))) (aJ (pS 2 nd (pv 4)))))) (aJ (aW (pv 1)))))),?_];erw[df Z,λl H1 n1=>?_];erw[_,Z,v,ns,sp,0,Z,RD.mono n1.same _ rd,ok,hz,ay,λu H2 ru s2=>?_];have t2:=n1.same.trans s2;erw[_,Z,v,ns,sp,Z,RD.mono t2 _ rd,ok.ne,hz,λH3 s3=>?_];erw[_,_,Z,Z,_,_,Z,#[au,au,au,au],?_];have t3:=t2.trans s3;have e3:((aK ns:Int)+1-1).toNat=aK ns:=by lia
  erw[CG (Pv:=λi O H4=>aF H H4/\(∃ys,H4 l=some (.lst ys)/\aP K H4 ys ((oX ns).take i))/\∃b v1 v2,RD K H4 b (MG ns i)/\O=[some v,some (.ref l),some b,v1,v2]) ?_ ?_ ?_]
  ·erw[t3,#[[],s3 _ _ (s2 _ _ n1.at'),dI],u,none,none,RD.mono s3 _ ru,Z]
  ·rintro i O H4 hi ⟨t4,⟨ys,dl,ry⟩,b,v1,v2,rb,rfl⟩
   have zj:i<aK ns:=by lia
   erw[_,Z,_,Z,v,ns,sp,_,Z,RD.mono t4 _ rd,ok,hz,au,λb2 H5 GX s5=>?_];erw[_,Z,.inl #[Z,_,aE.of (s5 _ _ dl)],?_];let(a1,xs1,rfl,h1,q1):=GX.cT;have e1:=q1.fE;subst e1;let(a0,xs0,rfl,h0,q0):=(RD.mono s5 _ rb).cT;have e0:=q0.fE;subst e0;erw[_,Z,_,Z,a1,a0,Z,#[_,h1],#[_,h0],λD H6 nw=>?_];erw[zL (K:=K) (b1:=false) (b2:=false) (ds:=(gs ns i).map PyData.int) [] rfl h1 h0 nw (by simp[gs]) (by simpa[gs]using hz) (jT _) ?_ ?_]
   ·intro j x y d H7 Q' ex ey ed s7 hq
    let(m,em,rfl):=kR ed;unfold gs at em;rw[cj]at em ex ey;rw[cj]at ex ey;cases en:ns[j]? with |none=>rw[en]at em;cases em |some n=>
     rw[en]at em ex ey;cases em;cases ex;cases ey;erw[_,Z,_,Z,_,_,Z,Z,?_];have ee:(1:Int)+(i:Int)=(i:Int)+1:=by lia
     rw[ee];erw[hq _ _ (aF.refl _) (fz _)]
   ·intro H7 zs s7 d7 r7
    erw[D,_,Z,.inl #[aE.of d7,λt H8 n8=>?_]];have vK:=s5.trans (s7.trans n8.same);have zG:=vK _ _ dl;have len:=ry.length;rw[ve,GK]at len;erw[l,ys,_,Z,Z,zG,?_,?_]
    ·have:(1000:Nat)<sizeLine:=by decide
     lia
    erw[_,Z,?_];have tt:iX H8 (_L.upd H8 l (.lst (ys++[.ref t]))):=.vq zG;erw[λb o e=>?_,#[_,bQ,?_],_,_,_,?_,Z]
    ·rw[aU (iL e n1.no)];erw[vK b o (t4 b o e)]
    ·rw[sD,PF zj]
     have nt:cJ ((oX ns).take i)=true:=gX.mpr λd hd=>gX.mp (GJ ns) d (xI hd);exact(aP.t tt _ nt (aP.mono vK _ ry)).append (cN (RD.t tt _ (GL _) (gj (bc.of n8.at') (aP.mono n8.same _ r7))) dI)
    ·have ee:(1:Int)+(i:Int)=((i+1:Nat):Int):=by lia
     rw[ee]at GX;erw[RD.t tt _ (GL _) (RD.mono (s7.trans n8.same) _ GX)]
  ·rintro O H4 ⟨t4,⟨ys,dl,ry⟩,b,v1,v2,rb,rfl⟩
   rw[e3,vc (by rw[GK];erw[bV _])]at ry;erw[_,Z,k l ys H4 n1.no dl ry t4]
end
end _a
namespace _a
open PySem PySem.Spec PyProof.Rows _L _r _l
section
def jf(ti:Int)(q:Rat)(t:Int):Bool:=decide (ti*ti*(q.den:Int)<=t*t*q.num)
inductive acM(K:aa)(vs:List V)(H:Hp)(Q:VK):Prop |mk (m:_)(sq:_)(t:_)(rs:_)(r:_)(f:_)(j:_)(ti:_)(q:_)(h0:vs=[m,sq,.int t])(h1:RD K H m (jw rs r f j ti))(h2:cg K H sq q)(h3:Bd 2000 q)(h4:1<=ti)(h5:ti<=100)(h6:0<=t)(h7:t.natAbs<2^2400)(h8:Q (.bl (jf ti q t)) H)
def Nu(K:aa):Sp:=λvs H Q _=>acM K vs H Q
theorem P6:bp ["machine","square","t","p","q","ticks"] ["machine","square","t"] (aY Gd):=bE aH
theorem a27(F:FA K mg "are_enough" Gd)(B:bK mg):aG P w K mg aw "are_enough" 1 (Nu K):=by
 erw[F.has P6 (λvs H Q E h=>?_) (λ_ _ _ _ _ _=>kX λ_ _ _=>rfl) (λf aI A outer s H vs Q E hr h=>?_)]
 ·let(m,sq,t,rs,r,f,j,ti,q,rfl,_):=h
  rfl
 ·let(m,sq,t,rs,r,f,j,ti,q,rfl,rm,(p,rfl,hp),bq,t1,t2,t0,tw,k):=h
  have nd:=P6.nd;erw[_,(aD (fh (pv 1) (eB K Z (n:=2) Z (bS (bj 3 nd) (bS (bj 4 nd) ek)))) (aD (pS 5 nd (px K (pv 0) aB)) (aJ (aW (fj BB (aQ cc (aQ cc (pv 2) (pv 2)) (pv 3)) (aQ cc (aQ cc (pv 5) (pv 5)) (pv 4)) (bB _)))))),?_];let(a,b,rfl,ha,hb):=nY rm;have wt:Wd t:=j9 tw ay;have DW:Wd (t*t):=j9 (n:=4800) (by rw[hZ];erw[mE (n:=2400) (m:=2400) tw tw]) ay;have m1:(ti*ti).natAbs<=100*100:=by rw[hZ];erw[qk bR bR]
  erw[_,Z,_,_,Z,hp,Z,_,_,Z,_,_,Z,Z,?_];erw[_,Z,.inr #[a,_,4,.int ti,Z,Z,ha,Z,?_]];erw[_,Z,_,Z,_,_,Z,Z,jk wt.bits wt.bits,_,Z,_,_,Z,Z,jk DW.bits bq.wn.bits,?_];erw[_,Z,_,Z,_,_,Z,Z,.of_left (dc bR bR),_,Z,_,_,Z,Z,.of_left (dc bR bR),?_];erw[_,_,Z,Z,k]
theorem Ka{ti t:Int}{q:Rat}(hq:0<q.num)(h0:0<=t)(h:ti*ti*(q.den:Int)<=t):jf ti q t=true:=by
 erw[bM (Int.le_trans h ?_)];by_cases ht:t=0
 ·subst ht;simp
 ·have e1:t*1<=t*t:=Am au h0
  have e2:t*t*1<=t*t*q.num:=Am au (iG h0 h0)
  lia
theorem a9C{ti:Int}{q:Rat}(h1:1<=ti):jf ti q 0=false:=by
 erw[cD λh=>?_];have:=j8 (j8 (show 0<ti by lia) (show 0<ti by lia)) (den_pos q);simp only[Aj]at h
 lia
inductive abG(K:aa)(vs:List V)(H:Hp)(Q:VK):Prop |mk (m:_)(sq:_)(rs:_)(r:_)(f:_)(j:_)(ti:_)(q:_)(h0:vs=[m,sq])(h1:RD K H m (jw rs r f j ti))(h2:cg K H sq q)(h3:Bd 2000 q)(h4:1<=ti)(h5:ti<=100)(h6:0<q.num)(h7:∀T,1<=T->T.natAbs<2^2400->jf ti q T=true->jf ti q (T-1)=false->Q (.int T) H)
def MS(K:aa):Sp:=λvs H Q _=>abG K vs H Q
theorem NU:bp ["machine","square","enough","too_few","between"] ["machine","square"] (aY EM):=bE aH
theorem a0O(F:FA K mg "ticks_of" EM)(B:bK mg)(SU:aG P w K mg aw "are_enough" 1 (Nu K)):aG P w K mg aw "ticks_of" 2 (MS K):=by
 erw[F.has NU (λvs H Q E h=>?_) (λ_ _ _ _ _ _=>dF λ_ _=>rfl) (λf aI A outer s H vs Q E hr h=>?_)]
 ·let(m,sq,rs,r,f,j,ti,q,rfl,_):=h
  rfl
 ·let(m,sq,rs,r,f,j,ti,q,rfl,rm,rq,bq,t1,t2,hq,k):=h
  have nd:=NU.nd;erw[_,(aD (pS 2 nd aB) (aD (vQ jI (dj (cO (pf SU hr (ao (pv 0) (ao (pv 1) (ao (pv 2) az)))))) (aJ (pS 2 nd (aQ cc aB (pv 2))))) (aD (pS 3 nd (aQ tR (pv 2) aB)) (aD (vQ jI (bU nS (aQ iK (pv 2) (pv 3)) aB (bB _)) (aD (pS 4 nd (aQ tR (aQ dv (pv 3) (pv 2)) aB)) (aJ (bL (cO (pf SU hr (ao (pv 0) (ao (pv 1) (ao (pv 4) az))))) (aJ (pS 2 nd (pv 4))) (aJ (pS 3 nd (pv 4))))))) (aJ (aW (pv 2))))))),?_];have lim:(ti*ti*(q.den:Int)).natAbs<2^2399:=by
   have m1:(ti*ti).natAbs<=100*100:=by rw[hZ];erw[qk au au]
   have hd:=bq.den;rw[hZ];have:(q.den:Int).natAbs=q.den:=rfl;rw[this];have:=mE (n:=14) (m:=2000) (a:=(ti*ti).natAbs) (b:=q.den) (Af m1 ay) hd;erw[gO this (uZ ay ay)]
  have p0:0<ti*ti*(q.den:Int):=j8 (j8 au au) (den_pos q);have e2:(2:Nat)^2400=2^2399*2:=Nat.pow_succ 2 2399;generalize hL:ti*ti*(q.den:Int)=L at lim p0;erw[vn (λO H2=>H2=H/\∃(x:Int),O=[some m,some sq,some (.int x),none,none]/\1<=x/\x<=2*L/\jf ti q (x/2)=false) (λO _=>match O with|[_,_,some (.int x),_,_]=>(L-x).toNat|_=>0) ?_ ?_ ?_]
  ·erw[Z,1,Z,au,au,a9C t1]
  ·rintro O H2 ⟨rfl,x,rfl,x1,xL,hx⟩
   have xw:x.natAbs<2^2400:=by lia
   erw[_,Z,_,Z,_,Z,m,sq,x,rs,r,f,j,ti,q,Z,rm,rq,bq,t1,t2,au,xw,_,Z,?_];cases Cq:jf ti q x with
   |false=>
    have cK:x<L:=by
     by_cases cK:x<L
     ·erw[cK]
     ·rw[Ka hq au au]at Cq;cases Cq
    erw[gy (λhc=>?_) (λhc=>(hc Z).elim)];erw[_,Z,_,_,Z,Z,.of_left (dc ay ay),?_];erw[#[Z,_,Z,au,au,?_],?_]
    ·have:2*x/2=x:=by lia
     rw[this];erw[Cq]
    ·show(L-2*x).toNat<(L-x).toNat
     lia |true=>
    erw[gy (λhc=>nomatch hc) (λhc=>?_)];erw[_,Z,_,_,Z,Z,#[ay,j9 (n:=2) ay ay],?_];erw[vn (λO H3=>H3=H2/\∃(lo hi:Int)(v:Option V),O=[some m,some sq,some (.int hi),some (.int lo),v]/\0<=lo/\lo<hi/\hi<=2*L/\jf ti q lo=false/\jf ti q hi=true) (λO _=>match O with|[_,_,some (.int x),some (.int y),_]=>(x-y).toNat|_=>0) ?_ ?_ ?_]
    ·erw[Z,x/2,x,none,Z,au,au,xL,hx,Cq]
    ·rintro O H3 ⟨rfl,lo,hi,v,rfl,l0,lh,JG,U5,CU⟩
     erw[_,Z,_,Z,_,_,Z,Z,_,_,Z,Z,_,Z,?_];erw[gy (λhc=>?_) (λhc=>?_)]
     ·have hgt:hi-lo>1:=jY hc
      erw[_,Z,_,Z,_,_,Z,Z,_,_,Z,Z,#[ay,j9 (n:=2) ay ay],?_];have mw:((lo+hi)/2).natAbs<2^2400:=by lia
      erw[_,Z,_,Z,_,Z,m,sq,(lo+hi)/2,rs,r,f,j,ti,q,Z,rm,rq,bq,t1,t2,au,mw,_,Z,?_];cases hm:jf ti q ((lo+hi)/2)with
      |true=>
       erw[bF ?_];erw[_,Z,#[Z,lo,_,_,Z,l0,au,au,U5,hm],?_];show((lo+hi)/2-lo).toNat<(hi-lo).toNat
       lia |false=>
       erw[bh ?_];erw[_,Z,#[Z,_,hi,_,Z,au,au,JG,hm,CU],?_];show(hi-(lo+hi)/2).toNat<(hi-lo).toNat
       lia
     ·have hle:¬hi-lo>1:=λz=>hc (bM z)
      have e:lo=hi-1:=by lia
      subst e;erw[_,Z,k hi au au CU U5]
    ·rintro O H2 Q1 Q2 hq ⟨v1,e1,v2,e2,i,j,e3,e4,i2,j2,e5,e6,kk,e7,q⟩
     erw[v1,e1,v2,e2,i,j,e3,e4,i2,j2,e5,e6,kk,e7,hq _ _ q]
  ·rintro O H2 Q1 Q2 hq ⟨v1,e1,v2,e2,v3,e3,m',XX,x',tD,r',f',j',WY,q',e4,h1,h2,h3,h4,h5,h6,h7,b,eb,q⟩
   erw[v1,e1,v2,e2,v3,e3,m',XX,x',tD,r',f',j',WY,q',e4,h1,h2,h3,h4,h5,h6,h7,b,eb,hq _ _ q]
end
end _a
namespace _a
open PySem PySem.Spec PyProof.Rows _L _r _l _C _P
open _O (topR cornO mnO betR atO ownF leadF ownL OkI OkIs)
section
def uP(ti:Int)(q:Rat)(T:Int):Prop:=1<=T/\jf ti q T=true/\jf ti q (T-1)=false
open Classical in
noncomputable def lC(ti:Int)(q:Rat):Int:=if h:∃T,uP ti q T then h.choose else 0
theorem TY{ti:Int}{q:Rat}{s t:Int}(hq:0<=q.num)(h0:0<=s)(h:s<=t)(e:jf ti q s=true):jf ti q t=true:=by erw[bM (Int.le_trans (jY e) ?_)];erw[Al (sE h h h0 au) hq]
theorem X3{ti:Int}{q:Rat}{S T:Int}(hq:0<=q.num)(h1:uP ti q S)(h2:uP ti q T):S=T:=by
 let(a1,a2,a3):=h1;let(b1,b2,b3):=h2;by_cases h:S<=T-1
 ·have:=TY hq au h a2
  rw[b3]at this;cases this
 ·by_cases h':T<=S-1
  ·have:=TY hq au h' b2
   rw[a3]at this;cases this
  ·lia
theorem Ma{ti:Int}{q:Rat}{T:Int}(hq:0<=q.num)(h:uP ti q T):lC ti q=T:=by have hx:∃T,uP ti q T:=#[T,h];unfold lC;rw[dif_pos hx];erw[X3 hq hx.choose_spec h]
theorem HU{q:Rat}(h:0<q):0<q.num:=by
 have h1:=Lv.mpr (Rat.le_of_lt h);have h2:q.num≠0:=λe=>by rw[Rat.num_eq_zero.mp e]at h;erw[absurd h ay]
 lia
noncomputable def vy(ti:Int)(zs:List Int)(q:Rat):ag:=.tuple [.str "step",.tuple (zs.map PyData.int),.int (lC ti q),fN q]
theorem ME(ti:Int)(zs:List Int)(q:Rat):fk (vy ti zs q)=true:=by simp[vy,fk,cJ,jT,yx]
inductive acL(K:aa)(vs:List V)(H:Hp)(Q:VK):Prop |mk (m:_)(rv:_)(sq:_)(rs:_)(r:_)(f:_)(j:_)(ti:_)(zs:_)(q:_)(h0:vs=[m,rv,sq])(h1:RD K H m (jw rs r f j ti))(h2:qc rs r f j ti)(h3:RD K H rv (.tuple (zs.map PyData.int)))(h4:cg K H sq q)(h5:Bd 2000 q)(h6:0<q)(h7:∀v H',RD K H' v (vy ti zs q)->aF H H'->Q v H')
def Eu(K:aa):Sp:=λvs H Q _=>acL K vs H Q
theorem P5:bp ["machine","row","square"] ["machine","row","square"] (aY Gb):=bE aH
theorem a26(F:FA K mg "step_entry" Gb)(B:bK mg)(a56:aG P w K mg aw "ticks_of" 2 (MS K)):aG P w K mg aw "step_entry" 3 (Eu K):=by
 erw[F.has P5 (λvs H Q E h=>?_) (λ_ _ _ _ _ _=>kX λ_ _ _=>rfl) (λf aI A outer s H vs Q E hr h=>?_)]
 ·let(m,rv,sq,rs,r,f,j,ti,zs,q,rfl,_):=h
  rfl
 ·let(m,rv,sq,rs,r,f,j,ti,zs,q,rfl,rm,aM,rr,Rq,bq,q0,k):=h
  have nd:=P5.nd;erw[_,(aJ (aW (iH (ao bf (ao (pv 1) (ao (pf a56 hr (ao (pv 0) (ao (pv 2) az))) (ao (pv 2) az))))))),?_];have t1:=aM.t1;have qn:0<q.num:=HU q0;erw[_,Z,_,Z,_,Z,m,sq,rs,r,f,j,ti,q,Z,rm,Rq,bq,t1.1,t1.2,qn,λT T1 _ T2 T3=>?_];erw[_,Z,df Z,λt H1 n1=>k (.ref t) H1 ?_ n1.same];have e:=Ma au #[T1,T2,T3];unfold vy;rw[e];erw[gj (bc.of n1.at') (cN (bT _) (cN (RD.mono n1.same _ rr) (cN (fz _) (cN (Rq.go n1.same).rd dI))))]
theorem E7{aA sp:Int}(h1:1<=sp)(h2:10<=aA):0<topR aA sp:=by
 have h0:=_O.AL aA sp;erw[Lu h0 λe=>?_];have hp:0<(sp*aA)^2:=by rw[gC,gC,nJ,m7];erw[j8 (j8 au au) (j8 au au)]
 have h2:0<=Rat.divInt (-((sp*aA)^2)) 10000:=by rw[<-Rat.neg_divInt];show 0<=-(topR aA sp);rw[<-e];decide
 have:=(xD ay).mp h2
 lia
end
section
end
end _a
namespace _a
open PySem PySem.Spec PyProof.Rows _L _r _l _W
section
end
end _a
namespace _a
open PySem PySem.Spec PyProof.Rows _L _r _l _C _P
open _O (topR cornO mnO betR atO ownF leadF ownL OkI OkIs)
section
inductive acf(K:aa)(vs:List V)(H:Hp)(Q:VK):Prop |mk (m:_)(iv:_)(aA:_)(rs:_)(r:_)(f:_)(j:_)(t:_)(ds:_)(os:_)(h0:vs=[m,iv,.int aA])(h1:RD K H m (jw rs r f j t))(h2:qc rs r f j t)(h3:RD K H iv (.list ds))(h4:iB rs.length ds os)(h5:ds.length<=100)(h6:10<=aA)(h7:aA<=200)(h8:∀l ys H',H l=none->H' l=some (.lst ys)->aP K H' ys ((ownL j aA os).map fN)->aF H H'->Q (.ref l) H')
def Nc(K:aa):Sp:=λvs H Q _=>acf K vs H Q
theorem a1z(F:FA K mg "own_bounds" FD)(B:bK mg)(gN:GT K mg "NOUGHT" [.int 0,.int 1])(a6t:aG P w K mg aw "bound_between" 7 (Ez K)):aG P w K mg aw "own_bounds" 8 (Nc K):=by
 let(aN,pJ,qy):=gN;erw[F.has Ov (λvs H Q E h=>?_) (λ_ _ _ _ _ _=>kX λ_ _ _=>rfl) (λf aI A outer s H vs Q E hr h=>?_)]
 ·let(m,iv,aA,rs,r,f,j,t,ds,os,rfl,_):=h
  rfl
 ·let(m,iv,aA,rs,r,f,j,t,ds,os,rfl,rm,aM,ri,row,hz,dM,eF,k):=h
  have nd:=Ov.nd;have rN:∀H',RD K H' (.ref aN) (fN 0):=λH'=>(yI (qy H')).rd;erw[_,(aD (bL (dj (yy K Z (pv 1))) (aJ (aW (fA (ao (fX (x:="NOUGHT") Z pJ) az)))) bO) (aD (tJ (i0:=3) nd Z (Or.inl Z) (N:=["one","other","machine","rate"]) (js:=[none,none,some 0,some 2]) Z Z Z (lE K Z true true Z (B.at "zip") (ao (pv 1) (ao (tL (sZ K rfl) (pv 1) (qF aB) vS) az))) (λ_ _ _ _ _=>(eB K rfl (n:=2) rfl (bS (bj 0 (show List.Nodup (["one","other","machine","rate"]:List Str) by decide+kernel)) (bS (bj 1 (show List.Nodup (["one","other","machine","rate"]:List Str) by decide+kernel)) ek)))) (λ_ _ _ _ _=>dJ) (λ_ _ _ _ _=>(pf a6t hr (ao (pv 2) (ao (pv 0) (ao (pv 1) (ao (pv 3) az))))))) (aJ (aW (aQ (Dl K Z) (aQ (Dl K Z) (fA (ao (fX (x:="NOUGHT") Z pJ) az)) (pv 3)) (fA (ao (fX (x:="NOUGHT") Z pJ) az))))))),?_];let(ia,xs,rfl,hi,lO):=ri.lst_inv;have lx:=lO.length;have ll:=row.len;erw[_,Z,_,.inl #[_,hi,Z],?_];cases hd:xs with
  |nil=>
   subst hd;erw[bF ?_];erw[df Z,λl H1 n1=>?_];erw[k l [.ref aN] H1 n1.no n1.at' ?_ n1.same];have e:os=[]:=by
    have:os.length=0:=by rw[<-ll,<-lx];rfl
    erw[List.length_eq_zero_iff.mp this]
   rw[e];erw[cN (rN H1) dI] |cons x0 xr=>
   erw[bh ?_];have cP:os≠[]:=by intro e;rw[e]at ll;rw[hd]at lx;simp at ll lx;rw[ll]at lx;cases lx
   have Sr:0<xs.length:=by rw[hd];simp
   erw[_,Z,_,Z,1,Z,ia,xs,Z,.inl #[hi,λtl H1 n1=>?_]];erw[ia,tl,Z,#[_,hi.go n1.same],#[_,aE.of n1.at'],λD H2 n2=>?_];have et:=n1.at';rw[Uv]at et;have QA:∀(i:Nat)(o:Itm),os[i]? =some o->∀(ns:List Int)(sp:Int),o=some (ns,sp)->fg rs.length 100 ns/\1<=sp/\sp<=20:=λi o e ns sp e'=>row.ok i ns sp (by rw[e,e']);have lr:=aM.len;erw[zL (K:=K) (b1:=true) (b2:=true) (xs:=xs) (ys:=xs.drop 1) (ds:=((List.range (os.length-1)).map (λi=>ownF j aA os (i+1))).map fN) _ Z (hi.go n1.same) (aE.of et) n2 (by rw[VO];simp;lia) (by simp;lia) (QL _) ?_ ?_]
   ·intro i x y d H3 Q' ex ey ed s3 hq
    have jq:=n1.same.trans s3;rw[List.getElem?_drop]at ey;let(d1,e1,r1):=lO.get' i ex;let(d2,e2,r2):=lO.get' (1+i) ey;let(o1,TU,i1):=row.get e1;let(o2,uH,i2):=row.get e2;have hi2:1+i<os.length:=(dZ.mp uH).1;have lY:d=fN (betR j aA o1 o2):=by rw[cj,cj,cB (by simp;lia),DQ]at ed;have:=(dQ ed).symm;rw[this];show fN (betR j aA (atO os i) (atO os (i+1)))=_;rw[_O.Dv TU,_O.Dv (show os[i+1]? =some o2 by rw[Nat.add_comm];erw[uH])]
    subst lY;erw[_,Z,_,Z,_,Z,_,Z,m,x,y,aA,rs,r,f,j,t,d1,d2,o1,o2,rs.length,Z,RD.mono jq _ rm,aM.j1.1,aM.j1.2,RD.mono jq _ r1,RD.mono jq _ r2,i1,i2,QA _ _ TU,QA _ _ uH,au,dM,eF,λv H4 rv s4=>?_];erw[hq _ _ s4 rv.rd]
   ·intro H3 zs s3 d3 r3
    have lz:=r3.length;simp at lz;erw[df Z,λl1 H4 n4=>?_];erw[_,Z,l1,D,_,zs,Z,Z,aE.of n4.at',aE.of (n4.same _ _ d3),EB _ (by simp;lia),λl2 H5 n5=>?_];erw[df Z,λl3 H6 n6=>?_];erw[l2,l3,_,_,Z,Z,aE.of (n6.same _ _ n5.at'),aE.of n6.at',EB _ (by simp;lia),λl H7 n7=>?_];have Pt:aF H H6:=n1.same.trans (s3.trans (n4.same.trans (n5.same.trans n6.same)));have nl:H l=none:=by cases e:H l with |none=>rfl |some o=>have:=Pt _ _ e;rw[n7.no]at this;cases this
    erw[k l _ H7 nl n7.at' ?_ (Pt.trans n7.same)];rw[_O.a0r j aA cP,oK,oK];exact((cN (rN H7) dI).append (aP.mono (n4.same.trans (n5.same.trans (n6.same.trans n7.same))) _ r3)).append (cN (rN H7) dI)
inductive acJ(K:aa)(vs:List V)(H:Hp)(Q:VK):Prop |mk (m:_)(iv:_)(l:_)(ys:_)(rs:_)(r:_)(f:_)(j:_)(t:_)(ds:_)(os:_)(g:_)(h0:vs=[m,iv,.ref l])(h1:RD K H m (jw rs r f j t))(h2:qc rs r f j t)(h3:RD K H iv (.list ds))(h4:iB rs.length ds os)(h5:ds.length<=30)(h6:H l=some (.lst ys))(h7:aP K H ys ((lst os.length g).map fN))(h8:(∀i,i<=os.length->Bd 900 (g i)))(h9:∀l ys H',H l=none->H' l=some (.lst ys)->aP K H' ys ((lst os.length (fl os.length (leadF os) (2*f) g)).map fN)->aF H H'->Q (.ref l) H')
def Nr(K:aa):Sp:=λvs H Q _=>acJ K vs H Q
theorem a25(F:FA K mg "kept_by_fall" Ga)(B:bK mg)(ou:aG P w K mg aw "is_line" 1 (vC K))(pD:aG P w K mg aw "lead_of" 1 (sX K))(wJ:aG P w K mg aw "plus_whole" 4 (B0 K))(wK:aG P w K mg aw "least" 2 (oW K)):aG P w K mg aw "kept_by_fall" 5 (Nr K):=by
 erw[F.has P4 (λvs H Q E h=>?_) (λ_ _ _ _ _ _=>kX λ_ _ _=>rfl) (λfa aI A outer s H vs Q E hr h=>?_)]
 · let(m,iv,l,ys,rs,r,f,j,t,ds,os,g,rfl,_):=h
   rfl
 · let(m,iv,l,ys,rs,r,f,j,t,ds,os,g,rfl,rm,aM,ri,row,hz,dl,Zf,bg,k):=h
   have nd:=P4.nd;erw[_,(aD (pS 3 nd (px K (pv 0) aB)) (aD (pS 4 nd (cI (x:="list") (ID K Z) Z (B.at "list") VJ (ao (pv 2) az))) (aD (mq jI Z (ZX Z (B.at "reversed") (ao (cI (x:="range") aak rfl (B.at "range") PyProof.Rows.boot_range (ao (dS K B (ao (pv 1) az)) az)) az)) (bj 5 nd) (aJ (bL (cO (pf ou hr (ao (px K (pv 1) (pv 5)) az))) (aJ (fh (pf wK hr (ao (fA (ao (px K (pv 4) (pv 5)) (ao (pf wJ hr (ao (px K (pv 4) (aQ dv (pv 5) aB)) (ao (aQ cc (aQ cc aB (pv 3)) (pf pD hr (ao (px K (pv 1) (pv 5)) az))) az))) az))) az)) (yz (pv 4) (pv 5) set_list))) bO))) (aJ (aW (pv 4)))))),?_];let(ma,mb,rfl,jd,jV):=nY rm;let(ia,xs,rfl,hi,lO):=ri.lst_inv;have lx:=lO.length;have ll:=row.len;have lr:=aM.len;have hL:∀i m,leadF os i=some m->(2*f*(m:Int)).natAbs<2^24:=λi m e=>Wu aM.f1.1 aM.f1.2 (a4e row.BF e);have FB:∀i,i<=os.length->Bd 1700 (fl os.length (leadF os) (2*f) g i):=λi hi=>(a81 bg hL i hi).mono au;erw[_,Z,.inr #[ma,_,2,.int f,Z,Z,jd,Z,?_]];erw[_,Z,l,ys,Z,.inl (aE.of dl),λD H1 n1=>?_];erw[_,Z,ia,_,Z,.inl (hi.go n1.same),_,Z,λpr H2 n2=>?_];erw[pr,_,Z,n2.at',au,au,?_];have eN:((xs.length:Int)).toNat=os.length:=by lia
   rw[eN];erw[a7W (Pv:=λi O H5=>aF H H5/\∃zs v1,H5 D=some (.lst zs)/\aP K H5 zs ((lst os.length λk=>if os.length<=k+i then fl os.length (leadF os) (2*f) g k else g k).map fN)/\O=[some (.ref ma),some (.ref ia),some (.ref l),some (.int f),some (.ref D),v1]) ?_ ?_ ?_]
   · erw[n1.same.trans n2.same,ys,none,n2.same _ _ n1.at',?_,Z]
     rw[Iy (g:=λk=>if os.length<=k+0 then fl os.length (leadF os) (2*f) g k else g k) (g':=g)]
     ·erw[aP.mono (n1.same.trans n2.same) _ Zf]
     · intro k hk
       show g k=if os.length<=k+0 then _ else g k;split
       · next h => have:k=os.length:=by lia
                   subst this;erw[CL.symm]
       ·rfl
   · rintro i O H3 SH ⟨s3,zs,v1,dz,rz,rfl⟩
     obtain⟨x,hx⟩:∃x,xs[os.length-1-i]? =some x:=#[_,cB (show os.length-1-i<xs.length by lia)];generalize hc:os.length-1-i=c at hx;have wO:c<os.length:=by lia
     have eI:((os.length:Int)-1-(i:Int))=(c:Int):=by lia
     rw[eI];let(d,ed,rd):=lO.get' c hx;let(o,eo,it):=row.get ed;have lz:=rz.length;rw[bW,u7]at lz;have V6:fb xs (c:Int)=some x:=cL au (by simpa using hx);erw[_,Z,_,Z,.inl #[ia,_,_,_,Z,Z,hi.go s3,V6,?_]];erw[x,d,o,Z,RD.mono s3 _ rd,it,_,Z,?_];cases o with
     |none=>
       erw[bh ?_];erw[s3,zs,_,dz,?_,Z];rw[Iy (g:=λk=>if os.length<=k+(i+1)then fl os.length (leadF os) (2*f) g k else g k) (g':=λk=>if os.length<=k+i then fl os.length (leadF os) (2*f) g k else g k)]
       ·erw[rz]
       · intro k _
         show(if os.length<=k+i then _ else g k)=if os.length<=k+(i+1)then _ else g k;by_cases h1:os.length<=k+i
         ·rw[bu h1,bu au]
         · rw[bo h1]
           by_cases h2:k=c
           ·subst h2;rw[bu au,CK wO (a4d eo)]
           ·rw[bo au] |some q=>
       let(ns,sp):=q;erw[bF ?_];have lY:=pA it;subst lY;let(cU,_,_):=row.ok c ns sp eo;obtain⟨z1,TH⟩:∃z,zs[c+1]? =some z:=#[_,cB (show c+1<zs.length by lia)];obtain⟨z0,TK⟩:∃z,zs[c]? =some z:=#[_,cB (show c<zs.length by lia)];have R1:cg K H3 z1 (fl os.length (leadF os) (2*f) g (c+1)):=by
        let(d1,e1,r1):=rz.get' (c+1) TH;rw[cj,u9 _ (show c+1<=os.length by lia)]at e1;cases e1;have:os.length<=c+1+i:=by lia
        simp only[bu this]at r1;erw[qB r1]
       have R0:cg K H3 z0 (g c):=by
        let(d1,e1,r1):=rz.get' c TK;rw[cj,u9 _ (show c<=os.length by lia)]at e1;cases e1;have:¬os.length<=c+i:=by lia
        simp only[bo this]at r1;erw[qB r1]
       have eT1:((c:Int)+1).toNat=c+1:=by lia
       have zS:fb zs ((c:Int)+1)=some z1:=cL au (by rw[eT1];erw[TH]);have KW:fb zs (c:Int)=some z0:=cL au (by simpa using TK);erw[_,Z,_,Z,.inl #[D,_,_,_,Z,Z,aE.of dz,KW,?_]];erw[_,Z,_,Z,_,_,Z,Z,.inl #[D,_,_,_,Z,Z,aE.of dz,zS,?_]];erw[_,Z,_,_,Z,Z,.of_left (dc ay ay),?_];erw[_,Z,_,Z,.inl #[ia,_,_,_,Z,Z,hi.go s3,V6,?_]];erw[x,ns,sp,Z,RD.mono s3 _ rd,cU.ne,by rw[cU.len];lia,λH4 s4=>?_];have pM:=aM.f1;erw[_,_,Z,Z,.of_left (dc au au),?_];have us:=hL c _ (RS eo);erw[z1,_,_,Z,R1.go s4,(FB (c+1) au).mono ay,us,λu H5 ru s5=>?_];erw[df Z,λl2 H6 n6=>?_];have qA:=s4.trans (s5.trans n6.same);have Vj:=R0.go qA;have Ru:=ru.go n6.same;have B1:Bd 2000 (g c):=(bg _ au).mono ay;have B2:Bd 2000 (fl os.length (leadF os) (2*f) g (c+1)+((2*f*(aK ns:Int):Int):Rat)):=(L1 (FB (c+1) au) us).mono ay;erw[l2,[z0,u],[_,_],Z,aE.of n6.at',#[Vj,B1,Ru,B2,trivial],by simp,λc' v q e1 e2 hq=>?_];have yZ:mn (g c) (fl os.length (leadF os) (2*f) g (c+1)+((2*f*(aK ns:Int):Int):Rat))=q:=by
        erw[yR ?_ (hq _ (by simp)) (hq _ (by simp))]
        match c',e2 with |0,e2=>cases e2;erw[.inl rfl] |1,e2=>cases e2;erw[.inr rfl]
       have Rv:cg K H6 v q:=by match c',e1,e2 with |0,e1,e2=>cases e1;cases e2;erw[Vj] |1,e1,e2=>cases e1;cases e2;erw[Ru]
       have Ud:=qA _ _ dz;have ix0:kx zs.length (c:Int)=some c:=by unfold kx;rw[bu au,bu au];simp
       erw[_,Z,_,Z,D,zs,_,_,Z,Z,Ud,ix0,?_];erw[λb o e=>?_,_,_,bQ,?_,Z]
       ·rw[aU (iL e n1.no)];erw[qA b o (s3 b o e)]
       · have h:=aP.Yc (i:=c) Ud (aP.mono qA _ rz) Rv.rd (QL _) (yx _)
         rw[<-List.map_set]at h;have e:(lst os.length λk=>if os.length<=k+i then fl os.length (leadF os) (2*f) g k else g k).set c q=lst os.length λk=>if os.length<=k+(i+1)then fl os.length (leadF os) (2*f) g k else g k:=by
          rw[<-a3P (g:=λk=>if os.length<=k+i then fl os.length (leadF os) (2*f) g k else g k) (g':=λk=>if os.length<=k+(i+1)then fl os.length (leadF os) (2*f) g k else g k) (i:=c)]
          · have:os.length<=c+(i+1):=by lia
            simp only[bu this];rw[CM wO (RS eo),yZ]
          · intro k _ hk
            show(if os.length<=k+(i+1)then _ else g k)=if os.length<=k+i then _ else g k;by_cases h1:os.length<=k+i
            ·rw[bu h1,bu au]
            ·rw[bo h1,bo au]
         rw[e]at h;erw[h]
   · rintro O H3 ⟨s3,zs,v1,dz,rz,rfl⟩
     rw[Iy (g:=λk=>if os.length<=k+os.length then fl os.length (leadF os) (2*f) g k else g k) (g':=fl os.length (leadF os) (2*f) g) (λk hk=>by show _=if os.length<=k+os.length then _ else _;rw[bu au])]at rz;erw[_,Z,k D zs H3 n1.no dz rz s3]
def PY(f j aA:Int)(os:List Itm):Rat:=fl os.length (leadF os) (2*f) (ownF j aA os) 1
inductive abX(K:aa)(vs:List V)(H:Hp)(Q:VK):Prop |mk (m:_)(iv:_)(aA:_)(rs:_)(r:_)(f:_)(j:_)(t:_)(ds:_)(os:_)(h0:vs=[m,iv,.int aA])(h1:RD K H m (jw rs r f j t))(h2:qc rs r f j t)(h3:RD K H iv (.list ds))(h4:iB rs.length ds os)(h5:ds.length<=30)(h6:1<=ds.length)(h7:10<=aA)(h8:aA<=200)(h9:∀v H',cg K H' v (PY f j aA os)->aF H H'->Q v H')
def Em(K:aa):Sp:=λvs H Q _=>abX K vs H Q
theorem Ob:bp ["machine","items","rate"] ["machine","items","rate"] (aY Fc):=bE aH
theorem a1v(F:FA K mg "reach_behind_first" Fc)(B:bK mg)(a5o:aG P w K mg aw "own_bounds" 8 (Nc K))(a5M:aG P w K mg aw "kept_by_fall" 5 (Nr K)):aG P w K mg aw "reach_behind_first" 9 (Em K):=by
 erw[F.has Ob (λvs H Q E h=>?_) (λ_ _ _ _ _ _=>kX λ_ _ _=>rfl) (λfa aI A outer s H vs Q E hr h=>?_)]
 ·let(m,iv,aA,rs,r,f,j,t,ds,os,rfl,_):=h
  rfl
 ·let(m,iv,aA,rs,r,f,j,t,ds,os,rfl,rm,aM,ri,row,hz,h1,dM,eF,k):=h
  have nd:=Ob.nd;erw[_,(aJ (aW (px K (pf a5M hr (ao (pv 0) (ao (pv 1) (ao (pf a5o hr (ao (pv 0) (ao (pv 1) (ao (pv 2) az)))) az)))) aB))),?_];have ll:=row.len;have hB:=_O.Qs aM.j1.1 aM.j1.2 dM eF row.BF;erw[_,Z,_,Z,_,Z,_,Z,_,Z,m,iv,aA,rs,r,f,j,t,ds,os,Z,rm,aM,ri,row,au,dM,eF,λl1 y1 H1 QQ d1 r1 s1=>?_];erw[m,iv,l1,y1,rs,r,f,j,t,ds,os,ownF j aA os,Z,RD.mono s1 _ rm,aM,RD.mono s1 _ ri,row,hz,d1,r1,λi _=>(hB i).mono ay,λl2 y2 H2 QP d2 r2 s2=>?_];have ly:=r2.length;rw[bW,u7]at ly;obtain⟨z,ez⟩:∃z,y2[1]? =some z:=#[_,cB (show 1<y2.length by lia)];erw[.inl #[l2,_,1,z,Z,Z,aE.of d2,cL ay ez,?_]];let(d,ed,rd):=r2.get' 1 ez;rw[cj,u9 _ (show 1<=os.length by lia)]at ed;cases ed;erw[k z H2 (qB rd) (s1.trans s2)]
end
end _a
namespace _a
open PySem PySem.Spec PyProof.Rows _L _l _W
open _O (Itm)
section
theorem a3x{H:Hp}{v:V}{rs:List Int}{es:List ag}(h:RD K H v (.tuple (.tuple (rs.map PyData.int)::es))):∃a b ys,v= .ref a/\bc K H a (.ref b::ys)/\bc K H b (rs.map V.int):=by let(a,xs,rfl,h1,h2):=h.cT;let(x1,r1,rfl,e1,h2):=h2.cons_inv;let(b,ys,rfl,h3,h4):=e1.cT;rw[h4.fE]at h3;erw[a,b,r1,Z,h1,h3]
def iq(z:Str):ag->Bool | .str x=>x==z |_=>false
theorem CO(z:Str)(d:ag):PyData.eqv d (.str z)=iq z d:=by cases d<;>simp[PyData.eqv,iq]
theorem TM(z:Str)(d:ag):PyData.eqv (.str z) d=iq z d:=by cases d<;>simp[PyData.eqv,iq];rw[kb];simp;erw[eq_comm]
theorem XC(d:ag):(∃z,d= .str z)\/(jK (m9 d) "str"=false/\∀z,d≠ .str z):=by cases d with |str z=>erw[.inl #[z,Z]] |_=>erw[.inr #[by simp[m9];decide,λ_ z=>nomatch z]]
theorem WC:jK "str" "str"=true:=by decide
def IW(d:ag):Bool:=iq "up" d||iq "down" d
def we(c:Nat):Bool:=decide (97<=c)&&decide (c<=122)
def isNm:ag->Bool | .str x=>(decide (1<=x.length)&&decide (x.length<=8))&&x.cps.toList.all we |_=>false
def pC(wd v:ag):Bool:=if iq "wait" wd then cZ 1 1000 v else if iq "tool" wd then IW v else iq "mark" wd&&isNm v
def yG:ag->Bool | .int i=>i !=0 |_=>true
def tT(n:Nat):ag->Bool | .tuple ds=>(ds.length==n&&ds.all (cZ (-100) 100))&&ds.any yG |_=>false
def mH(n:Nat):ag->Bool | .tuple [wd,a,b]=>iq "line" wd&&(tT n a&&cZ 1 20 b) | .tuple [wd,v]=>pC wd v |_=>false
def ki:ag->Bool | .str x=>decide (x.length<=900) |_=>true
def Bb:ag->Bool | .tuple ds=>ds.all ki |_=>true
inductive abC(f:ag->Bool)(K:aa)(vs:List V)(H:Hp)(Q:VK):Prop |mk (v:_)(d:_)(h0:vs=[v])(h1:RD K H v d)(h2:ki d=true)(h3:∀H',aF H H'->Q (.bl (f d)) H')
def MP(f:ag->Bool)(K:aa):Sp:=λvs H Q _=>abC f K vs H Q
theorem Y6{z:Str}(h:ki (.str z)=true):z.length<=900:=jY h
theorem QW(n:Nat):decide ((1:Int)<=(n:Int))=decide (1<=n):=by rw[kb];simp;omega
theorem a38(n:Nat):decide ((n:Int)<=8)=decide (n<=8):=by rw[kb];simp;omega
theorem Vd{l:List Nat}{f:Nat->Bool}:(l.map f).all id=l.all f:=by rw[List.all_map];rfl
theorem ab8:∀c<128,decide (c∈jE.cps.toList)=we c:=by decide+kernel
theorem abb:∀c∈jE.cps.toList,c<128:=by decide+kernel
theorem aba(c:Nat):decide (c∈jE.cps.toList)=we c:=by
 by_cases h:c<128
 ·erw[ab8 c h]
 ·rw[cD (λhc=>h (abb c hc)),we,cD (show¬c<=122 by omega),Bool.and_false]
theorem OW:bp ["thing"] ["thing"] (aY G3):=bE aH
theorem a1Y(F:FA K mg "is_name" G3)(B:bK mg)(a6J:GV mg "LONGEST_NAME" (.int 8))(a6K:GV mg "LETTERS" (.str jE)):aG P w K mg aw "is_name" 1 (MP isNm K):=by
 erw[F.has OW (λvs H Q E h=>?_) (λ_ _ _ _ _ _=>dw λ_=>rfl) (λf aI A outer s H vs Q E hr h=>?_)]
 ·let(v,d,rfl,_):=h
  rfl
 ·let(v,d,rfl,rd,sh,k):=h
  have nd:=OW.nd;erw[_,(aD (bL (PW.pt (iU (dj (cO (nR K B (ao (pv 0) (ao (nQ (x:="str") (v:=.ty "str") Z (B.at "str") gp rfl) az))))) (jt (dj (ZJ yC yC aB (fK (x:="len") aan rfl (B.at "len") PySem.boot_len (ao (pv 0) az)) (fX (x:="LONGEST_NAME") rfl a6J)))))) (aJ (aW ju)) bO) (aJ (aW (fK (x:="all") (xh K Z Z) Z (B.at "all") Ad (ao (fi (N:=["letter"]) (js:=[none]) rfl rfl rfl (Qh (pv 0)) (λ_ _ _ _ _=>(bj 0 (jb _))) (λ_ _ _ _ _=>dJ) (λ_ _ _ _ _=>(fj Qv (pv 0) (fX (x:="LETTERS") rfl a6K) (by with_unfolding_all rfl)))) az))))),?_];rcases XC d with⟨z,rfl⟩|⟨ht,hn⟩
  ·erw[_,Z,.inl #[_,_,"str",true,Z,rd.ty,ay,WC,_,Z,bh ?_]]
   cases rd.str_inv;have hl:=Y6 sh;have k:∀H',aF H H'->Q (.bl ((decide (1<=z.length)&&decide (z.length<=8))&&z.cps.toList.all we)) H':=k;erw[_,Z,z,Z,j7 hl ay,_,_,Z,Z,_,Z,?_];erw[gy (λh1=>?_) (λh1=>?_)]
   ·rw[<-QW,show decide ((1:Int)<=(z.length:Int))=true from h1,jl]at k
    erw[_,_,Z,Z,_,Z,?_];rw[a38];cases e8:decide (z.length<=8)with |false=>rw[e8,jm]at k;erw[bF (k H (aF.refl _))] |true=>
     rw[e8,jl]at k;erw[bh #[_,Z,z,Z,λD H0 nw=>?_]];erw[UB (f:=we) [] nw au (λc H2 Q' hc s2 hq=>?_) (λH2 s2 d2=>?_)]
     ·erw[_,Z,c,jE,Z,Z,?_]
      rw[aba];erw[hq _ (aF.refl _)]
     ·erw[D,_,Z,aE.of d2,?_]
      rw[Vd];erw[k H2 s2]
   ·rw[<-QW,show decide ((1:Int)<=(z.length:Int))=false from DU.mpr h1,jm,jm]at k
    erw[_,Z,bF (k H (aF.refl _))]
  ·have e:isNm d=false:=by cases d<;>first|rfl|erw[absurd rfl (hn _)]
   rw[e]at k;erw[_,Z,.inl #[_,_,"str",false,Z,rd.ty,ay,ht,_,Z,bF ?_]];erw[k H (aF.refl _)]
inductive abN(K:aa)(vs:List V)(H:Hp)(Q:VK):Prop |mk (x:_)(v:_)(wd:_)(d:_)(h0:vs=[x,v])(h1:RD K H x wd)(h2:RD K H v d)(h3:dy 8 wd)(h4:dy 8 d)(h5:ki d=true)(h6:∀H',aF H H'->Q (.bl (pC wd d)) H')
def MV(K:aa):Sp:=λvs H Q _=>abN K vs H Q
theorem yi{d:ag}(h:dy 8 d):SeqAt.shaped d=true:=h.shaped ay
theorem OU:bp ["word","value"] ["word","value"] (aY G1):=bE aH
theorem a1W(F:FA K mg "is_short_item" G1)(B:bK mg)(a6H:GV mg "LONGEST_WAIT" (.int 1000))(gS:GT K mg "SIDES" [.str "up",.str "down"])(iV:aG P w K mg aw "is_whole_within" 2 (mh K))(a5S:aG P w K mg aw "is_name" 1 (MP isNm K)):aG P w K mg aw "is_short_item" 3 (MV K):=by
 erw[F.has OU (λvs H Q E h=>?_) (λ_ _ _ _ _ _=>dF λ_ _=>rfl) (λf aI A outer s H vs Q E hr h=>?_)]
 ·let(x,v,wd,d,rfl,_):=h
  rfl
 ·let(x,v,wd,d,rfl,Gz,rd,HI,wc,sh,k):=h
  have nd:=OU.nd;let(aS,a6C,XU):=gS;erw[_,(aD (bL (bU (dW K Z hr.units) (pv 0) bf (bB _)) (aJ (aW (pf iV hr (ao (pv 1) (ao aB (ao (fX (x:="LONGEST_WAIT") Z a6H) az)))))) bO) (aD (bL (bU (dW K Z hr.units) (pv 0) bf (bB _)) (aJ (aW (fj (a4Q K Z (hr.Wy)) (pv 1) (fX (x:="SIDES") Z a6C) (by with_unfolding_all rfl)))) bO) (aJ (aW (lF (fj (dW K Z hr.units) (pv 0) bf (bB _)) (mx (pf a5S hr (ao (pv 1) az)))))))),?_];have k:∀H',aF H H'->Q (.bl (if iq "wait" wd then cZ 1 1000 d else if iq "tool" wd then IW d else iq "mark" wd&&isNm d)) H':=k;erw[_,Z,.inr #[_,_,Gz,bT _,yi HI,aH,_,Z,?_]];rw[CO];cases e1:iq "wait" wd with |true=>rw[e1,bu rfl]at k;erw[bF #[_,Z,_,d,1,1000,Z,rd,k H (aF.refl _)]] |false=>rw[e1,bo dR]at k;erw[bh #[_,Z,.inr #[_,_,Gz,bT _,yi HI,aH,_,Z,?_]]];rw[CO];cases e2:iq "tool" wd with
   |true=>
    rw[e2,bu rfl]at k;erw[bF #[_,Z,aS,_,d,[.str "up",.str "down"],Z,XU H,rd,cN (bT _) (cN (bT _) dI),yi wc,?_,?_]]
    ·intro e he
     rcases bJ.mp he with rfl|he
     ·decide+kernel
     rcases bJ.mp he with rfl|he
     ·decide+kernel
     ·exact(bZ he).elim
    ·have e:([.str "up",.str "down"]:List ag).any (λe=>PyData.eqv e d)=IW d:=by rw[qp,qp,List.any_nil,TM,TM,Bool.or_false];rfl
     rw[e];erw[k H (aF.refl _)] |false=>rw[e2,bo dR]at k;erw[bh #[_,Z,.inr #[_,_,Gz,bT _,yi HI,aH,_,Z,?_]]];rw[CO];cases e3:iq "mark" wd with |true=>rw[e3,jl]at k;erw[bF #[_,Z,_,d,Z,rd,sh,k]] |false=>rw[e3,jm]at k;erw[bh (k H (aF.refl _))]
theorem a2u(i:Int):(!decide (i=0))=(i !=0):=by rw[kb];simp
theorem a4P{lo hi:Int}{d:ag}(h:cZ lo hi d=true):∃i,d= .int i:=by cases d<;>simp[cZ]at h;erw[_,Z]
theorem any_map'{ds:List ag}{f:ag->Bool}:(ds.map f).any id=ds.any f:=by rw[List.any_map];rfl
inductive abM(K:aa)(vs:List V)(H:Hp)(Q:VK):Prop |mk (m:V)(v:V)(rs:List Int)(es:List ag)(d:ag)(h0:vs=[m,v])(h1:RD K H m ((.tuple (.tuple (rs.map PyData.int)::es))))(h2:RD K H v d)(h3:rs.length<=3)(h4:∀H',aF H H'->Q (.bl (tT rs.length d)) H')
def MU(K:aa):Sp:=λvs H Q _=>abM K vs H Q
theorem Ph:bp ["machine","thing","rails"] ["machine","thing"] (aY Gn):=bE aH
theorem a2g(F:FA K mg "are_steps" Gn)(B:bK mg)(SV:GV mg "MOST_STEPS" (.int 100))(iV:aG P w K mg aw "is_whole_within" 2 (mh K)):aG P w K mg aw "are_steps" 3 (MU K):=by
 erw[F.has Ph (λvs H Q E h=>?_) (λ_ _ _ _ _ _=>dF λ_ _=>rfl) (λf aI A outer s H vs Q E hr h=>?_)]
 ·let(m,v,rs,es,d,rfl,_):=h
  rfl
 ·let(m,v,rs,es,d,rfl,rm,rd,l3,k):=h
  have nd:=Ph.nd;erw[_,(aD (pS 2 nd (px K (pv 0) aB)) (aD (bL (PW.pt (iU (dj (cO (nR K B (ao (pv 1) (ao (nQ (x:="tuple") (v:=.ty "tuple") Z (B.at "tuple") j6 rfl) az))))) (jt (bU (mC K rfl hr.units) (dS K B (ao (pv 1) az)) (dS K B (ao (pv 2) az)) (bB _))))) (aJ (aW ju)) bO) (aD (bL (dj (cO (fK (x:="all") (xh K Z Z) Z (B.at "all") Ad (ao (fi (N:=["step"]) (js:=[none]) rfl rfl rfl (ko K rfl (pv 1)) (λ_ _ _ _ _=>(bj 0 (jb _))) (λ_ _ _ _ _=>dJ) (λ_ _ _ _ _=>(pf iV hr (ao (pv 0) (ao (kO kI (fX (x:="MOST_STEPS") rfl SV)) (ao (fX (x:="MOST_STEPS") rfl SV) az)))))) az)))) (aJ (aW ju)) bO) (aJ (aW (fK (x:="any") (aaS K Z Z) Z (B.at "any") VL (ao (fi (N:=["step"]) (js:=[none]) rfl rfl rfl (ko K rfl (pv 1)) (λ_ _ _ _ _=>(bj 0 (jb _))) (λ_ _ _ _ _=>dJ) (λ_ _ _ _ _=>(fj (mC K rfl hr.units) (pv 0) aB (bB _)))) az))))))),?_];let(am,ar,ym,rfl,hm,har):=a3x rm;erw[_,Z,.inr #[am,_,0,_,Z,Z,hm,cL (eg 0) Z,?_]];rcases xU d with⟨ds,rfl⟩|⟨ht,hn⟩
  ·erw[_,Z,.inl #[_,_,"tuple",true,Z,rd.ty,ay,qv,_,Z,bh ?_]]
   let(av,xs,rfl,hx,hd):=rd.cT;have hl:=hd.length;erw[_,Z,av,_,Z,.inr hx,_,Z,ar,_,Z,.inr har,.inl #[_,_,Z,Z,_,Z,?_]];have k:∀H',aF H H'->Q (.bl ((ds.length==rs.length&&ds.all (cZ (-100) 100))&&ds.any yG)) H':=k;have e0:(!decide ((xs.length:Int)=((rs.map V.int).length:Int)))= !(ds.length==rs.length):=by rw[hl,bW];congr 1;rw[kb];simp;lia
   rw[e0];cases e:(ds.length==rs.length)with |false=>rw[e,jm,jm]at k;erw[bF (k H (aF.refl _))] |true=>
    rw[e,jl]at k;erw[bh ?_];have el:ds.length=rs.length:=fV.mp e;erw[_,Z,av,Z,#[_,hx],λD H0 nw=>?_];erw[Dj (xs:=xs) (bs:=ds.map (cZ (-100) 100)) [] hx nw (by rw[bW,hl]) au ?_ ?_]
    ·intro i x b H2 Q' ex eb s2 hq
     let(d,ed,rfl):=BR eb;let(x',gz,rx):=hd.get i ed;rw[ex]at gz;cases gz;erw[_,Z,_,Z,_,d,-100,100,Z,RD.mono s2 _ rx,hq _ (aF.refl _)]
    ·intro H2 s2 d2
     erw[D,_,Z,aE.of d2,_,Z,?_];rw[all_map];cases e1:ds.all (cZ (-100) 100)with |false=>rw[e1,jm]at k;erw[bF (k H2 s2)] |true=>
      rw[e1,jl]at k;erw[bh #[_,Z,av,Z,#[_,hx.go s2],λD2 H3 n3=>?_]];erw[Dj (xs:=xs) (bs:=ds.map yG) [] (hx.go s2) n3 (by rw[bW,hl]) au ?_ ?_]
      ·intro i x b H4 Q' ex eb s4 hq
       let(d,ed,rfl):=BR eb;let(x',gz,rx):=hd.get i ed;rw[ex]at gz;cases gz;let(z,rfl):=a4P (gP.mp e1 d (gf ed));cases rx.int_inv;erw[_,Z,.inl #[_,_,Z,Z,?_]];show Q' (.bl (!decide (z=0))) H4;rw[a2u];erw[hq _ (aF.refl _)]
      ·intro H4 s4 d4
       erw[D2,_,Z,aE.of d4,?_];rw[any_map'];erw[k H4 (s2.trans s4)]
  ·have e:tT rs.length d=false:=by cases d<;>first|rfl|erw[absurd rfl (hn _)]
   rw[e]at k;erw[_,Z,.inl #[_,_,"tuple",false,Z,rd.ty,ay,ht,_,Z,bF ?_]];erw[k H (aF.refl _)]
theorem item_cases(n:Nat)(d:ag):(∃wd a b,d= .tuple [wd,a,b])\/(∃wd v,d= .tuple [wd,v])\/(∃ds,d= .tuple ds/\ds.length≠3/\ds.length≠2/\mH n d=false)\/(jK (m9 d) "tuple"=false/\mH n d=false):=by
 rcases xU d with⟨ds,rfl⟩|⟨ht,hn⟩
 ·match ds with |[r,a,b]=>erw[.inl #[r,a,b,Z]] |[r,a]=>erw[.inr (.inl #[r,a,Z])] |[]=>erw[.inr (.inr (.inl #[_,Z,by simp,by simp,by simp[mH]]))] |[_]=>erw[.inr (.inr (.inl #[_,Z,by simp,by simp,by simp[mH]]))] |_::_::_::_::_=>erw[.inr (.inr (.inl #[_,Z,by simp,by simp,by simp[mH]]))]
 ·erw[.inr (.inr (.inr #[ht,by cases d<;>first|rfl|erw[absurd rfl (hn _)]]))]
inductive acz(K:aa)(vs:List V)(H:Hp)(Q:VK):Prop |mk (m:V)(v:V)(rs:List Int)(es:List ag)(d:ag)(h0:vs=[m,v])(h1:RD K H m ((.tuple (.tuple (rs.map PyData.int)::es))))(h2:RD K H v d)(h3:rs.length<=3)(h4:dy 8 d)(h5:Bb d=true)(h6:∀H',aF H H'->Q (.bl (mH rs.length d)) H')
def B9(K:aa):Sp:=λvs H Q _=>acz K vs H Q
theorem HP{ds:List ag}(h:dy 8 (.tuple ds)){d:ag}(hd:d∈ds):dy 8 d:=((dy.cT (n:=7) h) d hd).le ay
theorem Y7{ds:List ag}(h:Bb (.tuple ds)=true){d:ag}(hd:d∈ds):ki d=true:=gP.mp (show ds.all ki=true from h) d hd
theorem OY:bp ["machine","thing","word","steps","speed","value"] ["machine","thing"] (aY G5):=bE aH
theorem a20(F:FA K mg "is_item" G5)(B:bK mg)(Jz:GV mg "GREATEST_SPEED" (.int 20))(iV:aG P w K mg aw "is_whole_within" 2 (mh K))(a6x:aG P w K mg aw "are_steps" 3 (MU K))(a5R:aG P w K mg aw "is_short_item" 3 (MV K)):aG P w K mg aw "is_item" 4 (B9 K):=by
 erw[F.has OY (λvs H Q E h=>?_) (λ_ _ _ _ _ _=>dF λ_ _=>rfl) (λf aI A outer s H vs Q E hr h=>?_)]
 ·let(m,v,rs,es,d,rfl,_):=h
  rfl
 ·let(m,v,rs,es,d,rfl,rm,rd,l3,wc,sh,k):=h
  have nd:=OY.nd;erw[_,(aD (bL (dj (cO (nR K B (ao (pv 1) (ao (nQ (x:="tuple") (v:=.ty "tuple") Z (B.at "tuple") j6 rfl) az))))) (aJ (aW ju)) bO) (aD (bL (bU (dW K Z hr.units) (dS K B (ao (pv 1) az)) aB (bB _)) (aD (fh (pv 1) (eB K Z (n:=3) Z (bS (bj 2 nd) (bS (bj 3 nd) (bS (bj 4 nd) ek))))) (aJ (aW (lF (fj (dW K Z hr.units) (pv 2) bf (bB _)) (lF (pf a6x hr (ao (pv 0) (ao (pv 3) az))) (mx (pf iV hr (ao (pv 4) (ao aB (ao (fX (x:="GREATEST_SPEED") Z Jz) az)))))))))) bO) (aD (bL (bU (dW K Z hr.units) (dS K B (ao (pv 1) az)) aB (bB _)) (aD (fh (pv 1) (eB K Z (n:=2) Z (bS (bj 2 nd) (bS (bj 5 nd) ek)))) (aJ (aW (pf a5R hr (ao (pv 2) (ao (pv 5) az)))))) bO) (aJ (aW ju))))),?_];rcases item_cases rs.length d with⟨wd,a,b,rfl⟩|⟨wd,a,rfl⟩|⟨ds,rfl,h3,h2,hf⟩|⟨ht,hf⟩
  ·erw[_,Z,.inl #[_,_,"tuple",true,Z,rd.ty,ay,qv,_,Z,bh ?_]]
   let(p,xs,rfl,hx,hd):=rd.cT;let(u1,ys,rfl,r1,hd):=hd.cons_inv;let(u2,ys,rfl,r2,hd):=hd.cons_inv;let(u3,ys,rfl,r3,hd):=hd.cons_inv;cases hd.nil_inv;have k:∀H',aF H H'->Q (.bl (iq "line" wd&&(tT rs.length a&&cZ 1 20 b))) H':=k;erw[_,Z,p,_,Z,.inr hx,.inl #[_,_,Z,Z,_,Z,bF ?_]];erw[_,Z,p,_,Z,hx,Z,_,_,Z,_,_,Z,_,_,Z,Z,?_];erw[_,Z,.inr #[_,_,r1,bT _,yi (HP wc (by simp)),aH,_,Z,?_]];rw[CO];cases e1:iq "line" wd with |false=>rw[e1,jm]at k;erw[bh (k H (aF.refl _))] |true=>rw[e1,jl]at k;erw[bF #[_,Z,_,Z,_,_,rs,es,a,Z,rm,r2,l3,λH1 s1=>#[_,Z,?_]]];cases e2:tT rs.length a with |false=>rw[e2,jm]at k;erw[bh (k H1 s1)] |true=>rw[e2,jl]at k;erw[bF #[_,Z,_,b,1,20,Z,RD.mono s1 _ r3,k H1 s1]]
  ·erw[_,Z,.inl #[_,_,"tuple",true,Z,rd.ty,ay,qv,_,Z,bh ?_]]
   let(p,xs,rfl,hx,hd):=rd.cT;let(u1,ys,rfl,r1,hd):=hd.cons_inv;let(u2,ys,rfl,r2,hd):=hd.cons_inv;cases hd.nil_inv;have k:∀H',aF H H'->Q (.bl (pC wd a)) H':=k;erw[_,Z,p,_,Z,.inr hx,.inl #[_,_,Z,Z,_,Z,bh ?_]];erw[_,Z,p,_,Z,.inr hx,.inl #[_,_,Z,Z,_,Z,bF ?_]];erw[_,Z,p,_,Z,hx,Z,_,_,Z,_,_,Z,Z,?_];erw[_,Z,_,Z,_,_,wd,a,Z,r1,r2,HP wc (by simp),HP wc (by simp),Y7 sh (by simp),k]
  ·rw[hf]at k
   erw[_,Z,.inl #[_,_,"tuple",true,Z,rd.ty,ay,qv,_,Z,bh ?_]];let(p,xs,rfl,hx,hd):=rd.cT;have hl:=hd.length;erw[_,Z,p,_,Z,.inr hx,.inl #[_,_,Z,Z,_,Z,?_]];rw[show decide ((xs.length:Int)=3)=false from cD au];erw[bh #[_,Z,p,_,Z,.inr hx,.inl #[_,_,Z,Z,_,Z,?_]]];rw[show decide ((xs.length:Int)=2)=false from cD au];erw[bh (k H (aF.refl _))]
  ·rw[hf]at k
   erw[_,Z,.inl #[_,_,"tuple",false,Z,rd.ty,ay,ht,_,Z,bF ?_]];erw[k H (aF.refl _)]
def IX(rs:List Int):ag->Bool | .tuple es=>es.length==rs.length&&((es.zip rs).map λp=>cZ 0 p.2 p.1).all id |_=>false
inductive acD(K:aa)(vs:List V)(H:Hp)(Q:VK):Prop |mk (m:V)(v:V)(rs:List Int)(ds:List ag)(d:ag)(h0:vs=[m,v])(h1:RD K H m (.tuple (.tuple (rs.map PyData.int)::ds)))(h2:RD K H v d)(h3:rs.length<=3)(h4:∀H',aF H H'->Q (.bl (IX rs d)) H')
def ye(K:aa):Sp:=λvs H Q _=>acD K vs H Q
theorem zip_get{es:List ag}{rs:List Int}{i:Nat}{b:Bool}(h:((es.zip rs).map λp=>cZ 0 p.2 p.1)[i]? =some b):∃e r,es[i]? =some e/\rs[i]? =some r/\cZ 0 r e=b:=by rw[cj]at h;cases q:(es.zip rs)[i]? with |none=>rw[q]at h;cases h |some p=>rw[q]at h;let(e1,e2):=Ah.mp q;erw[p.1,p.2,e1,e2,dQ h]
theorem ints_get{rs:List Int}{i:Nat}{r:Int}(h:rs[i]? =some r):(rs.map V.int)[i]? =some (.int r):=by rw[cj,h];rfl
theorem OV:bp ["machine","thing","rails"] ["machine","thing"] (aY G2):=bE aH
theorem a1X(F:FA K mg "is_place" G2)(B:bK mg)(iV:aG P w K mg aw "is_whole_within" 2 (mh K)):aG P w K mg aw "is_place" 3 (ye K):=by
 erw[F.has OV (λvs H Q E h=>?_) (λ_ _ _ _ _ _=>dF λ_ _=>rfl) (λf aI A outer s H vs Q E hr h=>?_)]
 ·let(m,v,rs,ds,d,rfl,_):=h
  rfl
 ·let(m,v,rs,ds,d,rfl,rm,rd,l3,k):=h
  have nd:=OV.nd;erw[_,(aD (pS 2 nd (px K (pv 0) aB)) (aD (bL (PW.pt (iU (dj (cO (nR K B (ao (pv 1) (ao (nQ (x:="tuple") (v:=.ty "tuple") Z (B.at "tuple") j6 rfl) az))))) (jt (bU (mC K rfl hr.units) (dS K B (ao (pv 1) az)) (dS K B (ao (pv 2) az)) (bB _))))) (aJ (aW ju)) bO) (aJ (aW (fK (x:="all") (xh K Z Z) Z (B.at "all") Ad (ao (fi (N:=["number","rail"]) (js:=[none,none]) rfl rfl rfl (lE K rfl false false rfl (B.at "zip") (ao (pv 1) (ao (pv 2) az))) (λ_ _ _ _ _=>(eB K rfl (n:=2) rfl (bS (bj 0 (fZ ay)) (bS (bj 1 (fZ ay)) ek)))) (λ_ _ _ _ _=>dJ) (λ_ _ _ _ _=>(pf iV hr (ao (pv 0) (ao aB (ao (pv 1) az)))))) az)))))),?_];let(am,xm,rfl,hm,hdm):=rm.cT;let(yr,ym,rfl,r1,aez):=hdm.cons_inv;let(ar,xr,rfl,Cg,hdr):=r1.cT;cases hdr.fE;erw[_,Z,.inr #[am,_,0,_,Z,Z,hm,cL (eg 0) Z,?_]];rcases xU d with⟨es,rfl⟩|⟨ht,hn⟩
  ·erw[_,Z,.inl #[_,_,"tuple",true,Z,rd.ty,ay,qv,_,Z,bh ?_]]
   let(av,xs,rfl,hx,hd):=rd.cT;have hl:=hd.length;erw[_,Z,av,_,Z,.inr hx,_,Z,ar,_,Z,.inr Cg,.inl #[_,_,Z,Z,_,Z,?_]];have k:∀H',aF H H'->Q (.bl (es.length==rs.length&&((es.zip rs).map λp=>cZ 0 p.2 p.1).all id)) H':=k;have e0:(decide ((xs.length:Int)=((rs.map V.int).length:Int)))=(es.length==rs.length):=by rw[hl,bW,kb];simp;lia
   rw[e0];cases e:(es.length==rs.length)with |false=>rw[e,jm]at k;erw[bF (k H (aF.refl _))] |true=>
    rw[e,jl]at k;erw[bh ?_];have el:es.length=rs.length:=fV.mp e;erw[_,Z,_,Z,av,ar,Z,#[_,hx],#[_,Cg],λD H0 nw=>?_];erw[aac (b1:=false) (b2:=false) (xs:=xs) (ys:=rs.map V.int) (bs:=(es.zip rs).map λp=>cZ 0 p.2 p.1) [] rfl hx Cg nw (by rw[bW,bW,List.length_zip,hl]) (by rw[bW,List.length_zip];lia) ?_ ?_]
    ·intro i x y b H2 Q' ex ey eb s2 hq
     let(e',r,ee,er,rfl):=zip_get eb;let(x',gz,rx):=hd.get i ee;rw[ex]at gz;cases gz;rw[ints_get er]at ey;cases ey;erw[_,Z,_,Z,_,e',0,r,Z,RD.mono s2 _ rx,hq _ (aF.refl _)]
    ·intro H2 s2 d2
     erw[D,_,Z,aE.of d2,k H2 s2]
  ·have e:IX rs d=false:=by cases d<;>first|rfl|erw[absurd rfl (hn _)]
   rw[e]at k;erw[_,Z,.inl #[_,_,"tuple",false,Z,rd.ty,ay,ht,_,Z,bF ?_]];erw[k H (aF.refl _)]
inductive aco(K:aa)(vs:List V)(H:Hp)(Q:VK):Prop |mk (pw:_)(b:_)(pl:_)(ns:_)(h0:vs=[pw,.ref b])(h1:RD K H pw (eR pl))(h2:bc K H b (ns.map V.int))(h3:ns.length=pl.length)(h4:pl.length<=1000)(h5:∀v' H',RD K H' v' (eR (dH pl ns))->aF H H'->Q v' H')
def B7(K:aa):Sp:=λvs H Q _=>aco K vs H Q
theorem OD:bp ["place","steps"] ["place","steps"] (aY FK):=bE aH
theorem a1G(F:FA K mg "moved" FK)(B:bK mg):aG P w K mg aw "moved" 1 (B7 K):=by
 erw[F.has OD (λvs H Q E h=>?_) (λ_ _ _ _ _ _=>dF λ_ _=>rfl) (λf aI A outer s H vs Q E hr h=>?_)]
 ·let(pw,b,pl,ns,rfl,_):=h
  rfl
 ·let(pw,b,pl,ns,rfl,rp,hb,ln,hz,k):=h
  have nd:=OD.nd;erw[_,(aJ (aW (cI (x:="tuple") (kh K Z) Z (B.at "tuple") j6 (ao (fi (N:=["number","step"]) (js:=[none,none]) rfl rfl rfl (lE K rfl false false rfl (B.at "zip") (ao (pv 0) (ao (pv 1) az))) (λ_ _ _ _ _=>(eB K rfl (n:=2) rfl (bS (bj 0 (fZ ay)) (bS (bj 1 (fZ ay)) ek)))) (λ_ _ _ _ _=>dJ) (λ_ _ _ _ _=>(aQ dv (pv 0) (pv 1)))) az)))),?_];let(pa,rfl,hp):=Qf rp;erw[_,Z,_,Z,pa,b,Z,#[_,hp],#[_,hb],λD H1 n1=>?_];erw[zL (K:=K) (b1:=false) (b2:=false) (xs:=pl.map V.int) (ys:=ns.map V.int) (ds:=(dH pl ns).map PyData.int) [] rfl hp hb n1 (by simp[ny ln,ln]) (by rw[bW,ny ln];erw[hz]) (jT _) ?_ ?_]
  ·intro i x y d H2 Q' ex ey ed s2 hq
   let(m,em,rfl):=kR ed;rw[cj]at ex ey;cases e1:pl[i]? with |none=>rw[e1]at ex;cases ex |some u=>cases e2:ns[i]? with |none=>rw[e2]at ey;cases ey |some v=>rw[e1]at ex;rw[e2]at ey;cases ex;cases ey;rw[zU e1 e2]at em;cases em;erw[_,Z,_,Z,_,_,Z,Z,hq _ _ (aF.refl _) (fz _)]
  ·intro H2 zs s2 d2 r2
   erw[D,_,Z,.inl #[aE.of d2,λt H3 n3=>?_]];have et:=n3.at';rw[r2.fE]at et;erw[k (.ref t) H3 (Qe (bc.of et)) (s2.trans n3.same)]
inductive acT(K:aa)(vs:List V)(H:Hp)(Q:VK):Prop |mk (pw:_)(iv:_)(pl:_)(d:_)(o:_)(h0:vs=[pw,iv])(h1:RD K H pw (eR pl))(h2:RD K H iv d)(h3:itR d o)(h4:(∀ns sp,o=some (ns,sp)->ns.length=pl.length))(h5:pl.length<=1000)(h6:∀v' H',RD K H' v' (eR (gK pl o))->aF H H'->Q v' H')
def yg(K:aa):Sp:=λvs H Q _=>acT K vs H Q
theorem Pe:bp ["place","item"] ["place","item"] (aY Gj):=bE aH
theorem a2d(F:FA K mg "place_behind" Gj)(B:bK mg)(ou:aG P w K mg aw "is_line" 1 (vC K))(Jh:aG P w K mg aw "moved" 1 (B7 K)):aG P w K mg aw "place_behind" 2 (yg K):=by
 erw[F.has Pe (λvs H Q E h=>?_) (λ_ _ _ _ _ _=>dF λ_ _=>rfl) (λf aI A outer s H vs Q E hr h=>?_)]
 ·let(pw,iv,pl,d,o,rfl,_):=h
  rfl
 ·let(pw,iv,pl,d,o,rfl,rp,ri,it,hl,hz,k):=h
  have nd:=Pe.nd;erw[_,(aJ (aW (my (cO (pf ou hr (ao (pv 1) az))) (pf Jh hr (ao (pv 0) (ao (px K (pv 1) aB) az))) (pv 0)))),?_];erw[_,Z,iv,d,o,Z,ri,it,_,Z,?_];cases o with |some q=>let(ns,sp):=q;erw[bF ?_];have ed:=pA it;subst ed;let(a,b,rfl,ha,hb):=o8 ri;erw[_,Z,_,Z,.inr #[a,_,1,.ref b,Z,Z,ha,Z,pw,b,pl,ns,Z,rp,hb,hl ns sp Z,hz,λv' H' r s=>k v' H' r s]] |none=>erw[bh ?_];erw[_,Z,k pw H rp (aF.refl _)]
end
end _a
namespace _a
open PySem PySem.Spec PyProof.Rows _L _r _l _C _P _W _R
open _O (topR cornO mnO betR atO ownF leadF ownL OkI OkIs)
section
def fw(m b d q p r s k t:V):List (Str×V):=[("machine",m),("begun_at",b),("done",d),("queue",q),("pace",p),("rate_now",r),("side",s),("mark",k),("stopping",t)]
structure aZ where
 rs:List Int
 r:Int
 f:Int
 j:Int
 t:Int
abbrev aZ.D(M:aZ):ag:=jw M.rs M.r M.f M.j M.t
abbrev aZ.Ok(M:aZ):Prop:=qc M.rs M.r M.f M.j M.t
structure aV where
 pl:List Int
 dn:Nat
 ds:List ag
 os:List Itm
 pc:Rat
 aA:Int
 side:Str
 mark:Str
 aR:_R.nC
def xj(K:aa)(H:Hp)(v:V):_R.nC->Prop |none=>v= .bD |some (sq,st,gn)=>∃a u,v= .ref a/\bc K H a [u,.int st,.int gn]/\cg K H u sq
structure cC(M:aZ)(D:Nat)(S:aV):Prop where
 row:iB M.rs.length S.ds S.os
 rw:RowW S.ds S.os
 len:S.ds.length<=20
 dM:10<=S.aA
 eF:S.aA<=200
 dn:S.dn=0\/∃ns sp,S.os[0]? =some (some (ns,sp))/\S.dn<aK ns
 pl:S.pl.length=M.rs.length
 pd:Dd (D+10) S.pc
 pm:S.pc<=1600
 aR:rQ D S.pc S.aR
 D1:64<=D
 D2:D<=1500
structure bX(K:aa)(C:Addr)(H:Hp)(a q:Addr)(M:aZ)(S:aV):Prop where
 ob:∃dx mv bv cv tv,H a=some (.ins C dx (fw mv bv (.int S.dn) (.ref q) cv (.int S.aA) (.str S.side) (.str S.mark) tv))/\RD K H mv M.D/\RD K H bv (eR S.pl)/\cg K H cv S.pc/\xj K H tv S.aR
 qu:∃ys,H q=some (.lst ys)/\aP K H ys S.ds
theorem cg.v{H H':Hp}{v:V}{q:Rat}(s:cw H H')(h:cg K H v q):cg K H' v q:=by let(p,rfl,hp):=h;erw[p,Z,bc.v s hp]
theorem xj.v{H H':Hp}{v:V}{t:_R.nC}(s:cw H H')(h:xj K H v t):xj K H' v t:=by cases t with |none=>erw[h] |some q=>let(sq,st,gn):=q;let(a,u,rfl,h1,h2):=h;erw[a,u,Z,bc.v s h1,cg.v s h2]
theorem bX.go{C:Addr}{H H':Hp}{a q:Addr}{M:aZ}{S:aV}(h:bX K C H a q M S)(hn:cJ S.ds=true)(s:cw H H')(ea:∀o,H a=some o->H' a=some o)(eq:∀o,H q=some o->H' q=some o):bX K C H' a q M S:=by let((dx,mv,bv,cv,tv,e,r1,r2,r3,r4),ys,pR,rq):=h;erw[#[dx,mv,bv,cv,tv,ea _ e,RD.v s _ (gw _ _ _ _ _) r1,RD.v s _ (jP _) r2,r3.v s,r4.v s],ys,eq _ pR,aP.v s _ hn rq]
theorem bX.same{C:Addr}{H H':Hp}{a q:Addr}{M:aZ}{S:aV}(h:bX K C H a q M S)(hn:cJ S.ds=true)(s:aF H H'):bX K C H' a q M S:=h.go hn s.v (λo e=>s _ _ e) (λo e=>s _ _ e)
theorem bX.ne{C:Addr}{H:Hp}{a q:Addr}{M:aZ}{S:aV}(h:bX K C H a q M S):a≠q:=by let((dx,mv,bv,cv,tv,e,_),ys,pR,_):=h;erw[iM e pR (by intro z;cases z)]
theorem bX.v{C:Addr}{H H':Hp}{a q:Addr}{M:aZ}{S:aV}(h:bX K C H a q M S)(b:bP [a,q] H H'):cw H H':=by
 let((dx,mv,bv,cv,tv,e,_),ys,pR,_):=h;erw[b.v λx hx o eo=>?_];simp only[bJ,bZ,cG]at hx;rcases hx with rfl|rfl
 ·rw[e]at eo;cases eo;trivial
 ·rw[pR]at eo;cases eo;trivial
inductive abI(K:aa)(C:Addr)(G:aZ->aV->Hp->VK->Prop)(vs:List V)(H:Hp)(Q:VK):Prop |mk (a:_)(q:_)(M:_)(D:_)(S:_)(h0:vs=[.ref a])(h1:bX K C H a q M S)(h2:cC M D S)(h3:M.Ok)(h4:G M S H Q)
def gR(K:aa)(C:Addr)(G:aZ->aV->Hp->VK->Prop):Sp:=λvs H Q _=>abI K C G vs H Q
theorem Ym:bp ["self"] ["self"] (aY Fs):=bE aH
theorem a1m{C:Addr}(F:MA K C "is_held" "Runner.is_held" Fs)(TC:fc K C):cS P w K mg aw C "is_held" 1 (gR K C λ_ S H Q=>Q (.bl S.aR.isSome) H):=by
 erw[F.has Ym (λvs H Q E h=>?_) (λ_ _ _ _ _ _=>dw λ_=>rfl) (λf aI A outer s H vs Q E hr h=>?_)]
 ·let(a,q,M,D,S,rfl,_):=h
  rfl
 ·let(a,q,M,D,S,rfl,R,ok,aM,k):=h
  let(dx,mv,bv,cv,tv,e,r1,r2,r3,r4):=R.ob;erw[_,(aJ (aW (fj Hv (cH TC.cl TC.tX (pv 0)) gT (bB _)))),_,Z,a,dx,_,_,Z,e,Z,?_];cases hs:S.aR with |none=>rw[hs]at r4 k;cases(show tv= .bD from r4);erw[Z,k] |some z=>rw[hs]at r4 k;let(sq,st,gn):=z;let(b,u,rfl,_):=r4;erw[Z,k]
theorem Zo(q:Rat):PyData.eqv (fN q) (fN 0)=decide (q=0):=by
 by_cases h:q=0
 ·rw[bM h];erw[eqR h]
 ·rw[cD h]
  cases e:PyData.eqv (fN q) (fN 0)with |false=>rfl |true=>
   exfalso;apply h;have e':(PyData.eqv (.int q.num) (.int (0:Rat).num)&&(PyData.eqv (.int (q.den:Int)) (.int ((0:Rat).den:Int))&&true))=true:=e;rw[Ao,eX]at e';let(a,b):=e';have h1:q.num=(0:Rat).num:=by simpa[PyData.eqv]using a
   have h2:(q.den:Int)=((0:Rat).den:Int):=by simpa[PyData.eqv]using b
   erw[Rat.ext h1 au]
theorem Yi:bp ["self"] ["self"] (aY Fg):=bE aH
theorem a1e{C:Addr}(F:MA K C "stands" "Runner.stands" Fg)(TC:fc K C)(gN:GT K mg "NOUGHT" [.int 0,.int 1]):cS P w K mg aw C "stands" 1 (gR K C λ_ S H Q=>Q (.bl (decide (S.pc=0))) H):=by
 let(aN,pJ,qy):=gN;erw[F.has Yi (λvs H Q E h=>?_) (λ_ _ _ _ _ _=>dw λ_=>rfl) (λf aI A outer s H vs Q E hr h=>?_)]
 ·let(a,q,M,D,S,rfl,_):=h
  rfl
 ·let(a,q,M,D,S,rfl,R,ok,aM,k):=h
  let(dx,mv,bv,cv,tv,e,r1,r2,r3,r4):=R.ob;erw[_,(aJ (aW (fj (dW K Z hr.units) (cH TC.cl TC.tY (pv 0)) (fX (x:="NOUGHT") rfl pJ) (bB _)))),_,Z,a,dx,_,_,Z,e,Z,.inr #[_,_,r3.rd,(yI (qy H)).rd,Z,Z,?_]];rw[Zo];erw[k]
theorem Yl:bp ["self"] ["self"] (aY Fq):=bE aH
theorem a1l{C:Addr}(F:MA K C "is_halted" "Runner.is_halted" Fq)(TC:fc K C)(uw:cS P w K mg aw C "is_held" 1 (gR K C λ_ S H Q=>Q (.bl S.aR.isSome) H))(zp:cS P w K mg aw C "stands" 1 (gR K C λ_ S H Q=>Q (.bl (decide (S.pc=0))) H)):cS P w K mg aw C "is_halted" 2 (gR K C λ_ S H Q=>Q (.bl (S.aR.isSome&&decide (S.pc=0))) H):=by
 erw[F.has Yl (λvs H Q E h=>?_) (λ_ _ _ _ _ _=>dw λ_=>rfl) (λf aI A outer s H vs Q E hr h=>?_)]
 ·let(a,q,M,D,S,rfl,_):=h
  rfl
 ·let(a,q,M,D,S,rfl,R,ok,aM,k):=h
  let(dx,mv,bv,cv,tv,e,r1,r2,r3,r4):=R.ob;erw[_,(aJ (aW (lF (iI uw TC.cl (hr.mono ay) (pv 0)) (mx (iI zp TC.cl (hr.mono ay) (pv 0)))))),_,Z,a,dx,_,Z,e,Z,a,q,M,D,S,Z,R,ok,aM,_,Z,?_];cases hs:S.aR.isSome with |false=>rw[hs]at k;erw[bh k] |true=>rw[hs]at k;erw[bF #[_,Z,a,dx,_,Z,e,Z,a,q,M,D,S,Z,R,ok,aM,?_]];erw[k]
end
end _a
namespace _a
open PySem PySem.Spec PyProof.Rows _L _r _l _W
open _O (Itm)
section
structure kZ(n:Nat)(d:ag)(o:Itm):Prop where
 it:itR d o
 ln:∀ns sp,o=some (ns,sp)->fg n 100 ns/\1<=sp/\sp<=20
 ot:o=none->xk d
theorem a39{z:Str}(h:p9 z=true):isNm (.str z)=true:=h
theorem aaR:∀{ns:List Int},(∃z∈ns,z≠0)->(ns.map PyData.int).any yG=true:=λ{ns} #[z,hz,h]=>VW.mpr #[.int z,dB.mpr #[z,hz,Z],by show(z !=0)=true;simpa using h]
theorem aaY{ns:List Int}(h:∀z∈ns,(z.natAbs:Int)<=100):(ns.map PyData.int).all (cZ (-100) 100)=true:=by rw[gP];intro d hd;let(z,hz,rfl):=dB.mp hd;have:=h z hz;show(decide (-100<=z)&&decide (z<=100))=true;rw[bM bR,bM bR];rfl
theorem kZ.is{n:Nat}{d:ag}{o:Itm}(h:kZ n d o):mH n d=true/\dy 8 d/\Bb d=true:=by cases o with
 |some q=>
  let(ns,sp):=q;have ed:=pA h.it;subst ed;let(cU,s1,s2):=h.ln ns sp rfl;erw[?_,?_,Z]
  ·show(iq "line" (.str "line")&&(tT n (.tuple (ns.map PyData.int))&&cZ 1 20 (.int sp)))=true
   have e1:iq "line" (.str "line")=true:=by decide+kernel
   have e2:tT n (.tuple (ns.map PyData.int))=true:=by show(((ns.map PyData.int).length==n&&(ns.map PyData.int).all (cZ (-100) 100))&&(ns.map PyData.int).any yG)=true;rw[aaY cU.bd,aaR cU.nz,bW,cU.len,Lq];rfl
   have e3:cZ 1 20 (.int sp)=true:=by show(decide (1<=sp)&&decide (sp<=20))=true;rw[bM s1,bM s2];rfl
   rw[e1,e2,e3];rfl
  ·refine(iC.tup (n:=1) (.cons #[aH,gM _] (.cons (iC.tup (n:=0) λd hd=>?_) (.cons (.int _) .nil)))).le ay
   let(a,_,rfl):=dB.mp hd;erw[.int _] |none=>
  rcases h.ot rfl with⟨z,rfl,z1,z2⟩|⟨w,s,rfl,hw,nU,on⟩
  ·erw[?_,(iC.tup (n:=0) (.cons #[aH,gM _] (.cons (.int _) .nil))).le ay,Z]
   show pC (.str "wait") (.int z)=true;unfold pC;rw[bu aH];show(decide (1<=z)&&decide (z<=1000))=true;rw[bM z1,bM z2];rfl
  ·have a4j:ki (.str s)=true:=by
    erw[bM ?_];rcases on with⟨_,rfl|rfl⟩|⟨_,hn⟩
    ·decide+kernel
    ·decide+kernel
    ·unfold p9 at hn
     simp only[eX,Aa]at hn
     lia
   erw[?_,(iC.tup (n:=0) (.cons ?_ (.cons nU .nil))).le ay,?_]
   ·rcases on with⟨rfl,hs⟩|⟨rfl,hn⟩
    ·show pC (.str "tool") (.str s)=true
     unfold pC;rw[bo aH,bu aH];rcases hs with rfl|rfl<;>decide+kernel
    ·show pC (.str "mark") (.str s)=true
     unfold pC;rw[bo aH,bo aH];rw[a39 hn];decide+kernel
   ·rcases hw with rfl|rfl<;>erw[aH,gM _]
   ·show([.str w,.str s]:List ag).all ki=true
    rw[xP,xP,LN,a4j];rcases hw with rfl|rfl<;>decide+kernel
end
end _a
namespace _a
open PySem PySem.Spec PyProof.Rows _L _r _l _C _P _W _R
open _O (topR cornO mnO betR atO ownF leadF ownL OkI OkIs)
section
def fJ(ns:List Int)(k:Int):List Int:=ns.map λz=>eT (k*z) (aK ns)
def dh(S:aV):List Int:=if S.dn=0 then S.pl else match S.os[0]? with |some (some (ns,_))=>dH S.pl (fJ ns S.dn) |_=>S.pl
def fm(S:aV):List Int:=S.os.foldl gK S.pl
theorem KI{n:Nat}{pl:List Int}{o:Itm}(h:pl.length=n)(ho:∀ns sp,o=some (ns,sp)->ns.length=n):(gK pl o).length=n:=by cases o with |none=>erw[h] |some q=>let(ns,sp):=q;show(dH pl ns).length=n;rw[ny (by rw[ho ns sp Z,h])];erw[h]
theorem wV{n:Nat}:∀(os:List Itm)(pl:List Int),pl.length=n->(∀o∈os,∀ns sp,o=some (ns,sp)->ns.length=n)->(os.foldl gK pl).length=n |[],pl,h,_=>h |o::os,pl,h,ho=>wV os (gK pl o) (KI h (ho o (.head _))) λx hx=>ho x (.tail _ hx)
theorem cC.nU{M:aZ}{D:Nat}{S:aV}(h:cC M D S):∀o∈S.os,∀ns sp,o=some (ns,sp)->ns.length=M.rs.length:=λo ho ns sp e=>by let(i,hi):=vd.mp ho;rw[e]at hi;exact(h.row.ok i ns sp hi).1.len
theorem cC.first{M:aZ}{D:Nat}{S:aV}(h:cC M D S)(hn:S.dn≠0):∃ns sp,S.os[0]? =some (some (ns,sp))/\S.dn<aK ns:=by
 rcases h.dn with e|e
 ·exact(hn e).elim
 ·erw[e]
theorem Yj:bp ["self"] ["self"] (aY Fh):=bE aH
theorem a1f{C:Addr}(F:MA K C "place" "Runner.place" Fh)(TC:fc K C)(Jh:aG P w K mg aw "moved" 1 (B7 K))(Ce:aG P w K mg aw "stand_at" 2 (AX K)):cS P w K mg aw C "place" 3 (gR K C λ_ S H Q=>∀v H',RD K H' v (eR (dh S))->aF H H'->Q v H'):=by
 erw[F.has Yj (λvs H Q E h=>?_) (λ_ _ _ _ _ _=>dw λ_=>rfl) (λf aI A outer s H vs Q E hr h=>?_)]
 ·let(a,q,M,D,S,rfl,_):=h
  rfl
 ·let(a,q,M,D,S,rfl,R,ok,aM,k):=h
  let(dx,mv,bv,cv,tv,e,r1,r2,r3,r4):=R.ob;let(ys,eq,rq):=R.qu;erw[_,(aD (bL (bU (dW K Z hr.units) (cH TC.cl TC.nW (pv 0)) aB (bB _)) (aJ (aW (cH TC.cl TC.tZ (pv 0)))) bO) (aJ (aW (pf Jh hr (ao (cH TC.cl TC.tZ (pv 0)) (ao (pf Ce hr (ao (px K (cH TC.cl TC.jc (pv 0)) aB) (ao (cH TC.cl TC.nW (pv 0)) az))) az)))))),_,Z,a,dx,_,_,Z,e,Z,.inl #[_,_,Z,Z,_,Z,?_]];by_cases h0:S.dn=0
  ·rw[bM au]
   have ep:dh S=S.pl:=by unfold dh;rw[bu h0]
   rw[ep]at k;erw[bF #[_,Z,a,dx,_,_,Z,e,Z,k bv H r2 (aF.refl _)]]
  ·rw[cD au]
   erw[bh ?_];let(ns,sp,eo,hd):=ok.first h0;let(cU,fu,jM):=ok.row.ok 0 ns sp eo;have ep:dh S=dH S.pl (fJ ns S.dn):=by unfold dh;rw[bo h0,eo]
   rw[ep]at k;have ll:=ok.row.len;have wL:0<S.os.length:=(dZ.mp eo).1;obtain⟨d,ed⟩:∃d,S.ds[0]? =some d:=#[_,cB (show 0<S.ds.length by lia)];let(y,ey,ry):=rq.get 0 ed;have it:=ok.row.it 0 d _ ed eo;have lY:=pA it;subst lY;have IM:=RQ cU;have lr:=aM.len;erw[_,Z,a,dx,_,_,Z,e,Z,?_];erw[_,Z,a,dx,_,_,Z,e,Z,.inl #[q,_,0,y,Z,Z,aE.of eq,cL (eg 0) ey,?_]];erw[_,Z,a,dx,_,_,Z,e,Z,y,ns,sp,_,Z,ry,#[Z,λz hz=>by have:=cU.bd z hz;lia,cU.nz],by rw[cU.len];lia,au,λu H1 ru s1=>?_];let(b,xs,rfl,hb,hx):=ru.cT;rw[hx.fE]at hb;erw[bv,b,S.pl,_,Z,RD.mono s1 _ r2,hb,by rw[bW,cU.len,ok.pl],by rw[ok.pl];lia,λv H2 rv s2=>k v H2 rv (s1.trans s2)]
theorem Of:bp ["self","here","item"] ["self"] (aY Fj):=bE aH
theorem a1i{C:Addr}(F:MA K C "leads_to" "Runner.leads_to" Fj)(TC:fc K C)(z9:aG P w K mg aw "place_behind" 2 (yg K)):cS P w K mg aw C "leads_to" 3 (gR K C λ_ S H Q=>∀v H',RD K H' v (eR (fm S))->aF H H'->Q v H'):=by
 erw[F.has Of (λvs H Q E h=>?_) (λ_ _ _ _ _ _=>dw λ_=>rfl) (λf aI A outer s H vs Q E hr h=>?_)]
 ·let(a,q,M,D,S,rfl,_):=h
  rfl
 ·let(a,q,M,D,S,rfl,R,ok,aM,k):=h
  let(dx,mv,bv,cv,tv,e,r1,r2,r3,r4):=R.ob;let(ys,eq,rq):=R.qu;have nd:=Of.nd;have ll:=ok.row.len;have ly:=rq.length;have lr:=aM.len;erw[_,(aD (pS 1 nd (cH TC.cl TC.tZ (pv 0))) (aD (mq jI Z (nP K Z (cH TC.cl TC.jc (pv 0))) (bj 2 nd) (aJ (pS 1 nd (pf z9 hr (ao (pv 1) (ao (pv 2) az)))))) (aJ (aW (pv 1))))),_,Z,a,dx,_,_,Z,e,Z,_,Z,a,dx,_,_,Z,e,Z,q,Z,#[_,aE.of eq],?_];erw[CH (K:=K) (a:=q) (xs:=ys) (λi O H1=>aF H H1/\∃hv v2,RD K H1 hv (eR ((S.os.take i).foldl gK S.pl))/\O=[some (.ref a),some hv,v2]) #[aF.refl _,bv,none,r2,Z] (λi O H1 _ h=>aE.of (h.1 _ _ eq)) ?_ ?_]
  ·rintro i x O H1 hx ⟨s1,hv,v2,rh,rfl⟩
   let(d,ed,rd):=rq.get' i hx;let(o,eo,it):=ok.row.get ed;have lp:((S.os.take i).foldl gK S.pl).length=M.rs.length:=wV _ _ ok.pl λo ho=>ok.nU o (xI ho);erw[_,Z,_,Z,hv,x,_,d,o,Z,rh,RD.mono s1 _ rd,it,λns sp e'=>by rw[lp];erw[ok.nU o (gf eo) ns sp e'],au,λv H2 rv s2=>?_];erw[s1.trans s2,v,_,?_,Z];rw[sD,eo,VT];erw[rv]
  ·rintro O H1 ⟨s1,hv,v2,rh,rfl⟩
   rw[ly,ll,Ag]at rh;erw[_,Z,k hv H1 rh s1]
structure Mv(a q:Addr)(H:Hp)(q':Addr)(H':Hp):Prop where
 but:bP [a,q] H H'
 nq:q'=q\/H q'=none
theorem Yk:bp ["self","machine","place"] ["self","machine","place"] (aY Fm):=bE aH
def nN(pl:List Int):aV:=#[pl,0,[],[],0,100,"up","",none]
inductive ac3(K:aa)(C:Addr)(vs:List V)(H:Hp)(Q:VK):Prop |mk (a:_)(dx:_)(mv:_)(kn:_)(M:_)(pl:_)(h0:vs=[.ref a,mv,kn])(h1:H a=some (.ins C dx []))(h2:RD K H mv (aZ.D M))(h3:RD K H kn (eR pl))(h4:∀q H',bX K C H' a q M (nN pl)->H q=none->bP [a] H H'->Q .bD H')
def N6(K:aa)(C:Addr):Sp:=λvs H Q _=>ac3 K C vs H Q
theorem a1j{C:Addr}(F:CA K mg C "Runner" "Runner.__init__" Fm)(TC:fc K C)(gN:GT K mg "NOUGHT" [.int 0,.int 1])(a6O:GV mg "FIRST_RATE" (.int 100)):xn P w K mg aw C "Runner" 1 (N6 K C):=by
 let(aN,pJ,qy):=gN;erw[F.has Yk (λvs H Q E h=>?_) (λ_ _ _ _ _ _=>kX λ_ _ _=>rfl) (λf aI A outer s H vs Q E hr h=>?_)]
 ·let(a,dx,mv,kn,M,pl,rfl,_):=h
  rfl
 ·let(a,dx,mv,kn,M,pl,rfl,e,rm,rp,k):=h
  erw[_,(aD (fW TC.cl TC.lI (pv 0) (pv 1)) (aD (fW TC.cl TC.tZ (pv 0) (pv 2)) (aD (fW TC.cl TC.nW (pv 0) aB) (aD (fW TC.cl TC.jc (pv 0) (fA az)) (aD (fW TC.cl TC.tY (pv 0) (fX (x:="NOUGHT") rfl pJ)) (aD (fW TC.cl TC.BN (pv 0) (fX (x:="FIRST_RATE") rfl a6O)) (aD (fW TC.cl TC.QX (pv 0) bf) (aD (fW TC.cl TC.QY (pv 0) bf) (aJ (fW TC.cl TC.tX (pv 0) gT)))))))))),?_];erw[_,Z,_,Z,a,dx,_,Z,e,ay,?_];erw[_,Z,_,Z,a,dx,_,Z,bQ,by show 1<1000;decide,?_];erw[_,Z,a,dx,_,Z,bQ,by show 2<1000;decide,?_];erw[df Z,λq H1 n1=>?_];have aq:a≠q:=λz=>by have:=n1.no;rw[<-z,bQ]at this;cases this
  have e1:=n1.same _ _ (bQ (a:=a));erw[_,Z,a,dx,_,Z,e1,by show 3<1000;decide,?_];erw[_,Z,a,dx,_,Z,bQ,by show 4<1000;decide,?_];erw[_,Z,a,dx,_,Z,bQ,by show 5<1000;decide,?_];erw[_,Z,a,dx,_,Z,bQ,by show 6<1000;decide,?_];erw[_,Z,a,dx,_,Z,bQ,by show 7<1000;decide,?_];erw[_,Z,a,dx,_,Z,bQ,by show 8<1000;decide,?_];have key:∀X:Hp,(∀b,b≠a->X b=H1 b)->Q .bD (_L.upd X a (.ins C dx (fw mv kn (.int 0) (.ref q) (.ref aN) (.int 100) (.str "up") (.str "") .bD))):=by
   intro X hX;have bt:bP [a] H (_L.upd X a (.ins C dx (fw mv kn (.int 0) (.ref q) (.ref aN) (.int 100) (.str "up") (.str "") .bD))):=λb o eb hb=>by have ha:b≠a:=λz=>hb (by rw[z];erw[.head _]);rw[aU ha,hX b ha];erw[n1.same _ _ (by rw[aU ha,aU ha,aU ha];erw[eb])]
   have sv:=bt.v λx hx o eo=>by rw[cE]at hx;rw[hx,e]at eo;cases eo;trivial
   erw[k q _ #[#[dx,mv,kn,.ref aN,.bD,bQ,RD.v sv _ (gw _ _ _ _ _) rm,RD.v sv _ (jP _) rp,yI (qy _),Z],[],?_,dI] ?_ bt]
   ·rw[aU aq.symm,hX q aq.symm];erw[n1.at']
   ·have:=n1.no
    rw[aU aq.symm,aU aq.symm,aU aq.symm]at this;erw[this]
  erw[key _ (λb hb=>by rw[aU hb,aU hb,aU hb,aU hb,aU hb])]
theorem YW{M:aZ}{pl:List Int}(hp:pl.length=M.rs.length):cC M 64 (nN pl):=#[.nil,λi d e=>by simp[nN]at e,by simp[nN],(show(10:Int)<=100 by decide),(show(100:Int)<=200 by decide),.inl rfl,hp,#[(show(0:Rat)<=0 by decide),(show(0:Rat).den<2^74 by decide+kernel)],(show(0:Rat)<=1600 by decide+kernel),trivial,ay,ay]
theorem HE{rs pl:List Int}(h:fF rs pl):IX rs (eR pl)=true:=by show((pl.map PyData.int).length==rs.length&&(((pl.map PyData.int).zip rs).map λp=>cZ 0 p.2 p.1).all id)=true;rw[bW,h.len,Lq,jl,gP];intro b hb;let((d,r),hm,rfl):=dB.mp hb;let(i,hi):=vd.mp hm;let(e1,e2):=(Ah (z:=(d,r))).mp hi;rw[cj]at e1;cases e:pl[i]? with |none=>rw[e]at e1;cases e1 |some x=>rw[e]at e1;cases e1;let(a1,a2):=h.at' i x r e e2;show(decide (0<=x)&&decide (x<=r))=true;rw[bM a1,bM a2];rfl
def ng(S:aV)(d:ag)(o:Itm):aV:={S with ds:=S.ds++[d],os:=S.os++[o]}
theorem cC.uE{M:aZ}{D:Nat}{S:aV}{d:ag}{o:Itm}(h:cC M D S)(it:kZ M.rs.length d o)(hl:S.ds.length<20):cC M D (ng S d o):=by
 have ll:=h.row.len;erw[h.row.snoc it.it it.ln,RowW.snoc h.rw ll it.ot,by show(S.ds++[d]).length<=20;rw[fH];show _+1<=20;lia,h.dM,h.eF,?_,h.pl,h.pd,h.pm,h.aR,h.D1,h.D2];rcases h.dn with e|⟨ns,sp,e,e2⟩
 ·erw[.inl e]
 ·erw[.inr #[ns,sp,?_,e2]]
  show(S.os++[o])[0]? =_;rw[vg (dZ.mp e).1];erw[e]
theorem Oi:bp ["self","item"] ["self","item"] (aY Ft):=bE aH
end
section
def gB(S:aV):aV:=match S.os with |o::os=>{S with pl:=gK S.pl o,ds:=S.ds.tail,os:=os,dn:=0} |[]=>S
theorem iB.tail{n:Nat}{d:ag}{ds:List ag}{o:Itm}{os:List Itm}(h:iB n (d::ds) (o::os)):iB n ds os:=#[by have:=h.len;simpa using this,λi d' o' e1 e2=>h.it (i+1) d' o' (by simpa using e1) (by simpa using e2),λi ns sp e=>h.ok (i+1) ns sp (by simpa using e)]
theorem RowW.tail{d:ag}{ds:List ag}{o:Itm}{os:List Itm}(h:RowW (d::ds) (o::os)):RowW ds os:=λi d' e1 e2=>h (i+1) d' (by simpa using e1) (by simpa using e2)
structure kC(M:aZ)(D:Nat)(S:aV):Prop where
 row:iB M.rs.length S.ds S.os
 rw:RowW S.ds S.os
 len:S.ds.length<=20
 dM:10<=S.aA
 eF:S.aA<=200
 pl:S.pl.length=M.rs.length
 pd:Dd (D+10) S.pc
 pm:S.pc<=1600
 aR:rQ D S.pc S.aR
 D1:64<=D
 D2:D<=1500
theorem cC.raw{M:aZ}{D:Nat}{S:aV}(h:cC M D S):kC M D S:=#[h.row,h.rw,h.len,h.dM,h.eF,h.pl,h.pd,h.pm,h.aR,h.D1,h.D2]
theorem kC.ok{M:aZ}{D:Nat}{S:aV}(h:kC M D S)(hd:S.dn=0\/∃ns sp,S.os[0]? =some (some (ns,sp))/\S.dn<aK ns):cC M D S:=#[h.row,h.rw,h.len,h.dM,h.eF,hd,h.pl,h.pd,h.pm,h.aR,h.D1,h.D2]
theorem kC.end{M:aZ}{D:Nat}{S:aV}(h:kC M D S)(hn:S.os≠[]):cC M D (gB S):=by let(pl,dn,ds,os,pc,aA,side,mark,aR):=S;cases os with |nil=>exact(hn Z).elim |cons o os=>have ll:=h.row.len;cases ds with |nil=>simp at ll |cons d ds=>
 erw[h.row.tail,h.rw.tail,?_,h.dM,h.eF,.inl Z,?_,h.pd,h.pm,h.aR,h.D1,h.D2]
 ·have:=h.len
  simp only[gq]at this;show ds.length<=20
  lia
 ·erw[KI h.pl λns sp e=>(h.row.ok 0 ns sp (by rw[<-e];rfl)).1.len]
theorem Kq(xs:List V):jC xs (some 1) none=xs.drop 1:=Uv xs
theorem Om:bp ["self"] ["self"] (aY Fw):=bE aH
inductive ac9(K:aa)(C:Addr)(vs:List V)(H:Hp)(Q:VK):Prop |mk (a:_)(q:_)(M:_)(D:_)(S:_)(h0:vs=[.ref a])(h1:bX K C H a q M S)(h2:kC M D S)(h3:M.Ok)(h4:S.os≠[])(h5:∀q' H',bX K C H' a q' M (gB S)->H q'=none->bP [a] H H'->Q .bD H')
def Eo(K:aa)(C:Addr):Sp:=λvs H Q _=>ac9 K C vs H Q
theorem a1s{C:Addr}(F:MA K C "end_first" "Runner.end_first" Fw)(TC:fc K C)(z9:aG P w K mg aw "place_behind" 2 (yg K)):cS P w K mg aw C "end_first" 3 (Eo K C):=by
 erw[F.has Om (λvs H Q E h=>?_) (λ_ _ _ _ _ _=>dw λ_=>rfl) (λf aI A outer s H vs Q E hr h=>?_)]
 ·let(a,q,M,D,S,rfl,_):=h
  rfl
 ·let(a,q,M,D,S,rfl,R,ok,aM,hn,k):=h
  let(dx,mv,bv,cv,tv,e,r1,r2,r3,r4):=R.ob;let(ys,eq,rq):=R.qu;have aq:=R.ne;have nd:=Om.nd;have lr:=aM.len;have ll:=ok.row.len;erw[_,(aD (fW TC.cl TC.tZ (pv 0) (pf z9 hr (ao (cH TC.cl TC.tZ (pv 0)) (ao (px K (cH TC.cl TC.jc (pv 0)) aB) az)))) (aD (fW TC.cl TC.jc (pv 0) (tL (sZ K rfl) (cH TC.cl TC.jc (pv 0)) (qF aB) vS)) (aJ (fW TC.cl TC.nW (pv 0) aB)))),?_];let(pl,dn,ds,os,pc,aA,side,mark,aR):=S;cases os with |nil=>exact(hn Z).elim |cons o os=>cases ds with |nil=>simp at ll |cons d ds=>
   let(y,yr,rfl,ry,rr):=rq.cons_inv;have it:itR d o:=ok.row.it 0 d o Z rfl;have lp:pl.length=M.rs.length:=ok.pl;erw[_,Z,a,dx,_,_,Z,e,Z,?_];erw[_,Z,a,dx,_,_,Z,e,Z,.inl #[q,_,0,y,Z,Z,aE.of eq,cL (eg 0) Z,?_]];erw[bv,y,pl,d,o,Z,r2,ry,it,λns sp e'=>by rw[lp];exact(ok.row.ok 0 ns sp (by rw[<-e'];rfl)).1.len,au,λu H1 ru s1=>?_];have e1:=s1 _ _ e;erw[_,Z,a,dx,_,Z,e1,by show 9<1000;decide,?_];have eq1:(_L.upd H1 a (.ins C dx (fw mv u (.int dn) (.ref q) cv (.int aA) (.str side) (.str mark) tv))) q=some (.lst (y::yr)):=by rw[aU aq.symm];erw[s1 _ _ eq]
   erw[_,Z,a,dx,_,_,Z,bQ,Z,_,Z,q,_,Z,.inl #[aE.of eq1,λq' H2 n2=>?_]];have e2:=n2.same _ _ (bQ (a:=a));erw[_,Z,a,dx,_,Z,e2,by show 9<1000;decide,?_];erw[_,Z,a,dx,_,Z,bQ,by show 9<1000;decide,?_];have rP:a≠q':=λz=>by have:=n2.no;rw[<-z,bQ]at this;cases this
   have key:∀X:Hp,(∀b,b≠a->X b=H2 b)->Q .bD (_L.upd X a (.ins C dx (fw mv u (.int 0) (.ref q') cv (.int aA) (.str side) (.str mark) tv))):=by
    intro X hX;have bt:bP [a] H (_L.upd X a (.ins C dx (fw mv u (.int 0) (.ref q') cv (.int aA) (.str side) (.str mark) tv))):=λb o' eb hb=>by have ha:b≠a:=λz=>hb (by rw[z];erw[.head _]);rw[aU ha,hX b ha];erw[n2.same _ _ (by rw[aU ha];erw[s1 _ _ eb])]
    have sv:=bt.v λx hx o' eo=>by rw[cE]at hx;rw[hx,e]at eo;cases eo;trivial
    have Ed:cw H1 (_L.upd X a (.ins C dx (fw mv u (.int 0) (.ref q') cv (.int aA) (.str side) (.str mark) tv))):=λb o' nb eb=>by
     have ha:b≠a:=λz=>by rw[z,e1]at eb;cases eb;erw[nb trivial]
     rw[aU ha,hX b ha];erw[n2.same _ _ (by rw[aU ha];erw[eb])]
    have oh:=n2.at';rw[Kq]at oh;erw[k q' _ #[#[dx,mv,u,cv,tv,bQ,RD.v sv _ (gw _ _ _ _ _) r1,RD.v Ed _ (jP _) ru,r3.v sv,r4.v sv],yr,?_,?_] ?_ bt]
    ·rw[aU rP.symm,hX q' rP.symm];erw[oh]
    ·erw[aP.v sv _ ok.row.tail.no rr]
    ·cases e':H q' with |none=>rfl |some o'=>have h1:=s1 _ _ e';have h2:=n2.no;rw[aU rP.symm,h1]at h2;cases h2
   erw[key _ (λb hb=>by rw[aU hb])]
theorem mn4{x y z u q:Rat}(h:q=x\/q=y\/q=z\/q=u)(h1:q<=x)(h2:q<=y)(h3:q<=z)(h4:q<=u):mn (mn (mn x y) z) u=q:=by
 erw[Lx ?_ (o9 (o9 (o9 h1 h2) h3) h4)];rcases h with h|h|h|h
 ·rw[h];erw[eM (ij _ _) (eM (ij _ _) (ij _ _))]
 ·rw[h];erw[eM (ij _ _) (eM (ij _ _) (mF _ _))]
 ·rw[h];erw[eM (ij _ _) (mF _ _)]
 ·rw[h];erw[mF _ _]
theorem RO{H:Hp}{Q:VK}{l:Addr}{u1 u2 u3:V}{x y z:Rat}(dl:H l=some (.lst [u1,u2,u3]))(R1:cg K H u1 x)(R2:cg K H u2 y)(R3:cg K H u3 z)(b1:Bd 2000 x)(b2:Bd 2000 y)(b3:Bd 2000 z)(k:∀v,cg K H v (mn (mn x y) z)->Q v H):oW K [.ref l] H Q E0:=by
 erw[l,[u1,u2,u3],[x,y,z],Z,aE.of dl,#[R1,b1,R2,b2,R3,b3,trivial],by simp,λc v q e1 e2 hq=>k v ?_];have e:mn (mn x y) z=q:=by
  erw[mn3 ?_ (hq _ (by simp)) (hq _ (by simp)) (hq _ (by simp))]
  match c,e2 with |0,e2=>cases e2;erw[.inl rfl] |1,e2=>cases e2;erw[.inr (.inl rfl)] |2,e2=>cases e2;erw[.inr (.inr rfl)]
 rw[e]
 match c,e1,e2 with |0,e1,e2=>cases e1;cases e2;erw[R1] |1,e1,e2=>cases e1;cases e2;erw[R2] |2,e1,e2=>cases e1;cases e2;erw[R3]
theorem RN{H:Hp}{Q:VK}{l:Addr}{u1 u2 u3 u4:V}{x y z t:Rat}(dl:H l=some (.lst [u1,u2,u3,u4]))(R1:cg K H u1 x)(R2:cg K H u2 y)(R3:cg K H u3 z)(R4:cg K H u4 t)(b1:Bd 2000 x)(b2:Bd 2000 y)(b3:Bd 2000 z)(b4:Bd 2000 t)(k:∀v,cg K H v (mn (mn (mn x y) z) t)->Q v H):oW K [.ref l] H Q E0:=by
 erw[l,[u1,u2,u3,u4],[x,y,z,t],Z,aE.of dl,#[R1,b1,R2,b2,R3,b3,R4,b4,trivial],by simp,λc v q e1 e2 hq=>k v ?_];have e:mn (mn (mn x y) z) t=q:=by
  erw[mn4 ?_ (hq _ (by simp)) (hq _ (by simp)) (hq _ (by simp)) (hq _ (by simp))]
  match c,e2 with |0,e2=>cases e2;erw[.inl rfl] |1,e2=>cases e2;erw[.inr (.inl rfl)] |2,e2=>cases e2;erw[.inr (.inr (.inl rfl))] |3,e2=>cases e2;erw[.inr (.inr (.inr rfl))]
 rw[e]
 match c,e1,e2 with |0,e1,e2=>cases e1;cases e2;erw[R1] |1,e1,e2=>cases e1;cases e2;erw[R2] |2,e1,e2=>cases e1;cases e2;erw[R3] |3,e1,e2=>cases e1;cases e2;erw[R4]
theorem D9{D:Nat}{q:Rat}{z:Int}(h:Dd D q)(hl:q<=1600)(hz:0<=z)(Sk:z<2^24)(hD:D<=1700):Bd 2000 (q+(z:Rat)):=by have b:Bd (D+11) q:=h.bd (eM hl aH);exact(L1 b au).mono au
theorem Oe:bp ["self","top","reach","left","rise","fall","middles","ends","square","steps","gone","still"] ["self","top","reach","left"] (aY Fi):=bE aH
def HR(M:aZ)(S:aV)(top R:Rat)(left:Int):aV:={S with pc:=wj M.r M.f S.pc top R left S.aR,aR:=wg S.aR}
inductive ac2(K:aa)(C:Addr)(vs:List V)(H:Hp)(Q:VK):Prop |mk (a:_)(q:_)(M:_)(D:_)(S:_)(tv:_)(Rv:_)(top:_)(R:_)(left:_)(h0:vs=[.ref a,tv,Rv,.int left])(h1:bX K C H a q M S)(h2:cC M D S)(h3:M.Ok)(h4:cg K H tv top)(h5:Dd 14 top)(h6:top<=1600)(h7:cg K H Rv R)(h8:Dd 64 R)(h9:R<=1600)(T9:1<=left)(T7:left<=100)(zw:¬Halt S.pc S.aR)(T5:∀v H',cg K H' v (p7 M.r M.f S.pc top R left S.aR)->bX K C H' a q M (HR M S top R left)->bP [a] H H'->Q v H')
def N5(K:aa)(C:Addr):Sp:=λvs H Q _=>ac2 K C vs H Q
theorem a1h{C:Addr}(F:MA K C "next_square" "Runner.next_square" Fi)(TC:fc K C)(wJ:aG P w K mg aw "plus_whole" 4 (B0 K))(Sv:aG P w K mg aw "times" 3 (sW (·*·) K))(qX:aG P w K mg aw "fraction" 3 (vz K))(wK:aG P w K mg aw "least" 2 (oW K))(uw:cS P w K mg aw C "is_held" 1 (gR K C λ_ S H Q=>Q (.bl S.aR.isSome) H)):cS P w K mg aw C "next_square" 5 (N5 K C):=by
 erw[F.has Oe (λvs H Q E h=>?_) (λ_ _ _ _ _ _=>xi λ_ _ _ _=>rfl) (λf aI A outer s H vs Q E hr h=>?_)]
 ·let(a,q,M,D,S,tv,Rv,top,R,left,rfl,_):=h
  rfl
 ·let(a,q,M,D,S,tv,Rv,top,R,left,rfl,R0,ok,aM,rt,td,tl,rR,Rd,Rl,l1,l2,nh,k):=h
  let(dx,mv,bv,cv,sv,e,r1,r2,r3,r4):=R0.ob;let(ys,eq,rq):=R0.qu;have aq:=R0.ne;have nd:=Oe.nd;have tI:=aM.r1;have pM:=aM.f1;have D1:=ok.D1;have D2:=ok.D2;have iP:(2:Int)^24=16777216:=by decide
  let(ma,mb,rfl,jd,jV):=nY r1;erw[_,(aD (Hk (i:=4) (j:=5) Z nd Z Z ay Z Z (ao (px K (cH TC.cl TC.lI (pv 0)) aB) (ao (px K (cH TC.cl TC.lI (pv 0)) aB) az)) rfl) (aD (pS 6 nd (fA (ao (pf wJ hr (ao (cH TC.cl TC.tY (pv 0)) (ao (pv 4) az))) (ao (pv 1) (ao (pf wJ hr (ao (pv 2) (ao (aQ cc (pv 5) (aQ iK (aQ cc aB (pv 3)) aB)) az))) az))))) (aD (pS 7 nd (fA (ao (pf wJ hr (ao (cH TC.cl TC.tY (pv 0)) (ao (aQ cc aB (pv 4)) az))) (ao (pv 1) (ao (pf wJ hr (ao (pv 2) (ao (aQ cc (aQ cc aB (pv 5)) (aQ iK (pv 3) aB)) az))) az))))) (aD (ig (bL (cO (iI uw TC.cl (hr.mono ay) (pv 0))) (aD (fh (cH TC.cl TC.tX (pv 0)) (eB K rfl (n:=3) rfl (bS (bj 8 nd) (bS (bj 9 nd) (bS (bj 10 nd) ek))))) (aD (pS 11 nd (aQ iK (aQ iK (pv 9) (pv 10)) aB)) (aD (mr (tP K Z (pv 6) (ao (pf Sv hr (ao (pv 8) (ao (pf qX hr (ao (aQ dv (aQ cc aB (pv 11)) aB) (ao (aQ cc aB (pv 9)) az))) az))) az))) (aD (mr (tP K Z (pv 7) (ao (pf Sv hr (ao (pv 8) (ao (pf qX hr (ao (pv 11) (ao (pv 9) az))) az))) az))) (aJ (fW TC.cl TC.tX (pv 0) (iH (ao (pv 8) (ao (pv 9) (ao (aQ dv (pv 10) aB) az)))))))))) bO)) (aD (fW TC.cl TC.tY (pv 0) (pf wK hr (ao (pv 7) az))) (aJ (aW (pf wK hr (ao (pv 6) az))))))))),?_];erw[_,Z,a,dx,_,_,Z,e,Z,.inr #[ma,_,1,.int M.r,Z,Z,jd,Z,?_]];erw[_,Z,a,dx,_,_,Z,e,Z,.inr #[ma,_,2,.int M.f,Z,Z,jd,Z,_,_,Z,?_]];have fl1:(M.f*(2*left-1)).natAbs<=50*200:=by rw[hZ];erw[qk au au]
  have a83:0<=M.f*(2*left-1):=iG au au;have fl2:(2*M.f*(left-1)).natAbs<=100*100:=by rw[hZ];erw[qk au au]
  have a82:0<=2*M.f*(left-1):=iG au au;have Qp:Bd 2000 S.pc:=(ok.pd.bd (eM ok.pm aH)).mono au;have RB:Bd 2000 R:=(Rd.bd (eM Rl aH)).mono ay;have tB:Bd 2000 top:=(td.bd (eM tl aH)).mono ay;have B1:Bd 2000 (S.pc+(M.r:Rat)):=D9 ok.pd ok.pm au au au;have B2:Bd 2000 (R+((M.f*(2*left-1):Int):Rat)):=D9 Rd Rl a83 au au;have B3:Bd 2000 (S.pc+((2*M.r:Int):Rat)):=D9 ok.pd ok.pm au au au;have B4:Bd 2000 (R+((2*M.f*(left-1):Int):Rat)):=D9 Rd Rl a82 au au;erw[_,Z,a,dx,_,_,Z,e,Z,_,Z,cv,_,_,Z,r3,Qp,au,λu1 H1 tq s1=>?_];erw[_,Z,_,Z,_,Z,_,Z,_,_,Z,Z,.of_left (dc ay ay),_,_,Z,Z,_,_,Z,Z,.of_left (dc au au),Rv,_,_,Z,rR.go s1,RB,au,λu2 H2 yt s2=>?_];erw[df Z,λlm H3 n3=>?_];have jq:=s1.trans (s2.trans n3.same);erw[_,Z,a,dx,_,_,Z,jq _ _ e,Z,_,Z,_,_,Z,Z,.of_left (dc ay ay),cv,_,_,Z,r3.go jq,Qp,au,λu3 H4 YD s4=>?_];have jO:=jq.trans s4;erw[_,Z,_,Z,_,Z,_,_,Z,Z,.of_left (dc ay ay),_,Z,_,_,Z,Z,_,_,Z,Z,.of_left (dc au au),Rv,_,_,Z,rR.go jO,RB,au,λu4 H5 YC s5=>?_];erw[df Z,λle H6 n6=>?_];have vM:=jO.trans (s5.trans n6.same);have qA:=s4.trans (s5.trans n6.same);have e6:=vM _ _ e;have R6:=R0.same ok.row.no vM;have U1:=tq.go (s2.trans (n3.same.trans qA));have U2:=yt.go (n3.same.trans qA);have U3:=YD.go (s5.trans n6.same);have U4:=YC.go n6.same;have T6:=rt.go vM;have dm:=qA _ _ n3.at';have de:=n6.at';have KZ:a≠lm:=λz=>by have:=n3.no;rw[<-z,(s1.trans s2) _ _ e]at this;cases this
  have Ve:a≠le:=λz=>by have:=n6.no;rw[<-z,(jO.trans s5) _ _ e]at this;cases this
  have RI:lm≠le:=λz=>by have:=n6.no;rw[<-z,(s4.trans s5) _ _ n3.at']at this;cases this
  have nlm:H lm=none:=by cases e':H lm with |none=>rfl |some o=>have:=(s1.trans s2) _ _ e';rw[n3.no]at this;cases this
  have nle:H le=none:=by cases e':H le with |none=>rfl |some o=>have:=(jO.trans s5) _ _ e';rw[n6.no]at this;cases this
  erw[λO H7=>∃sO w8 w9 vo LZ um ue,O=[some (.ref a),some tv,some Rv,some (.int left),some (.int M.r),some (.int M.f),some (.ref lm),some (.ref le),w8,w9,vo,LZ]/\bP [a,lm,le] H6 H7/\H7 a=some (.ins C dx (fw (.ref ma) bv (.int S.dn) (.ref q) cv (.int S.aA) (.str S.side) (.str S.mark) sO))/\xj K H7 sO (wg S.aR)/\H7 lm=some (.lst um)/\H7 le=some (.lst ue)/\(∀H8 Q',cw H7 H8->H8 lm=some (.lst um)->(∀v,cg K H8 v (p7 M.r M.f S.pc top R left S.aR)->Q' v H8)->oW K [.ref lm] H8 Q' E0)/\(∀H8 Q',cw H7 H8->H8 le=some (.lst ue)->(∀v,cg K H8 v (wj M.r M.f S.pc top R left S.aR)->Q' v H8)->oW K [.ref le] H8 Q' E0),?_,?_]
  ·erw[_,Z,a,dx,_,Z,e6,Z,a,q,M,D,S,Z,R6,ok,aM,_,Z,?_]
   cases hs:S.aR with |none=>rw[hs]at r4;erw[bh #[sv,_,_,_,_,_,_,Z,bP.refl _ _,e6,r4,dm,de,λH8 Q' sV d8 kq=>RO d8 (U1.v sV) (T6.v sV) (U2.v sV) B1 tB B2 kq,λH8 Q' sV d8 kq=>RO d8 (U3.v sV) (T6.v sV) (U4.v sV) B3 tB B4 kq]] |some z=>
    let(sq,st,gn):=z;rw[hs]at r4;have sk:=ok.aR;rw[hs]at sk nh;let(g1,g2,g3):=yJ sk ok.pd.nn nh;let(gn0,gn1,Ef,Eh,Eg,_,_):=sk;let(ta,su,rfl,hta,hsu):=r4;erw[bF ?_];have a58:=hta.go vM;have J4:=hsu.go vM;have MJ:Bd 2000 sq:=(Eh.bd Eg).mono au;erw[_,Z,a,dx,_,_,Z,e6,Z,ta,_,Z,a58,Z,_,_,Z,_,_,Z,_,_,Z,Z,?_];erw[_,Z,_,Z,_,_,Z,Z,_,_,Z,Z,?_];have iP:sizeLine=16777216:=by decide
    erw[_,Z,.inl #[Z,_,aE.of dm],_,Z,_,Z,_,_,Z,Z,.of_left (dc ay ay),_,_,Z,Z,_,Z,_,_,Z,Z,.of_left (dc ay ay),_,_,Z,au,j9 (n:=64) au ay,λfv H7 rf s7=>?_];have fB:Bd 2000 (Rat.divInt (2*(st-gn-1)+1) (2*st)):=(lH (n:=12) au au au).mono ay;have fB2:Bd 2000 (Rat.divInt (st-gn-1) st):=(lH (n:=12) au au au).mono ay;have pB:Bd 2000 (sq*Rat.divInt (2*(st-gn-1)+1) (2*st)):=((Eh.bd Eg).mul (lH (n:=12) au au au)).mono au;have pB2:Bd 2000 (sq*Rat.divInt (st-gn-1) st):=((Eh.bd Eg).mul (lH (n:=12) au au au)).mono au;erw[su,fv,sq,_,Z,J4.go s7,rf,MJ,fB,λx1 H8 Yw s8=>?_];have vJ:=s7.trans s8;have Ug:=vJ _ _ dm;erw[lm,_,_,Z,Z,Ug,by show 3<sizeLine;lia,?_];have v8:cw H8 (_L.upd H8 lm (.lst ([u1,tv,u2]++[x1]))):=.upd Ug trivial;have Ut:(_L.upd H8 lm (.lst ([u1,tv,u2]++[x1]))) le=some (.lst [u3,tv,u4]):=by rw[aU RI.symm];erw[vJ _ _ de]
    erw[_,Z,.inl #[Z,_,aE.of Ut],_,Z,_,Z,_,Z,_,_,Z,au,j9 (n:=64) au ay,λgv H9 rg s9=>?_];erw[su,gv,sq,_,Z,((J4.go vJ).v v8).go s9,rg,MJ,fB2,λx2 oH Yv yp=>?_];have vF:=s9.trans yp;have Uu:=vF _ _ Ut;erw[le,_,_,Z,Z,Uu,by show 3<sizeLine;lia,?_];have v10:cw oH (_L.upd oH le (.lst ([u3,tv,u4]++[x2]))):=.upd Uu trivial;erw[_,Z,_,Z,_,Z,_,_,Z,Z,df Z,λtn iZ ph=>?_];have Wo:cw H6 oH:=(vJ.v.trans v8).trans vF.v;have Wn:cw H6 iZ:=(Wo.trans v10).trans ph.same.v;have e8:(_L.upd H8 lm (.lst ([u1,tv,u2]++[x1]))) a=some (.ins C dx (fw (.ref ma) bv (.int S.dn) (.ref q) cv (.int S.aA) (.str S.side) (.str S.mark) (.ref ta))):=by rw[aU KZ];erw[vJ _ _ e6]
    have Ub:iZ a=some (.ins C dx (fw (.ref ma) bv (.int S.dn) (.ref q) cv (.int S.aA) (.str S.side) (.str S.mark) (.ref ta))):=ph.same _ _ (by rw[aU Ve];erw[vF _ _ e8]);erw[_,Z,a,dx,_,Z,Ub,by show 9<1000;decide,?_];have AF:cw iZ (_L.upd iZ a (.ins C dx (fw (.ref ma) bv (.int S.dn) (.ref q) cv (.int S.aA) (.str S.side) (.str S.mark) (.ref tn)))):=.upd Ub trivial;have sI:=Wn.trans AF;have Wm:=(((v8.trans vF.v).trans v10).trans ph.same.v).trans AF;have Wr:=(v10.trans ph.same.v).trans AF;erw[.ref tn,_,_,_,_,[u1,tv,u2,x1],[u3,tv,u4,x2],Z,λb o' eb hb=>?_,bQ,#[tn,su,Z,bc.v AF (bc.of ph.at'),J4.v sI],?_,?_,λH' Q' sV d' kq=>?_,λH' Q' sV d' kq=>?_]
    ·have ha:b≠a:=λz=>hb (by rw[z];simp)
     have Jl:b≠lm:=λz=>hb (by rw[z];simp);have hle:b≠le:=λz=>hb (by rw[z];simp);rw[aU ha];erw[ph.same _ _ (by rw[aU hle];erw[vF _ _ (by rw[aU Jl];erw[vJ _ _ eb])])]
    ·rw[aU KZ.symm]
     erw[ph.same _ _ (by rw[aU RI];erw[vF _ _ bQ])]
    ·rw[aU Ve.symm]
     erw[ph.same _ _ bQ]
    ·erw[RN d' ((U1.v sI).v sV) ((T6.v sI).v sV) ((U2.v sI).v sV) ((Yw.v Wm).v sV) B1 tB B2 pB kq]
    ·erw[RN d' ((U3.v sI).v sV) ((T6.v sI).v sV) ((U4.v sI).v sV) ((Yv.v Wr).v sV) B3 tB B4 pB2 kq]
  ·rintro O H7 ⟨sO,w8,w9,vo,LZ,um,ue,rfl,bt,e7,oS,dm7,de7,km,ke⟩
   erw[_,Z,?_];dsimp only[qx];erw[ke H7 _ .refl de7 λpe YU=>?_];erw[_,Z,a,dx,_,Z,e7,by show 9<1000;decide,?_];have v8:cw H7 (_L.upd H7 a (.ins C dx (fw (.ref ma) bv (.int S.dn) (.ref q) pe (.int S.aA) (.str S.side) (.str S.mark) sO))):=.upd e7 trivial;erw[_,Z,?_];dsimp only[qx];erw[km _ _ v8 (by rw[aU KZ.symm];erw[dm7]) λv rv=>?_];have bH:bP [a] H (_L.upd H7 a (.ins C dx (fw (.ref ma) bv (.int S.dn) (.ref q) pe (.int S.aA) (.str S.side) (.str S.mark) sO))):=λb o' eb hb=>by
    have ha:b≠a:=λz=>hb (by rw[z];simp);rw[aU ha];erw[bt b o' (vM _ _ eb) λhm=>?_];simp only[bJ,bZ,cG]at hm;rcases hm with h|h|h
    ·erw[ha h]
    ·rw[h,nlm]at eb;cases eb
    ·rw[h,nle]at eb;cases eb
   have vH:cw H (_L.upd H7 a (.ins C dx (fw (.ref ma) bv (.int S.dn) (.ref q) pe (.int S.aA) (.str S.side) (.str S.mark) sO))):=bH.v λx hx o' eo=>by rw[cE]at hx;rw[hx,e]at eo;cases eo;trivial
   erw[k v _ rv #[#[dx,.ref ma,bv,pe,sO,bQ,RD.v vH _ (gw _ _ _ _ _) r1,RD.v vH _ (jP _) r2,YU.v v8,oS.v v8],ys,bH _ _ eq (by rw[cE];erw[aq.symm]),aP.v vH _ ok.row.no rq] bH]
end
end _a
set_option maxHeartbeats 2000000
namespace _a
open PySem PySem.Spec PyProof.Rows _L _r _l _C _P _W _R
open _O (topR cornO mnO betR atO ownF leadF ownL OkI OkIs)
section
noncomputable def kN(M:aZ)(S:aV):Rat:=PY M.f M.j S.aA S.os
noncomputable def gG(M:aZ)(S:aV)(ns:List Int)(sp:Int):Rat:=p7 M.r M.f S.pc (topR S.aA sp) (kN M S) ((aK ns:Int)-S.dn) S.aR
noncomputable def qS(M:aZ)(S:aV)(ns:List Int)(sp:Int):ag:=vy M.t (gs ns S.dn) (gG M S ns sp)
noncomputable def eU(M:aZ)(S:aV)(ns:List Int)(sp:Int):aV:={HR M S (topR S.aA sp) (kN M S) ((aK ns:Int)-S.dn)with dn:=S.dn+1}
def fL(ns:List Int)(S:aV):aV:=if S.dn=aK ns then gB S else S
def cX(d:ag)(S:aV):aV:=match d with | .tuple [.str w,.str s]=>if w="tool" then{S with side:=s}else if w="mark" then{S with mark:=s}else S |_=>S
inductive One(M:aZ):aV->ag->aV->Prop |line {S:aV}{ns:List Int}{sp:Int}:S.os[0]? =some (some (ns,sp))->¬Halt S.pc S.aR->One M S (qS M S ns sp) (fL ns (eU M S ns sp)) |iJ {S:aV}{d:ag}:S.os[0]? =some none->S.ds[0]? =some d->¬Halt S.pc S.aR->One M S d (gB (cX d S))
inductive Run(M:aZ):aV->List ag->aV->Prop |nil (S:aV):Run M S [] S |cons {S S1 S2:aV}{e:ag}{es:List ag}:One M S e S1->Run M S1 es S2->Run M S (e::es) S2
theorem Run.trans{M:aZ}{S S1 S2:aV}{es fs:List ag}(h:Run M S es S1)(g:Run M S1 fs S2):Run M S (es++fs) S2:=by induction h with |nil=>erw[g] |cons o _ ih=>erw[.cons o (ih g)]
theorem Run.snoc{M:aZ}{S S1 S2:aV}{es:List ag}{e:ag}(h:Run M S es S1)(g:One M S1 e S2):Run M S (es++[e]) S2:=h.trans (.cons g (.nil _))
theorem EF{M:aZ}{D:Nat}{S:aV}(h:kC M D S)(d:ag):kC M D (cX d S)/\(cX d S).os=S.os/\(cX d S).ds=S.ds/\(cX d S).dn=S.dn/\(cX d S).pl=S.pl:=by
 unfold cX;split
 ·split
  ·erw[#[h.row,h.rw,h.len,h.dM,h.eF,h.pl,h.pd,h.pm,h.aR,h.D1,h.D2],Z,Z,Z,Z]
  ·split
   ·erw[#[h.row,h.rw,h.len,h.dM,h.eF,h.pl,h.pd,h.pm,h.aR,h.D1,h.D2],Z,Z,Z,Z]
   ·erw[h,Z,Z,Z,Z]
 ·erw[h,Z,Z,Z,Z]
theorem Bo{M:aZ}{D:Nat}{S:aV}(h:kC M D S)(aM:M.Ok)(hn:S.os≠[]):Dd 64 (kN M S)/\kN M S<=1600:=by
 have h1:1<=S.os.length:=by cases e:S.os with|nil=>exact(hn e).elim|cons _ _=>simp
 erw[a80 (by have:=aM.f1;lia) (λi _=>a0o aM.j1.1 aM.j1.2 h.dM h.eF h.row.BF i) 1 h1,?_];erw[eM (a7Z h1) (a0n h.dM h.eF h.row.BF 1)]
theorem RH{M:aZ}{D:Nat}{S:aV}{ns:List Int}{sp:Int}(h:kC M D S)(aM:M.Ok)(eo:S.os[0]? =some (some (ns,sp)))(hd:S.dn<aK ns)(nh:¬Halt S.pc S.aR):kC M D (eU M S ns sp):=by
 have hn:S.os≠[]:=λe=>by rw[e]at eo;simp at eo
 let(R1,R2):=Bo h aM hn;let(cU,s1,s2):=h.row.ok 0 ns sp eo;have D1:=h.D1;have tI:=aM.r1;have pM:=aM.f1;erw[h.row,h.rw,h.len,h.dM,h.eF,h.pl,?_,?_,?_,h.D1,h.D2]
 ·erw[a9B au au au h.pd ((AK _ _).mono au) (R1.mono au) h.aR nh]
 ·erw[eM a9A (xV s1 s2 h.dM h.eF)]
 ·erw[XD h.aR h.pd.nn nh]
theorem One.ok{M:aZ}{D:Nat}{S S1:aV}{e:ag}(h:cC M D S)(aM:M.Ok)(o:One M S e S1):cC M D S1:=by cases o with
 |@line ns sp eo nh=>
  have hd:S.dn<aK ns:=by
   rcases h.dn with e|⟨mz,mi,e1,e2⟩
   ·rw[e];exact(h.row.ok 0 ns sp eo).1.lead.1
   ·rw[eo]at e1;cases e1;erw[e2]
  have raw:=RH h.raw aM eo hd nh;have hn:S.os≠[]:=λe=>by rw[e]at eo;simp at eo
  unfold fL;split
  ·erw[raw.end hn]
  ·next cP=>
   erw[raw.ok (.inr #[ns,sp,eo,?_])];have:(eU M S ns sp).dn=S.dn+1:=rfl
   lia |iJ eo ed nh=>let(h1,h2,_):=EF h.raw e;erw[h1.end ?_];rw[h2];intro z;rw[z]at eo;simp at eo
theorem Run.ok{M:aZ}{D:Nat}{S S1:aV}{es:List ag}(h:cC M D S)(aM:M.Ok)(r:Run M S es S1):cC M D S1:=by induction r with |nil=>erw[h] |cons o _ ih=>erw[ih (o.ok h aM)]
theorem One.no{M:aZ}{D:Nat}{S S1:aV}{e:ag}(h:cC M D S)(o:One M S e S1):fk e=true:=by cases o with |line _ _=>erw[ME _ _ _] |iJ eo ed _=>erw[gX.mp h.row.no _ (gf ed)]
theorem Run.no{M:aZ}{D:Nat}{S S1:aV}{es:List ag}(h:cC M D S)(aM:M.Ok)(r:Run M S es S1):cJ es=true:=by induction r with |nil=>rfl |cons o _ ih=>rw[cJ,eX];erw[o.no h,ih (o.ok h aM)]
theorem C4{b:Bool}{A B A' B':Prop}(h1:A->A')(h2:B->B'):(if b=true then A else B)->(if b=true then A' else B'):=by
 cases b
 ·erw[h2]
 ·erw[h1]
theorem Od:bp ["self","most","line","lead","rows","top","reach","told","middle"] ["self","most"] (aY Ff):=bE aH
inductive ac1(K:aa)(C:Addr)(vs:List V)(H:Hp)(Q:VK):Prop |mk (a:_)(q:_)(M:_)(D:_)(S:_)(ns:_)(sp:_)(most:_)(h0:vs=[.ref a,.int most])(h1:bX K C H a q M S)(h2:cC M D S)(h3:M.Ok)(h4:S.os[0]? =some (some (ns,sp)))(h5:¬Halt S.pc S.aR)(h6:1<=most)(h7:most<=1000)(h8:∀l ys es S' q' H',H l=none->H' l=some (.lst ys)->aP K H' ys es->Run M S es S'->1<=es.length->(es.length:Int)<=most->bX K C H' a q' M S'->Mv a q H q' H'->l≠q'->Q (.ref l) H')
def N4(K:aa)(C:Addr):Sp:=λvs H Q _=>ac1 K C vs H Q
theorem a1d{C:Addr}(F:MA K C "steps_of_first" "Runner.steps_of_first" Ff)(TC:fc K C)(B:bK mg)(pD:aG P w K mg aw "lead_of" 1 (sX K))(a5d:aG P w K mg aw "step_rows" 3 (El K))(Cc:aG P w K mg aw "top_square" 4 (AW K))(a5l:aG P w K mg aw "reach_behind_first" 9 (Em K))(a5e:aG P w K mg aw "step_entry" 3 (Eu K))(zq:cS P w K mg aw C "is_halted" 2 (gR K C λ_ S H Q=>Q (.bl (S.aR.isSome&&decide (S.pc=0))) H))(a6W:cS P w K mg aw C "next_square" 5 (N5 K C))(JD:cS P w K mg aw C "end_first" 3 (Eo K C)):cS P w K mg aw C "steps_of_first" 10 (N4 K C):=by
 erw[F.has Od (λvs H Q E h=>?_) (λ_ _ _ _ _ _=>dF λ_ _=>rfl) (λf aI A outer s H vs Q E hr h=>?_)]
 ·let(a,q,M,D,S,ns,sp,most,rfl,_):=h
  rfl
 ·let(a,q,M,D,S,ns,sp,most,rfl,R0,ok,aM,eo,nh,m1,m2,k):=h
  let(dx,mv,bv,cv,tv,e,r1,r2,r3,r4):=R0.ob;let(ys,eq,rq):=R0.qu;have aq:=R0.ne;have nd:=Od.nd;have lr:=aM.len;have tI:=aM.r1;have pM:=aM.f1;have ll:=ok.row.len;have zv:=ok.len;have wL:0<S.os.length:=(dZ.mp eo).1;have cP:S.os≠[]:=λz=>by rw[z]at wL;erw[absurd wL ay]
  obtain⟨d,ed⟩:∃d,S.ds[0]? =some d:=#[_,cB (show 0<S.ds.length by lia)];let(y,ey,ry):=rq.get 0 ed;have lY:=pA (ok.row.it 0 d _ ed eo);subst lY;let(cU,fu,jM):=ok.row.ok 0 ns sp eo;have qH:fg ns.length 1000 ns:=#[Z,λz hz=>by have:=cU.bd z hz;lia,cU.nz];have Rx:=cU.lead.1;have IM:=RQ cU;have nl3:ns.length<=3:=by rw[cU.len];lia
  have hd0:S.dn<aK ns:=by
   rcases ok.dn with e'|⟨mz,mi,e1,e2⟩
   ·lia
   ·rw[eo]at e1;cases e1;erw[e2]
  let(Rd,Rl):=Bo ok.raw aM cP;erw[_,(aD (pS 2 nd (px K (cH TC.cl TC.jc (pv 0)) aB)) (aD (pS 3 nd (pf pD hr (ao (pv 2) az))) (aD (pS 4 nd (pf a5d hr (ao (pv 2) az))) (aD (pS 5 nd (pf Cc hr (ao (pv 2) (ao (cH TC.cl TC.BN (pv 0)) az)))) (aD (pS 6 nd (pf a5l hr (ao (cH TC.cl TC.lI (pv 0)) (ao (cH TC.cl TC.jc (pv 0)) (ao (cH TC.cl TC.BN (pv 0)) az))))) (aD (pS 7 nd (fA az)) (aD (ig (vQ jI (PW.pt (oZ (bU ku (dS K B (ao (pv 7) az)) (pv 1) (bB _)) (oZ (bU ku (cH TC.cl TC.nW (pv 0)) (pv 3) (bB _)) (vP (dj (cO (iI zq TC.cl (hr.mono ay) (pv 0)))))))) (aD (pS 8 nd (kr a6W TC.cl (hr.mono ay) (pv 0) (ao (pv 5) (ao (pv 6) (ao (aQ iK (pv 3) (cH TC.cl TC.nW (pv 0))) az))))) (aD (mr (tP K Z (pv 7) (ao (pf a5e hr (ao (cH TC.cl TC.lI (pv 0)) (ao (px K (pv 4) (cH TC.cl TC.nW (pv 0))) (ao (pv 8) az)))) az))) (aJ (ZL TC.cl TC.nW (pv 0) aB a4H)))))) (aD (ig (bL (bU (dW K Z hr.units) (cH TC.cl TC.nW (pv 0)) (pv 3) (bB _)) (aJ (mr (iI JD TC.cl (hr.mono ay) (pv 0)))) bO)) (aJ (aW (pv 7))))))))))),?_];erw[_,Z,a,dx,_,_,Z,e,Z,.inl #[q,_,0,y,Z,Z,aE.of eq,cL (eg 0) ey,?_]];erw[_,Z,y,ns,sp,Z,ry,cU.ne,au,λH1 s1=>?_];erw[_,Z,y,ns,sp,Z,RD.mono s1 _ ry,qH,au,λnZ yr H2 nlr CW PQ s2=>?_];have jr:=s1.trans s2;erw[_,Z,_,Z,a,dx,_,_,Z,jr _ _ e,Z,y,ns,sp,S.aA,Z,RD.mono jr _ ry,fu,jM,ok.dM,ok.eF,λsJ H3 YF s3=>?_];have jq:=jr.trans s3;have e3:=jq _ _ e;erw[_,Z,a,dx,_,_,Z,e3,Z,_,Z,a,dx,_,_,Z,e3,Z,_,Z,a,dx,_,_,Z,e3,Z,mv,.ref q,S.aA,M.rs,M.r,M.f,M.j,M.t,S.ds,S.os,Z,RD.mono jq _ r1,aM,GS (aE.of (jq _ _ eq)) (aP.mono jq _ rq),ok.row,au,au,ok.dM,ok.eF,λtH H4 YO s4=>?_];have jO:=jq.trans s4;erw[df Z,λl H5 n5=>?_];have Bl:=jO.trans n5.same;have jN:aF H2 H5:=s3.trans (s4.trans n5.same);have nl:H l=none:=by cases e':H l with |none=>rfl |some o=>have:=jO _ _ e';rw[n5.no]at this;cases this
  have QO:H nZ=none:=by cases e':H nZ with |none=>rfl |some o=>have:=s1 _ _ e';rw[nlr]at this;cases this
  have al:a≠l:=λz=>by rw[<-z,e]at nl;cases nl
  have ql:q≠l:=λz=>by rw[<-z,eq]at nl;cases nl
  have Vc:a≠nZ:=λz=>by rw[<-z,e]at QO;cases QO
  have llr:l≠nZ:=λz=>by have:=n5.no;rw[z,(s3.trans s4) _ _ CW]at this;cases this
  have Wb:=PQ.length;rw[GK]at Wb;have td:=AK S.aA sp;have tl:=xV fu jM ok.dM ok.eF;have tp:=E7 fu ok.dM;have a2G:fL ns S=S:=by unfold fL;rw[bo au]
  have iP:sizeLine=16777216:=by decide
  erw[λO H6=>∃T es us w8,O=[some (.ref a),some (.int most),some y,some (.int (aK ns)),some (.ref nZ),some sJ,some tH,some (.ref l),w8]/\bP [a,l] H5 H6/\bX K C H6 a q M T/\kC M D T/\T.os=S.os/\T.ds=S.ds/\T.aA=S.aA/\T.dn<=aK ns/\1<=es.length/\(es.length:Int)<=most/\H6 l=some (.lst us)/\aP K H6 us es/\cJ es=true/\Run M S es (fL ns T),?_,?_]
  ·erw[vn (λO H6=>∃T es us w8,O=[some (.ref a),some (.int most),some y,some (.int (aK ns)),some (.ref nZ),some sJ,some tH,some (.ref l),w8]/\bP [a,l] H5 H6/\bX K C H6 a q M T/\kC M D T/\T.os=S.os/\T.ds=S.ds/\T.aA=S.aA/\T.dn=S.dn+es.length/\T.dn<=aK ns/\(es.length:Int)<=most/\H6 l=some (.lst us)/\aP K H6 us es/\cJ es=true/\Run M S es (fL ns T)/\(es=[]->¬Halt T.pc T.aR)) (λ_ H6=>match H6 l with|some (.lst us)=>2000-us.length|_=>0) ?_ ?_ ?_]
   ·erw[S,[],[],none,Z,bP.refl _ _,R0.same ok.row.no Bl,ok.raw,Z,Z,Z,Z,au,by simp;lia,n5.at',dI,Z,by rw[a2G];erw[.nil _],λ_=>nh]
   ·rintro O H6 ⟨T,es,us,w8,rfl,bt,RT,raw,jz,rE,wX,edn,SK,pI,dl,rd,oq,run,hnh⟩
    have lu:=rd.length;let(pT,Rb,bv6,a0i,WD,e6,t1,t2,t3,t4):=RT.ob;have E4:cw H5 H6:=bt.v λx hx o' dX=>by
     simp only[bJ,bZ,cG]at hx;rcases hx with rfl|rfl
     ·rw[Bl _ _ e]at dX;cases dX;trivial
     ·rw[n5.at']at dX;cases dX;trivial
    have nos:cJ T.ds=true:=by rw[rE];erw[ok.row.no]
    have K7:1<=es.length->∃T' pP m8 AB,[some (.ref a),some (.int most),some y,some (.int (aK ns)),some (.ref nZ),some sJ,some tH,some (.ref l),w8]=[some (.ref a),some (.int most),some y,some (.int (aK ns)),some (.ref nZ),some sJ,some tH,some (.ref l),AB]/\bP [a,l] H5 H6/\bX K C H6 a q M T'/\kC M D T'/\T'.os=S.os/\T'.ds=S.ds/\T'.aA=S.aA/\T'.dn<=aK ns/\1<=pP.length/\(pP.length:Int)<=most/\H6 l=some (.lst m8)/\aP K H6 m8 pP/\cJ pP=true/\Run M S pP (fL ns T'):=λh1=>#[T,es,us,w8,Z,bt,RT,raw,jz,rE,wX,SK,h1,pI,dl,rd,oq,run];erw[_,Z,l,us,Z,.inl (aE.of dl),_,Z,_,_,Z,Z,_,Z,?_];show if decide ((us.length:Int)<most)=true then _ else _;by_cases c1:(us.length:Int)<most
    ·rw[bM c1]
     erw[bF ?_];erw[_,Z,a,pT,_,_,Z,e6,Z,_,Z,_,_,Z,Z,_,Z,?_];show if decide ((T.dn:Int)<(aK ns:Int))=true then _ else _;by_cases c2:T.dn<aK ns
     ·rw[bM au]
      erw[bF ?_];have QB:cC M D T:=raw.ok (.inr #[ns,sp,by rw[jz];erw[eo],c2]);have a2F:fL ns T=T:=by unfold fL;rw[bo au]
      erw[_,Z,a,pT,_,Z,e6,Z,a,q,M,D,T,Z,RT,QB,aM,_,Z,?_];by_cases c3:Halt T.pc T.aR
      ·have hb:(T.aR.isSome&&decide (T.pc=0))=true:=by let(h1,h2):=c3;rw[bM h2,Ao];cases hs:T.aR with |none=>exact(h1 hs).elim |some _=>rfl
       rw[hb];erw[bh ?_];erw[K7 ?_];cases es with |nil=>exact(hnh Z c3).elim |cons _ _=>simp
      ·have hb:(T.aR.isSome&&decide (T.pc=0))=false:=by cases hs:T.aR with |none=>rfl |some _=>show decide (T.pc=0)=false;erw[cD λh2=>c3 #[by rw[hs];simp,h2]]
       rw[hb];erw[bF ?_];have rT:kN M T=kN M S:=by unfold kN;rw[jz,wX]
       erw[_,Z,a,pT,_,Z,e6,Z,?_];erw[_,Z,_,Z,_,Z,_,Z,a,pT,_,_,Z,e6,Z,_,_,Z,Z,?_];have YE:cg K H6 sJ (topR S.aA sp):=((YF.go s4).go n5.same).v E4;have YN:cg K H6 tH (kN M S):=(YO.go n5.same).v E4;erw[a,q,M,D,T,sJ,tH,topR S.aA sp,kN M S,_,Z,RT,QB,aM,YE,td,tl,YN,Rd,Rl,au,au,c3,λmid H7 Z0 R7 b7=>?_];let(rH,u6,Dn,Bu,AH,e7',Mr,Xw,Xv,Xu):=R7.ob;have e7:H7 a=some (.ins C rH (fw u6 Dn (.int T.dn) (.ref q) Bu (.int T.aA) (.str T.side) (.str T.mark) AH)):=e7';have AE:cw H6 H7:=b7.v λx hx o' dX=>by rw[cE]at hx;rw[hx,e6]at dX;cases dX;trivial
       have CY:=b7 _ _ dl (by rw[cE];erw[al.symm]);have a9Q:=jN _ _ CW;have a9P:=bt _ _ a9Q (by simp;erw[Vc.symm,llr.symm]);have a9O:=b7 _ _ a9P (by rw[cE];erw[Vc.symm]);have Z3:aP K H7 yr (oX ns):=aP.v AE _ (GJ ns) (aP.v E4 _ (GJ ns) (aP.mono jN _ PQ));obtain⟨rv,TL⟩:∃rv,yr[T.dn]? =some rv:=#[_,cB (show T.dn<yr.length by lia)];let(dr,U6,GR):=Z3.get' T.dn TL;rw[PF c2]at U6;cases U6;have mB:Bd 2000 (p7 M.r M.f T.pc (topR S.aA sp) (kN M S) ((aK ns:Int)-T.dn) T.aR):=by have D1:=raw.D1;have D2:=raw.D2;exact((Iq au au au raw.pd (td.mono au) (Rd.mono au) raw.aR c3).bd (eM Io (eM tl aH))).mono au
       have mP:0<p7 M.r M.f T.pc (topR S.aA sp) (kN M S) ((aK ns:Int)-T.dn) T.aR:=Ip tI.1 pM.1 au raw.pd.nn tp Rd.nn raw.aR c3;erw[_,Z,.inl #[Z,_,aE.of CY],?_];erw[_,Z,a,rH,_,_,Z,e7,Z,?_];erw[_,Z,_,Z,a,rH,_,_,Z,e7,Z,.inl #[nZ,_,_,_,Z,Z,aE.of a9O,cL (show(0:Int)<=(T.dn:Int) by lia) (by simpa using TL),?_]];erw[_,Z,u6,rv,mid,M.rs,M.r,M.f,M.j,M.t,gs ns T.dn,_,Z,Mr,aM,GR,Z0,mB,mP,λent H8 Zc s8=>?_];have zG:=s8 _ _ CY;erw[l,us,_,Z,Z,zG,au,?_];have e8:(_L.upd H8 l (.lst (us++[ent]))) a=some (.ins C rH (fw u6 Dn (.int T.dn) (.ref q) Bu (.int T.aA) (.str T.side) (.str T.mark) AH)):=by rw[aU al];erw[s8 _ _ e7]
       erw[_,Z,a,rH,_,_,Z,e8,Z,_,_,Z,Z,rH,_,e8,by show 9<1000;decide,?_];have vl:cw H8 (_L.upd H8 l (.lst (us++[ent]))):=.upd zG trivial;have va:cw (_L.upd H8 l (.lst (us++[ent]))) (_L.upd (_L.upd H8 l (.lst (us++[ent]))) a (.ins C rH (fw u6 Dn (.int ((T.dn:Int)+1)) (.ref q) Bu (.int T.aA) (.str T.side) (.str T.mark) AH))):=.upd e8 trivial;have v7:=(s8.v.trans vl).trans va;have eS:eU M T ns sp={HR M T (topR S.aA sp) (kN M S) ((aK ns:Int)-T.dn)with dn:=T.dn+1}:=by unfold eU;rw[rT,wX]
       have eE:qS M T ns sp=vy M.t (gs ns T.dn) (p7 M.r M.f T.pc (topR S.aA sp) (kN M S) ((aK ns:Int)-T.dn) T.aR):=by unfold qS gG;rw[rT,wX]
       have a5r:One M T (qS M T ns sp) (fL ns (eU M T ns sp)):=.line (by rw[jz];erw[eo]) c3;let(yq,eq7,YS):=R7.qu;have HX:cJ (es++[qS M T ns sp])=true:=gX.mpr λd hd=>by
        rcases jj.mp hd with h|h
        ·erw[gX.mp oq d h]
        ·rw[cE]at h;rw[h];erw[ME _ _ _]
       have q7l:q≠l:=ql;erw[#[eU M T ns sp,es++[qS M T ns sp],us++[ent],_,Z,λb o' eb hb=>?_,?_,RH raw aM (by rw[jz];erw[eo]) c2 c3,jz,rE,wX,?_,?_,?_,?_,?_,?_,?_,λz=>by simp at z],?_]
       ·have ha:b≠a:=λz=>hb (by rw[z];simp)
        have gH:b≠l:=λz=>hb (by rw[z];simp);rw[aU ha,aU gH];erw[s8 _ _ (b7 _ _ (bt _ _ eb hb) (by rw[cE];erw[ha]))]
       ·rw[eS]
        erw[#[rH,u6,Dn,Bu,AH,?_,RD.v v7 _ (gw _ _ _ _ _) Mr,RD.v v7 _ (jP _) Xw,Xv.v v7,Xu.v v7],yq,?_,aP.v v7 _ nos YS]
        ·erw[bQ]
        ·rw[aU aq.symm,aU ql];erw[s8 _ _ eq7]
       ·show T.dn+1=_
        rw[fH];show _=_+(_+1);lia
       ·show T.dn+1<=_
        lia
       ·rw[fH];show((es.length+1:Nat):Int)<=most;lia
       ·rw[aU al.symm,bQ]
       ·erw[aP.v va _ HX (aP.v vl _ HX ?_)]
        have r7:aP K H8 us es:=aP.mono s8 _ (aP.v AE _ oq rd);erw[r7.append (cN ?_ dI)];rw[eE];erw[Zc]
       ·erw[HX]
       ·rw[a2F]at run
        erw[run.snoc a5r]
       ·show(match(_L.upd (_L.upd H8 l (.lst (us++[ent]))) a _) l with|some (.lst us)=>2000-us.length|_=>0)<(match H6 l with|some (.lst us)=>2000-us.length|_=>0)
        rw[aU al.symm,bQ,dl];show 2000-(us++[ent]).length<2000-us.length;rw[fH];show 2000-(us.length+1)<_
        lia
     ·rw[cD au]
      erw[bh ?_];erw[K7 au]
    ·rw[cD c1]
     erw[bh ?_];erw[K7 au]
   ·rintro O H6 Q1 Q2 hq ⟨v1,f1,l',m8,f2,f3,v2,f4,i1,i2,f5,f6,b1,f7,h⟩
    erw[v1,f1,l',m8,f2,f3,v2,f4,i1,i2,f5,f6,b1,f7,C4 ?_ (hq _ _) h];rintro⟨v3,f8,a',iy,ow,u',f9,K5,K4,v4,f12,i3,i4,f13,f14,b2,K3,h⟩;erw[v3,f8,a',iy,ow,u',f9,K5,K4,v4,f12,i3,i4,f13,f14,b2,K3,C4 ?_ (hq _ _) h];rintro⟨v5,K2,a2,jA,CD,K1,K0,JZ,a3,q3,M3,D3,S3,JY,JX,JW,JV,b3,JU,h⟩;erw[v5,K2,a2,jA,CD,K1,K0,JZ,a3,q3,M3,D3,S3,JY,JX,JW,JV,b3,JU,hq _ _ h]
  ·rintro O H6 ⟨T,es,us,w8,rfl,bt,RT,raw,jz,rE,wX,SK,h1,pI,dl,rd,oq,run⟩
   let(pT,Rb,bv6,a0i,WD,e6,t1,t2,t3,t4):=RT.ob;have a5C:T.os≠[]:=by rw[jz];erw[cP]
   have bH:∀{H7:Hp},bP [a] H6 H7->bP [a,q] H H7:=λ{H7} b7 b o' eb hb=>by
    have ha:b≠a:=λz=>hb (by rw[z];simp);erw[b7 _ _ (bt _ _ (Bl _ _ eb) λhm=>?_) (by rw[cE];erw[ha])];simp only[bJ,bZ,cG]at hm;rcases hm with h|h
    ·erw[ha h]
    ·rw[h,nl]at eb;cases eb
   erw[λO H7=>∃q' AB,O=[some (.ref a),some (.int most),some y,some (.int (aK ns)),some (.ref nZ),some sJ,some tH,some (.ref l),AB]/\bX K C H7 a q' M (fL ns T)/\Mv a q H q' H7/\l≠q'/\∃m8,H7 l=some (.lst m8)/\aP K H7 m8 es,?_,?_]
   ·erw[_,Z,a,pT,_,_,Z,e6,Z,_,Z,.inl #[_,_,Z,Z,_,Z,?_]]
    show if decide ((T.dn:Int)=(aK ns:Int))=true then _ else _;by_cases c:T.dn=aK ns
    ·rw[bM au]
     erw[bF ?_];erw[_,Z,a,pT,_,Z,e6,Z,a,q,M,D,T,Z,RT,raw,aM,a5C,λq' H7 R7 nq b7=>?_];have AE:cw H6 H7:=b7.v λx hx o' dX=>by rw[cE]at hx;rw[hx,e6]at dX;cases dX;trivial
     erw[q',_,Z,by unfold fL;rw[bu c];erw[R7],#[bH b7,.inr ?_],λz=>?_,us,b7 _ _ dl (by rw[cE];erw[al.symm]),aP.v AE _ oq rd]
     ·cases e':H q' with |none=>rfl |some o'=>
      have h5:=Bl _ _ e';by_cases ha:q'=a
      ·rw[ha,e6]at nq;cases nq
      ·by_cases gH:q'=l
       ·rw[gH,nl]at e';cases e'
       ·have:=bt _ _ h5 (by simp;erw[ha,gH])
        rw[nq]at this;cases this
     ·rw[<-z,dl]at nq;cases nq
    ·rw[cD au]
     erw[bh ?_];erw[q,_,Z,by unfold fL;rw[bo c];erw[RT],#[bH (bP.refl _ _),.inl Z],ql.symm,us,dl,rd]
   ·rintro O H7 ⟨q',AB,rfl,R7,u6,lq,m8,CY,Zg⟩
    erw[_,Z,k l m8 es (fL ns T) q' H7 nl CY Zg run h1 pI R7 u6 lq]
end
section
theorem Mv.trans{a q q1 q2:Addr}{H H1 H2:Hp}(m1:Mv a q H q1 H1)(m2:Mv a q1 H1 q2 H2)(ha:H1 a≠none):Mv a q H q2 H2:=by
 erw[λb o e hb=>?_,?_]
 ·erw[m2.but _ _ (m1.but _ _ e hb) λhm=>?_]
  simp only[bJ,bZ,cG]at hm hb;rcases hm with h|h
  ·erw[hb (.inl h)]
  ·rcases m1.nq with h1|h1
   ·erw[hb (.inr (h.trans h1))]
   ·rw[<-h]at h1;rw[h1]at e;cases e
 ·rcases m2.nq with h|h
  ·rw[h];erw[m1.nq]
  ·cases e:H q2 with |none=>erw[.inr rfl] |some o=>
   by_cases h1:q2=q
   ·erw[.inl h1]
   ·by_cases h2:q2=a
    ·rw[h2]at h;exact(ha h).elim
    ·have:=m1.but _ _ e (by simp;erw[h2,h1])
     rw[h]at this;cases this
inductive ac7(K:aa)(C:Addr)(vs:List V)(H:Hp)(Q:VK):Prop |mk (a:_)(q:_)(M:_)(D:_)(S:_)(most:_)(h0:vs=[.ref a,.int most])(h1:bX K C H a q M S)(h2:cC M D S)(h3:M.Ok)(h4:S.os≠[])(h5:¬Halt S.pc S.aR)(h6:1<=most)(h7:most<=1000)(h8:∀l ys es S' q' H',H l=none->H' l=some (.lst ys)->aP K H' ys es->Run M S es S'->1<=es.length->(es.length:Int)<=most->bX K C H' a q' M S'->Mv a q H q' H'->l≠q'->Q (.ref l) H')
def N8(K:aa)(C:Addr):Sp:=λvs H Q _=>ac7 K C vs H Q
theorem Oj:bp ["self","most","item"] ["self","most"] (aY Fu):=bE aH
theorem a1q{C:Addr}(F:MA K C "entries_of_first" "Runner.entries_of_first" Fu)(TC:fc K C)(ou:aG P w K mg aw "is_line" 1 (vC K))(a6V:cS P w K mg aw C "steps_of_first" 10 (N4 K C))(JD:cS P w K mg aw C "end_first" 3 (Eo K C)):cS P w K mg aw C "entries_of_first" 11 (N8 K C):=by
 erw[F.has Oj (λvs H Q E h=>?_) (λ_ _ _ _ _ _=>dF λ_ _=>rfl) (λf aI A outer s H vs Q E hr h=>?_)]
 · let(a,q,M,D,S,most,rfl,_):=h
   rfl
 · let(a,q,M,D,S,most,rfl,R0,ok,aM,cP,nh,m1,m2,k):=h
   let(dx,mv,bv,cv,tv,e,r1,r2,r3,r4):=R0.ob;let(ys,eq,rq):=R0.qu;have aq:=R0.ne;have nd:=Oj.nd;have ll:=ok.row.len;have wL:0<S.os.length:=by cases h:S.os with|nil=>exact(cP h).elim|cons _ _=>simp
   obtain⟨d,ed⟩:∃d,S.ds[0]? =some d:=#[_,cB (show 0<S.ds.length by lia)];let(y,ey,ry):=rq.get 0 ed;let(o,eo,it):=ok.row.get ed;erw[_,(aD (pS 2 nd (px K (cH TC.cl TC.jc (pv 0)) aB)) (aD (bL (cO (pf ou hr (ao (pv 2) az))) (aJ (aW (kr a6V TC.cl (hr.mono ay) (pv 0) (ao (pv 1) az)))) bO) (aD (ig (bL (bU (dW K Z hr.units) (px K (pv 2) aB) bf (bB _)) (aJ (fW TC.cl TC.QX (pv 0) (px K (pv 2) aB))) bO)) (aD (ig (bL (bU (dW K Z hr.units) (px K (pv 2) aB) bf (bB _)) (aJ (fW TC.cl TC.QY (pv 0) (px K (pv 2) aB))) bO)) (aD (mr (iI JD TC.cl (hr.mono ay) (pv 0))) (aJ (aW (fA (ao (pv 2) az))))))))),?_];erw[_,Z,a,dx,_,_,Z,e,Z,.inl #[q,_,0,y,Z,Z,aE.of eq,cL (eg 0) ey,?_]];erw[_,Z,y,d,o,Z,ry,it,_,Z,?_];cases o with |some z=>let(ns,sp):=z;erw[bF ?_];erw[_,Z,a,dx,_,Z,e,Z,_,Z,a,q,M,D,S,ns,sp,most,Z,R0,ok,aM,eo,nh,m1,m2,k] |none=>
     erw[bh ?_];have iJ:=ok.rw 0 d eo ed;have wd:∃z u ya yr,d= .tuple [.str z,u]/\y= .ref ya/\bc K H ya (.str z::[yr])/\RD K H yr u/\SeqAt.shaped (.str z)=true:=by
      rcases iJ with⟨n,rfl,_⟩|⟨w',s',rfl,hw,_⟩
      · let(ya,xs,rfl,h1,h2):=ry.cT
        let(x1,rr,rfl,e1,h2):=h2.cons_inv;let(x2,rr,rfl,e2,h2):=h2.cons_inv;cases h2.nil_inv;cases e1.str_inv;erw[_,_,ya,x2,Z,Z,h1,e2,aH]
      · let(ya,xs,rfl,h1,h2):=ry.cT
        let(x1,rr,rfl,e1,h2):=h2.cons_inv;let(x2,rr,rfl,e2,h2):=h2.cons_inv;cases h2.nil_inv;cases e1.str_inv;erw[_,_,ya,x2,Z,Z,h1,e2,by rcases hw with rfl|rfl<;>decide+kernel]
     let(z,u,ya,yr,rfl,rfl,J1,Pu,sz):=wd;have tU:SeqAt.shaped (.str "tool")=true:=by decide+kernel
     have tM:SeqAt.shaped (.str "mark")=true:=by decide+kernel
     have eqT:∀(x y:Str),PyData.eqv (.str x) (.str y)=decide (x=y):=λx y=>by show(x==y)=decide (x=y);rw[kb];simp
     erw[λO H1=>O=[some (.ref a),some (.int most),some (.ref ya)]/\bP [a] H H1/\H1 a=some (.ins C dx (fw mv bv (.int S.dn) (.ref q) cv (.int S.aA) (.str (if z="tool" then(cX (.tuple [.str z,u]) S).side else S.side)) (.str S.mark) tv)),?_,?_]
     · erw[_,Z,.inr #[ya,_,0,.str z,Z,Z,J1,cL (eg 0) Z,.inr #[_,_,bT _,bT _,sz,tU,_,Z,?_]]]
       rw[eqT];by_cases c:z="tool"
       · rw[bM c]
         erw[bF ?_];have hu:∃s',u= .str s':=by
          rcases iJ with⟨n,h,_⟩|⟨w',s',h,hw,_⟩
          ·cases h;erw[absurd c aH]
          ·cases h;erw[_,rfl]
         let(s',rfl):=hu;cases Pu.str_inv;erw[_,Z,.inr #[ya,_,1,.str s',Z,Z,J1,cL ay Z,_,Z,a,dx,_,Z,e,by show 9<1000;decide,?_]];erw[Z,zN (by simp),?_];rw[bu c];have es:(cX (.tuple [.str z,.str s']) S).side=s':=by unfold cX;simp only[bu c]
         rw[es];erw[bQ]
       · rw[cD c]
         erw[bh #[Z,bP.refl _ _,?_]];rw[bo c];erw[e]
     rintro O H1 ⟨rfl,b1,e1⟩;have Wt:cw H H1:=b1.v λx hx o' dX=>by rw[cE]at hx;rw[hx,e]at dX;cases dX;trivial
     have Sm:=bc.v Wt J1;erw[λO H2=>O=[some (.ref a),some (.int most),some (.ref ya)]/\bP [a] H H2/\H2 a=some (.ins C dx (fw mv bv (.int S.dn) (.ref q) cv (.int S.aA) (.str (cX (.tuple [.str z,u]) S).side) (.str (cX (.tuple [.str z,u]) S).mark) tv)),?_,?_]
     · erw[_,Z,.inr #[ya,_,0,.str z,Z,Z,Sm,cL (eg 0) Z,.inr #[_,_,bT _,bT _,sz,tM,_,Z,?_]]]
       rw[eqT];by_cases c:z="mark"
       · rw[bM c]
         erw[bF ?_];have nt:¬z="tool":=by rw[c];decide+kernel
         rw[bo nt]at e1;have hu:∃s',u= .str s':=by
          rcases iJ with⟨n,h,_⟩|⟨w',s',h,hw,_⟩
          ·cases h;erw[absurd c aH]
          ·cases h;erw[_,rfl]
         let(s',rfl):=hu;cases Pu.str_inv;erw[_,Z,.inr #[ya,_,1,.str s',Z,Z,Sm,cL ay Z,_,Z,a,dx,_,Z,e1,by show 9<1000;decide,?_]];erw[Z,b1.trans (zN (by simp)),?_];have es:(cX (.tuple [.str z,.str s']) S).side=S.side/\(cX (.tuple [.str z,.str s']) S).mark=s':=by constructor<;>(unfold cX;simp only[bo nt,bu c])
         rw[es.1,es.2];erw[bQ]
       · rw[cD c]
         erw[bh #[Z,b1,?_]];have em:(cX (.tuple [.str z,u]) S).mark=S.mark:=by
          unfold cX;split
          · next h => cases h;split
                      ·rfl
                      ·first|rfl|rw[bo c]
          ·rfl
         have es:(if z="tool" then(cX (.tuple [.str z,u]) S).side else S.side)=(cX (.tuple [.str z,u]) S).side:=by
          by_cases c2:z="tool"
          ·rw[bu c2]
          · rw[bo c2]
            unfold cX;split
            ·next h=>cases h;first|rfl|rw[bo c2,bo c]
            ·rfl
         rw[es]at e1;rw[em];erw[e1]
     rintro O H2 ⟨rfl,b2,e2⟩;have xR:cw H H2:=b2.v λx hx o' dX=>by rw[cE]at hx;rw[hx,e]at dX;cases dX;trivial
     let(Q3,jQ,Kg,dn',ZS):=EF ok.raw (.tuple [.str z,u]);have fx:(cX (.tuple [.str z,u]) S).pc=S.pc/\(cX (.tuple [.str z,u]) S).aA=S.aA/\(cX (.tuple [.str z,u]) S).aR=S.aR:=by
      unfold cX;split
      · split
        ·erw[Z,Z,Z]
        ·split<;>erw[Z,Z,Z]
      ·erw[Z,Z,Z]
     have R2:bX K C H2 a q M (cX (.tuple [.str z,u]) S):=by
      erw[#[dx,mv,bv,cv,tv,?_,RD.v xR _ (gw _ _ _ _ _) r1,?_,?_,?_],ys,b2 _ _ eq (by rw[cE];erw[aq.symm]),?_]
      ·rw[dn',fx.2.1];erw[e2]
      ·rw[ZS];erw[RD.v xR _ (jP _) r2]
      ·rw[fx.1];erw[r3.v xR]
      ·rw[fx.2.2];erw[r4.v xR]
      ·rw[Kg];erw[aP.v xR _ ok.row.no rq]
     erw[_,Z,a,dx,_,Z,e2,Z,a,q,M,D,_,Z,R2,Q3,aM,by rw[jQ];erw[cP],λq' H3 R3 nq b3=>?_];have KR:=b2.trans b3;have Ws:cw H H3:=KR.v λx hx o' dX=>by rw[cE]at hx;rw[hx,e]at dX;cases dX;trivial
     have nq0:H q'=none:=by cases e':H q' with |none=>rfl |some o'=>
        by_cases ha:q'=a
        ·rw[ha,e2]at nq;cases nq
        · have:=b2 _ _ e' (by rw[cE];erw[ha])
          rw[nq]at this;cases this
     refine⟨_,Z,df Z,λl H4 n4=>?_⟩;have nl:H l=none:=by cases e':H l with |none=>rfl |some o'=>
        by_cases ha:l=a
        · let(Kd,_,_,_,_,e3,_):=R3.ob
          have:=n4.no;rw[ha,e3]at this;cases this
        · have:=KR _ _ e' (by rw[cE];erw[ha])
          rw[n4.no]at this;cases this
     have okS:cC M D (gB (cX (.tuple [.str z,u]) S)):=Q3.end (by rw[jQ];erw[cP]);erw[k l [.ref ya] [.tuple [.str z,u]] _ q' H4 nl n4.at' (cN (RD.v (Ws.trans n4.same.v) _ (gX.mp ok.row.no _ (gf ed)) ry) dI) (.cons (.iJ eo ed nh) (.nil _)) (by simp) (by simpa using m1) (R3.same okS.row.no n4.same) #[λb o' eb hb=>n4.same _ _ (KR _ _ eb (by rw[cE];intro h;erw[hb (by rw[h];simp)])),.inr nq0] ?_];intro h;have:=n4.no;let(yq,eq3,_):=R3.qu;rw[h,eq3]at this;cases this
inductive ac8(K:aa)(C:Addr)(vs:List V)(H:Hp)(Q:VK):Prop |mk (a:_)(q:_)(M:_)(D:_)(S:_)(n:_)(h0:vs=[.ref a,.int n])(h1:bX K C H a q M S)(h2:cC M D S)(h3:M.Ok)(h4:0<=n)(h5:n<=1000)(h6:∀l ys es S' q' H',H l=none->H' l=some (.lst ys)->aP K H' ys es->Run M S es S'->(es.length:Int)<=n->((es.length:Int)=n\/S'.os=[]\/Halt S'.pc S'.aR)->bX K C H' a q' M S'->Mv a q H q' H'->l≠q'->Q (.ref l) H')
def N9(K:aa)(C:Addr):Sp:=λvs H Q _=>ac8 K C vs H Q
theorem Ol:bp ["self","n","told"] ["self","n"] (aY Fv):=bE aH
theorem a1r{C:Addr}(F:MA K C "entries" "Runner.entries" Fv)(TC:fc K C)(B:bK mg)(zq:cS P w K mg aw C "is_halted" 2 (gR K C λ_ S H Q=>Q (.bl (S.aR.isSome&&decide (S.pc=0))) H))(a6Z:cS P w K mg aw C "entries_of_first" 11 (N8 K C)):cS P w K mg aw C "entries" 12 (N9 K C):=by
 erw[F.has Ol (λvs H Q E h=>?_) (λ_ _ _ _ _ _=>dF λ_ _=>rfl) (λf aI A outer s H vs Q E hr h=>?_)]
 ·let(a,q,M,D,S,n,rfl,_):=h
  rfl
 ·let(a,q,M,D,S,n,rfl,R0,ok,aM,n0,n1,k):=h
  have nd:=Ol.nd;erw[_,(aD (pS 2 nd (fA az)) (aD (ig (vQ jI (PW.pt (oZ (bU ku (dS K B (ao (pv 2) az)) (pv 1) (bB _)) (oZ (yy K Z (cH TC.cl TC.jc (pv 0))) (vP (dj (cO (iI zq TC.cl (hr.mono ay) (pv 0)))))))) (aJ (mr (a0h K Z (pv 2) (ao (kr a6Z TC.cl (hr.mono ay) (pv 0) (ao (aQ iK (pv 1) (dS K B (ao (pv 2) az))) az)) az)))))) (aJ (aW (pv 2))))),?_];erw[df Z,λl H1 nw=>?_];let(dx,mv,bv,cv,tv,e,r1,r2,r3,r4):=R0.ob;let(ys,eq,rq):=R0.qu;have al:a≠l:=λz=>by have:=nw.no;rw[<-z,e]at this;cases this
  have ql:q≠l:=λz=>by have:=nw.no;rw[<-z,eq]at this;cases this
  have hq0:H q≠none:=by rw[eq];simp
  have ha0:H a≠none:=by rw[e];simp
  erw[λO H2=>∃es S' q' us,O=[some (.ref a),some (.int n),some (.ref l)]/\bX K C H2 a q' M S'/\H2 l=some (.lst us)/\aP K H2 us es/\Run M S es S'/\(es.length:Int)<=n/\((es.length:Int)=n\/S'.os=[]\/Halt S'.pc S'.aR)/\Mv a q H q' H2/\l≠q',?_,?_]
  ·erw[vn (λO H2=>∃es S' q' us,O=[some (.ref a),some (.int n),some (.ref l)]/\bX K C H2 a q' M S'/\H2 l=some (.lst us)/\aP K H2 us es/\Run M S es S'/\(es.length:Int)<=n/\Mv a q H q' H2/\l≠q') (λ_ H2=>match H2 l with|some (.lst us)=>2000-us.length|_=>0) ?_ ?_ ?_]
   ·erw[[],S,q,[],Z,R0.same ok.row.no nw.same,nw.at',dI,.nil _,by simpa using n0,#[.of nw.same,.inl rfl],ql.symm]
   ·rintro O H2 ⟨es,S',q',us,rfl,R2,dl,rd,run,pI,wx,lq⟩
    have yF:=run.ok ok aM;have oq:=run.no ok aM;have lu:=rd.length;let(jA,Ik,bv2,ae0,tv2,e2,t1,t2,t3,t4):=R2.ob;let(yq,eq2,YT):=R2.qu;have Iw:=YT.length;have RJ:=yF.row.len;erw[_,Z,l,us,Z,.inl (aE.of dl),_,Z,_,_,Z,Z,_,Z,?_];show if decide ((us.length:Int)<n)=true then _ else _;by_cases c1:(us.length:Int)<n
    ·rw[bM c1]
     erw[bF ?_];erw[_,Z,a,jA,_,_,Z,e2,Z,_,.inl #[_,aE.of eq2,Z],?_];cases om:S'.os with |nil=>have:yq=[]:=List.length_eq_zero_iff.mp (by rw[Iw,RJ,om];rfl);subst this;erw[bh ?_];erw[es,S',q',us,Z,R2,dl,rd,run,pI,.inr (.inl om),wx,lq] |cons o os=>
      have cP:S'.os≠[]:=by rw[om];simp
      have:∃y yr,yq=y::yr:=by cases yq with |nil=>rw[RJ,om]at Iw;simp at Iw |cons y yr=>erw[y,yr,Z]
      let(y,yr,rfl):=this;erw[bF ?_];erw[_,Z,a,jA,_,Z,e2,Z,a,q',M,D,S',Z,R2,yF,aM,_,Z,?_];by_cases c3:Halt S'.pc S'.aR
      ·have hb:(S'.aR.isSome&&decide (S'.pc=0))=true:=by let(h1,h2):=c3;rw[bM h2,Ao];cases hs:S'.aR with |none=>exact(h1 hs).elim |some _=>rfl
       rw[hb];erw[bh #[es,S',q',us,Z,R2,dl,rd,run,pI,.inr (.inr c3),wx,lq]]
      ·have hb:(S'.aR.isSome&&decide (S'.pc=0))=false:=by cases hs:S'.aR with |none=>rfl |some _=>show decide (S'.pc=0)=false;erw[cD λh2=>c3 #[by rw[hs];simp,h2]]
       rw[hb];erw[bF ?_];erw[_,Z,.inl #[Z,_,aE.of dl],?_];erw[_,Z,a,jA,_,Z,e2,Z,_,Z,_,Z,l,us,Z,.inl (aE.of dl),_,_,Z,Z,?_];erw[a,q',M,D,S',_,Z,R2,yF,aM,cP,c3,au,au,λl2 y2 fs S2 q2 H3 QP dl2 vN GF f1 f2 R3 wy lq2=>?_];have vp:=R2.v wy.but;have Uh:=wy.but _ _ dl (by simp;erw[al.symm,lq]);have Zh:=aP.v vp _ oq rd;have BS:=vN.length;have iP:sizeLine=16777216:=by decide
       erw[l,l2,us,y2,Z,Z,Uh,dl2,au,?_];have vu:cw H3 (_L.upd H3 l (.lst (us++y2))):=.upd Uh trivial;have a5z:=GF.no yF aM;have gU:=GF.ok yF aM;have Rw:l≠q2:=λz=>by
        rcases wy.nq with h|h
        ·erw[lq (z.trans h)]
        ·rw[<-z,dl]at h;cases h
       erw[#[es++fs,S2,q2,us++y2,Z,R3.go gU.row.no vu (λo' dX=>by rw[aU al];erw[dX]) (λo' dX=>by rw[aU Rw.symm];erw[dX]),bQ,(aP.v vu _ oq Zh).append (aP.v vu _ a5z vN),run.trans GF,by rw[fH];lia,?_,Rw],?_]
       ·have m:=wx.trans wy (by rw[e2];simp)
        erw[λb o' eb hb=>by
         have gH:b≠l:=λz=>by have:=nw.no;rw[<-z,eb]at this;cases this
         rw[aU gH];erw[m.but _ _ eb hb],m.nq]
       ·show(match(_L.upd H3 l (.lst (us++y2))) l with|some (.lst us)=>2000-us.length|_=>0)<(match H2 l with|some (.lst us)=>2000-us.length|_=>0)
        rw[bQ,dl];show 2000-(us++y2).length<2000-us.length;rw[fH]
        lia
    ·rw[cD c1]
     erw[bh ?_];erw[es,S',q',us,Z,R2,dl,rd,run,pI,.inl au,wx,lq]
   ·rintro O H6 Q1 Q2 hq ⟨v1,f1,l',m8,f2,f3,v2,f4,i1,i2,f5,f6,b1,f7,h⟩
    erw[v1,f1,l',m8,f2,f3,v2,f4,i1,i2,f5,f6,b1,f7,C4 ?_ (hq _ _) h];rintro⟨v3,f8,a',iy,ow,u',f9,K5,K4,b2,K3,h⟩;erw[v3,f8,a',iy,ow,u',f9,K5,K4,b2,K3,C4 ?_ (hq _ _) h];rintro⟨v5,K2,a2,jA,CD,K1,K0,JZ,a3,q3,M3,D3,S3,JY,JX,JW,JV,b3,JU,h⟩;erw[v5,K2,a2,jA,CD,K1,K0,JZ,a3,q3,M3,D3,S3,JY,JX,JW,JV,b3,JU,hq _ _ h]
  ·rintro O H2 ⟨es,S',q',us,rfl,R2,dl,rd,run,pI,mU,wx,lq⟩
   erw[_,Z,k l us es S' q' H2 nw.no dl rd run pI mU R2 wx lq]
end
end _a
set_option maxHeartbeats 4000000
namespace _a
open PySem PySem.Spec PyProof.Rows _L _r _l _C _P _W _R
open _O (topR cornO mnO betR atO ownF leadF ownL OkI OkIs)
section
theorem bX.Bq{C:Addr}{H:Hp}{a q dx:Addr}{M:aZ}{S S':aV}{mv bv cv tv:V}(R:bX K C H a q M S)(e:H a=some (.ins C dx (fw mv bv (.int S.dn) (.ref q) cv (.int S.aA) (.str S.side) (.str S.mark) tv))){Dq Bv AI:V}(hn:cJ S.ds=true)(hd:S'.ds=S.ds) (r1:RD K H mv M.D)(r2:RD K H Dq (eR S'.pl))(r3:cg K H Bv S'.pc)(r4:xj K H AI S'.aR):bX K C (_L.upd H a (.ins C dx (fw mv Dq (.int S'.dn) (.ref q) Bv (.int S'.aA) (.str S'.side) (.str S'.mark) AI))) a q M S':=by
 have v:cw H (_L.upd H a (.ins C dx (fw mv Dq (.int S'.dn) (.ref q) Bv (.int S'.aA) (.str S'.side) (.str S'.mark) AI))):=.upd e trivial;let(ys,eq,rq):=R.qu;erw[#[dx,mv,Dq,Bv,AI,bQ,RD.v v _ (gw _ _ _ _ _) r1,RD.v v _ (jP _) r2,r3.v v,r4.v v],ys,?_,?_]
 ·rw[aU R.ne.symm];erw[eq]
 ·rw[hd];erw[aP.v v _ hn rq]
def gr(f:Int)(pc:Rat):Int:=(pc.num+2*f*(pc.den:Int)-1)/(2*f*(pc.den:Int))
theorem MB{f:Int}(hf:1<=f){pc:Rat}(h:0<=pc):(0<=gr f pc)/\(gr f pc=0->pc=0)/\pc<=((2*f*gr f pc:Int):Rat)/\(pc<=1600->gr f pc<=1000):=by
 have hn:=Lv.mpr h;have hd:0<2*f*(pc.den:Int):=j8 au (den_pos pc);have hd1:2*(pc.den:Int)<=2*f*(pc.den:Int):=by
  have:2*1*(pc.den:Int)<=2*f*(pc.den:Int):=Al au au
  lia
 unfold gr;generalize hD:2*f*(pc.den:Int)=dd at hd hd1;have q1:=Int.mul_ediv_add_emod (pc.num+dd-1) dd;have q2:=sG (pc.num+dd-1) (show dd≠0 by lia);have q3:=vi (pc.num+dd-1) hd;have q0:0<=(pc.num+dd-1)/dd:=Int.ediv_nonneg au au;generalize hQ:(pc.num+dd-1)/dd=Q at q0 q1;generalize(pc.num+dd-1)%dd=R at q1 q2 q3;have hle:pc.num<=dd*Q:=by lia
 erw[q0,λe=>?_,?_,λhm=>?_]
 ·rw[e,Int.mul_zero]at hle
  have:pc.num=0:=by lia
  erw[Rat.num_eq_zero.mp this]
 ·erw[DG.mp λcK=>?_]
  rw[Rat.lt_iff,Rat.num_intCast,Rat.den_intCast]at cK;have e1:2*f*Q*(pc.den:Int)=dd*Q:=by rw[<-hD,Int.mul_right_comm]
  rw[e1]at cK
  lia
 ·have uz:¬((1600:Rat)<pc):=DG.mpr hm
  rw[Rat.lt_iff]at uz;have e1:(1600:Rat).num=1600:=rfl;have e2:(1600:Rat).den=1:=rfl;rw[e1,e2]at uz;have h3:pc.num<=1600*(pc.den:Int):=by lia
  erw[Int.not_lt.mp λcK=>?_];have h4:dd*1001<=dd*Q:=Am au au
  lia
theorem Oc:bp ["self","p","q","in_one"] ["self"] (aY Fe):=bE aH
theorem a1c{C:Addr}(F:MA K C "stops_in" "Runner.stops_in" Fe)(TC:fc K C):cS P w K mg aw C "stops_in" 1 (gR K C λM S H Q=>Q (.int (gr M.f S.pc)) H):=by
 erw[F.has Oc (λvs H Q E h=>?_) (λ_ _ _ _ _ _=>dw λ_=>rfl) (λf aI A outer s H vs Q E hr h=>?_)]
 ·let(a,q,M,D,S,rfl,_):=h
  rfl
 ·let(a,q,M,D,S,rfl,R,ok,aM,k):=h
  let(dx,mv,bv,cv,tv,e,r1,r2,(pa,rfl,Ja),r4):=R.ob;have nd:=Oc.nd;have pM:=aM.f1;let(ma,mb,rfl,jd,jV):=nY r1;have bd:Bd 1600 S.pc:=(ok.pd.bd (eM ok.pm aH)).mono (by have:=ok.D2;lia);have hd:0<2*M.f*(S.pc.den:Int):=j8 au (den_pos S.pc);have wd:Wd (2*M.f*(S.pc.den:Int)):=by
   erw[j9 (n:=1700) ?_ ay];rw[hZ];have h1:(2*M.f).natAbs<2^7:=by lia
   have:=mE h1 bd.den;erw[gO this (uZ ay ay)]
  erw[_,(aD (fh (cH TC.cl TC.tY (pv 0)) (eB K rfl (n:=2) rfl (bS (bj 1 nd) (bS (bj 2 nd) ek)))) (aD (pS 3 nd (aQ cc (aQ cc aB (px K (cH TC.cl TC.lI (pv 0)) aB)) (pv 2))) (aJ (aW (aQ tR (aQ iK (aQ dv (pv 1) (pv 3)) aB) (pv 3)))))),?_];erw[_,Z,a,dx,_,_,Z,e,Z,pa,_,Z,Ja,Z,_,_,Z,_,_,Z,Z,?_];erw[_,Z,a,dx,_,_,Z,e,Z,.inr #[ma,_,2,.int M.f,Z,Z,jd,Z,_,_,Z,Z,.of_left (dc ay ay),?_]];erw[_,Z,_,_,Z,Z,.of_left (dc au au),?_];erw[_,Z,_,Z,_,_,Z,Z,_,_,Z,Z,_,Z,_,_,Z,Z,#[hd,wd],?_];erw[k]
theorem Og:bp ["self","steps"] ["self"] (aY Fp):=bE aH
def jx(M:aZ)(S:aV):aV:=match S.aR with |none=>{S with aR:=some (S.pc,gr M.f S.pc,0)} |some _=>S
inductive ac4(K:aa)(C:Addr)(vs:List V)(H:Hp)(Q:VK):Prop |mk (a:_)(q:_)(M:_)(D:_)(S:_)(h0:vs=[.ref a])(h1:bX K C H a q M S)(h2:cC M D S)(h3:M.Ok)(h4:∀H',bX K C H' a q M (jx M S)->bP [a] H H'->Q (.int (gr M.f S.pc)) H')
def N7(K:aa)(C:Addr):Sp:=λvs H Q _=>ac4 K C vs H Q
theorem cC.hold{M:aZ}{D:Nat}{S:aV}(h:cC M D S)(aM:M.Ok)(hD:D<=1490):cC M (D+10) (jx M S):=by have D1:=h.D1;unfold jx;cases hs:S.aR with |some z=>show cC M (D+10) S;have st:=h.aR;erw[h.row,h.rw,h.len,h.dM,h.eF,h.dn,h.pl,h.pd.mono au,h.pm,?_,au,au];rw[hs]at st⊢;let(sq,ie,gn):=z;let(a1,a2,a3,a4,a5):=st;erw[a1,a2,a3,a4.mono au,a5] |none=>let(z1,z2,z3,z4):=MB aM.f1.1 h.pd.nn;erw[h.row,h.rw,h.len,h.dM,h.eF,h.dn,h.pl,h.pd.mono au,h.pm,?_,au,au];erw[eg _,z1,z4 h.pm,h.pd,eM h.pm aH,z2,?_];show S.pc*(gr M.f S.pc:Rat)<=S.pc*((gr M.f S.pc-0:Int):Rat);rw[Int.sub_zero];erw[si]
theorem a1k{C:Addr}(F:MA K C "hold" "Runner.hold" Fp)(TC:fc K C)(a6U:cS P w K mg aw C "stops_in" 1 (gR K C λM S H Q=>Q (.int (gr M.f S.pc)) H))(uw:cS P w K mg aw C "is_held" 1 (gR K C λ_ S H Q=>Q (.bl S.aR.isSome) H)):cS P w K mg aw C "hold" 2 (N7 K C):=by
 erw[F.has Og (λvs H Q E h=>?_) (λ_ _ _ _ _ _=>dw λ_=>rfl) (λf aI A outer s H vs Q E hr h=>?_)]
 ·let(a,q,M,D,S,rfl,_):=h
  rfl
 ·let(a,q,M,D,S,rfl,R,ok,aM,k):=h
  let(dx,mv,bv,cv,tv,e,r1,r2,r3,r4):=R.ob;have nd:=Og.nd;erw[_,(aD (pS 1 nd (iI a6U TC.cl (hr.mono ay) (pv 0))) (aD (ig (bL (dj (cO (iI uw TC.cl (hr.mono ay) (pv 0)))) (aJ (fW TC.cl TC.tX (pv 0) (iH (ao (cH TC.cl TC.tY (pv 0)) (ao (pv 1) (ao aB az)))))) bO)) (aJ (aW (pv 1))))),?_];erw[_,Z,a,dx,_,Z,e,Z,a,q,M,D,S,Z,R,ok,aM,?_];erw[λO H1=>O=[some (.ref a),some (.int (gr M.f S.pc))]/\bX K C H1 a q M (jx M S)/\bP [a] H H1,?_,?_]
  ·erw[_,Z,a,dx,_,Z,e,Z,a,q,M,D,S,Z,R,ok,aM,_,Z,?_]
   cases hs:S.aR with |some z=>erw[bh #[Z,?_,bP.refl _ _]];unfold jx;rw[hs];erw[R] |none=>
    erw[bF ?_];erw[_,Z,a,dx,_,_,Z,e,Z,_,Z,df Z,λt H1 n1=>?_];have e1:=n1.same _ _ e;erw[_,Z,a,dx,_,Z,e1,by show 9<1000;decide,?_];have eh:jx M S={S with aR:=some (S.pc,gr M.f S.pc,0)}:=by unfold jx;rw[hs]
    erw[Z,?_,λb o' eb hb=>?_]
    ·rw[eh]
     exact(R.same ok.row.no n1.same).Bq (S':={S with aR:=some (S.pc,gr M.f S.pc,0)}) e1 ok.row.no rfl (RD.mono n1.same _ r1) (RD.mono n1.same _ r2) (r3.go n1.same) #[t,cv,Z,bc.of n1.at',r3.go n1.same]
    ·have ha:b≠a:=λz=>hb (by rw[z];simp)
     rw[aU ha];erw[n1.same _ _ eb]
  ·rintro O H1 ⟨rfl,R1,b1⟩
   erw[_,Z,k H1 R1 b1]
theorem Oh:bp ["self"] ["self"] (aY Bh):=bE aH
inductive ac5(K:aa)(C:Addr)(vs:List V)(H:Hp)(Q:VK):Prop |mk (a:_)(q:_)(M:_)(D:_)(S:_)(h0:vs=[.ref a])(h1:bX K C H a q M S)(h2:cC M D S)(h3:∀H',bX K C H' a q M {S with aR:=none}->bP [a] H H'->Q (.int (S.ds.length:Nat)) H')
def AZ(K:aa)(C:Addr):Sp:=λvs H Q _=>ac5 K C vs H Q
theorem a1o{C:Addr}(F:MA K C "go" "Runner.go" Bh)(TC:fc K C)(B:bK mg):cS P w K mg aw C "go" 1 (AZ K C):=by
 erw[F.has Oh (λvs H Q E h=>?_) (λ_ _ _ _ _ _=>dw λ_=>rfl) (λf aI A outer s H vs Q E hr h=>?_)]
 ·let(a,q,M,D,S,rfl,_):=h
  rfl
 ·let(a,q,M,D,S,rfl,R,ok,k):=h
  let(dx,mv,bv,cv,tv,e,r1,r2,r3,r4):=R.ob;let(ys,eq,rq):=R.qu;erw[_,(aD (fW TC.cl TC.tX (pv 0) gT) (aJ (aW (dS K B (ao (cH TC.cl TC.jc (pv 0)) az))))),?_];erw[_,Z,a,dx,_,Z,e,by show 9<1000;decide,?_];have pR:(_L.upd H a (.ins C dx (fw mv bv (.int S.dn) (.ref q) cv (.int S.aA) (.str S.side) (.str S.mark) .bD))) q=some (.lst ys):=by rw[aU R.ne.symm];erw[eq]
  erw[_,Z,a,dx,_,_,Z,bQ,Z,q,_,Z,.inl (aE.of pR),?_];rw[rq.length];erw[k _ (R.Bq (S':={S with aR:=none}) e ok.row.no rfl r1 r2 r3 rfl) (zN (by simp))]
theorem Bt{M:aZ}{D:Nat}{S:aV}(ok:cC M D S):(dh S).length=M.rs.length:=by
 unfold dh;split
 ·erw[ok.pl]
 ·split
  ·next ns sp eo=>rw[ny (by rw[ok.pl];simp[fJ];exact(ok.row.ok 0 ns sp eo).1.len)];erw[ok.pl]
  ·erw[ok.pl]
def lZ(S:aV):aV:={S with pl:=dh S,dn:=0,ds:=[],os:=[]}
theorem cC.drop{M:aZ}{D:Nat}{S:aV}(h:cC M D S):cC M D (lZ S):=#[.nil,λi d e=>by simp[lZ]at e,by simp[lZ],h.dM,h.eF,.inl rfl,Bt h,h.pd,h.pm,h.aR,h.D1,h.D2]
theorem zo{pc:Rat}{t:_R.nC}:(t.isSome&&decide (pc=0))=true↔Halt pc t:=by unfold Halt;cases t with |none=>simp |some z=>simp
theorem Oo:bp ["self","dropped"] ["self"] (aY Fx):=bE aH
inductive aca(K:aa)(C:Addr)(cM:Addr)(vs:List V)(H:Hp)(Q:VK)(E:XK):Prop |mk (a:_)(q:_)(M:_)(D:_)(S:_)(h0:vs=[.ref a])(h1:bX K C H a q M S)(h2:cC M D S)(h3:M.Ok)(h4:(¬Halt S.pc S.aR->∀H',aF H H'->E (.ref cM) none H'))(h5:(Halt S.pc S.aR->∀q' H',bX K C H' a q' M (lZ S)->H q'=none->bP [a] H H'->Q (.int (S.ds.length:Nat)) H'))
def Na(K:aa)(C cM:Addr):Sp:=λvs H Q E=>aca K C cM vs H Q E
theorem a1u{C cM:Addr}(F:MA K C "drop" "Runner.drop" Fx)(TC:fc K C)(B:bK mg)(JJ:Exc K mg "Moving" cM jD kQ)(zq:cS P w K mg aw C "is_halted" 2 (gR K C λ_ S H Q=>Q (.bl (S.aR.isSome&&decide (S.pc=0))) H))(JA:cS P w K mg aw C "place" 3 (gR K C λ_ S H Q=>∀v H',RD K H' v (eR (dh S))->aF H H'->Q v H')):hJ P w K mg aw C "drop" 5 (Na K C cM):=by
 erw[F.rn Oo (λvs H Q E h=>?_) (λ_ _ _ _ _ _=>dw λ_=>rfl) (λf aI A outer s H vs Q E hr h=>?_)]
 ·let(a,q,M,D,S,rfl,_):=h
  rfl
 ·let(a,q,M,D,S,rfl,Ra,ok,aM,k1,k2):=h
  let(dx,mv,bv,cv,tv,e,r1,r2,r3,r4):=Ra.ob;let(ys,eq,rq):=Ra.qu;have aq:=Ra.ne;have nd:=Oo.nd;have ly:=rq.length;erw[_,(aD (bL (dj (cO (iI zq TC.cl (hr.mono ay) (pv 0)))) (aJ (Br (λ_ _ _ _ _ _ _ I m q=>Ay I m q) JJ LD hr.hd Z (ao bf az))) bO) (aD (pS 1 nd (dS K B (ao (cH TC.cl TC.jc (pv 0)) az))) (aD (fW TC.cl TC.tZ (pv 0) (iI JA TC.cl (hr.mono ay) (pv 0))) (aD (fW TC.cl TC.nW (pv 0) aB) (aD (fW TC.cl TC.jc (pv 0) (fA az)) (aJ (aW (pv 1)))))))),?_];erw[_,Z,a,dx,_,Z,e,Z,a,q,M,D,S,Z,Ra,ok,aM,_,Z,?_];cases hh:(S.aR.isSome&&decide (S.pc=0))with |false=>erw[bF #[df Z,k1 (λz=>by rw[zo.mpr z]at hh;cases hh) _ (aF.refl _)]] |true=>
   erw[bh ?_];have hH:=zo.mp hh;erw[_,Z,a,dx,_,_,Z,e,Z,q,_,Z,.inl (aE.of eq),?_];erw[_,Z,a,dx,_,Z,e,Z,a,q,M,D,S,Z,Ra,ok,aM,λu H1 ru s1=>?_];have e1:=s1 _ _ e;erw[_,Z,a,dx,_,Z,e1,by show 9<1000;decide,?_];erw[_,Z,a,dx,_,Z,bQ,by show 9<1000;decide,?_];erw[df Z,λq' H2 n2=>?_];have e2:=n2.same _ _ (bQ (a:=a));erw[_,Z,a,dx,_,Z,e2,by show 9<1000;decide,?_];have rP:a≠q':=λz=>by have:=n2.no;rw[<-z,bQ]at this;cases this
   have key:∀X:Hp,(∀b,b≠a->X b=H2 b)->Q (.int (S.ds.length:Nat)) (_L.upd X a (.ins C dx (fw mv u (.int 0) (.ref q') cv (.int S.aA) (.str S.side) (.str S.mark) tv))):=by
    intro X hX;have zw:∀b o',b≠a->H1 b=some o'->H2 b=some o':=λb o' ha eb=>n2.same _ _ (by rw[aU ha,aU ha];erw[eb]);have bt:bP [a] H (_L.upd X a (.ins C dx (fw mv u (.int 0) (.ref q') cv (.int S.aA) (.str S.side) (.str S.mark) tv))):=λb o' eb hb=>by have ha:b≠a:=λz=>hb (by rw[z];erw[.head _]);rw[aU ha,hX b ha];erw[zw _ _ ha (s1 _ _ eb)]
    have sv:=bt.v λx hx o' eo=>by rw[cE]at hx;rw[hx,e]at eo;cases eo;trivial
    have Ed:cw H1 (_L.upd X a (.ins C dx (fw mv u (.int 0) (.ref q') cv (.int S.aA) (.str S.side) (.str S.mark) tv))):=λb o' nb eb=>by
     have ha:b≠a:=λz=>by rw[z,e1]at eb;cases eb;erw[nb trivial]
     rw[aU ha,hX b ha];erw[zw _ _ ha eb]
    erw[k2 hH q' _ #[#[dx,mv,u,cv,tv,bQ,RD.v sv _ (gw _ _ _ _ _) r1,RD.v Ed _ (jP _) ru,r3.v sv,r4.v sv],[],?_,dI] ?_ bt]
    ·rw[aU rP.symm,hX q' rP.symm];erw[n2.at']
    ·cases e':H q' with |none=>rfl |some o'=>have h1:=s1 _ _ e';have h2:=n2.no;rw[aU rP.symm,aU rP.symm,h1]at h2;cases h2
   erw[_,Z,?_];rw[ly];erw[key _ (λb hb=>rfl)]
theorem Zm{d:ag}(h:nO d=true):∃aA:Int,d= .int aA/\10<=aA/\aA<=200:=by cases d with |int i=>have h:(decide (10<=i)&&decide (i<=200))=true:=h;rw[eX,Lp,Lp]at h;erw[i,Z,h] |_=>cases h
inductive ac0(K:aa)(C:Addr)(cR:Addr)(cM:Addr)(vs:List V)(H:Hp)(Q:VK)(E:XK):Prop |mk (a:_)(q:_)(M:_)(D:_)(S:_)(v:_)(d:_)(h0:vs=[.ref a,v])(h1:bX K C H a q M S)(h2:cC M D S)(h3:M.Ok)(h4:RD K H v d)(h5:(nO d=false->∀H',aF H H'->E (.ref cR) none H'))(h6:(nO d=true->S.pc≠0->∀H',aF H H'->E (.ref cM) none H'))(h7:(∀aA,d= .int aA->10<=aA->aA<=200->S.pc=0->∀H',bX K C H' a q M {S with aA:=aA}->bP [a] H H'->Q (.int aA) H'))
def N3(K:aa)(C cR cM:Addr):Sp:=λvs H Q E=>ac0 K C cR cM vs H Q E
theorem Yh:bp ["self","rate"] ["self","rate"] (aY Fd):=bE aH
theorem a1b{C cR cM:Addr}(F:MA K C "turn_rate" "Runner.turn_rate" Fd)(TC:fc K C)(a7i:Exc K mg "NoRate" cR jD kQ)(JJ:Exc K mg "Moving" cM jD kQ)(Jn:aG P w K mg aw "is_rate" 3 (AY K))(zp:cS P w K mg aw C "stands" 1 (gR K C λ_ S H Q=>Q (.bl (decide (S.pc=0))) H)):hJ P w K mg aw C "turn_rate" 5 (N3 K C cR cM):=by
 erw[F.rn Yh (λvs H Q E h=>?_) (λ_ _ _ _ _ _=>dF λ_ _=>rfl) (λf aI A outer s H vs Q E hr h=>?_)]
 ·let(a,q,M,D,S,v,d,rfl,_):=h
  rfl
 ·let(a,q,M,D,S,v,d,rfl,Ra,ok,aM,rd,k1,k2,k3):=h
  let(dx,mv,bv,cv,tv,e,r1,r2,r3,r4):=Ra.ob;erw[_,(aD (bL (dj (cO (pf Jn hr (ao (pv 1) az)))) (aJ (Br (λ_ _ _ _ _ _ _ I m q=>Ay I m q) a7i LD hr.hd Z (ao bf az))) bO) (aD (bL (dj (cO (iI zp TC.cl (hr.mono ay) (pv 0)))) (aJ (Br (λ_ _ _ _ _ _ _ I m q=>Ay I m q) JJ LD hr.hd Z (ao bf az))) bO) (aD (fW TC.cl TC.BN (pv 0) (pv 1)) (aJ (aW (pv 1)))))),?_];erw[_,Z,v,d,Z,rd,_,Z,?_];cases hd:nO d with |false=>erw[bF #[df Z,k1 hd _ (aF.refl _)]] |true=>
   erw[bh ?_];erw[_,Z,a,dx,_,Z,e,Z,a,q,M,D,S,Z,Ra,ok,aM,_,Z,?_];by_cases hp:S.pc=0
   ·rw[bM hp]
    erw[bh ?_];let(aA,rfl,h1,h2):=Zm hd;cases rd.int_inv;erw[_,Z,_,Z,a,dx,_,Z,e,by show 9<1000;decide,?_];erw[_,Z,k3 aA Z h1 h2 hp _ (Ra.Bq (S':={S with aA:=aA}) e ok.row.no rfl r1 r2 r3 r4) (zN (by simp))]
   ·rw[cD hp]
    erw[bF #[df Z,k2 hd hp _ (aF.refl _)]]
theorem BL{z q k:Int}(hq:0<q)(hk:0<=k)(pE:k<=q)(hz:0<=z):0<=eT (k*z) q/\eT (k*z) q<=z:=by
 have hp:0<=k*z:=iG hk hz;erw[a32 hq hp,?_];have h1:k*z<=q*z:=Al pE hz;unfold eT;rw[bu hp];let(a,_):=NF (p:=k*z) hq;have e:(((k*z).natAbs:Nat):Int)=k*z:=Int.natAbs_of_nonneg hp;rw[e]at a;by_cases hh:iT (k*z) q<=z
 ·erw[hh]
 ·exfalso
  have h2:z+1<=iT (k*z) q:=by lia
  have h3:q*(z+1)<=q*iT (k*z) q:=Am h2 (LR hq);have h4:q*(z+1)=q*z+q:=by rw[Int.mul_add,Ak]
  have h5:2*q*iT (k*z) q=2*(q*iT (k*z) q):=by rw[sF]
  rw[h5]at a
  lia
theorem a34{z q k a r:Int}(hq:0<q)(hk:0<=k)(pE:k<=q)(a0:0<=a)(a1:a<=r)(b0:0<=a+z)(b1:a+z<=r):0<=a+eT (k*z) q/\a+eT (k*z) q<=r:=by
 by_cases hz:0<=z
 ·have:=BL hq hk pE hz
  lia
 ·have h:=BL (z:=-z) hq hk pE au
  rw[show k*-z=-(k*z) by rw[Int.mul_neg],QS hq]at h
  lia
theorem a0E{rs pl ns:List Int}{k:Int}(hn:ns.length=pl.length)(hq:0<(aK ns:Int))(hk:0<=k)(pE:k<=aK ns)(h0:fF rs pl)(h1:fF rs (dH pl ns)):fF rs (dH pl (fJ ns k)):=by
 have ls:(fJ ns k).length=pl.length:=by unfold fJ;rw[bW];erw[hn]
 erw[by rw[ny ls];erw[h0.len],λi x r e1 e2=>?_];have hi:i<rs.length:=(dZ.mp e2).1;have hip:i<pl.length:=by rw[h0.len];erw[hi]
 obtain⟨a,ea⟩:∃a,pl[i]? =some a:=#[_,cB hip];obtain⟨z,ez⟩:∃z,ns[i]? =some z:=#[_,cB (show i<ns.length by lia)];have es:(fJ ns k)[i]? =some (eT (k*z) (aK ns)):=by unfold fJ;rw[cj,ez];rfl
 rw[zU ea es]at e1;cases e1;have p0:=h0.at' i a r ea e2;have p1:=h1.at' i (a+z) r (zU ea ez) e2;erw[a34 hq hk pE p0.1 p0.2 p1.1 p1.2]
def gd(M:aZ)(S:aV):Prop:=∀i,i<=S.os.length->fF M.rs ((S.os.take i).foldl gK S.pl)
theorem gd.goal{M:aZ}{S:aV}(h:gd M S):fF M.rs (fm S):=by have:=h S.os.length (bV _);rw[Ag]at this;erw[this]
theorem gd.pl{M:aZ}{S:aV}(h:gd M S):fF M.rs S.pl:=h 0 (gM _)
theorem gd.eq{M:aZ}{S S':aV}(h:gd M S)(e1:S'.os=S.os)(e2:S'.pl=S.pl):gd M S':=by unfold gd;rw[e1,e2];erw[h]
theorem gd.uE{M:aZ}{S:aV}{d:ag}{o:Itm}(h:gd M S)(ho:fF M.rs (gK (fm S) o)):gd M (ng S d o):=λi hi=>by
 show fF M.rs (((S.os++[o]).take i).foldl gK S.pl);have zj:i<=S.os.length+1:=by
  have:(ng S d o).os.length=S.os.length+1:=by show(S.os++[o]).length=_;rw[fH];rfl
  lia
 by_cases hl:i<=S.os.length
 ·rw[List.take_append_of_le_length hl]
  erw[h i hl]
 ·rw[vc (by rw[fH];show S.os.length+1<=i;lia),VT]
  erw[ho]
theorem gd.end{M:aZ}{S:aV}(h:gd M S):gd M (gB S):=by unfold gB;cases e:S.os with |nil=>erw[h] |cons o os=>intro i hi;have:=h (i+1) (by rw[e];erw[Nat.succ_le_succ hi]);rw[e]at this;erw[this]
theorem gd.place{M:aZ}{D:Nat}{S:aV}(ok:cC M D S)(h:gd M S):fF M.rs (dh S):=by
 by_cases h0:S.dn=0
 ·unfold dh
  rw[bu h0];erw[h.pl]
 ·let(ns,sp,eo,hd):=ok.first h0
  have cU:=(ok.row.ok 0 ns sp eo).1;unfold dh;rw[bo h0,eo];have lp:=cU.lead.1;have h1:=h 1 (by have:=(dZ.mp eo).1;lia);have e1:(S.os.take 1).foldl gK S.pl=dH S.pl ns:=by cases e:S.os with |nil=>rw[e]at eo;simp at eo |cons o os=>rw[e]at eo;cases(dQ eo);rfl
  rw[e1]at h1;erw[a0E (by rw[cU.len];erw[h.pl.len.symm]) au au au h.pl h1]
theorem gd.drop{M:aZ}{D:Nat}{S:aV}(ok:cC M D S)(h:gd M S):gd M (lZ S):=λi hi=>by have:i=0:=Nat.le_zero.mp hi;rw[this];erw[h.place ok]
theorem One.HF{M:aZ}{D:Nat}{S S1:aV}{e:ag}(ok:cC M D S)(o:One M S e S1)(h:gd M S):gd M S1:=by cases o with
 |@line ns sp eo nh=>
  have h1:gd M (eU M S ns sp):=h.eq Z rfl;unfold fL;split
  ·erw[h1.end]
  ·erw[h1] |iJ eo ed nh=>let(_,e1,_,_,e2):=EF ok.raw e;exact(h.eq e1 e2).end
theorem Run.HF{M:aZ}{D:Nat}{S S1:aV}{es:List ag}(ok:cC M D S)(aM:M.Ok)(r:Run M S es S1)(h:gd M S):gd M S1:=by induction r with |nil=>erw[h] |cons o _ ih=>erw[ih (One.ok ok aM o) (o.HF ok h)]
end
end _a
set_option maxHeartbeats 1000000
namespace _a
open PySem PySem.Spec PyProof.Rows _L _l _W
open _T (numS numIn? figs isFig Free)
section
def oV:Option Int->V |some i=>.int i |none=>.bD
def oD:Option Int->ag |some i=>.int i |none=>.none
theorem a87:∀c<128,decide (c∈wW.cps.toList)=isFig c:=by decide+kernel
theorem a89:∀c∈wW.cps.toList,c<128:=by decide+kernel
theorem a88(c:Nat):decide (c∈wW.cps.toList)=isFig c:=by
 by_cases h:c<128
 ·erw[a87 c h]
 ·rw[cD (λhc=>h (a89 c hc)),isFig,cD (show¬c<=57 by omega),Bool.and_false]
inductive ack(vs:List V)(H:Hp)(Q:VK):Prop |mk (z:Str)(h0:vs=[.str z])(h1:z.length<=640)(h2:∀H',aF H H'->Q (oV (numIn? z)) H')
def yc:Sp:=λvs H Q _=>ack vs H Q
theorem OC:bp ["word","figures"] ["word"] (aY FJ):=bE aH
theorem a1D(F:FA K mg "number_in" FJ)(B:bK mg)(a6P:GV mg "FIGURES" (.str wW)):aG P w K mg aw "number_in" 1 yc:=by
 erw[F.has OC (λvs H Q E h=>?_) (λ_ _ _ _ _ _=>dw λ_=>rfl) (λf aI A outer s H vs Q E hr h=>?_)]
 ·let(z,rfl,_):=h
  rfl
 ·let(z,rfl,hl,k):=h
  have nd:=OC.nd;have iP:sizeLine=16777216:=by decide
  erw[_,(aD (pS 1 nd (a0g K Z (pv 0) (ao bf az))) (aD (bL (PW.pt (iU (bU jR (pv 1) bf (bB _)) (jt (dj (cO (fK (x:="all") (xh K Z Z) Z (B.at "all") Ad (ao (fi (N:=["sign"]) (js:=[none]) rfl rfl rfl (Qh (pv 1)) (λ_ _ _ _ _=>(bj 0 (jb _))) (λ_ _ _ _ _=>dJ) (λ_ _ _ _ _=>(fj Qv (pv 0) (fX (x:="FIGURES") rfl a6P) (by with_unfolding_all rfl)))) az))))))) (aJ (aW gT)) bO) (aD (bL (PW.pt (oZ (bU jR (Hr RY (pv 1) aB (λ_ _=>rfl)) bf (bB _)) (vP (bU HD (pv 0) bf (bB _))))) (aJ (aW gT)) bO) (aJ (aW (cI (x:="int") xg Z (B.at "int") sj (ao (pv 0) az))))))),?_];erw[_,Z,Z,z,"-",Z,Z,bR,?_];have ef:=_T.YZ z;generalize hz:Txt.removeprefix z "-"=y at ef;unfold numIn? at k;rw[<-ef]at k;have hly:y.length<=z.length:=by
   have e1:y.cps.toList.length=(figs z).length:=by rw[ef]
   have e2:(figs z).length<=z.cps.toList.length:=by
    unfold figs;split
    ·rename_i h;rw[h];simp
    ·rename_i h _;erw[bV _]
   simpa[Str.length]using j7 (Nat.le_of_eq e1) e2
  erw[_,Z,Z,_,Z,?_];erw[gy (λh0=>?_) (λh0=>?_)]
  ·have hy:y="":=by simpa using h0
   rw[hy]at k;erw[bF (k H (aF.refl _))]
  ·have hy:y≠"":=by simpa using h0
   have cP:y.cps.toList≠[]:=λe=>hy (_T.Ks (by rw[e];rfl));have he:y.cps.toList.isEmpty=false:=by cases h:y.cps.toList with|nil=>exact(cP h).elim|cons=>rfl
   rw[he,Bool.false_or]at k;erw[_,Z,y,Z,λD H0 nw=>?_];erw[UB (f:=isFig) [] nw bR (λc H2 Q' hc s2 hq=>?_) (λH2 s2 d2=>?_)]
   ·erw[_,Z,c,wW,Z,Z,?_]
    rw[a88];erw[hq _ (aF.refl _)]
   ·erw[D,_,Z,aE.of d2,?_]
    rw[Vd];erw[_,Z,?_];cases hf:y.cps.toList.all isFig with |false=>rw[hf]at k;erw[bF (k H2 s2)] |true=>rw[hf]at k;erw[bh ?_];let(n,hn):=_T.a4N (z:=z) (by rw[<-ef];erw[cP]) (by rw[<-ef];erw[hf]) bR;rw[hn]at k;cases hc:y.cps.toList with |nil=>exact(cP hc).elim |cons c r=>
     erw[_,Z,y,0,c,Z,Z,bR,cL (eg 0) (by rw[hc];rfl),Z,_,Z,?_];have e0:decide (y.cps.toList[0]? =some 48)=decide (V.str ⟨#[c]⟩=V.str "0"):=by
      rw[hc,kb];simp only[Aa];erw[λh=>?_,λh=>?_]
      ·have h:c=48:=by simpa using h
       rw[h];decide+kernel
      ·have h:(⟨#[c]⟩:Str)="0":=by simpa using h
       have h2:[c]=[48]:=(jZ (λz:Str=>z.cps.toList) h).trans aH;simpa using h2
     rw[e0]at k;have e1:(!decide (z="0"))= !decide (V.str z=V.str "0"):=by simp
     rw[e1]at k;cases h1:decide (V.str ⟨#[c]⟩=V.str "0")with
     |true=>rw[h1,jl]at k;erw[bF #[_,Z,Z,_,Z,?_]];cases h2: !decide (V.str z=V.str "0")with |true=>rw[h2]at k;erw[bF (k H2 s2)] |false=>rw[h2]at k;erw[bh #[_,Z,z,n,Z,hn,hl,k H2 s2]]
     |false=>rw[h1,jm]at k;erw[bh #[_,Z,z,n,Z,hn,hl,k H2 s2]]
inductive aci(K:aa)(vs:List V)(H:Hp)(Q:VK):Prop |mk (l:Addr)(zs:List Str)(h0:vs=[.ref l])(h1:aE K H l (zs.map V.str))(h2:zs.length<=1000)(h3:(∀z∈zs,z.length<=640))(h4:∀p H',aF H H'->H p=none->H' p=some (.lst (zs.map λz=>oV (numIn? z)))->Q (.ref p) H')
def B5(K:aa):Sp:=λvs H Q _=>aci K vs H Q
theorem BG{H:Hp}(o:Option Int):RD K H (oV o) (oD o):=by cases o with |none=>erw[yw] |some i=>erw[fz _]
theorem a2s{H:Hp}{v:V}{o:Option Int}(h:RD K H v (oD o)):v=oV o:=by cases o with |none=>erw[h.HW] |some i=>erw[h.int_inv]
theorem QD{H:Hp}:∀{xs:List V}{zs:List Str},aP K H xs (zs.map λz=>oD (numIn? z))->xs=zs.map λz=>oV (numIn? z) |xs,[],h=>h.nil_inv |xs,n::ns,h=>by let(y,ys,rfl,h1,h2):=h.cons_inv;rw[a2s h1,QD h2];rfl
theorem a2t(zs:List Str):cJ (zs.map λz=>oD (numIn? z))=true:=gX.mpr λd hd=>by let(z,_,rfl):=dB.mp hd;cases numIn? z<;>rfl
theorem Oz:bp ["words"] ["words"] (aY FG):=bE aH
theorem a1C(F:FA K mg "numbers_in" FG)(B:bK mg)(zd:aG P w K mg aw "number_in" 1 yc):aG P w K mg aw "numbers_in" 2 (B5 K):=by
 erw[F.has Oz (λvs H Q E h=>?_) (λ_ _ _ _ _ _=>dw λ_=>rfl) (λf aI A outer s H vs Q E hr h=>?_)]
 ·let(l,zs,rfl,_):=h
  rfl
 ·let(l,zs,rfl,hl,hn,hz,k):=h
  have nd:=Oz.nd;erw[_,(aJ (aW (fi (N:=["word"]) (js:=[none]) Z Z Z (nP K Z (pv 0)) (λ_ _ _ _ _=>(bj 0 (jb _))) (λ_ _ _ _ _=>dJ) (λ_ _ _ _ _=>(pf zd hr (ao (pv 0) az)))))),?_];erw[_,Z,l,Z,#[_,hl],λD H1 n1=>?_];erw[Di (K:=K) (ds:=zs.map λz=>oD (numIn? z)) _ hl n1 (by simp) (by simp;omega) (a2t _) ?_ ?_]
  ·intro i x d H2 Q' ex ed s2 hq
   rw[cj]at ex ed;let(z,ez,rfl):=DK.mp ex;rw[ez]at ed;cases ed;erw[_,Z,z,Z,hz z (gf ez),λH3 s3=>hq _ _ s3 (BG _)]
  ·intro H2 ys s2 d2 r2
   rw[QD r2]at d2;erw[k D H2 s2 n1.no d2]
def uO(z:Str):Prop:=∀c∈z.cps.toList,c<0x110000
theorem HK{n:Nat}{z:Str}(h:uO z):dy n (.str z):=#[by show PyData.strOk z=true;unfold PyData.strOk;rw[W0];erw[λc hc=>bM (h c (by simpa using hc))],gM _]
theorem Td{c x:Nat}:∀{as:List (List Nat)}{a:List Nat},a∈as->x∈a->x∈_T.gl c as
 |[],a,h,_=>nomatch h |[b],a,h,hx=>by rw[cE.mp h]at hx;erw[hx] |b::d::r,a,h,hx=>by
  show x∈b++c::_T.gl c (d::r);rcases bJ.mp h with rfl|h
  ·erw[LL _ hx]
  ·erw[kG _ (.tail _ (Td h hx))]
theorem Tf{c:Nat}:∀{as:List (List Nat)}{a:List Nat},a∈as->a.length<=(_T.gl c as).length
 |[],a,h=>nomatch h |[b],a,h=>by rw[cE.mp h];erw[bV _] |b::d::r,a,h=>by
  show a.length<=(b++c::_T.gl c (d::r)).length;rw[fH,gq];rcases bJ.mp h with rfl|h
  ·omega
  ·have:=Tf (c:=c) h;omega
theorem MM(z:Str)(c:Nat):_T.gl c ((Txt.split z ⟨#[c]⟩).map λy=>y.cps.toList)=z.cps.toList:=by rw[<-_T.JN,StrLaws.join_split]
theorem XY{z y:Str}{c:Nat}(h:uO z)(hy:y∈Txt.split z ⟨#[c]⟩):uO y:=λx hx=>h x (by rw[<-MM z c];erw[Td (dB.mpr #[y,hy,Z]) hx])
theorem split_le{z y:Str}{c:Nat}(hy:y∈Txt.split z ⟨#[c]⟩):y.length<=z.length:=by have:=Tf (c:=c) (dB.mpr #[y,hy,Z]:y.cps.toList∈(Txt.split z ⟨#[c]⟩).map λy=>y.cps.toList);rw[MM]at this;simpa[Str.length]using this
theorem me:(" ":Str)=⟨#[32]⟩:=by decide+kernel
theorem a2Y:("\n":Str)=⟨#[10]⟩:=by decide+kernel
def nI (z:Str):ag:=oD (numIn? z)
def gQ:List Str->ag |[]=>.none |w::rest=>if w="line" then(match rest with |[]=>.none |r::rs=>.tuple [.str w,.tuple (((r::rs).map nI).take rs.length),((r::rs).map nI).getLastD .none]) else match rest with |[r]=>.tuple [.str w,if w="wait" then nI r else .str r] |_=>.none
def uf(n:Nat)(z:Str):ag:=bif mH n (gQ (Txt.split z " "))then gQ (Txt.split z " ")else .none
theorem QC{H:Hp}:∀(zs:List Str),aP K H (zs.map λz=>oV (numIn? z)) (zs.map nI) |[]=>by simp[aP] |z::zs=>by rw[kH,kH,aP];erw[_,_,Z,BG _,QC zs]
theorem tG{H:Hp}{x:V}{xs:List V}{d:ag}{ds:List ag}(h:RD K H x d)(r:aP K H xs ds):aP K H (x::xs) (d::ds):=by rw[aP];erw[_,_,Z,h,r]
theorem GQ{H:Hp}:aP K H [] []:=by simp[aP]
theorem Ic{n:Nat}(z:Str):dy n (nI z):=by unfold nI;cases numIn? z with |none=>erw[.bD] |some i=>erw[.int i]
theorem QZ(z:Str):ki (nI z)=true:=by unfold nI;cases numIn? z<;>rfl
theorem Mb:gQ ["line"]= .none:=by unfold gQ;dsimp only;rw[bu rfl]
theorem E9{r:Str}{rs:List Str}:gQ ("line"::r::rs)= .tuple [.str "line",.tuple (((r::rs).map nI).take rs.length),((r::rs).map nI).getLastD .none]:=by unfold gQ;dsimp only;rw[bu rfl]
theorem AN{w r:Str}(h:w≠"line"):gQ [w,r]= .tuple [.str w,if w="wait" then nI r else .str r]:=by unfold gQ;dsimp only;rw[bo h]
theorem E8{w:Str}{ws:List Str}(h:w≠"line")(hl:ws.length≠1):gQ (w::ws)= .none:=by
 unfold gQ;dsimp only;rw[bo h];split
 ·exact(hl Z).elim
 ·rfl
theorem X0{ws:List Str}(h:∀w∈ws,uO w/\w.length<=640):dy 8 (gQ ws)/\Bb (gQ ws)=true:=by cases ws with |nil=>erw[.bD,Z] |cons w rest=>
 let(hw,hl):=h w (.head _);have sw:ki (.str w)=true:=bM bR;by_cases hx:w="line"
 ·subst hx
  cases rest with |nil=>rw[Mb];erw[.bD,Z] |cons r rs=>
   rw[E9];have hm:∀d∈(r::rs).map nI,dy 0 d:=λd hd=>by let(z,_,rfl):=dB.mp hd;erw[Ic z]
   have SE:dy 0 (((r::rs).map nI).getLastD .none)/\ki (((r::rs).map nI).getLastD .none)=true:=by rw[VP];cases e:((r::rs).map nI).getLast? with |none=>erw[.bD,Z] |some d=>let(z,_,rfl):=dB.mp (List.mem_of_getLast? e);erw[Ic z,QZ z]
   have hs:iC 2 [.str "line",.tuple (((r::rs).map nI).take rs.length),((r::rs).map nI).getLastD .none]:=λd hd=>by
    simp only[bJ,bZ,cG]at hd;rcases hd with rfl|rfl|rfl
    ·erw[HK hw]
    ·exact(iC.tup (n:=0) λd hd=>hm d (xI hd)).le ay
    ·erw[SE.1.le ay]
   erw[hs.tup.le ay,?_];show[_,_,_].all ki=true;simp only[xP,LN,Ao,sw,SE.2];rfl
 ·match rest,h with
  |[],_=>rw[E8 hx (by simp)];erw[.bD,Z] |[r],h=>
   rw[AN hx];let(hr,hlr):=h r (.tail _ (.head _));have hv:dy 0 (if w="wait" then nI r else .str r)/\ki (if w="wait" then nI r else .str r)=true:=by
    split
    ·erw[Ic r,QZ r]
    ·erw[HK hr,bM bR]
   have hs:iC 1 [.str w,if w="wait" then nI r else .str r]:=λd hd=>by
    simp only[bJ,bZ,cG]at hd;rcases hd with rfl|rfl
    ·erw[HK hw]
    ·erw[hv.1.le ay]
   erw[hs.tup.le ay,?_];show[_,_].all ki=true;simp only[xP,LN,Ao,sw,hv.2] |_::_::_,_=>rw[E8 hx (by simp)];erw[.bD,Z]
inductive acy(K:aa)(vs:List V)(H:Hp)(Q:VK):Prop |mk (m:V)(rs:List Int)(es:List ag)(z:Str)(h0:vs=[m,.str z])(h1:RD K H m (.tuple (.tuple (rs.map PyData.int)::es)))(h2:cJ es=true)(h3:rs.length<=3)(h4:z.length<=600)(h5:uO z)(h6:∀v H',aF H H'->RD K H' v (uf rs.length z)->Q v H')
def Et(K:aa):Sp:=λvs H Q _=>acy K vs H Q
theorem OO:bp ["machine","row","word","rest","thing","numbers"] ["machine","row"] (aY FX):=bE aH
theorem a1R(F:FA K mg "item_in" FX)(B:bK mg)(zd:aG P w K mg aw "number_in" 1 yc)(Je:aG P w K mg aw "numbers_in" 2 (B5 K))(Jp:aG P w K mg aw "is_item" 4 (B9 K)):aG P w K mg aw "item_in" 5 (Et K):=by
 erw[F.has OO (λvs H Q E h=>?_) (λ_ _ _ _ _ _=>dF λ_ _=>rfl) (λf aI A outer s H vs Q E hr h=>?_)]
 ·let(m,rs,es,z,rfl,_):=h
  rfl
 ·let(m,rs,es,z,rfl,rm,ne,l3,hz,tz,k):=h
  have nd:=OO.nd;have iP:sizeLine=16777216:=by decide
  have uh:∀y∈Txt.split z " ",uO y/\y.length<=640:=λy hy=>by rw[me]at hy;have:=split_le hy;erw[XY tz hy,bR]
  have J5:=split_len z " ";erw[_,(aD (fh (tO K Z (pv 1) (ao bf az)) (Qi K Z Z (bj 2 nd) (bj 3 nd))) (aD (pS 4 nd gT) (aD (ig (bL (bU jR (pv 2) bf (bB _)) (aD (pS 5 nd (pf Je hr (ao (pv 3) az))) (aJ (pS 4 nd (my (yy K Z (pv 5)) (iH (ao (pv 2) (ao (cI (x:="tuple") (kh K Z) Z (B.at "tuple") j6 (ao (tL (sZ K rfl) (pv 5) vS (qF (kO kI aB))) az)) (ao (px K (pv 5) (kO kI aB)) az)))) gT)))) (aJ (bL (bU jR (dS K B (ao (pv 3) az)) aB (bB _)) (aJ (pS 4 nd (iH (ao (pv 2) (ao (my (bU jR (pv 2) bf (bB _)) (pf zd hr (ao (px K (pv 3) aB) az)) (px K (pv 3) aB)) az))))) bO)))) (aJ (aW (my (cO (pf Jp hr (ao (pv 0) (ao (pv 4) az)))) (pv 4) gT)))))),?_];erw[_,Z,Z,z," ",Z,Z,aH,bR,λl H1 n1=>?_];obtain⟨x,ws,ew⟩:∃x ws,Txt.split z " "=x::ws:=by cases e:Txt.split z " " with |nil=>exact(_T.ML _ _ e).elim |cons x ws=>erw[x,ws,Z]
  unfold uf at k;rw[ew]at n1 uh J5 k;rw[gq]at J5;erw[l,.str x,ws.map V.str,Z,aE.of n1.at',by rw[bW];omega,λp H2 n2=>?_];have s2:=n1.same.trans n2.same;have Ca:∀y∈ws,y.length<=640:=λy hy=>(uh y (.tail _ hy)).2;erw[λO H3=>∃t w5,O=[some m,some (.str z),some (.str x),some (.ref p),some t,w5]/\aF H H3/\RD K H3 t (gQ (x::ws)),?_,?_]
  ·erw[_,Z,Z,_,Z,?_]
   erw[gy (λh0=>?_) (λh0=>?_)]
   ·have hx:x="line":=by simpa using h0
    subst hx;erw[_,Z,p,ws,Z,aE.of n2.at',bR,Ca,λq H3 s3 nq e3=>?_];erw[_,Z,!(ws.map λz=>oV (numIn? z)).isEmpty,.inl #[_,aE.of e3,Z],?_];cases ws with |nil=>erw[bh #[.bD,_,Z,s2.trans s3,?_]];rw[Mb];erw[yw] |cons r tD=>
     erw[bF #[_,Z,?_]];erw[_,Z,1,Z,_,Z,q,_,Z,.inl #[aE.of e3,λq2 H4 n4=>?_]];rw[Uw]at n4;have n4':=n4.at';erw[q2,_,Z,.inl #[aE.of n4',λq3 H5 n5=>?_]];obtain⟨v,ev⟩:∃v,((r::tD).map λz=>oV (numIn? z)).getLast? =some v:=#[_,VQ (by simp)];have e5:=n5.same _ _ (n4.same _ _ e3);erw[_,Z,1,Z,.inl #[q,_,-1,v,Z,Z,aE.of e5,KS ev,?_]];erw[by show 3<=sizeLine;omega,λq6 H6 n6=>?_];have s6:=(((s2.trans s3).trans n4.same).trans n5.same).trans n6.same;erw[_,_,Z,s6,?_];rw[E9];have el:((r::tD).map nI).getLastD .none=oD (numIn? ((r::tD).getLast (by simp))):=by rw[VP,List.getLast?_map,VQ (by simp)];rfl
     have evv:v=oV (numIn? ((r::tD).getLast (by simp))):=by rw[List.getLast?_map,VQ (by simp)]at ev;exact(dQ ev).symm
     erw[gj (bc.of n6.at') (tG (bT _) (tG ?_ (tG ?_ GQ)))]
     ·erw[gj (bc.of (n6.same _ _ n5.at')) ?_]
      rw[bW,gq,Nat.add_sub_cancel];exact(QC (r::tD)).take _
     ·rw[el,evv];erw[BG _]
   ·have hx:x≠"line":=by simpa using h0
    erw[_,Z,p,_,Z,.inl (aE.of n2.at'),Z,_,Z,?_];erw[gy (λh1=>?_) (λh1=>?_)]
    ·have mQ:ws.length=1:=by have h1:=jY h1;rw[bW]at h1;injection h1 with h1;omega
     match ws,mQ,n2,Ca,k with
     |[r],_,n2,Ca,k=>
      erw[_,Z,_,Z,Z,_,Z,?_];erw[gy (λh2=>?_) (λh2=>?_)]
      ·have J2:x="wait":=by simpa using h2
       erw[_,Z,.inl #[p,_,0,.str r,Z,Z,aE.of n2.at',Z,?_]];erw[r,Z,Ca r (.head _),λH3 s3=>?_];erw[by show 2<=sizeLine;omega,λq6 H6 n6=>?_];erw[_,_,Z,(s2.trans s3).trans n6.same,?_];rw[AN hx,bu J2];erw[gj (bc.of n6.at') (tG (bT _) (tG (BG _) GQ))]
      ·have J2:x≠"wait":=by simpa using h2
       erw[_,Z,.inl #[p,_,0,.str r,Z,Z,aE.of n2.at',Z,?_]];erw[by show 2<=sizeLine;omega,λq6 H6 n6=>?_];erw[_,_,Z,s2.trans n6.same,?_];rw[AN hx,bo J2];erw[gj (bc.of n6.at') (tG (bT _) (tG (bT _) GQ))]
    ·have mQ:ws.length≠1:=λe=>h1 (bM (by rw[bW,e];rfl))
     erw[.bD,_,Z,s2,?_];rw[E8 hx mQ];erw[yw]
  ·rintro O H3 ⟨t,w5,rfl,s3,rt⟩
   have ok:=X0 (ws:=x::ws) uh;erw[_,Z,_,Z,m,t,rs,es,gQ (x::ws),Z,RD.mono s3 _ rm,rt,l3,ok.1,ok.2,λH4 s4=>#[_,Z,?_]];cases hi:mH rs.length (gQ (x::ws))with |true=>rw[hi]at k;erw[bF #[_,Z,k _ _ (s3.trans s4) (RD.mono s4 _ rt)]] |false=>rw[hi]at k;erw[bh (k _ _ (s3.trans s4) yw)]
end
end _a
set_option maxHeartbeats 2000000
namespace _a
open PySem PySem.Spec PyProof.Rows _L _l _W
open _T (numS numIn? figs isFig Free)
section
def sH:ag->Str | .int i=>numS i | .str z=>z |_=>Str.empty
def fP(ns:List Int):Str:=Txt.join " " (ns.map numS)
def eV(a b:Int):Str:=if b=1 then numS a else numS a++"/"++numS b
def g6:ag->Str | .tuple [.str _,.tuple xs,.int sp]=>"line "++Txt.join " " (xs.map sH)++" "++numS sp | .tuple [.str w,u]=>w++" "++sH u |_=>Str.empty
def iu:ag->Str | .tuple [.str _,.tuple xs,.int t,.tuple [.int a,.int b]]=>"step "++Txt.join " " (xs.map sH)++" "++numS t++" "++eV a b |d=>g6 d
def Nm (i:Int):Prop:=i.natAbs<10^40
def kY(w:Str):Prop:=w="wait"\/w="tool"\/w="mark"
def TI(d:ag):Prop:=(∃ns sp,d=du ns sp/\ns.length<=3/\(∀n∈ns,Nm n)/\Nm sp)\/(∃w i,d= .tuple [.str w,.int i]/\kY w/\Nm i)\/∃w z,d= .tuple [.str w,.str z]/\kY w/\z.length<=100
theorem Rm(ns:List Int):(ns.map PyData.int).map sH=ns.map numS:=by rw[DN];rfl
theorem C3(ns:List Int)(sp:Int):g6 (du ns sp)="line "++fP ns++" "++numS sp:=by show Str.ofString "line "++Txt.join " " ((ns.map PyData.int).map sH)++" "++numS sp=_;rw[Rm];rfl
theorem fY{i:Int}(h:Nm i):(numS i).length<=41:=M7 h
theorem tV{ns:List Int}(h:∀n∈ns,Nm n)(hl:ns.length<=3):(fP ns).length<=126:=by
 have:=C1 " " (B:=41) (ns.map numS) (λz hz=>by let(n,hn,rfl):=dB.mp hz;erw[fY (h n hn)]);rw[bW]at this;have e:Str.length " "=1:=by decide+kernel
 rw[e]at this;unfold fP
 lia
theorem Az{w:Str}(h:kY w):w.length=4:=by rcases h with rfl|rfl|rfl<;>decide+kernel
theorem IU{d:ag}(h:TI d):(g6 d).length<=400:=by
 have e1:Str.length " "=1:=by decide+kernel
 have e2:Str.length "line "=5:=by decide+kernel
 rcases h with⟨ns,sp,rfl,hl,hb,hs⟩|⟨w,i,rfl,hw,hi⟩|⟨w,z,rfl,hw,hz⟩
 ·rw[C3]
  have h1:=tV hb hl;have h2:=fY hs;simp only[dC]
  lia
 ·show(w++" "++numS i).length<=400
  have h2:=fY hi;have h3:=Az hw;simp only[dC]
  lia
 ·show(w++" "++z).length<=400
  have h3:=Az hw;simp only[dC]
  lia
theorem jU:SeqAt.shaped (.str "line")=true:=by decide+kernel
theorem y9:SeqAt.shaped (.str "step")=true:=by decide+kernel
theorem lX(x y:Str):PyData.eqv (.str x) (.str y)=decide (x=y):=by show(x==y)=decide (x=y);rw[kb];simp
theorem vt{H:Hp}{v:V}{d:ag}(h:RD K H v d)(i:TI d):(∃ns sp a b,d=du ns sp/\v= .ref a/\bc K H a [.str "line",.ref b,.int sp]/\RD K H (.ref b) (.tuple (ns.map PyData.int))/\ns.length<=3/\(∀n∈ns,Nm n)/\Nm sp)\/∃w u a y,d= .tuple [.str w,u]/\kY w/\v= .ref a/\bc K H a [.str w,y]/\RD K H y u/\((∃i,u= .int i/\y= .int i/\Nm i)\/∃z,u= .str z/\y= .str z/\z.length<=100):=by
 rcases i with⟨ns,sp,rfl,hl,hb,hs⟩|⟨w,i,rfl,hw,hi⟩|⟨w,z,rfl,hw,hz⟩
 ·let(a,xs,rfl,h1,h2):=h.cT
  let(x1,r,rfl,e1,h2):=h2.cons_inv;let(x2,r,rfl,e2,h2):=h2.cons_inv;let(x3,r,rfl,e3,h2):=h2.cons_inv;cases h2.nil_inv;cases e1.str_inv;cases e3.int_inv;let(b,ys,rfl,_,_):=id e2.cT;erw[.inl #[ns,sp,a,b,Z,Z,h1,e2,hl,hb,hs]]
 ·let(a,xs,rfl,h1,h2):=h.cT
  let(x1,r,rfl,e1,h2):=h2.cons_inv;let(x2,r,rfl,e2,h2):=h2.cons_inv;cases h2.nil_inv;cases e1.str_inv;cases e2.int_inv;erw[.inr #[w,_,a,_,Z,hw,Z,h1,e2,.inl #[i,Z,Z,hi]]]
 ·let(a,xs,rfl,h1,h2):=h.cT
  let(x1,r,rfl,e1,h2):=h2.cons_inv;let(x2,r,rfl,e2,h2):=h2.cons_inv;cases h2.nil_inv;cases e1.str_inv;cases e2.str_inv;erw[.inr #[w,_,a,_,Z,hw,Z,h1,e2,.inr #[z,Z,Z,hz]]]
theorem DX{w:Str}(h:kY w):SeqAt.shaped (.str w)=true:=by rcases h with rfl|rfl|rfl<;>decide+kernel
theorem DY{w:Str}(h:kY w):decide (w="line")=false/\decide (w="step")=false:=by rcases h with rfl|rfl|rfl<;>decide+kernel
inductive acj(K:aa)(vs:List V)(H:Hp)(Q:VK):Prop |mk (v:_)(ns:_)(h0:vs=[v])(h1:RD K H v (.tuple (ns.map PyData.int)))(h2:ns.length<=3)(h3:(∀n∈ns,Nm n))(h4:∀H',aF H H'->Q (.str (fP ns)) H')
def B6(K:aa):Sp:=λvs H Q _=>acj K vs H Q
theorem yK(zs:List Str):cJ (zs.map PyData.str)=true:=gX.mpr λd hd=>by let(z,_,rfl):=dB.mp hd;rfl
theorem O5:bp ["numbers"] ["numbers"] (aY F1):=bE aH
theorem a0Y(F:FA K mg "show_numbers" F1)(B:bK mg):aG P w K mg aw "show_numbers" 1 (B6 K):=by
 erw[F.has O5 (λvs H Q E h=>?_) (λ_ _ _ _ _ _=>dw λ_=>rfl) (λf aI A outer s H vs Q E hr h=>?_)]
 ·let(v,ns,rfl,_):=h
  rfl
 ·let(v,ns,rfl,rv,hl,hb,k):=h
  have nd:=O5.nd;erw[_,(aJ (aW (vW K Z bf (ao (fi (N:=["number"]) (js:=[none]) Z Z Z (ko K Z (pv 0)) (λ_ _ _ _ _=>(bj 0 (jb _))) (λ_ _ _ _ _=>dJ) (λ_ _ _ _ _=>(cI (x:="str") gJ Z (B.at "str") gp (ao (pv 0) az)))) az)))),?_];let(a,xs,rfl,h1,h2):=rv.cT;rw[h2.fE]at h1;erw[Z,?_];erw[_,Z,a,Z,#[_,h1],λD H1 n1=>?_];erw[pW (K:=K) (ds:=(ns.map numS).map PyData.str) _ h1 n1 (by simp) (by simp;lia) (yK _) ?_ ?_]
  ·intro i x d H2 Q' ex ed s2 hq
   rw[cj]at ex;let(n,en,rfl):=DK.mp ex;rw[cj,cj,en]at ed;cases ed;have hn:=hb n (gf en);erw[_,Z,.inl #[n,Z,gF hn,hq _ _ (aF.refl _) (bT _)]]
  ·intro H2 zs s2 d2 r2
   rw[sP r2]at d2;erw[" ",D,ns.map numS,Z,Z,aE.of d2,λz hz=>?_,aH,by rw[bW];lia,k _ s2];let(n,hn,rfl):=dB.mp hz;have:=fY (hb n hn)
   lia
inductive acB(K:aa)(vs:List V)(H:Hp)(Q:VK):Prop |mk (v:_)(d:_)(h0:vs=[v])(h1:RD K H v d)(h2:TI d)(h3:(∀b:Bool,(b=true↔∃ns sp,d=du ns sp)->Q (.bl b) H))
def Nj(K:aa):Sp:=λvs H Q _=>acB K vs H Q
theorem sN{w:Str}{u:ag}(h:kY w):¬∃ns sp,PyData.tuple [.str w,u]=du ns sp:=by rintro⟨ns,sp,e⟩;unfold du at e;injection e with e;injection e with e1 e2;injection e2 with e2 e3;cases e3
abbrev Pr:Stmt:=top 30
theorem OS:bp ["item"] ["item"] (aY Pr):=bE aH
theorem a1V(F:FA K mg "is_line" Pr)(B:bK mg):aG P w K mg aw "is_line" 1 (Nj K):=by
 erw[F.has OS (λvs H Q E h=>?_) (λ_ _ _ _ _ _=>dw λ_=>rfl) (λf aI A outer s H vs Q E hr h=>?_)]
 ·let(v,d,rfl,_):=h
  rfl
 ·let(v,d,rfl,rv,ti,k):=h
  have nd:=OS.nd;erw[_,(aJ (aW (fj (dW K Z hr.units) (px K (pv 0) aB) bf (bB _)))),?_];rcases vt rv ti with⟨ns,sp,a,b,rfl,rfl,h1,_⟩|⟨w,u,a,y,rfl,hw,rfl,h1,_⟩
  ·erw[_,Z,.inr #[a,_,0,.str "line",Z,Z,h1,cL (eg 0) Z,.inr #[_,_,bT _,bT _,jU,jU,?_]]]
   rw[lX,bM rfl];erw[k true #[λ_=>#[_,_,Z],λ_=>rfl]]
  ·erw[_,Z,.inr #[a,_,0,.str w,Z,Z,h1,cL (eg 0) Z,.inr #[_,_,bT _,bT _,DX hw,jU,?_]]]
   rw[lX,(DY hw).1];erw[k false #[λz=>(by cases z),λz=>(sN hw z).elim]]
inductive acx(K:aa)(vs:List V)(H:Hp)(Q:VK):Prop |mk (v:_)(d:_)(h0:vs=[v])(h1:RD K H v d)(h2:TI d)(h3:∀H',aF H H'->Q (.str (g6 d)) H')
def yd(K:aa):Sp:=λvs H Q _=>acx K vs H Q
theorem O6:bp ["item","word","steps","speed","value"] ["item"] (aY F3):=bE aH
theorem a0Z(F:FA K mg "show_item" F3)(B:bK mg)(ou:aG P w K mg aw "is_line" 1 (Nj K))(yX:aG P w K mg aw "show_numbers" 1 (B6 K)):aG P w K mg aw "show_item" 2 (yd K):=by
 erw[F.has O6 (λvs H Q E h=>?_) (λ_ _ _ _ _ _=>dw λ_=>rfl) (λf aI A outer s H vs Q E hr h=>?_)]
 ·let(v,d,rfl,_):=h
  rfl
 ·let(v,d,rfl,rv,ti,k):=h
  have nd:=O6.nd;have iP:sizeLine=16777216:=by decide
  have e1:Str.length " "=1:=by decide+kernel
  have e2:Str.length "line"=4:=by decide+kernel
  have e0:Str.empty.length=0:=by decide+kernel
  erw[_,(aD (bL (cO (pf ou hr (ao (pv 0) az))) (aD (fh (pv 0) (eB K Z (n:=3) Z (bS (bj 1 nd) (bS (bj 2 nd) (bS (bj 3 nd) ek))))) (aJ (aW (vV (gD (kP (pv 1)) (gD bf (gD (kP (pf yX hr (ao (pv 2) az))) (gD bf (gD (kP (pv 3)) vT))))))))) bO) (aD (fh (pv 0) (eB K Z (n:=2) Z (bS (bj 1 nd) (bS (bj 4 nd) ek)))) (aJ (aW (vV (gD (kP (pv 1)) (gD bf (gD (kP (pv 4)) vT)))))))),?_];erw[_,Z,v,d,Z,rv,ti,λb hb=>#[_,Z,?_]];rcases vt rv ti with⟨ns,sp,a,b',rfl,rfl,h1,r2,hl,hn,hs⟩|⟨w,u,a,y,rfl,hw,rfl,h1,ry,hv⟩
  ·cases(hb.mpr #[_,_,rfl])
   erw[bF ?_];have Cz:=tV hn hl;have wR:=fY hs;erw[_,Z,a,_,Z,h1,Z,_,_,Z,_,_,Z,_,_,Z,Z,?_];erw[_,Z,.inr #["line",Z,au,_,Z,by simp only[dC];lia,?_]];erw[_,Z,by simp only[dC];lia,?_];erw[_,Z,.ref b',ns,Z,r2,hl,hn,λH1 s1=>.inr #[_,Z,au,_,Z,by simp only[dC];lia,?_]];erw[_,Z,by simp only[dC];lia,?_];erw[_,Z,.inl #[sp,Z,gF hs,_,Z,by simp only[dC];change _+(numS sp).length<=_;lia,?_]];erw[by simp only[dC];change _+(numS sp).length<=_;lia,?_];have e:Str.empty++"line"++" "++fP ns++" "++numS sp=g6 (du ns sp):=by
    rw[C3,Ls];have:(Str.ofString "line"++Str.ofString " ")=Str.ofString "line ":=by decide+kernel
    rw[this]
   have:=k H1 s1;rw[<-e]at this;erw[this]
  ·have uu:b=false:=by cases b with |false=>rfl |true=>exact(sN hw (hb.mp Z)).elim
   subst uu;erw[bh ?_];have w4:=Az hw;erw[_,Z,a,_,Z,h1,Z,_,_,Z,_,_,Z,Z,?_];erw[_,Z,.inr #[w,Z,au,_,Z,by simp only[dC];lia,?_]];erw[_,Z,by simp only[dC];lia,?_];have fin:=k H (aF.refl _);have e:Str.empty++w++" "++sH u=g6 (.tuple [.str w,u]):=by rw[Ls];rcases hv with⟨i,rfl,_⟩|⟨z,rfl,_⟩<;>rfl
   rw[<-e]at fin;rcases hv with⟨i,rfl,rfl,hi⟩|⟨z,rfl,rfl,hz⟩
   ·have wR:=fY hi
    erw[_,Z,.inl #[i,Z,gF hi,_,Z,by simp only[dC];change _+(numS i).length<=_;lia,?_]];erw[by simp only[dC];change _+(numS i).length<=_;lia,fin]
   ·erw[_,Z,.inr #[z,Z,au,_,Z,by simp only[dC];lia,?_]]
    erw[by simp only[dC];lia,fin]
theorem sz:sizeLine=16777216:=by decide
theorem fu:Str.length " "=1:=by decide+kernel
theorem Nz:Str.empty.length=0:=by decide+kernel
def iD (i:Int):Prop:=i.natAbs<10^540
theorem qI{i:Int}(h:iD i):(numS i).length<=541:=by show(Str.ofString (toString i)).length<=541;rw[PySem.ofString_length];erw[int_text_length_le10 (k:=540) ay h]
theorem BW{i:Int}(h:iD i):i.natAbs.log2<1920:=by
 by_cases h0:i.natAbs=0
 ·rw[h0];decide
 ·exact(Nat.log2_lt h0).mpr (xG h aH)
inductive acG(K:aa)(vs:List V)(H:Hp)(Q:VK):Prop |mk (v:_)(a:_)(b:_)(h0:vs=[v])(h1:RD K H v (.tuple [.int a,.int b]))(h2:iD a)(h3:iD b)(h4:Q (.str (eV a b)) H)
def Nl(K:aa):Sp:=λvs H Q _=>acG K vs H Q
theorem M8{H:Hp}{v:V}{a b:Int}(h:RD K H v (.tuple [.int a,.int b])):∃p,v= .ref p/\bc K H p [.int a,.int b]:=by let(p,xs,rfl,h1,h2):=h.cT;let(x1,r,rfl,e1,h2):=h2.cons_inv;let(x2,r,rfl,e2,h2):=h2.cons_inv;cases h2.nil_inv;cases e1.int_inv;cases e2.int_inv;erw[p,Z,h1]
theorem ND:Str.length "/"=1:=by decide+kernel
theorem CF{a b:Int}(ha:iD a)(hb:iD b):(eV a b).length<=1100:=by
 have h1:=qI ha;have h2:=qI hb;have h3:=ND;unfold eV;split
 ·lia
 ·simp only[dC];lia
theorem O7:bp ["one","p","q"] ["one"] (aY F7):=bE aH
theorem a16(F:FA K mg "show_fraction" F7)(B:bK mg):aG P w K mg aw "show_fraction" 1 (Nl K):=by
 erw[F.has O7 (λvs H Q E h=>?_) (λ_ _ _ _ _ _=>dw λ_=>rfl) (λf aI A outer s H vs Q E hr h=>?_)]
 ·let(v,a,b,rfl,_):=h
  rfl
 ·let(v,a,b,rfl,rv,na,nb,k):=h
  have nd:=O7.nd;erw[_,(aD (fh (pv 0) (eB K Z (n:=2) Z (bS (bj 1 nd) (bS (bj 2 nd) ek)))) (aJ (aW (my (bU (dW K Z hr.units) (pv 2) aB (bB _)) (cI (x:="str") gJ Z (B.at "str") gp (ao (pv 1) az)) (vV (gD (kP (pv 1)) (gD bf (gD (kP (pv 2)) vT)))))))),?_];let(p,rfl,h1):=M8 rv;have l1:=qI na;have l2:=qI nb;have hs:=sz;have h0:=Nz;have J5:=ND;erw[_,Z,p,_,Z,h1,Z,_,_,Z,_,_,Z,Z,?_];erw[_,Z,.inl #[_,_,Z,Z,_,Z,?_]];by_cases hb:b=1
  ·rw[bM hb]
   erw[bF #[_,Z,.inl #[a,Z,BW na,?_]]];unfold eV at k;rw[bu hb]at k;erw[k]
  ·rw[cD hb]
   erw[bh #[_,Z,.inl #[a,Z,BW na,_,Z,by simp only[dC];change _+(numS a).length<=_;lia,?_]]];erw[_,Z,by simp only[dC];change _+(numS a).length+_<=_;lia,?_];erw[_,Z,.inl #[b,Z,BW nb,_,Z,by simp only[dC];change _+(numS a).length+_+(numS b).length<=_;lia,?_]];erw[by simp only[dC];change _+(numS a).length+_+(numS b).length<=_;lia,?_];unfold eV at k;rw[bo hb]at k;have e:Str.empty++numS a++"/"++numS b=numS a++"/"++numS b:=by rw[Ls]
   rw[<-e]at k;erw[k]
theorem OM:bp ["_law_item_here"] ["_law_item_here"] (aY FU):=bE aH
theorem a1K(F:FA K mg "_law_item_text" FU)(B:bK mg):aG P w K mg aw "_law_item_text" 1 (yd K):=by
 erw[F.has OM (λvs H Q E h=>?_) (λ_ _ _ _ _ _=>dw λ_=>rfl) (λf aI A outer s H vs Q E hr h=>?_)]
 ·let(v,d,rfl,_):=h
  rfl
 ·let(v,d,rfl,rv,ti,k):=h
  have nd:=OM.nd;erw[_,(aD (bL (bU (dW K Z hr.units) (px K (pv 0) aB) bf (bB _)) (aJ (aW (aQ nT (aQ nT (aQ nT bf (vW K Z bf (ao (fi (N:=["_law_step"]) (js:=[none]) Z Z Z (ko K Z (px K (pv 0) aB)) (λ_ _ _ _ _=>(bj 0 (jb _))) (λ_ _ _ _ _=>dJ) (λ_ _ _ _ _=>(cI (x:="str") gJ Z (B.at "str") gp (ao (pv 0) az)))) az))) bf) (cI (x:="str") gJ rfl (B.at "str") gp (ao (px K (pv 0) aB) az))))) bO) (aJ (aW (aQ nT (aQ nT (px K (pv 0) aB) bf) (cI (x:="str") gJ Z (B.at "str") gp (ao (px K (pv 0) aB) az)))))),?_];have hs:=sz;have zx:=fu;have h5:Str.length "line "=5:=by decide+kernel
  rcases vt rv ti with⟨ns,sp,a,b,rfl,rfl,h1,r2,hl,hn,fM⟩|⟨w,u,a,y,rfl,hw,rfl,h1,ry,hv⟩
  ·erw[_,Z,.inr #[a,_,0,.str "line",Z,Z,h1,cL (eg 0) Z,.inr #[_,_,bT _,bT _,jU,jU,_,Z,?_]]]
   rw[lX,bM rfl];erw[bF ?_];have Cz:=tV hn hl;have wR:=fY fM;let(b',xs,e',g1,g2):=r2.cT;cases e';rw[g2.fE]at g1;erw[Z,?_];erw[_,Z,.inr #[a,_,1,.ref b,Z,Z,h1,cL ay Z,b,Z,#[_,g1],λD H1 n1=>?_]];erw[pW (K:=K) (ds:=(ns.map numS).map PyData.str) _ g1 n1 (by simp) (by simp;lia) (yK _) ?_ ?_]
   ·intro i x d H2 Q' ex ed s2 hq
    rw[cj]at ex;let(n,en,rfl):=DK.mp ex;rw[cj,cj,en]at ed;cases ed;have hn:=hn n (gf en);erw[_,Z,.inl #[n,Z,gF hn,hq _ _ (aF.refl _) (bT _)]]
   ·intro H2 zs s2 d2 r2
    rw[sP r2]at d2;erw[" ",D,ns.map numS,Z,Z,aE.of d2,λz hz=>?_,aH,by rw[bW];lia,?_]
    ·let(n,Jg,rfl):=dB.mp hz
     have:=fY (hn n Jg)
     lia
    erw[_,_,Z,Z,by change _+(fP ns).length<=_;lia,?_];erw[_,_,Z,Z,by simp only[dC];change _+(fP ns).length+_<=_;lia,?_];erw[_,Z,.inr #[a,_,2,.int sp,Z,Z,h1.go s2,cL ay Z,.inl #[sp,Z,gF fM,?_]]];erw[_,_,Z,Z,by simp only[dC];change _+(fP ns).length+_+(numS sp).length<=_;lia,?_];have:=k H2 s2;rw[C3]at this;erw[this]
  ·erw[_,Z,.inr #[a,_,0,.str w,Z,Z,h1,cL (eg 0) Z,.inr #[_,_,bT _,bT _,DX hw,jU,_,Z,?_]]]
   rw[lX,(DY hw).1];erw[bh ?_];have w4:=Az hw;have fin:=k H (aF.refl _);erw[_,Z,.inr #[a,_,0,.str w,Z,Z,h1,cL (eg 0) Z,?_]];erw[_,_,Z,Z,au,?_];erw[_,Z,.inr #[a,_,1,y,Z,Z,h1,cL ay Z,?_]];rcases hv with⟨i,rfl,rfl,hi⟩|⟨z,rfl,rfl,hz⟩
   ·have wR:=fY hi
    erw[.inl #[i,Z,gF hi,_,_,Z,Z,by simp only[dC];change _+(numS i).length<=_;lia,fin]]
   ·erw[.inr #[z,Z,_,_,Z,Z,by simp only[dC];lia,fin]]
def Dw(d:ag):Prop:=TI d/\(∀ns sp,d≠du ns sp)\/∃(ns:List Int)(t a b:Int),d= .tuple [.str "step",.tuple (ns.map PyData.int),.int t,.tuple [.int a,.int b]]/\ns.length<=3/\(∀n∈ns,Nm n)/\iD t/\iD a/\iD b
inductive acK(K:aa)(vs:List V)(H:Hp)(Q:VK):Prop |mk (v:_)(d:_)(h0:vs=[v])(h1:RD K H v d)(h2:Dw d)(h3:∀H',aF H H'->Q (.str (iu d)) H')
def Nt(K:aa):Sp:=λvs H Q _=>acK K vs H Q
theorem CS{d:ag}(h:TI d)(hn:∀ns sp,d≠du ns sp):iu d=g6 d:=by
 rcases h with⟨ns,sp,rfl,_⟩|⟨w,i,rfl,_⟩|⟨w,z,rfl,_⟩
 ·exact(hn _ _ Z).elim
 ·rfl
 ·rfl
theorem CQ(ns:List Int)(t a b:Int):iu (.tuple [.str "step",.tuple (ns.map PyData.int),.int t,.tuple [.int a,.int b]])="step "++fP ns++" "++numS t++" "++eV a b:=by show Str.ofString "step "++Txt.join " " ((ns.map PyData.int).map sH)++" "++numS t++" "++eV a b=_;rw[Rm];rfl
theorem XJ{H:Hp}{v:V}{ns:List Int}{t a b:Int}(h:RD K H v (.tuple [.str "step",.tuple (ns.map PyData.int),.int t,.tuple [.int a,.int b]])):∃p r q,v= .ref p/\bc K H p [.str "step",.ref r,.int t,.ref q]/\RD K H (.ref r) (.tuple (ns.map PyData.int))/\bc K H r (ns.map V.int)/\RD K H (.ref q) (.tuple [.int a,.int b]):=by let(p,xs,rfl,h1,h2):=h.cT;let(x1,r,rfl,e1,h2):=h2.cons_inv;let(x2,r,rfl,e2,h2):=h2.cons_inv;let(x3,r,rfl,e3,h2):=h2.cons_inv;let(x4,r,rfl,e4,h2):=h2.cons_inv;cases h2.nil_inv;cases e1.str_inv;cases e3.int_inv;let(r',ys,rfl,g1,g2):=id e2.cT;rw[g2.fE]at g1;let(q,rfl,_):=M8 e4;erw[p,r',q,Z,h1,e2,g1,e4]
theorem O8:bp ["entry","word","row","t","square"] ["entry"] (aY F8):=bE aH
theorem a17(F:FA K mg "show_entry" F8)(B:bK mg)(a5f:aG P w K mg aw "show_item" 2 (yd K))(yX:aG P w K mg aw "show_numbers" 1 (B6 K))(a5g:aG P w K mg aw "show_fraction" 1 (Nl K)):aG P w K mg aw "show_entry" 3 (Nt K):=by
 erw[F.has O8 (λvs H Q E h=>?_) (λ_ _ _ _ _ _=>dw λ_=>rfl) (λf aI A outer s H vs Q E hr h=>?_)]
 ·let(v,d,rfl,_):=h
  rfl
 ·let(v,d,rfl,rv,te,k):=h
  have nd:=O8.nd;erw[_,(aD (bL (bU (mC K Z hr.units) (px K (pv 0) aB) bf (bB _)) (aJ (aW (pf a5f hr (ao (pv 0) az)))) bO) (aD (fh (pv 0) (eB K Z (n:=4) Z (bS (bj 1 nd) (bS (bj 2 nd) (bS (bj 3 nd) (bS (bj 4 nd) ek)))))) (aJ (aW (vV (gD (kP (pv 1)) (gD bf (gD (kP (pf yX hr (ao (pv 2) az))) (gD bf (gD (kP (pv 3)) (gD bf (gD (kP (pf a5g hr (ao (pv 4) az))) vT)))))))))))),?_];have hs:=sz;have zx:=fu;have h0:=Nz;have h4:Str.length "step"=4:=by decide+kernel
  rcases te with⟨ti,hn⟩|⟨ns,t,a,b,rfl,hl,hn,ht,ha,hb⟩
  ·rw[CS ti hn]at k
   rcases vt rv ti with⟨ns,sp,a,b,rfl,_⟩|⟨w,u,a,y,rfl,hw,rfl,h1,ry,hv⟩
   ·exact(hn _ _ Z).elim
   ·erw[_,Z,.inr #[a,_,0,.str w,Z,Z,h1,cL (eg 0) Z,.inr #[_,_,bT _,bT _,DX hw,y9,_,Z,?_]]]
    rw[lX,(DY hw).2];erw[bF #[_,Z,_,_,Z,rv,ti,k]]
  ·let(p,r,q,rfl,h1,g2,g3,g4):=XJ rv
   erw[_,Z,.inr #[p,_,0,.str "step",Z,Z,h1,cL (eg 0) Z,.inr #[_,_,bT _,bT _,y9,y9,_,Z,?_]]];rw[lX,bM rfl];erw[bh ?_];have Cz:=tV hn hl;have wR:=qI ht;have T8:=CF ha hb;erw[_,Z,p,_,Z,h1,Z,_,_,Z,_,_,Z,_,_,Z,_,_,Z,Z,?_];erw[_,Z,.inr #["step",Z,au,_,Z,by simp only[dC];lia,?_]];erw[_,Z,by simp only[dC];lia,?_];erw[_,Z,.ref r,ns,Z,g2,hl,hn,λH1 s1=>.inr #[_,Z,au,_,Z,by simp only[dC];lia,?_]];erw[_,Z,by simp only[dC];lia,?_];erw[_,Z,.inl #[t,Z,BW ht,_,Z,by simp only[dC];change _+(numS t).length<=_;lia,?_]];erw[_,Z,by simp only[dC];change _+(numS t).length+_<=_;lia,?_];erw[_,Z,.ref q,a,b,Z,RD.mono s1 _ g4,ha,hb,.inr #[_,Z,au,_,Z,by simp only[dC];change _+(numS t).length+_+_<=_;lia,?_]];erw[by simp only[dC];change _+(numS t).length+_+_<=_;lia,?_];have e:Str.empty++"step"++" "++fP ns++" "++numS t++" "++eV a b="step "++fP ns++" "++numS t++" "++eV a b:=by
    rw[Ls];have:(Str.ofString "step"++Str.ofString " ")=Str.ofString "step ":=by decide+kernel
    rw[this]
   have:=k H1 s1;rw[CQ,<-e]at this;erw[this]
end
end _a
set_option maxHeartbeats 1000000
namespace _a
open PySem PySem.Spec PyProof.Rows _L _r _l _W
open _O (Itm)
section
theorem OF:bp ["_law_bag_here","_law_axes","_law_far","_law_rails","_law_bounds"] ["_law_bag_here"] (aY FN):=bE aH
theorem a1I(F:FA K mg "_law_machine" FN)(B:bK mg)(dU:aG P w K mg aw "_law_take" 1 lD):aG P w K mg aw "_law_machine" 2 (Ng K):=by
 erw[F.has OF (λvs H Q E h=>?_) (λ_ _ _ _ _ _=>dw λ_=>rfl) (λf aI A outer s H vs Q E hr h=>?_)]
 ·let(p,rfl,_):=h
  rfl
 ·let(p,rfl,bg,k):=h
  have nd:=OF.nd;erw[_,(aD (pS 1 nd (aQ dv aB (pf dU hr (ao (pv 0) (ao aB az))))) (aD (pS 2 nd (px K (fA (ao aB (ao aB az))) (pf dU hr (ao (pv 0) (ao aB az))))) (aD (pS 3 nd (cI (x:="tuple") (kh K Z) Z (B.at "tuple") j6 (ao (fi (N:=["_law_axis","_law_bag_here","_law_far"]) (js:=[none,some 0,some 2]) rfl rfl rfl (tK rfl (B.at "range") (ao (pv 1) az)) (λ_ _ _ _ _=>(bj 0 (show List.Nodup (["_law_axis","_law_bag_here","_law_far"]:List Str) by decide+kernel))) (λ_ _ _ _ _=>dJ) (λ_ _ _ _ _=>(aQ dv aB (pf dU hr (ao (pv 1) (ao (pv 2) az)))))) az))) (aD (pS 4 nd (cI (x:="tuple") (kh K Z) Z (B.at "tuple") j6 (ao (fi (N:=["_law_k","_law_bag_here"]) (js:=[none,some 0]) rfl rfl rfl (tK rfl (B.at "range") (ao aB az)) (λ_ _ _ _ _=>(bj 0 (fZ ay))) (λ_ _ _ _ _=>dJ) (λ_ _ _ _ _=>(aQ dv aB (pf dU hr (ao (pv 1) (ao aB az)))))) az))) (aJ (aW (aQ (UK K Z) (aQ (UK K Z) (iH (ao (pv 3) az)) (pv 4)) (iH (ao (aQ dv aB (pf dU hr (ao (pv 0) (ao aB az)))) az))))))))),?_];erw[_,Z,p,2,Z,bg,ay,ay,λt0 H1 t00 t01 b1=>?_];erw[_,_,Z,Z,?_];erw[df Z,λl H2 nw=>?_];have b2:bI p H1 H2:=.fC b1.bC nw.same;have lne:l≠p:=λe=>b1.bC.ne (e▸nw.no);erw[_,Z,p,2,Z,b2.bC,ay,ay,λi H3 i0 i1 b3=>?_];let(uF,mf,ef):=a4M [100,20] i0 i1;have f1:1<=uF/\uF<=100:=by
   rcases bJ.mp mf with rfl|mf
   ·erw[ay,ay]
   rcases bJ.mp mf with rfl|mf
   ·erw[ay,ay]
   ·exact(bZ mf).elim
  erw[.inl #[l,_,_,_,Z,Z,aE.of (b3.same _ _ lne nw.at'),ef,?_]];erw[_,Z,_,Z,au,au,λD H4 n4=>?_];have hN:(2+t0).toNat<=1000:=by lia
  erw[Kv (2+t0).toNat [some (.ref p),some (.int uF)] n4 b3.bC hN (λi=>.int (0+(i:Int))) (λi H5 hi b5=>#[hi,λy H6 #[e1,e2]=>#[e1,e2]]) (λH5 b5=>bV _) (λz=>1<=z/\z<=100) ?_ ?_]
  ·intro i H5 Q' hi b5 hq
   erw[_,Z,_,Z,p,uF,Z,b5.bC,f1.1,au,λz H6 z0 z1 b6=>?_];erw[_,_,Z,Z,hq _ _ #[au,au] b6]
  intro H5 rs b5 d5 lr pr;erw[D,_,Z,.inl #[aE.of d5,λq H6 n6=>?_]];have b6:bI p H5 H6:=.fC b5.bC n6.same;erw[3,Z,ay,ay,λD2 H7 n7=>?_];erw[Kv 3 [some (.ref p)] n7 b6.bC ay (λi=>.int (0+(i:Int))) (λi H8 hi b8=>#[hi,λy H9 #[e1,e2]=>#[e1,e2]]) (λH8 b8=>bV _) (λz=>1<=z/\z<=50) ?_ ?_]
  ·intro i H8 Q' hi b8 hq
   erw[_,Z,p,50,Z,b8.bC,ay,ay,λz H9 z0 z1 b9=>?_];erw[_,_,Z,Z,hq _ _ #[au,au] b9]
  intro H8 bs b8 d8 lb pb;erw[D2,_,Z,.inl #[aE.of d8,λq2 H9 n9=>?_]];have b9:bI p H8 H9:=.fC b8.bC n9.same;erw[_,Z,df Z,λt1 oH yO=>?_];have KQ:bI p H9 oH:=.fC b9.bC yO.same
  match bs,lb,pb,n9 with |[x1,x2,x3],_,pb,n9=>have p1:=pb x1 (.head _);have p2:=pb x2 (.tail _ (.head _));have p3:=pb x3 (.tail _ (.tail _ (.head _)));erw[_,Z,t1,q2,_,_,Z,Z,bc.of yO.at',bc.of (yO.same _ _ n9.at'),df Z,λv1 iZ yo a11=>?_];have Du:bI p oH iZ:=.fC KQ.bC yo;erw[_,Z,p,100,Z,Du.bC,ay,ay,λz uU z0 z1 uL=>?_];erw[_,_,Z,Z,df Z,λt2 Vs Ij=>?_];have KO:bI p uU Vs:=.fC uL.bC Ij.same;erw[v1,t2,_,_,Z,Z,(bc.t (bI.t Du.bC uL) a11).go Ij.same,bc.of Ij.at',df Z,λv2 Lj jO a14=>?_];have uK:bI p Vs Lj:=.fC KO.bC jO;have sq:bc K Lj q (rs.map V.int):=bc.t (bI.t b6.bC (b8.trans (b9.trans (KQ.trans (Du.trans (uL.trans (KO.trans uK))))))) (bc.of n6.at');erw[k (.ref v2) rs x1 x2 x3 (1+z) Lj (gj a14 (cN (gj sq (ml rs)) (cN (fz _) (cN (fz _) (cN (fz _) (cN (fz _) dI)))))) #[au,pr,p1,p2,p3,au] (b1.trans (b2.trans (b3.trans (b5.trans (b6.trans (b8.trans (b9.trans (KQ.trans (Du.trans (uL.trans (KO.trans uK)))))))))))]
inductive acn(vs:List V)(H:Hp)(Q:VK):Prop |mk (p:_)(h0:vs=[.ref p])(h1:fG H p)(h2:∀z H',dy 0 (.str z)->p9 z=true->bI p H H'->Q (.str z) H')
def Nf(K:aa):Sp:=λvs H Q _=>acn vs H Q
theorem OB:bp ["_law_bag_here"] ["_law_bag_here"] (aY FI):=bE aH
theorem a1F(F:FA K mg "_law_name" FI)(B:bK mg)(dU:aG P w K mg aw "_law_take" 1 lD):aG P w K mg aw "_law_name" 2 (Nf K):=by
 erw[F.has OB (λvs H Q E h=>?_) (λ_ _ _ _ _ _=>dw λ_=>rfl) (λf aI A outer s H vs Q E hr h=>?_)]
 ·let(p,rfl,_):=h
  rfl
 ·let(p,rfl,bg,k):=h
  have nd:=OB.nd;erw[_,(aJ (aW (vW K Z bf (ao (fi (N:=["_law_k","_law_bag_here"]) (js:=[none,some 0]) Z Z Z (tK Z (B.at "range") (ao (aQ dv aB (pf dU hr (ao (pv 0) (ao aB az)))) az)) (λ_ _ _ _ _=>(bj 0 (fZ ay))) (λ_ _ _ _ _=>dJ) (λ_ _ _ _ _=>(Hr RY bf (pf dU hr (ao (pv 1) (ao aB az))) (λ_ _=>rfl)))) az)))),?_];erw[Z,?_];erw[_,Z,p,8,Z,bg,ay,ay,λn H1 n0 n1 b1=>?_];erw[_,_,Z,Z,_,Z,bR,bR,λD H2 nD=>?_];erw[Ku (K:=K) (J:=qg 0 (1+n).toNat) (p:=p) (H:=H1) (1+n).toNat _ nD b1.bC bR (λi=>.int (0+(i:Int))) (λi H3 hi _=>#[hi,λy H4 #[e,q]=>#[e,q]]) (λH3 _=>bV _) (λ_ d=>∃z:Str,d= .str z/\z.length=1/\dN z/\z.cps.toList.all (λc=>decide (97<=c)&&decide (c<=122))=true) ?_ ?_]
  ·intro i H3 Q' hi b3 hq
   erw[_,Z,p,26,Z,b3.bC,ay,ay,λd H4 d0 d1 b4=>?_];have hd:d.toNat<jE.cps.toList.length:=by rw[ab9];omega
   erw[jE,d,jE.cps.toList[d.toNat],Z,Z,aH,cL d0 (cB hd),?_];have jS:dN ⟨#[jE.cps.toList[d.toNat]]⟩:=λc hc=>by have kU:c=jE.cps.toList[d.toNat]:=cE.mp hc;rw[kU];erw[ab7 _ (xN hd)]
   have gU:(⟨#[jE.cps.toList[d.toNat]]⟩:Str).cps.toList.all (λc=>decide (97<=c)&&decide (c<=122))=true:=by have:=gP.mp (show jE.cps.toList.all (λc=>decide (97<=c)&&decide (c<=122))=true by decide+kernel) _ (xN hd);show([jE.cps.toList[d.toNat]]:List Nat).all _=true;rw[xP,LN,Ao];erw[this]
   erw[hq _ _ _ #[_,Z,Z,jS,gU] Z (bT _) b4]
  ·intro H3 ys ds b3 d3 r3 l3 nl pd
   let(zs,rfl,hz):=My ds λd hd=>by let(i,hi):=vd.mp hd;erw[pd i d hi]
   rw[sP r3]at d3;rw[bW]at l3;erw["",D,zs,Z,Z,aE.of d3,λz lN=>by rw[(hz z lN).1];decide,ay,bR,?_];erw[k _ _ (a0H (dN.join (p5 aH) λa ha=>(hz a ha).2.1)) (a3a bR bR λz lN=>#[(hz z lN).1,(hz z lN).2.2]) (b1.trans b3)]
inductive acA(K:aa)(vs:List V)(H:Hp)(Q:VK):Prop |mk (p:Addr)(ax:Nat)(h0:vs=[.ref p,.int ax])(h1:fG H p)(h2:1<=ax)(h3:ax<=3)(h4:∀v d o H',RD K H' v d->kZ ax d o->bI p H H'->Q v H')
def Ni(K:aa):Sp:=λvs H Q _=>acA K vs H Q
theorem kZ.iJ{n:Nat}{d:ag}(h:xk d):kZ n d none:=#[h.it,(λ_ _ z=>nomatch z),λ_=>h]
theorem ON:bp ["_law_bag_here","_law_axes","_law_sort","_law_speed","_law_most","_law_steps"] ["_law_bag_here","_law_axes"] (aY FW):=bE aH
theorem a1S(F:FA K mg "_law_item" FW)(B:bK mg)(dU:aG P w K mg aw "_law_take" 1 lD)(a7a:aG P w K mg aw "_law_name" 2 (Nf K)):aG P w K mg aw "_law_item" 3 (Ni K):=by
 erw[F.has ON (λvs H Q E h=>?_) (λ_ _ _ _ _ _=>dF λ_ _=>rfl) (λf aI A outer s H vs Q E hr h=>?_)]
 ·let(p,ax,rfl,_):=h
  rfl
 ·let(p,ax,rfl,bg,ax1,ax2,k):=h
  have nd:=ON.nd;erw[_,(aD (pS 2 nd (pf dU hr (ao (pv 0) (ao aB az)))) (aD (bL (bU (dW K Z hr.units) (pv 2) aB (bB _)) (aJ (aW (iH (ao bf (ao (aQ dv aB (pf dU hr (ao (pv 0) (ao aB az)))) az))))) bO) (aD (bL (bU (dW K Z hr.units) (pv 2) aB (bB _)) (aJ (aW (iH (ao bf (ao (px K (fA (ao bf (ao bf az))) (pf dU hr (ao (pv 0) (ao aB az)))) az))))) bO) (aD (bL (bU (dW K Z hr.units) (pv 2) aB (bB _)) (aJ (aW (iH (ao bf (ao (pf a7a hr (ao (pv 0) az)) az))))) bO) (aD (pS 3 nd (aQ dv aB (pf dU hr (ao (pv 0) (ao aB az))))) (aD (pS 4 nd (px K (fA (ao aB (ao aB (ao aB az)))) (pf dU hr (ao (pv 0) (ao aB az))))) (aD (tJ (i0:=5) nd Z (Or.inl Z) (N:=["_law_axis","_law_most","_law_bag_here"]) (js:=[none,some 4,some 0]) Z Z Z (tK Z (B.at "range") (ao (pv 1) az)) (λ_ _ _ _ _=>(bj 0 (show List.Nodup (["_law_axis","_law_most","_law_bag_here"]:List Str) by decide+kernel))) (λ_ _ _ _ _=>dJ) (λ_ _ _ _ _=>(aQ iK (pf dU hr (ao (pv 2) (ao (aQ dv (aQ cc aB (pv 1)) aB) az))) (pv 1)))) (aD (ig (bL (dj (cO (fK (x:="any") (Va K Z Z) Z (B.at "any") VL (ao (pv 5) az)))) (aJ (fh aB (yz (pv 5) (pf dU hr (ao (pv 0) (ao (pv 1) az))) set_list))) bO)) (aJ (aW (iH (ao bf (ao (cI (x:="tuple") (kh K Z) Z (B.at "tuple") j6 (ao (pv 5) az)) (ao (pv 3) az)))))))))))))),?_];erw[_,Z,p,6,Z,bg,ay,ay,λso H1 s0 s1 b1=>?_];erw[_,Z,.inl #[_,_,Z,Z,_,Z,?_]];erw[gy (λhc=>?_) (λhc=>?_)]
  ·erw[_,Z,p,1000,Z,b1.bC,ay,ay,λn H2 n0 n1 b2=>?_]
   erw[_,_,Z,Z,df Z,λt H3 n3=>?_];erw[k (.ref t) _ none H3 (gj (bc.of n3.at') (cN (bT _) (cN (fz _) dI))) (.iJ (.inl #[_,Z,bR,bR])) (b1.trans (b2.trans (.fC b2.bC n3.same)))]
  erw[_,Z,.inl #[_,_,Z,Z,_,Z,?_]];erw[gy (λhc=>?_) (λhc=>?_)]
  ·erw[df Z,λc H2 n2=>?_]
   have b2:bI p H1 H2:=.fC b1.bC n2.same;have cp:c≠p:=λz=>b1.bC.ne (z▸n2.no);erw[_,Z,p,2,Z,b2.bC,ay,ay,λi H3 i0 i1 b3=>?_];have hi:∃z:Str,fb ([.str "up",.str "down"]:List V) i=some (.str z)/\dy 0 (.str z)/\Hu "tool" z:=by
    rcases(show i=0\/i=1 by omega)with rfl|rfl
    ·erw["up",Z,#[aH,aH],.inl #[Z,.inl Z]]
    ·erw["down",Z,#[aH,aH],.inl #[Z,.inr Z]]
   let(z,ez,HH,onz):=hi;erw[.inl #[c,_,_,_,Z,Z,aE.of (b3.same _ _ cp n2.at'),ez,df Z,λt H4 n4=>?_]];erw[k (.ref t) _ none H4 (gj (bc.of n4.at') (cN (bT _) (cN (bT _) dI))) (.iJ (.inr #[_,_,Z,.inl Z,HH,onz])) (b1.trans (b2.trans (b3.trans (.fC b3.bC n4.same))))]
  erw[_,Z,.inl #[_,_,Z,Z,_,Z,?_]];erw[gy (λhc=>?_) (λhc=>?_)]
  ·erw[_,Z,p,Z,b1.bC,λz H2 HH nz b2=>#[df Z,λt H3 n3=>?_]]
   erw[k (.ref t) _ none H3 (gj (bc.of n3.at') (cN (bT _) (cN (bT _) dI))) (.iJ (.inr #[_,_,Z,.inr Z,HH,.inr #[Z,nz]])) (b1.trans (b2.trans (.fC b2.bC n3.same)))]
  erw[_,Z,p,20,Z,b1.bC,ay,ay,λsp H2 p0 p1 b2=>?_];erw[_,_,Z,Z,?_];erw[df Z,λc H3 n3=>?_];have b3:bI p H2 H3:=.fC b2.bC n3.same;have cp:c≠p:=λz=>b2.bC.ne (z▸n3.no);erw[_,Z,p,3,Z,b3.bC,ay,ay,λi H4 i0 i1 b4=>?_];have hm:∃m:Int,fb ([.int 3,.int 20,.int 100]:List V) i=some (.int m)/\1<=m/\m<=100:=by
   rcases(show i=0\/i=1\/i=2 by omega)with rfl|rfl|rfl
   ·erw[3,Z,ay,ay]
   ·erw[20,Z,ay,ay]
   ·erw[100,Z,ay,ay]
  let(m,em,m1,m2):=hm;erw[.inl #[c,_,_,_,Z,Z,aE.of (b4.same _ _ cp n3.at'),em,?_]];have uK:=b1.trans (b2.trans (b3.trans b4));erw[_,Z,_,Z,bR,bR,λD H5 nD=>?_];erw[Kv (J:=qg 0 ax) (p:=p) (H:=H4) ax _ nD uK.bC bR (λi=>.int (0+(i:Int))) (λi H3 hi _=>#[hi,λy H4 #[e,q]=>#[e,q]]) (λH3 _=>bV _) (λz=>(z.natAbs:Int)<=m) ?_ ?_]
  ·intro i H6 Q' hi b6 hq
   erw[_,Z,_,Z,_,_,Z,Z,.of_left (dc ay ay),_,_,Z,Z,p,2*m+1,Z,b6.bC,bR,bR,λd H7 d0 d1 b7=>?_];erw[_,Z,_,_,Z,Z,hq _ _ bR b7]
  intro H6 is b6 d6 l6 UZ;have KN:=uK.trans b6;have lp:D≠p:=λz=>uK.bC.ne (z▸nD.no);have nl:H D=none:=by cases e:H D with |none=>rfl |some o=>have:=uK.same _ _ lp e;rw[nD.no]at this;cases this
  erw[λO H7=>bI p H H7/\∃(is:List Int),H7 D=some (.lst (is.map V.int))/\fg ax 100 is/\O=[some (.ref p),some (.int ax),some (.int so),some (.int (1+sp)),some (.int m),some (.ref D)],?_,?_]
  ·erw[_,Z,D,is,Z,.inl (aE.of d6),_,Z,?_]
   cases ha:is.any (· !=0)with |false=>
    erw[bF ?_];erw[_,Z,_,Z,_,Z,p,(ax:Int),Z,KN.bC,bR,bR,λix H7 i0 i1 b7=>?_];have d7:=b7.same _ _ lp d6;erw[D,_,ix,ix.toNat,Z,Z,d7,?_,?_]
    ·unfold kx;rw[bu i0,bu (by rw[bW,l6];erw[i1])]
    erw[?_,is.set ix.toNat 1,?_,#[?_,?_,?_],Z]
    ·have V4:=KN.trans b7
     erw[?_,λb o n e=>?_]
     ·let(c',m',e,ok):=V4.bC
      erw[c',m',by rw[aU lp.symm];erw[e],ok]
     ·rw[aU (iL e nl)];erw[V4.same b o n e]
    ·rw[bQ,List.map_set]
    ·rw[xM];erw[l6]
    ·intro z hz
     rcases List.mem_or_eq_of_mem_set hz with h|h
     ·have:=UZ z h;omega
     ·rw[h];decide
    ·erw[1,VN.mpr #[ix.toNat,by rw[xM];omega,by rw[VR]],ay] |true=>erw[bh ?_];erw[KN,is,d6,#[l6,λz hz=>by have:=UZ z hz;omega,?_],Z];let(z,hz,h0):=VW.mp ha;erw[z,hz,by simpa using h0]
  rintro O H7 ⟨b7,is,d7,ok,rfl⟩;erw[_,Z,D,_,Z,.inl #[aE.of d7,λq H8 n8=>?_]];erw[_,Z,df Z,λt H9 n9=>?_];erw[k (.ref t) (du is (1+sp)) (some (is,1+sp)) H9 (gj (bc.of n9.at') (cN (bT _) (cN (gj (bc.of (n9.same _ _ n8.at')) (ml is)) (cN (fz _) dI)))) #[.inl #[is,_,Z,Z],λns sp e=>by cases e;erw[ok,bR,bR],λz=>nomatch z] (b7.trans (.fC b7.bC (n8.same.trans n9.same)))]
end
end _a
set_option maxHeartbeats 2000000
namespace _a
open PySem PySem.Spec PyProof.Rows _L _l _W
open _T (numS numIn? figs isFig Free)
open _O (Itm)
section
theorem ud(sep a:Str)(as:List Str)(h:as≠[]):Txt.join sep (a::as)=a++sep++Txt.join sep as:=by show Builtin.Str.glued sep (a::as)=a++sep++Builtin.Str.glued sep as;rw[Ac,Ac];cases as with |nil=>exact(h Z).elim |cons b r=>rfl
theorem join_snoc(sep b:Str):∀(as:List Str),as≠[]->Txt.join sep (as++[b])=Txt.join sep as++sep++b |[],h=>(h Z).elim |[a],_=>rfl |a::c::r,_=>by have e:=join_snoc sep b (c::r) (by simp);rw[List.cons_append,ud sep a (c::r++[b]) (by simp),e,ud sep a (c::r) (by simp)];simp only[LA]
theorem IE(ns:List Int)(sp:Int)(h:ns≠[]):g6 (du ns sp)=Txt.join ⟨#[32]⟩ ("line"::(ns.map numS++[numS sp])):=by
 have hn:ns.map numS≠[]:=by simpa using h
 rw[C3,<-me,ud _ _ _ (by simp),join_snoc _ _ _ hn];have e:("line ":Str)="line"++" ":=by decide+kernel
 rw[e];unfold fP;simp only[LA]
theorem nc{c:Nat}{a b:Str}(ha:Free c a)(hb:Free c b):Free c (a++b):=λh=>by rw[qj,qq,jj]at h;erw[h.elim ha hb]
theorem JR{c:Nat}{sep:Str}(hs:Free c sep):∀l:List Str,(∀a∈l,Free c a)->Free c (Txt.join sep l) |[],_=>λh=>by have e:(Txt.join sep []).cps.toList=[]:=rfl;rw[e]at h;cases h |[x],h=>h x (.head _) |x::y::r,h=>by rw[ud _ _ _ (by simp)];erw[nc (nc (h x (.head _)) hs) (JR hs (y::r) λa ha=>h a (.tail _ ha))]
theorem HV(i:Int):dN (numS i):=λc hc=>by cases i with |ofNat m=>rw[show(numS (Int.ofNat m)).cps.toList=_ from _T.Dh m]at hc;have:=_T.pU m c hc;omega |negSucc m=>
 rw[_T.Dg]at hc;rcases bJ.mp hc with e|hc
 ·omega
 ·have:=_T.pU (m+1) c hc
  omega
structure uS(n:Nat)(d:ag):Prop where
 rt:uf n (g6 d)=d
 len:(g6 d).length<=400
 ok:uO (g6 d)
 fr:Free 10 (g6 d)
 ti:TI d
 wc:dy 8 d
theorem ir{c:Nat}{z:Str}(h:(z.cps.toList.all λx=>x !=c)=true):Free c z:=λhc=>by have:=gP.mp h c hc;simp at this
theorem a3b{c:Nat}{z:Str}(h:p9 z=true)(hc:c<97):Free c z:=λh'=>by unfold p9 at h;rw[eX]at h;have:=gP.mp h.2 c h';unfold BU at this;simp at this;omega
theorem Qt{c:Nat}{w s:Str}(h:Hu w s)(hc:c=10\/c=32):Free c s:=by
 rcases h with⟨_,rfl|rfl⟩|⟨_,hn⟩
 ·rcases hc with rfl|rfl<;>erw[ir aH]
 ·rcases hc with rfl|rfl<;>erw[ir aH]
 ·erw[a3b hn bR]
theorem Ie{i:Int}(h:i.natAbs<10^40):nI (numS i)= .int i:=by unfold nI;have:(numS i).length<=41:=M7 h;rw[_T.yH bR];rfl
theorem a3c{ns:List Int}(h:∀z∈ns,z.natAbs<10^40):(ns.map numS).map nI=ns.map PyData.int:=by rw[DN];erw[List.map_congr_left λz hz=>Ie (h z hz)]
theorem S6{n:Nat}{d:ag}{ws:List Str}(e:g6 d=Txt.join ⟨#[32]⟩ ws)(hn:ws≠[])(hf:∀z∈ws,Free 32 z)(ht:gQ ws=d)(hi:mH n d=true):uf n (g6 d)=d:=by unfold uf;rw[e,me,_T.sT hn hf,ht,hi];rfl
theorem kZ.tx{n:Nat}{d:ag}{o:Itm}(h:kZ n d o)(n1:1<=n)(n3:n<=3):uS n d:=by have hi:=h.is.1;have fu:dN (" ":Str):=p5 aH;have To:Free 10 (" ":Str):=ir aH;cases o with
 |some q=>
  let(ns,sp):=q;have ed:=pA h.it;subst ed;let(cU,s1,s2):=h.ln ns sp rfl;have hb:∀z∈ns,z.natAbs<10^40:=λz hz=>by have:=cU.bd z hz;omega
  have hs:sp.natAbs<10^40:=by omega
  have cP:ns≠[]:=λe=>by rw[e]at cU;have:=cU.len;simp at this;omega
  have ti:TI (du ns sp):=.inl #[ns,sp,Z,by rw[cU.len];erw[n3],hb,hs];erw[S6 (IE ns sp cP) (by simp) (λz hz=>?_) ?_ hi,IU ti,?_,?_,ti,h.is.2.1]
  ·rcases bJ.mp hz with rfl|hz
   ·erw[ir aH]
   ·rcases jj.mp hz with hz|hz
    ·let(i,_,rfl):=dB.mp hz
     erw[_T.gW ay ay]
    ·rw[cE.mp hz];erw[_T.gW ay ay]
  ·obtain⟨x,xs,rfl⟩:∃x xs,ns=x::xs:=by cases ns with|nil=>exact(cP rfl).elim|cons x xs=>erw[x,xs,rfl]
   have e1:(x::xs).map numS++[numS sp]=numS x::(xs.map numS++[numS sp]):=rfl;have e2:(numS x::(xs.map numS++[numS sp])).map nI=(x::xs).map PyData.int++[.int sp]:=by rw[<-e1,oK,a3c hb];show _++[nI (numS sp)]=_;rw[Ie hs]
   rw[e1,E9,e2,fH,bW,xK,List.take_left' (by simp),VP,List.getLast?_append,List.getLast?_singleton];rfl
  ·rw[IE ns sp cP,<-me]
   erw[dN.join fu λa ha=>?_];rcases bJ.mp ha with rfl|ha
   ·erw[p5 aH]
   ·rcases jj.mp ha with ha|ha
    ·let(i,_,rfl):=dB.mp ha
     erw[HV i]
    ·rw[cE.mp ha];erw[HV sp]
  ·rw[IE ns sp cP,<-me]
   erw[JR To _ λa ha=>?_];rcases bJ.mp ha with rfl|ha
   ·erw[ir aH]
   ·rcases jj.mp ha with ha|ha
    ·let(i,_,rfl):=dB.mp ha
     erw[_T.gW ay ay]
    ·rw[cE.mp ha];erw[_T.gW ay ay] |none=>
  have key:∀(w y:Str)(u:ag),d= .tuple [.str w,u]->g6 d=w++" "++y->w≠"line"->(if w="wait" then nI y else .str y)=u->Free 32 w->Free 32 y->Free 10 w->Free 10 y->dN w->dN y->TI d->uS n d:=λw y u e1 e2 hw hu f1 f2 f3 f4 o1 o2 ti=>by
   have ej:g6 d=Txt.join ⟨#[32]⟩ [w,y]:=by rw[e2,<-me];rfl
   erw[S6 ej (by simp) (λz hz=>?_) ?_ hi,IU ti,?_,?_,ti,h.is.2.1]
   ·simp only[bJ,bZ,cG]at hz
    rcases hz with rfl|rfl
    ·erw[f1]
    ·erw[f2]
   ·rw[AN hw,hu,e1]
   ·rw[e2];exact(o1.app fu).app o2
   ·rw[e2];erw[nc (nc f3 To) f4]
  rcases h.ot rfl with⟨z,rfl,z1,z2⟩|⟨w,s,rfl,hw,nU,on⟩
  ·have hb:z.natAbs<10^40:=by omega
   erw[key "wait" (numS z) (.int z) Z Z aH (by rw[bu Z,Ie hb]) (ir aH) (_T.gW ay ay) (ir aH) (_T.gW ay ay) (p5 aH) (HV z) (.inr (.inl #[_,_,Z,.inl Z,hb]))]
  ·have hl:s.length<=100:=by
    rcases on with⟨_,rfl|rfl⟩|⟨_,hn⟩
    ·decide+kernel
    ·decide+kernel
    ·unfold p9 at hn
     simp only[eX,Aa]at hn;omega
   have cP:w≠"line"/\w≠"wait"/\Free 32 w/\Free 10 w/\dN w:=by
    rcases hw with rfl|rfl
    ·erw[aH,aH,ir aH,ir aH,p5 aH]
    ·erw[aH,aH,ir aH,ir aH,p5 aH]
   erw[key w s (.str s) Z Z cP.1 (by rw[bo cP.2.1]) cP.2.2.1 (Qt on (.inr Z)) cP.2.2.2.1 (Qt on (.inl Z)) cP.2.2.2.2 (Qz nU) (.inr (.inr #[_,_,Z,.inr hw,hl]))]
theorem uS.ne{n:Nat}{d:ag}(h:uS n d):d≠ .none:=by rcases h.ti with⟨ns,sp,rfl,_⟩|⟨w,i,rfl,_⟩|⟨w,z,rfl,_⟩<;>erw[λz=>nomatch z]
end
end _a
namespace _a
open PySem PySem.Spec PyProof.Rows _L _r _l _C _P _W _R
open _O (topR cornO mnO betR atO ownF leadF ownL OkI OkIs)
open _T (numS)
section
theorem cC.item{M:aZ}{D:Nat}{S:aV}(ok:cC M D S){i:Nat}{d:ag}(ed:S.ds[i]? =some d):∃o,S.os[i]? =some o/\kZ M.rs.length d o:=by let(o,eo,it):=ok.row.get ed;erw[o,eo,it,λns sp e=>ok.row.ok i ns sp (by rw[eo,e]),λe=>ok.rw i d (by rw[eo,e]) ed]
theorem aZ.Ok.n3{M:aZ}(aM:M.Ok):1<=M.rs.length/\M.rs.length<=3:=by
 have:=aM.len
 lia
theorem cC.tx{M:aZ}{D:Nat}{S:aV}(ok:cC M D S)(aM:M.Ok):∀d∈S.ds,uS M.rs.length d:=λd hd=>by let(i,hi):=vd.mp hd;let(o,_,h):=ok.item hi;erw[h.tx aM.n3.1 aM.n3.2]
structure nE(S:aV):Prop where
 s1:S.side.length<=100
 m1:S.mark.length<=100
 s2:dN S.side
 m2:dN S.mark
theorem nE.eq{S S':aV}(h:nE S)(a:S'.side=S.side)(b:S'.mark=S.mark):nE S':=#[by rw[a];erw[h.s1],by rw[b];erw[h.m1],by rw[a];erw[h.s2],by rw[b];erw[h.m2]]
theorem Qq:2^1700<10^540:=by decide+kernel
theorem aaI{q:Rat}(h:Bd 1700 q):iD q.num/\iD q.den:=#[xG h.num Qq,xG (show(q.den:Int).natAbs<2^1700 from h.den) Qq]
theorem QT{z q k:Int}(hq:0<q)(hk:0<=k)(pE:k<=q):(eT (k*z) q).natAbs<=z.natAbs:=by
 by_cases hz:0<=z
 ·have:=BL hq hk pE hz
  omega
 ·have h:=BL (z:=-z) hq hk pE bR
  rw[show k*-z=-(k*z) by rw[Int.mul_neg],QS hq]at h;omega
theorem WW{ti:Int}{q:Rat}(h1:1<=ti)(h2:ti<=100)(hq:0<q.num)(hd:q.den<2^1600):iD (lC ti q):=by
 unfold lC;split
 ·next hx=>
  let(a,b,c):=hx.choose_spec;generalize hx.choose=T at a b c;have hm:ti*ti<=10000:=by
   have:=sE h2 h2 au ay
   lia
  have Jj:ti*ti*(q.den:Int)<=10000*(q.den:Int):=Al hm au;have cK:T-1<ti*ti*(q.den:Int):=Int.not_le.mp λh=>by rw[Ka hq au h]at c;cases c
  have hp:10001*2^1600<10^540:=by decide+kernel
  show T.natAbs<10^540;generalize(10:Nat)^540=X at hp⊢;generalize(2:Nat)^1600=Y at hp hd
  lia
 ·show(0:Int).natAbs<10^540
  decide+kernel
theorem One.xW{M:aZ}{D:Nat}{S S1:aV}{e:ag}(h:cC M D S)(aM:M.Ok)(hD:D<=1000)(o:One M S e S1):Dw e:=by cases o with
 |@line ns sp eo nh=>
  let(cU,s1,s2):=h.row.ok 0 ns sp eo;have hd:S.dn<aK ns:=by
   rcases h.dn with e|⟨mz,mi,e1,e2⟩
   ·rw[e];erw[cU.lead.1]
   ·rw[eo]at e1;cases e1;erw[e2]
  have hn:S.os≠[]:=λe=>by rw[e]at eo;simp at eo
  let(R1,R2):=Bo h.raw aM hn;have D1:=h.D1;have tI:=aM.r1;have pM:=aM.f1;have mD:=Iq (r:=M.r) (f:=M.f) (left:=(aK ns:Int)-S.dn) au au au h.pd ((AK S.aA sp).mono au) (R1.mono au) h.aR nh;have mL:gG M S ns sp<=1600:=eM Io (xV s1 s2 h.dM h.eF);have tp:0<topR S.aA sp:=E7 s1 h.dM;have mP:0<gG M S ns sp:=Ip tI.1 pM.1 au h.pd.nn tp R1.nn h.aR nh;have bd:Bd 1700 (gG M S ns sp):=(mD.bd (eM mL aH)).mono au;let(b1,b2):=aaI bd;have vx:=aM.t1;have n3:=aM.n3;erw[.inr #[gs ns S.dn,_,_,_,Z,?_,λz hz=>?_,WW vx.1 vx.2 (HU mP) (gO mD.den (uZ ay au)),b1,b2]]
  ·show(ns.map _).length<=3
   rw[bW,cU.len];erw[n3.2]
  ·let(y,hy,rfl):=dB.mp hz
   have Sn:=cU.bd y hy;have c1:=QT (z:=y) (q:=(aK ns:Int)) (k:=(S.dn:Int)+1) au au au;have c2:=QT (z:=y) (q:=(aK ns:Int)) (k:=(S.dn:Int)) au au au;show Int.natAbs _<10^40
   lia |iJ eo ed nh=>
  let(o,dX,it):=h.item ed;rw[eo]at dX;cases dX;erw[.inl #[(it.tx aM.n3.1 aM.n3.2).ti,λns sp e=>?_]];rcases it.it with⟨_,_,_,z⟩|⟨w,x,e2,hw,_⟩
  ·cases z
  ·rw[e2]at e
   erw[sN (show kY w from hw) #[ns,sp,e]]
theorem Run.xW{M:aZ}{D:Nat}{S S1:aV}{es:List ag}(h:cC M D S)(aM:M.Ok)(hD:D<=1000)(r:Run M S es S1):∀e∈es,Dw e:=by induction r with |nil=>erw[λe he=>nomatch he] |cons o _ ih=>
 intro e he;rcases bJ.mp he with rfl|he
 ·erw[o.xW h aM hD]
 ·erw[ih (o.ok h aM) e he]
theorem TX(S:aV):(gB S).side=S.side/\(gB S).mark=S.mark:=by unfold gB;split<;>erw[Z,Z]
theorem One.sd{M:aZ}{D:Nat}{S S1:aV}{e:ag}(h:cC M D S)(aM:M.Ok)(o:One M S e S1)(hs:nE S):nE S1:=by cases o with
 |@line ns sp eo nh=>
  have h1:nE (eU M S ns sp):=hs.eq Z rfl;unfold fL;split
  ·let(a,b):=TX (eU M S ns sp)
   erw[h1.eq a b]
  ·erw[h1] |iJ eo ed nh=>
  have tx:=h.tx aM e (gf ed);let(a,b):=TX (cX e S);erw[nE.eq ?_ a b];rcases tx.ti with⟨ns,sp,rfl,_⟩|⟨w,i,rfl,_⟩|⟨w,y,rfl,_,hy⟩
  ·erw[hs]
  ·erw[hs]
  ·have oy:dN y:=λc hc=>tx.ok c (by rw[show g6 (.tuple [.str w,.str y])=w++" "++y from Z,qj,qq,jj];erw[.inr hc]);show nE (cX (.tuple [.str w,.str y]) S);unfold cX;dsimp only;split
   ·erw[hy,hs.m1,oy,hs.m2]
   ·split
    ·erw[hs.s1,hy,hs.s2,oy]
    ·erw[hs]
theorem Run.sd{M:aZ}{D:Nat}{S S1:aV}{es:List ag}(h:cC M D S)(aM:M.Ok)(r:Run M S es S1)(hs:nE S):nE S1:=by induction r with |nil=>erw[hs] |cons o _ ih=>erw[ih (o.ok h aM) (o.sd h aM hs)]
end
section
theorem BC{rs pl:List Int}(h:fF rs pl)(hr:∀z∈rs,1<=z/\z<=100):∀n∈pl,0<=n/\n<=100:=λn hn=>by
 let(i,hi):=vd.mp hn;have hl:i<rs.length:=by rw[<-h.len];exact(dZ.mp hi).1
 have e:=cB hl;have:=h.at' i n _ hi e;have:=hr _ (xN hl)
 lia
structure RG(M:aZ)(D:Nat)(S:aV):Prop where
 ok:cC M D S
 aM:M.Ok
 sd:nE S
 on:gd M S
 hD:D<=1000
theorem RG.place{M:aZ}{D:Nat}{S:aV}(g:RG M D S):∀n∈dh S,Nm n:=λn hn=>by
 have:=BC (g.on.place g.ok) g.aM.rl n hn;show n.natAbs<10^40
 lia
theorem RG.MC{M:aZ}{D:Nat}{S:aV}(g:RG M D S):Nm (gr M.f S.pc):=by
 let(z1,_,_,z4):=MB g.aM.f1.1 g.ok.pd.nn;have:=z4 g.ok.pm;show Int.natAbs _<10^40
 lia
theorem RG.len{M:aZ}{D:Nat}{S:aV}(g:RG M D S):Nm (S.ds.length:Int):=by have:=g.ok.len;show Int.natAbs _<10^40;omega
def BJ(z:Str):Str:=if z="" then "none" else z
def kL(S:aV):Str:=match S.aR.isSome,decide (S.pc=0)with |true,true=>"held stands" |true,false=>"held goes" |false,true=>"free stands" |false,false=>"free goes"
inductive Wd |place |state |hold |go |drop
def Wd.txt:Wd->Str | .place=>"place" | .state=>"state" | .hold=>"hold" | .go=>"go" | .drop=>"drop"
def V8(M:aZ)(S:aV):Wd->Str | .place=>fP (dh S) | .state=>kL S |_=>""
def Wd.Ok(K:aa)(C cM:Addr)(a q:Addr)(M:aZ)(S:aV)(H:Hp)(Q:VK)(E:XK):Wd->Prop | .hold=>∀H',bX K C H' a q M (jx M S)->bP [a] H H'->Q (.str (numS (gr M.f S.pc))) H' | .go=>∀H',bX K C H' a q M {S with aR:=none}->bP [a] H H'->Q (.str (numS (S.ds.length:Nat))) H' | .drop=>(¬Halt S.pc S.aR->∀H',aF H H'->E (.ref cM) none H')/\(Halt S.pc S.aR->∀q' H',bX K C H' a q' M (lZ S)->H q'=none->bP [a] H H'->Q (.str (numS (S.ds.length:Nat))) H') |w=>∀H',aF H H'->Q (.str (V8 M S w)) H'
inductive abB(K:aa)(C:Addr)(cM:Addr)(w:Wd)(vs:List V)(H:Hp)(Q:VK)(E:XK):Prop |mk (a:_)(q:_)(M:_)(D:_)(S:_)(h0:vs=[.ref a])(h1:bX K C H a q M S)(h2:RG M D S)(h3:w.Ok K C cM a q M S H Q E)
def oU(K:aa)(C cM:Addr)(w:Wd):Sp:=λvs H Q E=>abB K C cM w vs H Q E
theorem Pl:bp ["runner"] ["runner"] (aY Gr):=bE aH
theorem a2j{C cM:Addr}(F:FA K mg "answer_hold" Gr)(B:bK mg)(TC:fc K C)(a6X:cS P w K mg aw C "hold" 2 (N7 K C)):aG P w K mg aw "answer_hold" 3 (oU K C cM .hold):=by
 erw[F.has Pl (λvs H Q E h=>?_) (λ_ _ _ _ _ _=>dw λ_=>rfl) (λf aI A outer s H vs Q E hr h=>?_)]
 ·let(a,q,M,D,S,rfl,_):=h
  rfl
 ·let(a,q,M,D,S,rfl,R,g,k):=h
  let(dx,mv,bv,cv,tv,e,r1,r2,r3,r4):=R.ob;have nd:=Pl.nd;erw[_,(aJ (aW (cI (x:="str") gJ Z (B.at "str") gp (ao (iI a6X TC.cl (hr.mono ay) (pv 0)) az)))),?_];erw[_,Z,a,dx,_,Z,e,Z,a,q,M,D,S,Z,R,g.ok,g.aM,λH' R' b'=>.inl #[_,Z,gF g.MC,k H' R' b']]
theorem Bf:bp ["runner"] ["runner"] (aY Bi):=bE aH
theorem a2l{C cM:Addr}(F:FA K mg "answer_go" Bi)(B:bK mg)(TC:fc K C)(a6Y:cS P w K mg aw C "go" 1 (AZ K C)):aG P w K mg aw "answer_go" 2 (oU K C cM .go):=by
 erw[F.has Bf (λvs H Q E h=>?_) (λ_ _ _ _ _ _=>dw λ_=>rfl) (λf aI A outer s H vs Q E hr h=>?_)]
 ·let(a,q,M,D,S,rfl,_):=h
  rfl
 ·let(a,q,M,D,S,rfl,R,g,k):=h
  let(dx,mv,bv,cv,tv,e,r1,r2,r3,r4):=R.ob;have nd:=Bf.nd;erw[_,(aJ (aW (cI (x:="str") gJ Z (B.at "str") gp (ao (iI a6Y TC.cl (hr.mono ay) (pv 0)) az)))),?_];erw[_,Z,a,dx,_,Z,e,Z,a,q,M,D,S,Z,R,g.ok,λH' R' b'=>.inl #[_,Z,gF g.len,k H' R' b']]
theorem Pm:bp ["runner"] ["runner"] (aY Gs):=bE aH
theorem a2m{C cM:Addr}(F:FA K mg "answer_drop" Gs)(B:bK mg)(TC:fc K C)(a71:hJ P w K mg aw C "drop" 5 (Na K C cM)):rY P w K mg aw "answer_drop" 6 (oU K C cM .drop):=by
 erw[F.rn Pm (λvs H Q E h=>?_) (λ_ _ _ _ _ _=>dw λ_=>rfl) (λf aI A outer s H vs Q E hr h=>?_)]
 ·let(a,q,M,D,S,rfl,_):=h
  rfl
 ·let(a,q,M,D,S,rfl,R,g,k):=h
  let(dx,mv,bv,cv,tv,e,r1,r2,r3,r4):=R.ob;have nd:=Pm.nd;erw[_,(aJ (aW (cI (x:="str") gJ Z (B.at "str") gp (ao (a05 a71 (tQ λ_ _ _ z=>z) TC.cl (hr.mono ay) (pv 0)) az)))),?_];erw[_,Z,a,dx,_,Z,e,Z,a,q,M,D,S,Z,R,g.ok,g.aM,k.1,λhH q' H' R' nq b'=>.inl #[_,Z,gF g.len,k.2 hH q' H' R' nq b']]
theorem Pk:bp ["runner"] ["runner"] (aY Gq):=bE aH
theorem a2i{C cM:Addr}(F:FA K mg "answer_place" Gq)(B:bK mg)(TC:fc K C)(yX:aG P w K mg aw "show_numbers" 1 (B6 K))(JA:cS P w K mg aw C "place" 3 (gR K C λ_ S H Q=>∀v H',RD K H' v (eR (dh S))->aF H H'->Q v H')):aG P w K mg aw "answer_place" 4 (oU K C cM .place):=by
 erw[F.has Pk (λvs H Q E h=>?_) (λ_ _ _ _ _ _=>dw λ_=>rfl) (λf aI A outer s H vs Q E hr h=>?_)]
 ·let(a,q,M,D,S,rfl,_):=h
  rfl
 ·let(a,q,M,D,S,rfl,R,g,k):=h
  let(dx,mv,bv,cv,tv,e,r1,r2,r3,r4):=R.ob;have nd:=Pk.nd;have lr:=g.aM.n3;have lp:=Bt g.ok;erw[_,(aJ (aW (pf yX hr (ao (iI JA TC.cl (hr.mono ay) (pv 0)) az)))),?_];erw[_,Z,a,dx,_,Z,e,Z,a,q,M,D,S,Z,R,g.ok,g.aM,λv H1 rv s1=>#[v,dh S,Z,rv,au,g.place,λH2 s2=>k _ (s1.trans s2)]]
theorem Pg:bp ["runner","held"] ["runner"] (aY Gm):=bE aH
theorem a2f{C cM:Addr}(F:FA K mg "answer_state" Gm)(B:bK mg)(TC:fc K C)(uw:cS P w K mg aw C "is_held" 1 (gR K C λ_ S H Q=>Q (.bl S.aR.isSome) H))(zp:cS P w K mg aw C "stands" 1 (gR K C λ_ S H Q=>Q (.bl (decide (S.pc=0))) H)):aG P w K mg aw "answer_state" 2 (oU K C cM .state):=by
 erw[F.has Pg (λvs H Q E h=>?_) (λ_ _ _ _ _ _=>dw λ_=>rfl) (λf aI A outer s H vs Q E hr h=>?_)]
 ·let(a,q,M,D,S,rfl,_):=h
  rfl
 ·let(a,q,M,D,S,rfl,R,g,k):=h
  let(dx,mv,bv,cv,tv,e,r1,r2,r3,r4):=R.ob;have nd:=Pg.nd;have iP:sizeLine=16777216:=by decide
  erw[_,(aD (pS 1 nd (my (cO (iI uw TC.cl (hr.mono ay) (pv 0))) bf bf)) (aJ (aW (my (cO (iI zp TC.cl (hr.mono ay) (pv 0))) (vV (gD (kP (pv 1)) (gD bf vT))) (vV (gD (kP (pv 1)) (gD bf vT))))))),?_];have k2:Q (.str (kL S)) H:=k H (aF.refl _);unfold kL at k2;erw[_,Z,a,dx,_,Z,e,Z,a,q,M,D,S,Z,R,g.ok,g.aM,_,Z,?_];cases h1:S.aR.isSome with
  |false=>erw[bh ?_];erw[_,Z,a,dx,_,Z,e,Z,a,q,M,D,S,Z,R,g.ok,g.aM,_,Z,?_];cases h2:decide (S.pc=0)with |false=>rw[h1,h2]at k2;erw[bh #[_,Z,.inr #["free",Z,aH,_,Z,aH,?_]]];erw[_,Z,aH,aH,?_];rw[show Str.empty++Str.ofString "free"++Str.ofString " goes"=Str.ofString "free goes" by decide+kernel];erw[k2] |true=>rw[h1,h2]at k2;erw[bF #[_,Z,.inr #["free",Z,aH,_,Z,aH,?_]]];erw[_,Z,aH,aH,?_];rw[show Str.empty++Str.ofString "free"++Str.ofString " stands"=Str.ofString "free stands" by decide+kernel];erw[k2]
  |true=>erw[bF ?_];erw[_,Z,a,dx,_,Z,e,Z,a,q,M,D,S,Z,R,g.ok,g.aM,_,Z,?_];cases h2:decide (S.pc=0)with |false=>rw[h1,h2]at k2;erw[bh #[_,Z,.inr #["held",Z,aH,_,Z,aH,?_]]];erw[_,Z,aH,aH,?_];rw[show Str.empty++Str.ofString "held"++Str.ofString " goes"=Str.ofString "held goes" by decide+kernel];erw[k2] |true=>rw[h1,h2]at k2;erw[bF #[_,Z,.inr #["held",Z,aH,_,Z,aH,?_]]];erw[_,Z,aH,aH,?_];rw[show Str.empty++Str.ofString "held"++Str.ofString " stands"=Str.ofString "held stands" by decide+kernel];erw[k2]
end
end _a
set_option maxHeartbeats 1000000
namespace _a
open PySem PySem.Spec PyProof.Rows _L _r _l _C _P _W
open _O (topR cornO mnO betR atO ownF leadF ownL OkI OkIs)
open _T (numS)
section
def qT:ag->Bool | .tuple ds=>(ds.length==2||ds.length==3)&&ds.all (cZ 1 100) |_=>false
def lM:ag->Bool | .tuple [r,a,b,c,t]=>qT r&&cZ 1 100 t&&[a,b,c].all (cZ 1 50) |_=>false
theorem a4S(n:Nat):C6 (.int n) [.int 2,.int 3]=(n==2||n==3):=by
 show((2:Int)==n||((3:Int)==n||false))=_;rw[Bool.or_false];congr 1
 ·rw[kb];simp;lia
 ·rw[kb];simp;lia
inductive acQ(f:ag->Bool)(K:aa)(vs:List V)(H:Hp)(Q:VK):Prop |mk (v:_)(d:_)(h0:vs=[v])(h1:RD K H v d)(h2:∀H',aF H H'->Q (.bl (f d)) H')
def yf(f:ag->Bool)(K:aa):Sp:=λvs H Q _=>acQ f K vs H Q
theorem Pj:bp ["thing"] ["thing"] (aY Gp):=bE aH
theorem a2h(F:FA K mg "are_rails" Gp)(B:bK mg)(g1:GT K mg "AXES" [.int 2,.int 3])(a6I:GV mg "LONGEST_RAIL" (.int 100))(iV:aG P w K mg aw "is_whole_within" 2 (mh K)):aG P w K mg aw "are_rails" 3 (yf qT K):=by
 erw[F.has Pj (λvs H Q E h=>?_) (λ_ _ _ _ _ _=>dw λ_=>rfl) (λf aI A outer s H vs Q E hr h=>?_)]
 ·let(v,d,rfl,_):=h
  rfl
 ·let(v,d,rfl,rd,k):=h
  have nd:=Pj.nd;let(aX,a6Q,XT):=g1;erw[_,(aD (bL (PW.pt (iU (dj (cO (nR K B (ao (pv 0) (ao (nQ (x:="tuple") (v:=.ty "tuple") Z (B.at "tuple") j6 rfl) az))))) (jt (bU (a2P K rfl) (dS K B (ao (pv 0) az)) (fX (x:="AXES") rfl a6Q) (by with_unfolding_all rfl))))) (aJ (aW ju)) bO) (aJ (aW (fK (x:="all") (xh K Z Z) Z (B.at "all") Ad (ao (fi (N:=["rail"]) (js:=[none]) rfl rfl rfl (ko K rfl (pv 0)) (λ_ _ _ _ _=>(bj 0 (jb _))) (λ_ _ _ _ _=>dJ) (λ_ _ _ _ _=>(pf iV hr (ao (pv 0) (ao aB (ao (fX (x:="LONGEST_RAIL") rfl a6I) az)))))) az))))),?_];rcases xU d with⟨ds,rfl⟩|⟨ht,hn⟩
  ·erw[_,Z,.inl #[_,_,"tuple",true,Z,rd.ty,ay,qv,_,Z,bh ?_]]
   let(p,xs,rfl,hx,hd):=rd.cT;have hl:=hd.length;erw[_,Z,p,_,Z,.inr hx,aX,_,Z,.inr (XT H),Z,Z,_,Z,?_];have k:∀H',aF H H'->Q (.bl ((ds.length==2||ds.length==3)&&ds.all (cZ 1 100))) H':=k;show if(!C6 (.int xs.length) [.int 2,.int 3])=true then _ else _;rw[a4S,hl];cases Kc:(ds.length==2||ds.length==3)with |false=>rw[Kc,jm]at k;erw[bF (k H (aF.refl _))] |true=>
    rw[Kc,jl]at k;erw[bh ?_];have l3:ds.length<=3:=by rw[Bool.or_eq_true,fV,fV]at Kc;lia
    erw[_,Z,p,Z,#[_,hx],λD H0 nw=>?_];erw[Dj (xs:=xs) (bs:=ds.map (cZ 1 100)) [] hx nw (by rw[bW,hl]) au ?_ ?_]
    ·intro i x b H2 Q' ex eb s2 hq
     let(d,ed,rfl):=BR eb;let(x',gz,rx):=hd.get i ed;rw[ex]at gz;cases gz;erw[_,Z,_,d,1,100,Z,RD.mono s2 _ rx,hq _ (aF.refl _)]
    ·intro H2 s2 d2
     erw[D,_,Z,aE.of d2,?_];rw[all_map];erw[k H2 s2]
  ·have e:qT d=false:=by cases d<;>first|rfl|erw[absurd rfl (hn _)]
   rw[e]at k;erw[_,Z,.inl #[_,_,"tuple",false,Z,rd.ty,ay,ht,_,Z,bF ?_]];erw[k H (aF.refl _)]
theorem a3y(d:ag):(∃r a b c t,d= .tuple [r,a,b,c,t])\/(∃ds,d= .tuple ds/\ds.length≠5/\lM d=false)\/(jK (m9 d) "tuple"=false/\lM d=false):=by
 rcases xU d with⟨ds,rfl⟩|⟨ht,hn⟩
 ·match ds with |[r,a,b,c,t]=>erw[.inl #[r,a,b,c,t,Z]] |[]=>erw[.inr (.inl #[_,Z,by simp,by simp[lM]])] |[_]=>erw[.inr (.inl #[_,Z,by simp,by simp[lM]])] |[_,_]=>erw[.inr (.inl #[_,Z,by simp,by simp[lM]])] |[_,_,_]=>erw[.inr (.inl #[_,Z,by simp,by simp[lM]])] |[_,_,_,_]=>erw[.inr (.inl #[_,Z,by simp,by simp[lM]])] |_::_::_::_::_::_::_=>erw[.inr (.inl #[_,Z,by simp,by simp[lM]])]
 ·erw[.inr (.inr #[ht,by cases d<;>first|rfl|erw[absurd rfl (hn _)]])]
theorem OX:bp ["thing","rails","rise","fall","jump","ticks"] ["thing"] (aY G4):=bE aH
theorem a1Z(F:FA K mg "is_machine" G4)(B:bK mg)(a6F:GV mg "MOST_TICKS" (.int 100))(a6N:GV mg "GREATEST_CHANGE" (.int 50))(iV:aG P w K mg aw "is_whole_within" 2 (mh K))(a6y:aG P w K mg aw "are_rails" 3 (yf qT K)):aG P w K mg aw "is_machine" 4 (yf lM K):=by
 erw[F.has OX (λvs H Q E h=>?_) (λ_ _ _ _ _ _=>dw λ_=>rfl) (λf aI A outer s H vs Q E hr h=>?_)]
 ·let(v,d,rfl,_):=h
  rfl
 ·let(v,d,rfl,rd,k):=h
  have nd:=OX.nd;erw[_,(aD (bL (PW.pt (iU (dj (cO (nR K B (ao (pv 0) (ao (nQ (x:="tuple") (v:=.ty "tuple") Z (B.at "tuple") j6 rfl) az))))) (jt (bU (mC K rfl hr.units) (dS K B (ao (pv 0) az)) aB (bB _))))) (aJ (aW ju)) bO) (aD (fh (pv 0) (eB K Z (n:=5) Z (bS (bj 1 nd) (bS (bj 2 nd) (bS (bj 3 nd) (bS (bj 4 nd) (bS (bj 5 nd) ek))))))) (aD (bL (PW.pt (iU (dj (cO (pf a6y hr (ao (pv 1) az)))) (jt (dj (cO (pf iV hr (ao (pv 5) (ao aB (ao (fX (x:="MOST_TICKS") Z a6F) az))))))))) (aJ (aW ju)) bO) (aJ (aW (fK (x:="all") (xh K Z Z) Z (B.at "all") Ad (ao (fi (N:=["change"]) (js:=[none]) rfl rfl rfl (ko K rfl (iH (ao (pv 2) (ao (pv 3) (ao (pv 4) az))))) (λ_ _ _ _ _=>(bj 0 (jb _))) (λ_ _ _ _ _=>dJ) (λ_ _ _ _ _=>(pf iV hr (ao (pv 0) (ao aB (ao (fX (x:="GREATEST_CHANGE") rfl a6N) az)))))) az))))))),?_];rcases a3y d with⟨r,a,b,c,t,rfl⟩|⟨ds,rfl,hl,hf⟩|⟨ht,hf⟩
  ·erw[_,Z,.inl #[_,_,"tuple",true,Z,rd.ty,ay,qv,_,Z,bh ?_]]
   let(p,xs,rfl,hx,hd):=rd.cT;let(u1,ys,rfl,r1,hd):=hd.cons_inv;let(u2,ys,rfl,r2,hd):=hd.cons_inv;let(u3,ys,rfl,r3,hd):=hd.cons_inv;let(u4,ys,rfl,r4,hd):=hd.cons_inv;let(u5,ys,rfl,r5,hd):=hd.cons_inv;cases hd.nil_inv;have k:∀H',aF H H'->Q (.bl (qT r&&cZ 1 100 t&&[a,b,c].all (cZ 1 50))) H':=k;erw[_,Z,p,_,Z,.inr hx,.inl #[_,_,Z,Z,_,Z,bh ?_]];erw[_,Z,p,_,Z,hx,Z,_,_,Z,_,_,Z,_,_,Z,_,_,Z,_,_,Z,Z,?_];erw[_,Z,_,r,Z,r1,λH1 s1=>#[_,Z,?_]];cases e1:qT r with |false=>rw[e1,jm,jm]at k;erw[bF (k H1 s1)] |true=>rw[e1,jl]at k;erw[bh ?_];erw[_,Z,_,t,1,100,Z,RD.mono s1 _ r5,_,Z,?_];cases e2:cZ 1 100 t with |false=>rw[e2,jm]at k;erw[bF (k H1 s1)] |true=>
    rw[e2,jl]at k;erw[bh ?_];erw[_,Z,_,Z,_,Z,df Z,λq H2 nq=>?_];have s2:=s1.trans nq.same;erw[q,Z,#[_,bc.of nq.at'],λD H0 nw=>?_];have hd3:aP K H2 [u2,u3,u4] [a,b,c]:=cN (RD.mono s2 _ r2) (cN (RD.mono s2 _ r3) (cN (RD.mono s2 _ r4) dI));erw[Dj (xs:=[u2,u3,u4]) (bs:=[a,b,c].map (cZ 1 50)) [] (bc.of nq.at') nw Z (LJ Z) ?_ ?_]
    ·intro i x b' H3 Q' ex eb s3 hq
     let(d,ed,rfl):=BR eb;let(x',gz,rx):=hd3.get i ed;rw[ex]at gz;cases gz;erw[_,Z,_,d,1,50,Z,RD.mono s3 _ rx,hq _ (aF.refl _)]
    ·intro H3 s3 d3
     erw[D,_,Z,aE.of d3,?_];rw[all_map];erw[k H3 (s2.trans s3)]
  ·rw[hf]at k
   erw[_,Z,.inl #[_,_,"tuple",true,Z,rd.ty,ay,qv,_,Z,bh ?_]];let(p,xs,rfl,hx,hd):=rd.cT;erw[_,Z,p,_,Z,.inr hx,.inl #[_,_,Z,Z,_,Z,?_]];have e:(!decide ((xs.length:Int)=5))=true:=by rw[hd.length];simp;lia
   rw[e];erw[bF (k H (aF.refl _))]
  ·rw[hf]at k
   erw[_,Z,.inl #[_,_,"tuple",false,Z,rd.ty,ay,ht,_,Z,bF ?_]];erw[k H (aF.refl _)]
end
end _a
namespace _a
open PySem PySem.Spec PyProof.Rows _L _r _l _C _P _W _R
open _O (topR cornO mnO betR atO ownF leadF ownL OkI OkIs)
section
inductive ac6(K:aa)(C:Addr)(R:iQ)(vs:List V)(H:Hp)(Q:VK)(E:XK):Prop |mk (a:_)(q:_)(M:_)(D:_)(S:_)(v:_)(d:_)(o:_)(h0:vs=[.ref a,v])(h1:bX K C H a q M S)(h2:cC M D S)(h3:M.Ok)(h4:RD K H v d)(h5:kZ M.rs.length d o)(h6:fF M.rs (gK (fm S) o))(h7:(S.ds.length=20->∀H',aF H H'->E (.ref R.f) none H'))(h8:(S.ds.length<20->∀H',bX K C H' a q M (ng S d o)->bP [a,q] H H'->Q (.int (S.ds.length+1:Nat)) H'))
def En(K:aa)(C:Addr)(R:iQ):Sp:=λvs H Q E=>ac6 K C R vs H Q E
theorem a1p{C:Addr}{R:iQ}(F:MA K C "feed" "Runner.feed" Ft)(TC:fc K C)(B:bK mg)(a7j:Exc K mg "Full" R.f jD kQ)(a6E:GV mg "MOST_WAITING" (.int 20))(Jp:aG P w K mg aw "is_item" 4 (B9 K))(zi:aG P w K mg aw "is_place" 3 (ye K))(z9:aG P w K mg aw "place_behind" 2 (yg K))(JB:cS P w K mg aw C "leads_to" 3 (gR K C λ_ S H Q=>∀v H',RD K H' v (eR (fm S))->aF H H'->Q v H')):hJ P w K mg aw C "feed" 5 (En K C R):=by
 erw[F.rn Oi (λvs H Q E h=>?_) (λ_ _ _ _ _ _=>dF λ_ _=>rfl) (λf aI A outer s H vs Q E hr h=>?_)]
 ·let(a,q,M,D,S,v,d,o,rfl,_):=h
  rfl
 ·let(a,q,M,D,S,v,d,o,rfl,Ra,ok,aM,rd,it,gu,kf,kd):=h
  let(i1,i2,i3):=it.is;let(dx,mv,bv,cv,tv,e,r1,r2,r3,r4):=Ra.ob;let(ys,eq,rq):=Ra.qu;have nd:=Oi.nd;have lr:=aM.len;have ly:=rq.length;erw[_,(aD (bL (dj (cO (pf Jp hr (ao (cH TC.cl TC.lI (pv 0)) (ao (pv 1) az))))) (aJ vR) bO) (aD (bL (dj (cO (pf zi hr (ao (cH TC.cl TC.lI (pv 0)) (ao (pf z9 hr (ao (iI JB TC.cl (hr.mono ay) (pv 0)) (ao (pv 1) az))) az))))) (aJ vR) bO) (aD (bL (bU BB (dS K B (ao (cH TC.cl TC.jc (pv 0)) az)) (fX (x:="MOST_WAITING") rfl a6E) (bB _)) (aJ (Br (λ_ _ _ _ _ _ _ I m q=>Ay I m q) a7j LD hr.hd Z (ao bf az))) bO) (aD (mr (tP K Z (cH TC.cl TC.jc (pv 0)) (ao (pv 1) az))) (aJ (aW (dS K B (ao (cH TC.cl TC.jc (pv 0)) az)))))))),?_];erw[_,Z,a,dx,_,_,Z,e,Z,_,Z,mv,v,M.rs,_,d,Z,r1,rd,au,i2,i3,λH1 s1=>#[_,Z,?_]];rw[i1];erw[bh ?_];have e1:=s1 _ _ e;have R1:=Ra.same ok.row.no s1;erw[_,Z,a,dx,_,_,Z,e1,Z,?_];erw[_,Z,a,dx,_,Z,e1,Z,a,q,M,D,S,Z,R1,ok,aM,λg H2 rg s2=>?_];have jr:=s1.trans s2;have gl:(fm S).length=M.rs.length:=wV _ _ ok.pl ok.nU;have bl:(gK (fm S) o).length=M.rs.length:=KI gl λns sp eo=>(it.ln ns sp eo).1.len;erw[_,Z,g,v,fm S,d,o,Z,rg,RD.mono jr _ rd,it.it,λns sp e'=>by rw[gl];exact(it.ln ns sp e').1.len,au,λu H3 ru s3=>?_];have jq:=jr.trans s3;erw[mv,u,M.rs,_,_,Z,RD.mono jq _ r1,ru,au,λH4 s4=>#[_,Z,?_]];rw[HE gu];erw[bh ?_];have jO:=jq.trans s4;have e4:=jO _ _ e;have eq4:=jO _ _ eq;erw[_,Z,a,dx,_,_,Z,e4,Z,q,_,Z,.inl (aE.of eq4),_,_,Z,Z,_,Z,?_];by_cases zv:S.ds.length=20
  ·rw[show decide ((ys.length:Int)>=20)=true from bM au]
   erw[bF #[df Z,kf zv _ jO]]
  have IL:=ok.len;rw[show decide ((ys.length:Int)>=20)=false from cD au];erw[bh ?_];have iP:sizeLine=16777216:=by decide
  erw[_,Z,a,dx,_,_,Z,e4,Z,.inl #[Z,_,aE.of eq4],_,Z,q,ys,_,Z,Z,eq4,au,?_];have aq:=Ra.ne;have tu:cw H4 (_L.upd H4 q (.lst (ys++[v]))):=.upd eq4 trivial;have e5:(_L.upd H4 q (.lst (ys++[v]))) a=some (.ins C dx (fw mv bv (.int S.dn) (.ref q) cv (.int S.aA) (.str S.side) (.str S.mark) tv)):=by rw[aU aq];erw[e4]
  erw[_,Z,a,dx,_,_,Z,e5,Z,q,_,Z,.inl (aE.of bQ),?_];have sv:cw H (_L.upd H4 q (.lst (ys++[v]))):=jO.v.trans tu;have el:((ys++[v]).length:Int)=((S.ds.length+1:Nat):Int):=by rw[fH,ly];rfl
  rw[el];erw[kd au _ #[#[dx,mv,bv,cv,tv,e5,RD.v sv _ (gw _ _ _ _ _) r1,RD.v sv _ (jP _) r2,r3.v sv,r4.v sv],_,bQ,?_] λb o' eb hb=>?_]
  ·exact(aP.v sv _ ok.row.no rq).append (cN (RD.v sv _ it.it.no rd) dI)
  ·have uu:b≠q:=λz=>hb (by rw[z];simp)
   rw[aU uu];erw[jO _ _ eb]
end
end _a
set_option maxHeartbeats 2000000
namespace _a
open PySem PySem.Spec PyProof.Rows _L _r _l _C _P _W _R
open _O (topR cornO mnO betR atO ownF leadF ownL OkI OkIs)
open _T (numS numIn? Free)
section
def jG(K:aa)(D:Addr)(H:Hp)(a r:Addr)(M:aZ):Prop:=∃dx mv,H a=some (.ins D dx [("machine",mv),("runner",.ref r)])/\RD K H mv M.D
theorem a3w{rs:List Int}{r f j t:Int}(h:qc rs r f j t):lM (jw rs r f j t)=true:=by
 show(qT (.tuple (rs.map PyData.int))&&cZ 1 100 (.int t)&&[PyData.int r,.int f,.int j].all (cZ 1 50))=true;have h1:qT (.tuple (rs.map PyData.int))=true:=by show(((rs.map PyData.int).length==2||(rs.map PyData.int).length==3)&&(rs.map PyData.int).all (cZ 1 100))=true;rw[bW,eX,Bool.or_eq_true,fV,fV];erw[h.len,gP.mpr λd hd=>?_];let(z,hz,rfl):=dB.mp hd;have:=h.rl z hz;show(decide (1<=z)&&decide (z<=100))=true;rw[bM this.1,bM this.2];rfl
 have q:∀{lo hi z:Int},lo<=z/\z<=hi->cZ lo hi (.int z)=true:=λ{lo hi z} h=>by show(decide (lo<=z)&&decide (z<=hi))=true;rw[bM h.1,bM h.2];rfl
 rw[h1,q h.t1];show(cZ 1 50 (.int r)&&(cZ 1 50 (.int f)&&(cZ 1 50 (.int j)&&true)))=true;rw[q h.r1,q h.f1,q h.j1];rfl
theorem P8:bp ["self","machine","place"] ["self","machine","place"] (aY Gf):=bE aH
inductive acP(K:aa)(C:Addr)(D:Addr)(vs:List V)(H:Hp)(Q:VK):Prop |mk (a:_)(dx:_)(mv:_)(kn:_)(M:_)(pl:_)(h0:vs=[.ref a,mv,kn])(h1:H a=some (.ins D dx []))(h2:RD K H mv (aZ.D M))(h3:RD K H kn (eR pl))(h4:M.Ok)(h5:fF M.rs pl)(h6:∀r q H',jG K D H' a r M->bX K C H' r q M (nN pl)->H r=none->H q=none->bP [a] H H'->Q .bD H')
def Nx(K:aa)(C D:Addr):Sp:=λvs H Q _=>acP K C D vs H Q
theorem a29{C D:Addr}(F:CA K mg D "Desk" "Desk.__init__" Gf)(TC:lj K D)(a5T:aG P w K mg aw "is_machine" 4 (yf lM K))(zi:aG P w K mg aw "is_place" 3 (ye K))(a6S:xn P w K mg aw C "Runner" 1 (N6 K C)):xn P w K mg aw D "Desk" 5 (Nx K C D):=by
 erw[F.has P8 (λvs H Q E h=>?_) (λ_ _ _ _ _ _=>kX λ_ _ _=>rfl) (λf aI A outer s H vs Q E hr h=>?_)]
 ·let(a,dx,mv,kn,M,pl,rfl,_):=h
  rfl
 ·let(a,dx,mv,kn,M,pl,rfl,e,rm,rp,aM,gu,k):=h
  have nd:=P8.nd;have lr:=aM.len;erw[_,(aD (bL (dj (cO (pf a5T hr (ao (pv 1) az)))) qE bO) (aD (bL (dj (cO (pf zi hr (ao (pv 1) (ao (pv 2) az))))) qE bO) (aD (fW TC.cl TC.lI (pv 0) (pv 1)) (aJ (fW TC.cl TC.qP (pv 0) (Hq a6S (hr.mono ay) rfl (ao (pv 1) (ao (pv 2) az)))))))),?_];erw[_,Z,mv,_,Z,rm,λH1 s1=>#[_,Z,?_]];rw[a3w aM];erw[bh ?_];erw[_,Z,_,Z,mv,kn,M.rs,_,_,Z,RD.mono s1 _ rm,RD.mono s1 _ rp,au,λH2 s2=>#[_,Z,?_]];rw[HE gu];erw[bh ?_];have jr:=s1.trans s2;have e2:=jr _ _ e;erw[_,Z,_,Z,a,dx,_,Z,e2,ay,?_];have v2:cw H (_L.upd H2 a (.ins D dx [("machine",mv)])):=jr.v.trans (.upd e2 trivial);erw[_,Z,_,Z,λr rx lP J8 ne=>?_];have ar:a≠r:=λz=>by rw[<-z,bQ]at lP;cases lP
  have V9:a≠rx:=λz=>by rw[<-z,bQ]at J8;cases J8
  have s3:aF (_L.upd H2 a (.ins D dx [("machine",mv)])) (_L.upd (_L.upd (_L.upd H2 a (.ins D dx [("machine",mv)])) rx (.own r)) r (.ins C rx [])):=(aF.new J8).trans (aF.new (by rw[aU ne.symm];erw[lP]));have v3:=v2.trans s3.v;erw[r,rx,mv,kn,M,pl,Z,bQ,RD.v v3 _ (gw _ _ _ _ _) rm,RD.v v3 _ (jP _) rp,λq H3 R3 nq bt=>#[Z,?_]];have nr:H r=none:=by cases e':H r with |none=>rfl |some o=>rw[aU ar.symm,jr _ _ e']at lP;cases lP
  have QH:q≠a:=λz=>by rw[z,aU ar,aU V9,bQ]at nq;cases nq
  have nqH:H q=none:=by cases e':H q with |none=>rfl |some o=>
   have h1:(_L.upd H2 a (.ins D dx [("machine",mv)])) q=some o:=by rw[aU QH];erw[jr _ _ e']
   cases(s3 _ _ h1).symm.trans nq
  have e3:=bt a _ (by rw[aU ar,aU V9];erw[bQ]) (λz=>ar (cE.mp z));erw[_,Z,a,dx,_,Z,e3,by show 1<1000;decide,?_];have v4:cw H3 (_L.upd H3 a (.ins D dx [("machine",mv),("runner",.ref r)])):=.upd e3 trivial;have bH:bP [a] H (_L.upd H3 a (.ins D dx [("machine",mv),("runner",.ref r)])):=λb o eb hb=>by
   have ha:b≠a:=λz=>hb (by rw[z];erw[.head _]);have hbr:b≠r:=λz=>by rw[z,nr]at eb;cases eb
   rw[aU ha];erw[bt b o (s3 _ _ (by rw[aU ha];erw[jr _ _ eb])) (λz=>hbr (cE.mp z))]
  have vH:=bH.v λx hx o eo=>by rw[cE]at hx;rw[hx,e]at eo;cases eo;trivial
  erw[k r q _ #[dx,mv,bQ,RD.v vH _ (gw _ _ _ _ _) rm] ?_ nr nqH bH];erw[R3.go Z v4 (λo eo=>by rw[aU ar.symm];erw[eo]) (λo eo=>by rw[aU QH];erw[eo])]
inductive acg(K:aa)(vs:List V)(H:Hp)(Q:VK):Prop |mk (l:Addr)(z:Str)(h0:vs=[.ref l])(h1:aE K H l [.str z])(h2:z.length<=640)(h3:∀H',aF H H'->Q (oV (numIn? z)) H')
def Ep(K:aa):Sp:=λvs H Q _=>acg K vs H Q
theorem Ox:bp ["words"] ["words"] (aY FE):=bE aH
theorem a1B(F:FA K mg "only_number" FE)(B:bK mg)(zd:aG P w K mg aw "number_in" 1 yc):aG P w K mg aw "only_number" 2 (Ep K):=by
 erw[F.has Ox (λvs H Q E h=>?_) (λ_ _ _ _ _ _=>dw λ_=>rfl) (λf aI A outer s H vs Q E hr h=>?_)]
 ·let(l,z,rfl,_):=h
  rfl
 ·let(l,z,rfl,hl,zl,k):=h
  have nd:=Ox.nd;erw[_,(aJ (aW (my (bU (dW K Z hr.units) (dS K B (ao (pv 0) az)) aB (bB _)) (pf zd hr (ao (px K (pv 0) aB) az)) gT))),?_];erw[_,Z,l,_,Z,.inl hl,.inl #[_,_,Z,Z,_,Z,bF ?_]];erw[_,Z,.inl #[l,_,0,.str z,Z,Z,hl,Z,z,Z,zl,k]]
theorem Mv.same{a q q':Addr}{H H' H2:Hp}(m:Mv a q H q' H')(s:aF H' H2):Mv a q H q' H2:=#[λb o e hb=>s _ _ (m.but b o e hb),m.nq]
theorem Mv.ahead{a q q':Addr}{H H' H2:Hp}(s:aF H H')(m:Mv a q H' q' H2):Mv a q H q' H2:=#[λb o e hb=>m.but b o (s _ _ e) hb,m.nq.imp id λe=>by cases h:H q' with |none=>rfl |some o=>rw[s _ _ h]at e;cases e]
theorem K9{d:ag}(h:Dw d):(iu d).length<=2000:=by
 rcases h with⟨ti,hn⟩|⟨ns,t,a,b,rfl,hl,hn,ht,ha,hb⟩
 ·rw[CS ti hn]
  have:=IU ti
  lia
 ·rw[CQ]
  have Cz:=tV hn hl;have wR:=qI ht;have T8:=CF ha hb;have zx:=fu;have h5:Str.length "step "=5:=by decide+kernel
  simp only[dC]
  lia
def nj(es:List ag):Str:=BJ (Txt.join "\n" (es.map iu))
theorem QE{n:Int}(h:Nm n):oV (numIn? (numS n))=V.int n:=by rw[_T.yH (by have:=fY h;lia)];rfl
def Vi(K:aa)(C r q:Addr)(M:aZ)(S:aV)(n:Int)(H:Hp)(Q:VK):Prop:=∀es S' q' H',Run M S es S'->(es.length:Int)<=n->((es.length:Int)=n\/S'.os=[]\/Halt S'.pc S'.aR)->bX K C H' r q' M S'->Mv r q H q' H'->Q (.str (nj es)) H'
theorem O2:bp ["self","words","number"] ["self","words"] (aY EW):=bE aH
inductive abT(K:aa)(C:Addr)(D:Addr)(vs:List V)(H:Hp)(Q:VK):Prop |mk (a:_)(r:_)(q:_)(M:_)(D':_)(S:_)(l:_)(n:_)(h0:vs=[.ref a,.ref l])(h1:jG K D H a r M)(h2:bX K C H r q M S)(h3:RG M D' S)(h4:aE K H l [.str (numS n)])(h5:0<=n)(h6:n<=100)(h7:Vi K C r q M S n H Q)
def MZ(K:aa)(C D:Addr):Sp:=λvs H Q _=>abT K C D vs H Q
theorem a0V{C D:Addr}(F:MA K D "say_steps" "Desk.say_steps" EW)(TC:lj K D)(RC:fc K C)(B:bK mg)(a6G:GV mg "MOST_ENTRIES" (.int 100))(a6D:GV mg "NOTHING" (.str "none"))(Jc:aG P w K mg aw "only_number" 2 (Ep K))(iV:aG P w K mg aw "is_whole_within" 2 (mh K))(a5h:aG P w K mg aw "show_entry" 3 (Nt K))(a70:cS P w K mg aw C "entries" 12 (N9 K C)):cS P w K mg aw D "say_steps" 13 (MZ K C D):=by
 erw[F.has O2 (λvs H Q E h=>?_) (λ_ _ _ _ _ _=>dF λ_ _=>rfl) (λf0 aI A outer s H vs Q E hr h=>?_)]
 ·let(a,r,q,M,D',S,l,n,rfl,_):=h
  rfl
 ·let(a,r,q,M,D',S,l,n,rfl,(dx,mv,ea,rm),Ra,g,hl,n0,n1,k):=h
  have nd:=O2.nd;have nm:Nm n:=by show n.natAbs<10^40;lia
  erw[_,(aD (pS 2 nd (pf Jc hr (ao (pv 1) az))) (aD (bL (dj (cO (pf iV hr (ao (pv 2) (ao aB (ao (fX (x:="MOST_ENTRIES") Z a6G) az)))))) qE bO) (aJ (aW (a03 (vW K Z bf (ao (fi (N:=["entry"]) (js:=[none]) Z Z Z (nP K Z (kr a70 RC.cl (hr.mono ay) (cH TC.cl TC.qP (pv 0)) (ao (pv 2) az))) (λ_ _ _ _ _=>(bj 0 (jb _))) (λ_ _ _ _ _=>dJ) (λ_ _ _ _ _=>(pf a5h hr (ao (pv 0) az)))) az)) (mx (fX (x:="NOTHING") rfl a6D))))))),?_];erw[_,Z,l,_,Z,hl,by have:=fY nm;lia,λH1 s1=>?_];rw[QE nm];erw[_,Z,.int n,.int n,0,100,Z,fz _,_,Z,?_];rw[show cZ 0 100 (.int n)=true by show(decide (0<=n)&&decide (n<=100))=true;rw[bM n0,bM n1];rfl];erw[bh ?_];let(rx,oY,GW,GI,GG,er,_):=Ra.ob;erw[Z,?_];erw[_,Z,a,dx,_,_,Z,s1 _ _ ea,Z,r,rx,_,Z,s1 _ _ er,Z,_,Z,r,q,M,D',S,n,Z,Ra.same g.ok.row.no s1,g.ok,g.aM,n0,au,λle ys es S' q' H2 nl dl rd run he mU R2 Ik lq=>?_];have ly:=rd.length;have te:=run.xW g.ok g.aM g.hD;erw[le,Z,#[_,aE.of dl],λD2 H4 n4=>?_];erw[Di (K:=K) (ds:=(es.map iu).map PyData.str) _ (aE.of dl) n4 (by simp;erw[ly]) au (yK _) ?_ ?_]
  ·intro i x d H5 Q' ex ed s5 hq
   let(d',lY,rx):=rd.get' i ex;rw[cj,cj,lY]at ed;cases ed;erw[_,Z,x,d',Z,RD.mono s5 _ rx,te d' (gf lY),λH6 s6=>hq _ _ s6 (bT _)]
  ·intro H5 ws s5 d5 r5
   rw[sP r5]at d5;erw["\n",D2,es.map iu,Z,Z,aE.of d5,λz hz=>?_,aH,by rw[bW];lia,?_]
   ·let(d,hd,rfl):=dB.mp hz
    have:=K9 (te d hd)
    lia
   have hj:=C1 "\n" (B:=2000) (es.map iu) (λz hz=>by let(d,hd,rfl):=dB.mp hz;erw[K9 (te d hd)]);have n1:Str.length "\n"=1:=by decide+kernel
   rw[n1,bW]at hj;have pF:es.length*(2000+1)<=100*2001:=VM _ au;have k2:=k es S' q' H5 run he mU (R2.same (run.ok g.ok g.aM).row.no s5) (Mv.ahead s1 (Ik.same s5));unfold nj BJ at k2;erw[_,Z,au,?_];split
   ·next e0=>rw[bu e0]at k2;erw[k2]
   ·next e0=>rw[bo e0]at k2;erw[k2]
def Vk(K:aa)(C cR cM r q:Addr)(M:aZ)(S:aV)(n:Int)(H:Hp)(Q:VK)(E:XK):Prop:=(nO (.int n)=false->∀H',aF H H'->E (.ref cR) none H')/\(nO (.int n)=true->S.pc≠0->∀H',aF H H'->E (.ref cM) none H')/\(10<=n->n<=200->S.pc=0->∀H',bX K C H' r q M {S with aA:=n}->bP [r] H H'->Q (.str (numS n)) H')
theorem O3:bp ["self","words","number"] ["self","words"] (aY EY):=bE aH
inductive abU(K:aa)(C:Addr)(D:Addr)(cR:Addr)(cM:Addr)(vs:List V)(H:Hp)(Q:VK)(E:XK):Prop |mk (a:_)(r:_)(q:_)(M:_)(D':_)(S:_)(l:_)(n:_)(h0:vs=[.ref a,.ref l])(h1:jG K D H a r M)(h2:bX K C H r q M S)(h3:RG M D' S)(h4:aE K H l [.str (numS n)])(h5:Nm n)(h6:Vk K C cR cM r q M S n H Q E)
def N0(K:aa)(C D cR cM:Addr):Sp:=λvs H Q E=>abU K C D cR cM vs H Q E
theorem a0W{C D cR cM:Addr}(F:MA K D "say_rate" "Desk.say_rate" EY)(TC:lj K D)(RC:fc K C)(B:bK mg)(Jc:aG P w K mg aw "only_number" 2 (Ep K))(a6T:hJ P w K mg aw C "turn_rate" 5 (N3 K C cR cM)):hJ P w K mg aw D "say_rate" 6 (N0 K C D cR cM):=by
 erw[F.rn O3 (λvs H Q E h=>?_) (λ_ _ _ _ _ _=>dF λ_ _=>rfl) (λf0 aI A outer s H vs Q E hr h=>?_)]
 ·let(a,r,q,M,D',S,l,n,rfl,_):=h
  rfl
 ·let(a,r,q,M,D',S,l,n,rfl,(dx,mv,ea,rm),Ra,g,hl,nm,k1,k2,k3):=h
  have nd:=O3.nd;erw[_,(aD (pS 2 nd (pf Jc hr (ao (pv 1) az))) (aD (bL (bU BA (pv 2) gT (bB _)) qE bO) (aJ (aW (cI (x:="str") gJ Z (B.at "str") gp (ao (yA a6T (tQ λ_ _ _ z=>z) RC.cl (hr.mono ay) (cH TC.cl TC.qP (pv 0)) (ao (pv 2) az)) az)))))),?_];erw[_,Z,l,_,Z,hl,by have:=fY nm;lia,λH1 s1=>?_];rw[QE nm];erw[_,Z,Z,_,Z,bh ?_];let(rx,oY,GW,GI,GG,er,_):=Ra.ob;erw[_,Z,a,dx,_,_,Z,s1 _ _ ea,Z,r,rx,_,Z,s1 _ _ er,Z,_,Z,r,q,M,D',S,.int n,.int n,Z,Ra.same g.ok.row.no s1,g.ok,g.aM,fz _,λh H' s'=>k1 h H' (s1.trans s'),λh hp H' s'=>k2 h hp H' (s1.trans s'),λaA e h1 h2 hp H' R' b'=>?_];cases e;erw[.inl #[n,Z,gF nm,k3 h1 h2 hp H' R' λb o eb hb=>b' b o (s1 _ _ eb) hb]]
def oP(a b:List Int):List Int:=(a.zip b).map λp=>p.1-p.2
def uV(K:aa)(C:Addr)(R:iQ)(a q:Addr)(M:aZ)(S:aV)(d:ag)(o:Itm)(H:Hp)(Q:VK)(E:XK):Prop:=kZ M.rs.length d o/\fF M.rs (gK (fm S) o)/\(S.ds.length=20->∀H',aF H H'->E (.ref R.f) none H')/\(S.ds.length<20->∀H',bX K C H' a q M (ng S d o)->bP [a,q] H H'->Q (.str (numS (S.ds.length+1:Nat))) H')
theorem uV.go{C:Addr}{R:iQ}{a q:Addr}{M:aZ}{S:aV}{d:ag}{o:Itm}{H H1:Hp}{Q:VK}{E:XK}(h:uV K C R a q M S d o H Q E)(s:aF H H1):uV K C R a q M S d o H1 Q E:=by let(h1,h2,h3,h4):=h;erw[h1,h2,λa2 H' s'=>h3 a2 H' (s.trans s'),λa2 H' R' b'=>h4 a2 H' R' λb o' eb hb=>b' b o' (s b o' eb) hb]
theorem QF{n:Nat}(h:n<=20):((n+1:Nat):Int).natAbs.log2<1920:=gF (show((n+1:Nat):Int).natAbs<10^40 by omega)
def toS(ns:List Int)(sp:Int):Str:=Txt.join " " ("to"::(ns.map numS++[numS sp]))
theorem a2y{ns:List Int}(h:∀n∈ns,Nm n):(ns.map numS).map (λz=>oV (numIn? z))=ns.map V.int:=by rw[DN];erw[List.map_congr_left λn hn=>?_];show oV (numIn? (numS n))=_;rw[_T.yH (by have:=fY (h n hn);lia)];rfl
theorem O0:bp ["self","words","numbers","place","steps"] ["self","words"] (aY EU):=bE aH
inductive abR(K:aa)(C:Addr)(D:Addr)(R:iQ)(vs:List V)(H:Hp)(Q:VK)(E:XK):Prop |mk (a:_)(r:_)(q:_)(M:_)(D':_)(S:_)(l:_)(ns:_)(sp:_)(h0:vs=[.ref a,.ref l])(h1:jG K D H a r M)(h2:bX K C H r q M S)(h3:cC M D' S)(h4:M.Ok)(h5:aE K H l ((ns.map numS++[numS sp]).map V.str))(h6:fF M.rs ns)(h7:1<=sp)(h8:sp<=20)(h9:∃o,uV K C R r q M S (du (oP ns (fm S)) sp) o H Q E)
def MY(K:aa)(C D:Addr)(R:iQ):Sp:=λvs H Q E=>abR K C D R vs H Q E
theorem a0R{C D:Addr}{R:iQ}(F:MA K D "say_to" "Desk.say_to" EU)(TC:lj K D)(RC:fc K C)(B:bK mg)(Jz:GV mg "GREATEST_SPEED" (.int 20))(Je:aG P w K mg aw "numbers_in" 2 (B5 K))(zi:aG P w K mg aw "is_place" 3 (ye K))(iV:aG P w K mg aw "is_whole_within" 2 (mh K))(JB:cS P w K mg aw C "leads_to" 3 (gR K C λ_ S H Q=>∀v H',RD K H' v (eR (fm S))->aF H H'->Q v H'))(JC:hJ P w K mg aw C "feed" 5 (En K C R)):hJ P w K mg aw D "say_to" 6 (MY K C D R):=by
 erw[F.rn O0 (λvs H Q E h=>?_) (λ_ _ _ _ _ _=>dF λ_ _=>rfl) (λf0 aI A outer s H vs Q E hr h=>?_)]
 ·let(a,r,q,M,D',S,l,ns,sp,rfl,_):=h
  rfl
 ·let(a,r,q,M,D',S,l,ns,sp,rfl,(dx,mv,ea,rm),Ra,ok,aM,hl,gu,fu,jM,o,fe):=h
  have nd:=O0.nd;have lr:=aM.len;have ln:=gu.len;have nb:=BC gu aM.rl;have nm:∀n∈ns,Nm n:=λn hn=>by have:=nb n hn;show n.natAbs<10^40;lia
  have sm:Nm sp:=by show sp.natAbs<10^40;lia
  erw[_,(aD (pS 2 nd (pf Je hr (ao (pv 1) az))) (aD (pS 3 nd (cI (x:="tuple") (kh K Z) Z (B.at "tuple") j6 (ao (tL (sZ K rfl) (pv 2) vS (qF (kO kI aB))) az))) (aD (bL (PW.pt (iU (dj (cO (pf zi hr (ao (cH TC.cl TC.lI (pv 0)) (ao (pv 3) az))))) (jt (dj (cO (pf iV hr (ao (px K (pv 2) (kO kI aB)) (ao aB (ao (fX (x:="GREATEST_SPEED") rfl Jz) az))))))))) qE bO) (aD (pS 4 nd (cI (x:="tuple") (kh K Z) Z (B.at "tuple") j6 (ao (fi (N:=["number","begun"]) (js:=[none,none]) rfl rfl rfl (lE K rfl false false rfl (B.at "zip") (ao (pv 3) (ao (iI JB RC.cl (hr.mono ay) (cH TC.cl TC.qP (pv 0))) az))) (λ_ _ _ _ _=>(eB K rfl (n:=2) rfl (bS (bj 0 (fZ ay)) (bS (bj 1 (fZ ay)) ek)))) (λ_ _ _ _ _=>dJ) (λ_ _ _ _ _=>(aQ iK (pv 0) (pv 1)))) az))) (aJ (aW (cI (x:="str") gJ Z (B.at "str") gp (ao (yA JC (tQ λ_ _ _ z=>z) RC.cl (hr.mono ay) (cH TC.cl TC.qP (pv 0)) (ao (iH (ao bf (ao (pv 4) (ao (px K (pv 2) (kO kI aB)) az)))) az)) az)))))))),?_];erw[_,Z,l,_,Z,hl,by simp;lia,λz hz=>?_,λp H1 s1 np d1=>?_]
  ·rcases jj.mp hz with hz|hz
   ·let(n,hn,rfl):=dB.mp hz
    have:=fY (nm n hn);lia
   ·rw[cE.mp hz]
    have:=fY sm;lia
  rw[oK,a2y nm,show[numS sp].map (λz=>oV (numIn? z))=[V.int sp] by show[oV (numIn? (numS sp))]=_;rw[_T.yH (by have:=fY sm;lia)];rfl]at d1;have cl:=Uw (ns.map V.int++[V.int sp]);rw[fH,bW,xK,Nat.add_sub_cancel,List.take_left' (by rw[bW])]at cl;erw[_,Z,_,Z,_,Z,p,_,Z,.inl #[aE.of d1,λl2 H2 n2=>?_]];have d2:=n2.at';rw[show(-(1:Int))=-1 from Z,cl]at d2;erw[l2,_,Z,.inl #[aE.of d2,λt H3 n3=>?_]];have s3:=s1.trans (n2.same.trans n3.same);have rF:=s3 _ _ ea;have rt:RD K H3 (.ref t) (eR ns):=gj (bc.of n3.at') (ml ns);erw[_,Z,a,dx,_,_,Z,rF,Z,_,Z,mv,.ref t,M.rs,_,_,Z,RD.mono s3 _ rm,rt,au,λH4 s4=>#[_,Z,?_]];rw[HE gu];erw[bh ?_];have Bj:=s3.trans s4;have Ue:H4 p=some (.lst (ns.map V.int++[V.int sp])):=s4 _ _ (n3.same _ _ (n2.same _ _ d1));have V7:fb (ns.map V.int++[V.int sp]) (-1)=some (.int sp):=KS (by simp);erw[_,Z,_,Z,.inl #[p,_,-1,.int sp,Z,Z,aE.of Ue,V7,_,.int sp,1,20,Z,fz _,_,Z,?_]];rw[show cZ 1 20 (.int sp)=true by show(decide (1<=sp)&&decide (sp<=20))=true;rw[bM fu,bM jM];rfl];erw[bh ?_];have ea4:=Bj _ _ ea;let(rx,oY,GW,GI,GG,er,_):=Ra.ob;have er4:=Bj _ _ er;have R4:=Ra.same ok.row.no Bj;erw[_,Z,_,Z,a,dx,_,_,Z,ea4,Z,r,rx,_,Z,er4,Z,r,q,M,D',S,Z,R4,ok,aM,λg H5 rg s5=>?_];let(ga,gx,rfl,hg,hgx):=rg.cT;rw[hgx.fE]at hg;have gl:(fm S).length=M.rs.length:=wV _ _ ok.pl ok.nU;have Sw:bc K H5 t (ns.map V.int):=bc.of (s5 _ _ (s4 _ _ n3.at'));erw[t,ga,Z,#[_,Sw],#[_,hg],λD2 H6 n6=>?_];erw[zL (K:=K) (b1:=false) (b2:=false) (xs:=ns.map V.int) (ys:=(fm S).map V.int) (ds:=(oP ns (fm S)).map PyData.int) _ Z Sw hg n6 (by simp[oP]) (by simp[oP];lia) (jT _) ?_ ?_]
  ·intro i x y d H7 Q' ex ey ed s7 hq
   let(u,v,e1,e2,rfl,rfl):=zip2 au ex ey;let(m,em,rfl):=kR ed;unfold oP at em;rw[cj,(Ah (z:=(u,v))).mpr #[e1,e2]]at em;cases em;erw[_,Z,_,Z,_,_,Z,Z,hq _ _ (aF.refl _) (fz _)]
  intro H7 zs s7 d7 r7;rw[r7.fE]at d7;erw[D2,_,Z,.inl #[aE.of d7,λtt H8 n8=>?_]];have vK:=s5.trans (s7.trans n8.same);have s8:=Bj.trans vK;erw[_,Z,a,dx,_,_,Z,s8 _ _ ea,Z,r,rx,_,Z,s8 _ _ er,Z,?_];erw[_,Z,_,Z,_,Z,.inl #[p,_,-1,.int sp,Z,Z,aE.of (vK _ _ Ue),V7,df Z,λtu H9 n9=>?_]];have s9:=s8.trans n9.same;have rl:RD K H9 (.ref tu) (du (oP ns (fm S)) sp):=gj (bc.of n9.at') (cN (bT _) (cN (gj (bc.of (n9.same _ _ n8.at')) (ml _)) (cN (fz _) dI)));let(h1,h2,h3,h4):=fe.go s9;erw[r,q,M,D',S,.ref tu,_,o,Z,Ra.same ok.row.no s9,ok,aM,rl,h1,h2,h3,λa2 H' R' b'=>.inl #[_,Z,QF au,h4 a2 H' R' b']]
inductive jH |wd (w:Wd) |steps (n:Int) |aA (n:Int) |item (d:ag)(o:Itm) |to (ns:List Int)(sp:Int)
def jH.txt:jH->Str | .wd w=>w.txt | .steps n=>"steps"++" "++numS n | .aA n=>"rate"++" "++numS n | .item d _=>g6 d | .to ns sp=>toS ns sp
def jH.Ok(K:aa)(C:Addr)(R:iQ)(r q:Addr)(M:aZ)(S:aV)(H:Hp)(Q:VK)(E:XK):jH->Prop | .wd w=>w.Ok K C R.m r q M S H Q E | .steps n=>0<=n/\n<=100/\Vi K C r q M S n H Q | .aA n=>Nm n/\Vk K C R.r R.m r q M S n H Q E | .item d o=>uV K C R r q M S d o H Q E | .to ns sp=>fF M.rs ns/\1<=sp/\sp<=20/\∃o,uV K C R r q M S (du (oP ns (fm S)) sp) o H Q E
theorem Wd.Ok.go{C cM r q:Addr}{M:aZ}{S:aV}{H H1:Hp}{Q:VK}{E:XK}{w:Wd}(h:w.Ok K C cM r q M S H Q E)(s:aF H H1):w.Ok K C cM r q M S H1 Q E:=by cases w with |hold=>erw[λH' R b=>h H' R λx o e hx=>b x o (s _ _ e) hx] |go=>erw[λH' R b=>h H' R λx o e hx=>b x o (s _ _ e) hx] |drop=>erw[λz H' s'=>h.1 z H' (s.trans s'),λz q' H' R nq b=>h.2 z q' H' R (by cases e:H q' with |none=>rfl |some o=>rw[s _ _ e]at nq;cases nq) λx o e hx=>b x o (s _ _ e) hx] |_=>erw[λH' s'=>h H' (s.trans s')]
theorem WZ{ws:List Str}{d:ag}(h:gQ ws=d)(hd:d≠ .none):∃z y rest ds,ws=z::y::rest/\d= .tuple (.str z::ds):=by
 subst h
 match ws with
 |[]=>exact(hd Z).elim |[z]=>exact(hd (by unfold gQ;dsimp only;split<;>rfl)).elim |z::y::rest=>
  erw[z,y,rest,?_];unfold gQ at hd⊢;dsimp only at hd⊢;split
  ·erw[_,Z,Z]
  ·next hz=>
   rw[bo hz]at hd
   match rest,hd with |[],_=>erw[_,Z,Z] |_::_,hd=>exact(hd Z).elim
def L7 (z:Str):Prop:=z = "line" \/ kY z
theorem uS.word{n:Nat}{d:ag}(h:uS n d):∃z y rest,Txt.split (g6 d) " "=z::y::rest/\L7 z:=by
 have e:=h.rt;unfold uf at e;have e2:gQ (Txt.split (g6 d) " ")=d:=by cases hc:mH n (gQ (Txt.split (g6 d) " "))with |true=>rw[hc]at e;erw[e] |false=>rw[hc]at e;exact(h.ne e.symm).elim
 let(z,y,rest,ds,hw,hd):=WZ e2 h.ne;erw[z,y,rest,hw,?_];rcases h.ti with⟨ns,sp,rfl,_⟩|⟨w,i,rfl,hw,_⟩|⟨w,y,rfl,hw,_⟩
 ·cases hd;erw[.inl rfl]
 ·cases hd;erw[.inr hw]
 ·cases hd;erw[.inr hw]
structure Lc(K:aa)(gA:Addr):Prop where
 line:PySem.W.nsIn K gA "line"=some none
 wait:PySem.W.nsIn K gA "wait"=some none
 WR:∃v,PySem.W.nsIn K gA "tool"=some (some v)
 mark:∃v,PySem.W.nsIn K gA "mark"=some (some v)
 steps:PySem.W.nsIn K gA "steps"=some none
 aA:PySem.W.nsIn K gA "rate"=some none
 to:PySem.W.nsIn K gA "to"=some none
theorem aaU{ta tb:TT}{O:_L.St}{H:Hp}{Q:Bool->Hp->Prop}(h1:∀Q':Bool->Hp->Prop,(∀c,Q' c H)->ta O H Q')(h2:∀Q':Bool->Hp->Prop,Q' false H->tb O H Q')(k:Q false H):AS ta tb O H Q:=h1 _ λc=>by cases c with |true=>erw[h2 _ k] |false=>erw[k]
structure RwW(y:Str):Prop where
 sh:SeqAt.shaped (.str y)=true
 n1:PyData.eqv (.str y) (.str "to")=false
 n2:PyData.eqv (.str y) (.str "steps")=false
 n3:PyData.eqv (.str y) (.str "rate")=false
theorem Yx{y:Str}(h:L7 y):RwW y:=by rcases h with rfl|rfl|rfl|rfl<;>erw[aH,aH,aH,aH]
theorem jo:SeqAt.shaped (.str "to")=true/\SeqAt.shaped (.str "steps")=true/\SeqAt.shaped (.str "rate")=true/\PyData.eqv (.str "to") (.str "to")=true:=by decide+kernel
theorem Lc.row{gA:Addr}(h:Lc K gA){y:Str}(hy:L7 y):∃ov,PySem.W.nsIn K gA y=some ov:=by
 rcases hy with rfl|rfl|rfl|rfl
 ·erw[_,h.line]
 ·erw[_,h.wait]
 ·erw[_,h.WR.choose_spec]
 ·erw[_,h.mark.choose_spec]
theorem Wh(w:Wd):Txt.split w.txt " "=[w.txt]/\w.txt.length<=100:=by cases w<;>erw[aH,aH]
theorem MN{z:Str}(hz:Free 32 z)(n:Int):Txt.split (z++" "++numS n) " "=[z,numS n]:=by
 have ej:z++" "++numS n=Txt.join ⟨#[32]⟩ [z,numS n]:=by rw[<-me];rfl
 rw[ej,me];erw[_T.sT (by simp) λy hy=>?_];simp only[bJ,bZ,cG]at hy;rcases hy with rfl|rfl
 ·erw[hz]
 ·erw[_T.gW ay ay]
theorem yj:PyData.eqv (.str "steps") (.str "to")=false/\PyData.eqv (.str "steps") (.str "steps")=true/\PyData.eqv (.str "rate") (.str "to")=false/\PyData.eqv (.str "rate") (.str "steps")=false/\PyData.eqv (.str "rate") (.str "rate")=true:=by decide+kernel
theorem WT{ns:List Int}{sp:Int}:Txt.split (toS ns sp) " "=("to":Str)::(ns.map numS++[numS sp]):=by
 unfold toS;rw[me];erw[_T.sT (by simp) λz hz=>?_];rcases bJ.mp hz with rfl|hz
 ·erw[ir aH]
 ·rcases jj.mp hz with hz|hz
  ·let(i,_,rfl):=dB.mp hz
   erw[_T.gW ay ay]
  ·rw[cE.mp hz];erw[_T.gW ay ay]
theorem WU{ns:List Int}{sp:Int}(h:∀n∈ns,Nm n)(hs:Nm sp)(hl:ns.length<=3):(toS ns sp).length<=400:=by
 have:=C1 " " (B:=41) ("to"::(ns.map numS++[numS sp])) (λz hz=>by
  rcases bJ.mp hz with rfl|hz
  ·decide+kernel
  ·rcases jj.mp hz with hz|hz
   ·let(i,hi,rfl):=dB.mp hz
    erw[fY (h i hi)]
   ·rw[cE.mp hz];erw[fY hs]);rw[fu,gq,fH,bW,xK]at this;unfold toS;have:(ns.length+1+1)*(41+1)<=5*42:=VM _ au
 lia
inductive abP(K:aa)(C:Addr)(D:Addr)(R:iQ)(vs:List V)(H:Hp)(Q:VK)(E:XK):Prop |mk (a:_)(r:_)(q:_)(M:_)(D':_)(S:_)(c:_)(h0:vs=[.ref a,.str (jH.txt c)])(h1:jG K D H a r M)(h2:bX K C H r q M S)(h3:RG M D' S)(h4:c.Ok K C R r q M S H Q E)
def qz(K:aa)(C D:Addr)(R:iQ):Sp:=λvs H Q E=>abP K C D R vs H Q E
theorem Be:bp ["self","text","word","rest","answer","item"] ["self","text"] (aY Bg):=bE aH
theorem a19{C D gA:Addr}{R:iQ}(F:MA K D "say" "Desk.say" Bg)(TC:lj K D)(RC:fc K C)(B:bK mg)(GA:GD w K mg "ANSWERS" gA)(NA:Lc K gA)(hW:∀v:Wd,∃fn,PySem.W.nsIn K gA v.txt=some (mg fn)/\rY P w K mg aw fn 10 (oU K C R.m v))(a5P:aG P w K mg aw "item_in" 5 (Et K))(a7l:cS P w K mg aw D "say_steps" 13 (MZ K C D))(a7m:hJ P w K mg aw D "say_rate" 6 (N0 K C D R.r R.m))(a7k:hJ P w K mg aw D "say_to" 6 (MY K C D R))(JC:hJ P w K mg aw C "feed" 5 (En K C R)):hJ P w K mg aw D "say" 14 (qz K C D R):=by
 erw[F.rn Be (λvs H Q E h=>?_) (λ_ _ _ _ _ _=>dF λ_ _=>rfl) (λf0 aI A outer s H vs Q E hr h=>?_)]
 ·let(a,r,q,M,D',S,c,rfl,_):=h
  rfl
 ·let(a,r,q,M,D',S,c,rfl,(dx,mv,ea,rm),Ra,g,k):=h
  have nd:=Be.nd;have lr:=g.aM.n3;have iP:sizeLine=16777216:=by decide
  erw[_,(aD (bL (dj (cO (nR K B (ao (pv 1) (ao (nQ (x:="str") (v:=.ty "str") Z (B.at "str") gp rfl) az))))) qE bO) (aD (fh (tO K Z (pv 1) (ao bf az)) (Qi K Z Z (bj 2 nd) (bj 3 nd))) (aD (bL (PW.pt (oZ (Qc (Qo GA Z (pv 2)) (by with_unfolding_all rfl)) (vP (dj (yy K Z (pv 3)))))) (aD (pS 4 nd (Ql GA Z (pv 2) (λ_ _=>rfl))) (aJ (aW (a0e 4 (tQ λ_ _ _ z=>z) (ha:=(ao (cH TC.cl TC.qP (pv 0)) az)))))) bO) (aD (bL (bU (dW K Z hr.units) (pv 2) bf (bB _)) (aJ (aW (yA a7k (tQ λ_ _ _ z=>z) TC.cl (hr.mono ay) (pv 0) (ao (pv 3) az)))) bO) (aD (bL (bU (dW K Z hr.units) (pv 2) bf (bB _)) (aJ (aW (kr a7l TC.cl (hr.mono ay) (pv 0) (ao (pv 3) az)))) bO) (aD (bL (bU (dW K Z hr.units) (pv 2) bf (bB _)) (aJ (aW (yA a7m (tQ λ_ _ _ z=>z) TC.cl (hr.mono ay) (pv 0) (ao (pv 3) az)))) bO) (aD (pS 5 nd (pf a5P hr (ao (cH TC.cl TC.lI (pv 0)) (ao (pv 1) az)))) (aD (bL (bU BA (pv 5) gT (bB _)) qE bO) (aJ (aW (cI (x:="str") gJ Z (B.at "str") gp (ao (yA JC (tQ λ_ _ _ z=>z) RC.cl (hr.mono ay) (cH TC.cl TC.qP (pv 0)) (ao (pv 5) az)) az)))))))))))),?_];erw[_,Z,.inl #[_,"str","str",true,Z,Z,ay,ay,_,Z,bh ?_]];cases c with
  |wd v=>let(hz,hl):=Wh v;let(fn,hG,f,fd,ps,Fo,hm,hk,hb):=hW v;rw[hm]at hG;erw[_,Z,Z,v.txt," ",Z,Z,aH,au,λl H1 n1=>?_];rw[hz]at n1;erw[l,.str v.txt,[],Z,aE.of n1.at',ay,λp H2 n2=>?_];have s2:=n1.same.trans n2.same;erw[_,Z,v.txt,_,Z,hG,true,Z,bF ?_];erw[_,Z,false,.inl #[_,aE.of n2.at',Z],bF ?_];erw[_,Z,v.txt,_,.ref f,Z,hG,Z,?_];erw[f,fd,ps,10,_,Z,Fo,hk,hb,hr.mono ay,_,Z,a,dx,_,_,Z,s2 _ _ ea,Z,r,q,M,D',S,Z,Ra.same g.ok.row.no s2,g,Wd.Ok.go k s2] |steps n=>
   let(n0,yP,k):=k;have nm:Nm n:=by show n.natAbs<10^40;lia
   have hl:=fY nm;have e5:Str.length "steps"=5:=by decide+kernel
   have h1:=fu;erw[_,Z,Z,_," ",Z,Z,aH,by simp only[jH.txt,dC];lia,λl H1 n1=>?_];rw[show Txt.split (jH.txt (.steps n)) " "=[Str.ofString "steps",numS n]from MN (ir aH) n]at n1;erw[l,.str "steps",[.str (numS n)],Z,aE.of n1.at',by show 1<=16000;decide,λp H2 n2=>?_];have s2:=n1.same.trans n2.same;erw[_,Z,"steps",_,Z,NA.steps,false,Z,bh ?_];erw[_,Z,.inr #[_,_,bT _,bT _,jo.2.1,jo.1,_,Z,?_]];rw[yj.1];erw[bh #[_,Z,.inr #[_,_,bT _,bT _,jo.2.1,jo.2.1,_,Z,?_]]];rw[yj.2.1];erw[bF ?_];erw[_,Z,a,dx,_,Z,s2 _ _ ea,Z,_,Z,a,r,q,M,D',S,p,n,Z,#[dx,mv,s2 _ _ ea,RD.mono s2 _ rm],Ra.same g.ok.row.no s2,g,aE.of n2.at',n0,yP,λes S' q' H' h1 h2 h3 h4 h5=>k es S' q' H' h1 h2 h3 h4 (Mv.ahead s2 h5)] |aA n=>
   let(nm,k1,k2,k3):=k;have hl:=fY nm;have e5:Str.length "rate"=4:=by decide+kernel
   have h1:=fu;erw[_,Z,Z,_," ",Z,Z,aH,by simp only[jH.txt,dC];lia,λl H1 n1=>?_];rw[show Txt.split (jH.txt (.aA n)) " "=[Str.ofString "rate",numS n]from MN (ir aH) n]at n1;erw[l,.str "rate",[.str (numS n)],Z,aE.of n1.at',by show 1<=16000;decide,λp H2 n2=>?_];have s2:=n1.same.trans n2.same;erw[_,Z,"rate",_,Z,NA.aA,false,Z,bh ?_];erw[_,Z,.inr #[_,_,bT _,bT _,jo.2.2.1,jo.1,_,Z,?_]];rw[yj.2.2.1];erw[bh #[_,Z,.inr #[_,_,bT _,bT _,jo.2.2.1,jo.2.1,_,Z,?_]]];rw[yj.2.2.2.1];erw[bh #[_,Z,.inr #[_,_,bT _,bT _,jo.2.2.1,jo.2.2.1,_,Z,?_]]];rw[yj.2.2.2.2];erw[bF ?_];erw[_,Z,a,dx,_,Z,s2 _ _ ea,Z,_,Z,a,r,q,M,D',S,p,n,Z,#[dx,mv,s2 _ _ ea,RD.mono s2 _ rm],Ra.same g.ok.row.no s2,g,aE.of n2.at',nm,λz H' s'=>k1 z H' (s2.trans s'),λz1 z2 H' s'=>k2 z1 z2 H' (s2.trans s'),λz1 z2 z3 H' R' b'=>k3 z1 z2 z3 H' R' λx o e hx=>b' x o (s2 _ _ e) hx] |item d o=>
   have k0:=k;let(it,gu,_):=k;have IL:=g.ok.len;have tx:=it.tx lr.1 lr.2;have ok:=g.ok;have aM:=g.aM;let(y,y2,Ax,hs,hy):=tx.word;let(ov,hov):=NA.row hy;generalize eys:y2::Ax=ys at hs;have W:=Yx hy;have hl:(jH.txt (.item d o)).length<=400:=tx.len;have wL:=tx.len;have C7:ys.length<=1000:=by
    have:=split_len (g6 d) " ";rw[hs,gq]at this
    lia
   erw[_,Z,Z,_," ",Z,Z,aH,au,λl H1 n1=>?_];change Nw H H1 l (.lst ((Txt.split (g6 d) " ").map V.str))at n1;rw[hs]at n1;erw[l,.str y,ys.map V.str,Z,aE.of n1.at',by rw[bW];lia,λp H2 n2=>?_];have s2:=n1.same.trans n2.same;unfold gc;dsimp only;unfold xX Eb;dsimp only;erw[aaU (λQ' hq=>#[_,Z,y,ov,Z,hov,_,Z,hq _]) (λQ' hq=>#[_,Z,true,.inl #[_,aE.of n2.at',by rw[<-eys];rfl],hq]) ?_];erw[bh ?_];erw[_,Z,.inr #[_,_,bT _,bT _,W.sh,jo.1,_,Z,?_]];rw[W.n1];erw[bh #[_,Z,.inr #[_,_,bT _,bT _,W.sh,jo.2.1,_,Z,?_]]];rw[W.n2];erw[bh #[_,Z,.inr #[_,_,bT _,bT _,W.sh,jo.2.2.1,_,Z,?_]]];rw[W.n3];erw[bh ?_];erw[_,Z,a,dx,_,_,Z,s2 _ _ ea,Z,_,Z,mv,M.rs,_,_,Z,RD.mono s2 _ rm,Z,au,au,tx.ok,λv H3 s3 rv=>?_];change RD K H3 v (uf M.rs.length (g6 d))at rv;rw[tx.rt]at rv;have Bk:=s2.trans s3;have nv:v≠ .bD:=λe=>by rw[e]at rv;rcases tx.ti with⟨ns,sp,rfl,_⟩|⟨w,i,rfl,_⟩|⟨w,z,rfl,_⟩<;>(let(p,xs,e,_):=rv.cT;cases e)
   erw[_,Z,Z,_,Z,?_];rw[cD nv];erw[bh ?_];let(rx,oY,GW,GI,GG,er,_):=Ra.ob;erw[_,Z,a,dx,_,_,Z,Bk _ _ ea,Z,r,rx,_,Z,Bk _ _ er,Z,_,Z,?_];let(_,_,h3,h4):=k0.go Bk;erw[r,q,M,D',S,v,d,o,Z,Ra.same ok.row.no Bk,ok,aM,rv,it,gu,h3,λa2 H' R' b'=>.inl #[_,Z,QF au,h4 a2 H' R' b']] |to ns sp=>
   let(gu,vD,yh,o,fe):=k;have nb:=BC gu g.aM.rl;have ln:=gu.len;have nm:∀n∈ns,Nm n:=λn hn=>by have:=nb n hn;show n.natAbs<10^40;lia
   have sm:Nm sp:=by show sp.natAbs<10^40;lia
   have hl:(jH.txt (.to ns sp)).length<=400:=WU nm sm au;erw[_,Z,Z,_," ",Z,Z,aH,au,λl H1 n1=>?_];rw[show Txt.split (jH.txt (.to ns sp)) " "=("to":Str)::(ns.map numS++[numS sp])from WT]at n1;erw[l,.str "to",(ns.map numS++[numS sp]).map V.str,Z,aE.of n1.at',by simp;lia,λp H2 n2=>?_];have s2:=n1.same.trans n2.same;erw[_,Z,"to",_,Z,NA.to,false,Z,bh ?_];erw[_,Z,.inr #[_,_,bT _,bT _,jo.1,jo.1,_,Z,?_]];rw[jo.2.2.2];erw[bF ?_];erw[_,Z,a,dx,_,Z,s2 _ _ ea,Z,_,Z,a,r,q,M,D',S,p,ns,sp,Z,#[dx,mv,s2 _ _ ea,RD.mono s2 _ rm],Ra.same g.ok.row.no s2,g.ok,g.aM,aE.of n2.at',gu,vD,yh,o,fe.go s2]
end
open _T (numS numIn? Free)
section
theorem a1n{C:Addr}(F:MA K C "go" "Runner.go" Bh)(TC:fc K C)(B:bK mg):uR P w K mg aw C "go" 1 (λ_=>AZ K C):=by
 erw[F.Cu Oh (λ_ vs H Q E h=>?_) (λ_ _ _ _ _ _=>dw λ_=>rfl) (λex f aI A outer s H vs Q hr h=>?_)]
 ·let(a,q,M,D,S,rfl,_):=h
  rfl
 ·let(a,q,M,D,S,rfl,R,ok,k):=h
  let(dx,mv,bv,cv,tv,e,r1,r2,r3,r4):=R.ob;let(ys,eq,rq):=R.qu;erw[_,(aD (fW TC.cl TC.tX (pv 0) gT) (aJ (aW (dS K B (ao (cH TC.cl TC.jc (pv 0)) az))))),?_];erw[_,Z,a,dx,_,Z,e,by show 9<1000;decide,?_];have pR:(_L.upd H a (.ins C dx (fw mv bv (.int S.dn) (.ref q) cv (.int S.aA) (.str S.side) (.str S.mark) .bD))) q=some (.lst ys):=by rw[aU R.ne.symm];erw[eq]
  erw[_,Z,a,dx,_,_,Z,bQ,Z,q,_,Z,.inl (aE.of pR),?_];rw[rq.length];erw[k _ (R.Bq (S':={S with aR:=none}) e ok.row.no rfl r1 r2 r3 rfl) (zN (by simp))]
theorem a2k{C cM:Addr}(F:FA K mg "answer_go" Bi)(B:bK mg)(TC:fc K C)(a7p:uR P w K mg aw C "go" 1 (λ_=>AZ K C)):Lk P w K mg aw "answer_go" 2 (λ_=>oU K C cM .go):=by
 erw[F.Cu Bf (λ_ vs H Q E h=>?_) (λ_ _ _ _ _ _=>dw λ_=>rfl) (λex f aI A outer s H vs Q hr h=>?_)]
 ·let(a,q,M,D,S,rfl,_):=h
  rfl
 ·let(a,q,M,D,S,rfl,R,g,k):=h
  let(dx,mv,bv,cv,tv,e,r1,r2,r3,r4):=R.ob;have nd:=Bf.nd;erw[_,(aJ (aW (cI (x:="str") gJ Z (B.at "str") gp (ao (a06 a7p TC.cl (hr.mono ay) (pv 0)) az)))),?_];erw[_,Z,a,dx,_,Z,e,Z,a,q,M,D,S,Z,R,g.ok,λH' R' b'=>.inl #[_,Z,gF g.len,k H' R' b']]
inductive abO(K:aa)(C:Addr)(D:Addr)(cM:Addr)(ex:Addr)(vs:List V)(H:Hp)(Q:VK)(E:XK):Prop |mk (a:_)(r:_)(q:_)(M:_)(D':_)(S:_)(h0:vs=[.ref a,.str "go"])(h1:xq ex H)(h2:jG K D H a r M)(h3:bX K C H r q M S)(h4:RG M D' S)(h5:Wd.Ok K C cM r q M S H Q E .go)
def MW(K:aa)(C D cM ex:Addr):Sp:=λvs H Q E=>abO K C D cM ex vs H Q E
theorem a18{C D gA cM:Addr}(F:MA K D "say" "Desk.say" Bg)(TC:lj K D)(B:bK mg)(GA:GD w K mg "ANSWERS" gA)(JI:PySem.W.nsIn K gA "go"=some (mg "answer_go"))(hW:Lk P w K mg aw "answer_go" 2 (λ_=>oU K C cM .go)):uR P w K mg aw D "say" 3 (MW K C D cM):=by
 erw[F.Cu Be (λ_ vs H Q E h=>?_) (λ_ _ _ _ _ _=>dF λ_ _=>rfl) (λex f0 aI A outer s H vs Q hr h=>?_)]
 ·let(a,r,q,M,D',S,rfl,_):=h
  rfl
 ·let(a,r,q,M,D',S,rfl,hh,(dx,mv,ea,rm),Ra,g,k):=h
  have nd:=Be.nd;have iP:sizeLine=16777216:=by decide
  let(f,fd,ps,Fo,hm,hk,hb):=hW;rw[hm]at JI;erw[_,(aD (bL (dj (cO (nR K B (ao (pv 1) (ao (nQ (x:="str") (v:=.ty "str") Z (B.at "str") gp rfl) az))))) (aJ vR) bO) (aD (fh (tO K Z (pv 1) (ao bf az)) (a02 ex K Z hr.hd (bj 2 nd) (bj 3 nd))) (aD (bL (PW.pt (oZ (Qc (Qo GA Z (pv 2)) (by with_unfolding_all rfl)) (vP (dj (yy K Z (pv 3)))))) (aD (pS 4 nd (Ql GA Z (pv 2) (λ_ _=>rfl))) (aJ (aW (a0d ex 4 (ha:=(ao (cH TC.cl TC.qP (pv 0)) az)))))) bO) qE))),?_];erw[_,Z,.inl #[_,"str","str",true,Z,Z,ay,ay,_,Z,bh ?_]];erw[_,Z,Z,"go"," ",Z,Z,aH,aH,λl H1 n1=>?_];rw[show Txt.split "go" " "=[("go":Str)] by decide+kernel]at n1;erw[hh.go n1.same,l,.str "go",[],Z,aE.of n1.at',ay,λp H2 n2=>?_];have s2:=n1.same.trans n2.same;erw[_,Z,"go",_,Z,JI,true,Z,bF ?_];erw[_,Z,false,.inl #[_,aE.of n2.at',Z],bF ?_];erw[_,Z,"go",_,.ref f,Z,JI,Z,?_];erw[f,fd,ps,2,_,Z,Fo ex,hk,hb,hr.mono ay,_,Z,a,dx,_,_,Z,s2 _ _ ea,Z,r,q,M,D',S,Z,Ra.same g.ok.row.no s2,g,Wd.Ok.go (w:=.go) k s2]
end
end _a
set_option maxHeartbeats 1000000
namespace _a
open PySem PySem.Spec PyProof.Rows _L _l _W
section
inductive acH(K:aa)(vs:List V)(H:Hp)(Q:VK):Prop |mk (p:_)(m:_)(rs:_)(r:_)(f:_)(j:_)(t:_)(x:_)(pl:_)(mo:_)(h0:vs=[.ref p,m,x,.int mo])(h1:fG H p)(h2:RD K H m (jw rs r f j t))(h3:qc rs r f j t)(h4:RD K H x (eR pl))(h5:fF rs pl)(h6:1<=mo)(h7:mo<=100)(h8:∀v ns sp H',RD K H' v (du ns sp)->fg rs.length 100 ns->fF rs (dH pl ns)->1<=sp->sp<=20->bI p H H'->Q v H')
def Np(K:aa):Sp:=λvs H Q _=>acH K vs H Q
theorem P0:bp ["_law_bag_here","_law_machine_here","_law_here","_law_most","_law_speed","_law_steps","_law_at","_law_rail","_law_low"] ["_law_bag_here","_law_machine_here","_law_here","_law_most"] (aY G7):=bE aH
theorem a22(F:FA K mg "_law_line_from" G7)(B:bK mg)(dU:aG P w K mg aw "_law_take" 1 lD):aG P w K mg aw "_law_line_from" 2 (Np K):=by
 erw[F.has P0 (λvs H Q E h=>?_) (λ_ _ _ _ _ _=>xi λ_ _ _ _=>rfl) (λf aI A outer s H vs Q E hr h=>?_)]
 ·let(p,m,rs,r0,f0,j0,t0,x,pl,mo,rfl,_):=h
  rfl
 ·let(p,m,rs,r0,f0,j0,t0,x,pl,mo,rfl,bg,rm,w6,rx,on,Ri,Rh,k):=h
  have nd:=P0.nd;erw[_,(aD (pS 4 nd (aQ dv aB (pf dU hr (ao (pv 0) (ao aB az))))) (aD (pS 5 nd (fA az)) (aD (mq jI Z (lE K Z false false Z (B.at "zip") (ao (pv 2) (ao (px K (pv 1) aB) az))) (eB K rfl (n:=2) rfl (bS (bj 6 nd) (bS (bj 7 nd) ek))) (aD (pS 8 nd (fK (x:="max") (aal Z) Z (B.at "max") LF (ao (kO kI (pv 6)) (ao (kO kI (pv 3)) az)))) (aJ (mr (tP K Z (pv 5) (ao (aQ dv (pv 8) (pf dU hr (ao (pv 0) (ao (aQ dv (aQ iK (fK (x:="min") (UO Z) Z (B.at "min") PyProof.Rows.boot_min (ao (aQ iK (pv 7) (pv 6)) (ao (pv 3) az))) (pv 8)) aB) az)))) az)))))) (aD (ig (bL (dj (cO (fK (x:="any") (Va K Z Z) Z (B.at "any") VL (ao (pv 5) az)))) (aJ (fh (px K (fA (ao aB (ao (kO kI aB) az))) (cI (x:="int") UP Z (B.at "int") sj (ao (fj (dW K rfl hr.units) (px K (pv 2) aB) (px K (px K (pv 1) aB) aB) (bB _)) az))) (yz (pv 5) aB set_list))) bO)) (aJ (aW (iH (ao bf (ao (cI (x:="tuple") (kh K Z) Z (B.at "tuple") j6 (ao (pv 5) az)) (ao (pv 4) az)))))))))),?_];have lr:=w6.len;have lp:=on.len;let(ma,mb,rfl,jd,jV):=nY rm;let(xa,xx,rfl,C8,hxx):=rx.cT;rw[hxx.fE]at C8;erw[_,Z,p,20,Z,bg,ay,ay,λsp H1 p0 p1 b1=>?_];erw[_,_,Z,Z,?_];erw[df Z,λl H2 n2=>?_];have b2:bI p H1 H2:=.fC b1.bC n2.same;have uL:=b1.trans b2;have BX:l≠p:=λz=>b1.bC.ne (z▸n2.no);have nl:H l=none:=by cases e:H l with |none=>rfl |some o=>have:=b1.same _ _ BX e;rw[n2.no]at this;cases this
  have Ec:=bI.t bg uL;erw[_,Z,_,Z,.inr #[ma,_,0,.ref mb,Z,Z,jd.t Ec,cL (eg 0) Z,xa,mb,Z,#[_,C8.t Ec],#[_,jV.t Ec],?_]];erw[Ts (K:=K) (b1:=false) (b2:=false) (xs:=pl.map V.int) (ys:=rs.map V.int) rs.length (by simp[lp]) (λi O H3=>bI p H H3/\∃(is:List Int)(v1 v2 v3:Option V),H3 l=some (.lst (is.map V.int))/\is.length=i/\(∀(j:Nat)(z a r:Int),is[j]? =some z->pl[j]? =some a->rs[j]? =some r->0<=a+z/\a+z<=r/\(z.natAbs:Int)<=mo)/\O=[some (.ref p),some (.ref ma),some (.ref xa),some (.int mo),some (.int (1+sp)),some (.ref l),v1,v2,v3]) ?_ (λi O H3 _ h=>#[C8.t (bI.t bg h.1),jV.t (bI.t bg h.1)]) ?_ ?_]
  ·erw[uL,[],none,none,none,n2.at',Z,λj z a r e=>by simp at e,Z]
  ·rintro i x y O H3 ex ey ⟨b3,is,v1,v2,v3,dl,li,hz,rfl⟩ T H4 n4
   have b4:bI p H3 H4:=.fC b3.bC n4.same;have hx:∃a r,pl[i]? =some a/\rs[i]? =some r/\x= .int a/\y= .int r:=by rw[cj]at ex ey;cases e1:pl[i]? with |none=>rw[e1]at ex;cases ex |some u=>cases e2:rs[i]? with |none=>rw[e2]at ey;cases ey |some v=>rw[e1]at ex;rw[e2]at ey;erw[u,v,Z,Z,(dQ ex).symm,(dQ ey).symm]
   let(a,r,ea,er,rfl,rfl):=hx;let(a0,a1):=on.at' i a r ea er;let(r0,r1):=w6.rl r (gf er);erw[T,_,Z,bc.of n4.at',Z,_,_,Z,_,_,Z,Z,?_];erw[_,Z,_,Z,_,Z,_,Z,_,_,Z,?_];have rJ:=n4.same _ _ dl;have a5F:∃low:Int,(if(-mo:Int)>-a then-mo else-a)=low/\low<=0/\-mo<=low/\-a<=low:=#[_,Z,by split<;>lia,by split<;>lia,by split<;>lia];let(low,a9F,lo0,lo1,lo2):=a5F;rw[a9F];have hhi:∃hi:Int,(if mo<r-a then mo else r-a)=hi/\0<=hi/\hi<=mo/\hi<=r-a:=#[_,Z,by split<;>lia,by split<;>lia,by split<;>lia];let(hi,CU,hi0,hi1,hi2):=hhi;erw[_,Z,.inl #[Z,_,aE.of rJ],?_];erw[_,Z,_,Z,_,Z,_,Z,_,_,Z,Z,_,Z,_,_,Z,?_];rw[CU];erw[_,Z,_,_,Z,Z,_,_,Z,Z,p,hi-low+1,Z,b4.bC,au,au,λd H5 d0 d1 b5=>?_];have dl5:=b5.same _ _ BX rJ;erw[_,_,Z,Z,l,_,_,Z,Z,dl5,?_,?_]
   ·rw[bW,li]
    have:(1000:Nat)<sizeLine:=by decide
    have:=(dZ.mp er).1
    lia
   have rO:=b3.trans (b4.trans b5);erw[?_,is++[low+d],_,_,_,?_,?_,?_,Z]
   ·erw[?_,λb o n e=>?_]
    ·let(c',m',e,ok):=rO.bC
     erw[c',m',by rw[aU BX.symm];erw[e],ok]
    ·rw[aU (iL e nl)];erw[rO.same b o n e]
   ·rw[bQ,oK];rfl
   ·rw[fH,li];rfl
   ·intro j z a' r' ej wY oz
    by_cases hj:j<is.length
    ·rw[vg hj]at ej
     erw[hz j z a' r' ej wY oz]
    ·have pF:j=is.length:=by
      have:=(dZ.mp ej).1;rw[fH]at this;have:j<is.length+1:=this
      lia
     rw[pF,xO (bV _),DL]at ej;cases ej;rw[pF,li]at wY oz;rw[ea]at wY;rw[er]at oz;cases wY;cases oz
     lia
  ·rintro O H3 ⟨b3,is,v1,v2,v3,dl,li,hz,rfl⟩
   have l0:0<is.length:=by lia
   have lp0:0<pl.length:=by lia
   have lr0:0<rs.length:=by lia
   have ea:=cB lp0;have er:=cB lr0;have a3:=C8.t (bI.t bg b3);have m3:=jd.t (bI.t bg b3);have mb3:=jV.t (bI.t bg b3);erw[λO H4=>bI p H H4/\∃(is:List Int),H4 l=some (.lst (is.map V.int))/\fg rs.length 100 is/\fF rs (dH pl is)/\O=[some (.ref p),some (.ref ma),some (.ref xa),some (.int mo),some (.int (1+sp)),some (.ref l),v1,v2,v3],?_,?_]
   ·erw[_,Z,l,is,Z,.inl (aE.of dl),_,Z,?_]
    cases ha:is.any (· !=0)with
    |false=>
     erw[bF ?_];have z0:∀z∈is,z=0:=λz lN=>by have:=List.any_eq_false.mp ha z lN;simpa using this
     erw[_,Z,df Z,λc H4 n4=>?_];have s4:=n4.same;erw[_,Z,.inr #[xa,_,0,.int pl[0],Z,Z,a3.go s4,cL (eg 0) (by rw[cj];show Option.map _ pl[0]? =_;rw[ea];rfl),?_]];erw[_,Z,.inr #[ma,_,0,.ref mb,Z,Z,m3.go s4,cL (eg 0) Z,?_]];erw[.inr #[mb,_,0,.int rs[0],Z,Z,mb3.go s4,cL (eg 0) (by rw[cj];show Option.map _ rs[0]? =_;rw[er];rfl),?_]];erw[.inl #[_,_,Z,Z,.inr #[_,Z,?_]]];let(a0,a1):=on.at' 0 _ _ ea er;let(r0,r1):=w6.rl _ (gf er);have hy:∃y:Int,fb ([.int 1,.int (-1)]:List V) (if decide (pl[0]=rs[0])=true then 1 else 0)=some (.int y)/\y.natAbs=1/\0<=pl[0]+y/\pl[0]+y<=rs[0]:=by
      by_cases h:pl[0]=rs[0]
      ·rw[bM h];erw[-1,Z,Z,au,au]
      ·rw[cD h];erw[1,Z,Z,au,au]
     let(y,ey,y1,y2,y3):=hy;erw[.inl #[c,_,_,_,Z,Z,aE.of n4.at',ey,?_]];have rJ:=s4 _ _ dl;erw[_,Z,l,_,0,0,Z,Z,rJ,?_,?_]
     ·unfold kx;rw[bu (eg 0),bu (by rw[bW];lia)];rfl
     have b4:bI p H3 H4:=.fC b3.bC s4;have V2:=b3.trans b4;have ls:(is.set 0 y).length=pl.length:=by rw[xM];lia
     erw[?_,is.set 0 y,?_,#[?_,?_,?_],#[?_,?_],Z]
     ·erw[?_,λb o n e=>?_]
      ·let(c',m',e,ok):=V2.bC
       erw[c',m',by rw[aU BX.symm];erw[e],ok]
      ·rw[aU (iL e nl)];erw[V2.same b o n e]
     ·rw[bQ,List.map_set]
     ·rw[xM];erw[li]
     ·intro z lN
      rcases List.mem_or_eq_of_mem_set lN with h|h
      ·rw[z0 z h];decide
      ·rw[h];lia
     ·erw[y,VN.mpr #[0,by rw[xM];lia,by rw[VR]],au]
     ·rw[ny ls];erw[lp]
     ·intro j x r ej oz
      have hj:j<pl.length:=by have:=(dZ.mp ej).1;rw[ny ls]at this;erw[this]
      have zF:=zU (cB hj) (cB (show j<(is.set 0 y).length by lia));rw[ej]at zF;have Kb:=dQ zF;by_cases h0:j=0
      ·subst h0
       rw[VR]at Kb;rw[er]at oz;cases oz
       lia
      ·rw[List.getElem_set_ne (jJ h0)]at Kb
       have Sl:=z0 _ (xN (show j<is.length by lia));have:=on.at' j _ r (cB hj) oz
       lia |true=>
     erw[bh ?_];have ls:is.length=pl.length:=by lia
     erw[b3,is,dl,#[li,λz lN=>?_,?_],#[?_,?_],Z]
     ·let(j,hj):=vd.mp lN
      have hjl:=(dZ.mp hj).1;have:=hz j z _ _ hj (cB (show j<pl.length by lia)) (cB (show j<rs.length by lia))
      lia
     ·let(z,lN,h0):=VW.mp ha
      erw[z,lN,by simpa using h0]
     ·rw[ny ls];erw[lp]
     ·intro j x r ej oz
      have hj:j<pl.length:=by have:=(dZ.mp ej).1;rw[ny ls]at this;erw[this]
      have zF:=zU (cB hj) (cB (show j<is.length by lia));rw[ej]at zF;have Kb:=dQ zF;have:=hz j _ _ r (cB (show j<is.length by lia)) (cB hj) oz
      lia
   rintro O H4 ⟨b4,is,dl,ok,vZ,rfl⟩;erw[_,Z,l,_,Z,.inl #[aE.of dl,λq H5 n5=>?_]];erw[_,Z,df Z,λt H6 n6=>?_];erw[k (.ref t) is (1+sp) H6 (gj (bc.of n6.at') (cN (bT _) (cN (gj (bc.of (n6.same _ _ n5.at')) (ml is)) (cN (fz _) dI)))) ok vZ au au (b4.trans (.fC b4.bC (n5.same.trans n6.same)))]
end
end _a
set_option maxHeartbeats 2000000
namespace _a
open PySem PySem.Spec PyProof.Rows _L _r _l _C _P _W _R
open _O (topR cornO mnO betR atO ownF leadF ownL OkI OkIs)
open _T (numS numIn? Free)
section
def lA(f:Int->Int->Int)(xs ys:List Int):List Int:=(xs.zip ys).map λp=>f p.1 p.2
theorem zK{b1 b2:Bool}{l1 l2 D:Addr}{xs ys:List Int}{te:TE}{Q:VK}{H H0:Hp}{n:Nat}(f:Int->Int->Int)(rest:_L.St)(qU:n=2)(h1:fS b1 K H l1 (xs.map V.int))(h2:fS b2 K H l2 (ys.map V.int))(nw:Nw H H0 D (.lst []))(hl:xs.length=ys.length)(hz:xs.length<=1000) (he:∀(u v:Int)(H2:Hp)(Q':VK),aF H H2->Q' (.int (f u v)) H2->te (some (.int u)::some (.int v)::rest) H2 Q')(hq:∀H',aF H H'->H' D=some (.lst ((lA f xs ys).map V.int))->Q (.ref D) H'): kF (rW K b1 b2 l1 l2) (zB K n (uA (gc 0) (uA (gc 1) CC))) jL te Q D (none::none::rest) H0:=by erw[zL (K:=K) (ds:=(lA f xs ys).map PyData.int) rest qU h1 h2 nw (by simp[lA]) (by simp[lA];lia) (jT _) ?_ λH' zs s' d' r'=>hq H' s' (by rw[<-r'.fE];erw[d'])];intro i x y d H7 Q' ex ey ed s7 hq;let(u,v,e1,e2,rfl,rfl):=zip2 hl.symm ex ey;let(m,em,rfl):=kR ed;unfold lA at em;rw[cj,(Ah (z:=(u,v))).mpr #[e1,e2]]at em;cases em;erw[he u v H7 Q' s7 (hq _ _ (aF.refl _) (fz _))]
theorem Aw:∀xs ys:List Int,lA (λa b=>a+b) xs ys=dH xs ys |[],_=>by cases‹List Int›<;>rfl |_::_,[]=>rfl |x::xs,y::ys=>by show(x+y)::lA _ xs ys=(x+y)::dH xs ys;rw[Aw xs ys]
inductive abH(K:aa)(vs:List V)(H:Hp)(Q:VK):Prop |mk (x:_)(iv:_)(pl:_)(ns:_)(sp:_)(h0:vs=[x,iv])(h1:RD K H x (eR pl))(h2:RD K H iv (du ns sp))(h3:pl.length=ns.length)(h4:pl.length<=3)(h5:∀v H',RD K H' v (eR (dH pl ns))->aF H H'->Q v H')
def MT(K:aa):Sp:=λvs H Q _=>abH K vs H Q
theorem NV:bp ["_law_here","_law_item_here"] ["_law_here","_law_item_here"] (aY EN):=bE aH
theorem a0P(F:FA K mg "_law_there" EN)(B:bK mg):aG P w K mg aw "_law_there" 1 (MT K):=by
 erw[F.has NV (λvs H Q E h=>?_) (λ_ _ _ _ _ _=>dF λ_ _=>rfl) (λf aI A outer s H vs Q E hr h=>?_)]
 ·let(x,iv,pl,ns,sp,rfl,_):=h
  rfl
 ·let(x,iv,pl,ns,sp,rfl,rx,ri,hl,l3,k):=h
  have nd:=NV.nd;let(pa,rfl,hp):=Qf rx;let(a,b,rfl,ha,hb):=o8 ri;erw[_,(aD (bL (bU (mC K Z hr.units) (px K (pv 1) aB) bf (bB _)) (aJ (aW (pv 0))) bO) (aJ (aW (cI (x:="tuple") (kh K Z) Z (B.at "tuple") j6 (ao (fi (N:=["_law_at","_law_step"]) (js:=[none,none]) rfl rfl rfl (lE K rfl false false rfl (B.at "zip") (ao (pv 0) (ao (px K (pv 1) aB) az))) (λ_ _ _ _ _=>(eB K rfl (n:=2) rfl (bS (bj 0 (fZ ay)) (bS (bj 1 (fZ ay)) ek)))) (λ_ _ _ _ _=>dJ) (λ_ _ _ _ _=>(aQ dv (pv 0) (pv 1)))) az))))),?_];erw[_,Z,.inr #[a,_,0,.str "line",Z,Z,ha,Z,.inr #[_,_,bT _,bT _,jU,jU,_,Z,?_]]];rw[lX,bM rfl];erw[bh ?_];erw[_,Z,_,Z,.inr #[a,_,1,.ref b,Z,Z,ha,Z,pa,b,Z,#[_,hp],#[_,hb],λD H1 n1=>?_]];erw[zK (b1:=false) (b2:=false) (λa b=>a+b) _ Z hp hb n1 hl au (λu v H2 Q' s2 q=>#[_,Z,_,Z,_,_,Z,Z,q]) λH2 s2 d2=>?_];rw[Aw]at d2;erw[D,_,Z,.inl #[aE.of d2,λt H3 n3=>?_]];erw[k _ H3 (gj (bc.of n3.at') (ml (dH pl ns))) (s2.trans n3.same)]
inductive abK(K:aa)(vs:List V)(H:Hp)(Q:VK):Prop |mk (b:_)(ns:_)(k:_)(h0:vs=[.ref b,.int k])(h1:bc K H b (ns.map V.int))(h2:fg ns.length 100 ns)(h3:ns.length<=3)(h4:0<=k)(h5:k<=1000)(h6:∀l H',H l=none->H' l=some (.lst ((fJ ns k).map V.int))->aF H H'->Q (.ref l) H')
def Ej(K:aa):Sp:=λvs H Q _=>abK K vs H Q
theorem a8a{k n q:Int}(hk:0<=k)(hq:0<q):(if n<0 then-((2*k*gL n+q)/(2*q))else(2*k*gL n+q)/(2*q))=eT (k*n) q:=by
 have e:2*k*gL n=2*((k*n).natAbs:Int):=by rw[zV,hZ,Int.natCast_mul,sF,Int.natAbs_of_nonneg hk]
 rw[e];show(if n<0 then-(iT (k*n) q)else iT (k*n) q)=eT (k*n) q;rcases LQ n 0 with hn|hn
 ·rw[bu hn]
  rcases LQ 0 k with h0|h0
  ·have:k*n<0:=Int.mul_neg_of_pos_of_neg h0 hn
   unfold eT;rw[bo au]
  ·have e0:k=0:=by lia
   rw[e0,Aj,Ia hq];have:=Ia hq;unfold eT at this;rw[bu au]at this
   lia
 ·rw[bo au]
  have:0<=k*n:=iG hk hn;unfold eT;rw[bu this]
theorem Y8{k n q:Int}(hk:0<=k)(hq:0<q):(1-2*(if decide (n<0)=true then 1 else 0))*((2*gL n*k+q)/(2*q))=eT (k*n) q:=by
 rw[<-a8a hk hq,show 2*gL n*k=2*k*gL n by rw[sF,sF,vh (gL n) k]];by_cases h:n<0
 ·rw[bu (bM h),bu h];lia
 ·rw[bo (λz=>h (jY z)),bo h];lia
theorem NX:bp ["_law_steps","_law_k","_law_lead"] ["_law_steps","_law_k"] (aY ER):=bE aH
theorem a0S(F:FA K mg "_law_stand" ER)(B:bK mg):aG P w K mg aw "_law_stand" 1 (Ej K):=by
 erw[F.has NX (λvs H Q E h=>?_) (λ_ _ _ _ _ _=>dF λ_ _=>rfl) (λf aI A outer s H vs Q E hr h=>?_)]
 ·let(b,ns,k,rfl,_):=h
  rfl
 ·let(b,ns,kk,rfl,hb,ok,l3,k0,k1,k):=h
  have nd:=NX.nd;let(lp,lm):=ok.lead;erw[_,(aD (pS 2 nd (fK (x:="max") (Iu K Z Z) Z (B.at "max") LF (ao (fi (N:=["_law_step"]) (js:=[none]) rfl rfl rfl (ko K rfl (pv 0)) (λ_ _ _ _ _=>(bj 0 (jb _))) (λ_ _ _ _ _=>dJ) (λ_ _ _ _ _=>(fK (x:="abs") pX rfl (B.at "abs") sA (ao (pv 0) az)))) az))) (aJ (aW (fi (N:=["_law_step","_law_lead","_law_k"]) (js:=[none,some 2,some 1]) Z Z Z (ko K Z (pv 0)) (λ_ _ _ _ _=>(bj 0 (show List.Nodup (["_law_step","_law_lead","_law_k"]:List Str) by decide+kernel))) (λ_ _ _ _ _=>dJ) (λ_ _ _ _ _=>(aQ cc (aQ iK aB (aQ cc aB (cI (x:="int") UP rfl (B.at "int") sj (ao (fj ku (pv 0) aB (bB _)) az)))) (aQ tR (aQ dv (aQ cc (aQ cc aB (fK (x:="abs") pX rfl (B.at "abs") sA (ao (pv 0) az))) (pv 2)) (pv 1)) (aQ cc aB (pv 1))))))))),?_];erw[_,Z,b,Z,#[_,hb],λD H0 nw=>?_];erw[pW (K:=K) (xs:=ns.map V.int) (ds:=(ns.map gL).map PyData.int) [] hb nw (by simp) (by simp;lia) (jT _) ?_ ?_]
  ·intro i x d H2 Q' ex ed s2 hq
   let(m,em,rfl):=kR ed;rw[cj]at em;cases en:ns[i]? with |none=>rw[en]at em;cases em |some n=>rw[en]at em;cases em;cases wC ex en;erw[_,Z,n,Z,hq _ _ (aF.refl _) (fz _)]
  intro H1 ys s1 d1 r1;rw[r1.fE]at d1;erw[D,_,Z,aE.of d1,by simpa using ok.ne,λM h1 h2=>?_];rw[II ok.ne h1 h2];erw[_,Z,b,Z,#[_,hb.go s1],λD2 H2 n2=>?_];erw[pW (K:=K) (xs:=ns.map V.int) (ds:=(fJ ns kk).map PyData.int) _ (hb.go s1) n2 (by simp[fJ]) (by simp;lia) (jT _) ?_ ?_]
  ·intro i x d H3 Q' ex ed s3 hq
   let(m,em,rfl):=kR ed;unfold fJ at em;rw[cj]at em;cases en:ns[i]? with |none=>rw[en]at em;cases em |some n=>
    rw[en]at em;cases em;cases wC ex en;have nb:=ok.bd n (gf en);have ab:gL n=(n.natAbs:Int):=zV n;have p0:0<=2*gL n*kk:=iG au k0;have p1:2*gL n*kk<=200*1000:=sE au k1 k0 au;have q:=hq (.int (eT (kk*n) (aK ns))) H3 (aF.refl _) (fz _);rw[<-Y8 k0 (show(0:Int)<aK ns by lia)]at q;erw[_,Z,_,_,Z,Z,.inr #[_,Z,_,_,Z,Z,.of_left (dc ay ay),_,_,Z,Z,?_]];erw[_,Z,n,Z,_,_,Z,Z,.of_left (dc ay ay),_,Z,_,_,Z,Z,.of_left (dc au au),_,Z,_,_,Z,Z,_,Z,_,_,Z,Z,.of_left (dc ay ay),_,_,Z,Z,#[au,AA au],_,_,Z,Z,.of_left (dc ?_ ?_),q]
    ·split<;>lia
    ·split<;>lia
  ·intro H3 zs s3 d3 r3
   rw[r3.fE]at d3;have fZ:H D2=none:=by cases e:H D2 with |none=>rfl |some o=>have:=s1 _ _ e;rw[n2.no]at this;cases this
   erw[k D2 H3 fZ d3 (s1.trans s3)]
end
open _T (numS numIn? Free)
section
def sR(row:List Int)(t p q:Int):List Str:="step"::(row.map numS++[numS t,eV p q])
theorem intOf{z:Str}{n:Int}(h:numIn? z=some n):intText? z=some n:=by unfold numIn? at h;cases h1:((_T.figs z).isEmpty|| !(_T.figs z).all _T.isFig)with |true=>rw[h1]at h;cases h |false=>rw[h1]at h;cases h2:(decide ((_T.figs z)[0]? =some 48)&& !decide (z="0"))with |true=>rw[h2]at h;cases h |false=>rw[h2]at h;erw[h]
theorem yV{n:Int}(h:iD n):intText? (numS n)=some n/\(numS n).length<=640:=by have:=qI h;erw[intOf (_T.yH au),au]
theorem Nm.b{n:Int}(h:Nm n):iD n:=xG h aH
theorem ED:("/":Str)=⟨#[47]⟩:=by decide+kernel
theorem a7U{p q:Int}:Free 32 (eV p q):=by
 unfold eV;split
 ·erw[_T.gW ay ay]
 ·intro hc
  rw[qj,qj,qq,qq,jj,jj]at hc;rcases hc with(hc|hc)|hc
  ·erw[_T.gW ay ay hc]
  ·revert hc;decide+kernel
  ·erw[_T.gW ay ay hc]
theorem XI{row:List Int}(t p q:Int)(h:row≠[]):"step "++fP row++" "++numS t++" "++eV p q=Txt.join ⟨#[32]⟩ (sR row t p q):=by
 have hn:row.map numS≠[]:=by simpa using h
 unfold sR;rw[<-me,ud _ _ _ (by simp),show row.map numS++[numS t,eV p q]=(row.map numS++[numS t])++[eV p q] by simp,join_snoc _ _ _ (by simp),join_snoc _ _ _ hn];have e:("step ":Str)="step"++" ":=by decide+kernel
 rw[e];unfold fP;simp only[LA]
theorem XH{row:List Int}{t p q:Int}(h:row≠[]):Txt.split ("step "++fP row++" "++numS t++" "++eV p q) " "=sR row t p q:=by
 rw[XI t p q h,me];erw[_T.sT (by simp[sR]) λz hz=>?_];rcases bJ.mp hz with rfl|hz
 ·erw[ir aH]
 ·rcases jj.mp hz with hz|hz
  ·let(i,_,rfl):=dB.mp hz
   erw[_T.gW ay ay]
  ·simp only[bJ,bZ,cG]at hz
   rcases hz with rfl|rfl
   ·erw[_T.gW ay ay]
   ·erw[a7U]
def rA(p q:Int):List Str:=if q=1 then[numS p]else[numS p,numS q]
theorem a7S{p q:Int}:Txt.split (eV p q) "/"=rA p q:=by
 unfold eV rA;split
 ·have:=_T.sT (c:=47) (zs:=[numS p]) (by simp) (λz hz=>by rw[cE.mp hz];erw[_T.gW ay ay])
  rw[ED];erw[this]
 ·have ej:numS p++"/"++numS q=Txt.join ⟨#[47]⟩ [numS p,numS q]:=by rw[<-ED];rfl
  rw[ej,ED];erw[_T.sT (by simp) λy hy=>?_];simp only[bJ,bZ,cG]at hy;rcases hy with rfl|rfl<;>erw[_T.gW ay ay]
theorem a7R{p q:Int}:rA p q++[("1":Str)]=numS p::numS q::(if q=1 then[]else[("1":Str)]):=by
 unfold rA;split
 ·next e=>rw[e];erw[jZ (λz=>[numS p,z]) aH]
 ·rfl
theorem aaN(a:V)(xs:List V)(x y:V):fb (a::(xs++[x,y])) (-1)=some y:=KS (by rw[List.getLast?_cons,List.getLast?_append];rfl)
theorem aaM(a:V)(xs:List V)(x y:V):fb (a::(xs++[x,y])) (-2)=some x:=by
 have hl:(a::(xs++[x,y])).length=xs.length+3:=by simp
 unfold fb kx;rw[bo ay,bu (by rw[hl];lia)];show(a::(xs++[x,y]))[((-2:Int)+((a::(xs++[x,y])).length:Int)).toNat]? =some x;rw[hl,show((-2:Int)+((xs.length+3:Nat):Int)).toNat=xs.length+1 by lia];show(xs++[x,y])[xs.length]? =some x;rw[xO (bV _),DL];rfl
theorem aa5(a:V)(xs:List V)(x y:V):jC (a::(xs++[x,y])) (some 1) (some (1+(xs.length:Int)))=xs:=by
 have hl:(a::(xs++[x,y])).length=xs.length+3:=by simp
 unfold jC;rw[hl,show(1+(xs.length:Int))=((1+xs.length:Nat):Int) by lia,show(1:Int)=((1:Nat):Int)from Z,_H.FV,_H.FV,show min 1 (xs.length+3)=1 by lia,show min (1+xs.length) (xs.length+3)-1=xs.length by lia];show(xs++[x,y]).take xs.length=xs;erw[List.take_left' rfl]
theorem XM(row:List Int)(t p q:Int)(l3:row.length<=3):∃W:List V,(sR row t p q).map V.str=W/\W.length=row.length+3/\fb W 0=some (.str "step")/\fb W (-1)=some (.str (eV p q))/\fb W (-2)=some (.str (numS t))/\jC W (some 1) (some (1+(row.length:Int)))=row.map λn=>V.str (numS n):=by
 have lr:(row.map (λn=>V.str (numS n))).length=row.length:=by rw[bW]
 have zS:=aaN (V.str "step") (row.map (λn=>V.str (numS n))) (V.str (numS t)) (V.str (eV p q));have at2:=aaM (V.str "step") (row.map (λn=>V.str (numS n))) (V.str (numS t)) (V.str (eV p q));have Df:=aa5 (V.str "step") (row.map (λn=>V.str (numS n))) (V.str (numS t)) (V.str (eV p q));rw[lr]at Df;erw[V.str "step"::(row.map (λn=>V.str (numS n))++[V.str (numS t),V.str (eV p q)]),by unfold sR;simp,by simp,cL (eg 0) rfl,zS,at2,Df]
theorem a7V(p q:Int):∃G:List V,(rA p q).map V.str=G/\G.length<=2/\fb G 0=some (.str (numS p))/\fb (G++[V.str "1"]) 1=some (.str (numS q)):=by
 have e:=jZ (List.map V.str) (a7R (p:=p) (q:=q));rw[oK]at e;erw[_,Z,?_,?_,?_]
 ·rw[bW];unfold rA;split<;>simp
 ·unfold rA
  split<;>erw[cL (eg 0) rfl]
 ·rw[show[V.str "1"]=List.map V.str [("1":Str)]from Z,e]
  erw[cL ay rfl]
inductive abY(K:aa)(vs:List V)(H:Hp)(Q:VK):Prop |mk (row:List Int)(t:Int)(p:Int)(q:Int)(h0:vs=[.str ("step "++fP row++" "++numS t++" "++eV p q),.int (row.length:Nat)])(h1:row≠[])(h2:row.length<=3)(h3:(∀n∈row,Nm n))(h4:iD t)(h5:iD p)(h6:iD q)(h7:∀tp l H',H' l=some (.lst (row.map V.int))->bc K H' tp [.ref l,.int t,.int p,.int q]->aF H H'->Q (.ref tp) H')
def N2(K:aa):Sp:=λvs H Q _=>abY K vs H Q
theorem Oa:bp ["_law_text","_law_axes","_law_words","_law_square"] ["_law_text","_law_axes"] (aY Fb):=bE aH
theorem a1t(F:FA K mg "_law_read_step" Fb)(B:bK mg):aG P w K mg aw "_law_read_step" 1 (N2 K):=by
 erw[F.has Oa (λvs H Q E h=>?_) (λ_ _ _ _ _ _=>dF λ_ _=>rfl) (λf aI A outer s H vs Q E hr h=>?_)]
 ·let(row,t,p,q,rfl,_):=h
  rfl
 ·let(row,t,p,q,rfl,YY,l3,hn,ht,hp,hq,k):=h
  have nd:=Oa.nd;have iP:sizeLine=16777216:=by decide
  have zl:("step "++fP row++" "++numS t++" "++eV p q:Str).length<=2000:=by
   have Cz:=tV hn l3;have wR:=qI ht;have T8:=CF hp hq;have zx:=fu;have h5:Str.length "step "=5:=by decide+kernel
   simp only[dC]
   lia
  erw[_,(aD (pS 2 nd (tO K Z (pv 0) (ao bf az))) (aD (pS 3 nd (tO K Z (px K (pv 2) (kO kI aB)) (ao bf az))) (aD (bL (PW.pt (iU (bU (mC K Z hr.units) (px K (pv 2) aB) bf (bB _)) (iU (bU (mC K Z hr.units) (dS K B (ao (pv 2) az)) (aQ dv (pv 1) aB) (bB _)) (jt (bU nS (dS K B (ao (pv 3) az)) aB (bB _)))))) (aJ (aW gT)) bO) (aJ (aW (iH (ao (fi (N:=["_law_word"]) (js:=[none]) Z Z Z (nP K Z (tL (sZ K Z) (pv 2) (qF aB) (qF (aQ dv aB (pv 1))))) (λ_ _ _ _ _=>(bj 0 (jb _))) (λ_ _ _ _ _=>dJ) (λ_ _ _ _ _=>(cI (x:="int") xg Z (B.at "int") sj (ao (pv 0) az)))) (ao (cI (x:="int") xg rfl (B.at "int") sj (ao (px K (pv 2) (kO kI aB)) az)) (ao (cI (x:="int") xg rfl (B.at "int") sj (ao (px K (pv 3) aB) az)) (ao (cI (x:="int") xg rfl (B.at "int") sj (ao (px K (aQ (Dl K rfl) (pv 3) (fA (ao bf az))) aB) az)) az)))))))))),?_];erw[_,Z,Z,_," ",Z,Z,aH,au,λl H1 n1=>?_];rw[XH YY]at n1;let(W,eW,lW,KW,zS,at2,Df):=XM row t p q l3;have hW:aE K H1 l ((sR row t p q).map V.str):=aE.of n1.at';rw[eW]at hW;have fl:=CF hp hq;erw[_,Z,_,Z,.inl #[l,_,-1,.str (eV p q),Z,Z,hW,zS,Z,_,"/",Z,Z,aH,au,λl2 H2 n2=>?_]];rw[a7S]at n2;let(G,eG,lG,g0,g1):=a7V p q;have h2:aE K H2 l2 ((rA p q).map V.str):=aE.of n2.at';rw[eG]at h2;have Cv:=hW.go n2.same;erw[_,Z,.inl #[l,_,0,.str "step",Z,Z,Cv,KW,.inr #[_,_,bT _,bT _,y9,y9,_,Z,?_]]];rw[lX,bM rfl];erw[bh ?_];erw[_,Z,l,_,Z,.inl Cv,_,Z,_,_,Z,Z,.inl #[_,_,Z,Z,_,Z,?_]];rw[lW,show(!decide (((row.length+3:Nat):Int)=(row.length:Int)+3))=false by rw[bM au];rfl];erw[bh ?_];erw[_,Z,l2,_,Z,.inl h2,_,_,Z,Z,_,Z,?_];rw[show decide ((2:Int)<(G.length:Int))=false from cD au];erw[bh ?_];erw[_,Z,_,Z,_,Z,_,_,Z,Z,_,Z,l,_,Z,.inl #[Cv,λl3' H3 n3=>?_]];have d3:=n3.at';rw[Df]at d3;erw[l3',Z,#[_,aE.of d3],λD H4 n4=>?_];erw[Di (K:=K) (ds:=row.map PyData.int) _ (aE.of d3) n4 (by simp) (by simp;lia) (jT _) ?_ ?_]
  ·intro i x d H5 Q' ex ed s5 hq
   let(m,em,rfl):=kR ed;rw[cj,em]at ex;cases ex;let(i1,i2):=yV (hn m (gf em)).b;erw[_,Z,_,m,Z,i1,i2,hq _ _ (aF.refl _) (fz _)]
  intro H5 zs s5 d5 r5;rw[r5.fE]at d5;have jN:=n3.same.trans s5;let(it1,it2):=yV ht;let(ip1,ip2):=yV hp;let(iq1,iq2):=yV hq;erw[_,Z,_,Z,.inl #[l,_,-2,.str (numS t),Z,Z,Cv.go jN,at2,_,t,Z,it1,it2,?_]];erw[_,Z,.inl #[l2,_,0,.str (numS p),Z,Z,h2.go jN,g0,_,p,Z,ip1,ip2,?_]];erw[_,Z,df Z,λl4 H6 n6=>?_];erw[l2,l4,_,_,Z,Z,h2.go (jN.trans n6.same),aE.of n6.at',by show _+1<=_;lia,λl5 H7 n7=>?_];erw[.inl #[l5,_,1,.str (numS q),Z,Z,aE.of n7.at',g1,_,q,Z,iq1,iq2,?_]];erw[df Z,λtp H8 n8=>?_];have s8:=n6.same.trans (n7.same.trans n8.same);erw[k tp D H8 (s8 _ _ d5) (bc.of n8.at') (n1.same.trans (n2.same.trans (jN.trans s8)))]
end
open _T (numS numIn? Free)
section
theorem Mc{ti:Int}{q:Rat}(h0:1<=ti):∀n:Nat,1<=n->jf ti q (n:Int)=true->∃T:Int,T<=n/\uP ti q T |0,h,_=>by lia |n+1,_,h=>by cases e:jf ti q (n:Int)with |false=>erw[((n+1:Nat):Int),eg _,au,h,by rw[Int.natCast_add,Int.natCast_one,Int.add_sub_cancel];erw[e]] |true=>
 by_cases hn:1<=n
 ·let(T,h1,h2):=Mc h0 n hn e
  erw[T,au,h2]
 ·have hn:n=0:=by lia
  subst hn;have e:=jY e;have hp:0<ti*ti*(q.den:Int):=j8 (j8 au au) (by have:=q.den_pos;lia);simp at e
  lia
theorem WX{ti T:Int}{q:Rat}{M:Nat}(h1:1<=ti)(h2:ti<=100)(qn:0<q.num)(hd:q.den<2^M)(T1:1<=T)(e:jf ti q (T-1)=false):T.natAbs<2^(M+7):=by
 have e:=Vx e;have hd0:=q.den_pos;have key:T-1<ti*(q.den:Int):=by
  erw[Int.lt_of_not_ge λJq=>e ?_];have b0:0<=ti*(q.den:Int):=iG bR bR;have s1:ti*(q.den:Int)*(ti*(q.den:Int))<=(T-1)*(T-1):=sE Jq Jq b0 bR;have s2:ti*ti*(q.den:Int)<=ti*(q.den:Int)*(ti*(q.den:Int)):=by
   have z:ti*(q.den:Int)*(ti*(q.den:Int))=ti*ti*(q.den:Int)*(q.den:Int):=by simp only[vh,Int.mul_left_comm,sF]
   rw[z];have p1:0<=ti*ti*(q.den:Int):=iG (iG bR bR) bR;have:=Am (show(1:Int)<=(q.den:Int) by omega) p1;rw[Ak]at this;erw[this]
  have p2:0<=(T-1)*(T-1):=iG bR bR;have s3:=Am (show(1:Int)<=q.num by omega) p2;rw[Ak]at s3;omega
 have m:ti*(q.den:Int)<=100*(q.den:Int):=Al h2 bR;rw[Nat.pow_add];omega
theorem X4{ti:Int}{q:Rat}(h1:1<=ti)(hq:0<q.num):uP ti q (lC ti q):=by have p:0<ti*ti*(q.den:Int):=j8 (j8 au au) (by have:=q.den_pos;lia);let(T,_,h):=Mc (q:=q) h1 (ti*ti*(q.den:Int)).toNat au (by rw[Int.toNat_of_nonneg au];erw[Ka hq au (eg _)]);rw[Ma au h];erw[h]
theorem WQ{q:Rat}{aA sp:Int}(h:q<=topR aA sp):q.num*10000<=(q.den:Int)*(sp*aA)^2:=by
 have hd:(0:Int)<q.den:=by have:=q.den_pos;lia
 unfold topR at h;have e1:q=Rat.divInt (q.num*10000) ((q.den:Int)*10000):=by rw[Rat.divInt_mul_right ay];exact(sf q).symm
 have e2:Rat.divInt ((sp*aA)^2) 10000=Rat.divInt ((sp*aA)^2*(q.den:Int)) ((q.den:Int)*10000):=by rw[vh (q.den:Int) 10000,Rat.divInt_mul_right au]
 rw[e2]at h;have h2:Rat.divInt (q.num*10000) ((q.den:Int)*10000)<=Rat.divInt ((sp*aA)^2*(q.den:Int)) ((q.den:Int)*10000):=eM (by rw[<-e1];erw[si]) h;have:=(_C.Kl (show(0:Int)<(q.den:Int)*10000 by lia)).mp h2;rw[vh (q.den:Int)];erw[this]
inductive abV(K:aa)(vs:List V)(H:Hp)(Q:VK):Prop |mk (m:V)(tp:Addr)(rl:Addr)(l:Addr)(M:aZ)(row:List Int)(q:Rat)(sp:Int)(aA:Int)(h0:vs=[m,.ref tp,.ref rl,.int sp,.int aA])(h1:RD K H m (aZ.D M))(h2:M.Ok)(h3:bc K H tp [.ref l,.int (lC M.t q),.int q.num,.int (q.den:Int)])(h4:aE K H l (row.map V.int))(h5:aE K H rl (row.map V.int))(h6:row.length<=3)(h7:1<=sp)(h8:sp<=20)(h9:10<=aA)(T9:aA<=200)(T7:0<q)(zw:q<=topR aA sp)(T5:Bd 1700 q)(h14:Q (.bl true) H)
def N1(K:aa):Sp:=λvs H Q _=>abV K vs H Q
theorem O4:bp ["_law_machine_here","_law_entry","_law_row","_law_speed","_law_rate","_law_found","_law_t","_law_p","_law_q","_law_due"] ["_law_machine_here","_law_entry","_law_row","_law_speed","_law_rate"] (aY EZ):=bE aH
theorem a0X(F:FA K mg "_law_step_right" EZ)(B:bK mg):aG P w K mg aw "_law_step_right" 1 (N1 K):=by
 erw[F.has O4 (λvs H Q E h=>?_) (λ_ _ _ _ _ _=>al5 λ_ _ _ _ _=>rfl) (λf aI A outer s H vs Q E hr h=>?_)]
 ·let(m,tp,rl,l,M,row,q,sp,aA,rfl,_):=h
  rfl
 ·let(m,tp,rl,l,M,row,q,sp,aA,rfl,rm,aM,ht,hl,lP,l3,s1,s2,r1,r2,q0,qt,bq,k):=h
  have nd:=O4.nd;let(a,b,rfl,ha,hb):=nY rm;have qn:=HU q0;have qd:(0:Int)<q.den:=by have:=q.den_pos;lia
  have vx:=aM.t1;let(T1,Te,Tn):=X4 (ti:=M.t) vx.1 qn;have Tb:=WX vx.1 vx.2 qn bq.den T1 Tn;have ti:=WQ qt;generalize hT:lC M.t q=T at ht T1 Te Tn Tb;have Te:=jY Te;have Tn:=Vx Tn;have wt:_L.Wd T:=j9 (n:=1707) Tb ay;have LW:_L.Wd (T-1):=j9 (n:=1707) au ay;have DW:_L.Wd (T*T):=j9 (n:=3414) (by rw[hZ];erw[mE (n:=1707) (m:=1707) Tb Tb]) ay;have Wc:_L.Wd ((T-1)*(T-1)):=j9 (n:=3414) (by rw[hZ];erw[mE (n:=1707) (m:=1707) au au]) ay;have m1:(M.t*M.t).natAbs<=100*100:=by rw[hZ];erw[qk au au]
  have m2:0<=sp*aA/\sp*aA<=20*200:=#[iG au au,sE s2 r2 au au];have bn:Bd 2000 q:=bq.mono ay;erw[_,(aD (fh (pv 1) (eB K Z (n:=4) Z (bS (bj 5 nd) (bS (bj 6 nd) (bS (bj 7 nd) (bS (bj 8 nd) ek)))))) (aD (bL (PW.pt (iU (bU (mC K Z hr.units) (pv 5) (pv 2) (bB _)) (iU (bU ku (pv 7) aB (bB _)) (jt (bU nS (aQ cc (pv 7) aB) (aQ cc (pv 8) (aQ Bz (aQ cc (pv 3) (pv 4)) aB)) (bB _)))))) (aJ (aW ju)) bO) (aD (pS 9 nd (aQ cc (aQ cc (px K (pv 0) aB) (px K (pv 0) aB)) (pv 8))) (aJ (aW (lF (fj nS (pv 6) aB (bB _)) (lF (fj BB (aQ cc (aQ cc (pv 6) (pv 6)) (pv 7)) (pv 9) (bB _)) (mx (a04 (fj (dW K Z hr.units) (pv 6) aB (bB _)) (mx (fj ku (aQ cc (aQ cc (aQ iK (pv 6) aB) (aQ iK (pv 6) aB)) (pv 7)) (pv 9) (bB _)))))))))))),?_];erw[_,Z,tp,_,Z,ht,Z,_,_,Z,_,_,Z,_,_,Z,_,_,Z,Z,?_];have HN:dy 1 (.list (row.map PyData.int)):=iC.lst (n:=0) λd hd=>by let(z,_,rfl):=dB.mp hd;erw[.int z]
  erw[_,Z,_,Z,.inr #[_,_,GS hl (ml row),GS lP (ml row),HN.shaped ay,HN.shaped ay,_,Z,?_]];rw[HN.refl];erw[bh ?_];erw[_,Z,_,_,Z,Z,_,Z,?_];rw[cD (show¬q.num<1 by lia)];erw[bh ?_];erw[_,Z,_,_,Z,Z,jk bn.wn.bits (AA ay).bits,?_];erw[_,Z,_,Z,_,Z,_,_,Z,Z,.of_left (dc au au),_,_,Z,Z,#[ay,ay,au],_,_,Z,Z,jk bn.wd.bits (AA ?_).bits,?_]
  ·show((sp*aA)^2).natAbs<2^64
   rw[gC,gC,nJ,m7,hZ];have:(sp*aA).natAbs*(sp*aA).natAbs<=4000*4000:=qk au au
   lia
  erw[_,_,Z,Z,_,Z,?_];rw[cD (show¬q.num*10000>(q.den:Int)*(sp*aA)^(2:Int).toNat by show¬q.num*10000>(q.den:Int)*(sp*aA)^2;lia)];erw[bh ?_];erw[_,Z,.inr #[a,_,4,.int M.t,Z,Z,ha,Z,?_]];erw[_,Z,.inr #[a,_,4,.int M.t,Z,Z,ha,Z,_,_,Z,Z,.of_left (dc au au),_,Z,_,_,Z,Z,.of_left (dc au au),?_]];erw[_,Z,_,_,Z,Z,_,Z,?_];rw[bM (show T>0 by lia)];erw[bF ?_];erw[_,Z,_,Z,_,_,Z,Z,jk wt.bits wt.bits,_,Z,_,_,Z,Z,jk DW.bits bn.wn.bits,_,Z,_,_,Z,Z,_,Z,?_];rw[bM (show T*T*q.num>=M.t*M.t*(q.den:Int)from Te)];erw[bF ?_];erw[_,Z,.inl #[_,_,Z,Z,_,Z,?_]];by_cases h1:T=1
  ·rw[bM h1]
   erw[bF k]
  ·rw[cD h1]
   erw[bh ?_];erw[_,Z,_,_,Z,Z,_,Z,_,_,Z,Z,_,_,Z,Z,jk LW.bits LW.bits,_,Z,_,_,Z,Z,jk Wc.bits bn.wn.bits,_,Z,_,_,Z,Z,?_];rw[bM (show(T-1)*(T-1)*q.num<M.t*M.t*(q.den:Int) by lia)];erw[k]
end
end _a
set_option maxHeartbeats 4000000
namespace _a
open PySem PySem.Spec PyProof.Rows _L _r _l _C _P _W _R
open _O (topR cornO mnO betR atO ownF leadF ownL OkI OkIs)
open _T (numS numIn? Free)
section
theorem kT{n:Nat}(h:n+64<cLine):n+1<cLine:=Af (Nat.add_le_add_left ay n) h
theorem gE{X:Cx}{k:Nat}{o i:Expr}{td ty:TE}{pos:Pos}(hr:cF k X.A)(ho:PE X o td)(hi:PE X i ty)(hs:autoParam (DA i) d8_._auto_1):PE X (.Subscript o i pos) (Mo td ty):=Qm (kT hr.units) ho hi hs
def fo(p w d r:V):List (Key×V):=[(.inr "place",p),(.inr "waits",w),(.inr "done",d),(.inr "rate",r)]
section
variable {H:Hp} {a:Addr} {p w d r x:V}
theorem dg{aO:List (Key×V)}{z:Str}{v:V}(h:H a=some (.dK aO))(e:jn aO (.inr z)=some v):uW H a (.str z) (some v):=by rw[<-e];erw[uW.k (k:=Sum.inr z) h]
theorem dp{aO RU:List (Key×V)}{z:Str}{v:V}(h:H a=some (.dK aO))(e:putK aO (.inr z) v=RU)(hl:aO.length<=13):xt H a (.str z) v (_L.upd H a (.dK RU)):=by rw[<-e];erw[xt.k (k:=Sum.inr z) h (Af hl ay)]
theorem JP:jn (fo p w d r) (.inr "place")=some p:=by kernel_rfl
theorem ky:jn (fo p w d r) (.inr "waits")=some w:=by kernel_rfl
theorem wU:jn (fo p w d r) (.inr "done")=some d:=by kernel_rfl
theorem a7z:jn (fo p w d r) (.inr "rate")=some r:=by kernel_rfl
theorem a0l:putK (fo p w d r) (.inr "place") x=fo x w d r:=by kernel_rfl
theorem Bx:putK (fo p w d r) (.inr "waits") x=fo p x d r:=by kernel_rfl
theorem Hs:putK (fo p w d r) (.inr "done") x=fo p w x r:=by kernel_rfl
theorem a0k:putK (fo p w d r) (.inr "rate") x=fo p w d x:=by kernel_rfl
theorem pZ:(fo p w d r).length<=13:=by show 4<=13;decide
end
structure hV(K:aa)(H:Hp)(b la wl:Addr)(S:aV):Prop where
 e:H b=some (.dK (fo (.ref la) (.ref wl) (.int S.dn) (.int S.aA)))
 l:H la=some (.lst ((dh S).map V.int))
 w:∃ys,H wl=some (.lst ys)/\aP K H ys S.ds
theorem hV.nl{H:Hp}{b la wl:Addr}{S:aV}(h:hV K H b la wl S):b≠la:=iM h.e h.l (by intro z;cases z)
theorem hV.nw{H:Hp}{b la wl:Addr}{S:aV}(h:hV K H b la wl S):b≠wl:=by let(ys,e,_):=h.w;erw[iM h.e e (by intro z;cases z)]
theorem hV.same{H H':Hp}{b la wl:Addr}{S:aV}(h:hV K H b la wl S)(s:aF H H'):hV K H' b la wl S:=by let(ys,e,r):=h.w;erw[s _ _ h.e,s _ _ h.l,ys,s _ _ e,aP.mono s _ r]
theorem ab2{pl ns:List Int}(h:ns.length=pl.length)(k:Nat):dH (dH pl (fJ ns k)) (gs ns k)=dH pl (fJ ns (k+1)):=by
 apply DR;intro i;unfold dH fJ gs;simp only[VS,cj];cases pl[i]? <;>cases ns[i]? <;>simp
 lia
theorem ab1{pl ns:List Int}(h:ns.length=pl.length)(hq:0<aK ns):dH pl (fJ ns 0)=pl:=by
 apply DR;intro i;unfold dH fJ;simp only[VS,cj];by_cases hi:i<pl.length
 ·rw[cB hi,cB (show i<ns.length by lia)]
  simp[Ia (show(0:Int)<(aK ns:Int) by lia)]
 ·rw[vf au]
theorem XO{ns:List Int}(hq:0<aK ns):fJ ns (aK ns)=ns:=by
 unfold fJ;have:(λz=>eT ((aK ns:Int)*z) (aK ns:Int))=λz=>z:=by funext z;erw[a33 au]
 rw[this,List.map_id']
theorem Qd{S:aV}{ns:List Int}{sp:Int}(eo:S.os[0]? =some (some (ns,sp)))(h:ns.length=S.pl.length)(hq:0<aK ns):dh S=dH S.pl (fJ ns S.dn):=by
 unfold dh;by_cases h0:S.dn=0
 ·rw[bu h0,h0];exact(ab1 h hq).symm
 ·rw[bo h0,eo]
theorem ZQ{M:aZ}{S:aV}{ns:List Int}{sp:Int}(eo:S.os[0]? =some (some (ns,sp)))(h:ns.length=S.pl.length)(hq:0<aK ns)(hd:S.dn<aK ns):dH (dh S) (gs ns S.dn)=dh (fL ns (eU M S ns sp)):=by
 rw[Qd eo h hq,ab2 h];unfold fL;by_cases he:S.dn+1=aK ns
 ·rw[bu (show(eU M S ns sp).dn=aK ns from he)]
  obtain⟨jQ,jz⟩:∃jQ,S.os=some (ns,sp)::jQ:=by cases e:S.os with |nil=>rw[e]at eo;simp at eo |cons a r=>rw[e]at eo;cases eo;erw[r,rfl]
  have e1:((S.dn:Int)+1)=(aK ns:Int):=by lia
  rw[e1,XO hq];unfold dh gB;have:(eU M S ns sp).os=some (ns,sp)::jQ:=jz;rw[this];rfl
 ·rw[bo (show¬(eU M S ns sp).dn=aK ns from he)]
  unfold dh;rw[bo (show¬(eU M S ns sp).dn=0 from Nat.succ_ne_zero _)];have:(eU M S ns sp).os[0]? =some (some (ns,sp)):=eo;rw[this];show _=dH S.pl (fJ ns ((S.dn+1:Nat):Int));rfl
theorem LU(f:Int->Int->Int)(g h:Int->Int):∀ns:List Int,lA f (ns.map g) (ns.map h)=ns.map λz=>f (g z) (h z) |[]=>rfl |x::xs=>by show f (g x) (h x)::lA f (xs.map g) (xs.map h)=_;rw[LU f g h xs];rfl
theorem YV{ns:List Int}(k:Nat):lA (λa b=>a-b) (fJ ns ((k:Int)+1)) (fJ ns (k:Int))=gs ns k:=LU _ _ _ ns
theorem LY{y:Str}(h:kY y):SeqAt.shaped (.str y)=true/\¬y="line":=by rcases h with rfl|rfl|rfl<;>erw[aH,aH]
theorem NM(d:ag)(S:aV):(cX d S).os=S.os/\(cX d S).ds=S.ds/\(cX d S).dn=S.dn/\(cX d S).pl=S.pl/\(cX d S).aA=S.aA:=by
 unfold cX;split
 ·split
  ·erw[Z,Z,Z,Z,Z]
  ·split<;>erw[Z,Z,Z,Z,Z]
 ·erw[Z,Z,Z,Z,Z]
theorem a0u{M:aZ}{D:Nat}{S:aV}{e:ag}(ok:cC M D S)(eo:S.os[0]? =some none):(gB (cX e S)).dn=0/\(gB (cX e S)).aA=S.aA/\(gB (cX e S)).ds=S.ds.tail/\dh (gB (cX e S))=dh S/\S.dn=0:=by
 have d0:S.dn=0:=by
  rcases ok.dn with e|⟨mz,mi,e1,e2⟩
  ·erw[e]
  ·rw[eo]at e1;cases e1
 let(f1,f2,f3,f4,f5):=NM e S;obtain⟨jQ,jz⟩:∃jQ,S.os=none::jQ:=by cases e:S.os with |nil=>rw[e]at eo;simp at eo |cons a r=>rw[e]at eo;cases eo;erw[r,rfl]
 rw[jz]at f1;unfold gB;rw[f1];erw[Z,f5,by show(cX e S).ds.tail=_;rw[f2],?_,d0];unfold dh;rw[bu d0,bu rfl];erw[f4]
theorem ints_map_inj:∀{a b:List Int},a.map PyData.int=b.map PyData.int->a=b |[],[],_=>rfl |[],_::_,h=>nomatch h |_::_,[],h=>nomatch h |x::a,y::b,h=>by injection h with h1 h2;injection h1 with h1;rw[h1,ints_map_inj h2]
def oG(H:Hp)(l l':Addr):Prop:=l'=l\/H l'=none
inductive ach(K:aa)(vs:List V)(H:Hp)(Q:VK):Prop |mk (m:V)(b:Addr)(la:Addr)(wl:Addr)(M:aZ)(D:Nat)(S:aV)(S1:aV)(e:ag)(h0:vs=[m,.ref b,.str (iu e)])(h1:RD K H m (aZ.D M))(h2:hV K H b la wl S)(h3:RG M D S)(h4:One M S e S1)(h5:∀dE cY H',hV K H' b dE cY S1->bP [b] H H'->oG H la dE->oG H wl cY->Q (.bl true) H')
def Nd(K:aa):Sp:=λvs H Q _=>ach K vs H Q
theorem Oy:bp ["_law_machine_here","_law_book","_law_text","_law_item_here","_law_ahead","_law_row","_law_entry"] ["_law_machine_here","_law_book","_law_text"] (aY FF):=bE aH
theorem a1A(F:FA K mg "_law_one_told" FF)(B:bK mg)(JF:aG P w K mg aw "_law_item_text" 1 (yd K))(Cw:aG P w K mg aw "_law_stand" 1 (Ej K))(a77:aG P w K mg aw "_law_read_step" 1 (N2 K))(a75:aG P w K mg aw "_law_step_right" 1 (N1 K)):aG P w K mg aw "_law_one_told" 2 (Nd K):=by
 erw[F.has Oy (λvs H Q E h=>?_) (λ_ _ _ _ _ _=>kX λ_ _ _=>rfl) (λf aI A outer s H vs Q E hr h=>?_)]
 ·let(m,b,la,wl,M,D,S,S1,e,rfl,_):=h
  rfl
 ·let(m,b,la,wl,M,D,S,S1,e,rfl,rm,bk,g,one,k):=h
  have nd:=Oy.nd;let(ys,hw,eQ):=bk.w;have ok:=g.ok;have aM:=g.aM;erw[_,(aD (pS 3 nd (px K (gE hr (pv 1) bf) aB)) (aD (bL (bU (mC K Z hr.units) (px K (pv 3) aB) bf (bB _)) (aD (p4 (kT hr.units) (pv 1) bf (tL (sZ K Z) (gE hr (pv 1) bf) (qF aB) vS) Z) (aJ (aW (fj jR (pv 2) (pf JF hr (ao (pv 3) az)) (bB _))))) bO) (aD (pS 4 nd (pf Cw hr (ao (px K (pv 3) aB) (ao (gE hr (pv 1) bf) az)))) (aD (tJ (i0:=5) nd Z (Or.inl Z) (N:=["_law_one","_law_other"]) (js:=[none,none]) Z Z Z (lE K Z true true Z (B.at "zip") (ao (pf Cw hr (ao (px K (pv 3) aB) (ao (aQ dv (gE hr (pv 1) bf) aB) az))) (ao (pv 4) az))) (λ_ _ _ _ _=>(eB K rfl (n:=2) rfl (bS (bj 0 (fZ ay)) (bS (bj 1 (fZ ay)) ek)))) (λ_ _ _ _ _=>dJ) (λ_ _ _ _ _=>(aQ iK (pv 0) (pv 1)))) (aD (pS 6 nd (pf a77 hr (ao (pv 2) (ao (dS K B (ao (px K (pv 0) aB) az)) az)))) (aD (bL (PW.pt (iU (bU BA (pv 6) gT (bB _)) (jt (dj (cO (pf a75 hr (ao (pv 0) (ao (pv 6) (ao (pv 5) (ao (px K (pv 3) aB) (ao (gE hr (pv 1) bf) az))))))))))) (aJ (aW ju)) bO) (aD (p4 (kT hr.units) (pv 1) bf (fi (N:=["_law_at","_law_step"]) (js:=[none,none]) Z Z Z (lE K Z true true Z (B.at "zip") (ao (gE hr (pv 1) bf) (ao (pv 5) az))) (λ_ _ _ _ _=>(eB K rfl (n:=2) rfl (bS (bj 0 (fZ ay)) (bS (bj 1 (fZ ay)) ek)))) (λ_ _ _ _ _=>dJ) (λ_ _ _ _ _=>(aQ dv (pv 0) (pv 1)))) rfl) (aD (p4 (kT hr.units) (pv 1) bf (aQ dv (gE hr (pv 1) bf) aB) Z) (aD (ig (bL (bU (dW K Z hr.units) (gE hr (pv 1) bf) (fK (x:="max") (Iu K Z Z) Z (B.at "max") LF (ao (fi (N:=["_law_step"]) (js:=[none]) rfl rfl rfl (ko K rfl (px K (pv 3) aB)) (λ_ _ _ _ _=>(bj 0 (jb _))) (λ_ _ _ _ _=>dJ) (λ_ _ _ _ _=>(fK (x:="abs") pX rfl (B.at "abs") sA (ao (pv 0) az)))) az)) (bB _)) (aD (p4 (kT hr.units) (pv 1) bf (tL (sZ K Z) (gE hr (pv 1) bf) (qF aB) vS) Z) (aJ (p4 (kT hr.units) (pv 1) bf aB Z))) bO)) (aJ (aW ju))))))))))),?_];cases one with
  |@iJ _ eo ed nh=>
   let(y0,ey,ry):=eQ.get 0 ed;let(o,dX,it):=ok.item ed;rw[eo]at dX;cases dX;have tx:=ok.tx aM e (gf ed);have nl:∀ns sp,e≠du ns sp:=λns sp ee=>by
    rcases it.it with⟨_,_,_,z⟩|⟨w,x,e2,hw,_⟩
    ·cases z
    ·rw[e2]at ee
     erw[sN (show kY w from hw) #[ns,sp,ee]]
   rcases vt ry tx.ti with⟨ns,sp,_,_,ee,_⟩|⟨wd,u,a,yv,ee,Cb,rfl,wI,_⟩
   ·exact(nl ns sp ee).elim
   let(xQ,DZ):=LY Cb;erw[_,Z,b,_,Z,dg bk.e ky,.inl #[wl,ys,0,.ref a,Z,Z,aE.of hw,cL (eg 0) ey,?_]];erw[_,Z,.inr #[a,_,0,.str wd,Z,Z,wI,Z,.inr #[_,_,bT _,bT _,xQ,jU,_,Z,?_]]];rw[lX,cD DZ];erw[bF ?_];erw[_,Z,b,_,Z,dg bk.e ky,_,Z,wl,_,Z,.inl #[aE.of hw,λl2 H1 n1=>#[_,Z,b,_,Z,dp (n1.same _ _ bk.e) Bx pZ,?_]]];have d1:=n1.at';rw[Kq]at d1;have e1:=n1.same _ _ bk.e;have v2:cw H1 (_L.upd H1 b (.dK (fo (.ref la) (.ref l2) (.int S.dn) (.int S.aA)))):=.upd e1 trivial;have vH:=n1.same.v.trans v2;erw[_,Z,_,Z,.ref a,e,Z,RD.v vH _ it.it.no ry,tx.ti,λH2 s2=>?_];let(q1,q2,q3,q4,q5):=a0u (e:=e) ok eo;have bH:bP [b] H H2:=λx o' ex hx=>s2 _ _ (by rw[aU (λz=>hx (by rw[z];erw[.head _]))];erw[n1.same _ _ ex]);have n2:H l2=none:=n1.no;erw[Z,?_];rw[CS tx.ti nl,bM rfl];have lb:l2≠b:=λz=>by rw[z,bk.e]at n2;cases n2
   erw[k la l2 H2 #[?_,?_,ys.drop 1,s2 _ _ (by rw[aU lb];erw[d1]),?_] bH (.inl Z) (.inr n2)]
   ·rw[q1,q2]
    have:H2 b=_:=s2 _ _ bQ;rw[q5]at this;erw[this]
   ·rw[q4]
    erw[bH _ _ bk.l (λz=>bk.nl (cE.mp z).symm)]
   ·rw[q3]
    have r2:=aP.mono s2 _ (aP.v vH _ ok.row.no eQ);cases je:S.ds with |nil=>rw[je]at ed;cases ed |cons d0 Kg=>rw[je]at r2;let(u0,us,eu,_,r3):=r2.cons_inv;rw[eu];erw[r3]
  |@line ns sp eo nh=>
   obtain⟨d0,ed,wF⟩:∃d0,S.ds[0]? =some d0/\d0=du ns sp:=by
    have hl:0<S.ds.length:=by rw[ok.row.len];exact(dZ.mp eo).1
    erw[S.ds[0],cB hl,?_];rcases ok.row.it 0 _ _ (cB hl) eo with⟨mz,mi,e1,e2⟩|⟨_,_,_,_,_,e2⟩
    ·cases e2;erw[e1]
    ·cases e2
   subst wF;let(y0,ey,ry):=eQ.get 0 ed;let(a,bb,rfl,ha,uq):=o8 ry;let(cU,vD,yh):=ok.row.ok 0 ns sp eo;have n3:=aM.n3;have qR:=cU.len;have qH:fg ns.length 100 ns:=#[Z,cU.bd,cU.nz];have hd:S.dn<aK ns:=by
    rcases ok.dn with e|⟨mz,mi,e1,e2⟩
    ·rw[e];erw[cU.lead.1]
    ·rw[eo]at e1;cases e1;erw[e2]
   have IM:=cU.lead.2;have hn:S.os≠[]:=λe=>by rw[e]at eo;simp at eo
   let(R1,R2):=Bo ok.raw aM hn;have D1:=ok.D1;have hD:=g.hD;have tI:=aM.r1;have pM:=aM.f1;have mD:=Iq (r:=M.r) (f:=M.f) (left:=(aK ns:Int)-S.dn) au au au ok.pd ((AK S.aA sp).mono au) (R1.mono au) ok.aR nh;have mT:gG M S ns sp<=topR S.aA sp:=Io;have mL:gG M S ns sp<=1600:=eM mT (xV vD yh ok.dM ok.eF);have mP:0<gG M S ns sp:=Ip tI.1 pM.1 au ok.pd.nn (E7 vD ok.dM) R1.nn ok.aR nh;have bd:Bd 1700 (gG M S ns sp):=(mD.bd (eM mL aH)).mono au;have te:=(One.line (M:=M) eo nh).xW ok aM hD;obtain⟨rN,tN,pN,qN⟩:(∀n∈gs ns S.dn,Nm n)/\iD (lC M.t (gG M S ns sp))/\iD (gG M S ns sp).num/\iD ((gG M S ns sp).den:Int):=by
    rcases te with⟨ti,SD⟩|⟨ms,t,x,y,ee,h3,h4,h5,h6,h7⟩
    ·rcases ti with⟨ms,adX,ee,_⟩|⟨w',i,ee,_⟩|⟨w',z,ee,_⟩<;>cases ee
    ·have ee:PyData.tuple [.str "step",.tuple ((gs ns S.dn).map PyData.int),.int (lC M.t (gG M S ns sp)),.tuple [.int (gG M S ns sp).num,.int ((gG M S ns sp).den:Int)]]=_:=ee
     injection ee with ee;injection ee with _ ee;injection ee with e1 ee;injection ee with e2 ee;injection ee with e3 _;injection e1 with e1;injection e2 with e2;injection e3 with e3;injection e3 with e3 e4;injection e4 with e4 _;injection e3 with e3;injection e4 with e4;have e1:gs ns S.dn=ms:=ints_map_inj e1;rw[e1,e2,e3,e4];erw[h4,h5,h6,h7]
   have ez:iu (qS M S ns sp)="step "++fP (gs ns S.dn)++" "++numS (lC M.t (gG M S ns sp))++" "++eV (gG M S ns sp).num ((gG M S ns sp).den:Int):=CQ _ _ _ _;have qQ:(gs ns S.dn).length=M.rs.length:=by unfold gs;rw[bW,qR]
   let(ma,mb,rfl,jd,jV):=nY rm;rw[ez];erw[_,Z,b,_,Z,dg bk.e ky,.inl #[wl,ys,0,.ref a,Z,Z,aE.of hw,cL (eg 0) ey,?_]];erw[_,Z,.inr #[a,_,0,.str "line",Z,Z,ha,Z,.inr #[_,_,bT _,bT _,jU,jU,_,Z,?_]]];rw[lX,bM rfl];erw[bh ?_];erw[_,Z,.inr #[a,_,1,.ref bb,Z,Z,ha,Z,_,Z,b,_,Z,dg bk.e wU,bb,ns,(S.dn:Int),Z,uq,qH,au,au,au,λl1 H1 n1 d1 s1=>?_]];erw[_,Z,.inr #[a,_,1,.ref bb,Z,Z,ha.go s1,Z,_,Z,b,_,Z,dg (s1 _ _ bk.e) wU,_,_,Z,Z,bb,ns,(S.dn:Int)+1,Z,uq.go s1,qH,au,au,au,λl2 H2 n2 d2 s2=>?_]];have xc:=s2 _ _ d1;erw[_,Z,l2,l1,Z,#[_,aE.of d2],#[_,aE.of xc],λDr H3 Ii=>?_];erw[zK (b1:=true) (b2:=true) (λa b=>a-b) _ Z (aE.of d2) (aE.of xc) Ii (by simp[fJ]) (by simp[fJ];lia) (λu v H' Q' s' q'=>#[_,Z,_,Z,_,_,Z,Z,q']) λH4 s4 d4=>?_];rw[YV]at d4;have t7:=s1.trans (s2.trans s4);erw[_,Z,_,Z,.inr #[ma,_,0,.ref mb,Z,Z,jd.go t7,Z,mb,_,Z,.inr (jV.go t7),?_]];erw[gs ns S.dn,_,_,_,by rw[bW,qQ],λz=>by rw[z]at qQ;simp at qQ;lia,au,rN,tN,pN,qN,λtp lr H5 CW htp s5=>?_];have jN:=t7.trans s5;have Ko:=s5 _ _ d4;erw[_,Z,Z,_,Z,bh ?_];erw[_,Z,_,Z,_,Z,_,Z,.inr #[a,_,2,.int sp,Z,Z,ha.go jN,Z,_,Z,b,_,Z,dg (jN _ _ bk.e) a7z,?_]];erw[.ref ma,tp,Dr,lr,M,gs ns S.dn,gG M S ns sp,sp,S.aA,Z,RD.mono jN _ rm,aM,htp,aE.of CW,aE.of Ko,au,vD,yh,ok.dM,ok.eF,mP,mT,bd,_,Z,bh ?_];have SF:=jN _ _ bk.l;have Ry:=Bt ok;erw[_,Z,b,_,Z,dg (jN _ _ bk.e) JP,_,Z,la,Dr,Z,#[_,aE.of SF],#[_,aE.of Ko],λDp H6 n6=>?_];erw[zK (b1:=true) (b2:=true) (λa b=>a+b) _ Z (aE.of SF) (aE.of Ko) n6 (by rw[Ry,qQ]) au (λu v H' Q' s' q'=>#[_,Z,_,Z,_,_,Z,Z,q']) λH7 s7 d7=>?_];rw[Aw,ZQ (M:=M) eo (by rw[qR,ok.pl]) cU.lead.1 hd]at d7;have vL:=jN.trans s7;erw[_,Z,b,_,Z,dp (vL _ _ bk.e) a0l pZ,?_];erw[_,Z,b,_,Z,dg bQ wU,_,_,Z,Z,_,Z,b,_,Z,dp bQ Hs pZ,?_];rw[E5];have Ig:H Dp=none:=by cases e:H Dp with |none=>rfl |some o=>have:=jN _ _ e;rw[n6.no]at this;cases this
   have pb:Dp≠b:=λz=>by rw[z,bk.e]at Ig;cases Ig
   generalize hG:_L.upd H7 b (.dK (fo (.ref Dp) (.ref wl) (.int ((S.dn:Int)+1)) (.int S.aA)))=HG;have eG:HG b=some (.dK (fo (.ref Dp) (.ref wl) (.int ((S.dn:Int)+1)) (.int S.aA))):=by rw[<-hG];erw[bQ]
   have vG:cw H7 HG:=by rw[<-hG];erw[.upd (vL _ _ bk.e) trivial]
   have bG:bP [b] H HG:=λx o' ex hx=>by rw[<-hG,aU (λz=>hx (by rw[z];erw[.head _]))];erw[vL _ _ ex]
   have dG:HG Dp=some (.lst ((dh (fL ns (eU M S ns sp))).map V.int)):=by rw[<-hG,aU pb];erw[d7]
   have wG:=bG _ _ hw (λz=>bk.nw (cE.mp z).symm);have rG:aP K HG ys S.ds:=aP.v (vL.v.trans vG) _ ok.row.no eQ;have JH:bc K HG a [.str "line",.ref bb,.int sp]/\bc K HG bb (ns.map V.int):=#[bc.v (vL.v.trans vG) ha,bc.v (vL.v.trans vG) uq];erw[λ_ H'=>∃cY,hV K H' b Dp cY (fL ns (eU M S ns sp))/\bP [b] H H'/\oG H wl cY,?_,λO H' #[cY,h1,h2,h3]=>k Dp cY H' h1 h2 (.inr Ig) h3];erw[_,Z,b,_,Z,dg eG wU,_,Z,.inr #[a,_,1,.ref bb,Z,Z,JH.1,Z,bb,Z,#[_,JH.2],λD8 H8 n8=>?_]];erw[pW (K:=K) (xs:=ns.map V.int) (ds:=(ns.map gL).map PyData.int) [] JH.2 n8 (by simp) (by simp;lia) (jT _) ?_ ?_]
   ·intro i x d H9 Q' ex lY s9 hq
    let(m,em,rfl):=kR lY;rw[cj]at em;cases en:ns[i]? with |none=>rw[en]at em;cases em |some n=>rw[en]at em;cases em;cases wC ex en;erw[_,Z,n,Z,hq _ _ (aF.refl _) (fz _)]
   intro H9 zs s9 d9 r9;rw[r9.fE]at d9;erw[D8,_,Z,aE.of d9,by simpa using qH.ne,λMx h1 h2=>?_];rw[II qH.ne h1 h2];erw[.inl #[_,_,Z,Z,_,Z,?_]];have e9:=s9 _ _ eG;have w9:=s9 _ _ wG;by_cases he:S.dn+1=aK ns
   ·rw[bM (show((S.dn:Int)+1)=(aK ns:Int) by lia)]
    erw[bF ?_];erw[_,Z,b,_,Z,dg e9 ky,_,Z,wl,_,Z,.inl #[aE.of w9,λl5 HA nA=>#[_,Z,b,_,Z,dp (nA.same _ _ e9) Bx pZ,?_]]];erw[_,Z,b,_,Z,dp bQ Hs pZ,?_];rw[E5];have dA:=nA.at';rw[Kq]at dA;have eA:=nA.same _ _ e9;have vA:cw HA (_L.upd HA b (.dK (fo (.ref Dp) (.ref l5) (.int 0) (.int S.aA)))):=.upd eA trivial;have n5:H l5=none:=by cases e:H l5 with |none=>rfl |some o=>
     by_cases z:l5=b
     ·rw[z]at nA;rw[nA.no]at e9;cases e9
     ·have:=s9 _ _ (bG _ _ e (λy=>z (cE.mp y)));rw[nA.no]at this;cases this
    have lb:l5≠b:=λz=>by rw[z,bk.e]at n5;cases n5
    obtain⟨jQ,jz⟩:∃jQ,S.os=some (ns,sp)::jQ:=by cases e:S.os with |nil=>rw[e]at eo;simp at eo |cons x r=>rw[e]at eo;cases eo;erw[r,rfl]
    have eN:fL ns (eU M S ns sp)=gB (eU M S ns sp):=bu (show(eU M S ns sp).dn=aK ns from he);have dX:(eU M S ns sp).os=some (ns,sp)::jQ:=jz;have f1:(fL ns (eU M S ns sp)).dn=0/\(fL ns (eU M S ns sp)).aA=S.aA/\(fL ns (eU M S ns sp)).ds=S.ds.tail:=by rw[eN];unfold gB;rw[dX];erw[Z,Z,Z]
    erw[l5,#[?_,?_,ys.drop 1,?_,?_],λx o' ex hx=>?_,.inr n5]
    ·rw[f1.1,f1.2.1];erw[bQ]
    ·rw[aU pb];erw[nA.same _ _ (s9 _ _ dG)]
    ·rw[aU lb];erw[dA]
    ·rw[f1.2.2]
     have r2:=aP.v vA _ ok.row.no (aP.mono (s9.trans nA.same) _ rG);cases je:S.ds with |nil=>rw[je]at ed;cases ed |cons d0 Kg=>rw[je]at r2;let(u0,us,eu,_,r3):=r2.cons_inv;rw[eu];erw[r3]
    ·rw[aU (λz=>hx (by rw[z];erw[.head _]))]
     erw[nA.same _ _ (s9 _ _ (bG _ _ ex hx))]
   ·rw[cD (show¬((S.dn:Int)+1)=(aK ns:Int) by lia)]
    erw[bh ?_];have eN:fL ns (eU M S ns sp)=eU M S ns sp:=bo (show¬(eU M S ns sp).dn=aK ns from he);erw[wl,#[?_,s9 _ _ dG,ys,w9,?_],λx o' ex hx=>s9 _ _ (bG _ _ ex hx),.inl Z]
    ·rw[eN];erw[e9]
    ·rw[eN];erw[aP.mono s9 _ rG]
end
open _T (numS numIn? Free)
section
theorem mG{c:Nat}{a b:Str}:c∈(a++b).cps.toList↔c∈a.cps.toList\/c∈b.cps.toList:=by rw[qj,qq,jj]
theorem a2x{c:Nat}{ns:List Int}(h:c≠45)(h1:c<48)(h2:c≠32):Free c (fP ns):=JR (ir (by rw[show(" ":Str).cps.toList=[32] by decide+kernel];simp;erw[λe=>h2 e.symm])) _ λa ha=>by let(i,_,rfl):=dB.mp ha;erw[_T.gW h h1]
theorem a7T{p q:Int}:Free 10 (eV p q):=by
 unfold eV;split
 ·erw[_T.gW ay ay]
 ·erw[nc (nc (_T.gW ay ay) (ir aH)) (_T.gW ay ay)]
def A3(e:ag):Prop:=Free 10 (iu e)/\32∈(iu e).cps.toList
theorem One.ef{M:aZ}{D:Nat}{S S1:aV}{e:ag}(g:RG M D S)(o:One M S e S1):A3 e:=by have ok:=g.ok;have aM:=g.aM;cases o with |@line ns sp eo nh=>have ez:iu (qS M S ns sp)="step "++fP (gs ns S.dn)++" "++numS (lC M.t (gG M S ns sp))++" "++eV (gG M S ns sp).num ((gG M S ns sp).den:Int):=CQ _ _ _ _;unfold A3;rw[ez];erw[nc (nc (nc (nc (nc (ir aH) (a2x ay ay ay)) (ir aH)) (_T.gW ay ay)) (ir aH)) a7T,?_];erw[mG.mpr (.inl (mG.mpr (.inl (mG.mpr (.inl (mG.mpr (.inl (mG.mpr (.inl aH)))))))))] |@iJ _ eo ed nh=>
 let(o,dX,it):=ok.item ed;rw[eo]at dX;cases dX;have tx:=ok.tx aM e (gf ed);have nl:∀ns sp,e≠du ns sp:=λns sp ee=>by
  rcases it.it with⟨_,_,_,z⟩|⟨w,x,e2,hw,_⟩
  ·cases z
  ·rw[e2]at ee
   erw[sN (show kY w from hw) #[ns,sp,ee]]
 unfold A3;rw[CS tx.ti nl];erw[tx.fr,?_];rcases tx.ti with⟨ns,sp,ee,_⟩|⟨w,i,ee,hw,_⟩|⟨w,z,ee,hw,_⟩
 ·exact(nl ns sp ee).elim
 ·subst ee
  erw[mG.mpr (.inl (mG.mpr (.inr aH)))]
 ·subst ee
  erw[mG.mpr (.inl (mG.mpr (.inr aH)))]
theorem RG.run{M:aZ}{D:Nat}{S S1:aV}{es:List ag}(g:RG M D S)(r:Run M S es S1):RG M D S1:=#[r.ok g.ok g.aM,g.aM,r.sd g.ok g.aM g.sd,r.HF g.ok g.aM g.on,g.hD]
theorem Run.ef{M:aZ}{D:Nat}{S S1:aV}{es:List ag}(r:Run M S es S1):RG M D S->∀e∈es,A3 e:=by induction r with |nil=>erw[λ_ e he=>nomatch he] |cons o r ih=>
 intro g e he;rcases bJ.mp he with rfl|he
 ·erw[o.ef g]
 ·erw[ih (g.run (.cons o (.nil _))) e he]
theorem a9y:nj []="none":=by decide+kernel
theorem a9x{es:List ag}(h:∀e∈es,A3 e)(cP:es≠[]):¬nj es="none"/\Txt.split (nj es) "\n"=es.map iu:=by
 have sp:32∈(Txt.join "\n" (es.map iu)).cps.toList:=by cases es with |nil=>exact(cP Z).elim |cons e es=>have h0:=(h e (.head _)).2;cases es with |nil=>erw[h0] |cons e2 es2=>rw[kH,ud _ _ _ (by simp)];erw[mG.mpr (.inl (mG.mpr (.inl h0)))]
 have e1:nj es=Txt.join "\n" (es.map iu):=by unfold nj BJ;rw[bo];intro e;rw[e]at sp;revert sp;decide+kernel
 rw[e1];erw[λe=>?_,?_]
 ·rw[e]at sp
  revert sp;decide+kernel
 ·rw[a2Y]
  erw[_T.sT (by simpa using cP) λz hz=>?_];let(e,he,rfl):=dB.mp hz;exact(h e he).1
structure Sd(K:aa)(C D:Addr)(H:Hp)(a r q b la wl:Addr)(M:aZ)(S:aV):Prop where
 dk:jG K D H a r M
 x:bX K C H r q M S
 bk:hV K H b la wl S
 ql:q≠la
 qw:q≠wl
theorem bX.ins{C:Addr}{H:Hp}{r q:Addr}{M:aZ}{S:aV}(x:bX K C H r q M S):∃dx fs,H r=some (.ins C dx fs):=by let(dx,mv,bv,cv,tv,e,_):=x.ob;erw[dx,_,e]
theorem bX.lst{C:Addr}{H:Hp}{r q:Addr}{M:aZ}{S:aV}(x:bX K C H r q M S):∃ys,H q=some (.lst ys):=by let(ys,e,_):=x.qu;erw[ys,e]
theorem Sd.rb{C D:Addr}{H:Hp}{a r q b la wl:Addr}{M:aZ}{S S':aV}(x:bX K C H r q M S)(bk:hV K H b la wl S'):r≠b/\r≠la/\r≠wl/\q≠b:=by let(dx,fs,er):=x.ins;let(ys,eq):=x.lst;let(zs,ew,_):=bk.w;erw[iM er bk.e (by intro z;cases z),iM er bk.l (by intro z;cases z),iM er ew (by intro z;cases z),iM eq bk.e (by intro z;cases z)]
theorem jG.but{D:Addr}{H H':Hp}{a r:Addr}{M:aZ}(h:jG K D H a r M)(v:cw H H')(ea:∀o,H a=some o->H' a=some o):jG K D H' a r M:=by let(dx,mv,e,rm):=h;erw[dx,mv,ea _ e,RD.v v _ (gw _ _ _ _ _) rm]
theorem hV.but{H H':Hp}{b la wl:Addr}{S:aV}(h:hV K H b la wl S)(no:cJ S.ds=true)(v:cw H H')(k:∀x o,H x=some o->x∈[b,la,wl]->H' x=some o):hV K H' b la wl S:=by let(ys,e,r):=h.w;erw[k _ _ h.e (by simp),k _ _ h.l (by simp),ys,k _ _ e (by simp),aP.v v _ no r]
theorem x6{C D:Addr}{H:Hp}{a r r' q b la wl:Addr}{M M':aZ}{S S':aV}(dk:jG K D H a r' M')(x:bX K C H r q M S)(bk:hV K H b la wl S'):a≠r/\a≠q/\a≠b:=by let(dx,mv,ea,_):=dk;let(rx,mv',bv,cv,tv,er,_):=x.ob;let(ys,eq):=x.lst;erw[iM ea er (by intro z;injection z with _ _ z;cases z),iM ea eq (by intro z;cases z),iM ea bk.e (by intro z;cases z)]
def iY(H:Hp)(F:List Addr)(x:Addr):Prop:=x∈F\/H x=none
structure Kp(H H':Hp)(r q b la wl q' dE cY:Addr):Prop where
 but:bP [r,q,b] H H'
 nq:iY H [r,q,b] q'
 nl:iY H [r,q,b,la,wl] dE
 nw:iY H [r,q,b,la,wl] cY
theorem Kp.refl{H:Hp}{r q b la wl:Addr}:Kp H H r q b la wl q la wl:=#[bP.refl _ _,.inl (by simp),.inl (by simp),.inl (by simp)]
theorem zO{H H':Hp}{F:List Addr}{x:Addr}(h:bP F H H')(e:H' x=none):iY H F x:=by
 by_cases hx:x∈F
 ·erw[.inl hx]
 ·erw[.inr ?_]
  cases h1:H x with |none=>rfl |some o=>rw[h _ _ h1 hx]at e;cases e
theorem iY.f{H:Hp}{r q b la wl x:Addr}(h:iY H [r,q,b] x):iY H [r,q,b,la,wl] x:=h.imp (λe=>by
 simp only[bJ,bZ,cG]at e⊢;rcases e with e|e|e
 ·erw[.inl e]
 ·erw[.inr (.inl e)]
 ·erw[.inr (.inr (.inl e))]) id
theorem Kp.trans{H H1 H2:Hp}{r q b la wl q1 cA cy q2 cW cQ:Addr}(h1:Kp H H1 r q b la wl q1 cA cy)(h2:Kp H1 H2 r q1 b cA cy q2 cW cQ):Kp H H2 r q b la wl q2 cW cQ:=by
 have f0:∀{x:Addr},iY H1 [r,q1,b] x->iY H [r,q,b] x:=λ{x} h=>by
  rcases h with h|h
  ·simp only[bJ,bZ,cG]at h
   rcases h with rfl|rfl|rfl
   ·erw[.inl (by simp)]
   ·erw[h1.nq]
   ·erw[.inl (by simp)]
  ·erw[zO h1.but h]
 have fx:∀{x:Addr},iY H1 [r,q1,b,cA,cy] x->iY H [r,q,b,la,wl] x:=λ{x} h=>by
  rcases h with h|h
  ·simp only[bJ,bZ,cG]at h
   rcases h with rfl|rfl|rfl|rfl|rfl
   ·erw[.inl (by simp)]
   ·erw[h1.nq.f]
   ·erw[.inl (by simp)]
   ·erw[h1.nl]
   ·erw[h1.nw]
  ·exact(zO h1.but h).f
 erw[λx o e hx=>h2.but _ _ (h1.but _ _ e hx) λz=>?_,f0 h2.nq,fx h2.nl,fx h2.nw];simp only[bJ,bZ,cG]at z;rcases z with rfl|rfl|rfl
 ·erw[hx (by simp)]
 ·rcases h1.nq with e1|e1
  ·erw[hx e1]
  ·rw[e]at e1;cases e1
 ·erw[hx (by simp)]
theorem Kp.same{H H1 H2:Hp}{r q b la wl q1 cA cy:Addr}(h:Kp H H1 r q b la wl q1 cA cy)(s:aF H1 H2):Kp H H2 r q b la wl q1 cA cy:=#[λx o e hx=>s _ _ (h.but _ _ e hx),h.nq,h.nl,h.nw]
theorem Sd.same{C D:Addr}{H H':Hp}{a r q b la wl:Addr}{M:aZ}{S:aV}(h:Sd K C D H a r q b la wl M S)(no:cJ S.ds=true)(s:aF H H'):Sd K C D H' a r q b la wl M S:=#[h.dk.but s.v λo e=>s _ _ e,h.x.same no s,h.bk.same s,h.ql,h.qw]
inductive abS(K:aa)(C:Addr)(D:Addr)(vs:List V)(H:Hp)(Q:VK):Prop |mk (m:V)(a:Addr)(r:Addr)(q:Addr)(b:Addr)(la:Addr)(wl:Addr)(M:aZ)(D':Nat)(S:aV)(n:Int)(h0:vs=[m,.ref a,.ref b,.int n])(h1:RD K H m (aZ.D M))(h2:Sd K C D H a r q b la wl M S)(h3:RG M D' S)(h4:0<=n)(h5:n<=100)(h6:∀es S' q' dE cY H',Run M S es S'->(es.length:Int)<=n->((es.length:Int)=n\/S'.os=[]\/Halt S'.pc S'.aR)->Sd K C D H' a r q' b dE cY M S'->Kp H H' r q b la wl q' dE cY->Q (.int (es.length:Nat)) H')
def Ek(K:aa)(C D:Addr):Sp:=λvs H Q _=>abS K C D vs H Q
theorem XG(n:Int):("steps ":Str)++numS n=jH.txt (.steps n):=by show _="steps"++" "++numS n;rw[show("steps ":Str)="steps"++" " by decide+kernel]
theorem O1:bp ["_law_machine_here","_law_desk","_law_book","_law_many","_law_told","_law_rows","_law_text"] ["_law_machine_here","_law_desk","_law_book","_law_many"] (aY EV):=bE aH
theorem a0U{C D:Addr}{R:iQ}(F:FA K mg "_law_steps_told" EV)(B:bK mg)(DC:lj K D)(lU:cS P w K mg aw D "say" 14 (λvs H Q _=>qz K C D R vs H Q E0))(a79:aG P w K mg aw "_law_one_told" 2 (Nd K)):aG P w K mg aw "_law_steps_told" 15 (Ek K C D):=by
 erw[F.has O1 (λvs H Q E h=>?_) (λ_ _ _ _ _ _=>xi λ_ _ _ _=>rfl) (λf aI A outer s H vs Q E hr h=>?_)]
 ·let(m,a,r,q,b,la,wl,M,D',S,n,rfl,_):=h
  rfl
 ·let(m,a,r,q,b,la,wl,M,D',S,n,rfl,rm,sd,g,n0,n1,k):=h
  have nd:=O1.nd;have iP:sizeLine=16777216:=by decide
  have nm:Nm n:=by show n.natAbs<10^40;lia
  have e6:Str.length "steps "=6:=by decide+kernel
  have ae8:=fY nm;let(dx,mv,ea,oY):=id sd.dk;erw[_,(aD (pS 4 nd (kr lU DC.cl (hr.mono ay) (pv 1) (ao (aQ nT bf (cI (x:="str") gJ Z (B.at "str") gp (ao (pv 3) az))) az))) (aD (ig (pS 5 nd (my (bU jR (pv 4) bf (bB _)) (fA az) (tO K Z (pv 4) (ao bf az))))) (aD (mq jI Z (nP K Z (pv 5)) (bj 6 nd) (aJ (bL (PW.pt (iU (bU (dW K Z hr.units) (dS K B (ao (gE hr (pv 2) bf) az)) aB (bB _)) (jt (dj (cO (pf a79 hr (ao (pv 0) (ao (pv 2) (ao (pv 6) az))))))))) (aJ (aW gT)) bO))) (aD (bL (bU HD (kr lU DC.cl (hr.mono ay) (pv 1) (ao bf az)) (vW K Z bf (ao (fi (N:=["_law_at"]) (js:=[none]) Z Z Z (nP K Z (gE hr (pv 2) bf)) (λ_ _ _ _ _=>(bj 0 (jb _))) (λ_ _ _ _ _=>dJ) (λ_ _ _ _ _=>(cI (x:="str") gJ Z (B.at "str") gp (ao (pv 0) az)))) az)) (bB _)) (aJ (aW gT)) bO) (aJ (aW (my (bU yC (dS K B (ao (pv 5) az)) (pv 3) (bB _)) (dS K B (ao (pv 5) az)) gT))))))),?_];erw[_,Z,a,dx,_,Z,ea,Z,_,Z,.inl #[n,Z,gF nm,_,_,Z,Z,by show Str.length "steps "+(numS n).length<=_;lia,?_]];erw[a,r,q,M,D',S,.steps n,jZ (λz=>[V.ref a,V.str z]) (XG n),sd.dk,sd.x,g,n0,n1,λes S' q' H1 run he mU R1 wz=>?_];have ef:=run.ef g;have g':=g.run run;let(nV,wm,wk,p8):=Sd.rb (D:=D) (a:=a) sd.x sd.bk;let(wq,wu,qO):=x6 sd.dk sd.x sd.bk;have v1:=sd.x.v wz.but;have pY:hV K H1 b la wl S:=sd.bk.but g.ok.row.no v1 λx o e hx=>wz.but x o e λz=>by
   simp only[bJ,bZ,cG]at hx z;rcases hx with rfl|rfl|rfl<;>rcases z with z|z
   ·erw[nV z.symm]
   ·erw[p8 z.symm]
   ·erw[wm z.symm]
   ·erw[sd.ql z.symm]
   ·erw[wk z.symm]
   ·erw[sd.qw z.symm]
  have zH:jG K D H1 a r M:=sd.dk.but v1 λo e=>wz.but _ _ e λz=>by simp only[bJ,bZ,cG]at z;erw[z.elim wq wu]
  have GN:RD K H1 m (aZ.D M):=RD.v v1 _ (gw _ _ _ _ _) rm;erw[λO H2=>∃l2 v6,O=[some m,some (.ref a),some (.ref b),some (.int n),some (.str (nj es)),some (.ref l2),v6]/\H2 l2=some (.lst ((es.map iu).map V.str))/\aF H1 H2/\H1 l2=none,?_,?_]
  ·erw[_,Z,Z,_,Z,?_]
   by_cases cP:es=[]
   ·subst cP
    rw[a9y,bM rfl];erw[bF #[gM _,λl2 H2 n2=>#[l2,_,Z,n2.at',n2.same,n2.no]]]
   ·let(x1,x2):=a9x ef cP
    rw[cD (λz=>x1 (by injection z))];have te:=run.xW g.ok g.aM g.hD;have hj:=C1 "\n" (B:=2000) (es.map iu) (λz hz=>by let(d,hd,rfl):=dB.mp hz;erw[K9 (te d hd)]);have QQ:Str.length "\n"=1:=by decide+kernel
    rw[QQ,bW]at hj;have pF:es.length*(2000+1)<=100*2001:=VM _ au;have hl:(nj es).length<=300000:=by
     unfold nj BJ;split
     ·have:Str.length "none"=4:=by decide+kernel
      lia
     ·lia
    erw[bh #[_,Z,Z,_,"\n",Z,Z,aH,au,λl2 H2 n2=>?_]];rw[x2]at n2;erw[l2,_,Z,n2.at',n2.same,n2.no]
  rintro O H2 ⟨l2,v6,rfl,d2,s2,QP⟩;have tF:=pY.same s2;erw[_,Z,l2,Z,#[_,aE.of d2],CH (K:=K) (a:=l2) (xs:=(es.map iu).map V.str) (λi O H3=>∃Si oa nK,Run M S (es.take i) Si/\Run M Si (es.drop i) S'/\hV K H3 b oa nK Si/\bP [b] H2 H3/\oG H2 la oa/\oG H2 wl nK/\∃v6,O=[some m,some (.ref a),some (.ref b),some (.int n),some (.str (nj es)),some (.ref l2),v6]) ?_ ?_ ?_ ?_]
  ·erw[S,la,wl,.nil _,run,tF,bP.refl _ _,.inl Z,.inl Z,v6,Z]
  ·rintro i O H3 _ ⟨Si,oa,nK,_,_,_,bt,_⟩
   erw[aE.of (bt _ _ d2 λz=>by rw[cE.mp z,tF.e]at d2;cases d2)]
  ·rintro i x O H3 hx ⟨Si,oa,nK,r1,r2,rM,bt,BK,BH,Wq,rfl⟩
   rw[cj,cj]at hx;obtain⟨e,ee,rfl⟩:∃e,es[i]? =some e/\V.str (iu e)=x:=by cases h:es[i]? with |none=>rw[h]at hx;cases hx |some e=>rw[h]at hx;cases hx;erw[e,rfl,rfl]
   have gi:=g.run r1;have ed:es.drop i=e::es.drop (i+1):=by have hi:=(dZ.mp ee).1;rw[List.drop_eq_getElem_cons hi];rw[cB hi]at ee;cases ee;rfl
   rw[ed]at r2;cases r2 with |cons o r3=>
    rename_i S1;have vp:cw H2 H3:=bt.v λx hx o eo=>by rw[cE.mp hx,tF.e]at eo;cases eo;trivial
    have Z1:RD K H3 m (aZ.D M):=RD.v vp _ (gw _ _ _ _ _) (RD.mono s2 _ GN);let(ys,hw,Yu):=rM.w;have wL:0<ys.length:=by rw[Yu.length,gi.ok.row.len];cases o with |line eo _=>exact(dZ.mp eo).1 |iJ eo _ _=>exact(dZ.mp eo).1
    erw[_,Z,b,_,Z,dg rM.e ky,nK,_,Z,.inl (aE.of hw),.inl #[_,_,Z,Z,_,Z,?_]];rw[cD (show¬(ys.length:Int)=0 by lia)];erw[bh ?_];erw[_,Z,_,Z,_,Z,m,b,oa,nK,M,D',Si,S1,e,Z,Z1,rM,gi,o,λdE cY H4 iW bt4 nl4 nw4=>#[_,Z,bh ?_]];have btr:bP [b] H2 H4:=λy o' ey hy=>bt4 _ _ (bt _ _ ey hy) hy;have tr:∀{x y z:Addr},oG H2 x y->oG H3 y z->oG H2 x z:=λ{x y z} h1 h2=>by
     rcases h2 with rfl|h2
     ·erw[h1]
     ·erw[.inr ?_]
      cases hz:H2 z with |none=>rfl |some o'=>
       by_cases zb:z=b
       ·rw[zb,rM.e]at h2;cases h2
       ·rw[bt _ _ hz (λy=>zb (cE.mp y))]at h2;cases h2
    erw[S1,dE,cY,?_,r3,iW,btr,tr BK nl4,tr BH nw4,_,Z];rw[sD,ee];erw[r1.snoc o]
  ·rintro O H3 ⟨Si,oa,nK,r1,r2,rM,bt,BK,BH,Wq,rfl⟩
   rw[bW,bW]at r1 r2;rw[List.drop_length]at r2;cases r2;have vp:cw H2 H3:=bt.v λx hx o eo=>by rw[cE.mp hx,tF.e]at eo;cases eo;trivial
   have zP:∀{x:Addr}{o:HO},H2 x=some o->x≠b->H3 x=some o:=λ{x o} e hx=>bt _ _ e λz=>hx (cE.mp z);have Kj:jG K D H3 a r M:=(zH.but s2.v λo e=>s2 _ _ e).but vp λo e=>zP e qO;have R3:bX K C H3 r q' M S':=(R1.same g'.ok.row.no s2).go g'.ok.row.no vp (λo e=>zP e nV) λo e=>zP e λz=>by rw[z,tF.e]at e;let(zs,ez):=(R1.same g'.ok.row.no s2).lst;rw[z,tF.e]at ez;cases ez
   have V5:bP [r,q] H H2:=λx o e hx=>s2 _ _ (wz.but _ _ e hx);have nF:∀{x y:Addr},oG H2 x y->x∈[la,wl]->iY H [r,q,b,la,wl] y:=λ{x y} h hx=>by
    rcases h with rfl|h
    ·erw[.inl ?_]
     simp only[bJ,bZ,cG]at hx⊢;erw[.inr (.inr (.inr hx))]
    ·refine(zO V5 h).imp (λe=>?_) id
     simp only[bJ,bZ,cG]at e⊢;erw[e.imp id λe=>.inl e]
   have bH:bP [r,q,b] H H3:=λx o e hx=>by simp only[bJ,bZ,cG]at hx;erw[zP (V5 _ _ e λz=>by simp only[bJ,bZ,cG]at z;erw[hx (z.imp id .inl)]) λz=>hx (.inr (.inr z))]
   let(zs,ez):=(R1.same g'.ok.row.no s2).lst;have qn:∀{x y:Addr}{o:HO},oG H2 x y->H x=some o->q≠x->q'≠y:=λ{x y o} h ex hx e=>by
    rcases h with rfl|h
    ·rcases wz.nq with e1|e1
     ·erw[hx (e1.symm.trans e)]
     ·rw[e,ex]at e1;cases e1
    ·rw[e,h]at ez;cases ez
   let(ys0,hw0,_):=sd.bk.w;have kM:Sd K C D H3 a r q' b oa nK M S':=#[Kj,R3,rM,qn BK sd.bk.l sd.ql,qn BH hw0 sd.qw];have BZ:Kp H H3 r q b la wl q' oa nK:=#[bH,wz.nq.imp (λe=>by rw[e];simp) id,nF BK (by simp),nF BH (by simp)];let(Kd,wy,rF,_):=id Kj;erw[_,Z,a,Kd,_,Z,rF,Z,a,r,q',M,D',S',.wd .place,Z,Kj,R3,g',λH4 s4=>?_];erw[Z,?_];have e4:=s4 _ _ rM.e;have l4:=s4 _ _ rM.l;have Ry:=Bt g'.ok;have n3:=g.aM.n3;have pN:=g'.place;erw[_,Z,b,_,Z,dg e4 JP,oa,Z,#[_,aE.of l4],λD5 H5 n5=>?_];erw[Di (K:=K) (ds:=((dh S').map numS).map PyData.str) _ (aE.of l4) n5 (by simp) (by simp;lia) (yK _) ?_ ?_]
   ·intro i x d H6 Q' ex ed s6 hq
    rw[cj]at ex;rw[cj,cj]at ed;cases en:(dh S')[i]? with |none=>rw[en]at ex;cases ex |some z=>rw[en]at ex ed;cases ex;cases ed;erw[_,Z,.inl #[z,Z,gF (pN z (gf en)),hq _ _ (aF.refl _) (bT _)]]
   intro H6 ws s6 d6 r6;rw[sP r6]at d6;erw[" ",D5,_,Z,Z,aE.of d6,λz hz=>?_,aH,by simp;lia,?_]
   ·let(i,hi,rfl):=dB.mp hz
    have:=fY (pN i hi)
    lia
   erw[Z,_,Z,?_];rw[show decide (V.str (V8 M S' Wd.place)=V.str (Txt.join " " ((dh S').map numS)))=true from bM rfl];erw[bh ?_];have lb:l2≠b:=λz=>by rw[z,tF.e]at d2;cases d2
   have d6:=s6 _ _ (s4 _ _ (zP d2 lb));erw[_,Z,l2,_,Z,.inl (aE.of d6),_,Z,_,_,Z,Z,_,Z,?_];rw[bW,bW,bM he];erw[bF #[_,Z,l2,_,Z,.inl (aE.of d6),?_]];rw[bW,bW];erw[k es S' q' oa nK H6 run he mU (kM.same g'.ok.row.no (s4.trans s6)) (BZ.same (s4.trans s6))]
end
open _T (numS numIn? Free)
section
theorem Mt:∀(pl x:List Int),x.length=pl.length->lA (λa b=>a-b) (dH pl x) x=pl |[],[],_=>rfl |[],_::_,h=>by simp at h |_::_,[],h=>by simp at h |a::pl,c::x,h=>by show(a+c-c)::lA _ (dH pl x) x=a::pl;rw[Mt pl x (by simpa using h),Int.add_sub_cancel]
theorem a45{ns ms:List Int}{sp sq:Int}(h:du ns sp=du ms sq):ns=ms/\sp=sq:=by have h:PyData.tuple [.str "line",.tuple (ns.map PyData.int),.int sp]= .tuple [.str "line",.tuple (ms.map PyData.int),.int sq]:=h;injection h with h;injection h with _ h;injection h with h1 h;injection h with h2 _;injection h1 with h1;injection h2 with h2;erw[ints_map_inj h1,h2]
inductive acw(K:aa)(vs:List V)(H:Hp)(Q:VK):Prop |mk (b:Addr)(la:Addr)(wl:Addr)(M:aZ)(D:Nat)(S:aV)(h0:vs=[.ref b])(h1:hV K H b la wl S)(h2:RG M D S)(h3:∀v H',RD K H' v (eR (fm S))->aF H H'->Q v H')
def Nh(K:aa):Sp:=λvs H Q _=>acw K vs H Q
theorem OJ:bp ["_law_book","_law_here","_law_item_here"] ["_law_book"] (aY FR):=bE aH
theorem a1O(F:FA K mg "_law_leads" FR)(B:bK mg)(Cw:aG P w K mg aw "_law_stand" 1 (Ej K)):aG P w K mg aw "_law_leads" 2 (Nh K):=by
 erw[F.has OJ (λvs H Q E h=>?_) (λ_ _ _ _ _ _=>dw λ_=>rfl) (λf aI A outer s H vs Q E hr h=>?_)]
 ·let(b,la,wl,M,D,S,rfl,_):=h
  rfl
 ·let(b,la,wl,M,D,S,rfl,bk,g,k):=h
  have nd:=OJ.nd;let(ys,hw,eQ):=bk.w;have ok:=g.ok;have aM:=g.aM;have n3:=aM.n3;have lys:=eQ.length;have aej:=ok.row.len;erw[_,(aD (pS 1 nd (cI (x:="list") (ID K Z) Z (B.at "list") VJ (ao (gE hr (pv 0) bf) az))) (aD (ig (bL (bU nS (gE hr (pv 0) bf) aB (bB _)) (aJ (tJ (i0:=1) nd Z (Or.inl Z) (N:=["_law_at","_law_step"]) (js:=[none,none]) Z Z Z (lE K Z true true Z (B.at "zip") (ao (pv 1) (ao (pf Cw hr (ao (px K (px K (gE hr (pv 0) bf) aB) aB) (ao (gE hr (pv 0) bf) az))) az))) (λ_ _ _ _ _=>(eB K rfl (n:=2) rfl (bS (bj 0 (fZ ay)) (bS (bj 1 (fZ ay)) ek)))) (λ_ _ _ _ _=>dJ) (λ_ _ _ _ _=>(aQ iK (pv 0) (pv 1))))) bO)) (aD (mq jI Z (nP K Z (gE hr (pv 0) bf)) (bj 2 nd) (aJ (bL (bU (dW K Z hr.units) (px K (pv 2) aB) bf (bB _)) (aJ (tJ (i0:=1) nd Z (Or.inl Z) (N:=["_law_at","_law_step"]) (js:=[none,none]) Z Z Z (lE K Z true false Z (B.at "zip") (ao (pv 1) (ao (px K (pv 2) aB) az))) (λ_ _ _ _ _=>(eB K rfl (n:=2) rfl (bS (bj 0 (fZ ay)) (bS (bj 1 (fZ ay)) ek)))) (λ_ _ _ _ _=>dJ) (λ_ _ _ _ _=>(aQ dv (pv 0) (pv 1))))) bO))) (aJ (aW (cI (x:="tuple") (kh K Z) Z (B.at "tuple") j6 (ao (pv 1) az))))))),?_];erw[_,Z,b,_,Z,dg bk.e JP,la,_,Z,.inl (aE.of bk.l),λl1 H1 n1=>?_];have e1:=n1.same _ _ bk.e;have d1:=n1.at';have w1:=n1.same _ _ hw;erw[λO H2=>∃l2 v2,O=[some (.ref b),some (.ref l2),v2]/\H2 l2=some (.lst (S.pl.map V.int))/\aF H1 H2,?_,?_]
  ·erw[_,Z,b,_,Z,dg e1 wU,_,_,Z,Z,_,Z,?_]
   by_cases h0:S.dn=0
   ·rw[cD (show¬(S.dn:Int)>0 by lia)]
    have ep:dh S=S.pl:=by unfold dh;rw[bu h0]
    rw[ep]at d1;erw[bh #[l1,_,Z,d1,aF.refl _]]
   ·rw[bM (show(S.dn:Int)>0 by lia)]
    erw[bF ?_];obtain⟨ns,sp,eo,hd⟩:∃ns sp,S.os[0]? =some (some (ns,sp))/\S.dn<aK ns:=by
     rcases ok.dn with e|h
     ·exact(h0 e).elim
     ·erw[h]
    obtain⟨d0,ed,wF⟩:∃d0,S.ds[0]? =some d0/\d0=du ns sp:=by
     have hl:0<S.ds.length:=by rw[ok.row.len];exact(dZ.mp eo).1
     erw[S.ds[0],cB hl,?_];rcases ok.row.it 0 _ _ (cB hl) eo with⟨mz,mi,z1,z2⟩|⟨_,_,_,_,_,z2⟩
     ·cases z2;erw[z1]
     ·cases z2
    subst wF;let(cU,vD,yh):=ok.row.ok 0 ns sp eo;have qH:fg ns.length 100 ns:=#[Z,cU.bd,cU.nz];have qR:=cU.len;have IM:=cU.lead.2;let(y0,ey,ry):=eQ.get 0 ed;let(a,bb,rfl,ha,uq):=o8 ry;have ep:=Qd eo (by rw[qR,ok.pl]) cU.lead.1;erw[_,Z,_,Z,b,_,Z,dg e1 ky,.inl #[wl,ys,0,.ref a,Z,Z,aE.of w1,cL (eg 0) ey,.inr #[a,_,1,.ref bb,Z,Z,ha.go n1.same,Z,_,Z,b,_,Z,dg e1 wU,bb,ns,(S.dn:Int),Z,uq.go n1.same,qH,au,au,au,λl2 H2 n2 d2 s2=>?_]]];have xc:=s2 _ _ d1;rw[ep]at xc;have lst:(fJ ns (S.dn:Int)).length=S.pl.length:=by unfold fJ;rw[bW,qR,ok.pl]
    erw[l1,l2,Z,#[_,aE.of xc],#[_,aE.of d2],λD3 H3 Ii=>?_];erw[zK (b1:=true) (b2:=true) (λa b=>a-b) _ Z (aE.of xc) (aE.of d2) Ii (by rw[ny lst,lst]) (by rw[ny lst,ok.pl];lia) (λu v H' Q' s' q'=>#[_,Z,_,Z,_,_,Z,Z,q']) λH4 s4 d4=>?_];rw[Mt _ _ lst]at d4;erw[D3,_,Z,d4,s2.trans s4]
  rintro O H2 ⟨l2,v2,rfl,d2,s2⟩;have t9:=n1.same.trans s2;erw[_,Z,b,_,Z,dg (t9 _ _ bk.e) ky,wl,Z,#[_,aE.of (t9 _ _ hw)],CH (K:=K) (a:=wl) (xs:=ys) (λi O H3=>aF H2 H3/\∃l v2,O=[some (.ref b),some (.ref l),v2]/\H3 l=some (.lst (((S.os.take i).foldl gK S.pl).map V.int))) ?_ ?_ ?_ ?_]
  ·erw[aF.refl _,l2,v2,Z,d2]
  ·rintro i O H3 _ ⟨s3,_⟩
   erw[aE.of (s3 _ _ (t9 _ _ hw))]
  ·rintro i y O H3 hy ⟨s3,l,v,rfl,dl⟩
   let(d,ed,rd):=eQ.get' i hy;let(o,eo,it):=ok.item ed;have Yt:=t9.trans s3;have et:(S.os.take (i+1)).foldl gK S.pl=gK ((S.os.take i).foldl gK S.pl) o:=by rw[sD,eo,VT];rfl
   have fl:((S.os.take i).foldl gK S.pl).length=M.rs.length:=wV _ _ ok.pl λo ho=>ok.nU o (xI ho);have tx:=ok.tx aM d (gf ed);rcases vt (RD.mono Yt _ rd) tx.ti with⟨ns,sp,a,bb,ee,rfl,wI,Zj,_⟩|⟨wd,u,a,yv,ee,Cb,rfl,wI,_⟩
   ·subst ee
    have uH:o=some (ns,sp):=by
     rcases it.it with⟨mz,mi,z1,z2⟩|⟨w',x',z1,Su,_⟩
     ·have:du ns sp=du mz mi:=z1
      let(rfl,rfl):=a45 this;erw[z2]
     ·exact(sN (show kY w' from Su) #[ns,sp,z1.symm]).elim
    subst uH;have qR:=(it.ln ns sp Z).1.len;let(bx,xs,eb,wQ,lO):=Zj.cT;cases eb;rw[lO.fE]at wQ;erw[_,Z,.inr #[a,_,0,.str "line",Z,Z,wI,Z,.inr #[_,_,bT _,bT _,jU,jU,_,Z,?_]]];rw[lX,bM rfl];erw[bF ?_];erw[_,Z,_,Z,.inr #[a,_,1,.ref bb,Z,Z,wI,Z,l,bb,Z,#[_,aE.of dl],#[_,wQ],λD4 H4 n4=>?_]];erw[zK (b1:=true) (b2:=false) (λa b=>a+b) _ Z (aE.of dl) wQ n4 (by rw[fl,qR]) au (λu v H' Q' s' q'=>#[_,Z,_,Z,_,_,Z,Z,q']) λH5 s5 d5=>?_];rw[Aw]at d5;erw[s3.trans s5,D4,_,Z,?_];rw[et];erw[d5]
   ·have uH:o=none:=by
     rcases it.it with⟨mz,mi,z1,z2⟩|⟨w',x',z1,Su,_,z2⟩
     ·rw[ee]at z1
      exact(sN Cb #[mz,mi,z1]).elim
     ·erw[z2]
    subst uH;let(xQ,DZ):=LY Cb;erw[_,Z,.inr #[a,_,0,.str wd,Z,Z,wI,Z,.inr #[_,_,bT _,bT _,xQ,jU,_,Z,?_]]];rw[lX,cD DZ];erw[bh #[s3,l,_,Z,?_]];rw[et];erw[dl]
  ·rintro O H3 ⟨s3,l,v,rfl,dl⟩
   rw[vc au]at dl;erw[_,Z,l,_,Z,.inl #[aE.of dl,λt H4 n4=>?_]];erw[k _ H4 (gj (bc.of n4.at') (ml (fm S))) (t9.trans (s3.trans n4.same))]
end
open _T (numS numIn? Free)
section
theorem RG.up{M:aZ}{D:Nat}{S:aV}(g:RG M D S)(hD:D<=900):RG M (D+10) S:=by have o:=g.ok;have D1:=o.D1;erw[#[o.row,o.rw,o.len,o.dM,o.eF,o.dn,o.pl,o.pd.mono au,o.pm,?_,au,au],g.aM,g.sd,g.on,au];have st:=o.aR;cases hs:S.aR with |none=>trivial |some z=>rw[hs]at st;let(sq,ie,gn):=z;let(a1,a2,a3,a4,a5):=st;erw[a1,a2,a3,a4.mono au,a5]
theorem RG.uE{M:aZ}{D:Nat}{S:aV}{d:ag}{o:Itm}(g:RG M D S)(it:kZ M.rs.length d o)(hl:S.ds.length<20)(gu:fF M.rs (gK (fm S) o)):RG M D (ng S d o):=#[g.ok.uE it hl,g.aM,g.sd.eq Z Z,g.on.uE gu,g.hD]
theorem ZR{M:aZ}{D:Nat}{S:aV}(ok:cC M D S)(d:ag)(o:Itm):dh (ng S d o)=dh S:=by
 unfold dh;by_cases h:S.dn=0
 ·rw[bu h,bu (show(ng S d o).dn=0 from h)];rfl
 ·rw[bo h,bo (show¬(ng S d o).dn=0 from h)]
  let(ns,sp,e,_):=ok.dn.resolve_left h;have e2:(ng S d o).os[0]? =some (some (ns,sp)):=by show(S.os++[o])[0]? =_;rw[vg (dZ.mp e).1];erw[e]
  rw[e,e2];rfl
structure xp(H H':Hp)(p r q b la wl q' dE cY:Addr):Prop where
 but:bP [p,r,q,b] H H'
 nq:iY H [r,q,b] q'
 nl:iY H [r,q,b,la,wl] dE
 nw:iY H [r,q,b,la,wl] cY
 bC:fG H' p
theorem bI.wo{p:Addr}{H H':Hp}{F:List Addr}{x:Addr}(b:bI p H H')(h:iY H' F x):iY H F x:=h.imp id λe=>by cases e0:H x with |none=>rfl |some o=>
 by_cases hx:x=p
 ·rw[hx]at e
  exact(b.bC.ne e).elim
 ·rw[b.same _ _ hx e0]at e;cases e
theorem fG.kp{p:Addr}{H H':Hp}{F:List Addr}(h:fG H p)(b:bP F H H')(hp:p∉F):fG H' p:=by let(c,m,e,k):=h;erw[c,m,b _ _ e hp,k]
theorem Kp.bC{H H1 H2:Hp}{p r q b la wl q' dE cY:Addr}(bx:bI p H H1)(k:Kp H1 H2 r q b la wl q' dE cY)(hp:p∉[r,q,b]):xp H H2 p r q b la wl q' dE cY:=by
 erw[λx o e hx=>?_,bx.wo k.nq,bx.wo k.nl,bx.wo k.nw,bx.bC.kp k.but hp];simp only[bJ,not_or]at hx;erw[k.but _ _ (bx.same _ _ hx.1 e) λz=>?_];simp only[bJ,bZ,cG]at z;rcases z with z|z|z
 ·erw[hx.2.1 z]
 ·erw[hx.2.2.1 z]
 ·erw[hx.2.2.2.1 z]
structure In(K:aa)(C D:Addr)(H:Hp)(p a r q b la wl:Addr)(M:aZ)(D':Nat)(S:aV)(m:V):Prop where
 bC:fG H p
 hp:p∉[q,la,wl]
 rm:RD K H m (aZ.D M)
 sd:Sd K C D H a r q b la wl M S
 g:RG M D' S
 fr:S.aR=none
 hD:D'<=900
section
variable {C D:Addr}{H H':Hp}{p a r q b la wl:Addr}{M:aZ}{D':Nat}{S:aV}{m:V}
theorem In.ne(h:In K C D H p a r q b la wl M D' S m):p∉[r,q,b]/\p≠a/\p∉[b,la,wl]:=by let(c,m',ep,_):=h.bC;let(dx,fs,er):=h.sd.x.ins;let(jA,mv,ea,_):=h.sd.dk;have hp:=h.hp;simp only[bJ,bZ,cG,not_or]at hp⊢;have h1:p≠r:=iM ep er (by intro z;cases z);have h2:p≠b:=iM ep h.sd.bk.e (by intro z;cases z);erw[#[h1,hp.1,h2],iM ep ea (by intro z;cases z),h2,hp.2.1,hp.2.2]
theorem In.draw(h:In K C D H p a r q b la wl M D' S m)(bx:bI p H H'):In K C D H' p a r q b la wl M D' S m:=by let(h1,h2,h3):=h.ne;simp only[bJ,bZ,cG,not_or]at h1;have v:=(bI.t h.bC bx).v;have no:=h.g.ok.row.no;erw[bx.bC,h.hp,RD.v v _ (gw _ _ _ _ _) h.rm,#[h.sd.dk.but v λo e=>bx.same _ _ (jJ h2) e,h.sd.x.go no v (λo e=>bx.same _ _ (λz=>h1.1 z.symm) e) (λo e=>bx.same _ _ (λz=>h1.2.1 z.symm) e),h.sd.bk.but no v λx o e hx=>bx.same _ _ (λz=>h3 (z▸hx)) e,h.sd.ql,h.sd.qw],h.g,h.fr,h.hD]
end
def Dt(K:aa)(C D:Addr)(H:Hp)(p a r q b la wl:Addr)(M:aZ)(D':Nat)(Q:VK):Prop:=∀S' q' dE cY H',Sd K C D H' a r q' b dE cY M S'->RG M (D'+10) S'->S'.aR=none->xp H H' p r q b la wl q' dE cY->Q (.bl true) H'
inductive acI(K:aa)(C:Addr)(D:Addr)(vs:List V)(H:Hp)(Q:VK):Prop |mk (m:V)(p:Addr)(a:Addr)(r:Addr)(q:Addr)(b:Addr)(la:Addr)(wl:Addr)(M:aZ)(D':Nat)(S:aV)(h0:vs=[.ref p,m,.ref a,.ref b])(h1:In K C D H p a r q b la wl M D' S m)(h2:Dt K C D H p a r q b la wl M D' Q)
def Nq(K:aa)(C D:Addr):Sp:=λvs H Q _=>acI K C D vs H Q
theorem Ms:∀(g ns:List Int),ns.length=g.length->oP (dH g ns) g=ns |[],[],_=>rfl |[],_::_,h=>by simp at h |_::_,[],h=>by simp at h |a::g,c::ns,h=>by show(a+c-a)::oP (dH g ns) g=c::ns;rw[Ms g ns (by simpa using h),show a+c-a=c by lia]
theorem WS{ns:List Int}(sp:Int)(h:ns≠[]):("to ":Str)++fP ns++" "++numS sp=toS ns sp:=by
 have hn:ns.map numS≠[]:=by simpa using h
 unfold toS;rw[ud _ _ _ (by simp),join_snoc _ _ _ hn,show("to ":Str)="to"++" " by decide+kernel];unfold fP;simp only[LA]
theorem Qu{ta tb:TT}{O:_L.St}{H:Hp}{Q:Bool->Hp->Prop}(c1 c2:Bool)(h1:∀Q':Bool->Hp->Prop,Q' c1 H->ta O H Q')(h2:∀Q':Bool->Hp->Prop,Q' c2 H->tb O H Q')(k:Q (c1||c2) H):Mg ta tb O H Q:=h1 _ (by cases c1 with |true=>erw[k] |false=>erw[h2 _ k])
def abg(K:aa)(C:Addr)(R:iQ)(r q:Addr)(M:aZ)(S:aV)(d:ag)(o:Itm)(z:Str):Prop:=∃c,z=jH.txt c/\∀H Q E,uV K C R r q M S d o H Q E->c.Ok K C R r q M S H Q E
theorem Sd.mv{C D:Addr}{H H1:Hp}{a r q b la wl:Addr}{M:aZ}{S:aV}(sd:Sd K C D H a r q b la wl M S)(no:cJ S.ds=true)(bt:bP [r,q] H H1):hV K H1 b la wl S/\jG K D H1 a r M/\cw H H1:=by
 let(nV,wm,wk,p8):=Sd.rb (D:=D) (a:=a) sd.x sd.bk;let(wq,wu,qO):=x6 sd.dk sd.x sd.bk;have v1:=sd.x.v bt;erw[sd.bk.but no v1 λx o e hx=>bt x o e λz=>?_,sd.dk.but v1 λo e=>bt _ _ e λz=>?_,v1]
 ·simp only[bJ,bZ,cG]at hx z
  rcases hx with rfl|rfl|rfl<;>rcases z with z|z
  ·erw[nV z.symm]
  ·erw[p8 z.symm]
  ·erw[wm z.symm]
  ·erw[sd.ql z.symm]
  ·erw[wk z.symm]
  ·erw[sd.qw z.symm]
 ·simp only[bJ,bZ,cG]at z
  erw[z.elim wq wu]
theorem bI.rd{p:Addr}{H H':Hp}{x:V}{d:ag}(bg:fG H p)(b:bI p H H')(no:fk d=true)(h:RD K H x d):RD K H' x d:=RD.v (bI.t bg b).v _ no h
theorem ZV{t:Int}(h0:0<=t)(h1:t<2):∃mo,fb [V.int 3,V.int 30] t=some (.int mo)/\1<=mo/\mo<=100:=by
 rcases(by lia:t=0\/t=1)with rfl|rfl
 ·erw[3,Z,ay,ay]
 ·erw[30,Z,ay,ay]
theorem P2:bp ["_law_bag_here","_law_machine_here","_law_desk","_law_book","_law_how","_law_item_here","_law_here","_law_text","_law_many"] ["_law_bag_here","_law_machine_here","_law_desk","_law_book"] (aY G9):=bE aH
theorem a24{C D:Addr}{R:iQ}(F:FA K mg "_law_fed" G9)(B:bK mg)(DC:lj K D)(hy:Exc K mg "Full" R.f jD kQ)(yW:takes K R.f R.f)(dU:aG P w K mg aw "_law_take" 1 lD)(a7d:aG P w K mg aw "_law_item" 3 (Ni K))(a7c:aG P w K mg aw "_law_leads" 2 (Nh K))(a7b:aG P w K mg aw "_law_line_from" 2 (Np K))(JF:aG P w K mg aw "_law_item_text" 1 (yd K))(a74:aG P w K mg aw "_law_there" 1 (MT K))(zu:hJ P w K mg aw D "say" 14 (qz K C D R)):aG P w K mg aw "_law_fed" 15 (Nq K C D):=by
 erw[F.Jx P2 (λvs H Q E h=>?_) (λ_ _ _ _ _ _=>xi λ_ _ _ _=>rfl) (λf aI A outer s H vs Q E hr h=>?_)]
 ·let(m,p,a,r,q,b,la,wl,M,D',S,rfl,_):=h
  rfl
 ·let(m,p,a,r,q,b,la,wl,M,D',S,rfl,I0,k):=h
  have nd:=P2.nd;have iP:sizeLine=16777216:=by decide
  have ur:(jD).contains (.type "BaseException")=true:=by decide
  have uy:∀C',C'=R.f->ClsAt K C'/\takes K C' R.f:=λC' e=>by subst e;erw[hy.cls,yW]
  have n3:=I0.g.aM.n3;let(ma,mb,rfl,jd,jV):=nY I0.rm;erw[_,(gZ.nk (pS 4 nd (pf dU hr (ao (pv 0) (ao aB az)))) (gZ.nk (pS 5 nd (pf a7d hr (ao (pv 0) (ao (dS K B (ao (px K (pv 1) aB) az)) az)))) (gZ.nk (pS 6 nd (pf a7c hr (ao (pv 3) az))) (gZ.nk (ig (bL (PW.pt (iU (bU nS (pv 4) aB (bB _)) (jt (bU (dW K Z hr.units) (px K (pv 5) aB) bf (bB _))))) (aJ (pS 5 nd (pf a7b hr (ao (pv 0) (ao (pv 1) (ao (pv 6) (ao (px K (fA (ao aB (ao aB az))) (pf dU hr (ao (pv 0) (ao aB az)))) az))))))) bO)) (gZ.nk (pS 7 nd (pf JF hr (ao (pv 5) az))) (gZ.nk (ig (bL (bU (dW K Z hr.units) (pv 4) aB (bB _)) (aJ (pS 7 nd (aQ nT (aQ nT (aQ nT bf (vW K Z bf (ao (fi (N:=["_law_at"]) (js:=[none]) Z Z Z (ko K Z (pf a74 hr (ao (pv 6) (ao (pv 5) az)))) (λ_ _ _ _ _=>(bj 0 (jb _))) (λ_ _ _ _ _=>dJ) (λ_ _ _ _ _=>(cI (x:="str") gJ Z (B.at "str") gp (ao (pv 0) az)))) az))) bf) (cI (x:="str") gJ rfl (B.at "str") gp (ao (px K (pv 5) aB) az))))) bO)) (gZ.Kt (Hj Z Z (λE xe hp=>(aJ (pS 8 nd (Ho zu hp DC.cl (hr.mono ay) (pv 2) (ao (pv 7) az))))) Z hy ur uy (λex=>(aJ (aW (fj (dW K Z (hr.mark _).units) (dS K B (ao (Qm (kT (hr.mark _).units) (pv 3) bf (λ_ _=>rfl)) az)) aB (bB _)))))) (aD (p4 (kT hr.units) (pv 3) bf (aQ (Dl K Z) (gE hr (pv 3) bf) (fA (ao (pv 5) az))) Z) (aJ (aW (fj jR (pv 8) (cI (x:="str") gJ Z (B.at "str") gp (ao (dS K B (ao (gE hr (pv 3) bf) az)) az)) (bB _)))))))))))),?_];erw[_,Z,p,3,Z,I0.bC,ay,ay,λhow H1 h0 h1 b1=>?_];have t1:=bI.t I0.bC b1;erw[_,Z,_,Z,.inr #[ma,_,0,.ref mb,Z,Z,jd.t t1,Z,mb,_,Z,.inr (jV.t t1),p,M.rs.length,by rw[bW],b1.bC,n3.1,n3.2,λiv0 d0 o0 H2 Z4 wF b2=>?_]];have I2:=(I0.draw b1).draw b2;erw[_,Z,b,la,wl,M,D',S,Z,I2.sd.bk,I2.g,λhv H3 rh s3=>?_];have b3:bI p H H3:=(b1.trans b2).trans (.fC b2.bC s3);have I3:=I0.draw b3;have gl:(fm S).length=M.rs.length:=wV _ _ I0.g.ok.pl I0.g.ok.nU;have og:=I0.g.on.goal;erw[λO H'=>∃iv d o,O=[some (.ref p),some (.ref ma),some (.ref a),some (.ref b),some (.int how),some iv,some hv,none,none]/\RD K H' iv d/\kZ M.rs.length d o/\fF M.rs (gK (fm S) o)/\(how=2->o.isSome=true)/\bI p H H'/\RD K H' hv (eR (fm S)),?_,?_]
  ·have PU:RD K H3 iv0 d0:=RD.mono s3 _ Z4
   let(ai,wd,ys,rfl,hai,ew,xQ):=S7 PU wF.it;erw[Qu (decide (0<how)) o0.isSome (λQ' q'=>#[_,Z,_,_,Z,Z,_,Z,q']) (λQ' q'=>#[_,Z,.inr #[ai,_,0,.str wd,Z,Z,hai,cL (eg 0) rfl,.inr #[_,_,bT _,bT _,xQ,jU,_,Z,by rw[ew];erw[q']]]]) ?_];cases hc:(decide (0<how)||o0.isSome)with
   |false=>
    let(hc1,gI):=Bool.or_eq_false_iff.mp hc;have ho:o0=none:=by cases o0 with |none=>rfl |some _=>cases gI
    subst ho;erw[bh #[_,d0,none,Z,PU,wF,og,λe=>?_,b3,rh]];have:=Vx hc1
    lia |true=>erw[bF ?_];erw[_,Z,_,Z,_,Z,ay,λl H4 n4=>?_];have b4:bI p H H4:=b3.trans (.fC b3.bC n4.same);erw[_,Z,p,2,Z,b4.bC,ay,ay,λt H5 t0 t1 b5=>?_];have el:H5 l=some (.lst [.int 3,.int 30]):=b5.same _ _ (λe=>by rw[e]at n4;erw[b3.bC.ne n4.no]) n4.at';let(mo,emo,Ri,Rh):=ZV t0 t1;have I5:=I0.draw (b4.trans b5);erw[.inl #[l,_,t,_,Z,Z,aE.of el,emo,p,.ref ma,M.rs,M.r,M.f,M.j,M.t,hv,fm S,mo,Z,b5.bC,I5.rm,I0.g.aM,bI.rd b4.bC b5 (jP _) (RD.mono n4.same _ rh),og,Ri,Rh,λv ns sp H6 rl HJ gu s1 s2 b6=>?_]];erw[v,du ns sp,some (ns,sp),Z,rl,#[.inl #[ns,sp,Z,Z],λ_ _ e=>by cases e;erw[HJ,s1,s2],λe=>nomatch e],gu,λ_=>rfl,(b4.trans b5).trans b6,bI.rd b5.bC b6 (jP _) (bI.rd b4.bC b5 (jP _) (RD.mono n4.same _ rh))]
  rintro O H4 ⟨iv,d,o,rfl,ri,it,gu,lR,b4,Z7⟩;have tx:=it.tx n3.1 n3.2;erw[_,Z,iv,d,Z,ri,tx.ti,λH5 s5=>?_];erw[λO H'=>∃z,O=[some (.ref p),some (.ref ma),some (.ref a),some (.ref b),some (.int how),some iv,some hv,some (.str z),none]/\abg K C R r q M S d o z/\aF H5 H',?_,?_]
  ·erw[_,Z,.inl #[_,_,Z,Z,_,Z,?_]]
   by_cases h2:how=2
   ·rw[bM h2]
    erw[bF ?_];let((ns,sp),rfl):=Option.isSome_iff_exists.mp (lR h2);obtain rfl:=pA it.it;let(HJ,s1,s2):=it.ln ns sp rfl;have qR:=HJ.len;have PR:=RD.mono s5 _ ri;have Z6:=RD.mono s5 _ Z7;have nb:=BC gu I0.g.aM.rl;have ln:(dH (fm S) ns).length=M.rs.length:=gu.len;have nm:∀n∈dH (fm S) ns,Nm n:=λn hn=>by have:=nb n hn;show n.natAbs<10^40;lia
    have sm:Nm sp:=by show sp.natAbs<10^40;lia
    have l1:=fY sm;have l2:=tV nm au;have l3:=fu;have l4:Str.length "to "=3:=by decide+kernel
    erw[Z,?_];erw[_,Z,_,Z,hv,iv,fm S,ns,sp,Z,Z6,PR,au,au,λv H6 rv s6=>?_];let(av,xs,rfl,Jw,lO):=rv.cT;rw[lO.fE]at Jw;erw[av,Z,#[_,Jw],λD7 H7 n7=>?_];erw[pW (K:=K) (ds:=((dH (fm S) ns).map numS).map PyData.str) _ Jw n7 (by simp) (by simp;lia) (yK _) ?_ ?_]
    ·intro i x d H2 Q' ex ed s2 hq
     rw[cj]at ex;let(n,en,rfl):=DK.mp ex;rw[cj,cj,en]at ed;cases ed;erw[_,Z,.inl #[n,Z,gF (nm n (gf en)),hq _ _ (aF.refl _) (bT _)]]
    ·intro H8 zs s8 d8 r8
     rw[sP r8]at d8;let(ia,ib,rfl,hia,_):=o8 (RD.mono (s6.trans s8) _ PR);erw[" ",D7,(dH (fm S) ns).map numS,Z,Z,aE.of d8,λz hz=>?_,aH,by rw[bW];lia,_,_,Z,Z,?_,_,_,Z,Z,?_,_,Z,.inr #[ia,_,2,.int sp,Z,Z,hia,Z,.inl #[sp,Z,gF sm,_,_,Z,Z,?_,_,Z,#[.to (dH (fm S) ns) sp,WS sp ?_,λH' Q' E' h=>#[gu,s1,s2,some (ns,sp),by rw[Ms _ _ au];erw[h]]],s6.trans s8]]]
     ·let(n,hn,rfl):=dB.mp hz
      have:=fY (nm n hn)
      lia
     ·show Str.length "to "+(fP _).length<=_
      lia
     ·show Str.length ("to "++fP _)+Str.length " "<=_
      rw[dC]
      lia
     ·show Str.length ("to "++fP _++" ")+(numS sp).length<=_
      rw[dC,dC]
      lia
     ·intro e
      rw[e]at ln;have:=I0.g.aM.n3;simp at ln
      lia
   ·rw[cD h2]
    erw[bh #[g6 d,Z,#[.item d o,Z,λ_ _ _ h=>h],aF.refl _]]
  rintro O H6 ⟨z,rfl,⟨c,ez,cok⟩,s6⟩;subst ez;have b6:bI p H H6:=(b4.trans (.fC b4.bC s5)).trans (.fC (bI.fC b4.bC s5).bC s6);have I6:=I0.draw b6;let(dx,mv,ea,oY):=id I6.sd.dk;erw[λσ' cls iy H'=>cls= .ref R.f/\S.ds.length=20/\σ'=[some (.ref p),some (.ref ma),some (.ref a),some (.ref b),some (.int how),some iv,some hv,some (.str (jH.txt c)),none]/\aF H6 H',?_,λσ' cls iy H' h=>#[_,h.1,Z],?_]
  ·erw[_,Z,a,dx,_,Z,ea,Z,_,Z,a,r,q,M,D',S,c,Z,I6.sd.dk,I6.sd.x,I6.g,cok _ _ _ #[it,gu,λzv H' s'=>#[Z,zv,Z,s'],λcK H7 R7 b7=>?_]]
   let(oB,Ki,v7):=I6.sd.mv I6.g.ok.row.no b7;let(ys,ew,eQ):=oB.w;have ly:=eQ.length;erw[_,Z,b,_,Z,dg oB.e ky,_,Z,by show 1<=sizeLine;decide,λl8 H8 n8=>#[wl,l8,ys,[iv],Z,Z,aE.of (n8.same _ _ ew),aE.of n8.at',by rw[xK];lia,λl9 H9 n9=>#[_,Z,b,_,Z,dp (n9.same _ _ (n8.same _ _ oB.e)) Bx pZ,?_]]];have e8:=n8.same _ _ oB.e;have e9:=n9.same _ _ e8;have vI:=n8.same.trans n9.same;have AD:=vI.v.trans (.upd e9 trivial:cw H9 (_L.upd H9 b (.dK (fo (.ref la) (.ref l9) (.int S.dn) (.int S.aA)))));have lb:l9≠b:=λz=>by rw[z]at n9;rw[n9.no]at e8;cases e8
   have g':=I6.g.uE it cK gu;let(nV,wm,wk,p8):=Sd.rb (D:=D) (a:=a) I6.sd.x I6.sd.bk;let(wq,wu,qO):=x6 I6.sd.dk I6.sd.x I6.sd.bk;have n7:H7 l9=none:=by cases e:H7 l9 with |none=>rfl |some o=>have:=n8.same _ _ e;rw[n9.no]at this;cases this
   erw[_,Z,_,Z,b,_,Z,dg bQ ky,l9,_,Z,.inl (aE.of (by rw[aU lb];erw[n9.at'])),.inl #[_,Z,gF (show((ys++[iv]).length:Int).natAbs<10^40 by rw[fH,xK];lia),Z,?_]];rw[show(ys++[iv]).length=S.ds.length+1 by rw[fH,xK,ly]];rw[bM (show V.str (numS ((S.ds.length+1:Nat):Int))=V.str (Str.ofString (toString ((S.ds.length+1:Nat):Int)))from Z)];have bt:bP [r,q,b] H6 (_L.upd H9 b (.dK (fo (.ref la) (.ref l9) (.int S.dn) (.int S.aA)))):=λx o' e hx=>by simp only[bJ,bZ,cG,not_or]at hx;rw[aU hx.2.2];erw[vI _ _ (b7 _ _ e (by simp only[bJ,bZ,cG,not_or];erw[hx.1,hx.2.1]))]
   erw[k (ng S d o) q la l9 _ #[Ki.but AD λo' e=>?_,R7.go g'.ok.row.no AD (λo' e=>?_) (λo' e=>?_),#[bQ,?_,ys++[iv],?_,?_],I6.sd.ql,λz=>?_] (g'.up I0.hD) I0.fr (Kp.bC b6 #[bt,.inl (by simp),.inl (by simp),(zO b7 n7).imp (λz=>?_) id] I0.ne.1)]
   ·rw[aU qO];erw[vI _ _ e]
   ·rw[aU nV];erw[vI _ _ e]
   ·rw[aU p8];erw[vI _ _ e]
   ·rw[ZR I6.g.ok,aU oB.nl.symm];erw[vI _ _ oB.l]
   ·rw[aU lb];erw[n9.at']
   ·erw[aP.append (aP.v AD _ I6.g.ok.row.no eQ) (cN (RD.v (v7.trans AD) _ it.it.no (RD.mono (s5.trans s6) _ ri)) dI)]
   ·let(zs,eq):=R7.lst
    rw[z,n7]at eq;cases eq
   ·simp only[bJ,bZ,cG]at z⊢
    erw[z.elim .inl λz=>.inr (.inl z)]
  ·rintro C' ex iy σ' H7 _ ⟨_,zv,rfl,s7⟩ hex
   have sx:aF H6 (_L.upd H7 ex (.ext (qh ex (.ref C') iy))):=s7.trans (.new hex);have US:=I6.sd.bk.same sx;let(ys,ew,eQ):=US.w;have ly:=eQ.length;erw[_,Z,b,_,Z,dg US.e ky,wl,ys,Z,.inl (aE.of ew),.inl #[_,_,Z,Z,?_]];rw[bM (show(ys.length:Int)=20 by lia)];erw[k S q la wl _ (I6.sd.same I6.g.ok.row.no sx) (I6.g.up I0.hD) I0.fr (Kp.bC b6 (Kp.refl.same sx) I0.ne.1)]
end
open _T (numS numIn? Free)
section
theorem RG.aA{M:aZ}{D:Nat}{S:aV}{n:Int}(g:RG M D S)(h1:10<=n)(h2:n<=200):RG M D {S with aA:=n}:=by have o:=g.ok;erw[#[o.row,o.rw,o.len,h1,h2,o.dn,o.pl,o.pd,o.pm,o.aR,o.D1,o.D2],g.aM,g.sd.eq Z Z,g.on,g.hD]
def vX(S:aV):Str:=if S.pc=0 then "stands" else "goes"
theorem XN(S:aV):∃z,Txt.split (kL S) " "=[z,vX S]/\(kL S).length<=100:=by
 unfold kL vX;by_cases h:S.pc=0
 ·rw[bM h,bu h]
  cases S.aR.isSome with |true=>erw["held",aH,aH] |false=>erw["free",aH,aH]
 ·rw[cD h,bo h]
  cases S.aR.isSome with |true=>erw["held",aH,aH] |false=>erw["free",aH,aH]
theorem a0j(S:aV):decide (V.str (vX S)=V.str "stands")=decide (S.pc=0):=by
 unfold vX;by_cases h:S.pc=0
 ·rw[bu h,bM h,bM rfl]
 ·rw[bo h,cD h]
  decide+kernel
theorem Zk(n:Int):("rate ":Str)++numS n=jH.txt (.aA n):=by show _="rate"++" "++numS n;rw[show("rate ":Str)="rate"++" " by decide+kernel]
theorem Zl{n:Int}(h1:10<=n)(h2:n<=200):nO (.int n)=true:=by unfold nO cZ;simp only[eX,Aa];erw[h1,h2]
theorem Sd.put{C D:Addr}{H:Hp}{a r q b la wl:Addr}{M:aZ}{S S':aV}(dk:jG K D H a r M)(x:bX K C H r q M S')(bk:hV K H b la wl S)(no:cJ S.ds=true)(ql:q≠la)(qw:q≠wl)(TR:dh S'=dh S)(rE:S'.ds=S.ds):Sd K C D (_L.upd H b (.dK (fo (.ref la) (.ref wl) (.int S'.dn) (.int S'.aA)))) a r q b la wl M S':=by
 let(nV,wm,wk,p8):=Sd.rb (D:=D) (a:=a) x bk;let(wq,wu,qO):=x6 dk x bk;have v:cw H (_L.upd H b (.dK (fo (.ref la) (.ref wl) (.int S'.dn) (.int S'.aA)))):=.upd bk.e trivial;let(ys,ew,eQ):=bk.w;erw[dk.but v λo e=>?_,x.go (by rw[rE];erw[no]) v (λo e=>?_) (λo e=>?_),#[bQ,?_,ys,?_,?_],ql,qw]
 ·rw[aU qO];erw[e]
 ·rw[aU nV];erw[e]
 ·rw[aU p8];erw[e]
 ·rw[TR,aU bk.nl.symm];erw[bk.l]
 ·rw[aU bk.nw.symm];erw[ew]
 ·rw[rE];erw[aP.v v _ no eQ]
theorem bP.put{H H1:Hp}{F:List Addr}{r q b:Addr}{o:HO}(h:bP F H H1)(hF:∀x∈F,x=r\/x=q\/x=b):bP [r,q,b] H (_L.upd H1 b o):=λx o' e hx=>by
 simp only[bJ,bZ,cG,not_or]at hx;rw[aU hx.2.2];erw[h _ _ e λz=>?_];rcases hF x z with z|z|z
 ·erw[hx.1 z]
 ·erw[hx.2.1 z]
 ·erw[hx.2.2 z]
inductive abE(K:aa)(C:Addr)(D:Addr)(vs:List V)(H:Hp)(Q:VK):Prop |mk (m:V)(p:Addr)(a:Addr)(r:Addr)(q:Addr)(b:Addr)(la:Addr)(wl:Addr)(M:aZ)(D':Nat)(S:aV)(h0:vs=[.ref p,.ref a,.ref b])(h1:In K C D H p a r q b la wl M D' S m)(h2:Dt K C D H p a r q b la wl M D' Q)
def MR(K:aa)(C D:Addr):Sp:=λvs H Q _=>abE K C D vs H Q
theorem NR:bp ["_law_bag_here","_law_desk","_law_book","_law_rate","_law_stands","_law_told"] ["_law_bag_here","_law_desk","_law_book"] (aY EJ):=bE aH
theorem a0L{C D:Addr}{R:iQ}(F:FA K mg "_law_turned" EJ)(B:bK mg)(DC:lj K D)(hy:Exc K mg "Moving" R.m jD kQ)(yW:takes K R.m R.m)(dU:aG P w K mg aw "_law_take" 1 lD)(zu:hJ P w K mg aw D "say" 14 (qz K C D R))(lU:cS P w K mg aw D "say" 14 (λvs H Q _=>qz K C D R vs H Q E0)):aG P w K mg aw "_law_turned" 15 (MR K C D):=by
 erw[F.Jx NR (λvs H Q E h=>?_) (λ_ _ _ _ _ _=>kX λ_ _ _=>rfl) (λf aI A outer s H vs Q E hr h=>?_)]
 ·let(m,p,a,r,q,b,la,wl,M,D',S,rfl,_):=h
  rfl
 ·let(m,p,a,r,q,b,la,wl,M,D',S,rfl,I0,k):=h
  have nd:=NR.nd;have iP:sizeLine=16777216:=by decide
  have ur:(jD).contains (.type "BaseException")=true:=by decide
  have uy:∀C',C'=R.m->ClsAt K C'/\takes K C' R.m:=λC' e=>by subst e;erw[hy.cls,yW]
  erw[_,(gZ.nk (pS 3 nd (aQ dv aB (pf dU hr (ao (pv 0) (ao aB az))))) (gZ.nk (pS 4 nd (fj jR (px K (tO K Z (kr lU DC.cl (hr.mono ay) (pv 1) (ao bf az)) (ao bf az)) aB) bf (bB _))) (gZ.Kt (Hj Z Z (λE xe hp=>(aJ (pS 5 nd (Ho zu hp DC.cl (hr.mono ay) (pv 1) (ao (aQ nT bf (cI (x:="str") gJ Z (B.at "str") gp (ao (pv 3) az))) az))))) rfl hy ur uy (λex=>(aJ (aW (Hn (pv 4)))))) (aD (p4 (kT hr.units) (pv 2) bf (pv 3) Z) (aJ (aW (lF (pv 4) (mx (fj jR (pv 5) (cI (x:="str") gJ Z (B.at "str") gp (ao (pv 3) az)) (bB _)))))))))),?_];erw[_,Z,p,191,Z,I0.bC,ay,ay,λt H1 t0 t1 b1=>#[_,_,Z,Z,?_]];have I1:=I0.draw b1;let(dx,mv,ea,oY):=id I1.sd.dk;let(z0,es,hl):=XN S;generalize en:10+t=n;have nm:Nm n:=by show n.natAbs<10^40;lia
  have ln:=fY nm;have e5:Str.length "rate "=5:=by decide+kernel
  erw[_,Z,a,dx,_,Z,ea,Z,a,r,q,M,D',S,.wd .state,Z,I1.sd.dk,I1.sd.x,I1.g,λH2 s2=>?_];erw[Z,kL S," ",Z,Z,aH,au,λl H3 n3=>?_];rw[es]at n3;erw[.inl #[l,_,1,.str (vX S),Z,Z,aE.of n3.at',Z,?_]];erw[Z,?_];have zE:decide (V.str (vX S)=V.str (Str.ofString "stands"))=decide (S.pc=0):=a0j S;rw[zE];have s3:aF H1 H3:=s2.trans n3.same;have b3:bI p H H3:=b1.trans (.fC b1.bC s3);have I3:=I0.draw b3;erw[λσ' cls iy H'=>cls= .ref R.m/\S.pc≠0/\σ'=[some (.ref p),some (.ref a),some (.ref b),some (.int n),some (.bl (decide (S.pc=0))),none]/\aF H3 H',?_,λσ' cls iy H' h=>#[_,h.1,Z],?_]
  ·erw[_,Z,a,dx,_,Z,s3 _ _ ea,Z,_,Z,.inl #[n,Z,gF nm,_,_,Z,Z,by show Str.length "rate "+(numS n).length<=_;lia,?_]]
   erw[a,r,q,M,D',S,.aA n,jZ (λz=>[V.ref a,V.str z]) (Zk n),I3.sd.dk,I3.sd.x,I3.g,nm,λh=>?_,λ_ h H' s'=>#[Z,h,Z,s'],λh1 h2 hp H4 R4 b4=>?_]
   ·rw[Zl au au]at h;cases h
   have KJ:bP [r,q] H3 H4:=λx o e hx=>b4 x o e λz=>hx (by simp only[bJ,bZ,cG]at z⊢;erw[.inl z]);let(iW,x8,v4):=I3.sd.mv I3.g.ok.row.no KJ;erw[_,Z,_,Z,b,_,Z,dp iW.e a0k pZ,?_];rw[bM hp];erw[_,Z,true,Z,bF #[_,Z,_,Z,.inl #[n,Z,gF nm,Z,?_]]];rw[bM (show V.str (numS n)=V.str (Str.ofString (toString n))from Z)];erw[k {S with aA:=n} q la wl _ (Sd.put (S':={S with aA:=n}) x8 R4 iW I3.g.ok.row.no I3.sd.ql I3.sd.qw rfl rfl) ((I3.g.aA h1 h2).up I0.hD) I0.fr (Kp.bC b3 #[bP.put b4 λx hx=>.inl (cE.mp hx),.inl (by simp),.inl (by simp),.inl (by simp)] I0.ne.1)]
  ·rintro C' ex iy σ' H7 _ ⟨_,hp,rfl,s7⟩ hex
   have sx:aF H3 (_L.upd H7 ex (.ext (qh ex (.ref C') iy))):=s7.trans (.new hex);rw[cD hp];erw[_,Z,false,Z,k S q la wl _ (I3.sd.same I3.g.ok.row.no sx) (I3.g.up I0.hD) I0.fr (Kp.bC b3 (Kp.refl.same sx) I0.ne.1)]
end
open _T (numS numIn? Free)
section
theorem RG.hold{M:aZ}{D:Nat}{S:aV}(g:RG M D S)(fr:S.aR=none)(hD:D<=900):jx M S={S with aR:=some (S.pc,gr M.f S.pc,0)}/\RG M (D+10) (jx M S):=by
 have e:jx M S={S with aR:=some (S.pc,gr M.f S.pc,0)}:=by unfold jx;rw[fr]
 have o:=g.ok.hold g.aM au;erw[e,o,g.aM,?_,?_,au]
 ·rw[e];erw[g.sd.eq Z rfl]
 ·rw[e];erw[g.on]
theorem RG.free{M:aZ}{D:Nat}{S:aV}(g:RG M D S):RG M D {S with aR:=none}:=by have o:=g.ok;erw[#[o.row,o.rw,o.len,o.dM,o.eF,o.dn,o.pl,o.pd,o.pm,trivial,o.D1,o.D2],g.aM,g.sd.eq Z Z,g.on,g.hD]
theorem RG.drop{M:aZ}{D:Nat}{S:aV}(g:RG M D S):RG M D (lZ S):=#[g.ok.drop,g.aM,g.sd.eq Z Z,g.on.drop g.ok,g.hD]
def rj(S:aV):Bool:=S.aR.isSome&&decide (S.pc=0)
theorem SJ(S:aV):decide (V.str (kL S)=V.str "held stands")=rj S:=by unfold kL rj;cases S.aR.isSome<;>cases decide (S.pc=0)<;>decide+kernel
theorem Kp.one{H H':Hp}{r q b la wl:Addr}(h:bP [r] H H'):Kp H H' r q b la wl q la wl:=#[λx o e hx=>h x o e λz=>hx (by rw[cE.mp z];erw[.head _]),.inl (by simp),.inl (by simp),.inl (by simp)]
theorem bP.two{H H':Hp}{r q:Addr}(h:bP [r] H H'):bP [r,q] H H':=λx o e hx=>h x o e λz=>hx (by rw[cE.mp z];erw[.head _])
theorem W8:V.str (numS (([]:List ag).length:Nat))=V.str "0":=by decide+kernel
inductive acN(K:aa)(C:Addr)(D:Addr)(vs:List V)(H:Hp)(Q:VK):Prop |mk (m:V)(p:Addr)(a:Addr)(r:Addr)(q:Addr)(b:Addr)(la:Addr)(wl:Addr)(M:aZ)(D':Nat)(S:aV)(h0:vs=[.ref p,.ref a,.ref b])(h1:In K C D H p a r q b la wl M D' S m)(h2:Dt K C D H p a r q b la wl M D' Q)
def Nv(K:aa)(C D:Addr):Sp:=λvs H Q _=>acN K C D vs H Q
theorem P7:bp ["_law_bag_here","_law_desk","_law_book","_law_stands","_law_many","_law_told"] ["_law_bag_here","_law_desk","_law_book"] (aY Ge):=bE aH
theorem a28{C D:Addr}{R:iQ}(F:FA K mg "_law_dropped" Ge)(B:bK mg)(DC:lj K D)(hy:Exc K mg "Moving" R.m jD kQ)(yW:takes K R.m R.m)(dU:aG P w K mg aw "_law_take" 1 lD)(zu:hJ P w K mg aw D "say" 14 (qz K C D R))(lU:cS P w K mg aw D "say" 14 (λvs H Q _=>qz K C D R vs H Q E0))(a7o:uR P w K mg aw D "say" 3 (MW K C D R.m)):aG P w K mg aw "_law_dropped" 15 (Nv K C D):=by
 erw[F.Jx P7 (λvs H Q E h=>?_) (λ_ _ _ _ _ _=>kX λ_ _ _=>rfl) (λf aI A outer s H vs Q E hr h=>?_)]
 ·let(m,p,a,r,q,b,la,wl,M,D',S,rfl,_):=h
  rfl
 ·let(m,p,a,r,q,b,la,wl,M,D',S,rfl,I0,k):=h
  have nd:=P7.nd;have iP:sizeLine=16777216:=by decide
  have ur:(jD).contains (.type "BaseException")=true:=by decide
  have uy:∀C',C'=R.m->ClsAt K C'/\takes K C' R.m:=λC' e=>by subst e;erw[hy.cls,yW]
  erw[_,(gZ.nk (ig (bL (bU nS (pf dU hr (ao (pv 0) (ao aB az))) aB (bB _)) (aJ (mr (kr lU DC.cl (hr.mono ay) (pv 1) (ao bf az)))) bO)) (gZ.nk (pS 3 nd (fj jR (kr lU DC.cl (hr.mono ay) (pv 1) (ao bf az)) bf (bB _))) (gZ.nk (pS 4 nd (dS K B (ao (gE hr (pv 2) bf) az))) (gZ.Kt (Hj Z Z (λE xe hp=>(aJ (pS 5 nd (Ho zu hp DC.cl (hr.mono ay) (pv 1) (ao bf az))))) Z hy ur uy (λex=>(aJ (aW (lF (Hn (pv 3)) (mx (fj jR (a07 a7o DC.cl ((hr.a3r ex).mono ay) (pv 1) (ao bf az)) (cI (x:="str") gJ Z (B.at "str") gp (ao (pv 4) az)) (bB _)))))))) (aD (p4 (kT hr.units) (pv 2) bf (fA az) Z) (aD (p4 (kT hr.units) (pv 2) bf aB Z) (aJ (aW (lF (pv 3) (lF (fj jR (pv 5) (cI (x:="str") gJ Z (B.at "str") gp (ao (pv 4) az)) (bB _)) (mx (fj jR (kr lU DC.cl (hr.mono ay) (pv 1) (ao bf az)) bf (bB _))))))))))))),?_];erw[λO H'=>O=[some (.ref p),some (.ref a),some (.ref b),none,none,none]/\∃t H1,bI p H H1/\RG M (D'+10) {S with aR:=t}/\Sd K C D H' a r q b la wl M {S with aR:=t}/\Kp H1 H' r q b la wl q la wl,?_,?_]
  ·erw[_,Z,p,4,Z,I0.bC,ay,ay,λt H1 t0 t1 b1=>?_]
   have I1:=I0.draw b1;erw[_,_,Z,Z,_,Z,?_];by_cases h:0<t
   ·rw[bM h]
    erw[bF ?_];let(dx,mv,ea,oY):=id I1.sd.dk;let(eh,gh):=I1.g.hold I0.fr I0.hD;erw[_,Z,a,dx,_,Z,ea,Z,a,r,q,M,D',S,.wd .hold,Z,I1.sd.dk,I1.sd.x,I1.g,λH2 R2 b2=>?_];rw[eh]at R2 gh;have V3:bP [r,q] H1 H2:=λx o e hx=>b2 x o e λz=>hx (by simp only[bJ,bZ,cG]at z⊢;erw[.inl z]);let(zQ,Kk,v2):=I1.sd.mv I1.g.ok.row.no V3;erw[Z,some (S.pc,gr M.f S.pc,0),H1,b1,gh,#[Kk,R2,#[zQ.e,zQ.l,zQ.w],I1.sd.ql,I1.sd.qw],#[λx o e hx=>V3 x o e λz=>hx ?_,.inl (by simp),.inl (by simp),.inl (by simp)]];simp only[bJ,bZ,cG]at z⊢;erw[z.imp id .inl]
   ·rw[cD h]
    erw[bh #[Z,none,H1,b1,?_,?_,Kp.refl]]
    ·rw[show({S with aR:=none}:aV)=S by rw[<-I0.fr]];erw[I1.g.up I0.hD]
    ·rw[show({S with aR:=none}:aV)=S by rw[<-I0.fr]];erw[I1.sd]
  rintro O H2 ⟨rfl,t,H1,b1,g2,kj,IP⟩;generalize eS:({S with aR:=t}:aV)=S2 at g2 kj;have rE:S2.ds=S.ds:=by rw[<-eS]
  have TR:dh S2=dh S:=by rw[<-eS];rfl
  let(dx,mv,ea,oY):=id kj.dk;erw[_,Z,a,dx,_,Z,ea,Z,a,r,q,M,_,S2,.wd .state,Z,kj.dk,kj.x,g2,λH3 s3=>?_];erw[Z,?_];have zE:decide (V.str (kL S2)=V.str (Str.ofString "held stands"))=rj S2:=SJ S2;have kM:=kj.same g2.ok.row.no s3;have BZ:=IP.same s3;let(ys,ew,eQ):=id kM.bk.w;have ly:=eQ.length;have IL:=g2.ok.len;have nm:Nm (S2.ds.length:Int):=g2.len;have rF:=s3 _ _ ea;change gc 3 (.bl (decide (V.str (kL S2)=V.str (Str.ofString "held stands")))) _ _ _;rw[zE];erw[_,Z,b,_,Z,dg kM.bk.e ky,wl,ys,Z,.inl (aE.of ew),?_];change gc 4 (.int (ys.length:Int)) _ _ _;rw[ly];erw[λσ' cls iy H'=>cls= .ref R.m/\¬Halt S2.pc S2.aR/\σ'=[some (.ref p),some (.ref a),some (.ref b),some (.bl (rj S2)),some (.int (S2.ds.length:Nat)),none]/\aF H3 H',?_,λσ' cls iy H' h=>#[_,h.1,Z],?_]
  ·erw[_,Z,a,dx,_,Z,rF,Z,a,r,q,M,_,S2,.wd .drop,Z,kM.dk,kM.x,g2,λnh H' s'=>#[Z,nh,Z,s'],λhh q' H4 R4 nq b4=>?_]
   have KJ:bP [r,q] H3 H4:=λx o e hx=>b4 x o e λz=>hx (by simp only[bJ,bZ,cG]at z⊢;erw[.inl z]);let(iW,x8,v4):=kM.mv g2.ok.row.no KJ;erw[ay,λl H5 n5=>#[_,Z,b,_,Z,dp (n5.same _ _ iW.e) Bx pZ,_,Z,b,_,Z,dp bQ Hs pZ,?_]];rw[E5];have Jv:rj S2=true:=zo.mpr hh;rw[Jv];have e5:=n5.same _ _ iW.e;have v5:=n5.same.v.trans (.upd e5 trivial:cw H5 (_L.upd H5 b (.dK (fo (.ref la) (.ref l) (.int 0) (.int S2.aA)))));let(nV,wm,wk,p8):=Sd.rb (D:=D) (a:=a) R4 iW;let(wq,wu,qO):=x6 x8 R4 iW;have lb:l≠b:=λz=>by rw[z]at n5;have:=n5.no;rw[iW.e]at this;cases this
   have ql:q'≠la:=λz=>by rw[z,kM.bk.l]at nq;cases nq
   have qw:q'≠l:=λz=>by let(zs,eq):=R4.lst;rw[z,n5.no]at eq;cases eq
   have Bc:Sd K C D (_L.upd H5 b (.dK (fo (.ref la) (.ref l) (.int 0) (.int S2.aA)))) a r q' b la l M (lZ S2):=by
    erw[x8.but v5 λo e=>?_,R4.go Z v5 (λo e=>?_) (λo e=>?_),#[bQ,?_,[],?_,dI],ql,qw]
    ·rw[aU qO];erw[n5.same _ _ e]
    ·rw[aU nV];erw[n5.same _ _ e]
    ·rw[aU p8];erw[n5.same _ _ e]
    ·rw[aU iW.nl.symm,show dh (lZ S2)=dh S2 from bu rfl];erw[n5.same _ _ iW.l]
    ·rw[aU lb];erw[n5.at']
   have b5:bP [r] H3 H5:=λx o e hx=>n5.same _ _ (b4 x o e hx);have kpA:Kp H3 (_L.upd H5 b (.dK (fo (.ref la) (.ref l) (.int 0) (.int S2.aA)))) r q b la wl q' la l:=#[bP.put b5 λx hx=>.inl (cE.mp hx),.inr nq,.inl (by simp),(zO b4 n5.no).imp (λz=>by rw[cE.mp z];erw[.head _]) id];erw[_,Z,true,Z,bF #[_,Z,_,Z,.inl #[_,Z,gF nm,Z,_,Z,?_]]];rw[bM (show V.str (numS ((S2.ds.length:Nat):Int))=V.str (Str.ofString (toString ((S2.ds.length:Nat):Int)))from Z)];erw[bF ?_];let(pT,Rb,ea6,_):=id Bc.dk;erw[_,Z,a,pT,_,Z,ea6,Z,a,r,q',M,_,lZ S2,.wd .go,Z,Bc.dk,Bc.x,g2.drop,λH7 R7 b7=>#[Z,?_]];rw[bM (show V.str (numS (((lZ S2).ds.length:Nat):Int))=V.str (Str.ofString "0")from W8)];let(oB,Ki,v7):=Bc.mv Z (bP.two b7);erw[k {lZ S2 with aR:=none} q' la l H7 #[Ki,R7,#[oB.e,oB.l,oB.w],ql,qw] g2.drop.free rfl (Kp.bC b1 (BZ.trans (kpA.trans (Kp.one b7))) I0.ne.1)]
  ·rintro C' ex iy σ' H7 _ ⟨_,nh,rfl,s7⟩ hex
   have sx:aF H3 (_L.upd H7 ex (.ext (qh ex (.ref C') iy))):=s7.trans (.new hex);have hb0:rj S2=false:=DU.mpr λz=>nh (zo.mp z);have yl:=kM.same g2.ok.row.no sx;rw[hb0];erw[_,Z,false,Z,true,Z,bF ?_];erw[_,Z,a,dx,_,Z,sx _ _ rF,Z,a,r,q,M,_,S2,Z,#[_,_,bQ],yl.dk,yl.x,g2,λH9 R9 b9=>?_];erw[_,Z,.inl #[_,Z,gF nm,Z,?_]];change Q (.bl (decide (V.str (numS ((S2.ds.length:Nat):Int))=V.str (Str.ofString (toString ((S2.ds.length:Nat):Int)))))) H9;rw[bM (show V.str (numS ((S2.ds.length:Nat):Int))=V.str (Str.ofString (toString ((S2.ds.length:Nat):Int)))from Z)];let(KC,dk9,v9):=yl.mv g2.ok.row.no (bP.two b9);erw[k {S2 with aR:=none} q la wl H9 #[dk9,R9,#[KC.e,KC.l,KC.w],yl.ql,yl.qw] g2.free rfl (Kp.bC b1 ((BZ.same sx).trans (Kp.one b9)) I0.ne.1)]
end
open _T (numS numIn? Free)
section
theorem NL(d:ag)(T:aV):(cX d T).aR=T.aR:=by
 unfold cX;split
 ·split
  ·rfl
  ·split<;>rfl
 ·rfl
structure xo(S:aV)(n:Int):Prop where at':∃sq st gn,S.aR=some (sq,st,gn)/\(st-gn)+(S.ds.length:Int)<=n
theorem CT(S:aV):(gB S).ds.length<=S.ds.length/\(gB S).aR=S.aR:=by
 unfold gB;split
 ·erw[by show S.ds.tail.length<=_;rw[List.length_tail];omega,Z]
 ·erw[bV _,Z]
theorem One.IG{M:aZ}{S S1:aV}{e:ag}{n:Int}(o:One M S e S1)(ok:iB M.rs.length S.ds S.os)(h:xo S n):xo S1 (n-1):=by let(sq,st,gn,es,hn):=h;cases o with
 |@line ns sp eo nh=>
  have hd:(eU M S ns sp).ds=S.ds:=rfl;have hs:(eU M S ns sp).aR=wg S.aR:=rfl;rw[es]at hs;unfold fL;split
  ·let(h1,h2):=CT (eU M S ns sp)
   rw[hd]at h1;erw[sq,st,gn+1,h2.trans hs,au]
  ·erw[sq,st,gn+1,hs,by rw[hd];lia] |@iJ _ eo ed nh=>
  let(f1,f2,_):=NM e S;have hl:0<S.ds.length:=(dZ.mp ed).1;obtain⟨o,os,jz⟩:∃o os,S.os=o::os:=by cases h:S.os with |nil=>rw[h]at eo;cases eo |cons o os=>erw[o,os,Z]
  have h1:(gB (cX e S)).ds=S.ds.tail:=by unfold gB;rw[f1,jz,<-f2]
  erw[sq,st,gn,(CT _).2.trans ((NL _ _).trans es),?_];rw[h1,List.length_tail]
  lia
theorem Run.IG{M:aZ}{D:Nat}{S S1:aV}{es:List ag}(r:Run M S es S1):RG M D S->∀n,xo S n->xo S1 (n-es.length):=by induction r with |nil=>erw[λ_ n h=>by rw[List.length_nil];simpa using h] |@cons _ _ _ _ es o r ih=>intro g n h;have:=ih (g.run (.cons o (.nil _))) _ (o.IG g.ok.row h);rw[gq,show n-((es.length+1:Nat):Int)=n-1-es.length by lia];erw[this]
theorem Run.most{M:aZ}{D:Nat}{S S1:aV}{es:List ag}(r:Run M S es S1)(g:RG M D S){n:Int}(h:xo S n):(es.length:Int)+S1.ds.length<=n:=by
 let(sq,st,gn,e,hn):=r.IG g n h;have:=(g.run r).ok.aR;rw[e]at this;have:=this.2.1
 lia
theorem aaV{ta tb tc:TT}{O:_L.St}{H:Hp}{Q:Bool->Hp->Prop}(c1 c2:Bool)(h1:∀Q':Bool->Hp->Prop,Q' c1 H->ta O H Q')(h2:∀Q':Bool->Hp->Prop,Q' c2 H->tb O H Q')(h3:c1=true->c2=true->∀Q':Bool->Hp->Prop,(∀H',aF H H'->Q' false H')->tc O H Q')(k:∀H',aF H H'->Q false H'):AS ta (AS tb tc) O H Q:=h1 _ (by cases c1 with |false=>erw[k H (aF.refl _)] |true=>erw[h2 _ ?_];cases c2 with |false=>erw[k H (aF.refl _)] |true=>erw[h3 Z Z _ k])
inductive acF(K:aa)(C:Addr)(D:Addr)(vs:List V)(H:Hp)(Q:VK):Prop |mk (m:V)(a:Addr)(r:Addr)(q:Addr)(b:Addr)(la:Addr)(wl:Addr)(M:aZ)(D':Nat)(S:aV)(h0:vs=[m,.ref a,.ref b])(h1:RD K H m (aZ.D M))(h2:Sd K C D H a r q b la wl M S)(h3:RG M D' S)(h4:S.aR=none)(h5:D'<=900)(h6:∀S' q' dE cY H',Sd K C D H' a r q' b dE cY M S'->RG M (D'+10) S'->S'.aR=none->Kp H H' r q b la wl q' dE cY->Q (.bl true) H')
def Nk(K:aa)(C D:Addr):Sp:=λvs H Q _=>acF K C D vs H Q
theorem OZ:bp ["_law_machine_here","_law_desk","_law_book","_law_most","_law_ahead","_law_many"] ["_law_machine_here","_law_desk","_law_book"] (aY G6):=bE aH
theorem a21{C D:Addr}{R:iQ}(F:FA K mg "_law_held" G6)(B:bK mg)(DC:lj K D)(JE:aG P w K mg aw "_law_steps_told" 15 (Ek K C D))(lU:cS P w K mg aw D "say" 14 (λvs H Q _=>qz K C D R vs H Q E0)):aG P w K mg aw "_law_held" 16 (Nk K C D):=by
 erw[F.has OZ (λvs H Q E h=>?_) (λ_ _ _ _ _ _=>kX λ_ _ _=>rfl) (λf aI A outer s H vs Q E hr h=>?_)]
 ·let(m,a,r,q,b,la,wl,M,D',S,rfl,_):=h
  rfl
 ·let(m,a,r,q,b,la,wl,M,D',S,rfl,rm,sd,g,fr,hD,k):=h
  have nd:=OZ.nd;have iP:sizeLine=16777216:=by decide
  erw[_,(aD (pS 3 nd (cI (x:="int") xg Z (B.at "int") sj (ao (kr lU DC.cl (hr.mono ay) (pv 1) (ao bf az)) az))) (aD (pS 4 nd (dS K B (ao (gE hr (pv 2) bf) az))) (aD (pS 5 nd (pf JE hr (ao (pv 0) (ao (pv 1) (ao (pv 2) (ao aB az)))))) (aD (bL (PW.pt (iU (bU BA (pv 5) gT (bB _)) (jt (bU nS (pv 5) (aQ dv (pv 3) (pv 4)) (bB _))))) (aJ (aW ju)) bO) (aD (bL (PW.pt (oZ (bU ku (pv 5) aB (bB _)) (oZ (bU nS (dS K B (ao (gE hr (pv 2) bf) az)) aB (bB _)) (vP (bU HD (kr lU DC.cl (hr.mono ay) (pv 1) (ao bf az)) bf (bB _)))))) (aJ (aW ju)) bO) (aJ (aW (fj jR (kr lU DC.cl (hr.mono ay) (pv 1) (ao bf az)) (cI (x:="str") gJ Z (B.at "str") gp (ao (dS K B (ao (gE hr (pv 2) bf) az)) az)) (bB _))))))))),?_];let(dx,mv,ea,oY):=id sd.dk;let(eh,gh):=g.hold fr hD;let(iz,il):=yV g.MC.b;erw[_,Z,a,dx,_,Z,ea,Z,a,r,q,M,D',S,.wd .hold,Z,sd.dk,sd.x,g,λH1 R1 b1=>#[_,gr M.f S.pc,Z,iz,il,?_]];have R1':=R1;let(pY,zH,v1):=sd.mv g.ok.row.no (bP.two b1);let(ys,ew,eQ):=id pY.w;have ly:=eQ.length;have ed:(jx M S).ds=S.ds:=by rw[eh]
  have lf:xo (jx M S) (gr M.f S.pc+(S.ds.length:Int)):=#[S.pc,gr M.f S.pc,0,by rw[eh],by rw[ed];lia];have Ye:Sd K C D H1 a r q b la wl M (jx M S):=by rw[eh]at R1⊢;erw[zH,R1,#[pY.e,pY.l,pY.w],sd.ql,sd.qw]
  erw[_,Z,b,_,Z,dg pY.e ky,wl,ys,Z,.inl (aE.of ew),?_];erw[_,Z,_,Z,_,Z,m,a,r,q,b,la,wl,M,D'+10,jx M S,100,Z,RD.v v1 _ (gw _ _ _ _ _) rm,Ye,gh,ay,ay,λes S2 q2 cW cQ H2 run hl mU kj IP=>?_];have g2:=gh.run run;have hm:=run.most gh lf;have qQ:=g2.ok.row.len;have IL:=g2.ok.len;have nm:Nm (S2.ds.length:Int):=g2.len;unfold gc;dsimp only;unfold xX Eb;dsimp only;erw[Qu false false (λQ' q'=>#[_,Z,Z,_,Z,q']) (λQ' q'=>#[_,Z,_,Z,_,Z,_,_,Z,Z,_,_,Z,Z,_,Z,?_]) ?_]
  ·rw[cD (show¬gr M.f S.pc+(ys.length:Int)<(es.length:Int) by lia)]
   erw[q']
  erw[bh ?_];let(Ax,ew2,Yz):=id kj.bk.w;have BS:=Yz.length;let(jA,Ik,U8,_):=id kj.dk;unfold Mh;dsimp only;erw[aaV (decide ((es.length:Int)<100)) (decide (0<(Ax.length:Int))) (λQ' q'=>#[_,Z,_,_,Z,Z,_,Z,q']) (λQ' q'=>#[_,Z,b,_,Z,dg kj.bk.e ky,cQ,Ax,Z,.inl (aE.of ew2),_,_,Z,Z,_,Z,q']) (λc1 c2 Q' q'=>?_) λH3 s3=>bh ?_]
  ·have c1:=jY c1
   have c2:=jY c2;have hh:Halt S2.pc S2.aR:=by
    rcases mU with h|h|h
    ·lia
    ·rw[h]at qQ;simp at qQ;rw[qQ]at BS;simp at BS;rw[BS]at c2;simp at c2
    ·erw[h]
   erw[_,Z,a,jA,_,Z,U8,Z,a,r,q2,M,_,S2,.wd .state,Z,kj.dk,kj.x,g2,λH3 s3=>#[Z,_,Z,?_]];have zE:decide (V.str (kL S2)=V.str (Str.ofString "held stands"))=rj S2:=SJ S2;have Jv:rj S2=true:=zo.mpr hh;change Q' (!decide (V.str (kL S2)=V.str (Str.ofString "held stands"))) H3;rw[zE,Jv];erw[q' H3 s3]
  have kM:=kj.same g2.ok.row.no s3;erw[_,Z,a,jA,_,Z,s3 _ _ U8,Z,a,r,q2,M,_,S2,.wd .go,Z,kM.dk,kM.x,g2,λH4 R4 b4=>?_];let(iW,x8,v4):=kM.mv g2.ok.row.no (bP.two b4);let(W9,ew4,Yy):=id iW.w;have Rp:=Yy.length;erw[_,Z,b,_,Z,dg iW.e ky,cQ,W9,Z,.inl (aE.of ew4),.inl #[_,Z,by rw[Rp];erw[gF nm],Z,?_]];rw[Rp];change Q (.bl (decide (V.str (numS ((S2.ds.length:Nat):Int))=V.str (Str.ofString (toString ((S2.ds.length:Nat):Int)))))) H4;rw[bM (show V.str (numS ((S2.ds.length:Nat):Int))=V.str (Str.ofString (toString ((S2.ds.length:Nat):Int)))from Z)];erw[k {S2 with aR:=none} q2 cW cQ H4 #[x8,R4,#[iW.e,iW.l,iW.w],kj.ql,kj.qw] g2.free rfl ((Kp.one b1).trans ((IP.same s3).trans (Kp.one b4)))]
end
open _T (numS numIn? Free)
section
theorem xp.ahead{H H1 H2:Hp}{p r q b la wl q' dE cY:Addr}(bx:bI p H H1)(k:xp H1 H2 p r q b la wl q' dE cY):xp H H2 p r q b la wl q' dE cY:=#[λx o e hx=>k.but _ _ (bx.same _ _ (λz=>hx (by rw[z];erw[.head _])) e) hx,bx.wo k.nq,bx.wo k.nl,bx.wo k.nw,k.bC]
theorem Dt.ahead{C D:Addr}{H H1:Hp}{p a r q b la wl:Addr}{M:aZ}{D':Nat}{Q:VK}(bx:bI p H H1)(k:Dt K C D H p a r q b la wl M D' Q):Dt K C D H1 p a r q b la wl M D' Q:=λS' q' dE cY H' s g f kp=>k S' q' dE cY H' s g f (kp.ahead bx)
theorem Run.aR{M:aZ}{S S1:aV}{es:List ag}(r:Run M S es S1)(h:S.aR=none):S1.aR=none:=by induction r with |nil=>erw[h] |cons o _ ih=>apply ih;cases o with
 |line _ _=>
  unfold fL;split
  ·rw[(CT _).2]
   show wg _=none;rw[h];rfl
  ·show wg _=none;rw[h];rfl |iJ _ _ _=>rw[(CT _).2,NL];erw[h]
inductive abQ(K:aa)(C:Addr)(D:Addr)(vs:List V)(H:Hp)(Q:VK):Prop |mk (m:V)(p:Addr)(a:Addr)(r:Addr)(q:Addr)(b:Addr)(la:Addr)(wl:Addr)(M:aZ)(D':Nat)(S:aV)(h0:vs=[.ref p,m,.ref a,.ref b])(h1:In K C D H p a r q b la wl M D' S m)(h2:Dt K C D H p a r q b la wl M D' Q)
def MX(K:aa)(C D:Addr):Sp:=λvs H Q _=>abQ K C D vs H Q
theorem ZT{t x y:Int}(hx:0<=x)(C9:x<=100)(hy:0<=y)(hy1:y<=100):∃n,fb [V.int x,V.int y] (t%2)=some (.int n)/\0<=n/\n<=100:=by
 rcases(by lia:t%2=0\/t%2=1)with e|e
 ·rw[e];erw[x,Z,hx,C9]
 ·rw[e];erw[y,Z,hy,hy1]
theorem NZ:bp ["_law_bag_here","_law_machine_here","_law_desk","_law_book","_law_how"] ["_law_bag_here","_law_machine_here","_law_desk","_law_book"] (aY ET):=bE aH
theorem a1a{C D:Addr}(F:FA K mg "_law_said" ET)(B:bK mg)(dU:aG P w K mg aw "_law_take" 1 lD)(a7f:aG P w K mg aw "_law_fed" 15 (Nq K C D))(JE:aG P w K mg aw "_law_steps_told" 15 (Ek K C D))(a7e:aG P w K mg aw "_law_held" 16 (Nk K C D))(a73:aG P w K mg aw "_law_turned" 15 (MR K C D))(a7g:aG P w K mg aw "_law_dropped" 15 (Nv K C D)):aG P w K mg aw "_law_said" 17 (MX K C D):=by
 erw[F.has NZ (λvs H Q E h=>?_) (λ_ _ _ _ _ _=>xi λ_ _ _ _=>rfl) (λf aI A outer s H vs Q E hr h=>?_)]
 ·let(m,p,a,r,q,b,la,wl,M,D',S,rfl,_):=h
  rfl
 ·let(m,p,a,r,q,b,la,wl,M,D',S,rfl,I0,k):=h
  have nd:=NZ.nd;erw[_,(aD (pS 4 nd (pf dU hr (ao (pv 0) (ao aB az)))) (aD (bL (bU ku (pv 4) aB (bB _)) (aJ (aW (pf a7f hr (ao (pv 0) (ao (pv 1) (ao (pv 2) (ao (pv 3) az))))))) bO) (aD (bL (bU ku (pv 4) aB (bB _)) (aJ (aW (fj Hv (pf JE hr (ao (pv 1) (ao (pv 2) (ao (pv 3) (ao (px K (fA (ao (pf dU hr (ao (pv 0) (ao aB az))) (ao (pf dU hr (ao (pv 0) (ao aB az))) az))) (aQ qG (pv 4) aB)) az))))) gT (bB _)))) bO) (aD (bL (bU (dW K Z hr.units) (pv 4) aB (bB _)) (aJ (aW (pf a7e hr (ao (pv 1) (ao (pv 2) (ao (pv 3) az)))))) bO) (aD (bL (bU (dW K Z hr.units) (pv 4) aB (bB _)) (aJ (aW (pf a73 hr (ao (pv 0) (ao (pv 2) (ao (pv 3) az)))))) bO) (aJ (aW (pf a7g hr (ao (pv 0) (ao (pv 2) (ao (pv 3) az))))))))))),?_];erw[_,Z,p,12,Z,I0.bC,ay,ay,λt H1 t0 t1 b1=>?_];have I1:=I0.draw b1;have k1:=k.ahead b1;erw[_,Z,_,_,Z,Z,_,Z,?_];by_cases h5:t<5
  ·rw[bM h5]
   erw[bF #[_,Z,_,Z,_,Z,_,Z,m,p,a,r,q,b,la,wl,M,D',S,Z,I1,k1]]
  rw[cD h5];erw[bh #[_,Z,_,_,Z,Z,_,Z,?_]];by_cases h9:t<9
  ·rw[bM h9]
   erw[bF #[_,Z,_,Z,_,Z,_,Z,p,60,Z,I1.bC,ay,ay,λn1 H2 yO ph b2=>#[_,Z,p,6,Z,b2.bC,ay,ay,λn2 H3 n20 n21 b3=>#[by show 2<=sizeLine;decide,λl H4 n4=>?_]]]];let(n,en,n0,yP):=ZT (t:=t) yO (by lia:n1<=100) n20 (by lia:n2<=100);have b4:bI p H1 H4:=(b2.trans b3).trans (.fC b3.bC n4.same);have I4:=I1.draw b4;erw[_,Z,_,_,Z,Z,ay,.inl #[l,_,t%2,_,Z,Z,aE.of n4.at',en,?_]];erw[m,a,r,q,b,la,wl,M,D',S,n,Z,I4.rm,I4.sd,I4.g,n0,yP,λes S' q' dE cY H' run _ _ Yf kp=>#[Z,?_]];erw[k1 S' q' dE cY H' Yf ((I4.g.run run).up I1.hD) (run.aR I1.fr) (Kp.bC b4 kp I1.ne.1)]
  rw[cD h9];erw[bh #[_,Z,.inl #[_,_,Z,Z,_,Z,?_]]];by_cases e9:t=9
  ·rw[bM e9]
   erw[bF #[_,Z,_,Z,_,Z,m,a,r,q,b,la,wl,M,D',S,Z,I1.rm,I1.sd,I1.g,I1.fr,I1.hD,λS' q' dE cY H' s g f kp=>k1 S' q' dE cY H' s g f (Kp.bC (bI.refl I1.bC) kp I1.ne.1)]]
  rw[cD e9];erw[bh #[_,Z,.inl #[_,_,Z,Z,_,Z,?_]]];by_cases Uc:t=10
  ·rw[bM Uc]
   erw[bF #[_,Z,_,Z,_,Z,m,p,a,r,q,b,la,wl,M,D',S,Z,I1,k1]]
  rw[cD Uc];erw[bh #[_,Z,_,Z,_,Z,m,p,a,r,q,b,la,wl,M,D',S,Z,I1,k1]]
end
open _T (numS numIn? Free)
section
structure Si(K:aa)(C D:Addr)(H0 HA:Hp)(st:List Addr)(H:Hp)(m:V)(a r q b la wl:Addr)(M:aZ)(D':Nat)(S:aV):Prop where
 sd:Sd K C D H a r q b la wl M S
 g:RG M D' S
 fr:S.aR=none
 rm:RD K H m (aZ.D M)
 n0:∀x∈[r,q,b,la,wl],H0 x=none
 qJ:∀x∈[r,q,b,la,wl],x∉st
structure Tw(K:aa)(C D:Addr)(H0 HA:Hp)(st:List Addr)(H:Hp)(m1 m2:V)(a1 r1 q1 b1 cA cy a2 r2 q2 b2 cW cQ:Addr)(M1 M2:aZ)(D1 D2:Nat)(S1 S2:aV):Prop where
 s0:aF H0 H
 kept:∀y∈st,∃o,HA y=some o/\H y=some o
 x1:Si K C D H0 HA st H m1 a1 r1 q1 b1 cA cy M1 D1 S1
 x2:Si K C D H0 HA st H m2 a2 r2 q2 b2 cW cQ M2 D2 S2
 ft:∀x∈[r1,q1,b1,cA,cy],x∉[r2,q2,b2,cW,cQ]
section
variable {C D:Addr}{H0 HA H H':Hp}{st:List Addr}{m m1 m2:V}{a r q b la wl p a1 r1 q1 b1 cA cy a2 r2 q2 b2 cW cQ q' dE cY:Addr}{M M1 M2:aZ}{D' D1 D2:Nat}{S S' S1 S2:aV}
theorem Tw.swap(t:Tw K C D H0 HA st H m1 m2 a1 r1 q1 b1 cA cy a2 r2 q2 b2 cW cQ M1 M2 D1 D2 S1 S2):Tw K C D H0 HA st H m2 m1 a2 r2 q2 b2 cW cQ a1 r1 q1 b1 cA cy M2 M1 D2 D1 S2 S1:=#[t.s0,t.kept,t.x2,t.x1,λx hx hy=>t.ft x hy hx]
theorem Sd.ex(sd:Sd K C D H a r q b la wl M S):(∀x∈[r,q,b,la,wl],H x≠none)/\H a≠none:=by
 let(dx,fs,er):=sd.x.ins;let(ys,eq):=sd.x.lst;let(zs,ew,_):=sd.bk.w;let(iy,mv,ea,_):=sd.dk;erw[λx hx=>?_,by rw[ea];erw[λz=>nomatch z]];simp only[bJ,bZ,cG]at hx;rcases hx with rfl|rfl|rfl|rfl|rfl
 ·rw[er];erw[λz=>nomatch z]
 ·rw[eq];erw[λz=>nomatch z]
 ·rw[sd.bk.e];erw[λz=>nomatch z]
 ·rw[sd.bk.l];erw[λz=>nomatch z]
 ·rw[ew];erw[λz=>nomatch z]
theorem Si.but{F:List Addr}(x:Si K C D H0 HA st H m a r q b la wl M D' S)(v:cw H H')(bt:bP F H H')(hF:∀y∈[r,q,b,la,wl],y∉F)(ha:a∉F):Si K C D H0 HA st H' m a r q b la wl M D' S:=by have no:=x.g.ok.row.no;erw[#[x.sd.dk.but v λo e=>bt _ _ e ha,x.sd.x.go no v (λo e=>bt _ _ e (hF _ (by simp))) (λo e=>bt _ _ e (hF _ (by simp))),x.sd.bk.but no v λy o e hy=>bt _ _ e (hF _ ?_),x.sd.ql,x.sd.qw],x.g,x.fr,RD.v v _ (gw _ _ _ _ _) x.rm,x.n0,x.qJ];simp only[bJ,bZ,cG]at hy⊢;erw[.inr (.inr hy)]
theorem Tw.same(t:Tw K C D H0 HA st H m1 m2 a1 r1 q1 b1 cA cy a2 r2 q2 b2 cW cQ M1 M2 D1 D2 S1 S2)(s:aF H H'):Tw K C D H0 HA st H' m1 m2 a1 r1 q1 b1 cA cy a2 r2 q2 b2 cW cQ M1 M2 D1 D2 S1 S2:=by have bt:bP [] H H':=λx o e _=>s _ _ e;erw[t.s0.trans s,λy hy=>by let(o,e1,e2):=t.kept y hy;erw[o,e1,s _ _ e2],t.x1.but s.v bt (λ_ _=>bZ) bZ,t.x2.but s.v bt (λ_ _=>bZ) bZ,t.ft]
structure Pb(H0:Hp)(st:List Addr)(p q1 cA cy q2 cW cQ:Addr):Prop where
 n0:H0 p=none
 qJ:p∉st
 h1:p∉[q1,cA,cy]
 h2:p∉[q2,cW,cQ]
theorem Tw.Sf(t:Tw K C D H0 HA st H m1 m2 a1 r1 q1 b1 cA cy a2 r2 q2 b2 cW cQ M1 M2 D1 D2 S1 S2)(bg:fG H p)(pb:Pb H0 st p q1 cA cy q2 cW cQ)(hD:D1<=900):In K C D H p a1 r1 q1 b1 cA cy M1 D1 S1 m1:=#[bg,pb.h1,t.x1.rm,t.x1.sd,t.x1.g,t.x1.fr,hD]
theorem Tw.act(t:Tw K C D H0 HA st H m1 m2 a1 r1 q1 b1 cA cy a2 r2 q2 b2 cW cQ M1 M2 D1 D2 S1 S2)(bg:fG H p)(pb:Pb H0 st p q1 cA cy q2 cW cQ)(sd:Sd K C D H' a1 r1 q' b1 dE cY M1 S')(g:RG M1 (D1+10) S')(fr:S'.aR=none)(kp:xp H H' p r1 q1 b1 cA cy q' dE cY):Tw K C D H0 HA st H' m1 m2 a1 r1 q' b1 dE cY a2 r2 q2 b2 cW cQ M1 M2 (D1+10) D2 S' S2/\Pb H0 st p q' dE cY q2 cW cQ/\fG H' p:=by
 have new:∀x∈[r1,q',b1,dE,cY],x∈[r1,q1,b1,cA,cy]\/H x=none:=λx hx=>by
  have w:∀{x:Addr},iY H [r1,q1,b1] x->x∈[r1,q1,b1,cA,cy]\/H x=none:=λ{x} h=>h.f;simp only[bJ,bZ,cG]at hx;rcases hx with rfl|rfl|rfl|rfl|rfl
  ·erw[.inl (by simp)]
  ·erw[w kp.nq]
  ·erw[.inl (by simp)]
  ·erw[kp.nl]
  ·erw[kp.nw]
 let(c,mm,ep,okc):=bg;let(dx,fs,er):=t.x1.sd.x.ins;let(ys,eq):=t.x1.sd.x.lst;have v:cw H H':=kp.but.v λx hx o eo=>by
  simp only[bJ,bZ,cG]at hx;rcases hx with rfl|rfl|rfl|rfl
  ·rw[ep]at eo;cases eo;trivial
  ·rw[er]at eo;cases eo;trivial
  ·rw[eq]at eo;cases eo;trivial
  ·rw[t.x1.sd.bk.e]at eo;cases eo;trivial
 have sub:∀x,x∈[p,r1,q1,b1]->x=p\/x∈[r1,q1,b1,cA,cy]:=λx hx=>by
  simp only[bJ,bZ,cG]at hx⊢;rcases hx with h|h|h|h
  ·erw[.inl h]
  ·erw[.inr (.inl h)]
  ·erw[.inr (.inr (.inl h))]
  ·erw[.inr (.inr (.inr (.inl h)))]
 have pG:∀{a r q b la wl M S},Sd K C D H a r q b la wl M S->p∉[q,la,wl]->p∉[r,q,b,la,wl]/\a≠p:=λ{a r q b la wl M S} sd hp=>by let(jA,CD,CN):=sd.x.ins;let(Kd,wy,rF,_):=sd.dk;have h1:p≠r:=iM ep CN (by intro z;cases z);have h2:p≠b:=iM ep sd.bk.e (by intro z;cases z);simp only[bJ,bZ,cG,not_or]at hp⊢;erw[#[h1,hp.1,h2,hp.2.1,hp.2.2],iM rF ep (by intro z;cases z)]
 let(p2,ap2):=pG t.x2.sd pb.h2;let(h21,h22,h23):=x6 t.x2.sd.dk t.x1.sd.x t.x1.sd.bk;let(ex2,_):=t.x2.sd.ex;have ne0:H p≠none:=by rw[ep];erw[λz=>nomatch z]
 erw[#[λx o e=>kp.but _ _ (t.s0 _ _ e) λhx=>?_,λy hy=>?_,#[sd,g,fr,RD.v v _ (gw _ _ _ _ _) t.x1.rm,λx hx=>?_,λx hx hs=>?_],t.x2.but v kp.but (λy hy hx=>?_) (λhx=>?_),λx hx hy=>?_],#[pb.n0,pb.qJ,λhx=>?_,pb.h2],kp.bC]
 ·rcases sub x hx with rfl|hx
  ·rw[pb.n0]at e;cases e
  ·rw[t.x1.n0 x hx]at e;cases e
 ·let(o,e1,e2):=t.kept y hy
  erw[o,e1,kp.but _ _ e2 λhx=>?_];rcases sub y hx with rfl|hx
  ·erw[pb.qJ hy]
  ·erw[t.x1.qJ y hx hy]
 ·rcases new x hx with h|h
  ·erw[t.x1.n0 x h]
  ·cases e:H0 x with |none=>rfl |some o=>rw[t.s0 _ _ e]at h;cases h
 ·rcases new x hx with h|h
  ·erw[t.x1.qJ x h hs]
  ·let(o,_,e2):=t.kept x hs
   rw[e2]at h;cases h
 ·rcases sub y hx with rfl|hx
  ·erw[p2 hy]
  ·erw[t.ft y hx hy]
 ·simp only[bJ,bZ,cG]at hx
  rcases hx with h|h|h|h
  ·erw[ap2 h]
  ·erw[h21 h]
  ·erw[h22 h]
  ·erw[h23 h]
 ·rcases new x hx with h|h
  ·erw[t.ft x h hy]
  ·erw[ex2 x hy h]
 ·have:p∈[r1,q1,b1,cA,cy]\/H p=none:=by
   simp only[bJ,bZ,cG]at hx;rcases hx with h|h|h
   ·erw[new p (by rw[h];simp)]
   ·erw[new p (by rw[h];simp)]
   ·erw[new p (by rw[h];simp)]
  rcases this with h|h
  ·exact(pG t.x1.sd pb.h1).1 h
  ·erw[ne0 h]
end
end
open _T (numS numIn? Free)
section
structure jX(H:Hp)(b la wl:Addr)(pl:List Int):Prop where
 e:H b=some (.dK (fo (.ref la) (.ref wl) (.int 0) (.int 100)))
 l:H la=some (.lst (pl.map V.int))
 w:H wl=some (.lst [])
theorem jX.same{H H':Hp}{b la wl:Addr}{pl:List Int}(h:jX H b la wl pl)(s:aF H H'):jX H' b la wl pl:=#[s _ _ h.e,s _ _ h.l,s _ _ h.w]
theorem jX.upd{H:Hp}{b la wl x:Addr}{pl:List Int}{o:HO}(h:jX H b la wl pl)(n:∀y∈[b,la,wl],y≠x):jX (_L.upd H x o) b la wl pl:=#[by rw[aU (n _ (by simp))];erw[h.e],by rw[aU (n _ (by simp))];erw[h.l],by rw[aU (n _ (by simp))];erw[h.w]]
theorem jX.ex{H:Hp}{b la wl:Addr}{pl:List Int}(h:jX H b la wl pl):∀y∈[b,la,wl],H y≠none:=λy hy=>by
 simp only[bJ,bZ,cG]at hy;rcases hy with rfl|rfl|rfl
 ·rw[h.e];erw[λz=>nomatch z]
 ·rw[h.l];erw[λz=>nomatch z]
 ·rw[h.w];erw[λz=>nomatch z]
theorem aab{lp L:Addr}{Hb H0:Hp}{qD qC:V}{pl1 pl2:List Int}{te:TE}{Q:VK}(hx:Hb lp=some (.lst [qD,qC]))(nw:Nw Hb H0 L (.lst [])) (hs:∀x pl H2 (Q':VK),(x=qD/\pl=pl1\/x=qC/\pl=pl2)->aF Hb H2->(∀b la wl H3,(∀y∈[b,la,wl],H2 y=none)->jX H3 b la wl pl->aF H2 H3->Q' (.ref b) H3)->te [some x] H2 Q') (hq:∀b1 cA cy b2 cW cQ H',aF Hb H'->H' L=some (.lst [.ref b1,.ref b2])->jX H' b1 cA cy pl1->jX H' b2 cW cQ pl2->(∀y∈[b1,cA,cy],H0 y=none)->(∀y∈[b2,cW,cQ],H0 y=none/\y∉[b1,cA,cy])->Q (.ref L) H'):kF (rX K lp) (gc 0) jL te Q L [none] H0:=by
 have fr:∀{H3:Hp}{y:Addr},aF Hb H3->H3 L≠none->H3 y=none->H0 y=none:=λ{H3 y} s hL hy=>by cases e:H0 y with |none=>rfl |some o=>
  rw[nw.eq]at e;by_cases z:y=L
  ·rw[z]at hy;exact(hL hy).elim
  ·rw[aU z]at e
   rw[s _ _ e]at hy;cases hy
 have nL:∀{H3:Hp}{o:HO}{y:Addr},H3 L=some o->H3 y=none->y≠L:=λ{H3 o y} e1 e2 z=>by rw[z,e1]at e2;cases e2
 have sL:∀{H3:Hp}{o:HO},aF Hb H3->aF Hb (_L.upd H3 L o):=λ{H3 o} s b o' e=>by rw[aU (λz=>by rw[z,nw.no]at e;cases e)];erw[s _ _ e]
 erw[uI 2 (λi O H3=>aF Hb H3/\(∃v,O=[v])/\(i=0/\H3 L=some (.lst [])\/i=1/\(∃b la wl,H3 L=some (.lst [.ref b])/\jX H3 b la wl pl1/\∀y∈[b,la,wl],H0 y=none/\y≠L)\/i=2/\∃b1 cA cy b2 cW cQ,H3 L=some (.lst [.ref b1,.ref b2])/\jX H3 b1 cA cy pl1/\jX H3 b2 cW cQ pl2/\(∀y∈[b1,cA,cy],H0 y=none)/\∀y∈[b2,cW,cQ],H0 y=none/\y∉[b1,cA,cy])) ?_ ?_ ?_]
 ·erw[nw.same,#[_,Z],.inl #[Z,nw.at']]
 ·rintro i O H3 hi ⟨s3,⟨v,rfl⟩,h|⟨rfl,b1,cA,cy,eL,bk,hn⟩|⟨rfl,_⟩⟩
  ·let(rfl,eL):=h
   erw[#[_,qD,aE.of (s3 _ _ hx),Z],λy H4 #[e4,y4]=>?_];obtain rfl:H4=H3:=e4;have:=y4 _ (aE.of (s3 _ _ hx));obtain rfl:qD=y:=dQ this;erw[vm ?_];erw[hs qD pl1 _ _ (.inl #[Z,Z]) s3 λb la wl H5 nb KD s5=>#[_,s5 _ _ eL,by show 0<sizeLine;decide,1,ay,Z,ay,sL (s3.trans s5),#[_,Z],.inr (.inl #[Z,b,la,wl,bQ,KD.upd λy hy=>nL eL (nb y hy),λy hy=>#[fr s3 (by rw[eL];erw[λz=>nomatch z]) (nb y hy),nL eL (nb y hy)]])]]
  ·erw[#[_,qC,aE.of (s3 _ _ hx),Z],λy H4 #[e4,y4]=>?_]
   obtain rfl:H4=H3:=e4;have:=y4 _ (aE.of (s3 _ _ hx));obtain rfl:qC=y:=dQ this;erw[vm ?_];erw[hs qC pl2 _ _ (.inr #[Z,Z]) s3 λb la wl H5 nb KD s5=>#[_,s5 _ _ eL,by show 1<sizeLine;decide,0,ay,Z,ay,sL (s3.trans s5),#[_,Z],.inr (.inr #[Z,b1,cA,cy,b,la,wl,bQ,(bk.same s5).upd λy hy=>(hn y hy).2,KD.upd λy hy=>nL eL (nb y hy),λy hy=>(hn y hy).1,λy hy=>#[fr s3 (by rw[eL];erw[λz=>nomatch z]) (nb y hy),λSn=>bk.ex y Sn (nb y hy)]])]]
  ·omega
 ·rintro O H3 ⟨s3,⟨v,rfl⟩,⟨h,_⟩|⟨h,_⟩|⟨_,b1,cA,cy,b2,cW,cQ,h1,h2,h3,h4,h5⟩⟩
  ·cases h
  ·cases h
  ·erw[#[_,aE.of (s3 _ _ hx),by show 2<=2;decide],hq _ _ _ _ _ _ _ s3 h1 h2 h3 h4 h5]
theorem yS{Pp:Addr->Prop}{r q b la wl:Addr}(h1:∀x∈[r,q],Pp x)(h2:∀x∈[b,la,wl],Pp x):∀x∈[r,q,b,la,wl],Pp x:=λx hx=>by
 rcases bJ.mp hx with rfl|hx
 ·erw[h1 _ (by simp)]
 rcases bJ.mp hx with rfl|hx
 ·erw[h1 _ (by simp)]
 ·erw[h2 x hx]
theorem BQ{Pp:Addr->Prop}{r q:Addr}(h1:Pp r)(h2:Pp q):∀x∈[r,q],Pp x:=λx hx=>by
 rcases bJ.mp hx with rfl|hx
 ·erw[h1]
 ·rw[cE.mp hx];erw[h2]
theorem back{H H':Hp}{x:Addr}(s:aF H H')(h:H' x=none):H x=none:=by cases e:H x with |none=>rfl |some o=>rw[s _ _ e]at h;cases h
theorem fwd{H H':Hp}{x:Addr}(s:aF H H')(h:H x≠none):H' x≠none:=λe=>h (back s e)
theorem a3o{p w d r:V}:wA [] (fo p w d r)=fo p w d r:=by kernel_rfl
theorem Z9{M:aZ}{pl:List Int}(yE:M.Ok)(BD:fF M.rs pl):RG M 64 (nN pl):=#[YW BD.len,yE,#[show Str.length "up"<=100 by decide+kernel,show Str.length ""<=100 by decide+kernel,show dN "up" from p5 aH,show dN "" from p5 aH],λi hi=>by have:i=0:=Nat.le_zero.mp hi;rw[this];erw[BD],ay]
theorem si0{C D:Addr}{H H7 iZ HB uU:Hp}{st:List Addr}{m:V}{a r q b la wl:Addr}{M:aZ}{pl:List Int}(dk:jG K D iZ a r M)(x:bX K C iZ r q M (nN pl))(sB:aF iZ HB)(jr:aF iZ uU)(bk:jX uU b la wl pl)(yE:M.Ok)(BD:fF M.rs pl)(rm:RD K uU m (aZ.D M))(f:∀y∈[b,la,wl],HB y=none)(nrq:∀y∈[r,q],H7 y=none)(s7:aF H H7)(yo:aF H iZ)(a2B:∀y∈[r,q],y∉st)(a2A:∀y∈st,HB y≠none):Si K C D H uU st uU m a r q b la wl M 64 (nN pl):=by
 let(ys,eq):=x.lst;have qn:∀y∈[b,la,wl],q≠y:=λy hy e=>by have:=back sB (f y hy);rw[<-e,eq]at this;cases this
 erw[#[dk.but jr.v λo e=>jr _ _ e,x.same Z jr,#[bk.e,bk.l,[],bk.w,dI],qn _ (by simp),qn _ (by simp)],Z9 yE BD,Z,rm,yS (λy hy=>back s7 (nrq y hy)) (λy hy=>back (yo.trans sB) (f y hy)),yS a2B λy hy hs=>a2A y hs (f y hy)]
theorem Px{C:Addr}{H:Hp}{r q:Addr}{M:aZ}{S:aV}(x:bX K C H r q M S):∀y∈[r,q],H y≠none:=by let(ys,eq):=x.lst;let(dx,fs,er):=x.ins;erw[BQ (by rw[er];erw[λz=>nomatch z]) (by rw[eq];erw[λz=>nomatch z])]
theorem Rk{Pp:Addr->Prop}{a b c:Addr}(h1:Pp a)(h2:Pp b)(h3:Pp c):∀x∈[a,b,c],Pp x:=λx hx=>by
 rcases bJ.mp hx with rfl|hx
 ·erw[h1]
 ·erw[BQ h2 h3 x hx]
theorem Tw.at'{C D:Addr}{H0 HA H:Hp}{st:List Addr}{m1 m2:V}{a1 r1 q1 b1 cA cy a2 r2 q2 b2 cW cQ y:Addr}{M1 M2:aZ}{D1 D2:Nat}{S1 S2:aV}{o:HO}(t:Tw K C D H0 HA st H m1 m2 a1 r1 q1 b1 cA cy a2 r2 q2 b2 cW cQ M1 M2 D1 D2 S1 S2)(hy:y∈st)(h:HA y=some o):H y=some o:=by let(o',e1,e2):=t.kept y hy;rw[h]at e1;cases e1;erw[e2]
theorem Tw.pb{C D:Addr}{H0 HA H:Hp}{st:List Addr}{m1 m2:V}{a1 r1 q1 b1 cA cy a2 r2 q2 b2 cW cQ p:Addr}{M1 M2:aZ}{D1 D2:Nat}{S1 S2:aV}(t:Tw K C D H0 HA st H m1 m2 a1 r1 q1 b1 cA cy a2 r2 q2 b2 cW cQ M1 M2 D1 D2 S1 S2)(np:H p=none):Pb H0 st p q1 cA cy q2 cW cQ:=by
 have w:∀{r q b la wl:Addr},(∀x∈[r,q,b,la,wl],H x≠none)->p∉[q,la,wl]:=λ{r q b la wl} h hp=>h p (by
  simp only[bJ,bZ,cG]at hp⊢;rcases hp with h|h|h
  ·erw[.inr (.inl h)]
  ·erw[.inr (.inr (.inr (.inl h)))]
  ·erw[.inr (.inr (.inr (.inr h)))]) np;erw[back t.s0 np,λhs=>(by let(o,_,e):=t.kept p hs;rw[np]at e;cases e),w t.x1.sd.ex.1,w t.x2.sd.ex.1]
theorem OK:bp ["_law_script","_law_bag_here","_law_many","_law_machines","_law_places","_law_desks","_law_books","_law_k","_law_which"] ["_law_script"] (aY vE):=bE aH
theorem a1P{C D:Addr}{f:Addr}{fd:FuncData}(F:kD K "law" "law" vE f fd)(B:bK mg)(SX:aG P w K mg aw "_law_bag" 1 (Ny K))(dU:aG P w K mg aw "_law_take" 1 lD)(SW:aG P w K mg aw "_law_machine" 2 (Ng K))(a78:aG P w K mg aw "_law_place" 2 (Nb K))(T4:xn P w K mg aw D "Desk" 5 (Nx K C D))(a76:aG P w K mg aw "_law_said" 17 (MX K C D)):eK P w K mg aw iS 18 f fd ["_law_script"] (Es K):=by
 erw[F.ok OK (λvs H Q E h=>?_) (λaI A outer s H vs Q E hr h=>?_)]
 ·let(a,ns,rfl,_):=h
  rfl
 ·let(a,ns,rfl,hS,hlen,k):=h
  have nd:=OK.nd;have iP:sizeLine=16777216:=by decide
  erw[_,(aD (pS 1 nd (pf SX hr (ao (pv 0) (ao aB az)))) (aD (pS 2 nd (aQ dv aB (pf dU hr (ao (pv 1) (ao aB az))))) (aD (pS 3 nd (fA (ao (pf SW hr (ao (pv 1) az)) (ao (pf SW hr (ao (pv 1) az)) az)))) (aD (tJ (i0:=4) nd Z (Or.inl Z) (N:=["_law_machine_here","_law_bag_here"]) (js:=[none,some 1]) Z Z Z (nP K Z (pv 3)) (λ_ _ _ _ _=>(bj 0 (fZ ay))) (λ_ _ _ _ _=>dJ) (λ_ _ _ _ _=>(pf a78 hr (ao (pv 1) (ao (pv 0) az))))) (aD (pS 5 nd (fA (ao (Hq T4 (hr.mono ay) Z (ao (px K (pv 3) aB) (ao (px K (pv 4) aB) az))) (ao (Hq T4 (hr.mono ay) Z (ao (px K (pv 3) aB) (ao (px K (pv 4) aB) az))) az)))) (aD (tJ (i0:=6) nd Z (Or.inl Z) (N:=["_law_place_here"]) (js:=[none]) Z Z Z (nP K Z (pv 4)) (λ_ _ _ _ _=>(bj 0 (jb _))) (λ_ _ _ _ _=>dJ) (λ_ _ _ _ _=>(a0b (Bs bf (cI (x:="list") (ID K Z) Z (B.at "list") VJ (ao (pv 0) az)) (Bs bf (fA az) (Bs bf aB (Bs bf aB ZN)))) rfl rfl (by simp) ay))) (aD (mq jI Z (tK Z (B.at "range") (ao (pv 2) az)) (bj 7 nd) (aD (pS 1 nd (pf SX hr (ao (pv 0) (ao (aQ dv aB (pv 7)) az)))) (aJ (mq jI Z (tK Z (B.at "range") (ao aB az)) (bj 8 nd) (aJ (bL (dj (cO (pf a76 hr (ao (pv 1) (ao (px K (pv 3) (pv 8)) (ao (px K (pv 5) (pv 8)) (ao (px K (pv 6) (pv 8)) az))))))) (aJ (aW ju)) bO)))))) (aJ (aW ju))))))))),?_];erw[_,Z,a,ns,0,Z,hS,hlen,ay,ay,λp H1 np bg1 s1=>?_];erw[_,Z,p,13,Z,bg1,ay,ay,λt H2 t0 t1 b2=>#[_,_,Z,Z,?_]];erw[_,Z,p,Z,b2.bC,λm1 YM YR f1 j1 WM H3 GN a0G b3=>#[_,Z,p,Z,b3.bC,λm2 YL YQ f2 j2 WL H4 Z2 a0F b4=>#[by show 2<=sizeLine;decide,λlm H5 n5=>?_]]];generalize Ua:(#[YM,YR,f1,j1,WM]:aZ)=M1;generalize U9:(#[YL,YQ,f2,j2,WL]:aZ)=M2;have t9:aF H H4:=bI.Po s1 np (b2.trans (b3.trans b4));have zR:fG H5 p:=(bI.fC b4.bC n5.same).bC;have lmp:lm≠p:=λe=>b4.bC.ne (e▸n5.no);have PM:RD K H5 m1 (aZ.D M1):=by rw[<-Ua];erw[RD.mono n5.same _ (bI.rd b3.bC b4 (gw _ _ _ _ _) GN)]
  have PK:RD K H5 m2 (aZ.D M2):=by rw[<-U9];erw[RD.mono n5.same _ Z2]
  have HM:M1.Ok:=by rw[<-Ua];erw[a0G]
  have HL:M2.Ok:=by rw[<-U9];erw[a0F]
  erw[_,Z,lm,Z,#[_,aE.of n5.at'],λlp H6 n6=>?_];have pj:∀{Hz:Hp},bI p H5 Hz->Hz lm=some (.lst [m1,m2]):=λ{Hz} b=>b.same _ _ lmp n5.at';erw[Ku (K:=K) (J:=rX K lm) (p:=p) (H:=H5) 2 _ n6 zR ay (λi=>if i=0 then m1 else m2) (λi Hz hi bz=>#[#[_,(if i=0 then m1 else m2),aE.of (pj bz),?_],λy Hy #[e3,y3]=>#[e3,?_]]) (λHz bz=>#[_,aE.of (pj bz),by show 2<=2;decide]) (λi d=>∃pl,d=eR pl/\fF (if i=0 then M1 else M2).rs pl) ?_ ?_]
  ·rcases(by lia:i=0\/i=1)with rfl|rfl<;>rfl
  ·have:=y3 _ (aE.of (pj bz))
   rcases(by lia:i=0\/i=1)with rfl|rfl<;>exact(dQ this).symm
  ·intro i Hz Q' hi bz hq
   rcases(by lia:i=0\/i=1)with rfl|rfl
   ·erw[_,Z,_,Z,p,m1,M1.rs,M1.r,M1.f,M1.j,M1.t,Z,bz.bC,bI.rd zR bz (gw _ _ _ _ _) PM,HM,λv pl Hy rv on Ky=>hq v (eR pl) Hy #[pl,Z,on] (jP _) rv Ky]
   ·erw[_,Z,_,Z,p,m2,M2.rs,M2.r,M2.f,M2.j,M2.t,Z,bz.bC,bI.rd zR bz (gw _ _ _ _ _) PK,HL,λv pl Hy rv on Ky=>hq v (eR pl) Hy #[pl,Z,on] (jP _) rv Ky]
  intro H7 ys ds b7 d7 r7 l7 nl7 Qn;obtain⟨d1,d2,rfl⟩:∃d1 d2,ds=[d1,d2]:=match ds,l7 with|[d1,d2],_=>#[d1,d2,rfl];let(pl1,rfl,BE):=Qn 0 d1 rfl;let(pl2,rfl,vZ):=Qn 1 d2 rfl;have BE:fF M1.rs pl1:=BE;have vZ:fF M2.rs pl2:=vZ;let(qD,ys',rfl,PD,ZG):=r7.cons_inv;let(qC,Wa,rfl,PB,ZF):=ZG.cons_inv;obtain rfl:Wa=[]:=List.eq_nil_of_length_eq_zero ZF.length;have Gx:aF H H7:=bI.Po (t9.trans n5.same) np b7;have PL:=bI.rd zR b7 (gw _ _ _ _ _) PM;have PH:=bI.rd zR b7 (gw _ _ _ _ _) PK;erw[_,Z,.inl #[lm,_,0,m1,Z,Z,aE.of (pj b7),Z,_,Z,.inl #[lp,_,0,qD,Z,Z,aE.of d7,Z,λa1 Ke C9 a6b ne1=>?_]]];have y8:aF H7 (_L.upd (_L.upd H7 Ke (.own a1)) a1 (.ins D Ke [])):=(aF.new a6b).trans (aF.new (by rw[aU ne1.symm];erw[C9]));erw[a1,Ke,m1,qD,M1,pl1,Z,bQ,RD.mono y8 _ PL,RD.mono y8 _ PD,HM,BE,λr1 q1 H8 zH R1 nr1 nq1 bt1=>#[Z,?_]];have t6:aF H7 H8:=λb o eb=>bt1 b o (y8 b o eb) λz=>by rw[cE.mp z,C9]at eb;cases eb
  erw[_,Z,.inl #[lm,_,1,m2,Z,Z,aE.of (t6 _ _ (pj b7)),Z,_,Z,.inl #[lp,_,1,qC,Z,Z,aE.of (t6 _ _ d7),Z,λa2 jA Sq a6a ne2=>?_]]];have y6:aF H8 (_L.upd (_L.upd H8 jA (.own a2)) a2 (.ins D jA [])):=(aF.new a6a).trans (aF.new (by rw[aU ne2.symm];erw[Sq]));erw[a2,jA,m2,qC,M2,pl2,Z,bQ,RD.mono y6 _ (RD.mono t6 _ PH),RD.mono y6 _ (RD.mono t6 _ PB),HL,vZ,λr2 q2 H9 Kk R2 nr2 nq2 bt2=>#[Z,?_]];have Gu:aF H8 H9:=λb o eb=>bt2 b o (y6 b o eb) λz=>by rw[cE.mp z,Sq]at eb;cases eb
  erw[by show 2<=sizeLine;decide,λlJ HA nA=>?_];have mj:=t6.trans (Gu.trans nA.same);erw[_,Z,lp,Z,#[_,aE.of (mj _ _ d7)],λlK HB nB=>?_];erw[aab (pl1:=pl1) (pl2:=pl2) (mj _ _ d7) nB (λx pl Hz Q' hx sz hq=>?_) (λb1 cA cy b2 cW cQ HC sC eL pY zQ f1 f2=>?_)]
  ·obtain⟨pa,xs,rfl,Ja,lO⟩:∃pa xs,x= .ref pa/\bc K Hz pa xs/\xs=pl.map V.int:=by
    have:RD K Hz x (eR pl):=by
     rcases hx with⟨rfl,rfl⟩|⟨rfl,rfl⟩
     ·erw[RD.mono (mj.trans sz) _ PD]
     ·erw[RD.mono (mj.trans sz) _ PB]
    let(pa,xs,e,h1,h2):=this.cT;erw[pa,xs,e,h1,h2.fE]
   subst lO;intro pd J9;have sp:aF Hz (_L.upd Hz pd (.dK [])):=.new J9;erw[_,Z,pa,_,Z,.inr (Ja.go sp),λla Ha na=>#[by show 0<=sizeLine;decide,λwl Hw nw=>#[nw.same _ _ (na.same _ _ bQ),fo (.ref la) (.ref wl) (.int 0) (.int 100),Z,by show 4<=15;decide,?_]]];rw[a3o];have lap:la≠pd:=λz=>by have:=na.no;rw[z,bQ]at this;cases this
   have We:wl≠pd:=λz=>by have:=nw.no;rw[z,na.same _ _ bQ]at this;cases this
   have wll:wl≠la:=λz=>by have:=nw.no;rw[z,na.at']at this;cases this
   erw[hq pd la wl _ (λy hy=>?_) #[bQ,by rw[aU lap];erw[nw.same _ _ na.at'],by rw[aU We];erw[nw.at']] λb o e=>?_]
   ·simp only[bJ,bZ,cG]at hy
    rcases hy with rfl|rfl|rfl
    ·erw[J9]
    ·erw[back sp na.no]
    ·erw[back (sp.trans na.same) nw.no]
   ·rw[aU (λz=>by rw[z,J9]at e;cases e)]
    erw[nw.same _ _ (na.same _ _ (sp _ _ e))]
  have Gw:=Gx.trans mj;have yn:=Gu.trans nA.same;have e1:=Px R1;have e2:=Px R2;have R5:∀y∈[r1,q1],H7 y=none:=BQ (back y8 nr1) (back y8 nq1);have Ih:∀y∈[r2,q2],H8 y=none:=BQ (back y6 nr2) (back y6 nq2);have IC:H7 lm≠none:=by rw[pj b7];erw[λz=>nomatch z]
  have ns1:∀y∈[r1,q1],y∉[lm,lJ,lK]:=λy hy hs=>by
   simp only[bJ,bZ,cG]at hs;rcases hs with rfl|rfl|rfl
   ·erw[IC (R5 _ hy)]
   ·erw[fwd Gu (e1 _ hy) nA.no]
   ·erw[fwd yn (e1 _ hy) nB.no]
  have ns2:∀y∈[r2,q2],y∉[lm,lJ,lK]:=λy hy hs=>by
   simp only[bJ,bZ,cG]at hs;rcases hs with rfl|rfl|rfl
   ·erw[fwd t6 IC (Ih _ hy)]
   ·erw[e2 _ hy nA.no]
   ·erw[fwd nA.same (e2 _ hy) nB.no]
  have MH:∀y∈[lm,lJ,lK],HB y≠none:=Rk (fwd (mj.trans nB.same) IC) (fwd nB.same (by rw[nA.at'];erw[λz=>nomatch z])) (by rw[nB.at'];erw[λz=>nomatch z]);have T0:Tw K C D H HC [lm,lJ,lK] HC m1 m2 a1 r1 q1 b1 cA cy a2 r2 q2 b2 cW cQ M1 M2 64 64 (nN pl1) (nN pl2):=by
   erw[Gw.trans sC,Rk #[_,sC _ _ (mj _ _ (pj b7)),sC _ _ (mj _ _ (pj b7))] #[_,sC _ _ nA.at',sC _ _ nA.at'] #[_,eL,eL],?_,?_,yS (λx hx hy=>?_) λx hx hy=>?_]
   ·erw[si0 (zH.but yn.v λo e=>yn _ _ e) (R1.same Z yn) nB.same sC pY HM BE (RD.mono (mj.trans sC) _ PL) f1 R5 Gx Gw ns1 MH]
   ·erw[si0 (Kk.but nA.same.v λo e=>nA.same _ _ e) (R2.same Z nA.same) nB.same sC zQ HL vZ (RD.mono (mj.trans sC) _ PH) (λy hy=>(f2 y hy).1) Ih (Gx.trans t6) Gw ns2 MH]
   ·erw[e1 x hx (yS (Pp:=λy=>H8 y=none) Ih (λy hy=>back (yn.trans nB.same) (f2 y hy).1) x hy)]
   ·erw[yS (Pp:=λy=>y∉[b1,cA,cy]) (λy hy h=>fwd (nA.same.trans nB.same) (e2 y hy) (f1 y h)) (λy hy=>(f2 y hy).2) x hy hx]
  erw[_,Z,_,Z,au,au,?_];erw[CG (Pv:=λi O Hx=>∃q1 cA cy q2 cW cQ S1 S2 v1 v7 v8,O=[some (.ref a),v1,some (.int (12+t)),some (.ref lm),some (.ref lp),some (.ref lJ),some (.ref lK),v7,v8]/\Tw K C D H HC [lm,lJ,lK] Hx m1 m2 a1 r1 q1 b1 cA cy a2 r2 q2 b2 cW cQ M1 M2 (64+10*i) (64+10*i) S1 S2) ?_ ?_ ?_]
  ·erw[_,_,_,_,_,_,_,_,_,_,_,Z,T0]
  ·rintro i O Hx hi ⟨q1,cA,cy,q2,cW,cQ,S1,S2,v1,v7,v8,rfl,T⟩
   have zj:i<25:=by lia
   erw[_,Z,_,Z,_,_,Z,Z,a,ns,_,Z,T.s0.seq hS,hlen,au,au,λp Hy np bg sy=>?_];have pb:=T.pb np;have Ty:=T.same sy;have Jl:=sC _ _ (mj _ _ (pj b7));have a5I:=sC _ _ nA.at';erw[2,Z,ay,ay,?_];erw[CG (Pv:=λj O Hx=>∃q1 cA cy q2 cW cQ S1 S2 v8,O=[some (.ref a),some (.ref p),some (.int (12+t)),some (.ref lm),some (.ref lp),some (.ref lJ),some (.ref lK),some (.int (0+(i:Int))),v8]/\fG Hx p/\Pb H [lm,lJ,lK] p q1 cA cy q2 cW cQ/\Tw K C D H HC [lm,lJ,lK] Hx m1 m2 a1 r1 q1 b1 cA cy a2 r2 q2 b2 cW cQ M1 M2 (64+10*(i+min j 1)) (64+10*(i+(j-1))) S1 S2) ?_ ?_ ?_]
   ·erw[_,_,_,_,_,_,_,_,_,Z,bg,pb,Ty]
   ·rintro j O Hz hj ⟨q1,cA,cy,q2,cW,cQ,S1,S2,v8,rfl,bz,pz,Tz⟩
    have hj:j<2:=hj;have z1:=Tz.at' (by simp) Jl;have z2:=Tz.at' (by simp) a5I;have z3:=Tz.at' (by simp) eL;rcases(by lia:j=0\/j=1)with rfl|rfl
    ·erw[_,Z,_,Z,_,Z,.inl #[lm,_,_,m1,Z,Z,aE.of z1,cL ay Z,_,Z,_,Z,.inl #[lJ,_,_,.ref a1,Z,Z,aE.of z2,cL ay Z,_,Z,_,Z,.inl #[lK,_,_,.ref b1,Z,Z,aE.of z3,cL ay Z,?_]]]]
     erw[m1,p,a1,r1,q1,b1,cA,cy,M1,_,S1,Z,Tz.Sf bz pz au,λS' q' dE cY Hw sd g fr kp=>?_];let(L4,pw,bw):=Tz.act bz pz sd g fr kp;erw[true,Z,bh #[_,_,_,_,_,_,_,_,_,Z,bw,pw,L4]]
    ·have Qb:Pb H [lm,lJ,lK] p q2 cW cQ q1 cA cy:=#[pz.n0,pz.qJ,pz.h2,pz.h1]
     erw[_,Z,_,Z,_,Z,.inl #[lm,_,_,m2,Z,Z,aE.of z1,cL ay Z,_,Z,_,Z,.inl #[lJ,_,_,.ref a2,Z,Z,aE.of z2,cL ay Z,_,Z,_,Z,.inl #[lK,_,_,.ref b2,Z,Z,aE.of z3,cL ay Z,?_]]]];erw[m2,p,a2,r2,q2,b2,cW,cQ,M2,_,S2,Z,Tz.swap.Sf bz Qb au,λS' q' dE cY Hw sd g fr kp=>?_];let(L4,pw,bw):=Tz.swap.act bz Qb sd g fr kp;erw[true,Z,bh #[_,_,_,_,_,_,_,_,_,Z,bw,#[pw.n0,pw.qJ,pw.h2,pw.h1],L4.swap]]
   ·rintro O Hz ⟨q1,cA,cy,q2,cW,cQ,S1,S2,v8,rfl,bz,pz,Tz⟩
    erw[_,_,_,_,_,_,_,_,_,_,_,Z,Tz]
  ·rintro O Hx _
   erw[k _]
end
end _a
set_option maxHeartbeats 1000000
namespace _a
open PySem PySem.Spec PyProof.Rows _L
theorem K6{K:aa}{mg:bN}{h:Heap}{x:Str}{c:Addr}{bm:List Value}{nw:String}(X:K.In h)(G:h.Ns mainGlobals mg)(a:PySem.W.nsIn K mainGlobals x=some (some (.ref c)))(q:PySem.W.excIn K c bm nw=true):Exc K mg x c bm nw:=#[xE X G a,q]
theorem zT{K:aa}{mg:bN}{h:Heap}{a:Addr}{v:Value}{fn z:Str}(X:K.In h)(G:h.Ns mainGlobals mg)(e1:PySem.W.nsIn K mainGlobals fn=some (some v))(e2:PySem.W.nsIn K a z=some (some v)):PySem.W.nsIn K a z=some (mg fn):=by rw[e2,xE X G e1]
theorem Vb{K:aa}{a:Addr}{v:Value}{fn z:Str}(e1:PySem.W.nsIn K mainGlobals fn=some (some v))(e2:PySem.W.nsIn K a z=some (some v)):∃v,PySem.W.nsIn K a z=some (some v):=#[v,e2]
theorem Ze{K:aa}{mg:bN}{h:Heap}{cf cm cr:Addr}(X:K.In h)(G:h.Ns mainGlobals mg)(hf:PySem.W.nsIn K mainGlobals "Full"=some (some (.ref cf)))(hm:PySem.W.nsIn K mainGlobals "Moving"=some (some (.ref cm)))(hr:PySem.W.nsIn K mainGlobals "NoRate"=some (some (.ref cr)))(qf:PySem.W.excIn K cf jD kQ=true)(qm:PySem.W.excIn K cm jD kQ=true)(qr:PySem.W.excIn K cr jD kQ=true)(tf:takes K cf cf)(tm:takes K cm cm):∃R,Vl K mg R:=#[#[cf,cf,cf,cm,cr],K6 X G hf qf,K6 X G hm qm,K6 X G hr qr,tf,tm]
theorem aaW:zX K P w mg aw:=by
 intro f fd A F;let(gA,GA,a0,a1,a2,a3,a4,t0,t1,b0,b1,b2,b3,b4):=A.ans;let(X,EX):=A.cls;let(C,D,R):=A.dk;have TC:=R.tc;have tk:aG P w K mg aw "_law_take" 1 lD:=a0Q A.a90 A.B;have cd:aG P w K mg aw "common_divisor" 1 Ew:=a2b A.a8P A.B;have lt:aG P w K mg aw "lowest_terms" 2 vB:=a1J A.a8y A.B cd;have iw:aG P w K mg aw "is_whole" 1 (Ba K):=a1Q A.a8E A.B;have ww:aG P w K mg aw "is_whole_within" 2 (mh K):=a0I A.a8D A.B iw;have fn:aG P w K mg aw "fraction" 3 (vz K):=a23 A.a8N A.B iw lt;have ld:aG P w K mg aw "lead_of" 1 (sX K):=a1N A.a8A A.B;have ls:aG P w K mg aw "is_less" 1 (B8 K):=a1L A.a8K A.B;have cp:aG P w K mg aw "corner_square" 6 (Ey K):=a2a A.a8O A.B (a0K A.a8M A.B (a0J A.a8c A.B ld fn) (a1H A.a8x A.B lt) ls) fn;have S9:aG P w K mg aw "is_rate" 3 (AY K):=a1T A.a8G A.B A.a7K A.a7L ww;have tp:aG P w K mg aw "top_square" 4 (AW K):=a0M A.a8d A.B S9 fn;have C5:aG P w K mg aw "is_line" 1 (vC K):=a1U A.TB A.B;have lst:aG P w K mg aw "least" 2 (oW K):=a1M A.a8z A.B ls;have bet:aG P w K mg aw "bound_between" 7 (Ez K):=a2c A.a8Q A.B A.CB C5 tp cp lst;have pw:aG P w K mg aw "plus_whole" 4 (B0 K):=a1w A.a8o A.B (a1x A.a8p A.B lt);have nr:aG P w K mg aw "nearest" 1 Er:=a1E A.a8v A.B;have MD:aG P w K mg aw "stand_at" 2 (AX K):=a0T A.a8i A.B ld nr;have sr:aG P w K mg aw "step_rows" 3 (El K):=a1g A.a8g A.B ld MD;have ent:aG P w K mg aw "step_entry" 3 (Eu K):=a26 A.a8h A.B (a0O A.a8f A.B (a27 A.a8T A.B));have S4:aG P w K mg aw "is_item" 4 (B9 K):=a20 A.a8L A.B A.Ti ww (a2g A.a8R A.B A.a7E ww) (a1W A.a8F A.B A.a7G A.a7A ww (a1Y A.a8I A.B A.a7I A.a7J));have IV:aG P w K mg aw "is_place" 3 (ye K):=a1X A.a8H A.B ww;have R8:aG P w K mg aw "moved" 1 (B7 K):=a1G A.a8w A.B;have KH:aG P w K mg aw "place_behind" 2 (yg K):=a2d A.a8q A.B C5 R8;have WV:aG P w K mg aw "times" 3 (sW (·*·) K):=a0N A.a8e A.B lt;have Zi:aG P w K mg aw "reach_behind_first" 9 (Em K):=a1v A.a8n A.B (a1z A.a8r A.B A.CB bet) (a25 A.a8B A.B C5 ld pw lst);have Bn:=a1m R.a3G TC;have GH:=a1e R.a3C TC A.CB;have GO:=a1l R.a3H TC Bn GH;have PN:=a1i R.a3F TC KH;have YX:=a1h R.a3E TC pw WV fn lst Bn;have ref:=a1s R.a3M TC KH;have YK:=a1d R.a3B TC A.B ld sr tp Zi ent GO YX ref;have Zb:=a1q R.a3K TC C5 YK ref;have Zd:=a1r R.a3L TC A.B GO Zb;have YJ:=a1c R.a3A TC;have Z5:=a1k R.a3I TC YJ Bn;have Z8:=a1o R.Ro TC A.B;have Py:=a1f R.a3D TC R8 MD;have im:aG P w K mg aw "is_machine" 4 (yf lM K):=a1Z A.a8J A.B A.a7D A.a7M ww (a2h A.a8S A.B A.a7P A.a7H ww);have GR:=a1u R.a3N TC A.B EX.m GO Py;have YG:=a1b R.a3z TC EX.r EX.m S9 GH;have PV:=a1p R.a3J TC A.B EX.f A.a7C S4 IV KH PN;have HY:aG P w K mg aw "number_in" 1 yc:=a1D A.a8u A.B A.a7O;have QG:aG P w K mg aw "numbers_in" 2 (B5 K):=a1C A.a8t A.B HY;have iti:aG P w K mg aw "item_in" 5 (Et K):=a1R A.a8C A.B HY QG S4;have EA:=a0Y A.a8j A.B;have Y5:=a0Z A.a8k A.B (a1V A.TB A.B) EA;have Ya:=a16 A.a8l A.B;have lit:=a1K A.a9c A.B;have Qy:=a1B A.a8s A.B HY;have XQ:=a0V R.Yo R.td TC A.B A.a7F A.a7B Qy ww (a17 A.a8m A.B Y5 EA Ya) Zd;have XR:=a0W R.Yp R.td TC A.B Qy YG;have XF:=a0R R.Yn R.td TC A.B A.Ti QG IV ww PN PV;have hW:∀v:Wd,∃fn,PySem.W.nsIn K gA v.txt=some (mg fn)/\rY P w K mg aw fn 10 (oU K C X.m v):=λv=>by cases v with |place=>erw[_,a0,(a2i A.a8V A.B TC EA Py).d.le ay] |state=>erw[_,a1,(a2f A.a8U A.B TC Bn GH).d.le ay] |hold=>erw[_,a2,(a2j A.a8W A.B TC Z5).d.le ay] |go=>erw[_,a3,(a2l A.TF A.B TC Z8).d.le ay] |drop=>erw[_,a4,(a2m A.a8X A.B TC GR).le ay]
 have say:=a19 R.say R.td TC A.B GA #[b0,b1,t0,t1,b2,b3,b4] hW iti XQ XR XF PV;have Yq:=a18 (cM:=X.m) R.say R.td A.B GA a3 (a2k A.TF A.B TC (a1n R.Ro TC A.B));have itl:=a1S A.a9d A.B tk (a1F A.a98 A.B tk);have MF:=a0S A.a93 A.B;have st:=a0U A.a91 A.B R.td say.n (a1A A.a97 A.B lit MF (a1t A.a95 A.B) (a0X A.a92 A.B));have uE:=a24 A.a9f A.B R.td EX.f EX.tf tk itl (a1O A.a9b A.B MF) (a22 A.a9a A.B tk) lit (a0P A.a8Z A.B) say;have WO:=a0L A.a8Y A.B R.td EX.m EX.tm tk say say.n;have drp:=a28 A.a9g A.B R.td EX.m EX.tm tk say say.n Yq;have hld:=a21 A.a9e A.B R.td st say.n;erw[a1P F A.B (a2e A.a9h A.B) tk (a1I A.a99 A.B tk) (a1y A.a96 A.B tk) (a29 R.a9X R.td im IV (a1j R.init TC A.CB A.a7N)) (a1a A.a94 A.B tk uE st hld WO drp)]
theorem aaX{P:af}{w:World}{K:aa}{mg:bN}{aw:Heap}{f:Addr}{fd:FuncData}(A:All w K mg)(F:kD K "law" "law" vE f fd):eK P w K mg aw iS 18 f fd ["_law_script"] (Es K):=X2 aaW K P w mg aw f fd A F
end _a
end
set_option maxHeartbeats 1000000
set_option exponentiation.threshold 6000
def PySem.W.Fast.tw4237003659853173013:PySem.Program:=PySem.Challenge.pw_glidequeue_k58_whole_rows_at_two_desks
theorem PySem.W.Fast.te4237003659853173013:PySem.Challenge.pw_glidequeue_k58_whole_rows_at_two_desks=PySem.W.Fast.tw4237003659853173013:=rfl
def PySem.W.Fast.tw2636055125978557952:Nat:=0
def PySem.W.Fast.tw6316634015484492303:Nat:=0
def PySem.W.Fast.tw5815330042999168912:Nat:=0
def PySem.W.Fast.tw2447181554124241219:Nat:=0
def PySem.W.Fast.tw1409434193350214191:Nat:=0
def PySem.W.Fast.tw11470915039522712776:Nat:=0
def PySem.W.Fast.tw3570607243750819203:Nat:=0
def PySem.W.Fast.tw9060904954098119882:Nat:=0
def PySem.W.Fast.tw18071988009402241920:Nat:=0
def PySem.W.Fast.tw14808082784025521363:Nat:=0
def PySem.W.Fast.tw5019793930647119042:Nat:=0
def PySem.W.Fast.tw16392787709558992505:Nat:=0
def PySem.W.Fast.tw15866774955741278158:Nat:=0
def PySem.W.Fast.tw3888725193264814259:Nat:=0
def PySem.W.Fast.tw1727568962334404912:Nat:=0
def PySem.W.Fast.tw13439650467389393948:Nat:=0
def PySem.W.Fast.tw13166076551859125269:Nat:=0
def PySem.W.Fast.tw12118063303605959623:Nat:=0
def PySem.W.Fast.tw9475356587258650175:Nat:=0
def PySem.W.Fast.tw16510485529350885895:Nat:=0
def PySem.W.Fast.tw2034485789757254860:Nat:=0
def PySem.W.Fast.tw15321524270527586813:Nat:=0
def PySem.W.Fast.tw12983898910926035793:Nat:=0
def PySem.W.Fast.tw15112547804156032532:Nat:=0
def PySem.W.Fast.tw16631886106698805803:Nat:=0
def PySem.W.Fast.tw11570837625910216902:Nat:=0
def PySem.W.Fast.tw7733099329444282620:Nat:=0
def PySem.W.Fast.tw1683704990294649277:Nat:=0
def PySem.W.Fast.tw15047388460835317254:Nat:=0
def PySem.W.Fast.tw10404930886910647740:Nat:=0
def PySem.W.Fast.tw11341140260002359625:Nat:=0
def PySem.W.Fast.tw6103740041016090299:Nat:=0
def PySem.W.Fast.tw8363020554933522837:Nat:=0
def PySem.W.Fast.tw1936688225962009437:Nat:=0
def PySem.W.Fast.tw8198654147561110081:Nat:=0
def PySem.W.Fast.tw12296989967196794525:Nat:=0
def PySem.W.Fast.tw7818653245848692094:Nat:=0
def PySem.W.Fast.tw4984233309222737850:Nat:=0
def PySem.W.Fast.tw8999233039468128762:Nat:=0
def PySem.W.Fast.tw3095479937675680281:Nat:=0
def PySem.W.Fast.tw6707793055457241520:Nat:=0
def PySem.W.Fast.tw5986809362377540151:Nat:=0
def PySem.W.Fast.tw7677106187385659932:Nat:=0
def PySem.W.Fast.tw17011948783272846591:Nat:=0
def PySem.W.Fast.tw7719489132369565127:Nat:=0
def PySem.W.Fast.tw6046852411966443278:Nat:=0
def PySem.W.Fast.tw4511411650922003461:Nat:=0
def PySem.W.Fast.tw5378935454468541337:Nat:=0
def PySem.W.Fast.tw13071580189625650657:Nat:=0
def PySem.W.Fast.tw5438736688892442504:Nat:=0
def PySem.W.Fast.tw14498867092199808334:Nat:=0
def PySem.W.Fast.tw11765389901886869965:Nat:=0
def PySem.W.Fast.tw7311946852466114546:Nat:=0
def PySem.W.Fast.tw2248881333191664717:Nat:=0
def PySem.W.Fast.tw13272126661494246321:Nat:=0
def PySem.W.Fast.tw298828309671396975:Nat:=0
def PySem.W.Fast.tw9950983489774868816:Nat:=0
def PySem.W.Fast.tw11085936334512873948:Nat:=0
def PySem.W.Fast.tw16283787482015494141:Nat:=0
def PySem.W.Fast.tw9795403109007246790:Nat:=0
def PySem.W.Fast.tw7161287424085857172:Nat:=0
def PySem.W.Fast.tw7804755954191250535:Nat:=0
def PySem.W.Fast.tw9312316497419429089:Nat:=0
def PySem.W.Fast.tw2190464017585623527:Nat:=0
def PySem.W.Fast.tw12046940392147833154:Nat:=0
def PySem.W.Fast.tw15217565654530517881:Nat:=0
def PySem.W.Fast.tw5858499226604451845:Nat:=0
def PySem.W.Fast.tw17781441888980603461:Nat:=0
def PySem.W.Fast.tw15327585914783991748:Nat:=0
def PySem.W.Fast.tw466961438237892733:Nat:=0
def PySem.W.Fast.tw6958582751767770005:Nat:=0
def PySem.W.Fast.tw16698792840302521489:Nat:=0
def PySem.W.Fast.tw12258531167651362672:Nat:=0
def PySem.W.Fast.tw6090110068567715889:Nat:=0
def PySem.W.Fast.tw13532900068613514490:Nat:=0
def PySem.W.Fast.tw6063754936773410308:Nat:=0
def PySem.W.Fast.tw14566376447218869431:Nat:=0
def PySem.W.Fast.tw16427133093000589231:Nat:=0
def PySem.W.Fast.tw14222249686071013763:Nat:=0
def PySem.W.Fast.tw17104432403618025656:Nat:=0
def PySem.W.Fast.tw1340235679554842859:Nat:=0
def PySem.W.Fast.tw12248577719933720001:Nat:=0
def PySem.W.Fast.tw12824354161461674218:Nat:=0
def PySem.W.Fast.tw2874279580254276990:Nat:=0
def PySem.W.Fast.tw13114150343534875119:Nat:=0
def PySem.W.Fast.tw11022947357184675835:Nat:=0
def PySem.W.Fast.tw18171869075990286567:Nat:=0
def PySem.W.Fast.tw15841564446424654994:Nat:=0
def PySem.W.Fast.tw2900012439274720753:Nat:=0
def PySem.W.Fast.tw9696890135202811472:Nat:=0
def PySem.W.Fast.tw8345993372774811482:Nat:=0
def PySem.W.Fast.tw8049513946504035125:Nat:=0
def PySem.W.Fast.tw14190548341781664655:Nat:=0
def PySem.W.Fast.tw15675392315118802516:Nat:=0
def PySem.W.Fast.tw1108762754959215741:Nat:=0
def PySem.W.Fast.tw16153342711160097144:Nat:=0
def PySem.W.Fast.tw17078424505682942075:Nat:=0
def PySem.W.Fast.tw10291860644566029791:Nat:=0
def PySem.W.Fast.tw15874047045665168978:Nat:=0
def PySem.W.Fast.tw17339049385888119668:Nat:=0
def PySem.W.Fast.tw12949671763869444232:Nat:=0
def PySem.W.Fast.tw16205268561794201303:Nat:=0
def PySem.W.Fast.tw12830697582010451258:Nat:=0
def PySem.W.Fast.tw12964495991749857981:Nat:=0
def PySem.W.Fast.tw13685885083911268425:Nat:=0
def PySem.W.Fast.tw7910284138709902928:Nat:=0
def PySem.W.Fast.tw13988749826694965628:Nat:=0
def PySem.W.Fast.tw1890683783356688104:Nat:=0
def PySem.W.Fast.tw8853879332712011437:Nat:=0
def PySem.W.Fast.tw45858622918676794:Nat:=0
def PySem.W.Fast.tw17981302774055190226:Nat:=0
def PySem.W.Fast.tw12173822462760249290:Nat:=0
def PySem.W.Fast.tw8313444274142890260:Nat:=0
def PySem.W.Fast.tw4512916236051745201:Nat:=0
def PySem.W.Fast.tw11604349512420418586:Nat:=0
def PySem.W.Fast.tw10053870961111830649:Nat:=0
def PySem.W.Fast.tw10591391012861169683:Nat:=0
def PySem.W.Fast.tw12914939388103428542:Nat:=0
def PySem.W.Fast.tw969703814938095087:Nat:=0
open PySem PySem.W PyProof.Rows
set_option maxRecDepth 100000 in
set_option maxHeartbeats 0 in
theorem PySem.Challenge.cw_glidequeue_k58_whole_rows_at_two_desks_holds : PySem.Challenge.rw_glidequeue_k58_whole_rows_at_two_desks.Holds := by
 w_on; o_law; k_head; (case hw=>w_witness2)
 k_fill
 refine _L.a4g (l:=PySem.Challenge.rw_glidequeue_k58_whole_rows_at_two_desks) (k:=18) (x:="_law_script") (st:=_a.vE) rfl rfl ⟨rfl,by decide,by decide⟩ (fun w h Y=>PySem.W.kIn_of Y) _a.All ?F (fun _ _ _ A=>A.law) (fun _ _ _ _ _ _ _=>rfl) (fun _ _ _ _ _ _ _ A F=>_a.aaX A F)
 case F=>
  intro w mg h KX G
  refine⟨_L.aaA KX G ?b,?t1,?t2,?t3,?gi0,?gi1,?gi2,?gi3,?gi4,?gi5,?gi6,?gi7,?gi8,?gi9,?gi10,?gi11,?gs0,?gs1,?gs2,?an,?cl,?dk,?fl,?ff0,?ff1,?ff2,?ff3,?ff4,?ff5,?ff6,?ff7,?ff8,?ff9,?ff10,?ff11,?ff12,?ff13,?ff14,?ff15,?ff16,?ff17,?ff18,?ff19,?ff20,?ff21,?ff22,?ff23,?ff24,?ff25,?ff26,?ff27,?ff28,?ff29,?ff30,?ff31,?ff32,?ff33,?ff34,?ff35,?ff36,?ff37,?ff38,?ff39,?ff40,?ff41,?ff42,?ff43,?ff44,?ff45,?ff46,?ff47,?ff48,?ff49,?ff50,?ff51,?ff52,?ff53,?ff54,?ff55,?ff56,?ff57,?ff58,?ff59,?ff60,?ff61,?ff62,?ff63,?ff64,?ff65,?ff66,?ff67,?ff68,?ff69⟩
  case b=>(unfold _L.Ds; repeat (refine _L.rV.cons ?z ?_; (case z=>k_is))); exact _L.rV.nil
  case t1=>refine' _L.JM KX G ?a ?l ?z ?r; (case a=>k_is); (case l=>k_is); (case z=>decide); (case r=>exact .cons ⟨_,rfl⟩ (.cons ⟨_,rfl⟩ .nil))
  case t2=>refine' _L.JM KX G ?a ?l ?z ?r; (case a=>k_is); (case l=>k_is); (case z=>decide); (case r=>exact .cons ⟨_,rfl⟩ (.cons ⟨_,rfl⟩ .nil))
  case t3=>refine' _L.JM KX G ?a ?l ?z ?r; (case a=>k_is); (case l=>k_is); (case z=>decide); (case r=>exact .cons ⟨_,rfl⟩ (.cons ⟨_,rfl⟩ .nil))
  case gi0=>(refine' _L.lV KX G ?z; (case z=>k_is))
  case gi1=>(refine' _L.lV KX G ?z; (case z=>k_is))
  case gi2=>(refine' _L.lV KX G ?z; (case z=>k_is))
  case gi3=>(refine' _L.lV KX G ?z; (case z=>k_is))
  case gi4=>(refine' _L.lV KX G ?z; (case z=>k_is))
  case gi5=>(refine' _L.lV KX G ?z; (case z=>k_is))
  case gi6=>(refine' _L.lV KX G ?z; (case z=>k_is))
  case gi7=>(refine' _L.lV KX G ?z; (case z=>k_is))
  case gi8=>(refine' _L.lV KX G ?z; (case z=>k_is))
  case gi9=>(refine' _L.lV KX G ?z; (case z=>k_is))
  case gi10=>(refine' _L.lV KX G ?z; (case z=>k_is))
  case gi11=>(refine' _L.lV KX G ?z; (case z=>k_is))
  case gs0=>(refine' _L.JL KX G ?z; (case z=>k_is))
  case gs1=>(refine' _L.JL KX G ?z; (case z=>k_is))
  case gs2=>(refine' _L.JL KX G ?z; (case z=>k_is))
  case an=>
   refine' ⟨_,_L.a7w KX G ?ga ?gl ?gk ?go,_a.zT KX G ?e1x0 ?e2x0,_a.zT KX G ?e1x1 ?e2x1,_a.zT KX G ?e1x2 ?e2x2,_a.zT KX G ?e1x3 ?e2x3,_a.zT KX G ?e1x4 ?e2x4,_a.Vb (fn:="answer_tool") ?tn0 ?tm0,_a.Vb (fn:="answer_mark") ?tn1 ?tm1,?na0,?na1,?na2,?na3,?na4⟩
   case ga=>k_is
   case gl=>k_is
   case go=>decide
   case e1x0=>k_is
   case e2x0=>k_is
   case e1x1=>k_is
   case e2x1=>k_is
   case e1x2=>k_is
   case e2x2=>k_is
   case e1x3=>k_is
   case e2x3=>k_is
   case e1x4=>k_is
   case e2x4=>k_is
   case gk=>
    show KeysLit _ (_::_)
    repeat (first | exact trivial | refine And.intro ⟨_,_,rfl,rfl⟩ ?_)
   case tn0=>k_is
   case tm0=>k_is
   case tn1=>k_is
   case tm1=>k_is
   case na0=>k_is
   case na1=>k_is
   case na2=>k_is
   case na3=>k_is
   case na4=>k_is
  case cl=>
   refine' _a.Ze KX G ?h0 ?h1 ?h2 ?q0 ?q1 ?q2 ?m0 ?m1
   case h0 | h1 | h2=>k_is
   case q0 | q1 | q2=>k_exc
   case m0 | m1=>(show PySem.W.mroIn _ _ _=_; k_is)
  case dk=>
   refine' ⟨_,_,_a.Vt.mk (_a.fc.mk (_L.hU.mk ?pg ?hd ?po ?sa) ?n1 ?n2 ?n3 ?n4 ?n5 ?n6 ?n7 ?n8 ?n9) (_L.UQ KX G ?aC ?mk ?kc ?ia ?iii ?il ?ic ?ik) (_L.ip ?a0 ?i0 ?l0 ?c0 ?k0) (_L.ip ?a1 ?i1 ?l1 ?c1 ?k1) (_L.ip ?a2 ?i2 ?l2 ?c2 ?k2) (_L.ip ?a3 ?i3 ?l3 ?c3 ?k3) (_L.ip ?a4 ?i4 ?l4 ?c4 ?k4) (_L.ip ?a5 ?i5 ?l5 ?c5 ?k5) (_L.ip ?a6 ?i6 ?l6 ?c6 ?k6) (_L.ip ?a7 ?i7 ?l7 ?c7 ?k7) (_L.ip ?a8 ?i8 ?l8 ?c8 ?k8) (_L.ip ?a9 ?i9 ?l9 ?c9 ?k9) (_L.ip ?a10 ?i10 ?l10 ?c10 ?k10) (_L.ip ?a11 ?i11 ?l11 ?c11 ?k11) (_L.ip ?a12 ?i12 ?l12 ?c12 ?k12) (_L.ip ?a13 ?i13 ?l13 ?c13 ?k13) (_L.ip ?a14 ?i14 ?l14 ?c14 ?k14) (_L.ip ?a15 ?i15 ?l15 ?c15 ?k15) (_a.lj.mk (_L.hU.mk ?dpg ?dhd ?dpo ?dsa) ?d1 ?d2) (_L.UQ KX G ?daC ?dmk ?dkc ?dia ?dii ?dil ?dic ?dik) (_L.ip ?sa0 ?si0 ?sl0 ?sc0 ?sk0) (_L.ip ?sa1 ?si1 ?sl1 ?sc1 ?sk1) (_L.ip ?sa2 ?si2 ?sl2 ?sc2 ?sk2) (_L.ip ?sa3 ?si3 ?sl3 ?sc3 ?sk3)⟩
   (case aC=>k_is)
   (case daC=>k_is)
   case n1 | n2 | n3 | n4 | n5 | n6 | n7 | n8 | n9 | d1 | d2=>(unfold _L.iR; k_is)
   case pg | hd | po | sa | mk | kc | ia | iii | il | ic | ik | dpg | dhd | dpo | dsa | dmk | dkc | dia | dii | dil | dic | dik | sa0 | si0 | sl0 | sc0 | sk0 | sa1 | si1 | sl1 | sc1 | sk1 | sa2 | si2 | sl2 | sc2 | sk2 | sa3 | si3 | sl3 | sc3 | sk3 | a0 | i0 | l0 | c0 | k0 | a1 | i1 | l1 | c1 | k1 | a2 | i2 | l2 | c2 | k2 | a3 | i3 | l3 | c3 | k3 | a4 | i4 | l4 | c4 | k4 | a5 | i5 | l5 | c5 | k5 | a6 | i6 | l6 | c6 | k6 | a7 | i7 | l7 | c7 | k7 | a8 | i8 | l8 | c8 | k8 | a9 | i9 | l9 | c9 | k9 | a10 | i10 | l10 | c10 | k10 | a11 | i11 | l11 | c11 | k11 | a12 | i12 | l12 | c12 | k12 | a13 | i13 | l13 | c13 | k13 | a14 | i14 | l14 | c14 | k14 | a15 | i15 | l15 | c15 | k15=>k_is
  all_goals (refine' _L.a8b KX G ?a ?l ?c ?k; (case a=>k_is); (case l=>k_is); (case c=>k_is); (case k=>k_is))
#print axioms PySem.Challenge.cw_glidequeue_k58_whole_rows_at_two_desks_holds
