import PyProof.Rows.All
import Wide.All
import OpenK.AllK
import Wide.FinOn
import Lean
import PyProof.EqAt
import PyProof.EqKinds
import PyProof.TupleCall
import PySem.Challenge.RW_glidequeue_k51_whole_no_tape_is_faster
set_option Elab.async false
set_option linter.all false
set_option compiler.extract_closed false
set_option maxRecDepth 100000
def PySem.pq9:Nat->Lean.Syntax->Lean.MacroM (Lean.TSyntax `rcasesPat)
|0,_=>Lean.Macro.throwUnsupported
|n+1,s=>do
 if s.isOfKind `ident then let x:Lean.Ident:=⟨s⟩;`(rcasesPat|$x:ident)
 else if s.isOfKind `Lean.Parser.Term.hole then `(rcasesPat|_)
 else
  let as:=if s.isOfKind `Lean.Parser.Term.tuple then #[s[1][0]]++s[1][2].getSepArgs else s[1].getSepArgs
  let ps<-as.mapM (PySem.pq9 n)
  `(rcasesPat|⟨$ps,*⟩)
def PySem.pn9:Nat->Lean.Syntax->Nat
|0,_=>1
|n+1,s=>if s.isOfKind `ident||s.isOfKind `Lean.Parser.Term.hole then 1 else (if s.isOfKind `Lean.Parser.Term.tuple then #[s[1][0]]++s[1][2].getSepArgs else s[1].getSepArgs).foldl (fun k x=>k+PySem.pn9 n x) 0
def PySem.dx9(s:Lean.Term):Lean.MacroM (Array Lean.Term):=do
 let some (_,c):=[(`ww,"uz"),(`wr,"uuzz"),(`wp,"uzuz"),(`wv,"uzq"),(`wE,"zuuzuuzzq"),(`wT,"uuz"),(`wP,"zz"),(`zn,"qq"),(`xz,"uu"),(`jp,"uuzzuzq"),(`Wp,"uzuzuuzz"),(`Wk,"uzuuzz"),(`WP,"zuz"),(`ZB,"uzuzuz")].find? (·.1==s.raw.getId)|return #[s]
 c.toList.toArray.mapM λc=>if c=='u' then `(_) else if c=='z' then `($(Lean.mkIdent `Z)) else `(?_)
def PySem.p9(x:Lean.Syntax):Lean.Command:=⟨x.rewriteBottomUp (·.setInfo .none)⟩
noncomputable section
theorem q0A(h:True:=by rfl):True:=h
local macro_rules|`(⇑$x)=>`(($x).length)
local macro_rules|`(↥$x)=>`(autoParam $x q0A._auto_1)
theorem q1A(h:True:=by decide):True:=h
local macro_rules|`(~~~$x)=>`(autoParam $x q1A._auto_1)
theorem q2A(h:True:=by intro _;rfl):True:=h
local macro_rules|`(↥(↥$x))=>`(autoParam $x q2A._auto_1)
theorem q3A(h:True:=by first|erw[.inl rfl]|erw[.inr rfl]|assumption):True:=h
local macro_rules|`(↥(~~~$x))=>`(autoParam $x q3A._auto_1)
local macro_rules|`(command|def $i:declId $s $v:declVal)=>return PySem.p9 (<-`(command|noncomputable def $i:declId $s $v:declVal))
local macro_rules|`(command|abbrev $i:declId $s $v:declVal)=>return PySem.p9 (<-`(command|noncomputable abbrev $i:declId $s $v:declVal))
theorem PySem.oq9{T:Prop}(h:∀G:Prop,(T->G)->G):T:=h T id
local macro_rules|`(tactic|erw[$r,*])=>do
 let t<-r.getElems.flatMapM λr=>PySem.dx9 ⟨r.raw[1]⟩
 let g:=t.foldl (λ(a:Array (Array Lean.Term)) x=>if x.raw.getId==`B then a.push (List.toArray []) else a.modify (a.size-1) (·.push x)) (List.toArray [List.toArray []])
 let c<-g.mapM λ(t:Array Lean.Term)=>if t.size==1 then `(tactic|refine $(t[0]!)) else `(tactic|refine ⟨$t,*⟩)
 if h:c.size=1 then return c[0] else `(tactic|($[$c:tactic];*))
local macro_rules|`(tactic|let $p:term:=$t)=>do
 let q<-PySem.pq9 9 p
 if PySem.pn9 9 p<7 then `(tactic|obtain $q:rcasesPat:=$t) else `(tactic|first|(refine PySem.oq9 fun G e=>?_;obtain $q:rcasesPat:=$t;refine e ?_;clear e G)|obtain $q:rcasesPat:=$t)
local macro_rules|`(#[$a,$b,*])=>do
 let t<-((List.toArray [a])++b.getElems).flatMapM PySem.dx9
 `(⟨$t,*⟩)
local macro_rules|`(tactic|exists $a,$b,$c)=>do
 let i:=λx:Lean.Name=>Lean.mkIdent x
 `(tactic|erw[$a $b (λ_ _ _ _ h=>by cases h;subst_vars;rfl) (λ_ _ _ _ _ _=>$c) (λ_ $(i `aO) $(i `A) $(i `outer) $(i `s) $(i `H) $(i `vs) $(i `Q) $(i `E) $(i `hr) $(i `h)=>?_)])
set_option hygiene false
local macro_rules|`(command|inductive $i:declId $c:ctor*)=>do
 let j:=Lean.mkIdent (i.raw[0].getId.appendAfter "_")
 let k:Lean.Ident:=⟨i.raw[0]⟩
 `(inductive $j:ident (vs:List V)(H:Hp)(Q:VK):Prop $c:ctor*
  def $k:ident:Sp:=λvs H Q _=>$j vs H Q)
set_option hygiene true
local macro_rules|`(%[$a,*|$t])=>do
 let c:=λ n=>Lean.mkIdent n
 let n:=t.raw.getId
 let f:Lean.Ident:=c (if n== `az then `au else if n== `cW then `bK else if n== `cQ then `cm else `aD)
 let l:List Lean.Term:=a.getElems.toList
 let (l,t)<-if n== `aG then do {let y:=l.getLast!;let u<-`($t $y);pure (l.dropLast,u)} else pure (l,t)
 let z:Lean.Term<-l.foldrM (λ(x r:Lean.Term)=>if x.raw.isOfKind `num then `($f ($(c `pv) $x) $r) else `($f $x $r)) t
 pure z
local macro_rules|`(tactic|let $x:ident:=$t)=>`(tactic|have $x:ident:=$t)
local macro_rules|`(tactic|let $x:ident:$y:term:=$t)=>`(tactic|have $x:ident : $y := $t)
local macro_rules|`(command|universe $x*)=>`(command|open PySem PySem.Spec PyProof.Rows $x*)
abbrev bZ:=PySem.Str->Option PySem.Value
def aw{p:Prop}(h: ~~~(p)):p:=h
def aP{p:Prop}(h:p:=by decide+kernel):p:=h
def aE {p:Prop} (h:p:=by lia):p:=h
def bI{p:Prop}(h:p:=by omega):p:=h
def Z {α : Sort _} {a : α}:a=a:=rfl
abbrev ag:=PySem.W.Frag
abbrev ah:=PySem.Shared
abbrev ai:=PySem.Program
abbrev aj:=PySem.PyData
abbrev ak:=PySem.Around
section
open PySem
local macro_rules|`(command|universe $x*)=>return Lean.mkNullNode (<-(Array.range (x.size/2)).mapM λi=>`(command|abbrev $(x[2*i]!):ident:=@$(x[2*i+1]!):ident))
universe aL wpAny_bind aR if_pos aV if_neg aZ Nat.le_refl bf List.getElem?_eq_getElem bC List.length_map bU wpAny_pure bV List.getElem?_map cf Int.natCast_nonneg ck List.getElem?_eq_some_iff cu Rat.le_trans cw Nat.le_of_lt cy decide_eq_true cB intBits_le_64 cH List.length_append cL Nat.le_trans cP Heap.lt_size cR Heap.get?_push_of_some dh decide_eq_false dj List.mem_cons dJ Nat.lt_of_lt_of_le dU Int.le_refl eG Int.lt_of_le_of_lt eY Int.mul_pos fc PassesOwn.never fm Option.some.inj fo Nat.ne_of_lt fy Int.mul_nonneg fG Rat.le_refl fL List.size_toArray fM Int.pow_succ fR Nat.zero_le fV List.length_range fW Int.le_trans fX Heap.get?_push_size gf beq_iff_eq gr wpAny_mono gu PyProof.Rows.boot_tuple gy List.not_mem_nil gz List.mem_singleton gA List.mem_of_getElem? gR Nat.lt_add_one gS List.mem_map gT Int.le_of_lt gU Bool.and_eq_true ij Int.natAbs_mul iY Nat.le_antisymm iZ List.mem_append_right j4 Int.ne_of_gt jf Nat.lt_of_lt_of_eq jg Nat.le_add_right jt PyProof.Rows.boot_list jv Nat.lt_succ_of_le jw List.all_eq_true jM or_false jN List.getElem?_range jO IntMulOk.of_bits kg of_decide_eq_true kh Nat.lt_of_le_of_lt ki Nat.le_of_lt_succ kj List.mem_append kn List.map_append ko Bool.false_ne_true kH List.length_take kW wpAny_field kX Nat.le_of_not_lt kY List.length_cons kZ Int.one_mul m7 Ne.symm m8 Nat.sub_lt_sub_left m9 Nat.le_of_eq md Int.pow_zero mQ List.take_succ mR List.lookup_cons mT Int.lt_of_lt_of_le mU Bool.true_and nX Nat.lt_of_le_of_ne nY List.getElem?_eq_none nZ List.getElem?_append_left o8 List.append_nil o9 Bool.false_and oU wpAny_holding oW Nat.lt_of_not_le oX List.getElem?_append_right oY Eq.trans pM Rat.not_lt pN W.Looks.here pO Nat.mul_le_mul rj Rat.intCast_mul rk Rat.intCast_le_intCast rA Nat.pow_le_pow_right tJ wpAny_standAt tK wpAny_newObj_type tL Rat.add_zero tO List.length_drop tP List.any_eq_true tQ Int.emod_nonneg tR Heap.size_push tT Bool.eq_iff_iff vp wpAny_truthy_bool vq Rat.num_divInt_den vt PyProof.Rows.boot_abs vv Nat.le_add_left vw List.replicate_succ vx List.getD_eq_getElem?_getD xj wpAny_call xk if_true xn PyProof.Rows.boot_str xo PyProof.Rows.boot_int xq PyProof.Rows.boot_all xu Nat.lt_irrefl xy Nat.le_add_right_of_le xA List.mem_iff_getElem? xB List.length_set xC List.getElem?_drop xD Int.mul_le_mul_of_nonneg_left xE Int.emod_lt_of_pos zM wpAny_seqItems zN wpAny_loadPart_at zO codeAny_mono zP Rat.le_antisymm zQ W.mg_of zR Option.map_eq_some_iff zS Nat.ne_of_gt zT List.take_of_length_le zU List.take_length zV List.map_set zW List.getElem_range zX List.getElem_mem zY Int.not_lt_of_ge zZ Int.add_nonneg A0 Bool.eq_false_iff BL wpAny_passesOwn BM wpAny_of_eq BN Rat.divInt_nonneg_iff_of_pos_right BO Nat.sub_self BP Nat.lt_or_ge BQ List.of_mem_zip BR List.mem_of_mem_take BS List.mem_filterMap BU List.mem_cons_of_mem BV List.map_cons BW List.length_replicate BX List.getElem?_set_self BZ List.foldl_append C0 Int.sub_nonneg_of_le C1 Int.mul_le_mul C3 Int.mul_assoc C4 Int.lt_add_one_of_le C5 Int.le_antisymm EN wpAny_setField_rec EO wpAny_rule ER wpAny_Call_Name_kw ES call_meets ET Rat.le_of_lt EU F.excBase_ValueError EV PyProof.Rows.callWith_type1 EW PyProof.Rows.boot_max EX Nat.not_lt_zero EY Nat.lt_succ_of_lt EZ Nat.add_le_add_right F1 List.length_pos_iff F2 List.getElem?_take F3 List.ext_getElem? F7 Int.zero_mul F8 Int.zero_add F9 Int.toNat_of_nonneg Fb Int.mul_le_mul_of_nonneg_right Fc Int.lt_of_not_ge Fd Heap.get?_update_other Fe Array.length_toList HX wpAny_setField HY wpAny_pyIter_list HZ wpAny_onRaise Ia wpAny_execs_nil Ib wpAny_call_entry Ic wpAny_callSpecial?_slot Ie wpAny_attempt Ig sizeLine_eq Ih W.looks_findIn Ii codeAny_call_builtin Ij beq_self_eq_true Ik Rat.lt_iff Il Rat.intCast_lt_intCast Im Rat.intCast_add Io mem_of_lookup Ip W.looks_clsIn Iq W.callWith_K Ir W.any_some Iu Obj.data_mapFields Iv Nat.le_succ_of_le Iw Nat.le_succ Iy Nat.add_le_add_left Iz List.length_eq_zero_iff IA List.getElem?_set_ne IB List.flatten_cons IC List.append_assoc ID List.any_cons IE Int.toNat_natCast IG Int.mul_zero IH Heap.get?_update_self O8 wpAny_loadPart O9 wpAny_isSubtype_exc Oa wpAny_execs_cons Ob decide_eq_true_iff Oc decide_eq_true_eq Od beq_eq_false_iff_ne Oe Std.lt_of_le_of_ne Of Rat.zero_mul Og Rat.num_nonneg Oh Rat.num_intCast Oi Rat.den_intCast Oj Rat.add_le_add_right Ol W.hideAll_get Om W.cellsFrom_some Oo F.slot_zip_next Oq F.slot_tuple_iterator_next Ot F.excAttr_ValueError Ou PyProof.Rows.boot_isinstance Ov Option.mem_toList Ox Nat.lt_trichotomy Oy Nat.lt_succ_iff_lt_or_eq Oz Nat.add_zero OA Nat.add_comm OB List.set_set OC List.range_succ OD List.nodup_cons OE List.mem_range OF List.mem_of_mem_drop OH List.mem_cons_self OI List.mem_append_left OJ List.getElem?_zip_eq_some OK List.getElem?_replicate OL List.forIn_cons OM List.all_cons ON Int.not_le_of_gt OO Int.mul_nonneg_of_nonpos_of_nonpos OP Int.mul_ne_zero OQ Int.mul_comm OS Int.lt_or_le OT Bool.not_eq_true' OU Bool.and_true OV Bool.and_false OW Array.getElem?_eq_some_iff a1a wpAny_updateSeq_pair a1b wpAny_pyIter_rangeiter a1c wpAny_newFunctionEnv_cells a1d wpAny_newFunctionEnv a1e wpAny_comprehension_free a1f plainObj_wpAny_Assign_Attribute a1g codeAny_compStart_list a1h codeAny_call_function a1i Std.lt_of_lt_of_le a1j Rat.le_of_mul_le_mul_right a1k Rat.divInt_sub_divInt a1l Within.cons a1m W.set_plain a1n W.plainGet_of a1o W.looks_findIn a1p W.codeRec_of a1q Str.cps_append a1r F.plainAttrs_list a1s PyProof.Rows.slot_tuple_getitem a1t PyProof.Rows.boot_min a1u PyProof.Rows.boot_bool a1v PyProof.Rows.boot_any a1w Option.bind_eq_some_iff a1x Obj.isFreed_of_fields a1y Nat.lt_succ_self a1z Nat.le_sub_one_of_lt a1A Nat.add_sub_cancel_left a1B List.mem_iff_getElem a1C List.map_inj_right a1D List.getLast?_eq_getElem? a1E List.filterMap_cons a1F List.contains_cons a1G Int.natAbs_of_nonneg a1H Int.lt_trichotomy a1I Int.fdiv_eq_ediv_of_nonneg a1J Heap.get?_push_cases a1K F.slot_range_reversed a1L Array.toList_append aj8 F.entry_tuple_iterator_next aj9 F.args_tuple_iterator_next_1 aja List.drop_append_of_le_length ajb Array.all_eq_true_iff_forall_mem ad wpAny_pyIter_tuple ac Code.quiet_builtin aT Int.fmod_eq_emod_of_nonneg Tm9 Nat.mul_lt_mul_of_lt_of_le Tk List.drop_eq_getElem_cons TD PyProof.noPylong_of_log2 Sc Rat.divInt_eq_divInt_iff Sa PySem.F.args_zip_next_1 SL Int.fdiv_eq_ediv_of_dvd SC PyProof.Rows.boot_range SB codeAny_of_tree Rt Int.ediv_nonneg Rs Rat.intCast_sub Rn Int.natCast_mul Ps Int.mul_one Pn wpAny_pyNext_range_end Pi SeqAt.canLay_of_shaped PP PySem.F.entry_zip_next Os Nat.pow_add Op List.drop_eq_nil_of_le On Int.neg_le_neg No List.length_singleton NE Bool.beq_eq_decide_eq Ln Nat.le_of_ble_eq_true KT PySem.F.entry_bexc_ga KM Rat.divInt_mul_divInt KK9 Int.mul_ediv_add_emod KE Rat.neg_divInt KB StrLaws.glued_eq_join IR List.take_zero IN le_of_eq_of_le IF Classical.choose_spec HT Heap.get?_none_of_le Go Around.frames_deeper Gc Calls.evalArgs_plain GM Int.mul_ediv_cancel' GE F.plain_reversed_new Fr9 PySem.F.store_object Fk Int.le_of_lt_add_one Fa call_any_walk FS Rat.lt_irrefl FM Rat.divInt_mul_left Do Nat.add_lt_add_left Db Heap.get?_update_ne j00 Array.find?_toList j01 Bool.or_true j02 Nat.pow_succ j03 List.any_map j04 Int.le_total j05 Std.lt_of_le_of_lt j06 Int.gcd_zero_right j07 wpAny_assign_Name j08 Heap.Ns1.of_empty j09 Obj.cls_mapFields j0t Int.gcd_dvd_right j0s wpAny_pyIter_enum j0r List.getElem?_set j0p Int.sub_pos_of_lt j0o Rat.mul_pos j0n Option.getD_none j0m Option.getD_some j0l List.zipIdx_cons j0k wpAny_pyIter_zip j0j Int.gcd_dvd_left j0i Option.bind_some j0h Nat.not_le_of_lt j0g W.methodCall_KW j0f Nat.sub_le j0e F.slot_int_rmul j0d wpAny_tests_nil j0c List.zipIdx_nil j0b W.looks_takesIn j0a List.length_zip j0T Rat.intCast_neg j0S Rat.natCast_add
end
abbrev Eq.ao:=@Eq.trans
abbrev PySem.Heap.UpToSlots.ao:=@PySem.Heap.UpToSlots.trans
namespace _S
def kM{b:Nat}(h:x=a\/x=b)(h1:a<=n)(h2:b<=n):x<=n:=h.elim (λe=>e▸h1) (λe=>e▸h2)
def KR{b:Int}(h:a<=b)(hk:0<=k):k*a<=k*b:=xD h hk
def toN{x:Int}{n:Nat}(h:x<=n):x.toNat<=n:=by omega
def dE{a:Int}(h:1<=a):0<=a:=by omega
def jC{a:Int}(h:1<=a):0<a:=by omega
def qi{b:Nat}(h:a<=b):(a:Int)<=b:=Int.ofNat_le.mpr h
def hJ{b:Nat}(h:a<b):(a:Int)<b:=Int.ofNat_lt.mpr h
def uA{x a b:Int}{n:Nat}(h:a<=x)(h':x<=b)(d:-(n:Int)<a/\b<n):x.natAbs<n:=by omega
def a8Y{x a b:Int}{n:Nat}(h:a<=x)(h':x<b)(d:-(n:Int)<a/\b<=n):x.natAbs<n:=by omega
def hZ{x a b:Int}{n:Nat}(h:a<=x)(h':x<=b)(d:-(n:Int)<=a/\b<=n):x.natAbs<=n:=by omega
def lL{b:Int}(h:x<b):1+x<=b:=by omega
def a7j{b:Nat}(h:x<b):1+x<=b:=by omega
def lK{x:Int}(h:0<=x):1<=1+x:=by omega
def NO{k x a c:Int}(h:a<=x)(d:c<=k+a):c<=k+x:=by omega
def a0y{b:Int}(h:x<b)(d:k+b<=c):k+x<c:=by omega
def zC{b:Int}(h:x<b)(d:k+b<=c+1):k+x<=c:=by omega
def Eu{k x a c:Int}(h:a<=x)(d:c<=a+k):c<=x+k:=by omega
def a0x{b:Int}(h:x<=b)(d:b+k<c):x+k<c:=by omega
def mulL{k x a c:Int}(h:a<=x)(d:0<=k/\c<=k*a):c<=k*x:=fW d.2 (xD h d.1)
def AR{b:Int}(h:x<=b)(d:0<=k/\k*b<c):k*x<c:=eG (xD h d.1) d.2
def AS{k x a c:Int}(h:a<=x)(d:0<=k/\c<k*a):c<k*x:=mT d.2 (xD h d.1)
def tf{b:Nat}(h:a<b):1<=(b:Int)-a:=by omega
def Nd{b:Nat}(h:a<=b):0<=(b:Int)-a:=by omega
def Bu{a n:Nat}{c:Int}(h:a<=n)(d:(n:Int)<=c):(a:Int)<=c:=by omega
def Nc{a n:Nat}{c:Int}(h:a<=n)(d:(n:Int)<c):(a:Int)<c:=by omega
def ZT{a n:Nat}{c:Int}(h:n<=a)(d:c<=(n:Int)):c<=(a:Int):=by omega
def Hy{a:Nat}{c:Int}(d:c<0):c<(a:Int):=by omega
def afz{a:Nat}{c:Int}(d:c<=0):c<=(a:Int):=by omega
def qj{x:Int}{n:Nat}(h:x.natAbs<=n){c:Int}(d:(n:Int)<c):x<c:=by omega
def vX{x:Int}{n:Nat}(h:x.natAbs<=n){c:Int}(d:c< -(n:Int)):c<x:=by omega
def Df{x:Int}(h:0<x):x≠0:=by omega
def aa3{b:Nat}(h:a+c<=b):a<=b:=by omega
def yz{b:Nat}(h:a+c<b):a<b:=by omega
def zj{b:Nat}(h:a=b):b<=a:=m9 h.symm
def aex{b:Int}(h:a=b):b<=a:=Int.le_of_eq h.symm
def fD{b:Nat}(h:a<b)(e:c=b):a<c:=e▸h
def ME{b:Nat}(h:a<b)(e:c=a):c<b:=e▸h
def Bq{b:Nat}(h:a<b)(e:a=c):c<b:=e▸h
def B5{b:Nat}(h:a<=b)(e:c=b):a<=c:=e▸h
def aa4{b:Nat}(h:a<=b)(e:b=c):a<=c:=e▸h
def nM{b:Nat}(h:a<=b)(e:c=a):c<=b:=e▸h
def oM{b:Nat}(h:a<=b)(e:a=c):c<=b:=e▸h
def IU{b:Nat}(h:a=b)(e:c=b):a=c:=e▸h
def a2t{b:Nat}(h:b=a)(e:b=c):a=c:=e▸h.symm
def BA{b:Nat}(h:a<b):a<b+1:=by omega
end _S
namespace _L
universe PySem
abbrev Key:=Sum Int Str
def XC:Key->Value->Bool | .inl k,v=>Value.isInt k v | .inr x,v=>Value.isStrOf x v
def aae(w:World):Key->Int | .inl k=>hashInt k | .inr x=>hashStr w x
theorem uH:∀{k:Key}{v:Value},XC k v=true->(∃i t,k=Sum.inl i/\v=Value.int i t)\/(∃x t,k=Sum.inr x/\v=Value.str x t) | .inl i,v,h=>by let(t,e):=Value.isInt_shape (k:=i) (v:=v) h;erw[.inl #[i,t,Z,e]] | .inr x,v,h=>by let(t,e):=Value.isStrOf_shape (x:=x) (v:=v) h;erw[.inr #[x,t,Z,e]]
def aad(a b:Int):decide ((Sum.inl a:Key)=Sum.inl b)=(a==b):=by
 by_cases e:a=b
 ·subst e;simp
 ·let h:¬(Sum.inl a:Key)=Sum.inl b:=λq=>e (Sum.inl.inj q)
  rw[dh h];exact(Od.mpr e).symm
def aaa(a b:Str):decide ((Sum.inr a:Key)=Sum.inr b)=decide (a=b):=by
 by_cases e:a=b
 ·subst e;simp
 ·let h:¬(Sum.inr a:Key)=Sum.inr b:=λq=>e (Sum.inr.inj q)
  rw[dh h,dh e]
def aac(a:Int)(b:Str):decide ((Sum.inl a:Key)=Sum.inr b)=false:=dh (λq=>nomatch q)
def aab(a:Str)(b:Int):decide ((Sum.inr a:Key)=Sum.inl b)=false:=dh (λq=>nomatch q)
def KA(prog:ai)(w:World):PySem.KeyKind prog w Key where
 is:=XC
 hash:=aae w
 inj:=λv a b ha hb=>by
  rcases uH ha with⟨i,t,rfl,rfl⟩|⟨x,t,rfl,rfl⟩
  ·rcases uH hb with⟨j,u,rfl,e⟩|⟨y,u,rfl,e⟩
   ·injection e with e1 _;rw[e1]
   ·erw[nomatch e]
  ·rcases uH hb with⟨j,u,rfl,e⟩|⟨y,u,rfl,e⟩
   ·erw[nomatch e]
   ·injection e with e1 _;rw[e1]
 byValue:=λk v h=>by rcases uH h with⟨i,t,rfl,rfl⟩|⟨x,t,rfl,rfl⟩<;>rfl
 pyHash:=λhv h=>by
  rcases uH hv with⟨i,t,rfl,rfl⟩|⟨x,t,rfl,rfl⟩
  ·erw[wpAny_pyHash_int h]
  ·erw[wpAny_pyHash_str h]
 eqBool:=λhu hv h=>by
  rcases uH hu with⟨i,t,rfl,rfl⟩|⟨x,t,rfl,rfl⟩
  ·rcases uH hv with⟨j,u,rfl,rfl⟩|⟨y,u,rfl,rfl⟩
   ·rw[aad]at h;erw[wpAny_eqBool_int h]
   ·rw[aac]at h;erw[SeqAt.EqAt.int_str i t y u _ _ _ _ h]
  ·rcases uH hv with⟨j,u,rfl,rfl⟩|⟨y,u,rfl,rfl⟩
   ·rw[aab]at h;erw[SeqAt.EqAt.str_int x t j u _ _ _ _ h]
   ·rw[aaa]at h;erw[wpAny_eqBool_str h]
 «strs»:=λk x t v h=>by
  rcases uH h with⟨i,u,rfl,e⟩|⟨y,u,rfl,e⟩
  ·erw[nomatch e]
  ·injection e with e1 _
   subst e1;cases v<;>rfl
inductive V where |bP|bl (b:Bool)|int (i:Int)|str (x:Str)|Bw (b:Array UInt8)|Hh (b:UInt64)|ref (a:Addr)|ty (n:String) deriving DecidableEq
def RelV:V->Value->Prop | .bP,u=>u=Value.none | .bl b,u=>u=Value.bool b | .int i,u=>∃t,u=Value.int i t | .str x,u=>∃t,u=Value.str x t | .Bw b,u=>∃t,u=Value.bytes b t | .Hh b,u=>∃t,u=Value.float b t | .ref a,u=>u=Value.ref a | .ty n,u=>u=Value.type n
abbrev _root_.AT:=List V
abbrev _root_.BY:=List Value
abbrev Vals:AT->BY->Prop:=Paired RelV
theorem Vals.length(r:Vals xs us):⇑xs=us.length:=Paired.length r
theorem Vals.get:∀{xs:AT}{us:BY}{i:Nat}{x:V},Vals xs us->xs[i]? =some x->∃u,us[i]? =some u/\RelV x u |_,_,_,_,.nil,e=>by simp at e |_,_,0,_,.cons r _,e=>by simp at e;subst e;erw[_,rfl,r] |_,_,i+1,x,.cons _ t,e=>by let(u,h1,h2):=Vals.get (i:=i) (x:=x) t (by simpa using e);erw[u,by simpa using h1,h2]
theorem Vals.set{x:V}{u:Value}(r:RelV x u):∀{xs:AT}{us:BY}(i:Nat),Vals xs us->Vals (xs.set i x) (us.set i u) |_,_,_,.nil=>.nil |_,_,0,.cons _ t=>.cons r t |_,_,i+1,.cons q t=>.cons q (Vals.set r i t)
theorem Vals.append:∀{xs ys:AT}{us ws:BY},Vals xs us->Vals ys ws->Vals (xs++ys) (us++ws) |_,_,_,_,.nil,s=>s |_,_,_,_,.cons r t,s=>.cons r (Vals.append t s)
theorem Vals.take:∀{xs:AT}{us:BY}(n:Nat),Vals xs us->Vals (xs.take n) (us.take n) |_,_,0,_=>.nil |_,_,_+1,.nil=>.nil |_,_,n+1,.cons r t=>.cons r (Vals.take n t)
theorem Vals.drop:∀{xs:AT}{us:BY}(n:Nat),Vals xs us->Vals (xs.drop n) (us.drop n) |_,_,0,r=>r |_,_,_+1,.nil=>.nil |_,_,n+1,.cons _ t=>Vals.drop n t
def tG:Option V->Option Value->Prop |some v,some u=>RelV v u |none,none=>True |_,_=>False
def KV{κ:Type}:List (κ×V)->List (κ×Value)->Prop:=Paired λ(p:κ×V)(q:κ×Value)=>p.1=q.1/\RelV p.2 q.2
def kV:Key->V | .inl i=>.int i | .inr x=>.str x
inductive HO where /--a list -/ |bi (xs:AT) /--a tuple (never changes) -/ |tup (xs:AT) /--a dict a1U keys are ints and texts; one a1U keys are tuples of ints and texts (vD empty one is both) -/ |dK (fO:List (Key×V))|dT (fO:List (List Key×V)) /--a set of ints: its members,its size -/ |set (S:Int->Bool)(n:Nat) /--an instance of vD class at C,its dict at dx,its attributes -/ |ins (C dx:Addr)(fs:List (Str×V)) /--vD dict of vD instance at x -/ |own (x:Addr) /--vD dict of an exception -/ |xd (fs:List (Str×V)) /--a bound method,f of x -/ |met (f x:Addr) /--a range object lo,lo+1,.. below hi -/ |xW (lo hi:Int) /--a a2A aji is known to vD object (vD ajo; a dict while a loop walks it): read,never written while it is so -/ |qE (o:Obj)(u:HO) /--a code ajE table -/ |uc (ps:Array Value) /--any other a2A,by what is true of its one object (a def of ajy own: akl a S n:=HO.ext λh=>..) -/ |ext (φ:Heap->Prop)
abbrev Hp:=Addr->Option HO
def bn(H:Hp)(a:Addr)(o:HO):Hp:=λb=>if b=a then some o else H b
def bQ:bn H a o a=some o:=by unfold bn;rw[aR rfl]
def aU{b:Addr}(h:b≠a):bn H a o b=H b:=by unfold bn;rw[aV h]
def De{H:Hp}{a b:Addr}{o u:HO}(h:H a=some o)(h':H b=some u)(d:o≠u):a≠b:=by intro e;subst e;rw[h]at h';erw[d (fm h')]
def e9{H:Hp}{a b:Addr}{o:HO}(h:H a=some o)(h':H b=none):a≠b:=by intro e;subst e;rw[h]at h';cases h'
section
variable (P:ai) (w:World)
def gQ(H:Hp)(h:Heap)(a:Addr):HO->Prop | .bi xs=>⇑xs<=sizeLine/\∃(its:BY)(n:Nat),Vals xs its/\h.get? a=some {cls:=.type "list",data:=.seq its.toArray n} | .tup xs=>⇑xs<=sizeLine/\∃its:BY,Vals xs its/\IsTup h a its.toArray | .dK fO=>⇑fO<=sizeLine/\(a==sysModules)=false/\∃vs,KV fO vs/\h.DictOf (KA P w) a vs | .dT fO=>⇑fO<=sizeLine/\(a==sysModules)=false/\∃xs:List (List Key×Addr×Value),Paired (λ(p:List Key×V)(q:List Key×Addr×Value)=>p.1=q.1/\H q.2.1=some (.tup (p.1.map kV))/\RelV p.2 q.2.2) fO xs/\∃o es ep,h.get? a=some o/\o.ExactDict/\o.data= .dict es ep/\es.toList=xs.map (entryOfKey (tupleKind (KA P w)))/\(xs.map (·.1)).Nodup | .set S n=>h.SetOf (intKind P w) a S n | .ins C dx fs=>H dx=some (.own a)/\⇑fs<=1000/\dx≠a/\h.get? a=some (W.instObj C dx)/\∃mA,h.Ns1 dx mA/\(∀f,tG (fs.lookup f) (mA f))/\PySem.Within mA (fs.map (·.1)) | .own _=>∃o,h.get? a=some o | .xd fs=>∃mA,h.Ns1 a mA/\∀f,tG (fs.lookup f) (mA f) | .xW lo hi=>∃t u v,h.get? a=some {cls:=.type "range",data:=.fields (List.toArray [.int lo t,.int hi u,.int 1 v])} | .qE o u=>h.get? a=some o/\gQ H h a u | .uc ps=>h.get? a=some {cls:=.none,data:=.fields ps} | .met f x=>h.get? a=some (W.methodObj (.ref f) (.ref x)) | .ext φ=>φ h/\(∃o,h.get? a=some o)/\∀h1 h2:Heap,φ h1->(∀o,h1.get? a=some o->h2.get? a=some o)->φ h2
def fF(H:Hp)(h:Heap):Prop:=∀a o,H a=some o->gQ P w H h a o
end
section
variable {P:ai}{w:World}{H H':Hp}{h h':Heap}{a:Addr}{o:HO}
theorem gQ.lt(x:gQ P w H h a o):a<h.objs.size:=by cases o with |bi xs=>let(_,_,_,_,e):=x;erw[cP e] |tup xs=>let(_,_,_,p):=x;erw[p.lt] |dK fO=>let(_,_,_,_,o,_,_,e,_):=x;erw[cP e] |dT fO=>let(_,_,_,_,o,_,_,e,_):=x;erw[cP e] |set S n=>let(o,_,_,_,e,_):=x;erw[cP e] |ins C dx fs=>let(_,_,_,e,_):=x;erw[cP e] |own y=>let(_,e):=x;erw[cP e] |xd fs=>let(_,(_,_,_,e,_),_):=x;erw[cP e] |xW lo hi=>let(_,_,_,e):=x;erw[cP e] |qE ob u=>let(e,_):=x;erw[cP e] |uc ps=>erw[cP (show h.get? a=some _ from x)] |met f y=>erw[cP (show h.get? a=some _ from x)] |ext φ=>let(_,(_,e),_):=x;erw[cP e]
theorem Paired.X9{α β:Type}{F G:α->β->Prop}:∀{l₁:List α}{l₂:List β},Paired F l₁ l₂->(∀a b,F a b->G a b)->Paired G l₁ l₂ |_,_,.nil,_=>.nil |_,_,.cons r t,f=>.cons (f _ _ r) (Paired.X9 t f)
def gQ.oZ(x:gQ P w H h a o)(k:∀b u,(b=a\/H b=some (.own a))->h.get? b=some u->h'.get? b=some u) (ho:∀b,H b=some (.own a)->H' b=some (.own a))(ht:∀b xs,H b=some (.tup xs)->H' b=some (.tup xs)):gQ P w H' h' a o:=by induction o with |bi xs=>let(z,its,n,r,e):=x;erw[z,its,n,r,k _ _ (.inl Z) e] |tup xs=>let(z,its,r,ob,e,c):=x;erw[z,its,r,ob,k _ _ (.inl Z) e,c] |dK fO=>let(z,y,vs,r,ob,es,ep,e,c):=x;erw[z,y,vs,r,ob,es,ep,k _ _ (.inl Z) e,c] |dT fO=>let(z,y,xs,r,ob,es,ep,e,c):=x;erw[z,y,xs,Paired.X9 r λp q z=>#[z.1,ht _ _ z.2.1,z.2.2],ob,es,ep,k _ _ (.inl Z) e,c] |set S n=>let(ob,es,ep,t,e,c):=x;erw[ob,es,ep,t,k _ _ (.inl Z) e,c] |ins C dx fs=>let(d,z,ne,e,mA,(od,es,ep,e2,c),r):=x;erw[ho _ d,z,ne,k _ _ (.inl Z) e,mA,#[od,es,ep,k _ _ (.inr d) e2,c],r] |own y=>let(ob,e):=x;erw[ob,k _ _ (.inl Z) e] |xd fs=>let(mA,(od,es,ep,e,c),r):=x;erw[mA,#[od,es,ep,k _ _ (.inl Z) e,c],r] |xW lo hi=>let(t,u,v,e):=x;erw[t,u,v,k _ _ (.inl Z) e] |qE ob u ih=>let(e,q):=x;erw[k _ _ (.inl Z) e,ih q] |uc ps=>let e:h.get? a=some {cls:=.none,data:=.fields ps}:=x;show h'.get? a=some {cls:=.none,data:=.fields ps};erw[k a _ (.inl Z) e] |met f y=>let e:h.get? a=some (W.methodObj (.ref f) (.ref y)):=x;show h'.get? a=some (W.methodObj (.ref f) (.ref y));erw[k a _ (.inl Z) e] |ext φ=>let(p,(o,e),st):=x;erw[st _ _ p λo q=>k _ _ (.inl Z) q,#[o,k _ _ (.inl Z) e],st]
theorem fF.lt(x:fF P w H h)(e:H a=some o):a<h.objs.size:=(x a o e).lt
def fF.fresh(x:fF P w H h)(e:h.objs.size<=a):H a=none:=by cases q:H a with |none=>rfl |some u=>erw[absurd (dJ (x.lt q) e) (xu _)]
def fF.kept(x:fF P w H h)(k:∀b u,h.get? b=some u->h'.get? b=some u):fF P w H h':=λa o e=>(x a o e).oZ (λb u _ q=>k b u q) (λ_ q=>q) λ_ _ q=>q
def fF.laid(x:fF P w H h)(k:∀b u,h.get? b=some u->h'.get? b=some u)(hp:h.objs.size<=a)(new:gQ P w (bn H a o) h' a o):fF P w (bn H a o) h':=λb u e=>by
 let hn:=x.fresh hp;by_cases hb:b=a
 ·subst hb;rw[bQ]at e;cases e;erw[new]
 ·rw[aU hb]at e
  exact(x b u e).oZ (λc v _ q=>k c v q) (λc q=>by rw[aU (e9 q hn)];erw[q]) λc xs q=>by rw[aU (e9 q hn)];erw[q]
end
def Rd(H:Hp)(a:Addr)(u:HO):Prop:=H a=some u\/∃o,H a=some (.qE o u)
def Rd.ok{P:ai}{w:World}{H:Hp}{h:Heap}{a:Addr}{u:HO}(r:Rd H a u)(x:fF P w H h):gQ P w H h a u:=by
 rcases r with r|⟨o,r⟩
 ·erw[x a u r]
 ·let(_,q):=x a _ r
  erw[q]
def HQ:Option HO->Prop |some (.bi _)=>True |some (.dK _)=>True |some (.dT _)=>True |some (.set _ _)=>True |some (.ins _ _ _)=>True |some (.ext _)=>True |_=>False
section
variable {P:ai}{w:World}{H:Hp}{h h':Heap}{x e:Addr}{o':HO}
def fF.write(ok:fF P w H h)(mu:HQ (H x))(he:e=x\/H e=some (.own x))(k:∀b u,b≠e->h.get? b=some u->h'.get? b=some u)(Bf:∃u,h'.get? e=some u) (new:gQ P w (bn H x o') h' x o'):fF P w (bn H x o') h':=λb u q=>by
 let Wv:∀c y,H c=some (.own y)->c≠x:=λc y r z=>by subst z;rw[r]at mu;erw[mu]
 let a8u:∀c xs,H c=some (.tup xs)->c≠x:=λc xs r z=>by subst z;rw[r]at mu;erw[mu]
 by_cases hb:b=x
 ·subst hb;rw[bQ]at q;cases q;erw[new]
 ·rw[aU hb]at q
  by_cases yU:b=e
  ·let q':H b=some (.own x):=by
    rcases he with z|z
    ·erw[absurd (yU.ao z) hb]
    ·rw[yU];erw[z]
   rw[q]at q';cases q';let(v,hv):=Bf;erw[v,by rw[yU];erw[hv]]
  ·refine(ok b u q).oZ (λc v hc r=>k c v ?_ r) (λc r=>by rw[aU (Wv c b r)];erw[r]) λc xs r=>by rw[aU (a8u c xs r)];erw[r]
   rcases hc with rfl|hc
   ·erw[yU]
   ·rintro rfl
    rcases he with z|z
    ·erw[Wv c b hc z]
    ·rw[hc]at z;cases z;erw[hb rfl]
end
abbrev _root_.DO:=List Addr
structure Un(fs ex:DO)(H H':Hp)(h h':Heap):Prop where
 keep:∀b o,h.get? b=some o->H b=none->b∉fs->b∉ex->h'.get? b=some o
 slot:∀b o,h.get? b=some o->H b=none->b∈fs->b∉ex->∃sl,h'.get? b=some {o with slots:=sl}
 free:∀b o,h.get? b=some o->H b=none->b∉ex->H' b=none
 there:∀b o,h.get? b=some o->b∉ex->∃o',h'.get? b=some o'
 mY:∀b xs,H b=some (.tup xs)->H' b=some (.tup xs)
 mG:∀b o u,H b=some (.qE o u)->H' b=some (.qE o u)
 ng:∀b ps,H b=some (.uc ps)->∃more,H' b=some (.uc (ps++more))
section
variable {fs mF ex qL:DO}{H H1 H2:Hp}{h h1 h2 h':Heap}{a x e:Addr}{o:HO}
def Un.any(u:Un fs ex H H1 h h1){b:Addr}{ob:Obj}(q:h.get? b=some ob)(n:H b=none)(hx:b∉ex):∃sl,h1.get? b=some {ob with slots:=sl}:=by
 by_cases hb:b∈fs
 ·erw[u.slot b ob q n hb hx]
 ·erw[ob.slots,u.keep b ob q n hb hx]
def Un.kept(k:∀b u,h.get? b=some u->h'.get? b=some u):Un fs ex H H h h':=#[λb ob q _ _ _=>k b ob q,λb ob q _ _ _=>#[ob.slots,k b ob q],λ_ _ _ n _=>n,λb ob q _=>#[ob,k b ob q],λ_ _ q=>q,λ_ _ _ q=>q,λ_ ps q=>#[#[],by rw[q];simp]]
def Un.refl:Un fs ex H H h h:=Un.kept λ_ _ q=>q
def Un.laid(k:∀b u,h.get? b=some u->h'.get? b=some u)(hp:h.objs.size<=a)(hn:H a=none):Un fs ex H (bn H a o) h h' where
 keep:=λb u q _ _ _=>k b u q
 slot:=λb u q _ _ _=>#[u.slots,k b u q]
 free:=λb u q n _=>by rw[aU (fo (dJ (cP q) hp))];erw[n]
 there:=λb u q _=>#[u,k b u q]
 mY:=λb xs q=>by rw[aU (e9 q hn)];erw[q]
 mG:=λb u xs q=>by rw[aU (e9 q hn)];erw[q]
 ng:=λb ps q=>#[#[],by rw[aU (e9 q hn),q];simp]
def Un.write(mu:HQ (H x))(he:e=x\/H e=some (.own x))(k:∀b u,b≠e->h.get? b=some u->h'.get? b=some u)(Bf:∃u,h'.get? e=some u):Un fs ex H (bn H x o) h h':=by
 let hx:∀b,H b=none->b≠x:=λb n z=>by subst z;rw[n]at mu;erw[mu]
 let hb:∀b,H b=none->b≠e:=λb n z=>by
  subst z;rcases he with r|r
  ·erw[hx b n r]
  ·rw[n]at r;cases r
 let hm:∀b u,H b=some u->¬HQ (some u)->b≠x:=λb u q nm z=>by subst z;rw[q]at mu;erw[nm mu]
 erw[λb u q n _ _=>k b u (hb b n) q,λb u q n _ _=>#[u.slots,k b u (hb b n) q],λb u q n _=>by rw[aU (hx b n)];erw[n],λb u q _=>?_,λb xs q=>by rw[aU (hm b _ q λz=>z)];erw[q],λb u xs q=>by rw[aU (hm b _ q λz=>z)];erw[q],λb ps q=>#[#[],by rw[aU (hm b _ q λz=>z),q];simp]];by_cases yU:b=e
 ·subst yU;erw[Bf]
 ·erw[u,k b u yU q]
end
def Fy(h:Heap)(H:Hp):DO:=(List.range h.objs.size).filter λa=>(H a).isSome
def uM(h:Heap)(H:Hp):Heap:=W.hideAll h (Fy h H)
def abp(h:Heap)(H:Hp):(uM h H).objs.size=h.objs.size:=W.hideAll_size _ _
def abq{b:Addr}(e:h.get? b=some o)(n:H b=none):(uM h H).get? b=some o:=Ol _ e λhm=>by let q:(H b).isSome=true:=(List.mem_filter.mp hm).2;rw[n]at q;simp at q
def a8p{b:Addr}(e:(uM h H).get? b=some o):h.get? b=some o/\H b=none:=by let e':h.get? b=some o:=W.of_hideAll (Fy h H) e;erw[e',?_];cases q:H b with |none=>rfl |some x=>let hm:b∈Fy h H:=List.mem_filter.mpr #[OE.mpr (cP e'),by simp[q]];let z:(uM h H).get? b=none:=W.hideAll_none (Fy h H) hm;rw[z]at e;cases e
structure Mod(K:ag)(mg:bZ)(aB:Heap):Prop where
 sF:K.In aB
 glob:aB.Ns mainGlobals mg
 blt:∃mb,aB.Ns builtinsNs mb/\∀x:Str,x≠"__name__"->mb x=bootBuiltins x
 nolimit:aB.NoLimit
structure Cx where
 prog:ai
 w:World
 K:ag
 mg:bZ
 aB:Heap
 A:ak
 N:List Str
 s₀:ah
 H₀:Hp
 env:Env
 outer:List Env
 stack:List Env
 ex:List Addr
 fn:Str->Bool
 calm:Bool
 pn:List (Addr×Obj)
 xe:Value->ah->Prop
abbrev _root_.Cl:=List Env
def gG(l:Cl):DO:=l.filterMap (·.frame)
abbrev Cx.fs(X:Cx):DO:=gG X.outer
def NP(sc:Scope)(x:Str):Prop:=sc.names.lookup x=some .local\/sc.names.lookup x=some .cell\/sc.names.lookup x=some .free
def Loc(sc:Scope)(x:Str):Prop:=sc.names.lookup x=some .local\/sc.names.lookup x=some .cell
def Look(env:Env)(h:Heap)(m:bZ)(x:Str)(u:Value):Prop:=(env.kindOf x=some .local/\m x=some u)\/((env.kindOf x=some .cell\/env.kindOf x=some .free)/\∃c,env.cells.lookup x=some c/\h.IsCell c (some u))
structure Cx.Ok(X:Cx):Prop where
 mod:Mod X.K X.mg X.aB
 kind:X.env.scope.kind= .function
 glob:X.env.globals=mainGlobals
 blt:X.env.builtins=builtinsNs
 above:X.s₀.heap.objs.size<=X.env.locals
 inj:∀x y c,X.env.cells.lookup x=some c->X.env.cells.lookup y=some c->x=y
 has:∀x,(X.env.kindOf x=some .cell\/X.env.kindOf x=some .free)->∃c,X.env.cells.lookup x=some c
 wR:∀x c,X.fn x=true->X.env.cells.lookup x=some c->X.s₀.heap.objs.size<=c
 hd:X.calm=true->X.A.handled=none
 frames:X.A.frames=some X.stack
 xN:X.stack=X.outer\/(X.stack=X.env::X.outer/\X.env.frame=some X.env.locals)
 DV:∀b∈X.ex,b≠X.env.locals/\∀x c,X.env.cells.lookup x=some c->c≠b
 bs:∀b o,X.aB.get? b=some o->X.s₀.heap.get? b=some o/\X.H₀ b=none
 oQ:X.aB.objs.size<=X.s₀.heap.objs.size
 vV:∀b o,X.aB.get? b=some o->b∉X.ex
 sT:∀b∈X.ex,b∉X.fs
 lQ:X.s₀.heap.FunFrames X.aB X.outer
 qG:∀b∈X.fs,X.H₀ b=none
abbrev _root_.By:=List (Addr×Obj)
structure Inv(X:Cx)(ay:By)(O:List (Option V))(H:Hp)(s:ah):Prop where
 ok:X.Ok
 os:s.os=X.s₀.os
 bare:AllBare s.gens
 aB:Un X.fs X.ex X.H₀ H X.s₀.heap s.heap
 loc:∃m,s.heap.Ns X.env.locals m/\∀(i:Nat)(x:Str)(v:V),X.N[i]? =some x->O[i]? =some (some v)->NP X.env.scope x->∃u,RelV v u/\Look X.env s.heap m x u
 cell:∀x c,X.env.cells.lookup x=some c->∃v,s.heap.IsCell c v
 free:H X.env.locals=none
 mH:∀x c,X.env.cells.lookup x=some c->H c=none
 pin:∀p∈X.pn++ay,s.heap.get? p.1=some p.2/\H p.1=none/\p.1≠X.env.locals/\p.1∉X.fs/\∀v,p.2.data≠ .cell v
 bD:fF X.prog X.w H s.heap
 len:⇑O=X.N.length
section
variable {X:Cx}{ay:By}{O:List (Option V)}{H H':Hp}{s:ah}{h':Heap}
def Cx.Ok.a8F(ok:X.Ok){b:Addr}{o:Obj}(e:X.aB.get? b=some o):b∉X.fs:=λhb=>by have:=(ok.lQ.mem hb).1;rw[e]at this;cases this
theorem Inv.bs(I:Inv X ay O H s):∀b o,X.aB.get? b=some o->s.heap.get? b=some o/\H b=none:=λb o e=>#[I.aB.keep b o (I.ok.bs b o e).1 (I.ok.bs b o e).2 (I.ok.a8F e) (I.ok.vV b o e),I.aB.free b o (I.ok.bs b o e).1 (I.ok.bs b o e).2 (I.ok.vV b o e)]
def Inv.bk(I:Inv X ay O H s):∀b o,X.aB.get? b=some o->s.heap.get? b=some o:=λb o e=>(I.bs b o e).1
theorem Inv.mod(I:Inv X ay O H s):Mod X.K X.mg X.aB:=I.ok.mod
def Inv.gb(I:Inv X ay O H s):X.K.In s.heap:=I.ok.mod.sF.keeps I.bk
theorem Inv.lt(I:Inv X ay O H s):X.env.locals<s.heap.objs.size:=let#[_,hn,_]:=I.loc;hn.lt
def Inv.sz(I:Inv X ay O H s):X.s₀.heap.objs.size<=s.heap.objs.size:=cL I.ok.above (cw I.lt)
def Inv.a8D(I:Inv X ay O H s){a:Addr}(h:s.heap.objs.size<=a):a∉X.fs:=λhb=>by let(_,o,ho,_):=I.ok.lQ.mem hb;erw[absurd (dJ (cP ho) (cL I.sz h)) (xu _)]
def Inv.nQ(I:Inv X ay O H s):∀x c,X.env.cells.lookup x=some c->c≠X.env.locals:=λx c e z=>by let(v,o,ho,hd):=I.cell x c e;let(m,(o',es,ep,qA,LV,_),_):=I.loc;rw[z,qA]at ho;cases ho;rw[LV]at hd;cases hd
theorem Inv.lQ(I:Inv X ay O H s):s.heap.FunFrames X.aB X.outer:=by
 let all:∀(l:Cl),(∀b∈gG l,b∈X.fs)->X.s₀.heap.FunFrames X.aB l->s.heap.FunFrames X.aB l:=by intro l;induction l with |nil=>intro _ _;trivial |cons env r ih=>intro hs hl;let(hk,(L,o,hf,hn,ho,hd),hr):=hl;let hL:L∈X.fs:=hs L (by unfold gG;rw[a1E,hf];erw[OH]);let(sl,e):=I.aB.slot L o ho (I.ok.qG L hL) hL λz=>I.ok.sT L z hL;erw[hk,#[L,_,hf,hn,e,hd],ih (λb hb=>hs b (by unfold gG;rw[a1E,hf];erw[BU _ hb])) hr]
 erw[all X.outer (λ_ hb=>hb) I.ok.lQ]
theorem Inv.stack(I:Inv X ay O H s):s.heap.FunFrames X.aB X.stack:=by
 rcases I.ok.xN with e|⟨e,hf⟩
 ·rw[e];erw[I.lQ]
 ·rw[e]
  let(m,hn,_):=I.loc;erw[.cons (by rw[I.ok.kind];decide) hf hn ?_ I.lQ,B,HT (cL I.ok.oQ I.ok.above)]
def Inv.J3(I:Inv X ay O H s):∀b∈gG X.stack,b∈X.env.locals::X.fs:=λb hb=>by
 rcases I.ok.xN with e|⟨e,hf⟩
 ·rw[e]at hb;erw[BU _ hb]
 ·rw[e]at hb
  unfold gG at hb;rw[a1E,hf]at hb;erw[hb]
def Inv.FO(I:Inv X ay O H s):∀b∈gG X.stack,H b=none:=λb hb=>by
 rcases dj.mp (I.J3 b hb)with e|hb
 ·rw[e];erw[I.free]
 ·let(_,o,ho,_):=I.ok.lQ.mem hb
  erw[I.aB.free b o ho (I.ok.qG b hb) λz=>I.ok.sT b z hb]
def Inv.step{t':Nat}{ch:DO}(I:Inv X ay O H s) (sJ:∀b∈ch,(b∈X.ex\/X.s₀.heap.objs.size<=b)/\b≠X.env.locals/\(∀x c,X.env.cells.lookup x=some c->c≠b)/\∀p∈X.pn++ay,p.1≠b) (keep:∀b o,b≠X.env.locals->b∉X.fs->b∉ch->s.heap.get? b=some o->H b=none->h'.get? b=some o) (slot:∀b o,b≠X.env.locals->b∈X.fs->b∉ch->s.heap.get? b=some o->H b=none->∃sl,h'.get? b=some {o with slots:=sl})(free:∀b o,b∉ch->s.heap.get? b=some o->H b=none->H' b=none) (there:∀b o,b∉ch->s.heap.get? b=some o->∃o',h'.get? b=some o') (mY:∀b xs,H b=some (.tup xs)->H' b=some (.tup xs))(mG:∀b o u,H b=some (.qE o u)->H' b=some (.qE o u))(ng:∀b ps,H b=some (.uc ps)->∃more,H' b=some (.uc (ps++more))) (ns:∀m,s.heap.Ns X.env.locals m->h'.Ns X.env.locals m)(bD:fF X.prog X.w H' h')(hg:AllBare g'): Inv X ay O H' {s with heap:=h',gens:=g',drawn:=d',toks:=t'}:=by
 let WH:∀b o,X.s₀.heap.get? b=some o->b≠X.env.locals:=λb o e=>fo (dJ (cP e) I.ok.above);let Gw:∀b o,X.s₀.heap.get? b=some o->b∉X.ex->b∉ch:=λb o e hx hb=>by
  rcases(sJ b hb).1 with z|z
  ·erw[hx z]
  ·erw[absurd (dJ (cP e) z) (xu _)]
 let cellK:∀x c,X.env.cells.lookup x=some c->∀v,s.heap.IsCell c v->h'.IsCell c v:=λx c e v #[o,ho,hd]=>by
  let Dg:c∉ch:=λz=>(sJ c z).2.2.1 x c e rfl;by_cases hc:c∈X.fs
  ·let(sl,q):=slot c o (I.nQ x c e) hc Dg ho (I.mH x c e)
   erw[_,q,hd]
  ·erw[o,keep c o (I.nQ x c e) hc Dg ho (I.mH x c e),hd]
 erw[I.ok,I.os,hg,#[λb o e n hb hx=>?_,λb o e n hb hx=>?_,λb o e n hx=>?_,λb o e hx=>?_,λb xs e=>mY b xs (I.aB.mY b xs e),λb o xs e=>mG b o xs (I.aB.mG b o xs e),λb ps e=>?_],?_,λx c e=>?_,?_,λx c e=>?_,λp hp=>?_,bD,I.len]
 ·erw[keep b o (WH b o e) hb (Gw b o e hx) (I.aB.keep b o e n hb hx) (I.aB.free b o e n hx)]
 ·let(sl,e1):=I.aB.slot b o e n hb hx
  let(Jj,e2):=slot b _ (WH b o e) hb (Gw b o e hx) e1 (I.aB.free b o e n hx);erw[Jj,e2]
 ·let(o',e1):=I.aB.there b o e hx
  erw[free b o' (Gw b o e hx) e1 (I.aB.free b o e n hx)]
 ·let(o',e1):=I.aB.there b o e hx
  erw[there b o' (Gw b o e hx) e1]
 ·let(m1,e1):=I.aB.ng b ps e
  let(m2,e2):=ng b _ e1;erw[m1++m2,by rw[e2,Array.append_assoc]]
 ·let(m,hn,hl):=I.loc
  erw[m,ns m hn,λi x v e1 e2 e3=>?_];let(u,r,l):=hl i x v e1 e2 e3;erw[u,r,?_];rcases l with l|⟨k,c,e,z⟩
  ·erw[.inl l]
  ·erw[.inr #[k,c,e,cellK x c e _ z]]
 ·let(v,z):=I.cell x c e
  erw[v,cellK x c e v z]
 ·let(m,(o,_,_,ho,_),_):=I.loc
  erw[free _ o (λz=>(sJ _ z).2.1 Z) ho I.free]
 ·let(v,o,ho,hd):=I.cell x c e
  erw[free c o (λz=>(sJ c z).2.2.1 x c e Z) ho (I.mH x c e)]
 ·let(e,n,ne,nf,d):=I.pin p hp
  let Dg:p.1∉ch:=λz=>(sJ p.1 z).2.2.2 p hp rfl;erw[keep p.1 p.2 ne nf Dg e n,free p.1 p.2 Dg e n,ne,nf,d]
def Inv.un(I:Inv X ay O H s)(u:Un X.fs [] H H' s.heap h')(bD:fF X.prog X.w H' h'):Inv X ay O H' {s with heap:=h',toks:=t'}:=by let(m,(o,es,ep,ho,r),_):=id I.loc;let(sl,hL):=u.any ho I.free (by simp);erw[I.step (g':=s.gens) (d':=s.drawn) (ch:=[]) (λ_ z=>nomatch z) (λb o _ hb _ e n=>u.keep b o e n hb (by simp)) (λb o _ hb _ e n=>u.slot b o e n hb (by simp)) (λb o _ e n=>u.free b o e n (by simp)) (λb o _ e=>u.there b o e (by simp)) u.mY u.mG u.ng (λm' hm=>by let(o',df,MF,qA,r'):=hm;rw[ho]at qA;cases qA;erw[_,df,MF,hL,r']) bD I.bare]
def Inv.call(I:Inv X ay O H s)(u:Un (gG X.stack) ch H H' s.heap h')(bD:fF X.prog X.w H' h')(hg:AllBare g') (sJ:∀b∈ch,(b∈X.ex\/X.s₀.heap.objs.size<=b)/\b≠X.env.locals/\(∀x c,X.env.cells.lookup x=some c->c≠b)/\∀p∈X.pn++ay,p.1≠b): Inv X ay O H' {s with heap:=h',gens:=g',drawn:=d',toks:=t'}:=by let(m,(o,es,ep,ho,r),_):=id I.loc;let(sl,hL):=u.any ho I.free λz=>(sJ _ z).2.1 rfl;erw[I.step (ch:=ch) sJ (λb o hL hb hc e n=>u.keep b o e n (λz=>(dj.mp (I.J3 b z)).elim hL hb) hc) (λb o _ _ hc e n=>u.any e n hc) (λb o hc e n=>u.free b o e n hc) (λb o hc e=>u.there b o e hc) u.mY u.mG u.ng (λm' hm=>by let(o',df,MF,qA,r'):=hm;rw[ho]at qA;cases qA;erw[_,df,MF,hL,r']) bD hg]
def Inv.turned{it:Addr}(I:Inv X ay O H s)(k:∀b o,b≠it->s.heap.get? b=some o->h'.get? b=some o)(hn:H it=none)(hL:it≠X.env.locals) (h1:it∈X.ex\/X.s₀.heap.objs.size<=it)(h2:∀x c,X.env.cells.lookup x=some c->c≠it)(h3:∀p∈X.pn++ay,p.1≠it):Inv X ay O H {s with heap:=h',toks:=t'}:=by
 let D9:∀b u,H b=some u->b≠it:=λb u e z=>by rw[z,hn]at e;cases e
 erw[I.step (g':=s.gens) (d':=s.drawn) (ch:=[it]) (λb hb=>?_) (λb o _ _ hc e _=>k b o (λz=>hc (by simp[z])) e) (λb o _ _ hc e _=>#[o.slots,k b o (λz=>hc (by simp[z])) e]) (λ_ _ _ _ n=>n) (λb o hc e=>#[o,k b o (λz=>hc (by simp[z])) e]) (λ_ _ e=>e) (λ_ _ _ e=>e) (λb ps e=>#[#[],by rw[e];simp]) (λm hm=>?_) (λb u e=>?_) I.bare]
 ·let e:b=it:=by simpa using hb
  subst e;erw[h1,hL,h2,h3]
 ·let(o,es,ep,ho,r):=hm
  erw[o,es,ep,k _ o (m7 hL) ho,r]
 ·refine(I.bD b u e).oZ (λc v hc q=>k c v ?_ q) (λ_ q=>q) λ_ _ q=>q
  rcases hc with z|z
  ·rw[z];erw[D9 b u e]
  ·erw[D9 c _ z]
def Inv.tok(I:Inv X ay O H s)(t:Nat):Inv X ay O H {s with toks:=t}:=I.un (h':=s.heap) (t':=t) Un.refl I.bD
theorem Inv.kept(I:Inv X ay O H s)(k:∀b u,s.heap.get? b=some u->h'.get? b=some u):Inv X ay O H {s with heap:=h',toks:=t'}:=I.un (Un.kept k) (I.bD.kept k)
theorem Inv.laid{a:Addr}{o:HO}{t':Nat}(I:Inv X ay O H s)(k:∀b u,s.heap.get? b=some u->h'.get? b=some u)(hp:s.heap.objs.size<=a)(new:gQ X.prog X.w (bn H a o) h' a o): Inv X ay O (bn H a o) {s with heap:=h',toks:=t'}:=I.un (Un.laid k hp (I.bD.fresh hp)) (I.bD.laid k hp new)
theorem Inv.write(I:Inv X ay O H s)(mu:HQ (H x))(he:e=x\/H e=some (.own x))(k:∀b u,b≠e->s.heap.get? b=some u->h'.get? b=some u)(Bf:∃u,h'.get? e=some u) (new:gQ X.prog X.w (bn H x o) h' x o):Inv X ay O (bn H x o) {s with heap:=h',toks:=t'}:=I.un (Un.write mu he k Bf) (I.bD.write mu he k Bf new)
def Inv.VF(I:Inv X ay O H s)(h:∀p∈Ka,s.heap.get? p.1=some p.2/\H p.1=none/\p.1≠X.env.locals/\p.1∉X.fs/\∀v,p.2.data≠ .cell v):Inv X Ka O H s:=#[I.ok,I.os,I.bare,I.aB,I.loc,I.cell,I.free,I.mH,λp hp=>(kj.mp hp).elim (λz=>I.pin p (OI _ z)) (h p),I.bD,I.len]
abbrev _root_.Ch:=List Str
def Kr{N:Ch}(hN:N.Nodup){i j:Nat}{x:Str}(a:N[i]? =some x)(b:N[j]? =some x):i=j:=by let(h1,e1):=ck.mp a;let(h2,e2):=ck.mp b;exact(List.getElem_inj hN).mp (e1.ao e2.symm)
def PY{M:Model}{A:ak}{E:Value->ah->Prop}{i:Nat}{x:Str}{v:V}{u:Value}{Q:Unit->ah->Prop}(I:Inv X ay O H s)(hN:X.N.Nodup)(hi:X.N[i]? =some x)(hx:Loc X.env.scope x)(r:RelV v u) (h:∀s',Inv X ay (O.set i (some v)) H s'->(∃a,Heap.SameBut a s.heap s'.heap/\(a=X.env.locals\/X.env.cells.lookup x=some a))->Q () s')(hf:↥(~~~(X.fn x=true\/X.env.scope.names.lookup x=some .local))):wpAny M A (storeName X.env x u) Q E s:=by
 let(m,hn,hl):=id I.loc;let DI:(X.env.scope.kind== .class||(X.env.scope.kind== .module&&X.env.locals !=X.env.globals))=false:=by rw[I.ok.kind];rfl
 let GU:i<⇑O:=by rw[I.len];exact(ck.mp hi).1
 let nQ:=I.nQ;let tracked:∀{a:Addr}{h':Heap},(∃o,s.heap.get? a=some o/\H a=none)->Heap.SameBut a s.heap h'->fF X.prog X.w H h':=λ{a h'} ha hs b ob e=>by
  let(_,_,wu):=ha;refine(I.bD b ob e).oZ (λc w' hc q=>(hs.2 c ?_).ao q) (λ_ q=>q) λ_ _ q=>q;rintro rfl;rcases hc with rfl|hc
  ·rw[wu]at e;cases e
  ·rw[wu]at hc;cases hc
 rcases hx with hk|hk
 ·erw[wpAny_storeName_local hk hn (λh' LK hs=>?_) DI]
  let(oL,_,_,XZ,_):=id hn;erw[h _ #[I.ok,I.os,I.bare,#[λb o e n hb hx=>?_,λb o e n hb hx=>?_,I.aB.free,λb o e hx=>?_,I.aB.mY,I.aB.mG,I.aB.ng],#[_,LK,λj y v' e1 e2 e3=>?_],λy c e=>?_,I.free,I.mH,λp hp=>?_,tracked #[oL,XZ,I.free] hs,by simpa using I.len] #[_,hs,.inl rfl]]
  ·exact(hs.2 b (fo (dJ (cP e) I.ok.above))).ao (I.aB.keep b o e n hb hx)
  ·let(sl,e1):=I.aB.slot b o e n hb hx
   erw[sl,(hs.2 b (fo (dJ (cP e) I.ok.above))).ao e1]
  ·let(o',e1):=I.aB.there b o e hx
   erw[o',(hs.2 b (fo (dJ (cP e) I.ok.above))).ao e1]
  ·by_cases hj:j=i
   ·subst hj
    rw[hi]at e1;cases e1;rw[BX GU]at e2;cases e2;erw[u,r,.inl #[hk,by simp]]
   ·rw[IA (m7 hj)]at e2
    let(u',r',q):=hl j y v' e1 e2 e3;erw[u',r',?_];rcases q with⟨k,e⟩|⟨k,c,e,z⟩
    ·erw[.inl #[k,?_]]
     have:y≠x:=λe=>hj (Kr hN e1 (e▸hi));simp[this,e]
    ·erw[.inr #[k,c,e,z.sameBut hs (nQ y c e)]]
  ·let(w',z):=I.cell y c e
   erw[w',z.sameBut hs (nQ y c e)]
  ·let(e,n,ne,nf,d):=I.pin p hp
   erw[(hs.2 p.1 ne).ao e,n,ne,nf,d]
 ·let LP:X.fn x=true:=by
   rcases hf with z|z
   ·erw[z]
   ·rw[z]at hk;cases hk
  let(c,hc):=I.ok.has x (.inl hk);let(w',z):=I.cell x c hc;erw[wpAny_storeName_cell I.ok.kind hk hc z (λh' kP hs=>?_)];let(oc,XY,ab2):=id z;erw[h {s with heap:=h'} #[I.ok,I.os,I.bare,#[λb o e n hb hx=>?_,λb o e n hb hx=>?_,I.aB.free,λb o e hx=>?_,I.aB.mY,I.aB.mG,I.aB.ng],#[m,hn.sameBut hs (m7 (nQ x c hc)),λj y v' e1 e2 e3=>?_],λy c' e=>?_,I.free,I.mH,λp hp=>?_,tracked #[oc,XY,I.mH x c hc] hs,by simpa using I.len] #[c,hs,.inr hc]]
  ·exact(hs.2 b (fo (dJ (cP e) (I.ok.wR x c LP hc)))).ao (I.aB.keep b o e n hb hx)
  ·let(sl,e1):=I.aB.slot b o e n hb hx
   erw[sl,(hs.2 b (fo (dJ (cP e) (I.ok.wR x c LP hc)))).ao e1]
  ·let(o',e1):=I.aB.there b o e hx
   erw[o',(hs.2 b (fo (dJ (cP e) (I.ok.wR x c LP hc)))).ao e1]
  ·by_cases hj:j=i
   ·subst hj
    rw[hi]at e1;cases e1;rw[BX GU]at e2;cases e2;erw[u,r,.inr #[.inl hk,c,hc,kP]]
   ·rw[IA (m7 hj)]at e2
    let(u',r',q):=hl j y v' e1 e2 e3;erw[u',r',?_];rcases q with q|⟨k,c',e,z'⟩
    ·erw[.inl q]
    ·erw[.inr #[k,c',e,z'.sameBut hs ?_]]
     rintro rfl;erw[hj (Kr hN e1 (I.ok.inj _ _ _ e hc▸hi))]
  ·by_cases Ya:c'=c
   ·subst Ya;erw[_,kP]
   ·let(w2,z2):=I.cell y c' e
    erw[w2,z2.sameBut hs Ya]
  ·let(e,n,ne,nf,d):=I.pin p hp
   erw[(hs.2 p.1 ?_).ao e,n,ne,nf,d];intro q;rw[q,XY]at e;let q':oc=p.2:=fm e;erw[d w' (by rw[<-q'];erw[ab2])]
def A9{M:Model}{A:ak}{E:Value->ah->Prop}{i:Nat}{x:Str}{v:V}{u:Value}{Q:Unit->ah->Prop}(I:Inv X ay O H s)(hN:X.N.Nodup)(hi:X.N[i]? =some x)(hx:Loc X.env.scope x)(r:RelV v u) (h:∀s',Inv X ay (O.set i (some v)) H s'->Q () s')(hf:↥(~~~(X.fn x=true\/X.env.scope.names.lookup x=some .local))):wpAny M A (storeName X.env x u) Q E s:=PY I hN hi hx r (λs' I' _=>h s' I') hf
def Inv.Em(I:Inv X ay O H s)(ho:s'.os=s.os)(u:Un (gG X.stack) ch H H' s.heap s'.heap)(bD:fF X.prog X.w H' s'.heap)(hg:AllBare s'.gens) (sJ:∀b∈ch,(b∈X.ex\/X.s₀.heap.objs.size<=b)/\b≠X.env.locals/\(∀x c,X.env.cells.lookup x=some c->c≠b)/\∀p∈X.pn++ay,p.1≠b):Inv X ay O H' s':=by let(h',g',d',t',o'):=s';let e:o'=s.os:=ho;subst e;erw[I.call (g':=g') (t':=t') (d':=d') u bD hg sJ]
end
abbrev XK:=Value->Option Addr->Hp->Prop
abbrev St:=List (Option V)
abbrev VK:=V->Hp->Prop
abbrev TE:=St->Hp->VK->Prop
abbrev TT:=St->Hp->(Bool->Hp->Prop)->Prop
abbrev TA:=St->Hp->(AT->Hp->Prop)->Prop
structure Ends where
 nx:St->Hp->Prop
 rt:VK
 bk:St->Hp->Prop:=λ_ _=>False
 ct:St->Hp->Prop:=λ_ _=>False
abbrev TS:=Ends->St->Hp->Prop
def EP(X:Cx)(ay:By)(O:St)(Q:VK)(u:Value)(s':ah):Prop:=∃v H',Inv X ay O H' s'/\RelV v u/\Q v H'
def TP(X:Cx)(ay:By)(O:St)(Q:Bool->Hp->Prop)(b:Bool)(s':ah):Prop:=∃H',Inv X ay O H' s'/\Q b H'
def AP(X:Cx)(ay:By)(O:St)(Q:AT->Hp->Prop)(us:BY)(s':ah):Prop:=∃vs H',Inv X ay O H' s'/\Vals vs us/\Q vs H'
def SP(X:Cx)(ay:By)(D:Ends)(f:Flow)(s':ah):Prop:=match f with | .next=>∃σ' H',Inv X ay σ' H' s'/\D.nx σ' H' | .brk=>∃σ' H',Inv X ay σ' H' s'/\D.bk σ' H' | .cont=>∃σ' H',Inv X ay σ' H' s'/\D.ct σ' H' | .ret u=>∃v σ' H',Inv X ay σ' H' s'/\RelV v u/\D.rt v H'
def PE(X:Cx)(e:Expr)(t:TE):Prop:=∀(ay:By)(s:ah)(O:St)(H:Hp)(Q:VK),Inv X ay O H s->t O H Q->wpAny (model X.prog X.w) X.A (eval e X.env) (EP X ay O Q) X.xe s
def PT(X:Cx)(e:Expr)(t:TT):Prop:=∀(ay:By)(s:ah)(O:St)(H:Hp)(Q:Bool->Hp->Prop),Inv X ay O H s->t O H Q->wpAny (model X.prog X.w) X.A (isTrue e X.env (eval e X.env)) (TP X ay O Q) X.xe s
def PW(X:Cx)(e:Expr)(t:TT):Prop:=∀(whole:Sem Value)(ay:By)(s:ah)(O:St)(H:Hp)(Q:Bool->Hp->Prop),Inv X ay O H s->t O H Q->wpAny (model X.prog X.w) X.A (isTrue e X.env whole) (TP X ay O Q) X.xe s
def PW.pt{t:TT}(h:PW X e t):PT X e t:=h _
abbrev _root_.Cn:=List Expr
def PA(X:Cx)(es:Cn)(t:TA):Prop:=∀(pos:Pos)(ay:By)(s:ah)(O:St)(H:Hp)(Q:AT->Hp->Prop),Inv X ay O H s->t O H Q->wpAny (model X.prog X.w) X.A (spliced (backTo pos (starEach es X.env))) (AP X ay O Q) X.xe s
def PS(X:Cx)(st:Stmt)(t:TS):Prop:=∀(ay:By)(s:ah)(O:St)(H:Hp)(D:Ends),Inv X ay O H s->t D O H->wpAny (model X.prog X.w) X.A (exec st X.env) (SP X ay D) X.xe s
def iW(X:Cx)(st:List Stmt)(t:TS):Prop:=∀(ay:By)(s:ah)(O:St)(H:Hp)(D:Ends),Inv X ay O H s->t D O H->wpAny (model X.prog X.w) X.A (execs st X.env) (SP X ay D) X.xe s
def bo{α:Type}{t:Sem α}{Q Q':α->ah->Prop}{M:Model}{A:ak}{E:Value->ah->Prop}{s:ah}(h:wpAny M A t Q E s)(hQ:∀a s,Q a s->Q' a s):wpAny M A t Q' E s:=gr h hQ λ_ _ x=>x
section
variable {X:Cx}
inductive agN(i:Nat)(O:St)(H:Hp)(Q:VK):Prop |mk v(_:O[i]? =some (some v))(_:Q v H)
def Px(i:Nat):TE:=λO H Q=>agN i O H Q
def tC (v:V):TE:=λ_ H Q=>Q v H
def a6I(hN:X.N[i]? =some x)(hv:NP X.env.scope x)(hd: ~~~((x==("__debug__":Str))=false))(gE: ~~~((x==("__classdict__":Str))=false)):PE X (.Name x pos) (Px i):=by
 intro ay s O H Q I h;let(v,e,h):=h;let(m,hn,hl):=I.loc;let(u,r,l):=hl i x v hN e hv;let fin:EP X ay O Q u s:=#[v,H,I,r,h];rcases l with⟨hk,hm⟩|⟨hk,c,hc,sL⟩
 ·erw[wpAny_Name (wpAny_loadName_local I.ok.kind hk hn hm fin) hd]
 ·rcases hk with hk|hk
  ·erw[wpAny_Name (wpAny_loadName_cell I.ok.kind hk hc sL fin) hd]
  ·erw[wpAny_Name (wpAny_loadName_free I.ok.kind hk hc sL fin gE) hd]
def aA{i j pos}:PE X (.Constant (.int i) j pos) (tC (.int i)):=λ_ _ _ H _ I h=>wpAny_Constant_int #[.int i,H,I.tok _,#[_,Z],h]
def jB{b j pos}:PE X (.Constant (.bool b) j pos) (tC (.bl b)):=λ_ _ _ H _ I h=>Constant_bool #[.bl b,H,I,Z,h]
def gM{j pos}:PE X (.Constant .none j pos) (tC .bP):=λ_ _ _ H _ I h=>Constant_none #[.bP,H,I,Z,h]
def fA{x j pos}:PE X (.Constant (.str x) j pos) (tC (.str x)):=λ_ _ _ H _ I h=>Calls.Constant_str #[.str x,H,I.tok _,#[_,Z],h]
def Gl(X:Cx)(x:Str):Prop:=X.env.kindOf x=some .globalImplicit
def yG{E:Value->ah->Prop}{ay:By}{s:ah}{O:St}{H:Hp}{x:Str}{u:Value}{pos:Pos}{Q:Value->ah->Prop}(I:Inv X ay O H s)(hg:Gl X x)(hm:X.mg x=some u)(h:Q u s) (hd: ~~~((x==("__debug__":Str))=false)):wpAny (model X.prog X.w) X.A (eval (.Name x pos) X.env) Q E s:=Calls.Name_function_global I.ok.kind hg (Calls.loadGlobal_global (by rw[I.ok.glob];erw[I.mod.glob.keeps I.bk]) hm h) hd
def w6{E:Value->ah->Prop}{ay:By}{s:ah}{O:St}{H:Hp}{x:Str}{u:Value}{pos:Pos}{Q:Value->ah->Prop}(I:Inv X ay O H s)(hg:Gl X x)(hm:X.mg x=none)(hv:bootBuiltins x=some u)(h:Q u s) (hn: ~~~(x≠"__name__"))(hd: ~~~((x==("__debug__":Str))=false)):wpAny (model X.prog X.w) X.A (eval (.Name x pos) X.env) Q E s:=by let(mb,h1,h2):=I.mod.blt;erw[Calls.Name_function_global I.ok.kind hg (Calls.loadGlobal_builtin (by rw[I.ok.glob];erw[I.mod.glob.keeps I.bk]) hm (by rw[I.ok.blt];erw[h1.keeps I.bk]) ((h2 x hn).ao hv) h) hd]
def a6O{v:V}(hg:Gl X x)(hm:X.mg x=some u)(r:RelV v u)(hd: ~~~((x==("__debug__":Str))=false)):PE X (.Name x pos) (tC v):=λ_ _ _ H _ I h=>yG I hg hm #[v,H,I,r,h] hd
def cS{v:V}(hg:Gl X x)(hm:X.mg x=none)(hv:bootBuiltins x=some u)(r:RelV v u)(hn: ~~~(x≠"__name__"))(hd: ~~~((x==("__debug__":Str))=false)):PE X (.Name x pos) (tC v):=λ_ _ _ H _ I h=>w6 I hg hm hv #[v,H,I,r,h] hn hd
variable {a b:Expr}{ta tb:TE}{pos:Pos}
inductive ItB(Q:Bool->Hp->Prop)(x:V)(H1:Hp):Prop |mk c(_:x= .bl c)(_:Q c H1)
def tB(t:TE):TT:=λO H Q=>t O H λx H1=>ItB Q x H1
def cg{t:TE}(h:PE X e t)(he:↥(↥(∀whole,isTrue e X.env whole=(do let v<-whole;standAt e.pos;holding [v] (truthy v))))):PT X e (tB t):=by intro ay s O H Q I hw;erw[isTrue_plain (bo (h ay s O H _ I hw) λv s1 #[x,H1,I1,r1,q1]=>?_) (he _)];let(d,rfl,q):=q1;cases r1;erw[vp #[H1,I1,q]]
variable {tA FH:TT} {rest:Cn}
def a3b(t u:TT):TT:=λO H Q=>t O H λc H1=>if c=true then u O H1 Q else Q false H1
def tOr(t u:TT):TT:=λO H Q=>t O H λc H1=>if c=true then Q true H1 else u O H1 Q
def a2S(t:TT):TT:=λO H Q=>t O H λc H1=>Q (!c) H1
def pX(ha:PT X a tA):PW X (.BoolOp .And [a] pos) tA:=by intro wh ay s O H Q I h;erw[isTrue_and (bo (ha ay s O H Q I h) λc s1 e=>?_)];cases c with |true=>erw[isTrue_and_nil e] |false=>erw[e]
def lC(ha:PT X a tA):PW X (.BoolOp .Or [a] pos) tA:=by intro wh ay s O H Q I h;erw[isTrue_or (bo (ha ay s O H Q I h) λc s1 e=>?_)];cases c with |false=>erw[isTrue_or_nil e] |true=>erw[e]
def nu(ha:PT X a tA)(hb:PW X (.BoolOp .And (b::rest) pos) FH):PW X (.BoolOp .And (a::b::rest) pos) (a3b tA FH):=by intro wh ay s O H Q I h;erw[isTrue_and (bo (ha ay s O H _ I h) λc s1 #[H1,I1,q1]=>?_)];cases c with |true=>erw[hb wh ay s1 O H1 Q I1 q1] |false=>erw[H1,I1,q1]
def iQ(ha:PT X a tA)(hb:PW X (.BoolOp .Or (b::rest) pos) FH):PW X (.BoolOp .Or (a::b::rest) pos) (tOr tA FH):=by intro wh ay s O H Q I h;erw[isTrue_or (bo (ha ay s O H _ I h) λc s1 #[H1,I1,q1]=>?_)];cases c with |true=>erw[H1,I1,q1] |false=>erw[hb wh ay s1 O H1 Q I1 q1]
def dN(ha:PT X a tA):PT X (.UnaryOp .Not a pos) (a2S tA):=by intro ay s O H Q I h;erw[isTrue_not (ha ay s O H (λc H1=>Q (!c) H1) I h)]
inductive agV(tb:TE)(O:St)(Q:VK)(x:V)(H1:Hp):Prop |mk c(_:x= .bl c)(_:if c=true then tb O H1 Q else Q (.bl false) H1)
def a3a(ta tb:TE):TE:=λO H Q=>ta O H λx H1=>agV tb O Q x H1
inductive agS(Q:VK)(x:V)(H1:Hp):Prop |mk c(_:x= .bl c)(_:Q (.bl (!c)) H1)
def a2R(ta:TE):TE:=λO H Q=>ta O H λx H1=>agS Q x H1
def iR{op}{t:TE}(h:PE X a t):PE X (.BoolOp op [a] pos) t:=λay s O H Q I hw=>BoolOp_one (h ay s O H Q I hw)
def iE(ha:PE X a ta)(hb:PE X (.BoolOp .And (b::rest) pos) tb):PE X (.BoolOp .And (a::b::rest) pos) (a3a ta tb):=by intro ay s O H Q I h;erw[BoolOp_and (bo (ha ay s O H _ I h) λv s1 #[x,H1,I1,r1,q1]=>?_)];let(c,rfl,q1):=q1;cases r1;erw[vp ?_];cases c with |true=>erw[hb ay s1 O H1 Q I1 q1] |false=>erw[.bl false,H1,I1,Z,q1]
def y6(ha:PE X a ta):PE X (.UnaryOp .Not a pos) (a2R ta):=by intro ay s O H Q I h;erw[UnaryOp_ (bo (ha ay s O H _ I h) λv s1 #[x,H1,I1,r1,q1]=>?_)];let(c,rfl,q1):=q1;cases r1;erw[not_of (vp #[.bl (!c),H1,I1,Z,q1])]
def tIf(t:TT)(ta tb:TE):TE:=λO H Q=>t O H λc H1=>if c=true then ta O H1 Q else tb O H1 Q
def y8(hc:PT X c tA)(ha:PE X a ta)(hb:PE X b tb):PE X (.IfExp c a b pos) (tIf tA ta tb):=by intro ay s O H Q I h;erw[wpAny_IfExp (bo (hc ay s O H _ I h) λd s1 #[H1,I1,q1]=>?_)];cases d with |true=>erw[ha ay s1 O H1 Q I1 q1] |false=>erw[hb ay s1 O H1 Q I1 q1]
end
def aK(K:ag)(H:Hp)(a:Addr)(xs:AT):Prop:=Rd H a (.bi xs)\/ ∃(o:Obj)(its:Array Value)(n:Nat),K.lookup a=some o/\o.cls= .type "list"/\o.dict=none/\o.data= .seq its n/\its.size<=sizeLine/\Vals xs its.toList
def aW(K:ag)(H:Hp)(a:Addr)(xs:AT):Prop:=Rd H a (.tup xs)\/ ∃(o:Obj)(its:Array Value)(n:Nat),K.lookup a=some o/\o.cls= .type "tuple"/\o.data= .seq its n/\its.size<=sizeLine/\Vals xs its.toList
def agp:Value->Option V | .none=>some .bP | .bool b=>some (.bl b) | .int i _=>some (.int i) | .str x _=>some (.str x) | .bytes b _=>some (.Bw b) | .float b _=>some (.Hh b) | .ref a=>some (.ref a) | .type n=>some (.ty n) |_=>none
def RelV.abs(r:RelV x u):agp u=some x:=by cases x with |bP=>cases r;rfl |bl _=>cases r;rfl |int _=>let(t,rfl):=r;rfl |str _=>let(t,rfl):=r;rfl |Bw _=>let(t,rfl):=r;rfl |Hh _=>let(t,rfl):=r;rfl |ref _=>cases r;rfl |ty _=>cases r;rfl
def RelV.inj{x y:V}{u:Value}(r:RelV x u)(q:RelV y u):x=y:=fm (r.abs.symm.ao q.abs)
theorem Vals.inj:∀{xs ys:AT}{us:BY},Vals xs us->Vals ys us->xs=ys |_,_,_,.nil,.nil=>rfl |_,_,_,.cons r t,.cons r' t'=>by rw[r.inj r',Vals.inj t t']
section
variable {X:Cx}{ay:By}{O:St}{H:Hp}{s:ah}{a:Addr}{xs ys:AT}
def aK.of{K:ag}(h:H a=some (.bi xs)):aK K H a xs:=.inl (.inl h)
def aW.of{K:ag}(h:H a=some (.tup xs)):aW K H a xs:=.inl (.inl h)
def Inv.list(I:Inv X ay O H s)(h:aK X.K H a xs):∃its:BY,Vals xs its/\PlainL s.heap a its.toArray/\⇑xs<=sizeLine:=by
 rcases h with h|⟨o,its,n,hk,hc,hd,hs,hz,r⟩
 ·let(z,its,n,r,e):=h.ok I.bD
  erw[its,r,#[_,n,e,wP,Z],z]
 ·erw[its.toList,r,#[o,n,I.gb a o hk,hc,hd,by simpa using hs],?_]
  let e:=⇑r;simp only[Fe]at e
  lia
def Inv.tuple(I:Inv X ay O H s)(h:aW X.K H a xs):∃its:BY,Vals xs its/\IsTup s.heap a its.toArray/\⇑xs<=sizeLine:=by
 rcases h with h|⟨o,its,n,hk,hc,hs,hz,r⟩
 ·let(z,its,r,p):=h.ok I.bD
  erw[its,r,p,z]
 ·erw[its.toList,r,#[o,I.gb a o hk,hc,n,by simpa using hs],?_]
  let e:=⇑r;simp only[Fe]at e
  lia
def Inv.Xq(I:Inv X ay O H s)(h:aK X.K H a xs)(h':aK X.K H a ys):xs=ys:=by
 let(its,r,(o,n,e,_,_,d),_):=I.list h;let(its',r',(o',n',e',_,_,d'),_):=I.list h';rw[e]at e';cases e';rw[d]at d';injection d' with d1 _;have:its=its':=by simpa using congrArg Array.toList d1
 subst this;erw[r.inj r']
def Inv.Ph(I:Inv X ay O H s)(h:aW X.K H a xs)(h':aW X.K H a ys):xs=ys:=by
 let(its,r,(o,e,_,n,d),_):=I.tuple h;let(its',r',(o',e',_,n',d'),_):=I.tuple h';rw[e]at e';cases e';rw[d]at d';injection d' with d1 _;have:its=its':=by simpa using congrArg Array.toList d1
 subst this;erw[r.inj r']
end
abbrev Cx.mV(X:Cx)(E:Value->ah->Prop):Cx:={X with xe:=E}
abbrev Cx.ux(X:Cx):Cx:=X.mV λ_ _=>False
theorem Cx.Ok.mV{X:Cx}(ok:X.Ok)(E:Value->ah->Prop):(X.mV E).Ok:=#[ok.mod,ok.kind,ok.glob,ok.blt,ok.above,ok.inj,ok.has,ok.wR,ok.hd,ok.frames,ok.xN,ok.DV,ok.bs,ok.oQ,ok.vV,ok.sT,ok.lQ,ok.qG]
def Cx.Ok.rF{X:Cx}{E:Value->ah->Prop}(ok:(X.mV E).Ok):X.Ok:=#[ok.mod,ok.kind,ok.glob,ok.blt,ok.above,ok.inj,ok.has,ok.wR,ok.hd,ok.frames,ok.xN,ok.DV,ok.bs,ok.oQ,ok.vV,ok.sT,ok.lQ,ok.qG]
section
variable {X:Cx}{ay:By}{O:St}{H:Hp}{s:ah}{E:Value->ah->Prop}
theorem Inv.mV(I:Inv X ay O H s)(E:Value->ah->Prop):Inv (X.mV E) ay O H s:=#[I.ok.mV E,I.os,I.bare,I.aB,I.loc,I.cell,I.free,I.mH,I.pin,I.bD,I.len]
theorem Inv.rF(I:Inv (X.mV E) ay O H s):Inv X ay O H s:=#[I.ok.rF,I.os,I.bare,I.aB,I.loc,I.cell,I.free,I.mH,I.pin,I.bD,I.len]
theorem SP.rF{D:Ends}(h:SP (X.mV E) ay D f s'):SP X ay D f s':=by cases f with |next=>let(σ',H',I,q):=h;erw[σ',H',I.rF,q] |brk=>let(σ',H',I,q):=h;erw[σ',H',I.rF,q] |cont=>let(σ',H',I,q):=h;erw[σ',H',I.rF,q] |ret u=>let(v,σ',H',I,r,q):=h;erw[v,σ',H',I.rF,r,q]
theorem iW.ux{st:List Stmt}{t:TS}(h:iW X.ux st t):iW X st t:=λay s O H D I hw=>gr (h ay s O H D (I.mV _) hw) (λ_ _ q=>q.rF) λ_ _ z=>False.elim z
end
section
variable {X:Cx}{st:Stmt}{rest:List Stmt}{t u:TS}{e:Expr}{te:TE}{pos:Pos}
def a2U:TS:=λD O H=>D.nx O H
def J0(t u:TS):TS:=λD O H=>t {D with nx:=u D} O H
def bE:iW X [] a2U:=λ_ _ O H _ I h=>Ia #[O,H,I,h]
def aD(h1:PS X st t)(h2:iW X rest u):iW X (st::rest) (J0 t u):=by intro ay s O H D I h;erw[Oa (bo (h1 ay s O H {D with nx:=u D} I h) λf s1 q=>?_)];cases f with |next=>let(σ',H',I',q):=q;erw[h2 ay s1 σ' H' D I' q] |ret v=>erw[q] |brk=>erw[q] |cont=>erw[q]
def aG(h1:PS X st t):iW X [st] t:=by intro ay s O H D I h;erw[Oa (bo (h1 ay s O H D I h) λf s1 q=>?_)];cases f with |next=>erw[Ia q] |ret v=>erw[q] |brk=>erw[q] |cont=>erw[q]
def Inv.quiet{ay:By}{O:St}{H:Hp}{s:ah}(I:Inv X ay O H s):interactive X.env=false:=by simp[interactive,I.ok.kind]
def a36(te:TE):TS:=λD O H=>te O H λ_ H1=>D.nx O H1
def fe(he:PE X e te)(hs:↥(swapsWith e none pos.line X.env=pure false)):PS X (.Expr e pos) (a36 te):=by intro ay s O H D I h;erw[wpAny_Expr_any (bo (he ay s O H _ I h) λv s1 #[x,H1,I1,r1,q1]=>#[O,H1,I1,q1]) I.quiet hs]
def a2M(te:TE):TS:=λD O H=>te O H D.rt
def aQ(he:PE X e te):PS X (.Return (some e) pos) (a2M te):=by intro ay s O H D I h;erw[wpAny_Return_some (bo (he ay s O H _ I h) λv s1 #[x,H1,I1,r1,q1]=>#[x,O,H1,I1,r1,q1])]
def a31(c:TT)(t u:TS):TS:=λD O H=>c O H λb H1=>if b=true then t D O H1 else u D O H1
def bp{b:List Stmt}(hc:PT X c tc)(ha:iW X a t)(hb:iW X b u):PS X (.If c a b pos) (a31 tc t u):=by intro ay s O H D I h;erw[wpAny_If (bo (hc ay s O H _ I h) λd s1 #[H1,I1,q1]=>?_)];cases d with |true=>erw[ha ay s1 O H1 D I1 q1] |false=>erw[hb ay s1 O H1 D I1 q1]
def a2V:TS:=λ_ _ _=>False
def vS:PS X st a2V:=λ_ _ _ _ _ _ h=>h.elim
end
abbrev TG:=V->St->Hp->(St->Hp->Prop)->Prop
abbrev tE:=List V->St->Hp->(St->Hp->Prop)->Prop
def PG(X:Cx)(target:Expr)(t:TG):Prop:=∀(ay:By)(s:ah)(O:St)(H:Hp)(v:V)(u:Value)(Q:St->Hp->Prop),Inv X ay O H s->RelV v u->t v O H Q->wpAny (model X.prog X.w) X.A (assign target X.env u) (λ_ s'=>∃σ' H',Inv X ay σ' H' s'/\Q σ' H') X.xe s
def EF(X:Cx)(ts:Cn)(t:tE):Prop:=∀(ay:By)(s:ah)(O:St)(H:Hp)(vs:AT)(us:BY)(Q:St->Hp->Prop),Inv X ay O H s->Vals vs us->t vs O H Q->wpAny (model X.prog X.w) X.A (assignInOrder ((assignEach ts X.env).map (·.2)) us) (λ_ s'=>∃σ' H',Inv X ay σ' H' s'/\Q σ' H') X.xe s
abbrev NS:=V->V->V->Hp->(Hp->Prop)->Prop
def a0K(X:Cx)(t:NS):Prop:=∀(ay:By)(s:ah)(O:St)(H:Hp)(o i v:V)(ov iv u:Value)(Q:Hp->Prop),Inv X ay O H s->RelV o ov->RelV i iv->RelV v u->t o i v H Q->wpAny (model X.prog X.w) X.A (setItem ov iv u) (λ_ s'=>∃H',Inv X ay O H' s'/\Q H') X.xe s
abbrev TIp:=V->V->Hp->VK->Prop
def PIp(X:Cx)(op:Operator)(t:TIp):Prop:=∀(ay:By)(s:ah)(O:St)(H:Hp)(x y:V)(v u:Value)(Q:VK),Inv X ay O H s->RelV x v->RelV y u->t x y H Q->wpAny (model X.prog X.w) X.A (inplaceOp op v u) (EP X ay O Q) X.xe s
section
variable {X:Cx} {pos:Pos}
def iu(i:Nat):TG:=λv O H Q=>Q (O.set i (some v)) H
def a6H(hN:X.N.Nodup)(hi:X.N[i]? =some x)(hx:Loc X.env.scope x)(hf:↥(~~~(X.fn x=true\/X.env.scope.names.lookup x=some .local))):PG X (.Name x pos) (iu i):=by intro ay s O H v u Q I r h;erw[j07 (A9 I hN hi hx r (λs' I'=>#[_,H,I',h]) hf)]
def Hf:tE:=λvs O H Q=>vs=[]/\Q O H
inductive aiV(t:TG)(u:tE)(vs:AT)(O:St)(H:Hp)(Q:St->Hp->Prop):Prop |mk v r(_:vs=v::r)(_:t v O H λσ' H'=>u r σ' H' Q)
def ze(t:TG)(u:tE):tE:=λvs O H Q=>aiV t u vs O H Q
def cW:EF X [] Hf:=by intro ay s O H vs us Q I r h;let(e,h):=h;subst e;cases r;erw[assignInOrder_nil #[O,H,I,h]]
def bK{t:TG}(h1:PG X e t)(h2:EF X es u) (hs:↥((assignEach (e::es) X.env).map (·.2)=assign e X.env::(assignEach es X.env).map (·.2))):EF X (e::es) (ze t u):=by intro ay s O H vs us Q I r h;let(v,vr,e1,h):=h;subst e1;cases r with |cons r rr=>rw[hs];erw[assignInOrder_cons (bo (h1 ay s O H _ _ _ I r h) λ_ s1 #[σ1,H1,I1,q1]=>?_),B,h2 ay s1 σ1 H1 _ _ Q I1 rr q1]
inductive aiU(K:ag)(n:Nat)(t:tE)(v:V)(O:St)(H:Hp)(Q:St->Hp->Prop):Prop |mk a xs(_:v= .ref a)(_:aW K H a xs)(_:⇑xs=n)(_:t xs O H Q)
def DS(K:ag)(n:Nat)(t:tE):TG:=λv O H Q=>aiU K n t v O H Q
def a6G{t:tE}(hc:X.calm=true)(h:EF X es t) (hn:↥(⇑(assignEach es X.env)=n))(iI:↥((assignEach es X.env).findIdx? (·.1)=none)):PG X (.Tuple es k pos) (DS X.K n t):=by intro ay s O H v u Q I r hw;let(a,xs,e1,hq,hl,hw):=hw;subst e1;cases r;let(its,rv,ht,hz):=I.tuple hq;erw[assign_Tuple_tuple (I.ok.hd hc) ht (by simp[hn,<-hl,⇑rv]) iI λh' hx=>?_];let I1:Inv X ay O H {s with heap:=h'}:=I.kept (t':=s.toks) λb o e=>hx b o (fo (cP e)) e;erw[h ay _ O H xs _ Q I1 (by simpa using rv) hw]
def acH(to ti:TE)(t:NS):TG:=λv O H Q=>to O H λo H1=>ti O H1 λi H2=>t o i v H2 λH3=>Q O H3
def rW{to:TE}{t:NS}(ho:PE X o to)(hi:PE X i ti)(hs:a0K X t) (ha:↥(↥(∀v,assign (.Subscript o i pos) X.env v=(do
 let ov<-holding [v] (eval o X.env)
 let iv<-holding [v,ov] (eval i X.env)
 standAt pos
 holding [v,ov,iv] (setItem ov iv v)
 release [v,ov,iv] [])))):PG X (.Subscript o i pos) (acH to ti t):=by
 intro ay s O H v u Q I r h;rw[ha];erw[aL (oU (bo (ho ay s O H _ I h) λov s1 #[x,H1,I1,r1,q1]=>?_)),B,aL (oU (bo (hi ay s1 O H1 _ I1 q1) λiv s2 #[y,H2,I2,r2,q2]=>?_)),B,aL (tJ (aL (oU (bo (hs ay s2 O H2 x y v ov iv u _ I2 r1 r2 r q2) λ_ s3 #[H3,I3,q3]=>?_)))),B,wpAny_release #[O,H3,I3,q3]]
def FJ(te:TE)(g:TG):TS:=λD O H=>te O H λx H1=>g x O H1 D.nx
def fz(he:PE X e te)(hg:PG X tg g)(hs:↥(swapsWithSole [tg] e pos.line X.env=pure false))(hw:↥(swappedStores [tg] e X.env=pure none)) (h1:↥((assignEach [tg] X.env).map (·.2)=[assign tg X.env])):PS X (.Assign [tg] e pos) (FJ te g):=by intro ay s O H D I h;erw[wpAny_Assign_stores (bo (he ay s O H _ I h) λv s1 #[x,H1,I1,r1,q1]=>?_) hs hw];rw[h1];erw[bo (hg ay s1 O H1 x v _ I1 r1 q1) λ_ s2 q=>q]
def a6s(hN:X.N.Nodup)(hi:X.N[i]? =some x)(hx:Loc X.env.scope x)(he:PE X e te)(hs:↥(swapsWith e (some (.Name x pos')) pos.line X.env=pure false))(hf:↥(~~~(X.fn x=true\/X.env.scope.names.lookup x=some .local))): PS X (.Assign [.Name x pos'] e pos) (FJ te (iu i)):=by intro ay s O H D I h;erw[wpAny_Assign_Name (bo (he ay s O H _ I h) λv s1 #[y,H1,I1,r1,q1]=>?_) hs,B,A9 I1 hN hi hx r1 (λs2 I2=>#[_,H1,I2,q1]) hf]
inductive agR(i:Nat)(j:Nat)(D:Ends)(O:St)(vs:AT)(H1:Hp):Prop |mk v w(_:vs=[v,w])(_:D.nx ((O.set i (some v)).set j (some w)) H1)
def a2P(i j:Nat)(ta:TA):TS:=λD O H=>ta O H λvs H1=>agR i j D O vs H1
def rV{b:Expr}{px pt:Pos}{kt k2 CG}(hc:X.calm=true)(hN:X.N.Nodup)(hi:X.N[i]? =some x)(hj:X.N[j]? =some y)(hij:i≠j) (hx:X.env.scope.names.lookup x=some .local)(hy:X.env.scope.names.lookup y=some .local)(ha:PA X [a,b] ta) (hw:swappedStores [.Tuple [.Name x px,.Name y py] kt pt] (.Tuple [a,b] k2 CG) X.env=pure (some [x,y])) (hs:↥(swapsWithSole [.Tuple [.Name x px,.Name y py] kt pt] (.Tuple [a,b] k2 CG) pos.line X.env=pure false)): PS X (.Assign [.Tuple [.Name x px,.Name y py] kt pt] (.Tuple [a,b] k2 CG) pos) (a2P i j ta):=by
 intro ay s O H D I h;rw[exec_Assign_arm];erw[aL (tJ ?_)];rw[hs];erw[aL (bU ?_)];rw[aV aw];erw[aL (Tuple_ (bo (ha _ ay s O H _ I h) λus s1 #[vs,H1,I1,r1,q1]=>?_))];let(v,w,e1,q1):=q1;subst e1;obtain⟨u1,u2,rfl,rv,cV⟩:∃u1 u2,us=[u1,u2]/\RelV v u1/\RelV w u2:=by cases r1 with |cons p q=>cases q with |cons p' q'=>cases q';erw[wT,p,p']
 erw[tK ?_ (by show 2<=sizeLine;decide)];let I2:Inv X ay O H1 {s1 with heap:=s1.heap.push {cls:=.type "tuple",data:=.seq [u1,u2].toArray}}:=I1.kept (t':=s1.toks) λb o e=>cR _ e;rw[hw];erw[aL (bU ?_)];show wpAny (model X.prog X.w) X.A (do rule "assign.swapped-stores";let items<-unpackItems (.ref s1.heap.objs.size) 2 none;assignInOrder [λv=>bindName X.env y v,λv=>bindName X.env x v] items.reverse;pure Flow.next) _ _ _;erw[aL (EO (aL (unpackItems_tuple (items:=(List.toArray [u1,u2])) (I.ok.hd hc) (IsTup.new s1.heap _) λh' hx'=>?_)))];let I3:=I2.kept (h':=h') (t':=s1.toks) λb o e=>hx' b o (fo (cP e)) e;show wpAny _ _ (assignInOrder [λv=>bindName X.env y v,λv=>bindName X.env x v] [u2,u1]>>=λ_=>pure Flow.next) _ _ _;erw[aL (assignInOrder_cons (wpAny_bindName (A9 I3 hN hj (.inl hy) cV (λs2 I4=>?_) (.inr hy)))),B,assignInOrder_cons (wpAny_bindName (A9 I4 hN hi (.inl hx) rv (λs3 I5=>assignInOrder_nil (bU ?_)) (.inr hx)))];rw[List.set_comm _ _ (m7 hij)]at I5;erw[_,H1,I5,q1]
inductive aiL(f:Int->Int->Int)(x:V)(y:V)(H:Hp)(Q:VK):Prop |mk i j(_:x= .int i)(_:y= .int j)(_:Q (.int (f i j)) H)
def ipI(f:Int->Int->Int):TIp:=λx y H Q=>aiL f x y H Q
def aap:PIp X .Add (ipI λi j=>i+j):=by intro ay s O H x y v u Q I r1 r2 h;let(i,j,e1,e2,q):=h;subst e1;subst e2;let(t,rfl):=r1;let(t',rfl):=r2;erw[iadd_int #[.int _,H,I.tok _,#[_,Z],q]]
def Pw(c:TT)(tb:TS):TS:=λD O H=>∃W:Nat->St->Hp->Prop,(∃m,W m O H)/\∀m O H,W m O H->c O H λb H1=>if b=true then∃N:St->Hp->Prop,(∀σ' H',N σ' H'->∃m',m'<m/\W m' σ' H')/\tb {D with nx:=N,ct:=N,bk:=D.nx} O H1 else D.nx O H1
def rS(hp:PassesOwn (model X.prog X.w) X.A X.env X.xe)(hc:PT X c tc)(hb:iW X body tb):PS X (.While c body [] pos) (Pw tc tb):=by intro ay s O H D I h;let(W,(m0,w0),turn):=h;erw[wpAny_While (codeAny_whileLoop (λn s'=>∃σ' H',Inv X ay σ' H' s'/\W n σ' H') ?_ m0 #[O,H,I,w0])];rintro n s1 ⟨σ1,H1,I1,w1⟩;erw[BL hp (bo (hc ay s1 σ1 H1 _ I1 (turn n σ1 H1 w1)) λb s2 #[H2,I2,q2]=>?_)];cases b with
 |true=>let(N,hN,q2):=q2;rw[aR rfl];erw[BL hp (bo (hb ay s2 σ1 H2 _ I2 q2) λf s3 q3=>?_)];cases f with |next=>let(σ3,H3,I3,n3):=q3;let(m',hm,w3):=hN σ3 H3 n3;erw[m',hm,σ3,H3,I3,w3] |cont=>let(σ3,H3,I3,n3):=q3;let(m',hm,w3):=hN σ3 H3 n3;erw[m',hm,σ3,H3,I3,w3] |brk=>erw[q3] |ret v=>erw[q3]
 |false=>rw[aV ko];erw[Ia #[σ1,H2,I2,q2]]
end
structure It where
 go:Nat->Hp->Prop
 kI:Nat->Hp->V->Hp->Prop
 stop:Nat->Hp->Prop
def m5(X:Cx)(ay:By)(H:Hp)(b:Addr):Prop:=H b=none/\b≠X.env.locals/\b∉X.fs/\(b∈X.ex\/X.s₀.heap.objs.size<=b)/\(∀x c,X.env.cells.lookup x=some c->c≠b)/\∀p∈X.pn++ay,p.1≠b
def Inv.wB{X:Cx}{ay:By}{O:St}{H H':Hp}{s:ah}{b:Addr}(I:Inv X ay O H s)(hb:s.heap.objs.size<=b)(hn:H' b=none):m5 X ay H' b:=by
 erw[hn,zS (dJ I.lt hb),I.a8D hb,.inr (cL I.sz hb),λx c e z=>?_,λp hp z=>?_]
 ·let(v,q):=I.cell x c e
  erw[absurd (dJ q.lt (by rw[z];erw[hb])) (xu _)]
 ·erw[absurd (dJ (cP (I.pin p hp).1) (by rw[z];erw[hb])) (xu _)]
structure Turn(P:ai)(w:World)(K:ag)(tg:Expr)(J:It)(fp:DO)(it:Addr)(tn:Nat->Heap->Prop):Prop where
 mem:it∈fp
 obj:∀i h,tn i h->∀b∈fp,∃o,h.get? b=some o/\∀v,o.data≠ .cell v
 keep:∀i h h',tn i h->(∀b∈fp,∀o,h.get? b=some o->h'.get? b=some o)->tn i h'
 item:∀(X:Cx),X.prog=P->X.w=w->X.K=K->X.calm=true->∀(i:Nat)(ay:By)(s:ah)(O:St)(H:Hp)(E:Value->ah->Prop),Inv X ay O H s->(∀b∈fp,m5 X ay H b)->tn i s.heap->J.go i H->wpAny (model P w) X.A (pyNext (.ref it)) (λr s1=>∃u,r=some u/\wpAny (model P w) X.A (letOwnedTupleGo tg (.ref it) u) (λ_ s2=>∃x H',Inv X ay O H' s2/\RelV x u/\J.kI i H x H'/\tn (i+1) s2.heap/\∀b∈fp,H' b=none) E s1) E s
 done:∀(X:Cx),X.prog=P->X.w=w->X.K=K->X.calm=true->∀(i:Nat)(ay:By)(s:ah)(O:St)(H:Hp)(E:Value->ah->Prop),Inv X ay O H s->(∀b∈fp,m5 X ay H b)->tn i s.heap->J.stop i H->wpAny (model P w) X.A (pyNext (.ref it)) (λr s1=>r=none/\Inv X ay O H s1) E s
 self:∀(A:ak)(i:Nat)(s:ah)(Q:Value->ah->Prop)(E:Value->ah->Prop),tn i s.heap->Q (.ref it) s->wpAny (model P w) A (pyIter (.ref it)) Q E s
abbrev TI:=St->Hp->(It->Hp->Prop)->Prop
def NX(X:Cx)(ay:By)(O:St)(tg:Expr)(R:It->Hp->Prop)(Dt:Value)(s2:ah):Prop:=∃(it:Addr)(fp:DO)(tn:Nat->Heap->Prop)(J:It)(H':Hp),Dt= .ref it/\Inv X ay O H' s2/\Turn X.prog X.w X.K tg J fp it tn/\tn 0 s2.heap/\(∀b∈fp,m5 X ay H' b)/\R J H'
def PI(X:Cx)(tg iter:Expr)(wi:TI):Prop:=∀(ay:By)(s:ah)(O:St)(H:Hp)(R:It->Hp->Prop),Inv X ay O H s->wi O H R->wpAny (model X.prog X.w) X.A (eval iter X.env) (λv s1=>wpAny (model X.prog X.w) X.A (pyIter v) (NX X ay O tg R) X.xe s1) X.xe s
def DP{M:Model}{A:ak}{E:Value->ah->Prop}{s:ah}{tg:Expr}{it:Addr}{u:Value}{o:Obj}{n:String}{vs:Array Value}{Q:Unit->ah->Prop}(ho:s.heap.get? it=some o)(hc:o.cls= .type n)(hd:o.data= .fields vs) (hn:["enumerate","zip","dict_itemiterator","dict_reverseitemiterator","odict_iterator","itertools.zip_longest","itertools.pairwise"].contains n=false)(hQ:Q () s):wpAny M A (letOwnedTupleGo tg (.ref it) u) Q E s:=by unfold letOwnedTupleGo;cases tg<;>first |erw[bU hQ] |(cases u<;>first
        |erw[bU hQ]
        | (erw[aL (wpAny_load ho ?_)]
           rw[hc,hd];show wpAny M A (if(["enumerate","zip","dict_itemiterator","dict_reverseitemiterator","odict_iterator","itertools.zip_longest","itertools.pairwise"].contains n&&vs[0]? ==some (rawInt _))=true then _ else _) Q E s;rw[aV (by intro h;rw[hn,o9]at h;cases h)];erw[bU hQ]))
def vk(K:ag)(a:Addr):It:=#[λi H=>∃xs x,aK K H a xs/\xs[i]? =some x,λi H x H'=>H'=H/\∀xs,aK K H a xs->xs[i]? =some x,λi H=>∃xs,aK K H a xs/\⇑xs<=i]
def xf(K:ag)(a:Addr):It:=#[λi H=>∃xs x,aW K H a xs/\xs[i]? =some x,λi H x H'=>H'=H/\∀xs,aW K H a xs->xs[i]? =some x,λi H=>∃xs,aW K H a xs/\⇑xs<=i]
def tI(lo:Int)(n:Nat):It:=#[λi _=>i<n,λi H x H'=>H'=H/\x= .int (lo+i),λi _=>n<=i]
def a2q{P:ai}{w:World}{K:ag}{tg:Expr}(a it:Addr):Turn P w K tg (vk K a) [it] it (λi h=>h.IsListIter it a i) where
 mem:=by simp
 obj:=λi h st b hb=>by
  let e:b=it:=by simpa using hb
  subst e;let(o,e,c,d):=st;erw[o,e,λv z=>by rw[d]at z;cases z]
 keep:=λi h h' st k=>st.at λo e=>k it (by simp) o e
 item:=by intro X hP hw hK hc i ay s O H E I hf st hg;subst hP hw hK;let(xs,x,hq,hx):=hg;let(its,rv,p,hz):=I.list hq;let(u,hu,ru):=rv.get hx;let(f0,f1,f2,f3,f4,f5):=hf it (by simp);erw[wpAny_pyNext_list_item st p.isList (x:=u) (by simpa using hu) λh' jx sb=>?_];let I1:Inv X ay O H {s with heap:=h'}:=I.turned (t':=s.toks) (λb o hb e=>(sb.2 b hb).ao e) f0 f1 f3 f4 f5;let(o,e,c,d):=id jx;erw[u,Z,DP (s:={s with heap:=h'}) e c d aw #[x,H,I1,ru,#[Z,λys hy=>by rw[I.Xq hy hq];erw[hx]],jx,λb hb=>(hf b hb).1]]
 done:=by intro X hP hw hK hc i ay s O H E I hf st hg;subst hP hw hK;let(xs,hq,hx):=hg;let(its,rv,p,hz):=I.list hq;let(f0,f1,f2,f3,f4,f5):=hf it (by simp);let hl:=⇑rv;erw[wpAny_pyNext_list_end (I.ok.hd hc) st p.isList (by simp;erw[_S.oM hx hl]) λh' eb=>#[Z,I.turned (t':=s.toks) (λb o hb e=>eb b o hb e) f0 f1 f3 f4 f5]]
 self:=λ_ _ _ _ _ st h=>wpAny_pyIter_listiter st h
def a2m{P:ai}{w:World}{K:ag}{tg:Expr}(a it:Addr):Turn P w K tg (xf K a) [it] it (λi h=>h.IsTupleIter it a i) where
 mem:=by simp
 obj:=λi h st b hb=>by
  let e:b=it:=by simpa using hb
  subst e;let(o,e,c,d):=st;erw[o,e,λv z=>by rw[d]at z;cases z]
 keep:=λi h h' st k=>st.at λo e=>k it (by simp) o e
 item:=by intro X hP hw hK hc i ay s O H E I hf st hg;subst hP hw hK;let(xs,x,hq,hx):=hg;let(its,rv,p,hz):=I.tuple hq;let(u,hu,ru):=rv.get hx;let(f0,f1,f2,f3,f4,f5):=hf it (by simp);erw[wpAny_pyNext_tuple_item st (show s.heap.IsTuple a its.toArray from p) (x:=u) (by simpa using hu) λh' jx sb=>?_];let I1:Inv X ay O H {s with heap:=h'}:=I.turned (t':=s.toks) (λb o hb e=>(sb.2 b hb).ao e) f0 f1 f3 f4 f5;let(o,e,c,d):=id jx;erw[u,Z,DP (s:={s with heap:=h'}) e c d aw #[x,H,I1,ru,#[Z,λys hy=>by rw[I.Ph hy hq];erw[hx]],jx,λb hb=>(hf b hb).1]]
 done:=by intro X hP hw hK hc i ay s O H E I hf st hg;subst hP hw hK;let(xs,hq,hx):=hg;let(its,rv,p,hz):=I.tuple hq;let(f0,f1,f2,f3,f4,f5):=hf it (by simp);let hl:=⇑rv;erw[wpAny_pyNext_tuple_end (I.ok.hd hc) st (show s.heap.IsTuple a its.toArray from p) (by simp;erw[_S.oM hx hl]) λh' eb=>#[Z,I.turned (t':=s.toks) (λb o hb e=>eb b o hb e) f0 f1 f3 f4 f5]]
 self:=λ_ _ _ _ _ st h=>wpAny_pyIter_tupleiter st h
def a2p{P:ai}{w:World}{K:ag}{tg:Expr}(it:Addr)(lo:Int)(n:Nat):Turn P w K tg (tI lo n) [it] it (λi h=>IsRangeIter h it (lo+(i:Nat)*1) ((n:Int)-(i:Nat)) 1) where
 mem:=by simp
 obj:=λi h st b hb=>by
  let e:b=it:=by simpa using hb
  subst e;erw[_,st,λv z=>by let z':Data.fields _=Data.cell v:=z;cases z']
 keep:=λi h h' st k=>k it (by simp) _ st
 item:=by intro X hP hw hK hc i ay s O H E I hf st hg;subst hP hw hK;let(f0,f1,f2,f3,f4,f5):=hf it (by simp);let W:=Walks.range (prog:=X.prog) (w:=X.w) (I.ok.hd hc) it lo 1 n;erw[W.item i s _ _ hg st λv h' tk hv jx kk=>?_];let(t,rfl):=hv;let I1:Inv X ay O H {s with heap:=h',toks:=tk}:=I.turned (λb o hb e=>kk b o (by simpa using hb) e) f0 f1 f3 f4 f5;erw[ww,DP (s:={s with heap:=h',toks:=tk}) (n:="range_iterator") jx rfl rfl aw #[.int (lo+i),H,I1,#[t,?_],#[Z,Z],jx,λb hb=>(hf b hb).1]];rw[Ps]
 done:=by intro X hP hw hK hc i ay s O H E I hf st hg;subst hP hw hK;let(f0,f1,f2,f3,f4,f5):=hf it (by simp);erw[Pn (I.ok.hd hc) st (by have:n<=i:=hg;lia) λh' eb=>#[Z,I.turned (t':=s.toks) (λb o hb e=>eb b o hb e) f0 f1 f3 f4 f5]]
 self:=λ_ _ _ _ _ st h=>a1b st h
section
variable {X:Cx} {tg:Expr}
inductive aiS(K:ag)(R:It->Hp->Prop)(x:V)(H1:Hp):Prop |mk a(_:x= .ref a)(_:(∃xs,aK K H1 a xs))(_:R (vk K a) H1)
def XU(K:ag)(tl:TE):TI:=λO H R=>tl O H λx H1=>aiS K R x H1
inductive aiN(K:ag)(R:It->Hp->Prop)(x:V)(H1:Hp):Prop |mk a(_:x= .ref a)(_:(∃xs,aW K H1 a xs))(_:R (xf K a) H1)
def XT(K:ag)(tl:TE):TI:=λO H R=>tl O H λx H1=>aiN K R x H1
def a6F(hl:PE X l tl):PI X tg l (XU X.K tl):=by
 intro ay s O H R I h;erw[bo (hl ay s O H _ I h) λv s1 #[x,H1,I1,r1,q1]=>?_];let(a,e,(xs,hq),q):=q1;subst e;cases r1;let(its,rv,p,hz):=I1.list hq;erw[HY p.isList ?_,B,s1.heap.objs.size,[s1.heap.objs.size],xz,H1,Z,I1.kept (t':=s1.toks) λb o e=>cR _ e,a2q a _,#[_,fX _ Z,wP],λb hb=>?_,q];let e:b=s1.heap.objs.size:=by simpa using hb
 subst e;erw[I1.wB (aZ _) (I1.bD.fresh (aZ _))]
def a6D(hl:PE X l tl):PI X tg l (XT X.K tl):=by
 intro ay s O H R I h;erw[bo (hl ay s O H _ I h) λv s1 #[x,H1,I1,r1,q1]=>?_];let(a,e,(xs,hq),q):=q1;subst e;cases r1;let(its,rv,p,hz):=I1.tuple hq;erw[ad (show s1.heap.IsTuple a its.toArray from p) ?_,B,s1.heap.objs.size,[s1.heap.objs.size],xz,H1,Z,I1.kept (t':=s1.toks) λb o e=>cR _ e,a2m a _,#[_,fX _ Z,wP],λb hb=>?_,q];let e:b=s1.heap.objs.size:=by simpa using hb
 subst e;erw[I1.wB (aZ _) (I1.bD.fresh (aZ _))]
def Vt{ay:By}{O:St}{H:Hp}{s:ah}{R:It->Hp->Prop}{E:Value->ah->Prop}{lo hi:Int}{t u v:Tok}{tk:Nat}(I:Inv X ay O H s)(h1:-(2^62)<=lo)(h2:lo<2^62)(h3:-(2^62)<=hi)(h4:hi<2^62) (q:R (tI lo (hi-lo).toNat) H):wpAny (model X.prog X.w) X.A (pyIter (.ref s.heap.objs.size)) (NX X ay O tg R) E {s with heap:=s.heap.push {cls:=.type "range",data:=.fields (List.toArray [.int lo t,.int hi u,.int 1 v])},toks:=tk}:=by
 erw[wpAny_pyIter_range (IsRange.new ..) (small_one h1 h2 h3 h4) ?_];let I1:Inv X ay O H {s with heap:=s.heap.push {cls:=.type "range",data:=.fields (List.toArray [.int lo t,.int hi u,.int 1 v])},toks:=tk}:=I.kept λb o e=>cR _ e;erw[(s.heap.push {cls:=.type "range",data:=.fields (List.toArray [.int lo t,.int hi u,.int 1 v])}).objs.size,[(s.heap.push {cls:=.type "range",data:=.fields (List.toArray [.int lo t,.int hi u,.int 1 v])}).objs.size],xz,H,Z,I1.kept (t':=tk) λb o e=>cR _ e,a2p _ lo (hi-lo).toNat,?_,λb hb=>?_,q]
 ·let e1:lo+((0:Nat):Int)*1=lo:=by simp
  let e2:(((hi-lo).toNat:Nat):Int)-((0:Nat):Int)=Builtin.Range.rangeSize lo hi 1:=by rw[rangeSize_one];split<;>lia
  show IsRangeIter _ _ (lo+((0:Nat):Int)*1) ((((hi-lo).toNat:Nat):Int)-((0:Nat):Int)) 1;rw[e1,e2];erw[fX _ rfl]
 ·let e:b=(s.heap.push {cls:=.type "range",data:=.fields (List.toArray [.int lo t,.int hi u,.int 1 v])}).objs.size:=by simpa using hb
  subst e;erw[I1.wB (aZ _) (I1.bD.fresh (aZ _))]
inductive aiQ(R:It->Hp->Prop)(vs:AT)(H1:Hp):Prop |mk (j:Int)(_:vs=[.int j])(_:-(2^62)<=j)(_:j<2^62)(_:R (tI 0 j.toNat) H1)
def aaD(ta:TA):TI:=λO H R=>ta O H λvs H1=>aiQ R vs H1
inductive aiP(R:It->Hp->Prop)(vs:AT)(H1:Hp):Prop |mk (i:Int)(j:Int)(_:vs=[.int i,.int j])(_:(-(2^62)<=i/\i<2^62/\-(2^62)<=j/\j<2^62))(_:R (tI i (j-i).toNat) H1)
def aaC(ta:TA):TI:=λO H R=>ta O H λvs H1=>aiP R vs H1
def pZ(hg:Gl X "range")(hm:X.mg "range"=none)(ha:PA X [a] ta)(hs:↥(starEach [a] X.env=[(false,eval a X.env)])):PI X tg (.Call (.Name "range" p) [a] [] pos) (aaD ta):=by intro ay s O H R I h;erw[Call_ (w6 I hg hm boot_range (EV (bo (ha pos ay s O H _ I h) λus s1 #[vs,H1,I1,r1,q1]=>?_) hs Z))];let(j,e,q1,q2,q):=q1;subst e;cases r1 with |cons r rr=>cases rr;let(t,rfl):=r;erw[call_range_1 (Vt I1 (aw) (aw) q1 q2 (by simpa using q))]
def Kb{b:Expr}(hg:Gl X "range")(hm:X.mg "range"=none)(ha:PA X [a,b] ta)(hs:↥(starEach [a,b] X.env=[(false,eval a X.env),(false,eval b X.env)]))(kC:↥(starEach [b] X.env=[(false,eval b X.env)])): PI X tg (.Call (.Name "range" p) [a,b] [] pos) (aaC ta):=by intro ay s O H R I h;erw[Call_ (w6 I hg hm boot_range (EV (bo (ha pos ay s O H _ I h) λus s1 #[vs,H1,I1,r1,q1]=>?_) (by rw[hs,kC]) (by rw[kC];rfl)))];let(i,j,e,(q1,q2,q3,q4),q):=q1;subst e;cases r1 with |cons r rr=>cases rr with |cons r' rr=>cases rr;let(t,rfl):=r;let(t',rfl):=r';erw[call_range_2 (Vt I1 q1 q2 q3 q4 q)]
def a33(wi:TI)(g:TG)(tb:TS):TS:=λD O H=>wi O H λJ H1=>∃W:Nat->Nat->St->Hp->Prop,(∃m,W 0 m O H1)/\∀i m O H,W i m O H->(J.stop i H/\D.nx O H)\/(J.go i H/\∃N:St->Hp->Prop,(∀σ' H',N σ' H'->∃m',m'<m/\W (i+1) m' σ' H')/\∀x H',J.kI i H x H'->g x O H' λσ2 H2=>tb {D with nx:=N,ct:=N,bk:=D.nx} σ2 H2)
def uj(fp:DO)(h:Heap):By:=fp.filterMap λb=>(h.get? b).map λo=>(b,o)
def sr{b:Addr}(hb:b∈fp)(e:h.get? b=some o):(b,o)∈uj fp h:=BS.mpr #[b,hb,by rw[e];rfl]
def a8o(hp:p∈uj fp h):p.1∈fp/\h.get? p.1=some p.2:=by let(b,hb,e):=BS.mp hp;cases q:h.get? b with |none=>rw[q]at e;cases e |some o=>rw[q]at e;let e':(b,o)=p:=fm e;subst e';erw[hb,q]
def Inv.pinned{ay:By}{O:St}{H:Hp}{s:ah}{fp:DO}(I:Inv X ay O H s)(hf:∀b∈fp,m5 X ay H b)(ho:∀b∈fp,∃o,s.heap.get? b=some o/\∀v,o.data≠ .cell v):Inv X (ay++uj fp s.heap) O H s:=I.VF λp hp=>(kj.mp hp).elim (λz=>I.pin p (iZ _ z)) λz=>by let(hb,e):=a8o z;let(f0,f1,f2,_):=hf p.1 hb;let(o,e',d):=ho p.1 hb;rw[e]at e';cases e';erw[e,f0,f1,f2,d]
def Inv.xI{ay pl:By}{O:St}{H:Hp}{s:ah}(I:Inv X (ay++pl) O H s):Inv X ay O H s:=I.VF λp hp=>I.pin p (iZ _ (OI _ hp))
def gh(hp:PassesOwn (model X.prog X.w) X.A X.env X.xe)(hc:X.calm=true)(hi:PI X tg iter wi)(hg:PG X tg g)(hb:iW X body tb) (hs:↥(↥(∀x,foldedSetIterable iter X.env x=pure x))):PS X (.For tg iter body [] pos) (a33 wi g tb):=by
 intro ay s O H D I h;erw[wpAny_For (bo (hi ay s O H _ I h) λv s1 h1=>bo h1 λDt s2 h2=>?_) hs];let(it,fp,tn,J,H2,e,I2,T,rK,f2,W,(m0,w0),turn):=h2;subst e;let me:∀{H':Hp},(∀b∈fp,H' b=none)->∀b∈fp,m5 X ay H' b:=λhn b hb=>#[hn b hb,(f2 b hb).2];erw[codeAny_forLoop_any (λn s'=>∃i σ' H',Inv X ay σ' H' s'/\tn i s'.heap/\(∀b∈fp,H' b=none)/\W i n σ' H') ?_ m0 #[0,O,H2,I2,rK,λb hb=>(f2 b hb).1,w0]];rintro n s3 ⟨i,σ3,H3,I3,Q7,Yx,w3⟩;rcases turn i n σ3 H3 w3 with⟨stop,qn⟩|⟨go,N,hN,step⟩
 ·erw[BL hp (bo (T.done X Z Z Z hc i ay s3 σ3 H3 X.xe I3 (me Yx) Q7 stop) λr s4 #[hr,I4]=>?_)]
  subst hr;erw[Ia #[σ3,H3,I4,qn]]
 ·erw[BL hp (bo (T.item X Z Z Z hc i ay s3 σ3 H3 X.xe I3 (me Yx) Q7 go) λr s4 #[u,hr,h4]=>?_)]
  subst hr;erw[BL hp (bo h4 λ_ s5 #[x,H5,I5,r5,y5,p4,sP]=>?_)];let I5':=I5.pinned (me sP) (T.obj _ _ p4);erw[BL hp (bo (hg _ s5 σ3 H5 x u _ I5' r5 (step x H5 y5)) λ_ s6 #[σ6,H6,I6,q6]=>?_),B,BL hp (bo (hb _ s6 σ6 H6 _ I6 q6) λf s7 q7=>?_)];let again:∀{σ7:St}{H7:Hp},Inv X (ay++uj fp s5.heap) σ7 H7 s7->N σ7 H7->∃m,m<n/\∃i σ' H',Inv X ay σ' H' s7/\tn i s7.heap/\(∀b∈fp,H' b=none)/\W i m σ' H':=λ{σ7 H7} I7 n7=>by let(m',hm,w7):=hN σ7 H7 n7;erw[m',hm,i+1,σ7,H7,I7.xI,T.keep _ _ _ p4 λb hb o e=>(I7.pin (b,o) (iZ _ (iZ _ (sr hb e)))).1,λb hb=>?_,w7];let(o,e,d):=T.obj _ _ p4 b hb;exact(I7.pin (b,o) (iZ _ (iZ _ (sr hb e)))).2.1
  cases f with |next=>let(σ7,H7,I7,n7):=q7;erw[again I7 n7] |cont=>let(σ7,H7,I7,n7):=q7;erw[again I7 n7] |brk=>let(σ7,H7,I7,q7):=q7;erw[σ7,H7,I7.xI,q7] |ret v=>let(x7,σ7,H7,I7,r7,q7):=q7;erw[x7,σ7,H7,I7.xI,r7,q7]
end
def Bk{K:ag}{a:Addr}{xs:AT}{g:TG}{tb:TS}{D:Ends}{O:St}{H:Hp}(Pv:Nat->St->Hp->Prop)(h0:Pv 0 O H)(hl:∀i O H,i<=⇑xs->Pv i O H->aK K H a xs) (hs:∀i x O H,xs[i]? =some x->Pv i O H->g x O H λσ2 H2=>tb {D with nx:=Pv (i+1),ct:=Pv (i+1),bk:=D.nx} σ2 H2)(hd:∀O H,Pv ⇑xs O H->D.nx O H): ∃W:Nat->Nat->St->Hp->Prop,(∃m,W 0 m O H)/\∀i m O H,W i m O H->((vk K a).stop i H/\D.nx O H)\/((vk K a).go i H/\∃N:St->Hp->Prop,(∀σ' H',N σ' H'->∃m',m'<m/\W (i+1) m' σ' H')/\∀x H',(vk K a).kI i H x H'->g x O H' λσ2 H2=>tb {D with nx:=N,ct:=N,bk:=D.nx} σ2 H2):=by
 erw[λi m O H=>m=⇑xs-i/\i<=⇑xs/\Pv i O H,#[⇑xs,by simp,fR _,h0],?_];rintro i m O H ⟨rfl,hi,p⟩;let q:=hl i O H hi p;by_cases bu:i<⇑xs
 ·erw[.inr #[#[xs,xs[i],q,by simp[bu]],Pv (i+1),λσ' H' p'=>#[⇑xs-(i+1),m8 bu (gR _),Z,bu,p'],λx H' y=>?_]]
  let(e,y):=y;subst e;erw[hs i x O _ (y xs q) p]
 ·let e:i=⇑xs:=iY hi (kX bu)
  subst e;erw[.inl #[#[xs,q,aZ _],hd O H p]]
def Yz{K:ag}{a:Addr}{xs:AT}{g:TG}{tb:TS}{D:Ends}{O:St}{H:Hp}(Pv:Nat->St->Hp->Prop)(h0:Pv 0 O H)(hl:∀i O H,i<=⇑xs->Pv i O H->aW K H a xs) (hs:∀i x O H,xs[i]? =some x->Pv i O H->g x O H λσ2 H2=>tb {D with nx:=Pv (i+1),ct:=Pv (i+1),bk:=D.nx} σ2 H2)(hd:∀O H,Pv ⇑xs O H->D.nx O H): ∃W:Nat->Nat->St->Hp->Prop,(∃m,W 0 m O H)/\∀i m O H,W i m O H->((xf K a).stop i H/\D.nx O H)\/((xf K a).go i H/\∃N:St->Hp->Prop,(∀σ' H',N σ' H'->∃m',m'<m/\W (i+1) m' σ' H')/\∀x H',(xf K a).kI i H x H'->g x O H' λσ2 H2=>tb {D with nx:=N,ct:=N,bk:=D.nx} σ2 H2):=by
 erw[λi m O H=>m=⇑xs-i/\i<=⇑xs/\Pv i O H,#[⇑xs,by simp,fR _,h0],?_];rintro i m O H ⟨rfl,hi,p⟩;let q:=hl i O H hi p;by_cases bu:i<⇑xs
 ·erw[.inr #[#[xs,xs[i],q,by simp[bu]],Pv (i+1),λσ' H' p'=>#[⇑xs-(i+1),m8 bu (gR _),Z,bu,p'],λx H' y=>?_]]
  let(e,y):=y;subst e;erw[hs i x O _ (y xs q) p]
 ·let e:i=⇑xs:=iY hi (kX bu)
  subst e;erw[.inl #[#[xs,q,aZ _],hd O H p]]
def sQ{lo:Int}{n:Nat}{g:TG}{tb:TS}{D:Ends}{O:St}{H:Hp}(Pv:Nat->St->Hp->Prop)(h0:Pv 0 O H) (hs:∀i O H,i<n->Pv i O H->g (.int (lo+i)) O H λσ2 H2=>tb {D with nx:=Pv (i+1),ct:=Pv (i+1),bk:=D.nx} σ2 H2)(hd:∀O H,Pv n O H->D.nx O H): ∃W:Nat->Nat->St->Hp->Prop,(∃m,W 0 m O H)/\∀i m O H,W i m O H->((tI lo n).stop i H/\D.nx O H)\/((tI lo n).go i H/\∃N:St->Hp->Prop,(∀σ' H',N σ' H'->∃m',m'<m/\W (i+1) m' σ' H')/\∀x H',(tI lo n).kI i H x H'->g x O H' λσ2 H2=>tb {D with nx:=N,ct:=N,bk:=D.nx} σ2 H2):=by
 erw[λi m O H=>m=n-i/\i<=n/\Pv i O H,#[n,by simp,fR _,h0],?_];rintro i m O H ⟨rfl,hi,p⟩;by_cases bu:i<n
 ·erw[.inr #[bu,Pv (i+1),λσ' H' p'=>#[n-(i+1),m8 bu (gR _),Z,bu,p'],λx H' y=>?_]]
  let(e,y):=y;subst e y;erw[hs i O _ bu p]
 ·let e:i=n:=iY hi (kX bu)
  subst e;erw[.inl #[aZ _,hd O H p]]
def rC{D:Ends}(Pv:St->Hp->Prop)(μ:St->Hp->Nat)(h0:Pv O H) (hs:∀O H,Pv O H->c O H λb H1=>if b=true then tb {D with nx:=λσ' H'=>Pv σ' H'/\μ σ' H'<μ O H,ct:=λσ' H'=>Pv σ' H'/\μ σ' H'<μ O H,bk:=D.nx} O H1 else D.nx O H1) (sK:∀O H Q Q',(∀b H1,Q b H1->Q' b H1)->c O H Q->c O H Q'):Pw c tb D O H:=by erw[λm O H=>m=μ O H/\Pv O H,#[ww,h0],?_];rintro m O H ⟨rfl,p⟩;erw[sK O H _ _ (λb H1 q=>?_) (hs O H p)];cases b with |true=>erw[_,λσ' H' #[p',l]=>#[_,l,Z,p'],q] |false=>erw[q]
abbrev R2:=V->V->Hp->VK->Prop
def eJ(X:Cx)(f:Value->Value->Sem Value)(r:R2):Prop:=∀(ay:By)(s:ah)(O:St)(H:Hp)(x y:V)(v u:Value)(Q:VK),Inv X ay O H s->RelV x v->RelV y u->r x y H Q->wpAny (model X.prog X.w) X.A (f v u) (EP X ay O Q) X.xe s
def NQ(X:Cx)(f:Value->Sem Value)(r:V->Hp->VK->Prop):Prop:=∀(ay:By)(s:ah)(O:St)(H:Hp)(x:V)(v:Value)(Q:VK),Inv X ay O H s->RelV x v->r x H Q->wpAny (model X.prog X.w) X.A (f v) (EP X ay O Q) X.xe s
def gq(X:Cx)(f:Value)(r:AT->Hp->VK->Prop):Prop:=∀(ay:By)(s:ah)(O:St)(H:Hp)(xs:AT)(us:BY)(Q:VK),Inv X ay O H s->Vals xs us->r xs H Q->wpAny (model X.prog X.w) X.A (call f us) (EP X ay O Q) X.xe s
def agy(X:Cx)(r:V->Hp->(Bool->Hp->Prop)->Prop):Prop:=∀(ay:By)(s:ah)(O:St)(H:Hp)(x:V)(v:Value)(Q:Bool->Hp->Prop),Inv X ay O H s->RelV x v->r x H Q->wpAny (model X.prog X.w) X.A (truthy v) (TP X ay O Q) X.xe s
def Cg(r:R2)(ta tb:TE):TE:=λO H Q=>ta O H λx H1=>tb O H1 λy H2=>r x y H2 Q
def tUn(r:V->Hp->VK->Prop)(ta:TE):TE:=λO H Q=>ta O H λx H1=>r x H1 Q
inductive IrI(C:Int->Int->Prop)(g:Int->Int->V)(x:V)(y:V)(H:Hp)(Q:VK):Prop |mk i j(_:x= .int i)(_:y= .int j)(_:C i j)(_:Q (g i j) H)
def rI(C:Int->Int->Prop)(g:Int->Int->V):R2:=λx y H Q=>IrI C g x y H Q
inductive aiD(g:Int->Int->V)(x:V)(y:V)(H:Hp)(Q:VK):Prop |mk i j(_:x= .int i)(_:y= .int j)(_:Q (g i j) H)
def nk(g:Int->Int->V):R2:=λx y H Q=>aiD g x y H Q
inductive IrU(g:Int->V)(x:V)(H:Hp)(Q:VK):Prop |mk i(_:x= .int i)(_:Q (g i) H)
def rU(g:Int->V):V->Hp->VK->Prop:=λx H Q=>IrU g x H Q
section
variable {X:Cx}{a b c:Expr}{ta tb tc:TE}{pos:Pos}
def Nr(ha:PE X a ta)(hb:PE X b tb){ay:By}{s:ah}{O:St}{H:Hp}{R:V->V->Hp->Prop}(I:Inv X ay O H s) (h:ta O H λx H1=>tb O H1 λy H2=>R x y H2){Q:Value->ah->Prop}{f:Value->Value->Sem Value} (hf:∀v u s2 x y H2,Inv X ay O H2 s2->RelV x v->RelV y u->R x y H2->wpAny (model X.prog X.w) X.A (f v u) Q X.xe s2): wpAny (model X.prog X.w) X.A (eval a X.env) (λv s₁=>wpAny (model X.prog X.w) X.A (eval b X.env) (λu s₂=>wpAny (model X.prog X.w) X.A (f v u) Q X.xe s₂) X.xe s₁) X.xe s:=by erw[bo (ha ay s O H _ I h) λv s1 #[x,H1,I1,r1,q1]=>?_,B,bo (hb ay s1 O H1 _ I1 q1) λu s2 #[y,H2,I2,r2,q2]=>?_,B,hf v u s2 x y H2 I2 r1 r2 q2]
def aM{r:R2}(ho:eJ X (binaryOp op) r)(ha:PE X a ta)(hb:PE X b tb):PE X (.BinOp a op b pos) (Cg r ta tb):=by intro ay s O H Q I h;erw[wpAny_BinOp (Nr ha hb I h λv u s2 x y H2 I2 rx ry q=>ho ay s2 O H2 x y v u Q I2 rx ry q)]
def rX{r:V->Hp->VK->Prop}(ho:NQ X (unaryOp op) r)(ha:PE X a ta):PE X (.UnaryOp op a pos) (tUn r ta):=by intro ay s O H Q I h;erw[UnaryOp_ (bo (ha ay s O H _ I h) λv s1 #[x,H1,I1,r1,q1]=>ho ay s1 O H1 x v Q I1 r1 q1)]
def CM{f:Value->Value->Sem Value}{C:Int->Int->Prop}{g:Int->Int->Int} (rule:∀(i j:Int)(t u:Tok)(s:ah)(Q:Value->ah->Prop)(E:Value->ah->Prop),C i j->Q (.int (g i j) s.toks) {s with toks:=s.toks+1}->wpAny (model X.prog X.w) X.A (f (.int i t) (.int j u)) Q E s): eJ X f (rI C λi j=>.int (g i j)):=by intro ay s O H x y v u Q I rx ry h;let(i,j,rfl,rfl,hc,q):=h;let(t,rfl):=rx;let(t',rfl):=ry;erw[rule i j t t' s _ _ hc #[.int (g i j),H,I.tok _,#[_,Z],q]]
def W0{f:Value->Value->Sem Value}{g:Int->Int->Int} (rule:∀(i j:Int)(t u:Tok)(s:ah)(Q:Value->ah->Prop)(E:Value->ah->Prop),Q (.int (g i j) s.toks) {s with toks:=s.toks+1}->wpAny (model X.prog X.w) X.A (f (.int i t) (.int j u)) Q E s): eJ X f (nk λi j=>.int (g i j)):=by intro ay s O H x y v u Q I rx ry h;let(i,j,rfl,rfl,q):=h;let(t,rfl):=rx;let(t',rfl):=ry;erw[rule i j t t' s _ _ #[.int (g i j),H,I.tok _,#[_,Z],q]]
def AB{f:Value->Value->Sem Value}{g:Int->Int->Bool} (rule:∀(i j:Int)(t u:Tok)(s:ah)(Q:Value->ah->Prop)(E:Value->ah->Prop),Q (.bool (g i j)) s->wpAny (model X.prog X.w) X.A (f (.int i t) (.int j u)) Q E s): eJ X f (nk λi j=>.bl (g i j)):=by intro ay s O H x y v u Q I rx ry h;let(i,j,rfl,rfl,q):=h;let(t,rfl):=rx;let(t',rfl):=ry;erw[rule i j t t' s _ _ #[.bl (g i j),H,I,Z,q]]
def a19(i j:Int):Prop:=0<=j/\j<=1000000/\i.natAbs<2^64
def cM:eJ X (binaryOp .Add) (nk λi j=>.int (i+j)):=W0 λ_ _ _ _ _ _ _ q=>add_int q
def ip:eJ X (binaryOp .Sub) (nk λi j=>.int (i-j)):=W0 λ_ _ _ _ _ _ _ q=>sub_int q
def vT:eJ X (binaryOp .Mod) (rI (λ_ j=>0<j) λi j=>.int (i%j)):=CM λi j _ _ _ _ _ hc q=>by let h1:(0:Int)<j:=hc;erw[mod_int' (j4 h1) (by rw[aT i (gT h1)];erw[q])]
def mx:eJ X (binaryOp .Pow) (rI a19 λi j=>.int (i^j.toNat)):=CM λ_ _ _ _ _ _ _ hc q=>pow_int_small hc.1 hc.2.1 hc.2.2 q
def unI{f:Value->Sem Value}{g:Int->Int} (rule:∀(i:Int)(t:Tok)(s:ah)(Q:Value->ah->Prop)(E:Value->ah->Prop),Q (.int (g i) s.toks) {s with toks:=s.toks+1}->wpAny (model X.prog X.w) X.A (f (.int i t)) Q E s): NQ X f (rU λi=>.int (g i)):=by intro ay s O H x v Q I rx h;let(i,rfl,q):=h;let(t,rfl):=rx;erw[rule i t s _ _ #[.int (g i),H,I.tok _,#[_,Z],q]]
def rH:NQ X (unaryOp .USub) (rU λi=>.int (-i)):=unI λ_ _ _ _ _ q=>neg_int q
def Mf{ay:By}{O:St}{H:Hp}{s:ah}{Q:VK}{k k':Bool}(I:Inv X ay O H s)(q:Q (.bl k) H)(e:k=k'):EP X ay O Q (.bool k') s:=by subst e;erw[.bl k,H,I,Z,q]
def jS:eJ X (compareOp .Lt) (nk λi j=>.bl (decide (i<j))):=AB λ_ _ _ _ _ _ _ q=>lt_int q
def Gj:eJ X (compareOp .LtE) (nk λi j=>.bl (decide (i<=j))):=AB λ_ _ _ _ _ _ _ q=>le_int q
def qh:eJ X (compareOp .Gt) (nk λi j=>.bl (decide (j<i))):=AB λ_ _ _ _ _ _ _ q=>gt_int q
def Gk:eJ X (compareOp .GtE) (nk λi j=>.bl (decide (j<=i))):=AB λ_ _ _ _ _ _ _ q=>ge_int q
def a7a:eJ X (compareOp .In) (λx y H Q=>∃i j,x= .str i/\y= .str j/\Q (.bl (!(Builtin.Str.occurrences j i 0 ⇑j 1).isEmpty)) H):=by intro ay s O H x y v u Q I rx ry h;let(i,j,rfl,rfl,q):=h;let(t,rfl):=rx;let(t',rfl):=ry;erw[in_str (Mf I q Z)]
def VY:eJ X (compareOp .Is) (λx y H Q=>y= .bP/\Q (.bl (decide (x= .bP))) H):=by intro ay s O H x y v u Q I rx ry h;let(rfl,q):=h;cases ry;erw[is_none_gen (Mf I q ?_)];cases x<;>first |(cases rx;rfl) |(let(t,rfl):=rx;rfl)
def qg:eJ X (compareOp .IsNot) (λx y H Q=>y= .bP/\Q (.bl (!decide (x= .bP))) H):=by intro ay s O H x y v u Q I rx ry h;let(rfl,q):=h;cases ry;erw[isnot_none_gen (Mf I q ?_)];cases x<;>first |(cases rx;rfl) |(let(t,rfl):=rx;rfl)
def eJ.or{r:R2}(h:eJ X f r)(h':eJ X f r'):eJ X f (λx y H Q=>r x y H Q\/r' x y H Q):=by
 intro ay s O H x y v u Q I rx ry q;rcases q with q|q
 ·erw[h ay s O H x y v u Q I rx ry q]
 ·erw[h' ay s O H x y v u Q I rx ry q]
def bc(b:Expr){op:CmpOp}(h: ~~~(op≠ .In))(h2: ~~~(op≠ .NotIn)):behindInMarks op b=false:=by
 let e1:(op==CmpOp.In)=false:=by cases op<;>first|rfl|erw[absurd rfl h]
 let e2:(op==CmpOp.NotIn)=false:=by cases op<;>first|rfl|erw[absurd rfl h2]
 cases b<;>simp[behindInMarks,e1,e2]
def fN{r:R2}(ho:eJ X (compareOp op) r)(ha:PE X a ta)(hb:PE X b tb)(hm:behindInMarks op b=false):PE X (.Compare a [op] [b] pos) (Cg r ta tb):=by intro ay s O H Q I h;erw[wpAny_Compare1 (Nr ha hb I h λv u s2 x y H2 I2 rx ry q=>ho ay s2 O H2 x y v u Q I2 rx ry q) hm]
inductive agP(Q:Bool->Hp->Prop)(x:V)(H':Hp):Prop |mk k(_:x= .bl k)(_:Q k H')
def Py(t:TE):TT:=λO H Q=>t O H λx H'=>agP Q x H'
def bL{r:R2}(ho:eJ X (compareOp op) r)(ha:PE X a ta)(hb:PE X b tb)(hm:behindInMarks op b=false):PT X (.Compare a [op] [b] pos) (Py (Cg r ta tb)):=by intro ay s O H Q I h;erw[wpAny_isTrue_Compare1 (bo (ha ay s O H _ I h) λv s1 #[x,H1,I1,r1,q1]=>bo (hb ay s1 O H1 _ I1 q1) λu s2 #[y,H2,I2,r2,q2]=>bo (ho ay s2 O H2 x y v u _ I2 r1 r2 q2) λc s3 #[z,H3,I3,r3,k,e,q3]=>?_) hm];subst e;cases r3;erw[vp #[H3,I3,q3]]
inductive a0T(r':R2)(tc:TE)(O:St)(Q:VK)(y:V)(z:V)(H3:Hp):Prop |mk k(_:z= .bl k)(_:(if k=true then tc O H3 λw' H4=>r' y w' H4 Q else Q (.bl false) H3))
def PJ(r r':R2)(ta tb tc:TE):TE:=λO H Q=>ta O H λx H1=>tb O H1 λy H2=>r x y H2 λz H3=>a0T r' tc O Q y z H3
def VJ{r:R2}(ho:eJ X (compareOp op) r)(qA:eJ X (compareOp yb) r')(ha:PE X a ta)(hb:PE X b tb)(hc:PE X c tc) (hm:lastMarks [op,yb] [b,c]=false:=by with_unfolding_all rfl):PE X (.Compare a [op,yb] [b,c] pos) (PJ r r' ta tb tc):=by intro ay s O H Q I h;erw[Compare_chain (bo (ha ay s O H _ I h) λv s1 #[x,H1,I1,r1,q1]=>chain_link (bo (hb ay s1 O H1 _ I1 q1) λu s2 #[y,H2,I2,r2,q2]=>bo (ho ay s2 O H2 x y v u _ I2 r1 r2 q2) λd s3 #[z,H3,I3,r3,k,e,q3]=>?_)) hm];subst e;cases r3;erw[vp ?_];cases k with |false=>erw[ite_ff #[.bl false,H3,I3,Z,q3]] |true=>erw[ite_tt (chain_last (bo (hc ay s3 O H3 _ I3 q3) λw' s4 #[z',H4,I4,r4,q4]=>qA ay s4 O H4 y z' u w' Q I4 r2 r4 q4))]
def a6n{r:R2}(ho:eJ X (compareOp op) r)(qA:eJ X (compareOp yb) r')(ha:PE X a ta)(hb:PE X b tb)(hc:PE X c tc) (hm:lastMarks [op,yb] [b,c]=false:=by with_unfolding_all rfl):PT X (.Compare a [op,yb] [b,c] pos) (Py (PJ r r' ta tb tc)):=by intro ay s O H Q I h;erw[isTrue_chain (bo (ha ay s O H _ I h) λv s1 #[x,H1,I1,r1,q1]=>test_link (bo (hb ay s1 O H1 _ I1 q1) λu s2 #[y,H2,I2,r2,q2]=>bo (ho ay s2 O H2 x y v u _ I2 r1 r2 q2) λd s3 #[z,H3,I3,r3,k,e,q3]=>?_)) hm];subst e;cases r3;erw[vp ?_];cases k with |false=>let(k',e',q'):=q3;cases e';erw[ite_ff #[H3,I3,q']] |true=>erw[ite_tt (test_last (bo (hc ay s3 O H3 _ I3 q3) λw' s4 #[z',H4,I4,r4,q4]=>bo (qA ay s4 O H4 y z' u w' _ I4 r2 r4 q4) λd' s5 #[z2,H5,I5,r5,k2,e2,q5]=>?_))];subst e2;cases r5;erw[vp #[H5,I5,q5]]
def NR(K:ag)(x:V)(H:Hp)(k:Bool):Prop:=match x with | .bP=>k=false | .bl b=>k=b | .int i=>k=(i !=0) | .str y=>⇑y<=sizeLine/\k=((⇑y:Int) !=0) | .Bw y=>y.size<=sizeLine/\k=((y.size:Int) !=0) | .ref p=>(∃xs,aK K H p xs/\k= !xs.isEmpty)\/(∃xs,aW K H p xs/\k= !xs.isEmpty)\/∃fO,H p=some (.dK fO)/\k= !fO.isEmpty |_=>False
def aao{fO:List (κ×V)}{vs:List (κ×Value)}(r:KV fO vs):(!vs.isEmpty)= !fO.isEmpty:=by cases r<;>rfl
def XM(r:Vals xs its):(!its.toArray.isEmpty)= !xs.isEmpty:=by cases r<;>simp
def yF:(sizeLine:Nat)<2^63:=by rw[Ig];decide
def a2u:agy X (λx H Q=>∃k,NR X.K x H k/\Q k H):=by intro ay s O H x v Q I rx h;let(k,e,q):=h;let hl:=yF;let hs:sizeLine=16777216:=Ig;cases x with |bP=>cases rx;let e':k=false:=e;subst e';erw[truthy_none #[H,I,q]] |bl b=>cases rx;let e':k=b:=e;subst e';erw[vp #[H,I,q]] |int i=>let(t,rfl):=rx;let e':k=(i !=0):=e;subst e';erw[PySem.P.truthy_int #[H,I,q]] |str y=>let(t,rfl):=rx;obtain⟨hy,e'⟩:⇑y<=sizeLine/\k=((⇑y:Int) !=0):=e;subst e';erw[PySem.P.truthy_str (ON (_S.Nc hy aw)) #[H,I.tok _,q]] |Bw y=>let(t,rfl):=rx;obtain⟨hy,e'⟩:y.size<=sizeLine/\k=((y.size:Int) !=0):=e;subst e';erw[W.truthy_bytes (cL hy aw) #[H,I.tok _,q]] |ref p=>
 cases rx;let e':(∃xs,aK X.K H p xs/\k= !xs.isEmpty)\/(∃xs,aW X.K H p xs/\k= !xs.isEmpty)\/∃fO,H p=some (.dK fO)/\k= !fO.isEmpty:=e;rcases e' with⟨xs,hx,e'⟩|⟨xs,hx,e'⟩|⟨fO,hx,e'⟩
 ·subst e'
  let(its,r,pl,hz):=I.list hx;let hlen:=⇑r;erw[wpAny_truthy_list pl.isList (by simp only[fL];lia) #[H,I.tok _,by rw[XM r];erw[q]]]
 ·subst e'
  let(its,r,pl,hz):=I.tuple hx;let hlen:=⇑r;erw[truthy_tuple pl (by simp only[fL];lia) #[H,I.tok _,by rw[XM r];erw[q]]]
 ·subst e'
  obtain⟨hz,hS,vs,r,m⟩:⇑fO<=sizeLine/\(p==sysModules)=false/\∃vs,KV fO vs/\s.heap.DictOf (KA X.prog X.w) p vs:=I.bD p _ hx;let hlen:⇑fO=vs.length:=Paired.length r;erw[wpAny_truthy_dict hS m aE #[H,I.tok _,by rw[aao r];erw[q]]] |_=>exact(show False from e).elim
def a6m(ha:PE X a ta)(he:∀whole,isTrue a X.env whole=(do let v<-whole;standAt a.pos;holding [v] (truthy v))): PT X a (λO H Q=>ta O H λx H'=>∃k,NR X.K x H' k/\Q k H'):=by intro ay s O H Q I h;erw[isTrue_plain (bo (ha ay s O H _ I h) λv s1 #[x,H1,I1,r1,q1]=>a2u ay s1 O H1 x v Q I1 r1 q1) (he _)]
def vals1(r:Vals [x] us):∃u,us=[u]/\RelV x u:=by cases r with |cons r1 r2=>cases r2;erw[_,rfl,r1]
def vals2(r:Vals [x,y] us):∃u w',us=[u,w']/\RelV x u/\RelV y w':=by cases r with |cons r1 r2=>cases r2 with |cons r3 r4=>cases r4;erw[xz,rfl,r1,r3]
def tj:gq X (.builtin "abs") (λxs H Q=>∃i,xs=[.int i]/\Q (.int (if i<0 then-i else i)) H):=by intro ay s O H xs us Q I r h;let(i,rfl,q):=h;let(u,rfl,t,rfl):=vals1 r;erw[call_abs_int λu tk=>#[.int (if i<0 then-i else i),H,I.tok _,#[_,Z],q]]
def Nl(hc:X.calm=true):gq X (.builtin "max") (λxs H Q=>∃i j,xs=[.int i,.int j]/\Q (.int (if j>i then j else i)) H):=by
 intro ay s O H xs us Q I r h;let(i,j,rfl,q):=h;let(u,w',rfl,(t,rfl),(t',rfl)):=vals2 r;erw[max_two_ints (I.ok.hd hc) λh' tk k=>#[_,H,I.kept k,?_,q]];by_cases hj:j>i
 ·rw[aR hj,aR hj];erw[ww]
 ·rw[aV hj,aV hj];erw[ww]
def Nk(hc:X.calm=true):gq X (.builtin "min") (λxs H Q=>∃i j,xs=[.int i,.int j]/\Q (.int (if j<i then j else i)) H):=by
 intro ay s O H xs us Q I r h;let(i,j,rfl,q):=h;let(u,w',rfl,(t,rfl),(t',rfl)):=vals2 r;erw[min_two_ints (I.ok.hd hc) λh' tk k=>#[_,H,I.kept k,?_,q]];by_cases hj:j<i
 ·rw[aR hj,aR hj];erw[ww]
 ·rw[aV hj,aV hj];erw[ww]
def Bv:gq X (.type "int") (λxs H Q=>(∃i,xs=[.int i]/\Q (.int i) H)\/∃k,xs=[.bl k]/\Q (.int (if k then 1 else 0)) H):=by
 intro ay s O H xs us Q I r h;rcases h with⟨i,rfl,q⟩|⟨k,rfl,q⟩
 ·let(u,rfl,t,rfl):=vals1 r
  erw[call_int_int #[.int i,H,I,#[_,Z],q]]
 ·let(u,rfl,r1):=vals1 r
  cases r1;erw[call_int_bool #[.int (if k then 1 else 0),H,I.tok _,#[_,Z],q]]
end
structure zG(h:Heap)(x dx C:Addr)(mA:bZ):Prop where
 obj:h.get? x=some (W.instObj C dx)
 ns:h.Ns1 dx mA
 ne:dx≠x
def KY{h:Heap}{dx:Addr}{mA:bZ}(n:h.Ns1 dx mA):∃od,h.get? dx=some od/\∀name,W.lookIn name od=some (mA name):=by
 let(o,es,ep,ho,hd,hk,_,hm):=n;erw[o,ho,λname=>?_];let e:=hm name;unfold nsFind findBy at e;rw[<-j00]at e;unfold W.lookIn;rw[hd];dsimp only;split
 ·rename_i y q
  rw[q]at e;erw[congrArg some e]
 ·rename_i q
  rw[q]at e;let a:es.toList.any (·.refKey)=false:=by rw[List.any_eq_false];intro y hy;let(z,t,abi):=hk y (Array.mem_toList_iff.mp hy);simp[DictEntry.refKey,abi]
  let a':¬es.toList.any (·.refKey)=true:=by rw[a];erw[ko]
  rw[aV a'];erw[congrArg some e]
def zG.look{C:Addr}(I:zG h x dx C mA):∃od,W.InstAt h x (W.instObj C dx) C (some od)/\∀name,W.lookIn name od=some (mA name):=let#[od,ho,hl]:=KY I.ns
 #[od,#[I.obj,wP,ho],hl]
section
variable {prog:ai}{w:World}{A:ak}{E:Value->ah->Prop}{s:ah}{K:ag}{x dx C f:Addr}{mA:bZ}{name:Str}{v:Value}
def get_map{expr:Bool}{Q:Value->ah->Prop}(X:K.In s.heap)(I:zG s.heap x dx C mA)(hg:W.plainGet K C name=true)(hh:W.hasDictIn K C=true) (ha:W.findIn K (.ref C) name=some none)(hv:mA name=some v)(hv':W.handedIn v=true)(h:Q v {s with toks:=s.toks+1}): wpAny (model prog w) A (getAttr (.ref x) name expr) Q E s:=by let(od,J,hl):=I.look;erw[W.get_value X J (a1n hg).1 (W.findObj_own hh ha Z (by rw[hl,hv])) hv' h]
def acr{Q:Value×List Value->ah->Prop}(X:K.In s.heap)(I:zG s.heap x dx C mA)(hg:W.plainGet K C name=true) (hf:W.findIn K (.ref C) name=some (some (.ref f)))(ht:W.isFn K (.ref f)=true)(hv:mA name=none)(h:Q (.ref f,[.ref x]) s): wpAny (model prog w) A (getMethod (.ref x) name pl) Q E s:=by let(od,J,hl):=I.look;erw[W.method_fn X J (a1n hg).1 (a1n hg).2 hf (gf.mp ht) (by show(W.lookIn name od).map (·.isSome)=some false;rw[hl,hv];rfl) h]
def a4I{ns:Ch}{Q:Unit->ah->Prop}(X:K.In s.heap)(I:zG s.heap x dx C mA) (hs:W.findIn K (.ref C) "__setattr__"=some (some (.builtin "object.__setattr__")))(hp:W.plainOver K C=true)(ht:W.takerIn K C name=some none)(hh:W.hasDictIn K C=true) (hw:PySem.Within mA ns)(B7:⇑ns<=sizeLine) (h:∀h',zG h' x dx C (λy=>if y=name then some v else mA y)->Heap.SameBut dx s.heap h'->Q () {s with heap:=h',toks:=s.toks+2}): wpAny (model prog w) A (setAttr (.ref x) name v) Q E s:=by let(od,J,hl):=I.look;erw[a1m X J hs (W.osa_open (s:={s with toks:=s.toks+1}) (r:=none) X J hp ht λb=>?_)];let(cd,hc,LV):=Ir hh;let hx:s.heap.get? x=some #[.ref C,some dx,.plain,#[]]:=I.obj;erw[aL (bU (aL (aL (O8 hx (aL (pN (s:={s with toks:=s.toks+1}) (Ip X hc) ?_))))))];rw[LV];erw[bU (a:=some dx) (aL (bU (aL ?_))),B,wpAny_nsSet1 (s:={s with toks:=s.toks+1}) I.ns λh' B9 kC=>?_];let(oD,esD,epD,LH,hdD,hcD):=B9.count (a1l name v hw);erw[aL (wpAny_lookBehind LH (by rw[hdD];erw[pastItsLine_dict (cL hcD (by rw[kY];erw[jv B7]))]) ?_),B,bU (h _ #[(kC.2 _ (m7 I.ne)).ao I.obj,B9,I.ne] kC)]
def a9j{R:Result->ah->Prop}{vs:BY}{kw:List (Str×Value)}(X:K.In s.heap)(hm:W.makesIn K C=true) (hi:W.findIn K (.ref C) "__init__"=some (some (.ref f)))(hf:W.typeIn K (.ref f)=some (.type "function")) (h:codeAny (model prog w) (A.under (.builtin "type.__call__" #[.ref C::vs,kw])) (.call (.ref f) #[.ref (s.heap.objs.size+1)::vs,kw]) (W.InitBack (s.heap.objs.size+1) R) {s with heap:=(s.heap.push W.emptyDict).push (W.instObj C s.heap.objs.size)}): codeAny (model prog w) A (.call (.ref C) #[vs,kw]) R s:=by let(hh,g,d,t,os):=s;erw[W.make_core (W.makes_of X hm) (a1o X hi) (λself=>W.bind_fn X self hf) (.inl Z) h]
end
def jh(f:Str)(v:V):List (Str×V)->List (Str×V) |[]=>[(f,v)] |(g,x)::r=>if g=f then(g,v)::r else(g,x)::jh f v r
theorem KW(f g:Str)(v:V):∀fs:List (Str×V),(jh f v fs).lookup g=if g=f then some v else fs.lookup g
 |[]=>by
  show List.lookup g [(f,v)]=_;by_cases h:g=f
  ·let hb:(g==f)=true:=gf.mpr h
   simp only[List.lookup,hb,aR h]
  ·let hb:(g==f)=false:=Od.mpr h
   simp only[List.lookup,hb,aV h] |(k,x)::r=>by
  let ih:=KW f g v r;rw[show jh f v ((k,x)::r)=(if k=f then(k,v)::r else(k,x)::jh f v r)from rfl];by_cases hk:k=f
  ·rw[aR hk]
   by_cases h:g=k
   ·let hb:(g==k)=true:=gf.mpr h
    simp only[List.lookup,hb,aR (h.ao hk)]
   ·let hb:(g==k)=false:=Od.mpr h
    simp only[List.lookup,hb,aV (λe:g=f=>h (e.ao hk.symm))]
  ·rw[aV hk]
   by_cases h:g=k
   ·let hb:(g==k)=true:=gf.mpr h
    simp only[List.lookup,hb,aV (λe:g=f=>hk (h.symm.ao e))]
   ·let hb:(g==k)=false:=Od.mpr h
    simp only[List.lookup,hb];erw[ih]
theorem Lh(f:Str)(v:V):∀fs:List (Str×V),f∈(jh f v fs).map (·.1)/\∀g,g∈fs.map (·.1)->g∈(jh f v fs).map (·.1)
 |[]=>#[by simp[jh],λg h=>by simp at h] |(k,x)::r=>by
  let(i1,i2):=Lh f v r;rw[show jh f v ((k,x)::r)=(if k=f then(k,v)::r else(k,x)::jh f v r)from rfl];by_cases hk:k=f
  ·rw[aR hk]
   subst hk;erw[by simp,λg h=>by simpa using h]
  ·rw[aV hk]
   erw[?_,λg h=>?_]
   ·rw[BV]
    erw[BU _ i1]
   ·rw[BV]at h⊢
    rcases dj.mp h with e|e
    ·erw[dj.mpr (.inl e)]
    ·erw[BU _ (i2 g e)]
theorem Xs(f:Str)(v:V):∀fs:List (Str×V),⇑(jh f v fs)<=fs.length+1
 |[]=>by simp[jh] |(k,x)::r=>by
  let ih:=Xs f v r;rw[show jh f v ((k,x)::r)=(if k=f then(k,v)::r else(k,x)::jh f v r)from rfl];by_cases hk:k=f
  ·rw[aR hk,kY,kY];lia
  ·rw[aV hk,kY,kY];lia
def tG.some_of{v:V}(r:tG (some v) o):∃u,o=some u/\RelV v u:=by cases o with |none=>exact(show False from r).elim |some u=>erw[u,Z,r]
def tG.none_of(r:tG none o):o=none:=by cases o with |none=>rfl |some u=>exact(show False from r).elim
def abW{v:V}(r:RelV v u):W.handedIn u=true:=by cases v with |bP=>cases(show u=Value.none from r);rfl |bl b=>cases(show u=Value.bool b from r);rfl |int i=>let(t,e):=(show∃t,u=Value.int i t from r);cases e;rfl |str x=>let(t,e):=(show∃t,u=Value.str x t from r);cases e;rfl |Bw b=>let(t,e):=(show∃t,u=Value.bytes b t from r);cases e;rfl |Hh b=>let(t,e):=(show∃t,u=Value.float b t from r);cases e;rfl |ref a=>cases(show u=Value.ref a from r);rfl |ty n=>cases(show u=Value.type n from r);rfl
section
variable {P:ai}{w:World}{H H':Hp}{h h':Heap}{a C dx:Addr}{fs mF:List (Str×V)}
def Lu(bD:fF P w H h)(e:H a=some (.ins C dx fs)):∃mA,zG h a dx C mA/\(∀f,tG (fs.lookup f) (mA f))/\PySem.Within mA (fs.map (·.1))/\⇑fs<=1000/\H dx=some (.own a):=by let(d,z,ne,ob,mA,n,r,q):=(show gQ P w H h a (.ins C dx fs)from bD a _ e);erw[mA,#[ob,n,ne],r,q,z,d]
end
structure nV(K:ag)(C:Addr):Prop where
 pg:W.plainGet K C Str.empty=true
 hd:W.hasDictIn K C=true
 po:W.plainOver K C=true
 sa:W.findIn K (.ref C) "__setattr__"=some (some (.builtin "object.__setattr__"))
def nV.get{K:ag}{C:Addr}(c:nV K C)(f:Str):W.plainGet K C f=true:=c.pg
def kU(K:ag)(C:Addr)(f:Str):Prop:=W.findIn K (.ref C) f=some none
def kU.a2G{K:ag}{C:Addr}(n:kU K C f):W.takerIn K C f=some none:=by unfold W.takerIn;rw[show W.findIn K (.ref C) f=some none from n];rfl
structure Meth(K:ag)(C:Addr)(m:Str)(f:Addr):Prop where
 at_:W.findIn K (.ref C) m=some (some (.ref f))
 fn:W.isFn K (.ref f)=true
 kp:W.keepIn K (.ref f)=true
section
variable {X:Cx}{ay:By}{O:St}{H:Hp}{s:ah}{a C dx:Addr}{fs:List (Str×V)}{f:Str}{v:V}{A:ak}{E:Value->ah->Prop}
def Yo{b:Bool}{Q:Value->ah->Prop}(I:Inv X ay O H s)(e:H a=some (.ins C dx fs))(c:nV X.K C)(n:kU X.K C f)(l:fs.lookup f=some v) (h:∀u s',Inv X ay O H s'->RelV v u->Q u s'):wpAny (model X.prog X.w) A (getAttr (.ref a) f b) Q E s:=by let(mA,akt,r,_,_,_):=Lu I.bD e;let(u,hu,ru):=tG.some_of (v:=v) (o:=mA f) (by rw[<-l];erw[r f]);erw[get_map I.gb akt (c.get f) c.hd n hu (abW ru) (h u _ (I.tok _) ru)]
def Yn{Q:Value×List Value->ah->Prop}(I:Inv X ay O H s)(e:H a=some (.ins C dx fs))(c:nV X.K C)(k:Meth X.K C m g)(l:fs.lookup m=none) (h:Q (.ref g,[.ref a]) s):wpAny (model X.prog X.w) A (getMethod (.ref a) m pl) Q E s:=by let(mA,akt,r,_,_,_):=Lu I.bD e;let hn:mA m=none:=tG.none_of (by rw[<-l];erw[r m]);erw[acr I.gb akt (c.get m) k.at_ k.fn hn h]
def QC{y:V}{u:Value}{Q:Unit->ah->Prop}(I:Inv X ay O H s)(e:H a=some (.ins C dx fs))(c:nV X.K C)(n:kU X.K C f)(hl:⇑fs<1000)(ry:RelV y u) (h:∀s',Inv X ay O (bn H a (.ins C dx (jh f y fs))) s'->Q () s'):wpAny (model X.prog X.w) A (setAttr (.ref a) f u) Q E s:=by
 let(mA,akt,r,wi,_,ho):=Lu I.bD e;let hz:⇑(fs.map (·.1))<=sizeLine:=by rw[bC,Ig];erw[cw (dJ hl aw)]
 erw[a4I I.gb akt c.sa c.po n.a2G c.hd wi hz λh' O' sb=>h _ ?_];let hd:∃o,h'.get? dx=some o:=let#[o,xz,e',_]:=O'.ns;#[o,e'];erw[I.write (x:=a) (e:=dx) (by rw[e];erw[True.intro]) (.inr ho) (λb q hb z=>(sb.2 b hb).ao z) hd ?_,B,by rw[aU akt.ne];erw[ho],?_,akt.ne,O'.obj,_,O'.ns,λg=>?_,λg hg=>?_]
 ·have:=Xs f y fs;lia
 ·show tG ((jh f y fs).lookup g) (if g=f then some u else mA g)
  rw[KW];by_cases q:g=f
  ·rw[aR q,aR q];erw[ry]
  ·rw[aV q,aV q];erw[r g]
 ·by_cases q:g=f
  ·rw[q];exact(Lh f y fs).1
  ·refine(Lh f y fs).2 g (wi g λz=>hg ?_)
   show(if g=f then some u else mA g)=none;rw[aV q];erw[z]
def Inv.made(I:Inv X ay O H s):Inv X ay O (bn (bn H s.heap.objs.size (.own (s.heap.objs.size+1))) (s.heap.objs.size+1) (.ins C s.heap.objs.size [])) {s with heap:=(s.heap.push W.emptyDict).push (W.instObj C s.heap.objs.size)}:=by
 let e1:(s.heap.push W.emptyDict).get? s.heap.objs.size=some W.emptyDict:=fX s.heap rfl;let e2:((s.heap.push W.emptyDict).push (W.instObj C s.heap.objs.size)).get? (s.heap.objs.size+1)=some (W.instObj C s.heap.objs.size):=by have:=fX (s.heap.push W.emptyDict) (o:=W.instObj C s.heap.objs.size) rfl;rwa [tR]at this
 let e3:(s.heap.push W.emptyDict).Ns s.heap.objs.size (λ_=>none):=#[W.emptyDict,#[],_,e1,Z,(λe he=>absurd he (by simp)),λ_=>rfl];let I1:=I.laid (a:=s.heap.objs.size) (o:=.own (s.heap.objs.size+1)) (h':=s.heap.push W.emptyDict) (t':=s.toks) (λb u q=>cR _ q) (aZ _) #[_,e1];erw[I1.laid (a:=s.heap.objs.size+1) (o:=.ins C s.heap.objs.size []) (t':=s.toks) (λb u q=>cR _ q) (m9 (tR _ _)) ?_];let ne:s.heap.objs.size≠s.heap.objs.size+1:=fo (a1y _);erw[by rw[aU ne,bQ],fR _,ne,e2,λ_=>none,(j08 e3).at λo q=>cR _ q,λ_=>True.intro,λy hy=>absurd rfl hy]
def a0p{prog:ai}{w:World}{env:Env}{e:Expr}{f:Str}{pos:Pos}{s:ah}{Q:Value->ah->Prop}(hb:attributeBase e f env (eval e env)=eval e env) (h:wpAny (model prog w) A (eval e env) (λo s₁=>wpAny (model prog w) A (getAttr o f true) Q E s₁) E s):wpAny (model prog w) A (eval (.Attribute e f pos) env) Q E s:=Attribute_any_ h (by rw[arm_eval_Attribute,hb])
end
def aiK(X:Cx)(op:Operator)(rd:V->V->Hp->VK->Prop):Prop:=∀(ay:By)(s:ah)(O:St)(H:Hp)(x y:V)(u v:Value)(Q:VK),Inv X ay O H s->RelV x u->RelV y v->rd x y H Q->wpAny (model X.prog X.w) X.A (inplaceOp op u v) (EP X ay O Q) X.xe s
structure dI(k:Nat)(A:ak):Prop where
 hd:A.handled=none
 dp:A.depth+3*k+5<recursionLimit
 un:A.units+16*k+200<cLine
def dI.sK(r:dI k A)(h:j<=k):dI j A:=#[r.hd,by have:=r.dp;lia,by have:=r.un;lia]
theorem dI.deeper(r:dI (k+1) A)(env:Env):dI k (A.deeper env):=#[r.hd,by have:=r.dp;show A.depth+1+3*k+5<_;lia,by have:=r.un;show A.units+3+16*k+200<_;lia]
def a9k{A:ak}{C:Addr}{us:BY}{kw:List (Str×Value)}:(A.under (.builtin "type.__call__" #[.ref C::us,kw])).depth=A.depth+1:=by first|rfl|simp[Around.under,Code.weight,Code.isCreation,Code.isGuard,Code.isCaller,Code.frames,Code.isFrame,guardIds]
def a9i{A:ak}{C:Addr}{us:BY}{kw:List (Str×Value)}:(A.under (.builtin "type.__call__" #[.ref C::us,kw])).units=A.units+1:=by first|rfl|simp[Around.under,Code.cUnits,Code.frames,Code.isFrame]
def dI.make(r:dI (k+1) A)(C:Addr)(us:BY)(kw:List (Str×Value)):dI k (A.under (.builtin "type.__call__" #[.ref C::us,kw])):=#[r.hd,by have:=r.dp;rw[a9k];omega,by have:=r.un;rw[a9i];omega]
theorem dI.depth(r:dI k A):A.depth<recursionLimit:=by have:=r.dp;lia
theorem dI.units(r:dI k A):A.units+64<cLine:=by have:=r.un;lia
def A8:TA:=λ_ H Q=>Q [] H
def a37(ta:TE)(tr:TA):TA:=λO H Q=>ta O H λx H1=>tr O H1 λxs H2=>Q (x::xs) H2
section
variable {X:Cx}{e:Expr}{es:Cn}{te:TE}{t:TA}{pos:Pos}
def az:PA X [] A8:=λ_ _ _ _ H Q I h=>Calls.spliced_nil #[[],H,I,.nil,h]
def au(ha:PE X e te)(hr:PA X es t)(hs:↥(starEach (e::es) X.env=(false,eval e X.env)::starEach es X.env)):PA X (e::es) (a37 te t):=by intro pos ay s O H Q I h;rw[hs];show wpAny _ _ (spliced ((false,eval e X.env)::backTo pos (starEach es X.env))) _ _ s;erw[Calls.spliced_cons (bo (ha ay s O H _ I h) λu s1 #[x,H1,I1,r1,q1]=>?_),B,bo (hr pos ay s1 O H1 _ I1 q1) λus s2 #[xs,H2,I2,r2,q2]=>#[x::xs,H2,I2,.cons r1 r2,q2]]
end
abbrev Sp:=List V->Hp->VK->XK->Prop
abbrev mO:=List Env->Hp->ah->XK->Value->ah->Prop
structure vn(P:ai)(w:World)(K:ag)(mg:bZ)(aB:Heap)(A:ak)(outer:Cl)(s:ah)(H:Hp):Prop where
 frames:A.frames=some outer
 mod:Mod K mg aB
 bs:∀b o,aB.get? b=some o->s.heap.get? b=some o/\H b=none
 oQ:aB.objs.size<=s.heap.objs.size
 lQ:s.heap.FunFrames aB outer
 qG:∀b∈gG outer,H b=none
 bD:fF P w H s.heap
 bare:AllBare s.gens
def CE(outer:Cl)(P:ai)(w:World)(H:Hp)(s:ah)(Q:VK)(u:Value)(s':ah):Prop:=∃v H',s'.os=s.os/\AllBare s'.gens/\Un (gG outer) [] H H' s.heap s'.heap/\fF P w H' s'.heap/\RelV v u/\Q v H'
def CR(CX:mO)(outer:Cl)(P:ai)(w:World)(H:Hp)(s:ah)(Q:VK)(E:XK)(r:Result)(s':ah):Prop:=match r with | .ok (.ret u)=>CE outer P w H s Q u s' | .ok _=>False | .error e=>CX outer H s E e s'
structure iX(P:ai)(w:World)(K:ag)(mg:bZ)(aB:Heap)(CX:mO)(k:Nat)(f:Addr)(fd:FuncData)(ps:Ch)(sp:Sp):Prop where
 len:∀vs H Q E,sp vs H Q E->⇑vs=ps.length
 run:∀(A:ak)(outer:Cl)(s:ah)(H:Hp)(args:Args)(us:BY)(vs:AT)(Q:VK)(E:XK),dI k A->vn P w K mg aB A outer s H->BindsTo s fd args (ps.zip us)->Vals vs us->sp vs H Q E->codeAny (model P w) A (.call (.ref f) args) (CR CX outer P w H s Q E) s
def vn.make{P:ai}{w:World}{K:ag}{mg:bZ}{aB:Heap}(e:vn P w K mg aB A outer s H)(C:Addr)(us:BY)(kw:List (Str×Value)): vn P w K mg aB (A.under (.builtin "type.__call__" #[.ref C::us,kw])) outer s H:=#[by first|erw[e.frames]|(simpa[Around.under,Code.envs,Code.isFrame,pushEnvs]using e.frames),e.mod,e.bs,e.oQ,e.lQ,e.qG,e.bD,e.bare]
section
variable {X:Cx}{ay:By}{O:St}{H:Hp}{s s':ah}
def Inv.DZ(I:Inv X ay O H s):vn X.prog X.w X.K X.mg X.aB X.A X.stack s H:=#[I.ok.frames,I.ok.mod,I.bs,cL I.ok.oQ I.sz,I.stack,I.FO,I.bD,I.bare]
def Inv.after(I:Inv X ay O H s)(h:CE X.stack X.prog X.w H s Q u s'):EP X ay O Q u s':=by let(v,H',os,bare,un,bD,r,q):=h;let(hh,g,d,t,Gi):=s';obtain rfl:Gi=s.os:=os;erw[v,H',I.call (h':=hh) (g':=g) (d':=d) (t':=t) (ch:=[]) un bD bare (λb z=>absurd z (by simp)),r,q]
end
def a39(sp:Sp)(dvs:AT)(E:XK)(t:TA):TE:=λO H Q=>t O H λvs H1=>sp (vs++dvs) H1 Q E
inductive HS(C:Addr)(m:Str)(sp:Sp)(dvs:AT)(E:XK)(t:TA)(O:St)(Q:VK)(x:V)(H1:Hp):Prop |mk a dx fs(_:x= .ref a)(_:H1 a=some (.ins C dx fs))(_:fs.lookup m=none)(_:t O H1 λvs H2=>sp (x::(vs++dvs)) H2 Q E)
def PD(C:Addr)(m:Str)(sp:Sp)(dvs:AT)(E:XK)(ta:TE)(t:TA):TE:=λO H Q=>ta O H λx H1=>HS C m sp dvs E t O Q x H1
def a2Y(C:Addr)(sp:Sp)(dvs:AT)(E:XK)(t:TA):TE:=λO H Q=>t O H λvs H1=>∀x dx,H1 x=none->H1 dx=none->dx≠x->sp (.ref x::(vs++dvs)) (bn (bn H1 dx (.own x)) x (.ins C dx [])) (λv H2=>v= .bP/\Q (.ref x) H2) E
def Binds(K:ag)(fd:FuncData)(ps:Ch)(ds:BY):Prop:=∀(s:ah)(us:BY),K.In s.heap->⇑(us++ds)=ps.length->BindsTo s fd #[us,[]] (ps.zip (us++ds))
def Binds.all{K:ag}(h:∀us:BY,⇑us=ps.length->bindArgs fd #[us,[]]=pure (ps.zip us)):Binds K fd ps []:=λs us _ hl=>by rw[o8]at hl⊢;erw[.of_eq (h us hl)]
def Passes(CX:mO)(X:Cx)(E:XK):Prop:=∀(ay:By)(O:St)(H:Hp)(s:ah)(e:Value)(s':ah),Inv X ay O H s->CX X.stack H s E e s'->X.xe e s'
section
variable {X:Cx}{CX:mO}{k:Nat}{f C:Addr}{fd:FuncData}{ps:Ch}{sp:Sp}{dvs:AT}{ds:BY}{E:XK}{x m:Str}{p pos apos:Pos}{e o:Expr}{es:Cn}{ta:TE}{t:TA}
def JF{ay:By}{O:St}{H:Hp}{s:ah}{Q:VK}{us:BY}{vs:AT}(F:iX X.prog X.w X.K X.mg X.aB CX k f fd ps sp)(hr:dI k X.A)(hb:Binds X.K fd ps ds)(hd:Vals dvs ds)(hx:Passes CX X E) (I:Inv X ay O H s)(r:Vals vs us)(h:sp (vs++dvs) H Q E):wpAny (model X.prog X.w) X.A (call (.ref f) us) (EP X ay O Q) X.xe s:=by
 let r2:Vals (vs++dvs) (us++ds):=r.append hd;let hl:⇑(us++ds)=ps.length:=by rw[<-⇑r2];erw[F.len _ _ _ _ h]
 erw[xj (zO (F.run X.A X.stack s H #[us,[]] (us++ds) (vs++dvs) Q E hr I.DZ (hb s us I.gb hl) r2 h) λr s' hq=>?_)];cases r with |error e=>erw[hx ay O H s e s' I hq] |ok fl=>cases fl with |ret u=>erw[I.after hq] |next=>erw[False.elim hq] |brk=>erw[False.elim hq] |cont=>erw[False.elim hq]
def a6R(F:iX X.prog X.w X.K X.mg X.aB CX k f fd ps sp)(hr:dI k X.A)(hg:Gl X x)(hm:X.mg x=some (.ref f))(hk:W.keepIn X.K (.ref f)=true)(hb:Binds X.K fd ps ds)(hd:Vals dvs ds)(hx:Passes CX X E) (ha:PA X (e::es) t)(jU: ~~~((x==("__debug__":Str))=false))(he:↥(starEach (e::es) X.env=(false,eval e X.env)::starEach es X.env))(ib:↥((backTo pos (starEach es X.env)).any (·.1)=false)): PE X (.Call (.Name x p) (e::es) [] pos) (a39 sp dvs E t):=by intro ay s O H Q I h;erw[ER (yG I hg hm ?_ jU),B,Iq (h₀:=X.aB) I.ok.mod.sF hk (bo (ha pos ay s O H _ I h) λus s1 #[vs,H1,I1,r,q]=>#[I1.gb,?_]) he ib,B,JF F hr hb hd hx I1 r q]
def a6L(he:PE X o ta)(c:nV X.K C)(hm:Meth X.K C m f)(F:iX X.prog X.w X.K X.mg X.aB CX k f fd ps sp)(hr:dI k X.A)(hb:Binds X.K fd ps ds)(hd:Vals dvs ds)(hx:Passes CX X E)(ha:PA X (e::es) t) (iI:↥(starEach (e::es) X.env=(false,eval e X.env)::starEach es X.env))(ib:↥((backTo pos (starEach es X.env)).any (·.1)=false)) (ht:↥(eval (.Call (.Attribute o m apos) (e::es) [] pos) X.env=(do
 let ov<-eval o X.env
 standAt apos.atName
 let(f,first)<-holding [ov] (getMethod ov m pl)
 callWith pos f first (backTo pos (starEach (e::es) X.env)) (backToKw pos (keywordEach [] X.env))))): PE X (.Call (.Attribute o m apos) (e::es) [] pos) (PD C m sp dvs E ta t):=by
 intro ay s O H Q I h;erw[j0g (pl:=pl) (bo (he ay s O H _ I h) λu s1 #[x,H1,I1,rx,a,dx,fs,ex,ea,l,q]=>?_) ht];subst ex;obtain rfl:u=Value.ref a:=rx;erw[Yn I1 ea c hm l ?_,B,Iq (first:=[.ref a]) (h₀:=X.aB) I.ok.mod.sF hm.kp (bo (ha pos ay s1 O H1 _ I1 q) λus s2 #[vs,H2,I2,r,q2]=>#[I2.gb,?_]) iI ib,B,JF (us:=.ref a::us) (vs:=.ref a::vs) F hr hb hd hx I2 (.cons Z r) q2]
def a6K(he:PE X o ta)(c:nV X.K C)(hm:Meth X.K C m f)(F:iX X.prog X.w X.K X.mg X.aB CX k f fd ps sp)(hr:dI k X.A)(hb:Binds X.K fd ps ds)(hd:Vals dvs ds)(hx:Passes CX X E) (ht:↥(eval (.Call (.Attribute o m apos) [] [] pos) X.env=(do
 let ov<-eval o X.env
 standAt apos.atName
 let(f,first)<-holding [ov] (getMethod ov m pl)
 callWith pos f first (backTo pos (starEach [] X.env)) (backToKw pos (keywordEach [] X.env))))): PE X (.Call (.Attribute o m apos) [] [] pos) (PD C m sp dvs E ta A8):=by
 intro ay s O H Q I h;erw[j0g (pl:=pl) (bo (he ay s O H _ I h) λu s1 #[x,H1,I1,rx,a,dx,fs,ex,ea,l,q]=>?_) ht];subst ex;obtain rfl:u=Value.ref a:=rx;erw[Yn I1 ea c hm l ?_,B,W.callWith_K0 (first:=[.ref a]) I1.gb hm.kp (JF (us:=[.ref a]) (vs:=[.ref a]) F hr hb hd hx I1 (.cons rfl .nil) q)]
structure Mk(K:ag)(C f:Addr):Prop where
 makes:W.makesIn K C=true
 init:W.findIn K (.ref C) "__init__"=some (some (.ref f))
 fn:W.isFn K (.ref f)=true
 kp:W.keepIn K (.ref C)=true
def a5l{ay:By}{O:St}{H:Hp}{s:ah}{Q:VK}{us:BY}{vs:AT}(M:Mk X.K C f)(F:iX X.prog X.w X.K X.mg X.aB CX k f fd ps sp)(hr:dI (k+1) X.A)(hb:Binds X.K fd ps ds)(hd:Vals dvs ds) (hx:Passes CX X E)(I:Inv X ay O H s)(r:Vals vs us) (h:∀x dx,H x=none->H dx=none->dx≠x->sp (.ref x::(vs++dvs)) (bn (bn H dx (.own x)) x (.ins C dx [])) (λv H2=>v= .bP/\Q (.ref x) H2) E): wpAny (model X.prog X.w) X.A (call (.ref C) us) (EP X ay O Q) X.xe s:=by
 let hq:=h (s.heap.objs.size+1) s.heap.objs.size (I.bD.fresh (Iw _)) (I.bD.fresh (aZ _)) (fo (a1y _));let I2:=Inv.made (C:=C) I;let r2:Vals (V.ref (s.heap.objs.size+1)::(vs++dvs)) (Value.ref (s.heap.objs.size+1)::(us++ds)):=.cons Z (r.append hd);let hl:⇑(Value.ref (s.heap.objs.size+1)::us++ds)=ps.length:=by let e:=⇑r2;rw[F.len _ _ _ _ hq]at e;erw[e.symm]
 erw[xj (a9j (f:=f) I.gb M.makes M.init (gf.mp M.fn) (zO (F.run _ X.stack _ _ #[Value.ref (s.heap.objs.size+1)::us,[]] (Value.ref (s.heap.objs.size+1)::(us++ds)) _ _ E (hr.make C us []) (I2.DZ.make C us []) (hb _ (Value.ref (s.heap.objs.size+1)::us) I2.gb hl) r2 hq) λr s' jc=>?_))];cases r with |error e=>erw[hx ay O _ _ e s' I2 jc] |ok fl=>cases fl with |ret u=>let(v,H',I3,rv,ev,q3):=I2.after jc;subst ev;erw[rv,#[V.ref (s.heap.objs.size+1),H',I3,Z,q3]] |next=>erw[False.elim jc] |brk=>erw[False.elim jc] |cont=>erw[False.elim jc]
def a6M(M:Mk X.K C f)(F:iX X.prog X.w X.K X.mg X.aB CX k f fd ps sp)(hr:dI (k+1) X.A)(hg:Gl X x)(hm:X.mg x=some (.ref C))(hb:Binds X.K fd ps ds)(hd:Vals dvs ds)(hx:Passes CX X E) (ha:PA X (e::es) t)(jU: ~~~((x==("__debug__":Str))=false))(he:↥(starEach (e::es) X.env=(false,eval e X.env)::starEach es X.env))(ib:↥((backTo pos (starEach es X.env)).any (·.1)=false)): PE X (.Call (.Name x p) (e::es) [] pos) (a2Y C sp dvs E t):=by intro ay s O H Q I h;erw[ER (yG I hg hm ?_ jU),B,Iq (h₀:=X.aB) I.ok.mod.sF M.kp (bo (ha pos ay s O H _ I h) λus s1 #[vs,H1,I1,r,q]=>#[I1.gb,?_]) he ib,B,a5l M F hr hb hd hx I1 r q]
end
structure bA(N P:Ch)(sc:Scope):Prop where
 kind:sc.kind= .function
 co:sc.isCoroutine=false
 gen:sc.isGenerator=false
 nd:N.Nodup
 pre:N.take ⇑P=P
 par:∀x∈P,sc.names.lookup x=some .local\/sc.names.lookup x=some .cell
 a8E:∀y∈sc.names,y.2≠ .free
theorem a06{kindOf:Str->Option NameKind}{x:Str}:∀{binds:List (Str×Value)}{m:bZ},(∀v,(x,v)∉binds)->bindL kindOf binds m x=m x
 |[],_,_=>rfl |(n,v)::r,m,h=>by
  unfold bindL;rw[a06 λw hw=>h w (BU _ hw)];split
  ·have:x≠n:=by rintro rfl;erw[h v OH]
   simp[this]
  ·rfl
theorem a08{kindOf:Str->Option NameKind}{x:Str}:∀{binds:List (Str×Value)}{m:bZ},(∀v,(x,v)∉binds)->bindC kindOf binds m x=m x
 |[],_,_=>rfl |(n,v)::r,m,h=>by
  unfold bindC;rw[a08 λw hw=>h w (BU _ hw)];split
  ·rfl
  ·have:x≠n:=by rintro rfl;erw[h v OH]
   simp[this]
theorem a07{kindOf:Str->Option NameKind}{x:Str}{v:Value}:∀{P:Ch}{vs:BY}{i:Nat}{m:bZ},P.Nodup->P[i]? =some x->vs[i]? =some v->kindOf x=some .local->bindL kindOf (P.zip vs) m x=some v |[],_,_,_,_,h,_,_=>by simp at h |_::_,[],_,_,_,_,h,_=>by simp at h |p::P,w::vs,0,m,nd,h1,h2,hk=>by simp at h1 h2;subst h1;subst h2;show bindL kindOf ((p,w)::P.zip vs) m p=_;unfold bindL;rw[a06 λv hv=>(OD.mp nd).1 (BQ hv).1,aR hk];simp |p::P,w::vs,i+1,m,nd,h1,h2,hk=>by show bindL kindOf ((p,w)::P.zip vs) m x=_;unfold bindL;erw[a07 (i:=i) (OD.mp nd).2 (by simpa using h1) (by simpa using h2) hk]
theorem a09{kindOf:Str->Option NameKind}{x:Str}{v:Value}:∀{P:Ch}{vs:BY}{i:Nat}{m:bZ},P.Nodup->P[i]? =some x->vs[i]? =some v->kindOf x≠some .local->bindC kindOf (P.zip vs) m x=some v |[],_,_,_,_,h,_,_=>by simp at h |_::_,[],_,_,_,_,h,_=>by simp at h |p::P,w::vs,0,m,nd,h1,h2,hk=>by simp at h1 h2;subst h1;subst h2;show bindC kindOf ((p,w)::P.zip vs) m p=_;unfold bindC;rw[a08 λv hv=>(OD.mp nd).1 (BQ hv).1,aV hk];simp |p::P,w::vs,i+1,m,nd,h1,h2,hk=>by show bindC kindOf ((p,w)::P.zip vs) m x=_;unfold bindC;erw[a09 (i:=i) (OD.mp nd).2 (by simpa using h1) (by simpa using h2) hk]
def start(N:Ch)(vs:AT):St:=vs.map some++List.replicate (⇑N-vs.length) none
def jY(CX:mO)(P:ai)(w:World)(K:ag)(mg:bZ)(aB:Heap)(N:Ch)(qual:Str)(scope:Scope)(f:Addr)(cd:Value)(A:ak)(outer:Cl)(s:ah)(H:Hp)(E:XK):Cx where
 prog:=P
 w:=w
 K:=K
 mg:=mg
 aB:=aB
 A:=A.deeper (envOfC qual scope s.heap.objs.size f cd)
 N:=N
 s₀:=s
 H₀:=H
 env:=envOfC qual scope s.heap.objs.size f cd
 outer:=outer
 stack:=envOfC qual scope s.heap.objs.size f cd::outer
 ex:=[]
 calm:=true
 fn:=λ_=>true
 pn:=[]
 xe:=λe s'=>wpAny (model P w) (A.deeper (envOfC qual scope s.heap.objs.size f cd)) (leaving (envOfC qual scope s.heap.objs.size f cd) e) (λ_ Jx=>CX outer H s E e Jx) (λe' Jx=>CX outer H s E e' Jx) s'
def ZX{sc:Scope}{n:Nat}{x:Str}(h:sc.names.lookup x=some .cell):∃c,(cellsFrom n sc.names []).lookup x=some c:=by let q:=Om sc.names n [] (.inl h);erw[Option.isSome_iff_exists.mp q]
def Lp{CX:mO}{P:ai}{w:World}{K:ag}{mg:bZ}{aB:Heap}{N ps:Ch}{qual:Str}{scope:Scope}{f:Addr}{cd:Value}{A:ak}{outer:Cl}{s s1:ah}{H:Hp}{E:XK}{us:BY}{vs:AT} (S:bA N ps scope)(hd:A.handled=none)(e0:vn P w K mg aB A outer s H)(hl:⇑vs=ps.length)(r:Vals vs us) (x:InCallC s s.heap.objs.size (bindL (envOfC qual scope s.heap.objs.size f cd).kindOf (ps.zip us) λ_=>none) (cellsFrom (s.heap.objs.size+1) scope.names []) (bindC (envOfC qual scope s.heap.objs.size f cd).kindOf (ps.zip us) λ_=>none) s1): Inv (jY CX P w K mg aB N qual scope f cd A outer s H E) [] (start N vs) H s1:=by
 let ib:⇑ps<=N.length:=by have:=congrArg List.length S.pre;rw[kH]at this;lia
 let(h1,tk,rfl,hk):=x.done;let yj:∀b:Addr,b∉(jY CX P w K mg aB N qual scope f cd A outer s H E).ex:=λb z=>absurd (show b∈([]:DO)from z) (by simp);erw[#[e0.mod,S.kind,wP,aZ _,λy z c h1 h2=>?_,λy hy=>?_,λy c _ h=>?_,λ_=>hd,Go e0.frames,.inr #[Z,Z],λb z=>absurd z (yj b),e0.bs,e0.oQ,λb _ _=>yj b,λb z=>absurd z (yj b),e0.lQ,e0.qG],rfl,e0.bare,Un.kept hk,#[_,x.toInCall.ns,λi y v h1 h2 h3=>?_],λy c h=>#[_,x.cell y c h],e0.bD.fresh (aZ _),λy c h=>?_,λp hp=>absurd (show p∈([]:By)from hp) (by simp),e0.bD.kept hk,?_]
 ·erw[name_of_addr x.apart (Io h1) (Io h2)]
 ·let hy:scope.names.lookup y=some .cell\/scope.names.lookup y=some .free:=hy
  rcases hy with hy|hy
  ·erw[ZX hy]
  ·erw[absurd Z (S.a8E _ (Io hy))]
 ·erw[cw (x.above y c (Io h))]
 ·let hi:i<⇑vs:=by
   unfold start at h2;by_cases hi:i<⇑vs
   ·erw[hi]
   ·rw[oX (by simpa using hi)]at h2
    rw[OK]at h2;split at h2<;>cases h2
  let ha:vs[i]? =some v:=by unfold start at h2;rw[nZ (by simpa using hi),bV]at h2;cases e:vs[i]? with |none=>rw[e]at h2;cases h2 |some a=>rw[e]at h2;cases h2;rfl
  let(u,hu,rv):=r.get ha;let hp:ps[i]? =some y:=by rw[<-S.pre,List.getElem?_take_of_lt (jf hi hl)];erw[h1]
  let WI:ps.Nodup:=by rw[<-S.pre];erw[S.nd.sublist (List.take_sublist _ _)]
  erw[u,rv,?_];rcases S.par y (gA hp)with k|k
  ·erw[.inl #[k,a07 WI hp hu k]]
  ·let(c,e):=ZX (n:=s.heap.objs.size+1) k
   erw[.inr #[.inl k,c,e,?_]];let q:=x.cell y c e;rw[a09 WI hp hu (by show scope.names.lookup y≠_;rw[k];decide)]at q;erw[q]
 ·erw[e0.bD.fresh (cw (x.above y c (Io h)))]
 ·unfold start
  show _=⇑N;rw[cH,bC,BW]
  lia
def YB{P:ai}{w:World}{K:ag}{mg:bZ}{aB:Heap}{kV:Value}(lk:K.lookup f=some #[oc,od,.func (W.fnOf name qual params body scope dV kV doc pm an aO ct),gN])(gE:W.codeIn K aO qual=true)(S:bA N ps scope) (len:∀vs H Q E,sp vs H Q E->⇑vs=ps.length) (jV:∀(A:ak)(outer:Cl)(s:ah)(H:Hp)(vs:AT)(Q:VK)(E:XK),dI k (A.deeper (envOfC qual scope s.heap.objs.size f aO))->sp vs H Q E->∃t,iW (jY CX P w K mg aB N qual scope f aO A outer s H E) body t/\t {nx:=λ_ H'=>Q .bP H',rt:=Q} (start N vs) H): iX P w K mg aB CX (k+1) f (W.fnOf name qual params body scope dV kV doc pm an aO ct) ps sp:=by
 erw[len,λA outer s H args us vs Q E hr e0 hb r jb=>?_];let hl:=len _ _ _ _ jb;let KX:K.In s.heap:=e0.mod.sF.keeps λb o e=>(e0.bs b o e).1;let lim:s.heap.NoLimit:=e0.mod.nolimit.keeps λb o e=>(e0.bs b o e).1;let nJ:∀y∈ps.zip us,scope.names.lookup y.1=some .local\/(scope.names.lookup y.1=some .cell/\((cellsFrom (s.heap.objs.size+1) scope.names []).lookup y.1).isSome=true):=λ#[n,v] hy=>by
  rcases S.par n (BQ hy).1 with q|q
  ·erw[.inl q]
  ·erw[.inr #[q,Om _ _ _ (.inl q)]]
 erw[a1h hr.depth (KX _ _ lk) Z S.co S.gen Z (a1p KX gE) (hb _ _ _ _ ?_),B,a1c S.kind nJ λenv he s1 x=>?_];subst he;erw[lim.keeps x.toInCall.keep,codeAny_func ?_];let(t,ht,hq):=jV A outer s H vs Q E (hr.deeper _) jb;let I:Inv (jY CX P w K mg aB N qual scope f aO A outer s H E) [] (start N vs) H s1:=Lp S hr.hd e0 hl r x;erw[gr (ht [] s1 (start N vs) H _ I hq) (λfl s' hs=>?_) λe s' hs=>hs];let fin:∀{σ':St}{H':Hp}{v:V}{u:Value},Inv (jY CX P w K mg aB N qual scope f aO A outer s H E) [] σ' H' s'->RelV v u->Q v H'->CE outer P w H s Q u s':=λ{σ' H' v u} J rv q=>#[v,H',J.os,J.bare,J.aB,J.bD,rv,q];cases fl with |ret u=>let(v,σ',H',J,rv,q):=hs;erw[fin J rv q] |next=>let(σ',H',J,q):=hs;erw[fin (v:=V.bP) (u:=Value.none) J Z q] |brk=>let(_,_,_,q):=hs;erw[False.elim q] |cont=>let(_,_,_,q):=hs;erw[False.elim q]
section
variable {X:Cx}{x:Str}{p pos:Pos}{e:Expr}{es:Cn}{t:TA}{id T:String}{r:AT->Hp->VK->Prop}
def FG(r:AT->Hp->VK->Prop)(t:TA):TE:=λO H Q=>t O H λvs H1=>r vs H1 Q
def eR(hc:gq X (.builtin id) r)(hg:Gl X x)(hm:X.mg x=none)(hv:bootBuiltins x=some (.builtin id))(ha:PA X (e::es) t)(hn: ~~~(x≠"__name__"))(jU: ~~~((x==("__debug__":Str))=false)) (he:↥(starEach (e::es) X.env=(false,eval e X.env)::starEach es X.env))(ib:↥((backTo pos (starEach es X.env)).any (·.1)=false)):PE X (.Call (.Name x p) (e::es) [] pos) (FG r t):=by intro ay s O H Q I h;erw[ER (w6 I hg hm hv ?_ hn jU),B,PyProof.Rows.callWith_builtin1 (bo (ha pos ay s O H _ I h) λus s1 #[vs,H1,I1,r1,q1]=>hc ay s1 O H1 vs us Q I1 r1 q1) he ib]
def gY(hc:gq X (.type T) r)(hg:Gl X x)(hm:X.mg x=none)(hv:bootBuiltins x=some (.type T))(ha:PA X (e::es) t)(hn: ~~~(x≠"__name__"))(jU: ~~~((x==("__debug__":Str))=false)) (he:↥(starEach (e::es) X.env=(false,eval e X.env)::starEach es X.env))(ib:↥((backTo pos (starEach es X.env)).any (·.1)=false)):PE X (.Call (.Name x p) (e::es) [] pos) (FG r t):=by intro ay s O H Q I h;erw[ER (w6 I hg hm hv ?_ hn jU),B,EV (bo (ha pos ay s O H _ I h) λus s1 #[vs,H1,I1,r1,q1]=>hc ay s1 O H1 vs us Q I1 r1 q1) he ib]
end
end _L
namespace _H
open PySem PyProof.Rows
section
variable {prog:ai}{w:World}{A:ak}{E:Value->ah->Prop}{s:ah}
def cE(n d:Nat):Option Int->Nat |none=>d |some v=>if v<0 then(v+(n:Int)).toNat else min v.toNat n
def Ug (n d:Nat):cE n d none=d:=rfl
def Jn(n d k:Nat):cE n d (some (k:Int))=min k n:=by show(if(k:Int)<0 then((k:Int)+(n:Int)).toNat else min (k:Int).toNat n)=min k n;rw[aV (zY (cf _)),IE]
def a56(n d:Nat)(hd:d<=n)(o:Option Int):cE n d o<=n:=by cases o with |none=>erw[hd] |some v=>
 show(if v<0 then(v+(n:Int)).toNat else min v.toNat n)<=n;by_cases hv:v<0
 ·rw[aR hv];lia
 ·rw[aV hv];erw[Nat.min_le_right _ _]
def ZS(v:Int)(n d:Nat):(if v<0 then max (v+(n:Int)) 0 else min v (n:Int))=((cE n d (some v):Nat):Int):=by
 show(if v<0 then max (v+(n:Int)) 0 else min v (n:Int))=(((if v<0 then(v+(n:Int)).toNat else min v.toNat n):Nat):Int);by_cases hv:v<0
 ·simp only[aR hv];lia
 ·simp only[aV hv];lia
def ago(lo hi:Option Int)(n:Nat):Builtin.Slice.sliceAdjust lo hi 1 (n:Int)=(((cE n 0 lo:Nat):Int),((cE n n hi:Nat):Int)):=by
 let h1:¬((1:Int)<0):=aw;unfold Builtin.Slice.sliceAdjust;simp only[h1,if_false];erw[Prod.ext ?_ ?_]
 ·cases lo with |none=>rfl |some v=>erw[ZS v n 0]
 ·cases hi with |none=>rfl |some v=>erw[ZS v n n]
def a6B(i j:Nat):Builtin.Slice.slicePlaces (i:Int) (j:Int) 1=j-i:=by unfold Builtin.Slice.slicePlaces;let h1:(1:Int)>0:=aw;simp only[h1,xk,Int.ediv_one];split<;>lia
def Qx{v:Value}{o:Option Int}{Q:Option Int->ah->Prop}(p:IsPart v o)(h:Q o s):wpAny (model prog w) A (Builtin.Slice.slicePartIndex v) Q E s:=by cases p with |none=>erw[slicePart_none h] |int i t=>erw[slicePart_int h]
def a4y{sl:Addr}{vl vu:Value}{lo hi:Option Int}{n:Nat}{Q:Int×Int×Nat->ah->Prop}(hs:s.heap.IsSliceOf sl vl vu .none)(pl:IsPart vl lo)(pu:IsPart vu hi) (h:Q (((cE n 0 lo:Nat):Int),1,cE n n hi-cE n 0 lo) s):wpAny (model prog w) A (Builtin.Slice.sliceApplied (.ref sl) (pure (n:Int))) Q E s:=by let(os,lP,sI,wx):=id hs;unfold Builtin.Slice.sliceApplied Builtin.Slice.sliceFields;erw[aL (aL (kW lP wx (x:=vl) Z (aL (kW lP wx (x:=vu) Z (aL (kW lP wx (x:=.none) Z (bU ?_))))))),B,aL (slicePart_none ?_)];show wpAny _ _ (if((1:Int)==0)=true then _ else _) _ _ s;rw[aV aw];erw[aL (Qx pl (aL (Qx pu (aL (bU ?_)))))];show wpAny _ _ (match Builtin.Slice.sliceAdjust lo hi 1 (n:Int)with|(lo,hi)=>pure (lo,(1:Int),Builtin.Slice.slicePlaces lo hi 1)) _ _ s;rw[ago lo hi n];show wpAny _ _ (pure (((cE n 0 lo:Nat):Int),(1:Int),Builtin.Slice.slicePlaces ((cE n 0 lo:Nat):Int) ((cE n n hi:Nat):Int) 1)) _ _ s;rw[a6B];erw[bU h]
def a6C(xs:Array Value)(i k:Nat):((List.range k).filterMap λ(m:Nat)=>xs[((i:Int)+(m:Int)*1).toNat]?).toArray=((xs.toList.drop i).take k).toArray:=by
 let e:(λ(m:Nat)=>xs[((i:Int)+(m:Int)*1).toNat]?)=λm=>xs[i+m]?:=by
  funext m;have:((i:Int)+(m:Int)*1).toNat=i+m:=by lia
  rw[this]
 rw[e];have:=pick_run xs i k;rw[List.filterMap_map]at this;let e2:((λx=>xs[x]?)∘λx=>i+x)=λm=>xs[i+m]?:=rfl;rw[e2]at this;rw[this]
def acs{t sl:Addr}{items:Array Value}{vl vu:Value}{lo hi:Option Int}{Q:Value->ah->Prop}(ht:IsTup s.heap t items)(hs:s.heap.IsSliceOf sl vl vu .none)(pl:IsPart vl lo)(pu:IsPart vu hi) (hw:¬(cE items.size 0 lo=0/\cE items.size items.size hi=items.size)) (h:Q (.ref s.heap.objs.size) {s with heap:=s.heap.push {cls:=.type "tuple",data:=.seq ((items.toList.drop (cE items.size 0 lo)).take (cE items.size items.size hi-cE items.size 0 lo)).toArray}}) (B7:items.size<=sizeLine):wpAny (model prog w) A (getItem (.ref t) (.ref sl)) Q E s:=by
 let GN:sizeOk (.seq ((items.toList.drop (cE items.size 0 lo)).take (cE items.size items.size hi-cE items.size 0 lo)).toArray):=by show((items.toList.drop (cE items.size 0 lo)).take (cE items.size items.size hi-cE items.size 0 lo)).toArray.size<=sizeLine;rw[fL,kH,tO,Fe];omega
 let hj:cE items.size items.size hi<=items.size:=a56 _ _ (aZ _) hi;let(os,lP,sI,wx):=id hs;let hTs:s.TypeIs (.ref sl) "slice":=#[os,lP,sI];unfold getItem
 try with_reducible erw[oU ?_]
 first|erw[aL (bU ?_)]|skip
 erw[aL (wpAny_sequenceKey ht.typeIs aw ?_),B,aL (Ic (name:=Str.ofString "__getitem__") ht.typeIs a1s (Ib a1s ht.typeIs entry_tuple_getitem ?_ (args_tuple_getitem _ _)))];show wpAny _ _ (Builtin.Tuple.tupleItemsOf (.ref t)>>=_) _ _ s;erw[aL (tupleItemsOf_ ht ?_),B,aL (wpAny_typeOf hTs ?_)];rw[aR aw];erw[aL (a4y hs pl pu ?_)];let nI:¬((((cE items.size 0 lo:Nat):Int)==0&&(1:Int)==1&&(cE items.size items.size hi-cE items.size 0 lo)==items.size)=true):=by intro q;rw[gU,gU]at q;let q1:((cE items.size 0 lo:Nat):Int)=0:=eq_of_beq q.1.1;let q2:cE items.size items.size hi-cE items.size 0 lo=items.size:=eq_of_beq q.2;erw[hw #[bI,iY hj (_S.oM (j0f _ _) q2)]]
 show wpAny _ _ (if(((cE items.size 0 lo:Nat):Int)==0&&(1:Int)==1&&(cE items.size items.size hi-cE items.size 0 lo)==items.size)=true then _ else _) _ _ s;rw[aV nI,a6C]
 first |erw[aL (m:=Builtin.Tuple.tupleExact _) (tK (bU #[ww,bU h]) GN)] |erw[aL (m:=Builtin.Tuple.tupleExact _) (tK (aL (bU (bU #[ww,bU h]))) GN)] |erw[aL (aL (m:=Builtin.Tuple.tupleExact _) (tK (bU (bU #[ww,bU h])) GN))] |erw[aL (aL (m:=Builtin.Tuple.tupleExact _) (tK (bU #[ww,bU h]) GN))]
end
end _H
namespace _L
universe PySem
abbrev TO:=St->Hp->(Option Int->Hp->Prop)->Prop
def PO(X:Cx)(e:Option Expr)(t:TO):Prop:=∀(ay:By)(s:ah)(O:St)(H:Hp)(Q:Option Int->Hp->Prop),Inv X ay O H s->t O H Q->wpAny (model X.prog X.w) X.A (evalPart e X.env) (λu s'=>∃o H',Inv X ay O H' s'/\IsPart u o/\Q o H') X.xe s
def a2T:TO:=λ_ H Q=>Q none H
inductive agQ(Q:Option Int->Hp->Prop)(x:V)(H1:Hp):Prop |mk i(_:x= .int i)(_:Q (some i) H1)
def a2O(t:TE):TO:=λO H Q=>t O H λx H1=>agQ Q x H1
section
variable {X:Cx}{e:Expr}{te:TE}{lo hi:Option Expr}{tl th:TO}{pos p2:Pos}
def Aw:PO X none a2T:=by intro ay s O H Q I h;rw[evalPart_none];erw[bU #[none,H,I,.none,h]]
def Av(h:PE X e te):PO X (some e) (a2O te):=by intro ay s O H Q I hw;rw[evalPart_some];erw[bo (h ay s O H _ I hw) λu s1 #[x,H1,I1,r1,q1]=>?_];let(i,rfl,q):=q1;let(t,rfl):=r1;erw[some i,H1,I1,.int i t,q]
def HK(X:Cx)(r:V->Option Int->Option Int->Hp->VK->Prop):Prop:=∀(ay:By)(s:ah)(O:St)(H:Hp)(x:V)(v vl vu:Value)(lo hi:Option Int)(sl:Addr)(Q:VK),Inv X ay O H s->RelV x v->s.heap.IsSliceOf sl vl vu .none->IsPart vl lo->IsPart vu hi->r x lo hi H Q->∃T id,typeLookup (.type T) "__getitem__"=pure (some (.builtin id))/\s.TypeIs v T/\wpAny (model X.prog X.w) X.A (getItem v (.ref sl)) (EP X ay O Q) X.xe s
def tSl(r:V->Option Int->Option Int->Hp->VK->Prop)(te:TE)(tl th:TO):TE:=λO H Q=>te O H λx H1=>tl O H1 λl H2=>th O H2 λu H3=>r x l u H3 Q
def Ay{r:V->Option Int->Option Int->Hp->VK->Prop}(hr:HK X r)(he:PE X e te)(hl:PO X lo tl)(hu:PO X hi th):PE X (.Subscript e (.Slice lo hi none p2) pos) (tSl r te tl th):=by intro ay s O H Q I h;erw[Subscript_ (bo (he ay s O H _ I h) λv s1 #[x,H1,I1,r1,q1]=>?_),B,wpAny_Slice (bo (hl ay s1 O H1 _ I1 q1) λvl s2 #[l,H2,I2,pl,q2]=>bo (hu ay s2 O H2 _ I2 q2) λvu s3 #[u,H3,I3,pu,q3]=>?_)];rw[evalPart_none];erw[bU ?_];let I4:Inv X ay O H3 {s3 with heap:=s3.heap.push {cls:=.type "slice",data:=.fields (List.toArray [vl,vu,.none])}}:=I3.kept (t':=s3.toks) λb ob q=>cR _ q;let(T,id,hT,ht,hg):=hr ay {s3 with heap:=s3.heap.push {cls:=.type "slice",data:=.fields (List.toArray [vl,vu,.none])}} O H3 x v vl vu l u s3.heap.objs.size Q I4 r1 (Heap.IsSliceOf.new ..) pl pu q3;show wpAny (model X.prog X.w) X.A (subscriptTail e (.Slice lo hi none p2) v (.ref s3.heap.objs.size)) (EP X ay O Q) X.xe {s3 with heap:=s3.heap.push {cls:=.type "slice",data:=.fields (List.toArray [vl,vu,.none])}};erw[tail_any (ops:=[.ref s3.heap.objs.size,v]) ht hT hg (by with_unfolding_all rfl)]
def oP(xs:AT)(lo hi:Option Int):AT:=(xs.drop (_H.cE ⇑xs 0 lo)).take (_H.cE ⇑xs xs.length hi-_H.cE ⇑xs 0 lo)
def ZJ(xs:AT)(lo hi:Option Int):⇑(oP xs lo hi)<=xs.length:=by
 unfold oP;rw[kH,tO]
 lia
inductive ain(K:ag)(x:V)(lo:Option Int)(hi:Option Int)(H:Hp)(Q:VK):Prop |mk a xs(_:x= .ref a)(_:aW K H a xs)(_:¬(_H.cE ⇑xs 0 lo=0/\_H.cE ⇑xs xs.length hi=⇑xs))(_:∀p,H p=none->Q (.ref p) (bn H p (.tup (oP xs lo hi))))
def a64(K:ag):V->Option Int->Option Int->Hp->VK->Prop:=λx lo hi H Q=>ain K x lo hi H Q
def a4z:HK X (a64 X.K):=by
 intro ay s O H x v vl vu lo hi sl Q I rx hs pl pu h;let(a,xs,rfl,hx,hw,q):=h;cases rx;let(its,r,ht,hz):=I.tuple hx;let hlen:its.toArray.size=⇑xs:=by rw[fL];erw[r.length.symm]
 erw["tuple",_,a1s.lookup,ht.typeIs,?_,B,_H.acs ht hs pl pu (by rw[hlen];erw[hw]) ?_ (by rw[hlen];erw[hz])];rw[hlen];erw[.ref s.heap.objs.size,_,I.laid (t':=s.toks) (o:=.tup (oP xs lo hi)) (λb ob q=>cR _ q) (aZ _) ?_,Z,q _ (I.bD.fresh (aZ _)),B,cL (ZJ xs lo hi) hz,_,(r.drop (_H.cE ⇑xs 0 lo)).take (_H.cE ⇑xs xs.length hi-_H.cE ⇑xs 0 lo),IsTup.new _ _]
end
def iS(n:Nat)(i:Int):Option Nat:=if 0<=i then(if i<n then some i.toNat else none)else if-(n:Int)<=i then some (i+n).toNat else none
def fj{α:Type}(xs:List α)(i:Int):Option α:=(iS ⇑xs i).bind λj=>xs[j]?
def XF(h:iS n i=some j):seqIndex? i n=some j/\j<n/\-(n:Int)<=i/\i<n:=by
 unfold iS at h;by_cases h0:0<=i
 ·rw[aR h0]at h
  by_cases h1:i<n
  ·rw[aR h1]at h
   let e:i.toNat=j:=fm h;erw[by rw[seqIndex_of h0 h1,e],aE,aE,h1]
  ·rw[aV h1]at h;cases h
 ·rw[aV h0]at h
  by_cases h1:-(n:Int)<=i
  ·rw[aR h1]at h
   let e:(i+n).toNat=j:=fm h;erw[by rw[seqIndex_neg (Fc h0) h1,e],aE,h1,_S.Hy (Fc h0)]
  ·rw[aV h1]at h;cases h
def NK{v:α}(h:fj xs i=some v):∃j,seqIndex? i ⇑xs=some j/\xs[j]? =some v/\j<⇑xs/\-(⇑xs:Int)<=i/\i<⇑xs:=by unfold fj at h;cases e:iS ⇑xs i with |none=>rw[e]at h;cases h |some j=>rw[e]at h;let(h1,h2,h3,h4):=XF e;erw[j,h1,h,h2,h3,h4]
def agc{xs:List α}{j:Nat}{v:α}(h:xs[j]? =some v):fj xs (j:Int)=some v:=by
 let hj:j<⇑xs:=(ck.mp h).1;let e:iS ⇑xs (j:Int)=some j:=by unfold iS;rw[aR (cf _),aR (_S.hJ hj)];simp
 unfold fj;rw[e];erw[h]
def a0J(b:Expr):Prop:=∀o i,subscripted b false o i=operate [o,i] (getItem o i)
def vj(X:Cx)(r:R2):Prop:=∀(value slice:Expr)(ay:By)(s:ah)(O:St)(H:Hp)(x y:V)(v u:Value)(Q:VK),Inv X ay O H s->RelV x v->RelV y u->r x y H Q->subscripted slice false v u=operate [v,u] (getItem v u)->wpAny (model X.prog X.w) X.A (subscriptTail value slice v u) (EP X ay O Q) X.xe s
def MtR(X:Cx)(id:String)(r:V->AT->Hp->VK->Prop):Prop:=∀(ay:By)(s:ah)(O:St)(H:Hp)(x:V)(xs:AT)(v:Value)(us:BY)(Q:VK),Inv X ay O H s->RelV x v->Vals xs us->r x xs H Q->wpAny (model X.prog X.w) X.A (call (.builtin id) (v::us)) (EP X ay O Q) X.xe s
section
variable {X:Cx}{a b:Expr}{ta tb:TE}{pos:Pos}
def vj.or{r:R2}(h:vj X r)(h':vj X r'):vj X (λx y H Q=>r x y H Q\/r' x y H Q):=by
 intro value slice ay s O H x y v u Q I rx ry q hs;rcases q with q|q
 ·erw[h value slice ay s O H x y v u Q I rx ry q hs]
 ·erw[h' value slice ay s O H x y v u Q I rx ry q hs]
def VH{r:R2}(hr:vj X r)(ha:PE X a ta)(hb:PE X b tb)(hs:a0J b):PE X (.Subscript a b pos) (Cg r ta tb):=by intro ay s O H Q I h;erw[Subscript_ (Nr ha hb I h λv u s2 x y H2 I2 rx ry q=>hr a b ay s2 O H2 x y v u Q I2 rx ry q (hs _ _))]
inductive aix(K:ag)(x:V)(y:V)(H:Hp)(Q:VK):Prop |mk p xs i v(_:x= .ref p)(_:y= .int i)(_:aK K H p xs)(_:fj xs i=some v)(_:Q v H)
def JV(K:ag):R2:=λx y H Q=>aix K x y H Q
inductive aiv(K:ag)(x:V)(y:V)(H:Hp)(Q:VK):Prop |mk p xs i v(_:x= .ref p)(_:y= .int i)(_:aW K H p xs)(_:fj xs i=some v)(_:Q v H)
def JU(K:ag):R2:=λx y H Q=>aiv K x y H Q
inductive aiw(x:V)(y:V)(H:Hp)(Q:VK):Prop |mk z i c(_:x= .str z)(_:y= .int i)(_:⇑z<=sizeLine)(_:fj z.cps.toList i=some c)(_:Q (.str ⟨#[c]⟩) H)
def a69:R2:=λx y H Q=>aiw x y H Q
def aaj:vj X (JV X.K):=by
 intro value slice ay s O H x y v u Q I rx ry h hs;let(p,xs,i,z,rfl,rfl,hq,he,q):=h;cases rx;let(t,rfl):=ry;let(its,r,pl,hz):=I.list hq;let(j,h1,h2,h3,h4,h5):=NK he;let(w,ew,cV):=r.get h2;let hl:=⇑r;let hn:=yF;let fin:EP X ay O Q w s:=#[z,H,I,cV,q];by_cases h0:0<=i
 ·let hj:i.toNat=j:=by rw[seqIndex_of h0 h5]at h1;erw[fm h1]
  erw[item_listR pl.isList h0 (mT h5 (_S.Bu hz aw)) (by rw[hj];simpa using ew) fin hs]
 ·let hj:(i+(its.toArray.size:Int)).toNat=j:=by rw[seqIndex_neg (Fc h0) h4]at h1;rw[fL,<-hl];erw[fm h1]
  erw[subscriptTail_builtinR (x:=w) pl.isList.typeIs slot_list_getitem.lookup (wpAny_getItem_list_neg (Q:=λr s'=>r=w/\EP X ay O Q r s') pl.isList (Fc h0) (by rw[fL]<;>erw[fW (On (_S.qi (m9 hl))) h4]) aE (by rw[hj];simpa using ew) #[Z,fin]) hs]
def aah:vj X (JU X.K):=by intro value slice ay s O H x y v u Q I rx ry h hs;let(p,xs,i,z,rfl,rfl,hq,he,q):=h;cases rx;let(t,rfl):=ry;let(its,r,pl,hz):=I.tuple hq;let(j,h1,h2,h3,h4,h5):=NK he;let(w,ew,cV):=r.get h2;let hl:=⇑r;let hn:=yF;let fin:EP X ay O Q w s:=#[z,H,I,cV,q];erw[subscriptTail_builtinR (x:=w) pl.typeIs slot_tuple_getitem.lookup (getItem_tuple (j:=j) (Q:=λr s'=>r=w/\EP X ay O Q r s') pl aE (mT h5 (_S.Bu hz aw)) (by rw[fL,<-hl];erw[h1]) (by simpa using ew) #[Z,fin]) hs]
def aai:vj X a69:=by
 intro value slice ay s O H x y v u Q I rx ry h hs;let(z,i,c,rfl,rfl,hz,he,q):=h;let(t,rfl):=rx;let(t',rfl):=ry;let(j,h1,h2,h3,h4,h5):=NK he;let hl:⇑z.cps.toList=z.length:=by simp[Str.length]
 rw[hl]at h1 h4 h5;let hn:=yF;erw[tail_any (typeIs_str s z t) slot_str_getitem.lookup (getItem_str (c:=c) (by let e1:decide (i< -(2^63:Int))=false:=dh aE;let e2:decide (i>=2^63)=false:=dh (ON (mT h5 (_S.Bu hz aw)));rw[e1,e2,Bool.or_false]) (by rw[h1];simpa using h2) #[.str ⟨#[c]⟩,H,I.tok _,#[_,Z],q]) hs]
def a9h(its:BY)(n j:Nat)(u:Value):Obj.mapSeq (·.setIfInBounds j u) {cls:=.type "list",data:=.seq its.toArray n}={cls:=.type "list",data:=.seq (its.set j u).toArray n}:=by simp[Obj.mapSeq]
theorem Inv.bi{ay:By}{O:St}{H:Hp}{s:ah}{p:Addr}{xs:AT}(I:Inv X ay O H s)(h:H p=some (.bi xs)): ∃(its:BY)(n:Nat),Vals xs its/\s.heap.get? p=some {cls:=.type "list",data:=.seq its.toArray n}/\⇑xs<=sizeLine:=by let(z,its,n,r,e):=I.bD p _ h;erw[its,n,r,e,z]
def Inv.a9J{ay:By}{O:St}{H:Hp}{s:ah}{p:Addr}{xs ys:AT}{its its':BY}{n n':Nat}{f:Obj->Obj}(I:Inv X ay O H s)(h:H p=some (.bi xs)) (ho:s.heap.get? p=some {cls:=.type "list",data:=.seq its.toArray n})(hf:f {cls:=.type "list",data:=.seq its.toArray n}={cls:=.type "list",data:=.seq its'.toArray n'})(r:Vals ys its')(hz:⇑ys<=sizeLine)(t:Nat): Inv X ay O (bn H p (.bi ys)) {s with heap:=s.heap.update p f,toks:=t}:=by
 let e:(s.heap.update p f).get? p=some {cls:=.type "list",data:=.seq its'.toArray n'}:=by rw[IH f ho (by rw[hf]<;>rfl),hf]
 erw[I.write (x:=p) (e:=p) (by rw[h];trivial) (.inl Z) (λb u hb q=>(Fd _ _ (m7 hb)).ao q) #[_,e] ?_,B,hz,its',n',r,e]
inductive aiq(o:V)(i:V)(v:V)(H:Hp)(Q:Hp->Prop):Prop |mk p xs k j(_:o= .ref p)(_:i= .int k)(_:H p=some (.bi xs))(_:iS ⇑xs k=some j)(_:Q (bn H p (.bi (xs.set j v))))
def a67:V->V->V->Hp->(Hp->Prop)->Prop:=λo i v H Q=>aiq o i v H Q
def set_list:a0K X a67:=by
 intro ay s O H o i v ov iv u Q I ro ri rv h;let(p,xs,k,j,rfl,rfl,hp,hj,q):=h;cases ro;let(t,rfl):=ri;let(its,n,r,ho,hz):=I.bi hp;let(h1,h2,h3,h4):=XF hj;let hl:=⇑r;let hn:=yF;let I':Inv X ay O (bn H p (.bi (xs.set j v))) {s with heap:=s.heap.update p (Obj.mapSeq (·.setIfInBounds j u))}:=I.a9J hp ho (a9h its n j u) (r.set rv j) (by rw[xB];erw[hz]) s.toks;by_cases h0:0<=k
 ·let hk:k.toNat=j:=by rw[seqIndex_of h0 h4]at h1;erw[fm h1]
  erw[W.ki_setAt ho h0 (mT h4 (_S.Bu hz aw)) (by rw[fL,<-hl];erw[h4]) (by rw[hk];erw[_,I',q])]
 ·let hk:(k+(its.toArray.size:Int)).toNat=j:=by rw[seqIndex_neg (Fc h0) h3]at h1;rw[fL,<-hl];erw[fm h1]
  erw[W.ki_setBack ho (Fc h0) (by rw[fL,<-hl];erw[h3]) aE (by rw[hk];erw[_,I',q])]
def a4w(lo hi:Option Int)(n:Nat):(sliceBounds lo hi none n).1=((_H.cE n 0 lo:Nat):Int)/\(sliceBounds lo hi none n).2.1=((_H.cE n n hi:Nat):Int)/\(sliceBounds lo hi none n).2.2=1:=by
 erw[zn,Z]
 ·cases lo with |none=>simp[sliceBounds,_H.cE] |some i=>
  simp only[sliceBounds,_H.cE,j0n,show(1:Int)>0 by decide,xk];by_cases h:i<0
  ·simp only[h,xk]<;>lia
  ·simp only[h,if_false]<;>lia
 ·cases hi with |none=>simp[sliceBounds,_H.cE] |some i=>
  simp only[sliceBounds,_H.cE,j0n,show(1:Int)>0 by decide,xk];by_cases h:i<0
  ·simp only[h,xk]<;>lia
  ·simp only[h,if_false]<;>lia
def a4x(its:BY)(lo hi:Option Int):slicePick its.toArray lo hi none=((its.drop (_H.cE ⇑its 0 lo)).take (_H.cE ⇑its its.length hi-_H.cE ⇑its 0 lo)).toArray:=by let(h1,h2,h3):=a4w lo hi its.toArray.size;unfold slicePick;rw[h1,h2,h3];simp only[sliceRange_one,pick_run,fL]<;>rfl
inductive aio(K:ag)(x:V)(lo:Option Int)(hi:Option Int)(H:Hp)(Q:VK):Prop |mk a xs(_:x= .ref a)(_:aK K H a xs)(_:∀p,H p=none->Q (.ref p) (bn H p (.bi (oP xs lo hi))))
def a65(K:ag):V->Option Int->Option Int->Hp->VK->Prop:=λx lo hi H Q=>aio K x lo hi H Q
def a4A:HK X (a65 X.K):=by intro ay s O H x v vl vu lo hi sl Q I rx hs pl pu h;let(a,xs,rfl,hx,q):=h;cases rx;let(its,r,ht,hz):=I.list hx;let hlen:=⇑r;erw["list",_,slot_list_getitem.lookup,ht.isList.typeIs,?_,B,wpAny_getItem_list_slice ht.isList hs pl pu .none (by simp) ?_ (by rw[fL]<;>erw[_S.oM hz hlen])];rw[a4x,<-hlen];erw[.ref s.heap.objs.size,_,I.laid (t':=s.toks) (o:=.bi (oP xs lo hi)) (λb ob q=>cR _ q) (aZ _) ?_,Z,q _ (I.bD.fresh (aZ _)),B,cL (ZJ xs lo hi) hz,_,0,(r.drop (_H.cE ⇑xs 0 lo)).take (_H.cE ⇑xs xs.length hi-_H.cE ⇑xs 0 lo),fX _ Z]
def afI:gq X (.builtin "len") (λxs H Q=>∃p ys,xs=[.ref p]/\(aK X.K H p ys\/aW X.K H p ys)/\Q (.int ⇑ys) H):=by
 intro ay s O H xs us Q I r h;let(p,ys,rfl,hq,q):=h;let(u,rfl,rx):=vals1 r;cases rx;let hn:=yF;rcases hq with hq|hq
 ·let(its,r',pl,hz):=I.list hq
  let hlen:=⇑r';erw[Calls.call_len_list pl.isList (by simp only[fL]<;>lia) #[.int ⇑ys,H,I.tok _,#[s.toks+1,by rw[fL,hlen]],q]]
 ·let(its,r',pl,hz):=I.tuple hq
  let hlen:=⇑r';erw[len_tuple pl (by simp only[fL]<;>lia) #[.int ⇑ys,H,I.tok _,#[s.toks+1,by rw[fL,hlen]],q]]
def afH:gq X (.builtin "len") (λxs H Q=>∃z,xs=[.str z]/\⇑z<=sizeLine/\Q (.int ⇑z) H):=by intro ay s O H xs us Q I r h;let(z,rfl,hz,q):=h;let(u,rfl,t,rfl):=vals1 r;let hn:=yF;erw[len_str (ON (_S.Nc hz aw)) #[.int ⇑z,H,I.tok _,#[_,Z],q]]
def gq.or{r:AT->Hp->VK->Prop}(h:gq X f r)(h':gq X f r'):gq X f (λxs H Q=>r xs H Q\/r' xs H Q):=by
 intro ay s O H xs us Q I rs q;rcases q with q|q
 ·erw[h ay s O H xs us Q I rs q]
 ·erw[h' ay s O H xs us Q I rs q]
def afG:gq X (.type "list") (λxs H Q=>∃p ys,xs=[.ref p]/\(aK X.K H p ys\/aW X.K H p ys)/\∀l,H l=none->Q (.ref l) (bn H l (.bi ys))):=by
 intro ay s O H xs us Q I r h;let(p,ys,rfl,hq,q):=h;let(u,rfl,rx):=vals1 r;cases rx;let fin:∀(its:BY),Vals ys its->⇑ys<=sizeLine->∀(h':Heap)(c':Nat),(∀b o',s.heap.get? b=some o'->h'.get? b=some o')->h'.get? s.heap.objs.size=some {cls:=.type "list",dict:=none,data:=.seq its.toArray c',slots:=#[]}->EP X ay O Q (.ref s.heap.objs.size) {s with heap:=h'}:=λits r' hz h' c' kp e=>#[.ref s.heap.objs.size,_,I.laid (t':=s.toks) kp (aZ _) (show gQ X.prog X.w _ h' _ (.bi ys)from#[hz,its,c',r',e]),Z,q _ (I.bD.fresh (aZ _))];rcases hq with hq|hq
 ·let(its,r',pl,hz):=I.list hq
  let hlen:=⇑r';let(o,ho,hc,n,hd):=pl.isList;erw[call_list_seq p (.inl Z) ho hc hd (λh' c' kp e=>fin its r' hz h' c' kp e) (by simp only[fL]<;>erw[_S.oM hz hlen])]
 ·let(its,r',pl,hz):=I.tuple hq
  let hlen:=⇑r';let(o,ho,hc,n,hd):=pl;erw[call_list_seq p (.inr Z) ho hc hd (λh' c' kp e=>fin its r' hz h' c' kp e) (by simp only[fL]<;>erw[_S.oM hz hlen])]
def afD:gq X (.type "tuple") (λxs H Q=>∃p ys,xs=[.ref p]/\((aK X.K H p ys/\∀l,H l=none->Q (.ref l) (bn H l (.tup ys)))\/(aW X.K H p ys/\Q (.ref p) H))):=by
 intro ay s O H xs us Q I r h;let(p,ys,rfl,h):=h;let(u,rfl,rx):=vals1 r;cases rx;rcases h with⟨hq,q⟩|⟨hq,q⟩
 ·let(its,r',pl,hz):=I.list hq
  let hlen:=⇑r';erw[call_tuple_list pl.isList (λh' kp=>?_) (by simp only[fL]<;>erw[_S.oM hz hlen])];let I1:Inv X ay O H {s with heap:=h'}:=I.kept (t':=s.toks) kp;let I2:Inv X ay O (bn H h'.objs.size (.tup ys)) {s with heap:=h'.push {cls:=.type "tuple",data:=.seq its.toArray}}:=I1.laid (t':=s.toks) (λb o e=>cR _ e) (aZ _) (show gQ X.prog X.w _ _ _ (.tup ys)from#[hz,its,r',IsTup.new _ _]);erw[.ref h'.objs.size,_,I2,Z,q _ (I1.bD.fresh (aZ _))]
 ·let(its,r',pl,hz):=I.tuple hq
  erw[call_tuple_same pl #[.ref p,H,I,Z,q]]
def Pb(K:ag)(T:String)(x:V)(H:Hp):Prop:=match x with | .str _=>T="str" | .int _=>T="int" | .ref p=>(T="list"/\∃xs,aK K H p xs)\/(T="tuple"/\∃o,K.lookup p=some o/\o.cls= .type "tuple"/\o.dict=none)\/ (T="dict"/\((∃fO,H p=some (.dK fO))\/∃fO,H p=some (.dT fO)))\/(T="set"/\∃S n,H p=some (.set S n)) |_=>False
def a2f{ay:By}{O:St}{H:Hp}{s:ah}{T:String}{x:V}{v:Value}(I:Inv X ay O H s)(r:RelV x v)(ty:Pb X.K T x H): s.TypeIs v T/\∀a,v= .ref a->∃ob,s.heap.get? a=some ob/\ob.dict=none:=by cases x with
 |str z=>let(t,rfl):=r;cases(show T="str" from ty);erw[typeIs_str s z t,λ_ e=>nomatch e] |int i=>let(t,rfl):=r;cases(show T="int" from ty);erw[typeIs_int s i t,λ_ e=>nomatch e] |ref p=>
  cases r;rcases ty with⟨rfl,xs,hq⟩|⟨rfl,o,hk,hc,hd⟩|⟨rfl,hk⟩|⟨rfl,S,n,hk⟩
  ·let(its,_,pl,_):=I.list hq
   erw[pl.isList.typeIs,λa e=>?_];cases e;let(o,n,e,c,hd,_):=pl;erw[o,e,hd]
  ·erw[#[o,I.gb p o hk,hc],λa e=>?_]
   cases e;erw[o,I.gb _ o hk,hd]
  ·let z:∃o,s.heap.get? p=some o/\o.ExactDict:=by
    rcases hk with⟨fO,hk⟩|⟨fO,hk⟩
    ·let(_,_,_,_,o,_,_,e,ex,_):=I.bD p _ hk
     erw[o,e,ex]
    ·let(_,_,_,_,o,_,_,e,ex,_):=I.bD p _ hk
     erw[o,e,ex]
   let(o,e,ex):=z;erw[#[o,e,ex.1],λa e2=>?_];cases e2;erw[o,e,ex.2.1]
  ·let(o,_,_,_,e,ex,_):=I.bD p _ hk
   erw[#[o,e,ex.1],λa e2=>?_];cases e2;erw[o,e,ex.2.1] |_=>erw[False.elim ty]
def Ci(K:ag)(T:String)(r:V->AT->Hp->VK->Prop)(to:TE)(t:TA):TE:=λO H Q=>to O H λx H1=>Pb K T x H1/\t O H1 λxs H2=>r x xs H2 Q
variable {o e:Expr}{es:Cn}{to:TE}{t:TA}{name:Str}{apos fb:Pos}{T id:String}{r:V->AT->Hp->VK->Prop}
def Ge(pa:PlainAttrs T)(slot:Slot T name id)(LA:typeOf (.builtin id)=pure (.type "method_descriptor"))(hm:MtR X id r)(ho:PE X o to)(ha:PA X (e::es) t) (uT:↥(attributeBase o name X.env (eval o X.env)=eval o X.env)) (uO:↥(((backTo fb (starEach (e::es) X.env)).all (λx=>!x.1)&&(backToKw fb (keywordEach [] X.env)).all (λx=>x.1.isSome) &&decide (⇑(e::es)+⇑([]:List Keyword)+(if([]:List Keyword).isEmpty then 0 else 1)<30))=true)) (uL:↥((apos.endLine==fb.line)=true))(hs:↥(starEach (e::es) X.env=(false,eval e X.env)::starEach es X.env))(uK:↥((backTo fb (starEach es X.env)).any (·.1)=false)): PE X (.Call (.Attribute o name apos) (e::es) [] fb) (Ci X.K T r to t):=by intro ay s O H Q I h;erw[wpAny_Call_method_late uT uO uL Z (bo (ho ay s O H _ I h) λv s1 #[x,H1,I1,r1,ty,q1]=>?_)];let(h1,h2):=a2f I1 r1 ty;erw[T,id,pa,slot,LA,h1,h2,?_];let hA:=ha fb ay s1 O H1 _ I1 q1;rw[hs]at hA⊢;erw[Calls.callWith_builtin (by show(false||(backTo fb (starEach es X.env)).any (·.1))=false;rw[uK]<;>rfl) (Gc ?_),B,bo hA λus s2 #[vs,H2,I2,r2,q2]=>hm ay s2 O H2 x vs v us Q I2 r1 r2 q2]
end
def NZ(X:Cx)(id:String)(r:V->AT->Hp->VK->Prop):Prop:=∀(ay:By)(s:ah)(O:St)(H:Hp)(x:V)(xs:AT)(v:Value)(us:BY)(Q:VK),Inv X ay O H s->RelV x v->Vals xs us->r x xs H Q->wpAny (model X.prog X.w) X.A (call (.builtin id) (v::us)) (EP X ay O Q) X.xe s
theorem Vals.one:∀{x:V}{us:BY},Vals [x] us->∃u,us=[u]/\RelV x u |_,_,.cons r .nil=>#[ww,r]
theorem Vals.eraseIdx:∀{xs:AT}{us:BY}(i:Nat),Vals xs us->Vals (xs.eraseIdx i) (us.eraseIdx i) |_,_,_,.nil=>.nil |_,_,0,.cons _ t=>t |_,_,i+1,.cons r t=>.cons r (Vals.eraseIdx i t)
theorem Vals.rep{xs:AT}{us:BY}(h:Vals xs us):∀k:Nat,Vals (List.replicate k xs).flatten (List.replicate k us).flatten |0=>.nil |k+1=>by rw[vw,vw,IB,IB];erw[Vals.append h (Vals.rep h k)]
theorem Xt{α:Type}:∀(l:List α)(i:Nat),⇑(l.eraseIdx i)<=l.length |[],_=>aZ _ |_::_,0=>Iw _ |_::r,i+1=>Nat.succ_le_succ (Xt r i)
theorem foldl_rep(its:BY):∀(k:Nat)(acc:BY),List.foldl (λx1 x2=>x1++x2) acc.toArray (List.replicate k its.toArray)=(acc++(List.replicate k its).flatten).toArray
 |0,acc=>by simp |k+1,acc=>by
  let e:acc.toArray++its.toArray=(acc++its).toArray:=by simp
  let e2:(acc++its)++(List.replicate k its).flatten=acc++(List.replicate (k+1) its).flatten:=by rw[vw,IB,IC]
  rw[<-e2,<-foldl_rep its k (acc++its),<-e,vw,List.foldl_cons]
section
variable {X:Cx}{ay:By}{O:St}{H:Hp}{s:ah}{l b:Addr}{xs ys zs:AT}
def Inv.KQ{its its':BY}{n:Nat}{t':Nat}(I:Inv X ay O H s)(hH:H l=some (.bi xs)) (e:s.heap.get? l=some {cls:=.type "list",data:=.seq its.toArray n})(hf:f its.toArray=its'.toArray)(hv:Vals ys its')(hz:⇑ys<=sizeLine): Inv X ay O (bn H l (.bi ys)) {s with heap:=s.heap.update l (Obj.mapSeq f),toks:=t'}:=by let q:=PySem.IsL.update e f;rw[hf]at q;erw[I.write (x:=l) (e:=l) (by rw[hH];erw[trivial]) (.inl Z) (λb' u hb hu=>(Fd s.heap (Obj.mapSeq f) (m7 hb)).ao hu) #[_,q] ?_,B,hz,its',_,hv,q]
def Inv.GC(I:Inv X ay O H s)(hv:Vals ys its)(hz:⇑ys<=sizeLine): Inv X ay O (bn H s.heap.objs.size (.bi ys)) {s with heap:=s.heap.push {cls:=.type "list",data:=.seq its.toArray},toks:=t'}:=I.laid (λ_ _ q=>cR _ q) (aZ _) #[hz,its,0,hv,fX _ Z]
theorem Inv.fresh(I:Inv X ay O H s):H s.heap.objs.size=none:=I.bD.fresh (aZ _)
def Inv.Dn(I:Inv X ay O H s)(hH:H l=some (.bi xs)):⇑xs<=sizeLine/\∃(its:BY)(n:Nat),Vals xs its/\⇑xs=its.length/\s.heap.get? l=some {cls:=.type "list",data:=.seq its.toArray n}:=by let(z,its,n,r,e):=I.bD l _ hH;erw[z,its,n,r,⇑r,e]
def Ww(h:n<=sizeLine):Builtin.List.listTooLong n=false:=by unfold Builtin.List.listTooLong;erw[dh (Nat.not_lt_of_le h)]
end
section
variable {X:Cx}
inductive aiI(x:V)(vs:AT)(H:Hp)(Q:VK):Prop |mk l xs y(_:x= .ref l)(_:vs=[y])(_:H l=some (.bi xs))(_:⇑xs<sizeLine)(_:Q .bP (bn H l (.bi (xs++[y]))))
def Vw:V->AT->Hp->VK->Prop:=λx vs H Q=>aiI x vs H Q
def Gz:NZ X "list.append" Vw:=by intro ay s O H x vs v us Q I rx rv h;let(l,xs,y,rfl,rfl,hH,hz,q):=h;cases rx;let(u,rfl,ru):=rv.one;let(z,its,n,r,hl,e):=I.Dn hH;erw[ES F.slot_list_append #[_,e,Z] F.entry_list_append (F.args_list_append_2 _ _) (PySem.list_append l its.toArray n u (by rw[fL];erw[_S.oM z hl])) #[e,?_],B,.bP,_,I.KQ (its':=its++[u]) hH e (by simp) (r.append (.cons ru .nil)) ?_,Z,q];rw[cH,No];erw[hz]
inductive aiF(x:V)(vs:AT)(H:Hp)(Q:VK):Prop |mk l b xs zs(_:x= .ref l)(_:vs=[.ref b])(_:H l=some (.bi xs))(_:H b=some (.bi zs))(_:⇑xs+zs.length<=sizeLine)(_:Q .bP (bn H l (.bi (xs++zs))))
def Vv:V->AT->Hp->VK->Prop:=λx vs H Q=>aiF x vs H Q
def a95:NZ X "list.extend" Vv:=by
 intro ay s O H x vs v us Q I rx rv h;let(l,b,xs,zs,rfl,rfl,hH,hB,hz,q):=h;cases rx;let(u,rfl,ru):=rv.one;cases ru;let(z,its,n,r,hl,e):=I.Dn hH;let(z2,qv,n2,r2,wk,e2):=I.Dn hB;let B7:its.toArray.size+qv.toArray.size<=sizeLine:=by rw[fL,fL];lia
 let LL:¬(!its.toArray.isEmpty&&Builtin.List.listTooLong (its.toArray.size+qv.toArray.size))=true:=by rw[Ww B7,OV];erw[ko]
 erw[ES F.slot_list_extend #[_,e,Z] F.entry_list_extend (F.args_list_extend_2 _ _) (AutoSeq1.list_extend_list_list_0 l its.toArray n b qv.toArray n2 LL (by rw[fL];erw[_S.oM z hl]) (Iv B7)) #[e,e2,?_],B,.bP,_,I.KQ (its':=its++qv) hH e (by simp) (r.append r2) ?_,Z,q];rw[cH]
 lia
inductive ais(x:V)(vs:AT)(H:Hp)(Q:VK):Prop |mk l xs i k y(_:x= .ref l)(_:vs=[.int i])(_:H l=some (.bi xs))(_:-(2^63)<=i)(_:i<2^63)(_:seqIndex? i ⇑xs=some k)(_:xs[k]? =some y)(_:Q y (bn H l (.bi (xs.eraseIdx k))))
def Vu:V->AT->Hp->VK->Prop:=λx vs H Q=>ais x vs H Q
def a94:NZ X "list.pop" Vu:=by
 intro ay s O H x vs v us Q I rx rv h;let(l,xs,i,k,y,rfl,rfl,hH,h1,h2,hk,hy,q):=h;cases rx;let(u,rfl,ru):=rv.one;let(t,rfl):=ru;let(z,its,n,r,hl,e):=I.Dn hH;let(w,hw,cV):=r.get hy;erw[ES F.slot_list_pop #[_,e,Z] F.entry_list_pop (F.args_list_pop_2 _ _) (MeetsSeq.list_pop_at l its.toArray n i t k w (fitsIndex_both h1 h2) (by rw[fL,<-hl];erw[hk]) (by rw[<-Array.getElem?_toList];erw[hw]) (by rw[fL];erw[_S.oM z hl])) #[e,?_],B,y,_,I.KQ (its':=its.eraseIdx k) hH e ?_ (r.eraseIdx k) ?_,cV,q]
 ·show its.toArray.eraseIdxIfInBounds k=(its.eraseIdx k).toArray
  rw[List.eraseIdxIfInBounds_toArray]
 ·have:=Xt xs k
  lia
inductive air(x:V)(y:V)(H:Hp)(Q:VK):Prop |mk l k xs(_:x= .ref l)(_:y= .int k)(_:H l=some (.bi xs))(_:-(2^63)<=k)(_:k<2^63)(_:⇑xs*k.toNat<=sizeLine)(_:∀p,H p=none->Q (.ref p) (bn H p (.bi (List.replicate k.toNat xs).flatten)))
def a68:R2:=λx y H Q=>air x y H Q
def len_rep{α:Type}(xs:List α)(k:Nat):⇑(List.replicate k xs).flatten=k*xs.length:=by induction k with |zero=>simp |succ k ih=>rw[vw,IB,cH,ih,Nat.succ_mul,OA]
def a76:eJ X (binaryOp .Mult) a68:=by
 intro ay s O H x y v u Q I rx ry h;let(l,k,xs,rfl,rfl,hH,h1,h2,hz,q):=h;cases rx;let(t,rfl):=ry;let(z,its,n,r,hl,e):=I.Dn hH;let hlen:its.toArray.size*k.toNat<=sizeLine:=by rw[fL,<-hl];erw[hz]
 let abK:¬its.toArray.size*k.toNat>(2^63-1)/8:=by
  have:(sizeLine:Nat)<=(2^63-1)/8:=by decide
  lia
 let aby:¬(!Builtin.List.listFitsIndex k)=true:=by rw[fitsIndex_both h1 h2];erw[ko]
 let LL:¬Builtin.List.listTooLong (its.toArray.size*k.toNat)=true:=by rw[Ww hlen];erw[ko]
 let ab7:List.foldl (λx1 x2=>x1++x2) #[] (List.replicate (if its.toArray.isEmpty=true then 0 else k.toNat) its.toArray)=(List.replicate k.toNat its).flatten.toArray:=by
  let f0:∀m:Nat,List.foldl (λx1 x2=>x1++x2) #[] (List.replicate m its.toArray)=(List.replicate m its).flatten.toArray:=λm=>by have:=foldl_rep its m [];rw[List.nil_append]at this;erw[this]
  rw[f0];cases its with |nil=>simp |cons a r'=>rw[aV (by simp)]
 erw[wpAny_binaryOp_repeat_ref (T:="list") (U:="int") aw #[_,e,Z] (λs'=>typeIs_int s' k t) noFill_list_mul F.fills_int_mul j0e repeat_list F.slot_int_index.lookup (ES j0e (typeIs_int s k t) F.entry_int_rmul (F.args_int_rmul_2 _ _) (int___rmul___int_list k t l its.toArray n) #[e,Z,#[_,e,Z],ES F.slot_list_mul #[_,e,Z] F.entry_list_mul (F.args_list_mul_2 _ _) (AutoListH.list___mul___list_int_3 l its.toArray n k t aby abK LL) #[e,?_]])];rw[ab7];erw[.ref _,_,I.GC (t':=s.toks) (r.rep k.toNat) (by rw[len_rep,Nat.mul_comm];erw[hz]),Z,q _ I.fresh]
end
end _L
namespace _AA
open PySem PySem.W PySem.Calls PyProof.Rows
abbrev _root_.Ar:=List Int
def aat{P:Params}:∀(ns:Ar)(vs:BY),WellAll P h vs (ns.map WData.int)->IntsAre vs ns:=by intro ns;induction ns with |nil=>intro vs w;rw[List.map_nil]at w;cases w;erw[.nil] |cons n ns ih=>intro vs w;rw[BV]at w;cases w with |cons a b=>cases a;erw[.cons _ _ (ih _ b)]
def a4N{l:OpenLaw}{n:Nat}(hn:l.most=some n){P:Params}{h:Heap}{args:List WData}{vals:BY} (GO:l.row.toRowW.claim.pre args=true)(Ly:WellAll P h vals args): ∃a vs ns,vals=[Value.ref a]/\args=[WData.list (ns.map WData.int)]/\h.get? a=some {cls:=.type "list",data:=.seq vs.toArray}/\IntsAre vs ns/\⇑ns<=n:=by
 let hsh:WShape.hasAll [] args [.list .int]=true:=(pre_splitW GO).1;let hc:l.pre.holds [] {args:=args}=true:=(pre_splitW GO).2;let(d,r,rfl,h1,h2):=hasAllW_cons hsh;obtain rfl:=hasAllW_nil h2;let(xs,rfl,h3):=hasW_list h1;let(ns,rfl):=items_int h3;let hlen:⇑ns<=n:=by
  unfold OpenLaw.pre at hc;let h4:(WTm.not (.lt (.lit (.int (n:Int))) (.len (.arg 0)))).holds [] {args:=[.list (ns.map .int)]}=true:=by let h4:=(holds_andW hc).1;rw[hn]at h4;erw[h4]
  let h5:=condW_of h4 (w_not (w_lt w_lit (w_len_list (w_arg Z))));rw[bC]at h5;erw[kX λq=>?_];let q':(n:Int)<((⇑ns:Nat):Int):=_S.hJ q
  first |(rw[cy q']at h5;erw[absurd h5 aw]) |(simp at h5;omega)
 cases Ly with |cons w1 w2=>cases w2;cases w1 with |list ho abX=>erw[xz,ns,wP,ho,aat ns _ abX,hlen]
def a6u(l:OpenLaw)(args:List WData):l.row.toRowW.claim.post args (.bool true) args=true:=postW_of (r:=l.row.toRowW) (X:=(true==true)) (show WShape.has [] (.bool true) .bool=true by first|rfl|decide|simp[WShape.has,WShape.arms,WShape.armsAll]) (show(WTm.eq .res (.lit (.bool true))).value [] {args:=args,res:=some (.bool true),after:=args}=some (.bool (true==true))from w_eq_bool (w_res Z) w_lit) rfl
def aga{l:OpenLaw}{n:Nat}{q:ai}{loose:Ch}{XP:(bZ)->Heap->Prop}{YP:World->Heap->Prop}{d:DefRec} (hn:l.most=some n)(DG:d.params.defaults=[]) (call:∀(w:World)(s₀ s₁:ah)(mg mb:bZ)(fa:Addr)(o:Obj)(pm cd doc:Value)(a:Addr)(vs:BY)(ns:Ar),Ground q loose [] XP w s₀ mg mb s₁.heap->YP w s₁.heap->s₁.heap.get? fa=some o->o.data= .func (docDef d.name d.params d.body d.scope pm cd doc)->s₁.heap.CodeRec cd d.name->mg d.name=some (.ref fa)->s₁.heap.get? a=some {cls:=.type "list",data:=.seq vs.toArray}->IntsAre vs ns->⇑ns<=n->s₁.gens=#[]->codeAny (model l.prog w) callerA (.call (.ref fa) #[[.ref a],[]]) (λr s'=>r= .ok (.ret (.bool true))/\OldK s₁.heap s'.heap/\s'.os=s₁.os/\AllBare s'.gens) s₁): WalkO q loose XP YP l.row.toRowW d [] (λf vs=>PySem.call f vs):=by intro w s₀ s₁ mg mb G Y fa o pm cd doc dV kV ho hd gE hD DE hg args vals as GO ak1 hrd Ly hlo;obtain rfl:dV= .none:=Dflts.none hD DG;obtain rfl:kV= .none:=Dflts.noKw hD;let(a,vs,ns,rfl,rfl,LG,hints,hlen):=a4N hn GO Ly;erw[enter_call (zO (call w s₀ s₁ mg mb fa o pm cd doc a vs ns G Y ho (fd_plain hd) gE DE LG hints hlen hg) λr s' hq=>?_)];let(rfl,h2,h3,h4):=hq;erw[.inl #[.bool true,.bool true,[],Z,λ_=>rfl,.bool true,a6u l _,λ_=>#[List.Pairwise.nil,λ_ hm=>(nomatch hm)]],h2,h3,h4]
end _AA
namespace _L
universe PySem
theorem P9:∀{vs:BY}{ns:Ar},IntsAre vs ns->Vals (ns.map V.int) vs |_,_,.nil=>.nil |_,_,.cons n t h=>.cons #[t,Z] (P9 h)
def NY(H:Hp):Prop:=∀b,H b=none\/∃o xs,H b=some (.qE o (.bi xs))
def aa6{P:ai}{w:World}{K:ag}{mg mb:bZ}{CX:mO}{k:Nat}{fa a:Addr}{fd:FuncData}{x:Str}{sp:Sp}{s₁:ah}{vs:BY}{ns:Ar} (KX:K.In s₁.heap)(Y0:s₁.heap.Ns mainGlobals mg)(hb:s₁.heap.Ns builtinsNs mb)(hbb:∀x:Str,x≠"__name__"->mb x=bootBuiltins x)(abe:s₁.heap.NoLimit)(hg:s₁.gens=#[]) (ha:s₁.heap.get? a=some {cls:=.type "list",data:=.seq vs.toArray})(hi:IntsAre vs ns)(hl:⇑ns<=sizeLine)(hr:dI k callerA) (F:∀aB:Heap,K.In aB->aB.Ns mainGlobals mg->iX P w K mg aB CX k fa fd [x] sp)(abP:∀(s:ah)(u:Value),BindsTo s fd #[[u],[]] [(x,u)]) (jb:∀H:Hp,NY H->aK K H a (ns.map V.int)->sp [.ref a] H (λv _=>v= .bl true) λ_ _ _=>False) (M5:∀H e s',CX [] H s₁ (λ_ _ _=>False) e s'->False): codeAny (model P w) callerA (.call (.ref fa) #[[.ref a],[]]) (λr s'=>r= .ok (.ret (.bool true))/\OldK s₁.heap s'.heap/\s'.os=s₁.os/\AllBare s'.gens) s₁:=by
 let rv:=P9 hi;let a9X:=⇑hi;let core:∀H:Hp,NY H->aK K H a (ns.map V.int)->fF P w H s₁.heap->(∀b,H b≠none->b=a)->(H a≠none->K.lookup a=none)->codeAny (model P w) callerA (.call (.ref fa) #[[.ref a],[]]) (λr s'=>r= .ok (.ret (.bool true))/\OldK s₁.heap s'.heap/\s'.os=s₁.os/\AllBare s'.gens) s₁:=by
  intro H hO hS bD hA hK;let a0h:∀{b:Addr}{o:Obj},s₁.heap.get? b=some o->H b=none->(uM s₁.heap H).get? b=some o:=λe n=>abq e n;let yj:∀{b:Addr}{o:Obj}{es:Array DictEntry}{ep:Nat},s₁.heap.get? b=some o->o.data= .dict es ep->H b=none:=λ{b o es ep} e d=>by cases q:H b with |none=>rfl |some u=>let e':b=a:=hA b (by rw[q];simp);subst e';rw[ha]at e;cases e;let d':Data.seq vs.toArray _=Data.dict es ep:=d;cases d'
  let Gu:∀{b:Addr}{m:bZ},s₁.heap.Ns b m->(uM s₁.heap H).Ns b m:=λ{b m} #[o,es,ep,e,d,r]=>#[o,es,ep,a0h e (yj e d),d,r];let Yi:K.In (uM s₁.heap H):=λb o e=>a0h (KX b o e) (by cases q:H b with |none=>rfl |some u=>let e':b=a:=hA b (by rw[q];simp);subst e';rw[hK (by rw[q];simp)]at e;cases e);let hM:Mod K mg (uM s₁.heap H):=#[Yi,Gu Y0,#[mb,Gu hb,hbb],let#[mc,h1,h2]:=abe;#[mc,Gu h1,h2]];let e0:vn P w K mg (uM s₁.heap H) callerA [] s₁ H:=#[Z,hM,λb o e=>a8p e,m9 (abp _ _),trivial,λb hb=>absurd (show b∈([]:DO)from hb) (by simp),bD,.of_eq hg];erw[zO ((F _ Yi (Gu Y0)).run callerA [] s₁ H #[[.ref a],[]] [.ref a] [.ref a] _ _ hr e0 (abP s₁ (.ref a)) (.cons Z .nil) (jb H hO hS)) λr s' h=>?_];cases r with |error e=>exact(M5 H e s' h).elim |ok fl=>cases fl with |next=>erw[False.elim h] |brk=>erw[False.elim h] |cont=>erw[False.elim h] |ret u=>let(v,H',os,bare,un,ab1,r',q):=h;let q':v= .bl true:=q;subst q';obtain rfl:u=Value.bool true:=r';erw[Z,OldK.of_keep λb o e=>?_,os,bare];cases q:H b with |none=>erw[un.keep b o e q (by intro z;erw[absurd (show b∈([]:DO)from z) (by simp)]) (by simp)] |some u=>
   rcases hO b with z|⟨ob,xs,z⟩
   ·rw[q]at z;cases z
   ·let z2:=un.mG b ob _ z
    let(e1,_):=bD b _ z;let(e2,_):=ab1 b _ z2;rw[e]at e1;cases e1;erw[e2]
 cases hk:K.lookup a with |some o=>let e:=KX a o hk;rw[ha]at e;cases e;erw[core (λ_=>none) (λ_=>.inl Z) (.inr #[_,vs.toArray,_,hk,wP,Z,by rw[fL,a9X];erw[hl],by simpa using rv]) (λb u z=>by let z':(none:Option HO)=some u:=z;cases z') (λb z=>absurd rfl z) λz=>absurd rfl z] |none=>
  erw[core (λb=>if b=a then some (.qE {cls:=.type "list",data:=.seq vs.toArray} (.bi (ns.map V.int)))else none) (λb=>?_) (.inl (.inr #[{cls:=.type "list",data:=.seq vs.toArray},aR Z])) (λb u z=>?_) (λb z=>?_) λ_=>hk]
  ·by_cases hb:b=a
   ·erw[.inr #[xz,aR hb]]
   ·erw[.inl (aV hb)]
  ·by_cases hb:b=a
   ·let z':=(aR hb).symm.ao z
    cases z';subst hb;erw[ha,by rw[bC];erw[hl],vs,_,rv,ha]
   ·let z':=(aV hb).symm.ao z
    cases z'
  ·by_cases hb:b=a
   ·erw[hb]
   ·erw[absurd (aV hb) z]
def a1X{l:W.OpenLaw}{n k:Nat}{q:ai}{loose:Ch}{XP:(bZ)->Heap->Prop}{YP:World->Heap->Prop}{d:DefRec}{K:Params->ag}{CX:World->mO}{sp:World->Sp}{x:Str} (hn:l.most=some n)(B9:n<=sizeLine)(DG:d.params.defaults=[])(hr:dI k callerA) (hY:∀(w:World)(h:Heap),YP w h->(K w.params).In h) (F:∀(w:World)(mg:bZ)(fa:Addr)(h:Heap),(K w.params).In h->h.Ns mainGlobals mg->mg d.name=some (.ref fa)->∃fd:FuncData,(∀(s:ah)(u:Value),BindsTo s fd #[[u],[]] [(x,u)])/\∀aB:Heap,(K w.params).In aB->aB.Ns mainGlobals mg->iX l.prog w (K w.params) mg aB (CX w) k fa fd [x] (sp w)) (jb:∀(w:World)(H:Hp)(a:Addr)(ns:Ar),⇑ns<=n->NY H->aK (K w.params) H a (ns.map V.int)->sp w [.ref a] H (λv _=>v= .bl true) λ_ _ _=>False) (M5:∀(w:World)(H:Hp)(s:ah)(e:Value)(s':ah),CX w [] H s (λ_ _ _=>False) e s'->False): W.WalkO q loose XP YP l.row.toRowW d [] (λf vs=>PySem.call f vs):=by erw[_AA.aga hn DG λw s₀ s₁ mg mb fa o pm cd doc a vs ns G Y ho hd gE DE LG hints hlen hg=>?_];let KX:=hY w _ Y;let(fd,hb,hF):=F w mg fa _ KX G.T.g DE;erw[aa6 KX G.T.g G.T.b G.T.builtins G.T.nolimit hg LG hints (cL hlen B9) hr hF hb (λH hO hS=>jb w H a ns hlen hO hS) λH e s'=>M5 w H s₁ e s']
def inClass(s:Stmt)(j:Nat):Stmt:=match s with | .ClassDef _ _ _ body _ _ _ _ _ _ _=>body.getD j (.Pass #[0,0,0,0]) |_=>.Pass #[0,0,0,0]
def nP(s:Stmt):Arguments:=match s with | .FunctionDef _ a _ _ _ _ _ _ _ _=>a |_=>{posonlyargs:=[],args:=[],vararg:=none,kwonlyargs:=[],kw_defaults:=[],kwarg:=none,defaults:=[]}
def iK(s:Stmt):List Stmt:=match s with | .FunctionDef _ _ b _ _ _ _ _ _ _=>b |_=>[]
def aY(s:Stmt):Scope:=match s with | .FunctionDef _ _ _ _ _ _ sc _ _ _=>sc |_=>{kind:=.function,names:=[],isGenerator:=false,isCoroutine:=false}
abbrev je:mO:=λ_ _ _ _ _ _=>False
abbrev E0:XK:=λ_ _ _=>False
def Gh:Passes je X E0:=λ_ _ _ _ _ _ _ h=>h.elim
structure nU(K:ag)(x qual:Str)(st:Stmt)(f:Addr)(fd:FuncData):Prop where
 ex:∃(oc:Value)(od:Option Addr)(kV doc pm:Value)(an:Option Addr)(aO ct:Value)(gN:Array (Option Value)),fd=W.fnOf x qual (nP st) (iK st) (aY st) .none kV doc pm an aO ct/\K.lookup f=some #[oc,od,.func fd,gN]/\W.codeIn K aO qual=true
 kp:W.keepIn K (.ref f)=true
section
variable {P:ai}{w:World}{K:ag}{mg:bZ}{aB:Heap}
def nU.ok{x qual:Str}{st:Stmt}{f:Addr}{fd:FuncData}{N ps:Ch}{k:Nat}{sp:Sp}(F:nU K x qual st f fd)(S:bA N ps (aY st))(len:∀vs H Q E,sp vs H Q E->⇑vs=ps.length) (jV:∀(aO:Value)(A:ak)(outer:Cl)(s:ah)(H:Hp)(vs:AT)(Q:VK)(E:XK),dI k (A.deeper (envOfC qual (aY st) s.heap.objs.size f aO))->sp vs H Q E->∃t,iW (jY je P w K mg aB N qual (aY st) f aO A outer s H E).ux (iK st) t/\t {nx:=λ_ H'=>Q .bP H',rt:=Q} (start N vs) H):iX P w K mg aB je (k+1) f fd ps sp:=by let(oc,od,kV,doc,pm,an,aO,ct,gN,rfl,lk,gE):=F.ex;erw[YB lk gE S len λA outer s H vs Q E hr jb=>?_];let(t,h,q):=jV aO A outer s H vs Q E hr jb;erw[t,h.ux,q]
def nU.binds{x qual:Str}{st:Stmt}{f:Addr}{fd:FuncData}{ps:Ch}(F:nU K x qual st f fd) (h:∀(kV doc pm:Value)(an:Option Addr)(aO ct:Value)(us:BY),⇑us=ps.length->bindArgs (W.fnOf x qual (nP st) (iK st) (aY st) .none kV doc pm an aO ct) #[us,[]]=pure (ps.zip us)):Binds K fd ps []:=by let(oc,od,kV,doc,pm,an,aO,ct,gN,rfl,lk,gE):=F.ex;erw[.all (h kV doc pm an aO ct)]
def Hg{x qual:Str}{st:Stmt}{f:Addr}{oc:Value}{od an:Option Addr}{gN:Array (Option Value)}{kV doc pm aO ct:Value}(l:K.lookup f=some #[oc,od,.func (W.fnOf x qual (nP st) (iK st) (aY st) .none kV doc pm an aO ct),gN]) (c:W.codeIn K aO qual=true)(k:W.keepIn K (.ref f)=true):nU K x qual st f (W.fnOf x qual (nP st) (iK st) (aY st) .none kV doc pm an aO ct):=#[#[oc,od,kV,doc,pm,an,aO,ct,gN,Z,l,c],k]
end
section
variable {X:Cx}
def pv(i:Nat){x:Str}{pos:Pos}(hN:↥(X.N[i]? =some x))(hv:NP X.env.scope x:=by first|erw[Or.inl rfl]|erw[Or.inr (Or.inl rfl)]|erw[Or.inr (Or.inr rfl)])(hd: ~~~((x==("__debug__":Str))=false)) (gE: ~~~((x==("__classdict__":Str))=false)):PE X (.Name x pos) (Px i):=a6I hN hv hd gE
abbrev o0{X:Cx}:=@pv X 0
abbrev u8{X:Cx}:=@pv X 1
abbrev w4{X:Cx}:=@pv X 2
abbrev L2{X:Cx}:=@pv X 3
abbrev M2{X:Cx}:=@pv X 4
abbrev P3{X:Cx}:=@pv X 5
abbrev W1{X:Cx}:=@pv X 6
abbrev a0g{X:Cx}:=@pv X 7
abbrev a0l{X:Cx}:=@pv X 9
abbrev a0m{X:Cx}:=@pv X 10
end
def aX{A B:Prop}(h:B):if false=true then A else B:=by rw[aV ko];erw[h]
def bB{A B:Prop}(h:A):if true=true then A else B:=by rw[aR rfl];erw[h]
def eV{c A B:Prop}[Decidable c](h1:c->A)(h2:¬c->B):if c then A else B:=by
 by_cases h:c
 ·rw[aR h]
  erw[h1 h]
 ·rw[aV h]
  erw[h2 h]
def aI(H H':Hp):Prop:=∀b o,H b=some o->H' b=some o
def aI.refl(H:Hp):aI H H:=λ_ _ h=>h
def aI.ao(a:aI H H1)(b:aI H1 H2):aI H H2:=λc o h=>b c o (a c o h)
def aI.free(e:aI H H'){l:Addr}(h:H' l=Option.none):H l=Option.none:=by cases q:H l with |none=>rfl |some o=>rw[e l o q]at h;cases h
def aI.seq{K:ag}(e:aI H H')(h:aK K H a xs):aK K H' a xs:=by
 rcases h with(h|⟨o,h⟩)|h
 ·erw[.inl (.inl (e _ _ h))]
 ·erw[.inl (.inr #[o,e _ _ h])]
 ·erw[.inr h]
def Wd (i:Int):Prop:=i.natAbs<2^5000
def Wd.bits(h:Wd i):Builtin.Int.intBits i<=2^20:=cL (PyProof.Rows.intBits_le h) aw
def Wd.log(h:Wd i):i.natAbs.log2<9000:=by
 by_cases e:i.natAbs=0
 ·rw[e];decide
 ·let h1:i.natAbs.log2<5000:=(Nat.log2_lt e).mpr h
  lia
section
variable {X:Cx}
def rY:eJ X (binaryOp .FloorDiv) (rI (λ_ j=>0<j/\Wd j) λi j=>.int (i/j)):=CM λi j _ _ _ _ _ hc q=>by let h1:(0:Int)<j:=hc.1;erw[floordiv_int (j4 h1) (by rw[a1I i (gT h1)];erw[q]) (.inl (TD hc.2.log))]
def VZ:eJ X (binaryOp .FloorDiv) (rI (λ_ j=>j≠0/\Wd j) λi j=>.int (i.fdiv j)):=CM λ_ _ _ _ _ _ _ hc q=>floordiv_int hc.1 q (.inl (TD hc.2.log))
end
def zF(K:ag)(H:Hp)(x:V)(T:String):Prop:=match x with | .bP=>T="NoneType" | .bl _=>T="bool" | .int _=>T="int" | .str _=>T="str" | .ref a=>(T="list"/\∃xs,aK K H a xs)\/(T="tuple"/\∃xs,aW K H a xs) |_=>False
def j6(T n:String):Bool:=T==n||(T=="bool"&&n=="int")
def Fw:List String:=["NoneType","bool","int","str","list","tuple"]
def Cb:List String:=["bool","int","str","list","tuple"]
def XA{K:ag}(h1:T∈Fw)(h2:n∈Cb):W.kitOne K (.type T) (.type n)=some (j6 T n):=by
 let all:Fw.all (λT=>Cb.all λn=>W.kitOne [] (.type T) (.type n)==some (j6 T n))=true:=by decide+kernel
 let a1:=jw.mp all T h1;let a2:=jw.mp a1 n h2;let e:W.kitOne K (.type T) (.type n)=W.kitOne [] (.type T) (.type n):=by unfold W.kitOne W.kitCls W.subIn;rfl
 rw[e];erw[gf.mp a2]
section
variable {X:Cx}
def zF.mem{K:ag}(h:zF K H x T):T∈Fw:=by cases x with |bP=>cases(show T="NoneType" from h);decide |bl b=>cases(show T="bool" from h);decide |int b=>cases(show T="int" from h);decide |str b=>cases(show T="str" from h);decide |ref a=>rcases(show(T="list"/\∃xs,aK K H a xs)\/(T="tuple"/\∃xs,aW K H a xs)from h)with⟨e,_⟩|⟨e,_⟩<;>cases e<;>decide |_=>exact(show False from h).elim
def XB{ay:By}{s:ah}{O:St}{H:Hp}{x:V}{u:Value}{T:String}(I:Inv X ay O H s)(rx:RelV x u)(ty:zF X.K H x T): ∃P:Heap->Prop,W.KitX X.K u (.type T) P/\P s.heap/\u≠ .builtin "__main__.__loader__#opaque":=by cases x with
 |bP=>cases(show T="NoneType" from ty);cases(show u=Value.none from rx);erw[_,W.kitx_none,True.intro,λz=>nomatch z] |bl b=>cases(show T="bool" from ty);cases(show u=Value.bool b from rx);erw[_,W.kitx_bool,True.intro,λz=>nomatch z] |int b=>cases(show T="int" from ty);let(t,q):=(show∃t,u=Value.int b t from rx);cases q;erw[_,W.kitx_int,True.intro,λz=>nomatch z] |str b=>cases(show T="str" from ty);let(t,q):=(show∃t,u=Value.str b t from rx);cases q;erw[_,W.kitx_str,True.intro,λz=>nomatch z] |ref a=>
  cases(show u=Value.ref a from rx);rcases(show(T="list"/\∃xs,aK X.K H a xs)\/(T="tuple"/\∃xs,aW X.K H a xs)from ty)with⟨e,xs,hx⟩|⟨e,xs,hx⟩
  ·cases e
   let(its,r,(o,n,h1,h2,_),_):=I.list hx;erw[_,W.kitx_list,#[o,h1,h2],λz=>nomatch z]
  ·cases e
   let(its,r,(o,h1,h2,_),_):=I.tuple hx;erw[_,W.kitx_tuple,#[o,h1,h2],λz=>nomatch z] |_=>exact(show False from ty).elim
inductive aiz(K:ag)(xs:AT)(H:Hp)(Q:VK):Prop |mk x T n b(_:xs=[x,.ty n])(_:zF K H x T)(_:n∈Cb)(_:j6 T n=b)(_:Q (.bl b) H)
def JX(K:ag):AT->Hp->VK->Prop:=λxs H Q=>aiz K xs H Q
def afK:gq X (.builtin "isinstance") (JX X.K):=by intro ay s O H xs us Q I r h;let(x,T,n,b,rfl,ty,hn,rfl,q):=h;let(u,c,rfl,rx,rc):=vals2 r;cases(show c=Value.type n from rc);let(P,aks,p,hx):=XB I rx ty;erw[W.kia_one aks I.gb p (XA ty.mem hn) hx λtk=>#[.bl (j6 T n),H,I.tok _,Z,q]]
inductive aiy(K:ag)(xs:AT)(H:Hp)(Q:VK):Prop |mk (x:V)(T:String)(p:Addr)(ns:List String)(b:Bool)(_:xs=[x,.ref p])(_:H p=some (.tup (ns.map V.ty)))(_:zF K H x T)(_:(∀n∈ns,n∈Cb))(_:ns.any (j6 T)=b)(_:Q (.bl b) H)
def JW(K:ag):AT->Hp->VK->Prop:=λxs H Q=>aiy K xs H Q
theorem Xz{K:ag}{T:String}(h1:T∈Fw):∀{ns:List String},(∀n∈ns,n∈Cb)->W.kitAny K (.type T) (ns.map Value.type)=some (ns.any (j6 T)) |[],_=>rfl |n::r,h=>by let e:=XA (K:=K) h1 (h n (OH ..));let ih:=Xz (K:=K) h1 (ns:=r) λm hm=>h m (BU _ hm);rw[BV,W.kitAny,e,ID];cases j6 T n with |true=>rfl |false=>simpa using ih
theorem P7:∀{ns:List String}{us:BY},Vals (ns.map V.ty) us->us=ns.map Value.type |[],_,.nil=>rfl |n::r,_,.cons q t=>by cases(show _=Value.type n from q);rw[P7 t];rfl
def afJ:gq X (.builtin "isinstance") (JW X.K):=by intro ay s O H xs us Q I r h;let(x,T,p,ns,b,rfl,hp,ty,hn,rfl,q):=h;let(u,c,rfl,rx,rc):=vals2 r;cases(show c=Value.ref p from rc);let(P,aks,pp,hx):=XB I rx ty;let(_,its,rv,(cls,dd,dt,sl),h1,h2,n,h3):=(show gQ X.prog X.w H s.heap p (.tup (ns.map V.ty))from I.bD p _ hp);simp only at h2 h3;subst h2 h3;let e:=P7 rv;subst e;erw[W.kia_tup aks I.gb pp h1 (Xz ty.mem hn) hx λtk=>#[.bl _,H,I.tok _,Z,q]]
end
abbrev _root_.AC:=List aj
mutual
def RD(K:ag)(H:Hp):V->aj->Prop |x,.none=>x= .bP |x,.bool b=>x= .bl b |x,.int i=>x= .int i |x,.str y=>x= .str y |x,.list ds=>∃a xs,x= .ref a/\aK K H a xs/\aH K H xs ds |x,.tuple ds=>∃a xs,x= .ref a/\aW K H a xs/\aH K H xs ds |_,.dict _=>False
def aH (K:ag)(H:Hp):List V->List aj->Prop |xs,[]=>xs=[] |xs,d::ds=>∃y ys,xs=y::ys/\RD K H y d/\aH K H ys ds
end
section
variable {X:Cx}
mutual
theorem RD.reads{ay:List (Addr×Obj)}{s:ah}{O:St}{H:Hp}(I:Inv X ay O H s):∀{x:V}{u:Value}(d:aj),RelV x u->RD X.K H x d->∃as,Reads s.heap u d as |x,u,.none,r,h=>by cases(show x= .bP from by simpa[RD]using h);cases(show u=Value.none from r);erw[_,.none] |x,u,.bool b,r,h=>by cases(show x= .bl b from by simpa[RD]using h);cases(show u=Value.bool b from r);erw[_,.bool b] |x,u,.int i,r,h=>by cases(show x= .int i from by simpa[RD]using h);let(t,q):=(show∃t,u=Value.int i t from r);cases q;erw[_,.int i t] |x,u,.str y,r,h=>by cases(show x= .str y from by simpa[RD]using h);let(t,q):=(show∃t,u=Value.str y t from r);cases q;erw[_,.str y t] |x,u,.list ds,r,h=>by rw[RD]at h;let(a,xs,rfl,hx,hd):=h;cases(show u=Value.ref a from r);let(its,rv,(o,n,h1,h2,h3,h4),_):=I.list hx;let(as,q):=aH.reads I ds rv hd;erw[_,.list h1 h2 h4 (by simpa using q)] |x,u,.tuple ds,r,h=>by rw[RD]at h;let(a,xs,rfl,hx,hd):=h;cases(show u=Value.ref a from r);let(its,rv,(o,h1,h2,n,h4),_):=I.tuple hx;let(as,q):=aH.reads I ds rv hd;erw[_,.tuple h1 h2 h4 (by simpa using q)] |x,u,.dict _,r,h=>by simp[RD]at h
theorem aH.reads {ay:List (Addr×Obj)}{s:ah}{O:St}{H:Hp}(I:Inv X ay O H s):∀{xs:List V}{us:List Value}(ds:List aj),Vals xs us->aH X.K H xs ds->∃as,ReadsAll s.heap us ds as |xs,us,[],r,h=>by cases(show xs=[]from by simpa[aH]using h);cases r;erw[_,.nil] |xs,us,d::ds,r,h=>by rw[aH]at h;let(y,ys,rfl,h1,h2):=h;cases r with |cons ra rb=>let(as,q):=RD.reads I d ra h1;let(bs,q'):=aH.reads I ds rb h2;erw[_,.cons q q']
end
inductive aiG(K:ag)(x:V)(y:V)(H:Hp)(Q:VK):Prop |mk d e(_:RD K H x d)(_:RD K H y e)(_:SeqAt.shaped d=true)(_:SeqAt.shaped e=true)(_:Q (.bl (PyData.eqv d e)) H)
def JY(K:ag):R2:=λx y H Q=>aiG K x y H Q
inductive ait(K:ag)(x:V)(y:V)(H:Hp)(Q:VK):Prop |mk d e(_:RD K H x d)(_:RD K H y e)(_:SeqAt.shaped d=true)(_:SeqAt.shaped e=true)(_:Q (.bl (!PyData.eqv d e)) H)
def JT(K:ag):R2:=λx y H Q=>ait K x y H Q
def a7d(hu:X.A.units+64<cLine):eJ X (compareOp .Eq) (JY X.K):=by intro ay s O H x y v u Q I rx ry h;let(d,e,hd,he,sd,se,q):=h;let(as,ra):=RD.reads I d rx hd;let(bs,rb):=RD.reads I e ry he;erw[eq_dataH ra rb sd se hu #[.bl _,H,I,Z,q]]
def a78(hu:X.A.units+64<cLine):eJ X (compareOp .NotEq) (JT X.K):=by intro ay s O H x y v u Q I rx ry h;let(d,e,hd,he,sd,se,q):=h;let(as,ra):=RD.reads I d rx hd;let(bs,rb):=RD.reads I e ry he;erw[ne_dataH ra rb sd se hu #[.bl _,H,I,Z,q]]
end
def aI.new{t:Addr}(ht:H t=none):aI H (bn H t o):=λb o' e=>by rw[aU (e9 e ht)];erw[e]
structure Nw(H H':Hp)(p:Addr)(o:HO):Prop where
 no:H p=none
 at':H' p=some o
 ss:aI H H'
 eq:H'=bn H p o
def Nw.of(h:H p=none):Nw H (bn H p o) p o:=#[h,bQ,.new h,Z]
def HE:Ch:=["len","abs","min","max","range","isinstance","int","bool","str","tuple","list","any","all","sum","zip","enumerate","sorted","reversed","ord","chr","divmod","repr","dict","set"]
def vo (mg:bZ):Prop:=∀x∈HE,mg x=none
def vo.at{mg:bZ}(B:vo mg)(x:Str)(h: ~~~(x∈HE)):mg x=none:=B x h
theorem fE{α:Type}{C:List α->Prop}(h:∀a,C [a]):∀us:List α,⇑us=1->C us |[_],_=>h _
theorem eQ{α:Type}{C:List α->Prop}(h:∀a b,C [a,b]):∀us:List α,⇑us=2->C us |[_,_],_=>h _ _
theorem ka{α:Type}{C:List α->Prop}(h:∀a b c,C [a,b,c]):∀us:List α,⇑us=3->C us |[_,_,_],_=>h _ _ _
theorem wX{α:Type}{C:List α->Prop}(h:∀a b c d,C [a,b,c,d]):∀us:List α,⇑us=4->C us |[_,_,_,_],_=>h _ _ _ _
theorem HJ{α:Type}{C:List α->Prop}(h:∀a b c d e,C [a,b,c,d,e]):∀us:List α,⇑us=5->C us |[_,_,_,_,_],_=>h _ _ _ _ _
def Yv(N P:Ch)(sc:Scope):Bool:=decide (sc.kind= .function)&& !sc.isCoroutine&& !sc.isGenerator&&decide N.Nodup&&decide (N.take ⇑P=P)&&P.all (λx=>decide (sc.names.lookup x=some .local\/sc.names.lookup x=some .cell))&&sc.names.all λy=>decide (y.2≠ .free)
def bJ{P:Ch}(h:Yv N P sc=true):bA N P sc:=by unfold Yv at h;simp only[gU,Oc,OT,jw]at h;let((((((h1,h2),h3),h4),h5),h6),h7):=h;erw[h1,h2,h3,h4,h5,h6,h7]
structure FA(K:ag)(mg:bZ)(x:Str)(st:Stmt):Prop where ex:∃f fd,mg x=some (.ref f)/\nU K x x st f fd
def bG(P:ai)(w:World)(K:ag)(mg:bZ)(aB:Heap)(x:Str)(k:Nat)(sp:Sp):Prop:=∃f fd ps,iX P w K mg aB je k f fd ps sp/\mg x=some (.ref f)/\W.keepIn K (.ref f)=true/\Binds K fd ps []
section
variable {P:ai}{w:World}{K:ag}{mg:bZ}{aB:Heap}
def ad1{h:Heap}{x:Str}{st:Stmt}{f:Addr}{oc:Value}{od an:Option Addr}{gN:Array (Option Value)}{kV doc pm aO ct:Value}(X:K.In h)(G:h.Ns mainGlobals mg) (a:W.nsIn K mainGlobals x=some (some (.ref f))) (l:K.lookup f=some #[oc,od,.func (W.fnOf x x (nP st) (iK st) (aY st) .none kV doc pm an aO ct),gN]) (c:W.codeIn K aO x=true)(k:W.keepIn K (.ref f)=true):FA K mg x st:=#[f,_,zQ X G a,Hg l c k]
def FA.has{x:Str}{st:Stmt}{N ps:Ch}{k:Nat}{sp:Sp}(F:FA K mg x st)(S:bA N ps (aY st))(len:∀vs H Q E,sp vs H Q E->⇑vs=ps.length) (hb:∀(kV doc pm:Value)(an:Option Addr)(aO ct:Value)(us:BY),⇑us=ps.length->bindArgs (W.fnOf x x (nP st) (iK st) (aY st) .none kV doc pm an aO ct) #[us,[]]=pure (ps.zip us)) (jV:∀(f:Addr)(aO:Value)(A:ak)(outer:Cl)(s:ah)(H:Hp)(vs:AT)(Q:VK)(E:XK),dI k (A.deeper (envOfC x (aY st) s.heap.objs.size f aO))->sp vs H Q E->∃t,iW (jY je P w K mg aB N x (aY st) f aO A outer s H E).ux (iK st) t/\t {nx:=λ_ H'=>Q .bP H',rt:=Q} (start N vs) H):bG P w K mg aB x (k+1) sp:=by let(f,fd,hm,F):=F.ex;erw[f,fd,ps,F.ok S len λaO A outer s H vs Q E=>jV f aO A outer s H vs Q E,hm,F.kp,F.binds hb]
end
section
variable {X:Cx}{k:Nat}{x:Str}{p pos:Pos}{e:Expr}{es:Cn}{t:TA}{sp:Sp}
def PF(sp:Sp)(t:TA):TE:=λO H Q=>t O H λvs H1=>sp vs H1 Q E0
def uo(F:bG X.prog X.w X.K X.mg X.aB x k sp)(hr:dI k X.A)(hg:Gl X x)(ha:PA X (e::es) t)(jU: ~~~((x==("__debug__":Str))=false)) (he:↥(starEach (e::es) X.env=(false,eval e X.env)::starEach es X.env))(ib:↥((backTo pos (starEach es X.env)).any (·.1)=false)): PE X (.Call (.Name x p) (e::es) [] pos) (PF sp t):=by
 let(f,fd,ps,F,hm,hk,hb):=F;let h:=a6R (pos:=pos) (p:=p) F hr hg hm hk hb .nil Gh ha jU he ib;intro ay s O H Q I hq;erw[h ay s O H Q I ?_];let e1:(λ(vs:AT) H1=>sp (vs++[]) H1 Q E0)=λvs H1=>sp vs H1 Q E0:=by funext vs H1;rw[o8]
 show t O H λvs H1=>sp (vs++[]) H1 Q E0;rw[e1];erw[hq]
def pf(F:bG X.prog X.w X.K X.mg X.aB x j sp)(hr:dI k X.A)(ha:PA X (e::es) t)(hjk: ~~~(j<=k))(hg:↥(Gl X x))(jU: ~~~((x==("__debug__":Str))=false))(he:↥(starEach (e::es) X.env=(false,eval e X.env)::starEach es X.env))(ib:↥((backTo pos (starEach es X.env)).any (·.1)=false)):PE X (.Call (.Name x p) (e::es) [] pos) (PF sp t):=uo F (hr.sK hjk) hg ha jU he ib
def bO:eJ X (binaryOp .Mult) (rI (λi j=>IntMulOk i j) λi j=>.int (i*j)):=CM λ_ _ _ _ _ _ _ hc q=>mul_int q hc
def a7c:eJ X (compareOp .Eq) (nk λi j=>.bl (decide (i=j))):=AB λ_ _ _ _ _ _ _ q=>eq_int (by rw[NE];erw[q])
def a77:eJ X (compareOp .NotEq) (nk λi j=>.bl (!decide (i=j))):=AB λ_ _ _ _ _ _ _ q=>ne_int (by rw[bne,NE];erw[q])
def a7e(hu:X.A.units+64<cLine):eJ X (compareOp .Eq) (λx y H Q=>nk (λi j=>.bl (decide (i=j))) x y H Q\/JY X.K x y H Q):=a7c.or (a7d hu)
def a79(hu:X.A.units+64<cLine):eJ X (compareOp .NotEq) (λx y H Q=>nk (λi j=>.bl (!decide (i=j))) x y H Q\/JT X.K x y H Q):=a77.or (a78 hu)
mutual
theorem eqv_refl:∀d:aj,d.canLay0=true->PyData.eqv d d=true | .none,_=>by simp[PyData.eqv] | .bool b,_=>by simp[PyData.eqv] | .int i,_=>by simp[PyData.eqv] | .str x,_=>by simp[PyData.eqv] | .list ds,h=>by simp only[PyData.eqv];erw[eqvAll_refl ds (by simpa[PyData.canLay0]using h)] | .tuple ds,h=>by simp only[PyData.eqv];erw[eqvAll_refl ds (by simpa[PyData.canLay0]using h)] | .dict _,h=>by simp[PyData.canLay0]at h
theorem eqvAll_refl:∀ds:List aj,PyData.canLayAll0 ds=true->PyData.eqvAll ds ds=true |[],_=>by simp[PyData.eqvAll] |d::ds,h=>by simp only[PyData.canLayAll0,gU]at h;simp only[PyData.eqvAll,gU];erw[eqv_refl d h.1,eqvAll_refl ds h.2]
end
def vQ{K:ag}(b:Bool):RD K H (.bl b) (.bool b):=by simp[RD]
def eB{K:ag}(i:Int):RD K H (.int i) (.int i):=by simp[RD]
def cF{K:ag}(x:Str):RD K H (.str x) (.str x):=by simp[RD]
def G6{K:ag}:RD K H .bP .none:=by simp[RD]
def gD{K:ag}{H:Hp}{p:Addr}{xs:AT}{ds:AC}(h:aW K H p xs)(r:aH K H xs ds):RD K H (.ref p) (.tuple ds):=by rw[RD];erw[p,xs,Z,h,r]
def rP{K:ag}{H:Hp}{p:Addr}{xs:AT}{ds:AC}(h:aK K H p xs)(r:aH K H xs ds):RD K H (.ref p) (.list ds):=by rw[RD];erw[p,xs,Z,h,r]
def cQ{K:ag}:aH K H [] []:=by simp[aH]
def cm{K:ag}{H:Hp}{x:V}{xs:AT}{d:aj}{ds:AC}(h:RD K H x d)(r:aH K H xs ds):aH K H (x::xs) (d::ds):=by rw[aH];erw[x,xs,Z,h,r]
inductive agT(t:TS)(D:Ends)(O:St)(H:Hp):Prop |mk (O1:St->Hp->Prop)(_:t {D with nx:=O1} O H)(_:∀σ' H',O1 σ' H'->D.nx σ' H')
def a2X(t:TS):TS:=λD O H=>agT t D O H
def jQ{st:Stmt}{t:TS}(h:PS X st t):PS X st (a2X t):=by intro ay s O H D I hq;let(O1,q,m):=hq;erw[bo (h ay s O H _ I q) λf s1 q1=>?_];cases f with |next=>let(σ',H',I',q'):=q1;erw[σ',H',I',m _ _ q'] |brk=>erw[q1] |cont=>erw[q1] |ret u=>erw[q1]
end
def wY(K:ag)(xs:Ch):Prop:=∀x∈xs,W.nsIn K mainGlobals x=some none
def wY.nil{K:ag}:wY K []:=λ_ h=>nomatch h
def wY.cons{K:ag}(a:W.nsIn K mainGlobals x=some none)(r:wY K xs):wY K (x::xs):=λy hy=>by
 rcases dj.mp hy with e|e
 ·rw[e];erw[a]
 ·erw[r y e]
def afY{K:ag}{mg:bZ}(X:K.In h)(G:h.Ns mainGlobals mg)(a:wY K HE):vo mg:=λx hx=>W.mg_none_of X G (a x hx)
def aa5{l:W.OpenLaw}{q:ai}{loose:Ch}{XP:(bZ)->Heap->Prop}{YP:World->Heap->Prop}{d:DefRec}{K:Params->ag}{k:Nat}{x:Str}{st:Stmt}(hn:l.most=some 63)(DG:d.params.defaults=[]) (hr:dI k callerA)(hY:∀(w:World)(h:Heap),YP w h->(K w.params).In h)(All:ag->(bZ)->Prop) (F:∀(w:World)(mg:bZ)(h:Heap),(K w.params).In h->h.Ns mainGlobals mg->All (K w.params) mg) (L:∀(K:ag)(mg:bZ),All K mg->FA K mg d.name st) (hb:∀(kV doc pm:Value)(an:Option Addr)(aO ct u:Value),bindArgs (W.fnOf d.name d.name (nP st) (iK st) (aY st) .none kV doc pm an aO ct) #[[u],[]]=pure [(x,u)]) (ok:∀(P:ai)(w:World)(K:ag)(mg:bZ)(aB:Heap)(f:Addr)(fd:FuncData),All K mg->nU K d.name d.name st f fd->iX P w K mg aB je k f fd [x] (λvs H Q _=>∃(a:Addr)(ns:Ar),vs=[.ref a]/\aK K H a (ns.map V.int)/\⇑ns<=63/\∀H',Q (.bl true) H')): W.WalkO q loose XP YP l.row.toRowW d [] (λf vs=>PySem.call f vs):=_L.a1X (n:=63) (k:=k) (x:=x) (CX:=λ_=>je) (sp:=λw=>λvs H Q _=>∃(a:Addr)(ns:Ar),vs=[.ref a]/\aK (K w.params) H a (ns.map V.int)/\⇑ns<=63/\∀H',Q (.bl true) H') hn aw DG hr hY (λw mg fa h KX G DE=>by
 let A:=F w mg h KX G;let(f,fd,hm,Fn):=(L _ _ A).ex;let e:fa=f:=by rw[DE]at hm;injection (fm hm)
 subst e;erw[fd,λs u=>?_,λaB _ _=>ok l.prog w _ mg aB fa fd A Fn];let(oc,od,kV,doc,pm,an,aO,ct,gN,rfl,lk,gE):=Fn.ex;erw[.of_eq (hb kV doc pm an aO ct u)]) (λ_ _ a ns hl _ hS=>#[a,ns,Z,hS,hl,λ_=>rfl]) λ_ _ _ _ _ z=>z
theorem Nh{env:Env}:∀(ns:List (Str×NameKind))(cs:List (Str×Addr)),(∀x∈ns,x.2= .free->∃c,env.cells.lookup x.1=some c)->(∀x c,cs.lookup x=some c->env.cells.lookup x=some c)->∃cl,(forIn ns cs (λx r=>if(x.2==NameKind.free)=true then do let a<-cellOf env x.1;pure (ForInStep.yield ((x.1,a)::r))else pure (ForInStep.yield r)):Sem (List (Str×Addr)))=pure cl/\(∀x c,cl.lookup x=some c->env.cells.lookup x=some c)/\(∀x c,cs.lookup x=some c->∃c',cl.lookup x=some c')/\∀x∈ns,x.2= .free->∃c,cl.lookup x.1=some c
 |[],cs,_,h2=>#[cs,Z,h2,λx c e=>#[c,e],λ_ h=>nomatch h] |(n,k)::r,cs,h1,h2=>by
  by_cases hk:k= .free
  ·subst hk
   let(c,hc):=h1 (n,.free) (.head _) rfl;let e1:cellOf env n=pure c:=by unfold cellOf;rw[show env.cells.lookup n=some c from hc]
   let(cl,a1,a2,a3,a4):=Nh r ((n,c)::cs) (λx hx=>h1 x (.tail _ hx)) (λx d e=>by rw[mR]at e;cases z:x==n with |true=>rw[z]at e;cases e;rw[gf.mp z];erw[hc] |false=>rw[z]at e;erw[h2 x d e]);erw[cl,?_,a2,λx d e=>?_,λx hx hf=>?_]
   ·rw[OL]
    show(do let r'<-(if(NameKind.free==NameKind.free)=true then do let a<-cellOf env n;pure (ForInStep.yield ((n,a)::cs))else pure (ForInStep.yield cs));_)=_;rw[aR (by rfl),e1];erw[a1]
   ·by_cases z:x==n
    ·erw[a3 x c (by rw[mR,z])]
    ·erw[a3 x d (by rw[mR,A0.mpr z];erw[e])]
   ·rcases dj.mp hx with rfl|hx
    ·erw[a3 n c (by rw[mR,Ij])]
    ·erw[a4 x hx hf]
  ·let(cl,a1,a2,a3,a4):=Nh r cs (λx hx=>h1 x (.tail _ hx)) h2
   erw[cl,?_,a2,a3,λx hx hf=>?_]
   ·rw[OL]
    show(do let r'<-(if(k==NameKind.free)=true then do let a<-cellOf env n;pure (ForInStep.yield ((n,a)::cs))else pure (ForInStep.yield cs));_)=_;rw[aV (by simpa using hk)];erw[a1]
   ·rcases dj.mp hx with rfl|hx
    ·erw[absurd hf hk]
    ·erw[a4 x hx hf]
def Ni(h1:∀x∈scope.names,x.2= .free->∃c,env.cells.lookup x.1=some c): ∃cl,closureFor scope env=pure cl/\(∀x c,cl.lookup x=some c->env.cells.lookup x=some c)/\∀x∈scope.names,x.2= .free->∃c,cl.lookup x.1=some c:=by
 let(cl,a1,a2,_,a4):=Nh (env:=env) scope.names [] h1 (λx c e=>nomatch e);erw[cl,?_,a2,a4];unfold closureFor;show(forIn scope.names ([]:List (Str×Addr)) (λ(x:Str×NameKind) r=>match x with|(name,kind)=>if(kind==NameKind.free)=true then do let a<-cellOf env name;pure (ForInStep.yield ((name,a)::r))else pure (ForInStep.yield r))>>=λr=>(pure r:Sem (List (Str×Addr))))=pure cl;let ef:(λ(x:Str×NameKind)(r:List (Str×Addr))=>match x with|(name,kind)=>(if(kind==NameKind.free)=true then do let a<-cellOf env name;pure (ForInStep.yield ((name,a)::r))else pure (ForInStep.yield r):Sem (ForInStep (List (Str×Addr))))) =λx r=>if(x.2==NameKind.free)=true then do let a<-cellOf env x.1;pure (ForInStep.yield ((x.1,a)::r))else pure (ForInStep.yield r):=by funext x r;let(n,k):=x;rfl
 rw[ef,a1];rfl
theorem Xi{env:Env}(hk:env.scope.kind= .function){x:Str}(hx:env.kindOf x=some .cell):∀{names:List (Str×NameKind)},names.lookup x=some .free->(names.map λ(n,k)=>if(k==NameKind.free&&env.scope.kind== .function&&env.kindOf n==some .cell)then(n,NameKind.cell)else(n,k)).lookup x=some .cell |[],h=>nomatch h |(n,k)::r,h=>by let ih:=@Xi env hk x hx r;show List.lookup x ((if(k==NameKind.free&&env.scope.kind== .function&&env.kindOf n==some .cell)=true then(n,NameKind.cell)else(n,k))::_)=_;cases z:x==n with |true=>simp only[mR,z]at h;cases h;let e:=gf.mp z;subst e;rw[aR (by rw[hk,hx];rfl),mR,z] |false=>simp only[mR,z]at h;split<;>(simp only[mR,z];erw[ih h])
def dR(X:Cx)(N:Ch)(scope:Scope)(cl:List (Str×Addr))(s:ah)(H:Hp)(fp:DO)(ay:By):Cx:={prog:=X.prog,w:=X.w,K:=X.K,mg:=X.mg,aB:=X.aB,A:=X.A,N:=N,s₀:=s,H₀:=H,env:=compEnvC scope cl s.heap.objs.size X.env,outer:=X.stack,stack:=X.stack,ex:=fp,fn:=λ_=>false,calm:=X.calm,pn:=X.pn++ay,xe:=λ_ _=>False}
def stC(js:List (Option Nat))(O:St):St:=js.map λ|none=>none|some j=>(O[j]?).join
def Ej(X:Cx)(N:Ch)(js:List (Option Nat))(scope:Scope):Bool:=⇑N==js.length&&(N.zip js).all λp=>match p.2 with|none=>true|some j=>X.N[j]? ==some p.1&&scope.names.lookup p.1==some NameKind.free&&X.env.kindOf p.1==some NameKind.cell
def wQ(X:Cx)(scope:Scope):Bool:=scope.kind== .function&&X.env.scope.kind== .function&&scope.names.all λx=>match x.2 with | .free=>X.env.kindOf x.1==some NameKind.cell | .cell=>false | .local=>scope.names.lookup x.1==some NameKind.local |_=>true
section
variable {X:Cx}{ay:By}{O:St}{H:Hp}{s:ah}
theorem lookup_mem{α β:Type}[BEq α][LawfulBEq α]:∀{l:List (α×β)}{x:α}{b:β},l.lookup x=some b->(x,b)∈l |[],_,_,h=>nomatch h |(n,k)::r,x,b,h=>by rw[mR]at h;cases z:x==n with |true=>rw[z]at h;cases h;rw[gf.mp z];erw[.head _] |false=>rw[z]at h;erw[.tail _ (lookup_mem h)]
theorem Vj{env:Env}{x:Str}{k:NameKind}:∀{names:List (Str×NameKind)},(names.map λ(n,k)=>if(k==NameKind.free&&env.scope.kind== .function&&env.kindOf n==some .cell)then(n,NameKind.cell)else(n,k)).lookup x=some k->names.lookup x=some k\/(k= .cell/\names.lookup x=some .free) |[],h=>nomatch h |(n,k')::r,h=>by let ih:=@Vj env x k r;let h':List.lookup x ((if(k'==NameKind.free&&env.scope.kind== .function&&env.kindOf n==some .cell)=true then(n,NameKind.cell)else(n,k'))::(r.map λ(n,k)=>if(k==NameKind.free&&env.scope.kind== .function&&env.kindOf n==some .cell)then(n,NameKind.cell)else(n,k)))=some k:=h;cases z:x==n with
 |true=>
  split at h'
  ·rename_i hc
   simp only[mR,z]at h';cases h';rw[gU,gU]at hc;let e:k'= .free:=gf.mp hc.1.1;subst e;erw[.inr #[Z,by rw[mR,z]]]
  ·simp only[mR,z]at h'
   cases h';erw[.inl (by rw[mR,z])] |false=>
  rw[mR,z];erw[ih ?_];split at h'
  ·simpa only[mR,z]using h'
  ·simpa only[mR,z]using h'
def Inv.comp{N:Ch}{js:List (Option Nat)}{cl:List (Str×Addr)}{fp:DO}{tk:Nat}(I:Inv X ay O H s)(hN:Ej X N js scope=true)(hS:wQ X scope=true) (c1:∀x c,cl.lookup x=some c->X.env.cells.lookup x=some c)(c2:∀x∈scope.names,x.2= .free->∃c,cl.lookup x.1=some c)(hf:∀b∈fp,m5 X ay H b)(hfl:∀b∈fp,b<s.heap.objs.size) (hn:h'.Ns s.heap.objs.size λ_=>none)(hk:∀b o,s.heap.get? b=some o->h'.get? b=some o):Inv (dR X N scope cl s H fp ay) [] (stC js O) H {s with heap:=h',toks:=tk}:=by
 unfold wQ at hS;rw[gU,gU]at hS;let((s1,s2),s3):=hS;let nJ:scope.kind= .function:=gf.mp s1;let abh:X.env.scope.kind= .function:=gf.mp s2;unfold Ej at hN;rw[gU]at hN;let(n1,n2):=hN;let hlen:⇑N=js.length:=gf.mp n1;let XS:∀x k,(relabel scope X.env).names.lookup x=some k->scope.names.lookup x=some k\/(k= .cell/\scope.names.lookup x=some .free):=λx k e=>Vj e;let a8J:∀x,scope.names.lookup x≠some .cell:=λx e=>by have:=jw.mp s3 _ (lookup_mem e);erw[ko this]
 let Yu:∀b∈(dR X N scope cl s H fp ay).fs,b∈X.env.locals::X.fs:=I.J3;let ok:(dR X N scope cl s H fp ay).Ok:={
  mod:=I.ok.mod
  kind:=nJ
  glob:=I.ok.glob
  blt:=I.ok.blt
  above:=aZ _
  inj:=λx y c e1 e2=>I.ok.inj x y c (c1 x c e1) (c1 y c e2)
  has:=λx hx=>by
   let fr:scope.names.lookup x=some .free->∃c,cl.lookup x=some c:=λe=>c2 (x,.free) (lookup_mem e) rfl;rcases hx with e|e
   ·rcases XS x _ e with e|⟨_,e⟩
    ·erw[absurd e (a8J x)]
    ·erw[fr e]
   ·rcases XS x _ e with e|⟨z,_⟩
    ·erw[fr e]
    ·cases z
  wR:=λx c e=>nomatch e
  hd:=I.ok.hd
  frames:=I.ok.frames
  xN:=.inl rfl
  DV:=λb hb=>#[fo (hfl b hb),λx c e=>(hf b hb).2.2.2.2.1 x c (c1 x c e)]
  bs:=I.bs
  oQ:=cL I.ok.oQ I.sz
  vV:=λb o e hb=>by
   rcases(hf b hb).2.2.2.1 with z|z
   ·erw[I.ok.vV b o e z]
   ·erw[absurd (dJ (cP e) (cL I.ok.oQ z)) (xu _)]
  sT:=λb hb z=>by
   let(_,q1,q2,_):=hf b hb;rcases dj.mp (Yu b z)with e|e
   ·erw[q1 e]
   ·erw[q2 e]
  lQ:=I.stack
  qG:=I.FO};erw[ok,Z,I.bare,Un.kept hk,#[_,hn,λi x v e1 e2 e3=>?_],λx c e=>?_,I.bD.fresh (aZ _),λx c e=>I.mH x c (c1 x c e),λp hp=>?_,I.bD.kept hk,?_]
 ·let wD:(js.map λ|none=>none|some j=>(O[j]?).join)[i]? =some (some v):=e2
  rw[bV]at wD;cases hj:js[i]? with |none=>rw[hj]at wD;cases wD |some o=>rw[hj]at wD;cases o with |none=>cases wD |some j=>
   let hz:(N.zip js)[i]? =some (x,some j):=by rw[OJ];erw[e1,hj]
   let ZU:=jw.mp n2 _ (gA hz);simp only[gU,gf]at ZU;let((h1,h2),h3):=ZU;let Hn:(O[j]?).join=some v:=by simpa using wD
   let hσ:O[j]? =some (some v):=by cases q:O[j]? with |none=>rw[q]at Hn;cases Hn |some o=>
    rw[q]at Hn;have:o=some v:=by simpa using Hn
    rw[this]
   let(m,hm,hl):=I.loc;let(u,r,l):=hl j x v h1 hσ (.inr (.inl h3));erw[u,r,?_];rcases l with⟨k,_⟩|⟨_,c,hc,sL⟩
   ·rw[h3]at k;cases k
   ·let(c',kP):=c2 (x,.free) (lookup_mem h2) rfl
    have:=c1 x c' kP;rw[hc]at this;cases this;erw[.inr #[.inl (Xi abh h3 h2),c,kP,?_]];let(ob,ho,hd):=sL;erw[ob,hk _ _ ho,hd]
 ·let(v,ob,ho,hd):=I.cell x c (c1 x c e)
  erw[v,ob,hk _ _ ho,hd]
 ·let GR:p∈X.pn++ay:=by simpa[dR]using hp
  let(a1,a2,a3,a4,a5):=I.pin p GR;erw[hk _ _ a1,a2,fo (cP a1),λz=>?_,a5];rcases dj.mp (Yu p.1 z)with e|e
  ·erw[a3 e]
  ·erw[a4 e]
 ·show⇑(js.map _)=N.length
  rw[bC,hlen]
end
theorem ZQ{prog:ai}{w:World}{A:ak}{R:Result->ah->Prop}{s:ah}{elt target iter:Expr}{ifs:Cn}{scope:Scope}{pos:Pos}{it acc:Value}{env:Env}(I:Nat->ah->Prop) (turn:∀n s,I n s->wpAny (model prog w) A (pyNext it) (λr s₁=>match r with |none=>R (.ok .next) s₁ |some v=>wpAny (model prog w) A (letOwnedTupleGo target it v) (λ_ s₁=>wpAny (model prog w) A (assign target env v) (λ_ s₂=>wpAny (model prog w) A (forIn ifs true λc r=>if r=true then do let ok<-isTrue c env (eval c env);pure (ForInStep.yield ok)else pure (ForInStep.yield r)) (λok s₃=>if ok=true then wpAny (model prog w) A (eval elt env) (λx s₄=>wpAny (model prog w) A (call (.builtin "list.append") [acc,x]) (λ_ s₅=>∃m,m<n/\I m s₅) (λ_ _=>False) s₄) (λ_ _=>False) s₃ else∃m,m<n/\I m s₃) (λ_ _=>False) s₂) (λ_ _=>False) s₁) (λ_ _=>False) s₁) (λ_ _=>False) s) (n:Nat)(h:I n s):codeAny (model prog w) A (.compLoop (.ListComp elt [#[target,iter,ifs,0]] scope pos) 0 it acc env) R s:=by erw[codeAny_loop Z I (λn s hI=>?_) n h];show wpAny _ A ((compTurn (.ListComp elt [#[target,iter,ifs,0]] scope pos) 0 it acc env).onRaise (λx=>do noteFrame x env;theTreesLotGoes x)) _ _ s;erw[wpAny_noted ?_];rw[compTurn_list];erw[aL (tJ (aL (gr (turn n s hI) (λr s₁ h₁=>?_) λ_ _ h'=>h'.elim)))];cases r with |none=>erw[bU h₁] |some v=>erw[aL (gr h₁ (λ_ PQ h₁=>?_) λ_ _ h'=>h'.elim),B,aL (gr h₁ (λ_ s₂ h₂=>aL (gr h₂ (λok s₃ h₃=>?_) λ_ _ h'=>h'.elim)) λ_ _ h'=>h'.elim)];cases ok with |false=>erw[bU #[Z,h₃]] |true=>erw[aL (aL (gr h₃ (λx s₄ h₄=>aL (gr h₄ (λ_ s₅ h₅=>bU (bU #[Z,h₅])) λ_ _ h'=>h'.elim)) λ_ _ h'=>h'.elim))]
def NW(X:Cx)(ifs:Cn)(t:TT):Prop:=∀(ay:By)(s:ah)(O:St)(H:Hp)(Q:Bool->Hp->Prop),Inv X ay O H s->t O H Q->wpAny (model X.prog X.w) X.A (forIn ifs true λc r=>if r=true then do let ok<-isTrue c X.env (eval c X.env);pure (ForInStep.yield ok)else pure (ForInStep.yield r)) (TP X ay O Q) X.xe s
def kJ:TT:=λ_ H Q=>Q true H
def fZ:NW X [] kJ:=λ_ _ _ H _ I h=>j0d #[H,I,h]
def m6(J:It)(g:TG)(tt:TT)(te:TE)(Q:VK)(D:Addr)(O:St)(H:Hp):Prop:=∃W:Nat->Nat->St->Hp->Prop,(∃m,W 0 m O H)/\∀i m σ' H',W i m σ' H'->(J.stop i H'/\Q (.ref D) H')\/(J.go i H'/\∀x H2,J.kI i H' x H2->g x σ' H2 λσ3 H3=>tt σ3 H3 λok H4=>if ok=true then te σ3 H4 λy H5=>∃ys,H5 D=some (.bi ys)/\⇑ys<sizeLine/\∃m',m'<m/\W (i+1) m' σ3 (bn H5 D (.bi (ys++[y]))) else∃m',m'<m/\W (i+1) m' σ3 H4)
def PH(js:List (Option Nat))(wi:TI)(g:TG)(tt:TT)(te:TE):TE:=λO H Q=>wi O H λJ H1=>∀D H2,Nw H1 H2 D (.bi [])->m6 J g tt te Q D (stC js O) H2
def fF.but{P:ai}{w:World}{C:Addr}(ok:fF P w H h)(hn:H C=none)(hs:Heap.SameBut C h h'):fF P w H h':=λb ob e=>by
 refine(ok b ob e).oZ (λc w' hc q=>(hs.2 c ?_).ao q) (λ_ q=>q) λ_ _ q=>q;rintro rfl;rcases hc with rfl|hc
 ·rw[hn]at e;cases e
 ·rw[hn]at hc;cases hc
set_option maxHeartbeats 1000000 in
def gX{X:Cx}{N:Ch}{js:List (Option Nat)}{elt tg iter:Expr}{ifs:Cn}{scope:Scope}{pos:Pos}{wi:TI}{g:TG}{tt:TT}{te:TE}(hc:X.calm=true)(hN:Ej X N js scope=true)(hS:wQ X scope=true) (hi:PI X tg iter wi)(hg:∀cl s H fp ay,PG (dR X N scope cl s H fp ay) tg g)(ht:∀cl s H fp ay,NW (dR X N scope cl s H fp ay) ifs tt)(he:∀cl s H fp ay,PE (dR X N scope cl s H fp ay) elt te) (hs:↥(↥(∀x,foldedSetIterable iter X.env x=pure x))):PE X (.ListComp elt [#[tg,iter,ifs,0]] scope pos) (PH js wi g tt te):=by
 intro ay s O H Q I h;let qC:=hS;unfold wQ at qC;rw[gU,gU]at qC;let((k1,k2),k3):=qC;let nJ:scope.kind= .function:=gf.mp k1;let wu:∀x∈scope.names,x.2= .free->∃c,X.env.cells.lookup x.1=some c:=λx hx e=>by have:=jw.mp k3 x hx;rw[e]at this;erw[I.ok.has x.1 (.inl (gf.mp this))]
 let sL:∀x∈scope.names,x.2≠ .cell:=λx hx e=>by have:=jw.mp k3 x hx;rw[e]at this;erw[ko this]
 let DD:∀x∈scope.names,x.2= .local->scope.names.lookup x.1=some .local:=λx hx e=>by have:=jw.mp k3 x hx;rw[e]at this;erw[gf.mp this]
 let(cl,DJ,c1,c2):=Ni wu;rw[eval_ListComp];erw[a1e (use:=none) Z hs DJ nJ DD (bo (hi ay s O H _ I h) λv s1 h1=>bo h1 λDt s2 h2=>?_)];let(it,fp,tn,J,H2,e,I2,T,rK,f2,h2):=h2;subst e;let hD:H2 s2.heap.objs.size=none:=I2.bD.fresh (aZ _);let(W,(m0,w0),turn):=h2 _ _ (Nw.of hD);erw[tK (a1d sL (by intro y hy;simp at hy) (λh₁ wj we=>?_) nJ)];let qH:∀b∈fp,b<s2.heap.objs.size:=λb hb=>by let(o,e,_):=T.obj _ _ rK b hb;erw[cP e]
 let I3:Inv X ay O (bn H2 s2.heap.objs.size (.bi [])) {s2 with heap:=s2.heap.push {cls:=.type "list",dict:=none,data:=.seq ([]:BY).toArray}}:=I2.GC (its:=[]) (t':=s2.toks) .nil (fR _);generalize wz:s2.heap.push {cls:=.type "list",dict:=none,data:=.seq ([]:BY).toArray}=h3 at I3 wj we;let vE:h3.objs.size=s2.heap.objs.size+1:=by rw[<-wz,tR]
 let Dr:∀b o,s2.heap.get? b=some o->h3.get? b=some o:=λb o e=>by rw[<-wz];erw[cR _ e]
 let f3:∀b∈fp,m5 X ay (bn H2 s2.heap.objs.size (.bi [])) b:=λb hb=>#[by rw[aU (fo (qH b hb))];exact(f2 b hb).1,(f2 b hb).2];let wc:∀b o,h3.get? b=some o->h₁.get? b=some o:=λb o e=>(we.2 b (fo (cP e))).ao (cR _ e);let I4:Inv (dR X N scope cl {s2 with heap:=h3} (bn H2 s2.heap.objs.size (.bi [])) fp ay) [] (stC js O) (bn H2 s2.heap.objs.size (.bi [])) {s2 with heap:=h₁,toks:=s2.toks+⇑([]:List (Str×Value))}:=I3.comp (s:={s2 with heap:=h3}) hN hS c1 c2 f3 (λb hb=>by show b<h3.objs.size;rw[vE];erw[EY (qH b hb)]) (by simpa using wj) wc;let vF:tn 0 h₁:=T.keep _ _ _ rK λb _ o e=>wc b o (Dr b o e);let loop:codeAny (model X.prog X.w) X.A (.compLoop (.ListComp elt [#[tg,iter,ifs,0]] scope pos) 0 (.ref it) (.ref s2.heap.objs.size) (compEnvC scope cl h3.objs.size X.env)) (compPost (model X.prog X.w) X.A X.xe none (EP X ay O Q) (.ref s2.heap.objs.size) h3.objs.size) {s2 with heap:=h₁,toks:=s2.toks+⇑([]:List (Str×Value))}:=by
  erw[ZQ (λn s'=>∃i σ' H',Inv (dR X N scope cl {s2 with heap:=h3} (bn H2 s2.heap.objs.size (.bi [])) fp ay) [] σ' H' s'/\tn i s'.heap/\(∀b∈fp,H' b=none)/\W i n σ' H') ?_ m0 #[0,xz,I4,vF,λb hb=>(f3 b hb).1,w0]];rintro n s5 ⟨i,σ5,H5,I5,p4,sP,w5⟩;let me:∀{H':Hp},(∀b∈fp,H' b=none)->∀b∈fp,m5 (dR X N scope cl {s2 with heap:=h3} (bn H2 s2.heap.objs.size (.bi [])) fp ay) [] H' b:=λ{H'} hn b hb=>by
   let(_,q1,q2,q3,q4,q5):=f3 b hb;erw[hn b hb,λz=>?_,I4.ok.sT b hb,.inl hb,λx c e=>q4 x c (c1 x c e),λp hp=>q5 p (by simpa[dR]using hp)];let bu:b<h3.objs.size:=by rw[vE];erw[EY (qH b hb)]
   erw[fo bu z]
  rcases turn i n σ5 H5 w5 with⟨stop,qn⟩|⟨go,step⟩
  ·erw[bo (T.done (dR X N scope cl {s2 with heap:=h3} (bn H2 s2.heap.objs.size (.bi [])) fp ay) rfl rfl rfl hc i [] s5 σ5 H5 _ I5 (me sP) p4 stop) λr s6 #[hr,I6]=>?_]
   subst hr;let(m,hm,_):=I6.loc;erw[m,hm,λh7 uJ=>?_];let u0:Un (gG X.stack) fp (bn H2 s2.heap.objs.size (.bi [])) H5 h3 s6.heap:=I6.aB;let ne:∀b o,h3.get? b=some o->b≠h3.objs.size:=λb o e=>fo (cP e);let u:Un (gG X.stack) fp (bn H2 s2.heap.objs.size (.bi [])) H5 h3 h7:=#[λb o e n hb hx=>(uJ.2 b (ne b o e)).ao (u0.keep b o e n hb hx),λb o e n hb hx=>let#[sl,q]:=u0.slot b o e n hb hx;#[sl,(uJ.2 b (ne b o e)).ao q],u0.free,λb o e hx=>let#[o',q]:=u0.there b o e hx;#[o',(uJ.2 b (ne b o e)).ao q],u0.mY,u0.mG,u0.ng];let I7:Inv X ay O H5 {s6 with heap:=h7}:=I3.Em (s':={s6 with heap:=h7}) (ch:=fp) I6.os u (I6.bD.but I6.free uJ) I6.bare λb hb=>#[(f3 b hb).2.2.2.1,(f3 b hb).2.1,(f3 b hb).2.2.2.2.1,(f3 b hb).2.2.2.2.2];erw[.ref s2.heap.objs.size,H5,I7,Z,qn]
  ·erw[bo (T.item (dR X N scope cl {s2 with heap:=h3} (bn H2 s2.heap.objs.size (.bi [])) fp ay) rfl rfl rfl hc i [] s5 σ5 H5 _ I5 (me sP) p4 go) λr s6 #[u,hr,h6]=>?_]
   subst hr;erw[bo h6 λ_ s7 #[x,H7,I7,r7,y7,om,DT]=>?_];let EJ:=I7.pinned (me DT) (T.obj _ _ om);erw[bo (hg _ _ _ _ _ _ s7 σ5 H7 x u _ EJ r7 (step x H7 y7)) λ_ s8 #[σ8,H8,I8,q8]=>?_,B,bo (ht _ _ _ _ _ _ s8 σ8 H8 _ I8 q8) λok s9 #[H9,I9,q9]=>?_];let again:∀{s':ah}{σ7:St}{H7:Hp},Inv (dR X N scope cl {s2 with heap:=h3} (bn H2 s2.heap.objs.size (.bi [])) fp ay) ([]++uj fp s7.heap) σ7 H7 s'->(∃m',m'<n/\W (i+1) m' σ7 H7)->∃m,m<n/\∃i σ' H',Inv (dR X N scope cl {s2 with heap:=h3} (bn H2 s2.heap.objs.size (.bi [])) fp ay) [] σ' H' s'/\tn i s'.heap/\(∀b∈fp,H' b=none)/\W i m σ' H':=λ{s' σ7 H7} J7 n7=>by let(m',hm,w7):=n7;erw[m',hm,i+1,σ7,H7,J7.xI,T.keep _ _ _ om λb hb o e=>(J7.pin (b,o) (iZ _ (iZ _ (sr hb e)))).1,λb hb=>?_,w7];let(o,e,d):=T.obj _ _ om b hb;exact(J7.pin (b,o) (iZ _ (iZ _ (sr hb e)))).2.1
   cases ok with |false=>rw[aV ko]at q9⊢;erw[again I9 q9] |true=>rw[aR rfl]at q9⊢;erw[bo (he _ _ _ _ _ _ s9 σ8 H9 _ I9 q9) λyv mj #[y,jK,xg,JZ,ys,kO,hz,u6]=>?_,B,bo (Gz _ mj σ8 jK (.ref s2.heap.objs.size) [y] (.ref s2.heap.objs.size) [yv] (λ_ jJ=>∃m',m'<n/\W (i+1) m' σ8 jJ) xg Z (.cons JZ .nil) #[_,ys,y,wP,kO,hz,u6]) λ_ xU #[v11,jJ,BI,r11,CD]=>?_,B,again BI CD]
 erw[a1g loop (T.self _ 0 _ _ _ vF loop)]
theorem Nm:∀{bs:List Bool}{us:BY},Vals (bs.map V.bl) us->us=bs.map Value.bool |[],_,.nil=>rfl |b::r,_,.cons q t=>by cases(show _=Value.bool b from q);rw[Nm t];rfl
section
variable {X:Cx}
def afM(hc:X.calm=true):gq X (.builtin "all") (λxs H Q=>∃(l:Addr)(bs:List Bool),xs=[.ref l]/\aK X.K H l (bs.map V.bl)/\Q (.bl (bs.all id)) H):=by
 intro ay s O H xs us Q I r h;let(l,bs,rfl,hl,q):=h;let(u,rfl,ru):=vals1 r;cases(show u=Value.ref l from ru);let(its,rv,pl,hz):=I.list hl;let e:=Nm rv;subst e;let jd:=pl.isList;let bu:l<s.heap.objs.size:=by let(_,e,_):=jd;erw[cP e]
 let hh:=I.ok.hd hc;erw[call_all_walk (HY jd ?_),B,s.heap.objs.size,[s.heap.objs.size,l],[s.heap.objs.size],(bs.map Value.bool).toArray.size,xz,λi=>(bs[i]?).getD true,Z,Walks.list (A:=X.A.in1) hh _ l (fo bu) (bs.map Value.bool).toArray,#[#[_,fX _ Z,wP],jd.push _],λi v s' Q' E' hP hQ=>?_,λh' tk hk=>?_]
 ·let qD:(bs.map Value.bool)[i]? =some v:=by simpa using hP
  rw[bV]at qD;cases e:bs[i]? with |none=>rw[e]at qD;cases qD |some b=>rw[e]at qD;cases qD;simp only[e,j0m]at hQ;erw[vp hQ]
 ·let e:((List.range (bs.map Value.bool).toArray.size).all λi=>(bs[i]?).getD true)=bs.all id:=by rw[fL,bC];erw[LSm.range_all bs]
  rw[e];erw[.bl _,H,I.kept (LSm.kept_iter hk),Z,q]
def afL(hc:X.calm=true):gq X (.builtin "any") (λxs H Q=>∃(l:Addr)(bs:List Bool),xs=[.ref l]/\aK X.K H l (bs.map V.bl)/\Q (.bl (bs.any id)) H):=by
 intro ay s O H xs us Q I r h;let(l,bs,rfl,hl,q):=h;let(u,rfl,ru):=vals1 r;cases(show u=Value.ref l from ru);let(its,rv,pl,hz):=I.list hl;let e:=Nm rv;subst e;let jd:=pl.isList;let bu:l<s.heap.objs.size:=by let(_,e,_):=jd;erw[cP e]
 let hh:=I.ok.hd hc;erw[Fa (HY jd ?_),B,s.heap.objs.size,[s.heap.objs.size,l],[s.heap.objs.size],(bs.map Value.bool).toArray.size,xz,λi=>(bs[i]?).getD false,Z,Walks.list (A:=X.A.in1) hh _ l (fo bu) (bs.map Value.bool).toArray,#[#[_,fX _ Z,wP],jd.push _],λi v s' Q' E' hP hQ=>?_,λh' tk hk=>?_]
 ·let qD:(bs.map Value.bool)[i]? =some v:=by simpa using hP
  rw[bV]at qD;cases e:bs[i]? with |none=>rw[e]at qD;cases qD |some b=>rw[e]at qD;cases qD;simp only[e,j0m]at hQ;erw[vp hQ]
 ·let e:((List.range (bs.map Value.bool).toArray.size).any λi=>(bs[i]?).getD false)=bs.any id:=by rw[fL,bC];erw[LSm.range_any bs]
  rw[e];erw[.bl _,H,I.kept (LSm.kept_iter hk),Z,q]
end
def wM{tt:TT}{D:Addr}(n:Nat)(Pv:Nat->St->Hp->Prop)(h0:Pv 0 O H) (hs:∀i O H,i<n->Pv i O H->J.go i H/\∀x H2,J.kI i H x H2->g x O H2 λσ3 H3=>tt σ3 H3 λok H4=>if ok=true then te σ3 H4 λy H5=>∃ys,H5 D=some (.bi ys)/\⇑ys<sizeLine/\∃m',m'<n-i/\m'=n-(i+1)/\i+1<=n/\Pv (i+1) σ3 (bn H5 D (.bi (ys++[y]))) else∃m',m'<n-i/\m'=n-(i+1)/\i+1<=n/\Pv (i+1) σ3 H4) (hd:∀O H,Pv n O H->J.stop n H/\Q (.ref D) H): m6 J g tt te Q D O H:=by
 erw[λi m O H=>m=n-i/\i<=n/\Pv i O H,#[n,by simp,fR _,h0],?_];rintro i m O H ⟨rfl,hi,p⟩;by_cases bu:i<n
 ·erw[.inr (hs i O H bu p)]
 ·let e:i=n:=iY hi (kX bu)
  subst e;erw[.inl (hd O H p)]
section
variable {X:Cx} {tg:Expr}
def ixK(K:ag)(h:X.K=K):vj X (λx y H Q=>JV K x y H Q\/JU K x y H Q):=by subst h;erw[aaj.or aah]
inductive aip(K:ag)(x:V)(lo:Option Int)(hi:Option Int)(H:Hp)(Q:VK):Prop |mk a xs(_:x= .ref a)(_:((aK K H a xs/\∀p H',Nw H H' p (.bi (oP xs lo hi))->Q (.ref p) H')\/ (aW K H a xs/\¬(_H.cE ⇑xs 0 lo=0/\_H.cE ⇑xs xs.length hi=⇑xs)/\∀p H',Nw H H' p (.tup (oP xs lo hi))->Q (.ref p) H')))
def a66(K:ag):V->Option Int->Option Int->Hp->VK->Prop:=λx lo hi H Q=>aip K x lo hi H Q
def Ae(K:ag)(h:X.K=K):HK X (a66 K):=by
 subst h;intro ay s O H x v vl vu lo hi sl Q I rx hs pl pu hq;let(a,xs,e,hq):=hq;rcases hq with⟨h1,k⟩|⟨h1,h2,k⟩
 ·erw[a4A ay s O H x v vl vu lo hi sl Q I rx hs pl pu #[a,xs,e,h1,λp hp=>k p _ (.of hp)]]
 ·erw[a4z ay s O H x v vl vu lo hi sl Q I rx hs pl pu #[a,xs,e,h1,h2,λp hp=>k p _ (.of hp)]]
def a9Y(K:ag)(h:X.K=K):gq X (.builtin "len") (λxs H Q=>∃p ys,xs=[.ref p]/\(aK K H p ys\/aW K H p ys)/\Q (.int ⇑ys) H):=by subst h;erw[afI]
def aal(K:ag)(h:X.K=K):gq X (.builtin "isinstance") (λxs H Q=>JX K xs H Q\/JW K xs H Q):=by subst h;erw[afK.or afJ]
def cJ(K:ag)(h:X.K=K)(hu:X.A.units+64<cLine):eJ X (compareOp .Eq) (λx y H Q=>nk (λi j=>.bl (decide (i=j))) x y H Q\/JY K x y H Q):=by subst h;erw[a7e hu]
def j9(K:ag)(h:X.K=K)(hu:X.A.units+64<cLine):eJ X (compareOp .NotEq) (λx y H Q=>nk (λi j=>.bl (!decide (i=j))) x y H Q\/JT K x y H Q):=by subst h;erw[a79 hu]
def vh(K:ag)(h:X.K=K)(hc:X.calm=true):gq X (.builtin "all") (λxs H Q=>∃(l:Addr)(bs:List Bool),xs=[.ref l]/\aK K H l (bs.map V.bl)/\Q (.bl (bs.all id)) H):=by subst h;erw[afM hc]
def a0t(K:ag)(h:X.K=K)(hc:X.calm=true):gq X (.builtin "any") (λxs H Q=>∃(l:Addr)(bs:List Bool),xs=[.ref l]/\aK K H l (bs.map V.bl)/\Q (.bl (bs.any id)) H):=by subst h;erw[afL hc]
def yE(K:ag)(h:X.K=K):gq X (.type "list") (λxs H Q=>∃p ys,xs=[.ref p]/\(aK K H p ys\/aW K H p ys)/\∀l H',Nw H H' l (.bi ys)->Q (.ref l) H'):=by subst h;intro ay s O H xs us Q I r hq;let(p,ys,e,h1,k):=hq;erw[afG ay s O H xs us Q I r #[p,ys,e,h1,λl hl=>k l _ (.of hl)]]
def pP(K:ag)(h:X.K=K):gq X (.type "tuple") (λxs H Q=>∃p ys,xs=[.ref p]/\((aK K H p ys/\∀l H',Nw H H' l (.tup ys)->Q (.ref l) H')\/(aW K H p ys/\Q (.ref p) H))):=by subst h;intro ay s O H xs us Q I r hq;let(p,ys,e,h1):=hq;erw[afD ay s O H xs us Q I r #[p,ys,e,h1.imp (λ#[a,k]=>#[a,λl hl=>k l _ (.of hl)]) id]]
def a2J(t:TA):TE:=λO H Q=>t O H λxs H1=>⇑xs<=sizeLine/\∀p H',Nw H1 H' p (.tup xs)->Q (.ref p) H'
def a2Z(t:TA):TE:=λO H Q=>t O H λxs H1=>⇑xs<=sizeLine/\∀p H',Nw H1 H' p (.bi xs)->Q (.ref p) H'
def dA{t:TA}{x1}(h:PA X es t):PE X (.Tuple es x1 pos) (a2J t):=by intro ay s O H Q I hq;erw[wpAny_Tuple_spliced (bo (h pos ay s O H _ I hq) λus s1 #[xs,H1,I1,r,z,q]=>#[by rw[<-⇑r];erw[z],?_])];let hf:H1 s1.heap.objs.size=none:=I1.bD.fresh (aZ _);erw[.ref s1.heap.objs.size,bn H1 s1.heap.objs.size (.tup xs),I1.laid (t':=s1.toks) (λb u e=>cR _ e) (aZ _) ?_,Z,q _ _ (.of hf),B,z,us,r,#[_,fX _ Z,WP]]
def cY{t:TA}(h:PA X es t):PE X (.List es pos) (a2Z t):=by intro ay s O H Q I hq;erw[wpAny_List_spliced (bo (h pos ay s O H _ I hq) λus s1 #[xs,H1,I1,r,z,q]=>#[by rw[<-⇑r];erw[z],?_])];let hf:H1 s1.heap.objs.size=none:=I1.bD.fresh (aZ _);erw[.ref s1.heap.objs.size,bn H1 s1.heap.objs.size (.bi xs),I1.laid (t':=s1.toks) (λb u e=>cR _ e) (aZ _) ?_,Z,q _ _ (.of hf),B,z,us,0,r,fX _ Z]
def qe(K:ag)(h:X.K=K){l:Expr}{tl:TE}(hl:PE X l tl):PI X tg l (XU K tl):=by subst h;erw[a6F hl]
def qc(K:ag)(h:X.K=K){l:Expr}{tl:TE}(hl:PE X l tl):PI X tg l (XT K tl):=by subst h;erw[a6D hl]
def cX(K:ag)(h:X.K=K){es:Cn}{k:Nat}{t:tE}{n:Nat}{pos:Pos}(hc:X.calm=true)(hg:EF X es t)(hn:↥(⇑(assignEach es X.env)=n))(iI:↥((assignEach es X.env).findIdx? (·.1)=none)): PG X (.Tuple es k pos) (DS K n t):=by subst h;erw[a6G hc hg hn iI]
def ji(K:ag)(h:X.K=K){o e:Expr}{to:TE}{t:TA}{apos fb:Pos}(ho:PE X o to)(ha:PA X [e] t) (uT:↥(attributeBase o "append" X.env (eval o X.env)=eval o X.env)) (uO:↥(((backTo fb (starEach [e] X.env)).all (λx=>!x.1)&&(backToKw fb (keywordEach [] X.env)).all (λx=>x.1.isSome) &&decide ([e].length+⇑([]:List Keyword)+(if([]:List Keyword).isEmpty then 0 else 1)<30))=true)) (uL:↥((apos.endLine==fb.line)=true))(hs:↥(starEach [e] X.env=(false,eval e X.env)::starEach [] X.env))(uK:↥((backTo fb (starEach [] X.env)).any (·.1)=false)): PE X (.Call (.Attribute o "append" apos) [e] [] fb) (Ci K "list" Vw to t):=by subst h;erw[Ge a1r PySem.F.slot_list_append PySem.F.type_list_append Gz ho ha uT uO uL hs uK]
def C7{j:Nat}{x:V}{O:St}{H:Hp}{A B:St->Hp->Prop}(h:A (O.set j (some x)) H):iu j x O H λσ3 H3=>kJ σ3 H3 λok H4=>if ok=true then A σ3 H4 else B σ3 H4:=by show if true=true then A (O.set j (some x)) H else B (O.set j (some x)) H;rw[aR rfl];erw[h]
def yes(h:Q true H):kJ O H Q:=h
end
def aK.go{K:ag}{xs:AT}(s:aI H H')(h:aK K H a xs):aK K H' a xs:=h.imp (λr=>r.imp (s _ _) λ#[o,e]=>#[o,s _ _ e]) id
def aW.go{K:ag}{xs:AT}(s:aI H H')(h:aW K H a xs):aW K H' a xs:=h.imp (λr=>r.imp (s _ _) λ#[o,e]=>#[o,s _ _ e]) id
mutual
theorem RD.sK{K:ag}{H H':Hp}(s:aI H H'):∀{x:V}(d:aj),RD K H x d->RD K H' x d |x,.none,h=>by simpa[RD]using h |x,.bool b,h=>by simpa[RD]using h |x,.int i,h=>by simpa[RD]using h |x,.str y,h=>by simpa[RD]using h |x,.list ds,h=>by rw[RD]at h⊢;let(a,xs,e,h1,h2):=h;erw[a,xs,e,h1.go s,aH.sK s ds h2] |x,.tuple ds,h=>by rw[RD]at h⊢;let(a,xs,e,h1,h2):=h;erw[a,xs,e,h1.go s,aH.sK s ds h2] |x,.dict _,h=>by simp[RD]at h
theorem aH.sK {K:ag}{H H':Hp}(s:aI H H'):∀{xs:List V}(ds:List aj),aH K H xs ds->aH K H' xs ds |xs,[],h=>by simpa[aH]using h |xs,d::ds,h=>by rw[aH]at h⊢;let(y,ys,e,h1,h2):=h;erw[y,ys,e,RD.sK s d h1,aH.sK s ds h2]
end
section
variable {K:ag} {H H':Hp}
def aH.nil_inv(h:aH K H xs []):xs=[]:=by simpa[aH]using h
def aH.cons_inv(h:aH K H xs (d::ds)):∃y ys,xs=y::ys/\RD K H y d/\aH K H ys ds:=by rw[aH]at h;erw[h]
def RD.cD(h:RD K H x (.tuple ds)):∃a xs,x= .ref a/\aW K H a xs/\aH K H xs ds:=by rw[RD]at h;erw[h]
def RD.lst_inv(h:RD K H x (.list ds)):∃a xs,x= .ref a/\aK K H a xs/\aH K H xs ds:=by rw[RD]at h;erw[h]
def RD.int_inv(h:RD K H x (.int i)):x= .int i:=by rw[RD]at h;erw[h]
def RD.afZ(h:RD K H x (.bool i)):x= .bl i:=by rw[RD]at h;erw[h]
def RD.str_inv(h:RD K H x (.str i)):x= .str i:=by rw[RD]at h;erw[h]
def RD.D8(h:RD K H x .none):x= .bP:=by rw[RD]at h;erw[h]
theorem aH.length:∀{xs:AT}{ds:AC},aH K H xs ds->⇑xs=ds.length |xs,[],h=>by rw[h.nil_inv];rfl |xs,d::ds,h=>by let(y,ys,rfl,_,h2):=h.cons_inv;rw[kY,kY,aH.length h2]
theorem aH.append:∀{xs ys:AT}{ds es:AC},aH K H xs ds->aH K H ys es->aH K H (xs++ys) (ds++es) |xs,ys,[],es,h,g=>by rw[h.nil_inv];erw[g] |xs,ys,d::ds,es,h,g=>by let(y,zs,rfl,h1,h2):=h.cons_inv;erw[cm h1 (aH.append h2 g)]
theorem aH.get:∀(n:Nat){xs:AT}{ds:AC}{d:aj},aH K H xs ds->ds[n]? =some d->∃x,xs[n]? =some x/\RD K H x d
 |n,xs,[],d,h,e=>by simp at e |0,xs,d'::ds,d,h,e=>by
  let(y,zs,rfl,h1,h2):=h.cons_inv;let e':d'=d:=by simpa using e
  subst e';erw[y,Z,h1] |n+1,xs,d'::ds,d,h,e=>by let(y,zs,rfl,h1,h2):=h.cons_inv;erw[aH.get n h2 (by simpa using e)]
def aH.get'(n:Nat){xs:AT}{ds:AC}{x:V}(h:aH K H xs ds)(e:xs[n]? =some x):∃d,ds[n]? =some d/\RD K H x d:=by
 let hl:n<⇑ds:=by rw[<-⇑h];exact(ck.mp e).1
 let(y,e1,r):=h.get n (bf hl);rw[e]at e1;cases e1;erw[_,bf hl,r]
def lg:aj->String | .none=>"NoneType" | .bool _=>"bool" | .int _=>"int" | .str _=>"str" | .list _=>"list" | .tuple _=>"tuple" | .dict _=>"dict"
theorem RD.ty{x:V}:∀{d:aj},RD K H x d->zF K H x (lg d) | .none,h=>by rw[h.D8];rfl | .bool b,h=>by rw[h.afZ];rfl | .int b,h=>by rw[h.int_inv];rfl | .str b,h=>by rw[h.str_inv];rfl | .list ds,h=>by let(a,xs,rfl,h1,_):=h.lst_inv;erw[.inl #[Z,xs,h1]] | .tuple ds,h=>by let(a,xs,rfl,h1,_):=h.cD;erw[.inr #[Z,xs,h1]] | .dict _,h=>by simp[RD]at h
structure eX(n:Nat)(d:aj):Prop where
 lay:d.canLay0=true
 dep:d.depth<=n
def iP(n:Nat)(ds:AC):Prop:=∀d∈ds,eX n d
def eX.le(h:eX n d)(l:n<=m):eX m d:=#[h.lay,cL h.dep l]
theorem AD{n:Nat}:∀{ds:AC},iP n ds↔(PyData.canLayAll0 ds=true/\PyData.depthAll ds<=n)
 |[]=>#[λ_=>#[Z,fR _],λ_ _ h=>nomatch h] |d::ds=>by
  let ih:=AD (n:=n) (ds:=ds);simp only[PyData.canLayAll0,PyData.depthAll,gU];constructor
  ·intro h
   let h1:=h d (.head _);let h2:=ih.mp λx hx=>h x (.tail _ hx);erw[#[h1.lay,h2.1],Nat.max_le.mpr #[h1.dep,h2.2]]
  ·rintro⟨⟨a,b⟩,c⟩ x hx
   let c':=Nat.max_le.mp c;rcases dj.mp hx with rfl|hx
   ·erw[a,c'.1]
   ·erw[ih.mpr #[b,c'.2] x hx]
def iP.tup(h:iP n ds):eX (n+1) (.tuple ds):=#[by simpa[PyData.canLay0]using(AD.mp h).1,by simpa[PyData.depth]using(AD.mp h).2]
def iP.bi{n:Nat}{ds:AC}(h:iP n ds):eX (n+1) (.list ds):=#[by simpa[PyData.canLay0]using(AD.mp h).1,by simpa[PyData.depth]using(AD.mp h).2]
def eX.cD(h:eX (n+1) (.tuple ds)):iP n ds:=AD.mpr #[by simpa[PyData.canLay0]using h.lay,by simpa[PyData.depth]using h.dep]
theorem eX.int(i:Int):eX n (.int i):=#[Z,fR _]
def iP.nil:iP n []:=λ_ h=>nomatch h
def iP.cons(h:eX n d)(g:iP n ds):iP n (d::ds):=λx hx=>by
 rcases dj.mp hx with rfl|hx
 ·erw[h]
 ·erw[g x hx]
theorem eX.shaped(h:eX n d)(l:n<=64):SeqAt.shaped d=true:=by unfold SeqAt.shaped;rw[h.lay,mU];erw[cy (cL h.dep l)]
def eX.refl(h:eX n d):PyData.eqv d d=true:=eqv_refl d h.lay
def del(H:Hp)(p:Addr):Hp:=λb=>if b=p then none else H b
def ZE{b:Addr}:del H p b=some o↔b≠p/\H b=some o:=by
 unfold del;by_cases e:b=p
 ·rw[aR e];simp[e]
 ·rw[aV e];simp[e]
variable {p:Addr}{n m:Nat}{v:V}{vs:AT}{d:aj}{ds es:AC}
end
end _L
namespace _L
universe PySem
def fr(H H':Hp):Hp:=λb=>match H b with|none=>H' b|some _=>none
def wA{b:Addr}:fr H H' b=some o↔H b=none/\H' b=some o:=by unfold fr;cases H b<;>simp
def acK:aI (fr H H') H':=λb o e=>(wA.mp e).2
def Yw(s:aI H1 H2):aI (fr H H1) (fr H H2):=λb o e=>wA.mpr #[(wA.mp e).1,s _ _ (wA.mp e).2]
def acL(s:aI H H1):aI (fr H1 H2) (fr H H2):=λb o e=>wA.mpr #[s.free (wA.mp e).1,(wA.mp e).2]
def FF(K:ag)(d:aj):TE:=λ_ H Q=>∀v H',aI H H'->RD K (fr H H') v d->Q v H'
def a30(K:ag)(ds:AC):TA:=λ_ H Q=>∀vs H',aI H H'->aH K (fr H H') vs ds->Q vs H'
def uF(f:Expr->Option aj):Cn->Option (AC) |[]=>some [] |e::es=>match f e,uF f es with |some d,some ds=>some (d::ds) |_,_=>none
def lit:Nat->Expr->Option aj
 |_+1,.Constant (.int i) _ _=>some (.int i) |n+1,.List es _=>match uF (lit n) es with |some ds=>if ⇑ds<=1000 then some (.list ds)else none |none=>none
 |n+1,.Tuple es _ _=>match uF (lit n) es with |some ds=>if ⇑ds<=1000 then some (.tuple ds)else none |none=>none
 |n+1,.BinOp a .Pow b _=>match lit n a,lit n b with |some (.int i),some (.int j)=>if 0<=j/\j<=1000000/\i.natAbs<2^64 then some (.int (i^j.toNat))else none |_,_=>none
 |_,_=>none
section
variable {X:Cx}
def a3s(h:∀a b,e≠ .Starred a b):starEach (e::es) env=(false,eval e env)::starEach es env:=by cases e<;>first|rfl|erw[absurd rfl (h _ _)]
def a9T(h:lit n e=some d):∀a b,e≠ .Starred a b:=by intro a b z;subst z;cases n<;>cases(show none=some d from h)
theorem VN(K:ag)(f:Expr->Option aj)(hp:∀e d,f e=some d->∀a b,e≠ .Starred a b)(hf:∀e d,f e=some d->PE X e (FF K d)):∀(es:Cn)(ds:AC),uF f es=some ds->PA X es (a30 K ds) |[],ds,h=>by cases h;intro pos ay s O H Q I hq;erw[az pos ay s O H Q I (hq [] H (aI.refl H) cQ)] |e::es,ds,h=>by cases e1:f e with |none=>cases(show none=some ds by rw[<-h];unfold uF;rw[e1]) |some d=>cases e2:uF f es with |none=>cases(show none=some ds by rw[<-h];unfold uF;rw[e1,e2]) |some Hq=>
 cases(show some (d::Hq)=some ds by rw[<-h];unfold uF;rw[e1,e2]);intro pos ay s O H Q I hq;erw[au (hf e d e1) (VN K f hp hf es Hq e2) (a3s (hp e d e1)) pos ay s O H Q I ?_];intro v H1 s1 r1 vs H2 s2 r2;erw[hq (v::vs) H2 (s1.ao s2) (cm (RD.sK (Yw s2) _ r1) (aH.sK (acL s1) _ r2))]
theorem Gd(K:ag)(hK:X.K=K):∀(n:Nat)(e:Expr)(d:aj),lit n e=some d->PE X e (FF K d)
 |0,_,d,h=>by cases(show none=some d from h) |n+1,e,d,h=>by
  let hA:=VN (X:=X) K (lit n) (λe d h=>a9T h) (λe d h=>Gd K hK n e d h);cases e
  case Constant c _ _=>
   cases c
   case int i=>cases(show some (.int i)=some d from h);intro ay s O H Q I hq;erw[aA ay s O H Q I (hq (.int _) H (aI.refl H) (eB _))]
   all_goals cases(show none=some d from h)
  case List es _=>replace h:(match uF (lit n) es with|some ds=>if ⇑ds<=1000 then some (.list ds)else none|none=>none)=some d:=h;cases e1:uF (lit n) es with |none=>rw[e1]at h;cases h |some ds=>
   rw[e1]at h;by_cases hl:⇑ds<=1000
   ·cases(aR hl).symm.ao h
    intro ay s O H Q I hq;erw[cY (hA es ds e1) ay s O H Q I ?_];intro vs H1 s1 r1;erw[by rw[⇑r1];erw[cL hl aw],λp H' nw=>?_,B,hq _ _ (s1.ao nw.ss) (rP (aK.of (wA.mpr #[s1.free nw.no,nw.at'])) (aH.sK (Yw nw.ss) _ r1))]
   ·cases(aV hl).symm.ao h
  case Tuple es _ _=>replace h:(match uF (lit n) es with|some ds=>if ⇑ds<=1000 then some (.tuple ds)else none|none=>none)=some d:=h;cases e1:uF (lit n) es with |none=>rw[e1]at h;cases h |some ds=>
   rw[e1]at h;by_cases hl:⇑ds<=1000
   ·cases(aR hl).symm.ao h
    intro ay s O H Q I hq;erw[dA (hA es ds e1) ay s O H Q I ?_];intro vs H1 s1 r1;erw[by rw[⇑r1];erw[cL hl aw],λp H' nw=>?_,B,hq _ _ (s1.ao nw.ss) (gD (aW.of (wA.mpr #[s1.free nw.no,nw.at'])) (aH.sK (Yw nw.ss) _ r1))]
   ·cases(aV hl).symm.ao h
  case BinOp a op b _=>
   cases op
   case Pow=>replace h:(match lit n a,lit n b with|some (.int i),some (.int j)=>if 0<=j/\j<=1000000/\i.natAbs<2^64 then some (PyData.int (i^j.toNat))else none|_,_=>none)=some d:=h;cases e1:lit n a with |none=>rw[e1]at h;cases h |some x=>cases e2:lit n b with |none=>rw[e1,e2]at h;cases x<;>cases h |some y=>
    rw[e1,e2]at h;cases x
    case int i=>
     cases y
     case int j=>
      by_cases hc:0<=j/\j<=1000000/\i.natAbs<2^64
      ·cases(aR hc).symm.ao h
       intro ay s O H Q I hq;erw[aM mx (Gd K hK n a _ e1) (Gd K hK n b _ e2) ay s O H Q I ?_];intro v H1 s1 r1 v2 H2 s2 r2;erw[i,j,r1.int_inv,r2.int_inv,hc,hq _ _ (s1.ao s2) (eB _)]
      ·cases(aV hc).symm.ao h
     all_goals cases h
    all_goals cases h
   all_goals cases(show none=some d from h)
  all_goals cases(show none=some d from h)
end
end _L
namespace _L
def cn{v:α}(h0:0<=i)(h:xs[i.toNat]? =some v):fj xs i=some v:=by let hl:i.toNat<⇑xs:=(ck.mp h).1;unfold fj iS;rw[aR h0,aR (eG (_S.aex (F9 h0)) (_S.hJ hl))];erw[h]
end _L
namespace _L
universe PySem
def Ct(n:Nat)(h:n<=1000):n<=sizeLine:=cL h aw
structure PEb(X:Cx)(e:Expr)(t:TE):Prop where out:PE X e t
def a6N(K:ag)(hK:X.K=K)(n:Nat)(e:Expr)(d:aj)(h:lit n e=some d):PEb X e (FF K d):=⟨Gd K hK n e d h⟩
section
variable {X:Cx}{p pos pos':Pos}{a b e:Expr}{es:Cn}{ta tb te:TE}{t:TA}{x:Str}
def px(K:ag)(ha:PE X a ta)(hb:PE X b tb)(hK:↥(X.K=K))(hp:a0J b:=by erw[λ_ _=>rfl]):PE X (.Subscript a b pos) (Cg (λx y H Q=>JV K x y H Q\/JU K x y H Q) ta tb):=VH (ixK K hK) ha hb hp
def dk(K:ag)(B:vo X.mg)(ha:PA X (e::es) t)(hK:↥(X.K=K))(hg:↥(Gl X "isinstance"))(he:↥(starEach (e::es) X.env=(false,eval e X.env)::starEach es X.env))(ib:↥((backTo pos (starEach es X.env)).any (·.1)=false)):PE X (.Call (.Name "isinstance" p) (e::es) [] pos) (FG (λxs H Q=>JX K xs H Q\/JW K xs H Q) t):=eR (aal K hK) hg (B.at "isinstance") Ou ha aw aw he ib
def dC(K:ag)(B:vo X.mg)(ha:PA X (e::es) t)(hK:↥(X.K=K))(hg:↥(Gl X "len"))(he:↥(starEach (e::es) X.env=(false,eval e X.env)::starEach es X.env))(ib:↥((backTo pos (starEach es X.env)).any (·.1)=false)):PE X (.Call (.Name "len" p) (e::es) [] pos) (FG (λxs H Q=>∃p ys,xs=[.ref p]/\(aK K H p ys\/aW K H p ys)/\Q (.int ⇑ys) H) t):=eR (a9Y K hK) hg (B.at "len") PySem.boot_len ha aw aw he ib
def pS(i:Nat)(hN:X.N.Nodup)(he:PE X e te)(hi:↥(X.N[i]? =some x))(hx:Loc X.env.scope x:=by first|erw[Or.inl rfl]|erw[Or.inr rfl])(hs:↥(swapsWith e (some (.Name x pos')) pos.line X.env=pure false))(hf:↥(~~~(X.fn x=true\/X.env.scope.names.lookup x=some .local))):PS X (.Assign [.Name x pos'] e pos) (FJ te (iu i)):=a6s hN hi hx he hs hf
def ba(i:Nat)(hN:X.N.Nodup)(hi:↥(X.N[i]? =some x))(hx:Loc X.env.scope x:=by first|erw[Or.inl rfl]|erw[Or.inr rfl])(hf:↥(~~~(X.fn x=true\/X.env.scope.names.lookup x=some .local))):PG X (.Name x pos) (iu i):=a6H hN hi hx hf
def uz (a:Str):[a].Nodup:=by simp
def hW{a b:Str}(h:(a==b)=false):[a,b].Nodup:=by
 have:a≠b:=λz=>by rw[z,Ij]at h;cases h
 simp[this]
def bM{n:Nat}(h:Nat.ble n 1000=true):n<=sizeLine:=Ct n (Ln h)
end
def GV(mg:bZ)(x:Str)(v:V):Prop:=∃u,mg x=some u/\RelV v u
def GT(K:ag)(mg:bZ)(x:Str)(vs:AT):Prop:=∃a,GV mg x (.ref a)/\∀H,aW K H a vs
def dY{v:V}(hg:Gl X x)(h:GV X.mg x v)(hd: ~~~((x==("__debug__":Str))=false)):PE X (.Name x pos) (tC v):=by let(u,hm,r):=h;erw[a6O hg hm r hd]
section
variable {K:ag} {mg:bZ} {h:Heap}
def pG{t:Tok}(X:K.In h)(G:h.Ns mainGlobals mg)(a:W.nsIn K mainGlobals x=some (some (.int i t))):GV mg x (.int i):=#[_,zQ X G a,t,Z]
def Yl{b:Addr}(X:K.In h)(G:h.Ns mainGlobals mg)(a:W.nsIn K mainGlobals x=some (some (.ref b))) (l:K.lookup b=some #[.type "tuple",od,.seq its n,gN])(hz:its.size<=sizeLine)(r:Vals vs its.toList):GT K mg x vs:=#[b,#[_,zQ X G a,Z],λH=>.inr #[_,its,n,l,wP,hz,r]]
end
def ZP{xs:AT}{bs:List Bool}{D:Addr}(rest:St)(nw:Nw H H0 D (.bi []))(hl:⇑xs=bs.length)(hz:⇑xs<=1000) (go:∀i x H2,xs[i]? =some x->aI H H2->J.go i H2/\∀y H3,J.kI i H2 y H3->H3=H2/\y=x)(stop:∀H2,aI H H2->J.stop ⇑xs H2) (hs:∀(i:Nat)(x:V)(b:Bool)(H2:Hp)(Q':VK),xs[i]? =some x->bs[i]? =some b->aI H H2->(∀H3,aI H2 H3->Q' (.bl b) H3)->te (some x::rest) H2 Q') (hq:∀H',aI H H'->H' D=some (.bi (bs.map V.bl))->Q (.ref D) H'):m6 J (iu 0) kJ te Q D (none::rest) H0:=by
 let hD:=nw.no;erw[wM ⇑xs (λi O H2=>aI H H2/\H2 D=some (.bi ((bs.take i).map V.bl))/\∃v,O=v::rest) ?_ ?_ ?_]
 ·erw[nw.ss,nw.at',none,Z]
 ·rintro i O H2 hi ⟨s2,d2,v,rfl⟩
  let yR:i<⇑bs:=by rw[<-hl];erw[hi]
  let ex:=bf hi;let eb:=bf yR;let(g1,g2):=go i _ H2 ex s2;erw[g1,λy H3 hy=>?_];let(rfl,rfl):=g2 y H3 hy;erw[C7 ?_,B,hs i _ _ _ _ ex eb s2 λH4 s4=>?_,B,_,s4 _ _ d2,?_,⇑xs-(i+1),m8 hi (gR _),Z,hi,λb o e=>?_,?_,ww]
  ·rw[bC,kH]
   have:(1000:Nat)<sizeLine:=by decide
   lia
  ·rw[aU (e9 e hD)];erw[s4 b o (s2 b o e)]
  ·rw[bQ,mQ,eb,kn];rfl
 ·rintro O H2 ⟨s2,d2,v,rfl⟩
  erw[stop H2 s2,hq H2 s2 ?_];rw[d2,hl,zU]
def Hx{K:ag}{bs:List Bool}{D:Addr}(rest:St)(hx:aW K H a xs)(nw:Nw H H0 D (.bi []))(hl:⇑xs=bs.length)(hz:⇑xs<=1000) (hs:∀(i:Nat)(x:V)(b:Bool)(H2:Hp)(Q':VK),xs[i]? =some x->bs[i]? =some b->aI H H2->(∀H3,aI H2 H3->Q' (.bl b) H3)->te (some x::rest) H2 Q') (hq:∀H',aI H H'->H' D=some (.bi (bs.map V.bl))->Q (.ref D) H'):m6 (xf K a) (iu 0) kJ te Q D (none::rest) H0:=ZP rest nw hl hz (λi x H2 e s=>#[#[xs,x,hx.go s,e],λy H3 #[e3,y3]=>#[e3,by have:=y3 _ (hx.go s);rw[e]at this;exact(fm this).symm]]) (λH2 s=>#[xs,hx.go s,aZ _]) hs hq
def X8{ds:AC}{i:Nat}{b:Bool}(h:(ds.map f)[i]? =some b):∃d,ds[i]? =some d/\f d=b:=by rw[bV]at h;cases e:ds[i]? with |none=>rw[e]at h;cases h |some d=>rw[e]at h;erw[d,Z,fm h]
theorem all_map{ds:AC}:(ds.map f).all id=ds.all f:=by rw[List.all_map];rfl
section
variable {X:Cx}
inductive aiH(K:ag)(x:V)(y:V)(H:Hp)(Q:VK):Prop |mk a b xs ys(_:x= .ref a)(_:y= .ref b)(_:aK K H a xs)(_:aK K H b ys)(_:⇑xs+ys.length<=sizeLine)(_:∀p H',Nw H H' p (.bi (xs++ys))->Q (.ref p) H')
def a6d(K:ag):R2:=λx y H Q=>aiH K x y H Q
def El(K:ag)(hK:X.K=K):eJ X (binaryOp .Add) (a6d K):=by
 subst hK;intro ay s O H x y v u Q I rx ry h;let(a,b,xs,ys,rfl,rfl,ha,hb,hz,q):=h;cases rx;cases ry;let(its,r1,p1,_):=I.list ha;let(qv,r2,p2,_):=I.list hb;let((cls,dd,data,sl),n,ho,hc,hdd,hd):=id p1;let((ake,dd2,data2,sl2),n2,B8,jn,ak4,hd2):=id p2;simp only at hc hd jn hd2;subst hc hd jn hd2;let e:its.toArray++qv.toArray=(its++qv).toArray:=by simp
 erw[concat_meets #[_,ho,Z] #[_,B8,Z] noFill_list_add seq_list_add PySem.F.slot_list_add PySem.F.entry_list_add (PySem.F.args_list_add_2 _ _) (list_addW a b its.toArray qv.toArray n n2 dd dd2 sl sl2 (by rw[fL,fL,<-⇑r1,<-r2.length];erw[hz])) #[ho,B8,?_]];rw[e];let nw:Nw H (bn H s.heap.objs.size (.bi (xs++ys))) s.heap.objs.size (.bi (xs++ys)):=.of (I.bD.fresh (aZ _));erw[.ref s.heap.objs.size,_,I.laid (t':=s.toks) (o:=.bi (xs++ys)) (λb ob q=>cR _ q) (aZ _) ?_,Z,q _ _ nw,B,by rw[cH];erw[hz],_,0,r1.append r2,fX _ Z]
open Classical in
noncomputable def zk(h:Heap)(d:aj)(w:Value):Bool:=if q:∃e as,Reads h w e as then PyData.eqv q.choose d else false
def aey{h:Heap}{d e:aj}{w:Value}{as:DO}(r:Reads h w e as):zk h d w=PyData.eqv e d:=by let q:∃e as,Reads h w e as:=#[e,as,r];unfold zk;rw[dif_pos q];let(as',r'):=q.choose_spec;rw[(Reads.unique r' e as r).1]
theorem YW{ay:By}{s:ah}{O:St}{H:Hp}(I:Inv X ay O H s)(hu:X.A.units+65<cLine){x:V}{u:Value}{d:aj}(rx:RelV x u)(hd:RD X.K H x d)(sd:SeqAt.shaped d=true): ∀{xs:AT}{us:BY}{ds:AC},Vals xs us->aH X.K H xs ds->(∀e∈ds,SeqAt.shaped e=true)->(∀w∈us,SeqAt.EqAt X.A.in1 s w u (zk s.heap d w))/\us.any (zk s.heap d)=ds.any λe=>PyData.eqv e d |xs,us,[],rv,h,_=>by cases h.nil_inv;cases rv;erw[λ_ h=>(gy h).elim,Z] |xs,us,e::ds,rv,h,se=>by let(y,ys,rfl,h1,h2):=h.cons_inv;cases rv with |cons ra rb=>
 rename_i w ws;let(as,q1):=RD.reads I e ra h1;let(bs,q2):=RD.reads I d rx hd;let key:SeqAt.EqAt X.A.in1 s w u (PyData.eqv e d):=SeqAt.eqAt_reads e d X.A.in1 s w u as bs q1 q2 (Pi (se e (.head _))) (Pi sd) (SeqAt.room_of_shaped (se e (.head _)) (by show X.A.units+1+64<cLine;omega));let(k1,k2):=YW I hu rx hd sd rb h2 (λe' he=>se e' (.tail _ he));let ew:zk s.heap d w=PyData.eqv e d:=aey q1;erw[λz hz=>?_,?_]
 ·rcases dj.mp hz with rfl|hz
  ·rw[ew];erw[key]
  ·erw[k1 z hz]
 ·rw[ID,ID,ew,k2]
end
end _L
namespace _L
def dI.a2b{k:Nat}{A:PySem.Around}(r:dI k A):A.units+65<PySem.cLine:=by have:=r.un;lia
end _L
namespace _L
universe PySem
def mM(b:Bool)(h:Heap)(it l:Addr)(k:Nat):Prop:=match b with|true=>h.IsListIter it l k|false=>h.IsTupleIter it l k
def jr(b:Bool)(h:Heap)(l:Addr)(xs:Array Value):Prop:=match b with|true=>h.IsList l xs|false=>h.IsTuple l xs
def wO(b:Bool):String:=match b with|true=>"list_iterator"|false=>"tuple_iterator"
def mM.to{b:Bool}{it:Addr}(x:mM b h it l k)(e:∀o,h.get? it=some o->g.get? it=some o):mM b g it l k:=by cases b<;>(let(o,ho,r):=x;erw[o,e o ho,r])
def jr.to{b:Bool}(x:jr b h l xs)(e:∀o,h.get? l=some o->g.get? l=some o):jr b g l xs:=by cases b<;>(let(o,ho,r):=x;erw[o,e o ho,r])
def mM.ob{b:Bool}{it:Addr}(x:mM b h it l k):∃o,h.get? it=some o/\o.cls= .type (wO b)/\∀v,o.data≠ .cell v:=by cases b<;>(let(o,ho,c,d):=x;erw[o,ho,c,λv z=>by rw[d]at z;cases z])
section
variable {prog:ai}{w:World}{A:ak}{E:Value->ah->Prop}{s:ah}
def AL{b:Bool}{l:Addr}{xs:Array Value}{Q:Value->ah->Prop}(x:jr b s.heap l xs) (q:Q (.ref s.heap.objs.size) {s with heap:=s.heap.push {cls:=.type (wO b),data:=.fields (List.toArray [.ref l,.int 0 0])}}):wpAny (model prog w) A (pyIter (.ref l)) Q E s:=by
 cases b
 ·erw[ad x q]
 ·erw[HY x q]
def a8s{it t:Addr}{k:Nat}{ts:Array Value}{x:Value}{Q:Value->ah->Prop}(hi:s.heap.IsTupleIter it t k)(ht:s.heap.IsTuple t ts)(hx:ts[k]? =some x) (q:∀g,g.IsTupleIter it t (k+1)->Heap.SameBut it s.heap g->Q x {s with heap:=g}):wpAny (model prog w) A (Builtin.SmallTypes.nextOf (.ref it)) Q E s:=by let(oi,oF,ci,di):=id hi;let(ot,LF,_,nt,dt):=ht;unfold Builtin.SmallTypes.nextOf;erw[aL (Ic (name:=Str.ofString "__next__") hi.typeIs Oq (Ib Oq hi.typeIs aj8 ?_ (aj9 _)))];show wpAny _ _ (field (.ref it) 0>>=_) _ _ s;erw[aL (kW oF di (x:=.ref t) Z ?_)];show wpAny _ _ (if(Value.ref t==Value.none)=true then _ else _) _ _ s;rw[aV (show¬((Value.ref t==Value.none)=true)from ko)];show wpAny _ _ (field (.ref it) 1>>=_) _ _ s;erw[aL (kW oF di (x:=.int k 0) Z ?_)];show wpAny _ _ (seqItems? (.ref t)>>=_) _ _ s;erw[aL (zM LF dt ?_)];simp only[IE,hx];erw[aL (HX oF di (by simp) (bU #[x,Z,bU (q _ ?_ (Heap.SameBut.update ..))])),B,_,IH _ oF (a1x (Iu di _)),(j09 ..).ao ci,by rw[Iu di];simp[rawInt]]
def aeF{it t:Addr}{k:Nat}{ts:Array Value}{Q:Value->ah->Prop}(hh:A.handled=none)(hi:s.heap.IsTupleIter it t k)(ht:s.heap.IsTuple t ts)(hx:ts[k]? =none) (q:∀g e,Heap.ExtBut it s.heap g->(∃o,g.get? e=some o/\o.cls= .type "StopIteration")->E (.ref e) {s with heap:=g}):wpAny (model prog w) A (Builtin.SmallTypes.nextOf (.ref it)) Q E s:=by
 let(oi,oF,ci,di):=id hi;let(ot,LF,_,nt,dt):=ht;unfold Builtin.SmallTypes.nextOf;erw[aL (Ic (name:=Str.ofString "__next__") hi.typeIs Oq (Ib Oq hi.typeIs aj8 ?_ (aj9 _)))];show wpAny _ _ (field (.ref it) 0>>=_) _ _ s;erw[aL (kW oF di (x:=.ref t) Z ?_)];show wpAny _ _ (if(Value.ref t==Value.none)=true then _ else _) _ _ s;rw[aV (show¬((Value.ref t==Value.none)=true)from ko)];show wpAny _ _ (field (.ref it) 1>>=_) _ _ s;erw[aL (kW oF di (x:=.int k 0) Z ?_)];show wpAny _ _ (seqItems? (.ref t)>>=_) _ _ s;erw[aL (zM LF dt ?_)];simp only[IE,hx];erw[aL (EO (aL (HX oF di (by simp) ?_)))];show wpAny _ _ (newExc (.type "StopIteration") []>>=_) _ _ _;erw[aL ?_];simp only[newExc,newTuple];erw[aL (tK ?_ (by size_fits)),B,aL (m:=firstArgMember _ _) (BM (a:=Value.none) (by first|rfl|(simp only[firstArgMember];rfl)) ?_),B,tK ?_ (by size_fits)];simp only[raiseNew];erw[aL (wpAny_handled ?_)]
 first|rw[show A.in1.handled=none from hh]|rw[hh]
 erw[aL (bU (wpAny_throw (q _ _ (((Heap.SameBut.update ..).extBut.push _).push _) #[_,fX _ Z,Z])))]
def Gs{b:Bool}{it l:Addr}{k:Nat}{xs:Array Value}{x:Value}{Q:Value->ah->Prop}(hi:mM b s.heap it l k)(hl:jr b s.heap l xs)(hx:xs[k]? =some x) (q:∀g,mM b g it l (k+1)->Heap.SameBut it s.heap g->Q x {s with heap:=g}):wpAny (model prog w) A (Builtin.SmallTypes.nextOf (.ref it)) Q E s:=by
 cases b
 ·erw[a8s hi hl hx q]
 ·erw[wpAny_nextOf_list_item hi hl hx q]
def MI{b:Bool}{it l:Addr}{k:Nat}{xs:Array Value}{Q:Value->ah->Prop}(hh:A.handled=none)(hi:mM b s.heap it l k)(hl:jr b s.heap l xs)(hx:xs[k]? =none) (q:∀g e,Heap.ExtBut it s.heap g->(∃o,g.get? e=some o/\o.cls= .type "StopIteration")->E (.ref e) {s with heap:=g}):wpAny (model prog w) A (Builtin.SmallTypes.nextOf (.ref it)) Q E s:=by
 cases b
 ·erw[aeF hh hi hl hx q]
 ·erw[wpAny_nextOf_list_end hh hi hl hx q]
structure Zp(b1 b2:Bool)(h:Heap)(z TI TO i1 i2 l1 l2:Addr)(f0:Value)(k:Nat):Prop where
 zz:IsZip h z TI TO f0
 ti:IsPair h TI (.ref i1) (.ref i2)
 to:∃a b,IsPair h TO a b
 n1:mM b1 h i1 l1 k
 n2:mM b2 h i2 l2 k
def VS{z TI TO:Addr}{Q:Bool->ah->Prop}(hz:IsZip s.heap z TI TO .none)(q:Q true s):wpAny (model prog w) A (Builtin.SmallTypes.ownedTupleIsFree (.ref z)) Q E s:=by unfold Builtin.SmallTypes.ownedTupleIsFree;erw[aL (kW hz Z (x:=.none) Z (bU q))]
def a1O{b1 b2:Bool}{z TI TO i1 i2 l1 l2:Addr}{k:Nat}{xs ys:Array Value}{x y:Value}{Q:Value->ah->Prop}(D:ZipApart z TI TO i1 i2 l1 l2)(aks:Zp b1 b2 s.heap z TI TO i1 i2 l1 l2 .none k) (wm:jr b1 s.heap l1 xs)(wk:jr b2 s.heap l2 ys)(hx:xs[k]? =some x)(hy:ys[k]? =some y) (q:∀g,Zp b1 b2 g z TI TO i1 i2 l1 l2 (rawInt s.heap.objs.size) (k+1)->IsPair g s.heap.objs.size x y->(∀c o,c≠z->c≠TO->c≠i1->c≠i2->s.heap.get? c=some o->g.get? c=some o)->Q (.ref s.heap.objs.size) {s with heap:=g}): wpAny (model prog w) A (Builtin.«zip.__next__» #[[.ref z],[]]) (λr s'=>∃v,r= .done (.ret v)/\Q v s') E s:=by
 let(hz,pF,(a,b,qB),h1,h2):=aks;show wpAny _ _ (field (.ref z) 2>>=_) _ _ _;erw[aL (kW hz Z (x:=.bool false) Z ?_)];show wpAny _ _ (field (.ref z) 3>>=_) _ _ _;erw[aL (kW hz Z (x:=.ref TI) Z (aL (zM pF Z ?_)))];show wpAny _ _ (Builtin.SmallTypes.ownedTupleIsFree (.ref z)>>=_) _ _ _;erw[aL (VS hz ?_)];simp only[xk];erw[aL (EO (aL (kW hz Z (x:=.ref TO) Z (aL (EN hz (by simp) λg1 z1 e1=>?_)))))];replace z1:IsZip g1 z TI TO .ellipsis:=z1;erw[aL ?_];simp only[j0l,j0c,OL,List.forIn_nil];erw[aL (aL (HZ ?_))];show wpAny _ _ (Builtin.SmallTypes.nextOf (.ref i1)>>=_) _ _ _;erw[aL (Gs (h1.to λo e=>e1.extBut _ _ D.i1z e) (wm.to λo e=>e1.extBut _ _ D.l1z e) hx λg2 n1 e2=>bU ?_)];let t2:IsPair g2 TO a b:=e2.extBut _ _ D.TOi1 (e1.extBut _ _ D.TOz qB);erw[aL (zM t2 Z (aL (a1a t2 λg3 t3 e3=>?_)))];replace t3:IsPair g3 TO x b:=t3;erw[aL (wpAny_letGo (bU ?_)),B,aL (aL (HZ ?_))];show wpAny _ _ (Builtin.SmallTypes.nextOf (.ref i2)>>=_) _ _ _;erw[aL (Gs (h2.to λo e=>e3.extBut _ _ D.TOi2.symm (e2.extBut _ _ D.i12.symm (e1.extBut _ _ D.i2z e))) (wk.to λo e=>e3.extBut _ _ D.l2TO (e2.extBut _ _ D.l2i1 (e1.extBut _ _ D.l2z e))) hy λg4 n2 e4=>bU ?_)];let t4:IsPair g4 TO x b:=e4.extBut _ _ D.TOi2 t3;erw[aL (zM t4 Z (aL (a1a t4 λg5 t5 e5=>?_)))];replace t5:IsPair g5 TO x y:=t5;erw[aL (wpAny_letGo (bU (bU ?_))),B,aL (zM t5 Z (aL (wpAny_newTuple ?_)))];let sz:g5.objs.size=s.heap.objs.size:=by rw[e5.1,e4.1,e3.1,e2.1,e1.1]
 let z5:IsZip g5 z TI TO .ellipsis:=e5.extBut _ _ D.TOz.symm (e4.extBut _ _ D.i2z.symm (e3.extBut _ _ D.TOz.symm (e2.extBut _ _ D.i1z.symm z1)));let kp:∀c o,c≠z->c≠TO->c≠i1->c≠i2->s.heap.get? c=some o->g5.get? c=some o:=λc o c1 c2 c3 c4 e=>e5.extBut _ _ c2 (e4.extBut _ _ c4 (e3.extBut _ _ c2 (e2.extBut _ _ c3 (e1.extBut _ _ c1 e))));let m1:mM b1 g5 i1 l1 (k+1):=n1.to λo e=>e5.extBut _ _ D.TOi1.symm (e4.extBut _ _ D.i12 (e3.extBut _ _ D.TOi1.symm e));let m2:mM b2 g5 i2 l2 (k+1):=n2.to λo e=>e5.extBut _ _ D.TOi2.symm e;let II:z<g5.objs.size:=cP z5;show wpAny _ _ (Builtin.SmallTypes.ownedTupleHandOut (.ref z) (.ref g5.objs.size)>>=_) _ _ _;erw[aL ?_];unfold Builtin.SmallTypes.ownedTupleHandOut;let z6:IsZip (g5.push {cls:=.type "tuple",data:=.seq (List.toArray [x,y])}) z TI TO .ellipsis:=cR _ z5;erw[aL (EN z6 (by simp) λg7 z7 e7=>?_)];replace z7:IsZip g7 z TI TO (rawInt g5.objs.size):=z7;erw[EN z7 (by simp) λg8 z8 e8=>?_];replace z8:IsZip g8 z TI TO (rawInt g5.objs.size):=z8;let up:∀c o,c≠z->g5.get? c=some o->g8.get? c=some o:=λc o c1 e=>e8.extBut _ _ c1 (e7.extBut _ _ c1 (cR _ e));let t8:IsPair g8 g5.objs.size x y:=e8.extBut _ _ (zS II) (e7.extBut _ _ (zS II) (fX _ Z));rw[sz]at z8 t8;erw[bU #[_,Z,?_]];show Q (.ref g5.objs.size) _;rw[sz];erw[q g8 #[z8,up _ _ D.TIz (kp _ _ D.TIz D.TITO D.TIi1 D.TIi2 pF),#[xz,up _ _ D.TOz t5],m1.to λo e=>up _ o D.i1z e,m2.to λo e=>up _ o D.i2z e] t8 λc o c1 c2 c3 c4 e=>up c o c1 (kp c o c1 c2 c3 c4 e)]
def a1P{b1 b2:Bool}{z TI TO i1 i2 l1 l2:Addr}{k:Nat}{xs ys:Array Value}{Q:Fin->ah->Prop}(hh:A.handled=none)(D:ZipApart z TI TO i1 i2 l1 l2)(aks:Zp b1 b2 s.heap z TI TO i1 i2 l1 l2 .none k) (wm:jr b1 s.heap l1 xs)(wk:jr b2 s.heap l2 ys)(yS:xs[k]? =none\/ys[k]? =none) (q:∀g e,(∀c o,c≠z->c≠TO->c≠i1->c≠i2->s.heap.get? c=some o->g.get? c=some o)->(∃o,g.get? e=some o/\o.cls= .type "StopIteration")->E (.ref e) {s with heap:=g}): wpAny (model prog w) A (Builtin.«zip.__next__» #[[.ref z],[]]) Q E s:=by let(hz,pF,(a,b,qB),h1,h2):=aks;show wpAny _ _ (field (.ref z) 2>>=_) _ _ _;erw[aL (kW hz Z (x:=.bool false) Z ?_)];show wpAny _ _ (field (.ref z) 3>>=_) _ _ _;erw[aL (kW hz Z (x:=.ref TI) Z (aL (zM pF Z ?_)))];show wpAny _ _ (Builtin.SmallTypes.ownedTupleIsFree (.ref z)>>=_) _ _ _;erw[aL (VS hz ?_)];simp only[xk];erw[aL (EO (aL (kW hz Z (x:=.ref TO) Z (aL (EN hz (by simp) λg1 z1 e1=>?_)))))];replace z1:IsZip g1 z TI TO .ellipsis:=z1;erw[aL ?_];simp only[j0l,j0c,OL,List.forIn_nil];erw[aL (aL (HZ ?_))];show wpAny _ _ (Builtin.SmallTypes.nextOf (.ref i1)>>=_) _ _ _;let j1:=h1.to λo e=>e1.extBut _ _ D.i1z e;let k1:=wm.to λo e=>e1.extBut _ _ D.l1z e;cases hx:xs[k]? with
 |none=>
  erw[aL (MI hh j1 k1 hx λg2 er e2 #[oe,yL,DK]=>?_)];let z2:IsZip g2 z TI TO .ellipsis:=e2 _ _ D.i1z.symm z1;let nz:er≠z:=λv=>by subst v;rw[z2]at yL;cases yL;simp at DK
  erw[EN z2 (by simp) λg3 _ e3=>q g3 er (λc o c1 _ c3 _ v=>e3.extBut _ _ c1 (e2 _ _ c3 (e1.extBut _ _ c1 v))) #[oe,e3.extBut _ _ nz yL,DK]] |some x=>
  let hy:ys[k]? =none:=by rcases yS with h|h;rw[hx]at h;cases h;erw[h]
  erw[aL (Gs j1 k1 hx λg2 n1 e2=>bU ?_)];let t2:IsPair g2 TO a b:=e2.extBut _ _ D.TOi1 (e1.extBut _ _ D.TOz qB);erw[aL (zM t2 Z (aL (a1a t2 λg3 t3 e3=>?_))),B,aL (wpAny_letGo (bU ?_)),B,aL (aL (HZ ?_))];show wpAny _ _ (Builtin.SmallTypes.nextOf (.ref i2)>>=_) _ _ _;erw[aL (MI hh (h2.to λo e=>e3.extBut _ _ D.TOi2.symm (e2.extBut _ _ D.i12.symm (e1.extBut _ _ D.i2z e))) (wk.to λo e=>e3.extBut _ _ D.l2TO (e2.extBut _ _ D.l2i1 (e1.extBut _ _ D.l2z e))) hy λg4 er e4 #[oe,yL,DK]=>?_)];let z4:IsZip g4 z TI TO .ellipsis:=e4 _ _ D.i2z.symm (e3.extBut _ _ D.TOz.symm (e2.extBut _ _ D.i1z.symm z1));let nz:er≠z:=λv=>by subst v;rw[z4]at yL;cases yL;simp at DK
  erw[EN z4 (by simp) λg5 _ e5=>q g5 er (λc o c1 c2 c3 c4 v=>e5.extBut _ _ c1 (e4 _ _ c4 (e3.extBut _ _ c2 (e2.extBut _ _ c3 (e1.extBut _ _ c1 v))))) #[oe,e5.extBut _ _ nz yL,DK]]
abbrev Fm(b1:Bool)(h:Heap)(l1:Addr):Heap:=h.push {cls:=.type (wO b1),data:=.fields (List.toArray [.ref l1,.int 0 0])}
abbrev Fj(b1 b2:Bool)(h:Heap)(l1 l2:Addr):Heap:=(Fm b1 h l1).push {cls:=.type (wO b2),data:=.fields (List.toArray [.ref l2,.int 0 0])}
abbrev Fi(b1 b2:Bool)(h:Heap)(l1 l2:Addr):Heap:=(Fj b1 b2 h l1 l2).push {cls:=.type "tuple",data:=.seq (List.toArray [.ref h.objs.size,.ref (Fm b1 h l1).objs.size])}
abbrev Fh(b1 b2:Bool)(h:Heap)(l1 l2:Addr):Heap:=(Fi b1 b2 h l1 l2).push {cls:=.type "tuple",data:=.seq (List.toArray [.none,.none])}
abbrev A2(b1 b2:Bool)(h:Heap)(l1 l2:Addr):Heap:=(Fh b1 b2 h l1 l2).push {cls:=.type "zip",data:=.fields (List.toArray [.none,.bool false,.bool false,.ref (Fj b1 b2 h l1 l2).objs.size,.ref (Fi b1 b2 h l1 l2).objs.size])}
def a1N(b1 b2:Bool)(l1 l2:Addr)(xs ys:Array Value):Meets (Builtin.«zip.__new__» #[[.type "zip",.ref l1,.ref l2],[]]) (λ_ R s=>jr b1 s.heap l1 xs/\jr b2 s.heap l2 ys/\R (.ok (.ret (.ref (Fh b1 b2 s.heap l1 l2).objs.size))) {s with heap:=A2 b1 b2 s.heap l1 l2}):=.of_wp λprog w A R s h=>by
 let(hp,gg,d,tk,os):=s;let(wm,wk,h):=h;let LB:=sub_zip;let hL1:jr b1 (Shared.heap #[hp,gg,d,tk,os]) l1 xs:=wm;let yY:jr b2 (Shared.heap #[hp.push {cls:=.type (wO b1),data:=.fields (List.toArray [.ref l1,.int 0 0])},gg,d,tk,os]) l2 ys:=wk.to λo e=>cR _ e
 wp_walk using AL hL1,AL yY;erw[ww,h]
def a1Q{b1 b2:Bool}{l1 l2:Addr}{xs ys:Array Value}{Q:Value->ah->Prop}(wm:jr b1 s.heap l1 xs)(wk:jr b2 s.heap l2 ys) (q:∀g,Zp b1 b2 g (s.heap.objs.size+4) (s.heap.objs.size+2) (s.heap.objs.size+3) s.heap.objs.size (s.heap.objs.size+1) l1 l2 .none 0->(∀c o,s.heap.get? c=some o->g.get? c=some o)->Q (.ref (s.heap.objs.size+4)) {s with heap:=g}): wpAny (model prog w) A (call (.type "zip") [.ref l1,.ref l2]) Q E s:=by
 erw[callType_new PySem.F.called_zip aw (PySem.F.typeCall_zip_2 _ _) (PySem.F.newCall_zip_2 _ _) (λobj=>PySem.F.args_object_init_3 obj _ _) PySem.F.entry_zip_new (a1N b1 b2 l1 l2 xs ys) #[wm,wk,?_]];let z1:(Fm b1 s.heap l1).objs.size=s.heap.objs.size+1:=tR ..;let z2:(Fj b1 b2 s.heap l1 l2).objs.size=s.heap.objs.size+2:=by rw[tR,z1]
 let z3:(Fi b1 b2 s.heap l1 l2).objs.size=s.heap.objs.size+3:=by rw[tR,z2]
 let z4:(Fh b1 b2 s.heap l1 l2).objs.size=s.heap.objs.size+4:=by rw[tR,z3]
 let g5:(A2 b1 b2 s.heap l1 l2).get? (Fh b1 b2 s.heap l1 l2).objs.size=some _:=fX _ rfl;let g4:(A2 b1 b2 s.heap l1 l2).get? (Fi b1 b2 s.heap l1 l2).objs.size=some _:=cR _ (fX _ Z);let g3:(A2 b1 b2 s.heap l1 l2).get? (Fj b1 b2 s.heap l1 l2).objs.size=some _:=cR _ (cR _ (fX _ Z));let g2:(A2 b1 b2 s.heap l1 l2).get? (Fm b1 s.heap l1).objs.size=some _:=cR _ (cR _ (cR _ (fX _ Z)));let g1:(A2 b1 b2 s.heap l1 l2).get? s.heap.objs.size=some _:=cR _ (cR _ (cR _ (cR _ (fX _ Z))));show _/\_;rw[z2,z3,z4]at g5;rw[z1,z2]at g3;rw[z3]at g4;rw[z1]at g2;rw[z4];erw[#[_,g5,Z],q _ #[g5,g3,#[xz,g4],zn] λc o e=>cR _ (cR _ (cR _ (cR _ (cR _ e))))]
 ·cases b1<;>erw[_,g1,rfl,rfl]
 ·cases b2<;>erw[_,g2,rfl,rfl]
end
section
variable {X:Cx}{ay:By}{O:St}{H:Hp}{s:ah}{h':Heap}
def Inv.Cd{t':Nat}{fp:DO}(I:Inv X ay O H s)(k:∀b o,b∉fp->s.heap.get? b=some o->h'.get? b=some o)(hf:∀b∈fp,m5 X ay H b):Inv X ay O H {s with heap:=h',toks:=t'}:=by
 let D9:∀b u,H b=some u->b∉fp:=λb u e z=>by rw[(hf b z).1]at e;cases e
 let hL:X.env.locals∉fp:=λz=>(hf _ z).2.1 rfl;erw[I.step (g':=s.gens) (d':=s.drawn) (ch:=fp) (λb hb=>?_) (λb o _ _ hc e _=>k b o hc e) (λb o _ _ hc e _=>#[o.slots,k b o hc e]) (λ_ _ _ _ n=>n) (λb o hc e=>#[o,k b o hc e]) (λ_ _ e=>e) (λ_ _ _ e=>e) (λb ps e=>#[#[],by rw[e];simp]) (λm hm=>?_) (λb u e=>?_) I.bare]
 ·let(f0,f1,f2,f3,f4,f5):=hf b hb
  erw[f3,f1,f4,f5]
 ·let(o,es,ep,ho,r):=hm
  erw[o,es,ep,k _ o hL ho,r]
 ·refine(I.bD b u e).oZ (λc v hc q=>k c v ?_ q) (λ_ q=>q) λ_ _ q=>q
  rcases hc with z|z
  ·rw[z];erw[D9 b u e]
  ·erw[D9 c _ z]
end
def fP(b:Bool)(K:ag)(H:Hp)(a:Addr)(xs:AT):Prop:=match b with|true=>aK K H a xs|false=>aW K H a xs
def fP.get{X:Cx}{ay:By}{O:St}{H:Hp}{s:ah}{b:Bool}{a:Addr}{xs:AT}(I:Inv X ay O H s)(h:fP b X.K H a xs):∃its:BY,Vals xs its/\jr b s.heap a its.toArray:=by
 cases b
 ·let(its,r,p,_):=I.tuple h;erw[its,r,p]
 ·let(its,r,p,_):=I.list h;erw[its,r,p.isList]
def fP.inj{X:Cx}{ay:By}{O:St}{H:Hp}{s:ah}{b:Bool}{a:Addr}{xs ys:AT}(I:Inv X ay O H s)(h:fP b X.K H a xs)(g:fP b X.K H a ys):xs=ys:=by
 cases b
 ·erw[I.Ph h g]
 ·erw[I.Xq h g]
def wZ(K:ag)(b1 b2:Bool)(l1 l2:Addr):It:=#[λi H=>∃xs ys x y,fP b1 K H l1 xs/\fP b2 K H l2 ys/\xs[i]? =some x/\ys[i]? =some y,λi H v H'=>∃T x y,v= .ref T/\(∀xs,fP b1 K H l1 xs->xs[i]? =some x)/\(∀ys,fP b2 K H l2 ys->ys[i]? =some y)/\Nw H H' T (.tup [x,y]),λi H=>∃xs ys,fP b1 K H l1 xs/\fP b2 K H l2 ys/\(⇑xs<=i\/⇑ys<=i)]
def a2l{P:ai}{w:World}{K:ag}{elts:Cn}{kt:Nat}{pos:Pos}{b1 b2:Bool}{z TI TO i1 i2 l1 l2:Addr}(D:ZipApart z TI TO i1 i2 l1 l2): Turn P w K (.Tuple elts kt pos) (wZ K b1 b2 l1 l2) [z,TI,TO,i1,i2] z (λi h=>Zp b1 b2 h z TI TO i1 i2 l1 l2 .none i) where
 mem:=by simp
 obj:=λi h st b hb=>by
  let(hz,pF,(a,c,qB),h1,h2):=st;simp only[dj,gy,jM]at hb;rcases hb with rfl|rfl|rfl|rfl|rfl
  ·erw[_,hz,λv e=>by cases e]
  ·erw[_,pF,λv e=>by cases e]
  ·erw[_,qB,λv e=>by cases e]
  ·let(o,e,_,n):=h1.ob;erw[o,e,n]
  ·let(o,e,_,n):=h2.ob;erw[o,e,n]
 keep:=λi h h' st k=>by let(hz,pF,(a,c,qB),h1,h2):=st;erw[k z (by simp) _ hz,k TI (by simp) _ pF,#[a,c,k TO (by simp) _ qB],h1.to λo e=>k i1 (by simp) o e,h2.to λo e=>k i2 (by simp) o e]
 item:=by
  intro X hP hw hK hc i ay s O H E I hf st hg;subst hP hw hK;let(xs,ys,x,y,q1,q2,e1,e2):=hg;let(Lj,r1,p1):=q1.get I;let(qv,r2,p2):=q2.get I;let(u1,Lz,kK):=r1.get e1;let(u2,hu2,pW):=r2.get e2;let hT:s.TypeIs (.ref z) "zip":=#[_,st.zz,Z];unfold pyNext;erw[aL (Ie (Ic (name:=Str.ofString "__next__") hT Oo (Ib Oo hT PP (a1O D st p1 p2 (x:=u1) (y:=u2) (by simpa using Lz) (by simpa using hu2) λg zg tg kp=>bU ?_) (Sa _)))),B,wv,B,wpAny_letOwnedTupleGo_zip zg.zz λg' zz' sb=>?_];let hs:=sb.extBut;let II:z<s.heap.objs.size:=cP st.zz;let nw:Nw H (bn H s.heap.objs.size (.tup [x,y])) s.heap.objs.size (.tup [x,y]):=.of (I.bD.fresh (aZ _));let I1:Inv X ay O (bn H s.heap.objs.size (.tup [x,y])) {s with heap:=s.heap.push {cls:=.type "tuple",data:=.seq (List.toArray [u1,u2])}}:=I.laid (t':=s.toks) (λb ob q=>cR _ q) (aZ _) #[by show 2<=sizeLine;decide,[u1,u2],.cons kK (.cons pW .nil),#[_,fX _ Z,WP]];let KN:∀b∈[z,TI,TO,i1,i2],b<s.heap.objs.size:=λb hb=>by
   simp only[dj,gy,jM]at hb;let(hz,pF,(a,c,qB),h1,h2):=st;rcases hb with rfl|rfl|rfl|rfl|rfl
   ·erw[cP hz]
   ·erw[cP pF]
   ·erw[cP qB]
   ·let(o,e,_):=h1.ob;erw[cP e]
   ·let(o,e,_):=h2.ob;erw[cP e]
  let hn:∀b∈[z,TI,TO,i1,i2],bn H s.heap.objs.size (.tup [x,y]) b=none:=λb hb=>by rw[aU (fo (KN b hb))];exact(hf b hb).1
  let I2:Inv X ay O (bn H s.heap.objs.size (.tup [x,y])) {s with heap:=g'}:=Inv.Cd (s:={s with heap:=s.heap.push {cls:=.type "tuple",data:=.seq (List.toArray [u1,u2])}}) (t':=s.toks) (fp:=[z,TI,TO,i1,i2]) I1 (λb o hb e=>by
   let e:(s.heap.push {cls:=.type "tuple",data:=.seq (List.toArray [u1,u2])}).get? b=some o:=e;let nz:b≠z:=λq=>hb (by simp[q]);rcases a1J e with⟨LX,rfl⟩|e'
   ·subst LX
    erw[hs _ _ nz tg]
   ·erw[hs _ _ nz (kp b o nz (λq=>hb (by simp[q])) (λq=>hb (by simp[q])) (λq=>hb (by simp[q])) e')]) (λb hb=>by let(f0,f1,f2,f3,f4,f5):=hf b hb;erw[hn b hb,f1,f2,f3,f4,f5]);erw[.ref s.heap.objs.size,_,I2,Z,#[s.heap.objs.size,x,y,Z,λzs hz=>?_,λzs hz=>?_,nw],?_,hn]
  ·rw[fP.inj I hz q1];erw[e1]
  ·rw[fP.inj I hz q2];erw[e2]
  ·let(_,pF,(a,c,qB),h1,h2):=zg
   erw[zz',hs _ _ D.TIz pF,#[a,c,hs _ _ D.TOz qB],h1.to λo e=>hs _ o D.i1z e,h2.to λo e=>hs _ o D.i2z e]
 done:=by intro X hP hw hK hc i ay s O H E I hf st hg;subst hP hw hK;let(xs,ys,q1,q2,yS):=hg;let(Lj,r1,p1):=q1.get I;let(qv,r2,p2):=q2.get I;let hT:s.TypeIs (.ref z) "zip":=#[_,st.zz,Z];let l1:=⇑r1;let l2:=⇑r2;unfold pyNext;erw[aL (Ie (Ic (name:=Str.ofString "__next__") hT Oo (Ib Oo hT PP (a1P (I.ok.hd hc) D st p1 p2 (yS.imp (λh=>by simp;erw[_S.oM h l1]) λh=>by simp;erw[_S.oM h l2]) λg e kp he=>?_) (Sa _))))];let(o,ho,cU):=he;erw[aL (wpAny_isInstance (T:="StopIteration") (b:=true) #[o,ho,cU] isSubtype_stop (bU #[Z,?_])),B,I.Cd (t':=s.toks) (fp:=[z,TI,TO,i1,i2]) (λb o hb e=>kp b o (λq=>hb (by simp[q])) (λq=>hb (by simp[q])) (λq=>hb (by simp[q])) (λq=>hb (by simp[q])) e) hf]
 self:=λ_ _ _ _ _ st h=>j0k st.zz h
inductive aiM(K:ag)(b1:Bool)(b2:Bool)(R:It->Hp->Prop)(vs:AT)(H1:Hp):Prop |mk l1 l2(_:vs=[.ref l1,.ref l2])(_:(∃xs,fP b1 K H1 l1 xs))(_:(∃ys,fP b2 K H1 l2 ys))(_:R (wZ K b1 b2 l1 l2) H1)
def aaA(K:ag)(b1 b2:Bool)(ta:TA):TI:=λO H R=>ta O H λvs H1=>aiM K b1 b2 R vs H1
def lH(K:ag){X:Cx}(hK:X.K=K)(b1 b2:Bool){elts:Cn}{kt:Nat}{vC:Pos}{a b:Expr}{ta:TA}{p pos:Pos}(hg:Gl X "zip")(hm:X.mg "zip"=none)(ha:PA X [a,b] ta)(hs:↥(starEach [a,b] X.env=[(false,eval a X.env),(false,eval b X.env)]))(kC:↥(starEach [b] X.env=[(false,eval b X.env)])): PI X (.Tuple elts kt vC) (.Call (.Name "zip" p) [a,b] [] pos) (aaA K b1 b2 ta):=by
 subst hK;intro ay s O H R I h;erw[Call_ (w6 I hg hm PyProof.Rows.boot_zip (EV (bo (ha pos ay s O H _ I h) λus s1 #[vs,H1,I1,r1,q1]=>?_) (by rw[hs,kC]) (by rw[kC];rfl)))];let(l1,l2,e,(xs,h1),(ys,h2),q):=q1;subst e;let(u1,u2,rfl,kK,pW):=vals2 r1;cases(show u1=Value.ref l1 from kK);cases(show u2=Value.ref l2 from pW);let(Lj,v1,p1):=h1.get I1;let(qv,v2,p2):=h2.get I1;let a1:l1<s1.heap.objs.size:=by cases b1<;>(let(o,e,_):=p1;erw[cP e])
 let a2:l2<s1.heap.objs.size:=by cases b2<;>(let(o,e,_):=p2;erw[cP e])
 erw[a1Q p1 p2 λg zg kp=>j0k zg.zz ?_,B,xz,xz,H1,Z,I1.kept (t':=s1.toks) kp,a2l (zipApart_new a1 a2),zg,λc hc=>?_,q];let hle:s1.heap.objs.size<=c:=by simp only[dj,gy,jM]at hc;rcases hc with rfl|rfl|rfl|rfl|rfl<;>first|erw[aZ _]|erw[jg _ _]
 erw[I1.wB hle (I1.bD.fresh hle)]
theorem fP.go{b:Bool}{K:ag}{xs:AT}(s:aI H H')(h:fP b K H a xs):fP b K H' a xs:=by
 cases b
 ·erw[aW.go s h]
 ·erw[aK.go s h]
def afk{K:ag}{bs:List Bool}{D:Addr}(rest:St)(hn:n=2)(h1:fP b1 K H l1 xs)(h2:fP b2 K H l2 ys)(nw:Nw H H0 D (.bi [])) (hl:min ⇑xs ys.length=⇑bs)(hz:⇑bs<=1000) (hs:∀(i:Nat)(x y:V)(b:Bool)(H2:Hp)(Q':VK),xs[i]? =some x->ys[i]? =some y->bs[i]? =some b->aI H H2->(∀H3,aI H2 H3->Q' (.bl b) H3)->te (some x::some y::rest) H2 Q') (hq:∀H',aI H H'->H' D=some (.bi (bs.map V.bl))->Q (.ref D) H'):m6 (wZ K b1 b2 l1 l2) (DS K n (ze (iu 0) (ze (iu 1) Hf))) kJ te Q D (none::none::rest) H0:=by
 subst hn;let hD:=nw.no;erw[wM ⇑bs (λi O H2=>aI H H2/\H2 D=some (.bi ((bs.take i).map V.bl))/\∃v v',O=v::v'::rest) ?_ ?_ ?_]
 ·erw[nw.ss,nw.at',none,none,Z]
 ·rintro i O H2 hi ⟨s2,d2,v,v',rfl⟩
  let hx:i<⇑xs:=by lia
  let hy:i<⇑ys:=by lia
  let ex:=bf hx;let ey:=bf hy;let eb:=bf hi;erw[#[xs,ys,xz,h1.go s2,h2.go s2,ex,ey],λy' H3 nH=>?_];let(T,x0,y0,rfl,k1,k2,n3):=nH;let e1:=k1 _ (h1.go s2);let e2:=k2 _ (h2.go s2);rw[ex]at e1;rw[ey]at e2;cases e1;cases e2;erw[T,ww,aW.of n3.at',wE,B,yes (bB ?_),B,hs i _ _ _ _ _ ex ey eb (s2.ao n3.ss) λH4 s4=>?_,B,_,s4 _ _ (n3.ss _ _ d2),?_,⇑bs-(i+1),m8 hi (gR _),Z,hi,λb o e=>?_,?_,wT]
  ·rw[bC,kH]
   have:(1000:Nat)<sizeLine:=by decide
   lia
  ·rw[aU (e9 e hD)];erw[s4 b o (n3.ss b o (s2 b o e))]
  ·rw[bQ,mQ,eb,kn];rfl
 ·rintro O H2 ⟨s2,d2,v,v',rfl⟩
  erw[#[xs,ys,h1.go s2,h2.go s2,aE],hq H2 s2 ?_];rw[d2,zU]
def gQ.there{P:ai}{w:World}(x:gQ P w H h a o):∃ob,h.get? a=some ob:=by induction o with |bi xs=>let(_,_,_,_,e):=x;erw[_,e] |tup xs=>let(_,_,_,ob,e,_):=x;erw[ob,e] |dK fO=>let(_,_,_,_,ob,_,_,e,_):=x;erw[ob,e] |dT fO=>let(_,_,_,_,ob,_,_,e,_):=x;erw[ob,e] |set S n=>let(ob,_,_,_,e,_):=x;erw[ob,e] |ins C dx fs=>let(_,_,_,e,_):=x;erw[_,e] |own y=>erw[x] |xd fs=>let(_,(ob,_,_,e,_),_):=x;erw[ob,e] |xW lo hi=>let(_,_,_,e):=x;erw[_,e] |qE ob u=>erw[_,x.1] |uc ps=>erw[_,x] |met f y=>erw[_,x] |ext φ=>erw[x.2.1]
structure Fl(P:ai)(w:World)(outer:Cl)(H:Hp)(h₁:Heap)(ex:Addr)(H':Hp)(B h:Heap):Prop where
 un:Un (gG outer) [] H H' h₁ h
 bD:fF P w H' h
 k1:∀b o,h₁.get? b=some o->H b=none->b∉gG outer->B.get? b=some o
 k2:∀b o,H' b=some o->∃ob,B.get? b=some ob
 k3:∀b o,h₁.get? b=some o->b∉gG outer->∃ob,B.get? b=some ob
 fr:∀b∈gG outer,H' b=none
 nw:h₁.get? ex=none
 ne:H' ex=none
def Fl.step{P:ai}{w:World}{aB:Heap}(F:Fl P w outer H h₁ ex H' B h)(st:B.StaysIn h)(jx:B.StaysIn h')(up:h.UpToSlots h')(ff:h.FunFrames aB outer):Fl P w outer H h₁ ex H' B h':=by
 let slot:∀b o,h₁.get? b=some o->H b=none->b∈gG outer->∃sl,h'.get? b=some {o with slots:=sl}:=λb o e n hb=>by let(sl,e1):=F.un.slot b o e n hb (by simp);let(_,o2,e2,hd):=ff.mem hb;rw[e1]at e2;cases e2;let(Jj,e3):=up b _ e1 (λvs=>hd vs);erw[Jj,e3]
 erw[#[λb o e n hb _=>jx b o (F.k1 b o e n hb),λb o e n hb _=>slot b o e n hb,F.un.free,λb o e hx=>?_,F.un.mY,F.un.mG,F.un.ng],λb u e=>?_,F.k1,F.k2,F.k3,F.fr,F.nw,F.ne]
 ·by_cases hb:b∈gG outer
  ·let(_,o2,e2,hd):=ff.mem hb
   let(sl,e3):=up b o2 e2 hd;erw[_,e3]
  ·let(ob,e1):=F.k3 b o e hb
   erw[ob,jx b ob e1]
 ·refine(F.bD b u e).oZ (λc v hc q=>?_) (λ_ q=>q) λ_ _ q=>q
  let inB:∃ob,B.get? c=some ob:=by
   rcases hc with z|z
   ·rw[z];erw[F.k2 b u e]
   ·erw[F.k2 c _ z]
  let(ob,e1):=inB;let e2:=st c ob e1;rw[q]at e2;cases e2;erw[jx c _ e1]
structure Exc(K:ag)(mg:bZ)(x:Str)(C:Addr)(ie:BY)(newId:String):Prop where
 at':mg x=some (.ref C)
 ok:W.excIn K C ie newId=true
def Exc.own{K:ag}{mg:bZ}{C:Addr}(e:Exc K mg x C ie newId)(X:K.In h):OwnCls x C ie newId mg h:=by
 erw[e.at',?_];let q:=e.ok;unfold W.excIn at q;split at q
 ·rename_i dd cd sl ho
  split at q
  ·rename_i D2 bl a0 a1 a2 a3 nn a5 hm hs
   simp only[gf,gU,OT]at q;let(((((r1,r2),DH),ht),bD),DC):=q;subst r1 r2;let(c1,c2,c3,c4,c5,c6,c7,c8,c9,c10,c11):=cd;dsimp only at hm DH bD DC;subst hm DH;obtain⟨l⟩:=sl;simp only at hs;subst hs;erw[bl,c4,c1,c5,c2,c6,c7,c8,c9,c10,dd,a0,a1,a2,a3,a5,_,X _ _ ho,.of_isNs (W.isNs_of_in X bD),W.nsMap_none_of_in X bD DC,W.tail_of_in X ht]
  ·cases q
 ·cases q
section
variable {M:Model}{A:ak}{Ex:Value->ah->Prop}
def aen{h:Heap}{g:Array GenState}{d:Drawn}{tk:Nat}{os:OsState}{e:Addr}{oe:Obj}{Q:Bool->ah->Prop}{C D N N':Addr}{nm WC q q':Str}{bs bs' bm Nq:BY}{hdct Y9:Bool}{sn Qw:Ch}{sub PR:BY}{ab ab':Bool}{col ZR:Option Bool}{dd ZH:Option Addr}{k0 k1 k2 k3 k5 j0 j1 j2 j3 j5:Option Value}{newId a8Q:String} (hC:h.get? C=some (excClassObj nm q C N bs bm hdct sn sub ab col dd k0 k1 k2 k3 k5 newId))(hD:h.get? D=some (excClassObj WC q' D N' bs' Nq Y9 Qw PR ab' ZR ZH j0 j1 j2 j3 j5 a8Q)) (he:h.get? e=some oe)(DI:oe.cls= .ref C)(hb:Nq.contains (.type "BaseException")=true)(hs:(Value.ref C::bm).contains (.ref D)=true) (hq:Q true #[h,g,d,tk,os]):wpAny M A (excMatches (.ref e) (.ref D)) Q Ex #[h,g,d,tk,os]:=by
 let hcB:(Value.ref D::Nq).contains (.type "BaseException")=true:=by rw[a1F,hb,j01]
 let f:=tc_notTuple;unfold excMatches
 repeat (first|(with_reducible erw[zN he ?_];rw[DI])|with_reducible erw[zN hD ?_]|(with_reducible erw[O9 hD ?_];rw[hcB])|(with_reducible erw[O9 hC ?_];rw[hs])|with_reducible erw[zN hC ?_]|wp_step)
 erw[hq]
end
abbrev Cx.hand(X:Cx)(ex:Addr):Cx:={X with A:=X.A.mark (some (.ref ex)),calm:=false,xe:=λ_ _=>False}
section
variable {X:Cx}{ay:By}{O:St}{H:Hp}{s:ah}
theorem Inv.hand(I:Inv X ay O H s)(ex:Addr):Inv (X.hand ex) ay O H s:=#[#[I.ok.mod,I.ok.kind,I.ok.glob,I.ok.blt,I.ok.above,I.ok.inj,I.ok.has,I.ok.wR,λh=>(ko h).elim,I.ok.frames,I.ok.xN,I.ok.DV,I.ok.bs,I.ok.oQ,I.ok.vV,I.ok.sT,I.ok.lQ,I.ok.qG],I.os,I.bare,I.aB,I.loc,I.cell,I.free,I.mH,I.pin,I.bD,I.len]
def Inv.back(ok:X.Ok)(I:Inv (X.hand ex) ay O H s):Inv X ay O H s:=#[ok,I.os,I.bare,I.aB,I.loc,I.cell,I.free,I.mH,I.pin,I.bD,I.len]
def a2c{M:Model}{A:ak}{E:Value->ah->Prop}{i:Nat}{x:Str}{v:V}{pos:Pos}{Q:Unit->ah->Prop}(I:Inv X ay O H s)(hN:X.N.Nodup)(hi:X.N[i]? =some x)(hk:X.env.kindOf x=some .local)(hs:X.env.scope.names.lookup x=some .local) (hv:O[i]? =some (some v))(h:∀s',Inv X ay (O.set i none) H s'->Q () s'):wpAny M A (unbindBehindTheSuite X.env x pos) Q E s:=by
 let(m,hn,hl):=id I.loc;let DI:(X.env.scope.kind== .class||(X.env.scope.kind== .module&&X.env.locals !=X.env.globals))=false:=by rw[I.ok.kind];rfl
 let GU:i<⇑O:=by rw[I.len];exact(ck.mp hi).1
 let nQ:=I.nQ;let(u,r,look):=hl i x v hi hv (.inl hs);let hm:m x=some u:=by
  rcases look with⟨_,e⟩|⟨k,_⟩
  ·erw[e]
  ·rcases k with k|k<;>(rw[hk]at k;cases k)
 unfold unbindBehindTheSuite;erw[HZ (wpAny_unbindName_local hk hn hm DI λh' u' LK yJ=>?_)];let(oL,_,_,XZ,_):=id hn;let tr:fF X.prog X.w H h':=λb ob e=>by
  refine(I.bD b ob e).oZ (λc w' hc q=>(yJ.2 c ?_).ao q) (λ_ q=>q) λ_ _ q=>q;rintro rfl;rcases hc with rfl|hc
  ·rw[I.free]at e;cases e
  ·rw[I.free]at hc;cases hc
 let lt:∀b o,X.s₀.heap.get? b=some o->b≠X.env.locals:=λb o e=>fo (dJ (cP e) I.ok.above);erw[h _ #[I.ok,I.os,I.bare,#[λb o e n hb hx=>(yJ.2 b (lt b o e)).ao (I.aB.keep b o e n hb hx),λb o e n hb hx=>?_,I.aB.free,λb o e hx=>?_,I.aB.mY,I.aB.mG,I.aB.ng],#[_,LK,λj y v' e1 e2 e3=>?_],λy c e=>?_,I.free,I.mH,λp hp=>?_,tr,by simpa using I.len]]
 ·let(sl,e1):=I.aB.slot b o e n hb hx
  erw[sl,(yJ.2 b (lt b o e)).ao e1]
 ·let(o',e1):=I.aB.there b o e hx
  erw[o',(yJ.2 b (lt b o e)).ao e1]
 ·by_cases hj:j=i
  ·subst hj
   rw[BX GU]at e2;cases e2
  ·rw[IA (m7 hj)]at e2
   let(u2,r2,q):=hl j y v' e1 e2 e3;erw[u2,r2,?_];rcases q with⟨k,e⟩|⟨k,c,e,z⟩
   ·have:y≠x:=λe=>hj (Kr hN e1 (e▸hi))
    erw[.inl #[k,by simp[this,e]]]
   ·erw[.inr #[k,c,e,z.sameBut yJ (nQ y c e)]]
 ·let(w',z):=I.cell y c e
  erw[w',z.sameBut yJ (nQ y c e)]
 ·let(e,n,ne,nf,d):=I.pin p hp
  erw[(yJ.2 p.1 ne).ao e,n,ne,nf,d]
end
def tH(X:Cx)(st:List Stmt)(t:TS):Prop:=∀(s:ah)(O:St)(H:Hp)(D:Ends),Inv X [] O H s->t D O H->wpAny (model X.prog X.w) X.A (execs st X.env) (SP X [] D) X.xe s
def PS0(X:Cx)(st:Stmt)(t:TS):Prop:=∀(s:ah)(O:St)(H:Hp)(D:Ends),Inv X [] O H s->t D O H->wpAny (model X.prog X.w) X.A (exec st X.env) (SP X [] D) X.xe s
def Inv.ag5{X:Cx}{ay:By}{O:St}{H:Hp}{s:ah}(I:Inv X ay O H s):Inv X [] O H s:=#[I.ok,I.os,I.bare,I.aB,I.loc,I.cell,I.free,I.mH,λp hp=>I.pin p (OI _ (by simpa using hp)),I.bD,I.len]
def acO{P:ai}{w:World}{K:ag}{mg:bZ}{aB:Heap}{kV:Value}(lk:K.lookup f=some #[oc,od,.func (W.fnOf name qual params body scope dV kV doc pm an aO ct),gN])(gE:W.codeIn K aO qual=true)(S:bA N ps scope) (len:∀vs H Q E,sp vs H Q E->⇑vs=ps.length) (jV:∀(A:ak)(outer:Cl)(s:ah)(H:Hp)(vs:AT)(Q:VK)(E:XK),dI k (A.deeper (envOfC qual scope s.heap.objs.size f aO))->sp vs H Q E->∃t,tH (jY CX P w K mg aB N qual scope f aO A outer s H E) body t/\t {nx:=λ_ H'=>Q .bP H',rt:=Q} (start N vs) H): iX P w K mg aB CX (k+1) f (W.fnOf name qual params body scope dV kV doc pm an aO ct) ps sp:=by
 erw[len,λA outer s H args us vs Q E hr e0 hb r jb=>?_];let hl:=len _ _ _ _ jb;let KX:K.In s.heap:=e0.mod.sF.keeps λb o e=>(e0.bs b o e).1;let lim:s.heap.NoLimit:=e0.mod.nolimit.keeps λb o e=>(e0.bs b o e).1;let nJ:∀y∈ps.zip us,scope.names.lookup y.1=some .local\/(scope.names.lookup y.1=some .cell/\((cellsFrom (s.heap.objs.size+1) scope.names []).lookup y.1).isSome=true):=λ#[n,v] hy=>by
  rcases S.par n (BQ hy).1 with q|q
  ·erw[.inl q]
  ·erw[.inr #[q,Om _ _ _ (.inl q)]]
 erw[a1h hr.depth (KX _ _ lk) Z S.co S.gen Z (a1p KX gE) (hb _ _ _ _ ?_),B,a1c S.kind nJ λenv he s1 x=>?_];subst he;erw[lim.keeps x.toInCall.keep,codeAny_func ?_];let(t,ht,hq):=jV A outer s H vs Q E (hr.deeper _) jb;let I:Inv (jY CX P w K mg aB N qual scope f aO A outer s H E) [] (start N vs) H s1:=Lp S hr.hd e0 hl r x;erw[gr (ht s1 (start N vs) H _ I hq) (λfl s' hs=>?_) λe s' hs=>hs];let fin:∀{σ':St}{H':Hp}{v:V}{u:Value},Inv (jY CX P w K mg aB N qual scope f aO A outer s H E) [] σ' H' s'->RelV v u->Q v H'->CE outer P w H s Q u s':=λ{σ' H' v u} J rv q=>#[v,H',J.os,J.bare,J.aB,J.bD,rv,q];cases fl with |ret u=>let(v,σ',H',J,rv,q):=hs;erw[fin J rv q] |next=>let(σ',H',J,q):=hs;erw[fin (v:=V.bP) (u:=Value.none) J Z q] |brk=>let(_,_,_,q):=hs;erw[False.elim q] |cont=>let(_,_,_,q):=hs;erw[False.elim q]
def ExcAt(ex:Addr)(cls:Value)(h:Heap):Prop:=∃o,h.get? ex=some o/\o.cls=cls
def takes(K:ag)(C D:Addr):Prop:=W.mroIn K C (.ref D)=some true
end _L
namespace _L
universe PySem.W Builtin.Getset_descriptor
section
variable {prog:ai}{w:World}{A:ak}{E:Value->ah->Prop}{h:Heap}{g:Array GenState}{d:Drawn}{t:Nat}{os:OsState}{K:Frag}{x C:Addr}{o:Obj}
def YO(h1:h.get? x=some o)(h2:o.cls= .ref C):Looks M h (typeOf (.ref x)) (.ref C):=h2▸(Looks.ld h1).andThen .now
structure qX(K:Frag)(C:Addr):Prop where
 ga:findIn K (.ref C) "__getattribute__"=some (some (.builtin "BaseException.__getattribute__"))
 gx:findIn K (.ref C) "__getattr__"=some none
 cl:findIn K (.ref C) "__class__"=some (some (.builtin "object.__class__"))
 gt:specialIn K (.builtin "object.__class__") "__get__"=some (some (.builtin "getset_descriptor.__get__"))
 tk:takesIn K (.builtin "object.__class__")=some true
 ob:mroIn K C (.type "object")=some true
 be:mroIn K C (.type "BaseException")=some true
 is:hasDictIn K C=true
def a9Q(X:K.In h)(k:qX K C):Looks M h (Builtin.ObjectAttr.find (.ref x) (.ref C) "__class__") (.bind (.builtin "getset_descriptor.__get__") (.builtin "object.__class__")):=by let L1:=Ih (M:=M) X k.cl;let _L:Looks M h (Builtin.ObjectAttr.getOf (some (.builtin "object.__class__"))) (some (.builtin "getset_descriptor.__get__")):=looks_specialIn X k.gt;let L3:=looks_takesIn (M:=M) X k.tk;unfold Builtin.ObjectAttr.find;erw[L1.andThen (_L.andThen ?_)];let L4:Looks M h (Builtin.ObjectAttr.dataDescriptor? (some (.builtin "object.__class__")) (some (.builtin "getset_descriptor.__get__"))) (some (.builtin "getset_descriptor.__get__",.builtin "object.__class__")):=L3.andThen .now;erw[L4.andThen (Looks.tag .now)]
def Yr{M:Model}{WL:Value}{Q:Unit->ah->Prop}(X:K.In h)(k:qX K C)(L0:Looks M h (typeOf (.ref x)) (.ref C))(hq:Q () #[h,g,d,t,os]): wpAny M A (checkBuiltinCall "BaseException.__getattribute__" #[[.ref x,WL],[]]) Q E #[h,g,d,t,os]:=by
 let hk:builtinKind "BaseException.__getattribute__"=some .slot:=by decide+kernel
 let jb:splitId "BaseException.__getattribute__"=some ("BaseException","__getattribute__"):=by decide+kernel
 let ha:=PySem.F.args_bexc_ga (.ref x) WL;let L1:=looks_mroIn (M:=M) X k.be;simp only[checkBuiltinCall,hk,jb];erw[aL ?_];unfold isInstance;erw[aL (L0.at (L1.at ?_))]
 repeat (first|assumption|wp_step)
def get_cls{R:Result->ah->Prop}{tp:Value}(X:K.In h)(k:qX K C)(L0:Looks (model prog w) h (typeOf (.ref x)) (.ref C))(hq:R (.ok (.ret (.ref C))) #[h,g,d,t,os]): codeAny (model prog w) A (.call (.builtin "getset_descriptor.__get__") #[[.builtin "object.__class__",.ref x,tp],[]]) R #[h,g,d,t,os]:=by
 let L1:=looks_mroIn (M:=model prog w) X k.ob;erw[Ii KF.slot_gs.plain KF.entry_gs (KF.slot_gs.check _ _ _ _ _ _ _ _ KF.type_class (KF.args_gs _ _ _) ?_)];unfold Builtin.«getset_descriptor.__get__»descrGet;rw[dga_obj];erw[aL (bU ?_)];unfold descrGetter descrCheckInstance descrNameAndClass isInstance;simp only[KF.owner_class];repeat lk
 erw[ac _ aP,codeAny_builtin KF.entry_class ?_];unfold Builtin.«object.__class__»shownTypeOf;repeat lk
 erw[hq]
def acv{tk:Tok}{Q:Fin->ah->Prop}(X:K.In h)(k:qX K C)(L0:Looks (model prog w) h (typeOf (.ref x)) (.ref C)) (hq:Q (.done (.ret (.ref C))) #[h,g,d,t,os]):wpAny (model prog w) A (Builtin.«object.__getattribute__» #[[.ref x,.str "__class__" tk],[]]) Q E #[h,g,d,t,os]:=by let L1:=a9Q (M:=model prog w) (x:=x) X k;erw[aL (bU (aL (bU (aL (L0.at (aL (L1.at ?_)))))))];show wpAny _ _ (Builtin.ObjectAttr.bindTo _ _ (.ref x) (.ref C)) _ _ _;unfold Builtin.ObjectAttr.bindTo;show wpAny _ _ (holding [_] (call (.builtin "getset_descriptor.__get__") [.builtin "object.__class__",.ref x,.ref C])>>=_) _ _ _;erw[aL (oU (xj (get_cls X k L0 (bU hq))))]
def afu{Q:Option Value->ah->Prop}(X:K.In h)(k:qX K C)(L0:Looks (model prog w) h (typeOf (.ref x)) (.ref C)) (hq:Q (some (.ref C)) #[h,g,d,t+1,os]):wpAny (model prog w) A (getAttr? (.ref x) "__class__") Q E #[h,g,d,t,os]:=by
 let L1:=Ih (M:=model prog w) X k.ga;let _L:=Ih (M:=model prog w) X k.gx;let f3:=Ot.ga.bind (.ref x);let Lx:(Value.builtin "BaseException.__getattribute__"==Value.builtin "object.__getattribute__")=false:=by decide+kernel
 unfold getAttr? getAttrBy? getAttrBy;erw[aL (wpAny_mkText (aL (Ie (oU (aL (L0.at (aL (L1.at ?_))))))))];show wpAny _ _ (if(onTheHeap (Value.ref C)&&Value.builtin "BaseException.__getattribute__"==Value.builtin "object.__getattribute__")=true then _ else _) _ _ _;rw[Lx,OV,aV aw];unfold getAttrByItsOwn hookBefore;erw[aL ?_];show wpAny _ _ (typeLookup (.ref C) "__getattr__") _ _ _;erw[_L.at (aL (Ie (oU ?_)))];unfold callGetattribute;show wpAny _ _ (boundAndCalled _ _ _) _ _ _;unfold boundAndCalled;rw[f3];erw[aL (bU (xj ?_)),B,Ii Ot.ga.plain KT (Yr X k L0 (acv X k L0 ?_)),B,handed_on Z (bU hq)]
def Xy(k:qX K C):KitX K (.ref x) (.ref C) (ExcAt x (.ref C)) where
 ty:=λM h _ p=>by let(o,h1,h2):=p;erw[YO h1 h2]
 it:=λ_ _ X _=>by
  let(cd,hc,_):=any_some k.is;unfold clsIn at hc;split at hc
  ·rename_i c1 d1 cd1 sl1 ho
   intro A' Q' E' s' kk q;unfold isType loadHead;erw[aL (O8 (kk _ _ (X _ _ ho)) (bU q))]
  ·cases hc
 ne:=λh tp dd its n sl X htp=>by
  let(cd,hc,_):=any_some k.is;erw[A0.mpr λq=>?_];let e:C=tp:=Value.ref.inj (gf.mp q);subst e;unfold clsIn at hc;split at hc
  ·rename_i c1 d1 cd1 sl1 ho
   cases(X _ _ ho).symm.ao htp
  ·cases hc
 ca:=λ{prog w A E Q s} X p q=>by let(o,h1,h2):=p;let(h0,g0,d0,t0,os0):=s;erw[afu X k (YO h1 h2) q]
end
end _L
namespace _L
universe PySem
def afv:V->Option Value | .ref D=>some (.ref D) | .ty n=>some (.type n) |_=>none
theorem P8:∀{Ds:DO}{us:BY},Vals (Ds.map V.ref) us->us=Ds.map Value.ref |[],_,.nil=>rfl |n::r,_,.cons q t=>by cases(show _=Value.ref n from q);rw[P8 t];rfl
def afX:bootBuiltins "ValueError"=some (.type "ValueError"):=by kernel_rfl
@[reducible]def Np:BY:=[.type "ValueError",.type "Exception",.type "BaseException",.type "object"]
@[reducible]def Wu:String:="ValueError.__new__"
theorem FA.abU{P:ai}{w:World}{K:ag}{mg:bZ}{aB:Heap}{x:Str}{st:Stmt}{N ps:Ch}{k:Nat}{sp:Sp}(F:FA K mg x st)(S:bA N ps (aY st))(len:∀vs H Q E,sp vs H Q E->⇑vs=ps.length) (hb:∀(kV doc pm:Value)(an:Option Addr)(aO ct:Value)(us:BY),⇑us=ps.length->bindArgs (W.fnOf x x (nP st) (iK st) (aY st) .none kV doc pm an aO ct) #[us,[]]=pure (ps.zip us)) (jV:∀(f:Addr)(aO:Value)(A:ak)(outer:Cl)(s:ah)(H:Hp)(vs:AT)(Q:VK)(E:XK),dI k (A.deeper (envOfC x (aY st) s.heap.objs.size f aO))->sp vs H Q E->∃t,tH (jY je P w K mg aB N x (aY st) f aO A outer s H E) (iK st) t/\t {nx:=λ_ H'=>Q .bP H',rt:=Q} (start N vs) H):bG P w K mg aB x (k+1) sp:=by let(f,fd,hm,F):=F.ex;let uS:=F.binds hb;let kp:=F.kp;let(oc,od,kV,doc,pm,an,aO,ct,gN,rfl,lk,gE):=F.ex;erw[f,_,ps,acO lk gE S len λA outer s H vs Q E hr jb=>jV f aO A outer s H vs Q E hr jb,hm,kp,uS]
end _L
namespace _A
def acu(a b:Int):Int.gcd b (a.fmod b)=Int.gcd a b:=by rw[Int.fmod_def,Int.gcd_sub_mul_left_right,Int.gcd_comm]
def Yq{b:Int}(h:0<b):Int.gcd b (a%b)=Int.gcd a b:=by rw[<-aT a (gT h)];erw[acu a b]
def sg(p q:Int):Int:=if q<0 then-(Int.gcd p q:Int)else(Int.gcd p q:Int)
def lowP (p q:Int):Int:=p.fdiv (sg p q)
def ja (p q:Int):Int:=q.fdiv (sg p q)
def He(h:q≠0):0<(Int.gcd p q:Int):=by
 have:Int.gcd p q≠0:=λz=>h (Int.gcd_eq_zero_iff.mp z).2
 lia
def Cv(h:q≠0):sg p q≠0:=by have:=He (p:=p) h;unfold sg;split<;>omega
def QA(p q:Int):sg p q∣p:=by
 unfold sg;split
 ·erw[Int.neg_dvd.mpr (j0j p q)]
 ·erw[j0j p q]
def Qz(p q:Int):sg p q∣q:=by
 unfold sg;split
 ·erw[Int.neg_dvd.mpr (j0t p q)]
 ·erw[j0t p q]
def KU(p q:Int):sg p q*lowP p q=p:=by unfold lowP;rw[SL (QA p q)];erw[GM (QA p q)]
def GB(p q:Int):sg p q*ja p q=q:=by unfold ja;rw[SL (Qz p q)];erw[GM (Qz p q)]
def QB(p q:Int):(sg p q).natAbs=Int.gcd p q:=by unfold sg;split<;>lia
def a9N(h:q≠0):Int.gcd (lowP p q) (ja p q)=1:=by
 let e:Int.gcd (sg p q*lowP p q) (sg p q*ja p q)=(sg p q).natAbs*Int.gcd (lowP p q) (ja p q):=Int.gcd_mul_left _ _ _;rw[KU,GB,QB]at e;let g:=He (p:=p) h;let g':0<Int.gcd p q:=by lia
 let e':Int.gcd p q*1=Int.gcd p q*Int.gcd (lowP p q) (ja p q):=by lia
 exact(Nat.eq_of_mul_eq_mul_left g' e').symm
def a9O(h:q≠0):0<ja p q:=by
 let e:=GB p q;let g:=He (p:=p) h;by_cases hq:q<0
 ·let es:sg p q=-(Int.gcd p q:Int):=by unfold sg;rw[aR hq]
  rw[es]at e;erw[Int.not_le.mp λhl=>?_];have:0<=-(Int.gcd p q:Int)*ja p q:=OO (fW (On (cf _)) aw) hl
  lia
 ·let es:sg p q=(Int.gcd p q:Int):=by unfold sg;rw[aV hq]
  rw[es]at e;erw[Int.not_le.mp λhl=>?_];have:(Int.gcd p q:Int)*ja p q<=0:=Int.mul_nonpos_of_nonneg_of_nonpos (cf _) hl
  lia
def a0z{s x y:Int}(hs:s≠0)(e:s*x=y):x.natAbs<=y.natAbs:=by rw[<-e,ij];erw[Nat.le_mul_of_pos_left _ aE]
def a9P(h:q≠0):(lowP p q).natAbs<=p.natAbs:=a0z (Cv h) (KU p q)
def Xg(h:q≠0):(ja p q).natAbs<=q.natAbs:=a0z (Cv h) (GB p q)
def Qy(h:q≠0):(sg p q).natAbs<=q.natAbs:=by rw[QB];erw[Nat.le_of_dvd aE (Int.gcd_dvd_natAbs_right p q)]
end _A
namespace _d
open Rat
def GA{b:Int}(hb:b≠0):_A.lowP a b=(Rat.divInt a b).num/\_A.ja a b=((Rat.divInt a b).den:Int):=by
 let hp:=_A.a9O (p:=a) hb;let hc:=_A.a9N (p:=a) hb;let abF:(_A.ja a b).natAbs≠0:=by lia
 let abJ:(_A.lowP a b).natAbs.Coprime (_A.ja a b).natAbs:=hc;let e1:Rat.divInt a b=Rat.divInt (_A.lowP a b) (_A.ja a b):=by let h:=FM (a:=_A.sg a b) (n:=_A.lowP a b) (d:=_A.ja a b) (_A.Cv hb);rw[_A.KU,_A.GB]at h;erw[h]
 let e2:(#[_A.lowP a b,(_A.ja a b).natAbs,abF,abJ]:Rat)=Rat.divInt (_A.lowP a b) (((_A.ja a b).natAbs:Nat):Int):=Rat.mk_eq_divInt;let e3:(((_A.ja a b).natAbs:Nat):Int)=_A.ja a b:=a1G (gT hp);rw[e3]at e2;rw[e1,<-e2];erw[Z,e3.symm]
theorem den_pos(r:Rat):(0:Int)<(r.den:Int):=by have:=r.den_pos;omega
def cop(r:Rat):Int.gcd r.num r.den=1:=by have:=r.reduced;simpa[Int.gcd,Nat.Coprime]using this
structure Bd(n:Nat)(r:Rat):Prop where
 num:r.num.natAbs<2^n
 den:r.den<2^n
def Bd.sK{r:Rat}(h:Bd n r)(l:n<=m):Bd m r:=#[dJ h.num (rA aw l),dJ h.den (rA aw l)]
def qm{b:Nat}(h:a<2^n)(g:b<2^m):a*b<2^(n+m):=by rw[Os];erw[Nat.mul_lt_mul'' h g]
def ny{b:Int}(hb:b≠0)(h1:a.natAbs<2^n)(h2:b.natAbs<2^n):Bd n (Rat.divInt a b):=by
 let(e1,e2):=GA (a:=a) hb;let l1:=_A.a9P (p:=a) hb;let l2:=_A.Xg (p:=a) hb;erw[zn]
 ·rw[<-e1];erw[kh l1 h1]
 ·lia
def vb(r s:Rat):(r.den:Int)*(s.den:Int)≠0:=j4 (eY (den_pos r) (den_pos s))
def add_div(r s:Rat):r+s=Rat.divInt (r.num*s.den+s.num*r.den) (r.den*s.den):=by let h:=Rat.divInt_add_divInt r.num s.num (d₁:=r.den) (d₂:=s.den) (by have:=den_pos r;lia) (by have:=den_pos s;lia);rw[vq,vq]at h;erw[h]
def a3n(r s:Rat):r-s=Rat.divInt (r.num*s.den-s.num*r.den) (r.den*s.den):=by let h:=a1k r.num s.num (d₁:=r.den) (d₂:=s.den) (by have:=den_pos r;lia) (by have:=den_pos s;lia);rw[vq,vq]at h;erw[h]
def mul_div(r s:Rat):r*s=Rat.divInt (r.num*s.num) (r.den*s.den):=by let h:=KM r.num s.num (d₁:=r.den) (d₂:=s.den);rw[vq,vq]at h;erw[h]
section
variable {n m:Nat} {r s:Rat}
def afb(h:Bd n r)(g:Bd m s):(r.num*s.den).natAbs<2^(n+m):=by rw[ij];erw[qm h.num (by have:=g.den;omega)]
def afa(h:Bd n r)(g:Bd m s):(s.num*r.den).natAbs<2^(n+m):=by rw[ij,Nat.mul_comm];erw[qm (by have:=h.den;lia) g.num]
def N8(h:Bd n r)(g:Bd m s):((r.den:Int)*(s.den:Int)).natAbs<2^(n+m):=by rw[ij];erw[qm (by have:=h.den;lia) (by have:=g.den;lia)]
def Bd.add(h:Bd n r)(g:Bd m s):Bd (n+m+1) (r+s):=by
 rw[add_div];let h1:=afb h g;let h2:=afa h g;let h3:=N8 h g;let e:2^(n+m+1)=2^(n+m)+2^(n+m):=by rw[j02];omega
 erw[ny (vb r s) bI (dJ h3 (_S.aa3 (_S.zj e)))]
def Bd.mul(h:Bd n r)(g:Bd m s):Bd (n+m) (r*s):=by rw[mul_div];erw[ny (vb r s) (by rw[ij];erw[qm h.num g.num]) (N8 h g)]
end
end _d
namespace _L
universe PySem
def fw(H H':Hp):Prop:=∀b o,(∀xs,o≠ .bi xs)->H b=some o->H' b=some o
section
variable {K:ag} {H H' H2:Hp}
def fw.ao(a:fw H H')(b:fw H' H2):fw H H2:=λc o n e=>b c o n (a c o n e)
def fw.iB{D:Addr}(h:H D=some (.bi xs)):fw H (bn H D (.bi ys)):=λb o n e=>by rw[aU (De e h (n xs))];erw[e]
def aW.t(s:fw H H')(h:aW K H a xs):aW K H' a xs:=h.imp (λr=>r.imp (s _ _ λ_ z=>nomatch z) λ#[o,e]=>#[o,s _ _ (λ_ z=>nomatch z) e]) id
mutual
def eH:aj->Bool | .list _=>false | .dict _=>false | .tuple ds=>bR ds | .none=>true | .bool _=>true | .int _=>true | .str _=>true
def bR:List aj->Bool |[]=>true |d::ds=>eH d&&bR ds
end
theorem cA:∀{ds:AC},bR ds=true↔∀d∈ds,eH d=true
 |[]=>#[λ_ _ h=>(nomatch h),λ_=>by simp[bR]] |d::ds=>by
  rw[bR,gU,cA (ds:=ds)];constructor
  ·rintro⟨a,b⟩ x hx
   rcases dj.mp hx with rfl|hx
   ·erw[a]
   ·erw[b x hx]
  ·intro h
   erw[h d (.head _),λx hx=>h x (.tail _ hx)]
def nA(ns:Ar):bR (ns.map PyData.int)=true:=cA.mpr λd hd=>by let(i,_,rfl):=gS.mp hd;simp[eH]
mutual
theorem RD.t(s:fw H H'):∀{x:V}(d:aj),eH d=true->RD K H x d->RD K H' x d |x,.none,_,h=>by simpa[RD]using h |x,.bool b,_,h=>by simpa[RD]using h |x,.int i,_,h=>by simpa[RD]using h |x,.str y,_,h=>by simpa[RD]using h |x,.list ds,n,h=>by simp[eH]at n |x,.tuple ds,n,h=>by rw[RD]at h⊢;let(a,xs,e,h1,h2):=h;erw[a,xs,e,h1.t s,aH.t s ds (by simpa[eH]using n) h2] |x,.dict _,_,h=>by simp[RD]at h
theorem aH.t (s:fw H H'):∀{xs:List V}(ds:List aj),bR ds=true->aH K H xs ds->aH K H' xs ds |xs,[],_,h=>by simpa[aH]using h |xs,d::ds,n,h=>by rw[aH]at h⊢;rw[bR,gU]at n;let(y,ys,e,h1,h2):=h;erw[y,ys,e,RD.t s d n.1 h1,aH.t s ds n.2 h2]
end
theorem aH.jm:∀{xs:AT}{ns:Ar},aH K H xs (ns.map PyData.int)->xs=ns.map V.int |xs,[],h=>h.nil_inv |xs,n::ns,h=>by let(y,ys,rfl,h1,h2):=h.cons_inv;rw[h1.int_inv,aH.jm h2];rfl
theorem vP:∀(ns:Ar),aH K H (ns.map V.int) (ns.map PyData.int) |[]=>cQ |n::ns=>cm (eB n) (vP ns)
def Ng{xs:AT}{ds:AC}{D:Addr}(rest:St)(nw:Nw H H0 D (.bi []))(hl:⇑xs=ds.length)(hz:⇑xs<=1000)(hn:bR ds=true) (go:∀i x H2,xs[i]? =some x->aI H H2->J.go i H2/\∀y H3,J.kI i H2 y H3->H3=H2/\y=x)(stop:∀H2,aI H H2->J.stop ⇑xs H2) (hs:∀(i:Nat)(x:V)(d:aj)(H2:Hp)(Q':VK),xs[i]? =some x->ds[i]? =some d->aI H H2->(∀y H3,aI H2 H3->RD K H3 y d->Q' y H3)->te (some x::rest) H2 Q') (hq:∀H' ys,aI H H'->H' D=some (.bi ys)->aH K H' ys ds->Q (.ref D) H'):m6 J (iu 0) kJ te Q D (none::rest) H0:=by
 let hD:=nw.no;erw[wM ⇑xs (λi O H2=>aI H H2/\(∃ys,H2 D=some (.bi ys)/\aH K H2 ys (ds.take i))/\∃v,O=v::rest) ?_ ?_ ?_]
 ·erw[nw.ss,#[[],nw.at',cQ],none,Z]
 ·rintro i O H2 hi ⟨s2,⟨ys,d2,r2⟩,v,rfl⟩
  let yR:i<⇑ds:=by rw[<-hl];erw[hi]
  let ex:=bf hi;let eb:=bf yR;let(g1,g2):=go i _ H2 ex s2;erw[g1,λy H3 hy=>?_];let(rfl,rfl):=g2 y H3 hy;erw[C7 ?_,B,hs i _ _ _ _ ex eb s2 λz H4 s4 r4=>?_];let d4:=s4 _ _ d2;let len:=⇑r2;rw[kH]at len;erw[ys,d4,?_,⇑xs-(i+1),m8 hi (gR _),Z,hi,λb o e=>?_,#[ys++[z],bQ,?_],ww]
  ·have:(1000:Nat)<sizeLine:=by decide
   lia
  ·rw[aU (e9 e hD)];erw[s4 b o (s2 b o e)]
  ·let t:fw H4 (bn H4 D (.bi (ys++[z]))):=.iB d4
   rw[mQ,eb];let n1:bR (ds.take i)=true:=cA.mpr λd hd=>cA.mp hn d (BR hd);exact(aH.t t _ n1 (aH.sK s4 _ r2)).append %[RD.t t _ (cA.mp hn _ (zX yR)) r4|cQ]
 ·rintro O H2 ⟨s2,⟨ys,d2,r2⟩,v,rfl⟩
  erw[stop H2 s2,hq H2 ys s2 d2 ?_];rw[hl,zU]at r2;erw[r2]
def Hw{D:Addr}(rest:St)(hx:aW K H a xs)(nw:Nw H H0 D (.bi []))(hl:⇑xs=ds.length)(hz:⇑xs<=1000)(hn:bR ds=true) (hs:∀(i:Nat)(x:V)(d:aj)(H2:Hp)(Q':VK),xs[i]? =some x->ds[i]? =some d->aI H H2->(∀y H3,aI H2 H3->RD K H3 y d->Q' y H3)->te (some x::rest) H2 Q') (hq:∀H' ys,aI H H'->H' D=some (.bi ys)->aH K H' ys ds->Q (.ref D) H'):m6 (xf K a) (iu 0) kJ te Q D (none::rest) H0:=Ng rest nw hl hz hn (λi x H2 e s=>#[#[xs,x,hx.go s,e],λy H3 #[e3,y3]=>#[e3,by have:=y3 _ (hx.go s);rw[e]at this;exact(fm this).symm]]) (λH2 s=>#[xs,hx.go s,aZ _]) hs hq
def ZM{D:Addr}(rest:St)(hx:aK K H a xs)(nw:Nw H H0 D (.bi []))(hl:⇑xs=ds.length)(hz:⇑xs<=1000)(hn:bR ds=true) (hs:∀(i:Nat)(x:V)(d:aj)(H2:Hp)(Q':VK),xs[i]? =some x->ds[i]? =some d->aI H H2->(∀y H3,aI H2 H3->RD K H3 y d->Q' y H3)->te (some x::rest) H2 Q') (hq:∀H' ys,aI H H'->H' D=some (.bi ys)->aH K H' ys ds->Q (.ref D) H'):m6 (vk K a) (iu 0) kJ te Q D (none::rest) H0:=Ng rest nw hl hz hn (λi x H2 e s=>#[#[xs,x,hx.go s,e],λy H3 #[e3,y3]=>#[e3,by have:=y3 _ (hx.go s);rw[e]at this;exact(fm this).symm]]) (λH2 s=>#[xs,hx.go s,aZ _]) hs hq
def ZL{lo:Int}{n:Nat}{ds:AC}{D:Addr}(rest:St)(nw:Nw H H0 D (.bi []))(hl:n=⇑ds)(hz:n<=1000)(hn:bR ds=true) (hs:∀(i:Nat)(d:aj)(H2:Hp)(Q':VK),ds[i]? =some d->aI H H2->(∀y H3,aI H2 H3->RD K H3 y d->Q' y H3)->te (some (.int (lo+i))::rest) H2 Q') (hq:∀H' ys,aI H H'->H' D=some (.bi ys)->aH K H' ys ds->Q (.ref D) H'):m6 (tI lo n) (iu 0) kJ te Q D (none::rest) H0:=by
 let hx:∀i x,((List.range n).map λi:Nat=>V.int (lo+i))[i]? =some x->i<n/\x= .int (lo+i):=λi x e=>by rw[bV]at e;cases h:(List.range n)[i]? with |none=>rw[h]at e;cases e |some j=>rw[h]at e;let(h1,h2):=ck.mp h;rw[zW]at h2;subst h2;erw[by simpa using h1,(fm e).symm]
 erw[Ng (xs:=(List.range n).map λi:Nat=>V.int (lo+i)) rest nw (by simpa using hl) (by simpa using hz) hn (λi x H2 e s=>?_) (λH2 s=>?_) (λi x d H2 Q' e1 e2 s k=>?_) hq]
 ·let(h1,rfl):=hx i x e
  erw[h1,λy H3 #[e3,y3]=>#[e3,y3]]
 ·show n<=_
  simp
 ·let(h1,rfl):=hx i x e1
  erw[hs i d H2 Q' e2 s k]
def wL{D:Addr}(rest:St)(B9:n=2)(h1:fP b1 K H l1 xs)(h2:fP b2 K H l2 ys)(nw:Nw H H0 D (.bi [])) (hl:min ⇑xs ys.length=⇑ds)(hz:⇑ds<=1000)(hn:bR ds=true) (hs:∀(i:Nat)(x y:V)(d:aj)(H2:Hp)(Q':VK),xs[i]? =some x->ys[i]? =some y->ds[i]? =some d->aI H H2->(∀z H3,aI H2 H3->RD K H3 z d->Q' z H3)->te (some x::some y::rest) H2 Q') (hq:∀H' zs,aI H H'->H' D=some (.bi zs)->aH K H' zs ds->Q (.ref D) H'):m6 (wZ K b1 b2 l1 l2) (DS K n (ze (iu 0) (ze (iu 1) Hf))) kJ te Q D (none::none::rest) H0:=by
 subst B9;let hD:=nw.no;erw[wM ⇑ds (λi O H2=>aI H H2/\(∃zs,H2 D=some (.bi zs)/\aH K H2 zs (ds.take i))/\∃v v',O=v::v'::rest) ?_ ?_ ?_]
 ·erw[nw.ss,#[[],nw.at',cQ],none,none,Z]
 ·rintro i O H2 hi ⟨s2,⟨zs,d2,r2⟩,v,v',rfl⟩
  let hx:i<⇑xs:=by lia
  let hy:i<⇑ys:=by lia
  let ex:=bf hx;let ey:=bf hy;let eb:=bf hi;erw[#[xs,ys,xz,h1.go s2,h2.go s2,ex,ey],λy' H3 nH=>?_];let(T,x0,y0,rfl,k1,k2,n3):=nH;let e1:=k1 _ (h1.go s2);let e2:=k2 _ (h2.go s2);rw[ex]at e1;rw[ey]at e2;cases e1;cases e2;erw[T,ww,aW.of n3.at',wE,B,yes (bB ?_),B,hs i _ _ _ _ _ ex ey eb (s2.ao n3.ss) λz H4 s4 r4=>?_];let gC:=n3.ss.ao s4;let d4:=gC _ _ d2;let len:=⇑r2;rw[kH]at len;erw[zs,d4,?_,⇑ds-(i+1),m8 hi (gR _),Z,hi,λb o e=>?_,#[zs++[z],bQ,?_],wT]
  ·have:(1000:Nat)<sizeLine:=by decide
   lia
  ·rw[aU (e9 e hD)];erw[gC b o (s2 b o e)]
  ·let t:fw H4 (bn H4 D (.bi (zs++[z]))):=.iB d4
   rw[mQ,eb];let n1:bR (ds.take i)=true:=cA.mpr λd hd=>cA.mp hn d (BR hd);exact(aH.t t _ n1 (aH.sK gC _ r2)).append %[RD.t t _ (cA.mp hn _ (zX hi)) r4|cQ]
 ·rintro O H2 ⟨s2,⟨zs,d2,r2⟩,v,v',rfl⟩
  erw[#[xs,ys,h1.go s2,h2.go s2,aE],hq H2 zs s2 d2 ?_];rw[zU]at r2;erw[r2]
end
theorem Ls:∀{ns:Ar}{us:BY},Vals (ns.map V.int) us->(∀v∈us,∃a t,v=Value.int a t)/\numsOf us=ns
 |[],_,.nil=>#[λ_ h=>(nomatch h),rfl] |n::ns,_,.cons q r=>by
  let(t,rfl):=(show∃t,_=Value.int n t from q);let(h1,h2):=Ls r;erw[λv hv=>?_,?_]
  ·rcases dj.mp hv with rfl|hv
   ·erw[n,t,Z]
   ·erw[h1 v hv]
  ·show n::numsOf _=_
   rw[h2]
section
variable {X:Cx}
def KG(K:ag)(hK:X.K=K)(hc:X.calm=true):gq X (.builtin "max") (λxs H Q=>∃(l:Addr)(ns:Ar),xs=[.ref l]/\aK K H l (ns.map V.int)/\ns≠[]/\∀M,M∈ns->(∀a∈ns,a<=M)->Q (.int M) H):=by
 subst hK;intro ay s O H xs us Q I r h;let(l,ns,rfl,hl,eZ,q):=h;let(u,rfl,ru):=vals1 r;cases(show u=Value.ref l from ru);let(its,rv,pl,hz):=I.list hl;let(a1,a2):=Ls rv;let all:AllInts its.toArray:=λv hv=>a1 v (by simpa using hv);let(ps,DA):=all.items;let e0:numsOf (intItems ps).toList=ns:=by rw[<-DA];erw[a2]
 rw[nums_intItems]at e0;let hlen:ps.size=⇑ns:=by rw[<-e0,bC,Fe]
 let wg:0<ps.size:=by rw[hlen];erw[F1.mpr eZ]
 erw[max_intList (I.ok.hd hc) (by rw[<-DA];erw[pl.isList]) wg λv h' tk hv hk=>?_];let(t,rfl):=intItems_at hv;let(h1,h2):=argBest_gt (numAt ps) (ps.size-1);erw[.int _,H,I.kept hk,#[_,Z],q _ ?_ λa ha=>?_]
 ·rw[numAt_eq,e0];erw[getD_mem bI]
 ·let(j,hj,rfl):=mem_getD ha
  rw[<-e0,<-numAt_eq];erw[h2 j (a1z (_S.fD hj hlen))]
def XQ{ns:Ar}{us:BY}(r:Vals (ns.map V.int) us){i:Nat}{v:Value}(h:us[i]? =some v):∃n t,ns[i]? =some n/\v=Value.int n t:=by
 let hl:=⇑r;rw[bC]at hl;let hi:i<⇑ns:=by rw[hl];exact(ck.mp h).1
 let(u,e,ru):=r.get (i:=i) (x:=.int ns[i]) (by rw[bV,bf hi];rfl);rw[h]at e;cases e;let(t,rfl):=(show∃t,v=Value.int ns[i] t from ru);erw[_,t,bf hi,Z]
def a62(ns:Ar):((List.range ⇑ns).any λi=>((ns.map (· !=0))[i]?).getD false)=ns.any (· !=0):=by have:=LSm.range_any (ns.map (· !=0));rw[bC]at this;rw[this,j03];rfl
def agg(K:ag)(hK:X.K=K)(hc:X.calm=true):gq X (.builtin "any") (λxs H Q=>∃(l:Addr)(ns:Ar),xs=[.ref l]/\(aK K H l (ns.map V.int)\/aW K H l (ns.map V.int))/\Q (.bl (ns.any (· !=0))) H):=by
 subst hK;intro ay s O H xs us Q I r h;let(l,ns,rfl,hl,q):=h;let(u,rfl,ru):=vals1 r;cases(show u=Value.ref l from ru);let hh:=I.ok.hd hc;let fin:∀(its:BY),Vals (ns.map V.int) its->((List.range its.toArray.size).any λi=>((ns.map (· !=0))[i]?).getD false)=ns.any (· !=0):=λits rv=>by rw[fL,<-⇑rv,bC];erw[a62 ns]
 rcases hl with hl|hl
 ·let(its,rv,pl,hz):=I.list hl
  let jd:=pl.isList;let bu:l<s.heap.objs.size:=by let(_,e,_):=jd;erw[cP e]
  erw[Fa (HY jd ?_),B,s.heap.objs.size,[s.heap.objs.size,l],[s.heap.objs.size],its.toArray.size,xz,λi=>((ns.map (· !=0))[i]?).getD false,Z,Walks.list (A:=X.A.in1) hh _ l (fo bu) its.toArray,#[#[_,fX _ Z,wP],jd.push _],λi v s' Q' E' hP hQ=>?_,λh' tk hk=>?_]
  ·let(n,t,e,rfl):=XQ rv (i:=i) (v:=v) (by simpa using hP)
   simp only[bV,e]at hQ;erw[truthy_int hQ]
  ·rw[fin its rv]
   erw[.bl _,H,I.kept (LSm.kept_iter hk),Z,q]
 ·let(its,rv,pl,hz):=I.tuple hl
  let jd:s.heap.IsTuple l its.toArray:=by let((cls,dd,data,sl),ho,kP,n,hd):=pl;erw[_,ho,kP,by simpa using#[n,hd]]
  let bu:l<s.heap.objs.size:=by let(_,e,_):=jd;erw[cP e]
  erw[Fa (ad jd ?_),B,s.heap.objs.size,[s.heap.objs.size,l],[s.heap.objs.size],its.toArray.size,xz,λi=>((ns.map (· !=0))[i]?).getD false,Z,Walks.tuple (A:=X.A.in1) hh _ l (fo bu) its.toArray,#[#[_,fX _ Z,wP],jd.push _],λi v s' Q' E' hP hQ=>?_,λh' tk hk=>?_]
  ·let(n,t,e,rfl):=XQ rv (i:=i) (v:=v) (by simpa using hP)
   simp only[bV,e]at hQ;erw[truthy_int hQ]
  ·rw[fin its rv]
   erw[.bl _,H,I.kept (LSm.kept_iter hk),Z,q]
end
end _L
set_option maxHeartbeats 1000000
namespace _c
universe _L
def a0N(c m:Int):Prop:=0<=c/\0<=m/\m<2147483648
def gI(H:Hp)(p:Addr):Prop:=∃c m,H p=some (.bi [.int c,.int m])/\a0N c m
structure bF(p:Addr)(H H':Hp):Prop where
 bw:gI H' p
 ss:∀b o,b≠p->H b=some o->H' b=some o
def bF.refl(h:gI H p):bF p H H:=#[h,λ_ _ _ e=>e]
def bF.ao(a:bF p H H1)(b:bF p H1 H2):bF p H H2:=#[b.bw,λc o n e=>b.ss c o n (a.ss c o n e)]
theorem bF.bn(h:a0N c m):bF p H (_L.bn H p (.bi [.int c,.int m])):=#[#[c,m,bQ,h],λb o n e=>by rw[aU n];erw[e]]
def bF.fK(h:gI H p)(s:aI H H'):bF p H H':=by let(c,m,e,ok):=h;erw[#[c,m,s _ _ e,ok],λb o _ e=>s b o e]
def P6(h0:0<=j)(h:j<=10^40):Wd j:=by have:j.natAbs<=10^40:=_S.hZ h0 h aw;erw[kh this aP]
def gI.ne(h:gI H p):H p≠none:=by let(c,m,e,_):=h;rw[e];erw[λz=>nomatch z]
def gI.WG(h:gI H p)(e:H q=some o)(n:∀xs,o≠ .bi xs):q≠p:=by let(c,m,e',_):=h;erw[De e e' (n _)]
def bF.t(bg:gI H p)(b:bF p H H'):fw H H':=λc o n e=>b.ss c o (bg.WG e n) e
def bF.SG(s:aI H0 H)(hp:H0 p=none)(b:bF p H H'):aI H0 H':=λc o e=>b.ss c o (e9 e hp) (s c o e)
section
variable {K:ag}
def afn{D:Addr}(n:Nat)(rest:_L.St)(nw:Nw H H0 D (.bi []))(bg:gI H p)(hn:n<=1000)(xv:Nat->V) (go:∀i H2,i<n->bF p H H2->J.go i H2/\∀y H3,J.kI i H2 y H3->H3=H2/\y=xv i)(stop:∀H2,bF p H H2->J.stop n H2)(Pz:Int->Prop) (hs:∀i H2 (Q':VK),i<n->bF p H H2->(∀z H3,Pz z->bF p H2 H3->Q' (.int z) H3)->te (some (xv i)::rest) H2 Q') (hq:∀H' (is:Ar),bF p H H'->H' D=some (.bi (is.map V.int))->⇑is=n->(∀z∈is,Pz z)->Q (.ref D) H'):m6 J (iu 0) kJ te Q D (none::rest) H0:=by
 let DN:D≠p:=λe=>bg.ne (e▸nw.no);erw[wM n (λi O H3=>bF p H H3/\(∃is:Ar,H3 D=some (.bi (is.map V.int))/\⇑is=i/\∀z∈is,Pz z)/\∃v,O=v::rest) ?_ ?_ ?_]
 ·erw[.fK bg nw.ss,#[[],nw.at',Z,λ_ h=>(gy h).elim],none,Z]
 ·rintro i O H3 hi ⟨b3,⟨is,d3,li,pi⟩,v,rfl⟩
  let(g1,g2):=go i H3 hi b3;erw[g1,λy H4 hy=>?_];let(rfl,rfl):=g2 y H4 hy;erw[C7 ?_,B,hs i _ _ hi b3 λz H5 pz b5=>?_,B,_,b5.ss _ _ DN d3,?_,n-(i+1),m8 hi (gR _),Z,hi,?_,#[is++[z],zn,?_],ww]
  ·rw[bC,li]
   have:(1000:Nat)<sizeLine:=by decide
   lia
  ·let Er:=b3.ao b5
   erw[?_,λb o n e=>?_]
   ·let(c,m,e,ok):=Er.bw
    erw[c,m,by rw[aU DN.symm];erw[e],ok]
   ·rw[aU (e9 e nw.no)];erw[Er.ss b o n e]
  ·rw[bQ,kn];rfl
  ·rw[cH,li];rfl
  ·intro y hy
   rcases kj.mp hy with h|h
   ·erw[pi y h]
   ·rw[gz.mp h];erw[pz]
 ·rintro O H3 ⟨b3,⟨is,d3,li,pi⟩,v,rfl⟩
  erw[stop H3 b3,hq H3 is b3 d3 li pi]
def XO(ns:Ar){i:Int}(h0:0<=i)(h:i<⇑ns):∃z,z∈ns/\fj (ns.map V.int) i=some (.int z):=by
 let hl:i.toNat<⇑ns:=by omega
 erw[ns[i.toNat],zX hl,cn h0 (by rw[bV,bf hl];rfl)]
def ZN{D:Addr}(n:Nat)(rest:_L.St)(nw:Nw H H0 D (.bi []))(bg:gI H p)(hn:n<=1000)(xv:Nat->V) (go:∀i H2,i<n->bF p H H2->J.go i H2/\∀y H3,J.kI i H2 y H3->H3=H2/\y=xv i)(stop:∀H2,bF p H H2->J.stop n H2)(Pd:Nat->aj->Prop) (hs:∀i H2 (Q':VK),i<n->bF p H H2->(∀y d H3,Pd i d->eH d=true->RD K H3 y d->bF p H2 H3->Q' y H3)->te (some (xv i)::rest) H2 Q') (hq:∀H' ys ds,bF p H H'->H' D=some (.bi ys)->aH K H' ys ds->⇑ds=n->bR ds=true->(∀i d,ds[i]? =some d->Pd i d)->Q (.ref D) H'):m6 J (iu 0) kJ te Q D (none::rest) H0:=by
  let DN:D≠p:=λe=>bg.ne (e▸nw.no);erw[wM n (λi O H3=>bF p H H3/\(∃ys ds,H3 D=some (.bi ys)/\aH K H3 ys ds/\⇑ds=i/\bR ds=true/\∀j d,ds[j]? =some d->Pd j d)/\∃v,O=v::rest) ?_ ?_ ?_]
  ·erw[.fK bg nw.ss,#[[],[],nw.at',cQ,wP,λj d e=>by simp at e],none,Z]
  · rintro i O H3 hi ⟨b3,⟨ys,ds,d3,r3,li,ni,pi⟩,v,rfl⟩
    let(g1,g2):=go i H3 hi b3;erw[g1,λy H4 hy=>?_];let(rfl,rfl):=g2 y H4 hy;erw[C7 ?_,B,hs i _ _ hi b3 λz d H5 pz nz rz b5=>?_];let d5:=b5.ss _ _ DN d3;let t:fw H5 (_L.bn H5 D (.bi (ys++[z]))):=.iB d5;erw[ys,d5,?_,n-(i+1),m8 hi (gR _),Z,hi,?_,#[ys++[z],ds++[d],bQ,zn,zn],ww]
    · rw[⇑r3,li]
      have:(1000:Nat)<sizeLine:=by decide
      lia
    · let Er:=b3.ao b5
      erw[?_,λb o n e=>?_]
      · let(c,m,e,ok):=Er.bw
        erw[c,m,by rw[aU DN.symm];erw[e],ok]
      ·rw[aU (e9 e nw.no)];erw[Er.ss b o n e]
    ·exact(aH.t ((bF.t b3.bw b5).ao t) _ ni r3).append %[RD.t t _ nz rz|cQ]
    ·rw[cH,li];rfl
    ·exact cA.mpr λx hx=>by
        rcases kj.mp hx with h|h
        ·erw[cA.mp ni x h]
        ·rw[gz.mp h];erw[nz]
    · intro j e he
      by_cases hj:j<⇑ds
      · rw[nZ hj]at he
        erw[pi j e he]
      · have yP:j=⇑ds:=by
          have:=(ck.mp he).1;rw[cH]at this;have:j<⇑ds+1:=this
          lia
        subst yP;rw[oX (aZ _),BO]at he;cases he;rw[li];erw[pz]
  · rintro O H3 ⟨b3,⟨ys,ds,d3,r3,li,ni,pi⟩,v,rfl⟩
    erw[stop H3 b3,hq H3 ys ds b3 d3 r3 li ni pi]
end
end _c
namespace _L
universe PySem
abbrev Hm(b:Bool)(h:Heap)(l:Addr):Heap:=h.push {cls:=.type (wO b),data:=.fields (List.toArray [.ref l,.int 0 0])}
abbrev MK(b:Bool)(h:Heap)(l:Addr):Heap:=(Hm b h l).push {cls:=.type "enumerate",data:=.fields (List.toArray [.none,.bool false,.ref h.objs.size,rawInt 0,.none,.none])}
def aeH(b:Bool)(l:Addr)(xs:Array Value):Meets (Builtin.«enumerate.__new__» #[[.type "enumerate",.ref l],[]]) (λ_ R s=>jr b s.heap l xs/\R (.ok (.ret (.ref (Hm b s.heap l).objs.size))) {s with heap:=MK b s.heap l}):=.of_wp λprog w A R s h=>by
 let(hp,gg,d,tk,os):=s;let(hl,h):=h;let LB:=sub_enumerate;let hL:jr b (Shared.heap #[hp,gg,d,tk,os]) l xs:=hl
 wp_walk using AL hL;erw[wpAny_stack_any λst=>bU ?_];split
 ·rename_i c _ _ _ _ _
  cases(c==Value.type "enumerate")
  ·wp_walk using AL hL
   erw[ww,h]
  ·wp_walk using AL hL
   erw[ww,h]
 ·wp_walk using AL hL
  erw[ww,h]
section
variable {prog:ai}{w:World}{A:ak}{E:Value->ah->Prop}{s:ah}
def aeI{b:Bool}{l:Addr}{xs:Array Value}{Q:Value->ah->Prop}(hl:jr b s.heap l xs) (q:∀g,IsEnum g (s.heap.objs.size+1) s.heap.objs.size 0 .none->mM b g s.heap.objs.size l 0->(∀c o,s.heap.get? c=some o->g.get? c=some o)->Q (.ref (s.heap.objs.size+1)) {s with heap:=g}): wpAny (model prog w) A (call (.type "enumerate") [.ref l]) Q E s:=by erw[callType_new PySem.F.called_enumerate aw (PySem.F.typeCall_enumerate_1 _) (PySem.F.newCall_enumerate_1 _) (λobj=>PySem.F.args_object_init_2 obj _) PySem.F.entry_enumerate_new (aeH b l xs) #[hl,?_]];let z1:(Hm b s.heap l).objs.size=s.heap.objs.size+1:=tR ..;let g2:(MK b s.heap l).get? (Hm b s.heap l).objs.size=some _:=fX _ rfl;let g1:(MK b s.heap l).get? s.heap.objs.size=some _:=cR _ (fX _ Z);show _/\_;rw[z1]at g2⊢;erw[#[_,g2,Z],q _ g2 ?_ λc o e=>cR _ (cR _ e)];cases b<;>erw[_,g1,rfl,rfl]
def Z8{b:Bool}{it l:Addr}{xs:Array Value}(hh:A.handled=none)(ne:l≠it):Draws prog w A it [it,l] xs.size (λi x=>xs[i]? =some x) (λi h=>mM b h it l i/\jr b h l xs) where
 live:=λi h st=>by let(o,e,_):=st.1.ob;erw[o,e]
 frame:=λi h h' st k=>#[st.1.to λo e=>k it (by simp) o e,st.2.to λo e=>k l (by simp) o e]
 item:=λi s Q E hi st hQ=>Gs st.1 st.2 (x:=xs[i]) (by simp[hi]) λg gi sb=>hQ _ g s.toks (by simp[hi]) #[gi,st.2.to λo e=>sb.extBut _ _ ne e] sb
 done:=λs Q E st hE=>MI hh st.1 st.2 (by simp) λg e a b=>hE g e a b
end
def EI(K:ag)(b:Bool)(l:Addr):It:=#[λi H=>∃xs x,fP b K H l xs/\xs[i]? =some x,λi H v H'=>∃T x,v= .ref T/\(∀xs,fP b K H l xs->xs[i]? =some x)/\Nw H H' T (.tup [.int i,x]),λi H=>∃xs,fP b K H l xs/\⇑xs=i]
def a2r{P:ai}{w:World}{K:ag}{elts:Cn}{kt:Nat}{pos:Pos}{b:Bool}{e it l:Addr}(D:e≠it): Turn P w K (.Tuple elts kt pos) (EI K b l) [e,it] e (λi h=>(∃old,IsEnum h e it i old)/\mM b h it l i) where
 mem:=by simp
 obj:=λi h st c hc=>by
  let((old,he),h1):=st;simp only[dj,gy,jM]at hc;rcases hc with rfl|rfl
  ·erw[_,he,λv e=>by cases e]
  ·let(o,e,_,n):=h1.ob;erw[o,e,n]
 keep:=λi h h' st k=>by let((old,he),h1):=st;erw[#[old,k e (by simp) _ he],h1.to λo q=>k it (by simp) o q]
 item:=by
  intro X hP hw hK hc i ay s O H E I hf st hg;subst hP hw hK;let(xs,x,q1,e1):=hg;let(its,r1,p1):=q1.get I;let(u1,Lz,kK):=r1.get e1;let((old,he),h1):=st;let(oi,oF,ci,_):=h1.ob;let Le:∃o,s.heap.get? l=some o/\(o.cls= .type "list"\/o.cls= .type "tuple"):=by cases b<;>(let(o,ho,cc,_):=p1;first|erw[o,ho,.inl cc]|erw[o,ho,.inr cc])
  let(ol,yK,cl):=Le;let nel:e≠l:=λz=>by subst z;rw[he]at yK;cases yK;rcases cl with h|h<;>simp at h
  let nil:l≠it:=λz=>by subst z;rw[oF]at yK;cases yK;rw[ci]at cl;cases b<;>(rcases cl with h|h<;>simp[wO]at h)
  let bu:i<its.toArray.size:=by rw[fL,<-⇑r1];exact(ck.mp e1).1
  erw[wpAny_pyNext_enum_itemD (Z8 (I.ok.hd hc) nil) he #[h1,p1] bu D (by simp[D,nel]) λy h' tk hPy ho iI hT B7 kp=>#[_,Z,?_]];let ey:y=u1:=by
   let a1:its.toArray[i]? =some y:=hPy;let a2:its.toArray[i]? =some u1:=by simpa using Lz
   rw[a1]at a2;erw[fm a2]
  subst ey;erw[wpAny_letOwnedTupleGo_enum ho λg' he' sb=>?_];let hs:=sb.extBut;let elt:e<s.heap.objs.size:=cP he;let ilt:it<s.heap.objs.size:=cP oF;let nw:Nw H (bn H s.heap.objs.size (.tup [.int i,x])) s.heap.objs.size (.tup [.int i,x]):=.of (I.bD.fresh (aZ _));let I1:Inv X ay O (bn H s.heap.objs.size (.tup [.int i,x])) {s with heap:=s.heap.push {cls:=.type "tuple",data:=.seq (List.toArray [.int i tk,y])},toks:=tk+1}:=I.laid (t':=tk+1) (λb ob q=>cR _ q) (aZ _) #[by show 2<=sizeLine;decide,[.int i tk,y],.cons #[tk,Z] (.cons kK .nil),#[_,fX _ Z,WP]];let KN:∀c∈[e,it],c<s.heap.objs.size:=λc hc=>by
   simp only[dj,gy,jM]at hc;rcases hc with rfl|rfl
   ·erw[elt]
   ·erw[ilt]
  let hn:∀c∈[e,it],bn H s.heap.objs.size (.tup [.int i,x]) c=none:=λc hc=>by rw[aU (fo (KN c hc))];exact(hf c hc).1
  let I2:Inv X ay O (bn H s.heap.objs.size (.tup [.int i,x])) {s with heap:=g',toks:=tk+1}:=Inv.Cd (s:={s with heap:=s.heap.push {cls:=.type "tuple",data:=.seq (List.toArray [.int i tk,y])},toks:=tk+1}) (t':=tk+1) (fp:=[e,it]) I1 (λc o hc q=>by
   let q:(s.heap.push {cls:=.type "tuple",data:=.seq (List.toArray [.int i tk,y])}).get? c=some o:=q;let nz:c≠e:=λz=>hc (by simp[z]);rcases a1J q with⟨LX,rfl⟩|q'
   ·subst LX
    erw[hs _ _ nz hT]
   ·erw[hs _ _ nz (kp c o nz (λz=>hc (by simp[z])) q')]) (λc hc=>by let(f0,f1,f2,f3,f4,f5):=hf c hc;erw[hn c hc,f1,f2,f3,f4,f5]);erw[.ref s.heap.objs.size,_,I2,Z,#[s.heap.objs.size,x,Z,λzs hz=>?_,nw],#[#[_,by simpa using he'],iI.1.to λo q=>hs _ o (m7 D) q],hn];rw[fP.inj I hz q1];erw[e1]
 done:=by
  intro X hP hw hK hc i ay s O H E I hf st hg;subst hP hw hK;let(xs,q1,yS):=hg;let(its,r1,p1):=q1.get I;let((old,he),h1):=st;let(oi,oF,ci,_):=h1.ob;let Le:∃o,s.heap.get? l=some o/\(o.cls= .type "list"\/o.cls= .type "tuple"):=by cases b<;>(let(o,ho,cc,_):=p1;first|erw[o,ho,.inl cc]|erw[o,ho,.inr cc])
  let(ol,yK,cl):=Le;let nil:l≠it:=λz=>by subst z;rw[oF]at yK;cases yK;rw[ci]at cl;cases b<;>(rcases cl with h|h<;>simp[wO]at h)
  let hi:i=its.toArray.size:=by rw[fL,<-⇑r1];erw[yS.symm]
  subst hi;erw[wpAny_pyNext_enum_endD (Z8 (I.ok.hd hc) nil) he #[h1,p1] λh' kp=>#[Z,?_],B,I.Cd (t':=s.toks) (fp:=[e,it]) (λc o hc q=>kp c o (λz=>hc (by simp[z])) q) hf]
 self:=λ_ _ _ _ _ st h=>by let((old,he),_):=st;erw[j0s he h]
inductive aiT(K:ag)(b:Bool)(R:It->Hp->Prop)(vs:AT)(H1:Hp):Prop |mk l(_:vs=[.ref l])(_:(∃xs,fP b K H1 l xs))(_:R (EI K b l) H1)
def aaF(K:ag)(b:Bool)(ta:TA):TI:=λO H R=>ta O H λvs H1=>aiT K b R vs H1
def Ax(K:ag){X:Cx}(hK:X.K=K)(b:Bool){elts:Cn}{kt:Nat}{vC:Pos}{a:Expr}{ta:TA}{p pos:Pos}(hg:Gl X "enumerate")(hm:X.mg "enumerate"=none)(ha:PA X [a] ta)(hs:↥(starEach [a] X.env=[(false,eval a X.env)]))(kC:↥(starEach [] X.env=[])): PI X (.Tuple elts kt vC) (.Call (.Name "enumerate" p) [a] [] pos) (aaF K b ta):=by
 subst hK;intro ay s O H R I h;erw[Call_ (w6 I hg hm PyProof.Rows.boot_enumerate (EV (bo (ha pos ay s O H _ I h) λus s1 #[vs,H1,I1,r1,q1]=>?_) (by rw[hs,kC]) (by rw[kC];rfl)))];let(l,e,(xs,h1),q):=q1;subst e;let(u1,rfl,kK):=vals1 r1;cases(show u1=Value.ref l from kK);let(Lj,v1,p1):=h1.get I1;erw[aeI p1 λg zg ig kp=>j0s zg ?_,B,xz,xz,H1,Z,I1.kept (t':=s1.toks) kp,a2r (zS (a1y _)),#[#[_,zg],ig],λc hc=>?_,q];let hle:s1.heap.objs.size<=c:=by simp only[dj,gy,jM]at hc;rcases hc with rfl|rfl<;>first|erw[aZ _]|erw[jg _ _]
 erw[I1.wB hle (I1.bD.fresh hle)]
def Bl{K:ag}{b:Bool}{a:Addr}{xs:AT}{g:TG}{tb:TS}{D:Ends}{O:St}{H:Hp}(Pv:Nat->St->Hp->Prop)(h0:Pv 0 O H)(hl:∀i O H,i<=⇑xs->Pv i O H->fP b K H a xs) (hs:∀i x O H,xs[i]? =some x->Pv i O H->∀T H',Nw H H' T (.tup [.int i,x])->g (.ref T) O H' λσ2 H2=>tb {D with nx:=Pv (i+1),ct:=Pv (i+1),bk:=D.nx} σ2 H2)(hd:∀O H,Pv ⇑xs O H->D.nx O H): ∃W:Nat->Nat->St->Hp->Prop,(∃m,W 0 m O H)/\∀i m O H,W i m O H->((EI K b a).stop i H/\D.nx O H)\/((EI K b a).go i H/\∃N:St->Hp->Prop,(∀σ' H',N σ' H'->∃m',m'<m/\W (i+1) m' σ' H')/\∀x H',(EI K b a).kI i H x H'->g x O H' λσ2 H2=>tb {D with nx:=N,ct:=N,bk:=D.nx} σ2 H2):=by
 erw[λi m O H=>m=⇑xs-i/\i<=⇑xs/\Pv i O H,#[⇑xs,by simp,fR _,h0],?_];rintro i m O H ⟨rfl,hi,p⟩;let q:=hl i O H hi p;by_cases bu:i<⇑xs
 ·erw[.inr #[#[xs,xs[i],q,by simp[bu]],Pv (i+1),λσ' H' p'=>#[⇑xs-(i+1),m8 bu (gR _),Z,bu,p'],λx H' y=>?_]]
  let(T,z,rfl,ez,nw):=y;erw[hs i z O H (ez xs q) p T H' nw]
 ·let e:i=⇑xs:=iY hi (kX bu)
  subst e;erw[.inl #[#[xs,q,Z],hd O H p]]
def M9{K:ag}{b1 b2:Bool}{a1 a2:Addr}{xs ys:AT}{g:TG}{tb:TS}{D:Ends}{O:St}{H:Hp}(n:Nat)(hn:n=min ⇑xs ys.length)(Pv:Nat->St->Hp->Prop)(h0:Pv 0 O H)(hl:∀i O H,i<=n->Pv i O H->fP b1 K H a1 xs/\fP b2 K H a2 ys) (hs:∀i x y O H,xs[i]? =some x->ys[i]? =some y->Pv i O H->∀T H',Nw H H' T (.tup [x,y])->g (.ref T) O H' λσ2 H2=>tb {D with nx:=Pv (i+1),ct:=Pv (i+1),bk:=D.nx} σ2 H2)(hd:∀O H,Pv n O H->D.nx O H): ∃W:Nat->Nat->St->Hp->Prop,(∃m,W 0 m O H)/\∀i m O H,W i m O H->((wZ K b1 b2 a1 a2).stop i H/\D.nx O H)\/((wZ K b1 b2 a1 a2).go i H/\∃N:St->Hp->Prop,(∀σ' H',N σ' H'->∃m',m'<m/\W (i+1) m' σ' H')/\∀x H',(wZ K b1 b2 a1 a2).kI i H x H'->g x O H' λσ2 H2=>tb {D with nx:=N,ct:=N,bk:=D.nx} σ2 H2):=by
 erw[λi m O H=>m=n-i/\i<=n/\Pv i O H,#[n,by simp,fR _,h0],?_];rintro i m O H ⟨rfl,hi,p⟩;let(q1,q2):=hl i O H hi p;by_cases bu:i<n
 ·let l1:i<⇑xs:=by lia
  let l2:i<⇑ys:=by lia
  erw[.inr #[#[xs,ys,xs[i],ys[i],q1,q2,by simp[l1],by simp[l2]],Pv (i+1),λσ' H' p'=>#[n-(i+1),m8 bu (gR _),Z,bu,p'],λx H' y=>?_]];let(T,z1,z2,rfl,e1,e2,nw):=y;erw[hs i z1 z2 O H (e1 xs q1) (e2 ys q2) p T H' nw]
 ·let e:i=n:=iY hi (kX bu)
  subst e;erw[.inl #[#[xs,ys,q1,q2,aE],hd O H p]]
section
variable {X:Cx}
def a6S(K:ag)(h:X.K=K){o e:Expr}{to:TE}{t:TA}{apos fb:Pos}(ho:PE X o to)(ha:PA X [e] t) (uT:↥(attributeBase o "pop" X.env (eval o X.env)=eval o X.env)) (uO:↥(((backTo fb (starEach [e] X.env)).all (λx=>!x.1)&&(backToKw fb (keywordEach [] X.env)).all (λx=>x.1.isSome) &&decide ([e].length+⇑([]:List Keyword)+(if([]:List Keyword).isEmpty then 0 else 1)<30))=true)) (uL:↥((apos.endLine==fb.line)=true))(hs:↥(starEach [e] X.env=(false,eval e X.env)::starEach [] X.env))(uK:↥((backTo fb (starEach [] X.env)).any (·.1)=false)): PE X (.Call (.Attribute o "pop" apos) [e] [] fb) (Ci K "list" Vu to t):=by subst h;erw[Ge a1r PySem.F.slot_list_pop PySem.F.type_list_pop a94 ho ha uT uO uL hs uK]
end
set_option maxHeartbeats 1000000 in
def Ga{X:Cx}{N:Ch}{js:List (Option Nat)}{elt tg iter:Expr}{ifs:Cn}{scope:Scope}{pos:Pos}{wi:TI}{g:TG}{tt:TT}{te:TE}{i0:Nat}{x0:Str}{As Qe:Pos}(hNd:X.N.Nodup)(pE:X.N[i0]? =some x0)(Dx:Loc X.env.scope x0)(hc:X.calm=true)(hN:Ej X N js scope=true)(hS:wQ X scope=true) (hi:PI X tg iter wi)(hg:∀cl s H fp ay,PG (dR X N scope cl s H fp ay) tg g)(ht:∀cl s H fp ay,NW (dR X N scope cl s H fp ay) ifs tt)(he:∀cl s H fp ay,PE (dR X N scope cl s H fp ay) elt te) (hsw:↥(swapsWith (.ListComp elt [#[tg,iter,ifs,0]] scope pos) (some (.Name x0 As)) Qe.line X.env=pure true))(hf0:X.fn x0=true\/X.env.scope.names.lookup x0=some .local:=by first|erw[.inl rfl]|erw[.inr rfl]) (hs:↥(↥(∀x,foldedSetIterable iter X.env x=pure x))):PS X (.Assign [.Name x0 As] (.ListComp elt [#[tg,iter,ifs,0]] scope pos) Qe) (FJ (PH js wi g tt te) (iu i0)):=by
 intro ay s O H D0 I h;let qC:=hS;unfold wQ at qC;rw[gU,gU]at qC;let((k1,k2),k3):=qC;let nJ:scope.kind= .function:=gf.mp k1;let wu:∀x∈scope.names,x.2= .free->∃c,X.env.cells.lookup x.1=some c:=λx hx e=>by have:=jw.mp k3 x hx;rw[e]at this;erw[I.ok.has x.1 (.inl (gf.mp this))]
 let sL:∀x∈scope.names,x.2≠ .cell:=λx hx e=>by have:=jw.mp k3 x hx;rw[e]at this;erw[ko this]
 let DD:∀x∈scope.names,x.2= .local->scope.names.lookup x.1=some .local:=λx hx e=>by have:=jw.mp k3 x hx;rw[e]at this;erw[gf.mp this]
 let(cl,DJ,c1,c2):=Ni wu;rw[exec_Assign_Name_used _ _ _ _ hsw];erw[aL (tJ (aL ?_))];show wpAny _ X.A (do let _<-comprehension (.ListComp elt [#[tg,iter,ifs,0]] scope pos) scope X.env _ (newList []) false (eval iter X.env) (some (assign (.Name x0 As) X.env))) _ _ s;erw[aL (gr (a1e (use:=some (assign (.Name x0 As) X.env)) (Q:=λ_ s'=>SP X ay D0 .next s') Z hs DJ nJ DD (bo (hi ay s O H _ I h) λv s1 h1=>bo h1 λDt s2 h2=>?_)) (λ_ s' hq=>bU (bU hq)) λ_ _ e=>e)];let(it,fp,tn,J,H2,e,I2,T,rK,f2,h2):=h2;subst e;let hD:H2 s2.heap.objs.size=none:=I2.bD.fresh (aZ _);let(W,(m0,w0),turn):=h2 _ _ (Nw.of hD);erw[tK (a1d sL (by intro y hy;simp at hy) (λh₁ wj we=>?_) nJ)];let qH:∀b∈fp,b<s2.heap.objs.size:=λb hb=>by let(o,e,_):=T.obj _ _ rK b hb;erw[cP e]
 let I3:Inv X ay O (bn H2 s2.heap.objs.size (.bi [])) {s2 with heap:=s2.heap.push {cls:=.type "list",dict:=none,data:=.seq ([]:BY).toArray}}:=I2.GC (its:=[]) (t':=s2.toks) .nil (fR _);generalize wz:s2.heap.push {cls:=.type "list",dict:=none,data:=.seq ([]:BY).toArray}=h3 at I3 wj we;let vE:h3.objs.size=s2.heap.objs.size+1:=by rw[<-wz,tR]
 let Dr:∀b o,s2.heap.get? b=some o->h3.get? b=some o:=λb o e=>by rw[<-wz];erw[cR _ e]
 let f3:∀b∈fp,m5 X ay (bn H2 s2.heap.objs.size (.bi [])) b:=λb hb=>#[by rw[aU (fo (qH b hb))];exact(f2 b hb).1,(f2 b hb).2];let wc:∀b o,h3.get? b=some o->h₁.get? b=some o:=λb o e=>(we.2 b (fo (cP e))).ao (cR _ e);let I4:Inv (dR X N scope cl {s2 with heap:=h3} (bn H2 s2.heap.objs.size (.bi [])) fp ay) [] (stC js O) (bn H2 s2.heap.objs.size (.bi [])) {s2 with heap:=h₁,toks:=s2.toks+⇑([]:List (Str×Value))}:=I3.comp (s:={s2 with heap:=h3}) hN hS c1 c2 f3 (λb hb=>by show b<h3.objs.size;rw[vE];erw[EY (qH b hb)]) (by simpa using wj) wc;let vF:tn 0 h₁:=T.keep _ _ _ rK λb _ o e=>wc b o (Dr b o e);let loop:codeAny (model X.prog X.w) X.A (.compLoop (.ListComp elt [#[tg,iter,ifs,0]] scope pos) 0 (.ref it) (.ref s2.heap.objs.size) (compEnvC scope cl h3.objs.size X.env)) (compPost (model X.prog X.w) X.A X.xe (some (assign (.Name x0 As) X.env)) (λ_ s'=>SP X ay D0 .next s') (.ref s2.heap.objs.size) h3.objs.size) {s2 with heap:=h₁,toks:=s2.toks+⇑([]:List (Str×Value))}:=by
  erw[ZQ (λn s'=>∃i σ' H',Inv (dR X N scope cl {s2 with heap:=h3} (bn H2 s2.heap.objs.size (.bi [])) fp ay) [] σ' H' s'/\tn i s'.heap/\(∀b∈fp,H' b=none)/\W i n σ' H') ?_ m0 #[0,xz,I4,vF,λb hb=>(f3 b hb).1,w0]];rintro n s5 ⟨i,σ5,H5,I5,p4,sP,w5⟩;let me:∀{H':Hp},(∀b∈fp,H' b=none)->∀b∈fp,m5 (dR X N scope cl {s2 with heap:=h3} (bn H2 s2.heap.objs.size (.bi [])) fp ay) [] H' b:=λ{H'} hn b hb=>by
   let(_,q1,q2,q3,q4,q5):=f3 b hb;erw[hn b hb,λz=>?_,I4.ok.sT b hb,.inl hb,λx c e=>q4 x c (c1 x c e),λp hp=>q5 p (by simpa[dR]using hp)];let bu:b<h3.objs.size:=by rw[vE];erw[EY (qH b hb)]
   erw[fo bu z]
  rcases turn i n σ5 H5 w5 with⟨stop,qn⟩|⟨go,step⟩
  ·erw[bo (T.done (dR X N scope cl {s2 with heap:=h3} (bn H2 s2.heap.objs.size (.bi [])) fp ay) rfl rfl rfl hc i [] s5 σ5 H5 _ I5 (me sP) p4 stop) λr s6 #[hr,I6]=>?_]
   subst hr;let(m,hm,_):=I6.loc;let u0:Un (gG X.stack) fp (bn H2 s2.heap.objs.size (.bi [])) H5 h3 s6.heap:=I6.aB;let I7:Inv X ay O H5 s6:=I3.Em (s':=s6) (ch:=fp) I6.os u0 I6.bD I6.bare λb hb=>#[(f3 b hb).2.2.2.1,(f3 b hb).2.1,(f3 b hb).2.2.2.2.1,(f3 b hb).2.2.2.2.2];let hC:m5 X ay H5 h3.objs.size:=I3.wB (aZ _) I6.free;show wpAny _ X.A (assign (.Name x0 As) X.env (.ref s2.heap.objs.size)) _ _ s6;erw[j07 (PY I7 hNd pE Dx (show RelV (.ref s2.heap.objs.size) (.ref s2.heap.objs.size)from Z) (λs8 I8 hsb=>?_) hf0)];let(a,sb,ha):=hsb;let hCa:h3.objs.size≠a:=by
    rcases ha with rfl|ha
    ·erw[hC.2.1]
    ·erw[λz=>hC.2.2.2.2.1 x0 a ha z.symm]
   erw[m,hm.sameBut sb hCa,λh9 hs9=>#[_,H5,?_,qn],B,I8.Cd (t':=s8.toks) (fp:=[h3.objs.size]) (λb o hb e=>hs9.extBut b o (λz=>hb (by simp[z])) e) λb hb=>by rw[gz.mp hb];erw[hC]]
  ·erw[bo (T.item (dR X N scope cl {s2 with heap:=h3} (bn H2 s2.heap.objs.size (.bi [])) fp ay) rfl rfl rfl hc i [] s5 σ5 H5 _ I5 (me sP) p4 go) λr s6 #[u,hr,h6]=>?_]
   subst hr;erw[bo h6 λ_ s7 #[x,H7,I7,r7,y7,om,DT]=>?_];let EJ:=I7.pinned (me DT) (T.obj _ _ om);erw[bo (hg _ _ _ _ _ _ s7 σ5 H7 x u _ EJ r7 (step x H7 y7)) λ_ s8 #[σ8,H8,I8,q8]=>?_,B,bo (ht _ _ _ _ _ _ s8 σ8 H8 _ I8 q8) λok s9 #[H9,I9,q9]=>?_];let again:∀{s':ah}{σ7:St}{H7:Hp},Inv (dR X N scope cl {s2 with heap:=h3} (bn H2 s2.heap.objs.size (.bi [])) fp ay) ([]++uj fp s7.heap) σ7 H7 s'->(∃m',m'<n/\W (i+1) m' σ7 H7)->∃m,m<n/\∃i σ' H',Inv (dR X N scope cl {s2 with heap:=h3} (bn H2 s2.heap.objs.size (.bi [])) fp ay) [] σ' H' s'/\tn i s'.heap/\(∀b∈fp,H' b=none)/\W i m σ' H':=λ{s' σ7 H7} J7 n7=>by let(m',hm,w7):=n7;erw[m',hm,i+1,σ7,H7,J7.xI,T.keep _ _ _ om λb hb o e=>(J7.pin (b,o) (iZ _ (iZ _ (sr hb e)))).1,λb hb=>?_,w7];let(o,e,d):=T.obj _ _ om b hb;exact(J7.pin (b,o) (iZ _ (iZ _ (sr hb e)))).2.1
   cases ok with |false=>rw[aV ko]at q9⊢;erw[again I9 q9] |true=>rw[aR rfl]at q9⊢;erw[bo (he _ _ _ _ _ _ s9 σ8 H9 _ I9 q9) λyv mj #[y,jK,xg,JZ,ys,kO,hz,u6]=>?_,B,bo (Gz _ mj σ8 jK (.ref s2.heap.objs.size) [y] (.ref s2.heap.objs.size) [yv] (λ_ jJ=>∃m',m'<n/\W (i+1) m' σ8 jJ) xg Z (.cons JZ .nil) #[_,ys,y,wP,kO,hz,u6]) λ_ xU #[v11,jJ,BI,r11,CD]=>?_,B,again BI CD]
 erw[a1g loop (T.self _ 0 _ _ _ vF loop)]
def tH.afh{X:Cx}{st:Stmt}{rest:List Stmt}{t u:TS}(h1:PS0 X st t)(h2:iW X rest u):tH X (st::rest) (J0 t u):=by intro s O H D I h;erw[Oa (bo (h1 s O H {D with nx:=u D} I h) λf s1 q=>?_)];cases f with |next=>let(σ',H',I',q):=q;erw[h2 [] s1 σ' H' D I' q] |ret v=>erw[q] |brk=>erw[q] |cont=>erw[q]
theorem ZY:∀{zs:Ch}{us:BY},Vals (zs.map V.str) us->CarriedAll us (zs.map PyData.str) |[],_,.nil=>.nil |z::zs,_,.cons q r=>by let(t,rfl):=(show∃t,_=Value.str z t from q);erw[.cons (.str z t) (ZY r)]
section
variable {X:Cx}
inductive aiu(K:ag)(x:V)(vs:AT)(H:Hp)(Q:VK):Prop |mk (sep:Str)(l:Addr)(zs:Ch)(_:x= .str sep)(_:vs=[.ref l])(_:aK K H l (zs.map V.str))(_:(∀z∈zs,⇑z<=8))(_:⇑sep<=8)(_:⇑zs<=1000)(_:Q (.str (Txt.join sep zs)) H)
def rJoin(K:ag):V->AT->Hp->VK->Prop:=λx vs H Q=>aiu K x vs H Q
def a96(K:ag)(hK:X.K=K):MtR X "str.join" (rJoin K):=by subst hK;intro ay s O H x vs v us Q I rx rv h;let(sep,l,zs,rfl,rfl,hl,hz,hs,hn,q):=h;let(t,rfl):=rx;let(u,rfl,ru):=vals1 rv;cases(show u=Value.ref l from ru);let(its,r,pl,_):=I.list hl;erw[join_madeW (l:=zs) (g:=id) 8 pl.isList (by rw[List.map_id];erw[ZY r]) (λa ha=>hz a ha) (cL hn aw) (cL (Iy hs _) aw) λt' k=>?_];rw[List.map_id];erw[.str _,H,I.tok _,#[_,Z],q]
def a6T(K:ag)(h:X.K=K){o e:Expr}{to:TE}{t:TA}{apos fb:Pos}(ho:PE X o to)(ha:PA X [e] t) (uT:↥(attributeBase o "join" X.env (eval o X.env)=eval o X.env)) (uO:↥(((backTo fb (starEach [e] X.env)).all (λx=>!x.1)&&(backToKw fb (keywordEach [] X.env)).all (λx=>x.1.isSome) &&decide ([e].length+⇑([]:List Keyword)+(if([]:List Keyword).isEmpty then 0 else 1)<30))=true)) (uL:↥((apos.endLine==fb.line)=true))(hs:↥(starEach [e] X.env=(false,eval e X.env)::starEach [] X.env))(uK:↥((backTo fb (starEach [] X.env)).any (·.1)=false)): PE X (.Call (.Attribute o "join" apos) [e] [] fb) (Ci K "str" (rJoin K) to t):=by subst h;erw[Ge PySem.F.plainAttrs_str PySem.F.slot_str_join PySem.F.type_str_join (a96 X.K rfl) ho ha uT uO uL hs uK]
end
section
variable {X:Cx}
def ZZ:gq X (.type "range") (λxs H Q=>∃n,xs=[.int n]/\∀p H',Nw H H' p (.xW 0 n)->Q (.ref p) H'):=by intro ay s O H xs us Q I r h;let(n,rfl,q):=h;let(u,rfl,t,rfl):=vals1 r;erw[call_range_1 ?_];let hf:H s.heap.objs.size=none:=I.bD.fresh (aZ _);erw[.ref s.heap.objs.size,bn H s.heap.objs.size (.xW 0 n),I.laid (t':=s.toks+1+1) (λb u e=>cR _ e) (aZ _) ?_,Z,q _ _ (.of hf),B,xz,_,fX _ Z]
end
def a3m:isSubtype (.type "range_iterator") (.type "reversed")=pure false:=by rw[isSubtype_type];kernel_rfl
section
variable {prog:ai}{w:World}{A:ak}{E:Value->ah->Prop}{s:ah}
abbrev CB(n:Nat):Obj:={cls:=.type "range_iterator",data:=.fields (List.toArray [rawInt (0+((n:Int)-1)*1),rawInt (n:Int),rawInt (-1)])}
abbrev JD(n:Nat):Bool:=Builtin.Range.rangeFitsLong 0&&Builtin.Range.rangeFitsLong n&&Builtin.Range.rangeFitsLong 1&&Builtin.Range.rangeFitsLong (-1)&&Builtin.Range.rangeFitsLong (0-1)&&Builtin.Range.rangeFitsLong (Builtin.Range.rangeSize 0 n 1)
def UZ(h:n<2^62):JD n=true:=by unfold JD;rw[rangeSize_one];simp only[Builtin.Range.rangeFitsLong,gU,Oc];split<;>lia
def a5P(r:Addr)(a b c:Int)(t u v:Tok)(LW:¬(!(Builtin.Range.rangeFitsLong a&&Builtin.Range.rangeFitsLong b&&Builtin.Range.rangeFitsLong c&&Builtin.Range.rangeFitsLong (-c)&&Builtin.Range.rangeFitsLong (a-c)&&Builtin.Range.rangeFitsLong (Builtin.Range.rangeSize a b c)))=true):Meets (Builtin.«range.__reversed__» #[[.ref r],[]]) (λ_ R s=>s.heap.get? r=some {cls:=.type "range",dict:=none,data:=.fields (List.toArray [.int a t,.int b u,.int c v]),slots:=#[]}/\R (.ok (.ret (.ref s.heap.objs.size))) {s with heap:=s.heap.push {cls:=.type (if(Builtin.Range.rangeFitsLong a&&Builtin.Range.rangeFitsLong b&&Builtin.Range.rangeFitsLong c&&Builtin.Range.rangeFitsLong (-c)&&Builtin.Range.rangeFitsLong (a-c)&&Builtin.Range.rangeFitsLong (Builtin.Range.rangeSize a b c))=true then "range_iterator" else "longrange_iterator"),data:=.fields (List.toArray [rawInt (a+(Builtin.Range.rangeSize a b c-1)*c),rawInt (Builtin.Range.rangeSize a b c),rawInt (-c)])},toks:=s.toks}):=.of_wp λprog w A R s h=>by
 let(hp,g,d,tk,os):=s;let(hl,h):=h
 wp_walk;erw[ww,h]
def afE{l:Addr}{n:Nat}{t u v:Tok}{Q:Value->ah->Prop}(hn:n<2^62)(hl:s.heap.get? l=some {cls:=.type "range",data:=.fields (List.toArray [.int 0 t,.int n u,.int 1 v])}) (h:Q (.ref s.heap.objs.size) {s with heap:=s.heap.push (CB n)}):wpAny (model prog w) A (call (.builtin "range.__reversed__") [.ref l]) Q E s:=by
 let hT:s.TypeIs (.ref l) "range":=#[_,hl,Z];erw[ES a1K hT F.entry_range_reversed (F.args_range_reversed_1 _) (a5P l 0 n 1 t u v (by have:=UZ hn;unfold JD at this;rw[this];decide)) #[hl,?_]];rw[aR (UZ hn)];let e:Builtin.Range.rangeSize 0 n 1=n:=by rw[rangeSize_one];split<;>lia
 rw[e];erw[h]
def aft{l:Addr}{n:Nat}{t u v:Tok}{Q₁:Value->ah->Prop}(hn:n<2^62)(hl:s.heap.get? l=some {cls:=.type "range",data:=.fields (List.toArray [.int 0 t,.int n u,.int 1 v])}) (h:Q₁ (.ref s.heap.objs.size) {s with heap:=s.heap.push (CB n)}): codeAny (model prog w) A (.call (.builtin "reversed.__new__") #[[.type "reversed",.ref l],[]]) (wants Q₁ E) s:=by
 let hT:s.TypeIs (.ref l) "range":=#[_,hl,Z];erw[SB ?_];show wpAny _ A.in1 (do checkBuiltinCall "reversed.__new__" #[[.type "reversed",.ref l],[]];again (.builtin "reversed.__new__" #[[.type "reversed",.ref l],[]])) _ _ s;erw[aL (BM (F.newCall_reversed_1 _) (bU #[plainId_quiet GE _,codeAny_builtin F.entry_reversed_new ?_]))];rw[Around.under_plainId GE _];unfold Builtin.«reversed.__new__»;erw[aL (BM (newClass_reversed _) ?_)]
 try dsimp only
 erw[aL (BM (a:=()) (by first|rfl|kernel_rfl) ?_),B,aL (BM (a:=()) (by first|rfl|kernel_rfl) ?_)]
 try dsimp only
 erw[aL (wpAny_specialOf hT a1K.lookup ?_)]
 try dsimp only
 erw[aL (BM (a1K.bind _) ?_)]
 try dsimp only
 first |rw[aV (show¬((Value.builtin "range.__reversed__"==Value.none)=true)from ko)] |(show wpAny _ _ (if(Value.builtin "range.__reversed__"==Value.none)=true then _ else _) _ _ _;rw[aV (show¬((Value.builtin "range.__reversed__"==Value.none)=true)from ko)])
 erw[aL (EO ?_),B,aL (m:=runValue (.call (.builtin "range.__reversed__") #[[.ref l],[]])) (show wpAny _ _ (call (.builtin "range.__reversed__") [.ref l]) _ _ _ from afE hn hl ?_)]
 first |erw[bU h] |erw[aL (bU (bU h))]
def afF{l:Addr}{n:Nat}{t u v:Tok}{Q:Value->ah->Prop}(hn:n<2^62)(hl:s.heap.get? l=some {cls:=.type "range",data:=.fields (List.toArray [.int 0 t,.int n u,.int 1 v])}) (h:Q (.ref s.heap.objs.size) {s with heap:=s.heap.push (CB n)}):wpAny (model prog w) A (call (.type "reversed") [.ref l]) Q E s:=by erw[callType_other (U:="range_iterator") (Q₁:=λobj s₁=>obj= .ref s.heap.objs.size/\s₁={s with heap:=s.heap.push (CB n)}) aP F.create_reversed #[xz,F.mro_reversed] F.made_reversed a3m (F.typeCall_reversed_1 _) (aft hn hl #[Z,Z]) ?_];rintro obj s₁ ⟨rfl,rfl⟩;erw[#[_,fX _ Z,Z],h]
end
def EH(n:Nat):It:=#[λi _=>i<n,λi H x H'=>H'=H/\x= .int ((n:Int)-1-i),λi _=>n<=i]
def a2o{P:ai}{w:World}{K:ag}{tg:Expr}(it:Addr)(n:Nat):Turn P w K tg (EH n) [it] it (λi h=>IsRangeIter h it ((0+((n:Int)-1)*1)+(i:Nat)*(-1)) ((n:Int)-(i:Nat)) (-1)) where
 mem:=by simp
 obj:=λi h st b hb=>by
  let e:b=it:=by simpa using hb
  subst e;erw[_,st,λv z=>by let z':Data.fields _=Data.cell v:=z;cases z']
 keep:=λi h h' st k=>k it (by simp) _ st
 item:=by
  intro X hP hw hK hc i ay s O H E I hf st hg;subst hP hw hK;let(f0,f1,f2,f3,f4,f5):=hf it (by simp);let W:=Walks.range (prog:=X.prog) (w:=X.w) (I.ok.hd hc) it (0+((n:Int)-1)*1) (-1) n;erw[W.item i s _ _ hg st λv h' tk hv jx kk=>?_];let(t,rfl):=hv;let I1:Inv X ay O H {s with heap:=h',toks:=tk}:=I.turned (λb o hb e=>kk b o (by simpa using hb) e) f0 f1 f3 f4 f5;erw[ww,DP (s:={s with heap:=h',toks:=tk}) (n:="range_iterator") jx rfl rfl aw #[.int ((n:Int)-1-i),H,I1,#[t,?_],#[Z,Z],jx,λb hb=>(hf b hb).1]];let e:(0+((n:Int)-1)*1)+(i:Int)*(-1)=(n:Int)-1-i:=by lia
  rw[e]
 done:=by intro X hP hw hK hc i ay s O H E I hf st hg;subst hP hw hK;let(f0,f1,f2,f3,f4,f5):=hf it (by simp);erw[Pn (I.ok.hd hc) st (by have:n<=i:=hg;lia) λh' eb=>#[Z,I.turned (t':=s.toks) (λb o hb e=>eb b o hb e) f0 f1 f3 f4 f5]]
 self:=λ_ _ _ _ _ st h=>a1b st h
inductive aiR(R:It->Hp->Prop)(vs:AT)(H1:Hp):Prop |mk p n(_:vs=[.ref p])(_:H1 p=some (.xW 0 n))(_:0<=n)(_:n<2^62)(_:R (EH n.toNat) H1)
def aaE(ta:TA):TI:=λO H R=>ta O H λvs H1=>aiR R vs H1
def VG(hg:Gl X "reversed")(hm:X.mg "reversed"=none)(ha:PA X [a] ta)(hs:↥(starEach [a] X.env=[(false,eval a X.env)]))(kC:↥(starEach [] X.env=[])): PI X tg (.Call (.Name "reversed" p) [a] [] pos) (aaE ta):=by
 intro ay s O H R I h;erw[Call_ (w6 I hg hm PyProof.Rows.boot_reversed (EV (bo (ha pos ay s O H _ I h) λus s1 #[vs,H1,I1,r1,q1]=>?_) (by rw[hs,kC]) (by rw[kC];rfl)))];let(l,n,e,hl,n0,n1,q):=q1;subst e;let(u1,rfl,kK):=vals1 r1;cases(show u1=Value.ref l from kK);obtain⟨t,u,v,e⟩:∃t u v,s1.heap.get? l=some {cls:=.type "range",data:=.fields (List.toArray [.int 0 t,.int n u,.int 1 v])}:=I1.bD l _ hl;obtain⟨m,rfl⟩:∃m:Nat,n=m:=#[n.toNat,Eq.symm (F9 n0)];erw[afF aE e ?_];let hit:IsRangeIter (s1.heap.push (CB m)) s1.heap.objs.size ((0+((m:Int)-1)*1)+((0:Nat):Int)*(-1)) ((m:Int)-((0:Nat):Int)) (-1):=by
  let e1:(0+((m:Int)-1)*1)+((0:Nat):Int)*(-1)=0+((m:Int)-1)*1:=by lia
  let e2:(m:Int)-((0:Nat):Int)=m:=rfl;rw[e1,e2];erw[fX _ rfl]
 erw[a1b hit ?_,B,s1.heap.objs.size,[s1.heap.objs.size],xz,H1,Z,I1.kept (t':=s1.toks) λb o e=>cR _ e,a2o _ m,hit,λb hb=>?_,q];let e:b=s1.heap.objs.size:=by simpa using hb
 subst e;erw[I1.wB (aZ _) (I1.bD.fresh (aZ _))]
def YA{n:Nat}{g:TG}{tb:TS}{D:Ends}{O:St}{H:Hp}(Pv:Nat->St->Hp->Prop)(h0:Pv 0 O H) (hs:∀i O H,i<n->Pv i O H->g (.int ((n:Int)-1-i)) O H λσ2 H2=>tb {D with nx:=Pv (i+1),ct:=Pv (i+1),bk:=D.nx} σ2 H2)(hd:∀O H,Pv n O H->D.nx O H): ∃W:Nat->Nat->St->Hp->Prop,(∃m,W 0 m O H)/\∀i m O H,W i m O H->((EH n).stop i H/\D.nx O H)\/((EH n).go i H/\∃N:St->Hp->Prop,(∀σ' H',N σ' H'->∃m',m'<m/\W (i+1) m' σ' H')/\∀x H',(EH n).kI i H x H'->g x O H' λσ2 H2=>tb {D with nx:=N,ct:=N,bk:=D.nx} σ2 H2):=by
 erw[λi m O H=>m=n-i/\i<=n/\Pv i O H,#[n,by simp,fR _,h0],?_];rintro i m O H ⟨rfl,hi,p⟩;by_cases bu:i<n
 ·erw[.inr #[bu,Pv (i+1),λσ' H' q=>#[n-(i+1),m8 bu (gR _),Z,bu,q],λx H' hy=>?_]]
  let(rfl,rfl):=hy;erw[hs i O _ bu p]
 ·let e:i=n:=iY hi (kX bu)
  subst e;erw[.inl #[aZ _,hd O H p]]
def K1(K:ag){X:Cx}(hK:X.K=K){a:Expr}{ta:TE}(ha:PE X a ta)(he:↥(↥(∀whole,isTrue a X.env whole=(do let v<-whole;standAt a.pos;holding [v] (truthy v))))): PT X a (λO H Q=>ta O H λx H'=>∃k,NR K x H' k/\Q k H'):=by subst hK;erw[a6m ha he]
section
variable {X:Cx}
def y9(K:ag)(h:X.K=K){o e:Expr}{to:TE}{t:TA}{apos fb:Pos}(ho:PE X o to)(ha:PA X [e] t) (uT:↥(attributeBase o "extend" X.env (eval o X.env)=eval o X.env)) (uO:↥(((backTo fb (starEach [e] X.env)).all (λx=>!x.1)&&(backToKw fb (keywordEach [] X.env)).all (λx=>x.1.isSome) &&decide ([e].length+⇑([]:List Keyword)+(if([]:List Keyword).isEmpty then 0 else 1)<30))=true)) (uL:↥((apos.endLine==fb.line)=true))(hs:↥(starEach [e] X.env=(false,eval e X.env)::starEach [] X.env))(uK:↥((backTo fb (starEach [] X.env)).any (·.1)=false)): PE X (.Call (.Attribute o "extend" apos) [e] [] fb) (Ci K "list" Vv to t):=by subst h;erw[Ge a1r PySem.F.slot_list_extend PySem.F.type_list_extend a95 ho ha uT uO uL hs uK]
open PyProof
def sumK(K:ag)(hK:X.K=K)(hc:X.calm=true):gq X (.builtin "sum") (λxs H Q=>∃(l:Addr)(ns:Ar),xs=[.ref l]/\aK K H l (ns.map V.int)/\Q (.int ns.sum) H):=by
 subst hK;intro ay s O H xs us Q I r h;let(l,ns,rfl,hl,q):=h;let(u,rfl,ru):=vals1 r;cases(show u=Value.ref l from ru);let(its,rv,pl,hz):=I.list hl;let(a1,a2):=Ls rv;let all:AllInts its.toArray:=λv hv=>a1 v (by simpa using hv);let(ps,DA):=all.items;let e0:numsOf (intItems ps).toList=ns:=by rw[<-DA];erw[a2]
 rw[nums_intItems]at e0;erw[sum_intListG (I.ok.hd hc) (by rw[<-DA];erw[pl.isList]) λh' tk t' hk=>?_];let e2:preSum (numAt ps) ps.size=ns.sum:=by rw[preSum_eq,zT (by simp),e0]
 erw[.int _,H,I.kept hk,#[_,Z],?_];rw[e2];erw[q]
end
end _L
namespace _L
universe PySem
section
variable {K:ag} {H H' H2:Hp}
def afj{xs:AT}{ds:AC}{D:Addr}(rest:St)(nw:Nw H H0 D (.bi []))(hl:⇑xs=ds.length)(hz:⇑xs<=100000)(hn:bR ds=true) (go:∀i x H2,xs[i]? =some x->aI H H2->J.go i H2/\∀y H3,J.kI i H2 y H3->H3=H2/\y=x)(stop:∀H2,aI H H2->J.stop ⇑xs H2) (hs:∀(i:Nat)(x:V)(d:aj)(H2:Hp)(Q':VK),xs[i]? =some x->ds[i]? =some d->aI H H2->(∀y H3,aI H2 H3->RD K H3 y d->Q' y H3)->te (some x::rest) H2 Q') (hq:∀H' ys,aI H H'->H' D=some (.bi ys)->aH K H' ys ds->Q (.ref D) H'):m6 J (iu 0) kJ te Q D (none::rest) H0:=by
 let hD:=nw.no;erw[wM ⇑xs (λi O H2=>aI H H2/\(∃ys,H2 D=some (.bi ys)/\aH K H2 ys (ds.take i))/\∃v,O=v::rest) ?_ ?_ ?_]
 ·erw[nw.ss,#[[],nw.at',cQ],none,Z]
 ·rintro i O H2 hi ⟨s2,⟨ys,d2,r2⟩,v,rfl⟩
  let yR:i<⇑ds:=by rw[<-hl];erw[hi]
  let ex:=bf hi;let eb:=bf yR;let(g1,g2):=go i _ H2 ex s2;erw[g1,λy H3 hy=>?_];let(rfl,rfl):=g2 y H3 hy;erw[C7 ?_,B,hs i _ _ _ _ ex eb s2 λz H4 s4 r4=>?_];let d4:=s4 _ _ d2;let len:=⇑r2;rw[kH]at len;erw[ys,d4,?_,⇑xs-(i+1),m8 hi (gR _),Z,hi,λb o e=>?_,#[ys++[z],bQ,?_],ww]
  ·have:(100000:Nat)<sizeLine:=by decide
   lia
  ·rw[aU (e9 e hD)];erw[s4 b o (s2 b o e)]
  ·let t:fw H4 (bn H4 D (.bi (ys++[z]))):=.iB d4
   rw[mQ,eb];let n1:bR (ds.take i)=true:=cA.mpr λd hd=>cA.mp hn d (BR hd);exact(aH.t t _ n1 (aH.sK s4 _ r2)).append %[RD.t t _ (cA.mp hn _ (zX yR)) r4|cQ]
 ·rintro O H2 ⟨s2,⟨ys,d2,r2⟩,v,rfl⟩
  erw[stop H2 s2,hq H2 ys s2 d2 ?_];rw[hl,zU]at r2;erw[r2]
def afi{D:Addr}(rest:St)(hx:aK K H a xs)(nw:Nw H H0 D (.bi []))(hl:⇑xs=ds.length)(hz:⇑xs<=100000)(hn:bR ds=true) (hs:∀(i:Nat)(x:V)(d:aj)(H2:Hp)(Q':VK),xs[i]? =some x->ds[i]? =some d->aI H H2->(∀y H3,aI H2 H3->RD K H3 y d->Q' y H3)->te (some x::rest) H2 Q') (hq:∀H' ys,aI H H'->H' D=some (.bi ys)->aH K H' ys ds->Q (.ref D) H'):m6 (vk K a) (iu 0) kJ te Q D (none::rest) H0:=afj rest nw hl hz hn (λi x H2 e s=>#[#[xs,x,hx.go s,e],λy H3 #[e3,y3]=>#[e3,by have:=y3 _ (hx.go s);rw[e]at this;exact(fm this).symm]]) (λH2 s=>#[xs,hx.go s,aZ _]) hs hq
end
def ZO{K:ag}{bs:List Bool}{D:Addr}(rest:St)(hn:n=2)(h1:fP b1 K H l1 xs)(h2:fP b2 K H l2 ys)(nw:Nw H H0 D (.bi [])) (hl:min ⇑xs ys.length=⇑bs)(hz:⇑bs<=100000) (hs:∀(i:Nat)(x y:V)(b:Bool)(H2:Hp)(Q':VK),xs[i]? =some x->ys[i]? =some y->bs[i]? =some b->aI H H2->(∀H3,aI H2 H3->Q' (.bl b) H3)->te (some x::some y::rest) H2 Q') (hq:∀H',aI H H'->H' D=some (.bi (bs.map V.bl))->Q (.ref D) H'):m6 (wZ K b1 b2 l1 l2) (DS K n (ze (iu 0) (ze (iu 1) Hf))) kJ te Q D (none::none::rest) H0:=by
 subst hn;let hD:=nw.no;erw[wM ⇑bs (λi O H2=>aI H H2/\H2 D=some (.bi ((bs.take i).map V.bl))/\∃v v',O=v::v'::rest) ?_ ?_ ?_]
 ·erw[nw.ss,nw.at',none,none,Z]
 ·rintro i O H2 hi ⟨s2,d2,v,v',rfl⟩
  let hx:i<⇑xs:=by lia
  let hy:i<⇑ys:=by lia
  let ex:=bf hx;let ey:=bf hy;let eb:=bf hi;erw[#[xs,ys,xz,h1.go s2,h2.go s2,ex,ey],λy' H3 nH=>?_];let(T,x0,y0,rfl,k1,k2,n3):=nH;let e1:=k1 _ (h1.go s2);let e2:=k2 _ (h2.go s2);rw[ex]at e1;rw[ey]at e2;cases e1;cases e2;erw[T,ww,aW.of n3.at',wE,B,yes (bB ?_),B,hs i _ _ _ _ _ ex ey eb (s2.ao n3.ss) λH4 s4=>?_,B,_,s4 _ _ (n3.ss _ _ d2),?_,⇑bs-(i+1),m8 hi (gR _),Z,hi,λb o e=>?_,?_,wT]
  ·rw[bC,kH]
   have:(100000:Nat)<sizeLine:=by decide
   lia
  ·rw[aU (e9 e hD)];erw[s4 b o (n3.ss b o (s2 b o e))]
  ·rw[bQ,mQ,eb,kn];rfl
 ·rintro O H2 ⟨s2,d2,v,v',rfl⟩
  erw[#[xs,ys,h1.go s2,h2.go s2,aE],hq H2 s2 ?_];rw[d2,zU]
def lW{t:TS}{D:Ends}(h:let E':=D;t E' O H):t D O H:=h
def gH{g:TG}{x:V}{tb:TS}{D:Ends}{O:St}{H:Hp}(h:let E':=D;g x O H λσ2 H2=>tb E' σ2 H2):g x O H λσ2 H2=>tb D σ2 H2:=h
def zD{c:TT}{tb:TS}{D:Ends}{Nx:St->Hp->Prop}{O:St}{H:Hp}(h:let E':=D;c O H λb H1=>if b=true then tb E' O H1 else Nx O H1):c O H λb H1=>if b=true then tb D O H1 else Nx O H1:=h
end _L
namespace _l
open PySem _L
def kf(i:Int):Int:=if i<0 then-i else i
def Ew(i:Int):kf i=(i.natAbs:Int):=by unfold kf;split<;>lia
def aF(ns:Ar):Nat:=ns.foldr (λz m=>max z.natAbs m) 0
theorem La:∀{ns:Ar}{z:Int},z∈ns->z.natAbs<=aF ns
 |n::ns,z,h=>by
  show z.natAbs<=max n.natAbs (aF ns);rcases dj.mp h with rfl|h
  ·erw[Nat.le_max_left _ _]
  ·erw[cL (La h) (Nat.le_max_right _ _)]
theorem L9:∀{ns:Ar},ns≠[]->∃z∈ns,z.natAbs=aF ns
 |[],h=>absurd Z h |[n],_=>#[n,.head _,by show n.natAbs=max n.natAbs 0;lia] |n::m::ns,_=>by
  let(z,hz,e):=L9 (ns:=m::ns) (by simp);by_cases h:n.natAbs<=aF (m::ns)
  ·erw[z,.tail _ hz,by show _=max n.natAbs (aF (m::ns));lia]
  ·erw[n,.head _,by show _=max n.natAbs (aF (m::ns));lia]
def sE(h:∀z∈ns,z.natAbs<=m):aF ns<=m:=by cases ns with |nil=>erw[fR _] |cons a r=>let(z,hz,e):=L9 (ns:=a::r) (by simp);rw[<-e];erw[h z hz]
def aa0(h:∃z∈ns,z≠0):0<aF ns:=by
 let(z,hz,h0):=h;have:=La hz
 lia
def L8(eZ:ns≠[]){M:Int}(h1:M∈ns.map kf)(h2:∀a∈ns.map kf,a<=M):M=(aF ns:Int):=by
 let(z,hz,e):=gS.mp h1;let(y,hy,ey):=L9 eZ;let a1:=La hz;let a2:=h2 (kf y) (gS.mpr #[y,hy,Z]);rw[Ew]at e a2
 lia
def oo(p q:Int):Int:=(2*(p.natAbs:Int)+q)/(2*q)
def kz(p q:Int):Int:=if p>=0 then oo p q else-oo p q
structure BG(x p q:Int):Prop where
 lo:-q<=2*(x*q-p)
 hi:2*(x*q-p)<=q
 zh:2*(x*q-p)=q\/2*(x*q-p)=-q->p.natAbs<=(x*q).natAbs
def a4D(hq:0<q):2*q*oo p q<=2*(p.natAbs:Int)+q/\2*(p.natAbs:Int)+q<2*q*oo p q+2*q:=by let h:=KK9 (2*(p.natAbs:Int)+q) (2*q);let h0:=tQ (2*(p.natAbs:Int)+q) (show 2*q≠0 from _S.Df (eY aw hq));let h1:=xE (2*(p.natAbs:Int)+q) (show 0<2*q from eY aw hq);unfold oo;constructor<;>omega
def a4E(hq:0<q):0<=oo p q:=Rt aE (gT (eY aw hq))
def near_is(hq:0<q):BG (kz p q) p q:=by
 let(h1,h2):=a4D (p:=p) hq;let h0:=a4E (p:=p) hq;rw[C3,OQ q]at h1 h2;let Dy:0<=oo p q*q:=fy h0 (gT hq);unfold kz;split
 ·erw[zn,λh=>?_]<;>(generalize oo p q*q=s at*;omega)
 ·erw[zn,?_]<;>rw[Int.neg_mul]<;>(generalize oo p q*q=s at*;omega)
def Dk{x y q:Int}(hq:0<q)(h:x<y):x*q+q<=y*q:=by have:(x+1)*q<=y*q:=Fb h (gT hq);rw[Int.add_mul,kZ]at this;erw[this]
def a8S(hq:0<q)(a:BG x p q)(b:BG y p q):x=y:=by
 let key:∀{x y:Int},BG x p q->BG y p q->¬x<y:=λ{x y} a b h=>by
  let g:=Dk hq h;let e1:=a.lo;let e2:=a.hi;let e3:=b.lo;let e4:=b.hi;let f1:=a.zh;let f2:=b.zh;let hx:x*q=0\/q<=x*q\/x*q<=-q:=by
   rcases a1H x 0 with h|h|h
   ·have:=Dk hq h;lia
   ·left;rw[h,F7]
   ·have:=Dk hq h;lia
  let hy:y*q=0\/q<=y*q\/y*q<=-q:=by
   rcases a1H y 0 with h|h|h
   ·have:=Dk hq h;lia
   ·left;rw[h,F7]
   ·have:=Dk hq h;lia
  generalize x*q=u at*;generalize y*q=v at*;let hu:=f1 aE;let hv:=f2 aE
  lia
 rcases a1H x y with h|h|h
 ·erw[absurd h (key a b)]
 ·erw[h]
 ·erw[absurd h (key b a)]
def a8T(hq:0<q)(a:BG x p q):x=kz p q:=a8S hq a (near_is hq)
def WE(hq:0<q):kz 0 q=0:=(a8T hq #[aE,aE,λh=>cL aw (fR _)]).symm
end _l
namespace _C
open _l
def dQ(ns ms:Ar):Ar:=(ns.zip ms).map λp=>p.1*(aF ms:Int)-p.2*(aF ns:Int)
def a9d(h:z∈dQ ns ms):∃a b,a∈ns/\b∈ms/\z=a*(aF ms:Int)-b*(aF ns:Int):=by let((a,b),hp,rfl):=gS.mp h;erw[a,b,(BQ hp).1,(BQ hp).2,Z]
def oz{b:Int}(h:a.natAbs<=m)(g:b.natAbs<=n):(a*b).natAbs<=m*n:=by rw[ij];erw[pO h g]
def Hv(h1:∀z∈ns,z.natAbs<=1000)(h2:∀z∈ms,z.natAbs<=1000):∀z∈dQ ns ms,z.natAbs<=2000000:=λz hz=>by let(a,b,ha,hb,rfl):=a9d hz;let l1:=sE h1;let l2:=sE h2;let e1:=oz (b:=(aF ms:Int)) (n:=1000) (h1 a ha) (_S.nM l2 Z);let e2:=oz (b:=(aF ns:Int)) (n:=1000) (h2 b hb) (_S.nM l1 Z);omega
def wq(zs:Ar)(i:Nat):Nat:=aF (zs.take i)
theorem Xx:∀(xs ys:Ar),aF (xs++ys)=max (aF xs) (aF ys) |[],ys=>by simp[aF] |x::xs,ys=>by show max x.natAbs (aF (xs++ys))=max (max x.natAbs (aF xs)) (aF ys);rw[Xx xs ys];lia
def abr(h:zs[i]? =some z):wq zs (i+1)=max (wq zs i) z.natAbs:=by
 unfold wq;rw[mQ,h,Xx];show max _ (max z.natAbs 0)=_
 lia
def zE(r:Rat):Rat:=if r.num<0 then-r else r
def agq(r:Rat):(zE r).num=kf r.num:=by
 unfold zE kf;split
 ·rfl
 ·rfl
def ags(r:Rat):(zE r).den=r.den:=by
 unfold zE;split
 ·rfl
 ·rfl
def af2{b:Int}(hb:0<b):0<=(Rat.divInt a b).num↔0<=a:=by rw[Og,BN hb]
def agr(hL:0<L):zE (Rat.divInt c L)=Rat.divInt (kf c) L:=by
 let h:=af2 (a:=c) hL;unfold zE kf;by_cases hc:c<0
 ·rw[aR hc,aR aE,KE]
 ·rw[aV hc,aV aE]
def Hs{b:Int}(hL:0<L):Rat.divInt a L<=Rat.divInt b L↔a<=b:=by
 rw[Rat.le_iff_sub_nonneg,a1k _ _ (j4 hL) (j4 hL),BN (eY hL hL),<-Int.sub_mul];constructor
 ·intro h
  have:=Int.nonneg_of_mul_nonneg_left h hL
  lia
 ·intro h
  erw[fy (C0 h) (gT hL)]
def ZD{b:Int}(hL:0<L):Rat.divInt a L<Rat.divInt b L↔a<b:=by rw[<-Rat.not_le,Hs hL];lia
def a3l{b:Int}(h1:0<l1)(h2:0<l2):Rat.divInt b l2-Rat.divInt a l1=Rat.divInt (b*l1-a*l2) (l1*l2):=by rw[a1k _ _ (j4 h2) (j4 h1),OQ l2 l1]
def afc(hp:p≠0)(hh:h≠0)(e:p*L=h*q):Rat.divInt (j*j*q*q) (p*p)=Rat.divInt ((j*L)^2) (h^2):=by
 rw[Sc (OP hp hp) (by rw[fM,fM,md,kZ];erw[OP hh hh])];let e2:(p*L)*(p*L)=(h*q)*(h*q):=by rw[e]
 rw[fM,fM,md,kZ,fM,fM,md,kZ];let a1:j*j*q*q*(h*h)=(j*j)*((h*q)*(h*q)):=by ac_rfl
 let a2:j*L*(j*L)*(p*p)=(j*j)*((p*L)*(p*L)):=by ac_rfl
 rw[a1,a2,e2]
end _C
namespace _P
def mn(a b:Rat):Rat:=if b<a then b else a
def eO(a b:Rat):mn a b<=a:=by
 unfold mn;split
 ·next h=>erw[ET h]
 ·erw[fG]
def gj(a b:Rat):mn a b<=b:=by
 unfold mn;split
 ·erw[fG]
 ·next h=>erw[pM.mp h]
def iq{b:Rat}(h1:c<=a)(h2:c<=b):c<=mn a b:=by unfold mn;split<;>assumption
def qo(a b:Rat):mn a b=a\/mn a b=b:=by
 unfold mn;split
 ·erw[.inr rfl]
 ·erw[.inl rfl]
def uD{b:Rat}(hc:c=a\/c=b)(h1:c<=a)(h2:c<=b):mn a b=c:=by
 rcases hc with rfl|rfl
 ·erw[zP (eO _ _) (iq h1 h2)]
 ·erw[zP (gj _ _) (iq h1 h2)]
def B0{b:Rat}(h:a<=b)(hc:0<=c):a<=b+c:=cu h (by have:=(Rat.add_le_add_left (c:=b)).mpr hc;rwa [tL]at this)
def add_r{b:Rat}(h:a<=b):a+c<=b+c:=Oj.mpr h
section
variable (n:Nat)(own:Nat->Rat)(L:Nat->Option Nat)(r f:Int)
def Rz:Nat->Rat |0=>own 0 |i+1=>match L i with |some m=>mn (own (i+1)) (Rz i+((r*(m:Int):Int):Rat)) |none=>own (i+1)
def Pz(g:Nat->Rat):Nat->Rat |0=>g n |k+1=>match L (n-(k+1))with |some m=>mn (g (n-(k+1))) (Pz g k+((f*(m:Int):Int):Rat)) |none=>g (n-(k+1))
def fl(g:Nat->Rat)(i:Nat):Rat:=Pz n L f g (n-i)
def lG(i:Nat):Rat:=fl n L f (Rz own L r) i
end
section
variable {n:Nat}{own g:Nat->Rat}{L:Nat->Option Nat}{r f:Int}
def sR:fl n L f g n=g n:=by unfold fl;rw[BO];rfl
def pH(hi:i<n)(h:L i=some m):fl n L f g i=mn (g i) (fl n L f g (i+1)+((f*(m:Int):Int):Rat)):=by
 unfold fl;let e:n-i=(n-(i+1))+1:=by omega
 rw[e];show(match L (n-((n-(i+1))+1))with|some m=>_|none=>_)=_;let e2:n-((n-(i+1))+1)=i:=by omega
 rw[e2,h]
def qI(hi:i<n)(h:L i=none):fl n L f g i=g i:=by
 unfold fl;let e:n-i=(n-(i+1))+1:=by lia
 rw[e];show(match L (n-((n-(i+1))+1))with|some m=>_|none=>_)=_;let e2:n-((n-(i+1))+1)=i:=by lia
 rw[e2,h]
def K5:lG n own L r f n=Rz own L r n:=sR
def CH(hi:i<n)(h:L i=some m):lG n own L r f i=mn (Rz own L r i) (lG n own L r f (i+1)+((f*(m:Int):Int):Rat)):=pH hi h
def K3(hi:i<n)(h:L i=none):lG n own L r f i=Rz own L r i:=qI hi h
def BE(h:L i=some m):Rz own L r (i+1)=mn (own (i+1)) (Rz own L r i+((r*(m:Int):Int):Rat)):=by show(match L i with|some m=>_|none=>_)=_;rw[h]
def ED(h:L i=none):Rz own L r (i+1)=own (i+1):=by show(match L i with|some m=>_|none=>_)=_;rw[h]
def agB(i:Nat):Rz own L r i<=own i:=by cases i with |zero=>erw[fG] |succ i=>cases h:L i with |none=>rw[ED h];erw[fG] |some m=>rw[BE h];erw[eO _ _]
def VD(hi:i<=n):lG n own L r f i<=Rz own L r i:=by
 rcases Nat.lt_or_eq_of_le hi with hi|rfl
 ·cases h:L i with |none=>rw[K3 hi h];erw[fG] |some m=>rw[CH hi h];erw[eO _ _]
 ·rw[K5];erw[fG]
def a6w(hi:i<=n):lG n own L r f i<=own i:=cu (VD hi) (agB i)
def a6y(hi:i<n)(h:L i=some m):lG n own L r f i<=lG n own L r f (i+1)+((f*(m:Int):Int):Rat):=by rw[CH hi h];erw[gj _ _]
def Dj{a:Int}{m:Nat}(h:0<=a):(0:Rat)<=((a*(m:Int):Int):Rat):=by have:((0:Int):Rat)<=((a*(m:Int):Int):Rat):=rk.mpr (fy h (cf _));erw[this]
def a6v(hi:i<n)(h:L i=some m)(hr:0<=r)(hf:0<=f):lG n own L r f (i+1)<=lG n own L r f i+((r*(m:Int):Int):Rat):=by
 let h1:lG n own L r f (i+1)<=Rz own L r i+((r*(m:Int):Int):Rat):=by erw[cu (VD hi) ?_];rw[BE h];erw[gj _ _]
 rw[CH hi h];rcases qo (Rz own L r i) (lG n own L r f (i+1)+((f*(m:Int):Int):Rat))with e|e
 ·rw[e];erw[h1]
 ·rw[e];erw[B0 (B0 fG (Dj hf)) (Dj hr)]
theorem HL(hr:0<=r)(h0:∀i,i<=n->0<=own i):∀i,i<=n->0<=Rz own L r i |0,hi=>h0 0 hi |i+1,hi=>by cases h:L i with |none=>rw[ED h];erw[h0 _ hi] |some m=>rw[BE h];erw[iq (h0 _ hi) (B0 (HL hr h0 i (cw hi)) (Dj hr))]
def down{C:Nat->Prop}(hn:C n)(hs:∀i,i<n->C (i+1)->C i):∀i,i<=n->C i:=by
 let key:∀k,k<=n->C (n-k):=λk=>by induction k with |zero=>intro _;erw[hn] |succ k ih=>
  intro hk;erw[hs _ (dJ (m8 hk (gR _)) (j0f _ _)) ?_];let e:n-(k+1)+1=n-k:=by omega
  rw[e];erw[ih (cw hk)]
 intro i hi;have:=key (n-i) (j0f _ _);let e:n-(n-i)=i:=by omega
 rwa [e]at this
def K4(hr:0<=r)(hf:0<=f)(h0:∀i,i<=n->0<=own i):∀i,i<=n->0<=lG n own L r f i:=by
 erw[down ?_ λi hi ih=>?_]
 ·rw[K5];erw[HL hr h0 n (aZ _)]
 ·cases h:L i with |none=>rw[K3 hi h];erw[HL hr h0 i (cw hi)] |some m=>rw[CH hi h];erw[iq (HL hr h0 i (cw hi)) (B0 ih (Dj hf))]
structure Keeps(n:Nat)(own:Nat->Rat)(L:Nat->Option Nat)(r f:Int)(q:Nat->Rat):Prop where
 own:∀i,i<=n->q i<=own i
 rise:∀i m,i<n->L i=some m->q (i+1)<=q i+((r*(m:Int):Int):Rat)
 YH:∀i m,i<n->L i=some m->q i<=q (i+1)+((f*(m:Int):Int):Rat)
def a6x(hr:0<=r)(hf:0<=f):Keeps n own L r f (lG n own L r f):=#[λi hi=>a6w hi,λi m hi h=>a6v hi h hr hf,λi m hi h=>a6y hi h]
theorem GH{q:Nat->Rat}(k:Keeps n own L r f q):∀i,i<=n->q i<=Rz own L r i |0,hi=>k.own 0 hi |i+1,hi=>by cases h:L i with |none=>rw[ED h];erw[k.own _ hi] |some m=>rw[BE h];erw[iq (k.own _ hi) (cu (k.rise i m hi h) (add_r (GH k i (cw hi))))]
def aaf(k:Keeps n own L r f q):∀i,i<=n->q i<=lG n own L r f i:=by
 erw[down ?_ λi hi ih=>?_]
 ·rw[K5];erw[GH k n (aZ _)]
 ·cases h:L i with |none=>rw[K3 hi h];erw[GH k i (cw hi)] |some m=>rw[CH hi h];erw[iq (GH k i (cw hi)) (cu (k.YH i m hi h) (add_r ih))]
end
open _d
def ph{b:Rat}(h1:Bd n a)(h2:Bd n b):Bd n (mn a b):=by rcases qo a b with e|e<;>rw[e]<;>assumption
def jG{n:Nat}{q:Rat}{z:Int}(h:Bd n q)(hz:z.natAbs<2^24):Bd (n+25) (q+(z:Rat)):=by let b:Bd 24 (z:Rat):=#[hz,by show 1<2^24;decide];exact(h.add b).sK (gR _)
theorem HM{b:Nat}{own:Nat->Rat}{L:Nat->Option Nat}{r:Int}(ho:∀i,Bd b (own i))(hL:∀i m,L i=some m->(r*(m:Int)).natAbs<2^24):∀i,Bd (b+25*i) (Rz own L r i) |0=>ho 0 |i+1=>by cases h:L i with |none=>rw[ED h];exact(ho _).sK (jg _ _) |some m=>rw[BE h];erw[ph ((ho _).sK (jg _ _)) ((jG (HM ho hL i) (hL i m h)).sK (m9 Z))]
def Me{n b:Nat}{g:Nat->Rat}{L:Nat->Option Nat}{f:Int}(ho:∀i,i<=n->Bd b (g i))(hL:∀i m,L i=some m->(f*(m:Int)).natAbs<2^24):∀i,i<=n->Bd (b+25*(n-i)) (fl n L f g i):=by
 erw[down ?_ λi hi ih=>?_]
 ·rw[sR];exact(ho n (aZ _)).sK (jg _ _)
 ·cases h:L i with |none=>rw[qI hi h];exact(ho i (cw hi)).sK (jg _ _) |some m=>rw[pH hi h];erw[ph ((ho i (cw hi)).sK (jg _ _)) ((jG ih (hL i m h)).sK aE)]
abbrev _root_.Da:=List Rat
def bi(n:Nat)(g:Nat->Rat):Da:=(List.range (n+1)).map g
def sy(n:Nat)(g:Nat->Rat):⇑(bi n g)=n+1:=by simp[bi]
def pj(g:Nat->Rat){i:Nat}(h:i<=n):(bi n g)[i]? =some (g i):=by unfold bi;rw[bV,bf (by simp;erw[jv h]),zW];rfl
def KO(h:∀k,k<=n->k≠i->g' k=g k):(bi n g).set i (g' i)=bi n g':=by
 apply F3;intro k;by_cases hk:k<=n
 ·rw[pj g' hk,j0r]
  by_cases e:i=k
  ·subst e;rw[aR rfl,aR (by rw[sy];erw[jv hk])]
  ·rw[aV e,pj g hk,h k hk (λz=>e z.symm)]
 ·rw[nY (by rw[xB,sy];erw[oW hk]),nY (by rw[sy];erw[oW hk])]
def uE(h:∀k,k<=n->g' k=g k):bi n g=bi n g':=by
 apply F3;intro k;by_cases hk:k<=n
 ·rw[pj g hk,pj g' hk,h k hk]
 ·rw[nY (by rw[sy];erw[oW hk]),nY (by rw[sy];erw[oW hk])]
end _P
namespace _O
open _P _C _l _d
abbrev Itm:=Option (List Int × Int)
def oR(tz sp:Int):Rat:=Rat.divInt ((sp*tz)^2) 10000
def na(j:Int)(ns ms:Ar):Option Rat:=if aF (dQ ns ms)=0 then none else some (Rat.divInt ((j*aF ns*aF ms)^2) ((aF (dQ ns ms):Int)^2))
def dL(a:Rat):Option Rat->Rat |none=>a |some c=>mn a c
def iN(j tz:Int):Itm->Itm->Rat |some (ns,sp),some (ms,sq)=>dL (mn (oR tz sp) (oR tz sq)) (na j ns ms) |_,_=>0
abbrev _root_.BT:=List Itm
def ce(os:BT)(i:Nat):Itm:=(os[i]?).join
def iF(j tz:Int)(os:BT):Nat->Rat |0=>0 |i+1=>iN j tz (ce os i) (ce os (i+1))
def sB(os:BT)(i:Nat):Option Nat:=(ce os i).map λq=>aF q.1
def dO(j tz:Int)(os:BT):Da:=(List.range (⇑os+1)).map (iF j tz os)
def mI(h:os[i]? =some o):ce os i=o:=by unfold ce;rw[h];rfl
def NH(h:⇑os<=i):ce os i=none:=by unfold ce;rw[nY h];rfl
def vd(j tz:Int)(o:Itm):iN j tz o none=0:=by unfold iN;split<;>simp_all
def En(j tz:Int)(o:Itm):iN j tz none o=0:=by unfold iN;split<;>simp_all
theorem Kd(j tz:Int)(os:BT):∀n,n=⇑os->iF j tz os n=0 |0,_=>rfl |n+1,h=>by show iN j tz (ce os n) (ce os (n+1))=0;rw[NH (i:=n+1) (_S.zj h)];erw[vd _ _ _]
def VP(j tz:Int)(os:BT):⇑(dO j tz os)=os.length+1:=by simp[dO]
def VQ(j tz:Int)(os:BT){i:Nat}(h:i<=⇑os):(dO j tz os)[i]? =some (iF j tz os i):=by unfold dO;rw[bV,bf (by simp;erw[jv h]),zW];rfl
def VR(j tz:Int){os:BT}(h:os≠[]):dO j tz os=[0]++(List.range (⇑os-1)).map (λi=>iF j tz os (i+1))++[0]:=by
 let h0:0<⇑os:=F1.mpr h;apply F3;intro i;by_cases hi:i<=⇑os
 ·rw[VQ j tz os hi]
  rcases Nat.eq_zero_or_pos i with rfl|hp
  ·rfl
  ·by_cases hl:i=⇑os
   ·rw[oX (by simp;lia),hl,Kd j tz os _ rfl]
    have:⇑os-([0]++List.map (λi=>iF j tz os (i+1)) (List.range (⇑os-1))).length=0:=by simp;lia
    rw[this];rfl
   ·rw[nZ (by simp;erw[jv (a1z (nX hi hl))]),oX (by simp;erw[cL (vv _ _) hp]),bV]
    let e:i-[(0:Rat)].length=i-1:=rfl;rw[e,bf (by simp;lia),zW];show some _=some (iF j tz os (i-1+1));rw[Nat.sub_add_cancel hp]
 ·rw[nY (by rw[VP];erw[oW hi]),nY (by simp;lia)]
def pQ(tz sp:Int):0<=oR tz sp:=by
 unfold oR;rw[BN aw,fM,fM,md,kZ];rcases j04 0 (sp*tz)with h|h
 ·erw[fy h h]
 ·erw[OO h h]
def a3t(a:Int):0<=a^2:=by
 rw[fM,fM,md,kZ];rcases j04 0 a with h|h
 ·erw[fy h h]
 ·erw[OO h h]
def afd(h:na j ns ms=some c):0<=c:=by
 unfold na at h;split at h
 ·cases h
 ·next h0=>
  cases h;rw[BN]
  ·erw[a3t _]
  ·rw[fM,fM,md,kZ];erw[eY aE aE]
def ag2(j tz:Int)(o p:Itm):0<=iN j tz o p:=by
 unfold iN;split
 ·next ns sp ms sq=>
  let h:=iq (pQ tz sp) (pQ tz sq);unfold dL;split
  ·erw[h]
  ·next c e=>erw[iq h (afd e)]
 ·erw[fG]
theorem ur(j tz:Int)(os:BT):∀i,0<=iF j tz os i |0=>fG |i+1=>ag2 _ _ _ _
def OkI(o:Itm):Prop:=∀ns sp,o=some (ns,sp)->(∀z∈ns,(z.natAbs:Int)<=100)/\1<=sp/\sp<=20
def Jb{a:Int}{m:Nat}(h:a.natAbs<=m):(a^2).natAbs<=m*m:=by rw[fM,fM,md,kZ];erw[oz h h]
def mZ{tz:Int}(h1:1<=sp)(h2:sp<=20)(h3:10<=tz)(h4:tz<=200):Bd 64 (oR tz sp):=by
 let oJ:(2:Nat)^64=18446744073709551616:=by decide
 let a:=Jb (oz (a:=sp) (b:=tz) (m:=20) (n:=200) (_S.hZ h1 h2 aw) (_S.hZ h3 h4 aw));erw[ny aw (by rw[oJ];erw[kh a aw]) aw]
def Nf(h1:1<=j)(h2:j<=50)(hn:∀z∈ns,(z.natAbs:Int)<=100)(hm:∀z∈ms,(z.natAbs:Int)<=100)(h:na j ns ms=some c):Bd 64 c:=by
 let oJ:(2:Nat)^64=18446744073709551616:=by decide
 let cb:=Hv (λz hz=>by have:=hn z hz;lia) (λz hz=>by have:=hm z hz;lia) (ns:=ns) (ms:=ms);let hb:=sE cb;let l1:=sE (ns:=ns) (m:=100) λz hz=>by have:=hn z hz;lia
 let l2:=sE (ns:=ms) (m:=100) λz hz=>by have:=hm z hz;lia
 unfold na at h;split at h
 ·cases h
 ·next h0=>cases h;let a:=Jb (oz (oz (a:=j) (b:=(aF ns:Int)) (m:=50) (n:=100) (_S.hZ h1 h2 aw) (_S.nM l1 Z)) (b:=(aF ms:Int)) (n:=100) (_S.nM l2 Z));let b:=Jb (a:=(aF (dQ ns ms):Int)) (m:=2000000) (_S.nM hb Z);erw[ny ?_ (by rw[oJ];erw[kh a aw]) (by rw[oJ];erw[kh b aw])];rw[fM,fM,md,kZ];erw[OP aE aE]
def ph{b:Rat}(h1:Bd n a)(h2:Bd n b):Bd n (mn a b):=by rcases qo a b with e|e<;>rw[e]<;>assumption
def OY:Bd 64 (0:Rat):=#[ aw,aw]
def ag4{tz:Int}(h1:1<=j)(h2:j<=50)(h3:10<=tz)(h4:tz<=200)(ho:OkI o)(hp:OkI p):Bd 64 (iN j tz o p):=by
 unfold iN;split
 ·next ns sp ms sq=>
  let(a1,a2,a3):=ho ns sp rfl;let(b1,b2,b3):=hp ms sq rfl;let h:=ph (mZ a2 a3 h3 h4) (mZ b2 b3 h3 h4);unfold dL;split
  ·erw[h]
  ·next c e=>erw[ph h (Nf h1 h2 a1 b1 e)]
 ·erw[OY]
def OkIs(os:BT):Prop:=∀i,OkI (ce os i)
theorem CK{j tz:Int}{os:BT}(h1:1<=j)(h2:j<=50)(h3:10<=tz)(h4:tz<=200)(ho:OkIs os):∀i,Bd 64 (iF j tz os i) |0=>OY |i+1=>ag4 h1 h2 h3 h4 (ho i) (ho (i+1))
end _O
namespace _W
open PySem _L
def nR(pl ns:Ar):Ar:=List.zipWith (λa b=>a+b) pl ns
def zB(h:⇑ns=pl.length):⇑(nR pl ns)=pl.length:=by unfold nR;rw[List.length_zipWith,h];erw[Nat.min_self _]
def NN{pl ns:Ar}{i:Nat}{a b:Int}(h1:pl[i]? =some a)(h2:ns[i]? =some b):(nR pl ns)[i]? =some (a+b):=by unfold nR;rw[List.getElem?_zipWith,h1,h2]
structure mL(rs pl:Ar):Prop where
 len:⇑pl=rs.length
 at':∀(i:Nat)(x r:Int),pl[i]? =some x->rs[i]? =some r->0<=x/\x<=r
end _W
namespace _L
universe PySem
def O2(z:Str):It:=#[λi _=>i<z.cps.size,λi H x H'=>H'=H/\∃c,z.cps.toList[i]? =some c/\x= .str ⟨#[c]⟩,λi _=>z.cps.size<=i]
def a2n{P:ai}{w:World}{K:ag}{tg:Expr}(it:Addr)(z:Str)(t:Tok)(ty:String)(LA:["enumerate","zip","dict_itemiterator","dict_reverseitemiterator","odict_iterator","itertools.zip_longest","itertools.pairwise"].contains ty=false) (W:∀A':ak,A'.handled=none->Walks P w A' it [it] [it] z.cps.size (SignAt z) (λi h=>h.IsStrIter it ty z t i)) (self:∀(A:ak)(i:Nat)(s:ah)(Q:Value->ah->Prop)(E:Value->ah->Prop),s.heap.IsStrIter it ty z t i->Q (.ref it) s->wpAny (model P w) A (pyIter (.ref it)) Q E s): Turn P w K tg (O2 z) [it] it (λi h=>h.IsStrIter it ty z t i/\i<=z.cps.size) where
 mem:=by simp
 obj:=λi h st b hb=>by
  let e:b=it:=by simpa using hb
  subst e;let((o,e,c,d),_):=st;erw[o,e,λv z=>by rw[d]at z;cases z]
 keep:=λi h h' st k=>#[let#[o,e,r]:=st.1;#[o,k it (by simp) o e,r],st.2]
 item:=by intro X hP hw hK hc i ay s O H E I hf st hg;subst hP hw hK;let(f0,f1,f2,f3,f4,f5):=hf it (by simp);refine(W X.A (I.ok.hd hc)).item i s _ _ hg st.1 λv h' tk hv jx kk=>?_;let(c,u,ec,rfl):=hv;let I1:Inv X ay O H {s with heap:=h',toks:=tk}:=I.turned (λb o hb e=>kk b o (by simpa using hb) e) f0 f1 f3 f4 f5;let(o,e,cl,d):=id jx;erw[ww,DP (s:={s with heap:=h',toks:=tk}) e cl d LA #[.str ⟨#[c]⟩,H,I1,#[u,Z],#[Z,c,by simpa using ec,Z],#[jx,hg],λb hb=>(hf b hb).1]]
 done:=by intro X hP hw hK hc i ay s O H E I hf st hg;subst hP hw hK;let(f0,f1,f2,f3,f4,f5):=hf it (by simp);let(st,hle):=st;let ei:i=z.cps.size:=iY hle hg;subst ei;exact(W X.A (I.ok.hd hc)).done s _ _ st λh' tk eb=>#[Z,I.turned (λb o hb e=>eb b o (by simpa using hb) e) f0 f1 f3 f4 f5]
 self:=λA i s Q E st h=>self A i s Q E st.1 h
section
variable {X:Cx} {tg:Expr}
inductive aiO(R:It->Hp->Prop)(x:V)(H1:Hp):Prop |mk z(_:x= .str z)(_:R (O2 z) H1)
def aaB(tl:TE):TI:=λO H R=>tl O H λx H1=>aiO R x H1
def a6E(hl:PE X l tl):PI X tg l (aaB tl):=by
 intro ay s O H R I h;erw[bo (hl ay s O H _ I h) λv s1 #[x,H1,I1,r1,q1]=>?_];let(z,e,q):=q1;subst e;let(t,rfl):=r1;let fin:∀ty,["enumerate","zip","dict_itemiterator","dict_reverseitemiterator","odict_iterator","itertools.zip_longest","itertools.pairwise"].contains ty=false->(∀A':ak,A'.handled=none->Walks X.prog X.w A' s1.heap.objs.size [s1.heap.objs.size] [s1.heap.objs.size] z.cps.size (SignAt z) (λi h=>h.IsStrIter s1.heap.objs.size ty z t i))->(∀(A:ak)(i:Nat)(s:ah)(Q:Value->ah->Prop)(E:Value->ah->Prop),s.heap.IsStrIter s1.heap.objs.size ty z t i->Q (.ref s1.heap.objs.size) s->wpAny (model X.prog X.w) A (pyIter (.ref s1.heap.objs.size)) Q E s)->NX X ay O tg R (.ref s1.heap.objs.size) {s1 with heap:=s1.heap.push {cls:=.type ty,data:=.fields (List.toArray [.str z t,.int 0 0])}}:=λty h1 h2 h3=>by
  erw[s1.heap.objs.size,[s1.heap.objs.size],xz,H1,Z,I1.kept (t':=s1.toks) λb o e=>cR _ e,a2n _ z t ty h1 h2 h3,#[#[_,fX _ Z,wP],fR _],λb hb=>?_,q];let e:b=s1.heap.objs.size:=by simpa using hb
  subst e;erw[I1.wB (aZ _) (I1.bD.fresh (aZ _))]
 cases ha:z.cps.all (·<128)
 ·erw[wpAny_pyIter_wide ha (fin "str_iterator" aw (λA' hA=>Walks.strWide hA _ z t) (λ_ _ _ _ _ st h=>wpAny_pyIter_striter_wide st h))]
 ·erw[wpAny_pyIter_ascii ha (fin "str_ascii_iterator" aw (λA' hA=>Walks.strAscii hA _ z t) (λ_ _ _ _ _ st h=>wpAny_pyIter_striter_ascii st h))]
def afl{D:Addr}(rest:St)(nw:Nw H H0 D (.bi []))(hz:⇑z<=1000) (hs:∀(c:Nat)(H2:Hp)(Q':VK),c∈z.cps.toList->aI H H2->(∀H3,aI H2 H3->Q' (.bl (f c)) H3)->te (some (.str ⟨#[c]⟩)::rest) H2 Q') (hq:∀H',aI H H'->H' D=some (.bi ((z.cps.toList.map f).map V.bl))->Q (.ref D) H'):m6 (O2 z) (iu 0) kJ te Q D (none::rest) H0:=by
 let hl:⇑z.cps.toList=z.cps.size:=by simp
 erw[ZP (xs:=z.cps.toList.map λc=>V.str ⟨#[c]⟩) (bs:=z.cps.toList.map f) rest nw (by simp) (by simpa[Str.length]using hz) ?_ ?_ ?_ hq]
 ·intro i x H2 ex s2
  rw[bV]at ex;cases ec:z.cps.toList[i]? with |none=>rw[ec]at ex;cases ex |some c=>rw[ec]at ex;cases ex;erw[by have:=(ck.mp ec).1;show i<z.cps.size;omega,λy H3 #[e3,c',uW,e]=>#[e3,?_]];rw[ec]at uW;cases uW;erw[e]
 ·intro H2 s2
  show z.cps.size<=⇑(z.cps.toList.map _);rw[bC,hl];erw[aZ _]
 ·intro i x b H2 Q' ex eb s2 jc
  rw[bV]at ex eb;cases ec:z.cps.toList[i]? with |none=>rw[ec]at ex;cases ex |some c=>rw[ec]at ex eb;cases ex;cases eb;erw[hs c H2 Q' (gA ec) s2 jc]
def a7b:eJ X (compareOp .In) (λx y H Q=>∃c j,x= .str ⟨#[c]⟩/\y= .str j/\Q (.bl (decide (c∈j.cps.toList))) H):=by intro ay s O H x y v u Q I rx ry h;let(c,j,rfl,rfl,q):=h;erw[a7a ay s O H _ _ v u Q I rx ry #[wr,?_]];rw[PySem.StrLaws.found_one];erw[q]
inductive aiC(K:ag)(x:V)(y:V)(H:Hp)(Q:VK):Prop |mk p xs d ds(_:y= .ref p)(_:aW K H p xs)(_:RD K H x d)(_:aH K H xs ds)(_:SeqAt.shaped d=true)(_:(∀e∈ds,SeqAt.shaped e=true))(_:Q (.bl (ds.any λe=>PyData.eqv e d)) H)
def a6c(K:ag):R2:=λx y H Q=>aiC K x y H Q
def aax(K:ag)(hK:X.K=K)(hu:X.A.units+65<cLine):eJ X (compareOp .In) (a6c K):=by
 subst hK;intro ay s O H x y v u Q I rx ry h;let(p,xs,d,ds,rfl,hx,hd,wx,sd,sds,q):=h;cases ry;let(its,r,pl,hz):=I.tuple hx;let(k1,k2):=YW I hu rx hd sd r wx sds;erw[SeqAt.in_tupleAt (zk s.heap d) (show s.heap.IsTuple p its.toArray from pl) (λw hw=>k1 w (by simpa using hw)) #[.bl _,H,I,Z,?_]];let e:its.toArray.any (zk s.heap d)=ds.any λe=>PyData.eqv e d:=by rw[<-k2];simp
 rw[e];erw[q]
end
structure MA(K:ag)(C:Addr)(m qual:Str)(st:Stmt):Prop where ex:∃f fd,Meth K C m f/\nU K m qual st f fd
def iA(P:ai)(w:World)(K:ag)(mg:bZ)(aB:Heap)(C:Addr)(m:Str)(k:Nat)(sp:Sp):Prop:=∃f fd ps,iX P w K mg aB je k f fd ps sp/\Meth K C m f/\Binds K fd ps []
structure CA(K:ag)(mg:bZ)(C:Addr)(x qual:Str)(st:Stmt):Prop where
 mgC:mg x=some (.ref C)
 ex:∃f fd,Mk K C f/\nU K "__init__" qual st f fd
def O0(P:ai)(w:World)(K:ag)(mg:bZ)(aB:Heap)(C:Addr)(x:Str)(k:Nat)(sp:Sp):Prop:=∃f fd ps,iX P w K mg aB je k f fd ps sp/\Mk K C f/\Binds K fd ps []/\mg x=some (.ref C)
section
variable {P:ai}{w:World}{K:ag}{mg:bZ}{aB:Heap}
def jT{C:Addr}{m qual:Str}{st:Stmt}{f:Addr}{oc:Value}{od an:Option Addr}{gN:Array (Option Value)}{kV doc pm aO ct:Value} (a:W.findIn K (.ref C) m=some (some (.ref f)))(i:W.isFn K (.ref f)=true) (l:K.lookup f=some #[oc,od,.func (W.fnOf m qual (nP st) (iK st) (aY st) .none kV doc pm an aO ct),gN]) (c:W.codeIn K aO qual=true)(k:W.keepIn K (.ref f)=true):MA K C m qual st:=#[f,_,#[a,i,k],Hg l c k]
def afO{h:Heap}{C:Addr}{x qual:Str}{st:Stmt}{f:Addr}{oc:Value}{od an:Option Addr}{gN:Array (Option Value)}{kV doc pm aO ct:Value}(X:K.In h)(G:h.Ns mainGlobals mg) (aC:W.nsIn K mainGlobals x=some (some (.ref C)))(mk:W.makesIn K C=true)(kc:W.keepIn K (.ref C)=true) (a:W.findIn K (.ref C) "__init__"=some (some (.ref f)))(i:W.isFn K (.ref f)=true) (l:K.lookup f=some #[oc,od,.func (W.fnOf "__init__" qual (nP st) (iK st) (aY st) .none kV doc pm an aO ct),gN]) (c:W.codeIn K aO qual=true)(k:W.keepIn K (.ref f)=true):CA K mg C x qual st:=#[zQ X G aC,f,_,#[mk,a,i,kc],Hg l c k]
def MA.has{C:Addr}{m qual:Str}{st:Stmt}{N ps:Ch}{k:Nat}{sp:Sp}(F:MA K C m qual st)(S:bA N ps (aY st))(len:∀vs H Q E,sp vs H Q E->⇑vs=ps.length) (hb:∀(kV doc pm:Value)(an:Option Addr)(aO ct:Value)(us:BY),⇑us=ps.length->bindArgs (W.fnOf m qual (nP st) (iK st) (aY st) .none kV doc pm an aO ct) #[us,[]]=pure (ps.zip us)) (jV:∀(f:Addr)(aO:Value)(A:ak)(outer:Cl)(s:ah)(H:Hp)(vs:AT)(Q:VK)(E:XK),dI k (A.deeper (envOfC qual (aY st) s.heap.objs.size f aO))->sp vs H Q E->∃t,iW (jY je P w K mg aB N qual (aY st) f aO A outer s H E).ux (iK st) t/\t {nx:=λ_ H'=>Q .bP H',rt:=Q} (start N vs) H):iA P w K mg aB C m (k+1) sp:=by let(f,fd,hm,F):=F.ex;erw[f,fd,ps,F.ok S len λaO A outer s H vs Q E=>jV f aO A outer s H vs Q E,hm,F.binds hb]
def CA.has{C:Addr}{x qual:Str}{st:Stmt}{N ps:Ch}{k:Nat}{sp:Sp}(F:CA K mg C x qual st)(S:bA N ps (aY st))(len:∀vs H Q E,sp vs H Q E->⇑vs=ps.length) (hb:∀(kV doc pm:Value)(an:Option Addr)(aO ct:Value)(us:BY),⇑us=ps.length->bindArgs (W.fnOf "__init__" qual (nP st) (iK st) (aY st) .none kV doc pm an aO ct) #[us,[]]=pure (ps.zip us)) (jV:∀(f:Addr)(aO:Value)(A:ak)(outer:Cl)(s:ah)(H:Hp)(vs:AT)(Q:VK)(E:XK),dI k (A.deeper (envOfC qual (aY st) s.heap.objs.size f aO))->sp vs H Q E->∃t,iW (jY je P w K mg aB N qual (aY st) f aO A outer s H E).ux (iK st) t/\t {nx:=λ_ H'=>Q .bP H',rt:=Q} (start N vs) H):O0 P w K mg aB C x (k+1) sp:=by let(f,fd,hm,F'):=F.ex;erw[f,fd,ps,F'.ok S len λaO A outer s H vs Q E=>jV f aO A outer s H vs Q E,hm,F'.binds hb,F.mgC]
end
section
variable {X:Cx}{k:Nat}{x m:Str}{C:Addr}{p pos apos:Pos}{o e:Expr}{es:Cn}{t:TA}{ta:TE}{sp:Sp}
inductive a0S(C:Addr)(m:Str)(sp:Sp)(t:TA)(O:St)(Q:VK)(x:V)(H1:Hp):Prop |mk a dx fs(_:x= .ref a)(_:H1 a=some (.ins C dx fs))(_:fs.lookup m=none)(_:t O H1 λvs H2=>sp (x::vs) H2 Q E0)
def PC(C:Addr)(m:Str)(sp:Sp)(ta:TE)(t:TA):TE:=λO H Q=>ta O H λx H1=>a0S C m sp t O Q x H1
def WV{O:St}{Q:VK}{x:V}{H1:Hp}:HS C m sp [] E0 t O Q x H1=a0S C m sp t O Q x H1:=by
 let e1:(λ(vs:AT) H1=>sp (x::(vs++[])) H1 Q E0)=λvs H1=>sp (x::vs) H1 Q E0:=by funext vs H1;rw[o8]
 erw[propext #[λ#[a,dx,fs,h0,h1,h2,h3]=>#[a,dx,fs,h0,h1,h2,?_],λ#[a,dx,fs,h0,h1,h2,h3]=>#[a,dx,fs,h0,h1,h2,?_]]]
 ·rw[<-e1];erw[h3]
 ·rw[e1];erw[h3]
def uk(F:iA X.prog X.w X.K X.mg X.aB C m k sp)(c:nV X.K C)(hr:dI k X.A)(he:PE X o ta)(ha:PA X (e::es) t) (iI:↥(starEach (e::es) X.env=(false,eval e X.env)::starEach es X.env))(ib:↥((backTo pos (starEach es X.env)).any (·.1)=false)) (ht:↥(eval (.Call (.Attribute o m apos) (e::es) [] pos) X.env=(do
 let ov<-eval o X.env
 standAt apos.atName
 let(f,first)<-holding [ov] (getMethod ov m pl)
 callWith pos f first (backTo pos (starEach (e::es) X.env)) (backToKw pos (keywordEach [] X.env))))): PE X (.Call (.Attribute o m apos) (e::es) [] pos) (PC C m sp ta t):=by
 let(f,fd,ps,F,hm,hb):=F;let h:=a6L (pos:=pos) (apos:=apos) (pl:=pl) he c hm F hr hb .nil Gh ha iI ib ht;intro ay s O H Q I hq;erw[h ay s O H Q I ?_];show ta O H λx H1=>HS C m sp [] E0 t O Q x H1;simp only[WV];erw[hq]
def nv(F:iA X.prog X.w X.K X.mg X.aB C m k sp)(c:nV X.K C)(hr:dI k X.A)(he:PE X o ta) (ht:↥(eval (.Call (.Attribute o m apos) [] [] pos) X.env=(do
 let ov<-eval o X.env
 standAt apos.atName
 let(f,first)<-holding [ov] (getMethod ov m pl)
 callWith pos f first (backTo pos (starEach [] X.env)) (backToKw pos (keywordEach [] X.env))))): PE X (.Call (.Attribute o m apos) [] [] pos) (PC C m sp ta A8):=by
 let(f,fd,ps,F,hm,hb):=F;let h:=a6K (pos:=pos) (apos:=apos) (pl:=pl) he c hm F hr hb .nil Gh ht;intro ay s O H Q I hq;erw[h ay s O H Q I ?_];show ta O H λx H1=>HS C m sp [] E0 A8 O Q x H1;simp only[WV];erw[hq]
def tMk(C:Addr)(sp:Sp)(t:TA):TE:=λO H Q=>t O H λvs H1=>∀x dx,H1 x=none->H1 dx=none->dx≠x->sp (.ref x::vs) (bn (bn H1 dx (.own x)) x (.ins C dx [])) (λv H2=>v= .bP/\Q (.ref x) H2) E0
def a6J(F:O0 X.prog X.w X.K X.mg X.aB C x k sp)(hr:dI (k+1) X.A)(hg:Gl X x)(ha:PA X (e::es) t)(jU: ~~~((x==("__debug__":Str))=false)) (he:↥(starEach (e::es) X.env=(false,eval e X.env)::starEach es X.env))(ib:↥((backTo pos (starEach es X.env)).any (·.1)=false)): PE X (.Call (.Name x p) (e::es) [] pos) (tMk C sp t):=by
 let(f,fd,ps,F,M,hb,hm):=F;let h:=a6M (pos:=pos) (p:=p) M F hr hg hm hb .nil Gh ha jU he ib;intro ay s O H Q I hq;erw[h ay s O H Q I ?_];let e1:(λ(vs:AT) H1=>∀x dx,H1 x=none->H1 dx=none->dx≠x->sp (.ref x::(vs++[])) (bn (bn H1 dx (.own x)) x (.ins C dx [])) (λv H2=>v= .bP/\Q (.ref x) H2) E0) =λvs H1=>∀x dx,H1 x=none->H1 dx=none->dx≠x->sp (.ref x::vs) (bn (bn H1 dx (.own x)) x (.ins C dx [])) (λv H2=>v= .bP/\Q (.ref x) H2) E0:=by funext vs H1;rw[o8]
 show t O H λvs H1=>∀x dx,H1 x=none->H1 dx=none->dx≠x->sp (.ref x::(vs++[])) (bn (bn H1 dx (.own x)) x (.ins C dx [])) (λv H2=>v= .bP/\Q (.ref x) H2) E0;rw[e1];erw[hq]
inductive IAt(C:Addr)(x:Str)(Q:VK)(v:V)(H1:Hp):Prop |mk (a dx:Addr)(fs:List (Str×V))(u:V)(_:v= .ref a)(_:H1 a=some (.ins C dx fs))(_:fs.lookup x=some u)(_:Q u H1)
def dZ(T:nV X.K C)(hn:kU X.K C x)(he:PE X e ta)(hb:↥(attributeBase e x X.env (eval e X.env)=eval e X.env)): PE X (.Attribute e x pos) (λO H Q=>ta O H λv H1=>IAt C x Q v H1):=by intro ay s O H Q I h;erw[a0p hb (bo (he ay s O H _ I h) λu s1 #[v,H1,I1,rx,a,dx,fs,w,ex,ea,l,q]=>?_)];subst ex;obtain rfl:u=Value.ref a:=rx;erw[Yo I1 ea T hn l λu' s2 I2 ru=>#[w,H1,I2,ru,q]]
inductive aiW(C:Addr)(x:Str)(D:Ends)(O:St)(y v:V)(H2:Hp):Prop |mk (a dx:Addr)(fs:List (Str×V))(_:v= .ref a)(_:H2 a=some (.ins C dx fs))(_:⇑fs<1000)(_:D.nx O (bn H2 a (.ins C dx (jh x y fs))))
inductive aiX(C a:Addr)(x:Str)(D:Ends)(O:St)(z:V)(H3:Hp):Prop |mk (qN:Addr)(mF:List (Str×V))(_:H3 a=some (.ins C qN mF))(_:⇑mF<1000)(_:D.nx O (bn H3 a (.ins C qN (jh x z mF))))
inductive aiY(C:Addr)(x:Str)(tv:TE)(rd:V->V->Hp->VK->Prop)(D:Ends)(O:St)(v:V)(H1:Hp):Prop |mk (a dx:Addr)(fs:List (Str×V))(u:V)(_:v= .ref a)(_:H1 a=some (.ins C dx fs))(_:fs.lookup x=some u)(_:tv O H1 λy H2=>rd u y H2 λz H3=>aiX C a x D O z H3)
def jR(T:nV X.K C)(hn:kU X.K C x)(ha:PE X o ta)(hv:PE X value tv)(hs:↥(swapsWith value (some (.Attribute o x pos')) pos.line X.env=pure false)): PS X (.Assign [.Attribute o x pos'] value pos) (λD O H=>tv O H λy H1=>ta O H1 λv H2=>aiW C x D O y v H2):=by intro ay s O H D I h;erw[a1f (bo (hv ay s O H _ I h) λu s1 #[y,H1,I1,ry,q]=>bo (ha ay s1 O H1 _ I1 q) λov s2 #[v,H2,I2,rx,a,dx,fs,ex,ea,l,q2]=>?_) hs];subst ex;obtain rfl:ov=Value.ref a:=rx;erw[QC I2 ea T hn l ry λs3 I3=>#[O,_,I3,q2]]
def a6t{rd:V->V->Hp->VK->Prop}(T:nV X.K C)(hn:kU X.K C x)(ha:PE X o ta)(hv:PE X value tv)(hop:aiK X op rd): PS X (.AugAssign (.Attribute o x vC) op value pos) (λD O H=>ta O H λv H1=>aiY C x tv rd D O v H1):=by intro ay s O H D I h;erw[wpAny_AugAssign_AttributeAny (bo (ha ay s O H _ I h) λov s1 #[v,H1,I1,rx,a,dx,fs,u,ex,ea,l,q]=>?_)];subst ex;obtain rfl:ov=Value.ref a:=rx;erw[Yo I1 ea T hn l λu s2 I2 ru=>bo (hv ay s2 O H1 _ I2 q) λw3 s3 #[y,H2,I3,ry,q3]=>bo (hop ay s3 O H2 _ y u w3 _ I3 ru ry q3) λw4 s4 #[z,H3,I4,rz,qN,mF,oN,l',q4]=>?_,B,QC I4 oN T hn l' rz λs5 I5=>#[O,_,I5,q4]]
end
def eF(S:DO)(H H':Hp):Prop:=∀b o,H b=some o->b∉S->H' b=some o
def eF.refl(S:DO)(H:Hp):eF S H H:=λ_ _ e _=>e
def eF.of(s:aI H H'):eF S H H':=λb o e _=>s b o e
def eF.ao(a:eF S H H1)(b:eF S H1 H2):eF S H H2:=λc o e n=>b c o (a c o e n) n
def eF.sK(h:∀x,x∈S->x∈S')(a:eF S H H1):eF S' H H1:=λc o e n=>a c o e λz=>n (h c z)
def HB(h:a∈S):eF S H (bn H a o):=λb o' e n=>by let hb:b≠a:=λz=>n (by rw[z];erw[h]);rw[aU hb];erw[e]
def O7:HO->Prop | .bi _=>True | .ins _ _ _=>True | .dK _=>True | .uc _=>True |_=>False
def dG(H H':Hp):Prop:=∀b o,¬O7 o->H b=some o->H' b=some o
section
variable {K:ag} {H H' H2:Hp}
def dG.refl:dG H H:=λ_ _ _ e=>e
def dG.ao(a:dG H H')(b:dG H' H2):dG H H2:=λc o n e=>b c o n (a c o n e)
def fw.v(s:fw H H'):dG H H':=λb o n e=>s b o (λxs z=>n (by rw[z];trivial)) e
def aI.v(s:aI H H'):dG H H':=λb o _ e=>s b o e
def eF.v(s:eF S H H')(h:∀x∈S,∀o,H x=some o->O7 o):dG H H':=λb o n e=>s b o e λz=>n (h b z o e)
theorem dG.bn(h:H a=some o)(m:O7 o):dG H (bn H a o'):=λb p n e=>by
 let hb:b≠a:=λz=>by rw[z,h]at e;cases e;erw[n m]
 rw[aU hb];erw[e]
def aW.v(s:dG H H')(h:aW K H a xs):aW K H' a xs:=h.imp (λr=>r.imp (s _ _ (λz=>z)) λ#[o,e]=>#[o,s _ _ (λz=>z) e]) id
mutual
theorem RD.v(s:dG H H'):∀{x:V}(d:aj),eH d=true->RD K H x d->RD K H' x d |x,.none,_,h=>by simpa[RD]using h |x,.bool b,_,h=>by simpa[RD]using h |x,.int i,_,h=>by simpa[RD]using h |x,.str y,_,h=>by simpa[RD]using h |x,.list ds,n,h=>by simp[eH]at n |x,.tuple ds,n,h=>by rw[RD]at h⊢;let(a,xs,e,h1,h2):=h;erw[a,xs,e,h1.v s,aH.v s ds (by simpa[eH]using n) h2] |x,.dict _,_,h=>by simp[RD]at h
theorem aH.v (s:dG H H'):∀{xs:List V}(ds:List aj),bR ds=true->aH K H xs ds->aH K H' xs ds |xs,[],_,h=>by simpa[aH]using h |xs,d::ds,n,h=>by rw[aH]at h⊢;rw[bR,gU]at n;let(y,ys,e,h1,h2):=h;erw[y,ys,e,RD.v s d n.1 h1,aH.v s ds n.2 h2]
end
end
abbrev lU(elt tg iter gB gc:Expr)(scope:Scope)(pos:Pos):Expr:=.ListComp elt [#[tg,iter,[],0],#[gB,gc,[],0]] scope pos
theorem afp(elt tg iter gB gc:Expr)(scope:Scope)(pos:Pos)(it acc:Value)(env:Env): compTurn (lU elt tg iter gB gc scope pos) 0 it acc env=(do standAt iter.pos match<-pyNext it with
 |none=>pure (.done .next) |some v=>
  letOwnedTupleGo tg it v
  assign tg env v
  let mut ok:=true
  for c in([]:Cn) do if ok then ok<-isTrue c env (eval c env)
  if ok then
   let x<-eval gc env
   standAt gc.pos
   let x<-foldedSetIterable gc env x
   let _<-runOwn (.compStart (lU elt tg iter gB gc scope pos) 1 (<-holding [x] (pyIter x)) acc env) env
  again (.compLoop (lU elt tg iter gB gc scope pos) 0 it acc env)):=by rfl
theorem afo(elt tg iter gB gc:Expr)(scope:Scope)(pos:Pos)(it acc:Value)(env:Env): compTurn (lU elt tg iter gB gc scope pos) 1 it acc env=(do standAt gc.pos match<-pyNext it with
 |none=>pure (.done .next) |some v=>
  letOwnedTupleGo gB it v
  assign gB env v
  (do let _<-call (.builtin "list.append") [acc,<-eval elt env])
  again (.compLoop (lU elt tg iter gB gc scope pos) 1 it acc env)):=by rfl
section
variable {prog:ai}{w:World}{A:ak}{R:Result->ah->Prop}{s:ah}{elt tg iter gB gc:Expr}{scope:Scope}{pos:Pos}{it acc:Value}{env:Env}
theorem afr(I:Nat->ah->Prop) (turn:∀n s,I n s->wpAny (model prog w) A (pyNext it) (λr s₁=>match r with |none=>R (.ok .next) s₁ |some v=>wpAny (model prog w) A (letOwnedTupleGo gB it v) (λ_ s₁=>wpAny (model prog w) A (assign gB env v) (λ_ s₂=>wpAny (model prog w) A (eval elt env) (λx s₄=>wpAny (model prog w) A (call (.builtin "list.append") [acc,x]) (λ_ s₅=>∃m,m<n/\I m s₅) (λ_ _=>False) s₄) (λ_ _=>False) s₂) (λ_ _=>False) s₁) (λ_ _=>False) s₁) (λ_ _=>False) s) (n:Nat)(h:I n s):codeAny (model prog w) A (.compLoop (lU elt tg iter gB gc scope pos) 1 it acc env) R s:=by erw[codeAny_loop Z I (λn s hI=>?_) n h];show wpAny _ A ((compTurn (lU elt tg iter gB gc scope pos) 1 it acc env).onRaise (λx=>do noteFrame x env;theTreesLotGoes x)) _ _ s;erw[wpAny_noted ?_];rw[afo];erw[aL (tJ (aL (gr (turn n s hI) (λr s₁ h₁=>?_) λ_ _ h'=>h'.elim)))];cases r with |none=>erw[bU h₁] |some v=>erw[aL (gr h₁ (λ_ PQ h₁=>?_) λ_ _ h'=>h'.elim),B,aL (gr h₁ (λ_ s₂ h₂=>?_) λ_ _ h'=>h'.elim),B,aL (aL (gr h₂ (λx s₄ h₄=>aL (gr h₄ (λ_ s₅ h₅=>bU (bU #[Z,h₅])) λ_ _ h'=>h'.elim)) λ_ _ h'=>h'.elim))]
def afq(h0:codeAny (model prog w) A (.compLoop (lU elt tg iter gB gc scope pos) 1 it acc env) R s) (h:wpAny (model prog w) A (pyIter it) (λXI s'=>codeAny (model prog w) A (.compLoop (lU elt tg iter gB gc scope pos) 1 XI acc env) R s') (notedBy (model prog w) A env λx s'=>R (.error x) s') s): codeAny (model prog w) A (.compStart (lU elt tg iter gB gc scope pos) 1 it acc env) R s:=by
 erw[SB ?_];show wpAny _ _ ((compStart (lU elt tg iter gB gc scope pos) 1 it acc env).onRaise (λx=>do noteFrame x env;standAt theWindowsPlace)) _ _ s;erw[wpAny_notedAt ?_];unfold compStart;show wpAny _ _ (ask>>=_) _ _ s;erw[aL (wpAny_askSetting (wpAny_ite ?_))];split
 ·first |erw[aL (bU (bU (And.intro Z h0)))] |erw[bU (And.intro Z h0)]
 ·first |erw[aL (EO (aL (tJ (aL (gr h (λXI s' h'=>bU #[Z,h']) λ_ _ h'=>h')))))]
theorem afs(I:Nat->ah->Prop)(kC:∀x,foldedSetIterable gc env x=pure x) (turn:∀n s,I n s->wpAny (model prog w) A (pyNext it) (λr s₁=>match r with |none=>R (.ok .next) s₁ |some v=>wpAny (model prog w) A (letOwnedTupleGo tg it v) (λ_ s₁=>wpAny (model prog w) A (assign tg env v) (λ_ s₂=>wpAny (model prog w) A (eval gc env) (λx s₃=>wpAny (model prog w) A (pyIter x) (λGL s₄=>codeAny (model prog w) A (.compStart (lU elt tg iter gB gc scope pos) 1 GL acc env) (λr s₅=>match r with| .ok _=>∃m,m<n/\I m s₅| .error _=>False) s₄) (λ_ _=>False) s₃) (λ_ _=>False) s₂) (λ_ _=>False) s₁) (λ_ _=>False) s₁) (λ_ _=>False) s) (n:Nat)(h:I n s):codeAny (model prog w) A (.compLoop (lU elt tg iter gB gc scope pos) 0 it acc env) R s:=by erw[codeAny_loop Z I (λn s hI=>?_) n h];show wpAny _ A ((compTurn (lU elt tg iter gB gc scope pos) 0 it acc env).onRaise (λx=>do noteFrame x env;theTreesLotGoes x)) _ _ s;erw[wpAny_noted ?_];rw[afp];erw[aL (tJ (aL (gr (turn n s hI) (λr s₁ h₁=>?_) λ_ _ h'=>h'.elim)))];cases r with |none=>erw[bU h₁] |some v=>erw[aL (gr h₁ (λ_ PQ h₁=>?_) λ_ _ h'=>h'.elim),B,aL (gr h₁ (λ_ s₂ h₂=>?_) λ_ _ h'=>h'.elim),B,aL (j0d ?_)];simp only[xk];erw[aL (gr h₂ (λx s₃ h₃=>?_) λ_ _ h'=>h'.elim),B,aL (tJ (aL (BM (kC x) (aL (oU (gr h₃ (λGL s₄ h₄=>?_) λ_ _ h'=>h'.elim)))))),B,aL (wpAny_runOwn (zO h₄ λr s₅ h₅=>?_))];cases r with |error e=>erw[h₅.elim] |ok f=>erw[bU #[Z,h₅]]
end
def aiJ(J:It)(g:TG)(te:TE)(D:Addr)(R:St->Hp->Prop)(O:St)(H:Hp):Prop:=∃W:Nat->Nat->St->Hp->Prop,(∃m,W 0 m O H)/\∀i m σ' H',W i m σ' H'->(J.stop i H'/\R σ' H')\/(J.go i H'/\∀x H2,J.kI i H' x H2->g x σ' H2 λσ3 H3=>te σ3 H3 λy H5=>∃ys,H5 D=some (.bi ys)/\⇑ys<sizeLine/\∃m',m'<m/\W (i+1) m' σ3 (bn H5 D (.bi (ys++[y]))))
def a0Z(J:It)(g:TG)(tX:TI)(g2:TG)(te:TE)(Q:VK)(D:Addr)(O:St)(H:Hp):Prop:=∃W:Nat->Nat->St->Hp->Prop,(∃m,W 0 m O H)/\∀i m σ' H',W i m σ' H'->(J.stop i H'/\Q (.ref D) H')\/(J.go i H'/\∀x H2,J.kI i H' x H2->g x σ' H2 λσ3 H3=>tX σ3 H3 λJ2 H4=>aiJ J2 g2 te D (λσ5 H5=>∃m',m'<m/\W (i+1) m' σ5 H5) σ3 H4)
def a38(js:List (Option Nat))(wi:TI)(g:TG)(tX:TI)(g2:TG)(te:TE):TE:=λO H Q=>wi O H λJ H1=>∀D H2,Nw H1 H2 D (.bi [])->a0Z J g tX g2 te Q D (stC js O) H2
set_option maxHeartbeats 1000000 in
def a6Q{X:Cx}{N:Ch}{js:List (Option Nat)}{elt tg iter gB gc:Expr}{scope:Scope}{pos:Pos}{wi:TI}{g:TG}{tX:TI}{g2:TG}{te:TE}(hc:X.calm=true)(hN:Ej X N js scope=true)(hS:wQ X scope=true) (hi:PI X tg iter wi)(hg:∀cl s H fp ay,PG (dR X N scope cl s H fp ay) tg g)(uN:∀cl s H fp ay,PI (dR X N scope cl s H fp ay) gB gc tX)(hg2:∀cl s H fp ay,PG (dR X N scope cl s H fp ay) gB g2)(he:∀cl s H fp ay,PE (dR X N scope cl s H fp ay) elt te) (hs:↥(↥(∀x,foldedSetIterable iter X.env x=pure x)))(kC:∀env x,foldedSetIterable gc env x=pure x:=by intro _ _;rfl):PE X (.ListComp elt [#[tg,iter,[],0],#[gB,gc,[],0]] scope pos) (a38 js wi g tX g2 te):=by
 intro ay s O H Q I h;let qC:=hS;unfold wQ at qC;rw[gU,gU]at qC;let((k1,k2),k3):=qC;let nJ:scope.kind= .function:=gf.mp k1;let wu:∀x∈scope.names,x.2= .free->∃c,X.env.cells.lookup x.1=some c:=λx hx e=>by have:=jw.mp k3 x hx;rw[e]at this;erw[I.ok.has x.1 (.inl (gf.mp this))]
 let sL:∀x∈scope.names,x.2≠ .cell:=λx hx e=>by have:=jw.mp k3 x hx;rw[e]at this;erw[ko this]
 let DD:∀x∈scope.names,x.2= .local->scope.names.lookup x.1=some .local:=λx hx e=>by have:=jw.mp k3 x hx;rw[e]at this;erw[gf.mp this]
 let(cl,DJ,c1,c2):=Ni wu;rw[eval_ListComp];erw[a1e (use:=none) Z hs DJ nJ DD (bo (hi ay s O H _ I h) λv s1 h1=>bo h1 λDt s2 h2=>?_)];let(it,fp,tn,J,H2,e,I2,T,rK,f2,h2):=h2;subst e;let hD:H2 s2.heap.objs.size=none:=I2.bD.fresh (aZ _);let(W,(m0,w0),turn):=h2 _ _ (Nw.of hD);erw[tK (a1d sL (by intro y hy;simp at hy) (λh₁ wj we=>?_) nJ)];let qH:∀b∈fp,b<s2.heap.objs.size:=λb hb=>by let(o,e,_):=T.obj _ _ rK b hb;erw[cP e]
 let I3:Inv X ay O (bn H2 s2.heap.objs.size (.bi [])) {s2 with heap:=s2.heap.push {cls:=.type "list",dict:=none,data:=.seq ([]:BY).toArray}}:=I2.GC (its:=[]) (t':=s2.toks) .nil (fR _);generalize wz:s2.heap.push {cls:=.type "list",dict:=none,data:=.seq ([]:BY).toArray}=h3 at I3 wj we;let vE:h3.objs.size=s2.heap.objs.size+1:=by rw[<-wz,tR]
 let Dr:∀b o,s2.heap.get? b=some o->h3.get? b=some o:=λb o e=>by rw[<-wz];erw[cR _ e]
 let f3:∀b∈fp,m5 X ay (bn H2 s2.heap.objs.size (.bi [])) b:=λb hb=>#[by rw[aU (fo (qH b hb))];exact(f2 b hb).1,(f2 b hb).2];let wc:∀b o,h3.get? b=some o->h₁.get? b=some o:=λb o e=>(we.2 b (fo (cP e))).ao (cR _ e);let I4:Inv (dR X N scope cl {s2 with heap:=h3} (bn H2 s2.heap.objs.size (.bi [])) fp ay) [] (stC js O) (bn H2 s2.heap.objs.size (.bi [])) {s2 with heap:=h₁,toks:=s2.toks+⇑([]:List (Str×Value))}:=I3.comp (s:={s2 with heap:=h3}) hN hS c1 c2 f3 (λb hb=>by show b<h3.objs.size;rw[vE];erw[EY (qH b hb)]) (by simpa using wj) wc;let vF:tn 0 h₁:=T.keep _ _ _ rK λb _ o e=>wc b o (Dr b o e);let loop:codeAny (model X.prog X.w) X.A (.compLoop (lU elt tg iter gB gc scope pos) 0 (.ref it) (.ref s2.heap.objs.size) (compEnvC scope cl h3.objs.size X.env)) (compPost (model X.prog X.w) X.A X.xe none (EP X ay O Q) (.ref s2.heap.objs.size) h3.objs.size) {s2 with heap:=h₁,toks:=s2.toks+⇑([]:List (Str×Value))}:=by
  erw[afs (λn s'=>∃i σ' H',Inv (dR X N scope cl {s2 with heap:=h3} (bn H2 s2.heap.objs.size (.bi [])) fp ay) [] σ' H' s'/\tn i s'.heap/\(∀b∈fp,H' b=none)/\W i n σ' H') (kC _) ?_ m0 #[0,xz,I4,vF,λb hb=>(f3 b hb).1,w0]];rintro n s5 ⟨i,σ5,H5,I5,p4,sP,w5⟩;let me:∀{H':Hp},(∀b∈fp,H' b=none)->∀b∈fp,m5 (dR X N scope cl {s2 with heap:=h3} (bn H2 s2.heap.objs.size (.bi [])) fp ay) [] H' b:=λ{H'} hn b hb=>by
   let(_,q1,q2,q3,q4,q5):=f3 b hb;erw[hn b hb,λz=>?_,I4.ok.sT b hb,.inl hb,λx c e=>q4 x c (c1 x c e),λp hp=>q5 p (by simpa[dR]using hp)];let bu:b<h3.objs.size:=by rw[vE];erw[EY (qH b hb)]
   erw[fo bu z]
  rcases turn i n σ5 H5 w5 with⟨stop,qn⟩|⟨go,step⟩
  ·erw[bo (T.done (dR X N scope cl {s2 with heap:=h3} (bn H2 s2.heap.objs.size (.bi [])) fp ay) rfl rfl rfl hc i [] s5 σ5 H5 _ I5 (me sP) p4 stop) λr s6 #[hr,I6]=>?_]
   subst hr;let(m,hm,_):=I6.loc;erw[m,hm,λh7 uJ=>?_];let u0:Un (gG X.stack) fp (bn H2 s2.heap.objs.size (.bi [])) H5 h3 s6.heap:=I6.aB;let ne:∀b o,h3.get? b=some o->b≠h3.objs.size:=λb o e=>fo (cP e);let u:Un (gG X.stack) fp (bn H2 s2.heap.objs.size (.bi [])) H5 h3 h7:=#[λb o e n hb hx=>(uJ.2 b (ne b o e)).ao (u0.keep b o e n hb hx),λb o e n hb hx=>let#[sl,q]:=u0.slot b o e n hb hx;#[sl,(uJ.2 b (ne b o e)).ao q],u0.free,λb o e hx=>let#[o',q]:=u0.there b o e hx;#[o',(uJ.2 b (ne b o e)).ao q],u0.mY,u0.mG,u0.ng];let I7:Inv X ay O H5 {s6 with heap:=h7}:=I3.Em (s':={s6 with heap:=h7}) (ch:=fp) I6.os u (I6.bD.but I6.free uJ) I6.bare λb hb=>#[(f3 b hb).2.2.2.1,(f3 b hb).2.1,(f3 b hb).2.2.2.2.1,(f3 b hb).2.2.2.2.2];erw[.ref s2.heap.objs.size,H5,I7,Z,qn]
  ·erw[bo (T.item (dR X N scope cl {s2 with heap:=h3} (bn H2 s2.heap.objs.size (.bi [])) fp ay) rfl rfl rfl hc i [] s5 σ5 H5 _ I5 (me sP) p4 go) λr s6 #[u,hr,h6]=>?_]
   subst hr;erw[bo h6 λ_ s7 #[x,H7,I7,r7,y7,om,DT]=>?_];let EJ:=I7.pinned (me DT) (T.obj _ _ om);erw[bo (hg _ _ _ _ _ _ s7 σ5 H7 x u _ EJ r7 (step x H7 y7)) λ_ s8 #[σ8,H8,I8,q8]=>?_];let again:∀{s':ah}{σ7:St}{H7:Hp},Inv (dR X N scope cl {s2 with heap:=h3} (bn H2 s2.heap.objs.size (.bi [])) fp ay) ([]++uj fp s7.heap) σ7 H7 s'->(∃m',m'<n/\W (i+1) m' σ7 H7)->∃m,m<n/\∃i σ' H',Inv (dR X N scope cl {s2 with heap:=h3} (bn H2 s2.heap.objs.size (.bi [])) fp ay) [] σ' H' s'/\tn i s'.heap/\(∀b∈fp,H' b=none)/\W i m σ' H':=λ{s' σ7 H7} J7 n7=>by let(m',hm,w7):=n7;erw[m',hm,i+1,σ7,H7,J7.xI,T.keep _ _ _ om λb hb o e=>(J7.pin (b,o) (iZ _ (iZ _ (sr hb e)))).1,λb hb=>?_,w7];let(o,e,d):=T.obj _ _ om b hb;exact(J7.pin (b,o) (iZ _ (iZ _ (sr hb e)))).2.1
   erw[bo (uN _ _ _ _ _ _ s8 σ8 H8 _ I8 q8) λv9 s9 h9=>bo h9 λajU mj sM=>?_];let(GL,M8,tn2,J2,jK,e2,xg,T2,Q9,Bn,V,(k0,v0),a2s):=sM;subst e2;let J6:∀{H':Hp},(∀b∈M8,H' b=none)->∀b∈M8,m5 (dR X N scope cl {s2 with heap:=h3} (bn H2 s2.heap.objs.size (.bi [])) fp ay) ([]++uj fp s7.heap) H' b:=λ{H'} hn b hb=>#[hn b hb,(Bn b hb).2];let Xh:codeAny (model X.prog X.w) X.A (.compLoop (lU elt tg iter gB gc scope pos) 1 (.ref GL) (.ref s2.heap.objs.size) (compEnvC scope cl h3.objs.size X.env)) (λr s₅=>match r with| .ok _=>∃m,m<n/\∃i σ' H',Inv (dR X N scope cl {s2 with heap:=h3} (bn H2 s2.heap.objs.size (.bi [])) fp ay) [] σ' H' s₅/\tn i s₅.heap/\(∀b∈fp,H' b=none)/\W i m σ' H'| .error _=>False) mj:=by
    erw[afr (λk s'=>∃i σ' H',Inv (dR X N scope cl {s2 with heap:=h3} (bn H2 s2.heap.objs.size (.bi [])) fp ay) ([]++uj fp s7.heap) σ' H' s'/\tn2 i s'.heap/\(∀b∈M8,H' b=none)/\V i k σ' H') ?_ k0 #[0,xz,xg,Q9,λb hb=>(Bn b hb).1,v0]];rintro k xU ⟨i2,Fg,jJ,BI,Q8,Yy,v11⟩;rcases a2s i2 k Fg jJ v11 with⟨a3q,q2⟩|⟨go2,a3r⟩
    ·erw[bo (T2.done (dR X N scope cl {s2 with heap:=h3} (bn H2 s2.heap.objs.size (.bi [])) fp ay) rfl rfl rfl hc i2 _ xU Fg jJ _ BI (J6 Yy) Q8 a3q) λr gK #[hr,I12]=>?_]
     subst hr;erw[again I12 q2]
    ·erw[bo (T2.item (dR X N scope cl {s2 with heap:=h3} (bn H2 s2.heap.objs.size (.bi [])) fp ay) rfl rfl rfl hc i2 _ xU Fg jJ _ BI (J6 Yy) Q8 go2) λr gK #[u2,hr,za]=>?_]
     subst hr;erw[bo za λ_ fu #[x2,EL,I13,r13,y13,J8,acM]=>?_];let aj3:=I13.pinned (J6 acM) (T2.obj _ _ J8);erw[bo (hg2 _ _ _ _ _ _ fu Fg EL x2 u2 _ aj3 r13 (a3r x2 EL y13)) λ_ gJ #[Ff,BK,I14,q14]=>?_,B,bo (he _ _ _ _ _ _ gJ Ff BK _ I14 q14) λyv ky #[y,BJ,I15,r15,ys,kO,hz,tZ]=>?_,B,bo (Gz _ ky Ff BJ (.ref s2.heap.objs.size) [y] (.ref s2.heap.objs.size) [yv] (λ_ xh=>∃m',m'<k/\V (i2+1) m' Ff xh) I15 Z (.cons r15 .nil) #[_,ys,y,wP,kO,hz,tZ]) λ_ pV #[v16,xh,O3,r16,q16]=>?_];let(m',hm,w16):=q16;erw[m',hm,i2+1,Ff,xh,O3.xI,T2.keep _ _ _ J8 λb hb o e=>(O3.pin (b,o) (iZ _ (iZ _ (sr hb e)))).1,λb hb=>?_,w16];let(o,e,d):=T2.obj _ _ J8 b hb;exact(O3.pin (b,o) (iZ _ (iZ _ (sr hb e)))).2.1
   erw[afq Xh (T2.self _ 0 _ _ _ Q9 Xh)]
 erw[a1g loop (T.self _ 0 _ _ _ vF loop)]
section
variable {K:ag}
def a5u(n q:Nat):((List.range n).map λ_=>q).sum=n*q:=by induction n with |zero=>simp |succ n ih=>rw[OC,kn,List.sum_append,Nat.add_mul,Nat.one_mul,ih];simp
def afm{b:Nat->Nat->Bool}{D:Addr}(rest:St)(hx:aK K H a1 xs)(hy:aK K H a2 ys)(nw:Nw H H0 D (.bi []))(hz:⇑xs*ys.length<=1000) (hw:∀x v H3 R,aI H H3->R (vk K a2) H3->tX (some x::v::rest) H3 R) (hs:∀i j x y H2 Q',xs[i]? =some x->ys[j]? =some y->aI H H2->(∀H3,aI H2 H3->Q' (.bl (b i j)) H3)->te (some x::some y::rest) H2 Q') (hq:∀H',aI H H'->H' D=some (.bi ((((List.range ⇑xs).flatMap λi=>(List.range ⇑ys).map λj=>b i j)).map V.bl))->Q (.ref D) H'):a0Z (vk K a1) (iu 0) tX (iu 1) te Q D (none::none::rest) H0:=by
 let hD:=nw.no;let line:(1000:Nat)<sizeLine:=by decide
 erw[λi m O H2=>m=⇑xs-i/\i<=⇑xs/\aI H H2/\H2 D=some (.bi ((((List.range i).flatMap λi=>(List.range ⇑ys).map λj=>b i j)).map V.bl))/\∃v v',O=v::v'::rest,#[ww,fR _,nw.ss,nw.at',none,none,Z],?_];rintro i m O H2 ⟨rfl,hi,s2,d2,v,v',rfl⟩;by_cases bu:i<⇑xs
 ·erw[.inr #[#[xs,xs[i],hx.go s2,by simp[bu]],λx H3 yl=>?_]]
  let(e,yl):=yl;subst e;let ex:=yl xs (hx.go s2);erw[hw x v' _ _ s2 ?_,B,λj k O H4=>k=⇑ys-j/\j<=⇑ys/\aI H H4/\H4 D=some (.bi ((((List.range i).flatMap λi=>(List.range ⇑ys).map λj=>b i j)++(List.range j).map (b i)).map V.bl))/\∃v',O=some x::v'::rest,#[ww,fR _,s2,by simpa using d2,v',Z],?_];rintro j k O H4 ⟨rfl,hj,s4,d4,v',rfl⟩;by_cases yO:j<⇑ys
  ·erw[.inr #[#[ys,ys[j],hy.go s4,by simp[yO]],λy H5 yl=>?_]]
   let(e,yl):=yl;subst e;let ey:=yl ys (hy.go s4);erw[hs i j x y _ _ ex ey s4 λH6 s6=>?_];let d6:=s6 _ _ d4;erw[_,d6,?_,⇑ys-(j+1),m8 yO (gR _),Z,yO,λq o e=>?_,?_,ww]
   ·let hl:⇑(((List.range i).flatMap λi=>(List.range ⇑ys).map λj=>b i j))=i*ys.length:=by rw[List.length_flatMap];simp only[bC,fV];erw[a5u _ _]
    let h1:i*⇑ys+j<xs.length*⇑ys:=by let h2:(i+1)*⇑ys<=xs.length*⇑ys:=Nat.mul_le_mul_right _ bu;rw[Nat.add_mul,Nat.one_mul]at h2;omega
    rw[bC,cH,hl,bC,fV];omega
   ·rw[aU (e9 e hD)];erw[s6 _ _ (s4 _ _ e)]
   ·rw[bQ,OC,kn,kn,kn,kn,IC];rfl
  ·let e:j=⇑ys:=iY hj (kX yO)
   subst e;erw[.inl #[#[ys,hy.go s4,aZ _],⇑xs-(i+1),m8 bu (gR _),Z,bu,s4,?_,wT]];rw[OC,List.flatMap_append];simpa using d4
 ·let e:i=⇑xs:=iY hi (kX bu)
  subst e;erw[.inl #[#[xs,hx.go s2,aZ _],hq H2 s2 d2]]
def agh{b:Nat->Nat->Bool}:(((List.range n).flatMap λi=>(List.range m).map λj=>b i j)).any id=(List.range n).any λi=>(List.range m).any λj=>b i j:=by rw[List.any_flatMap];congr 1;funext i;rw[j03];rfl
end
end _L
namespace _P
section
variable {n:Nat}{own CL q:Nat->Rat}{L:Nat->Option Nat}{r f r' f':Int}
def WY{b:Rat}(h1:a'<=a)(h2:b'<=b):mn a' b'<=mn a b:=iq (cu (eO _ _) h1) (cu (gj _ _) h2)
end
end _P
namespace _O
open _P _l _C
def Qa{b:Int}(h0:0<=a)(h:a<=b):a^2<=b^2:=by rw[fM,fM,md,kZ,fM,fM,md,kZ];erw[C1 h h h0 (fW h0 h)]
def FC{tz:Int}(h0:0<=iC)(h1:iC<=sp)(h2:0<=ui)(h3:ui<=tz):oR ui iC<=oR tz sp:=by unfold oR;rw[Hs aw];erw[Qa (fy h0 h2) (C1 h1 h3 h2 (fW h0 h1))]
def afe(h0:0<=j)(h:j<=j')(a b:Rat)(Yf:a<=b):dL a (na j ns ms)<=dL b (na j' ns ms):=by
 unfold na;by_cases hz:aF (dQ ns ms)=0
 ·rw[aR hz,aR hz];erw[Yf]
 ·rw[aV hz,aV hz]
  erw[WY Yf ?_];let hp:(0:Int)<(aF (dQ ns ms):Int)^2:=by rw[fM,fM,md,kZ];erw[eY aE aE]
  rw[Hs hp];erw[Qa (fy (fy h0 (cf _)) (cf _)) ?_,B,Fb (Fb h (cf _)) (cf _)]
def ag3{tz:Int}(h0:0<=j)(h:j<=j')(r0:0<=tz)(hr:tz<=ui)(ho:OkI o)(hp:OkI p):iN j tz o p<=iN j' ui o p:=by cases o with |none=>rw[En,En];erw[fG] |some q=>cases p with |none=>rw[vd,vd];erw[fG] |some q'=>let(ns,sp):=q;let(ms,sq):=q';let(_,a,_):=ho ns sp rfl;let(_,b,_):=hp ms sq rfl;erw[afe h0 h _ _ (WY (FC (_S.dE a) (dU _) r0 hr) (FC (_S.dE b) (dU _) r0 hr))]
theorem a73{j j' tz ui:Int}{os:BT}(h0:0<=j)(h:j<=j')(r0:0<=tz)(hr:tz<=ui)(ok:OkIs os):∀i,iF j tz os i<=iF j' ui os i |0=>fG |i+1=>ag3 h0 h r0 hr (ok i) (ok (i+1))
end _O
namespace _P
section
variable {n:Nat}{own:Nat->Rat}{L:Nat->Option Nat}{r f:Int}
def Md(hi:i<=n):fl n L f g i<=g i:=by
 rcases BP i n with h|h
 ·cases e:L i with |none=>rw[qI h e];erw[fG] |some m=>rw[pH h e];erw[eO _ _]
 ·have:i=n:=iY hi h
  subst this;rw[sR];erw[fG]
def acT(hf:0<=f)(h0:∀i,i<=n->0<=g i):∀i,i<=n->0<=fl n L f g i:=by
 erw[down ?_ ?_]
 ·rw[sR];erw[h0 n (aZ _)]
 ·intro i hi ih
  cases e:L i with |none=>rw[qI hi e];erw[h0 i (cw hi)] |some m=>rw[pH hi e];erw[iq (h0 i (cw hi)) (B0 ih (Dj hf))]
end
end _P
namespace _R
open _P _d _l
open _O (oR iF sB Itm OkIs)
def Ht{b:Int}(hb:b≠0)(h2:b.natAbs<2^n):(Rat.divInt a b).den<2^n:=by obtain⟨-,e⟩:=GA (a:=a) hb;let l2:=_A.Xg (p:=a) hb;omega
structure Dd(D:Nat)(q:Rat):Prop where
 nn:0<=q
 den:q.den<2^D
def Dd.sK{D:Nat}(h:Dd D q)(l:D<=E):Dd E q:=#[h.nn,dJ h.den (rA aw l)]
def Dd.bd{D:Nat}(h:Dd D q)(hl:q<=2000):Bd (D+11) q:=by
 let h1:=Og.mpr h.nn;let z9:¬((2000:Rat)<q):=pM.mpr hl;rw[Ik]at z9;let e1:(2000:Rat).num=2000:=rfl;let e2:(2000:Rat).den=1:=rfl;rw[e1,e2]at z9;let h2:q.num<=2000*(q.den:Int):=by lia
 erw[?_,dJ h.den (rA aw (jg _ _))];let h3:=h.den;let h4:q.num.natAbs<=2000*q.den:=by lia
 let h5:(2:Nat)^(D+11)=2^D*2048:=by rw[Os]
 rw[h5];let h6:2000*q.den<2000*2^D:=Nat.mul_lt_mul_of_pos_left h3 aw
 lia
theorem Dd.mn{D:Nat}{b:Rat}(h1:Dd D a)(h2:Dd D b):Dd D (mn a b):=by rcases qo a b with e|e<;>rw[e]<;>assumption
def Dd.add{D:Nat}(h:Dd D q){z:Int}(hz:0<=z):Dd D (q+(z:Rat)):=by
 erw[B0 h.nn (by have:=rk.mpr hz;erw[this]),?_];rw[add_div,Oh,Oi];let e:(q.den:Int)*((1:Nat):Int)=(q.den:Int):=by lia
 rw[e];let hd:=q.den_pos;erw[Ht (_S.Df (eG (cf _) (_S.hJ hd))) (by have:=h.den;lia)]
def ZC{b:Int}(ha:0<=a)(hb:0<b):0<=Rat.divInt a b:=(BN hb).mpr ha
def div_pos{b:Int}(ha:0<a)(hb:0<b):0<Rat.divInt a b:=by
 let h0:=ZC (gT ha) hb;erw[Oe h0 λe=>?_];let h2:0<=Rat.divInt (-a) b:=by rw[<-KE,<-e];decide
 have:=(BN hb).mp h2
 lia
def Dd.mul{D:Nat}(h:Dd D q){a s:Int}(ha:0<=a)(hs:0<s)(hm:s.natAbs<2^m):Dd (D+m) (q*Rat.divInt a s):=by erw[Rat.mul_nonneg h.nn (ZC ha hs),?_];let h1:(Rat.divInt a s).den<2^m:=Ht (j4 hs) hm;rw[mul_div];let hd:=q.den_pos;let hd2:=(Rat.divInt a s).den_pos;erw[Ht (vb _ _) ?_];rw[ij];erw[qm (by have:=h.den;lia) (_S.ME h1 Z)]
def IV(tz sp:Int):Dd 14 (oR tz sp):=#[_O.pQ _ _,Ht aw aw]
def Fz{tz:Int}(h1:1<=sp)(h2:sp<=20)(h3:10<=tz)(h4:tz<=200):oR tz sp<=1600:=by
 let e:(1600:Rat)=Rat.divInt 16000000 10000:=by decide+kernel
 rw[e];refine(_C.Hs aw).mpr ?_;let hp:sp*tz<=20*200:=C1 h2 h4 (fW aw h3) (aw);let GQ:0<=sp*tz:=fy (_S.dE h1) (fW aw h3);rw[fM,fM,md,kZ];have:=C1 hp hp GQ aw
 lia
def a71{tz:Int}(h1:1<=j)(h2:j<=50)(h3:10<=tz)(h4:tz<=200)(ho:OkIs os)(i:Nat):Dd 64 (iF j tz os i):=#[_O.ur _ _ _ _,(_O.CK h1 h2 h3 h4 ho i).den]
def acU{D:Nat}(hf:0<=f)(h:∀i,i<=n->Dd D (g i)):∀i,i<=n->Dd D (fl n L f g i):=by
 erw[down ?_ ?_]
 ·rw[sR];erw[h n (aZ _)]
 ·intro i hi ih
  cases e:L i with |none=>rw[qI hi e];erw[h i (cw hi)] |some m=>rw[pH hi e];exact(h i (cw hi)).mn (ih.add (fy hf (cf _)))
def ag1{tz:Int}(h3:10<=tz)(h4:tz<=200)(ho:_O.OkI o):_O.iN j tz o p<=1600:=by cases o with |none=>rw[_O.En];decide+kernel |some q=>cases p with |none=>rw[_O.vd];decide+kernel |some q'=>let(ns,sp):=q;let(ms,sq):=q';obtain⟨-,a1,a2⟩:=ho ns sp rfl;let ht:=Fz a1 a2 h3 h4;show _O.dL (mn (oR tz sp) (oR tz sq)) (_O.na j ns ms)<=1600;cases _O.na j ns ms with |none=>erw[cu (eO _ _) ht] |some c=>erw[cu (eO _ _) (cu (eO _ _) ht)]
theorem a6Z{j tz:Int}{os:BT}(h3:10<=tz)(h4:tz<=200)(ho:OkIs os):∀i,iF j tz os i<=1600 |0=>by show(0:Rat)<=1600;decide+kernel |i+1=>ag1 h3 h4 (ho i)
abbrev iz:=Option (Rat × Int × Int)
def lM(r f:Int)(pc top R:Rat)(left:Int):iz->Rat |none=>mn (mn (pc+(r:Rat)) top) (R+((f*(2*left-1):Int):Rat)) |some (sq,st,gn)=>mn (mn (mn (pc+(r:Rat)) top) (R+((f*(2*left-1):Int):Rat))) (sq*Rat.divInt (2*(st-gn-1)+1) (2*st))
def p8(r f:Int)(pc top R:Rat)(left:Int):iz->Rat |none=>mn (mn (pc+((2*r:Int):Rat)) top) (R+((2*f*(left-1):Int):Rat)) |some (sq,st,gn)=>mn (mn (mn (pc+((2*r:Int):Rat)) top) (R+((2*f*(left-1):Int):Rat))) (sq*Rat.divInt (st-gn-1) st)
def yh:iz->iz |none=>none |some (sq,st,gn)=>some (sq,st,gn+1)
def tF(D:Nat)(pc:Rat):iz->Prop |none=>True |some (sq,st,gn)=>0<=gn/\gn<=st/\st<=1000/\Dd D sq/\sq<=2000/\(st=0->pc=0)/\pc*(st:Rat)<=sq*((st-gn:Int):Rat)
def Halt(pc:Rat)(stp:iz):Prop:=stp≠none/\pc=0
def AK{D:Nat}{sq:Rat}(h:tF D pc (some (sq,st,gn)))(hp:0<=pc)(hn:¬Halt pc (some (sq,st,gn))):gn<st/\0<sq/\0<pc:=by
 let(g0,g1,g2,hd,hl,hz,hh):=h;let DB:0<pc:=Oe hp λe=>hn #[by simp,e.symm];let iI:gn<st:=by
  rcases OS gn st with h|h
  ·erw[h]
  ·let e:st-gn=0:=by lia
   rw[e]at hh;let e0:sq*((0:Int):Rat)=0:=Rat.mul_zero sq;rw[e0]at hh;exfalso;rcases OS 0 st with h3|h3
   ·let h4:(0:Rat)<(st:Rat):=Il.mpr h3
    let h5:=j0o DB h4;erw[absurd (a1i h5 hh) (FS)]
   ·rw[hz (C5 h3 (fW g0 g1))]at DB;erw[absurd DB (FS)]
 erw[iI,?_,DB,B,Oe hd.nn λe=>?_];rw[<-e,Of]at hh;let h4:(0:Rat)<(st:Rat):=Il.mpr (show(0:Int)<st from eG g0 iI);erw[absurd (a1i (j0o DB h4) hh) (FS)]
section
variable {D:Nat}{r f:Int}{pc top R:Rat}{left:Int}{stp:iz}
def Z2:p8 r f pc top R left stp<=top:=by cases stp with |none=>erw[cu (eO _ _) (gj _ _)] |some q=>let(sq,st,gn):=q;erw[cu (eO _ _) (cu (eO _ _) (gj _ _))]
def X4:lM r f pc top R left stp<=top:=by cases stp with |none=>erw[cu (eO _ _) (gj _ _)] |some q=>let(sq,st,gn):=q;erw[cu (eO _ _) (cu (eO _ _) (gj _ _))]
def aeB(hr:0<=r)(hf:0<=f)(hl:1<=left)(hp:Dd (D+10) pc)(ht:Dd (D+10) top)(hR:Dd (D+10) R)(hs:tF D pc stp)(hn:¬Halt pc stp):Dd (D+10) (p8 r f pc top R left stp):=by let h1:=(hp.add (z:=2*r) (fy aw hr)).mn ht;let h2:=hR.add (z:=2*f*(left-1)) (fy (fy aw hf) (C0 hl));cases stp with |none=>erw[h1.mn h2] |some q=>let(sq,st,gn):=q;let(a,b,c):=AK hs hp.nn hn;let(g0,g1,g2,hd,hl,hz,hh):=hs;exact(h1.mn h2).mn (hd.mul (m:=10) aE (eG g0 a) aE)
def X6(hr:0<=r)(hf:0<=f)(hl:1<=left)(hp:Dd (D+10) pc)(ht:Dd (D+10) top)(hR:Dd (D+10) R)(hs:tF D pc stp)(hn:¬Halt pc stp):Dd (D+11) (lM r f pc top R left stp):=by let h1:=((hp.add (z:=r) aE).mn ht).sK (show D+10<=D+11 from cw (gR _));let h2:=(hR.add (z:=f*(2*left-1)) (fy aE (C0 (_S.mulL hl aw)))).sK (show D+10<=D+11 from cw (gR _));cases stp with |none=>erw[h1.mn h2] |some q=>let(sq,st,gn):=q;let(a,b,c):=AK hs hp.nn hn;let(g0,g1,g2,hd,hl,hz,hh):=hs;exact(h1.mn h2).mn (hd.mul (m:=11) aE (eY aw (eG g0 a)) aE)
def add_pos{x:Rat}{z:Int}(hx:0<=x)(hz:0<z):0<x+(z:Rat):=by let h1:((0:Int):Rat)<(z:Rat):=Il.mpr hz;let h2:x+((0:Int):Rat)<x+(z:Rat):=Rat.add_lt_add_left.mpr h1;rw[show((0:Int):Rat)=0 from Z,tL]at h2;erw[j05 hx h2]
def Kz{b:Rat}(ha:0<a)(hb:0<b):0<mn a b:=by rcases qo a b with e|e<;>rw[e]<;>assumption
def X5(hr:1<=r)(hf:1<=f)(hl:1<=left)(hp:0<=pc)(ht:0<top)(hR:0<=R)(hs:tF D pc stp)(hn:¬Halt pc stp):0<lM r f pc top R left stp:=by let h1:=Kz (Kz (add_pos hp (show 0<r from _S.jC hr)) ht) (add_pos hR (show 0<f*(2*left-1)from eY (_S.jC hf) (j0p (_S.AS hl aw))));cases stp with |none=>erw[h1] |some q=>let(sq,st,gn):=q;let(a,b,c):=AK hs hp hn;let(g0,g1,g2,hd,hl,hz,hh):=hs;erw[Kz h1 (j0o b (div_pos aE (eY aw (eG g0 a))))]
def ZA(a:Int):Rat.divInt a 1=(a:Rat):=by
 conv=>rhs;rw[<-vq (a:Rat)]
 rfl
def af3(hs:0<s):Rat.divInt a s*(s:Rat)=(a:Rat):=by
 let e:(s:Rat)=Rat.divInt s 1:=by rw[ZA]
 rw[e,KM _ _,Ps,OQ a s];let e2:Rat.divInt (s*a) s=Rat.divInt (s*a) (s*1):=by rw[Ps]
 rw[e2,FM (j4 hs),ZA]
def a3p(hs:tF D pc stp)(hp:0<=pc)(hn:¬Halt pc stp):tF D (p8 r f pc top R left stp) (yh stp):=by cases stp with |none=>trivial |some q=>
 let(sq,st,gn):=q;let(a,b,c):=AK hs hp hn;let(g0,g1,g2,hd,hl,hz,hh):=hs;erw[gT (C4 g0),a,g2,hd,hl,λe=>by lia,?_];let h1:p8 r f pc top R left (some (sq,st,gn))<=sq*Rat.divInt (st-gn-1) st:=gj _ _;let h2:(0:Rat)<=(st:Rat):=Rat.intCast_nonneg.mpr (fW g0 g1);let h3:=Rat.mul_le_mul_of_nonneg_right h1 h2;let h4:sq*Rat.divInt (st-gn-1) st*(st:Rat)=sq*((st-(gn+1):Int):Rat):=by
  rw[Rat.mul_assoc,af3 (eG g0 a)];congr 2
  lia
 rw[h4]at h3;erw[h3]
end
end _R
namespace _R
open _P _d _l
open _O (Itm ce iN iF sB oR)
def acS(hg:∀k,1<=k->k<=m->g' k=g (i+k))(hL:∀k,k<m->L' k=L (i+k)):∀k,k<=m->1<=k->fl m L' f g' k=fl (i+m) L f g (i+k):=by
 erw[down ?_ ?_]
 ·intro h;rw[sR,sR];erw[hg m h (aZ _)]
 ·intro k hk ih h
  let e:=ih (vv _ _);cases hl:L (i+k)with |none=>rw[qI hk (by rw[hL k hk];erw[hl]),qI (Do hk _) hl];erw[hg k h (cw hk)] |some c=>rw[pH hk (by rw[hL k hk];erw[hl]),pH (Do hk _) hl,e,hg k h (cw hk)];rfl
def NI(os:BT)(i k:Nat):ce (os.drop i) k=ce os (i+k):=by unfold ce;rw[xC]
def a70(j tz:Int)(os:BT)(i k:Nat):iF j tz (os.drop i) (k+1)=iF j tz os (i+k+1):=by show iN j tz (ce (os.drop i) k) (ce (os.drop i) (k+1))=iN j tz (ce os (i+k)) (ce os (i+k+1));rw[NI,NI];rfl
def aa1(os:BT)(i k:Nat):sB (os.drop i) k=sB os (i+k):=by unfold sB;rw[NI]
def a5U{tz:Int}(h:i<⇑os):fl ⇑(os.drop i) (sB (os.drop i)) f (iF j tz (os.drop i)) 1=fl ⇑os (sB os) f (iF j tz os) (i+1):=by let hl:⇑(os.drop i)=os.length-i:=tO;let e:=acS (m:=⇑os-i) (i:=i) (g:=iF j tz os) (g':=iF j tz (os.drop i)) (L:=sB os) (L':=sB (os.drop i)) (f:=f) (λk h1 h2=>by obtain⟨k',rfl⟩:∃k',k=k'+1:=#[k-1,bI];erw[a70 j tz os i k']) (λk _=>aa1 os i k) 1 (cL (vv _ _) (Nat.sub_pos_of_lt h)) (aZ _);rw[hl,e,show i+(⇑os-i)=⇑os by omega]
def a6Y{j tz:Int}{os:BT}{i:Nat}{ns:Ar}{sp:Int}(h:os[i]? =some (some (ns,sp))):iF j tz os (i+1)<=oR tz sp:=by show iN j tz (ce os i) (ce os (i+1))<=_;rw[_O.mI h];cases ce os (i+1)with |none=>rw[_O.vd];erw[_O.pQ _ _] |some q=>let(ms,sq):=q;show _O.dL (mn (oR tz sp) (oR tz sq)) (_O.na j ns ms)<=_;cases _O.na j ns ms with |none=>erw[eO _ _] |some c=>erw[cu (eO _ _) (eO _ _)]
def a6X{j tz:Int}{os:BT}{i:Nat}{ns:Ar}{sp:Int}(h:os[i]? =some (some (ns,sp))):iF j tz os i<=oR tz sp:=by cases i with |zero=>erw[_O.pQ _ _] |succ i=>show iN j tz (ce os i) (ce os (i+1))<=_;rw[_O.mI h];cases ce os i with |none=>rw[_O.En];erw[_O.pQ _ _] |some q=>let(ms,sq):=q;show _O.dL (mn (oR tz sq) (oR tz sp)) (_O.na j ms ns)<=_;cases _O.na j ms ns with |none=>erw[gj _ _] |some c=>erw[cu (eO _ _) (gj _ _)]
end _R
namespace _L
universe PySem
def acq{K:ag}{mg:bZ}{t:Tok}(X:K.In h)(G:h.Ns mainGlobals mg)(a:W.nsIn K mainGlobals x=some (some (.str z t))):GV mg x (.str z):=#[_,zQ X G a,t,Z]
end _L
namespace _R
open _P _d _l
def abB{D:Nat}{sq:Rat}(hs:tF D pc (some (sq,st,gn)))(hp:0<=pc)(hn:¬Halt pc (some (sq,st,gn)))(h2:sq<=((2*f*st:Int):Rat)): ∃a y:Rat,0<=a/\a<=(f:Rat)/\0<=y/\sq*Rat.divInt (2*(st-gn-1)+1) (2*st)=2*y+a/\sq*Rat.divInt (st-gn-1) st=2*y/\pc<=2*y+2*a:=by
 let(g1,g2,g3):=AK hs hp hn;let(c0,c1,c2,hd,hl,hz,hh):=hs;let s0:(0:Rat)<(st:Rat):=Il.mpr (show(0:Int)<st from eG c0 g1);let n0:(0:Rat)<=((st-gn-1:Int):Rat):=rk.mpr (show(0:Int)<=st-gn-1 by omega);generalize en:st-gn-1=n at*;let eg:st-gn=n+1:=by omega
 rw[eg]at hh;simp only[Rat.divInt_eq_div,Im,rj]at*;let e2:((2:Int):Rat)=2:=rfl;let e1:((1:Int):Rat)=1:=rfl;rw[e2]at*;rw[e1]at*;generalize(st:Rat)=s at*;generalize(n:Rat)=N at*;let ha:sq/(2*s)*(2*s)=sq:=by
  have:(2*s)≠0:=by grind
  grind
 generalize hA:sq/(2*s)=a at*;let a0:0<=a:=by erw[a1j (c:=2*s) ?_ (by grind)];rw[Of,ha];erw[ET g2]
 erw[a,a*N,a0,?_,Rat.mul_nonneg a0 n0,zn,?_]
 ·erw[a1j (c:=2*s) ?_ (by grind)]
  grind
 ·rw[<-hA]
  grind
 ·rw[<-hA]
  grind
 ·erw[a1j (c:=s) ?_ s0]
  let e:(2*(a*N)+2*a)*s=sq*(N+1):=by rw[<-ha];grind
  rw[e];erw[hh]
def a8t{D:Nat}{r:Int}{top:Rat}{stp:iz}(hr:0<=r)(hf:0<=f)(hl:1<=left)(hp:0<=pc)(pt:pc<=top)(pR:pc<=R+((2*f*left:Int):Rat))(hs:tF D pc stp)(hn:¬Halt pc stp)(h2:∀a st gn,stp=some (a,st,gn)->a<=((2*f*st:Int):Rat)): lM r f pc top R left stp<=pc+(r:Rat)/\pc<=lM r f pc top R left stp+(f:Rat)/\lM r f pc top R left stp<=p8 r f pc top R left stp+(f:Rat)/\p8 r f pc top R left stp<=lM r f pc top R left stp+(r:Rat):=by
 let r0:(0:Rat)<=(r:Rat):=rk.mpr hr;let f0:(0:Rat)<=(f:Rat):=rk.mpr hf;let e2:((2:Int):Rat)=2:=rfl;let e1:((1:Int):Rat)=1:=rfl;let c1:((2*f*left:Int):Rat)=2*((f*left:Int):Rat):=by simp only[rj,e2];grind
 let c2:((f*(2*left-1):Int):Rat)=2*((f*left:Int):Rat)-(f:Rat):=by simp only[rj,Rs,e2,e1];grind
 let c3:((2*f*(left-1):Int):Rat)=2*((f*left:Int):Rat)-2*(f:Rat):=by simp only[rj,Rs,e2,e1];grind
 let c4:((2*r:Int):Rat)=2*(r:Rat):=by rw[rj];rfl
 rw[c1]at pR;let key:∀x y z w:Rat,(x=pc+(r:Rat)\/x=top\/x=R+(2*((f*left:Int):Rat)-(f:Rat)))->x<=pc+(r:Rat)->x<=top->x<=R+(2*((f*left:Int):Rat)-(f:Rat))->(y=pc+2*(r:Rat)\/y=top\/y=R+(2*((f*left:Int):Rat)-2*(f:Rat)))->y<=pc+2*(r:Rat)->y<=top->y<=R+(2*((f*left:Int):Rat)-2*(f:Rat))->pc<=x+(f:Rat)/\x<=y+(f:Rat)/\y<=x+(r:Rat):=by
  intro x y _ _ hx x1 x2 x3 hy y1 y2 y3;erw[zn,?_]
  ·grind
  ·grind
  ·grind
 let m3:∀a b c:Rat,(mn (mn a b) c=a\/mn (mn a b) c=b\/mn (mn a b) c=c):=λa b c=>by
  rcases qo (mn a b) c with e|e
  ·rw[e];rcases qo a b with e|e
   ·erw[.inl e]
   ·erw[.inr (.inl e)]
  ·erw[.inr (.inr e)]
 let l1:∀a b c:Rat,mn (mn a b) c<=a:=λa b c=>cu (eO _ _) (eO _ _);let l2:∀a b c:Rat,mn (mn a b) c<=b:=λa b c=>cu (eO _ _) (gj _ _);let l3:∀a b c:Rat,mn (mn a b) c<=c:=λa b c=>gj _ _;let X:=key (mn (mn (pc+(r:Rat)) top) (R+(2*((f*left:Int):Rat)-(f:Rat)))) (mn (mn (pc+2*(r:Rat)) top) (R+(2*((f*left:Int):Rat)-2*(f:Rat)))) 0 0 (m3 _ _ _) (l1 _ _ _) (l2 _ _ _) (l3 _ _ _) (m3 _ _ _) (l1 _ _ _) (l2 _ _ _) (l3 _ _ _);cases stp with |none=>unfold lM p8;simp only[c2,c3,c4];erw[l1 _ _ _,X] |some q=>
  let(sq,st,gn):=q;let(a,y,a0,af,y0,e1,e2,py):=abB hs hp hn (h2 sq st gn Z);unfold lM p8;simp only[c2,c3,c4,e1,e2];let xl:=l1 (pc+(r:Rat)) top (R+(2*((f*left:Int):Rat)-(f:Rat)));clear l1 l2 l3 m3 key;generalize mn (mn (pc+(r:Rat)) top) (R+(2*((f*left:Int):Rat)-(f:Rat)))=x at*;generalize mn (mn (pc+2*(r:Rat)) top) (R+(2*((f*left:Int):Rat)-2*(f:Rat)))=z at*;let ml:=eO x (2*y+a);let mr:=gj x (2*y+a);let nl:=eO z (2*y);let nr:=gj z (2*y);let mc:=qo x (2*y+a);let nc:=qo z (2*y);generalize mn x (2*y+a)=u at*;generalize mn z (2*y)=v at*;let(X1,X2,X3):=X;erw[zn,zn]
  ·grind
  ·grind
  ·grind
  ·grind
end _R
namespace _L
universe PySem
def af4(f:Array Value->Array Value)(o:Obj):(o.mapFields f).dict=o.dict:=by let(c,d,dt,sl):=o;cases dt<;>rfl
def TrD(h B:Heap)(ex:Addr)(cls:Value)(dx:Option Addr)(fl:Value):Prop:=∃ob fs tb ot ts,h.get? ex=some ob/\ob.cls=cls/\ob.dict=dx/\ob.data= .fields fs/\fs[1]? =some (.ref tb)/\B.get? tb=none/\tb≠ex/\h.get? tb=some ot/\ot.data= .fields ts/\ts[3]? =some fl/\fs[2]? =some .none
def qV(B:Heap)(l:Cl)(ex:Addr)(cls:Value)(dx:Option Addr)(fl:Value)(h:Heap):Prop:=B.StaysIn h/\B.get? ex=none/\h.FunFrames B l/\TrD h B ex cls dx fl
def qV.there{cls fl:Value}(x:qV B l ex cls dx fl h):∃ob,h.get? ex=some ob/\ob.cls=cls/\ob.dict=dx/\∃fs,ob.data= .fields fs/\fs[2]? =some .none:=by let(_,_,_,ob,fs,_,_,_,e,c,d,z,_,_,_,_,_,_,z2):=x;erw[ob,e,c,d,fs,z,z2]
section
variable {M:Model}{A:ak}{E:Value->ah->Prop}{s:ah}{B:Heap}{env:Env}{outer:Cl}{L ex:Addr}{ob:Obj}{fs:Array Value}{head:Value}{nx:Bool}{Q:Unit->ah->Prop}{cls fl:Value}{dx:Option Addr}
def YY(hA:A.frames=some (env::outer))(ff:s.heap.FunFrames B (env::outer))(hL:env.frame=some L)(ho:s.heap.get? ex=some ob)(st:B.StaysIn s.heap)(hB:B.get? ex=none)(hd:ob.data= .fields fs)(hz:1<fs.size)(jn:fs[2]? =some .none) (q:∀h',qV B (env::outer) ex ob.cls ob.dict (rawInt L) h'->s.heap.UpToSlots h'->Q () {s with heap:=h'}): wpAny M A (do let a<-frameOf env;let pl<-entryPlaceOf L nx;let b<-EntryCells.newEntry head a .none (rawInt L) .none pl;setField (.ref ex) 1 b) Q E s:=by
 let Gv:ex∉(env::outer).filterMap (·.frame):=λhm=>by let(_,o,e1,nf):=ff.mem hm;rw[ho]at e1;cases e1;erw[nf fs hd]
 erw[aL (wpAny_frameOf_fun hA ff hL λg1 k1=>aL (wpAny_entryPlaceOf λpl hp=>?_))];unfold EntryCells.newEntry newFields;erw[aL (tK ?_ (hp.sizeOk5 _ _ _ _ _))];let o1:g1.get? ex=some ob:=(k1.2.1 ex Gv).ao ho;let FP:B.StaysIn g1:=λb o e=>(k1.2.1 b λhm=>by rw[(ff.mem hm).1]at e;cases e).ao (st b o e);generalize hT:({cls:=.type "traceback",dict:=none,data:=.fields ([head,.ref L,.none,rawInt L,.none]++(if pl.isEmpty then List.replicate 6 Value.none else pl)).toArray}:Obj)=T;let o2:(g1.push T).get? ex=some ob:=cR T o1;erw[HX o2 hd hz (q _ ?_ ?_)];all_goals let ne:g1.objs.size≠ex:=zS (cP o1)
 all_goals let keep:∀b o,b≠ex->g1.get? b=some o->((g1.push T).update ex (Obj.mapFields (·.setIfInBounds 1 (Value.ref g1.objs.size)))).get? b=some o:=λb o nb e=>by rw[Fd _ _ (m7 nb)];erw[cR _ e]
 all_goals let vU:∀b o,s.heap.get? b=some o->(∀vs,o.data≠ .fields vs)->b≠ex:=λb o e nf z=>by rw[z,ho]at e;cases e;erw[nf fs hd]
 ·let d3:=Iu hd (·.setIfInBounds 1 (Value.ref g1.objs.size))
  let o3:=IH (Obj.mapFields (·.setIfInBounds 1 (Value.ref g1.objs.size))) o2 (a1x d3);erw[λb o e=>keep b o (λz=>by rw[z,hB]at e;cases e) (FP b o e),hB,ff.of_keeps λb o e nf=>?_,?_]
  ·let(sl,e1):=k1.2.2 b o e
   erw[_,keep b _ (vU b o e nf) e1,Z]
  ·erw[xz,g1.objs.size,T,_,o3,j09 _ _,af4 _ _,d3,by simp[hz],FP.fresh,ne,?_,by rw[<-hT],?_]
   ·rw[Fd _ _ (m7 ne)];erw[fX g1 (by rw[<-hT];rfl)]
   ·erw[?_,by simpa using jn]
    first|(simp;done)|(rcases hp with rfl|⟨_,_,_,_,_,_,_,rfl⟩<;>simp)
 ·intro b o e nf
  let(sl,e1):=k1.2.2 b o e;erw[sl,keep b _ (vU b o e nf) e1]
def a8B(hA:A.frames=some (env::outer))(ff:s.heap.FunFrames B (env::outer))(hL:env.frame=some L)(ho:s.heap.get? ex=some ob)(st:B.StaysIn s.heap)(hB:B.get? ex=none)(hd:ob.data= .fields fs)(h1:fs[1]? =some .none)(jn:fs[2]? =some .none) (q:∀h',qV B (env::outer) ex ob.cls ob.dict (rawInt L) h'->s.heap.UpToSlots h'->Q () {s with heap:=h'}):wpAny M A (noteFrame (.ref ex) env) Q E s:=by unfold noteFrame;simp only[hL];erw[aL (kW ho hd h1 ?_)];rw[aV aw];erw[YY hA ff hL ho st hB hd (OW.mp h1).1 jn q]
def a8A(hA:A.frames=some (env::outer))(hL:env.frame=some L)(x:qV B (env::outer) ex cls dx .none s.heap) (q:∀h',qV B (env::outer) ex cls dx (rawInt L) h'->s.heap.UpToSlots h'->Q () {s with heap:=h'}):wpAny M A (noteFrame (.ref ex) env) Q E s:=by
 let(st,hB,ff,ob,fs,tb,ot,ts,ho,rfl,rfl,hd,h1,Hd,nt,ht,sH,h3,jn):=x;unfold noteFrame;simp only[hL];erw[aL (kW ho hd h1 ?_)];rw[aR (show(Value.ref tb !=Value.none)=true from by simp)];erw[aL (kW ht sH h3 ?_)];rw[aV (show¬((Value.none==rawInt L)=true)from by simp[rawInt])];erw[aL (HX ht sH (OW.mp h3).1 ?_)];let other:∀b,b≠tb->(s.heap.update tb (Obj.mapFields (·.setIfInBounds 3 Value.none))).get? b=s.heap.get? b:=λb nb=>Fd _ _ (m7 nb);let vU:∀b o,s.heap.get? b=some o->(∀vs,o.data≠ .fields vs)->b≠tb:=λb o e nf z=>by rw[z,ht]at e;cases e;erw[nf ts sH]
 erw[YY (s:={s with heap:=s.heap.update tb (Obj.mapFields (·.setIfInBounds 3 Value.none))}) hA (ff.of_keeps λb o e nf=>#[o,(other b (vU b o e nf)).ao e,Z]) hL ((other ex (m7 nt)).ao ho) (λb o e=>(other b λz=>by rw[z,Hd]at e;cases e).ao (st b o e)) hB hd (OW.mp h1).1 jn λh' y up=>q h' y λb o e nf=>up b o ((other b (vU b o e nf)).ao e) nf]
def Mc(x:qV B l ex cls dx fl s.heap)(q:∀h',qV B l ex cls dx .none h'->s.heap.UpToSlots h'->Q () {s with heap:=h'}):wpAny M A (setFlight (.ref ex) none) Q E s:=by
 let(st,hB,ff,ob,fs,tb,ot,ts,ho,hc,hx,hd,h1,Hd,nt,ht,sH,h3,jn):=x;let z3:3<ts.size:=(OW.mp h3).1;let other:∀b,b≠tb->(s.heap.update tb (Obj.mapFields (·.setIfInBounds 3 ((none:Option Addr).elim Value.none λf=>rawInt f)))).get? b=s.heap.get? b:=λb nb=>Fd _ _ (m7 nb);let vU:∀b o,s.heap.get? b=some o->(∀vs,o.data≠ .fields vs)->b≠tb:=λb o e nf z=>by rw[z,ht]at e;cases e;erw[nf ts sH]
 unfold setFlight;erw[aL (kW ho hd h1 ?_)];rw[aR (show(Value.ref tb !=Value.none)=true from by simp)];erw[HX ht sH z3 (q _ #[λb o e=>(other b λz=>by rw[z,Hd]at e;cases e).ao (st b o e),hB,ff.of_keeps λb o e nf=>#[o,(other b (vU b o e nf)).ao e,rfl],?_] λb o e nf=>#[o.slots,(other b (vU b o e nf)).ao e]),B,ob,fs,tb,xz,(other ex (m7 nt)).ao ho,hc,hx,hd,h1,Hd,nt,IH _ ht (a1x (Iu sH _)),Iu sH _,by simp[z3],jn]
def a9Z(hA:A.frames=some (env::outer))(ff:s.heap.FunFrames B (env::outer))(hL:env.frame=some L)(ho:s.heap.get? ex=some ob)(st:B.StaysIn s.heap)(hB:B.get? ex=none)(hd:ob.data= .fields fs)(h1:fs[1]? =some .none)(jn:fs[2]? =some .none) (q:∀h',qV B outer ex ob.cls ob.dict .none h'->s.heap.UpToSlots h'->Q () {s with heap:=h'}):wpAny M A (leaving env (.ref ex)) Q E s:=by unfold leaving;erw[aL (a8B hA ff hL ho st hB hd h1 jn λh1 x1 u1=>Mc x1 λh2 x2 u2=>q h2 ?_ (u1.ao u2))];let(a,b,(_,_,c),d):=x2;erw[a,b,c,d]
end
end _L
namespace _L
universe PySem
open Builtin Builtin.ObjectAttr
def vA:BY:=[.type "ValueError",.type "Exception",.type "BaseException",.type "object"]
def rZ:BY->Bool | .ref _::r=>rZ r |l=>l==vA
def Vk(self:Value){l:BY}(e:rZ l=true):refuseLoop self "__setattr__" l=pure ():=by induction l with |nil=>simp[rZ,vA]at e |cons v r ih=>cases v with |ref c=>rw[refuseLoop_ref];erw[ih (by simpa[rZ]using e)] |_=>let e':=gf.mp (show(_==vA)=true from e);rw[e'];erw[PySem.F.store_ValueError.passes self]
theorem Ye{t:String}(ht:(vA.contains (.type t))=true):∀{l:BY},rZ l=true->l.contains (.type t)=true |l,e=>by induction l with |nil=>simp[rZ,vA]at e |cons v r ih=>cases v with |ref c=>rw[a1F,ih (by simpa[rZ]using e),j01] |_=>let e':=gf.mp (show(_==vA)=true from e);rw[e'];erw[ht]
def Ke(K:ag)(C:Addr):Bool:=(W.clsIn K C).any λcd=>rZ cd.mro
section
variable {prog:ai}{w:World}{A:ak}{E:Value->ah->Prop}{s:ah}{K:ag}{x C:Addr}{ox:Obj}{fs:Array Value}{name:Str}{v:Value}{Q:Unit->ah->Prop}
def a4K(X:K.In s.heap)(hx:s.heap.get? x=some ox)(hc:ox.cls= .ref C)(hd:ox.dict=none)(hf:ox.data= .fields fs) (hs:W.findIn K (.ref C) "__setattr__"=some (some (.builtin "object.__setattr__")))(hp:Ke K C=true)(ht:W.takerIn K C name=some none)(hh:W.hasDictIn K C=true) (h:∀h',h'.get? x=some {ox with dict:=some s.heap.objs.size}->h'.Ns1 s.heap.objs.size (λy=>if y=name then some v else none)->(∀b o,b≠x->s.heap.get? b=some o->h'.get? b=some o)->Q () {s with heap:=h',toks:=s.toks+2}): wpAny (model prog w) A (setAttr (.ref x) name v) Q E s:=by
 let I:W.InstAt s.heap x ox C none:=#[hx,hc,by unfold W.notCls;rw[hf],by rw[hd];trivial];erw[a1m X I hs ?_];let SF:=Fr9;let(cd,gE,ho):=Ir hp;let ne:cd.mro.isEmpty=false:=by cases q:cd.mro with|nil=>rw[q]at ho;simp[rZ,vA]at ho|cons _ _=>rfl
 let sub:W.Looks (model prog w) s.heap (isInstance (.ref x) (.type "object")) true:=I.type.andThen (W.looks_mroIn X (by unfold W.mroIn;rw[gE,j0i,aV (by rw[ne];decide),Ye aw ho]));erw[Ii SF.slot.plain SF.entry (@W.check_slot (model prog w) _ _ {s with toks:=s.toks+1} "object.__setattr__" "object" "__setattr__" (.ref x) [.str name s.toks,v] [] _ SF.kind SF.split sub (SF.args (.ref x) (.str name s.toks) v) ?_)];let(attr,ha,hr):=a1w.mp ht;let hm:W.Looks (model prog w) s.heap (mroOf (.ref C)) cd.mro:=(Ip X gE).andThen .now;let L3:W.Looks (model prog w) s.heap (storeTaker? attr) none:=by cases attr with |none=>erw[.now] |some a=>let(b,hb,e):=zR.mp hr;refine(j0b X hb).andThen ?_;cases b with |false=>erw[.now] |true=>cases e
 rw[W.osa_eq,refuse_eq];erw[aL (aL (pN (s:={s with toks:=s.toks+1}) I.type (aL (pN (s:={s with toks:=s.toks+1}) hm ?_))))];rw[Vk _ ho];erw[bU (aL (pN (s:={s with toks:=s.toks+1}) I.type (aL (pN (s:={s with toks:=s.toks+1}) (a1o X ha) (aL (pN (s:={s with toks:=s.toks+1}) L3 ?_))))))];let(cd2,jn,hd2):=Ir hh;erw[aL (bU (aL (aL (O8 (s:={s with toks:=s.toks+1}) hx ?_))))];rw[hc];erw[aL (pN (s:={s with toks:=s.toks+1}) (Ip X jn) ?_)];rw[hd2,hd,hf];rw[aV aw];show wpAny _ _ (if(!true|| !typeHasDict (Value.ref C))=true then _ else _) _ _ _;rw[aV (by simp[typeHasDict])];let x1:(s.heap.push {cls:=.type "dict",data:=.dict #[]}).get? x=some ox:=cR _ hx;let nx:x≠s.heap.objs.size:=fo (cP hx);erw[aL (wpAny_alloc' (aL (wpAny_update' x1 (bU ?_))))];let gd:((s.heap.push {cls:=.type "dict",data:=.dict #[]}).update x λo=>{cls:=o.cls,dict:=some s.heap.objs.size,data:=o.data,slots:=o.slots}).get? s.heap.objs.size=some {cls:=.type "dict",data:=.dict #[]}:=(Db _ _ _ _ nx.symm).ao (Heap.get?_push_at Z rfl);let n0:((s.heap.push {cls:=.type "dict",data:=.dict #[]}).update x λo=>{cls:=o.cls,dict:=some s.heap.objs.size,data:=o.data,slots:=o.slots}).Ns s.heap.objs.size (λ_=>none):=#[_,#[],_,gd,Z,(λe he=>absurd he (by simp)),λ_=>rfl];show wpAny _ _ (storeInDict s.heap.objs.size (.str name s.toks) name v) _ _ _;unfold storeInDict newKeyGuard;erw[aL (bU (aL (wpAny_nsSet1 (j08 n0) λh2 n2 sb=>?_)))];let(oD,esD,epD,e1,e2,e3):=n2.count (a1l name v PySem.Within.nil);erw[aL (wpAny_lookBehind e1 (by rw[e2];erw[pastItsLine_dict (cL e3 (by rw[kY,List.length_nil,Ig];erw[aw]))]) ?_),B,bU (h h2 ?_ n2 λb o nb e=>?_)]
 ·refine(sb.2 x nx).ao (IH _ x1 ?_)
  let(oc,od,Ko,gN):=ox;cases hf;rfl
 ·exact(sb.2 b (fo (cP e))).ao ((Db _ _ _ _ nb).ao (cR _ e))
end
end _L
namespace _L
universe PySem
def vm(ex C:Addr)(h:Heap):Prop:=∃ob fs,h.get? ex=some ob/\ob.cls= .ref C/\ob.dict=none/\ob.data= .fields fs/\fs[1]? =some .none/\fs[2]? =some .none
def oS(ex C dx:Addr)(h:Heap):Prop:=∃ob fs,h.get? ex=some ob/\ob.cls= .ref C/\ob.dict=some dx/\ob.data= .fields fs/\fs[1]? =some .none/\fs[2]? =some .none
structure BB(K:ag)(C:Addr)(f:Str):Prop where
 sa:W.findIn K (.ref C) "__setattr__"=some (some (.builtin "object.__setattr__"))
 ov:Ke K C=true
 tk:W.takerIn K C f=some none
 hd:W.hasDictIn K C=true
inductive ail(K:ag)(f:Str)(D:Ends)(O:St)(y:V)(x:V)(H2:Hp):Prop |mk ex C(_:x= .ref ex)(_:H2 ex=some (.ext (vm ex C)))(_:BB K C f)(_:∀dx,H2 dx=none->dx≠ex->D.nx O (bn (bn H2 dx (.xd [(f,y)])) ex (.ext (oS ex C dx))))
def a50(K:ag)(ta tv:TE)(f:Str):TS:=λD O H=>tv O H λy H1=>ta O H1 λx H2=>ail K f D O y x H2
section
variable {X:Cx}{o e value:Expr}{f:Str}{pos pos' vC:Pos}{ta tv:TE}
def a6q(K:ag)(hK:X.K=K)(ha:PE X o ta)(hv:PE X value tv)(hs:↥(swapsWith value (some (.Attribute o f pos')) pos.line X.env=pure false)):PS X (.Assign [.Attribute o f pos'] value pos) (a50 K ta tv f):=by
 subst hK;intro ay s O H D I h;erw[a1f (bo (hv ay s O H _ I h) λu s1 #[y,H1,I1,ry,q]=>bo (ha ay s1 O H1 _ I1 q) λov s2 #[x,H2,I2,rx,ex,C,e1,ee,xc,q2]=>?_) hs];subst e1;obtain rfl:ov=Value.ref ex:=rx;let((ob,fs,g1,g2,g3,g4,g5,g6),_,_):=(show gQ X.prog X.w H2 s2.heap ex (.ext (vm ex C))from I2.bD ex _ ee);erw[a4K I2.gb g1 g2 g3 g4 xc.sa xc.ov xc.tk xc.hd λh' k1 k2 k3=>?_];let ne:s2.heap.objs.size≠ex:=zS (cP g1);let fr:H2 s2.heap.objs.size=none:=I2.bD.fresh (aZ _);let(oD,es,ep,d1,d2):=id k2;let hmD:(s2.heap.push oD).get? s2.heap.objs.size=some oD:=fX _ (by let(oc,od,Ko,gN):=oD;have:Ko= .dict es ep:=d2.1;subst this;rfl);let LU:gQ X.prog X.w (bn H2 s2.heap.objs.size (.xd [(f,y)])) (s2.heap.push oD) s2.heap.objs.size (.xd [(f,y)]):=by
  erw[_,k2.at λo e=>?_,λg=>?_]
  ·rw[d1]at e;cases e;erw[hmD]
  ·by_cases q:g=f
   ·subst q
    simp only[List.lookup,Ij,xk];erw[ry]
   ·have:(g==f)=false:=by simpa using q
    simp only[List.lookup,this,aV q];trivial
 let J1:=I2.laid (a:=s2.heap.objs.size) (o:=.xd [(f,y)]) (h':=s2.heap.push oD) (t':=s2.toks+2) (λb u q=>cR _ q) (aZ _) LU;let J2:=J1.write (x:=ex) (e:=ex) (o:=.ext (oS ex C s2.heap.objs.size)) (h':=h') (t':=s2.toks+2) (by rw[aU ne.symm,ee];trivial) (.inl Z) (λb u nb e=>by
  rcases a1J e with⟨rfl,rfl⟩|e
  ·erw[d1]
  ·erw[k3 b u nb e]) #[_,k1] #[#[_,fs,k1,g2,Z,g4,g5,g6],#[_,k1],λh1 h2 #[yg,mF,z1,z2] k=>#[yg,mF,k _ z1,z2]];erw[O,_,J2,q2 _ fr ne]
end
abbrev YQ(rest:BY):Obj:={cls:=.type "tuple",data:=.seq rest.toArray}
abbrev My(C t:Addr):Obj:={cls:=.ref C,data:=.fields (List.toArray [.ref t,.none,.none,.none,.bool false,.none])}
abbrev qK(h:Heap)(C:Addr)(rest:BY):Heap:=(h.push (YQ rest)).push (My C h.objs.size)
section
variable {prog:ai}{w:World}{A:ak}{E:Value->ah->Prop}{h:Heap}{g:Array GenState}{d:Drawn}{t:Nat}{os:OsState}
variable {nm q:Str}{C N fI:Addr}{bs bm ie:BY}{hdct:Bool}{sn:Ch}{sub:BY}{ab:Bool}{col:Option Bool}{dd:Option Addr}{k0 k1 k2 k3 k5:Option Value}{B newId B6:String}{mN:bZ}{rest:BY}{oI:Obj}
def YR:(qK h C rest).get? (h.objs.size+1)=some (My C h.objs.size):=by have:=fX (h.push (YQ rest)) (o:=My C h.objs.size) rfl;rwa [tR]at this
def Bo{b:Addr}(e:h.get? b=some o):(qK h C rest).get? b=some o:=cR _ (cR _ e)
def a2E(F:ExcBaseFacts B newId B6 ie)(T:OwnTail h ie bm){Q:Fin->ah->Prop}(hC:h.get? C=some (excClassObj nm q C N bs bm hdct sn sub ab col dd k0 k1 k2 k3 k5 newId))(hn:h.Ns N mN)(hi:mN "__init__"=some (.ref fI)) (hf:h.get? fI=some oI)(LQ:oI.cls= .type "function")(hz:⇑rest<=sizeLine) (hq:wpAny (model prog w) A (call (.ref fI) (.ref (h.objs.size+1)::rest)) (λr s'=>r= .none/\Q (.done (.ret (.ref (h.objs.size+1)))) s') E #[qK h C rest,g,d,t,os]): wpAny (model prog w) A (Builtin.«type.__call__» #[.ref C::rest,[]]) Q E #[h,g,d,t,os]:=by
 repeat (first|with_reducible erw[zN hC ?_]|with_reducible erw[wpAny_madeBy_exc hC ?_]|wp_step)
 erw[codeAny_call_builtin_code (ac _ F.quiet) (wpAny_check_new_subT F T hC (codeAny_exc_new_subT F T hC ?_ hz))];show wpAny _ _ _ _ _ _;let c1:=Bo (C:=C) (rest:=rest) hC;let f1:=Bo (C:=C) (rest:=rest) hf;let n1:(qK h C rest).Ns N mN:=let#[o,es,ep,e,r]:=hn;#[o,es,ep,Bo e,r];let x1:=YR (h:=h) (C:=C) (rest:=rest);let cc:(Value.ref C::bm).contains (.ref C)=true:=by simp
 let T1:=T.keeps (h':=qK h C rest) λb o e=>Bo e;unfold isInstance
 repeat (first|with_reducible erw[zN x1 ?_]|(with_reducible erw[O9 c1 ?_];rw[cc])|wp_step)
 show wpAny _ _ (typeLookup (.ref C) _) _ _ _;erw[wpAny_typeLookup_tail c1 n1 T1 F.mroIs F.init.lookup ?_];rw[hi];erw[oU (aL ?_)];unfold bindSpecial;erw[aL (wpAny_typeOf (T:="function") #[_,f1,LQ] ?_)];rw[aR aw];erw[bU (aL (gr hq (λr s' #[e,z]=>?_) λ_ _ z=>z))];subst e
 wp_walk;erw[z]
def afN(F:ExcBaseFacts B newId B6 ie)(T:OwnTail h ie bm){Q:Value->ah->Prop}(hC:h.get? C=some (excClassObj nm q C N bs bm hdct sn sub ab col dd k0 k1 k2 k3 k5 newId))(hn:h.Ns N mN)(hi:mN "__init__"=some (.ref fI)) (hf:h.get? fI=some oI)(LQ:oI.cls= .type "function")(hz:⇑rest<=sizeLine) (hq:wpAny (model prog w) (A.under (.builtin "type.__call__" #[.ref C::rest,[]])) (call (.ref fI) (.ref (h.objs.size+1)::rest)) (λr s'=>r= .none/\Q (.ref (h.objs.size+1)) s') E #[qK h C rest,g,d,t,os]): wpAny (model prog w) A (call (.ref C) rest) Q E #[h,g,d,t,os]:=by
 let f1:=tc_lookup;let f2:=tc_bind (.ref C);let hT:(#[h,g,d,t,os]:ah).TypeIs (.ref C) "type":=#[_,hC,Z];erw[xj (SB ?_)];show wpAny _ _ (callAny (.ref C) _) _ _ _
 repeat (any_goals (first|assumption|with_reducible erw[zN hC ?_]|wp_step))
 erw[Z,codeAny_call_builtin_at (ac _ aP) entry_typeCall (wpAny_check_type_call_sub hC (a2E F T hC hn hi hf LQ hz ?_)),B,hq]
end
section
variable {M:Model}{A:ak}{E:Value->ah->Prop}{env:Env}{nm q:Str}{C N:Addr}{bs bm:BY}{hdct:Bool}{sn:Ch}{sub:BY}{ab:Bool}{col:Option Bool}{dd:Option Addr}{k0 k1 k2 k3 k5:Option Value}{newId:String}
def a63{s:ah}{x:Sem Value}{Q:Flow->ah->Prop}(hb:bm.contains (.type "BaseException")=true)(hh:A.handled=none) (h:wpAny M A x (λv s1=>∃e oe fs,v= .ref e/\s1.heap.get? C=some (excClassObj nm q C N bs bm hdct sn sub ab col dd k0 k1 k2 k3 k5 newId)/\s1.heap.get? e=some oe/\oe.cls= .ref C/\oe.data= .fields fs/\fs[1]? =some .none/\E (.ref e) s1) E s): wpAny M A (raiseStmt env (some x) none) Q E s:=by
 let cb:(Value.ref C::bm).contains (.type "BaseException")=true:=by rw[a1F,hb,j01]
 unfold raiseStmt;erw[aL (gr h (λv s1 #[e,oe,fs,ev,hC,he,hc,sH,h1,hE]=>?_) λ_ _ z=>z)];subst ev;let(hp,g,d,tk,os):=s1;let(oc,odd,Ko,gN):=oe;cases hc;cases sH
 repeat (first|with_reducible erw[zN he ?_]|with_reducible erw[zN hC ?_]|(with_reducible erw[O9 hC ?_];rw[cb])|rw[h1]|wp_step)
 erw[wpAny_raiseNew_none hh hE]
end
def zL(P:ai)(w:World):mO:=λouter H s E e s'=>∃(ex:Addr)(cls:Value)(dx:Option Addr)(H':Hp)(B:Heap),e= .ref ex/\s'.os=s.os/\AllBare s'.gens/\qV B outer ex cls dx .none s'.heap/\Fl P w outer H s.heap ex H' B s'.heap/\E cls dx H'
def N9:del H p p=none:=by unfold del;rw[aR rfl]
def zv{b:Addr}(h:b≠p):del H p b=H b:=by unfold del;rw[aV h]
theorem fF.del{P:ai}{w:World}(ok:fF P w H h)(e:H p=some (.ext φ)):fF P w (del H p) h:=λb u q=>by
 let(nb,q):=ZE.mp q;refine(ok b u q).oZ (λ_ _ _ z=>z) (λc z=>?_) λc xs z=>?_
 ·rw[zv (λy=>by rw[y,e]at z;cases z)];erw[z]
 ·rw[zv (λy=>by rw[y,e]at z;cases z)];erw[z]
section
variable {P:ai}{w:World}{K:ag}{mg:bZ}{aB:Heap}{N:Ch}{qual:Str}{scope:Scope}{f:Addr}{cd:Value}{A:ak}{outer:Cl}{s:ah}{H:Hp}{E:XK}{ay:By}{O:St}{H1:Hp}{s1:ah}{ex:Addr}{C:Addr}{dx:Addr}
def A4(I:Inv (jY (zL P w) P w K mg aB N qual scope f cd A outer s H E) ay O H1 s1)(hx:H1 ex=some (.ext (oS ex C dx)))(hs:s.heap.objs.size<=ex)(q:E (.ref C) (some dx) (del H1 ex)): (jY (zL P w) P w K mg aB N qual scope f cd A outer s H E).xe (.ref ex) s1:=by
 let iI:s1.heap.FunFrames aB (envOfC qual scope s.heap.objs.size f cd::outer):=I.stack;let nK:∀env∈(envOfC qual scope s.heap.objs.size f cd::outer),∀b,env.frame=some b->b∈ex::gG (envOfC qual scope s.heap.objs.size f cd::outer):=λenv he b hb=>.tail _ (BS.mpr #[env,he,hb]);let hB:(W.hideAll s1.heap (ex::gG (envOfC qual scope s.heap.objs.size f cd::outer))).StaysIn s1.heap:=λb o e=>W.of_hideAll _ e;let((ob,fs,g1,g2,g3,g4,g5,g6),_,_):=(show gQ P w H1 s1.heap ex (.ext (oS ex C dx))from I.bD ex _ hx);let nw:s.heap.get? ex=none:=HT hs;let Gv:∀b o,s.heap.get? b=some o->b∉gG outer->b∉ex::gG (envOfC qual scope s.heap.objs.size f cd::outer):=λb o e hb hm=>by
  rcases dj.mp hm with rfl|hm
  ·rw[nw]at e;cases e
  let(env,he,hf):=BS.mp hm;rcases dj.mp he with rfl|he
  ·let e1:s.heap.objs.size=b:=fm hf
   let h1:=cP e;rw[<-e1]at h1;erw[absurd h1 (xu _)]
  ·erw[hb (BS.mpr #[env,he,hf])]
 let Ku:∀b u,H1 b=some u->(∀φ,u≠ .ext φ)->del H1 ex b=some u:=λb u e n=>by rw[zv (λz=>by rw[z,hx]at e;erw[n _ (fm e).symm])];erw[e]
 let F0:Fl P w outer H s.heap ex (del H1 ex) (W.hideAll s1.heap (ex::gG (envOfC qual scope s.heap.objs.size f cd::outer))) s1.heap:=by
  erw[#[I.aB.keep,I.aB.slot,λb o e n hb=>?_,I.aB.there,λb xs e=>Ku b _ (I.aB.mY b xs e) (λ_ z=>nomatch z),λb o u e=>Ku b _ (I.aB.mG b o u e) (λ_ z=>nomatch z),λb ps e=>?_],I.bD.del hx,λb o e n hb=>Ol _ (I.aB.keep b o e n hb (gy)) (Gv b o e hb),λb o e=>?_,λb o e hb=>?_,λb hb=>?_,nw,N9]
  ·by_cases z:b=ex
   ·rw[z];erw[N9]
   ·rw[zv z];erw[I.aB.free b o e n hb]
  ·let(more,e1):=I.aB.ng b ps e
   erw[more,Ku b _ e1 (λ_ z=>nomatch z)]
  ·let(nb,e):=ZE.mp e
   let(yg,e1):=(I.bD b o e).there;erw[yg,Ol _ e1 λhm=>?_];rcases dj.mp hm with z|hm
   ·erw[nb z]
   ·rw[I.FO b hm]at e
    cases e
  ·let(yg,e1):=I.aB.there b o e (gy)
   erw[yg,Ol _ e1 (Gv b o e hb)]
  ·let(env,he,hf):=BS.mp hb
   let e1:=I.FO b (BS.mpr #[env,.tail _ he,hf]);by_cases z:b=ex
   ·rw[z];erw[N9]
   ·rw[zv z];erw[e1]
 show wpAny (model P w) (A.deeper (envOfC qual scope s.heap.objs.size f cd)) (leaving (envOfC qual scope s.heap.objs.size f cd) (.ref ex)) _ _ _;erw[a9Z (L:=s.heap.objs.size) I.ok.frames (W.funFrames_hide iI nK) Z g1 hB (W.hideAll_none _ (.head _)) g4 g5 g6 λh' x1 x2=>?_,B,ex,.ref C,some dx,del H1 ex,ww,I.os,I.bare,by rw[g2,g3]at x1;erw[x1],F0.step hB x1.1 x2 iI.2.2,q]
end
def Mx(K:ag)(C fI:Addr)(ie:BY)(newId:String):Bool:=match K.lookup C with |some #[.type "type",_,.cls cd,sl]=>(match cd.mro,sl.toList with | .ref C'::bm,[_,_,_,_,some (.builtin n),_]=>C'==C&&n==newId&& !cd.hasDel&&W.tailIn K ie bm&&W.nsOkIn K cd.ns&&(W.nsIn K cd.ns "__init__"==some (some (.ref fI))) |_,_=>false) |_=>false
structure zJ(K:ag)(mg:bZ)(x:Str)(C fI:Addr)(ie:BY)(newId:String):Prop where
 at':mg x=some (.ref C)
 ok:Mx K C fI ie newId=true
def a8v{K:ag}{h:Heap}{N:Addr}{m:bZ}{n:Str}{v:Value}(X:K.In h)(G:h.Ns N m)(e:W.nsIn K N n=some (some v)):m n=some v:=by
 let(o,es,ep,ho,hd,_,hf):=G;unfold W.nsIn at e;split at e
 ·rename_i c d df n' sl q
  let z:=X _ _ q;rw[ho]at z;cases z;cases hd;split at e
  ·rename_i en he
   cases e;rw[<-hf];unfold nsFind findBy;rw[<-j00,he];rfl
  ·split at e<;>cases e
 ·cases e
def zJ.own{K:ag}{mg:bZ}{C:Addr}(e:zJ K mg x C fI ie newId)(X:K.In h): ∃tl N nm q bs hdct sn sub ab col dd k0 k1 k2 k3 k5 mN,h.get? C=some (excClassObj nm q C N bs tl hdct sn sub ab col dd k0 k1 k2 k3 k5 newId)/\h.Ns N mN/\mN "__init__"=some (.ref fI)/\OwnTail h ie tl:=by
 let q:=e.ok;unfold Mx at q;split at q
 ·rename_i dd cd sl ho
  split at q
  ·rename_i D2 bl a0 a1 a2 a3 nn a5 hm hs
   simp only[gf,gU,OT]at q;let(((((r1,r2),DH),ht),bD),DC):=q;subst r1 r2;let(c1,c2,c3,c4,c5,c6,c7,c8,c9,c10,c11):=cd;dsimp only at hm DH bD DC;subst hm DH;obtain⟨l⟩:=sl;simp only at hs;subst hs;let G:=Heap.Ns.of_isNs (W.isNs_of_in X bD);erw[bl,c4,c1,c5,c2,c6,c7,c8,c9,c10,dd,a0,a1,a2,a3,a5,_,X _ _ ho,G,a8v X G DC,W.tail_of_in X ht]
  ·cases q
 ·cases q
def fnAt(K:ag)(f:Addr):Bool:=match K.lookup f with |some o=>o.cls== .type "function" |none=>false
def acP{K:ag}(X:K.In h)(e:fnAt K f=true):∃o,h.get? f=some o/\o.cls= .type "function":=by
 unfold fnAt at e;split at e
 ·rename_i o ho
  erw[o,X _ _ ho,gf.mp e]
 ·cases e
def a2N(E:XK)(C:Addr)(sp:Sp)(t:TA):TS:=λ_ O H=>t O H λvs H1=>⇑vs<=sizeLine/\∀ex,H1 ex=none->sp (.ref ex::vs) (bn H1 ex (.ext (vm ex C))) (λv H2=>v= .bP/\∃dx,H2 ex=some (.ext (oS ex C dx))/\E (.ref C) (some dx) (del H2 ex)) (λ_ _ _=>False)
def qY(ex:Addr)(cls:Value)(dx:Option Addr)(h:Heap):Prop:=∃o,h.get? ex=some o/\o.cls=cls/\o.dict=dx/\∃fs,o.data= .fields fs/\fs[2]? =some .none
def ClsAt(K:ag)(C:Addr):Prop:=∀h,K.In h->∃nm q N bs tl hdct sn sub ab col dd k0 k1 k2 k3 k5 newId,h.get? C=some (excClassObj nm q C N bs tl hdct sn sub ab col dd k0 k1 k2 k3 k5 newId)
def zJ.cls{K:ag}{mg:bZ}{C:Addr}(e:zJ K mg x C fI ie newId):ClsAt K C:=λh X=>by let(tl,N,nm,q,bs,hdct,sn,sub,ab,col,dd,k0,k1,k2,k3,k5,mN,hC,_):=e.own X;erw[nm,q,N,bs,tl,hdct,sn,sub,ab,col,dd,k0,k1,k2,k3,k5,newId,hC]
end _L
namespace _L
universe PySem.W
section
variable {prog:ai}{w:World}{A:ak}{E:Value->ah->Prop}{h:Heap}{g:Array GenState}{d:Drawn}{t:Nat}{os:OsState}{K:Frag}{x C:Addr}{ox:Obj}{od:Obj}{f:Str}{v:Value}
def aep{b:Bool}{Q:Value->ah->Prop}(X:K.In h)(k:qX K C)(I:InstAt h x ox C (some od))(ha:findIn K (.ref C) f=some none)(hl:lookIn f od=some (some v))(hv:handedIn v=true) (hq:Q v #[h,g,d,t+1,os]):wpAny (model prog w) A (getAttr (.ref x) f b) Q E #[h,g,d,t,os]:=by
 let L0:=I.type (M:=model prog w);let L1:=Ih (M:=model prog w) X k.ga;let _L:=Ih (M:=model prog w) X k.gx;let L3:=looks_find (M:=model prog w) X I (findObj_own k.is ha Z hl);let f3:=Ot.ga.bind (.ref x);let Lx:(Value.builtin "BaseException.__getattribute__"==Value.builtin "object.__getattribute__")=false:=by decide+kernel
 let Dx:(b&&onTheHeap (Value.builtin "BaseException.__getattribute__"))=false:=by cases b<;>rfl
 unfold getAttr getAttrBy;erw[aL (wpAny_mkText (oU (aL (L0.at (aL (L1.at ?_))))))];show wpAny _ _ (if(onTheHeap (Value.ref C)&&Value.builtin "BaseException.__getattribute__"==Value.builtin "object.__getattribute__")=true then _ else _) _ _ _;rw[Lx,OV,aV aw];unfold getAttrByItsOwn hookBefore;erw[aL ?_];show wpAny _ _ (typeLookup (.ref C) "__getattr__") _ _ _;erw[_L.at (aL (Ie (oU ?_)))];unfold callGetattribute;rw[Dx,aV aw];unfold boundAndCalled;rw[f3];erw[aL (bU (xj ?_)),B,Ii Ot.ga.plain KT (Yr X k L0 ?_),B,aL (bU (aL (bU (aL (L0.at (aL (L3.at ?_))))))),B,bU (handed_on hv hq)]
end
inductive agM(K:Frag)(f:Str)(Q:VK)(x:V)(H1:Hp):Prop |mk ex C dx fs i(_:x= .ref ex)(_:H1 ex=some (.ext (qY ex (.ref C) (some dx))))(_:H1 dx=some (.xd fs))(_:qX K C)(_:findIn K (.ref C) f=some none)(_:fs.lookup f=some (.int i))(_:Q (.int i) H1)
def a2H(K:Frag)(ta:TE)(f:Str):TE:=λO H Q=>ta O H λx H1=>agM K f Q x H1
section
variable {X:Cx}{e:Expr}{f:Str}{pos:Pos}{ta:TE}
def Gb(K:Frag)(hK:X.K=K)(he:PE X e ta)(hb:↥(attributeBase e f X.env (eval e X.env)=eval e X.env)):PE X (.Attribute e f pos) (a2H K ta f):=by subst hK;intro ay s O H Q I h;erw[a0p hb (bo (he ay s O H _ I h) λu s1 #[x,H1,I1,rx,ex,C,dx,fs,i,ee,h1,h2,k,ha,hl,q]=>?_)];subst ee;obtain rfl:u=Value.ref ex:=rx;let((o,o1,o2,o3,mF,o4,o5),_,_):=(show gQ X.prog X.w H1 s1.heap ex (.ext (qY ex (.ref C) (some dx)))from I1.bD ex _ h1);let(mA,n1,n2):=(show gQ X.prog X.w H1 s1.heap dx (.xd fs)from I1.bD dx _ h2);let(od,e1,e2):=KY n1;let r:=n2 f;rw[hl]at r;cases em:mA f with |none=>rw[em]at r;erw[r.elim] |some v=>rw[em]at r;let(t,rfl):=(show∃t,v=Value.int i t from r);let J:InstAt s1.heap ex o C (some od):=#[o1,o2,by unfold notCls;rw[o4],by rw[o3];erw[e1]];let(hp,g,d,tk,os):=s1;erw[aep I1.gb k J ha (by rw[e2,em]) Z #[.int i,H1,I1.tok _,#[t,Z],q]]
inductive aiB(K:Frag)(xs:AT)(H:Hp)(Q:VK):Prop |mk (ex:Addr)(C:Addr)(dx:Option Addr)(c:V)(cv:Value)(b:Bool)(_:xs=[.ref ex,c])(_:H ex=some (.ext (qY ex (.ref C) dx)))(_:qX K C)(_:afv c=some cv)(_:kitOne K (.ref C) cv=some b)(_:Q (.bl b) H)
def a6b(K:Frag):AT->Hp->VK->Prop:=λxs H Q=>aiB K xs H Q
inductive aiA(K:Frag)(xs:AT)(H:Hp)(Q:VK):Prop |mk (ex:Addr)(C:Addr)(p:Addr)(dx:Option Addr)(Ds:DO)(b:Bool)(_:xs=[.ref ex,.ref p])(_:H ex=some (.ext (qY ex (.ref C) dx)))(_:qX K C)(_:H p=some (.tup (Ds.map V.ref)))(_:kitAny K (.ref C) (Ds.map Value.ref)=some b)(_:Q (.bl b) H)
def a6a(K:Frag):AT->Hp->VK->Prop:=λxs H Q=>aiA K xs H Q
def Lk(K:Frag)(hK:X.K=K):gq X (.builtin "isinstance") (λxs H Q=>a6b K xs H Q\/a6a K xs H Q):=by
 subst hK;intro ay s O H xs us Q I r h;rcases h with⟨ex,C,dx,c,cv,b,rfl,he,k,hc,kb,q⟩|⟨ex,C,p,dx,Ds,b,rfl,he,k,hp,kb,q⟩
 ·let(u,v,rfl,rx,rc):=vals2 r
  cases(show u=Value.ref ex from rx);let hv:v=cv:=by cases c with |ref D=>cases(show v=Value.ref D from rc);erw[fm hc] |ty n=>cases(show v=Value.type n from rc);erw[fm hc] |_=>cases hc
  subst hv;let(o,o1,o2,_):=(I.bD ex _ he).1;erw[kia_one (Xy k) I.gb #[o,o1,o2] kb (λz=>nomatch z) λtk=>#[.bl b,H,I.tok _,rfl,q]]
 ·let(u,v,rfl,rx,rc):=vals2 r
  cases(show u=Value.ref ex from rx);cases(show v=Value.ref p from rc);let(o,o1,o2,_):=(I.bD ex _ he).1;let(_,its,rv,(cls,dd,dt,sl),h1,h2,n,h3):=(show gQ X.prog X.w H s.heap p (.tup (Ds.map V.ref))from I.bD p _ hp);simp only at h2 h3;subst h2 h3;let e:=P8 rv;subst e;erw[kia_tup (Xy k) I.gb #[o,o1,o2] h1 kb (λz=>nomatch z) λtk=>#[.bl b,H,I.tok _,rfl,q]]
end
end _L
namespace _L
universe PySem
def HW(P:ai)(w:World)(K:ag)(mg:bZ)(aB:Heap)(x:Str)(k:Nat)(sp:Sp):Prop:=∃f fd ps,iX P w K mg aB (zL P w) k f fd ps sp/\mg x=some (.ref f)/\W.keepIn K (.ref f)=true/\Binds K fd ps []
def FA.abT{P:ai}{w:World}{K:ag}{mg:bZ}{aB:Heap}{x:Str}{st:Stmt}{N ps:Ch}{k:Nat}{sp:Sp}(F:FA K mg x st)(S:bA N ps (aY st))(len:∀vs H Q E,sp vs H Q E->⇑vs=ps.length) (hb:∀(kV doc pm:Value)(an:Option Addr)(aO ct:Value)(us:BY),⇑us=ps.length->bindArgs (W.fnOf x x (nP st) (iK st) (aY st) .none kV doc pm an aO ct) #[us,[]]=pure (ps.zip us)) (jV:∀(f:Addr)(aO:Value)(A:ak)(outer:Cl)(s:ah)(H:Hp)(vs:AT)(Q:VK)(E:XK),dI k (A.deeper (envOfC x (aY st) s.heap.objs.size f aO))->sp vs H Q E->∃t,iW (jY (zL P w) P w K mg aB N x (aY st) f aO A outer s H E) (iK st) t/\t {nx:=λ_ H'=>Q .bP H',rt:=Q} (start N vs) H):HW P w K mg aB x (k+1) sp:=by let(f,fd,hm,F):=F.ex;let uS:=F.binds hb;let kp:=F.kp;let(oc,od,kV,doc,pm,an,aO,ct,gN,rfl,lk,gE):=F.ex;erw[f,_,ps,YB lk gE S len λA outer s H vs Q E hr jb=>jV f aO A outer s H vs Q E hr jb,hm,kp,uS]
def afw{K:ag}{mg:bZ}{C:Addr}(X:K.In h)(G:h.Ns mainGlobals mg)(a:W.nsIn K mainGlobals x=some (some (.ref C)))(k:Mx K C fI ie newId=true):zJ K mg x C fI ie newId:=#[zQ X G a,k]
structure qT(k:Nat)(A:ak):Prop where
 dp:A.depth+3*k+5<recursionLimit
 un:A.units+16*k+200<cLine
def qT.sK(r:qT k A)(h:j<=k):qT j A:=#[by have:=r.dp;lia,by have:=r.un;lia]
theorem dI.mark(r:dI k A)(v:Option Value):qT k (A.mark v):=#[r.dp,r.un]
theorem qT.deeper(r:qT (k+1) A)(env:Env):qT k (A.deeper env):=#[by have:=r.dp;show A.depth+1+3*k+5<_;lia,by have:=r.un;show A.units+3+16*k+200<_;lia]
abbrev Na(P:ai)(w:World)(K:ag)(mg:bZ)(aB:Heap)(N:Ch)(qual:Str)(scope:Scope)(f:Addr)(cd:Value)(A:ak)(outer:Cl)(s:ah)(H:Hp):Cx:={(jY je P w K mg aB N qual scope f cd A outer s H (λ_ _ _=>False))with calm:=false,xe:=λ_ _=>False}
def a0V(P:ai)(w:World)(K:ag)(mg:bZ)(aB:Heap)(k:Nat)(f:Addr)(fd:FuncData)(ps:Ch)(sp:Sp):Prop:=(∀vs H Q E,sp vs H Q E->⇑vs=ps.length)/\∀(A:ak)(outer:Cl)(s:ah)(H:Hp)(args:Args)(us:BY)(vs:AT)(Q:VK),qT k A->vn P w K mg aB A outer s H->BindsTo s fd args (ps.zip us)->Vals vs us->sp vs H Q (λ_ _ _=>False)->codeAny (model P w) A (.call (.ref f) args) (λr s'=>match r with| .ok (.ret u)=>CE outer P w H s Q u s'|_=>False) s
def acN{P:ai}{w:World}{K:ag}{mg:bZ}{aB:Heap}{kV:Value}(lk:K.lookup f=some #[oc,od,.func (W.fnOf name qual params body scope dV kV doc pm an aO ct),gN])(gE:W.codeIn K aO qual=true)(S:bA N ps scope)(len:∀vs H Q E,sp vs H Q E->⇑vs=ps.length) (jV:∀(A:ak)(outer:Cl)(s:ah)(H:Hp)(vs:AT)(Q:VK),qT k (A.deeper (envOfC qual scope s.heap.objs.size f aO))->sp vs H Q (λ_ _ _=>False)->∃t,iW (Na P w K mg aB N qual scope f aO A outer s H) body t/\t {nx:=λ_ H'=>Q .bP H',rt:=Q} (start N vs) H): a0V P w K mg aB (k+1) f (W.fnOf name qual params body scope dV kV doc pm an aO ct) ps sp:=by
 erw[len,λA outer s H args us vs Q hr e0 hb r jb=>?_];let hl:=len _ _ _ _ jb;let KX:K.In s.heap:=e0.mod.sF.keeps λb o e=>(e0.bs b o e).1;let lim:s.heap.NoLimit:=e0.mod.nolimit.keeps λb o e=>(e0.bs b o e).1;let hk:∀y∈ps.zip us,scope.names.lookup y.1=some .local\/(scope.names.lookup y.1=some .cell/\((cellsFrom (s.heap.objs.size+1) scope.names []).lookup y.1).isSome=true):=λ#[n,v] hy=>by
  rcases S.par n (BQ hy).1 with q|q
  ·erw[.inl q]
  ·erw[.inr #[q,Om _ _ _ (.inl q)]]
 erw[a1h (by have:=hr.dp;lia) (KX _ _ lk) Z S.co S.gen Z (a1p KX gE) (hb _ _ _ _ ?_),B,a1c S.kind hk λenv he s1 x=>?_];subst he;erw[lim.keeps x.toInCall.keep,codeAny_func ?_];let(t,ht,hq):=jV A outer s H vs Q (hr.deeper _) jb;let e1:vn P w K mg aB {A with handled:=none} outer s H:=#[e0.frames,e0.mod,e0.bs,e0.oQ,e0.lQ,e0.qG,e0.bD,e0.bare];let I:=Lp (CX:=je) (A:={A with handled:=none}) (E:=λ_ _ _=>False) S rfl e1 hl r x;let J:Inv (Na P w K mg aB N qual scope f aO A outer s H) [] (start N vs) H s1:=#[#[I.ok.mod,I.ok.kind,I.ok.glob,I.ok.blt,I.ok.above,I.ok.inj,I.ok.has,I.ok.wR,λh=>(ko h).elim,Go e0.frames,I.ok.xN,I.ok.DV,I.ok.bs,I.ok.oQ,I.ok.vV,I.ok.sT,I.ok.lQ,I.ok.qG],I.os,I.bare,I.aB,I.loc,I.cell,I.free,I.mH,I.pin,I.bD,I.len];erw[gr (ht [] s1 (start N vs) H _ J hq) (λfl s' hs=>?_) λe s' hs=>hs.elim];cases fl with |ret u=>let(v,σ',H',J',rv,q):=hs;erw[v,H',J'.os,J'.bare,J'.aB,J'.bD,rv,q] |next=>let(σ',H',J',q):=hs;erw[V.bP,H',J'.os,J'.bare,J'.aB,J'.bD,Z,q] |brk=>let(_,_,_,q):=hs;erw[False.elim q] |cont=>let(_,_,_,q):=hs;erw[False.elim q]
def O6(P:ai)(w:World)(K:ag)(mg:bZ)(aB:Heap)(x:Str)(k:Nat)(sp:Sp):Prop:=∃f fd ps,a0V P w K mg aB k f fd ps sp/\mg x=some (.ref f)/\W.keepIn K (.ref f)=true/\Binds K fd ps []
def FA.abS{P:ai}{w:World}{K:ag}{mg:bZ}{aB:Heap}{x:Str}{st:Stmt}{N ps:Ch}{k:Nat}{sp:Sp}(F:FA K mg x st)(S:bA N ps (aY st))(len:∀vs H Q E,sp vs H Q E->⇑vs=ps.length) (hb:∀(kV doc pm:Value)(an:Option Addr)(aO ct:Value)(us:BY),⇑us=ps.length->bindArgs (W.fnOf x x (nP st) (iK st) (aY st) .none kV doc pm an aO ct) #[us,[]]=pure (ps.zip us)) (jV:∀(f:Addr)(aO:Value)(A:ak)(outer:Cl)(s:ah)(H:Hp)(vs:AT)(Q:VK),qT k (A.deeper (envOfC x (aY st) s.heap.objs.size f aO))->sp vs H Q (λ_ _ _=>False)->∃t,iW (Na P w K mg aB N x (aY st) f aO A outer s H) (iK st) t/\t {nx:=λ_ H'=>Q .bP H',rt:=Q} (start N vs) H):O6 P w K mg aB x (k+1) sp:=by let(f,fd,hm,F):=F.ex;let uS:=F.binds hb;let kp:=F.kp;let(oc,od,kV,doc,pm,an,aO,ct,gN,rfl,lk,gE):=F.ex;erw[f,_,ps,acN lk gE S len λA outer s H vs Q hr jb=>jV f aO A outer s H vs Q hr jb,hm,kp,uS]
section
variable {X:Cx}{k:Nat}{x:Str}{p pos:Pos}{e:Expr}{es:Cn}{t:TA}{sp:Sp}
def a35(sp:Sp)(t:TA):TE:=λO H Q=>t O H λvs H1=>sp vs H1 Q (λ_ _ _=>False)
def VI(F:O6 X.prog X.w X.K X.mg X.aB x k sp)(hr:qT k X.A)(hg:Gl X x)(ha:PA X (e::es) t)(jU: ~~~((x==("__debug__":Str))=false)) (he:↥(starEach (e::es) X.env=(false,eval e X.env)::starEach es X.env))(ib:↥((backTo pos (starEach es X.env)).any (·.1)=false)):PE X (.Call (.Name x p) (e::es) [] pos) (a35 sp t):=by
 let(f,fd,ps,F,hm,hk,hb):=F;intro ay s O H Q I h;erw[ER (yG I hg hm ?_ jU),B,Iq (h₀:=X.aB) I.ok.mod.sF hk (bo (ha pos ay s O H _ I h) λus s1 #[vs,H1,I1,r,q]=>#[I1.gb,?_]) he ib];let hl:⇑(us++[])=ps.length:=by rw[o8,<-⇑r];erw[F.1 _ _ _ _ q]
 let bt:=hb s1 us I1.gb hl;rw[o8]at bt;erw[xj (zO (F.2 X.A X.stack s1 H1 #[us,[]] us vs Q hr I1.DZ bt r q) λr s' hq=>?_)];cases r with |error e=>erw[hq.elim] |ok fl=>cases fl with |ret u=>erw[I1.after hq] |next=>erw[hq.elim] |brk=>erw[hq.elim] |cont=>erw[hq.elim]
end
end _L
namespace _L
universe PySem
open Builtin Builtin.ObjectAttr
section
variable {prog:ai}{w:World}{A:ak}{E:Value->ah->Prop}{s:ah}{K:ag}{x C dx:Addr}{ox:Obj}{fs:Array Value}{name:Str}{v:Value}{Q:Unit->ah->Prop}{mA:bZ}{ks:Ch}
def a4J(X:K.In s.heap)(hx:s.heap.get? x=some ox)(hc:ox.cls= .ref C)(hd:ox.dict=some dx)(hf:ox.data= .fields fs)(hn:s.heap.Ns1 dx mA)(hw:PySem.Within mA ks)(hz:⇑ks<1000) (hs:W.findIn K (.ref C) "__setattr__"=some (some (.builtin "object.__setattr__")))(hp:Ke K C=true)(ht:W.takerIn K C name=some none)(hh:W.hasDictIn K C=true) (h:∀h',h'.Ns1 dx (λy=>if y=name then some v else mA y)->Heap.SameBut dx s.heap h'->Q () {s with heap:=h',toks:=s.toks+2}):wpAny (model prog w) A (setAttr (.ref x) name v) Q E s:=by
 let(oD,LH,_):=KY hn;let I:W.InstAt s.heap x ox C (some oD):=#[hx,hc,by unfold W.notCls;rw[hf],by rw[hd];erw[LH]];erw[a1m X I hs ?_];let S0:=Fr9;let(cd,gE,ho):=Ir hp;let ne:cd.mro.isEmpty=false:=by cases q:cd.mro with|nil=>rw[q]at ho;simp[rZ,vA]at ho|cons _ _=>rfl
 let sub:W.Looks (model prog w) s.heap (isInstance (.ref x) (.type "object")) true:=I.type.andThen (W.looks_mroIn X (by unfold W.mroIn;rw[gE,j0i,aV (by rw[ne];decide),Ye aw ho]));erw[Ii S0.slot.plain S0.entry (@W.check_slot (model prog w) _ _ {s with toks:=s.toks+1} "object.__setattr__" "object" "__setattr__" (.ref x) [.str name s.toks,v] [] _ S0.kind S0.split sub (S0.args (.ref x) (.str name s.toks) v) ?_)];let(pL,ha,hr):=a1w.mp ht;let hm:W.Looks (model prog w) s.heap (mroOf (.ref C)) cd.mro:=(Ip X gE).andThen .now;let L3:W.Looks (model prog w) s.heap (storeTaker? pL) none:=by cases pL with |none=>erw[.now] |some a=>let(b,hb,e):=zR.mp hr;refine(j0b X hb).andThen ?_;cases b with |false=>erw[.now] |true=>cases e
 rw[W.osa_eq,refuse_eq];erw[aL (aL (pN (s:={s with toks:=s.toks+1}) I.type (aL (pN (s:={s with toks:=s.toks+1}) hm ?_))))];rw[Vk _ ho];erw[bU (aL (pN (s:={s with toks:=s.toks+1}) I.type (aL (pN (s:={s with toks:=s.toks+1}) (a1o X ha) (aL (pN (s:={s with toks:=s.toks+1}) L3 ?_))))))];let(cd2,jn,hd2):=Ir hh;erw[aL (bU (aL (aL (O8 (s:={s with toks:=s.toks+1}) hx ?_))))];rw[hc];erw[aL (pN (s:={s with toks:=s.toks+1}) (Ip X jn) ?_)];rw[hd2,hd];rw[aV aw];erw[bU (a:=some dx) ?_];show wpAny _ _ (storeInDict dx (.str name s.toks) name v) _ _ _;unfold storeInDict newKeyGuard;erw[aL (bU (aL (wpAny_nsSet1 hn λh2 n2 sb=>?_)))];let(o2,MD,ep2,e1,e2,e3):=n2.count (a1l name v hw);erw[aL (wpAny_lookBehind e1 (by rw[e2];erw[pastItsLine_dict (cL e3 (by rw[kY,Ig];erw[dJ hz aw]))]) ?_),B,bU (h h2 n2 sb)]
end
inductive aik(K:ag)(f:Str)(D:Ends)(O:St)(y:V)(x:V)(H2:Hp):Prop |mk ex C dx fs(_:x= .ref ex)(_:H2 ex=some (.ext (oS ex C dx)))(_:H2 dx=some (.xd fs))(_:BB K C f)(_:⇑fs<1000)(_:D.nx O (bn H2 dx (.xd (jh f y fs))))
def a4Z(K:ag)(ta tv:TE)(f:Str):TS:=λD O H=>tv O H λy H1=>ta O H1 λx H2=>aik K f D O y x H2
section
variable {X:Cx}{o e value:Expr}{f:Str}{pos pos' vC:Pos}{ta tv:TE}
def a6p(K:ag)(hK:X.K=K)(ha:PE X o ta)(hv:PE X value tv)(hs:↥(swapsWith value (some (.Attribute o f pos')) pos.line X.env=pure false)):PS X (.Assign [.Attribute o f pos'] value pos) (a4Z K ta tv f):=by
 subst hK;intro ay s O H D I h;erw[a1f (bo (hv ay s O H _ I h) λu s1 #[y,H1,I1,ry,q]=>bo (ha ay s1 O H1 _ I1 q) λov s2 #[x,H2,I2,rx,ex,C,dx,fs,e1,ee,ed,xc,hl,q2]=>?_) hs];subst e1;obtain rfl:ov=Value.ref ex:=rx;let((ob,vs,g1,g2,g3,g4,g5,g6),_,_):=(show gQ X.prog X.w H2 s2.heap ex (.ext (oS ex C dx))from I2.bD ex _ ee);let(mA,n1,n2):=(show gQ X.prog X.w H2 s2.heap dx (.xd fs)from I2.bD dx _ ed);let hw:PySem.Within mA (fs.map (·.1)):=λg hg=>by cases e:fs.lookup g with
  |none=>let r:=n2 g;rw[e]at r;cases em:mA g with |none=>erw[absurd em hg] |some _=>rw[em]at r;erw[r.elim]
  |some z=>erw[gS.mpr #[(g,z),lookup_mem e,Z]]
 erw[a4J I2.gb g1 g2 g3 g4 n1 hw (by rw[bC];erw[hl]) xc.sa xc.ov xc.tk xc.hd λh' k1 k2=>?_];let keep:∀b u,b≠dx->s2.heap.get? b=some u->h'.get? b=some u:=λb u nb z=>(k2.2 b nb).ao z;let nd:∀b,H2 b=none->b≠dx:=λb z y=>by rw[y,ed]at z;cases z
 let(oD,_,_,eD,_):=id k1;let un:Un X.fs [] H2 (bn H2 dx (.xd (jh f y fs))) s2.heap h':=by
  erw[λb o z n _ _=>keep b o (nd b n) z,λb o z n _ _=>#[o.slots,keep b o (nd b n) z],λb o z n _=>by rw[aU (nd b n)];erw[n],λb o z _=>?_,λb xs z=>?_,λb o u z=>?_,λb ps z=>#[#[],?_]]
  ·by_cases hb:b=dx
   ·rw[hb];erw[oD,eD]
   ·erw[o,keep b o hb z]
  ·rw[aU (λy=>by rw[y,ed]at z;cases z)];erw[z]
  ·rw[aU (λy=>by rw[y,ed]at z;cases z)];erw[z]
  ·rw[aU (λy=>by rw[y,ed]at z;cases z),Array.append_empty];erw[z]
 let bD:fF X.prog X.w (bn H2 dx (.xd (jh f y fs))) h':=λb u z=>by
  by_cases hb:b=dx
  ·subst hb
   rw[bQ]at z;cases z;erw[_,k1,λg=>?_];rw[KW];by_cases hg:g=f
   ·rw[aR hg,aR hg];erw[ry]
   ·rw[aV hg,aV hg];erw[n2 g]
  ·rw[aU hb]at z
   refine(I2.bD b u z).oZ (λc v hc y=>keep c v ?_ y) (λc y=>?_) λc xs y=>?_
   ·rcases hc with rfl|hc
    ·erw[hb]
    ·intro y;rw[y,ed]at hc;cases hc
   ·rw[aU (λy'=>by rw[y',ed]at y;cases y)];erw[y]
   ·rw[aU (λy'=>by rw[y',ed]at y;cases y)];erw[y]
 erw[O,_,I2.un (t':=s2.toks+2) un bD,q2]
end
end _L
namespace _L
universe PySem
section
variable {X:Cx}{x:Str}{C fI:Addr}{ie:BY}{newId B6 B:String}{e e2:Expr}{t:TA}{np fb pos:Pos}{k:Nat}{fd:FuncData}{ps:Ch}{sp:Sp}
def Au(hx:∀ay O H s ex dx,Inv X ay O H s->H ex=some (.ext (oS ex C dx))->X.s₀.heap.objs.size<=ex->E (.ref C) (some dx) (del H ex)->X.xe (.ref ex) s) (EC:zJ X.K X.mg x C fI ie newId)(FB:ExcBaseFacts B newId B6 ie)(hh:X.A.handled=none)(F:iX X.prog X.w X.K X.mg X.aB je k fI fd ps sp)(hr:dI (k+1) X.A)(hb:Binds X.K fd ps [])(hf:fnAt X.K fI=true)(hg:Gl X x)(ha:PA X [e,e2] t) (he:↥(starEach [e,e2] X.env=[(false,eval e X.env),(false,eval e2 X.env)]))(hd: ~~~((x==("__debug__":Str))=false)): PS X (.Raise (some (.Call (.Name x np) [e,e2] [] fb)) none pos) (a2N E C sp t):=by
 intro ay s O H D I h;let(tl,Nn,nm,q,bs,hdct,sn,sub,ab,col,dd,k0,k1,k2,k3,k5,mN,hC,hN,hi,T):=EC.own I.ok.mod.sF;let hA:=ha fb ay s O H _ I h;rw[arm_exec_Raise];erw[aL (tJ (a63 (C:=C) (nm:=nm) (q:=q) (N:=Nn) (bs:=bs) (bm:=tl) (hdct:=hdct) (sn:=sn) (sub:=sub) (ab:=ab) (col:=col) (dd:=dd) (k0:=k0) (k1:=k1) (k2:=k2) (k3:=k3) (k5:=k5) (newId:=newId) (T.hasType FB.hasBase) hh (aL (gr (wpAny_Call_ofName (yG I hg EC.at' ?_ hd)) (λv s3 h3=>aL (tJ (bU h3))) λ_ _ z=>z))))];unfold callWith;rw[he]at hA⊢;erw[aL (oU (gr (Gc (Q:=λ(a:Args) s2=>a.kw=[]/\AP X ay O (λvs H1=>⇑vs<=sizeLine/\∀ex,H1 ex=none->sp (.ref ex::vs) (bn H1 ex (.ext (vm ex C))) (λv H2=>v= .bP/\∃dx,H2 ex=some (.ext (oS ex C dx))/\E (.ref C) (some dx) (del H2 ex)) (λ_ _ _=>False)) a.pos s2) (bo hA λus s2 z=>#[Z,z])) (λa s2 z=>aL (tJ ?_)) λ_ _ z=>z))];let(us,akw):=a;let(hkw,vs,H1,I1,r1,z1,w1):=z;obtain rfl:akw=[]:=hkw;let C2:=I1.bk _ _ hC;let T2:=T.keeps I1.bk;let N2:=hN.keeps I1.bk;let(oI,f1,f2):=acP I1.gb hf;let lus:⇑us<=sizeLine:=by rw[<-⇑r1];erw[z1]
 let(hp,g,d,tk,os):=s2;rw[show(backTo fb [(false,eval e X.env),(false,eval e2 X.env)]).any (·.1)=false from rfl];erw[aL (wpAny_keeperOf_exc C2 ?_)];let I1':Inv X ay O H1 #[qK hp C us,g,d,tk,os]:=I1.kept (t':=tk) (h':=qK hp C us) λb u e=>Bo e;let xa:=YR (h:=hp) (C:=C) (rest:=us);let fx:H1 (hp.objs.size+1)=none:=I1.bD.fresh (Iw _);let I2:Inv X ay O (bn H1 (hp.objs.size+1) (.ext (vm (hp.objs.size+1) C))) #[qK hp C us,g,d,tk,os]:=by erw[I1.laid (a:=hp.objs.size+1) (o:=.ext (vm (hp.objs.size+1) C)) (h':=qK hp C us) (t':=tk) (λb u e=>Bo e) (Iw _) ?_,B,#[xz,xa,wP,wP,Z],#[_,xa],λh1 h2 #[yg,mF,y1,y2] k=>#[yg,mF,k _ y1,y2]]
 let hq:=w1 (hp.objs.size+1) fx;let r2:Vals (V.ref (hp.objs.size+1)::vs) (Value.ref (hp.objs.size+1)::us):=.cons Z r1;let hl:⇑(Value.ref (hp.objs.size+1)::us++[])=ps.length:=by let e:=⇑r2;rw[F.len _ _ _ _ hq]at e;rw[o8];erw[e.symm]
 let bt:=hb #[qK hp C us,g,d,tk,os] (Value.ref (hp.objs.size+1)::us) I2.gb hl;rw[o8]at bt;erw[aL (afN FB T2 C2 N2 hi f1 f2 lus (xj (zO (F.run _ X.stack _ _ #[Value.ref (hp.objs.size+1)::us,[]] (Value.ref (hp.objs.size+1)::us) _ _ (λ_ _ _=>False) (hr.make C us []) (I2.DZ.make C us []) bt r2 hq) λr s' jc=>?_)))];cases r with |error e=>erw[False.elim jc] |ok fl=>cases fl with |ret u=>let(v,H',I3,rv,ev,dx,ed,q3):=I2.after jc;subst ev;erw[rv,aL (oU (wpAny_point (bU ?_)))];let((ob,fs,g1,g2,g3,g4,g5,g6),_,_):=(show gQ X.prog X.w H' s'.heap _ (.ext (oS (hp.objs.size+1) C dx))from I3.bD _ _ ed);erw[_,ob,fs,Z,I3.bk _ _ hC,g1,g2,g4,g5,hx ay O H' s' _ dx I3 ed (cL I1.sz (Iw _)) q3] |next=>erw[False.elim jc] |brk=>erw[False.elim jc] |cont=>erw[False.elim jc]
end
def tH.ZK{X:Cx}{st:Stmt}{rest:List Stmt}{t u:TS}(h1:PS X st t)(h2:tH X rest u):tH X (st::rest) (J0 t u):=by intro s O H D I h;erw[Oa (gr (h1 [] s O H _ I h) (λf s1 q=>?_) λ_ _ x=>x)];cases f with |next=>let(σ',H',I',q'):=q;erw[h2 s1 σ' H' D I' q'] |brk=>erw[q] |cont=>erw[q] |ret v=>erw[q]
def HP(CX:mO)(X:Cx)(E:St->XK):Prop:=∀(ay:By)(O:St)(H:Hp)(s:ah)(e:Value)(s':ah),Inv X ay O H s->CX X.stack H s (E O) e s'->X.xe e s'
section
variable {X:Cx}{CX:mO}{k:Nat}{f:Addr}{fd:FuncData}{ps:Ch}{sp:Sp}{dvs:AT}{ds:BY}{E:St->XK}{x:Str}{p pos:Pos}{e:Expr}{es:Cn}{t:TA}
def a5m{ay:By}{O:St}{H:Hp}{s:ah}{Q:VK}{us:BY}{vs:AT}(F:iX X.prog X.w X.K X.mg X.aB CX k f fd ps sp)(hr:dI k X.A)(hb:Binds X.K fd ps ds)(hd:Vals dvs ds)(hx:HP CX X E)(I:Inv X ay O H s)(r:Vals vs us)(h:sp (vs++dvs) H Q (E O)):wpAny (model X.prog X.w) X.A (call (.ref f) us) (EP X ay O Q) X.xe s:=by
 let r2:Vals (vs++dvs) (us++ds):=r.append hd;let hl:⇑(us++ds)=ps.length:=by rw[<-⇑r2];erw[F.len _ _ _ _ h]
 erw[xj (zO (F.run X.A X.stack s H #[us,[]] (us++ds) (vs++dvs) Q (E O) hr I.DZ (hb s us I.gb hl) r2 h) λr s' hq=>?_)];cases r with |error e=>erw[hx ay O H s e s' I hq] |ok fl=>cases fl with |ret u=>erw[I.after hq] |next=>erw[False.elim hq] |brk=>erw[False.elim hq] |cont=>erw[False.elim hq]
def a34(sp:Sp)(E:St->XK)(t:TA):TE:=λO H Q=>t O H λvs H1=>sp vs H1 Q (E O)
def a6P(F:HW X.prog X.w X.K X.mg X.aB x k sp)(hp:HP (zL X.prog X.w) X E)(hr:dI k X.A)(hg:Gl X x)(ha:PA X (e::es) t)(jU: ~~~((x==("__debug__":Str))=false)) (he:↥(starEach (e::es) X.env=(false,eval e X.env)::starEach es X.env))(ib:↥((backTo pos (starEach es X.env)).any (·.1)=false)): PE X (.Call (.Name x p) (e::es) [] pos) (a34 sp E t):=by let(f,fd,ps,F,hm,hk,hb):=F;intro ay s O H Q I h;erw[ER (yG I hg hm ?_ jU),B,Iq (h₀:=X.aB) I.ok.mod.sF hk (bo (ha pos ay s O H _ I h) λus s1 #[vs,H1,I1,r,q]=>#[I1.gb,?_]) he ib,B,a5m (dvs:=[]) (ds:=[]) F hr hb .nil hp I1 r (by rw[o8];erw[q])]
end
inductive agO(i:Nat)(Cs:Addr->Prop)(tb:(St->XK)->TS)(th:TS)(D:Ends)(O:St)(H:Hp):Prop |mk (E:St->XK)(_:tb E D O H)(_:(∀σ' cls dx H',E σ' cls dx H'->∃C,cls= .ref C/\Cs C))(_:∀(C ex:Addr)(dx:Option Addr)(σ':St)(H':Hp),⇑σ'=O.length->E σ' (.ref C) dx H'->H' ex=none->th {nx:=λσ2 H2=>D.nx (σ2.set i none) H2,rt:=D.rt,bk:=λσ2 H2=>D.bk (σ2.set i none) H2,ct:=λσ2 H2=>D.ct (σ2.set i none) H2} (σ'.set i (some (.ref ex))) (bn H' ex (.ext (qY ex (.ref C) dx))))
def a2K(i:Nat)(Cs:Addr->Prop)(tb:(St->XK)->TS)(th:TS):TS:=λD O H=>agO i Cs tb th D O H
section
variable {X:Cx}{i:Nat}{n y:Str}{Dc:Addr}{HD:BY}{newD:String}{body Cj:List Stmt}{b0:Stmt}{np wg pos:Pos}{tb:(St->XK)->TS}{th:TS}{Cs:Addr->Prop}
def a6r(iI:X.stack=X.env::X.outer)(hfr:X.env.frame=some X.env.locals)(hN:X.N.Nodup)(hi:X.N[i]? =some n)(hk:X.env.kindOf n=some .local)(hs:X.env.scope.names.lookup n=some .local) (hb:∀(E:St->XK)(xe:Value->ah->Prop),HP (zL X.prog X.w) (X.mV xe) E->iW (X.mV xe) body (tb E)) (hg:Gl X y)(hy:Exc X.K X.mg y Dc HD newD)(LY:HD.contains (.type "BaseException")=true)(M4:∀C,Cs C->ClsAt X.K C/\takes X.K C Dc) (hh:∀ex,iW (X.hand ex) (b0::Cj) th)(jU: ~~~((y==("__debug__":Str))=false)): PS0 X (.Try body [.ExceptHandler (some (.Name y np)) (some n) (b0::Cj) wg] [] [] pos) (a2K i Cs tb th):=by
 intro s O H D I h;let(E,hq,cU,hth):=h;erw[wpAny_Try_except ?_];let ps:HP (zL X.prog X.w) (X.mV λe s₁=>wpAny (model X.prog X.w) X.A (noteFrame e X.env) (λ_ s₂=>wpAny (model X.prog X.w) X.A (setFlight e none) (λ_ s₃=>wpAny (model X.prog X.w) X.A (handleBy e X.env [.ExceptHandler (some (.Name y np)) (some n) (b0::Cj) wg]) (SP X [] D) X.xe s₃) X.xe s₂) X.xe s₁) E:=by
  intro Ka σ' H1 s1 ev s2 I1 hx;let(ex,cls,dx,H',B,rfl,ho,Y8,Mb,F,hE):=hx;let(C,rfl,hC):=cU σ' cls dx H' hE;let I0:Inv X [] σ' H1 s1:=I1.rF.ag5;let(XX,g2,d2,t2,o2):=s2;let acQ:qV B (X.env::X.outer) ex (.ref C) dx .none XX:=by rw[<-iI];erw[Mb]
  let hA:X.A.frames=some (X.env::X.outer):=by rw[<-iI];erw[I0.ok.frames]
  erw[a8A (s:=#[XX,g2,d2,t2,o2]) hA hfr acQ λh4 Ha up4=>?_,B,Mc Ha λh5 DU up5=>?_];let F4:=F.step Mb.1 Ha.1 up4 Mb.2.2.1;let ff4:h4.FunFrames B X.stack:=by rw[iI];erw[Ha.2.2.1]
  let F5:=F4.step Ha.1 DU.1 up5 ff4;let ff5:h5.FunFrames B X.stack:=by rw[iI];erw[DU.2.2.1]
  let I5:Inv X [] σ' H' #[h5,g2,d2,t2,o2]:=I0.Em (s':=#[h5,g2,d2,t2,o2]) ho F5.un F5.bD Y8 (λb hb=>(gy hb).elim);erw[wpAny_handleBy_cons (codeAny_handlers_test (yG (X:=X.hand ex) (I5.hand ex) hg hy.at' ?_ jU)) (by intro q;cases q)];let(eC,tk):=M4 C hC;let(nm,q,Nn,bs,tl,hdct,sn,sub,ab,col,dd,k0,k1,k2,k3,k5,nw,oC):=eC _ I5.gb;let(tl',Nn',WC,q',bs',Y9,Qw,PR,ab',ZR,ZH,j0,j1,j2,j3,j5,mN',oD,ak7,ajZ,TL'):=(hy.own I5.gb).obj;let(ob,hob,ab3,_):=DU.there;let LB:(Value.ref C::tl).contains (.ref Dc)=true:=by
   let(cd,ha,wy):=a1w.mp tk;split at wy
   ·cases wy
   ·let hc:=fm wy
    unfold W.clsIn at ha;split at ha
    ·rename_i c1 c2 cd' c4 hl
     cases ha;let e1:=I5.gb _ _ hl;rw[show(Shared.heap #[h5,g2,d2,t2,o2]).get? C=some _ from oC]at e1;let e2:=fm e1;unfold excClassObj at e2;injection e2 with _ _ e3 _;injection e3 with e4;rw[<-e4]at hc;erw[hc]
    ·cases ha
  erw[aen oC oD hob ab3 (TL'.hasType LY) LB ?_,B,codeAny_handlers_suite_as ?_,B,Mc (s:=#[h5,g2,d2,t2,o2]) DU λh6 YC up6=>?_];let F6:=F5.step DU.1 YC.1 up6 ff5;let un6:Un (gG X.stack) [] H1 (bn H' ex (.ext (qY ex (.ref C) dx))) s1.heap h6:=by
   let nb:∀b u,H' b=some u->b≠ex:=λb u e z=>by rw[z,F6.ne]at e;cases e
   erw[F6.un.keep,F6.un.slot,λb o e n hx=>?_,F6.un.there,λb xs e=>?_,λb o u e=>?_,λb ps e=>?_]
   ·rw[aU (λz=>by rw[z,F6.nw]at e;cases e)];erw[F6.un.free b o e n hx]
   ·have:=F6.un.mY b xs e;rw[aU (nb b _ this)];erw[this]
   ·have:=F6.un.mG b o u e;rw[aU (nb b _ this)];erw[this]
   ·let(more,e1):=F6.un.ng b ps e;erw[more,by rw[aU (nb b _ e1)];erw[e1]]
  let ab0:fF X.prog X.w (bn H' ex (.ext (qY ex (.ref C) dx))) h6:=λb u e=>by
   by_cases Yb:b=ex
   ·subst Yb
    rw[bQ]at e;cases e;let(o6,e6,c6):=YC.there;erw[#[o6,e6,c6],#[o6,e6],λg1 g3 #[o7,e7,c7] k=>#[o7,k o7 e7,c7]]
   ·rw[aU Yb]at e
    refine(F6.bD b u e).oZ (λc v hc q=>q) (λc q=>?_) λc xs q=>?_
    ·rw[aU (λz=>by rw[z,F6.ne]at q;cases q)];erw[q]
    ·rw[aU (λz=>by rw[z,F6.ne]at q;cases q)];erw[q]
  let I6:Inv X [] σ' (bn H' ex (.ext (qY ex (.ref C) dx))) #[h6,g2,d2,t2,o2]:=I0.Em (s':=#[h6,g2,d2,t2,o2]) ho un6 ab0 Y8 (λb hb=>(gy hb).elim);erw[A9 (X:=X.hand ex) (I6.hand ex) hN hi (.inl hs) (v:=.ref ex) Z (λs7 I7=>?_) (.inr hs),B,gr (hh ex [] s7 _ _ _ I7 (hth C ex dx σ' H' (I0.len.ao I.len.symm) hE F.ne)) (λf s8 q=>?_) λe s8 q=>False.elim q];let un:∀(σ2:St)(H2:Hp)(Q:Unit->ah->Prop),Inv (X.hand ex) [] σ2 H2 s8->(∀s9,Inv X [] (σ2.set i none) H2 s9->Q () s9)->wpAny (model X.prog X.w) X.A (do bindName X.env n .none;unbindBehindTheSuite X.env n wg) Q X.xe s8:=λσ2 H2 Q I8 hq=>by
   let I8':=I8.back I0.ok;let bu:i<⇑σ2:=by rw[I8'.len];exact(ck.mp hi).1
   unfold bindName;erw[aL (aL (oU (wpAny_point (aL (A9 I8' hN hi (.inl hs) (v:=.bP) Z (λs9 I9=>wpAny_point ?_) (.inr hs)))))),B,a2c I9 hN hi hk hs (v:=.bP) (BX bu) λmj xg=>hq mj ?_];rw[OB]at xg;erw[xg]
  cases f with |next=>let(σ2,H2,I8,dq):=q;erw[un σ2 H2 _ I8 λs9 I9=>#[_,H2,I9,dq]] |brk=>let(σ2,H2,I8,dq):=q;erw[un σ2 H2 _ I8 λs9 I9=>#[_,H2,I9,dq]] |cont=>let(σ2,H2,I8,dq):=q;erw[un σ2 H2 _ I8 λs9 I9=>#[_,H2,I9,dq]] |ret u=>let(v,σ2,H2,I8,r8,dq):=q;erw[un σ2 H2 _ I8 λs9 I9=>#[v,_,H2,I9,r8,dq]]
 erw[gr (hb E _ ps [] s O H D (I.mV _) hq) (λf s1 q=>?_) λe s1 q=>q];let q':=q.rF;cases f with |next=>erw[Ia q'] |brk=>erw[q'] |cont=>erw[q'] |ret u=>erw[q']
end
end _L
namespace _c
universe _L _l _d _C _P _W _R
open _O (oR na dL iN ce iF sB dO OkI OkIs)
open _O (Itm)
open _O (oR)
open _R (div_pos)
def top(i:Nat):Stmt:=PySem.Challenge.pw_glidequeue_k51_whole_no_tape_is_faster.main.body.getD i (.Pass #[0,0,0,0])
abbrev SV:=top 91
abbrev UK:=top 90
abbrev UG:=top 27
abbrev Uk:=top 15
abbrev Uc:=top 103
abbrev Ub:=top 29
abbrev Ud:=top 26
abbrev TY:=top 22
abbrev SO:=top 23
abbrev U9:=top 24
abbrev Ua:=top 25
abbrev Uu:=top 20
abbrev Ur:=top 19
abbrev U5:=top 97
abbrev Ut:=top 93
abbrev Ue:=top 92
abbrev Uj:=top 51
def mJ:Str:="abcdefghijklmnopqrstuvwxyz"
abbrev TR:=top 100
abbrev SH:=top 30
abbrev SI:=top 16
abbrev SJ:=top 40
abbrev UC:=top 37
abbrev Ui:=top 39
abbrev SM:=top 38
abbrev SK:=top 106
abbrev UI:=top 59
abbrev TQ:=top 58
abbrev TN:=top 21
abbrev Tb:=top 61
abbrev SX:=top 94
abbrev U8:=top 95
abbrev TZ:=top 96
abbrev U0:=top 64
abbrev TM:=top 98
abbrev U6:=top 99
abbrev Uo:=top 56
abbrev Ul:=top 55
abbrev UM:=top 54
abbrev Up:=top 50
abbrev Um:=top 42
abbrev TX:=top 53
abbrev UJ:=top 52
abbrev Jq:=top 66
abbrev SS:=top 65
abbrev TV:=top 33
abbrev T5:=top 31
abbrev Ta:=top 32
abbrev UE:=top 83
abbrev SN:=top 81
abbrev T7:=top 80
abbrev Ux:=top 79
abbrev T8:=top 82
abbrev Uw:=top 62
abbrev TL:=top 60
abbrev Uh:=top 101
abbrev Uy:=top 67
abbrev UB:=top 77
abbrev UL:=top 78
abbrev a52:=top 76
abbrev UH:=top 107
abbrev SY:=top 104
abbrev T9:=top 105
abbrev SR:=top 108
abbrev Jr:=top 109
abbrev Uv:=top 113
abbrev UA:=top 110
abbrev Uq:=top 111
abbrev Uz:=top 112
abbrev sLL:=top 114
abbrev SU:=top 68
abbrev vJ:=top 102
abbrev Td:=top 88
structure a0G(K:ag)(C:Addr):Prop where
 cl:nV K C
 vZ:kU K C "machine"
 AN:kU K C "begun_at"
 uB:kU K C "done"
 my:kU K C "queue"
 vY:kU K C "pace"
 Di:kU K C "rate_now"
 Kv:kU K C "side"
 WM:kU K C "mark"
 AM:kU K C "stopping"
abbrev Ti:=inClass (top 87) 3
abbrev Tr:=inClass (top 87) 4
abbrev Th:=inClass (top 87) 5
abbrev Tf:=inClass (top 87) 7
abbrev Tz:=inClass (top 87) 8
abbrev To:=inClass (top 87) 9
abbrev Tx:=inClass (top 87) 10
abbrev Ts:=inClass (top 87) 1
abbrev Tu:=inClass (top 87) 2
abbrev Tv:=inClass (top 87) 0
abbrev TC:=inClass (top 87) 11
abbrev TJ:=inClass (top 87) 16
abbrev Tt:=inClass (top 87) 15
abbrev Tn:=inClass (top 87) 14
abbrev TF:=inClass (top 87) 13
abbrev TH:=inClass (top 87) 12
abbrev Tg:=inClass (top 87) 21
abbrev TB:=inClass (top 87) 19
abbrev Tj:=inClass (top 87) 17
abbrev Tw:=inClass (top 87) 18
abbrev SW:=top 70
abbrev SQ:=top 69
abbrev Us:=top 116
def afx(s:Stmt):List Stmt:=match s with | .ClassDef _ _ _ b _ _ _ _ _ _ _=>b |_=>[]
abbrev Jm:=(afx (top 9)).getD 0 (.Pass #[0,0,0,0])
structure NtC(K:ag)(mg:bZ)(C fI:Addr):Prop where
 e:zJ K mg "NoTape" C fI Np Wu
 i:W.findIn K (.ref C) "__init__"=some (some (.ref fI))
 x:BB K C "at"
 y:BB K C "why"
 f:fnAt K fI=true
 fn:∃fd,nU K "__init__" "NoTape.__init__" Jm fI fd
structure a0W(K:ag)(mg:bZ)(C fI cG c0 c1 c2 c3 c4 c5 c6 c7 c8 c9:Addr):Prop where
 oc:NtC K mg C fI
 g:Exc K mg "GlideError" cG Np Wu
 t:takes K C cG
 k:qX K C
 h0:GV mg "Full" (.ref c0)
 h1:GV mg "Moving" (.ref c1)
 h2:GV mg "NoFraction" (.ref c2)
 h3:GV mg "NoItem" (.ref c3)
 h4:GV mg "NoLine" (.ref c4)
 h5:GV mg "NoMachine" (.ref c5)
 h6:GV mg "NoPlace" (.ref c6)
 h7:GV mg "NoRate" (.ref c7)
 h8:GV mg "NoText" (.ref c8)
 h9:GV mg "OffRails" (.ref c9)
 any:W.kitAny K (.ref C) [.ref c0,.ref c1,.ref c2,.ref c3,.ref c4,.ref c5,.ref c6,.ref c7,.ref c8,.ref c9]=some false
 own:W.kitOne K (.ref C) (.ref C)=some true
 ve:W.kitOne K (.ref C) (.type "ValueError")=some true
 v:mg "ValueError"=none
 fat:W.findIn K (.ref C) "at"=some none
 fwhy:W.findIn K (.ref C) "why"=some none
abbrev U7:=top 115
abbrev TU:=top 117
abbrev UD:=top 118
def Jf(K:ag):Sp:=λvs H Q _=>∃(a:Addr)(ns:Ar),vs=[.ref a]/\aK K H a (ns.map V.int)/\⇑ns<=63/\∀H',Q (.bl true) H'
abbrev Ah:=top 119
structure iL(K:ag)(mg:bZ)(C:Addr):Prop where
 tc:a0G K C
 init:CA K mg C "Runner" "Runner.__init__" Tv
 a9u:MA K C "place" "Runner.place" Ts
 a9w:MA K C "leads_to" "Runner.leads_to" Tu
 a9s:MA K C "square" "Runner.square" Ti
 a9t:MA K C "rate" "Runner.rate" Tr
 a9o:MA K C "tool" "Runner.tool" Th
 a9m:MA K C "waiting" "Runner.waiting" Tf
 a9x:MA K C "is_held" "Runner.is_held" Tz
 a9r:MA K C "stands" "Runner.stands" To
 a9y:MA K C "is_halted" "Runner.is_halted" Tx
 a9B:MA K C "feed" "Runner.feed" TC
 a9D:MA K C "entries" "Runner.entries" TH
 a9C:MA K C "entries_of_first" "Runner.entries_of_first" TF
 a9q:MA K C "steps_of_first" "Runner.steps_of_first" Tn
 a9v:MA K C "next_square" "Runner.next_square" Tt
 a9E:MA K C "end_first" "Runner.end_first" TJ
 a9p:MA K C "stops_in" "Runner.stops_in" Tj
 a9z:MA K C "hold" "Runner.hold" Tw
 a9A:MA K C "go" "Runner.go" TB
 a9n:MA K C "turn_rate" "Runner.turn_rate" Tg
structure All(K:ag)(mg:bZ):Prop where
 B:vo mg
 zd:GT K mg "NOUGHT" [.int 0,.int 1]
 acx:GT K mg "SIDES" [.str "up",.str "down"]
 Ys:GV mg "NO_BORDER" (.int 4)
 DR:GV mg "NOT_DUE" (.int 1)
 acw:GV mg "WRONG_TICKS" (.int 2)
 acG:GV mg "ABOVE_TOP" (.int 3)
 acC:GV mg "LEAST_RATE" (.int 10)
 acE:GV mg "GREATEST_RATE" (.int 200)
 acF:GV mg "FIRST_RATE" (.int 100)
 acy:GV mg "MOST_WAITING" (.int 20)
 Yt:GV mg "MOST_STEPS" (.int 100)
 acD:GV mg "GREATEST_SPEED" (.int 20)
 acz:GV mg "LONGEST_WAIT" (.int 1000)
 acA:GV mg "LONGEST_NAME" (.int 8)
 acB:GV mg "LETTERS" (.str mJ)
 adv:FA K mg "is_whole" Uk
 adu:FA K mg "is_whole_within" SI
 adF:FA K mg "is_fraction" Ur
 adH:FA K mg "fraction" Uu
 adg:FA K mg "plus_whole" TN
 adm:FA K mg "minus" TY
 ad4:FA K mg "times" SO
 adD:FA K mg "is_less" U9
 adq:FA K mg "least" Ua
 ado:FA K mg "lowest_terms" Ud
 adL:FA K mg "common_divisor" UG
 ads:FA K mg "lead_of" Ub
 ad2:FA K mg "ways_of" SH
 adb:FA K mg "stand_at" T5
 ad9:FA K mg "step_rows" Ta
 adk:FA K mg "nearest" TV
 adK:FA K mg "corner_square" UC
 ad3:FA K mg "top_square" SM
 adz:FA K mg "is_rate" Ui
 adG:FA K mg "greatest_turn" SJ
 adA:FA K mg "is_place" Um
 adE:FA K mg "is_item" Up
 adC:FA K mg "is_line" Uj
 adj:FA K mg "place_behind" UJ
 adl:FA K mg "moved" TX
 adP:FA K mg "are_steps" UM
 ady:FA K mg "is_short_item" Ul
 adB:FA K mg "is_name" Uo
 YK:FA K mg "own_bounds" TQ
 adO:FA K mg "bound_between" UI
 adi:FA K mg "plan_of" TL
 adt:FA K mg "kept_by_rise" Tb
 YL:FA K mg "kept_by_fall" Uw
 adn:FA K mg "middles" U0
 ad7:FA K mg "ticks_of" SS
 YM:FA K mg "are_enough" Jq
 ada:FA K mg "step_entry" Uy
 ad8:FA K mg "tape_of" SU
 ad6:FA K mg "time_of" SQ
 ad5:FA K mg "time_of_entry" SW
 adp:FA K mg "look" a52
 adJ:FA K mg "due_entries" UB
 adN:FA K mg "bounds_between" UL
 adI:FA K mg "fault_of_entry" Ux
 adx:FA K mg "is_step_with" T7
 adw:FA K mg "is_timed" SN
 ade:FA K mg "square_of" T8
 adM:FA K mg "can_meet" UE
 adf:FA K mg "reach_behind_first" Td
 aeg:FA K mg "_law_bag" UK
 adS:FA K mg "_law_take" SV
 YN:FA K mg "_law_number" Ue
 aea:FA K mg "_law_frac" Ut
 adT:FA K mg "_law_sum" SX
 ae5:FA K mg "_law_less" U8
 ae0:FA K mg "_law_min" TZ
 ae1:FA K mg "_law_machine" U5
 adX:FA K mg "_law_place" TM
 ae4:FA K mg "_law_line" U6
 adZ:FA K mg "_law_other" TR
 ae7:FA K mg "_law_items" Uh
 adV:FA K mg "_law_sizes" vJ
 ae6:FA K mg "_law_lead" Uc
 adU:FA K mg "_law_stand" SY
 adW:FA K mg "_law_rows" T9
 adQ:FA K mg "_law_top" SK
 aef:FA K mg "_law_bounds" UH
 adR:FA K mg "_law_ticks" SR
 Hj:FA K mg "_law_alike" Jr
 aed:FA K mg "_law_due_entries" UA
 ae8:FA K mg "_law_is_fraction" Uq
 aec:FA K mg "_law_entry_fault" Uz
 aeb:FA K mg "_law_fits" Uv
 ae3:FA K mg "_law_look" sLL
 ae2:FA K mg "_law_looked" U7
 ae9:FA K mg "_law_held_tape" Us
 adY:FA K mg "_law_other_square" TU
 aee:FA K mg "_law_changed" UD
 law:FA K mg "law" Ah
 ex:∃C fI cG c0 c1 c2 c3 c4 c5 c6 c7 c8 c9,a0W K mg C fI cG c0 c1 c2 c3 c4 c5 c6 c7 c8 c9
 rc:∃C,iL K mg C
def EB(K:ag)(P:ai)(w:World)(mg:bZ)(aB:Heap)(C:Addr):Prop:=∀(f:Addr)(fd:FuncData),All K mg->iL K mg C->nU K "law" "law" Ah f fd->iX P w K mg aB je 15 f fd ["_law_script"] (Jf K)
def neW:Nonempty (ag×ai×World×(bZ)×Heap×Addr):=#[default,default,#[λ_ _=>0,{strHash:=λ_=>0,shareClass:=λa=>a,mergeTok:=id,idOf:=λ_=>0,idOfShared:=λ_ _=>0,followText:=λ_=>false,idOfImm:=λ_=>0}],λ_=>none,default,(0:Nat)]
@[irreducible] noncomputable def KP:ag×ai×World×(bZ)×Heap×Addr:=@Classical.epsilon _ neW λx=>¬EB x.1 x.2.1 x.2.2.1 x.2.2.2.1 x.2.2.2.2.1 x.2.2.2.2.2
@[irreducible] noncomputable def K:ag:=KP.1
@[irreducible] noncomputable def P:ai:=KP.2.1
@[irreducible] noncomputable def w:World:=KP.2.2.1
@[irreducible] noncomputable def mg:bZ:=KP.2.2.2.1
@[irreducible] noncomputable def aB:Heap:=KP.2.2.2.2.1
@[irreducible] noncomputable def C:Addr:=KP.2.2.2.2.2
theorem tgt(h:EB K P w mg aB C)(K':ag)(P':ai)(w':World)(X7:bZ)(a0i:Heap)(C':Addr):EB K' P' w' X7 a0i C':=Classical.byContradiction λn=>by let e:=Classical.epsilon_spec (p:=λx:ag×ai×World×(bZ)×Heap×Addr=>¬EB x.1 x.2.1 x.2.2.1 x.2.2.2.1 x.2.2.2.2.1 x.2.2.2.2.2) #[(K',P',w',X7,a0i,C'),n];unfold K P w mg aB C KP at h;erw[e h]
abbrev a0n:=bG P w K mg aB
abbrev a0o:=iA P w K mg aB
abbrev a0q:=All K mg
end _c
namespace _c
universe _L
section
inductive Qi|mk p many(_:vs=[.ref p,.int many])(_:gI H p)(_:1<=many)(_:many<=10^40)(_:∀d H',0<=d->d<many->bF p H H'->Q (.int d) H')
def QP:bA ["_law_bag_here","_law_many","_law_digit","_law_number_here","_law_room"] ["_law_bag_here","_law_many"] (aY SV):=bJ aP
def eK(AA:a0q):a0n "_law_take" 1 Qi:=by
 exists AA.adS.has,QP,eQ λ_ _=>rfl
 ·let(p,many,rfl,(c,m,hp,ok),h1,h2,k):=h
  let(c0,m0,m1):=id ok;let nd:=QP.nd;erw[_,%[bp (bL qh (px K o0 aA) aA (bc _)) %[pS 2 nd (aM vT (px K o0 aA) u8),fz (aM rY (px K o0 aA) u8) (rW o0 aA set_list),aQ w4|aG] bE,pS 3 nd aA,pS 4 nd aA,rS fc (bL jS M2 u8 (bc _)) %[fz (aM vT (aM mx (aM cM (aM bO (px K o0 aA) aA) aA) aA) aA) (rW o0 aA set_list),pS 3 nd (aM cM (aM bO L2 aA) (aM vT (aM bO (aM rY (px K o0 aA) aA) aA) aA)),pS 4 nd (aM bO M2 aA)|aG],aQ (aM vT L2 u8)|aG],?_,B,ww,.inl #[p,_,0,.int c,wP,aK.of hp,Z,jp],B,eV (λhc=>?_) (λ_=>?_)]
  ·erw[ww,.inl #[p,_,0,.int c,wP,aK.of hp,Z,Wk,h1,?_]]
   erw[ww,.inl #[p,_,0,.int c,wP,aK.of hp,Z,Wk,#[h1,P6 (_S.dE h1) h2],?_],B,ww,p,_,0,0,wP,hp,Z,?_,B,wv,B,k _ _ (tQ _ (j4 (_S.jC h1))) (xE _ (_S.jC h1)) (bF.bn #[Rt c0 (_S.dE h1),m0,m1])]
  ·erw[rC (λO H2=>∃(v:Option V)(n r:Int),O=[some (.ref p),some (.int many),v,some (.int n),some (.int r)]/\bF p H H2/\1<=r) (λO _=>match O with|[_,_,_,_,some (.int r)]=>(many-r).toNat|_=>0) ?_ ?_ ?_]
   ·erw[none,0,1,Z,.refl #[c,m,hp,ok],dU _]
   ·rintro O H2 ⟨v,n,r,rfl,bx,Dz⟩
    erw[zD ?_];intro E1;let(c',m',GR,c0',m0',KH):=id bx.bw;erw[Wp,wv,B,eV (λhc=>?_) (λhc=>?_)]
    ·let bu:r<many:=kg hc
     erw[ww,.inl #[p,_,1,.int m',wP,aK.of GR,Z,wr,.of_right (cB aw aw),wr,wr,#[aw,aw,?_],wr,(by show(0:Int)<2147483629;decide),?_]]
     ·let oJ:(2:Nat)^64=18446744073709551616:=by decide
      rw[oJ];lia
     erw[ww,p,_,1,1,wP,GR,Z,?_];let g0:0<=((m'*48271+7919)^(5:Int).toNat)%2147483629:=tQ _ aw;let g1:((m'*48271+7919)^(5:Int).toNat)%2147483629<2147483629:=xE _ aw;let bx2:bF p H (_L.bn H2 p (.bi [.int c',.int (((m'*48271+7919)^(5:Int).toNat)%2147483629)])):=bx.ao (.bn #[c0',g0,Int.lt_trans g1 aw]);erw[Wk,.of_right (cB aw aw),ww,.inl #[p,_,1,.int _,wP,aK.of bQ,Z,wr,#[aw,P6 aw aw],wr,.of_right (cB aw aw),wr,(by show(0:Int)<1073741789;decide),wr,?_],B,Wk,.of_right (cB aw aw),?_,B,#[v,wT,bx2,?_],?_]
     ·lia
     ·show(many-r*1073741789).toNat<(many-r).toNat
      lia
    ·erw[Wp,h1,?_]
     erw[k _ _ (tQ _ (j4 (_S.jC h1))) (xE _ (_S.jC h1)) bx]
   ·rintro O H2 Q1 Q2 hq ⟨v1,e1,v2,e2,i,j,e3,e4,kk,e5,q⟩
    erw[v1,e1,v2,e2,i,j,e3,e4,kk,e5,hq _ _ q]
end
section
inductive a4s|mk (a:Addr)(ns:Ar)(at':Int)(_:vs=[.ref a,.int at'])(_:aK K H a (ns.map V.int))(_:⇑ns<=63)(_:0<=at')(_:at'<=100)(_:∀p H',H p=none->gI H' p->aI H H'->Q (.ref p) H')
def SA:bA ["_law_script","_law_at","_law_cell","_law_mix","_law_k"] ["_law_script","_law_at"] (aY UK):=bJ aP
def XR{ns:Ar}{j:Nat}(h:j<⇑ns):∃z,fj (ns.map V.int) (j:Int)=some (.int z):=#[ns[j],agc (by simp[h])]
def a8j(AA:a0q):a0n "_law_bag" 1 a4s:=by
 exists AA.aeg.has,SA,eQ λ_ _=>rfl
 ·let(a,ns,at',rfl,hS,hlen,h0,h1,k):=h
  obtain⟨j,rfl⟩:∃j:Nat,at'=(j:Int):=#[at'.toNat,Eq.symm (F9 h0)];let nd:=SA.nd;erw[_,%[pS 2 nd aA,jQ (bp (bL jS u8 (dC K AA.B %[0|az]) (bc _)) (aG (pS 2 nd (eR (x:="abs") tj Z (AA.B.at "abs") vt %[px K o0 u8|az]))) bE),pS 3 nd (aM cM (aM cM (aM bO (aM bO aA u8) u8) (aM bO aA u8)) aA),(gh fc Z (pZ Z (AA.B.at "range") %[(eR (x:="min") (Nk rfl) rfl (AA.B.at "min") a1t %[dC K AA.B %[0|az],aA|az])|az]) (ba 4 nd) (aG (pS 3 nd (aM vT (aM mx (aM cM (aM cM (aM bO L2 aA) (aM vT (px K o0 M2) aA)) (aM bO M2 M2)) aA) aA)))),jQ (bp (bL jS w4 (aM mx aA aA) (bc _)) (aG (pS 2 nd aA)) bE),aQ (cY %[2,3|az])|aG],?_,B,λO H'=>H'=H/\∃c:Int,O=[some (.ref a),some (.int (j:Int)),some (.int c),none,none]/\0<=c,zn]
  ·erw[wp,a,ww,.inl hS,jp]
   erw[eV (λhc=>?_) (λ_=>?_)]
   ·let hj:(j:Int)<(⇑(ns.map V.int):Int):=kg hc
    rw[bC]at hj;let(z,hz):=XR (ns:=ns) (j:=j) aE;erw[wp,.inl #[a,_,wr,hS,hz,z,Z,?_],B,WP,by split<;>lia]
   ·erw[Z,0,Z,dU _]
  rintro O H' ⟨rfl,c,rfl,c0⟩;erw[Wk,.of_left (cB aw aw),Wk,.of_right (cB (_S.Hy aw) (eG h1 aw)),Wk,.of_left (cB aw aw),wr,wr,?_,B,ww,a,ww,.inl hS,wT,wv,zn]
  ·split<;>lia
  ·split<;>(try rw[bC])<;>lia
  erw[sQ (Pv:=λi O H2=>H2=H'/\∃(m:Int)(v:Option V),O=[some (.ref a),some (.int (j:Int)),some (.int c),some (.int m),v]/\0<=m/\m<2147483648) ?_ ?_ ?_]
  ·erw[Z,_,none,Z,zn]
   ·have:(0:Int)<=(j:Int)*(j:Int):=fy aE aE
    rw[C3];lia
   ·have:(j:Int)*(j:Int)<=100*100:=C1 aE aE aE (aw)
    rw[C3];lia
  ·rintro i O H2 hi ⟨rfl,m,v,rfl,m0,m1⟩
   erw[gH ?_];intro E1;let Bc:i<⇑ns:=by rw[bC]at hi;split at hi<;>lia
   let(z,hz):=XR (ns:=ns) (j:=i) Bc;rw[<-F8 (i:Int)]at hz;let hz0:0<=z%2147483647:=tQ _ aw;let Dv:z%2147483647<2147483647:=xE _ aw;let abn:(0:Int)<=(0+(i:Int))*(0+(i:Int)):=fy (zZ aw (cf _)) (zZ aw (cf _));let oH:(0+(i:Int))*(0+(i:Int))<=100*100:=C1 aE aE (zZ aw (cf _)) (aw);erw[Wk,.of_right (cB aw aw),wp,.inl #[a,_,wr,hS,hz,wr,(by show(0:Int)<2147483647;decide),wr,Wp,.of_right (cB (mT aw (Int.add_le_add_left (cf _) _)) aE),wr,wr,#[aw,aw,?_],wr,(by show(0:Int)<2147483629;decide),?_]]
   ·let oJ:(2:Nat)^64=18446744073709551616:=by decide
    rw[oJ];generalize(0+(i:Int))*(0+(i:Int))=ii at abn oH⊢;generalize z%2147483647=zz at hz0 Dv⊢
    lia
   ·erw[Z,wT,tQ _ aw,Int.lt_trans (xE _ aw) aw]
  ·rintro O H2 ⟨rfl,m,v,rfl,m0,m1⟩
   erw[λO H3=>H3=H2/\∃c:Int,O=[some (.ref a),some (.int (j:Int)),some (.int c),some (.int m),v]/\0<=c,zn]
   ·erw[lW ?_];intro E2
    erw[Wk,#[aw,aw,aw],jp,B,eV (λhc=>?_) (λ_=>?_)]
    ·erw[Z,0,Z,dU _]
    ·erw[Z,c,Z,c0]
   rintro O H3 ⟨rfl,c,rfl,c0⟩;erw[wp,(by show 2<=sizeLine;decide),λp H4 nw=>?_,B,k p H4 nw.no #[c,m,nw.at',c0,m0,m1] nw.ss]
inductive a4k|mk (a:Int)(b:Int)(_:vs=[.int a,.int b])(_:Q (.int (Int.gcd a b)) H)
end
section
inductive a4a|mk (a:Int)(b:Int)(_:vs=[.int a,.int b])(_:b≠0)(_:Wd b)(_:∀t H',Nw H H' t (.tup [.int (_A.lowP a b),.int (_A.ja a b)])->Q (.ref t) H')
end
section
def jD(T:String):Bool:=j6 T "int"&& !j6 T "bool"
inductive Cq|mk v T(_:vs=[v])(_:zF K H v T)(_:Q (.bl (jD T)) H)
def Sw:bA ["p","q","high","low"] ["p","q"] (aY UG):=bJ aP
def Wo(AA:a0q):a0n "common_divisor" 1 a4k:=by
 exists AA.adL.has,Sw,eQ λ_ _=>rfl
 ·let(a,b,rfl,k):=h
  let nd:=Sw.nd;erw[_,%[(rV (i:=2) (j:=3) Z nd Z Z aw Z Z %[eR (x:="abs") tj Z (AA.B.at "abs") vt %[0|az],eR (x:="abs") tj rfl (AA.B.at "abs") vt %[1|az]|az] rfl),rS fc (bL (j9 K Z hr.units) L2 aA (bc _)) (aG (rV (i:=2) (j:=3) Z nd Z Z aw Z Z %[3,aM vT w4 L2|az] Z)),aQ w4|aG],?_,B,ZB,ww,_,wv,B,rC (λO H2=>H2=H/\∃(x y:Int),O=[some (.int a),some (.int b),some (.int x),some (.int y)]/\0<=x/\0<=y/\Int.gcd x y=Int.gcd a b) (λO _=>match O with|[_,_,_,some (.int y)]=>y.natAbs|_=>0) ?_ ?_ ?_]
  ·erw[Z,wT,by split<;>lia,by split<;>lia,?_]
   let h1:(if a<0 then-a else a).natAbs=a.natAbs:=by split<;>lia
   let h2:(if b<0 then-b else b).natAbs=b.natAbs:=by split<;>lia
   unfold Int.gcd;rw[h1,h2]
  ·rintro O H2 ⟨rfl,x,y,rfl,x0,y0,e⟩
   erw[zD ?_];intro E1;erw[ww,.inl #[_,_,Z,Z,_,Z,?_],B,eV (λhc=>?_) (λhc=>?_)]
   ·let hy:y≠0:=by simpa using hc
    let nH:0<y:=by lia
    erw[ZB,wr,nH,_,wv,B,#[Z,wT,y0,tQ _ hy,(_A.Yq nH).ao e],?_];show(x%y).natAbs<y.natAbs;have:=tQ x hy;have:=xE x nH
    lia
   ·let hy:y=0:=by simpa using hc
    subst hy;erw[wv];rw[j06]at e;let e2:x=((Int.gcd a b:Nat):Int):=by lia
    rw[e2];erw[k]
  ·rintro O H2 Q1 Q2 hq ⟨v1,e1,h⟩
   erw[v1,e1,?_];rcases h with⟨i,j,e3,e4,kk,e5,q⟩|⟨d,e,r1,r2,s1,s2,kk,e5,q⟩
   ·erw[.inl #[i,j,e3,e4,kk,e5,hq _ _ q]]
   ·erw[.inr #[d,e,r1,r2,s1,s2,kk,e5,hq _ _ q]]
end
section
def S8:bA ["thing"] ["thing"] (aY Uk):=bJ aP
def ye(AA:a0q):a0n "is_whole" 1 Cq:=by
 exists AA.adv.has,S8,fE λ_=>rfl
 ·let(v,T,rfl,ty,k):=h
  let nd:=S8.nd;erw[_,(aG (aQ (iE (dk K AA.B %[0,cS (x:="int") (v:=.ty "int") Z (AA.B.at "int") xo rfl|az]) (iR (y6 (dk K AA.B %[0,cS (x:="bool") (v:=.ty "bool") rfl (AA.B.at "bool") a1u rfl|az])))))),?_,B,ww,.inl #[_,T,"int",ww,ty,aw,Z,wv]];unfold jD at k;erw[eV (λhc=>?_) (λhc=>?_)]
  ·erw[ww,.inl #[_,T,"bool",ww,ty,aw,Z,wv]]
   rw[hc,mU]at k;erw[k]
  ·rw[A0.mpr hc,o9]at k
   erw[k]
end
end _c
namespace _c
universe _L _l
section
def jk(ns:Ar)(sp:Int):aj:=.tuple [.str "line",.tuple (ns.map PyData.int),.int sp]
def L6(ns:Ar)(sp:Int):eH (jk ns sp)=true:=by simp[jk,eH,bR,nA]
structure fU(ax:Nat)(m:Int)(ns:Ar):Prop where
 len:⇑ns=ax
 bd:∀z∈ns,(z.natAbs:Int)<=m
 nz:∃z∈ns,z≠0
def fU.lead(h:fU ax m ns):0<aF ns/\(aF ns:Int)<=m:=by
 erw[aa0 h.nz,?_];let hm:0<=m:=by let(z,hz,_):=h.nz;have:=h.bd z hz;lia
 have:=sE (ns:=ns) (m:=m.toNat) λz hz=>by have:=h.bd z hz;lia
 lia
def fU.ne(h:fU ax m ns):ns≠[]:=by let(z,hz,_):=h.nz;intro e;subst e;cases hz
def pk{v:V}(h:RD K H v (jk ns sp)):∃a b,v= .ref a/\aW K H a [.str "line",.ref b,.int sp]/\aW K H b (ns.map V.int):=by let(a,xs,rfl,h1,h2):=h.cD;let(x1,r1,rfl,e1,h2):=h2.cons_inv;let(x2,r2,rfl,e2,h2):=h2.cons_inv;let(x3,r3,rfl,e3,h2):=h2.cons_inv;cases h2.nil_inv;cases e1.str_inv;cases e3.int_inv;let(b,ys,rfl,h3,h4):=e2.cD;rw[h4.jm]at h3;erw[a,b,Z,h1,h3]
inductive Qp|mk v ns sp(_:vs=[v])(_:RD K H v (jk ns sp))(_:ns≠[])(_:⇑ns<=1000)(_:∀H',aI H H'->Q (.int (aF ns)) H')
def sx{ns:Ar}{f:Int->aj}{i:Nat}{d:aj}(h:(ns.map f)[i]? =some d):∃n,ns[i]? =some n/\f n=d:=by rw[bV]at h;cases e:ns[i]? with |none=>rw[e]at h;cases h |some n=>rw[e]at h;erw[n,Z,fm h]
def Dl{ns:Ar}{i:Nat}{n:Int}(h:(ns.map V.int)[i]? =some x)(e:ns[i]? =some n):x= .int n:=by rw[bV,e]at h;exact(fm h).symm
def RW:bA ["_law_line_here"] ["_law_line_here"] (aY Uc):=bJ aP
def Gr(AA:a0q):a0n "_law_lead" 1 Qp:=by
 exists AA.ae6.has,RW,fE λ_=>rfl
 ·let(v,ns,sp,rfl,rd,eZ,hz,k):=h
  let nd:=RW.nd;let(a,b,rfl,ha,hb):=pk rd;erw[_,(aG (aQ (eR (x:="max") (KG K Z Z) Z (AA.B.at "max") EW %[gX (N:=["_law_step"]) (js:=[none]) rfl rfl rfl (qc K rfl (px K o0 aA)) (λ_ _ _ _ _=>(ba 0 (uz _))) (λ_ _ _ _ _=>fZ) (λ_ _ _ _ _=>(eR (x:="abs") tj rfl (AA.B.at "abs") vt %[0|az]))|az]))),?_,B,ww,.inr #[a,_,1,.ref b,wP,ha,Z,b,Z,#[_,hb],λD H0 nw=>?_],B,Hw (K:=K) (xs:=ns.map V.int) (ds:=(ns.map kf).map PyData.int) [] hb nw (by simp) (by simpa using hz) (nA _) ?_ ?_]
  ·intro i x d H2 Q' ex ed s2 hq
   let(m,em,rfl):=sx ed;rw[bV]at em;cases en:ns[i]? with |none=>rw[en]at em;cases em |some n=>rw[en]at em;cases em;cases Dl ex en;erw[ww,n,Z,hq _ _ (aI.refl _) (eB _)]
  ·intro H' ys s2 d2 r2
   rw[r2.jm]at d2;erw[D,ww,aK.of d2,by simpa using eZ,λM h1 h2=>?_];rw[L8 eZ h1 h2];erw[k H' s2]
def RV:bA ["line"] ["line"] (aY Ub):=bJ aP
def uu(AA:a0q):a0n "lead_of" 1 Qp:=by
 exists AA.ads.has,RV,fE λ_=>rfl
 ·let(v,ns,sp,rfl,rd,eZ,hz,k):=h
  let nd:=RV.nd;let(a,b,rfl,ha,hb):=pk rd;erw[_,(aG (aQ (eR (x:="max") (KG K Z Z) Z (AA.B.at "max") EW %[gX (N:=["step"]) (js:=[none]) rfl rfl rfl (qc K rfl (px K o0 aA)) (λ_ _ _ _ _=>(ba 0 (uz _))) (λ_ _ _ _ _=>fZ) (λ_ _ _ _ _=>(eR (x:="abs") tj rfl (AA.B.at "abs") vt %[0|az]))|az]))),?_,B,ww,.inr #[a,_,1,.ref b,wP,ha,Z,b,Z,#[_,hb],λD H0 nw=>?_],B,Hw (K:=K) (xs:=ns.map V.int) (ds:=(ns.map kf).map PyData.int) [] hb nw (by simp) (by simpa using hz) (nA _) ?_ ?_]
  ·intro i x d H2 Q' ex ed s2 hq
   let(m,em,rfl):=sx ed;rw[bV]at em;cases en:ns[i]? with |none=>rw[en]at em;cases em |some n=>rw[en]at em;cases em;cases Dl ex en;erw[ww,n,Z,hq _ _ (aI.refl _) (eB _)]
  ·intro H' ys s2 d2 r2
   rw[r2.jm]at d2;erw[D,ww,aK.of d2,by simpa using eZ,λM h1 h2=>?_];rw[L8 eZ h1 h2];erw[k H' s2]
end
end _c
set_option exponentiation.threshold 6000
namespace _c
universe _L _d
section
def RY:bA ["p","q","divisor"] ["p","q"] (aY Ud):=bJ aP
def Gq(AA:a0q):a0n "lowest_terms" 2 a4a:=by
 exists AA.ado.has,RY,eQ λ_ _=>rfl
 ·let(a,b,rfl,hb,wb,k):=h
  let nd:=RY.nd;let sw:Wd (_A.sg a b):=kh (_A.Qy hb) wb;erw[_,%[pS 2 nd (pf (Wo AA) hr %[0,1|az]),jQ (bp (bL jS u8 aA (bc _)) (aG (pS 2 nd (rX rH w4))) bE),aQ (dA %[aM VZ o0 w4,aM VZ u8 w4|az])|aG],?_,B,wp,a,b,Z,?_,B,λO H'=>H'=H/\O=[some (.int a),some (.int b),some (.int (_A.sg a b))],zn]
  ·erw[Wk,wv]
   erw[eV (λhc=>?_) (λhc=>?_)]
   ·let hd:b<0:=kg hc
    erw[wp,?_,B,Z,?_];unfold _A.sg;rw[aR hd];rfl
   ·let hd:¬b<0:=λz=>hc (cy z)
    erw[Z,?_];unfold _A.sg;rw[aV hd];rfl
  rintro O H' ⟨rfl,rfl⟩;erw[Wp,#[_A.Cv hb,sw],Wp,#[_A.Cv hb,sw],(by show 2<=sizeLine;decide),λt H4 nw=>?_,B,k t H4 nw]
def bj(H:Hp)(v:V)(r:Rat):Prop:=∃p,v= .ref p/\aW K H p [.int r.num,.int r.den]
theorem bj.go{v:V}{r:Rat}(h:bj H v r)(s:aI H H'):bj H' v r:=by let(p,e,q):=h;erw[p,e,q.go s]
def cI(r:Rat):aj:=.tuple [.int r.num,.int r.den]
def bj.rd{v:V}{r:Rat}(h:bj H v r):RD K H v (cI r):=by let(p,rfl,q):=h;erw[gD q %[eB _,eB _|cQ]]
def JS(r:Rat):eX 1 (cI r):=iP.tup (.cons (.int _) (.cons (.int _) .nil))
def Vs(r:Rat):SeqAt.shaped (cI r)=true:=(JS r).shaped aw
def YX{r:Rat}(h:r=s):PyData.eqv (cI r) (cI s)=true:=by rw[h];exact(JS s).refl
def kr(h:i.natAbs<2^n)(l:n<=5000):Wd i:=dJ h (rA aw l)
def _root_._d.Bd.wn{r:Rat}(h:Bd 2000 r):Wd r.num:=kr h.num aw
def _root_._d.Bd.wd{r:Rat}(h:Bd 2000 r):Wd (r.den:Int):=kr (n:=2000) (by have:=h.den;omega) aw
def Fp{r:Rat}(h:Bd 2000 r)(g:Bd 2000 s):Wd ((r.den:Int)*(s.den:Int)):=kr (n:=4000) (N8 h g) aw
def G9{t:Addr}{b:Int}{r:Rat}(hb:b≠0)(e:r=Rat.divInt a b)(h:H' t=some (.tup [.int (_A.lowP a b),.int (_A.ja a b)])):bj H' (.ref t) r:=by let(e1,e2):=GA (a:=a) hb;rw[e1,e2,<-e]at h;erw[t,Z,aW.of h]
inductive ahx(op:Rat->Rat->Rat)(K:ag)(vs:AT)(H:Hp)(Q:VK):Prop |mk v1 v2 r s(_:vs=[v1,v2])(_:bj H v1 r)(_:bj H v2 s)(_:Bd 2000 r)(_:Bd 2000 s)(_:∀v H',bj H' v (op r s)->aI H H'->Q v H')
def FT(op:Rat->Rat->Rat)(K:ag):Sp:=λvs H Q _=>ahx op K vs H Q
def RJ:bA ["one","other","p","q","r","s"] ["one","other"] (aY TY):=bJ aP
def a7S(AA:a0q):a0n "minus" 3 (FT (·-·) K):=by
 exists AA.adm.has,RJ,eQ λ_ _=>rfl
 ·let(v1,v2,r,s,rfl,(p,rfl,hp),(q,rfl,hq),br,bs,k):=h
  let nd:=RJ.nd;erw[_,%[fz o0 (cX K Z (n:=2) Z %[ba 2 nd,ba 3 nd|cW]),fz u8 (cX K Z (n:=2) Z %[ba 4 nd,ba 5 nd|cW]),aQ (pf (Gq AA) hr %[aM ip (aM bO w4 P3) (aM bO M2 L2),aM bO L2 P3|az])|aG],?_,B,ww,wT,hp,wE,B,ww,wT,hq,wE,B,Wp,jO br.wn.bits bs.wd.bits,Wp,jO bs.wn.bits br.wd.bits,wr,Wp,jO br.wd.bits bs.wd.bits,?_,B,wT,vb r s,Fp br bs,λt H' nw=>k _ _ (G9 (vb r s) (a3n r s) nw.at') nw.ss]
theorem xr_dvd{a:Int}{b:Nat}{x:Rat}(hb:b≠0)(hx:Rat.divInt a b=x):∃g,a=x.num*g/\(b:Int)=x.den*g:=by
 obtain⟨g,_,p⟩:=Rat.divInt_num_den (z':=x.den_nz) (c:=x.reduced) (by omega) hx
 exact⟨g,p⟩
theorem xr_cop{q:Rat}{a b g h:Int}(p:q.num=a*g)(z:q.den=b*h):a.natAbs.Coprime b.natAbs:=by
 have c:Int.gcd q.num q.den=1:=q.reduced
 rw [p,z,Int.gcd_eq_natAbs_gcd_natAbs,Int.natAbs_mul,Int.natAbs_mul] at c
 exact Nat.Coprime.coprime_mul_right_right (Nat.Coprime.coprime_mul_right c)
theorem xr_mul{r s x y:Rat}(hx:Rat.divInt r.num s.den=x)(hy:Rat.divInt s.num r.den=y)(m:r*s=Rat.divInt (r.num*s.num) (r.den*s.den)):x.num*y.num=(r*s).num/\(y.den:Int)*x.den=(r*s).den:=by
 obtain⟨g,h1,h2⟩:=xr_dvd s.den_nz hx
 obtain⟨h,h3,h4⟩:=xr_dvd r.den_nz hy
 have c:(x.num*y.num).natAbs.gcd (x.den*y.den)=1:=by rw [Int.natAbs_mul];exact Nat.Coprime.mul_left (Nat.Coprime.mul_right x.reduced (xr_cop h1 h4)) (Nat.Coprime.mul_right (xr_cop h3 h2) y.reduced)
 have e:r*s=x*y:=by rw [m,← hx,← hy,Rat.divInt_mul_divInt,Int.mul_comm (s.den:Int)]
 rw [e,Rat.num_mul,Rat.den_mul,c,Nat.div_one,Nat.mul_comm x.den]
 exact⟨(Int.ediv_one _).symm,rfl⟩
def QK:bA ["one","other","p","s","r","q"] ["one","other"] (aY SO):=bJ aP
def W5(AA:a0q):a0n "times" 3 (FT (·*·) K):=by
 exists AA.ad4.has,QK,eQ λ_ _=>rfl
 ·let(v1,v2,r,s,rfl,(p,rfl,hp),(q,rfl,hq),br,bs,k):=h
  let nd:=QK.nd;have nr:=Int.ne_of_gt (den_pos r);have ns:=Int.ne_of_gt (den_pos s)
  refine ⟨_,%[fz (pf (Gq AA) hr %[px K o0 aA,px K u8 aA|az]) (cX K Z (n:=2) Z %[ba 2 nd,ba 3 nd|cW]),fz (pf (Gq AA) hr %[px K u8 aA,px K o0 aA|az]) (cX K Z (n:=2) Z %[ba 4 nd,ba 5 nd|cW]),aQ (dA %[aM bO w4 M2,aM bO P3 L2|az])|aG],?_⟩
  refine ⟨_,rfl,Or.inr ⟨_,_,_,_,rfl,rfl,hp,rfl,_,rfl,Or.inr ⟨_,_,_,_,rfl,rfl,hq,rfl,_,_,rfl,ns,bs.wd,fun t1 H1 n1=>?_⟩⟩⟩
  obtain ⟨_,e,g1⟩:=G9 ns rfl n1.at';cases e
  refine ⟨_,_,rfl,g1,rfl,_,_,rfl,_,_,rfl,rfl,?_⟩
  refine ⟨_,rfl,Or.inr ⟨_,_,_,_,rfl,rfl,hq.go n1.ss,rfl,_,rfl,Or.inr ⟨_,_,_,_,rfl,rfl,hp.go n1.ss,rfl,_,_,rfl,nr,br.wd,fun t2 H2 n2=>?_⟩⟩⟩
  obtain ⟨_,e,g2⟩:=G9 nr rfl n2.at';cases e
  refine ⟨_,_,rfl,g2,rfl,_,_,rfl,_,_,rfl,rfl,?_⟩
  have b1:Bd 2000 _:=ny ns br.num (by have:=bs.den;omega)
  have b2:Bd 2000 _:=ny nr bs.num (by have:=br.den;omega)
  refine ⟨_,rfl,_,rfl,_,_,rfl,rfl,jO b1.wn.bits b2.wn.bits,_,rfl,_,rfl,_,_,rfl,rfl,jO b2.wd.bits b1.wd.bits,bM Z,fun t H' n=>k _ _ ⟨t,rfl,aW.of ?_⟩ (n1.ss.ao (n2.ss.ao n.ss))⟩
  obtain ⟨e1,e2⟩:=xr_mul rfl rfl (mul_div r s)
  rw [← e1,← e2];exact n.at'
inductive Qo|mk v1 v2 r s(_:vs=[v1,v2])(_:bj H v1 r)(_:bj H v2 s)(_:Bd 2000 r)(_:Bd 2000 s)(_:Q (.bl (decide (r<s))) H)
def RS:bA ["one","other","p","q","r","s"] ["one","other"] (aY U9):=bJ aP
def CY(AA:a0q):a0n "is_less" 1 Qo:=by
 exists AA.adD.has,RS,eQ λ_ _=>rfl
 ·let(v1,v2,r,s,rfl,(p,rfl,hp),(q,rfl,hq),br,bs,k):=h
  let nd:=RS.nd;erw[_,%[fz o0 (cX K Z (n:=2) Z %[ba 2 nd,ba 3 nd|cW]),fz u8 (cX K Z (n:=2) Z %[ba 4 nd,ba 5 nd|cW]),aQ (fN jS (aM bO w4 P3) (aM bO M2 L2) (bc _))|aG],?_,B,ww,wT,hp,wE,B,ww,wT,hq,wE,B,Wp,jO br.wn.bits bs.wd.bits,Wp,jO bs.wn.bits br.wd.bits,wr,?_];let e:decide (r.num*(s.den:Int)<s.num*(r.den:Int))=decide (r<s):=by rw[tT,Ob,Ob,Ik]
  show Q (.bl (decide (r.num*(s.den:Int)<s.num*(r.den:Int)))) H;rw[e];erw[k]
def fT(H:Hp):AT->Da->Prop |[],[]=>True |v::vs,r::rs=>bj H v r/\Bd 2000 r/\fT H vs rs |_,_=>False
theorem fT.go{H H':Hp}(s:aI H H'):∀{vs:AT}{rs:Da},fT H vs rs->fT H' vs rs |[],[],_=>trivial |v::vs,r::rs,h=>#[h.1.go s,h.2.1,fT.go s h.2.2] |[],_::_,h=>h.elim |_::_,[],h=>h.elim
theorem fT.length{H:Hp}:∀{vs:AT}{rs:Da},fT H vs rs->⇑vs=rs.length |[],[],_=>rfl |v::vs,r::rs,h=>by rw[kY,kY,fT.length h.2.2] |[],_::_,h=>h.elim |_::_,[],h=>h.elim
theorem fT.get{H:Hp}:∀{vs:AT}{rs:Da}{i:Nat}{v:V},fT H vs rs->vs[i]? =some v->∃r,rs[i]? =some r/\bj H v r/\Bd 2000 r
 |[],[],i,v,_,e=>by simp at e |v::vs,r::rs,0,v',h,e=>by
  let e':v=v':=by simpa using e
  subst e';erw[r,Z,h.1,h.2.1] |v::vs,r::rs,i+1,v',h,e=>by let(r',e1,q):=fT.get h.2.2 (show vs[i]? =some v' by simpa using e);erw[r',by simpa using e1,q] |[],_::_,_,_,h,_=>h.elim |_::_,[],_,_,h,_=>h.elim
inductive Ad|mk l xs rs(_:vs=[.ref l])(_:aK K H l xs)(_:fT H xs rs)(_:xs≠[])(_:∀(i:Nat)(v:V)(r:Rat),xs[i]? =some v->rs[i]? =some r->(∀s∈rs,r<=s)->Q v H)
def RU:bA ["some","best","one"] ["some"] (aY Ua):=bJ aP
def yd(AA:a0q):a0n "least" 2 Ad:=by
 exists AA.adq.has,RU,fE λ_=>rfl
 ·let(l,xs,rs,rfl,hl,qx,eZ,k):=h
  let nd:=RU.nd;erw[_,%[pS 1 nd (px K o0 aA),gh fc Z (qe K Z o0) (ba 2 nd) (aG (bp (cg (pf (CY AA) hr %[2,1|az])) (aG (pS 1 nd w4)) bE)),aQ u8|aG],?_];let hlen:=⇑qx;let h0:0<⇑xs:=F1.mpr eZ;let e0:=bf h0;erw[ww,.inl #[l,xs,0,xs[0],wP,hl,cn aw e0,?_],B,ww,l,Z,#[_,hl],Bk (K:=K) (a:=l) (xs:=xs) (λi O H2=>H2=H/\∃(j:Nat)(b:V)(r:Rat)(v:Option V),xs[j]? =some b/\rs[j]? =some r/\(∀(m:Nat)(s:Rat),m<i->rs[m]? =some s->r<=s)/\O=[some (.ref l),some b,v]) ?_ (λi O H2 _ h=>by rw[h.1];erw[hl]) ?_ ?_]
  ·let(r,e1,_):=qx.get e0
   erw[Z,0,_,r,none,e0,e1,λm s hm=>absurd hm (EX _),Z]
  ·rintro i x O H2 hx ⟨rfl,j,b,r,v,eb,er,hm,rfl⟩
   erw[gH ?_];intro E1;let(t,et,rt,bt):=qx.get hx;let(r2,DX,rb,bb):=qx.get eb;rw[er]at DX;cases DX;erw[wp,x,b,t,r,Z,rt,rb,bt,bb,wv,B,eV (λhc=>?_) (λhc=>?_)]
   ·let bu:t<r:=kg hc
    erw[wv,B,Z,i,x,t,_,hx,et,λm s yM es=>?_,Z];rcases Oy.mp yM with h|h
    ·erw[cu (ET bu) (hm m s h es)]
    ·subst h
     rw[et]at es;cases es;erw[fG]
   ·let LJ:¬t<r:=λz=>hc (cy z)
    erw[Z,j,b,r,_,eb,er,λm s yM es=>?_,Z];rcases Oy.mp yM with h|h
    ·erw[hm m s h es]
    ·subst h
     rw[et]at es;cases es;erw[pM.mp LJ]
  ·rintro O H2 ⟨rfl,j,b,r,v,eb,er,hm,rfl⟩
   erw[ww,k j b r eb er λs hs=>?_];let(m,pD,em):=a1B.mp hs;erw[hm m s (_S.fD pD hlen) (by rw[bf pD,em])]
inductive a47|mk a b(_:vs=[.int a,.int b])(_:b≠0)(_:Wd b)(_:∀v H',bj H' v (Rat.divInt a b)->aI H H'->Q v H')
def Sj:bA ["p","q"] ["p","q"] (aY Uu):=bJ aP
def CZ(AA:a0q):a0n "fraction" 3 a47:=by
 exists AA.adH.has,Sj,eQ λ_ _=>rfl
 ·let(a,b,rfl,hb,wb,k):=h
  let nd:=Sj.nd;erw[_,%[bp (PW.pt (iQ (dN (cg (pf (ye AA) hr %[0|az]))) (lC (dN (cg (pf (ye AA) hr %[1|az])))))) (aG vS) bE,bp (bL (cJ K Z hr.units) u8 aA (bc _)) (aG vS) bE,aQ (pf (Gq AA) hr %[0,1|az])|aG],?_];let iw:jD "int"=true:=by decide
  erw[ww,_,"int",wP,wv];rw[iw];erw[aX ?_,B,ww,_,"int",wP,wv];rw[iw];erw[aX ?_,B,ww,.inl #[_,_,Z,Z,_,Z,?_]];rw[dh hb];erw[aX ?_,B,wp,wT,hb,wb,λt H' nw=>k _ _ (G9 hb Z nw.at') nw.ss]
inductive a4e|mk v r(_:vs=[v])(_:bj H v r)(_:Q (.bl true) H)
def Sg:bA ["thing","p","q"] ["thing"] (aY Ur):=bJ aP
def a81(AA:a0q):a0n "is_fraction" 2 a4e:=by
 exists AA.adF.has,Sg,fE λ_=>rfl
 ·let(v,r,rfl,(p,rfl,hp),k):=h
  let nd:=Sg.nd;erw[_,%[bp (PW.pt (iQ (dN (cg (dk K AA.B %[0,cS (x:="tuple") (v:=.ty "tuple") Z (AA.B.at "tuple") gu rfl|az]))) (lC (bL (j9 K rfl hr.units) (dC K AA.B %[0|az]) aA (bc _))))) (aG (aQ jB)) bE,fz o0 (cX K Z (n:=2) Z %[ba 1 nd,ba 2 nd|cW]),bp (PW.pt (iQ (dN (cg (pf (ye AA) hr %[1|az]))) (lC (dN (cg (pf (ye AA) hr %[2|az])))))) (aG (aQ jB)) bE,aQ (iE (fN qh w4 aA (bc _)) (iR (fN (cJ K Z hr.units) (pf (Wo AA) hr %[1,2|az]) aA (bc _))))|aG],?_];let iw:jD "int"=true:=by decide
  let rJ:j6 "tuple" "tuple"=true:=by decide
  erw[ww,.inl #[_,"tuple","tuple",true,Z,.inr #[Z,_,hp],aw,rJ,ww,aX ?_],B,ww,p,ww,.inr hp,.inl #[wr,ww,aX ?_],B,ww,p,ww,hp,wE,B,ww,_,"int",wP,wv];rw[iw];erw[aX ?_,B,ww,_,"int",wP,wv];rw[iw];erw[aX ?_,B,Wk,wv];rw[cy (den_pos r)];erw[bB ?_,B,wp,wT,.inl #[wr,?_]];rw[cop r];erw[k]
end
end _c
namespace _c
universe _L _d _l
section
def fC(rs:Ar)(r f j t:Int):aj:=.tuple [.tuple (rs.map PyData.int),.int r,.int f,.int j,.int t]
def qq(rs:Ar)(r f j t:Int):eH (fC rs r f j t)=true:=by simp[fC,eH,bR,nA]
def nC{v:V}{r t:Int}(h:RD K H v (fC rs r f j t)):∃a b,v= .ref a/\aW K H a [.ref b,.int r,.int f,.int j,.int t]/\aW K H b (rs.map V.int):=by let(a,xs,rfl,h1,h2):=h.cD;let(x1,r1,rfl,e1,h2):=h2.cons_inv;let(x2,r2,rfl,e2,h2):=h2.cons_inv;let(x3,r3,rfl,e3,h2):=h2.cons_inv;let(x4,r4,rfl,e4,h2):=h2.cons_inv;let(x5,r5,rfl,e5,h2):=h2.cons_inv;cases h2.nil_inv;cases e2.int_inv;cases e3.int_inv;cases e4.int_inv;cases e5.int_inv;let(b,ys,rfl,h3,h4):=e1.cD;rw[h4.jm]at h3;erw[a,b,Z,h1,h3]
structure fQ(rs:Ar)(r f j t:Int):Prop where
 len:⇑rs=2\/⇑rs=3
 rl:∀z∈rs,1<=z/\z<=100
 r1:1<=r/\r<=50
 f1:1<=f/\f<=50
 j1:1<=j/\j<=50
 t1:1<=t/\t<=100
inductive a49|mk p(_:vs=[.ref p])(_:gI H p)(_:∀v rs r f j t H',RD K H' v (fC rs r f j t)->fQ rs r f j t->bF p H H'->Q v H')
def RM:bA ["_law_bag_here","_law_kind","_law_most","_law_rails"] ["_law_bag_here"] (aY U5):=bJ aP
def a7U(AA:a0q):a0n "_law_machine" 2 a49:=by
 exists AA.ae1.has,RM,fE λ_=>rfl
 ·let(p,rfl,bg,k):=h
  let nd:=RM.nd;erw[_,%[pS 1 nd (pf (eK AA) hr %[0,aA|az]),pS 2 nd (px K (cY %[aA,aA,aA,aA,aA,aA,aA,aA|az]) u8),(pS 3 nd (gY (x:="tuple") (pP K Z) Z (AA.B.at "tuple") gu %[(gX (N:=["_law_axis","_law_bag_here","_law_most"]) (js:=[none,some 0,some 2]) rfl rfl rfl (pZ rfl (AA.B.at "range") %[aM cM aA (pf (eK AA) hr %[0,aA|az])|az]) (λ_ _ _ _ _=>(ba 0 (show List.Nodup (["_law_axis","_law_bag_here","_law_most"]:Ch) by decide+kernel))) (λ_ _ _ _ _=>fZ) (λ_ _ _ _ _=>(aM cM aA (pf (eK AA) hr %[1,2|az]))))|az])),(bp (bL (cJ K Z hr.units) u8 aA (bc _)) (aG (aQ (dA %[3,aM cM aA (aM bO aA (pf (eK AA) hr %[0,aA|az])),aM cM aA (aM bO aA (pf (eK AA) hr %[0,aA|az])),aM cM aA (aM bO aA (pf (eK AA) hr %[0,aA|az])),aA|az]))) bE),(aQ (dA %[3,aM cM aA (pf (eK AA) hr %[0,aA|az]),aM cM aA (pf (eK AA) hr %[0,aA|az]),aM cM aA (pf (eK AA) hr %[0,aA|az]),aM cM aA (pf (eK AA) hr %[0,aA|az])|az]))|aG],?_,B,ww,p,8,Z,bg,aw,aw,λkd H1 k0 k1 b1=>?_,B,bM Z,λl H2 nw=>?_];let b2:bF p H1 H2:=.fK b1.bw nw.ss;let(zh,mf,ef):=XO [100,100,100,60,60,20,5,100] k0 k1;let f1:1<=zh/\zh<=100:=by
   let h:∀z∈([100,100,100,60,60,20,5,100]:Ar),1<=z/\z<=100:=by decide
   erw[h zh mf]
  erw[ww,.inl #[l,_,wr,aK.of nw.at',ef,?_],B,ww,p,2,Z,b2.bw,aw,aw,λax H3 a0 a1 b3=>?_,B,wr,ww,_S.NO a0 aw,_S.a0y a1 aw,λD H4 n4=>?_,B,afn (J:=tI 0 (2+ax).toNat) (p:=p) (H:=H3) (2+ax).toNat _ n4 b3.bw (_S.toN (_S.zC a1 aw)) (λi=>.int (0+(i:Int))) (λi H5 hi _=>#[hi,λy H6 #[e,q]=>#[e,q]]) (λH5 _=>aZ _) (λz=>1<=z/\z<=100) ?_ ?_]
  ·intro i H5 Q' hi b5 hq
   erw[wp,p,zh,Z,b5.bw,f1.1,fW f1.2 aw,λd H6 d0 d1 b6=>?_,B,wr,hq _ _ (And.intro (_S.lK d0) (fW (_S.lL d1) f1.2)) b6]
  intro H5 is b5 d5 l5 bd5;let tD:=b1.ao (b2.ao (b3.ao b5));erw[D,ww,.inl #[aK.of d5,λq H6 n6=>?_]];let b6:bF p H5 H6:=.fK tD.bw n6.ss;let q6:aW K H6 q (is.map V.int):=aW.of n6.at';erw[ww,.inl #[_,_,Z,Z,_,Z,?_],B,eV (λhc=>?_) (λhc=>?_)]
  ·erw[wp,p,2,Z,b6.bw,aw,aw,λri H7 Vi Vh b7=>?_]
   erw[wr,.of_left (cB aw aw),wr,?_,B,ww,p,2,Z,b7.bw,aw,aw,λfa H8 YJ YI b8=>?_,B,wr,.of_left (cB aw aw),wr,?_,B,ww,p,2,Z,b8.bw,aw,aw,λju H9 XE XD b9=>?_,B,wr,.of_left (cB aw aw),wr,?_,B,bM Z,λt jK uC=>?_];let HI:bF p H9 jK:=.fK b9.bw uC.ss;let a0k:=b7.ao (b8.ao (b9.ao HI));let q10:aW K jK q (is.map V.int):=aW.t (bF.t b6.bw a0k) q6;erw[k (.ref t) is (1+49*ri) (1+49*fa) (1+49*ju) 100 jK (gD (aW.of uC.at') %[gD q10 (vP is),eB _,eB _,eB _,eB _|cQ]) #[aE,bd5,aE,aE,aE,aw] (tD.ao (b6.ao a0k))]
  ·erw[wp,p,50,Z,b6.bw,aw,aw,λri H7 Vi Vh b7=>?_]
   erw[wr,?_,B,ww,p,50,Z,b7.bw,aw,aw,λfa H8 YJ YI b8=>?_,B,wr,?_,B,ww,p,50,Z,b8.bw,aw,aw,λju H9 XE XD b9=>?_,B,wr,?_,B,ww,p,100,Z,b9.bw,aw,aw,λti jK ti0 FE HI=>?_,B,wr,bM Z,λt jJ lN=>?_];let b11:bF p jK jJ:=.fK HI.bw lN.ss;let a0j:=b7.ao (b8.ao (b9.ao (HI.ao b11)));let CD:aW K jJ q (is.map V.int):=aW.t (bF.t b6.bw a0j) q6;erw[k (.ref t) is (1+ri) (1+fa) (1+ju) (1+ti) jJ (gD (aW.of lN.at') %[gD CD (vP is),eB _,eB _,eB _,eB _|cQ]) #[aE,bd5,And.intro (_S.lK Vi) (_S.lL Vh),And.intro (_S.lK YJ) (_S.lL YI),And.intro (_S.lK XE) (_S.lL XD),And.intro (_S.lK ti0) (_S.lL FE)] (tD.ao (b6.ao a0j))]
inductive Qs|mk a b(_:vs=[.int a,.int b])(_:0<b)(_:Wd b)(_:∀v H',bj H' v (Rat.divInt a b)->aI H H'->Q v H')
def Si:bA ["_law_p","_law_q","_law_one","_law_other_here"] ["_law_p","_law_q"] (aY Ut):=bJ aP
def uv(AA:a0q):a0n "_law_frac" 1 Qs:=by
 exists AA.aea.has,Si,eQ λ_ _=>rfl
 ·let(a,b,rfl,hb,wb,k):=h
  let nd:=Si.nd;erw[_,%[(rV (i:=2) (j:=3) Z nd Z Z aw Z Z %[eR (x:="abs") tj Z (AA.B.at "abs") vt %[0|az],1|az] rfl),rS fc (bL qh L2 aA (bc _)) (aG (rV (i:=2) (j:=3) Z nd Z Z aw Z Z %[3,aM vT w4 L2|az] Z)),aQ (dA %[aM rY o0 w4,aM rY u8 w4|az])|aG],?_,B,ZB,_,wv,B,rC (λO H2=>H2=H/\∃(x y:Int),O=[some (.int a),some (.int b),some (.int x),some (.int y)]/\0<=x/\0<=y/\Int.gcd x y=Int.gcd a b) (λO _=>match O with|[_,_,_,some (.int y)]=>y.natAbs|_=>0) ?_ ?_ ?_]
  ·erw[Z,wT,by split<;>lia,gT hb,?_]
   let h1:(if a<0 then-a else a).natAbs=a.natAbs:=by split<;>lia
   unfold Int.gcd;rw[h1]
  ·rintro O H2 ⟨rfl,x,y,rfl,x0,y0,e⟩
   erw[zD ?_];intro E1;erw[Wk,wv,B,eV (λhc=>?_) (λhc=>?_)]
   ·let nH:0<y:=kg hc
    let hy:y≠0:=j4 nH;erw[ZB,wr,nH,_,wv,B,#[Z,wT,y0,tQ _ hy,(_A.Yq nH).ao e],?_];show(x%y).natAbs<y.natAbs;have:=tQ x hy;have:=xE x nH
    lia
   ·let hy:y=0:=by
     have:¬y>0:=λz=>hc (cy z)
     lia
    subst hy;rw[j06]at e;let ex:x=((Int.gcd a b:Nat):Int):=by lia
    let uS:b≠0:=j4 hb;let gp:=_A.He (p:=a) uS;let es:_A.sg a b=(Int.gcd a b:Int):=by unfold _A.sg;rw[aV (zY (gT hb))]
    let gw:Wd (Int.gcd a b:Int):=by rw[<-es];erw[kh (_A.Qy uS) wb]
    let(e1,e2):=GA (a:=a) uS;let f1:a/(Int.gcd a b:Int)=(Rat.divInt a b).num:=by rw[<-e1];unfold _A.lowP;rw[es,a1I _ (cf _)]
    let f2:b/(Int.gcd a b:Int)=((Rat.divInt a b).den:Int):=by rw[<-e2];unfold _A.ja;rw[es,a1I _ (cf _)]
    subst ex;erw[Wp,#[gp,gw],Wp,#[gp,gw],bM Z,λt H6 n6=>?_];let at6:=n6.at';simp only[f1,f2]at at6;erw[k _ _ #[t,Z,aW.of at6] n6.ss]
  ·rintro O H2 Q1 Q2 hq ⟨v1,e1,i,j,e3,e4,kk,e5,q⟩
   erw[v1,e1,i,j,e3,e4,kk,e5,hq _ _ q]
def RZ:bA ["_law_thing"] ["_law_thing"] (aY Ue):=bJ aP
def Kk(AA:a0q):a0n "_law_number" 1 Cq:=by
 exists AA.YN.has,RZ,fE λ_=>rfl
 ·let(v,T,rfl,ty,k):=h
  let nd:=RZ.nd;erw[_,(aG (aQ (iE (dk K AA.B %[0,cS (x:="int") (v:=.ty "int") Z (AA.B.at "int") xo rfl|az]) (iR (y6 (dk K AA.B %[0,cS (x:="bool") (v:=.ty "bool") rfl (AA.B.at "bool") a1u rfl|az])))))),?_,B,ww,.inl #[_,T,"int",ww,ty,aw,Z,wv]];unfold jD at k;erw[eV (λhc=>?_) (λhc=>?_)]
  ·erw[ww,.inl #[_,T,"bool",ww,ty,aw,Z,wv]]
   rw[hc,mU]at k;erw[k]
  ·rw[A0.mpr hc,o9]at k
   erw[k]
end
section
def Pc:j6 "tuple" "tuple"=true:=by decide
def Pg:j6 "list" "list"=true:=by decide
abbrev Itm:=Option (List Int × Int)
def itR(d:aj)(o:Itm):Prop:=(∃ns sp,d=jk ns sp/\o=some (ns,sp))\/∃w x,d= .tuple [.str w,x]/\(w="wait"\/w="tool"\/w="mark")/\eH x=true/\o=none
def itR.no(h:itR d o):eH d=true:=by
 rcases h with⟨ns,sp,rfl,_⟩|⟨w,x,rfl,_,h,_⟩
 ·erw[L6 _ _]
 ·simp[eH,bR,h]
def GK{v:V}(h:RD K H v d)(i:itR d o):∃a w ys,v= .ref a/\aW K H a (.str w::ys)/\(PyData.eqv (.str w) (.str "line")=o.isSome)/\SeqAt.shaped (.str w)=true:=by
 rcases i with⟨ns,sp,rfl,rfl⟩|⟨w,x,rfl,hw,_,rfl⟩
 ·let(a,b,rfl,h1,_):=pk h
  erw[a,wT,h1,(by show PyData.eqv (.str "line") (.str "line")=true;decide+kernel),aP]
 ·let(a,xs,rfl,h1,h2):=h.cD
  let(x1,r1,rfl,e1,h2):=h2.cons_inv;cases e1.str_inv;erw[a,w,r1,Z,h1,zn]
  ·show PyData.eqv (.str w) (.str "line")=false
   rcases hw with rfl|rfl|rfl<;>decide+kernel
  ·rcases hw with rfl|rfl|rfl<;>decide+kernel
def GF:SeqAt.shaped (.str "line")=true:=by decide+kernel
def kB(h:itR d (some (ns,sp))):d=jk ns sp:=by
 rcases h with⟨gO,iC,e1,e2⟩|⟨_,_,_,_,_,e2⟩
 ·cases e2;erw[e1]
 ·cases e2
structure cj(ax:Nat)(ds:AC)(os:BT):Prop where
 len:⇑ds=os.length
 it:∀(i:Nat)(d:aj)(o:Itm),ds[i]? =some d->os[i]? =some o->itR d o
 ok:∀(i:Nat)(ns:Ar)(sp:Int),os[i]? =some (some (ns,sp))->fU ax 100 ns/\1<=sp/\sp<=20
def cj.nil:cj ax [] []:=#[Z,λi d o e=>by simp at e,λi ns sp e=>by simp at e]
def vG{α:Type}{xs:List α}{x y:α}{j:Nat}(e:(xs++[x])[j]? =some y):xs[j]? =some y\/(j=⇑xs/\y=x):=by
 by_cases hj:j<⇑xs
 ·rw[nZ hj]at e;erw[.inl e]
 ·let yP:j=⇑xs:=by
   have:=(ck.mp e).1;rw[cH]at this;have:j<⇑xs+1:=this
   lia
  rw[yP,oX (aZ _),BO]at e;erw[.inr #[yP,(fm e).symm]]
def cj.snoc{ax:Nat}{ds:AC}{os:BT}{d:aj}{o:Itm}(h:cj ax ds os)(i:itR d o)(g:∀ns sp,o=some (ns,sp)->fU ax 100 ns/\1<=sp/\sp<=20):cj ax (ds++[d]) (os++[o]):=by
 let hl:=h.len;erw[by rw[cH,cH,h.len];rfl,λj d' o' e1 e2=>?_,λj ns sp e=>?_]
 ·rcases vG e1 with e1|⟨j1,rfl⟩
  ·rcases vG e2 with e2|⟨j2,rfl⟩
   ·erw[h.it j d' o' e1 e2]
   ·have:=(ck.mp e1).1;lia
  ·rcases vG e2 with e2|⟨j2,rfl⟩
   ·have:=(ck.mp e2).1;lia
   ·erw[i]
 ·rcases vG e with e|⟨_,e⟩
  ·erw[h.ok j ns sp e]
  ·erw[g ns sp e.symm]
theorem cj.no{ax:Nat}{ds:AC}{os:BT}(h:cj ax ds os):bR ds=true:=cA.mpr λd hd=>by let(i,hi):=xA.mp hd;let hl:=(ck.mp hi).1;exact(h.it i d _ hi (bf (by rw[<-h.len];erw[hl]))).no
def cj.get{ax:Nat}{ds:AC}{os:BT}(h:cj ax ds os){i:Nat}{d:aj}(e:ds[i]? =some d):∃o,os[i]? =some o/\itR d o:=by let hl:=(ck.mp e).1;let e2:=bf (show i<⇑os by rw[<-h.len];erw[hl]);erw[_,e2,h.it i d _ e e2]
def aH.xR(dl:H l=some (.bi ys))(r:aH K H ys ds)(rd:RD K H y d)(n1:bR ds=true)(n2:eH d=true):aH K (_L.bn H l (.bi (ys++[y]))) (ys++[y]) (ds++[d]):=by let t:fw H (_L.bn H l (.bi (ys++[y]))):=.iB dl;exact(aH.t t _ n1 r).append %[RD.t t _ n2 rd|cQ]
inductive a4g|mk v d o(_:vs=[v])(_:RD K H v d)(_:itR d o)(_:Q (.bl o.isSome) H)
def S7:bA ["item"] ["item"] (aY Uj):=bJ aP
def si(AA:a0q):a0n "is_line" 1 a4g:=by
 exists AA.adC.has,S7,fE λ_=>rfl
 ·let(v,d,o,rfl,ri,it,k):=h
  let nd:=S7.nd;erw[_,(aG (aQ (fN (cJ K Z hr.units) (px K o0 aA) fA (bc _)))),?_];let(a,wd,ys,rfl,h1,ew,sw):=GK ri it;erw[ww,.inr #[a,_,0,.str wd,wP,h1,cn (dU 0) Z,.inr #[xz,cF _,cF _,sw,GF,?_]]];rw[ew];erw[k]
theorem PU{H:Hp}:∀{xs:AT}{zs:Ch},aH K H xs (zs.map PyData.str)->xs=zs.map V.str |xs,[],h=>h.nil_inv |xs,n::ns,h=>by let(y,ys,rfl,h1,h2):=h.cons_inv;rw[h1.str_inv,PU h2];rfl
def agv:⇑mJ.cps.toList=26:=by decide+kernel
def RE:bA ["_law_bag_here","_law_kind","_law_letters"] ["_law_bag_here"] (aY TR):=bJ aP
end
section
def NG{xs:List α}(h:xs.getLast? =some x):fj xs (-1)=some x:=by
 unfold fj iS;let hl:xs≠[]:=by intro e;rw[e]at h;cases h
 let h0:0<⇑xs:=F1.mpr hl;rw[aV aw,aR (by erw[On (le_of_le_of_eq (_S.tf h0) Z)])];rw[a1D]at h;show xs[((-1:Int)+(⇑xs:Int)).toNat]? =some x;let e:((-1:Int)+(⇑xs:Int)).toNat=⇑xs-1:=by lia
 rw[e];erw[h]
end
end _c
namespace _c
universe _L _d
section
def a1W(ns:Ar):aj:=.tuple (ns.map λz=>cI (Rat.divInt z (_l.aF ns)))
def p7(r:Rat):eH (cI r)=true:=by simp[cI,eH,bR]
def Wx{α:Type}{f:α->aj}(h:∀a,eH (f a)=true)(l:List α):bR (l.map f)=true:=cA.mpr λd hd=>by let(a,_,rfl):=gS.mp hd;erw[h a]
inductive a3w|mk v ns sp(_:vs=[v])(_:RD K H v (jk ns sp))(_:fU ⇑ns 1000 ns)(_:⇑ns<=1000)(_:∀v' H',RD K H' v' (a1W ns)->aI H H'->Q v' H')
def QE:bA ["line","lead"] ["line"] (aY SH):=bJ aP
def W3(AA:a0q):a0n "ways_of" 4 a3w:=by
 exists AA.ad2.has,QE,fE λ_=>rfl
 ·let(v,ns,sp,rfl,rd,ok,hz,k):=h
  let nd:=QE.nd;erw[_,%[pS 1 nd (pf (uu AA) hr %[0|az]),(aQ (gY (x:="tuple") (pP K Z) Z (AA.B.at "tuple") gu %[gX (N:=["step","lead"]) (js:=[none,some 1]) rfl rfl rfl (qc K rfl (px K o0 aA)) (λ_ _ _ _ _=>(ba 0 (hW aw))) (λ_ _ _ _ _=>fZ) (λ_ _ _ _ _=>(pf (CZ AA) hr %[0,1|az]))|az]))|aG],?_,B,ww,v,ns,sp,Z,rd,ok.ne,hz,λH1 s1=>?_];let(a,b,rfl,ha,hb):=pk (RD.sK s1 _ rd);let(lp,lm):=ok.lead;erw[ww,.inr #[a,_,1,.ref b,wP,ha,Z,b,Z,#[_,hb],λD H0 nw=>?_],B,Hw (K:=K) (xs:=ns.map V.int) (ds:=ns.map λz=>cI (Rat.divInt z (_l.aF ns))) _ hb nw (by simp) (by simpa using hz) (Wx (λ_=>p7 _) _) ?_ ?_]
  ·intro i x d H2 Q' ex ed s2 hq
   let(n,en,rfl):=sx ed;cases Dl ex en;erw[wp,n,ww,_S.Df (eG (cf _) (_S.hJ lp)),kr (n:=20) (_S.uA (cf _) lm aw) aw,λv3 H3 r3 s3=>?_,B,hq _ _ s3 r3.rd]
  ·intro H' ys s2 d2 r2
   erw[D,ww,.inl #[aK.of d2,λt H4 n4=>?_],B,k _ _ (gD (aW.of n4.at') (aH.sK n4.ss _ r2)) (s1.ao (s2.ao n4.ss))]
end
end _c
namespace _c
universe _L
section
def rJ:j6 "tuple" "tuple"=true:=by decide
def a1V(d:aj):(∃i,d= .int i/\jD (lg d)=true)\/(jD (lg d)=false/\∀i,d≠ .int i):=by cases d with |int i=>erw[.inl #[i,Z,by simp[lg];decide]] |_=>erw[.inr #[by simp[lg];decide,λ_ z=>nomatch z]]
def IT(d:aj):(∃ds,d= .tuple ds)\/(j6 (lg d) "tuple"=false/\∀ds,d≠ .tuple ds):=by cases d with |tuple ds=>erw[.inl #[ds,Z]] |_=>erw[.inr #[by simp[lg];decide,λ_ z=>nomatch z]]
def iT(lo hi:Int):aj->Bool | .int i=>decide (lo<=i)&&decide (i<=hi) |_=>false
def aav{lo hi:Int}(h:∀i,d≠ .int i):iT lo hi d=false:=by cases d<;>first|rfl|erw[absurd rfl (h _)]
inductive a3x|mk v d lo hi(_:vs=[v,.int lo,.int hi])(_:RD K H v d)(_:Q (.bl (iT lo hi d)) H)
def QF:bA ["thing","low","high"] ["thing","low","high"] (aY SI):=bJ aP
def CV(AA:a0q):a0n "is_whole_within" 2 a3x:=by
 exists AA.adu.has,QF,ka λ_ _ _=>rfl
 ·let(v,d,lo,hi,rfl,rd,k):=h
  let nd:=QF.nd;erw[_,(aG (aQ (iE (pf (ye AA) hr %[0|az]) (iR (VJ Gj Gj u8 o0 w4))))),?_,B,ww,wT,rd.ty,wv];rcases a1V d with⟨i,rfl,e⟩|⟨e,hn⟩
  ·cases rd.int_inv
   rw[e];erw[bB ?_];let k:Q (.bl (decide (lo<=i)&&decide (i<=hi))) H:=k;erw[Wp,wv,B,eV (λhc=>?_) (λhc=>?_)]
   ·let kP:decide (lo<=i)=true:=hc
    rw[kP,mU]at k;erw[Wk,k]
   ·let kP:decide (lo<=i)=false:=A0.mpr hc
    rw[kP,o9]at k;erw[k]
  ·rw[e]
   erw[aX ?_];rw[aav hn]at k;erw[k]
end
end _c
namespace _c
universe _L _d _l _C
section
def OX{ns ms:Ar}{i:Nat}{a b:Int}(h1:ns[i]? =some a)(h2:ms[i]? =some b):(dQ ns ms)[i]? =some (a*(aF ms:Int)-b*(aF ns:Int)):=by unfold dQ;rw[bV,(OJ (z:=(a,b))).mpr #[h1,h2]];rfl
def Ei(j:Int)(ns ms:Ar):aj:=if aF (dQ ns ms)=0 then .none else cI (Rat.divInt ((j*aF ns*aF ms)^2) ((aF (dQ ns ms):Int)^2))
inductive a4n|mk v v1 v2 rs r f j t ns ms cT dM(_:vs=[v,v1,v2])(_:RD K H v (fC rs r f j t))(_:RD K H v1 (jk ns cT))(_:RD K H v2 (jk ms dM))(_:fU ⇑ns 1000 ns)(_:fU ⇑ns 1000 ms)(_:⇑ns<=1000)(_:1<=j)(_:j<=50)(_:∀v' H',RD K H' v' (Ei j ns ms)->aI H H'->Q v' H')
def zip2{ns ms:Ar}(h:⇑ms=ns.length){i:Nat}{x y:V}(ex:(ns.map V.int)[i]? =some x)(ey:(ms.map V.int)[i]? =some y):∃a b,ns[i]? =some a/\ms[i]? =some b/\x= .int a/\y= .int b:=by rw[bV]at ex ey;cases e1:ns[i]? with |none=>rw[e1]at ex;cases ex |some a=>cases e2:ms[i]? with |none=>rw[e2]at ey;cases ey |some b=>rw[e1]at ex;rw[e2]at ey;erw[a,b,wP,(fm ex).symm,(fm ey).symm]
inductive a3z|mk v1 v2 ns ms cT dM(_:vs=[v1,v2])(_:RD K H v1 (jk ns cT))(_:RD K H v2 (jk ms dM))(_:fU ⇑ns 1000 ns)(_:fU ⇑ns 1000 ms)(_:⇑ns<=1000)(_:∀v' H',bj H' v' (Rat.divInt (aF (dQ ns ms)) ((aF ns:Int)*aF ms))->aI H H'->Q v' H')
def QG:bA ["one","other","greatest","way","new_way","p","q","difference"] ["one","other"] (aY SJ):=bJ aP
def a7q(AA:a0q):a0n "greatest_turn" 5 a3z:=by
 exists AA.adG.has,QG,eQ λ_ _=>rfl
 ·let(v1,v2,ns,ms,cT,dM,rfl,xX,rQ,fg,g9,hz,k):=h
  let nd:=QG.nd;let(Dq,GD):=fg.lead;let(Dp,AX):=g9.lead;let yI:⇑ms<=1000:=by rw[g9.len];erw[hz]
  let a8n:fU ⇑ms 1000 ms:=#[Z,g9.bd,g9.nz];let cb:=Hv (λz hz=>by have:=fg.bd z hz;lia) (λz hz=>by have:=g9.bd z hz;lia) (ns:=ns) (ms:=ms);let L0:(0:Int)<(aF ns:Int)*aF ms:=eY (eG (cf _) (_S.hJ Dq)) (eG (cf _) (_S.hJ Dp));let Lb:((aF ns:Int)*aF ms).natAbs<=1000*1000:=oz (_S.hZ (cf _) GD aw) (_S.hZ (cf _) AX aw);let afy:⇑(dQ ns ms)=ns.length:=by simp[dQ,g9.len]
  let Yc:∀c:Int,c.natAbs<=2000000->Bd 2000 (Rat.divInt c ((aF ns:Int)*aF ms)):=λc hc=>(ny (n:=30) (j4 L0) (kh hc aw) (kh Lb aw)).sK aw;erw[_,%[pS 2 nd (dA %[aA,aA|az]),(gh fc Z (lH K Z false false Z (AA.B.at "zip") %[pf (W3 AA) hr %[0|az],pf (W3 AA) hr %[1|az]|az]) (cX K rfl (n:=2) rfl %[ba 3 nd,ba 4 nd|cW]) %[fz (pf (a7S AA) hr %[4,3|az]) (cX K Z (n:=2) Z %[ba 5 nd,ba 6 nd|cW]),(pS 7 nd (dA %[eR (x:="abs") tj Z (AA.B.at "abs") vt %[5|az],6|az])),bp (cg (pf (CY AA) hr %[2,7|az])) (aG (pS 2 nd a0g)) bE|aG]),aQ w4|aG],?_,B,bM Z,λg0 H1 n1=>?_,B,ww,v1,ns,cT,Z,RD.sK n1.ss _ xX,fg,hz,λw1 H2 r2 s2=>?_];let t2:=n1.ss.ao s2;erw[ww,v2,ms,dM,Z,RD.sK t2 _ rQ,a8n,yI,λw2 H3 r3 s3=>?_];let t3:=t2.ao s3;let(c1,xs1,rfl,h1,q1):=(RD.sK s3 _ r2).cD;let(c2,xs2,rfl,h2,q2):=r3.cD;let l1:=⇑q1;let l2:=⇑q2;rw[bC]at l1 l2;erw[c1,c2,Z,#[_,h1],#[_,h2],?_,B,M9 (K:=K) (b1:=false) (b2:=false) (xs:=xs1) (ys:=xs2) ⇑ns (by rw[l1,l2,g9.len];lia) (λi O H4=>aI H3 H4/\∃g u1 u2 u3 u4 u5,bj H4 g (Rat.divInt (wq (dQ ns ms) i) ((aF ns:Int)*aF ms))/\O=[some v1,some v2,some g,u1,u2,u3,u4,u5]) ?_ (λi O H4 _ h=>#[h1.go h.1,h2.go h.1]) ?_ ?_]
  ·erw[aI.refl _,.ref g0,none,none,none,none,none,#[g0,Z,?_],Z]
   let e0:Rat.divInt ((wq (dQ ns ms) 0:Nat):Int) ((aF ns:Int)*aF ms)=0:=by show Rat.divInt 0 _=0;erw[Rat.zero_divInt _]
   rw[e0];erw[aW.of (s3 _ _ (s2 _ _ n1.at'))]
  ·rintro i x y O H4 ex ey ⟨s4,g,u1,u2,u3,u4,u5,rg,rfl⟩ T H5 n5
   erw[gH ?_];intro E1;let(d1,e1,rx):=q1.get' i ex;let(d2,e2,ry):=q2.get' i ey;let(a,ea,rfl):=sx e1;let(b,eb,rfl):=sx e2;let qa:=fg.bd a (gA ea);let qb:=g9.bd b (gA eb);let cz:=OX ea eb;let czb:=cb _ (gA cz);let t5:=s4.ao n5.ss;erw[T,ww,aW.of n5.at',wE];let jP:∀{H':Hp}{v:V}{r:Rat},RD K H' v (cI r)->bj H' v r:=λ{H' v r} h=>by let(p,xs,rfl,h1,h2):=h.cD;have:=h2.jm (ns:=[r.num,r.den]);subst this;erw[p,Z,h1]
   erw[wp,y,x,wT,jP (RD.sK t5 _ ry),jP (RD.sK t5 _ rx),(ny (n:=30) (_S.Df (eG (cf _) (_S.hJ Dp))) aE (_S.uA (cf _) AX aw)).sK aw,(ny (n:=30) (_S.Df (eG (cf _) (_S.hJ Dq))) aE (_S.uA (cf _) GD aw)).sK aw,λv6 H6 r6 s6=>?_];let ed:Rat.divInt b (aF ms)-Rat.divInt a (aF ns)=Rat.divInt (b*aF ns-a*aF ms) ((aF ns:Int)*aF ms):=a3l (eG (cf _) (_S.hJ Dq)) (eG (cf _) (_S.hJ Dp));let r6:bj H6 v6 (Rat.divInt b (aF ms)-Rat.divInt a (aF ns)):=r6;rw[ed]at r6;let(p6,rfl,h6):=r6;erw[p6,ww,h6,wE,B,ZB,bM Z,λdd H7 n7=>?_];let pT:=s6.ao n7.ss;let rD:bj H7 (.ref dd) (Rat.divInt (((a*(aF ms:Int)-b*(aF ns:Int)).natAbs:Nat):Int) ((aF ns:Int)*aF ms)):=by
    let e:Rat.divInt (((a*(aF ms:Int)-b*(aF ns:Int)).natAbs:Nat):Int) ((aF ns:Int)*aF ms)=zE (Rat.divInt (b*aF ns-a*aF ms) ((aF ns:Int)*aF ms)):=by rw[agr L0,Ew];congr 1;lia
    rw[e];erw[dd,Z,?_];rw[agq,ags];erw[aW.of n7.at']
   let rG:bj H7 g _:=(rg.go n5.ss).go pT;let hG:wq (dQ ns ms) i<=2000000:=sE λz hz=>cb z (BR hz);erw[wp,g,.ref dd,wT,rG,rD,Yc _ (_S.nM hG Z),Yc _ (_S.nM czb Z),wv];let hs:=abr cz;erw[eV (λhc=>?_) (λhc=>?_)]
   ·let bu:=(ZD L0).mp (kg hc)
    erw[wv,B,t5.ao pT,xz,xz,xz,?_,Z];rw[hs,Nat.max_eq_right aE];erw[rD]
   ·let GZ:¬_:=λz=>hc (cy ((ZD L0).mpr z))
    erw[t5.ao pT,xz,xz,xz,?_,Z];rw[hs,Nat.max_eq_left aE];erw[rG]
  ·rintro O H4 ⟨s4,g,u1,u2,u3,u4,u5,rg,rfl⟩
   erw[ww,k _ _ ?_ (t3.ao s4)];have:wq (dQ ns ms) ⇑ns=aF (dQ ns ms):=by unfold wq;rw[zT (m9 afy)]
   rw[this]at rg;erw[rg]
def Ss:bA ["machine","one","other","jump","p","q"] ["machine","one","other"] (aY UC):=bJ aP
def a8f(AA:a0q):a0n "corner_square" 6 a4n:=by
 exists AA.adK.has,Ss,ka λ_ _ _=>rfl
 ·let(v,v1,v2,rs,r,f',j,t,ns,ms,cT,dM,rfl,rd,xX,rQ,fg,g9,hz,j1,j2,k):=h
  let nd:=Ss.nd;let(Dq,GD):=fg.lead;let(Dp,AX):=g9.lead;let L0:(0:Int)<(aF ns:Int)*aF ms:=eY (eG (cf _) (_S.hJ Dq)) (eG (cf _) (_S.hJ Dp));let Lb:((aF ns:Int)*aF ms).natAbs<=1000*1000:=oz (_S.hZ (cf _) GD aw) (_S.hZ (cf _) AX aw);let cb:=Hv (λz hz=>by have:=fg.bd z hz;lia) (λz hz=>by have:=g9.bd z hz;lia) (ns:=ns) (ms:=ms);let hH:=sE cb;erw[_,%[pS 3 nd (px K o0 aA),fz (pf (a7q AA) hr %[1,2|az]) (cX K Z (n:=2) Z %[ba 4 nd,ba 5 nd|cW]),bp (bL (cJ K Z hr.units) M2 aA (bc _)) (aG (aQ gM)) bE,aQ (pf (CZ AA) hr %[aM bO (aM bO (aM bO L2 L2) P3) P3,aM bO M2 M2|az])|aG],?_];let(am,bm,rfl,gk,mE):=nC rd;erw[ww,.inr #[am,_,3,.int j,wP,gk,Z,?_],B,wp,v1,v2,ns,ms,cT,dM,Z,xX,rQ,fg,g9,hz,λv3 H3 r3 s3=>?_];obtain⟨Nz⟩:Nonempty (Bd 30 (Rat.divInt (aF (dQ ns ms)) ((aF ns:Int)*aF ms))):=⟨ny (n:=30) (j4 L0) aE (kh Lb aw)⟩;let en:=vq (Rat.divInt (aF (dQ ns ms)) ((aF ns:Int)*aF ms));obtain⟨R,hR⟩:∃R,Rat.divInt (aF (dQ ns ms)) ((aF ns:Int)*aF ms)=R:=#[_,Z];rw[hR]at r3 Nz en;let dp:=den_pos R;let Eh:R.num*((aF ns:Int)*aF ms)=aF (dQ ns ms)*R.den:=by rw[<-hR]at en;have:=(Sc (by rw[hR];erw[j4 dp]) (j4 L0)).mp en;rw[hR]at this;erw[this]
  let nb:=Nz.num;let db:=Nz.den;let(p3,rfl,h3):=r3;erw[p3,ww,h3,wE,B,ww,.inl #[_,_,Z,Z,_,Z,?_],B,eV (λhc=>?_) (λhc=>?_)]
  ·let h0:R.num=0:=by simpa using hc
   let hl:aF (dQ ns ms)=0:=by
    rw[h0,F7]at Eh;rcases Int.mul_eq_zero.mp Eh.symm with h|h
    ·lia
    ·lia
   erw[k .bP H3 ?_ s3];unfold Ei;rw[aR hl];erw[G6]
  ·let h0:R.num≠0:=by simpa using hc
   let hl:aF (dQ ns ms)≠0:=by
    intro z;rw[z]at Eh;have:R.num*((aF ns:Int)*aF ms)=0:=by rw[Eh];erw[F7 _]
    rcases Int.mul_eq_zero.mp this with h|h
    ·erw[h0 h]
    ·lia
   let m1:(j*j).natAbs<=50*50:=oz (_S.hZ j1 j2 aw) (_S.hZ j1 j2 aw);let oJ:(2:Nat)^64=18446744073709551616:=by decide
   erw[Wp,.of_left (cB (mT aw j1) (eG j2 aw)),Wk,.of_left (cB (_S.vX m1 aw) (_S.qj m1 aw)),Wk,.of_right (cB (_S.Hy aw) (mT (_S.hJ db) aw)),?_,B,Wp,.of_left (cB (_S.vX (cw nb) aw) (_S.qj (cw nb) aw)),?_,B,wT,OP h0 h0,?_,λv4 H4 r4 s4=>?_]
   ·erw[kr (n:=60) ?_ aw]
    rw[ij];erw[qm (n:=30) (m:=30) nb nb]
   ·erw[k _ _ ?_ (s3.ao s4)]
    unfold Ei;rw[aV hl];let e:=afc (j:=j) (p:=R.num) (q:=R.den) (h:=aF (dQ ns ms)) (L:=(aF ns:Int)*aF ms) h0 (j4 (eG (cf _) (_S.hJ (Nat.pos_of_ne_zero hl)))) Eh;rw[e,<-C3]at r4;erw[r4.rd]
def JR (d:aj):Bool:=iT 10 200 d
inductive a3Q|mk v d(_:vs=[v])(_:RD K H v d)(_:Q (.bl (JR d)) H)
def S6:bA ["thing"] ["thing"] (aY Ui):=bJ aP
def Wi(AA:a0q):a0n "is_rate" 3 a3Q:=by
 exists AA.adz.has,S6,fE λ_=>rfl
 ·let(v,d,rfl,rd,k):=h
  let nd:=S6.nd;erw[_,(aG (aQ (pf (CV AA) hr %[0,dY (x:="LEAST_RATE") Z AA.acC,dY (x:="GREATEST_RATE") Z AA.acE|az]))),?_,B,ww,v,d,10,200,Z,rd,k]
inductive a3B|mk v ns sp r(_:vs=[v,.int r])(_:RD K H v (jk ns sp))(_:1<=sp)(_:sp<=20)(_:10<=r)(_:r<=200)(_:∀v' H',bj H' v' (Rat.divInt ((sp*r)^2) 10000)->aI H H'->Q v' H')
def Qd(a b:Int):a*a*b*b=(a*b)^2:=by rw[fM,fM,md,kZ];ac_rfl
def a5Z{r:Int}(h1:10<=r)(h2:r<=200):JR (.int r)=true:=by show(decide (10<=r)&&decide (r<=200))=true;rw[cy h1,cy h2];rfl
def QI:bA ["line","rate","speed"] ["line","rate"] (aY SM):=bJ aP
def AE(AA:a0q):a0n "top_square" 4 a3B:=by
 exists AA.ad3.has,QI,eQ λ_ _=>rfl
 ·let(v,ns,sp,r,rfl,rd,s1,s2,r1,r2,k):=h
  let nd:=QI.nd;erw[_,%[bp (dN (cg (pf (Wi AA) hr %[1|az]))) (aG vS) bE,pS 2 nd (px K o0 aA),aQ (pf (CZ AA) hr %[aM bO (aM bO (aM bO w4 w4) u8) u8,aM bO aA aA|az])|aG],?_,B,ww,_,.int r,Z,eB r,wv];rw[a5Z r1 r2];erw[aX ?_];let(a,b,rfl,ha,hb):=pk rd;erw[ww,.inr #[a,_,2,.int sp,wP,ha,Z,?_]];let m1:(sp*sp).natAbs<=20*20:=by rw[ij];erw[pO (_S.hZ s1 s2 aw) (_S.hZ s1 s2 aw)]
  erw[Wp,.of_left (cB (mT aw s1) (eG s2 aw)),Wk,.of_left (cB (_S.vX m1 aw) (_S.qj m1 aw)),Wk,.of_right (cB (mT aw r1) (eG r2 aw)),?_,B,wr,.of_left (cB aw aw),?_,B,wT,aw,kr (n:=20) aw aw,λv' H' r' s'=>k v' H' ?_ s'];rw[Qd]at r';erw[r']
inductive a3A|mk v ns sp r(_:vs=[v,.int r])(_:RD K H v (jk ns sp))(_:1<=sp)(_:sp<=20)(_:10<=r)(_:r<=200)(_:∀v' H',bj H' v' (Rat.divInt ((sp*r)^2) 10000)->aI H H'->Q v' H')
def QH:bA ["_law_line_here","_law_rate"] ["_law_line_here","_law_rate"] (aY SK):=bJ aP
end
end _c
namespace _c
universe _L _d _l _C _P
open _O (oR na dL iN ce iF sB dO OkI OkIs)
section
def xS(n:Nat)(h:n<=1000):n<sizeLine:=kh h aw
def jP{v:V}{r:Rat}(h:RD K H v (cI r)):bj H v r:=by let(p,xs,rfl,h1,h2):=h.cD;have:=h2.jm (ns:=[r.num,r.den]);subst this;erw[p,Z,h1]
def fU.up{ax:Nat}{ns:Ar}(h:fU ax 100 ns):fU ⇑ns 1000 ns:=#[Z,λz hz=>by have:=h.bd z hz;lia,h.nz]
def cj.ow{ax:Nat}{ds:AC}{os:BT}(h:cj ax ds os):OkIs os:=λi ns sp e=>by unfold ce at e;cases ho:os[i]? with |none=>rw[ho]at e;cases e |some o=>rw[ho]at e;let e':o=some (ns,sp):=e;subst e';let(a,b,c):=h.ok i ns sp ho;erw[a.bd,b,c]
def AJ(h:aW K H a [.int 0,.int 1]):bj H (.ref a) 0:=#[a,Z,h]
theorem aff(j:Int)(ns ms:Ar):Ei j ns ms=match na j ns ms with|none=>.none|some c=>cI c:=by unfold Ei na;split<;>rfl
inductive a4q|mk m v1 v2 tz rs r f j t d1 d2 o1 o2 ax(_:vs=[m,v1,v2,.int tz])(_:RD K H m (fC rs r f j t))(_:1<=j)(_:j<=50)(_:RD K H v1 d1)(_:RD K H v2 d2)(_:itR d1 o1)(_:itR d2 o2)(_:(∀ns sp,o1=some (ns,sp)->fU ax 100 ns/\1<=sp/\sp<=20))(_:(∀ns sp,o2=some (ns,sp)->fU ax 100 ns/\1<=sp/\sp<=20))(sM:ax<=100)(zb:10<=tz)(za:tz<=200)(M6:∀v H',bj H' v (iN j tz o1 o2)->aI H H'->Q v H')
def Sy:bA ["machine","one","other","rate","squares","corner"] ["machine","one","other","rate"] (aY UI):=bJ aP
def Wq(AA:a0q):a0n "bound_between" 7 a4q:=by
 let(aN,kQ,j7):=AA.zd;exists AA.adO.has,Sy,wX λ_ _ _ _=>rfl
 ·let(m,v1,v2,tz,rs,r,f,j,t,d1,d2,o1,o2,ax,rfl,rm,j1,j2,r1,r2,i1,i2,k1,k2,DL,bN,bS,k):=h
  let nd:=Sy.nd;erw[_,%[bp (PW.pt (iQ (dN (cg (pf (si AA) hr %[1|az]))) (lC (dN (cg (pf (si AA) hr %[2|az])))))) (aG (aQ (dY (x:="NOUGHT") Z kQ))) bE,(pS 4 nd (cY %[pf (AE AA) hr %[1,3|az],pf (AE AA) hr %[2,3|az]|az])),pS 5 nd (pf (a8f AA) hr %[0,1,2|az]),jQ (bp (bL qg P3 gM (bc _)) (aG (fe (ji K Z M2 %[5|az]))) bE),aQ (pf (yd AA) hr %[4|az])|aG],?_,B,ww,v1,d1,o1,Z,r1,i1,wv];cases o1 with |none=>erw[bB (bB ?_)];have:=k _ H (AJ (j7 H)) (aI.refl _);erw[this] |some q1=>let(ns,sp):=q1;erw[aX ?_,B,ww,v2,d2,o2,Z,r2,i2,wv];cases o2 with |none=>erw[bB ?_,B,k _ H (AJ (j7 H)) (aI.refl _)] |some q2=>let(ms,sq):=q2;erw[aX ?_];let e1:=kB i1;let e2:=kB i2;subst e1 e2;let(fg,a1,a2):=k1 ns sp rfl;let(g9,b1,b2):=k2 ms sq rfl;erw[wp,v1,ns,sp,tz,Z,r1,a1,a2,bN,bS,λt1 H1 JI s1=>?_,B,wp,v2,ms,sq,tz,Z,RD.sK s1 _ r2,b1,b2,bN,bS,λt2 H2 JH s2=>?_,B,bM Z,λl H3 n3=>?_];let t3:=s1.ao (s2.ao n3.ss);let j8:fU ⇑ns 1000 ms:=#[by rw[fg.len,g9.len],g9.up.bd,g9.nz];erw[ZB,m,v1,v2,rs,r,f,j,t,ns,ms,sp,sq,Z,RD.sK t3 _ rm,RD.sK t3 _ r1,RD.sK t3 _ r2,fg.up,j8,by rw[fg.len];erw[cL DL aw],j1,j2,λc H4 rc s4=>?_];let T1:Bd 2000 (oR tz sp):=(_O.mZ a1 a2 bN bS).sK aw;let T2:Bd 2000 (oR tz sq):=(_O.mZ b1 b2 bN bS).sK aw;let R1:bj H4 t1 (oR tz sp):=((JI.go s2).go n3.ss).go s4;let R2:bj H4 t2 (oR tz sq):=(JH.go n3.ss).go s4;let t4:=t3.ao s4;rw[aff]at rc;cases hc:na j ns ms with
   |none=>
    rw[hc]at rc;cases rc.D8;erw[λO H5=>H5=H4/\O=[some m,some v1,some v2,some (.int tz),some (.ref l),some .bP],zn]
    ·erw[lW ?_];intro E1
     erw[ww,WP,aX ?_,B,wP]
    rintro O H5 ⟨rfl,rfl⟩;erw[ww,l,[t1,t2],[oR tz sp,oR tz sq],Z,aK.of (s4 _ _ n3.at'),#[R1,T1,R2,T2,trivial],by simp,λi v q e1 e2 hq=>?_];let oE:iN j tz (some (ns,sp)) (some (ms,sq))=q:=by
     show dL (mn _ _) (na j ns ms)=q;rw[hc];erw[uD ?_ (hq _ (by simp)) (hq _ (by simp))]
     match i,e2 with |0,e2=>cases e2;erw[.inl rfl] |1,e2=>cases e2;erw[.inr rfl]
    erw[k v _ ?_ t4];rw[oE]
    match i,e1,e2 with |0,e1,e2=>cases e1;cases e2;erw[R1] |1,e1,e2=>cases e1;cases e2;erw[R2]
   |some cq=>
    rw[hc]at rc;let Rc:bj H4 c cq:=jP rc;let Tc:Bd 2000 cq:=(_O.Nf j1 j2 fg.bd g9.bd hc).sK aw;let oO:=s4 _ _ n3.at';let tU:fw H4 (_L.bn H4 l (.bi ([t1,t2]++[c]))):=.iB oO;erw[λO H5=>H5=_L.bn H4 l (.bi ([t1,t2]++[c]))/\O=[some m,some v1,some v2,some (.int tz),some (.ref l),some c],zn]
    ·erw[lW ?_];intro E2
     let(pc,rfl,_):=id Rc;erw[ww,WP,bB ?_,B,ww,.inl #[Z,_,aK.of oO],ww,l,[t1,t2],ww,Z,oO,xS _ (Ln Z),?_,B,wP]
    rintro O H5 ⟨rfl,rfl⟩;let up:∀{v:V}{q:Rat},bj H4 v q->bj (_L.bn H4 l (.bi ([t1,t2]++[c]))) v q:=λ{v q} h=>jP (RD.t tU _ (p7 q) h.rd);erw[ww,l,[t1,t2,c],[oR tz sp,oR tz sq,cq],Z,aK.of bQ,#[up R1,T1,up R2,T2,up Rc,Tc,trivial],by simp,λi v q e1 e2 hq=>?_];let oE:iN j tz (some (ns,sp)) (some (ms,sq))=q:=by
     show dL (mn _ _) (na j ns ms)=q;rw[hc];show mn (mn _ _) cq=q;let h1:=hq _ (show oR tz sp∈[oR tz sp,oR tz sq,cq] by simp);let h2:=hq _ (show oR tz sq∈[oR tz sp,oR tz sq,cq] by simp);let h3:=hq _ (show cq∈[oR tz sp,oR tz sq,cq] by simp);erw[uD ?_ (iq h1 h2) h3]
     match i,e2 with |0,e2=>cases e2;erw[.inl (uD (.inl rfl) h1 h2).symm] |1,e2=>cases e2;erw[.inl (uD (.inr rfl) h1 h2).symm] |2,e2=>cases e2;erw[.inr rfl]
    let sU:aI H (_L.bn H4 l (.bi ([t1,t2]++[c]))):=λb o e=>by let h0:H2 l=none:=n3.no;let e2:=s2 b o (s1 b o e);rw[aU (e9 e2 h0)];erw[t4 b o e]
    erw[k v _ ?_ sU];rw[oE]
    match i,e1,e2 with |0,e1,e2=>cases e1;cases e2;erw[up R1] |1,e1,e2=>cases e1;cases e2;erw[up R2] |2,e1,e2=>cases e1;cases e2;erw[up Rc]
end
section
def p9(qs:Da):bR (qs.map cI)=true:=Wx p7 qs
def aH.Ag(dl:H l=some (.bi ys))(r:aH K H ys ds)(rd:RD K H y d)(n1:bR ds=true)(n2:eH d=true):aH K (_L.bn H l (.bi (ys.set i y))) (ys.set i y) (ds.set i d):=by let t:fw H (_L.bn H l (.bi (ys.set i y))):=.iB dl;let r':=aH.t t _ n1 r;let G7:=RD.t t _ n2 rd;clear r rd dl t;generalize _L.bn H l (.bi (ys.set i y))=H' at r' G7;induction ds generalizing ys i with |nil=>cases r'.nil_inv;erw[cQ] |cons d0 ds ih=>
 let(y0,yr,rfl,h1,h2):=r'.cons_inv;let n1':bR ds=true:=by rw[bR,gU]at n1;erw[n1.2]
 cases i with |zero=>erw[cm G7 h2] |succ i=>erw[cm h1 (ih n1' h2)]
def Nb(xs:AT):oP xs (some 1) none=xs.drop 1:=by unfold oP;let e:_H.cE ⇑xs 0 (some 1)=min 1 ⇑xs:=_H.Jn _ _ 1;rw[e,_H.Ug];cases xs with |nil=>rfl |cons x xs=>
 let e2:min 1 ⇑(x::xs)=1:=by simp
 rw[e2,zT (by simp)]
inductive a42|mk m iv tz rs r f j t ds os(_:vs=[m,iv,.int tz])(_:RD K H m (fC rs r f j t))(_:fQ rs r f j t)(_:RD K H iv (.tuple ds))(_:cj ⇑rs ds os)(_:⇑ds<=100)(_:10<=tz)(_:tz<=200)(_:∀l ys H',H l=none->H' l=some (.bi ys)->aH K H' ys ((dO j tz os).map cI)->aI H H'->Q (.ref l) H')
def FW:bA ["machine","items","rate","between"] ["machine","items","rate"] (aY TQ):=bJ aP
def Wf(AA:a0q):a0n "own_bounds" 8 a42:=by
 let(aN,kQ,j7):=AA.zd;exists AA.YK.has,FW,ka λ_ _ _=>rfl
 ·let(m,iv,tz,rs,r,f,j,t,ds,os,rfl,rm,aJ,ri,row,hz,bN,bS,k):=h
  let nd:=FW.nd;let rN:∀H',RD K H' (.ref aN) (cI 0):=λH'=>(AJ (j7 H')).rd;erw[_,%[bp (dN (K1 K Z u8)) (aG (aQ (cY %[dY (x:="NOUGHT") Z kQ|az]))) bE,(Ga (i0:=3) nd Z (Or.inl Z) (N:=["one","other","machine","rate"]) (js:=[none,none,some 0,some 2]) Z Z Z (lH K Z false false Z (AA.B.at "zip") %[1,Ay (Ae K rfl) u8 (Av aA) Aw|az]) (λ_ _ _ _ _=>(cX K rfl (n:=2) rfl %[ba 0 (show List.Nodup (["one","other","machine","rate"]:Ch) by decide+kernel),ba 1 (show List.Nodup (["one","other","machine","rate"]:Ch) by decide+kernel)|cW])) (λ_ _ _ _ _=>fZ) (λ_ _ _ _ _=>(pf (Wq AA) hr %[2,0,1,3|az]))),aQ (aM (El K Z) (aM (El K Z) (cY %[dY (x:="NOUGHT") Z kQ|az]) L2) (cY %[dY (x:="NOUGHT") Z kQ|az]))|aG],?_];let(ia,xs,rfl,hi,dP):=ri.cD;let lx:=⇑dP;let ll:=row.len;erw[ww,_,.inr (.inl #[_,hi,Z]),?_];cases hd:xs with
  |nil=>
   subst hd;erw[bB ?_,B,bM Z,λl H1 n1=>?_,B,k l [.ref aN] H1 n1.no n1.at' ?_ n1.ss];let e:os=[]:=by
    have:⇑os=0:=by rw[<-ll,<-lx];rfl
    erw[Iz.mp this]
   rw[e];erw[cm (rN H1) cQ] |cons x0 xr=>
   erw[aX ?_];let eZ:os≠[]:=by intro e;rw[e]at ll;rw[hd]at lx;simp at ll lx;rw[ll]at lx;cases lx
   let Dx:0<⇑xs:=by rw[hd];simp
   erw[wp,1,Z,ia,xs,Z,.inr #[hi,?_,λtl H1 n1=>?_]]
   ·rintro⟨h1,_⟩
    let e:_H.cE ⇑xs 0 (some 1)=min 1 ⇑xs:=_H.Jn _ _ 1;rw[e]at h1
    lia
   erw[ia,tl,Z,#[_,hi.go n1.ss],#[_,aW.of n1.at'],λD H2 n2=>?_];let et:=n1.at';rw[Nb]at et;let CQ:∀(i:Nat)(o:Itm),os[i]? =some o->∀(ns:Ar)(sp:Int),o=some (ns,sp)->fU ⇑rs 100 ns/\1<=sp/\sp<=20:=λi o e ns sp e'=>row.ok i ns sp (by rw[e,e']);let lr:=aJ.len;erw[wL (K:=K) (b1:=false) (b2:=false) (xs:=xs) (ys:=xs.drop 1) (ds:=((List.range (⇑os-1)).map (λi=>iF j tz os (i+1))).map cI) _ Z (hi.go n1.ss) (aW.of et) n2 (by rw[tO];simp;lia) (by simp;lia) (p9 _) ?_ ?_]
   ·intro i x y d H3 Q' ex ey ed s3 hq
    let fu:=n1.ss.ao s3;rw[xC]at ey;let(d1,e1,r1):=dP.get' i ex;let(d2,e2,r2):=dP.get' (1+i) ey;let(o1,sX,i1):=row.get e1;let(o2,pJ,i2):=row.get e2;let uN:1+i<⇑os:=(ck.mp pJ).1;let iU:d=cI (iN j tz o1 o2):=by rw[bV,bV,bf (by simp;lia),zW]at ed;have:=(fm ed).symm;rw[this];show cI (iN j tz (ce os i) (ce os (i+1)))=_;rw[_O.mI sX,_O.mI (show os[i+1]? =some o2 by rw[OA];erw[pJ])]
    subst iU;erw[ZB,ww,m,x,y,tz,rs,r,f,j,t,d1,d2,o1,o2,⇑rs,Z,RD.sK fu _ rm,aJ.j1.1,aJ.j1.2,RD.sK fu _ r1,RD.sK fu _ r2,i1,i2,CQ _ _ sX,CQ _ _ pJ,_S.kM lr aw aw,bN,bS,λv H4 rv s4=>?_,B,hq _ _ s4 rv.rd]
   ·intro H3 zs s3 d3 r3
    let lz:=⇑r3;simp at lz;erw[bM Z,λl1 H4 n4=>?_,B,ww,l1,D,_,zs,wP,aK.of n4.at',aK.of (n4.ss _ _ d3),Ct _ (by simp;lia),λl2 H5 n5=>?_,B,bM Z,λl3 H6 n6=>?_,B,l2,l3,wr,aK.of (n6.ss _ _ n5.at'),aK.of n6.at',Ct _ (by simp;lia),λl H7 n7=>?_];let nj:aI H H6:=n1.ss.ao (s3.ao (n4.ss.ao (n5.ss.ao n6.ss)));let nl:H l=none:=by cases e:H l with |none=>rfl |some o=>have:=nj _ _ e;rw[n7.no]at this;cases this
    erw[k l _ H7 nl n7.at' ?_ (nj.ao n7.ss)];rw[_O.VR j tz eZ,kn,kn];exact(%[rN H7|cQ].append (aH.sK (n4.ss.ao (n5.ss.ao (n6.ss.ao n7.ss))) _ r3)).append %[rN H7|cQ]
end
section
inductive a40|mk v r z(_:vs=[v,.int z])(_:bj H v r)(_:Bd 2000 r)(_:z.natAbs<2^24)(_:∀v H',bj H' v (r+(z:Rat))->aI H H'->Q v H')
theorem xr_addz{r:Rat}{z:Int}(m:r+(z:Rat)=Rat.divInt (r.num*(1:Nat)+z*r.den) (r.den*(1:Nat))):r.num+z*r.den=(r+(z:Rat)).num/\(r.den:Int)=(r+(z:Rat)).den:=by
 have c:(r.num+z*r.den).natAbs.Coprime r.den:=(Int.gcd_add_mul_right_left (r.den:Int) r.num z).trans r.reduced
 have e:r+(z:Rat)=⟨r.num+z*r.den,r.den,r.den_nz,c⟩:=by rw [m,Rat.mk_eq_divInt,Int.natCast_one,Int.mul_one,Int.mul_one]
 rw [e];exact⟨rfl,rfl⟩
def RC:bA ["one","more","p","q"] ["one","more"] (aY TN):=bJ aP
def ou(AA:a0q):a0n "plus_whole" 4 a40:=by
 exists AA.adg.has,RC,eQ λ_ _=>rfl
 ·let(v,r,z,rfl,(p,rfl,hp),br,hz,k):=h
  let nd:=RC.nd;refine ⟨_,%[fz o0 (cX K Z (n:=2) Z %[ba 2 nd,ba 3 nd|cW]),aQ (dA %[aM cM w4 (aM bO u8 L2),3|az])|aG],?_⟩
  refine ⟨_,rfl,_,_,rfl,hp,rfl,_,_,rfl,_,_,rfl,rfl,?_⟩
  have bz:Bd 24 (z:Rat):=⟨hz,by show 1<2^24;decide⟩
  obtain ⟨e1,e2⟩:=xr_addz (add_div r z)
  refine ⟨_,rfl,_,rfl,_,rfl,_,_,rfl,rfl,jO (bz.sK aw).wn.bits br.wd.bits,_,_,rfl,rfl,_,rfl,bM Z,fun t H' n=>k _ _ ⟨t,rfl,aW.of ?_⟩ n.ss⟩
  rw [← e1,← e2];exact n.at'
def AY{os:BT}{i:Nat}{ns:Ar}{sp:Int}(h:os[i]? =some (some (ns,sp))):sB os i=some (aF ns):=by unfold sB;rw[_O.mI h];rfl
def Lc{os:BT}{i:Nat}(h:os[i]? =some none):sB os i=none:=by unfold sB;rw[_O.mI h];rfl
def AZ{os:BT}(h:OkIs os){i m:Nat}(e:sB os i=some m):m<=100:=by unfold sB at e;cases ho:ce os i with |none=>rw[ho]at e;cases e |some q=>rw[ho]at e;cases e;let(a,_,_):=h i q.1 q.2 ho;erw[sE λz hz=>by have:=a z hz;lia]
def A7{r:Int}{m:Nat}(h1:1<=r)(h2:r<=50)(h3:m<=100):(2*r*(m:Int)).natAbs<2^24:=by
 let nL:(2:Nat)^24=16777216:=by decide
 have:=oz (a:=2*r) (b:=(m:Int)) (m:=100) (n:=100) aE (_S.nM h3 Z);rw[nL];lia
inductive a3O|mk m iv l ys rs r f j t ds os g(_:vs=[m,iv,.ref l])(_:RD K H m (fC rs r f j t))(_:fQ rs r f j t)(_:RD K H iv (.tuple ds))(_:cj ⇑rs ds os)(_:⇑ds<=30)(_:H l=some (.bi ys))(_:aH K H ys ((bi ⇑os g).map cI))(_:(∀i,Bd 64 (g i)))(_:∀l ys H',H l=none->H' l=some (.bi ys)->aH K H' ys ((bi ⇑os (Rz g (sB os) (2*r))).map cI)->aI H H'->Q (.ref l) H')
def QZ:bA ["machine","items","squares","rise","kept","i","item"] ["machine","items","squares"] (aY Tb):=bJ aP
def a7F(AA:a0q):a0n "kept_by_rise" 5 a3O:=by
 erw[AA.adt.has QZ (λvs H Q E h=>?_) (λ_ _ _ _ _ _=>ka λ_ _ _=>rfl) (λf aO A outer s H vs Q E hr h=>?_)]
 · let(m,iv,l,ys,rs,r,f,j,t,ds,os,g,rfl,_):=h
   rfl
 · let(m,iv,l,ys,rs,r,f,j,t,ds,os,g,rfl,rm,aJ,ri,row,hz,dl,kL,bg,k):=h
   let nd:=QZ.nd;erw[_,%[pS 3 nd (px K o0 aA),pS 4 nd (gY (x:="list") (yE K Z) Z (AA.B.at "list") jt %[2|az]),(gh fc Z (Ax K Z false Z (AA.B.at "enumerate") %[1|az]) (cX K rfl (n:=2) rfl %[ba 5 nd,ba 6 nd|cW]) (aG (bp (cg (pf (si AA) hr %[6|az])) (aG (fz (pf (yd AA) hr %[(cY %[px K M2 (aM cM P3 aA),(pf (ou AA) hr %[px K M2 P3,aM bO (aM bO aA L2) (pf (uu AA) hr %[6|az])|az])|az])|az]) (rW M2 (aM cM P3 aA) set_list))) bE))),aQ M2|aG],?_];let(ma,mb,rfl,gk,mE):=nC rm;let(ia,xs,rfl,hi,dP):=ri.cD;let lx:=⇑dP;let ll:=row.len;let lr:=aJ.len;let hL:∀i m,sB os i=some m->(2*r*(m:Int)).natAbs<2^24:=λi m e=>A7 aJ.r1.1 aJ.r1.2 (AZ row.ow e);let RB:∀i,i<=30->Bd 900 (Rz g (sB os) (2*r) i):=λi hi=>(HM bg hL i).sK bI;erw[ww,.inr #[ma,_,1,.int r,wP,gk,Z,?_],B,ww,l,ys,Z,.inl (aK.of dl),λD H1 n1=>?_,B,ww,ia,Z,#[_,hi.go n1.ss],Bl (K:=K) (b:=false) (a:=ia) (xs:=xs) (λi O H2=>aI H H2/\∃zs v1 v2,H2 D=some (.bi zs)/\aH K H2 zs ((bi ⇑os λk=>if k<=i then Rz g (sB os) (2*r) k else g k).map cI)/\O=[some (.ref ma),some (.ref ia),some (.ref l),some (.int r),some (.ref D),v1,v2]) ?_ (λi O H2 _ h=>hi.go h.1) ?_ ?_]
   · erw[n1.ss,ys,none,none,n1.at',?_,Z]
     rw[uE (g:=λk=>if k<=0 then Rz g (sB os) (2*r) k else g k) (g':=g)]
     ·erw[aH.sK n1.ss _ kL]
     · intro k _
       show g k=if k<=0 then Rz g (sB os) (2*r) k else g k;split
       · next h => have:k=0:=by omega
                   subst this;rfl
       ·rfl
   · rintro i y O H2 hy ⟨s2,zs,v1,v2,dz,rz,rfl⟩ T H3 n3
     erw[gH ?_];intro E1;let pE:i<⇑xs:=(ck.mp hy).1;let(d,ed,rd):=dP.get' i hy;let(o,eo,it):=row.get ed;let s3:=s2.ao n3.ss;let lz:=⇑rz;rw[bC,sy]at lz;erw[T,ww,aW.of n3.at',wE,B,ww,y,d,o,Z,RD.sK s3 _ rd,it,wv];cases o with
     |none=>
       erw[aX ?_,B,s3,zs,xz,n3.ss _ _ dz,?_,Z];rw[uE (g:=λk=>if k<=i+1 then Rz g (sB os) (2*r) k else g k) (g':=λk=>if k<=i then Rz g (sB os) (2*r) k else g k)]
       ·erw[aH.sK n3.ss _ rz]
       · intro k _
         show(if k<=i then Rz g (sB os) (2*r) k else g k)=if k<=i+1 then Rz g (sB os) (2*r) k else g k;by_cases h1:k<=i
         ·rw[aR h1,aR bI]
         · rw[aV h1]
           by_cases h2:k=i+1
           ·subst h2;rw[aR (aZ _),ED (Lc eo)]
           ·rw[aV bI] |some q=>
       let(ns,sp):=q;erw[bB ?_];let iU:=kB it;subst iU;let(bX,_,_):=row.ok i ns sp eo;let MY:=n3.ss _ _ dz;let Jy:=aH.sK n3.ss _ rz;obtain⟨z1,qJ⟩:∃z,zs[i+1]? =some z:=#[_,bf (show i+1<⇑zs by omega)];obtain⟨z0,kR⟩:∃z,zs[i]? =some z:=#[_,bf (show i<⇑zs by omega)];let R1:bj H3 z1 (g (i+1)):=by
        let(d1,e1,r1):=Jy.get' (i+1) qJ;rw[bV,pj _ (show i+1<=⇑os by omega)]at e1;cases e1;have:¬(i+1<=i):=by omega
        simp only[aV this]at r1;erw[jP r1]
       let R0:bj H3 z0 (Rz g (sB os) (2*r) i):=by let(d1,e1,r1):=Jy.get' i kR;rw[bV,pj _ (show i<=⇑os by omega)]at e1;cases e1;simp only[aR (aZ i)]at r1;erw[jP r1]
       let sZ:((i:Int)+1).toNat=i+1:=by omega
       let pL:fj zs ((i:Int)+1)=some z1:=cn bI (by rw[sZ];erw[qJ]);let iV:fj zs (i:Int)=some z0:=cn bI (by simpa using kR);erw[Wp,.inl #[D,_,wr,aK.of MY,pL,?_],B,wp,.inl #[D,_,wr,aK.of MY,iV,?_],B,Wk,.of_left (cB aw aw),?_,B,ww,y,ns,sp,Z,RD.sK s3 _ rd,bX.ne,by rw[bX.len];omega,λH4 s4=>?_];let fY:=aJ.r1;erw[wr,.of_left (cB bI bI),?_];let us:=hL i _ (AY eo);erw[z0,wT,R0.go s4,(RB i bI).sK aw,us,λu H5 ru s5=>?_,B,bM Z,λl2 H6 n6=>?_];let kx:=s4.ao (s5.ao n6.ss);let Rz1:=R1.go kx;let Ru:=ru.go n6.ss;let B1:Bd 2000 (g (i+1)):=(bg _).sK aw;let B2:Bd 2000 (Rz g (sB os) (2*r) i+((2*r*(aF ns:Int):Int):Rat)):=(jG (RB i bI) us).sK aw;erw[l2,[z1,u],[_,_],Z,aK.of n6.at',#[Rz1,B1,Ru,B2,trivial],by simp,λc v q e1 e2 hq=>?_];let oE:mn (g (i+1)) (Rz g (sB os) (2*r) i+((2*r*(aF ns:Int):Int):Rat))=q:=by
        erw[uD ?_ (hq _ (by simp)) (hq _ (by simp))]
        match c,e2 with |0,e2=>cases e2;erw[.inl rfl] |1,e2=>cases e2;erw[.inr rfl]
       let Rv:bj H6 v q:=by match c,e1,e2 with |0,e1,e2=>cases e1;cases e2;erw[Rz1] |1,e1,e2=>cases e1;cases e2;erw[Ru]
       let qM:=kx _ _ MY;let GI:iS ⇑zs ((i:Int)+1)=some (i+1):=by unfold iS;rw[aR bI,aR bI,sZ]
       erw[Wp,D,zs,wr,qM,GI,?_,B,λb o e=>?_,xz,_,bQ,?_,Z]
       ·rw[aU (e9 e n1.no)];erw[kx b o (s3 b o e)]
       · let h:=aH.Ag (i:=i+1) qM (aH.sK kx _ Jy) Rv.rd (p9 _) (p7 _)
         rw[<-zV]at h;let e:(bi ⇑os λk=>if k<=i then Rz g (sB os) (2*r) k else g k).set (i+1) q=bi ⇑os λk=>if k<=i+1 then Rz g (sB os) (2*r) k else g k:=by
          rw[<-KO (g:=λk=>if k<=i then Rz g (sB os) (2*r) k else g k) (g':=λk=>if k<=i+1 then Rz g (sB os) (2*r) k else g k) (i:=i+1)]
          · simp only[aR (aZ (i+1))]
            rw[BE (AY eo),oE]
          · intro k _ hk
            show(if k<=i+1 then _ else _)=if k<=i then _ else _;by_cases h1:k<=i
            ·rw[aR h1,aR bI]
            ·rw[aV h1,aV bI]
         rw[e]at h;erw[h]
   · rintro O H2 ⟨s2,zs,v1,v2,dz,rz,rfl⟩
     rw[uE (g:=λk=>if k<=⇑xs then Rz g (sB os) (2*r) k else g k) (g':=Rz g (sB os) (2*r)) (λk hk=>by show _=if k<=⇑xs then _ else _;rw[aR bI])]at rz;erw[ww,k D zs H2 n1.no dz rz s2]
end
section
def QS:bA ["_law_one","_law_other_here"] ["_law_one","_law_other_here"] (aY SX):=bJ aP
def W8(AA:a0q):a0n "_law_sum" 2 (FT (·+·) K):=by
 exists AA.adT.has,QS,eQ λ_ _=>rfl
 ·let(v1,v2,r,s,rfl,(p,rfl,hp),(q,rfl,hq),br,bs,k):=h
  let nd:=QS.nd;erw[_,(aG (aQ (pf (uv AA) hr %[aM cM (aM bO (px K o0 aA) (px K u8 aA)) (aM bO (px K u8 aA) (px K o0 aA)),aM bO (px K o0 aA) (px K u8 aA)|az]))),?_,B,ww,.inr #[p,_,0,.int r.num,wP,hp,WP,.inr #[q,_,1,.int s.den,wP,hq,Z,wr,jO br.wn.bits bs.wd.bits,?_]],B,ww,.inr #[q,_,0,.int s.num,wP,hq,WP,.inr #[p,_,1,.int r.den,wP,hp,Z,wr,jO bs.wn.bits br.wd.bits,?_]],B,wr,?_,B,ww,.inr #[p,_,1,.int r.den,wP,hp,WP,.inr #[q,_,1,.int s.den,wP,hq,Z,wr,jO br.wd.bits bs.wd.bits,?_]],B,wT,eY (den_pos r) (den_pos s),Fp br bs,λv H' r' s'=>k v H' ?_ s'];show bj H' v (r+s);rw[add_div];erw[r']
def RQ:bA ["_law_one","_law_other_here"] ["_law_one","_law_other_here"] (aY U8):=bJ aP
def CW(AA:a0q):a0n "_law_less" 1 Qo:=by
 exists AA.ae5.has,RQ,eQ λ_ _=>rfl
 ·let(v1,v2,r,s,rfl,(p,rfl,hp),(q,rfl,hq),br,bs,k):=h
  let nd:=RQ.nd;erw[_,(aG (aQ (fN jS (aM bO (px K o0 aA) (px K u8 aA)) (aM bO (px K u8 aA) (px K o0 aA)) (bc _)))),?_,B,ww,.inr #[p,_,0,.int r.num,wP,hp,WP,.inr #[q,_,1,.int s.den,wP,hq,Z,wr,jO br.wn.bits bs.wd.bits,?_]],B,ww,.inr #[q,_,0,.int s.num,wP,hq,WP,.inr #[p,_,1,.int r.den,wP,hp,Z,wr,jO bs.wn.bits br.wd.bits,?_]],B,wr,?_];let e:decide (r.num*(s.den:Int)<s.num*(r.den:Int))=decide (r<s):=by rw[tT,Ob,Ob,Ik]
  show Q (.bl (decide (r.num*(s.den:Int)<s.num*(r.den:Int)))) H;rw[e];erw[k]
def RK:bA ["_law_some","_law_best","_law_one"] ["_law_some"] (aY TZ):=bJ aP
def Gp(AA:a0q):a0n "_law_min" 2 Ad:=by
 exists AA.ae0.has,RK,fE λ_=>rfl
 ·let(l,xs,rs,rfl,hl,qx,eZ,k):=h
  let nd:=RK.nd;erw[_,%[pS 1 nd (px K o0 aA),gh fc Z (qe K Z o0) (ba 2 nd) (aG (bp (cg (pf (CW AA) hr %[2,1|az])) (aG (pS 1 nd w4)) bE)),aQ u8|aG],?_];let hlen:=⇑qx;let h0:0<⇑xs:=F1.mpr eZ;let e0:=bf h0;erw[ww,.inl #[l,xs,0,xs[0],wP,hl,cn aw e0,?_],B,ww,l,Z,#[_,hl],Bk (K:=K) (a:=l) (xs:=xs) (λi O H2=>H2=H/\∃(j:Nat)(b:V)(r:Rat)(v:Option V),xs[j]? =some b/\rs[j]? =some r/\(∀(m:Nat)(s:Rat),m<i->rs[m]? =some s->r<=s)/\O=[some (.ref l),some b,v]) ?_ (λi O H2 _ h=>by rw[h.1];erw[hl]) ?_ ?_]
  ·let(r,e1,_):=qx.get e0
   erw[Z,0,_,r,none,e0,e1,λm s hm=>absurd hm (EX _),Z]
  ·rintro i x O H2 hx ⟨rfl,j,b,r,v,eb,er,hm,rfl⟩
   erw[gH ?_];intro E1;let(t,et,rt,bt):=qx.get hx;let(r2,DX,rb,bb):=qx.get eb;rw[er]at DX;cases DX;erw[wp,x,b,t,r,Z,rt,rb,bt,bb,wv,B,eV (λhc=>?_) (λhc=>?_)]
   ·let bu:t<r:=kg hc
    erw[wv,B,Z,i,x,t,_,hx,et,λm s yM es=>?_,Z];rcases Oy.mp yM with h|h
    ·erw[cu (ET bu) (hm m s h es)]
    ·subst h
     rw[et]at es;cases es;erw[fG]
   ·let LJ:¬t<r:=λz=>hc (cy z)
    erw[Z,j,b,r,_,eb,er,λm s yM es=>?_,Z];rcases Oy.mp yM with h|h
    ·erw[hm m s h es]
    ·subst h
     rw[et]at es;cases es;erw[pM.mp LJ]
  ·rintro O H2 ⟨rfl,j,b,r,v,eb,er,hm,rfl⟩
   erw[ww,k j b r eb er λs hs=>?_];let(m,pD,em):=a1B.mp hs;erw[hm m s (_S.fD pD hlen) (by rw[bf pD,em])]
def Gn(AA:a0q):a0n "_law_top" 2 a3A:=by
 exists AA.adQ.has,QH,eQ λ_ _=>rfl
 ·let(v,ns,sp,r,rfl,rd,s1,s2,r1,r2,k):=h
  let nd:=QH.nd;erw[_,(aG (aQ (pf (uv AA) hr %[aM bO (aM bO (aM bO (px K o0 aA) (px K o0 aA)) u8) u8,aA|az]))),?_];let(a,b,rfl,ha,hb):=pk rd;let m1:(sp*sp).natAbs<=20*20:=by rw[ij];erw[pO (_S.hZ s1 s2 aw) (_S.hZ s1 s2 aw)]
  let m2:(sp*sp*r).natAbs<=400*200:=by rw[ij];erw[pO bI (_S.hZ r1 r2 aw)]
  erw[ww,.inr #[a,_,2,.int sp,wP,ha,WP,.inr #[a,_,2,.int sp,wP,ha,Z,wr,.of_left (cB (mT aw s1) (eG s2 aw)),?_]],B,Wk,.of_left (cB (_S.vX m1 aw) (_S.qj m1 aw)),Wk,.of_left (cB (_S.vX m2 aw) (_S.qj m2 aw)),?_,B,wT,aw,kr (n:=20) aw aw,λv' H' r' s'=>k v' H' ?_ s'];rw[Qd]at r';erw[r']
def kN(r f:Int)(ld:Nat)(top b e:Rat)(k:Nat):Rat:=mn (mn (b+((r*(2*(1+(k:Int))-1):Int):Rat)) top) (e+((f*(2*((ld:Int)-(1+(k:Int)))+1):Int):Rat))
def KD(r f:Int)(ld:Nat)(top b e:Rat):Da:=(List.range ld).map (kN r f ld top b e)
def WZ(h:q=x\/q=y\/q=z)(h1:q<=x)(h2:q<=y)(h3:q<=z):mn (mn x y) z=q:=by
 erw[zP ?_ (iq (iq h1 h2) h3)];rcases h with h|h|h
 ·rw[h];erw[cu (eO _ _) (eO _ _)]
 ·rw[h];erw[cu (eO _ _) (gj _ _)]
 ·rw[h];erw[gj _ _]
def G4{r:Int}{k ld:Nat}(h1:1<=r)(h2:r<=50)(hk:k<ld)(hl:ld<=100):(r*(2*(1+(k:Int))-1)).natAbs<=50*200:=by rw[ij];erw[pO (_S.hZ h1 h2 aw) aE]
def Hi{f:Int}{k ld:Nat}(h1:1<=f)(h2:f<=50)(hk:k<ld)(hl:ld<=100):(f*(2*((ld:Int)-(1+(k:Int)))+1)).natAbs<=50*201:=by rw[ij];erw[pO (_S.hZ h1 h2 aw) bI]
def jz:(2:Nat)^24=16777216:=by decide
inductive a48|mk m iv bv ev tz rs r f j t ns sp b e(_:vs=[m,iv,bv,ev,.int tz])(_:RD K H m (fC rs r f j t))(_:fQ rs r f j t)(_:RD K H iv (jk ns sp))(_:fU ⇑rs 100 ns)(_:1<=sp)(_:sp<=20)(_:bj H bv b)(_:bj H ev e)(_:Bd 1800 b)(sM:Bd 1800 e)(zb:10<=tz)(za:tz<=200)(M6:∀l ys H',H l=none->H' l=some (.bi ys)->aH K H' ys ((KD r f (aF ns) (oR tz sp) b e).map cI)->aI H H'->Q (.ref l) H')
def nG(h:fU n 100 ns):aF ns<=100:=by have:=h.lead;lia
def a61{α:Type}(g:Nat->α)(i:Nat):(List.range (i+1)).map g=(List.range i).map g++[g i]:=by rw[OC,kn];rfl
def RL:bA ["machine","line","begin","end","rate","rise","fall","top","lead","told","k","risen","falling"] ["machine","line","begin","end","rate"] (aY U0):=bJ aP
def a7T(AA:a0q):a0n "middles" 5 a48:=by
 exists AA.adn.has,RL,HJ λ_ _ _ _ _=>rfl
 ·let(m,iv,bv,ev,tz,rs,r,f,j,t,ns,sp,b,e,rfl,rm,aJ,ri,bX,cT,dM,Rb,Re,bb,be,bN,bS,k):=h
  let nd:=RL.nd;erw[_,%[rV (i:=5) (j:=6) Z nd Z Z aw Z Z %[px K o0 aA,px K o0 aA|az] Z,pS 7 nd (pf (AE AA) hr %[1,4|az]),pS 8 nd (pf (uu AA) hr %[1|az]),pS 9 nd (cY az),(gh fc Z (Kb Z (AA.B.at "range") %[aA,aM cM (pv 8) aA|az]) (ba 10 nd) %[pS 11 nd (pf (ou AA) hr %[2,aM bO P3 (aM ip (aM bO aA a0m) aA)|az]),pS 12 nd (pf (ou AA) hr %[3,aM bO W1 (aM cM (aM bO aA (aM ip (pv 8) a0m)) aA)|az]),(fe (ji K Z a0l %[(pf (yd AA) hr %[cY %[11,7,12|az]|az])|az]))|aG]),aQ a0l|aG],?_];let(ma,mb,rfl,gk,mE):=nC rm;let fY:=aJ.r1;let da:=aJ.f1;let lr:=aJ.len;let lO:=nG bX;erw[ww,.inr #[ma,_,1,.int r,wP,gk,WP,.inr #[ma,_,2,.int f,wP,gk,Z,_,wv]],B,wp,iv,ns,sp,tz,Z,ri,cT,dM,bN,bS,λtv H1 Rt1 s1=>?_,B,ww,iv,ns,sp,Z,RD.sK s1 _ ri,bX.ne,by rw[bX.len];omega,λH2 s2=>?_,B,bM Z,λD H3 n3=>?_];let fu:=s1.ao (s2.ao n3.ss);let nD:H D=none:=by cases e:H D with |none=>rfl |some o=>have:=(s1.ao s2) _ _ e;rw[n3.no]at this;cases this
  erw[Wk,wT,#[bI,bI,bI,bI],?_];let eN:(((aF ns:Int)+1)-1).toNat=aF ns:=by omega
  rw[eN];let tb:Bd 2000 (oR tz sp):=(_O.mZ cT dM bN bS).sK aw;erw[sQ (Pv:=λi O H4=>aI H H4/\bj H4 tv (oR tz sp)/\∃zs v1 v2 v3,H4 D=some (.bi zs)/\aH K H4 zs (((List.range i).map (kN r f (aF ns) (oR tz sp) b e)).map cI)/\O=[some (.ref ma),some iv,some bv,some ev,some (.int tz),some (.int r),some (.int f),some tv,some (.int (aF ns)),some (.ref D),v1,v2,v3]) ?_ ?_ ?_]
  ·erw[fu,Rt1.go (s2.ao n3.ss),[],none,none,none,n3.at',cQ,Z]
  ·rintro i O H4 GX ⟨s4,HN,zs,v1,v2,v3,dz,rz,rfl⟩
   erw[gH ?_];intro E2;let lz:=⇑rz;rw[bC,bC,fV]at lz;let yW:=G4 fY.1 fY.2 GX lO;let yV:=Hi da.1 da.2 GX lO;erw[ZB,wr,.of_left (cB aw aw),wr,wr,.of_left (cB bI bI),?_,B,bv,b,ww,Rb.go s4,bb.sK aw,(by rw[jz];omega),λu1 H5 kK s5=>?_,B,wp,Wp,wr,.of_left (cB aw aw),wr,wr,.of_left (cB bI bI),?_,B,ev,e,ww,Re.go (s4.ao s5),be.sK aw,(by rw[jz];omega),λu2 H6 pW s6=>?_];let Al:=s5.ao s6;let qM:=Al _ _ dz;erw[ww,.inl #[Z,_,aK.of qM],?_,B,ZB,bM Z,λlq H7 n7=>?_];let R1:=kK.go (s6.ao n7.ss);let R2:=(HN.go Al).go n7.ss;let R3:=pW.go n7.ss;erw[lq,[u1,tv,u2],[_,_,_],Z,aK.of n7.at',#[R1,(jG bb (by rw[jz];omega)).sK aw,R2,tb,R3,(jG be (by rw[jz];omega)).sK aw,trivial],by simp,λc v q e1 e2 hq=>?_];let oE:kN r f (aF ns) (oR tz sp) b e i=q:=by
    erw[WZ ?_ (hq _ (by simp)) (hq _ (by simp)) (hq _ (by simp))]
    match c,e2 with |0,e2=>cases e2;erw[.inl rfl] |1,e2=>cases e2;erw[.inr (.inl rfl)] |2,e2=>cases e2;erw[.inr (.inr rfl)]
   let Rv:bj H7 v q:=by match c,e1,e2 with |0,e1,e2=>cases e1;cases e2;erw[R1] |1,e1,e2=>cases e1;cases e2;erw[R2] |2,e1,e2=>cases e1;cases e2;erw[R3]
   let UO:=Al.ao n7.ss;let MX:=n7.ss _ _ qM;erw[D,zs,ww,Z,MX,xS _ bI,?_];let h8:=aH.xR MX (aH.sK UO _ rz) Rv.rd (p9 _) (p7 _);let Rt8:bj (_L.bn H7 D (.bi (zs++[v]))) tv (oR tz sp):=by let(ta,rfl,ht):=R2;erw[ta,Z,ht.t (.iB MX)]
   erw[λb o e=>?_,Rt8,xz,xz,bQ,?_,Z]
   ·rw[aU (e9 e nD)];erw[UO b o (s4 b o e)]
   ·rw[a61,kn,oE]
    erw[h8]
  ·rintro O H4 ⟨s4,HN,zs,v1,v2,v3,dz,rz,rfl⟩
   erw[ww,k D zs H4 nD dz rz s4]
end
end _c
namespace _c
universe _L _d _l _W
section
def jA(pl:Ar):aj:=.tuple (pl.map PyData.int)
def mq(pl:Ar):eH (jA pl)=true:=by rw[jA,eH];erw[nA pl]
def K9{v:V}(h:RD K H v (jA pl)):∃a,v= .ref a/\aW K H a (pl.map V.int):=by let(a,xs,rfl,h1,h2):=h.cD;rw[h2.jm]at h1;erw[a,Z,h1]
def K8(h:aW K H a (pl.map V.int)):RD K H (.ref a) (jA pl):=gD h (vP pl)
def jE(pl:Ar):Itm->List Int |none=>pl |some (ns,_)=>nR pl ns
def bF.putL(b:bF p H H1)(hp:l≠p)(nl:H l=none):bF p H (_L.bn H1 l (.bi xs)):=by
 erw[?_,λc o n e=>?_]
 ·let(c',m',e,ok):=b.bw
  erw[c',m',by rw[aU hp.symm];erw[e],ok]
 ·rw[aU (e9 e nl)];erw[b.ss c o n e]
inductive a3Z|mk p m rs r f j t(_:vs=[.ref p,m])(_:gI H p)(_:RD K H m (fC rs r f j t))(_:fQ rs r f j t)(_:∀v pl H',RD K H' v (jA pl)->mL rs pl->bF p H H'->Q v H')
def RA:bA ["_law_bag_here","_law_machine_here"] ["_law_bag_here","_law_machine_here"] (aY TM):=bJ aP
def a7N(AA:a0q):a0n "_law_place" 2 a3Z:=by
 exists AA.adX.has,RA,eQ λ_ _=>rfl
 ·let(p,m,rs,r,f,j,t,rfl,bg,rm,sf,k):=h
  let nd:=RA.nd;erw[_,(aG (aQ (gY (x:="tuple") (pP K Z) Z (AA.B.at "tuple") gu %[gX (N:=["_law_rail","_law_bag_here"]) (js:=[none,some 0]) rfl rfl rfl (qc K rfl (px K u8 aA)) (λ_ _ _ _ _=>(ba 0 (hW aw))) (λ_ _ _ _ _=>fZ) (λ_ _ _ _ _=>(pf (eK AA) hr %[1,aM cM o0 aA|az]))|az]))),?_];let(ma,mb,rfl,gk,mE):=nC rm;let lr:=sf.len;erw[ww,.inr #[ma,_,0,.ref mb,wP,gk,cn (dU 0) Z,mb,Z,#[_,mE],λD H1 n1=>?_],B,ZN (K:=K) (J:=xf K mb) (p:=p) (H:=H) ⇑rs _ n1 bg (_S.kM lr aw aw) (λi=>.int (rs.getD i 0)) (λi H2 hi b2=>?_) (λH2 b2=>?_) (λi d=>∃z r,d= .int z/\rs[i]? =some r/\0<=z/\z<=r) ?_ ?_]
  ·let Y3:=mE.t (bF.t bg b2)
   let e:(rs.map V.int)[i]? =some (.int (rs.getD i 0)):=by rw[bV,vx,bf hi];rfl
   erw[#[xz,Y3,e],λy H3 #[e3,y3]=>#[e3,by have:=y3 _ Y3;rw[e]at this;exact(fm this).symm]]
  ·erw[_,mE.t (bF.t bg b2),by rw[bC];erw[aZ _]]
  ·intro i H2 Q' hi b2 hq
   let er:rs[i]? =some (rs.getD i 0):=by rw[vx,bf hi];rfl
   let(r0,r1):=sf.rl _ (gA er);erw[Wp,p,ww,b2.bw,gT (C4 r0),eG r1 aw,λz H3 z0 z1 b3=>?_,B,hq _ _ _ #[z,ww,er,z0,Fk z1] Z (eB z) b3]
  ·intro H2 ys ds b2 d2 r2 l2 nl pd
   let wx:∃pl:Ar,ds=pl.map PyData.int/\mL rs pl:=by
    let key:∀(ds:AC),(∀d∈ds,∃z:Int,d= .int z)->∃pl:Ar,ds=pl.map PyData.int:=by intro ds;induction ds with |nil=>erw[λ_=>#[[],Z]] |cons d ds ih=>intro h;let(z,rfl):=h d (.head _);let(pl,rfl):=ih λx hx=>h x (.tail _ hx);erw[z::pl,Z]
    let(pl,rfl):=key ds λd hd=>by let(i,hi):=xA.mp hd;let(z,_,e,_):=pd i d hi;erw[z,e]
    erw[pl,Z,by simpa using l2,λi x r e1 e2=>?_];let(z,r',e,er,h0,h1):=pd i (.int x) (by rw[bV,e1];rfl);cases e;rw[e2]at er;cases er;erw[h0,h1]
   let(pl,rfl,on):=wx;erw[D,ww,.inl #[aK.of d2,λt H3 n3=>?_]];let et:=n3.at';rw[r2.jm]at et;erw[k (.ref t) pl H3 (K8 (aW.of et)) on (b2.ao (.fK b2.bw n3.ss))]
inductive a4b|mk p m rs r f j t x pl mo(_:vs=[.ref p,m,x,.int mo])(_:gI H p)(_:RD K H m (fC rs r f j t))(_:fQ rs r f j t)(_:RD K H x (jA pl))(_:mL rs pl)(_:1<=mo)(_:mo<=100)(_:∀v ns sp H',RD K H' v (jk ns sp)->fU ⇑rs 100 ns->1<=sp->sp<=20->mL rs (nR pl ns)->bF p H H'->Q v H')
def iz(rs pl is:Ar)(mo:Int):Prop:=∀(j:Nat)(z a r:Int),is[j]? =some z->pl[j]? =some a->rs[j]? =some r->0<=a+z/\a+z<=r/\(z.natAbs:Int)<=mo
def iz.on{is:Ar}(h:iz rs pl is mo)(lp:⇑pl=rs.length)(ls:⇑is=pl.length):mL rs (nR pl is):=by
 erw[by rw[zB ls];erw[lp],?_];intro j x r ej sW;let hj:j<⇑pl:=by have:=(ck.mp ej).1;rw[zB ls]at this;erw[this]
 let Za:=NN (bf hj) (bf (show j<⇑is from _S.fD hj ls));rw[ej]at Za;let ej3:=fm Za;have:=h j _ _ r (bf (show j<⇑is from _S.fD hj ls)) (bf hj) sW
 lia
def iz.bd{is:Ar}(h:iz rs pl is mo)(lp:⇑pl=rs.length)(ls:⇑is=pl.length):∀z∈is,(z.natAbs:Int)<=mo:=λz pA=>by let(j,hj):=xA.mp pA;let yO:=(ck.mp hj).1;exact(h j z _ _ hj (bf (show j<⇑pl from jf yO ls)) (bf (show j<⇑rs from jf yO (oY ls lp)))).2.2
def iz.snoc{rs pl is:Ar}{mo z a r:Int}(h:iz rs pl is mo)(ea:pl[⇑is]? =some a)(er:rs[⇑is]? =some r)(hz:0<=a+z/\a+z<=r/\(z.natAbs:Int)<=mo):iz rs pl (is++[z]) mo:=by
 intro j z' a' r' ej oN sW;by_cases hj:j<⇑is
 ·rw[nZ hj]at ej
  erw[h j z' a' r' ej oN sW]
 ·let yP:j=⇑is:=by
   have:=(ck.mp ej).1;rw[cH]at this;have:j<⇑is+1:=this
   lia
  rw[yP,oX (aZ _),BO]at ej;cases ej;rw[yP]at oN sW;rw[ea]at oN;rw[er]at sW;cases oN;cases sW;erw[hz]
theorem iz.set{is:Ar}{r:Int}(h:iz rs pl is mo)(ea:pl[i]? =some a)(er:rs[i]? =some r)(hz:0<=a+z/\a+z<=r/\(z.natAbs:Int)<=mo):iz rs pl (is.set i z) mo:=by
 intro j z' a' r' ej oN sW;by_cases hj:j=i
 ·subst hj
  rw[ea]at oN;rw[er]at sW;cases oN;cases sW;let hl:j<⇑is:=by have:=(ck.mp ej).1;rwa [xB]at this
  rw[BX hl]at ej;cases ej;erw[hz]
 ·rw[IA (m7 hj)]at ej
  erw[h j z' a' r' ej oN sW]
def RO:bA ["_law_bag_here","_law_machine_here","_law_place_here","_law_most","_law_steps","_law_flat","_law_axis","_law_stand_here","_law_low","_law_high"] ["_law_bag_here","_law_machine_here","_law_place_here","_law_most"] (aY U6):=bJ aP
def a7W(AA:a0q):a0n "_law_line" 2 a4b:=by
 exists AA.ae4.has,RO,wX λ_ _ _ _=>rfl
 ·let(p,m,rs,r,f,j,t,x,pl,mo,rfl,bg,rm,sf,rx,on,WX,WW,k):=h
  let nd:=RO.nd;erw[_,%[pS 4 nd (cY az),pS 5 nd (pf (eK AA) hr %[0,aA|az]),(gh fc Z (Ax K Z false Z (AA.B.at "enumerate") %[2|az]) (cX K rfl (n:=2) rfl %[ba 6 nd,ba 7 nd|cW]) %[pS 8 nd (eR (x:="max") (Nl Z) Z (AA.B.at "max") EW %[aA,aM ip a0g L2|az]),pS 9 nd (eR (x:="min") (Nk Z) Z (AA.B.at "min") a1t %[px K (px K u8 aA) W1,aM cM a0g L2|az]),(fe (ji K Z M2 %[aM ip (aM cM (pv 8) (pf (eK AA) hr %[0,aM cM (aM ip a0l (pv 8)) aA|az])) a0g|az])),bp (bL (cJ K Z hr.units) P3 W1 (bc _)) (aG (fz aA (rW M2 W1 set_list))) bE|aG]),(jQ (bp (dN (cg (eR (x:="any") (agg K Z Z) Z (AA.B.at "any") a1v %[4|az]))) %[(pS 6 nd (pf (eK AA) hr %[0,dC K AA.B %[4|az]|az])),fz (aM ip aA (aM bO aA (gY (x:="int") Bv Z (AA.B.at "int") xo %[fN qh (px K w4 W1) aA (bc _)|az]))) (rW M2 W1 set_list)|aG] bE)),(aQ (dA %[fA,gY (x:="tuple") (pP K Z) Z (AA.B.at "tuple") gu %[4|az],aM cM aA (pf (eK AA) hr %[0,aA|az])|az]))|aG],?_];let lr:=sf.len;let lp:=on.len;let(ma,mb,rfl,gk,mE):=nC rm;let(xa,rfl,Lv):=K9 rx;erw[bM Z,λl H1 n1=>?_];let b1:bF p H H1:=.fK bg n1.ss;let AW:l≠p:=λz=>bg.ne (z▸n1.no);erw[ww,p,4,Z,b1.bw,aw,aw,λfl H2 f0 f1 b2=>?_];let b12:=b1.ao b2;let t12:=bF.t bg b12;erw[ww,xa,Z,#[_,Lv.t t12],Bl (K:=K) (b:=false) (a:=xa) (xs:=pl.map V.int) (λi O H3=>bF p H H3/\∃(is:Ar)(v1 v2 v3 v4:Option V),H3 l=some (.bi (is.map V.int))/\⇑is=i/\iz rs pl is mo/\O=[some (.ref p),some (.ref ma),some (.ref xa),some (.int mo),some (.ref l),some (.int fl),v1,v2,v3,v4]) ?_ (λi O H3 _ h=>Lv.t (bF.t bg h.1)) ?_ ?_]
  ·erw[b12,[],none,none,none,none,b2.ss _ _ AW n1.at',Z,λj z a r e=>by simp at e,Z]
  ·rintro i y O H3 hy ⟨b3,is,v1,v2,v3,v4,dl,li,hz,rfl⟩ T H4 n4
   erw[gH ?_];intro E1;rw[bV]at hy;let(a,ea,rfl):=zR.mp hy;let LN:i<⇑pl:=(ck.mp ea).1;obtain⟨rl,er⟩:∃rl,rs[i]? =some rl:=#[_,bf (show i<⇑rs from jf LN lp)];let(a0,a1):=on.at' i a rl ea er;let(r0,r1):=sf.rl rl (gA er);let b4:bF p H H4:=b3.ao (.fK b3.bw n4.ss);let t4:=bF.t bg b4;let oO:=n4.ss _ _ dl;let atr:fj (rs.map V.int) (i:Int)=some (.int rl):=cn (cf _) (by rw[bV];simp[er]);erw[T,ww,aW.of n4.at',wE,B,Wp,_,wv];obtain⟨low,aeL,lo0,lo1,lo2⟩:∃low:Int,(if a-mo>0 then a-mo else 0)=low/\0<=low/\a-mo<=low/\low<=a:=#[ww,by split<;>lia,by split<;>lia,by split<;>lia];rw[aeL];erw[ww,.inr #[ma,_,0,.ref mb,wP,gk.t t4,WP,.inr #[mb,xz,.int rl,wP,mE.t t4,atr,Wp,_,wv]]];obtain⟨hi,zo,hi0,GY,uN⟩:∃hi:Int,(if a+mo<rl then a+mo else rl)=hi/\a<=hi/\hi<=rl/\hi<=a+mo:=#[ww,by split<;>lia,by split<;>lia,by split<;>lia];rw[zo];erw[ww,.inl #[Z,_,aK.of oO],?_,B,wp,Wp,wr,p,hi-low+1,Z,b4.bw,aE,aE,λd H5 d0 d1 b5=>?_,B,wr,Wk,l,wr,b5.ss _ _ AW oO,zn]
   ·rw[bC,li]
    have:(1000:Nat)<sizeLine:=by decide
    lia
   let b6:bF p H (_L.bn H5 l (.bi (is.map V.int++[.int (low+d-a)]))):=(b4.ao b5).putL AW n1.no;let e6:(_L.bn H5 l (.bi (is.map V.int++[.int (low+d-a)]))) l=some (.bi ((is++[low+d-a]).map V.int)):=by rw[bQ,kn];rfl
   generalize _L.bn H5 l (.bi (is.map V.int++[.int (low+d-a)]))=H6 at b6 e6⊢;rw[<-li]at ea er;let Q6:=hz.snoc ea er (z:=low+d-a) aE;erw[wp,.inl #[_,_,Z,Z,_,Z,?_],B,eV (λhc=>?_) (λhc=>?_)]
   ·let ix:iS ⇑((is++[low+d-a]).map V.int) (i:Int)=some i:=by unfold iS;rw[aR (cf _),aR (by rw[bC,cH];show(i:Int)<((⇑is+1:Nat):Int);erw[_S.hJ (jv (_S.zj li))])];simp
    erw[wp,l,_,wr,e6,ix,?_,B,b6.putL AW n1.no,(is++[low+d-a]).set i 0,xz,xz,by rw[bQ,zV],by rw[xB,cH,li];rfl,?_,Z];rw[li]at ea er;erw[Q6.set ea er aE]
   ·erw[b6,is++[low+d-a],xz,xz,e6,by rw[cH,li];rfl,Q6,Z]
  ·rintro O H3 ⟨b3,is,v1,v2,v3,v4,dl,li,hz,rfl⟩
   rw[bC]at li;let t3:=bF.t bg b3;erw[λO H4=>bF p H H4/\∃(is:Ar)(v1:Option V),H4 l=some (.bi (is.map V.int))/\fU ⇑rs 100 is/\mL rs (nR pl is)/\O=[some (.ref p),some (.ref ma),some (.ref xa),some (.int mo),some (.ref l),some (.int fl),v1,v2,v3,v4],zn]
   ·erw[lW ?_];intro E2
    erw[ww,l,is,Z,.inl (aK.of dl),wv];cases ha:is.any (· !=0)with |false=>
     erw[bB ?_,B,wp,l,ww,.inl (aK.of dl),p,ww,b3.bw,(by rw[bC];lia),(by rw[bC];lia),λax H4 a0 a1 b4=>?_];rw[bC]at a1;let b34:=b3.ao b4;let DL:ax.toNat<⇑pl:=by lia
     let ea:=bf DL;let er:=bf (show ax.toNat<⇑rs from jf DL lp);let(q0,q1):=on.at' _ _ _ ea er;let(r0,r1):=sf.rl _ (gA er);let ata:fj (pl.map V.int) ax=some (.int pl[ax.toNat]):=cn a0 (by rw[bV,ea];rfl);generalize pl[ax.toNat]=qa at ea q0 q1 ata;generalize rs[ax.toNat]=qr at er q1 r0 r1;erw[wp,.inr #[xa,_,wr,Lv.t (bF.t bg b34),ata,?_],B,wr,.inr #[_,Z,?_],B,wr,.of_left (cB aw aw),wr,?_];obtain⟨y,ey,y1,y2,y3⟩:∃y:Int,(1-2*(if decide (qa>0)=true then 1 else 0):Int)=y/\y.natAbs=1/\0<=qa+y/\qa+y<=qr:=by
      by_cases h:qa>0
      ·rw[cy h];erw[-1,wP,_S.Eu (_S.lL h) aw,_S.zC aw (Int.add_le_add_right q1 _)]
      ·rw[dh h];erw[1,wP,gT (C4 q0),aE]
     let oO:=b4.ss _ _ AW dl;let ix:iS ⇑(is.map V.int) ax=some ax.toNat:=by unfold iS;rw[aR a0,aR (by rw[bC];lia)]
     erw[wp,l,_,wr,oO,ix,?_];let st:=hz.set (i:=ax.toNat) ea er (z:=y) aE;let ls:⇑(is.set ax.toNat y)=pl.length:=by rw[xB];lia
     erw[b34.putL AW n1.no,is.set ax.toNat y,_,?_,#[oY ls lp,λz pA=>?_,?_],st.on lp ls,Z]
     ·rw[bQ,<-zV]
      simp only[ey]
     ·have:=st.bd lp ls z pA;lia
     ·erw[y,a1B.mpr #[ax.toNat,by rw[xB];erw[_S.fD DL li],by rw[List.getElem_set_self]],aE] |true=>
     erw[aX ?_];let ls:⇑is=pl.length:=by lia
     erw[b3,is,_,dl,#[oY ls lp,λz pA=>?_,?_],hz.on lp ls,Z]
     ·have:=hz.bd lp ls z pA;lia
     ·let(z,pA,h0):=tP.mp ha
      erw[z,pA,by simpa using h0]
   rintro O H4 ⟨b4,is,v1,dl,ok,Gm,rfl⟩;erw[ww,l,ww,.inl #[aK.of dl,λq H5 n5=>?_]];let b5:bF p H H5:=b4.ao (.fK b4.bw n5.ss);let qp:q≠p:=λe=>b4.bw.ne (e▸n5.no);erw[ww,p,20,Z,b5.bw,aw,aw,λsp H6 p0 p1 b6=>?_,B,wr,bM Z,λt H7 n7=>?_];let b7:=b5.ao (b6.ao (.fK b6.bw n7.ss));erw[k (.ref t) is (1+sp) H7 (gD (aW.of n7.at') %[cF _,gD (aW.of (n7.ss _ _ (b6.ss _ _ qp n5.at'))) (vP is),eB _|cQ]) ok (_S.lK p0) (_S.lL p1) Gm b7]
end
section
def iO(z:Str):Prop:=∀c∈z.cps.toList,c<0x110000
def iO.app{b:Str}(ha:iO a)(hb:iO b):iO (a++b):=λc hc=>by rw[a1q,a1L,kj]at hc;erw[hc.elim (ha c) (hb c)]
theorem iO.joined{sep:Str}(hs:iO sep):∀l:Ch,(∀a∈l,iO a)->iO (PySem.Str.join sep l) |[],_=>λc hc=>by simp[PySem.Str.join,PySem.Str.empty]at hc |[x],h=>h x (.head _) |x::y::r,h=>((h x (.head _)).app hs).app (iO.joined hs (y::r) λa ha=>h a (.tail _ ha))
theorem iO.join(hs:iO sep)(h:∀a∈l,iO a):iO (Txt.join sep l):=by show iO (Builtin.Str.glued sep l);rw[KB];erw[iO.joined hs l h]
def a7o(h:iO z):eX n (.str z):=#[by show PyData.strOk z=true;unfold PyData.strOk;rw[ajb];erw[λc hc=>cy (h c (by simpa using hc))],fR _]
def a7m(h:eX n (.str z)):iO z:=λc hc=>by let q:PyData.strOk z=true:=h.lay;unfold PyData.strOk at q;rw[ajb]at q;erw[kg (q c (by simpa using hc))]
def W2(h:z.cps.all (·<0x110000)=true):iO z:=a7m (n:=0) #[h,fR _]
theorem PV:∀(ds:AC),(∀d∈ds,∃z:Str,d= .str z/\⇑z=1/\iO z/\z.cps.toList.all (λc=>decide (97<=c)&&decide (c<=122))=true)->∃zs:Ch,ds=zs.map PyData.str/\∀z∈zs,⇑z=1/\iO z/\z.cps.toList.all (λc=>decide (97<=c)&&decide (c<=122))=true |[],_=>#[[],Z,λ_ h=>nomatch h] |d::ds,h=>by let(z,rfl,e):=h d (.head _);let(zs,rfl,q):=PV ds λx hx=>h x (.tail _ hx);erw[z::zs,Z,λy hy=>by
 rcases dj.mp hy with rfl|hy
 ·erw[e]
 ·erw[q y hy]]
def agt:iO mJ:=W2 aP
def KL(c:Nat):Bool:=decide (97<=c)&&decide (c<=122)
def Dh(s:Str):Bool:=(decide (1<=⇑s)&&decide (⇑s<=8))&&s.cps.toList.all KL
def VX(w s:Str):Prop:=(w="tool"/\(s="up"\/s="down"))\/(w="mark"/\Dh s=true)
def iM(d:aj):Prop:=(∃n,d= .tuple [.str "wait",.int n]/\1<=n/\n<=1000)\/∃w s,d= .tuple [.str w,.str s]/\(w="tool"\/w="mark")/\eX 0 (.str s)/\VX w s
theorem Ym:∀l:Ch,(PySem.Str.join ("":Str) l).cps.toList=(l.map λz=>z.cps.toList).flatten
 |[]=>by simp[PySem.Str.join,PySem.Str.empty] |[x]=>by simp[PySem.Str.join] |x::y::r=>by
  show((x++("":Str))++PySem.Str.join ("":Str) (y::r)).cps.toList=_;rw[a1q,a1q,a1L,a1L,Ym (y::r)];have:(("":Str)).cps.toList=[]:=by decide+kernel
  rw[this];simp
def a8X(h1:1<=⇑l)(h8:⇑l<=8)(h:∀z∈l,⇑z=1/\z.cps.toList.all KL=true):Dh (Txt.join ("":Str) l)=true:=by
 let e:(Txt.join ("":Str) l).cps.toList=(l.map λz=>z.cps.toList).flatten:=by show(Builtin.Str.glued ("":Str) l).cps.toList=_;rw[KB];erw[Ym l]
 let el:(Txt.join ("":Str) l).length=⇑l:=by
  show(Txt.join ("":Str) l).cps.size=_;rw[<-Fe,e,List.length_flatten,List.map_map];have:∀(l:Ch),(∀z∈l,⇑z=1/\z.cps.toList.all KL=true)->(l.map (List.length∘λz=>z.cps.toList)).sum=⇑l:=by intro l;induction l with |nil=>intro _;rfl |cons a r ih=>
   intro h;rw[BV,List.sum_cons,ih λz hz=>h z (.tail _ hz),kY];have:=(h a (.head _)).1;let e2:(List.length∘λz:Str=>z.cps.toList) a=1:=by show ⇑a.cps.toList=1;rw[Fe];erw[this]
   rw[e2,OA]
  erw[this l h]
 unfold Dh;rw[el,e,cy h1,cy h8,mU,mU,jw];intro c hc;let(cs,sI,jn):=List.mem_flatten.mp hc;let(z,hz,rfl):=gS.mp sI;erw[jw.mp (h z hz).2 c jn]
def iM.it(h:iM d):itR d none:=by
 rcases h with⟨n,rfl,_⟩|⟨w,s,rfl,hw|hw,_⟩
 ·erw[.inr #[wT,.inl Z,wP]]
 ·erw[.inr #[wT,.inr (.inl hw),wP]]
 ·erw[.inr #[wT,.inr (.inr hw),wP]]
inductive a43|mk (p:Addr)(_:vs=[.ref p])(_:gI H p)(_:∀v d H',RD K H' v d->iM d->bF p H H'->Q v H')
def a7P(AA:a0q):a0n "_law_other" 2 a43:=by
 exists AA.adZ.has,RE,fE λ_=>rfl
 ·let(p,rfl,bg,k):=h
  let nd:=RE.nd;erw[_,%[pS 1 nd (pf (eK AA) hr %[0,aA|az]),(bp (bL (cJ K Z hr.units) u8 aA (bc _)) (aG (aQ (dA %[fA,(aM cM aA (pf (eK AA) hr %[0,px K (cY %[aA,aA|az]) (pf (eK AA) hr %[0,aA|az])|az]))|az]))) bE),(bp (bL (cJ K Z hr.units) u8 aA (bc _)) (aG (aQ (dA %[fA,px K (cY %[fA,fA|az]) (pf (eK AA) hr %[0,aA|az])|az]))) bE),pS 2 nd fA,(aQ (dA %[fA,(a6T K Z fA %[(gX (N:=["_law_turn","_law_letters","_law_bag_here"]) (js:=[none,some 2,some 0]) Z Z Z (pZ Z (AA.B.at "range") %[aM cM aA (pf (eK AA) hr %[0,aA|az])|az]) (λ_ _ _ _ _=>(ba 0 (show List.Nodup (["_law_turn","_law_letters","_law_bag_here"]:Ch) by decide+kernel))) (λ_ _ _ _ _=>fZ) (λ_ _ _ _ _=>(VH aai u8 (pf (eK AA) hr %[2,aA|az]) (λ_ _=>rfl))))|az])|az]))|aG],?_,B,ww,p,3,Z,bg,aw,aw,λso H1 s0 s1 b1=>?_,B,ww,.inl #[_,_,Z,Z,_,Z,?_],B,eV (λhc=>?_) (λhc=>?_)]
  ·erw[ww,bM Z,λc H2' Ky=>?_]
   let b2':bF p H1 H2':=.fK b1.bw Ky.ss;let cp:c≠p:=λz=>b1.bw.ne (z▸Ky.no);erw[ww,p,2,Z,b2'.bw,aw,aw,λi H3' i0 i1 NA=>?_];let hi:∃z:Int,fj ([.int 1000,.int 2]:AT) i=some (.int z)/\2<=z/\z<=1000:=by
    rcases(show i=0\/i=1 by lia)with rfl|rfl
    ·erw[1000,Z,aw,aw]
    ·erw[2,Z,aw,aw]
   let(z,ez,z2,OZ):=hi;erw[.inl #[c,_,wr,aK.of (NA.ss _ _ cp Ky.at'),ez,?_],B,p,z,Z,NA.bw,fW aw z2,fW OZ aw,λn H2 n0 n1 ag7=>?_];let b2:=b2'.ao (NA.ao ag7);erw[wr,bM Z,λt H3 n3=>?_,B,k (.ref t) _ H3 (gD (aW.of n3.at') %[cF _,eB _|cQ]) (.inl #[ww,_S.lK n0,fW (_S.lL n1) OZ]) (b1.ao (b2.ao (.fK b2.bw n3.ss)))]
  erw[ww,.inl #[_,_,Z,Z,_,Z,?_],B,eV (λhc=>?_) (λhc=>?_)]
  ·erw[bM Z,λc H2 n2=>?_]
   let b2:bF p H1 H2:=.fK b1.bw n2.ss;let cp:c≠p:=λz=>b1.bw.ne (z▸n2.no);erw[ww,p,2,Z,b2.bw,aw,aw,λi H3 i0 i1 b3=>?_];let hi:∃z:Str,fj ([.str "up",.str "down"]:AT) i=some (.str z)/\eX 0 (.str z)/\VX "tool" z:=by
    rcases(show i=0\/i=1 by lia)with rfl|rfl
    ·erw["up",Z,#[aP,aP],.inl #[Z,.inl Z]]
    ·erw["down",Z,#[aP,aP],.inl #[Z,.inr Z]]
   let(z,ez,okz,onz):=hi;erw[.inl #[c,_,wr,aK.of (b3.ss _ _ cp n2.at'),ez,bM Z,λt H4 n4=>?_],B,k (.ref t) _ H4 (gD (aW.of n4.at') %[cF _,cF _|cQ]) (.inr #[wT,.inl Z,okz,onz]) (b1.ao (b2.ao (b3.ao (.fK b3.bw n4.ss))))]
  erw[Z,?_,B,ww,p,8,Z,b1.bw,aw,aw,λn H2 n0 n1 b2=>?_,B,wr,ww,_S.NO n0 aw,_S.a0y n1 aw,λD H3 nD=>?_,B,ZN (K:=K) (J:=tI 0 (1+n).toNat) (p:=p) (H:=H2) (1+n).toNat _ nD b2.bw (_S.toN (_S.zC n1 aw)) (λi=>.int (0+(i:Int))) (λi H3 hi _=>#[hi,λy H4 #[e,q]=>#[e,q]]) (λH3 _=>aZ _) (λ_ d=>∃z:Str,d= .str z/\⇑z=1/\iO z/\z.cps.toList.all (λc=>decide (97<=c)&&decide (c<=122))=true) ?_ ?_]
  ·intro i H3 Q' hi b3 hq
   erw[wp,p,26,Z,b3.bw,aw,aw,λd H4 d0 d1 b4=>?_];let hd:d.toNat<⇑mJ.cps.toList:=by rw[agv];lia
   erw[mJ,d,mJ.cps.toList[d.toNat],wP,aP,cn d0 (bf hd),?_];let fg:iO ⟨#[mJ.cps.toList[d.toNat]]⟩:=λc hc=>by let kP:c=mJ.cps.toList[d.toNat]:=gz.mp hc;rw[kP];erw[agt _ (zX hd)]
   let g9:(⟨#[mJ.cps.toList[d.toNat]]⟩:Str).cps.toList.all (λc=>decide (97<=c)&&decide (c<=122))=true:=by have:=jw.mp (show mJ.cps.toList.all (λc=>decide (97<=c)&&decide (c<=122))=true by decide+kernel) _ (zX hd);show([mJ.cps.toList[d.toNat]]:List Nat).all _=true;rw[OM,List.all_nil,OU];erw[this]
   erw[hq _ _ _ #[ww,Z,fg,g9] Z (cF _) b4]
  ·intro H3 ys ds b3 d3 r3 l3 nl pd
   let(zs,rfl,hz):=PV ds λd hd=>by let(i,hi):=xA.mp hd;erw[pd i d hi]
   rw[PU r3]at d3;rw[bC]at l3;erw["",D,zs,wP,aK.of d3,λz pA=>by rw[(hz z pA).1];decide,aw,aE,bM Z,λt H4 n4=>?_,B,k (.ref t) _ H4 (gD (aW.of n4.at') %[cF _,cF _|cQ]) (.inr #[wT,.inr Z,a7o (iO.join (W2 aP) λa ha=>(hz a ha).2.1),.inr #[Z,a8X aE aE λz pA=>#[(hz z pA).1,(hz z pA).2.2]]]) (b1.ao (b2.ao (b3.ao (.fK b3.bw n4.ss))))]
end
end _c
namespace _c
universe _L _l _W
open _O (Itm)
section
def a9l{v:V}{rs:Ar}{es:AC}(h:RD K H v (.tuple (.tuple (rs.map PyData.int)::es))):∃a b ys,v= .ref a/\aW K H a (.ref b::ys)/\aW K H b (rs.map V.int):=by let(a,xs,rfl,h1,h2):=h.cD;let(x1,r1,rfl,e1,h2):=h2.cons_inv;let(b,ys,rfl,h3,h4):=e1.cD;rw[h4.jm]at h3;erw[a,b,r1,Z,h1,h3]
def ir(z:Str):aj->Bool | .str x=>x==z |_=>false
def uU(z:Str)(d:aj):PyData.eqv d (.str z)=ir z d:=by cases d<;>simp[PyData.eqv,ir]
def YV(z:Str)(d:aj):PyData.eqv (.str z) d=ir z d:=by cases d<;>simp[PyData.eqv,ir];rw[tT];simp;erw[eq_comm]
def a3o(d:aj):(∃z,d= .str z)\/(j6 (lg d) "str"=false/\∀z,d≠ .str z):=by cases d with |str z=>erw[.inl #[z,Z]] |_=>erw[.inr #[by simp[lg];decide,λ_ z=>nomatch z]]
def tyS:j6 "str" "str"=true:=by decide
def Ll(d:aj):Bool:=ir "up" d||ir "down" d
def AF(c:Nat):Bool:=decide (97<=c)&&decide (c<=122)
def isNm:aj->Bool | .str x=>(decide (1<=⇑x)&&decide (⇑x<=8))&&x.cps.toList.all AF |_=>false
def uI(wd v:aj):Bool:=if ir "wait" wd then iT 1 1000 v else if ir "tool" wd then Ll v else ir "mark" wd&&isNm v
def D6:aj->Bool | .int i=>i !=0 |_=>true
def yf(n:Nat):aj->Bool | .tuple ds=>(⇑ds==n&&ds.all (iT (-100) 100))&&ds.any D6 |_=>false
def yH(n:Nat):aj->Bool | .tuple [wd,a,b]=>ir "line" wd&&(yf n a&&iT 1 20 b) | .tuple [wd,v]=>uI wd v |_=>false
def vI:aj->Bool | .str x=>decide (⇑x<=900) |_=>true
def Jk:aj->Bool | .tuple ds=>ds.all vI |_=>true
inductive agZ(f:aj->Bool)(K:ag)(vs:AT)(H:Hp)(Q:VK):Prop |mk v d(_:vs=[v])(_:RD K H v d)(_:vI d=true)(_:∀H',aI H H'->Q (.bl (f d)) H')
def a3y(f:aj->Bool)(K:ag):Sp:=λvs H Q _=>agZ f K vs H Q
def a4F(h:vI (.str z)=true):⇑z<=900:=kg h
def WK(n:Nat):decide ((1:Int)<=(n:Int))=decide (1<=n):=by rw[tT];simp;omega
def a8V(n:Nat):decide ((n:Int)<=8)=decide (n<=8):=by rw[tT];simp;omega
def agi{l:List Nat}:(l.map f).all id=l.all f:=by rw[List.all_map];rfl
def agu:∀c<128,decide (c∈mJ.cps.toList)=AF c:=by decide+kernel
def agx:∀c∈mJ.cps.toList,c<128:=by decide+kernel
def agw(c:Nat):decide (c∈mJ.cps.toList)=AF c:=by
 by_cases h:c<128
 ·erw[agu c h]
 ·rw[dh (λhc=>h (agx c hc)),AF,dh (show¬c<=122 from j0h (dJ aw (kX h))),OV]
def Sd:bA ["thing"] ["thing"] (aY Uo):=bJ aP
def a84(AA:a0q):a0n "is_name" 1 (a3y isNm K):=by
 exists AA.adB.has,Sd,fE λ_=>rfl
 ·let(v,d,rfl,rd,sh,k):=h
  let nd:=Sd.nd;erw[_,%[bp (PW.pt (iQ (dN (cg (dk K AA.B %[0,cS (x:="str") (v:=.ty "str") Z (AA.B.at "str") xn rfl|az]))) (lC (dN (a6n Gj Gj aA (eR (x:="len") afH rfl (AA.B.at "len") PySem.boot_len %[0|az]) (dY (x:="LONGEST_NAME") rfl AA.acA)))))) (aG (aQ jB)) bE,(aQ (eR (x:="all") (vh K Z Z) Z (AA.B.at "all") xq %[gX (N:=["letter"]) (js:=[none]) rfl rfl rfl (a6E o0) (λ_ _ _ _ _=>(ba 0 (uz _))) (λ_ _ _ _ _=>fZ) (λ_ _ _ _ _=>(fN a7b o0 (dY (x:="LETTERS") rfl AA.acB) (by with_unfolding_all rfl)))|az]))|aG],?_];rcases a3o d with⟨z,rfl⟩|⟨ht,hn⟩
  ·erw[ww,.inl #[xz,"str",true,Z,rd.ty,aw,tyS,ww,aX ?_]]
   cases rd.str_inv;let hl:=a4F sh;let k:∀H',aI H H'->Q (.bl ((decide (1<=⇑z)&&decide (⇑z<=8))&&z.cps.toList.all AF)) H':=k;erw[ww,z,Z,cL hl aw,jp,B,eV (λh1=>?_) (λh1=>?_)]
   ·rw[<-WK,show decide ((1:Int)<=(⇑z:Int))=true from h1,mU]at k
    erw[jp];rw[a8V];cases e8:decide (⇑z<=8)with |false=>rw[e8,o9]at k;erw[bB (k H (aI.refl _))] |true=>
     rw[e8,mU]at k;erw[aX #[ww,z,Z,λD H0 nw=>?_],B,afl (f:=AF) [] nw (cL hl aw) (λc H2 Q' hc s2 hq=>?_) (λH2 s2 d2=>?_)]
     ·erw[ww,c,mJ,wP,?_]
      rw[agw];erw[hq _ (aI.refl _)]
     ·erw[D,ww,aK.of d2,?_]
      rw[agi];erw[k H2 s2]
   ·rw[<-WK,show decide ((1:Int)<=(⇑z:Int))=false from A0.mpr h1,o9,o9]at k
    erw[ww,bB (k H (aI.refl _))]
  ·let e:isNm d=false:=by cases d<;>first|rfl|erw[absurd rfl (hn _)]
   rw[e]at k;erw[ww,.inl #[xz,"str",false,Z,rd.ty,aw,ht,ww,bB ?_],B,k H (aI.refl _)]
inductive a3J|mk x v wd d(_:vs=[x,v])(_:RD K H x wd)(_:RD K H v d)(_:eX 8 wd)(_:eX 8 d)(_:vI d=true)(_:∀H',aI H H'->Q (.bl (uI wd d)) H')
def mh(h:eX 8 d):SeqAt.shaped d=true:=h.shaped aw
def S9:bA ["word","value"] ["word","value"] (aY Ul):=bJ aP
def a82(AA:a0q):a0n "is_short_item" 3 a3J:=by
 exists AA.ady.has,S9,eQ λ_ _=>rfl
 ·let(x,v,wd,d,rfl,JC,rd,Kf,CT,sh,k):=h
  let nd:=S9.nd;let(aS,abZ,sqS):=AA.acx;erw[_,%[bp (bL (cJ K Z hr.units) o0 fA (bc _)) (aG (aQ (pf (CV AA) hr %[1,aA,dY (x:="LONGEST_WAIT") Z AA.acz|az]))) bE,bp (bL (cJ K Z hr.units) o0 fA (bc _)) (aG (aQ (fN (aax K Z (hr.a2b)) u8 (dY (x:="SIDES") Z abZ) (by with_unfolding_all rfl)))) bE,aQ (iE (fN (cJ K Z hr.units) o0 fA (bc _)) (iR (pf (a84 AA) hr %[1|az])))|aG],?_];let k:∀H',aI H H'->Q (.bl (if ir "wait" wd then iT 1 1000 d else if ir "tool" wd then Ll d else ir "mark" wd&&isNm d)) H':=k;erw[ww,.inr #[xz,JC,cF _,mh Kf,aP,wv]];rw[uU];cases e1:ir "wait" wd with |true=>rw[e1,aR rfl]at k;erw[bB #[ww,_,d,1,1000,Z,rd,k H (aI.refl _)]] |false=>rw[e1,aV ko]at k;erw[aX #[ww,.inr #[xz,JC,cF _,mh Kf,aP,wv]]];rw[uU];cases e2:ir "tool" wd with
   |true=>
    rw[e2,aR rfl]at k;erw[bB #[ww,aS,_,d,[.str "up",.str "down"],Z,sqS H,rd,cm (cF _) %[cF _|cQ],mh CT,zn]]
    ·intro e he
     rcases dj.mp he with rfl|he
     ·decide+kernel
     rcases dj.mp he with rfl|he
     ·decide+kernel
     ·exact(gy he).elim
    ·let e:([.str "up",.str "down"]:AC).any (λe=>PyData.eqv e d)=Ll d:=by rw[ID,ID,List.any_nil,YV,YV,Bool.or_false];rfl
     rw[e];erw[k H (aI.refl _)] |false=>rw[e2,aV ko]at k;erw[aX #[ww,.inr #[xz,JC,cF _,mh Kf,aP,wv]]];rw[uU];cases e3:ir "mark" wd with |true=>rw[e3,mU]at k;erw[bB #[ww,_,d,Z,rd,sh,k]] |false=>rw[e3,o9]at k;erw[aX (k H (aI.refl _))]
def a8r(i:Int):(!decide (i=0))=(i !=0):=by rw[tT];simp
def aaw{lo hi:Int}(h:iT lo hi d=true):∃i,d= .int i:=by cases d<;>simp[iT]at h;erw[ww]
def any_map'{ds:AC}:(ds.map f).any id=ds.any f:=by rw[j03];rfl
inductive a3I|mk (m:V)(v:V)(rs:Ar)(es:AC)(d:aj)(_:vs=[m,v])(_:RD K H m ((.tuple (.tuple (rs.map PyData.int)::es))))(_:RD K H v d)(_:⇑rs<=3)(_:∀H',aI H H'->Q (.bl (yf ⇑rs d)) H')
def SE:bA ["machine","thing","rails"] ["machine","thing"] (aY UM):=bJ aP
def a8k(AA:a0q):a0n "are_steps" 3 a3I:=by
 exists AA.adP.has,SE,eQ λ_ _=>rfl
 ·let(m,v,rs,es,d,rfl,rm,rd,l3,k):=h
  let nd:=SE.nd;erw[_,%[pS 2 nd (px K o0 aA),bp (PW.pt (iQ (dN (cg (dk K AA.B %[1,cS (x:="tuple") (v:=.ty "tuple") Z (AA.B.at "tuple") gu rfl|az]))) (lC (bL (j9 K rfl hr.units) (dC K AA.B %[1|az]) (dC K AA.B %[2|az]) (bc _))))) (aG (aQ jB)) bE,(bp (dN (cg (eR (x:="all") (vh K Z Z) Z (AA.B.at "all") xq %[gX (N:=["step"]) (js:=[none]) rfl rfl rfl (qc K rfl u8) (λ_ _ _ _ _=>(ba 0 (uz _))) (λ_ _ _ _ _=>fZ) (λ_ _ _ _ _=>(pf (CV AA) hr %[0,rX rH (dY (x:="MOST_STEPS") rfl AA.Yt),dY (x:="MOST_STEPS") rfl AA.Yt|az]))|az]))) (aG (aQ jB)) bE),(aQ (eR (x:="any") (a0t K Z Z) Z (AA.B.at "any") a1v %[gX (N:=["step"]) (js:=[none]) rfl rfl rfl (qc K rfl u8) (λ_ _ _ _ _=>(ba 0 (uz _))) (λ_ _ _ _ _=>fZ) (λ_ _ _ _ _=>(fN (j9 K rfl hr.units) o0 aA (bc _)))|az]))|aG],?_];let(am,ar,ym,rfl,hm,har):=a9l rm;erw[ww,.inr #[am,_,0,ww,Z,hm,cn (dU 0) Z,?_]];rcases IT d with⟨ds,rfl⟩|⟨ht,hn⟩
  ·erw[ww,.inl #[xz,"tuple",true,Z,rd.ty,aw,rJ,ww,aX ?_]]
   let(av,xs,rfl,hx,hd):=rd.cD;let hl:=⇑hd;erw[ww,av,ww,.inr hx,ww,ar,ww,.inr har,.inl #[_,_,Z,Z,_,Z,?_]];let k:∀H',aI H H'->Q (.bl ((⇑ds==rs.length&&ds.all (iT (-100) 100))&&ds.any D6)) H':=k;let e0:(!decide ((⇑xs:Int)=(⇑(rs.map V.int):Int)))= !(⇑ds==rs.length):=by rw[hl,bC];congr 1;rw[tT];simp;lia
   rw[e0];cases e:(⇑ds==rs.length)with |false=>rw[e,o9,o9]at k;erw[bB (k H (aI.refl _))] |true=>
    rw[e,mU]at k;erw[aX ?_];let el:⇑ds=rs.length:=gf.mp e;erw[ww,av,Z,#[_,hx],λD H0 nw=>?_,B,Hx (xs:=xs) (bs:=ds.map (iT (-100) 100)) [] hx nw (by rw[bC,hl]) aE ?_ ?_]
    ·intro i x b H2 Q' ex eb s2 hq
     let(d,ed,rfl):=X8 eb;let(x',qL,rx):=hd.get i ed;rw[ex]at qL;cases qL;erw[wp,_,d,-100,100,Z,RD.sK s2 _ rx,hq _ (aI.refl _)]
    ·intro H2 s2 d2
     erw[D,ww,aK.of d2,wv];rw[all_map];cases e1:ds.all (iT (-100) 100)with |false=>rw[e1,o9]at k;erw[bB (k H2 s2)] |true=>
      rw[e1,mU]at k;erw[aX #[ww,av,Z,#[_,hx.go s2],λD2 H3 n3=>?_],B,Hx (xs:=xs) (bs:=ds.map D6) [] (hx.go s2) n3 (by rw[bC,hl]) aE ?_ ?_]
      ·intro i x b H4 Q' ex eb s4 hq
       let(d,ed,rfl):=X8 eb;let(x',qL,rx):=hd.get i ed;rw[ex]at qL;cases qL;let(z,rfl):=aaw (jw.mp e1 d (gA ed));cases rx.int_inv;erw[ww,.inl #[wr,?_]];show Q' (.bl (!decide (z=0))) H4;rw[a8r];erw[hq _ (aI.refl _)]
      ·intro H4 s4 d4
       erw[D2,ww,aK.of d4,?_];rw[any_map'];erw[k H4 (s2.ao s4)]
  ·let e:yf ⇑rs d=false:=by cases d<;>first|rfl|erw[absurd rfl (hn _)]
   rw[e]at k;erw[ww,.inl #[xz,"tuple",false,Z,rd.ty,aw,ht,ww,bB ?_],B,k H (aI.refl _)]
def item_cases(n:Nat)(d:aj):(∃wd a b,d= .tuple [wd,a,b])\/(∃wd v,d= .tuple [wd,v])\/(∃ds,d= .tuple ds/\⇑ds≠3/\⇑ds≠2/\yH n d=false)\/(j6 (lg d) "tuple"=false/\yH n d=false):=by
 rcases IT d with⟨ds,rfl⟩|⟨ht,hn⟩
 ·match ds with |[r,a,b]=>erw[.inl #[r,a,b,Z]] |[r,a]=>erw[.inr (.inl #[r,a,Z])] |[]=>erw[.inr (.inr (.inl #[ww,by simp,by simp,by simp[yH]]))] |[_]=>erw[.inr (.inr (.inl #[ww,by simp,by simp,by simp[yH]]))] |_::_::_::_::_=>erw[.inr (.inr (.inl #[ww,by simp,by simp,by simp[yH]]))]
 ·erw[.inr (.inr (.inr #[ht,by cases d<;>first|rfl|erw[absurd rfl (hn _)]]))]
inductive a4d|mk (m:V)(v:V)(rs:Ar)(es:AC)(d:aj)(_:vs=[m,v])(_:RD K H m ((.tuple (.tuple (rs.map PyData.int)::es))))(_:RD K H v d)(_:⇑rs<=3)(_:eX 8 d)(_:Jk d=true)(_:∀H',aI H H'->Q (.bl (yH ⇑rs d)) H')
def AG{ds:AC}(h:eX 8 (.tuple ds)){d:aj}(hd:d∈ds):eX 8 d:=((eX.cD (n:=7) h) d hd).le aw
def sh8{ds:AC}(h:Jk (.tuple ds)=true){d:aj}(hd:d∈ds):vI d=true:=jw.mp (show ds.all vI=true from h) d hd
def Se:bA ["machine","thing","word","steps","speed","value"] ["machine","thing"] (aY Up):=bJ aP
def Wj(AA:a0q):a0n "is_item" 4 a4d:=by
 exists AA.adE.has,Se,eQ λ_ _=>rfl
 ·let(m,v,rs,es,d,rfl,rm,rd,l3,CT,sh,k):=h
  let nd:=Se.nd;erw[_,%[bp (dN (cg (dk K AA.B %[1,cS (x:="tuple") (v:=.ty "tuple") Z (AA.B.at "tuple") gu rfl|az]))) (aG (aQ jB)) bE,(bp (bL (cJ K Z hr.units) (dC K AA.B %[1|az]) aA (bc _)) %[fz u8 (cX K Z (n:=3) Z %[ba 2 nd,ba 3 nd,ba 4 nd|cW]),aQ (iE (fN (cJ K Z hr.units) w4 fA (bc _)) (iE (pf (a8k AA) hr %[0,3|az]) (iR (pf (CV AA) hr %[4,aA,dY (x:="GREATEST_SPEED") Z AA.acD|az]))))|aG] bE),(bp (bL (cJ K Z hr.units) (dC K AA.B %[1|az]) aA (bc _)) %[fz u8 (cX K Z (n:=2) Z %[ba 2 nd,ba 5 nd|cW]),aQ (pf (a82 AA) hr %[2,5|az])|aG] bE),aQ jB|aG],?_];rcases item_cases ⇑rs d with⟨wd,a,b,rfl⟩|⟨wd,a,rfl⟩|⟨ds,rfl,h3,h2,hf⟩|⟨ht,hf⟩
  ·erw[ww,.inl #[xz,"tuple",true,Z,rd.ty,aw,rJ,ww,aX ?_]]
   let(p,xs,rfl,hx,hd):=rd.cD;let(u1,ys,rfl,r1,hd):=hd.cons_inv;let(u2,ys,rfl,r2,hd):=hd.cons_inv;let(u3,ys,rfl,r3,hd):=hd.cons_inv;cases hd.nil_inv;let k:∀H',aI H H'->Q (.bl (ir "line" wd&&(yf ⇑rs a&&iT 1 20 b))) H':=k;erw[ww,p,ww,.inr hx,.inl #[wr,ww,bB ?_],B,ww,p,ww,hx,Z,xz,wE,B,ww,.inr #[xz,r1,cF _,mh (AG CT (by simp)),aP,wv]];rw[uU];cases e1:ir "line" wd with |false=>rw[e1,o9]at k;erw[aX (k H (aI.refl _))] |true=>rw[e1,mU]at k;erw[bB #[wp,xz,rs,es,a,Z,rm,r2,l3,λH1 s1=>#[_,Z,?_]]];cases e2:yf ⇑rs a with |false=>rw[e2,o9]at k;erw[aX (k H1 s1)] |true=>rw[e2,mU]at k;erw[bB #[ww,_,b,1,20,Z,RD.sK s1 _ r3,k H1 s1]]
  ·erw[ww,.inl #[xz,"tuple",true,Z,rd.ty,aw,rJ,ww,aX ?_]]
   let(p,xs,rfl,hx,hd):=rd.cD;let(u1,ys,rfl,r1,hd):=hd.cons_inv;let(u2,ys,rfl,r2,hd):=hd.cons_inv;cases hd.nil_inv;let k:∀H',aI H H'->Q (.bl (uI wd a)) H':=k;erw[ww,p,ww,.inr hx,.inl #[wr,ww,aX ?_],B,ww,p,ww,.inr hx,.inl #[wr,ww,bB ?_],B,ww,p,ww,hx,wE,B,wp,xz,wd,a,Z,r1,r2,AG CT (by simp),AG CT (by simp),sh8 sh (by simp),k]
  ·rw[hf]at k
   erw[ww,.inl #[xz,"tuple",true,Z,rd.ty,aw,rJ,ww,aX ?_]];let(p,xs,rfl,hx,hd):=rd.cD;let hl:=⇑hd;erw[ww,p,ww,.inr hx,.inl #[_,_,Z,Z,_,Z,?_]];rw[show decide ((⇑xs:Int)=3)=false from dh aE];erw[aX #[ww,p,ww,.inr hx,.inl #[_,_,Z,Z,_,Z,?_]]];rw[show decide ((⇑xs:Int)=2)=false from dh aE];erw[aX (k H (aI.refl _))]
  ·rw[hf]at k
   erw[ww,.inl #[xz,"tuple",false,Z,rd.ty,aw,ht,ww,bB ?_],B,k H (aI.refl _)]
def Lo(rs:Ar):aj->Bool | .tuple es=>⇑es==rs.length&&((es.zip rs).map λp=>iT 0 p.2 p.1).all id |_=>false
inductive a4f|mk (m:V)(v:V)(rs:Ar)(ds:AC)(d:aj)(_:vs=[m,v])(_:RD K H m (.tuple (.tuple (rs.map PyData.int)::ds)))(_:RD K H v d)(_:⇑rs<=3)(_:∀H',aI H H'->Q (.bl (Lo rs d)) H')
def zip_get{es:AC}{rs:Ar}{i:Nat}{b:Bool}(h:((es.zip rs).map λp=>iT 0 p.2 p.1)[i]? =some b):∃e r,es[i]? =some e/\rs[i]? =some r/\iT 0 r e=b:=by rw[bV]at h;cases q:(es.zip rs)[i]? with |none=>rw[q]at h;cases h |some p=>rw[q]at h;let(e1,e2):=OJ.mp q;erw[p.1,p.2,e1,e2,fm h]
def ints_get{rs:Ar}{i:Nat}{r:Int}(h:rs[i]? =some r):(rs.map V.int)[i]? =some (.int r):=by rw[bV,h];rfl
def Sb:bA ["machine","thing","rails"] ["machine","thing"] (aY Um):=bJ aP
def a83(AA:a0q):a0n "is_place" 3 a4f:=by
 exists AA.adA.has,Sb,eQ λ_ _=>rfl
 ·let(m,v,rs,ds,d,rfl,rm,rd,l3,k):=h
  let nd:=Sb.nd;erw[_,%[pS 2 nd (px K o0 aA),bp (PW.pt (iQ (dN (cg (dk K AA.B %[1,cS (x:="tuple") (v:=.ty "tuple") Z (AA.B.at "tuple") gu rfl|az]))) (lC (bL (j9 K rfl hr.units) (dC K AA.B %[1|az]) (dC K AA.B %[2|az]) (bc _))))) (aG (aQ jB)) bE,(aQ (eR (x:="all") (vh K Z Z) Z (AA.B.at "all") xq %[gX (N:=["number","rail"]) (js:=[none,none]) rfl rfl rfl (lH K rfl false false rfl (AA.B.at "zip") %[1,2|az]) (λ_ _ _ _ _=>(cX K rfl (n:=2) rfl %[ba 0 (hW aw),ba 1 (hW aw)|cW])) (λ_ _ _ _ _=>fZ) (λ_ _ _ _ _=>(pf (CV AA) hr %[0,aA,1|az]))|az]))|aG],?_];let(am,xm,rfl,hm,hdm):=rm.cD;let(yr,ym,rfl,r1,ak3):=hdm.cons_inv;let(ar,xr,rfl,Dz,hdr):=r1.cD;cases hdr.jm;erw[ww,.inr #[am,_,0,ww,Z,hm,cn (dU 0) Z,?_]];rcases IT d with⟨es,rfl⟩|⟨ht,hn⟩
  ·erw[ww,.inl #[xz,"tuple",true,Z,rd.ty,aw,rJ,ww,aX ?_]]
   let(av,xs,rfl,hx,hd):=rd.cD;let hl:=⇑hd;erw[ww,av,ww,.inr hx,ww,ar,ww,.inr Dz,.inl #[_,_,Z,Z,_,Z,?_]];let k:∀H',aI H H'->Q (.bl (⇑es==rs.length&&((es.zip rs).map λp=>iT 0 p.2 p.1).all id)) H':=k;let e0:(decide ((⇑xs:Int)=(⇑(rs.map V.int):Int)))=(⇑es==rs.length):=by rw[hl,bC,tT];simp;lia
   rw[e0];cases e:(⇑es==rs.length)with |false=>rw[e,o9]at k;erw[bB (k H (aI.refl _))] |true=>
    rw[e,mU]at k;erw[aX ?_];let el:⇑es=rs.length:=gf.mp e;erw[wp,av,ar,Z,#[_,hx],#[_,Dz],λD H0 nw=>?_,B,afk (b1:=false) (b2:=false) (xs:=xs) (ys:=rs.map V.int) (bs:=(es.zip rs).map λp=>iT 0 p.2 p.1) [] rfl hx Dz nw (by rw[bC,bC,j0a,hl]) (by rw[bC,j0a];lia) ?_ ?_]
    ·intro i x y b H2 Q' ex ey eb s2 hq
     let(e',r,ee,er,rfl):=zip_get eb;let(x',qL,rx):=hd.get i ee;rw[ex]at qL;cases qL;rw[ints_get er]at ey;cases ey;erw[wp,_,e',0,r,Z,RD.sK s2 _ rx,hq _ (aI.refl _)]
    ·intro H2 s2 d2
     erw[D,ww,aK.of d2,k H2 s2]
  ·let e:Lo rs d=false:=by cases d<;>first|rfl|erw[absurd rfl (hn _)]
   rw[e]at k;erw[ww,.inl #[xz,"tuple",false,Z,rd.ty,aw,ht,ww,bB ?_],B,k H (aI.refl _)]
inductive a46|mk pw b pl ns(_:vs=[pw,.ref b])(_:RD K H pw (jA pl))(_:aW K H b (ns.map V.int))(_:⇑ns=pl.length)(_:⇑pl<=1000)(_:∀v' H',RD K H' v' (jA (nR pl ns))->aI H H'->Q v' H')
def RI:bA ["place","steps"] ["place","steps"] (aY TX):=bJ aP
def Wh(AA:a0q):a0n "moved" 1 a46:=by
 exists AA.adl.has,RI,eQ λ_ _=>rfl
 ·let(pw,b,pl,ns,rfl,rp,hb,ln,hz,k):=h
  let nd:=RI.nd;erw[_,(aG (aQ (gY (x:="tuple") (pP K Z) Z (AA.B.at "tuple") gu %[gX (N:=["number","step"]) (js:=[none,none]) rfl rfl rfl (lH K rfl false false rfl (AA.B.at "zip") %[0,1|az]) (λ_ _ _ _ _=>(cX K rfl (n:=2) rfl %[ba 0 (hW aw),ba 1 (hW aw)|cW])) (λ_ _ _ _ _=>fZ) (λ_ _ _ _ _=>(aM cM o0 u8))|az]))),?_];let(pa,rfl,hp):=K9 rp;erw[wp,pa,b,Z,#[_,hp],#[_,hb],λD H1 n1=>?_,B,wL (K:=K) (b1:=false) (b2:=false) (xs:=pl.map V.int) (ys:=ns.map V.int) (ds:=(nR pl ns).map PyData.int) [] rfl hp hb n1 (by simp[zB ln,ln]) (by rw[bC,zB ln];erw[hz]) (nA _) ?_ ?_]
  ·intro i x y d H2 Q' ex ey ed s2 hq
   let(m,em,rfl):=sx ed;rw[bV]at ex ey;cases e1:pl[i]? with |none=>rw[e1]at ex;cases ex |some u=>cases e2:ns[i]? with |none=>rw[e2]at ey;cases ey |some v=>rw[e1]at ex;rw[e2]at ey;cases ex;cases ey;rw[NN e1 e2]at em;cases em;erw[Wp,hq _ _ (aI.refl _) (eB _)]
  ·intro H2 zs s2 d2 r2
   erw[D,ww,.inl #[aK.of d2,λt H3 n3=>?_]];let et:=n3.at';rw[r2.jm]at et;erw[k (.ref t) H3 (K8 (aW.of et)) (s2.ao n3.ss)]
inductive a4r|mk pw iv pl d o(_:vs=[pw,iv])(_:RD K H pw (jA pl))(_:RD K H iv d)(_:itR d o)(_:(∀ns sp,o=some (ns,sp)->⇑ns=pl.length))(_:⇑pl<=1000)(_:∀v' H',RD K H' v' (jA (jE pl o))->aI H H'->Q v' H')
def Sz:bA ["place","item"] ["place","item"] (aY UJ):=bJ aP
def Kl(AA:a0q):a0n "place_behind" 2 a4r:=by
 exists AA.adj.has,Sz,eQ λ_ _=>rfl
 ·let(pw,iv,pl,d,o,rfl,rp,ri,it,hl,hz,k):=h
  let nd:=Sz.nd;erw[_,(aG (aQ (y8 (cg (pf (si AA) hr %[1|az])) (pf (Wh AA) hr %[0,px K u8 aA|az]) o0))),?_,B,ww,iv,d,o,Z,ri,it,wv];cases o with |some q=>let(ns,sp):=q;erw[bB ?_];let ed:=kB it;subst ed;let(a,b,rfl,ha,hb):=pk ri;erw[wp,.inr #[a,_,1,.ref b,wP,ha,Z,pw,b,pl,ns,Z,rp,hb,hl ns sp Z,hz,λv' H' r s=>k v' H' r s]] |none=>erw[aX ?_,B,ww,k pw H rp (aI.refl _)]
end
end _c
namespace _c
universe _L _d _l _W
open _O (Itm)
section
structure BH(n:Nat)(d:aj)(o:Itm):Prop where
 it:itR d o
 ln:∀ns sp,o=some (ns,sp)->fU n 100 ns/\1<=sp/\sp<=20
 ot:o=none->iM d
def a8W(h:Dh z=true):isNm (.str z)=true:=h
def age:∀{ns:Ar},(∃z∈ns,z≠0)->(ns.map PyData.int).any D6=true:=λ{ns} #[z,hz,h]=>tP.mpr #[.int z,gS.mpr #[z,hz,Z],by show(z !=0)=true;simpa using h]
def agl{ns:Ar}(h:∀z∈ns,(z.natAbs:Int)<=100):(ns.map PyData.int).all (iT (-100) 100)=true:=by rw[jw];intro d hd;let(z,hz,rfl):=gS.mp hd;have:=h z hz;show(decide (-100<=z)&&decide (z<=100))=true;rw[cy bI,cy (Fk (_S.qj (aZ _) (C4 this)))];rfl
def BH.is(h:BH n d o):yH n d=true/\eX 8 d/\Jk d=true:=by cases o with
 |some q=>
  let(ns,sp):=q;let ed:=kB h.it;subst ed;let(bX,s1,s2):=h.ln ns sp rfl;erw[zn,Z]
  ·show(ir "line" (.str "line")&&(yf n (.tuple (ns.map PyData.int))&&iT 1 20 (.int sp)))=true
   let e1:ir "line" (.str "line")=true:=by decide+kernel
   let e2:yf n (.tuple (ns.map PyData.int))=true:=by show((⇑(ns.map PyData.int)==n&&(ns.map PyData.int).all (iT (-100) 100))&&(ns.map PyData.int).any D6)=true;rw[agl bX.bd,age bX.nz,bC,bX.len,Ij];rfl
   let e3:iT 1 20 (.int sp)=true:=by show(decide (1<=sp)&&decide (sp<=20))=true;rw[cy s1,cy s2];rfl
   rw[e1,e2,e3];rfl
  ·refine(iP.tup (n:=1) (.cons #[aP,fR _] (.cons (iP.tup (n:=0) λd hd=>?_) (.cons (.int _) .nil)))).le aw
   let(a,_,rfl):=gS.mp hd;erw[.int _] |none=>
  rcases h.ot rfl with⟨z,rfl,z1,z2⟩|⟨w,s,rfl,hw,CP,on⟩
  ·erw[?_,(iP.tup (n:=0) (.cons #[aP,fR _] (.cons (.int _) .nil))).le aw,Z]
   show uI (.str "wait") (.int z)=true;unfold uI;rw[aR aP];show(decide (1<=z)&&decide (z<=1000))=true;rw[cy z1,cy z2];rfl
  ·let aa7:vI (.str s)=true:=by
    erw[cy ?_];rcases on with⟨_,rfl|rfl⟩|⟨_,hn⟩
    ·decide+kernel
    ·decide+kernel
    ·unfold Dh at hn
     simp only[gU,Oc]at hn;erw[cL hn.1.2 aw]
   erw[?_,(iP.tup (n:=0) (.cons ?_ (.cons CP .nil))).le aw,?_]
   ·rcases on with⟨rfl,hs⟩|⟨rfl,hn⟩
    ·show uI (.str "tool") (.str s)=true
     unfold uI;rw[aV aP,aR aP];rcases hs with rfl|rfl<;>decide+kernel
    ·show uI (.str "mark") (.str s)=true
     unfold uI;rw[aV aP,aV aP];rw[a8W hn];decide+kernel
   ·rcases hw with rfl|rfl<;>erw[aP,fR _]
   ·show([.str w,.str s]:AC).all vI=true
    rw[OM,OM,List.all_nil,aa7];rcases hw with rfl|rfl<;>decide+kernel
end
end _c
namespace _c
universe _L _d _l
section
def fh(ti:Int)(q:Rat)(t:Int):Bool:=decide (ti*ti*(q.den:Int)<=t*t*q.num)
inductive Jg|mk m sq t rs r f j ti q(_:vs=[m,sq,.int t])(_:RD K H m (fC rs r f j ti))(_:bj H sq q)(_:Bd 2000 q)(_:1<=ti)(_:ti<=100)(_:0<=t)(_:t.natAbs<2^2400)(_:Q (.bl (fh ti q t)) H)
def Sn:bA ["machine","square","t","p","q","ticks"] ["machine","square","t"] (aY Jq):=bJ aP
def Wm(F:FA K mg "are_enough" Jq)(B:vo mg):a0n "are_enough" 1 Jg:=by
 exists F.has,Sn,ka λ_ _ _=>rfl
 ·let(m,sq,t,rs,r,f,j,ti,q,rfl,rm,(p,rfl,hp),bq,t1,t2,t0,tw,k):=h
  let nd:=Sn.nd;erw[_,%[fz u8 (cX K Z (n:=2) Z %[ba 3 nd,ba 4 nd|cW]),pS 5 nd (px K o0 aA),aQ (fN Gk (aM bO (aM bO w4 w4) L2) (aM bO (aM bO P3 P3) M2) (bc _))|aG],?_];let(a,b,rfl,ha,hb):=nC rm;let wt:Wd t:=kr tw aw;let Fo:Wd (t*t):=kr (n:=4800) (by rw[ij];erw[qm (n:=2400) (m:=2400) tw tw]) aw;let m1:(ti*ti).natAbs<=100*100:=by rw[ij];erw[pO (_S.hZ t1 t2 aw) (_S.hZ t1 t2 aw)]
  erw[ww,wT,hp,wE,B,ww,.inr #[a,_,4,.int ti,wP,ha,Z,?_],B,Wp,jO wt.bits wt.bits,Wk,jO Fo.bits bq.wn.bits,?_,B,Wp,.of_left (cB (mT aw t1) (eG t2 aw)),Wk,.of_left (cB (_S.vX m1 aw) (_S.qj m1 aw)),?_,B,wr,k]
def Z6{t:Int}(hq:0<q.num)(h0:0<=t)(h:ti*ti*(q.den:Int)<=t):fh ti q t=true:=by
 erw[cy (fW h ?_)];by_cases ht:t=0
 ·subst ht;simp
 ·let e1:t*1<=t*t:=xD aE h0
  let e2:t*t*1<=t*t*q.num:=xD (fW (_S.lK (dU _)) (_S.lL hq)) (fy h0 h0)
  lia
def Z5(h1:1<=ti):fh ti q 0=false:=by
 erw[dh λh=>?_];have:=eY (eY (show 0<ti from _S.jC h1) (show 0<ti from _S.jC h1)) (den_pos q);simp only[F7]at h
 lia
inductive Qh|mk m sq rs r f j ti q(_:vs=[m,sq])(_:RD K H m (fC rs r f j ti))(_:bj H sq q)(_:Bd 2000 q)(_:1<=ti)(_:ti<=100)(_:0<q.num)(_:∀T,1<=T->T.natAbs<2^2400->fh ti q T=true->fh ti q (T-1)=false->Q (.int T) H)
def QN:bA ["machine","square","enough","too_few","between"] ["machine","square"] (aY SS):=bJ aP
def a7s(AA:a0q)(DM:a0n "are_enough" 1 Jg):a0n "ticks_of" 2 Qh:=by
 exists AA.ad7.has,QN,eQ λ_ _=>rfl
 ·let(m,sq,rs,r,f,j,ti,q,rfl,rm,rq,bq,t1,t2,hq,k):=h
  let nd:=QN.nd;erw[_,%[pS 2 nd aA,rS fc (dN (cg (pf DM hr %[0,1,2|az]))) (aG (pS 2 nd (aM bO aA w4))),pS 3 nd (aM rY w4 aA),(rS fc (bL qh (aM ip w4 L2) aA (bc _)) %[pS 4 nd (aM rY (aM cM L2 w4) aA),bp (cg (pf DM hr %[0,1,4|az])) (aG (pS 2 nd M2)) (aG (pS 3 nd M2))|aG]),aQ w4|aG],?_];let lim:(ti*ti*(q.den:Int)).natAbs<2^2399:=by
   let m1:(ti*ti).natAbs<=100*100:=by rw[ij];erw[pO (_S.hZ t1 t2 aw) (_S.hZ t1 t2 aw)]
   let hd:=bq.den;rw[ij];have:(q.den:Int).natAbs=q.den:=rfl;rw[this];have:=qm (n:=14) (m:=2000) (a:=(ti*ti).natAbs) (b:=q.den) (kh m1 aw) hd;erw[dJ this (rA aw aw)]
  let p0:0<ti*ti*(q.den:Int):=eY (eY (_S.jC t1) (_S.jC t1)) (den_pos q);let e2:(2:Nat)^2400=2^2399*2:=j02 2 2399;generalize hL:ti*ti*(q.den:Int)=L at lim p0;erw[rC (λO H2=>H2=H/\∃(x:Int),O=[some m,some sq,some (.int x),none,none]/\1<=x/\x<=2*L/\fh ti q (x/2)=false) (λO _=>match O with|[_,_,some (.int x),_,_]=>(L-x).toNat|_=>0) ?_ ?_ ?_]
  ·erw[Z,1,Z,aw,_S.mulL (_S.lL p0) aw,Z5 t1]
  ·rintro O H2 ⟨rfl,x,rfl,x1,xL,hx⟩
   erw[zD ?_];intro E1;let xw:x.natAbs<2^2400:=by lia
   erw[ZB,m,sq,x,rs,r,f,j,ti,q,Z,rm,rq,bq,t1,t2,_S.dE x1,xw,wv];cases uQ:fh ti q x with
   |false=>
    let bu:x<L:=by
     by_cases bu:x<L
     ·erw[bu]
     ·rw[Z6 hq (_S.dE x1) aE]at uQ;cases uQ
    erw[eV (λhc=>?_) (λhc=>(hc Z).elim),B,Wk,.of_left (cB aw aw),?_,B,#[WP,_S.mulL x1 aw,_S.KR (gT bu) aw,?_],?_]
    ·have:2*x/2=x:=by lia
     rw[this];erw[uQ]
    ·show(L-2*x).toNat<(L-x).toNat
     lia |true=>
    erw[eV (λhc=>nomatch hc) (λhc=>?_),B,Wk,#[aw,kr (n:=2) aw aw],?_,B,rC (λO H3=>H3=H2/\∃(lo hi:Int)(v:Option V),O=[some m,some sq,some (.int hi),some (.int lo),v]/\0<=lo/\lo<hi/\hi<=2*L/\fh ti q lo=false/\fh ti q hi=true) (λO _=>match O with|[_,_,some (.int x),some (.int y),_]=>(x-y).toNat|_=>0) ?_ ?_ ?_]
    ·erw[Z,x/2,x,none,Z,aE,aE,xL,hx,uQ]
    ·rintro O H3 ⟨rfl,lo,hi,v,rfl,l0,lh,yY,E5,zo⟩
     erw[zD ?_];intro E2;erw[Wp,jp,B,eV (λhc=>?_) (λhc=>?_)]
     ·let LO:hi-lo>1:=kg hc
      erw[Wp,wr,#[aw,kr (n:=2) aw aw],?_];let mw:((lo+hi)/2).natAbs<2^2400:=by lia
      erw[ZB,m,sq,(lo+hi)/2,rs,r,f,j,ti,q,Z,rm,rq,bq,t1,t2,aE,mw,wv];cases hm:fh ti q ((lo+hi)/2)with
      |true=>
       erw[bB ?_,B,ww,#[Z,lo,wT,l0,aE,aE,E5,hm],?_];show((lo+hi)/2-lo).toNat<(hi-lo).toNat
       lia |false=>
       erw[aX ?_,B,ww,#[Z,_,hi,ww,aE,aE,yY,hm,zo],?_];show(hi-(lo+hi)/2).toNat<(hi-lo).toNat
       lia
     ·let hle:¬hi-lo>1:=λz=>hc (cy z)
      let e:lo=hi-1:=by lia
      subst e;erw[ww,k hi (fW (_S.lK l0) (_S.lL lh)) aE zo E5]
    ·rintro O H2 Q1 Q2 hq ⟨v1,e1,v2,e2,i,j,e3,e4,i2,j2,e5,e6,kk,e7,q⟩
     erw[v1,e1,v2,e2,i,j,e3,e4,i2,j2,e5,e6,kk,e7,hq _ _ q]
  ·rintro O H2 Q1 Q2 hq ⟨v1,e1,v2,e2,v3,e3,m',lj,x',oq,r',f',j',ti',q',e4,h1,h2,h3,h4,h5,h6,h7,b,eb,q⟩
   erw[v1,e1,v2,e2,v3,e3,m',lj,x',oq,r',f',j',ti',q',e4,h1,h2,h3,h4,h5,h6,h7,b,eb,hq _ _ q]
end
end _c
namespace _c
universe _L _l
section
def P5(h:j.natAbs<2^64):Wd j:=Nat.lt_trans h aP
inductive a45|mk (p:Int)(q:Int)(_:vs=[.int p,.int q])(_:0<q)(_:q<=10^6)(_:p.natAbs<=10^9)(_:Q (.int (kz p q)) H)
def RH:bA ["p","q","size"] ["p","q"] (aY TV):=bJ aP
def a7R(AA:a0q):a0n "nearest" 1 a45:=by
 exists AA.adk.has,RH,eQ λ_ _=>rfl
 ·let(p,q,rfl,q0,q1,p1,k):=h
  let nd:=RH.nd;erw[_,%[pS 2 nd (aM rY (aM cM (aM bO aA (eR (x:="abs") tj Z (AA.B.at "abs") vt %[0|az])) u8) (aM bO aA u8)),aQ (y8 (bL Gk o0 aA (bc _)) w4 (rX rH w4))|aG],?_,B,ww,p,Z,wr,.of_left (cB aw aw),Wk,Wk,.of_left (cB aw aw),wr,#[eY aw q0,P5 aE],?_];let e:(2*(if p<0 then-p else p)+q)/(2*q)=oo p q:=by unfold oo;rw[<-Ew];rfl
  erw[Wk,wv];unfold kz at k;rw[<-e]at k;erw[eV (λhc=>?_) (λhc=>?_)]
  ·let hp:p>=0:=kg hc
   rw[aR hp]at k;erw[ww,k]
  ·let hp:¬p>=0:=λz=>hc (cy z)
   rw[aV hp]at k;erw[wp,k]
def Cm(ns:Ar)(k:Int):aj:=.tuple ((ns.map λz=>kz (k*z) (aF ns)).map PyData.int)
def Vz{k z:Int}(h:k.natAbs<=10^6)(g:(z.natAbs:Int)<=1000):(k*z).natAbs<=10^9:=by rw[ij];erw[cL (pO h (show z.natAbs<=1000 by lia)) aw]
inductive a3H|mk v ns sp k(_:vs=[v,.int k])(_:RD K H v (jk ns sp))(_:fU ⇑ns 1000 ns)(_:⇑ns<=1000)(_:k.natAbs<=10^6)(_:∀v' H',RD K H' v' (Cm ns k)->aI H H'->Q v' H')
def QU:bA ["line","k","lead"] ["line","k"] (aY T5):=bJ aP
def Kh(AA:a0q):a0n "stand_at" 2 a3H:=by
 exists AA.adb.has,QU,eQ λ_ _=>rfl
 ·let(v,ns,sp,kk,rfl,rd,ok,hz,hk,k):=h
  let nd:=QU.nd;erw[_,%[pS 2 nd (pf (uu AA) hr %[0|az]),(aQ (gY (x:="tuple") (pP K Z) Z (AA.B.at "tuple") gu %[gX (N:=["step","lead","k"]) (js:=[none,some 2,some 1]) rfl rfl rfl (qc K rfl (px K o0 aA)) (λ_ _ _ _ _=>(ba 0 (show List.Nodup (["step","lead","k"]:Ch) by decide+kernel))) (λ_ _ _ _ _=>fZ) (λ_ _ _ _ _=>(pf (a7R AA) hr %[aM bO w4 o0,1|az]))|az]))|aG],?_,B,ww,v,ns,sp,Z,rd,ok.ne,hz,λH1 s1=>?_];let(a,b,rfl,ha,hb):=pk (RD.sK s1 _ rd);let(lp,lm):=ok.lead;erw[ww,.inr #[a,_,1,.ref b,wP,ha,Z,b,Z,#[_,hb],λD H0 nw=>?_],B,Hw (K:=K) (xs:=ns.map V.int) (ds:=(ns.map λz=>kz (kk*z) (aF ns)).map PyData.int) _ hb nw (by simp) (by simpa using hz) (nA _) ?_ ?_]
  ·intro i x d H2 Q' ex ed s2 hq
   rw[List.map_map]at ed;let(n,en,rfl):=sx ed;cases Dl ex en;erw[Wp,.of_left (cB (_S.vX hk aw) (_S.qj hk aw)),ww,wT,eG (cf _) (_S.hJ lp),fW lm aw,Vz hk (ok.bd n (gA en)),?_,B,hq _ _ (aI.refl _) (eB _)]
  ·intro H' ys s2 d2 r2
   erw[D,ww,.inl #[aK.of d2,λt H4 n4=>?_],B,k _ _ (gD (aW.of n4.at') (aH.sK n4.ss _ r2)) (s1.ao (s2.ao n4.ss))]
end
section
def fH(ns:Ar)(j:Nat):Ar:=ns.map λz=>kz (((j:Int)+1)*z) (aF ns)-kz ((j:Int)*z) (aF ns)
def jy(ns:Ar):AC:=(List.range (aF ns)).map λj=>.tuple ((fH ns j).map PyData.int)
def CC(zs:Ar):eH (.tuple (zs.map PyData.int))=true:=by rw[eH];erw[nA zs]
def G1(ns:Ar):bR (jy ns)=true:=cA.mpr λd hd=>by let(j,_,rfl):=gS.mp hd;erw[CC _]
def G2(h:i<aF ns):(jy ns)[i]? =some (.tuple ((fH ns i).map PyData.int)):=by unfold jy;rw[bV,bf (by simpa using h),zW];rfl
def vL(ns:Ar):⇑(jy ns)=aF ns:=by simp[jy]
inductive a3N|mk v ns sp(_:vs=[v])(_:RD K H v (jk ns sp))(_:fU ⇑ns 1000 ns)(_:⇑ns<=1000)(_:∀l ys H',H l=none->H' l=some (.bi ys)->aH K H' ys (jy ns)->aI H H'->Q (.ref l) H')
def QY:bA ["line","rows","before","k","behind"] ["line"] (aY Ta):=bJ aP
def Ki(AA:a0q):a0n "step_rows" 3 a3N:=by
 exists AA.ad9.has,QY,fE λ_=>rfl
 ·let(v,ns,sp,rfl,rd,ok,hz,k):=h
  let nd:=QY.nd;let(lp,lm):=ok.lead;erw[_,%[pS 1 nd (cY az),pS 2 nd (pf (Kh AA) hr %[0,aA|az]),(gh fc Z (Kb Z (AA.B.at "range") %[aA,aM cM (pf (uu AA) hr %[0|az]) aA|az]) (ba 3 nd) %[pS 4 nd (pf (Kh AA) hr %[0,3|az]),(fe (ji K Z u8 %[(gY (x:="tuple") (pP K Z) Z (AA.B.at "tuple") gu %[gX (N:=["new","old"]) (js:=[none,none]) rfl rfl rfl (lH K rfl false false rfl (AA.B.at "zip") %[4,2|az]) (λ_ _ _ _ _=>(cX K rfl (n:=2) rfl %[ba 0 (hW aw),ba 1 (hW aw)|cW])) (λ_ _ _ _ _=>fZ) (λ_ _ _ _ _=>(aM ip o0 u8))|az])|az])),pS 2 nd M2|aG]),aQ u8|aG],?_,B,bM Z,λl H1 n1=>?_,B,ww,v,ns,sp,0,Z,RD.sK n1.ss _ rd,ok,hz,aw,λu H2 ru s2=>?_];let t2:=n1.ss.ao s2;erw[ww,v,ns,sp,Z,RD.sK t2 _ rd,ok.ne,hz,λH3 s3=>?_,B,wr,wT,#[aw,aw,_S.Eu (cf _) aw,_S.a0x lm aw],?_];let t3:=t2.ao s3;let e3:((aF ns:Int)+1-1).toNat=aF ns:=by lia
  erw[sQ (Pv:=λi O H4=>aI H H4/\(∃ys,H4 l=some (.bi ys)/\aH K H4 ys ((jy ns).take i))/\∃b v1 v2,RD K H4 b (Cm ns i)/\O=[some v,some (.ref l),some b,v1,v2]) ?_ ?_ ?_]
  ·erw[t3,#[[],s3 _ _ (s2 _ _ n1.at'),cQ],u,none,none,RD.sK s3 _ ru,Z]
  ·rintro i O H4 hi ⟨t4,⟨ys,dl,ry⟩,b,v1,v2,rb,rfl⟩
   erw[gH ?_];intro E1;let Bc:i<aF ns:=jf hi e3;erw[wp,v,ns,sp,ww,RD.sK t4 _ rd,ok,hz,aE,λb2 H5 JQ s5=>?_,B,ww,.inl #[Z,_,aK.of (s5 _ _ dl)],?_];let(a1,xs1,rfl,h1,q1):=JQ.cD;let e1:=q1.jm;subst e1;let(a0,xs0,rfl,h0,q0):=(RD.sK s5 _ rb).cD;let e0:=q0.jm;subst e0;erw[wp,a1,a0,Z,#[_,h1],#[_,h0],λD H6 nw=>?_,B,wL (K:=K) (b1:=false) (b2:=false) (ds:=(fH ns i).map PyData.int) [] rfl h1 h0 nw (by simp[fH]) (by simpa[fH]using hz) (nA _) ?_ ?_]
   ·intro j x y d H7 Q' ex ey ed s7 hq
    let(m,em,rfl):=sx ed;unfold fH at em;rw[bV]at em ex ey;rw[bV]at ex ey;cases en:ns[j]? with |none=>rw[en]at em;cases em |some n=>
     rw[en]at em ex ey;cases em;cases ex;cases ey;erw[Wp,?_];let ee:(1:Int)+(i:Int)=(i:Int)+1:=by lia
     rw[ee];erw[hq _ _ (aI.refl _) (eB _)]
   ·intro H7 zs s7 d7 r7
    erw[D,ww,.inl #[aK.of d7,λt H8 n8=>?_]];let mi:=s5.ao (s7.ao n8.ss);let Ed:=mi _ _ dl;let len:=⇑ry;rw[kH,vL]at len;erw[l,ys,ww,Z,Ed,zn]
    ·have:(1000:Nat)<sizeLine:=by decide
     lia
    erw[wv];let tt:fw H8 (_L.bn H8 l (.bi (ys++[.ref t]))):=.iB Ed;erw[λb o e=>?_,#[_,bQ,?_],xz,_,?_,Z]
    ·rw[aU (e9 e n1.no)];erw[mi b o (t4 b o e)]
    ·rw[mQ,G2 Bc]
     let nt:bR ((jy ns).take i)=true:=cA.mpr λd hd=>cA.mp (G1 ns) d (BR hd);exact(aH.t tt _ nt (aH.sK mi _ ry)).append %[RD.t tt _ (CC _) (gD (aW.of n8.at') (aH.sK n8.ss _ r7))|cQ]
    ·let ee:(1:Int)+(i:Int)=((i+1:Nat):Int):=by lia
     rw[ee]at JQ;erw[RD.t tt _ (CC _) (RD.sK (s7.ao n8.ss) _ JQ)]
  ·rintro O H4 ⟨t4,⟨ys,dl,ry⟩,b,v1,v2,rb,rfl⟩
   rw[e3,zT (by rw[vL];erw[aZ _])]at ry;erw[ww,k l ys H4 n1.no dl ry t4]
end
end _c
namespace _c
universe _L _d _l _C _P
open _O (oR na dL iN ce iF sB dO OkI OkIs)
section
def mK(H:Hp)(v:V):Option Rat->Prop |none=>v= .bP |some q=>bj H v q
theorem mK.go{H H':Hp}{v:V}:∀{o:Option Rat},mK H v o->aI H H'->mK H' v o |none,h,_=>h |some _,h,s=>bj.go h s
def bj.tt{v:V}(h:bj H v q)(s:fw H H'):bj H' v q:=by let(a,rfl,h):=h;erw[a,Z,h.t s]
def BF(n:Nat):Option Rat->Prop |none=>True |some q=>Bd n q
def iG(r f:Int)(e b:Option Rat):Da:=(0::e.toList.map λq=>q+((-f:Int):Rat))++b.toList.map λq=>q+((-r:Int):Rat)
def iJ(r f:Int)(bd:Rat)(e b:Option Rat):Da:=(bd::e.toList.map λq=>q+(r:Rat))++b.toList.map λq=>q+(f:Rat)
def jj(r f:Int)(bd:Rat)(e b:Option Rat):Bool:=!((iG r f e b).any λl=>(iJ r f bd e b).any λh=>decide (h<l))
theorem fT.tt{H H':Hp}(s:fw H H'):∀{vs:AT}{rs:Da},fT H vs rs->fT H' vs rs |[],[],_=>trivial |v::vs,q::rs,h=>#[h.1.tt s,h.2.1,fT.tt s h.2.2] |[],_::_,h=>h.elim |_::_,[],h=>h.elim
theorem fT.snoc{H:Hp}{v:V}{q:Rat}(hv:bj H v q)(hb:Bd 2000 q):∀{vs:AT}{rs:Da},fT H vs rs->fT H (vs++[v]) (rs++[q]) |[],[],_=>#[hv,hb,trivial] |v::vs,q::rs,h=>#[h.1,h.2.1,fT.snoc hv hb h.2.2] |[],_::_,h=>h.elim |_::_,[],h=>h.elim
def a0s{α:Type}(l:List α)(p:α->Bool)(g:Nat->Bool)(h:∀i x,l[i]? =some x->g i=p x):(List.range ⇑l).any g=l.any p:=by
 rw[tT,tP,tP];erw[λ#[i,hi,e]=>?_,λ#[x,hx,e]=>?_]
 ·let hi:=OE.mp hi
  erw[l[i],zX hi,by rw[<-h i _ (bf hi)];erw[e]]
 ·let(i,hi):=xA.mp hx
  erw[i,OE.mpr (ck.mp hi).1,by rw[h i x hi];erw[e]]
inductive Qv|mk m bv ev gv rs r f j t bd e b(_:vs=[m,bv,ev,gv])(_:RD K H m (fC rs r f j t))(_:fQ rs r f j t)(_:bj H bv bd)(_:Bd 1900 bd)(_:mK H ev e)(_:BF 1900 e)(_:mK H gv b)(_:BF 1900 b)(_:∀H',aI H H'->Q (.bl (jj r f bd e b)) H')
def Sv:bA ["machine","bound","ended","begun","rise","fall","lows","highs"] ["machine","bound","ended","begun"] (aY UE):=bJ aP
def Wn(AA:a0q):a0n "can_meet" 5 Qv:=by
 exists AA.adM.has,Sv,wX λ_ _ _ _=>rfl
 ·let(m,bv,ev,gv,rs,r,f,j,t,bd,e,b,rfl,rm,aJ,Rb,bb,Re,be,Rg,bg,k):=h
  let nd:=Sv.nd;let(aN,kQ,j7):=AA.zd;erw[_,%[rV (i:=4) (j:=5) Z nd Z Z aw Z Z %[px K o0 aA,px K o0 aA|az] Z,pS 6 nd (cY %[dY (x:="NOUGHT") Z kQ|az]),pS 7 nd (cY %[1|az]),(jQ (bp (bL qg w4 gM (bc _)) %[(fe (ji K Z W1 %[pf (ou AA) hr %[2,rX rH P3|az]|az])),(fe (ji K Z a0g %[pf (ou AA) hr %[2,4|az]|az]))|aG] bE)),(jQ (bp (bL qg L2 gM (bc _)) %[(fe (ji K Z W1 %[pf (ou AA) hr %[3,rX rH M2|az]|az])),(fe (ji K Z a0g %[pf (ou AA) hr %[3,5|az]|az]))|aG] bE)),(aQ (y6 (eR (x:="any") (a0t K Z Z) Z (AA.B.at "any") a1v %[a6Q (N:=["low","high","highs"]) (js:=[none,none,some 7]) rfl rfl rfl (qe K rfl W1) (λ_ _ _ _ _=>(ba 0 (show List.Nodup (["low","high","highs"]:Ch) by decide+kernel))) (λ_ _ _ _ _=>(qe K rfl w4)) (λ_ _ _ _ _=>(ba 1 (show List.Nodup (["low","high","highs"]:Ch) by decide+kernel))) (λ_ _ _ _ _=>(pf (CY AA) hr %[1,0|az]))|az])))|aG],?_];let(ma,mb,rfl,gk,mE):=nC rm;let fY:=aJ.r1;let da:=aJ.f1;erw[ww,.inr #[ma,_,1,.int r,wP,gk,WP,.inr #[ma,_,2,.int f,wP,gk,Z,_,wv]],B,bM Z,λl1 H1 n1=>?_,B,ww,bM Z,λl2 H2 n2=>?_];let l12:l1≠l2:=e9 n1.at' n2.no;let WB:H l1=none:=n1.no;let WA:H l2=none:=by cases e:H l2 with |none=>rfl |some o=>have:=n1.ss _ _ e;rw[n2.no]at this;cases this
  let R0:∀H',bj H' (.ref aN) 0:=λH'=>#[aN,Z,j7 H'];let b0:Bd 2000 (0:Rat):=#[aw,aw];let s2:=n1.ss.ao n2.ss;let ap:∀{H3:Hp}{l:Addr}{xs:AT}{v:V},H l=none->aI H H3->aI H (_L.bn H3 l (.bi (xs++[v]))):=λ{H3 l xs v} hn s3=>λq o eq=>by rw[aU (e9 eq hn)];erw[s3 _ _ eq]
  erw[λO H3=>aI H H3/\∃xs ys,H3 l1=some (.bi xs)/\H3 l2=some (.bi ys)/\fT H3 xs (0::e.toList.map λq=>q+((-f:Int):Rat))/\fT H3 ys (bd::e.toList.map λq=>q+(r:Rat))/\O=[some (.ref ma),some bv,some ev,some gv,some (.int r),some (.int f),some (.ref l1),some (.ref l2)],zn]
  ·erw[lW ?_];intro E1
   erw[ww,Z,wv];let V1:fT H2 [.ref aN] [0]:=#[R0 _,b0,trivial];let V2:fT H2 [bv] [bd]:=#[Rb.go s2,bb.sK aw,trivial];cases e with |none=>let e0:ev= .bP:=Re;subst e0;erw[aX #[s2,xz,n2.ss _ _ n1.at',n2.at',V1,V2,Z]] |some q=>
    let Re:bj H ev q:=Re;let be:Bd 1900 q:=be;let(ae,e0,he):=id Re;subst e0;erw[bB ?_];let d1:=n2.ss _ _ n1.at';erw[ww,.inl #[Z,_,aK.of d1],?_,B,ZB,.ref ae,q,ww,Re.go s2,be.sK aw,(by rw[jz];lia),λu1 H3 kK s3=>?_];let Eg:=s3 _ _ d1;erw[l1,_,u1,wP,Eg,bM Z,?_];let t3:fw H3 (_L.bn H3 l1 (.bi ([.ref aN]++[u1]))):=.iB Eg;let xT:=s2.ao s3;let Jp:=ap (l:=l1) (xs:=[.ref aN]) (v:=u1) WB xT;let d2:(_L.bn H3 l1 (.bi ([.ref aN]++[u1]))) l2=some (.bi [bv]):=by rw[aU l12.symm];erw[s3 _ _ n2.at']
    let Ef:(_L.bn H3 l1 (.bi ([.ref aN]++[u1]))) l1=some (.bi ([.ref aN]++[u1])):=bQ;let Ez:fT (_L.bn H3 l1 (.bi ([.ref aN]++[u1]))) ([.ref aN]++[u1]) ([0]++[q+((-f:Int):Rat)]):=(fT.snoc kK ((jG be (by rw[jz];lia)).sK aw) (V1.go s3)).tt t3;let Ey:=(V2.go s3).tt t3;let Re4:=Re.go Jp;generalize _L.bn H3 l1 (.bi ([.ref aN]++[u1]))=H4 at Jp d2 Ef Ez Ey Re4⊢;erw[ww,.inl #[Z,_,aK.of d2],?_,B,wp,.ref ae,q,ww,Re4,be.sK aw,(by rw[jz];erw[_S.uA fY.1 fY.2 aw]),λu2 H5 pW s5=>?_];let Bt:=s5 _ _ d2;erw[l2,_,u2,wP,Bt,bM Z,?_];let t5:fw H5 (_L.bn H5 l2 (.bi ([bv]++[u2]))):=.iB Bt;erw[ap (l:=l2) WA (Jp.ao s5),xz,(aU l12).ao (s5 _ _ Ef),bQ,(Ez.go s5).tt t5,(fT.snoc pW ((jG be (by rw[jz];erw[_S.uA fY.1 fY.2 aw])).sK aw) (Ey.go s5)).tt t5,Z]
  rintro O H3 ⟨s3,xs,ys,d1,d2,V1,V2,rfl⟩;let lx:=⇑V1;let ly:=⇑V2;let le:⇑e.toList<=1:=by cases e<;>simp
  let Dv:⇑xs<=2:=by rw[lx,kY,bC];erw[jv le]
  let yI:⇑ys<=2:=by rw[ly,kY,bC];erw[jv le]
  erw[λO H4=>aI H H4/\∃xs ys,H4 l1=some (.bi xs)/\H4 l2=some (.bi ys)/\fT H4 xs (iG r f e b)/\fT H4 ys (iJ r f bd e b)/\O=[some (.ref ma),some bv,some ev,some gv,some (.int r),some (.int f),some (.ref l1),some (.ref l2)],zn]
  ·erw[lW ?_];intro E2
   erw[ww,Z,wv];cases b with |none=>let e0:gv= .bP:=Rg;subst e0;erw[aX #[s3,xz,d1,d2,by unfold iG;simpa using V1,by unfold iJ;simpa using V2,Z]] |some q=>
    let Rg:bj H gv q:=Rg;let bg:Bd 1900 q:=bg;let(ae,e0,he):=id Rg;subst e0;erw[bB ?_,B,ww,.inl #[Z,_,aK.of d1],?_,B,ZB,.ref ae,q,ww,Rg.go s3,bg.sK aw,(by rw[jz];lia),λu1 H4 kK s4=>?_];let Eg:=s4 _ _ d1;erw[l1,_,u1,wP,Eg,xS _ (cL Dv aw),?_];let t4:fw H4 (_L.bn H4 l1 (.bi (xs++[u1]))):=.iB Eg;let s34:=s3.ao s4;let Jo:=ap (l:=l1) (xs:=xs) (v:=u1) WB s34;let Bt:(_L.bn H4 l1 (.bi (xs++[u1]))) l2=some (.bi ys):=by rw[aU l12.symm];erw[s4 _ _ d2]
    let Ef:(_L.bn H4 l1 (.bi (xs++[u1]))) l1=some (.bi (xs++[u1])):=bQ;let Ez:=(fT.snoc kK ((jG bg (by rw[jz];lia)).sK aw) (V1.go s4)).tt t4;let Ey:=(V2.go s4).tt t4;let Rg5:=Rg.go Jo;generalize _L.bn H4 l1 (.bi (xs++[u1]))=H5 at Jo Bt Ef Ez Ey Rg5⊢;erw[ww,.inl #[Z,_,aK.of Bt],?_,B,wp,.ref ae,q,ww,Rg5,bg.sK aw,(by rw[jz];erw[_S.uA da.1 da.2 aw]),λu2 H6 pW s6=>?_];let ZI:=s6 _ _ Bt;erw[l2,_,u2,wP,ZI,xS _ (cL yI aw),?_];let t6:fw H6 (_L.bn H6 l2 (.bi (ys++[u2]))):=.iB ZI;erw[ap (l:=l2) WA (Jo.ao s6),xz,(aU l12).ao (s6 _ _ Ef),bQ,(Ez.go s6).tt t6,(fT.snoc pW ((jG bg (by rw[jz];erw[_S.uA da.1 da.2 aw])).sK aw) (Ey.go s6)).tt t6,Z]
  rintro O H4 ⟨s4,xs,ys,d1,d2,V1,V2,rfl⟩;let lx:=⇑V1;let ly:=⇑V2;let lb:⇑b.toList<=1:=by cases b<;>simp
  let Dv:⇑xs<=3:=by rw[lx];unfold iG;rw[cH,kY,bC,bC];lia
  let yI:⇑ys<=3:=by rw[ly];unfold iJ;rw[cH,kY,bC,bC];lia
  erw[ww,l1,Z,#[_,aK.of d1],λD H5 n5=>?_,B,afm (K:=K) (b:=λi j=>((iJ r f bd e b)[j]?.bind λh=>(iG r f e b)[i]?.map λl=>decide (h<l)).getD false) _ (aK.of d1) (aK.of d2) n5 (cL (pO Dv yI) aw) ?_ ?_ ?_]
  ·intro x v H6 R s6 hR
   erw[ww,l2,Z,#[_,aK.of (s6 _ _ d2)],hR]
  ·intro i j' x y H6 Q' ex ey s6 hq
   let(l,el,Rl,bl):=V1.get ex;let(h,eh,Rh,bh):=V2.get ey;let hq:=hq H6 (aI.refl _);rw[el,eh]at hq;erw[wp,y,x,h,l,Z,Rh.go s6,Rl.go s6,bh,bl,hq]
  ·intro H6 s6 d6
   erw[D,ww,aK.of d6,?_];let ea:(((List.range ⇑xs).flatMap λi=>(List.range ⇑ys).map λj=>((iJ r f bd e b)[j]?.bind λh=>(iG r f e b)[i]?.map λl=>decide (h<l)).getD false)).any id=(iG r f e b).any λl=>(iJ r f bd e b).any λh=>decide (h<l):=by rw[agh,lx,ly];erw[a0s _ _ _ λi l el=>a0s _ _ _ λj' h eh=>?_];rw[el,eh];rfl
   rw[ea];erw[ww,k H6 (s4.ao s6)]
def FN(cV:Ar)(t:Int)(q:Rat):aj:=.tuple [.str "step",.tuple (cV.map PyData.int),.int t,cI q]
def Ck{v:V}{t:Int}(h:RD K H v (FN zs t q)):∃a b c,v= .ref a/\aW K H a [.str "step",.ref b,.int t,c]/\aW K H b (zs.map V.int)/\bj H c q:=by let(a,xs,rfl,hx,hd):=h.cD;let(u1,ys,rfl,r1,hd):=hd.cons_inv;let(u2,ys,rfl,r2,hd):=hd.cons_inv;let(u3,ys,rfl,r3,hd):=hd.cons_inv;let(u4,ys,rfl,r4,hd):=hd.cons_inv;cases hd.nil_inv;cases r1.str_inv;cases r3.int_inv;let(b,bs,rfl,hb,hbs):=r2.cD;rw[hbs.jm]at hb;let(c,cs,rfl,hc,sI):=r4.cD;let(c1,cr,rfl,e1,sI):=sI.cons_inv;let(c2,cr,rfl,e2,sI):=sI.cons_inv;cases sI.nil_inv;cases e1.int_inv;cases e2.int_inv;erw[a,b,ww,hx,hb,c,Z,hc]
inductive Qg|mk m sq rs r f j ti t q(_:vs=[m,.int t,sq])(_:RD K H m (fC rs r f j ti))(_:bj H sq q)(_:Bd 2000 q)(_:1<=ti)(_:ti<=100)(_:0<q)(_:1<=t)(_:t.natAbs<2^2400)(_:fh ti q t=true)(sM:fh ti q (t-1)=false)(zb:∀H',aI H H'->Q (.bl true) H')
def QJ:bA ["machine","t","square"] ["machine","t","square"] (aY SN):=bJ aP
def a7r(AA:a0q)(DM:a0n "are_enough" 1 Jg):a0n "is_timed" 3 Qg:=by
 exists AA.adw.has,QJ,ka λ_ _ _=>rfl
 ·let(m,sq,rs,r,f,j,ti,t,q,rfl,rm,Rq,bq,FE,Pm,q0,t1,t2,uV,MJ,k):=h
  let nd:=QJ.nd;let(aN,kQ,j7):=AA.zd;erw[_,%[bp (PW.pt (iQ (dN (cg (pf (ye AA) hr %[1|az]))) (iQ (bL jS u8 aA (bc _)) (iQ (dN (cg (pf (a81 AA) hr %[2|az]))) (lC (dN (cg (pf (CY AA) hr %[dY (x:="NOUGHT") Z kQ,2|az])))))))) (aG (aQ jB)) bE,aQ (iE (pf DM hr %[0,2,1|az]) (iR (y6 (pf DM hr %[0,2,aM ip u8 aA|az]))))|aG],?_,B,ww,wT,(eB (K:=K) (H:=H) t).ty,wv];rw[show jD (lg (.int t))=true from(by decide:jD "int"=true)];erw[aX #[Wk,wv]];rw[dh (zY t1)];erw[aX ?_,B,ww,sq,q,Z,Rq,ww,aX ?_,B,ww,.ref aN,sq,0,q,Z,#[aN,Z,j7 H],Rq,#[aw,aw],bq,wv];rw[cy q0];erw[aX ?_,B,ZB,m,sq,t,rs,r,f,j,ti,q,Z,rm,Rq,bq,FE,Pm,_S.dE t1,t2,?_];rw[uV];erw[ww,bB ?_,B,ZB,wr,m,sq,t-1,rs,r,f,j,ti,q,Z,rm,Rq,bq,FE,Pm,C0 t1,bI,?_];rw[MJ];erw[ww,k H (aI.refl _)]
inductive a3K|mk v u zs t q(_:vs=[v,u])(_:RD K H v (.tuple (zs.map PyData.int)))(_:RD K H u (FN zs t q))(_:⇑zs<=1000)(_:∀H',aI H H'->Q (.bl true) H')
def QV:bA ["row","entry"] ["row","entry"] (aY T7):=bJ aP
def a7w(AA:a0q):a0n "is_step_with" 2 a3K:=by
 exists AA.adx.has,QV,eQ λ_ _=>rfl
 ·let(v,u,zs,t,q,rfl,rv,ru,lz,k):=h
  let nd:=QV.nd;erw[_,%[bp (PW.pt (iQ (dN (cg (dk K AA.B %[1,cS (x:="tuple") (v:=.ty "tuple") Z (AA.B.at "tuple") gu rfl|az]))) (iQ (bL (j9 K rfl hr.units) (dC K AA.B %[1|az]) aA (bc _)) (lC (bL (j9 K rfl hr.units) (px K u8 aA) fA (bc _)))))) (aG (aQ jB)) bE,(aQ (iE (fN (cJ K Z hr.units) (px K u8 aA) o0 (bc _)) (iR (eR (x:="all") (vh K Z Z) Z (AA.B.at "all") xq %[gX (N:=["number"]) (js:=[none]) rfl rfl rfl (qc K rfl (px K u8 aA)) (λ_ _ _ _ _=>(ba 0 (uz _))) (λ_ _ _ _ _=>fZ) (λ_ _ _ _ _=>(pf (ye AA) hr %[0|az]))|az]))))|aG],?_];let(a,b,c,rfl,h1,h2,h3):=Ck ru;erw[ww,.inl #[xz,"tuple",true,Z,ru.ty,aw,rJ,ww,aX ?_],B,ww,a,ww,.inr h1,.inl #[wr,ww,aX ?_],B,ww,.inr #[a,_,0,.str "step",wP,h1,Z,.inr #[xz,cF _,cF _,aP,aP,wv]]];rw[uU,show ir "step" (.str "step")=true by decide+kernel];erw[aX ?_];let ok:eX 1 (.tuple (zs.map PyData.int)):=iP.tup (n:=0) λd hd=>by let(i,_,rfl):=gS.mp hd;erw[.int i]
  erw[ww,.inr #[a,_,1,.ref b,wP,h1,WP,.inr #[xz,gD h2 (vP zs),rv,ok.shaped aw,ok.shaped aw,?_]]];rw[ok.refl];erw[ww,bB ?_,B,ww,.inr #[a,_,1,.ref b,wP,h1,Z,b,Z,#[_,h2],λD H2 n2=>?_],B,Hx (xs:=zs.map V.int) (bs:=zs.map λ_=>true) [] h2 n2 (by simp) (by simp;omega) ?_ ?_]
  ·intro i x y H3 Q' ex ey s3 hq
   rw[bV]at ex ey;let(z,ez,rfl):=zR.mp ex;rw[ez]at ey;cases ey;erw[ww,wT,(eB (K:=K) (H:=H3) z).ty,?_];rw[show jD (lg (.int z))=true from(by decide:jD "int"=true)];erw[hq _ (aI.refl _)]
  ·intro H3 s3 d3
   erw[D,ww,aK.of d3,?_];let e:(zs.map λ_=>true).all id=true:=jw.mpr λx hx=>by let(_,_,rfl):=gS.mp hx;rfl
   rw[e];erw[k H3 s3]
def kG(zs:Ar)(top:Rat):aj:=.tuple [.str "step",.tuple (zs.map PyData.int),cI top]
inductive Qt|mk m xv ev rs r f j ti(_:vs=[m,xv,ev])(_:RD K H m (fC rs r f j ti))(_:fQ rs r f j ti)(_:((∃d,RD K H xv d/\RD K H ev d/\iM d/\∀H',aI H H'->Q .bP H')\/ ∃zs top t q,RD K H xv (kG zs top)/\RD K H ev (FN zs t q)/\⇑zs<=1000/\Bd 2000 top/\Bd 2000 q/\0<q/\1<=t/\t.natAbs<2^2400/\fh ti q t=true/\fh ti q (t-1)=false/\∀H',aI H H'->Q (if top<q then .int 3 else .bP) H'))
def Sl:bA ["machine","expected","entry","word","row","top"] ["machine","expected","entry"] (aY Ux):=bJ aP
def a88(AA:a0q)(abk:a0n "is_timed" 3 Qg):a0n "fault_of_entry" 5 Qt:=by
 exists AA.adI.has,Sl,ka λ_ _ _=>rfl
 ·let(m,xv,ev,rs,r,f,j,ti,rfl,rm,aJ,hc):=h
  let nd:=Sl.nd;erw[_,%[bp (bL (j9 K Z hr.units) (px K u8 aA) fA (bc _)) (aG (aQ (y8 (PW.pt (nu (cg (pf (Wj AA) hr %[0,2|az])) (pX (bL (cJ K Z hr.units) w4 u8 (bc _))))) gM (dY (x:="NOT_DUE") Z AA.DR)))) bE,fz u8 (cX K Z (n:=3) Z %[ba 3 nd,ba 4 nd,ba 5 nd|cW]),bp (dN (cg (pf (a7w AA) hr %[4,2|az]))) (aG (aQ (dY (x:="NOT_DUE") Z AA.DR))) bE,bp (dN (cg (pf abk hr %[0,px K w4 aA,px K w4 aA|az]))) (aG (aQ (dY (x:="WRONG_TICKS") Z AA.acw))) bE,aQ (y8 (cg (pf (CY AA) hr %[5,px K w4 aA|az])) (dY (x:="ABOVE_TOP") Z AA.acG) gM)|aG],?_];rcases hc with⟨d,rx,re,eU,k⟩|⟨zs,top,t,q,rx,re,lz,bt,bq,q0,t1,t2,uV,MJ,k⟩
  ·obtain⟨wd,u,rfl,hw⟩:∃wd u,d= .tuple [.str wd,u]/\ir "step" (.str wd)=false:=by
    rcases eU with⟨n,rfl,_,_⟩|⟨wd,z,rfl,hw,_,_⟩
    ·erw["wait",ww,aP]
    ·erw[wd,wv]
     rcases hw with rfl|rfl<;>decide+kernel
   let(i1,i2,i3):=BH.is (n:=⇑rs) (d:=.tuple [.str wd,u]) (o:=none) #[eU.it,(λ_ _ z=>nomatch z),λ_=>eU];let(a,xs,rfl,h1,hd):=id rx.cD;let(u1,ys,rfl,e1,hd):=hd.cons_inv;cases e1.str_inv;let lr:=aJ.len;erw[ww,.inr #[a,_,0,.str wd,wP,h1,cn (dU 0) Z,.inr #[xz,cF _,cF _,mh (AG i2 (by simp)),aP,wv]]];rw[uU,hw];erw[bB #[wp,m,ev,rs,[PyData.int r,.int f,.int j,.int ti],ww,rm,re,_S.kM lr aw aw,i2,i3,λH1 s1=>?_]];rw[i1];erw[ww,bB ?_,B,wp,.inr #[xz,RD.sK s1 _ re,RD.sK s1 _ rx,mh i2,mh i2,wv]];rw[eqv_refl _ i2.lay];erw[bB (k H1 s1)]
  ·let(a,b,c,rfl,h1,h2,h3):=Ck re
   let(x,xs,rfl,g1,hd):=id rx.cD;let(u1,ys,rfl,e1,hd):=hd.cons_inv;let(u2,ys,rfl,e2,hd):=hd.cons_inv;let(u3,ys,rfl,e3,hd):=hd.cons_inv;cases hd.nil_inv;cases e1.str_inv;let(tp,ts,rfl,ht,iH):=e3.cD;let(c1,cr,rfl,q1,iH):=iH.cons_inv;let(c2,cr,rfl,q2,iH):=iH.cons_inv;cases iH.nil_inv;cases q1.int_inv;cases q2.int_inv;let Rt':bj H (.ref tp) top:=#[tp,Z,ht];erw[ww,.inr #[x,_,0,.str "step",wP,g1,cn (dU 0) Z,.inr #[xz,cF _,cF _,aP,aP,wv]]];rw[uU,show ir "step" (.str "step")=true by decide+kernel];erw[aX ?_,B,ww,x,ww,g1,Z,xz,wE,B,wp,u2,.ref a,zs,t,q,Z,e2,re,lz,λH1 s1=>#[ww,aX ?_],B,wp,.inr #[a,_,2,.int t,wP,h1.go s1,WP,.inr #[a,_,3,c,wP,h1.go s1,Z,?_]],B,m,c,rs,r,f,j,ti,t,q,Z,RD.sK s1 _ rm,h3.go s1,bq,aJ.t1.1,aJ.t1.2,q0,t1,t2,uV,MJ,λH2 s2=>#[ww,aX ?_]];let gK:=s1.ao s2;erw[wp,.inr #[a,_,3,c,wP,h1.go gK,Z,?_],B,.ref tp,c,top,q,Z,Rt'.go gK,h3.go gK,bt,bq,wv];let k:=k H2 gK;by_cases bu:top<q
   ·rw[aR bu]at k
    rw[cy bu];erw[bB k]
   ·rw[aV bu]at k
    rw[dh bu];erw[aX k]
inductive a3L|mk ev(_:vs=[ev])(_:((∃d,RD K H ev d/\iM d/\Q .bP H)\/∃zs t q,RD K H ev (FN zs t q)/\∀v,bj H v q->Q v H))
def QW:bA ["entry"] ["entry"] (aY T8):=bJ aP
def a7y(AA:a0q):a0n "square_of" 1 a3L:=by
 exists AA.ade.has,QW,fE λ_=>rfl
 ·let(ev,rfl,hc):=h
  let nd:=QW.nd;erw[_,(aG (aQ (y8 (bL (cJ K Z hr.units) (px K o0 aA) fA (bc _)) (px K o0 aA) gM))),?_];rcases hc with⟨d,re,eU,k⟩|⟨zs,t,q,re,k⟩
  ·obtain⟨wd,u,rfl,hw,hs⟩:∃wd u,d= .tuple [.str wd,u]/\ir "step" (.str wd)=false/\SeqAt.shaped (.str wd)=true:=by
    rcases eU with⟨n,rfl,_,_⟩|⟨wd,z,rfl,hw,_,_⟩
    ·erw["wait",ww,aP,aP]
    ·erw[wd,wv]
     rcases hw with rfl|rfl<;>erw[aP,aP]
   let(a,xs,rfl,h1,hd):=id re.cD;let(u1,ys,rfl,e1,hd):=hd.cons_inv;cases e1.str_inv;erw[ww,.inr #[a,_,0,.str wd,wP,h1,cn (dU 0) Z,.inr #[xz,cF _,cF _,hs,aP,wv]]];rw[uU,hw];erw[aX k]
  ·let(a,b,c,rfl,h1,h2,h3):=Ck re
   erw[ww,.inr #[a,_,0,.str "step",wP,h1,Z,.inr #[xz,cF _,cF _,aP,aP,wv]]];rw[uU,show ir "step" (.str "step")=true by decide+kernel];erw[bB #[ww,.inr #[a,_,3,c,wP,h1,Z,k _ h3]]]
end
section
inductive a4j|mk m iv l ys rs r f j t ds os g(_:vs=[m,iv,.ref l])(_:RD K H m (fC rs r f j t))(_:fQ rs r f j t)(_:RD K H iv (.tuple ds))(_:cj ⇑rs ds os)(_:⇑ds<=30)(_:H l=some (.bi ys))(_:aH K H ys ((bi ⇑os g).map cI))(_:(∀i,i<=⇑os->Bd 900 (g i)))(_:∀l ys H',H l=none->H' l=some (.bi ys)->aH K H' ys ((bi ⇑os (fl ⇑os (sB os) (2*f) g)).map cI)->aI H H'->Q (.ref l) H')
def FX:bA ["machine","items","squares","fall","kept","i"] ["machine","items","squares"] (aY Uw):=bJ aP
def a8a(AA:a0q):a0n "kept_by_fall" 5 a4j:=by
 erw[AA.YL.has FX (λvs H Q E h=>?_) (λ_ _ _ _ _ _=>ka λ_ _ _=>rfl) (λfa aO A outer s H vs Q E hr h=>?_)]
 · let(m,iv,l,ys,rs,r,f,j,t,ds,os,g,rfl,_):=h
   rfl
 · let(m,iv,l,ys,rs,r,f,j,t,ds,os,g,rfl,rm,aJ,ri,row,hz,dl,kL,bg,k):=h
   let nd:=FX.nd;erw[_,%[pS 3 nd (px K o0 aA),pS 4 nd (gY (x:="list") (yE K Z) Z (AA.B.at "list") jt %[2|az]),(gh fc Z (VG Z (AA.B.at "reversed") %[(gY (x:="range") ZZ rfl (AA.B.at "range") SC %[dC K AA.B %[1|az]|az])|az]) (ba 5 nd) (aG (bp (cg (pf (si AA) hr %[px K u8 P3|az])) (aG (fz (pf (yd AA) hr %[(cY %[px K M2 P3,(pf (ou AA) hr %[px K M2 (aM cM P3 aA),aM bO (aM bO aA L2) (pf (uu AA) hr %[px K u8 P3|az])|az])|az])|az]) (rW M2 P3 set_list))) bE))),aQ M2|aG],?_];let(ma,mb,rfl,gk,mE):=nC rm;let(ia,xs,rfl,hi,dP):=ri.cD;let lx:=⇑dP;let ll:=row.len;let lr:=aJ.len;let hL:∀i m,sB os i=some m->(2*f*(m:Int)).natAbs<2^24:=λi m e=>A7 aJ.f1.1 aJ.f1.2 (AZ row.ow e);let FB:∀i,i<=⇑os->Bd 1700 (fl ⇑os (sB os) (2*f) g i):=λi hi=>(Me bg hL i hi).sK aE;erw[ww,.inr #[ma,_,2,.int f,wP,gk,Z,?_],B,ww,l,ys,Z,.inl (aK.of dl),λD H1 n1=>?_,B,ww,ia,ww,.inr (hi.go n1.ss),ww,λpr H2 n2=>?_,B,pr,ww,n2.at',cf _,aE,?_];let eN:((⇑xs:Int)).toNat=⇑os:=oY (IE _) (oY lx ll);rw[eN];erw[YA (Pv:=λi O H5=>aI H H5/\∃zs v1,H5 D=some (.bi zs)/\aH K H5 zs ((bi ⇑os λk=>if ⇑os<=k+i then fl ⇑os (sB os) (2*f) g k else g k).map cI)/\O=[some (.ref ma),some (.ref ia),some (.ref l),some (.int f),some (.ref D),v1]) ?_ ?_ ?_]
   · erw[n1.ss.ao n2.ss,ys,none,n2.ss _ _ n1.at',?_,Z]
     rw[uE (g:=λk=>if ⇑os<=k+0 then fl ⇑os (sB os) (2*f) g k else g k) (g':=g)]
     ·erw[aH.sK (n1.ss.ao n2.ss) _ kL]
     · intro k hk
       show g k=if ⇑os<=k+0 then _ else g k;split
       · next h => have:k=⇑os:=iY hk (_S.B5 h Z)
                   subst this;erw[sR.symm]
       ·rfl
   · rintro i O H3 nK ⟨s3,zs,v1,dz,rz,rfl⟩
     erw[gH ?_];intro E1;obtain⟨x,hx⟩:∃x,xs[⇑os-1-i]? =some x:=#[_,bf (show ⇑os-1-i<⇑xs by lia)];generalize hc:⇑os-1-i=c at hx;let cU:c<⇑os:=by lia
     let eI:((⇑os:Int)-1-(i:Int))=(c:Int):=by lia
     rw[eI];let(d,ed,rd):=dP.get' c hx;let(o,eo,it):=row.get ed;let lz:=⇑rz;rw[bC,sy]at lz;let Et:fj xs (c:Int)=some x:=cn (cf _) (by simpa using hx);erw[wp,.inr #[ia,_,wr,hi.go s3,Et,?_],B,x,d,o,Z,RD.sK s3 _ rd,it,wv];cases o with
     |none=>
       erw[aX ?_,B,s3,zs,_,dz,?_,Z];rw[uE (g:=λk=>if ⇑os<=k+(i+1)then fl ⇑os (sB os) (2*f) g k else g k) (g':=λk=>if ⇑os<=k+i then fl ⇑os (sB os) (2*f) g k else g k)]
       ·erw[rz]
       · intro k _
         show(if ⇑os<=k+i then _ else g k)=if ⇑os<=k+(i+1)then _ else g k;by_cases h1:⇑os<=k+i
         ·rw[aR h1,aR (cL h1 (Iy (jg _ _) _))]
         · rw[aV h1]
           by_cases h2:k=c
           ·subst h2;rw[aR aE,qI cU (Lc eo)]
           ·rw[aV aE] |some q=>
       let(ns,sp):=q;erw[bB ?_];let iU:=kB it;subst iU;let(bX,_,_):=row.ok c ns sp eo;obtain⟨z1,qJ⟩:∃z,zs[c+1]? =some z:=#[_,bf (show c+1<⇑zs from _S.fD (jv cU) lz)];obtain⟨z0,kR⟩:∃z,zs[c]? =some z:=#[_,bf (show c<⇑zs from _S.fD (_S.BA cU) lz)];let R1:bj H3 z1 (fl ⇑os (sB os) (2*f) g (c+1)):=by
        let(d1,e1,r1):=rz.get' (c+1) qJ;rw[bV,pj _ (show c+1<=⇑os from cU)]at e1;cases e1;have:⇑os<=c+1+i:=by lia
        simp only[aR this]at r1;erw[jP r1]
       let R0:bj H3 z0 (g c):=by
        let(d1,e1,r1):=rz.get' c kR;rw[bV,pj _ (show c<=⇑os from cw cU)]at e1;cases e1;have:¬⇑os<=c+i:=by lia
        simp only[aV this]at r1;erw[jP r1]
       let sZ:((c:Int)+1).toNat=c+1:=rfl;let pL:fj zs ((c:Int)+1)=some z1:=cn (gT (C4 (cf _))) (by rw[sZ];erw[qJ]);let iV:fj zs (c:Int)=some z0:=cn (cf _) (by simpa using kR);erw[wp,.inl #[D,_,wr,aK.of dz,iV,?_],B,Wp,.inl #[D,_,wr,aK.of dz,pL,?_],B,Wk,.of_left (cB aw aw),?_,B,wp,.inr #[ia,_,wr,hi.go s3,Et,?_],B,x,ns,sp,Z,RD.sK s3 _ rd,bX.ne,by rw[bX.len];erw[_S.kM lr aw aw],λH4 s4=>?_];let da:=aJ.f1;erw[wr,.of_left (cB (_S.AS da.1 aw) (_S.AR da.2 aw)),?_];let us:=hL c _ (AY eo);erw[z1,wT,R1.go s4,(FB (c+1) cU).sK aw,us,λu H5 ru s5=>?_,B,bM Z,λl2 H6 n6=>?_];let kx:=s4.ao (s5.ao n6.ss);let EE:=R0.go kx;let Ru:=ru.go n6.ss;let B1:Bd 2000 (g c):=(bg _ (cw cU)).sK aw;let B2:Bd 2000 (fl ⇑os (sB os) (2*f) g (c+1)+((2*f*(aF ns:Int):Int):Rat)):=(jG (FB (c+1) cU) us).sK aw;erw[l2,[z0,u],[_,_],Z,aK.of n6.at',#[EE,B1,Ru,B2,trivial],by simp,λc' v q e1 e2 hq=>?_];let oE:mn (g c) (fl ⇑os (sB os) (2*f) g (c+1)+((2*f*(aF ns:Int):Int):Rat))=q:=by
        erw[uD ?_ (hq _ (by simp)) (hq _ (by simp))]
        match c',e2 with |0,e2=>cases e2;erw[.inl rfl] |1,e2=>cases e2;erw[.inr rfl]
       let Rv:bj H6 v q:=by match c',e1,e2 with |0,e1,e2=>cases e1;cases e2;erw[EE] |1,e1,e2=>cases e1;cases e2;erw[Ru]
       let qM:=kx _ _ dz;let Li:iS ⇑zs (c:Int)=some c:=by unfold iS;rw[aR (cf _),aR (_S.hJ (_S.fD (_S.BA cU) lz))];simp
       erw[wp,D,zs,wr,qM,Li,?_,B,λb o e=>?_,xz,bQ,?_,Z]
       ·rw[aU (e9 e n1.no)];erw[kx b o (s3 b o e)]
       · let h:=aH.Ag (i:=c) qM (aH.sK kx _ rz) Rv.rd (p9 _) (p7 _)
         rw[<-zV]at h;let e:(bi ⇑os λk=>if ⇑os<=k+i then fl ⇑os (sB os) (2*f) g k else g k).set c q=bi ⇑os λk=>if ⇑os<=k+(i+1)then fl ⇑os (sB os) (2*f) g k else g k:=by
          rw[<-KO (g:=λk=>if ⇑os<=k+i then fl ⇑os (sB os) (2*f) g k else g k) (g':=λk=>if ⇑os<=k+(i+1)then fl ⇑os (sB os) (2*f) g k else g k) (i:=c)]
          · have:⇑os<=c+(i+1):=by lia
            simp only[aR this];rw[pH cU (AY eo),oE]
          · intro k _ hk
            show(if ⇑os<=k+(i+1)then _ else g k)=if ⇑os<=k+i then _ else g k;by_cases h1:⇑os<=k+i
            ·rw[aR h1,aR (cL h1 (Iy (jg _ _) _))]
            ·rw[aV h1,aV aE]
         rw[e]at h;erw[h]
   · rintro O H3 ⟨s3,zs,v1,dz,rz,rfl⟩
     rw[uE (g:=λk=>if ⇑os<=k+⇑os then fl ⇑os (sB os) (2*f) g k else g k) (g':=fl ⇑os (sB os) (2*f) g) (λk hk=>by show _=if ⇑os<=k+⇑os then _ else _;rw[aR (vv _ _)])]at rz;erw[ww,k D zs H3 n1.no dz rz s3]
def dX(r f j tz:Int)(os:BT):Nat->Rat:=lG ⇑os (iF j tz os) (sB os) (2*r) (2*f)
def K6(r f j tz:Int)(os:BT):Da:=bi ⇑os (dX r f j tz os)
def a6z(r f j tz:Int)(os:BT):⇑(K6 r f j tz os)=os.length+1:=sy _ _
inductive a3Y|mk m iv tz rs r f j t ds os(_:vs=[m,iv,.int tz])(_:RD K H m (fC rs r f j t))(_:fQ rs r f j t)(_:RD K H iv (.tuple ds))(_:cj ⇑rs ds os)(_:⇑ds<=30)(_:10<=tz)(_:tz<=200)(_:∀l ys H',H l=none->H' l=some (.bi ys)->aH K H' ys ((K6 r f j tz os).map cI)->aI H H'->Q (.ref l) H')
def Ry:bA ["machine","items","rate","risen"] ["machine","items","rate"] (aY TL):=bJ aP
def a7M(AA:a0q):a0n "plan_of" 9 a3Y:=by
 exists AA.adi.has,Ry,ka λ_ _ _=>rfl
 ·let(m,iv,tz,rs,r,f,j,t,ds,os,rfl,rm,aJ,ri,row,hz,bN,bS,k):=h
  let nd:=Ry.nd;erw[_,%[(pS 3 nd (pf (a7F AA) hr %[0,1,pf (Wf AA) hr %[0,1,2|az]|az])),aQ (pf (a8a AA) hr %[0,1,3|az])|aG],?_];let ll:=row.len;let hB:=_O.CK aJ.j1.1 aJ.j1.2 bN bS row.ow;let hL:∀i m,sB os i=some m->(2*r*(m:Int)).natAbs<2^24:=λi m e=>A7 aJ.r1.1 aJ.r1.2 (AZ row.ow e);erw[ZB,wp,m,iv,tz,rs,r,f,j,t,ds,os,Z,rm,aJ,ri,row,bI,bN,bS,λl1 y1 H1 sj d1 r1 s1=>?_,B,m,iv,l1,y1,rs,r,f,j,t,ds,os,iF j tz os,Z,RD.sK s1 _ rm,aJ,RD.sK s1 _ ri,row,hz,d1,r1,hB,λl2 y2 H2 uy d2 r2 s2=>?_];let gK:=s1.ao s2;erw[ZB,m,iv,l2,y2,rs,r,f,j,t,ds,os,ww,RD.sK gK _ rm,aJ,RD.sK gK _ ri,row,hz,d2,r2,λi hi=>(HM hB hL i).sK bI,λl3 y3 H3 yn d3 r3 s3=>?_];let nl:H l3=none:=by cases e:H l3 with |none=>rfl |some o=>have:=gK _ _ e;rw[yn]at this;cases this
  erw[k l3 y3 H3 nl d3 r3 (gK.ao s3)]
end
end _c
namespace _c
universe _L _d _l _W
section
def RowW(ds:AC)(os:BT):Prop:=∀(i:Nat)(d:aj),os[i]? =some none->ds[i]? =some d->iM d
def RowW.snoc{ds:AC}{os:BT}{d:aj}{o:Itm}(h:RowW ds os)(hl:⇑ds=os.length)(hd:o=none->iM d):RowW (ds++[d]) (os++[o]):=by
 intro i x e1 e2;rcases vG e1 with h1|⟨h1,h1'⟩
 ·rcases vG e2 with h2|⟨h2,_⟩
  ·erw[h i x h1 h2]
  ·have:=(ck.mp h1).1;lia
 ·rcases vG e2 with h2|⟨_,z9⟩
  ·have:=(ck.mp h2).1;lia
  ·subst z9;erw[hd h1'.symm]
def vi(rs pl:Ar)(os:BT):Prop:=∀i,i<=⇑os->mL rs ((os.take i).foldl jE pl)
def vi.nil(h:mL rs pl):vi rs pl []:=λi hi=>by simpa using h
def vi.snoc{rs pl:Ar}{os:BT}{o:Itm}(h:vi rs pl os)(g:mL rs (jE (os.foldl jE pl) o)):vi rs pl (os++[o]):=λi hi=>by
 rw[cH]at hi;by_cases c:i<=⇑os
 ·rw[List.take_append_of_le_length c];erw[h i c]
 ·let e:i=⇑(os++[o]):=by rw[cH];have:[o].length=1:=rfl;lia
  rw[e,zU,BZ];erw[g]
inductive a4c|mk p m rs r f j t gL pl many most(_:vs=[.ref p,m,gL,.int many,.int most])(_:gI H p)(_:RD K H m (fC rs r f j t))(_:fQ rs r f j t)(_:RD K H gL (jA pl))(_:mL rs pl)(_:1<=many)(_:many<=20)(_:1<=most)(_:most<=100)(sM:∀v ds os H',RD K H' v (.tuple ds)->cj ⇑rs ds os->RowW ds os->(⇑ds:Int)<=many/\vi rs pl os->bF p H H'->Q v H')
def S5:bA ["_law_bag_here","_law_machine_here","_law_place_here","_law_many","_law_most","_law_items_here","_law_straight","_law_turn"] ["_law_bag_here","_law_machine_here","_law_place_here","_law_many","_law_most"] (aY Uh):=bJ aP
def a80(AA:a0q):a0n "_law_items" 3 a4c:=by
 exists AA.ae7.has,S5,HJ λ_ _ _ _ _=>rfl
 ·let(p,m,rs,r,f,j,t,gL,pl,many,most,rfl,bg,rm,aJ,vK,on,my1,WS,WX,WW,k):=h
  let nd:=S5.nd;erw[_,%[pS 5 nd (cY az),pS 6 nd (pf (eK AA) hr %[0,aA|az]),(gh fc Z (pZ Z (AA.B.at "range") %[pf (eK AA) hr %[0,aM cM L2 aA|az]|az]) (ba 7 nd) (aG (bp (bL (cJ K Z hr.units) (pf (eK AA) hr %[0,aM cM aA (aM bO aA (gY (x:="int") Bv Z (AA.B.at "int") xo %[fN (cJ K rfl hr.units) W1 aA (bc _)|az]))|az]) aA (bc _)) (aG (fe (ji K Z P3 %[pf (a7P AA) hr %[0|az]|az]))) %[(fe (ji K Z P3 %[pf (a7W AA) hr %[0,1,2,4|az]|az])),(pS 2 nd (gY (x:="tuple") (pP K Z) Z (AA.B.at "tuple") gu %[gX (N:=["_law_stand_here","_law_step"]) (js:=[none,none]) rfl rfl rfl (lH K rfl false false rfl (AA.B.at "zip") %[2,px K (px K P3 (rX rH aA)) aA|az]) (λ_ _ _ _ _=>(cX K rfl (n:=2) rfl %[ba 0 (hW aw),ba 1 (hW aw)|cW])) (λ_ _ _ _ _=>fZ) (λ_ _ _ _ _=>(aM cM o0 u8))|az]))|aG]))),aQ (gY (x:="tuple") (pP K Z) Z (AA.B.at "tuple") gu %[5|az])|aG],?_];let lr:=aJ.len;let nm:=qq rs r f j t;erw[bM Z,λl H1 n1=>?_];let b1:bF p H H1:=.fK bg n1.ss;let lp:l≠p:=λz=>bg.ne (z▸n1.no);erw[ww,p,3,Z,b1.bw,aw,aw,λst H2 rL FP b2=>?_,B,Wp,p,many+1,Z,b2.bw,gT (C4 my1),eG WS aw,λcnt H3 c0 c1 b3=>?_];let HH:=b1.ao (b2.ao b3);erw[ww,fW aw c0,mT c1 (eG WS aw),?_,B,sQ (Pv:=λi O H4=>bF p H H4/\∃zs es qs gL pY v1,(qs.foldl jE pl=pY/\vi rs pl qs)/\H4 l=some (.bi zs)/\aH K H4 zs es/\cj ⇑rs es qs/\RowW es qs/\⇑es<=i/\RD K H4 gL (jA pY)/\mL rs pY/\O=[some (.ref p),some m,some gL,some (.int many),some (.int most),some (.ref l),some (.int st),v1]) ?_ ?_ ?_]
  ·erw[HH,[],[],[],gL,pl,none,#[Z,.nil on],(b2.ao b3).ss _ _ lp n1.at',cQ,cj.nil,(λi d e=>by simp at e),aZ _,RD.t (bF.t bg HH) _ (mq _) vK,on,Z]
  ·rintro i O H4 GX ⟨b4,zs,es,qs,gL,pY,v1,⟨E6,vM⟩,dl,rz,row,cV,hl,vK,on,rfl⟩
   erw[gH ?_];intro E1;let lz:=⇑rz;erw[wp,.inl #[wr,.inr #[_,Z,?_]],B,wr,.of_left (cB aw aw),wr,?_,B,p,ww,b4.bw,(by split<;>erw[aw]),(by split<;>erw[aw]),λg H5 g0 g1 b5=>?_];let Ny:=b4.ao b5;let t7:=b5.ss _ _ lp dl;let t5:=bF.t b4.bw b5;let UW:=aH.t t5 _ row.no rz;let JJ:=RD.t t5 _ (mq _) vK;erw[.inl #[_,_,Z,Z,_,Z,?_],B,eV (λhc=>?_) (λhc=>?_)]
   ·erw[ww,.inl #[Z,_,aK.of t7],?_]
    erw[ww,p,Z,b5.bw,λov d H6 ro ot b6=>?_];let it:=ot.it;let qR:=b6.ss _ _ lp t7;let t6:=bF.t b5.bw b6;erw[l,zs,ww,Z,qR,xS _ bI,?_];let tu:fw H6 (_L.bn H6 l (.bi (zs++[ov]))):=.iB qR;erw[(Ny.ao b6).putL lp n1.no,xz,xz,pY,_,#[by rw[BZ,E6];rfl,vM.snoc (by rw[E6];erw[on])],bQ,aH.xR qR (aH.t t6 _ row.no UW) ro row.no it.no,row.snoc it (λgO iC e=>nomatch e),cV.snoc row.len (λ_=>ot),?_,RD.t (t6.ao tu) _ (mq _) JJ,on,rfl];rw[cH];show ⇑es+1<=i+1;erw[jv hl]
   ·erw[ww,.inl #[Z,_,aK.of t7],?_]
    let JK:=RD.t (bF.t bg Ny) _ nm rm;erw[ZB,ww,p,m,rs,r,f,j,t,gL,pY,most,Z,b5.bw,JK,aJ,JJ,on,WX,WW,λlv ns sp H6 rl bX cT dM Gm b6=>?_];let qR:=b6.ss _ _ lp t7;let t6:=bF.t b5.bw b6;erw[l,zs,ww,Z,qR,xS _ bI,?_];let tu:fw H6 (_L.bn H6 l (.bi (zs++[lv]))):=.iB qR;let b7:bF p H (_L.bn H6 l (.bi (zs++[lv]))):=(Ny.ao b6).putL lp n1.no;let UU:=aH.xR qR (aH.t t6 _ row.no UW) rl row.no (L6 _ _);let V5:=RD.t (t6.ao tu) _ (mq _) JJ;let Vd:=RD.t tu _ (L6 _ _) rl;let wJ:(_L.bn H6 l (.bi (zs++[lv]))) l=some (.bi (zs++[lv])):=bQ;generalize _L.bn H6 l (.bi (zs++[lv]))=H7 at b7 UU V5 Vd wJ⊢;let a5E:cj ⇑rs (es++[jk ns sp]) (qs++[some (ns,sp)]):=row.snoc (.inl #[_,_,Z,Z]) λgO iC e=>by cases e;erw[bX,cT,dM]
    let(pa,rfl,GP):=K9 V5;let(la,lb,rfl,hla,Y4):=pk Vd;let Xf:=on.len;erw[ZB,.inl #[l,xz,.ref la,wP,aK.of wJ,NG (by simp),.inr #[la,_,1,.ref lb,wP,hla,Z,pa,lb,Z,#[_,GP],#[_,Y4],λD H8 n8=>?_]]];let Xj:=bX.len;erw[wL (K:=K) (b1:=false) (b2:=false) (xs:=pY.map V.int) (ys:=ns.map V.int) (ds:=(nR pY ns).map PyData.int) _ Z GP Y4 n8 (by rw[bC,bC,bC,zB (_S.IU Xj Xf)];omega) (by rw[bC,zB (_S.IU Xj Xf)];omega) (nA _) ?_ ?_]
    ·intro q x y dd H9 Q' ex ey ed s9 hq
     rw[bV]at ex ey ed;let(x',qL,rfl):=zR.mp ex;let(y',Mu,rfl):=zR.mp ey;rw[NN qL Mu]at ed;cases ed;erw[Wp,hq _ _ (aI.refl _) (eB _)]
    ·intro H9 ys s9 d9 r9
     erw[D,ww,.inl #[aK.of d9,λtp jK uC=>?_]];let Js:=s9.ao uC.ss;let Zj:=uC.at';rw[r9.jm]at Zj;erw[b7.ao (.fK b7.bw Js),xz,xz,xz,#[by rw[BZ,E6];rfl,vM.snoc (by rw[E6];erw[Gm])],Js _ _ wJ,aH.sK Js _ UU,a5E,cV.snoc row.len (λe=>nomatch e),(by rw[cH];show ⇑es+1<=i+1;erw[jv hl]),K8 (aW.of Zj),Gm,rfl]
  ·rintro O H4 ⟨b4,zs,es,qs,gL,pY,v1,⟨E6,vM⟩,dl,rz,row,cV,hl,vK,on,rfl⟩
   erw[ww,l,ww,.inl #[aK.of dl,λtq H5 n5=>?_],B,k (.ref tq) es qs H5 (gD (aW.of n5.at') (aH.sK n5.ss _ rz)) row cV #[bI,vM] (b4.ao (.fK b4.bw n5.ss))]
end
end _c
namespace _c
universe _L _d _l _C _P
open _O (oR na dL iN ce iF sB dO OkI OkIs)
section
def BC(ti:Int)(q:Rat)(T:Int):Prop:=1<=T/\fh ti q T=true/\fh ti q (T-1)=false
open Classical in
noncomputable def ku(ti:Int)(q:Rat):Int:=if h:∃T,BC ti q T then h.choose else 0
def MG{t:Int}(hq:0<=q.num)(h0:0<=s)(h:s<=t)(e:fh ti q s=true):fh ti q t=true:=by erw[cy (fW (kg e) ?_),B,Fb (C1 h h h0 (fW h0 h)) hq]
def Po(hq:0<=q.num)(h1:BC ti q S)(h2:BC ti q T):S=T:=by
 let(a1,a2,a3):=h1;let(b1,b2,b3):=h2;by_cases h:S<=T-1
 ·have:=MG hq (_S.dE a1) h a2
  rw[b3]at this;cases this
 ·by_cases h':T<=S-1
  ·have:=MG hq (_S.dE b1) h' b2
   rw[a3]at this;cases this
  ·lia
def IX(hq:0<=q.num)(h:BC ti q T):ku ti q=T:=by let hx:∃T,BC ti q T:=#[T,h];unfold ku;rw[dif_pos hx];erw[Po hq hx.choose_spec h]
def yi{q:Rat}(h:0<q):0<q.num:=by
 let h1:=Og.mpr (ET h);let h2:q.num≠0:=λe=>by rw[Rat.num_eq_zero.mp e]at h;erw[absurd h aw]
 lia
noncomputable def fq(ti:Int)(zs:Ar)(q:Rat):aj:=.tuple [.str "step",.tuple (zs.map PyData.int),.int (ku ti q),cI q]
def Aa(ti:Int)(zs:Ar)(q:Rat):eH (fq ti zs q)=true:=by simp[fq,eH,bR,nA,p7]
inductive FU|mk m rv sq rs r f j ti zs q(_:vs=[m,rv,sq])(_:RD K H m (fC rs r f j ti))(_:fQ rs r f j ti)(_:RD K H rv (.tuple (zs.map PyData.int)))(_:bj H sq q)(_:Bd 2000 q)(_:0<q)(_:∀v H',RD K H' v (fq ti zs q)->aI H H'->Q v H')
def Sm:bA ["machine","row","square"] ["machine","row","square"] (aY Uy):=bJ aP
def a8b(AA:a0q)(aaL:a0n "ticks_of" 2 Qh):a0n "step_entry" 3 FU:=by
 exists AA.ada.has,Sm,ka λ_ _ _=>rfl
 ·let(m,rv,sq,rs,r,f,j,ti,zs,q,rfl,rm,aJ,rr,Rq,bq,q0,k):=h
  let nd:=Sm.nd;erw[_,(aG (aQ (dA %[fA,1,pf aaL hr %[0,2|az],2|az]))),?_];let t1:=aJ.t1;let qn:0<q.num:=yi q0;erw[ZB,m,sq,rs,r,f,j,ti,q,Z,rm,Rq,bq,t1.1,t1.2,qn,λT T1 _ T2 T3=>?_,B,ww,bM Z,λt H1 n1=>k (.ref t) H1 ?_ n1.ss];let e:=IX (gT qn) #[T1,T2,T3];unfold fq;rw[e];erw[gD (aW.of n1.at') (cm (cF _) (cm (RD.sK n1.ss _ rr) (cm (eB _) (cm (Rq.go n1.ss).rd cQ))))]
noncomputable def oA(r f ti:Int)(ns:Ar)(top b e:Rat):AC:=(List.range (aF ns)).map λk=>fq ti (fH ns k) (kN r f (aF ns) top b e k)
noncomputable def nN(r f j ti tz:Int)(ds:AC)(os:BT)(i:Nat):AC:=match os[i]? with |some (some (ns,sp))=>oA r f ti ns (oR tz sp) (dX r f j tz os i) (dX r f j tz os (i+1)) |_=>[ds.getD i .none]
noncomputable def kv(r f j ti tz:Int)(ds:AC)(os:BT):Nat->List aj |0=>[] |i+1=>kv r f j ti tz ds os i++nN r f j ti tz ds os i
def L7(r f ti:Int)(ns:Ar)(top b e:Rat):bR (oA r f ti ns top b e)=true:=cA.mpr λd hd=>by let(k,_,rfl):=gS.mp hd;erw[Aa _ _ _]
def KC{r f:Int}{ld k:Nat}{top b e:Rat}(hr:1<=r)(hf:1<=f)(hk:k<ld)(ht:0<top)(hb:0<=b)(he:0<=e):0<kN r f ld top b e k:=by
 let pos:∀{x:Rat}{z:Int},0<=x->0<z->0<x+(z:Rat):=λ{x z} hx hz=>by let h1:((0:Int):Rat)<(z:Rat):=Il.mpr hz;let h2:x+((0:Int):Rat)<x+(z:Rat):=Rat.add_lt_add_left.mpr h1;rw[show((0:Int):Rat)=0 from Z,tL]at h2;erw[j05 hx h2]
 let h1:=pos (z:=r*(2*(1+(k:Int))-1)) hb (eY (_S.jC hr) aE);let h2:=pos (z:=f*(2*((ld:Int)-(1+(k:Int)))+1)) he (eY (_S.jC hf) aE);unfold kN;rcases qo (mn (b+((r*(2*(1+(k:Int))-1):Int):Rat)) top) (e+((f*(2*((ld:Int)-(1+(k:Int)))+1):Int):Rat))with h|h
 ·rw[h]
  rcases qo (b+((r*(2*(1+(k:Int))-1):Int):Rat)) top with h'|h'<;>rw[h']<;>assumption
 ·rw[h];erw[h2]
def Ce{tz:Int}(h1:1<=sp)(h2:10<=tz):0<oR tz sp:=by
 let h0:=_O.pQ tz sp;erw[Oe h0 λe=>?_];let hp:0<(sp*tz)^2:=by rw[fM,fM,md,kZ];erw[eY (eY (_S.jC h1) (mT aw h2)) (eY (_S.jC h1) (mT aw h2))]
 let h2:0<=Rat.divInt (-((sp*tz)^2)) 10000:=by rw[<-KE];show 0<=-(oR tz sp);rw[<-e];decide
 have:=(BN aw).mp h2
 lia
end
section
def jq(tz:Int)(ds:AC)(os:BT)(i:Nat):AC:=match os[i]? with |some (some (ns,sp))=>(List.range (aF ns)).map λk=>kG (fH ns k) (oR tz sp) |_=>[ds.getD i .none]
def dF(tz:Int)(ds:AC)(os:BT):Nat->List aj |0=>[] |i+1=>dF tz ds os i++jq tz ds os i
def jZ(j tz:Int)(os:BT)(i:Nat):Da:=match os[i]? with |some (some (ns,sp))=>iF j tz os i::List.replicate (aF ns-1) (oR tz sp) |_=>[iF j tz os i]
def jF(j tz:Int)(os:BT):Nat->List Rat |0=>[] |i+1=>jF j tz os i++jZ j tz os i
def qO{tz:Int}{ds:AC}{os:BT}{i:Nat}{ns:Ar}{sp:Int}(h:os[i]? =some (some (ns,sp))):jq tz ds os i=(List.range (aF ns)).map λk=>kG (fH ns k) (oR tz sp):=by unfold jq;rw[h]
def uZ{tz:Int}{ds:AC}{os:BT}{i:Nat}(h:os[i]? =some none)(hd:ds[i]? =some d):jq tz ds os i=[d]:=by unfold jq;rw[h,vx,hd];rfl
def zA{j tz:Int}{os:BT}{i:Nat}{ns:Ar}{sp:Int}(h:os[i]? =some (some (ns,sp))):jZ j tz os i=iF j tz os i::List.replicate (aF ns-1) (oR tz sp):=by unfold jZ;rw[h]
def Ep{j tz:Int}{os:BT}{i:Nat}(h:os[i]? =some none):jZ j tz os i=[iF j tz os i]:=by unfold jZ;rw[h]
def Zm(zs:Ar)(q:Rat):eH (kG zs q)=true:=by
 have:bR (zs.map PyData.int)=true:=cA.mpr λd hd=>by let(i,_,rfl):=gS.mp hd;rfl
 simp[kG,eH,bR,this,cI]
theorem wH{n:Nat}{tz:Int}{ds:AC}{os:BT}(row:cj n ds os):∀i,i<=⇑os->⇑(dF tz ds os i)<=100*i/\bR (dF tz ds os i)=true
 |0,_=>#[aZ _,Z] |i+1,h=>by
  let ll:=row.len;let(ih,ino):=wH (tz:=tz) row i (cw h);obtain⟨o,eo⟩:∃o,os[i]? =some o:=#[_,bf (show i<⇑os from h)];let key:⇑(jq tz ds os i)<=100/\bR (jq tz ds os i)=true:=by cases o with |none=>obtain⟨d',ed⟩:∃d',ds[i]? =some d':=#[_,bf (show i<⇑ds from _S.fD h ll)];rw[uZ eo ed];have:=cA.mp row.no _ (gA ed);erw[by simp,by simp[bR,this]] |some q=>let(ns,sp):=q;let(bX,_,_):=row.ok i ns sp eo;have:=nG bX;rw[qO eo,bC,fV];erw[aE,cA.mpr λd hd=>?_];let(k,_,rfl):=gS.mp hd;erw[Zm _ _]
  erw[zn]
  ·show⇑(dF tz ds os i++jq tz ds os i)<=_
   rw[cH];lia
  ·erw[cA.mpr λd hd=>?_]
   rcases kj.mp hd with h1|h1
   ·erw[cA.mp ino d h1]
   ·erw[cA.mp key.2 d h1]
theorem lV{n:Nat}{j tz:Int}{ds:AC}{os:BT}(row:cj n ds os):∀i,i<=⇑os->⇑(jF j tz os i)=⇑(dF tz ds os i) |0,_=>rfl |i+1,h=>by let ll:=row.len;show⇑(jF j tz os i++jZ j tz os i)=⇑(dF tz ds os i++jq tz ds os i);rw[cH,cH,lV row i (cw h)];obtain⟨o,eo⟩:∃o,os[i]? =some o:=#[_,bf (show i<⇑os from h)];cases o with |none=>obtain⟨d',ed⟩:∃d',ds[i]? =some d':=#[_,bf (show i<⇑ds from _S.fD h ll)];rw[uZ eo ed,Ep eo];rfl |some q=>
 let(ns,sp):=q;let(bX,_,_):=row.ok i ns sp eo;have:=bX.lead;rw[qO eo,zA eo];simp
 lia
inductive a4m|mk iv tz n ds os(_:vs=[iv,.int tz])(_:RD K H iv (.tuple ds))(_:cj n ds os)(_:n<=3)(_:⇑ds<=30)(_:10<=tz)(_:tz<=200)(_:∀l ys H',H l=none->H' l=some (.bi ys)->aH K H' ys (dF tz ds os ⇑os)->aI H H'->Q (.ref l) H')
def Sr:bA ["items","rate","due","item","top"] ["items","rate"] (aY UB):=bJ aP
def a8e(AA:a0q):a0n "due_entries" 5 a4m:=by
 exists AA.adJ.has,Sr,eQ λ_ _=>rfl
 ·let(iv,tz,n,ds,os,rfl,ri,row,n3,hz,bN,bS,k):=h
  let nd:=Sr.nd;erw[_,%[pS 2 nd (cY az),(gh fc Z (qc K Z o0) (ba 3 nd) (aG (bp (cg (pf (si AA) hr %[3|az])) %[pS 4 nd (pf (AE AA) hr %[3,1|az]),(fe (y9 K Z w4 %[gX (N:=["row","top"]) (js:=[none,some 4]) Z Z Z (qe K Z (pf (Ki AA) hr %[3|az])) (λ_ _ _ _ _=>(ba 0 (hW aw))) (λ_ _ _ _ _=>fZ) (λ_ _ _ _ _=>(dA %[fA,0,1|az]))|az]))|aG] (aG (fe (ji K Z w4 %[3|az])))))),aQ w4|aG],?_];let ll:=row.len;let nL:sizeLine=16777216:=by decide
  erw[bM Z,λD H2 n2=>?_];let nD:=n2.no;let(ia,xs,rfl,hi,dP):=ri.cD;let lx:=⇑dP;erw[ww,ia,Z,#[_,hi.go n2.ss],Yz (K:=K) (a:=ia) (xs:=xs) (λi O H3=>aI H H3/\∃zs v1 v2,H3 D=some (.bi zs)/\aH K H3 zs (dF tz ds os i)/\O=[some (.ref ia),some (.int tz),some (.ref D),v1,v2]) #[n2.ss,[],none,none,n2.at',cQ,Z] (λi O H3 _ h=>hi.go h.1) ?_ ?_]
  ·rintro i y O H3 hy ⟨s3,zs,v1,v2,dz,rz,rfl⟩
   erw[gH ?_];intro E1;let pE:i<⇑xs:=(ck.mp hy).1;let(d,ed,rd):=dP.get' i hy;let(o,eo,it):=row.get ed;let Aq:=RD.sK s3 _ rd;let(tl,tn):=wH (tz:=tz) row i (cw (jf pE (oY lx ll)));let lz:=⇑rz;erw[ww,y,d,o,Z,Aq,it,wv];cases o with
   |none=>
    erw[aX ?_,B,ww,.inl #[Z,_,aK.of dz],ww,D,zs,ww,Z,dz,aE,?_,B,λb o e=>?_,xz,_,bQ,?_,Z]
    ·rw[aU (e9 e nD)];erw[s3 b o e]
    ·show aH K _ _ (dF tz ds os i++jq tz ds os i)
     rw[uZ eo ed];erw[aH.xR dz rz Aq tn it.no] |some q=>
    let(ns,sp):=q;erw[bB ?_];let iU:=kB it;subst iU;let(bX,cT,dM):=row.ok i ns sp eo;let lO:=nG bX;erw[wp,y,ns,sp,tz,Z,Aq,cT,dM,bN,bS,λtv H4 HN s4=>?_];let kS:=s4 _ _ dz;erw[ww,.inl #[Z,_,aK.of kS],?_,B,ww,y,ns,sp,Z,RD.sK s4 _ Aq,#[Z,λz hz=>by have:=bX.bd z hz;lia,bX.nz],by rw[bX.len];erw[cL n3 aw],λl3 y3 H6 yn qS vN s6=>?_];let yx:=⇑vN;rw[jy,bC,fV]at yx;erw[l3,Z,#[_,aK.of qS],λD2 H7 n7=>?_];let nE:bR (jq tz ds os i)=true:=by rw[qO eo];erw[cA.mpr λd hd=>by let(k,_,rfl):=gS.mp hd;erw[Zm _ _]]
    let lE:⇑(jq tz ds os i)=aF ns:=by rw[qO eo,bC,fV]
    erw[ZM (K:=K) (ds:=jq tz ds os i) _ (aK.of qS) n7 (by rw[lE,yx]) aE nE ?_ ?_]
    ·intro q x dd H8 Q' ex wC s8 hq
     let pC:q<aF ns:=by have:=(ck.mp ex).1;lia
     let(d3,e3,r3):=vN.get' q ex;rw[jy,bV,jN pC]at e3;cases e3;rw[qO eo,bV,jN pC]at wC;cases wC;erw[wp,bM Z,λt H9 n9=>?_,B,hq _ _ n9.ss (gD (aW.of n9.at') (cm (cF _) (cm (RD.sK (s8.ao n9.ss) _ r3) (cm (HN.go ((s6.ao s8).ao n9.ss)).rd cQ))))]
    ·intro H8 z8 s8 d8 r8
     let mi:=s4.ao (s6.ao s8);let wF:=mi _ _ dz;let l8:=⇑r8;erw[D,D2,zs,z8,wP,wF,d8,aE,?_];let tu:fw H8 (_L.bn H8 D (.bi (zs++z8))):=.iB wF;erw[λb o e=>?_,xz,_,bQ,?_,Z]
     ·rw[aU (e9 e nD)];erw[mi b o (s3 b o e)]
     ·exact(aH.t tu _ tn (aH.sK mi _ rz)).append (aH.t tu _ nE r8)
  ·rintro O H3 ⟨s3,zs,v1,v2,dz,rz,rfl⟩
   rw[lx,ll]at rz;erw[ww,k D zs H3 nD dz rz s3]
def acR(n:Nat)(v:V):(List.replicate n [v]).flatten=List.replicate n v:=by induction n with |zero=>rfl |succ n ih=>rw[vw,IB,ih,vw];rfl
theorem Vm{H:Hp}{v:V}{q:Rat}(h:bj H v q):∀n,aH K H (List.replicate n v) ((List.replicate n q).map cI) |0=>cQ |n+1=>by rw[vw,vw,BV];erw[cm h.rd (Vm h n)]
inductive a4t|mk m iv tz rs r f j t ds os(_:vs=[m,iv,.int tz])(_:RD K H m (fC rs r f j t))(_:fQ rs r f j t)(_:RD K H iv (.tuple ds))(_:cj ⇑rs ds os)(_:⇑ds<=30)(_:10<=tz)(_:tz<=200)(_:∀l ys H',H l=none->H' l=some (.bi ys)->aH K H' ys ((jF j tz os ⇑os++[iF j tz os ⇑os]).map cI)->aI H H'->Q (.ref l) H')
def SD:bA ["machine","items","rate","own","bounds","i","item"] ["machine","items","rate"] (aY UL):=bJ aP
def a8i(AA:a0q):a0n "bounds_between" 9 a4t:=by
 exists AA.adN.has,SD,ka λ_ _ _=>rfl
 ·let(m,iv,tz,rs,r,f,j,t,ds,os,rfl,rm,aJ,ri,row,hz,bN,bS,k):=h
  let nd:=SD.nd;erw[_,%[pS 3 nd (pf (Wf AA) hr %[0,1,2|az]),pS 4 nd (cY az),(gh fc Z (Ax K Z false Z (AA.B.at "enumerate") %[1|az]) (cX K rfl (n:=2) rfl %[ba 5 nd,ba 6 nd|cW]) %[fe (ji K Z M2 %[px K L2 P3|az]),(bp (cg (pf (si AA) hr %[6|az])) (aG (fe (y9 K Z M2 %[(aM a76 (cY %[pf (AE AA) hr %[6,2|az]|az]) (aM ip (pf (uu AA) hr %[6|az]) aA))|az]))) bE)|aG]),aQ (aM (El K Z) M2 (cY %[px K L2 (rX rH aA)|az]))|aG],?_];let ll:=row.len;let lr:=aJ.len;let nL:sizeLine=16777216:=by decide
  erw[ZB,m,iv,tz,rs,r,f,j,t,ds,os,Z,rm,aJ,ri,row,cL hz aw,bN,bS,λl1 y1 H1 sj wK uh s1=>?_];let AV:=⇑uh;rw[bC,dO,bC,fV]at AV;let own:∀(c:Nat)(u:V)(H':Hp),c<=⇑os->y1[c]? =some u->aI H1 H'->bj H' u (iF j tz os c):=by intro c u H' hc e t';let(d1,e1,r1):=uh.get' c e;rw[bV,dO,bV,jN (jv hc)]at e1;cases e1;exact(jP r1).go t'
  erw[bM Z,λD H2 n2=>?_];let nD:H D=none:=by cases e:H D with |none=>rfl |some o=>have:=s1 _ _ e;rw[n2.no]at this;cases this
  let(ia,xs,rfl,hi,dP):=ri.cD;let lx:=⇑dP;let nob:∀i,bR ((jF j tz os i).map cI)=true:=λi=>p9 _;erw[ww,ia,Z,#[_,hi.go (s1.ao n2.ss)],Bl (K:=K) (b:=false) (a:=ia) (xs:=xs) (λi O H3=>aI H1 H3/\∃zs v1 v2,H3 D=some (.bi zs)/\aH K H3 zs ((jF j tz os i).map cI)/\O=[some m,some (.ref ia),some (.int tz),some (.ref l1),some (.ref D),v1,v2]) #[n2.ss,[],none,none,n2.at',cQ,Z] (λi O H3 _ h=>hi.go (s1.ao h.1)) ?_ ?_]
  ·rintro i y O H3 hy ⟨s3,zs,v1,v2,dz,rz,rfl⟩ T H4 n4
   erw[gH ?_];intro E2;let pE:i<⇑xs:=(ck.mp hy).1;let(d,ed,rd):=dP.get' i hy;let(o,eo,it):=row.get ed;let gJ:=s3.ao n4.ss;let s4:=s1.ao gJ;let kS:=n4.ss _ _ dz;let xV:=aH.sK n4.ss _ rz;let vR:=RD.sK s4 _ rd;let lz:=⇑rz;rw[bC,lV row i (cw (jf pE (oY lx ll)))]at lz;let tl:=(wH (tz:=tz) row i (cw (jf pE (oY lx ll)))).1;obtain⟨z0,kR⟩:∃z,y1[i]? =some z:=#[_,bf (show i<⇑y1 by lia)];let R0:=own i z0 H4 (cw (jf pE (oY lx ll))) kR gJ;let oO:=gJ _ _ wK;erw[T,ww,aW.of n4.at',wE,B,ww,.inl #[Z,_,aK.of kS],?_,B,wp,.inl #[l1,xz,z0,wP,aK.of oO,cn (cf _) (by simpa using kR),?_],B,D,zs,z0,wP,kS,aE,?_];let t5:fw H4 (_L.bn H4 D (.bi (zs++[z0]))):=.iB kS;let ky:aI H1 (_L.bn H4 D (.bi (zs++[z0]))):=λb o e=>by rw[aU (e9 e n2.no)];erw[gJ b o e]
   let d5:(_L.bn H4 D (.bi (zs++[z0]))) D=some (.bi (zs++[z0])):=bQ;let r5:aH K (_L.bn H4 D (.bi (zs++[z0]))) (zs++[z0]) ((jF j tz os i++[iF j tz os i]).map cI):=by rw[kn];erw[aH.xR kS xV R0.rd (nob i) (p7 _)]
   generalize _L.bn H4 D (.bi (zs++[z0]))=H5 at t5 ky d5 r5⊢;let s5:=s1.ao ky;let JO:=RD.sK s5 _ rd;erw[ww,y,d,o,Z,JO,it,wv];cases o with |none=>erw[aX #[ky,xz,_,d5,?_,Z]];show aH K H5 _ ((jF j tz os i++jZ j tz os i).map cI);rw[Ep eo];erw[r5] |some q=>
    let(ns,sp):=q;erw[bB ?_];let iU:=kB it;subst iU;let(bX,cT,dM):=row.ok i ns sp eo;let lO:=nG bX;let wm:=bX.lead;erw[ww,.inl #[Z,_,aK.of d5],?_,B,wp,y,ns,sp,tz,Z,JO,cT,dM,bN,bS,λtv H6 Rt6 s6=>?_,B,bM Z,λlt H7 n7=>?_,B,ww,y,ns,sp,Z,RD.sK (s6.ao n7.ss) _ JO,bX.ne,by rw[bX.len];erw[_S.kM lr aw aw],λH8 s8=>?_];let d7:=s8 _ _ n7.at';let ek:((aF ns:Int)-1).toNat=aF ns-1:=by lia
    erw[wr,lt,wr,d7,aE,aE,by rw[ek];show 1*_<=_;lia,λlp nlp=>?_];rw[ek,acR];let n9:Nw H8 (_L.bn H8 lp (.bi (List.replicate (aF ns-1) tv))) lp (.bi (List.replicate (aF ns-1) tv)):=.of nlp;generalize _L.bn H8 lp (.bi (List.replicate (aF ns-1) tv))=H9 at n9⊢;let uf:=s6.ao (n7.ss.ao (s8.ao n9.ss));let d9:=uf _ _ d5;erw[D,lp,wr,d9,n9.at',by rw[cH,BW];show _+1+_<=_;lia,?_];let t9:fw H9 (_L.bn H9 D (.bi (zs++[z0]++List.replicate (aF ns-1) tv))):=.iB d9;erw[λb o e=>?_,xz,_,bQ,?_,Z]
    ·rw[aU (e9 e n2.no)];erw[uf b o (ky b o e)]
    ·show aH K _ _ ((jF j tz os i++jZ j tz os i).map cI)
     let eb:jF j tz os i++jZ j tz os i=(jF j tz os i++[iF j tz os i])++List.replicate (aF ns-1) (oR tz sp):=by rw[zA eo];simp
     rw[eb,kn];exact(aH.t t9 _ (p9 _) (aH.sK uf _ r5)).append (aH.t t9 _ (p9 _) (Vm (Rt6.go (n7.ss.ao (s8.ao n9.ss))) _))
  ·rintro O H3 ⟨s3,zs,v1,v2,dz,rz,rfl⟩
   rw[lx,ll]at rz;let lz:=⇑rz;rw[bC,lV row _ (aZ _)]at lz;let tl:=(wH (tz:=tz) row _ (aZ _)).1;obtain⟨z0,kR⟩:∃z,y1[⇑os]? =some z:=#[_,bf (show ⇑os<y1.length from _S.fD (gR _) AV)];let R0:=own _ z0 H3 (aZ _) kR s3;erw[wp,1,Z,.inl #[l1,_,-1,z0,wP,aK.of (s3 _ _ wK),NG (by rw[a1D,AV];erw[kR]),?_],B,bM Z,λl5 H4 n4=>?_,B,D,l5,wr,aK.of (n4.ss _ _ dz),aK.of n4.at',by show _+1<=_;lia,λl6 H5 n5=>?_];let nl6:H l6=none:=by cases e:H l6 with |none=>rfl |some o=>have:=n4.ss _ _ (s3 _ _ (s1 _ _ e));rw[n5.no]at this;cases this
   let Cy:=n4.ss.ao n5.ss;erw[k l6 _ H5 nl6 n5.at' ?_ (s1.ao (s3.ao Cy))];rw[kn];exact(aH.sK Cy _ rz).append (cm (R0.go Cy).rd cQ)
end
section
def fS(sq:Nat->Option Rat):Nat->Option Rat |0=>none |k+1=>sq k
def cK(j tz:Int)(os:BT):Da:=jF j tz os ⇑os++[iF j tz os ⇑os]
def a0X(ti:Int)(du e:aj):Option Rat->Prop |none=>e=du/\iM e |some q=>∃zs top,du=kG zs top/\e=fq ti zs q/\q<=top/\0<q/\Bd 1900 q/\Bd 2000 top/\⇑zs<=1000
structure jH(r f j ti tz:Int)(ds:AC)(os:BT)(es:AC)(sq:Nat->Option Rat):Prop where
 len:⇑es=(dF tz ds os ⇑os).length
 ent:∀k e du,es[k]? =some e->(dF tz ds os ⇑os)[k]? =some du->a0X ti du e (sq k)
 aeE:sq ⇑es=none
 meet:∀k b,(cK j tz os)[k]? =some b->jj r f b (fS sq k) (sq k)=true
theorem Pp{ti:Int}{q:Rat}(h0:1<=ti):∀n:Nat,1<=n->fh ti q (n:Int)=true->∃T:Int,T<=n/\BC ti q T |0,h,_=>by lia |n+1,_,h=>by cases e:fh ti q (n:Int)with |false=>erw[((n+1:Nat):Int),dU _,_S.ZT (vv _ _) aw,h,by rw[Int.natCast_add,Int.natCast_one,Int.add_sub_cancel];erw[e]] |true=>
 by_cases hn:1<=n
 ·let(T,h1,h2):=Pp h0 n hn e
  erw[T,_S.ZT (jg _ _) h1,h2]
 ·let hn:n=0:=iY (ki (oW hn)) (fR _)
  subst hn;let e:=kg e;let hp:0<ti*ti*(q.den:Int):=eY (eY (_S.jC h0) (_S.jC h0)) (by have:=q.den_pos;lia);simp at e
  lia
def Cf(h1:1<=ti)(h2:ti<=100)(q0:0<q)(bq:Bd 2000 q):1<=ku ti q/\(ku ti q).natAbs<2^2400/\fh ti q (ku ti q)=true/\fh ti q (ku ti q-1)=false:=by
 let hn:=yi q0;let hd:=q.den_pos;let e:fh ti q ((ti.toNat*q.den:Nat):Int)=true:=by
  erw[cy ?_];let et:((ti.toNat*q.den:Nat):Int)=ti*(q.den:Int):=by rw[Rn,F9 (_S.dE h1)]
  rw[et];let p1:0<=ti*ti*(q.den:Int):=fy (fy (_S.dE h1) (_S.dE h1)) (cf _);have:ti*(q.den:Int)*(ti*(q.den:Int))*q.num=(ti*ti*(q.den:Int))*((q.den:Int)*q.num):=by simp only[OQ,Int.mul_left_comm,C3]
  rw[this];let p2:1<=(q.den:Int)*q.num:=by
   have:0<(q.den:Int)*q.num:=eY (eG (cf _) (_S.hJ hd)) hn
   lia
  have:=xD p2 p1;rw[Ps]at this;erw[this]
 let(T,hT,tc):=Pp h1 (ti.toNat*q.den) (Nat.mul_pos aE hd) e;let eT:=IX (gT hn) tc;rw[eT];erw[tc.1,?_,tc.2.1,tc.2.2];let b1:ti.toNat*q.den<128*2^2000:=Tm9 aE (cw bq.den) (Nat.two_pow_pos _);let b2:128*2^2000<=2^2400:=by rw[show 128=2^7 from Z,<-Os];erw[rA aw aw]
 have:=tc.1
 lia
def a0c{rs:Ar}{r f j t tz:Int}{ds:AC}{os:BT}(aJ:fQ rs r f j t)(row:cj ⇑rs ds os)(bN:10<=tz)(bS:tz<=200):∀b∈cK j tz os,Bd 1900 b:=by
 let hB:=_O.CK aJ.j1.1 aJ.j1.2 bN bS row.ow;let key:∀i,i<=⇑os->∀b∈jF j tz os i,Bd 1900 b:=by intro i;induction i with |zero=>intro _ b hb;exact(gy hb).elim |succ i ih=>
  intro hi b hb;rcases kj.mp hb with h1|h1
  ·erw[ih (cw hi) b h1]
  ·obtain⟨o,eo⟩:∃o,os[i]? =some o:=#[_,bf (show i<⇑os from hi)]
   cases o with |none=>rw[Ep eo,gz]at h1;rw[h1];exact(hB i).sK aw |some q=>
    let(ns,sp):=q;let(bX,cT,dM):=row.ok i ns sp eo;rw[zA eo]at h1;rcases dj.mp h1 with h1|h1
    ·rw[h1];exact(hB i).sK aw
    ·rw[(List.mem_replicate.mp h1).2];exact(_O.mZ cT dM bN bS).sK aw
 intro b hb;rcases kj.mp hb with h1|h1
 ·erw[key _ (aZ _) b h1]
 ·rw[gz.mp h1];exact(hB _).sK aw
end
section
inductive a4p|mk m iv tz rs r f j t ds os(_:vs=[m,iv,.int tz])(_:RD K H m (fC rs r f j t))(_:fQ rs r f j t)(_:RD K H iv (.tuple ds))(_:cj ⇑rs ds os)(_:⇑ds<=100)(_:10<=tz)(_:tz<=200)(_:∀l ys H',H l=none->H' l=some (.bi ys)->aH K H' ys ((dO j tz os).map cI)->aI H H'->Q (.ref l) H')
def lJ(j tz:Int)(os:BT)(i:Nat):Da:=(List.range (⇑os+1)).map λk=>if k<=i then iF j tz os k else 0
def Az(j tz:Int)(os:BT)(i:Nat){k:Nat}(h:k<=⇑os):(lJ j tz os i)[k]? =some (if k<=i then iF j tz os k else 0):=by unfold lJ;rw[bV,bf (by simp;erw[jv h]),zW];rfl
def uq(j tz:Int)(os:BT)(i:Nat):⇑(lJ j tz os i)=os.length+1:=by simp[lJ]
def VO(j tz:Int)(os:BT)(i:Nat)(h:i+1<=⇑os):(lJ j tz os i).set (i+1) (iF j tz os (i+1))=lJ j tz os (i+1):=by
 apply F3;intro k;by_cases hk:k<=⇑os
 ·rw[Az j tz os (i+1) hk,j0r]
  by_cases e:i+1=k
  ·subst e
   rw[aR Z,aR (by rw[uq];erw[jv hk]),aR (aZ _)]
  ·rw[aV e,Az j tz os i hk]
   congr 1;by_cases h1:k<=i
   ·rw[aR h1,aR (Iv h1)]
   ·rw[aV h1,aV (j0h (nX (oW h1) e))]
 ·rw[nY (by rw[xB,uq];erw[oW hk]),nY (by rw[uq];erw[oW hk])]
def a72(j tz:Int)(os:BT)(i:Nat)(h:i+1<=⇑os)(e:iF j tz os (i+1)=0):lJ j tz os (i+1)=lJ j tz os i:=by
 apply F3;intro k;by_cases hk:k<=⇑os
 ·rw[Az j tz os (i+1) hk,Az j tz os i hk]
  congr 1;by_cases h1:k<=i
  ·rw[aR h1,aR (Iv h1)]
  ·rw[aV h1]
   by_cases h2:k=i+1
   ·subst h2;rw[aR (aZ _),e]
   ·rw[aV aE]
 ·rw[nY (by rw[uq];erw[oW hk]),nY (by rw[uq];erw[oW hk])]
def Sx:bA ["_law_machine_here","_law_items_here","_law_rate","_law_found","_law_border","_law_one","_law_other_here","_law_a","_law_b","_law_gap","_law_corner"] ["_law_machine_here","_law_items_here","_law_rate"] (aY UH):=bJ aP
def a8h(AA:a0q):a0n "_law_bounds" 3 a4p:=by
 erw[AA.aef.has Sx (λvs H Q E h=>?_) (λ_ _ _ _ _ _=>ka λ_ _ _=>rfl) (λf aO A outer s H vs Q E hr h=>?_)]
 · let(m,iv,tz,rs,r,f,j,t,ds,os,rfl,_):=h
   rfl
 · let(m,iv,tz,rs,r,f,j,t,ds,os,rfl,rm,aJ,ri,row,hz,bN,bS,k):=h
   let nd:=Sx.nd;erw[_,%[(Ga (i0:=3) nd Z (Or.inl Z) (N:=["_law_border"]) (js:=[none]) Z Z Z (pZ Z (AA.B.at "range") %[aM cM (dC K AA.B %[1|az]) aA|az]) (λ_ _ _ _ _=>(ba 0 (uz _))) (λ_ _ _ _ _=>fZ) (λ_ _ _ _ _=>(dA %[aA,aA|az]))),(gh fc Z (Kb Z (AA.B.at "range") %[aA,dC K AA.B %[1|az]|az]) (ba 4 nd) %[rV (i:=5) (j:=6) Z nd Z Z aw Z Z %[px K u8 (aM ip M2 aA),px K u8 M2|az] Z,(bp (PW.pt (nu (bL (cJ K Z hr.units) (px K P3 aA) fA (bc _)) (pX (bL (cJ K Z hr.units) (px K W1 aA) fA (bc _))))) %[(fz (dA %[pf (Gr AA) hr %[5|az],pf (Gr AA) hr %[6|az]|az]) (cX K Z (n:=2) Z %[ba 7 nd,ba 8 nd|cW])),(pS 9 nd (eR (x:="max") (KG K Z Z) Z (AA.B.at "max") EW %[gX (N:=["_law_x","_law_y","_law_b","_law_a"]) (js:=[none,none,some 8,some 7]) rfl rfl rfl (lH K rfl false false rfl (AA.B.at "zip") %[px K P3 aA,px K W1 aA|az]) (λ_ _ _ _ _=>(cX K rfl (n:=2) rfl %[ba 0 (show List.Nodup (["_law_x","_law_y","_law_b","_law_a"]:Ch) by decide+kernel),ba 1 (show List.Nodup (["_law_x","_law_y","_law_b","_law_a"]:Ch) by decide+kernel)|cW])) (λ_ _ _ _ _=>fZ) (λ_ _ _ _ _=>(eR (x:="abs") tj rfl (AA.B.at "abs") vt %[aM ip (aM bO o0 w4) (aM bO u8 L2)|az]))|az])),(fz (pf (Gp AA) hr %[(cY %[pf (Gn AA) hr %[5,2|az],pf (Gn AA) hr %[6,2|az]|az])|az]) (rW L2 M2 set_list)),(bp (bL qh a0l aA (bc _)) %[pS 10 nd (pf (uv AA) hr %[aM mx (aM bO (aM bO (px K o0 aA) a0g) (pv 8)) aA,aM mx a0l aA|az]),(fz (pf (Gp AA) hr %[cY %[px K L2 M2,10|az]|az]) (rW L2 M2 set_list))|aG] bE)|aG] bE)|aG]),aQ L2|aG],?_];let(ia,xs,rfl,hi,dP):=ri.cD;let(ma,mb,rfl,gk,mE):=nC rm;let lx:=⇑dP;let ll:=row.len;let lr:=aJ.len;erw[ww,ia,ww,.inr hi,wr,ww,_S.Eu (cf _) aw,aE,λD H1 n1=>?_];let eN:((⇑xs:Int)+1).toNat=⇑os+1:=by lia
   rw[eN];erw[ZL (K:=K) (lo:=0) (n:=⇑os+1) (ds:=(lJ j tz os 0).map cI) _ n1 (by rw[bC,uq]) aE (p9 _) ?_ ?_]
   · intro i d H2 Q' ed s2 hq
     let LN:i<=⇑os:=by have:=(ck.mp ed).1;rw[bC,uq]at this;lia
     let e0:d=cI 0:=by
      rw[bV,Az j tz os 0 LN]at ed;have:=(fm ed).symm;rw[this];congr 1;split
      · next h => have:i=0:=iY h (fR _)
                  subst this;rfl
      ·rfl
     subst e0;erw[bM Z,λz H3 n3=>?_,B,hq _ _ n3.ss (bj.rd #[z,Z,aW.of n3.at'])]
   intro H2 ys s2 d2 r2;erw[ww,ia,ww,.inr (hi.go s2),wT,#[aw,aw,_S.afz aw,aE],?_,B,sQ (Pv:=λi O H5=>aI H H5/\∃(ys:AT)(v1 v2 v3 v4 v5 v6 v7:Option V),H5 D=some (.bi ys)/\aH K H5 ys ((lJ j tz os i).map cI)/\O=[some (.ref ma),some (.ref ia),some (.int tz),some (.ref D),v1,v2,v3,v4,v5,v6,v7]) ?_ ?_ ?_]
   ·erw[s2,ys,none,none,none,none,none,none,none,d2,r2,Z]
   · rintro i O H5 nK ⟨s5,ys,v1,v2,v3,v4,v5,v6,v7,dl,kL,rfl⟩
     erw[gH ?_];intro E1;let oG:i+1<⇑os:=by lia
     let sX:=bf (show i<⇑os from _S.yz oG);let pJ:=bf oG;obtain⟨x1,Bp⟩:∃x,xs[i]? =some x:=#[_,bf (show i<⇑xs by lia)];obtain⟨x2,YS⟩:∃x,xs[i+1]? =some x:=#[_,bf (show i+1<⇑xs from _S.fD oG (oY lx ll))];let(d1,e1,r1):=dP.get' i Bp;let(d2,e2,r2):=dP.get' (i+1) YS;let i1:=row.it i d1 _ e1 sX;let i2:=row.it (i+1) d2 _ e2 pJ;let GS:iF j tz os (i+1)=iN j tz os[i] os[i+1]:=by show iN j tz (ce os i) (ce os (i+1))=_;rw[_O.mI sX,_O.mI pJ]
     let sZ:((1:Int)+(i:Int)-1).toNat=i:=by lia
     let MT:((1:Int)+(i:Int)).toNat=i+1:=by lia
     let pL:fj xs ((1:Int)+(i:Int)-1)=some x1:=cn (C0 (_S.lK (cf _))) (by rw[sZ];erw[Bp]);let at2:fj xs ((1:Int)+(i:Int))=some x2:=cn (_S.dE (_S.lK (cf _))) (by rw[MT];erw[YS]);let Y7:=hi.go s5;let(a1,w1,y1,rfl,h1,ew1,sw1):=GK (RD.sK s5 _ r1) i1;let(a2,w2,y2,rfl,h2,ew2,sw2):=GK (RD.sK s5 _ r2) i2;let ss:os[i]=none\/os[i+1]=none->aH K H5 ys ((lJ j tz os (i+1)).map cI):=λhn=>by
      rw[a72 j tz os i (_S.yz oG)]
      ·erw[kL]
      · rw[GS]
        rcases hn with e|e
        ·rw[e];erw[_O.En _ _ _]
        ·rw[e];erw[_O.vd _ _ _]
     refine⟨_,Z,_,Z,_,_,Z,Z,.inr #[ia,_,_,_,Z,Z,Y7,pL,_,Z,_,Z,.inr #[ia,_,_,_,Z,Z,Y7,at2,_,_,Z,?_]]⟩;erw[_,Z,.inr #[a1,_,0,.str w1,Z,Z,h1,cn (dU 0) Z,.inr #[_,_,cF _,cF _,sw1,GF,_,Z,?_]]];rw[ew1];cases LI:os[i]with |none=>erw[aX #[s5,ys,_,_,_,_,_,_,_,dl,ss (.inl LI),Z]] |some q1=>erw[bB ?_];erw[_,Z,.inr #[a2,_,0,.str w2,Z,Z,h2,cn (dU 0) Z,.inr #[_,_,cF _,cF _,sw2,GF,_,Z,?_]]];rw[ew2];cases B8:os[i+1]with |none=>erw[aX #[s5,ys,_,_,_,_,_,_,_,dl,ss (.inr B8),Z]] |some q2=>
         erw[bB ?_];let(ns,sp):=q1;let(ms,sq):=q2;rw[LI]at i1 sX;rw[B8]at i2 pJ;let MR:=kB i1;let MQ:=kB i2;subst MR MQ;let(fg,p1,p2):=row.ok i ns sp sX;let(g9,q1,q2):=row.ok (i+1) ms sq pJ;let T1:Bd 2000 (oR tz sp):=(_O.mZ p1 p2 bN bS).sK aw;let T2:Bd 2000 (oR tz sq):=(_O.mZ q1 q2 bN bS).sK aw;let l1:=nG fg;let l2:=nG g9;let lq1:=fg.lead.1;let mD:=g9.lead.1;let ln1:⇑ns<=3:=by rw[fg.len];erw[_S.kM lr aw aw]
         let ln2:⇑ms<=3:=by rw[g9.len];erw[_S.kM lr aw aw]
         let Xk:⇑ms=ns.length:=by rw[fg.len,g9.len]
         erw[ww,_,ns,sp,Z,RD.sK s5 _ r1,fg.ne,cL ln1 aw,λH6 s6=>?_];let FY:=s5.ao s6;erw[ww,_,ms,sq,Z,RD.sK FY _ r2,g9.ne,cL ln2 aw,λH7 s7=>?_,B,bM Z,λtq H7' Kw=>?_,B,tq,ww,aW.of Kw.at',wE];let pT:=FY.ao (s7.ao Kw.ss);let s67:=s6.ao (s7.ao Kw.ss);let(a1',b1,ea1,Hb,yW):=pk (RD.sK pT _ r1);let(a2',b2,ea2,LZ,yV):=pk (RD.sK pT _ r2);cases ea1;cases ea2;erw[ww,.inr #[a1,_,1,.ref b1,wP,Hb,WP,.inr #[a2,_,1,.ref b2,wP,LZ,Z,b1,b2,Z,#[_,yW],#[_,yV],λD4 H8 n8=>?_]],B,wL (K:=K) (b1:=false) (b2:=false) (xs:=ns.map V.int) (ys:=ms.map V.int) (ds:=((dQ ns ms).map kf).map PyData.int) _ Z yW yV n8 (by simp[dQ]) (by simp[dQ];lia) (nA _) ?_ ?_]
         · intro i x y d H9 Q' ex ey ed s9 hq
           let(a,b,e1,e2,rfl,rfl):=zip2 Xk ex ey;let(m,em,rfl):=sx ed;rw[bV,OX e1 e2]at em;cases em;let q1:=fg.bd a (gA e1);let q2:=g9.bd b (gA e2);erw[Wp,.of_left (cB aE aE),?_,B,Wp,.of_left (cB aE aE),?_,B,wr,ww,hq _ _ (aI.refl _) (eB _)]
         intro H9 zs s9 d9 r9;rw[r9.jm]at d9;let nQ:dQ ns ms≠[]:=by
          let hl:⇑(dQ ns ms)=ns.length:=by simp[dQ,Xk]
          intro e;rw[e]at hl;erw[fg.ne (Iz.mp hl.symm)]
         erw[D4,ww,aK.of d9,by simpa using nQ,λM h1 h2=>?_];let eM:=L8 nQ h1 h2;subst eM;let uf:=pT.ao s9;let s69:=s67.ao s9;erw[wp,_,ns,sp,tz,Z,RD.sK uf _ r1,p1,p2,bN,bS,λt1 jK JI mj=>?_,B,wp,_,ms,sq,tz,Z,RD.sK (uf.ao mj) _ r2,q1,q2,bN,bS,λt2 jJ JH xU=>?_,B,bM Z,λlm zI Gx=>?_];let R1:bj zI t1 (oR tz sp):=(JI.go xU).go Gx.ss;let R2:bj zI t2 (oR tz sq):=JH.go Gx.ss;erw[lm,[t1,t2],[oR tz sp,oR tz sq],Z,aK.of Gx.at',#[R1,T1,R2,T2,trivial],by simp,λc lv q ec1 Zh hq=>?_];let oE:mn (oR tz sp) (oR tz sq)=q:=by
          erw[uD ?_ (hq _ (by simp)) (hq _ (by simp))]
          match c,Zh with |0,e2=>cases e2;erw[.inl rfl] |1,e2=>cases e2;erw[.inr rfl]
         let rl:bj zI lv (mn (oR tz sp) (oR tz sq)):=by
          rw[oE]
          match c,ec1,Zh with |0,e1,e2=>cases e1;cases e2;erw[R1] |1,e1,e2=>cases e1;cases e2;erw[R2]
         let a57:=mj.ao (xU.ao Gx.ss);let Jt:=s69.ao a57;let N7:=Jt _ _ dl;let ly:=⇑kL;rw[bC,uq]at ly;let GI:iS ⇑ys ((1:Int)+(i:Int))=some (i+1):=by unfold iS;rw[aR (_S.dE (_S.lK (cf _))),aR aE,MT]
         erw[wp,D,ys,wr,N7,GI,?_];let JN:=aH.Ag (i:=i+1) N7 (aH.sK Jt _ kL) rl.rd (p9 _) (p7 _);let sD:∀{o:HO},aI H (_L.bn zI D o):=λ{o} b o' e=>by rw[aU (e9 e n1.no)];erw[Jt b o' (s5 b o' e)]
         let tU:fw zI (_L.bn zI D (.bi (ys.set (i+1) lv))):=.iB N7;erw[Wk,wv];rw[LI,B8]at GS;let cO:na j ns ms=if aF (dQ ns ms)=0 then none else some (Rat.divInt ((j*aF ns*aF ms)^2) ((aF (dQ ns ms):Int)^2)):=rfl;show if decide ((aF (dQ ns ms):Int)>0)=true then _ else _;by_cases h0:aF (dQ ns ms)=0
         · rw[dh (zY (_S.Bu (m9 h0) aw))]
           erw[aX ?_];rw[aR h0]at cO;erw[sD,ys.set (i+1) lv,xz,xz,xz,_,bQ,?_,Z];rw[<-zV]at JN;let e:(lJ j tz os i).set (i+1) (mn (oR tz sp) (oR tz sq))=lJ j tz os (i+1):=by rw[<-VO j tz os i (_S.yz oG),GS];show _=List.set _ _ (dL _ (na j ns ms));rw[cO];rfl
           rw[<-e];erw[JN]
         · rw[cy aE]
           erw[bB ?_];rw[aV h0]at cO;let jl:(j*aF ns).natAbs<=50*100:=oz (by have:=aJ.j1;lia) (_S.nM l1 Z);let jl2:(j*aF ns*aF ms).natAbs<=50*100*100:=oz jl (_S.nM l2 Z);let cb:=Hv (λz hz=>by have:=fg.bd z hz;lia) (λz hz=>by have:=g9.bd z hz;lia) (ns:=ns) (ms:=ms);let wy:=sE cb;let oJ:(2:Nat)^64=18446744073709551616:=by decide
           erw[ww,.inr #[ma,_,3,.int j,wP,gk.go sD,Z,?_],B,Wk,.of_left (cB (by have:=aJ.j1;lia) (by have:=aJ.j1;lia)),Wk,.of_right (cB (_S.Hy aw) (_S.Nc l2 aw)),?_,B,wr,#[aw,aw,by rw[oJ];erw[kh jl2 aw]],Wk,#[aw,aw,by rw[oJ];lia],wT,zn,λv6 EL r6 fu=>?_]
           · show 0<(aF (dQ ns ms):Int)^2
             rw[fM,fM,md,kZ];erw[eY aE aE]
           · erw[kr (n:=64) ?_ aw]
             show((aF (dQ ns ms):Int)^2).natAbs<_;rw[fM,fM,md,kZ,oJ];have:=oz (a:=(aF (dQ ns ms):Int)) (b:=(aF (dQ ns ms):Int)) (m:=2000000) (n:=2000000) (_S.nM wy Z) (_S.nM wy Z)
             lia
           let Rc:bj EL v6 (Rat.divInt ((j*aF ns*aF ms)^2) ((aF (dQ ns ms):Int)^2)):=r6;let Tc:Bd 2000 (Rat.divInt ((j*aF ns*aF ms)^2) ((aF (dQ ns ms):Int)^2)):=(_O.Nf aJ.j1.1 aJ.j1.2 fg.bd g9.bd cO).sK aw;generalize Rat.divInt ((j*aF ns*aF ms)^2) ((aF (dQ ns ms):Int)^2)=cq at Rc Tc cO;let Zy:=fu _ _ (bQ (H:=zI) (a:=D) (o:=.bi (ys.set (i+1) lv)));let at3:fj (ys.set (i+1) lv) ((1:Int)+(i:Int))=some lv:=cn (_S.dE (_S.lK (cf _))) (by rw[MT,BX (_S.fD (_S.BA oG) ly)]);let agG:bj EL lv (mn (oR tz sp) (oR tz sq)):=jP (RD.sK fu _ (RD.t tU _ (p7 _) rl.rd));erw[wp,.inl #[D,_,wr,aK.of Zy,at3,wv],B,bM Z,λAX BK AO=>?_];let R1':=agG.go AO.ss;let R2':=Rc.go AO.ss;erw[AX,[lv,v6],[mn (oR tz sp) (oR tz sq),cq],Z,aK.of AO.at',#[R1',_O.ph T1 T2,R2',Tc,trivial],by simp,λc' lv2 q' aeN Zg jc=>?_];let aaW:mn (mn (oR tz sp) (oR tz sq)) cq=q':=by
            erw[uD ?_ (jc _ (by simp)) (jc _ (by simp))]
            match c',Zg with |0,e2=>cases e2;erw[.inl rfl] |1,e2=>cases e2;erw[.inr rfl]
           let G3:bj BK lv2 (mn (mn (oR tz sp) (oR tz sq)) cq):=by
            rw[aaW]
            match c',aeN,Zg with |0,e1,e2=>cases e1;cases e2;erw[R1'] |1,e1,e2=>cases e1;cases e2;erw[R2']
           let Zx:=AO.ss _ _ Zy;erw[wp,D,_,wr,Zx,(by rw[xB];erw[GI]),?_];let Vo:=aH.Ag (i:=i+1) Zx (aH.sK (fu.ao AO.ss) _ JN) G3.rd (by rw[<-zV];erw[p9 _]) (p7 _);erw[λb o' e=>by rw[aU (e9 e n1.no)];erw[AO.ss b o' (fu b o' (sD b o' e))],xz,xz,xz,xz,bQ,?_,Z];rw[OB,OB,<-zV]at Vo;let e:(lJ j tz os i).set (i+1) (mn (mn (oR tz sp) (oR tz sq)) cq)=lJ j tz os (i+1):=by rw[<-VO j tz os i (_S.yz oG),GS];show _=List.set _ _ (dL _ (na j ns ms));rw[cO];rfl
           rw[<-e,OB];erw[Vo]
   · rintro O H5 ⟨s5,ys,v1,v2,v3,v4,v5,v6,v7,dl,kL,rfl⟩
     let e:lJ j tz os ((⇑xs:Int)-1).toNat=dO j tz os:=by
      apply F3;intro k;by_cases hk:k<=⇑os
      · rw[Az j tz os _ hk,_O.VQ j tz os hk]
        congr 1;split
        ·rfl
        · have:k=⇑os:=by lia
          exact(_O.Kd j tz os k this).symm
      ·rw[nY (by rw[uq];erw[oW hk]),nY (by rw[_O.VP];erw[oW hk])]
     rw[e]at kL;erw[ww,k D ys H5 n1.no dl kL s5]
end
end _c
namespace _c
universe _L _l
section
inductive a3G|mk v ns sp k(_:vs=[v,.int k])(_:RD K H v (jk ns sp))(_:fU ⇑ns 1000 ns)(_:⇑ns<=1000)(_:0<=k)(_:k<=10^6)(_:∀v' H',RD K H' v' (Cm ns k)->aI H H'->Q v' H')
def ad0(hk:0<=k)(hq:0<q):(if n<0 then-((2*k*kf n+q)/(2*q))else(2*k*kf n+q)/(2*q))=kz (k*n) q:=by
 let e:2*k*kf n=2*((k*n).natAbs:Int):=by rw[Ew,ij,Rn,C3,a1G hk]
 rw[e];show(if n<0 then-(oo (k*n) q)else oo (k*n) q)=kz (k*n) q;rcases OS n 0 with hn|hn
 ·rw[aR hn]
  rcases OS 0 k with h0|h0
  ·have:k*n<0:=Int.mul_neg_of_pos_of_neg h0 hn
   unfold kz;rw[aV (ON this)]
  ·let e0:k=0:=C5 h0 hk
   rw[e0,F7,WE hq];have:=WE hq;unfold kz at this;rw[aR (aw)]at this
   lia
 ·rw[aV (zY hn)]
  have:0<=k*n:=fy hk hn;unfold kz;rw[aR this]
def QT:bA ["_law_line_here","_law_k","_law_lead_here","_law_found","_law_step","_law_far"] ["_law_line_here","_law_k"] (aY SY):=bJ aP
def a7x(AA:a0q):a0n "_law_stand" 2 a3G:=by
 exists AA.adU.has,QT,eQ λ_ _=>rfl
 ·let(v,ns,sp,kk,rfl,rd,ok,hz,hk,Y6,k):=h
  let nd:=QT.nd;erw[_,%[pS 2 nd (pf (Gr AA) hr %[0|az]),pS 3 nd (cY az),(gh fc Z (qc K Z (px K o0 aA)) (ba 4 nd) %[pS 5 nd (aM rY (aM cM (aM bO (aM bO aA u8) (eR (x:="abs") tj Z (AA.B.at "abs") vt %[4|az])) w4) (aM bO aA w4)),(fe (ji K Z L2 %[px K (cY %[5,rX rH P3|az]) (gY (x:="int") Bv Z (AA.B.at "int") xo %[fN jS M2 aA (bc _)|az])|az]))|aG]),aQ (gY (x:="tuple") (pP K Z) Z (AA.B.at "tuple") gu %[3|az])|aG],?_,B,ww,v,ns,sp,Z,rd,ok.ne,hz,λH1 s1=>?_];let(lp,lm):=ok.lead;erw[bM Z,λl H2 n2=>?_];let(a,b,rfl,ha,hb):=pk (RD.sK (s1.ao n2.ss) _ rd);erw[ww,.inr #[a,_,1,.ref b,wP,ha,Z,b,Z,#[_,hb],Yz (K:=K) (a:=b) (xs:=ns.map V.int) (λi O H3=>aI H1 H3/\aW K H3 b (ns.map V.int)/\H3 l=some (.bi (((ns.map λz=>kz (kk*z) (aF ns)).take i).map V.int))/\∃v1 v2,O=[some (.ref a),some (.int kk),some (.int (aF ns)),some (.ref l),v1,v2]) #[n2.ss,hb,n2.at',none,none,Z] (λi O H3 _ h=>h.2.1) ?_ ?_]]
  ·rintro i x O H3 hx ⟨s3,Yd,dl,v1,v2,rfl⟩
   erw[gH ?_];intro E1;obtain⟨n,en⟩:∃n,ns[i]? =some n:=by rw[bV]at hx;cases e:ns[i]? with |none=>rw[e]at hx;cases hx |some n=>erw[n,Z]
   cases Dl hx en;let nb:=ok.bd n (gA en);let hi:i<⇑ns:=(ck.mp en).1;let ab:kf n=(n.natAbs:Int):=Ew n;let pb:=Vz (k:=kk) (z:=n) (_S.hZ hk Y6 aw) nb;let eA:2*kk*kf n=2*((kk*n).natAbs:Int):=by rw[ab,ij,Rn,C3,a1G hk]
   erw[Wk,.of_left (cB aw aw),Wp,.of_left (cB (_S.AS hk aw) (_S.AR Y6 aw)),Wk,Wk,.of_left (cB aw aw),wr,#[aE,P5 aE],?_];let fn:=ad0 (n:=n) hk (show(0:Int)<aF ns from eG (cf _) (_S.hJ lp));erw[ww,.inl #[Z,_,aK.of dl],ZB,bM Z,λc H4 n4=>?_,B,Wk,.inr #[_,Z,?_]];let WJ:=n4.ss _ _ dl;let hat:fj ([.int ((2*kk*kf n+(aF ns:Int))/(2*(aF ns:Int))),.int (-((2*kk*kf n+(aF ns:Int))/(2*(aF ns:Int))))]:AT) (if decide (n<0)=true then 1 else 0)=some (.int (kz (kk*n) (aF ns))):=by
    rw[<-fn];by_cases hn:n<0
    ·rw[aR (cy hn),aR hn];rfl
    ·rw[aV (λz=>hn (kg z)),aV hn];rfl
   erw[.inl #[c,_,wr,aK.of n4.at',hat,?_],B,l,wr,WJ,zn]
   ·have:(1000:Nat)<sizeLine:=by decide
    rw[bC,kH,bC];lia
   erw[λb o e=>?_,aW.t (.iB WJ) (Yd.go n4.ss),?_,wT]
   ·rw[aU (e9 e n2.no)];erw[n4.ss b o (s3 b o e)]
   ·rw[bQ,mQ,bV,en,kn];rfl
  ·rintro O H3 ⟨s3,Yd,dl,v1,v2,rfl⟩
   rw[zT (by simp)]at dl;erw[ww,l,ww,.inl #[aK.of dl,λt H4 n4=>?_],B,k _ _ (gD (aW.of n4.at') (vP _)) (s1.ao (s3.ao n4.ss))]
def QX:bA ["_law_line_here","_law_stands","_law_found","_law_one","_law_other_here"] ["_law_line_here"] (aY T9):=bJ aP
inductive a3M|mk v ns sp(_:vs=[v])(_:RD K H v (jk ns sp))(_:fU ⇑ns 100 ns)(_:⇑ns<=1000)(_:∀l ys H',H l=none->H' l=some (.bi ys)->aH K H' ys (jy ns)->aI H H'->Q (.ref l) H')
def xO(ns:Ar):AC:=(List.range (aF ns+1)).map λ(j:Nat)=>Cm ns (j:Int)
def Q4(ns:Ar):bR (xO ns)=true:=cA.mpr λd hd=>by let(j,_,rfl):=gS.mp hd;erw[CC _]
def J5(h:i<=aF ns):(xO ns)[i]? =some (Cm ns (i:Int)):=by unfold xO;rw[bV,jN (jv h)];rfl
def af9(xs:AT):oP xs (some 1) none=xs.drop 1:=by
 unfold oP;let e:_H.cE ⇑xs 0 (some 1)=min 1 ⇑xs:=_H.Jn _ _ 1;rw[e,_H.Ug];rcases BP 0 ⇑xs with h|h
 ·rw[show min 1 ⇑xs=1 by lia,zT]
  rw[tO];erw[aZ _]
 ·have:xs=[]:=Iz.mp (iY h (fR _))
  subst this;rfl
def a7C(AA:a0q):a0n "_law_rows" 3 a3M:=by
 exists AA.adW.has,QX,fE λ_=>rfl
 ·let(v,ns,sp,rfl,rd,fg,hz,k):=h
  let nd:=QX.nd;let(lp,lm):=fg.lead;let ok:fU ⇑ns 1000 ns:=#[Z,λz hz=>by have:=fg.bd z hz;lia,fg.nz];erw[_,%[(Ga (i0:=1) nd Z (Or.inl Z) (N:=["_law_k","_law_line_here"]) (js:=[none,some 0]) Z Z Z (pZ Z (AA.B.at "range") %[aM cM (pf (Gr AA) hr %[0|az]) aA|az]) (λ_ _ _ _ _=>(ba 0 (hW aw))) (λ_ _ _ _ _=>fZ) (λ_ _ _ _ _=>(pf (a7x AA) hr %[1,0|az]))),pS 2 nd (cY az),(gh fc Z (lH K Z true true Z (AA.B.at "zip") %[1,Ay (Ae K rfl) u8 (Av aA) Aw|az]) (cX K rfl (n:=2) rfl %[ba 3 nd,ba 4 nd|cW]) (aG (fe (ji K Z w4 %[(gY (x:="tuple") (pP K Z) Z (AA.B.at "tuple") gu %[gX (N:=["_law_here","_law_there"]) (js:=[none,none]) rfl rfl rfl (lH K rfl false false rfl (AA.B.at "zip") %[3,4|az]) (λ_ _ _ _ _=>(cX K rfl (n:=2) rfl %[ba 0 (hW aw),ba 1 (hW aw)|cW])) (λ_ _ _ _ _=>fZ) (λ_ _ _ _ _=>(aM ip u8 o0))|az])|az])))),aQ w4|aG],?_,B,ww,v,ns,sp,Z,rd,ok.ne,hz,λH1 s1=>?_,B,wr,ww,_S.Eu (cf _) aw,_S.a0x lm aw,λD H2 n2=>?_];let e1:((aF ns:Int)+1).toNat=aF ns+1:=rfl;rw[e1];let lS:⇑(xO ns)=aF ns+1:=by simp[xO]
  erw[ZL (K:=K) (ds:=xO ns) _ n2 lS.symm aE (Q4 ns) ?_ ?_]
  ·intro i d H3 Q' ed s3 hq
   let hi:i<aF ns+1:=by rw[<-lS];exact(ck.mp ed).1
   rw[J5 (ki hi)]at ed;cases ed;erw[wp,v,ns,sp,ww,RD.sK (s1.ao s3) _ rd,ok,hz,zZ aw (cf _),aE,λu H4 ru s4=>hq u H4 s4 ?_];let e0:(0:Int)+(i:Int)=i:=by lia
   rw[e0]at ru;erw[ru]
  intro H3 ys s3 d3 r3;let ly:=⇑r3;rw[lS]at ly;erw[bM Z,λl H4 n4=>?_];let nl:H l=none:=by cases e:H l with |none=>rfl |some o=>have:=(s1.ao s3) _ _ e;rw[n4.no]at this;cases this
  let d4:=n4.ss _ _ d3;erw[ZB,D,ww,.inl #[aK.of d4,λc H5 n5=>?_]];let d5:=n5.ss _ _ d4;let WN:=n5.at';rw[af9]at WN;let r5:=aH.sK (n4.ss.ao n5.ss) _ r3;erw[D,c,Z,#[_,aK.of d5],#[_,aK.of n5.at'],?_,B,M9 (K:=K) (b1:=true) (b2:=true) (xs:=ys) (ys:=ys.drop 1) (aF ns) (by rw[tO];lia) (λi O H6=>aI H3 H6/\H6 D=some (.bi ys)/\H6 c=some (.bi (ys.drop 1))/\aH K H6 ys (xO ns)/\(∃zs,H6 l=some (.bi zs)/\aH K H6 zs ((jy ns).take i))/\∃v1 v2,O=[some v,some (.ref D),some (.ref l),v1,v2]) #[n4.ss.ao n5.ss,d5,WN,r5,#[[],n5.ss _ _ n4.at',cQ],none,none,Z] (λi O H6 _ h=>#[aK.of h.2.1,aK.of h.2.2.1]) ?_ ?_]
  ·rintro i x y O H6 ex ey ⟨s6,dD,dc,rD,⟨zs,dl,rz⟩,v1,v2,rfl⟩ T H7 n7
   erw[gH ?_];intro E2;let hi:i<aF ns:=by have:=(ck.mp ey).1;rw[tO]at this;lia
   let(dx,Bs,rx):=rD.get' i ex;rw[J5 (cw hi)]at Bs;cases Bs;rw[xC]at ey;let(dy,Ze,ry):=rD.get' (1+i) ey;rw[J5 (_S.a7j hi)]at Ze;cases Ze;let(a1,xs1,rfl,h1,q1):=(RD.sK n7.ss _ ry).cD;let e1:=q1.jm;subst e1;let(a0,xs0,rfl,h0,q0):=(RD.sK n7.ss _ rx).cD;let e0:=q0.jm;subst e0;erw[T,ww,aW.of n7.at',wE,B,ww,.inl #[Z,_,aK.of (n7.ss _ _ dl)],?_,B,wp,a0,a1,Z,#[_,h0],#[_,h1],λD2 H8 nw=>?_,B,wL (K:=K) (b1:=false) (b2:=false) (ds:=(fH ns i).map PyData.int) [] rfl h0 h1 nw (by simp[fH]) (by simpa[fH]using hz) (nA _) ?_ ?_]
   ·intro j x y d H9 Q' ex ey ed s9 hq
    let(m,em,rfl):=sx ed;unfold fH at em;rw[bV]at em ex ey;rw[bV]at ex ey;cases en:ns[j]? with |none=>rw[en]at em;cases em |some n=>
     rw[en]at em ex ey;cases em;cases ex;cases ey;erw[Wp,?_];let ee:((1+i:Nat):Int)=(i:Int)+1:=by lia
     rw[ee];erw[hq _ _ (aI.refl _) (eB _)]
   ·intro H9 ws s9 d9 r9
    erw[D2,ww,.inl #[aK.of d9,λt jK uC=>?_]];let Ak:=n7.ss.ao (s9.ao uC.ss);let Zz:=Ak _ _ dl;let len:=⇑rz;rw[kH,vL]at len;erw[l,zs,ww,Z,Zz,zn]
    ·have:(1000:Nat)<sizeLine:=by decide
     lia
    let tt:fw jK (_L.bn jK l (.bi (zs++[.ref t]))):=.iB Zz;let lD:D≠l:=λe=>by rw[<-e]at n4;have:=n4.no;rw[d3]at this;cases this
    let lc:c≠l:=λe=>by rw[e]at n5;have:=n5.no;rw[n4.at']at this;cases this
    erw[λb o e=>?_,zn,?_,#[_,bQ,?_],wT]
    ·rw[aU (e9 e n4.no)];erw[Ak b o (s6 b o e)]
    ·rw[aU lD];erw[Ak _ _ dD]
    ·rw[aU lc];erw[Ak _ _ dc]
    ·erw[aH.t tt _ (Q4 ns) (aH.sK Ak _ rD)]
    ·rw[mQ,G2 hi]
     let nt:bR ((jy ns).take i)=true:=cA.mpr λd hd=>cA.mp (G1 ns) d (BR hd);exact(aH.t tt _ nt (aH.sK Ak _ rz)).append %[RD.t tt _ (CC _) (gD (aW.of uC.at') (aH.sK uC.ss _ r9))|cQ]
  ·rintro O H6 ⟨s6,dD,dc,rD,⟨zs,dl,rz⟩,v1,v2,rfl⟩
   rw[zT (by rw[vL];erw[aZ _])]at rz;erw[ww,k l zs H6 nl dl rz ((s1.ao s3).ao s6)]
end
end _c
namespace _c
universe _L _d _l
section
inductive a3D|mk m sq rs r f j ti q(_:vs=[m,sq])(_:RD K H m (fC rs r f j ti))(_:bj H sq q)(_:Bd 2000 q)(_:1<=ti)(_:ti<=100)(_:0<q.num)(_:∀T,1<=T->T.natAbs<2^2400->fh ti q T=true->fh ti q (T-1)=false->∀H',aI H H'->Q (.int T) H')
def QM:bA ["_law_machine_here","_law_square","_law_wanted","_law_low","_law_high","_law_half"] ["_law_machine_here","_law_square"] (aY SR):=bJ aP
def W7(AA:a0q):a0n "_law_ticks" 1 a3D:=by
 erw[AA.adR.has QM (λvs H Q E h=>?_) (λ_ _ _ _ _ _=>eQ λ_ _=>rfl) (λf aO A outer s H vs Q E hr h=>?_)]
 · let(m,sq,rs,r,f,j,ti,q,rfl,_):=h
   rfl
 · let(m,sq,rs,r,f,j,ti,q,rfl,rm,(p,rfl,hp),bq,t1,t2,hq,k):=h
   let nd:=QM.nd;erw[_,%[pS 2 nd (aM bO (aM mx (px K o0 aA) aA) (px K u8 aA)),fz (dA %[aA,aA|az]) (cX K Z (n:=2) Z %[ba 3 nd,ba 4 nd|cW]),rS fc (bL jS (aM bO (aM bO M2 M2) (px K u8 aA)) w4 (bc _)) (aG (rV (i:=3) (j:=4) Z nd Z Z aw Z Z %[4,aM bO aA M2|az] Z)),rS fc (bL qh (aM ip M2 L2) aA (bc _)) %[pS 5 nd (aM rY (aM cM L2 M2) aA),bp (bL jS (aM bO (aM bO P3 P3) (px K u8 aA)) w4 (bc _)) (aG (pS 3 nd P3)) (aG (pS 4 nd P3))|aG],aQ M2|aG],?_];let(a,b,rfl,ha,hb):=nC rm;let m1:(ti*ti).natAbs<=100*100:=by rw[ij];erw[pO (_S.hZ t1 t2 aw) (_S.hZ t1 t2 aw)]
   let eP:ti^(2:Int).toNat=ti*ti:=by show ti^2=ti*ti;rw[fM,fM,md,kZ]
   let lim:(ti*ti*(q.den:Int)).natAbs<2^2399:=by let hd:=bq.den;rw[ij];have:(q.den:Int).natAbs=q.den:=rfl;rw[this];have:=qm (n:=14) (m:=2000) (a:=(ti*ti).natAbs) (b:=q.den) (kh m1 aw) hd;erw[dJ this (rA aw aw)]
   let p0:0<ti*ti*(q.den:Int):=eY (eY (_S.jC t1) (_S.jC t1)) (den_pos q);let e2:(2:Nat)^2400=2^2399*2:=j02 2 2399;let Fo:∀{t:Int},t.natAbs<2^2400->Wd (t*t):=λ{t} tw=>kr (n:=4800) (by rw[ij];erw[qm (n:=2400) (m:=2400) tw tw]) aw;let wt:∀{t:Int},t.natAbs<2^2400->Wd t:=λ{t} tw=>kr tw aw;erw[ww,.inr #[a,_,4,.int ti,wP,ha,Z,?_]]
   refine ⟨_, _, rfl, rfl, ⟨by decide, by decide, by have:(2:Nat)^64=18446744073709551616:=by decide
                                                     lia⟩,?_⟩;erw[ww,.inr #[p,_,1,.int q.den,wP,hp,Z,?_],B,wr,by rw[eP];erw[.of_left (cB (_S.vX m1 aw) (_S.qj m1 aw))],?_];let eW:ti^(2:Int).toNat*(q.den:Int)=ti*ti*(q.den:Int):=by rw[eP]
   let Z9:∀t:Int,decide (t*t*q.num<ti^(2:Int).toNat*(q.den:Int))= !fh ti q t:=λt=>by unfold fh;rw[eW,<-decide_not];erw[decide_eq_decide.mpr aE]
   erw[bM Z,λc0 H0 n0=>?_,B,c0,ww,aW.of n0.at',wE];let GQ:=hp.go n0.ss;let k':∀T:Int,1<=T->T.natAbs<2^2400->fh ti q T=true->fh ti q (T-1)=false->Q (.int T) H0:=λT a1 a2 a3 a4=>(k T a1 a2 a3 a4) H0 n0.ss;generalize hL:ti*ti*(q.den:Int)=L at lim p0;erw[rC (λO H2=>H2=H0/\∃(lo x:Int),O=[some (.ref a),some (.ref p),some (.int (ti^(2:Int).toNat*(q.den:Int))),some (.int lo),some (.int x),none]/\0<=lo/\lo<x/\x<=2*L/\fh ti q lo=false) (λO _=>match O with|[_,_,_,_,some (.int x),_]=>(L-x).toNat|_=>0) ?_ ?_ ?_]
   ·erw[Z,0,1,Z,aw,aw,_S.mulL (_S.lL p0) aw,Z5 t1]
   · rintro O H2 ⟨rfl,lo,x,rfl,l0,lx,xL,hx⟩
     erw[zD ?_];intro E1;let xw:x.natAbs<2^2400:=by lia
     erw[Wp,jO (wt xw).bits (wt xw).bits,ww,.inr #[p,_,0,.int q.num,wP,GQ,Z,wr,jO (Fo xw).bits bq.wn.bits,?_],B,Wk,wv];show if decide (x*x*q.num<ti^(2:Int).toNat*(q.den:Int))=true then _ else _;rw[Z9];cases uQ:fh ti q x with
     |false=>
       let bu:x<L:=by
        by_cases bu:x<L
        ·erw[bu]
        ·rw[Z6 hq (gT (eG l0 lx)) aE]at uQ;cases uQ
       erw[bB ?_,B,Wp,.of_left (cB aw aw),_,wv,B,#[Z,x,2*x,Z,gT (eG l0 lx),aE,_S.KR (gT bu) aw,uQ],?_];show(L-2*x).toNat<(L-x).toNat
       lia |true=>
       erw[aX ?_,B,rC (λO H3=>H3=H2/\∃(lo hi:Int)(v:Option V),O=[some (.ref a),some (.ref p),some (.int (ti^(2:Int).toNat*(q.den:Int))),some (.int lo),some (.int hi),v]/\0<=lo/\lo<hi/\hi<=2*L/\fh ti q lo=false/\fh ti q hi=true) (λO _=>match O with|[_,_,_,some (.int y),some (.int x),_]=>(x-y).toNat|_=>0) ?_ ?_ ?_]
       ·erw[Z,lo,x,none,Z,aE,aE,xL,hx,uQ]
       · rintro O H3 ⟨rfl,lo,hi,v,rfl,l0,lh,yY,E5,zo⟩
         erw[zD ?_];intro E2;erw[Wp,jp,B,eV (λhc=>?_) (λhc=>?_)]
         · let LO:hi-lo>1:=kg hc
           erw[Wp,wr,#[aw,kr (n:=2) aw aw],?_];let mw:((lo+hi)/2).natAbs<2^2400:=by lia
           erw[Wp,jO (wt mw).bits (wt mw).bits,ww,.inr #[p,_,0,.int q.num,wP,GQ,Z,wr,jO (Fo mw).bits bq.wn.bits,?_],B,Wk,wv];show if decide ((lo+hi)/2*((lo+hi)/2)*q.num<ti^(2:Int).toNat*(q.den:Int))=true then _ else _;rw[Z9];cases hm:fh ti q ((lo+hi)/2)with
           |true=>
             erw[aX ?_,B,ww,#[Z,lo,wT,l0,aE,aE,E5,hm],?_];show((lo+hi)/2-lo).toNat<(hi-lo).toNat
             lia |false=>
             erw[bB ?_,B,ww,#[Z,_,hi,ww,aE,aE,yY,hm,zo],?_];show(hi-(lo+hi)/2).toNat<(hi-lo).toNat
             lia
         · let hle:¬hi-lo>1:=λz=>hc (cy z)
           let e:lo=hi-1:=by lia
           subst e;erw[ww,k' hi (fW (_S.lK l0) (_S.lL lh)) aE zo E5]
       · rintro O H2 Q1 Q2 hq ⟨v1,e1,v2,e2,i,j,e3,e4,i2,j2,e5,e6,kk,e7,q⟩
         erw[v1,e1,v2,e2,i,j,e3,e4,i2,j2,e5,e6,kk,e7,hq _ _ q]
   · rintro O H2 Q1 Q2 hq ⟨v1,e1,v2,e2,i,j,e3,e4,mo,v3,e5,h⟩
     erw[v1,e1,v2,e2,i,j,e3,e4,mo,v3,e5,?_];rcases h with⟨a,xs,ii,x,f1,f2,f3,f4,i2,j2,g1,g2,g3,v4,g4,i3,j3,g5,g6,kk,g7,q⟩|⟨a,xs,ii,x,f1,f2,f3,f4,i2,j2,g1,g2,g3,v4,g4,i3,j3,g5,g6,kk,g7,q⟩
     ·erw[.inl #[a,xs,ii,x,f1,f2,f3,f4,i2,j2,g1,g2,g3,v4,g4,i3,j3,g5,g6,kk,g7,hq _ _ q]]
     ·erw[.inr #[a,xs,ii,x,f1,f2,f3,f4,i2,j2,g1,g2,g3,v4,g4,i3,j3,g5,g6,kk,g7,hq _ _ q]]
end
section
def Pe:j6 "tuple" "list"=false:=by decide
def Pf:j6 "list" "tuple"=false:=by decide
def a0v(n:Nat):(List.replicate n true).all id=true:=by induction n with |zero=>rfl |succ n ih=>rw[vw,OM,ih];rfl
def a0Q(D:aj):Prop:=(∃z,D= .int z)\/∃s,D= .str s/\SeqAt.shaped (.str s)=true/\PyData.eqv (.str s) (.str s)=true
def Nx(A:aj->Prop)(D:aj):Prop:=a0Q D\/∃ds,(D= .tuple ds\/D= .list ds)/\⇑ds<=100000/\∀x∈ds,A x
inductive aij(A:aj->Prop)(K:ag)(vs:AT)(H:Hp)(Q:VK):Prop |mk v u D(_:vs=[v,u])(_:RD K H v D)(_:RD K H u D)(_:A D)(_:∀H',aI H H'->Q (.bl true) H')
def Cr(A:aj->Prop)(K:ag):Sp:=λvs H Q _=>aij A K vs H Q
def Jl:bA ["_law_found","_law_due"] ["_law_found","_law_due"] (aY Jr):=bJ aP
def a8l(AA:a0q):a0n "_law_alike" 1 (Cr (λ_=>False) K):=by
 erw[AA.Hj.has Jl (λvs H Q E h=>?_) (λ_ _ _ _ _ _=>eQ λ_ _=>rfl) (λf aO A outer s H vs Q E hr h=>?_)]
 ·let(v,u,D,rfl,_,_,h,_):=h
  erw[h.elim]
 ·let(v,u,D,rfl,_,_,h,_):=h
  erw[h.elim]
def Km(hn:1<=n)(F:FA K mg "_law_alike" Jr)(B:vo mg)(Hc:a0n "_law_number" 1 Cq)(yX:a0n "_law_alike" n (Cr A K)):a0n "_law_alike" (n+1) (Cr (Nx A) K):=by
 erw[F.has Jl (λvs H Q E h=>?_) (λ_ _ _ _ _ _=>eQ λ_ _=>rfl) (λf aO A' outer s H vs Q E hr h=>?_)]
 ·let(v,u,D,rfl,_):=h
  rfl
 ·let(v,u,D,rfl,rv,ru,hD,k):=h
  let nd:=Jl.nd;rcases hD with(⟨z,rfl⟩|⟨z,rfl,sh,eq⟩)|⟨ds,rfl|rfl,hz,hA⟩
  ·erw[_,%[(bp (cg (dk K B %[1,dA %[cS (x:="list") (v:=.ty "list") Z (B.at "list") jt rfl,cS (x:="tuple") (v:=.ty "tuple") rfl (B.at "tuple") gu rfl|az]|az])) %[bp (PW.pt (iQ (bL (j9 K Z hr.units) (dk K B %[1,cS (x:="list") (v:=.ty "list") Z (B.at "list") jt rfl|az]) (dk K B %[0,cS (x:="list") (v:=.ty "list") rfl (B.at "list") jt rfl|az]) (bc _)) (lC (bL (j9 K rfl hr.units) (dk K B %[1,cS (x:="tuple") (v:=.ty "tuple") rfl (B.at "tuple") gu rfl|az]) (dk K B %[0,cS (x:="tuple") (v:=.ty "tuple") rfl (B.at "tuple") gu rfl|az]) (bc _))))) (aG (aQ jB)) bE,(aQ (iE (fN (cJ K Z hr.units) (dC K B %[0|az]) (dC K B %[1|az]) (bc _)) (iR (eR (x:="all") (vh K Z Z) Z (B.at "all") xq %[gX (N:=["_law_one","_law_two"]) (js:=[none,none]) rfl rfl rfl (lH K rfl false false rfl (B.at "zip") %[0,1|az]) (λ_ _ _ _ _=>(cX K rfl (n:=2) rfl %[ba 0 (hW aw),ba 1 (hW aw)|cW])) (λ_ _ _ _ _=>fZ) (λ_ _ _ _ _=>(uo yX (hr.sK (aZ _)) rfl %[0,1|az]))|az]))))|aG] bE),bp (cg (dk K B %[1,cS (x:="str") (v:=.ty "str") Z (B.at "str") xn rfl|az])) (aG (aQ (iE (dk K B %[0,cS (x:="str") (v:=.ty "str") Z (B.at "str") xn rfl|az]) (iR (fN (cJ K rfl hr.units) o0 u8 (bc _)))))) bE,aQ (iE (uo Hc (hr.sK aE) Z %[0|az]) (iR (fN (cJ K Z hr.units) o0 u8 (bc _))))|aG],?_]
   cases rv.int_inv;cases ru.int_inv;erw[ww,bM Z,λtt H1 n1=>.inr #[_,"int",tt,["list","tuple"],ww,n1.at',Z,aw,WP,aX ?_],B,ww,.inl #[_,"int","str",ww,Z,aw,WP,aX ?_],B,ww,_,"int",Z,WP,bB ?_,B,wp,.inl #[wr,?_]];show Q (.bl (decide (z=z))) H1;rw[cy rfl];erw[k H1 n1.ss]
  ·erw[_,%[(bp (cg (dk K B %[1,dA %[cS (x:="list") (v:=.ty "list") Z (B.at "list") jt rfl,cS (x:="tuple") (v:=.ty "tuple") rfl (B.at "tuple") gu rfl|az]|az])) %[bp (PW.pt (iQ (bL (j9 K Z hr.units) (dk K B %[1,cS (x:="list") (v:=.ty "list") Z (B.at "list") jt rfl|az]) (dk K B %[0,cS (x:="list") (v:=.ty "list") rfl (B.at "list") jt rfl|az]) (bc _)) (lC (bL (j9 K rfl hr.units) (dk K B %[1,cS (x:="tuple") (v:=.ty "tuple") rfl (B.at "tuple") gu rfl|az]) (dk K B %[0,cS (x:="tuple") (v:=.ty "tuple") rfl (B.at "tuple") gu rfl|az]) (bc _))))) (aG (aQ jB)) bE,(aQ (iE (fN (cJ K Z hr.units) (dC K B %[0|az]) (dC K B %[1|az]) (bc _)) (iR (eR (x:="all") (vh K Z Z) Z (B.at "all") xq %[gX (N:=["_law_one","_law_two"]) (js:=[none,none]) rfl rfl rfl (lH K rfl false false rfl (B.at "zip") %[0,1|az]) (λ_ _ _ _ _=>(cX K rfl (n:=2) rfl %[ba 0 (hW aw),ba 1 (hW aw)|cW])) (λ_ _ _ _ _=>fZ) (λ_ _ _ _ _=>(uo yX (hr.sK (aZ _)) rfl %[0,1|az]))|az]))))|aG] bE),bp (cg (dk K B %[1,cS (x:="str") (v:=.ty "str") Z (B.at "str") xn rfl|az])) (aG (aQ (iE (dk K B %[0,cS (x:="str") (v:=.ty "str") Z (B.at "str") xn rfl|az]) (iR (fN (cJ K rfl hr.units) o0 u8 (bc _)))))) bE,aQ (iE (uo Hc (hr.sK aE) Z %[0|az]) (iR (fN (cJ K Z hr.units) o0 u8 (bc _))))|aG],?_]
   cases rv.str_inv;cases ru.str_inv;erw[ww,bM Z,λtt H1 n1=>.inr #[_,"str",tt,["list","tuple"],ww,n1.at',Z,aw,WP,aX ?_],B,ww,.inl #[_,"str","str",ww,Z,aw,WP,bB ?_],B,ww,.inl #[_,"str","str",ww,Z,aw,WP,bB ?_],B,wp,.inr #[xz,cF _,cF _,sh,sh,?_]];rw[eq];erw[k H1 n1.ss]
  ·erw[_,%[(bp (cg (dk K B %[1,dA %[cS (x:="list") (v:=.ty "list") Z (B.at "list") jt rfl,cS (x:="tuple") (v:=.ty "tuple") rfl (B.at "tuple") gu rfl|az]|az])) %[bp (PW.pt (iQ (bL (j9 K Z hr.units) (dk K B %[1,cS (x:="list") (v:=.ty "list") Z (B.at "list") jt rfl|az]) (dk K B %[0,cS (x:="list") (v:=.ty "list") rfl (B.at "list") jt rfl|az]) (bc _)) (lC (bL (j9 K rfl hr.units) (dk K B %[1,cS (x:="tuple") (v:=.ty "tuple") rfl (B.at "tuple") gu rfl|az]) (dk K B %[0,cS (x:="tuple") (v:=.ty "tuple") rfl (B.at "tuple") gu rfl|az]) (bc _))))) (aG (aQ jB)) bE,(aQ (iE (fN (cJ K Z hr.units) (dC K B %[0|az]) (dC K B %[1|az]) (bc _)) (iR (eR (x:="all") (vh K Z Z) Z (B.at "all") xq %[gX (N:=["_law_one","_law_two"]) (js:=[none,none]) rfl rfl rfl (lH K rfl false false rfl (B.at "zip") %[0,1|az]) (λ_ _ _ _ _=>(cX K rfl (n:=2) rfl %[ba 0 (hW aw),ba 1 (hW aw)|cW])) (λ_ _ _ _ _=>fZ) (λ_ _ _ _ _=>(uo yX (hr.sK (aZ _)) rfl %[0,1|az]))|az]))))|aG] bE),bp (cg (dk K B %[1,cS (x:="str") (v:=.ty "str") Z (B.at "str") xn rfl|az])) (aG (aQ (iE (dk K B %[0,cS (x:="str") (v:=.ty "str") Z (B.at "str") xn rfl|az]) (iR (fN (cJ K rfl hr.units) o0 u8 (bc _)))))) bE,aQ (iE (uo Hc (hr.sK aE) Z %[0|az]) (iR (fN (cJ K Z hr.units) o0 u8 (bc _))))|aG],?_]
   let(va,xs,rfl,hV,dP):=rv.cD;let(ua,ys,rfl,hU,kO):=ru.cD;let lx:=⇑dP;let ly:=⇑kO;erw[ww,bM Z,λtt H1 n1=>.inr #[_,"tuple",tt,["list","tuple"],ww,n1.at',.inr #[Z,_,hU.go n1.ss],aw,WP,bB ?_]];let s1:=n1.ss;erw[ww,.inl #[_,"tuple","list",ww,.inr #[Z,_,hU.go s1],aw,Pe,ww,.inl #[_,"tuple","list",ww,.inr #[Z,_,hV.go s1],aw,Pe,.inr #[.bool false,.bool false,vQ _,vQ _,Z,WP,aX ?_]]],B,ww,.inl #[_,"tuple","tuple",ww,.inr #[Z,_,hU.go s1],aw,Pc,ww,.inl #[_,"tuple","tuple",ww,.inr #[Z,_,hV.go s1],aw,Pc,.inr #[.bool true,.bool true,vQ _,vQ _,Z,WP,aX ?_]]],B,ww,va,ww,.inr (hV.go s1),ww,ua,ww,.inr (hU.go s1),.inl #[_,_,Z,Z,_,Z,?_]];rw[cy (show(⇑xs:Int)=(⇑ys:Int) by lia)];erw[bB ?_,B,wp,va,ua,Z,#[_,hV.go s1],#[_,hU.go s1],λD2 H2 n2=>?_,B,ZO (K:=K) (b1:=false) (b2:=false) (xs:=xs) (ys:=ys) (bs:=List.replicate ⇑ds true) _ Z (hV.go s1) (hU.go s1) n2 (by rw[BW];lia) (by rw[BW];lia) ?_ ?_]
   ·intro q x y b H3 Q' ex ey eb s3 hq
    let jo:b=true:=by
     rw[OK]at eb;split at eb
     ·exact(fm eb).symm
     ·cases eb
    subst jo;let fu:=s1.ao s3;let(d1,e1,r1):=dP.get' q ex;let(d2,e2,r2):=kO.get' q ey;rw[e1]at e2;cases e2;erw[wp,x,y,d1,Z,RD.sK fu _ r1,RD.sK fu _ r2,hA d1 (gA e1),λH4 s4=>hq H4 s4]
   ·intro H3 s3 d3
    erw[D2,ww,aK.of d3,?_];rw[a0v];erw[k H3 (s1.ao s3)]
  ·erw[_,%[(bp (cg (dk K B %[1,dA %[cS (x:="list") (v:=.ty "list") Z (B.at "list") jt rfl,cS (x:="tuple") (v:=.ty "tuple") rfl (B.at "tuple") gu rfl|az]|az])) %[bp (PW.pt (iQ (bL (j9 K Z hr.units) (dk K B %[1,cS (x:="list") (v:=.ty "list") Z (B.at "list") jt rfl|az]) (dk K B %[0,cS (x:="list") (v:=.ty "list") rfl (B.at "list") jt rfl|az]) (bc _)) (lC (bL (j9 K rfl hr.units) (dk K B %[1,cS (x:="tuple") (v:=.ty "tuple") rfl (B.at "tuple") gu rfl|az]) (dk K B %[0,cS (x:="tuple") (v:=.ty "tuple") rfl (B.at "tuple") gu rfl|az]) (bc _))))) (aG (aQ jB)) bE,(aQ (iE (fN (cJ K Z hr.units) (dC K B %[0|az]) (dC K B %[1|az]) (bc _)) (iR (eR (x:="all") (vh K Z Z) Z (B.at "all") xq %[gX (N:=["_law_one","_law_two"]) (js:=[none,none]) rfl rfl rfl (lH K rfl true true rfl (B.at "zip") %[0,1|az]) (λ_ _ _ _ _=>(cX K rfl (n:=2) rfl %[ba 0 (hW aw),ba 1 (hW aw)|cW])) (λ_ _ _ _ _=>fZ) (λ_ _ _ _ _=>(uo yX (hr.sK (aZ _)) rfl %[0,1|az]))|az]))))|aG] bE),bp (cg (dk K B %[1,cS (x:="str") (v:=.ty "str") Z (B.at "str") xn rfl|az])) (aG (aQ (iE (dk K B %[0,cS (x:="str") (v:=.ty "str") Z (B.at "str") xn rfl|az]) (iR (fN (cJ K rfl hr.units) o0 u8 (bc _)))))) bE,aQ (iE (uo Hc (hr.sK aE) Z %[0|az]) (iR (fN (cJ K Z hr.units) o0 u8 (bc _))))|aG],?_]
   let(va,xs,rfl,hV,dP):=rv.lst_inv;let(ua,ys,rfl,hU,kO):=ru.lst_inv;let lx:=⇑dP;let ly:=⇑kO;erw[ww,bM Z,λtt H1 n1=>.inr #[_,"list",tt,["list","tuple"],ww,n1.at',.inl #[Z,_,hU.go n1.ss],aw,WP,bB ?_]];let s1:=n1.ss;erw[ww,.inl #[_,"list","list",ww,.inl #[Z,_,hU.go s1],aw,Pg,ww,.inl #[_,"list","list",ww,.inl #[Z,_,hV.go s1],aw,Pg,.inr #[.bool true,.bool true,vQ _,vQ _,Z,WP,aX ?_]]],B,ww,.inl #[_,"list","tuple",ww,.inl #[Z,_,hU.go s1],aw,Pf,ww,.inl #[_,"list","tuple",ww,.inl #[Z,_,hV.go s1],aw,Pf,.inr #[.bool false,.bool false,vQ _,vQ _,Z,WP,aX ?_]]],B,ww,va,ww,.inl (hV.go s1),ww,ua,ww,.inl (hU.go s1),.inl #[_,_,Z,Z,_,Z,?_]];rw[cy (show(⇑xs:Int)=(⇑ys:Int) by lia)];erw[bB ?_,B,wp,va,ua,Z,#[_,hV.go s1],#[_,hU.go s1],λD2 H2 n2=>?_,B,ZO (K:=K) (b1:=true) (b2:=true) (xs:=xs) (ys:=ys) (bs:=List.replicate ⇑ds true) _ Z (hV.go s1) (hU.go s1) n2 (by rw[BW];lia) (by rw[BW];lia) ?_ ?_]
   ·intro q x y b H3 Q' ex ey eb s3 hq
    let jo:b=true:=by
     rw[OK]at eb;split at eb
     ·exact(fm eb).symm
     ·cases eb
    subst jo;let fu:=s1.ao s3;let(d1,e1,r1):=dP.get' q ex;let(d2,e2,r2):=kO.get' q ey;rw[e1]at e2;cases e2;erw[wp,x,y,d1,Z,RD.sK fu _ r1,RD.sK fu _ r2,hA d1 (gA e1),λH4 s4=>hq H4 s4]
   ·intro H3 s3 d3
    erw[D2,ww,aK.of d3,?_];rw[a0v];erw[k H3 (s1.ao s3)]
end
end _c
namespace _c
universe _L _d _l _C _P
open _O (oR na dL iN ce iF sB dO OkI OkIs)
section
def agf{ls hs:Da}{lo hi:Rat}(l1:lo∈ls)(l2:∀l∈ls,l<=lo)(h1:hi∈hs)(h2:∀h∈hs,hi<=h):(ls.any λl=>hs.any λh=>decide (h<l))=decide (hi<lo):=by rw[tT,tP,Oc];erw[λ#[l,hl,e]=>?_,λe=>#[lo,l1,tP.mpr #[hi,h1,cy e]]];let(h,hh,e):=tP.mp e;let e:=kg e;erw[Rat.not_le.mp λhle=>pM.mpr (cu (l2 l hl) (cu hle (h2 h hh))) e]
def Vr(h:aW K H a [.int z,.int 1]):bj H (.ref a) (z:Rat):=by erw[a,Z,?_];rw[Oh,Oi];erw[h]
def a0e{z:Int}(h:z.natAbs<=1000):Bd 2000 (z:Rat):=#[by rw[Oh];erw[kh h (dJ (by decide:1000<2^10) (rA aw aw))],by rw[Oi];erw[Nat.one_lt_two_pow aw]]
def D5(e b:Option Rat)(i:Nat):Option Rat:=if i=0 then e else b
def vc(r f:Int)(i:Nat):Int:=if i=0 then f else r
def u9(r f:Int)(i:Nat):Int:=if i=0 then r else f
def mD(r f:Int)(e b:Option Rat):Nat->List Rat |0=>[0] |i+1=>mD r f e b i++(D5 e b i).toList.map λq=>q+((-(vc r f i):Int):Rat)
def qy(r f:Int)(bd:Rat)(e b:Option Rat):Nat->List Rat |0=>[bd] |i+1=>qy r f bd e b i++(D5 e b i).toList.map λq=>q+(u9 r f i:Rat)
def Sk:bA ["_law_machine_here","_law_bound","_law_ahead","_law_behind","_law_low","_law_high","_law_square","_law_down","_law_up","_law_least_one"] ["_law_machine_here","_law_bound","_law_ahead","_law_behind"] (aY Uv):=bJ aP
def a87(AA:a0q):a0n "_law_fits" 3 Qv:=by
 exists AA.aeb.has,Sk,wX λ_ _ _ _=>rfl
 ·let(m,bv,ev,gv,rs,r,f,j,t,bd,e,b,rfl,rm,aJ,Rb,bb,Re,be,Rg,bg,k):=h
  let nd:=Sk.nd;erw[_,%[(rV (i:=4) (j:=5) Z nd Z Z aw Z Z %[dA %[aA,aA|az],1|az] Z),(gh fc Z (qe K Z (cY %[dA %[2,px K o0 aA,px K o0 aA|az],dA %[3,px K o0 aA,px K o0 aA|az]|az])) (cX K Z (n:=3) Z %[ba 6 nd,ba 7 nd,ba 8 nd|cW]) (aG (bp (bL qg W1 gM (bc _)) %[(pS 9 nd (pf (W8 AA) hr %[6,dA %[rX rH a0g,aA|az]|az])),jQ (bp (cg (pf (CW AA) hr %[4,9|az])) (aG (pS 4 nd a0l)) bE),(pS 5 nd (pf (Gp AA) hr %[(cY %[5,(pf (W8 AA) hr %[6,dA %[8,aA|az]|az])|az])|az]))|aG] bE))),aQ (y6 (pf (CW AA) hr %[5,4|az]))|aG],?_];let(ma,mb,rfl,gk,mE):=nC rm;let fY:=aJ.r1;let da:=aJ.f1;erw[bM Z,λl0 H1 n1=>?_,B,ww,_,wv];let R0:bj H1 (.ref l0) 0:=#[l0,Z,aW.of n1.at'];let b0:Bd 1950 (0:Rat):=#[aw,aw];erw[wp,.inr #[ma,_,2,.int f,wP,gk.go n1.ss,WP,.inr #[ma,_,1,.int r,wP,gk.go n1.ss,Z,?_]],B,bM Z,λt0 H2 n2=>?_];let s2:=n1.ss.ao n2.ss;erw[wp,.inr #[ma,_,1,.int r,wP,gk.go s2,WP,.inr #[ma,_,2,.int f,wP,gk.go s2,Z,?_]],B,bM Z,λt1 H3 n3=>?_];let s3:=s2.ao n3.ss;erw[bM Z,λll H4 n4=>?_];let s4:=s3.ao n4.ss;let T0:H4 t0=some (.tup [ev,.int f,.int r]):=n4.ss _ _ (n3.ss _ _ n2.at');let T1:H4 t1=some (.tup [gv,.int r,.int f]):=n4.ss _ _ n3.at';let dP:∀i x,([.ref t0,.ref t1]:AT)[i]? =some x->i<2/\∃ta sv,x= .ref ta/\H4 ta=some (.tup [sv,.int (vc r f i),.int (u9 r f i)])/\mK H4 sv (D5 e b i)/\BF 1900 (D5 e b i):=by
   intro i x ex
   match i,ex with |0,ex=>cases ex;erw[aw,t0,ev,rfl,T0,Re.go s4,be] |1,ex=>cases ex;erw[aw,t1,gv,rfl,T1,Rg.go s4,bg]
  let du:∀i,1<=vc r f i/\vc r f i<=50/\1<=u9 r f i/\u9 r f i<=50:=λi=>by unfold vc u9;split<;>lia
  erw[ll,Z,#[_,aK.of n4.at'],Bk (K:=K) (a:=ll) (xs:=[.ref t0,.ref t1]) (λi O H5=>aI H4 H5/\∃lv hv v6 v7 v8 v9 lo hi,bj H5 lv lo/\bj H5 hv hi/\Bd 1950 lo/\Bd 1950 hi/\lo∈mD r f e b i/\(∀l∈mD r f e b i,l<=lo)/\hi∈qy r f bd e b i/\(∀h∈qy r f bd e b i,hi<=h)/\O=[some (.ref ma),some bv,some ev,some gv,some lv,some hv,v6,v7,v8,v9]) ?_ (λi O H5 _ h=>aK.of (h.1 _ _ n4.at')) ?_ ?_]
  ·erw[aI.refl _,.ref l0,bv,none,none,none,none,0,bd,R0.go (n2.ss.ao (n3.ss.ao n4.ss)),Rb.go s4,b0,bb.sK aw,by simp[mD],λl hl=>?_,by simp[qy],λh hh=>?_,Z]
   ·have:l=0:=by simpa[mD]using hl
    rw[this];erw[fG]
   ·have:h=bd:=by simpa[qy]using hh
    rw[this];erw[fG]
  ·rintro i x O H5 ex ⟨s5,lv,hv,v6,v7,v8,v9,lo,hi,Rl,Rh,bl,bh,m1,m2,m3,m4,rfl⟩
   erw[gH ?_];intro E1;let(uN,ta,sv,rfl,hT,oV,oB):=dP i x ex;let(d1,d2,u1,u2):=du i;erw[ta,ww,aW.of (s5 _ _ hT),Z,xz,wE,B,ww,Z,wv];cases ho:D5 e b i with
   |none=>
    rw[ho]at oV;let ev0:sv= .bP:=oV;subst ev0;erw[aX #[s5,lv,hv,xz,xz,lo,hi,Rl,Rh,bl,bh,?_,λl hl=>m2 l ?_,?_,λh hh=>m4 h ?_,Z]]
    ·simpa[mD,ho]using m1
    ·simpa[mD,ho]using hl
    ·simpa[qy,ho]using m3
    ·simpa[qy,ho]using hh |some q=>
    rw[ho]at oV oB;let oV:bj H4 sv q:=oV;let oB:Bd 1900 q:=oB;let(sa,e0,_):=id oV;subst e0;erw[bB ?_,B,ZB,bM Z,λp1 H6 n6=>?_];let FY:=s5.ao n6.ss;erw[.ref sa,.ref p1,q,ww,oV.go FY,Vr (aW.of n6.at'),oB.sK aw,a0e aE,λv1 H7 R7 s7=>?_];let bq1:Bd 1950 (q+((-(vc r f i):Int):Rat)):=(jG oB (by rw[jz];lia)).sK aw;let pT:=n6.ss.ao s7;erw[λO H8=>aI H7 H8/\∃Dm yA,bj H8 Dm yA/\Bd 1950 yA/\yA∈mD r f e b (i+1)/\(∀l∈mD r f e b (i+1),l<=yA)/\O=[some (.ref ma),some bv,some ev,some gv,some Dm,some hv,some (.ref sa),some (.int (vc r f i)),some (.int (u9 r f i)),some v1],zn]
    ·erw[lW ?_];intro E2
     erw[wp,lv,v1,lo,ww,Rl.go pT,R7,bl.sK aw,bq1.sK aw,wv];let mem:∀l,l∈mD r f e b (i+1)↔l∈mD r f e b i\/l=q+((-(vc r f i):Int):Rat):=λl=>by simp[mD,ho]
     by_cases bu:lo<q+((-(vc r f i):Int):Rat)
     ·rw[cy bu]
      erw[bB #[ww,aI.refl _,v1,_,R7,bq1,(mem _).mpr (.inr Z),λl hl=>?_,Z]];rcases(mem l).mp hl with h|h
      ·erw[cu (m2 l h) (ET bu)]
      ·rw[h];erw[fG]
     ·rw[dh bu]
      erw[aX #[aI.refl _,lv,lo,Rl.go pT,bl,(mem _).mpr (.inl m1),λl hl=>?_,Z]];rcases(mem l).mp hl with h|h
      ·erw[m2 l h]
      ·rw[h];erw[pM.mp bu]
    rintro O H8 ⟨s8,Dm,yA,Rl',bl',KH,Xa,rfl⟩;let s58:=pT.ao s8;erw[ZB,bM Z,λp2 H9 n9=>?_];let uf:=s58.ao n9.ss;erw[.ref sa,.ref p2,q,ww,oV.go (s5.ao uf),Vr (aW.of n9.at'),oB.sK aw,a0e (_S.hZ u1 u2 aw),λv2 jK R10 mj=>?_];let Bx:Bd 1950 (q+(u9 r f i:Rat)):=(jG oB (by rw[jz];erw[_S.uA u1 u2 aw])).sK aw;erw[bM Z,λlq jJ lN=>?_];let Ju:=uf.ao (mj.ao lN.ss);let Ra:=Rh.go Ju;let Rc:=R10.go lN.ss;erw[lq,[hv,v2],[hi,q+(u9 r f i:Rat)],Z,aK.of lN.at',#[Ra,bh.sK aw,Rc,Bx.sK aw,trivial],by simp,λc v q' e1 e2 hq=>?_];let mem:∀l,l∈qy r f bd e b (i+1)↔l∈qy r f bd e b i\/l=q+(u9 r f i:Rat):=λl=>by simp[qy,ho]
    let Y2:∀h∈qy r f bd e b (i+1),q'<=h:=λh hh=>by
     rcases(mem h).mp hh with h1|h1
     ·erw[cu (hq hi (by simp)) (m4 h h1)]
     ·rw[h1];erw[hq _ (by simp)]
    let UN:=n9.ss.ao (mj.ao lN.ss)
    match c,e1,e2 with |0,e1,e2=>cases e1;cases e2;erw[s5.ao Ju,Dm,hv,xz,xz,yA,hi,Rl'.go UN,Ra,bl',bh,KH,Xa,(mem _).mpr (.inl m3),Y2,rfl] |1,e1,e2=>cases e1;cases e2;erw[s5.ao Ju,Dm,v2,xz,xz,yA,_,Rl'.go UN,Rc,bl',Bx,KH,Xa,(mem _).mpr (.inr rfl),Y2,rfl]
  ·rintro O H5 ⟨s5,lv,hv,v6,v7,v8,v9,lo,hi,Rl,Rh,bl,bh,m1,m2,m3,m4,rfl⟩
   erw[wp,hv,lv,hi,lo,Z,Rh,Rl,bh.sK aw,bl.sK aw,wv];let e1:=agf (ls:=iG r f e b) (hs:=iJ r f bd e b) m1 m2 m3 m4;have:=k H5 (s4.ao s5);unfold jj at this;rw[e1]at this;erw[this]
end
section
def ug(zs:Ar):aj:=.tuple (zs.map PyData.int)
def dg(os:BT)(i:Nat):AC:=match os[i]? with |some (some (ns,_))=>(List.range (aF ns)).map λk=>.tuple [.int i,ug (fH ns k)] |_=>[.tuple [.int i,.none]]
def bW(os:BT):Nat->List aj |0=>[] |i+1=>bW os i++dg os i
def jX{os:BT}{i:Nat}{ns:Ar}{sp:Int}(h:os[i]? =some (some (ns,sp))):dg os i=(List.range (aF ns)).map λk=>.tuple [.int i,ug (fH ns k)]:=by unfold dg;rw[h]
def pK{os:BT}{i:Nat}(h:os[i]? =some none):dg os i=[.tuple [.int i,.none]]:=by unfold dg;rw[h]
def a5i(zs:Ar):eH (ug zs)=true:=by
 have:bR (zs.map PyData.int)=true:=cA.mpr λd hd=>by let(i,_,rfl):=gS.mp hd;rfl
 simp[ug,eH,this]
def Zt(os:BT)(i:Nat):bR (dg os i)=true:=by
 unfold dg;split
 ·erw[cA.mpr λd hd=>by let(k,_,rfl):=gS.mp hd;simp[eH,bR,a5i]]
 ·simp[eH,bR]
theorem Zu(os:BT):∀i,bR (bW os i)=true
 |0=>rfl |i+1=>cA.mpr λd hd=>by
  rcases kj.mp hd with h|h
  ·erw[cA.mp (Zu os i) d h]
  ·erw[cA.mp (Zt os i) d h]
theorem wI{n:Nat}{tz:Int}{ds:AC}{os:BT}(row:cj n ds os):∀i,i<=⇑os->⇑(bW os i)=⇑(dF tz ds os i) |0,_=>rfl |i+1,h=>by let ll:=row.len;show⇑(bW os i++dg os i)=⇑(dF tz ds os i++jq tz ds os i);rw[cH,cH,wI row i (cw h)];obtain⟨o,eo⟩:∃o,os[i]? =some o:=#[_,bf (show i<⇑os from h)];cases o with |none=>obtain⟨d',ed⟩:∃d',ds[i]? =some d':=#[_,bf (show i<⇑ds from _S.fD h ll)];rw[uZ eo ed,pK eo];rfl |some q=>let(ns,sp):=q;rw[qO eo,jX eo,bC,bC]
inductive a4l|mk iv n ds os(_:vs=[iv])(_:RD K H iv (.tuple ds))(_:cj n ds os)(_:n<=3)(_:⇑ds<=30)(_:∀l ys H',H l=none->H' l=some (.bi ys)->aH K H' ys (bW os ⇑os)->aI H H'->Q (.ref l) H')
def Sq:bA ["_law_items_here","_law_found","_law_number_here","_law_item"] ["_law_items_here"] (aY UA):=bJ aP
def a8d(AA:a0q):a0n "_law_due_entries" 4 a4l:=by
 exists AA.aed.has,Sq,fE λ_=>rfl
 ·let(iv,n,ds,os,rfl,ri,row,n3,hz,k):=h
  let nd:=Sq.nd;erw[_,%[pS 1 nd (cY az),(gh fc Z (Ax K Z false Z (AA.B.at "enumerate") %[0|az]) (cX K rfl (n:=2) rfl %[ba 2 nd,ba 3 nd|cW]) (aG (bp (bL (cJ K Z hr.units) (px K L2 aA) fA (bc _)) (aG (fe (y9 K Z u8 %[gX (N:=["_law_row","_law_number_here"]) (js:=[none,some 2]) Z Z Z (qe K Z (pf (a7C AA) hr %[3|az])) (λ_ _ _ _ _=>(ba 0 (hW aw))) (λ_ _ _ _ _=>fZ) (λ_ _ _ _ _=>(dA %[1,0|az]))|az]))) (aG (fe (ji K Z u8 %[dA %[2,gM|az]|az])))))),aQ u8|aG],?_];let ll:=row.len;let nL:sizeLine=16777216:=by decide
  erw[bM Z,λD H2 n2=>?_];let nD:=n2.no;let(ia,xs,rfl,hi,dP):=ri.cD;let lx:=⇑dP;erw[ww,ia,Z,#[_,hi.go n2.ss],Bl (K:=K) (b:=false) (a:=ia) (xs:=xs) (λi O H3=>aI H H3/\∃zs v1 v2,H3 D=some (.bi zs)/\aH K H3 zs (bW os i)/\O=[some (.ref ia),some (.ref D),v1,v2]) #[n2.ss,[],none,none,n2.at',cQ,Z] (λi O H3 _ h=>hi.go h.1) ?_ ?_]
  ·rintro i y O H3 hy ⟨s3,zs,v1,v2,dz,rz,rfl⟩ T H4 n4
   erw[gH ?_];intro E1;let pE:i<⇑xs:=(ck.mp hy).1;let(d,ed,rd):=dP.get' i hy;let(o,eo,it):=row.get ed;let s4:=s3.ao n4.ss;let vR:=RD.sK s4 _ rd;let kS:=n4.ss _ _ dz;let xV:=aH.sK n4.ss _ rz;let tl:=(wH (tz:=100) row i (cw (jf pE (oY lx ll)))).1;let tn:=Zu os i;let lz:=⇑rz;rw[wI (tz:=100) row i (cw (jf pE (oY lx ll)))]at lz;let(a,wd,yw,rfl,h1,ew,sw):=GK vR it;erw[T,ww,aW.of n4.at',wE,B,ww,.inr #[a,_,0,.str wd,wP,h1,cn (dU 0) Z,.inr #[xz,cF _,cF _,sw,GF,wv]]];rw[ew];cases o with
   |none=>
    erw[aX ?_,B,ww,.inl #[Z,_,aK.of kS],?_,B,ww,bM Z,λt H5 n5=>?_];let Ho:=n5.ss _ _ kS;erw[D,zs,ww,Z,Ho,aE,?_,B,λb o e=>?_,xz,_,bQ,?_,Z]
    ·rw[aU (e9 e nD)];erw[n5.ss b o (s4 b o e)]
    ·show aH K _ _ (bW os i++dg os i)
     rw[pK eo];erw[aH.xR Ho (aH.sK n5.ss _ xV) (gD (aW.of n5.at') %[eB _,G6|cQ]) tn (by simp[eH,bR])] |some q=>
    let(ns,sp):=q;erw[bB ?_];let iU:=kB it;subst iU;let(bX,cT,dM):=row.ok i ns sp eo;let lO:=nG bX;erw[ww,.inl #[Z,_,aK.of kS],?_,B,ww,_,ns,sp,Z,vR,#[Z,bX.bd,bX.nz],by rw[bX.len];erw[cL n3 aw],λl3 y3 H6 yn qS vN s6=>?_];let yx:=⇑vN;rw[jy,bC,fV]at yx;erw[l3,Z,#[_,aK.of qS],λD2 H7 n7=>?_];let nE:=Zt os i;let lE:⇑(dg os i)=aF ns:=by rw[jX eo,bC,fV]
    erw[ZM (K:=K) (ds:=dg os i) _ (aK.of qS) n7 (by rw[lE,yx]) aE nE ?_ ?_]
    ·intro q x dd H8 Q' ex wC s8 hq
     let pC:q<aF ns:=by have:=(ck.mp ex).1;lia
     let(d3,e3,r3):=vN.get' q ex;rw[jy,bV,jN pC]at e3;cases e3;rw[jX eo,bV,jN pC]at wC;cases wC;erw[wp,bM Z,λt H9 n9=>?_,B,hq _ _ n9.ss (gD (aW.of n9.at') %[eB _,RD.sK (s8.ao n9.ss) _ r3|cQ])]
    ·intro H8 z8 s8 d8 r8
     let mi:=s6.ao s8;let wF:=mi _ _ kS;let l8:=⇑r8;erw[D,D2,zs,z8,wP,wF,d8,aE,?_];let tu:fw H8 (_L.bn H8 D (.bi (zs++z8))):=.iB wF;erw[λb o e=>?_,xz,_,bQ,?_,Z]
     ·rw[aU (e9 e nD)];erw[mi b o (s4 b o e)]
     ·exact(aH.t tu _ tn (aH.sK mi _ xV)).append (aH.t tu _ nE r8)
  ·rintro O H3 ⟨s3,zs,v1,v2,dz,rz,rfl⟩
   rw[lx,ll]at rz;erw[ww,k D zs H3 nD dz rz s3]
inductive a4h|mk v r(_:vs=[v])(_:bj H v r)(_:Bd 2000 r)(_:∀H',aI H H'->Q (.bl true) H')
def Sf:bA ["_law_thing"] ["_law_thing"] (aY Uq):=bJ aP
def a85(AA:a0q):a0n "_law_is_fraction" 2 a4h:=by
 exists AA.ae8.has,Sf,fE λ_=>rfl
 ·let(v,r,rfl,Rr,br,k):=h
  let nd:=Sf.nd;erw[_,%[(bp (PW.pt (iQ (dN (cg (dk K AA.B %[0,cS (x:="tuple") (v:=.ty "tuple") Z (AA.B.at "tuple") gu rfl|az]))) (iQ (bL (j9 K rfl hr.units) (dC K AA.B %[0|az]) aA (bc _)) (lC (dN (cg (eR (x:="all") (vh K rfl rfl) rfl (AA.B.at "all") xq %[gX (N:=["_law_one"]) (js:=[none]) rfl rfl rfl (qc K rfl o0) (λ_ _ _ _ _=>(ba 0 (uz _))) (λ_ _ _ _ _=>fZ) (λ_ _ _ _ _=>(pf (Kk AA) hr %[0|az]))|az]))))))) (aG (aQ jB)) bE),aQ (iE (fN qh (px K o0 aA) aA (bc _)) (iR (fN (cJ K Z hr.units) (pf (uv AA) hr %[px K o0 aA,px K o0 aA|az]) o0 (bc _))))|aG],?_];let(a,rfl,h1):=id Rr;let hd:=r.den_pos;erw[ww,.inl #[xz,"tuple",true,Z,Rr.rd.ty,aw,rJ,ww,aX ?_],B,ww,a,ww,.inr h1,.inl #[wr,ww,aX ?_],B,ww,a,Z,#[_,h1],λD H2 n2=>?_,B,Hx (xs:=[.int r.num,.int r.den]) (bs:=[true,true]) [] h1 n2 Z (by simp) ?_ ?_]
  ·intro i x y H3 Q' ex ey s3 hq
   obtain⟨z,rfl⟩:∃z,x= .int z:=by match i,ex with |0,ex=>cases ex;erw[_,rfl] |1,ex=>cases ex;erw[_,rfl]
   let Mu:y=true:=by match i,ey with |0,ey=>cases ey;rfl |1,ey=>cases ey;rfl
   subst Mu;erw[ww,wT,(eB (K:=K) (H:=H3) z).ty,?_];rw[show jD (lg (.int z))=true from(by decide:jD "int"=true)];erw[hq _ (aI.refl _)]
  intro H3 s3 d3;erw[D,ww,aK.of d3,ww,aX ?_,B,ww,.inr #[a,_,1,ww,Z,h1.go s3,Z,jp]];rw[cy (show(0:Int)<(r.den:Int)from eG (cf _) (_S.hJ hd))];erw[bB ?_,B,ww,.inr #[a,_,0,ww,Z,h1.go s3,Z,?_],B,ww,.inr #[a,_,1,ww,Z,h1.go s3,Z,?_],B,wT,eG (cf _) (_S.hJ hd),br.wd,λv H4 R4 s4=>?_];rw[vq]at R4;erw[ww,.inr #[xz,R4.rd,(Rr.go (s3.ao s4)).rd,Vs _,Vs _,?_]];rw[YX rfl];erw[k H4 (s3.ao s4)]
abbrev A1:aj->Prop:=Nx λ_=>False
abbrev A3:aj->Prop:=Nx (Nx A1)
def GG(h:SeqAt.shaped (.str z)=true):a0Q (.str z):=.inr #[z,Z,h,by simp[PyData.eqv]]
def a74(h:iM d):A3 d:=by
 rcases h with⟨n,rfl,_,_⟩|⟨wd,z,rfl,hw,ok,_⟩
 ·erw[.inr #[_,.inl Z,by simp,λx hx=>.inl ?_]]
  simp only[dj,gy,jM]at hx;rcases hx with rfl|rfl
  ·erw[GG aP]
  ·erw[.inl #[_,Z]]
 ·erw[.inr #[_,.inl Z,by simp,λx hx=>.inl ?_]]
  simp only[dj,gy,jM]at hx;rcases hx with rfl|rfl
  ·rcases hw with rfl|rfl<;>erw[GG aP]
  ·erw[GG (ok.shaped aw)]
def a5h(h:⇑zs<=1000):A3 (.tuple [.str "step",ug zs]):=by
 erw[.inr #[_,.inl Z,by simp,λx hx=>?_]];simp only[dj,gy,jM]at hx;rcases hx with rfl|rfl
 ·erw[.inl (GG aP)]
 ·erw[.inr #[_,.inl Z,by rw[bC];erw[cL h aw],λx hx=>.inl ?_]]
  let(i,_,rfl):=gS.mp hx;erw[.inl #[_,Z]]
inductive Qu|mk m iv rv tz ev rs r f j ti(_:vs=[m,iv,rv,.int tz,ev])(_:RD K H m (fC rs r f j ti))(_:fQ rs r f j ti)(_:((rv= .bP/\∃d,RD K H iv d/\RD K H ev d/\iM d/\∀H',aI H H'->Q (.int 0) H')\/ ∃ns sp zs q,RD K H iv (jk ns sp)/\1<=sp/\sp<=20/\10<=tz/\tz<=200/\RD K H rv (ug zs)/\RD K H ev (fq ti zs q)/\⇑zs<=1000/\Bd 2000 q/\0<q/\∀H',aI H H'->Q (.int (if oR tz sp<q then 3 else 0)) H'))
def So:bA ["_law_machine_here","_law_item","_law_row","_law_rate","_law_entry","_law_t","_law_square"] ["_law_machine_here","_law_item","_law_row","_law_rate","_law_entry"] (aY Uz):=bJ aP
def a8c(AA:a0q)(yX:a0n "_law_alike" 4 (Cr A3 K)):a0n "_law_entry_fault" 5 Qu:=by
 exists AA.aec.has,So,HJ λ_ _ _ _ _=>rfl
 ·let(m,iv,rv,tz,ev,rs,r,f,j,ti,rfl,rm,aJ,hc):=h
  let nd:=So.nd;erw[_,%[(bp (bL VY w4 gM (bc _)) (aG (aQ (gY (x:="int") Bv Z (AA.B.at "int") xo %[y6 (pf yX hr %[4,1|az])|az]))) bE),(bp (PW.pt (iQ (dN (cg (dk K AA.B %[4,cS (x:="tuple") (v:=.ty "tuple") Z (AA.B.at "tuple") gu rfl|az]))) (iQ (bL (j9 K rfl hr.units) (dC K AA.B %[4|az]) aA (bc _)) (lC (dN (cg (pf yX hr %[Ay (Ae K rfl) M2 Aw (Av aA),dA %[fA,2|az]|az]))))))) (aG (aQ aA)) bE),fz (Ay (Ae K Z) M2 (Av aA) Aw) (cX K Z (n:=2) Z %[ba 5 nd,ba 6 nd|cW]),bp (PW.pt (iQ (dN (cg (pf (Kk AA) hr %[5|az]))) (iQ (dN (cg (pf (a85 AA) hr %[6|az]))) (iQ (bL jS (px K W1 aA) aA (bc _)) (lC (bL (j9 K Z hr.units) P3 (pf (W7 AA) hr %[0,6|az]) (bc _))))))) (aG (aQ aA)) bE,(aQ (aM bO aA (gY (x:="int") Bv Z (AA.B.at "int") xo %[(pf (CW AA) hr %[pf (Gn AA) hr %[1,3|az],6|az])|az])))|aG],?_];rcases hc with⟨rfl,d,ri,re,eU,k⟩|⟨ns,sp,zs,q,ri,cT,dM,bN,bS,rr,re,lz,bq,q0,k⟩
  ·erw[ww,WP,bB ?_]
   erw[wp,ev,iv,d,Z,re,ri,a74 eU,λH1 s1=>?_,B,ww,.inr #[ww,k H1 s1]]
  ·let(a,b,c,rfl,h1,h2,h3):=Ck re
   let(ra,rxs,rfl,Dz,_):=id rr.cD;let(t1,t2,t3,t4):=Cf (ti:=ti) aJ.t1.1 aJ.t1.2 q0 bq;erw[ww,WP,aX ?_,B,ww,.inl #[xz,"tuple",true,Z,re.ty,aw,rJ,ww,aX ?_],B,ww,a,ww,.inr h1,.inl #[wr,ww,aX ?_],B,wp,a,ww,.inr #[h1,(by show¬(_H.cE 4 0 none=0/\_H.cE 4 4 (some 2)=4);decide),λp H1 n1=>?_]];let n1:Nw H H1 p (.tup [.str "step",.ref b]):=n1;erw[ww,bM Z,λp2 H2 n2=>?_];let s2:=n1.ss.ao n2.ss;erw[.ref p,.ref p2,.tuple [.str "step",ug zs],Z,gD (aW.of (n2.ss _ _ n1.at')) %[cF _,gD (h2.go s2) (vP zs)|cQ],gD (aW.of n2.at') %[cF _,RD.sK s2 _ rr|cQ],a5h lz,λH3 s3=>#[ww,aX ?_]];let p5:=s2.ao s3;erw[wp,a,ww,.inr #[h1.go p5,(by show¬(_H.cE 4 0 (some 2)=0/\_H.cE 4 4 none=4);decide),λp3 H4 n4=>?_]];let n4:Nw H3 H4 p3 (.tup [.int (ku ti q),c]):=n4;let gW:=p5.ao n4.ss;erw[p3,ww,aW.of n4.at',wE,B,ww,wT,(eB (K:=K) (H:=H4) (ku ti q)).ty,wv];rw[show jD (lg (.int (ku ti q)))=true from(by decide:jD "int"=true)];erw[aX ?_];let Yj:=h3.go gW;erw[ww,c,q,Z,Yj,bq,λH5 s5=>#[ww,aX ?_]];let(ca,rfl,hc):=id (Yj.go s5);erw[ww,.inr #[ca,_,0,ww,Z,hc,Z,jp]];let qn:=yi q0;rw[dh (show¬q.num<1 from zY (fW (_S.lK (dU _)) (_S.lL qn)))];erw[aX ?_];let lA:=gW.ao s5;erw[ZB,m,.ref ca,rs,r,f,j,ti,q,Z,RD.sK lA _ rm,#[ca,Z,hc],bq,aJ.t1.1,aJ.t1.2,qn,λT T1 T2 T3 T4 H6 s6=>?_];let eT:=IX (gT qn) #[T1,T3,T4];erw[.inl #[_,_,Z,Z,_,Z,?_]];rw[cy eT];erw[aX ?_];let nj:=lA.ao s6;erw[wp,iv,ns,sp,tz,Z,RD.sK nj _ ri,cT,dM,bN,bS,λtv H7 R7 s7=>?_,B,ww,tv,.ref ca,oR tz sp,q,Z,R7,bj.go #[ca,Z,hc] (s6.ao s7),(_O.mZ cT dM bN bS).sK aw,bq,.inr #[_,Z,?_],B,wr,.of_left (cB aw aw),?_];let k:=k H7 (nj.ao s7);by_cases bu:oR tz sp<q
   ·rw[aR bu]at k
    rw[cy bu];erw[k]
   ·rw[aV bu]at k
    rw[dh bu];erw[k]
end
section
def Hr{n:Nat}{ds:AC}{os:BT}(row:cj n ds os){i:Nat}(hi:i<⇑os):1<=⇑(dg os i):=by obtain⟨o,eo⟩:∃o,os[i]? =some o:=#[_,bf hi];cases o with |none=>rw[pK eo];erw[aZ _] |some q=>let(ns,sp):=q;let(bX,_,_):=row.ok i ns sp eo;have:=bX.lead;rw[jX eo,bC,fV];lia
def qQ(os:BT){i k:Nat}(h:i<=k):⇑(bW os i)<=⇑(bW os k):=by induction h with |refl=>erw[aZ _] |step _ ih=>erw[cL ih ?_];show _<=⇑(bW os _++dg os _);rw[cH];erw[jg _ _]
theorem Zl{n0:Nat}{j tz:Int}{ds:AC}{os:BT}(row:cj n0 ds os):∀n,n<=⇑os->∀k,k<⇑(bW os n)->∃i c,i<n/\k=⇑(bW os i)+c/\c<⇑(dg os i)/\(bW os n)[k]? =(dg os i)[c]? /\(dF tz ds os n)[k]? =(jq tz ds os i)[c]? /\(jF j tz os n)[k]? =(jZ j tz os i)[c]?
 |0,_,k,h=>by simp[bW]at h |n+1,hn,k,h=>by
  let l1:=wI (tz:=tz) row n (cw hn);let l2:=lV (j:=j) (tz:=tz) row n (cw hn);by_cases hk:k<⇑(bW os n)
  ·let(i,c,a1,a2,a3,a4,a5,a6):=Zl (j:=j) (tz:=tz) row n (cw hn) k hk
   erw[i,c,_S.BA a1,a2,a3,zn,?_]
   ·rw[<-a4];erw[nZ hk]
   ·rw[<-a5];erw[nZ (jf hk l1)]
   ·rw[<-a6];erw[nZ (jf hk (_S.IU l1 l2))]
  ·let h':k<⇑(bW os n++dg os n):=h
   rw[cH]at h';erw[n,k-⇑(bW os n),gR _,aE,aE,zn,?_]
   ·erw[oX (kX hk)]
   ·rw[l1];erw[oX (_S.oM (kX hk) l1)]
   ·rw[l1,<-l2];erw[oX aE]
structure At(j tz:Int)(ds:AC)(os:BT)(k i c:Nat):Prop where
 hi:i<⇑os
 ek:k=⇑(bW os i)+c
 hc:c<⇑(dg os i)
 dl:(bW os ⇑os)[k]? =(dg os i)[c]?
 du:(dF tz ds os ⇑os)[k]? =(jq tz ds os i)[c]?
 bd:(cK j tz os)[k]? =(jZ j tz os i)[c]?
def wV{n0:Nat}{j tz:Int}{ds:AC}{os:BT}(row:cj n0 ds os){k:Nat}(h:k<(bW os ⇑os).length):∃i c,At j tz ds os k i c:=by let(i,c,a1,a2,a3,a4,a5,a6):=Zl (j:=j) (tz:=tz) row _ (aZ _) k h;erw[i,c,a1,a2,a3,a4,a5,?_];rw[<-a6];erw[nZ ?_];rw[lV (ds:=ds) row _ (aZ _),<-wI row _ (aZ _)];erw[h]
def At.num{j tz:Int}{ds:AC}{os:BT}{k i c:Nat}(h:At j tz ds os k i c):∃rd,(bW os ⇑os)[k]? =some (.tuple [.int i,rd]):=by obtain⟨o,eo⟩:∃o,os[i]? =some o:=#[_,bf h.hi];let hc:=h.hc;rw[h.dl];cases o with
 |none=>
  rw[pK eo]at hc⊢;have:c=0:=by simpa using hc
  subst this;erw[ww] |some q=>let(ns,sp):=q;rw[jX eo]at hc⊢;rw[bC,fV]at hc;rw[bV,jN hc];erw[ww]
def At.prev{n0:Nat}{j tz:Int}{ds:AC}{os:BT}(row:cj n0 ds os){k i c i' c':Nat}(h:At j tz ds os (k+1) i c)(g:At j tz ds os k i' c'):(i'=i/\0<c)\/(i'+1=i/\c=0):=by
 let e1:=h.ek;let e2:=g.ek;let b1:=h.hc;let b2:=g.hc;let step:∀x,⇑(bW os (x+1))=⇑(bW os x)+⇑(dg os x):=λx=>by show⇑(bW os x++dg os x)=_;rw[cH]
 rcases Ox i' i with bu|heq|LO
 ·by_cases hs:i'+1=i
  ·subst hs
   rw[step]at e1;erw[.inr #[Z,aE]]
  ·let m1:=qQ os (show i'+2<=i by lia)
   let s1:=step i';let s2:=step (i'+1);let ne:=Hr row (show i'+1<⇑os by have:=h.hi;lia);rw[show i'+2=i'+1+1 from Z,s2,s1]at m1
   lia
 ·subst heq
  erw[.inl #[Z,aE]]
 ·let m1:=qQ os (show i+1<=i' from LO)
  rw[step]at m1
  lia
end
section
def CJ(j tz:Int)(os:BT):iF j tz os ⇑os=0:=by cases h:⇑os with |zero=>rfl |succ n=>show iN j tz (ce os n) (ce os (n+1))=0;rw[_O.NH (i:=n+1) (m9 h),_O.vd]
def a6W{j tz:Int}{os:BT}{i:Nat}(h:os[i]? =some none):iF j tz os (i+1)=0:=by show iN j tz (ce os i) (ce os (i+1))=0;rw[_O.mI h];rfl
def wU{j tz:Int}{os:BT}{i:Nat}(hi:i<⇑os):(jZ j tz os i)[0]? =some (iF j tz os i):=by obtain⟨o,eo⟩:∃o,os[i]? =some o:=#[_,bf hi];cases o with |none=>rw[Ep eo];rfl |some q=>let(ns,sp):=q;rw[zA eo];rfl
def Nu{j tz:Int}{os:BT}{i c:Nat}{ns:Ar}{sp:Int}(eo:os[i]? =some (some (ns,sp)))(h0:0<c)(hc:c<aF ns):(jZ j tz os i)[c]? =some (oR tz sp):=by rw[zA eo];obtain⟨c',rfl⟩:∃c',c=c'+1:=#[c-1,aE];rw[List.getElem?_cons_succ,OK,aR (dJ (gR _) (a1z hc))]
def N1{top:Rat}(h:iM d):d≠kG zs top:=λe=>by rcases h with⟨n,rfl,_,_⟩|⟨wd,z,rfl,_⟩<;>simp[kG]at e
def XH{top:Rat}(h:itR d none):d≠kG zs top:=λe=>by
 rcases h with⟨ns,sp,_,h⟩|⟨wd,x,rfl,_,_,_⟩
 ·cases h
 ·simp[kG]at e
def jH.kind{n0:Nat}{r f j ti tz:Int}{ds:AC}{os:BT}{es:AC}{sq:Nat->Option Rat}(tp:jH r f j ti tz ds os es sq)(row:cj n0 ds os){k i c:Nat}(a:At j tz ds os k i c){e:aj}(ee:es[k]? =some e): (os[i]? =some none/\c=0/\(bW os ⇑os)[k]? =some (.tuple [.int i,.none])/\sq k=none/\ds[i]? =some e/\iM e)\/ ∃ns sp q,os[i]? =some (some (ns,sp))/\c<aF ns/\(bW os ⇑os)[k]? =some (.tuple [.int i,ug (fH ns c)])/\sq k=some q/\e=fq ti (fH ns c) q/\q<=oR tz sp/\0<q/\Bd 1900 q:=by let ll:=row.len;obtain⟨o,eo⟩:∃o,os[i]? =some o:=#[_,bf a.hi];let hc:=a.hc;cases o with
 |none=>
  obtain⟨d',ed⟩:∃d',ds[i]? =some d':=#[_,bf (show i<⇑ds by have:=a.hi;lia)];rw[pK eo]at hc;let h0:c=0:=by simpa using hc
  subst h0;let e1:=a.dl;rw[pK eo]at e1;let e2:=a.du;rw[uZ eo ed]at e2;let en:=tp.ent k e d' ee e2;cases hs:sq k with |none=>rw[hs]at en;let(rfl,eU):=en;erw[.inl #[eo,Z,e1,Z,ed,eU]] |some q=>rw[hs]at en;let(zs,top,h,_):=en;exact(XH (row.it i d' none ed eo) h).elim
 |some p=>let(ns,sp):=p;rw[jX eo,bC,fV]at hc;let e1:=a.dl;rw[jX eo,bV,jN hc]at e1;let e2:=a.du;rw[qO eo,bV,jN hc]at e2;let en:=tp.ent k e _ ee e2;cases hs:sq k with |none=>rw[hs]at en;let(rfl,eU):=en;exact(N1 eU rfl).elim |some q=>
  rw[hs]at en;let(zs,top,h,rfl,qt,q0,bq,_,_):=en;let hz:zs=fH ns c/\top=oR tz sp:=by
   simp only[kG,PyData.tuple.injEq,List.cons.injEq,true_and,and_true,cI]at h;let(h1,h2,h3):=h;erw[zn]
   ·exact(a1C (f:=PyData.int) (λx y e=>by injection e)).mp h1.symm
   ·erw[Rat.ext ?_ ?_]
    ·injection h2 with h2;erw[h2.symm]
    ·injection h3 with h3;lia
  let(rfl,rfl):=hz;erw[.inr #[ns,sp,q,eo,hc,e1,wP,qt,q0,bq]]
end
section
def Br{r f j ti tz:Int}{ds:AC}{os:BT}{i:Nat}{ns:Ar}{sp:Int}(h:os[i]? =some (some (ns,sp))):nN r f j ti tz ds os i=oA r f ti ns (oR tz sp) (dX r f j tz os i) (dX r f j tz os (i+1)):=by unfold nN;rw[h]
def Hl{r f j ti tz:Int}{ds:AC}{os:BT}{i:Nat}(h:os[i]? =some none)(hd:ds[i]? =some d):nN r f j ti tz ds os i=[d]:=by unfold nN;rw[h,vx,hd];rfl
theorem Pq{n:Nat}{r f j ti tz:Int}{ds:AC}{os:BT}(row:cj n ds os):∀i,i<=⇑os->bR (kv r f j ti tz ds os i)=true
 |0,_=>rfl |i+1,h=>by
  let ll:=row.len;erw[cA.mpr λd hd=>?_];rcases kj.mp hd with h1|h1
  ·erw[cA.mp (Pq row i (cw h)) d h1]
  ·obtain⟨o,eo⟩:∃o,os[i]? =some o:=#[_,bf (show i<⇑os from h)]
   cases o with |none=>obtain⟨d',ed⟩:∃d',ds[i]? =some d':=#[_,bf (show i<⇑ds from _S.fD h ll)];rw[Hl eo ed,gz]at h1;subst h1;erw[cA.mp row.no _ (gA ed)] |some q=>let(ns,sp):=q;rw[Br eo]at h1;erw[cA.mp (L7 _ _ _ _ _ _ _) d h1]
theorem Pt{n:Nat}{r f j ti tz:Int}{ds:AC}{os:BT}(row:cj n ds os):∀i,i<=⇑os->⇑(kv r f j ti tz ds os i)<=100*i |0,_=>aZ _ |i+1,h=>by let ll:=row.len;let ih:=Pt (r:=r) (f:=f) (j:=j) (ti:=ti) (tz:=tz) row i (cw h);show⇑(kv r f j ti tz ds os i++nN r f j ti tz ds os i)<=_;rw[cH];obtain⟨o,eo⟩:∃o,os[i]? =some o:=#[_,bf (show i<⇑os from h)];cases o with
 |none=>
  obtain⟨d',ed⟩:∃d',ds[i]? =some d':=#[_,bf (show i<⇑ds from _S.fD h ll)];rw[Hl eo ed];show _+1<=_
  lia |some q=>
  let(ns,sp):=q;let(bX,_,_):=row.ok i ns sp eo;have:=nG bX;rw[Br eo,oA,bC,fV]
  lia
inductive Je|mk m iv tz rs r f j t ds os(_:vs=[m,iv,.int tz])(_:RD K H m (fC rs r f j t))(_:fQ rs r f j t)(_:RD K H iv (.tuple ds))(_:cj ⇑rs ds os)(_:⇑ds<=30)(_:10<=tz)(_:tz<=200)(_:∀l ys H',H l=none->H' l=some (.bi ys)->aH K H' ys (kv r f j t tz ds os ⇑os)->aI H H'->Q (.ref l) H')
def K7{rs:Ar}{r f j t tz:Int}{ds:AC}{os:BT}(aJ:fQ rs r f j t)(row:cj ⇑rs ds os)(hz:⇑ds<=30)(bN:10<=tz)(bS:tz<=200):∀i,i<=⇑os->Bd 1700 (dX r f j tz os i):=λi hi=>by let ll:=row.len;let hB:=_O.CK aJ.j1.1 aJ.j1.2 bN bS row.ow;let hL:∀i m,sB os i=some m->(2*r*(m:Int)).natAbs<2^24:=λi m e=>A7 aJ.r1.1 aJ.r1.2 (AZ row.ow e);let yY:∀i m,sB os i=some m->(2*f*(m:Int)).natAbs<2^24:=λi m e=>A7 aJ.f1.1 aJ.f1.2 (AZ row.ow e);exact(Me (b:=900) (λi hi=>(HM hB hL i).sK aE) yY i hi).sK aE
def QO:bA ["machine","items","rate","plan","tape","i","item","squares"] ["machine","items","rate"] (aY SU):=bJ aP
def a7u(AA:a0q)(LD:a0n "step_entry" 3 FU):a0n "tape_of" 10 Je:=by
 exists AA.ad8.has,QO,ka λ_ _ _=>rfl
 ·let(m,iv,tz,rs,r,f,j,t,ds,os,rfl,rm,aJ,ri,row,hz,bN,bS,k):=h
  let nd:=QO.nd;erw[_,%[pS 3 nd (pf (a7M AA) hr %[0,1,2|az]),pS 4 nd (cY az),(gh fc Z (Ax K Z false Z (AA.B.at "enumerate") %[1|az]) (cX K rfl (n:=2) rfl %[ba 5 nd,ba 6 nd|cW]) (aG (bp (cg (pf (si AA) hr %[6|az])) %[pS 7 nd (pf (a7T AA) hr %[0,6,px K L2 P3,px K L2 (aM cM P3 aA),2|az]),(fe (y9 K Z M2 %[(gX (N:=["row","square","machine"]) (js:=[none,none,some 0]) Z Z Z (lH K Z true true Z (AA.B.at "zip") %[pf (Ki AA) hr %[6|az],7|az]) (λ_ _ _ _ _=>(cX K rfl (n:=2) rfl %[ba 0 (show List.Nodup (["row","square","machine"]:Ch) by decide+kernel),ba 1 (show List.Nodup (["row","square","machine"]:Ch) by decide+kernel)|cW])) (λ_ _ _ _ _=>fZ) (λ_ _ _ _ _=>(pf LD hr %[2,0,1|az])))|az]))|aG] (aG (fe (ji K Z M2 %[6|az])))))),aQ M2|aG],?_];let ll:=row.len;let lr:=aJ.len;let fY:=aJ.r1;let da:=aJ.f1;let PB:=K7 aJ row hz bN bS;let PN:∀i,i<=⇑os->0<=dX r f j tz os i:=K4 bI bI (λi _=>_O.ur j tz os i);erw[ZB,m,iv,tz,rs,r,f,j,t,ds,os,Z,rm,aJ,ri,row,hz,bN,bS,λl1 y1 H1 sj wK uh s1=>?_];let AV:=⇑uh;rw[bC,a6z]at AV;erw[bM Z,λD H2 n2=>?_];let nD:H D=none:=by cases e:H D with |none=>rfl |some o=>have:=s1 _ _ e;rw[n2.no]at this;cases this
  let(ia,xs,rfl,hi,dP):=ri.cD;let lx:=⇑dP;erw[ww,ia,Z,#[_,hi.go (s1.ao n2.ss)],Bl (K:=K) (b:=false) (a:=ia) (xs:=xs) (λi O H3=>aI H1 H3/\∃zs v1 v2 v3,H3 D=some (.bi zs)/\aH K H3 zs (kv r f j t tz ds os i)/\O=[some m,some (.ref ia),some (.int tz),some (.ref l1),some (.ref D),v1,v2,v3]) #[n2.ss,[],none,none,none,n2.at',cQ,Z] (λi O H3 _ h=>hi.go (s1.ao h.1)) ?_ ?_]
  ·rintro i y O H3 hy ⟨s3,zs,v1,v2,v3,dz,rz,rfl⟩ T H4 n4
   erw[gH ?_];intro E1;let pE:i<⇑xs:=(ck.mp hy).1;let(d,ed,rd):=dP.get' i hy;let(o,eo,it):=row.get ed;let gJ:=s3.ao n4.ss;let s4:=s1.ao gJ;let kS:=n4.ss _ _ dz;let xV:=aH.sK n4.ss _ rz;let vR:=RD.sK s4 _ rd;let tn:=Pq (r:=r) (f:=f) (j:=j) (ti:=t) (tz:=tz) row i bI;let tl:=Pt (r:=r) (f:=f) (j:=j) (ti:=t) (tz:=tz) row i bI;let lz:=⇑rz;let nL:sizeLine=16777216:=by decide
   erw[T,ww,aW.of n4.at',wE,B,ww,y,d,o,Z,vR,it,wv];cases o with
   |none=>
    erw[aX ?_,B,ww,.inl #[Z,_,aK.of kS],ww,D,zs,ww,Z,kS,bI,?_,B,λb o e=>?_,xz,xz,bQ,?_,Z]
    ·rw[aU (e9 e n2.no)];erw[gJ b o e]
    ·show aH K _ _ (kv r f j t tz ds os i++nN r f j t tz ds os i)
     rw[Hl eo ed];erw[aH.xR kS xV vR tn it.no] |some q=>
    let(ns,sp):=q;erw[bB ?_];let iU:=kB it;subst iU;let(bX,cT,dM):=row.ok i ns sp eo;let lO:=nG bX;let oO:=gJ _ _ wK;let rl4:=aH.sK gJ _ uh;obtain⟨z0,kR⟩:∃z,y1[i]? =some z:=#[_,bf (show i<⇑y1 by omega)];obtain⟨z1,qJ⟩:∃z,y1[i+1]? =some z:=#[_,bf (show i+1<⇑y1 by omega)];let sZ:((i:Int)+1).toNat=i+1:=by omega
    let iV:fj y1 (i:Int)=some z0:=cn bI (by simpa using kR);let pL:fj y1 ((i:Int)+1)=some z1:=cn bI (by rw[sZ];erw[qJ]);let rat:∀(c:Nat)(u:V),c<=⇑os->y1[c]? =some u->bj H4 u (dX r f j tz os c):=by intro c u hc e;let(d1,e1,r1):=rl4.get' c e;rw[bV]at e1;let e2:(K6 r f j tz os)[c]? =some (dX r f j tz os c):=pj _ hc;rw[e2]at e1;cases e1;erw[jP r1]
    let R0:=rat i z0 bI kR;let R1:=rat (i+1) z1 bI qJ;let P0:=PN i bI;let P1:=PN (i+1) bI;erw[ZB,ww,.inl #[l1,_,wr,aK.of oO,iV,?_],B,Wp,.inl #[l1,_,wr,aK.of oO,pL,?_],B,ww,m,y,z0,z1,tz,rs,r,f,j,t,ns,sp,wT,RD.sK s4 _ rm,aJ,vR,bX,cT,dM,R0,R1,(PB i bI).sK aw,(PB (i+1) bI).sK aw,bN,bS,λl2 y2 H5 uy Ee G3 s5=>?_];let Ho:=s5 _ _ kS;erw[ww,.inl #[Z,_,aK.of Ho],?_,B,ww,y,ns,sp,Z,RD.sK s5 _ vR,#[Z,λz hz=>by have:=bX.bd z hz;omega,bX.nz],by rw[bX.len];omega,λl3 y3 H6 yn qS vN s6=>?_];let Zw:=s6 _ _ Ee;let a5M:=aH.sK s6 _ G3;let Xb:=⇑G3;rw[bC,KD,bC,fV]at Xb;let yx:=⇑vN;rw[jy,bC,fV]at yx;erw[ww,l3,l2,Z,#[_,aK.of qS],#[_,aK.of Zw],λD2 H7 n7=>?_];let Al:=s5.ao s6;erw[wL (K:=K) (b1:=true) (b2:=true) (xs:=y3) (ys:=y2) (ds:=oA r f t ns (oR tz sp) (dX r f j tz os i) (dX r f j tz os (i+1))) _ Z (aK.of qS) (aK.of Zw) n7 (by rw[oA,bC,fV];omega) (by rw[oA,bC,fV];omega) (L7 _ _ _ _ _ _ _) ?_ ?_]
    ·intro q x y' dd H8 Q' ex ey wC s8 hq
     let pC:q<aF ns:=by have:=(ck.mp ex).1;omega
     let(d3,e3,r3):=vN.get' q ex;let(d2,e2,r2):=a5M.get' q ey;rw[jy,bV,jN pC]at e3;cases e3;rw[KD,bV,bV,jN pC]at e2;cases e2;rw[oA,bV,jN pC]at wC;cases wC;let yW:=G4 fY.1 fY.2 pC lO;let yV:=Hi da.1 da.2 pC lO;let bm:Bd 2000 (kN r f (aF ns) (oR tz sp) (dX r f j tz os i) (dX r f j tz os (i+1)) q):=ph (ph ((jG (PB i bI) (by rw[jz];omega)).sK aw) ((_O.mZ cT dM bN bS).sK aw)) ((jG (PB (i+1) bI) (by rw[jz];omega)).sK aw);erw[ZB,m,x,y',rs,r,f,j,t,fH ns q,ww,RD.sK (s4.ao (Al.ao s8)) _ rm,aJ,RD.sK s8 _ r3,jP (RD.sK s8 _ r2),bm,KC fY.1 da.1 pC (Ce cT bN) P0 P1,λv H9 rv s9=>hq v H9 s9 rv]
    ·intro H8 z8 s8 d8 r8
     let mi:=Al.ao s8;let wF:=mi _ _ kS;let l8:=⇑r8;rw[oA,bC,fV]at l8;erw[D,D2,zs,z8,wP,wF,d8,bI,?_];let tu:fw H8 (_L.bn H8 D (.bi (zs++z8))):=.iB wF;erw[λb o e=>?_,xz,xz,bQ,?_,Z]
     ·rw[aU (e9 e n2.no)];erw[mi b o (gJ b o e)]
     ·show aH K _ _ (kv r f j t tz ds os i++nN r f j t tz ds os i)
      rw[Br eo];exact(aH.t tu _ tn (aH.sK mi _ xV)).append (aH.t tu _ (L7 _ _ _ _ _ _ _) r8)
  ·rintro O H3 ⟨s3,zs,v1,v2,v3,dz,rz,rfl⟩
   let e:⇑xs=os.length:=by omega
   rw[e]at rz;erw[ww,k D zs H3 nD dz rz (s1.ao s3)]
end
end _c
namespace _c
universe _L _d _l _W
section
def pairD(p:Int×Int):aj:=.tuple [.int p.1,.int p.2]
def xK:List (Int×Int):=[(6,10),(4,20),(8,5),(3,30),(10,4),(5,12),(2,60),(6,10)]
inductive a3F|mk p fi(_:vs=[.ref p,.bl fi])(_:gI H p)(_:∀t many most H',aW K H' t [.int many,.int most]->1<=many->many<=20->1<=most->most<=100->bF p H H'->Q (.ref t) H')
def QR:bA ["_law_bag_here","_law_first","_law_kind"] ["_law_bag_here","_law_first"] (aY vJ):=bJ aP
def FK:Expr:=match(iK vJ)with|[_,_,_,.Return (some (.Subscript e _ _)) _]=>e|_=>.Constant .none 0 #[0,0,0,0]
def a3h:lit 4 FK=some (.list (xK.map pairD)):=by kernel_rfl
def X0(e:Expr):List Stmt:=match iK vJ with|[a,b,c,.Return (some (.Subscript _ i p)) q]=>[a,b,c,.Return (some (.Subscript e i p)) q]|r=>r
def a9a:X0 FK=iK vJ:=by kernel_rfl
def a3g(e:Expr)(hr:dI 1 (A.deeper (envOfC "_law_sizes" (aY vJ) s.heap.objs.size f aO))) (he:PEb (jY je P w K mg aB ["_law_bag_here","_law_first","_law_kind"] "_law_sizes" (aY vJ) f aO A outer s H E).ux e (FF K (.list (xK.map pairD)))) (B:vo mg)(aci:a0n "_law_take" 1 Qi)(bg:gI H p)(k:∀t many most H',aW K H' t [.int many,.int most]->1<=many->many<=20->1<=most->most<=100->bF p H H'->Q (.ref t) H'): ∃t,iW (jY je P w K mg aB ["_law_bag_here","_law_first","_law_kind"] "_law_sizes" (aY vJ) f aO A outer s H E).ux (X0 e) t/\t {nx:=λ_ H'=>Q .bP H',rt:=Q} (start ["_law_bag_here","_law_first","_law_kind"] [.ref p,.bl fi]) H:=by
 let nd:=QR.nd;erw[_,%[pS 2 nd (pf aci hr %[0,aA|az]),bp (PW.pt (nu (cg u8) (pX (bL (cJ K Z hr.units) w4 aA (bc _))))) (aG (aQ (dA %[aA,aA|az]))) bE,bp (PW.pt (nu (cg u8) (pX (bL (cJ K Z hr.units) w4 aA (bc _))))) (aG (aQ (dA %[aA,aA|az]))) bE,aQ (px K he.out w4)|aG],?_,B,ww,p,8,Z,bg,aw,aw,λkd H1 k0 k1 b1=>?_];let tb:∀{H2:Hp}{t:Addr}{x y:Int},Nw H1 H2 t (.tup [.int x,.int y])->1<=x->x<=20->1<=y->y<=100->Q (.ref t) H2:=λn2 h1 h2 h3 h4=>k _ _ _ _ (aW.of n2.at') h1 h2 h3 h4 (b1.ao (.fK b1.bw n2.ss));let fin:∀(v:V)(H2:Hp),aI H1 H2->RD K (fr H1 H2) v (.list (xK.map pairD))->∃l xs t x y,v= .ref l/\aK K H2 l xs/\fj xs kd=some (.ref t)/\aW K H2 t [.int x,.int y]/\1<=x/\x<=20/\1<=y/\y<=100:=λv H2 s2 r2=>by
  let(l,xs,rfl,hx,hd):=(RD.sK acK _ r2).lst_inv;let hl:=⇑hd;let hk:kd.toNat<⇑xK:=by show kd.toNat<8;omega
  let(y,ey,ry):=hd.get kd.toNat (show(xK.map pairD)[kd.toNat]? =some (pairD xK[kd.toNat]) by rw[bV,bf hk];rfl);let hb:∀q∈xK,1<=q.1/\q.1<=20/\1<=q.2/\q.2<=100:=by decide
  let(h1,h2,h3,h4):=hb _ (zX hk);let(t,zs,rfl,ht,hz):=ry.cD;let(z1,zr,rfl,e1,hz):=hz.cons_inv;let(z2,zr,rfl,e2,hz):=hz.cons_inv;cases hz.nil_inv;cases e1.int_inv;cases e2.int_inv;erw[l,xs,t,wT,hx,cn k0 ey,ht,h1,h2,h3,h4]
 erw[wp,?_,B,eV (λhf=>?_) (λhf=>?_)]
 ·erw[ww,.inl #[_,_,Z,Z,_,Z,?_]]
  erw[eV (λhc=>?_) (λhc=>?_)]
  ·erw[bM Z,λt H2 n2=>tb n2 aw aw aw aw]
  erw[wp,?_,B,eV (λhf=>?_) (λBe=>absurd hf Be),B,ww,.inl #[_,_,Z,Z,_,Z,?_],B,eV (λhc=>?_) (λhc=>?_)]
  ·erw[bM Z,λt H2 n2=>tb n2 aw aw aw aw]
  intro v H2 s2 r2;let(l,xs,t,x,y,rfl,hx,ht,hT,h1,h2,h3,h4):=fin v H2 s2 r2;erw[ww,.inl #[l,_,wr,hx,ht,k _ _ _ _ hT h1 h2 h3 h4 (b1.ao (.fK b1.bw s2))]]
 ·erw[wp,?_]
  erw[eV (λBe=>absurd Be hf) (λBe=>?_)];intro v H2 s2 r2;let(l,xs,t,x,y,rfl,hx,ht,hT,h1,h2,h3,h4):=fin v H2 s2 r2;erw[ww,.inl #[l,_,wr,hx,ht,k _ _ _ _ hT h1 h2 h3 h4 (b1.ao (.fK b1.bw s2))]]
def a7v(AA:a0q):a0n "_law_sizes" 2 a3F:=by
 exists AA.adV.has,QR,eQ λ_ _=>rfl
 ·let(p,fi,rfl,bg,k):=h
  rw[<-a9a];erw[a3g FK hr (a6N K Z 4 FK _ a3h) AA.B (eK AA) bg k]
end
end _c
namespace _c
universe _L _d _l _C _P
open _O (oR na dL iN ce iF sB dO OkI OkIs)
section
inductive a41|mk m iv tz rs r f j t ds os(_:vs=[m,iv,.int tz])(_:RD K H m (fC rs r f j t))(_:fQ rs r f j t)(_:RD K H iv (.list ds))(_:cj ⇑rs ds os)(_:⇑ds<=100)(_:10<=tz)(_:tz<=200)(_:∀l ys H',H l=none->H' l=some (.bi ys)->aH K H' ys ((dO j tz os).map cI)->aI H H'->Q (.ref l) H')
def a7O(AA:a0q):a0n "own_bounds" 8 a41:=by
 let(aN,kQ,j7):=AA.zd;exists AA.YK.has,FW,ka λ_ _ _=>rfl
 ·let(m,iv,tz,rs,r,f,j,t,ds,os,rfl,rm,aJ,ri,row,hz,bN,bS,k):=h
  let nd:=FW.nd;let rN:∀H',RD K H' (.ref aN) (cI 0):=λH'=>(AJ (j7 H')).rd;erw[_,%[bp (dN (K1 K Z u8)) (aG (aQ (cY %[dY (x:="NOUGHT") Z kQ|az]))) bE,(Ga (i0:=3) nd Z (Or.inl Z) (N:=["one","other","machine","rate"]) (js:=[none,none,some 0,some 2]) Z Z Z (lH K Z true true Z (AA.B.at "zip") %[1,Ay (Ae K rfl) u8 (Av aA) Aw|az]) (λ_ _ _ _ _=>(cX K rfl (n:=2) rfl %[ba 0 (show List.Nodup (["one","other","machine","rate"]:Ch) by decide+kernel),ba 1 (show List.Nodup (["one","other","machine","rate"]:Ch) by decide+kernel)|cW])) (λ_ _ _ _ _=>fZ) (λ_ _ _ _ _=>(pf (Wq AA) hr %[2,0,1,3|az]))),aQ (aM (El K Z) (aM (El K Z) (cY %[dY (x:="NOUGHT") Z kQ|az]) L2) (cY %[dY (x:="NOUGHT") Z kQ|az]))|aG],?_];let(ia,xs,rfl,hi,dP):=ri.lst_inv;let lx:=⇑dP;let ll:=row.len;erw[ww,_,.inl #[_,hi,Z],?_];cases hd:xs with
  |nil=>
   subst hd;erw[bB ?_,B,bM Z,λl H1 n1=>?_,B,k l [.ref aN] H1 n1.no n1.at' ?_ n1.ss];let e:os=[]:=by
    have:⇑os=0:=by rw[<-ll,<-lx];rfl
    erw[Iz.mp this]
   rw[e];erw[cm (rN H1) cQ] |cons x0 xr=>
   erw[aX ?_];let eZ:os≠[]:=by intro e;rw[e]at ll;rw[hd]at lx;simp at ll lx;rw[ll]at lx;cases lx
   let Dx:0<⇑xs:=by rw[hd];simp
   erw[wp,1,Z,ia,xs,Z,.inl #[hi,λtl H1 n1=>?_],B,ia,tl,Z,#[_,hi.go n1.ss],#[_,aK.of n1.at'],λD H2 n2=>?_];let et:=n1.at';rw[Nb]at et;let CQ:∀(i:Nat)(o:Itm),os[i]? =some o->∀(ns:Ar)(sp:Int),o=some (ns,sp)->fU ⇑rs 100 ns/\1<=sp/\sp<=20:=λi o e ns sp e'=>row.ok i ns sp (by rw[e,e']);let lr:=aJ.len;erw[wL (K:=K) (b1:=true) (b2:=true) (xs:=xs) (ys:=xs.drop 1) (ds:=((List.range (⇑os-1)).map (λi=>iF j tz os (i+1))).map cI) _ Z (hi.go n1.ss) (aK.of et) n2 (by rw[tO];simp;lia) (by simp;lia) (p9 _) ?_ ?_]
   ·intro i x y d H3 Q' ex ey ed s3 hq
    let fu:=n1.ss.ao s3;rw[xC]at ey;let(d1,e1,r1):=dP.get' i ex;let(d2,e2,r2):=dP.get' (1+i) ey;let(o1,sX,i1):=row.get e1;let(o2,pJ,i2):=row.get e2;let uN:1+i<⇑os:=(ck.mp pJ).1;let iU:d=cI (iN j tz o1 o2):=by rw[bV,bV,bf (by simp;lia),zW]at ed;have:=(fm ed).symm;rw[this];show cI (iN j tz (ce os i) (ce os (i+1)))=_;rw[_O.mI sX,_O.mI (show os[i+1]? =some o2 by rw[OA];erw[pJ])]
    subst iU;erw[ZB,ww,m,x,y,tz,rs,r,f,j,t,d1,d2,o1,o2,⇑rs,Z,RD.sK fu _ rm,aJ.j1.1,aJ.j1.2,RD.sK fu _ r1,RD.sK fu _ r2,i1,i2,CQ _ _ sX,CQ _ _ pJ,_S.kM lr aw aw,bN,bS,λv H4 rv s4=>?_,B,hq _ _ s4 rv.rd]
   ·intro H3 zs s3 d3 r3
    let lz:=⇑r3;simp at lz;erw[bM Z,λl1 H4 n4=>?_,B,ww,l1,D,_,zs,wP,aK.of n4.at',aK.of (n4.ss _ _ d3),Ct _ (by simp;lia),λl2 H5 n5=>?_,B,bM Z,λl3 H6 n6=>?_,B,l2,l3,wr,aK.of (n6.ss _ _ n5.at'),aK.of n6.at',Ct _ (by simp;lia),λl H7 n7=>?_];let nj:aI H H6:=n1.ss.ao (s3.ao (n4.ss.ao (n5.ss.ao n6.ss)));let nl:H l=none:=by cases e:H l with |none=>rfl |some o=>have:=nj _ _ e;rw[n7.no]at this;cases this
    erw[k l _ H7 nl n7.at' ?_ (nj.ao n7.ss)];rw[_O.VR j tz eZ,kn,kn];exact(%[rN H7|cQ].append (aH.sK (n4.ss.ao (n5.ss.ao (n6.ss.ao n7.ss))) _ r3)).append %[rN H7|cQ]
inductive a4i|mk m iv l ys rs r f j t ds os g(_:vs=[m,iv,.ref l])(_:RD K H m (fC rs r f j t))(_:fQ rs r f j t)(_:RD K H iv (.list ds))(_:cj ⇑rs ds os)(_:⇑ds<=30)(_:H l=some (.bi ys))(_:aH K H ys ((bi ⇑os g).map cI))(_:(∀i,i<=⇑os->Bd 900 (g i)))(_:∀l ys H',H l=none->H' l=some (.bi ys)->aH K H' ys ((bi ⇑os (fl ⇑os (sB os) (2*f) g)).map cI)->aI H H'->Q (.ref l) H')
def a89(AA:a0q):a0n "kept_by_fall" 5 a4i:=by
 erw[AA.YL.has FX (λvs H Q E h=>?_) (λ_ _ _ _ _ _=>ka λ_ _ _=>rfl) (λfa aO A outer s H vs Q E hr h=>?_)]
 · let(m,iv,l,ys,rs,r,f,j,t,ds,os,g,rfl,_):=h
   rfl
 · let(m,iv,l,ys,rs,r,f,j,t,ds,os,g,rfl,rm,aJ,ri,row,hz,dl,kL,bg,k):=h
   let nd:=FX.nd;erw[_,%[pS 3 nd (px K o0 aA),pS 4 nd (gY (x:="list") (yE K Z) Z (AA.B.at "list") jt %[2|az]),(gh fc Z (VG Z (AA.B.at "reversed") %[(gY (x:="range") ZZ rfl (AA.B.at "range") SC %[dC K AA.B %[1|az]|az])|az]) (ba 5 nd) (aG (bp (cg (pf (si AA) hr %[px K u8 P3|az])) (aG (fz (pf (yd AA) hr %[(cY %[px K M2 P3,(pf (ou AA) hr %[px K M2 (aM cM P3 aA),aM bO (aM bO aA L2) (pf (uu AA) hr %[px K u8 P3|az])|az])|az])|az]) (rW M2 P3 set_list))) bE))),aQ M2|aG],?_];let(ma,mb,rfl,gk,mE):=nC rm;let(ia,xs,rfl,hi,dP):=ri.lst_inv;let lx:=⇑dP;let ll:=row.len;let lr:=aJ.len;let hL:∀i m,sB os i=some m->(2*f*(m:Int)).natAbs<2^24:=λi m e=>A7 aJ.f1.1 aJ.f1.2 (AZ row.ow e);let FB:∀i,i<=⇑os->Bd 1700 (fl ⇑os (sB os) (2*f) g i):=λi hi=>(Me bg hL i hi).sK aE;erw[ww,.inr #[ma,_,2,.int f,wP,gk,Z,?_],B,ww,l,ys,Z,.inl (aK.of dl),λD H1 n1=>?_,B,ww,ia,ww,.inl (hi.go n1.ss),ww,λpr H2 n2=>?_,B,pr,ww,n2.at',cf _,aE,?_];let eN:((⇑xs:Int)).toNat=⇑os:=oY (IE _) (oY lx ll);rw[eN];erw[YA (Pv:=λi O H5=>aI H H5/\∃zs v1,H5 D=some (.bi zs)/\aH K H5 zs ((bi ⇑os λk=>if ⇑os<=k+i then fl ⇑os (sB os) (2*f) g k else g k).map cI)/\O=[some (.ref ma),some (.ref ia),some (.ref l),some (.int f),some (.ref D),v1]) ?_ ?_ ?_]
   · erw[n1.ss.ao n2.ss,ys,none,n2.ss _ _ n1.at',?_,Z]
     rw[uE (g:=λk=>if ⇑os<=k+0 then fl ⇑os (sB os) (2*f) g k else g k) (g':=g)]
     ·erw[aH.sK (n1.ss.ao n2.ss) _ kL]
     · intro k hk
       show g k=if ⇑os<=k+0 then _ else g k;split
       · next h => have:k=⇑os:=iY hk (_S.B5 h Z)
                   subst this;erw[sR.symm]
       ·rfl
   · rintro i O H3 nK ⟨s3,zs,v1,dz,rz,rfl⟩
     erw[gH ?_];intro E1;obtain⟨x,hx⟩:∃x,xs[⇑os-1-i]? =some x:=#[_,bf (show ⇑os-1-i<⇑xs by lia)];generalize hc:⇑os-1-i=c at hx;let cU:c<⇑os:=by lia
     let eI:((⇑os:Int)-1-(i:Int))=(c:Int):=by lia
     rw[eI];let(d,ed,rd):=dP.get' c hx;let(o,eo,it):=row.get ed;let lz:=⇑rz;rw[bC,sy]at lz;let Et:fj xs (c:Int)=some x:=cn (cf _) (by simpa using hx);erw[wp,.inl #[ia,_,wr,hi.go s3,Et,?_],B,x,d,o,Z,RD.sK s3 _ rd,it,wv];cases o with
     |none=>
       erw[aX ?_,B,s3,zs,_,dz,?_,Z];rw[uE (g:=λk=>if ⇑os<=k+(i+1)then fl ⇑os (sB os) (2*f) g k else g k) (g':=λk=>if ⇑os<=k+i then fl ⇑os (sB os) (2*f) g k else g k)]
       ·erw[rz]
       · intro k _
         show(if ⇑os<=k+i then _ else g k)=if ⇑os<=k+(i+1)then _ else g k;by_cases h1:⇑os<=k+i
         ·rw[aR h1,aR (cL h1 (Iy (jg _ _) _))]
         · rw[aV h1]
           by_cases h2:k=c
           ·subst h2;rw[aR aE,qI cU (Lc eo)]
           ·rw[aV aE] |some q=>
       let(ns,sp):=q;erw[bB ?_];let iU:=kB it;subst iU;let(bX,_,_):=row.ok c ns sp eo;obtain⟨z1,qJ⟩:∃z,zs[c+1]? =some z:=#[_,bf (show c+1<⇑zs from _S.fD (jv cU) lz)];obtain⟨z0,kR⟩:∃z,zs[c]? =some z:=#[_,bf (show c<⇑zs from _S.fD (_S.BA cU) lz)];let R1:bj H3 z1 (fl ⇑os (sB os) (2*f) g (c+1)):=by
        let(d1,e1,r1):=rz.get' (c+1) qJ;rw[bV,pj _ (show c+1<=⇑os from cU)]at e1;cases e1;have:⇑os<=c+1+i:=by lia
        simp only[aR this]at r1;erw[jP r1]
       let R0:bj H3 z0 (g c):=by
        let(d1,e1,r1):=rz.get' c kR;rw[bV,pj _ (show c<=⇑os from cw cU)]at e1;cases e1;have:¬⇑os<=c+i:=by lia
        simp only[aV this]at r1;erw[jP r1]
       let sZ:((c:Int)+1).toNat=c+1:=rfl;let pL:fj zs ((c:Int)+1)=some z1:=cn (gT (C4 (cf _))) (by rw[sZ];erw[qJ]);let iV:fj zs (c:Int)=some z0:=cn (cf _) (by simpa using kR);erw[wp,.inl #[D,_,wr,aK.of dz,iV,?_],B,Wp,.inl #[D,_,wr,aK.of dz,pL,?_],B,Wk,.of_left (cB aw aw),?_,B,wp,.inl #[ia,_,wr,hi.go s3,Et,?_],B,x,ns,sp,Z,RD.sK s3 _ rd,bX.ne,by rw[bX.len];erw[_S.kM lr aw aw],λH4 s4=>?_];let da:=aJ.f1;erw[wr,.of_left (cB (_S.AS da.1 aw) (_S.AR da.2 aw)),?_];let us:=hL c _ (AY eo);erw[z1,wT,R1.go s4,(FB (c+1) cU).sK aw,us,λu H5 ru s5=>?_,B,bM Z,λl2 H6 n6=>?_];let kx:=s4.ao (s5.ao n6.ss);let EE:=R0.go kx;let Ru:=ru.go n6.ss;let B1:Bd 2000 (g c):=(bg _ (cw cU)).sK aw;let B2:Bd 2000 (fl ⇑os (sB os) (2*f) g (c+1)+((2*f*(aF ns:Int):Int):Rat)):=(jG (FB (c+1) cU) us).sK aw;erw[l2,[z0,u],[_,_],Z,aK.of n6.at',#[EE,B1,Ru,B2,trivial],by simp,λc' v q e1 e2 hq=>?_];let oE:mn (g c) (fl ⇑os (sB os) (2*f) g (c+1)+((2*f*(aF ns:Int):Int):Rat))=q:=by
        erw[uD ?_ (hq _ (by simp)) (hq _ (by simp))]
        match c',e2 with |0,e2=>cases e2;erw[.inl rfl] |1,e2=>cases e2;erw[.inr rfl]
       let Rv:bj H6 v q:=by match c',e1,e2 with |0,e1,e2=>cases e1;cases e2;erw[EE] |1,e1,e2=>cases e1;cases e2;erw[Ru]
       let qM:=kx _ _ dz;let Li:iS ⇑zs (c:Int)=some c:=by unfold iS;rw[aR (cf _),aR (_S.hJ (_S.fD (_S.BA cU) lz))];simp
       erw[wp,D,zs,wr,qM,Li,?_,B,λb o e=>?_,xz,bQ,?_,Z]
       ·rw[aU (e9 e n1.no)];erw[kx b o (s3 b o e)]
       · let h:=aH.Ag (i:=c) qM (aH.sK kx _ rz) Rv.rd (p9 _) (p7 _)
         rw[<-zV]at h;let e:(bi ⇑os λk=>if ⇑os<=k+i then fl ⇑os (sB os) (2*f) g k else g k).set c q=bi ⇑os λk=>if ⇑os<=k+(i+1)then fl ⇑os (sB os) (2*f) g k else g k:=by
          rw[<-KO (g:=λk=>if ⇑os<=k+i then fl ⇑os (sB os) (2*f) g k else g k) (g':=λk=>if ⇑os<=k+(i+1)then fl ⇑os (sB os) (2*f) g k else g k) (i:=c)]
          · have:⇑os<=c+(i+1):=by lia
            simp only[aR this];rw[pH cU (AY eo),oE]
          · intro k _ hk
            show(if ⇑os<=k+(i+1)then _ else g k)=if ⇑os<=k+i then _ else g k;by_cases h1:⇑os<=k+i
            ·rw[aR h1,aR (cL h1 (Iy (jg _ _) _))]
            ·rw[aV h1,aV aE]
         rw[e]at h;erw[h]
   · rintro O H3 ⟨s3,zs,v1,dz,rz,rfl⟩
     rw[uE (g:=λk=>if ⇑os<=k+⇑os then fl ⇑os (sB os) (2*f) g k else g k) (g':=fl ⇑os (sB os) (2*f) g) (λk hk=>by show _=if ⇑os<=k+⇑os then _ else _;rw[aR (vv _ _)])]at rz;erw[ww,k D zs H3 n1.no dz rz s3]
def vO(f j tz:Int)(os:BT):Rat:=fl ⇑os (sB os) (2*f) (iF j tz os) 1
inductive a3P|mk m iv tz rs r f j t ds os(_:vs=[m,iv,.int tz])(_:RD K H m (fC rs r f j t))(_:fQ rs r f j t)(_:RD K H iv (.list ds))(_:cj ⇑rs ds os)(_:⇑ds<=30)(_:1<=⇑ds)(_:10<=tz)(_:tz<=200)(_:∀v H',bj H' v (vO f j tz os)->aI H H'->Q v H')
def R5:bA ["machine","items","rate"] ["machine","items","rate"] (aY Td):=bJ aP
def a7K(AA:a0q):a0n "reach_behind_first" 9 a3P:=by
 exists AA.adf.has,R5,ka λ_ _ _=>rfl
 ·let(m,iv,tz,rs,r,f,j,t,ds,os,rfl,rm,aJ,ri,row,hz,h1,bN,bS,k):=h
  let nd:=R5.nd;erw[_,(aG (aQ (px K (pf (a89 AA) hr %[0,1,pf (a7O AA) hr %[0,1,2|az]|az]) aA))),?_];let ll:=row.len;let hB:=_O.CK aJ.j1.1 aJ.j1.2 bN bS row.ow;erw[ZB,wp,m,iv,tz,rs,r,f,j,t,ds,os,Z,rm,aJ,ri,row,cL hz aw,bN,bS,λl1 y1 H1 sj d1 r1 s1=>?_,B,m,iv,l1,y1,rs,r,f,j,t,ds,os,iF j tz os,Z,RD.sK s1 _ rm,aJ,RD.sK s1 _ ri,row,hz,d1,r1,λi _=>(hB i).sK aw,λl2 y2 H2 uy d2 r2 s2=>?_];let ly:=⇑r2;rw[bC,sy]at ly;obtain⟨z,ez⟩:∃z,y2[1]? =some z:=#[_,bf (show 1<⇑y2 by lia)];erw[.inl #[l2,_,1,z,wP,aK.of d2,cn aw ez,?_]];let(d,ed,rd):=r2.get' 1 ez;rw[bV,pj _ (show 1<=⇑os from _S.aa4 h1 ll)]at ed;cases ed;erw[k z H2 (jP rd) (s1.ao s2)]
end
end _c
namespace _c
universe _L _d _l _C _P _W _R
open _O (oR na dL iN ce iF sB dO OkI OkIs)
section
def iD(m b d q p r s k t:V):List (Str×V):=[("machine",m),("begun_at",b),("done",d),("queue",q),("pace",p),("rate_now",r),("side",s),("mark",k),("stopping",t)]
structure cC where
 rs:List Int
 r:Int
 f:Int
 j:Int
 t:Int
abbrev cC.D(M:cC):aj:=fC M.rs M.r M.f M.j M.t
abbrev cC.Ok(M:cC):Prop:=fQ M.rs M.r M.f M.j M.t
structure bT where
 pl:List Int
 dn:Nat
 ds:List aj
 os:List Itm
 pc:Rat
 tz:Int
 side:Str
 mark:Str
 stp:_R.iz
def BD(H:Hp)(v:V):_R.iz->Prop |none=>v= .bP |some (sq,st,gn)=>∃a u,v= .ref a/\aW K H a [u,.int st,.int gn]/\bj H u sq
structure cN(M:cC)(D:Nat)(S:bT):Prop where
 row:cj ⇑M.rs S.ds S.os
 rw:RowW S.ds S.os
 len:⇑S.ds<=20
 bN:10<=S.tz
 bS:S.tz<=200
 dn:S.dn=0\/∃ns sp,S.os[0]? =some (some (ns,sp))/\S.dn<aF ns
 pl:⇑S.pl=M.rs.length
 pd:Dd (D+10) S.pc
 pm:S.pc<=1600
 stp:tF D S.pc S.stp
 D1:64<=D
 D2:D<=1500
structure dH(C:Addr)(H:Hp)(a q:Addr)(M:cC)(S:bT):Prop where
 ob:∃dx mv bv cZ tv,H a=some (.ins C dx (iD mv bv (.int S.dn) (.ref q) cZ (.int S.tz) (.str S.side) (.str S.mark) tv))/\RD K H mv M.D/\RD K H bv (jA S.pl)/\bj H cZ S.pc/\BD H tv S.stp
 qu:∃ys,H q=some (.bi ys)/\aH K H ys S.ds
theorem bj.v{v:V}(s:dG H H')(h:bj H v q):bj H' v q:=by let(p,rfl,hp):=h;erw[p,Z,aW.v s hp]
theorem BD.v{v:V}{t:_R.iz}(s:dG H H')(h:BD H v t):BD H' v t:=by cases t with |none=>erw[h] |some q=>let(sq,st,gn):=q;let(a,u,rfl,h1,h2):=h;erw[a,u,Z,aW.v s h1,bj.v s h2]
def dH.go(h:dH C H a q M S)(hn:bR S.ds=true)(s:dG H H')(ea:∀o,H a=some o->H' a=some o)(eq:∀o,H q=some o->H' q=some o):dH C H' a q M S:=by let((dx,mv,bv,cZ,tv,e,r1,r2,r3,r4),ys,zl,rq):=h;erw[#[dx,mv,bv,cZ,tv,ea _ e,RD.v s _ (qq _ _ _ _ _) r1,RD.v s _ (mq _) r2,r3.v s,r4.v s],ys,eq _ zl,aH.v s _ hn rq]
def dH.ss(h:dH C H a q M S)(hn:bR S.ds=true)(s:aI H H'):dH C H' a q M S:=h.go hn s.v (λo e=>s _ _ e) (λo e=>s _ _ e)
def dH.ne(h:dH C H a q M S):a≠q:=by let((dx,mv,bv,cZ,tv,e,_),ys,zl,_):=h;erw[De e zl (by intro z;cases z)]
theorem dH.v(h:dH C H a q M S)(b:eF [a,q] H H'):dG H H':=by
 let((dx,mv,bv,cZ,tv,e,_),ys,zl,_):=h;erw[b.v λx hx o eo=>?_];simp only[dj,gy,jM]at hx;rcases hx with rfl|rfl
 ·rw[e]at eo;cases eo;trivial
 ·rw[zl]at eo;cases eo;trivial
inductive ah7(C:Addr)(G:cC->bT->Hp->VK->Prop)(vs:AT)(H:Hp)(Q:VK):Prop |mk a q M D S(_:vs=[.ref a])(_:dH C H a q M S)(_:cN M D S)(_:M.Ok)(_:G M S H Q)
def rO(C:Addr)(G:cC->bT->Hp->VK->Prop):Sp:=λvs H Q _=>ah7 C G vs H Q
def a4R:bA ["self"] ["self"] (aY Ti):=bJ aP
def gSq:cC->bT->Hp->VK->Prop:=λ_ S H Q=>∀v,bj H v S.pc->Q v H
def ajB(RR:iL K mg C):a0o C "square" 1 (rO C gSq):=by
 exists RR.a9s.has,a4R,fE λ_=>rfl
 ·let(a,q,M,D,S,rfl,R,ok,aJ,k):=h
  let(dx,mv,bv,cZ,tv,e,r1,r2,r3,r4):=R.ob;erw[_,(aG (aQ (dZ RR.tc.cl RR.tc.vY o0))),ww,a,dx,wT,e,Z,k cZ r3]
def a4T:bA ["self"] ["self"] (aY Tr):=bJ aP
def ajC(RR:iL K mg C):a0o C "rate" 1 (rO C λ_ S H Q=>Q (.int S.tz) H):=by
 exists RR.a9t.has,a4T,fE λ_=>rfl
 ·let(a,q,M,D,S,rfl,R,ok,aJ,k):=h
  let(dx,mv,bv,cZ,tv,e,r1,r2,r3,r4):=R.ob;erw[_,(aG (aQ (dZ RR.tc.cl RR.tc.Di o0))),ww,a,dx,wT,e,Z,k]
def a4Q:bA ["self"] ["self"] (aY Th):=bJ aP
def ajA(RR:iL K mg C):a0o C "tool" 1 (rO C λ_ S H Q=>Q (.str S.side) H):=by
 exists RR.a9o.has,a4Q,fE λ_=>rfl
 ·let(a,q,M,D,S,rfl,R,ok,aJ,k):=h
  let(dx,mv,bv,cZ,tv,e,r1,r2,r3,r4):=R.ob;erw[_,(aG (aQ (dZ RR.tc.cl RR.tc.Kv o0))),ww,a,dx,wT,e,Z,k]
def a4O:bA ["self"] ["self"] (aY Tf):=bJ aP
def ajz(AA:a0q)(RR:iL K mg C):a0o C "waiting" 1 (rO C λ_ S H Q=>∀l ys H',H l=none->H' l=some (.bi ys)->aH K H' ys S.ds->aI H H'->Q (.ref l) H'):=by
 exists RR.a9m.has,a4O,fE λ_=>rfl
 ·let(a,q,M,D,S,rfl,R,ok,aJ,k):=h
  let(dx,mv,bv,cZ,tv,e,r1,r2,r3,r4):=R.ob;let(ys,eq,rq):=R.qu;erw[_,(aG (aQ (gY (x:="list") (yE K Z) Z (AA.B.at "list") jt %[dZ RR.tc.cl RR.tc.my o0|az]))),ww,a,dx,wT,e,Z,q,ys,Z,.inl (aK.of eq),λl H1 n1=>?_,B,k l ys H1 n1.no n1.at' (aH.sK n1.ss _ rq) n1.ss]
def a4X:bA ["self"] ["self"] (aY Tz):=bJ aP
def Kj(RR:iL K mg C):a0o C "is_held" 1 (rO C λ_ S H Q=>Q (.bl S.stp.isSome) H):=by
 exists RR.a9x.has,a4X,fE λ_=>rfl
 ·let(a,q,M,D,S,rfl,R,ok,aJ,k):=h
  let(dx,mv,bv,cZ,tv,e,r1,r2,r3,r4):=R.ob;erw[_,(aG (aQ (fN qg (dZ RR.tc.cl RR.tc.AM o0) gM (bc _)))),ww,a,dx,wT,e,Z,?_];cases hs:S.stp with |none=>rw[hs]at r4 k;cases(show tv= .bP from r4);erw[Z,k] |some z=>rw[hs]at r4 k;let(sq,st,gn):=z;let(b,u,rfl,_):=r4;erw[Z,k]
def a60(q:Rat):PyData.eqv (cI q) (cI 0)=decide (q=0):=by
 by_cases h:q=0
 ·rw[cy h];erw[YX h]
 ·rw[dh h]
  cases e:PyData.eqv (cI q) (cI 0)with |false=>rfl |true=>
   exfalso;apply h;let e':(PyData.eqv (.int q.num) (.int (0:Rat).num)&&(PyData.eqv (.int (q.den:Int)) (.int ((0:Rat).den:Int))&&true))=true:=e;rw[OU,gU]at e';let(a,b):=e';let h1:q.num=(0:Rat).num:=by simpa[PyData.eqv]using a
   let h2:(q.den:Int)=((0:Rat).den:Int):=by simpa[PyData.eqv]using b
   erw[Rat.ext h1 aE]
def a4S:bA ["self"] ["self"] (aY To):=bJ aP
def W9(AA:a0q)(RR:iL K mg C):a0o C "stands" 1 (rO C λ_ S H Q=>Q (.bl (decide (S.pc=0))) H):=by
 let(aN,kQ,j7):=AA.zd;exists RR.a9r.has,a4S,fE λ_=>rfl
 ·let(a,q,M,D,S,rfl,R,ok,aJ,k):=h
  let(dx,mv,bv,cZ,tv,e,r1,r2,r3,r4):=R.ob;erw[_,(aG (aQ (fN (cJ K Z hr.units) (dZ RR.tc.cl RR.tc.vY o0) (dY (x:="NOUGHT") rfl kQ) (bc _)))),ww,a,dx,wT,e,Z,.inr #[xz,r3.rd,(AJ (j7 H)).rd,wP,?_]];rw[a60];erw[k]
def a4W:bA ["self"] ["self"] (aY Tx):=bJ aP
def Wa(AA:a0q)(RR:iL K mg C):a0o C "is_halted" 2 (rO C λ_ S H Q=>Q (.bl (S.stp.isSome&&decide (S.pc=0))) H):=by
 exists RR.a9y.has,a4W,fE λ_=>rfl
 ·let(a,q,M,D,S,rfl,R,ok,aJ,k):=h
  let(dx,mv,bv,cZ,tv,e,r1,r2,r3,r4):=R.ob;erw[_,(aG (aQ (iE (nv (Kj RR) RR.tc.cl (hr.sK aw) o0) (iR (nv (W9 AA RR) RR.tc.cl (hr.sK aw) o0))))),ww,a,dx,ww,e,Z,a,q,M,D,S,Z,R,ok,aJ,wv];cases hs:S.stp.isSome with |false=>rw[hs]at k;erw[aX k] |true=>rw[hs]at k;erw[bB #[ww,a,dx,ww,e,Z,a,q,M,D,S,Z,R,ok,aJ,?_],B,k]
end
section
def Q5(ns:Ar)(k:Int):Ar:=ns.map λz=>kz (k*z) (aF ns)
def CI(S:bT):Ar:=if S.dn=0 then S.pl else match S.os[0]? with |some (some (ns,_))=>nR S.pl (Q5 ns S.dn) |_=>S.pl
def zc(S:bT):Ar:=S.os.foldl jE S.pl
def a0a{n:Nat}{pl:Ar}{o:Itm}(h:⇑pl=n)(ho:∀ns sp,o=some (ns,sp)->⇑ns=n):⇑(jE pl o)=n:=by cases o with |none=>erw[h] |some q=>let(ns,sp):=q;show⇑(nR pl ns)=n;rw[zB (by rw[ho ns sp Z,h])];erw[h]
theorem Ma{n:Nat}:∀(os:BT)(pl:Ar),⇑pl=n->(∀o∈os,∀ns sp,o=some (ns,sp)->⇑ns=n)->⇑(os.foldl jE pl)=n |[],pl,h,_=>h |o::os,pl,h,ho=>Ma os (jE pl o) (a0a h (ho o (.head _))) λx hx=>ho x (.tail _ hx)
def cN.CP{D:Nat}(h:cN M D S):∀o∈S.os,∀ns sp,o=some (ns,sp)->⇑ns=M.rs.length:=λo ho ns sp e=>by let(i,hi):=xA.mp ho;rw[e]at hi;exact(h.row.ok i ns sp hi).1.len
def cN.first{D:Nat}(h:cN M D S)(hn:S.dn≠0):∃ns sp,S.os[0]? =some (some (ns,sp))/\S.dn<aF ns:=by
 rcases h.dn with e|e
 ·exact(hn e).elim
 ·erw[e]
def a4U:bA ["self"] ["self"] (aY Ts):=bJ aP
def ajD(AA:a0q)(RR:iL K mg C):a0o C "place" 3 (rO C λ_ S H Q=>∀v H',RD K H' v (jA (CI S))->aI H H'->Q v H'):=by
 exists RR.a9u.has,a4U,fE λ_=>rfl
 ·let(a,q,M,D,S,rfl,R,ok,aJ,k):=h
  let(dx,mv,bv,cZ,tv,e,r1,r2,r3,r4):=R.ob;let(ys,eq,rq):=R.qu;erw[_,%[bp (bL (cJ K Z hr.units) (dZ RR.tc.cl RR.tc.uB o0) aA (bc _)) (aG (aQ (dZ RR.tc.cl RR.tc.AN o0))) bE,(aQ (pf (Wh AA) hr %[dZ RR.tc.cl RR.tc.AN o0,pf (Kh AA) hr %[px K (dZ RR.tc.cl RR.tc.my o0) aA,dZ RR.tc.cl RR.tc.uB o0|az]|az]))|aG],ww,a,dx,wT,e,Z,.inl #[_,_,Z,Z,_,Z,?_]];by_cases h0:S.dn=0
  ·rw[cy (C5 (_S.Bu (m9 h0) aw) (cf _))]
   let ep:CI S=S.pl:=by unfold CI;rw[aR h0]
   rw[ep]at k;erw[bB #[ww,a,dx,wT,e,Z,k bv H r2 (aI.refl _)]]
  ·rw[dh aE]
   erw[aX ?_];let(ns,sp,eo,hd):=ok.first h0;let(bX,cT,dM):=ok.row.ok 0 ns sp eo;let ep:CI S=nR S.pl (Q5 ns S.dn):=by unfold CI;rw[aV h0,eo]
   rw[ep]at k;let ll:=ok.row.len;let yN:0<⇑S.os:=(ck.mp eo).1;obtain⟨d,ed⟩:∃d,S.ds[0]? =some d:=#[_,bf (show 0<⇑S.ds from _S.fD yN ll)];let(y,ey,ry):=rq.get 0 ed;let it:=ok.row.it 0 d _ ed eo;let iU:=kB it;subst iU;let lO:=nG bX;let lr:=aJ.len;erw[ww,a,dx,wT,e,Z,?_,B,ww,a,dx,wT,e,Z,.inl #[q,_,0,y,wP,aK.of eq,cn (dU 0) ey,?_],B,ww,a,dx,wT,e,Z,y,ns,sp,ww,ry,#[Z,λz hz=>by have:=bX.bd z hz;lia,bX.nz],by rw[bX.len];erw[_S.kM lr aw aw],aE,λu H1 ru s1=>?_];let(b,xs,rfl,hb,hx):=ru.cD;rw[hx.jm]at hb;erw[bv,b,S.pl,ww,RD.sK s1 _ r2,hb,by rw[bC,bX.len,ok.pl],by rw[ok.pl];erw[_S.kM lr aw aw],λv H2 rv s2=>k v H2 rv (s1.ao s2)]
def Ri:bA ["self","here","item"] ["self"] (aY Tu):=bJ aP
def a7E(AA:a0q)(RR:iL K mg C):a0o C "leads_to" 3 (rO C λ_ S H Q=>∀v H',RD K H' v (jA (zc S))->aI H H'->Q v H'):=by
 exists RR.a9w.has,Ri,fE λ_=>rfl
 ·let(a,q,M,D,S,rfl,R,ok,aJ,k):=h
  let(dx,mv,bv,cZ,tv,e,r1,r2,r3,r4):=R.ob;let(ys,eq,rq):=R.qu;let nd:=Ri.nd;let ll:=ok.row.len;let ly:=⇑rq;let lr:=aJ.len;erw[_,%[pS 1 nd (dZ RR.tc.cl RR.tc.AN o0),gh fc Z (qe K Z (dZ RR.tc.cl RR.tc.my o0)) (ba 2 nd) (aG (pS 1 nd (pf (Kl AA) hr %[1,2|az]))),aQ u8|aG],ww,a,dx,wT,e,WP,a,dx,wT,e,Z,q,Z,#[_,aK.of eq],?_,B,Bk (K:=K) (a:=q) (xs:=ys) (λi O H1=>aI H H1/\∃hv v2,RD K H1 hv (jA ((S.os.take i).foldl jE S.pl))/\O=[some (.ref a),some hv,v2]) #[aI.refl _,bv,none,r2,Z] (λi O H1 _ h=>aK.of (h.1 _ _ eq)) ?_ ?_]
  ·rintro i x O H1 hx ⟨s1,hv,v2,rh,rfl⟩
   erw[gH ?_];intro E1;let(d,ed,rd):=rq.get' i hx;let(o,eo,it):=ok.row.get ed;let lp:⇑((S.os.take i).foldl jE S.pl)=M.rs.length:=Ma _ _ ok.pl λo ho=>ok.CP o (BR ho);erw[wp,hv,x,_,d,o,Z,rh,RD.sK s1 _ rd,it,λns sp e'=>by rw[lp];erw[ok.CP o (gA eo) ns sp e'],aE,λv H2 rv s2=>?_,B,s1.ao s2,v,_,?_,Z];rw[mQ,eo,BZ];erw[rv]
  ·rintro O H1 ⟨s1,hv,v2,rh,rfl⟩
   rw[ly,ll,zU]at rh;erw[ww,k hv H1 rh s1]
structure Mv(a q:Addr)(H:Hp)(q':Addr)(H':Hp):Prop where
 but:eF [a,q] H H'
 nq:q'=q\/H q'=none
def a4V:bA ["self","machine","place"] ["self","machine","place"] (aY Tv):=bJ aP
def rL(pl:Ar):bT:=#[pl,0,[],[],0,100,"up","",none]
inductive ahq(C:Addr)(vs:AT)(H:Hp)(Q:VK):Prop |mk a dx mv xZ M pl(_:vs=[.ref a,mv,xZ])(_:H a=some (.ins C dx []))(_:RD K H mv (cC.D M))(_:RD K H xZ (jA pl))(_:∀q H',dH C H' a q M (rL pl)->H q=none->eF [a] H H'->Q .bP H')
def a3T(C:Addr):Sp:=λvs H Q _=>ahq C vs H Q
def a7G(AA:a0q)(RR:iL K mg C):O0 P w K mg aB C "Runner" 1 (a3T C):=by
 let(aN,kQ,j7):=AA.zd;exists RR.init.has,a4V,ka λ_ _ _=>rfl
 ·let(a,dx,mv,xZ,M,pl,rfl,e,rm,rp,k):=h
  erw[_,%[jR RR.tc.cl RR.tc.vZ o0 u8,jR RR.tc.cl RR.tc.AN o0 w4,jR RR.tc.cl RR.tc.uB o0 aA,jR RR.tc.cl RR.tc.my o0 (cY az),jR RR.tc.cl RR.tc.vY o0 (dY (x:="NOUGHT") rfl kQ),jR RR.tc.cl RR.tc.Di o0 (dY (x:="FIRST_RATE") rfl AA.acF),jR RR.tc.cl RR.tc.Kv o0 fA,jR RR.tc.cl RR.tc.WM o0 fA,jR RR.tc.cl RR.tc.AM o0 gM|aG],?_,B,wp,a,dx,ww,e,aw,?_,B,wp,a,dx,ww,bQ,by show 1<1000;decide,?_,B,ww,a,dx,ww,bQ,by show 2<1000;decide,?_,B,bM Z,λq H1 n1=>?_];let aq:a≠q:=λz=>by have:=n1.no;rw[<-z,bQ]at this;cases this
  let e1:=n1.ss _ _ (bQ (a:=a));erw[ww,a,dx,ww,e1,by show 3<1000;decide,?_,B,ww,a,dx,ww,bQ,by show 4<1000;decide,?_,B,ww,a,dx,ww,bQ,by show 5<1000;decide,?_,B,ww,a,dx,ww,bQ,by show 6<1000;decide,?_,B,ww,a,dx,ww,bQ,by show 7<1000;decide,?_,B,ww,a,dx,ww,bQ,by show 8<1000;decide,?_];let key:∀X:Hp,(∀b,b≠a->X b=H1 b)->Q .bP (_L.bn X a (.ins C dx (iD mv xZ (.int 0) (.ref q) (.ref aN) (.int 100) (.str "up") (.str "") .bP))):=by
   intro X hX;let bt:eF [a] H (_L.bn X a (.ins C dx (iD mv xZ (.int 0) (.ref q) (.ref aN) (.int 100) (.str "up") (.str "") .bP))):=λb o eb hb=>by let ha:b≠a:=λz=>hb (by rw[z];erw[.head _]);rw[aU ha,hX b ha];erw[n1.ss _ _ (by rw[aU ha,aU ha,aU ha];erw[eb])]
   let sv:=bt.v λx hx o eo=>by rw[gz]at hx;rw[hx,e]at eo;cases eo;trivial
   erw[k q _ #[#[dx,mv,xZ,.ref aN,.bP,bQ,RD.v sv _ (qq _ _ _ _ _) rm,RD.v sv _ (mq _) rp,AJ (j7 _),Z],[],?_,cQ] ?_ bt]
   ·rw[aU aq.symm,hX q aq.symm];erw[n1.at']
   ·have:=n1.no
    rw[aU aq.symm,aU aq.symm,aU aq.symm]at this;erw[this]
  erw[key _ (λb hb=>by rw[aU hb,aU hb,aU hb,aU hb,aU hb])]
def a5F(hp:⇑pl=M.rs.length):cN M 64 (rL pl):=#[.nil,λi d e=>by simp[rL]at e,by simp[rL],(show(10:Int)<=100 by decide),(show(100:Int)<=200 by decide),.inl rfl,hp,#[(show(0:Rat)<=0 by decide),(show(0:Rat).den<2^74 by decide+kernel)],(show(0:Rat)<=1600 by decide+kernel),trivial,aw,aw]
def a7k(h:mL rs pl):Lo rs (jA pl)=true:=by show(⇑(pl.map PyData.int)==rs.length&&(((pl.map PyData.int).zip rs).map λp=>iT 0 p.2 p.1).all id)=true;rw[bC,h.len,Ij,mU,jw];intro b hb;let((d,r),hm,rfl):=gS.mp hb;let(i,hi):=xA.mp hm;let(e1,e2):=(OJ (z:=(d,r))).mp hi;rw[bV]at e1;cases e:pl[i]? with |none=>rw[e]at e1;cases e1 |some x=>rw[e]at e1;cases e1;let(a1,a2):=h.at' i x r e e2;show(decide (0<=x)&&decide (x<=r))=true;rw[cy a1,cy a2];rfl
def pI(S:bT)(d:aj)(o:Itm):bT:={S with ds:=S.ds++[d],os:=S.os++[o]}
def cN.zf{D:Nat}(h:cN M D S)(it:BH ⇑M.rs d o)(hl:⇑S.ds<20):cN M D (pI S d o):=by
 let ll:=h.row.len;erw[h.row.snoc it.it it.ln,RowW.snoc h.rw ll it.ot,by show⇑(S.ds++[d])<=20;rw[cH];show _+1<=20;erw[hl],h.bN,h.bS,?_,h.pl,h.pd,h.pm,h.stp,h.D1,h.D2];rcases h.dn with e|⟨ns,sp,e,e2⟩
 ·erw[.inl e]
 ·erw[.inr #[ns,sp,?_,e2]]
  show(S.os++[o])[0]? =_;rw[nZ (ck.mp e).1];erw[e]
def Rk:bA ["self","item"] ["self","item"] (aY TC):=bJ aP
inductive aht(C:Addr)(vs:AT)(H:Hp)(Q:VK):Prop |mk a q M D S v d o(_:vs=[.ref a,v])(_:dH C H a q M S)(_:cN M D S)(_:M.Ok)(_:RD K H v d)(_:BH ⇑M.rs d o)(_:mL M.rs (jE (zc S) o))(_:⇑S.ds<20)(_:∀H',dH C H' a q M (pI S d o)->eF [a,q] H H'->Q (.int (⇑S.ds+1:Nat)) H')
def a3W(C:Addr):Sp:=λvs H Q _=>aht C vs H Q
def Wc(AA:a0q)(RR:iL K mg C):a0o C "feed" 5 (a3W C):=by
 exists RR.a9B.has,Rk,eQ λ_ _=>rfl
 ·let(a,q,M,D,S,v,d,o,rfl,R,ok,aJ,rd,it,CO,hl,k):=h
  let(dx,mv,bv,cZ,tv,e,r1,r2,r3,r4):=R.ob;let(ys,eq,rq):=R.qu;let nd:=Rk.nd;let lr:=aJ.len;let ly:=⇑rq;let(i1,i2,i3):=it.is;erw[_,%[bp (dN (cg (pf (Wj AA) hr %[dZ RR.tc.cl RR.tc.vZ o0,1|az]))) (aG vS) bE,(bp (dN (cg (pf (a83 AA) hr %[dZ RR.tc.cl RR.tc.vZ o0,pf (Kl AA) hr %[nv (a7E AA RR) RR.tc.cl (hr.sK aw) o0,1|az]|az]))) (aG vS) bE),bp (bL Gk (dC K AA.B %[dZ RR.tc.cl RR.tc.my o0|az]) (dY (x:="MOST_WAITING") rfl AA.acy) (bc _)) (aG vS) bE,fe (ji K Z (dZ RR.tc.cl RR.tc.my o0) %[1|az]),aQ (dC K AA.B %[dZ RR.tc.cl RR.tc.my o0|az])|aG],?_,B,ww,a,dx,wT,e,WP,mv,v,M.rs,_,d,Z,r1,rd,_S.kM lr aw aw,i2,i3,λH1 s1=>#[_,Z,?_]];rw[i1];erw[aX ?_];let e1:=s1 _ _ e;let R1:=R.ss ok.row.no s1;erw[ww,a,dx,wT,e1,Z,?_,B,ww,a,dx,ww,e1,Z,a,q,M,D,S,Z,R1,ok,aJ,λg H2 rg s2=>?_];let gK:=s1.ao s2;let gl:⇑(zc S)=M.rs.length:=Ma _ _ ok.pl ok.CP;erw[ww,g,v,zc S,d,o,Z,rg,RD.sK gK _ rd,it.it,λns sp e'=>by rw[gl];exact(it.ln ns sp e').1.len,aE,λu H3 ru s3=>?_];let fu:=gK.ao s3;erw[mv,u,M.rs,wT,RD.sK fu _ r1,ru,_S.kM lr aw aw,λH4 s4=>#[_,Z,?_]];rw[a7k CO];erw[aX ?_];let gJ:=fu.ao s4;let e4:=gJ _ _ e;let eq4:=gJ _ _ eq;erw[ww,a,dx,wT,e4,Z,q,ww,.inl (aK.of eq4),jp];rw[show decide ((⇑ys:Int)>=20)=false from dh aE];erw[aX ?_];let nL:sizeLine=16777216:=by decide
  erw[ww,a,dx,wT,e4,Z,.inl #[Z,_,aK.of eq4],ww,q,ys,ww,Z,eq4,dJ (lt_of_eq_of_lt ly hl) aw,?_];let aq:=R.ne;let tu:dG H4 (_L.bn H4 q (.bi (ys++[v]))):=.bn eq4 trivial;let e5:(_L.bn H4 q (.bi (ys++[v]))) a=some (.ins C dx (iD mv bv (.int S.dn) (.ref q) cZ (.int S.tz) (.str S.side) (.str S.mark) tv)):=by rw[aU aq];erw[e4]
  erw[ww,a,dx,wT,e5,Z,q,ww,.inl (aK.of bQ),?_];let sv:dG H (_L.bn H4 q (.bi (ys++[v]))):=gJ.v.ao tu;let el:(⇑(ys++[v]):Int)=((⇑S.ds+1:Nat):Int):=by rw[cH,ly];rfl
  rw[el];erw[k _ #[#[dx,mv,bv,cZ,tv,e5,RD.v sv _ (qq _ _ _ _ _) r1,RD.v sv _ (mq _) r2,r3.v sv,r4.v sv],_,bQ,?_] λb o' eb hb=>?_]
  ·exact(aH.v sv _ ok.row.no rq).append %[RD.v sv _ it.it.no rd|cQ]
  ·let wy:b≠q:=λz=>hb (by rw[z];simp)
   rw[aU wy];erw[gJ _ _ eb]
end
section
def jW(S:bT):bT:=match S.os with |o::os=>{S with pl:=jE S.pl o,ds:=S.ds.tail,os:=os,dn:=0} |[]=>S
def cj.tail{n:Nat}{ds:AC}{os:BT}(h:cj n (d::ds) (o::os)):cj n ds os:=#[by have:=h.len;simpa using this,λi d' o' e1 e2=>h.it (i+1) d' o' (by simpa using e1) (by simpa using e2),λi ns sp e=>h.ok (i+1) ns sp (by simpa using e)]
def RowW.tail{ds:AC}{os:BT}(h:RowW (d::ds) (o::os)):RowW ds os:=λi d' e1 e2=>h (i+1) d' (by simpa using e1) (by simpa using e2)
structure nT(M:cC)(D:Nat)(S:bT):Prop where
 row:cj ⇑M.rs S.ds S.os
 rw:RowW S.ds S.os
 len:⇑S.ds<=20
 bN:10<=S.tz
 bS:S.tz<=200
 pl:⇑S.pl=M.rs.length
 pd:Dd (D+10) S.pc
 pm:S.pc<=1600
 stp:tF D S.pc S.stp
 D1:64<=D
 D2:D<=1500
def cN.raw{D:Nat}(h:cN M D S):nT M D S:=#[h.row,h.rw,h.len,h.bN,h.bS,h.pl,h.pd,h.pm,h.stp,h.D1,h.D2]
def nT.ok{M:cC}{D:Nat}{S:bT}(h:nT M D S)(hd:S.dn=0\/∃ns sp,S.os[0]? =some (some (ns,sp))/\S.dn<aF ns):cN M D S:=#[h.row,h.rw,h.len,h.bN,h.bS,hd,h.pl,h.pd,h.pm,h.stp,h.D1,h.D2]
def nT.end{D:Nat}(h:nT M D S)(hn:S.os≠[]):cN M D (jW S):=by let(pl,dn,ds,os,pc,tz,side,mark,stp):=S;cases os with |nil=>exact(hn Z).elim |cons o os=>let ll:=h.row.len;cases ds with |nil=>simp at ll |cons d ds=>
 erw[h.row.tail,h.rw.tail,?_,h.bN,h.bS,.inl Z,?_,h.pd,h.pm,h.stp,h.D1,h.D2]
 ·have:=h.len
  simp only[kY]at this;show ⇑ds<=20;erw[cw this]
 ·erw[a0a h.pl λns sp e=>(h.row.ok 0 ns sp (by rw[<-e];rfl)).1.len]
def af8(xs:AT):oP xs (some 1) none=xs.drop 1:=Nb xs
def Rw:bA ["self"] ["self"] (aY TJ):=bJ aP
inductive ahw(C:Addr)(vs:AT)(H:Hp)(Q:VK):Prop |mk a q M D S(_:vs=[.ref a])(_:dH C H a q M S)(_:nT M D S)(_:M.Ok)(_:S.os≠[])(_:∀q' H',dH C H' a q' M (jW S)->H q'=none->eF [a] H H'->Q .bP H')
def a3X(C:Addr):Sp:=λvs H Q _=>ahw C vs H Q
def We(AA:a0q)(RR:iL K mg C):a0o C "end_first" 3 (a3X C):=by
 exists RR.a9E.has,Rw,fE λ_=>rfl
 ·let(a,q,M,D,S,rfl,R,ok,aJ,hn,k):=h
  let(dx,mv,bv,cZ,tv,e,r1,r2,r3,r4):=R.ob;let(ys,eq,rq):=R.qu;let aq:=R.ne;let nd:=Rw.nd;let lr:=aJ.len;let ll:=ok.row.len;erw[_,%[jR RR.tc.cl RR.tc.AN o0 (pf (Kl AA) hr %[dZ RR.tc.cl RR.tc.AN o0,px K (dZ RR.tc.cl RR.tc.my o0) aA|az]),jR RR.tc.cl RR.tc.my o0 (Ay (Ae K rfl) (dZ RR.tc.cl RR.tc.my o0) (Av aA) Aw),jR RR.tc.cl RR.tc.uB o0 aA|aG],?_];let(pl,dn,ds,os,pc,tz,side,mark,stp):=S;cases os with |nil=>exact(hn Z).elim |cons o os=>cases ds with |nil=>simp at ll |cons d ds=>
   let(y,yr,rfl,ry,rr):=rq.cons_inv;let it:itR d o:=ok.row.it 0 d o Z rfl;let lp:⇑pl=M.rs.length:=ok.pl;erw[ww,a,dx,wT,e,Z,?_,B,ww,a,dx,wT,e,Z,.inl #[q,_,0,y,wP,aK.of eq,cn (dU 0) Z,?_],B,bv,y,pl,d,o,Z,r2,ry,it,λns sp e'=>by rw[lp];exact(ok.row.ok 0 ns sp (by rw[<-e'];rfl)).1.len,aE,λu H1 ru s1=>?_];let e1:=s1 _ _ e;erw[ww,a,dx,ww,e1,by show 9<1000;decide,?_];let eq1:(_L.bn H1 a (.ins C dx (iD mv u (.int dn) (.ref q) cZ (.int tz) (.str side) (.str mark) tv))) q=some (.bi (y::yr)):=by rw[aU aq.symm];erw[s1 _ _ eq]
   erw[ww,a,dx,wT,bQ,WP,q,ww,.inl #[aK.of eq1,λq' H2 n2=>?_]];let e2:=n2.ss _ _ (bQ (a:=a));erw[ww,a,dx,ww,e2,by show 9<1000;decide,?_,B,ww,a,dx,ww,bQ,by show 9<1000;decide,?_];let NL:a≠q':=λz=>by have:=n2.no;rw[<-z,bQ]at this;cases this
   let key:∀X:Hp,(∀b,b≠a->X b=H2 b)->Q .bP (_L.bn X a (.ins C dx (iD mv u (.int 0) (.ref q') cZ (.int tz) (.str side) (.str mark) tv))):=by
    intro X hX;let bt:eF [a] H (_L.bn X a (.ins C dx (iD mv u (.int 0) (.ref q') cZ (.int tz) (.str side) (.str mark) tv))):=λb o' eb hb=>by let ha:b≠a:=λz=>hb (by rw[z];erw[.head _]);rw[aU ha,hX b ha];erw[n2.ss _ _ (by rw[aU ha];erw[s1 _ _ eb])]
    let sv:=bt.v λx hx o' eo=>by rw[gz]at hx;rw[hx,e]at eo;cases eo;trivial
    let sv1:dG H1 (_L.bn X a (.ins C dx (iD mv u (.int 0) (.ref q') cZ (.int tz) (.str side) (.str mark) tv))):=λb o' nb eb=>by
     let ha:b≠a:=λz=>by rw[z,e1]at eb;cases eb;erw[nb trivial]
     rw[aU ha,hX b ha];erw[n2.ss _ _ (by rw[aU ha];erw[eb])]
    let jc:=n2.at';rw[af8]at jc;erw[k q' _ #[#[dx,mv,u,cZ,tv,bQ,RD.v sv _ (qq _ _ _ _ _) r1,RD.v sv1 _ (mq _) ru,r3.v sv,r4.v sv],yr,zn] ?_ bt]
    ·rw[aU NL.symm,hX q' NL.symm];erw[jc]
    ·erw[aH.v sv _ ok.row.tail.no rr]
    ·cases e':H q' with |none=>rfl |some o'=>let h1:=s1 _ _ e';let h2:=n2.no;rw[aU NL.symm,h1]at h2;cases h2
   erw[key _ (λb hb=>by rw[aU hb])]
def mn4(h:q=x\/q=y\/q=z\/q=u)(h1:q<=x)(h2:q<=y)(h3:q<=z)(h4:q<=u):mn (mn (mn x y) z) u=q:=by
 erw[zP ?_ (iq (iq (iq h1 h2) h3) h4)];rcases h with h|h|h|h
 ·rw[h];erw[cu (eO _ _) (cu (eO _ _) (eO _ _))]
 ·rw[h];erw[cu (eO _ _) (cu (eO _ _) (gj _ _))]
 ·rw[h];erw[cu (eO _ _) (gj _ _)]
 ·rw[h];erw[gj _ _]
def Xw(dl:H l=some (.bi [u1,u2,u3]))(R1:bj H u1 x)(R2:bj H u2 y)(R3:bj H u3 z)(b1:Bd 2000 x)(b2:Bd 2000 y)(b3:Bd 2000 z)(k:∀v,bj H v (mn (mn x y) z)->Q v H):Ad [.ref l] H Q E0:=by
 erw[l,[u1,u2,u3],[x,y,z],Z,aK.of dl,#[R1,b1,R2,b2,R3,b3,trivial],by simp,λc v q e1 e2 hq=>k v ?_];let e:mn (mn x y) z=q:=by
  erw[WZ ?_ (hq _ (by simp)) (hq _ (by simp)) (hq _ (by simp))]
  match c,e2 with |0,e2=>cases e2;erw[.inl rfl] |1,e2=>cases e2;erw[.inr (.inl rfl)] |2,e2=>cases e2;erw[.inr (.inr rfl)]
 rw[e]
 match c,e1,e2 with |0,e1,e2=>cases e1;cases e2;erw[R1] |1,e1,e2=>cases e1;cases e2;erw[R2] |2,e1,e2=>cases e1;cases e2;erw[R3]
def Xv{t:Rat}(dl:H l=some (.bi [u1,u2,u3,u4]))(R1:bj H u1 x)(R2:bj H u2 y)(R3:bj H u3 z)(R4:bj H u4 t)(b1:Bd 2000 x)(b2:Bd 2000 y)(b3:Bd 2000 z)(b4:Bd 2000 t)(k:∀v,bj H v (mn (mn (mn x y) z) t)->Q v H):Ad [.ref l] H Q E0:=by
 erw[l,[u1,u2,u3,u4],[x,y,z,t],Z,aK.of dl,#[R1,b1,R2,b2,R3,b3,R4,b4,trivial],by simp,λc v q e1 e2 hq=>k v ?_];let e:mn (mn (mn x y) z) t=q:=by
  erw[mn4 ?_ (hq _ (by simp)) (hq _ (by simp)) (hq _ (by simp)) (hq _ (by simp))]
  match c,e2 with |0,e2=>cases e2;erw[.inl rfl] |1,e2=>cases e2;erw[.inr (.inl rfl)] |2,e2=>cases e2;erw[.inr (.inr (.inl rfl))] |3,e2=>cases e2;erw[.inr (.inr (.inr rfl))]
 rw[e]
 match c,e1,e2 with |0,e1,e2=>cases e1;cases e2;erw[R1] |1,e1,e2=>cases e1;cases e2;erw[R2] |2,e1,e2=>cases e1;cases e2;erw[R3] |3,e1,e2=>cases e1;cases e2;erw[R4]
def Hu{D:Nat}{q:Rat}{z:Int}(h:Dd D q)(hl:q<=1600)(hz:0<=z)(yI:z<2^24)(hD:D<=1700):Bd 2000 (q+(z:Rat)):=by let b:Bd (D+11) q:=h.bd (cu hl aP);exact(jG b (_S.a8Y hz yI aw)).sK aE
def Rf:bA ["self","top","reach","left","rise","fall","middles","ends","square","steps","gone","still"] ["self","top","reach","left"] (aY Tt):=bJ aP
def Kq(M:cC)(S:bT)(top R:Rat)(left:Int):bT:={S with pc:=p8 M.r M.f S.pc top R left S.stp,stp:=yh S.stp}
inductive ahp(C:Addr)(vs:AT)(H:Hp)(Q:VK):Prop |mk a q M D S tv Rv top R left(_:vs=[.ref a,tv,Rv,.int left])(_:dH C H a q M S)(_:cN M D S)(_:M.Ok)(_:bj H tv top)(_:Dd 14 top)(_:top<=1600)(_:bj H Rv R)(_:Dd 64 R)(_:R<=1600)(sM:1<=left)(zb:left<=100)(za:¬Halt S.pc S.stp)(M6:∀v H',bj H' v (lM M.r M.f S.pc top R left S.stp)->dH C H' a q M (Kq M S top R left)->eF [a] H H'->Q v H')
def a3S(C:Addr):Sp:=λvs H Q _=>ahp C vs H Q
def a7D(AA:a0q)(RR:iL K mg C):a0o C "next_square" 5 (a3S C):=by
 exists RR.a9v.has,Rf,wX λ_ _ _ _=>rfl
 ·let(a,q,M,D,S,tv,Rv,top,R,left,rfl,R0,ok,aJ,rt,td,tl,rR,Rd,Rl,l1,l2,nh,k):=h
  let(dx,mv,bv,cZ,sv,e,r1,r2,r3,r4):=R0.ob;let(ys,eq,rq):=R0.qu;let aq:=R0.ne;let nd:=Rf.nd;let fY:=aJ.r1;let da:=aJ.f1;let D1:=ok.D1;let D2:=ok.D2;let nL:(2:Int)^24=16777216:=by decide
  let(ma,mb,rfl,gk,mE):=nC r1;erw[_,%[rV (i:=4) (j:=5) Z nd Z Z aw Z Z %[px K (dZ RR.tc.cl RR.tc.vZ o0) aA,px K (dZ RR.tc.cl RR.tc.vZ o0) aA|az] rfl,(pS 6 nd (cY %[pf (ou AA) hr %[dZ RR.tc.cl RR.tc.vY o0,4|az],1,pf (ou AA) hr %[2,aM bO P3 (aM ip (aM bO aA L2) aA)|az]|az])),(pS 7 nd (cY %[pf (ou AA) hr %[dZ RR.tc.cl RR.tc.vY o0,aM bO aA M2|az],1,pf (ou AA) hr %[2,aM bO (aM bO aA P3) (aM ip L2 aA)|az]|az])),(jQ (bp (cg (nv (Kj RR) RR.tc.cl (hr.sK aw) o0)) %[fz (dZ RR.tc.cl RR.tc.AM o0) (cX K rfl (n:=3) rfl %[ba 8 nd,ba 9 nd,ba 10 nd|cW]),pS 11 nd (aM ip (aM ip a0l a0m) aA),(fe (ji K Z W1 %[(pf (W5 AA) hr %[8,pf (CZ AA) hr %[aM cM (aM bO aA (pv 11)) aA,aM bO aA a0l|az]|az])|az])),(fe (ji K Z a0g %[(pf (W5 AA) hr %[8,pf (CZ AA) hr %[11,9|az]|az])|az])),jR RR.tc.cl RR.tc.AM o0 (dA %[8,9,aM cM a0m aA|az])|aG] bE)),jR RR.tc.cl RR.tc.vY o0 (pf (yd AA) hr %[7|az]),aQ (pf (yd AA) hr %[6|az])|aG],?_,B,ww,a,dx,wT,e,Z,.inr #[ma,_,1,.int M.r,wP,gk,Z,?_],B,ww,a,dx,wT,e,Z,.inr #[ma,_,2,.int M.f,wP,gk,Z,_,wv]];let YE:(M.f*(2*left-1)).natAbs<=50*200:=by rw[ij];erw[pO (_S.hZ da.1 da.2 aw) aE]
  let acX:0<=M.f*(2*left-1):=fy (_S.dE da.1) (C0 (_S.mulL l1 aw));let YD:(2*M.f*(left-1)).natAbs<=100*100:=by rw[ij];erw[pO aE aE]
  let acW:0<=2*M.f*(left-1):=fy (fy aw (_S.dE da.1)) (C0 l1);let VL:Bd 2000 S.pc:=(ok.pd.bd (cu ok.pm aP)).sK aE;let RB:Bd 2000 R:=(Rd.bd (cu Rl aP)).sK aw;let tB:Bd 2000 top:=(td.bd (cu tl aP)).sK aw;let B1:Bd 2000 (S.pc+(M.r:Rat)):=Hu ok.pd ok.pm (_S.dE fY.1) (eG fY.2 aw) (cL (EZ D2 _) aw);let B2:Bd 2000 (R+((M.f*(2*left-1):Int):Rat)):=Hu Rd Rl acX (_S.qj YE aw) (aw);let B3:Bd 2000 (S.pc+((2*M.r:Int):Rat)):=Hu ok.pd ok.pm (fy aw (_S.dE fY.1)) (_S.AR fY.2 aw) (cL (EZ D2 _) aw);let B4:Bd 2000 (R+((2*M.f*(left-1):Int):Rat)):=Hu Rd Rl acW (_S.qj YD aw) (aw);erw[ww,a,dx,wT,e,WP,cZ,wT,r3,VL,_S.uA fY.1 fY.2 aw,λu1 H1 kK s1=>?_,B,wp,Wp,.of_left (cB aw aw),wr,wr,.of_left (cB (mT aw da.1) (eG da.2 aw)),Rv,wT,rR.go s1,RB,kh YE aw,λu2 H2 pW s2=>?_,B,bM Z,λlm H3 n3=>?_];let fu:=s1.ao (s2.ao n3.ss);erw[ww,a,dx,wT,fu _ _ e,Z,Wk,.of_left (cB aw aw),cZ,wT,r3.go fu,VL,aE,λu3 H4 ru3 s4=>?_];let gJ:=fu.ao s4;erw[ZB,wr,.of_left (cB aw aw),Wk,wr,.of_left (cB (_S.AS da.1 aw) (_S.AR da.2 aw)),Rv,wT,rR.go gJ,RB,kh YD aw,λu4 H5 ru4 s5=>?_,B,bM Z,λle H6 n6=>?_];let pV:=gJ.ao (s5.ao n6.ss);let kx:=s4.ao (s5.ao n6.ss);let e6:=pV _ _ e;let R6:=R0.ss ok.row.no pV;let U1:=kK.go (s2.ao (n3.ss.ao kx));let U2:=pW.go (n3.ss.ao kx);let U3:=ru3.go (s5.ao n6.ss);let U4:=ru4.go n6.ss;let T6:=rt.go pV;let dm:=kx _ _ n3.at';let de:=n6.at';let NM:a≠lm:=λz=>by have:=n3.no;rw[<-z,(s1.ao s2) _ _ e]at this;cases this
  let ale:a≠le:=λz=>by have:=n6.no;rw[<-z,(gJ.ao s5) _ _ e]at this;cases this
  let Xl:lm≠le:=λz=>by have:=n6.no;rw[<-z,(s4.ao s5) _ _ n3.at']at this;cases this
  let nlm:H lm=none:=by cases e':H lm with |none=>rfl |some o=>have:=(s1.ao s2) _ _ e';rw[n3.no]at this;cases this
  let qi:H le=none:=by cases e':H le with |none=>rfl |some o=>have:=(gJ.ao s5) _ _ e';rw[n6.no]at this;cases this
  erw[λO H7=>∃xM w8 w9 u6 vz um ue,O=[some (.ref a),some tv,some Rv,some (.int left),some (.int M.r),some (.int M.f),some (.ref lm),some (.ref le),w8,w9,u6,vz]/\eF [a,lm,le] H6 H7/\H7 a=some (.ins C dx (iD (.ref ma) bv (.int S.dn) (.ref q) cZ (.int S.tz) (.str S.side) (.str S.mark) xM))/\BD H7 xM (yh S.stp)/\H7 lm=some (.bi um)/\H7 le=some (.bi ue)/\(∀H8 Q',dG H7 H8->H8 lm=some (.bi um)->(∀v,bj H8 v (lM M.r M.f S.pc top R left S.stp)->Q' v H8)->Ad [.ref lm] H8 Q' E0)/\(∀H8 Q',dG H7 H8->H8 le=some (.bi ue)->(∀v,bj H8 v (p8 M.r M.f S.pc top R left S.stp)->Q' v H8)->Ad [.ref le] H8 Q' E0),zn]
  ·erw[ww,a,dx,ww,e6,Z,a,q,M,D,S,Z,R6,ok,aJ,wv]
   cases hs:S.stp with |none=>rw[hs]at r4;erw[aX #[sv,xz,xz,wT,eF.refl _ _,e6,r4,dm,de,λH8 Q' sV d8 kq=>Xw d8 (U1.v sV) (T6.v sV) (U2.v sV) B1 tB B2 kq,λH8 Q' sV d8 kq=>Xw d8 (U3.v sV) (T6.v sV) (U4.v sV) B3 tB B4 kq]] |some z=>
    let(sq,st,gn):=z;rw[hs]at r4;let sk:=ok.stp;rw[hs]at sk nh;let(g1,g2,g3):=AK sk ok.pd.nn nh;let(DQ,gn1,FP,Ja,J9,_,_):=sk;let(ta,su,rfl,hta,hsu):=r4;erw[bB ?_];let aaO:=hta.go pV;let LC:=hsu.go pV;let Qc:Bd 2000 sq:=(Ja.bd J9).sK (cL (EZ D2 _) aw);erw[ww,a,dx,wT,e6,Z,ta,ww,aaO,Z,xz,wE,B,Wp,wr,?_];let nL:sizeLine=16777216:=by decide
    erw[ww,.inl #[Z,_,aK.of dm],Wp,.of_left (cB aw aw),wr,Wk,.of_left (cB aw aw),wT,j4 (eY aw (eG DQ g1)),kr (n:=64) aE aw,λfv H7 rf s7=>?_];let fB:Bd 2000 (Rat.divInt (2*(st-gn-1)+1) (2*st)):=(ny (n:=12) (j4 (eY aw (eG DQ g1))) aE aE).sK aw;let fB2:Bd 2000 (Rat.divInt (st-gn-1) st):=(ny (n:=12) (j4 (eG DQ g1)) aE aE).sK aw;let pB:Bd 2000 (sq*Rat.divInt (2*(st-gn-1)+1) (2*st)):=((Ja.bd J9).mul (ny (n:=12) (j4 (eY aw (eG DQ g1))) aE aE)).sK aE;let pB2:Bd 2000 (sq*Rat.divInt (st-gn-1) st):=((Ja.bd J9).mul (ny (n:=12) (j4 (eG DQ g1)) aE aE)).sK aE;erw[su,fv,sq,ww,LC.go s7,rf,Qc,fB,λx1 H8 rx1 s8=>?_];let Aj:=s7.ao s8;let Zr:=Aj _ _ dm;erw[lm,wr,Zr,by show 3<sizeLine;lia,?_];let v8:dG H8 (_L.bn H8 lm (.bi ([u1,tv,u2]++[x1]))):=.bn Zr trivial;let ZF:(_L.bn H8 lm (.bi ([u1,tv,u2]++[x1]))) le=some (.bi [u3,tv,u4]):=by rw[aU Xl.symm];erw[Aj _ _ de]
    erw[ww,.inl #[Z,_,aK.of ZF],ZB,wT,aE,kr (n:=64) aE aw,λgv H9 rg s9=>?_,B,su,gv,sq,ww,((LC.go Aj).v v8).go s9,rg,Qc,fB2,λx2 jK rx2 mj=>?_];let Ai:=s9.ao mj;let ZG:=Ai _ _ ZF;erw[le,wr,ZG,by show 3<sizeLine;lia,?_];let v10:dG jK (_L.bn jK le (.bi ([u3,tv,u4]++[x2]))):=.bn ZG trivial;erw[ZB,wr,bM Z,λtn jJ lN=>?_];let a23:dG H6 jK:=(Aj.v.ao v8).ao Ai.v;let a22:dG H6 jJ:=(a23.ao v10).ao lN.ss.v;let e8:(_L.bn H8 lm (.bi ([u1,tv,u2]++[x1]))) a=some (.ins C dx (iD (.ref ma) bv (.int S.dn) (.ref q) cZ (.int S.tz) (.str S.side) (.str S.mark) (.ref ta))):=by rw[aU NM];erw[Aj _ _ e6]
    let Zi:jJ a=some (.ins C dx (iD (.ref ma) bv (.int S.dn) (.ref q) cZ (.int S.tz) (.str S.side) (.str S.mark) (.ref ta))):=lN.ss _ _ (by rw[aU ale];erw[Ai _ _ e8]);erw[ww,a,dx,ww,Zi,by show 9<1000;decide,?_];let u7:dG jJ (_L.bn jJ a (.ins C dx (iD (.ref ma) bv (.int S.dn) (.ref q) cZ (.int S.tz) (.str S.side) (.str S.mark) (.ref tn)))):=.bn Zi trivial;let xH:=a22.ao u7;let a21:=(((v8.ao Ai.v).ao v10).ao lN.ss.v).ao u7;let a25:=(v10.ao lN.ss.v).ao u7;erw[.ref tn,xz,xz,[u1,tv,u2,x1],[u3,tv,u4,x2],Z,λb o' eb hb=>?_,bQ,#[tn,su,Z,aW.v u7 (aW.of lN.at'),LC.v xH],zn,λH' Q' sV d' kq=>?_,λH' Q' sV d' kq=>?_]
    ·let ha:b≠a:=λz=>hb (by rw[z];simp)
     let hlm:b≠lm:=λz=>hb (by rw[z];simp);let hle:b≠le:=λz=>hb (by rw[z];simp);rw[aU ha];erw[lN.ss _ _ (by rw[aU hle];erw[Ai _ _ (by rw[aU hlm];erw[Aj _ _ eb])])]
    ·rw[aU NM.symm]
     erw[lN.ss _ _ (by rw[aU Xl];erw[Ai _ _ bQ])]
    ·rw[aU ale.symm]
     erw[lN.ss _ _ bQ]
    ·erw[Xv d' ((U1.v xH).v sV) ((T6.v xH).v sV) ((U2.v xH).v sV) ((rx1.v a21).v sV) B1 tB B2 pB kq]
    ·erw[Xv d' ((U3.v xH).v sV) ((T6.v xH).v sV) ((U4.v xH).v sV) ((rx2.v a25).v sV) B3 tB B4 pB2 kq]
  ·rintro O H7 ⟨xM,w8,w9,u6,vz,um,ue,rfl,bt,e7,om,dm7,de7,km,ke⟩
   erw[wv];dsimp only[A8];erw[ke H7 _ .refl de7 λpe rpe=>?_,B,ww,a,dx,ww,e7,by show 9<1000;decide,?_];let v8:dG H7 (_L.bn H7 a (.ins C dx (iD (.ref ma) bv (.int S.dn) (.ref q) pe (.int S.tz) (.str S.side) (.str S.mark) xM))):=.bn e7 trivial;erw[wv];dsimp only[A8];erw[km _ _ v8 (by rw[aU NM.symm];erw[dm7]) λv rv=>?_];let bH:eF [a] H (_L.bn H7 a (.ins C dx (iD (.ref ma) bv (.int S.dn) (.ref q) pe (.int S.tz) (.str S.side) (.str S.mark) xM))):=λb o' eb hb=>by
    let ha:b≠a:=λz=>hb (by rw[z];simp);rw[aU ha];erw[bt b o' (pV _ _ eb) λhm=>?_];simp only[dj,gy,jM]at hm;rcases hm with h|h|h
    ·erw[ha h]
    ·rw[h,nlm]at eb;cases eb
    ·rw[h,qi]at eb;cases eb
   let vH:dG H (_L.bn H7 a (.ins C dx (iD (.ref ma) bv (.int S.dn) (.ref q) pe (.int S.tz) (.str S.side) (.str S.mark) xM))):=bH.v λx hx o' eo=>by rw[gz]at hx;rw[hx,e]at eo;cases eo;trivial
   erw[k v _ rv #[#[dx,.ref ma,bv,pe,xM,bQ,RD.v vH _ (qq _ _ _ _ _) r1,RD.v vH _ (mq _) r2,rpe.v v8,om.v v8],ys,bH _ _ eq (by rw[gz];erw[aq.symm]),aH.v vH _ ok.row.no rq] bH]
end
end _c
set_option maxHeartbeats 2000000
namespace _c
universe _L _d _l _C _P _W _R
open _O (oR na dL iN ce iF sB dO OkI OkIs)
section
noncomputable def fJ(M:cC)(S:bT):Rat:=vO M.f M.j S.tz S.os
noncomputable def yC(M:cC)(S:bT)(ns:Ar)(sp:Int):Rat:=lM M.r M.f S.pc (oR S.tz sp) (fJ M S) ((aF ns:Int)-S.dn) S.stp
noncomputable def sC(M:cC)(S:bT)(ns:Ar)(sp:Int):aj:=fq M.t (fH ns S.dn) (yC M S ns sp)
noncomputable def gP(M:cC)(S:bT)(ns:Ar)(sp:Int):bT:={Kq M S (oR S.tz sp) (fJ M S) ((aF ns:Int)-S.dn)with dn:=S.dn+1}
def gZ(ns:Ar)(S:bT):bT:=if S.dn=aF ns then jW S else S
def dW(d:aj)(S:bT):bT:=match d with | .tuple [.str w,.str s]=>if w="tool" then{S with side:=s}else if w="mark" then{S with mark:=s}else S |_=>S
inductive One(M:cC):bT->aj->bT->Prop |line {S:bT}{ns:Ar}{sp:Int}:S.os[0]? =some (some (ns,sp))->¬Halt S.pc S.stp->One M S (sC M S ns sp) (gZ ns (gP M S ns sp)) |eU {S:bT}{d:aj}:S.os[0]? =some none->S.ds[0]? =some d->¬Halt S.pc S.stp->One M S d (jW (dW d S))
inductive Run(M:cC):bT->AC->bT->Prop |nil (S:bT):Run M S [] S |cons {S S1 S2:bT}{e:aj}{es:AC}:One M S e S1->Run M S1 es S2->Run M S (e::es) S2
def Run.ao{fs:AC}(h:Run M S es S1)(g:Run M S1 fs S2):Run M S (es++fs) S2:=by induction h with |nil=>erw[g] |cons o _ ih=>erw[.cons o (ih g)]
def Run.snoc{M:cC}{S S1 S2:bT}{es:AC}{e:aj}(h:Run M S es S1)(g:One M S1 e S2):Run M S (es++[e]) S2:=h.ao (.cons g (.nil _))
def FV{D:Nat}(h:nT M D S)(d:aj):nT M D (dW d S)/\(dW d S).os=S.os/\(dW d S).ds=S.ds/\(dW d S).dn=S.dn/\(dW d S).pl=S.pl:=by
 unfold dW;split
 ·split
  ·erw[#[h.row,h.rw,h.len,h.bN,h.bS,h.pl,h.pd,h.pm,h.stp,h.D1,h.D2],wP,wP]
  ·split
   ·erw[#[h.row,h.rw,h.len,h.bN,h.bS,h.pl,h.pd,h.pm,h.stp,h.D1,h.D2],wP,wP]
   ·erw[h,wP,wP]
 ·erw[h,wP,wP]
def G8{D:Nat}(h:nT M D S)(aJ:M.Ok)(hn:S.os≠[]):Dd 64 (fJ M S)/\fJ M S<=1600:=by
 let h1:1<=⇑S.os:=by cases e:S.os with|nil=>exact(hn e).elim|cons _ _=>simp
 erw[acU (by have:=aJ.f1;lia) (λi _=>a71 aJ.j1.1 aJ.j1.2 h.bN h.bS h.row.ow i) 1 h1,?_,B,cu (Md h1) (a6Z h.bN h.bS h.row.ow 1)]
def L5{D:Nat}(h:nT M D S)(aJ:M.Ok)(eo:S.os[0]? =some (some (ns,sp)))(hd:S.dn<aF ns)(nh:¬Halt S.pc S.stp):nT M D (gP M S ns sp):=by
 let hn:S.os≠[]:=λe=>by rw[e]at eo;simp at eo
 let(R1,R2):=G8 h aJ hn;let(bX,s1,s2):=h.row.ok 0 ns sp eo;let D1:=h.D1;let fY:=aJ.r1;let da:=aJ.f1;erw[h.row,h.rw,h.len,h.bN,h.bS,h.pl,zn,?_,h.D1,h.D2]
 ·erw[aeB (_S.dE fY.1) (_S.dE da.1) (_S.tf hd) h.pd ((IV _ _).sK (cL (vv _ _) (xy D1))) (R1.sK (xy D1)) h.stp nh]
 ·erw[cu Z2 (Fz s1 s2 h.bN h.bS)]
 ·erw[a3p h.stp h.pd.nn nh]
theorem One.ok{M:cC}{D:Nat}{S S1:bT}{e:aj}(h:cN M D S)(aJ:M.Ok)(o:One M S e S1):cN M D S1:=by cases o with
 |@line ns sp eo nh=>
  let hd:S.dn<aF ns:=by
   rcases h.dn with e|⟨gO,iC,e1,e2⟩
   ·rw[e];exact(h.row.ok 0 ns sp eo).1.lead.1
   ·rw[eo]at e1;cases e1;erw[e2]
  let raw:=L5 h.raw aJ eo hd nh;let hn:S.os≠[]:=λe=>by rw[e]at eo;simp at eo
  unfold gZ;split
  ·erw[raw.end hn]
  ·next eZ=>
   erw[raw.ok (.inr #[ns,sp,eo,?_])];have:(gP M S ns sp).dn=S.dn+1:=rfl
   lia |eU eo ed nh=>let(h1,h2,_):=FV h.raw e;erw[h1.end ?_];rw[h2];intro z;rw[z]at eo;simp at eo
theorem Run.ok{M:cC}{D:Nat}{S S1:bT}{es:AC}(h:cN M D S)(aJ:M.Ok)(r:Run M S es S1):cN M D S1:=by induction r with |nil=>erw[h] |cons o _ ih=>erw[ih (o.ok h aJ)]
theorem One.no{D:Nat}(h:cN M D S)(o:One M S e S1):eH e=true:=by cases o with |line _ _=>erw[Aa _ _ _] |eU eo ed _=>erw[cA.mp h.row.no _ (gA ed)]
theorem Run.no{D:Nat}{es:AC}(h:cN M D S)(aJ:M.Ok)(r:Run M S es S1):bR es=true:=by induction r with |nil=>rfl |cons o _ ih=>rw[bR,gU];erw[o.no h,ih (o.ok h aJ)]
def GJ{b:Bool}{A B A' B':Prop}(h1:A->A')(h2:B->B'):(if b=true then A else B)->(if b=true then A' else B'):=by
 cases b
 ·erw[h2]
 ·erw[h1]
def R9:bA ["self","most","line","lead","rows","top","reach","told","middle"] ["self","most"] (aY Tn):=bJ aP
inductive aho(C:Addr)(vs:AT)(H:Hp)(Q:VK):Prop |mk a q M D S ns sp most(_:vs=[.ref a,.int most])(_:dH C H a q M S)(_:cN M D S)(_:M.Ok)(_:S.os[0]? =some (some (ns,sp)))(_:¬Halt S.pc S.stp)(_:1<=most)(_:most<=1000)(_:∀l ys es S' q' H',H l=none->H' l=some (.bi ys)->aH K H' ys es->Run M S es S'->1<=⇑es->(es.length:Int)<=most->dH C H' a q' M S'->Mv a q H q' H'->l≠q'->Q (.ref l) H')
def Qj(C:Addr):Sp:=λvs H Q _=>aho C vs H Q
def a7B(AA:a0q)(RR:iL K mg C)(LD:a0n "step_entry" 3 FU):a0o C "steps_of_first" 10 (Qj C):=by
 exists RR.a9q.has,R9,eQ λ_ _=>rfl
 ·let(a,q,M,D,S,ns,sp,most,rfl,R0,ok,aJ,eo,nh,m1,m2,k):=h
  let(dx,mv,bv,cZ,tv,e,r1,r2,r3,r4):=R0.ob;let(ys,eq,rq):=R0.qu;let aq:=R0.ne;let nd:=R9.nd;let lr:=aJ.len;let fY:=aJ.r1;let da:=aJ.f1;let ll:=ok.row.len;let yZ:=ok.len;let yN:0<⇑S.os:=(ck.mp eo).1;let eZ:S.os≠[]:=λz=>by rw[z]at yN;erw[absurd yN aw]
  obtain⟨d,ed⟩:∃d,S.ds[0]? =some d:=#[_,bf (show 0<⇑S.ds from _S.fD yN ll)];let(y,ey,ry):=rq.get 0 ed;let iU:=kB (ok.row.it 0 d _ ed eo);subst iU;let(bX,cT,dM):=ok.row.ok 0 ns sp eo;let Kg:fU ⇑ns 1000 ns:=#[Z,λz hz=>by have:=bX.bd z hz;lia,bX.nz];let a9M:=bX.lead.1;let lO:=nG bX;let yn:⇑ns<=3:=by rw[bX.len];erw[_S.kM lr aw aw]
  let hd0:S.dn<aF ns:=by
   rcases ok.dn with e'|⟨gO,iC,e1,e2⟩
   ·erw[_S.ME a9M e']
   ·rw[eo]at e1;cases e1;erw[e2]
  let(Rd,Rl):=G8 ok.raw aJ eZ;erw[_,%[pS 2 nd (px K (dZ RR.tc.cl RR.tc.my o0) aA),pS 3 nd (pf (uu AA) hr %[2|az]),pS 4 nd (pf (Ki AA) hr %[2|az]),pS 5 nd (pf (AE AA) hr %[2,dZ RR.tc.cl RR.tc.Di o0|az]),pS 6 nd (pf (a7K AA) hr %[dZ RR.tc.cl RR.tc.vZ o0,dZ RR.tc.cl RR.tc.my o0,dZ RR.tc.cl RR.tc.Di o0|az]),pS 7 nd (cY az),(jQ (rS fc (PW.pt (nu (bL jS (dC K AA.B %[7|az]) u8 (bc _)) (nu (bL jS (dZ RR.tc.cl RR.tc.uB o0) L2 (bc _)) (pX (dN (cg (nv (Wa AA RR) RR.tc.cl (hr.sK aw) o0))))))) %[pS 8 nd (uk (a7D AA RR) RR.tc.cl (hr.sK aw) o0 %[5,6,aM ip L2 (dZ RR.tc.cl RR.tc.uB o0)|az]),(fe (ji K Z a0g %[pf LD hr %[dZ RR.tc.cl RR.tc.vZ o0,px K M2 (dZ RR.tc.cl RR.tc.uB o0),8|az]|az])),a6t RR.tc.cl RR.tc.uB o0 aA aap|aG])),jQ (bp (bL (cJ K Z hr.units) (dZ RR.tc.cl RR.tc.uB o0) L2 (bc _)) (aG (fe (nv (We AA RR) RR.tc.cl (hr.sK aw) o0))) bE),aQ a0g|aG],?_,B,ww,a,dx,wT,e,Z,.inl #[q,_,0,y,wP,aK.of eq,cn (dU 0) ey,?_],B,ww,y,ns,sp,Z,ry,bX.ne,cL yn aw,λH1 s1=>?_,B,ww,y,ns,sp,Z,RD.sK s1 _ ry,Kg,cL yn aw,λsA yr H2 nlr Zs Vc s2=>?_];let gK:=s1.ao s2;erw[wp,a,dx,wT,gK _ _ e,Z,y,ns,sp,S.tz,Z,RD.sK gK _ ry,cT,dM,ok.bN,ok.bS,λxJ H3 rtp s3=>?_];let fu:=gK.ao s3;let e3:=fu _ _ e;erw[ww,a,dx,wT,e3,WP,a,dx,wT,e3,WP,a,dx,wT,e3,Z,mv,.ref q,S.tz,M.rs,M.r,M.f,M.j,M.t,S.ds,S.os,Z,RD.sK fu _ r1,aJ,rP (aK.of (fu _ _ eq)) (aH.sK fu _ rq),ok.row,cL yZ aw,aE,ok.bN,ok.bS,λxY H4 rrc s4=>?_];let gJ:=fu.ao s4;erw[bM Z,λl H5 n5=>?_];let ky:=gJ.ao n5.ss;let Am:aI H2 H5:=s3.ao (s4.ao n5.ss);let nl:H l=none:=by cases e':H l with |none=>rfl |some o=>have:=gJ _ _ e';rw[n5.no]at this;cases this
  let WD:H sA=none:=by cases e':H sA with |none=>rfl |some o=>have:=s1 _ _ e';rw[nlr]at this;cases this
  let al:a≠l:=λz=>by rw[<-z,e]at nl;cases nl
  let ql:q≠l:=λz=>by rw[<-z,eq]at nl;cases nl
  let alr:a≠sA:=λz=>by rw[<-z,e]at WD;cases WD
  let llr:l≠sA:=λz=>by have:=n5.no;rw[z,(s3.ao s4) _ _ Zs]at this;cases this
  let P2:=⇑Vc;rw[vL]at P2;let td:=IV S.tz sp;let tl:=Fz cT dM ok.bN ok.bS;let tp:=Ce cT ok.bN;let a8x:gZ ns S=S:=by unfold gZ;rw[aV aE]
  let nL:sizeLine=16777216:=by decide
  erw[λO H6=>∃T es us w8,O=[some (.ref a),some (.int most),some y,some (.int (aF ns)),some (.ref sA),some xJ,some xY,some (.ref l),w8]/\eF [a,l] H5 H6/\dH C H6 a q M T/\nT M D T/\T.os=S.os/\T.ds=S.ds/\T.tz=S.tz/\T.dn<=aF ns/\1<=⇑es/\(es.length:Int)<=most/\H6 l=some (.bi us)/\aH K H6 us es/\bR es=true/\Run M S es (gZ ns T),zn]
  ·erw[lW ?_];intro E1
   erw[rC (λO H6=>∃T es us w8,O=[some (.ref a),some (.int most),some y,some (.int (aF ns)),some (.ref sA),some xJ,some xY,some (.ref l),w8]/\eF [a,l] H5 H6/\dH C H6 a q M T/\nT M D T/\T.os=S.os/\T.ds=S.ds/\T.tz=S.tz/\T.dn=S.dn+⇑es/\T.dn<=aF ns/\(⇑es:Int)<=most/\H6 l=some (.bi us)/\aH K H6 us es/\bR es=true/\Run M S es (gZ ns T)/\(es=[]->¬Halt T.pc T.stp)) (λ_ H6=>match H6 l with|some (.bi us)=>2000-⇑us|_=>0) ?_ ?_ ?_]
   ·erw[S,[],[],none,Z,eF.refl _ _,R0.ss ok.row.no ky,ok.raw,wP,wP,cw hd0,by simp;erw[_S.dE m1],n5.at',cQ,Z,by rw[a8x];erw[.nil _],λ_=>nh]
   ·rintro O H6 ⟨T,es,us,w8,rfl,bt,RT,raw,iy,kF,lR,sY,LR,uP,dl,rd,nI,run,hnh⟩
    let lu:=⇑rd;let(zq,mv6,bv6,a6U,tv6,e6,t1,t2,t3,t4):=RT.ob;let IP:dG H5 H6:=bt.v λx hx o' dv=>by
     simp only[dj,gy,jM]at hx;rcases hx with rfl|rfl
     ·rw[ky _ _ e]at dv;cases dv;trivial
     ·rw[n5.at']at dv;cases dv;trivial
    let nos:bR T.ds=true:=by rw[kF];erw[ok.row.no]
    let Bp:1<=⇑es->∃T' df mX Fq,[some (.ref a),some (.int most),some y,some (.int (aF ns)),some (.ref sA),some xJ,some xY,some (.ref l),w8]=[some (.ref a),some (.int most),some y,some (.int (aF ns)),some (.ref sA),some xJ,some xY,some (.ref l),Fq]/\eF [a,l] H5 H6/\dH C H6 a q M T'/\nT M D T'/\T'.os=S.os/\T'.ds=S.ds/\T'.tz=S.tz/\T'.dn<=aF ns/\1<=⇑df/\(df.length:Int)<=most/\H6 l=some (.bi mX)/\aH K H6 mX df/\bR df=true/\Run M S df (gZ ns T'):=λh1=>#[T,es,us,w8,Z,bt,RT,raw,iy,kF,lR,LR,h1,uP,dl,rd,nI,run];erw[ww,l,us,Z,.inl (aK.of dl),Wk,wv];show if decide ((⇑us:Int)<most)=true then _ else _;by_cases c1:(⇑us:Int)<most
    ·rw[cy c1]
     erw[bB ?_,B,ww,a,zq,wT,e6,WP,jp];show if decide ((T.dn:Int)<(aF ns:Int))=true then _ else _;by_cases c2:T.dn<aF ns
     ·rw[cy (_S.hJ c2)]
      erw[bB ?_];let Wr:cN M D T:=raw.ok (.inr #[ns,sp,by rw[iy];erw[eo],c2]);let a8w:gZ ns T=T:=by unfold gZ;rw[aV aE]
      erw[ww,a,zq,ww,e6,Z,a,q,M,D,T,Z,RT,Wr,aJ,wv];by_cases c3:Halt T.pc T.stp
      ·let hb:(T.stp.isSome&&decide (T.pc=0))=true:=by let(h1,h2):=c3;rw[cy h2,OU];cases hs:T.stp with |none=>exact(h1 hs).elim |some _=>rfl
       rw[hb];erw[aX ?_,B,Bp ?_];cases es with |nil=>exact(hnh Z c3).elim |cons _ _=>simp
      ·let hb:(T.stp.isSome&&decide (T.pc=0))=false:=by cases hs:T.stp with |none=>rfl |some _=>show decide (T.pc=0)=false;erw[dh λh2=>c3 #[by rw[hs];simp,h2]]
       rw[hb];erw[bB ?_];let rT:fJ M T=fJ M S:=by unfold fJ;rw[iy,lR]
       erw[ww,a,zq,ww,e6,Z,?_,B,ZB,ww,a,zq,wT,e6,Z,wr,?_];let a5p:bj H6 xJ (oR S.tz sp):=((rtp.go s4).go n5.ss).v IP;let a5w:bj H6 xY (fJ M S):=(rrc.go n5.ss).v IP;erw[a,q,M,D,T,xJ,xY,oR S.tz sp,fJ M S,ww,RT,Wr,aJ,a5p,td,tl,a5w,Rd,Rl,_S.tf c2,aE,c3,λmid H7 a5G R7 b7=>?_];let(wG,qk,Hz,Gf,Fx,e7',PK,t72,t73,t74):=R7.ob;let e7:H7 a=some (.ins C wG (iD qk Hz (.int T.dn) (.ref q) Gf (.int T.tz) (.str T.side) (.str T.mark) Fx)):=e7';let Fs:dG H6 H7:=b7.v λx hx o' dv=>by rw[gz]at hx;rw[hx,e6]at dv;cases dv;trivial
       let wJ:=b7 _ _ dl (by rw[gz];erw[al.symm]);let af0:=Am _ _ Zs;let aeZ:=bt _ _ af0 (by simp;erw[alr.symm,llr.symm]);let aeY:=b7 _ _ aeZ (by rw[gz];erw[alr.symm]);let a5K:aH K H7 yr (jy ns):=aH.v Fs _ (G1 ns) (aH.v IP _ (G1 ns) (aH.sK Am _ Vc));obtain⟨rv,YU⟩:∃rv,yr[T.dn]? =some rv:=#[_,bf (show T.dn<⇑yr from _S.fD c2 P2)];let(dr,Zf,rdr):=a5K.get' T.dn YU;rw[G2 c2]at Zf;cases Zf;let mB:Bd 2000 (lM M.r M.f T.pc (oR S.tz sp) (fJ M S) ((aF ns:Int)-T.dn) T.stp):=by let D1:=raw.D1;let D2:=raw.D2;exact((X6 (_S.dE fY.1) (_S.dE da.1) (_S.tf c2) raw.pd (td.sK (cL (vv _ _) (xy D1))) (Rd.sK (xy D1)) raw.stp c3).bd (cu X4 (cu tl aP))).sK aE
       let mP:0<lM M.r M.f T.pc (oR S.tz sp) (fJ M S) ((aF ns:Int)-T.dn) T.stp:=X5 fY.1 da.1 (_S.tf c2) raw.pd.nn tp Rd.nn raw.stp c3;erw[ww,.inl #[Z,_,aK.of wJ],?_,B,ww,a,wG,wT,e7,Z,?_,B,wp,a,wG,wT,e7,Z,.inl #[sA,_,wr,aK.of aeY,cn (show(0:Int)<=(T.dn:Int)from cf _) (by simpa using YU),?_],B,ww,qk,rv,mid,M.rs,M.r,M.f,M.j,M.t,fH ns T.dn,ww,PK,aJ,rdr,a5G,mB,mP,λent H8 a5S s8=>?_];let Ed:=s8 _ _ wJ;erw[l,us,ww,Z,Ed,aE,?_];let e8:(_L.bn H8 l (.bi (us++[ent]))) a=some (.ins C wG (iD qk Hz (.int T.dn) (.ref q) Gf (.int T.tz) (.str T.side) (.str T.mark) Fx)):=by rw[aU al];erw[s8 _ _ e7]
       erw[ww,a,wG,wT,e8,Z,wr,wG,_,e8,by show 9<1000;decide,?_];let vl:dG H8 (_L.bn H8 l (.bi (us++[ent]))):=.bn Ed trivial;let va:dG (_L.bn H8 l (.bi (us++[ent]))) (_L.bn (_L.bn H8 l (.bi (us++[ent]))) a (.ins C wG (iD qk Hz (.int ((T.dn:Int)+1)) (.ref q) Gf (.int T.tz) (.str T.side) (.str T.mark) Fx))):=.bn e8 trivial;let v7:=(s8.v.ao vl).ao va;let eS:gP M T ns sp={Kq M T (oR S.tz sp) (fJ M S) ((aF ns:Int)-T.dn)with dn:=T.dn+1}:=by unfold gP;rw[rT,lR]
       let eE:sC M T ns sp=fq M.t (fH ns T.dn) (lM M.r M.f T.pc (oR S.tz sp) (fJ M S) ((aF ns:Int)-T.dn) T.stp):=by unfold sC yC;rw[rT,lR]
       let aaZ:One M T (sC M T ns sp) (gZ ns (gP M T ns sp)):=.line (by rw[iy];erw[eo]) c3;let(yq,eq7,rq7):=R7.qu;let yk:bR (es++[sC M T ns sp])=true:=cA.mpr λd hd=>by
        rcases kj.mp hd with h|h
        ·erw[cA.mp nI d h]
        ·rw[gz]at h;rw[h];erw[Aa _ _ _]
       let q7l:q≠l:=ql;erw[#[gP M T ns sp,es++[sC M T ns sp],us++[ent],ww,λb o' eb hb=>?_,?_,L5 raw aJ (by rw[iy];erw[eo]) c2 c3,iy,kF,lR,zn,zn,zn,?_,λz=>by simp at z],?_]
       ·let ha:b≠a:=λz=>hb (by rw[z];simp)
        let jd:b≠l:=λz=>hb (by rw[z];simp);rw[aU ha,aU jd];erw[s8 _ _ (b7 _ _ (bt _ _ eb hb) (by rw[gz];erw[ha]))]
       ·rw[eS]
        erw[#[wG,qk,Hz,Gf,Fx,?_,RD.v v7 _ (qq _ _ _ _ _) PK,RD.v v7 _ (mq _) t72,t73.v v7,t74.v v7],yq,?_,aH.v v7 _ nos rq7]
        ·erw[bQ]
        ·rw[aU aq.symm,aU ql];erw[s8 _ _ eq7]
       ·show T.dn+1=_
        rw[cH];show _=_+(_+1);lia
       ·show T.dn+1<=_
        erw[c2]
       ·rw[cH];show((⇑es+1:Nat):Int)<=most;lia
       ·rw[aU al.symm,bQ]
       ·erw[aH.v va _ yk (aH.v vl _ yk ?_)]
        let r7:aH K H8 us es:=aH.sK s8 _ (aH.v Fs _ nI rd);erw[r7.append %[?_|cQ]];rw[eE];erw[a5S]
       ·erw[yk]
       ·rw[a8w]at run
        erw[run.snoc aaZ]
       ·show(match(_L.bn (_L.bn H8 l (.bi (us++[ent]))) a _) l with|some (.bi us)=>2000-⇑us|_=>0)<(match H6 l with|some (.bi us)=>2000-⇑us|_=>0)
        rw[aU al.symm,bQ,dl];show 2000-⇑(us++[ent])<2000-⇑us;rw[cH];show 2000-(⇑us+1)<_
        lia
     ·rw[dh (zY (_S.qi (kX c2)))]
      erw[aX ?_,B,Bp aE]
    ·rw[dh c1]
     erw[aX ?_,B,Bp aE]
   ·rintro O H6 Q1 Q2 hq ⟨v1,f1,l',mX,f2,f3,v2,f4,i1,i2,f5,f6,b1,f7,h⟩
    erw[v1,f1,l',mX,f2,f3,v2,f4,i1,i2,f5,f6,b1,f7,GJ ?_ (hq _ _) h];rintro⟨v3,f8,a',qN,mF,u',f9,Bn,Ms,v4,f12,i3,i4,f13,f14,b2,Mr,h⟩;erw[v3,f8,a',qN,mF,u',f9,Bn,Ms,v4,f12,i3,i4,f13,f14,b2,Mr,GJ ?_ (hq _ _) h];rintro⟨v5,Mq,a2,zt,M7,Mp,Mo,Mn,a3,q3,M3,D3,S3,Mm,Ml,Mj,Mi,b3,Mh,h⟩;erw[v5,Mq,a2,zt,M7,Mp,Mo,Mn,a3,q3,M3,D3,S3,Mm,Ml,Mj,Mi,b3,Mh,hq _ _ h]
  ·rintro O H6 ⟨T,es,us,w8,rfl,bt,RT,raw,iy,kF,lR,LR,h1,uP,dl,rd,nI,run⟩
   let(zq,mv6,bv6,a6U,tv6,e6,t1,t2,t3,t4):=RT.ob;let ab8:T.os≠[]:=by rw[iy];erw[eZ]
   let bH:∀{H7:Hp},eF [a] H6 H7->eF [a,q] H H7:=λ{H7} b7 b o' eb hb=>by
    let ha:b≠a:=λz=>hb (by rw[z];simp);erw[b7 _ _ (bt _ _ (ky _ _ eb) λhm=>?_) (by rw[gz];erw[ha])];simp only[dj,gy,jM]at hm;rcases hm with h|h
    ·erw[ha h]
    ·rw[h,nl]at eb;cases eb
   erw[λO H7=>∃q' Fq,O=[some (.ref a),some (.int most),some y,some (.int (aF ns)),some (.ref sA),some xJ,some xY,some (.ref l),Fq]/\dH C H7 a q' M (gZ ns T)/\Mv a q H q' H7/\l≠q'/\∃mX,H7 l=some (.bi mX)/\aH K H7 mX es,zn]
   ·erw[lW ?_];intro E2
    erw[ww,a,zq,wT,e6,WP,.inl #[_,_,Z,Z,_,Z,?_]];show if decide ((T.dn:Int)=(aF ns:Int))=true then _ else _;by_cases c:T.dn=aF ns
    ·rw[cy (C5 (_S.qi LR) (_S.qi (_S.zj c)))]
     erw[bB ?_,B,ww,a,zq,ww,e6,Z,a,q,M,D,T,Z,RT,raw,aJ,ab8,λq' H7 R7 nq b7=>?_];let Fs:dG H6 H7:=b7.v λx hx o' dv=>by rw[gz]at hx;rw[hx,e6]at dv;cases dv;trivial
     erw[q',ww,by unfold gZ;rw[aR c];erw[R7],#[bH b7,.inr ?_],λz=>?_,us,b7 _ _ dl (by rw[gz];erw[al.symm]),aH.v Fs _ nI rd]
     ·cases e':H q' with |none=>rfl |some o'=>
      let h5:=ky _ _ e';by_cases ha:q'=a
      ·rw[ha,e6]at nq;cases nq
      ·by_cases jd:q'=l
       ·rw[jd,nl]at e';cases e'
       ·have:=bt _ _ h5 (by simp;erw[ha,jd])
        rw[nq]at this;cases this
     ·rw[<-z,dl]at nq;cases nq
    ·rw[dh aE]
     erw[aX ?_,B,q,ww,by unfold gZ;rw[aV c];erw[RT],#[bH (eF.refl _ _),.inl Z],ql.symm,us,dl,rd]
   ·rintro O H7 ⟨q',Fq,rfl,R7,qk,lq,mX,wJ,rd7⟩
    erw[ww,k l mX es (gZ ns T) q' H7 nl wJ rd7 run h1 uP R7 qk lq]
end
section
theorem Mv.ao(m1:Mv a q H q1 H1)(m2:Mv a q1 H1 q2 H2)(ha:H1 a≠none):Mv a q H q2 H2:=by
 erw[λb o e hb=>?_,?_]
 ·erw[m2.but _ _ (m1.but _ _ e hb) λhm=>?_]
  simp only[dj,gy,jM]at hm hb;rcases hm with h|h
  ·erw[hb (.inl h)]
  ·rcases m1.nq with h1|h1
   ·erw[hb (.inr (h.ao h1))]
   ·rw[<-h]at h1;rw[h1]at e;cases e
 ·rcases m2.nq with h|h
  ·rw[h];erw[m1.nq]
  ·cases e:H q2 with |none=>erw[.inr rfl] |some o=>
   by_cases h1:q2=q
   ·erw[.inl h1]
   ·by_cases h2:q2=a
    ·rw[h2]at h;exact(ha h).elim
    ·have:=m1.but _ _ e (by simp;erw[h2,h1])
     rw[h]at this;cases this
inductive ahu(C:Addr)(vs:AT)(H:Hp)(Q:VK):Prop |mk a q M D S most(_:vs=[.ref a,.int most])(_:dH C H a q M S)(_:cN M D S)(_:M.Ok)(_:S.os≠[])(_:¬Halt S.pc S.stp)(_:1<=most)(_:most<=1000)(_:∀l ys es S' q' H',H l=none->H' l=some (.bi ys)->aH K H' ys es->Run M S es S'->1<=⇑es->(es.length:Int)<=most->dH C H' a q' M S'->Mv a q H q' H'->l≠q'->Q (.ref l) H')
def Qk(C:Addr):Sp:=λvs H Q _=>ahu C vs H Q
def Rm:bA ["self","most","item"] ["self","most"] (aY TF):=bJ aP
def a7I(AA:a0q)(RR:iL K mg C)(ace:a0o C "steps_of_first" 10 (Qj C)):a0o C "entries_of_first" 11 (Qk C):=by
 erw[RR.a9C.has Rm (λvs H Q E h=>?_) (λ_ _ _ _ _ _=>eQ λ_ _=>rfl) (λf aO A outer s H vs Q E hr h=>?_)]
 · let(a,q,M,D,S,most,rfl,_):=h
   rfl
 · let(a,q,M,D,S,most,rfl,R0,ok,aJ,eZ,nh,m1,m2,k):=h
   let(dx,mv,bv,cZ,tv,e,r1,r2,r3,r4):=R0.ob;let(ys,eq,rq):=R0.qu;let aq:=R0.ne;let nd:=Rm.nd;let ll:=ok.row.len;let yN:0<⇑S.os:=by cases h:S.os with|nil=>exact(eZ h).elim|cons _ _=>simp
   obtain⟨d,ed⟩:∃d,S.ds[0]? =some d:=#[_,bf (show 0<⇑S.ds from _S.fD yN ll)];let(y,ey,ry):=rq.get 0 ed;let(o,eo,it):=ok.row.get ed;erw[_,%[pS 2 nd (px K (dZ RR.tc.cl RR.tc.my o0) aA),bp (cg (pf (si AA) hr %[2|az])) (aG (aQ (uk ace RR.tc.cl (hr.sK aw) o0 %[1|az]))) bE,jQ (bp (bL (cJ K Z hr.units) (px K w4 aA) fA (bc _)) (aG (jR RR.tc.cl RR.tc.Kv o0 (px K w4 aA))) bE),jQ (bp (bL (cJ K Z hr.units) (px K w4 aA) fA (bc _)) (aG (jR RR.tc.cl RR.tc.WM o0 (px K w4 aA))) bE),fe (nv (We AA RR) RR.tc.cl (hr.sK aw) o0),aQ (cY %[2|az])|aG],?_,B,ww,a,dx,wT,e,Z,.inl #[q,_,0,y,wP,aK.of eq,cn (dU 0) ey,?_],B,ww,y,d,o,Z,ry,it,wv];cases o with |some z=>let(ns,sp):=z;erw[bB ?_,B,ww,a,dx,ww,e,WP,a,q,M,D,S,ns,sp,most,Z,R0,ok,aJ,eo,nh,m1,m2,k] |none=>
     erw[aX ?_];let eU:=ok.rw 0 d eo ed;let wd:∃z u ya yr,d= .tuple [.str z,u]/\y= .ref ya/\aW K H ya (.str z::[yr])/\RD K H yr u/\SeqAt.shaped (.str z)=true:=by
      rcases eU with⟨n,rfl,_⟩|⟨w',s',rfl,hw,_⟩
      · let(ya,xs,rfl,h1,h2):=ry.cD
        let(x1,rr,rfl,e1,h2):=h2.cons_inv;let(x2,rr,rfl,e2,h2):=h2.cons_inv;cases h2.nil_inv;cases e1.str_inv;erw[xz,ya,x2,wP,h1,e2,aP]
      · let(ya,xs,rfl,h1,h2):=ry.cD
        let(x1,rr,rfl,e1,h2):=h2.cons_inv;let(x2,rr,rfl,e2,h2):=h2.cons_inv;cases h2.nil_inv;cases e1.str_inv;erw[xz,ya,x2,wP,h1,e2,by rcases hw with rfl|rfl<;>decide+kernel]
     let(z,u,ya,yr,rfl,rfl,Dw,UX,sz):=wd;let tU:SeqAt.shaped (.str "tool")=true:=by decide+kernel
     let tM:SeqAt.shaped (.str "mark")=true:=by decide+kernel
     let eqT:∀(x y:Str),PyData.eqv (.str x) (.str y)=decide (x=y):=λx y=>by show(x==y)=decide (x=y);rw[tT];simp
     erw[λO H1=>O=[some (.ref a),some (.int most),some (.ref ya)]/\eF [a] H H1/\H1 a=some (.ins C dx (iD mv bv (.int S.dn) (.ref q) cZ (.int S.tz) (.str (if z="tool" then(dW (.tuple [.str z,u]) S).side else S.side)) (.str S.mark) tv)),zn]
     · erw[lW ?_];intro E1
       erw[ww,.inr #[ya,_,0,.str z,wP,Dw,cn (dU 0) Z,.inr #[xz,cF _,cF _,sz,tU,wv]]];rw[eqT];by_cases c:z="tool"
       · rw[cy c]
         erw[bB ?_];let hu:∃s',u= .str s':=by
          rcases eU with⟨n,h,_⟩|⟨w',s',h,hw,_⟩
          ·cases h;erw[absurd c aP]
          ·cases h;erw[_,rfl]
         let(s',rfl):=hu;cases UX.str_inv;erw[ww,.inr #[ya,_,1,.str s',wP,Dw,cn aw Z,ww,a,dx,ww,e,by show 9<1000;decide,?_],B,Z,HB (by simp),?_];rw[aR c];let es:(dW (.tuple [.str z,.str s']) S).side=s':=by unfold dW;simp only[aR c]
         rw[es];erw[bQ]
       · rw[dh c]
         erw[aX #[Z,eF.refl _ _,?_]];rw[aV c];erw[e]
     rintro O H1 ⟨rfl,b1,e1⟩;let v01:dG H H1:=b1.v λx hx o' dv=>by rw[gz]at hx;rw[hx,e]at dv;cases dv;trivial
     let XW:=aW.v v01 Dw;erw[λO H2=>O=[some (.ref a),some (.int most),some (.ref ya)]/\eF [a] H H2/\H2 a=some (.ins C dx (iD mv bv (.int S.dn) (.ref q) cZ (.int S.tz) (.str (dW (.tuple [.str z,u]) S).side) (.str (dW (.tuple [.str z,u]) S).mark) tv)),zn]
     · erw[lW ?_];intro E2
       erw[ww,.inr #[ya,_,0,.str z,wP,XW,cn (dU 0) Z,.inr #[xz,cF _,cF _,sz,tM,wv]]];rw[eqT];by_cases c:z="mark"
       · rw[cy c]
         erw[bB ?_];let nt:¬z="tool":=by rw[c];decide+kernel
         rw[aV nt]at e1;let hu:∃s',u= .str s':=by
          rcases eU with⟨n,h,_⟩|⟨w',s',h,hw,_⟩
          ·cases h;erw[absurd c aP]
          ·cases h;erw[_,rfl]
         let(s',rfl):=hu;cases UX.str_inv;erw[ww,.inr #[ya,_,1,.str s',wP,XW,cn aw Z,ww,a,dx,ww,e1,by show 9<1000;decide,?_],B,Z,b1.ao (HB (by simp)),?_];let es:(dW (.tuple [.str z,.str s']) S).side=S.side/\(dW (.tuple [.str z,.str s']) S).mark=s':=by constructor<;>(unfold dW;simp only[aV nt,aR c])
         rw[es.1,es.2];erw[bQ]
       · rw[dh c]
         erw[aX #[Z,b1,?_]];let em:(dW (.tuple [.str z,u]) S).mark=S.mark:=by
          unfold dW;split
          · next h => cases h;split
                      ·rfl
                      ·first|rfl|rw[aV c]
          ·rfl
         let es:(if z="tool" then(dW (.tuple [.str z,u]) S).side else S.side)=(dW (.tuple [.str z,u]) S).side:=by
          by_cases c2:z="tool"
          ·rw[aR c2]
          · rw[aV c2]
            unfold dW;split
            ·next h=>cases h;first|rfl|rw[aV c2,aV c]
            ·rfl
         rw[es]at e1;rw[em];erw[e1]
     rintro O H2 ⟨rfl,b2,e2⟩;let C9:dG H H2:=b2.v λx hx o' dv=>by rw[gz]at hx;rw[hx,e]at dv;cases dv;trivial
     let(Vq,Gi,Hq,dn',pY):=FV ok.raw (.tuple [.str z,u]);let fx:(dW (.tuple [.str z,u]) S).pc=S.pc/\(dW (.tuple [.str z,u]) S).tz=S.tz/\(dW (.tuple [.str z,u]) S).stp=S.stp:=by
      unfold dW;split
      · split
        ·erw[wP,Z]
        ·split<;>erw[wP,Z]
      ·erw[wP,Z]
     let R2:dH C H2 a q M (dW (.tuple [.str z,u]) S):=by
      erw[#[dx,mv,bv,cZ,tv,?_,RD.v C9 _ (qq _ _ _ _ _) r1,zn,?_],ys,b2 _ _ eq (by rw[gz];erw[aq.symm]),?_]
      ·rw[dn',fx.2.1];erw[e2]
      ·rw[pY];erw[RD.v C9 _ (mq _) r2]
      ·rw[fx.1];erw[r3.v C9]
      ·rw[fx.2.2];erw[r4.v C9]
      ·rw[Hq];erw[aH.v C9 _ ok.row.no rq]
     erw[ww,a,dx,ww,e2,Z,a,q,M,D,ww,R2,Vq,aJ,by rw[Gi];erw[eZ],λq' H3 R3 nq b3=>?_];let NF:=b2.ao b3;let v03:dG H H3:=NF.v λx hx o' dv=>by rw[gz]at hx;rw[hx,e]at dv;cases dv;trivial
     have nq0:H q'=none:=by cases e':H q' with |none=>rfl |some o'=>
        by_cases ha:q'=a
        ·rw[ha,e2]at nq;cases nq
        · have:=b2 _ _ e' (by rw[gz];erw[ha])
          rw[nq]at this;cases this
     refine⟨_,Z,bM Z,λl H4 n4=>?_⟩;have nl:H l=none:=by cases e':H l with |none=>rfl |some o'=>
        by_cases ha:l=a
        · let(dx3,_,_,_,_,e3,_):=R3.ob
          have:=n4.no;rw[ha,e3]at this;cases this
        · have:=NF _ _ e' (by rw[gz];erw[ha])
          rw[n4.no]at this;cases this
     let okS:cN M D (jW (dW (.tuple [.str z,u]) S)):=Vq.end (by rw[Gi];erw[eZ]);erw[k l [.ref ya] [.tuple [.str z,u]] _ q' H4 nl n4.at' %[RD.v (v03.ao n4.ss.v) _ (cA.mp ok.row.no _ (gA ed)) ry|cQ] (.cons (.eU eo ed nh) (.nil _)) (by simp) (by simpa using m1) (R3.ss okS.row.no n4.ss) #[λb o' eb hb=>n4.ss _ _ (NF _ _ eb (by rw[gz];intro h;erw[hb (by rw[h];simp)])),.inr nq0] ?_];intro h;have:=n4.no;let(yq,eq3,_):=R3.qu;rw[h,eq3]at this;cases this
inductive ahv(C:Addr)(vs:AT)(H:Hp)(Q:VK):Prop |mk a q M D S n(_:vs=[.ref a,.int n])(_:dH C H a q M S)(_:cN M D S)(_:M.Ok)(_:0<=n)(_:n<=1000)(_:∀l ys es S' q' H',H l=none->H' l=some (.bi ys)->aH K H' ys es->Run M S es S'->(⇑es:Int)<=n->((⇑es:Int)=n\/S'.os=[]\/Halt S'.pc S'.stp)->dH C H' a q' M S'->Mv a q H q' H'->l≠q'->Q (.ref l) H')
def Ql(C:Addr):Sp:=λvs H Q _=>ahv C vs H Q
def Rp:bA ["self","n","told"] ["self","n"] (aY TH):=bJ aP
def a7J(AA:a0q)(RR:iL K mg C)(acf:a0o C "entries_of_first" 11 (Qk C)):a0o C "entries" 12 (Ql C):=by
 exists RR.a9D.has,Rp,eQ λ_ _=>rfl
 ·let(a,q,M,D,S,n,rfl,R0,ok,aJ,n0,n1,k):=h
  let nd:=Rp.nd;erw[_,%[pS 2 nd (cY az),(jQ (rS fc (PW.pt (nu (bL jS (dC K AA.B %[2|az]) u8 (bc _)) (nu (K1 K Z (dZ RR.tc.cl RR.tc.my o0)) (pX (dN (cg (nv (Wa AA RR) RR.tc.cl (hr.sK aw) o0))))))) (aG (fe (y9 K Z w4 %[(uk acf RR.tc.cl (hr.sK aw) o0 %[aM ip u8 (dC K AA.B %[2|az])|az])|az]))))),aQ w4|aG],?_,B,bM Z,λl H1 nw=>?_];let(dx,mv,bv,cZ,tv,e,r1,r2,r3,r4):=R0.ob;let(ys,eq,rq):=R0.qu;let al:a≠l:=λz=>by have:=nw.no;rw[<-z,e]at this;cases this
  let ql:q≠l:=λz=>by have:=nw.no;rw[<-z,eq]at this;cases this
  let hq0:H q≠none:=by rw[eq];simp
  let ha0:H a≠none:=by rw[e];simp
  erw[λO H2=>∃es S' q' us,O=[some (.ref a),some (.int n),some (.ref l)]/\dH C H2 a q' M S'/\H2 l=some (.bi us)/\aH K H2 us es/\Run M S es S'/\(⇑es:Int)<=n/\((⇑es:Int)=n\/S'.os=[]\/Halt S'.pc S'.stp)/\Mv a q H q' H2/\l≠q',zn]
  ·erw[lW ?_];intro E3
   erw[rC (λO H2=>∃es S' q' us,O=[some (.ref a),some (.int n),some (.ref l)]/\dH C H2 a q' M S'/\H2 l=some (.bi us)/\aH K H2 us es/\Run M S es S'/\(⇑es:Int)<=n/\Mv a q H q' H2/\l≠q') (λ_ H2=>match H2 l with|some (.bi us)=>2000-⇑us|_=>0) ?_ ?_ ?_]
   ·erw[[],S,q,[],Z,R0.ss ok.row.no nw.ss,nw.at',cQ,.nil _,by simpa using n0,#[.of nw.ss,.inl rfl],ql.symm]
   ·rintro O H2 ⟨es,S',q',us,rfl,R2,dl,rd,run,uP,AQ,lq⟩
    let oy:=run.ok ok aJ;let nI:=run.no ok aJ;let lu:=⇑rd;let(zt,mv2,bv2,ajs,tv2,e2,t1,t2,t3,t4):=R2.ob;let(yq,eq2,rq2):=R2.qu;let KI:=⇑rq2;let Xm:=oy.row.len;erw[ww,l,us,Z,.inl (aK.of dl),Wk,wv];show if decide ((⇑us:Int)<n)=true then _ else _;by_cases c1:(⇑us:Int)<n
    ·rw[cy c1]
     erw[bB ?_,B,ww,a,zt,wT,e2,Z,_,.inl #[_,aK.of eq2,Z],?_];cases lP:S'.os with |nil=>have:yq=[]:=Iz.mp (by rw[KI,Xm,lP];rfl);subst this;erw[aX ?_,B,es,S',q',us,Z,R2,dl,rd,run,uP,.inr (.inl lP),AQ,lq] |cons o os=>
      let eZ:S'.os≠[]:=by rw[lP];simp
      have:∃y yr,yq=y::yr:=by cases yq with |nil=>rw[Xm,lP]at KI;simp at KI |cons y yr=>erw[y,yr,Z]
      let(y,yr,rfl):=this;erw[bB ?_,B,ww,a,zt,ww,e2,Z,a,q',M,D,S',Z,R2,oy,aJ,wv];by_cases c3:Halt S'.pc S'.stp
      ·let hb:(S'.stp.isSome&&decide (S'.pc=0))=true:=by let(h1,h2):=c3;rw[cy h2,OU];cases hs:S'.stp with |none=>exact(h1 hs).elim |some _=>rfl
       rw[hb];erw[aX #[es,S',q',us,Z,R2,dl,rd,run,uP,.inr (.inr c3),AQ,lq]]
      ·let hb:(S'.stp.isSome&&decide (S'.pc=0))=false:=by cases hs:S'.stp with |none=>rfl |some _=>show decide (S'.pc=0)=false;erw[dh λh2=>c3 #[by rw[hs];simp,h2]]
       rw[hb];erw[bB ?_,B,ww,.inl #[Z,_,aK.of dl],?_,B,ww,a,zt,ww,e2,Z,wp,l,us,Z,.inl (aK.of dl),wr,?_,B,a,q',M,D,S',ww,R2,oy,aJ,eZ,c3,fW (_S.lK (dU _)) (_S.lL (j0p c1)),aE,λl2 y2 fs S2 q2 H3 uy Ee rQ Cz f1 f2 R3 Gy mD=>?_];let v23:=R2.v Gy.but;let qS:=Gy.but _ _ dl (by simp;erw[al.symm,lq]);let Aq:=aH.v v23 _ nI rd;let Xb:=⇑rQ;let nL:sizeLine=16777216:=by decide
       erw[l,l2,us,y2,wP,qS,Ee,aE,?_];let vu:dG H3 (_L.bn H3 l (.bi (us++y2))):=.bn qS trivial;let ab5:=Cz.no oy aJ;let g9:=Cz.ok oy aJ;let Xe:l≠q2:=λz=>by
        rcases Gy.nq with h|h
        ·erw[lq (z.ao h)]
        ·rw[<-z,dl]at h;cases h
       erw[#[es++fs,S2,q2,us++y2,Z,R3.go g9.row.no vu (λo' dv=>by rw[aU al];erw[dv]) (λo' dv=>by rw[aU Xe.symm];erw[dv]),bQ,(aH.v vu _ nI Aq).append (aH.v vu _ ab5 rQ),run.ao Cz,by rw[cH];lia,?_,Xe],?_]
       ·let m:=AQ.ao Gy (by rw[e2];simp)
        erw[λb o' eb hb=>by
         let jd:b≠l:=λz=>by have:=nw.no;rw[<-z,eb]at this;cases this
         rw[aU jd];erw[m.but _ _ eb hb],m.nq]
       ·show(match(_L.bn H3 l (.bi (us++y2))) l with|some (.bi us)=>2000-⇑us|_=>0)<(match H2 l with|some (.bi us)=>2000-⇑us|_=>0)
        rw[bQ,dl];show 2000-⇑(us++y2)<2000-⇑us;rw[cH]
        lia
    ·rw[dh c1]
     erw[aX ?_,B,es,S',q',us,Z,R2,dl,rd,run,uP,.inl aE,AQ,lq]
   ·rintro O H6 Q1 Q2 hq ⟨v1,f1,l',mX,f2,f3,v2,f4,i1,i2,f5,f6,b1,f7,h⟩
    erw[v1,f1,l',mX,f2,f3,v2,f4,i1,i2,f5,f6,b1,f7,GJ ?_ (hq _ _) h];rintro⟨v3,f8,a',qN,mF,u',f9,Bn,Ms,b2,Mr,h⟩;erw[v3,f8,a',qN,mF,u',f9,Bn,Ms,b2,Mr,GJ ?_ (hq _ _) h];rintro⟨v5,Mq,a2,zt,M7,Mp,Mo,Mn,a3,q3,M3,D3,S3,Mm,Ml,Mj,Mi,b3,Mh,h⟩;erw[v5,Mq,a2,zt,M7,Mp,Mo,Mn,a3,q3,M3,D3,S3,Mm,Ml,Mj,Mi,b3,Mh,hq _ _ h]
  ·rintro O H2 ⟨es,S',q',us,rfl,R2,dl,rd,run,uP,yS,AQ,lq⟩
   erw[ww,k l us es S' q' H2 nw.no dl rd run uP yS R2 AQ lq]
end
section
def dH.K0{mv:V}(R:dH C H a q M S)(e:H a=some (.ins C dx (iD mv bv (.int S.dn) (.ref q) cZ (.int S.tz) (.str S.side) (.str S.mark) tv))){HA Gg vB:V}(hn:bR S.ds=true)(hd:S'.ds=S.ds) (r1:RD K H mv M.D)(r2:RD K H HA (jA S'.pl))(r3:bj H Gg S'.pc)(r4:BD H vB S'.stp):dH C (_L.bn H a (.ins C dx (iD mv HA (.int S'.dn) (.ref q) Gg (.int S'.tz) (.str S'.side) (.str S'.mark) vB))) a q M S':=by
 let v:dG H (_L.bn H a (.ins C dx (iD mv HA (.int S'.dn) (.ref q) Gg (.int S'.tz) (.str S'.side) (.str S'.mark) vB))):=.bn e trivial;let(ys,eq,rq):=R.qu;erw[#[dx,mv,HA,Gg,vB,bQ,RD.v v _ (qq _ _ _ _ _) r1,RD.v v _ (mq _) r2,r3.v v,r4.v v],ys,zn]
 ·rw[aU R.ne.symm];erw[eq]
 ·rw[hd];erw[aH.v v _ hn rq]
def a4P:bA ["self","rate"] ["self","rate"] (aY Tg):=bJ aP
inductive ahn(C:Addr)(vs:AT)(H:Hp)(Q:VK):Prop |mk a q M D S tz(_:vs=[.ref a,.int tz])(_:dH C H a q M S)(_:cN M D S)(_:M.Ok)(_:10<=tz)(_:tz<=200)(_:S.pc=0)(_:∀H',dH C H' a q M {S with tz:=tz}->eF [a] H H'->Q (.int tz) H')
def a3R(C:Addr):Sp:=λvs H Q _=>ahn C vs H Q
def a7z(AA:a0q)(RR:iL K mg C):a0o C "turn_rate" 4 (a3R C):=by
 exists RR.a9n.has,a4P,eQ λ_ _=>rfl
 ·let(a,q,M,D,S,tz,rfl,R,ok,aJ,h1,h2,hp,k):=h
  let(dx,mv,bv,cZ,tv,e,r1,r2,r3,r4):=R.ob;erw[_,%[bp (dN (cg (pf (Wi AA) hr %[1|az]))) (aG vS) bE,bp (dN (cg (nv (W9 AA RR) RR.tc.cl (hr.sK aw) o0))) (aG vS) bE,jR RR.tc.cl RR.tc.Di o0 u8,aQ u8|aG],?_,B,ww,_,.int tz,Z,eB _,wv];let er:JR (.int tz)=true:=by show(decide (10<=tz)&&decide (tz<=200))=true;rw[cy h1,cy h2];rfl
  rw[er];erw[aX ?_,B,ww,a,dx,ww,e,Z,a,q,M,D,S,Z,R,ok,aJ,wv];rw[cy hp];erw[aX ?_,B,wp,a,dx,ww,e,by show 9<1000;decide,?_,B,ww,k _ (R.K0 (S':={S with tz:=tz}) e ok.row.no rfl r1 r2 r3 r4) (HB (by simp))]
def a4Y:bA ["self"] ["self"] (aY TB):=bJ aP
inductive ahs(C:Addr)(vs:AT)(H:Hp)(Q:VK):Prop |mk a q M D S(_:vs=[.ref a])(_:dH C H a q M S)(_:cN M D S)(_:∀H',dH C H' a q M {S with stp:=none}->eF [a] H H'->Q (.int (⇑S.ds:Nat)) H')
def a3V(C:Addr):Sp:=λvs H Q _=>ahs C vs H Q
def Wb(AA:a0q)(RR:iL K mg C):a0o C "go" 1 (a3V C):=by
 exists RR.a9A.has,a4Y,fE λ_=>rfl
 ·let(a,q,M,D,S,rfl,R,ok,k):=h
  let(dx,mv,bv,cZ,tv,e,r1,r2,r3,r4):=R.ob;let(ys,eq,rq):=R.qu;erw[_,%[jR RR.tc.cl RR.tc.AM o0 gM,aQ (dC K AA.B %[dZ RR.tc.cl RR.tc.my o0|az])|aG],?_,B,ww,a,dx,ww,e,by show 9<1000;decide,?_];let zl:(_L.bn H a (.ins C dx (iD mv bv (.int S.dn) (.ref q) cZ (.int S.tz) (.str S.side) (.str S.mark) .bP))) q=some (.bi ys):=by rw[aU R.ne.symm];erw[eq]
  erw[ww,a,dx,wT,bQ,Z,q,ww,.inl (aK.of zl),?_];rw[⇑rq];erw[k _ (R.K0 (S':={S with stp:=none}) e ok.row.no rfl r1 r2 r3 rfl) (HB (by simp))]
def oj(f:Int)(pc:Rat):Int:=(pc.num+2*f*(pc.den:Int)-1)/(2*f*(pc.den:Int))
def PZ(hf:1<=f){pc:Rat}(h:0<=pc):(0<=oj f pc)/\(oj f pc=0->pc=0)/\pc<=((2*f*oj f pc:Int):Rat)/\(pc<=1600->oj f pc<=1000):=by
 let hn:=Og.mpr h;let hd:0<2*f*(pc.den:Int):=eY (eY aw (_S.jC hf)) (den_pos pc);let LU:2*(pc.den:Int)<=2*f*(pc.den:Int):=by
  have:2*1*(pc.den:Int)<=2*f*(pc.den:Int):=Fb (_S.KR hf aw) (cf _)
  lia
 unfold oj;generalize hD:2*f*(pc.den:Int)=dd at hd LU;let q1:=KK9 (pc.num+dd-1) dd;let q2:=tQ (pc.num+dd-1) (show dd≠0 from j4 hd);let q3:=xE (pc.num+dd-1) hd;let q0:0<=(pc.num+dd-1)/dd:=Rt aE (gT hd);generalize hQ:(pc.num+dd-1)/dd=Q at q0 q1;generalize(pc.num+dd-1)%dd=R at q1 q2 q3;let hle:pc.num<=dd*Q:=by lia
 erw[q0,λe=>?_,?_,λhm=>?_]
 ·rw[e,IG]at hle
  have:pc.num=0:=C5 hle hn;erw[Rat.num_eq_zero.mp this]
 ·erw[pM.mp λbu=>?_]
  rw[Ik,Oh,Oi]at bu;let e1:2*f*Q*(pc.den:Int)=dd*Q:=by rw[<-hD,Int.mul_right_comm]
  rw[e1]at bu
  lia
 ·let z9:¬((1600:Rat)<pc):=pM.mpr hm
  rw[Ik]at z9;let e1:(1600:Rat).num=1600:=rfl;let e2:(1600:Rat).den=1:=rfl;rw[e1,e2]at z9;let h3:pc.num<=1600*(pc.den:Int):=by lia
  erw[Int.not_lt.mp λbu=>?_];let h4:dd*1001<=dd*Q:=xD (fW aw (_S.lL bu)) (gT hd)
  lia
def R8:bA ["self","p","q","in_one"] ["self"] (aY Tj):=bJ aP
def a7A(RR:iL K mg C):a0o C "stops_in" 1 (rO C λM S H Q=>Q (.int (oj M.f S.pc)) H):=by
 exists RR.a9p.has,R8,fE λ_=>rfl
 ·let(a,q,M,D,S,rfl,R,ok,aJ,k):=h
  let(dx,mv,bv,cZ,tv,e,r1,r2,(pa,rfl,GP),r4):=R.ob;let nd:=R8.nd;let da:=aJ.f1;let(ma,mb,rfl,gk,mE):=nC r1;let bd:Bd 1600 S.pc:=(ok.pd.bd (cu ok.pm aP)).sK (by have:=ok.D2;lia);let hd:0<2*M.f*(S.pc.den:Int):=eY (eY aw (_S.jC da.1)) (den_pos S.pc);let wd:Wd (2*M.f*(S.pc.den:Int)):=by
   erw[kr (n:=1700) ?_ aw];rw[ij];let h1:(2*M.f).natAbs<2^7:=by lia
   have:=qm h1 bd.den;erw[dJ this (rA aw aw)]
  erw[_,%[fz (dZ RR.tc.cl RR.tc.vY o0) (cX K rfl (n:=2) rfl %[ba 1 nd,ba 2 nd|cW]),pS 3 nd (aM bO (aM bO aA (px K (dZ RR.tc.cl RR.tc.vZ o0) aA)) w4),aQ (aM rY (aM ip (aM cM u8 L2) aA) L2)|aG],?_,B,ww,a,dx,wT,e,Z,pa,ww,GP,wE,B,ww,a,dx,wT,e,Z,.inr #[ma,_,2,.int M.f,wP,gk,Z,wr,.of_left (cB aw aw),?_],B,Wk,.of_left (cB (_S.AS da.1 aw) (_S.AR da.2 aw)),?_,B,Wp,wr,Wk,#[hd,wd],?_,B,k]
def Rj:bA ["self","steps"] ["self"] (aY Tw):=bJ aP
def qz(M:cC)(S:bT):bT:=match S.stp with |none=>{S with stp:=some (S.pc,oj M.f S.pc,0)} |some _=>S
inductive ahr(C:Addr)(vs:AT)(H:Hp)(Q:VK):Prop |mk a q M D S(_:vs=[.ref a])(_:dH C H a q M S)(_:cN M D S)(_:M.Ok)(_:∀H',dH C H' a q M (qz M S)->eF [a] H H'->Q (.int (oj M.f S.pc)) H')
def a3U(C:Addr):Sp:=λvs H Q _=>ahr C vs H Q
def cN.hold{D:Nat}(h:cN M D S)(aJ:M.Ok)(hD:D<=1490):cN M (D+10) (qz M S):=by let D1:=h.D1;unfold qz;cases hs:S.stp with |some z=>show cN M (D+10) S;let st:=h.stp;erw[h.row,h.rw,h.len,h.bN,h.bS,h.dn,h.pl,h.pd.sK (jg _ _),h.pm,?_,xy D1,EZ hD _];rw[hs]at st⊢;let(sq,jx,gn):=z;let(a1,a2,a3,a4,a5):=st;erw[a1,a2,a3,a4.sK (jg _ _),a5] |none=>let(z1,z2,z3,z4):=PZ aJ.f1.1 h.pd.nn;erw[h.row,h.rw,h.len,h.bN,h.bS,h.dn,h.pl,h.pd.sK (jg _ _),h.pm,?_,xy D1,EZ hD _,B,dU _,z1,z4 h.pm,h.pd,cu h.pm aP,z2,?_];show S.pc*(oj M.f S.pc:Rat)<=S.pc*((oj M.f S.pc-0:Int):Rat);rw[Int.sub_zero];erw[fG]
def a7H(RR:iL K mg C):a0o C "hold" 2 (a3U C):=by
 exists RR.a9z.has,Rj,fE λ_=>rfl
 ·let(a,q,M,D,S,rfl,R,ok,aJ,k):=h
  let(dx,mv,bv,cZ,tv,e,r1,r2,r3,r4):=R.ob;let nd:=Rj.nd;erw[_,%[pS 1 nd (nv (a7A RR) RR.tc.cl (hr.sK aw) o0),jQ (bp (dN (cg (nv (Kj RR) RR.tc.cl (hr.sK aw) o0))) (aG (jR RR.tc.cl RR.tc.AM o0 (dA %[dZ RR.tc.cl RR.tc.vY o0,1,aA|az]))) bE),aQ u8|aG],?_,B,ww,a,dx,ww,e,Z,a,q,M,D,S,Z,R,ok,aJ,?_,B,λO H1=>O=[some (.ref a),some (.int (oj M.f S.pc))]/\dH C H1 a q M (qz M S)/\eF [a] H H1,zn]
  ·erw[lW ?_];intro E1
   erw[ww,a,dx,ww,e,Z,a,q,M,D,S,Z,R,ok,aJ,wv];cases hs:S.stp with |some z=>erw[aX #[Z,?_,eF.refl _ _]];unfold qz;rw[hs];erw[R] |none=>
    erw[bB ?_,B,ww,a,dx,wT,e,WP,bM Z,λt H1 n1=>?_];let e1:=n1.ss _ _ e;erw[ww,a,dx,ww,e1,by show 9<1000;decide,?_];let eh:qz M S={S with stp:=some (S.pc,oj M.f S.pc,0)}:=by unfold qz;rw[hs]
    erw[Z,?_,λb o' eb hb=>?_]
    ·rw[eh]
     exact(R.ss ok.row.no n1.ss).K0 (S':={S with stp:=some (S.pc,oj M.f S.pc,0)}) e1 ok.row.no rfl (RD.sK n1.ss _ r1) (RD.sK n1.ss _ r2) (r3.go n1.ss) #[t,cZ,Z,aW.of n1.at',r3.go n1.ss]
    ·let ha:b≠a:=λz=>hb (by rw[z];simp)
     rw[aU ha];erw[n1.ss _ _ eb]
  ·rintro O H1 ⟨rfl,R1,b1⟩
   erw[ww,k H1 R1 b1]
end
end _c
set_option maxHeartbeats 1000000
namespace _c
universe _L _d _l _W
section
def Te(d:aj)(n:Int):Prop:=(∃row q,d= .tuple [.str "step",row,.int n,q])\/d= .tuple [.str "wait",.int n]\/(n=0/\∃w s,d= .tuple [.str w,.str s]/\(w="tool"\/w="mark"))
inductive a3E|mk v d n(_:vs=[v])(_:RD K H v d)(_:Te d n)(_:Q (.int n) H)
def wS:PyData.eqv (.str "wait") (.str "step")=false:=by decide+kernel
def sS:PyData.eqv (.str "step") (.str "step")=true:=by decide+kernel
def wW:PyData.eqv (.str "wait") (.str "wait")=true:=by decide+kernel
def tS:PyData.eqv (.str "tool") (.str "step")=false:=by decide+kernel
def tW:PyData.eqv (.str "tool") (.str "wait")=false:=by decide+kernel
def mS:PyData.eqv (.str "mark") (.str "step")=false:=by decide+kernel
def mW:PyData.eqv (.str "mark") (.str "wait")=false:=by decide+kernel
def ud{z:Str}(h:z="step"\/z="wait"\/z="tool"\/z="mark"):SeqAt.shaped (.str z)=true:=by rcases h with rfl|rfl|rfl|rfl<;>decide+kernel
def QQ:bA ["entry"] ["entry"] (aY SW):=bJ aP
def a7t(AA:a0q):a0n "time_of_entry" 1 a3E:=by
 exists AA.ad5.has,QQ,fE λ_=>rfl
 ·let(v,d,n,rfl,rd,te,k):=h
  let nd:=QQ.nd;erw[_,%[bp (bL (cJ K Z hr.units) (px K o0 aA) fA (bc _)) (aG (aQ (px K o0 aA))) bE,aQ (y8 (bL (cJ K Z hr.units) (px K o0 aA) fA (bc _)) (px K o0 aA) aA)|aG],?_];rcases te with⟨row,q,rfl⟩|rfl|⟨rfl,w',s',rfl,hw⟩
  ·let(a,xs,rfl,h1,h2):=rd.cD
   let(x1,r1,rfl,e1,h2):=h2.cons_inv;let(x2,r2,rfl,e2,h2):=h2.cons_inv;let(x3,r3,rfl,e3,h2):=h2.cons_inv;cases e1.str_inv;cases e3.int_inv;erw[ww,.inr #[a,_,0,.str "step",wP,h1,cn (dU 0) Z,.inr #[xz,cF _,cF _,ud (.inl Z),ud (.inl Z),wv]]];rw[sS];erw[bB #[ww,.inr #[a,_,2,.int n,wP,h1,cn aw Z,k]]]
  ·let(a,xs,rfl,h1,h2):=rd.cD
   let(x1,r1,rfl,e1,h2):=h2.cons_inv;let(x2,r2,rfl,e2,h2):=h2.cons_inv;cases e1.str_inv;cases e2.int_inv;erw[ww,.inr #[a,_,0,.str "wait",wP,h1,cn (dU 0) Z,.inr #[xz,cF _,cF _,ud (.inr (.inl Z)),ud (.inl Z),wv]]];rw[wS];erw[aX ?_,B,ww,.inr #[a,_,0,.str "wait",wP,h1,cn (dU 0) Z,.inr #[xz,cF _,cF _,ud (.inr (.inl Z)),ud (.inr (.inl Z)),wv]]];rw[wW];erw[bB #[ww,.inr #[a,_,1,.int n,wP,h1,cn aw Z,k]]]
  ·let(a,xs,rfl,h1,h2):=rd.cD
   let(x1,r1,rfl,e1,h2):=h2.cons_inv;cases e1.str_inv;let sh:SeqAt.shaped (.str w')=true:=ud (.inr (.inr hw));let n1:PyData.eqv (.str w') (.str "step")=false:=by rcases hw with rfl|rfl<;>decide+kernel
   let n2:PyData.eqv (.str w') (.str "wait")=false:=by rcases hw with rfl|rfl<;>decide+kernel
   erw[ww,.inr #[a,_,0,.str w',wP,h1,cn (dU 0) Z,.inr #[xz,cF _,cF _,sh,ud (.inl Z),wv]]];rw[n1];erw[aX ?_,B,ww,.inr #[a,_,0,.str w',wP,h1,cn (dU 0) Z,.inr #[xz,cF _,cF _,sh,ud (.inr (.inl Z)),wv]]];rw[n2];erw[aX k]
inductive a3C|mk (l:Addr)(ys:AT)(ds:AC)(ns:Ar)(_:vs=[.ref l])(_:aK K H l ys)(_:aH K H ys ds)(_:⇑ds=ns.length)(_:⇑ds<=100000)(_:(∀(i:Nat)(d:aj)(n:Int),ds[i]? =some d->ns[i]? =some n->Te d n))(_:∀H',aI H H'->Q (.int ns.sum) H')
def QL:bA ["tape"] ["tape"] (aY SQ):=bJ aP
def W6(AA:a0q):a0n "time_of" 2 a3C:=by
 exists AA.ad6.has,QL,fE λ_=>rfl
 ·let(l,ys,ds,ns,rfl,dl,rl,hl,hz,te,k):=h
  let nd:=QL.nd;erw[_,(aG (aQ (eR (x:="sum") (sumK K Z Z) Z (AA.B.at "sum") PyProof.Rows.boot_sum %[gX (N:=["entry"]) (js:=[none]) rfl rfl rfl (qe K rfl o0) (λ_ _ _ _ _=>(ba 0 (uz _))) (λ_ _ _ _ _=>fZ) (λ_ _ _ _ _=>(pf (a7t AA) hr %[0|az]))|az]))),?_];let ly:=⇑rl;erw[ww,l,Z,#[_,dl],λD H1 n1=>?_,B,afi (K:=K) (ds:=ns.map PyData.int) _ (dl) n1 (by rw[bC];omega) bI (nA _) ?_ ?_]
  ·intro i x dd H2 Q' ex ed s2 hq
   rw[bV]at ed;let(n,en,rfl):=zR.mp ed;let(d,e1,r1):=rl.get' i ex;erw[ww,x,d,n,Z,RD.sK s2 _ r1,te i d n e1 en,hq _ _ (aI.refl _) (eB _)]
  ·intro H2 zs s2 d2 r2
   rw[r2.jm]at d2;erw[D,ns,Z,aK.of d2,k H2 s2]
end
end _c
namespace _c
universe _L _d _l _W _P
open _O (oR)
section
def Lm:aj->Bool | .tuple (.str w::_)=>PyData.eqv (.str w) (.str "step") |_=>false
def XJ:aj->Bool | .tuple (.str w::_)=>PyData.eqv (.str w) (.str "wait") |_=>false
def tN:aj->Int | .tuple [_,_,.int n,_]=>n |_=>0
def wN:aj->Int | .tuple [_,.int n]=>n |_=>0
def tm(d:aj):Int:=if Lm d then tN d else if XJ d then wN d else 0
def aam(ti:Int)(zs:Ar)(q:Rat):Lm (fq ti zs q)=true:=sS
def IW(ti:Int)(zs:Ar)(q:Rat):tm (fq ti zs q)=ku ti q:=by unfold tm;rw[aR (aam ti zs q)];rfl
def a2C(ti:Int)(zs:Ar)(q:Rat):Te (fq ti zs q) (tm (fq ti zs q)):=by rw[IW];erw[.inl #[_,_,Z]]
def aan(h:iM d):Lm d=false:=by
 rcases h with⟨n,rfl,_⟩|⟨w,s,rfl,rfl|rfl,_⟩
 ·erw[wS]
 ·erw[tS]
 ·erw[mS]
def a2D(h:iM d):Te d (tm d):=by
 let h0:=aan h;rcases h with⟨n,rfl,_⟩|⟨w,s,rfl,hw,_⟩
 ·erw[.inr (.inl ?_)]
  have:tm (.tuple [.str "wait",.int n])=n:=by unfold tm;rw[aV (by rw[h0];decide),aR (show XJ (.tuple [.str "wait",.int n])=true from wW)];rfl
  rw[this]
 ·erw[.inr (.inr #[?_,w,s,Z,hw])]
  unfold tm;rw[aV (by rw[h0];decide),aV];rcases hw with rfl|rfl
  ·show¬PyData.eqv (.str "tool") (.str "wait")=true;rw[tW];decide
  ·show¬PyData.eqv (.str "mark") (.str "wait")=true;rw[mW];decide
end
end _c
set_option maxHeartbeats 2000000
namespace _c
universe _L _d _l _C _P _W _R
open _O (oR na dL iN ce iF sB dO OkI OkIs)
section
structure W4(C:Addr)(M:cC)(ds:AC)(p x Wl Fl:Addr)(H0:Hp)(H:Hp)(q:Addr)(S:bT)(m:Nat)(es:AC):Prop where
 b0:gI H0 p
 bw:bF p H0 H
 run:dH C H x q M S
 wl:∃ws,H Wl=some (.bi ws)/\aH K H ws (ds.drop m)
 fl:∃us,H Fl=some (.bi us)/\aH K H us es
 nx:H0 x=none
 nq:H0 q=none
 nw:H0 Wl=none
 nf:H0 Fl=none
 qw:q≠Wl
 qf:q≠Fl
 wf:Wl≠Fl
section
variable {M:cC}{ds:AC}{p x Wl Fl:Addr}{H0 H H':Hp}{q q':Addr}{S S':bT}{m:Nat}{es fs:AC}
def W4.xp(h:W4 C M ds p x Wl Fl H0 H q S m es):x≠p/\q≠p/\Wl≠p/\Fl≠p:=by let hp:=h.b0.ne;erw[λe=>hp (e▸h.nx),λe=>hp (e▸h.nq),λe=>hp (e▸h.nw),λe=>hp (e▸h.nf)]
def W4.xl(h:W4 C M ds p x Wl Fl H0 H q S m es):x≠Wl/\x≠Fl/\x≠q:=by let(dx,_,_,_,_,e,_):=h.run.ob;let(ws,ew,_):=h.wl;let(us,eu,_):=h.fl;erw[De e ew (by intro z;cases z),De e eu (by intro z;cases z),h.run.ne]
def W4.bg(h:W4 C M ds p x Wl Fl H0 H q S m es):gI H p:=h.bw.bw
def ag6(bg:gI H p)(b:bF p H H'):dG H H':=(bF.t bg b).v
def W4.draw(h:W4 C M ds p x Wl Fl H0 H q S m es)(b:bF p H H')(nS:bR S.ds=true)(nD:bR ds=true)(nE:bR es=true):W4 C M ds p x Wl Fl H0 H' q S m es:=by let(h1,h2,h3,h4):=h.xp;let v:=ag6 h.bg b;let(ws,ew,cV):=h.wl;let(us,eu,ru):=h.fl;erw[h.b0,h.bw.ao b,h.run.go nS v (λo e=>b.ss _ _ h1 e) (λo e=>b.ss _ _ h2 e),#[ws,b.ss _ _ h3 ew,aH.v v _ ?_ cV],#[us,b.ss _ _ h4 eu,aH.v v _ nE ru],h.nx,h.nq,h.nw,h.nf,h.qw,h.qf,h.wf,B,cA.mpr λd hd=>cA.mp nD d (OF hd)]
def W4.ss(h:W4 C M ds p x Wl Fl H0 H q S m es)(s:aI H H')(nS:bR S.ds=true)(nD:bR ds=true)(nE:bR es=true):W4 C M ds p x Wl Fl H0 H' q S m es:=h.draw (.fK h.bg s) nS nD nE
theorem W4.mv(h:W4 C M ds p x Wl Fl H0 H q S m es)(mv:Mv x q H q' H')(R:dH C H' x q' M S')(nD:bR ds=true)(nE:bR es=true):W4 C M ds p x Wl Fl H0 H' q' S' m es:=by
 let(h1,h2,h3,h4):=h.xp;let(g1,g2,g3):=h.xl;let v:=h.run.v mv.but;let(ws,ew,cV):=h.wl;let(us,eu,ru):=h.fl;let(c,mm,eb,CU):=h.bg;let bt:bF p H H'->bF p H0 H':=λb=>h.bw.ao b;let pb:H' p=some (.bi [.int c,.int mm]):=mv.but _ _ eb (by simp;erw[h1.symm,h2.symm]);let zi:=mv.but _ _ ew (by simp;erw[g1.symm,h.qw.symm]);let Hk:=mv.but _ _ eu (by simp;erw[g2.symm,h.qf.symm]);erw[h.b0,#[#[c,mm,pb,CU],λb o n e=>?_],R,#[ws,zi,aH.v v _ ?_ cV],#[us,Hk,aH.v v _ nE ru],h.nx,?_,h.nw,h.nf,zn,h.wf]
 ·erw[mv.but _ _ (h.bw.ss _ _ n e) λhm=>?_]
  simp only[dj,gy,jM]at hm;rcases hm with z|z
  ·rw[z,h.nx]at e;cases e
  ·rw[z,h.nq]at e;cases e
 ·erw[cA.mpr λd hd=>cA.mp nD d (OF hd)]
 ·rcases mv.nq with z|z
  ·rw[z];erw[h.nq]
  ·cases e:H0 q' with |none=>rfl |some o=>
   by_cases hp:q'=p
   ·rw[hp,eb]at z;cases z
   ·have:=h.bw.ss _ _ hp e
    rw[z]at this;cases this
 ·intro z
  rcases mv.nq with y|y
  ·erw[h.qw (y.symm.ao z)]
  ·rw[z,ew]at y;cases y
 ·intro z
  rcases mv.nq with y|y
  ·erw[h.qf (y.symm.ao z)]
  ·rw[z,eu]at y;cases y
def W4.ext(h:W4 C M ds p x Wl Fl H0 H q S m es)(nS:bR S.ds=true)(nD:bR ds=true)(nE:bR es=true)(nF:bR fs=true){us ys:AT}(eu:H Fl=some (.bi us))(ry:aH K H ys fs):W4 C M ds p x Wl Fl H0 (_L.bn H Fl (.bi (us++ys))) q S m (es++fs):=by let(h1,h2,h3,h4):=h.xp;let(g1,g2,g3):=h.xl;let(ws,ew,cV):=h.wl;let(mX,Hk,ru):=h.fl;rw[eu]at Hk;cases Hk;let v:dG H (_L.bn H Fl (.bi (us++ys))):=.bn eu trivial;let(c,mm,eb,CU):=h.bg;erw[h.b0,#[#[c,mm,by rw[aU h4.symm];erw[eb],CU],λb o n e=>by rw[aU (e9 e h.nf)];erw[h.bw.ss _ _ n e]],h.run.go nS v (λo e=>by rw[aU g2];erw[e]) (λo e=>by rw[aU h.qf];erw[e]),#[ws,by rw[aU h.wf];erw[ew],aH.v v _ ?_ cV],#[_,bQ,(aH.v v _ nE ru).append (aH.v v _ nF ry)],h.nx,h.nq,h.nw,h.nf,h.qw,h.qf,h.wf,B,cA.mpr λd hd=>cA.mp nD d (OF hd)]
def W4.pop(h:W4 C M ds p x Wl Fl H0 H q S m es)(nS:bR S.ds=true)(nD:bR ds=true)(nE:bR es=true){y:V}{ys:AT}(ew:H Wl=some (.bi (y::ys))):W4 C M ds p x Wl Fl H0 (_L.bn H Wl (.bi ys)) q S (m+1) es/\∃d,ds[m]? =some d/\RD K H y d:=by
 let(h1,h2,h3,h4):=h.xp;let(g1,g2,g3):=h.xl;let(ws,zi,cV):=h.wl;let(us,eu,ru):=h.fl;rw[ew]at zi;cases zi;let hm:m<⇑ds:=by
  rcases BP m ⇑ds with c|c
  ·erw[c]
  ·rw[Op c]at cV
   cases cV.nil_inv
 rw[Tk hm]at cV;let(y',IJ,ee,ry,rr):=cV.cons_inv;cases ee;let v:dG H (_L.bn H Wl (.bi ys)):=.bn ew trivial;let(c,mm,eb,CU):=h.bg;erw[#[h.b0,#[#[c,mm,by rw[aU h3.symm];erw[eb],CU],λb o n e=>by rw[aU (e9 e h.nw)];erw[h.bw.ss _ _ n e]],h.run.go nS v (λo e=>by rw[aU g1];erw[e]) (λo e=>by rw[aU h.qw];erw[e]),#[_,bQ,aH.v v _ ?_ rr],#[us,by rw[aU h.wf.symm];erw[eu],aH.v v _ nE ru],h.nx,h.nq,h.nw,h.nf,h.qw,h.qf,h.wf],_,bf hm,ry,B,cA.mpr λd hd=>cA.mp nD d (OF hd)]
end
def Cu:aj->aj | .tuple [.str w,row,t,s]=>if PyData.eqv (.str w) (.str "step")then row else .tuple [.str w,row,t,s] |d=>d
def a4G(a b c:aj):Cu (.tuple [.str "step",a,b,c])=a:=by show(if PyData.eqv (.str "step") (.str "step")=true then a else PyData.tuple [.str "step",a,b,c])=a;rw[aR aP]
def nO(ds:AC)(os:BT)(i:Nat):AC:=match os[i]? with |some (some (ns,_))=>jy ns |_=>[ds.getD i .none]
def Ec(ds:AC)(os:BT):Nat->List aj |0=>[] |i+1=>Ec ds os i++nO ds os i
def uY(ds:AC)(os:BT)(i k:Nat):AC:=Ec ds os i++(nO ds os i).take k
structure Inv2(pl:Ar)(ds:AC)(os:BT)(m i k:Nat)(T:bT):Prop where
 kF:T.ds=(ds.take m).drop i
 iy:T.os=(os.take m).drop i
 sY:T.dn=k
 kl:k=0\/∃ns sp,i<m/\os[i]? =some (some (ns,sp))/\k<aF ns
 DY:T.pl=(os.take i).foldl jE pl
 im:i<=m
 ml:m<=⇑os
 j1:T.os=[]->T.pc=0
 j2:T.os[0]? =some none->T.pc=0
def Z3{r:Int}{top:Rat}{stp:_R.iz}:p8 r f pc top R left stp<=R+((2*f*(left-1):Int):Rat):=by cases stp with |none=>erw[gj _ _] |some q=>let(sq,st,gn):=q;erw[cu (eO _ _) (gj _ _)]
def Zo{α:Type}{l:List α}{i:Nat}{x:α}(h:l[i]? =some x):l.drop i=x::l.drop (i+1):=by let hl:i<⇑l:=(ck.mp h).1;rw[Tk hl];rw[bf hl]at h;cases h;rfl
def Z1{D:Nat}(h:cN M D T)(aJ:M.Ok)(eo:T.os[0]? =some (some (ns,sp)))(nh:¬Halt T.pc T.stp)(hd:T.dn+1=aF ns)(hn:T.os[1]? =none\/T.os[1]? =some none):(gP M T ns sp).pc=0:=by
 let fY:=aJ.r1;let da:=aJ.f1;let D1:=h.D1;let eZ:T.os≠[]:=λe=>by rw[e]at eo;simp at eo
 let hl:1<=⇑T.os:=by have:=(ck.mp eo).1;lia
 let nn:=(L5 h.raw aJ eo (jf (gR _) hd) nh).pd.nn;erw[zP ?_ nn,B,cu Z3 ?_];let e1:2*M.f*((aF ns:Int)-(T.dn:Int)-1)=0:=by rw[show(aF ns:Int)-(T.dn:Int)-1=0 by lia,IG]
 rw[e1];let e0:fJ M T+((0:Int):Rat)=fJ M T:=tL _;rw[e0];erw[cu (Md hl) ?_];show iN M.j T.tz (ce T.os 0) (ce T.os 1)<=0;let ea:ce T.os 1=none:=by unfold ce;rcases hn with e|e<;>rw[e]<;>rfl
 rw[ea,_O.vd];erw[fG]
def a7i{D:Nat}{pl:Ar}{ds:AC}{os:BT}(aJ:M.Ok)(row:cj ⇑M.rs ds os)(cV:RowW ds os){m i k:Nat}{T T1:bT}{e:aj}(ok:cN M D T)(h:Inv2 pl ds os m i k T)(o:One M T e T1): ∃i' k',Inv2 pl ds os m i' k' T1/\uY ds os i' k'=uY ds os i k++[Cu e]:=by
 let ll:=row.len;let hn:T.os≠[]:=by intro z;cases o with |line e1 _=>rw[z]at e1;simp at e1 |eU e1 _ _=>rw[z]at e1;simp at e1
 let pD:=h.ml;let lt:⇑(os.take m)=m:=by rw[kH];lia
 let Xd:⇑(ds.take m)=m:=by rw[kH];lia
 let im:i<m:=by
  rcases BP i m with c|c
  ·erw[c]
  ·exact(hn (by rw[h.iy,Op (_S.nM c lt)])).elim
 obtain⟨x,ex⟩:∃x,os[i]? =some x:=#[_,bf (show i<⇑os from dJ im pD)];obtain⟨d,ed⟩:∃d,ds[i]? =some d:=#[_,bf (show i<⇑ds from dJ im (_S.B5 pD ll))];let ext:(os.take m)[i]? =some x:=by rw[F2,aR im];erw[ex]
 let edt:(ds.take m)[i]? =some d:=by rw[F2,aR im];erw[ed]
 let iy:T.os=x::(os.take m).drop (i+1):=by rw[h.iy];erw[Zo ext]
 let kF:T.ds=d::(ds.take m).drop (i+1):=by rw[h.kF];erw[Zo edt]
 let VE:(os.take (i+1)).foldl jE pl=jE T.pl x:=by rw[mQ,ex,BZ,h.DY];rfl
 let Wt:∀(l:BT),l=(os.take m).drop (i+1)->T.os[1]? =l[0]?:=λl e=>by rw[iy,e];rfl
 cases o with |@line ns sp e1 nh=>
  let zp:=e1;rw[iy]at zp;cases zp;let bX:=(row.ok i ns sp ex).1;let lp:=bX.lead.1;let hk:k<aF ns:=by
   rcases h.kl with z|⟨gO,iC,_,z1,z2⟩
   ·erw[_S.ME lp z]
   ·rw[ex]at z1;cases z1;erw[z2]
  let eL:nO ds os i=jy ns:=by unfold nO;rw[ex]
  let es:Cu (sC M T ns sp)= .tuple ((fH ns k).map PyData.int):=by unfold sC fq;rw[h.sY,a4G]
  let up:uY ds os i (k+1)=uY ds os i k++[Cu (sC M T ns sp)]:=by unfold uY;rw[mQ,eL,G2 hk,es,IC];rfl
  let N6:(gP M T ns sp).dn=k+1:=by show T.dn+1=_;rw[h.sY]
  unfold gZ;by_cases c:k+1=aF ns
  ·erw[i+1,0,zn]
   ·rw[aR (by rw[N6];erw[c])]
    let MV:jW (gP M T ns sp)={gP M T ns sp with dn:=0,pl:=jE T.pl (some (ns,sp)),ds:=(ds.take m).drop (i+1),os:=(os.take m).drop (i+1)}:=by unfold jW;let dv:(gP M T ns sp).os=some (ns,sp)::(os.take m).drop (i+1):=iy;let iU:(gP M T ns sp).ds=d::(ds.take m).drop (i+1):=kF;simp only[dv,iU];rfl
    rw[MV];erw[wP,Z,.inl Z,VE.symm,im,pD,λz=>?_,λz=>?_]
    ·erw[Z1 ok aJ e1 nh (by rw[h.sY];erw[c]) (.inl (by rw[Wt _ rfl];rw[show(os.take m).drop (i+1)=[]from z];rfl))]
    ·erw[Z1 ok aJ e1 nh (by rw[h.sY];erw[c]) (.inr (by rw[Wt _ rfl];erw[z]))]
   ·rw[<-up]
    unfold uY;rw[IR,o8,c,eL,zT (by rw[vL];erw[aZ _]),<-eL];rfl
  ·erw[i,k+1,?_,up]
   rw[aV (by rw[N6];erw[c])];erw[h.kF,h.iy,N6,.inr #[ns,sp,im,ex,nX hk c],h.DY,h.im,pD,λz=>(hn z).elim,λz=>?_];let z':T.os[0]? =some none:=z;rw[e1]at z';cases z' |eU e1 e2 nh=>
  let zp:=e1;rw[iy]at zp;cases zp;rw[kF]at e2;cases e2;let k0:k=0:=by
   rcases h.kl with z|⟨gO,iC,_,z1,z2⟩
   ·erw[z]
   ·rw[ex]at z1;cases z1
  subst k0;let p0:=h.j2 e1;erw[i+1,0,zn]
  ·let(h1,s1,s2,s3,s4):=FV ok.raw e
   let Qf:(dW e T).pc=T.pc:=by
    unfold dW;split
    ·split
     ·rfl
     ·split<;>rfl
    ·rfl
   let MV:jW (dW e T)={dW e T with pl:=jE T.pl none,ds:=(ds.take m).drop (i+1),os:=(os.take m).drop (i+1),dn:=0}:=by unfold jW;rw[s1,iy];simp only[s2,s4,kF];rfl
   rw[MV];erw[wP,Z,.inl Z,VE.symm,im,pD,λ_=>Qf.ao p0,λ_=>Qf.ao p0]
  ·unfold uY
   rw[IR,o8,IR,o8];show Ec ds os i++nO ds os i=_;let eE:nO ds os i=[e]:=by unfold nO;rw[ex,vx,ed];rfl
   let es:Cu e=e:=by rcases cV i e ex ed with⟨n,rfl,_⟩|⟨w',s',rfl,_⟩<;>rfl
   rw[eE,es]
def Inv2.zf{pl:Ar}{ds:AC}{os:BT}{m i k:Nat}(h:Inv2 pl ds os m i k T)(ll:⇑ds=os.length)(ed:ds[m]? =some d)(eo:os[m]? =some o):Inv2 pl ds os (m+1) i k (pI T d o):=by
 let im:=h.im;let hm:m<⇑os:=(ck.mp eo).1;let lt:⇑(os.take m)=m:=by rw[kH];lia
 let Xd:⇑(ds.take m)=m:=by rw[kH];lia
 erw[zn,h.sY,?_,h.DY,Iv im,hm,λz=>?_,λz=>?_]
 ·show T.ds++[d]=_
  rw[mQ,ed,aja (_S.B5 im Xd),h.kF];rfl
 ·show T.os++[o]=_
  rw[mQ,eo,aja (_S.B5 im lt),h.iy];rfl
 ·rcases h.kl with z|⟨ns,sp,z0,z1,z2⟩
  ·erw[.inl z]
  ·erw[.inr #[ns,sp,jv im,z1,z2]]
 ·exfalso
  let z':T.os++[o]=[]:=z;simp at z'
 ·let z':(T.os++[o])[0]? =some none:=z
  cases hT:T.os with |nil=>erw[h.j1 hT] |cons a r=>rw[hT]at z';erw[h.j2 (by rw[hT];erw[z'])]
def Inv2.goal{pl:Ar}{ds:AC}{os:BT}{m i k:Nat}(h:Inv2 pl ds os m i k T):zc T=(os.take m).foldl jE pl:=by
 unfold zc;rw[h.iy,h.DY];let e:os.take i=(os.take m).take i:=by rw[List.take_take];congr 1;have:=h.im;lia
 rw[e,<-BZ,List.take_append_drop]
end
section
def AU{r f:Int}{b x:Rat}(x0:0<=x)(xb:x<=b)(he:∀q,e=some q->q<=x+(f:Rat)/\x<=q+(r:Rat))(hg:∀q,g=some q->q<=x+(r:Rat)/\x<=q+(f:Rat)):jj r f b e g=true:=by
 let sub:∀{a c:Rat}{z:Int},a<=c+(z:Rat)->a+((-z:Int):Rat)<=c:=λ{a c z} h=>by have:=Oj (c:=((-z:Int):Rat))|>.mpr h;rw[Rat.add_assoc,<-Im,Int.add_right_neg]at this;let z0:c+((0:Int):Rat)=c:=tL _;rw[z0]at this;erw[this]
 unfold jj;rw[OT,A0];intro h;let(l,hl,h):=tP.mp h;let(u,hu,h):=tP.mp h;let h:=kg h;let l1:l<=x:=by
  rcases kj.mp hl with hl|hl
  ·rcases dj.mp hl with rfl|hl
   ·erw[x0]
   ·let(q,hq,rfl):=gS.mp hl
    erw[sub (he q (Ov.mp hq)).1]
  ·let(q,hq,rfl):=gS.mp hl
   erw[sub (hg q (Ov.mp hq)).1]
 let u1:x<=u:=by
  rcases kj.mp hu with hu|hu
  ·rcases dj.mp hu with rfl|hu
   ·erw[xb]
   ·let(q,hq,rfl):=gS.mp hu
    exact(he q (Ov.mp hq)).2
  ·let(q,hq,rfl):=gS.mp hu
   exact(hg q (Ov.mp hq)).2
 erw[pM.mpr (cu l1 u1) h]
theorem N3{n0:Nat}{tz:Int}{ds:AC}{os:BT}(row:cj n0 ds os){i c:Nat}(hc:c<⇑(jq tz ds os i)):∀n,i<n->n<=⇑os->(dF tz ds os n)[⇑(dF tz ds os i)+c]? =(jq tz ds os i)[c]?
 |0,h,_=>by lia |n+1,h,hn=>by
  show(dF tz ds os n++jq tz ds os n)[_]? =_;by_cases e:i=n
  ·subst e
   rw[oX (jg _ _),a1A]
  ·let ih:=N3 row hc n (nX (ki h) e) (cw hn)
   let hl:⇑(dF tz ds os i)+c<⇑(dF tz ds os n):=by rw[bf hc]at ih;exact(ck.mp ih).1
   rw[nZ hl];erw[ih]
theorem a0f{n0:Nat}{j tz:Int}{ds:AC}{os:BT}(row:cj n0 ds os){i c:Nat}(hc:c<⇑(jZ j tz os i)):∀n,i<n->n<=⇑os->(jF j tz os n)[⇑(dF tz ds os i)+c]? =(jZ j tz os i)[c]?
 |0,h,_=>by lia |n+1,h,hn=>by
  show(jF j tz os n++jZ j tz os n)[_]? =_;by_cases e:i=n
  ·subst e
   rw[<-lV (j:=j) row i (cw hn),oX (jg _ _),a1A]
  ·let ih:=a0f row hc n (nX (ki h) e) (cw hn)
   let hl:⇑(dF tz ds os i)+c<⇑(jF j tz os n):=by rw[bf hc]at ih;exact(ck.mp ih).1
   rw[nZ hl];erw[ih]
def a0d{n0:Nat}{j tz:Int}{ds:AC}{os:BT}(row:cj n0 ds os){i c:Nat}(hi:i<⇑os)(hc:c<⇑(jZ j tz os i)):(cK j tz os)[⇑(dF tz ds os i)+c]? =(jZ j tz os i)[c]?:=by
 let h:=a0f row hc ⇑os hi (aZ _);let hl:⇑(dF tz ds os i)+c<(jF j tz os ⇑os).length:=by rw[bf hc]at h;exact(ck.mp h).1
 unfold cK;rw[nZ hl];erw[h]
def Nv{n0:Nat}{j tz:Int}{ds:AC}{os:BT}(row:cj n0 ds os):(cK j tz os)[(dF tz ds os ⇑os).length]? =some 0:=by unfold cK;rw[oX (by rw[lV (ds:=ds) row _ (aZ _)];erw[aZ _]),lV (ds:=ds) row _ (aZ _),BO,CJ];rfl
def mnm{b:Rat}(h1:a'<=a)(h2:b'<=b):mn a' b'<=mn a b:=iq (cu (eO _ _) h1) (cu (gj _ _) h2)
def acV(hf:0<=f)(nm:n<=m)(hg:∀k,k<n->g k=g' k)(h0:g n=0)(nn:∀i,i<=m->0<=g' i)(hL:∀k,k<n->L k=L' k):∀k,k<=n->fl n L f g k<=fl m L' f g' k:=by
 erw[down ?_ ?_]
 ·rw[sR,h0];erw[acT hf nn n nm]
 ·intro k hk ih
  cases hl:L' k with |none=>rw[qI hk (by rw[hL k hk];erw[hl]),qI (dJ hk nm) hl,hg k hk];erw[fG] |some c=>rw[pH hk (by rw[hL k hk];erw[hl]),pH (dJ hk nm) hl,hg k hk];erw[mnm fG (Oj.mpr ih)]
def NJ(os ro:BT){k:Nat}(h:k<⇑os):ce (os++ro) k=ce os k:=by unfold ce;rw[nZ h]
def a5V(M:cC)(aJ:M.Ok)(tz:Int)(os ro:BT)(h:1<=⇑os):vO M.f M.j tz os<=vO M.f M.j tz (os++ro):=by
 let da:=aJ.f1;unfold vO;erw[acV (fy aw (_S.dE da.1)) (by rw[cH];erw[jg _ _]) (λk hk=>?_) (_O.Kd _ _ _ _ Z) (λi _=>_O.ur _ _ _ i) (λk hk=>?_) 1 h]
 ·cases k with |zero=>rfl |succ k=>show iN _ _ (ce os k) (ce os (k+1))=iN _ _ (ce (os++ro) k) (ce (os++ro) (k+1));rw[NJ os ro hk,NJ os ro (show k<⇑os from _S.yz hk)]
 ·unfold sB
  rw[NJ os ro hk]
structure jI(M:cC)(tz:Int)(pl:Ar)(ds:AC)(os:BT)(m i k:Nat)(T:bT)(es:AC)(sq:Nat->Option Rat):Prop where
 i2:Inv2 pl ds os m i k T
 rt:T.tz=tz
 len:⇑es=⇑(dF tz ds os i)+k
 ent:∀c e du,es[c]? =some e->(dF tz ds os ⇑os)[c]? =some du->a0X M.t du e (sq c)
 out:∀c,⇑es<=c->sq c=none
 meet:∀c b,c<⇑es->(cK M.j tz os)[c]? =some b->jj M.r M.f b (fS sq c) (sq c)=true
 pb:∀b,(cK M.j tz os)[⇑es]? =some b->T.pc<=b
 pv:∀q,fS sq ⇑es=some q->q<=T.pc+(M.f:Rat)/\T.pc<=q+(M.r:Rat)
 pt:∀ns sp,T.os[0]? =some (some (ns,sp))->T.pc<=oR tz sp/\T.pc<=fJ M T+((2*M.f*((aF ns:Int)-T.dn):Int):Rat)
 hs:∀a st gn,T.stp=some (a,st,gn)->a<=((2*M.f*st:Int):Rat)
end
section
def a0b{n0:Nat}{j tz:Int}{ds:AC}{os:BT}(row:cj n0 ds os):∀b∈cK j tz os,0<=b:=by
 let key:∀i,i<=⇑os->∀b∈jF j tz os i,0<=b:=by intro i;induction i with |zero=>intro _ b hb;exact(gy hb).elim |succ i ih=>
  intro hi b hb;rcases kj.mp hb with h1|h1
  ·erw[ih (cw hi) b h1]
  ·obtain⟨o,eo⟩:∃o,os[i]? =some o:=#[_,bf (show i<⇑os from hi)]
   cases o with |none=>rw[Ep eo,gz]at h1;rw[h1];erw[_O.ur _ _ _ _] |some q=>
    let(ns,sp):=q;rw[zA eo]at h1;rcases dj.mp h1 with h1|h1
    ·rw[h1];erw[_O.ur _ _ _ _]
    ·rw[(List.mem_replicate.mp h1).2];erw[_O.pQ _ _]
 intro b hb;rcases kj.mp hb with h1|h1
 ·erw[key _ (aZ _) b h1]
 ·rw[gz.mp h1];erw[_O.ur _ _ _ _]
theorem Zk{n:Nat}{tz:Int}{ds:AC}{os:BT}(row:cj n ds os):∀i,i<=⇑os->⇑(Ec ds os i)=⇑(dF tz ds os i) |0,_=>rfl |i+1,h=>by let ll:=row.len;show⇑(Ec ds os i++nO ds os i)=⇑(dF tz ds os i++jq tz ds os i);rw[cH,cH,Zk row i (cw h)];obtain⟨o,eo⟩:∃o,os[i]? =some o:=#[_,bf (show i<⇑os from h)];cases o with
 |none=>
  obtain⟨d',ed⟩:∃d',ds[i]? =some d':=#[_,bf (show i<⇑ds from _S.fD h ll)];rw[uZ eo ed];have:⇑(nO ds os i)=1:=by unfold nO;rw[eo];rfl
  rw[this];rfl |some q=>
  let(ns,sp):=q;rw[qO eo,bC,fV];have:⇑(nO ds os i)=aF ns:=by unfold nO;rw[eo,vL]
  rw[this]
def Inv2.up{n:Nat}{tz:Int}{pl:Ar}{ds:AC}{os:BT}{m i k:Nat}(row:cj n ds os)(h:Inv2 pl ds os m i k T):⇑(uY ds os i k)=⇑(dF tz ds os i)+k:=by
 let im:=h.im;let ml:=h.ml;unfold uY;rw[cH,Zk (tz:=tz) row i (cL im ml),kH];rcases h.kl with z|⟨ns,sp,z0,z1,z2⟩
 ·lia
 ·have:⇑(nO ds os i)=aF ns:=by unfold nO;rw[z1,vL]
  lia
def Inv2.len{pl:Ar}{ds:AC}{os:BT}{m i k:Nat}(h:Inv2 pl ds os m i k T):⇑T.os=m-i:=by
 rw[h.iy,tO,kH];have:=h.ml
 lia
def j7(sq:Nat->Option Rat)(n:Nat)(o:Option Rat):Nat->Option Rat:=λc=>if c=n then o else sq c
def xP{sq:Nat->Option Rat}(h:c≠n):j7 sq n o c=sq c:=aV h
def Ab{sq:Nat->Option Rat}:j7 sq n o n=o:=aR rfl
def prev_lt{sq:Nat->Option Rat}(h:c<=n):fS (j7 sq n o) c=fS sq c:=by cases c with |zero=>rfl |succ c=>erw[xP (fo h)]
def Vp{D:Nat}(h:cN M D S)(aJ:M.Ok)(hn:S.os≠[]):0<=fJ M S:=(G8 h.raw aJ hn).1.nn
def a7h{D:Nat}{tz:Int}{pl:Ar}{ds:AC}{os:BT}(aJ:M.Ok)(row:cj ⇑M.rs ds os)(cV:RowW ds os){m i k:Nat}{T T1:bT}{e:aj}{es:AC}{sq:Nat->Option Rat}(ok:cN M D T)(h:jI M tz pl ds os m i k T es sq)(o:One M T e T1): ∃i' k' lj,jI M tz pl ds os m i' k' T1 (es++[e]) lj:=by
 let fY:=aJ.r1;let da:=aJ.f1;let ll:=row.len;let i2:=h.i2;let im:=i2.im;let ml:=i2.ml;let(i',k',h1,e1):=a7i aJ row cV ok i2 o;let L:=congrArg List.length e1;rw[cH,i2.up (tz:=tz) row,h1.up (tz:=tz) row,No,<-h.len]at L;let uG:⇑(es++[e])=es.length+1:=by simp
 let Yp:∀c x,(es++[e])[c]? =some x->(es[c]? =some x/\c<⇑es)\/(c=⇑es/\x=e):=λc x hx=>by
  rcases vG hx with h|⟨h1,h2⟩
  ·erw[.inl #[h,(ck.mp h).1]]
  ·erw[.inr #[h1,h2]]
 let L1:=i2.len;let L2':=h1.len;cases o with
 |@line ns sp eo nh=>
  let D1:=ok.D1;let D2:=ok.D2;let eZ:T.os≠[]:=λz=>by rw[z]at eo;simp at eo
  let hlen:1<=⇑T.os:=by have:=(ck.mp eo).1;lia
  let ii:i<m:=by lia
  let eoi:os[i]? =some (some (ns,sp)):=by rw[i2.iy,xC,F2,aR aE]at eo;erw[eo]
  let(bX,cT,dM):=row.ok i ns sp eoi;let ek:T.dn=k:=i2.sY;let hd:T.dn<aF ns:=by
   rcases ok.dn with z|⟨gO,iC,z1,z2⟩
   ·have:=bX.lead;lia
   ·rw[eo]at z1;cases z1;erw[z2]
  let(pt1,CG):=h.pt ns sp eo;let p0:=ok.pd.nn;let lR:=h.rt;let(A,Bb,Cc,Dd'):=a8t (D:=D) (r:=M.r) (f:=M.f) (pc:=T.pc) (top:=oR T.tz sp) (R:=fJ M T) (left:=(aF ns:Int)-T.dn) (stp:=T.stp) (_S.dE fY.1) (_S.dE da.1) (_S.tf hd) p0 (by rw[lR];erw[pt1]) CG ok.stp nh h.hs;let em:yC M T ns sp=lM M.r M.f T.pc (oR T.tz sp) (fJ M T) ((aF ns:Int)-T.dn) T.stp:=rfl;let(R1,R2):=G8 ok.raw aJ eZ;let mdd:=X6 (D:=D) (r:=M.r) (f:=M.f) (pc:=T.pc) (top:=oR T.tz sp) (R:=fJ M T) (left:=(aF ns:Int)-T.dn) (stp:=T.stp) (_S.dE fY.1) (_S.dE da.1) (_S.tf hd) ok.pd ((IV _ _).sK (cL (vv _ _) (xy D1))) (R1.sK (xy D1)) ok.stp nh;let WU:yC M T ns sp<=oR T.tz sp:=X4;let tle:=Fz cT dM ok.bN ok.bS;let mbd:Bd 1900 (yC M T ns sp):=(mdd.bd (cu WU (cu tle aP))).sK aE;let a97:0<yC M T ns sp:=X5 fY.1 da.1 (_S.tf hd) p0 (Ce cT ok.bN) R1.nn ok.stp nh;rw[<-em]at A Bb Cc Dd';generalize aeK:yC M T ns sp=mid at*;generalize ML:p8 M.r M.f T.pc (oR T.tz sp) (fJ M T) ((aF ns:Int)-T.dn) T.stp=en at*;let Z7:en<=oR T.tz sp:=by rw[<-ML];erw[Z2]
  let MH:en<=fJ M T+((2*M.f*((aF ns:Int)-T.dn-1):Int):Rat):=by rw[<-ML];erw[Z3]
  let hN:(gP M T ns sp).pc=en/\(gP M T ns sp).tz=T.tz/\(gP M T ns sp).stp=yh T.stp/\(gP M T ns sp).os=T.os/\(gP M T ns sp).dn=T.dn+1:=#[ML,wP,wP];let M0:(gZ ns (gP M T ns sp)).pc=en/\(gZ ns (gP M T ns sp)).tz=T.tz/\(gZ ns (gP M T ns sp)).stp=yh T.stp/\((T.dn+1=aF ns/\(gZ ns (gP M T ns sp)).os=T.os.tail/\(gZ ns (gP M T ns sp)).dn=0)\/(T.dn+1≠aF ns/\(gZ ns (gP M T ns sp)).os=T.os/\(gZ ns (gP M T ns sp)).dn=T.dn+1)):=by
   let(n1,n2,n3,n4,n5):=hN;unfold gZ;by_cases c:T.dn+1=aF ns
   ·rw[aR (by rw[n5];erw[c])]
    unfold jW;rw[n4];cases lP:T.os with |nil=>exact(eZ lP).elim |cons x tl=>erw[n1,n2,n3,.inl #[c,wP]]
   ·rw[aV (by rw[n5];erw[c])]
    erw[n1,n2,n3,.inr #[c,n4,n5]]
  let(t1,t2,t3,t4):=M0;let idx:⇑(dF tz ds os i)+k=es.length:=h.len.symm;let lI:⇑(jq tz ds os i)=aF ns:=by rw[qO eoi,bC,fV]
  let lB:⇑(jZ M.j tz os i)=aF ns:=by rw[zA eoi,kY,BW];lia
  let N4:(dF tz ds os ⇑os)[es.length]? =some (kG (fH ns k) (oR tz sp)):=by rw[<-idx,N3 row (_S.fD (_S.Bq hd ek) lI) ⇑os (dJ ii ml) (aZ _),qO eoi,bV,jN (_S.Bq hd ek)];rfl
  let VU:fJ M T<=iN M.j T.tz (ce T.os 0) (ce T.os 1):=Md hlen;erw[i',k',j7 sq ⇑es (some mid),h1,t2.ao lR,by rw[uG];erw[Eq.symm L],λc x du hx yT=>?_,λc hc=>?_,λc b hc hb=>?_,λb hb=>?_,λq hq=>?_,λgO iC e'=>?_,λa' st gn e'=>?_]
  ·rcases Yp c x hx with⟨g1,g2⟩|⟨g1,g2⟩
   ·rw[xP (fo g2)];erw[h.ent c x du g1 yT]
   ·subst g1 g2
    rw[N4]at yT;cases yT;rw[Ab];erw[fH ns k,oR tz sp,Z,?_,by rw[<-lR];erw[WU],a97,mbd,(_O.mZ cT dM (by rw[<-lR];erw[ok.bN]) (by rw[<-lR];erw[ok.bS])).sK aw,by unfold fH;rw[bC,bX.len];have:=aJ.len;lia];unfold sC;rw[ek,aeK]
  ·rw[uG]at hc
   rw[xP (zS hc)];erw[h.out c (cw hc)]
  ·rw[uG]at hc
   by_cases g:c=⇑es
   ·subst g
    rw[prev_lt (aZ _),Ab];erw[AU p0 (h.pb b hb) h.pv λq e=>by cases e;erw[A,Bb]]
   ·rw[prev_lt (ki hc),xP g]
    erw[h.meet c b (nX (ki hc) g) hb]
  ·rw[uG]at hb
   rw[t1];rcases t4 with⟨c1,c2,c3⟩|⟨c1,c2,c3⟩
   ·let ei:i'=i+1:=by rw[c2,List.length_tail]at L2';have:=h1.im;lia
    let zm:k'=0:=by rw[<-h1.sY];erw[c3]
    let uV:en<=iN M.j T.tz (ce T.os 0) (ce T.os 1):=by
     erw[cu MH ?_];let e0:2*M.f*((aF ns:Int)-T.dn-1)=0:=by rw[show(aF ns:Int)-T.dn-1=0 by lia,IG]
     rw[e0];let z0:fJ M T+((0:Int):Rat)=fJ M T:=tL _;rw[z0];erw[VU]
    let a0:ce T.os 0=ce os i:=by unfold ce;rw[eo,eoi]
    let VT:iN M.j T.tz (ce T.os 0) (ce T.os 1)<=iF M.j tz os (i+1):=by
     by_cases him:i+1<m
     ·let a1:ce T.os 1=ce os (i+1):=by unfold ce;rw[i2.iy,xC,F2,aR him]
      rw[a0,a1,lR];erw[fG]
     ·let a1:ce T.os 1=none:=_O.NH aE
      rw[a1,_O.vd];erw[_O.ur _ _ _ _]
    by_cases oG:i+1<⇑os
    ·have:=a0d (j:=M.j) (tz:=tz) row (i:=i+1) (c:=0) oG (by obtain⟨o',dv⟩:∃o,os[i+1]? =some o:=#[_,bf oG];have:=wU (j:=M.j) (tz:=tz) oG;exact(ck.mp this).1);rw[wU oG]at this;rw[<-L,ei,zm,this]at hb;cases hb;erw[cu uV VT]
    ·let Zb:i+1=⇑os:=iY (dJ ii ml) (kX oG)
     rw[<-L,ei,zm,Zb,Oz,Nv row]at hb;cases hb;erw[cu uV (cu VT ?_)];rw[Zb,CJ];erw[fG]
   ·let ei:i'=i:=by rw[c2]at L2';have:=h1.im;lia
    let zm:k'=k+1:=by rw[<-h1.sY,c3,ek]
    have:=a0d (j:=M.j) (tz:=tz) row (i:=i) (c:=k+1) (dJ ii ml) aE;rw[Nu eoi (jv (fR _)) aE]at this;rw[<-L,ei,zm,this]at hb;cases hb;rw[<-lR];erw[Z7]
  ·rw[uG]at hq
   let hq:j7 sq ⇑es (some mid) ⇑es=some q:=hq;rw[Ab]at hq;cases hq;rw[t1];erw[Cc,Dd']
  ·rw[t1]
   let rN:fJ M (gZ ns (gP M T ns sp))=vO M.f M.j T.tz (gZ ns (gP M T ns sp)).os:=by unfold fJ;rw[t2]
   rcases t4 with⟨c1,c2,c3⟩|⟨c1,c2,c3⟩
   ·let uV:en<=fJ M T:=by
     erw[cu MH ?_];let e0:2*M.f*((aF ns:Int)-T.dn-1)=0:=by rw[show(aF ns:Int)-T.dn-1=0 by lia,IG]
     rw[e0];let z0:fJ M T+((0:Int):Rat)=fJ M T:=tL _;rw[z0];erw[fG]
    rw[c2,List.getElem?_tail]at e';let Yk:1<⇑T.os:=(ck.mp e').1;let a0:ce T.os 0=some (ns,sp):=_O.mI eo;let a1:ce T.os 1=some (gO,iC):=_O.mI e';erw[zn]
    ·erw[cu uV (cu VU ?_)]
     rw[a0,a1,<-lR];show _O.dL (mn (oR T.tz sp) (oR T.tz iC)) (_O.na M.j ns gO)<=_;cases _O.na M.j ns gO with |none=>erw[gj _ _] |some cc=>erw[cu (eO _ _) (gj _ _)]
    ·erw[cu uV ?_]
     let lf:sB T.os 1=some (aF gO):=by unfold sB;rw[a1];rfl
     let e2:fJ M T=mn (iF M.j T.tz T.os 1) (fl ⇑T.os (sB T.os) (2*M.f) (iF M.j T.tz T.os) 2+((2*M.f*(aF gO:Int):Int):Rat)):=pH Yk lf;rw[e2,rN,c2,c3];let e3:vO M.f M.j T.tz T.os.tail=fl ⇑T.os (sB T.os) (2*M.f) (iF M.j T.tz T.os) 2:=by unfold vO;rw[<-List.drop_one];erw[a5U Yk]
     rw[e3];erw[cu (gj _ _) ?_];have:((aF gO:Int)-((0:Nat):Int))=(aF gO:Int):=rfl;rw[this];erw[fG]
   ·rw[c2]at e'
    rw[eo]at e';cases e';erw[by rw[<-lR];erw[Z7],?_];rw[rN,c2,c3];have:(aF ns:Int)-((T.dn+1:Nat):Int)=(aF ns:Int)-T.dn-1:=by lia
    rw[this];erw[MH]
  ·rw[t3]at e'
   cases iI:T.stp with |none=>rw[iI]at e';cases e' |some z=>let(z1,z2,z3):=z;rw[iI]at e';cases e';erw[h.hs _ _ _ iI]
 |eU eo ed nh=>
  let eZ:T.os≠[]:=λz=>by rw[z]at eo;simp at eo
  let hlen:1<=⇑T.os:=by have:=(ck.mp eo).1;lia
  let ii:i<m:=by lia
  let eoi:os[i]? =some none:=by rw[i2.iy,xC,F2,aR aE]at eo;erw[eo]
  let MP:ds[i]? =some e:=by rw[i2.kF,xC,F2,aR aE]at ed;erw[ed]
  let VM:=i2.j2 eo;let k0:k=0:=by
   rcases i2.kl with z|⟨gO,iC,_,z1,z2⟩
   ·erw[z]
   ·rw[eoi]at z1;cases z1
  subst k0;let(_,s1,s2,s3,s4):=FV ok.raw e;let sp:(dW e T).pc=T.pc/\(dW e T).tz=T.tz/\(dW e T).stp=T.stp:=by
   unfold dW;split
   ·split
    ·erw[wP,Z]
    ·split<;>erw[wP,Z]
   ·erw[wP,Z]
  let M0:(jW (dW e T)).pc=T.pc/\(jW (dW e T)).tz=T.tz/\(jW (dW e T)).stp=T.stp:=by unfold jW;rw[s1];cases lP:T.os with |nil=>exact(eZ lP).elim |cons x tl=>erw[sp]
  let(t1,t2,t3):=M0;let fg:=(One.eU (M:=M) eo ed nh).ok ok aJ;let idx:⇑(dF tz ds os i)+0=es.length:=h.len.symm;let N4:(dF tz ds os ⇑os)[es.length]? =some e:=by rw[<-idx,N3 row (by rw[uZ eoi MP];simp) ⇑os (dJ ii ml) (aZ _),uZ eoi MP];rfl
  erw[i',k',j7 sq ⇑es none,h1,t2.ao h.rt,by rw[uG];erw[Eq.symm L],λc x du hx yT=>?_,λc hc=>?_,λc b hc hb=>?_,λb hb=>?_,λq hq=>?_,λgO iC e'=>?_,λa' st gn e'=>h.hs a' st gn (by rw[<-t3];erw[e'])]
  ·rcases Yp c x hx with⟨g1,g2⟩|⟨g1,g2⟩
   ·rw[xP (fo g2)];erw[h.ent c x du g1 yT]
   ·subst g1 g2
    rw[N4]at yT;cases yT;rw[Ab];erw[Z,cV i _ eoi MP]
  ·rw[uG]at hc
   rw[xP (zS hc)];erw[h.out c (cw hc)]
  ·rw[uG]at hc
   by_cases g:c=⇑es
   ·subst g
    rw[prev_lt (aZ _),Ab];erw[AU ok.pd.nn (h.pb b hb) h.pv λq e=>by cases e]
   ·rw[prev_lt (ki hc),xP g]
    erw[h.meet c b (nX (ki hc) g) hb]
  ·rw[t1,VM]
   erw[a0b row b (gA hb)]
  ·rw[uG]at hq
   let hq:j7 sq ⇑es none ⇑es=some q:=hq;rw[Ab]at hq;cases hq
  ·rw[t1,VM]
   erw[_O.pQ _ _,?_];let ab9:(jW (dW e T)).os≠[]:=λz=>by rw[z]at e';simp at e'
   let r1:=Vp fg aJ ab9;let hd:(0:Int)<=(aF gO:Int)-((jW (dW e T)).dn:Int):=by
    rcases fg.dn with z|⟨n2,p2,z1,z2⟩
    ·erw[_S.Nd (IN z (fR _))]
    ·rw[e']at z1;cases z1;erw[_S.dE (_S.tf z2)]
   have:(0:Rat)<=((2*M.f*((aF gO:Int)-((jW (dW e T)).dn:Int)):Int):Rat):=rk.mpr (show(0:Int)<=_ from fy (fy aw (_S.dE da.1)) hd);grind
def V0{D:Nat}{tz:Int}{pl:Ar}{ds:AC}{os:BT}(aJ:M.Ok)(row:cj ⇑M.rs ds os)(cV:RowW ds os){m:Nat}{T T1:bT}{fs:AC}(r:Run M T fs T1):∀{i k:Nat}{es:AC}{sq:Nat->Option Rat},cN M D T->jI M tz pl ds os m i k T es sq->∃i' k' lj,jI M tz pl ds os m i' k' T1 (es++fs) lj:=by induction r with |nil=>intro i k es sq _ h;erw[i,k,sq,by rw[o8];erw[h]] |cons o _ ih=>intro i k es sq ok h;let(i1,k1,sq1,h1):=a7h aJ row cV ok h o;let(i2,k2,Ac,h2):=ih (o.ok ok aJ) h1;erw[i2,k2,Ac,by rw[IC]at h2;erw[h2]]
theorem jI.zf{D:Nat}{tz:Int}{pl:Ar}{ds:AC}{os:BT}{m i k:Nat}{es:AC}{sq:Nat->Option Rat}(aJ:M.Ok)(ok:cN M D T)(h:jI M tz pl ds os m i k T es sq)(ll:⇑ds=os.length)(ed:ds[m]? =some d)(eo:os[m]? =some o)(bX:cN M D (pI T d o)):jI M tz pl ds os (m+1) i k (pI T d o) es sq:=by let da:=aJ.f1;erw[h.i2.zf ll ed eo,h.rt,h.len,h.ent,h.out,h.meet,h.pb,h.pv,λns sp e=>?_,h.hs];show T.pc<=_/\T.pc<=_;cases hT:T.os with
 |nil=>
  let p0:=h.i2.j1 hT;rw[p0];erw[_O.pQ _ _,?_];let eZ:(pI T d o).os≠[]:=by show T.os++[o]≠[];simp
  let r1:=Vp bX aJ eZ;let hd:(0:Int)<=(aF ns:Int)-((pI T d o).dn:Int):=by
   rcases bX.dn with z|⟨n2,p2,z1,z2⟩
   ·erw[_S.Nd (IN z (fR _))]
   ·rw[e]at z1;cases z1;erw[_S.dE (_S.tf z2)]
  have:(0:Rat)<=((2*M.f*((aF ns:Int)-((pI T d o).dn:Int)):Int):Rat):=rk.mpr (show(0:Int)<=_ from fy (fy aw (_S.dE da.1)) hd);grind |cons x tl=>
  let e0:T.os[0]? =some (some (ns,sp)):=by let e':(T.os++[o])[0]? =some (some (ns,sp)):=e;rw[hT]at e'⊢;erw[e']
  let(a1,a2):=h.pt ns sp e0;erw[a1,cu a2 ?_];have:fJ M T<=fJ M (pI T d o):=a5V M aJ T.tz T.os [o] (by rw[hT];simp);let e2:(pI T d o).dn=T.dn:=rfl;rw[e2];erw[Oj.mpr this]
def jI.go{tz:Int}{pl:Ar}{ds:AC}{os:BT}{m i k:Nat}{es:AC}{sq:Nat->Option Rat}(h:jI M tz pl ds os m i k T es sq)(s:_R.iz)(hs:∀a st gn,s=some (a,st,gn)->a<=((2*M.f*st:Int):Rat)):jI M tz pl ds os m i k {T with stp:=s} es sq:=#[#[h.i2.kF,h.i2.iy,h.i2.sY,h.i2.kl,h.i2.DY,h.i2.im,h.i2.ml,h.i2.j1,h.i2.j2],h.rt,h.len,h.ent,h.out,h.meet,h.pb,h.pv,h.pt,hs]
def jI.hold{D:Nat}{tz:Int}{pl:Ar}{ds:AC}{os:BT}{m i k:Nat}{es:AC}{sq:Nat->Option Rat}(aJ:M.Ok)(ok:cN M D T)(h:jI M tz pl ds os m i k T es sq):jI M tz pl ds os m i k (qz M T) es sq:=by unfold qz;cases hs:T.stp with |some z=>erw[h] |none=>erw[h.go _ λa st gn e=>?_];cases e;exact(PZ aJ.f1.1 ok.pd.nn).2.2.1
def jI.end{tz:Int}{pl:Ar}{ds:AC}{os:BT}{i k:Nat}{es:AC}{sq:Nat->Option Rat}(row:cj ⇑M.rs ds os)(h:jI M tz pl ds os ⇑os i k T es sq)(he:T.os=[]):jH M.r M.f M.j M.t tz ds os es sq:=by
 let L:=h.i2.len;rw[he]at L;let im:=h.i2.im;let ei:i=⇑os:=by simp at L;lia
 subst ei;let k0:k=0:=by
  rcases h.i2.kl with z|⟨_,_,z,_⟩
  ·erw[z]
  ·lia
 subst k0;let len:=h.len;rw[Oz]at len;erw[len,h.ent,h.out _ (aZ _),λc b hb=>?_];by_cases hc:c<⇑es
 ·erw[h.meet c b hc hb]
 ·let hl:⇑(cK M.j tz os)=es.length+1:=by unfold cK;rw[cH,lV (ds:=ds) row _ (aZ _),len];rfl
  let cU:=(ck.mp hb).1;let ec:c=⇑es:=by lia
  subst ec;rw[h.out _ (aZ _)];let p0:=h.i2.j1 he;erw[AU (x:=T.pc) (by rw[p0];erw[fG]) (h.pb b hb) h.pv λq e=>by cases e]
end
end _c
set_option maxHeartbeats 4000000
namespace _c
universe _L _d _l _C _P _W _R
open _O (oR na dL iN ce iF sB dO OkI OkIs)
section
def Q3(ti:Int)(zs:Ar)(q:Rat):eX 7 (fq ti zs q):=by
 let h1:eX 1 (.tuple (zs.map PyData.int)):=iP.tup (n:=0) λd hd=>by let(i,_,rfl):=gS.mp hd;erw[.int i]
 let hs:iP 1 [.str "step",.tuple (zs.map PyData.int),.int (ku ti q),cI q]:=λd hd=>by
  simp only[dj,gy,jM]at hd;rcases hd with rfl|rfl|rfl|rfl
  ·erw[aP,aP]
  ·erw[h1]
  ·erw[.int _]
  ·erw[JS _]
 erw[hs.tup.le aw]
def VW(h:iM d):eX 7 d:=by
 rcases h with⟨n,rfl,_,_⟩|⟨wd,z,rfl,hw,ok,_⟩
 ·let hs:iP 0 [.str "wait",.int n]:=λd hd=>by
   simp only[dj,gy,jM]at hd;rcases hd with rfl|rfl
   ·erw[aP,aP]
   ·erw[.int _]
  erw[hs.tup.le aw]
 ·let hs:iP 0 [.str wd,.str z]:=λd hd=>by
   simp only[dj,gy,jM]at hd;rcases hd with rfl|rfl
   ·rcases hw with rfl|rfl<;>erw[aP,aP]
   ·erw[ok]
  erw[hs.tup.le aw]
def a4L(n:Nat):seqIndex? 0 (n+1)=some 0:=by unfold seqIndex?;simp
theorem Run.stp(r:Run M S es S1)(h:S.stp=none):S1.stp=none:=by induction r with |nil=>erw[h] |cons o _ ih=>apply ih;cases o with
 |line _ _=>
  unfold gZ jW;split
  ·split<;>(show yh _=none;rw[h];rfl)
  ·show yh _=none;rw[h];rfl |eU _ _ _=>
  let hs:∀(d:aj)(T:bT),(dW d T).stp=T.stp:=λd T=>by
   unfold dW;split
   ·split
    ·rfl
    ·split<;>rfl
   ·rfl
  unfold jW;split
  ·exact(hs _ _).ao h
  ·exact(hs _ _).ao h
structure EM(M:cC)(pl:Ar)(ds:AC)(os:BT):Prop where
 aJ:M.Ok
 row:cj ⇑M.rs ds os
 rw:RowW ds os
 rr:vi M.rs pl os
 len:⇑ds<=20
def cN.up{D:Nat}(h:cN M D S)(hD:D<=1490):cN M (D+10) S:=by let D1:=h.D1;erw[h.row,h.rw,h.len,h.bN,h.bS,h.dn,h.pl,h.pd.sK (jg _ _),h.pm,?_,xy D1,EZ hD _];let st:=h.stp;cases hs:S.stp with |none=>trivial |some z=>rw[hs]at st;let(sq,jx,gn):=z;let(a1,a2,a3,a4,a5):=st;erw[a1,a2,a3,a4.sK (jg _ _),a5]
def cN.go{D:Nat}(h:cN M D S):cN M D {S with stp:=none}:=#[h.row,h.rw,h.len,h.bN,h.bS,h.dn,h.pl,h.pd,h.pm,trivial,h.D1,h.D2]
theorem cN.tz{D:Nat}(h:cN M D S){tz:Int}(h1:10<=tz)(h2:tz<=200):cN M D {S with tz:=tz}:=#[h.row,h.rw,h.len,h1,h2,h.dn,h.pl,h.pd,h.pm,h.stp,h.D1,h.D2]
def aI.but(s:aI H0 H)(b:eF S H H')(hn:∀x∈S,H0 x=none):aI H0 H':=λb' o e=>b _ _ (s _ _ e) (λhm=>by rw[hn _ hm]at e;cases e)
theorem aI.none(s:aI H0 H)(h:H x=none):H0 x=none:=by cases e:H0 x with |none=>rfl |some o=>have:=s _ _ e;rw[h]at this;cases this
def aew:PyData.eqv (.list l) (.list [])=l.isEmpty:=by cases l<;>simp[PyData.eqv,PyData.eqvAll]
def a5k{D:Nat}(r:Run M S es S1):cN M D S->M.Ok->∀e∈es,eX 7 e:=by induction r with |nil=>intro _ _ e he;cases he |cons o _ ih=>
 intro h aJ e he;rcases dj.mp he with rfl|he
 ·cases o with |line _ _=>erw[Q3 _ _ _] |eU eo ed _=>erw[VW (h.rw 0 _ eo ed)]
 ·erw[ih (o.ok h aJ) aJ e he]
structure G5(C:Addr)(M:cC)(tz:Int)(pl:Ar)(ds:AC)(os:BT)(p x Wl Fl:Addr)(H0:Hp)(D:Nat)(H:Hp)(q:Addr)(S:bT)(m:Nat)(es:AC):Prop where
 w:W4 C M ds p x Wl Fl H0 H q S m es
 ok:cN M D S
 inv:∃i k sq,jI M tz pl ds os m i k S es sq
 no:bR es=true
section
variable {M:cC}{tz:Int}{pl:Ar}{ds:AC}{os:BT}{p x Wl Fl:Addr}{H0 H H':Hp}{D:Nat}{q q':Addr}{S S':bT}{m i k:Nat}{es fs:AC}
def YF(cx:EM M pl ds os)(inv:Inv2 pl ds os m i k S){d:aj}(ed:ds[m]? =some d):∃o,os[m]? =some o/\BH ⇑M.rs d o/\mL M.rs (jE (zc S) o)/\⇑S.ds<20:=by
 let ll:=cx.row.len;let Lg:=cx.len;let(o,eo,it):=cx.row.get ed;let hm:m<⇑ds:=(ck.mp ed).1;erw[o,eo,#[it,λns sp e=>cx.row.ok m ns sp (by rw[eo,e]),λe=>cx.rw m d (by rw[eo,e]) ed],zn]
 ·rw[inv.goal]
  have:=cx.rr (m+1) (jf hm ll);rw[mQ,eo,BZ]at this;erw[this]
 ·rw[inv.kF,tO,kH];lia
theorem G5.draw(cx:EM M pl ds os)(h:G5 C M tz pl ds os p x Wl Fl H0 D H q S m es)(b:bF p H H'):G5 C M tz pl ds os p x Wl Fl H0 D H' q S m es:=#[h.w.draw b h.ok.row.no cx.row.no h.no,h.ok,h.inv,h.no]
def Lr{sq:Nat->Option Rat}(cx:EM M pl ds os)(h:jI M tz pl ds os m i k S es sq):⇑es<=2100:=by
 let ll:=cx.row.len;let Lg:=cx.len;let im:=h.i2.im;let ml:=h.i2.ml;let d1:=(wH (tz:=tz) cx.row i (cL im ml)).1;have:=h.len;rcases h.i2.kl with z|⟨ns,sp,z,z1,z2⟩
 ·lia
 ·have:=nG (cx.row.ok i ns sp z1).1
  lia
def G5.run(cx:EM M pl ds os)(h:G5 C M tz pl ds os p x Wl Fl H0 D H q S m es)(r:Run M S fs S')(mv:Mv x q H q' H')(R:dH C H' x q' M S'){ys:AT}(ry:aH K H' ys fs):bR fs=true/\cN M D S'/\W4 C M ds p x Wl Fl H0 H' q' S' m es/\(∀us,H' Fl=some (.bi us)->G5 C M tz pl ds os p x Wl Fl H0 D (_L.bn H' Fl (.bi (us++ys))) q' S' m (es++fs)):=by let oy:=r.ok h.ok cx.aJ;let nf:=r.no h.ok cx.aJ;let w':=h.w.mv mv R cx.row.no h.no;erw[nf,oy,w',λus eu=>?_];let(i,k,sq,inv):=h.inv;let(i',k',lj,aas):=V0 cx.aJ cx.row cx.rw r h.ok inv;erw[w'.ext oy.row.no cx.row.no h.no nf eu ry,oy,#[i',k',lj,aas],?_,B,cA.mpr λd hd=>(kj.mp hd).elim (cA.mp h.no d) (cA.mp nf d)]
end
inductive Qr|mk p mv gL iv tz rs r f j ti pl ds os(_:vs=[.ref p,mv,gL,iv,.int tz])(_:gI H p)(_:RD K H mv (fC rs r f j ti))(_:fQ rs r f j ti)(_:RD K H gL (jA pl))(_:mL rs pl)(_:RD K H iv (.tuple ds))(_:cj ⇑rs ds os)(_:RowW ds os)(_:vi rs pl os)(sM:⇑ds<=20)(zb:10<=tz)(za:tz<=200)(M6:∀v es sq H',RD K H' v (.list es)->jH r f j ti tz ds os es sq->bF p H H'->Q v H')
def Sh:bA ["_law_bag_here","_law_machine_here","_law_place_here","_law_items_here","_law_rate","_law_runner","_law_waits","_law_found","_law_turn","_law_kind","_law_item","_law_more"] ["_law_bag_here","_law_machine_here","_law_place_here","_law_items_here","_law_rate"] (aY Us):=bJ aP
def a86(AA:a0q)(RR:iL K mg C)(M1:a0o C "entries" 12 (Ql C)):a0n "_law_held_tape" 13 Qr:=by
 exists AA.ae9.has,Sh,HJ λ_ _ _ _ _=>rfl
 ·let(p,mv,gL,iv,tz,rs,r,f,j,ti,pl,ds,os,rfl,bg,rm,aJ,vK,on,ri,row,cV,vM,hl,bN,bS,kk):=h
  let nd:=Sh.nd;erw[_,%[pS 5 nd (a6J (a7G AA RR) (hr.sK aw) Z %[1,2|az]),fe (uk (a7z AA RR) RR.tc.cl (hr.sK aw) P3 %[4|az]),pS 6 nd (gY (x:="list") (yE K Z) Z (AA.B.at "list") jt %[3|az]),pS 7 nd (cY az),(gh fc Z (pZ Z (AA.B.at "range") %[aA|az]) (ba 8 nd) %[pS 9 nd (pf (eK AA) hr %[0,aA|az]),(bp (PW.pt (nu (bL jS a0l aA (bc _)) (pX (bL qh (dC K AA.B %[6|az]) aA (bc _))))) (aG (fe (uk (Wc AA RR) RR.tc.cl (hr.sK aw) P3 %[a6S K Z W1 %[aA|az]|az]))) (aG (bp (bL (cJ K Z hr.units) a0l aA (bc _)) (aG (fe (nv (a7H RR) RR.tc.cl (hr.sK aw) P3))) (aG (bp (bL (cJ K Z hr.units) a0l aA (bc _)) (aG (fe (nv (Wb AA RR) RR.tc.cl (hr.sK aw) P3))) (aG (fe (y9 K Z a0g %[(uk M1 RR.tc.cl (hr.sK aw) P3 %[aM cM aA (pf (eK AA) hr %[0,aA|az])|az])|az]))))))))|aG]),gh fc Z (qe K Z W1) (ba 10 nd) (aG (fe (uk (Wc AA RR) RR.tc.cl (hr.sK aw) P3 %[10|az]))),fe (nv (Wb AA RR) RR.tc.cl (hr.sK aw) P3),pS 11 nd (uk M1 RR.tc.cl (hr.sK aw) P3 %[aA|az]),(jQ (rS fc (bL (j9 K Z hr.units) (pv 11) (cY az) (bc _)) %[fe (y9 K Z a0g %[11|az]),pS 11 nd (uk M1 RR.tc.cl (hr.sK aw) P3 %[aA|az])|aG])),aQ a0g|aG],?_];let ll:=row.len;let lr3:=aJ.len;let(ia,xs,rfl,Ba,dP):=ri.cD;let lx:=⇑dP;erw[wp,λx dx nx Kt Ks=>#[x,dx,mv,gL,#[rs,r,f,j,ti],pl,Z,bQ,zn,λq BJ NV nq tD=>#[Z,?_]]]
  ·erw[RD.sK (aI.new Kt|>.ao (aI.new (by rw[aU Ks.symm];erw[nx]))) _ rm]
  ·erw[RD.sK (aI.new Kt|>.ao (aI.new (by rw[aU Ks.symm];erw[nx]))) _ vK]
  let sm:aI H (_L.bn (_L.bn H dx (.own x)) x (.ins C dx [])):=aI.new Kt|>.ao (aI.new (by rw[aU Ks.symm];erw[nx]));let ky:aI H BJ:=aI.but sm tD (by simpa using nx);let a8y:H q=none:=aI.none sm nq;generalize hM:(#[rs,r,f,j,ti]:cC)=M at NV;let j8:M.Ok:=by rw[<-hM];erw[aJ]
  let MU:M.rs=rs:=by rw[<-hM]
  let cx:EM M pl ds os:=#[j8,by rw[MU];erw[row],cV,by rw[MU];erw[vM],aE];let nD:=cx.row.no;let Ws:cN M 64 (rL pl):=a5F (by rw[MU];erw[on.len]);let(N0,_,_,_,_,e15,_):=id NV.ob;erw[ww,x,N0,ww,e15,WP,x,q,M,64,rL pl,tz,Z,NV,Ws,j8,bN,bS,Z,λxh NU vf=>?_];let pV:aI H xh:=aI.but ky vf (by simpa using nx);let fg:cN M 64 {rL pl with tz:=tz}:=Ws.tz bN bS;erw[ww,ia,xs,Z,.inr (Ba.go pV),λWl HV kA=>?_,B,bM Z,λFl O5 yt=>?_];let UT:=pV.ao kA.ss;let US:=UT.ao yt.ss;let R18:=NU.ss fg.row.no (kA.ss.ao yt.ss);let nW:H Wl=none:=aI.none pV kA.no;let nF:H Fl=none:=aI.none UT yt.no;let qW:q≠Wl:=λz=>by let(_,e',_):=NU.qu;have:=kA.no;rw[<-z,e']at this;cases this
  let qF:q≠Fl:=λz=>by let(_,e',_):=(NU.ss fg.row.no kA.ss).qu;have:=yt.no;rw[<-z,e']at this;cases this
  let WF:Wl≠Fl:=λz=>by have:=yt.no;rw[<-z,kA.at']at this;cases this
  let aar:jI M tz pl ds os 0 0 0 {rL pl with tz:=tz} [] (λ_=>none):=#[#[wP,Z,.inl rfl,Z,aZ _,fR _,λ_=>rfl,λ_=>rfl],wP,(λc e du he=>by simp at he),(λ_ _=>rfl),(λc b hc=>absurd hc (EX _)),(λb hb=>a0b cx.row b (gA hb)),(λq hq=>by cases hq),(λns sp e=>by cases e),(λ_ _ _ e=>by cases e)];let g0:G5 C M tz pl ds os p x Wl Fl H 64 O5 q {rL pl with tz:=tz} 0 []:=#[#[bg,.fK bg US,R18,#[xs,yt.ss _ _ kA.at',aH.sK US _ dP],#[[],yt.at',cQ],nx,a8y,nW,nF,qW,qF,WF],fg,#[0,0,_,aar],Z];erw[60,Z,aw,aw,sQ (Pv:=λc O lZ=>∃v8 v9,O=[some (.ref p),some mv,some gL,some (.ref ia),some (.int tz),some (.ref x),some (.ref Wl),some (.ref Fl),v8,v9,none,none]/\∃q S m es,G5 C M tz pl ds os p x Wl Fl H (64+10*c) lZ q S m es) ?_ ?_ ?_]
  ·erw[wT,xz,xz,g0]
  ·rintro c O lZ hc ⟨v8,v9,rfl,q,S,m,es,g⟩
   erw[gH ?_];intro E1;let kP:c<60:=by simpa using hc
   let hD:64+10*c<=1490:=by lia
   erw[ww,p,6,Z,g.w.bg,aw,aw,λkd zH k0 k1 Bz=>?_];let g1:=g.draw cx Bz;let up:∀{H':Hp}{q:Addr}{S:bT}{m:Nat}{es:AC},G5 C M tz pl ds os p x Wl Fl H (64+10*c) H' q S m es->G5 C M tz pl ds os p x Wl Fl H (64+10*(c+1)) H' q S m es:=λg=>#[g.w,g.ok.up hD,g.inv,g.no];let(zu,_,_,_,_,uX,_):=id g1.w.run.ob;erw[Wk,wv,B,eV (λhc1=>?_) (λhc1=>?_)]
   ·let(ws,ew,rws):=g1.w.wl
    erw[ww,Wl,ws,Z,.inl (aK.of ew),jp,B,eV (λjn=>?_) (λjn=>?_)]
    ·let hlen:(⇑ws:Int)>0:=kg jn
     obtain⟨y,ys,rfl⟩:∃y ys,ws=y::ys:=by cases ws with |nil=>simp at hlen |cons y ys=>erw[y,ys,Z]
     let(w2,d,ed,JA):=g1.w.pop g1.ok.row.no nD g1.no ew;let(_,_,_,inv1):=g1.inv;let(o,eo,it,CO,yZ):=YF cx inv1.i2 ed;erw[ww,x,zu,ww,uX,Z,?_,B,ww,.inl #[Z,_,aK.of ew],Wl,_,0,0,y,wP,ew,aw,aw,a4L _,Z,?_];let vW:dG zH (_L.bn zH Wl (.bi ys)):=.bn ew trivial;erw[x,q,M,64+10*c,S,y,d,o,Z,w2.run,g1.ok,j8,RD.v vW _ it.it.no JA,it,CO,yZ,λH3 R3 b3=>?_];let CS:=g1.ok.zf it yZ;erw[wT,q,pI S d o,m+1,es,up #[w2.mv #[b3,.inl Z] R3 nD g1.no,CS,#[xz,_,inv1.zf j8 g1.ok cx.row.len ed eo CS],g1.no]]
    ·erw[ww,.inl #[_,_,Z,Z,_,Z,?_]]
     erw[eV (λ_=>?_) (λ_=>?_)]
     ·erw[ww,x,zu,ww,uX,Z,x,q,M,64+10*c,S,Z,g1.w.run,g1.ok,j8,λH3 R3 b3=>?_]
      let(_,_,_,inv1):=g1.inv;erw[wT,q,qz M S,m,es,g1.w.mv #[b3.sK (by simp),.inl rfl] R3 nD g1.no,g1.ok.hold j8 hD,#[xz,_,inv1.hold j8 g1.ok],g1.no]
     erw[ww,.inl #[_,_,Z,Z,_,Z,?_],B,eV (λ_=>?_) (λ_=>?_)]
     ·erw[ww,x,zu,ww,uX,Z,x,q,M,64+10*c,S,Z,g1.w.run,g1.ok,λH3 R3 b3=>?_]
      let(_,_,_,inv1):=g1.inv;erw[wT,q,{S with stp:=none},m,es,up #[g1.w.mv #[b3.sK (by simp),.inl rfl] R3 nD g1.no,g1.ok.go,#[xz,_,inv1.go none (λ_ _ _ e=>by cases e)],g1.no]]
     let(us,eu,ru):=g1.w.fl;erw[ww,.inl #[Z,_,aK.of eu],?_,B,ww,x,zu,ww,uX,Z,?_,B,ww,p,9,Z,g1.w.bg,aw,aw,λn H6 n0 n1 b6=>?_];let g6:=g1.draw cx b6;erw[wr,x,q,M,64+10*c,S,1+n,Z,g6.w.run,g6.ok,j8,zZ aw n0,_S.zC n1 aw,λl ys fs S' q' H7 nl dl rd run len _ R7 qk lq=>?_];let(nf,Kn,w7,gg):=g6.run cx run qk R7 rd;let(Ca,DW,JG):=w7.fl;let ly:=⇑rd;let lu:=⇑JG;let(_,_,_,Lq):=g6.inv;let l2:=Lr cx Lq;let nL:sizeLine=16777216:=by decide
     erw[Fl,l,Ca,ys,wP,DW,dl,aE,?_,B,wT,q',S',m,es++fs,up (gg Ca DW)]
   ·erw[ww,.inl #[_,_,Z,Z,_,Z,?_]]
    erw[eV (λ_=>?_) (λ_=>?_)]
    ·erw[ww,x,zu,ww,uX,Z,x,q,M,64+10*c,S,Z,g1.w.run,g1.ok,j8,λH3 R3 b3=>?_]
     let(_,_,_,inv1):=g1.inv;erw[wT,q,qz M S,m,es,g1.w.mv #[b3.sK (by simp),.inl rfl] R3 nD g1.no,g1.ok.hold j8 hD,#[xz,_,inv1.hold j8 g1.ok],g1.no]
    erw[ww,.inl #[_,_,Z,Z,_,Z,?_],B,eV (λ_=>?_) (λ_=>?_)]
    ·erw[ww,x,zu,ww,uX,Z,x,q,M,64+10*c,S,Z,g1.w.run,g1.ok,λH3 R3 b3=>?_]
     let(_,_,_,inv1):=g1.inv;erw[wT,q,{S with stp:=none},m,es,up #[g1.w.mv #[b3.sK (by simp),.inl rfl] R3 nD g1.no,g1.ok.go,#[xz,_,inv1.go none (λ_ _ _ e=>by cases e)],g1.no]]
    let(us,eu,ru):=g1.w.fl;erw[ww,.inl #[Z,_,aK.of eu],?_,B,ww,x,zu,ww,uX,Z,?_,B,ww,p,9,Z,g1.w.bg,aw,aw,λn H6 n0 n1 b6=>?_];let g6:=g1.draw cx b6;erw[wr,x,q,M,64+10*c,S,1+n,Z,g6.w.run,g6.ok,j8,zZ aw n0,_S.zC n1 aw,λl ys fs S' q' H7 nl dl rd run len _ R7 qk lq=>?_];let(nf,Kn,w7,gg):=g6.run cx run qk R7 rd;let(Ca,DW,JG):=w7.fl;let ly:=⇑rd;let lu:=⇑JG;let(_,_,_,Lq):=g6.inv;let l2:=Lr cx Lq;let nL:sizeLine=16777216:=by decide
    erw[Fl,l,Ca,ys,wP,DW,dl,aE,?_,B,wT,q',S',m,es++fs,up (gg Ca DW)]
  rintro O lZ ⟨v8,v9,rfl,q,S,m,es,g⟩;let g:G5 C M tz pl ds os p x Wl Fl H 664 lZ q S m es:=g;let(i',k',sq0,inv):=g.inv;let(ws,ew,rws):=g.w.wl;let pD:=inv.i2.ml;let lws:=⇑rws;rw[tO]at lws;erw[ww,Wl,Z,#[_,aK.of ew],Bk (K:=K) (a:=Wl) (xs:=ws) (λc O lZ=>∃v10,O=[some (.ref p),some mv,some gL,some (.ref ia),some (.int tz),some (.ref x),some (.ref Wl),some (.ref Fl),v8,v9,v10,none]/\lZ Wl=some (.bi ws)/\∃S,W4 C M ds p x Wl Fl H lZ q S m es/\cN M 664 S/\jI M tz pl ds os (m+c) i' k' S es sq0) #[ww,ew,S,g.w,g.ok,inv] (λc O lZ _ h=>by let(_,_,e,_):=h;erw[aK.of e]) ?_ ?_]
  ·rintro c y O lZ hy ⟨v10,rfl,Mz,S,rE,AI,Du⟩
   erw[gH ?_];intro E2;let(ws',zi,a5g):=rE.wl;rw[Mz]at zi;cases zi;let(d,ed,JA):=a5g.get' c hy;rw[xC]at ed;let(o,eo,it,CO,yZ):=YF cx Du.i2 ed;let(MZ,_,_,_,_,MW,_):=id rE.run.ob;erw[ww,x,MZ,ww,MW,WP,x,q,M,664,S,y,d,o,Z,rE.run,AI,j8,JA,it,CO,yZ,λzH NT Bz=>?_];let a93:Mv x q lZ q zH:=#[Bz,.inl Z];let CS:=AI.zf it yZ;erw[ww,Bz _ _ Mz (by simp;erw[(rE.xl).1.symm,rE.qw.symm]),pI S d o,rE.mv a93 NT nD g.no,CS,Du.zf j8 AI cx.row.len ed eo CS]
  rintro O lZ ⟨v10,rfl,Mz,S,rE,AI,Du⟩;let emn:m+⇑ws=os.length:=by lia
  rw[emn]at Du;let(MZ,_,_,_,_,MW,_):=id rE.run.ob;erw[ww,x,MZ,ww,MW,Z,x,q,M,664,S,Z,rE.run,AI,λzH NT Bz=>?_];let xF:=rE.mv (S':={S with stp:=none}) #[Bz.sK (by simp),.inl rfl] NT nD g.no;let AH:=AI.go;let XN:=Du.go none (λ_ _ _ e=>by cases e);generalize hS0:({S with stp:=none}:bT)=S0 at xF AH XN;let sn0:S0.stp=none:=by rw[<-hS0]
  let(N0,_,_,_,_,uX,_):=id xF.run.ob;let told:∀{fs:AC}{S':bT},Run M S0 fs S'->∃i k sq,jI M tz pl ds os ⇑os i k S' (es++fs) sq/\⇑(es++fs)<=2100/\¬Halt S'.pc S'.stp:=by intro fs S' run;let(i2,k2,Ac,inv2):=V0 j8 cx.row cV run AH XN;erw[i2,k2,Ac,inv2,Lr cx inv2,λh=>h.1 (run.stp sn0)]
  erw[ww,x,N0,ww,uX,Z,x,q,M,664,S0,100,Z,xF.run,AH,j8,aw,aw,λl1 y1 fs1 S1 q1 H21 sj wK xX V3 ajQ aeD R21 a92 lq1=>?_];let w21:=xF.mv a92 R21 nD g.no;let l1n:H l1=none:=by cases e':H l1 with |none=>rfl |some o'=>
   by_cases hp:l1=p
   ·let(c,mm,eb,_):=xF.bg
    rw[hp,eb]at sj;cases sj
   ·have:=xF.bw.ss _ _ hp e'
    rw[sj]at this;cases this
  let l1F:l1≠Fl:=λz=>by let(us,eu,_):=xF.fl;rw[z,eu]at sj;cases sj
  erw[λO qU=>∃q' S' fs vz,O=[some (.ref p),some mv,some gL,some (.ref ia),some (.int tz),some (.ref x),some (.ref Wl),some (.ref Fl),v8,v9,v10,vz]/\W4 C M ds p x Wl Fl H qU q' S' m (es++fs)/\Run M S0 fs S'/\S'.os=[],zn]
  ·erw[lW ?_];intro E3
   erw[rC (λO qU=>∃q' S' fs gs l ys,O=[some (.ref p),some mv,some gL,some (.ref ia),some (.int tz),some (.ref x),some (.ref Wl),some (.ref Fl),v8,v9,v10,some (.ref l)]/\W4 C M ds p x Wl Fl H qU q' S' m (es++fs)/\Run M S0 (fs++gs) S'/\qU l=some (.bi ys)/\aH K qU ys gs/\(gs=[]->S'.os=[])/\l≠Fl/\H l=none) (λ_ qU=>match qU Fl with|some (.bi us)=>5000-⇑us|_=>0) ?_ ?_ ?_]
   ·erw[q1,S1,[],fs1,l1,y1,Z,by rw[o8];erw[w21],V3,wK,xX,λz=>?_,l1F,l1n]
    rcases aeD with h|h|h
    ·rw[z]at h;simp at h
    ·erw[h]
    ·let(_,_,_,_,_,nh):=told V3
     exact(nh h).elim
   ·rintro O qU ⟨q',S',fs,gs,l,ys,rfl,C8,run,dl,rl,hgs,lF,ln⟩
    let(i2,k2,Ac,inv2,Xu,nh2):=told run;let oy:=run.ok AH j8;let nI:=run.no AH j8;let noF:bR fs=true:=cA.mpr λd hd=>cA.mp nI d (OI _ hd);let noG:bR gs=true:=cA.mpr λd hd=>cA.mp nI d (iZ _ hd);let Wy:bR (es++fs)=true:=cA.mpr λd hd=>(kj.mp hd).elim (cA.mp g.no d) (cA.mp noF d);rw[cH,cH]at Xu;let ly:=⇑rl;erw[ww,bM Z,λle HU yo=>?_];let okl:eX 8 (.list gs):=iP.bi (n:=7) λd hd=>a5k run AH j8 d (iZ _ hd);erw[.inr #[.list gs,.list [],rP (aK.of (yo.ss _ _ dl)) (aH.sK yo.ss _ rl),rP (aK.of yo.at') cQ,mh okl,Z,wv]];rw[aew];let IL:=C8.ss yo.ss oy.row.no nD Wy;let af1:=yo.ss _ _ dl;let a5N:=aH.sK yo.ss _ rl;cases hf:gs with |nil=>subst hf;erw[aX ?_];rw[o8]at run;erw[q',S',fs,ww,IL,run,hgs Z] |cons f0 fr=>
     rw[<-hf];let eZ:gs≠[]:=by rw[hf];simp
     let wg:0<⇑gs:=F1.mpr eZ;rw[show(!gs.isEmpty)=true by rw[hf];rfl];erw[bB ?_];let nL:sizeLine=16777216:=by decide
     let(us,eu,ru):=IL.fl;let lu:=⇑ru;rw[cH]at lu;erw[ww,.inl #[Z,_,aK.of eu],ww,Fl,l,us,ys,wP,eu,af1,aE,?_];let tY:=IL.ext oy.row.no nD Wy noG eu a5N;let MB:(_L.bn HU Fl (.bi (us++ys))) Fl=some (.bi (us++ys)):=bQ;rw[IC]at tY;generalize _L.bn HU Fl (.bi (us++ys))=EK at tY MB⊢;let(aeU,_,_,_,_,e25,_):=id tY.run.ob;erw[ww,x,aeU,ww,e25,Z,x,q',M,664,S',100,Z,tY.run,oy,j8,aw,aw,λl2 y2 hs S2 q2 O4 uy Ee rQ Cz ajP aeC R26 WT mD=>?_];let yj:bR (es++(fs++gs))=true:=cA.mpr λd hd=>(kj.mp hd).elim (cA.mp g.no d) (cA.mp nI d);let w26:=tY.mv WT R26 nD yj;let run':=run.ao Cz;let aet:O4 Fl=some (.bi (us++ys)):=WT.but _ _ MB (by simp;erw[(tY.xl).2.1.symm,tY.qf.symm]);erw[#[q2,S2,fs++gs,hs,l2,y2,Z,w26,run',Ee,rQ,λz=>?_,λz=>?_,?_],?_]
     ·rcases aeC with h|h|h
      ·rw[z]at h;simp at h
      ·erw[h]
      ·let(_,_,_,_,_,nh):=told run'
       exact(nh h).elim
     ·rw[z,MB]at uy;cases uy
     ·cases e':H l2 with |none=>rfl |some o'=>
      by_cases hp:l2=p
      ·let(c,mm,eb,_):=tY.bg
       rw[hp,eb]at uy;cases uy
      ·have:=tY.bw.ss _ _ hp e'
       rw[uy]at this;cases this
     ·let(us0,YT,ru0):=C8.fl
      have:=yo.ss _ _ YT;rw[eu]at this;cases this;show(match O4 Fl with|some (.bi us)=>5000-⇑us|_=>0)<(match qU Fl with|some (.bi us)=>5000-⇑us|_=>0);rw[aet,YT];show 5000-⇑(us++ys)<5000-⇑us;rw[cH]
      lia
   ·rintro O H6 Q1 Q2 hq ⟨v1,f1,sm,h⟩
    erw[v1,f1,sm,λe' H' n'=>?_];rcases h e' H' n' with⟨i1,i2,g1,g2,b1,g3,g4⟩|⟨d1,d2,g1,g2,g3,g4,b1,g5,g6⟩
    ·erw[.inl #[i1,i2,g1,g2,b1,g3,hq _ _ g4]]
    ·erw[.inr #[d1,d2,g1,g2,g3,g4,b1,g5,hq _ _ g6]]
  rintro O qU ⟨q',S',fs,vz,rfl,C8,run,lP⟩;let(i2,k2,Ac,inv2,Xu,nh2):=told run;let tp:=inv2.end cx.row lP;let(us,eu,ru):=C8.fl;erw[ww,kk _ (es++fs) Ac _ (rP (aK.of eu) ru) ?_ C8.bw];rw[<-hM]at tp;erw[tp]
end
end _c
set_option maxHeartbeats 1000000
namespace _c
universe _L _d _l _C _P
open _O (oR na dL iN ce iF sB dO OkI OkIs)
section
def QD:bA ["self","at","why"] ["self","at","why"] (aY Jm):=bJ aP
def D7(x y:V):List (Str×V):=jh "why" y [("at",x)]
inductive Jd|mk ex C x y(_:vs=[.ref ex,x,y])(_:H ex=some (.ext (vm ex C)))(_:BB K C "at")(_:BB K C "why")(_:∀dx,H dx=none->dx≠ex->Q .bP (_L.bn (_L.bn (_L.bn H dx (.xd [("at",x)])) ex (.ext (oS ex C dx))) dx (.xd (D7 x y))))
def a7p(F:nU K "__init__" "NoTape.__init__" Jm f fd):iX P w K mg aB je 1 f fd ["self","at","why"] Jd:=by
 erw[F.ok QD (λvs H Q E h=>?_) (λaO A outer s H vs Q E hr h=>?_)]
 ·let(ex,C,x,y,rfl,_):=h
  rfl
 ·let(ex,C,x,y,rfl,e1,xc,xw,k):=h
  let nd:=QD.nd;erw[_,%[a6q K Z o0 u8,a6p K Z o0 w4|aG],?_,B,wp,ex,C,Z,e1,xc,λdx fd ne=>#[wp,ex,C,dx,ww,bQ,by rw[aU ne];erw[bQ],xw,(by show 1<1000;decide),k dx fd ne]]
inductive qZ(ti:Int)(du e:aj):Option Rat->Nat->Prop |eU:e=du->iM e->qZ ti du e none 0 |stp (zs:Ar)(top q:Rat):du=kG zs top->e=fq ti zs q->0<q->Bd 1900 q->Bd 2000 top->⇑zs<=1000->qZ ti du e (some q) (if top<q then 3 else 0)
structure lX(ti tz:Int)(ds:AC)(os:BT)(es:AC)(sq:Nat->Option Rat)(fa:Nat->Nat):Prop where
 ent:∀k e du,es[k]? =some e->(dF tz ds os ⇑os)[k]? =some du->qZ ti du e (sq k) (fa k)
 lj:sq ⇑es=none
 Bm:fa ⇑es=0
 small:⇑es<=1000000
def gF(r f:Int)(bd:Da)(n m:Nat)(sq:Nat->Option Rat)(fa:Nat->Nat)(k:Nat):Nat:=if k=m/\m<n then 1 else if k=n/\n<m then 1 else if fa k=0 then(if jj r f (bd.getD k 0) (fS sq k) (sq k)=true then 0 else 4)else fa k
def HR(n:Nat)(ft:Nat->Nat):Option (Nat×Nat)->Prop |none=>∀k,k<=n->ft k=0 |some (k,y)=>k<=n/\ft k=y/\y≠0/\∀i,i<k->ft i=0
theorem Xo(ft:Nat->Nat):∀n,∃res,HR n ft res
 |0=>by
  by_cases h:ft 0=0
  ·erw[none,λk hk=>by rw[Nat.le_zero.mp hk];erw[h]]
  ·erw[some (0,ft 0),aZ _,Z,h,λi hi=>absurd hi (EX _)] |n+1=>by let(res,h):=Xo ft n;cases res with |some p=>let(k,y):=p;erw[some (k,y),Iv h.1,h.2.1,h.2.2] |none=>
   by_cases hn:ft (n+1)=0
   ·erw[none,λk hk=>?_]
    rcases BP n k with h1|h1
    ·rw[show k=n+1 from iY hk h1];erw[hn]
    ·erw[h k h1]
   ·erw[some (n+1,ft (n+1)),aZ _,Z,hn,λi hi=>h i (ki hi)]
def Xp(h:HR n ft res){i y:Nat}(hi:i<=n)(pre:∀k,k<i->ft k=0)(e:ft i=y)(hy:y≠0):res=some (i,y):=by cases res with |none=>erw[absurd (e▸h i hi) hy] |some p=>
 let(k,z):=p;let(h1,h2,h3,h4):=h;have:k=i:=by
  rcases Ox k i with a|a|a
  ·erw[absurd (h2▸pre k a) h3]
  ·erw[a]
  ·erw[absurd (e▸h4 i a) hy]
 subst this;rw[<-h2,e]
def Xn(h:HR n ft res)(pre:∀k,k<=n->ft k=0):res=none:=by cases res with |none=>rfl |some p=>let(k,z):=p;erw[absurd (h.2.1▸pre k h.1) h.2.2.1]
def K2{ft:Nat->Nat}{i:Nat}(h:∀k,k<i->ft k=0)(e:ft i=0):∀k,k<i+1->ft k=0:=λk hk=>by
 rcases BP k i with a|a
 ·erw[h k a]
 ·rw[show k=i from iY (ki hk) a];erw[e]
def dw(tz:Int)(ds:AC)(os:BT):Nat:=(dF tz ds os ⇑os).length
def EG(r f j tz:Int)(ds:AC)(os:BT)(es:AC)(sq:Nat->Option Rat)(fa:Nat->Nat):Option (Nat×Nat)->Prop:=HR (min ⇑es (dw tz ds os)) (gF r f (cK j tz os) (dw tz ds os) ⇑es sq fa)
inductive ahL(C:Addr)(vs:AT)(H:Hp)(Q:VK)(E:XK):Prop |mk m iv tz tv rs r f j t ds os es sq fa res(_:vs=[m,iv,.int tz,tv])(_:RD K H m (fC rs r f j t))(_:fQ rs r f j t)(_:RD K H iv (.tuple ds))(_:cj ⇑rs ds os)(_:⇑ds<=30)(_:10<=tz)(_:tz<=200)(_:RD K H tv (.list es))(_:lX t tz ds os es sq fa)(sM:EG r f j tz ds os es sq fa res)(zb:(res=none->∀H',aI H H'->Q .bP H'))(za:∀k y,res=some (k,y)->∀H' dx,aI H H'->H' dx=some (.xd (D7 (.int (k:Nat)) (.int (y:Nat))))->E (.ref C) (some dx) H')
def Qm(C:Addr):Sp:=λvs H Q E=>ahL C vs H Q E
def lX.Kp{ti tz:Int}{ds:AC}{os:BT}{es:AC}{sq:Nat->Option Rat}(tp:lX ti tz ds os es sq fa):∀c,c<⇑es->c<dw tz ds os->BF 1900 (sq c):=λc hc hd=>by obtain⟨e,ee⟩:∃e,es[c]? =some e:=#[_,bf hc];obtain⟨du,ed⟩:∃d,(dF tz ds os ⇑os)[c]? =some d:=#[_,bf hd];have:=tp.ent c e du ee ed;generalize sq c=s at this;generalize fa c=y at this;cases this with |eU _ _=>trivial |stp _ _ _ _ _ _ b _ _=>erw[b]
def lX.Kc{ti tz:Int}{ds:AC}{os:BT}{es:AC}{sq:Nat->Option Rat}(tp:lX ti tz ds os es sq fa):∀c,c<=⇑es->c<=dw tz ds os->BF 1900 (fS sq c):=λc hc hd=>by cases c with |zero=>trivial |succ c=>erw[tp.Kp c hc hd]
def aI.refused{H H5:Hp}{C ex dx:Addr}{x y:V}(Cy:aI H H5)(fx:H5 ex= .none)(Mg:H5 dx= .none)(_:dx≠ex):aI H (_L.del (_L.bn (_L.bn (_L.bn (_L.bn H5 ex (.ext (vm ex C))) dx (.xd [("at",x)])) ex (.ext (oS ex C dx))) dx (.xd (D7 x y))) ex):=λb o e=>by let e5:=Cy b o e;let nb:b≠ex:=e9 e5 fx;let hW:b≠dx:=e9 e5 Mg;rw[zv nb,aU hW,aU nb,aU hW,aU nb];erw[e5]
abbrev a53:=top 76
def RN:bA ["machine","items","rate","thing","due","bounds","ended","at","expected","why","begun"] ["machine","items","rate","thing"] (aY a53):=bJ aP
def a7V{C:Addr}(AA:a0q)(NC:NtC K mg C fI)(abz:a0n "fault_of_entry" 5 Qt):HW P w K mg aB "look" 10 (Qm C):=by
 let(fd,FI):=NC.fn;let Bi:=NC.e;let Bg:iX P w K mg aB je 1 fI fd ["self","at","why"] Jd:=a7p FI;let Bj:Binds K fd ["self","at","why"] []:=FI.binds (λ_ _ _ _ _ _=>ka λ_ _ _=>rfl);let Bh:=NC.f;erw[AA.adp.abT RN (λvs H Q E h=>?_) (λ_ _ _ _ _ _=>wX λ_ _ _ _=>rfl) (λfa aO A outer s H vs Q E hr h=>?_)]
 ·let(m,iv,tz,tv,rs,r,f,j,t,ds,os,es,sq,fa,res,rfl,_):=h
  rfl
 ·let(m,iv,tz,tv,rs,r,f,j,t,ds,os,es,sq,fa,res,rfl,rm,aJ,ri,row,hz,bN,bS,rt,tp,lk,kq,ke):=h
  let nd:=RN.nd;erw[_,%[bp (dN (cg (dk K AA.B %[3,cS (x:="list") (v:=.ty "list") Z (AA.B.at "list") jt rfl|az]))) (aG (Au (λ_ _ _ _ _ _ I a b q=>A4 I a b q) Bi EU hr.hd Bg (hr.sK aw) Bj Bh Z %[aA,dY (x:="NOT_DUE") Z AA.DR|az])) bE,pS 4 nd (pf (a8e AA) hr %[1,2|az]),pS 5 nd (pf (a8i AA) hr %[0,1,2|az]),pS 6 nd gM,(gh PassesOwn.leaving Z (Ax K Z true Z (AA.B.at "enumerate") %[4|az]) (cX K rfl (n:=2) rfl %[ba 7 nd,ba 8 nd|cW]) %[bp (bL (cJ K Z hr.units) a0g (dC K AA.B %[3|az]) (bc _)) (aG (Au (λ_ _ _ _ _ _ I a b q=>A4 I a b q) Bi EU hr.hd Bg (hr.sK aw) Bj Bh Z %[7,dY (x:="NOT_DUE") Z AA.DR|az])) bE,pS 9 nd (pf abz hr %[0,8,px K L2 a0g|az]),bp (bL qg a0l gM (bc _)) (aG (Au (λ_ _ _ _ _ _ I a b q=>A4 I a b q) Bi EU hr.hd Bg (hr.sK aw) Bj Bh Z %[7,9|az])) bE,pS 10 nd (pf (a7y AA) hr %[px K L2 a0g|az]),bp (dN (cg (pf (Wn AA) hr %[0,px K P3 a0g,6,10|az]))) (aG (Au (λ_ _ _ _ _ _ I a b q=>A4 I a b q) Bi EU hr.hd Bg (hr.sK aw) Bj Bh Z %[7,dY (x:="NO_BORDER") Z AA.Ys|az])) bE,pS 6 nd a0m|aG]),(bp (bL qh (dC K AA.B %[3|az]) (dC K AA.B %[4|az]) (bc _)) (aG (Au (λ_ _ _ _ _ _ I a b q=>A4 I a b q) Bi EU hr.hd Bg (hr.sK aw) Bj Bh Z %[dC K AA.B %[4|az],dY (x:="NOT_DUE") Z AA.DR|az])) bE),(bp (dN (cg (pf (Wn AA) hr %[0,px K P3 (rX rH aA),6,gM|az]))) (aG (Au (λ_ _ _ _ _ _ I a b q=>A4 I a b q) Bi EU hr.hd Bg (hr.sK aw) Bj Bh Z %[dC K AA.B %[4|az],dY (x:="NO_BORDER") Z AA.Ys|az])) bE)|aG],?_];let ll:=row.len;let lr:=aJ.len;let Nt:=a0c aJ row bN bS;erw[ww,.inl #[xz,"list",true,Z,rt.ty,aw,(by decide:j6 "list" "list"=true),ww,aX ?_],B,wp,iv,tz,⇑rs,ds,os,Z,ri,row,_S.kM lr aw aw,hz,bN,bS,λlD yD H1 nD dD rD s1=>?_,B,ZB,m,iv,tz,rs,r,f,j,t,ds,os,Z,RD.sK s1 _ rm,aJ,RD.sK s1 _ ri,row,hz,bN,bS,λlB yB H2 nB dB rB s2=>?_];let gK:=s1.ao s2;let(ta,xt,rfl,ht,iH):=rt.lst_inv;let KJ:=⇑iH;let mC:⇑yD=dw tz ds os:=⇑rD;let yu:=⇑rB;let wa:⇑(cK j tz os)=dw tz ds os+1:=by unfold cK;rw[cH,lV row _ (aZ _)];rfl
  rw[bC]at yu;let yu:⇑yB=dw tz ds os+1:=by rw[yu];erw[wa]
  let bv:∀(c:Nat)(u:V)(H':Hp),yB[c]? =some u->aI H2 H'->∃b,(cK j tz os)[c]? =some b/\(cK j tz os).getD c 0=b/\bj H' u b/\Bd 1900 b:=by intro c u H' e sm;let(d1,e1,r1):=rB.get' c e;rw[bV]at e1;let(b,eb,rfl):=zR.mp e1;let eb:(cK j tz os)[c]? =some b:=eb;erw[b,eb,by rw[vx,eb];rfl,(jP r1).go sm,Nt b (gA eb)]
  let oq:∀(i y:Nat),i<=⇑es->i<=dw tz ds os->(∀k,k<i->gF r f (cK j tz os) (dw tz ds os) ⇑es sq fa k=0)->gF r f (cK j tz os) (dw tz ds os) ⇑es sq fa i=y->y≠0->∀(H5:Hp)(iv yv:V),iv= .int (i:Nat)->yv= .int (y:Nat)->aI H H5->∀ex,H5 ex=none->Jd [.ref ex,iv,yv] (_L.bn H5 ex (.ext (vm ex C))) (λv H2=>v= .bP/\∃dx,H2 ex=some (.ext (oS ex C dx))/\E (.ref C) (some dx) (_L.del H2 ex)) (λ_ _ _=>False):=by
   rintro i y GY uN pre e hy H5 _ _ rfl rfl s5 ex fx;let er:=Xp lk (Nat.le_min.mpr #[GY,uN]) pre e hy;erw[ex,C,wT,bQ,NC.x,NC.y,λdx YG ne=>#[Z,dx,by rw[aU ne.symm];erw[bQ],?_]];let Mg:H5 dx=none:=by rw[aU ne]at YG;erw[YG]
   erw[ke i y er _ dx (aI.refused s5 fx Mg ne) ?_];rw[zv ne];erw[bQ]
  erw[ww,lD,Z,#[_,aK.of (s2 _ _ dD)],Bl (K:=K) (b:=true) (a:=lD) (xs:=yD) (λi O H3=>aI H2 H3/\i<=⇑es/\(∀k,k<i->gF r f (cK j tz os) (dw tz ds os) ⇑es sq fa k=0)/\∃ev v1 v2 v3 v4,mK H3 ev (fS sq i)/\O=[some m,some iv,some (.int tz),some (.ref ta),some (.ref lD),some (.ref lB),some ev,v1,v2,v3,v4]) #[aI.refl _,fR _,λ_ h=>absurd h (EX _),.bP,none,none,none,none,wP] (λi O H3 _ h=>aK.of (h.1 _ _ (s2 _ _ dD))) ?_ ?_]
  ·rintro i y O H3 hy ⟨s3,abo,pre,ev,v1,v2,v3,v4,oe,rfl⟩ T H4 n4
   erw[gH ?_];intro E1;let yQ:i<⇑yD:=(ck.mp hy).1;let(du,kE,Vl):=rD.get' i hy;let gC:=s3.ao n4.ss;let gW:=gK.ao gC;let vg:∀{α:Type}{l:List α}{u:α},l[i]? =some u->fj l (i:Int)=some u:=λh=>cn (cf _) (by simpa using h);obtain⟨ub,oK⟩:∃u,yB[i]? =some u:=#[_,bf aE];erw[T,ww,aW.of n4.at',wE,B,wp,ta,ww,.inl (ht.go gW),.inl #[_,_,Z,Z,_,Z,?_]];by_cases kD:i=⇑es
   ·rw[cy (show((i:Int)=(⇑xt:Int)) by lia)]
    erw[bB #[ww,bM Z,λex fx=>?_],B,oq i 1 aE (cw (jf yQ mC)) pre (aR #[kD,jf (_S.Bq yQ kD) mC]) aw H4 _ _ Z Z gW ex fx]
   rw[dh (show¬((i:Int)=(⇑xt:Int)) by lia)];erw[aX ?_];let kD:i<⇑es:=nX abo kD;obtain⟨e,ee⟩:∃e,es[i]? =some e:=#[_,bf kD];let(x,ex,rx):=iH.get i ee;let ent:=tp.ent i e du ee kE;let gm:gF r f (cK j tz os) (dw tz ds os) ⇑es sq fa i=if fa i=0 then(if jj r f ((cK j tz os).getD i 0) (fS sq i) (sq i)=true then 0 else 4)else fa i:=by unfold gF;rw[aV aE,aV aE]
   let pb:=tp.Kc i aE (cw (jf yQ mC));let ob:=tp.Kp i aE (jf yQ mC);erw[ZB,ww,.inl #[ta,xz,x,wP,ht.go gW,vg ex,m,y,x,rs,r,f,j,t,Z,RD.sK gW _ rm,aJ,?_]];generalize hs:sq i=sqi at ent;generalize hf:fa i=fai at ent;cases ent with
   |eU h1 eU=>subst h1;erw[.inl #[_,RD.sK (s2.ao gC) _ Vl,RD.sK gW _ rx,eU,λH5 s5=>?_],B,ww,WP,aX ?_];let lA:=gW.ao s5;erw[wp,.inl #[ta,xz,x,wP,ht.go lA,vg ex,x,Z,.inl #[_,RD.sK lA _ rx,eU,?_]]];let(b,eb,Ea,Rb,bb):=bv i ub H5 oK (gC.ao s5);rw[hf,hs,Ea,aR rfl]at gm;erw[ZB,.inl #[lB,xz,ub,wP,aK.of ((gC.ao s5) _ _ dB),vg oK,wp,m,ub,ev,.bP,rs,r,f,j,t,b,fS sq i,none,Z,RD.sK lA _ rm,aJ,Rb,bb,oe.go (n4.ss.ao s5),pb,Z,trivial,λH6 s6=>?_]];cases mt:jj r f b (fS sq i) none with |true=>rw[mt,aR rfl]at gm;erw[ww,aX #[ww,(gC.ao s5).ao s6,kD,K2 pre gm,.bP,xz,xz,by show mK H6 .bP (sq i);rw[hs];rfl,Z]] |false=>rw[mt,aV aw]at gm;erw[ww,bB #[ww,bM Z,λex fx=>?_],B,oq i 4 aE (cw (jf yQ mC)) pre gm aw H6 _ _ Z Z (lA.ao s6) ex fx]
   |stp zs top q h1 h2 q0 bq bt lz=>
    subst h1 h2;let(k1,k2,k3,k4):=Cf (ti:=t) aJ.t1.1 aJ.t1.2 q0 (bq.sK aw);erw[.inr #[zs,top,ku t q,q,RD.sK (s2.ao gC) _ Vl,RD.sK gW _ rx,lz,bt,bq.sK aw,q0,k1,k2,k3,k4,λH5 s5=>?_]];let lA:=gW.ao s5;by_cases bu:top<q
    ·rw[aR bu]
     rw[aR bu]at hf;rw[hf,aV aw]at gm;erw[ww,WP,bB ?_,B,wp,bM Z,λex fx=>?_,B,oq i 3 aE (cw (jf yQ mC)) pre gm aw H5 _ _ Z Z lA ex fx]
    rw[aV bu];rw[aV bu]at hf;erw[ww,WP,aX ?_,B,wp,.inl #[ta,xz,x,wP,ht.go lA,vg ex,x,Z,.inr #[zs,_,q,RD.sK lA _ rx,λgv Rg=>?_]]];let(b,eb,Ea,Rb,bb):=bv i ub H5 oK (gC.ao s5);rw[hf,hs,Ea,aR rfl]at gm;erw[ZB,.inl #[lB,xz,ub,wP,aK.of ((gC.ao s5) _ _ dB),vg oK,wp,m,ub,ev,gv,rs,r,f,j,t,b,fS sq i,some q,Z,RD.sK lA _ rm,aJ,Rb,bb,oe.go (n4.ss.ao s5),pb,Rg,bq,λH6 s6=>?_]];cases mt:jj r f b (fS sq i) (some q)with |true=>rw[mt,aR rfl]at gm;erw[ww,aX #[ww,(gC.ao s5).ao s6,kD,K2 pre gm,gv,xz,xz,by show mK H6 gv (sq i);rw[hs];erw[bj.go Rg s6],Z]] |false=>rw[mt,aV aw]at gm;erw[ww,bB #[ww,bM Z,λex fx=>?_],B,oq i 4 aE (cw (jf yQ mC)) pre gm aw H6 _ _ Z Z (lA.ao s6) ex fx]
  ·rintro O H3 ⟨s3,hde,pre,ev,v1,v2,v3,v4,oe,rfl⟩
   let p5:=gK.ao s3;let d3:=s3 _ _ (s2 _ _ dD);erw[ww,ta,ww,.inl (ht.go p5),ww,lD,ww,.inl (aK.of d3),jp];by_cases bu:⇑yD<es.length
   ·rw[cy (show((⇑xt:Int)>(⇑yD:Int))from _S.hJ (_S.fD bu KJ))]
    erw[bB #[ww,lD,ww,.inl (aK.of d3),bM Z,λex fx=>?_],B,oq ⇑yD 1 aE (m9 mC) pre (by unfold gF;rw[aV aE,aR #[mC,_S.Bq bu mC]]) aw H3 _ _ Z Z p5 ex fx]
   rw[dh (show¬((⇑xt:Int)>(⇑yD:Int))from zY (_S.qi (_S.nM (kX bu) KJ)))];erw[aX ?_];let e1:⇑yD=es.length:=iY hde (kX bu);let gm:gF r f (cK j tz os) (dw tz ds os) ⇑es sq fa ⇑yD=if jj r f ((cK j tz os).getD ⇑yD 0) (fS sq ⇑es) none=true then 0 else 4:=by unfold gF;rw[aV aE,aV aE,e1,tp.Bm,tp.lj,aR rfl]
   obtain⟨ub,oK⟩:∃u,yB[⇑yD]? =some u:=#[_,bf (_S.fD (jv (m9 mC)) yu)];let(b,eb,Ea,Rb,bb):=bv _ ub H3 oK s3;rw[Ea]at gm;erw[wp,1,Z,.inl #[lB,_,-1,ub,wP,aK.of (s3 _ _ dB),NG (by rw[a1D,yu,<-mC];erw[oK]),ww,m,ub,ev,.bP,rs,r,f,j,t,b,fS sq ⇑es,none,Z,RD.sK p5 _ rm,aJ,Rb,bb,by rw[<-e1];erw[oe],tp.Kc _ (aZ _) (m9 (_S.a2t e1 mC)),Z,trivial,λH4 s4=>?_]];cases mt:jj r f b (fS sq ⇑es) none with
   |true=>
    rw[mt,aR rfl]at gm;erw[ww,aX (kq (Xn lk λk hk=>?_) H4 (p5.ao s4))];rcases BP k ⇑yD with a|a
    ·erw[pre k a]
    ·rw[show k=⇑yD by lia];erw[gm] |false=>rw[mt,aV aw]at gm;erw[ww,bB #[ww,lD,ww,.inl (aK.of (s4 _ _ d3)),bM Z,λex fx=>?_],B,oq ⇑yD 4 aE (m9 mC) pre gm aw H4 _ _ Z Z (p5.ao s4) ex fx]
end
section
def JL:Option (Nat×Nat)->aj |none=>.none |some (k,y)=>.tuple [.int (k:Nat),.int (y:Nat)]
def At.kind{n0:Nat}{j tz:Int}{ds:AC}{os:BT}(row:cj n0 ds os){k i c:Nat}(a:At j tz ds os k i c): (os[i]? =some none/\c=0/\(bW os ⇑os)[k]? =some (.tuple [.int i,.none])/\∃d,ds[i]? =some d/\itR d none/\(dF tz ds os ⇑os)[k]? =some d)\/ ∃ns sp,os[i]? =some (some (ns,sp))/\c<aF ns/\(bW os ⇑os)[k]? =some (.tuple [.int i,ug (fH ns c)])/\(dF tz ds os ⇑os)[k]? =some (kG (fH ns c) (oR tz sp)):=by let ll:=row.len;obtain⟨o,eo⟩:∃o,os[i]? =some o:=#[_,bf a.hi];let hc:=a.hc;cases o with
 |none=>
  obtain⟨d',ed⟩:∃d',ds[i]? =some d':=#[_,bf (show i<⇑ds by have:=a.hi;lia)];rw[pK eo]at hc;let h0:c=0:=by simpa using hc
  subst h0;let e1:=a.dl;rw[pK eo]at e1;let e2:=a.du;rw[uZ eo ed]at e2;erw[.inl #[eo,Z,e1,d',ed,row.it i d' none ed eo,e2]] |some p=>let(ns,sp):=p;rw[jX eo,bC,fV]at hc;let e1:=a.dl;rw[jX eo,bV,jN hc]at e1;let e2:=a.du;rw[qO eo,bV,jN hc]at e2;erw[.inr #[ns,sp,eo,hc,e1,e2]]
def Zn{top:Rat}(h:kG zs top=kG oh FD):zs=oh/\top=FD:=by
 simp only[kG,PyData.tuple.injEq,List.cons.injEq,true_and,and_true,cI]at h;let(h1,h2,h3):=h;erw[zn]
 ·exact(a1C (f:=PyData.int) (λx y e=>by injection e)).mp h1
 ·erw[Rat.ext ?_ ?_]
  ·injection h2 with h2
  ·injection h3 with h3;lia
def qZ.a75(h:qZ ti d e s y)(hd:itR d none):e=d/\iM e/\s=none/\y=0:=by cases h with |eU h1 h2=>erw[h1,h2,wP] |stp zs top q h1 _ _ _ _ _=>exact(XH hd h1).elim
def qZ.PX{top:Rat}(h:qZ ti (kG zs top) e s y):∃q,e=fq ti zs q/\s=some q/\y=(if top<q then 3 else 0)/\0<q/\Bd 1900 q:=by cases h with |eU h1 h2=>subst h1;exact(N1 h2 rfl).elim |stp oh FD q h1 h2 q0 bq _ _=>let(rfl,rfl):=Zn h1;erw[q,h2,wP,q0,bq]
def lX.HC{n0:Nat}{j ti tz:Int}{ds:AC}{os:BT}{es:AC}{sq:Nat->Option Rat}(tp:lX ti tz ds os es sq fa)(row:cj n0 ds os){k i c:Nat}(a:At j tz ds os k i c)(hk:k<⇑es)(hd:k<dw tz ds os)(h:fS sq k=none):(cK j tz os)[k]? =some 0:=by let qP:(bW os ⇑os).length=dw tz ds os:=wI (tz:=tz) row _ (aZ ⇑os);rw[a.bd];cases k with
 |zero=>
  let e:=a.ek;let c0:c=0:=iY (_S.B5 (vv _ _) e) (fR _);let i0:i=0:=by
   by_cases hi:i=0
   ·erw[hi]
   ·let m:=qQ os (show 1<=i by lia)
    have:=Hr row (show 0<⇑os by have:=a.hi;lia);have:⇑(bW os 1)=⇑(dg os 0):=by show⇑([]++dg os 0)=_;rfl
    lia
  subst c0 i0;erw[wU a.hi] |succ k=>
  let h:sq k=none:=h;let(i',c',a'):=wV (j:=j) (tz:=tz) row (show k<(bW os ⇑os).length from Nat.lt_trans (gR _) (_S.fD hd qP));obtain⟨e,ee⟩:∃e,es[k]? =some e:=#[_,bf (_S.yz hk)];rcases a'.kind row with⟨eo,c0,_⟩|⟨ns,sp,_,_,_,kE⟩
  ·rcases a.prev row a' with⟨rfl,hc⟩|⟨rfl,rfl⟩
   ·have:=a.hc
    rw[pK eo]at this;simp at this;lia
   ·rw[wU a.hi,a6W eo]
  ·let(q,_,hq,_):=(tp.ent k e _ ee kE).PX
   rw[h]at hq;cases hq
def At.a04{n0:Nat}{j tz:Int}{ds:AC}{os:BT}(row:cj n0 ds os){k i c:Nat}(a:At j tz ds os (k+1) i c)(hk:k+1<(bW os ⇑os).length):∃i' rd,(bW os ⇑os)[k]? =some (.tuple [.int (i':Nat),rd])/\(i'=i->∃ns sp,os[i]? =some (some (ns,sp))/\(cK j tz os)[k+1]? =some (oR tz sp))/\(i'≠i->(cK j tz os)[k+1]? =some (iF j tz os i)):=by
 let(i',c',a'):=wV (j:=j) (tz:=tz) row (show k<(bW os ⇑os).length from _S.yz hk);let(rd,e1):=a'.num;erw[i',rd,e1,λh=>?_,λh=>?_]
 ·rcases a.prev row a' with⟨_,hc⟩|⟨h2,_⟩
  ·rcases a.kind row with⟨_,c0,_⟩|⟨ns,sp,eo,hl,_⟩
   ·lia
   ·erw[ns,sp,eo,by rw[a.bd];erw[Nu eo hc hl]]
  ·lia
 ·rcases a.prev row a' with⟨h2,_⟩|⟨_,rfl⟩
  ·exact(h h2).elim
  ·rw[a.bd];erw[wU a.hi]
inductive Qq|mk m iv tz tv rs r f j t ds os es sq fa res(_:vs=[m,iv,.int tz,tv])(_:RD K H m (fC rs r f j t))(_:fQ rs r f j t)(_:RD K H iv (.tuple ds))(_:cj ⇑rs ds os)(_:⇑ds<=30)(_:10<=tz)(_:tz<=200)(_:RD K H tv (.list es))(_:lX t tz ds os es sq fa)(sM:EG r f j tz ds os es sq fa res)(zb:∀v H',aI H H'->RD K H' v (JL res)->Q v H')
abbrev a54:=top 114
def S4:bA ["_law_machine_here","_law_items_here","_law_rate","_law_tape","_law_due","_law_bounds_here","_law_ahead","_law_at","_law_behind","_law_bound","_law_number_here","_law_row","_law_why"] ["_law_machine_here","_law_items_here","_law_rate","_law_tape"] (aY a54):=bJ aP
def a7X(AA:a0q)(acm:a0n "_law_entry_fault" 5 Qu):a0n "_law_look" 6 Qq:=by
 exists AA.ae3.has,S4,wX λ_ _ _ _=>rfl
 ·let(m,iv,tz,tv,rs,r,f,j,t,ds,os,es,sq,fa,res,rfl,rm,aJ,ri,row,hz,bN,bS,rt,tp,lk,k):=h
  let nd:=S4.nd;erw[_,%[bp (dN (cg (dk K AA.B %[3,cS (x:="list") (v:=.ty "list") Z (AA.B.at "list") jt rfl|az]))) (aG (aQ (dA %[aA,aA|az]))) bE,pS 4 nd (pf (a8d AA) hr %[1|az]),pS 5 nd (pf (a8h AA) hr %[0,1,2|az]),pS 6 nd gM,(gh fc Z (pZ Z (AA.B.at "range") %[aM cM (dC K AA.B %[3|az]) aA|az]) (ba 7 nd) %[(fz (dA %[gM,dA %[aA,aA|az]|az]) (cX K Z (n:=2) Z %[ba 8 nd,ba 9 nd|cW])),(jQ (bp (bL (cJ K Z hr.units) a0g (dC K AA.B %[3|az]) (bc _)) (aG (bp (bL jS a0g (dC K AA.B %[4|az]) (bc _)) (aG (aQ (dA %[7,aA|az]))) bE)) %[bp (bL Gk a0g (dC K AA.B %[4|az]) (bc _)) (aG (aQ (dA %[7,aA|az]))) bE,fz (px K M2 a0g) (cX K Z (n:=2) Z %[ba 10 nd,ba 11 nd|cW]),pS 12 nd (pf acm hr %[0,px K u8 a0m,11,2,px K L2 a0g|az]),bp (bL qh (pv 12) aA (bc _)) (aG (aQ (dA %[7,12|az]))) bE,jQ (bp (bL qg (pv 11) gM (bc _)) (aG (pS 8 nd (px K (px K L2 a0g) aA))) bE),(bp (bL qg W1 gM (bc _)) %[pS 9 nd (px K P3 a0m),bp (bL (cJ K Z hr.units) (px K (px K M2 (aM ip a0g aA)) aA) a0m (bc _)) (aG (pS 9 nd (pf (Gn AA) hr %[px K u8 a0m,2|az]))) bE|aG] bE)|aG])),bp (dN (cg (pf (a87 AA) hr %[0,9,6,8|az]))) (aG (aQ (dA %[7,aA|az]))) bE,pS 6 nd (pv 8)|aG]),aQ gM|aG],?_];let ll:=row.len;let lr:=aJ.len;let Nt:=a0c aJ row bN bS;erw[ww,.inl #[xz,"list",true,Z,rt.ty,aw,(by decide:j6 "list" "list"=true),ww,aX ?_],B,ww,iv,⇑rs,ds,os,Z,ri,row,_S.kM lr aw aw,hz,λlD yD H1 nD dD rD s1=>?_,B,ZB,m,iv,tz,rs,r,f,j,t,ds,os,Z,RD.sK s1 _ rm,aJ,RD.sK s1 _ ri,row,cL hz aw,bN,bS,λlB yB H2 nB dB rB s2=>?_];let gK:=s1.ao s2;let(ta,xt,rfl,ht,iH):=rt.lst_inv;let(ia,xi,rfl,Ba,GW):=ri.cD;let KJ:=⇑iH;let mC:=⇑rD;let yu:=⇑rB;rw[bC,dO,bC,fV]at yu;let qP:(bW os ⇑os).length=dw tz ds os:=wI (tz:=tz) row _ (aZ ⇑os);let dl:dw tz ds os<=100*⇑os:=(wH (tz:=tz) row _ (aZ _)).1;let nL:sizeLine=16777216:=by decide
  let hsm:=tp.small;let wa:⇑(cK j tz os)=dw tz ds os+1:=by unfold cK;rw[cH,lV (ds:=ds) row _ (aZ _)];rfl
  let own:∀(c:Nat)(u:V)(H':Hp),c<=⇑os->yB[c]? =some u->aI H2 H'->bj H' u (iF j tz os c):=by intro c u H' hc e t';let(d1,e1,r1):=rB.get' c e;rw[bV,dO,bV,jN (jv hc)]at e1;cases e1;exact(jP r1).go t'
  let oq:∀(i y:Nat),i<=⇑es->i<=dw tz ds os->(∀k,k<i->gF r f (cK j tz os) (dw tz ds os) ⇑es sq fa k=0)->gF r f (cK j tz os) (dw tz ds os) ⇑es sq fa i=y->y≠0->∀(p:Addr)(H5 H6:Hp)(iv yv:V),iv= .int (i:Nat)->yv= .int (y:Nat)->aI H H5->Nw H5 H6 p (.tup [iv,yv])->Q (.ref p) H6:=by rintro i y GY uN pre e hy p H5 H6 _ _ rfl rfl s5 n6;let er:=Xp lk (Nat.le_min.mpr #[GY,uN]) pre e hy;erw[k _ H6 (s5.ao n6.ss) ?_];rw[er];erw[gD (aW.of n6.at') %[eB _,eB _|cQ]]
  erw[ww,ta,ww,.inl (ht.go gK),wr,ww,_S.Eu (cf _) aw,aE,?_];let eN:((⇑xt:Int)+1).toNat=⇑es+1:=by lia
  rw[eN];erw[sQ (Pv:=λi O H3=>aI H2 H3/\i<=dw tz ds os+1/\(∀k,k<i->gF r f (cK j tz os) (dw tz ds os) ⇑es sq fa k=0)/\∃av v1 v2 v3 v4 v5 v6,mK H3 av (fS sq i)/\O=[some m,some (.ref ia),some (.int tz),some (.ref ta),some (.ref lD),some (.ref lB),some av,v1,v2,v3,v4,v5,v6]) ?_ ?_ ?_]
  ·erw[aI.refl _,fR _,λ_ h=>absurd h (EX _),.bP,none,none,none,none,none,none,wP]
  ·rintro i O H3 hi ⟨s3,Y1,pre,av,v1,v2,v3,v4,v5,v6,oa,rfl⟩
   erw[gH ?_];intro E1;let nK:i<=dw tz ds os:=by
    by_cases h:i=dw tz ds os+1
    ·have:=pre (dw tz ds os) (_S.fD (gR _) h)
     unfold gF at this;rw[aV aE,aR #[Z,dJ (gR _) (ki (_S.Bq hi h))]]at this;cases this
    ·erw[ki (nX Y1 h)]
   let vg:∀{α:Type}{l:List α}{u:α},l[i]? =some u->fj l (0+(i:Int))=some u:=λh=>cn (zZ aw (cf _)) (by rw[F8];simpa using h);erw[bM Z,λz0 H40 WQ=>?_,B,bM Z,λz1 H4 Kx=>?_,B,z1,ww,aW.of Kx.at',wE];let WO:=WQ.ss.ao Kx.ss;let gC:=s3.ao WO;let gW:=gK.ao gC;let R0:bj H4 (.ref z0) 0:=#[z0,Z,aW.of (Kx.ss _ _ WQ.at')];let uw:=oa.go WO;erw[λO H5=>aI H4 H5/\∃gv bv b u6 vz A6,mK H5 gv (sq i)/\bj H5 bv b/\(cK j tz os)[i]? =some b/\gF r f (cK j tz os) (dw tz ds os) ⇑es sq fa i=(if jj r f b (fS sq i) (sq i)=true then 0 else 4)/\O=[some m,some (.ref ia),some (.int tz),some (.ref ta),some (.ref lD),some (.ref lB),some av,some (.int (0+(i:Int))),some gv,some bv,u6,vz,A6],zn]
   ·erw[lW ?_];intro E2
    erw[wp,ta,ww,.inl (ht.go gW),.inl #[_,_,Z,Z,_,Z,?_]];by_cases kD:i=⇑es
    ·rw[cy (show(0+(i:Int)=(⇑xt:Int)) by lia)]
     erw[bB ?_,B,wp,lD,ww,.inl (aK.of ((s2.ao gC) _ _ dD)),jp];by_cases bu:i<dw tz ds os
     ·rw[cy (show(0+(i:Int)<(⇑yD:Int)) by lia)]
      erw[bB #[ww,bM Z,λp H5 n5=>?_],B,oq i 1 (m9 kD) nK pre (by unfold gF;rw[aR #[kD,_S.Bq bu kD]]) aw p H4 H5 _ _ (by rw[F8]) Z gW n5]
     rw[dh (show¬(0+(i:Int)<(⇑yD:Int)) by lia)];let hl:(jF j tz os ⇑os).length=i:=by rw[lV (ds:=ds) (tz:=tz) row _ (aZ _)];show dw tz ds os=i;erw[iY (kX bu) nK]
     let eb:(cK j tz os)[i]? =some 0:=by unfold cK;rw[oX (m9 hl),hl,BO,CJ];rfl
     erw[aX #[aI.refl _,.bP,.ref z0,0,xz,_,by rw[kD,tp.lj];rfl,R0,eb,?_,Z]];unfold gF;rw[aV aE,aV aE,kD,tp.Bm,aR Z,vx,<-kD,eb];rfl
    ·rw[dh (show¬(0+(i:Int)=(⇑xt:Int)) by lia)]
     erw[aX ?_];let wo:i<⇑es:=nX (ki hi) kD;erw[wp,lD,ww,.inl (aK.of ((s2.ao gC) _ _ dD)),jp];by_cases GZ:dw tz ds os<=i
     ·rw[cy (show((⇑yD:Int)<=0+(i:Int)) by lia)]
      erw[bB #[ww,bM Z,λp H5 n5=>?_],B,oq i 1 (cw wo) nK pre (by unfold gF;rw[aV aE,aR #[iY nK GZ,kh GZ wo]]) aw p H4 H5 _ _ (by rw[F8]) Z gW n5]
     rw[dh (show¬((⇑yD:Int)<=0+(i:Int)) by lia)];erw[aX ?_];let sG:i<dw tz ds os:=oW GZ;let(ix,c,iV):=wV (j:=j) (tz:=tz) row (show i<(bW os ⇑os).length from _S.fD sG qP);obtain⟨e,ee⟩:∃e,es[i]? =some e:=#[_,bf wo];let(x,ex,rx):=iH.get i ee;let gm:gF r f (cK j tz os) (dw tz ds os) ⇑es sq fa i=if fa i=0 then(if jj r f ((cK j tz os).getD i 0) (fS sq i) (sq i)=true then 0 else 4)else fa i:=by unfold gF;rw[aV aE,aV aE]
     let sO:fa i=0->∀b,(cK j tz os)[i]? =some b->gF r f (cK j tz os) (dw tz ds os) ⇑es sq fa i=(if jj r f b (fS sq i) (sq i)=true then 0 else 4):=λh b eb=>by rw[gm,h,aR Z,vx,eb];rfl
     let knd:=iV.kind row;let(rd,MO):=iV.num;let(y,ey,ry):=rD.get i MO;let(ya,ys,rfl,Dw,kO):=(RD.sK (s2.ao gC) _ ry).cD;let(u1,yr,rfl,e1,kO):=kO.cons_inv;let(rv,yr,rfl,e2,kO):=kO.cons_inv;cases kO.nil_inv;cases e1.int_inv;obtain⟨dx,Bs⟩:∃d,ds[ix]? =some d:=#[_,bf (by have:=iV.hi;lia)];let(xv,exv,UY):=GW.get ix Bs;erw[wp,.inl #[lD,xz,.ref ya,wP,aK.of ((s2.ao gC) _ _ dD),vg ey,ya,ww,Dw,wE],B,ZB,.inr #[ia,xz,xv,wP,Ba.go gW,cn (cf _) (by simpa using exv),?_],B,ZB,ww,.inl #[ta,xz,x,wP,ht.go gW,vg ex,?_],B,m,xv,rv,tz,x,rs,r,f,j,t,Z,RD.sK gW _ rm,aJ,?_];rcases knd with⟨eo,c0,E8,d',kF,XG,kE⟩|⟨ns,sp,eo,cU,E8,kE⟩
     ·rw[MO]at E8
      cases E8;cases e2.D8;rw[Bs]at kF;cases kF;let(rfl,eU,hs,hf):=(tp.ent i e _ ee kE).a75 XG;let sO:=sO hf;erw[.inl #[Z,_,RD.sK gW _ UY,RD.sK gW _ rx,eU,λH6 s6=>?_],B,Wk,ww,aX ?_,B,λO H7=>H7=H6/\O=[some m,some (.ref ia),some (.int tz),some (.ref ta),some (.ref lD),some (.ref lB),some av,some (.int (0+(i:Int))),some .bP,some (.ref z0),some (.int (ix:Int)),some .bP,some (.int 0)],#[ww,WP,aX #[Z,Z]],?_];rintro O H7 ⟨rfl,rfl⟩;let OG:mK H7 .bP (sq i):=by rw[hs];rfl
      cases hp:fS sq i with |none=>rw[hp]at uw;let ea:av= .bP:=uw;subst ea;erw[ww,WP,aX ?_,B,s6,.bP,.ref z0,0,xz,_,OG,R0.go s6,tp.HC row iV wo sG hp,(by let z:=sO _ (tp.HC row iV wo sG hp);erw[z]),Z] |some q'=>cases DF:i with |zero=>rw[DF]at hp;cases hp |succ kk=>
       subst DF;rw[hp]at uw;let(aa,ea,_):=id (show bj H4 av q' from uw);subst ea;erw[ww,WP,bB ?_];let pU:=gC.ao s6;let nj:=gK.ao pU;obtain⟨ub,oK⟩:∃u,yB[ix]? =some u:=#[_,bf (by have:=iV.hi;lia)];let Ro:=own ix ub H7 (by have:=iV.hi;lia) oK pU;erw[wp,.inl #[lB,xz,ub,wP,aK.of (pU _ _ dB),cn (cf _) (by simpa using oK),?_]];let(i',G7,MN,b1,b2):=iV.a04 row (_S.fD sG qP);let(yp,Mt,Jz):=rD.get kk MN;let(C6,yps,rfl,hyp,hyps):=(RD.sK (s2.ao pU) _ Jz).cD;let(u1,yr,rfl,MC,hyps):=hyps.cons_inv;cases MC.int_inv;erw[Wp,.inl #[lD,xz,.ref C6,wP,aK.of ((s2.ao pU) _ _ dD),cn aE (by rw[show(0+((kk+1:Nat):Int)-1).toNat=kk by lia];erw[Mt]),?_],B,.inr #[C6,_,0,.int (i':Int),wP,hyp,cn (dU 0) Z,?_],B,ww,.inl #[_,_,Z,Z,_,Z,?_]];by_cases oH:i'=ix
       ·rw[cy (show((i':Int)=(ix:Int))from C5 (_S.qi (m9 oH)) (_S.qi (_S.zj oH)))]
        let(gO,iC,dv,jo):=b1 oH;let(Kg,Ji,Jh):=row.ok ix gO iC dv;obtain⟨qN,E7⟩:∃d,ds[ix]? =some d:=#[_,bf (by have:=iV.hi;lia)];let(xv',Mw,JB):=GW.get ix E7;let E9:=kB (row.it ix qN _ E7 dv);subst E9;erw[bB #[wp,.inr #[ia,xz,xv',wP,Ba.go nj,cn (cf _) (by simpa using Mw),?_]],B,ww,xv',gO,iC,tz,Z,RD.sK nj _ JB,Ji,Jh,bN,bS,λvB H7 R7 s7=>?_,B,s6.ao s7,.bP,vB,xz,xz,mK.go OG s7,R7,jo,(by let z:=sO _ jo;erw[z]),Z]
       ·rw[dh (show¬((i':Int)=(ix:Int)) by lia)]
        erw[aX #[s6,.bP,ub,xz,xz,OG,Ro,b2 oH,(by let z:=sO _ (b2 oH);erw[z]),Z]]
     ·rw[MO]at E8
      cases E8;let E9:=kB (row.it ix dx _ Bs eo);subst E9;let(bX,cT,dM):=row.ok ix ns sp eo;let(ra,rxs,rfl,hra,_):=id e2.cD;let(q,rfl,hs,hf,q0,bq):=(tp.ent i e _ ee kE).PX;erw[.inr #[ns,sp,fH ns c,q,RD.sK gW _ UY,cT,dM,bN,bS,e2,RD.sK gW _ rx,by unfold fH;rw[bC,bX.len];erw[_S.kM lr aw aw],bq.sK aw,q0,λH6 s6=>?_]];by_cases bu:oR tz sp<q
      ·rw[aR bu]
       rw[aR bu]at hf;erw[Wk,ww,bB ?_,B,wp,bM Z,λp H7 n7=>?_,B,oq i 3 (cw wo) nK pre (by rw[gm,hf];rfl) aw p H6 H7 _ _ (by rw[F8]) Z (gW.ao s6) n7]
      rw[aV bu];rw[aV bu]at hf;let sO:=sO hf;erw[Wk,ww,aX ?_];let(oN,jo,uW,rfl,k1,k2,k3):=Ck (RD.sK (gW.ao s6) _ rx);erw[λO H7=>H7=H6/\O=[some m,some (.ref ia),some (.int tz),some (.ref ta),some (.ref lD),some (.ref lB),some av,some (.int (0+(i:Int))),some uW,some (.ref z0),some (.int (ix:Int)),some (.ref ra),some (.int 0)],zn]
      ·erw[lW ?_];intro E3
       erw[ww,WP,bB ?_,B,wp,.inl #[ta,xz,.ref oN,wP,ht.go (gW.ao s6),vg ex,.inr #[oN,_,3,uW,wP,k1,wP,Z]]]
      rintro O H7 ⟨rfl,rfl⟩;let OG:mK H7 uW (sq i):=by rw[hs];erw[k3]
      cases hp:fS sq i with |none=>rw[hp]at uw;let ea:av= .bP:=uw;subst ea;erw[ww,WP,aX ?_,B,s6,uW,.ref z0,0,xz,_,OG,R0.go s6,tp.HC row iV wo sG hp,(by let z:=sO _ (tp.HC row iV wo sG hp);erw[z]),Z] |some q'=>cases DF:i with |zero=>rw[DF]at hp;cases hp |succ kk=>
       subst DF;rw[hp]at uw;let(aa,ea,_):=id (show bj H4 av q' from uw);subst ea;erw[ww,WP,bB ?_];let pU:=gC.ao s6;let nj:=gK.ao pU;obtain⟨ub,oK⟩:∃u,yB[ix]? =some u:=#[_,bf (by have:=iV.hi;lia)];let Ro:=own ix ub H7 (by have:=iV.hi;lia) oK pU;erw[wp,.inl #[lB,xz,ub,wP,aK.of (pU _ _ dB),cn (cf _) (by simpa using oK),?_]];let(i',G7,MN,b1,b2):=iV.a04 row (_S.fD sG qP);let(yp,Mt,Jz):=rD.get kk MN;let(C6,yps,rfl,hyp,hyps):=(RD.sK (s2.ao pU) _ Jz).cD;let(u1,yr,rfl,MC,hyps):=hyps.cons_inv;cases MC.int_inv;erw[Wp,.inl #[lD,xz,.ref C6,wP,aK.of ((s2.ao pU) _ _ dD),cn aE (by rw[show(0+((kk+1:Nat):Int)-1).toNat=kk by lia];erw[Mt]),?_],B,.inr #[C6,_,0,.int (i':Int),wP,hyp,cn (dU 0) Z,?_],B,ww,.inl #[_,_,Z,Z,_,Z,?_]];by_cases oH:i'=ix
       ·rw[cy (show((i':Int)=(ix:Int))from C5 (_S.qi (m9 oH)) (_S.qi (_S.zj oH)))]
        let(gO,iC,dv,jo):=b1 oH;let(Kg,Ji,Jh):=row.ok ix gO iC dv;obtain⟨qN,E7⟩:∃d,ds[ix]? =some d:=#[_,bf (by have:=iV.hi;lia)];let(xv',Mw,JB):=GW.get ix E7;let E9:=kB (row.it ix qN _ E7 dv);subst E9;erw[bB #[wp,.inr #[ia,xz,xv',wP,Ba.go nj,cn (cf _) (by simpa using Mw),?_]],B,ww,xv',gO,iC,tz,Z,RD.sK nj _ JB,Ji,Jh,bN,bS,λvB H7 R7 s7=>?_,B,s6.ao s7,uW,vB,xz,xz,mK.go OG s7,R7,jo,(by let z:=sO _ jo;erw[z]),Z]
       ·rw[dh (show¬((i':Int)=(ix:Int)) by lia)]
        erw[aX #[s6,uW,ub,xz,xz,OG,Ro,b2 oH,(by let z:=sO _ (b2 oH);erw[z]),Z]]
   ·rintro O H5 ⟨s5,gv,bv,b,u6,vz,A6,og,Rb,eb,gm,rfl⟩
    let lA:=gW.ao s5;let obi:BF 1900 (sq i):=by
     by_cases kD:i=⇑es
     ·rw[kD,tp.lj];trivial
     by_cases sG:i=dw tz ds os
     ·let hh:gF r f (cK j tz os) (dw tz ds os) ⇑es sq fa i=1:=by unfold gF;rw[aV aE,aR #[sG,aE]]
      rw[hh]at gm;split at gm<;>cases gm
     ·erw[tp.Kp i (nX (ki hi) kD) (nX nK sG)]
    erw[ZB,ww,m,bv,av,gv,rs,r,f,j,t,b,fS sq i,sq i,Z,RD.sK lA _ rm,aJ,Rb,Nt b (gA eb),uw.go s5,tp.Kc i (ki hi) nK,og,obi,λH6 s6=>?_];cases mt:jj r f b (fS sq i) (sq i)with |true=>rw[mt,aR rfl]at gm;erw[ww,aX #[ww,(gC.ao s5).ao s6,jv nK,K2 pre gm,gv,xz,xz,xz,og.go s6,Z]] |false=>rw[mt,aV aw]at gm;erw[ww,bB #[ww,bM Z,λp H7 n7=>?_],B,oq i 4 (ki hi) nK pre gm aw p H6 H7 _ _ (by rw[F8]) Z (lA.ao s6) n7]
  ·rintro O H3 ⟨s3,Y1,pre,av,v1,v2,v3,v4,v5,v6,oa,rfl⟩
   let er:=Xn lk λk hk=>pre k (by have:=Nat.le_min.mp hk;lia);erw[k .bP H3 (gK.ao s3) ?_];rw[er];erw[G6]
end
section
abbrev a51:=top 92
def RG:bA ["_law_thing"] ["_law_thing"] (aY a51):=bJ aP
def Wg(AA:a0q):O6 P w K mg aB "_law_number" 1 Cq:=by
 erw[AA.YN.abS RG (λvs H Q E h=>?_) (λ_ _ _ _ _ _=>fE λ_=>rfl) (λf aO A outer s H vs Q hr h=>?_)]
 ·let(v,T,rfl,_):=h
  rfl
 ·let(v,T,rfl,ty,k):=h
  let nd:=RG.nd;erw[_,(aG (aQ (iE (dk K AA.B %[0,cS (x:="int") (v:=.ty "int") Z (AA.B.at "int") xo rfl|az]) (iR (y6 (dk K AA.B %[0,cS (x:="bool") (v:=.ty "bool") rfl (AA.B.at "bool") a1u rfl|az])))))),?_,B,ww,.inl #[_,T,"int",ww,ty,aw,Z,wv]];unfold jD at k;erw[eV (λhc=>?_) (λhc=>?_)]
  ·erw[ww,.inl #[_,T,"bool",ww,ty,aw,Z,wv]]
   rw[hc,mU]at k;erw[k]
  ·rw[A0.mpr hc,o9]at k
   erw[k]
inductive Qn|mk m iv tz tv rs r f j t ds os es sq fa res(_:vs=[m,iv,.int tz,tv])(_:RD K H m (fC rs r f j t))(_:fQ rs r f j t)(_:RD K H iv (.tuple ds))(_:cj ⇑rs ds os)(_:⇑ds<=30)(_:10<=tz)(_:tz<=200)(_:RD K H tv (.list es))(_:eX 8 (.list es))(sM:lX t tz ds os es sq fa)(zb:EG r f j tz ds os es sq fa res)(za:∀v H',aI H H'->RD K H' v (JL res)->Q v H')
def RP:bA ["_law_machine_here","_law_items_here","_law_rate","_law_tape","_law_kept","_law_found","e","_law_others"] ["_law_machine_here","_law_items_here","_law_rate","_law_tape"] (aY U7):=bJ aP
def a7Y{C:Addr}(AA:a0q)(EA:a0W K mg C fI cG c0 c1 c2 c3 c4 c5 c6 c7 c8 c9)(abb:HW P w K mg aB "look" 10 (Qm C)):a0n "_law_looked" 11 Qn:=by
 erw[AA.ae2.abU RP (λvs H Q E h=>?_) (λ_ _ _ _ _ _=>wX λ_ _ _ _=>rfl) (λf aO A outer s H vs Q E hr h=>?_)]
 ·let(m,iv,tz,tv,rs,r,f,j,t,ds,os,es,sq,fa,res,rfl,_):=h
  rfl
 ·let(m,iv,tz,tv,rs,r,f,j,t,ds,os,es,sq,fa,res,rfl,rm,aJ,ri,row,hz,bN,bS,rt,ok,tp,lk,k):=h
  let nd:=RP.nd;let hy:=EA.g;let LY:(Np).contains (.type "BaseException")=true:=by decide
  let M4:∀C',C'=C->ClsAt K C'/\takes K C' cG:=λC' e=>by subst e;erw[EA.oc.e.cls,EA.t]
  let aca:=EA.h0;let ac9:=EA.h1;let ac8:=EA.h2;let ac7:=EA.h3;let ac6:=EA.h4;let ac5:=EA.h5;let ac4:=EA.h6;let ac3:=EA.h7;let ac1:=EA.h8;let ac0:=EA.h9;let abY:=EA.v;let ac2:GV mg "NoTape" (.ref C):=#[_,EA.oc.e.at',Z];let(ta,xt,rfl,ht,iH):=id rt.lst_inv;erw[_,(tH.ZK (pS 4 nd (y8 (cg (dk K AA.B %[3,cS (x:="list") (v:=.ty "list") Z (AA.B.at "list") jt rfl|az])) (gY (x:="list") (yE K rfl) rfl (AA.B.at "list") jt %[3|az]) gM)) (tH.ZK (pS 5 nd gM) (tH.afh (a6r (i:=6) Z Z nd Z Z Z (λE xe hp=>(aG (bp (bL qg (a6P abb hp (hr.sK aw) Z %[0,1,2,3|az]) gM (bc _)) (aG (pS 5 nd fA)) bE))) Z hy LY M4 (λex=>%[(pS 7 nd (eR (x:="isinstance") (Lk K Z) Z (AA.B.at "isinstance") Ou %[6,dA %[dY (x:="Full") rfl aca,dY (x:="Moving") rfl ac9,dY (x:="NoFraction") rfl ac8,dY (x:="NoItem") rfl ac7,dY (x:="NoLine") rfl ac6,dY (x:="NoMachine") rfl ac5,dY (x:="NoPlace") rfl ac4,dY (x:="NoRate") rfl ac3,dY (x:="NoText") rfl ac1,dY (x:="OffRails") rfl ac0|az]|az])),pS 5 nd fA,bp (PW.pt (nu (cg (eR (x:="isinstance") (Lk K Z) Z (AA.B.at "isinstance") Ou %[6,dY (x:="NoTape") rfl ac2|az])) (nu (dN (cg a0g)) (pX (cg (eR (x:="isinstance") (Lk K rfl) rfl (AA.B.at "isinstance") Ou %[6,cS (x:="ValueError") (v:=.ty "ValueError") rfl abY afX rfl|az])))))) (aG (bp (PW.pt (nu (cg (VI (Wg AA) ((hr.mark _).sK aw) Z %[Gb K Z W1|az])) (pX (cg (VI (Wg AA) ((hr.mark _).sK aw) Z %[Gb K Z W1|az]))))) (aG (pS 5 nd (dA %[Gb K Z W1,Gb K Z W1|az]))) bE)) bE|aG])) %[bp (PW.pt (nu (bL qg M2 gM (bc _)) (pX (bL (j9 K Z hr.units) L2 M2 (bc _))))) (aG (aQ fA)) bE,aQ P3|aG]))),?_,B,ww,.inl #[xz,"list",true,Z,rt.ty,aw,(by decide:j6 "list" "list"=true),ww,bB ?_],B,ww,ta,ww,.inl ht,λl1 H1 n1=>?_];let s1:=n1.ss;erw[λσ' cls dx H'=>σ'=[some m,some iv,some (.int tz),some (.ref ta),some (.ref l1),some .bP,none,none]/\cls= .ref C/\∃(d:Addr)(kk y:Nat),dx=some d/\res=some (kk,y)/\aI H1 H'/\H' d=some (.xd (D7 (.int (kk:Nat)) (.int (y:Nat)))),?_,λσ' cls dx H' h=>#[C,h.2.1,Z],?_]
  ·erw[ZB,ww,m,iv,tz,.ref ta,rs,r,f,j,t,ds,os,es,sq,fa,res,Z,RD.sK s1 _ rm,aJ,RD.sK s1 _ ri,row,hz,bN,bS,RD.sK s1 _ rt,tp,lk,λer H2 s2=>?_,λkk y er H' dx sm hd=>#[wP,dx,kk,y,Z,er,sm,hd]]
   erw[WP,aX ?_];let Jw:=s1.ao s2;erw[ww,WP,bB ?_,B,wp,.inr #[xz,RD.sK Jw _ rt,rP (aK.of (s2 _ _ n1.at')) (aH.sK Jw _ iH),mh ok,mh ok,wv]];rw[eqv_refl _ ok.lay];erw[aX #[ww,k _ H2 Jw (by rw[er];erw[G6])]]
  ·rintro C' ex dx σ' H' hl ⟨rfl,eC,d,kk,y,rfl,er,sm,hd⟩ hex
   cases eC;let e1:(_L.bn H' ex (.ext (qY ex (.ref C) (some d)))) ex=some (.ext (qY ex (.ref C) (some d))):=bQ;let dne:d≠ex:=e9 hd hex;let e3:(_L.bn H' ex (.ext (qY ex (.ref C) (some d)))) d=some (.xd (D7 (.int (kk:Nat)) (.int (y:Nat)))):=by rw[aU dne];erw[hd]
   erw[ww,bM Z,λt H2 nw=>?_];let e2:=nw.ss _ _ e1;let e4:=nw.ss _ _ e3;erw[.inr #[ex,C,t,some d,[c0,c1,c2,c3,c4,c5,c6,c7,c8,c9],false,Z,e2,EA.k,nw.at',EA.any,?_],B,ww,.inl #[ex,C,some d,.ref C,.ref C,true,Z,e2,EA.k,Z,EA.own,ww,bB ?_],B,wp,bB ?_,B,ww,.inl #[ex,C,some d,.ty "ValueError",.type "ValueError",true,Z,e2,EA.k,Z,EA.ve,ww,bB ?_],B,ww,ex,C,d,_,(kk:Int),Z,e2,e4,EA.k,EA.fat,Z,wT,(eB (K:=K) (H:=H2) (kk:Int)).ty,wv];rw[show jD (lg (.int (kk:Int)))=true from(by decide:jD "int"=true)];erw[bB ?_,B,ww,ex,C,d,_,(y:Int),Z,e2,e4,EA.k,EA.fwhy,Z,wT,(eB (K:=K) (H:=H2) (y:Int)).ty,wv];rw[show jD (lg (.int (y:Int)))=true from(by decide:jD "int"=true)];erw[bB ?_,B,ww,ex,C,d,_,(kk:Int),Z,e2,e4,EA.k,EA.fat,WP,ex,C,d,_,(y:Int),Z,e2,e4,EA.k,EA.fwhy,Z,bM Z,λp H3 n3=>?_];let xT:aI H1 H3:=sm.ao ((aI.new hex).ao (nw.ss.ao n3.ss));let p5:=s1.ao xT;erw[ww,WP,bB ?_,B,wp,.inr #[xz,RD.sK p5 _ rt,rP (aK.of (xT _ _ n1.at')) (aH.sK p5 _ iH),mh ok,mh ok,wv]];rw[eqv_refl _ ok.lay];erw[aX #[ww,k _ H3 p5 ?_]];rw[er];erw[gD (aW.of n3.at') %[eB _,eB _|cQ]]
end
end _c
set_option maxHeartbeats 2000000
namespace _c
universe _L _d _l _C _P _W _R
open _O (oR na dL iN ce iF sB dO OkI OkIs)
section
def a9U(r f ti:Int)(ns:Ar)(top b e:Rat):⇑(oA r f ti ns top b e)=aF ns:=by rw[oA,bC,fV]
def a9V{r:Int}{top b:Rat}(h:k<aF ns):(oA r f ti ns top b e)[k]? =some (fq ti (fH ns k) (kN r f (aF ns) top b e k)):=by rw[oA,bV,jN h];rfl
def zx{α:Type}(I:Nat->List α):Nat->List α |0=>[] |i+1=>zx I i++I i
theorem Ek{α:Type}{I:Nat->List α}{os:BT}(hl:∀i,i<⇑os->⇑(I i)=⇑(dg os i)):∀n,n<=⇑os->⇑(zx I n)=⇑(bW os n) |0,_=>rfl |n+1,hn=>by show⇑(zx I n++I n)=⇑(bW os n++dg os n);rw[cH,cH,Ek hl n (cw hn),hl n hn]
theorem Nj{α:Type}{I:Nat->List α}{os:BT}(hl:∀i,i<⇑os->⇑(I i)=⇑(dg os i)){i c:Nat}(hc:c<⇑(dg os i)):∀n,i<n->n<=⇑os->(zx I n)[⇑(bW os i)+c]? =(I i)[c]?
 |0,h,_=>by lia |n+1,h,hn=>by
  show(zx I n++I n)[_]? =_;let l:=Ek hl n (cw hn);by_cases e:i=n
  ·subst e
   rw[oX (IN l (jg _ _)),l,a1A]
  ·let m:=qQ os (show i+1<=n from nX (ki h) e)
   have:⇑(bW os (i+1))=⇑(bW os i)+⇑(dg os i):=by show⇑(bW os i++dg os i)=_;rw[cH]
   rw[nZ aE];erw[Nj hl hc n (nX (ki h) e) (cw hn)]
def kT(r f:Int)(ld:Nat)(top b e:Rat)(c:Nat):Rat:=mn (mn (b+((2*r*(c:Int):Int):Rat)) top) (e+((2*f*((ld:Int)-(c:Int)):Int):Rat))
def afT{r f:Int}{ld:Nat}{top b e:Rat}(h1:b<=top)(h2:b<=e+((2*f*(ld:Int):Int):Rat)):kT r f ld top b e 0=b:=by
 unfold kT;let z:b+((2*r*((0:Nat):Int):Int):Rat)=b:=by rw[show(2*r*((0:Nat):Int):Int)=0 by simp];erw[tL _]
 rw[z,show(ld:Int)-((0:Nat):Int)=ld by simp];erw[zP (cu (eO _ _) (eO _ _)) (iq (iq fG h1) h2)]
def afW{r f:Int}{ld:Nat}{top b e:Rat}(h1:e<=top)(h2:e<=b+((2*r*(ld:Int):Int):Rat)):kT r f ld top b e ld=e:=by
 unfold kT;let z:e+((2*f*((ld:Int)-(ld:Int)):Int):Rat)=e:=by rw[Int.sub_self,IG];erw[tL _]
 rw[z];erw[zP (gj _ _) (iq (iq h2 h1) fG)]
def a02{r f:Int}{ld k:Nat}{top b e:Rat}(hr:0<=r)(hf:0<=f): (kN r f ld top b e k<=kT r f ld top b e k+(r:Rat)/\kT r f ld top b e k<=kN r f ld top b e k+(f:Rat))/\(kN r f ld top b e k<=kT r f ld top b e (k+1)+(f:Rat)/\kT r f ld top b e (k+1)<=kN r f ld top b e k+(r:Rat)):=by
 let qx:(0:Rat)<=(r:Rat):=rk.mpr hr;let Be:(0:Rat)<=(f:Rat):=rk.mpr hf;let e1:r*(2*(1+(k:Int))-1)=2*r*k+r:=by grind
 let e2:f*(2*((ld:Int)-(1+(k:Int)))+1)=2*f*((ld:Int)-k)-f:=by grind
 let e3:2*r*((k+1:Nat):Int)=2*r*k+2*r:=by grind
 let e4:2*f*((ld:Int)-((k+1:Nat):Int))=2*f*((ld:Int)-k)-2*f:=by grind
 unfold kN kT;rw[e1,e2,e3,e4];generalize 2*r*(k:Int)=x;generalize 2*f*((ld:Int)-k)=y;simp only[Im,Rs,rj];let t2:((2:Int):Rat)=2:=rfl;rw[t2];generalize(r:Rat)=R at*;generalize(f:Rat)=F at*;generalize(x:Rat)=X;generalize(y:Rat)=Y;unfold mn;erw[#[?_,?_],zn]<;>grind
def afU{r f:Int}{ld c:Nat}{top b e:Rat}(hr:0<=r)(hf:0<=f)(hc:c<=ld)(ht:0<=top)(hb:0<=b)(he:0<=e):0<=kT r f ld top b e c:=by
 let nn:∀{z:Int}{x:Rat},0<=x->0<=z->0<=x+(z:Rat):=λ{z x} hx hz=>by have:(0:Rat)<=(z:Rat):=rk.mpr hz;grind
 erw[iq (iq (nn hb (fy (fy aw hr) (cf _))) ht) (nn he (fy (fy aw hf) (_S.Nd hc)))]
def a9b{r f:Int}{ld k:Nat}{top b e:Rat}:kN r f ld top b e k<=top:=cu (eO _ _) (gj _ _)
def afV{r f:Int}{ld k:Nat}{top b e:Rat}:kT r f ld top b e k<=top:=cu (eO _ _) (gj _ _)
section
variable {r f j ti rt':Int}{ds:AC}{os:BT}
noncomputable def xQ(r f j rt':Int)(os:BT)(i:Nat):List (Option Rat):=match os[i]? with |some (some (ns,sp))=>(List.range (aF ns)).map λk=>some (kN r f (aF ns) (oR rt' sp) (dX r f j rt' os i) (dX r f j rt' os (i+1)) k) |_=>[none]
noncomputable def tV(r f j rt':Int)(os:BT)(i c:Nat):Rat:=match os[i]? with |some (some (ns,sp))=>kT r f (aF ns) (oR rt' sp) (dX r f j rt' os i) (dX r f j rt' os (i+1)) c |_=>dX r f j rt' os i
noncomputable def rM(r f j rt':Int)(os:BT)(k:Nat):Option Rat:=((zx (xQ r f j rt' os) ⇑os)[k]?).getD none
def Cp{i:Nat}{ns:Ar}{sp:Int}(h:os[i]? =some (some (ns,sp))):xQ r f j rt' os i=(List.range (aF ns)).map λk=>some (kN r f (aF ns) (oR rt' sp) (dX r f j rt' os i) (dX r f j rt' os (i+1)) k):=by unfold xQ;rw[h]
def FR{i:Nat}(h:os[i]? =some none):xQ r f j rt' os i=[none]:=by unfold xQ;rw[h]
def A5{i c:Nat}{ns:Ar}{sp:Int}(h:os[i]? =some (some (ns,sp))):tV r f j rt' os i c=kT r f (aF ns) (oR rt' sp) (dX r f j rt' os i) (dX r f j rt' os (i+1)) c:=by unfold tV;rw[h]
def IK{i c:Nat}(h:os[i]? =some none):tV r f j rt' os i c=dX r f j rt' os i:=by unfold tV;rw[h]
def Jc(hi:i<⇑os):⇑(xQ r f j rt' os i)=⇑(dg os i):=by obtain⟨o,eo⟩:∃o,os[i]? =some o:=#[_,bf hi];cases o with |none=>rw[FR eo,pK eo];rfl |some q=>let(ns,sp):=q;rw[Cp eo,jX eo,bC,bC]
def Z0(hi:i<⇑os):⇑(nN r f j ti rt' ds os i)=⇑(dg os i):=by obtain⟨o,eo⟩:∃o,os[i]? =some o:=#[_,bf hi];cases o with |none=>unfold nN;rw[eo,pK eo];rfl |some q=>let(ns,sp):=q;rw[Br eo,jX eo,a9U,bC,fV]
theorem IZ:∀n,kv r f j ti rt' ds os n=zx (nN r f j ti rt' ds os) n |0=>rfl |n+1=>by show _++_=_++_;rw[IZ n]
def FQ(hi:i<⇑os)(hc:c<⇑(dg os i)):rM r f j rt' os (⇑(bW os i)+c)=((xQ r f j rt' os i)[c]?).getD none:=by unfold rM;rw[Nj (λi hi=>Jc hi) hc _ hi (aZ _)]
end
def a6A{r t:Int}(tz:Int)(os:BT)(aJ:fQ rs r f j t):Keeps ⇑os (iF j tz os) (sB os) (2*r) (2*f) (dX r f j tz os):=a6x (by have:=aJ.r1;lia) (by have:=aJ.f1;lia)
def Ld{os:BT}{i:Nat}{ns:Ar}{sp:Int}(h:os[i]? =some (some (ns,sp))):sB os i=some (aF ns):=by unfold sB;rw[_O.mI h];rfl
def Pr{rs:Ar}{r f j ti tz rt':Int}{ds:AC}{os:BT}(aJ:fQ rs r f j ti)(row:cj ⇑rs ds os)(cV:RowW ds os)(hz:⇑ds<=30)(h1:10<=rt')(h2:rt'<=tz)(h3:tz<=200):jH r f j ti tz ds os (kv r f j ti rt' ds os ⇑os) (rM r f j rt' os):=by
 let ll:=row.len;let r1:=aJ.r1;let f1:=aJ.f1;let kp:=a6A rt' os aJ;let nn:∀i,i<=⇑os->0<=dX r f j rt' os i:=K4 (fy aw (_S.dE r1.1)) (fy aw (_S.dE f1.1)) λi _=>_O.ur j rt' os i;let Eo:=K7 aJ row hz h1 (show rt'<=200 from fW h2 h3);let qP:=wI (tz:=tz) row _ (aZ ⇑os);let tl:(kv r f j ti rt' ds os ⇑os).length=(bW os ⇑os).length:=by rw[IZ];erw[Ek (λi hi=>Z0 hi) _ (aZ _)]
 let te:∀{i c:Nat},i<⇑os->c<⇑(dg os i)->(kv r f j ti rt' ds os ⇑os)[⇑(bW os i)+c]? =(nN r f j ti rt' ds os i)[c]?:=λhi hc=>by rw[IZ];erw[Nj (λi hi=>Z0 hi) hc _ hi (aZ _)]
 let ln:∀{i:Nat}{ns:Ar}{sp:Int},os[i]? =some (some (ns,sp))->kT r f (aF ns) (oR rt' sp) (dX r f j rt' os i) (dX r f j rt' os (i+1)) 0=dX r f j rt' os i/\kT r f (aF ns) (oR rt' sp) (dX r f j rt' os i) (dX r f j rt' os (i+1)) (aF ns)=dX r f j rt' os (i+1):=λ{i ns sp} eo=>by let hi:=(ck.mp eo).1;erw[afT (cu (kp.own i (cw hi)) (a6X eo)) (kp.YH i _ hi (Ld eo)),afW (cu (kp.own (i+1) hi) (a6Y eo)) (kp.rise i _ hi (Ld eo))]
 let dS:∀i,⇑(bW os (i+1))=⇑(bW os i)+⇑(dg os i):=λi=>by show⇑(bW os i++dg os i)=_;rw[cH]
 erw[by rw[tl,qP],λk e du ee kE=>?_,?_,λk b eb=>?_]
 ·let hk:k<(bW os ⇑os).length:=by rw[<-tl];exact(ck.mp ee).1
  let(i,c,a):=wV (j:=j) (tz:=tz) row hk;let hi:=a.hi;let hc:=a.hc;let ek:=a.ek;subst ek;rw[te hi hc]at ee;rw[FQ hi hc];rcases a.kind row with⟨eo,c0,_,d,ed,XG,MM⟩|⟨ns,sp,eo,cU,_,MM⟩
  ·rw[MM]at kE
   cases kE;subst c0;rw[FR eo];have:(nN r f j ti rt' ds os i)=[du]:=by unfold nN;rw[eo];simp[ed]
   rw[this]at ee;cases ee;erw[Z,cV i _ eo ed]
  ·rw[MM]at kE
   cases kE;let(bX,cT,dM):=row.ok i ns sp eo;rw[Br eo,a9V cU]at ee;cases ee;rw[Cp eo,bV,jN cU];let q0:0<kN r f (aF ns) (oR rt' sp) (dX r f j rt' os i) (dX r f j rt' os (i+1)) c:=KC r1.1 f1.1 cU (Ce cT h1) (nn i (cw hi)) (nn (i+1) hi);erw[fH ns c,oR tz sp,wP,cu a9b (_O.FC (_S.dE cT) (dU _) (fW aw h1) h2),q0,?_,(_O.mZ cT dM (fW h1 h2) h3).sK aw,by unfold fH;rw[bC,bX.len];have:=aJ.len;lia];let lO:=nG bX;let yW:=G4 r1.1 r1.2 cU lO;let yV:=Hi f1.1 f1.2 cU lO;erw[ph (ph ((jG (Eo i (cw hi)) (by rw[jz];erw[kh yW aw])).sK aw) ((_O.mZ cT dM h1 (fW h2 h3)).sK aw)) ((jG (Eo (i+1) hi) (by rw[jz];erw[kh yV aw])).sK aw)]
 ·unfold rM
  rw[nY (by rw[Ek (λi hi=>Jc hi) _ (aZ _),tl];erw[aZ _])];rfl
 ·--vD akh
  let wa:⇑(cK j tz os)=(bW os ⇑os).length+1:=by unfold cK;rw[cH,lV (ds:=ds) row _ (aZ _),qP];rfl
  let hk:k<(bW os ⇑os).length+1:=by rw[<-wa];exact(ck.mp eb).1
  let ahead:∀(x:Rat),(∀k',k=k'+1->∀i' c',At j tz ds os k' i' c'->∀ns sp,os[i']? =some (some (ns,sp))->c'<aF ns->x=kT r f (aF ns) (oR rt' sp) (dX r f j rt' os i') (dX r f j rt' os (i'+1)) (c'+1))->∀q,fS (rM r f j rt' os) k=some q->q<=x+(f:Rat)/\x<=q+(r:Rat):=by intro x hx q hq;cases Y5:k with |zero=>rw[Y5]at hq;cases hq |succ k'=>
   subst Y5;let hq:rM r f j rt' os k'=some q:=hq;let(i',c',a'):=wV (j:=j) (tz:=tz) row (show k'<(bW os ⇑os).length from dJ (gR _) (ki hk));let e1:=hx k' Z i' c' a';let ek:=a'.ek;rw[ek,FQ a'.hi a'.hc]at hq;rcases a'.kind row with⟨eo,c0,_⟩|⟨ns,sp,eo,cU,_⟩
   ·subst c0
    rw[FR eo]at hq;cases hq
   ·rw[Cp eo,bV,jN cU]at hq
    cases hq;rw[e1 ns sp eo cU];exact(a02 (_S.dE r1.1) (_S.dE f1.1)).2
  by_cases LM:k=(bW os ⇑os).length
  ·--vD end
   let e0:(cK j tz os)[k]? =some 0:=by rw[LM,qP];erw[Nv row]
   rw[e0]at eb;cases eb;let sn:rM r f j rt' os k=none:=by unfold rM;rw[nY (by rw[Ek (λi hi=>Jc hi) _ (aZ _)];erw[_S.zj LM])];rfl
   let p0:dX r f j rt' os ⇑os=0:=zP (by have:=kp.own ⇑os (aZ _);rw[CJ]at this;erw[this]) (nn _ (aZ _));erw[AU (x:=dX r f j rt' os ⇑os) (by rw[p0];erw[fG]) (by rw[p0];erw[fG]) (ahead _ λk' zm i' c' a' ns sp eo cU=>?_) (λq hq=>by rw[sn]at hq;cases hq)];let ek:=a'.ek;let uR:⇑(dg os i')=aF ns:=by rw[jX eo,bC,fV]
   let Bc:i'+1=⇑os:=by
    by_cases h:i'+1=⇑os
    ·erw[h]
    ·let bu:i'+1<⇑os:=by have:=a'.hi;lia
     let m:=qQ os (show i'+1+1<=⇑os from bu);let g:=Hr row bu;let d1:=dS i';let d2:=dS (i'+1)
     lia
   let kP:c'+1=aF ns:=by
    let d1:=dS i';rw[Bc]at d1
    lia
   rw[kP,(ln eo).2,Bc]
  ·let(i,c,a):=wV (j:=j) (tz:=tz) row (show k<(bW os ⇑os).length from nX (ki hk) LM)
   let hi:=a.hi;let hc:=a.hc;let ek:=a.ek;let jo:=a.bd;rw[eb]at jo;let CL:dX r f j rt' os i<=iF j tz os i:=cu (kp.own i (cw hi)) (_O.a73 (by have:=aJ.j1;lia) (dU _) (fW aw h1) h2 row.ow i);obtain⟨o,eo⟩:∃o,os[i]? =some o:=#[_,bf hi];let hA:∀k',k=k'+1->∀i' c',At j tz ds os k' i' c'->∀ns sp,os[i']? =some (some (ns,sp))->c'<aF ns->tV r f j rt' os i c=kT r f (aF ns) (oR rt' sp) (dX r f j rt' os i') (dX r f j rt' os (i'+1)) (c'+1):=by
    intro k' zm i' c' a' ns sp dv cU;let ek2:=a'.ek;subst zm;let uR:⇑(dg os i')=aF ns:=by rw[jX dv,bC,fV]
    rcases a.prev row a' with⟨rfl,LW⟩|⟨rfl,rfl⟩
    ·rw[A5 dv,show c=c'+1 by lia]
    ·let d1:=dS i'
     rw[show c'+1=aF ns by lia,(ln dv).2];cases o with |none=>erw[IK eo] |some q=>let(ns2,dM):=q;rw[A5 eo,(ln eo).1]
   let Co:=FQ (r:=r) (f:=f) (j:=j) (rt':=rt') hi hc;rw[<-ek]at Co;cases o with |none=>
    let c0:c=0:=by rw[pK eo]at hc;simpa using hc
    subst c0;rw[wU hi]at jo;cases jo;rw[FR eo]at Co;erw[AU (x:=tV r f j rt' os i 0) (by rw[IK eo];erw[nn i (cw hi)]) (by rw[IK eo];erw[CL]) (ahead _ hA) (λq hq=>by rw[Co]at hq;cases hq)] |some p=>
    let(ns,sp):=p;let(bX,cT,dM):=row.ok i ns sp eo;let cU:c<aF ns:=by rw[jX eo,bC,fV]at hc;erw[hc]
    let x0:0<=tV r f j rt' os i c:=by rw[A5 eo];erw[afU (_S.dE r1.1) (_S.dE f1.1) (cw cU) (_O.pQ _ _) (nn i (cw hi)) (nn (i+1) hi)]
    let xb:tV r f j rt' os i c<=b:=by
     by_cases h0:c=0
     ·subst h0
      rw[wU hi]at jo;cases jo;rw[A5 eo,(ln eo).1];erw[CL]
     ·rw[Nu eo aE cU]at jo
      cases jo;rw[A5 eo];erw[cu afV (_O.FC (_S.dE cT) (dU _) (fW aw h1) h2)]
    rw[Cp eo,bV,jN cU]at Co;erw[AU (x:=tV r f j rt' os i c) x0 xb (ahead _ hA) (λq hq=>?_)];rw[Co]at hq;cases hq;rw[A5 eo];exact(a02 (_S.dE r1.1) (_S.dE f1.1)).1
end
section
def a9e{r:Int}{b:Rat}(hr:0<=r)(hf:0<=f)(h:jj r f b e g=true):∃x:Rat,0<=x/\x<=b/\(∀q,e=some q->q<=x+(f:Rat)/\x<=q+(r:Rat))/\∀q,g=some q->q<=x+(r:Rat)/\x<=q+(f:Rat):=by
 let qx:(0:Rat)<=(r:Rat):=rk.mpr hr;let Be:(0:Rat)<=(f:Rat):=rk.mpr hf;let key:∀l∈iG r f e g,∀u∈iJ r f b e g,l<=u:=λl hl u hu=>by erw[pM.mp λbu=>?_];have:((iG r f e g).any λl=>(iJ r f b e g).any λh=>decide (h<l))=true:=tP.mpr #[l,hl,tP.mpr #[u,hu,cy bu]];unfold jj at h;rw[this]at h;cases h
 let nr:((-r:Int):Rat)=-(r:Rat):=j0T r;let nf:((-f:Int):Rat)=-(f:Rat):=j0T f;cases e with
 |none=>cases g with |none=>let h1:=key 0 (by simp[iG]) b (by simp[iJ]);erw[0,fG,h1,(λq h=>nomatch h),(λq h=>nomatch h)] |some q=>
  let a1:=key 0 (by simp[iG]) b (by simp[iJ]);let a2:=key 0 (by simp[iG]) (q+(f:Rat)) (by simp[iJ]);let a3:=key (q+((-r:Int):Rat)) (by simp[iG]) b (by simp[iJ]);rw[nr]at a3;erw[if 0<q-(r:Rat)then q-(r:Rat)else 0,zn,(λq' h=>nomatch h),λq' h=>?_]
  ·split<;>grind
  ·split<;>grind
  ·cases h
   erw[zn]<;>split<;>grind
 |some p=>cases g with |none=>
  let a1:=key 0 (by simp[iG]) b (by simp[iJ]);let a2:=key 0 (by simp[iG]) (p+(r:Rat)) (by simp[iJ]);let a3:=key (p+((-f:Int):Rat)) (by simp[iG]) b (by simp[iJ]);rw[nf]at a3;erw[if 0<p-(f:Rat)then p-(f:Rat)else 0,zn,λq' h=>?_,(λq' h=>nomatch h)]
  ·split<;>grind
  ·split<;>grind
  ·cases h
   erw[zn]<;>split<;>grind |some q=>
  let a1:=key 0 (by simp[iG]) b (by simp[iJ]);let a2:=key 0 (by simp[iG]) (p+(r:Rat)) (by simp[iJ]);let a3:=key 0 (by simp[iG]) (q+(f:Rat)) (by simp[iJ]);let a4:=key (p+((-f:Int):Rat)) (by simp[iG]) b (by simp[iJ]);let a5:=key (p+((-f:Int):Rat)) (by simp[iG]) (q+(f:Rat)) (by simp[iJ]);let a6:=key (q+((-r:Int):Rat)) (by simp[iG]) b (by simp[iJ]);let a7:=key (q+((-r:Int):Rat)) (by simp[iG]) (p+(r:Rat)) (by simp[iJ]);rw[nf]at a4 a5;rw[nr]at a6 a7;clear key h nr nf;generalize(r:Rat)=R at*;generalize(f:Rat)=F at*;by_cases c1:0<=p-F
  ·by_cases c2:p-F<=q-R
   ·erw[q-R,by grind,by grind,λq' h=>by cases h;erw[by grind,by grind],λq' h=>by cases h;erw[by grind,by grind]]
   ·erw[p-F,by grind,by grind,λq' h=>by cases h;erw[by grind,by grind],λq' h=>by cases h;erw[by grind,by grind]]
  ·by_cases c2:0<=q-R
   ·erw[q-R,by grind,by grind,λq' h=>by cases h;erw[by grind,by grind],λq' h=>by cases h;erw[by grind,by grind]]
   ·erw[0,by grind,by grind,λq' h=>by cases h;erw[by grind,by grind],λq' h=>by cases h;erw[by grind,by grind]]
end
section
theorem Pa{X:Nat->Rat}{a:Rat}{m:Nat}(h:∀c,c<m->X (c+1)<=X c+a):∀c,c<=m->X c<=X 0+(c:Rat)*a
 |0,_=>by rw[show((0:Nat):Rat)=0 from Z,Of,tL];erw[fG] |c+1,hc=>by
  let h1:=Pa h c bI;let h2:=h c bI;let e:((c+1:Nat):Rat)=(c:Rat)+1:=by rw[j0S];rfl
  rw[e];grind
theorem Zq{X:Nat->Rat}{a:Rat}{m:Nat}(h:∀c,c<m->X c<=X (c+1)+a):∀d,d<=m->X (m-d)<=X m+(d:Rat)*a
 |0,_=>by rw[show((0:Nat):Rat)=0 from Z,Of,tL];erw[fG] |d+1,hd=>by
  let h1:=Zq h d bI;let h2:=h (m-(d+1)) bI;rw[show m-(d+1)+1=m-d by omega]at h2;let e:((d+1:Nat):Rat)=(d:Rat)+1:=by rw[j0S];rfl
  rw[e];grind
def jH.aa2{rs:Ar}{r f j ti tz:Int}{ds:AC}{os:BT}{es:AC}{sq:Nat->Option Rat}(aJ:fQ rs r f j ti)(row:cj ⇑rs ds os)(tp:jH r f j ti tz ds os es sq){k:Nat}{q:Rat}(hk:k<⇑es)(hs:sq k=some q):∃q',rM r f j tz os k=some q'/\q<=q':=by
 let r1:=aJ.r1;let f1:=aJ.f1;let ll:=row.len;let te:=tp.len;let qP:=wI (tz:=tz) row _ (aZ ⇑os);let wa:⇑(cK j tz os)=es.length+1:=by unfold cK;rw[cH,lV (ds:=ds) row _ (aZ _),te];rfl
 let key:∀k,∃x:Rat,k<=⇑es->0<=x/\(∀b,(cK j tz os)[k]? =some b->x<=b)/\(∀q,fS sq k=some q->q<=x+(f:Rat)/\x<=q+(r:Rat))/\∀q,sq k=some q->q<=x+(r:Rat)/\x<=q+(f:Rat):=λk=>by
  by_cases h:k<=⇑es
  ·obtain⟨b,eb⟩:∃b,(cK j tz os)[k]? =some b:=#[_,bf bI]
   let(x,x0,x1,x2,x3):=a9e bI bI (tp.meet k b eb);erw[x,λ_=>#[x0,λb' jo=>by rw[eb]at jo;cases jo;erw[x1],x2,x3]]
  ·erw[0,λh'=>absurd h' h]
 obtain⟨X,hX⟩:∃X:Nat->Rat,∀k,k<=⇑es->0<=X k/\(∀b,(cK j tz os)[k]? =some b->X k<=b)/\(∀q,fS sq k=some q->q<=X k+(f:Rat)/\X k<=q+(r:Rat))/\∀q,sq k=some q->q<=X k+(r:Rat)/\X k<=q+(f:Rat):=#[λk=>Classical.choose (key k),λk=>IF (key k)];clear key;let stp:∀k q,k<⇑es->sq k=some q->q<=X k+(r:Rat)/\q<=X (k+1)+(f:Rat)/\X (k+1)<=X k+2*(r:Rat)/\X k<=X (k+1)+2*(f:Rat):=λk q hk hq=>by let(_,_,_,a):=hX k bI;let(_,_,b,_):=hX (k+1) bI;let a:=a q hq;let b:=b q hq;erw[a.1,b.1,zn]<;>grind
 let dS:∀i,⇑(bW os (i+1))=⇑(bW os i)+⇑(dg os i):=λi=>by show⇑(bW os i++dg os i)=_;rw[cH]
 let at':∀{i c:Nat},i<⇑os->c<⇑(dg os i)->At j tz ds os (⇑(bW os i)+c) i c:=λ{i c} hi hc=>by
  let hm:=qQ os (show i+1<=⇑os by omega);have:=dS i;let(i',c',a):=wV (j:=j) (tz:=tz) row (show⇑(bW os i)+c<(bW os ⇑os).length by omega);let e:=a.ek;let kP:=a.hc;let d1:=dS i';have:i'=i:=by
   rcases Ox i' i with h|h|h
   ·have:=qQ os (show i'+1<=i by omega);omega
   ·erw[h]
   ·have:=qQ os (show i+1<=i' by omega);omega
  subst this;have:c'=c:=by omega
  subst this;erw[a]
 let Xr:∀{i:Nat}{ns:Ar}{sp:Int},os[i]? =some (some (ns,sp))->∀c,c<aF ns->∃q,sq (⇑(bW os i)+c)=some q/\q<=oR tz sp:=λ{i ns sp} eo c hc=>by
  let hi:=(ck.mp eo).1;let uR:⇑(dg os i)=aF ns:=by rw[jX eo,bC,fV]
  let a:=at' hi (show c<⇑(dg os i) by omega);let hm:=qQ os (show i+1<=⇑os by omega);let d1:=dS i;obtain⟨e,ee⟩:∃e,es[⇑(bW os i)+c]? =some e:=#[_,bf bI];rcases tp.kind row a ee with⟨dv,_⟩|⟨gO,iC,q,dv,_,_,hq,_,qt,_⟩
  ·rw[eo]at dv;cases dv
  ·rw[eo]at dv;cases dv;erw[q,hq,qt]
 let ups:∀{i:Nat}{ns:Ar}{sp:Int},os[i]? =some (some (ns,sp))->(∀c,c<=aF ns->X (⇑(bW os i)+c)<=X ⇑(bW os i)+(c:Rat)*(2*(r:Rat)))/\∀d,d<=aF ns->X (⇑(bW os i)+(aF ns-d))<=X (⇑(bW os i)+aF ns)+(d:Rat)*(2*(f:Rat)):=λ{i ns sp} eo=>by
  let hi:=(ck.mp eo).1;let uR:⇑(dg os i)=aF ns:=by rw[jX eo,bC,fV]
  let hm:=qQ os (show i+1<=⇑os by omega);let d1:=dS i;let one:∀c,c<aF ns->X (⇑(bW os i)+c+1)<=X (⇑(bW os i)+c)+2*(r:Rat)/\X (⇑(bW os i)+c)<=X (⇑(bW os i)+c+1)+2*(f:Rat):=λc hc=>by let(q,hq,_):=Xr eo c hc;exact(stp _ q bI hq).2.2
  erw[Pa (X:=λc=>X (⇑(bW os i)+c)) λc hc=>(one c hc).1,Zq (X:=λc=>X (⇑(bW os i)+c)) λc hc=>(one c hc).2]
 let kp:Keeps ⇑os (iF j tz os) (sB os) (2*r) (2*f) (λi=>X ⇑(bW os i)):=by
  let lead:∀i m,i<⇑os->sB os i=some m->∃ns sp,os[i]? =some (some (ns,sp))/\aF ns=m:=λi m hi h=>by obtain⟨o,eo⟩:∃o,os[i]? =some o:=#[_,bf hi];cases o with |none=>unfold sB at h;rw[_O.mI eo]at h;cases h |some p=>let(ns,sp):=p;rw[Ld eo]at h;cases h;erw[ns,sp,eo,rfl]
  let cast:∀(z:Int)(m:Nat),((2*z*(m:Int):Int):Rat)=(m:Rat)*(2*(z:Rat)):=λz m=>by rw[rj,rj,Rat.mul_comm];rfl
  erw[λi hi=>?_,λi m hi h=>?_,λi m hi h=>?_]
  ·let hm:=qQ os hi
   let(_,b,_):=hX ⇑(bW os i) bI;by_cases he:i=⇑os
   ·subst he
    erw[b _ ?_];rw[CJ,qP];erw[Nv row]
   ·let g:=Hr row (show i<⇑os by omega)
    let a:=at' (show i<⇑os by omega) (show 0<⇑(dg os i) by omega);let e:=a.bd;rw[Oz,wU a.hi]at e;erw[b _ e]
  ·let(ns,sp,eo,rfl):=lead i m hi h
   let uR:⇑(dg os i)=aF ns:=by rw[jX eo,bC,fV]
   show X ⇑(bW os (i+1))<=X ⇑(bW os i)+_;rw[dS,uR,cast];exact(ups eo).1 _ (aZ _)
  ·let(ns,sp,eo,rfl):=lead i m hi h
   let uR:⇑(dg os i)=aF ns:=by rw[jX eo,bC,fV]
   show X ⇑(bW os i)<=X ⇑(bW os (i+1))+_;rw[dS,uR,cast];have:=(ups eo).2 _ (aZ _);rw[BO,Oz]at this;erw[this]
 let VC:∀i,i<=⇑os->X ⇑(bW os i)<=dX r f j tz os i:=aaf kp;let(i,c,a):=wV (j:=j) (tz:=tz) row (show k<(bW os ⇑os).length by omega);let hi:=a.hi;let hc:=a.hc;let ek:=a.ek;rcases a.kind row with⟨eo,c0,_⟩|⟨ns,sp,eo,cU,_⟩
 ·obtain⟨e,ee⟩:∃e,es[k]? =some e:=#[_,bf hk]
  rcases tp.kind row a ee with⟨_,_,_,hn,_⟩|⟨gO,iC,q,dv,_⟩
  ·rw[hs]at hn;cases hn
  ·rw[eo]at dv;cases dv
 ·subst ek
  rw[FQ hi hc,Cp eo,bV,jN cU];erw[wv];let(q',jc,qt):=Xr eo c cU;rw[hs]at jc;cases jc;let(s1,s2,_,_):=stp _ q hk hs;let u:=(ups eo).1 c bI;let d:=(ups eo).2 (aF ns-(c+1)) bI;rw[show aF ns-(aF ns-(c+1))=c+1 by omega,<-Nat.add_assoc]at d;let p1:=VC i bI;let p2:=VC (i+1) bI;let uR:⇑(dg os i)=aF ns:=by rw[jX eo,bC,fV]
  rw[dS,uR]at p2;let e1:((r*(2*(1+(c:Int))-1):Int):Rat)=(c:Rat)*(2*(r:Rat))+(r:Rat):=by rw[show r*(2*(1+(c:Int))-1)=(c:Int)*(2*r)+r by grind,Im,rj,rj];rfl
  let e2:((f*(2*((aF ns:Int)-(1+(c:Int)))+1):Int):Rat)=((aF ns-(c+1):Nat):Rat)*(2*(f:Rat))+(f:Rat):=by
   let z:(aF ns:Int)-(1+(c:Int))=((aF ns-(c+1):Nat):Int):=by omega
   rw[z,show f*(2*((aF ns-(c+1):Nat):Int)+1)=((aF ns-(c+1):Nat):Int)*(2*f)+f by grind,Im,rj,rj];rfl
  erw[iq (iq ?_ qt) ?_]
  ·rw[e1];grind
  ·rw[e2];grind
end
end _c
namespace _c
universe _L _d _l _C _P _W _R
section
def aeG{t:Int}(h:q<=q')(e:fh ti q t=true):fh ti q' t=true:=by
 let h:=(Rat.le_iff _ _).mp h;let e:=kg e;erw[cy ?_];let d0:(0:Int)<(q.den:Int):=by have:=q.den_pos;omega
 let d1:(0:Int)<=(q'.den:Int):=by omega
 let s0:0<=t*t:=by
  rcases j04 0 t with h|h
  ·erw[fy h h]
  ·erw[OO h h]
 let a1:=Fb e d1;let a2:=xD h s0;erw[Int.le_of_mul_le_mul_right ?_ d0];let e1:ti*ti*(q.den:Int)*(q'.den:Int)=ti*ti*(q'.den:Int)*(q.den:Int):=by grind
 let e2:t*t*q.num*(q'.den:Int)=t*t*(q.num*(q'.den:Int)):=by grind
 let e3:t*t*(q'.num*(q.den:Int))=t*t*q'.num*(q.den:Int):=by grind
 rw[e1,e2]at a1;rw[e3]at a2;erw[fW a1 a2]
def a2x(h1:1<=ti)(h2:ti<=100)(q0:0<q)(bq:Bd 2000 q)(zy:Bd 2000 q')(h:q<=q'):ku ti q'<=ku ti q:=by let CF:0<q':=a1i q0 h;let(a1,_,a2,a3):=Cf h1 h2 q0 bq;let(b1,_,b2,b3):=Cf h1 h2 CF zy;erw[Int.not_lt.mp λbu=>?_];let e:=MG (t:=ku ti q'-1) (gT (yi CF)) bI bI (aeG h a2);rw[e]at b3;cases b3
end
end _c
set_option maxHeartbeats 1000000
namespace _c
universe _L _d _l _C _P
open _R (div_pos)
section
def VB:Ar:=[10^3,10^6,10^9,10^12,10^16,10^20,10^30,10^39]
def a7g(h:0<z):bj H v (Rat.divInt 1 z)↔∃p,v= .ref p/\aW K H p [.int 1,.int z]:=by
 let e:(#[1,z.toNat,aE,by simp]:Rat)=Rat.divInt 1 z:=by rw[<-vq #[1,z.toNat,aE,by simp]];show Rat.divInt 1 (z.toNat:Int)=_;rw[F9 aE]
 rw[<-e];show(∃p,v= .ref p/\aW K H p [.int 1,.int (z.toNat:Int)])↔_;rw[F9 aE]
inductive a44|mk p sv q N(_:vs=[.ref p,sv])(_:gI H p)(_:bj H sv q)(_:0<q)(_:Bd N q)(_:200<=N)(_:N<=1980)(_:∀v q' H',bj H' v q'->0<q'->Bd (N+20) q'->bF p H H'->Q v H')
def RF:bA ["_law_bag_here","_law_square","_law_kind","_law_p","_law_q"] ["_law_bag_here","_law_square"] (aY TU):=bJ aP
def a7Q(AA:a0q):a0n "_law_other_square" 2 a44:=by
 exists AA.adY.has,RF,eQ λ_ _=>rfl
 ·let(p,sv,q,N,rfl,bg,Rq,q0,bq,n1,n2,k):=h
  let nd:=RF.nd;erw[_,%[pS 2 nd (pf (eK AA) hr %[0,aA|az]),fz u8 (cX K Z (n:=2) Z %[ba 3 nd,ba 4 nd|cW]),(bp (bL (cJ K Z hr.units) w4 aA (bc _)) (aG (aQ (dA %[aA,px K (cY %[aM mx aA aA,aM mx aA aA,aM mx aA aA,aM mx aA aA,aM mx aA aA,aM mx aA aA,aM mx aA aA,aM mx aA aA|az]) (pf (eK AA) hr %[0,aA|az])|az]))) bE),bp (bL (cJ K Z hr.units) w4 aA (bc _)) (aG (aQ (pf (uv AA) hr %[aM cM L2 aA,4|az]))) bE,(bp (bL (cJ K Z hr.units) w4 aA (bc _)) (aG (aQ (pf (uv AA) hr %[eR (x:="max") (Nl Z) Z (AA.B.at "max") EW %[aA,aM ip L2 aA|az],4|az]))) bE),(bp (bL (cJ K Z hr.units) w4 aA (bc _)) (aG (aQ (pf (uv AA) hr %[aM bO L2 (aM cM aA (pf (eK AA) hr %[0,aA|az])),aM bO M2 (aM cM aA (pf (eK AA) hr %[0,aA|az]))|az]))) bE),(bp (bL (cJ K Z hr.units) w4 aA (bc _)) (aG (aQ (pf (uv AA) hr %[aM cM L2 (aM bO M2 (aM cM aA (pf (eK AA) hr %[0,aA|az]))),4|az]))) bE),(bp (bL (cJ K Z hr.units) w4 aA (bc _)) (aG (aQ (pf (uv AA) hr %[(eR (x:="max") (Nl Z) Z (AA.B.at "max") EW %[aA,aM ip (aM cM (aM bO L2 aA) aA) (aM bO aA (pf (eK AA) hr %[0,aA|az]))|az]),aM bO M2 aA|az]))) bE),(aQ (dA %[aM cM aA (pf (eK AA) hr %[0,aA|az]),aA|az]))|aG],?_,B,ww,p,7,Z,bg,aw,aw,λkd H1 k0 k1 b1=>?_];let(a,rfl,hq):=id Rq;let hq1:aW K H1 a [.int q.num,.int q.den]:=hq.t (bF.t bg b1);erw[ww,a,ww,hq1,wE];let qn:=yi q0;let qd:=q.den_pos;let hN:=bq.num;let hD:=bq.den;let p20:(2:Nat)^(N+20)=2^N*1048576:=by rw[Os]
  let p0:0<(2:Nat)^N:=Nat.pow_pos aw;let wd:∀z:Int,z.natAbs<2^(N+20)->Wd z:=λz hz=>dJ hz (rA aw aE);let p30:(1000:Nat)<=2^N:=cL (by decide:1000<=2^200) (rA aw n1);let fr:∀(x y:Int)(H2:Hp),0<x->0<y->x.natAbs<2^(N+20)->y.natAbs<2^(N+20)->bF p H H2->Qs [.int x,.int y] H2 Q (λ_ _ _=>False):=by intro x y H2 hx hy bx by' b2;erw[x,y,Z,hy,wd y by',λv H3 R3 s3=>k v _ H3 R3 (div_pos hx hy) (ny aE bx by') (b2.ao (.fK b2.bw s3))]
  let mul:∀{x:Int}{c:Int},0<=x->x.natAbs<2^N->0<=c->c<1000000->(x*c).natAbs<2^N*1000000:=λ{x c} h0 h1 c0 c1=>by rw[ij];erw[dJ (Tm9 h1 (by lia:c.natAbs<=999999) aw) (Nat.mul_le_mul_left _ aw)]
  erw[ww,.inl #[_,_,Z,Z,_,Z,?_]];by_cases h6:kd=6
  ·rw[cy h6]
   erw[bB ?_];let cp:∀j:Int,0<=j->j<=1000000->a19 10 j:=λj h1 h2=>#[h1,h2,aw];erw[wr,cp _ aw aw,wr,cp _ aw aw,wr,cp _ aw aw,wr,cp _ aw aw,wr,cp _ aw aw,wr,cp _ aw aw,wr,cp _ aw aw,wr,cp _ aw aw,?_,B,bM Z,λl H2 n2=>?_];let b2:bF p H H2:=b1.ao (.fK b1.bw n2.ss);let lp:l≠p:=λe=>b1.bw.ne (e▸n2.no);erw[ww,p,8,Z,b2.bw,aw,aw,λi H3 i0 i1 b3=>?_];let(z,mz,ez):=XO VB (i:=i) i0 (by show i<8;erw[i1]);let hz:0<z/\z.natAbs<2^200:=by simp only[VB,dj,gy,jM]at mz;rcases mz with rfl|rfl|rfl|rfl|rfl|rfl|rfl|rfl<;>erw[aP,aP]
   erw[.inl #[l,_,i,.int z,wP,aK.of (b3.ss _ _ lp n2.at'),ez,?_],B,bM Z,λt H4 n4=>?_,B,k _ (Rat.divInt 1 z) H4 ((a7g hz.1).mpr #[t,Z,aW.of n4.at']) (div_pos aw hz.1) ?_ (b2.ao (b3.ao (.fK b3.bw n4.ss)))];exact(ny (n:=200) aE aw hz.2).sK aE
  rw[dh h6];erw[aX #[ww,.inl #[_,_,Z,Z,_,Z,?_]]];by_cases h0:kd=0
  ·rw[cy h0]
   erw[bB #[Wk,ww,fr _ _ H1 aE aE aE aE b1]]
  rw[dh h0];erw[aX #[ww,.inl #[_,_,Z,Z,_,Z,?_]]];by_cases h1:kd=1
  ·rw[cy h1]
   erw[bB #[Wk,_,wp,fr _ _ H1 (by split<;>lia) aE (by split<;>lia) aE b1]]
  rw[dh h1];erw[aX #[ww,.inl #[_,_,Z,Z,_,Z,?_]]];by_cases h2:kd=2
  ·rw[cy h2]
   erw[bB #[wp,p,20,Z,b1.bw,aw,aw,λx H2 x0 x1 b2=>?_],B,wr,wr,.of_right (cB aE aE),?_,B,wp,p,20,Z,b2.bw,aw,aw,λy H3 y0 y1 b3=>?_,B,wr,wr,.of_right (cB aE aE),?_];let m1:=mul (x:=q.num) (c:=1+x) aE hN aE aE;let m2:=mul (x:=(q.den:Int)) (c:=1+y) aE aE aE aE;erw[fr _ _ H3 (eY qn aE) (eY aE aE) aE aE (b1.ao (b2.ao b3))]
  rw[dh h2];erw[aX #[ww,.inl #[_,_,Z,Z,_,Z,?_]]];by_cases h3:kd=3
  ·rw[cy h3]
   erw[bB #[ZB,p,50,Z,b1.bw,aw,aw,λx H2 x0 x1 b2=>?_],B,wr,wr,.of_right (cB aE aE),jp];let m2:=mul (x:=(q.den:Int)) (c:=1+x) aE aE aE aE;let m3:0<(q.den:Int)*(1+x):=eY aE aE;erw[fr _ _ H2 aE aE aE aE (b1.ao b2)]
  rw[dh h3];erw[aX #[ww,.inl #[_,_,Z,Z,_,Z,?_]]];by_cases h4:kd=4
  ·rw[cy h4]
   erw[bB #[Wk,.of_right (cB aw aw),wr,ww,p,2,Z,b1.bw,aw,aw,λx H2 x0 x1 b2=>?_],B,wr,.of_left (cB aw aw),wr,_,Wp,.of_right (cB aw aw),?_];let m1:=mul (x:=q.num) (c:=1000) aE hN aE aE;let m2:=mul (x:=(q.den:Int)) (c:=1000) aE aE aE aE;erw[fr _ _ H2 (by split<;>lia) aE (by split<;>lia) aE (b1.ao b2)]
  rw[dh h4];erw[aX #[ww,p,1600,Z,b1.bw,aw,aw,λx H2 x0 x1 b2=>?_],B,wr,bM Z,λt H3 n3=>?_];let b02:=b1.ao b2;erw[k _ ((1+x:Int):Rat) H3 #[t,Z,aW.of n3.at'] (Rat.intCast_pos.mpr aE) #[?_,?_] (b02.ao (.fK b02.bw n3.ss))]
  ·show(1+x).natAbs<_
   lia
  ·show 1<_
   lia
end
end _c
set_option maxHeartbeats 2000000
namespace _c
universe _L _d _l _C _P
section
def jL(ti:Int)(N:Nat)(e:aj):Prop:=iM e\/∃zs q,e=fq ti zs q/\0<q/\Bd N q
def zK(ti:Int)(N:Nat)(e e':aj):Prop:=(iM e/\e'=e)\/∃zs q q',e=fq ti zs q/\e'=fq ti zs q'/\0<q'/\Bd N q'
def jL.r(h:jL ti N e):zK ti N e e:=by
 rcases h with h|⟨zs,q,rfl,h1,h2⟩
 ·erw[.inl #[h,Z]]
 ·erw[.inr #[zs,q,q,wP,h1,h2]]
theorem zK.sK(h:zK ti N e e')(l:N<=M):zK ti M e e':=by
 rcases h with h|⟨zs,q,q',h1,h2,h3,h4⟩
 ·erw[.inl h]
 ·erw[.inr #[zs,q,q',h1,h2,h3,h4.sK l]]
def zK.b(h:zK ti N e e'):jL ti N e':=by
 rcases h with⟨h,rfl⟩|⟨zs,_,q',_,rfl,h1,h2⟩
 ·erw[.inl h]
 ·erw[.inr #[zs,q',Z,h1,h2]]
def jL.no{ti:Int}{N:Nat}(h:jL ti N e):eH e=true:=by
 rcases h with(⟨n,rfl,_⟩|⟨wd,z,rfl,_⟩)|⟨zs,q,rfl,_⟩
 ·rfl
 ·rfl
 ·erw[Aa _ _ _]
def Q0(h:fq ti zs q=fq ti oh q'):zs=oh:=by simp only[fq,PyData.tuple.injEq,List.cons.injEq,true_and,and_true]at h;exact(a1C (f:=PyData.int) (λx y e=>by injection e)).mp h.1
def J4(h:iM (fq ti zs q)):False:=by rcases h with⟨n,e,_⟩|⟨w,z,e,_⟩<;>simp[fq]at e
structure oT(ti:Int)(N:Nat)(es df:AC):Prop where
 len:⇑df=es.length
 ent:∀(k:Nat)(e e':aj),es[k]? =some e->df[k]? =some e'->zK ti N e e'
def oT.E4(ch:oT ti N es df):∀e∈df,jL ti N e:=λe he=>by let(k,hk):=xA.mp he;let hl:=(ck.mp hk).1;obtain⟨e0,e1⟩:∃u,es[k]? =some u:=#[_,bf (by have:=ch.len;omega)];exact(ch.ent k e0 e e1 hk).b
theorem oT.sK(ch:oT ti N es df)(l:N<=M):oT ti M es df:=#[ch.len,λk e e' h1 h2=>(ch.ent k e e' h1 h2).sK l]
def oT.put{ti:Int}{N M:Nat}{es df:AC}{k:Nat}{zs:Ar}{q q2:Rat}(ch:oT ti N es df)(l:N<=M)(ek:df[k]? =some (fq ti zs q))(p:0<q2)(b:Bd M q2):oT ti M es (df.set k (fq ti zs q2)):=by
 erw[by rw[xB];erw[ch.len],λk' e e2 h1 h2=>?_];by_cases hk:k=k'
 ·subst hk
  rw[BX (ck.mp ek).1]at h2;cases h2;rcases ch.ent k e _ h1 ek with⟨o,e3⟩|⟨oh,q1,q',e3,e4,_,_⟩
  ·exact(J4 (e3▸o)).elim
  ·have:=Q0 e4
   subst this;erw[.inr #[zs,q1,q2,e3,Z,p,b]]
 ·rw[IA hk]at h2
  exact(ch.ent k' e e2 h1 h2).sK l
def VV{v:V}(h:RD K H v d)(o:iM d):∃a z us,v= .ref a/\aW K H a (.str z::us)/\PyData.eqv (.str z) (.str "step")=false/\SeqAt.shaped (.str z)=true:=by
 let wd:∃z u,d= .tuple [.str z,u]/\PyData.eqv (.str z) (.str "step")=false/\SeqAt.shaped (.str z)=true:=by
  rcases o with⟨n,rfl,_⟩|⟨w',s',rfl,hw,_⟩
  ·erw[wT,wS,aP]
  ·rcases hw with rfl|rfl
   ·erw[wT,tS,aP]
   ·erw[wT,mS,aP]
 let(z,u,rfl,ez,sz):=wd;let(ya,yy,rfl,a1,a2):=h.cD;let(y1,yr,rfl,c1,a2):=a2.cons_inv;cases c1.str_inv;erw[ya,z,yr,Z,a1,ez,sz]
def FL{v:V}(h:RD K H v (fq ti zs q)):∃a y2 y4 us,v= .ref a/\aW K H a (.str "step"::y2:: .int (ku ti q)::y4::us)/\RD K H y2 (.tuple (zs.map PyData.int))/\bj H y4 q:=by let(ya,yy,rfl,a1,a2):=h.cD;let(y1,yr,rfl,c1,a2):=a2.cons_inv;let(y2,yr,rfl,c2,a2):=a2.cons_inv;let(y3,yr,rfl,c3,a2):=a2.cons_inv;let(y4,yr,rfl,c4,a2):=a2.cons_inv;cases c1.str_inv;cases c3.int_inv;erw[ya,y2,y4,yr,Z,a1,c2,jP c4]
def Af:SeqAt.shaped (.str "step")=true:=by decide+kernel
inductive a4o|mk p mv tv rs r f j ti es(_:vs=[.ref p,mv,tv])(_:gI H p)(_:RD K H mv (fC rs r f j ti))(_:fQ rs r f j ti)(_:RD K H tv (.list es))(_:0<⇑es)(_:⇑es<=3000)(_:(∀e∈es,jL ti 1760 e))(_:∀l ys df H',H l=none->H' l=some (.bi ys)->aH K H' ys df->oT ti 1900 es df->bF p H H'->Q (.ref l) H')
def Su:bA ["_law_bag_here","_law_machine_here","_law_tape","_law_found","_law_less_here","_law_turn","_law_at","_law_square"] ["_law_bag_here","_law_machine_here","_law_tape"] (aY UD):=bJ aP
def a8g(AA:a0q):a0n "_law_changed" 3 a4o:=by
 exists AA.aee.has,Su,ka λ_ _ _=>rfl
 ·let(p,mv,tv,rs,r,f,j,ti,es,rfl,bg,rm,aJ,rt,l0,l1,eb,k):=h
  let nd:=Su.nd;erw[_,%[pS 3 nd (gY (x:="list") (yE K Z) Z (AA.B.at "list") jt %[2|az]),pS 4 nd (pf (eK AA) hr %[0,aA|az]),(gh fc Z (pZ Z (AA.B.at "range") %[aM cM aA (pf (eK AA) hr %[0,aA|az])|az]) (ba 5 nd) %[(pS 6 nd (pf (eK AA) hr %[0,dC K AA.B %[3|az]|az])),(bp (bL (cJ K Z hr.units) (px K (px K L2 W1) aA) fA (bc _)) %[pS 7 nd (pf (a7Q AA) hr %[0,px K (px K L2 W1) aA|az]),(jQ (bp (bL (cJ K Z hr.units) M2 aA (bc _)) (aG (pS 7 nd (pf (Gp AA) hr %[cY %[7,px K (px K L2 W1) aA|az]|az]))) bE)),(fz (dA %[fA,px K (px K L2 W1) aA,pf (W7 AA) hr %[1,7|az],7|az]) (rW L2 W1 set_list))|aG] bE)|aG]),aQ L2|aG],?_];let lr:=aJ.len;let(ta,xt,rfl,ht,iH):=id rt.lst_inv;let lx:=⇑iH;let nm:=qq rs r f j ti;let t1:=aJ.t1;erw[ww,ta,ww,.inl ht,λl H1 n1=>?_];let b1:bF p H H1:=.fK bg n1.ss;let lp:l≠p:=λe=>bg.ne (e▸n1.no);erw[ww,p,2,Z,b1.bw,aw,aw,λls H2 z0 z1 b2=>?_,B,ww,p,4,Z,b2.bw,aw,aw,λm H3 m0 m1 b3=>?_,B,wr,ww,bI,bI,?_];let HH:=b1.ao (b2.ao b3);let no0:bR es=true:=cA.mpr λd hd=>(eb d hd).no;erw[sQ (Pv:=λi O H'=>bF p H H'/\∃ys df v5 v6 v7,H' l=some (.bi ys)/\aH K H' ys df/\oT ti (1760+20*i) es df/\O=[some (.ref p),some mv,some (.ref ta),some (.ref l),some (.int ls),v5,v6,v7]) ?_ ?_ ?_]
  ·erw[HH,xt,es,xz,_,b3.ss _ _ lp (b2.ss _ _ lp n1.at'),aH.t ((bF.t b1.bw b2).ao (bF.t b2.bw b3)) _ no0 (aH.sK n1.ss _ iH),#[Z,λk e e' h1 h2=>by rw[h1]at h2;cases h2;exact(eb e (gA h1)).r],rfl]
  ·rintro i O H4 hi ⟨b4,ys,df,v5,v6,v7,dl,kL,ch,rfl⟩
   erw[gH ?_];intro E1;let GX:i<4:=by omega
   let lch:=ch.len;let ly:=⇑kL;let yk:bR df=true:=cA.mpr λd hd=>(ch.E4 d hd).no;erw[wp,l,ww,.inl (aK.of dl),p,ww,b4.bw,bI,bI,λax H5 a0 a1 b5=>?_];obtain⟨y,ey⟩:∃y,ys[ax.toNat]? =some y:=#[_,bf bI];let Es:fj ys ax=some y:=cn a0 ey;let t7:=b5.ss _ _ lp dl;let JM:=aH.t (bF.t b4.bw b5) _ yk kL;let ND:=b4.ao b5;let(e',ee,re):=JM.get' _ ey;let key:∀{H':Hp}{IJ:AT}{MD:AC},bF p H H'->H' l=some (.bi IJ)->aH K H' IJ MD->oT ti (1760+20*(i+1)) es MD->∀v5 v6 v7,E1.nx [some (.ref p),some mv,some (.ref ta),some (.ref l),some (.int ls),v5,v6,v7] H':=λh1 h2 h3 h4 v5 v6 v7=>#[h1,xz,v5,v6,v7,h2,h3,h4,Z];rcases ch.E4 e' (gA ee)with o|⟨zs,q,rfl,q0,bq⟩
   ·let(a,z,us,rfl,ha,ez,sz):=VV re o
    erw[wp,.inl #[l,_,ax,.ref a,wP,aK.of t7,Es,.inr #[a,_,0,.str z,wP,ha,cn (dU 0) Z,.inr #[xz,cF _,cF _,sz,Af,wv]]]];rw[ez];erw[aX (key ND t7 JM (ch.sK bI) _ _ _)]
   let(a,y2,y4,us,rfl,ha,r2,r4):=FL re;erw[wp,.inl #[l,_,ax,.ref a,wP,aK.of t7,Es,.inr #[a,_,0,.str "step",wP,ha,cn (dU 0) Z,.inr #[xz,cF _,cF _,Af,Af,wv]]]];rw[sS];erw[bB ?_,B,ZB,.inl #[l,_,ax,.ref a,wP,aK.of t7,Es,.inr #[a,_,3,y4,wP,ha,cn aw Z,p,y4,q,1760+20*i,Z,b5.bw,r4,q0,bq,bI,bI,λv q' H6 r6 CF zy b6=>?_]]];let bt6:=bF.t b5.bw b6;let qR:=b6.ss _ _ lp t7;let Vn:=aH.t bt6 _ yk JM;let(e6,Zc,re6):=Vn.get' _ ey;rw[ee]at Zc;cases Zc;let(a',y2',P4,mX,ea,Yg,r26,Vx):=FL re6;cases ea;erw[λO H'=>aI H6 H'/\∃v' q2,O=[some (.ref p),some mv,some (.ref ta),some (.ref l),some (.int ls),some (.int (0+(i:Int))),some (.int ax),some v']/\bj H' v' q2/\0<q2/\Bd (1760+20*(i+1)) q2,zn]
   ·erw[ww,.inl #[_,_,Z,Z,_,Z,?_]]
    erw[eV (λhc=>?_) (λhc=>?_)]
    ·erw[ZB,.inl #[l,_,ax,.ref a,wP,aK.of qR,Es,.inr #[a,_,3,P4,wP,Yg,cn aw Z,bM Z,λlm H7 n7=>?_]]]
     erw[lm,[v,P4],[q',q],Z,aK.of n7.at',#[r6.go n7.ss,zy.sK bI,Vx.go n7.ss,bq.sK bI,trivial],by simp,λc lv q2 e1 e2 _=>?_]
     match c,e1,e2 with |0,e1,e2=>cases e1;cases e2;erw[n7.ss,xz,rfl,r6.go n7.ss,CF,zy.sK bI] |1,e1,e2=>cases e1;cases e2;erw[n7.ss,xz,rfl,Vx.go n7.ss,q0,bq.sK bI]
    ·erw[aI.refl _,wT,r6,CF,zy.sK bI]
   ·rintro O H7 ⟨s7,v',q2,rfl,r7,p2,Bx⟩
    let rm7:=RD.sK s7 _ (RD.t (bF.t bg (ND.ao b6)) _ nm rm);erw[wp,.inl #[l,_,ax,.ref a,wP,aK.of (s7 _ _ qR),Es,.inr #[a,_,1,y2',wP,Yg.go s7,cn aw Z,?_]],B,wp,mv,v',rs,r,f,j,ti,q2,Z,rm7,r7,Bx.sK bI,t1.1,t1.2,yi p2,λT h1 h2 h3 h4 H8 s8=>?_,B,ww,bM Z,λtq H9 n9=>?_];let eT:T=ku ti q2:=by let(x1,_,x2,x3):=Cf t1.1 t1.2 p2 (Bx.sK bI);erw[Po (gT (yi p2)) #[h1,h3,h4] #[x1,x2,x3]]
    subst eT;let Cw:=s8.ao n9.ss;let Zv:=Cw _ _ (s7 _ _ qR);let ix:iS ⇑ys ax=some ax.toNat:=by unfold iS;rw[aR a0,aR a1]
    erw[wp,l,ys,wr,Zv,ix,?_];let rn:RD K H9 (.ref tq) (fq ti zs q2):=gD (aW.of n9.at') (cm (cF _) (cm (RD.sK (s7.ao Cw) _ r26) (cm (eB _) (cm (r7.go Cw).rd cQ))));erw[key ((ND.ao (b6.ao (.fK b6.bw (s7.ao Cw)))).putL lp n1.no) bQ (aH.Ag Zv (aH.sK (s7.ao Cw) _ Vn) rn yk (Aa _ _ _)) (ch.put bI ee p2 Bx) _ _ _]
  ·rintro O H4 ⟨b4,ys,df,v5,v6,v7,dl,kL,ch,rfl⟩
   erw[ww,k l ys df H4 n1.no dl kL (ch.sK bI) b4]
end
end _c
namespace _c
universe _L _d _l _C _P _W
open _O (oR na dL iN ce iF sB dO OkI OkIs)
section
section
variable {n0:Nat}{r f j ti tz:Int}{ds:AC}{os:BT}{es:AC}{sq:Nat->Option Rat}{fa:Nat->Nat}
def jH.small(tp:jH r f j ti tz ds os es sq)(row:cj n0 ds os)(hz:⇑ds<=30):⇑es<=3000:=by
 let h:=(wH (tz:=tz) row ⇑os (aZ _)).1;have:=tp.len;have:=row.len
 lia
def jH.own(tp:jH r f j ti tz ds os es sq)(row:cj n0 ds os)(hz:⇑ds<=30):lX ti tz ds os es sq (λ_=>0)/\EG r f j tz ds os es sq (λ_=>0) none:=by
 let te:⇑es=dw tz ds os:=tp.len;erw[#[λk e du ee kE=>?_,tp.aeE,Z,by have:=tp.small row hz;lia],λk hk=>?_]
 ·let en:=tp.ent k e du ee kE
  cases hs:sq k with |none=>rw[hs]at en;erw[.eU en.1 en.2] |some q=>rw[hs]at en;let(zs,top,e1,e2,qt,q0,bq,bt,lz):=en;let h:=qZ.stp (ti:=ti) zs top q e1 e2 q0 bq bt lz;rw[aV (pM.mpr qt)]at h;erw[h]
 ·let hk:=Nat.le_min.mp hk
  let wa:⇑(cK j tz os)=dw tz ds os+1:=by unfold cK;rw[cH,lV (ds:=ds) row _ (aZ _)];rfl
  obtain⟨b,eb⟩:∃b,(cK j tz os)[k]? =some b:=#[_,bf (_S.fD (jv hk.2) wa)];unfold gF;rw[aV aE,aV aE,aR Z,vx,eb];show(if jj r f b (fS sq k) (sq k)=true then 0 else 4)=0;rw[tp.meet k b eb,aR rfl]
def lX.a9W(row:cj n0 ds os)(tp:lX ti tz ds os es sq fa)(lk:EG r f j tz ds os es sq fa none):jH r f j ti tz ds os es sq:=by
 let lk:∀k,k<=min ⇑es (dw tz ds os)->gF r f (cK j tz os) (dw tz ds os) ⇑es sq fa k=0:=lk;let el:⇑es=dw tz ds os:=by
  rcases Ox ⇑es (dw tz ds os)with h|h|h
  ·let e:=lk ⇑es bI
   unfold gF at e;rw[aR #[Z,h]]at e;cases e
  ·erw[h]
  ·let e:=lk (dw tz ds os) bI
   unfold gF at e;rw[aV bI,aR #[Z,h]]at e;cases e
 let f0:∀k,k<=⇑es->fa k=0/\jj r f ((cK j tz os).getD k 0) (fS sq k) (sq k)=true:=λk hk=>by
  let e:=lk k bI;unfold gF at e;rw[aV bI,aV bI]at e;by_cases h:fa k=0
  ·rw[aR h]at e
   erw[h,?_];cases hm:jj r f ((cK j tz os).getD k 0) (fS sq k) (sq k)with |true=>rfl |false=>rw[hm]at e;simp at e
  ·rw[aV h]at e;erw[absurd e h]
 erw[el,λk e du ee kE=>?_,tp.lj,λk b eb=>?_]
 ·let en:=tp.ent k e du ee kE
  let fk:=(f0 k (by have:=(ck.mp ee).1;omega)).1;generalize sq k=s at en⊢;generalize fa k=y at en fk;cases en with |eU h1 h2=>erw[h1,h2] |stp zs top q h1 h2 h3 h4 h5 h6=>
   erw[zs,top,h1,h2,?_,h3,h4,h5,h6];by_cases h:top<q
   ·rw[aR h]at fk;cases fk
   ·erw[pM.mp h]
 ·let wa:⇑(cK j tz os)=dw tz ds os+1:=by unfold cK;rw[cH,lV (ds:=ds) row _ (aZ _)];rfl
  let m:=(f0 k (by have:=(ck.mp eb).1;omega)).2;rw[vx,eb]at m;erw[m]
def jL.Kn(h:jL ti N e):eX 7 e:=by
 rcases h with h|⟨zs,q,rfl,_,_⟩
 ·erw[VW h]
 ·erw[Q3 _ _ _]
theorem jL.sK(h:jL ti N e)(l:N<=M):jL ti M e:=by
 rcases h with h|⟨zs,q,rfl,h1,h2⟩
 ·erw[.inl h]
 ·erw[.inr #[zs,q,Z,h1,h2.sK l]]
def jH.E4(tp:jH r f j ti tz ds os es sq):∀e∈es,jL ti 1900 e:=λe he=>by let(k,hk):=xA.mp he;let hl:=(ck.mp hk).1;obtain⟨du,ed⟩:∃u,(dF tz ds os ⇑os)[k]? =some u:=#[_,bf (by have:=tp.len;omega)];let en:=tp.ent k e du hk ed;cases hs:sq k with |none=>rw[hs]at en;erw[.inl en.2] |some q=>rw[hs]at en;let(zs,top,_,e2,_,q0,bq,_):=en;erw[.inr #[zs,q,e2,q0,bq]]
def jH.changed(tp:jH r f j ti tz ds os es sq)(row:cj n0 ds os)(hz:⇑ds<=30){df:AC}(ch:oT ti 1900 es df):∃lj Bm,lX ti tz ds os df lj Bm:=by
 let key:∀k:Nat,∃x:Option Rat×Nat,∀e' du,df[k]? =some e'->(dF tz ds os ⇑os)[k]? =some du->qZ ti du e' x.1 x.2:=by
  intro k;by_cases hk:k<⇑df
  ·obtain⟨e',Zd⟩:∃u,df[k]? =some u:=#[_,bf hk]
   obtain⟨e,ee⟩:∃u,es[k]? =some u:=#[_,bf (by have:=ch.len;omega)];obtain⟨du,ed⟩:∃u,(dF tz ds os ⇑os)[k]? =some u:=#[_,bf (by have:=ch.len;have:=tp.len;omega)];let en:=tp.ent k e du ee ed;let cr:=ch.ent k e e' ee Zd;let fin:∀x:Option Rat×Nat,qZ ti du e' x.1 x.2->∃x:Option Rat×Nat,∀e2 N5,df[k]? =some e2->(dF tz ds os ⇑os)[k]? =some N5->qZ ti N5 e2 x.1 x.2:=λx h=>#[x,λe2 N5 h1 h2=>by rw[Zd]at h1;rw[ed]at h2;cases h1;cases h2;erw[h]];cases hs:sq k with
   |none=>
    rw[hs]at en;rcases cr with⟨o,rfl⟩|⟨zs,q,q',rfl,_⟩
    ·erw[fin (none,0) (.eU en.1 en.2)]
    ·exact(J4 en.2).elim |some q0=>
    rw[hs]at en;let(zs,top,e1,e2,_,_,_,bt,lz):=en;rcases cr with⟨o,rfl⟩|⟨oh,q,q',e3,rfl,p,b⟩
    ·exact(J4 (e2▸o)).elim
    ·have:=Q0 (e2.symm.ao e3)
     subst this;erw[fin (some q',if top<q' then 3 else 0) (.stp zs top q' e1 Z p b bt lz)]
  ·erw[(none,0),λe du ee _=>absurd (ck.mp ee).1 hk]
 erw[λk=>if k<⇑df then(Classical.choose (key k)).1 else none,λk=>if k<⇑df then(Classical.choose (key k)).2 else 0,λk e du ee kE=>?_,aV (xu _),aV (xu _),by have:=tp.small row hz;have:=ch.len;omega];rw[aR (ck.mp ee).1,aR (ck.mp ee).1];erw[IF (key k) e du ee kE]
end
def YZ(h:jL ti N e):(∃l,e= .tuple l)/\eH e=true:=by
 rcases h with(⟨n,rfl,_⟩|⟨wd,z,rfl,_⟩)|⟨zs,q,rfl,_⟩
 ·erw[#[_,Z],Z]
 ·erw[#[_,Z],Z]
 ·erw[#[_,Z],Aa _ _ _]
def Qb(eb:∀e∈es,jL ti N e)(bg:gI H p)(b:bF p H H')(ht:aK K H ta xt)(iH:aH K H xt es):aK K H' ta xt:=by
 rcases ht with(h|⟨o,h⟩)|h
 ·erw[aK.of (b.ss _ _ (λe=>?_) h)]
  subst e;let(c,m,e1,_):=bg;rw[h]at e1;cases e1;let(d,ed,rd):=iH.get' 0 rfl;let((l,rfl),_):=YZ (eb d (gA ed));let(_,_,h,_):=rd.cD;cases h
 ·erw[.inl (.inr #[o,b.ss _ _ (bg.WG h (λxs e=>by cases e)) h])]
 ·erw[.inr h]
def MS(eb:∀e∈es,jL ti N e):bR es=true:=cA.mpr λd hd=>(YZ (eb d hd)).2
def a9I{es:AC}{ti:Int}{N:Nat}(eb:∀e∈es,jL ti N e)(bg:gI H p)(b:bF p H H')(rt:RD K H tv (.list es)):RD K H' tv (.list es):=by let(ta,xt,rfl,ht,iH):=id rt.lst_inv;erw[rP (Qb eb bg b ht iH) (aH.t (bF.t bg b) _ (MS eb) iH)]
theorem Pu{rs:Ar}{r f j ti tz:Int}{ds:AC}{os:BT}(aJ:fQ rs r f j ti)(row:cj ⇑rs ds os)(cV:RowW ds os)(hz:⇑ds<=30)(h1:10<=tz)(h3:tz<=200):∀i,i<=⇑os->∀d∈kv r f j ti tz ds os i,jL ti 1760 d
 |0,_,_,h=>nomatch h |i+1,h,x,hx=>by
  let ll:=row.len;obtain⟨o,eo⟩:∃o,os[i]? =some o:=#[_,bf (show i<⇑os by omega)];obtain⟨d,ed⟩:∃d,ds[i]? =some d:=#[_,bf (show i<⇑ds by omega)];rcases kj.mp hx with h2|h2
  ·erw[Pu aJ row cV hz h1 h3 i bI x h2]
  ·cases o with |none=>rw[Hl eo ed,gz]at h2;subst h2;erw[.inl (cV i _ eo ed)] |some q=>let(ns,sp):=q;let r1:=aJ.r1;let f1:=aJ.f1;let Eo:=K7 aJ row hz h1 h3;let nn:∀i,i<=⇑os->0<=dX r f j tz os i:=K4 bI bI λi _=>_O.ur j tz os i;let(bX,cT,dM):=row.ok i ns sp eo;rw[Br eo]at h2;let(c,hc,rfl):=gS.mp h2;let cU:c<aF ns:=OE.mp hc;let lO:=nG bX;let yW:=G4 r1.1 r1.2 cU lO;let yV:=Hi f1.1 f1.2 cU lO;erw[.inr #[wT,KC bI bI cU (Ce cT h1) (nn i bI) (nn (i+1) bI),?_],B,ph (ph ((jG (Eo i bI) (by rw[jz];omega)).sK aw) ((_O.mZ cT dM h1 h3).sK aw)) ((jG (Eo (i+1) bI) (by rw[jz];omega)).sK aw)]
def jH.pair{rs:Ar}{r f j ti tz:Int}{ds:AC}{os:BT}{es:AC}{sq:Nat->Option Rat}(aJ:fQ rs r f j ti)(row:cj ⇑rs ds os)(cV:RowW ds os)(hz:⇑ds<=30)(h1:10<=tz)(h3:tz<=200)(tp:jH r f j ti tz ds os es sq){k:Nat}{e0 e:aj}(h0:(kv r f j ti tz ds os ⇑os)[k]? =some e0)(he:es[k]? =some e):(iM e0/\e=e0)\/∃zs q q',e0=fq ti zs q'/\e=fq ti zs q/\0<q/\q<=q'/\Bd 1900 q/\Bd 1900 q':=by let t0:=Pr aJ row cV hz h1 (dU tz) h3;obtain⟨du,ed⟩:∃u,(dF tz ds os ⇑os)[k]? =some u:=#[_,bf (by have:=tp.len;have:=(ck.mp he).1;omega)];let a:=t0.ent k e0 du h0 ed;let b:=tp.ent k e du he ed;cases hs:sq k with
 |none=>rw[hs]at b;let(rfl,o):=b;cases Dy:rM r f j tz os k with |none=>rw[Dy]at a;erw[.inl #[a.2,a.1.symm]] |some q'=>rw[Dy]at a;let(zs,top,e1,_):=a;exact(N1 o e1).elim
 |some q=>let(q',Dy,le):=tp.aa2 aJ row (ck.mp he).1 hs;rw[hs]at b;rw[Dy]at a;let(zs,top,e1,e2,_,q0,bq,_):=b;let(oh,FD,zp,wD,_,_,zy,_):=a;let(rfl,_):=Zn (e1.symm.ao zp);erw[.inr #[zs,q,q',wD,e2,q0,le,bq,zy]]
theorem Pk{ti:Int}:∀{T es:AC},⇑T=es.length->(∀(k:Nat) e0 e,T[k]? =some e0->es[k]? =some e->tm e0<=tm e)->(T.map tm).sum<=(es.map tm).sum |[],[],_,_=>dU _ |a::T,b::es,hl,h=>by let h0:=h 0 a b Z rfl;let ih:=Pk (ti:=ti) (T:=T) (es:=es) (by simpa using hl) λk e0 e h1 h2=>h (k+1) e0 e h1 h2;simp only[BV,List.sum_cons];omega
end
end _c
set_option maxHeartbeats 4000000
namespace _c
universe _L _d _l _C _P _W
open _O (oR na dL iN ce iF sB dO OkI OkIs)
section
def LS(Tl:Addr)(H:Hp)(ta:Addr)(xt:AT):Prop:=(ta≠Tl/\aK K H ta xt)\/∀H',aK K H' ta xt
def LS.sq(h:LS Tl H ta xt):aK K H ta xt:=h.elim (·.2) λh=>h H
structure lY(ti tz:Int)(ds:AC)(os:BT)(Tl:Addr)(H:Hp)(tv:V)(es:AC):Prop where
 ex:∃ta xt,tv= .ref ta/\LS Tl H ta xt/\aH K H xt es
 eb:∀e∈es,jL ti 1900 e
 tw:∃sq fa,lX ti tz ds os es sq fa
theorem LS.of(rt:RD K H tv (.list es))(hn:H Tl=none):∃ta xt,tv= .ref ta/\LS Tl H ta xt/\aH K H xt es:=by
 let(ta,xt,rfl,ht,iH):=rt.lst_inv;erw[ta,xt,Z,?_,iH];rcases ht with(h|⟨o,h⟩)|h
 ·erw[.inl #[λe=>(by rw[e,hn]at h;cases h),aK.of h]]
 ·erw[.inl #[λe=>(by rw[e,hn]at h;cases h),.inl (.inr #[o,h])]]
 ·erw[.inr λH'=>.inr h]
def LS.go{xt:AT}(h:LS Tl H ta xt)(s:aI H H'):LS Tl H' ta xt:=h.elim (λh=>.inl #[h.1,s.seq h.2]) .inr
def lY.put{ti tz:Int}{ds:AC}{os:BT}{es:AC}{zs oh:AT}(h:lY ti tz ds os Tl H tv es)(dl:H Tl=some (.bi zs)):lY ti tz ds os Tl (_L.bn H Tl (.bi oh)) tv es:=by
 let(ta,xt,e,ls,r):=h.ex;erw[#[ta,xt,e,?_,aH.t (.iB dl) _ (MS h.eb) r],h.eb,h.tw];rcases ls with⟨ne,(h|⟨o,h⟩)|h⟩|h
 ·erw[.inl #[ne,aK.of ((aU ne).ao h)]]
 ·erw[.inl #[ne,.inl (.inr #[o,(aU ne).ao h])]]
 ·erw[.inl #[ne,.inr h]]
 ·erw[.inr h]
def lY.bw{ti tz:Int}{ds:AC}{os:BT}{es:AC}(h:lY ti tz ds os Tl H tv es)(bg:gI H p)(b:bF p H H'):lY ti tz ds os Tl H' tv es:=by let(ta,xt,e,ls,r):=h.ex;erw[#[ta,xt,e,ls.elim (λl=>.inl #[l.1,Qb h.eb bg b l.2 r]) .inr,aH.t (bF.t bg b) _ (MS h.eb) r],h.eb,h.tw]
theorem lY.go{ti tz:Int}{ds:AC}{os:BT}{es:AC}(h:lY ti tz ds os Tl H tv es)(s:aI H H'):lY ti tz ds os Tl H' tv es:=by let(ta,xt,e,ls,r):=h.ex;erw[#[ta,xt,e,ls.go s,aH.sK s _ r],h.eb,h.tw]
def lY.rd{ti tz:Int}{ds:AC}{os:BT}{es:AC}(h:lY ti tz ds os Tl H tv es):RD K H tv (.list es):=by let(ta,xt,rfl,ls,r):=h.ex;erw[rP ls.sq r]
def afA{b:Bool}(hq:∀c:Bool,(c=true->b=true)->Q (.bl c) H)(hb:∀Q':VK,(∀c,Q' (.bl c) H)->tc O H λw' H4=>r' y w' H4 Q'):a0T r' tc O Q y (.bl b) H:=#[b,Z,by cases b with |false=>erw[hq false (λh=>nomatch h)] |true=>erw[hb Q λc=>hq c λ_=>rfl]]
def a4v(c:Bool):IntMulOk 2 (if c=true then 1 else 0):=.of_left (cB aw aw)
def a5Q(res:Option (Nat×Nat)):eX 1 (JL res):=by cases res with |none=>erw[aP,aP] |some p=>
 let(k,y):=p;let hs:iP 0 [.int (k:Nat),.int (y:Nat)]:=λd hd=>by simp only[dj,gy,jM]at hd;rcases hd with rfl|rfl<;>erw[.int _]
 erw[hs.tup]
def Z4{ti:Int}{N:Nat}{es:AC}(eb:∀e∈es,jL ti N e):∀(i:Nat)(d:aj)(n:Int),es[i]? =some d->(es.map tm)[i]? =some n->Te d n:=λi d n h1 h2=>by
 rw[bV,h1]at h2;cases h2;rcases eb d (gA h1)with o|⟨zs,q,rfl,_⟩
 ·erw[a2D o]
 ·erw[a2C _ _ _]
def RX:bA ["_law_script","_law_k","_law_bag_here","_law_machine_here","_law_place_here","_law_many","_law_most","_law_rate","_law_items_here","_law_told","_law_tapes","_law_turn","_law_tape","_law_where","_law_one","_law_other_here"] ["_law_script"] (aY Ah):=bJ aP
def a7Z(AA:a0q)(F:nU K "law" "law" Ah f fd)(aaN:a0n "tape_of" 10 Je)(ack:a0n "_law_held_tape" 13 Qr)(Yh:a0n "_law_look" 6 Qq)(acj:a0n "_law_looked" 11 Qn):iX P w K mg aB je 15 f fd ["_law_script"] (Jf K):=by
 erw[F.ok RX (λvs H Q E h=>?_) (λaO A outer s H vs Q E hr h=>?_)]
 ·let(a,ns,rfl,_):=h
  rfl
 ·let(a,ns,rfl,hS,hlen,k):=h
  let nd:=RX.nd;erw[_,%[(gh fc Z (pZ Z (AA.B.at "range") %[(aM cM (eR (x:="min") (Nk rfl) rfl (AA.B.at "min") a1t %[aA,dC K AA.B %[0|az]|az]) aA)|az]) (ba 1 nd) %[pS 2 nd (pf (a8j AA) hr %[0,1|az]),pS 3 nd (pf (a7U AA) hr %[2|az]),pS 4 nd (pf (a7N AA) hr %[2,3|az]),fz (pf (a7v AA) hr %[2,fN (cJ K Z hr.units) u8 aA (bc _)|az]) (cX K Z (n:=2) Z %[ba 5 nd,ba 6 nd|cW]),(pS 7 nd (px K (cY %[aA,aA,aA,aM cM aA (pf (eK AA) hr %[2,aA|az])|az]) (pf (eK AA) hr %[2,aA|az]))),pS 8 nd (pf (a80 AA) hr %[2,3,4,5,6|az]),pS 9 nd (pf aaN hr %[3,8,7|az]),(pS 10 nd (cY %[9,pf ack hr %[2,3,4,8,7|az]|az])),(gh fc Z (pZ Z (AA.B.at "range") %[(aM bO aA (gY (x:="int") Bv rfl (AA.B.at "int") xo %[VJ jS jS aA (dC K AA.B %[9|az]) aA|az]))|az]) (ba 11 nd) (aG (fe (ji K Z a0m %[pf (a8g AA) hr %[2,3,9|az]|az])))),bp (bL qg (pf Yh hr %[3,8,7,9|az]) gM (bc _)) (aG (aQ jB)) bE,(gh fc Z (qe K Z a0m) (ba 12 nd) %[pS 13 nd (pf Yh hr %[3,8,7,12|az]),bp (bL (j9 K Z hr.units) (pf acj hr %[3,8,7,12|az]) (pv 13) (bc _)) (aG (aQ jB)) bE,(bp (bL VY (pv 13) gM (bc _)) %[bp (bL jS (pf (W6 AA) hr %[12|az]) (pf (W6 AA) hr %[9|az]) (bc _)) (aG (aQ jB)) bE,gh fc Z (lH K Z true true Z (AA.B.at "zip") %[9,12|az]) (cX K rfl (n:=2) rfl %[ba 14 nd,ba 15 nd|cW]) (aG (bp (PW.pt (nu (bL (cJ K Z hr.units) (px K (pv 14) aA) fA (bc _)) (pX (cg (pf (CW AA) hr %[px K (pv 14) aA,px K (pv 15) aA|az]))))) (aG (aQ jB)) bE))|aG] bE)|aG])|aG]),aQ jB|aG],?_,B,ww,a,ww,.inl hS,wT,jp,zn]
  ·split<;>lia
  ·split<;>(try rw[bC])<;>lia
  let hN:((if(⇑(ns.map V.int):Int)<2 then(⇑(ns.map V.int):Int)else 2)+1).toNat<=32:=by split<;>lia
  erw[sQ (Pv:=λi O H2=>aI H H2/\∃v1 v2 v3 v4 v5 v6 v7 v8 v9 v10 v11 u7 Fv Fu Ft,O=[some (.ref a),v1,v2,v3,v4,v5,v6,v7,v8,v9,v10,v11,u7,Fv,Fu,Ft]) ?_ ?_ ?_]
  ·erw[aI.refl _,none,none,none,none,none,none,none,none,none,none,none,none,none,none,none,Z]
  ·rintro i O H2 hi ⟨s2,v1,v2,v3,v4,v5,v6,v7,v8,v9,v10,v11,u7,Fv,Fu,Ft,rfl⟩
   erw[gH ?_];intro E1;let hi8:i<32:=dJ hi hN;erw[wp,a,ns,ww,s2.seq hS,hlen,zZ aw (cf _),_S.zC (_S.hJ hi8) aw,λp H3 np bg3 s3=>?_,B,ww,p,Z,bg3,λmv rs r f j ti H4 rm aJ b4=>?_];let nm:=qq rs r f j ti;erw[wp,p,mv,rs,r,f,j,ti,Z,b4.bw,rm,aJ,λgL pl H5 vK on b5=>?_];let JK:=RD.t (bF.t b4.bw b5) _ nm rm;erw[wp,.inl #[wr,?_],B,p,ww,b5.bw,λt many most H6 hT m1 m2 m3 m4 b6=>?_,B,t,ww,hT,wE];let t6:=bF.t b5.bw b6;let rm6:=RD.t t6 _ nm JK;let a5A:=RD.t t6 _ (mq _) vK;erw[ww,p,191,Z,b6.bw,aw,aw,λrt H7 r0 r1 b7=>?_,B,wr,bM Z,λc H8 n8=>?_];let b8:bF p H7 H8:=.fK b7.bw n8.ss;let cp:c≠p:=λe=>b7.bw.ne (e▸n8.no);erw[ww,p,4,Z,b8.bw,aw,aw,λix H9 i0 i1 b9=>?_];let hm:∃tz:Int,fj [V.int 10,V.int 200,V.int 100,V.int (10+rt)] ix=some (V.int tz)/\10<=tz/\tz<=200:=by
    rcases(show ix=0\/ix=1\/ix=2\/ix=3 by lia)with rfl|rfl|rfl|rfl
    ·erw[10,Z,aw,aw]
    ·erw[200,Z,aw,aw]
    ·erw[100,Z,aw,aw]
    ·erw[10+rt,Z,_S.NO r0 aw,_S.zC r1 aw]
   let(tz,er,bN,bS):=hm;erw[.inl #[c,_,ix,ww,Z,aK.of (b9.ss _ _ cp n8.at'),er,?_]];let HF:=b7.ao (b8.ao b9);let t9:=bF.t b6.bw HF;let V6:=RD.t t9 _ nm rm6;let V4:=RD.t t9 _ (mq _) a5A;erw[ZB,wp,p,mv,rs,r,f,j,ti,gL,pl,many,most,Z,HF.bw,V6,aJ,V4,on,m1,m2,m3,m4,λiv ds os BK ri row cV hl NB=>?_];let(hl,vM):=hl;let PM:=bF.t HF.bw NB;let Vb:=RD.t PM _ nm V6;let a5C:=RD.t PM _ (mq _) V4;let Lg:⇑ds<=20:=by lia
   let(ia,xi,rfl,Ba,GW):=id ri.cD;let Wz:eH (.tuple ds)=true:=by have:=row.no;simpa[eH]using this
   let n3:=aJ.len;let ll:=row.len;let gJ:aI H2 BK:=(b4.ao (b5.ao (b6.ao (HF.ao NB)))).SG s3 np;erw[ZB,mv,.ref ia,tz,rs,r,f,j,ti,ds,os,Z,Vb,aJ,ri,row,aE,bN,bS,λl1 y1 BJ sj wK uh ky=>?_];let t0:=Pr aJ row cV aE bN (dU tz) bS;let(tw0,Xc):=t0.own row aE;let Eb:=Pu aJ row cV aE bN bS ⇑os (aZ _);let lT:=t0.small row aE;let VA:∀{es:AC}{sq:Nat->Option Rat},jH r f j ti tz ds os es sq->⇑es=(kv r f j ti tz ds os ⇑os).length/\∀(k:Nat)(e0 e:aj),(kv r f j ti tz ds os ⇑os)[k]? =some e0->es[k]? =some e->(iM e0/\e=e0)\/∃zs q q',e0=fq ti zs q'/\e=fq ti zs q/\0<q/\q<=q'/\Bd 1900 q/\Bd 1900 q':=λ{es sq} tp=>#[tp.len.ao t0.len.symm,λk e0 e h0 he=>jH.pair aJ row cV aE bN bS tp h0 he];let ZW:∀{df:AC},oT ti 1900 (kv r f j ti tz ds os ⇑os) df->∃lj Bm,lX ti tz ds os df lj Bm:=λ{df} ch=>t0.changed row aE ch;generalize kv r f j ti tz ds os ⇑os=T at uh t0 tw0 Xc Eb lT VA ZW;let AV:=⇑uh;let tD:bF p BK BJ:=.fK NB.bw ky;let Va:=RD.sK ky _ Vb;let a5B:=RD.sK ky _ a5C;let Vg:=RD.sK ky _ ri;let a5t:RD K BJ (.ref l1) (.list T):=rP (aK.of wK) uh;erw[ZB,ZB,p,mv,gL,.ref ia,tz,rs,r,f,j,ti,pl,ds,os,Z,tD.bw,Va,aJ,a5B,on,Vg,row,cV,vM,Lg,bN,bS,λtv0 eh sqh xh rth Pj vf=>?_,B,bM Z,λTl HV kA=>?_];let PL:=bF.t tD.bw vf;let V9:=RD.t PL _ nm Va;let a5O:=RD.t PL _ Wz Vg;let a5s:=a9I Eb tD.bw vf a5t;let(tw1,_):=Pj.own row aE;let b17:bF p xh HV:=.fK vf.bw kA.ss;let Tp:Tl≠p:=λe=>vf.bw.ne (e▸kA.no);let IS:lY ti tz ds os Tl HV (.ref l1) T:=#[by let(ta,xt,e,ls,r):=LS.of a5s kA.no;erw[ta,xt,e,ls.go kA.ss,aH.sK kA.ss _ r],λe he=>(Eb e he).sK aw,xz,tw0];let tx0:lY ti tz ds os Tl HV tv0 eh:=#[by let(ta,xt,e,ls,r):=LS.of rth kA.no;erw[ta,xt,e,ls.go kA.ss,aH.sK kA.ss _ r],Pj.E4,xz,tw1];let(ta1,xt1,e1,ls1,r1):=IS.ex;cases e1;let lx1:=⇑r1;erw[ww,l1,ww,.inl ls1.sq,wr,afA (λc0 LW=>?_) (λQ' h=>#[wr,h _])];obtain⟨z,ez,z1,z2,z3⟩:∃z:Int,(2*(if c0=true then 1 else 0):Int)=z/\0<=z/\z<=2/\(0<z->0<⇑T):=by
    cases c0
    ·erw[0,Z,aw,aw,λh=>absurd h aw]
    ·erw[2,Z,aw,aw,λ_=>by have:=kg (LW Z);lia]
   erw[.inr #[c0,Z,wr,a4v c0,ww,aE,aE,?_]];rw[ez];erw[sQ (Pv:=λc O H'=>bF p xh H'/\∃v11 zs,O=[some (.ref a),some (.int (0+(i:Int))),some (.ref p),some mv,some gL,some (.int many),some (.int most),some (.int tz),some (.ref ia),some (.ref l1),some (.ref Tl),v11,u7,Fv,Fu,Ft]/\H' Tl=some (.bi zs)/\⇑zs<=2+c/\lY ti tz ds os Tl H' (.ref l1) T/\∀tv∈zs,∃es,lY ti tz ds os Tl H' tv es) ?_ ?_ ?_]
   ·erw[b17,wT,kA.at',aZ _,IS,λtv ht=>?_]
    simp only[dj,gy,jM]at ht;rcases ht with rfl|rfl
    ·erw[_,IS]
    ·erw[_,tx0]
   ·rintro c O O5 hc ⟨bb,IQ,zs,rfl,dT,lz,tx,all⟩
    erw[gH ?_];intro E2;let tb:=bF.t vf.bw bb;let rmb:=RD.t tb _ nm V9;erw[ww,.inl #[Z,_,aK.of dT],?_,B,ZB,p,mv,.ref l1,rs,r,f,j,ti,T,Z,bb.bw,rmb,aJ,tx.rd,z3 aE,lT,Eb,λlc yc ec lZ nc dc rc ZV HG=>?_];let zw:=HG.ss _ _ Tp dT;erw[Tl,zs,ww,Z,zw,xS _ aE,?_];let txc:lY ti tz ds os Tl lZ (.ref lc) ec:=#[#[lc,yc,Z,.inl #[λe=>(by rw[e,dT]at nc;cases nc),aK.of dc],rc],ZV.E4,ZW ZV];erw[(bb.ao HG).putL Tp kA.no,wT,bQ,by rw[cH];show ⇑zs+1<=_;lia,(tx.bw bb.bw HG).put zw,λtv ht=>?_];rcases kj.mp ht with h|h
    ·let(es,x):=all tv h
     erw[es,(x.bw bb.bw HG).put zw]
    ·rw[gz.mp h]
     erw[ec,txc.put zw]
   rintro O O5 ⟨bb,IQ,zs,rfl,dT,lz,tx,all⟩;let tb:=bF.t vf.bw bb;let V8:=RD.t tb _ nm V9;let Vf:=RD.t tb _ Wz a5O;erw[ZB,ww,mv,.ref ia,tz,.ref l1,rs,r,f,j,ti,ds,os,T,xz,none,Z,V8,aJ,Vf,row,aE,bN,bS,tx.rd,tw0,Xc,λx lZ Ap rx=>?_];cases rx.D8;erw[WP,aX ?_];let a5c:aI H2 lZ:=(((tD.ao vf).ao bb).SG gJ np).ao Ap;let(tc1,xc1,e1,Lf,JP):=(tx.go Ap).ex;cases e1;let zw:=Ap _ _ dT;let lxc:=⇑JP;let t1:=aJ.t1;erw[ww,Tl,Z,#[_,aK.of zw],Bk (K:=K) (a:=Tl) (xs:=zs) (λc O H'=>aI lZ H'/\∃A6 IM xG tZ,O=[some (.ref a),some (.int (0+(i:Int))),some (.ref p),some mv,some gL,some (.int many),some (.int most),some (.int tz),some (.ref ia),some (.ref l1),some (.ref Tl),IQ,A6,IM,xG,tZ]) #[aI.refl _,xz,wT] (λc O H' _ h=>aK.of (h.1 _ _ zw)) ?_ ?_]
   ·rintro c tv O zH etv ⟨An,A6,IM,xG,tZ,rfl⟩
    erw[gH ?_];intro E3;let(es,xx):=all tv (gA etv);let x20:=(xx.go Ap).go An;let(sq,fa,tw):=x20.tw;let AG:eX 8 (.list es):=iP.bi (n:=7) λd hd=>(x20.eb d hd).Kn;let(res,lk):=Xo (gF r f (cK j tz os) (dw tz ds os) ⇑es sq fa) (min ⇑es (dw tz ds os));let V7:=RD.sK (Ap.ao An) _ V8;let Ve:=RD.sK (Ap.ao An) _ Vf;erw[ZB,ww,mv,.ref ia,tz,tv,rs,r,f,j,ti,ds,os,es,sq,fa,res,Z,V7,aJ,Ve,row,aE,bN,bS,x20.rd,tw,lk,λv1 H21 G0 JE=>?_,B,ZB,ww,mv,.ref ia,tz,tv,rs,r,f,j,ti,ds,os,es,sq,fa,res,Z,RD.sK G0 _ V7,aJ,RD.sK G0 _ Ve,row,aE,bN,bS,(x20.go G0).rd,AG,tw,lk,λv2 qU UP rv2=>?_];let sf:=(a5Q res).le (show 1<=8 by decide);erw[ww,.inr #[xz,rv2,RD.sK UP _ JE,mh sf,mh sf,wv]];rw[eqv_refl _ sf.lay];erw[aX ?_];let UQ:=G0.ao UP;let UR:=An.ao UQ;erw[ww,Z,wv];cases res with |some pq=>let(k',y'):=pq;let(va,vy,rfl,_):=JE.cD;erw[aX #[UR,xz,wT]] |none=>
     cases JE.D8;erw[bB ?_];let tp:=lX.a9W row tw lk;let(lE,pr):=VA tp;let(IY,xb,rfl,KS,rb):=(x20.go UQ).ex;let lxb:=⇑rb;erw[ww,IY,xb,es,es.map tm,Z,KS.sq,rb,by rw[bC],aE,Z4 x20.eb,λH23 xT=>?_];let Ao:=UR.ao xT;erw[ww,l1,xc1,T,T.map tm,Z,(Lf.go Ao).sq,aH.sK Ao _ JP,by rw[bC],aE,Z4 Eb,λHU gC=>?_];let aaR:(T.map tm).sum<=(es.map tm).sum:=Pk (ti:=ti) lE.symm λk e0 e h0 he=>by
      rcases pr k e0 e h0 he with⟨_,rfl⟩|⟨oh,q,q',rfl,rfl,q0,le,c1,c2⟩
      ·erw[dU _]
      ·rw[IW,IW];erw[a2x t1.1 t1.2 q0 (c1.sK aw) (c2.sK aw) le]
     erw[jp];rw[dh (Int.not_lt.mpr aaR)];erw[aX ?_];let Jv:=xT.ao gC;erw[wp,l1,IY,Z,#[_,(Lf.go (Ao.ao gC)).sq],#[_,(KS.go Jv).sq],M9 (K:=K) (b1:=true) (b2:=true) (xs:=xc1) (ys:=xb) ⇑xc1 aE (λc O EK=>aI HU EK/\∃xG tZ,O=[some (.ref a),some (.int (0+(i:Int))),some (.ref p),some mv,some gL,some (.int many),some (.int most),some (.int tz),some (.ref ia),some (.ref l1),some (.ref Tl),IQ,some (.ref IY),some .bP,xG,tZ]) #[aI.refl _,wT] (λc O EK _ h=>#[(Lf.go ((Ao.ao gC).ao h.1)).sq,(KS.go (Jv.ao h.1)).sq]) ?_ ?_]
     ·rintro c u1 u2 O EK e1 e2 ⟨Am,xG,tZ,rfl⟩ Tq O4 WR
      let(d1,MR,xX):=JP.get' c e1;let(d2,MQ,rQ):=rb.get' c e2;let FZ:=Am.ao WR.ss;let Vy:=RD.sK ((Ao.ao gC).ao FZ) _ xX;let q2':=RD.sK (Jv.ao FZ) _ rQ;erw[Tq,ww,aW.of WR.at',wE];rcases pr c d1 d2 MR MQ with⟨o,rfl⟩|⟨oh,q,q',rfl,rfl,q0,le,c1,c2⟩
      ·let(a1,z',us,rfl,ha,ez',sz):=VV Vy o
       erw[ww,.inr #[a1,_,0,.str z',wP,ha,cn (dU 0) Z,.inr #[xz,cF _,cF _,sz,Af,wv]]];rw[ez'];erw[aX #[FZ,wT]]
      ·let(a1,y2,y4,us,rfl,Hb,_,R1):=FL Vy
       let(a2,z2',z4,mX,rfl,LZ,_,R2):=FL q2';erw[ww,.inr #[a1,_,0,.str "step",wP,Hb,cn (dU 0) Z,.inr #[xz,cF _,cF _,Af,Af,wv]]];rw[sS];erw[bB ?_,B,ww,.inr #[a1,_,3,y4,wP,Hb,cn aw Z,ww,.inr #[a2,_,3,z4,wP,LZ,cn aw Z,y4,z4,q',q,Z,R1,R2,c2.sK aw,c1.sK aw,wv]]];rw[dh (pM.mpr le)];erw[aX #[FZ,wT]]
     ·rintro O EK ⟨Am,xG,tZ,rfl⟩
      erw[(Ao.ao gC).ao Am,xz,wT]
   ·rintro O zH ⟨An,A6,IM,xG,tZ,rfl⟩
    erw[s2.ao (a5c.ao An),xz,xz,xz,xz,xz,xz,_,wT]
  ·rintro O H2 ⟨s2,v1,v2,v3,v4,v5,v6,v7,v8,v9,v10,v11,u7,Fv,Fu,Ft,rfl⟩
   erw[k _]
end
end _c
set_option maxHeartbeats 1000000
namespace _c
universe _L
def sN{K:ag}{mg:bZ}(X:K.In h)(G:h.Ns mainGlobals mg)(a:W.nsIn K mainGlobals x=some (some (.ref c))):GV mg x (.ref c):=#[_,zQ X G a,Z]
def aeo{K:ag}{mg:bZ}(X:K.In h)(G:h.Ns mainGlobals mg)(a:W.nsIn K mainGlobals x=some (some (.ref c)))(q:W.excIn K c bm nw=true):Exc K mg x c bm nw:=#[zQ X G a,q]
def Pl{K:ag}{C:Addr}(h:W.findIn K (.ref C) f=some none):W.takerIn K C f=some none:=by unfold W.takerIn;rw[h];rfl
def agj:EB K P w mg aB C:=by intro f fd A R F;let ent:a0n "step_entry" 3 FU:=a8b A (a7s A (Wm A.YM A.B));let tap:a0n "tape_of" 10 Je:=a7u A ent;let rsf:=a7B A R ent;let reo:=a7I A R rsf;let ren:=a7J A R reo;let(CN,fI,cG,c0,c1,c2,c3,c4,c5,c6,c7,c8,c9,EA):=A.ex;let KZ:a0n "_law_number" 1 Cq:=Kk A;let alk:a0n "_law_alike" 4 (Cr A3 K):=Km aw A.Hj A.B KZ (Km aw A.Hj A.B KZ (Km aw A.Hj A.B KZ (a8l A)));erw[a7Z A F tap (a86 A R ren) (a7X A (a8c A alk)) (a7Y A EA (a7V A EA.oc (a88 A (a7r A (Wm A.YM A.B)))))]
def agk{P:ai}{w:World}{K:ag}{mg:bZ}{aB:Heap}(A:All K mg)(F:nU K "law" "law" Ah f fd):iX P w K mg aB je 15 f fd ["_law_script"] (Jf K):=by let(C',R'):=A.rc;erw[tgt agj K P w mg aB C' f fd A R' F]
end _c
end
set_option maxHeartbeats 1000000
set_option exponentiation.threshold 6000
def PySem.W.Fast.tw8849117027855587913:PySem.Program:=PySem.Challenge.pw_glidequeue_k51_whole_no_tape_is_faster
theorem PySem.W.Fast.te8849117027855587913:PySem.Challenge.pw_glidequeue_k51_whole_no_tape_is_faster=PySem.W.Fast.tw8849117027855587913:=rfl
local macro_rules|`(command|universe $x:ident)=>return Lean.mkNullNode (<-((x.getId.toString.splitOn "_").drop 1).toArray.mapM fun i=>`(command|theorem $(Lean.mkIdent (`_root_.PySem.W.Fast++Lean.Name.mkSimple s!"tw{(`PySem.Challenge.cw_glidequeue_k51_whole_no_tape_is_faster_holds++Lean.Name.mkSimple ((match i.front with|'h'=>"heap"|'t'=>"tree"|'v'=>"view"|'s'=>"sts"|'e'=>"env"|_=>"o")++"_"++(i.drop 1).toString)).hash}")):ident:True:=True.intro))
universe t_h1037_h39_t1036_v39_t830_t574_t918_t430_t510_t363_t292_t744_o1000_t241_o919_s919_s575_t226_o834_s1000_s431_t211_s511_s834_o575_o511_t999_o431_t167_o364_t152_s293_o1036_o1034_t137_s242_o1008_o1006_o956_o693_o916_o954_o293_t115_o999_o906_o531_o997_o529_o484_o1015_o1013_o688_o966_o686_o510_o908_s364_o918_o508_t100_o985_o482_o574_o983_o572_o242_o536_o1029_o894_o968_o1027_o739_o667_o579_o944_o913_o942_o356_o911_o665_o477_o354_o992_o543_o475_o550_o990_o1022_o404_o541_o406_o1020_o548_o695_o534_t85_o468_o560_o227_o393_o430_o759_o398_o896_o428_o444_o212_o588_o456_o391_o396_o973_o190_o454_o971_o470_o939_o168_o449_o937_o849_o555_o447_o153_o847_o681_o553_o978_o138_o679_o976_o562_o674_t70_o116_o278_o351_o442_o439_o737_o672_o101_o349_o963_o276_o372_o491_o437_o961_o735_o602_o1032_o748_o489_o308_o425_o346_o370_o86_o463_o301_o423_o327_o700_o306_o299_o344_o292_o461_o766_o901_o856_o283_o285_o379_o49_o71_o709_o716_o870_o899_o595_o377_o498_o773_o854_o315_o995_o480_o707_o868_o313_o341_o714_o496_o842_o702_o517_o932_o691_o336_o418_o334_o1011_o505_o840_o339_o515_o808_o527_o930_o206_o329_o363_o270_o322_o927_o503_o891_o863_o904_o988_o723_o361_o263_s168_o184_o290_o143_o420_o268_o889_o925_o320_o261_o861_o386_o684_o660_o877_o738_o721_o368_o951_o182_o653_o567_o875_o384_o524_o389_o658_o1025_o1004_o949_o820_s190_o113_o132_o806_o522_o884_o121_s116_o981_o195_o173_o646_o155_o466_o539_o618_o611_o625_o487_o558_o209_o254_o83_o165_o187_o224_o150_o135_o239_o98_o801_o130_o730_o814_o569_o232_o76_o204_o882_o158_o91_o134_o208_o186_o106_o297_o546_o304_o66_o473_o494_o311_o402_o935_o247_o217_o959_o644_o722_o413_o452_o60_s49_o792_o609_o140_o73_o332_o728_o385_o630_o88_o103_o229_o118_o523_o785_o192_o170_o244_o67_o97_o214_o82_o164_o149_o238_o253_o112_o223_o852_o1018_o845_o887_o895_o288_o411_o448_o866_o459_o705_o57_o740_h46_o583_o765_o758_o786_o821_o793_o687_o673_o666_o610_o659_o131_o694_o715_o183_o680_o708_o603_o638_o729_o631_o736_o205_o701_o198_o176_o45_o755_o600_o677_o375_o274_o325_o838_o501_o180_o266_o359_o670_o923_o318_o161_o55_o94_o79_o235_o109_o582_o741_o124_t189_o412_o1021_o483_o862_o530_o321_o998_o984_o972_o917_o991_o300_o56_o848_o429_o955_o490_o504_o277_o392_o1007_o962_o855_o455_o554_o516_o469_o900_o912_o876_o314_o568_o340_o328_o335_o146_o350_o943_o573_o262_o269_o542_o419_o1035_o355_o890_o424_o476_o1028_o561_o926_o1014_o220_o950_o438_o841_o549_o405_o371_o462_o397_o443_o284_o497_o883_o509_o345_o977_o307_o378_o907_o535_o938_o967_o362_o291_o250_o63_o869_o931_o152_o90_o880_o68_o399_o128_s153_o416_o663_o712_o281_o733_o435_o947_o202_s212_s138_e41_s101_s227_s86_s71_o46_o185_o742_o762_o873
open PySem PySem.W PyProof.Rows
set_option maxRecDepth 100000 in
set_option maxHeartbeats 0 in
theorem PySem.Challenge.cw_glidequeue_k51_whole_no_tape_is_faster_holds : PySem.Challenge.rw_glidequeue_k51_whole_no_tape_is_faster.Holds := by
 w_on; o_law; k_head; (case hw=>w_witness2)
 k_fill
 refine _L.aa5 (l:=PySem.Challenge.rw_glidequeue_k51_whole_no_tape_is_faster) (k:=15) (x:="_law_script") (st:=_c.Ah) rfl rfl ⟨rfl,by decide,by decide⟩ (fun w h Y=>PySem.W.kIn_of Y) _c.All ?F (fun _ _ A=>A.law) (fun _ _ _ _ _ _ _=>rfl) (fun _ _ _ _ _ _ _ A F=>_c.agk A F)
 case F=>
  intro w mg h KX G
  refine⟨_L.afY KX G ?b,?x1,?x2,?x3,?x4,?x5,?x6,?x7,?x8,?x9,?x10,?x11,?x12,?x13,?x14,?x15,?x16,?x17,?x18,?x19,?x21,?x22,?x23,?x24,?x25,?x26,?x27,?x28,?x29,?x30,?x31,?x32,?x33,?x34,?x35,?x36,?x37,?x38,?x39,?x40,?x41,?x42,?x43,?x44,?x45,?x46,?x47,?x48,?x49,?x50,?x51,?x52,?x53,?x54,?x55,?x56,?x57,?x58,?x59,?x60,?x61,?x62,?x63,?x64,?x65,?x66,?x67,?x68,?x69,?x70,?x71,?x72,?x73,?x74,?x75,?x76,?x77,?x78,?x79,?x80,?x81,?x82,?x83,?x84,?x85,?x86,?x87,?x88,?x89,?x90,?x91,?x92,?x93,?x94,?x95,?x96,?x97⟩
  case b=>(unfold _L.HE; repeat (refine _L.wY.cons ?z ?_; (case z=>k_is))); exact _L.wY.nil
  case x1|x2=>refine' _L.Yl KX G ?a ?l ?z ?r; (case a=>k_is); (case l=>k_is); (case z=>decide); (case r=>exact .cons ⟨_,rfl⟩ (.cons ⟨_,rfl⟩ .nil))
  case x3|x4|x5|x6|x7|x8|x9|x10|x11|x12|x13|x14=>(refine' _L.pG KX G ?z; (case z=>k_is))
  case x15=>(refine' _L.acq KX G ?z; (case z=>k_is))
  case x96=>
   refine' ⟨_,_,_,_,_,_,_,_,_,_,_,_,_,⟨_L.afw KX G ?a1 ?q1,?i1,⟨?x1,?x2,_c.Pl ?x3,?x4⟩,⟨?y1,?y2,_c.Pl ?y3,?y4⟩,?f,_,_L.Hg ?l ?c ?kk⟩,_c.aeo KX G ?a2 ?q2,?t,⟨?k1,?k2,?k3,?k4,?k5,?k6,?k7,?k8⟩,_c.sN KX G ?h0,_c.sN KX G ?h1,_c.sN KX G ?h2,_c.sN KX G ?h3,_c.sN KX G ?h4,_c.sN KX G ?h5,_c.sN KX G ?h6,_c.sN KX G ?h7,_c.sN KX G ?h8,_c.sN KX G ?h9,?any,?own,?ve,PySem.W.mg_none_of KX G ?v,?fat,?fwhy⟩
   case a1|a2|i1|h0|h1|h2|h3|h4|h5|h6|h7|h8|h9|x1|x3|x4|y1|y3|y4|l|c|kk|k1|k2|k3|k4|k5|k6|k7|k8|v|fat|fwhy=>k_is
   case q1|x2|y2|f=>kernel_rfl
   case q2=>k_exc
   case t=>(show PySem.W.mroIn _ _ _=_; k_is)
   case any|own|ve=>kit_is
  case x97=>
   refine' Exists.intro _ (_c.iL.mk (_c.a0G.mk (_L.nV.mk ?pg ?hd ?po ?sa) ?n1 ?n2 ?n3 ?n4 ?n5 ?n6 ?n7 ?n8 ?n9) (_L.afO KX G ?aC ?mk ?kc ?ia ?ii ?il ?ic ?ik) (_L.jT ?a0 ?i0 ?l0 ?c0 ?k0) (_L.jT ?a1 ?i1 ?l1 ?c1 ?k1) (_L.jT ?a2 ?i2 ?l2 ?c2 ?k2) (_L.jT ?a3 ?i3 ?l3 ?c3 ?k3) (_L.jT ?a4 ?i4 ?l4 ?c4 ?k4) (_L.jT ?a5 ?i5 ?l5 ?c5 ?k5) (_L.jT ?a6 ?i6 ?l6 ?c6 ?k6) (_L.jT ?a7 ?i7 ?l7 ?c7 ?k7) (_L.jT ?a8 ?i8 ?l8 ?c8 ?k8) (_L.jT ?a9 ?i9 ?l9 ?c9 ?k9) (_L.jT ?a10 ?i10 ?l10 ?c10 ?k10) (_L.jT ?a11 ?i11 ?l11 ?c11 ?k11) (_L.jT ?a12 ?i12 ?l12 ?c12 ?k12) (_L.jT ?a13 ?i13 ?l13 ?c13 ?k13) (_L.jT ?a14 ?i14 ?l14 ?c14 ?k14) (_L.jT ?a15 ?i15 ?l15 ?c15 ?k15) (_L.jT ?a16 ?i16 ?l16 ?c16 ?k16) (_L.jT ?a17 ?i17 ?l17 ?c17 ?k17) (_L.jT ?a18 ?i18 ?l18 ?c18 ?k18))
   (case aC=>k_is)
   case n1 | n2 | n3 | n4 | n5 | n6 | n7 | n8 | n9=>(unfold _L.kU; k_is)
   case pg | hd | po | sa | mk | kc | ia | ii | il | ic | ik | a0 | i0 | l0 | c0 | k0 | a1 | i1 | l1 | c1 | k1 | a2 | i2 | l2 | c2 | k2 | a3 | i3 | l3 | c3 | k3 | a4 | i4 | l4 | c4 | k4 | a5 | i5 | l5 | c5 | k5 | a6 | i6 | l6 | c6 | k6 | a7 | i7 | l7 | c7 | k7 | a8 | i8 | l8 | c8 | k8 | a9 | i9 | l9 | c9 | k9 | a10 | i10 | l10 | c10 | k10 | a11 | i11 | l11 | c11 | k11 | a12 | i12 | l12 | c12 | k12 | a13 | i13 | l13 | c13 | k13 | a14 | i14 | l14 | c14 | k14 | a15 | i15 | l15 | c15 | k15 | a16 | i16 | l16 | c16 | k16 | a17 | i17 | l17 | c17 | k17 | a18 | i18 | l18 | c18 | k18=>k_is
  all_goals (refine' _L.ad1 KX G ?a ?l ?c ?k; (case a=>k_is); (case l=>k_is); (case c=>k_is); (case k=>k_is))
