import PyProof.Rows.All
import Wide.All
import OpenK.AllK
import Wide.FinOn
import Lean
import PyProof.EqAt
import PyProof.EqKinds
import PyProof.TupleCall
import KE.KDictSum
import KE.KTryDeep
import KE.KTryMore
import PyProof.NsDelKeeps
import PyProof.FString
import PyProof.Rows.SetFrom
import PyProof.DictValues
import KE.KDictList
import PySem.Challenge.RW_nearstairs_k22_the_least_shown_or_not
open List (all_cons all_eq_true all_map any_cons any_eq_false any_eq_true any_map append_assoc append_nil drop_drop drop_eq_getElem_cons drop_of_length_le drop_sublist drop_take erase_of_not_mem erase_sublist filter_append filter_cons filter_nil filter_sublist find?_cons find?_cons_of_neg find?_cons_of_pos getD_eq_getElem?_getD getElem?_append_left getElem?_append_right getElem?_drop getElem?_eq_getElem getElem?_eq_none getElem?_eq_some_iff getElem?_map getElem?_range getElem_drop getElem_mem getElem_of_mem getElem_take length_append length_cons length_drop length_erase_le length_erase_of_mem length_filter_le length_map length_nil length_pos_iff length_pos_of_mem length_range length_reverse length_set length_singleton length_take map_append map_congr_left map_cons map_id map_map map_nil mem_append mem_append_left mem_append_right mem_cons mem_cons_of_mem mem_cons_self mem_filter mem_flatMap mem_iff_getElem mem_map mem_of_getElem? mem_of_mem_erase mem_range mem_reverse mem_singleton nodup_append nodup_cons nodup_nil nodup_range not_mem_nil pairwise_append pairwise_cons pairwise_iff_getElem replicate_succ take_append_drop take_length take_of_length_le take_succ take_zero)
set_option Elab.async false
set_option compiler.extract_closed false
set_option linter.all false
set_option maxRecDepth 100000
abbrev aah:=@if_neg
abbrev ahF:=@if_pos
abbrev ano:=@List.length_map
abbrev aMp:=@List.getElem?_eq_getElem
abbrev bbI:=@Nat.le_refl
abbrev aTi:=@PySem.wpAny_bind
abbrev aGH:=@List.getD_eq_getElem?_getD
abbrev aJV:=@PySem.Heap.get?_push_of_some
abbrev aaM:=@PyProof.Rows.wpS_bind
abbrev a96:=@List.length_append
abbrev anN:=@decide_eq_true
abbrev alG:=@decide_eq_false
abbrev aAI:=@PyProof.Rows.wpS_pure
abbrev a2o:=@PySem.Heap.lt_size
abbrev aFR:=@List.getElem?_eq_some_iff
abbrev a3v:=@List.size_toArray
abbrev aJD:=@Bool.false_ne_true
abbrev a6S:=@List.mem_append
abbrev aOT:=@List.mem_singleton
abbrev aGb:=@List.getElem?_map
abbrev aWE:=@Nat.le_of_lt
abbrev adw:=@of_decide_eq_true
abbrev ak8:=@PySem.wpAny_pure
abbrev aFB:=@Option.some.inj
abbrev aQ0:=@PySem.Heap.get?_push_size
abbrev aFN:=@List.mem_map
abbrev aUP:=@Ne.symm
abbrev aE5:=@List.mem_of_getElem?
abbrev aOt:=@Nat.ne_of_lt
abbrev aq4:=@List.mem_cons_of_mem
abbrev axr:=@Bool.false_eq_true
abbrev aOW:=@List.mem_range
abbrev aP2:=@List.map_append
abbrev aPx:=@List.mem_cons
abbrev bbd:=@Nat.le_trans
abbrev arj:=@PySem.boot_len
abbrev aEv:=@Bool.and_eq_true
abbrev aTF:=@PySem.F.plainAttrs_list
abbrev aCR:=@List.mem_filter
abbrev agn:=@Nat.zero_le
abbrev anL:=@List.mem_cons_self
abbrev aou:=@Array.length_toList
abbrev a5i:=@Nat.lt_of_lt_of_le
abbrev a9d:=@List.getElem?_append_right
abbrev ah8:=@List.getElem?_append_left
abbrev aMf:=@PySem.F.slot_list_append
abbrev aUV:=@PySem.F.type_list_append
abbrev auA:=@decide_eq_true_eq
abbrev aP5:=@PySem.wpAny_mono
abbrev aYz:=@Array.getElem?_eq_getElem
abbrev bcR:=@bind_congr
abbrev acz:=@List.length_cons
abbrev ahb:=@PySem.Heap.get?_update_other
abbrev aYt:=@List.not_mem_nil
abbrev aZf:=@List.nodup_cons
abbrev ang:=@PyProof.Rows.wpS_forRange
abbrev aOg:=@List.filter_sublist
abbrev aDP:=@PySem.PassesOwn.never
abbrev aXW:=@List.take_length
abbrev a8D:=@List.countP_append
abbrev aIX:=@List.countP_singleton
abbrev aGD:=@if_false
abbrev aEK:=@List.mem_append_right
abbrev aQv:=@List.map_cons
abbrev aXE:=@PySem.sizeLine_eq
abbrev aIe:=@List.range_succ
abbrev aFH:=@congrArg
abbrev aNq:=@Bool.false_and
abbrev auF:=@PySem.wpAny_truthy_bool
abbrev aQ6:=@List.find?_cons_of_neg
abbrev acu:=@List.mem_cons
abbrev a5s:=@or_false
abbrev a6U:=@List.filter_cons
abbrev arA:=@Array.toList_append
abbrev ayM:=@List.length_filter_le
abbrev bd0:=@List.append_assoc
abbrev aWC:=@PySem.W.mg_none_of
abbrev aU8:=@PyProof.Rows.wpS_mono
abbrev adY:=@List.Nodup.mem_erase_iff
abbrev akj:=@PyProof.Rows.callWith_type1
abbrev ags:=@Array.getElem?_toList
abbrev aSM:=@List.perm_append_comm
abbrev a8b:=@List.take_succ
abbrev aaP:=@Int.le_refl
abbrev amg:=@List.pairwise_iff_getElem
abbrev bak:=@List.eq_nil_of_length_eq_zero
abbrev a7y:=@PySem.wpAny_holding
abbrev aBC:=@List.sum_cons
abbrev baC:=@List.filter_append
abbrev an9:=@if_true
abbrev bay:=@Nat.lt_of_le_of_lt
abbrev bd8:=@List.nodup_nil
abbrev a3H:=@decide_eq_false_iff_not
abbrev a6s:=@List.lookup_cons
abbrev anG:=@Nat.lt_irrefl
abbrev aPW:=@List.map_congr_left
abbrev aBy:=@List.find?_cons_of_pos
abbrev aWr:=@List.length_erase_of_mem
abbrev aH9:=@List.getElem?_eq_none
abbrev baK:=@List.mem_of_mem_erase
abbrev bby:=@List.length_take
abbrev apl:=@List.getElem_mem
abbrev aRL:=@PySem.Heap.size_push
abbrev aZr:=@List.append_nil
abbrev apf:=@List.getElem?_range
abbrev aXp:=@Nat.lt_succ_of_lt
abbrev a2Y:=@List.length_pos_of_mem
abbrev aX0:=@Nat.lt_trichotomy
abbrev acr:=@Bool.eq_false_iff
abbrev aeY:=@Bool.eq_iff_iff
abbrev a10:=@Option.map_some
abbrev aIG:=@List.length_erase_le
abbrev aeM:=@Int.le_trans
abbrev ao2:=@PyProof.Rows.wpS_modify
abbrev aq6:=@decide_eq_decide
abbrev arw:=@PySem.Calls.spliced_cons
abbrev acZ:=@List.Pairwise.sublist
abbrev aPq:=@List.length_drop
abbrev aqT:=@List.mem_append_left
abbrev aJI:=@PySem.wpAny_rule
abbrev aj9:=@decide_false
abbrev ahh:=@List.pairwise_append
abbrev aAN:=@List.flatten_cons
abbrev ax0:=@List.mem_singleton
abbrev aaW:=@List.filterMap_cons
abbrev avq:=@Nat.lt_succ_self
abbrev aVk:=@List.replicate_succ
abbrev aOc:=@PyProof.Rows.wpS_get
abbrev ahC:=@List.length_reverse
abbrev ahO:=@List.countP_eq_length_filter
abbrev aD0:=@Nat.le_succ
abbrev aNE:=@PySem.Calls.callWith_builtin
abbrev ajr:=@decide_true
abbrev aQV:=@PyProof.Rows.assignInOrder_cons
abbrev apV:=@Nat.zero_add
abbrev aNJ:=@Nat.sub_self
abbrev ach:=@PySem.wpAny_passesOwn
abbrev aYT:=@PySem.Heap.get?_update_self
abbrev ayq:=@PySem.plainId_quiet
abbrev aBx:=@Array.perm_iff_toList_perm
abbrev aKX:=@Bool.true_and
abbrev aVo:=@List.ext_getElem?
abbrev aOI:=@Bool.not_eq_true'
abbrev a4d:=@List.drop_of_length_le
abbrev awA:=@Array.toList_push
abbrev aWN:=@List.countP_congr
abbrev ats:=@beq_iff_eq
abbrev aBj:=@List.drop_eq_getElem_cons
abbrev aIh:=@Classical.byContradiction
abbrev aUd:=@PySem.W.kia_one
abbrev aNk:=@PySem.wpAny_letGo
abbrev aPY:=@Bool.and_false
abbrev agd:=@Nat.ne_of_gt
abbrev aGV:=@PySem.F.plain_max_loop
abbrev a3q:=@PySem.F.plain_min_loop
abbrev ax4:=@List.length_range
abbrev aSU:=@beq_eq_false_iff_ne
abbrev apz:=@PySem.mem_of_lookup
abbrev auZ:=@List.length_pos_iff
abbrev af2:=@List.reverse_append
abbrev aEh:=@List.countP_eq_zero
abbrev aNS:=@PySem.F.plainAttrs_dict
abbrev aNs:=@PyProof.Rows.listUpdate_at
abbrev aX6:=@PySem.wpAny_Call_Name_kw
abbrev aZd:=@PySem.wpAny_updateSeq
abbrev aNA:=@List.mem_append
abbrev ap9:=@List.all_eq_true
abbrev atR:=@PyProof.Rows.wpS_reverse
abbrev afX:=@PyProof.Rows.mirror_perm
abbrev a8y:=@PySem.wpAny_newObj_type
abbrev aA9:=@PySem.wpAny_pyIter_list
abbrev anM:=@PySem.Calls.spliced_nil
abbrev aV1:=@List.take_of_length_le
abbrev azg:=@PySem.wpAny_tryCatch
abbrev aK3:=@List.nodup_append
abbrev acg:=@List.length_nil
abbrev azH:=@PySem.Calls.evalArgs_plain
abbrev aGI:=@beq_self_eq_true
abbrev aDA:=@PySem.Around.under_plainId
abbrev agK:=@List.take_append_drop
abbrev aNi:=@Array.toList_extract
abbrev bbR:=@List.mem_iff_getElem
abbrev aQW:=@Array.getElem_toList
abbrev aw6:=@List.any_eq_true
abbrev ajw:=@List.filter_nil
abbrev abu:=@List.mem_flatMap
abbrev a4y:=@PySem.wpAny_standAt
abbrev aZh:=@Bool.not_true
abbrev aPp:=@Sum.inl.inj
abbrev ba6:=@List.map_map
abbrev atI:=@PySem.Heap.get?_update_ne
abbrev aa1:=@Option.some_ne_none
abbrev ao4:=@List.getElem?_eq_none_iff
abbrev awQ:=@List.zip_cons_cons
abbrev a5f:=@PySem.tupleKind_room_in1
abbrev a7D:=@List.pairwise_cons
abbrev azk:=@Int.emod_lt_of_pos
abbrev a2w:=@List.Nodup.sublist
abbrev aol:=@PySem.F.slot_list_remove
abbrev abi:=@PySem.F.type_list_remove
abbrev an5:=@PySem.wpAny_bindName
abbrev akv:=@List.getElem_of_mem
abbrev aDb:=@List.eraseIdx_cons_succ
abbrev a9b:=@List.getElem?_cons_succ
abbrev agi:=@Int.toNat_natCast
abbrev a4m:=@PyProof.noPylong_small
abbrev a8G:=@List.any_eq_true
abbrev adX:=@List.length_singleton
abbrev aGN:=@List.erase_of_not_mem
abbrev aHO:=@List.countP_cons
abbrev aKw:=@PySem.F.slot_dict_get
abbrev a5a:=@Array.getElem_extract
abbrev aDF:=@Nat.lt_trans
abbrev azS:=@Bool.or_eq_true
abbrev aRO:=@Nat.not_lt_zero
abbrev abE:=@List.getElem?_of_mem
abbrev aTI:=@Array.Perm.refl
abbrev aJt:=@List.mem_of_mem_drop
abbrev aKa:=@List.mem_of_mem_take
abbrev aeD:=@Array.toList_reverse
abbrev aiv:=@Nat.add_zero
abbrev aFA:=@Int.emod_nonneg
abbrev aSC:=@List.mem_erase_of_ne
abbrev ahI:=@List.getLast?_append
section
open Lean in
local macro_rules|`($n:num)=>do
 if let .original ..:=n.raw.getHeadInfo then
  match n.raw[0].getAtomVal with
  |"8"=>`(rfl)
  |"7"=>`(by lia)
  |"9"=>`(by decide)
  |"6"=>`(by decide +kernel)
  |"5"=>`(by simp)
  |_=>Macro.throwUnsupported
 else Macro.throwUnsupported
open Lean in
local macro_rules|`(!$x)=>`(some $x)
open Lean in
local macro_rules|`(($x,$y,*))=>do
 if y.elemsAndSeps.size%2=1 then Macro.throwUnsupported
 let mut r:Array Term:=#[]
 for z in #[x]++y.getElems do
  let n:=z.raw.isNatLit?.getD 0
  if n<100||z.raw[0].getAtomVal.startsWith "0" then r:=r.push z
  else for i in [1:(n-100).log2+1] do r:=r.push (<-if (n-100).testBit ((n-100).log2-i) then `(rfl) else `(_))
 `(⟨$r,*⟩)
open Lean in
def pat9(n:Nat)(t:Term):MacroM (TSyntax `rcasesPat):=match n with
 |0=>`(rcasesPat|_)
 |n+1=>match t with
  |`(($x,$y,*))=>do
   let r<-(#[x]++y.getElems).mapM (pat9 n)
   `(rcasesPat|⟨$[$r:rcasesPat],*⟩)
  |`($x:ident)=>`(rcasesPat|$x:ident)
  |_=>`(rcasesPat|_)
open Lean in
local macro_rules|`(tactic|let ($x,$y,*):=$v)=>do
 if y.elemsAndSeps.size%2=1 then Macro.throwUnsupported
 let r<-pat9 12 (<-`(($x,$y,*)))
 `(tactic|obtain $r:rcasesPat:=$v)
namespace L2
open PySem PySem.Spec PyProof.Rows
noncomputable abbrev Key:=Sum Int Str
noncomputable def jJ:Key->Value->Bool
 | .inl k,v=>Value.isInt k v
 | .inr x,v=>Value.isStrOf x v
noncomputable def Ju(w:World):Key->Int
 | .inl k=>hashInt k
 | .inr x=>hashStr w x
theorem ZP:∀{k:Key}{v:Value},jJ k v=true->(∃i t,k=Sum.inl i/\v=Value.int i t)\/(∃x t,k=Sum.inr x/\v=Value.str x t)
 | .inl i,v,h=>by
  let(t,e,):=Value.isInt_shape (k:=i) (v:=v) h;exact .inl (i,t,8,e,)
 | .inr x,v,h=>by
  let(t,e,):=Value.isStrOf_shape (x:=x) (v:=v) h;exact .inr (x,t,8,e,)
theorem ZgB(i:Int)(t:Tok):jJ (.inl i) (.int i t)=true:=by simp[jJ,Value.isInt]
theorem ZgC(x:Str)(t:Tok):jJ (.inr x) (.str x t)=true:=by simp[jJ,Value.isStrOf]
theorem VZ(a b:Int):decide ((Sum.inl a:Key)=Sum.inl b)=(a ==b):=by
 by_cases e:a=b
 .subst e;simp
 .have h:¬(Sum.inl a:Key)=Sum.inl b:=λq=>e (aPp q);rw[alG h];exact(aSU.mpr e).symm
theorem VY(a b:Str):decide ((Sum.inr a:Key)=Sum.inr b)=decide (a=b):=by
 by_cases e:a=b
 .subst e;simp
 .have h:¬(Sum.inr a:Key)=Sum.inr b:=λq=>e (Sum.inr.inj q);rw[alG h,alG e]
theorem VX(a:Int)(b:Str):decide ((Sum.inl a:Key)=Sum.inr b)=false:=alG (λq=>nomatch q)
theorem VW(a:Str)(b:Int):decide ((Sum.inr a:Key)=Sum.inl b)=false:=alG (λq=>nomatch q)
noncomputable def ZN(prog:Program)(w:World):PySem.KeyKind prog w Key where
 is:=jJ
 hash:=Ju w
 inj:=λv a b ha hb=>by
  rcases ZP ha with⟨i,t,rfl,rfl⟩|⟨x,t,rfl,rfl⟩
  .rcases ZP hb with⟨j,u,rfl,e⟩|⟨y,u,rfl,e⟩
   .injection e with e1 _;rw[e1]
   .exact nomatch e
  .rcases ZP hb with⟨j,u,rfl,e⟩|⟨y,u,rfl,e⟩
   .exact nomatch e
   .injection e with e1 _;rw[e1]
 byValue:=λk v h=>by
  rcases ZP h with⟨i,t,rfl,rfl⟩|⟨x,t,rfl,rfl⟩ <;> rfl
 pyHash:=λhv h=>by
  rcases ZP hv with⟨i,t,rfl,rfl⟩|⟨x,t,rfl,rfl⟩
  .exact wpAny_pyHash_int h
  .exact wpAny_pyHash_str h
 eqBool:=λhu hv h=>by
  rcases ZP hu with⟨i,t,rfl,rfl⟩|⟨x,t,rfl,rfl⟩
  .rcases ZP hv with⟨j,u,rfl,rfl⟩|⟨y,u,rfl,rfl⟩
   .rw [VZ]at h;exact wpAny_eqBool_int h
   .rw [VX]at h;exact SeqAt.EqAt.int_str i t y u _ _ _ _ h
  .rcases ZP hv with⟨j,u,rfl,rfl⟩|⟨y,u,rfl,rfl⟩
   .rw [VW]at h;exact SeqAt.EqAt.str_int x t j u _ _ _ _ h
   .rw [VY]at h;exact wpAny_eqBool_str h
 «strs»:=λk x t v h=>by
  rcases ZP h with⟨i,u,rfl,e⟩|⟨y,u,rfl,e⟩
  .exact nomatch e
  .injection e with e1 _
   subst e1;cases v <;> rfl
theorem Zew(prog:Program)(w:World)(i:Int)(t:Tok):(ZN prog w).is (.inl i) (.int i t)=true:=ZgB i t
theorem Zex(prog:Program)(w:World)(x:Str)(t:Tok):(ZN prog w).is (.inr x) (.str x t)=true:=ZgC x t
inductive V where
 |aE|bl (b:Bool)|int (i:Int)|str (x:Str)|pA (b:Array UInt8)|yu (b:UInt64)|ref (a:Addr)|ty (n:String)
 deriving DecidableEq
noncomputable def RelV:V->Value->Prop
 | .aE,u=>u=Value.none
 | .bl b,u=>u=Value.bool b
 | .int i,u=>∃t,u=Value.int i t
 | .str x,u=>∃t,u=Value.str x t
 | .pA b,u=>∃t,u=Value.bytes b t
 | .yu b,u=>∃t,u=Value.float b t
 | .ref a,u=>u=Value.ref a
 | .ty n,u=>u=Value.type n
abbrev Vals:List V->List Value->Prop:=Paired RelV
theorem Vals.length{xs:List V}{us:List Value}(r:Vals xs us):xs.length=us.length:=Paired.length r
theorem Vals.get:∀{xs:List V}{us:List Value}{i:Nat}{x:V},Vals xs us->xs[i]?=!x->∃u,us[i]?=!u/\RelV x u
 |_,_,_,_,.nil,e=>by simp at e
 |_,_,0,_,.cons r _,e=>by simp at e;subst e;exact(_,8,r,)
 |_,_,i+1,x,.cons _ t,e=>by
  let(u,h1,h2,):=Vals.get (i:=i) (x:=x) t (by simpa using e);exact(u,by simpa using h1,h2,)
theorem Vals.set{x:V}{u:Value}(r:RelV x u):∀{xs:List V}{us:List Value}(i:Nat),Vals xs us->Vals (xs.set i x) (us.set i u)
 |_,_,_,.nil=>.nil
 |_,_,0,.cons _ t=>.cons r t
 |_,_,i+1,.cons q t=>.cons q (Vals.set r i t)
theorem Vals.append:∀{xs ys:List V}{us ws:List Value},Vals xs us->Vals ys ws->Vals (xs++ys) (us++ws)
 |_,_,_,_,.nil,s=>s
 |_,_,_,_,.cons r t,s=>.cons r (Vals.append t s)
theorem Vals.take:∀{xs:List V}{us:List Value}(n:Nat),Vals xs us->Vals (xs.take n) (us.take n)
 |_,_,0,_=>.nil
 |_,_,_+1,.nil=>.nil
 |_,_,n+1,.cons r t=>.cons r (Vals.take n t)
theorem Vals.drop:∀{xs:List V}{us:List Value}(n:Nat),Vals xs us->Vals (xs.drop n) (us.drop n)
 |_,_,0,r=>r
 |_,_,_+1,.nil=>.nil
 |_,_,n+1,.cons _ t=>Vals.drop n t
theorem Vals.none_of:∀{xs:List V}{us:List Value}{i:Nat},Vals xs us->xs[i]?=none->us[i]?=none:=λ{xs us i} r e=>by
 have h1:=r.length;have h2:xs.length<=i:=ao4.mp e;exact ao4.mpr 7
noncomputable def cW:Option V->Option Value->Prop
 |!v,some u=>RelV v u
 |none,none=>True
 |_,_=>False
def KV{κ:Type}:List (κ×V)->List (κ×Value)->Prop:=Paired λ(p:κ×V)(q:κ×Value)=>p.1=q.1/\RelV p.2 q.2
noncomputable def kV:Key->V
 | .inl i=>.int i
 | .inr x=>.str x
inductive HO where
  |lst (xs:List V)
  |tup (xs:List V)
  |dK (kvs:List (Key×V))|dT (kvs:List (List Key×V))
  |set (S:Int->Bool) (n:Nat)
  |ins (C dx:Addr) (fs:List (Str×V))
  |own (x:Addr)
  |xd (fs:List (Str×V))
  |met (f x:Addr)
  |IG (lo hi:Int)
  |bH (o:Obj) (u:HO)
  |jU (pos:Pos) (qual:Str)
  |ext (φ:Heap->Prop)
noncomputable abbrev Hp:=Addr->Option HO
noncomputable def upd(H:Hp)(a:Addr)(o:HO):Hp:=λb=>if b=a then some o else H b
theorem Za{H:Hp}{a:Addr}{o:HO}:upd H a o a=!o:=by unfold upd;rw[ahF 8]
theorem Zg{H:Hp}{a b:Addr}{o:HO}(h:b≠a):upd H a o b=H b:=by unfold upd;rw[aah h]
theorem rq{H:Hp}{a:Addr}{o u:HO}:upd (upd H a o) a u=upd H a u:=by
 funext b;unfold upd;split <;> rfl
theorem yd{H:Hp}{a b:Addr}{o u:HO}(h:H a=!o)(h':H b=!u)(d:o≠u):a≠b:=by
 intro e;subst e;rw[h]at h';exact d (aFB h')
theorem Ze{H:Hp}{a b:Addr}{o:HO}(h:H a=!o)(h':H b=none):a≠b:=by
 intro e;subst e;rw[h]at h';cases h'
section
variable(P:Program)(w:World)
noncomputable def aK(H:Hp)(h:Heap)(a:Addr):HO->Prop
 | .lst xs=>xs.length<=sizeLine/\∃(its:List Value)(n:Nat),Vals xs its/\h.get? a=!{ cls:=.type "list",data:=.seq its.toArray n }
 | .tup xs=>xs.length<=sizeLine/\∃its:List Value,Vals xs its/\IsTup h a its.toArray
 | .dK kvs=>kvs.length<=sizeLine/\(a ==sysModules)=false/\∃vs,KV kvs vs/\h.DictOf (ZN P w) a vs
 | .dT kvs=>kvs.length<=sizeLine/\(a ==sysModules)=false/\∃xs:List (List Key×Addr×Value),
   Paired (λ(p:List Key×V)(q:List Key×Addr×Value)=>p.1=q.1/\H q.2.1=!(.tup (p.1.map kV))/\RelV p.2 q.2.2) kvs xs /\
   ∃o es ep,h.get? a=!o/\o.ExactDict/\o.data=.dict es ep/\es.toList=xs.map (entryOfKey (tupleKind (ZN P w)))/\(xs.map (·.1)).Nodup
 | .set S n=>h.SetOf (intKind P w) a S n
 | .ins C dx fs=>H dx=!(.own a)/\fs.length<=1000/\dx≠a/\h.get? a=!(W.instObj C dx) /\
   ∃mA,h.Ns1 dx mA/\(∀f,cW (fs.lookup f) (mA f))/\PySem.Within mA (fs.map (·.1))
 | .own _=>∃o,h.get? a=!o
 | .xd fs=>∃mA,h.Ns1 a mA/\∀f,cW (fs.lookup f) (mA f)
 | .IG lo hi=>∃t u v,h.get? a=!{ cls:=.type "range",data:=.fields #[.int lo t,.int hi u,.int 1 v] }
 | .bH o u=>h.get? a=!o/\aK H h a u
 | .jU pos qual=>∃ps,h.get? a=!{ cls:=.none,data:=.fields ps }/\TriplesOk ps.toList/\∀cv,codeAmong pos ps.toList=!cv->∃c oc vs t,cv=.ref c/\H c=!(.bH oc (.own a))/\oc.data=.fields vs/\vs[1]?=!(.str qual t)
 | .met f x=>h.get? a=!(W.methodObj (.ref f) (.ref x))
 | .ext φ=>φ h/\(∃o,h.get? a=!o)/\∀h1 h2:Heap,φ h1->(∀o,h1.get? a=!o->h2.get? a=!o)->φ h2
def dI(H:Hp)(h:Heap):Prop:=∀a o,H a=!o->aK P w H h a o
end
section
variable{P:Program}{w:World}{H H':Hp}{h h':Heap}{a:Addr}{o:HO}
theorem aK.lt(x:aK P w H h a o):a<h.objs.size:=by
 cases o with
 |lst xs=>let(_,_,_,_,e,):=x;exact a2o e
 |tup xs=>let(_,_,_,p,):=x;exact p.lt
 |dK kvs=>let(_,_,_,_,o,_,_,e,_,):=x;exact a2o e
 |dT kvs=>let(_,_,_,_,o,_,_,e,_,):=x;exact a2o e
 |set S n=>let(o,_,_,_,e,_,):=x;exact a2o e
 |ins C dx fs=>let(_,_,_,e,_,):=x;exact a2o e
 |own y=>let(_,e,):=x;exact a2o e
 |xd fs=>let(_,(_,_,_,e,_,),_,):=x;exact a2o e
 |IG lo hi=>let(_,_,_,e,):=x;exact a2o e
 |bH ob u=>let(e,_,):=x;exact a2o e
 |jU p q=>let(_,e,_,):=x;exact a2o e
 |met f y=>exact a2o (show h.get? a=some _ from x)
 |ext φ=>let(_,(_,e,),_,):=x;exact a2o e
theorem Paired.tW{α β:Type}{F G:α->β->Prop}:∀{l₁:List α}{l₂:List β},Paired F l₁ l₂->(∀a b,F a b->G a b)->Paired G l₁ l₂
 |_,_,.nil,_=>.nil
 |_,_,.cons r t,f=>.cons (f _ _ r) (Paired.tW t f)
theorem aK.stay(x:aK P w H h a o)(k:∀b u,(b=a\/H b=!(.own a))->h.get? b=!u->h'.get? b=!u)
  (ho:∀b,H b=!(.own a)->H' b=!(.own a)) (ht:∀b xs,H b=!(.tup xs)->H' b=!(.tup xs))
  (hz:∀b oz,H b=!(.bH oz (.own a))->H' b=!(.bH oz (.own a)):=by exact λ_ _ q=>q):aK P w H' h' a o:=by
 induction o with
 |lst xs=>let(z,its,n,r,e,):=x;exact(z,its,n,r,k _ _ (.inl 8) e,)
 |tup xs=>let(z,its,r,ob,e,c,):=x;exact(z,its,r,ob,k _ _ (.inl 8) e,c,)
 |dK kvs=>let(z,y,vs,r,ob,es,ep,e,c,):=x;exact(z,y,vs,r,ob,es,ep,k _ _ (.inl 8) e,c,)
 |dT kvs=>
  let(z,y,xs,r,ob,es,ep,e,c,):=x;exact(z,y,xs,Paired.tW r λp q z=>(z.1,ht _ _ z.2.1,z.2.2,),ob,es,ep,k _ _ (.inl 8) e,c,)
 |set S n=>let(ob,es,ep,t,e,c,):=x;exact(ob,es,ep,t,k _ _ (.inl 8) e,c,)
 |ins C dx fs=>
  let(d,z,ne,e,mA,(od,es,ep,e2,c,),r,):=x;exact(ho _ d,z,ne,k _ _ (.inl 8) e,mA,(od,es,ep,k _ _ (.inr d) e2,c,),r,)
 |own y=>let(ob,e,):=x;exact(ob,k _ _ (.inl 8) e,)
 |xd fs=>let(mA,(od,es,ep,e,c,),r,):=x;exact(mA,(od,es,ep,k _ _ (.inl 8) e,c,),r,)
 |IG lo hi=>let(t,u,v,e,):=x;exact(t,u,v,k _ _ (.inl 8) e,)
 |bH ob u ih=>let(e,q,):=x;exact(k _ _ (.inl 8) e,ih q,)
 |jU p q=>
  let(ps,e,tr,hc,):=x;refine(ps,k a _ (.inl 8) e,tr,λcv e1=>?_,);let(c,oc,vs,tt,z,e2,r,):=hc cv e1;exact(c,oc,vs,tt,z,hz _ _ e2,r,)
 |met f y=>
  have e:h.get? a=!(W.methodObj (.ref f) (.ref y)):=x;show h'.get? a=!(W.methodObj (.ref f) (.ref y));exact k a _ (.inl 8) e
 |ext φ=>let(p,(o,e,),st,):=x;exact(st _ _ p λo q=>k _ _ (.inl 8) q,(o,k _ _ (.inl 8) e,),st,)
theorem dI.lt(x:dI P w H h)(e:H a=!o):a<h.objs.size:=(x a o e).lt
theorem dI.fresh(x:dI P w H h)(e:h.objs.size<=a):H a=none:=by
 cases q:H a with
 |none=>rfl
 |some u=>exact absurd (a5i (x.lt q) e) (anG _)
theorem dI.kept(x:dI P w H h)(k:∀b u,h.get? b=!u->h'.get? b=!u):dI P w H h':=λa o e=>
 (x a o e).stay (λb u _ q=>k b u q) (λ_ q=>q) λ_ _ q=>q
theorem dI.laid(x:dI P w H h)(k:∀b u,h.get? b=!u->h'.get? b=!u)(hp:h.objs.size<=a)(new:aK P w (upd H a o) h' a o):dI P w (upd H a o) h':=λb u e=>by
 have hn:=x.fresh hp;by_cases hb:b=a
 .subst hb;rw[Za]at e;cases e;exact new
 .rw [Zg hb]at e;exact(x b u e).stay (λc v _ q=>k c v q) (λc q=>by rw[Zg (Ze q hn)];exact q) (λc xs q=>by rw[Zg (Ze q hn)];exact q) λc oz q=>by rw[Zg (Ze q hn)];exact q
end
def Rd(H:Hp)(a:Addr)(u:HO):Prop:=H a=!u\/∃o,H a=!(.bH o u)
theorem Rd.ok{P:Program}{w:World}{H:Hp}{h:Heap}{a:Addr}{u:HO}(r:Rd H a u)(x:dI P w H h):aK P w H h a u:=by
 rcases r with r|⟨o,r⟩
 .exact x a u r
 .let(_,q,):=x a _ r;exact q
noncomputable def Fc:Option HO->Prop
 |some (.lst _)=>True
 |some (.dK _)=>True
 |some (.dT _)=>True
 |some (.set _ _)=>True
 |some (.ins _ _ _)=>True
 |some (.ext _)=>True
 |_=>False
section
variable{P:Program}{w:World}{H:Hp}{h h':Heap}{x e:Addr}{o':HO}
theorem dI.write(ok:dI P w H h)(mu:Fc (H x))(he:e=x\/H e=!(.own x))(k:∀b u,b≠e->h.get? b=!u->h'.get? b=!u)(A7:∃u,h'.get? e=!u)
  (new:aK P w (upd H x o') h' x o'):dI P w (upd H x o') h':=λb u q=>by
 have C9:∀c y,H c=!(.own y)->c≠x:=λc y r z=>by subst z;rw[r]at mu;exact mu
 have IU:∀c xs,H c=!(.tup xs)->c≠x:=λc xs r z=>by subst z;rw[r]at mu;exact mu
 by_cases hb:b=x
 .subst hb;rw[Za]at q;cases q;exact new
 .rw [Zg hb]at q;by_cases z8:b=e
  .have q':H b=!(.own x):=by
    rcases he with z|z
    .exact absurd (z8.trans z) hb
    .rw [z8];exact z
   rw[q]at q';cases q';let(v,hv,):=A7;exact(v,by rw[z8];exact hv,)
  .refine (ok b u q).stay (λc v hc r=>k c v ?_ r) (λc r=>by rw[Zg (C9 c b r)];exact r) (λc xs r=>by rw[Zg (IU c xs r)];exact r) λc oz r=>by rw[Zg (λz=>by subst z;rw[r]at mu;exact mu)];exact r
   rcases hc with rfl|hc
   .exact z8
   .rintro rfl;rcases he with z|z
    .exact C9 c b hc z
    .rw [hc]at z;cases z;exact hb 8
end
structure Un(fs ex:List Addr)(H H':Hp)(h h':Heap):Prop where
 keep:∀b o,h.get? b=!o->H b=none->b∉fs->b∉ex->h'.get? b=!o
 slot:∀b o,h.get? b=!o->H b=none->b∈fs->b∉ex->∃sl,h'.get? b=!{ o with slots:=sl }
 free:∀b o,h.get? b=!o->H b=none->b∉ex->H' b=none
 there:∀b o,h.get? b=!o->b∉ex->∃o',h'.get? b=!o'
 tups:∀b xs,H b=!(.tup xs)->H' b=!(.tup xs)
 gY:∀b o u,H b=!(.bH o u)->H' b=!(.bH o u)
 iw:∀b p q,H b=!(.jU p q)->H' b=!(.jU p q)
section
variable{fs fs' ex ex':List Addr}{H H1 H2:Hp}{h h1 h2 h':Heap}{a x e:Addr}{o:HO}
theorem Un.any(u:Un fs ex H H1 h h1){b:Addr}{ob:Obj}(q:h.get? b=!ob)(n:H b=none)(hx:b∉ex):∃sl,h1.get? b=!{ ob with slots:=sl }:=by
 by_cases hb:b∈fs
 .exact u.slot b ob q n hb hx
 .exact (ob.slots,u.keep b ob q n hb hx,)
theorem Un.kept(k:∀b u,h.get? b=!u->h'.get? b=!u):Un fs ex H H h h':=
 (λb ob q _ _ _=>k b ob q,λb ob q _ _ _=>(ob.slots,k b ob q,),λ_ _ _ n _=>n,λb ob q _=>(ob,k b ob q,),λ_ _ q=>q,λ_ _ _ q=>q,λ_ _ _ q=>q,)
theorem Un.refl:Un fs ex H H h h:=Un.kept λ_ _ q=>q
theorem Un.laid(k:∀b u,h.get? b=!u->h'.get? b=!u)(hp:h.objs.size<=a)(hn:H a=none):Un fs ex H (upd H a o) h h' where
 keep:=λb u q _ _ _=>k b u q
 slot:=λb u q _ _ _=>(u.slots,k b u q,)
 free:=λb u q n _=>by rw[Zg (aOt (a5i (a2o q) hp))];exact n
 there:=λb u q _=>(u,k b u q,)
 tups:=λb xs q=>by rw[Zg (Ze q hn)];exact q
 gY:=λb u xs q=>by rw[Zg (Ze q hn)];exact q
 iw:=λb _ _ q=>by rw[Zg (Ze q hn)];exact q
theorem Un.write(mu:Fc (H x))(he:e=x\/H e=!(.own x))(k:∀b u,b≠e->h.get? b=!u->h'.get? b=!u)(A7:∃u,h'.get? e=!u):Un fs ex H (upd H x o) h h':=by
 have hx:∀b,H b=none->b≠x:=λb n z=>by subst z;rw[n]at mu;exact mu
 have hb:∀b,H b=none->b≠e:=λb n z=>by
  subst z;rcases he with r|r
  .exact hx b n r
  .rw [n]at r;cases r
 have hm:∀b u,H b=!u->¬Fc (!u)->b≠x:=λb u q nm z=>by subst z;rw[q]at mu;exact nm mu
 refine(λb u q n _ _=>k b u (hb b n) q,λb u q n _ _=>(u.slots,k b u (hb b n) q,),λb u q n _=>by rw[Zg (hx b n)];exact n,λb u q _=>?_,
  λb xs q=>by rw[Zg (hm b _ q λz=>z)];exact q,λb u xs q=>by rw[Zg (hm b _ q λz=>z)];exact q,λb _ _ q=>by rw[Zg (hm b _ q λz=>z)];exact q,)
 by_cases z8:b=e
 .subst z8;exact A7
 .exact (u,k b u z8 q,)
end
noncomputable def Fz(h:Heap)(H:Hp):List Addr:=(List.range h.objs.size).filter λa=>(H a).isSome
noncomputable def kO(h:Heap)(H:Hp):Heap:=W.hideAll h (Fz h H)
theorem ZgD(h:Heap)(H:Hp):(kO h H).objs.size=h.objs.size:=W.hideAll_size _ _
theorem Lz{h:Heap}{H:Hp}{b:Addr}{o:Obj}(e:h.get? b=!o)(n:H b=none):(kO h H).get? b=!o:=
 W.hideAll_get _ e λhm=>by
  have q:(H b).isSome=true:=(aCR.mp hm).2;rw[n]at q;simp at q
theorem Xe{h:Heap}{H:Hp}{b:Addr}{o:Obj}(e:(kO h H).get? b=!o):h.get? b=!o/\H b=none:=by
 have e':h.get? b=!o:=W.of_hideAll (Fz h H) e;refine(e',?_,);cases q:H b with
 |none=>rfl
 |some x=>
  have hm:b∈Fz h H:=aCR.mpr (aOW.mpr (a2o e'),by simp[q],);have z:(kO h H).get? b=none:=W.hideAll_none (Fz h H) hm;rw[z]at e;cases e
structure Mod(K:W.Frag)(mg:Str->Option Value)(base:Heap):Prop where
 Dr:K.In base
 glob:base.Ns mainGlobals mg
 blt:∃mb,base.Ns builtinsNs mb/\∀x:Str,x ≠ "__name__" ->mb x=bootBuiltins x
 nolimit:base.NoLimit
structure Cx where
 prog:Program
 w:World
 K:W.Frag
 mg:Str->Option Value
 base:Heap
 A:Around
 N:List Str
 s₀:Shared
 H₀:Hp
 env:Env
 outer:List Env
 stack:List Env
 ex:List Addr
 fn:Str->Bool
 calm:Bool
 pn:List (Addr×Obj)
 xe:Value->Shared->Prop
noncomputable def frs(l:List Env):List Addr:=l.filterMap (·.frame)
noncomputable abbrev Cx.fs(X:Cx):List Addr:=frs X.outer
def BB(sc:Scope)(x:Str):Prop:=sc.names.lookup x=!.local\/sc.names.lookup x=!.cell\/sc.names.lookup x=!.free
def Loc(sc:Scope)(x:Str):Prop:=sc.names.lookup x=!.local\/sc.names.lookup x=!.cell
def Look(env:Env)(h:Heap)(m:Str->Option Value)(x:Str)(u:Value):Prop:=
 (env.kindOf x=!.local/\m x=!u)\/((env.kindOf x=!.cell\/env.kindOf x=!.free)/\∃c,env.cells.lookup x=!c/\h.IsCell c (!u))
structure Cx.Ok(X:Cx):Prop where
 mod:Mod X.K X.mg X.base
 kind:X.env.scope.kind=.function
 glob:X.env.globals=mainGlobals
 blt:X.env.builtins=builtinsNs
 above:X.s₀.heap.objs.size<=X.env.locals
 inj:∀x y c,X.env.cells.lookup x=!c->X.env.cells.lookup y=!c->x=y
 has:∀x,(X.env.kindOf x=!.cell\/X.env.kindOf x=!.free)->∃c,X.env.cells.lookup x=!c
 Ei:∀x c,X.fn x=true->X.env.cells.lookup x=!c->X.s₀.heap.objs.size<=c
 hd:X.calm=true->X.A.handled=none
 frames:X.A.frames=!X.stack
 stk:X.stack=X.outer\/(X.stack=X.env ::X.outer/\X.env.frame=!X.env.locals)
 GB:∀b∈X.ex,b≠X.env.locals/\∀x c,X.env.cells.lookup x=!c->c≠b
 bs:∀b o,X.base.get? b=!o->X.s₀.heap.get? b=!o/\X.H₀ b=none
 vt:X.base.objs.size<=X.s₀.heap.objs.size
 tS:∀b o,X.base.get? b=!o->b∉X.ex
 uw:∀b∈X.ex,b∉X.fs
 gX:X.s₀.heap.FunFrames X.base X.outer
 Ae:∀b∈X.fs,X.H₀ b=none
structure Inv(X:Cx)(pins:List (Addr×Obj))(σ:List (Option V))(H:Hp)(s:Shared):Prop where
 ok:X.Ok
 os:s.os=X.s₀.os
 bare:AllBare s.gens
 base:Un X.fs X.ex X.H₀ H X.s₀.heap s.heap
 loc:∃m,s.heap.Ns X.env.locals m/\∀(i:Nat)(x:Str)(v:V),X.N[i]?=!x->σ[i]?=!(!v)->BB X.env.scope x->∃u,RelV v u/\Look X.env s.heap m x u
 cell:∀x c,X.env.cells.lookup x=!c->∃v,s.heap.IsCell c v
 free:H X.env.locals=none
 cU:∀x c,X.env.cells.lookup x=!c->H c=none
 pin:∀p∈X.pn++pins,s.heap.get? p.1=!p.2/\H p.1=none/\p.1≠X.env.locals/\p.1∉X.fs/\∀v,p.2.data≠.cell v
 hok:dI X.prog X.w H s.heap
 len:σ.length=X.N.length
section
variable{X:Cx}{pins:List (Addr×Obj)}{σ:List (Option V)}{H H':Hp}{s:Shared}{h':Heap}
theorem Cx.Ok.IY(ok:X.Ok){b:Addr}{o:Obj}(e:X.base.get? b=!o):b∉X.fs:=λhb=>by
 have:=(ok.gX.mem hb).1;rw[e]at this;cases this
theorem Inv.bs(I:Inv X pins σ H s):∀b o,X.base.get? b=!o->s.heap.get? b=!o/\H b=none:=λb o e=>
 (I.base.keep b o (I.ok.bs b o e).1 (I.ok.bs b o e).2 (I.ok.IY e) (I.ok.tS b o e),I.base.free b o (I.ok.bs b o e).1 (I.ok.bs b o e).2 (I.ok.tS b o e),)
theorem Inv.bk(I:Inv X pins σ H s):∀b o,X.base.get? b=!o->s.heap.get? b=!o:=λb o e=>(I.bs b o e).1
theorem Inv.mod(I:Inv X pins σ H s):Mod X.K X.mg X.base:=I.ok.mod
theorem Inv.gV(I:Inv X pins σ H s):X.K.In s.heap:=I.ok.mod.Dr.keeps I.bk
theorem Inv.nolimit(I:Inv X pins σ H s):s.heap.NoLimit:=I.ok.mod.nolimit.keeps I.bk
theorem Inv.lt(I:Inv X pins σ H s):X.env.locals<s.heap.objs.size:=by let(_,hn,_,):=I.loc;exact hn.lt
theorem Inv.sz(I:Inv X pins σ H s):X.s₀.heap.objs.size<=s.heap.objs.size:=bbd I.ok.above (aWE I.lt)
theorem Inv.Dc(I:Inv X pins σ H s){a:Addr}(h:s.heap.objs.size<=a):a∉X.fs:=λhb=>by
 let(_,o,ho,_,):=I.ok.gX.mem hb;exact absurd (a5i (a2o ho) (bbd I.sz h)) (anG _)
theorem Inv.vq(I:Inv X pins σ H s):∀x c,X.env.cells.lookup x=!c->c≠X.env.locals:=λx c e z=>by
 let(v,o,ho,hd,):=I.cell x c e;let(m,(o',es,ep,ho',hd',_,),_,):=I.loc;rw[z,ho']at ho;cases ho;rw[hd']at hd;cases hd
theorem Inv.gX(I:Inv X pins σ H s):s.heap.FunFrames X.base X.outer:=by
 have all:∀(l:List Env),(∀b∈frs l,b∈X.fs)->X.s₀.heap.FunFrames X.base l->s.heap.FunFrames X.base l:=by
  intro l
  induction l with
  |nil=>intro _ _;trivial
  |cons env r ih=>
   intro hs hl;let(hk,(L,o,hf,hn,ho,hd,),hr,):=hl;have hL:L∈X.fs:=hs L (by unfold frs;rw[aaW,hf];exact anL);let(sl,e,):=I.base.slot L o ho (I.ok.Ae L hL) hL λz=>I.ok.uw L z hL;exact(hk,(L,_,hf,hn,e,hd,),ih (λb hb=>hs b (by unfold frs;rw[aaW,hf];exact aq4 _ hb)) hr,)
 exact all X.outer (λ_ hb=>hb) I.ok.gX
theorem Inv.stack(I:Inv X pins σ H s):s.heap.FunFrames X.base X.stack:=by
 rcases I.ok.stk with e|⟨e,hf⟩
 .rw [e];exact I.gX
 .rw [e];let(m,hn,_,):=I.loc;refine .cons (by rw[I.ok.kind];decide) hf hn ?_ I.gX;exact Heap.get?_none_of_le (bbd I.ok.vt I.ok.above)
theorem Inv.jV(I:Inv X pins σ H s):∀b∈frs X.stack,b∈X.env.locals ::X.fs:=λb hb=>by
 rcases I.ok.stk with e|⟨e,hf⟩
 .rw [e]at hb;exact aq4 _ hb
 .rw [e]at hb;unfold frs at hb;rw[aaW,hf]at hb;exact hb
theorem Inv.jW(I:Inv X pins σ H s):∀b∈frs X.stack,H b=none:=λb hb=>by
 rcases aPx.mp (I.jV b hb) with e|hb
 .rw [e];exact I.free
 .let(_,o,ho,_,):=I.ok.gX.mem hb;exact I.base.free b o ho (I.ok.Ae b hb) λz=>I.ok.uw b z hb
theorem Inv.step{g':Array GenState}{t':Nat}{d':Drawn}{ch:List Addr}(I:Inv X pins σ H s)
  (hch:∀b∈ch,(b∈X.ex\/X.s₀.heap.objs.size<=b)/\b≠X.env.locals/\(∀x c,X.env.cells.lookup x=!c->c≠b)/\∀p∈X.pn++pins,p.1≠b)
  (keep:∀b o,b≠X.env.locals->b∉X.fs->b∉ch->s.heap.get? b=!o->H b=none->h'.get? b=!o)
  (slot:∀b o,b≠X.env.locals->b∈X.fs->b∉ch->s.heap.get? b=!o->H b=none->∃sl,h'.get? b=!{ o with slots:=sl }) (free:∀b o,b∉ch->s.heap.get? b=!o->H b=none->H' b=none)
  (there:∀b o,b∉ch->s.heap.get? b=!o->∃o',h'.get? b=!o')
  (tups:∀b xs,H b=!(.tup xs)->H' b=!(.tup xs)) (gY:∀b o u,H b=!(.bH o u)->H' b=!(.bH o u)) (iw:∀b p q,H b=!(.jU p q)->H' b=!(.jU p q))
  (ns:∀m,s.heap.Ns X.env.locals m->h'.Ns X.env.locals m) (hok:dI X.prog X.w H' h') (hg:AllBare g') :
  Inv X pins σ H' { s with heap:=h',gens:=g',drawn:=d',toks:=t' }:=by
 have MM:∀b o,X.s₀.heap.get? b=!o->b≠X.env.locals:=λb o e=>aOt (a5i (a2o e) I.ok.above);have FU:∀b o,X.s₀.heap.get? b=!o->b∉X.ex->b∉ch:=λb o e hx hb=>by
  rcases(hch b hb).1 with z|z
  .exact hx z
  .exact absurd (a5i (a2o e) z) (anG _)
 have cellK:∀x c,X.env.cells.lookup x=!c->∀v,s.heap.IsCell c v->h'.IsCell c v:=λx c e v (o,ho,hd,)=>by
  have Dk:c∉ch:=λz=>(hch c z).2.2.1 x c e 8;by_cases hc:c∈X.fs
  .let(sl,q,):=slot c o (I.vq x c e) hc Dk ho (I.cU x c e);exact(_,q,hd,)
  .exact (o,keep c o (I.vq x c e) hc Dk ho (I.cU x c e),hd,)
 refine(I.ok,I.os,hg,(λb o e n hb hx=>?_,λb o e n hb hx=>?_,λb o e n hx=>?_,λb o e hx=>?_,λb xs e=>tups b xs (I.base.tups b xs e),λb o xs e=>gY b o xs (I.base.gY b o xs e),λb p r e=>iw b p r (I.base.iw b p r e),),?_,λx c e=>?_,?_,λx c e=>?_,λp hp=>?_,hok,I.len,)
 .exact keep b o (MM b o e) hb (FU b o e hx) (I.base.keep b o e n hb hx) (I.base.free b o e n hx)
 .let(sl,e1,):=I.base.slot b o e n hb hx;let(Su,e2,):=slot b _ (MM b o e) hb (FU b o e hx) e1 (I.base.free b o e n hx);exact(Su,e2,)
 .let(o',e1,):=I.base.there b o e hx;exact free b o' (FU b o e hx) e1 (I.base.free b o e n hx)
 .let(o',e1,):=I.base.there b o e hx;exact there b o' (FU b o e hx) e1
 .let(m,hn,hl,):=I.loc;refine(m,ns m hn,λi x v e1 e2 e3=>?_,);let(u,r,l,):=hl i x v e1 e2 e3;refine(u,r,?_,);rcases l with l|⟨k,c,e,z⟩
  .exact .inl l
  .exact .inr (k,c,e,cellK x c e _ z,)
 .let(v,z,):=I.cell x c e;exact(v,cellK x c e v z,)
 .let(m,(o,_,_,ho,_,),_,):=I.loc;exact free _ o (λz=>(hch _ z).2.1 8) ho I.free
 .let(v,o,ho,hd,):=I.cell x c e;exact free c o (λz=>(hch c z).2.2.1 x c e 8) ho (I.cU x c e)
 .let(e,n,ne,nf,d,):=I.pin p hp;have Dk:p.1∉ch:=λz=>(hch p.1 z).2.2.2 p hp 8;exact(keep p.1 p.2 ne nf Dk e n,free p.1 p.2 Dk e n,ne,nf,d,)
theorem Inv.un{t':Nat}(I:Inv X pins σ H s)(u:Un X.fs [] H H' s.heap h')(hok:dI X.prog X.w H' h'):Inv X pins σ H' { s with heap:=h',toks:=t' }:=by
 let(m,(o,es,ep,ho,r,),_,):=id I.loc;let(sl,hL,):=u.any ho I.free 5;exact I.step (g':=s.gens) (d':=s.drawn) (ch:=[]) (λ_ z=>nomatch z) (λb o _ hb _ e n=>u.keep b o e n hb 5) (λb o _ hb _ e n=>u.slot b o e n hb 5) (λb o _ e n=>u.free b o e n 5) (λb o _ e=>u.there b o e 5) u.tups u.gY u.iw (λm' hm=>by
  let(o',es',GD,ho',r',):=hm;rw[ho]at ho';cases ho';exact(_,es',GD,hL,r',)) hok I.bare
theorem Inv.call{g':Array GenState}{t':Nat}{d':Drawn}{ch:List Addr}(I:Inv X pins σ H s)(u:Un (frs X.stack) ch H H' s.heap h')(hok:dI X.prog X.w H' h')(hg:AllBare g')
  (hch:∀b∈ch,(b∈X.ex\/X.s₀.heap.objs.size<=b)/\b≠X.env.locals/\(∀x c,X.env.cells.lookup x=!c->c≠b)/\∀p∈X.pn++pins,p.1≠b) :
  Inv X pins σ H' { s with heap:=h',gens:=g',drawn:=d',toks:=t' }:=by
 let(m,(o,es,ep,ho,r,),_,):=id I.loc;let(sl,hL,):=u.any ho I.free λz=>(hch _ z).2.1 8;exact I.step (ch:=ch) hch (λb o hL hb hc e n=>u.keep b o e n (λz=>(aPx.mp (I.jV b z)).elim hL hb) hc) (λb o _ _ hc e n=>u.any e n hc) (λb o hc e n=>u.free b o e n hc) (λb o hc e=>u.there b o e hc) u.tups u.gY u.iw (λm' hm=>by
  let(o',es',GD,ho',r',):=hm;rw[ho]at ho';cases ho';exact(_,es',GD,hL,r',)) hok hg
theorem Inv.turned{t':Nat}{it:Addr}(I:Inv X pins σ H s)(k:∀b o,b≠it->s.heap.get? b=!o->h'.get? b=!o)(hn:H it=none)(hL:it≠X.env.locals)
  (h1:it∈X.ex\/X.s₀.heap.objs.size<=it) (h2:∀x c,X.env.cells.lookup x=!c->c≠it) (h3:∀p∈X.pn++pins,p.1≠it):Inv X pins σ H { s with heap:=h',toks:=t' }:=by
 have MK:∀b u,H b=!u->b≠it:=λb u e z=>by rw[z,hn]at e;cases e
 refine I.step (g':=s.gens) (d':=s.drawn) (ch:=[it]) (λb hb=>?_) (λb o _ _ hc e _=>k b o (λz=>hc (by simp[z])) e) (λb o _ _ hc e _=>(o.slots,k b o (λz=>hc (by simp[z])) e,)) (λ_ _ _ _ n=>n)
  (λb o hc e=>(o,k b o (λz=>hc (by simp[z])) e,)) (λ_ _ e=>e) (λ_ _ _ e=>e) (λ_ _ _ e=>e) (λm hm=>?_) (λb u e=>?_) I.bare
 .have e:b=it:=by simpa using hb
  subst e;exact(h1,hL,h2,h3,)
 .let(o,es,ep,ho,r,):=hm;exact(o,es,ep,k _ o (aUP hL) ho,r,)
 .refine (I.hok b u e).stay (λc v hc q=>k c v ?_ q) (λ_ q=>q) λ_ _ q=>q;rcases hc with z|z
  .rw [z];exact MK b u e
  .exact MK c _ z
theorem Inv.tok(I:Inv X pins σ H s)(t:Nat):Inv X pins σ H { s with toks:=t }:=I.un (h':=s.heap) (t':=t) Un.refl I.hok
theorem Inv.kept{t':Nat}(I:Inv X pins σ H s)(k:∀b u,s.heap.get? b=!u->h'.get? b=!u):Inv X pins σ H { s with heap:=h',toks:=t' }:=I.un (Un.kept k) (I.hok.kept k)
theorem Inv.laid{a:Addr}{o:HO}{t':Nat}(I:Inv X pins σ H s)(k:∀b u,s.heap.get? b=!u->h'.get? b=!u)(hp:s.heap.objs.size<=a)(new:aK X.prog X.w (upd H a o) h' a o) :
  Inv X pins σ (upd H a o) { s with heap:=h',toks:=t' }:=I.un (Un.laid k hp (I.hok.fresh hp)) (I.hok.laid k hp new)
theorem Inv.write{x e:Addr}{o:HO}{t':Nat}(I:Inv X pins σ H s)(mu:Fc (H x))(he:e=x\/H e=!(.own x))(k:∀b u,b≠e->s.heap.get? b=!u->h'.get? b=!u)(A7:∃u,h'.get? e=!u)
  (new:aK X.prog X.w (upd H x o) h' x o):Inv X pins σ (upd H x o) { s with heap:=h',toks:=t' }:=I.un (Un.write mu he k A7) (I.hok.write mu he k A7 new)
theorem Inv.pV{bM:List (Addr×Obj)}(I:Inv X pins σ H s)(h:∀p∈bM,s.heap.get? p.1=!p.2/\H p.1=none/\p.1≠X.env.locals/\p.1∉X.fs/\∀v,p.2.data≠.cell v):Inv X bM σ H s:=
 (I.ok,I.os,I.bare,I.base,I.loc,I.cell,I.free,I.cU,λp hp=>(a6S.mp hp).elim (λz=>I.pin p (aqT _ z)) (h p),I.hok,I.len,)
theorem PZ{N:List Str}(hN:N.Nodup){i j:Nat}{x:Str}(a:N[i]?=!x)(b:N[j]?=!x):i=j:=by
 let(h1,e1,):=aFR.mp a;let(h2,e2,):=aFR.mp b;exact(List.getElem_inj hN).mp (e1.trans e2.symm)
theorem QH{M:Model}{A:Around}{E:Value->Shared->Prop}{i:Nat}{x:Str}{v:V}{u:Value}{Q:Unit->Shared->Prop}(I:Inv X pins σ H s)(hN:X.N.Nodup)(hi:X.N[i]?=!x)(hx:Loc X.env.scope x)(r:RelV v u)
  (h:∀s',Inv X pins (σ.set i (!v)) H s'->(∃a,Heap.SameBut a s.heap s'.heap/\(a=X.env.locals\/X.env.cells.lookup x=!a))->Q () s') (hf:X.fn x=true\/X.env.scope.names.lookup x=!.local:=by first|exact .inl rfl|exact .inr rfl|assumption):wpAny M A (storeName X.env x u) Q E s:=by
 let(m,hn,hl,):=id I.loc;have hcls:(X.env.scope.kind == .class || (X.env.scope.kind == .module && X.env.locals !=X.env.globals))=false:=by rw[I.ok.kind];rfl
 have DM:i<σ.length:=by rw[I.len];exact(aFR.mp hi).1
 have vq:=I.vq;have tracked:∀{a:Addr}{h':Heap},(∃o,s.heap.get? a=!o/\H a=none)->Heap.SameBut a s.heap h'->dI X.prog X.w H h':=λ{a h'} ha hs b ob e=>by
  let(_,_,hfree,):=ha;refine(I.hok b ob e).stay (λc w' hc q=>(hs.2 c ?_).trans q) (λ_ q=>q) λ_ _ q=>q;rintro rfl;rcases hc with rfl|hc
  .rw [hfree]at e;cases e
  .rw [hfree]at hc;cases hc
 rcases hx with hk|hk
 .refine wpAny_storeName_local hk hn (λh' hn' hs=>?_) hcls;let(oL,_,_,A3,_,):=id hn;refine h _ (I.ok,I.os,I.bare,(λb o e n hb hx=>?_,λb o e n hb hx=>?_,I.base.free,λb o e hx=>?_,I.base.tups,I.base.gY,I.base.iw,),(_,hn',λj y v' e1 e2 e3=>?_,),λy c e=>?_,I.free,I.cU,λp hp=>?_,tracked (oL,A3,I.free,) hs,by simpa using I.len,) (_,hs,.inl 8,)
  .exact (hs.2 b (aOt (a5i (a2o e) I.ok.above))).trans (I.base.keep b o e n hb hx)
  .let(sl,e1,):=I.base.slot b o e n hb hx;exact(sl,(hs.2 b (aOt (a5i (a2o e) I.ok.above))).trans e1,)
  .let(o',e1,):=I.base.there b o e hx;exact(o',(hs.2 b (aOt (a5i (a2o e) I.ok.above))).trans e1,)
  .by_cases hj:j=i
   .subst hj;rw[hi]at e1;cases e1;rw[List.getElem?_set_self DM]at e2;cases e2;exact(u,r,.inl (hk,5,),)
   .rw [List.getElem?_set_ne (aUP hj)]at e2;let(u',r',q,):=hl j y v' e1 e2 e3;refine(u',r',?_,);rcases q with⟨k,e⟩|⟨k,c,e,z⟩
    .refine .inl (k,?_,);have:y≠x:=λe=>hj (PZ hN e1 (e ▸hi));simp[this,e]
    .exact .inr (k,c,e,z.sameBut hs (vq y c e),)
  .let(w',z,):=I.cell y c e;exact(w',z.sameBut hs (vq y c e),)
  .let(e,n,ne,nf,d,):=I.pin p hp;exact((hs.2 p.1 ne).trans e,n,ne,nf,d,)
 .have hfn:X.fn x=true:=by
   rcases hf with z|z
   .exact z
   .rw [z]at hk;cases hk
  let(c,hc,):=I.ok.has x (.inl hk);let(w',z,):=I.cell x c hc;refine wpAny_storeName_cell I.ok.kind hk hc z (λh' hc' hs=>?_);let(oc,hoc,JF,):=id z;refine h { s with heap:=h' } (I.ok,I.os,I.bare,(λb o e n hb hx=>?_,λb o e n hb hx=>?_,I.base.free,λb o e hx=>?_,I.base.tups,I.base.gY,I.base.iw,),(m,hn.sameBut hs (aUP (vq x c hc)),λj y v' e1 e2 e3=>?_,),λy c' e=>?_,I.free,I.cU,λp hp=>?_,tracked (oc,hoc,I.cU x c hc,) hs,by simpa using I.len,) (c,hs,.inr hc,)
  .exact (hs.2 b (aOt (a5i (a2o e) (I.ok.Ei x c hfn hc)))).trans (I.base.keep b o e n hb hx)
  .let(sl,e1,):=I.base.slot b o e n hb hx;exact(sl,(hs.2 b (aOt (a5i (a2o e) (I.ok.Ei x c hfn hc)))).trans e1,)
  .let(o',e1,):=I.base.there b o e hx;exact(o',(hs.2 b (aOt (a5i (a2o e) (I.ok.Ei x c hfn hc)))).trans e1,)
  .by_cases hj:j=i
   .subst hj;rw[hi]at e1;cases e1;rw[List.getElem?_set_self DM]at e2;cases e2;exact(u,r,.inr (.inl hk,c,hc,hc',),)
   .rw [List.getElem?_set_ne (aUP hj)]at e2;let(u',r',q,):=hl j y v' e1 e2 e3;refine(u',r',?_,);rcases q with q|⟨k,c',e,z'⟩
    .exact .inl q
    .refine .inr (k,c',e,z'.sameBut hs ?_,);rintro rfl;exact hj (PZ hN e1 (I.ok.inj _ _ _ e hc ▸hi))
  .by_cases hcc:c'=c
   .subst hcc;exact(_,hc',)
   .let(w2,z2,):=I.cell y c' e;exact(w2,z2.sameBut hs hcc,)
  .let(e,n,ne,nf,d,):=I.pin p hp;refine((hs.2 p.1 ?_).trans e,n,ne,nf,d,);intro q;rw[q,hoc]at e;have q':oc=p.2:=aFB e;exact d w' (by rw[<-q'];exact JF)
theorem yK{M:Model}{A:Around}{E:Value->Shared->Prop}{i:Nat}{x:Str}{v:V}{u:Value}{Q:Unit->Shared->Prop}(I:Inv X pins σ H s)(hN:X.N.Nodup)(hi:X.N[i]?=!x)(hx:Loc X.env.scope x)(r:RelV v u)
  (h:∀s',Inv X pins (σ.set i (!v)) H s'->Q () s') (hf:X.fn x=true\/X.env.scope.names.lookup x=!.local:=by first|exact .inl rfl|exact .inr rfl|assumption):wpAny M A (storeName X.env x u) Q E s:=
 QH I hN hi hx r (λs' I' _=>h s' I') hf
theorem Inv.Eh{s':Shared}{ch:List Addr}(I:Inv X pins σ H s)(ho:s'.os=s.os)(u:Un (frs X.stack) ch H H' s.heap s'.heap)(hok:dI X.prog X.w H' s'.heap)(hg:AllBare s'.gens)
  (hch:∀b∈ch,(b∈X.ex\/X.s₀.heap.objs.size<=b)/\b≠X.env.locals/\(∀x c,X.env.cells.lookup x=!c->c≠b)/\∀p∈X.pn++pins,p.1≠b):Inv X pins σ H' s':=by
 let(h',g',d',t',o',):=s';have e:o'=s.os:=ho;subst e;exact I.call (g':=g') (t':=t') (d':=d') u hok hg hch
end
noncomputable abbrev XK:=Value->Option Addr->Hp->Prop
noncomputable abbrev St:=List (Option V)
noncomputable abbrev VK:=V->Hp->Prop
noncomputable abbrev TE:=St->Hp->VK->Prop
noncomputable abbrev TT:=St->Hp->(Bool->Hp->Prop)->Prop
noncomputable abbrev TA:=St->Hp->(List V->Hp->Prop)->Prop
structure Ends where
 nx:St->Hp->Prop
 rt:VK
 bk:St->Hp->Prop:=λ_ _=>False
 ct:St->Hp->Prop:=λ_ _=>False
noncomputable abbrev TS:=Ends->St->Hp->Prop
def EP(X:Cx)(pins:List (Addr×Obj))(σ:St)(Q:VK)(u:Value)(s':Shared):Prop:=∃v H',Inv X pins σ H' s'/\RelV v u/\Q v H'
def TP(X:Cx)(pins:List (Addr×Obj))(σ:St)(Q:Bool->Hp->Prop)(b:Bool)(s':Shared):Prop:=∃H',Inv X pins σ H' s'/\Q b H'
def AP(X:Cx)(pins:List (Addr×Obj))(σ:St)(Q:List V->Hp->Prop)(us:List Value)(s':Shared):Prop:=∃vs H',Inv X pins σ H' s'/\Vals vs us/\Q vs H'
def SP(X:Cx)(pins:List (Addr×Obj))(D:Ends)(f:Flow)(s':Shared):Prop:=
 match f with
 | .next=>∃ σ' H',Inv X pins σ' H' s'/\D.nx σ' H'
 | .brk=>∃ σ' H',Inv X pins σ' H' s'/\D.bk σ' H'
 | .cont=>∃ σ' H',Inv X pins σ' H' s'/\D.ct σ' H'
 | .ret u=>∃v σ' H',Inv X pins σ' H' s'/\RelV v u/\D.rt v H'
def PE(X:Cx)(e:Expr)(t:TE):Prop:=
 ∀(pins:List (Addr×Obj))(s:Shared)(σ:St)(H:Hp)(Q:VK),Inv X pins σ H s->t σ H Q->wpAny (model X.prog X.w) X.A (eval e X.env) (EP X pins σ Q) X.xe s
def PT(X:Cx)(e:Expr)(t:TT):Prop:=
 ∀(pins:List (Addr×Obj))(s:Shared)(σ:St)(H:Hp)(Q:Bool->Hp->Prop),Inv X pins σ H s->t σ H Q->wpAny (model X.prog X.w) X.A (isTrue e X.env (eval e X.env)) (TP X pins σ Q) X.xe s
def PW(X:Cx)(e:Expr)(t:TT):Prop:=
 ∀(whole:Sem Value)(pins:List (Addr×Obj))(s:Shared)(σ:St)(H:Hp)(Q:Bool->Hp->Prop),Inv X pins σ H s->t σ H Q->wpAny (model X.prog X.w) X.A (isTrue e X.env whole) (TP X pins σ Q) X.xe s
theorem PW.pt{X:Cx}{e:Expr}{t:TT}(h:PW X e t):PT X e t:=h _
def PA(X:Cx)(es:List Expr)(t:TA):Prop:=
 ∀(pos:Pos)(pins:List (Addr×Obj))(s:Shared)(σ:St)(H:Hp)(Q:List V->Hp->Prop),Inv X pins σ H s->t σ H Q->wpAny (model X.prog X.w) X.A (spliced (backTo pos (starEach es X.env))) (AP X pins σ Q) X.xe s
def PS(X:Cx)(st:Stmt)(t:TS):Prop:=
 ∀(pins:List (Addr×Obj))(s:Shared)(σ:St)(H:Hp)(D:Ends),Inv X pins σ H s->t D σ H->wpAny (model X.prog X.w) X.A (exec st X.env) (SP X pins D) X.xe s
def qw(X:Cx)(st:List Stmt)(t:TS):Prop:=
 ∀(pins:List (Addr×Obj))(s:Shared)(σ:St)(H:Hp)(D:Ends),Inv X pins σ H s->t D σ H->wpAny (model X.prog X.w) X.A (execs st X.env) (SP X pins D) X.xe s
theorem bI{α:Type}{t:Sem α}{Q Q':α->Shared->Prop}{M:Model}{A:Around}{E:Value->Shared->Prop}{s:Shared}(h:wpAny M A t Q E s)(hQ:∀a s,Q a s->Q' a s):wpAny M A t Q' E s:=aP5 h hQ λ_ _ x=>x
theorem cO{t:Sem Value}{Q:VK}{Q':Value ->Shared ->Prop}{M:Model}{A:Around}{E:Value ->Shared ->Prop}{s:Shared}{X:Cx}{pins:List (Addr ×Obj)}{σ:St}(h:wpAny M A t (EP X pins σ Q) E s)(k: ∀v s x H,Inv X pins σ H s ->RelV x v ->Q x H ->Q' v s):wpAny M A t Q' E s:=aP5 h (λv s z=>by let(x,H,i,r,q,):=z;exact k v s x H i r q) λ_ _ x=>x
theorem pK{t:Sem (List Value)}{Q:List V ->Hp ->Prop}{Q':List Value ->Shared ->Prop}{M:Model}{A:Around}{E:Value ->Shared ->Prop}{s:Shared}{X:Cx}{pins:List (Addr ×Obj)}{σ:St}(h:wpAny M A t (AP X pins σ Q) E s)(k: ∀v s x H,Inv X pins σ H s ->Vals x v ->Q x H ->Q' v s):wpAny M A t Q' E s:=aP5 h (λv s z=>by let(x,H,i,r,q,):=z;exact k v s x H i r q) λ_ _ x=>x
section
variable{X:Cx}
inductive yY (i:Nat)(σ:St)(H:Hp)(Q:VK):Prop
 |mk (v:V):σ[i]?=!(!v)->Q v H->yY i σ H Q
def tC(v:V):TE:=λ_ H Q=>Q v H
theorem WN{i:Nat}{x:Str}{pos:Pos}(hN:X.N[i]?=!x)(hv:BB X.env.scope x)(hd:(x ==("__debug__":Str))=false:=by decide)(hcd:(x ==("__classdict__":Str))=false:=by decide):PE X (.Name x pos) (yY i):=by
 intro pins s σ H Q I h;let(v,e,h,):=h;let(m,hn,hl,):=I.loc;let(u,r,l,):=hl i x v hN e hv;have fin:EP X pins σ Q u s:=(v,H,I,r,h,);rcases l with⟨hk,hm⟩|⟨hk,c,hc,hcell⟩
 .exact wpAny_Name (wpAny_loadName_local I.ok.kind hk hn hm fin) hd
 .rcases hk with hk|hk
  .exact wpAny_Name (wpAny_loadName_cell I.ok.kind hk hc hcell fin) hd
  .exact wpAny_Name (wpAny_loadName_free I.ok.kind hk hc hcell fin hcd) hd
theorem Zh{i j pos}:PE X (.Constant (.int i) j pos) (tC (.int i)):=λ_ _ _ H _ I h=>wpAny_Constant_int (.int i,H,I.tok _,(_,8,),h,)
theorem aX{b j pos}:PE X (.Constant (.bool b) j pos) (tC (.bl b)):=λ_ _ _ H _ I h=>Constant_bool (.bl b,H,I,8,h,)
theorem pB{j pos}:PE X (.Constant .none j pos) (tC .aE):=λ_ _ _ H _ I h=>Constant_none (.aE,H,I,8,h,)
theorem wM{x j pos}:PE X (.Constant (.str x) j pos) (tC (.str x)):=λ_ _ _ H _ I h=>Calls.Constant_str (.str x,H,I.tok _,(_,8,),h,)
def Gl(X:Cx)(x:Str):Prop:=X.env.kindOf x=!.globalImplicit
theorem Pr{E:Value->Shared->Prop}{pins:List (Addr×Obj)}{s:Shared}{σ:St}{H:Hp}{x:Str}{u:Value}{pos:Pos}{Q:Value->Shared->Prop}(I:Inv X pins σ H s)(hg:Gl X x)(hm:X.mg x=!u)(h:Q u s)
  (hd:(x ==("__debug__":Str))=false:=by decide):wpAny (model X.prog X.w) X.A (eval (.Name x pos) X.env) Q E s:=
 Calls.Name_function_global I.ok.kind hg (Calls.loadGlobal_global (by rw[I.ok.glob];exact I.mod.glob.keeps I.bk) hm h) hd
theorem vz{E:Value->Shared->Prop}{pins:List (Addr×Obj)}{s:Shared}{σ:St}{H:Hp}{x:Str}{u:Value}{pos:Pos}{Q:Value->Shared->Prop}(I:Inv X pins σ H s)(hg:Gl X x)(hm:X.mg x=none)(hv:bootBuiltins x=!u)(h:Q u s)
  (hn:x ≠ "__name__":=by decide) (hd:(x ==("__debug__":Str))=false:=by decide):wpAny (model X.prog X.w) X.A (eval (.Name x pos) X.env) Q E s:=by
 let(mb,h1,h2,):=I.mod.blt;exact Calls.Name_function_global I.ok.kind hg (Calls.loadGlobal_builtin (by rw[I.ok.glob];exact I.mod.glob.keeps I.bk) hm (by rw[I.ok.blt];exact h1.keeps I.bk) ((h2 x hn).trans hv) h) hd
theorem uP{x:Str}{v:V}{u:Value}{pos:Pos}(hg:Gl X x)(hm:X.mg x=none)(hv:bootBuiltins x=!u)(r:RelV v u)(hn:x ≠ "__name__":=by decide)(hd:(x ==("__debug__":Str))=false:=by decide):PE X (.Name x pos) (tC v):=
 λ_ _ _ H _ I h=>vz I hg hm hv (v,H,I,r,h,) hn hd
variable{a b:Expr}{ta tb:TE}{pos:Pos}
def PC(X:Cx)(op:CmpOp)(a b:Expr)(t:TE):Prop:=
 ∀(pins:List (Addr×Obj))(s:Shared)(σ:St)(H:Hp)(Q:VK),Inv X pins σ H s->t σ H Q ->
  wpAny (model X.prog X.w) X.A (eval a X.env) (λv s₁=>wpAny (model X.prog X.w) X.A (eval b X.env) (λu s₂=>wpAny (model X.prog X.w) X.A (compareOp op v u) (EP X pins σ Q) X.xe s₂) X.xe s₁) X.xe s
theorem PY(b:Expr){op:CmpOp}(h:op≠.In)(h2:op≠.NotIn):behindInMarks op b=false:=by
 have e1:(op ==CmpOp.In)=false:=by cases op <;> first|rfl|exact absurd 8 h
 have e2:(op ==CmpOp.NotIn)=false:=by cases op <;> first|rfl|exact absurd 8 h2
 cases b <;> simp[behindInMarks,e1,e2]
def Iw(ta:TE):TE:=λσ H Q=>ta σ H λx H1=>Q (.bl (decide (x=.aE))) H1
def Cd(ta:TE):TE:=λσ H Q=>ta σ H λx H1=>Q (.bl ((not (decide (x=.aE))))) H1
theorem RelV.mU{x:V}{v:Value}(r:RelV x v):(v ==Value.none)=decide (x=.aE):=by
 cases x with
 |aE=>cases r;rfl
 |bl _=>cases r;rfl
 |int _=>let(t,rfl,):=r;rfl
 |str _=>let(t,rfl,):=r;rfl
 |pA _=>let(t,rfl,):=r;rfl
 |yu _=>let(t,rfl,):=r;rfl
 |ref _=>cases r;rfl
 |ty _=>cases r;rfl
theorem GQ{j pos'}(ha:PE X a ta):PC X .Is a (.Constant .none j pos') (Iw ta):=by
 intro pins s σ H Q I h;refine cO (ha pins s σ H _ I h) λv s1 x H1 I1 r1 q1=>?_;exact Constant_none (is_none_gen (.bl _,H1,I1,by rw[r1.mU];rfl,q1,))
theorem Hl{j pos'}(ha:PE X a ta):PC X .IsNot a (.Constant .none j pos') (Cd ta):=by
 intro pins s σ H Q I h;refine cO (ha pins s σ H _ I h) λv s1 x H1 I1 r1 q1=>?_;exact Constant_none (isnot_none_gen (.bl _,H1,I1,by rw[r1.mU];rfl,q1,))
inductive eB (Q:Bool->Hp->Prop)(x:V)(H1:Hp):Prop
 |mk (c:Bool):x=.bl c->Q c H1->eB Q x H1
def tB(t:TE):TT:=λσ H Q=>t σ H (eB Q)
theorem GO{op:CmpOp}{t:TE}(h:PC X op a b t)(h1:behindInMarks op b=false:=by first|exact PY _ (by decide) (by decide)|rfl):PE X (.Compare a [op] [b] pos) t:=λpins s σ H Q I hw=>wpAny_Compare1 (h pins s σ H Q I hw) h1
theorem EC{op:CmpOp}{t:TE}(h:PC X op a b t)(h1:behindInMarks op b=false:=by first|exact PY _ (by decide) (by decide)|rfl):PT X (.Compare a [op] [b] pos) (tB t):=by
 intro pins s σ H Q I hw;refine wpAny_isTrue_Compare1 (bI (h pins s σ H _ I hw) λv s1 h1=>bI h1 λu s2 h2=>bI h2 λc s3 (x,H1,I1,r1,q1,)=>?_) h1;let(d,rfl,q,):=q1;cases r1;exact auF (H1,I1,q,)
theorem ZW{e:Expr}{t:TE}(h:PE X e t)(he:∀whole,isTrue e X.env whole=(do let v <-whole;standAt e.pos;holding [v] (truthy v)):=by intro _;rfl):PT X e (tB t):=by
 intro pins s σ H Q I hw;refine isTrue_plain (cO (h pins s σ H _ I hw) λv s1 x H1 I1 r1 q1=>?_) (he _);let(d,rfl,q,):=q1;cases r1;exact auF (H1,I1,q,)
variable{tA FF:TT}{rest:List Expr}
def IC(t u:TT):TT:=λσ H Q=>t σ H λc H1=>if c=true then u σ H1 Q else Q false H1
def Mr(t u:TT):TT:=λσ H Q=>t σ H λc H1=>if c=true then Q true H1 else u σ H1 Q
def Ir(t:TT):TT:=λσ H Q=>t σ H λc H1=>Q ((not (c))) H1
theorem vD(ha:PT X a tA):PW X (.BoolOp .And [a] pos) tA:=by
 intro wh pins s σ H Q I h;refine isTrue_and (bI (ha pins s σ H Q I h) λc s1 e=>?_);cases c with
 |true=>exact isTrue_and_nil e
 |false=>exact e
theorem rW(ha:PT X a tA):PW X (.BoolOp .Or [a] pos) tA:=by
 intro wh pins s σ H Q I h;refine isTrue_or (bI (ha pins s σ H Q I h) λc s1 e=>?_);cases c with
 |false=>exact isTrue_or_nil e
 |true=>exact e
theorem vv(ha:PT X a tA)(hb:PW X (.BoolOp .And (b ::rest) pos) FF):PW X (.BoolOp .And (a ::b ::rest) pos) (IC tA FF):=by
 intro wh pins s σ H Q I h;refine isTrue_and (bI (ha pins s σ H _ I h) λc s1 (H1,I1,q1,)=>?_);cases c with
 |true=>exact hb wh pins s1 σ H1 Q I1 q1
 |false=>exact(H1,I1,q1,)
theorem pw_or(ha:PT X a tA)(hb:PW X (.BoolOp .Or (b ::rest) pos) FF):PW X (.BoolOp .Or (a ::b ::rest) pos) (Mr tA FF):=by
 intro wh pins s σ H Q I h;refine isTrue_or (bI (ha pins s σ H _ I h) λc s1 (H1,I1,q1,)=>?_);cases c with
 |true=>exact(H1,I1,q1,)
 |false=>exact hb wh pins s1 σ H1 Q I1 q1
theorem ny(ha:PT X a tA):PT X (.UnaryOp .Not a pos) (Ir tA):=by
 intro pins s σ H Q I h;exact isTrue_not (ha pins s σ H (λc H1=>Q ((not (c))) H1) I h)
def Ck(ta tb:TE):TE:=λσ H Q=>ta σ H (eB λc H1=>if c=true then tb σ H1 Q else Q (.bl false) H1)
def Cc(ta:TE):TE:=λσ H Q=>ta σ H (eB λc H1=>Q (.bl ((not (c)))) H1)
theorem EB{op}{t:TE}(h:PE X a t):PE X (.BoolOp op [a] pos) t:=λpins s σ H Q I hw=>BoolOp_one (h pins s σ H Q I hw)
theorem EA(ha:PE X a ta)(hb:PE X (.BoolOp .And (b ::rest) pos) tb):PE X (.BoolOp .And (a ::b ::rest) pos) (Ck ta tb):=by
 intro pins s σ H Q I h;refine BoolOp_and (cO (ha pins s σ H _ I h) λv s1 x H1 I1 r1 q1=>?_);let(c,rfl,q1,):=q1;cases r1;refine auF ?_;cases c with
 |true=>exact hb pins s1 σ H1 Q I1 q1
 |false=>exact(.bl false,H1,I1,8,q1,)
theorem OA(ha:PE X a ta):PE X (.UnaryOp .Not a pos) (Cc ta):=by
 intro pins s σ H Q I h;refine UnaryOp_ (cO (ha pins s σ H _ I h) λv s1 x H1 I1 r1 q1=>?_);let(c,rfl,q1,):=q1;cases r1;exact not_of (auF (.bl ((not (c))),H1,I1,8,q1,))
def FD(t:TT)(ta tb:TE):TE:=λσ H Q=>t σ H λc H1=>if c=true then ta σ H1 Q else tb σ H1 Q
theorem uM{c:Expr}(hc:PT X c tA)(ha:PE X a ta)(hb:PE X b tb):PE X (.IfExp c a b pos) (FD tA ta tb):=by
 intro pins s σ H Q I h;refine wpAny_IfExp (bI (hc pins s σ H _ I h) λd s1 (H1,I1,q1,)=>?_);cases d with
 |true=>exact ha pins s1 σ H1 Q I1 q1
 |false=>exact hb pins s1 σ H1 Q I1 q1
end
def ah(K:W.Frag)(H:Hp)(a:Addr)(xs:List V):Prop:=
 Rd H a (.lst xs) \/
  ∃(o:Obj)(its:Array Value)(n:Nat),K.lookup a=!o/\o.cls=.type "list" /\o.dict=none/\o.data=.seq its n/\its.size<=sizeLine/\Vals xs its.toList
def bS(K:W.Frag)(H:Hp)(a:Addr)(xs:List V):Prop:=
 Rd H a (.tup xs) \/
  ∃(o:Obj)(its:Array Value)(n:Nat),K.lookup a=!o/\o.cls=.type "tuple" /\o.data=.seq its n/\its.size<=sizeLine/\Vals xs its.toList
noncomputable def Kv:Value->Option V
 | .none=>!.aE
 | .bool b=>!(.bl b)
 | .int i _=>!(.int i)
 | .str x _=>!(.str x)
 | .bytes b _=>!(.pA b)
 | .float b _=>!(.yu b)
 | .ref a=>!(.ref a)
 | .type n=>!(.ty n)
 |_=>none
theorem RelV.abs{x:V}{u:Value}(r:RelV x u):Kv u=!x:=by
 cases x with
 |aE=>cases r;rfl
 |bl _=>cases r;rfl
 |int _=>let(t,rfl,):=r;rfl
 |str _=>let(t,rfl,):=r;rfl
 |pA _=>let(t,rfl,):=r;rfl
 |yu _=>let(t,rfl,):=r;rfl
 |ref _=>cases r;rfl
 |ty _=>cases r;rfl
theorem RelV.inj{x y:V}{u:Value}(r:RelV x u)(q:RelV y u):x=y:=aFB (r.abs.symm.trans q.abs)
theorem Vals.inj:∀{xs ys:List V}{us:List Value},Vals xs us->Vals ys us->xs=ys
 |_,_,_,.nil,.nil=>rfl
 |_,_,_,.cons r t,.cons r' t'=>by rw[r.inj r',Vals.inj t t']
section
variable{X:Cx}{pins:List (Addr×Obj)}{σ:St}{H:Hp}{s:Shared}{a:Addr}{xs ys:List V}
theorem ah.of{K:W.Frag}(h:H a=!(.lst xs)):ah K H a xs:=.inl (.inl h)
theorem bS.of{K:W.Frag}(h:H a=!(.tup xs)):bS K H a xs:=.inl (.inl h)
theorem Inv.list(I:Inv X pins σ H s)(h:ah X.K H a xs):∃its:List Value,Vals xs its/\PlainL s.heap a its.toArray/\xs.length<=sizeLine:=by
 rcases h with h|⟨o,its,n,hk,hc,hd,hs,hz,r⟩
 .let(z,its,n,r,e,):=h.ok I.hok;exact(its,r,(_,n,e,115,),z,)
 .refine (its.toList,r,(o,n,I.gV a o hk,hc,hd,by simpa using hs,),?_,);have e:=r.length;simp only[aou]at e;lia
theorem Inv.tuple(I:Inv X pins σ H s)(h:bS X.K H a xs):∃its:List Value,Vals xs its/\IsTup s.heap a its.toArray/\xs.length<=sizeLine:=by
 rcases h with h|⟨o,its,n,hk,hc,hs,hz,r⟩
 .let(z,its,r,p,):=h.ok I.hok;exact(its,r,p,z,)
 .refine (its.toList,r,(o,I.gV a o hk,hc,n,by simpa using hs,),?_,);have e:=r.length;simp only[aou]at e;lia
theorem Inv.dQ(I:Inv X pins σ H s)(h:ah X.K H a xs)(h':ah X.K H a ys):xs=ys:=by
 let(its,r,(o,n,e,_,_,d,),_,):=I.list h;let(its',r',(o',n',e',_,_,d',),_,):=I.list h';rw[e]at e';cases e';rw[d]at d';injection d' with d1 _
 have:its=its':=by simpa using aFH Array.toList d1
 subst this;exact r.inj r'
theorem Inv.jD(I:Inv X pins σ H s)(h:bS X.K H a xs)(h':bS X.K H a ys):xs=ys:=by
 let(its,r,(o,e,_,n,d,),_,):=I.tuple h;let(its',r',(o',e',_,n',d',),_,):=I.tuple h';rw[e]at e';cases e';rw[d]at d';injection d' with d1 _
 have:its=its':=by simpa using aFH Array.toList d1
 subst this;exact r.inj r'
end
noncomputable abbrev Cx.ja(X:Cx)(E:Value->Shared->Prop):Cx:={ X with xe:=E }
noncomputable abbrev Cx.zE(X:Cx):Cx:=X.ja λ_ _=>False
theorem Cx.Ok.ja{X:Cx}(ok:X.Ok)(E:Value->Shared->Prop):(X.ja E).Ok:=
 (ok.mod,ok.kind,ok.glob,ok.blt,ok.above,ok.inj,ok.has,ok.Ei,ok.hd,ok.frames,ok.stk,ok.GB,ok.bs,ok.vt,ok.tS,ok.uw,ok.gX,ok.Ae,)
theorem Cx.Ok.dJ{X:Cx}{E:Value->Shared->Prop}(ok:(X.ja E).Ok):X.Ok:=
 (ok.mod,ok.kind,ok.glob,ok.blt,ok.above,ok.inj,ok.has,ok.Ei,ok.hd,ok.frames,ok.stk,ok.GB,ok.bs,ok.vt,ok.tS,ok.uw,ok.gX,ok.Ae,)
section
variable{X:Cx}{pins:List (Addr×Obj)}{σ:St}{H:Hp}{s:Shared}{E:Value->Shared->Prop}
theorem Inv.ja(I:Inv X pins σ H s)(E:Value->Shared->Prop):Inv (X.ja E) pins σ H s:=(I.ok.ja E,I.os,I.bare,I.base,I.loc,I.cell,I.free,I.cU,I.pin,I.hok,I.len,)
theorem Inv.dJ(I:Inv (X.ja E) pins σ H s):Inv X pins σ H s:=(I.ok.dJ,I.os,I.bare,I.base,I.loc,I.cell,I.free,I.cU,I.pin,I.hok,I.len,)
theorem SP.dJ{D:Ends}{f:Flow}{s':Shared}(h:SP (X.ja E) pins D f s'):SP X pins D f s':=by
 cases f with
 |next=>let(σ',H',I,q,):=h;exact(σ',H',I.dJ,q,)
 |brk=>let(σ',H',I,q,):=h;exact(σ',H',I.dJ,q,)
 |cont=>let(σ',H',I,q,):=h;exact(σ',H',I.dJ,q,)
 |ret u=>let(v,σ',H',I,r,q,):=h;exact(v,σ',H',I.dJ,r,q,)
theorem qw.zE{st:List Stmt}{t:TS}(h:qw X.zE st t):qw X st t:=λpins s σ H D I hw=>
 aP5 (h pins s σ H D (I.ja _) hw) (λ_ _ q=>q.dJ) λ_ _ z=>False.elim z
end
section
variable{X:Cx}{st:Stmt}{rest:List Stmt}{t u:TS}{e:Expr}{te:TE}{pos:Pos}
def bX:TS:=λD σ H=>D.nx σ H
def qD(t u:TS):TS:=λD σ H=>t { D with nx:=u D } σ H
theorem Zw:qw X [] bX:=λ_ _ σ H _ I h=>wpAny_execs_nil (σ,H,I,h,)
theorem Zf(h1:PS X st t)(h2:qw X rest u):qw X (st ::rest) (qD t u):=by
 intro pins s σ H D I h;refine wpAny_execs_cons (bI (h1 pins s σ H { D with nx:=u D } I h) λf s1 q=>?_);cases f with
 |next=>
  let(σ',H',I',q,):=q;exact h2 pins s1 σ' H' D I' q
 |ret v=>exact q
 |brk=>exact q
 |cont=>exact q
theorem Zj(h1:PS X st t):qw X [st] t:=by
 intro pins s σ H D I h;refine wpAny_execs_cons (bI (h1 pins s σ H D I h) λf s1 q=>?_);cases f with
 |next=>exact wpAny_execs_nil q
 |ret v=>exact q
 |brk=>exact q
 |cont=>exact q
theorem Inv.quiet{pins:List (Addr×Obj)}{σ:St}{H:Hp}{s:Shared}(I:Inv X pins σ H s):interactive X.env=false:=by simp[interactive,I.ok.kind]
def Cg(te:TE):TS:=λD σ H=>te σ H λ_ H1=>D.nx σ H1
theorem ZC(he:PE X e te)(hs:swapsWith e none pos.line X.env=pure false:=by rfl):PS X (.Expr e pos) (Cg te):=by
 intro pins s σ H D I h;exact wpAny_Expr_any (cO (he pins s σ H _ I h) λv s1 x H1 I1 r1 q1=>(σ,H1,I1,q1,)) I.quiet hs
def Ip(te:TE):TS:=λD σ H=>te σ H D.rt
theorem Zr(he:PE X e te):PS X (.Return (!e) pos) (Ip te):=by
 intro pins s σ H D I h;exact wpAny_Return_some (cO (he pins s σ H _ I h) λv s1 x H1 I1 r1 q1=>(x,σ,H1,I1,r1,q1,))
def Ce(c:TT)(t u:TS):TS:=λD σ H=>c σ H λb H1=>if b=true then t D σ H1 else u D σ H1
theorem aF{c:Expr}{a b:List Stmt}{tc:TT}(hc:PT X c tc)(ha:qw X a t)(hb:qw X b u):PS X (.If c a b pos) (Ce tc t u):=by
 intro pins s σ H D I h;refine wpAny_If (bI (hc pins s σ H _ I h) λd s1 (H1,I1,q1,)=>?_);cases d with
 |true=>exact ha pins s1 σ H1 D I1 q1
 |false=>exact hb pins s1 σ H1 D I1 q1
end
noncomputable abbrev TG:=V->St->Hp->(St->Hp->Prop)->Prop
noncomputable abbrev Aw:=List V->St->Hp->(St->Hp->Prop)->Prop
def PG(X:Cx)(target:Expr)(t:TG):Prop:=
 ∀(pins:List (Addr×Obj))(s:Shared)(σ:St)(H:Hp)(v:V)(u:Value)(Q:St->Hp->Prop),Inv X pins σ H s->RelV v u->t v σ H Q ->
  wpAny (model X.prog X.w) X.A (assign target X.env u) (λ_ s'=>∃ σ' H',Inv X pins σ' H' s'/\Q σ' H') X.xe s
def E6(X:Cx)(ts:List Expr)(t:Aw):Prop:=
 ∀(pins:List (Addr×Obj))(s:Shared)(σ:St)(H:Hp)(vs:List V)(us:List Value)(Q:St->Hp->Prop),Inv X pins σ H s->Vals vs us->t vs σ H Q ->
  wpAny (model X.prog X.w) X.A (assignInOrder ((assignEach ts X.env).map (·.2)) us) (λ_ s'=>∃ σ' H',Inv X pins σ' H' s'/\Q σ' H') X.xe s
noncomputable abbrev Av:=V->V->V->Hp->(Hp->Prop)->Prop
def E5(X:Cx)(t:Av):Prop:=
 ∀(pins:List (Addr×Obj))(s:Shared)(σ:St)(H:Hp)(o i v:V)(ov iv u:Value)(Q:Hp->Prop),Inv X pins σ H s->RelV o ov->RelV i iv->RelV v u->t o i v H Q ->
  wpAny (model X.prog X.w) X.A (setItem ov iv u) (λ_ s'=>∃H',Inv X pins σ H' s'/\Q H') X.xe s
noncomputable abbrev HS:=V->V->Hp->VK->Prop
def L3(X:Cx)(op:Operator)(t:HS):Prop:=
 ∀(pins:List (Addr×Obj))(s:Shared)(σ:St)(H:Hp)(x y:V)(v u:Value)(Q:VK),Inv X pins σ H s->RelV x v->RelV y u->t x y H Q ->
  wpAny (model X.prog X.w) X.A (inplaceOp op v u) (EP X pins σ Q) X.xe s
section
variable{X:Cx}{pos:Pos}
def b9(i:Nat):TG:=λv σ H Q=>Q (σ.set i (!v)) H
theorem Xd{i:Nat}{x:Str}(hN:X.N.Nodup)(hi:X.N[i]?=!x)(hx:Loc X.env.scope x)(hf:X.fn x=true\/X.env.scope.names.lookup x=!.local:=by first|exact .inl rfl|exact .inr rfl|assumption):PG X (.Name x pos) (b9 i):=by
 intro pins s σ H v u Q I r h;exact wpAny_assign_Name (yK I hN hi hx r (λs' I'=>(_,H,I',h,)) hf)
noncomputable def J2:Aw:=λvs σ H Q=>vs=[]/\Q σ H
inductive yq (t:TG)(u:Aw)(vs:List V)(σ:St)(H:Hp)(Q:St->Hp->Prop):Prop
 |mk (v:V)(r:List V):vs=v ::r->(t v σ H λσ' H'=>u r σ' H' Q)->yq t u vs σ H Q
theorem ZQ:E6 X [] J2:=by
 intro pins s σ H vs us Q I r h;let(e,h,):=h;subst e;cases r;exact assignInOrder_nil (σ,H,I,h,)
theorem Zs{e:Expr}{es:List Expr}{t:TG}{u:Aw}(h1:PG X e t)(h2:E6 X es u)
  (hs:(assignEach (e ::es) X.env).map (·.2)=assign e X.env ::(assignEach es X.env).map (·.2):=by rfl):E6 X (e ::es) (yq t u):=by
 intro pins s σ H vs us Q I r h;let(v,vr,e1,h,):=h;subst e1;cases r with
 |cons r rr=>
  rw[hs];refine aQV (bI (h1 pins s σ H _ _ _ I r h) λ_ s1 (σ1,H1,I1,q1,)=>?_);exact h2 pins s1 σ1 H1 _ _ Q I1 rr q1
inductive Ac (K:W.Frag)(n:Nat)(t:Aw)(v:V)(σ:St)(H:Hp)(Q:St->Hp->Prop):Prop
 |mk (a:Addr)(xs:List V):v=.ref a->bS K H a xs->xs.length=n->t xs σ H Q->Ac K n t v σ H Q
theorem WM{es:List Expr}{k:Nat}{t:Aw}{n:Nat}(hc:X.calm=true)(h:E6 X es t)
  (hn:(assignEach es X.env).length=n:=by rfl) (hst:(assignEach es X.env).findIdx? (·.1)=none:=by rfl):PG X (.Tuple es k pos) (Ac X.K n t):=by
 intro pins s σ H v u Q I r hw;let(a,xs,e1,hq,hl,hw,):=hw;subst e1;cases r;let(its,rv,ht,hz,):=I.tuple hq;refine assign_Tuple_tuple (I.ok.hd hc) ht (by simp[hn,<-hl,rv.length]) hst λh' hx=>?_;have I1:Inv X pins σ H { s with heap:=h' }:=I.kept (t':=s.toks) λb o e=>hx b o (aOt (a2o e)) e;exact h pins _ σ H xs _ Q I1 (by simpa using rv) hw
def JZ(to ti:TE)(t:Av):TG:=λv σ H Q=>to σ H λo H1=>ti σ H1 λi H2=>t o i v H2 λH3=>Q σ H3
theorem Bo{o i:Expr}{to ti:TE}{t:Av}(ho:PE X o to)(hi:PE X i ti)(hs:E5 X t)
  (ha:∀v,assign (.Subscript o i pos) X.env v=(do
   let ov <-holding [v] (eval o X.env)
   let iv <-holding [v,ov] (eval i X.env)
   standAt pos
   holding [v,ov,iv] (setItem ov iv v)
   release [v,ov,iv] []):=by intro _;rfl):PG X (.Subscript o i pos) (JZ to ti t):=by
 intro pins s σ H v u Q I r h;rw[ha];refine aTi (a7y (cO (ho pins s σ H _ I h) λov s1 x H1 I1 r1 q1=>?_));refine aTi (a7y (cO (hi pins s1 σ H1 _ I1 q1) λiv s2 y H2 I2 r2 q2=>?_));refine aTi (a4y (aTi (a7y (bI (hs pins s2 σ H2 x y v ov iv u _ I2 r1 r2 r q2) λ_ s3 (H3,I3,q3,)=>?_))));exact wpAny_release (σ,H3,I3,q3,)
def ow(te:TE)(g:TG):TS:=λD σ H=>te σ H λx H1=>g x σ H1 D.nx
theorem uN{tg e:Expr}{te:TE}{g:TG}(he:PE X e te)(hg:PG X tg g)(hs:swapsWithSole [tg] e pos.line X.env=pure false:=by rfl)(hw:swappedStores [tg] e X.env=pure none:=by rfl)
  (h1:(assignEach [tg] X.env).map (·.2)=[assign tg X.env]:=by rfl):PS X (.Assign [tg] e pos) (ow te g):=by
 intro pins s σ H D I h;refine wpAny_Assign_stores (cO (he pins s σ H _ I h) λv s1 x H1 I1 r1 q1=>?_) hs hw;rw[h1];exact bI (hg pins s1 σ H1 x v _ I1 r1 q1) λ_ s2 q=>q
theorem WL{i:Nat}{x:Str}{e:Expr}{te:TE}{pos':Pos}(hN:X.N.Nodup)(hi:X.N[i]?=!x)(hx:Loc X.env.scope x)(he:PE X e te)(hs:swapsWith e (!(.Name x pos')) pos.line X.env=pure false:=by rfl)(hf:X.fn x=true\/X.env.scope.names.lookup x=!.local:=by first|exact .inl rfl|exact .inr rfl|assumption) :
  PS X (.Assign [.Name x pos'] e pos) (ow te (b9 i)):=by
 intro pins s σ H D I h;refine wpAny_Assign_Name (cO (he pins s σ H _ I h) λv s1 y H1 I1 r1 q1=>?_) hs;exact yK I1 hN hi hx r1 (λs2 I2=>(_,H1,I2,q1,)) hf
inductive D8 (i j:Nat)(D:Ends)(σ:St)(vs:List V)(H1:Hp):Prop
 |mk (v w:V):vs=[v,w]->D.nx ((σ.set i (!v)).set j (!w)) H1->D8 i j D σ vs H1
def Iq(i j:Nat)(ta:TA):TS:=λD σ H=>ta σ H (D8 i j D σ)
theorem Ez{i j:Nat}{x y:Str}{a b:Expr}{ta:TA}{px py pt:Pos}{kt k2 zp}(hc:X.calm=true)(hN:X.N.Nodup)(hi:X.N[i]?=!x)(hj:X.N[j]?=!y)(hij:i≠j)
  (hx:X.env.scope.names.lookup x=!.local) (hy:X.env.scope.names.lookup y=!.local) (ha:PA X [a,b] ta)
  (hw:swappedStores [.Tuple [.Name x px,.Name y py] kt pt] (.Tuple [a,b] k2 zp) X.env=pure (![x,y]))
  (hs:swapsWithSole [.Tuple [.Name x px,.Name y py] kt pt] (.Tuple [a,b] k2 zp) pos.line X.env=pure false:=by rfl) :
  PS X (.Assign [.Tuple [.Name x px,.Name y py] kt pt] (.Tuple [a,b] k2 zp) pos) (Iq i j ta):=by
 intro pins s σ H D I h;rw[exec_Assign_arm];refine aTi (a4y ?_);rw[hs];refine aTi (ak8 ?_);rw[aah 9];refine aTi (Tuple_ (pK (ha _ pins s σ H _ I h) λus s1 vs H1 I1 r1 q1=>?_));let(v,w,e1,q1,):=q1;subst e1;obtain⟨u1,u2,rfl,rv,rw'⟩:∃u1 u2,us=[u1,u2]/\RelV v u1/\RelV w u2:=by
  cases r1 with
  |cons p q=>
   cases q with
   |cons p' q'=>
    cases q';exact(109,p,p',)
 refine a8y ?_ (by show 2<=sizeLine;decide);have I2:Inv X pins σ H1 { s1 with heap:=s1.heap.push { cls:=.type "tuple",data:=.seq [u1,u2].toArray } }:=I1.kept (t':=s1.toks) λb o e=>aJV _ e;rw[hw];refine aTi (ak8 ?_);show wpAny (model X.prog X.w) X.A (do rule "assign.swapped-stores";let items <-unpackItems (.ref s1.heap.objs.size) 2 none;assignInOrder [λv=>bindName X.env y v,λv=>bindName X.env x v] items.reverse;pure Flow.next) _ _ _;refine aTi (aJI (aTi (unpackItems_tuple (items:=#[u1,u2]) (I.ok.hd hc) (IsTup.new s1.heap _) λh' hx'=>?_)));have I3:=I2.kept (h':=h') (t':=s1.toks) λb o e=>hx' b o (aOt (a2o e)) e;show wpAny _ _ (assignInOrder [λv=>bindName X.env y v,λv=>bindName X.env x v] [u2,u1] >>= λ_=>pure Flow.next) _ _ _;refine aTi (aQV (an5 (yK I3 hN hj (.inl hy) rw' (λs2 I4=>?_) (.inr hy))));refine aQV (an5 (yK I4 hN hi (.inl hx) rv (λs3 I5=>assignInOrder_nil (ak8 ?_)) (.inr hx)));rw[List.set_comm _ _ (aUP hij)]at I5;exact(_,H1,I5,q1,)
inductive Cj (i:Nat)(te:TE)(ti:HS)(D:Ends)(σ:St)(H:Hp):Prop
 |mk (x:V):σ[i]?=!(!x)->(te σ H λy H1=>ti x y H1 λz H2=>D.nx (σ.set i (!z)) H2)->Cj i te ti D σ H
theorem K2{i:Nat}{x:Str}{e:Expr}{te:TE}{op:Operator}{ti:HS}{pos':Pos}(hN:X.N.Nodup)(hi:X.N[i]?=!x)(hx:Loc X.env.scope x)(he:PE X e te)(ho:L3 X op ti)(hf:X.fn x=true\/X.env.scope.names.lookup x=!.local:=by first|exact .inl rfl|exact .inr rfl|assumption) :
  PS X (.AugAssign (.Name x pos') op e pos) (Cj i te ti):=by
 intro pins s σ H D I h;let(v,e1,h,):=h;let(m,hn,hl,):=I.loc;have vis:BB X.env.scope x:=by rcases hx with k|k;exact .inl k;exact .inr (.inl k)
 let(u,r,l,):=hl i x v hi e1 vis;refine wpAny_AugAssign_Name ?_;have go:wpAny (model X.prog X.w) X.A (eval e X.env) (λw s₂=>wpAny (model X.prog X.w) X.A (inplaceOp op u w) (λr s₃=>wpAny (model X.prog X.w) X.A (storeName X.env x r) (λ_=>SP X pins D .next) X.xe s₃) X.xe s₂) X.xe s:=by
  refine cO (he pins s σ H _ I h) λw s1 y H1 I1 r1 q1=>?_;refine cO (ho pins s1 σ H1 v y u w _ I1 r r1 q1) λz s2 zv H2 I2 r2 q2=>?_;exact yK I2 hN hi hx r2 (λs3 I3=>(_,H2,I3,q2,)) hf
 rcases l with⟨hk,hm⟩|⟨hk,c,hc,hcell⟩
 .exact wpAny_loadName_local I.ok.kind hk hn hm go
 .rcases hk with hk|hk
  .exact wpAny_loadName_cell I.ok.kind hk hc hcell go
  .rcases hx with k|k
   .have:X.env.scope.names.lookup x=!.free:=hk;rw[k]at this;cases this
   .have:X.env.scope.names.lookup x=!.free:=hk;rw[k]at this;cases this
inductive MZ (f:Int->Int->Int)(x y:V)(H:Hp)(Q:VK):Prop
 |mk (i j:Int):x=.int i->y=.int j->Q (.int (f i j)) H->MZ f x y H Q
theorem Oz:L3 X .Add (MZ λi j=>i+j):=by
 intro pins s σ H x y v u Q I r1 r2 h;let(i,j,e1,e2,q,):=h;subst e1;subst e2;let(t,rfl,):=r1;let(t',rfl,):=r2;exact iadd_int (.int _,H,I.tok _,(_,8,),q,)
end
section
variable{X:Cx}{pos:Pos}
def WK(c:TT)(tb:TS):TS:=λD σ H=>∃W:Nat->St->Hp->Prop,(∃m,W m σ H)/\∀m σ H,W m σ H ->
 c σ H λb H1=>if b=true then ∃N:St->Hp->Prop,(∀ σ' H',N σ' H'->∃m',m'<m/\W m' σ' H')/\tb { D with nx:=N,ct:=N,bk:=D.nx } σ H1 else D.nx σ H1
theorem Yi{c:Expr}{body:List Stmt}{tc:TT}{tb:TS}(hp:PassesOwn (model X.prog X.w) X.A X.env X.xe)(hc:PT X c tc)(hb:qw X body tb):PS X (.While c body [] pos) (WK tc tb):=by
 intro pins s σ H D I h;let(W,(m0,w0,),turn,):=h;refine wpAny_While (codeAny_whileLoop (λn s'=>∃ σ' H',Inv X pins σ' H' s'/\W n σ' H') ?_ m0 (σ,H,I,w0,));rintro n s1 ⟨σ1,H1,I1,w1⟩;refine ach hp (bI (hc pins s1 σ1 H1 _ I1 (turn n σ1 H1 w1)) λb s2 (H2,I2,q2,)=>?_);cases b with
 |true=>
  let(N,hN,q2,):=q2;rw[ahF 8];refine ach hp (bI (hb pins s2 σ1 H2 _ I2 q2) λf s3 q3=>?_);cases f with
  |next=>
   let(σ3,H3,I3,n3,):=q3;let(m',hm,w3,):=hN σ3 H3 n3;exact(m',hm,σ3,H3,I3,w3,)
  |cont=>
   let(σ3,H3,I3,n3,):=q3;let(m',hm,w3,):=hN σ3 H3 n3;exact(m',hm,σ3,H3,I3,w3,)
  |brk=>exact q3
  |ret v=>exact q3
 |false=>
  rw[aah aJD];exact wpAny_execs_nil (σ1,H2,I2,q2,)
end
structure It where
 go:Nat->Hp->Prop
 oi:Nat->Hp->V->Hp->Prop
 stop:Nat->Hp->Prop
def ie(X:Cx)(pins:List (Addr×Obj))(H:Hp)(b:Addr):Prop:=
 H b=none/\b≠X.env.locals/\b∉X.fs/\(b∈X.ex\/X.s₀.heap.objs.size<=b)/\(∀x c,X.env.cells.lookup x=!c->c≠b)/\∀p∈X.pn++pins,p.1≠b
theorem Inv.o8{X:Cx}{pins:List (Addr×Obj)}{σ:St}{H H':Hp}{s:Shared}{b:Addr}(I:Inv X pins σ H s)(hb:s.heap.objs.size<=b)(hn:H' b=none):ie X pins H' b:=by
 refine(hn,agd (a5i I.lt hb),I.Dc hb,.inr (bbd I.sz hb),λx c e z=>?_,λp hp z=>?_,)
 .let(v,q,):=I.cell x c e;exact absurd (a5i q.lt (by rw[z];exact hb)) (anG _)
 .exact absurd (a5i (a2o (I.pin p hp).1) (by rw[z];exact hb)) (anG _)
structure Turn(P:Program)(w:World)(K:W.Frag)(tg:Expr)(J:It)(fp:List Addr)(it:Addr)(tn:Nat->Heap->Prop):Prop where
 mem:it∈fp
 obj:∀i h,tn i h->∀b∈fp,∃o,h.get? b=!o/\∀v,o.data≠.cell v
 keep:∀i h h',tn i h->(∀b∈fp,∀o,h.get? b=!o->h'.get? b=!o)->tn i h'
 item:∀(X:Cx),X.prog=P->X.w=w->X.K=K->X.calm=true->∀(i:Nat)(pins:List (Addr×Obj))(s:Shared)(σ:St)(H:Hp)(E:Value->Shared->Prop),Inv X pins σ H s->(∀b∈fp,ie X pins H b)->tn i s.heap->J.go i H ->
  wpAny (model P w) X.A (pyNext (.ref it)) (λr s1=>∃u,r=!u /\
   wpAny (model P w) X.A (letOwnedTupleGo tg (.ref it) u) (λ_ s2=>∃x H',Inv X pins σ H' s2/\RelV x u/\J.oi i H x H'/\tn (i+1) s2.heap/\∀b∈fp,H' b=none) E s1) E s
 done:∀(X:Cx),X.prog=P->X.w=w->X.K=K->X.calm=true->∀(i:Nat)(pins:List (Addr×Obj))(s:Shared)(σ:St)(H:Hp)(E:Value->Shared->Prop),Inv X pins σ H s->(∀b∈fp,ie X pins H b)->tn i s.heap->J.stop i H ->
  wpAny (model P w) X.A (pyNext (.ref it)) (λr s1=>r=none/\Inv X pins σ H s1) E s
 self:∀(A:Around)(i:Nat)(s:Shared)(Q:Value->Shared->Prop)(E:Value->Shared->Prop),tn i s.heap->Q (.ref it) s->wpAny (model P w) A (pyIter (.ref it)) Q E s
noncomputable abbrev TI:=St->Hp->(It->Hp->Prop)->Prop
def L4(X:Cx)(pins:List (Addr×Obj))(σ:St)(tg:Expr)(R:It->Hp->Prop)(itv:Value)(s2:Shared):Prop:=
 ∃(it:Addr)(fp:List Addr)(tn:Nat->Heap->Prop)(J:It)(H':Hp),itv=.ref it/\Inv X pins σ H' s2/\Turn X.prog X.w X.K tg J fp it tn/\tn 0 s2.heap/\(∀b∈fp,ie X pins H' b)/\R J H'
def PI(X:Cx)(tg iter:Expr)(wi:TI):Prop:=
 ∀(pins:List (Addr×Obj))(s:Shared)(σ:St)(H:Hp)(R:It->Hp->Prop),Inv X pins σ H s->wi σ H R ->
  wpAny (model X.prog X.w) X.A (eval iter X.env) (λv s1=>wpAny (model X.prog X.w) X.A (pyIter v) (L4 X pins σ tg R) X.xe s1) X.xe s
theorem qe{M:Model}{A:Around}{E:Value->Shared->Prop}{s:Shared}{tg:Expr}{it:Addr}{u:Value}{o:Obj}{n:String}{vs:Array Value}{Q:Unit->Shared->Prop}(ho:s.heap.get? it=!o)(hc:o.cls=.type n)(hd:o.data=.fields vs)
  (hn:["enumerate","zip","dict_itemiterator","dict_reverseitemiterator","odict_iterator","itertools.zip_longest","itertools.pairwise"].contains n=false) (hQ:Q () s):wpAny M A (letOwnedTupleGo tg (.ref it) u) Q E s:=by
 unfold letOwnedTupleGo;cases tg <;> first
  |exact ak8 hQ
  | (cases u <;> first
    |exact ak8 hQ
    | (refine aTi (wpAny_load ho ?_)
       rw[hc,hd];show wpAny M A (if(["enumerate","zip","dict_itemiterator","dict_reverseitemiterator","odict_iterator","itertools.zip_longest","itertools.pairwise"].contains n && vs[0]? ==!(rawInt _))=true then _ else _) Q E s;rw[aah (by intro h;rw[hn,aNq]at h;cases h)];exact ak8 hQ))
noncomputable def yT(K:W.Frag)(a:Addr):It:=
 (λi H=>∃xs x,ah K H a xs/\xs[i]?=!x,λi H x H'=>H'=H/\∀xs,ah K H a xs->xs[i]?=!x,λi H=>∃xs,ah K H a xs/\xs.length<=i,)
noncomputable def Fe(K:W.Frag)(a:Addr):It:=
 (λi H=>∃xs x,bS K H a xs/\xs[i]?=!x,λi H x H'=>H'=H/\∀xs,bS K H a xs->xs[i]?=!x,λi H=>∃xs,bS K H a xs/\xs.length<=i,)
noncomputable def xj(lo:Int)(n:Nat):It:=(λi _=>i<n,λi H x H'=>H'=H/\x=.int (lo+i),λi _=>n<=i,)
theorem ZgG{P:Program}{w:World}{K:W.Frag}{tg:Expr}(a it:Addr):Turn P w K tg (yT K a) [it] it (λi h=>h.IsListIter it a i) where
 mem:=5
 obj:=λi h st b hb=>by
  have e:b=it:=by simpa using hb
  subst e;let(o,e,c,d,):=st;exact⟨o,e,λv z=>by rw[d]at z;cases z⟩
 keep:=λi h h' st k=>st.at λo e=>k it 5 o e
 item:=by
  intro X hP hw hK hc i pins s σ H E I hf st hg;subst hP hw hK;let(xs,x,hq,hx,):=hg;let(its,rv,p,hz,):=I.list hq;let(u,hu,ru,):=rv.get hx;let(f0,f1,f2,f3,f4,f5,):=hf it 5;refine wpAny_pyNext_list_item st p.isList (x:=u) (by simpa using hu) λh' st' sb=>?_;have I1:Inv X pins σ H { s with heap:=h' }:=I.turned (t':=s.toks) (λb o hb e=>(sb.2 b hb).trans e) f0 f1 f3 f4 f5;let(o,e,c,d,):=id st';exact(u,8,qe (s:={ s with heap:=h' }) e c d 9 (x,H,I1,ru,(8,λys hy=>by rw[I.dQ hy hq];exact hx,),st',λb hb=>(hf b hb).1,),)
 done:=by
  intro X hP hw hK hc i pins s σ H E I hf st hg;subst hP hw hK;let(xs,hq,hx,):=hg;let(its,rv,p,hz,):=I.list hq;let(f0,f1,f2,f3,f4,f5,):=hf it 5;have hl:=rv.length;exact wpAny_pyNext_list_end (I.ok.hd hc) st p.isList (by simp;lia) λh' eb=>(8,I.turned (t':=s.toks) (λb o hb e=>eb b o hb e) f0 f1 f3 f4 f5,)
 self:=λ_ _ _ _ _ st h=>wpAny_pyIter_listiter st h
theorem Z4{P:Program}{w:World}{K:W.Frag}{tg:Expr}(a it:Addr):Turn P w K tg (Fe K a) [it] it (λi h=>h.IsTupleIter it a i) where
 mem:=5
 obj:=λi h st b hb=>by
  have e:b=it:=by simpa using hb
  subst e;let(o,e,c,d,):=st;exact⟨o,e,λv z=>by rw[d]at z;cases z⟩
 keep:=λi h h' st k=>st.at λo e=>k it 5 o e
 item:=by
  intro X hP hw hK hc i pins s σ H E I hf st hg;subst hP hw hK;let(xs,x,hq,hx,):=hg;let(its,rv,p,hz,):=I.tuple hq;let(u,hu,ru,):=rv.get hx;let(f0,f1,f2,f3,f4,f5,):=hf it 5;refine wpAny_pyNext_tuple_item st (show s.heap.IsTuple a its.toArray from p) (x:=u) (by simpa using hu) λh' st' sb=>?_;have I1:Inv X pins σ H { s with heap:=h' }:=I.turned (t':=s.toks) (λb o hb e=>(sb.2 b hb).trans e) f0 f1 f3 f4 f5;let(o,e,c,d,):=id st';exact(u,8,qe (s:={ s with heap:=h' }) e c d 9 (x,H,I1,ru,(8,λys hy=>by rw[I.jD hy hq];exact hx,),st',λb hb=>(hf b hb).1,),)
 done:=by
  intro X hP hw hK hc i pins s σ H E I hf st hg;subst hP hw hK;let(xs,hq,hx,):=hg;let(its,rv,p,hz,):=I.tuple hq;let(f0,f1,f2,f3,f4,f5,):=hf it 5;have hl:=rv.length;exact wpAny_pyNext_tuple_end (I.ok.hd hc) st (show s.heap.IsTuple a its.toArray from p) (by simp;lia) λh' eb=>(8,I.turned (t':=s.toks) (λb o hb e=>eb b o hb e) f0 f1 f3 f4 f5,)
 self:=λ_ _ _ _ _ st h=>wpAny_pyIter_tupleiter st h
theorem Z3{P:Program}{w:World}{K:W.Frag}{tg:Expr}(it:Addr)(lo:Int)(n:Nat):Turn P w K tg (xj lo n) [it] it (λi h=>IsRangeIter h it (lo+(i:Nat)*1) ((n:Int)-(i:Nat)) 1) where
 mem:=5
 obj:=λi h st b hb=>by
  have e:b=it:=by simpa using hb
  subst e;exact⟨_,st,λv z=>by
   have z':Data.fields _=Data.cell v:=z;cases z'⟩
 keep:=λi h h' st k=>k it 5 _ st
 item:=by
  intro X hP hw hK hc i pins s σ H E I hf st hg;subst hP hw hK;let(f0,f1,f2,f3,f4,f5,):=hf it 5;have W:=Walks.range (prog:=X.prog) (w:=X.w) (I.ok.hd hc) it lo 1 n;refine W.item i s _ _ hg st λv h' tk hv st' kk=>?_;let(t,rfl,):=hv;have I1:Inv X pins σ H { s with heap:=h',toks:=tk }:=I.turned (λb o hb e=>kk b o (by simpa using hb) e) f0 f1 f3 f4 f5;refine(_,8,qe (s:={ s with heap:=h',toks:=tk }) (n:="range_iterator") st' 8 8 9 (.int (lo+i),H,I1,(t,?_,),(8,8,),st',λb hb=>(hf b hb).1,),);rw[Int.mul_one]
 done:=by
  intro X hP hw hK hc i pins s σ H E I hf st hg;subst hP hw hK;let(f0,f1,f2,f3,f4,f5,):=hf it 5;exact wpAny_pyNext_range_end (I.ok.hd hc) st (by have:n<=i:=hg;lia) λh' eb=>(8,I.turned (t':=s.toks) (λb o hb e=>eb b o hb e) f0 f1 f3 f4 f5,)
 self:=λ_ _ _ _ _ st h=>wpAny_pyIter_rangeiter st h
section
variable{X:Cx}{tg:Expr}
inductive eList (K:W.Frag)(R:It->Hp->Prop)(x:V)(H1:Hp):Prop
 |mk (a:Addr):x=.ref a->(∃xs,ah K H1 a xs)->R (yT K a) H1->eList K R x H1
def yk(K:W.Frag)(tl:TE):TI:=λσ H R=>tl σ H (eList K R)
inductive D7 (K:W.Frag)(R:It->Hp->Prop)(x:V)(H1:Hp):Prop
 |mk (a:Addr):x=.ref a->(∃xs,bS K H1 a xs)->R (Fe K a) H1->D7 K R x H1
def Dy(K:W.Frag)(tl:TE):TI:=λσ H R=>tl σ H (D7 K R)
theorem Xc{l:Expr}{tl:TE}(hl:PE X l tl):PI X tg l (yk X.K tl):=by
 intro pins s σ H R I h;refine cO (hl pins s σ H _ I h) λv s1 x H1 I1 r1 q1=>?_;let(a,e,(xs,hq,),q,):=q1;subst e;cases r1;let(its,rv,p,hz,):=I1.list hq;refine aA9 p.isList ?_;refine(s1.heap.objs.size,[s1.heap.objs.size],_,_,H1,8,I1.kept (t':=s1.toks) λb o e=>aJV _ e,ZgG a _,(_,aQ0 _ 8,8,8,),λb hb=>?_,q,);have e:b=s1.heap.objs.size:=by simpa using hb
 subst e;exact I1.o8 (bbI _) (I1.hok.fresh (bbI _))
theorem WJ{l:Expr}{tl:TE}(hl:PE X l tl):PI X tg l (Dy X.K tl):=by
 intro pins s σ H R I h;refine cO (hl pins s σ H _ I h) λv s1 x H1 I1 r1 q1=>?_;let(a,e,(xs,hq,),q,):=q1;subst e;cases r1;let(its,rv,p,hz,):=I1.tuple hq;refine wpAny_pyIter_tuple (show s1.heap.IsTuple a its.toArray from p) ?_;refine(s1.heap.objs.size,[s1.heap.objs.size],_,_,H1,8,I1.kept (t':=s1.toks) λb o e=>aJV _ e,Z4 a _,(_,aQ0 _ 8,8,8,),λb hb=>?_,q,);have e:b=s1.heap.objs.size:=by simpa using hb
 subst e;exact I1.o8 (bbI _) (I1.hok.fresh (bbI _))
theorem Yh{pins:List (Addr×Obj)}{σ:St}{H:Hp}{s:Shared}{R:It->Hp->Prop}{E:Value->Shared->Prop}{lo hi:Int}{t u v:Tok}{tk:Nat}(I:Inv X pins σ H s)(h1: -(2 ^ 62)<=lo)(h2:lo<2 ^ 62)(h3: -(2 ^ 62)<=hi)(h4:hi<2 ^ 62)
  (q:R (xj lo (hi-lo).toNat) H):wpAny (model X.prog X.w) X.A (pyIter (.ref s.heap.objs.size)) (L4 X pins σ tg R) E { s with heap:=s.heap.push { cls:=.type "range",data:=.fields #[.int lo t,.int hi u,.int 1 v] },toks:=tk }:=by
 refine wpAny_pyIter_range (IsRange.new ..) (small_one h1 h2 h3 h4) ?_;have I1:Inv X pins σ H { s with heap:=s.heap.push { cls:=.type "range",data:=.fields #[.int lo t,.int hi u,.int 1 v] },toks:=tk }:=I.kept λb o e=>aJV _ e;refine((s.heap.push { cls:=.type "range",data:=.fields #[.int lo t,.int hi u,.int 1 v] }).objs.size,[(s.heap.push { cls:=.type "range",data:=.fields #[.int lo t,.int hi u,.int 1 v] }).objs.size],_,_,H,8,
  I1.kept (t':=tk) λb o e=>aJV _ e,Z3 _ lo (hi-lo).toNat,?_,λb hb=>?_,q,)
 .have e1:lo+((0:Nat):Int)*1=lo:=5
  have e2:(((hi-lo).toNat:Nat):Int)-((0:Nat):Int)=Builtin.Range.rangeSize lo hi 1:=by rw[rangeSize_one];split <;> lia
  show IsRangeIter _ _ (lo+((0:Nat):Int)*1) ((((hi-lo).toNat:Nat):Int)-((0:Nat):Int)) 1;rw[e1,e2];exact aQ0 _ 8
 .have e:b=(s.heap.push { cls:=.type "range",data:=.fields #[.int lo t,.int hi u,.int 1 v] }).objs.size:=by simpa using hb
  subst e;exact I1.o8 (bbI _) (I1.hok.fresh (bbI _))
inductive yv (R:It->Hp->Prop)(vs:List V)(H1:Hp):Prop
 |mk (j:Int):vs=[.int j]->-(2 ^ 62)<=j->j<2 ^ 62->R (xj 0 j.toNat) H1->yv R vs H1
def DB(ta:TA):TI:=λσ H R=>ta σ H (yv R)
theorem ZX{a:Expr}{ta:TA}{p pos:Pos}(hg:Gl X "range")(hm:X.mg "range"=none)(ha:PA X [a] ta)(hs:starEach [a] X.env=[(false,eval a X.env)]:=by rfl):PI X tg (.Call (.Name "range" p) [a] [] pos) (DB ta):=by
 intro pins s σ H R I h;refine Call_ (vz I hg hm boot_range (akj (pK (ha pos pins s σ H _ I h) λus s1 vs H1 I1 r1 q1=>?_) hs 8));let(j,e,q1,q2,q,):=q1;subst e;cases r1 with
 |cons r rr=>
  cases rr;let(t,rfl,):=r;exact call_range_1 (Yh I1 7 7 q1 q2 (by simpa using q))
def Iz(wi:TI)(g:TG)(tb:TS):TS:=λD σ H=>wi σ H λJ H1=>∃W:Nat->Nat->St->Hp->Prop,(∃m,W 0 m σ H1)/\∀i m σ H,W i m σ H ->
 (J.stop i H/\D.nx σ H)\/(J.go i H/\∃N:St->Hp->Prop,(∀ σ' H',N σ' H'->∃m',m'<m/\W (i+1) m' σ' H')/\∀x H',J.oi i H x H'->g x σ H' λσ2 H2=>tb { D with nx:=N,ct:=N,bk:=D.nx } σ2 H2)
noncomputable def Ey(fp:List Addr)(h:Heap):List (Addr×Obj):=fp.filterMap λb=>(h.get? b).map λo=>(b,o)
theorem HR{fp:List Addr}{h:Heap}{b:Addr}{o:Obj}(hb:b∈fp)(e:h.get? b=!o):(b,o)∈Ey fp h:=List.mem_filterMap.mpr (b,hb,by rw[e];rfl,)
theorem ZgH{fp:List Addr}{h:Heap}{p:Addr×Obj}(hp:p∈Ey fp h):p.1∈fp/\h.get? p.1=!p.2:=by
 let(b,hb,e,):=List.mem_filterMap.mp hp;cases q:h.get? b with
 |none=>rw[q]at e;cases e
 |some o=>
  rw[q]at e;have e':(b,o)=p:=aFB e;subst e';exact(hb,q,)
theorem Inv.pinned{pins:List (Addr×Obj)}{σ:St}{H:Hp}{s:Shared}{fp:List Addr}(I:Inv X pins σ H s)(hf:∀b∈fp,ie X pins H b)(ho:∀b∈fp,∃o,s.heap.get? b=!o/\∀v,o.data≠.cell v):Inv X (pins++Ey fp s.heap) σ H s:=
 I.pV λp hp=>(a6S.mp hp).elim (λz=>I.pin p (aEK _ z)) λz=>by
  let(hb,e,):=ZgH z;let(f0,f1,f2,_,):=hf p.1 hb;let(o,e',d,):=ho p.1 hb;rw[e]at e';cases e';exact(e,f0,f1,f2,d,)
theorem Inv.fC{pins pl:List (Addr×Obj)}{σ:St}{H:Hp}{s:Shared}(I:Inv X (pins++pl) σ H s):Inv X pins σ H s:=I.pV λp hp=>I.pin p (aEK _ (aqT _ hp))
theorem nZ{iter:Expr}{body:List Stmt}{wi:TI}{g:TG}{tb:TS}{pos:Pos}(hp:PassesOwn (model X.prog X.w) X.A X.env X.xe)(hc:X.calm=true)(hi:PI X tg iter wi)(hg:PG X tg g)(hb:qw X body tb)
  (hs:∀x,foldedSetIterable iter X.env x=pure x:=by intro _;rfl):PS X (.For tg iter body [] pos) (Iz wi g tb):=by
 intro pins s σ H D I h;refine wpAny_For (bI (hi pins s σ H _ I h) λv s1 h1=>bI h1 λitv s2 h2=>?_) hs;let(it,fp,tn,J,H2,e,I2,T,st2,f2,W,(m0,w0,),turn,):=h2;subst e;have oA:∀{H':Hp},(∀b∈fp,H' b=none)->∀b∈fp,ie X pins H' b:=λhn b hb=>(hn b hb,(f2 b hb).2,);refine codeAny_forLoop_any (λn s'=>∃i σ' H',Inv X pins σ' H' s'/\tn i s'.heap/\(∀b∈fp,H' b=none)/\W i n σ' H') ?_ m0 (0,σ,H2,I2,st2,λb hb=>(f2 b hb).1,w0,);rintro n s3 ⟨i,σ3,H3,I3,st3,A8,w3⟩;rcases turn i n σ3 H3 w3 with⟨stop,qn⟩|⟨go,N,hN,step⟩
 .refine ach hp (bI (T.done X 8 8 8 hc i pins s3 σ3 H3 X.xe I3 (oA A8) st3 stop) λr s4 (hr,I4,)=>?_);subst hr;exact wpAny_execs_nil (σ3,H3,I4,qn,)
 .refine ach hp (bI (T.item X 8 8 8 hc i pins s3 σ3 H3 X.xe I3 (oA A8) st3 go) λr s4 (u,hr,h4,)=>?_);subst hr;refine ach hp (bI h4 λ_ s5 (x,H5,I5,r5,y5,vK,GA,)=>?_);have I5':=I5.pinned (oA GA) (T.obj _ _ vK);refine ach hp (bI (hg _ s5 σ3 H5 x u _ I5' r5 (step x H5 y5)) λ_ s6 (σ6,H6,I6,q6,)=>?_);refine ach hp (bI (hb _ s6 σ6 H6 _ I6 q6) λf s7 q7=>?_);have again:∀{σ7:St}{H7:Hp},Inv X (pins++Ey fp s5.heap) σ7 H7 s7->N σ7 H7->∃m,m<n/\∃i σ' H',Inv X pins σ' H' s7/\tn i s7.heap/\(∀b∈fp,H' b=none)/\W i m σ' H':=λ{σ7 H7} I7 n7=>by
   let(m',hm,w7,):=hN σ7 H7 n7;refine(m',hm,i+1,σ7,H7,I7.fC,T.keep _ _ _ vK λb hb o e=>(I7.pin (b,o) (aEK _ (aEK _ (HR hb e)))).1,λb hb=>?_,w7,);let(o,e,d,):=T.obj _ _ vK b hb;exact(I7.pin (b,o) (aEK _ (aEK _ (HR hb e)))).2.1
  cases f with
  |next=>let(σ7,H7,I7,n7,):=q7;exact again I7 n7
  |cont=>let(σ7,H7,I7,n7,):=q7;exact again I7 n7
  |brk=>let(σ7,H7,I7,q7,):=q7;exact(σ7,H7,I7.fC,q7,)
  |ret v=>let(x7,σ7,H7,I7,r7,q7,):=q7;exact(x7,σ7,H7,I7.fC,r7,q7,)
end
theorem PX{K:W.Frag}{a:Addr}{xs:List V}{g:TG}{tb:TS}{D:Ends}{σ:St}{H:Hp}(Pv:Nat->St->Hp->Prop)(h0:Pv 0 σ H)(hl:∀i σ H,i<=xs.length->Pv i σ H->ah K H a xs)
  (hs:∀i x σ H,xs[i]?=!x->Pv i σ H->g x σ H λσ2 H2=>tb { D with nx:=Pv (i+1),ct:=Pv (i+1),bk:=D.nx } σ2 H2) (hd:∀ σ H,Pv xs.length σ H->D.nx σ H) :
  ∃W:Nat->Nat->St->Hp->Prop,(∃m,W 0 m σ H)/\∀i m σ H,W i m σ H ->
   ((yT K a).stop i H/\D.nx σ H)\/((yT K a).go i H/\∃N:St->Hp->Prop,(∀ σ' H',N σ' H'->∃m',m'<m/\W (i+1) m' σ' H')/\∀x H',(yT K a).oi i H x H'->g x σ H' λσ2 H2=>tb { D with nx:=N,ct:=N,bk:=D.nx } σ2 H2):=by
 refine(λi m σ H=>m=xs.length-i/\i<=xs.length/\Pv i σ H,(xs.length,5,agn _,h0,),?_,);rintro i m σ H ⟨rfl,hi,p⟩;have q:=hl i σ H hi p;by_cases hlt:i<xs.length
 .refine .inr ((xs,xs[i],q,by simp[hlt],),Pv (i+1),λσ' H' p'=>(xs.length-(i+1),7,8,hlt,p',),λx H' y=>?_,);let(e,y,):=y;subst e;exact hs i x σ _ (y xs q) p
 .have e:i=xs.length:=7
  subst e;exact .inl ((xs,q,bbI _,),hd σ H p,)
theorem EU{lo:Int}{n:Nat}{g:TG}{tb:TS}{D:Ends}{σ:St}{H:Hp}(Pv:Nat->St->Hp->Prop)(h0:Pv 0 σ H)
  (hs:∀i σ H,i<n->Pv i σ H->g (.int (lo+i)) σ H λσ2 H2=>tb { D with nx:=Pv (i+1),ct:=Pv (i+1),bk:=D.nx } σ2 H2) (hd:∀ σ H,Pv n σ H->D.nx σ H) :
  ∃W:Nat->Nat->St->Hp->Prop,(∃m,W 0 m σ H)/\∀i m σ H,W i m σ H ->
   ((xj lo n).stop i H/\D.nx σ H)\/((xj lo n).go i H/\∃N:St->Hp->Prop,(∀ σ' H',N σ' H'->∃m',m'<m/\W (i+1) m' σ' H')/\∀x H',(xj lo n).oi i H x H'->g x σ H' λσ2 H2=>tb { D with nx:=N,ct:=N,bk:=D.nx } σ2 H2):=by
 refine(λi m σ H=>m=n-i/\i<=n/\Pv i σ H,(n,5,agn _,h0,),?_,);rintro i m σ H ⟨rfl,hi,p⟩;by_cases hlt:i<n
 .refine .inr (hlt,Pv (i+1),λσ' H' p'=>(n-(i+1),7,8,hlt,p',),λx H' y=>?_,);let(e,y,):=y;subst e y;exact hs i σ _ hlt p
 .have e:i=n:=7
  subst e;exact .inl (bbI _,hd σ H p,)
noncomputable abbrev R2:=V->V->Hp->VK->Prop
def eV(X:Cx)(f:Value->Value->Sem Value)(r:R2):Prop:=
 ∀(pins:List (Addr×Obj))(s:Shared)(σ:St)(H:Hp)(x y:V)(v u:Value)(Q:VK),Inv X pins σ H s->RelV x v->RelV y u->r x y H Q ->
  wpAny (model X.prog X.w) X.A (f v u) (EP X pins σ Q) X.xe s
def LX(X:Cx)(f:Value->Sem Value)(r:V->Hp->VK->Prop):Prop:=
 ∀(pins:List (Addr×Obj))(s:Shared)(σ:St)(H:Hp)(x:V)(v:Value)(Q:VK),Inv X pins σ H s->RelV x v->r x H Q ->
  wpAny (model X.prog X.w) X.A (f v) (EP X pins σ Q) X.xe s
def bx(X:Cx)(f:Value)(r:List V->Hp->VK->Prop):Prop:=
 ∀(pins:List (Addr×Obj))(s:Shared)(σ:St)(H:Hp)(xs:List V)(us:List Value)(Q:VK),Inv X pins σ H s->Vals xs us->r xs H Q ->
  wpAny (model X.prog X.w) X.A (call f us) (EP X pins σ Q) X.xe s
def LY(X:Cx)(r:V->Hp->(Bool->Hp->Prop)->Prop):Prop:=
 ∀(pins:List (Addr×Obj))(s:Shared)(σ:St)(H:Hp)(x:V)(v:Value)(Q:Bool->Hp->Prop),Inv X pins σ H s->RelV x v->r x H Q ->
  wpAny (model X.prog X.w) X.A (truthy v) (TP X pins σ Q) X.xe s
def FA(r:R2)(ta tb:TE):TE:=λσ H Q=>ta σ H λx H1=>tb σ H1 λy H2=>r x y H2 Q
def Sj(r:V->Hp->VK->Prop)(ta:TE):TE:=λσ H Q=>ta σ H λx H1=>r x H1 Q
inductive rI(C:Int->Int->Prop) (g:Int->Int->V)(x:V)(y:V)(H:Hp)(Q:VK):Prop
 |mk (i j:_):x=.int i->y=.int j->C i j->Q (g i j) H->rI C g x y H Q
inductive vP(g:Int->Int->V)(x:V)(y:V)(H:Hp)(Q:VK):Prop
 |mk (i j:_):x=.int i->y=.int j->Q (g i j) H->vP g x y H Q
inductive rU(g:Int->V)(x:V)(H:Hp)(Q:VK):Prop
 |mk (i:_):x=.int i->Q (g i) H->rU g x H Q
section
variable{X:Cx}{a b c:Expr}{ta tb tc:TE}{pos:Pos}
theorem Ai(ha:PE X a ta)(hb:PE X b tb){pins:List (Addr×Obj)}{s:Shared}{σ:St}{H:Hp}{R:V->V->Hp->Prop}(I:Inv X pins σ H s)
  (h:ta σ H λx H1=>tb σ H1 λy H2=>R x y H2) {Q:Value->Shared->Prop} {f:Value->Value->Sem Value}
  (hf:∀v u s2 x y H2,Inv X pins σ H2 s2->RelV x v->RelV y u->R x y H2->wpAny (model X.prog X.w) X.A (f v u) Q X.xe s2) :
  wpAny (model X.prog X.w) X.A (eval a X.env) (λv s₁=>wpAny (model X.prog X.w) X.A (eval b X.env) (λu s₂=>wpAny (model X.prog X.w) X.A (f v u) Q X.xe s₂) X.xe s₁) X.xe s:=by
 refine cO (ha pins s σ H _ I h) λv s1 x H1 I1 r1 q1=>?_;refine cO (hb pins s1 σ H1 _ I1 q1) λu s2 y H2 I2 r2 q2=>?_;exact hf v u s2 x y H2 I2 r1 r2 q2
theorem aa{op:Operator}{r:R2}(ho:eV X (binaryOp op) r)(ha:PE X a ta)(hb:PE X b tb):PE X (.BinOp a op b pos) (FA r ta tb):=by
 intro pins s σ H Q I h;exact wpAny_BinOp (Ai ha hb I h λv u s2 x y H2 I2 rx ry q=>ho pins s2 σ H2 x y v u Q I2 rx ry q)
theorem bN{op:UnaryOp}{r:V->Hp->VK->Prop}(ho:LX X (unaryOp op) r)(ha:PE X a ta):PE X (.UnaryOp op a pos) (Sj r ta):=by
 intro pins s σ H Q I h;exact UnaryOp_ (cO (ha pins s σ H _ I h) λv s1 x H1 I1 r1 q1=>ho pins s1 σ H1 x v Q I1 r1 q1)
theorem FI{f:Value->Value->Sem Value}{C:Int->Int->Prop}{g:Int->Int->Int}
  (rule:∀(i j:Int)(t u:Tok)(s:Shared)(Q:Value->Shared->Prop)(E:Value->Shared->Prop),C i j->Q (.int (g i j) s.toks) { s with toks:=s.toks+1 }->wpAny (model X.prog X.w) X.A (f (.int i t) (.int j u)) Q E s) :
  eV X f (rI C λi j=>.int (g i j)):=by
 intro pins s σ H x y v u Q I rx ry h;let(i,j,rfl,rfl,hc,q,):=h;let(t,rfl,):=rx;let(t',rfl,):=ry;exact rule i j t t' s _ _ hc (.int (g i j),H,I.tok _,(_,8,),q,)
theorem C7{f:Value->Value->Sem Value}{g:Int->Int->Int}
  (rule:∀(i j:Int)(t u:Tok)(s:Shared)(Q:Value->Shared->Prop)(E:Value->Shared->Prop),Q (.int (g i j) s.toks) { s with toks:=s.toks+1 }->wpAny (model X.prog X.w) X.A (f (.int i t) (.int j u)) Q E s) :
  eV X f (vP λi j=>.int (g i j)):=by
 intro pins s σ H x y v u Q I rx ry h;let(i,j,rfl,rfl,q,):=h;let(t,rfl,):=rx;let(t',rfl,):=ry;exact rule i j t t' s _ _ (.int (g i j),H,I.tok _,(_,8,),q,)
theorem vS{f:Value->Value->Sem Value}{g:Int->Int->Bool}
  (rule:∀(i j:Int)(t u:Tok)(s:Shared)(Q:Value->Shared->Prop)(E:Value->Shared->Prop),Q (.bool (g i j)) s->wpAny (model X.prog X.w) X.A (f (.int i t) (.int j u)) Q E s) :
  eV X f (vP λi j=>.bl (g i j)):=by
 intro pins s σ H x y v u Q I rx ry h;let(i,j,rfl,rfl,q,):=h;let(t,rfl,):=rx;let(t',rfl,):=ry;exact rule i j t t' s _ _ (.bl (g i j),H,I,8,q,)
def Fj(i j:Int):Prop:=0<j/\j<1073741824
def Me(i j:Int):Prop:=0<=j/\j<=1000000/\i.natAbs<2 ^ 64
def AH(i j:Int):Prop:=(-(2 ^ 64)<i/\i<2 ^ 64)\/(-(2 ^ 64)<j/\j<2 ^ 64)
theorem AH.ok{i j:Int}(h:AH i j):IntMulOk i j:=by
 rcases h with⟨h1,h2⟩|⟨h1,h2⟩
 .exact .of_left (intBits_le_64 h1 h2)
 .exact .of_right (intBits_le_64 h1 h2)
theorem ZB:eV X (binaryOp .Add) (vP λi j=>.int (i+j)):=C7 λ_ _ _ _ _ _ _ q=>add_int q
theorem lJ:eV X (binaryOp .Sub) (vP λi j=>.int (i-j)):=C7 λ_ _ _ _ _ _ _ q=>sub_int q
theorem qp:eV X (binaryOp .Mult) (rI AH λi j=>.int (i*j)):=FI λ_ _ _ _ _ _ _ hc q=>mul_int q hc.ok
theorem EG:eV X (binaryOp .FloorDiv) (rI Fj λi j=>.int (i/j)):=FI λi j _ _ _ _ _ hc q=>by
 have h1:(0:Int)<j:=hc.1;have h2:j<1073741824:=hc.2;exact floordiv_int 7 (by rw[Int.fdiv_eq_ediv_of_nonneg i 7];exact q) (.inl (a4m 7))
theorem i9:eV X (binaryOp .Mod) (rI (λ_ j=>0<j) λi j=>.int (i%j)):=FI λi j _ _ _ _ _ hc q=>by
 have h1:(0:Int)<j:=hc;exact mod_int' 7 (by rw[Int.fmod_eq_emod_of_nonneg i 7];exact q)
theorem K1:eV X (binaryOp .Pow) (rI Me λi j=>.int (i ^ j.toNat)):=FI λ_ _ _ _ _ _ _ hc q=>pow_int_small hc.1 hc.2.1 hc.2.2 q
theorem Sf{f:Value->Sem Value}{g:Int->Int}
  (rule:∀(i:Int)(t:Tok)(s:Shared)(Q:Value->Shared->Prop)(E:Value->Shared->Prop),Q (.int (g i) s.toks) { s with toks:=s.toks+1 }->wpAny (model X.prog X.w) X.A (f (.int i t)) Q E s) :
  LX X f (rU λi=>.int (g i)):=by
 intro pins s σ H x v Q I rx h;let(i,rfl,q,):=h;let(t,rfl,):=rx;exact rule i t s _ _ (.int (g i),H,I.tok _,(_,8,),q,)
theorem nv:LX X (unaryOp .USub) (rU λi=>.int (-i)):=Sf λ_ _ _ _ _ q=>neg_int q
end
noncomputable def vL:V->V->Bool
 | .aE,.aE=>true| .aE,.int _=>true| .int _,.aE=>true| .aE,.bl _=>true| .bl _,.aE=>true| .aE,.str _=>true| .str _,.aE=>true
 | .int _,.int _=>true| .bl _,.bl _=>true| .str _,.str _=>true| .pA _,.pA _=>true
 | .int _,.str _=>true| .str _,.int _=>true| .bl _,.str _=>true| .str _,.bl _=>true
 |_,_=>false
def SJ:R2:=λx y H Q=>vL x y=true/\Q (.bl (decide (x=y))) H
def SI:R2:=λx y H Q=>vL x y=true/\Q (.bl ((not (decide (x=y))))) H
theorem Pq{i j:Int}:decide (V.int i=V.int j)=(i ==j):=by
 rw[aeY];simp
theorem Ox{i j:Bool}:decide (V.bl i=V.bl j)=(i ==j):=by
 rw[aeY];simp
theorem Pp{i j:Str}:decide (V.str i=V.str j)=(i ==j):=by
 rw[aeY];simp
theorem Po{i j:Array UInt8}:decide (V.pA i=V.pA j)=(i.toList ==j.toList):=by
 rw[aeY];cases i;cases j;simp
section
variable{X:Cx}{a b c:Expr}{ta tb tc:TE}{pos:Pos}
theorem ZG{pins:List (Addr×Obj)}{σ:St}{H:Hp}{s:Shared}{Q:VK}{k k':Bool}(I:Inv X pins σ H s)(q:Q (.bl k) H)(e:k=k'):EP X pins σ Q (.bool k') s:=by
 subst e;exact(.bl k,H,I,8,q,)
theorem aS:eV X (compareOp .Eq) SJ:=by
 intro pins s σ H x y v u Q I rx ry h;let(hs,q,):=h;cases x with
 |aE=>
  cases rx;cases y with
  |aE=>cases ry;exact PySem.EqNone.eq_none_none (ZG I q 5)
  |bl j=>cases ry;exact PySem.EqNone.eq_none_bool (ZG I q 5)
  |int j=>let(t',rfl,):=ry;exact PySem.EqNone.eq_none_int (ZG I q 5)
  |str j=>let(t',rfl,):=ry;exact PySem.EqNone.eq_none_str (ZG I q 5)
  |_=>exact absurd (show false=true from hs) aJD
 |bl i=>
  cases rx;cases y with
  |aE=>cases ry;exact PySem.EqNone.eq_bool_none (ZG I q 5)
  |bl j=>cases ry;exact eq_bool (ZG I q Ox)
  |str j=>let(t',rfl,):=ry;exact PySem.EqMixed.eq_bool_str (ZG I q 5)
  |_=>exact absurd (show false=true from hs) aJD
 |int i=>
  let(t,rfl,):=rx;cases y with
  |aE=>cases ry;exact PySem.EqNone.eq_int_none (ZG I q 5)
  |int j=>let(t',rfl,):=ry;exact eq_int (ZG I q Pq)
  |str j=>let(t',rfl,):=ry;exact PySem.EqMixed.eq_int_str (ZG I q 5)
  |_=>exact absurd (show false=true from hs) aJD
 |str i=>
  let(t,rfl,):=rx;cases y with
  |aE=>cases ry;exact PySem.EqNone.eq_str_none (ZG I q 5)
  |bl j=>cases ry;exact PySem.EqMixed.eq_str_bool (ZG I q 5)
  |int j=>let(t',rfl,):=ry;exact PySem.EqMixed.eq_str_int (ZG I q 5)
  |str j=>let(t',rfl,):=ry;exact eq_str (ZG I q Pp)
  |_=>exact absurd (show false=true from hs) aJD
 |pA i=>
  let(t,rfl,):=rx;cases y with
  |pA j=>let(t',rfl,):=ry;exact W.eq_bytes (ZG I q Po)
  |_=>exact absurd (show false=true from hs) aJD
 |_=>cases y <;> exact absurd (show false=true from hs) aJD
theorem gE:eV X (compareOp .NotEq) SI:=by
 intro pins s σ H x y v u Q I rx ry h;let(hs,q,):=h;cases x with
 |aE=>
  cases rx;cases y with
  |aE=>cases ry;exact PySem.EqNone.ne_none_none (ZG I q 5)
  |bl j=>cases ry;exact PySem.EqNone.ne_none_bool (ZG I q 5)
  |int j=>let(t',rfl,):=ry;exact PySem.EqNone.ne_none_int (ZG I q 5)
  |str j=>let(t',rfl,):=ry;exact PySem.EqNone.ne_none_str (ZG I q 5)
  |_=>exact absurd (show false=true from hs) aJD
 |bl i=>
  cases rx;cases y with
  |aE=>cases ry;exact PySem.EqNone.ne_bool_none (ZG I q 5)
  |bl j=>cases ry;exact ne_bool (ZG I q (aFH not Ox))
  |str j=>let(t',rfl,):=ry;exact PySem.EqMixed.ne_bool_str (ZG I q 5)
  |_=>exact absurd (show false=true from hs) aJD
 |int i=>
  let(t,rfl,):=rx;cases y with
  |aE=>cases ry;exact PySem.EqNone.ne_int_none (ZG I q 5)
  |int j=>let(t',rfl,):=ry;exact ne_int (ZG I q (aFH not Pq))
  |str j=>let(t',rfl,):=ry;exact PySem.EqMixed.ne_int_str (ZG I q 5)
  |_=>exact absurd (show false=true from hs) aJD
 |str i=>
  let(t,rfl,):=rx;cases y with
  |aE=>cases ry;exact PySem.EqNone.ne_str_none (ZG I q 5)
  |bl j=>cases ry;exact PySem.EqMixed.ne_str_bool (ZG I q 5)
  |int j=>let(t',rfl,):=ry;exact PySem.EqMixed.ne_str_int (ZG I q 5)
  |str j=>let(t',rfl,):=ry;exact ne_str (ZG I q (aFH not Pp))
  |_=>exact absurd (show false=true from hs) aJD
 |pA i=>
  let(t,rfl,):=rx;cases y with
  |pA j=>let(t',rfl,):=ry;exact W.ne_bytes (ZG I q (aFH not Po))
  |_=>exact absurd (show false=true from hs) aJD
 |_=>cases y <;> exact absurd (show false=true from hs) aJD
theorem cF:eV X (compareOp .Lt) (vP λi j=>.bl (decide (i<j))):=vS λ_ _ _ _ _ _ _ q=>lt_int q
theorem xZ:eV X (compareOp .LtE) (vP λi j=>.bl (decide (i<=j))):=vS λ_ _ _ _ _ _ _ q=>le_int q
theorem ya:eV X (compareOp .Gt) (vP λi j=>.bl (decide (j<i))):=vS λ_ _ _ _ _ _ _ q=>gt_int q
theorem mJ:eV X (compareOp .GtE) (vP λi j=>.bl (decide (j<=i))):=vS λ_ _ _ _ _ _ _ q=>ge_int q
theorem Zu(b:Expr){op:CmpOp}(h:op≠.In:=by decide)(h2:op≠.NotIn:=by decide):behindInMarks op b=false:=by
 have e1:(op ==CmpOp.In)=false:=by cases op <;> first|rfl|exact absurd 8 h
 have e2:(op ==CmpOp.NotIn)=false:=by cases op <;> first|rfl|exact absurd 8 h2
 cases b <;> simp[behindInMarks,e1,e2]
theorem qo{op:CmpOp}{r:R2}(ho:eV X (compareOp op) r)(ha:PE X a ta)(hb:PE X b tb)(hm:behindInMarks op b=false):PE X (.Compare a [op] [b] pos) (FA r ta tb):=by
 intro pins s σ H Q I h;exact wpAny_Compare1 (Ai ha hb I h λv u s2 x y H2 I2 rx ry q=>ho pins s2 σ H2 x y v u Q I2 rx ry q) hm
def xA(t:TE):TT:=λσ H Q=>t σ H (eB Q)
theorem Zq{op:CmpOp}{r:R2}(ho:eV X (compareOp op) r)(ha:PE X a ta)(hb:PE X b tb)(hm:behindInMarks op b=false):PT X (.Compare a [op] [b] pos) (xA (FA r ta tb)):=by
 intro pins s σ H Q I h;refine wpAny_isTrue_Compare1 (cO (ha pins s σ H _ I h) λv s1 x H1 I1 r1 q1=>cO (hb pins s1 σ H1 _ I1 q1) λu s2 y H2 I2 r2 q2=>
  bI (ho pins s2 σ H2 x y v u _ I2 r1 r2 q2) λc s3 (z,H3,I3,r3,k,e,q3,)=>?_) hm
 subst e;cases r3;exact auF (H3,I3,q3,)
def Ow(r r':R2)(ta tb tc:TE):TE:=λσ H Q=>ta σ H λx H1=>tb σ H1 λy H2=>r x y H2 λz H3=>∃k,z=.bl k /\
 (if k=true then tc σ H3 λw' H4=>r' y w' H4 Q else Q (.bl false) H3)
theorem PV{op op':CmpOp}{r r':R2}(ho:eV X (compareOp op) r)(ho':eV X (compareOp op') r')(ha:PE X a ta)(hb:PE X b tb)(hc:PE X c tc)
  (hm:lastMarks [op,op'] [b,c]=false:=by with_unfolding_all rfl):PE X (.Compare a [op,op'] [b,c] pos) (Ow r r' ta tb tc):=by
 intro pins s σ H Q I h;refine Compare_chain (cO (ha pins s σ H _ I h) λv s1 x H1 I1 r1 q1=>chain_link (cO (hb pins s1 σ H1 _ I1 q1) λu s2 y H2 I2 r2 q2=>
  bI (ho pins s2 σ H2 x y v u _ I2 r1 r2 q2) λd s3 (z,H3,I3,r3,k,e,q3,)=>?_)) hm
 subst e;cases r3;refine auF ?_;cases k with
 |false=>exact ite_ff (.bl false,H3,I3,8,q3,)
 |true=>exact ite_tt (chain_last (cO (hc pins s3 σ H3 _ I3 q3) λw' s4 z' H4 I4 r4 q4=>ho' pins s4 σ H4 y z' u w' Q I4 r2 r4 q4))
theorem PU{op op':CmpOp}{r r':R2}(ho:eV X (compareOp op) r)(ho':eV X (compareOp op') r')(ha:PE X a ta)(hb:PE X b tb)(hc:PE X c tc)
  (hm:lastMarks [op,op'] [b,c]=false:=by with_unfolding_all rfl):PT X (.Compare a [op,op'] [b,c] pos) (xA (Ow r r' ta tb tc)):=by
 intro pins s σ H Q I h;refine isTrue_chain (cO (ha pins s σ H _ I h) λv s1 x H1 I1 r1 q1=>test_link (cO (hb pins s1 σ H1 _ I1 q1) λu s2 y H2 I2 r2 q2=>
  bI (ho pins s2 σ H2 x y v u _ I2 r1 r2 q2) λd s3 (z,H3,I3,r3,k,e,q3,)=>?_)) hm
 subst e;cases r3;refine auF ?_;cases k with
 |false=>
  let(k',e',q',):=q3;cases e';exact ite_ff (H3,I3,q',)
 |true=>
  refine ite_tt (test_last (cO (hc pins s3 σ H3 _ I3 q3) λw' s4 z' H4 I4 r4 q4=>bI (ho' pins s4 σ H4 y z' u w' _ I4 r2 r4 q4) λd' s5 (z2,H5,I5,r5,k2,e2,q5,)=>?_));subst e2;cases r5;exact auF (H5,I5,q5,)
def EZ(K:W.Frag)(x:V)(H:Hp)(k:Bool):Prop:=
 match x with
 | .aE=>k=false
 | .bl b=>k=b
 | .int i=>k=(i !=0)
 | .str y=>y.length<=sizeLine/\k=((y.length:Int) !=0)
 | .pA y=>y.size<=sizeLine/\k=((y.size:Int) !=0)
 | .ref p=>(∃xs,ah K H p xs/\k=(not (xs.isEmpty)))\/(∃xs,bS K H p xs/\k=(not (xs.isEmpty)))\/∃kvs,H p=!(.dK kvs)/\k=(not (kvs.isEmpty))
 |_=>False
theorem Z2{κ:Type}{kvs:List (κ×V)}{vs:List (κ×Value)}(r:KV kvs vs):((not (vs.isEmpty)))=(not (kvs.isEmpty)):=by
 cases r <;> rfl
theorem QZ{xs:List V}{its:List Value}(r:Vals xs its):((not (its.toArray.isEmpty)))=(not (xs.isEmpty)):=by
 cases r <;> simp
theorem GN:(sizeLine:Nat)<2 ^ 63:=by rw[aXE];decide
theorem WI:LY X (λx H Q=>∃k,EZ X.K x H k/\Q k H):=by
 intro pins s σ H x v Q I rx h;let(k,e,q,):=h;have hl:=GN;have hs:sizeLine=16777216:=aXE;cases x with
 |aE=>
  cases rx;have e':k=false:=e;subst e';exact truthy_none (H,I,q,)
 |bl b=>
  cases rx;have e':k=b:=e;subst e';exact auF (H,I,q,)
 |int i=>
  let(t,rfl,):=rx;have e':k=(i !=0):=e;subst e';exact PySem.P.truthy_int (H,I,q,)
 |str y=>
  let(t,rfl,):=rx;obtain⟨hy,e'⟩:y.length<=sizeLine/\k=((y.length:Int) !=0):=e;subst e';exact PySem.P.truthy_str 7 (H,I.tok _,q,)
 |pA y=>
  let(t,rfl,):=rx;obtain⟨hy,e'⟩:y.size<=sizeLine/\k=((y.size:Int) !=0):=e;subst e';exact W.truthy_bytes 7 (H,I.tok _,q,)
 |ref p=>
  cases rx;have e':(∃xs,ah X.K H p xs/\k=(not (xs.isEmpty)))\/(∃xs,bS X.K H p xs/\k=(not (xs.isEmpty)))\/∃kvs,H p=!(.dK kvs)/\k=(not (kvs.isEmpty)):=e;rcases e' with⟨xs,hx,e'⟩|⟨xs,hx,e'⟩|⟨kvs,hx,e'⟩
  .subst e';let(its,r,pl,hz,):=I.list hx;have hlen:=r.length;exact wpAny_truthy_list pl.isList (by simp only[a3v];lia) (H,I.tok _,by rw[QZ r];exact q,)
  .subst e';let(its,r,pl,hz,):=I.tuple hx;have hlen:=r.length;exact truthy_tuple pl (by simp only[a3v];lia) (H,I.tok _,by rw[QZ r];exact q,)
  .subst e';obtain⟨hz,hS,vs,r,m⟩:kvs.length<=sizeLine/\(p ==sysModules)=false/\∃vs,KV kvs vs/\s.heap.DictOf (ZN X.prog X.w) p vs:=I.hok p _ hx;have hlen:kvs.length=vs.length:=Paired.length r;exact wpAny_truthy_dict hS m 7 (H,I.tok _,by rw[Z2 r];exact q,)
 |_=>exact(show False from e).elim
theorem Yg(ha:PE X a ta)(he:∀whole,isTrue a X.env whole=(do let v <-whole;standAt a.pos;holding [v] (truthy v))) :
  PT X a (λσ H Q=>ta σ H λx H'=>∃k,EZ X.K x H' k/\Q k H'):=by
 intro pins s σ H Q I h;exact isTrue_plain (cO (ha pins s σ H _ I h) λv s1 x H1 I1 r1 q1=>WI pins s1 σ H1 x v Q I1 r1 q1) (he _)
theorem vals1{x:V}{us:List Value}(r:Vals [x] us):∃u,us=[u]/\RelV x u:=by
 cases r with
 |cons r1 r2=>cases r2;exact(_,8,r1,)
theorem vals2{x y:V}{us:List Value}(r:Vals [x,y] us):∃u w',us=[u,w']/\RelV x u/\RelV y w':=by
 cases r with
 |cons r1 r2=>
  cases r2 with
  |cons r3 r4=>cases r4;exact(109,r1,r3,)
theorem PR:bx X (.builtin "abs") (λxs H Q=>∃i,xs=[.int i]/\Q (.int (if i<0 then -i else i)) H):=by
 intro pins s σ H xs us Q I r h;let(i,rfl,q,):=h;let(u,rfl,t,rfl,):=vals1 r;exact call_abs_int λu tk=>(.int (if i<0 then -i else i),H,I.tok _,(_,8,),q,)
theorem LS(hc:X.calm=true):bx X (.builtin "max") (λxs H Q=>∃i j,xs=[.int i,.int j]/\Q (.int (if j>i then j else i)) H):=by
 intro pins s σ H xs us Q I r h;let(i,j,rfl,q,):=h;let(u,w',rfl,(t,rfl,),(t',rfl,),):=vals2 r;refine max_two_ints (I.ok.hd hc) λh' tk k=>(_,H,I.kept k,?_,q,);by_cases hj:j>i
 .rw [ahF hj,ahF hj];exact(_,8,)
 .rw [aah hj,aah hj];exact(_,8,)
theorem ZgM(hc:X.calm=true):bx X (.builtin "min") (λxs H Q=>∃i j,xs=[.int i,.int j]/\Q (.int (if j<i then j else i)) H):=by
 intro pins s σ H xs us Q I r h;let(i,j,rfl,q,):=h;let(u,w',rfl,(t,rfl,),(t',rfl,),):=vals2 r;refine min_two_ints (I.ok.hd hc) λh' tk k=>(_,H,I.kept k,?_,q,);by_cases hj:j<i
 .rw [ahF hj,ahF hj];exact(_,8,)
 .rw [aah hj,aah hj];exact(_,8,)
theorem ET:bx X (.type "int") (λxs H Q=>(∃i,xs=[.int i]/\Q (.int i) H)\/∃k,xs=[.bl k]/\Q (.int (if k then 1 else 0)) H):=by
 intro pins s σ H xs us Q I r h;rcases h with⟨i,rfl,q⟩|⟨k,rfl,q⟩
 .let(u,rfl,t,rfl,):=vals1 r;exact call_int_int (.int i,H,I,(_,8,),q,)
 .let(u,rfl,r1,):=vals1 r;cases r1;exact call_int_bool (.int (if k then 1 else 0),H,I.tok _,(_,8,),q,)
theorem Zey:bx X (.builtin "divmod") (λxs H Q=>∃i j,xs=[.int i,.int j]/\Fj i j/\∀p,H p=none->Q (.ref p) (upd H p (.tup [.int (i/j),.int (i%j)]))):=by
 intro pins s σ H xs us Q I r h;let(i,j,rfl,(h1,h2,),q,):=h;let(u,w',rfl,(t,rfl,),(t',rfl,),):=vals2 r;refine divmod_int 7 ?_ (.inl (a4m 7));rw[Int.fdiv_eq_ediv_of_nonneg i 7,Int.fmod_eq_emod_of_nonneg i 7];have hn:H s.heap.objs.size=none:=I.hok.fresh (bbI _);refine(.ref s.heap.objs.size,_,?_,8,q _ hn,);refine I.laid (λb o e=>aJV _ e) (bbI _) (by simp only[acz,acg];rw[aXE];decide,[.int (i/j) s.toks,.int (i%j) (s.toks+1)],.cons (_,8,) (.cons (_,8,) .nil),?_,);exact(_,aQ0 s.heap 8,8,0,8,)
end
structure pH(h:Heap)(x dx C:Addr)(mA:Str->Option Value):Prop where
 obj:h.get? x=!(W.instObj C dx)
 ns:h.Ns1 dx mA
 ne:dx≠x
theorem ZgN{h:Heap}{dx:Addr}{mA:Str->Option Value}(n:h.Ns1 dx mA):∃od,h.get? dx=!od/\∀name,W.lookIn name od=!(mA name):=by
 let(o,es,ep,ho,hd,hk,_,hm,):=n;refine(o,ho,λname=>?_,);have e:=hm name;unfold nsFind findBy at e;rw[<-Array.find?_toList]at e;unfold W.lookIn;rw[hd];dsimp only;split
 .rename_i y q;rw[q]at e;exact aFH some e
 .rename_i q;rw[q]at e;have a:es.toList.any (·.refKey)=false:=by
   rw[any_eq_false];intro y hy;let(z,t,hkey,):=hk y (Array.mem_toList_iff.mp hy);simp[DictEntry.refKey,hkey]
  have a':¬es.toList.any (·.refKey)=true:=by rw[a];exact aJD
  rw[aah a'];exact aFH some e
theorem pH.look{h:Heap}{x dx C:Addr}{mA:Str->Option Value}(I:pH h x dx C mA):∃od,W.InstAt h x (W.instObj C dx) C (!od)/\∀name,W.lookIn name od=!(mA name):=
 let(od,ho,hl,):=ZgN I.ns
 (od,(I.obj,8,8,ho,),hl,)
section
variable{prog:Program}{w:World}{A:Around}{E:Value->Shared->Prop}{s:Shared}{K:W.Frag}{x dx C f:Addr}{mA:Str->Option Value}{name:Str}{v:Value}
theorem Xb{expr:Bool}{Q:Value->Shared->Prop}(X:K.In s.heap)(I:pH s.heap x dx C mA)(hg:W.plainGet K C name=true)(hh:W.hasDictIn K C=true)
  (ha:W.findIn K (.ref C) name=!none) (hv:mA name=!v) (hv':W.handedIn v=true) (h:Q v { s with toks:=s.toks+1 }) :
  wpAny (model prog w) A (getAttr (.ref x) name expr) Q E s:=by
 let(od,J,hl,):=I.look;exact W.get_value X J (W.plainGet_of hg).1 (W.findObj_own hh ha 8 (by rw[hl,hv])) hv' h
theorem Ye{pl:Sem Bool}{Q:Value×List Value->Shared->Prop}(X:K.In s.heap)(I:pH s.heap x dx C mA)(hg:W.plainGet K C name=true)
  (hf:W.findIn K (.ref C) name=!(!(.ref f))) (ht:W.isFn K (.ref f)=true) (hv:mA name=none) (h:Q (.ref f,[.ref x]) s) :
  wpAny (model prog w) A (getMethod (.ref x) name pl) Q E s:=by
 let(od,J,hl,):=I.look;exact W.method_fn X J (W.plainGet_of hg).1 (W.plainGet_of hg).2 hf (ats.mp ht) (by show(W.lookIn name od).map (·.isSome)=!false;rw[hl,hv];rfl) h
theorem Xa{ns:List Str}{Q:Unit->Shared->Prop}(X:K.In s.heap)(I:pH s.heap x dx C mA)
  (hs:W.findIn K (.ref C) "__setattr__"=!(!(.builtin "object.__setattr__"))) (hp:W.plainOver K C=true) (ht:W.takerIn K C name=!none) (hh:W.hasDictIn K C=true)
  (hw:PySem.Within mA ns) (hsz:ns.length<=sizeLine)
  (h:∀h',pH h' x dx C (λy=>if y=name then some v else mA y)->Heap.SameBut dx s.heap h'->Q () { s with heap:=h',toks:=s.toks+2 }) :
  wpAny (model prog w) A (setAttr (.ref x) name v) Q E s:=by
 let(od,J,hl,):=I.look;refine W.set_plain X J hs (W.osa_open (s:={ s with toks:=s.toks+1 }) (r:=none) X J hp ht λb=>?_);let(cd,hc,hd',):=W.any_some hh;have hx:s.heap.get? x=!(.ref C,!dx,.plain,#[],):=I.obj;refine aTi (ak8 (aTi (aTi (wpAny_loadPart hx (aTi (W.Looks.here (s:={ s with toks:=s.toks+1 }) (W.looks_clsIn X hc) ?_))))));rw[hd'];refine ak8 (a:=!dx) (aTi (ak8 (aTi ?_)));refine wpAny_nsSet1 (s:={ s with toks:=s.toks+1 }) I.ns λh' hn2 hs2=>?_;let(oD,esD,epD,Ux,UJ,UL,):=hn2.count (PySem.Within.cons name v hw);refine aTi (wpAny_lookBehind Ux (by rw[UJ];exact pastItsLine_dict (bbd UL (by rw[acz];lia))) ?_);exact ak8 (h _ ((hs2.2 _ (aUP I.ne)).trans I.obj,hn2,I.ne,) hs2)
theorem Yd{R:Result->Shared->Prop}{vs:List Value}{kw:List (Str×Value)}(X:K.In s.heap)(hm:W.makesIn K C=true)
  (hi:W.findIn K (.ref C) "__init__"=!(!(.ref f))) (hf:W.typeIn K (.ref f)=!(.type "function"))
  (h:codeAny (model prog w) (A.under (.builtin "type.__call__" (.ref C ::vs,kw,))) (.call (.ref f) (.ref (s.heap.objs.size+1) ::vs,kw,)) (W.InitBack (s.heap.objs.size+1) R)
   { s with heap:=(s.heap.push W.emptyDict).push (W.instObj C s.heap.objs.size) }) :
  codeAny (model prog w) A (.call (.ref C) (vs,kw,)) R s:=by
 let(hh,g,d,t,os,):=s;exact W.make_core (W.makes_of X hm) (W.looks_findIn X hi) (λself=>W.bind_fn X self hf) (.inl 8) h
end
noncomputable def aL(f:Str)(v:V):List (Str×V)->List (Str×V)
 | []=>[(f,v)]
 |(g,x) ::r=>if g=f then(g,v) ::r else(g,x) ::aL f v r
theorem Zt(f g:Str)(v:V):∀fs:List (Str×V),(aL f v fs).lookup g=if g=f then some v else fs.lookup g
 | []=>by
  show List.lookup g [(f,v)]=_;by_cases h:g=f
  .have hb:(g ==f)=true:=ats.mpr h;simp only[List.lookup,hb,ahF h]
  .have hb:(g ==f)=false:=aSU.mpr h;simp only[List.lookup,hb,aah h]
 |(k,x) ::r=>by
  have ih:=Zt f g v r;rw[show aL f v ((k,x) ::r)=(if k=f then(k,v) ::r else(k,x) ::aL f v r) from rfl];by_cases hk:k=f
  .rw [ahF hk];by_cases h:g=k
   .have hb:(g ==k)=true:=ats.mpr h;simp only[List.lookup,hb,ahF (h.trans hk)]
   .have hb:(g ==k)=false:=aSU.mpr h;simp only[List.lookup,hb,aah (λe:g=f=>h (e.trans hk.symm))]
  .rw [aah hk];by_cases h:g=k
   .have hb:(g ==k)=true:=ats.mpr h;simp only[List.lookup,hb,aah (λe:g=f=>hk (h.symm.trans e))]
   .have hb:(g ==k)=false:=aSU.mpr h;simp only[List.lookup,hb];exact ih
theorem LQ(f:Str)(v:V):∀fs:List (Str×V),f∈(aL f v fs).map (·.1)/\∀g,g∈fs.map (·.1)->g∈(aL f v fs).map (·.1)
 | []=>(by simp[aL],λg h=>by simp at h,)
 |(k,x) ::r=>by
  let(i1,i2,):=LQ f v r;rw[show aL f v ((k,x) ::r)=(if k=f then(k,v) ::r else(k,x) ::aL f v r) from rfl];by_cases hk:k=f
  .rw [ahF hk];subst hk;exact(5,λg h=>by simpa using h,)
  .rw [aah hk];refine(?_,λg h=>?_,)
   .rw [aQv];exact aq4 _ i1
   .rw [aQv]at h ⊢;rcases aPx.mp h with e|e
    .exact aPx.mpr (.inl e)
    .exact aq4 _ (i2 g e)
theorem QM(f:Str)(v:V):∀fs:List (Str×V),(aL f v fs).length<=fs.length+1
 | []=>by simp[aL]
 |(k,x) ::r=>by
  have ih:=QM f v r;rw[show aL f v ((k,x) ::r)=(if k=f then(k,v) ::r else(k,x) ::aL f v r) from rfl];by_cases hk:k=f
  .rw [ahF hk,acz,acz];lia
  .rw [aah hk,acz,acz];lia
theorem cW.some_of{v:V}{o:Option Value}(r:cW (!v) o):∃u,o=!u/\RelV v u:=by
 cases o with
 |none=>exact(show False from r).elim
 |some u=>exact(u,8,r,)
theorem cW.none_of{o:Option Value}(r:cW none o):o=none:=by
 cases o with
 |none=>rfl
 |some u=>exact(show False from r).elim
theorem ZgO{v:V}{u:Value}(r:RelV v u):W.handedIn u=true:=by
 cases v with
 |aE=>cases(show u=Value.none from r);rfl
 |bl b=>cases(show u=Value.bool b from r);rfl
 |int i=>let(t,e,):=(show ∃t,u=Value.int i t from r);cases e;rfl
 |str x=>let(t,e,):=(show ∃t,u=Value.str x t from r);cases e;rfl
 |pA b=>let(t,e,):=(show ∃t,u=Value.bytes b t from r);cases e;rfl
 |yu b=>let(t,e,):=(show ∃t,u=Value.float b t from r);cases e;rfl
 |ref a=>cases(show u=Value.ref a from r);rfl
 |ty n=>cases(show u=Value.type n from r);rfl
section
variable{P:Program}{w:World}{H H':Hp}{h h':Heap}{a C dx:Addr}{fs fs':List (Str×V)}
theorem Hj(hok:dI P w H h)(e:H a=!(.ins C dx fs)):∃mA,pH h a dx C mA/\(∀f,cW (fs.lookup f) (mA f))/\PySem.Within mA (fs.map (·.1))/\fs.length<=1000/\H dx=!(.own a):=by
 let(d,z,ne,ob,mA,n,r,q,):=(show aK P w H h a (.ins C dx fs) from hok a _ e);exact(mA,(ob,n,ne,),r,q,z,d,)
end
structure uZ(K:W.Frag)(C:Addr):Prop where
 pg:W.plainGet K C Str.empty=true
 hd:W.hasDictIn K C=true
 po:W.plainOver K C=true
 sa:W.findIn K (.ref C) "__setattr__"=!(!(.builtin "object.__setattr__"))
theorem uZ.get{K:W.Frag}{C:Addr}(c:uZ K C)(f:Str):W.plainGet K C f=true:=c.pg
def cz(K:W.Frag)(C:Addr)(f:Str):Prop:=W.findIn K (.ref C) f=!none
theorem cz.BY{K:W.Frag}{C:Addr}{f:Str}(n:cz K C f):W.takerIn K C f=!none:=by
 unfold W.takerIn;rw[show W.findIn K (.ref C) f=some none from n];rfl
structure Meth(K:W.Frag)(C:Addr)(m:Str)(f:Addr):Prop where
 at_:W.findIn K (.ref C) m=!(!(.ref f))
 fn:W.isFn K (.ref f)=true
 kp:W.keepIn K (.ref f)=true
section
variable{X:Cx}{pins:List (Addr×Obj)}{σ:St}{H:Hp}{s:Shared}{a C dx:Addr}{fs:List (Str×V)}{f:Str}{v:V}{A:Around}{E:Value->Shared->Prop}
theorem Z1{b:Bool}{Q:Value->Shared->Prop}(I:Inv X pins σ H s)(e:H a=!(.ins C dx fs))(c:uZ X.K C)(n:cz X.K C f)(l:fs.lookup f=!v)
  (h:∀u s',Inv X pins σ H s'->RelV v u->Q u s'):wpAny (model X.prog X.w) A (getAttr (.ref a) f b) Q E s:=by
 let(mA,O,r,_,_,_,):=Hj I.hok e;let(u,hu,ru,):=cW.some_of (v:=v) (o:=mA f) (by rw[<-l];exact r f);exact Xb I.gV O (c.get f) c.hd n hu (ZgO ru) (h u _ (I.tok _) ru)
theorem Z0{m:Str}{g:Addr}{pl:Sem Bool}{Q:Value×List Value->Shared->Prop}(I:Inv X pins σ H s)(e:H a=!(.ins C dx fs))(c:uZ X.K C)(k:Meth X.K C m g)(l:fs.lookup m=none)
  (h:Q (.ref g,[.ref a]) s):wpAny (model X.prog X.w) A (getMethod (.ref a) m pl) Q E s:=by
 let(mA,O,r,_,_,_,):=Hj I.hok e;have hn:mA m=none:=cW.none_of (by rw[<-l];exact r m);exact Ye I.gV O (c.get m) k.at_ k.fn hn h
theorem Y9{y:V}{u:Value}{Q:Unit->Shared->Prop}(I:Inv X pins σ H s)(e:H a=!(.ins C dx fs))(c:uZ X.K C)(n:cz X.K C f)(hl:fs.length<1000)(ry:RelV y u)
  (h:∀s',Inv X pins σ (upd H a (.ins C dx (aL f y fs))) s'->Q () s'):wpAny (model X.prog X.w) A (setAttr (.ref a) f u) Q E s:=by
 let(mA,O,r,wi,_,ho,):=Hj I.hok e;have hz:(fs.map (·.1)).length<=sizeLine:=by rw[ano,aXE];lia
 refine Xa I.gV O c.sa c.po n.BY c.hd wi hz λh' O' sb=>h _ ?_;have hd:∃o,h'.get? dx=!o:=let(o,_,_,e',_,):=O'.ns;(o,e',);refine I.write (x:=a) (e:=dx) (by rw[e];exact True.intro) (.inr ho) (λb q hb z=>(sb.2 b hb).trans z) hd ?_;refine(by rw[Zg O.ne];exact ho,?_,O.ne,O'.obj,_,O'.ns,λg=>?_,λg hg=>?_,)
 .have:=QM f y fs;lia
 .show cW ((aL f y fs).lookup g) (if g=f then some u else mA g);rw[Zt];by_cases q:g=f
  .rw [ahF q,ahF q];exact ry
  .rw [aah q,aah q];exact r g
 .by_cases q:g=f
  .rw [q];exact(LQ f y fs).1
  .refine (LQ f y fs).2 g (wi g λz=>hg ?_);show(if g=f then some u else mA g)=none;rw[aah q];exact z
theorem Inv.made(I:Inv X pins σ H s):Inv X pins σ (upd (upd H s.heap.objs.size (.own (s.heap.objs.size+1))) (s.heap.objs.size+1) (.ins C s.heap.objs.size []))
  { s with heap:=(s.heap.push W.emptyDict).push (W.instObj C s.heap.objs.size) }:=by
 have e1:(s.heap.push W.emptyDict).get? s.heap.objs.size=!W.emptyDict:=aQ0 s.heap 8;have e2:((s.heap.push W.emptyDict).push (W.instObj C s.heap.objs.size)).get? (s.heap.objs.size+1)=!(W.instObj C s.heap.objs.size):=by
  have:=aQ0 (s.heap.push W.emptyDict) (o:=W.instObj C s.heap.objs.size) 8;rwa [aRL]at this
 have e3:(s.heap.push W.emptyDict).Ns s.heap.objs.size (λ_=>none):=(W.emptyDict,#[],_,e1,8,(λe he=>absurd he 5),λ_=>8,);have I1:=I.laid (a:=s.heap.objs.size) (o:=.own (s.heap.objs.size+1)) (h':=s.heap.push W.emptyDict) (t':=s.toks) (λb u q=>aJV _ q) (bbI _) (_,e1,);refine I1.laid (a:=s.heap.objs.size+1) (o:=.ins C s.heap.objs.size []) (t':=s.toks) (λb u q=>aJV _ q) (Nat.le_of_eq (aRL _ _)) ?_;have ne:s.heap.objs.size≠s.heap.objs.size+1:=aOt (avq _);refine(by rw[Zg ne,Za],agn _,ne,e2,λ_=>none,(Heap.Ns1.of_empty e3).at λo q=>aJV _ q,λ_=>True.intro,λy hy=>absurd 8 hy,)
theorem W9{prog:Program}{w:World}{env:Env}{e:Expr}{f:Str}{pos:Pos}{s:Shared}{Q:Value->Shared->Prop}(hb:attributeBase e f env (eval e env)=eval e env)
  (h:wpAny (model prog w) A (eval e env) (λo s₁=>wpAny (model prog w) A (getAttr o f true) Q E s₁) E s):wpAny (model prog w) A (eval (.Attribute e f pos) env) Q E s:=
 Attribute_any_ h (by rw[arm_eval_Attribute,hb])
end
inductive D9 (K:W.Frag)(f:Str)(Q:VK)(x:V)(H1:Hp):Prop
 |mk (a C dx:Addr)(fs:_)(v:V):x=.ref a->H1 a=!(.ins C dx fs)->uZ K C->cz K C f->fs.lookup f=!v->Q v H1->D9 K f Q x H1
def Cf(K:W.Frag)(ta:TE)(f:Str):TE:=λσ H Q=>ta σ H (D9 K f Q)
def IF(K:W.Frag)(ta tv:TE)(f:Str):TS:=λD σ H=>tv σ H λy H1=>ta σ H1 λx H2=>∃a C dx fs,x=.ref a/\H2 a=!(.ins C dx fs)/\uZ K C/\cz K C f/\fs.length<1000 /\
 D.nx σ (upd H2 a (.ins C dx (aL f y fs)))
def Ff(X:Cx)(op:Operator)(rd:V->V->Hp->VK->Prop):Prop:=
 ∀(pins:List (Addr×Obj))(s:Shared)(σ:St)(H:Hp)(x y:V)(u v:Value)(Q:VK),Inv X pins σ H s->RelV x u->RelV y v->rd x y H Q->wpAny (model X.prog X.w) X.A (inplaceOp op u v) (EP X pins σ Q) X.xe s
section
variable{X:Cx}{o e value:Expr}{f:Str}{pos pos' tpos:Pos}{ta tv:TE}
theorem WH(he:PE X e ta)(hb:attributeBase e f X.env (eval e X.env)=eval e X.env):PE X (.Attribute e f pos) (Cf X.K ta f):=by
 intro pins s σ H Q I h;refine W9 hb (bI (he pins s σ H _ I h) λu s1 (x,H1,I1,rx,a,C,dx,fs,v,ex,ea,c,n,l,q,)=>?_);subst ex;obtain rfl:u=Value.ref a:=rx;exact Z1 I1 ea c n l λu' s2 I2 ru=>(v,H1,I2,ru,q,)
theorem Ex(ha:PE X o ta)(hv:PE X value tv)(hs:swapsWith value (!(.Attribute o f pos')) pos.line X.env=pure false):PS X (.Assign [.Attribute o f pos'] value pos) (IF X.K ta tv f):=by
 intro pins s σ H D I h;refine plainObj_wpAny_Assign_Attribute (cO (hv pins s σ H _ I h) λu s1 y H1 I1 ry q=>bI (ha pins s1 σ H1 _ I1 q) λov s2 (x,H2,I2,rx,a,C,dx,fs,ex,ea,c,n,l,q2,)=>?_) hs;subst ex;obtain rfl:ov=Value.ref a:=rx;exact Y9 I2 ea c n l ry λs3 I3=>(σ,_,I3,q2,)
inductive CG(x:V)(y:V)(H:Hp)(Q:VK):Prop
 |mk (i j:_):x=.int i->y=.int j->Q (.int (i+j)) H->CG x y H Q
theorem WG:Ff X .Add CG:=by
 rintro pins s σ H x y u v Q I rx ry ⟨i,j,rfl,rfl,q⟩;let(t,rfl,):=(show ∃t,u=Value.int i t from rx);let(t',rfl,):=(show ∃t',v=Value.int j t' from ry);exact PyProof.Rows.iadd_int (.int (i+j),H,I.tok _,(_,8,),q,)
end
section
variable{X:Cx}{pins:List (Addr×Obj)}{σ:St}{H:Hp}{s:Shared}{A:Around}{E:Value->Shared->Prop}{Q:Value->Shared->Prop}{c:Value}{b:Bool}
inductive gr (K:W.Frag) (H:Hp):V->Value->Prop where
 |aE:gr K H .aE (.type "NoneType")
 |bl (x:Bool):gr K H (.bl x) (.type "bool")
 |int (i:Int):gr K H (.int i) (.type "int")
 |str (x:Str):gr K H (.str x) (.type "str")
 |yu (x:UInt64):gr K H (.yu x) (.type "float")
 |lst {a:Addr} {xs:List V} (e:H a=!(.lst xs)):gr K H (.ref a) (.type "list")
 |bH {a:Addr} {o:Obj} {xs:List V} (e:H a=!(.bH o (.lst xs))):gr K H (.ref a) (.type "list")
 |tup {a:Addr} {xs:List V} (e:H a=!(.tup xs)):gr K H (.ref a) (.type "tuple")
 |dK {a:Addr} {kvs:List (Key×V)} (e:H a=!(.dK kvs)):gr K H (.ref a) (.type "dict")
 |dT {a:Addr} {kvs:List (List Key×V)} (e:H a=!(.dT kvs)):gr K H (.ref a) (.type "dict")
 | ins {a C dx:Addr} {fs:List (Str×V)} (e:H a=!(.ins C dx fs)) (cl:uZ K C) (ha:W.findIn K (.ref C) "__class__"=!(!(.builtin "object.__class__")))
   (hn:W.specialIn K (.builtin "object.__class__") "__get__"=!(!(.builtin "getset_descriptor.__get__"))) (htk:W.takesIn K (.builtin "object.__class__")=!true)
   (hm:W.mroIn K C (.type "object")=!true):gr K H (.ref a) (.ref C)
theorem ZgP{x:V}{u t:Value}(I:Inv X pins σ H s)(rx:RelV x u)(ty:gr X.K H x t)(e:W.kitOne X.K t c=!b)(h:∀tk,Q (.bool b) { s with toks:=tk }) :
  wpAny (model X.prog X.w) A (call (.builtin "isinstance") [u,c]) Q E s:=by
 cases ty with
 |aE=>cases(show u=Value.none from rx);exact aUd W.kitx_none I.gV True.intro e (λz=>nomatch z) h
 |bl y=>cases(show u=Value.bool y from rx);exact aUd W.kitx_bool I.gV True.intro e (λz=>nomatch z) h
 |int i=>let(t,q,):=(show ∃t,u=Value.int i t from rx);cases q;exact aUd W.kitx_int I.gV True.intro e (λz=>nomatch z) h
 |str y=>let(t,q,):=(show ∃t,u=Value.str y t from rx);cases q;exact aUd W.kitx_str I.gV True.intro e (λz=>nomatch z) h
 |yu y=>let(t,q,):=(show ∃t,u=Value.float y t from rx);cases q;exact aUd W.kitx_float I.gV True.intro e (λz=>nomatch z) h
 | @lst a xs ea=>
  cases(show u=Value.ref a from rx);let(_,_,n,_,h1,):=(show aK X.prog X.w H s.heap a (.lst xs) from I.hok a _ ea);exact aUd W.kitx_list I.gV (_,h1,8,) e (λz=>nomatch z) h
 | @bH a ob xs ea=>
  cases(show u=Value.ref a from rx);let(_,_,_,n,_,h1,):=(show aK X.prog X.w H s.heap a (.bH ob (.lst xs)) from I.hok a _ ea);exact aUd W.kitx_list I.gV (_,h1,8,) e (λz=>nomatch z) h
 | @tup a xs ea=>
  cases(show u=Value.ref a from rx);let(_,_,_,p,):=(show aK X.prog X.w H s.heap a (.tup xs) from I.hok a _ ea);let(o,h1,h2,_,):=p;exact aUd W.kitx_tuple I.gV (o,h1,h2,) e (λz=>nomatch z) h
 | @dK a kvs ea=>
  cases(show u=Value.ref a from rx);let(_,_,vs,_,p,):=(show aK X.prog X.w H s.heap a (.dK kvs) from I.hok a _ ea);let(o,es,ep,h1,h2,_,):=p;exact aUd W.kitx_dict I.gV (o,h1,h2.1,) e (λz=>nomatch z) h
 | @dT a kvs ea=>
  cases(show u=Value.ref a from rx);let(_,_,xs,_,o,es,ep,h1,h2,_,):=(show aK X.prog X.w H s.heap a (.dT kvs) from I.hok a _ ea);exact aUd W.kitx_dict I.gV (o,h1,h2.1,) e (λz=>nomatch z) h
 | @ins a C dx fs ea cl ha hn htk hm=>
  cases(show u=Value.ref a from rx);let(mA,O,_,):=Hj I.hok ea;let(od,J,_,):=O.look;exact aUd (W.kitx_own (cl.get _) cl.hd ha hn htk hm) I.gV J e (λz=>nomatch z) h
end
structure bg(k:Nat)(A:Around):Prop where
 hd:A.handled=none
 dp:A.depth+3*k+05<recursionLimit
 un:A.units+16*k+200<cLine
 gd:A.guards=![]
theorem bg.mono{j k:Nat}{A:Around}(r:bg k A)(h:j<=k):bg j A:=(r.hd,by have:=r.dp;lia,by have:=r.un;lia,r.gd,)
theorem bg.deeper{k:Nat}{A:Around}(r:bg (k+1) A)(env:Env):bg k (A.deeper env):=
 (r.hd,by have:=r.dp;show A.depth+1+3*k+05<_;lia,by have:=r.un;show A.units+3+16*k+200<_;lia,r.gd,)
theorem Y8{A:Around}{C:Addr}{us:List Value}{kw:List (Str×Value)}:(A.under (.builtin "type.__call__" (.ref C ::us,kw,))).depth=A.depth+1:=by
 first|rfl|simp[Around.under,Code.weight,Code.isCreation,Code.isGuard,Code.isCaller,Code.frames,Code.isFrame,guardIds]
theorem Y7{A:Around}{C:Addr}{us:List Value}{kw:List (Str×Value)}:(A.under (.builtin "type.__call__" (.ref C ::us,kw,))).units=A.units+1:=by
 first|rfl|simp[Around.under,Code.cUnits,Code.frames,Code.isFrame]
theorem bg.make{k:Nat}{A:Around}(r:bg (k+1) A)(C:Addr)(us:List Value)(kw:List (Str×Value)):bg k (A.under (.builtin "type.__call__" (.ref C ::us,kw,))):=
 (r.hd,by have:=r.dp;rw[Y8];lia,by have:=r.un;rw[Y7];lia,r.gd,)
theorem bg.depth{k:Nat}{A:Around}(r:bg k A):A.depth<recursionLimit:=by have:=r.dp;lia
theorem bg.units{k:Nat}{A:Around}(r:bg k A):A.units+64<cLine:=by have:=r.un;lia
def Iu:TA:=λ_ H Q=>Q [] H
def xD(ta:TE)(tr:TA):TA:=λσ H Q=>ta σ H λx H1=>tr σ H1 λxs H2=>Q (x ::xs) H2
section
variable{X:Cx}{e:Expr}{es:List Expr}{te:TE}{t:TA}{pos:Pos}
theorem Zc:PA X [] Iu:=λ_ _ _ _ H Q I h=>anM ([],H,I,.nil,h,)
theorem W8(ha:PE X e te)(hr:PA X es t)(hs:starEach (e ::es) X.env=(false,eval e X.env) ::starEach es X.env:=by rfl):PA X (e ::es) (xD te t):=by
 intro pos pins s σ H Q I h;rw[hs];show wpAny _ _ (spliced ((false,eval e X.env) ::backTo pos (starEach es X.env))) _ _ s;refine arw (cO (ha pins s σ H _ I h) λu s1 x H1 I1 r1 q1=>?_);exact pK (hr pos pins s1 σ H1 _ I1 q1) λus s2 xs H2 I2 r2 q2=>(x ::xs,H2,I2,.cons r1 r2,q2,)
def Im(t:TA):TE:=λσ H Q=>t σ H λxs H1=>xs.length<=sizeLine/\∀p,H1 p=none->Q (.ref p) (upd H1 p (.tup xs))
def Iv(t:TA):TE:=λσ H Q=>t σ H λxs H1=>xs.length<=sizeLine/\∀p,H1 p=none->Q (.ref p) (upd H1 p (.lst xs))
theorem nY{x1}(h:PA X es t):PE X (.Tuple es x1 pos) (Im t):=by
 intro pins s σ H Q I hq;refine wpAny_Tuple_spliced (bI (h pos pins s σ H _ I hq) λus s1 (xs,H1,I1,r,z,q,)=>(by rw[<-r.length];exact z,?_,));have hf:H1 s1.heap.objs.size=none:=I1.hok.fresh (bbI _);refine(.ref s1.heap.objs.size,upd H1 s1.heap.objs.size (.tup xs),I1.laid (t':=s1.toks) (λb u e=>aJV _ e) (bbI _) ?_,8,q _ hf,);exact(z,us,r,(_,aQ0 _ 8,113,),)
theorem Zv(h:PA X es t):PE X (.List es pos) (Iv t):=by
 intro pins s σ H Q I hq;refine wpAny_List_spliced (bI (h pos pins s σ H _ I hq) λus s1 (xs,H1,I1,r,z,q,)=>(by rw[<-r.length];exact z,?_,));have hf:H1 s1.heap.objs.size=none:=I1.hok.fresh (bbI _);refine(.ref s1.heap.objs.size,upd H1 s1.heap.objs.size (.lst xs),I1.laid (t':=s1.toks) (λb u e=>aJV _ e) (bbI _) ?_,8,q _ hf,);exact(z,us,0,r,aQ0 _ 8,)
end
noncomputable abbrev Sp:=List V->Hp->VK->XK->Prop
noncomputable abbrev vH:=List Env->Hp->Shared->XK->Value->Shared->Prop
structure pI(P:Program)(w:World)(K:W.Frag)(mg:Str->Option Value)(base:Heap)(A:Around)(outer:List Env)(s:Shared)(H:Hp):Prop where
 frames:A.frames=!outer
 mod:Mod K mg base
 bs:∀b o,base.get? b=!o->s.heap.get? b=!o/\H b=none
 vt:base.objs.size<=s.heap.objs.size
 gX:s.heap.FunFrames base outer
 Ae:∀b∈frs outer,H b=none
 hok:dI P w H s.heap
 bare:AllBare s.gens
def CE(outer:List Env)(P:Program)(w:World)(H:Hp)(s:Shared)(Q:VK)(u:Value)(s':Shared):Prop:=
 ∃v H',s'.os=s.os/\AllBare s'.gens/\Un (frs outer) [] H H' s.heap s'.heap/\dI P w H' s'.heap/\RelV v u/\Q v H'
def CR(CX:vH)(outer:List Env)(P:Program)(w:World)(H:Hp)(s:Shared)(Q:VK)(E:XK)(r:Result)(s':Shared):Prop:=
 match r with
 | .ok (.ret u)=>CE outer P w H s Q u s'
 | .ok _=>False
 | .error e=>CX outer H s E e s'
structure cN(P:Program)(w:World)(K:W.Frag)(mg:Str->Option Value)(base:Heap)(CX:vH)(k:Nat)(f:Addr)(fd:FuncData)(ps:List Str)(sp:Sp):Prop where
 len:∀vs H Q E,sp vs H Q E->vs.length=ps.length
 run:∀(A:Around)(outer:List Env)(s:Shared)(H:Hp)(args:Args)(us:List Value)(vs:List V)(Q:VK)(E:XK),bg k A->pI P w K mg base A outer s H->BindsTo s fd args (ps.zip us)->Vals vs us->sp vs H Q E ->
  codeAny (model P w) A (.call (.ref f) args) (CR CX outer P w H s Q E) s
theorem pI.make{P:Program}{w:World}{K:W.Frag}{mg:Str->Option Value}{base:Heap}{A:Around}{outer:List Env}{s:Shared}{H:Hp}(e:pI P w K mg base A outer s H)(C:Addr)(us:List Value)(kw:List (Str×Value)) :
  pI P w K mg base (A.under (.builtin "type.__call__" (.ref C ::us,kw,))) outer s H:=(by first|exact e.frames|(simpa[Around.under,Code.envs,Code.isFrame,pushEnvs]using e.frames),e.mod,e.bs,e.vt,e.gX,e.Ae,e.hok,e.bare,)
section
variable{X:Cx}{pins:List (Addr×Obj)}{σ:St}{H:Hp}{s s':Shared}
theorem Inv.uz(I:Inv X pins σ H s):pI X.prog X.w X.K X.mg X.base X.A X.stack s H:=
 (I.ok.frames,I.ok.mod,I.bs,bbd I.ok.vt I.sz,I.stack,I.jW,I.hok,I.bare,)
theorem Inv.after{Q:VK}{u:Value}(I:Inv X pins σ H s)(h:CE X.stack X.prog X.w H s Q u s'):EP X pins σ Q u s':=by
 let(v,H',os,bare,un,hok,r,q,):=h;let(hh,g,d,t,os',):=s';obtain rfl:os'=s.os:=os;exact(v,H',I.call (h':=hh) (g':=g) (d':=d) (t':=t) (ch:=[]) un hok bare (λb z=>absurd z 5),r,q,)
end
def se(sp:Sp)(kT:List V)(E:XK)(t:TA):TE:=λσ H Q=>t σ H λvs H1=>sp (vs++kT) H1 Q E
def xB(C:Addr)(m:Str)(sp:Sp)(kT:List V)(E:XK)(ta:TE)(t:TA):TE:=λσ H Q=>ta σ H λx H1=>∃a dx fs,x=.ref a/\H1 a=!(.ins C dx fs)/\fs.lookup m=none /\
 t σ H1 λvs H2=>sp (x ::(vs++kT)) H2 Q E
def xC(C:Addr)(sp:Sp)(kT:List V)(E:XK)(t:TA):TE:=λσ H Q=>t σ H λvs H1=>∀x dx,H1 x=none->H1 dx=none->dx≠x ->
 sp (.ref x ::(vs++kT)) (upd (upd H1 dx (.own x)) x (.ins C dx [])) (λv H2=>v=.aE/\Q (.ref x) H2) E
def Binds(K:W.Frag)(fd:FuncData)(ps:List Str)(ds:List Value):Prop:=
 ∀(s:Shared)(us:List Value),K.In s.heap->(us++ds).length=ps.length->BindsTo s fd (us,[],) (ps.zip (us++ds))
theorem Binds.all{K:W.Frag}{fd:FuncData}{ps:List Str}(h:∀us:List Value,us.length=ps.length->bindArgs fd (us,[],)=pure (ps.zip us)):Binds K fd ps []:=λs us _ hl=>by
 rw[aZr]at hl ⊢;exact .of_eq (h us hl)
def Bm(CX:vH)(X:Cx)(E:XK):Prop:=∀(pins:List (Addr×Obj))(σ:St)(H:Hp)(s:Shared)(e:Value)(s':Shared),Inv X pins σ H s->CX X.stack H s E e s'->X.xe e s'
section
variable{X:Cx}{CX:vH}{k:Nat}{f C:Addr}{fd:FuncData}{ps:List Str}{sp:Sp}{kT:List V}{ds:List Value}{E:XK}{x m:Str}{p pos apos:Pos}{e o:Expr}{es:List Expr}{ta:TE}{t:TA}
theorem Ov{pins:List (Addr×Obj)}{σ:St}{H:Hp}{s:Shared}{Q:VK}{us:List Value}{vs:List V}(F:cN X.prog X.w X.K X.mg X.base CX k f fd ps sp)(hr:bg k X.A)(hb:Binds X.K fd ps ds)(hd:Vals kT ds)(hx:Bm CX X E)
  (I:Inv X pins σ H s) (r:Vals vs us) (h:sp (vs++kT) H Q E):wpAny (model X.prog X.w) X.A (call (.ref f) us) (EP X pins σ Q) X.xe s:=by
 have r2:Vals (vs++kT) (us++ds):=r.append hd;have hl:(us++ds).length=ps.length:=by rw[<-r2.length];exact F.len _ _ _ _ h
 refine wpAny_call (codeAny_mono (F.run X.A X.stack s H (us,[],) (us++ds) (vs++kT) Q E hr I.uz (hb s us I.gV hl) r2 h) λr s' hq=>?_);cases r with
 |error e=>exact hx pins σ H s e s' I hq
 |ok fl=>
  cases fl with
  |ret u=>exact I.after hq
  |next=>exact False.elim hq
  |brk=>exact False.elim hq
  |cont=>exact False.elim hq
theorem W7(F:cN X.prog X.w X.K X.mg X.base CX k f fd ps sp)(hr:bg k X.A)(hg:Gl X x)(hm:X.mg x=!(.ref f))(hk:W.keepIn X.K (.ref f)=true)(hb:Binds X.K fd ps ds)(hd:Vals kT ds)(hx:Bm CX X E)
  (ha:PA X (e ::es) t) (hdb:(x ==("__debug__":Str))=false:=by decide) (he:starEach (e ::es) X.env=(false,eval e X.env) ::starEach es X.env:=by rfl) (hpl:(backTo pos (starEach es X.env)).any (·.1)=false:=by rfl) :
  PE X (.Call (.Name x p) (e ::es) [] pos) (se sp kT E t):=by
 intro pins s σ H Q I h;refine aX6 (Pr I hg hm ?_ hdb);refine W.callWith_K (h₀:=X.base) I.ok.mod.Dr hk (pK (ha pos pins s σ H _ I h) λus s1 vs H1 I1 r q=>(I1.gV,?_,)) he hpl;exact Ov F hr hb hd hx I1 r q
theorem W6{pl:Sem Bool}(he:PE X o ta)(c:uZ X.K C)(hm:Meth X.K C m f)(F:cN X.prog X.w X.K X.mg X.base CX k f fd ps sp)(hr:bg k X.A)(hb:Binds X.K fd ps ds)(hd:Vals kT ds)(hx:Bm CX X E)(ha:PA X (e ::es) t)
  (hst:starEach (e ::es) X.env=(false,eval e X.env) ::starEach es X.env:=by rfl) (hpl:(backTo pos (starEach es X.env)).any (·.1)=false:=by rfl)
  (ht:eval (.Call (.Attribute o m apos) (e ::es) [] pos) X.env=(do
   let ov <-eval o X.env
   standAt apos.atName
   let(f,first) <-holding [ov] (getMethod ov m pl)
   callWith pos f first (backTo pos (starEach (e ::es) X.env)) (backToKw pos (keywordEach [] X.env))):=by rfl) :
  PE X (.Call (.Attribute o m apos) (e ::es) [] pos) (xB C m sp kT E ta t):=by
 intro pins s σ H Q I h;refine W.methodCall_KW (pl:=pl) (bI (he pins s σ H _ I h) λu s1 (x,H1,I1,rx,a,dx,fs,ex,ea,l,q,)=>?_) ht;subst ex;obtain rfl:u=Value.ref a:=rx;refine Z0 I1 ea c hm l ?_;refine W.callWith_K (first:=[.ref a]) (h₀:=X.base) I.ok.mod.Dr hm.kp (pK (ha pos pins s1 σ H1 _ I1 q) λus s2 vs H2 I2 r q2=>(I2.gV,?_,)) hst hpl;exact Ov (us:=.ref a ::us) (vs:=.ref a ::vs) F hr hb hd hx I2 (.cons 8 r) q2
structure Mk(K:W.Frag)(C f:Addr):Prop where
 makes:W.makesIn K C=true
 init:W.findIn K (.ref C) "__init__"=!(!(.ref f))
 fn:W.isFn K (.ref f)=true
 kp:W.keepIn K (.ref C)=true
theorem Yc{pins:List (Addr×Obj)}{σ:St}{H:Hp}{s:Shared}{Q:VK}{us:List Value}{vs:List V}(M:Mk X.K C f)(F:cN X.prog X.w X.K X.mg X.base CX k f fd ps sp)(hr:bg (k+1) X.A)(hb:Binds X.K fd ps ds)(hd:Vals kT ds)
  (hx:Bm CX X E) (I:Inv X pins σ H s) (r:Vals vs us)
  (h:∀x dx,H x=none->H dx=none->dx≠x->sp (.ref x ::(vs++kT)) (upd (upd H dx (.own x)) x (.ins C dx [])) (λv H2=>v=.aE/\Q (.ref x) H2) E) :
  wpAny (model X.prog X.w) X.A (call (.ref C) us) (EP X pins σ Q) X.xe s:=by
 have hq:=h (s.heap.objs.size+1) s.heap.objs.size (I.hok.fresh (aD0 _)) (I.hok.fresh (bbI _)) (aOt (avq _));have I2:=Inv.made (C:=C) I;have r2:Vals (V.ref (s.heap.objs.size+1) ::(vs++kT)) (Value.ref (s.heap.objs.size+1) ::(us++ds)):=.cons 8 (r.append hd);have hl:(Value.ref (s.heap.objs.size+1) ::us++ds).length=ps.length:=by
  have e:=r2.length;rw[F.len _ _ _ _ hq]at e;exact e.symm
 refine wpAny_call (Yd (f:=f) I.gV M.makes M.init (ats.mp M.fn) (codeAny_mono (F.run _ X.stack _ _ (Value.ref (s.heap.objs.size+1) ::us,[],) (Value.ref (s.heap.objs.size+1) ::(us++ds)) _ _ E (hr.make C us [])
  (I2.uz.make C us []) (hb _ (Value.ref (s.heap.objs.size+1) ::us) I2.gV hl) r2 hq) λr s' hq'=>?_))
 cases r with
 |error e=>exact hx pins σ _ _ e s' I2 hq'
 |ok fl=>
  cases fl with
  |ret u=>
   let(v,H',I3,rv,ev,q3,):=I2.after hq';subst ev;exact(rv,(V.ref (s.heap.objs.size+1),H',I3,8,q3,),)
  |next=>exact False.elim hq'
  |brk=>exact False.elim hq'
  |cont=>exact False.elim hq'
theorem W5(M:Mk X.K C f)(F:cN X.prog X.w X.K X.mg X.base CX k f fd ps sp)(hr:bg (k+1) X.A)(hg:Gl X x)(hm:X.mg x=!(.ref C))(hb:Binds X.K fd ps ds)(hd:Vals kT ds)(hx:Bm CX X E)
  (ha:PA X (e ::es) t) (hdb:(x ==("__debug__":Str))=false:=by decide) (he:starEach (e ::es) X.env=(false,eval e X.env) ::starEach es X.env:=by rfl) (hpl:(backTo pos (starEach es X.env)).any (·.1)=false:=by rfl) :
  PE X (.Call (.Name x p) (e ::es) [] pos) (xC C sp kT E t):=by
 intro pins s σ H Q I h;refine aX6 (Pr I hg hm ?_ hdb);refine W.callWith_K (h₀:=X.base) I.ok.mod.Dr M.kp (pK (ha pos pins s σ H _ I h) λus s1 vs H1 I1 r q=>(I1.gV,?_,)) he hpl;exact Yc M F hr hb hd hx I1 r q
end
structure d8(N P:List Str)(sc:Scope):Prop where
 kind:sc.kind=.function
 co:sc.isCoroutine=false
 gen:sc.isGenerator=false
 nd:N.Nodup
 pre:N.take P.length=P
 par:∀x∈P,sc.names.lookup x=!.local\/sc.names.lookup x=!.cell
 zF:∀y∈sc.names,y.2≠.free
theorem QG{kindOf:Str->Option NameKind}{x:Str}:∀{binds:List (Str×Value)}{m:Str->Option Value},(∀v,(x,v)∉binds)->bindL kindOf binds m x=m x
 | [],_,_=>rfl
 |(n,v) ::r,m,h=>by
  unfold bindL;rw[QG λw hw=>h w (aq4 _ hw)];split
  .have:x≠n:=by rintro rfl;exact h v anL
   simp[this]
  .rfl
theorem QF{kindOf:Str->Option NameKind}{x:Str}:∀{binds:List (Str×Value)}{m:Str->Option Value},(∀v,(x,v)∉binds)->bindC kindOf binds m x=m x
 | [],_,_=>rfl
 |(n,v) ::r,m,h=>by
  unfold bindC;rw[QF λw hw=>h w (aq4 _ hw)];split
  .rfl
  .have:x≠n:=by rintro rfl;exact h v anL
   simp[this]
theorem QE{kindOf:Str->Option NameKind}{x:Str}{v:Value}:∀{P:List Str}{vs:List Value}{i:Nat}{m:Str->Option Value},P.Nodup->P[i]?=!x->vs[i]?=!v->kindOf x=!.local ->
  bindL kindOf (P.zip vs) m x=!v
 | [],_,_,_,_,h,_,_=>by simp at h
 |_ ::_,[],_,_,_,_,h,_=>by simp at h
 |p ::P,w ::vs,0,m,nd,h1,h2,hk=>by
  simp at h1 h2;subst h1;subst h2;show bindL kindOf ((p,w) ::P.zip vs) m p=_;unfold bindL;rw[QG λv hv=>(aZf.mp nd).1 (List.of_mem_zip hv).1,ahF hk];simp
 |p ::P,w ::vs,i+1,m,nd,h1,h2,hk=>by
  show bindL kindOf ((p,w) ::P.zip vs) m x=_;unfold bindL;exact QE (i:=i) (aZf.mp nd).2 (by simpa using h1) (by simpa using h2) hk
theorem QD{kindOf:Str->Option NameKind}{x:Str}{v:Value}:∀{P:List Str}{vs:List Value}{i:Nat}{m:Str->Option Value},P.Nodup->P[i]?=!x->vs[i]?=!v->kindOf x≠!.local ->
  bindC kindOf (P.zip vs) m x=!v
 | [],_,_,_,_,h,_,_=>by simp at h
 |_ ::_,[],_,_,_,_,h,_=>by simp at h
 |p ::P,w ::vs,0,m,nd,h1,h2,hk=>by
  simp at h1 h2;subst h1;subst h2;show bindC kindOf ((p,w) ::P.zip vs) m p=_;unfold bindC;rw[QF λv hv=>(aZf.mp nd).1 (List.of_mem_zip hv).1,aah hk];simp
 |p ::P,w ::vs,i+1,m,nd,h1,h2,hk=>by
  show bindC kindOf ((p,w) ::P.zip vs) m x=_;unfold bindC;exact QD (i:=i) (aZf.mp nd).2 (by simpa using h1) (by simpa using h2) hk
noncomputable def start(N:List Str)(vs:List V):St:=vs.map some++List.replicate (N.length-vs.length) none
noncomputable def ng(CX:vH)(P:Program)(w:World)(K:W.Frag)(mg:Str->Option Value)(base:Heap)(N:List Str)(qual:Str)(scope:Scope)(f:Addr)(cd:Value)(A:Around)(outer:List Env)(s:Shared)(H:Hp)(E:XK):Cx where
 prog:=P
 w:=w
 K:=K
 mg:=mg
 base:=base
 A:=A.deeper (envOfC qual scope s.heap.objs.size f cd)
 N:=N
 s₀:=s
 H₀:=H
 env:=envOfC qual scope s.heap.objs.size f cd
 outer:=outer
 stack:=envOfC qual scope s.heap.objs.size f cd ::outer
 ex:=[]
 calm:=true
 fn:=λ_=>true
 pn:=[]
 xe:=λe s'=>wpAny (model P w) (A.deeper (envOfC qual scope s.heap.objs.size f cd)) (leaving (envOfC qual scope s.heap.objs.size f cd) e) (λ_ s''=>CX outer H s E e s'') (λe' s''=>CX outer H s E e' s'') s'
theorem PN{sc:Scope}{n:Nat}{x:Str}(h:sc.names.lookup x=!.cell):∃c,(cellsFrom n sc.names []).lookup x=!c:=by
 have q:=W.cellsFrom_some sc.names n [] (.inl h);exact Option.isSome_iff_exists.mp q
theorem ZgQ{CX:vH}{P:Program}{w:World}{K:W.Frag}{mg:Str->Option Value}{base:Heap}{N ps:List Str}{qual:Str}{scope:Scope}{f:Addr}{cd:Value}{A:Around}{outer:List Env}{s s1:Shared}{H:Hp}{E:XK}{us:List Value}{vs:List V}
  (S:d8 N ps scope) (hd:A.handled=none) (e0:pI P w K mg base A outer s H) (hl:vs.length=ps.length) (r:Vals vs us)
  (x:InCallC s s.heap.objs.size (bindL (envOfC qual scope s.heap.objs.size f cd).kindOf (ps.zip us) λ_=>none) (cellsFrom (s.heap.objs.size+1) scope.names []) (bindC (envOfC qual scope s.heap.objs.size f cd).kindOf (ps.zip us) λ_=>none) s1) :
  Inv (ng CX P w K mg base N qual scope f cd A outer s H E) [] (start N vs) H s1:=by
 have hpl:ps.length<=N.length:=by have:=aFH List.length S.pre;rw[bby]at this;lia
 let(h1,tk,rfl,hk,):=x.done;have zG:∀b:Addr,b∉(ng CX P w K mg base N qual scope f cd A outer s H E).ex:=λb z=>absurd (show b∈([]:List Addr) from z) 5;refine((e0.mod,S.kind,8,8,bbI _,λy z c h1 h2=>?_,λy hy=>?_,λy c _ h=>?_,λ_=>hd,Around.frames_deeper e0.frames,.inr (8,8,),λb z=>absurd z (zG b),e0.bs,e0.vt,λb _ _=>zG b,λb z=>absurd z (zG b),e0.gX,e0.Ae,),
  8,e0.bare,Un.kept hk,(_,x.toInCall.ns,λi y v h1 h2 h3=>?_,),λy c h=>(_,x.cell y c h,),e0.hok.fresh (bbI _),λy c h=>?_,λp hp=>absurd (show p∈([]:List (Addr×Obj)) from hp) 5,e0.hok.kept hk,?_,)
 .exact name_of_addr x.apart (apz h1) (apz h2)
 .have hy:scope.names.lookup y=!.cell\/scope.names.lookup y=!.free:=hy;rcases hy with hy|hy
  .exact PN hy
  .exact absurd 8 (S.zF _ (apz hy))
 .exact aWE (x.above y c (apz h))
 .have hi:i<vs.length:=by
   unfold start at h2;by_cases hi:i<vs.length
   .exact hi
   .rw [a9d (by simpa using hi)]at h2;rw[List.getElem?_replicate]at h2;split at h2 <;> cases h2
  have ha:vs[i]?=!v:=by
   unfold start at h2;rw[ah8 (by simpa using hi),aGb]at h2;cases e:vs[i]? with
   |none=>rw[e]at h2;cases h2
   |some a=>rw[e]at h2;cases h2;rfl
  let(u,hu,rv,):=r.get ha;have hp:ps[i]?=!y:=by
   rw[<-S.pre,List.getElem?_take_of_lt 7];exact h1
  have MN:ps.Nodup:=by rw[<-S.pre];exact S.nd.sublist (List.take_sublist _ _)
  refine(u,rv,?_,);rcases S.par y (aE5 hp) with k|k
  .exact .inl (k,QE MN hp hu k,)
  .let(c,e,):=PN (n:=s.heap.objs.size+1) k;refine .inr (.inl k,c,e,?_,);have q:=x.cell y c e;rw[QD MN hp hu (by show scope.names.lookup y≠_;rw[k];decide)]at q;exact q
 .exact e0.hok.fresh (aWE (x.above y c (apz h)))
 .unfold start;show _=N.length;rw[a96,ano,List.length_replicate];lia
theorem yt{CX:vH}{P:Program}{w:World}{K:W.Frag}{mg:Str->Option Value}{base:Heap}{k:Nat}{f:Addr}{name qual:Str}{params:Arguments}{body:List Stmt}{scope:Scope}{dV kV doc pm cdv ct oc:Value}{an od:Option Addr}
  {osl:Array (Option Value)} {N ps:List Str} {sp:Sp} (lk:K.lookup f=!(oc,od,.func (W.fnOf name qual params body scope dV kV doc pm an cdv ct),osl,)) (hcd:W.codeIn K cdv qual=true) (S:d8 N ps scope)
  (len:∀vs H Q E,sp vs H Q E->vs.length=ps.length)
  (hbody:∀(A:Around)(outer:List Env)(s:Shared)(H:Hp)(vs:List V)(Q:VK)(E:XK),bg k (A.deeper (envOfC qual scope s.heap.objs.size f cdv))->sp vs H Q E ->
   ∃t,qw (ng CX P w K mg base N qual scope f cdv A outer s H E) body t/\t { nx:=λ_ H'=>Q .aE H',rt:=Q } (start N vs) H) :
  cN P w K mg base CX (k+1) f (W.fnOf name qual params body scope dV kV doc pm an cdv ct) ps sp:=by
 refine(len,λA outer s H args us vs Q E hr e0 hb r vf=>?_,);have hl:=len _ _ _ _ vf;have KX:K.In s.heap:=e0.mod.Dr.keeps λb o e=>(e0.bs b o e).1;have lim:s.heap.NoLimit:=e0.mod.nolimit.keeps λb o e=>(e0.bs b o e).1;have hkind:∀y∈ps.zip us,scope.names.lookup y.1=!.local\/(scope.names.lookup y.1=!.cell/\((cellsFrom (s.heap.objs.size+1) scope.names []).lookup y.1).isSome=true):=λ(n,v,) hy=>by
  rcases S.par n (List.of_mem_zip hy).1 with q|q
  .exact .inl q
  .exact .inr (q,W.cellsFrom_some _ _ _ (.inl q),)
 refine codeAny_call_function hr.depth (KX _ _ lk) 8 S.co S.gen 8 (W.codeRec_of KX hcd) (hb _ _ _ _ ?_);refine wpAny_newFunctionEnv_cells S.kind hkind λenv he s1 x=>?_;subst he;refine(lim.keeps x.toInCall.keep,codeAny_func ?_,);let(t,ht,hq,):=hbody A outer s H vs Q E (hr.deeper _) vf;have I:Inv (ng CX P w K mg base N qual scope f cdv A outer s H E) [] (start N vs) H s1:=ZgQ S hr.hd e0 hl r x;refine aP5 (ht [] s1 (start N vs) H _ I hq) (λfl s' hs=>?_) λe s' hs=>hs;have fin:∀{σ':St}{H':Hp}{v:V}{u:Value},Inv (ng CX P w K mg base N qual scope f cdv A outer s H E) [] σ' H' s'->RelV v u->Q v H'->CE outer P w H s Q u s':=
  λ{σ' H' v u} J rv q=>(v,H',J.os,J.bare,J.base,J.hok,rv,q,)
 cases fl with
 |ret u=>
  let(v,σ',H',J,rv,q,):=hs;exact fin J rv q
 |next=>
  let(σ',H',J,q,):=hs;exact fin (v:=V.aE) (u:=Value.none) J 8 q
 |brk=>
  let(_,_,_,q,):=hs;exact False.elim q
 |cont=>
  let(_,_,_,q,):=hs;exact False.elim q
section
variable{X:Cx}{x:Str}{p pos:Pos}{e:Expr}{es:List Expr}{t:TA}{id T:String}{r:List V->Hp->VK->Prop}
def FE(r:List V->Hp->VK->Prop)(t:TA):TE:=λσ H Q=>t σ H λvs H1=>r vs H1 Q
theorem Yb(hc:bx X (.builtin id) r)(hg:Gl X x)(hm:X.mg x=none)(hv:bootBuiltins x=!(.builtin id))(ha:PA X (e ::es) t)(hn:x ≠ "__name__":=by decide)(hdb:(x ==("__debug__":Str))=false:=by decide)
  (he:starEach (e ::es) X.env=(false,eval e X.env) ::starEach es X.env:=by rfl) (hpl:(backTo pos (starEach es X.env)).any (·.1)=false:=by rfl):PE X (.Call (.Name x p) (e ::es) [] pos) (FE r t):=by
 intro pins s σ H Q I h;refine aX6 (vz I hg hm hv ?_ hn hdb);exact PyProof.Rows.callWith_builtin1 (pK (ha pos pins s σ H _ I h) λus s1 vs H1 I1 r1 q1=>hc pins s1 σ H1 vs us Q I1 r1 q1) he hpl
theorem ZgR(hc:bx X (.type T) r)(hg:Gl X x)(hm:X.mg x=none)(hv:bootBuiltins x=!(.type T))(ha:PA X (e ::es) t)(hn:x ≠ "__name__":=by decide)(hdb:(x ==("__debug__":Str))=false:=by decide)
  (he:starEach (e ::es) X.env=(false,eval e X.env) ::starEach es X.env:=by rfl) (hpl:(backTo pos (starEach es X.env)).any (·.1)=false:=by rfl):PE X (.Call (.Name x p) (e ::es) [] pos) (FE r t):=by
 intro pins s σ H Q I h;refine aX6 (vz I hg hm hv ?_ hn hdb);exact akj (pK (ha pos pins s σ H _ I h) λus s1 vs H1 I1 r1 q1=>hc pins s1 σ H1 vs us Q I1 r1 q1) he hpl
end
end L2
namespace HT
open PySem PyProof.Rows
noncomputable def lexLt:List Int->List Int->Bool
 | [],[]=>false
 | [],_ ::_=>true
 |_ ::_,[]=>false
 |x ::xs,y ::ys=>if x=y then lexLt xs ys else decide (x<y)
theorem aP(x y:Int)(xs ys:List Int):lexLt (x ::xs) (y ::ys)=if x=y then lexLt xs ys else decide (x<y):=rfl
theorem cM:lexLt [] []=false:=rfl
theorem Q5(y:Int)(ys:List Int):lexLt [] (y ::ys)=true:=rfl
theorem bf(x:Int)(xs:List Int):lexLt (x ::xs) []=false:=rfl
theorem PM(A:Around)(s:Shared)(a:Int)(t:Tok)(c:Int)(u:Tok):∃e,SeqAt.EqAt A s (.int a t) (.int c u) e/\(e=true↔a=c):=
 ((a ==c),SeqAt.EqAt.int_int a t c u,5,)
theorem X8(A:Around)(s:Shared)(a:Int)(t:Tok)(c:Int)(u:Tok)(prog:Program)(w:World)(E:Value->Shared->Prop)(Q:Value->Shared->Prop)(h:Q (.bool (decide (a<c))) s) :
  wpAny (model prog w) A (richCompare .Lt (.int a t) (.int c u)) Q E s:=
 (PyProof.Rows.lt_int h:wpAny (model prog w) A (compareOp .Lt (.int a t) (.int c u)) Q E s)
section
open PySem.SeqAt
open PySem.AutoSeq1 (wpAny_loadPart')
open PySem.MeetsSeq PySem.MeetsSeq2 PySem.MeetsSeq3
theorem Zdf(l b:Addr)(items items2:Array Value)(n n2:Nat)(dd dd2:Option Addr)(sl sl2:Array (Option Value))(ns ms:List Int)(hi:IntsAre items.toList ns)(hj:IntsAre items2.toList ms) :
  Meets (Builtin.«tuple.__lt__» ([.ref l,.ref b],[],))
   (λ_ R s=>s.heap.get? l=!{ cls:=.type "tuple",dict:=dd,data:=.seq items n,slots:=sl }/\s.heap.get? b=!{ cls:=.type "tuple",dict:=dd2,data:=.seq items2 n2,slots:=sl2 } /\
    R (.ok (.ret (.bool (lexLt ns ms)))) s):=
 .of_wp λprog w A R s h=>by
  let(hp,g,d,tk,os,):=s;let(hl,hb,h,):=h;have f2:=AutoSeq1.sub_tuple_tuple;have z1:items.size=ns.length:=by rw[<-hi.length];simp
  have z2:items2.size=ms.length:=by rw[<-hj.length];simp
  wp_walk using wpAny_loadPart' hl,wpAny_loadPart' hb,wpAny_forIn_list _ (λrest b s'=>b.1=none/\s'=(hp,g,d,tk,os,)/\∃(vs ws:List Value)(ns' ms':List Int),rest=vs.zip ws /\
   IntsAre vs ns'/\IntsAre ws ms'/\ns'.length+items2.size=ms'.length+items.size/\R (.ok (.ret (.bool (lexLt ns' ms')))) (hp,g,d,tk,os,)) _
  case turn=>
   rintro⟨y,x⟩ rest b s' ⟨hb',rfl,vs,ws,ns',ms',hz,zT,hwi,hlen,hR⟩;cases zT with
   |nil=>rw[List.zip_nil_left]at hz;cases hz
   |cons a t zS=>
    cases hwi with
    |nil=>rw[List.zip_nil_right]at hz;cases hz
    |cons c u zR=>
     rw[awQ]at hz;injection hz with hyx hrest
     injection hyx with hy hx
     subst hy hx;rw[aP]at hR;simp only[acz]at hlen;let(e,he,hiff,):=PM A.in1 (hp,g,d,tk,os,) a t c u;refine aTi (he prog w _ _ ?_);cases e with
     |true=>
      rw[ahF (hiff.mp 8)]at hR
      wp_walk
      exact(212,hrest,zS,zR,7,hR,)
     |false=>
      rw[aah (λq=>absurd (hiff.mpr q) aJD)]at hR;have JD:=X8 A.in1 (hp,g,d,tk,os,) a t c u prog w
      wp_walk using JD
      exact(_,8,by simpa using hR,)
  case fin=>
   rintro⟨b1,b2⟩ s' ⟨hb',rfl,vs,ws,ns',ms',hz,zT,hwi,hlen,hR⟩;simp only at hb';subst hb';have hv:lexLt ns' ms'=decide (items.size<items2.size):=by
    cases zT with
    |nil=>
     cases hwi with
     |nil=>
      simp only[acg]at hlen;rw[cM];exact(alG 7).symm
     |cons c u hw=>
      simp only[acg,acz]at hlen;rw[Q5];exact(anN 7).symm
    |cons a t hv=>
     cases hwi with
     |nil=>
      simp only[acg,acz]at hlen;rw[bf];exact(alG 7).symm
     |cons c u hw=>
      rw[awQ]at hz;cases hz
   rw[hv]at hR
   wp_walk
   exact(_,8,by simpa[Builtin.Tuple.tupleCompareSizes]using hR,)
  case h=>
   exact(8,8,items.toList,items2.toList,ns,ms,8,hi,hj,7,h,)
end
section
variable{prog:Program}{w:World}{A:Around}{E:Value->Shared->Prop}{s:Shared}
theorem oU{l b:Addr}{items items2:Array Value}{ns ms:List Int}{Q:Value->Shared->Prop}(hl:IsTup s.heap l items)(hb:IsTup s.heap b items2)(hi:IntsAre items.toList ns)(hj:IntsAre items2.toList ms)
  (hu:A.units<cLine) (h:Q (.bool (lexLt ns ms)) s):wpAny (model prog w) A (compareOp .Lt (.ref l) (.ref b)) Q E s:=by
 let((cls,dd,data,sl,),ho,hc,n,hd,):=id hl;let((Kn,dd2,data2,sl2,),ho2,hc2,n2,hd2,):=id hb;simp only at hc hd hc2 hd2;subst hc hd hc2 hd2;exact richCompare_meets_room (op:=.Lt) (_,ho,8,) (_,ho2,8,) PySem.F.slot_tuple_lt PySem.F.entry_tuple_lt (PySem.F.args_tuple_lt_2 _ _) (Zdf l b items items2 n n2 dd dd2 sl sl2 ns ms hi hj)
  (ho,ho2,show Value.bool (lexLt ns ms)≠Value.notImplemented/\Q (.bool (lexLt ns ms)) s from((λx=>nomatch x),h,),) hu
noncomputable def gi(n d:Nat):Option Int->Nat
 |none=>d
 |some v=>if v<0 then(v+(n:Int)).toNat else min v.toNat n
theorem mF(n d:Nat):gi n d none=d:=rfl
theorem ko(n d k:Nat):gi n d (!(k:Int))=min k n:=by
 show(if(k:Int)<0 then((k:Int)+(n:Int)).toNat else min (k:Int).toNat n)=min k n;rw[aah 7,agi]
end
end HT
namespace L2
open PySem PySem.Spec PyProof.Rows
noncomputable abbrev TO:=St->Hp->(Option Int->Hp->Prop)->Prop
def PO(X:Cx)(e:Option Expr)(t:TO):Prop:=
 ∀(pins:List (Addr×Obj))(s:Shared)(σ:St)(H:Hp)(Q:Option Int->Hp->Prop),Inv X pins σ H s->t σ H Q ->
  wpAny (model X.prog X.w) X.A (evalPart e X.env) (λu s'=>∃o H',Inv X pins σ H' s'/\IsPart u o/\Q o H') X.xe s
def W4:TO:=λ_ H Q=>Q none H
inductive yw (Q:Option Int->Hp->Prop)(x:V)(H1:Hp):Prop
 |mk (i:Int):x=.int i->Q (!i) H1->yw Q x H1
def BZ(t:TE):TO:=λσ H Q=>t σ H (yw Q)
theorem EX{ns:List Int}:∀{us:List Value},Vals (ns.map V.int) us->IntsAre us ns:=by
 induction ns with
 |nil=>intro us r;rw[map_nil]at r;cases r;exact .nil
 |cons n ns ih=>
  intro us r;rw[aQv]at r;cases r with
  |cons r1 r2=>
   let(t,e,):=r1;subst e;exact .cons n t (ih r2)
section
variable{X:Cx}{e:Expr}{te:TE}{lo hi:Option Expr}{tl th:TO}{pos p2:Pos}
theorem ZI:PO X none W4:=by
 intro pins s σ H Q I h;rw[evalPart_none];exact ak8 (none,H,I,.none,h,)
theorem ZE(h:PE X e te):PO X (!e) (BZ te):=by
 intro pins s σ H Q I hw;rw[evalPart_some];refine cO (h pins s σ H _ I hw) λu s1 x H1 I1 r1 q1=>?_;let(i,rfl,q,):=q1;let(t,rfl,):=r1;exact(!i,H1,I1,.int i t,q,)
def LZ(X:Cx)(r:V->Option Int->Option Int->Hp->VK->Prop):Prop:=
 ∀(pins:List (Addr×Obj))(s:Shared)(σ:St)(H:Hp)(x:V)(v vl vu:Value)(lo hi:Option Int)(sl:Addr)(Q:VK),Inv X pins σ H s->RelV x v->s.heap.IsSliceOf sl vl vu .none->IsPart vl lo->IsPart vu hi->r x lo hi H Q ->
  ∃T id,typeLookup (.type T) "__getitem__"=pure (!(.builtin id))/\s.TypeIs v T/\wpAny (model X.prog X.w) X.A (getItem v (.ref sl)) (EP X pins σ Q) X.xe s
def Sk(r:V->Option Int->Option Int->Hp->VK->Prop)(te:TE)(tl th:TO):TE:=λσ H Q=>te σ H λx H1=>tl σ H1 λl H2=>th σ H2 λu H3=>r x l u H3 Q
theorem ZK{r:V->Option Int->Option Int->Hp->VK->Prop}(hr:LZ X r)(he:PE X e te)(hl:PO X lo tl)(hu:PO X hi th):PE X (.Subscript e (.Slice lo hi none p2) pos) (Sk r te tl th):=by
 intro pins s σ H Q I h;refine Subscript_ (cO (he pins s σ H _ I h) λv s1 x H1 I1 r1 q1=>?_);refine wpAny_Slice (bI (hl pins s1 σ H1 _ I1 q1) λvl s2 (l,H2,I2,pl,q2,)=>bI (hu pins s2 σ H2 _ I2 q2) λvu s3 (u,H3,I3,pu,q3,)=>?_);rw[evalPart_none];refine ak8 ?_;have I4:Inv X pins σ H3 { s3 with heap:=s3.heap.push { cls:=.type "slice",data:=.fields #[vl,vu,.none] } }:=I3.kept (t':=s3.toks) λb ob q=>aJV _ q;let(T,id,hT,ht,hg,):=hr pins { s3 with heap:=s3.heap.push { cls:=.type "slice",data:=.fields #[vl,vu,.none] } } σ H3 x v vl vu l u s3.heap.objs.size Q I4 r1 (Heap.IsSliceOf.new ..) pl pu q3;show wpAny (model X.prog X.w) X.A (subscriptTail e (.Slice lo hi none p2) v (.ref s3.heap.objs.size)) (EP X pins σ Q) X.xe { s3 with heap:=s3.heap.push { cls:=.type "slice",data:=.fields #[vl,vu,.none] } };exact tail_any (ops:=[.ref s3.heap.objs.size,v]) ht hT hg (by with_unfolding_all rfl)
noncomputable def ao(xs:List V)(lo hi:Option Int):List V:=(xs.drop (HT.gi xs.length 0 lo)).take (HT.gi xs.length xs.length hi-HT.gi xs.length 0 lo)
theorem Au(xs:List V)(lo hi:Option Int):(ao xs lo hi).length<=xs.length:=by
 unfold ao;rw[bby,aPq];lia
end
noncomputable def qU(n:Nat)(i:Int):Option Nat:=if 0<=i then(if i<n then some i.toNat else none) else if -(n:Int)<=i then some (i+n).toNat else none
noncomputable def cV{α:Type}(xs:List α)(i:Int):Option α:=(qU xs.length i).bind λj=>xs[j]?
theorem Pn{n:Nat}{i:Int}{j:Nat}(h:qU n i=!j):seqIndex? i n=!j/\j<n /\ -(n:Int)<=i/\i<n:=by
 unfold qU at h;by_cases h0:0<=i
 .rw [ahF h0]at h;by_cases h1:i<n
  .rw [ahF h1]at h;have e:i.toNat=j:=aFB h;exact(by rw[seqIndex_of h0 h1,e],7,7,h1,)
  .rw [aah h1]at h;cases h
 .rw [aah h0]at h;by_cases h1: -(n:Int)<=i
  .rw [ahF h1]at h;have e:(i+n).toNat=j:=aFB h;exact(by rw[seqIndex_neg 7 h1,e],7,h1,7,)
  .rw [aah h1]at h;cases h
theorem W3{α:Type}{xs:List α}{i:Int}{v:α}(h:cV xs i=!v):∃j,seqIndex? i xs.length=!j/\xs[j]?=!v/\j<xs.length /\ -(xs.length:Int)<=i/\i<xs.length:=by
 unfold cV at h;cases e:qU xs.length i with
 |none=>rw[e]at h;cases h
 |some j=>
  rw[e]at h;let(h1,h2,h3,h4,):=Pn e;exact(j,h1,h,h2,h3,h4,)
theorem ZY{α:Type}{xs:List α}{j:Nat}{v:α}(h:xs[j]?=!v):cV xs (j:Int)=!v:=by
 have hj:j<xs.length:=(aFR.mp h).1;have e:qU xs.length (j:Int)=!j:=by
  unfold qU;rw[ahF 7,ahF 7];simp
 unfold cV;rw[e];exact h
theorem PL{α:Type}(xs:List α)(v:α):cV (xs++[v]) (-1)=!v:=by
 have hl:(xs++[v]).length=xs.length+1:=5
 have e:qU (xs++[v]).length (-1)=!xs.length:=by
  unfold qU;rw[hl,aah 9,ahF 7];congr 1
  lia
 unfold cV;rw[e];show(xs++[v])[xs.length]?=!v;simp
def W2(b:Expr):Prop:=∀o i,subscripted b false o i=operate [o,i] (getItem o i)
def L8(X:Cx)(r:R2):Prop:=
 ∀(value slice:Expr)(pins:List (Addr×Obj))(s:Shared)(σ:St)(H:Hp)(x y:V)(v u:Value)(Q:VK),Inv X pins σ H s->RelV x v->RelV y u->r x y H Q ->
  subscripted slice false v u=operate [v,u] (getItem v u)->wpAny (model X.prog X.w) X.A (subscriptTail value slice v u) (EP X pins σ Q) X.xe s
def MtR(X:Cx)(id:String)(r:V->List V->Hp->VK->Prop):Prop:=
 ∀(pins:List (Addr×Obj))(s:Shared)(σ:St)(H:Hp)(x:V)(xs:List V)(v:Value)(us:List Value)(Q:VK),Inv X pins σ H s->RelV x v->Vals xs us->r x xs H Q ->
  wpAny (model X.prog X.w) X.A (call (.builtin id) (v ::us)) (EP X pins σ Q) X.xe s
section
variable{X:Cx}{a b:Expr}{ta tb:TE}{pos:Pos}
theorem av{r:R2}(hr:L8 X r)(ha:PE X a ta)(hb:PE X b tb)(hs:W2 b):PE X (.Subscript a b pos) (FA r ta tb):=by
 intro pins s σ H Q I h;exact Subscript_ (Ai ha hb I h λv u s2 x y H2 I2 rx ry q=>hr a b pins s2 σ H2 x y v u Q I2 rx ry q (hs _ _))
inductive zk(K:W.Frag)(x:V)(y:V)(H:Hp)(Q:VK):Prop
 |mk (p xs i v:_):x=.ref p->y=.int i->ah K H p xs->cV xs i=!v->Q v H->zk K x y H Q
theorem W0:L8 X (zk X.K):=by
 intro value slice pins s σ H x y v u Q I rx ry h hs;let(p,xs,i,z,rfl,rfl,hq,he,q,):=h;cases rx;let(t,rfl,):=ry;let(its,r,pl,hz,):=I.list hq;let(j,h1,h2,h3,h4,h5,):=W3 he;let(w,ew,rw',):=r.get h2;have hl:=r.length;have hn:=GN;have fin:EP X pins σ Q w s:=(z,H,I,rw',q,);by_cases h0:0<=i
 .have hj:i.toNat=j:=by
   rw[seqIndex_of h0 h5]at h1;exact aFB h1
  exact item_listR pl.isList h0 7 (by rw[hj];simpa using ew) fin hs
 .have hj:(i+(its.toArray.size:Int)).toNat=j:=by
   rw[seqIndex_neg 7 h4]at h1;rw[a3v,<-hl];exact aFB h1
  exact subscriptTail_builtinR (x:=w) pl.isList.typeIs slot_list_getitem.lookup
   (wpAny_getItem_list_neg (Q:=λr s'=>r=w/\EP X pins σ Q r s') pl.isList 7 (by rw[a3v] <;> lia) 7 (by rw[hj];simpa using ew) (8,fin,)) hs
theorem Y6(its:List Value)(n j:Nat)(u:Value):Obj.mapSeq (·.setIfInBounds j u) { cls:=.type "list",data:=.seq its.toArray n }={ cls:=.type "list",data:=.seq (its.set j u).toArray n }:=by
 simp[Obj.mapSeq]
theorem Inv.lst{pins:List (Addr×Obj)}{σ:St}{H:Hp}{s:Shared}{p:Addr}{xs:List V}(I:Inv X pins σ H s)(h:H p=!(.lst xs)) :
  ∃(its:List Value)(n:Nat),Vals xs its/\s.heap.get? p=!{ cls:=.type "list",data:=.seq its.toArray n }/\xs.length<=sizeLine:=by
 let(z,its,n,r,e,):=I.hok p _ h;exact(its,n,r,e,z,)
theorem Inv.zL{pins:List (Addr×Obj)}{σ:St}{H:Hp}{s:Shared}{p:Addr}{xs ys:List V}{its its':List Value}{n n':Nat}{f:Obj->Obj}(I:Inv X pins σ H s)(h:H p=!(.lst xs))
  (ho:s.heap.get? p=!{ cls:=.type "list",data:=.seq its.toArray n }) (hf:f { cls:=.type "list",data:=.seq its.toArray n }={ cls:=.type "list",data:=.seq its'.toArray n' }) (r:Vals ys its') (hz:ys.length<=sizeLine) (t:Nat) :
  Inv X pins σ (upd H p (.lst ys)) { s with heap:=s.heap.update p f,toks:=t }:=by
 have e:(s.heap.update p f).get? p=!{ cls:=.type "list",data:=.seq its'.toArray n' }:=by
  rw[aYT f ho (by rw[hf] <;> rfl),hf]
 refine I.write (x:=p) (e:=p) (by rw[h];trivial) (.inl 8) (λb u hb q=>(ahb _ _ (aUP hb)).trans q) (_,e,) ?_;exact(hz,its',n',r,e,)
def Cz:V->V->V->Hp->(Hp->Prop)->Prop:=λo i v H Q=>∃p xs k j,o=.ref p/\i=.int k/\H p=!(.lst xs)/\qU xs.length k=!j/\Q (upd H p (.lst (xs.set j v)))
theorem Bx:E5 X Cz:=by
 intro pins s σ H o i v ov iv u Q I ro ri rv h;let(p,xs,k,j,rfl,rfl,hp,hj,q,):=h;cases ro;let(t,rfl,):=ri;let(its,n,r,ho,hz,):=I.lst hp;let(h1,h2,h3,h4,):=Pn hj;have hl:=r.length;have hn:=GN;have I':Inv X pins σ (upd H p (.lst (xs.set j v))) { s with heap:=s.heap.update p (Obj.mapSeq (·.setIfInBounds j u)) }:=
  I.zL hp ho (Y6 its n j u) (r.set rv j) (by rw[length_set];exact hz) s.toks
 by_cases h0:0<=k
 .have hk:k.toNat=j:=by
   rw[seqIndex_of h0 h4]at h1;exact aFB h1
  exact W.ki_setAt ho h0 7 (by rw[a3v,<-hl];exact h4) (by rw[hk];exact(_,I',q,))
 .have hk:(k+(its.toArray.size:Int)).toNat=j:=by
   rw[seqIndex_neg 7 h3]at h1;rw[a3v,<-hl];exact aFB h1
  exact W.ki_setBack ho 7 (by rw[a3v,<-hl];exact h3) 7 (by rw[hk];exact(_,I',q,))
theorem ZdU(lo hi:Option Int)(n:Nat):(sliceBounds lo hi none n).1=((HT.gi n 0 lo:Nat):Int)/\(sliceBounds lo hi none n).2.1=((HT.gi n n hi:Nat):Int)/\(sliceBounds lo hi none n).2.2=1:=by
 refine(?_,?_,8,)
 .cases lo with
  |none=>simp[sliceBounds,HT.gi]
  |some i=>
   simp only[sliceBounds,HT.gi,Option.getD_none,show(1:Int)>0 by decide,an9];by_cases h:i<0
   .simp only[h,an9] <;> lia
   .simp only[h,aGD] <;> lia
 .cases hi with
  |none=>simp[sliceBounds,HT.gi]
  |some i=>
   simp only[sliceBounds,HT.gi,Option.getD_none,show(1:Int)>0 by decide,an9];by_cases h:i<0
   .simp only[h,an9] <;> lia
   .simp only[h,aGD] <;> lia
theorem Zdg(its:List Value)(lo hi:Option Int):slicePick its.toArray lo hi none=((its.drop (HT.gi its.length 0 lo)).take (HT.gi its.length its.length hi-HT.gi its.length 0 lo)).toArray:=by
 let(h1,h2,h3,):=ZdU lo hi its.toArray.size;unfold slicePick;rw[h1,h2,h3];simp only[sliceRange_one,pick_run,a3v] <;> rfl
inductive zj(K:W.Frag)(x:V)(lo:Option Int)(hi:Option Int)(H:Hp)(Q:VK):Prop
 |mk (a xs:_):x=.ref a->ah K H a xs->(∀p,H p=none->Q (.ref p) (upd H p (.lst (ao xs lo hi))))->zj K x lo hi H Q
theorem WZ:LZ X (zj X.K):=by
 intro pins s σ H x v vl vu lo hi sl Q I rx hs pl pu h;let(a,xs,rfl,hx,q,):=h;cases rx;let(its,r,ht,hz,):=I.list hx;have hlen:=r.length;refine("list",_,slot_list_getitem.lookup,ht.isList.typeIs,?_,);refine wpAny_getItem_list_slice ht.isList hs pl pu .none 5 ?_ (by rw[a3v] <;> lia);rw[Zdg,<-hlen];refine(.ref s.heap.objs.size,_,I.laid (t':=s.toks) (o:=.lst (ao xs lo hi)) (λb ob q=>aJV _ q) (bbI _) ?_,8,q _ (I.hok.fresh (bbI _)),);exact(bbd (Au xs lo hi) hz,_,0,(r.drop (HT.gi xs.length 0 lo)).take (HT.gi xs.length xs.length hi-HT.gi xs.length 0 lo),aQ0 _ 8,)
noncomputable def bR:V->Bool
 | .aE=>true
 | .bl _=>true
 | .int _=>true
 | .str _=>true
 |_=>false
noncomputable def qZ:V->V->Bool
 | .aE,.aE=>true
 | .bl a,.bl b=>a ==b
 | .bl a,.int b=>(if a then 1 else 0) ==b
 | .int a,.bl b=>a ==(if b then 1 else 0)
 | .int a,.int b=>a ==b
 | .str a,.str b=>a ==b
 |_,_=>false
theorem K0{A:Around}{s:Shared}{y x:V}{u v:Value}(ry:RelV y u)(rx:RelV x v)(fy:bR y=true)(fx:bR x=true):SeqAt.EqAt A s u v (qZ y x):=by
 cases y with
 |aE=>
  cases ry;cases x with
  |aE=>cases rx;exact SeqAt.EqAt.same _
  |bl b=>cases rx;exact SeqAt.EqAt.none_bool b
  |int b=>let(t,rfl,):=rx;exact SeqAt.EqAt.none_int b t
  |str b=>let(t,rfl,):=rx;exact SeqAt.EqAt.none_str b t
  |_=>exact absurd (show false=true from fx) aJD
 |bl a=>
  cases ry;cases x with
  |aE=>cases rx;exact SeqAt.EqAt.bool_none a
  |bl b=>cases rx;exact SeqAt.EqAt.bool_bool a b
  |int b=>let(t,rfl,):=rx;exact SeqAt.EqAt.bool_int a b t
  |str b=>let(t,rfl,):=rx;exact SeqAt.EqAt.bool_str a b t
  |_=>exact absurd (show false=true from fx) aJD
 |int a=>
  let(t',rfl,):=ry;cases x with
  |aE=>cases rx;exact SeqAt.EqAt.int_none a t'
  |bl b=>cases rx;exact SeqAt.EqAt.int_bool a t' b
  |int b=>let(t,rfl,):=rx;exact SeqAt.EqAt.int_int a t' b t
  |str b=>let(t,rfl,):=rx;exact SeqAt.EqAt.int_str a t' b t
  |_=>exact absurd (show false=true from fx) aJD
 |str a=>
  let(t',rfl,):=ry;cases x with
  |aE=>cases rx;exact SeqAt.EqAt.str_none a t'
  |bl b=>cases rx;exact SeqAt.EqAt.str_bool a t' b
  |int b=>let(t,rfl,):=rx;exact SeqAt.EqAt.str_int a t' b t
  |str b=>let(t,rfl,):=rx;exact SeqAt.EqAt.str_str a t' b t
  |_=>exact absurd (show false=true from fx) aJD
 |_=>exact absurd (show false=true from fy) aJD
noncomputable def pq(x:V)(u:Value):Bool:=match u with
 | .none=>qZ .aE x
 | .bool b=>qZ (.bl b) x
 | .int i _=>qZ (.int i) x
 | .str z _=>qZ (.str z) x
 |_=>false
theorem Ou{x y:V}{u:Value}(r:RelV y u)(f:bR y=true):pq x u=qZ y x:=by
 cases y with
 |aE=>cases r;rfl
 |bl b=>cases r;rfl
 |int i=>let(t,rfl,):=r;rfl
 |str z=>let(t,rfl,):=r;rfl
 |_=>exact absurd (show false=true from f) aJD
theorem EF{x:V}:∀{xs:List V}{us:List Value},Vals xs us->xs.all bR=true->us.any (pq x)=xs.any λy=>qZ y x
 |_,_,.nil,_=>rfl
 |y ::xs,u ::us,.cons r t,f=>by
  rw[all_cons,aEv]at f;rw[any_cons,any_cons,Ou r f.1,EF t f.2]
theorem ES{A:Around}{s:Shared}{x:V}{v:Value}(rx:RelV x v)(fx:bR x=true):∀{xs:List V}{us:List Value},Vals xs us->xs.all bR=true->∀u∈us,SeqAt.EqAt A s u v (pq x u)
 |_,_,.nil,_=>λu hu=>by cases hu
 |y ::xs,u ::us,.cons r t,f=>λu' hu=>by
  rw[all_cons,aEv]at f;rcases aPx.mp hu with rfl|hu
  .rw [Ou r f.1];exact K0 r rx f.1 fx
  .exact ES rx fx t f.2 u' hu
noncomputable def yj(x:V)(xs:List V):Bool:=xs.any λy=>qZ y x
inductive CC(K:W.Frag) (neg:Bool)(x:V)(y:V)(H:Hp)(Q:VK):Prop
 |mk (p xs:_):y=.ref p->(ah K H p xs\/bS K H p xs)->bR x=true->xs.all bR=true->Q (.bl (if neg then (not (yj x xs)) else yj x xs)) H->CC K neg x y H Q
theorem ZgU:eV X (compareOp .In) (CC X.K false):=by
 intro pins s σ H x y v u Q I rx ry h;let(p,xs,rfl,hq,fx,fs,q,):=h;cases ry;rcases hq with hq|hq
 .let(its,r,pl,hz,):=I.list hq;refine SeqAt.in_listAt (pq x) pl.isList (λw hw=>ES rx fx r fs w (by simpa using hw)) (.bl _,H,I,8,?_,);rw[show its.toArray.any (pq x)=its.any (pq x) by simp,EF r fs];exact q
 .let(its,r,pl,hz,):=I.tuple hq;refine SeqAt.in_tupleAt (pq x) pl (λw hw=>ES rx fx r fs w (by simpa using hw)) (.bl _,H,I,8,?_,);rw[show its.toArray.any (pq x)=its.any (pq x) by simp,EF r fs];exact q
theorem ZdV:eV X (compareOp .NotIn) (CC X.K true):=by
 intro pins s σ H x y v u Q I rx ry h;let(p,xs,rfl,hq,fx,fs,q,):=h;cases ry;rcases hq with hq|hq
 .let(its,r,pl,hz,):=I.list hq;refine SeqAt.notIn_listAt (pq x) pl.isList (λw hw=>ES rx fx r fs w (by simpa using hw)) (.bl _,H,I,8,?_,);rw[show its.toArray.any (pq x)=its.any (pq x) by simp,EF r fs];exact q
 .let(its,r,pl,hz,):=I.tuple hq;refine SeqAt.notIn_tupleAt (pq x) pl (λw hw=>ES rx fx r fs w (by simpa using hw)) (.bl _,H,I,8,?_,);rw[show its.toArray.any (pq x)=its.any (pq x) by simp,EF r fs];exact q
theorem ZdW:bx X (.builtin "len") (λxs H Q=>∃p ys,xs=[.ref p]/\(ah X.K H p ys\/bS X.K H p ys)/\Q (.int ys.length) H):=by
 intro pins s σ H xs us Q I r h;let(p,ys,rfl,hq,q,):=h;let(u,rfl,rx,):=vals1 r;cases rx;have hn:=GN;rcases hq with hq|hq
 .let(its,r',pl,hz,):=I.list hq;have hlen:=r'.length;exact Calls.call_len_list pl.isList (by simp only[a3v] <;> lia) (.int ys.length,H,I.tok _,(s.toks+1,by rw[a3v,hlen],),q,)
 .let(its,r',pl,hz,):=I.tuple hq;have hlen:=r'.length;exact len_tuple pl (by simp only[a3v] <;> lia) (.int ys.length,H,I.tok _,(s.toks+1,by rw[a3v,hlen],),q,)
theorem ZdX:bx X (.type "list") (λxs H Q=>∃p ys,xs=[.ref p]/\(ah X.K H p ys\/bS X.K H p ys)/\∀l,H l=none->Q (.ref l) (upd H l (.lst ys))):=by
 intro pins s σ H xs us Q I r h;let(p,ys,rfl,hq,q,):=h;let(u,rfl,rx,):=vals1 r;cases rx;have fin:∀(its:List Value),Vals ys its->ys.length<=sizeLine->∀(h':Heap)(c':Nat),(∀b o',s.heap.get? b=!o'->h'.get? b=!o') ->
   h'.get? s.heap.objs.size=!{ cls:=.type "list",dict:=none,data:=.seq its.toArray c',slots:=#[] }->EP X pins σ Q (.ref s.heap.objs.size) { s with heap:=h' }:=λits r' hz h' c' kp e=>
  (.ref s.heap.objs.size,_,I.laid (t':=s.toks) kp (bbI _) (show aK X.prog X.w _ h' _ (.lst ys) from(hz,its,c',r',e,)),8,q _ (I.hok.fresh (bbI _)),)
 rcases hq with hq|hq
 .let(its,r',pl,hz,):=I.list hq;have hlen:=r'.length;let(o,ho,hc,n,hd,):=pl.isList;exact call_list_seq p (.inl 8) ho hc hd (λh' c' kp e=>fin its r' hz h' c' kp e) (by simp only[a3v] <;> lia)
 .let(its,r',pl,hz,):=I.tuple hq;have hlen:=r'.length;let(o,ho,hc,n,hd,):=pl;exact call_list_seq p (.inr 8) ho hc hd (λh' c' kp e=>fin its r' hz h' c' kp e) (by simp only[a3v] <;> lia)
theorem Zdh:bx X (.type "tuple") (λxs H Q=>∃p ys,xs=[.ref p]/\((ah X.K H p ys/\∀l,H l=none->Q (.ref l) (upd H l (.tup ys)))\/(bS X.K H p ys/\Q (.ref p) H))):=by
 intro pins s σ H xs us Q I r h;let(p,ys,rfl,h,):=h;let(u,rfl,rx,):=vals1 r;cases rx;rcases h with⟨hq,q⟩|⟨hq,q⟩
 .let(its,r',pl,hz,):=I.list hq;have hlen:=r'.length;refine call_tuple_list pl.isList (λh' kp=>?_) (by simp only[a3v] <;> lia);have I1:Inv X pins σ H { s with heap:=h' }:=I.kept (t':=s.toks) kp;have I2:Inv X pins σ (upd H h'.objs.size (.tup ys)) { s with heap:=h'.push { cls:=.type "tuple",data:=.seq its.toArray } }:=
   I1.laid (t':=s.toks) (λb o e=>aJV _ e) (bbI _) (show aK X.prog X.w _ _ _ (.tup ys) from(hz,its,r',IsTup.new _ _,))
  exact(.ref h'.objs.size,_,I2,8,q _ (I1.hok.fresh (bbI _)),)
 .let(its,r',pl,hz,):=I.tuple hq;exact call_tuple_same pl (.ref p,H,I,8,q,)
def Mj(K:W.Frag)(T:String)(x:V)(H:Hp):Prop:=match x with
 | .str _=>T ="str"
 | .int _=>T ="int"
 | .ref p=>(T ="list" /\ ∃xs,ah K H p xs)\/(T ="tuple" /\ ∃o,K.lookup p=!o/\o.cls=.type "tuple" /\o.dict=none) \/
   (T ="dict" /\((∃kvs,H p=!(.dK kvs))\/∃kvs,H p=!(.dT kvs)))\/(T ="set" /\ ∃S n,H p=!(.set S n))
 |_=>False
theorem WE{pins:List (Addr×Obj)}{σ:St}{H:Hp}{s:Shared}{T:String}{x:V}{v:Value}(I:Inv X pins σ H s)(r:RelV x v)(ty:Mj X.K T x H) :
  s.TypeIs v T/\∀a,v=.ref a->∃ob,s.heap.get? a=!ob/\ob.dict=none:=by
 cases x with
 |str z=>
  let(t,rfl,):=r;cases(show T ="str" from ty);exact⟨typeIs_str s z t,λ_ e=>nomatch e⟩
 |int i=>
  let(t,rfl,):=r;cases(show T ="int" from ty);exact⟨typeIs_int s i t,λ_ e=>nomatch e⟩
 |ref p=>
  cases r;rcases ty with⟨rfl,xs,hq⟩|⟨rfl,o,hk,hc,hd⟩|⟨rfl,hk⟩|⟨rfl,S,n,hk⟩
  .let(its,_,pl,_,):=I.list hq;refine(pl.isList.typeIs,λa e=>?_,);cases e;let(o,n,e,c,hd,_,):=pl;exact(o,e,hd,)
  .refine ((o,I.gV p o hk,hc,),λa e=>?_,);cases e;exact(o,I.gV _ o hk,hd,)
  .have z:∃o,s.heap.get? p=!o/\o.ExactDict:=by
    rcases hk with⟨kvs,hk⟩|⟨kvs,hk⟩
    .let(_,_,_,_,o,_,_,e,ex,_,):=I.hok p _ hk;exact(o,e,ex,)
    .let(_,_,_,_,o,_,_,e,ex,_,):=I.hok p _ hk;exact(o,e,ex,)
   let(o,e,ex,):=z;refine((o,e,ex.1,),λa e2=>?_,);cases e2;exact(o,e,ex.2.1,)
  .let(o,_,_,_,e,ex,_,):=I.hok p _ hk;refine((o,e,ex.1,),λa e2=>?_,);cases e2;exact(o,e,ex.2.1,)
 |_=>exact False.elim ty
def IB(K:W.Frag)(T:String)(r:V->List V->Hp->VK->Prop)(to:TE)(t:TA):TE:=λσ H Q=>to σ H λx H1=>Mj K T x H1/\t σ H1 λxs H2=>r x xs H2 Q
variable{o e:Expr}{es:List Expr}{to:TE}{t:TA}{name:Str}{apos cpos:Pos}{T id:String}{r:V->List V->Hp->VK->Prop}
theorem bK(pa:PlainAttrs T)(slot:Slot T name id)(hty:typeOf (.builtin id)=pure (.type "method_descriptor"))(hm:MtR X id r)(ho:PE X o to)(ha:PA X (e ::es) t)
  (hbase:attributeBase o name X.env (eval o X.env)=eval o X.env:=by rfl)
  (hfew:((backTo cpos (starEach (e ::es) X.env)).all (λx=>(not (x.1))) && (backToKw cpos (keywordEach [] X.env)).all (λx=>x.1.isSome)
   && decide ((e ::es).length+([]:List Keyword).length+(if([]:List Keyword).isEmpty then 0 else 1)<30))=true:=by rfl)
  (hline:(apos.endLine ==cpos.line)=true:=by rfl) (hs:starEach (e ::es) X.env=(false,eval e X.env) ::starEach es X.env:=by rfl) (hplain:(backTo cpos (starEach es X.env)).any (·.1)=false:=by rfl) :
  PE X (.Call (.Attribute o name apos) (e ::es) [] cpos) (IB X.K T r to t):=by
 intro pins s σ H Q I h;refine wpAny_Call_method_late hbase hfew hline 8 (bI (ho pins s σ H _ I h) λv s1 (x,H1,I1,r1,ty,q1,)=>?_);let(h1,h2,):=WE I1 r1 ty;refine(T,id,pa,slot,hty,h1,h2,?_,);have hA:=ha cpos pins s1 σ H1 _ I1 q1;rw[hs]at hA ⊢;refine aNE (by show(false || (backTo cpos (starEach es X.env)).any (·.1))=false;rw[hplain] <;> rfl) (azH ?_);exact bI hA λus s2 w9=>by let(vs,H2,I2,r2,q2,):=w9;exact hm pins s2 σ H2 x vs v us Q I2 r1 r2 q2
/- xs.append(e),list.index on a module's tuple .. are MtR facts of 06m -/
end
def Rf(X:Cx)(id:String)(r:V->List V->Hp->VK->Prop):Prop:=
 ∀(pins:List (Addr×Obj))(s:Shared)(σ:St)(H:Hp)(x:V)(xs:List V)(v:Value)(us:List Value)(Q:VK),Inv X pins σ H s->RelV x v->Vals xs us->r x xs H Q ->
  wpAny (model X.prog X.w) X.A (call (.builtin id) (v ::us)) (EP X pins σ Q) X.xe s
theorem Vals.one:∀{x:V}{us:List Value},Vals [x] us->∃u,us=[u]/\RelV x u
 |_,_,.cons r .nil=>(_,8,r,)
theorem Vals.rep{xs:List V}{us:List Value}(h:Vals xs us):∀k:Nat,Vals (List.replicate k xs).flatten (List.replicate k us).flatten
 |0=>.nil
 |k+1=>by
  rw[aVk,aVk,aAN,aAN];exact Vals.append h (Vals.rep h k)
theorem QC(its:List Value):∀(k:Nat)(acc:List Value),
  List.foldl (λx1 x2=>x1++x2) acc.toArray (List.replicate k its.toArray)=(acc++(List.replicate k its).flatten).toArray
 |0,acc=>5
 |k+1,acc=>by
  have e:acc.toArray++its.toArray=(acc++its).toArray:=5
  have e2:(acc++its)++(List.replicate k its).flatten=acc++(List.replicate (k+1) its).flatten:=by
   rw[aVk,aAN,bd0]
  rw[<-e2,<-QC its k (acc++its),<-e,aVk,List.foldl_cons]
section
variable{X:Cx}{pins:List (Addr×Obj)}{σ:St}{H:Hp}{s:Shared}{l b:Addr}{xs ys zs:List V}
theorem Inv.qT{its its':List Value}{n:Nat}{f:Array Value->Array Value}{t':Nat}(I:Inv X pins σ H s)(hH:H l=!(.lst xs))
  (e:s.heap.get? l=!{ cls:=.type "list",data:=.seq its.toArray n }) (hf:f its.toArray=its'.toArray) (hv:Vals ys its') (hz:ys.length<=sizeLine) :
  Inv X pins σ (upd H l (.lst ys)) { s with heap:=s.heap.update l (Obj.mapSeq f),toks:=t' }:=by
 have q:=PySem.IsL.update e f;rw[hf]at q;refine I.write (x:=l) (e:=l) (by rw[hH];exact trivial) (.inl 8) (λb' u hb hu=>(ahb s.heap (Obj.mapSeq f) (aUP hb)).trans hu) (_,q,) ?_;exact(hz,its',_,hv,q,)
theorem Inv.zN{its:List Value}{t':Nat}(I:Inv X pins σ H s)(hv:Vals ys its)(hz:ys.length<=sizeLine) :
  Inv X pins σ (upd H s.heap.objs.size (.lst ys)) { s with heap:=s.heap.push { cls:=.type "list",data:=.seq its.toArray },toks:=t' }:=
 I.laid (λ_ _ q=>aJV _ q) (bbI _) (hz,its,0,hv,aQ0 _ 8,)
theorem Inv.fresh(I:Inv X pins σ H s):H s.heap.objs.size=none:=I.hok.fresh (bbI _)
theorem Inv.ju(I:Inv X pins σ H s)(hH:H l=!(.lst xs)):xs.length<=sizeLine/\∃(its:List Value)(n:Nat),Vals xs its/\xs.length=its.length/\s.heap.get? l=!{ cls:=.type "list",data:=.seq its.toArray n }:=by
 let(z,its,n,r,e,):=I.hok l _ hH;exact(z,its,n,r,r.length,e,)
theorem PK{n:Nat}(h:n<=sizeLine):Builtin.List.listTooLong n=false:=by
 unfold Builtin.List.listTooLong;exact alG 7
end
section
variable{X:Cx}
inductive pT(x:V)(vs:List V)(H:Hp)(Q:VK):Prop
 |mk (l xs y:_):x=.ref l->vs=[y]->H l=!(.lst xs)->xs.length<sizeLine->Q .aE (upd H l (.lst (xs++[y])))->pT x vs H Q
theorem ZD:Rf X "list.append" pT:=by
 intro pins s σ H x vs v us Q I rx rv h;let(l,xs,y,rfl,rfl,hH,hz,q,):=h;cases rx;let(u,rfl,ru,):=rv.one;let(z,its,n,r,hl,e,):=I.ju hH;refine call_meets F.slot_list_append (_,e,8,) F.entry_list_append (F.args_list_append_2 _ _) (PySem.list_append l its.toArray n u (by rw[a3v];lia)) (e,?_,);refine(.aE,_,I.qT (its':=its++[u]) hH e 5 (r.append (.cons ru .nil)) ?_,8,q,);rw[a96,adX];lia
inductive CF(x:V)(y:V)(H:Hp)(Q:VK):Prop
 |mk (l b xs zs:_):x=.ref l->y=.ref b->H l=!(.lst xs)->H b=!(.lst zs)->xs.length+zs.length<=sizeLine->(∀p,H p=none->Q (.ref p) (upd H p (.lst (xs++zs))))->CF x y H Q
theorem ZT:eV X (binaryOp .Add) CF:=by
 intro pins s σ H x y v u Q I rx ry h;let(l,b,xs,zs,rfl,rfl,hH,hB,hz,q,):=h;cases rx;cases ry;let(z,its,n,r,hl,e,):=I.ju hH;let(z2,its2,n2,r2,hl2,e2,):=I.ju hB;refine PySem.P.add_list e e2 ?_ (by rw[a3v,a3v];lia);have ea:its.toArray++its2.toArray=(its++its2).toArray:=5
 rw[ea];exact(.ref _,_,I.zN (t':=s.toks) (r.append r2) (by rw[a96];lia),8,q _ I.fresh,)
inductive CA(x:V)(y:V)(H:Hp)(Q:VK):Prop
 |mk (l k xs:_):x=.ref l->y=.int k->H l=!(.lst xs)->-(2 ^ 63)<=k->k<2 ^ 63->xs.length*k.toNat<=sizeLine->(∀p,H p=none->Q (.ref p) (upd H p (.lst (List.replicate k.toNat xs).flatten)))->CA x y H Q
theorem WY{α:Type}(xs:List α)(k:Nat):(List.replicate k xs).flatten.length=k*xs.length:=by
 induction k with
 |zero=>simp
 |succ k ih=>rw[aVk,aAN,a96,ih,Nat.succ_mul,Nat.add_comm]
theorem WD:eV X (binaryOp .Mult) CA:=by
 intro pins s σ H x y v u Q I rx ry h;let(l,k,xs,rfl,rfl,hH,h1,h2,hz,q,):=h;cases rx;let(t,rfl,):=ry;let(z,its,n,r,hl,e,):=I.ju hH;have hlen:its.toArray.size*k.toNat<=sizeLine:=by rw[a3v,<-hl];exact hz
 have hcap:¬its.toArray.size*k.toNat>(2 ^ 63-1)/08:=by
  have:(sizeLine:Nat)<=(2 ^ 63-1)/08:=9
  lia
 have hfit:¬((not (Builtin.List.listFitsIndex k)))=true:=by
  rw[fitsIndex_both h1 h2];exact aJD
 have ug:¬Builtin.List.listTooLong (its.toArray.size*k.toNat)=true:=by
  rw[PK hlen];exact aJD
 have hnew:List.foldl (λx1 x2=>x1++x2) #[] (List.replicate (if its.toArray.isEmpty=true then 0 else k.toNat) its.toArray)=(List.replicate k.toNat its).flatten.toArray:=by
  have f0:∀m:Nat,List.foldl (λx1 x2=>x1++x2) #[] (List.replicate m its.toArray)=(List.replicate m its).flatten.toArray:=λm=>by
   have:=QC its m [];rw[List.nil_append]at this;exact this
  rw[f0];cases its with
  |nil=>simp
  |cons a r'=>rw[aah 5]
 refine wpAny_binaryOp_repeat_ref (T:="list") (U:="int") 9 (_,e,8,) (λs'=>typeIs_int s' k t) noFill_list_mul F.fills_int_mul F.slot_int_rmul repeat_list F.slot_int_index.lookup
  (call_meets F.slot_int_rmul (typeIs_int s k t) F.entry_int_rmul (F.args_int_rmul_2 _ _) (int___rmul___int_list k t l its.toArray n)
   (e,8,(_,e,8,),call_meets F.slot_list_mul (_,e,8,) F.entry_list_mul (F.args_list_mul_2 _ _) (AutoListH.list___mul___list_int_3 l its.toArray n k t hfit hcap ug) (e,?_,),))
 rw[hnew];exact(.ref _,_,I.zN (t':=s.toks) (r.rep k.toNat) (by rw[WY,Nat.mul_comm];exact hz),8,q _ I.fresh,)
end
end L2
namespace Rt
open PySem PySem.W PySem.Calls PyProof.Rows
theorem Zcf{P:Params}{h:Heap}:∀(ns:List Int)(vs:List Value),WellAll P h vs (ns.map WData.int)->IntsAre vs ns:=by
 intro ns
 induction ns with
 |nil=>
  intro vs w;rw[map_nil]at w;cases w;exact .nil
 |cons n ns ih=>
  intro vs w;rw[aQv]at w;cases w with
  |cons a b=>
   cases a;exact .cons _ _ (ih _ b)
theorem Z9{l:OpenLaw}{n:Nat}(hn:l.most=!n){P:Params}{h:Heap}{args:List WData}{vals:List Value}
  (hpre:l.row.toRowW.claim.pre args=true) (hwl:WellAll P h vals args) :
  ∃a vs ns,vals=[Value.ref a]/\args=[WData.list (ns.map WData.int)]/\h.get? a=!{ cls:=.type "list",data:=.seq vs.toArray }/\IntsAre vs ns/\ns.length<=n:=by
 have hsh:WShape.hasAll [] args [.list .int]=true:=(pre_splitW hpre).1;have hc:l.pre.holds [] { args:=args }=true:=(pre_splitW hpre).2;let(d,r,rfl,h1,h2,):=hasAllW_cons hsh;obtain rfl:=hasAllW_nil h2;let(xs,rfl,h3,):=hasW_list h1;let(ns,rfl,):=items_int h3;have hlen:ns.length<=n:=by
  unfold OpenLaw.pre at hc;have h4:(WTm.not (.lt (.lit (.int (n:Int))) (.len (.arg 0)))).holds [] { args:=[.list (ns.map .int)] }=true:=by
   have h4:=(holds_andW hc).1;rw[hn]at h4;exact h4
  have h5:=condW_of h4 (w_not (w_lt w_lit (w_len_list (w_arg 8))));rw[ano]at h5;refine Nat.le_of_not_lt λq=>?_;have q':(n:Int)<((ns.length:Nat):Int):=7
  first
   |(rw[anN q']at h5;exact absurd h5 9)
   |(simp at h5;lia)
 cases hwl with
 |cons w1 w2=>
  cases w2;cases w1 with
  |list ho hall=>exact(_,_,ns,8,8,ho,Zcf ns _ hall,hlen,)
theorem Z7(l:OpenLaw)(args:List WData):l.row.toRowW.claim.post args (.bool true) args=true:=
 postW_of (r:=l.row.toRowW) (X:=(true ==true))
  (show WShape.has [] (.bool true) .bool=true by first|rfl|decide|simp[WShape.has,WShape.arms,WShape.armsAll])
  (show(WTm.eq .res (.lit (.bool true))).value [] { args:=args,res:=!(.bool true),after:=args }=some (.bool (true ==true)) from w_eq_bool (w_res 8) w_lit) 8
theorem nk{l:OpenLaw}{n:Nat}{q:Program}{loose:List Str}{XP:(Str->Option Value)->Heap->Prop}{YP:World->Heap->Prop}{d:DefRec}
  (hn:l.most=!n) (hdf:d.params.defaults=[])
  (call:∀(w:World)(s₀ s₁:Shared)(mg mb:Str->Option Value)(fa:Addr)(o:Obj)(pm cd doc:Value)(a:Addr)(vs:List Value)(ns:List Int),
   Ground q loose [] XP w s₀ mg mb s₁.heap->YP w s₁.heap ->
   s₁.heap.get? fa=!o->o.data=.func (docDef d.name d.params d.body d.scope pm cd doc)->s₁.heap.CodeRec cd d.name->mg d.name=!(.ref fa) ->
   s₁.heap.get? a=!{ cls:=.type "list",data:=.seq vs.toArray }->IntsAre vs ns->ns.length<=n->s₁.gens=#[] ->
   codeAny (model l.prog w) callerA (.call (.ref fa) ([.ref a],[],)) (λr s'=>r=.ok (.ret (.bool true))/\OldK s₁.heap s'.heap/\s'.os=s₁.os/\AllBare s'.gens) s₁) :
  WalkO q loose XP YP l.row.toRowW d [] (λf vs=>PySem.call f vs):=by
 intro w s₀ s₁ mg mb G Y fa o pm cd doc dV kV ho hd hcd hD hmg hg args vals as hpre hlay hrd hwl hlo;obtain rfl:dV=.none:=Dflts.none hD hdf;obtain rfl:kV=.none:=Dflts.noKw hD;let(a,vs,ns,rfl,rfl,hobj,hints,hlen,):=Z9 hn hpre hwl;refine enter_call (codeAny_mono (call w s₀ s₁ mg mb fa o pm cd doc a vs ns G Y ho (fd_plain hd) hcd hmg hobj hints hlen hg) λr s' hq=>?_);let(rfl,h2,h3,h4,):=hq;exact(.inl (.bool true,.bool true,[],8,λ_=>8,.bool true,Z7 l _,λ_=>(List.Pairwise.nil,λ_ hm=>(nomatch hm),),),h2,h3,h4,)
end Rt
namespace L2
open PySem PySem.Spec PyProof.Rows
theorem LP:∀{vs:List Value}{ns:List Int},IntsAre vs ns->Vals (ns.map V.int) vs
 |_,_,.nil=>.nil
 |_,_,.cons n t h=>.cons (t,8,) (LP h)
noncomputable def WX(s:Stmt)(j:Nat):Stmt:=match s with
 | .ClassDef _ _ _ body _ _ _ _ _ _ _=>body.getD j (.Pass (0,0,0,0,))
 |_=>.Pass (0,0,0,0,)
noncomputable def qm(s:Stmt):Arguments:=match s with
 | .FunctionDef _ a _ _ _ _ _ _ _ _=>a
 |_=>{ posonlyargs:=[],args:=[],vararg:=none,kwonlyargs:=[],kw_defaults:=[],kwarg:=none,defaults:=[] }
noncomputable def ZZ(s:Stmt):List Stmt:=match s with
 | .FunctionDef _ _ b _ _ _ _ _ _ _=>b
 |_=>[]
noncomputable def Zp(s:Stmt):Scope:=match s with
 | .FunctionDef _ _ _ _ _ _ sc _ _ _=>sc
 |_=>{ kind:=.function,names:=[],isGenerator:=false,isCoroutine:=false }
noncomputable abbrev lN:vH:=λ_ _ _ _ _ _=>False
noncomputable abbrev E0:XK:=λ_ _ _=>False
theorem tN{X:Cx}:Bm lN X E0:=λ_ _ _ _ _ _ _ h=>h.elim
structure rM(K:W.Frag)(x qual:Str)(st:Stmt)(f:Addr)(fd:FuncData):Prop where
 ex:∃(oc:Value)(od:Option Addr)(kV doc pm:Value)(an:Option Addr)(cdv ct:Value)(osl:Array (Option Value)),
  fd=W.fnOf x qual (qm st) (ZZ st) (Zp st) .none kV doc pm an cdv ct/\K.lookup f=!(oc,od,.func fd,osl,)/\W.codeIn K cdv qual=true
 kp:W.keepIn K (.ref f)=true
section
variable{P:Program}{w:World}{K:W.Frag}{mg:Str->Option Value}{base:Heap}
theorem rM.ok{x qual:Str}{st:Stmt}{f:Addr}{fd:FuncData}{N ps:List Str}{k:Nat}{sp:Sp}(F:rM K x qual st f fd)(S:d8 N ps (Zp st))(len:∀vs H Q E,sp vs H Q E->vs.length=ps.length)
  (hbody:∀(cdv:Value)(A:Around)(outer:List Env)(s:Shared)(H:Hp)(vs:List V)(Q:VK)(E:XK),bg k (A.deeper (envOfC qual (Zp st) s.heap.objs.size f cdv))->sp vs H Q E ->
   ∃t,qw (ng lN P w K mg base N qual (Zp st) f cdv A outer s H E).zE (ZZ st) t/\t { nx:=λ_ H'=>Q .aE H',rt:=Q } (start N vs) H):cN P w K mg base lN (k+1) f fd ps sp:=by
 let(oc,od,kV,doc,pm,an,cdv,ct,osl,rfl,lk,hcd,):=F.ex;refine yt lk hcd S len λA outer s H vs Q E hr vf=>?_;let(t,h,q,):=hbody cdv A outer s H vs Q E hr vf;exact(t,h.zE,q,)
theorem rM.binds{x qual:Str}{st:Stmt}{f:Addr}{fd:FuncData}{ps:List Str}(F:rM K x qual st f fd)
  (h:∀(kV doc pm:Value)(an:Option Addr)(cdv ct:Value)(us:List Value),us.length=ps.length->bindArgs (W.fnOf x qual (qm st) (ZZ st) (Zp st) .none kV doc pm an cdv ct) (us,[],)=pure (ps.zip us)):Binds K fd ps []:=by
 let(oc,od,kV,doc,pm,an,cdv,ct,osl,rfl,lk,hcd,):=F.ex;exact .all (h kV doc pm an cdv ct)
theorem Ew{x qual:Str}{st:Stmt}{f:Addr}{oc:Value}{od an:Option Addr}{osl:Array (Option Value)}{kV doc pm cdv ct:Value}(l:K.lookup f=!(oc,od,.func (W.fnOf x qual (qm st) (ZZ st) (Zp st) .none kV doc pm an cdv ct),osl,))
  (c:W.codeIn K cdv qual=true) (k:W.keepIn K (.ref f)=true):rM K x qual st f (W.fnOf x qual (qm st) (ZZ st) (Zp st) .none kV doc pm an cdv ct):=((oc,od,kV,doc,pm,an,cdv,ct,osl,8,l,c,),k,)
end
theorem ue{A:Around}{k:Nat}(hr:bg k A):A.units+1<cLine:=bay (Nat.add_le_add_left (9:1<=64) _) hr.units
theorem Zk{n:Nat}(h:n<=1000):n<sizeLine:=bay h 9
section
variable{X:Cx}
theorem pv(i:Nat){x:Str}{pos:Pos}(hN:X.N[i]?=!x:=by rfl)(hv:BB X.env.scope x:=by first|exact Or.inl rfl|exact Or.inr (Or.inl rfl)|exact Or.inr (Or.inr rfl))(hd:(x ==("__debug__":Str))=false:=by decide)
  (hcd:(x ==("__classdict__":Str))=false:=by decide):PE X (.Name x pos) (yY i):=WN hN hv hd hcd
end
def ak(H H':Hp):Prop:=∀b o,H b=!o->H' b=!o
theorem ak.refl(H:Hp):ak H H:=λ_ _ h=>h
theorem ak.trans{H H1 H2:Hp}(a:ak H H1)(b:ak H1 H2):ak H H2:=λc o h=>b c o (a c o h)
theorem ak.free{H H':Hp}(e:ak H H'){l:Addr}(h:H' l=Option.none):H l=Option.none:=by
 cases q:H l with
 |none=>rfl
 |some o=>
  rw[e l o q]at h;cases h
theorem ak.seq{K:W.Frag}{H H':Hp}{a:Addr}{xs:List V}(e:ak H H')(h:ah K H a xs):ah K H' a xs:=by
 rcases h with(h|⟨o,h⟩)|h
 .exact .inl (.inl (e _ _ h))
 .exact .inl (.inr (o,e _ _ h,))
 .exact .inr h
end L2
set_option maxHeartbeats 4000000
namespace L2
open PySem PySem.Spec PyProof.Rows
noncomputable def bA(X:Cx)(N:List Str)(scope:Scope)(cl:List (Str×Addr))(C:Addr)(s0:Shared)(H0:Hp)(fp:List Addr)(pins:List (Addr×Obj)):Cx:=
 { X with N:=N,s₀:=s0,H₀:=H0,env:=compEnvC scope cl C X.env,outer:=X.stack,stack:=X.stack,ex:=fp,fn:=λx=>scope.names.lookup x ==!.cell,pn:=X.pn++pins,xe:=λ_ _=>False }
theorem EY{env:Env}:∀(names:List (Str×NameKind))(acc:List (Str×Addr)),(∀p∈names,p.2=.free->∃c,env.cells.lookup p.1=!c)->(∀x c,acc.lookup x=!c->env.cells.lookup x=!c) ->
  ∃cl,(forIn names acc λ(x:Str×NameKind) cs=>(match x with|(name,kind)=>if(kind ==NameKind.free)=true then do let a <-cellOf env name;pure (ForInStep.yield ((name,a) ::cs)) else pure (ForInStep.yield cs):Sem (ForInStep (List (Str×Addr)))))=(pure cl:Sem (List (Str×Addr))) /\
   (∀x c,cl.lookup x=!c->env.cells.lookup x=!c)/\(∀x c,acc.lookup x=!c->cl.lookup x=!c)/\∀p∈names,p.2=.free->∃c,cl.lookup p.1=!c
 | [],acc,_,h=>⟨acc,8,h,λ_ _ e=>e,λ_ z=>nomatch z⟩
 |(n,k) ::r,acc,h,ha=>by
  by_cases hk:k=.free
  .subst hk;let(c,hc,):=h (n,.free) anL 8;have ha':∀x d,((n,c) ::acc).lookup x=!d->env.cells.lookup x=!d:=λx d e=>by
    rw[a6s]at e;cases q:x ==n with
    |true=>
     rw[q]at e;have hxn:x=n:=by simpa using q
     subst hxn;cases e;exact hc
    |false=>
     rw[q]at e;exact ha x d e
   let(cl,e1,e2,e3,e4,):=EY r ((n,c) ::acc) (λp hp=>h p (aq4 _ hp)) ha';have top:∃d,cl.lookup n=!d:=(c,e3 n c (by rw[a6s];simp),);refine(cl,?_,e2,λx d e=>?_,λp hp hf=>?_,)
   .rw [List.forIn_cons];simp only[cellOf,hc,aGI,an9];exact e1
   .cases q:x ==n with
    |true=>
     have hxn:x=n:=by simpa using q
     subst hxn;have z:=ha x d e;rw[hc]at z;cases z;exact e3 x c (by rw[a6s];simp)
    |false=>exact e3 x d (by rw[a6s,q];exact e)
   .rcases aPx.mp hp with rfl|hp
    .exact top
    .exact e4 p hp hf
  .let(cl,e1,e2,e3,e4,):=EY r acc (λp hp=>h p (aq4 _ hp)) ha;have hb:(k ==NameKind.free)=false:=by simpa using hk
   refine(cl,?_,e2,e3,λp hp hf=>?_,)
   .rw [List.forIn_cons];simp only[hb,axr,aGD];exact e1
   .rcases aPx.mp hp with rfl|hp
    .exact absurd hf hk
    .exact e4 p hp hf
theorem QL{α:Type}(f:Str->α->α)(x:Str):∀l:List (Str×α),(l.map λp=>(p.1,f p.1 p.2)).lookup x=(l.lookup x).map (f x)
 | []=>rfl
 |(n,k) ::r=>by
  have ih:=QL f x r;rw[aQv,a6s,a6s];cases q:x ==n with
  |true=>
   have e:x=n:=by simpa using q
   subst e;rfl
  |false=>exact ih
noncomputable def Al(env:Env)(n:Str)(k:NameKind):NameKind:=if(k ==NameKind.free && env.scope.kind == .function && env.kindOf n ==!.cell)=true then .cell else k
theorem Q8(scope:Scope)(env:Env)(x:Str):(relabel scope env).names.lookup x=(scope.names.lookup x).map (Al env x):=by
 rw[<-QL (Al env) x scope.names];show(scope.names.map _).lookup x=_;congr 1
 refine aPW λp _=>?_;show(if _ then _ else _)=_;unfold Al;split <;> rfl
theorem Q7(env:Env)(n:Str)(k:NameKind):Al env n k=k\/(k=.free/\Al env n k=.cell):=by
 unfold Al;by_cases h:(k ==NameKind.free && env.scope.kind == .function && env.kindOf n ==!.cell)=true
 .refine .inr (?_,ahF h,);rw[aEv,aEv]at h;exact ats.mp h.1.1
 .exact .inl (aah h)
theorem Zbi{scope:Scope}{env:Env}{x:Str}{k:NameKind}(h:scope.names.lookup x=!k) :
  (relabel scope env).names.lookup x=!k\/(k=.free/\(relabel scope env).names.lookup x=!.cell):=by
 rw[Q8,h];rcases Q7 env x k with q|⟨q,q'⟩
 .exact .inl (aFH some q)
 .exact .inr (q,aFH some q',)
theorem Zea{scope:Scope}{env:Env}{x:Str}{k:NameKind}(h:(relabel scope env).names.lookup x=!k):∃k',scope.names.lookup x=!k'/\(k'=k\/k'=.free):=by
 rw[Q8]at h;cases q:scope.names.lookup x with
 |none=>rw[q]at h;cases h
 |some k'=>
  rw[q]at h;have h':Al env x k'=k:=aFB h;rcases Q7 env x k' with z|⟨z,_⟩
  .exact (k',8,.inl (z.symm.trans h'),)
  .exact (k',8,.inr z,)
theorem wO{α:Type}{x:Str}:∀{l:List (Str×α)}{k:α},l.lookup x=!k->(x,k)∈l
 | [],_,h=>by simp at h
 |(n,k) ::r,k',h=>by
  rw[a6s]at h;cases hx:x ==n with
  |true=>
   rw[hx]at h;cases h;have:x=n:=by simpa using hx
   subst this;exact anL
  |false=>
   rw[hx]at h;exact aq4 _ (wO h)
theorem Z6{prog:Program}{w:World}{A:Around}{s:Shared}{elt target iter:PySem.Expr}{ifs:List PySem.Expr}{scope:Scope}{pos:Pos}{it acc:Value}{env:Env}{R:Result->Shared->Prop}(I:Nat->Shared->Prop)
  (turn:∀n s,I n s->wpAny (model prog w) A (pyNext it) (λr s1=>match r with
   |none=>R (.ok .next) s1
   | some v=>wpAny (model prog w) A (letOwnedTupleGo target it v) (λ_ s0=>wpAny (model prog w) A (assign target env v) (λ_ s2=>
     wpAny (model prog w) A (forIn ifs true λc r=>if r=true then do let ok <-isTrue c env (eval c env);pure (ForInStep.yield ok) else pure (ForInStep.yield r)) (λok s3=>
      if ok=true then wpAny (model prog w) A (eval elt env) (λx s4=>
       wpAny (model prog w) A (call (.builtin "list.append") [acc,x]) (λ_ s5=>∃m,m<n/\I m s5) (λ_ _=>False) s4) (λ_ _=>False) s3
      else ∃m,m<n/\I m s3) (λ_ _=>False) s2) (λ_ _=>False) s0) (λ_ _=>False) s1) (λ_ _=>False) s)
  (n:Nat) (h:I n s):codeAny (model prog w) A (.compLoop (.ListComp elt [(target,iter,ifs,0,)] scope pos) 0 it acc env) R s:=by
 have body:∀n s,I n s->wpAny (model prog w) A (compTurn (.ListComp elt [(target,iter,ifs,0,)] scope pos) 0 it acc env)
   (λfin s'=>match fin with| .done f=>R (.ok f) s'| .again c=>c=.compLoop (.ListComp elt [(target,iter,ifs,0,)] scope pos) 0 it acc env/\∃m,m<n/\I m s') (λ_ _=>False) s:=λn s hI=>by
  rw[compTurn_list];refine aTi (a4y (aTi (bI (turn n s hI) λr s1 h1=>?_)));cases r with
  |none=>exact ak8 h1
  |some v=>
   refine aTi (bI h1 λ_ s0 h0=>aTi (bI h0 λ_ s2 h2=>aTi (bI h2 λok s3 h3=>?_)));cases ok with
   |true=>exact aTi (aTi (bI h3 λx s4 h4=>aTi (bI h4 λ_ s5 h5=>ak8 (ak8 (8,h5,)))))
   |false=>exact ak8 (8,h3,)
 exact codeAny_loop 8 I (λn s hI=>wpAny_noted (aP5 (body n s hI) (λ_ _ q=>q) λ_ _ q=>q.elim)) n h
def jF(own:Nat)(js:List Nat)(wi:TI)(g:TG)(tc:TT)(te:TE):TE:=λσ H Q=>wi σ H λJ H1=>∀l,H1 l=none ->
 ∃W:Nat->Nat->List V->St->Hp->Prop,(∃m,W 0 m [] (List.replicate own none++js.map λj=>(σ[j]?).join) (upd H1 l (.lst [])))/\∀i m ys σ' H',W i m ys σ' H' ->
  (J.stop i H'/\Q (.ref l) H')\/(J.go i H'/\∀x H2,J.oi i H' x H2->g x σ' H2 λσ2 H3=>tc σ2 H3 λb H4=>
   if b=true then te σ2 H4 λy H5=>H5 l=!(.lst ys)/\ys.length<sizeLine/\∃m',m'<m/\W (i+1) m' (ys++[y]) σ2 (upd H5 l (.lst (ys++[y])))
   else ∃m',m'<m/\W (i+1) m' ys σ2 H4)
def xy:TT:=λ_ H Q=>Q true H
structure cB(X:Cx)(scope:Scope)(N:List Str)(own:Nat)(js:List Nat):Prop where
 kind:scope.kind=.function
 cell:∀y∈scope.names,y.2=.cell->scope.names.lookup y.1=!.cell
 names:∀y∈scope.names,y.2=.local->scope.names.lookup y.1=!.local
 free:∀y∈scope.names,y.2=.free->X.env.kindOf y.1=!.cell\/X.env.kindOf y.1=!.free
 len:N.length=own+js.length
 js:∀k j,js[k]?=!j->N[own+k]?=X.N[j]?
 jf:∀k x,N[own+k]?=!x->scope.names.lookup x=!.free
theorem Un.but{fs ex:List Addr}{H H':Hp}{h h1 h2:Heap}{C:Addr}(u:Un fs ex H H' h h1)(hc:h.objs.size<=C)(sb:∀b o,b≠C->h1.get? b=!o->h2.get? b=!o):Un fs ex H H' h h2:=by
 have ne:∀b o,h.get? b=!o->b≠C:=λb o e=>aOt (a5i (a2o e) hc);refine(λb o q n hb hx=>sb b o (ne b o q) (u.keep b o q n hb hx),λb o q n hb hx=>?_,u.free,λb o q hx=>?_,u.tups,u.gY,u.iw,)
 .let(sl,e,):=u.slot b o q n hb hx;exact(sl,sb b _ (ne b o q) e,)
 .let(o',e,):=u.there b o q hx;exact(o',sb b o' (ne b o q) e,)
theorem Ak:∀(names:List (Str×NameKind))(n:Nat)(acc:List (Str×Addr)),cellsFrom n names acc=cellsFrom n names []++acc
 | [],_,_=>rfl
 |(x,k) ::r,n,acc=>by
  unfold cellsFrom;by_cases hk:(k ==NameKind.cell)=true
  .rw [ahF hk,ahF hk,Ak r (n+1) ((x,n) ::acc),Ak r (n+1) [(x,n)],bd0];rfl
  .rw [aah hk,aah hk];exact Ak r n acc
theorem K4:∀(names:List (Str×NameKind))(n:Nat)(x:Str)(c:Addr),(x,c)∈cellsFrom n names []->(x,NameKind.cell)∈names
 | [],_,_,_,h=>nomatch h
 |(y,k) ::r,n,x,c,h=>by
  unfold cellsFrom at h;by_cases hk:(k ==NameKind.cell)=true
  .rw [ahF hk,Ak]at h;rcases a6S.mp h with q|q
   .exact aq4 _ (K4 r _ x c q)
   .have e:(x,c)=(y,n):=by simpa using q
    cases e;have hk':k=.cell:=by simpa using hk
    subst hk';exact anL
  .rw [aah hk]at h;exact aq4 _ (K4 r _ x c h)
theorem Q3{α:Type}:∀{l:List (Str×α)}{x:Str}{c:α},(x,c)∈l->∃d,l.lookup x=!d
 |(y,v) ::r,x,c,h=>by
  rw[a6s];cases q:x ==y with
  |true=>exact(v,8,)
  |false=>
   rcases aPx.mp h with e|e
   .cases e;simp at q
   .exact Q3 e
theorem KZ:∀(names:List (Str×NameKind))(n:Nat)(x:Str),(x,NameKind.cell)∈names->∃c,(x,c)∈cellsFrom n names []
 | [],_,_,h=>nomatch h
 |(y,k) ::r,n,x,h=>by
  unfold cellsFrom;rcases aPx.mp h with e|e
  .cases e;rw[ahF (show(NameKind.cell ==NameKind.cell)=true from rfl),Ak];exact(n,aEK _ 5,)
  .by_cases hk:(k ==NameKind.cell)=true
   .rw [ahF hk,Ak];let(c,q,):=KZ r (n+1) x e;exact(c,aqT _ q,)
   .rw [aah hk];exact KZ r n x e
theorem QY{α:Type}:∀(l m:List (Str×α))(x:Str),(l++m).lookup x=match l.lookup x with|some c=>some c|none=>m.lookup x
 | [],m,x=>rfl
 |(y,v) ::r,m,x=>by
  rw[List.cons_append,a6s,a6s];cases x ==y with
  |true=>rfl
  |false=>exact QY r m x
theorem Zeb{M:Model}{A:Around}{E:Value->Shared->Prop}{s:Shared}{scope:Scope}{globals:Addr}{cl:List (Str×Addr)}{qual:Str}{env:Env}{Q:Env->Shared->Prop}
  (h:Q (newEnv scope s.heap.objs.size globals (cellsFrom (s.heap.objs.size+1) scope.names cl) qual none .none (!env) builtinsNs) { s with heap:=pushCells (s.heap.push { cls:=.type "dict",data:=.dict #[] }) scope.names }) :
  wpAny M A (newFunctionEnv scope globals cl [] qual none .none (!env)) Q E s:=by
 simp only[newFunctionEnv,Option.isSome_some,an9];refine aTi (wpAny_alloc (aTi (wpAny_layCells _ (λname kind cells=>by cases hkc:kind ==NameKind.cell <;> simp[hkc]) _ _ _ _ ?_)));rw[show({ s with heap:=s.heap.push { cls:=.type "dict",data:=.dict #[] } }:Shared).heap.objs.size=s.heap.objs.size+1 from aRL ..];rw[List.forIn_nil];exact aTi (ak8 (ak8 h))
structure qA(X:Cx)(scope:Scope)(ni:List (Str×Addr))(n:Nat)(h':Heap):Prop where
 k1:∀x c,ni.lookup x=!c->X.env.cells.lookup x=!c\/(n<c/\h'.IsCell c none/\(x,NameKind.cell)∈scope.names)
 k2:∀x,scope.names.lookup x=!.free->∃c,ni.lookup x=!c/\X.env.cells.lookup x=!c
 k3:∀p∈scope.names,p.2=.cell\/p.2=.free->∃c,ni.lookup p.1=!c
 k4:∀x y c,ni.lookup x=!c->ni.lookup y=!c->x=y
 k5:∀x c,scope.names.lookup x=!.cell->ni.lookup x=!c->n<c
section
variable{X:Cx}{scope:Scope}{N:List Str}{own:Nat}{js:List Nat}
theorem Y5{cl:List (Str×Addr)}{n:Nat}{h0:Heap}(c:cB X scope N own js)(ic:∀x c,cl.lookup x=!c->X.env.cells.lookup x=!c)(lF:∀p∈scope.names,p.2=.free->∃c,cl.lookup p.1=!c)
  (inj:∀x y c,X.env.cells.lookup x=!c->X.env.cells.lookup y=!c->x=y) (lt:∀x c,X.env.cells.lookup x=!c->c<n) (hn:h0.objs.size=n+1):qA X scope (cellsFrom (n+1) scope.names cl) n (pushCells h0 scope.names):=by
 have ok:=cellsFrom_ok scope.names h0 (n+1) [] (λ_ _ hm=>(nomatch hm),List.Pairwise.nil,) (by rw[hn];exact bbI _);rw[hn]at ok;have two:∀x,(cellsFrom (n+1) scope.names cl).lookup x=match(cellsFrom (n+1) scope.names []).lookup x with|some c=>some c|none=>cl.lookup x:=λx=>by
  rw[Ak,QY];cases(cellsFrom (n+1) scope.names []).lookup x <;> rfl
 have own':∀x d,(cellsFrom (n+1) scope.names []).lookup x=!d->(pushCells h0 scope.names).IsCell d none/\n<d/\(x,NameKind.cell)∈scope.names:=λx d e=>
  ((ok.empty x d (mem_of_lookup e)).1,(ok.empty x d (mem_of_lookup e)).2,K4 _ _ x d (mem_of_lookup e),)
 have part:∀x d,(cellsFrom (n+1) scope.names cl).lookup x=!d->(cellsFrom (n+1) scope.names []).lookup x=!d\/((cellsFrom (n+1) scope.names []).lookup x=none/\cl.lookup x=!d):=λx d e=>by
  rw[two]at e;cases q:(cellsFrom (n+1) scope.names []).lookup x with
  |some d'=>rw[q]at e;exact .inl e
  |none=>rw[q]at e;exact .inr (8,e,)
 have has:∀x,(x,NameKind.cell)∈scope.names->∃d,(cellsFrom (n+1) scope.names []).lookup x=!d:=λx m=>by
  let(d,q,):=KZ scope.names (n+1) x m;exact Q3 q
 refine(λx d e=>?_,λx e=>?_,λp hp hk=>?_,λx y d e1 e2=>?_,λx d e1 e2=>?_,)
 .rcases part x d e with q|⟨_,q⟩
  .exact .inr ((own' x d q).2.1,(own' x d q).1,(own' x d q).2.2,)
  .exact .inl (ic x d q)
 .let(d,q,):=lF _ (wO e) 8;have no:(cellsFrom (n+1) scope.names []).lookup x=none:=by
   cases z:(cellsFrom (n+1) scope.names []).lookup x with
   |none=>rfl
   |some d'=>
    have y:=c.cell _ (own' x d' z).2.2 8;rw[show scope.names.lookup x=_ from e]at y;cases y
  exact(d,by rw[two,no];exact q,ic x d q,)
 .rw [two];cases z:(cellsFrom (n+1) scope.names []).lookup p.1 with
  |some d'=>exact(d',8,)
  |none=>
   rcases hk with hk|hk
   .let(d,q,):=has p.1 (by rw[<-hk];exact hp);rw[z]at q;cases q
   .exact lF p hp hk
 .rcases part x d e1 with q1|⟨_,q1⟩
  .rcases part y d e2 with q2|⟨_,q2⟩
   .exact name_of_addr ok.apart (mem_of_lookup q1) (mem_of_lookup q2)
   .exact absurd (aDF (own' x d q1).2.1 (lt y d (ic y d q2))) (anG _)
  .rcases part y d e2 with q2|⟨_,q2⟩
   .exact absurd (aDF (own' y d q2).2.1 (lt x d (ic x d q1))) (anG _)
   .exact inj x y d (ic x d q1) (ic y d q2)
 .let(d',q,):=has x (wO e1);rw[two,q]at e2;cases e2;exact(own' x d q).2.1
theorem Y4{pins:List (Addr×Obj)}{σ:St}{H:Hp}{s:Shared}{cl:List (Str×Addr)}{fp:List Addr}{h':Heap}{t':Nat}(c:cB X scope N own js)(I:Inv X pins σ H s)(hf:∀b∈fp,ie X pins H b)
  (fo:∀b∈fp,b<s.heap.objs.size)
  (ci:qA X scope cl s.heap.objs.size h')
  (hn:h'.Ns s.heap.objs.size (λ_=>none)) (hk:∀b o,s.heap.get? b=!o->h'.get? b=!o) :
  Inv (bA X N scope cl s.heap.objs.size s H fp pins) [] (List.replicate own none++js.map λj=>(σ[j]?).join) H { s with heap:=h',toks:=t' }:=by
 have vq:∀x c,cl.lookup x=!c->c≠s.heap.objs.size:=λx c e=>by
  rcases ci.k1 x c e with q|⟨q,_⟩
  .let(v,q,):=I.cell x c q;exact aOt q.lt
  .exact agd q
 have ok:(bA X N scope cl s.heap.objs.size s H fp pins).Ok:=by
  refine(I.ok.mod,c.kind,I.ok.glob,I.ok.blt,bbI _,ci.k4,λx hx=>?_,λx d z e=>aWE (ci.k5 x d (ats.mp (show(scope.names.lookup x ==!.cell)=true from z)) e),I.ok.hd,I.ok.frames,.inl 8,λb hb=>(aOt (fo b hb),λx d e=>(ci.k1 x d e).elim (λq=>(hf b hb).2.2.2.2.1 x d q) λq=>agd (aDF (fo b hb) q.1),),I.bs,
   bbd I.ok.vt I.sz,λb o e hb=>?_,λb hb z=>?_,I.stack,I.jW,)
  .have back:∀k,(relabel scope X.env).names.lookup x=!k->k=.cell\/k=.free->∃k',(x,k')∈scope.names/\(k'=NameKind.cell\/k'=NameKind.free):=λk e hk=>by
    let(k',e',z,):=Zea e;refine(k',wO e',?_,);rcases z with z|z
    .subst z;exact hk
    .exact .inr z
   obtain⟨k',m,hk'⟩:∃k',(x,k')∈scope.names/\(k'=NameKind.cell\/k'=NameKind.free):=by
    rcases hx with hx|hx
    .exact back _ hx (.inl 8)
    .exact back _ hx (.inr 8)
   exact ci.k3 _ m hk'
  .rcases (hf b hb).2.2.2.1 with z|z
   .exact I.ok.tS b o e z
   .exact absurd (a5i (a5i (a2o e) I.ok.vt) z) (anG _)
  .rcases aPx.mp (I.jV b z) with q|q
   .exact (hf b hb).2.1 q
   .exact (hf b hb).2.2.1 q
 refine(ok,8,I.bare,Un.kept hk,(_,hn,λi x v e1 e2 e3=>?_,),λx d e=>?_,I.hok.fresh (bbI _),λx d e=>(ci.k1 x d e).elim (λq=>I.cU x d q) λq=>I.hok.fresh (aWE q.1),λp hp=>?_,I.hok.kept hk,?_,)
 .-- a name with a value is one that the block closes over
  have hi:own<=i:=by
   by_cases hi:i<own
   .rw [ah8 (by simpa using hi),List.getElem?_replicate]at e2;split at e2 <;> cases e2
   .lia
  obtain⟨k,rfl⟩:∃k,i=own+k:=(i-own,7,);rw[a9d 5,List.length_replicate,Nat.add_sub_cancel_left,aGb]at e2;cases q:js[k]? with
  |none=>rw[q]at e2;cases e2
  |some j=>
   rw[q]at e2;have m9:(σ[j]?).join=!v:=by simpa using e2
   have e4:σ[j]?=!(!v):=by
    cases z:σ[j]? with
    |none=>rw[z]at m9;cases m9
    |some o=>rw[z]at m9;rw[show o=some v from m9]
   have vn:N[own+k]?=!x:=e1;have JV:X.N[j]?=!x:=(c.js k j q).symm.trans vn;have hfr:=c.jf k x vn;have hmem:=wO hfr;have hk2:=c.free _ hmem 8;have vis:BB X.env.scope x:=by
    rcases hk2 with z|z
    .exact .inr (.inl z)
    .exact .inr (.inr z)
   let(m,_,hl,):=I.loc;let(u,r,l,):=hl j x v JV e4 vis;refine(u,r,?_,);rcases l with⟨z,_⟩|⟨_,d,e,⟨od,ho,hd⟩⟩
   .rcases hk2 with y|y
    .rw [show X.env.kindOf x=_ from z]at y;cases y
    .rw [show X.env.kindOf x=_ from z]at y;cases y
   .let(d',e',z',):=ci.k2 x hfr;have:d'=d:=by have z:=z';rw[e]at z;exact(aFB z).symm
    subst this;refine .inr (?_,d',e',(od,hk _ _ ho,hd,),);rcases Zbi (scope:=scope) (env:=X.env) hfr with z|⟨_,z⟩
    .exact .inr z
    .exact .inl z
 .rcases ci.k1 x d e with q|⟨_,q,_⟩
  .let(v,(o,ho,hd,),):=I.cell x d q;exact(v,o,hk _ _ ho,hd,)
  .exact (none,q,)
 .have zV:p∈X.pn++pins:=by
   have z:p∈(X.pn++pins)++[]:=hp;rwa [aZr]at z
  let(a1,a2,a3,a4,a5,):=I.pin p zV;refine(hk _ _ a1,a2,aOt (a2o a1),λz=>?_,a5,);rcases aPx.mp (I.jV p.1 z) with q|q
  .exact a3 q
  .exact a4 q
 .show _=N.length;rw[c.len];simp
theorem QX{pins:List (Addr×Obj)}{σ:St}{H:Hp}{s:Shared}{elt target iter:PySem.Expr}{ifs:List PySem.Expr}{pos:Pos}{it:Addr}{fp:List Addr}{tn:Nat->Heap->Prop}{J:It}{cl:List (Str×Addr)}{g:TG}{tc:TT}{te:TE}{E:Value->Shared->Prop}{Q:VK}
  {RR:Value->Addr->Result->Shared->Prop}
  (c:cB X scope N own js) (hc:X.calm=true) (I:Inv X pins σ H s) (T:Turn X.prog X.w X.K target J fp it tn) (st:tn 0 s.heap) (hf:∀b∈fp,ie X pins H b)
  (ic:∀x c,cl.lookup x=!c->X.env.cells.lookup x=!c) (lF:∀p∈scope.names,p.2=.free->∃c,cl.lookup p.1=!c)
  (hg:∀cl C s0 H0 fp pins,PG (bA X N scope cl C s0 H0 fp pins) target g)
  (ht:∀cl C s0 H0 fp pins bM s σ H Q,Inv (bA X N scope cl C s0 H0 fp pins) bM σ H s->tc σ H Q->wpAny (model X.prog X.w) X.A (forIn ifs true λc r=>if r=true then do let ok <-isTrue c (compEnvC scope cl C X.env) (eval c (compEnvC scope cl C X.env));pure (ForInStep.yield ok) else pure (ForInStep.yield r))
   (TP (bA X N scope cl C s0 H0 fp pins) bM σ Q) (λ_ _=>False) s)
  (he:∀cl C s0 H0 fp pins,PE (bA X N scope cl C s0 H0 fp pins) elt te)
  (h:∀l,H l=none->∃W:Nat->Nat->List V->St->Hp->Prop,(∃m,W 0 m [] (List.replicate own none++js.map λj=>(σ[j]?).join) (upd H l (.lst [])))/\∀i m ys σ' H',W i m ys σ' H' ->
   (J.stop i H'/\Q (.ref l) H')\/(J.go i H'/\∀x H2,J.oi i H' x H2->g x σ' H2 λσ2 H3=>tc σ2 H3 λb H4=>
    if b=true then te σ2 H4 λy H5=>H5 l=!(.lst ys)/\ys.length<sizeLine/\∃m',m'<m/\W (i+1) m' (ys++[y]) σ2 (upd H5 l (.lst (ys++[y])))
    else ∃m',m'<m/\W (i+1) m' ys σ2 H4))
  (hRR:∀l C H' s' m',s.heap.objs.size<=C->s'.heap.Ns C m'->H' C=none->C≠X.env.locals->C∉X.fs->(∀h2,Heap.SameBut C s'.heap h2->Inv X pins σ H' { s' with heap:=h2 })->Q (.ref l) H'->RR (.ref l) C (.ok .next) s') :
  wpAny (model X.prog X.w) X.A (newList []) (λacc s3=>wpAny (model X.prog X.w) X.A (newFunctionEnv scope X.env.globals cl [] X.env.qual none .none (!X.env)) (λcenv s4=>
   codeAny (model X.prog X.w) X.A (.compStart (.ListComp elt [(target,iter,ifs,0,)] scope pos) 0 (.ref it) acc { cenv with scope:=relabel scope X.env }) (RR acc cenv.locals) s4) E s3) E s:=by
 have I2:Inv X pins σ (upd H s.heap.objs.size (.lst [])) { s with heap:=s.heap.push { cls:=.type "list",dict:=none,data:=.seq ([]:List Value).toArray },toks:=s.toks }:=I.zN (ys:=[]) .nil (agn _);let(W,(m0,w0,),turn,):=h s.heap.objs.size I.fresh;refine a8y (Zeb ?_);dsimp only;generalize hS:({ s with heap:=s.heap.push { cls:=.type "list",dict:=none,data:=.seq ([]:List Value).toArray },toks:=s.toks }:Shared)=s2 at I2;have e2:s2.heap=s.heap.push { cls:=.type "list",dict:=none,data:=.seq ([]:List Value).toArray }:=by rw[<-hS]
 have Mt:s2.heap.objs.size=s.heap.objs.size+1:=by rw[e2,aRL]
 rw[<-e2];have ci:=Y5 (h0:=s2.heap.push { cls:=.type "dict",data:=.dict #[] }) (n:=s2.heap.objs.size) c ic lF I2.ok.inj (λx d e=>by let(v,q,):=I2.cell x d e;exact q.lt) (aRL ..);have yl:(pushCells (s2.heap.push { cls:=.type "dict",data:=.dict #[] }) scope.names).Ns s2.heap.objs.size (λ_=>none):=(Heap.Ns.new s2.heap (.type "dict")).keeps (pushCells_keeps _ _);have old:∀b o,s2.heap.get? b=!o->(pushCells (s2.heap.push { cls:=.type "dict",data:=.dict #[] }) scope.names).get? b=!o:=λb o e=>pushCells_keeps _ _ b o (aJV _ e);generalize pushCells (s2.heap.push { cls:=.type "dict",data:=.dict #[] }) scope.names=h1 at ci yl old ⊢;generalize hcl:cellsFrom (s2.heap.objs.size+1) scope.names cl=ni at ci ⊢;have zK:∀b,b∈fp->b<s.heap.objs.size:=λb hb=>by
  let(o,e,_,):=T.obj 0 _ st b hb;exact a2o e
 have hf2:∀b∈fp,ie X pins (upd H s.heap.objs.size (.lst [])) b:=λb hb=>(by rw[Zg (aOt (zK b hb))];exact(hf b hb).1,(hf b hb).2,);have Jj:∀b∈fp,b<s2.heap.objs.size:=λb hb=>by rw[Mt];exact aXp (zK b hb)
 have st2:tn 0 s2.heap:=T.keep 0 _ _ st λb _ o e=>by rw[e2];exact aJV _ e
 have I4:=Y4 (t':=s.toks) c I2 hf2 Jj ci yl old;have cK:tn 0 h1:=T.keep 0 _ _ st2 λb _ o e=>old b o e;have es:({ s2 with heap:=h1,toks:=s.toks }:Shared)={ s with heap:=h1,toks:=s.toks }:=by rw[<-hS]
 rw[es]at I4;generalize Us:({ s with heap:=h1,toks:=s.toks }:Shared)=s4 at I4;have Cm:tn 0 s4.heap:=by rw[<-Us];exact cK
 have loop:codeAny (model X.prog X.w) X.A (.compLoop (.ListComp elt [(target,iter,ifs,0,)] scope pos) 0 (.ref it) (.ref s.heap.objs.size) (compEnvC scope ni s2.heap.objs.size X.env)) (RR (.ref s.heap.objs.size) s2.heap.objs.size) s4:=by
  refine Z6 (λn s'=>∃i ys σ' H',Inv (bA X N scope ni s2.heap.objs.size s2 (upd H s.heap.objs.size (.lst [])) fp pins) [] σ' H' s'/\tn i s'.heap/\(∀b∈fp,H' b=none)/\W i n ys σ' H') ?_ m0
   (0,[],_,_,I4,Cm,λb hb=>(hf2 b hb).1,w0,)
  rintro n s5 ⟨i,ys,σ5,H5,I5,vK,GA,w5⟩;have oA:∀{H':Hp}{s':Shared}{σ':St},Inv (bA X N scope ni s2.heap.objs.size s2 (upd H s.heap.objs.size (.lst [])) fp pins) [] σ' H' s'->(∀b∈fp,H' b=none)->∀b∈fp,ie (bA X N scope ni s2.heap.objs.size s2 (upd H s.heap.objs.size (.lst [])) fp pins) [] H' b:=λJ' hn b hb=>
   (hn b hb,(J'.ok.GB b hb).1,J'.ok.uw b hb,.inl hb,(J'.ok.GB b hb).2,λp hp z=>by
    have zV:p∈X.pn++pins:=by
     have q:p∈(X.pn++pins)++[]:=hp;rwa [aZr]at q
    exact(hf b hb).2.2.2.2.2 p zV z,)
  rcases turn i n ys σ5 H5 w5 with⟨stop,q⟩|⟨go,step⟩
  .refine aP5 (T.done (bA X N scope ni s2.heap.objs.size s2 (upd H s.heap.objs.size (.lst [])) fp pins) 8 8 8 hc i [] s5 σ5 H5 (λ_ _=>False) I5 (oA I5 GA) vK stop) (λr s6 (hr,I6,)=>?_) λ_ _ z=>z;subst hr;let(m',hn',_,):=I6.loc;have hC:s.heap.objs.size<=s2.heap.objs.size:=by rw[Mt];exact aD0 _
   refine hRR _ _ H5 s6 m' hC hn' I6.free ?_ ?_ (λh2 sb=>?_) q
   .exact agd I2.lt
   .exact I2.Dc (bbI _)
   .have u:Un (frs X.stack) fp (upd H s.heap.objs.size (.lst [])) H5 s2.heap h2:=I6.base.but (bbI _) sb.extBut;have z6:H5 s2.heap.objs.size=none:=I6.free;have hok:dI X.prog X.w H5 h2:=λb ob e=>(I6.hok b ob e).stay (λd w' hd z=>sb.extBut d w' (by
     rintro rfl;rcases hd with rfl|hd
     .rw [z6]at e;cases e
     .rw [z6]at hd;cases hd) z) (λ_ z=>z) λ_ _ z=>z
    have J:=I2.Eh (s':={ s6 with heap:=h2 }) (ch:=fp) (by show s6.os=s2.os;exact I6.os) u hok I6.bare λb hb=>((hf b hb).2.2.2.1,(hf b hb).2.1,(hf b hb).2.2.2.2.1,(hf b hb).2.2.2.2.2,);exact J
  .refine aP5 (T.item (bA X N scope ni s2.heap.objs.size s2 (upd H s.heap.objs.size (.lst [])) fp pins) 8 8 8 hc i [] s5 σ5 H5 (λ_ _=>False) I5 (oA I5 GA) vK go) (λr s6 (u,hr,h6,)=>?_) λ_ _ z=>z;subst hr;refine aP5 h6 (λ_ s7 (x,H7,I7,r7,y7,ID,U3,)=>?_) λ_ _ z=>z;have I7':=I7.pinned (oA I7 U3) (T.obj _ _ ID);refine aP5 (hg _ _ _ _ _ _ _ s7 σ5 H7 x u _ I7' r7 (step x H7 y7)) (λ_ s8 (σ8,H8,I8,q8,)=>?_) λ_ _ z=>z;refine aP5 (ht _ _ _ _ _ _ _ s8 σ8 H8 _ I8 q8) (λb s9 (H9,I9,q9,)=>?_) λ_ _ z=>z;have fin:∀{s':Shared}{H':Hp}{m':Nat}{ys':List V},Inv (bA X N scope ni s2.heap.objs.size s2 (upd H s.heap.objs.size (.lst [])) fp pins) ([]++Ey fp s7.heap) σ8 H' s'->m'<n->W (i+1) m' ys' σ8 H' ->
     ∃m,m<n/\∃i ys σ' H',Inv (bA X N scope ni s2.heap.objs.size s2 (upd H s.heap.objs.size (.lst [])) fp pins) [] σ' H' s'/\tn i s'.heap/\(∀b∈fp,H' b=none)/\W i m ys σ' H':=λ{s' H' m' ys'} J' hm w'=>by
    refine(m',hm,i+1,ys',σ8,H',J'.fC,T.keep _ _ _ ID λb hb o e=>(J'.pin (b,o) (aEK _ (aEK _ (HR hb e)))).1,λb hb=>?_,w',);let(o,e,d,):=T.obj _ _ ID b hb;exact(J'.pin (b,o) (aEK _ (aEK _ (HR hb e)))).2.1
   cases b with
   |false=>
    rw[aah aJD]at q9 ⊢;let(m',hm,w',):=q9;exact fin I9 hm w'
   |true=>
    rw[ahF 8]at q9 ⊢;refine aP5 (he _ _ _ _ _ _ _ s9 σ8 H9 _ I9 q9) (λy Sz (z,Rm,I10,CK,el,ez,m',hm,w',)=>?_) λ_ _ z=>z;refine aP5 (ZD (X:=bA X N scope ni s2.heap.objs.size s2 (upd H s.heap.objs.size (.lst [])) fp pins) _ Sz σ8 Rm (.ref s.heap.objs.size) [z] _ [y] (λ_ H'=>H'=upd Rm s.heap.objs.size (.lst (ys++[z]))) I10 8 (.cons CK .nil) (135,el,ez,8,)) (λ_ s11 (_,H11,I11,_,Vk,)=>?_) λ_ _ z=>z;subst Vk;exact fin I11 hm w'
 have fin:codeAny (model X.prog X.w) X.A (.compStart (.ListComp elt [(target,iter,ifs,0,)] scope pos) 0 (.ref it) (.ref s.heap.objs.size) (compEnvC scope ni s2.heap.objs.size X.env)) (RR (.ref s.heap.objs.size) s2.heap.objs.size) s4:=
  codeAny_compStart_list loop (T.self X.A 0 s4 _ _ Cm loop)
 exact fin
theorem PJ{elt target iter:PySem.Expr}{ifs:List PySem.Expr}{pos:Pos}{wi:TI}{g:TG}{tc:TT}{te:TE}(c:cB X scope N own js)(hc:X.calm=true)(hi:PI X target iter wi)
  (hg:∀cl C s0 H0 fp pins,PG (bA X N scope cl C s0 H0 fp pins) target g)
  (ht:∀cl C s0 H0 fp pins bM s σ H Q,Inv (bA X N scope cl C s0 H0 fp pins) bM σ H s->tc σ H Q->wpAny (model X.prog X.w) X.A (forIn ifs true λc r=>if r=true then do let ok <-isTrue c (compEnvC scope cl C X.env) (eval c (compEnvC scope cl C X.env));pure (ForInStep.yield ok) else pure (ForInStep.yield r))
   (TP (bA X N scope cl C s0 H0 fp pins) bM σ Q) (λ_ _=>False) s)
  (he:∀cl C s0 H0 fp pins,PE (bA X N scope cl C s0 H0 fp pins) elt te)
  (hs:∀x,foldedSetIterable iter X.env x=pure x:=by intro _;rfl):PE X (.ListComp elt [(target,iter,ifs,0,)] scope pos) (jF own js wi g tc te):=by
 intro pins s σ H Q I h;let(cl,e1,ic,_,lF,):=EY (env:=X.env) scope.names [] (λp hp hf=>I.ok.has _ (c.free p hp hf)) (λx d e=>by simp at e);have hclos:closureFor scope X.env=pure cl:=by
  unfold closureFor;refine(aFH (λz=>z >>= λcs=>pure cs) e1).trans ?_;rfl
 rw[eval_ListComp];refine wpAny_comprehension_free (use:=none) 8 hs hclos c.kind c.names (aP5 (hi pins s σ H _ I h) (λx s1 h1=>aP5 h1 (λitv s2 h2=>?_) λ_ _ e=>e) λ_ _ e=>e);let(it,fp,tn,J,H2,e,I2,T,st2,f2,q,):=h2;subst e;refine QX (Q:=Q) (RR:=λacc C=>compPost (model X.prog X.w) X.A X.xe none (EP X pins σ Q) acc C) c hc I2 T st2 f2 ic lF hg ht he q ?_;intro l C H' s' m' hC hn hf hL hfs hI hq;exact(m',hn,λh2 sb=>(.ref l,H',hI h2 sb,8,hq,),)
theorem PF{elt target iter:PySem.Expr}{ifs:List PySem.Expr}{pos pos' spos:Pos}{y:Str}{k:Nat}{wi:TI}{g:TG}{tc:TT}{te:TE}(c:cB X scope N own js)(hc:X.calm=true)(hN:X.N.Nodup)(hk:X.N[k]?=!y)(hy:X.env.scope.names.lookup y=!.local)(hi:PI X target iter wi)
  (hg:∀cl C s0 H0 fp pins,PG (bA X N scope cl C s0 H0 fp pins) target g)
  (ht:∀cl C s0 H0 fp pins bM s σ H Q,Inv (bA X N scope cl C s0 H0 fp pins) bM σ H s->tc σ H Q->wpAny (model X.prog X.w) X.A (forIn ifs true λc r=>if r=true then do let ok <-isTrue c (compEnvC scope cl C X.env) (eval c (compEnvC scope cl C X.env));pure (ForInStep.yield ok) else pure (ForInStep.yield r))
   (TP (bA X N scope cl C s0 H0 fp pins) bM σ Q) (λ_ _=>False) s)
  (he:∀cl C s0 H0 fp pins,PE (bA X N scope cl C s0 H0 fp pins) elt te)
  (hs:∀x,foldedSetIterable iter X.env x=pure x:=by intro _;rfl)
  (hsw:swapsWith (.ListComp elt [(target,iter,ifs,0,)] scope pos) (!(.Name y pos')) spos.line X.env=pure true:=by rfl):PS X (.Assign [.Name y pos'] (.ListComp elt [(target,iter,ifs,0,)] scope pos) spos) (ow (jF own js wi g tc te) (b9 k)):=by
 intro pins s σ H D I h;let(cl,e1,ic,_,lF,):=EY (env:=X.env) scope.names [] (λp hp hf=>I.ok.has _ (c.free p hp hf)) (λx d e=>by simp at e);have hclos:closureFor scope X.env=pure cl:=by
  unfold closureFor;refine(aFH (λz=>z >>= λcs=>pure cs) e1).trans ?_;rfl
 rw[exec_Assign_Name_used _ _ _ _ hsw];refine aTi (a4y (aTi ?_));show wpAny _ X.A (do let _ <-comprehension (.ListComp elt [(target,iter,ifs,0,)] scope pos) scope X.env _ (newList []) false (eval iter X.env) (!(assign (.Name y pos') X.env))) _ _ s;refine aTi (aP5 (wpAny_comprehension_free (use:=!(assign (.Name y pos') X.env)) (Q:=λ_ s'=>SP X pins D .next s') 8 hs hclos c.kind c.names
  (aP5 (hi pins s σ H _ I h) (λxv s1 h1=>aP5 h1 (λit s2 h2=>?_) λ_ _ e=>e) λ_ _ e=>e)) (λ_ s' hq=>ak8 (ak8 hq)) λ_ _ e=>e)
 let(it,fp,tn,J,H2,e,I2,T,st2,f2,q,):=h2;subst e;refine QX (Q:=λx H1=>b9 k x σ H1 D.nx) (RR:=λacc C=>compPost (model X.prog X.w) X.A X.xe (!(assign (.Name y pos') X.env)) (λ_ s'=>SP X pins D .next s') acc C) c hc I2 T st2 f2 ic lF hg ht he q ?_;intro l C H' s' m' hC hn hf hL hfs hI hq;have J0:=hI s'.heap (Heap.SameBut.refl ..);show wpAny _ X.A (assign (.Name y pos') X.env (.ref l)) _ _ _;have J1:Inv X pins σ H' s':=J0;refine wpAny_assign_Name (QH (v:=.ref l) J1 hN hk (.inl hy) 8 (λs'' Rh F6=>?_) (.inr hy));let(a,sb,ha,):=F6;have hne:C≠a:=by
  rcases ha with rfl|ha
  .exact hL
  .rintro rfl;let(v,(o,ho,hd,),):=J1.cell y C ha;let(o',es,ep,ho',hd',_,):=hn;rw[ho]at ho';cases ho';rw[hd]at hd';cases hd'
 refine(m',hn.sameBut sb hne,λh2 AQ=>?_,);have hok:dI X.prog X.w H' h2:=λb ob e=>(Rh.hok b ob e).stay (λd w' hd z=>AQ.extBut d w' (by
  rintro rfl;rcases hd with rfl|hd
  .rw [hf]at e;cases e
  .rw [hf]at hd;cases hd) z) (λ_ z=>z) λ_ _ z=>z
 have vq:∀x d,X.env.cells.lookup x=!d->d≠C:=λx d e z=>by
  subst z;let(v,(o,ho,hd,),):=J1.cell x d e;let(o',es,ep,ho',hd',_,):=hn;rw[ho]at ho';cases ho';rw[hd]at hd';cases hd'
 have Uu:∀p∈X.pn++pins,p.1≠C:=λp hp z=>by
  have a1:=(I2.pin p hp).1;exact absurd (a5i (a2o a1) (by rw[z];exact hC)) (anG _)
 have fin:Inv X pins (σ.set k (!(.ref l))) H' { s'' with heap:=h2 }:=Rh.turned (t':=s''.toks) (it:=C) (λb o hb e=>AQ.extBut b o hb e) hf hL (.inr (bbd I2.sz hC)) vq Uu;exact(_,H',fin,hq,)
theorem rA{elt target iter:PySem.Expr}{pos:Pos}{wi:TI}{g:TG}{te:TE}(c:cB X scope N own js)(hc:X.calm=true)(hi:PI X target iter wi)
  (hg:∀cl C s0 H0 fp pins,PG (bA X N scope cl C s0 H0 fp pins) target g) (he:∀cl C s0 H0 fp pins,PE (bA X N scope cl C s0 H0 fp pins) elt te)
  (hs:∀x,foldedSetIterable iter X.env x=pure x:=by intro _;rfl):PE X (.ListComp elt [(target,iter,[],0,)] scope pos) (jF own js wi g xy te):=
 PJ c hc hi hg (λcl C s0 H0 fp pins bM s σ H Q I h=>wpAny_tests_nil (H,I,h,)) he hs
theorem ER{elt target iter AN:PySem.Expr}{pos:Pos}{wi:TI}{g:TG}{tc:TT}{te:TE}(c:cB X scope N own js)(hc:X.calm=true)(hi:PI X target iter wi)
  (hg:∀cl C s0 H0 fp pins,PG (bA X N scope cl C s0 H0 fp pins) target g) (ht:∀cl C s0 H0 fp pins,PT (bA X N scope cl C s0 H0 fp pins) AN tc) (he:∀cl C s0 H0 fp pins,PE (bA X N scope cl C s0 H0 fp pins) elt te)
  (hs:∀x,foldedSetIterable iter X.env x=pure x:=by intro _;rfl):PE X (.ListComp elt [(target,iter,[AN],0,)] scope pos) (jF own js wi g tc te):=
 PJ c hc hi hg (λcl C s0 H0 fp pins bM s σ H Q I h=>wpAny_tests_one (ht cl C s0 H0 fp pins bM s σ H Q I h)) he hs
theorem EO{elt target iter:PySem.Expr}{pos pos' spos:Pos}{y:Str}(k:Nat){wi:TI}{g:TG}{te:TE}(c:cB X scope N own js)(hc:X.calm=true)(hN:X.N.Nodup)(hk:X.N[k]?=!y)(hy:X.env.scope.names.lookup y=!.local)(hi:PI X target iter wi)
  (hg:∀cl C s0 H0 fp pins,PG (bA X N scope cl C s0 H0 fp pins) target g) (he:∀cl C s0 H0 fp pins,PE (bA X N scope cl C s0 H0 fp pins) elt te)
  (hs:∀x,foldedSetIterable iter X.env x=pure x:=by intro _;rfl)
  (hsw:swapsWith (.ListComp elt [(target,iter,[],0,)] scope pos) (!(.Name y pos')) spos.line X.env=pure true:=by rfl):PS X (.Assign [.Name y pos'] (.ListComp elt [(target,iter,[],0,)] scope pos) spos) (ow (jF own js wi g xy te) (b9 k)):=
 PF c hc hN hk hy hi hg (λcl C s0 H0 fp pins bM s σ H Q I h=>wpAny_tests_nil (H,I,h,)) he hs hsw
theorem HP{elt target iter AN:PySem.Expr}{pos pos' spos:Pos}{y:Str}(k:Nat){wi:TI}{g:TG}{tc:TT}{te:TE}(c:cB X scope N own js)(hc:X.calm=true)(hN:X.N.Nodup)(hk:X.N[k]?=!y)(hy:X.env.scope.names.lookup y=!.local)(hi:PI X target iter wi)
  (hg:∀cl C s0 H0 fp pins,PG (bA X N scope cl C s0 H0 fp pins) target g) (ht:∀cl C s0 H0 fp pins,PT (bA X N scope cl C s0 H0 fp pins) AN tc) (he:∀cl C s0 H0 fp pins,PE (bA X N scope cl C s0 H0 fp pins) elt te)
  (hs:∀x,foldedSetIterable iter X.env x=pure x:=by intro _;rfl)
  (hsw:swapsWith (.ListComp elt [(target,iter,[AN],0,)] scope pos) (!(.Name y pos')) spos.line X.env=pure true:=by rfl):PS X (.Assign [.Name y pos'] (.ListComp elt [(target,iter,[AN],0,)] scope pos) spos) (ow (jF own js wi g tc te) (b9 k)):=
 PF c hc hN hk hy hi hg (λcl C s0 H0 fp pins bM s σ H Q I h=>wpAny_tests_one (ht cl C s0 H0 fp pins bM s σ H Q I h)) he hs hsw
end
section
variable{X:Cx}{pins:List (Addr×Obj)}{σ:St}{H:Hp}{s:Shared}
theorem dI.C8{P:Program}{w:World}{h h':Heap}{ch:List Addr}(hok:dI P w H h)(hn:∀b∈ch,H b=none)(k:∀b o,b∉ch->h.get? b=!o->h'.get? b=!o):dI P w H h':=λb ob e=>
 (hok b ob e).stay (λd u hd z=>k d u (λm=>by
  rcases hd with rfl|hd
  .rw [hn _ m]at e;cases e
  .rw [hn _ m]at hd;cases hd) z) (λ_ z=>z) λ_ _ z=>z
theorem Inv.lO{ch:List Addr}{h':Heap}{t':Nat}(I:Inv X pins σ H s)(hch:∀b∈ch,ie X pins H b)(k:∀b o,b∉ch->s.heap.get? b=!o->h'.get? b=!o) :
  Inv X pins σ H { s with heap:=h',toks:=t' }:=by
 have u:Un (frs X.stack) ch H H s.heap h':=(λb o q _ _ hx=>k b o hx q,λb o q _ _ hx=>(o.slots,k b o hx q,),λ_ _ _ n _=>n,λb o q hx=>(o,k b o hx q,),λ_ _ q=>q,λ_ _ _ q=>q,λ_ _ _ q=>q,);exact I.call (g':=s.gens) (d':=s.drawn) (t':=t') u (I.hok.C8 (λb hb=>(hch b hb).1) k) I.bare λb hb=>((hch b hb).2.2.2.1,(hch b hb).2.1,(hch b hb).2.2.2.2.1,(hch b hb).2.2.2.2.2,)
theorem Inv.tY{ch:List Addr}{h':Heap}{t':Nat}{o:HO}(I:Inv X pins σ H s)(hch:∀b∈ch,ie X pins H b)(k:∀b o,b∉ch->s.heap.get? b=!o->h'.get? b=!o)
  (new:aK X.prog X.w (upd H s.heap.objs.size o) h' s.heap.objs.size o):Inv X pins σ (upd H s.heap.objs.size o) { s with heap:=h',toks:=t' }:=by
 have fr:H s.heap.objs.size=none:=I.hok.fresh (bbI _);have ne:∀b ob,s.heap.get? b=!ob->b≠s.heap.objs.size:=λb ob e=>aOt (a2o e);have nt:∀b ob,H b=!ob->b≠s.heap.objs.size:=λb ob e=>Ze e fr;have u:Un (frs X.stack) ch H (upd H s.heap.objs.size o) s.heap h':=(λb o q _ _ hx=>k b o hx q,λb o q _ _ hx=>(o.slots,k b o hx q,),λb ob q n _=>by rw[Zg (ne b ob q)];exact n,λb o q hx=>(o,k b o hx q,),
  λb xs q=>by rw[Zg (nt b _ q)];exact q,λb ob xs q=>by rw[Zg (nt b _ q)];exact q,λb _ _ q=>by rw[Zg (nt b _ q)];exact q,)
 have hok:dI X.prog X.w (upd H s.heap.objs.size o) h':=λb ob e=>by
  by_cases hb:b=s.heap.objs.size
  .subst hb;rw[Za]at e;cases e;exact new
  .rw [Zg hb]at e;refine(I.hok b ob e).stay (λd u hd z=>k d u (λm=>?_) z) (λd z=>by rw[Zg (nt d _ z)];exact z) (λd xs z=>by rw[Zg (nt d _ z)];exact z) λd oz z=>by rw[Zg (nt d _ z)];exact z
   have hn:=(hch d m).1;rcases hd with rfl|hd
   .rw [hn]at e;cases e
   .rw [hn]at hd;cases hd
 exact I.call (g':=s.gens) (d':=s.drawn) (t':=t') u hok I.bare λb hb=>((hch b hb).2.2.2.1,(hch b hb).2.1,(hch b hb).2.2.2.2.1,(hch b hb).2.2.2.2.2,)
end
theorem kJ{a b:Nat}(h:a<b\/b<a):@Ne Addr a b:=λe=>by
 have e':a=b:=e;lia
theorem Z5(n l1 l2:Nat)(h1:l1<n)(h2:l2<n):ZipApart (n+4) (n+2) (n+3) n (n+1) l1 l2:=
 (kJ 7,kJ 7,kJ 7,kJ 7,kJ 7,kJ 7,kJ 7,kJ 7,kJ 7,kJ 7,kJ 7,kJ 7,kJ 7,kJ 7,kJ 7,kJ 7,kJ 7,kJ 7,)
noncomputable def yS(K:W.Frag)(a b:Addr):It:=
 (λi H=>∃xs ys x y,ah K H a xs/\ah K H b ys/\xs[i]?=!x/\ys[i]?=!y,
 λi H v H'=>∃t x y,H t=none/\v=.ref t/\H'=upd H t (.tup [x,y])/\(∀xs,ah K H a xs->xs[i]?=!x)/\∀ys,ah K H b ys->ys[i]?=!y,
 λi H=>∃xs ys,ah K H a xs/\ah K H b ys/\(xs.length<=i\/ys.length<=i),)
theorem HN{h:Heap}{it l:Addr}{i:Nat}(x:h.IsListIter it l i):∃o,h.get? it=!o/\∀v,o.data≠.cell v:=by
 let(o,e,c,d,):=x;exact⟨o,e,λv z=>by rw[d]at z;cases z⟩
theorem X7{P:Program}{w:World}{K:W.Frag}{elts:List PySem.Expr}{x1}{pos:Pos}(z TI TO i1 i2 a b:Addr)(D:ZipApart z TI TO i1 i2 a b) :
  Turn P w K (.Tuple elts x1 pos) (yS K a b) [z,TI,TO,i1,i2] z (λi h=>IsZip h z TI TO .none/\IsPair h TI (.ref i1) (.ref i2)/\(∃u v,IsPair h TO u v)/\h.IsListIter i1 a i/\h.IsListIter i2 b i) where
 mem:=5
 obj:=λi h st c hc=>by
  let(hz,hTI,(u,v,hTO,),h1,h2,):=st;simp only[acu,aYt,a5s]at hc;rcases hc with rfl|rfl|rfl|rfl|rfl
  .exact ⟨_,hz,λv e=>by cases e⟩
  .exact ⟨_,hTI,λv e=>by cases e⟩
  .exact ⟨_,hTO,λv e=>by cases e⟩
  .exact HN h1
  .exact HN h2
 keep:=λi h h' st k=>by
  let(hz,hTI,(u,v,hTO,),h1,h2,):=st;exact(k z 5 _ hz,k TI 5 _ hTI,(u,v,k TO 5 _ hTO,),h1.at λo e=>k i1 5 o e,h2.at λo e=>k i2 5 o e,)
 item:=by
  intro X hP hw hK hc i pins s σ H E I hf st hg;subst hP hw hK;let(xs,ys,x,y,A2,A1,hx,hy,):=hg;let(hz,hTI,(u0,v0,hTO,),h1,h2,):=st;let(Dv,ra,pa,za,):=I.list A2;let(Du,rb,pb,zb,):=I.list A1;let(ux,hux,SE,):=ra.get hx;let(uy,Ur,SD,):=rb.get hy;refine wpAny_pyNext_zip_item D hz hTI hTO h1 h2 pa.isList pb.isList (x:=ux) (y:=uy) (by simpa using hux) (by simpa using Ur) λh' a1 a2 a3 a4 a5 a6 a7=>?_;refine(.ref s.heap.objs.size,8,?_,);refine wpAny_letOwnedTupleGo_zip a1 λh2' hz' hs'=>?_;have DE:z<s.heap.objs.size:=a2o hz;have kk:∀c o,c∉[z,TI,TO,i1,i2]->s.heap.get? c=!o->h2'.get? c=!o:=λc o hc e=>by
   simp only[acu,aYt,a5s,not_or]at hc;exact hs'.extBut c o hc.1 (a7 c o hc.1 hc.2.2.1 hc.2.2.2.1 hc.2.2.2.2 e)
  have tp:h2'.get? s.heap.objs.size=!{ cls:=.type "tuple",data:=.seq #[ux,uy] }:=hs'.extBut _ _ (agd DE) a5;have I1:Inv X pins σ (upd H s.heap.objs.size (.tup [x,y])) { s with heap:=h2',toks:=s.toks }:=
   I.tY hf kk (by show 2<=sizeLine;decide,[ux,uy],.cons SE (.cons SD .nil),(_,tp,113,),)
  have TIk:h2'.get? TI=s.heap.get? TI:=by
   rw[hTI];exact hs'.extBut _ _ D.TIz (a7 _ _ D.TIz D.TITO D.TIi1 D.TIi2 hTI)
  refine(.ref s.heap.objs.size,_,I1,8,(s.heap.objs.size,x,y,I.hok.fresh (bbI _),8,8,λxs' h=>by rw[I.dQ h A2];exact hx,λys' h=>by rw[I.dQ h A1];exact hy,),(hz',?_,(ux,uy,hs'.extBut _ _ D.TOz a2,),a3.at λo e=>hs'.extBut _ o D.i1z e,a4.at λo e=>hs'.extBut _ o D.i2z e,),λc hc=>?_,)
  .show h2'.get? TI=_;rw[TIk];exact hTI
  .have hc':=hc;have hlt:c<s.heap.objs.size:=by
    simp only[acu,aYt,a5s]at hc';rcases hc' with rfl|rfl|rfl|rfl|rfl
    .exact DE
    .exact a2o hTI
    .exact a2o hTO
    .let(o,e,_,):=HN h1;exact a2o e
    .let(o,e,_,):=HN h2;exact a2o e
   rw[Zg (aOt hlt)];exact(hf c hc).1
 done:=by
  intro X hP hw hK hc i pins s σ H E I hf st hg;subst hP hw hK;let(xs,ys,A2,A1,hend,):=hg;let(hz,hTI,(u0,v0,hTO,),h1,h2,):=st;let(Dv,ra,pa,za,):=I.list A2;let(Du,rb,pb,zb,):=I.list A1;have la:=ra.length;have lb:=rb.length;refine wpAny_pyNext_zip_end (I.ok.hd hc) D hz hTI hTO h1 h2 pa.isList pb.isList ?_ λh' hk=>(8,?_,)
  .rcases hend with q|q
   .exact .inl (by simp;lia)
   .exact .inr (by simp;lia)
  .refine I.lO (t':=s.toks) hf λc o hc e=>?_;simp only[acu,aYt,a5s,not_or]at hc;exact hk c o hc.1 hc.2.2.1 hc.2.2.2.1 hc.2.2.2.2 e
 self:=λ_ _ _ _ _ st h=>wpAny_pyIter_zip st.1 h
def Jz(K:W.Frag)(ta:TA):TI:=λσ H R=>ta σ H λvs H1=>∃a b,vs=[.ref a,.ref b]/\(∃xs,ah K H1 a xs)/\(∃ys,ah K H1 b ys)/\R (yS K a b) H1
section
variable{X:Cx}
theorem X6:bootBuiltins "zip"=!(.type "zip"):=by first|rfl|decide +kernel|kernel_rfl
theorem ZcG:bootBuiltins "enumerate"=!(.type "enumerate"):=by first|rfl|decide +kernel|kernel_rfl
theorem GL{elts:List PySem.Expr}{x1}{tpos:Pos}{a b:PySem.Expr}{ta:TA}{p pos:Pos}(hg:Gl X "zip")(hm:X.mg "zip"=none)(ha:PA X [a,b] ta)(hs:starEach [a,b] X.env=[(false,eval a X.env),(false,eval b X.env)]:=by rfl)(hs2:starEach [b] X.env=[(false,eval b X.env)]:=by rfl) :
  PI X (.Tuple elts x1 tpos) (.Call (.Name "zip" p) [a,b] [] pos) (Jz X.K ta):=by
 intro pins s σ H R I h;refine Call_ (vz I hg hm X6 (akj (pK (ha pos pins s σ H _ I h) λus s1 vs H1 I1 r1 q1=>?_) (by rw[hs,hs2]) (by rw[hs2];rfl)));let(l1,l2,e,(xs,A2,),(ys,A1,),q,):=q1;subst e;let(v1,v2,rfl,r,r',):=vals2 r1;cases r;cases r';let(Dv,ra,pa,za,):=I1.list A2;let(Du,rb,pb,zb,):=I1.list A1;have zK:l1<s1.heap.objs.size:=by let(o,e,_,):=pa.isList;exact a2o e
 have Jj:l2<s1.heap.objs.size:=by let(o,e,_,):=pb.isList;exact a2o e
 refine call_zip_2 pa.isList pb.isList λh' g5 g3 g4 g1 g2 hsz kp=>wpAny_pyIter_zip g5 ?_;refine(_,[_,_,_,_,_],_,_,H1,8,I1.kept (t':=s1.toks) kp,X7 _ _ _ _ _ l1 l2 (Z5 s1.heap.objs.size l1 l2 zK Jj),(g5,g3,(_,_,g4,),g1,g2,),λc hc=>?_,q,);have hc':s1.heap.objs.size<=c:=by
  simp only[acu,aYt,a5s]at hc;rcases hc with rfl|rfl|rfl|rfl|rfl <;> first|exact bbI _|exact Nat.le_add_right _ _
 exact I1.o8 hc' (I1.hok.fresh hc')
noncomputable def yU(K:W.Frag)(a:Addr):It:=
 (λi H=>∃xs x,ah K H a xs/\xs[i]?=!x,
 λi H v H'=>∃t x,H t=none/\v=.ref t/\H'=upd H t (.tup [.int i,x])/\∀xs,ah K H a xs->xs[i]?=!x,
 λi H=>∃xs,ah K H a xs/\xs.length=i,)
theorem Yz{P:Program}{w:World}{K:W.Frag}{elts:List PySem.Expr}{x1}{pos:Pos}(e it a:Addr)(hei:e≠it)(US:a≠e)(hai:a≠it) :
  Turn P w K (.Tuple elts x1 pos) (yU K a) [e,it] e (λi h=>(∃old,IsEnum h e it i old)/\h.IsListIter it a i) where
 mem:=5
 obj:=λi h st c hc=>by
  let((old,he,),h1,):=st;simp only[acu,aYt,a5s]at hc;rcases hc with rfl|rfl
  .exact ⟨_,he,λv z=>by cases z⟩
  .let(o,q,c,d,):=h1;exact⟨o,q,λv z=>by rw[d]at z;cases z⟩
 keep:=λi h h' st k=>by
  let((old,he,),h1,):=st;exact((old,k e 5 _ he,),h1.at λo q=>k it 5 o q,)
 item:=by
  intro X hP hw hK hc i pins s σ H E I hf st hg;subst hP hw hK;let(xs,x,hq,hx,):=hg;let((old,he,),h1,):=st;let(its,rv,p,hz,):=I.list hq;let(u,hu,ru,):=rv.get hx;have hlt:i<its.toArray.size:=by
   have:=(aFR.mp hu).1;simpa using this
  refine wpAny_pyNext_enum_itemD (Draws.list (A:=X.A.in1) (show X.A.in1.handled=none from I.ok.hd hc) it a hai its.toArray) he (h1,p.isList,) hlt hei (by simp[hei,aUP US]) λv h' tk hP ho hs' hT hsz hk=>?_;have qX:v=u:=by
   have z:its[i]?=!v:=by simpa using hP
   rw[hu]at z;exact(aFB z).symm
  subst qX;refine(.ref s.heap.objs.size,8,?_,);refine wpAny_letOwnedTupleGo_enum ho λh2 UH AQ=>?_;have helt:e<s.heap.objs.size:=a2o he;have kk:∀c o,c∉[e,it]->s.heap.get? c=!o->h2.get? c=!o:=λc o hc q=>by
   simp only[acu,aYt,a5s,not_or]at hc;exact(AQ.2 c hc.1).trans (hk c o hc.1 hc.2 q)
  have tp:h2.get? s.heap.objs.size=!{ cls:=.type "tuple",data:=.seq #[.int i tk,v] }:=(AQ.2 _ (agd helt)).trans hT;have I1:Inv X pins σ (upd H s.heap.objs.size (.tup [.int i,x])) { s with heap:=h2,toks:=tk+1 }:=
   I.tY hf kk (by show 2<=sizeLine;decide,[.int i tk,v],.cons (tk,8,) (.cons ru .nil),(_,tp,113,),)
  refine(.ref s.heap.objs.size,_,I1,8,(s.heap.objs.size,x,I.hok.fresh (bbI _),8,8,λys hy=>by rw[I.dQ hy hq];exact hx,),((v,by simpa using UH,),hs'.1.at λo q=>(AQ.2 _ (aUP hei)).trans q,),λc hc=>?_,);have hlt':c<s.heap.objs.size:=by
   simp only[acu,aYt,a5s]at hc;rcases hc with rfl|rfl
   .exact helt
   .let(o,q,_,):=h1;exact a2o q
  rw[Zg (aOt hlt')];exact(hf c hc).1
 done:=by
  intro X hP hw hK hc i pins s σ H E I hf st hg;subst hP hw hK;let(xs,hq,hx,):=hg;let((old,he,),h1,):=st;let(its,rv,p,hz,):=I.list hq;have hl:=rv.length;have ei:i=its.toArray.size:=by simp;lia
  subst ei;refine wpAny_pyNext_enum_endD (Draws.list (A:=X.A.in1) (show X.A.in1.handled=none from I.ok.hd hc) it a hai its.toArray) he (h1,p.isList,) λh' hx'=>(8,?_,);refine I.lO (t':=s.toks) hf λc o hc q=>?_;simp only[acu,aYt,a5s,not_or]at hc;exact hx' c o hc.2 q
 self:=λ_ _ _ _ _ st h=>by
  let((old,he,),_,):=st;exact wpAny_pyIter_enum he h
def DC(K:W.Frag)(ta:TA):TI:=λσ H R=>ta σ H λvs H1=>∃a,vs=[.ref a]/\(∃xs,ah K H1 a xs)/\R (yU K a) H1
theorem Hi{elts:List PySem.Expr}{x1}{tpos:Pos}{a:PySem.Expr}{ta:TA}{p pos:Pos}(hg:Gl X "enumerate")(hm:X.mg "enumerate"=none)(ha:PA X [a] ta)(hs:starEach [a] X.env=[(false,eval a X.env)]:=by rfl) :
  PI X (.Tuple elts x1 tpos) (.Call (.Name "enumerate" p) [a] [] pos) (DC X.K ta):=by
 intro pins s σ H R I h;refine Call_ (vz I hg hm ZcG (akj (pK (ha pos pins s σ H _ I h) λus s1 vs H1 I1 r1 q1=>?_) hs 8));let(l,e,(xs,hq,),q,):=q1;subst e;cases r1 with
 |cons r rr=>
  cases rr;cases r;let(its,rv,pl,hz,):=I1.list hq;have zK:l<s1.heap.objs.size:=by let(o,e,_,):=pl.isList;exact a2o e
  refine call_enumerate_list pl.isList λh' he hi hsz hk=>?_;refine wpAny_pyIter_enum he ?_;refine(s1.heap.objs.size+1,[s1.heap.objs.size+1,s1.heap.objs.size],_,_,H1,8,I1.kept (t':=s1.toks) hk,Yz (s1.heap.objs.size+1) s1.heap.objs.size l (Nat.succ_ne_self _) (kJ (.inl (aXp zK))) (aOt zK),((_,he,),hi,),λc hc=>?_,q,);have hc':s1.heap.objs.size<=c:=by
   simp only[acu,aYt,a5s]at hc;rcases hc with rfl|rfl <;> lia
  exact I1.o8 hc' (I1.hok.fresh hc')
end
noncomputable def rZ(H:Hp):V->Option String
 | .aE=>!"NoneType"
 | .bl _=>!"bool"
 | .int _=>!"int"
 | .str _=>!"str"
 | .ref a=>match H a with
  |some (.lst _)=>!"list"
  |some (.bH _ (.lst _))=>!"list"
  |some (.tup _)=>!"tuple"
  |some (.dK _)=>!"dict"
  |some (.dT _)=>!"dict"
  |_=>none
 |_=>none
theorem WC{K:W.Frag}{H:Hp}{x:V}{t:String}(h:rZ H x=!t):gr K H x (.type t):=by
 cases x with
 |aE=>cases h;exact .aE
 |bl b=>cases h;exact .bl b
 |int i=>cases h;exact .int i
 |str z=>cases h;exact .str z
 |ref a=>
  simp only[rZ]at h;split at h
  .rename_i e;cases h;exact .lst e
  .rename_i e;cases h;exact .bH e
  .rename_i e;cases h;exact .tup e
  .rename_i e;cases h;exact .dK e
  .rename_i e;cases h;exact .dT e
  .cases h
 |_=>cases h
noncomputable def yZ(t c:String):Bool:=t ==c || (t =="bool" && c =="int")
noncomputable def KP:List String:=["NoneType","bool","int","str","list","tuple","dict"]
noncomputable def KO:List String:=["bool","int","str","list","tuple","dict"]
theorem Yy(K:W.Frag):∀t∈KP,∀c∈KO,W.kitOne K (.type t) (.type c)=!(yZ t c):=by
 intro t ht c hc;simp only[KP,acu,aYt,a5s]at ht;simp only[KO,acu,aYt,a5s]at hc;rcases ht with rfl|rfl|rfl|rfl|rfl|rfl|rfl <;> rcases hc with rfl|rfl|rfl|rfl|rfl|rfl <;> rfl
theorem Yx{H:Hp}{x:V}{t:String}(h:rZ H x=!t):t∈KP:=by
 cases x with
 |aE=>cases h;decide
 |bl b=>cases h;decide
 |int i=>cases h;decide
 |str z=>cases h;decide
 |ref a=>
  simp only[rZ]at h;split at h <;> first|(cases h;decide)|cases h
 |_=>cases h
section
variable{X:Cx}
inductive CB(xs:List V)(H:Hp)(Q:VK):Prop
 |mk (x t c:_):xs=[x,.ty c]->rZ H x=!t->c∈KO->Q (.bl (yZ t c)) H->CB xs H Q
theorem uL:bx X (.builtin "isinstance") CB:=by
 intro pins s σ H xs us Q I r h;let(x,t,c,rfl,ht,hc,q,):=h;let(u,w',rfl,rx,rc,):=vals2 r;cases rc;exact ZgP I rx (WC ht) (Yy X.K t (Yx ht) c hc) λtk=>(.bl _,H,I.tok tk,8,q,)
theorem uK:bootBuiltins "isinstance"=!(.builtin "isinstance"):=by first|rfl|decide +kernel|kernel_rfl
theorem Ly:bootBuiltins "all"=!(.builtin "all"):=by first|rfl|decide +kernel|kernel_rfl
theorem PD:bootBuiltins "any"=!(.builtin "any"):=by first|rfl|decide +kernel|kernel_rfl
theorem HM:bootBuiltins "max"=!(.builtin "max"):=by first|rfl|decide +kernel|kernel_rfl
theorem PB:bootBuiltins "min"=!(.builtin "min"):=by first|rfl|decide +kernel|kernel_rfl
theorem Pz:bootBuiltins "abs"=!(.builtin "abs"):=by first|rfl|decide +kernel|kernel_rfl
theorem ZeA:bootBuiltins "divmod"=!(.builtin "divmod"):=by first|rfl|decide +kernel|kernel_rfl
theorem yI:bootBuiltins "int"=!(.type "int"):=by first|rfl|decide +kernel|kernel_rfl
theorem HQ:bootBuiltins "bool"=!(.type "bool"):=by first|rfl|decide +kernel|kernel_rfl
theorem QA:bootBuiltins "str"=!(.type "str"):=by first|rfl|decide +kernel|kernel_rfl
theorem Ar:bootBuiltins "list"=!(.type "list"):=by first|rfl|decide +kernel|kernel_rfl
theorem QK:bootBuiltins "tuple"=!(.type "tuple"):=by first|rfl|decide +kernel|kernel_rfl
theorem LO:∀{bs:List Bool}{its:List Value},Vals (bs.map V.bl) its->its=bs.map Value.bool
 | [],_,.nil=>rfl
 |b ::bs,_,.cons r t=>by rw[LO t];cases r;rfl
theorem QW{bs:List Bool}(f:Nat->Bool)(hf:∀i b,bs[i]?=!b->f i=b):(List.range bs.length).map f=bs:=by
 apply aVo;intro i;rw[aGb];by_cases h:i<bs.length
 .rw [apf h,aMp h];simp only[a10];rw[hf i _ (aMp h)]
 .rw [aH9 (by simpa using h),aH9 7];rfl
theorem LN(hc:X.calm=true):bx X (.builtin "all") (λxs H Q=>∃(p:Addr)(bs:List Bool),xs=[.ref p]/\ah X.K H p (bs.map V.bl)/\Q (.bl (bs.all id)) H):=by
 intro pins s σ H xs us Q I r h;let(p,bs,rfl,hq,q,):=h;let(u,rfl,rx,):=vals1 r;cases rx;let(its,rv,pl,hz,):=I.list hq;have e:=LO rv;subst e;refine call_all_walk (aA9 pl.isList ?_);refine(s.heap.objs.size,_,[s.heap.objs.size],108,λi=>bs.getD i true,8,Walks.list (A:=X.A.in1) (show X.A.in1.handled=none from I.ok.hd hc) s.heap.objs.size p ?_ (bs.map Value.bool).toArray,((_,aQ0 _ 8,8,8,),pl.isList.at λo e=>aJV _ e,),?_,?_,)
 .let(o,e,_,):=pl.isList;exact aOt (a2o e)
 .intro i v s' Q' E' hP hQ;have qX:(bs.map Value.bool)[i]?=!v:=by simpa using hP
  rw[aGb]at qX;cases z:bs[i]? with
  |none=>rw[z]at qX;cases qX
  |some b=>
   rw[z]at qX;cases qX;have:bs.getD i true=b:=by rw[aGH,z];rfl
   have DR:Q' (bs.getD i true) s':=hQ;rw[this]at DR;exact auF DR
 .intro h' tk hk;refine(.bl (bs.all id),H,I.kept (t':=tk) (λb o e=>hk b o (by simpa using aOt (a2o e)) (aJV _ e)),?_,q,);have z:(List.range bs.length).map (λi=>bs.getD i true)=bs:=QW _ λi b e=>by rw[aGH,e];rfl
  have z2:(List.range bs.length).all (λi=>bs.getD i true)=bs.all id:=by
   conv=>rhs;rw[<-z]
   rw[all_map];rfl
  show Value.bool _=Value.bool _;have z3:(bs.map Value.bool).toArray.size=bs.length:=5
  rw[z3,z2]
theorem WB(lo:Int)(n:Nat):∀{acc:Array Value},ItemsOf (λi v=>∃t,v=.int (lo+i*1) t) acc n->Vals ((List.range n).map λi=>V.int (lo+(i:Nat))) acc.toList:=by
 intro acc h;let(hs,hi,):=h;have gen:∀(l:List Value)(k:Nat)(xs:List V),xs.length=l.length->(∀(j:Nat)(v:Value)(x:V),l[j]?=!v->xs[j]?=!x->RelV x v)->Vals xs l:=by
  intro l
  induction l with
  |nil=>intro k xs hl _;cases xs with|nil=>exact .nil|cons _ _=>simp at hl
  |cons u l ih=>
   intro k xs hl hr;cases xs with
   |nil=>simp at hl
   |cons x xs=>exact .cons (hr 0 u x 8 8) (ih k xs (by simpa using hl) λj v y e1 e2=>hr (j+1) v y (by simpa using e1) (by simpa using e2))
 refine gen _ 0 _ (by simp[hs]) λj v x e1 e2=>?_;have vn:acc[j]?=!v:=by simpa using e1
 let(t,rfl,):=hi j v vn;have hj:j<n:=by rw[<-hs];exact(Array.getElem?_eq_some_iff.mp vn).1
 rw[aGb,apf hj]at e2;cases e2;exact(t,5,)
end
structure Def(P:Program)(w:World)(K:W.Frag)(mg:Str->Option Value)(base:Heap)(x:Str)(k:Nat)(ps:List Str)(sp:Sp):Prop where
 ex:∃(f:Addr)(fd:FuncData),cN P w K mg base lN k f fd ps sp/\mg x=!(.ref f)/\W.keepIn K (.ref f)=true/\Binds K fd ps []
section
variable{X:Cx}{x:Str}{p pos:Pos}{e:PySem.Expr}{es:List PySem.Expr}{t:TA}{k:Nat}{ps:List Str}{sp:Sp}
theorem WA(D:Def X.prog X.w X.K X.mg X.base x k ps sp)(hr:bg k X.A)(hg:Gl X x)(ha:PA X (e ::es) t)
  (he:starEach (e ::es) X.env=(false,eval e X.env) ::starEach es X.env:=by rfl) (hpl:(backTo pos (starEach es X.env)).any (·.1)=false:=by rfl) (hd:(x ==("__debug__":Str))=false:=by decide) :
  PE X (.Call (.Name x p) (e ::es) [] pos) (se sp [] E0 t):=by
 let(f,fd,F,hm,hk,hb,):=D.ex;exact W7 F hr hg hm hk hb .nil tN ha (hdb:=hd) (he:=he) (hpl:=hpl)
end
theorem ZR{X:Cx}{K:W.Frag}{es:List PySem.Expr}{k:Nat}{t:Aw}{n:Nat}{pos:Pos}(hK:X.K=K)(hc:X.calm=true)(h:E6 X es t)
  (hn:(assignEach es X.env).length=n:=by rfl) (hst:(assignEach es X.env).findIdx? (·.1)=none:=by rfl):PG X (.Tuple es k pos) (Ac K n t):=by
 subst hK;exact WM hc h hn hst
noncomputable def uE(bQ:Scope)(oN:List Str)(scope:Scope)(N:List Str)(own:Nat)(js:List Nat):Bool:=
 scope.kind == .function && scope.names.all (λy=>y.2 != .cell || scope.names.lookup y.1 ==!.cell) && scope.names.all (λy=>y.2 != .local || scope.names.lookup y.1 ==!.local) &&
 scope.names.all (λy=>y.2 != .free || (bQ.names.lookup y.1 ==some .cell || bQ.names.lookup y.1 ==!.free)) && N.length ==own+js.length &&
 (js.map λj=>oN[j]?) ==(N.drop own).map some && (N.drop own).all λx=>scope.names.lookup x ==!.free
theorem Zx{X:Cx}{bQ:Scope}{oN:List Str}{scope:Scope}{N:List Str}{own:Nat}{js:List Nat}(h:uE bQ oN scope N own js=true)(hs:X.env.scope=bQ)(hN:X.N=oN):cB X scope N own js:=by
 unfold uE at h;simp only[aEv,ap9,azS,ats,bne_iff_ne,ne_eq]at h;let((((((h1,h2,),h3,),h4,),h5,),h6,),h7,):=h;refine(h1,λy hy hl=>?_,λy hy hl=>?_,λy hy hf=>?_,h5,λk j e=>?_,λk x e=>?_,)
 .rcases h2 y hy with q|q
  .exact absurd hl q
  .exact q
 .rcases h3 y hy with q|q
  .exact absurd hl q
  .exact q
 .rcases h4 y hy with q|q
  .exact absurd hf q
  .show X.env.scope.names.lookup y.1=_\/X.env.scope.names.lookup y.1=_;rw[hs];exact q
 .rw [hN];have z:=aFH (λl=>l[k]?) h6;simp only[aGb,e,a10,getElem?_drop]at z;cases q:N[own+k]? with
  |none=>rw[q]at z;cases z
  |some y=>rw[q]at z;exact(aFB z).symm
 .refine h7 x ?_;exact aE5 (i:=k) (by rw[getElem?_drop];exact e)
def SB(b:Addr)(H H':Hp):Prop:=∀a o,a≠b->H a=!o->H' a=!o
theorem SB.refl(b:Addr)(H:Hp):SB b H H:=λ_ _ _ h=>h
theorem SB.trans{b:Addr}{H H1 H2:Hp}(x:SB b H H1)(y:SB b H1 H2):SB b H H2:=λa o n h=>y a o n (x a o n h)
theorem ak.sb{H H':Hp}(x:ak H H')(b:Addr):SB b H H':=λa o _ h=>x a o h
theorem Bl(b:Addr)(H:Hp)(o:HO):SB b H (upd H b o):=λa u n h=>by rw[Zg n];exact h
theorem Zb{H:Hp}{p:Addr}(h:H p=none)(o:HO):ak H (upd H p o):=λb u q=>by rw[Zg (Ze q h)];exact q
def dh(n:Nat)(l:Addr)(Pv:Nat->List V->St->Hp->Prop)(i:Nat)(ys:List V)(σ:St)(y:V)(H:Hp):Prop:=
 H l=!(.lst ys)/\ys.length<sizeLine/\∃m',m'<n-i/\(m'=n-(i+1)/\i+1<=n/\(ys++[y]).length<=i+1/\Pv (i+1) (ys++[y]) σ (upd H l (.lst (ys++[y]))))
def k7(n:Nat)(Pv:Nat->List V->St->Hp->Prop)(i:Nat)(ys:List V)(σ:St)(H:Hp):Prop:=∃m',m'<n-i/\(m'=n-(i+1)/\i+1<=n/\ys.length<=i+1/\Pv (i+1) ys σ H)
theorem dh.of{n:Nat}{l:Addr}{Pv:Nat->List V->St->Hp->Prop}{i:Nat}{ys:List V}{σ:St}{y:V}{H:Hp}(hn:n<=sizeLine)(hi:i<n)(hy:ys.length<=i)(h1:H l=!(.lst ys))(h2:Pv (i+1) (ys++[y]) σ (upd H l (.lst (ys++[y])))):dh n l Pv i ys σ y H:=
 (h1,7,n-(i+1),7,8,hi,by rw[a96,adX];lia,h2,)
theorem k7.of{n:Nat}{Pv:Nat->List V->St->Hp->Prop}{i:Nat}{ys:List V}{σ:St}{H:Hp}(hi:i<n)(hy:ys.length<=i)(h2:Pv (i+1) ys σ H):k7 n Pv i ys σ H:=
 (n-(i+1),7,8,hi,7,h2,)
theorem BA{lo:Int}{n:Nat}{l:Addr}{g:TG}{tc:TT}{te:TE}{σ0:St}{H0:Hp}{Qf:Hp->Prop}(Pv:Nat->List V->St->Hp->Prop)(h0:Pv 0 [] σ0 H0)
  (hs:∀i ys σ' H',i<n->ys.length<=i->Pv i ys σ' H'->g (.int (lo+i)) σ' H' λσ2 H3=>tc σ2 H3 λb H4=>if b=true then te σ2 H4 λy H5=>dh n l Pv i ys σ2 y H5 else k7 n Pv i ys σ2 H4)
  (hd:∀ys σ' H',ys.length<=n->Pv n ys σ' H'->Qf H') :
  ∃W:Nat->Nat->List V->St->Hp->Prop,(∃m,W 0 m [] σ0 H0)/\∀i m ys σ' H',W i m ys σ' H' ->
  ((xj lo n).stop i H'/\Qf H')\/((xj lo n).go i H'/\∀x H2,(xj lo n).oi i H' x H2->g x σ' H2 λσ2 H3=>tc σ2 H3 λb H4=>
    if b=true then te σ2 H4 λy H5=>H5 l=!(.lst ys)/\ys.length<sizeLine/\∃m',m'<m/\W (i+1) m' (ys++[y]) σ2 (upd H5 l (.lst (ys++[y])))
    else ∃m',m'<m/\W (i+1) m' ys σ2 H4):=by
 refine(λi m ys σ' H'=>m=n-i/\i<=n/\ys.length<=i/\Pv i ys σ' H',(n,8,agn _,bbI _,h0,),?_,);rintro i m ys σ' H' ⟨rfl,hi,hy,p⟩;by_cases hlt:i<n
 .refine .inr (hlt,λx H2 q=>?_,);let(rfl,rfl,):=q;exact hs i ys σ' _ hlt hy p
 .have e:i=n:=7
  subst e;exact .inl (bbI _,hd ys σ' H' hy p,)
theorem ZA{K:W.Frag}{a:Addr}{xs:List V}{l:Addr}{g:TG}{tc:TT}{te:TE}{σ0:St}{H0:Hp}{Qf:Hp->Prop}(Pv:Nat->List V->St->Hp->Prop)(h0:Pv 0 [] σ0 H0)
  (hl:∀i ys σ' H',i<=xs.length->Pv i ys σ' H'->ah K H' a xs)
  (hs:∀i x ys σ' H',i<xs.length->xs[i]?=!x->ys.length<=i->Pv i ys σ' H'->g x σ' H' λσ2 H3=>tc σ2 H3 λb H4=>if b=true then te σ2 H4 λy H5=>dh xs.length l Pv i ys σ2 y H5 else k7 xs.length Pv i ys σ2 H4)
  (hd:∀ys σ' H',ys.length<=xs.length->Pv xs.length ys σ' H'->Qf H') :
  ∃W:Nat->Nat->List V->St->Hp->Prop,(∃m,W 0 m [] σ0 H0)/\∀i m ys σ' H',W i m ys σ' H' ->
  ((yT K a).stop i H'/\Qf H')\/((yT K a).go i H'/\∀x H2,(yT K a).oi i H' x H2->g x σ' H2 λσ2 H3=>tc σ2 H3 λb H4=>
    if b=true then te σ2 H4 λy H5=>H5 l=!(.lst ys)/\ys.length<sizeLine/\∃m',m'<m/\W (i+1) m' (ys++[y]) σ2 (upd H5 l (.lst (ys++[y])))
    else ∃m',m'<m/\W (i+1) m' ys σ2 H4):=by
 refine(λi m ys σ' H'=>m=xs.length-i/\i<=xs.length/\ys.length<=i/\Pv i ys σ' H',(xs.length,8,agn _,bbI _,h0,),?_,);rintro i m ys σ' H' ⟨rfl,hi,hy,p⟩;have q:=hl i ys σ' H' hi p;by_cases hlt:i<xs.length
 .refine .inr ((xs,xs[i],q,by simp[hlt],),λx H2 z=>?_,);let(rfl,z,):=z;exact hs i x ys σ' _ hlt (z xs q) hy p
 .have e:i=xs.length:=7
  subst e;exact .inl ((xs,q,bbI _,),hd ys σ' H' hy p,)
theorem Lx{K:W.Frag}{a:Addr}{xs:List V}{g:TG}{tb:TS}{D:Ends}{σ:St}{H:Hp}(Pv:Nat->St->Hp->Prop)(h0:Pv 0 σ H)(hl:∀i σ H,i<=xs.length->Pv i σ H->ah K H a xs)
  (hs:∀i x t σ H,xs[i]?=!x->Pv i σ H->H t=none->g (.ref t) σ (upd H t (.tup [.int i,x])) λσ2 H2=>tb { D with nx:=Pv (i+1),ct:=Pv (i+1),bk:=D.nx } σ2 H2) (hd:∀ σ H,Pv xs.length σ H->D.nx σ H) :
  ∃W:Nat->Nat->St->Hp->Prop,(∃m,W 0 m σ H)/\∀i m σ H,W i m σ H ->
   ((yU K a).stop i H/\D.nx σ H)\/((yU K a).go i H/\∃N:St->Hp->Prop,(∀ σ' H',N σ' H'->∃m',m'<m/\W (i+1) m' σ' H')/\∀x H',(yU K a).oi i H x H'->g x σ H' λσ2 H2=>tb { D with nx:=N,ct:=N,bk:=D.nx } σ2 H2):=by
 refine(λi m σ H=>m=xs.length-i/\i<=xs.length/\Pv i σ H,(xs.length,5,agn _,h0,),?_,);rintro i m σ H ⟨rfl,hi,p⟩;have q:=hl i σ H hi p;by_cases hlt:i<xs.length
 .refine .inr ((xs,xs[i],q,by simp[hlt],),Pv (i+1),λσ' H' p'=>(xs.length-(i+1),7,8,hlt,p',),λx H' y=>?_,);let(t,u,ht,rfl,rfl,y,):=y;exact hs i u t σ _ (y xs q) p ht
 .have e:i=xs.length:=7
  subst e;exact .inl ((xs,q,8,),hd σ H p,)
theorem nu{α:Type}{x:α}{xs:List α}:cV (x ::xs) 0=!x:=ZY (j:=0) 8
theorem wJ{α:Type}{x y:α}{xs:List α}:cV (x ::y ::xs) 1=!y:=ZY (j:=1) 8
theorem rm{α:Type}{x y z:α}{xs:List α}:cV (x ::y ::z ::xs) 2=!z:=ZY (j:=2) 8
theorem Ks{α:Type}{x y z u:α}{xs:List α}:cV (x ::y ::z ::u ::xs) 3=!u:=ZY (j:=3) 8
theorem ZJ{p A B:Prop}[Decidable p](h1:p->A)(h2:¬p->B):if decide p=true then A else B:=by
 by_cases h:p
 .rw [ahF (anN h)];exact h1 h
 .rw [aah (by rw[alG h];exact aJD)];exact h2 h
noncomputable def NS:PySem.Expr->Prop
 | .Starred _ _=>False
 |_=>True
theorem wQ{e:PySem.Expr}{es:List PySem.Expr}{env:Env}(h:NS e):starEach (e ::es) env=(false,eval e env) ::starEach es env:=by
 cases e <;> first|rfl|exact h.elim
noncomputable def yR:List PySem.Expr->Prop
 | []=>True
 |e ::es=>NS e/\yR es
theorem Bu{pos:Pos}{env:Env}:∀{es:List PySem.Expr},yR es->(backTo pos (starEach es env)).any (·.1)=false
 | [],_=>rfl
 |e ::es,h=>by
  rw[wQ h.1];have ih:=Bu (pos:=pos) (env:=env) h.2;simp only[backTo]at ih ⊢;simpa using ih
section
variable{X:Cx}{x:Str}{p pos:Pos}{e:PySem.Expr}{es:List PySem.Expr}{te:TE}{t:TA}{k:Nat}{ps:List Str}{sp:Sp}{id T:String}{r:List V->Hp->VK->Prop}
theorem pc(ha:PE X e te)(hr:PA X es t)(hn:NS e:=by exact True.intro):PA X (e ::es) (xD te t):=W8 ha hr (wQ hn)
theorem Zm(D:Def X.prog X.w X.K X.mg X.base x k ps sp)(hr:bg k X.A)(hg:Gl X x)(ha:PA X (e ::es) t)(hn:yR (e ::es):=by repeat' (first|exact True.intro|refine⟨?_,?_⟩))(hd:(x ==("__debug__":Str))=false:=by decide) :
  PE X (.Call (.Name x p) (e ::es) [] pos) (se sp [] E0 t):=WA D hr hg ha (wQ hn.1) (Bu hn.2) hd
theorem Zl(hc:bx X (.builtin id) r)(hg:Gl X x)(hm:X.mg x=none)(hv:bootBuiltins x=!(.builtin id))(ha:PA X (e ::es) t)(hnn:yR (e ::es):=by repeat' (first|exact True.intro|refine⟨?_,?_⟩))(hn:x ≠ "__name__":=by decide)(hdb:(x ==("__debug__":Str))=false:=by decide) :
  PE X (.Call (.Name x p) (e ::es) [] pos) (FE r t):=Yb hc hg hm hv ha hn hdb (wQ hnn.1) (Bu hnn.2)
theorem ZO(hc:bx X (.type T) r)(hg:Gl X x)(hm:X.mg x=none)(hv:bootBuiltins x=!(.type T))(ha:PA X (e ::es) t)(hnn:yR (e ::es):=by repeat' (first|exact True.intro|refine⟨?_,?_⟩))(hn:x ≠ "__name__":=by decide)(hdb:(x ==("__debug__":Str))=false:=by decide) :
  PE X (.Call (.Name x p) (e ::es) [] pos) (FE r t):=ZgR hc hg hm hv ha hn hdb (wQ hnn.1) (Bu hnn.2)
end
theorem Py{K:W.Frag}{a:Addr}{xs:List V}{l:Addr}{g:TG}{tc:TT}{te:TE}{σ0:St}{H0:Hp}{Qf:Hp->Prop}(Pv:Nat->List V->St->Hp->Prop)(h0:Pv 0 [] σ0 H0)
  (hl:∀i ys σ' H',i<=xs.length->Pv i ys σ' H'->bS K H' a xs)
  (hs:∀i x ys σ' H',i<xs.length->xs[i]?=!x->ys.length<=i->Pv i ys σ' H'->g x σ' H' λσ2 H3=>tc σ2 H3 λb H4=>if b=true then te σ2 H4 λy H5=>dh xs.length l Pv i ys σ2 y H5 else k7 xs.length Pv i ys σ2 H4)
  (hd:∀ys σ' H',ys.length<=xs.length->Pv xs.length ys σ' H'->Qf H') :
  ∃W:Nat->Nat->List V->St->Hp->Prop,(∃m,W 0 m [] σ0 H0)/\∀i m ys σ' H',W i m ys σ' H' ->
  ((Fe K a).stop i H'/\Qf H')\/((Fe K a).go i H'/\∀x H2,(Fe K a).oi i H' x H2->g x σ' H2 λσ2 H3=>tc σ2 H3 λb H4=>
    if b=true then te σ2 H4 λy H5=>H5 l=!(.lst ys)/\ys.length<sizeLine/\∃m',m'<m/\W (i+1) m' (ys++[y]) σ2 (upd H5 l (.lst (ys++[y])))
    else ∃m',m'<m/\W (i+1) m' ys σ2 H4):=by
 refine(λi m ys σ' H'=>m=xs.length-i/\i<=xs.length/\ys.length<=i/\Pv i ys σ' H',(xs.length,8,agn _,bbI _,h0,),?_,);rintro i m ys σ' H' ⟨rfl,hi,hy,p⟩;have q:=hl i ys σ' H' hi p;by_cases hlt:i<xs.length
 .refine .inr ((xs,xs[i],q,by simp[hlt],),λx H2 z=>?_,);let(rfl,z,):=z;exact hs i x ys σ' _ hlt (z xs q) hy p
 .have e:i=xs.length:=7
  subst e;exact .inl ((xs,q,bbI _,),hd ys σ' H' hy p,)
section
variable{X:Cx}{K:W.Frag}
theorem Zo(hK:X.K=K):L8 X (zk K):=hK ▸W0
theorem ZL(hK:X.K=K):LZ X (zj K):=hK ▸WZ
theorem EW(hK:X.K=K):eV X (compareOp .In) (CC K false):=hK ▸ZgU
theorem Bw(hK:X.K=K):eV X (compareOp .NotIn) (CC K true):=hK ▸ZdV
theorem Zn(hK:X.K=K):bx X (.builtin "len") (λxs H Q=>∃p ys,xs=[.ref p]/\(ah K H p ys\/bS K H p ys)/\Q (.int ys.length) H):=hK ▸ZdW
theorem Q2(hK:X.K=K):bx X (.type "list") (λxs H Q=>∃p ys,xs=[.ref p]/\(ah K H p ys\/bS K H p ys)/\∀l,H l=none->Q (.ref l) (upd H l (.lst ys))):=hK ▸ZdX
theorem Q4(hK:X.K=K):bx X (.type "tuple") (λxs H Q=>∃p ys,xs=[.ref p]/\((ah K H p ys/\∀l,H l=none->Q (.ref l) (upd H l (.tup ys)))\/(bS K H p ys/\Q (.ref p) H))):=hK ▸Zdh
theorem QV{ns ms:List Int}(h:ns.length=ms.length):(List.range ns.length).all (λj=>ns.getD j 0 ==ms.getD j 0)=decide (ns=ms):=by
 rw[aeY,ap9,auA];constructor
 .intro z;refine List.ext_getElem h λj h1 h2=>?_;have:=z j (aOW.mpr h1);rw[aGH,aGH,aMp h1,aMp h2]at this;simpa using this
 .rintro rfl j _;simp
inductive zo(K:W.Frag) (neg:Bool)(x:V)(y:V)(H:Hp)(Q:VK):Prop
 |mk (a b:Addr) (ns ms:List Int):x=.ref a->y=.ref b->ah K H a (ns.map V.int)->ah K H b (ms.map V.int)->Q (.bl (if neg then (not (decide (ns=ms))) else decide (ns=ms))) H->zo K neg x y H Q
theorem Qz{A:Around}{s:Shared}{ns:List Int}{us:List Value}(r:Vals (ns.map V.int) us){ms:List Int}{ws:List Value}(r2:Vals (ms.map V.int) ws)(j:Nat)(h1:j<us.toArray.size)(h2:j<ws.toArray.size):SeqAt.EqAt A s us.toArray[j] ws.toArray[j] (ns.getD j 0 ==ms.getD j 0):=by
 have l1:ns.length=us.length:=by have:=r.length;rwa [ano]at this
 have l2:ms.length=ws.length:=by have:=r2.length;rwa [ano]at this
 have k1:j<ns.length:=by rw[l1];simpa using h1
 have k2:j<ms.length:=by rw[l2];simpa using h2
 let(u,hu,ru,):=r.get (i:=j) (x:=.int ns[j]) (by rw[aGb,aMp k1];rfl);let(v,hv,rv,):=r2.get (i:=j) (x:=.int ms[j]) (by rw[aGb,aMp k2];rfl);let(t,rfl,):=ru;let(t',rfl,):=rv;have e1:us.toArray[j]=.int ns[j] t:=by
  have:us[j]?=!us[j]:=aMp (by simpa using h1);rw[hu]at this;simpa using(aFB this).symm
 have e2:ws.toArray[j]=.int ms[j] t':=by
  have:ws[j]?=!ws[j]:=aMp (by simpa using h2);rw[hv]at this;simpa using(aFB this).symm
 rw[e1,e2,aGH,aGH,aMp k1,aMp k2];exact SeqAt.EqAt.int_int _ _ _ _
theorem Wz(hu:X.A.units<cLine)(hK:X.K=K):eV X (compareOp .Eq) (zo K false):=by
 subst hK;intro pins s σ H x y v u Q I rx ry h;let(a,b,ns,ms,rfl,rfl,ha,hb,q,):=h;cases rx;cases ry;let(its,r1,p1,_,):=I.list ha;let(its2,r2,p2,_,):=I.list hb;have l1:ns.length=its.length:=by have:=r1.length;rwa [ano]at this
 have l2:ms.length=its2.length:=by have:=r2.length;rwa [ano]at this
 by_cases hl:ns.length=ms.length
 .refine SeqAt.eq_listAt (e:=λj=>ns.getD j 0 ==ms.getD j 0) p1.isList p2.isList (by simp;lia) hu (λj h1 h2=>Qz r1 r2 j h1 h2) (.bl _,H,I,8,?_,);rw[a3v,<-l1,QV hl];exact q
 .refine SeqAt.eq_list_lengthsAt p1.isList p2.isList (by simp;lia) hu (.bl false,H,I,8,?_,);have e:decide (ns=ms)=false:=alG λz=>hl (by rw[z]);rw[e]at q;exact q
theorem Wy(hu:X.A.units<cLine)(hK:X.K=K):eV X (compareOp .NotEq) (zo K true):=by
 subst hK;intro pins s σ H x y v u Q I rx ry h;let(a,b,ns,ms,rfl,rfl,ha,hb,q,):=h;cases rx;cases ry;let(its,r1,p1,_,):=I.list ha;let(its2,r2,p2,_,):=I.list hb;have l1:ns.length=its.length:=by have:=r1.length;rwa [ano]at this
 have l2:ms.length=its2.length:=by have:=r2.length;rwa [ano]at this
 by_cases hl:ns.length=ms.length
 .refine SeqAt.RcNeAt.lists (e:=λj=>ns.getD j 0 ==ms.getD j 0) p1.isList p2.isList (by simp;lia) hu (λj h1 h2=>Qz r1 r2 j h1 h2) X.prog X.w X.xe _ (.bl _,H,I,8,?_,);rw[a3v,<-l1,QV hl];exact q
 .refine SeqAt.RcNeAt.lists_lengths p1.isList p2.isList (by simp;lia) hu X.prog X.w X.xe _ (.bl true,H,I,8,?_,);have e:decide (ns=ms)=false:=alG λz=>hl (by rw[z]);rw[e]at q;exact q
end
noncomputable def Bk(x:Value)(c:Nat):Obj:={ cls:=.type "list",dict:=none,data:=.seq #[x,x] c,slots:=#[] }
theorem Pa{P0:Program}{w0:World}{A0:Around}{R0:Result->Shared->Prop}{it box:Addr}{t:Shared}{old:Value}{c:Nat}(hx:t.heap.get? box=!(Bk old c))
  (h:∀E,wpAny (model P0 w0) A0.in1 (pyNext (.ref it)) (λr t1=>(∃c1,t1.heap.get? box=!(Bk old c1)) /\
   ((r=none/\R0 (.ok (.ret old)) { t1 with heap:=t1.heap.update box (Obj.mapSeq λ_=>#[]) }) \/
    ∃ v,r=!v/\∀E',wpAny (model P0 w0) A0.in1 (richCompare .Gt v old) (λa t2=>∃b,a=.bool b/\t2=t1 /\
      codeAny (model P0 w0) A0 (.builtin "max.loop" ([.ref it,.none,.ref box],[],)) R0 (if b=true then{ t1 with heap:=t1.heap.update box (Obj.mapSeq λ_=>#[v,v]) } else t1)) E' t1)) E t) :
  codeAny (model P0 w0) A0 (.builtin "max.loop" ([.ref it,.none,.ref box],[],)) R0 t:=by
 refine codeAny_builtin F.entry_max_loop ?_;rw[aDA aGV _];show wpAny _ _ (seqItems? (.ref box) >>= λfound=>_) _ _ t;refine aTi (wpAny_seqItems hx 8 (aTi (azg (aP5 (h _) (λr t1 z=>?_) λ_ _ e=>e))));obtain⟨⟨c1,pY⟩,⟨rfl,fin⟩|⟨v,rfl,go⟩⟩:=z
 .exact aTi (aZd pY 8 (aTi (aNk (ak8 fin))))
 .refine aTi (ak8 (aTi (azg (a7y (aTi (aP5 (go _) (λa t2 y=>?_) λ_ _ e=>e))))));let(b,rfl,rfl,vY,):=y;refine aTi (a7y (auF (aTi (aNk (ak8 ?_)))));have name:(toString "max" ++ toString ".loop":String) ="max.loop":=9
  cases b with
  |true=>exact aTi (aZd pY 8 (aTi (aNk (by rw[name];exact ak8 (ayq aGV _,vY,)))))
  |false=>exact aTi (aNk (by rw[name];exact ak8 (ayq aGV _,vY,)))
theorem Yw{P0:Program}{w0:World}{A0:Around}{R0:Result->Shared->Prop}{it box:Addr}{t:Shared}{c:Nat}(hx:t.heap.get? box=!{ cls:=.type "list",dict:=none,data:=.seq #[] c,slots:=#[] })
  (h:∀E,wpAny (model P0 w0) A0.in1 (pyNext (.ref it)) (λr t1=>∃v c1,r=!v/\t1.heap.get? box=!{ cls:=.type "list",dict:=none,data:=.seq #[] c1,slots:=#[] } /\
   codeAny (model P0 w0) A0 (.builtin "max.loop" ([.ref it,.none,.ref box],[],)) R0 { t1 with heap:=t1.heap.update box (Obj.mapSeq λ_=>#[v,v]) }) E t) :
  codeAny (model P0 w0) A0 (.builtin "max.loop" ([.ref it,.none,.ref box],[],)) R0 t:=by
 refine codeAny_builtin F.entry_max_loop ?_;rw[aDA aGV _];show wpAny _ _ (seqItems? (.ref box) >>= λfound=>_) _ _ t;refine aTi (wpAny_seqItems hx 8 (aTi (azg (aP5 (h _) (λr t1 z=>?_) λ_ _ e=>e))));let(v,c1,rfl,pY,vY,):=z;have name:(toString "max" ++ toString ".loop":String) ="max.loop":=9
 exact aTi (ak8 (aTi (aZd pY 8 (by rw[name];exact ak8 (ayq aGV _,vY,)))))
def Ot(P0:Program)(w0:World)(A0:Around)(Good:Heap->Prop)(At:Nat->Value->Prop)(bt:Nat->Nat->Bool):Prop:=
 ∀(i j:Nat)(u v:Value)(t:Shared)(Q:Value->Shared->Prop)(E:Value->Shared->Prop),Good t.heap->At i u->At j v->Q (.bool (bt i j)) t->wpAny (model P0 w0) A0.in1 (richCompare .Gt u v) Q E t
section
variable{P0:Program}{w0:World}{A0:Around}{R0:Result->Shared->Prop}{it box:Addr}{o7 gI:List Addr}{cnt:Nat}{At:Nat->Value->Prop}{rB:Nat->Heap->Prop}{Good:Heap->Prop}{bt:Nat->Nat->Bool}
theorem XG(wk:Walks P0 w0 A0.in1 it o7 gI cnt At rB)(cmp:Ot P0 w0 A0 Good At bt)(off:box∉gI)(iP:box∉o7)(keep:∀h h':Heap,Good h->(∀b o,b∉gI->b≠box->h.get? b=!o->h'.get? b=!o)->Good h')(left:Nat) :
  ∀(i:Nat)(t:Shared)(best:Value)(c:Nat),cnt=i+1+left->rB (i+1) t.heap->Good t.heap->At (argBest bt i) best->t.heap.get? box=!(Bk best c) ->
  (∀v h' tk,At (argBest bt (cnt-1)) v->(∀b o,b∉gI->b≠box->t.heap.get? b=!o->h'.get? b=!o)->R0 (.ok (.ret v)) { t with heap:=h',toks:=tk })->codeAny (model P0 w0) A0 (.builtin "max.loop" ([.ref it,.none,.ref box],[],)) R0 t:=by
 induction left with
 |zero=>
  intro i t best c hc hs hg hb hx hR;exact Pa hx λE=>wk.done t _ _ (by rw[hc];exact hs) λh' tk kp=>((c,kp box _ off hx,),.inl (8,hR best _ tk (by rw[show cnt-1=i by lia];exact hb) λb o n1 n2 e=>(ahb _ _ (aUP n2)).trans (kp b o n1 e),),)
 |succ left ih=>
  intro i t best c hc hs hg hb hx hR;refine Pa hx λE=>wk.item (i+1) t _ _ 7 hs λv h' tk hv hs' kp=>((c,kp box _ off hx,),.inr (v,8,λE'=>?_,),);have good:=keep _ h' hg λb o n1 _ e=>kp b o n1 e;refine cmp (i+1) (argBest bt i) v best _ _ _ good hv hb (111,?_,);by_cases wu:bt (i+1) (argBest bt i)=true
  .rw [ahF wu];refine ih (i+1) _ v _ 7 (wk.frame _ _ _ hs' λb z7 o e=>(ahb _ _ (λz=>iP (by rw[z];exact z7))).trans e) (keep _ _ good λb o _ n2 e=>(ahb _ _ (aUP n2)).trans e) (by rw[argBest,ahF wu];exact hv) (aYT _ (kp box _ off hx) 8) λu h'' tk' hu ua=>?_;exact hR u h'' tk' hu λb o n1 n2 e=>ua b o n1 n2 ((ahb _ _ (aUP n2)).trans (kp b o n1 e))
  .rw [aah wu];exact ih (i+1) _ best c 7 hs' good (by rw[argBest,aah wu];exact hb) (kp box _ off hx) λu h'' tk' hu ua=>hR u h'' tk' hu λb o n1 n2 e=>ua b o n1 n2 (kp b o n1 e)
end
theorem ZeB{P0:Program}{w0:World}{A0:Around}{E0:Value->Shared->Prop}{t:Shared}{x:Value}{Q:Value->Shared->Prop}
  (h:wpAny (model P0 w0) A0.in1 (pyIter x) (λiv t2=>∃it o7 gI cnt At rB bt,∃Good:Heap->Prop,iv=.ref it/\Walks P0 w0 A0.in1 it o7 gI cnt At rB/\rB 0 t2.heap/\(∀b∈o7,b<t2.heap.objs.size)/\0<cnt/\Good t2.heap /\
   (∀h h':Heap,Good h->(∀b o,b∉gI->b≠t2.heap.objs.size->h.get? b=!o->h'.get? b=!o)->Good h')/\Ot P0 w0 A0 Good At bt /\
   ∀v h' tk,At (argBest bt (cnt-1)) v->(∀b o,b∉gI->t2.heap.get? b=!o->h'.get? b=!o)->Q v { t2 with heap:=h',toks:=tk }) E0 t):wpAny (model P0 w0) A0 (call (.builtin "max") [x]) Q E0 t:=by
 have name:(toString "max" ++ toString ".loop":String) ="max.loop":=9
 refine call_function_tree F.kind_max F.plain_max F.entry_max (F.args_max1 _) ?_;show wpAny _ _ (Builtin.Builtins.bindParams "max" ["key","default"] 0 ([],[],) >>= λbound=>_) _ _ t;refine aTi (wpAny_of_eq (show Builtin.Builtins.bindParams "max" ["key","default"] 0 ([],[],)=pure [none,none] from rfl) (aTi (ak8 (aTi (aP5 h (λiv t2 z=>?_) λ_ _ e=>e)))));let(it,o7,gI,cnt,At,rB,bt,Good,rfl,wk,hs,hf,pos,hg,keep,cmp,hQ,):=z;have iP:t2.heap.objs.size∉o7:=λm=>anG _ (hf _ m);have off:t2.heap.objs.size∉gI:=λm=>iP (wk.sub _ m);refine aTi (a8y ?_);rw[name];refine ak8 (ayq aGV _,Yw (aQ0 _ 8) λE=>wk.item 0 _ _ _ pos (wk.frame _ _ _ hs λb _ o e=>aJV _ e) λv h' tk hv hs' kp=>(v,_,8,kp _ _ off (aQ0 _ 8),?_,),);have k1:∀b o,b∉gI->t2.heap.get? b=!o->h'.get? b=!o:=λb o n1 e=>kp b o n1 (aJV _ e);have k2:∀(f:Obj->Obj) b o,b∉gI->t2.heap.get? b=!o->(h'.update t2.heap.objs.size f).get? b=!o:=λf b o n1 e=>(ahb _ _ (agd (a2o e))).trans (k1 b o n1 e);refine XG wk cmp off iP keep (cnt-1) 0 _ v _ 7 (wk.frame _ _ _ hs' λb z7 o e=>(ahb _ _ (λz=>iP (by rw[z];exact z7))).trans e) (keep _ _ hg λb o n1 _ e=>k2 _ b o n1 e) hv (aYT _ (kp _ _ off (aQ0 _ 8)) 8) λu h'' tk' hu ua=>?_;exact hQ u h'' tk' hu λb o n1 e=>ua b o n1 (aOt (a2o e)) (k2 _ b o n1 e)
theorem O9{P0:Program}{w0:World}{A0:Around}{R0:Result->Shared->Prop}{it box:Addr}{t:Shared}{old:Value}{c:Nat}(hx:t.heap.get? box=!(Bk old c))
  (h:∀E,wpAny (model P0 w0) A0.in1 (pyNext (.ref it)) (λr t1=>(∃c1,t1.heap.get? box=!(Bk old c1)) /\
   ((r=none/\R0 (.ok (.ret old)) { t1 with heap:=t1.heap.update box (Obj.mapSeq λ_=>#[]) }) \/
    ∃ v,r=!v/\∀E',wpAny (model P0 w0) A0.in1 (richCompare .Lt v old) (λa t2=>∃b,a=.bool b/\t2=t1 /\
      codeAny (model P0 w0) A0 (.builtin "min.loop" ([.ref it,.none,.ref box],[],)) R0 (if b=true then{ t1 with heap:=t1.heap.update box (Obj.mapSeq λ_=>#[v,v]) } else t1)) E' t1)) E t) :
  codeAny (model P0 w0) A0 (.builtin "min.loop" ([.ref it,.none,.ref box],[],)) R0 t:=by
 refine codeAny_builtin F.entry_min_loop ?_;rw[aDA a3q _];show wpAny _ _ (seqItems? (.ref box) >>= λfound=>_) _ _ t;refine aTi (wpAny_seqItems hx 8 (aTi (azg (aP5 (h _) (λr t1 z=>?_) λ_ _ e=>e))));obtain⟨⟨c1,pY⟩,⟨rfl,fin⟩|⟨v,rfl,go⟩⟩:=z
 .exact aTi (aZd pY 8 (aTi (aNk (ak8 fin))))
 .refine aTi (ak8 (aTi (azg (a7y (aTi (aP5 (go _) (λa t2 y=>?_) λ_ _ e=>e))))));let(b,rfl,rfl,vY,):=y;refine aTi (a7y (auF (aTi (aNk (ak8 ?_)))));have name:(toString "min" ++ toString ".loop":String) ="min.loop":=9
  cases b with
  |true=>exact aTi (aZd pY 8 (aTi (aNk (by rw[name];exact ak8 (ayq a3q _,vY,)))))
  |false=>exact aTi (aNk (by rw[name];exact ak8 (ayq a3q _,vY,)))
theorem Yv{P0:Program}{w0:World}{A0:Around}{R0:Result->Shared->Prop}{it box:Addr}{t:Shared}{c:Nat}(hx:t.heap.get? box=!{ cls:=.type "list",dict:=none,data:=.seq #[] c,slots:=#[] })
  (h:∀E,wpAny (model P0 w0) A0.in1 (pyNext (.ref it)) (λr t1=>∃v c1,r=!v/\t1.heap.get? box=!{ cls:=.type "list",dict:=none,data:=.seq #[] c1,slots:=#[] } /\
   codeAny (model P0 w0) A0 (.builtin "min.loop" ([.ref it,.none,.ref box],[],)) R0 { t1 with heap:=t1.heap.update box (Obj.mapSeq λ_=>#[v,v]) }) E t) :
  codeAny (model P0 w0) A0 (.builtin "min.loop" ([.ref it,.none,.ref box],[],)) R0 t:=by
 refine codeAny_builtin F.entry_min_loop ?_;rw[aDA a3q _];show wpAny _ _ (seqItems? (.ref box) >>= λfound=>_) _ _ t;refine aTi (wpAny_seqItems hx 8 (aTi (azg (aP5 (h _) (λr t1 z=>?_) λ_ _ e=>e))));let(v,c1,rfl,pY,vY,):=z;have name:(toString "min" ++ toString ".loop":String) ="min.loop":=9
 exact aTi (ak8 (aTi (aZd pY 8 (by rw[name];exact ak8 (ayq a3q _,vY,)))))
def Oq(P0:Program)(w0:World)(A0:Around)(Good:Heap->Prop)(At:Nat->Value->Prop)(bt:Nat->Nat->Bool):Prop:=
 ∀(i j:Nat)(u v:Value)(t:Shared)(Q:Value->Shared->Prop)(E:Value->Shared->Prop),Good t.heap->At i u->At j v->Q (.bool (bt i j)) t->wpAny (model P0 w0) A0.in1 (richCompare .Lt u v) Q E t
section
variable{P0:Program}{w0:World}{A0:Around}{R0:Result->Shared->Prop}{it box:Addr}{o7 gI:List Addr}{cnt:Nat}{At:Nat->Value->Prop}{rB:Nat->Heap->Prop}{Good:Heap->Prop}{bt:Nat->Nat->Bool}
theorem XF(wk:Walks P0 w0 A0.in1 it o7 gI cnt At rB)(cmp:Oq P0 w0 A0 Good At bt)(off:box∉gI)(iP:box∉o7)(keep:∀h h':Heap,Good h->(∀b o,b∉gI->b≠box->h.get? b=!o->h'.get? b=!o)->Good h')(left:Nat) :
  ∀(i:Nat)(t:Shared)(best:Value)(c:Nat),cnt=i+1+left->rB (i+1) t.heap->Good t.heap->At (argBest bt i) best->t.heap.get? box=!(Bk best c) ->
  (∀v h' tk,At (argBest bt (cnt-1)) v->(∀b o,b∉gI->b≠box->t.heap.get? b=!o->h'.get? b=!o)->R0 (.ok (.ret v)) { t with heap:=h',toks:=tk })->codeAny (model P0 w0) A0 (.builtin "min.loop" ([.ref it,.none,.ref box],[],)) R0 t:=by
 induction left with
 |zero=>
  intro i t best c hc hs hg hb hx hR;exact O9 hx λE=>wk.done t _ _ (by rw[hc];exact hs) λh' tk kp=>((c,kp box _ off hx,),.inl (8,hR best _ tk (by rw[show cnt-1=i by lia];exact hb) λb o n1 n2 e=>(ahb _ _ (aUP n2)).trans (kp b o n1 e),),)
 |succ left ih=>
  intro i t best c hc hs hg hb hx hR;refine O9 hx λE=>wk.item (i+1) t _ _ 7 hs λv h' tk hv hs' kp=>((c,kp box _ off hx,),.inr (v,8,λE'=>?_,),);have good:=keep _ h' hg λb o n1 _ e=>kp b o n1 e;refine cmp (i+1) (argBest bt i) v best _ _ _ good hv hb (111,?_,);by_cases wu:bt (i+1) (argBest bt i)=true
  .rw [ahF wu];refine ih (i+1) _ v _ 7 (wk.frame _ _ _ hs' λb z7 o e=>(ahb _ _ (λz=>iP (by rw[z];exact z7))).trans e) (keep _ _ good λb o _ n2 e=>(ahb _ _ (aUP n2)).trans e) (by rw[argBest,ahF wu];exact hv) (aYT _ (kp box _ off hx) 8) λu h'' tk' hu ua=>?_;exact hR u h'' tk' hu λb o n1 n2 e=>ua b o n1 n2 ((ahb _ _ (aUP n2)).trans (kp b o n1 e))
  .rw [aah wu];exact ih (i+1) _ best c 7 hs' good (by rw[argBest,aah wu];exact hb) (kp box _ off hx) λu h'' tk' hu ua=>hR u h'' tk' hu λb o n1 n2 e=>ua b o n1 n2 (kp b o n1 e)
end
theorem ZeC{P0:Program}{w0:World}{A0:Around}{E0:Value->Shared->Prop}{t:Shared}{x:Value}{Q:Value->Shared->Prop}
  (h:wpAny (model P0 w0) A0.in1 (pyIter x) (λiv t2=>∃it o7 gI cnt At rB bt,∃Good:Heap->Prop,iv=.ref it/\Walks P0 w0 A0.in1 it o7 gI cnt At rB/\rB 0 t2.heap/\(∀b∈o7,b<t2.heap.objs.size)/\0<cnt/\Good t2.heap /\
   (∀h h':Heap,Good h->(∀b o,b∉gI->b≠t2.heap.objs.size->h.get? b=!o->h'.get? b=!o)->Good h')/\Oq P0 w0 A0 Good At bt /\
   ∀v h' tk,At (argBest bt (cnt-1)) v->(∀b o,b∉gI->t2.heap.get? b=!o->h'.get? b=!o)->Q v { t2 with heap:=h',toks:=tk }) E0 t):wpAny (model P0 w0) A0 (call (.builtin "min") [x]) Q E0 t:=by
 have name:(toString "min" ++ toString ".loop":String) ="min.loop":=9
 refine call_function_tree F.kind_min F.plain_min F.entry_min (F.args_min1 _) ?_;show wpAny _ _ (Builtin.Builtins.bindParams "min" ["key","default"] 0 ([],[],) >>= λbound=>_) _ _ t;refine aTi (wpAny_of_eq (show Builtin.Builtins.bindParams "min" ["key","default"] 0 ([],[],)=pure [none,none] from rfl) (aTi (ak8 (aTi (aP5 h (λiv t2 z=>?_) λ_ _ e=>e)))));let(it,o7,gI,cnt,At,rB,bt,Good,rfl,wk,hs,hf,pos,hg,keep,cmp,hQ,):=z;have iP:t2.heap.objs.size∉o7:=λm=>anG _ (hf _ m);have off:t2.heap.objs.size∉gI:=λm=>iP (wk.sub _ m);refine aTi (a8y ?_);rw[name];refine ak8 (ayq a3q _,Yv (aQ0 _ 8) λE=>wk.item 0 _ _ _ pos (wk.frame _ _ _ hs λb _ o e=>aJV _ e) λv h' tk hv hs' kp=>(v,_,8,kp _ _ off (aQ0 _ 8),?_,),);have k1:∀b o,b∉gI->t2.heap.get? b=!o->h'.get? b=!o:=λb o n1 e=>kp b o n1 (aJV _ e);have k2:∀(f:Obj->Obj) b o,b∉gI->t2.heap.get? b=!o->(h'.update t2.heap.objs.size f).get? b=!o:=λf b o n1 e=>(ahb _ _ (agd (a2o e))).trans (k1 b o n1 e);refine XF wk cmp off iP keep (cnt-1) 0 _ v _ 7 (wk.frame _ _ _ hs' λb z7 o e=>(ahb _ _ (λz=>iP (by rw[z];exact z7))).trans e) (keep _ _ hg λb o n1 _ e=>k2 _ b o n1 e) hv (aYT _ (kp _ _ off (aQ0 _ 8)) 8) λu h'' tk' hu ua=>?_;exact hQ u h'' tk' hu λb o n1 e=>ua b o n1 (aOt (a2o e)) (k2 _ b o n1 e)
end L2
namespace HT
open PySem PyProof.Rows
theorem XE(A:Around)(s:Shared)(a:Int)(t:Tok)(c:Int)(u:Tok)(prog:Program)(w:World)(E:Value->Shared->Prop)(Q:Value->Shared->Prop)(h:Q (.bool (decide (c<a))) s) :
  wpAny (model prog w) A (richCompare .Gt (.int a t) (.int c u)) Q E s:=
 (PyProof.Rows.gt_int h:wpAny (model prog w) A (compareOp .Gt (.int a t) (.int c u)) Q E s)
section
open PySem.SeqAt
open PySem.AutoSeq1 (wpAny_loadPart')
open PySem.MeetsSeq PySem.MeetsSeq2 PySem.MeetsSeq3
theorem Zdl(l b:Addr)(items items2:Array Value)(n n2:Nat)(dd dd2:Option Addr)(sl sl2:Array (Option Value))(ns ms:List Int)(hi:IntsAre items.toList ns)(hj:IntsAre items2.toList ms) :
  Meets (Builtin.«tuple.__gt__» ([.ref l,.ref b],[],))
   (λ_ R s=>s.heap.get? l=!{ cls:=.type "tuple",dict:=dd,data:=.seq items n,slots:=sl }/\s.heap.get? b=!{ cls:=.type "tuple",dict:=dd2,data:=.seq items2 n2,slots:=sl2 } /\
    R (.ok (.ret (.bool (lexLt ms ns)))) s):=
 .of_wp λprog w A R s h=>by
  let(hp,g,d,tk,os,):=s;let(hl,hb,h,):=h;have f2:=AutoSeq1.sub_tuple_tuple;have z1:items.size=ns.length:=by rw[<-hi.length];simp
  have z2:items2.size=ms.length:=by rw[<-hj.length];simp
  wp_walk using wpAny_loadPart' hl,wpAny_loadPart' hb,wpAny_forIn_list _ (λrest b s'=>b.1=none/\s'=(hp,g,d,tk,os,)/\∃(vs ws:List Value)(ns' ms':List Int),rest=vs.zip ws /\
   IntsAre vs ns'/\IntsAre ws ms'/\ns'.length+items2.size=ms'.length+items.size/\R (.ok (.ret (.bool (lexLt ms' ns')))) (hp,g,d,tk,os,)) _
  case turn=>
   rintro⟨y,x⟩ rest b s' ⟨hb',rfl,vs,ws,ns',ms',hz,zT,hwi,hlen,hR⟩;cases zT with
   |nil=>rw[List.zip_nil_left]at hz;cases hz
   |cons a t zS=>
    cases hwi with
    |nil=>rw[List.zip_nil_right]at hz;cases hz
    |cons c u zR=>
     rw[awQ]at hz;injection hz with hyx hrest
     injection hyx with hy hx
     subst hy hx;rw[aP]at hR;simp only[acz]at hlen;let(e,he,hiff,):=PM A.in1 (hp,g,d,tk,os,) a t c u;refine aTi (he prog w _ _ ?_);cases e with
     |true=>
      rw[ahF (hiff.mp 8).symm]at hR
      wp_walk
      exact(212,hrest,zS,zR,7,hR,)
     |false=>
      rw[aah (λq=>absurd (hiff.mpr q.symm) aJD)]at hR;have JD:=XE A.in1 (hp,g,d,tk,os,) a t c u prog w
      wp_walk using JD
      exact(_,8,by simpa using hR,)
  case fin=>
   rintro⟨b1,b2⟩ s' ⟨hb',rfl,vs,ws,ns',ms',hz,zT,hwi,hlen,hR⟩;simp only at hb';subst hb';have hv:lexLt ms' ns'=decide (items2.size<items.size):=by
    cases zT with
    |nil=>
     cases hwi with
     |nil=>
      simp only[acg]at hlen;rw[cM];exact(alG 7).symm
     |cons c u hw=>
      simp only[acg,acz]at hlen;rw[bf];exact(alG 7).symm
    |cons a t hv=>
     cases hwi with
     |nil=>
      simp only[acg,acz]at hlen;rw[Q5];exact(anN 7).symm
     |cons c u hw=>
      rw[awQ]at hz;cases hz
   rw[hv]at hR
   wp_walk
   exact(_,8,by simpa[Builtin.Tuple.tupleCompareSizes]using hR,)
  case h=>
   exact(8,8,items.toList,items2.toList,ns,ms,8,hi,hj,7,h,)
end
section
variable{prog:Program}{w:World}{A:Around}{E:Value->Shared->Prop}{s:Shared}
theorem oZ{l b:Addr}{items items2:Array Value}{ns ms:List Int}{Q:Value->Shared->Prop}(hl:IsTup s.heap l items)(hb:IsTup s.heap b items2)(hi:IntsAre items.toList ns)(hj:IntsAre items2.toList ms)
  (hu:A.units<cLine) (h:Q (.bool (lexLt ms ns)) s):wpAny (model prog w) A (compareOp .Gt (.ref l) (.ref b)) Q E s:=by
 let((cls,dd,data,sl,),ho,hc,n,hd,):=id hl;let((Kn,dd2,data2,sl2,),ho2,hc2,n2,hd2,):=id hb;simp only at hc hd hc2 hd2;subst hc hd hc2 hd2;exact richCompare_meets_room (op:=.Gt) (_,ho,8,) (_,ho2,8,) PySem.F.slot_tuple_gt PySem.F.entry_tuple_gt (PySem.F.args_tuple_gt_2 _ _) (Zdl l b items items2 n n2 dd dd2 sl sl2 ns ms hi hj)
  (ho,ho2,show Value.bool (lexLt ms ns)≠Value.notImplemented/\Q (.bool (lexLt ms ns)) s from((λx=>nomatch x),h,),) hu
end
end HT
namespace L2
open PySem PySem.Spec PyProof.Rows
inductive tH(K:W.Frag) (bt:List Int->List Int->Bool)(xs:List V)(H:Hp)(Q:VK):Prop
 |mk (p:Addr) (as:List Addr) (vs:List (List Int)):xs=[.ref p]->ah K H p (as.map V.ref)->as≠[]->as.length=vs.length->(∀(i:Nat)(a:Addr)(ns:List Int),as[i]?=!a->vs[i]?=!ns->bS K H a (ns.map V.int))->(∀(m:Nat)(a:Addr),m=argBest (λi j=>bt (vs.getD i []) (vs.getD j [])) (as.length-1)->as[m]?=!a->Q (.ref a) H)->tH K bt xs H Q
theorem GK{h h':Heap}{a:Addr}{us:Array Value}(x:IsTup h a us)(k:∀o,h.get? a=!o->h'.get? a=!o):IsTup h' a us:=by
 let(o,ho,r,):=x;exact(o,k o ho,r,)
theorem Oo{h:Heap}{a:Addr}{us:Array Value}(x:IsTup h a us):a<h.objs.size:=by
 let(o,ho,_,):=x;exact a2o ho
def qz(as:List Addr)(vs:List (List Int))(h:Heap):Prop:=∀(i:Nat)(a:Addr)(ns:List Int),as[i]?=!a->vs[i]?=!ns->∃us:List Value,IsTup h a us.toArray/\IntsAre us.toArray.toList ns
theorem Bj{as:List Addr}{us:List Value}(r:Vals (as.map V.ref) us){i:Nat}{v:Value}(h:us.toArray[i]?=!v):∃a,as[i]?=!a/\v=.ref a:=by
 have h':us[i]?=!v:=by simpa using h
 have hi:i<as.length:=by
  have:=r.length;rw[ano]at this;rw[this];exact(aFR.mp h').1
 let(u,hu,ru,):=r.get (i:=i) (x:=.ref as[i]) (by rw[aGb,aMp hi];rfl);rw[h']at hu;cases hu;cases ru;exact(as[i],aMp hi,8,)
theorem Hh{vs:List (List Int)}{i:Nat}{ns:List Int}(h:vs[i]?=!ns):vs.getD i []=ns:=by rw[aGH,h];rfl
section
variable{X:Cx}{K:W.Frag}
theorem Yu(hc:X.calm=true)(hu:X.A.units+1<cLine)(hK:X.K=K):bx X (.builtin "max") (tH K λa b=>HT.lexLt b a):=by
 subst hK;intro pins s σ H xs us Q I r h;let(p,as,vs,rfl,hq,hne,hlen,ht,q,):=h;let(u,rfl,rx,):=vals1 r;cases rx;let(its,rv,pl,hz,):=I.list hq;have hl:as.length=its.length:=by have:=rv.length;rwa [ano]at this
 have hu1:X.A.in1.units<cLine:=hu;have good0:qz as vs s.heap:=λi a ns h1 h2=>by
  let(us,r1,p1,_,):=I.tuple (ht i a ns h1 h2);exact(us,p1,EX r1,)
 have small:∀(i:Nat)(a:Addr)(ns:List Int),as[i]?=!a->vs[i]?=!ns->a<s.heap.objs.size:=λi a ns h1 h2=>by
  let(us,p1,_,):=good0 i a ns h1 h2;exact Oo p1
 have pos:0<its.length:=by rw[<-hl];exact auZ.mpr hne
 refine ZeB (aA9 pl.isList ?_);refine(s.heap.objs.size,_,[s.heap.objs.size],108,λi j=>HT.lexLt (vs.getD j []) (vs.getD i []),qz as vs,8,Walks.list (A:=X.A.in1) (show X.A.in1.handled=none from I.ok.hd hc) s.heap.objs.size p ?_ its.toArray,((_,aQ0 _ 8,8,8,),pl.isList.at λo e=>aJV _ e,),?_,by simpa using pos,?_,?_,?_,?_,)
 .let(o,e,_,):=pl.isList;exact aOt (a2o e)
 .intro b hb';have lt:p<s.heap.objs.size:=by let(o,e,_,):=pl.isList;exact a2o e
  show b<(s.heap.push _).objs.size;rw[aRL];simp only[acu,aYt,a5s]at hb';rcases hb' with rfl|rfl
  .exact avq _
  .exact aXp lt
 .intro i a ns h1 h2;let(us,p1,i1,):=good0 i a ns h1 h2;exact(us,GK p1 λo e=>aJV _ e,i1,)
 .intro h h' g kp i a ns h1 h2;let(us,p1,i1,):=g i a ns h1 h2;have lt:=small i a ns h1 h2;refine(us,GK p1 λo e=>kp a o (by simpa using aOt lt) (λz=>?_) e,i1,);have z':a=s.heap.objs.size+1:=by rw[z];exact aRL ..
  rw[z']at lt;exact absurd lt (Nat.not_lt.mpr (aD0 _))
 .intro i j u v t Q' E' g ai aj q';let(a,ha,rfl,):=Bj rv ai;let(b,hb,rfl,):=Bj rv aj;have vi:i<vs.length:=by rw[<-hlen];exact(aFR.mp ha).1
  have vj:j<vs.length:=by rw[<-hlen];exact(aFR.mp hb).1
  let(us,p1,i1,):=g i a _ ha (aMp vi);let(ws,p2,i2,):=g j b _ hb (aMp vj);refine(HT.oZ p1 p2 i1 i2 hu1 ?_:wpAny (model X.prog X.w) X.A.in1 (compareOp .Gt (.ref a) (.ref b)) Q' E' t);have q2:=q';dsimp only at q2;rw[Hh (aMp vi),Hh (aMp vj)]at q2;exact q2
 .intro v h' tk hv hk;let(a,ha,rfl,):=Bj rv hv;exact(.ref a,H,I.kept (t':=tk) (λb o e=>hk b o (by simpa using aOt (a2o e)) (aJV _ e)),8,q _ a (by rw[a3v,<-hl]) ha,)
theorem Yt(hc:X.calm=true)(hu:X.A.units+1<cLine)(hK:X.K=K):bx X (.builtin "min") (tH K HT.lexLt):=by
 subst hK;intro pins s σ H xs us Q I r h;let(p,as,vs,rfl,hq,hne,hlen,ht,q,):=h;let(u,rfl,rx,):=vals1 r;cases rx;let(its,rv,pl,hz,):=I.list hq;have hl:as.length=its.length:=by have:=rv.length;rwa [ano]at this
 have hu1:X.A.in1.units<cLine:=hu;have good0:qz as vs s.heap:=λi a ns h1 h2=>by
  let(us,r1,p1,_,):=I.tuple (ht i a ns h1 h2);exact(us,p1,EX r1,)
 have small:∀(i:Nat)(a:Addr)(ns:List Int),as[i]?=!a->vs[i]?=!ns->a<s.heap.objs.size:=λi a ns h1 h2=>by
  let(us,p1,_,):=good0 i a ns h1 h2;exact Oo p1
 have pos:0<its.length:=by rw[<-hl];exact auZ.mpr hne
 refine ZeC (aA9 pl.isList ?_);refine(s.heap.objs.size,_,[s.heap.objs.size],108,λi j=>HT.lexLt (vs.getD i []) (vs.getD j []),qz as vs,8,Walks.list (A:=X.A.in1) (show X.A.in1.handled=none from I.ok.hd hc) s.heap.objs.size p ?_ its.toArray,((_,aQ0 _ 8,8,8,),pl.isList.at λo e=>aJV _ e,),?_,by simpa using pos,?_,?_,?_,?_,)
 .let(o,e,_,):=pl.isList;exact aOt (a2o e)
 .intro b hb';have lt:p<s.heap.objs.size:=by let(o,e,_,):=pl.isList;exact a2o e
  show b<(s.heap.push _).objs.size;rw[aRL];simp only[acu,aYt,a5s]at hb';rcases hb' with rfl|rfl
  .exact avq _
  .exact aXp lt
 .intro i a ns h1 h2;let(us,p1,i1,):=good0 i a ns h1 h2;exact(us,GK p1 λo e=>aJV _ e,i1,)
 .intro h h' g kp i a ns h1 h2;let(us,p1,i1,):=g i a ns h1 h2;have lt:=small i a ns h1 h2;refine(us,GK p1 λo e=>kp a o (by simpa using aOt lt) (λz=>?_) e,i1,);have z':a=s.heap.objs.size+1:=by rw[z];exact aRL ..
  rw[z']at lt;exact absurd lt (Nat.not_lt.mpr (aD0 _))
 .intro i j u v t Q' E' g ai aj q';let(a,ha,rfl,):=Bj rv ai;let(b,hb,rfl,):=Bj rv aj;have vi:i<vs.length:=by rw[<-hlen];exact(aFR.mp ha).1
  have vj:j<vs.length:=by rw[<-hlen];exact(aFR.mp hb).1
  let(us,p1,i1,):=g i a _ ha (aMp vi);let(ws,p2,i2,):=g j b _ hb (aMp vj);refine(HT.oU p1 p2 i1 i2 hu1 ?_:wpAny (model X.prog X.w) X.A.in1 (compareOp .Lt (.ref a) (.ref b)) Q' E' t);have q2:=q';dsimp only at q2;rw[Hh (aMp vi),Hh (aMp vj)]at q2;exact q2
 .intro v h' tk hv hk;let(a,ha,rfl,):=Bj rv hv;exact(.ref a,H,I.kept (t':=tk) (λb o e=>hk b o (by simpa using aOt (a2o e)) (aJV _ e)),8,q _ a (by rw[a3v,<-hl]) ha,)
end
section
variable{X:Cx}
inductive pS(x:V)(vs:List V)(H:Hp)(Q:VK):Prop
 |mk (l:Addr) (ns:List Int) (k:Int):x=.ref l->vs=[.int k]->H l=!(.lst (ns.map V.int))->k∈ns->Q .aE (upd H l (.lst ((ns.erase k).map V.int)))->pS x vs H Q
theorem Px(k:Int):∀(ns:List Int),k∈ns->∃j,ns[j]?=!k/\(∀m z,m<j->ns[m]?=!z->z≠k)/\ns.erase k=ns.eraseIdx j
 | [],h=>nomatch h
 |x ::ns,h=>by
  by_cases hx:x=k
  .subst hx;exact(0,8,λm z hm=>absurd hm (aRO _),by rw[List.erase_cons_head,List.eraseIdx_cons_zero],)
  .have hm:k∈ns:=by
    rcases aPx.mp h with e|e
    .exact absurd e.symm hx
    .exact e
   let(j,h1,h2,h3,):=Px k ns hm;refine(j+1,by simpa using h1,λm z hm hz=>?_,?_,)
   .cases m with
    |zero=>
     have e:x=z:=by simpa using hz
     rw[<-e];exact hx
    |succ m=>exact h2 m z 7 (by simpa using hz)
   .rw [List.erase_cons_tail (by simpa using hx),h3,aDb]
theorem Y3{xs:List V}{us:List Value}:∀(j:Nat),Vals xs us->Vals (xs.eraseIdx j) (us.eraseIdx j):=by
 intro j r
 induction r generalizing j with
 |nil=>exact .nil
 |cons h t ih=>
  cases j with
  |zero=>exact t
  |succ j=>exact .cons h (ih j)
theorem LM:Rf X "list.remove" pS:=by
 intro pins s σ H x vs v us Q I rx rv h;let(l,ns,k,rfl,rfl,hH,hk,q,):=h;cases rx;let(u,rfl,ru,):=rv.one;let(tk,rfl,):=ru;let(z,its,n,r,hl,e,):=I.ju hH;rw[ano]at hl z;let(j,h1,h2,h3,):=Px k ns hk;have get:∀(m:Nat)(hm:m<its.toArray.size),∃(i:Int)(t:Tok),ns[m]?=!i/\its.toArray[m]=.int i t:=λm hm=>by
  have hm':m<ns.length:=by rw[hl];simpa using hm
  let(w,hw,rw',):=r.get (i:=m) (x:=.int ns[m]) (by rw[aGb,aMp hm'];rfl);let(t,rfl,):=rw';refine(ns[m],t,aMp hm',?_,);have:its[m]?=!its[m]:=aMp (by simpa using hm);rw[hw]at this;simpa using(aFB this).symm
 have hj:j<its.toArray.size:=by
  have:=(aFR.mp h1).1;rw[hl]at this;simpa using this
 refine call_meets F.slot_list_remove (_,e,8,) F.entry_list_remove (F.args_list_remove_2 _ _) (MeetsSeq.list_remove l its.toArray n (.int k tk) (λy=>match y with| .int i _=>i ==k|_=>false) (λy hy=>?_) j hj ?_ (λm hm DJ=>?_) (by rw[a3v,<-hl];exact z)) (e,?_,)
 .let(m,hm,rfl,):=Array.getElem_of_mem hy;let(i,t,_,e2,):=get m hm;rw[e2];exact MeetsSeq.EqGives.int i k t tk
 .let(i,t,e1,e2,):=get j hj;rw[h1]at e1;cases e1;rw[e2];simp
 .let(i,t,e1,e2,):=get m hm;rw[e2];simpa using h2 m i DJ e1
 .refine (.aE,_,I.qT (its':=its.eraseIdx j) (ys:=(ns.erase k).map V.int) hH e ?_ ?_ ?_,8,q,)
  .rw [List.eraseIdxIfInBounds_toArray]
  .rw [h3];have em:∀(xs:List Int)(i:Nat),(xs.eraseIdx i).map V.int=(xs.map V.int).eraseIdx i:=λxs=>by
    induction xs with
    |nil=>intro i;rfl
    |cons y xs ih=>intro i;cases i with
     |zero=>rfl
     |succ i=>rw[aDb,aQv,aQv,aDb,ih]
   rw[em];exact Y3 j r
  .rw [ano];exact bbd aIG z
end
section
variable{κ:Type}[DecidableEq κ]
noncomputable def aW(kvs:List (κ×V))(k:κ):Option V:=(kvs.find? λkv=>decide (kv.1=k)).map (·.2)
noncomputable def putK(kvs:List (κ×V))(k:κ)(v:V):List (κ×V):=
 if(kvs.any λkv=>decide (kv.1=k))=true then kvs.map (λkv=>if kv.1=k then(kv.1,v) else kv) else kvs++[(k,v)]
noncomputable def cH(kvs:List (κ×V))(k:κ):List (κ×V):=kvs.filter λkv=>decide (kv.1≠k)
theorem ZU{p:κ×V}{r:List (κ×V)}{k:κ}(e:p.1=k):aW (p ::r) k=!p.2:=by simp[aW,find?_cons,e]
theorem ZS{p:κ×V}{r:List (κ×V)}{k:κ}(e:¬p.1=k):aW (p ::r) k=aW r k:=by simp[aW,find?_cons,e]
theorem EN(k:κ):∀kvs:List (κ×V),(kvs.any λkv=>decide (kv.1=k))=(aW kvs k).isSome
 | []=>rfl
 |p ::r=>by
  rw[any_cons];by_cases e:p.1=k
  .simp only[ZU e,anN e,Bool.true_or,Option.isSome_some]
  .rw [ZS e,alG e,Bool.false_or];exact EN k r
theorem Pw(k j:κ)(y:V):∀kvs:List (κ×V),aW (kvs.map λkv=>if kv.1=k then(kv.1,y) else kv) j=(aW kvs j).map λx=>if j=k then y else x
 | []=>rfl
 |p ::r=>by
  have ih:=Pw k j y r;rw[aQv];by_cases h:p.1=k
  .rw [ahF h];by_cases e:p.1=j
   .rw [ZU (p:=(p.1,y)) e,ZU e,a10,ahF (e.symm.trans h)]
   .rw [ZS (p:=(p.1,y)) e,ZS e,ih]
  .rw [aah h];by_cases e:p.1=j
   .rw [ZU (p:=p) e,ZU e,a10,aah (λz=>h (e.trans z))]
   .rw [ZS (p:=p) e,ZS e,ih]
theorem Qy(k j:κ)(y:V):∀kvs:List (κ×V),aW kvs k=none->aW (kvs++[(k,y)]) j=if j=k then some y else aW kvs j
 | [],_=>by
  by_cases e:k=j
  .rw [ahF e.symm];exact ZU (p:=(k,y)) e
  .rw [aah (λz=>e z.symm)];exact ZS (p:=(k,y)) e
 |p ::r,hn=>by
  rw[List.cons_append];have hk:¬p.1=k:=λz=>by rw[ZU z]at hn;cases hn
  rw[ZS hk]at hn;have ih:=Qy k j y r hn;by_cases e:p.1=j
  .rw [ZU e,ZU e,aah (λz=>hk (e.trans z))]
  .rw [ZS e,ZS e,ih]
theorem HL(kvs:List (κ×V))(k j:κ)(y:V):aW (putK kvs k y) j=if j=k then some y else aW kvs j:=by
 unfold putK;by_cases a:(kvs.any λkv=>decide (kv.1=k))=true
 .rw [ahF a,Pw];rw[EN]at a;by_cases e:j=k
  .let(x,hx,):=Option.isSome_iff_exists.mp a;rw[ahF e,e,hx,a10,ahF 8]
  .rw [aah e];cases aW kvs j with
   |none=>rfl
   |some x=>rw[a10,aah e]
 .rw [aah a];refine Qy k j y kvs ?_;rw[EN]at a;cases q:aW kvs k with
  |none=>rfl
  |some x=>rw[q]at a;exact(a 8).elim
theorem As(kvs:List (κ×V))(k:κ)(v:V):(putK kvs k v).length<=kvs.length+1:=by
 unfold putK;split
 .rw [ano];lia
 .rw [a96,acz,acg];lia
theorem XD{kvs:List (κ×V)}{k:κ}(v:V)(h:aW kvs k=none):putK kvs k v=kvs++[(k,v)]:=by
 unfold putK;rw[EN,h];exact aah 9
theorem cW.d7{o:Option V}{u:Option Value}(r:cW o u):o.isSome=u.isSome:=by
 cases o with
 |none=>cases u with
  |none=>rfl
  |some _=>exact(show False from r).elim
 |some _=>cases u with
  |none=>exact(show False from r).elim
  |some _=>rfl
theorem cW.getD{o:Option V}{u:Option Value}{d:V}{d':Value}(r:cW o u)(rd:RelV d d'):RelV (o.getD d) (u.getD d'):=by
 cases o with
 |none=>cases u with
  |none=>exact rd
  |some _=>exact(show False from r).elim
 |some _=>cases u with
  |none=>exact(show False from r).elim
  |some _=>exact r
theorem KV.val{kvs:List (κ×V)}{vs:List (κ×Value)}(r:KV kvs vs)(k:κ):cW (aW kvs k) (valueAt vs k):=by
 unfold KV at r
 induction r with
 |nil=>exact True.intro
 | @cons p q ps qs h t ih=>
  let(h1,h2,):=h;by_cases e:p.1=k
  .have e':q.1=k:=h1.symm.trans e;have b:valueAt (q ::qs) k=!q.2:=by simp[valueAt,find?_cons,e']
   rw[ZU e,b];exact h2
  .have e':¬q.1=k:=λz=>e (h1.trans z);have b:valueAt (q ::qs) k=valueAt qs k:=by simp[valueAt,find?_cons,e']
   rw[ZS e,b];exact ih
theorem KV.any{kvs:List (κ×V)}{vs:List (κ×Value)}(r:KV kvs vs)(k:κ):(kvs.any λkv=>decide (kv.1=k))=vs.any λkv=>decide (kv.1=k):=by
 unfold KV at r
 induction r with
 |nil=>rfl
 |cons h t ih=>rw[any_cons,any_cons,ih,h.1]
theorem KV.repl{kvs:List (κ×V)}{vs:List (κ×Value)}(r:KV kvs vs)(k:κ){y:V}{u:Value}(ry:RelV y u) :
  KV (kvs.map λkv=>if kv.1=k then(kv.1,y) else kv) (vs.map λkv=>if kv.1=k then(kv.1,u) else kv):=by
 unfold KV at r ⊢
 induction r with
 |nil=>exact .nil
 | @cons p q ps qs h t ih=>
  rw[aQv,aQv];refine .cons ?_ ih;let(h1,h2,):=h;by_cases e:p.1=k
  .rw [ahF e,ahF (h1.symm.trans e)];exact(h1,ry,)
  .rw [aah e,aah (λz=>e (h1.trans z))];exact(h1,h2,)
theorem KV.put{kvs:List (κ×V)}{vs:List (κ×Value)}(r:KV kvs vs)(k:κ){y:V}{u:Value}(ry:RelV y u):KV (putK kvs k y) (stored vs k u):=by
 unfold putK stored;rw[r.any k];by_cases e:(vs.any λkv=>decide (kv.1=k))=true
 .rw [ahF e,ahF e];exact r.repl k ry
 .rw [aah e,aah e];exact Paired.snoc r (8,ry,)
theorem KV.drop{kvs:List (κ×V)}{vs:List (κ×Value)}(r:KV kvs vs)(k:κ):KV (cH kvs k) (without vs k):=by
 unfold KV at r ⊢;unfold cH without
 induction r with
 |nil=>exact .nil
 | @cons p q ps qs h t ih=>
  let(h1,h2,):=h;rw[a6U,a6U];by_cases e:p.1=k
  .have a:¬decide (p.1≠k)=true:=by simp[e]
   have b:¬decide (q.1≠k)=true:=by simp[h1.symm.trans e]
   rw[aah a,aah b];exact ih
  .have e':¬q.1=k:=λz=>e (h1.trans z);have a:decide (p.1≠k)=true:=by simp[e]
   have b:decide (q.1≠k)=true:=by simp[e']
   rw[ahF a,ahF b];exact .cons (h1,h2,) ih
theorem KV.length{kvs:List (κ×V)}{vs:List (κ×Value)}(r:KV kvs vs):kvs.length=vs.length:=Paired.length r
theorem XC(kvs:List (κ×V))(k:κ):(cH kvs k).length<=kvs.length:=ayM _ _
end
theorem iR{P:Program}{w:World}{k:Key}{u:Value}(r:RelV (kV k) u):(ZN P w).is k u=true:=by
 cases k with
 |inl i=>let(t,e,):=(show ∃t,u=Value.int i t from r);subst e;exact Zew P w i t
 |inr x=>let(t,e,):=(show ∃t,u=Value.str x t from r);subst e;exact Zex P w x t
theorem Qx{P:Program}{w:World}:∀{ks:List Key}{us:List Value},Vals (ks.map kV) us->ItemsAre (ZN P w) ks us
 | [],_,r=>by rw[map_nil]at r;cases r;exact .nil
 |k ::ks,_,r=>by
  rw[aQv]at r;cases r with
  |cons h t=>exact .cons (iR h) (Qx t)
abbrev KT(H:Hp):List (List Key×V)->List (List Key×Addr×Value)->Prop:=Paired λp q=>p.1=q.1/\H q.2.1=!(.tup (p.1.map kV))/\RelV p.2 q.2.2
theorem KT.val{H:Hp}{kvs:List (List Key×V)}{xs:List (List Key×Addr×Value)}(r:KT H kvs xs)(k:List Key):cW (aW kvs k) ((atKey xs k).map (·.2)):=by
 induction r with
 |nil=>exact True.intro
 | @cons p q ps qs h t ih=>
  let(h1,_,h2,):=h;by_cases e:p.1=k
  .have e':q.1=k:=h1.symm.trans e;have b:atKey (q ::qs) k=!q.2:=by simp[atKey,find?_cons,e']
   rw[ZU e,b];exact h2
  .have e':¬q.1=k:=λz=>e (h1.trans z);have b:atKey (q ::qs) k=atKey qs k:=by simp[atKey,find?_cons,e']
   rw[ZS e,b];exact ih
theorem KT.repl{H:Hp}{kvs:List (List Key×V)}{xs:List (List Key×Addr×Value)}(r:KT H kvs xs)(k:List Key){y:V}{u:Value}(ry:RelV y u) :
  KT H (kvs.map λkv=>if kv.1=k then(kv.1,y) else kv) (xs.map (putAt k u)):=by
 induction r with
 |nil=>exact .nil
 | @cons p q ps qs h t ih=>
  rw[aQv,aQv];refine .cons ?_ ih;let(h1,h2,h3,):=h;unfold putAt;by_cases e:p.1=k
  .rw [ahF e,ahF (h1.symm.trans e)];exact(h1,h2,ry,)
  .rw [aah e,aah (λz=>e (h1.trans z))];exact(h1,h2,h3,)
theorem KT.put{H:Hp}{kvs:List (List Key×V)}{xs:List (List Key×Addr×Value)}(r:KT H kvs xs)(k:List Key){b:Addr}{y:V}{u:Value}(hb:H b=!(.tup (k.map kV)))(ry:RelV y u) :
  KT H (putK kvs k y) (storedH xs k b u):=by
 have e:(kvs.any λkv=>decide (kv.1=k))=(atKey xs k).isSome:=by
  rw[EN,(r.val k).d7,Option.isSome_map]
 unfold putK storedH;rw[e];by_cases q:(atKey xs k).isSome=true
 .rw [ahF q,ahF q];exact r.repl k ry
 .rw [aah q,aah q];exact Paired.snoc r (8,hb,ry,)
theorem KT.keeps{H H':Hp}{kvs:List (List Key×V)}{xs:List (List Key×Addr×Value)}(r:KT H kvs xs)(ht:∀b ys,H b=!(.tup ys)->H' b=!(.tup ys)):KT H' kvs xs:=
 Paired.tW r λ_ _ z=>(z.1,ht _ _ z.2.1,z.2.2,)
section
variable{P:Program}{w:World}{H:Hp}{h:Heap}{a:Addr}
theorem xP{u:HO}(ok:dI P w H h)(e:Rd H a u):aK P w H h a u:=e.ok ok
theorem jM{kvs:List (Key×V)}(ok:dI P w H h)(e:Rd H a (.dK kvs)):kvs.length<=sizeLine/\(a ==sysModules)=false/\∃vs,KV kvs vs/\h.DictOf (ZN P w) a vs:=
 show aK P w H h a (.dK kvs) from xP ok e
theorem uB{kvs:List (Key×V)}(ok:dI P w H h)(e:H a=!(.dK kvs)):kvs.length<=sizeLine/\(a ==sysModules)=false/\∃vs,KV kvs vs/\h.DictOf (ZN P w) a vs:=jM ok (.inl e)
theorem Eu{ks:List Key}(ok:dI P w H h)(e:H a=!(.tup (ks.map kV))):(tupleKind (ZN P w)).is h ks a:=by
 let(_,its,r,o,h1,h2,n,h3,):=(show aK P w H h a (.tup (ks.map kV)) from ok a _ e);exact(o,its.toArray,n,h1,h2,h3,by simpa using Qx r,)
theorem jL{kvs:List (List Key×V)}(ok:dI P w H h)(e:Rd H a (.dT kvs)):kvs.length<=sizeLine/\(a ==sysModules)=false /\
  ∃xs,KT H kvs xs/\h.DictOfH (tupleKind (ZN P w)) a xs:=by
 let(z,y,xs,r,o,es,ep,h1,h2,h3,h4,h5,):=(show aK P w H h a (.dT kvs) from xP ok e);refine(z,y,xs,r,o,es,ep,h1,h2,h3,h4,λx hx=>?_,h5,);have all:∀{l:List (List Key×V)}{m:List (List Key×Addr×Value)},KT H l m->∀x∈m,(tupleKind (ZN P w)).is h x.1 x.2.1:=by
  intro l m q
  induction q with
  |nil=>intro x hx;exact nomatch hx
  | @cons p q ps qs hq t ih=>
   intro x hx;rcases aPx.mp hx with e|hx
   .subst e;exact Eu ok (by rw[<-hq.1];exact hq.2.1)
   .exact ih x hx
 exact all r x hx
theorem Eb{kvs:List (List Key×V)}(ok:dI P w H h)(e:H a=!(.dT kvs)):kvs.length<=sizeLine/\(a ==sysModules)=false /\
  ∃xs,KT H kvs xs/\h.DictOfH (tupleKind (ZN P w)) a xs:=jL ok (.inl e)
end
def fm(H:Hp)(a:Addr)(y:V)(r:Option V):Prop:=
 (∃kvs k,Rd H a (.dK kvs)/\y=kV k/\r=aW kvs k)\/∃kvs k b,Rd H a (.dT kvs)/\y=.ref b/\H b=!(.tup (k.map kV))/\r=aW kvs k
def k6(H:Hp)(a:Addr)(y v:V)(H':Hp):Prop:=
 (∃kvs k,H a=!(.dK kvs)/\y=kV k/\kvs.length<sizeLine/\H'=upd H a (.dK (putK kvs k v))) \/
 ∃kvs k b,H a=!(.dT kvs)/\y=.ref b/\H b=!(.tup (k.map kV))/\kvs.length<sizeLine/\H'=upd H a (.dT (putK kvs k v))
theorem fm.k{H:Hp}{a:Addr}{kvs:List (Key×V)}{k:Key}(e:H a=!(.dK kvs)):fm H a (kV k) (aW kvs k):=.inl (kvs,k,.inl e,8,8,)
theorem k6.k{H:Hp}{a:Addr}{kvs:List (Key×V)}{k:Key}{v:V}(e:H a=!(.dK kvs))(hl:kvs.length<sizeLine):k6 H a (kV k) v (upd H a (.dK (putK kvs k v))):=.inl (kvs,k,e,8,hl,8,)
section
variable{X:Cx}{pins:List (Addr×Obj)}{σ:St}{H:Hp}{s:Shared}{a:Addr}{y v:V}{u r:Value}{o:Option V}{A:Around}{E:Value->Shared->Prop}
theorem Inv.big(I:Inv X pins σ H s):sysModules<s.heap.objs.size:=by
 have h:mainGlobals<s.heap.objs.size:=(I.mod.glob.keeps I.bk).lt;exact aDF 9 h
theorem Qw{Q:Value->Shared->Prop}(hu:A.units+1<cLine)(I:Inv X pins σ H s)(g:fm H a y (!v))(ry:RelV y u)(h:∀w' s',Inv X pins σ H s'->RelV v w'->Q w' s') :
  wpAny (model X.prog X.w) A (getItem (.ref a) u) Q E s:=by
 rcases g with⟨kvs,k,e,ey,l⟩|⟨kvs,k,b,e,ey,eb,l⟩
 .subst ey;let(z,hd,vs,rel,dd,):=jM I.hok e;let(w',hw,rw',):=cW.some_of (v:=v) (o:=valueAt vs k) (by rw[l];exact rel.val k);exact wpAny_getItem_of (iR ry) dd.mapOf hw (h w' _ (I.tok _) rw')
 .subst ey;cases(show u=Value.ref b from ry);let(z,hd,xs,rel,dd,):=jL I.hok e;let(w',hw,rw',):=cW.some_of (v:=v) (o:=(atKey xs k).map (·.2)) (by rw[l];exact rel.val k);let(p,hp,hp2,):=Option.map_eq_some_iff.mp hw;refine wpAny_getItem_heap (a5f hu) (Eu I.hok eb) dd hp ?_;rw[hp2];exact h w' _ (I.tok _) rw'
theorem Kf{Q:Value->Shared->Prop}(hu:A.units+1<cLine)(I:Inv X pins σ H s)(g:fm H a y o)(ry:RelV y u)(h:∀s',Inv X pins σ H s'->Q (.bool o.isSome) s') :
  wpAny (model X.prog X.w) A (compareOp .In u (.ref a)) Q E s:=by
 rcases g with⟨kvs,k,e,ey,l⟩|⟨kvs,k,b,e,ey,eb,l⟩
 .subst ey;let(z,hd,vs,rel,dd,):=jM I.hok e;refine wpAny_in_of (iR ry) hd dd.mapOf ?_;rw[<-(rel.val k).d7,<-l];exact h _ (I.tok _)
 .subst ey;cases(show u=Value.ref b from ry);let(z,hd,xs,rel,dd,):=jL I.hok e;refine wpAny_in_heap (a5f hu) (Eu I.hok eb) hd dd ?_;have q:=(rel.val k).d7;rw[Option.isSome_map]at q;rw[<-q,<-l];exact h _ (I.tok _)
theorem Hg{h':Heap}{t':Nat}{ob:HO}(I:Inv X pins σ H s)(mu:Fc (H a))(hs:Heap.SameBut a s.heap h')(he:∃q,h'.get? a=!q)(new:aK X.prog X.w (upd H a ob) h' a ob) :
  Inv X pins σ (upd H a ob) { s with heap:=h',toks:=t' }:=
 I.write (x:=a) (e:=a) mu (.inl 8) (λb q hb z=>(hs.2 b hb).trans z) he new
theorem KN{P:Program}{w:World}{H':Hp}{h':Heap}{kvs:List (Key×V)}{vs:List (Key×Value)}(z:kvs.length<=sizeLine)(hd:(a ==sysModules)=false)(rel:KV kvs vs)(dd:h'.DictOf (ZN P w) a vs) :
  aK P w H' h' a (.dK kvs):=(z,hd,vs,rel,dd,)
theorem Qv{H':Hp}{Q:Unit->Shared->Prop}(hu:A.units+1<cLine)(I:Inv X pins σ H s)(g:k6 H a y v H')(ry:RelV y u)(rv:RelV v r)(h:∀s',Inv X pins σ H' s'->Q () s') :
  wpAny (model X.prog X.w) A (setItem (.ref a) u r) Q E s:=by
 rcases g with⟨kvs,k,e,ey,l,eH⟩|⟨kvs,k,b,e,ey,eb,l,eH⟩
 .subst ey eH;let(z,hd,vs,rel,dd,):=uB I.hok e;have hz:vs.length<=sizeLine:=by rw[<-rel.length];exact z
  have hl:(putK kvs k v).length<=sizeLine:=by have:=As kvs k v;lia
  refine wpAny_setItem_pairs (hsz:=hz) (iR ry) dd λh' vp hs=>h _ ?_;have he:∃q,h'.get? a=!q:=let(q,_,_,hq,_,):=vp;(q,hq,);exact Hg I (by rw[e];exact True.intro) hs he (KN hl hd (rel.put k rv) vp)
 .subst ey eH;cases(show u=Value.ref b from ry);let(z,hd,xs,rel,dd,):=Eb I.hok e;have hz:xs.length<=sizeLine:=by rw[<-Paired.length rel];exact z
  have hl:(putK kvs k v).length<=sizeLine:=by have:=As kvs k v;lia
  refine wpAny_setItem_heap (hsz:=hz) (a5f hu) (Eu I.hok eb) dd λh' vp hs=>h _ ?_;let(q,es,ep,hq,h2,h3,h4,_,h5,):=vp;refine Hg I (by rw[e];exact True.intro) hs (q,hq,) (hl,hd,_,(rel.put k eb rv).keeps λc ys ec=>?_,q,es,ep,hq,h2,h3,h4,h5,);rw[Zg (yd ec e (λz=>nomatch z))];exact ec
end
section
variable{X:Cx}{pins:List (Addr×Obj)}{σ:St}{H:Hp}{s:Shared}{a:Addr}{kvs:List (Key×V)}{k:Key}{u:Value}{A:Around}{E:Value->Shared->Prop}
theorem Ed{v:V}{more:List Value}{Q:Value->Shared->Prop}(I:Inv X pins σ H s)(e:H a=!(.dK kvs))(ry:RelV (kV k) u)(l:aW kvs k=!v)(hm:more=[]\/∃x,more=[x])
  (h:∀w' s',Inv X pins σ (upd H a (.dK (cH kvs k))) s'->RelV v w'->Q w' s'):wpAny (model X.prog X.w) A (call (.builtin "dict.pop") (.ref a ::u ::more)) Q E s:=by
 let(z,hd,vs,rel,dd,):=uB I.hok e;let(w',hw,rw',):=cW.some_of (v:=v) (o:=valueAt vs k) (by rw[<-l];exact rel.val k);have hp:(keyPart u).isSome=true:=by
  cases k with
  |inl i=>let(t,q,):=(show ∃t,u=Value.int i t from ry);subst q;rfl
  |inr x=>let(t,q,):=(show ∃t,u=Value.str x t from ry);subst q;rfl
 have ha:argsOk "dict.pop" (.ref a ::u ::more,[],):=by
  rcases hm with q|⟨x,q⟩
  .subst q;exact PySem.F.args_dict_pop_2 _ _
  .subst q;exact PySem.F.args_dict_pop_3 _ _ _
 refine call_meetsIn PySem.F.slot_dict_pop dd.typeIs PySem.F.entry_dict_pop ha (meets_dict_pop_there (ZN X.prog X.w) a (iR ry) more hm hp)
  (vs,w',dd,by rw[<-rel.length];exact z,hw,λh' vp hs=>h w' _ ?_ rw',)
 have he:∃q,h'.get? a=!q:=let(q,_,_,hq,_,):=vp;(q,hq,);exact Hg I (by rw[e];exact True.intro) hs he (KN (bbd (XC kvs k) z) hd (rel.drop k) vp)
end
def E7(i:Expr):Prop:=∀ov iv,subscripted i false ov iv=operate [ov,iv] (getItem ov iv)
theorem WW{prog:Program}{w:World}{A:Around}{E:Value->Shared->Prop}{s:Shared}{env:Env}{value slice:Expr}{pos:Pos}{T id:String}{Q:Value->Shared->Prop}
  (hl:typeLookup (.type T) "__getitem__"=pure (!(.builtin id))) (hs:E7 slice)
  (h:wpAny (model prog w) A (eval value env) (λo s₁=>wpAny (model prog w) A (eval slice env) (λi s₂=>s₂.TypeIs o T/\wpAny (model prog w) A (getItem o i) Q E s₂) E s₁) E s) :
  wpAny (model prog w) A (eval (.Subscript value slice pos) env) Q E s:=by
 refine Subscript_ (aP5 h (λo s₁ h₁=>aP5 h₁ (λi s₂ h₂=>?_) λ_ _ x=>x) λ_ _ x=>x);let(hT,h₂,):=h₂;unfold subscriptTail;refine aTi ?_;rw[getitemInPython_of_ne hT.not_modules];refine aTi (wpAny_specialOf hT hl ?_);have fin:wpAny (model prog w) A (subscripted slice false o i) (λr s₃=>wpAny (model prog w) A (letTemporaryGo value o r >>= λ_=>pure r) Q E s₃) E s₂:=by
  rw[hs o i];exact wpAny_operating (aP5 h₂ (λr s₃ h₃=>aTi (wpAny_letTemporaryGo (ak8 h₃))) λ_ _ x=>x)
 first
  |exact ak8 (aTi fin)
  |exact aTi (ak8 (aTi fin))
  |exact aTi fin
theorem ZeD{X:Cx}{pins:List (Addr×Obj)}{σ:St}{H:Hp}{s:Shared}{a:Addr}{y:V}{o:Option V}(I:Inv X pins σ H s)(g:fm H a y o):s.TypeIs (.ref a) "dict":=by
 rcases g with⟨kvs,k,e,_,_⟩|⟨kvs,k,b,e,_,_,_⟩
 .let(_,_,vs,_,dd,):=jM I.hok e;exact dd.typeIs
 .let(_,_,xs,_,dd,):=jL I.hok e;exact dd.typeIs
inductive yy (Q:VK)(x y:V)(H2:Hp):Prop
 |mk (a:Addr)(v:V):x=.ref a->fm H2 a y (!v)->Q v H2->yy Q x y H2
def Ci(td ty:TE):TE:=λσ H Q=>td σ H λx H1=>ty σ H1 (yy Q x)
inductive Ea (Q:VK)(y x:V)(H2:Hp):Prop
 |mk (a:Addr)(o:_):x=.ref a->fm H2 a y o->Q (.bl o.isSome) H2->Ea Q y x H2
def IA(ty td:TE):TE:=λσ H Q=>ty σ H λy H1=>td σ H1 (Ea Q y)
def Cu(td ty tv:TE):TS:=λD σ H=>tv σ H λv H1=>td σ H1 λx H2=>ty σ H2 λy H3=>∃a H4,x=.ref a/\k6 H3 a y v H4/\D.nx σ H4
def Cv(td ty tv:TE)(rd:V->V->Hp->VK->Prop):TS:=λD σ H=>td σ H λx H1=>ty σ H1 λy H2=>∃a v,x=.ref a/\fm H2 a y (!v) /\
 tv σ H2 λy2 H3=>rd v y2 H3 λz H4=>∃H5,k6 H4 a y z H5/\D.nx σ H5
section
variable{X:Cx}{o i e value:Expr}{pos pos' tpos:Pos}{td ty tv:TE}
theorem O8(hu:X.A.units+1<cLine)(ho:PE X o td)(hi:PE X i ty)(hs:E7 i):PE X (.Subscript o i pos) (Ci td ty):=by
 intro pins s σ H Q I h;refine WW PySem.F.slot_dict_getitem.lookup hs (cO (ho pins s σ H _ I h) λu s1 x H1 I1 rx q1=>bI (hi pins s1 σ H1 _ I1 q1) λiv s2 (y,H2,I2,ry,a,v,ex,g,q2,)=>?_);subst ex;obtain rfl:u=Value.ref a:=rx;exact(ZeD I2 g,Qw hu I2 g ry λw' s3 I3 rw'=>(v,H2,I3,rw',q2,),)
theorem Wx(hu:X.A.units+1<cLine)(hi:PE X i ty)(ho:PE X o td):PC X .In i o (IA ty td):=by
 intro pins s σ H Q I h;refine cO (hi pins s σ H _ I h) λiv s1 y H1 I1 ry q1=>bI (ho pins s1 σ H1 _ I1 q1) λu s2 (x,H2,I2,rx,a,ov,ex,g,q2,)=>?_;subst ex;obtain rfl:u=Value.ref a:=rx;exact Kf hu I2 g ry λs3 I3=>(.bl ov.isSome,H2,I3,8,q2,)
theorem Lm(hu:X.A.units+1<cLine)(ho:PE X o td)(hi:PE X i ty)(hv:PE X value tv)(hs:swapsWith value (!(.Subscript o i pos')) pos.line X.env=pure false) :
  PS X (.Assign [.Subscript o i pos'] value pos) (Cu td ty tv):=by
 intro pins s σ H D I h;refine wpAny_Assign_Subscript (cO (hv pins s σ H _ I h) λr s1 v H1 I1 rv q1=>cO (ho pins s1 σ H1 _ I1 q1) λu s2 x H2 I2 rx q2=>bI (hi pins s2 σ H2 _ I2 q2) λiv s3 (y,H3,I3,ry,a,H4,ex,g,q3,)=>?_) hs;subst ex;obtain rfl:u=Value.ref a:=rx;exact Qv hu I3 g ry rv λs4 I4=>(σ,H4,I4,q3,)
theorem WV{op:Operator}{rd:V->V->Hp->VK->Prop}(hu:X.A.units+1<cLine)(ho:PE X o td)(hi:PE X i ty)(hv:PE X value tv)(hop:Ff X op rd)
  (ha:∀ov iv new,augStore i ov iv new=(do holding [new,ov,iv] (setItem ov iv new);release [new,ov,iv] [];pure .next)):PS X (.AugAssign (.Subscript o i tpos) op value pos) (Cv td ty tv rd):=by
 intro pins s σ H D I h;refine wpAny_AugAssign_SubscriptAny (cO (ho pins s σ H _ I h) λu s1 x H1 I1 rx q1=>bI (hi pins s1 σ H1 _ I1 q1) λiv s2 (y,H2,I2,ry,a,v,ex,g,q2,)=>?_) ha;subst ex;obtain rfl:u=Value.ref a:=rx;refine Qw hu I2 g ry λw' s3 I3 rw'=>cO (hv pins s3 σ H2 _ I3 q2) λw2 s4 y2 H3 I4 SA q3=>bI (hop pins s4 σ H3 v y2 w' w2 _ I4 rw' SA q3) λw3 s5 (z,H4,I5,rz,H5,g5,q4,)=>?_;exact Qv hu I5 g5 ry rz λs6 I6=>(σ,H5,I6,q4,)
end
theorem XA{P:Program}{w:World}{H:Hp}(h:Heap)(hb:sysModules<h.objs.size):aK P w H (h.push { cls:=.type "dict",data:=.dict #[] }) h.objs.size (.dK []):=
 (agn _,aSU.mpr (aUP (aOt hb)),[],.nil,Heap.DictOf.new h,)
def Ww:TE:=λ_ H Q=>∀p,H p=none->Q (.ref p) (upd H p (.dK []))
section
variable{X:Cx}{pos:Pos}
theorem HK:PE X (.Dict [] [] pos) Ww:=λpins s σ H Q I h=>
 wpAny_Dict_empty (.ref s.heap.objs.size,_,I.laid (a:=s.heap.objs.size) (o:=.dK []) (t':=s.toks) (λ_ _ q=>aJV _ q) (bbI _) (XA s.heap I.big),8,h _ (I.hok.fresh (bbI _)),)
end
structure M1(X:Cx)(o:Expr)(m:Str)(apos:Pos)(e:Expr)(cpos:Pos):Prop where
 base:attributeBase o m X.env (eval o X.env)=eval o X.env
 few:((backTo cpos (starEach [e] X.env)).all (λx=>(not (x.1))) && (backToKw cpos (keywordEach [] X.env)).all (λx=>x.1.isSome)
  && decide (([e]:List Expr).length+([]:List Keyword).length+(if([]:List Keyword).isEmpty then 0 else 1)<30))=true
 line:(apos.endLine ==cpos.line)=true
 trees:backTo cpos (starEach [e] X.env)=[(false,eval e X.env)]
structure M2(X:Cx)(o:Expr)(m:Str)(apos:Pos)(e f:Expr)(cpos:Pos):Prop where
 base:attributeBase o m X.env (eval o X.env)=eval o X.env
 few:((backTo cpos (starEach [e,f] X.env)).all (λx=>(not (x.1))) && (backToKw cpos (keywordEach [] X.env)).all (λx=>x.1.isSome)
  && decide (([e,f]:List Expr).length+([]:List Keyword).length+(if([]:List Keyword).isEmpty then 0 else 1)<30))=true
 line:(apos.endLine ==cpos.line)=true
 trees:backTo cpos (starEach [e,f] X.env)=[(false,eval e X.env),(false,eval f X.env)]
def HW(H:Hp)(a:Addr):Prop:=(∃kvs,Rd H a (.dK kvs))\/∃kvs,Rd H a (.dT kvs)
theorem GJ{X:Cx}{pins:List (Addr×Obj)}{σ:St}{H:Hp}{s:Shared}{a:Addr}(I:Inv X pins σ H s)(d:HW H a) :
  s.TypeIs (.ref a) "dict" /\(∀b,Value.ref a=.ref b->∃ob,s.heap.get? b=!ob/\ob.dict=none)/\(a ==sysModules)=false:=by
 rcases d with⟨kvs,e⟩|⟨kvs,e⟩
 .let(_,hd,vs,_,dd,):=jM I.hok e;refine(dd.typeIs,λb q=>?_,hd,);cases q;let(ob,_,_,h1,h2,_,):=dd;exact(ob,h1,h2.2.1,)
 .let(_,hd,xs,_,dd,):=jL I.hok e;refine(dd.typeIs,λb q=>?_,hd,);cases q;let(ob,_,_,h1,h2,_,):=dd;exact(ob,h1,h2.2.1,)
section
variable{X:Cx}{pins:List (Addr×Obj)}{σ:St}{H:Hp}{s:Shared}{a:Addr}{y d:V}{u r:Value}{o:Option V}{A:Around}{E:Value->Shared->Prop}
theorem Wv{Q:Value->Shared->Prop}(hu:A.units+1<cLine)(I:Inv X pins σ H s)(g:fm H a y o)(ry:RelV y u)(rd:RelV d r)(h:∀w' s',Inv X pins σ H s'->RelV (o.getD d) w'->Q w' s') :
  wpAny (model X.prog X.w) A (call (.builtin "dict.get") [.ref a,u,r]) Q E s:=by
 rcases g with⟨kvs,k,e,ey,l⟩|⟨kvs,k,b,e,ey,eb,l⟩
 .subst ey;let(z,hd,vs,rel,dd,):=jM I.hok e;refine call_meetsIn aKw dd.typeIs PySem.F.entry_dict_get (PySem.F.args_dict_get_3 _ _ _) (meets_dict_get_default (ZN X.prog X.w) a (iR ry) hd r) (_,dd.mapOf,h _ _ (I.tok _) ?_,);rw[l];exact(rel.val k).getD rd
 .subst ey;cases(show u=Value.ref b from ry);let(z,hd,xs,rel,dd,):=jL I.hok e;refine call_meetsIn aKw dd.typeIs PySem.F.entry_dict_get (PySem.F.args_dict_get_3 _ _ _) (meetsH_dict_get_default (tupleKind (ZN X.prog X.w)) a b hd r) (a5f hu,k,xs,Eu I.hok eb,dd,h _ _ (I.tok _) ?_,);rw[l];exact(rel.val k).getD rd
end
def Wu(td ty tx:TE):TE:=λσ H Q=>td σ H λx H1=>∃a,x=.ref a/\HW H1 a/\ty σ H1 λy H2=>tx σ H2 λz H3=>∃o,fm H3 a y o/\Q (o.getD z) H3
def Wt(td ty:TE):TE:=λσ H Q=>td σ H λx H1=>∃a,x=.ref a/\HW H1 a/\ty σ H1 λy H2=>∃kvs k v,H2 a=!(.dK kvs)/\y=kV k/\aW kvs k=!v/\Q v (upd H2 a (.dK (cH kvs k)))
section
variable{X:Cx}{o e f:Expr}{apos cpos:Pos}{td ty tx:TE}
theorem Xz(hu:X.A.units+1<cLine)(ho:PE X o td)(he:PE X e ty)(hf:PE X f tx)(m:M2 X o "get" apos e f cpos):PE X (.Call (.Attribute o "get" apos) [e,f] [] cpos) (Wu td ty tx):=by
 intro pins s σ H Q I h;refine wpAny_Call_method m.base m.few m.line aNS aKw PySem.F.type_dict_get (bI (ho pins s σ H _ I h) λu s1 (x,H1,I1,rx,a,ex,d,q1,)=>?_);subst ex;obtain rfl:u=Value.ref a:=rx;let(t1,t2,_,):=GJ I1 d;refine(t1,t2,?_,);rw[m.trees];refine aNE 8 (azH (arw (cO (he pins s1 σ H1 _ I1 q1) λiv s2 y H2 I2 ry q2=>
  arw (bI (hf pins s2 σ H2 _ I2 q2) λfv s3 (z,H3,I3,rz,ov,g,q3,)=>anM ?_))))
 exact Wv hu I3 g ry rz λw' s4 I4 rw'=>(_,H3,I4,rw',q3,)
theorem Xy(ho:PE X o td)(he:PE X e ty)(m:M1 X o "pop" apos e cpos):PE X (.Call (.Attribute o "pop" apos) [e] [] cpos) (Wt td ty):=by
 intro pins s σ H Q I h;refine wpAny_Call_method m.base m.few m.line aNS PySem.F.slot_dict_pop PySem.F.type_dict_pop (bI (ho pins s σ H _ I h) λu s1 (x,H1,I1,rx,a,ex,d,q1,)=>?_);subst ex;obtain rfl:u=Value.ref a:=rx;let(t1,t2,_,):=GJ I1 d;refine(t1,t2,?_,);rw[m.trees];refine aNE 8 (azH (arw (bI (he pins s1 σ H1 _ I1 q1) λiv s2 (y,H2,I2,ry,kvs,k,v,ea,ey,l,q2,)=>anM ?_)));subst ey;exact Ed I2 ea ry l (.inl 8) λw' s3 I3 rw'=>(v,_,I3,rw',q2,)
end
section
variable{κ:Type}[DecidableEq κ]
theorem uO:∀{l:List κ}{k:κ},l.Nodup->¬k∈l->(l++[k]).Nodup
 | [],k,_,_=>5
 |a ::r,k,h,hk=>by
  let(h1,h2,):=aZf.mp h;show(a ::(r++[k])).Nodup;refine aZf.mpr (λm=>?_,uO h2 λm=>hk (aPx.mpr (Or.inr m)),);rcases a6S.mp m with q|q
  .exact h1 q
  .exact hk (aPx.mpr (Or.inl (aOT.mp q).symm))
theorem Ys{p:κ×V}{r:List (κ×V)}{k:κ}(e:p.1=k):cH (p ::r) k=cH r k:=by
 unfold cH;rw[a6U,aah (by simp[e])]
theorem Yr{p:κ×V}{r:List (κ×V)}{k:κ}(e:¬p.1=k):cH (p ::r) k=p ::cH r k:=by
 unfold cH;rw[a6U,ahF (by simp[e])]
end
section
variable{X:Cx}{pins:List (Addr×Obj)}{σ:St}{H:Hp}{s:Shared}{d:Addr}{kvs:List (Key×V)}{o:Obj}
theorem Inv.frozen(I:Inv X pins σ H s)(h:H d=!(.dK kvs))(ho:s.heap.get? d=!o):Inv X pins σ (upd H d (.bH o (.dK kvs))) s:=by
 have ne:∀b u,H b=!u->u≠.dK kvs->b≠d:=λb u e n z=>by rw[z,h]at e;exact n (aFB e).symm
 have nn:∀b,H b=none->b≠d:=λb e z=>by rw[z,h]at e;cases e
 have q:=I.step (g':=s.gens) (t':=s.toks) (d':=s.drawn) (ch:=[]) (h':=s.heap) (H':=upd H d (.bH o (.dK kvs))) (λ_ z=>nomatch z) (λb o' _ _ _ e _=>e) (λb o' _ _ _ e _=>(o'.slots,e,)) (λb o' _ _ n=>by rw[Zg (nn b n)];exact n) (λb o' _ e=>(o',e,))
  (λb xs e=>by rw[Zg (ne b _ e (by intro z;cases z))];exact e) (λb o' u e=>by rw[Zg (ne b _ e (by intro z;cases z))];exact e) (λb _ _ e=>by rw[Zg (ne b _ e (by intro z;cases z))];exact e) (λm hm=>hm) (λb u e=>?_) I.bare
 .exact q
 .by_cases hb:b=d
  .subst hb;rw[Za]at e;cases e;exact(ho,I.hok b _ h,)
  .rw [Zg hb]at e;exact(I.hok b u e).stay (λ_ _ _ z=>z) (λc z=>by rw[Zg (ne c _ z (by intro y;cases y))];exact z) (λc xs z=>by rw[Zg (ne c _ z (by intro y;cases y))];exact z) λc oz z=>by rw[Zg (ne c _ z (by intro y;cases y))];exact z
end
theorem O7{P:Program}{w:World}{H:Hp}{h:Heap}{d:Addr}{o:Obj}{kvs:List (Key×V)}{es:Array DictEntry}{ep:Nat}(q:aK P w H h d (.bH o (.dK kvs)))(he:o.data=.dict es ep):(d ==sysModules)=false/\∃vs,KV kvs vs/\h.DictAt (ZN P w) d vs ep:=by
 let(ho,_,hs,vs,r,o',es',GD,h1,h2,h3,h4,):=q;rw[ho]at h1;cases h1;rw[he]at h3;cases h3;exact(hs,vs,r,o,es,ho,h2,he,h4,)
noncomputable def Cw(scope bQ:Scope):Scope:={ scope with names:=scope.names.map λ(n,k)=>if(k == .free && bQ.kind == .function && bQ.names.lookup n ==!.cell) then(n,.cell) else(n,k) }
theorem Y0{scope:Scope}{env:Env}{bQ:Scope}(h:env.scope=bQ):relabel scope env=Cw scope bQ:=by subst h;rfl
theorem Yq{X:Cx}{Mv bQ:Scope}{uz:Env}{oN:List Str}{scope:Scope}{N:List Str}{own:Nat}{js:List Nat}(hs:X.env.scope=relabel Mv uz)(he:uz.scope=bQ)(hN:X.N=oN)(h:uE (Cw Mv bQ) oN scope N own js=true):cB X scope N own js:=
 Zx h (hs.trans (Y0 he)) hN
section
variable{X:Cx}{K:W.Frag}{tg:PySem.Expr}
theorem ZF(hK:X.K=K){l:PySem.Expr}{tl:TE}(hl:PE X l tl):PI X tg l (yk K tl):=hK ▸Xc hl
theorem O6(hK:X.K=K){l:PySem.Expr}{tl:TE}(hl:PE X l tl):PI X tg l (Dy K tl):=hK ▸WJ hl
end
noncomputable def HY(K:W.Frag)(H:Hp):Nat->V->V->Bool->Prop
 |0,x,y,b=>bR x=true/\bR y=true/\b=qZ x y
 | n+1,x,y,b=>(bR x=true/\bR y=true/\b=qZ x y)\/∃(a c:Addr)(xs ys:List V)(e:Nat->Bool),x=.ref a/\y=.ref c/\(∀(i:Nat)(u v:V),xs[i]?=!u->ys[i]?=!v->HY K H n u v (e i)) /\
   ((ah K H a xs/\ah K H c ys/\((xs.length=ys.length/\b=(List.range xs.length).all e)\/(xs.length≠ys.length/\b=false))) \/
    (bS K H a xs/\bS K H c ys/\b=((List.range (min xs.length ys.length)).all e && xs.length ==ys.length)))
theorem Pu{x:V}(h:bR x=true):qZ x x=true:=by
 cases x with
 |aE=>rfl
 |bl b=>exact aGI b
 |int i=>exact aGI i
 |str z=>exact aGI z
 |_=>exact absurd h aJD
section
variable{X:Cx}{pins:List (Addr×Obj)}{σ:St}{H:Hp}{s:Shared}
theorem Lw(I:Inv X pins σ H s):∀(n:Nat)(x:V)(b:Bool),HY X.K H n x x b->b=true
 |0,x,b,(h1,_,h2,)=>by rw[h2];exact Pu h1
 |n+1,x,b,h=>by
  rcases h with⟨h1,_,h2⟩|⟨a,c,xs,ys,e,rfl,h2,hi,⟨ha,hc,hb⟩|⟨ha,hc,hb⟩⟩
  .rw [h2];exact Pu h1
  .cases h2;have Af:ys=xs:=I.dQ hc ha;subst Af;rcases hb with⟨_,hb⟩|⟨hb,_⟩
   .rw [hb,ap9];intro i hi';have hlt:=aOW.mp hi';exact Lw I n ys[i] (e i) (hi i ys[i] ys[i] (aMp hlt) (aMp hlt))
   .exact absurd 8 hb
  .cases h2;have Af:ys=xs:=I.jD hc ha;subst Af;rw[hb,Nat.min_self,aGI,Bool.and_true,ap9];intro i hi';have hlt:=aOW.mp hi';exact Lw I n ys[i] (e i) (hi i ys[i] ys[i] (aMp hlt) (aMp hlt))
theorem Bh{xs:List V}{us:List Value}(r:Vals xs us){j:Nat}(h:j<us.toArray.size):∃x,xs[j]?=!x/\RelV x us.toArray[j]:=by
 have hj:j<us.length:=by simpa using h
 have hx:j<xs.length:=by rw[r.length];exact hj
 let(u,hu,ru,):=r.get (i:=j) (x:=xs[j]) (aMp hx);rw[aMp hj]at hu;cases hu;exact(xs[j],aMp hx,by simpa using ru,)
theorem KL(I:Inv X pins σ H s):∀(n:Nat)(A:Around)(x y:V)(u v:Value)(b:Bool),A.units+n<cLine->RelV x u->RelV y v->HY X.K H n x y b->SeqAt.EqAt A s u v b
 |0,A,x,y,u,v,b,hu,rx,ry,(h1,h2,h3,)=>by rw[h3];exact K0 rx ry h1 h2
 |n+1,A,x,y,u,v,b,hu,rx,ry,h=>by
  rcases h with⟨h1,h2,h3⟩|⟨a,c,xs,ys,e,rfl,rfl,hi,hh⟩
  .rw [h3];exact K0 rx ry h1 h2
  .cases rx;cases ry;by_cases hac:a=c
   .subst hac;have hb:b=true:=Lw I (n+1) (.ref a) b (.inr (a,a,xs,ys,e,8,8,hi,hh,));rw[hb];exact SeqAt.EqAt.same _
   .have JC:A.units<cLine:=7
    have hu1:A.in1.units+n<cLine:=by
     have q:A.in1.units=A.units+1:=8;rw[q];lia
    refine SeqAt.EqAt.of_refs hac ?_;rcases hh with⟨ha,hc,hb⟩|⟨ha,hc,hb⟩
    .let(its,r1,p1,_,):=I.list ha;let(its2,r2,p2,_,):=I.list hc;have l1:=r1.length;have l2:=r2.length;rcases hb with⟨hl,hb⟩|⟨hl,hb⟩
     .have q:=SeqAt.RcAt.lists (A:=A) (e:=e) p1.isList p2.isList (by simp;lia) JC λj h1 h2=>by
       let(x,hx,rx,):=Bh r1 h1;let(y,hy,ry,):=Bh r2 h2;exact KL I n A.in1 x y _ _ (e j) hu1 rx ry (hi j x y hx hy)
      rw[a3v,<-l1,<-hb]at q;exact q
     .rw [hb];exact SeqAt.RcAt.lists_lengths p1.isList p2.isList (by simp;lia) JC
    .let(its,r1,p1,_,):=I.tuple ha;let(its2,r2,p2,_,):=I.tuple hc;have l1:=r1.length;have l2:=r2.length;have q:=SeqAt.RcAt.tuples (A:=A) (e:=e) (show s.heap.IsTuple a its.toArray from p1) (show s.heap.IsTuple c its2.toArray from p2) JC λj h1 h2=>by
      let(x,hx,rx,):=Bh r1 h1;let(y,hy,ry,):=Bh r2 h2;exact KL I n A.in1 x y _ _ (e j) hu1 rx ry (hi j x y hx hy)
     rw[a3v,a3v,<-l1,<-l2,<-hb]at q;exact q
end
section
variable{X:Cx}{K:W.Frag}
inductive CD(K:W.Frag) (n:Nat) (neg:Bool)(x:V)(y:V)(H:Hp)(Q:VK):Prop
 |mk (a c:Addr) (xs ys:List V) (e:Nat->Bool):x=.ref a->y=.ref c->(∀(i:Nat)(u v:V),xs[i]?=!u->ys[i]?=!v->HY K H n u v (e i))->ah K H a xs->ah K H c ys->((xs.length=ys.length/\Q (.bl (if neg then (not ((List.range xs.length).all e)) else(List.range xs.length).all e)) H)\/(xs.length≠ys.length/\Q (.bl neg) H))->CD K n neg x y H Q
theorem Ol(n:Nat)(hu:X.A.units+1+n<cLine)(hK:X.K=K):eV X (compareOp .Eq) (CD K n false):=by
 subst hK;intro pins s σ H x y v u Q I rx ry h;let(a,c,xs,ys,e,rfl,rfl,hi,ha,hc,q,):=h;cases rx;cases ry;let(its,r1,p1,_,):=I.list ha;let(its2,r2,p2,_,):=I.list hc;have l1:=r1.length;have l2:=r2.length;have hu1:X.A.in1.units+n<cLine:=hu;rcases q with⟨hl,q⟩|⟨hl,q⟩
 .refine SeqAt.eq_listAt (e:=e) p1.isList p2.isList (by simp;lia) 7 (λj h1 h2=>?_) (.bl _,H,I,8,?_,)
  .let(x,hx,rx,):=Bh r1 h1;let(y,hy,ry,):=Bh r2 h2;exact KL I n X.A.in1 x y _ _ (e j) hu1 rx ry (hi j x y hx hy)
  .rw [a3v,<-l1];exact q
 .exact SeqAt.eq_list_lengthsAt p1.isList p2.isList (by simp;lia) 7 (.bl false,H,I,8,q,)
theorem pZ{A:Around}{k:Nat}(hr:bg k A)(n:Nat)(h:n<=60):A.units+1+n<cLine:=by have:=hr.units;lia
end
section
variable{X:Cx}
theorem Qu(hc:X.calm=true):bx X (.builtin "any") (λxs H Q=>∃(p:Addr)(bs:List Bool),xs=[.ref p]/\ah X.K H p (bs.map V.bl)/\Q (.bl (bs.any id)) H):=by
 intro pins s σ H xs us Q I r h;let(p,bs,rfl,hq,q,):=h;let(u,rfl,rx,):=vals1 r;cases rx;let(its,rv,pl,hz,):=I.list hq;have e:=LO rv;subst e;refine call_any_walk (aA9 pl.isList ?_);refine(s.heap.objs.size,_,[s.heap.objs.size],108,λi=>bs.getD i true,8,Walks.list (A:=X.A.in1) (show X.A.in1.handled=none from I.ok.hd hc) s.heap.objs.size p ?_ (bs.map Value.bool).toArray,((_,aQ0 _ 8,8,8,),pl.isList.at λo e=>aJV _ e,),?_,?_,)
 .let(o,e,_,):=pl.isList;exact aOt (a2o e)
 .intro i v s' Q' E' hP hQ;have qX:(bs.map Value.bool)[i]?=!v:=by simpa using hP
  rw[aGb]at qX;cases z:bs[i]? with
  |none=>rw[z]at qX;cases qX
  |some b=>
   rw[z]at qX;cases qX;have:bs.getD i true=b:=by rw[aGH,z];rfl
   have DR:Q' (bs.getD i true) s':=hQ;rw[this]at DR;exact auF DR
 .intro h' tk hk;refine(.bl (bs.any id),H,I.kept (t':=tk) (λb o e=>hk b o (by simpa using aOt (a2o e)) (aJV _ e)),?_,q,);have z:(List.range bs.length).map (λi=>bs.getD i true)=bs:=QW _ λi b e=>by rw[aGH,e];rfl
  have z2:(List.range bs.length).any (λi=>bs.getD i true)=bs.any id:=by
   conv=>rhs;rw[<-z]
   rw[any_map];rfl
  show Value.bool _=Value.bool _;have z3:(bs.map Value.bool).toArray.size=bs.length:=5
  rw[z3,z2]
end
theorem Yp{K:W.Frag}{a b:Addr}{xs zs:List V}{l:Addr}{g:TG}{tc:TT}{te:TE}{σ0:St}{H0:Hp}{Qf:Hp->Prop}(n:Nat)(hn:n=min xs.length zs.length)(Pv:Nat->List V->St->Hp->Prop)(h0:Pv 0 [] σ0 H0)
  (hl:∀i ys σ' H',i<=n->Pv i ys σ' H'->ah K H' a xs/\ah K H' b zs)
  (hs:∀i x z t ys σ' H',i<n->xs[i]?=!x->zs[i]?=!z->ys.length<=i->Pv i ys σ' H'->H' t=none->g (.ref t) σ' (upd H' t (.tup [x,z])) λσ2 H3=>tc σ2 H3 λb H4=>if b=true then te σ2 H4 λy H5=>dh n l Pv i ys σ2 y H5 else k7 n Pv i ys σ2 H4)
  (hd:∀ys σ' H',ys.length<=n->Pv n ys σ' H'->Qf H') :
  ∃W:Nat->Nat->List V->St->Hp->Prop,(∃m,W 0 m [] σ0 H0)/\∀i m ys σ' H',W i m ys σ' H' ->
  ((yS K a b).stop i H'/\Qf H')\/((yS K a b).go i H'/\∀x H2,(yS K a b).oi i H' x H2->g x σ' H2 λσ2 H3=>tc σ2 H3 λb H4=>
    if b=true then te σ2 H4 λy H5=>H5 l=!(.lst ys)/\ys.length<sizeLine/\∃m',m'<m/\W (i+1) m' (ys++[y]) σ2 (upd H5 l (.lst (ys++[y])))
    else ∃m',m'<m/\W (i+1) m' ys σ2 H4):=by
 refine(λi m ys σ' H'=>m=n-i/\i<=n/\ys.length<=i/\Pv i ys σ' H',(n,8,agn _,bbI _,h0,),?_,);rintro i m ys σ' H' ⟨rfl,hi,hy,p⟩;let(qa,qb,):=hl i ys σ' H' hi p;by_cases hlt:i<n
 .have h1:i<xs.length:=7
  have h2:i<zs.length:=7
  refine .inr ((xs,zs,xs[i],zs[i],qa,qb,by simp[h1],by simp[h2],),λx H2 zq=>?_,);let(t,u,v,ht,rfl,rfl,z1,z2,):=zq;exact hs i u v t ys σ' H' hlt (z1 xs qa) (z2 zs qb) hy p ht
 .have e:i=n:=7
  subst e;exact .inl ((xs,zs,qa,qb,7,),hd ys σ' H' hy p,)
section
variable{X:Cx}{K:W.Frag}
noncomputable def pW(xs:List V)(lo hi st:Option Int):List V:=(sliceRange (sliceBounds lo hi st xs.length).1 (sliceBounds lo hi st xs.length).2.1 (sliceBounds lo hi st xs.length).2.2).filterMap (xs[·]?)
theorem LL{xs:List V}{us:List Value}(r:Vals xs us):∀l:List Nat,Vals (l.filterMap (xs[·]?)) (l.filterMap (us[·]?))
 | []=>.nil
 |i ::l=>by
  rw[aaW,aaW];cases e:xs[i]? with
  |none=>rw[r.none_of e];exact LL r l
  |some x=>
   let(u,hu,ru,):=r.get e;rw[hu];exact .cons ru (LL r l)
def Io(K:W.Frag)(te:TE)(tl th ts:TO):TE:=λσ H Q=>te σ H λx H1=>tl σ H1 λl H2=>th σ H2 λu H3=>ts σ H3 λst H4=>∃a xs,x=.ref a/\ah K H4 a xs/\st≠!0/\(pW xs l u st).length<=sizeLine/\∀p,H4 p=none->Q (.ref p) (upd H4 p (.lst (pW xs l u st)))
theorem Hw{e:PySem.Expr}{te:TE}{lo hi:Option PySem.Expr}{st:PySem.Expr}{tl th ts:TO}{p2 pos:Pos}(hK:X.K=K)(he:PE X e te)(hl:PO X lo tl)(hu:PO X hi th)(hst:PO X (!st) ts):PE X (.Subscript e (.Slice lo hi (!st) p2) pos) (Io K te tl th ts):=by
 subst hK;intro pins s σ H Q I h;refine Subscript_ (cO (he pins s σ H _ I h) λv s1 x H1 I1 r1 q1=>?_);refine wpAny_Slice (bI (hl pins s1 σ H1 _ I1 q1) λvl s2 (l,H2,I2,pl,q2,)=>bI (hu pins s2 σ H2 _ I2 q2) λvu s3 (u,H3,I3,pu,q3,)=>bI (hst pins s3 σ H3 _ I3 q3) λvs s4 (so,H4,I4,ps,q4,)=>?_);let(a,xs,rfl,hx,h0,hz,q,):=q4;cases r1;have I5:Inv X pins σ H4 { s4 with heap:=s4.heap.push { cls:=.type "slice",data:=.fields #[vl,vu,vs] } }:=I4.kept (t':=s4.toks) λb ob q=>aJV _ q;let(its,r,ht,hzz,):=I5.list hx;have hlen:=r.length;show wpAny (model X.prog X.w) X.A (subscriptTail e (.Slice lo hi (!st) p2) (.ref a) (.ref s4.heap.objs.size)) (EP X pins σ Q) X.xe { s4 with heap:=s4.heap.push { cls:=.type "slice",data:=.fields #[vl,vu,vs] } };refine tail_any (ops:=[.ref a,.ref s4.heap.objs.size]) ht.isList.typeIs slot_list_getitem.lookup (wpAny_getItem_list_slice ht.isList (Heap.IsSliceOf.new ..) pl pu ps h0 ?_ (by rw[a3v] <;> lia)) (by with_unfolding_all rfl);refine(.ref _,_,I5.laid (t':=s4.toks) (o:=.lst (pW xs l u so)) (λb ob q=>aJV _ q) (bbI _) ?_,8,q _ (I5.hok.fresh (bbI _)),);refine(hz,_,0,LL r (sliceRange (sliceBounds l u so xs.length).1 (sliceBounds l u so xs.length).2.1 (sliceBounds l u so xs.length).2.2),?_,);have e2:slicePick its.toArray l u so=((sliceRange (sliceBounds l u so xs.length).1 (sliceBounds l u so xs.length).2.1 (sliceBounds l u so xs.length).2.2).filterMap (its[·]?)).toArray:=by
  unfold slicePick;rw[a3v,<-hlen];congr 1
  refine aFH (λf=>List.filterMap f _) ?_;funext i
  simp
 rw[e2];exact aQ0 _ 8
end
noncomputable def rJ(hi:Int)(n:Nat):It:=(λi _=>i<n,λi H x H'=>H'=H/\x=.int (hi-i),λi _=>n<=i,)
theorem Yo{P:Program}{w:World}{K:W.Frag}{tg:PySem.Expr}(it:Addr)(lo:Int)(n:Nat):Turn P w K tg (rJ lo n) [it] it (λi h=>IsRangeIter h it (lo+(i:Nat)*(-1)) ((n:Int)-(i:Nat)) (-1)) where
 mem:=5
 obj:=λi h st b hb=>by
  have e:b=it:=by simpa using hb
  subst e;exact⟨_,st,λv z=>by
   have z':Data.fields _=Data.cell v:=z;cases z'⟩
 keep:=λi h h' st k=>k it 5 _ st
 item:=by
  intro X hP hw hK hc i pins s σ H E I hf st hg;subst hP hw hK;let(f0,f1,f2,f3,f4,f5,):=hf it 5;have W:=Walks.range (prog:=X.prog) (w:=X.w) (I.ok.hd hc) it lo (-1) n;refine W.item i s _ _ hg st λv h' tk hv st' kk=>?_;let(t,rfl,):=hv;have I1:Inv X pins σ H { s with heap:=h',toks:=tk }:=I.turned (λb o hb e=>kk b o (by simpa using hb) e) f0 f1 f3 f4 f5;refine(_,8,qe (s:={ s with heap:=h',toks:=tk }) (n:="range_iterator") st' 8 8 9 (.int (lo-i),H,I1,(t,?_,),(8,8,),st',λb hb=>(hf b hb).1,),);rw[show lo+(i:Int)*(-1)=lo-i by lia]
 done:=by
  intro X hP hw hK hc i pins s σ H E I hf st hg;subst hP hw hK;let(f0,f1,f2,f3,f4,f5,):=hf it 5;exact wpAny_pyNext_range_end (I.ok.hd hc) st (by have:n<=i:=hg;lia) λh' eb=>(8,I.turned (t':=s.toks) (λb o hb e=>eb b o hb e) f0 f1 f3 f4 f5,)
 self:=λ_ _ _ _ _ st h=>wpAny_pyIter_rangeiter st h
section
variable{X:Cx}{tg:PySem.Expr}
theorem Yn{pins:List (Addr×Obj)}{σ:St}{H:Hp}{s:Shared}{R:It->Hp->Prop}{E:Value->Shared->Prop}{lo hi:Int}{t u v:Tok}{tk:Nat}(I:Inv X pins σ H s)(h1: -(2 ^ 62)<=lo)(h2:lo<2 ^ 62)(h3: -(2 ^ 62)<=hi)(h4:hi<2 ^ 62)
  (q:R (rJ lo (lo-hi).toNat) H):wpAny (model X.prog X.w) X.A (pyIter (.ref s.heap.objs.size)) (L4 X pins σ tg R) E { s with heap:=s.heap.push { cls:=.type "range",data:=.fields #[.int lo t,.int hi u,.int (-1) v] },toks:=tk }:=by
 refine wpAny_pyIter_range (IsRange.new ..) (W.small_down h1 h2 h3 h4) ?_;have I1:Inv X pins σ H { s with heap:=s.heap.push { cls:=.type "range",data:=.fields #[.int lo t,.int hi u,.int (-1) v] },toks:=tk }:=I.kept λb o e=>aJV _ e;refine((s.heap.push { cls:=.type "range",data:=.fields #[.int lo t,.int hi u,.int (-1) v] }).objs.size,[(s.heap.push { cls:=.type "range",data:=.fields #[.int lo t,.int hi u,.int (-1) v] }).objs.size],_,_,H,8,
  I1.kept (t':=tk) λb o e=>aJV _ e,Yo _ lo (lo-hi).toNat,?_,λb hb=>?_,q,)
 .have e1:lo+((0:Nat):Int)*(-1)=lo:=5
  have e2:(((lo-hi).toNat:Nat):Int)-((0:Nat):Int)=Builtin.Range.rangeSize lo hi (-1):=by rw[W.rangeSize_downNat];lia
  show IsRangeIter _ _ (lo+((0:Nat):Int)*(-1)) ((((lo-hi).toNat:Nat):Int)-((0:Nat):Int)) (-1);rw[e1,e2];exact aQ0 _ 8
 .have e:b=(s.heap.push { cls:=.type "range",data:=.fields #[.int lo t,.int hi u,.int (-1) v] }).objs.size:=by simpa using hb
  subst e;exact I1.o8 (bbI _) (I1.hok.fresh (bbI _))
def DA(ta:TA):TI:=λσ H R=>ta σ H λvs H1=>∃i j:Int,vs=[.int i,.int j,.int (-1)]/\(-(2 ^ 61)<=i/\i<2 ^ 61 /\ -(2 ^ 61)<=j/\j<2 ^ 61)/\R (rJ i (i-j).toNat) H1
theorem Qt{a b c:PySem.Expr}{ta:TA}{p pos:Pos}(hg:Gl X "range")(hm:X.mg "range"=none)(ha:PA X [a,b,c] ta)(hs:starEach [a,b,c] X.env=(false,eval a X.env) ::starEach [b,c] X.env:=by rfl)(hpl:(backTo pos (starEach [b,c] X.env)).any (·.1)=false:=by rfl) :
  PI X tg (.Call (.Name "range" p) [a,b,c] [] pos) (DA ta):=by
 intro pins s σ H R I h;refine Call_ (vz I hg hm boot_range (akj (pK (ha pos pins s σ H _ I h) λus s1 vs H1 I1 r1 q1=>?_) hs hpl));let(i,j,e,(q1,q2,q3,q4,),q,):=q1;subst e;cases r1 with
 |cons r rr=>
  cases rr with
  |cons r' rr=>
   cases rr with
   |cons r'' rr=>
    cases rr;let(t,rfl,):=r;let(t',rfl,):=r';let(t'',rfl,):=r'';exact call_range_3 9 (Yn I1 7 7 7 7 q) (.inl (a4m 7))
end
theorem Ws{H:Hp}{a:Addr}{o:HO}(h:H a=!o):upd H a o=H:=by
 funext b
 by_cases e:b=a
 .rw [e,Za,h]
 .rw [Zg e]
theorem Qo{hi:Int}{n:Nat}{g:TG}{tb:TS}{D:Ends}{σ:St}{H:Hp}(Pv:Nat->St->Hp->Prop)(h0:Pv 0 σ H)
  (hs:∀i σ H,i<n->Pv i σ H->g (.int (hi-i)) σ H λσ2 H2=>tb { D with nx:=Pv (i+1),ct:=Pv (i+1),bk:=D.nx } σ2 H2) (hd:∀ σ H,Pv n σ H->D.nx σ H) :
  ∃W:Nat->Nat->St->Hp->Prop,(∃m,W 0 m σ H)/\∀i m σ H,W i m σ H ->
   ((rJ hi n).stop i H/\D.nx σ H)\/((rJ hi n).go i H/\∃N:St->Hp->Prop,(∀ σ' H',N σ' H'->∃m',m'<m/\W (i+1) m' σ' H')/\∀x H',(rJ hi n).oi i H x H'->g x σ H' λσ2 H2=>tb { D with nx:=N,ct:=N,bk:=D.nx } σ2 H2):=by
 refine(λi m σ H=>m=n-i/\i<=n/\Pv i σ H,(n,5,agn _,h0,),?_,);rintro i m σ H ⟨rfl,hi,p⟩;by_cases hlt:i<n
 .refine .inr (hlt,Pv (i+1),λσ' H' p'=>(n-(i+1),7,8,hlt,p',),λx H' y=>?_,);let(e,y,):=y;subst e y;exact hs i σ _ hlt p
 .have e:i=n:=7
  subst e;exact .inl (bbI _,hd σ H p,)
theorem Q9(xs:List V):∀n,n<=xs.length->((List.range n).map λi=>n-1-i).filterMap (xs[·]?)=(xs.take n).reverse
 |0,_=>5
 |n+1,h=>by
  have hn:n<xs.length:=h;have ih:=Q9 xs n 7;rw[List.range_succ_eq_map,aQv,ba6,aaW];have e0:n+1-1-0=n:=7
  rw[e0,aMp hn];have e1:(List.range n).map ((λi=>n+1-1-i) ∘ Nat.succ)=(List.range n).map λi=>n-1-i:=by
   refine aPW λi _=>?_;show n+1-1-(i+1)=n-1-i;lia
  rw[e1,ih,a8b,aMp hn,af2];rfl
theorem yL(xs:List V):pW xs none none (!(-1))=xs.reverse:=by
 have h:=Q9 xs xs.length (bbI _);rw[aXW]at h;rw[<-h,<-W.krv_sliceRange];rfl
theorem Ll{K:W.Frag}{a b:Addr}{xs ys:List V}{g:TG}{tb:TS}{D:Ends}{σ:St}{H:Hp}(Pv:Nat->St->Hp->Prop)(hlen:xs.length=ys.length)(h0:Pv 0 σ H)(hl:∀i σ H,i<=xs.length->Pv i σ H->ah K H a xs/\ah K H b ys)
  (hs:∀i x y t σ H,xs[i]?=!x->ys[i]?=!y->Pv i σ H->H t=none->g (.ref t) σ (upd H t (.tup [x,y])) λσ2 H2=>tb { D with nx:=Pv (i+1),ct:=Pv (i+1),bk:=D.nx } σ2 H2) (hd:∀ σ H,Pv xs.length σ H->D.nx σ H) :
  ∃W:Nat->Nat->St->Hp->Prop,(∃m,W 0 m σ H)/\∀i m σ H,W i m σ H ->
   ((yS K a b).stop i H/\D.nx σ H)\/((yS K a b).go i H/\∃N:St->Hp->Prop,(∀ σ' H',N σ' H'->∃m',m'<m/\W (i+1) m' σ' H')/\∀x H',(yS K a b).oi i H x H'->g x σ H' λσ2 H2=>tb { D with nx:=N,ct:=N,bk:=D.nx } σ2 H2):=by
 refine(λi m σ H=>m=xs.length-i/\i<=xs.length/\Pv i σ H,(xs.length,5,agn _,h0,),?_,);rintro i m σ H ⟨rfl,hi,p⟩;let(q1,q2,):=hl i σ H hi p;by_cases hlt:i<xs.length
 .have JH:i<ys.length:=hlen ▸hlt;refine .inr ((xs,ys,xs[i],ys[i],q1,q2,by simp[hlt],by simp[JH],),Pv (i+1),λσ' H' p'=>(xs.length-(i+1),7,8,hlt,p',),λx H' y=>?_,);let(t,x1,y1,ht,rfl,rfl,hx,hy,):=y;exact hs i x1 y1 t σ _ (hx xs q1) (hy ys q2) p ht
 .have e:i=xs.length:=7
  subst e;exact .inl ((xs,ys,q1,q2,.inl (bbI _),),hd σ H p,)
end L2
namespace L2.Ra
open PySem PySem.Spec PyProof.Rows
noncomputable def Rk(ρ:Keyed->Nat)(xs:Array Keyed)(i:Nat):Nat:=(xs[i]?).elim 0 ρ
theorem EM{ρ:Keyed->Nat}{xs ys:Array Keyed}{i j:Nat}(h:xs[i]?=ys[j]?):Rk ρ xs i=Rk ρ ys j:=by unfold Rk;rw[h]
def fq(ρ:Keyed->Nat)(xs:Array Keyed)(i j:Nat):Prop:=K xs i<K xs j\/(K xs i=K xs j/\Rk ρ xs i<Rk ρ xs j)
theorem fq.trans{ρ:Keyed->Nat}{xs:Array Keyed}{i j k:Nat}(h1:fq ρ xs i j)(h2:fq ρ xs j k):fq ρ xs i k:=by
 unfold fq at *;lia
def oh(ρ:Keyed->Nat)(xs:Array Keyed)(n:Nat):Prop:=∀i j,i<j->j<n->fq ρ xs i j
def Dec(ρ:Keyed->Nat)(xs:Array Keyed)(n:Nat):Prop:=∀i j,i<j->j<n->fq ρ xs j i
def gx(ρ:Keyed->Nat)(xs:Array Keyed)(n:Nat):Prop:=∀i,n<=i->i<xs.size->Rk ρ xs i=i
theorem gx.mono{ρ:Keyed->Nat}{xs:Array Keyed}{m n:Nat}(h:gx ρ xs m)(l:m<=n):gx ρ xs n:=λi hi hs=>h i (bbd l hi) hs
theorem GX{ρ:Keyed->Nat}{xs:Array Keyed}{i:Nat}(h:i<xs.size):(xs.toList.map ρ)[i]?=!(Rk ρ xs i):=by
 unfold Rk;rw[aGb,ags,aYz h];rfl
structure Inj(ρ:Keyed->Nat)(xs:Array Keyed):Prop where
 inj:∀i j,i<xs.size->j<xs.size->Rk ρ xs i=Rk ρ xs j->i=j
 lt:∀i,i<xs.size->Rk ρ xs i<xs.size
theorem Wr{ρ:Keyed->Nat}{xs a₀:Array Keyed}(p:xs.Perm a₀)(h0:gx ρ a₀ 0):Inj ρ xs:=by
 have e0:a₀.toList.map ρ=List.range a₀.size:=by
  apply aVo;intro i;by_cases h:i<a₀.size
  .rw [GX h,apf h,h0 i (agn _) h]
  .rw [aH9 (by simpa using h),aH9 (by simpa using h)]
 have pm:(xs.toList.map ρ).Perm (List.range a₀.size):=by rw[<-e0];exact(aBx.mp p).map ρ
 have nd:(xs.toList.map ρ).Nodup:=pm.nodup_iff.mpr nodup_range;refine(λi j hi hj e=>?_,λi hi=>?_,)
 .refine (List.getElem?_inj (by rw[ano,aou];exact hi) nd).mp ?_;rw[GX hi,GX hj,e]
 .have m:Rk ρ xs i∈xs.toList.map ρ:=aE5 (GX hi);have:=aOW.mp (pm.mem_iff.mp m);rw[p.size_eq];exact this
theorem Inj.below{ρ:Keyed->Nat}{xs:Array Keyed}(I:Inj ρ xs){n:Nat}(h:gx ρ xs n){i:Nat}(hi:i<n)(hs:i<xs.size):Rk ρ xs i<n:=by
 by_cases c:Rk ρ xs i<n
 .exact c
 .have l:=I.lt i hs;have e:=h (Rk ρ xs i) 7 l;have:=I.inj _ _ l hs e;lia
theorem LJ{ρ:Keyed->Nat}{xs:Array Keyed}{src d:Nat}(hs:src<xs.size)(hd:d<=src)(k:Nat) :
  Rk ρ (bubble xs src d) k=if k=src-d then Rk ρ xs src else if src-d<k/\k<=src then Rk ρ xs (k-1) else Rk ρ xs k:=by
 have e:=getElem?_bubble hs d hd k;by_cases h1:k=src-d
 .rw [ahF h1]at e ⊢;exact EM e
 .rw [aah h1]at e ⊢;by_cases h2:src-d<k/\k<=src
  .rw [ahF h2]at e ⊢;exact EM e
  .rw [aah h2]at e ⊢;exact EM e
theorem wN{ρ:Keyed->Nat}{xs:Array Keyed}{i j:Nat}(hj:j<=xs.size)(k:Nat) :
  Rk ρ (mirror xs i j ((j-i)/2)) k=if i<=k/\k<j then Rk ρ xs (i+j-1-k) else Rk ρ xs k:=by
 have e:=getElem?_mirror_all (i:=i) hj k;by_cases h1:i<=k/\k<j
 .rw [ahF h1]at e ⊢;exact EM e
 .rw [aah h1]at e ⊢;exact EM e
section
variable{prog:Program}{w:World}{A:Around}{E:Value->Shared->Prop}{s:Shared}{a₀:Array Keyed}{ρ:Keyed->Nat}
theorem SB.inj{st:SortSt}(h:SBase a₀ st)(hr:gx ρ a₀ 0):Inj ρ (arrOf st):=Wr h.perm hr
theorem Wq{st:SortSt}{n ok:Nat}{Q:Bool->SortSt->Prop}(h0:IntKeys a₀)(hr:gx ρ a₀ 0)(hn:n<=a₀.size)(hok:ok<=n)(UX:1<=ok)(hB:SBase a₀ st)(hs:oh ρ (arrOf st) ok)(hI:gx ρ (arrOf st) ok)
  (h:∀st',SBase a₀ st'->oh ρ (arrOf st') n->Q true st'):wpS (model prog w) A E s (binarySort' 0 n ok) Q st:=by
 rw[binarySort'_eq];simp only[apV];refine aaM (aU8 (ang (I:=λk c st1=>c=(none,())/\SBase a₀ st1/\oh ρ (arrOf st1) (min k n)/\gx ρ (arrOf st1) (min k n))
  (Q:=λc st1=>c=(none,())/\SBase a₀ st1/\oh ρ (arrOf st1) n) ?turn ?last ?first) ?after)
 case after=>
  rintro c st1 ⟨rfl,b1,i1⟩;exact aAI (h st1 b1 i1)
 case first=>
  rw[show min (max ok 1) n=ok by lia];exact(8,hB,hs,hI,)
 case last=>
  rintro c st1 ⟨hc,b1,i1,_⟩;rw[show min (max (max ok 1) n) n=n by lia]at i1;exact(hc,b1,i1,)
 case turn=>
  rintro k c st1 UR hkn ⟨rfl,b1,i1,d1⟩;rw[show min k n=k by lia]at i1 d1;have hk:k<a₀.size:=7
  have sz:=b1.size;have J:=SB.inj b1 hr;have rk:Rk ρ (arrOf st1) k=k:=d1 k (bbI _) 7;have lo:∀m,m<k->¬K (arrOf st1) k<K (arrOf st1) m->fq ρ (arrOf st1) m k:=λm hm c=>by
   have:=J.below d1 hm 7;unfold fq;lia
  refine aaM (aU8 (ang (I:=λx c st2=>st2=st1/\∃l r,c=(none,l,r)/\l<=r/\r<=k/\r-l<=k-x/\(∀i,i<l->fq ρ (arrOf st1) i k)/\(∀i,r<=i->i<k->fq ρ (arrOf st1) k i))
   (Q:=λc st2=>st2=st1/\∃l r,c=(none,l,r)/\l<=k/\(∀i,i<l->fq ρ (arrOf st1) i k)/\(∀i,l<=i->i<k->fq ρ (arrOf st1) k i)) ?iturn ?ilast ?ifirst) ?iafter)
  case ifirst=>exact(8,0,k,8,7,7,7,λi hi=>absurd hi 7,λi p q=>absurd q 7,)
  case ilast=>
   rintro c st2 ⟨rfl,l,r,rfl,hlr,hrk,hm,u1,u2⟩;have e:l=r:=7
   subst e;exact(8,l,l,8,hrk,u1,u2,)
  case iturn=>
   rintro x c st2 _ hxk ⟨rfl,l,r,rfl,hlr,hrk,hm,u1,u2⟩;dsimp only;by_cases hge:l ≥ r
   .rw [ahF hge];have e:l=r:=7
    subst e;exact aAI (8,l,l,8,hrk,u1,u2,)
   .rw [aah hge];refine aaM (wpS_ltK b1 h0 hk 7 ?_);by_cases c:K (arrOf st2) k<K (arrOf st2) ((l+r)/2)
    .simp only[c,ajr,an9];refine aAI (8,l,(l+r)/2,8,7,7,7,u1,λi p q=>?_,);by_cases e:i=(l+r)/2
     .subst e;exact .inl c
     .exact fq.trans (.inl c) (i1 _ _ 7 q)
    .simp only[c,aj9,axr,aGD];refine aAI (8,(l+r)/2+1,r,8,7,7,7,λi p=>?_,u2,);have v:=lo _ 7 c;by_cases e:i=(l+r)/2
     .subst e;exact v
     .exact fq.trans (i1 _ _ 7 7) v
  case iafter=>
   rintro c st2 ⟨rfl,l,r,rfl,hlk,u1,u2⟩;show wpS _ _ _ _ (do moveDown' k l;pure (ForInStep.yield (none,()))) _ _;rw[moveDown'_eq];refine aaM (ao2 (aAI (8,b1.setArr (bubble_perm _ _ _),?_,?_,)))
   .rw [show min (k+1) n=k+1 by lia];have hks:k<(arrOf st2).size:=7
    intro i j hij hj;show fq ρ (bubble (arrOf st2) k (k-l)) i j;unfold fq;rw[K_bubble hks 7,K_bubble hks 7,LJ hks 7,LJ hks 7,show k-(k-l)=l by lia];by_cases a1:i=l
    .have yF:¬j=l:=7
     have NQ:l<j/\j<=k:=7
     rw[ahF a1,ahF a1,aah yF,aah yF,ahF NQ,ahF NQ];exact u2 _ 7 7
    .rw [aah a1,aah a1];by_cases a2:j=l
     .have yF:¬(l<i/\i<=k):=7
      rw[ahF a2,ahF a2,aah yF,aah yF];exact u1 _ 7
     .rw [aah a2,aah a2];by_cases a3:l<i/\i<=k
      .have yF:l<j/\j<=k:=7
       rw[ahF a3,ahF a3,ahF yF,ahF yF];exact i1 _ _ 7 7
      .rw [aah a3,aah a3];by_cases a4:l<j/\j<=k
       .rw [ahF a4,ahF a4];by_cases a5:i<j-1
        .exact i1 _ _ a5 7
        .exfalso;lia
       .rw [aah a4,aah a4];exact i1 _ _ 7 7
   .rw [show min (k+1) n=k+1 by lia];intro i hi hs';have hs2:i<(arrOf st2).size:=by
     have:(arrOf (setArr st2 (bubble (arrOf st2) k (k-l)))).size=(arrOf st2).size:=bubble_size _ _ _;lia
    show Rk ρ (bubble (arrOf st2) k (k-l)) i=i;rw[LJ 7 7,aah 7,aah 7];exact d1 i 7 hs2
theorem Oj{st:SortSt}{a nrem:Nat}{Q:AscSt->SortSt->Prop}(h0:IntKeys a₀)(hr:gx ρ a₀ 0)(hn:nrem<=a₀.size)(ha:1<=a)(han:a<=nrem)(hB:SBase a₀ st)(hs:oh ρ (arrOf st) a)(hI:gx ρ (arrOf st) a)
  (h:∀n,a<=n->n<=nrem->oh ρ (arrOf st) n->(n=nrem\/K (arrOf st) n<K (arrOf st) (n-1))->Q (none,n) st):wpS (model prog w) A E s (ascLoop a nrem) Q st:=by
 unfold ascLoop;have sz:=hB.size;have J:=SB.inj hB hr;refine ang (I:=λx c st1=>st1=st/\c=(none,x)/\oh ρ (arrOf st) x) ?turn ?last (8,8,hs,)
 case last=>
  rintro c st1 ⟨rfl,rfl,i1⟩;rw[show max a nrem=nrem by lia]at i1 ⊢;exact h nrem han (bbI _) i1 (.inl 8)
 case turn=>
  rintro x c st1 hax hxn ⟨rfl,rfl,i1⟩;dsimp only;refine aaM (wpS_ltK hB h0 7 7 ?_);by_cases c:K (arrOf st1) x<K (arrOf st1) (x-1)
  .simp only[c,ajr,an9];exact aAI (h x hax 7 i1 (.inr c))
  .simp only[c,aj9,axr,aGD];refine aAI (8,8,λi j hij hj=>?_,);by_cases hjx:j<x
   .exact i1 i j hij hjx
   .have ej:j=x:=7
    subst ej;have dx:=hI.mono hax;have r1:=J.below dx (i:=j-1) 7 7;have r2:=dx j (bbI _) 7;have v:fq ρ (arrOf st1) (j-1) j:=by unfold fq;lia
    by_cases e:i=j-1
    .subst e;exact v
    .exact fq.trans (i1 i (j-1) 7 7) v
theorem O5{st:SortSt}{n nrem:Nat}{Q:Option Nat->SortSt->Prop}(h0:IntKeys a₀)(hr:gx ρ a₀ 0)(hn:nrem<=a₀.size)(h1:1<=n)(hnn:n<=nrem)(hB:SBase a₀ st)(hs:Dec ρ (arrOf st) n)(hI:gx ρ (arrOf st) n)
  (h:∀m st',SBase a₀ st'->1<=m->m<=nrem->oh ρ (arrOf st') m->gx ρ (arrOf st') m->Q (!m) st'):wpS (model prog w) A E s (tail3 n nrem) Q st:=by
 unfold tail3;have sz:=hB.size;refine aaM (atR ?_);have b1:SBase a₀ (setArr st (mirror (arrOf st) 0 n ((n-0)/2))):=hB.setArr (afX _ _ _ _);have d1:gx ρ (mirror (arrOf st) 0 n ((n-0)/2)) n:=λi hi hs'=>by
  rw[mirror_size]at hs';rw[wN 7,aah 7];exact hI i hi hs'
 refine aaM (Oj h0 hr hn h1 hnn b1 ?_ d1 λm m1 m2 i2 _=>aAI (h m _ b1 7 m2 i2 (d1.mono m1)));intro i j hij hj;show fq ρ (mirror (arrOf st) 0 n ((n-0)/2)) i j;unfold fq;rw[K_mirror 7,K_mirror 7,wN 7,wN 7,ahF 7,ahF 7,ahF 7,ahF 7];exact hs _ _ 7 7
structure DI(ρ:Keyed->Nat)(xs:Array Keyed)(x q:Nat):Prop where
 l:q+1<=x
 sz:x<=xs.size
 d:Dec ρ xs (x-(q+1))
 u:∀i j,i<x-(q+1)->x-(q+1)<=j->j<x->K xs j<K xs i
 e:∀i,x-(q+1)<=i->i<x->K xs i=K xs (x-1)
 f:gx ρ xs (x-(q+1))
theorem DI.Ec{xs:Array Keyed}{x:Nat}(h:DI ρ xs x 0):Dec ρ xs x:=λi j hij hj=>by
 by_cases c:j<x-(0+1)
 .exact h.d i j hij c
 .exact .inl (h.u i j 7 7 hj)
theorem DI.rev{xs:Array Keyed}{x q:Nat}(h:DI ρ xs x q):Dec ρ (mirror xs (x-(q+1)) x ((x-(x-(q+1)))/2)) x/\gx ρ (mirror xs (x-(q+1)) x ((x-(x-(q+1)))/2)) x:=by
 have hl:=h.l;have hz:=h.sz;refine(λi j hij hj=>?_,λi hi hs=>?_,)
 .have ke:=K_mirror_equal (i:=x-(q+1)) hz h.e;unfold fq;rw[ke,ke,wN hz,wN hz];by_cases c1:j<x-(q+1)
  .rw [aah 7,aah 7];exact h.d i j hij c1
  .by_cases c2:i<x-(q+1)
   .exact .inl (h.u i j c2 7 hj)
   .rw [ahF 7,ahF 7];refine .inr ((h.e j 7 hj).trans (h.e i 7 7).symm,?_,);rw[h.f _ 7 7,h.f _ 7 7];lia
 .rw [mirror_size]at hs;rw[wN hz,aah 7];exact h.f i 7 hs
theorem DI.of{xs:Array Keyed}{x:Nat}(hx:1<=x)(hz:x<xs.size)(hd:Dec ρ xs x)(hf:gx ρ xs x)(hk:K xs x<K xs (x-1)):DI ρ xs (x+1) 0:=by
 refine(7,7,hd,λi j hi hj hj'=>?_,λi hi hi'=>?_,hf,)
 .have ej:j=x:=7
  subst ej;by_cases e:i=j-1
  .subst e;exact hk
  .have v:=hd i (j-1) 7 7;unfold fq at v;lia
 .have ei:i=x:=7
  subst ei;rfl
theorem DI.more{xs:Array Keyed}{x q:Nat}(h:DI ρ xs x q)(hz:x<xs.size)(hk:K xs x=K xs (x-1)):DI ρ xs (x+1) (q+1):=by
 have hl:=h.l;have e0:x+1-(q+1+1)=x-(q+1):=7
 refine(7,7,by rw[e0];exact h.d,λi j hi hj hj'=>?_,λi hi hi'=>?_,by rw[e0];exact h.f,)
 .rw [e0]at hi hj;by_cases c:j<x
  .exact h.u i j hi hj c
  .have ej:j=x:=7
   subst ej;rw[hk];exact h.u i (j-1) hi 7 7
 .rw [show x+1-1=x by lia];by_cases c:i<x
  .rw [hk];exact h.e i 7 c
  .have ei:i=x:=7
   subst ei;rfl
theorem WU{st:SortSt}{n nrem:Nat}{Q:DescSt->SortSt->Prop}(h0:IntKeys a₀)(hn:nrem<=a₀.size)(hnn:n<=nrem)(hB:SBase a₀ st)(hs:DI ρ (arrOf st) n 0)
  (h:∀m q st',SBase a₀ st'->m<=nrem->DI ρ (arrOf st') m q->Q (none,m,q) st'):wpS (model prog w) A E s (descLoop n nrem) Q st:=by
 unfold descLoop;refine ang (I:=λx c st1=>∃q,c=(none,x,q)/\SBase a₀ st1/\DI ρ (arrOf st1) x q) ?turn ?last (0,8,hB,hs,)
 case last=>
  rintro c st1 ⟨q,rfl,b1,d1⟩;rw[show max n nrem=nrem by lia]at d1 ⊢;exact h nrem q st1 b1 (bbI _) d1
 case turn=>
  rintro x c st1 hax hxn ⟨q,rfl,b1,d1⟩;dsimp only;have sz:=b1.size;have hl:=d1.l;refine aaM (wpS_ltK b1 h0 7 7 ?_);by_cases c:K (arrOf st1) x<K (arrOf st1) (x-1)
  .simp only[c,ajr,an9];by_cases hq:q>0
   .rw [ahF hq];let(r1,r2,):=d1.rev;refine aaM (atR (aAI (0,8,b1.setArr (afX _ _ _ _),DI.of 7 (by show x<(mirror _ _ _ _).size;rw[mirror_size];lia) r1 r2 ?_,)));show K (mirror _ _ _ _) x<K (mirror _ _ _ _) (x-1);rw[K_mirror_equal d1.sz d1.e,K_mirror_equal d1.sz d1.e];exact c
   .rw [aah hq];have e:q=0:=7
    subst e;exact aAI (0,8,b1,DI.of 7 7 d1.Ec (d1.f.mono 7) c,)
  .simp only[c,aj9,axr,aGD];refine aaM (wpS_ltK b1 h0 7 7 ?_);by_cases c2:K (arrOf st1) (x-1)<K (arrOf st1) x
   .simp only[c2,ajr,an9];exact aAI (h x q st1 b1 7 d1)
   .simp only[c2,aj9,axr,aGD];exact aAI (q+1,8,b1,d1.more 7 7,)
theorem O4{st:SortSt}{n nrem:Nat}{Q:Option Nat->SortSt->Prop}(h0:IntKeys a₀)(hr:gx ρ a₀ 0)(hn:nrem<=a₀.size)(hnn:n+1<=nrem)(hB:SBase a₀ st)(hs:DI ρ (arrOf st) (n+1) 0)
  (h:∀m st',SBase a₀ st'->1<=m->m<=nrem->oh ρ (arrOf st') m->gx ρ (arrOf st') m->Q (!m) st'):wpS (model prog w) A E s (descPart n nrem) Q st:=by
 unfold descPart;refine aaM (wpS_lift (aJI (8,?_,)));refine aaM (WU h0 hn hnn hB hs λm q st1 b1 m2 d1=>?_);dsimp only;have hl:=d1.l;by_cases hq:q>0
 .rw [ahF hq];let(r1,r2,):=d1.rev;exact aaM (atR (O5 h0 hr hn 7 m2 (b1.setArr (afX _ _ _ _)) r1 r2 h))
 .rw [aah hq];have e:q=0:=7
  subst e;exact O5 h0 hr hn 7 m2 b1 d1.Ec (d1.f.mono 7) h
theorem Xx{st:SortSt}{nrem:Nat}{Q:Option Nat->SortSt->Prop}(h0:IntKeys a₀)(hr:gx ρ a₀ 0)(hn:nrem<=a₀.size)(h1:1<=nrem)(hB:SBase a₀ st)(hI:gx ρ (arrOf st) 0)
  (h:∀m st',SBase a₀ st'->1<=m->m<=nrem->oh ρ (arrOf st') m->gx ρ (arrOf st') m->Q (!m) st'):wpS (model prog w) A E s (countRun' 0 nrem) Q st:=by
 rw[countRun0_eq];have sz:=hB.size;refine aaM (Oj h0 hr hn (bbI 1) h1 hB (λi j hij hj=>absurd hj 7) (hI.mono (agn _)) λn n1 n2 i1 hor=>?_);dsimp only;by_cases e:n=nrem
 .rw [ahF (by simpa using e)];exact aAI (h n st hB n1 n2 i1 (hI.mono (agn _)))
 .rw [aah (by simpa using e)];have lt:K (arrOf st) n<K (arrOf st) (n-1):=hor.resolve_left e;by_cases g:n>1
  .rw [ahF g];refine aaM (wpS_ltK hB h0 7 7 ?_);by_cases c:K (arrOf st) 0<K (arrOf st) (n-1)
   .simp only[c,ajr,an9];exact aAI (h n st hB n1 n2 i1 (hI.mono (agn _)))
   .simp only[c,aj9,axr,aGD];have all:∀k,0<=k->k<n->K (arrOf st) k=K (arrOf st) (n-1):=by
     intro k _ hk;have a1:k=0\/fq ρ (arrOf st) 0 k:=by
      by_cases z:k=0
      .exact .inl z
      .exact .inr (i1 0 k 7 hk)
     have a2:k=n-1\/fq ρ (arrOf st) k (n-1):=by
      by_cases z:k=n-1
      .exact .inl z
      .exact .inr (i1 k (n-1) 7 7)
     have a3:=i1 0 (n-1) 7 7;unfold fq at a1 a2 a3;rcases a1 with a1|a1
     .subst a1;lia
     .rcases a2 with a2|a2
      .subst a2;rfl
      .lia
    have ke:=K_mirror_equal (xs:=arrOf st) (i:=0) (j:=n) 7 all;refine aaM (atR (O4 h0 hr hn 7 (hB.setArr (afX _ _ _ _)) (DI.of 7 (by show n<(mirror _ _ _ _).size;rw[mirror_size];lia) (λi j hij hj=>?_) (λi hi hs=>?_) ?_) h))
    .show fq ρ (mirror (arrOf st) 0 n ((n-0)/2)) j i;unfold fq;rw[ke,ke,all i 7 7,all j 7 hj,wN 7,wN 7,ahF 7,ahF 7,hI _ 7 7,hI _ 7 7];lia
    .have hs':i<(mirror (arrOf st) 0 n ((n-0)/2)).size:=hs;rw[mirror_size]at hs';show Rk ρ (mirror (arrOf st) 0 n ((n-0)/2)) i=i;rw[wN 7,aah 7];exact hI i 7 hs'
    .show K (mirror (arrOf st) 0 n ((n-0)/2)) n<K (mirror (arrOf st) 0 n ((n-0)/2)) (n-1);rw[ke,ke];exact lt
  .rw [aah g];have en:n=1:=7
   subst en;exact O4 h0 hr hn 7 hB (DI.of 7 7 (λi j hij hj=>absurd hj 7) (hI.mono (agn _)) lt) h
def rC(ρ:Keyed->Nat)(a₀:Array Keyed)(st:SortSt):Prop:=(arrOf st).Perm a₀/\failedOf st=none/\pendingOf st=#[(0,a₀.size,0)]/\oh ρ (arrOf st) a₀.size
theorem rC.of{st:SortSt}(hB:SBase a₀ st)(hs:oh ρ (arrOf st) a₀.size):rC ρ a₀ (setPending st ((pendingOf st).push (0,a₀.size,0))):=
 (hB.perm,hB.failed,by show(pendingOf st).push _=_;rw[hB.pend];rfl,hs,)
theorem WT{st:SortSt}{Q:Unit->SortSt->Prop}(h0:IntKeys a₀)(hr:gx ρ a₀ 0)(hB:SBase a₀ st)(hI:gx ρ (arrOf st) 0)(h2:2<=a₀.size)(h64:a₀.size<64)
  (h:∀st',(arrOf st').Perm a₀->failedOf st'=none->oh ρ (arrOf st') a₀.size->Q () st'):wpS (model prog w) A E s sortRuns' Q st:=by
 rw[sortRuns'_eq];refine aaM (aOc ?_);dsimp only;have mr:minRun' a₀.size a₀.size 0=a₀.size:=by
  obtain⟨f,hf⟩:∃f,a₀.size=f+1:=(a₀.size-1,7,);have e:minRun' (f+1) a₀.size 0=a₀.size:=by
   rw[minRun'_succ,ahF h64];rfl
  rwa [<-hf]at e
 simp only[hB.size,mr];refine aaM (aU8 (ang
  (I:=λx c st1=>(x=0/\c=(none,0)/\SBase a₀ st1/\gx ρ (arrOf st1) 0)\/(1<=x/\c=(none,a₀.size)/\rC ρ a₀ st1))
  (Q:=λc st1=>c=(none,a₀.size)/\rC ρ a₀ st1) ?turn ?last (.inl (8,8,hB,hI,))) ?after)
 case last=>
  rintro c st1 (⟨hx,_⟩|⟨_,hc,hD⟩)
  .lia
  .exact (hc,hD,)
 case turn=>
  rintro x c st1 _ hx (⟨rfl,rfl,b1,i1⟩|⟨pY,rfl,hD⟩)
  .dsimp only;rw[aah 7];simp only[Nat.sub_zero,Nat.min_self,apV];refine aaM (Xx h0 hr (bbI _) 7 b1 i1 λm st2 b2 m1 m2 s2 d2=>?_);dsimp only;by_cases lt:m<a₀.size
   .rw [ahF lt];refine aaM (wpS_lift (aJI (8,?_,)));refine aaM (Wq h0 hr (bbI _) m2 m1 b2 s2 d2 λst3 b3 s3=>?_);simp only[aZh,axr,aGD];refine aaM (aOc ?_);have hb:(pendingOf st3).back?=none:=by
     rw[b3.pend];rfl
    rw[hb];dsimp only;exact aaM (ao2 (aAI (.inr (7,8,rC.of b3 s3,))))
   .rw [aah lt];have em:m=a₀.size:=7
    subst em;refine aaM (aOc ?_);have hb:(pendingOf st2).back?=none:=by
     rw[b2.pend];rfl
    rw[hb];dsimp only;exact aaM (ao2 (aAI (.inr (7,8,rC.of b2 s2,))))
  .dsimp only;rw[ahF (bbI _)];exact aAI (8,hD,)
 case after=>
  rintro c st1 ⟨rfl,hD⟩;dsimp only;refine aaM (aU8 (ang (I:=λ_ c st2=>st2=st1/\c=(none,())) (Q:=λc st2=>st2=st1/\c=(none,())) ?_ (λ_ _ hh=>hh) (8,8,)) ?_)
  .rintro x c st2 _ _ ⟨rfl,rfl⟩;refine aaM (aOc ?_);rw[ahF (by rw[hD.2.2.1];exact bbI 1)];exact aAI (8,8,)
  .rintro c st2 ⟨rfl,rfl⟩;exact aAI (h _ hD.1 hD.2.1 hD.2.2.2)
end
end L2.Ra
namespace L2
open PySem PySem.Spec PyProof.Rows
def BMod(base:Heap)(mg:Str->Option Value):Prop:=∃bm o,mg "__builtins__"=!(.ref bm)/\bm≠builtinsNs/\bm≠mainGlobals/\base.get? bm=!o/\o.cls=.type "module" /\o.dict=!builtinsNs/\o.data=.plain
section
variable{X:Cx}{pins:List (Addr×Obj)}{σ:St}{H:Hp}{s:Shared}
theorem Inv.grown{P c':Addr}{pos:Pos}{qual:Str}{ps:Array Value}{h':Heap}{tk:Nat}(I:Inv X pins σ H s)(hP:H P=!(.jU pos qual))(hx:Heap.ExtBut P s.heap h')(hge:s.heap.objs.size<=c')(hrec:h'.CodeRec (.ref c') qual)
  (htr:TriplesOk ps.toList) (hnf:codeAmong pos ps.toList=none) (htb:h'.get? P=!{ cls:=.none,data:=.fields (ps++#[rawInt pos.line,rawInt pos.col,.ref c']) }) :
  ∃oc vs t,h'.get? c'=!oc/\oc.data=.fields vs/\vs[1]?=!(.str qual t)/\Inv X pins σ (upd H c' (.bH oc (.own P))) { s with heap:=h',toks:=tk }:=by
 let(c,oc,vs,t,z,hoc,hd,hv,):=hrec;cases z;have fr:H c'=none:=I.hok.fresh hge;have nP:∀b,H b=none->b≠P:=λb n z=>by rw[z,hP]at n;cases n
 have nc:∀b u,H b=!u->b≠c':=λb u e=>Ze e fr;have nh:∀b o,s.heap.get? b=!o->b≠c':=λb o e=>aOt (a5i (a2o e) hge);have cP:c'≠P:=λz=>by rw[z,hP]at fr;cases fr
 refine(oc,vs,t,hoc,hd,hv,I.step (g':=s.gens) (d':=s.drawn) (t':=tk) (ch:=[]) (h':=h') (H':=upd H c' (.bH oc (.own P))) (λ_ z=>nomatch z) (λb o _ _ _ e n=>hx b o (nP b n) e) (λb o _ _ _ e n=>(o.slots,hx b o (nP b n) e,))
  (λb o _ e n=>by rw[Zg (nh b o e)];exact n) (λb o _ e=>?_) (λb xs e=>by rw[Zg (nc b _ e)];exact e) (λb o u e=>by rw[Zg (nc b _ e)];exact e) (λb p q e=>by rw[Zg (nc b _ e)];exact e) (λm hm=>?_) (λb u e=>?_) I.bare,)
 .by_cases hb:b=P
  .subst hb;exact(_,htb,)
  .exact (o,hx b o hb e,)
 .let(o,es,ep,ho,r,):=hm;exact(o,es,ep,hx _ o (nP _ I.free) ho,r,)
 .by_cases hb:b=c'
  .subst hb;rw[Za]at e;cases e;exact(hoc,_,hoc,)
  .rw [Zg hb]at e;by_cases Nk:b=P
   .subst Nk;rw[hP]at e;cases e;have e1:(ps++#[rawInt pos.line,rawInt pos.col,Value.ref c']).toList=ps.toList++[rawInt pos.line,rawInt pos.col,.ref c']:=5
    refine(_,htb,?_,λcv hc=>?_,)
    .rw [e1];exact TriplesOk_snoc _ _ _ _ htr
    .rw [e1,codeAmong_snoc _ htr hnf]at hc;cases hc;exact(c',oc,vs,t,8,Za,hd,hv,)
   .refine (I.hok b u e).stay (λd v hd' q=>hx d v ?_ q) (λd q=>by rw[Zg (nc d _ q)];exact q) (λd xs q=>by rw[Zg (nc d _ q)];exact q) λd oz q=>by rw[Zg (nc d _ q)];exact q
    rcases hd' with rfl|hd'
    .exact Nk
    .intro z;rw[z,hP]at hd';cases hd'
structure nQ(X:Cx)(scope:Scope)(x:Str)(fr:List Str)(js:List Nat):Prop where
 kind:scope.kind=.function
 co:scope.isCoroutine=false
 gen:scope.isGenerator=false
 tT:∀y∈scope.names,y.2≠.cell
 par:scope.names.lookup x=!.local
 free:∀y∈scope.names,y.2=.free->X.env.kindOf y.1=!.cell\/X.env.kindOf y.1=!.free
 len:fr.length=js.length
 js:∀(k j:Nat),js[k]?=!j->fr[k]?=X.N[j]?
 jf:∀(k:Nat)(y:Str),fr[k]?=!y->scope.names.lookup y=!.free
noncomputable def gG(X:Cx)(A:Around)(N:List Str)(qual:Str)(scope:Scope)(f:Addr)(cd:Value)(cl:List (Str×Addr))(s:Shared)(H:Hp):Cx where
 prog:=X.prog
 w:=X.w
 K:=X.K
 mg:=X.mg
 base:=X.base
 A:=A.deeper (W.envX qual scope s.heap.objs.size f cd cl)
 N:=N
 s₀:=s
 H₀:=H
 env:=W.envX qual scope s.heap.objs.size f cd cl
 outer:=X.stack
 stack:=W.envX qual scope s.heap.objs.size f cd cl ::X.stack
 ex:=[]
 calm:=true
 fn:=λ_=>false
 pn:=[]
 xe:=λ_ _=>False
theorem WS{A:Around}{x:Str}{fr:List Str}{js:List Nat}{qual:Str}{scope:Scope}{f:Addr}{cd:Value}{cl:List (Str×Addr)}{s1:Shared}{u:Value}{v:V}(c:nQ X scope x fr js)(I:Inv X pins σ H s)(hA:A.frames=!X.stack)(hh:A.handled=none)
  (ic:∀x c,cl.lookup x=!c->X.env.cells.lookup x=!c) (lF:∀p∈scope.names,p.2=.free->∃c,cl.lookup p.1=!c) (r:RelV v u)
  (hn:s1.heap.Ns s.heap.objs.size λy=>[(x,u)].reverse.lookup y) (hk:∀b o,s.heap.get? b=!o->s1.heap.get? b=!o) (hos:s1.os=s.os) (hg:s1.gens=s.gens) :
  Inv (gG X A (x ::fr) qual scope f cd cl s H) [] (some v ::js.map λj=>(σ[j]?).join) H s1:=by
 have zG:∀b:Addr,b∉(gG X A (x ::fr) qual scope f cd cl s H).ex:=λb z=>absurd (show b∈([]:List Addr) from z) 5;have ok:(gG X A (x ::fr) qual scope f cd cl s H).Ok:=by
  refine(I.ok.mod,c.kind,8,8,bbI _,λy z d e1 e2=>I.ok.inj y z d (ic _ _ e1) (ic _ _ e2),λy hy=>?_,λy d z _=>absurd z (by simp[gG]),λ_=>hh,Around.frames_deeper hA,.inr (8,8,),λb z=>absurd z (zG b),I.bs,bbd I.ok.vt I.sz,λb _ _=>zG b,λb z=>absurd z (zG b),I.stack,I.jW,);have hy:scope.names.lookup y=!.cell\/scope.names.lookup y=!.free:=hy;rcases hy with hy|hy
  .exact absurd 8 (c.tT _ (wO hy))
  .exact lF _ (wO hy) 8
 refine(ok,hos,by rw[hg];exact I.bare,Un.kept hk,(_,hn,λi y v' e1 e2 e3=>?_,),λy d e=>?_,I.hok.fresh (bbI _),λy d e=>I.cU y d (ic y d e),λp hp=>absurd (show p∈([]:List (Addr×Obj)) from hp) 5,I.hok.kept hk,?_,)
 .cases i with
  |zero=>
   have vn:x=y:=by simpa[gG]using e1
   have m9:v=v':=by simpa using e2
   subst vn;subst m9;refine(u,r,.inl (c.par,?_,),);show([(x,u)]:List (Str×Value)).reverse.lookup x=!u;simp
  |succ k=>
   have vn:fr[k]?=!y:=by simpa[gG]using e1
   rw[a9b,aGb]at e2;cases q:js[k]? with
   |none=>rw[q]at e2;cases e2
   |some j=>
    rw[q]at e2;have m9:(σ[j]?).join=!v':=by simpa using e2
    have e4:σ[j]?=!(!v'):=by
     cases z:σ[j]? with
     |none=>rw[z]at m9;cases m9
     |some o=>rw[z]at m9;rw[show o=some v' from m9]
    have JV:X.N[j]?=!y:=(c.js k j q).symm.trans vn;have hfr:=c.jf k y vn;have hk2:=c.free _ (wO hfr) 8;have vis:BB X.env.scope y:=by
     rcases hk2 with z|z
     .exact .inr (.inl z)
     .exact .inr (.inr z)
    let(m,_,hl,):=I.loc;let(u',r',l,):=hl j y v' JV e4 vis;refine(u',r',?_,);rcases l with⟨z,_⟩|⟨_,d,e,⟨od,ho,hd⟩⟩
    .rcases hk2 with y'|y'
     .rw [show X.env.kindOf y=_ from z]at y';cases y'
     .rw [show X.env.kindOf y=_ from z]at y';cases y'
    .let(d',e',):=lF _ (wO hfr) 8;have z':=ic _ _ e';have:d'=d:=by rw[e]at z';exact(aFB z').symm
     subst this;exact .inr (.inr hfr,d',e',(od,hk _ _ ho,hd,),)
 .let(v',(o,ho,hd,),):=I.cell y d (ic y d e);exact(v',o,hk _ _ ho,hd,)
 .show (some v ::_:List (Option V)).length=(x ::fr).length;rw[acz,acz,ano,c.len]
theorem Xw{A:Around}{x:Str}{fr:List Str}{js:List Nat}{name qual:Str}{params:Arguments}{body:PySem.Expr}{scope:Scope}{f:Addr}{pm cd ct:Value}{cl:List (Str×Addr)}{u:Value}{v:V}{te:TE}{Q:VK}{E:Value->Shared->Prop}{of:Obj}(c:nQ X scope x fr js)(I:Inv X pins σ H s)
  (hA:A.frames=!X.stack) (hh:A.handled=none) (JR:A.depth<recursionLimit)
  (ic:∀x c,cl.lookup x=!c->X.env.cells.lookup x=!c) (lF:∀p∈scope.names,p.2=.free->∃c,cl.lookup p.1=!c)
  (ho:s.heap.get? f=!of) (hof:of.data=.func (W.kla_fn name qual params body scope cl pm cd ct)) (hcd:s.heap.CodeRec cd qual)
  (hb:∀u,bindArgs (W.kla_fn name qual params body scope cl pm cd ct) ([u],[],)=pure [(x,u)]) (r:RelV v u)
  (he:∀s,PE (gG X A (x ::fr) qual scope f cd cl s H) body te) (h:te (some v ::js.map λj=>(σ[j]?).join) H Q) :
  wpAny (model X.prog X.w) A (call (.ref f) [u]) (EP X pins σ Q) E s:=by
 refine wpAny_call (codeAny_mono (R:=λr s'=>∃u',r=.ok (.ret u')/\CE X.stack X.prog X.w H s Q u' s') (W.kla_callFunE JR ho hof c.co c.gen 8 hcd (by
  rw[hb u];refine ak8 ?_;refine wpAny_newFunctionEnv c.tT (λy hy=>by rw[aOT.mp hy];exact c.par) (λh₁ hns F6=>?_) c.kind;have hk₁:∀b o,s.heap.get? b=!o->h₁.get? b=!o:=λb o e=>F6.extBut b o (aOt (a2o e)) (aJV _ e);refine(I.nolimit.keeps hk₁,?_,);have J:=WS (qual:=qual) (f:=f) (cd:=cd) (s1:={ s with heap:=h₁,toks:=s.toks+[(x,u)].length }) c I hA hh ic lF r hns hk₁ 8 8;refine W.kla_codeExpr (aP5 (he s [] _ _ H Q J h) (λu' s' hq=>?_) λ_ _ z=>z.elim);let(v',H',J',rv,q,):=hq;exact(u',8,v',H',J'.os,J'.bare,J'.base,J'.hok,rv,q,))) λr s' hq=>?_)
 let(u',rfl,hq,):=hq;exact I.after hq
theorem Xv{P c0:Addr}{x:Str}{fr:List Str}{js:List Nat}{params:Arguments}{body:PySem.Expr}{scope:Scope}{pos:Pos}{R:Value->Shared->Prop}(c:nQ X scope x fr js)(I:Inv X pins σ H s)(hc0:X.env.code=.ref c0)(hcd:W.codeHdIn X.K c0 P=true)
  (bm:BMod X.base X.mg) (hP:H P=!(.jU pos (X.env.qual ++ "<lambda>"))) (hd0:params.defaults=[]) (hk0:params.kw_defaults=[])
  (h:∀f cl cd pm ct of H' s',Inv X pins σ H' s'->ak H H'->(∀x c,cl.lookup x=!c->X.env.cells.lookup x=!c)->(∀p∈scope.names,p.2=.free->∃c,cl.lookup p.1=!c) -> 
   H' f=!(.bH of (.own 0))->of.data=.func (W.kla_fn "<lambda>" (X.env.qual ++ "<lambda>") params body scope cl pm cd ct)->(∃c' oc vs t,cd=.ref c'/\H' c'=!(.bH oc (.own P))/\oc.data=.fields vs/\vs[1]?=!(.str (X.env.qual ++ "<lambda>") t))->R (.ref f) s') :
  wpAny (model X.prog X.w) X.A (eval (.Lambda params body scope pos) X.env) R X.xe s:=by
 let(cl,e1,ic,_,lF,):=EY (env:=X.env) scope.names [] (λp hp hf=>I.ok.has _ (c.free p hp hf)) (λx d e=>by simp at e);have hclos:closureFor scope X.env=pure cl:=by
  unfold closureFor;refine(aFH (λz=>z >>= λcs=>pure cs) e1).trans ?_;rfl
 have CH:=W.codeHd_of_K I.gV hcd;let(ps,hps,htr,hcode,):=(show aK X.prog X.w H s.heap P (.jU pos (X.env.qual ++ "<lambda>")) from I.hok P _ hP);have hg:=I.ok.mod.glob.keeps I.bk;have hgP:mainGlobals≠P:=λq=>by
  let(o,es,ep,e,hd,_,):=hg;rw[q,hps]at e;cases e;cases hd
 have hb:s.heap.BuiltinsAt X.mg P:=by
  let(b,o,a1,a2,a3,a4,a5,a6,a7,):=bm;have e:=I.bk _ _ a4;exact(b,o,a1,a2,a3,(λz=>by rw[z,hps]at e;cases e;cases a5),e,a5,a6,a7,)
 rw[arm_eval_Lambda,defaultsOf_eq,hd0,hk0];show wpAny _ _ (do let dv <-evalAll (evalEach [] X.env);let Ud <-holding dv (evalAllOpt []);makeFunction "<lambda>" (X.env.qual ++ "<lambda>") params (.expr body) scope X.env dv Ud [] pos pos.line) _ _ s;refine aTi (evalAll_nil ?_);refine aTi (a7y (ak8 ?_));cases hf:codeAmong pos ps.toList with
 |some cv=>
  let(c',oc,vs,t,rfl,hH,hd,hv,):=hcode cv hf;refine W.kla_makeFunctionHit hclos I.ok.glob hg hc0 CH hps htr hf hb λctv h' tk hk hsz=>?_;have I1:=I.laid (a:=h'.objs.size) (t':=tk) (o:=.bH { cls:=.type "function",data:=.func (W.kla_fn "<lambda>" (X.env.qual ++ "<lambda>") params body scope cl ((X.mg "__name__").getD .none) (.ref c') ctv) } (.own 0)) (h':=h'.push { cls:=.type "function",data:=.func (W.kla_fn "<lambda>" (X.env.qual ++ "<lambda>") params body scope cl ((X.mg "__name__").getD .none) (.ref c') ctv) }) (λb o e=>aJV _ (hk b o e)) hsz (aQ0 _ 8,_,aQ0 _ 8,);have fr:=I.hok.fresh hsz;exact h _ cl _ _ _ _ _ _ I1 (Zb fr _) ic lF Za 8 (c',oc,vs,t,8,by rw[Zg (Ze hH fr)];exact hH,hd,hv,)
 |none=>
  refine W.kla_makeFunction hclos I.ok.glob hg hc0 CH hps htr hf hgP hb λc' ctv h' tk hx hge hlt hrec htb=>?_;let(oc,vs,t,hoc,hd,hv,I1,):=I.grown (tk:=tk) hP hx hge hrec htr hf htb;have fr:H c'=none:=I.hok.fresh hge;have NB:upd H c' (.bH oc (.own P)) h'.objs.size=none:=I1.hok.fresh (bbI _);have I2:=I1.laid (a:=h'.objs.size) (t':=tk) (o:=.bH (W.kla_obj "<lambda>" (X.env.qual ++ "<lambda>") params body scope cl ((X.mg "__name__").getD .none) c' ctv) (.own 0)) (h':=h'.push (W.kla_obj "<lambda>" (X.env.qual ++ "<lambda>") params body scope cl ((X.mg "__name__").getD .none) c' ctv)) (λb o e=>aJV _ e) (bbI _) (aQ0 _ 8,_,aQ0 _ 8,);exact h _ cl _ _ _ _ _ _ I2 ((Zb fr _).trans (Zb NB _)) ic lF Za 8 (c',oc,vs,t,8,by rw[Zg (Ze Za NB)];exact Za,hd,hv,)
end
end L2
namespace L2
open PySem PySem.Spec PyProof.Rows L2.Ra
def AD(key:Int->Int)(ns:List Int)(a b:Int):Prop:=key a<key b\/(key a=key b/\ns.idxOf a<ns.idxOf b)
theorem Xu{l:List Keyed}(h:∀p∈l,∃t,p.2=.int (numOf p.2) t):Vals ((l.map λp=>numOf p.2).map V.int) (l.map (·.2)):=by
 induction l with
 |nil=>exact .nil
 |cons p r ih=>
  let(t,e,):=h p anL;exact .cons (t,e,) (ih λq hq=>h q (aq4 _ hq))
theorem Lv{vs:List Value}{ns:List Int}(h:IntsAre vs ns):∀{i:Nat}{v:Value},vs[i]?=!v->∃n t,ns[i]?=!n/\v=.int n t:=by
 induction h with
 |nil=>intro i v e;simp at e
 |cons n t _ ih=>
  intro i v e;cases i with
  |zero=>exact(n,t,8,by simpa using e.symm,)
  |succ i=>exact ih (by simpa using e)
theorem Oi:∀{ns:List Int},ns.Nodup->∀{i:Nat}{n:Int},ns[i]?=!n->ns.idxOf n=i
 | [],_,_,_,e=>by simp at e
 |x ::r,nd,0,n,e=>by
  have e':x=n:=by simpa using e
  subst e';simp
 |x ::r,nd,i+1,n,e=>by
  let(h1,h2,):=aZf.mp nd;have e':r[i]?=!n:=by simpa using e
  have ne:x≠n:=λz=>h1 (z ▸aE5 e');rw[List.idxOf_cons,show(x ==n)=false by simpa using ne];show r.idxOf n+1=i+1;rw[Oi h2 e']
theorem Qn{keys:Array Value}{vs:List Value}{ns:List Int}{key:Int->Int}(hk:IntsAre keys.toList (ns.map key))(hv:IntsAre vs ns)(nd:ns.Nodup) :
  gx (λp=>ns.idxOf (numOf p.2)) (keys.zip vs.toArray) 0/\∀xs:Array Keyed,xs.Perm (keys.zip vs.toArray)->oh (λp=>ns.idxOf (numOf p.2)) xs xs.size ->
   ∃os:List Int,Vals (os.map V.int) (xs.map (·.2)).toList/\os.Perm ns/\os.Pairwise (AD key ns):=by
 have lk:keys.size=ns.length:=by have:=hk.length;rw[aou,ano]at this;lia
 have lv:vs.length=ns.length:=by have:=hv.length;lia
 have Ek:∀(i:Nat)(p:Keyed),(keys.zip vs.toArray)[i]?=!p->∃n t t',ns[i]?=!n/\p=(Value.int (key n) t,Value.int n t'):=λi p e=>by
  have e':(keys.toList.zip vs)[i]?=!p:=by rw[<-ksk_zip,ags];exact e
  rw[List.getElem?_zip_eq_some]at e';let(n1,t1,q1,r1,):=Lv hk e'.1;let(n2,t2,q2,r2,):=Lv hv e'.2;rw[aGb,q2]at q1;have SO:key n2=n1:=by simpa using q1
  exact(n2,t1,t2,q2,Prod.ext (by rw[r1,SO]) r2,)
 have Ji:∀p∈(keys.zip vs.toArray).toList,∃n t t',n∈ns/\p=(Value.int (key n) t,Value.int n t'):=λp hp=>by
  let(i,e,):=abE hp;rw[ags]at e;let(n,t,t',q,r,):=Ek i p e;exact(n,t,t',aE5 q,r,)
 refine(λi _ hi=>?_,λxs hp hi=>?_,)
 .let(n,t,t',q,r,):=Ek i _ (aYz hi);unfold Rk;rw[aYz hi,r];show ns.idxOf n=i;exact Oi nd q
 .have pm:=aBx.mp hp;have zJ:∀p∈xs.toList,∃n t t',n∈ns/\p=(Value.int (key n) t,Value.int n t'):=λp zV=>Ji p (pm.mem_iff.mp zV);refine(xs.toList.map λp=>numOf p.2,?_,?_,?_,)
  .rw [Array.toList_map];refine Xu λp zV=>?_;let(n,t,t',_,rfl,):=zJ p zV;exact(t',8,)
  .have e:(keys.zip vs.toArray).toList.map (λp=>numOf p.2)=ns:=by
    apply aVo;intro i;rw[aGb,ags];by_cases hlt:i<(keys.zip vs.toArray).size
    .let(n,t,t',q,r,):=Ek i _ (aYz hlt);rw[aYz hlt,r,q];rfl
    .have lz:(keys.zip vs.toArray).size=ns.length:=by rw[Array.size_zip,lk,a3v,lv,Nat.min_self]
     rw[Array.getElem?_eq_none 7,aH9 7];rfl
   rw[<-e];exact pm.map _
  .rw [pairwise_iff_getElem];intro i j hi' hj' hij;have hi2:i<xs.size:=by simpa using hi'
   have hj2:j<xs.size:=by simpa using hj'
   have v:=hi i j hij hj2;let(n1,t1,t1',_,r1,):=zJ xs[i] 5;let(n2,t2,t2',_,r2,):=zJ xs[j] 5;have k1:K xs i=key n1:=by rw[K_eq hi2,r1];rfl
   have k2:K xs j=key n2:=by rw[K_eq hj2,r2];rfl
   have q1:Rk (λp=>ns.idxOf (numOf p.2)) xs i=ns.idxOf n1:=by unfold Rk;rw[aYz hi2,r1];rfl
   have q2:Rk (λp=>ns.idxOf (numOf p.2)) xs j=ns.idxOf n2:=by unfold Rk;rw[aYz hj2,r2];rfl
   have g1:(xs.toList.map λp=>numOf p.2)[i]=n1:=by simp[r1,numOf]
   have g2:(xs.toList.map λp=>numOf p.2)[j]=n2:=by simp[r2,numOf]
   rw[g1,g2];unfold fq at v;rw[k1,k2,q1,q2]at v;exact v
section
variable{X:Cx}{pins:List (Addr×Obj)}{σ:St}{H:Hp}{s:Shared}{d:Addr}{xs:List V}{o:Obj}
theorem Inv.vJ(I:Inv X pins σ H s)(h:H d=!(.bH o (.lst xs)))(h0:∀o' u,X.H₀ d≠!(.bH o' u)):Inv X pins σ (upd H d (.lst xs)) s:=by
 have ne:∀b u,H b=!u->u≠.bH o (.lst xs)->b≠d:=λb u e n z=>by rw[z,h]at e;exact n (aFB e).symm
 have nn:∀b,H b=none->b≠d:=λb e z=>by rw[z,h]at e;cases e
 refine(I.ok,I.os,I.bare,(I.base.keep,I.base.slot,λb o' e n hx=>?_,I.base.there,λb ys e=>?_,λb o' u e=>?_,λb p r e=>?_,),I.loc,I.cell,?_,λx c e=>?_,λp hp=>?_,λb u e=>?_,I.len,)
 .have q:=I.base.free b o' e n hx;rw[Zg (nn b q)];exact q
 .have q:=I.base.tups b ys e;rw[Zg (ne b _ q (by intro z;cases z))];exact q
 .have q:=I.base.gY b o' u e;rw[Zg (λz=>h0 o' u (by rw[<-z];exact e))];exact q
 .have q:=I.base.iw b p r e;rw[Zg (ne b _ q (by intro z;cases z))];exact q
 .rw [Zg (nn _ I.free)];exact I.free
 .rw [Zg (nn _ (I.cU x c e))];exact I.cU x c e
 .let(a1,a2,a3,):=I.pin p hp;exact(a1,by rw[Zg (nn _ a2)];exact a2,a3,)
 .by_cases hb:b=d
  .subst hb;rw[Za]at e;cases e;exact(I.hok b _ h).2
  .rw [Zg hb]at e;exact(I.hok b u e).stay (λ_ _ _ z=>z) (λc z=>by rw[Zg (ne c _ z (by intro y;cases y))];exact z) (λc ys z=>by rw[Zg (ne c _ z (by intro y;cases y))];exact z) λc oz z=>by rw[Zg (ne c _ z (by intro y;cases y))];exact z
theorem Qm{a kS:Addr}{st:SortSt}{e1:Nat}{H1:Hp}{ns:List Int}{key:Int->Int}{keys:Array Value}{its:List Value}{ks:List V}{A:Around}{E:Value->Shared->Prop}{R:PySem.Fin->Shared->Prop}(I:Inv X pins σ H1 s)(hk:IntsAre keys.toList (ns.map key))(hv:IntsAre its ns)(nd:ns.Nodup)(h64:ns.length<64)
  (ha:H1 a=!(.bH (seqObj "list" #[] e1) (.lst []))) (h0:∀o' u,X.H₀ a≠!(.bH o' u)) (A6:H1 kS=!(.lst ks)) (hlk:ks.length<=64) (hp:(arrOf st).Perm (keys.zip its.toArray)) (hi:oh (λp=>ns.idxOf (numOf p.2)) (arrOf st) (arrOf st).size) (hf:failedOf st=none)
  (h:∀(H':Hp)(s':Shared)(os:List Int),Inv X pins σ H' s'->(∀b,b≠a->b≠kS->H' b=H1 b)->H' a=!(.lst (os.map V.int))->os.Perm ns->os.Pairwise (AD key ns)->R (.done (.ret .none)) s') :
  wpAny (model X.prog X.w) A (ksk_tail a false e1 (.ref kS) st) R E s:=by
 have FW:a≠kS:=λz=>by rw[z,A6]at ha;cases ha
 let(os,vo,po,so,):=(Qn hk hv nd).2 _ hp hi;have lo:=po.length_eq;unfold ksk_tail;try dsimp only
 let(_,uc,n,rK,Ng,eK,):=I.ju A6;have lK:uc.length<=64:=by have:=rK.length;lia
 refine aTi (aNs eK 8 ?_ (by rw[a3v,aXE];lia) (agn _));have I6:=I.qT (t':=s.toks) (f:=λ_=>#[]) (its':=[]) (ys:=[]) A6 eK 8 .nil (agn _);have Nl:upd H1 kS (.lst []) a=!(.bH (seqObj "list" #[] e1) (.lst [])):=by rw[Zg FW];exact ha
 have oa:=(I6.hok a _ Nl).1;refine aTi (aNk ?_);refine aTi (seqEpoch_at oa 8 ?_);have lo2:((arrOf st).map (·.2)).size=ns.length:=by
  have e:=vo.length;rw[ano]at e;have e2:((arrOf st).map (·.2)).toList.length=((arrOf st).map (·.2)).size:=aou;lia
 refine aTi (aNs oa 8 ?_ (agn _) (by simp only[axr,aGD];rw[lo2,aXE];lia));rw[hf];simp only[bne_self_eq_false,axr,aGD];have I7:=I6.vJ Nl h0;have I8:=I7.qT (t':=s.toks) (f:=λ_=>(arrOf st).map (·.2)) (its:=[]) (its':=((arrOf st).map (·.2)).toList) (ys:=os.map V.int) Za oa (by exact(Array.toArray_toList).symm) vo (by rw[ano,aXE];lia);refine ak8 (h _ _ os I8 (λb n1 n2=>?_) Za po so);rw[Zg n1,Zg n1,Zg n2]
theorem WR{a kS:Addr}{e1:Nat}{H1:Hp}{ns:List Int}{key:Int->Int}{keys:Array Value}{its:List Value}{ks:List V}{A:Around}{E:Value->Shared->Prop}{R:PySem.Fin->Shared->Prop}(I:Inv X pins σ H1 s)(hk:IntsAre keys.toList (ns.map key))(hv:IntsAre its ns)(nd:ns.Nodup)(h64:ns.length<64)
  (ha:H1 a=!(.bH (seqObj "list" #[] e1) (.lst []))) (h0:∀o' u,X.H₀ a≠!(.bH o' u)) (A6:H1 kS=!(.lst ks)) (hlk:ks.length<=64)
  (h:∀(H':Hp)(s':Shared)(os:List Int),Inv X pins σ H' s'->(∀b,b≠a->b≠kS->H' b=H1 b)->H' a=!(.lst (os.map V.int))->os.Perm ns->os.Pairwise (AD key ns)->R (.done (.ret .none)) s') :
  wpAny (model X.prog X.w) A (ksk_end a false its.toArray e1 (.ref kS) keys) R E s:=by
 have lk:keys.size=ns.length:=by have:=hk.length;rw[aou,ano]at this;lia
 have lv:its.length=ns.length:=by have:=hv.length;lia
 have hzs:(keys.zip its.toArray).size=ns.length:=by rw[Array.size_zip,lk,a3v,lv,Nat.min_self]
 let(M5,_,):=Qn hk hv nd;unfold ksk_end;simp only[axr,aGD];by_cases h2:its.toArray.size<2
 .rw [ahF h2,ahF h2];refine aTi (ak8 ?_);rw[StateT.run_pure];refine aTi (ak8 ?_);try dsimp only
  refine Qm (st:=SortSt.mk' general' (keys.zip its.toArray) #[] 07 none) I hk hv nd h64 ha h0 A6 hlk (aTI _) (λi j hij hj=>?_) 8 h;have hj2:j<(keys.zip its.toArray).size:=hj;rw[a3v]at h2;lia
 .rw [aah h2,aah h2];rw[a3v]at h2;rw[ksk_kind hk (by rw[lk];lia)];refine aTi (ak8 ?_);refine aTi (aP5 (WT (ρ:=λp=>ns.idxOf (numOf p.2)) (a₀:=keys.zip its.toArray) (st:=SortSt.mk' oneType' (keys.zip its.toArray) #[] 07 none)
   (Q:=λ_ st1=>(arrOf st1).Perm (keys.zip its.toArray)/\failedOf st1=none/\oh (λp=>ns.idxOf (numOf p.2)) (arrOf st1) (keys.zip its.toArray).size)
   (ksk_intKeys hk) M5 (aTI _,115,) M5 (by rw[hzs];lia) (by rw[hzs];exact h64) λst1 a1 a2 a3=>(a1,a2,a3,)) ?_ λ_ _ e=>e)
  rintro⟨⟨⟩,st1⟩ s1 ⟨rfl,hp,hf,hs⟩;try dsimp only
  exact Qm I hk hv nd h64 ha h0 A6 hlk hp (by rw[hp.size_eq];exact hs) hf h
theorem Xs{l f:Addr}{ns:List Int}{key:Int->Int}{Q:VK}{E:Value->Shared->Prop}(I:Inv X pins σ H s)(hq:ah X.K H l (ns.map V.int))(h64:ns.length<64)(nd:ns.Nodup)
  (turn:∀z∈ns,∀H1 s1 u,ak H H1->Inv X pins σ H1 s1->RelV (.int z) u->wpAny (model X.prog X.w) X.A.in1.in1 (call (.ref f) [u]) (EP X pins σ λv H'=>v=.int (key z)/\H'=H1) (λ_ _=>False) s1)
  (q:∀(D:Addr)(H':Hp)(os:List Int),H D=none->ak H H'->H' D=!(.lst (os.map V.int))->os.Perm ns->os.Pairwise (AD key ns)->Q (.ref D) H') :
  wpAny (model X.prog X.w) X.A (call (.builtin "sorted") [.ref l] [(Str.ofString "key",.ref f)]) (EP X pins σ Q) E s:=by
 let(its,rv,pl,hz,):=I.list hq;have hv:=EX rv;have lv:its.length=ns.length:=by have:=rv.length;rw[ano]at this;exact this.symm
 refine call_function_entry_kw kind_sorted plain_sorted entry_sorted (ksk_s1 _ _) ?_;unfold Builtin.«sorted»;refine aTi (m:=checkCount "sorted" 1 1 _) (ak8 ?_);refine aTi (collect_list pl.isList ?_ (by rw[aXE];lia));refine aTi (wpAny_newList ?_ (by rw[aXE];lia));have hsz:((s.heap.push (seqObj "list" #[] 0)).update s.heap.objs.size (Obj.mapSeq (·++its.toArray))).objs.size=s.heap.objs.size+1:=by
  rw[Heap.size_update,size_push']
 have A3:(((s.heap.push (seqObj "list" #[] 0)).update s.heap.objs.size (Obj.mapSeq (·++its.toArray))).push (seqObj "list" its.toArray 0)).get? (s.heap.objs.size+1)=!(seqObj "list" its.toArray 0):=by
  rw[<-hsz];exact aQ0 _ 8
 have keep:∀b o,s.heap.get? b=!o->(((s.heap.push (seqObj "list" #[] 0)).update s.heap.objs.size (Obj.mapSeq (·++its.toArray))).push (seqObj "list" its.toArray 0)).get? b=!o:=λb o e=>by
  have lt:b<s.heap.objs.size:=a2o e;rw[Heap.get?_push_ne _ _ _ (by rw[hsz];exact aOt (aXp lt)),atI _ _ _ _ (aOt lt),Heap.get?_push_ne _ _ _ (aOt lt)];exact e
 show wpAny _ _ _ _ _ { s with heap:=((s.heap.push (seqObj "list" #[] 0)).update s.heap.objs.size (Obj.mapSeq (·++its.toArray))).push (seqObj "list" its.toArray 0) };rw[hsz];have hsz1:(((s.heap.push (seqObj "list" #[] 0)).update s.heap.objs.size (Obj.mapSeq (·++its.toArray))).push (seqObj "list" its.toArray 0)).objs.size=s.heap.objs.size+2:=by rw[size_push',hsz]
 generalize((s.heap.push (seqObj "list" #[] 0)).update s.heap.objs.size (Obj.mapSeq (·++its.toArray))).push (seqObj "list" its.toArray 0)=h1 at *;refine aTi (a7y (wpAny_call_entry_kw slot_list_sort (_,A3,8,) entry_list_sort ?body (ksk_l1 _ _)))
 case body=>
  show wpAny (model X.prog X.w) X.A.in1.in1 (Builtin.«list.sort» ([.ref (s.heap.objs.size+1)],[(Str.ofString "key",.ref f)],)) _ _ _;rw[ksk_t1];unfold ksk_tree;refine aTi (listItems_at A3 8 ?_);refine aTi (aNs A3 8 ?_ (by rw[a3v,aXE];lia) (agn _));obtain⟨e1,Nd⟩:∃e1,(h1.update (s.heap.objs.size+1) (Obj.mapSeq λ_=>(#[]:Array Value))).get? (s.heap.objs.size+1)=!(seqObj "list" #[] e1):=(_,get?_update_seq A3 λ_=>#[],);have Dt:∀b o,s.heap.get? b=!o->(h1.update (s.heap.objs.size+1) (Obj.mapSeq λ_=>(#[]:Array Value))).get? b=!o:=λb o e=>by
   have lt:b<s.heap.objs.size:=a2o e;rw[atI _ _ _ _ (aOt (aXp lt))];exact keep b o e
  generalize h1.update (s.heap.objs.size+1) (Obj.mapSeq λ_=>(#[]:Array Value))=h2 at *;refine aTi (seqEpoch_at Nd 8 ?_);refine aTi (wpAny_newTuple ?_ (by show its.length<=_;rw[aXE];lia));refine aTi (wpAny_newList ?_ (agn _));refine a7y ?_;have fr:H (s.heap.objs.size+1)=none:=I.hok.fresh (aD0 _);have h0:∀o' u,X.H₀ (s.heap.objs.size+1)≠!(.bH o' u):=λo' u e=>by rw[I.base.gY _ _ _ e]at fr;cases fr
  have ho2:(h2.push (seqObj "tuple" its.toArray 0)).get? (s.heap.objs.size+1)=!(seqObj "list" #[] e1):=aJV _ Nd;have I3:=I.laid (a:=s.heap.objs.size+1) (t':=s.toks) (o:=.bH (seqObj "list" #[] e1) (.lst [])) (h':=h2.push (seqObj "tuple" its.toArray 0)) (λb o e=>aJV _ (Dt b o e)) (aD0 _) (ho2,agn _,[],e1,.nil,ho2,);have A8:=I3.hok.fresh (bbI _);have I4:=I3.laid (t':=s.toks) (o:=.lst []) (h':=(h2.push (seqObj "tuple" its.toArray 0)).push (seqObj "list" #[] 0)) (λb o e=>aJV _ e) (bbI _) (agn _,[],0,.nil,aQ0 _ 8,);have FW:s.heap.objs.size+1≠(h2.push (seqObj "tuple" its.toArray 0)).objs.size:=Ze Za A8;have sm:ak H (upd (upd H (s.heap.objs.size+1) (.bH (seqObj "list" #[] e1) (.lst []))) (h2.push (seqObj "tuple" its.toArray 0)).objs.size (.lst [])):=(Zb fr _).trans (Zb A8 _);have Nz:H (h2.push (seqObj "tuple" its.toArray 0)).objs.size=none:=(Zb fr _).free A8;have JL:upd (upd H (s.heap.objs.size+1) (.bH (seqObj "list" #[] e1) (.lst []))) (h2.push (seqObj "tuple" its.toArray 0)).objs.size (.lst []) (h2.push (seqObj "tuple" its.toArray 0)).objs.size=!(.lst []):=Za;have ha0:upd (upd H (s.heap.objs.size+1) (.bH (seqObj "list" #[] e1) (.lst []))) (h2.push (seqObj "tuple" its.toArray 0)).objs.size (.lst []) (s.heap.objs.size+1)=!(.bH (seqObj "list" #[] e1) (.lst [])):=by rw[Zg FW];exact Za
  generalize upd (upd H (s.heap.objs.size+1) (.bH (seqObj "list" #[] e1) (.lst []))) (h2.push (seqObj "tuple" its.toArray 0)).objs.size (.lst [])=H4 at *;show wpAny (model X.prog X.w) X.A.in1.in1 (ksk_rest (s.heap.objs.size+1) (.ref f) false its.toArray e1 (.ref (h2.push (seqObj "tuple" its.toArray 0)).objs.size)) _ _ { s with heap:=(h2.push (seqObj "tuple" its.toArray 0)).push (seqObj "list" #[] 0) };generalize(h2.push (seqObj "tuple" its.toArray 0)).objs.size=kS at *;generalize(h2.push (seqObj "tuple" its.toArray 0)).push (seqObj "list" #[] 0)=h4 at *;unfold ksk_rest;refine aTi (aJI ?_);rw[List.forIn_toArray];refine aTi (ksk_fold (λi s1=>∃H1:Hp,Inv X pins σ H1 s1/\ak H H1/\H1 (s.heap.objs.size+1)=!(.bH (seqObj "list" #[] e1) (.lst []))/\H1 kS=!(.lst (((ns.take i).map key).map V.int))) its 0 _
   (H4,I4,sm,ha0,JL,) ?step ?done)
  case step=>
   rintro j x s1 hx ⟨H1,I1,s1',a1,k1⟩;simp only[apV]at k1 ⊢;let(z,t,hz',rfl,):=Lv hv hx;have hj:j<ns.length:=(aFR.mp hz').1;refine aTi (wpAny_attempt (aP5 (turn z (aE5 hz') H1 s1 _ s1' I1 (t,8,)) (λv s2 he=>?_) λ_ _ hF=>hF.elim));let(v',H',I2,r2,rfl,rfl,):=he;try dsimp only
   let(_,uc,n,rK,Ng,eK,):=I2.ju k1;have lK:uc.length<=ns.length:=by
    have:=rK.length;rw[ano,ano,bby]at this;lia
   refine aTi (aNs eK 8 ?_ (by rw[a3v,aXE];lia) (by rw[Array.size_push,a3v,aXE];lia));have ek:ns.take (j+1)=ns.take j++[z]:=by rw[a8b,hz'];rfl
   have I5:=I2.qT (t':=s2.toks) (f:=(·.push v)) (its':=uc++[v]) (ys:=((ns.take (j+1)).map key).map V.int) k1 eK 5 (by rw[ek,aP2,aP2];exact rK.append (.cons r2 .nil)) (by rw[ano,ano,bby,aXE];lia);refine ak8 (8,_,I5,λb o y=>?_,?_,Za,)
   .rw [Zg (Ze y Nz)];exact s1' _ _ y
   .rw [Zg FW];exact a1
  case done=>
   rintro s1 ⟨H1,I1,s1',a1,k1⟩;rw[apV,lv,aXW]at k1;let(_,uc,n,rK,Ng,eK,):=I1.ju k1;try dsimp only
   refine aTi (listItems_at eK 8 ?_);refine WR (ns:=ns) (key:=key) I1 (by simpa using EX rK) hv nd h64 a1 h0 k1 (by rw[ano,ano];lia) λH' s2 os I2 SX hD po so=>(_,8,?_,);refine ak8 (_,8,.ref (s.heap.objs.size+1),H',I2,8,q _ H' os fr (λb o y=>?_) hD po so,);rw[SX b (Ze y fr) (Ze y Nz)];exact s1' _ _ y
end
end L2
namespace L2
open PySem PySem.Spec PyProof.Rows
structure uY(P:Program)(w:World)(K:W.Frag)(mg:Str->Option Value)(base:Heap)(C:Addr)(m:Str)(k:Nat)(ps:List Str)(sp:Sp):Prop where
 ex:∃(f:Addr)(fd:FuncData),cN P w K mg base lN k f fd ps sp/\Meth K C m f/\Binds K fd ps []
structure AE(P:Program)(w:World)(K:W.Frag)(mg:Str->Option Value)(base:Heap)(C:Addr)(x:Str)(k:Nat)(ps:List Str)(sp:Sp):Prop where
 ex:∃(f:Addr)(fd:FuncData),cN P w K mg base lN k f fd ps sp/\Mk K C f/\mg x=!(.ref C)/\Binds K fd ps []
section
variable{X:Cx}{x m:Str}{p pos apos:Pos}{e o:PySem.Expr}{es:List PySem.Expr}{ta:TE}{t:TA}{k:Nat}{ps:List Str}{sp:Sp}{C:Addr}
theorem ZV{pl:Sem Bool}(M:uY X.prog X.w X.K X.mg X.base C m k ps sp)(hr:bg k X.A)(c:uZ X.K C)(he:PE X o ta)(ha:PA X (e ::es) t)(hn:yR (e ::es):=by repeat' (first|exact True.intro|refine⟨?_,?_⟩))
  (ht:eval (.Call (.Attribute o m apos) (e ::es) [] pos) X.env=(do
   let ov <-eval o X.env
   standAt apos.atName
   let(f,first) <-holding [ov] (getMethod ov m pl)
   callWith pos f first (backTo pos (starEach (e ::es) X.env)) (backToKw pos (keywordEach [] X.env))):=by rfl) :
  PE X (.Call (.Attribute o m apos) (e ::es) [] pos) (xB C m sp [] E0 ta t):=by
 let(f,fd,F,hm,hb,):=M.ex;exact W6 he c hm F hr hb .nil tN ha (wQ hn.1) (Bu hn.2) ht
theorem Xr(M:AE X.prog X.w X.K X.mg X.base C x k ps sp)(hr:bg (k+1) X.A)(hg:Gl X x)(ha:PA X (e ::es) t)(hn:yR (e ::es):=by repeat' (first|exact True.intro|refine⟨?_,?_⟩))(hd:(x ==("__debug__":Str))=false:=by decide) :
  PE X (.Call (.Name x p) (e ::es) [] pos) (xC C sp [] E0 t):=by
 let(f,fd,F,M',hm,hb,):=M.ex;exact W5 M' F hr hg hm hb .nil tN ha (hdb:=hd) (he:=wQ hn.1) (hpl:=Bu hn.2)
def Sl:TS:=λ_ _ _=>False
theorem xY{st:Stmt}:PS X st Sl:=λ_ _ _ _ _ _ h=>False.elim h
end
theorem rM.SY{P:Program}{w:World}{K:W.Frag}{mg:Str->Option Value}{base:Heap}{x qual:Str}{st:Stmt}{f:Addr}{fd:FuncData}{N ps:List Str}{k:Nat}{sp:Sp}(F:rM K x qual st f fd)(S:d8 N ps (Zp st))(len:∀vs H Q E,sp vs H Q E->vs.length=ps.length)
  (hbody:∀(cdv:Value)(A:Around)(outer:List Env)(s:Shared)(H:Hp)(vs:List V)(Q:VK)(E:XK),fd.code=cdv->bg k (A.deeper (envOfC qual (Zp st) s.heap.objs.size f cdv))->sp vs H Q E ->
   ∃t,qw (ng lN P w K mg base N qual (Zp st) f cdv A outer s H E).zE (ZZ st) t/\t { nx:=λ_ H'=>Q .aE H',rt:=Q } (start N vs) H):cN P w K mg base lN (k+1) f fd ps sp:=by
 let(oc,od,kV,doc,pm,an,cdv,ct,osl,rfl,lk,hcd,):=F.ex;refine yt lk hcd S len λA outer s H vs Q E hr vf=>?_;let(t,h,q,):=hbody cdv A outer s H vs Q E 8 hr vf;exact(t,h.zE,q,)
theorem vC{X:Cx}{K:W.Frag}{e:PySem.Expr}{f:Str}{pos:Pos}{ta:TE}(hK:X.K=K)(he:PE X e ta)(hb:attributeBase e f X.env (eval e X.env)=eval e X.env):PE X (.Attribute e f pos) (Cf K ta f):=by
 subst hK;exact WH he hb
noncomputable def Dq(bQ:Scope)(oN:List Str)(scope:Scope)(x:Str)(fr:List Str)(js:List Nat):Bool:=
 scope.kind == .function && (not (scope.isCoroutine)) && (not (scope.isGenerator)) && scope.names.all (λy=>y.2 != .cell) && scope.names.lookup x ==some .local &&
 scope.names.all (λy=>y.2 != .free || (bQ.names.lookup y.1 ==some .cell || bQ.names.lookup y.1 ==!.free)) && fr.length ==js.length &&
 (js.map λj=>oN[j]?) ==fr.map some && fr.all λy=>scope.names.lookup y ==!.free
theorem Xq{X:Cx}{bQ:Scope}{oN:List Str}{scope:Scope}{x:Str}{fr:List Str}{js:List Nat}(h:Dq bQ oN scope x fr js=true)(hs:X.env.scope=bQ)(hN:X.N=oN):nQ X scope x fr js:=by
 unfold Dq at h;simp only[aEv,ap9,azS,ats,bne_iff_ne,ne_eq,aOI]at h;let((((((((h1,h2,),h3,),h4,),h5,),h6,),h7,),h8,),h9,):=h;refine(h1,h2,h3,h4,h5,λy hy hf=>?_,h7,λk j e=>?_,λk y e=>h9 y (aE5 e),)
 .rcases h6 y hy with q|q
  .exact absurd hf q
  .show X.env.scope.names.lookup y.1=_\/X.env.scope.names.lookup y.1=_;rw[hs];exact q
 .rw [hN];have z:=aFH (λl=>l[k]?) h8;simp only[aGb,e,a10]at z;cases q:fr[k]? with
  |none=>rw[q]at z;cases z
  |some y=>rw[q]at z;exact(aFB z).symm
theorem Wo{A:Around}{k:Nat}{env:Env}(hr:bg k A):(A.in1.in1.deeper env).units+1<cLine:=by
 have:=hr.un;show A.units+1+1+3+1<cLine;lia
def Oh(K:W.Frag)(P:Addr)(m5:Pos)(qual:Str)(js:List Nat)(te:TE)(σ:St)(Q:VK)(x:V)(H1:Hp):Prop:=∃(l:Addr)(ns:List Int)(key:Int->Int),x=.ref l/\ah K H1 l (ns.map V.int)/\ns.length<64/\ns.Nodup/\H1 P=!(.jU m5 qual) /\
 (∀z∈ns,∀H2,ak H1 H2->te (some (.int z) ::js.map λj=>(σ[j]?).join) H2 λv H'=>v=.int (key z)/\H'=H2) /\
 ∀(D:Addr)(H':Hp)(os:List Int),H1 D=none->ak H1 H'->H' D=!(.lst (os.map V.int))->os.Perm ns->os.Pairwise (AD key ns)->Q (.ref D) H'
def Wn(K:W.Frag)(P:Addr)(m5:Pos)(qual:Str)(js:List Nat)(Fy te:TE):TE:=λσ H Q=>Fy σ H λx H1=>Oh K P m5 qual js te σ Q x H1
section
variable{X:Cx}
theorem Xp{K:W.Frag}{P c0:Addr}{k:Nat}{y:Str}{fr:List Str}{js:List Nat}{qual:Str}{params:Arguments}{body xs:PySem.Expr}{scope:Scope}{p pos m5 kpos:Pos}{Fy te:TE}(hK:X.K=K)(hr:bg k X.A)(hcl:X.calm=true)(hg:Gl X "sorted")(hm:X.mg "sorted"=none)
  (c:nQ X scope y fr js) (hc0:X.env.code=.ref c0) (hcd:W.codeHdIn X.K c0 P=true) (bm:BMod X.base X.mg) (hq:X.env.qual ++ "<lambda>"=qual) (hd0:params.defaults=[]) (hk0:params.kw_defaults=[])
  (hb:∀cl pm cd ct u,bindArgs (W.kla_fn "<lambda>" qual params body scope cl pm cd ct) ([u],[],)=pure [(y,u)]) (ha:PE X xs Fy)
  (he:∀f cd cl s H,PE (gG X X.A.in1.in1 (y ::fr) qual scope f cd cl s H) body te) (hn:yR [xs]:=by repeat' (first|exact True.intro|refine⟨?_,?_⟩)) :
  PE X (.Call (.Name "sorted" p) [xs] [(!"key",.Lambda params body scope m5,kpos,)] pos) (Wn K P m5 qual js Fy te):=by
 subst hK;subst hq;intro pins s σ H Q I h;refine aX6 (vz I hg hm boot_sorted ?_ 9 9);refine callWith_kw (pK ((pc ha Zc hn.1) pos pins s σ H (λvs H1=>match vs with| [x]=>Oh X.K P m5 (X.env.qual ++ "<lambda>") js te σ Q x H1|_=>False) I h) λus s1 vs H1 I1 r1 q1=>?_) (by rw[wQ hn.1];rfl) (by rw[wQ hn.1];rfl) 8 8
 match vs,r1,q1 with
 | [],_,z=>exact z.elim
 |_ ::_ ::_,_,z=>exact z.elim
 | [x],r1,q1=>
  let(l,ns,key,rfl,hS,h64,nd,hP,ht,q,):=q1;let(u,rfl,ru,):=vals1 r1;cases ru;show wpAny _ _ (evalAll [(do let v <-eval (.Lambda params body scope m5) X.env;standAt pos;pure v)]) _ _ s1;refine wpAny_evalAll_cons (aTi (Xv c I1 hc0 hcd bm hP hd0 hk0 λf cl cd pm ct of H2 s2 I2 sm ic lF hf hof hcode=>aTi (a4y (ak8 (wpAny_evalAll_nil ?_)))));show wpAny _ _ (call (.builtin "sorted") [.ref l] [(Str.ofString "key",.ref f)]) _ _ s2;refine Xs I2 (sm.seq hS) h64 nd (λz hz H3 s3 u IE I3 ru=>?_) λD H' os hD So hl po so=>q D H' os (sm.free hD) (sm.trans So) hl po so;have S4:=(I3.hok f _ (IE _ _ hf)).1;let(c',oc,vs',t',rfl,hc',hd',hv',):=hcode;have S9:=(I3.hok c' _ (IE _ _ hc')).1;exact Xw (A:=X.A.in1.in1) c I3 I3.ok.frames (I3.ok.hd hcl) hr.depth ic lF S4 hof (c',oc,vs',t',8,S9,hd',hv',) (hb cl pm _ ct) ru (λs=>he f _ cl s H3) (ht z hz H3 (sm.trans IE))
end
theorem Ym{P:Program}{w:World}{K:W.Frag}{mg mb:Str->Option Value}{CX:vH}{k:Nat}{fa a tp c0:Addr}{pos:Pos}{qual:Str}{fd:FuncData}{x:Str}{sp:Sp}{s₁:Shared}{vs:List Value}{ns:List Int}
  (KX:K.In s₁.heap) (hns:s₁.heap.Ns mainGlobals mg) (hb:s₁.heap.Ns builtinsNs mb) (UQ:∀x:Str,x ≠ "__name__" ->mb x=bootBuiltins x) (hlim:s₁.heap.NoLimit) (hg:s₁.gens=#[])
  (ha:s₁.heap.get? a=!{ cls:=.type "list",data:=.seq vs.toArray }) (hi:IntsAre vs ns) (hl:ns.length<=sizeLine) (hr:bg k callerA)
  (htp:s₁.heap.get? tp=!{ cls:=.none,data:=.fields #[] }) (hch:W.codeHdIn K c0 tp=true) (UU:K.lookup tp=none)
  (hbm:BMod s₁.heap mg) (F:∀base:Heap,K.In base->base.Ns mainGlobals mg->BMod base mg->cN P w K mg base CX k fa fd [x] sp) (hbind:∀(s:Shared)(u:Value),BindsTo s fd ([u],[],) [(x,u)])
  (vf:∀H:Hp,H tp=!(.jU pos qual)->ah K H a (ns.map V.int)->sp [.ref a] H (λv _=>v=.bl true) λ_ _ _=>False)
  (JY:∀H e s',CX [] H s₁ (λ_ _ _=>False) e s'->False) :
  codeAny (model P w) callerA (.call (.ref fa) ([.ref a],[],)) (λr s'=>r=.ok (.ret (.bool true))/\OldK s₁.heap s'.heap/\s'.os=s₁.os/\AllBare s'.gens) s₁:=by
 have rv:=LP hi;have Js:=hi.length;have nat:a≠tp:=λz=>by rw[z,htp]at ha;cases ha
 have core:∀H:Hp,H tp=!(.jU pos qual)->ah K H a (ns.map V.int)->dI P w H s₁.heap->(∀b,H b≠none->b=tp\/(b=a/\∃o xs,H b=!(.bH o (.lst xs))))->(H a≠none->K.lookup a=none) ->
   codeAny (model P w) callerA (.call (.ref fa) ([.ref a],[],)) (λr s'=>r=.ok (.ret (.bool true))/\OldK s₁.heap s'.heap/\s'.os=s₁.os/\AllBare s'.gens) s₁:=by
  intro H hT hS hok hA hK;have Tf:∀{b:Addr}{o:Obj}{es:Array DictEntry}{ep:Nat},s₁.heap.get? b=!o->o.data=.dict es ep->H b=none:=λ{b o es ep} e d=>by
   cases q:H b with
   |none=>rfl
   |some u=>
    rcases hA b (by rw[q];simp) with z|⟨z,_⟩
    .rw [z,htp]at e;cases e;cases d
    .rw [z,ha]at e;cases e;cases d
  have FO:∀{b:Addr}{m:Str->Option Value},s₁.heap.Ns b m->(kO s₁.heap H).Ns b m:=λ{b m}(o,es,ep,e,d,r,)=>(o,es,ep,Lz e (Tf e d),d,r,);have Nm:K.In (kO s₁.heap H):=λb o e=>Lz (KX b o e) (by
   cases q:H b with
   |none=>rfl
   |some u=>
    rcases hA b (by rw[q];simp) with z|⟨z,_⟩
    .rw [z,UU]at e;cases e
    .have n:H a≠none:=by rw[<-z,q];simp
     rw[z,hK n]at e;cases e)
  have hM:Mod K mg (kO s₁.heap H):=(Nm,FO hns,(mb,FO hb,UQ,),by let(mc,h1,h2,):=hlim;exact(mc,FO h1,h2,),);have e0:pI P w K mg (kO s₁.heap H) callerA [] s₁ H:=(8,hM,λb o e=>Xe e,Nat.le_of_eq (ZgD _ _),trivial,λb hb=>absurd (show b∈([]:List Addr) from hb) 5,hok,.of_eq hg,);have hB:BMod (kO s₁.heap H) mg:=by
   let(b,o,a1,a2,a3,a4,a5,a6,a7,):=hbm;refine(b,o,a1,a2,a3,Lz a4 ?_,a5,a6,a7,);cases q:H b with
   |none=>rfl
   |some u=>
    rcases hA b (by rw[q];simp) with z|⟨z,_⟩
    .rw [z,htp]at a4;cases a4;cases a5
    .rw [z,ha]at a4;cases a4;have a8:Value.type "list"=Value.type "module":=a5;injection a8 with a8
     exact absurd a8 9
  refine codeAny_mono ((F _ Nm (FO hns) hB).run callerA [] s₁ H ([.ref a],[],) [.ref a] [.ref a] _ _ hr e0 (hbind s₁ (.ref a)) (.cons 8 .nil) (vf H hT hS)) λr s' h=>?_;cases r with
  |error e=>exact(JY H e s' h).elim
  |ok fl=>
   cases fl with
   |next=>exact False.elim h
   |brk=>exact False.elim h
   |cont=>exact False.elim h
   |ret u=>
    let(v,H',os,bare,un,DG,r',q,):=h;have q':v=.bl true:=q;subst q';obtain rfl:u=Value.bool true:=r';have tab:=(W.codeHd_of_K KX hch).tab htp;have t2:=DG tp _ (un.iw _ _ _ hT);let(ps,hps,_,):=t2;have old:∀b o,s₁.heap.get? b=!o->b≠tp->s'.heap.get? b=!o:=λb o e nb=>by
     cases q:H b with
     |none=>exact un.keep b o e q (by intro z;exact absurd (show b∈([]:List Addr) from z) 5) 5
     |some u=>
      rcases hA b (by rw[q];simp) with z|⟨_,ob,xs,z⟩
      .exact absurd z nb
      .have z2:=un.gY b ob _ z;let(e1,_,):=hok b _ z;let(e2,_,):=DG b _ z2;rw[e]at e1;cases e1;exact e2
    refine(8,(λb o e=>?_,λb o e=>?_,),os,bare,)
    .by_cases nb:b=tp
     .subst nb;rw[htp]at e;cases e;exact .inr (.inl (tab.isCodeTable,8,#[],ps,8,by rw[hps];simp,))
     .exact .inl (old b o e nb)
    .by_cases nb:b=tp
     .subst nb;exact(_,hps,)
     .exact (o,old b o e nb,)
 have tb:∀H:Hp,aK P w H s₁.heap tp (.jU pos qual):=λH=>⟨#[],htp,True.intro,λcv e=>by cases e⟩;cases hk:K.lookup a with
 |some o=>
  have e:=KX a o hk;rw[ha]at e;cases e;refine core (λb=>if b=tp then some (.jU pos qual) else none) (ahF 8) (.inr (_,vs.toArray,_,hk,115,by rw[a3v,Js];exact hl,by simpa using rv,)) (λb u z=>?_) (λb z=>?_) λz=>absurd (aah nat) z
  .by_cases hb:b=tp
   .have z':=(ahF hb).symm.trans z;cases z';subst hb;exact tb _
   .have z':=(aah hb).symm.trans z;cases z'
  .by_cases hb:b=tp
   .exact .inl hb
   .exact absurd (aah hb) z
 |none=>
  refine core (λb=>if b=tp then some (.jU pos qual) else if b=a then some (.bH { cls:=.type "list",data:=.seq vs.toArray } (.lst (ns.map V.int))) else none) (ahF 8) (.inl (.inr ({ cls:=.type "list",data:=.seq vs.toArray },(aah nat).trans (ahF 8),))) (λb u z=>?_) (λb z=>?_) λ_=>hk
  .by_cases hb:b=tp
   .have z':=(ahF hb).symm.trans z;cases z';subst hb;exact tb _
   .have z':=(aah hb).symm.trans z;by_cases hb2:b=a
    .have z2:=(ahF hb2).symm.trans z';cases z2;subst hb2;exact(ha,by rw[ano];exact hl,vs,_,rv,ha,)
    .have z2:=(aah hb2).symm.trans z';cases z2
  .by_cases hb:b=tp
   .exact .inl hb
   .by_cases hb2:b=a
    .exact .inr (hb2,_,_,(aah hb).trans (ahF hb2),)
    .exact absurd (by show(if b=tp then _ else if b=a then _ else none)=none;rw[aah hb,aah hb2]) z
theorem Xo{l:W.OpenLaw}{n k:Nat}{q:Program}{loose:List Str}{XP:(Str->Option Value)->Heap->Prop}{YP:World->Heap->Prop}{d:DefRec}{K:Params->W.Frag}{CX:World->vH}{sp:World->Sp}{x:Str}{tp:Addr}{pos:Pos}{qual:Str}{G:World->Prop}
  (hn:l.most=!n) (hn2:n<=sizeLine) (hdf:d.params.defaults=[]) (hr:bg k callerA)
  (hY:∀(w:World)(h:Heap),YP w h->(K w.params).In h/\h.get? tp=!{ cls:=.none,data:=.fields #[] })
  (F:∀(w:World)(mg:Str->Option Value)(fa:Addr)(h:Heap),(K w.params).In h->h.Ns mainGlobals mg->mg d.name=!(.ref fa) ->
   G w/\(∃c0,W.codeHdIn (K w.params) c0 tp=true)/\(K w.params).lookup tp=none/\∃fd:FuncData,(∀(s:Shared)(u:Value),BindsTo s fd ([u],[],) [(x,u)]) /\
    ∀base:Heap,(K w.params).In base->base.Ns mainGlobals mg->BMod base mg->cN l.prog w (K w.params) mg base (CX w) k fa fd [x] (sp w))
  (vf:∀(w:World)(H:Hp)(a:Addr)(ns:List Int),G w->ns.length<=n->H tp=!(.jU pos qual)->ah (K w.params) H a (ns.map V.int)->sp w [.ref a] H (λv _=>v=.bl true) λ_ _ _=>False)
  (JY:∀(w:World)(H:Hp)(s:Shared)(e:Value)(s':Shared),CX w [] H s (λ_ _ _=>False) e s'->False) :
  W.WalkO q loose XP YP l.row.toRowW d [] (λf vs=>PySem.call f vs):=by
 refine Rt.nk hn hdf λw s₀ s₁ mg mb fa o pm cd doc a vs ns G' Y ho hd hcd hmg hobj hints hlen hg=>?_;let(KX,htp,):=hY w _ Y;let(g,(c0,hc,),hk,fd,hb,hF,):=F w mg fa _ KX G'.T.g hmg;have hbm:BMod s₁.heap mg:=by
  let(bm,ob,b1,b2,b3,b4,b5,b6,):=G'.T.bmain;refine(bm,ob,b1,b2,λz=>?_,b3,b4,b5,b6,);let(o,es,ep,e,hd',_,):=G'.T.g;rw[z,e]at b3;cases b3;rw[hd']at b6;cases b6
 exact Ym KX G'.T.g G'.T.b G'.T.builtins G'.T.nolimit hg hobj hints (bbd hlen hn2) hr htp hc hk hbm hF hb (λH hT hS=>vf w H a ns g hlen hT hS) λH e s'=>JY w H s₁ e s'
noncomputable def aI(K:W.Frag)(x:Str):Addr:=match W.nsIn K mainGlobals x with
 |some (!(.ref C))=>C
 |_=>0
noncomputable def tabOf(K:W.Frag)(x m:Str):Addr:=match W.findIn K (.ref (aI K x)) m with
 |some (!(.ref f))=>(match K.lookup f with
  |some (_,_,.func fd,_,)=>(match fd.code with
   | .ref c=>(match K.lookup c with
    |some (_,_,.fields vs,_,)=>(match(vs[11]?:Option Value) with
     |some (.ref P)=>P
     |_=>0)
    |_=>0)
   |_=>0)
  |_=>0)
 |_=>0
theorem EL{K:W.Frag}{x:Str}{C:Addr}(h:W.nsIn K mainGlobals x=!(!(.ref C))):aI K x=C:=by
 unfold aI;rw[h]
theorem Xn{K:W.Frag}{x m:Str}{f c P:Addr}{oc:Value}{od:Option Addr}{fd:FuncData}{sl:Array (Option Value)}(h1:W.findIn K (.ref (aI K x)) m=!(!(.ref f)))(h2:K.lookup f=!(oc,od,.func fd,sl,))(h3:fd.code=.ref c)
  (h4:W.codeHdIn K c P=true):tabOf K x m=P:=by
 unfold W.codeHdIn at h4;split at h4
 .rename_i vs _ hk;simp only[aEv]at h4;let(((((e1,_,),_,),_,),_,),_,):=h4;split at e1
  .rename_i P' h11;have hP:P'=P:=ats.mp e1;subst hP;unfold tabOf;simp only[h1,h2,h3,hk,h11]
  .cases e1
 .cases h4
end L2
namespace L2
open PySem PySem.F PyProof.Rows PySem.MeetsSeq
variable{K:W.Frag}{X:Cx}{pins:List Pin}{σ:St}{H:Hp}{s:Shared}
theorem lI{e:PySem.Expr}{T:String}{r:V->List V->Hp->VK->Prop}{to:TE}{t:TA}(hK:X.K=K)(h:PE X e (IB X.K T r to t)):PE X e (IB K T r to t):=by
 subst hK;exact h
end L2
namespace L2
open PySem PySem.Calls PyProof.Rows PySem.MeetsSeq PySem.W
variable{K:W.Frag}{X:Cx}{pins:List Pin}{σ:St}{H:Hp}{s:Shared}
theorem Yl{K:W.Frag}{a:Addr}{xs:List V}{l:Addr}{g:TG}{tc:TT}{te:TE}{σ0:St}{H0:Hp}{Qf:Hp->Prop}(Pv:Nat->List V->St->Hp->Prop)(h0:Pv 0 [] σ0 H0)
  (hl:∀i ys σ' H',i<=xs.length->Pv i ys σ' H'->ah K H' a xs)
  (hs:∀i x t ys σ' H',i<xs.length->xs[i]?=!x->ys.length<=i->Pv i ys σ' H'->H' t=none->g (.ref t) σ' (upd H' t (.tup [.int i,x])) λσ2 H3=>tc σ2 H3 λb H4=>if b=true then te σ2 H4 λy H5=>dh xs.length l Pv i ys σ2 y H5 else k7 xs.length Pv i ys σ2 H4)
  (hd:∀ys σ' H',ys.length<=xs.length->Pv xs.length ys σ' H'->Qf H') :
  ∃W:Nat->Nat->List V->St->Hp->Prop,(∃m,W 0 m [] σ0 H0)/\∀i m ys σ' H',W i m ys σ' H' ->
  ((yU K a).stop i H'/\Qf H')\/((yU K a).go i H'/\∀x H2,(yU K a).oi i H' x H2->g x σ' H2 λσ2 H3=>tc σ2 H3 λb H4=>
    if b=true then te σ2 H4 λy H5=>H5 l=!(.lst ys)/\ys.length<sizeLine/\∃m',m'<m/\W (i+1) m' (ys++[y]) σ2 (upd H5 l (.lst (ys++[y])))
    else ∃m',m'<m/\W (i+1) m' ys σ2 H4):=by
 refine(λi m ys σ' H'=>m=xs.length-i/\i<=xs.length/\ys.length<=i/\Pv i ys σ' H',(xs.length,8,agn _,bbI _,h0,),?_,);rintro i m ys σ' H' ⟨rfl,hi,hy,p⟩;have q:=hl i ys σ' H' hi p;by_cases hlt:i<xs.length
 .refine .inr ((xs,xs[i],q,by simp[hlt],),λx H2 z=>?_,);let(t,u,ht,rfl,rfl,z1,):=z;exact hs i u t ys σ' _ hlt (z1 xs q) hy p ht
 .have e:i=xs.length:=7
  subst e;exact .inl ((xs,q,8,),hd ys σ' H' hy p,)
end L2
namespace L2
open PySem PySem.Calls PySem.Spec PyProof.Rows PySem.W
noncomputable abbrev Kr:List Value:=[.type "ValueError",.type "Exception",.type "BaseException",.type "object"]
noncomputable def askIn(K:W.Frag)(C:Addr):Bool:=W.findIn K (.ref C) "__getattribute__"==some (!(.builtin "BaseException.__getattribute__")) && W.findIn K (.ref C) "__getattr__"==some none && W.mroIn K C (.type "BaseException") ==some true && (W.clsIn K C).isSome && W.findIn K (.ref C) "__class__"==some (!(.builtin "object.__class__")) && W.specialIn K (.builtin "object.__class__") "__get__"==some (!(.builtin "getset_descriptor.__get__")) && W.takesIn K (.builtin "object.__class__") ==some true && W.mroIn K C (.type "object") ==!true
noncomputable def Rw(K:W.Frag)(S:Addr)(Cs Ds:List Addr):Bool:=decide Cs.Nodup && Cs.all λC=>W.excIn K C Kr "ValueError.__new__" && askIn K C && W.exmOne K (.ref C) (.ref S) ==some true &&
 (Cs.all λD=>W.kitOne K (.ref C) (.ref D) ==!(decide (C=D))) && (Ds.all λD=>W.kitOne K (.ref C) (.ref D) ==!false) && W.kitOne K (.ref C) (.type "ValueError") ==!true
theorem bg.m{j k:Nat}{A:Around}(r:bg k A)(h:j<=k:=by first|decide|lia):bg j A:=r.mono h
section
variable{X:Cx}{pos:Pos}
theorem bu(i:Nat){x:Str}(hN:X.N.Nodup)(hi:X.N[i]?=!x:=by rfl)(hx:Loc X.env.scope x:=by first|exact Or.inl rfl|exact Or.inr rfl)(hf:X.fn x=true\/X.env.scope.names.lookup x=!.local:=by first|exact .inl rfl|exact .inr rfl|assumption):PG X (.Name x pos) (b9 i):=Xd hN hi hx hf
theorem aY(i:Nat){x:Str}{e:PySem.Expr}{te:TE}{pos':Pos}(hN:X.N.Nodup)(he:PE X e te)(hi:X.N[i]?=!x:=by rfl)(hx:Loc X.env.scope x:=by first|exact Or.inl rfl|exact Or.inr rfl)(hs:swapsWith e (!(.Name x pos')) pos.line X.env=pure false:=by rfl)(hf:X.fn x=true\/X.env.scope.names.lookup x=!.local:=by first|exact .inl rfl|exact .inr rfl|assumption):PS X (.Assign [.Name x pos'] e pos) (ow te (b9 i)):=WL hN hi hx he hs hf
end
end L2
namespace L2
open PySem PySem.Spec PyProof.Rows
section
variable{X:Cx}{K:W.Frag}
def ZeG(ta:TA):TE:=λσ H Q=>ta σ H λvs H1=>∃j:Int,vs=[.int j] /\ -(2 ^ 62)<=j/\j<2 ^ 62/\j.toNat<=sizeLine /\
 ∀p,H1 p=none->Q (.ref p) (upd H1 p (.lst ((List.range j.toNat).map λk:Nat=>V.int (k:Int))))
theorem Zdq{a:PySem.Expr}{ta:TA}{p q pos pos2:Pos}(hc:X.calm=true)(UD:Gl X "list")(hm1:X.mg "list"=none)(hg:Gl X "range")(hm:X.mg "range"=none)(ha:PA X [a] ta)
  (hs:starEach [a] X.env=[(false,eval a X.env)]:=by rfl)
  (F7:starEach [PySem.Expr.Call (.Name "range" p) [a] [] pos] X.env=[(false,eval (PySem.Expr.Call (.Name "range" p) [a] [] pos) X.env)]:=by rfl) :
  PE X (.Call (.Name "list" q) [.Call (.Name "range" p) [a] [] pos] [] pos2) (ZeG ta):=by
 intro pins s σ H Q I h;refine Call_ (vz I UD hm1 Ar (akj (Q:=EP X pins σ Q) ?_ F7 8));rw[F7];refine arw (Call_ (vz I hg hm boot_range (akj (pK (ha pos pins s σ H _ I h) λus s1 vs H1 I1 r1 q1=>?_) hs 8)));let(j,e,q3,q4,hz,q,):=q1;subst e;cases r1 with
 |cons r rr=>
  cases rr;let(t',rfl,):=r;refine call_range_1 (anM ?_);have I2:Inv X pins σ H1 { s1 with heap:=s1.heap.push { cls:=.type "range",data:=.fields #[.int 0 s1.toks,.int j t',.int 1 (s1.toks+1)] },toks:=s1.toks+1+1 }:=I1.kept λb o e=>aJV _ e;have hsz:sizeLine=16777216:=aXE;refine call_list_range (n:=j.toNat) (I.ok.hd hc) (IsRange.new ..) (small_one 9 9 q3 q4) (by rw[rangeSize_one];split <;> lia) 7 λh' tk acc' c' hk hS hit=>?_;have JN:=WB 0 _ hit;refine(.ref _,_,I2.laid (o:=.lst ((List.range j.toNat).map λk:Nat=>V.int (k:Int))) hk (bbI _) (by simpa using hz,acc'.toList,c',(by simpa using JN),by simpa using hS,),8,q _ (I2.hok.fresh (bbI _)),)
end
end L2
namespace L2
open PySem PySem.F PyProof.Rows
variable{K:W.Frag}{X:Cx}{pins:List (Addr×Obj)}{σ:St}{H H':Hp}{s:Shared}
noncomputable def uv:V->PyData->Prop
 | .aE,d=>d=.none
 | .bl b,d=>d=.bool b
 | .int i,d=>d=.int i/\i.natAbs.log2<1920
 | .str x,d=>d=.str x
 |_,_=>False
noncomputable def n9(N:Addr->Prop)(H:Hp):Nat->V->PyData->Prop
 |0=>uv
 |n+1=>λv d=>uv v d\/∃a xs ds,v=.ref a/\¬N a/\Paired (n9 N H n) xs ds/\((H a=!(.lst xs)/\d=.list ds)\/(H a=!(.tup xs)/\d=.tuple ds))
theorem n9.keep{N M:Addr->Prop}(m:∀a,M a->N a)(k:∀a o,¬N a->H a=!o->H' a=!o):∀{n:Nat}{v:V}{d:PyData},n9 N H n v d->n9 M H' n v d
 |0,_,_,h=>h
 |n+1,v,d,h=>by
  rcases h with h|⟨a,xs,ds,e,na,r,c⟩
  .exact .inl h
  .exact .inr (a,xs,ds,e,λz=>na (m a z),Paired.tW r λ_ _ q=>n9.keep m k q,c.imp (λc=>(k a _ na c.1,c.2,)) λc=>(k a _ na c.1,c.2,),)
theorem n9.same{N:Addr->Prop}{n:Nat}{v:V}{d:PyData}(h:n9 N H n v d)(s:ak H H'):n9 N H' n v d:=h.keep (λ_ z=>z) λa o _ e=>s a o e
theorem n9.up{N:Addr->Prop}:∀{n m:Nat}{v:V}{d:PyData},n<=m->n9 N H n v d->n9 N H m v d
 |0,0,_,_,_,h=>h
 |0,_+1,_,_,_,h=>.inl h
 |n+1,m+1,v,d,q,h=>by
  rcases h with h|⟨a,xs,ds,e,na,r,c⟩
  .exact .inl h
  .exact .inr (a,xs,ds,e,na,Paired.tW r λ_ _ z=>n9.up (Nat.le_of_succ_le_succ q) z,c,)
theorem QU{h:Heap}{v:V}{d:PyData}{u:Value}(f:uv v d)(r:RelV v u):Reads h u d []/\d.showable=true/\d.hasDict=false/\d.depth=0:=by
 cases v with
 |aE=>cases f;cases r;exact(.none,115,)
 |bl b=>cases f;cases r;exact(.bool b,115,)
 |int i=>
  let(rfl,z,):=f;let(t,rfl,):=r;exact(.int i t,by simp only[PyData.showable];exact anN z,8,8,)
 |str x=>cases f;let(t,rfl,):=r;exact(.str x t,115,)
 |_=>exact f.elim
theorem LI{h:Heap}{n:Nat}{F:V->PyData->Prop}(hF:∀v d u,F v d->RelV v u->∃as,Reads h u d as/\d.showable=true/\d.hasDict=false/\d.depth<=n) :
  ∀{xs:List V}{ds:List PyData}{us:List Value},Paired F xs ds->Vals xs us->∃as,ReadsAll h us ds as/\PyData.showableAll ds=true/\PyData.hasDictAll ds=false/\PyData.depthAll ds<=n
 |_,_,_,.nil,.nil=>([],.nil,8,8,agn _,)
 |_,_,_,.cons f p,.cons r q=>by
  let(as,r1,r2,r3,r4,):=hF _ _ _ f r;let(bs,t1,t2,t3,t4,):=LI hF p q;refine(as++bs,.cons r1 t1,?_,?_,?_,)
  .simp only[PyData.showableAll,r2,t2,Bool.and_self]
  .simp only[PyData.hasDictAll,r3,t3,Bool.or_self]
  .simp only[PyData.depthAll];exact Nat.max_le.mpr (r4,t4,)
theorem Lu{N:Addr->Prop}(I:Inv X pins σ H s):∀(n:Nat){v:V}{d:PyData}{u:Value},n9 N H n v d->RelV v u->∃as,Reads s.heap u d as/\d.showable=true/\d.hasDict=false/\d.depth<=n
 |0,v,d,u,h,r=>let(a,b,c,e,):=QU h r;([],a,b,c,Nat.le_of_eq e,)
 |n+1,v,d,u,h,r=>by
  rcases h with h|⟨a,xs,ds,rfl,_,p,c⟩
  .let(a,b,c,e,):=QU h r;exact([],a,b,c,by rw[e];exact agn _,)
  .cases r;rcases c with⟨c,rfl⟩|⟨c,rfl⟩
   .let(its,rv,(o,m,e,hc,_,hd,),_,):=I.list (ah.of c);let(as,t1,t2,t3,t4,):=LI (λv d u f r=>Lu I n f r) p rv;refine(a ::as,.list e hc hd (by simpa using t1),?_,?_,?_,)
    .simp only[PyData.showable,t2]
    .simp only[PyData.hasDict,t3]
    .simp only[PyData.depth];lia
   .let(its,rv,(o,e,hc,m,hd,),_,):=I.tuple (bS.of c);let(as,t1,t2,t3,t4,):=LI (λv d u f r=>Lu I n f r) p rv;refine(as,.tuple e hc hd (by simpa using t1),?_,?_,?_,)
    .simp only[PyData.showable,t2]
    .simp only[PyData.hasDict,t3]
    .simp only[PyData.depth];lia
inductive xQ(xs:List V)(H:Hp)(Q:VK):Prop
 |mk (N:Addr->Prop) (a:Addr) (n:Nat) (d:PyData):xs=[.ref a]->n<=10->n9 N H n (.ref a) d->d.shown.length<=sizeLine->Q (.str d.shown) H->xQ xs H Q
theorem Qs(hg:X.A.guards=![])(hu:X.A.units+1+20<cLine):bx X (.type "str") xQ:=by
 intro pins s σ H xs us Q I r h;let(N,a,n,d,rfl,hn,hr,hz,q,):=h;let(u,rfl,rx,):=vals1 r;cases rx;let(as,rd,hs,hd,dp,):=Lu I n hr 8;exact str_of_reads rd hs (λz=>by rw[hd]at z;cases z) hg 7 (λ_ _ e=>e) (λh' u tk k=>(.str d.shown,H,I.kept k,(u,8,),q,)) hz
theorem LH{B:Nat}:∀{ds:List PyData},(∀d∈ds,d.shown.length<=B)->((PyData.shownAll ds).map (·.length)).sum<=ds.length*B/\(PyData.shownAll ds).length=ds.length
 | [],_=>(by simp[PyData.shownAll],by simp[PyData.shownAll],)
 |d ::ds,h=>by
  let(h1,h2,):=LH (ds:=ds) λe he=>h e (aq4 _ he);have h0:=h d (anL ..);simp only[PyData.shownAll,aQv,aBC,acz,h2];refine(?_,trivial,);rw[Nat.add_mul];lia
theorem QT{B m:Nat}{ds:List PyData}(h:∀d∈ds,d.shown.length<=B)(hm:ds.length<=m):(PyData.shown (.list ds)).length<=m*(B+2)+3:=by
 let(h1,h2,):=LH h;have h3:=listText_len_le (PyData.shownAll ds);simp only[PyData.shown];have h4:ds.length*(B+2)<=m*(B+2):=Nat.mul_le_mul_right _ hm;rw[Nat.mul_add]at h4;lia
theorem YL{B m:Nat}{ds:List PyData}(h:∀d∈ds,d.shown.length<=B)(hm:ds.length<=m):(PyData.shown (.tuple ds)).length<=m*(B+2)+3:=by
 let(h1,h2,):=LH h;have h3:=tupleText_len_le (PyData.shownAll ds);simp only[PyData.shown];have h4:ds.length*(B+2)<=m*(B+2):=Nat.mul_le_mul_right _ hm;rw[Nat.mul_add]at h4;lia
end L2
namespace L2
open PySem PySem.F PyProof.Rows PySem.MeetsSeq
variable{K:W.Frag}{X:Cx}
end L2
namespace L2.aD
open PySem PySem.Spec PyProof.Rows
structure RR where
 r:Keyed->Nat
 g:Keyed->Int
noncomputable def Kg(ρ:RR)(xs:Array Keyed)(i:Nat):Int:=(xs[i]?).elim 0 ρ.g
theorem cA{ρ:RR}{xs ys:Array Keyed}{i j:Nat}(h:xs[i]?=ys[j]?):Kg ρ xs i=Kg ρ ys j:=by unfold Kg;rw[h]
theorem jS{ρ:RR}{xs:Array Keyed}{src d:Nat}(hs:src<xs.size)(hd:d<=src)(k:Nat) :
  Kg ρ (bubble xs src d) k=if k=src-d then Kg ρ xs src else if src-d<k/\k<=src then Kg ρ xs (k-1) else Kg ρ xs k:=by
 have e:=getElem?_bubble hs d hd k;by_cases c:k=src-d
 .rw [ahF c]at e ⊢;exact cA e
 .by_cases c2:src-d<k/\k<=src
  .rw [aah c,ahF c2]at e ⊢;exact cA e
  .rw [aah c,aah c2]at e ⊢;exact cA e
theorem gw{ρ:RR}{xs:Array Keyed}{i j:Nat}(hj:j<=xs.size)(k:Nat) :
  Kg ρ (mirror xs i j ((j-i)/2)) k=if i<=k/\k<j then Kg ρ xs (i+j-1-k) else Kg ρ xs k:=by
 have e:=getElem?_mirror_all (i:=i) hj k;by_cases c:i<=k/\k<j
 .rw [ahF c]at e ⊢;exact cA e
 .rw [aah c]at e ⊢;exact cA e
theorem bP{ρ:RR}{xs:Array Keyed}{i j:Nat}(hj:j<=xs.size)(al:∀k,i<=k->k<j->Kg ρ xs k=Kg ρ xs (j-1))(k:Nat):Kg ρ (mirror xs i j ((j-i)/2)) k=Kg ρ xs k:=by
 rw[gw hj];by_cases c:i<=k/\k<j
 .rw [ahF c,al _ 7 7,al k c.1 c.2]
 .rw [aah c]
def ig(prog:Program)(w:World)(A:Around)(s:Shared)(κ:SortKind)(ρ:RR)(a₀:Array Keyed):Prop:=
 ∀p,p∈a₀.toList->∀q,q∈a₀.toList->∀(E:Value->Shared->Prop)(Q:Bool->Shared->Prop),Q (decide (ρ.g p<ρ.g q)) s->wpAny (model prog w) A (keyLt' κ p.1 q.1) Q E s
end L2.aD
namespace L2
open PySem PySem.Spec PyProof.Rows
section
open PySem.SeqAt
open PySem.AutoSeq1 (wpAny_loadPart')
open PySem.MeetsSeq PySem.MeetsSeq2 PySem.MeetsSeq3
end
section
variable{prog:Program}{w:World}{A:Around}{E:Value->Shared->Prop}{s:Shared}
noncomputable def qE(h:Heap)(a:Addr)(us:List Value):Heap:=((h.update a (Obj.mapSeq λ_=>#[])).push (seqObj "tuple" us.toArray 0)).push (seqObj "list" #[] 0)
theorem Xm{h:Heap}{a b:Addr}{us:List Value}{o:Obj}(n:b≠a)(e:h.get? b=!o):(qE h a us).get? b=!o:=
 aJV _ (aJV _ (by rw[atI _ _ _ _ n];exact e))
noncomputable def sf(h:Heap)(us:List Value):Heap:=((h.push (seqObj "list" #[] 0)).update h.objs.size (Obj.mapSeq (·++us.toArray))).push (seqObj "list" us.toArray 0)
theorem Xl{h:Heap}{b:Addr}{us:List Value}{o:Obj}(e:h.get? b=!o):(sf h us).get? b=!o:=
 aJV _ (by rw[atI _ _ _ _ (aOt (a2o e))];exact aJV _ e)
end
variable{K:W.Frag}{X:Cx}
end L2
namespace L2
open PySem PySem.Spec PyProof.Rows
section
variable{X:Cx}{pos:Pos}
inductive yx (i j l:Nat)(D:Ends)(σ:St)(vs:List V)(H1:Hp):Prop
 |mk (v w x:V):vs=[v,w,x]->D.nx (((σ.set i (!v)).set j (!w)).set l (!x)) H1->yx i j l D σ vs H1
def Cb(i j l:Nat)(ta:TA):TS:=λD σ H=>ta σ H (yx i j l D σ)
theorem WQ{i j l:Nat}{x y z:Str}{a b c:PySem.Expr}{ta:TA}{px py pz pt:Pos}{kt k2 zp}(hc:X.calm=true)(hN:X.N.Nodup)(hi:X.N[i]?=!x)(hj:X.N[j]?=!y)(hl:X.N[l]?=!z)(hij:i≠j/\i≠l/\j≠l)
  (hx:X.env.scope.names.lookup x=!.local) (hy:X.env.scope.names.lookup y=!.local) (hz:X.env.scope.names.lookup z=!.local) (ha:PA X [a,b,c] ta)
  (hw:swappedStores [.Tuple [.Name x px,.Name y py,.Name z pz] kt pt] (.Tuple [a,b,c] k2 zp) X.env=pure (![x,y,z]))
  (hs:swapsWithSole [.Tuple [.Name x px,.Name y py,.Name z pz] kt pt] (.Tuple [a,b,c] k2 zp) pos.line X.env=pure false:=by rfl) :
  PS X (.Assign [.Tuple [.Name x px,.Name y py,.Name z pz] kt pt] (.Tuple [a,b,c] k2 zp) pos) (Cb i j l ta):=by
 intro pins s σ H D I h;rw[exec_Assign_arm];refine aTi (a4y ?_);rw[hs];refine aTi (ak8 ?_);rw[aah 9];refine aTi (Tuple_ (pK (ha _ pins s σ H _ I h) λus s1 vs H1 I1 r1 q1=>?_));let(v,w,t,e1,q1,):=q1;subst e1;obtain⟨u1,u2,u3,rfl,rv,rw',rt⟩:∃u1 u2 u3,us=[u1,u2,u3]/\RelV v u1/\RelV w u2/\RelV t u3:=by
  cases r1 with
  |cons p q=>
   cases q with
   |cons p' q'=>
    cases q' with
    |cons p'' SQ=>
     cases SQ;exact(117,p,p',p'',)
 refine a8y ?_ (by show 3<=sizeLine;decide);have I2:Inv X pins σ H1 { s1 with heap:=s1.heap.push { cls:=.type "tuple",data:=.seq [u1,u2,u3].toArray } }:=I1.kept (t':=s1.toks) λb o e=>aJV _ e;rw[hw];refine aTi (ak8 ?_);show wpAny (model X.prog X.w) X.A (do rule "assign.swapped-stores";let items <-unpackItems (.ref s1.heap.objs.size) 3 none;assignInOrder [λv=>bindName X.env z v,λv=>bindName X.env y v,λv=>bindName X.env x v] items.reverse;pure Flow.next) _ _ _;refine aTi (aJI (aTi (unpackItems_tuple (items:=#[u1,u2,u3]) (I.ok.hd hc) (IsTup.new s1.heap _) λh' hx'=>?_)));have I3:=I2.kept (h':=h') (t':=s1.toks) λb o e=>hx' b o (aOt (a2o e)) e;show wpAny _ _ (assignInOrder [λv=>bindName X.env z v,λv=>bindName X.env y v,λv=>bindName X.env x v] [u3,u2,u1] >>= λ_=>pure Flow.next) _ _ _;refine aTi (aQV (an5 (yK I3 hN hl (.inl hz) rt (λs2 I4=>?_) (.inr hz))));refine aQV (an5 (yK I4 hN hj (.inl hy) rw' (λs3 I5=>?_) (.inr hy)));refine aQV (an5 (yK I5 hN hi (.inl hx) rv (λs4 I6=>assignInOrder_nil (ak8 ?_)) (.inr hx)));have e:((σ.set l (!t)).set j (!w)).set i (!v)=((σ.set i (!v)).set j (!w)).set l (!t):=by
  rw[List.set_comm (!w) (!v) (aUP hij.1),List.set_comm (!t) (!v) (aUP hij.2.1),List.set_comm (!t) (!w) (aUP hij.2.2)]
 rw[e]at I6;exact(_,H1,I6,q1,)
end
end L2
namespace L2.wR
open PySem PySem.Spec PyProof.Rows
noncomputable def Bs:Bool->Keyed->Array Keyed->Nat->Nat->Nat->StateT SortSt Sem (Option Nat):=sortPriv% PySem.Builtin.gallop
noncomputable def Bv:Nat->StateT SortSt Sem Unit:=sortPriv% PySem.Builtin.setMinGallop
noncomputable def Lr:Array Keyed->Array Keyed->StateT SortSt Sem (Array Keyed):=sortPriv% PySem.Builtin.mergeLo
noncomputable def Lq:Array Keyed->Array Keyed->StateT SortSt Sem (Array Keyed):=sortPriv% PySem.Builtin.mergeHi
noncomputable def yE(left:Bool)(key:Keyed)(arr:Array Keyed)(base i:Nat):StateT SortSt Sem (Option Bool):=do
 let x <-elem' arr (base+i)
 if left then lt' x key else return (<-lt' key x).map (not ·)
noncomputable def wB(left:Bool)(key:Keyed)(arr:Array Keyed)(base n T7 hi0:Nat):StateT SortSt Sem (Option Nat):=do
 let mut lo:=T7
 let mut hi:=hi0
 for _ in[0:n] do
  if lo ≥ hi then break
  let m:=lo+(hi-lo)/2
  let some more <-yE left key arr base m|return none
  if more then lo:=m+1 else hi:=m
 return !hi
noncomputable def Nv(left:Bool)(key:Keyed)(arr:Array Keyed)(base n hint:Nat):StateT SortSt Sem (Option Nat):=do
 let mut fO:=0
 let mut qQ:=1
 for _ in[0:n] do
  if qQ ≥ n-hint then break
  let some more <-yE left key arr base (hint+qQ)|return none
  if (not (more)) then break
  fO:=qQ
  qQ:=2*qQ+1
 wB left key arr base n (hint+fO+1) (hint+min qQ (n-hint))
noncomputable def Ny(left:Bool)(key:Keyed)(arr:Array Keyed)(base n hint:Nat):StateT SortSt Sem (Option Nat):=do
 let mut fO:=0
 let mut qQ:=1
 for _ in[0:n] do
  if qQ ≥ hint+1 then break
  let some found <-yE left key arr base (hint-qQ)|return none
  if found then break
  fO:=qQ
  qQ:=2*qQ+1
 wB left key arr base n (hint+1-min qQ (hint+1)) (hint-fO)
theorem YZ(left:Bool)(key:Keyed)(arr:Array Keyed)(base n hint:Nat):Bs left key arr base n hint=(do
 let some right <-yE left key arr base hint|return none
 if right then Nv left key arr base n hint else Ny left key arr base n hint):=rfl
theorem ZbL(g:Nat):Bv g=modify (λs=>SortSt.mk' (kindOf s) (arrOf s) (pendingOf s) g (failedOf s)):=rfl
theorem uF{σ α:Type}{M:Model}{A:Around}{E:Value->Shared->Prop}{s:Shared}{m m':StateT σ Sem α}{Q:α->σ->Prop}{st:σ}(e:m=m')(h:wpS M A E s m' Q st):wpAny M A (m st) (λr s'=>s'=s/\Q r.1 r.2) E s:=by subst e;exact h
section
variable{prog:Program}{w:World}{A:Around}{E:Value->Shared->Prop}{s:Shared}{a₀:Array Keyed}{κ:SortKind}{ρ:aD.RR}
theorem mZ{st:SortSt}{p q:Keyed}{Q:Option Bool->SortSt->Prop}(hk:kindOf st=κ)(h0:aD.ig prog w A s κ ρ a₀)(mp:p∈a₀.toList)(mq:q∈a₀.toList)(h:Q (!(decide (ρ.g p<ρ.g q))) st):wpS (model prog w) A E s (lt' p q) Q st:=by
 rw[lt'_eq];refine aaM (aOc ?_);rw[hk];exact aaM (wpS_lift (wpAny_attempt (h0 p mp q mq _ _ (8,aAI h,))))
theorem ZH{st:SortSt}{arr:Array Keyed}{i:Nat}{Q:Keyed->SortSt->Prop}(hi:i<arr.size)(h:Q arr[i] st):wpS (model prog w) A E s (elem' arr i) Q st:=by
 rw[elem'_eq,getElem?_pos arr i hi];exact aAI h
theorem bw{arr:Array Keyed}{i:Nat}(hi:i<arr.size):aD.Kg ρ arr i=ρ.g arr[i]:=by
 unfold aD.Kg;rw[getElem?_pos arr i hi];rfl
noncomputable def Bd(ρ:aD.RR)(left:Bool)(kv:Int)(arr:Array Keyed)(base i:Nat):Bool:=if left then decide (aD.Kg ρ arr (base+i)<kv) else (not (decide (kv<aD.Kg ρ arr (base+i))))
theorem Wm{st:SortSt}{left:Bool}{key:Keyed}{arr:Array Keyed}{base i:Nat}{Q:Option Bool->SortSt->Prop}(hk:kindOf st=κ)(h0:aD.ig prog w A s κ ρ a₀)(ha:∀p∈arr.toList,p∈a₀.toList)(mk:key∈a₀.toList)(hi:base+i<arr.size)(h:Q (!(Bd ρ left (ρ.g key) arr base i)) st):wpS (model prog w) A E s (yE left key arr base i) Q st:=by
 unfold yE;refine aaM (ZH hi ?_);have m:arr[base+i]∈a₀.toList:=ha _ 5;unfold Bd at h;rw[bw hi]at h;cases left with
 |true=>
  simp only[an9]at h ⊢;exact mZ hk h0 m mk h
 |false=>
  simp only[axr,aGD]at h ⊢;exact aaM (mZ hk h0 mk m (aAI h))
structure Cut(ρ:aD.RR)(left:Bool)(kv:Int)(arr:Array Keyed)(base n k:Nat):Prop where
 le:k<=n
 lo:∀i,i<k->Bd ρ left kv arr base i=true
 hi:∀i,k<=i->i<n->Bd ρ left kv arr base i=false
def dF(ρ:aD.RR)(arr:Array Keyed)(a b:Nat):Prop:=∀i j,a<=i->i<=j->j<b->aD.Kg ρ arr i<=aD.Kg ρ arr j
theorem WO{left:Bool}{kv:Int}{arr:Array Keyed}{base n i j:Nat}(hs:dF ρ arr base (base+n))(hij:i<=j)(hj:j<n)(h:Bd ρ left kv arr base j=true):Bd ρ left kv arr base i=true:=by
 have q:=hs (base+i) (base+j) 7 7 7;unfold Bd at h ⊢;cases left with
 |true=>
  simp only[an9,auA]at h ⊢;lia
 |false=>
  simp only[axr,aGD,aOI,a3H]at h ⊢;lia
section
variable{st:SortSt}{left:Bool}{key:Keyed}{arr:Array Keyed}{base n:Nat}{Q:Option Nat->SortSt->Prop}{P:Nat->Bool}
theorem Pk{lo hi:Nat}(B:∀{i:Nat}{Q:Option Bool->SortSt->Prop},i<n->Q (!(P i)) st->wpS (model prog w) A E s (yE left key arr base i) Q st)
  (up:∀{i j:Nat},i<=j->j<n->P j=true->P i=true) (dn:∀{i j:Nat},i<=j->j<n->P i=false->P j=false)
  (h:∀k,k<=n->(∀i,i<k->P i=true)->(∀i,k<=i->i<n->P i=false)->Q (!k) st)
  (F8:lo<=hi) (UB:hi<=n) (u1:∀i,i<lo->P i=true) (u2:∀i,hi<=i->i<n->P i=false):wpS (model prog w) A E s (wB left key arr base n lo hi) Q st:=by
 unfold wB;refine aaM (aU8 (ang (I:=λx c st2=>st2=st/\∃l r,c=(none,l,r)/\l<=r/\r<=n/\r-l<=n-x/\(∀i,i<l->P i=true)/\(∀i,r<=i->i<n->P i=false))
  (Q:=λc st2=>st2=st/\∃r,c=(none,r,r)/\r<=n/\(∀i,i<r->P i=true)/\(∀i,r<=i->i<n->P i=false)) ?iturn ?ilast ?ifirst) ?iafter)
 case ifirst=>exact(8,lo,hi,8,F8,UB,7,u1,u2,)
 case ilast=>
  rintro c st2 ⟨rfl,l,r,rfl,hlr,hrk,hm,u1,u2⟩;have e:l=r:=7
  subst e;exact(8,l,8,hrk,u1,u2,)
 case iturn=>
  rintro x c st2 _ hxk ⟨rfl,l,r,rfl,hlr,hrk,hm,u1,u2⟩;dsimp only;by_cases hge:l ≥ r
  .rw [ahF hge];have e:l=r:=7
   subst e;exact aAI (8,l,8,hrk,u1,u2,)
  .rw [aah hge];refine aaM (B 7 ?_);dsimp only;cases c:P (l+(r-l)/2) with
   |true=>
    rw[ahF 8];exact aAI (8,l+(r-l)/2+1,r,8,7,7,7,λi p=>up (j:=l+(r-l)/2) 7 7 c,u2,)
   |false=>
    rw[aah 5];exact aAI (8,l,l+(r-l)/2,8,7,7,7,u1,λi p q=>dn p q c,)
 case iafter=>
  rintro c st2 ⟨rfl,r,rfl,Ut,u1,u2⟩;exact aAI (h r Ut u1 u2)
end
theorem By{st:SortSt}{left:Bool}{key:Keyed}{arr:Array Keyed}{base n hint:Nat}{Q:Option Nat->SortSt->Prop}(hk:kindOf st=κ)(h0:aD.ig prog w A s κ ρ a₀)(ha:∀p∈arr.toList,p∈a₀.toList)(mk:key∈a₀.toList)(hb:base+n<=arr.size)(hh:hint<n)(hs:dF ρ arr base (base+n))
  (h:∀k,Cut ρ left (ρ.g key) arr base n k->Q (!k) st):wpS (model prog w) A E s (Bs left key arr base n hint) Q st:=by
 rw[YZ];have B:∀{i:Nat}{Q:Option Bool->SortSt->Prop},i<n->Q (!(Bd ρ left (ρ.g key) arr base i)) st->wpS (model prog w) A E s (yE left key arr base i) Q st:=λ{i Q} hi hq=>Wm hk h0 ha mk 7 hq;have up:∀{i j:Nat},i<=j->j<n->Bd ρ left (ρ.g key) arr base j=true->Bd ρ left (ρ.g key) arr base i=true:=λhij hj hq=>WO hs hij hj hq;have h:=λk c1 c2 c3=>h k (c1,c2,c3,);generalize Bd ρ left (ρ.g key) arr base=P at *;have dn:∀{i j:Nat},i<=j->j<n->P i=false->P j=false:=λ{i j} hij hj hq=>by
  cases e:P j with
  |false=>rfl
  |true=>rw[up hij hj e]at hq;exact hq
 refine aaM (B hh ?_);dsimp only;cases e:P hint with
 |true=>
  rw[ahF 8];unfold Nv;refine aaM (aU8 (ang (I:=λx c st2=>st2=st/\∃l o,c=(none,l,o)/\l<o/\x+1<=o/\hint+l<n/\P (hint+l)=true)
   (Q:=λc st2=>st2=st/\∃l o,c=(none,l,o)/\l<o/\hint+l<n/\P (hint+l)=true/\(n-hint<=o\/hint+o<n/\P (hint+o)=false)) ?jturn ?jlast ?jfirst) ?jafter)
  case jfirst=>exact(8,0,1,8,7,7,7,e,)
  case jlast=>
   rintro c st2 ⟨rfl,l,o,rfl,hlo,JB,gW,hp⟩;exact(8,l,o,8,hlo,gW,hp,.inl 7,)
  case jturn=>
   rintro x c st2 _ hxk ⟨rfl,l,o,rfl,hlo,JB,gW,hp⟩;dsimp only;by_cases hge:o ≥ n-hint
   .rw [ahF hge];exact aAI (8,l,o,8,hlo,gW,hp,.inl hge,)
   .rw [aah hge];refine aaM (B 7 ?_);dsimp only;cases c:P (hint+o) with
    |true=>
     rw[aah 5];exact aAI (8,o,2*o+1,8,7,7,7,c,)
    |false=>
     rw[ahF 5];exact aAI (8,l,o,8,hlo,gW,hp,.inr (7,c,),)
  case jafter=>
   rintro c st2 ⟨rfl,l,o,rfl,hlo,gW,hp,ho⟩;refine Pk B up dn h (by dsimp only;lia) (by dsimp only;lia) (λi hi=>up (j:=hint+l) (by dsimp only at hi;lia) gW hp) (λi p q=>?_);dsimp only at p;rcases ho with ho|⟨ho,c⟩
   .lia
   .exact dn (i:=hint+o) 7 q c
 |false=>
  rw[aah 5];unfold Ny;refine aaM (aU8 (ang (I:=λx c st2=>st2=st/\∃l o,c=(none,l,o)/\l<o/\x+1<=o/\l<=hint/\P (hint-l)=false)
   (Q:=λc st2=>st2=st/\∃l o,c=(none,l,o)/\l<o/\l<=hint/\P (hint-l)=false/\(hint+1<=o\/o<=hint/\P (hint-o)=true)) ?kturn ?klast ?kfirst) ?kafter)
  case kfirst=>exact(8,0,1,8,7,7,7,e,)
  case klast=>
   rintro c st2 ⟨rfl,l,o,rfl,hlo,JB,gW,hp⟩;exact(8,l,o,8,hlo,gW,hp,.inl 7,)
  case kturn=>
   rintro x c st2 _ hxk ⟨rfl,l,o,rfl,hlo,JB,gW,hp⟩;dsimp only;by_cases hge:o ≥ hint+1
   .rw [ahF hge];exact aAI (8,l,o,8,hlo,gW,hp,.inl hge,)
   .rw [aah hge];refine aaM (B 7 ?_);dsimp only;cases c:P (hint-o) with
    |true=>
     rw[ahF 8];exact aAI (8,l,o,8,hlo,gW,hp,.inr (7,c,),)
    |false=>
     rw[aah 5];exact aAI (8,o,2*o+1,8,7,7,7,c,)
  case kafter=>
   rintro c st2 ⟨rfl,l,o,rfl,hlo,gW,hp,ho⟩;refine Pk B up dn h (by dsimp only;lia) (by dsimp only;lia) (λi hi=>?_) (λi p q=>dn (i:=hint-l) (by dsimp only at p;lia) q hp);dsimp only at hi;rcases ho with ho|⟨ho,c⟩
   .lia
   .exact up (j:=hint-o) 7 7 c
end
def Lk(ρ:aD.RR)(x y:Keyed):Prop:=ρ.g x<=ρ.g y
structure MI(ρ:aD.RR)(A B out:List Keyed)(ia ib:Nat):Prop where
 perm:(out++A.drop ia++B.drop ib).Perm (A++B)
 sa:(out++A.drop ia).Pairwise (Lk ρ)
 sb:(out++B.drop ib).Pairwise (Lk ρ)
section
variable{ρ:aD.RR}{A B out:List Keyed}{ia ib:Nat}
theorem MI.gy(h:MI ρ A B out ia ib)(k:Nat)(hk:∀t∈(B.drop ib).take k,∀x∈A.drop ia,ρ.g t<=ρ.g x):MI ρ A B (out++(B.drop ib).take k) ia (ib+k):=by
 have e:B.drop (ib+k)=(B.drop ib).drop k:=by rw[drop_drop]
 have s:=h.sb;have p:=h.perm;rw[<-agK k (B.drop ib)]at s p;refine(?_,?_,?_,)
 .rw [e];refine List.Perm.trans ?_ p;rw[bd0 out,bd0 out,bd0 out,<-bd0 (A.drop ia)];exact(List.Perm.append_right _ aSM).append_left _
 .have s1:(out++(B.drop ib).take k).Pairwise (Lk ρ):=by
   rw[<-bd0]at s;exact(ahh.1 s).1
  have a1:=ahh.1 h.sa;refine ahh.2 (s1,a1.2.1,λx hx y hy=>?_,);rcases a6S.1 hx with hx|hx
  .exact a1.2.2 x hx y hy
  .exact hk x hx y hy
 .rw [e,bd0];exact s
theorem MI.jE(h:MI ρ A B out ia ib)(k:Nat)(hk:∀t∈(A.drop ia).take k,∀x∈B.drop ib,ρ.g t<=ρ.g x):MI ρ A B (out++(A.drop ia).take k) (ia+k) ib:=by
 have h2:MI ρ B A out ib ia:=(by
  refine List.Perm.trans ?_ (List.Perm.trans h.perm aSM);rw[bd0,bd0];exact aSM.append_left _,h.sb,h.sa,)
 have h3:=h2.gy k hk;refine(?_,h3.sb,h3.sa,);refine List.Perm.trans ?_ (List.Perm.trans h3.perm aSM);rw[bd0 _ (A.drop _),bd0 _ (B.drop _)];exact aSM.append_left _
def Res(ρ:aD.RR)(A B:List Keyed)(r:Array Keyed):Prop:=r.toList.Perm (A++B)/\r.toList.Pairwise (Lk ρ)
theorem GW(a:Array Keyed)(i:Nat):(a.extract i a.size).toList=a.toList.drop i:=by
 rw[aNi,List.extract_eq_drop_take];exact aV1 5
theorem Lj(a:Array Keyed)(i k:Nat):(a.extract i (i+k)).toList=(a.toList.drop i).take k:=by
 rw[aNi,List.extract_eq_drop_take];congr 1
 lia
theorem MI.res{a b out:Array Keyed}(h:MI ρ a.toList b.toList out.toList ia ib)(he:a.toList.drop ia=[]\/b.toList.drop ib=[]):Res ρ a.toList b.toList (out++a.extract ia a.size++b.extract ib b.size):=by
 unfold Res;rw[arA,arA,GW,GW];refine(h.perm,?_,);rcases he with he|he
 .rw [he,aZr];exact h.sb
 .rw [he,aZr];exact h.sa
theorem MI.last{a b out:Array Keyed}(h:MI ρ a.toList b.toList out.toList ia ib)(hl:∀y∈b.toList,∀x∈a.toList.drop (a.size-1),ρ.g y<=ρ.g x)(he:ia+1=a.size):Res ρ a.toList b.toList (out++b.extract ib b.size++a.extract ia a.size):=by
 have e:ia=a.size-1:=7
 have h2:=h.gy (b.toList.length) (λt ht x hx=>hl t (aJt (aKa ht)) x (by rw[<-e];exact hx));have e2:(b.toList.drop ib).take b.toList.length=b.toList.drop ib:=aV1 5;have e3:b.toList.drop (ib+b.toList.length)=[]:=a4d 7;rw[e2]at h2;unfold Res;rw[arA,arA,GW,GW];refine(?_,h2.sa,);have:=h2.perm;rw[e3,aZr]at this;exact this
end
noncomputable abbrev rH:=Option (Array Keyed)×Array Keyed×Nat×Nat×Nat×Nat×Nat
noncomputable def F2(a b out:Array Keyed)(ia ib g k k1:Nat):StateT SortSt Sem (ForInStep rH):=do
 let x <-elem' a ia
 if ia+1+1 ==a.size then pure (.done (!(out.push x++b.extract ib b.size++a.extract (ia+1) a.size),out.push x,ia+1,ib,g,k,k1))
 else if k<07 && k1<07 then pure (.done (none,out.push x,ia+1,ib,g,k,k1)) else pure (.yield (none,out.push x,ia+1,ib,g,k,k1))
noncomputable def lo2(a b out:Array Keyed)(ia ib g k bc:Nat):StateT SortSt Sem (ForInStep rH):=do
 let x <-elem' b ib
 if ib+1 ==b.size then pure (.done (!(out.push x++a.extract ia a.size++b.extract (ib+1) b.size),out.push x,ia,ib+1,g,k,bc))
 else do
  let y <-elem' a ia
  let r <-Bs true y b (ib+1) (b.size-(ib+1)) 0
  match r with
  |some k1=>
   if k1>0 then
    if ib+1+k1 ==b.size then pure (.done (!(out.push x++b.extract (ib+1) (ib+1+k1)++a.extract ia a.size++b.extract (ib+1+k1) b.size),out.push x++b.extract (ib+1) (ib+1+k1),ia,ib+1+k1,g,k,k1))
    else F2 a b (out.push x++b.extract (ib+1) (ib+1+k1)) ia (ib+1+k1) g k k1
   else F2 a b (out.push x) ia (ib+1) g k k1
  |none=>pure (.done (!(out.push x++a.extract ia a.size++b.extract (ib+1) b.size),out.push x,ia,ib+1,g,k,bc))
noncomputable def lo1(a b out:Array Keyed)(ia ib g ac bc:Nat):StateT SortSt Sem (ForInStep rH):=do
 Bv g
 let y <-elem' b ib
 let r <-Bs false y a ia (a.size-ia) 0
 match r with
 |some k=>
  if k>0 then
   if ia+k+1 ==a.size then pure (.done (!(out++a.extract ia (ia+k)++b.extract ib b.size++a.extract (ia+k) a.size),out++a.extract ia (ia+k),ia+k,ib,g,k,bc))
   else if ia+k ==a.size then pure (.done (!(out++a.extract ia (ia+k)++a.extract (ia+k) a.size++b.extract ib b.size),out++a.extract ia (ia+k),ia+k,ib,g,k,bc))
   else lo2 a b (out++a.extract ia (ia+k)) (ia+k) ib g k bc
  else lo2 a b out ia ib g k bc
 |none=>pure (.done (!(out++a.extract ia a.size++b.extract ib b.size),out,ia,ib,g,ac,bc))
noncomputable abbrev xu:=Option (Array Keyed)×Array Keyed×Nat×Nat×Nat×Nat
noncomputable def F1(a b:Array Keyed)(mg:Nat)(c:xu):StateT SortSt Sem (ForInStep xu):=do
 let y <-elem' b c.2.2.2.1
 let x <-elem' a c.2.2.1
 let r <-lt' y x
 match r with
 |some w=>
  if w then do
   let y <-elem' b c.2.2.2.1
   if c.2.2.2.1+1 ==b.size then pure (.done (!(c.2.1.push y++a.extract c.2.2.1 a.size++b.extract (c.2.2.2.1+1) b.size),c.2.1.push y,c.2.2.1,c.2.2.2.1+1,0,c.2.2.2.2.2+1))
   else if c.2.2.2.2.2+1 ≥ mg then pure (.done (none,c.2.1.push y,c.2.2.1,c.2.2.2.1+1,0,c.2.2.2.2.2+1))
   else pure (.yield (none,c.2.1.push y,c.2.2.1,c.2.2.2.1+1,0,c.2.2.2.2.2+1))
  else do
   let x <-elem' a c.2.2.1
   if c.2.2.1+1+1 ==a.size then pure (.done (!(c.2.1.push x++b.extract c.2.2.2.1 b.size++a.extract (c.2.2.1+1) a.size),c.2.1.push x,c.2.2.1+1,c.2.2.2.1,c.2.2.2.2.1+1,0))
   else if c.2.2.2.2.1+1 ≥ mg then pure (.done (none,c.2.1.push x,c.2.2.1+1,c.2.2.2.1,c.2.2.2.2.1+1,0))
   else pure (.yield (none,c.2.1.push x,c.2.2.1+1,c.2.2.2.1,c.2.2.2.2.1+1,0))
 |none=>pure (.done (!(c.2.1++a.extract c.2.2.1 a.size++b.extract c.2.2.2.1 b.size),c.2.1,c.2.2.1,c.2.2.2.1,c.2.2.2.2.1,c.2.2.2.2.2))
noncomputable abbrev Ay:=Option (Array Keyed)×Array Keyed×Nat×Nat×Nat
noncomputable def F0(a b:Array Keyed)(c:Ay):StateT SortSt Sem (ForInStep Ay):=do
 let d <-forIn [0:a.size+b.size] ((none,c.2.1,c.2.2.1,c.2.2.2.1,0,0):xu) (λ_ d=>F1 a b c.2.2.2.2 d)
 match d.1 with
 |some r=>pure (.done (!r,d.2.1,d.2.2.1,d.2.2.2.1,c.2.2.2.2))
 |none=>do
  rule "list.sort.gallop"
  let e <-forIn [0:a.size+b.size] ((none,d.2.1,d.2.2.1,d.2.2.2.1,c.2.2.2.2+1,d.2.2.2.2.1,d.2.2.2.2.2):rH) (λ_ e=>if e.2.2.2.2.1>1 then lo1 a b e.2.1 e.2.2.1 e.2.2.2.1 (e.2.2.2.2.1-1) e.2.2.2.2.2.1 e.2.2.2.2.2.2 else lo1 a b e.2.1 e.2.2.1 e.2.2.2.1 e.2.2.2.2.1 e.2.2.2.2.2.1 e.2.2.2.2.2.2)
  match e.1 with
  |some r=>pure (.done (!r,e.2.1,e.2.2.1,e.2.2.2.1,e.2.2.2.2.1))
  |none=>do
   Bv (e.2.2.2.2.1+1)
   pure (.yield (none,e.2.1,e.2.2.1,e.2.2.2.1,e.2.2.2.2.1+1))
theorem YY{M:Model}{A:Around}{E:Value->Shared->Prop}{s:Shared}{Q:Array Keyed->SortSt->Prop}{st:SortSt}(a b:Array Keyed)(h:wpS M A E s (do
 rule "list.sort.merge-lo"
 let x <-elem' b 0
 if 1 ==b.size then pure (#[x]++a.extract 0 a.size++b.extract 1 b.size)
 else if 0+1 ==a.size then pure (#[x]++b.extract 1 b.size++a.extract 0 a.size)
 else do
  let st <-get
  let c <-forIn [0:a.size+b.size] ((none,#[x],0,1,gallopOf st):Ay) (λ_ c=>F0 a b c)
  match c.1 with
  |some r=>pure r
  |none=>unsupported "internal:list.sort.merge-bound") Q st):wpS M A E s (Lr a b) Q st:=by
 show wpAny M A (Lr a b st) _ E s
 wp_delta
 wp_delta
 refine uF ?_ h;dsimp only;refine bcR λ_=>bcR λx=>?_;congr 1
 congr 1
 refine bcR λst=>?_;congr 1
 .congr 1
  funext _ c
  unfold F0;congr 1
  .congr 1
   funext _ d
   unfold F1;refine bcR λy=>bcR λx=>bcR λr=>?_;cases r with
   |some w=>
    cases w with
    |true=>rfl
    |false=>rfl
   |none=>rfl
  .funext d
   cases d.1 with
   |some r=>rfl
   |none=>
    dsimp only;refine bcR λ_=>?_;congr 1
    .congr 1
     funext _ e
     congr 1
     all_goals
      unfold lo1;refine bcR λ_=>bcR λy=>bcR λr=>?_;cases r with
      |none=>rfl
      |some k=>
       dsimp only;congr 1
       .congr 1
        congr 1
        unfold lo2;refine bcR λx=>?_;congr 1
        refine bcR λy=>bcR λr=>?_;cases r with
        |none=>rfl
        |some k1=>rfl
       .unfold lo2;refine bcR λx=>?_;congr 1
        refine bcR λy=>bcR λr=>?_;cases r with
        |none=>rfl
        |some k1=>rfl
    .funext e
     cases e.1 with
     |some r=>rfl
     |none=>rfl
 .funext c
  cases c.1 with
  |some r=>rfl
  |none=>rfl
def Sm(st st':SortSt):Prop:=kindOf st'=kindOf st/\arrOf st'=arrOf st/\pendingOf st'=pendingOf st/\failedOf st'=failedOf st
theorem Sm.refl(st:SortSt):Sm st st:=(8,8,8,8,)
theorem Sm.trans{a b c:SortSt}(h:Sm a b)(h':Sm b c):Sm a c:=(h'.1.trans h.1,h'.2.1.trans h.2.1,h'.2.2.1.trans h.2.2.1,h'.2.2.2.trans h.2.2.2,)
section
variable{prog:Program}{w:World}{A:Around}{E:Value->Shared->Prop}{s:Shared}{a₀:Array Keyed}{κ:SortKind}{ρ:aD.RR}{a b:Array Keyed}
theorem GV{st:SortSt}{g:Nat}{Q:Unit->SortSt->Prop}(h:∀st',Sm st st'->Q () st'):wpS (model prog w) A E s (Bv g) Q st:=by
 rw[ZbL];exact ao2 (h _ (8,8,8,8,))
theorem Og(h:a.toList.Pairwise (Lk ρ))(i j:Nat):dF ρ a i (i+(a.size-i)):=by
 intro x y hx hxy hy;have hy':y<a.size:=7
 rw[bw (show x<a.size by lia),bw hy'];by_cases e:x=y
 .subst e;lia
 .exact amg.1 h x y (by simpa using(show x<a.size by lia)) (by simpa using hy') 7
theorem ZeI{i:Nat}{x:Keyed}(h:x∈a.toList.drop i):∃j,∃hj:i+j<a.size,x=a[i+j]:=by
 let(j,hj,e,):=bbR.1 h;rw[aPq,aou]at hj;refine(j,7,?_,);rw[<-e,getElem_drop,aQW]
theorem ZeJ{i k:Nat}{x:Keyed}(h:x∈(a.toList.drop i).take k):∃j,j<k/\∃hj:i+j<a.size,x=a[i+j]:=by
 let(j,hj,e,):=bbR.1 h;rw[bby,aPq,aou]at hj;refine(j,7,7,?_,);rw[<-e,getElem_take,getElem_drop,aQW]
theorem Cut.low{left:Bool}{kv:Int}{i k:Nat}(h:Cut ρ left kv a i (a.size-i) k){x:Keyed}(hx:x∈(a.toList.drop i).take k):ρ.g x<=kv:=by
 let(j,hj,hs,rfl,):=ZeJ hx;have:=h.lo j hj;unfold Bd at this;rw[bw hs]at this;cases left with
 |true=>simp only[an9,auA]at this;lia
 |false=>simp only[axr,aGD,aOI,a3H]at this;lia
theorem Cut.high{left:Bool}{kv:Int}{i k:Nat}(h:Cut ρ left kv a i (a.size-i) k){x:Keyed}(hx:x∈a.toList.drop (i+k)):kv<=ρ.g x:=by
 let(j,hs,rfl,):=ZeI hx;have:=h.hi (k+j) 7 7;unfold Bd at this;rw[show i+(k+j)=i+k+j by lia,bw hs]at this;cases left with
 |true=>simp only[an9,a3H]at this;lia
 |false=>simp only[axr,aGD,Bool.not_eq_false',auA]at this;lia
theorem EK{i:Nat}(hi:i<a.size):(a.toList.drop i).take 1=[a[i]]:=by
 rw[aBj (by simpa using hi)];rfl
theorem HJ{i:Nat}(hi:i<a.size)(h:(a.toList.drop i).Pairwise (Lk ρ)){x:Keyed}(hx:x∈a.toList.drop i):ρ.g a[i]<=ρ.g x:=by
 rw[aBj (by simpa using hi)]at h hx;rcases aPx.1 hx with rfl|hx
 .exact aaP _
 .exact (a7D.1 h).1 x hx
structure BC(ρ:aD.RR)(a₀ a b:Array Keyed):Prop where
 ma:∀p∈a.toList,p∈a₀.toList
 mb:∀p∈b.toList,p∈a₀.toList
 sa:a.toList.Pairwise (Lk ρ)
 sb:b.toList.Pairwise (Lk ρ)
 last:∀y∈b.toList,∀x∈a.toList.drop (a.size-1),ρ.g y<=ρ.g x
def Jm(ρ:aD.RR)(a b:Array Keyed)(m:Nat)(out:Array Keyed)(ia ib:Nat):Prop:=MI ρ a.toList b.toList out.toList ia ib/\m<=ia+ib/\ia+1<a.size/\ib<b.size
def Rg(ρ:aD.RR)(a b:Array Keyed)(m:Nat)(c:rH):Prop:=(∃r q,c=(!r,q)/\Res ρ a.toList b.toList r)\/∃out ia ib g k k1,c=(none,out,ia,ib,g,k,k1)/\Jm ρ a b m out ia ib
def L7(ρ:aD.RR)(a b:Array Keyed)(m:Nat)(st:SortSt)(r:ForInStep rH)(st':SortSt):Prop:=Sm st st'/\match r with
 | .done c=>Rg ρ a b m c
 | .yield c=>∃out ia ib g k k1,c=(none,out,ia,ib,g,k,k1)/\Jm ρ a b m out ia ib
theorem MI.jI{out:Array Keyed}{ia ib:Nat}(h:MI ρ a.toList b.toList out.toList ia ib)(hi:ia<a.size)(hk:∀x∈b.toList.drop ib,ρ.g a[ia]<=ρ.g x):MI ρ a.toList b.toList (out.push a[ia]).toList (ia+1) ib:=by
 have:=h.jE 1 (by rw[EK hi];intro t ht x hx;rw[aOT.1 ht];exact hk x hx);rw[EK hi]at this;rw[awA];exact this
theorem MI.jH{out:Array Keyed}{ia ib:Nat}(h:MI ρ a.toList b.toList out.toList ia ib)(hi:ib<b.size)(hk:∀x∈a.toList.drop ia,ρ.g b[ib]<=ρ.g x):MI ρ a.toList b.toList (out.push b[ib]).toList ia (ib+1):=by
 have:=h.gy 1 (by rw[EK hi];intro t ht x hx;rw[aOT.1 ht];exact hk x hx);rw[EK hi]at this;rw[awA];exact this
theorem Of{gJ st:SortSt}{out:Array Keyed}{ia ib g k k1 m:Nat}(T:BC ρ a₀ a b)(hS:Sm gJ st)(h:Jm ρ a b m out ia ib)(hk:∀x∈b.toList.drop ib,ρ.g (a[ia]'(by have:=h.2.2.1;lia))<=ρ.g x):wpS (model prog w) A E s (F2 a b out ia ib g k k1) (L7 ρ a b (m+1) gJ) st:=by
 let(M,hm,ha,hb,):=h;have ud:ia<a.size:=7
 unfold F2;refine aaM (ZH ud ?_);have M2:=M.jI ud hk;by_cases e:ia+1+1=a.size
 .rw [ahF (by simpa using e)];exact aAI (hS,.inl (109,M2.last T.last e,),)
 .rw [aah (by simpa using e)];have J:Jm ρ a b (m+1) (out.push a[ia]) (ia+1) ib:=(M2,7,7,hb,);by_cases c:(decide (k<07) && decide (k1<07))=true
  .rw [ahF c];exact aAI (hS,.inr (229,J,),)
  .rw [aah c];exact aAI (hS,229,J,)
theorem Oe{gJ st:SortSt}{out:Array Keyed}{ia ib g k bc m:Nat}(h0:aD.ig prog w A s κ ρ a₀)(hk:kindOf st=κ)(T:BC ρ a₀ a b)(hS:Sm gJ st)(h:Jm ρ a b m out ia ib)(hq:∀x∈a.toList.drop ia,ρ.g (b[ib]'(h.2.2.2))<=ρ.g x):wpS (model prog w) A E s (lo2 a b out ia ib g k bc) (L7 ρ a b (m+1) gJ) st:=by
 let(M,hm,ha,hb,):=h;have ud:ia<a.size:=7
 unfold lo2;refine aaM (ZH hb ?_);have M2:=M.jH hb hq;by_cases e:ib+1=b.size
 .rw [ahF (by simpa using e)];exact aAI (hS,.inl (109,M2.res (.inr (a4d (by simp;lia))),),)
 .rw [aah (by simpa using e)];refine aaM (ZH ud ?_);refine aaM (By hk h0 T.mb (T.ma _ 5) 7 7 (Og T.sb _ 0) (λk1 C=>?_));dsimp only;have fa:∀x∈a.toList.drop ia,ρ.g a[ia]<=ρ.g x:=λx hx=>HJ ud (acZ (drop_sublist _ _) T.sa) hx;have M3:=M2.gy k1 (λt ht x hx=>aeM (C.low ht) (fa x hx));rw[<-Lj,<-arA]at M3;have hi:∀x∈b.toList.drop (ib+1+k1),ρ.g a[ia]<=ρ.g x:=λx hx=>C.high hx;by_cases c:k1>0
  .rw [ahF c];by_cases e2:ib+1+k1=b.size
   .rw [ahF (by simpa using e2)];exact aAI (hS,.inl (109,M3.res (.inr (a4d (by simp;lia))),),)
   .rw [aah (by simpa using e2)];have:=C.le;exact Of T hS (M3,7,ha,7,) hi
  .rw [aah c];have e3:k1=0:=7
   subst e3;exact Of T hS (M2,7,ha,7,) hi
theorem VV{gJ st:SortSt}{out:Array Keyed}{ia ib g ac bc m:Nat}(h0:aD.ig prog w A s κ ρ a₀)(hk:kindOf st=κ)(T:BC ρ a₀ a b)(hS:Sm gJ st)(h:Jm ρ a b m out ia ib):wpS (model prog w) A E s (lo1 a b out ia ib g ac bc) (L7 ρ a b (m+1) gJ) st:=by
 let(M,hm,ha,hb,):=h;have ud:ia<a.size:=7
 unfold lo1;refine aaM (GV λst1 Aa=>?_);have hk1:kindOf st1=κ:=Aa.1.trans hk;have rQ:=hS.trans Aa;refine aaM (ZH hb ?_);refine aaM (By hk1 h0 T.ma (T.mb _ 5) 7 7 (Og T.sa _ 0) (λk C=>?_));dsimp only;have fb:∀x∈b.toList.drop ib,ρ.g b[ib]<=ρ.g x:=λx hx=>HJ hb (acZ (drop_sublist _ _) T.sb) hx;have M3:=M.jE k (λt ht x hx=>aeM (C.low ht) (fb x hx));rw[<-Lj,<-arA]at M3;have hi:∀x∈a.toList.drop (ia+k),ρ.g b[ib]<=ρ.g x:=λx hx=>C.high hx;have:=C.le;by_cases c:k>0
 .rw [ahF c];by_cases e2:ia+k+1=a.size
  .rw [ahF (by simpa using e2)];exact aAI (rQ,.inl (109,M3.last T.last e2,),)
  .rw [aah (by simpa using e2)];by_cases e3:ia+k=a.size
   .rw [ahF (by simpa using e3)];exact aAI (rQ,.inl (109,M3.res (.inl (a4d (by simp;lia))),),)
   .rw [aah (by simpa using e3)];exact Oe h0 hk1 T rQ (M3,7,7,hb,) hi
 .rw [aah c];have e3:k=0:=7
  subst e3;exact Oe h0 hk1 T rQ (M,7,ha,hb,) hi
def Rq(ρ:aD.RR)(a b:Array Keyed)(m:Nat)(c:xu):Prop:=(∃r q,c=(!r,q)/\Res ρ a.toList b.toList r)\/∃out ia ib k k1,c=(none,out,ia,ib,k,k1)/\Jm ρ a b m out ia ib
theorem VU{st:SortSt}{out:Array Keyed}{mg ia ib ac bc m:Nat}(h0:aD.ig prog w A s κ ρ a₀)(hk:kindOf st=κ)(T:BC ρ a₀ a b)(h:Jm ρ a b m out ia ib):wpS (model prog w) A E s (F1 a b mg (none,out,ia,ib,ac,bc)) (λr st'=>st'=st/\match r with
  | .done c=>Rq ρ a b (m+1) c
  | .yield c=>∃out ia ib k k1,c=(none,out,ia,ib,k,k1)/\Jm ρ a b (m+1) out ia ib) st:=by
 let(M,hm,ha,hb,):=h;have ud:ia<a.size:=7
 have fa:∀x∈a.toList.drop ia,ρ.g a[ia]<=ρ.g x:=λx hx=>HJ ud (acZ (drop_sublist _ _) T.sa) hx;have fb:∀x∈b.toList.drop ib,ρ.g b[ib]<=ρ.g x:=λx hx=>HJ hb (acZ (drop_sublist _ _) T.sb) hx;unfold F1;dsimp only;refine aaM (ZH hb (aaM (ZH ud (aaM (mZ hk h0 (T.mb _ 5) (T.ma _ 5) ?_)))));dsimp only;by_cases c:ρ.g b[ib]<ρ.g a[ia]
 .rw [anN c,ahF 8];refine aaM (ZH hb ?_);have M2:=M.jH hb (λx hx=>by have:=fa x hx;lia);by_cases e:ib+1=b.size
  .rw [ahF (by simpa using e)];exact aAI (8,.inl (109,M2.res (.inr (a4d (by simp;lia))),),)
  .rw [aah (by simpa using e)];have J:Jm ρ a b (m+1) (out.push b[ib]) ia (ib+1):=(M2,7,ha,7,);by_cases c2:bc+1 ≥ mg
   .rw [ahF c2];exact aAI (8,.inr (165,J,),)
   .rw [aah c2];exact aAI (293,J,)
 .rw [alG c,aah 5];refine aaM (ZH ud ?_);have M2:=M.jI ud (λx hx=>by have:=fb x hx;lia);by_cases e:ia+1+1=a.size
  .rw [ahF (by simpa using e)];exact aAI (8,.inl (109,M2.last T.last e,),)
  .rw [aah (by simpa using e)];have J:Jm ρ a b (m+1) (out.push a[ia]) (ia+1) ib:=(M2,7,7,hb,);by_cases c2:ac+1 ≥ mg
   .rw [ahF c2];exact aAI (8,.inr (165,J,),)
   .rw [aah c2];exact aAI (293,J,)
theorem Jm.weak{m m':Nat}{out:Array Keyed}{ia ib:Nat}(h:Jm ρ a b m out ia ib)(hm:m'<=m):Jm ρ a b m' out ia ib:=(h.1,by have:=h.2.1;lia,h.2.2.1,h.2.2.2,)
theorem VT{st:SortSt}{out:Array Keyed}{ia ib g m:Nat}(h0:aD.ig prog w A s κ ρ a₀)(hk:kindOf st=κ)(T:BC ρ a₀ a b)(h:Jm ρ a b m out ia ib):wpS (model prog w) A E s (F0 a b (none,out,ia,ib,g)) (λr st'=>Sm st st'/\match r with
  | .done c=>∃r q,c=(!r,q)/\Res ρ a.toList b.toList r
  | .yield c=>∃out ia ib g,c=(none,out,ia,ib,g)/\Jm ρ a b (m+1) out ia ib) st:=by
 have pos:0<a.size+b.size:=by have:=h.2.2.1;lia
 unfold F0;dsimp only;refine aaM (aU8 (ang (I:=λx c st2=>st2=st/\∃out ia ib k k1,c=(none,out,ia,ib,k,k1)/\Jm ρ a b (m+x) out ia ib) (Q:=λc st2=>st2=st/\Rq ρ a b (m+1) c) ?turn ?last ?first) ?after)
 case first=>exact(293,h,)
 case last=>
  rintro c st2 ⟨rfl,out,ia,ib,k,k1,rfl,J⟩;exact(8,.inr (165,J.weak 7,),)
 case turn=>
  rintro x c st2 _ hx ⟨rfl,out,ia,ib,k,k1,rfl,J⟩;refine aU8 (VU h0 hk T J) ?_;rintro r st3 ⟨rfl,hr⟩;cases r with
  |done c=>
   refine(8,?_,);rcases hr with hr|⟨out,ia,ib,k,k1,rfl,J⟩
   .exact .inl hr
   .exact .inr (165,J.weak 7,)
  |yield c=>exact(8,hr,)
 case after=>
  rintro c st2 ⟨rfl,hc⟩;rcases hc with⟨r,q,rfl,R⟩|⟨out,ia,ib,k,k1,rfl,J⟩
  .exact aAI (Sm.refl _,109,R,)
  .dsimp only;refine aaM (wpS_lift (aJI (8,?_,)));refine aaM (aU8 (ang (I:=λx c st3=>Sm st2 st3/\∃out ia ib g k k1,c=(none,out,ia,ib,g,k,k1)/\Jm ρ a b (m+x) out ia ib) (Q:=λc st3=>Sm st2 st3/\Rg ρ a b (m+1) c) ?jturn ?jlast ?jfirst) ?jafter)
   case jfirst=>exact(Sm.refl _,229,J.weak 7,)
   case jlast=>
    rintro c st3 ⟨hS,out,ia,ib,g,k,k1,rfl,J⟩;exact(hS,.inr (229,J.weak 7,),)
   case jturn=>
    rintro x c st3 _ hx ⟨hS,out,ia,ib,g,k,k1,rfl,J⟩;have JM:kindOf st3=κ:=hS.1.trans hk;dsimp only;rw[show(if g>1 then lo1 a b out ia ib (g-1) k k1 else lo1 a b out ia ib g k k1)=lo1 a b out ia ib (if g>1 then g-1 else g) k k1 by split <;> rfl];refine aU8 (VV h0 JM T hS J) ?_;rintro r cK ⟨uo,hr⟩;cases r with
    |done c=>
     refine(uo,?_,);rcases hr with hr|⟨out,ia,ib,g,k,k1,rfl,J⟩
     .exact .inl hr
     .exact .inr (229,J.weak 7,)
    |yield c=>exact(uo,hr,)
   case jafter=>
    rintro c st3 ⟨hS,hc⟩;rcases hc with⟨r,q,rfl,R⟩|⟨out,ia,ib,g,k,k1,rfl,J⟩
    .exact aAI (hS,109,R,)
    .refine aaM (GV λcK uo=>aAI (hS.trans uo,133,J,))
theorem YX{st:SortSt}{Q:Array Keyed->SortSt->Prop}(h0:aD.ig prog w A s κ ρ a₀)(hk:kindOf st=κ)(T:BC ρ a₀ a b)(ha:0<a.size)(hb:0<b.size)(hf:∀x∈a.toList,ρ.g b[0]<=ρ.g x)
  (h:∀r st',Sm st st'->Res ρ a.toList b.toList r->Q r st'):wpS (model prog w) A E s (Lr a b) Q st:=by
 refine YY _ _ ?_;refine aaM (wpS_lift (aJI (8,?_,)));refine aaM (ZH hb ?_);have M0:MI ρ a.toList b.toList (#[]:Array Keyed).toList 0 0:=(5,by simpa using T.sa,by simpa using T.sb,);have M1:MI ρ a.toList b.toList (#[b[0]]:Array Keyed).toList 0 1:=M0.jH hb (λx hx=>hf x (by simpa using hx));by_cases e1:1=b.size
 .rw [ahF (by simpa using e1)];exact aAI (h _ _ (Sm.refl _) (M1.res (.inr (a4d (by simp;lia)))))
 .rw [aah (by simpa using e1)];by_cases e2:0+1=a.size
  .rw [ahF (by simpa using e2)];exact aAI (h _ _ (Sm.refl _) (M1.last T.last e2))
  .rw [aah (by simpa using e2)];refine aaM (aOc ?_);refine aaM (aU8 (ang (I:=λx c st2=>Sm st st2/\∃out ia ib g,c=(none,out,ia,ib,g)/\Jm ρ a b (x+1) out ia ib) (Q:=λc st2=>Sm st st2/\∃r q,c=(!r,q)/\Res ρ a.toList b.toList r) ?turn ?last ?first) ?after)
   case first=>exact(Sm.refl _,133,M1,7,7,7,)
   case last=>
    rintro c st2 ⟨_,out,ia,ib,g,rfl,J⟩;have:=J.2.1;have:=J.2.2.1;have:=J.2.2.2;lia
   case turn=>
    rintro x c st2 _ hx ⟨hS,out,ia,ib,g,rfl,J⟩;refine aU8 (VT h0 (hS.1.trans hk) T J) ?_;rintro r st3 ⟨z9,hr⟩;cases r with
    |done c=>exact(hS.trans z9,hr,)
    |yield c=>exact(hS.trans z9,hr,)
   case after=>
    rintro c st2 ⟨hS,r,q,rfl,R⟩;exact aAI (h r st2 hS R)
end
structure MH(ρ:aD.RR)(A B O:List Keyed)(na nb:Nat):Prop where
 perm:(A.take na++B.take nb++O).Perm (A++B)
 sa:(A.take na++O).Pairwise (Lk ρ)
 sb:(B.take nb++O).Pairwise (Lk ρ)
section
variable{ρ:aD.RR}{A B O:List Keyed}{na nb:Nat}
theorem MH.gy(h:MH ρ A B O na nb)(k:Nat)(hkn:k<=nb)(hk:∀t∈(B.take nb).drop k,∀x∈A.take na,ρ.g x<=ρ.g t):MH ρ A B ((B.take nb).drop k++O) na k:=by
 have e:B.take k=(B.take nb).take k:=by rw[List.take_take,Nat.min_eq_left hkn]
 have s:=h.sb;have p:=h.perm;rw[<-agK k (B.take nb),bd0]at s;rw[<-agK k (B.take nb)]at p;refine(?_,?_,?_,)
 .rw [e];refine List.Perm.trans ?_ p;simp only[bd0];exact List.Perm.refl _
 .have s1:=(ahh.1 s).2.1;have a1:=ahh.1 h.sa;refine ahh.2 (a1.1,s1,λx hx y hy=>?_,);rcases a6S.1 hy with hy|hy
  .exact hk y hy x hx
  .exact a1.2.2 x hx y hy
 .rw [e];exact s
theorem MH.jE(h:MH ρ A B O na nb)(k:Nat)(hkn:k<=na)(hk:∀t∈(A.take na).drop k,∀x∈B.take nb,ρ.g x<=ρ.g t):MH ρ A B ((A.take na).drop k++O) k nb:=by
 have h2:MH ρ B A O nb na:=(List.Perm.trans (aSM.append_right _) (List.Perm.trans h.perm aSM),h.sb,h.sa,);have h3:=h2.gy k hkn hk;exact(List.Perm.trans (aSM.append_right _) (List.Perm.trans h3.perm aSM),h3.sb,h3.sa,)
theorem qf(a:Array Keyed)(k:Nat):(a.extract 0 k).toList=a.toList.take k:=by
 rw[aNi,List.extract_eq_drop_take,List.drop_zero,Nat.sub_zero]
theorem Bf(a:Array Keyed)(i k:Nat):(a.extract i k).toList=(a.toList.take k).drop i:=by
 rw[aNi,List.extract_eq_drop_take,drop_take]
theorem MH.res{a b out:Array Keyed}(h:MH ρ a.toList b.toList out.toList.reverse na nb)(he:na=0\/nb=0):Res ρ a.toList b.toList (a.extract 0 na++b.extract 0 nb++out.reverse):=by
 unfold Res;rw[arA,arA,qf,qf,aeD];refine(h.perm,?_,);rcases he with rfl|rfl
 .rw [take_zero,List.nil_append];exact h.sb
 .rw [take_zero,aZr];exact h.sa
theorem MH.first{a b out:Array Keyed}(h:MH ρ a.toList b.toList out.toList.reverse na 1)(hl:∀y∈b.toList.take 1,∀x∈a.toList,ρ.g y<=ρ.g x):Res ρ a.toList b.toList (b.extract 0 1++a.extract 0 na++out.reverse):=by
 have h2:=h.jE 0 (agn _) (λt ht x hx=>hl x hx t (aKa (aJt ht)));rw[List.drop_zero]at h2;unfold Res;rw[arA,arA,qf,qf,aeD];have p:=h2.perm;have s:=h2.sb;rw[take_zero,List.nil_append,<-bd0]at p;rw[<-bd0]at s;exact(p,s,)
end
noncomputable abbrev rL:=Option (Array Keyed)×Nat×Nat×Array Keyed×Nat×Nat×Nat
noncomputable def Gv(a b:Array Keyed)(na nb:Nat)(out:Array Keyed)(g k k1:Nat):StateT SortSt Sem (ForInStep rL):=do
 let x <-elem' a (na-1)
 if na-1 ==0 then pure (.done (!(a.extract 0 (na-1)++b.extract 0 nb++(out.push x).reverse),na-1,nb,out.push x,g,k,k1))
 else if k<07 && k1<07 then pure (.done (none,na-1,nb,out.push x,g,k,k1)) else pure (.yield (none,na-1,nb,out.push x,g,k,k1))
noncomputable def hi2(a b:Array Keyed)(na nb:Nat)(out:Array Keyed)(g k bc:Nat):StateT SortSt Sem (ForInStep rL):=do
 let x <-elem' b (nb-1)
 if nb-1 ==1 then pure (.done (!(b.extract 0 (nb-1)++a.extract 0 na++(out.push x).reverse),na,nb-1,out.push x,g,k,bc))
 else do
  let y <-elem' a (na-1)
  let r <-Bs true y b 0 (nb-1) (nb-1-1)
  match r with
  |some i=>
   if nb-1-i>0 then
    if i ==1 then pure (.done (!(b.extract 0 i++a.extract 0 na++(out.push x++(b.extract i (nb-1)).reverse).reverse),na,i,out.push x++(b.extract i (nb-1)).reverse,g,k,nb-1-i))
    else if i ==0 then pure (.done (!(a.extract 0 na++b.extract 0 i++(out.push x++(b.extract i (nb-1)).reverse).reverse),na,i,out.push x++(b.extract i (nb-1)).reverse,g,k,nb-1-i))
    else Gv a b na i (out.push x++(b.extract i (nb-1)).reverse) g k (nb-1-i)
   else Gv a b na (nb-1) (out.push x) g k (nb-1-i)
  |none=>pure (.done (!(a.extract 0 na++b.extract 0 (nb-1)++(out.push x).reverse),na,nb-1,out.push x,g,k,bc))
noncomputable def hi1(a b:Array Keyed)(na nb:Nat)(out:Array Keyed)(g ac bc:Nat):StateT SortSt Sem (ForInStep rL):=do
 Bv g
 let y <-elem' b (nb-1)
 let r <-Bs false y a 0 na (na-1)
 match r with
 |some i=>
  if na-i>0 then
   if i ==0 then pure (.done (!(a.extract 0 i++b.extract 0 nb++(out++(a.extract i na).reverse).reverse),i,nb,out++(a.extract i na).reverse,g,na-i,bc))
   else hi2 a b i nb (out++(a.extract i na).reverse) g (na-i) bc
  else hi2 a b na nb out g (na-i) bc
 |none=>pure (.done (!(a.extract 0 na++b.extract 0 nb++out.reverse),na,nb,out,g,ac,bc))
noncomputable abbrev xo:=Option (Array Keyed)×Nat×Nat×Array Keyed×Nat×Nat
noncomputable def Gu(a b:Array Keyed)(mg:Nat)(c:xo):StateT SortSt Sem (ForInStep xo):=do
 let y <-elem' b (c.2.2.1-1)
 let x <-elem' a (c.2.1-1)
 let r <-lt' y x
 match r with
 |some w=>
  if w then do
   let x <-elem' a (c.2.1-1)
   if c.2.1-1 ==0 then pure (.done (!(a.extract 0 (c.2.1-1)++b.extract 0 c.2.2.1++(c.2.2.2.1.push x).reverse),c.2.1-1,c.2.2.1,c.2.2.2.1.push x,c.2.2.2.2.1+1,0))
   else if c.2.2.2.2.1+1 ≥ mg then pure (.done (none,c.2.1-1,c.2.2.1,c.2.2.2.1.push x,c.2.2.2.2.1+1,0))
   else pure (.yield (none,c.2.1-1,c.2.2.1,c.2.2.2.1.push x,c.2.2.2.2.1+1,0))
  else do
   let y <-elem' b (c.2.2.1-1)
   if c.2.2.1-1 ==1 then pure (.done (!(b.extract 0 (c.2.2.1-1)++a.extract 0 c.2.1++(c.2.2.2.1.push y).reverse),c.2.1,c.2.2.1-1,c.2.2.2.1.push y,0,c.2.2.2.2.2+1))
   else if c.2.2.2.2.2+1 ≥ mg then pure (.done (none,c.2.1,c.2.2.1-1,c.2.2.2.1.push y,0,c.2.2.2.2.2+1))
   else pure (.yield (none,c.2.1,c.2.2.1-1,c.2.2.2.1.push y,0,c.2.2.2.2.2+1))
 |none=>pure (.done (!(a.extract 0 c.2.1++b.extract 0 c.2.2.1++c.2.2.2.1.reverse),c.2.1,c.2.2.1,c.2.2.2.1,c.2.2.2.2.1,c.2.2.2.2.2))
noncomputable abbrev AF:=Option (Array Keyed)×Nat×Nat×Array Keyed×Nat
noncomputable def F9(a b:Array Keyed)(c:AF):StateT SortSt Sem (ForInStep AF):=do
 let d <-forIn [0:a.size+b.size] ((none,c.2.1,c.2.2.1,c.2.2.2.1,0,0):xo) (λ_ d=>Gu a b c.2.2.2.2 d)
 match d.1 with
 |some r=>pure (.done (!r,d.2.1,d.2.2.1,d.2.2.2.1,c.2.2.2.2))
 |none=>do
  rule "list.sort.gallop"
  let e <-forIn [0:a.size+b.size] ((none,d.2.1,d.2.2.1,d.2.2.2.1,c.2.2.2.2+1,d.2.2.2.2.1,d.2.2.2.2.2):rL) (λ_ e=>if e.2.2.2.2.1>1 then hi1 a b e.2.1 e.2.2.1 e.2.2.2.1 (e.2.2.2.2.1-1) e.2.2.2.2.2.1 e.2.2.2.2.2.2 else hi1 a b e.2.1 e.2.2.1 e.2.2.2.1 e.2.2.2.2.1 e.2.2.2.2.2.1 e.2.2.2.2.2.2)
  match e.1 with
  |some r=>pure (.done (!r,e.2.1,e.2.2.1,e.2.2.2.1,e.2.2.2.2.1))
  |none=>do
   Bv (e.2.2.2.2.1+1)
   pure (.yield (none,e.2.1,e.2.2.1,e.2.2.2.1,e.2.2.2.2.1+1))
theorem YW{M:Model}{A:Around}{E:Value->Shared->Prop}{s:Shared}{Q:Array Keyed->SortSt->Prop}{st:SortSt}(a b:Array Keyed)(h:wpS M A E s (do
 rule "list.sort.merge-hi"
 let x <-elem' a (a.size-1)
 if a.size-1 ==0 then pure (a.extract 0 (a.size-1)++b.extract 0 b.size++#[x].reverse)
 else if b.size ==1 then pure (b.extract 0 b.size++a.extract 0 (a.size-1)++#[x].reverse)
 else do
  let st <-get
  let c <-forIn [0:a.size+b.size] ((none,a.size-1,b.size,#[x],gallopOf st):AF) (λ_ c=>F9 a b c)
  match c.1 with
  |some r=>pure r
  |none=>unsupported "internal:list.sort.merge-bound") Q st):wpS M A E s (Lq a b) Q st:=by
 show wpAny M A (Lq a b st) _ E s
 wp_delta
 wp_delta
 refine uF ?_ h;dsimp only;refine bcR λ_=>bcR λx=>?_;congr 1
 congr 1
 refine bcR λst=>?_;congr 1
 .congr 1
  funext _ c
  unfold F9;congr 1
  .congr 1
   funext _ d
   unfold Gu;refine bcR λy=>bcR λx=>bcR λr=>?_;cases r with
   |some w=>
    cases w with
    |true=>rfl
    |false=>rfl
   |none=>rfl
  .funext d
   cases d.1 with
   |some r=>rfl
   |none=>
    dsimp only;refine bcR λ_=>?_;congr 1
    .congr 1
     funext _ e
     congr 1
     all_goals
      unfold hi1;refine bcR λ_=>bcR λy=>bcR λr=>?_;cases r with
      |none=>rfl
      |some k=>
       dsimp only;congr 1
       .congr 1
        unfold hi2;refine bcR λx=>?_;congr 1
        refine bcR λy=>bcR λr=>?_;cases r with
        |none=>rfl
        |some k1=>rfl
       .unfold hi2;refine bcR λx=>?_;congr 1
        refine bcR λy=>bcR λr=>?_;cases r with
        |none=>rfl
        |some k1=>rfl
    .funext e
     cases e.1 with
     |some r=>rfl
     |none=>rfl
 .funext c
  cases c.1 with
  |some r=>rfl
  |none=>rfl
section
variable{prog:Program}{w:World}{A:Around}{E:Value->Shared->Prop}{s:Shared}{a₀:Array Keyed}{κ:SortKind}{ρ:aD.RR}{a b:Array Keyed}
theorem KY(h:a.toList.Pairwise (Lk ρ)){n:Nat}(hn:n<=a.size):dF ρ a 0 (0+n):=by
 intro x y hx hxy hy;have hy':y<a.size:=7
 rw[bw (show x<a.size by lia),bw hy'];by_cases e:x=y
 .subst e;lia
 .exact amg.1 h x y (by simpa using(show x<a.size by lia)) (by simpa using hy') 7
theorem KW{n:Nat}{x:Keyed}(h:x∈a.toList.take n):∃j,j<n/\∃hj:j<a.size,x=a[j]:=by
 let(j,hj,e,):=bbR.1 h;rw[bby,aou]at hj;refine(j,7,7,?_,);rw[<-e,getElem_take,aQW]
theorem Li{i n:Nat}{x:Keyed}(h:x∈(a.toList.take n).drop i):∃j,i<=j/\j<n/\∃hj:j<a.size,x=a[j]:=by
 let(j,hj,e,):=bbR.1 h;rw[aPq,bby,aou]at hj;refine(i+j,7,7,7,?_,);rw[<-e,getElem_drop,getElem_take,aQW]
theorem Cut.Dn{left:Bool}{kv:Int}{n k:Nat}(h:Cut ρ left kv a 0 n k){x:Keyed}(hx:x∈a.toList.take k):ρ.g x<=kv:=by
 let(j,hj,hs,rfl,):=KW hx;have:=h.lo j hj;unfold Bd at this;simp only[apV]at this;rw[bw hs]at this;cases left with
 |true=>simp only[an9,auA]at this;lia
 |false=>simp only[axr,aGD,aOI,a3H]at this;lia
theorem Cut.yo{left:Bool}{kv:Int}{n k:Nat}(h:Cut ρ left kv a 0 n k){x:Keyed}(hx:x∈(a.toList.take n).drop k):kv<=ρ.g x:=by
 let(j,hk,hj,hs,rfl,):=Li hx;have:=h.hi j hk hj;unfold Bd at this;simp only[apV]at this;rw[bw hs]at this;cases left with
 |true=>simp only[an9,a3H]at this;lia
 |false=>simp only[axr,aGD,Bool.not_eq_false',auA]at this;lia
theorem HH{n:Nat}(hn:0<n)(hs:n<=a.size):(a.toList.take n).drop (n-1)=[a[n-1]]:=by
 rw[drop_take,show n-(n-1)=1 by lia];exact EK 7
theorem Hf{n:Nat}(hn:0<n)(hs:n<=a.size)(h:a.toList.Pairwise (Lk ρ)){x:Keyed}(hx:x∈a.toList.take n):ρ.g x<=ρ.g a[n-1]:=by
 let(j,hj,hs2,rfl,):=KW hx;have:=KY h hs j (n-1) 7 7 7;rw[bw hs2,bw (show n-1<a.size by lia)]at this;exact this
theorem MH.first'{out:Array Keyed}{na nb:Nat}(h:MH ρ a.toList b.toList out.toList.reverse na nb)(hl:∀y∈b.toList.take 1,∀x∈a.toList,ρ.g y<=ρ.g x)(e:nb=1):Res ρ a.toList b.toList (b.extract 0 nb++a.extract 0 na++out.reverse):=by
 subst e;exact h.first hl
structure BD(ρ:aD.RR)(a₀ a b:Array Keyed):Prop where
 ma:∀p∈a.toList,p∈a₀.toList
 mb:∀p∈b.toList,p∈a₀.toList
 sa:a.toList.Pairwise (Lk ρ)
 sb:b.toList.Pairwise (Lk ρ)
 first:∀y∈b.toList.take 1,∀x∈a.toList,ρ.g y<=ρ.g x
structure Jh(ρ:aD.RR)(a b:Array Keyed)(m na nb:Nat)(out:Array Keyed):Prop where
 M:MH ρ a.toList b.toList out.toList.reverse na nb
 bd:na+nb+m<=a.size+b.size
 la:na<=a.size
 lb:nb<=b.size
 pa:1<=na
 pb:2<=nb
theorem Jh.weak{m m' na nb:Nat}{out:Array Keyed}(h:Jh ρ a b m na nb out)(hm:m'<=m):Jh ρ a b m' na nb out:=(h.M,by have:=h.bd;lia,h.la,h.lb,h.pa,h.pb,)
def Ri(ρ:aD.RR)(a b:Array Keyed)(m:Nat)(c:rL):Prop:=(∃r q,c=(!r,q)/\Res ρ a.toList b.toList r)\/∃na nb out g k k1,c=(none,na,nb,out,g,k,k1)/\Jh ρ a b m na nb out
def Ma(ρ:aD.RR)(a b:Array Keyed)(m:Nat)(st:SortSt)(r:ForInStep rL)(st':SortSt):Prop:=Sm st st'/\match r with
 | .done c=>Ri ρ a b m c
 | .yield c=>∃na nb out g k k1,c=(none,na,nb,out,g,k,k1)/\Jh ρ a b m na nb out
theorem MH.jI{out:Array Keyed}{na nb:Nat}(h:MH ρ a.toList b.toList out.toList.reverse na nb)(hn:0<na)(hs:na<=a.size)(hk:∀x∈b.toList.take nb,ρ.g x<=ρ.g a[na-1]):MH ρ a.toList b.toList (out.push a[na-1]).toList.reverse (na-1) nb:=by
 have:=h.jE (na-1) 7 (by rw[HH hn hs];intro t ht x hx;rw[aOT.1 ht];exact hk x hx);rw[HH hn hs]at this;rw[awA,af2];exact this
theorem MH.jH{out:Array Keyed}{na nb:Nat}(h:MH ρ a.toList b.toList out.toList.reverse na nb)(hn:0<nb)(hs:nb<=b.size)(hk:∀x∈a.toList.take na,ρ.g x<=ρ.g b[nb-1]):MH ρ a.toList b.toList (out.push b[nb-1]).toList.reverse na (nb-1):=by
 have:=h.gy (nb-1) 7 (by rw[HH hn hs];intro t ht x hx;rw[aOT.1 ht];exact hk x hx);rw[HH hn hs]at this;rw[awA,af2];exact this
theorem Od(out:Array Keyed)(i n:Nat):(out++(a.extract i n).reverse).toList.reverse=(a.toList.take n).drop i++out.toList.reverse:=by
 rw[arA,af2,aeD,List.reverse_reverse,Bf]
theorem Oc{gJ st:SortSt}{out:Array Keyed}{na nb g k k1 m:Nat}(T:BD ρ a₀ a b)(hS:Sm gJ st)(h:Jh ρ a b m na nb out)(hk:∀x∈b.toList.take nb,ρ.g x<=ρ.g (a[na-1]'(by have:=h.pa;have:=h.la;lia))):wpS (model prog w) A E s (Gv a b na nb out g k k1) (Ma ρ a b (m+1) gJ) st:=by
 let(M,bd,la,lb,pa,pb,):=h;unfold Gv;refine aaM (ZH (show na-1<a.size by lia) ?_);have M2:=M.jI 7 la hk;by_cases e:na-1=0
 .rw [ahF (by simpa using e)];exact aAI (hS,.inl (109,M2.res (.inl e),),)
 .rw [aah (by simpa using e)];have J:Jh ρ a b (m+1) (na-1) nb (out.push a[na-1]):=(M2,7,7,lb,7,pb,);by_cases c:(decide (k<07) && decide (k1<07))=true
  .rw [ahF c];exact aAI (hS,.inr (229,J,),)
  .rw [aah c];exact aAI (hS,229,J,)
theorem Ob{gJ st:SortSt}{out:Array Keyed}{na nb g k bc m:Nat}(h0:aD.ig prog w A s κ ρ a₀)(hk:kindOf st=κ)(T:BD ρ a₀ a b)(hS:Sm gJ st)(h:Jh ρ a b m na nb out)(hq:∀x∈a.toList.take na,ρ.g x<=ρ.g (b[nb-1]'(by have:=h.pb;have:=h.lb;lia))):wpS (model prog w) A E s (hi2 a b na nb out g k bc) (Ma ρ a b (m+1) gJ) st:=by
 let(M,bd,la,lb,pa,pb,):=h;unfold hi2;refine aaM (ZH (show nb-1<b.size by lia) ?_);have M2:=M.jH 7 lb hq;by_cases e:nb-1=1
 .rw [ahF (by simpa using e)];exact aAI (hS,.inl (109,M2.first' T.first e,),)
 .rw [aah (by simpa using e)];refine aaM (ZH (show na-1<a.size by lia) ?_);refine aaM (By hk h0 T.mb (T.ma _ 5) 7 7 (KY T.sb 7) (λi C=>?_));dsimp only;have fa:∀x∈a.toList.take na,ρ.g x<=ρ.g a[na-1]:=λx hx=>Hf 7 la T.sa hx;have ci:=C.le;have M3:=M2.gy i 7 (λt ht x hx=>aeM (fa x hx) (C.yo ht));rw[<-Od]at M3;have hi:∀x∈b.toList.take i,ρ.g x<=ρ.g a[na-1]:=λx hx=>C.Dn hx;by_cases c:nb-1-i>0
  .rw [ahF c];by_cases e2:i=1
   .rw [ahF (by simpa using e2)];exact aAI (hS,.inl (109,M3.first' T.first e2,),)
   .rw [aah (by simpa using e2)];by_cases e3:i=0
    .rw [ahF (by simpa using e3)];exact aAI (hS,.inl (109,M3.res (.inr e3),),)
    .rw [aah (by simpa using e3)];exact Oc T hS (M3,7,la,7,pa,7,) hi
  .rw [aah c];have e3:i=nb-1:=7
   subst e3;exact Oc T hS (M2,7,la,7,pa,7,) hi
theorem VS{gJ st:SortSt}{out:Array Keyed}{na nb g ac bc m:Nat}(h0:aD.ig prog w A s κ ρ a₀)(hk:kindOf st=κ)(T:BD ρ a₀ a b)(hS:Sm gJ st)(h:Jh ρ a b m na nb out):wpS (model prog w) A E s (hi1 a b na nb out g ac bc) (Ma ρ a b (m+1) gJ) st:=by
 let(M,bd,la,lb,pa,pb,):=h;unfold hi1;refine aaM (GV λst1 Aa=>?_);have hk1:kindOf st1=κ:=Aa.1.trans hk;have rQ:=hS.trans Aa;refine aaM (ZH (show nb-1<b.size by lia) ?_);refine aaM (By hk1 h0 T.ma (T.mb _ 5) 7 7 (KY T.sa la) (λi C=>?_));dsimp only;have fb:∀x∈b.toList.take nb,ρ.g x<=ρ.g b[nb-1]:=λx hx=>Hf 7 lb T.sb hx;have ci:=C.le;have M3:=M.jE i ci (λt ht x hx=>aeM (fb x hx) (C.yo ht));rw[<-Od]at M3;have hi:∀x∈a.toList.take i,ρ.g x<=ρ.g b[nb-1]:=λx hx=>C.Dn hx;by_cases c:na-i>0
 .rw [ahF c];by_cases e2:i=0
  .rw [ahF (by simpa using e2)];exact aAI (rQ,.inl (109,M3.res (.inl e2),),)
  .rw [aah (by simpa using e2)];exact Ob h0 hk1 T rQ (M3,7,7,lb,7,pb,) hi
 .rw [aah c];have e3:i=na:=7
  subst e3;exact Ob h0 hk1 T rQ (M,7,la,lb,pa,pb,) hi
def Rj(ρ:aD.RR)(a b:Array Keyed)(m:Nat)(c:xo):Prop:=(∃r q,c=(!r,q)/\Res ρ a.toList b.toList r)\/∃na nb out k k1,c=(none,na,nb,out,k,k1)/\Jh ρ a b m na nb out
theorem VR{st:SortSt}{out:Array Keyed}{mg na nb ac bc m:Nat}(h0:aD.ig prog w A s κ ρ a₀)(hk:kindOf st=κ)(T:BD ρ a₀ a b)(h:Jh ρ a b m na nb out):wpS (model prog w) A E s (Gu a b mg (none,na,nb,out,ac,bc)) (λr st'=>st'=st/\match r with
  | .done c=>Rj ρ a b (m+1) c
  | .yield c=>∃na nb out k k1,c=(none,na,nb,out,k,k1)/\Jh ρ a b (m+1) na nb out) st:=by
 let(M,bd,la,lb,pa,pb,):=h;have fa:∀x∈a.toList.take na,ρ.g x<=ρ.g a[na-1]:=λx hx=>Hf 7 la T.sa hx;have fb:∀x∈b.toList.take nb,ρ.g x<=ρ.g b[nb-1]:=λx hx=>Hf 7 lb T.sb hx;have ha:na-1<a.size:=7
 have hb:nb-1<b.size:=7
 unfold Gu;dsimp only;refine aaM (ZH hb (aaM (ZH ha (aaM (mZ hk h0 (T.mb _ 5) (T.ma _ 5) ?_)))));dsimp only;by_cases c:ρ.g b[nb-1]<ρ.g a[na-1]
 .rw [anN c,ahF 8];refine aaM (ZH ha ?_);have M2:=M.jI 7 la (λx hx=>by have:=fb x hx;lia);by_cases e:na-1=0
  .rw [ahF (by simpa using e)];exact aAI (8,.inl (109,M2.res (.inl e),),)
  .rw [aah (by simpa using e)];have J:Jh ρ a b (m+1) (na-1) nb (out.push a[na-1]):=(M2,7,7,lb,7,pb,);by_cases c2:ac+1 ≥ mg
   .rw [ahF c2];exact aAI (8,.inr (165,J,),)
   .rw [aah c2];exact aAI (293,J,)
 .rw [alG c,aah 5];refine aaM (ZH hb ?_);have M2:=M.jH 7 lb (λx hx=>by have:=fa x hx;lia);by_cases e:nb-1=1
  .rw [ahF (by simpa using e)];exact aAI (8,.inl (109,M2.first' T.first e,),)
  .rw [aah (by simpa using e)];have J:Jh ρ a b (m+1) na (nb-1) (out.push b[nb-1]):=(M2,7,la,7,pa,7,);by_cases c2:bc+1 ≥ mg
   .rw [ahF c2];exact aAI (8,.inr (165,J,),)
   .rw [aah c2];exact aAI (293,J,)
theorem VQ{st:SortSt}{out:Array Keyed}{na nb g m:Nat}(h0:aD.ig prog w A s κ ρ a₀)(hk:kindOf st=κ)(T:BD ρ a₀ a b)(h:Jh ρ a b m na nb out):wpS (model prog w) A E s (F9 a b (none,na,nb,out,g)) (λr st'=>Sm st st'/\match r with
  | .done c=>∃r q,c=(!r,q)/\Res ρ a.toList b.toList r
  | .yield c=>∃na nb out g,c=(none,na,nb,out,g)/\Jh ρ a b (m+1) na nb out) st:=by
 have pos:0<a.size+b.size:=by have:=h.la;have:=h.pa;lia
 unfold F9;dsimp only;refine aaM (aU8 (ang (I:=λx c st2=>st2=st/\∃na nb out k k1,c=(none,na,nb,out,k,k1)/\Jh ρ a b (m+x) na nb out) (Q:=λc st2=>st2=st/\Rj ρ a b (m+1) c) ?turn ?last ?first) ?after)
 case first=>exact(293,h,)
 case last=>
  rintro c st2 ⟨rfl,na,nb,out,k,k1,rfl,J⟩;exact(8,.inr (165,J.weak 7,),)
 case turn=>
  rintro x c st2 _ hx ⟨rfl,na,nb,out,k,k1,rfl,J⟩;refine aU8 (VR h0 hk T J) ?_;rintro r st3 ⟨rfl,hr⟩;cases r with
  |done c=>
   refine(8,?_,);rcases hr with hr|⟨na,nb,out,k,k1,rfl,J⟩
   .exact .inl hr
   .exact .inr (165,J.weak 7,)
  |yield c=>exact(8,hr,)
 case after=>
  rintro c st2 ⟨rfl,hc⟩;rcases hc with⟨r,q,rfl,R⟩|⟨na,nb,out,k,k1,rfl,J⟩
  .exact aAI (Sm.refl _,109,R,)
  .dsimp only;refine aaM (wpS_lift (aJI (8,?_,)));refine aaM (aU8 (ang (I:=λx c st3=>Sm st2 st3/\∃na nb out g k k1,c=(none,na,nb,out,g,k,k1)/\Jh ρ a b (m+x) na nb out) (Q:=λc st3=>Sm st2 st3/\Ri ρ a b (m+1) c) ?jturn ?jlast ?jfirst) ?jafter)
   case jfirst=>exact(Sm.refl _,229,J.weak 7,)
   case jlast=>
    rintro c st3 ⟨hS,na,nb,out,g,k,k1,rfl,J⟩;exact(hS,.inr (229,J.weak 7,),)
   case jturn=>
    rintro x c st3 _ hx ⟨hS,na,nb,out,g,k,k1,rfl,J⟩;have JM:kindOf st3=κ:=hS.1.trans hk;dsimp only;rw[show(if g>1 then hi1 a b na nb out (g-1) k k1 else hi1 a b na nb out g k k1)=hi1 a b na nb out (if g>1 then g-1 else g) k k1 by split <;> rfl];refine aU8 (VS h0 JM T hS J) ?_;rintro r cK ⟨uo,hr⟩;cases r with
    |done c=>
     refine(uo,?_,);rcases hr with hr|⟨na,nb,out,g,k,k1,rfl,J⟩
     .exact .inl hr
     .exact .inr (229,J.weak 7,)
    |yield c=>exact(uo,hr,)
   case jafter=>
    rintro c st3 ⟨hS,hc⟩;rcases hc with⟨r,q,rfl,R⟩|⟨na,nb,out,g,k,k1,rfl,J⟩
    .exact aAI (hS,109,R,)
    .refine aaM (GV λcK uo=>aAI (hS.trans uo,133,J,))
theorem YV{st:SortSt}{Q:Array Keyed->SortSt->Prop}(h0:aD.ig prog w A s κ ρ a₀)(hk:kindOf st=κ)(T:BD ρ a₀ a b)(ha:0<a.size)(hb:0<b.size)(hf:∀x∈b.toList,ρ.g x<=ρ.g a[a.size-1])
  (h:∀r st',Sm st st'->Res ρ a.toList b.toList r->Q r st'):wpS (model prog w) A E s (Lq a b) Q st:=by
 refine YW _ _ ?_;refine aaM (wpS_lift (aJI (8,?_,)));refine aaM (ZH (show a.size-1<a.size by lia) ?_);have ta:a.toList.take a.size=a.toList:=aV1 5;have tb:b.toList.take b.size=b.toList:=aV1 5;have M0:MH ρ a.toList b.toList (#[]:Array Keyed).toList.reverse a.size b.size:=(by rw[ta,tb];simp,by rw[ta];simpa using T.sa,by rw[tb];simpa using T.sb,);have M1:MH ρ a.toList b.toList (#[a[a.size-1]]:Array Keyed).toList.reverse (a.size-1) b.size:=M0.jI ha (bbI _) (λx hx=>hf x (by rw[tb]at hx;exact hx));by_cases e1:a.size-1=0
 .rw [ahF (by simpa using e1)];exact aAI (h _ _ (Sm.refl _) (M1.res (.inl e1)))
 .rw [aah (by simpa using e1)];by_cases e2:b.size=1
  .rw [ahF (by simpa using e2)];exact aAI (h _ _ (Sm.refl _) (M1.first' T.first e2))
  .rw [aah (by simpa using e2)];refine aaM (aOc ?_);refine aaM (aU8 (ang (I:=λx c st2=>Sm st st2/\∃na nb out g,c=(none,na,nb,out,g)/\Jh ρ a b (x+1) na nb out) (Q:=λc st2=>Sm st st2/\∃r q,c=(!r,q)/\Res ρ a.toList b.toList r) ?turn ?last ?first) ?after)
   case first=>exact(Sm.refl _,133,M1,7,7,7,7,7,)
   case last=>
    rintro c st2 ⟨_,na,nb,out,g,rfl,J⟩;have:=J.bd;have:=J.pa;lia
   case turn=>
    rintro x c st2 _ hx ⟨hS,na,nb,out,g,rfl,J⟩;refine aU8 (VQ h0 (hS.1.trans hk) T J) ?_;rintro r st3 ⟨z9,hr⟩;cases r with
    |done c=>exact(hS.trans z9,hr,)
    |yield c=>exact(hS.trans z9,hr,)
   case after=>
    rintro c st2 ⟨hS,r,q,rfl,R⟩;exact aAI (h r st2 hS R)
end
end L2.wR
set_option maxHeartbeats 400000
namespace L2.wR
open PySem PySem.Spec PyProof.Rows
noncomputable def Lp:Nat->StateT SortSt Sem Bool:=sortPriv% PySem.Builtin.mergeAt
noncomputable def layAt(arr:Array Keyed)(at_:Nat)(l:List Keyed)(k:Nat):Array Keyed:=(l.zipIdx k).foldl (λa (p,j)=>a.setIfInBounds (at_+j) p) arr
theorem Hv(arr:Array Keyed)(at_:Nat)(l:List Keyed)(k i:Nat)(h:at_+k+l.length<=arr.size):(layAt arr at_ l k)[i]?=if at_+k<=i/\i<at_+k+l.length then l[i-(at_+k)]? else arr[i]?:=by
 induction l generalizing arr k with
 |nil=>rw[aah 5];rfl
 |cons x l ih=>
  have e:layAt arr at_ (x ::l) k=layAt (arr.setIfInBounds (at_+k) x) at_ l (k+1):=by
   unfold layAt;rw[List.zipIdx_cons,List.foldl_cons]
  simp only[acz]at h ⊢;rw[e,ih (arr.setIfInBounds (at_+k) x) (k+1) (by simp;lia)];by_cases c:at_+k=i
  .subst c;rw[aah 7,ahF 7,aNJ,Array.getElem?_setIfInBounds_self_of_lt 7];rfl
  .by_cases c2:at_+(k+1)<=i/\i<at_+(k+1)+l.length
   .rw [ahF c2,ahF 7,show i-(at_+k)=(i-(at_+(k+1)))+1 by lia,a9b]
   .rw [aah c2,aah 7,Array.getElem?_setIfInBounds_ne c]
theorem Zem(arr:Array Keyed)(at_:Nat)(l:List Keyed)(h:at_+l.length<=arr.size):(layAt arr at_ l 0).toList=arr.toList.take at_++(l++arr.toList.drop (at_+l.length)):=by
 refine aVo λi=>?_;rw[ags,Hv arr at_ l 0 i 7,aiv];have hl:(arr.toList.take at_).length=at_:=by rw[bby,aou];lia
 by_cases c1:i<at_
 .rw [aah 7,ah8 7,List.getElem?_take_of_lt c1,ags]
 .rw [a9d 7,hl];by_cases c2:i<at_+l.length
  .rw [ahF 7,ah8 7]
  .rw [aah 7,a9d 7,getElem?_drop,ags];congr 1
   lia
theorem YU{arr:Array Keyed}{at_ n:Nat}{l:List Keyed}(h:at_+n<=arr.size)(p:l.Perm (arr.extract at_ (at_+n)).toList):(layAt arr at_ l 0).Perm arr:=by
 rw[Lj]at p;have e:l.length=n:=by rw[p.length_eq,bby,aPq,aou];lia
 refine aBx.2 ?_;rw[Zem arr at_ l 7,e];have d:arr.toList=arr.toList.take at_++((arr.toList.drop at_).take n++arr.toList.drop (at_+n)):=by
  rw[<-drop_drop,agK,agK]
 conv=>rhs;rw[d]
 exact(p.append_right _).append_left _
section
variable{prog:Program}{w:World}{A:Around}{E:Value->Shared->Prop}{s:Shared}{a₀:Array Keyed}{κ:SortKind}{ρ:aD.RR}
theorem pw_ex{arr:Array Keyed}{i j:Nat}(hj:j<=arr.size)(h:dF ρ arr i j):(arr.extract i j).toList.Pairwise (Lk ρ):=by
 refine amg.2 λx y hx hy hxy=>?_;simp only[aou,Array.size_extract]at hx hy;have:=h (i+x) (i+y) 7 7 7;rw[bw (show i+x<arr.size by lia),bw (show i+y<arr.size by lia)]at this;simpa[Lk]using this
theorem Oa{arr:Array Keyed}{i j:Nat}{x:Keyed}(h:x∈(arr.extract i j).toList):∃k,i<=k/\k<j/\k<arr.size/\ρ.g x=aD.Kg ρ arr k/\x∈arr.toList:=by
 rw[Bf]at h;let(k,h1,h2,h3,rfl,):=Li h;exact(k,h1,h2,h3,(bw h3).symm,5,)
theorem KU{arr:Array Keyed}{at_:Nat}{l:List Keyed}(h:at_+l.length<=arr.size){i:Nat}(h1:at_<=i)(h2:i<at_+l.length):aD.Kg ρ (layAt arr at_ l 0) i=ρ.g (l[i-at_]'7):=by
 have:=Hv arr at_ l 0 i 7;rw[ahF 7,aiv,aMp 7]at this;unfold aD.Kg;rw[this];rfl
theorem Be{arr:Array Keyed}{at_:Nat}{l:List Keyed}(h:at_+l.length<=arr.size){i:Nat}(h1:i<at_\/at_+l.length<=i):aD.Kg ρ (layAt arr at_ l 0) i=aD.Kg ρ arr i:=by
 have:=Hv arr at_ l 0 i 7;rw[aah 7]at this;unfold aD.Kg;rw[this]
end
end L2.wR
set_option maxHeartbeats 1000000
namespace L2.wR
open PySem PySem.Spec PyProof.Rows
section
variable{prog:Program}{w:World}{A:Around}{E:Value->Shared->Prop}{s:Shared}{a₀:Array Keyed}{κ:SortKind}{ρ:aD.RR}
theorem Wl{arr:Array Keyed}{u lo hi:Nat}{r:List Keyed}(h:u+r.length<=arr.size)(hr:r.Pairwise (Lk ρ))(hne:0<r.length)(hl:dF ρ arr lo u)(hh:dF ρ arr (u+r.length) hi)
  (bl:∀i,lo<=i->i<u->∀x∈r,aD.Kg ρ arr i<=ρ.g x) (bh:∀i,u+r.length<=i->i<hi->∀x∈r,ρ.g x<=aD.Kg ρ arr i):dF ρ (layAt arr u r 0) lo hi:=by
 intro i j hi1 hij hj;by_cases a1:i<u
 .rw [Be h (.inl a1)];by_cases b1:j<u
  .rw [Be h (.inl b1)];exact hl i j hi1 hij b1
  .by_cases b2:j<u+r.length
   .rw [KU h 7 b2];exact bl i hi1 a1 _ (apl _)
   .rw [Be h (.inr 7)];exact aeM (bl i hi1 a1 (r[0]'hne) (apl _)) (bh j 7 hj _ (apl _))
 .by_cases a2:i<u+r.length
  .rw [KU h 7 a2];by_cases b2:j<u+r.length
   .rw [KU h 7 b2];by_cases e:i=j
    .subst e;exact aaP _
    .exact amg.1 hr (i-u) (j-u) 7 7 7
   .rw [Be h (.inr 7)];exact bh j 7 hj _ (apl _)
  .rw [Be h (.inr 7),Be h (.inr 7)];exact hh i j 7 hij hj
theorem Cut.zM{left:Bool}{kv:Int}{arr:Array Keyed}{base n k:Nat}(h:Cut ρ left kv arr base n k){i:Nat}(h1:base<=i)(h2:i<base+k):aD.Kg ρ arr i<=kv:=by
 have:=h.lo (i-base) 7;unfold Bd at this;rw[show base+(i-base)=i by lia]at this;cases left with
 |true=>simp only[an9,auA]at this;lia
 |false=>simp only[axr,aGD,aOI,a3H]at this;lia
theorem Cut.um{left:Bool}{kv:Int}{arr:Array Keyed}{base n k:Nat}(h:Cut ρ left kv arr base n k){i:Nat}(h1:base+k<=i)(h2:i<base+n):kv<=aD.Kg ρ arr i:=by
 have:=h.hi (i-base) 7 7;unfold Bd at this;rw[show base+(i-base)=i by lia]at this;cases left with
 |true=>simp only[an9,a3H]at this;lia
 |false=>simp only[axr,aGD,Bool.not_eq_false',auA]at this;lia
theorem Wk{st st':SortSt}{Q:PUnit->SortSt->Prop}(h:Q ⟨⟩ st'):wpS (model prog w) A E s (set st') Q st:=ao2 (f:=λ_=>st') h
theorem YT{st:SortSt}{i sa na p sb nb q:Nat}{Q:Bool->SortSt->Prop}(h0:aD.ig prog w A s κ ρ a₀)(hk:kindOf st=κ)(ha:∀x∈(arrOf st).toList,x∈a₀.toList)(hfl:failedOf st=none)
  (e1:(pendingOf st)[i]?=!(sa,na,p)) (e2:(pendingOf st)[i+1]?=!(sb,nb,q)) (F6:sb=sa+na) (pa:0<na) (pb:0<nb) (hsz:sb+nb<=(arrOf st).size) (s1:dF ρ (arrOf st) sa (sa+na)) (s2:dF ρ (arrOf st) sb (sb+nb))
  (h:∀st',kindOf st'=κ->failedOf st'=none->(arrOf st').Perm (arrOf st)->pendingOf st'=((pendingOf st).setIfInBounds i (sa,na+nb,p)).eraseIdxIfInBounds (i+1)->dF ρ (arrOf st') sa (sb+nb) ->
   (∀j,j<sa\/sb+nb<=j->(arrOf st')[j]?=(arrOf st)[j]?)->Q true st'):wpS (model prog w) A E s (Lp i) Q st:=by
 show wpAny (model prog w) A (Lp i st) _ E s
 wp_delta
 wp_delta
 refine uF 8 ?_;refine aaM (aOc ?_);rw[e1,e2];refine aaM (Wk (st':=SortSt.mk' (kindOf st) (arrOf st) (((pendingOf st).setIfInBounds i (sa,na+nb,p)).eraseIdxIfInBounds (i+1)) (gallopOf st) (failedOf st)) ?_);generalize wc:SortSt.mk' (kindOf st) (arrOf st) (((pendingOf st).setIfInBounds i (sa,na+nb,p)).eraseIdxIfInBounds (i+1)) (gallopOf st) (failedOf st)=st1;have k1:kindOf st1=κ:=by rw[<-wc];exact hk
 have f1:failedOf st1=none:=by rw[<-wc];exact hfl
 have a1:arrOf st1=arrOf st:=by rw[<-wc]
 have p1:pendingOf st1=((pendingOf st).setIfInBounds i (sa,na+nb,p)).eraseIdxIfInBounds (i+1):=by rw[<-wc]
 have hb0:sb<(arrOf st).size:=7
 refine aaM (ZH hb0 ?_);refine aaM (By k1 h0 ha (ha _ 5) (show sa+na<=(arrOf st).size by lia) pa s1 (λk C1=>?_));have c1:=C1.le;rw[<-bw hb0]at C1;dsimp only;have whole:(∀x y,sa<=x->x<sb->sb<=y->y<sb+nb->aD.Kg ρ (arrOf st) x<=aD.Kg ρ (arrOf st) y)->dF ρ (arrOf st) sa (sb+nb):=λhc x y hx hxy hy=>by
  by_cases u:y<sb
  .exact s1 x y hx hxy 7
  .by_cases v:x<sb
   .exact hc x y hx v 7 hy
   .exact s2 x y 7 hxy hy
 by_cases z:na-k=0
 .rw [ahF (by simpa using z)];refine aAI (h st1 k1 f1 (by rw[a1]) p1 ?_ (λj _=>by rw[a1]));rw[a1];refine whole λx y hx DF hy JA=>?_;exact aeM (C1.zM hx 7) (s2 sb y (bbI _) hy JA)
 .rw [aah (by simpa using z)];have oX:sa+k+(na-k)-1<(arrOf st).size:=7
  refine aaM (ZH oX ?_);refine aaM (By k1 h0 ha (ha _ 5) (show sb+nb<=(arrOf st).size by lia) 7 s2 (λn2 C2=>?_));have c2:=C2.le;rw[<-bw oX,show sa+k+(na-k)-1=sb-1 by lia]at C2;dsimp only;by_cases z2:n2=0
  .rw [ahF (by simpa using z2)];refine aAI (h st1 k1 f1 (by rw[a1]) p1 ?_ (λj _=>by rw[a1]));rw[a1];refine whole λx y hx DF hy JA=>?_;exact aeM (s1 x (sb-1) hx 7 7) (C2.um 7 JA)
  .rw [aah (by simpa using z2)];have c3:=Nat.pos_of_ne_zero z2;have mX:∀x∈((arrOf st).extract (sa+k) sb).toList,∃j,sa+k<=j/\j<sb/\j<(arrOf st).size/\ρ.g x=aD.Kg ρ (arrOf st) j/\x∈(arrOf st).toList:=λx hx=>Oa hx;have mY:∀x∈((arrOf st).extract sb (sb+n2)).toList,∃j,sb<=j/\j<sb+n2/\j<(arrOf st).size/\ρ.g x=aD.Kg ρ (arrOf st) j/\x∈(arrOf st).toList:=λx hx=>Oa hx;have sX:((arrOf st).extract (sa+k) sb).toList.Pairwise (Lk ρ):=pw_ex 7 (λx y p q r=>s1 x y 7 q 7);have sY:((arrOf st).extract sb (sb+n2)).toList.Pairwise (Lk ρ):=pw_ex 7 (λx y p q r=>s2 x y 7 q 7);have zX:((arrOf st).extract (sa+k) sb).size=na-k:=by rw[Array.size_extract];lia
   have zY:((arrOf st).extract sb (sb+n2)).size=n2:=by rw[Array.size_extract];lia
   have low:∀x∈((arrOf st).extract (sa+k) sb).toList,aD.Kg ρ (arrOf st) sb<=ρ.g x:=λx hx=>by
    let(j,j1,j2,j3,e,_,):=mX x hx;rw[e];exact C1.um j1 7
   have high:∀x∈((arrOf st).extract sb (sb+n2)).toList,ρ.g x<=aD.Kg ρ (arrOf st) (sb-1):=λx hx=>by
    let(j,j1,j2,j3,e,_,):=mY x hx;rw[e];exact C2.zM j1 j2
   have fin:∀r st',Sm st1 st'->Res ρ ((arrOf st).extract (sa+k) sb).toList ((arrOf st).extract sb (sb+n2)).toList r->wpS (model prog w) A E s (do
     modify λs=>SortSt.mk' (kindOf s) (layAt (arrOf s) (sa+k) r.toList 0) (pendingOf s) (gallopOf s) (failedOf s)
     return (failedOf (<-get)).isNone) Q st':=by
    rintro r st' ⟨Aa,rQ,z9,uo⟩ ⟨rp,rs⟩;refine aaM (ao2 (aaM (aOc (aAI ?_))));have ex:((arrOf st).extract (sa+k) sb).toList++((arrOf st).extract sb (sb+n2)).toList=((arrOf st).extract (sa+k) (sa+k+(na-k+n2))).toList:=by
     rw[Bf,Bf,Bf,drop_take,drop_take,drop_take];rw[show sb-(sa+k)=na-k by lia,show sb+n2-sb=n2 by lia,show sa+k+(na-k+n2)-(sa+k)=(na-k)+n2 by lia,List.take_add,drop_drop,show sa+k+(na-k)=sb by lia]
    have len:r.toList.length=na-k+n2:=by rw[rp.length_eq,a96,aou,aou,zX,zY]
    have Dw:∀x∈r.toList,aD.Kg ρ (arrOf st) sb<=ρ.g x/\ρ.g x<=aD.Kg ρ (arrOf st) (sb-1):=λx hx=>by
     rcases a6S.1 (rp.mem_iff.1 hx) with hx|hx
     .let(j,j1,j2,j3,e,_,):=mX x hx;exact(low x hx,by rw[e];exact s1 j (sb-1) 7 7 7,)
     .let(j,j1,j2,j3,e,_,):=mY x hx;exact(by rw[e];exact s2 sb j (bbI _) j1 7,high x hx,)
    have F7:failedOf st'=none:=uo.trans f1;show Q (failedOf st').isNone _;rw[F7];refine h _ (Aa.trans k1) 8 ?_ (z9.trans p1) ?_ ?_
    .show (layAt (arrOf st') (sa+k) r.toList 0).Perm (arrOf st);rw[rQ,a1];exact YU (n:=na-k+n2) 7 (by rw[<-ex];exact rp)
    .show dF ρ (layAt (arrOf st') (sa+k) r.toList 0) sa (sb+nb);rw[rQ,a1];refine Wl 7 rs 7 (λx y p q r=>s1 x y p q 7) (λx y p q r=>s2 x y 7 q r) (λi i1 i2 x hx=>?_) (λi i1 i2 x hx=>?_)
     .exact aeM (C1.zM i1 7) (Dw x hx).1
     .exact aeM (Dw x hx).2 (C2.um 7 i2)
    .intro j hj;show(layAt (arrOf st') (sa+k) r.toList 0)[j]?=_;rw[rQ,a1,Hv _ _ _ _ _ 7,aah 7]
   by_cases c:na-k<=n2
   .rw [ahF c];refine aaM (YX h0 k1 (λx hx=>?_,λx hx=>?_,sX,sY,λy hy x hx=>?_,) (show 0<((arrOf st).extract (sa+k) sb).size by lia) (show 0<((arrOf st).extract sb (sb+n2)).size by lia) (λx hx=>?_) (λr st' hS R=>fin r st' hS R))
    .let(_,_,_,_,_,m,):=mX x hx;exact ha x m
    .let(_,_,_,_,_,m,):=mY x hx;exact ha x m
    .rw [zX,Bf,drop_drop]at hx;let(j,j1,j2,j3,rfl,):=Li hx;have ej:j=sb-1:=7
     subst ej;rw[<-bw j3];exact high y hy
    .rw [a5a,<-bw];exact low x hx
   .rw [aah c];refine aaM (YV h0 k1 (λx hx=>?_,λx hx=>?_,sX,sY,λy hy x hx=>?_,) (show 0<((arrOf st).extract (sa+k) sb).size by lia) (show 0<((arrOf st).extract sb (sb+n2)).size by lia) (λx hx=>?_) (λr st' hS R=>fin r st' hS R))
    .let(_,_,_,_,_,m,):=mX x hx;exact ha x m
    .let(_,_,_,_,_,m,):=mY x hx;exact ha x m
    .let(j,j1,j2,rfl,):=KW hy;rw[a5a,<-bw,show sb+j=sb by lia];exact low x hx
    .rw [a5a,<-bw];have:=high x hx;rw[show sa+k+(((arrOf st).extract (sa+k) sb).size-1)=sb-1 by lia];exact this
end
structure GP(κ:SortKind)(a₀:Array Keyed)(P:Array (Nat×Nat×Nat))(st:SortSt):Prop where
 perm:(arrOf st).Perm a₀
 kn:kindOf st=κ
 failed:failedOf st=none
 pend:pendingOf st=P
section
variable{prog:Program}{w:World}{A:Around}{E:Value->Shared->Prop}{s:Shared}{a₀:Array Keyed}{κ:SortKind}{ρ:aD.RR}{P:Array (Nat×Nat×Nat)}
theorem GP.size{st:SortSt}(h:GP κ a₀ P st):(arrOf st).size=a₀.size:=h.perm.size_eq
theorem GP.setArr{st:SortSt}{xs:Array Keyed}(h:GP κ a₀ P st)(hp:xs.Perm (arrOf st)):GP κ a₀ P (setArr st xs):=(hp.trans h.perm,h.kn,h.failed,h.pend,)
theorem GP.mem{st:SortSt}(h:GP κ a₀ P st):∀x∈(arrOf st).toList,x∈a₀.toList:=λx hx=>(aBx.mp h.perm).mem_iff.mp hx
theorem EE{st:SortSt}{i j:Nat}{Q:Option Bool->SortSt->Prop}(hB:GP κ a₀ P st)(h0:aD.ig prog w A s κ ρ a₀)(hi:i<a₀.size)(hj:j<a₀.size)
  (h:Q (!(decide (aD.Kg ρ (arrOf st) i<aD.Kg ρ (arrOf st) j))) st):wpS (model prog w) A E s (ltAt' i j) Q st:=by
 have hi':i<(arrOf st).size:=by rw[hB.size];exact hi
 have hj':j<(arrOf st).size:=by rw[hB.size];exact hj
 rw[bw hi',bw hj']at h;rw[ltAt'_eq];refine aaM (aOc ?_);refine aaM (ZH hi' (aaM (ZH hj' ?_)));exact mZ hB.kn h0 (hB.mem _ 5) (hB.mem _ 5) h
theorem Wj{st:SortSt}{lo n ok:Nat}{Q:Bool->SortSt->Prop}(h0:aD.ig prog w A s κ ρ a₀)(hn:lo+n<=a₀.size)(hok:ok<=n)(UX:1<=ok)(hB:GP κ a₀ P st)(hs:dF ρ (arrOf st) lo (lo+ok))
  (h:∀st',GP κ a₀ P st'->dF ρ (arrOf st') lo (lo+n)->(∀j,j<lo\/lo+n<=j->(arrOf st')[j]?=(arrOf st)[j]?)->Q true st'):wpS (model prog w) A E s (binarySort' lo n ok) Q st:=by
 rw[binarySort'_eq];refine aaM (aU8 (ang (I:=λk c st1=>c=(none,())/\GP κ a₀ P st1/\dF ρ (arrOf st1) lo (lo+min k n)/\∀j,j<lo\/lo+n<=j->(arrOf st1)[j]?=(arrOf st)[j]?)
  (Q:=λc st1=>c=(none,())/\GP κ a₀ P st1/\dF ρ (arrOf st1) lo (lo+n)/\∀j,j<lo\/lo+n<=j->(arrOf st1)[j]?=(arrOf st)[j]?) ?turn ?last ?first) ?after)
 case after=>
  rintro c st1 ⟨rfl,b1,i1,o1⟩;exact aAI (h st1 b1 i1 o1)
 case first=>
  rw[show min (max ok 1) n=ok by lia];exact(8,hB,hs,λ_ _=>8,)
 case last=>
  rintro c st1 ⟨hc,b1,i1,o1⟩;rw[show min (max (max ok 1) n) n=n by lia]at i1;exact(hc,b1,i1,o1,)
 case turn=>
  rintro k c st1 UR hkn ⟨rfl,b1,i1,o1⟩;rw[show min k n=k by lia]at i1;have hk:lo+k<a₀.size:=7
  have sz:=b1.size;refine aaM (aU8 (ang (I:=λx c st2=>st2=st1/\∃l r,c=(none,l,r)/\l<=r/\r<=k/\r-l<=k-x/\(∀i,i<l->aD.Kg ρ (arrOf st1) (lo+i)<=aD.Kg ρ (arrOf st1) (lo+k))/\(∀i,r<=i->i<k->aD.Kg ρ (arrOf st1) (lo+k)<=aD.Kg ρ (arrOf st1) (lo+i)))
   (Q:=λc st2=>st2=st1/\∃l r,c=(none,l,r)/\l<=k/\(∀i,i<l->aD.Kg ρ (arrOf st1) (lo+i)<=aD.Kg ρ (arrOf st1) (lo+k))/\(∀i,l<=i->i<k->aD.Kg ρ (arrOf st1) (lo+k)<=aD.Kg ρ (arrOf st1) (lo+i))) ?iturn ?ilast ?ifirst) ?iafter)
  case ifirst=>exact(8,0,k,8,7,7,7,λi hi=>absurd hi 7,λi p q=>absurd q 7,)
  case ilast=>
   rintro c st2 ⟨rfl,l,r,rfl,hlr,hrk,hm,u1,u2⟩;have e:l=r:=7
   subst e;exact(8,l,l,8,hrk,u1,u2,)
  case iturn=>
   rintro x c st2 _ hxk ⟨rfl,l,r,rfl,hlr,hrk,hm,u1,u2⟩;dsimp only;by_cases hge:l ≥ r
   .rw [ahF hge];have e:l=r:=7
    subst e;exact aAI (8,l,l,8,hrk,u1,u2,)
   .rw [aah hge];refine aaM (EE b1 h0 hk 7 ?_);by_cases c:aD.Kg ρ (arrOf st2) (lo+k)<aD.Kg ρ (arrOf st2) (lo+(l+r)/2)
    .simp only[c,ajr,an9];refine aAI (8,l,(l+r)/2,8,7,7,7,u1,λi p q=>?_,);have:=i1 (lo+(l+r)/2) (lo+i) 7 7 7;lia
    .simp only[c,aj9,axr,aGD];refine aAI (8,(l+r)/2+1,r,8,7,7,7,λi p=>?_,u2,);have:=i1 (lo+i) (lo+(l+r)/2) 7 7 7;lia
  case iafter=>
   rintro c st2 ⟨rfl,l,r,rfl,hlk,u1,u2⟩;show wpS _ _ _ _ (do moveDown' (lo+k) (lo+l);pure (ForInStep.yield (none,()))) _ _;rw[moveDown'_eq];have hks:lo+k<(arrOf st2).size:=7
   refine aaM (ao2 (aAI (8,b1.setArr (bubble_perm _ _ _),?_,?_,)))
   .rw [show min (k+1) n=k+1 by lia];intro i j hi hij hj;show aD.Kg ρ (bubble (arrOf st2) (lo+k) (lo+k-(lo+l))) i<=aD.Kg ρ (bubble (arrOf st2) (lo+k) (lo+k-(lo+l))) j;rw[aD.jS hks 7,aD.jS hks 7,show lo+k-(lo+k-(lo+l))=lo+l by lia];have U1:∀i,lo<=i->i<lo+l->aD.Kg ρ (arrOf st2) i<=aD.Kg ρ (arrOf st2) (lo+k):=λi p q=>by
     have:=u1 (i-lo) 7;rw[show lo+(i-lo)=i by lia]at this;exact this
    have U2:∀i,lo+l<=i->i<lo+k->aD.Kg ρ (arrOf st2) (lo+k)<=aD.Kg ρ (arrOf st2) i:=λi p q=>by
     have:=u2 (i-lo) 7 7;rw[show lo+(i-lo)=i by lia]at this;exact this
    by_cases a1:i=lo+l
    .rw [ahF a1];by_cases b2:j=lo+l
     .rw [ahF b2];exact aaP _
     .rw [aah b2,ahF 7];exact U2 _ 7 7
    .rw [aah a1];by_cases a2:j=lo+l
     .rw [ahF a2,aah 7];exact U1 _ 7 7
     .rw [aah a2];by_cases a3:lo+l<i/\i<=lo+k
      .rw [ahF a3,ahF 7];exact i1 _ _ 7 7 7
      .rw [aah a3];by_cases a4:lo+l<j/\j<=lo+k
       .rw [ahF a4];exact i1 _ _ 7 7 7
       .rw [aah a4];exact i1 _ _ 7 7 7
   .intro j hj;show(bubble (arrOf st2) (lo+k) (lo+k-(lo+l)))[j]?=_;rw[getElem?_bubble hks _ 7,aah 7,aah 7];exact o1 j hj
end
noncomputable abbrev AS:=Option (Option Nat)×Nat
noncomputable abbrev DS:=Option (Option Nat)×Nat×Nat
noncomputable def uI(lo a nrem:Nat):StateT SortSt Sem AS:=forIn [a:nrem] ((none,a):AS) λ_ c=>do
 let x <-ltAt' (lo+c.2) (lo+c.2-1)
 match x with
 |some y=>if y=true then pure (.done (none,c.2)) else pure (.yield (none,c.2+1))
 |_=>pure (.done (!none,c.2))
noncomputable def lP(lo n nrem:Nat):StateT SortSt Sem (Option Nat):=do
 reverseSlice' lo (lo+n)
 let c <-uI lo n nrem
 match c.1 with
 |some r=>pure r
 |none=>pure (!c.2)
noncomputable def qj(lo n nrem:Nat):StateT SortSt Sem DS:=forIn [n:nrem] ((none,n,0):DS) λ_ c=>do
 let x <-ltAt' (lo+c.2.1) (lo+c.2.1-1)
 match x with
 | some y=>if y=true then(if c.2.2>0 then(do
    reverseSlice' (lo+c.2.1-(c.2.2+1)) (lo+c.2.1)
    pure (.yield (none,c.2.1+1,0))) else pure (.yield (none,c.2.1+1,0))) else(do
   let x <-ltAt' (lo+c.2.1-1) (lo+c.2.1)
   match x with
   |some z=>if z=true then pure (.done (none,c.2.1,c.2.2)) else pure (.yield (none,c.2.1+1,c.2.2+1))
   |_=>pure (.done (!none,c.2.1,c.2.2)))
 |_=>pure (.done (!none,c.2.1,c.2.2))
noncomputable def mH(lo n nrem:Nat):StateT SortSt Sem (Option Nat):=do
 liftM (rule "list.sort.descending-run")
 let c <-qj lo (n+1) nrem
 match c.1 with
 |some r=>pure r
 | none=>if c.2.2>0 then(do
   reverseSlice' (lo+c.2.1-(c.2.2+1)) (lo+c.2.1)
   lP lo c.2.1 nrem) else lP lo c.2.1 nrem
theorem YK(lo nrem:Nat):countRun' lo nrem=(do
  let c <-uI lo 1 nrem
  match c.1 with
  |some r=>pure r
  | none=>if(c.2 ==nrem)=true then pure (!c.2) else if c.2>1 then(do
    let x <-ltAt' lo (lo+c.2-1)
    match x with
    | some y=>if y=true then pure (!c.2) else(do
      reverseSlice' lo (lo+c.2)
      mH lo c.2 nrem)
    |_=>pure none) else mH lo c.2 nrem):=by
 rw[countRun'_eq];unfold mH lP qj uI;have tl:∀{f g:AS->StateT SortSt Sem (Option Nat)}{m:StateT SortSt Sem AS},(∀r n,f (r,n)=g (r,n))->(m >>=f)=(m >>=g):=λh=>aFH _ (funext λw9=>by let(r,n,):=w9;exact h r n);have td:∀{f g:DS->StateT SortSt Sem (Option Nat)}{m:StateT SortSt Sem DS},(∀r n q,f (r,n,q)=g (r,n,q))->(m >>=f)=(m >>=g):=λh=>aFH _ (funext λw9=>by let(r,n,q,):=w9;exact h r n q);have bc:∀{α:Type}{f g:α->StateT SortSt Sem (Option Nat)}{m:StateT SortSt Sem α},(∀x,f x=g x)->(m >>=f)=(m >>=g):=λh=>aFH _ (funext h);refine tl λr n=>?_;cases r with
 |some r=>rfl
 |none=>
  dsimp only;split
  .rfl
  .split
   .refine bc λx=>?_;cases x with
    |none=>rfl
    |some y=>
     dsimp only;split
     .rfl
     .refine bc λ_=>bc λ_=>td λr n q=>?_;cases r with
      |some r=>rfl
      |none=>
       dsimp only;split
       .exact bc λ_=>bc λ_=>tl λr n=>by cases r <;> rfl
       .exact bc λ_=>tl λr n=>by cases r <;> rfl
   .refine bc λ_=>td λr n q=>?_;cases r with
    |some r=>rfl
    |none=>
     dsimp only;split
     .exact bc λ_=>bc λ_=>tl λr n=>by cases r <;> rfl
     .exact bc λ_=>tl λr n=>by cases r <;> rfl
section
variable{prog:Program}{w:World}{A:Around}{E:Value->Shared->Prop}{s:Shared}{a₀:Array Keyed}{κ:SortKind}{ρ:aD.RR}{P:Array (Nat×Nat×Nat)}
def Out(lo n:Nat)(xs ys:Array Keyed):Prop:=∀j,j<lo\/lo+n<=j->ys[j]?=xs[j]?
theorem Hz{xs:Array Keyed}{lo n i j:Nat}(hj:j<=xs.size)(h1:lo<=i)(h2:j<=lo+n):Out lo n xs (mirror xs i j ((j-i)/2)):=λk hk=>by
 rw[getElem?_mirror_all hj,aah 7]
theorem Pj{st:SortSt}{lo a nrem:Nat}{Q:AS->SortSt->Prop}(h0:aD.ig prog w A s κ ρ a₀)(hn:lo+nrem<=a₀.size)(ha:1<=a)(han:a<=nrem)(hB:GP κ a₀ P st)(hs:dF ρ (arrOf st) lo (lo+a))
  (h:∀n,a<=n->n<=nrem->dF ρ (arrOf st) lo (lo+n)->(n=nrem\/aD.Kg ρ (arrOf st) (lo+n)<aD.Kg ρ (arrOf st) (lo+n-1))->Q (none,n) st):wpS (model prog w) A E s (uI lo a nrem) Q st:=by
 unfold uI;refine ang (I:=λx c st1=>st1=st/\c=(none,x)/\dF ρ (arrOf st) lo (lo+x)) ?turn ?last (8,8,hs,)
 case last=>
  rintro c st1 ⟨rfl,rfl,i1⟩;rw[show max a nrem=nrem by lia]at i1 ⊢;exact h nrem han (bbI _) i1 (.inl 8)
 case turn=>
  rintro x c st1 hax hxn ⟨rfl,rfl,i1⟩;dsimp only;refine aaM (EE hB h0 7 7 ?_);by_cases c:aD.Kg ρ (arrOf st1) (lo+x)<aD.Kg ρ (arrOf st1) (lo+x-1)
  .simp only[c,ajr,an9];exact aAI (h x hax 7 i1 (.inr c))
  .simp only[c,aj9,axr,aGD];refine aAI (8,8,λi j hi hij hj=>?_,);by_cases hjx:j<lo+x
   .exact i1 i j hi hij hjx
   .have ej:j=lo+x:=7
    subst ej;by_cases e:i=lo+x
    .subst e;exact aaP _
    .have:=i1 i (lo+x-1) hi 7 7;lia
structure DX(ρ:aD.RR)(xs:Array Keyed)(lo x q:Nat):Prop where
 l:q+1<=x
 d:∀i j,lo<=i->i<=j->j<lo+x->aD.Kg ρ xs j<=aD.Kg ρ xs i
 e:∀i,lo+x-(q+1)<=i->i<lo+x->aD.Kg ρ xs i=aD.Kg ρ xs (lo+x-1)
theorem DX.rev{xs:Array Keyed}{lo x q:Nat}(h:DX ρ xs lo x q)(hz:lo+x<=xs.size):DX ρ (mirror xs (lo+x-(q+1)) (lo+x) ((lo+x-(lo+x-(q+1)))/2)) lo x 0:=by
 have ke:=aD.bP (ρ:=ρ) (i:=lo+x-(q+1)) hz h.e;have:=h.l;refine(7,λi j h1 h2 h3=>?_,λi h1 h2=>?_,)
 .rw [ke,ke];exact h.d i j h1 h2 h3
 .have e:i=lo+x-1:=7
  rw[e]
theorem DX.zero{xs:Array Keyed}{lo x q:Nat}(h:DX ρ xs lo x q):DX ρ xs lo x 0:=(by have:=h.l;lia,h.d,λi h1 h2=>by rw[show i=lo+x-1 by have:=h.l;lia],)
theorem DX.less{xs:Array Keyed}{lo x:Nat}(h:DX ρ xs lo x 0)(k:aD.Kg ρ xs (lo+x)<aD.Kg ρ xs (lo+x-1)):DX ρ xs lo (x+1) 0:=by
 have:=h.l;refine(7,λi j h1 h2 h3=>?_,λi h1 h2=>by rw[show i=lo+(x+1)-1 by lia],);by_cases c:j<lo+x
 .exact h.d i j h1 h2 c
 .have ej:j=lo+x:=7
  subst ej;by_cases e:i=lo+x
  .subst e;exact aaP _
  .have:=h.d i (lo+x-1) h1 7 7;lia
theorem DX.more{xs:Array Keyed}{lo x q:Nat}(h:DX ρ xs lo x q)(k:aD.Kg ρ xs (lo+x)=aD.Kg ρ xs (lo+x-1)):DX ρ xs lo (x+1) (q+1):=by
 have:=h.l;refine(7,λi j h1 h2 h3=>?_,λi h1 h2=>?_,)
 .by_cases c:j<lo+x
  .exact h.d i j h1 h2 c
  .have ej:j=lo+x:=7
   subst ej;by_cases e:i=lo+x
   .subst e;exact aaP _
   .have:=h.d i (lo+x-1) h1 7 7;lia
 .rw [show lo+(x+1)-1=lo+x by lia];by_cases c:i<lo+x
  .rw [k];exact h.e i 7 c
  .rw [show i=lo+x by lia]
theorem Xk{st:SortSt}{lo n nrem:Nat}{Q:DS->SortSt->Prop}(h0:aD.ig prog w A s κ ρ a₀)(hn:lo+nrem<=a₀.size)(hnn:n<=nrem)(hB:GP κ a₀ P st)(hs:DX ρ (arrOf st) lo n 0)
  (h:∀m q st',GP κ a₀ P st'->m<=nrem->DX ρ (arrOf st') lo m q->Out lo nrem (arrOf st) (arrOf st')->Q (none,m,q) st'):wpS (model prog w) A E s (qj lo n nrem) Q st:=by
 unfold qj;refine ang (I:=λx c st1=>∃q,c=(none,x,q)/\GP κ a₀ P st1/\DX ρ (arrOf st1) lo x q/\Out lo nrem (arrOf st) (arrOf st1)) ?turn ?last (0,8,hB,hs,λ_ _=>8,)
 case last=>
  rintro c st1 ⟨q,rfl,b1,d1,o1⟩;rw[show max n nrem=nrem by lia]at d1 ⊢;exact h nrem q st1 b1 (bbI _) d1 o1
 case turn=>
  rintro x c st1 hax hxn ⟨q,rfl,b1,d1,o1⟩;dsimp only;have sz:=b1.size;have hl:=d1.l;refine aaM (EE b1 h0 7 7 ?_);by_cases c:aD.Kg ρ (arrOf st1) (lo+x)<aD.Kg ρ (arrOf st1) (lo+x-1)
  .simp only[c,ajr,an9];by_cases hq:q>0
   .rw [ahF hq];have ke:=aD.bP (ρ:=ρ) (i:=lo+x-(q+1)) (7:lo+x<=(arrOf st1).size) d1.e;refine aaM (atR (aAI (0,8,b1.setArr (afX _ _ _ _),(d1.rev 7).less ?_,λk hk=>(Hz 7 7 7 k hk).trans (o1 k hk),)));rw[ke,ke];exact c
   .rw [aah hq];have e:q=0:=7
    subst e;exact aAI (0,8,b1,d1.less c,o1,)
  .simp only[c,aj9,axr,aGD];refine aaM (EE b1 h0 7 7 ?_);by_cases c2:aD.Kg ρ (arrOf st1) (lo+x-1)<aD.Kg ρ (arrOf st1) (lo+x)
   .simp only[c2,ajr,an9];exact aAI (h x q st1 b1 7 d1 o1)
   .simp only[c2,aj9,axr,aGD];exact aAI (q+1,8,b1,d1.more 7,o1,)
theorem Ql{st gJ:SortSt}{lo n nrem:Nat}{Q:Option Nat->SortSt->Prop}(h0:aD.ig prog w A s κ ρ a₀)(hn:lo+nrem<=a₀.size)(h1:1<=n)(hnn:n<=nrem)(hB:GP κ a₀ P st)(hs:DX ρ (arrOf st) lo n 0)(ho:Out lo nrem (arrOf gJ) (arrOf st))
  (h:∀m st',GP κ a₀ P st'->1<=m->m<=nrem->dF ρ (arrOf st') lo (lo+m)->Out lo nrem (arrOf gJ) (arrOf st')->Q (!m) st'):wpS (model prog w) A E s (lP lo n nrem) Q st:=by
 unfold lP;have sz:=hB.size;refine aaM (atR ?_);have b1:GP κ a₀ P (setArr st (mirror (arrOf st) lo (lo+n) ((lo+n-lo)/2))):=hB.setArr (afX _ _ _ _);refine aaM (Pj h0 hn h1 hnn b1 ?_ λm m1 m2 i2 _=>aAI (h m _ b1 7 m2 i2 λk hk=>(Hz 7 7 7 k hk).trans (ho k hk)));intro i j hi hij hj;show aD.Kg ρ (mirror (arrOf st) lo (lo+n) ((lo+n-lo)/2)) i<=aD.Kg ρ (mirror (arrOf st) lo (lo+n) ((lo+n-lo)/2)) j;rw[aD.gw 7,aD.gw 7,ahF 7,ahF 7];exact hs.d _ _ 7 7 7
theorem Qk{st gJ:SortSt}{lo n nrem:Nat}{Q:Option Nat->SortSt->Prop}(h0:aD.ig prog w A s κ ρ a₀)(hn:lo+nrem<=a₀.size)(hnn:n+1<=nrem)(hB:GP κ a₀ P st)(hs:DX ρ (arrOf st) lo (n+1) 0)(ho:Out lo nrem (arrOf gJ) (arrOf st))
  (h:∀m st',GP κ a₀ P st'->1<=m->m<=nrem->dF ρ (arrOf st') lo (lo+m)->Out lo nrem (arrOf gJ) (arrOf st')->Q (!m) st'):wpS (model prog w) A E s (mH lo n nrem) Q st:=by
 unfold mH;refine aaM (wpS_lift (aJI (8,?_,)));refine aaM (Xk h0 hn hnn hB hs λm q st1 b1 m2 d1 o1=>?_);dsimp only;have hl:=d1.l;have sz:=b1.size;by_cases hq:q>0
 .rw [ahF hq];exact aaM (atR (Ql h0 hn 7 m2 (b1.setArr (afX _ _ _ _)) (d1.rev 7) (λk hk=>((Hz 7 7 7 k hk).trans (o1 k hk)).trans (ho k hk)) h))
 .rw [aah hq];exact Ql h0 hn 7 m2 b1 d1.zero (λk hk=>(o1 k hk).trans (ho k hk)) h
theorem YJ{st:SortSt}{lo nrem:Nat}{Q:Option Nat->SortSt->Prop}(h0:aD.ig prog w A s κ ρ a₀)(hn:lo+nrem<=a₀.size)(h1:1<=nrem)(hB:GP κ a₀ P st)
  (h:∀m st',GP κ a₀ P st'->1<=m->m<=nrem->dF ρ (arrOf st') lo (lo+m)->Out lo nrem (arrOf st) (arrOf st')->Q (!m) st'):wpS (model prog w) A E s (countRun' lo nrem) Q st:=by
 rw[YK];have sz:=hB.size;refine aaM (Pj h0 hn (bbI 1) h1 hB (λi j hi hij hj=>by rw[show i=j by lia];exact aaP _) λn n1 n2 i1 hor=>?_);dsimp only;by_cases e:n=nrem
 .rw [ahF (by simpa using e)];exact aAI (h n st hB n1 n2 i1 λ_ _=>8)
 .rw [aah (by simpa using e)];have lt:aD.Kg ρ (arrOf st) (lo+n)<aD.Kg ρ (arrOf st) (lo+n-1):=hor.resolve_left e;by_cases g:n>1
  .rw [ahF g];refine aaM (EE hB h0 7 7 ?_);by_cases c:aD.Kg ρ (arrOf st) lo<aD.Kg ρ (arrOf st) (lo+n-1)
   .simp only[c,ajr,an9];exact aAI (h n st hB n1 n2 i1 λ_ _=>8)
   .simp only[c,aj9,axr,aGD];have all:∀k,lo<=k->k<lo+n->aD.Kg ρ (arrOf st) k=aD.Kg ρ (arrOf st) (lo+n-1):=λk h1 h2=>by
     have a1:=i1 lo k (bbI _) h1 h2;have a2:=i1 k (lo+n-1) h1 7 7;lia
    have ke:=aD.bP (ρ:=ρ) (xs:=arrOf st) (i:=lo) (j:=lo+n) 7 all;have dx:DX ρ (mirror (arrOf st) lo (lo+n) ((lo+n-lo)/2)) lo n 0:=(7,λi j h1 h2 h3=>by rw[ke,ke,all i h1 7,all j 7 h3];exact aaP _,λi h1 h2=>by rw[show i=lo+n-1 by lia],);exact aaM (atR (Qk (gJ:=st) h0 hn 7 (hB.setArr (afX _ _ _ _)) (dx.less (by rw[ke,ke];exact lt)) (Hz 7 7 7) h))
  .rw [aah g];have en:n=1:=7
   subst en;exact Qk (gJ:=st) h0 hn 7 hB (DX.less (7,λi j h1 h2 h3=>by rw[show i=j by lia];exact aaP _,λi h1 h2=>by rw[show i=lo+1-1 by lia],) lt) (λ_ _=>8) h
end
noncomputable abbrev Rn:=Nat×Nat×Nat
noncomputable def fT:List Rn->Nat->Nat->Prop
 | [],a,b=>a=b
 |t ::r,a,b=>t.1=a/\0<t.2.1/\fT r (a+t.2.1) b
theorem dM:∀{l m:List Rn}{a b:Nat},fT (l++m) a b↔∃c,fT l a c/\fT m c b
 | [],m,a,b=>(λh=>(a,8,h,),λ(c,h1,h2,)=>by rw[show a=c from h1];exact h2,)
 |t ::r,m,a,b=>by
  constructor
  .rintro ⟨h1,h2,h3⟩;let(c,h4,h5,):=dM.mp h3;exact(c,(h1,h2,h4,),h5,)
  .rintro ⟨c,⟨h1,h2,h4⟩,h5⟩;exact(h1,h2,dM.mpr (c,h4,h5,),)
theorem HG:∀{l:List Rn}{a b:Nat},fT l a b->l.length+a<=b
 | [],a,b,h=>by rw[show a=b from h];show 0+b<=b;lia
 |t ::r,a,b,(_,h2,h3,)=>by
  have:=HG h3;rw[acz];lia
theorem GZ:∀{l:List Rn}{a b:Nat},fT l a b->∀t∈l,a<=t.1/\t.1+t.2.1<=b
 | [],a,b,h,t,ht=>nomatch ht
 |u ::r,a,b,(h1,h2,h3,),t,ht=>by
  have l:=HG h3;rcases aPx.mp ht with e|ht
  .subst e;lia
  .have:=GZ h3 t ht;lia
theorem N9:∀{l:List Rn}{i:Nat}{x y:Rn},l[i]?=!x->l[i+1]?=!y->l=l.take i++x ::y ::l.drop (i+2)
 | [],i,x,y,h,_=>by simp at h
 | [a],0,x,y,h,h2=>by simp at h2
 |a ::b ::r,0,x,y,h,h2=>by
  simp only[List.getElem?_cons_zero,a9b,Option.some.injEq]at h h2;subst h h2;rfl
 |a ::r,i+1,x,y,h,h2=>by
  have:=N9 (l:=r) (i:=i) (x:=x) (y:=y) (by simpa using h) (by simpa using h2);show a ::r=a ::(r.take i++x ::y ::r.drop (i+2));rw[<-this]
theorem YI(l m:List Rn)(x y v:Rn):((l++x ::y ::m).set l.length v).eraseIdx (l.length+1)=l++v ::m:=by
 induction l with
 |nil=>rfl
 |cons a r ih=>show a ::((r++x ::y ::m).set r.length v).eraseIdx (r.length+1)=a ::(r++v ::m);rw[ih]
section
variable{prog:Program}{w:World}{A:Around}{E:Value->Shared->Prop}{s:Shared}{a₀:Array Keyed}{κ:SortKind}{ρ:aD.RR}{P:Array Rn}
theorem Et{xs ys:Array Keyed}{a b:Nat}(h:dF ρ xs a b)(e:∀j,a<=j->j<b->ys[j]?=xs[j]?):dF ρ ys a b:=λi j h1 h2 h3=>by
 rw[aD.cA (e i h1 7),aD.cA (e j 7 h3)];exact h i j h1 h2 h3
structure RI(κ:SortKind)(a₀:Array Keyed)(ρ:aD.RR)(lo:Nat)(st:SortSt):Prop where
 perm:(arrOf st).Perm a₀
 kn:kindOf st=κ
 failed:failedOf st=none
 tile:fT (pendingOf st).toList 0 lo
 AO:∀t∈(pendingOf st).toList,dF ρ (arrOf st) t.1 (t.1+t.2.1)
theorem RI.gp{lo:Nat}{st:SortSt}(h:RI κ a₀ ρ lo st):GP κ a₀ (pendingOf st) st:=(h.perm,h.kn,h.failed,8,)
theorem RI.out{lo n:Nat}{st st':SortSt}(h:RI κ a₀ ρ lo st)(g:GP κ a₀ (pendingOf st) st')(o:Out lo n (arrOf st) (arrOf st')):RI κ a₀ ρ lo st':=
 (g.perm,g.kn,g.failed,by rw[g.pend];exact h.tile,λt ht=>by
  rw[g.pend]at ht;have:=GZ h.tile t ht;exact Et (h.AO t ht) λj h1 h2=>o j (.inl 7),)
theorem RI.merge{lo i:Nat}{x y:Rn}{st:SortSt}{Q:Bool->SortSt->Prop}(h0:aD.ig prog w A s κ ρ a₀)(h:RI κ a₀ ρ lo st)(hlo:lo<=a₀.size)(e1:(pendingOf st)[i]?=!x)(e2:(pendingOf st)[i+1]?=!y)
  (k:∀st',RI κ a₀ ρ lo st'->(pendingOf st').size+1=(pendingOf st).size->(∀j,lo<=j->(arrOf st')[j]?=(arrOf st)[j]?)->Q true st'):wpS (model prog w) A E s (Lp i) Q st:=by
 let(sa,na,p,):=x;let(sb,nb,q,):=y;have el:=N9 (l:=(pendingOf st).toList) (i:=i) (by rw[ags];exact e1) (by rw[ags];exact e2);have hi:i<(pendingOf st).toList.length:=by
  rw[aou];exact(Array.getElem?_eq_some_iff.mp e1).1
 have hti:((pendingOf st).toList.take i).length=i:=by rw[bby];lia
 have ht:=h.tile;have hs:=h.AO;have hsz:(pendingOf st).size=(pendingOf st).toList.length:=aou.symm;have hnew:(((pendingOf st).setIfInBounds i (sa,na+nb,p)).eraseIdxIfInBounds (i+1)).toList=(pendingOf st).toList.take i++(sa,na+nb,p) ::(pendingOf st).toList.drop (i+2):=by
  rw[Array.toList_eraseIdxIfInBounds,Array.toList_setIfInBounds]
  conv=>lhs;rw[el]
  have:=YI ((pendingOf st).toList.take i) ((pendingOf st).toList.drop (i+2)) (sa,na,p) (sb,nb,q) (sa,na+nb,p);rw[hti]at this;exact this
 generalize(pendingOf st).toList.take i=l at *;generalize(pendingOf st).toList.drop (i+2)=m at *;rw[el]at ht hs hsz;let(c,t1,t2,t3,t4,t5,t6,):=dM.mp ht;have t2:sa=c:=t2;have t3:0<na:=t3;have t4:sb=c+na:=t4;have t5:0<nb:=t5;have t6:fT m (c+na+nb) lo:=t6;have l6:=HG t6;refine YT h0 h.kn h.gp.mem h.failed e1 e2 7 t3 t5 (by rw[h.gp.size];lia) (hs (sa,na,p) 5) (hs (sb,nb,q) 5) λst' k1 f1 p1 pe s1 o1=>?_;refine k st' (p1.trans h.perm,k1,f1,?_,?_,) ?_ λj hj=>o1 j (.inr 7)
 .rw [pe,hnew];exact dM.mpr (c,t1,t2,by show 0<na+nb;lia,by show fT m (c+(na+nb)) lo;rw[<-Nat.add_assoc];exact t6,)
 .rw [pe,hnew];intro t ht;rcases a6S.mp ht with ht|ht
  .have:=GZ t1 t ht;exact Et (hs t (aqT _ ht)) λj h1 h2=>o1 j (.inl 7)
  .rcases aPx.mp ht with ht|ht
   .subst ht;show dF ρ (arrOf st') sa (sa+(na+nb));rw[show sa+(na+nb)=sb+nb by lia];exact s1
   .have:=GZ t6 t ht;exact Et (hs t (aEK _ (aq4 _ (aq4 _ ht)))) λj h1 h2=>o1 j (.inr 7)
 .have z:(pendingOf st').size=(pendingOf st').toList.length:=aou.symm;rw[z,pe,hnew,hsz,a96,a96];rfl
theorem RI.push{lo n:Nat}{st:SortSt}(h:RI κ a₀ ρ lo st)(hn:0<n)(hs:dF ρ (arrOf st) lo (lo+n)):RI κ a₀ ρ (lo+n) (setPending st ((pendingOf st).push (lo,n,0))):=by
 refine(h.perm,h.kn,h.failed,?_,?_,)
 .show fT ((pendingOf st).push (lo,n,0)).toList 0 (lo+n);rw[awA];exact dM.mpr (lo,h.tile,8,hn,8,)
 .show ∀t∈((pendingOf st).push (lo,n,0)).toList,_;rw[awA];intro t ht;rcases a6S.mp ht with ht|ht
  .exact h.AO t ht
  .rw [aOT.mp ht];exact hs
theorem Qj{f:Rn->Rn}(hf:∀t,(f t).1=t.1/\(f t).2.1=t.2.1):∀{l:List Rn}{i a b:Nat},fT l a b->fT (l.modify i f) a b
 | [],i,a,b,h=>by cases i <;> exact h
 |t ::r,0,a,b,(h1,h2,h3,)=>by
  show fT (f t ::r) a b;exact((hf t).1.trans h1,by rw[(hf t).2];exact h2,by rw[(hf t).2];exact h3,)
 |t ::r,i+1,a,b,(h1,h2,h3,)=>(h1,h2,Qj hf h3,)
theorem QS{f:Rn->Rn}:∀{l:List Rn}{i:Nat}{t:Rn},t∈l.modify i f->t∈l\/∃u∈l,t=f u
 | [],i,t,h=>by cases i <;> exact nomatch h
 |u ::r,0,t,h=>by
  rcases aPx.mp (show t∈f u ::r from h) with e|h
  .exact .inr (u,anL,e,)
  .exact .inl (aq4 _ h)
 |u ::r,i+1,t,h=>by
  rcases aPx.mp (show t∈u ::r.modify i f from h) with e|h
  .exact .inl (e ▸anL)
  .rcases QS h with h|⟨v,hv,e⟩
   .exact .inl (aq4 _ h)
   .exact .inr (v,aq4 _ hv,e,)
theorem RI.pow{lo i:Nat}{st:SortSt}{f:Rn->Rn}(hf:∀t,(f t).1=t.1/\(f t).2.1=t.2.1)(h:RI κ a₀ ρ lo st):RI κ a₀ ρ lo (setPending st ((pendingOf st).modify i f)):=by
 refine(h.perm,h.kn,h.failed,?_,?_,)
 .show fT ((pendingOf st).modify i f).toList 0 lo;rw[Array.toList_modify];exact Qj hf h.tile
 .show ∀t∈((pendingOf st).modify i f).toList,_;rw[Array.toList_modify];intro t ht;rcases QS ht with ht|⟨u,hu,e⟩
  .exact h.AO t ht
  .rw [e,(hf u).1,(hf u).2];exact h.AO u hu
theorem tG{st:SortSt}{Q:Unit->SortSt->Prop}(h0:aD.ig prog w A s κ ρ a₀)(hP:(arrOf st).Perm a₀)(hk:kindOf st=κ)(hf:failedOf st=none)(hp:pendingOf st=#[])
  (h:∀st',(arrOf st').Perm a₀->failedOf st'=none->dF ρ (arrOf st') 0 a₀.size->Q () st'):wpS (model prog w) A E s sortRuns' Q st:=by
 rw[sortRuns'_eq];refine aaM (aOc ?_);dsimp only;have U9:(arrOf st).size=a₀.size:=hP.size_eq;simp only[U9];generalize minRun' a₀.size a₀.size 0=mr;have r0:RI κ a₀ ρ 0 st:=⟨hP,hk,hf,by rw[hp];rfl,by rw[hp];exact λt ht=>nomatch ht⟩;refine aaM (aU8 (ang (I:=λx c st1=>∃lo,c=(none,lo)/\lo<=a₀.size/\(x<=lo\/lo=a₀.size)/\RI κ a₀ ρ lo st1) (Q:=λc st1=>c=(none,a₀.size)/\RI κ a₀ ρ a₀.size st1) ?turn ?last (0,8,agn _,.inl (bbI _),r0,)) ?after)
 case last=>
  rintro c st1 ⟨lo,rfl,hlo,hx,r1⟩;have e:lo=a₀.size:=7
  subst e;exact(8,r1,)
 case turn=>
  rintro x c st1 _ hx ⟨lo,rfl,hlo,hxl,r1⟩;dsimp only;by_cases g:lo ≥ a₀.size
  .rw [ahF g];have e:lo=a₀.size:=7
   subst e;exact aAI (8,r1,)
  .rw [aah g];refine aaM (YJ h0 7 7 r1.gp λm st2 b2 m1 m2 s2 o2=>?_);dsimp only;have r2:=r1.out b2 o2;have fin:∀{n:Nat}{st3:SortSt},0<n->lo+n<=a₀.size->RI κ a₀ ρ lo st3->dF ρ (arrOf st3) lo (lo+n)->∃lo',(none,lo+n)=((none,lo'):Option Unit×Nat)/\lo'<=a₀.size/\(x+1<=lo'\/lo'=a₀.size)/\RI κ a₀ ρ lo' (setPending st3 ((pendingOf st3).push (lo,n,0))):=λ{n st3} h1 h2 h3 h4=>(lo+n,8,h2,7,h3.push h1 h4,);by_cases lt:m<mr
   .rw [ahF lt];refine aaM (wpS_lift (aJI (8,?_,)));refine aaM (Wj h0 7 7 m1 b2 s2 λst3 b3 s3 o3=>?_);simp only[aZh,axr,aGD];have r3:=r1.out (n:=a₀.size-lo) b3 λj hj=>(o3 j 7).trans (o2 j hj);have hn:0<min (a₀.size-lo) mr:=7
    have gW:lo+min (a₀.size-lo) mr<=a₀.size:=7
    clear b3 o3 b2 s2 o2 r2 m1 m2 lt;generalize min (a₀.size-lo) mr=n at *;refine aaM (aOc ?_);cases eb:(pendingOf st3).back? with
    |none=>
     dsimp only;exact aaM (ao2 (aAI (fin hn gW r3 s3)))
    |some t=>
     let(s1,n1,z,):=t;dsimp only;generalize power' a₀.size (2*s1+n1) (2*s1+n1+n1+n) a₀.size=pw;refine aaM (aU8 (ang (I:=λ_ c cK=>c=(none,())/\RI κ a₀ ρ lo cK/\dF ρ (arrOf cK) lo (lo+n)) (Q:=λc cK=>c=(none,())/\RI κ a₀ ρ lo cK/\dF ρ (arrOf cK) lo (lo+n)) ?_ (λ_ _ hh=>hh) (8,r3,s3,)) ?_)
     .rintro y c cK _ _ ⟨rfl,r4,h4⟩;refine aaM (aOc ?_);by_cases c2:(pendingOf cK).size>1
      .have e1:(pendingOf cK)[(pendingOf cK).size-2]?=!(pendingOf cK)[(pendingOf cK).size-2]:=aYz 7;have e2:(pendingOf cK)[(pendingOf cK).size-2+1]?=!(pendingOf cK)[(pendingOf cK).size-2+1]:=aYz 7;simp only[ahF c2];rw[e1];dsimp only;by_cases c3:(pendingOf cK)[(pendingOf cK).size-2].2.2<=pw
       .rw [ahF c3];exact aAI (8,r4,h4,)
       .rw [aah c3];refine aaM (RI.merge h0 r4 hlo e1 e2 λvK r5 _ o5=>?_);simp only[aZh,axr,aGD];exact aAI (8,r5,Et h4 λj h1 _=>o5 j h1,)
      .simp only[aah c2];exact aAI (8,r4,h4,)
     .rintro c cK ⟨rfl,r4,h4⟩;dsimp only;exact aaM (ao2 (aaM (ao2 (aAI (fin hn gW (r4.pow λ_=>(8,8,)) h4)))))
   .rw [aah lt];have hn:0<m:=7
    have gW:lo+m<=a₀.size:=7
    have r3:=r2;have s3:=s2;clear b2 s2 o2 r2 m1 m2 lt;generalize m=n at *;generalize st2=st3 at *;refine aaM (aOc ?_);cases eb:(pendingOf st3).back? with
    |none=>
     dsimp only;exact aaM (ao2 (aAI (fin hn gW r3 s3)))
    |some t=>
     let(s1,n1,z,):=t;dsimp only;generalize power' a₀.size (2*s1+n1) (2*s1+n1+n1+n) a₀.size=pw;refine aaM (aU8 (ang (I:=λ_ c cK=>c=(none,())/\RI κ a₀ ρ lo cK/\dF ρ (arrOf cK) lo (lo+n)) (Q:=λc cK=>c=(none,())/\RI κ a₀ ρ lo cK/\dF ρ (arrOf cK) lo (lo+n)) ?_ (λ_ _ hh=>hh) (8,r3,s3,)) ?_)
     .rintro y c cK _ _ ⟨rfl,r4,h4⟩;refine aaM (aOc ?_);by_cases c2:(pendingOf cK).size>1
      .have e1:(pendingOf cK)[(pendingOf cK).size-2]?=!(pendingOf cK)[(pendingOf cK).size-2]:=aYz 7;have e2:(pendingOf cK)[(pendingOf cK).size-2+1]?=!(pendingOf cK)[(pendingOf cK).size-2+1]:=aYz 7;simp only[ahF c2];rw[e1];dsimp only;by_cases c3:(pendingOf cK)[(pendingOf cK).size-2].2.2<=pw
       .rw [ahF c3];exact aAI (8,r4,h4,)
       .rw [aah c3];refine aaM (RI.merge h0 r4 hlo e1 e2 λvK r5 _ o5=>?_);simp only[aZh,axr,aGD];exact aAI (8,r5,Et h4 λj h1 _=>o5 j h1,)
      .simp only[aah c2];exact aAI (8,r4,h4,)
     .rintro c cK ⟨rfl,r4,h4⟩;dsimp only;exact aaM (ao2 (aaM (ao2 (aAI (fin hn gW (r4.pow λ_=>(8,8,)) h4)))))
 case after=>
  rintro c st1 ⟨rfl,r1⟩;dsimp only;have l1:=HG r1.tile;rw[aou]at l1;refine aaM (aU8 (ang (I:=λx c st2=>c=(none,())/\RI κ a₀ ρ a₀.size st2/\(pendingOf st2).size+x<=a₀.size+1) (Q:=λc st2=>c=(none,())/\RI κ a₀ ρ a₀.size st2/\(pendingOf st2).size<=1) ?_ ?_ (8,r1,7,)) ?_)
  .rintro y c st2 _ _ ⟨rfl,r2,h2⟩;refine aaM (aOc ?_);by_cases c1:(pendingOf st2).size<=1
   .rw [ahF c1];exact aAI (8,r2,c1,)
   .rw [aah c1];obtain⟨i,hi,hlt⟩:∃i,(if Option.any (λx=>decide (x<(pendingOf st2)[(pendingOf st2).size-2+1]?.elim 0 λx=>x.snd.fst)) (if(pendingOf st2).size-2>0 then Option.map (λx=>x.snd.fst) (pendingOf st2)[(pendingOf st2).size-2-1]? else none)=true then(pendingOf st2).size-2-1 else(pendingOf st2).size-2)=i/\i+1<(pendingOf st2).size:=(_,8,by generalize Option.any _ _=bb;cases bb <;> simp <;> lia,);rw[hi];refine aaM (RI.merge h0 r2 (bbI _) (aYz 7) (aYz hlt) λvK r5 z5 _=>?_);simp only[aZh,axr,aGD];exact aAI (8,r5,7,)
  .rintro c st2 ⟨rfl,r2,h2⟩;exact(8,r2,7,)
  .rintro c st2 ⟨rfl,r2,h2⟩;dsimp only;refine aAI (h st2 r2.perm r2.failed ?_);have ht:=r2.tile;have hs:=r2.AO;have z:(pendingOf st2).size=(pendingOf st2).toList.length:=aou.symm;rw[z]at h2;generalize(pendingOf st2).toList=l at *
   match l,h2,ht,hs with
   | [],_,ht,_=>
    have e:0=a₀.size:=ht;intro i j _ _ hj;lia
   | [t],_,(t1,t2,t3,),hs=>
    have e:0+t.2.1=a₀.size:=t3;have q:=hs t 5;rw[t1,e]at q;exact q
   |_ ::_ ::_,h2,_,_=>simp at h2
end
end L2.wR
set_option maxHeartbeats 4000000
namespace L2
open PySem PySem.Spec PyProof.Rows
section
variable{prog:Program}{w:World}{A:Around}{E:Value->Shared->Prop}{s:Shared}
theorem VP{a:Addr}{us:List Value}{m:Nat}{P:PySem.Fin->Shared->Prop}{κ:SortKind}{ρ:aD.RR}(ho:s.heap.get? a=!(seqObj "list" us.toArray m))(z:us.length<=1000000)
  (hk:2<=us.length->(∀(E:Value->Shared->Prop)(Q:SortKind->Shared->Prop),Q κ { s with heap:=qE s.heap a us }->wpAny (model prog w) A (keyKind' us.toArray) Q E { s with heap:=qE s.heap a us })/\aD.ig prog w A { s with heap:=qE s.heap a us } κ ρ (pairsOf us))
  (g:∀q:SortSt,(arrOf q).Perm (pairsOf us)->wR.dF ρ (arrOf q) 0 (pairsOf us).size->P (.done (.ret .none)) { s with heap:=sortedHeap s.heap a us ((arrOf q).map (·.2)) }):wpAny (model prog w) A (Builtin.«list.sort» ([.ref a],[],)) P E s:=by
 rw[list_sort_plain];have al:a<s.heap.objs.size:=a2o ho;obtain⟨c,oc⟩:∃c,(s.heap.update a (Obj.mapSeq λ_=>#[])).get? a=!(seqObj "list" #[] c):=(_,get?_update_seq ho (λ_=>#[]),);have FJ:(qE s.heap a us).get? a=!(seqObj "list" #[] c):=aJV _ (aJV _ oc);refine aTi (listItems_at ho 8 (aTi (aNs ho 8 (aTi (seqEpoch_at oc 8 (aTi (wpAny_newTuple (aTi (wpAny_newList (a7y ?_)))))))))) <;> try (rw[aXE];first|(rw[a3v];lia)|lia)
 show wpAny (model prog w) A _ P E { s with heap:=qE s.heap a us };dsimp only;have us2:us.toArray.size=us.length:=a3v ..;by_cases few:us.toArray.size<2
 .rw [ahF few,ahF few];refine aTi (ak8 ?_);rw[StateT.run_pure];refine aTi (ak8 (aTi (seqEpoch_at FJ 8 (aTi (aNs FJ 8 ?_ (hsz2:=by rw[Array.size_map];show(pairsOf us).size<=_;rw[pairsOf_size,aXE];lia))))));simp only[bne_self_eq_false,axr,aGD];refine ak8 (g (SortSt.mk' general' (us.toArray.zip us.toArray) #[] 07 none) (aTI _) λi j _ hij hj=>?_);rw[pairsOf_size]at hj;rw[show i=j by lia];exact aaP _
 .rw [aah few,aah few];have two:2<=us.length:=7
  let(k1,k2,):=hk two;refine aTi (k1 _ _ (aTi (aP5 (wR.tG (a₀:=pairsOf us) (st:=SortSt.mk' κ (us.toArray.zip us.toArray) #[] 07 none) (Q:=λ_ q=>(arrOf q).Perm (pairsOf us)/\failedOf q=none/\wR.dF ρ (arrOf q) 0 (pairsOf us).size) k2 (aTI _) 8 8 8 λq a1 a2 a3=>(a1,a2,a3,)) ?_ λ_ _ e=>e)));rintro⟨⟨⟩,q⟩ t ⟨rfl,hp,hf,hs⟩;refine aTi (seqEpoch_at FJ 8 (aTi (aNs FJ 8 ?_ (hsz2:=by rw[Array.size_map,hp.size_eq,pairsOf_size,aXE];lia))));dsimp only;rw[hf];simp only[bne_self_eq_false,axr,aGD];exact ak8 (g q hp hs)
theorem Wi{l:Addr}{us:List Value}{Q:Value->Shared->Prop}{κ:SortKind}{ρ:aD.RR}(hl:s.heap.IsList l us.toArray)(z:us.length<=1000000)
  (hk:2<=us.length->∀h':Heap,(∀b o,s.heap.get? b=!o->h'.get? b=!o)->(∀(E:Value->Shared->Prop)(Q:SortKind->Shared->Prop),Q κ { s with heap:=h' }->wpAny (model prog w) A.in1.in1 (keyKind' us.toArray) Q E { s with heap:=h' })/\aD.ig prog w A.in1.in1 { s with heap:=h' } κ ρ (pairsOf us))
  (g:∀q:SortSt,(arrOf q).Perm (pairsOf us)->wR.dF ρ (arrOf q) 0 (pairsOf us).size->Q (.ref (s.heap.objs.size+1)) { s with heap:=sortedAll s.heap us ((arrOf q).map (·.2)) }):wpAny (model prog w) A (call (.builtin "sorted") [.ref l]) Q E s:=by
 have zz:us.length<=sizeLine:=by rw[aXE];lia
 refine Calls.call_function_entry kind_sorted plain_sorted entry_sorted (args_sorted1 _) ?_;unfold Builtin.«sorted»;refine aTi (m:=checkCount "sorted" 1 1 _) (ak8 (aTi (collect_list hl (aTi (wpAny_newList ?_ zz)) zz)));have sz:((s.heap.push (seqObj "list" #[] 0)).update s.heap.objs.size (Obj.mapSeq (·++us.toArray))).objs.size=s.heap.objs.size+1:=by rw[Heap.size_update,size_push']
 have oL:(sf s.heap us).get? (s.heap.objs.size+1)=!(seqObj "list" us.toArray 0):=by unfold sf;rw[<-sz];exact aQ0 _ 8
 show wpAny _ _ _ _ _ { s with heap:=sf s.heap us };rw[sz];refine aTi (a7y (wpAny_call_entry slot_list_sort (_,oL,8,) entry_list_sort (VP (s:={ s with heap:=sf s.heap us }) (κ:=κ) oL z (λtwo=>hk two _ λb o e=>Xm (aOt (aXp (a2o e))) (Xl e)) λq a1 a2=>(_,8,?_,)) (args_list_sort _)));exact ak8 (_,8,g q a1 a2,)
end
theorem VO{α:Type}:∀{l:List α},2<=l.length->∃a b r,l=a ::b ::r
 | [],h=>absurd h (Nat.not_succ_le_zero 1)
 | [_],h=>absurd h (anG 1)
 |a ::b ::r,_=>(a,b,r,8,)
noncomputable def AR:aD.RR:=(λ_=>0,λp=>match p.1 with| .int n _=>n|_=>0,)
theorem N8{xs:Array Keyed}{i:Nat}:aD.Kg AR xs i=PyProof.Rows.K xs i:=by
 unfold aD.Kg PyProof.Rows.K;cases xs[i]? with
 |none=>rfl
 |some p=>let(v,u,):=p;cases v <;> rfl
inductive mG(K:W.Frag)(xs:List V)(H:Hp)(Q:VK):Prop
 |mk (p:Addr) (ns:List Int):xs=[.ref p]->ah K H p (ns.map V.int)->ns.length<=1000000->(∀(D:Addr)(os:List Int),H D=none->os.Perm ns->os.Pairwise (·<=·)->Q (.ref D) (upd H D (.lst (os.map V.int))))->mG K xs H Q
variable{K:W.Frag}{X:Cx}
theorem Q6(hK:X.K=K):bx X (.builtin "sorted") (mG K):=by
 subst hK;intro pins s σ H xs us Q I r h;let(p,ns,rfl,hq,hz0,q,):=h;let(u,rfl,rx,):=vals1 r;cases rx;let(its,rv,pl,hz,):=I.list hq;have hv:=EX rv;have lv:its.length=ns.length:=by have:=rv.length;rw[ano]at this;exact this.symm
 refine Wi (κ:=oneType') (ρ:=AR) pl.isList 7 (λtwo h' kp=>(λE Q hQ=>?_,λx mx y my E Q hQ=>?_,)) λst hp hs=>?_
 .let(v1,v2,rest,e,):=VO two;rw[e]at hv ⊢;rw[keyKind_ints hv];exact ak8 hQ
 .let(a,t,ea,):=hv.intKeys x mx;let(b,t',eb,):=hv.intKeys y my;rw[ea,eb];refine W.kat_lt_int ?_;have e1:AR.g x=a:=by unfold AR;dsimp only;rw[ea]
  have e2:AR.g y=b:=by unfold AR;dsimp only;rw[eb]
  rw[e1,e2]at hQ;exact hQ
 .let(ns',h1,h2,h3,):=sorted_out hv hp (λi j hij hj=>by rw[<-N8,<-N8];exact hs i j (agn _) hij hj);generalize(arrOf st).map (·.2)=out at *;let(e,he,):=sortedAll_at s.heap its out;have hz2:(ns'.map V.int).length<=sizeLine:=by rw[ano,h2.length_eq,aXE];lia
  have fr:H (s.heap.objs.size+1)=none:=I.hok.fresh (aD0 _);refine(.ref (s.heap.objs.size+1),_,I.laid (a:=s.heap.objs.size+1) (t':=s.toks) (o:=.lst (ns'.map V.int)) (λb o z=>sortedAll_old z) (aD0 _) (hz2,out.toList,e,LP h1,he,),8,q _ ns' fr h2 h3,)
end L2
set_option maxHeartbeats 1000000
namespace L2
open PySem PySem.Spec PyProof.Rows
noncomputable def Fd(d:Addr)(o:Obj)(kvs:List (Key×V)):It:=
 (λi H=>H d=!(.bH o (.dK kvs))/\i<kvs.length,λi H x H'=>H'=H/\∃k,kvs[i]?=!(k,x),λi H=>H d=!(.bH o (.dK kvs))/\kvs.length<=i,)
theorem yh:∀{kvs:List (Key×V)}{vs:List (Key×Value)},KV kvs vs->∀{i:Nat}{k:Key}{v:Value},vs[i]?=!(k,v)->∃x,kvs[i]?=!(k,x)/\RelV x v
 |_,_,.nil,i,k,v,h=>by simp at h
 |p ::r,q ::t,.cons a b,0,k,v,h=>by
  have e:q=(k,v):=by simpa using h
  subst e;let(p1,p2,):=p;let(h1,h2,):=a;cases h1;exact(p2,8,h2,)
 |p ::r,q ::t,.cons a b,i+1,k,v,h=>by
  let(x,e,rx,):=yh b (i:=i) (by simpa using h);exact(x,by simpa using e,rx,)
theorem YS{P:Program}{w:World}{K:W.Frag}{tg:Expr}(d it:Addr){o:Obj}{kvs:List (Key×V)}{es:Array DictEntry}{ep:Nat}(he:o.data=.dict es ep):Turn P w K tg (Fd d o kvs) [it] it (λi h=>h.IsValIter it d i kvs.length ep) where
 mem:=5
 obj:=λi h st b hb=>by
  have e:b=it:=by simpa using hb
  subst e;let(o,e,c,d,):=st;exact⟨o,e,λv z=>by rw[d]at z;cases z⟩
 keep:=λi h h' (o,ho,x,) k=>(o,k it 5 o ho,x,)
 item:=by
  intro X hP hw hK hc i pins s σ H E I hf st hg;subst hP hw hK;let(hd,hi,):=hg;let(hs,vs,r,m,):=O7 (I.hok d _ hd) he;have hlen:=r.length;rw[hlen]at st hi;let(f0,f1,f2,f3,f4,f5,):=hf it 5;obtain⟨⟨k,v⟩,hx⟩:∃p,vs[i]?=!p:=(vs[i],aMp hi,);refine wpAny_pyNext_values_item st m hx λh' st' sb=>?_;have I1:Inv X pins σ H { s with heap:=h' }:=I.turned (t':=s.toks) (λb o hb e=>(sb.2 b hb).trans e) f0 f1 f3 f4 f5;let(x,ex,rx,):=yh r hx;refine(v,8,letGo_valiter (s':={ s with heap:=h' }) st' (x,H,I1,rx,(8,k,ex,),?_,λb hb=>(hf b hb).1,),);show h'.IsValIter it d (i+1) kvs.length ep;rw[hlen];exact st'
 done:=by
  intro X hP hw hK hc i pins s σ H E I hf st hg;subst hP hw hK;let(hd,hi,):=hg;let(hs,vs,r,m,):=O7 (I.hok d _ hd) he;have hlen:=r.length;rw[hlen]at st hi;let(f0,f1,f2,f3,f4,f5,):=hf it 5;exact wpAny_pyNext_values_end (I.ok.hd hc) st m (ao4.mpr hi) λh' eb=>(8,I.turned (t':=s.toks) (λb o hb e=>eb b o hb e) f0 f1 f3 f4 f5,)
 self:=λ_ _ _ _ _ st h=>wpAny_pyIter_valiter st h
section
variable{X:Cx}{tg:Expr}
def VN(tl:TE):TI:=λσ H R=>tl σ H λx H1=>∃d kvs,x=.ref d/\H1 d=!(.dK kvs)/\∀o,R (Fd d o kvs) (upd H1 d (.bH o (.dK kvs)))
theorem Xj{l:Expr}{tl:TE}{apos cpos:Pos}(hl:PE X l tl)(hbase:attributeBase l "values" X.env (eval l X.env)=eval l X.env:=by rfl)(hline:(apos.endLine ==cpos.line)=true:=by rfl):PI X tg (.Call (.Attribute l "values" apos) [] [] cpos) (VN tl):=by
 intro pins s σ H R I h;refine wpAny_Call_method0_late hbase hline (cO (hl pins s σ H _ I h) λv s1 x H1 I1 r1 q1=>?_);let(d,kvs,e,hd,q,):=q1;subst e;cases r1;let(t1,t2,_,):=GJ I1 (.inl (kvs,.inl hd,));let(hz,hs,vs,rv,dd,):=I1.hok d _ hd;let(ep,m,):=dd.dictAt;let(o,es,ho,hx,he,rest,):=id m;refine("dict","dict.values",aNS,PySem.F.slot_dict_values,PySem.F.type_dict_values,t1,t2,aNE 8 (PySem.evalArgs_none ?_),);refine call_meetsIn PySem.F.slot_dict_values t1 PySem.F.entry_dict_values (PySem.F.args_dict_values_1 _) (meets_dict_values (ZN X.prog X.w) d hs) ((vs,dd,),?_,);generalize hh:s1.heap.push { cls:=.type "dict_values",data:=.fields #[.ref d] }=h2;have up:∀b o,s1.heap.get? b=!o->h2.get? b=!o:=λb o e=>by rw[<-hh];exact aJV _ e
 have sz:s1.heap.objs.size<=h2.objs.size:=by rw[<-hh,aRL];exact aD0 _
 have hv:h2.IsValuesView s1.heap.objs.size d:=by rw[<-hh];exact(_,aQ0 _ 8,8,8,)
 have I2:Inv X pins σ (upd H1 d (.bH o (.dK kvs))) { s1 with heap:=h2 }:=(I1.frozen hd ho).kept (t':=s1.toks) λb o e=>up b o e;have m2:h2.DictAt (ZN X.prog X.w) d vs ep:=m.at' λo e=>up d o e;refine wpAny_pyIter_values (s:={ s1 with heap:=h2 }) hv m2 ?_;refine(h2.objs.size,[h2.objs.size],117,I2.kept (t':=s1.toks) λb o e=>aJV _ e,YS d _ (kvs:=kvs) he,?_,λb hb=>?_,q o,)
 .show Heap.IsValIter _ _ d 0 kvs.length ep;rw[rv.length];exact(_,aQ0 _ 8,8,8,)
 .have e:b=h2.objs.size:=by simpa using hb
  subst e;exact I2.o8 (bbI _) (I2.hok.fresh (bbI _))
end
theorem YH{d:Addr}{o:Obj}{kvs:List (Key×V)}{g:TG}{tb:TS}{D:Ends}{σ:St}{H:Hp}(Pv:Nat->St->Hp->Prop)(h0:Pv 0 σ H)(hl:∀i σ H,i<=kvs.length->Pv i σ H->H d=!(.bH o (.dK kvs)))
  (hs:∀i k v σ H,kvs[i]?=!(k,v)->Pv i σ H->g v σ H λσ2 H2=>tb { D with nx:=Pv (i+1),ct:=Pv (i+1),bk:=D.nx } σ2 H2) (hd:∀ σ H,Pv kvs.length σ H->D.nx σ H) :
  ∃W:Nat->Nat->St->Hp->Prop,(∃m,W 0 m σ H)/\∀i m σ H,W i m σ H ->
   ((Fd d o kvs).stop i H/\D.nx σ H)\/((Fd d o kvs).go i H/\∃N:St->Hp->Prop,(∀ σ' H',N σ' H'->∃m',m'<m/\W (i+1) m' σ' H')/\∀x H',(Fd d o kvs).oi i H x H'->g x σ H' λσ2 H2=>tb { D with nx:=N,ct:=N,bk:=D.nx } σ2 H2):=by
 refine(λi m σ H=>m=kvs.length-i/\i<=kvs.length/\Pv i σ H,(kvs.length,5,agn _,h0,),?_,);rintro i m σ H ⟨rfl,hi,p⟩;have q:=hl i σ H hi p;by_cases hlt:i<kvs.length
 .refine .inr ((q,hlt,),Pv (i+1),λσ' H' z=>(kvs.length-(i+1),7,8,7,z,),λx H' z=>?_,);let(rfl,k,hkv,):=z;exact hs i k x σ _ hkv p
 .have e:i=kvs.length:=7
  subst e;exact .inl ((q,bbI _,),hd σ H p,)
def VM(td ty tx:TE):TE:=λσ H Q=>td σ H λx H1=>∃a,x=.ref a/\HW H1 a/\ty σ H1 λy H2=>tx σ H2 λz H3=>∃kvs k,H3 a=!(.dK kvs)/\y=kV k/\kvs.length<sizeLine /\
 (∀v,aW kvs k=!v->Q v H3)/\(aW kvs k=none->Q z (upd H3 a (.dK (putK kvs k z))))
section
variable{X:Cx}{o e f:Expr}{apos cpos:Pos}{td ty tx:TE}
theorem Xi(ho:PE X o td)(he:PE X e ty)(hf:PE X f tx)(m:M2 X o "setdefault" apos e f cpos):PE X (.Call (.Attribute o "setdefault" apos) [e,f] [] cpos) (VM td ty tx):=by
 intro pins s σ H Q I h;refine wpAny_Call_method m.base m.few m.line aNS PySem.F.slot_dict_setdefault PySem.F.type_dict_setdefault (bI (ho pins s σ H _ I h) λu s1 (x,H1,I1,rx,a,ex,d,q1,)=>?_);subst ex;obtain rfl:u=Value.ref a:=rx;let(t1,t2,_,):=GJ I1 d;refine(t1,t2,?_,);rw[m.trees];refine aNE 8 (azH (arw (cO (he pins s1 σ H1 _ I1 q1) λiv s2 y H2 I2 ry q2=>
  arw (bI (hf pins s2 σ H2 _ I2 q2) λfv s3 (z,H3,I3,rz,kvs,k,ea,ey,hlt,q3,q4,)=>anM ?_))))
 subst ey;let(zz,hd,vs,rel,dd,):=uB I3.hok ea;have hz:vs.length<=sizeLine:=by rw[<-rel.length];exact zz
 refine call_meetsIn PySem.F.slot_dict_setdefault dd.typeIs PySem.F.entry_dict_setdefault (PySem.F.args_dict_setdefault_3 _ _ _) (kt_meets_setdefault (ZN X.prog X.w) a (iR ry) hd fv) (vs,dd,hz,λv hv=>?_,λhn h' vp hs=>?_,)
 .have q:=rel.val k;rw[hv]at q;cases e:aW kvs k with
  |none=>rw[e]at q;cases cW.none_of q
  |some w'=>
   rw[e]at q;let(u,eu,ru,):=q.some_of;cases eu;exact(w',H3,I3.tok _,ru,q3 w' e,)
 .have hn':aW kvs k=none:=by
   have q:=(rel.val k).d7;rw[hn]at q;cases e:aW kvs k with
   |none=>rfl
   |some _=>rw[e]at q;cases q
  have he:∃q,h'.get? a=!q:=let(q,_,_,hq,_,):=vp;(q,hq,);have hl:(putK kvs k z).length<=sizeLine:=by have:=As kvs k z;lia
  exact(z,_,Hg I3 (by rw[ea];exact True.intro) hs he (KN hl hd (rel.put k rz) vp),rz,q4 hn',)
end
noncomputable def Um:HS:=λx y H Q=>∃l b xs zs,x=.ref l/\y=.ref b/\H l=!(.lst xs)/\H b=!(.lst zs)/\xs.length+zs.length<=sizeLine/\Q (.ref l) (upd H l (.lst (xs++zs)))
theorem QJ:typeLookup (.type "list") (dunderI "add")=pure (!(.builtin "list.__iadd__")):=PySem.F.slot_list_iadd.lookup
theorem VL{X:Cx}:L3 X .Add Um:=by
 intro pins s σ H x y v u Q I rx ry h;let(l,b,xs,zs,rfl,rfl,hH,hB,hz,q,):=h;cases rx;cases ry;let(z,its,n,r,hl,e,):=I.ju hH;let(z2,its2,n2,r2,hl2,e2,):=I.ju hB;have hsz:its.toArray.size+its2.toArray.size<=sizeLine:=by rw[a3v,a3v];lia
 have ug:¬((not (its.toArray.isEmpty)) && Builtin.List.listTooLong (its.toArray.size+its2.toArray.size))=true:=by
  rw[PK hsz,aPY];exact aJD
 have T1:s.TypeIs (.ref l) "list":=(_,e,8,);have T2:s.TypeIs (.ref b) "list":=(_,e2,8,);unfold inplaceOp;refine a7y ?_;have UE:fillsInplaceSlot (.type "list") "add" (Operator.Add == .Add)=pure false:=by
  show(typeLookup (.type "list") (dunderI "add") >>=_)=_;rw[QJ];rfl
 have hsi:seqSlot? (.type "list") (dunderI "add")=pure (!(.builtin "list.__iadd__")):=by
  unfold seqSlot?;rw[QJ];rfl
 refine aTi (wpAny_typeOf T1 (aTi (wpAny_of_eq UE ?_)));rw[aah aJD];refine aTi (wpAny_binaryOp1_none (nm:="add") T1 T2 noFill_list_add ?_);refine aTi (wpAny_of_eq hsi (aTi (aJI ?_)));refine call_meets PySem.F.slot_list_iadd T1 PySem.F.entry_list_iadd (PySem.F.args_list_iadd_2 _ _) (AutoSeq1.list___iadd___list_list_0 l its.toArray n b its2.toArray n2 ug (by rw[a3v];lia) 7) (e,e2,?_,);refine(.ref l,_,I.qT (its':=its++its2) hH e 5 (r.append r2) ?_,8,q,);rw[a96];lia
end L2
set_option maxHeartbeats 4000000
namespace L2
open PySem PySem.Spec PyProof.Rows
variable{X:Cx}
theorem Ph:eV X (compareOp .IsNot) (λx y H Q=>∃c d:Bool,x=.bl c/\y=.bl d/\Q (.bl ((not ((c ==d))))) H):=by
 intro pins s σ H x y v u Q I rx ry h;let(c,d,rfl,rfl,q,):=h;cases rx;cases ry;cases c <;> cases d <;> exact ak8 (ZG I q 8)
end L2

namespace uX
open PySem L2
theorem sL(n:Nat)(h:n ≤99:=by decide):n ≤sizeLine:=bbd h (by rw[aXE];decide)
variable{P:Program}{w:World}{K:W.Frag}{mg:Str->Option Value}{base:Heap}
noncomputable def top(i:Nat):Stmt:=PySem.Challenge.pw_nearstairs_k22_the_least_shown_or_not.main.body.getD i (.Pass (0,0,0,0,))
theorem Sw{N P:List Str}{sc:Scope}(a:sc.kind=.function:=by rfl)(b:sc.isCoroutine=false:=by rfl)(c:sc.isGenerator=false:=by rfl)(d:N.Nodup:=by decide +kernel)(e:N.take P.length=P:=by rfl)(f:∀x∈P,sc.names.lookup x=!.local\/sc.names.lookup x=!.cell:=by decide +kernel)(g:∀y∈sc.names,y.2≠.free:=by decide +kernel):d8 N P sc:=(a,b,c,d,e,f,g,)
open Lean in
local macro_rules|`(command|#reduce 1)=>do
 let mut r:Array (TSyntax `command):=#[]
 for x in "iD Az pD lY 1 99 2 shelves board;gz yN nG j5 8 99 1 thing;mC E8 uT qI 10 99 4 places mates board out;tF L6 Ax vN 11 99 3 mates board out;bY iZ iW gO 12 99 4 shelves places row order standing missed board out mates;eO vG jB iC 13 99 1 row told behind at board;cZ iY iV mj 14 99 3 shelves places row standing again order board behind mates out latest;cX kY kU jd 16 99 1 row;cD qx fV eY 17 99 2 shelves row told at board;cR rG gv fD 18 99 3 again costs at within choices ahead;eN vF jA iA 19 99 2 fee row again costs aheads at cost ahead marks mark;dO nN nH j6 21 99 5 shelves row marks first last shelf;kj w4 wW sW 22 99 4 shelves places row marks free;cY iX iU mh 23 99 3 shelves places row marks spots asked;gA yO nI j7 24 99 2 row thing last mark;eG vE eT iz 25 99 5 shelves places row order marks missed;dP nO nK j9 27 0 4 self shelves places rule;iG AB pG mz 27 1 2 self board;fJ xh kX ji 27 2 2 self board out;iF AA pF mw 27 3 2 self board mates;gD yQ nL kg 27 4 2 self board;gC yP nJ j8 27 7 2 self board;fH xg kW jh 27 8 2 self board;cE qy fY eZ 27 9 2 self board mates;aM fZ bV eE 27 10 2 self mates;xN Rc E4 zg 29 99 2 room board;gg rE jP oF 30 99 4 shelves places rule row room;iE uV nF qG 31 99 4 shelves places rule row;xM Rb E3 ze 33 99 2 _law_script _law_k _law_cell;tE L5 uS vM 34 99 2 _law_box_here _law_size _law_found _law_step _law_once _law_twice;mD Fb uU qJ 35 99 2 _law_script _law_size _law_cells _law_k _law_cell;cL jC jy iy 36 99 2 _law_box_here _law_size _law_many _law_way _law_begin _law_first _law_found _law_far _law_k _law_at;pQ HU qq sV 37 99 1 _law_box_here _law_far _law_shelves;pR HV qv sZ 38 99 3 _law_box_here _law_few _law_most _law_some _law_size _law_way _law_found _law_k _law_drawn _law_back _law_turned _law_often;kh wX wV sU 39 99 5 _law_shelves _law_places _law_there _law_board _law_gone _law_some;gh rF jQ oH 40 99 4 _law_shelves _law_places _law_row _law_choice _law_there _law_missed _law_board _law_gone;bL eW eU iB 41 99 4 _law_box_here _law_shelves _law_places _law_row _law_there _law_found _law_board _law_some _law_gone;dg kZ fW je 42 99 3 _law_box_here _law_choice _law_row _law_way _law_at _law_odd _law_other _law_some;dZ jR rD oG 43 99 4 _law_shelves _law_places _law_row _law_marks _law_found _law_j _law_board _law_behind _law_over;fE wY fU jc 44 99 2 _law_box_here _law_row _law_way _law_found _law_place;fG w6 fX jg 45 99 3 _law_box_here _law_marks _law_size _law_way _law_at _law_odd _law_front _law_here _law_back _law_some;mE uW yM zd 46 99 5 _law_shelves _law_places _law_row _law_choice _law_marks _law_missed;aZ dY dX gK 47 99 1 _law_box_here _law_board _law_row _law_choice _law_marks _law_odd;ki wZ qt lZ 48 99 1 _law_box_here _law_shelves _law_places _law_rule _law_row _law_orders _law_papers _law_turn _law_choice _law_marks _law_kept _law_found _law_missed;fF E9 qu zc 49 99 1 _law_script _law_cells".splitOn ";" do
  let z:=x.splitOn " "
  let f:=λi=>mkIdent (.mkSimple z[i]!)
  let d:=λi=>Syntax.mkNumLit z[i]!
  let [s,n,p,c]:=[f 0,f 1,f 2,f 3]|Macro.throwUnsupported
  let q:TSyntaxArray `term:=((z.drop 07).map quote).toArray
  let e<-if z[05]! =="99" then `(top $(d 4)) else `(WX (top $(d 4)) $(d 05))
  r:=r++#[<-`(command|noncomputable abbrev $s:ident:Stmt:=$e),<-`(command|noncomputable abbrev $n:ident:List Str:=[$q,*]),<-`(command|noncomputable abbrev $p:ident:List Str:=($n).take $(d 06)),<-`(command|theorem $c:ident:d8 $n $p (Zp $s):=Sw)]
 return mkNullNode r
#reduce 1
set_option hygiene false
open Lean in
local macro_rules|`(command|example:($t):=$v)=>do
 let `(by $q:tacticSeq):=v|Macro.throwUnsupported
 let `($o $a*):=t|Macro.throwUnsupported
 let u:=("bD - tE vM uS _law_take _law_take 1 oB;CP - cL iy jy _law_some_boards _law_some_boards 2 lX;lC - iD lY pD shelf_of shelf_of 1 pM;tK Room iG mz pG has Room.has 1 xF K;xW Room gC j8 nJ need Room.need 2 sE K;pU Room fH jh kW mates Room.mates 2 pN K;CU Room cE eZ fY leaver_for Room.leaver_for 3 lS K;C0 Room gD kg nL drop Room.drop 3 sO K;CW Room iF mw pF use Room.use 3 xE K;CN Room fJ ji kX bring Room.bring 4 pO K;BO Room dP j9 nK __init__ Room.__init__ 1 sA K;BN - xN zg E4 ask ask 5 xJ K;xT - gg oF jP run_row run_row 7 sy K;xV - gz j5 nG is_number is_number 1 sD;BV - mC qI uT may_go may_go 2 sJ K;xX - tF vN Ax come come 1 sQ;BR - kh sU wV _law_stood _law_stood 1 pL K;tL - eO iC jB asked_again asked_again 1 pP K;CM - cX jd kU returns_of returns_of 2 sC K;CZ - dO j6 nH is_marked is_marked 2 Co K;CS - cR fD gv cheapest_ahead cheapest_ahead 1 Cq K;CT - cD eY fV places_by_shelf places_by_shelf 2 Cn K;CO - eN iA jA least_marks least_marks 2 Cp K;CQ - bY gO iW count_misses count_misses 3 xG K;CY - gA j7 nI are_marks are_marks 2 xK K;BQ - kj sW wW bound bound 3 sR K;xS - gh oH jQ _law_counted _law_counted 2 sP K;CV - dZ oG rD _law_bound _law_bound 1 sR K;xU - cZ mj iV farthest farthest 8 sM K;vc - eG iz eT shows_least shows_least 4 lQ K;BL - xM ze E3 _law_box _law_box 1 xH K;BU - mD qJ uU _law_folded _law_folded 1 lU K;qL - pQ sV qq _law_shape _law_shape 2 jX;qP - pR sZ qv _law_asked _law_asked 3 j4;oK - iE qG nF misses misses 8 oE K;kB - cY mh iU marks_of marks_of 3 sI K;gS - bL iB eU _law_drawn_order _law_drawn_order 2 sN K;iH - fE jc fU _law_some_marks _law_some_marks 2 y9 K;iM - dg je fW _law_bent_order _law_bent_order 2 jZ K;vW - mE zd yM _law_due _law_due 3 lQ K;iN - fG jg fX _law_bent_marks _law_bent_marks 2 j0 K;gk - aZ gK dX _law_truths_right _law_truths_right 9 su K;vV - fF zc qu law law 11 lT K".splitOn ";").map (·.splitOn " ")
 let f:=λx:Syntax=>(u.find? λr=>r.head! ==toString x.getId).getD []
 let i:=λs=>mkIdent (.mkSimple s)
 let g:=λ(z:List String)=>show MacroM Term from if z.length=10 then `($(i z[08]!) K) else pure (i z[08]!)
 let b<-(a.extract 1 a.size).mapM λ(x:TSyntax `term)=>do
  let y:=#[(⟨x.raw⟩:Ident)]
  match x.raw.getId,f x with
  |`CL,_=>`(Parser.Term.bracketedBinderF|(CL:uY P w K mg base (aI K "Room") "going" 2 bV (ir K)))
  |`BP,_=>`(Parser.Term.bracketedBinderF|(BP:Def P w K mg base "_law_right" 10 qt (jY K)))
  |_,[]=>Macro.throwUnsupported
  |_,z=>
   let c:=Syntax.mkStrLit z[1]!
   let n:=Syntax.mkStrLit z[05]!
   let l:=Syntax.mkNumLit z[07]!
   let p:=i z[4]!
   let s<-g z
   if z[1]! =="-" then `(Parser.Term.bracketedBinderF|($y*:Def P w K mg base $n $l $p $s)) else if z[05]! =="__init__" then `(Parser.Term.bracketedBinderF|($y*:AE P w K mg base (aI K $c) $c $l $p $s)) else `(Parser.Term.bracketedBinderF|($y*:uY P w K mg base (aI K $c) $n $l $p $s))
 let z:=f a[0]!
 let [s,c,p]:=[i z[2]!,i z[3]!,i z[4]!]|Macro.throwUnsupported
 let [n,m]:=[Syntax.mkStrLit z[05]!,Syntax.mkStrLit z[06]!]|Macro.throwUnsupported
 let l:=Syntax.mkNumLit z[07]!
 let h<-g z
 `(command|theorem $(⟨o⟩) (F:rM K $n $m $s f fd)(T:Txt K mg)$b:bracketedBinder*:cN P w K mg base lN $l f fd $p ($h):=by
   refine F.ok $c (λvs H Q E h=>by first|(cases h;subst_vars;rfl)|repeat' first|(obtain⟨rfl,_⟩:=h;rfl)|obtain⟨_,h⟩:=h) λcdv A outer st H vs Q E hr h=>?_;have nd:=($c).nd;have hu:=ue hr
   ($q))
structure Txt(K:W.Frag)(mg:Str->Option Value):Prop where
 Fx:mg "abs"=none
 BK:mg "all"=none
 Fw:mg "any"=none
 AM:mg "bool"=none
 Ie:mg "divmod"=none
 AW:mg "enumerate"=none
 vd:mg "int"=none
 qK:mg "isinstance"=none
 dw:mg "len"=none
 vQ:mg "list"=none
 AL:mg "max"=none
 Fv:mg "min"=none
 nR:mg "range"=none
 BS:mg "sorted"=none
 Ft:mg "str"=none
 Fq:mg "tuple"=none
 AK:mg "zip"=none
 fK:uZ K (aI K "Room")
 Mf:cz K (aI K "Room") "places"
 Ih:cz K (aI K "Room") "rule"
 Mg:cz K (aI K "Room") "shelves"
 Mh:cz K (aI K "Room") "standing"
 AV:cz K (aI K "Room") "uses"
 vI:mg "StairError"=!(.ref (aI K "StairError"))
 Fp:mg "There"=!(.ref (aI K "There"))
 yW:mg "NotThere"=!(.ref (aI K "NotThere"))
 AJ:mg "NoShelf"=!(.ref (aI K "NoShelf"))
structure aA(H:Hp)(b:Addr)(a q c:Int):Prop where
 at':H b=!(.lst [.int a,.int q,.int c])
 a0:0<=a
 q0:0<=q
 q1:q<2147483647
 c0:0<=c
theorem aA.sb{H H':Hp}{b x:Addr}{a q c:Int}(B:aA H b a q c)(s:SB x H H')(n:b≠x):aA H' b a q c:=(s _ _ n B.at',B.a0,B.q0,B.q1,B.c0,)
theorem aA.same{H H':Hp}{b:Addr}{a q c:Int}(B:aA H b a q c)(s:ak H H'):aA H' b a q c:=(s _ _ B.at',B.a0,B.q0,B.q1,B.c0,)
inductive oB(vs:List V)(H:Hp)(Q:VK)(E:XK):Prop
 |mk (b:Addr) (a q c n:Int):vs=[.ref b,.int n]->aA H b a q c->c<1099511627776->0<n->n<1073741824->(∀(r a' c':Int)(H':Hp),0<=r->r<n->aA H' b a' q c'->c'<=c+1->SB b H H'->Q (.int r) H')->oB vs H Q E
theorem wF(a:Int){b:Int}(h:0<b):0<=a%b:=aFA a 7
theorem wD(a:Int){b:Int}(h:0<b):a%b<b:=azk a h
example:(vU bD):=by
 let(b,a,q,c,n,rfl,B,hc,hn0,hn1,k,):=h;refine(_,(Zf (aF (Zq ya (av (Zo (K:=K) 8) (pv 0) Zh (λ_ _=>8)) Zh (Zu _)) (Zf (uN (Zl Zey 8 T.Ie ZeA (pc (av (Zo (K:=K) 8) (pv 0) Zh (λ_ _=>8)) (pc (pv 1) Zc))) (ZR (K:=K) (n:=2) 8 8 (Zs (Bo (pv 0) Zh Bx) (Zs (bu 2 nd) ZQ))))
   (Zj (Zr (pv 2)))) Zw)
   (Zf (uN (aa ZB (av (Zo (K:=K) 8) (pv 0) Zh (λ_ _=>8)) Zh) (Bo (pv 0) Zh Bx))
   (Zf (aY 3 nd (aa ZB Zh (aa qp (av (Zo (K:=K) 8) (pv 0) Zh (λ_ _=>8)) (av (Zo (K:=K) 8) (pv 0) Zh (λ_ _=>8)))))
   (Zf (aY 4 nd (aa i9 (aa qp (aa ZB (av (Zo (K:=K) 8) (pv 0) Zh (λ_ _=>8)) (aa qp Zh (av (Zo (K:=K) 8) (pv 0) Zh (λ_ _=>8)))) (pv 3)) Zh))
   (Zf (aY 05 nd (aa i9 (aa ZB (aa qp (pv 4) (aa ZB (aa i9 (pv 4) Zh) Zh)) (av (Zo (K:=K) 8) (pv 0) Zh (λ_ _=>8))) Zh))
   (Zj (Zr (aa i9 (aa EG (aa i9 (aa qp (pv 05) (aa ZB (aa i9 (pv 05) Zh) Zh)) Zh) Zh) (pv 1))))))))),?_,)
 have hb:=B.at';have hc0:=B.c0;have M9:=B.q0;have hq1:=B.q1;refine(_,8,b,135,ah.of hb,nu,177,?_,);refine ZJ (λha=>?_) (λha=>?_)
 .refine (_,8,b,135,ah.of hb,nu,141,(hn0,hn1,),λp hp=>?_,);have UP:upd H p (.tup [.int (a/n),.int (a%n)]) b=!(.lst [.int a,.int q,.int c]):=by rw[Zg (Ze hb hp)];exact hb
  refine(p,_,8,bS.of Za,125,(_,8,b,_,_,0,8,8,UP,8,?_,),);refine(177,?_,);exact k _ (a/n) c _ (wF _ hn0) (wD _ hn0) (Za,Int.ediv_nonneg B.a0 7,M9,hq1,hc0,) 7 ((Zb hp _).sb b|>.trans (Bl b _ _))
 .refine (_,8,b,135,ah.of hb,rm,177,b,_,_,2,8,8,hb,8,?_,);have hb1:upd H b (.lst [.int a,.int q,.int (c+1)]) b=!(.lst [.int a,.int q,.int (c+1)]):=Za;have i0:ah K (upd H b (.lst [.int a,.int q,.int (c+1)])) b [.int a,.int q,.int (c+1)]:=ah.of hb1;refine(_,8,b,135,i0,rm,_,8,b,135,i0,rm,119,.inl (7,7,),119,?_,);refine(_,8,b,135,i0,wJ,_,8,b,135,i0,rm,119,.inl (9,9,),1335,.inl (7,7,),119,(by show(0:Int)<_;decide),?_,);generalize Nb:(q+39373*(c+1))*(69621+(c+1)*(c+1))%2147483587=on;have on0:0<=on:=by rw[<-Nb];exact wF _ 9
  have on1:on<2147483587:=by rw[<-Nb];exact wD _ 9
  refine(439,(by show(0:Int)<_;decide),407,.inl (7,7,),_,8,b,135,i0,rm,407,(by show(0:Int)<_;decide),?_,);generalize htw:(on*(on%30011+05)+(c+1))%2147483563=tw;have tw0:0<=tw:=by rw[<-htw];exact wF _ 9
  have tw1:tw<2147483563:=by rw[<-htw];exact wD _ 9
  refine(439,(by show(0:Int)<_;decide),407,.inl (7,7,),119,(by show(0:Int)<_;decide),119,(9,9,),183,hn0,?_,);exact k _ a (c+1) _ (wF _ hn0) (wD _ hn0) (hb1,B.a0,M9,hq1,7,) 7 (Bl b _ _)
inductive xH(K:W.Frag)(vs:List V)(H:Hp)(Q:VK)(E:XK):Prop
 |mk (l:Addr) (ns:List Int) (k:Int):vs=[.ref l,.int k]->ah K H l (ns.map V.int)->0<=k->k<1000000->(∀(r:Addr)(a q:Int)(H':Hp),H r=none->ak H H'->aA H' r a q 0->Q (.ref r) H')->xH K vs H Q E
theorem yi(b:Bool): -(2 ^ 64)<(if b then 1 else 0:Int)/\(if b then 1 else 0:Int)<2 ^ 64:=by cases b <;> decide
theorem Qi{ns:List Int}{k:Int}(h0:0<=k)(h:k<(ns.length:Int)):∃v:Int,cV (ns.map V.int) k=!(.int v):=by
 have hk:k.toNat<ns.length:=7
 have q:cV (ns.map V.int) ((k.toNat:Nat):Int)=!(.int ns[k.toNat]):=ZY (by rw[aGb,aMp hk] <;> rfl);rw[show((k.toNat:Nat):Int)=k by lia]at q;exact(_,q,)
theorem VJ(i:Int):0<=(if i<0 then -i else i):=by split <;> lia
theorem Pg(i:Int)(b:Bool):0<=(if i<0 then -i else i)*(if b then 1 else 0:Int):=Int.mul_nonneg (VJ i) (by cases b <;> decide)
example:(zB BL):=by
 let(l,ns,k,rfl,hS,hk0,hk1,kk,):=h;refine(_,(Zf (aY 2 nd (uM (Zq cF (pv 1) (Zl (Zn (K:=K) 8) 8 T.dw arj (pc (pv 0) Zc)) (Zu _)) (av (Zo (K:=K) 8) (pv 0) (pv 1) (λ_ _=>8)) Zh))
   (Zj (Zr (Zv (pc (aa qp (Zl PR 8 T.Fx Pz (pc (pv 2) Zc)) (ZO ET 8 T.vd yI (pc (qo mJ (Zl PR 8 T.Fx Pz (pc (pv 2) Zc)) (aa K1 Zh Zh) (Zu _)) Zc))) (pc (aa i9 (aa qp (aa ZB (aa ZB (aa i9 (pv 2) Zh) (aa qp Zh (pv 1))) Zh) Zh) Zh) (pc Zh Zc))))))),?_,)
 refine(121,l,_,8,.inl hS,177,?_,);refine ZJ (λc=>?_) (λc=>?_)
 .rw [ano]at c;let(v,hv,):=Qi hk0 c;refine(121,l,135,hS,hv,?_,);refine(5559,(9,9,9,),119,.inr (183,.inr (yi _),?_,),);refine(183,(by show(0:Int)<_;decide),183,.inl (9,9,),5015,.inr (9,9,),119,(by show(0:Int)<_;decide),(sL 3),λr hr=>?_,);exact kk r _ _ _ hr (Zb hr _) (Za,Pg _ _,wF _ 9,wD _ 9,aaP _,)
 .refine (5559,(9,9,9,),119,.inr (183,.inr (yi _),?_,),);refine(183,(by show(0:Int)<_;decide),183,.inl (9,9,),5015,.inr (9,9,),119,(by show(0:Int)<_;decide),(sL 3),λr hr=>?_,);exact kk r _ _ _ hr (Zb hr _) (Za,Pg _ _,wF _ 9,wD _ 9,aaP _,)
inductive lU(K:W.Frag)(vs:List V)(H:Hp)(Q:VK)(E:XK):Prop
 |mk (a:Addr) (ns:List Int) (n:Nat):vs=[.ref a,.int (n:Int)]->ah K H a (ns.map V.int)->ns.length<=63->0<n->n<=63->(∀(r:Addr)(ms:List Int)(H':Hp),H r=none->ak H H'->H' r=!(.lst (ms.map V.int))->ms.length=min n ns.length->Q (.ref r) H')->lU K vs H Q E
theorem Lh(ns:List Int)(lo hi:Option Int):ao (ns.map V.int) lo hi=((ns.drop (HT.gi ns.length 0 lo)).take (HT.gi ns.length ns.length hi-HT.gi ns.length 0 lo)).map V.int:=by
 unfold ao;rw[ano,<-List.map_drop,<-List.map_take]
theorem HF(ms:List Int)(j:Nat)(v:Int):(ms.map V.int).set j (.int v)=(ms.set j v).map V.int:=by rw[List.map_set]
theorem KS{n:Nat}{i:Int}(h0:0<=i)(h:i<n):qU n i=!i.toNat:=by unfold qU;rw[ahF h0,ahF h]
theorem VI{ms:List Int}{i:Nat}{x:V}(h:(ms.map V.int)[i]?=!x):∃z,x=V.int z/\i<ms.length:=by
 rw[aGb]at h;cases e:ms[i]? with
 |none=>rw[e]at h;cases h
 |some z=>rw[e]at h;exact(z,(aFB h).symm,(aFR.mp e).1,)
example:(qO BU):=by
 let(a,ns,n,rfl,hS,h63,hn0,hn1,k,):=h;refine(_,(Zf (aY 2 nd (ZO (Q2 (K:=K) 8) 8 T.vQ Ar (pc (ZK (ZL (K:=K) 8) (pv 0) ZI (ZE (pv 1))) Zc)))
   (Zf (nZ aDP 8 (Hi 8 T.AW (pc (ZK (ZL (K:=K) 8) (pv 0) (ZE (pv 1)) (ZE Zh)) Zc)) (ZR (K:=K) (n:=2) 8 8 (Zs (bu 3 nd) (Zs (bu 4 nd) ZQ))) (Zj (uN (aa ZB (av (Zo (K:=K) 8) (pv 2) (aa i9 (pv 3) (pv 1)) (λ_ _=>8)) (aa qp (pv 4) (aa ZB (pv 3) Zh))) (Bo (pv 2) (aa i9 (pv 3) (pv 1)) Bx))))
   (Zj (Zr (pv 2))))),?_,)
 refine(185,a,_,8,hS,λp hp=>?_,);have s1:=Zb hp (.lst (ao (ns.map V.int) none (!(n:Int))));refine(p,_,8,.inl (ah.of Za),λr hr1=>?_,);have s2:=s1.trans (Zb hr1 (.lst (ao (ns.map V.int) none (!(n:Int)))));have M8:H r=none:=s1.free hr1;rw[Lh]at *;generalize hms:(ns.drop (HT.gi ns.length 0 none)).take (HT.gi ns.length ns.length (!(n:Int))-HT.gi ns.length 0 none)=ms at *;have Jq:ms.length=min n ns.length:=by
  rw[<-hms,HT.mF,HT.ko,bby,aPq];lia
 generalize UW:upd (upd H p (.lst (ms.map V.int))) r (.lst (ms.map V.int))=H2 at *;have Nn:H2 r=!(.lst (ms.map V.int)):=by rw[<-UW];exact Za
 refine(441,a,_,8,s2.seq hS,λt ht=>?_,);rw[Lh];generalize hws:(ns.drop (HT.gi ns.length 0 (!(n:Int)))).take (HT.gi ns.length ns.length (!63)-HT.gi ns.length 0 (!(n:Int)))=ws;have T3:0<ws.length->n<ns.length:=λh=>by
  rw[<-hws,bby,aPq,HT.ko]at h;lia
 have T4:ws.length<=63:=by rw[<-hws,bby,aPq];lia
 have s3:=s2.trans (Zb ht (.lst (ws.map V.int)));have MC:r≠t:=Ze Nn ht;refine(t,8,(_,ah.of Za,),Lx (K:=K) (a:=t) (xs:=ws.map V.int) (λi σ H'=>∃(ms':List Int)(v3 v4:Option V),σ=[!(.ref a),!(.int n),!(.ref r),v3,v4]/\ms'.length=min n ns.length/\H' r=!(.lst (ms'.map V.int))/\H' t=!(.lst (ws.map V.int))/\ak H H')
  (ms,none,none,8,Jq,by rw[Zg MC];exact Nn,Za,s3,) (λi σ H' _ w9=>by let(_,_,_,_,_,_,q,_,):=w9;exact ah.of q) ?_ ?_,)
 .rintro i x u σ H' hi ⟨ms',v3,v4,rfl,lm,h1,h2,s4⟩ hu;let(z,rfl,hlt,):=VI hi;have hnl:=T3 7;have s5:=Zb hu (.tup [.int (i:Int),.int z]);refine(u,_,8,bS.of Za,503,?_,);have m0:0<=(i:Int)%(n:Int):=wF _ 7;have m1:(i:Int)%(n:Int)<(n:Int):=wD _ 7;let(v,hv,):=Qi (ns:=ms') m0 7;refine(1463,(by show(0:Int)<_;lia),r,135,ah.of (s5 _ _ h1),hv,?_,);refine(5527,.inr (7,7,),119,?_,);refine(1463,(by show(0:Int)<_;lia),r,_,_,((i:Int)%(n:Int)).toNat,8,8,s5 _ _ h1,KS m0 (by rw[ano];lia),?_,);refine(ms'.set ((i:Int)%(n:Int)).toNat (v+z*((i:Int)+2)),109,by rw[length_set];exact lm,by rw[Za,HF],?_,?_,)
  .rw [Zg (aUP MC)];exact s5 _ _ h2
  .intro b o e;rw[Zg (Ze e M8)];exact s5 _ _ (s4 _ _ e)
 .rintro σ H' ⟨ms',v3,v4,rfl,lm,h1,h2,s4⟩;exact(_,8,k r ms' H' M8 s4 h1 lm,)
theorem hide{t u:TS}{D:Ends}{σ:St}{H:Hp}(h:∀u',u'=u->qD t u' D σ H):qD t u D σ H:=h u 8
theorem NO{te:TE}{σ:St}{H:Hp}{Q:VK}(Post:V->Hp->Prop)(h1:∀Q':VK,(∀v H1,Post v H1->Q' v H1)->te σ H Q')(h2:∀v H1,Post v H1->Q v H1):te σ H Q:=h1 Q h2
theorem yD{te:TE}{g:TG}{u:TS}{D:Ends}{σ:St}{H:Hp}(Post:V->Hp->Prop)(h1:∀Q':VK,(∀v H1,Post v H1->Q' v H1)->te σ H Q')(h2:∀v H1,Post v H1->g v σ H1 (u D)):qD (ow te g) u D σ H:=h1 _ h2
theorem uD{ts u:TS}{D:Ends}{σ:St}{H:Hp}(Post:St->Hp->Prop)(h1:∀D':Ends,D'.rt=D.rt->(∀ σ1 H1,Post σ1 H1->D'.nx σ1 H1)->ts D' σ H)(h2:∀ σ1 H1,Post σ1 H1->u D σ1 H1):qD ts u D σ H:=h1 _ 8 h2
theorem Km{tt:TT}{ta tb:TE}{σ:St}{H:Hp}{Q:VK}(Post:Bool->Hp->Prop)(h1:∀Q':Bool->Hp->Prop,(∀v H1,Post v H1->Q' v H1)->tt σ H Q')(h2:∀c H1,Post c H1->if c=true then ta σ H1 Q else tb σ H1 Q):FD tt ta tb σ H Q:=h1 _ h2
theorem yC{tt:TT}{ta tb:TS}{D:Ends}{σ:St}{H:Hp}(Post:Bool->Hp->Prop)(h1:∀Q':Bool->Hp->Prop,(∀v H1,Post v H1->Q' v H1)->tt σ H Q')(h2:∀c H1,Post c H1->if c=true then ta D σ H1 else tb D σ H1):Ce tt ta tb D σ H:=h1 _ h2
theorem Kl{t u:TT}{σ:St}{H:Hp}{Q:Bool->Hp->Prop}(Post:Bool->Hp->Prop)(h1:∀Q':Bool->Hp->Prop,(∀v H1,Post v H1->Q' v H1)->t σ H Q')(h2:∀c H1,Post c H1->if c=true then Q true H1 else u σ H1 Q):Mr t u σ H Q:=h1 _ h2
theorem Lo{b l:Addr}{H G:Hp}{xs:List V}(s:SB b H G)(hb:G b=!(.lst xs))(hl:G l=none):H l=none:=by
 cases e:H l with
 |none=>rfl
 |some o=>
  by_cases h:l=b
  .rw [h,hb]at hl;cases hl
  .rw [s _ _ h e]at hl;cases hl
theorem yH{ns:List Int}{k:Int}(h0:0<=k)(h:k<(ns.length:Int)):∃v:Int,cV (ns.map V.int) k=!(.int v)/\v∈ns:=by
 have hk:k.toNat<ns.length:=7
 have q:cV (ns.map V.int) ((k.toNat:Nat):Int)=!(.int ns[k.toNat]):=ZY (by rw[aGb,aMp hk] <;> rfl);rw[show((k.toNat:Nat):Int)=k by lia]at q;exact(_,q,apl hk,)
theorem vB(ns:List Int):(ns.map V.int).all bR=true:=by
 rw[ap9];intro x hx;let(n,_,rfl,):=aFN.mp hx;rfl
theorem Xh{n:Nat}(h:0<n):qU n (-1)=!(n-1):=by
 unfold qU;rw[aah 9,ahF 7];congr 1
 lia
theorem Lg{ns:List Int}{j:Nat}{v x:Int}(h:x∈ns.set j v):x∈ns\/x=v:=by
 rcases List.mem_or_eq_of_mem_set h with h|h
 .exact .inl h
 .exact .inr h
theorem aQ{b:Bool}{A B:Prop}(h:b=false)(hB:B):if b=true then A else B:=by subst h;rw[aah aJD];exact hB
theorem aO{b:Bool}{A B:Prop}(h:b=true)(hA:A):if b=true then A else B:=by subst h;rw[ahF 8];exact hA
theorem HE{α:Type}{xs:List α}{i:Int}(h0:0<=i)(h1:i<(xs.length:Int)):∃v,cV xs i=!v/\v∈xs:=by
 have hk:i.toNat<xs.length:=7
 have q:cV xs ((i.toNat:Nat):Int)=!xs[i.toNat]:=ZY (aMp hk);rw[show((i.toNat:Nat):Int)=i by lia]at q;exact(_,q,apl hk,)
theorem VH(x y:Int)(k:Bool):∃n:Int,cV [V.int x,V.int y] (if k=true then 1 else 0)=!(.int n)/\(n=x\/n=y):=by
 cases k with
 |true=>exact(y,wJ,.inr 8,)
 |false=>exact(x,nu,.inl 8,)
theorem C6(x y r:Int)(h0:0<=r)(h1:r<2):∃n:Int,cV [V.int x,V.int y] r=!(.int n)/\(n=x\/n=y):=by
 have h:r=0\/r=1:=7
 rcases h with rfl|rfl
 .exact (x,nu,.inl 8,)
 .exact (y,wJ,.inr 8,)
theorem VG(r:Int)(h0:0<=r)(h1:r<4):∃n:Int,cV [V.int 1,V.int 1,V.int 12,V.int 24] r=!(.int n)/\(n=1\/n=12\/n=24):=by
 let(x,hx,m,):=HE (xs:=[V.int 1,V.int 1,V.int 12,V.int 24]) h0 (by show r<((4:Nat):Int);lia);simp only[acu,aYt,a5s]at m;rcases m with rfl|rfl|rfl|rfl
 .exact (_,hx,.inl 8,)
 .exact (_,hx,.inl 8,)
 .exact (_,hx,.inr (.inl 8),)
 .exact (_,hx,.inr (.inr 8),)
theorem C5(r:Int)(h0:0<=r)(h1:r<05):∃v,cV [V.int 1,V.int 1,V.int 2,V.int 3,V.int 4] r=!(.int v)/\1<=v/\v<=64:=by
 let(x,hx,m,):=HE (xs:=[V.int 1,V.int 1,V.int 2,V.int 3,V.int 4]) h0 (by show r<((05:Nat):Int);lia);simp only[acu,aYt,a5s]at m;rcases m with rfl|rfl|rfl|rfl|rfl <;> exact(_,hx,9,9,)
def uR(z:Str):Prop:=z ="old" \/z ="come" \/z ="few"
theorem C3(r:Int)(h0:0<=r)(h1:r<3):∃z:Str,cV [V.str "old",V.str "come",V.str "few"] r=!(.str z)/\uR z:=by
 let(x,hx,m,):=HE (xs:=[V.str "old",V.str "come",V.str "few"]) h0 (by show r<((3:Nat):Int);lia);simp only[acu,aYt,a5s]at m;rcases m with rfl|rfl|rfl
 .exact (_,hx,.inl 8,)
 .exact (_,hx,.inr (.inl 8),)
 .exact (_,hx,.inr (.inr 8),)
theorem YG{s:Int}(h0:1<=s)(h1:s<=16):555<=9999/s/\9999/s<=9999/\1<=(if 10000/s-480>1 then 10000/s-480 else 1)/\(if 10000/s-480>1 then 10000/s-480 else 1)+455<=9999/s:=by
 have key:∀n:Fin 17,1<=(n.val:Int)->(555<=9999/(n.val:Int)/\9999/(n.val:Int)<=9999/\1<=(if 10000/(n.val:Int)-480>1 then 10000/(n.val:Int)-480 else 1)/\(if 10000/(n.val:Int)-480>1 then 10000/(n.val:Int)-480 else 1)+455<=9999/(n.val:Int)):=6
 have e:(((s.toNat,7,):Fin 17).val:Int)=s:=by show((s.toNat:Nat):Int)=s;lia
 have q:=key (s.toNat,7,) (by rw[e];exact h0);rw[e]at q;exact q
def rX(t:Int)(ns:List Int):Prop:=∀n∈ns,0<=n/\n<=t
inductive lX(vs:List V)(H:Hp)(Q:VK)(E:XK):Prop
 |mk (b:Addr) (a q c s:Int):vs=[.ref b,.int s]->aA H b a q c->c<500000000->1<=s->s<=16->(∀(l:Addr)(ns:List Int)(a' c':Int)(H':Hp),H l=none->H' l=!(.lst (ns.map V.int))->3<=ns.length->ns.length<=20->rX (9999/s) ns->aA H' b a' q c'->c'<=c+40->SB b H H'->Q (.ref l) H')->lX vs H Q E
example:(iI CP bD):=by
 let(b,a,q,c,s,rfl,B,hc,hs0,hs1,k,):=h;let(Sg,sd,m0,m1,):=YG hs0 hs1;refine(_,(Zf (aY 2 nd (aa ZB Zh (Zm bD hr.m 8 (pc (pv 0) (pc (av (Zo (K:=K) 8) (Zv (pc Zh (pc Zh Zc))) (ZO ET 8 T.vd yI (pc (qo aS (Zm bD hr.m 8 (pc (pv 0) (pc Zh Zc))) Zh (Zu _)) Zc)) (λ_ _=>8)) Zc)))))
   (Zf (uN (nY (pc (Zm bD hr.m 8 (pc (pv 0) (pc Zh Zc))) (pc (Zm bD hr.m 8 (pc (pv 0) (pc Zh Zc))) Zc))) (ZR (K:=K) (n:=2) 8 8 (Zs (bu 3 nd) (Zs (bu 4 nd) ZQ))))
   (Zf (aY 05 nd (uM (Zq cF (pv 4) Zh (Zu _)) (pv 4) (Zm bD hr.m 8 (pc (pv 0) (pc (av (Zo (K:=K) 8) (Zv (pc Zh (pc (Zl (LS 8) 8 T.AL HM (pc Zh (pc (aa lJ (aa EG Zh (pv 1)) Zh) Zc))) Zc))) (aa lJ (pv 4) Zh) (λ_ _=>8)) Zc)))))
   (Zf (EO 06 (Zx (bQ:=(Zp cL)) (oN:=jC) (N:=["_law_k","_law_first","_law_way"]) (own:=1) (js:=[05,3]) 6 8 8) 8 nd 8 8 (ZX 8 T.nR (pc (pv 2) Zc)) (λ_ _ _ _ _ _=>(bu 0 (show List.Nodup (["_law_k","_law_first","_law_way"]:List Str) by decide +kernel))) (λ_ _ _ _ _ _=>(aa ZB (pv 1) (aa qp (av (Zo (K:=K) 8) (Zv (pc Zh (pc Zh (pc Zh (pc Zh Zc))))) (pv 2) (λ_ _=>8)) (pv 0)))))
   (Zf (aY 07 nd (uM (Zq aS (Zm bD hr.m 8 (pc (pv 0) (pc Zh Zc))) Zh (Zu _)) (aa EG Zh (pv 1)) (Zm bD hr.m 8 (pc (pv 0) (pc (aa ZB Zh (aa EG Zh (pv 1))) Zc)))))
   (Zf (aF (PW.pt (pw_or (PW.pt (vv (Zq aS (pv 3) Zh (Zu _)) (vD (Zq (Bw (K:=K) 8) (pv 07) (pv 06) 8)))) (rW (PW.pt (vv (Zq aS (pv 07) (aa EG Zh (pv 1)) (Zu _)) (vD (Zq (Bw (K:=K) 8) (pv 07) (pv 06) 8))))))) (Zj (uN (pv 07) (Bo (pv 06) (bN nv Zh) Bx))) Zw)
   (Zf (nZ aDP 8 (ZX 8 T.nR (pc (aa lJ (pv 2) Zh) Zc)) (bu 08 nd) (Zf (aY 09 nd (aa ZB (pv 08) (Zm bD hr.m 8 (pc (pv 0) (pc (aa lJ (pv 2) (pv 08)) Zc)))))
   (Zj (uN (nY (pc (av (Zo (K:=K) 8) (pv 06) (pv 09) (λ_ _=>8)) (pc (av (Zo (K:=K) 8) (pv 06) (pv 08) (λ_ _=>8)) Zc))) (ZR (K:=K) (n:=2) 8 8 (Zs (Bo (pv 06) (pv 08) Bx) (Zs (Bo (pv 06) (pv 09) Bx) ZQ)))))))
   (Zj (Zr (pv 06)))))))))),?_,)
 generalize hm:(if 10000/s-480>1 then 10000/s-480 else 1)=m at m0 m1;generalize ht:(9999:Int)/s=top at *;refine hide λuu ee=>?_;refine(_,8,(sL 2),λp1 hp1=>(_,8,b,a,q,c,06,8,B.same (Zb hp1 _),7,9,9,λr1 a1 c1 H1 CK IL B1 hc1 s1=>(8,.inr (_,8,?_,),),),);have q1:b≠p1:=Ze B.at' hp1;let(n,hn,hn',):=VH 05 18 (decide (V.int r1=V.int 0));refine(p1,135,ah.of (s1 _ _ (aUP q1) Za),hn,b,a1,q,c1,n,8,B1,7,7,7,λr2 a2 c2 H2 CJ CI B2 hc2 s2=>(119,?_,),);have mn0:3<=3+r2:=7
 have mn1:3+r2<=20:=7
 have u2:SB b H H2:=(((Zb hp1 _).sb b).trans s1).trans s2;dsimp only[b9];subst ee;try dsimp only
 refine hide λuu ee=>?_;refine(_,8,b,a2,q,c2,4,8,B2,7,9,9,λr3 a3 c3 H3 xR AU B3 hc3 s3=>?_,);refine(_,8,b,a3,q,c3,4,8,B3,7,9,9,λr4 a4 c4 Rl IK Mw B4' hc4 s4=>((sL 2),λp4 Na=>(p4,_,8,bS.of Za,503,?_,),),);have B4:=B4'.same (Zb Na (.tup [.int r3,.int r4]));have u4:SB b H (upd Rl p4 (.tup [.int r3,.int r4])):=((u2.trans s3).trans s4).trans ((Zb Na _).sb b);generalize upd Rl p4 (.tup [.int r3,.int r4])=H4 at *;subst ee;try dsimp only
 refine yD (λv G=>∃z a' c',v=.int z/\0<=z/\z+456<=top/\aA G b a' q c'/\c'<=c4+1/\SB b H G) (λQ' k'=>?_) ?_
 .refine (433,ZJ (λKp=>(_,8,k' _ _ (_,a4,c4,8,IK,7,B4,7,u4,),)) (λKp=>?_),);refine(439,(7,7,),253,(sL 2),λp2 hp2=>?_,);have q2:b≠p2:=Ze B4.at' hp2;rw[hm];let(n2,hn2,Uz,):=C6 100 m (r4-2) 7 7;refine(183,p2,135,ah.of Za,hn2,b,a4,q,c4,n2,8,B4.same (Zb hp2 _),7,7,7,λr5 a5 c5 H5 SN r51 B5 hc5 s5=>?_,);exact k' _ _ (r5,a5,c5,8,SN,7,B5,7,u4.trans (((Zb hp2 _).sb b).trans s5),)
 rintro _ H5 ⟨z,a5,c5,rfl,z0,z1,B5,hc5,u5⟩;dsimp only[b9];refine hide λuu ee=>?_;refine(121,7,7,λl hl=>?_,);have wg:H l=none:=Lo u5 B5.at' hl;have kK:l≠b:=aUP (Ze B5.at' hl);have hmn:(3+r2).toNat<=20:=7
 refine BA (lo:=0) (n:=(3+r2).toNat) (l:=l) (λj ys σ G=>∃(v0:Option V)(ns:List Int),σ=[v0,!(.int z),!(.int r3)]/\ys=ns.map V.int/\ns.length=j/\rX top ns/\G l=!(.lst ys)/\ak H5 G)
  (none,[],115,λn hn=>(nomatch hn),Za,Zb hl _,) ?_ ?_
 .rintro j ys σ G hj hy ⟨v0,ns,rfl,rfl,hj',hb',h1,h2⟩;refine(_,8,(sL 4),λp hp=>?_,);let(n4,Uy,JG,):=VG r3 xR AU;have np:l≠p:=Ze h1 hp;have Uk:(j:Int)<=19:=7
  refine(_,8,p,135,ah.of Za,Uy,183,.inl (7,7,),119,dh.of (bbd hmn 9) hj hy (by rw[Zg np];exact h1) (_,ns++[z+n4*(0+(j:Int))],8,by rw[aP2];rfl,by rw[a96,hj'];rfl,λx hx=>?_,Za,λe o y=>?_,),)
  .rcases a6S.mp hx with h|h
   .exact hb' x h
   .have ex:x=z+n4*(0+(j:Int)):=by simpa using h
    subst ex;rcases JG with rfl|rfl|rfl
    .exact (7,7,)
    .exact (7,7,)
    .exact (7,7,)
  .rw [Zg (Ze y hl)];exact Zb hp _ _ _ (h2 _ _ y)
 rintro ys σ G hy ⟨v0,ns,rfl,rfl,hj',hb',h1,h2⟩;have B6:=B5.same h2;have u6:SB b H G:=u5.trans (h2.sb b);have F3:3<=ns.length:=7
 have T8:ns.length<=20:=7
 dsimp only[b9];subst ee;try dsimp only
 refine yD (λv G'=>∃z a' c',v=.int z/\0<=z/\z<=top/\aA G' b a' q c'/\c'<=c5+2/\SB b G G') (λQ' k'=>?_) ?_
 .refine (_,8,b,a5,q,c5,05,8,B6,7,9,9,λr7 a7 c7 H7 r70 r71 B7 Nj s7=>(113,ZJ (λ_=>?_) (λ_=>?_),),)
  .refine (183,(7,7,),?_,);exact k' _ _ (_,a7,c7,8,by rw[ht];lia,by rw[ht];lia,B7,7,s7,)
  .refine (439,(7,7,),119,b,a7,q,c7,_,8,B7,7,by rw[ht];lia,by rw[ht];lia,λr8 a8 c8 H8 IJ FH B8 JT s8=>?_,);exact k' _ _ (_,a8,c8,8,IJ,by rw[ht]at FH;lia,B8,7,s7.trans s8,)
 rintro _ H7 ⟨fr,a7,c7,rfl,U5,U4,B7,Nj,s7⟩;have h7:=s7 _ _ kK h1;have u7:SB b H H7:=u6.trans s7;refine uD (λσ G'=>∃ns':List Int,σ=[!(.ref b),!(.int s),!(.int (3+r2)),!(.int r3),!(.int r4),!(.int z),!(.ref l),!(.int fr),none,none]/\G' l=!(.lst (ns'.map V.int))/\ns'.length=ns.length/\rX top ns'/\aA G' b a7 q c7/\SB b H G') (λD' _ k'=>?_) ?_
 .refine yC (λ_ G'=>G'=H7) (λQ' k''=>?_) ?_
  .refine Kl (λ_ G'=>G'=H7) (λQ'' k3=>?_) ?_
   .exact (145,ZJ (λ_=>(121,l,_,8,.inl (ah.of h7),8,vB _,_,8,k3 _ _ 8,)) (λ_=>k3 _ _ 8),)
   .rintro cb _ rfl;cases cb with
    |true=>exact aO 8 (k'' _ _ 8)
    |false=>exact aQ 8 (439,(7,7,),113,ZJ (λ_=>(121,l,_,8,.inl (ah.of h7),8,vB _,_,8,k'' _ _ 8,)) (λ_=>k'' _ _ 8),)
  .rintro cb _ rfl;cases cb with
   |false=>exact aQ 8 (k' _ _ (ns,8,h7,8,hb',B7,u7,))
   |true=>
    refine aO 8 (185,l,135,h7,Xh (by rw[ano];lia),k' _ _ (ns.set (ns.length-1) fr,8,?_,length_set,λx hx=>?_,B7.sb (Bl l _ _) (aUP kK),λe o n' y=>?_,),)
    .rw [Za,ano,HF]
    .rcases Lg hx with h|h
     .exact hb' x h
     .subst h;exact(U5,U4,)
    .rw [Zg (Ze y wg)];exact u7 _ _ n' y
 rintro _ H8 ⟨Te,rfl,h8,l8,b8,B8,u8⟩;refine(433,7,7,EU (lo:=0) (n:=(3+r2-1).toNat) (λj σ G'=>∃(ns':List Int)(v8 v9:Option V)(a' c':Int),σ=[!(.ref b),!(.int s),!(.int (3+r2)),!(.int r3),!(.int r4),!(.int z),!(.ref l),!(.int fr),v8,v9]/\G' l=!(.lst (ns'.map V.int))/\ns'.length=ns.length/\rX top ns'/\aA G' b a' q c'/\c'<=c7+(j:Int)/\SB b H G')
  (Te,_,_,a7,c7,8,h8,l8,b8,B8,7,u8,) ?_ ?_,)
 .rintro j σ G' hj ⟨ns',v8,v9,a',c',rfl,wA,l',b',B',hc',u'⟩;have Uk:(j:Int)<=18:=7
  have jl:(j:Int)+1<3+r2:=7
  refine(5559,b,a',q,c',_,8,B',7,7,7,λr9 a9 c9 H9 SM SK B9 Gw s9=>(119,?_,),);have h9:=s9 _ _ kK wA;let(x1,pY,Jg,):=yH (ns:=ns') (k:=0+(j:Int)+r9) 7 7;let(x2,DF,Jf,):=yH (ns:=ns') (k:=0+(j:Int)) 7 7;refine(121,l,135,ah.of h9,pY,121,l,135,ah.of h9,DF,(sL 2),λt ht'=>?_,);have Dd:l≠t:=Ze h9 ht';refine(t,_,8,bS.of Za,505,l,135,(by rw[Zg Dd];exact h9),KS 7 (by rw[ano];lia),?_,);refine(249,l,135,Za,KS 7 (by rw[length_set,ano];lia),8,?_,);refine((ns'.set (0+(j:Int)).toNat x1).set (0+(j:Int)+r9).toNat x2,_,_,a9,c9,8,by rw[Za,HF,HF],by rw[length_set,length_set];exact l',λx hx=>?_,?_,7,λe o n' y=>?_,)
  .rcases Lg hx with h|h
   .rcases Lg h with h|h
    .exact b' x h
    .subst h;exact b' _ Jg
   .subst h;exact b' _ Jf
  .exact ((B9.same (Zb ht' _)).sb (Bl l _ _) (aUP kK)).sb (Bl l _ _) (aUP kK)
  .have ne:e≠l:=Ze y wg;rw[Zg ne,Zg ne];exact Zb ht' _ _ _ (s9 _ _ n' (u' _ _ n' y))
 .rintro σ G' ⟨ns',v8,v9,a',c',rfl,wA,l',b',B',hc',u'⟩;exact(_,8,k l ns' a' c' G' wg wA 7 7 b' B' 7 u',)
inductive jX(vs:List V)(H:Hp)(Q:VK)(E:XK):Prop
 |mk (b:Addr) (a q c:Int):vs=[.ref b]->aA H b a q c->c<500000000->(∀(p:Addr)(sh pl:Int)(r:Str)(a' c':Int)(H':Hp),H' p=!(.tup [.int sh,.int pl,.str r])->1<=sh->sh<=64->1<=pl->pl<=16->uR r->aA H' b a' q c'->c'<=c+05->SB b H H'->Q (.ref p) H')->jX vs H Q E
example:(tP qL bD):=by
 let(b,a,q,c,rfl,B,hc,k,):=h;refine(_,(Zf (aY 1 nd (qo aS (Zm bD hr.m 8 (pc (pv 0) (pc Zh Zc))) Zh (Zu _)))
   (Zf (aY 2 nd (uM (ZW (pv 1)) (aa ZB Zh (Zm bD hr.m 8 (pc (pv 0) (pc Zh Zc)))) (av (Zo (K:=K) 8) (Zv (pc Zh (pc Zh (pc Zh (pc Zh (pc Zh Zc)))))) (Zm bD hr.m 8 (pc (pv 0) (pc Zh Zc))) (λ_ _=>8))))
   (Zj (Zr (nY (pc (pv 2) (pc (aa ZB Zh (Zm bD hr.m 8 (pc (pv 0) (pc (uM (ZW (pv 1)) Zh Zh) Zc)))) (pc (av (Zo (K:=K) 8) (Zv (pc wM (pc wM (pc wM Zc)))) (Zm bD hr.m 8 (pc (pv 0) (pc Zh Zc))) (λ_ _=>8)) Zc)))))))),?_,)
 refine(_,8,b,a,q,c,06,8,B,7,9,9,λr1 a1 c1 H1 CK IL B1 hc1 s1=>(8,?_,),);generalize decide (V.int r1=V.int 0)=NC;dsimp only;refine yD (λv G=>∃z a' c',v=.int z/\1<=z/\z<=64/\aA G b a' q c'/\c'<=c1+1/\SB b H G) (λQ' k'=>?_) ?_
 .refine (121,?_,);cases NC with
  |true=>exact aO 8 (_,8,b,a1,q,c1,064,8,B1,7,9,9,λr2 a2 c2 H2 CJ CI B2 hc2 s2=>(119,k' _ _ (_,a2,c2,8,7,7,B2,7,s1.trans s2,),),)
  |false=>
   refine aQ 8 ((sL 05),λp0 hp0=>(_,8,b,a1,q,c1,05,8,B1.same (Zb hp0 _),7,9,9,λr2 a2 c2 H2 CJ CI B2 hc2 s2=>?_,),);have q0:b≠p0:=Ze B1.at' hp0;let(sh,hsh,qF,u9,):=C5 r2 CJ CI;exact(p0,135,ah.of (s2 _ _ (aUP q0) Za),hsh,k' _ _ (_,a2,c2,8,qF,u9,B2,7,s1.trans (((Zb hp0 _).sb b).trans s2),),)
 rintro _ H2 ⟨sh,a2,c2,rfl,qF,u9,B2,hc2,u2⟩;refine(121,?_,);refine NO (te:=FD _ _ _) (λv G=>∃z,v=.int z/\4<=z/\z<=16/\G=H2) (λQ' k'=>?_) ?_
 .refine (121,?_,);cases NC with
  |true=>exact aO 8 (k' _ _ (_,8,9,9,8,))
  |false=>exact aQ 8 (k' _ _ (_,8,9,9,8,))
 rintro _ _ ⟨n,rfl,n0,n1,rfl⟩;refine(b,a2,q,c2,_,8,B2,7,7,7,λr3 a3 c3 H3 xR AU B3 hc3 s3=>(119,(sL 3),λp3 hp3=>(_,8,b,a3,q,c3,3,8,B3.same (Zb hp3 _),7,9,9,λr4 a4 c4 H4 IK Mw B4 hc4 s4=>?_,),),);have q3:b≠p3:=Ze B3.at' hp3;let(ru,vg,Ul,):=C3 r4 IK Mw;refine(p3,135,ah.of (s4 _ _ (aUP q3) Za),vg,(sL 3),λpp hpp=>?_,);exact k pp sh _ ru a4 c4 _ Za qF u9 7 7 Ul (B4.same (Zb hpp _)) 7
  (((u2.trans s3).trans (((Zb hp3 _).sb b).trans s4)).trans ((Zb hpp _).sb b))
inductive j4(vs:List V)(H:Hp)(Q:VK)(E:XK):Prop
 |mk (b:Addr) (a q c fw mt:Int):vs=[.ref b,.int fw,.int mt]->aA H b a q c->c<400000000->0<=fw->fw<=mt->mt<=400->(∀(l:Addr)(ns:List Int)(a' c':Int)(H':Hp),H l=none->H' l=!(.lst (ns.map V.int))->(ns.length:Int)<=mt->rX 9999 ns->aA H' b a' q c'->c'<=c+2000->SB b H H'->Q (.ref l) H')->j4 vs H Q E
theorem C4(x0 x1 x2 x3 x4 r:Int)(h0:0<=r)(h1:r<05):∃n:Int,cV [V.int x0,V.int x1,V.int x2,V.int x3,V.int x4] r=!(.int n)/\(n=x0\/n=x1\/n=x2\/n=x3\/n=x4):=by
 let(x,hx,m,):=HE (xs:=[V.int x0,V.int x1,V.int x2,V.int x3,V.int x4]) h0 (by show r<((05:Nat):Int);lia);simp only[acu,aYt,a5s]at m;rcases m with rfl|rfl|rfl|rfl|rfl
 .exact (_,hx,.inl 8,)
 .exact (_,hx,.inr (.inl 8),)
 .exact (_,hx,.inr (.inr (.inl 8)),)
 .exact (_,hx,.inr (.inr (.inr (.inl 8))),)
 .exact (_,hx,.inr (.inr (.inr (.inr 8))),)
theorem VF(x y:Int):(if y<x then y else x)<=x/\(if y<x then y else x)<=y/\((if y<x then y else x)=x\/(if y<x then y else x)=y):=by
 split <;> refine(7,7,7,)
example:(tR qP bD CP):=by
 let(b,a,q,c,fw,mt,rfl,B,hc,hf0,hfm,hm1,k,):=h;refine(_,(Zf (aY 3 nd (Zm CP hr.m 8 (pc (pv 0) (pc Zh Zc))))
   (Zf (aY 4 nd (uM (Zq aS (Zm bD hr.m 8 (pc (pv 0) (pc Zh Zc))) Zh (Zu _)) (Zm bD hr.m 8 (pc (pv 0) (pc (aa ZB (pv 2) Zh) Zc))) (Zm bD hr.m 8 (pc (pv 0) (pc (aa ZB (pv 1) Zh) Zc)))))
   (Zf (Ez (i:=05) (j:=06) 8 nd 8 8 9 8 8 (pc (Zm bD hr.m 8 (pc (pv 0) (pc Zh Zc))) (pc (Zv Zc) Zc)) 8)
   (Zf (nZ aDP 8 (ZX 8 T.nR (pc (pv 4) Zc)) (bu 07 nd) (Zf (aY 08 nd (uM (PW.pt (pw_or (Zq (EW (K:=K) 8) (pv 05) (nY (pc Zh (pc Zh Zc))) 8) (rW (PW.pt (vv (Zq aS (pv 05) Zh (Zu _)) (vD (Zq aS (aa i9 (pv 07) Zh) Zh (Zu _)))))))) (av (Zo (K:=K) 8) (pv 3) (Zm bD hr.m 8 (pc (pv 0) (pc (Zl (Zn (K:=K) 8) 8 T.dw arj (pc (pv 3) Zc)) Zc))) (λ_ _=>8)) Zh))
   (Zf (aY 09 nd (aa i9 (pv 07) (aa lJ (aa qp Zh (Zl (Zn (K:=K) 8) 8 T.dw arj (pc (pv 3) Zc))) Zh)))
   (Zf (aY 10 nd (av (Zo (K:=K) 8) (pv 3) (Zl (ZgM 8) 8 T.Fv PB (pc (pv 09) (pc (aa lJ (aa lJ (aa qp Zh (Zl (Zn (K:=K) 8) 8 T.dw arj (pc (pv 3) Zc))) Zh) (pv 09)) Zc))) (λ_ _=>8)))
   (Zf (aY 11 nd (uM (Zq aS (Zm bD hr.m 8 (pc (pv 0) (pc Zh Zc))) Zh (Zu _)) (pv 08) (av (Zo (K:=K) 8) (pv 3) Zh (λ_ _=>8))))
   (Zj (ZC (lI (K:=K) 8 (bK aTF aMf aUV ZD (pv 06) (pc (av (Zo (K:=K) 8) (Zv (pc (pv 08) (pc (av (Zo (K:=K) 8) (pv 3) (aa i9 (pv 07) (Zl (Zn (K:=K) 8) 8 T.dw arj (pc (pv 3) Zc))) (λ_ _=>8)) (pc (uM (Zq aS (aa i9 (pv 07) Zh) Zh (Zu _)) (pv 08) (av (Zo (K:=K) 8) (pv 3) (aa i9 (pv 07) (Zl (Zn (K:=K) 8) 8 T.dw arj (pc (pv 3) Zc))) (λ_ _=>8))) (pc (pv 10) (pc (pv 11) Zc)))))) (pv 05) (λ_ _=>8)) Zc))))))))))
   (Zj (Zr (pv 06))))))),?_,)
 refine(_,8,b,a,q,c,1,8,B,7,9,9,λl1 gn a1 c1 H1 hl1 e1 g3 g20 bd B1 hc1 s1=>?_,);have bd':∀n∈gn,0<=n/\n<=9999:=bd;have qR:l1≠b:=λe=>by rw[e,B.at']at hl1;cases hl1
 dsimp only;refine yD (λv G=>∃z a' c',v=.int z/\0<=z/\z<=mt/\aA G b a' q c'/\c'<=c1+2/\SB b H1 G) (λQ' k'=>?_) ?_
 .refine (_,8,b,a1,q,c1,08,8,B1,7,9,9,λr2 a2 c2 H2 CJ CI B2 hc2 s2=>(113,ZJ (λ_=>?_) (λ_=>?_),),)
  .refine (439,b,a2,q,c2,_,8,B2,7,7,7,λr3 a3 c3 H3 xR AU B3 hc3 s3=>?_,);exact k' _ _ (_,a3,c3,8,xR,7,B3,7,s2.trans s3,)
  .refine (439,b,a2,q,c2,_,8,B2,7,7,7,λr3 a3 c3 H3 xR AU B3 hc3 s3=>?_,);exact k' _ _ (_,a3,c3,8,xR,7,B3,7,s2.trans s3,)
 rintro _ H3 ⟨sz,a3,c3,rfl,sz0,sz1,B3,hc3,s3⟩;refine(_,8,b,a3,q,c3,05,8,B3,7,9,9,λwy a4 c4 H4 Sb Sa B4 hc4 s4=>((sL 0),λl hl=>(109,?_,),),);have u4:SB b H H4:=s1.trans (s3.trans s4);have wg:H l=none:=Lo u4 B4.at' hl;have kK:l≠b:=aUP (Ze B4.at' hl);have e4:=s4 _ _ qR (s3 _ _ qR e1);have FQ:l1≠l:=Ze e4 hl;have L0:(3:Int)<=gn.length:=7
 have L1:(gn.length:Int)<=20:=7
 refine(121,7,7,EU (lo:=0) (n:=sz.toNat) (λj σ G=>∃(v7 v8 v9 v10 v11:Option V)(ns:List Int)(a' c':Int),σ=[!(.ref b),!(.int fw),!(.int mt),!(.ref l1),!(.int sz),!(.int wy),!(.ref l),v7,v8,v9,v10,v11]/\G l=!(.lst (ns.map V.int))/\ns.length=j/\rX 9999 ns/\G l1=!(.lst (gn.map V.int))/\aA G b a' q c'/\c'<=c4+2*(j:Int)/\SB b H G)
  (132,[],a4,c4,8,Za,8,λn hn=>(nomatch hn),by rw[Zg FQ];exact e4,B4.same (Zb hl _),7,u4.trans ((Zb hl _).sb b),) ?_ ?_,)
 .rintro j σ G hj ⟨v7,v8,v9,v10,v11,ns,a',c',rfl,h1,h2,h3,h4,h5,h6,h7⟩;have Uj:(j:Int)<400:=7
  refine yD (λv G'=>∃z Kw c'',v=.int z/\0<=z/\z<=9999/\aA G' b Kw q c''/\c''<=c'+1/\SB b G G') (λQ' k'=>?_) ?_
  .refine Km (λ_ G'=>ak G G') (λQ'' k''=>?_) ?_
   .refine (_,8,(sL 2),λp hp=>(p,_,8,.inr (bS.of Za),129,?_,),);have sp:=Zb hp (.tup [.int 0,.int 4]);generalize(if false=true then (not (yj (V.int wy) [V.int 0,V.int 4])) else yj (V.int wy) [V.int 0,V.int 4])=cw;cases cw with
    |true=>exact aO 8 (k'' _ _ sp)
    |false=>exact aQ 8 (145,ZJ (λ_=>(183,(by show(0:Int)<3;decide),113,k'' _ _ sp,)) (λ_=>k'' _ _ sp),)
   .rintro cb G' sg;have B':=h5.same sg;have Gy:=sg _ _ h4;cases cb with
    |false=>exact aQ 8 (k' _ _ (0,a',c',8,9,9,B',7,sg.sb b,))
    |true=>
     refine aO 8 (185,l1,_,8,.inl (ah.of Gy),b,a',q,c',_,8,B',7,by rw[ano];lia,by rw[ano];lia,λr8 a8 c8 H8 IJ FH B8 JT s8=>?_,);rw[ano]at FH;let(x1,pY,Jg,):=yH (ns:=gn) IJ FH;let(y0,y1,):=bd' _ Jg;exact(l1,135,ah.of (s8 _ _ qR Gy),pY,k' _ _ (_,a8,c8,8,y0,y1,B8,7,(sg.sb b).trans s8,),)
  rintro _ G1 ⟨dr,a1',NP,rfl,NN,NL,B1',UO,t1⟩;have g4:=t1 _ _ qR h4;have g1:=t1 _ _ kK h1;dsimp only[b9];refine hide λuu ee=>?_;have m7:(gn.map V.int).length=gn.length:=ano ..;refine(121,l1,_,8,.inl (ah.of g4),119,.inl (9,9,),407,(by show(0:Int)<_;rw[m7];lia),?_,);dsimp only[b9];subst ee;try dsimp only
  refine hide λuu ee=>?_;obtain⟨x2,DF,Jf⟩:∃x2,cV (gn.map V.int) (if 2*(gn.length:Int)-2-(0+(j:Int))%(2*(gn.length:Int)-2)<(0+(j:Int))%(2*(gn.length:Int)-2) then 2*(gn.length:Int)-2-(0+(j:Int))%(2*(gn.length:Int)-2) else(0+(j:Int))%(2*(gn.length:Int)-2))=!(.int x2)/\x2∈gn:=by
   have bk0:0<=(0+(j:Int))%(2*(gn.length:Int)-2):=wF _ 7;have bk1:(0+(j:Int))%(2*(gn.length:Int)-2)<2*(gn.length:Int)-2:=wD _ 7;generalize(0+(j:Int))%(2*(gn.length:Int)-2)=bk at *;let(mi1,mi2,mi3,):=VF bk (2*(gn.length:Int)-2-bk);generalize(if 2*(gn.length:Int)-2-bk<bk then 2*(gn.length:Int)-2-bk else bk)=mi at *;exact yH 7 7
  let(tu0,tu1,):=bd' _ Jf;refine(185,l1,_,8,.inl (ah.of g4),119,.inl (9,9,),9981,l1,135,ah.of g4,(by rw[m7];exact DF),?_,);dsimp only[b9];subst ee;try dsimp only
  let(x0,Up,TL,):=yH (ns:=gn) (k:=0) 9 7;let(of0,S5,):=bd' _ TL;refine yD (λv G'=>∃z Kw c'',v=.int z/\0<=z/\z<=9999/\aA G' b Kw q c''/\c''<=NP+1/\SB b G1 G') (λQ' k'=>?_) ?_
  .refine (_,8,b,a1',q,NP,2,8,B1',7,9,9,λr9 a9 c9 H9 SM SK B9 Gw s9=>(113,ZJ (λ_=>(_,8,k' _ _ (_,a9,c9,8,NN,NL,B9,7,s9,),)) (λ_=>(_,8,l1,135,ah.of (s9 _ _ qR g4),Up,k' _ _ (_,a9,c9,8,of0,S5,B9,7,s9,),)),),)
  rintro _ G2 ⟨ft,a2',Kp,rfl,ft0,ft1,B2',UM,t2⟩;have k4:=t2 _ _ qR g4;have k1:=t2 _ _ kK g1;have TX:0<=(0+(j:Int))%(gn.length:Int):=wF _ 7;have TV:(0+(j:Int))%(gn.length:Int)<gn.length:=wD _ 7;let(x3,M7,TJ,):=yH (ns:=gn) TX TV;let(Rv,Ru,):=bd' _ TJ;refine(_,8,.inl (8,_,ah.of k1,),441,l1,_,8,.inl (ah.of k4),119,(by show(0:Int)<_;rw[m7];lia),l1,135,ah.of k4,(by rw[m7];exact M7),?_,);refine NO (te:=FD _ _ _) (λv G'=>∃z,v=.int z/\0<=z/\z<=9999/\G'=G2) (λQ' k'=>?_) ?_
  .refine (183,(by show(0:Int)<3;decide),113,ZJ (λ_=>(_,8,k' _ _ (_,8,NN,NL,8,),)) (λ_=>?_),);exact(185,l1,_,8,.inl (ah.of k4),119,(by show(0:Int)<_;rw[m7];lia),l1,135,ah.of k4,(by rw[m7];exact M7),k' _ _ (_,8,Rv,Ru,8,),)
  rintro _ _ ⟨mid,rfl,TU,TR,rfl⟩;let(pk,hpk,JE,):=C4 dr x3 mid x2 ft wy Sb Sa;refine(121,(sL 05),λp hp=>(_,8,p,135,ah.of Za,hpk,l,119,(by rw[Zg (Ze k1 hp)];exact k1),Zk (by rw[ano];lia),?_,),);have SV:0<=pk/\pk<=9999:=by rcases JE with rfl|rfl|rfl|rfl|rfl <;> exact(7,7,)
  refine(132,ns++[pk],a2',Kp,8,by rw[Za,aP2];rfl,by rw[a96,h2];rfl,λn hn=>?_,?_,(B2'.same (Zb hp _)).sb (Bl l _ _) (aUP kK),7,λe o n' y=>?_,)
  .rcases a6S.mp hn with h|h
   .exact h3 n h
   .have en:n=pk:=by simpa using h
    subst en;exact SV
  .rw [Zg FQ];exact Zb hp _ _ _ k4
  .rw [Zg (Ze y wg)];exact Zb hp _ _ _ (t2 _ _ n' (t1 _ _ n' (h7 _ _ n' y)))
 .rintro σ G ⟨v7,v8,v9,v10,v11,ns,a',c',rfl,h1,h2,h3,h4,h5,h6,h7⟩;exact(_,8,k l ns a' c' G wg h1 7 h3 h5 7 h7,)
noncomputable def au:Option Int->V
 |none=>.aE
 |some g=>.int g
theorem gN{i:Nat}{v:V}{σ:St}{H:Hp}{Q:St->Hp->Prop}(h:Q (σ.set i (!v)) H):b9 i v σ H Q:=h
theorem Ln{b:Bool}{A B:Prop}(h1:b=true->A)(h2:¬b=true->B):if b=true then A else B:=by
 by_cases h:b=true
 .rw [ahF h];exact h1 h
 .rw [aah h];exact h2 h
theorem nX{ns:List Int}{i:Nat}{x:V}(h:(ns.map V.int)[i]?=!x):∃z,ns[i]?=!z/\x=V.int z:=by
 rw[aGb]at h;cases e:ns[i]? with
 |none=>rw[e]at h;cases h
 |some z=>rw[e]at h;exact(z,8,(aFB h).symm,)
theorem yJ(z:Int)(ns:List Int):yj (.int z) (ns.map V.int)=decide (z∈ns):=by
 unfold yj;rw[any_map,aeY,a8G,auA];constructor
 .rintro ⟨x,hx,e⟩;have:x=z:=by simpa[qZ]using e
  rw[<-this];exact hx
 .intro h;exact(z,h,by simp[qZ],)
structure Rec where
 b:Int
 t0:Int
 t1:Int
 n:Int
noncomputable def aJ(S:List Rec)(b:Int):Option Rec:=S.find? λr=>decide (r.b=b)
noncomputable def bZ(S:List Rec)(q:Rec):List Rec:=if S.any (λr=>decide (r.b=q.b)) then S.map (λr=>if r.b=q.b then q else r) else S++[q]
noncomputable def fQ(S:List Rec)(b:Int):List Rec:=S.filter λr=>decide (r.b≠b)
noncomputable def GH(ru:Str):List Int:=if ru ="old" then[1] else if ru ="come" then[0] else[2,0]
noncomputable def fld(r:Rec)(k:Int):Int:=if k=0 then r.t0 else if k=1 then r.t1 else r.n
noncomputable def fP(ru:Str)(r:Rec):List Int:=(GH ru).map (fld r)
noncomputable def nA(sh b:Int)(S:List Rec):List Rec:=S.filter λr=>decide (V.int (r.b%sh)=V.int (b%sh))
noncomputable def qk(ru:Str)(S:List Rec):Nat:=argBest (λi j=>HT.lexLt ((S.map λr=>fP ru r++[r.b]).getD i []) ((S.map λr=>fP ru r++[r.b]).getD j [])) (S.length-1)
noncomputable def dj(sh pl:Int)(ru:Str)(S:List Rec)(b:Int):Option Int:=if((nA sh b S).length:Int)<pl then none else((nA sh b S)[qk ru (nA sh b S)]?).map (·.b)
def Uq(S:List Rec):Prop:=(S.map (·.b)).Nodup
theorem Uq.rec:∀{S:List Rec},Uq S->∀r∈S,aJ S r.b=!r
 | [],_,_,h=>nomatch h
 |q ::S,u,r,h=>by
  have u':(q.b ::S.map (·.b)).Nodup:=u;let(u1,u2,):=aZf.mp u';rcases aPx.mp h with rfl|h
  .unfold aJ;rw[aBy 5]
  .have ne:¬q.b=r.b:=λe=>u1 (by rw[e];exact aFN.mpr (r,h,8,));unfold aJ;rw[aQ6 (by simpa using ne)];exact Uq.rec u2 r h
theorem VE(S:List Rec)(q:Rec):(S.map λr=>if r.b=q.b then q else r).map (·.b)=S.map (·.b):=by
 rw[ba6];refine aPW λr _=>?_;show(if r.b=q.b then q else r).b=r.b;split
 .rename_i e;exact e.symm
 .rfl
theorem Uq.put{S:List Rec}(u:Uq S)(q:Rec):Uq (bZ S q):=by
 unfold bZ;by_cases e:(S.any λr=>decide (r.b=q.b))=true
 .rw [ahF e];show((S.map λr=>if r.b=q.b then q else r).map (·.b)).Nodup;rw[VE];exact u
 .rw [aah e];show((S++[q]).map (·.b)).Nodup;rw[aP2];refine uO u λm=>e ?_;let(r,hr,z,):=aFN.mp m;exact aw6.mpr (r,hr,by simpa using z,)
theorem Uq.drop{S:List Rec}(u:Uq S)(b:Int):Uq (fQ S b):=a2w (List.Sublist.map _ aOg) u
theorem Pf(S:List Rec)(q:Rec):(bZ S q).length<=S.length+1:=by
 unfold bZ;split
 .rw [ano];lia
 .simp
theorem Xg(S:List Rec)(b:Int):(fQ S b).length<=S.length:=ayM ..
noncomputable def dR(S:List Rec):Option Int->List Rec
 |none=>S
 |some g=>fQ S g
noncomputable def bJ(sh pl:Int)(ru:Str)(i:Nat)(b:Int)(S:List Rec):List Rec×(Bool×Option Int):=
 match aJ S b with
 |some r=>(bZ S (b,r.t0,i,r.n+1,),(true,none))
 |none=>(bZ (dR S (dj sh pl ru S b)) (b,i,i,0,),(false,dj sh pl ru S b))
noncomputable def aT(sh pl:Int)(ru:Str)(row:List Int):Nat->List Rec×List (Bool×Option Int)
 |0=>([],[])
 |i+1=>((bJ sh pl ru i (row.getD i 0) (aT sh pl ru row i).1).1,(aT sh pl ru row i).2++[(bJ sh pl ru i (row.getD i 0) (aT sh pl ru row i).1).2])
noncomputable def cS(sh pl:Int)(ru:Str)(row:List Int):List (Bool×Option Int):=(aT sh pl ru row row.length).2
theorem Uq.less{S:List Rec}(u:Uq S)(g:Option Int):Uq (dR S g):=by
 cases g with
 |none=>exact u
 |some g=>exact u.drop g
theorem YF(S:List Rec)(g:Option Int):(dR S g).length<=S.length:=by
 cases g with
 |none=>exact bbI _
 |some g=>exact Xg S g
theorem Wh(sh pl:Int)(ru:Str)(i:Nat)(b:Int)(S:List Rec)(u:Uq S):Uq (bJ sh pl ru i b S).1/\(bJ sh pl ru i b S).1.length<=S.length+1:=by
 unfold bJ;cases aJ S b with
 |some r=>exact(u.put _,Pf _ _,)
 |none=>exact((u.less _).put _,bbd (Pf _ _) (Nat.add_le_add_right (YF _ _) 1),)
theorem GU(sh pl:Int)(ru:Str)(row:List Int)(i:Nat):Uq (aT sh pl ru row i).1/\(aT sh pl ru row i).1.length<=i/\(aT sh pl ru row i).2.length=i:=by
 induction i with
 |zero=>exact(bd8,bbI _,8,)
 |succ i ih=>
  let(h1,h2,):=Wh sh pl ru i (row.getD i 0) (aT sh pl ru row i).1 ih.1;refine(h1,bbd h2 (Nat.add_le_add_right ih.2.1 1),?_,);show((aT sh pl ru row i).2++_).length=_;rw[a96,ih.2.2];rfl
def Told(H:Hp)(l:Addr)(fs:List (Bool×Option Int)):Prop:=∃aq:List Addr,H l=!(.lst (aq.map V.ref))/\aq.length=fs.length/\∀(m:Nat)(ad:Addr)(f:Bool×Option Int),aq[m]?=!ad->fs[m]?=!f->H ad=!(.tup [.bl f.1,au f.2])
theorem GY(sh pl:Int)(ru:Str)(row:List Int):(cS sh pl ru row).length=row.length:=(GU sh pl ru row row.length).2.2
noncomputable def tpos:Pos:=(match(ZZ aM).head? with
 |some (.If _ (.Return (!(.Call _ _ ((_,.Lambda _ _ _ pos,_,) ::_) _)) _ ::_) _ _)=>pos
 |_=>(0,0,0,0,))
noncomputable abbrev r6:Str:="Room.going" ++ ".<locals>." ++ "<lambda>"
def Tb(K:W.Frag)(H:Hp):Prop:=H (tabOf K "Room" "going")=!(.jU tpos r6)
theorem Tb.same{K:W.Frag}{H H':Hp}(t:Tb K H)(s:ak H H'):Tb K H':=s _ _ t
inductive sy(K:W.Frag)(vs:List V)(H:Hp)(Q:VK)(E:XK):Prop
 |mk (sh pl:Int) (ru:Str) (a:Addr) (row:List Int):vs=[.int sh,.int pl,.str ru,.ref a]->ah K H a (row.map V.int)->1<=sh->sh<=64->1<=pl->pl<=16->uR ru->row.length<=400->rX 9999 row->Tb K H->(∀(l:Addr)(H':Hp),H l=none->ak H H'->Told H' l (cS sh pl ru row)->Q (.ref l) H')->sy K vs H Q E
theorem Aq:∀a:List Int,HT.lexLt a a=false
 | []=>rfl
 |x ::xs=>by rw[HT.aP,ahF 8];exact Aq xs
theorem Hu:∀{a b c:List Int},HT.lexLt a b=true->HT.lexLt b c=true->HT.lexLt a c=true
 | [],[],_,h,_=>by rw[HT.cM]at h;cases h
 | [],_ ::_,[],_,h=>by rw[HT.bf]at h;cases h
 | [],_ ::_,_ ::_,_,_=>rfl
 |_ ::_,[],_,h,_=>by rw[HT.bf]at h;cases h
 |_ ::_,_ ::_,[],_,h=>by rw[HT.bf]at h;cases h
 |x ::xs,y ::ys,z ::zs,h1,h2=>by
  rw[HT.aP]at h1 h2 ⊢;by_cases e1:x=y
  .subst e1;rw[ahF 8]at h1;by_cases e2:x=z
   .subst e2;rw[ahF 8]at h2 ⊢;exact Hu h1 h2
   .rw [aah e2]at h2 ⊢;exact h2
  .rw [aah e1]at h1;have l1:=adw h1;by_cases e2:y=z
   .subst e2;rw[aah e1];exact h1
   .rw [aah e2]at h2;have l2:=adw h2;rw[aah 7];exact anN 7
theorem Pe(f:Nat->List Int):∀k,argBest (λi j=>HT.lexLt (f i) (f j)) k<=k/\∀j,j<=k->HT.lexLt (f j) (f (argBest (λi j=>HT.lexLt (f i) (f j)) k))=false
 | 0=>(bbI _,λj hj=>by
   have:j=0:=7
   subst this;exact Aq _,)
 |k+1=>by
  let(h1,h2,):=Pe f k;unfold argBest;by_cases c:HT.lexLt (f (k+1)) (f (argBest (λi j=>HT.lexLt (f i) (f j)) k))=true
  .rw [ahF c];refine(bbI _,λj hj=>?_,);by_cases e:j=k+1
   .subst e;exact Aq _
   .cases q:HT.lexLt (f j) (f (k+1)) with
    |false=>rfl
    |true=>
     have:=Hu q c;rw[h2 j 7]at this;cases this
  .rw [aah c];refine(7,λj hj=>?_,);by_cases e:j=k+1
   .subst e;simpa using c
   .exact h2 j 7
theorem QO{sh pl:Int}{ru:Str}{S:List Rec}{b:Int}(hpl:1<=pl)(DN:¬((nA sh b S).length:Int)<pl):∃r∈nA sh b S,dj sh pl ru S b=!r.b/\∀r'∈nA sh b S,HT.lexLt (fP ru r'++[r'.b]) (fP ru r++[r.b])=false:=by
 unfold dj;rw[aah DN];generalize nA sh b S=T at *;have pos:0<T.length:=7
 let(h1,h2,):=Pe (λi=>(T.map λr=>fP ru r++[r.b]).getD i []) (T.length-1);have e:argBest (λi j=>HT.lexLt ((T.map λr=>fP ru r++[r.b]).getD i []) ((T.map λr=>fP ru r++[r.b]).getD j [])) (T.length-1)=qk ru T:=8;rw[e]at h1 h2;have hlt:qk ru T<T.length:=7
 have at':∀i (h:i<T.length),(T.map λr=>fP ru r++[r.b]).getD i []=fP ru T[i]++[T[i].b]:=λi h=>by
  rw[aGH,aGb,aMp h];rfl
 refine(T[qk ru T],apl hlt,by rw[aMp hlt];rfl,λr' hr'=>?_,);let(j,hj,rfl,):=akv hr';have q:=h2 j 7;rw[at' j hj,at' _ hlt]at q;exact q
noncomputable def i8(S:List Rec):List Int:=S.map (·.b)
theorem aH{S:List Rec}{b:Int}:aJ S b=none↔b∉i8 S:=by
 unfold aJ i8;rw[List.find?_eq_none];constructor
 .intro h m;let(r,hr,e,):=aFN.mp m;exact h r hr (by simpa using e)
 .intro h r hr e;exact h (aFN.mpr (r,hr,by simpa using e,))
theorem LW{S:List Rec}{b:Int}{r:Rec}(h:aJ S b=!r):r∈S/\r.b=b:=by
 unfold aJ at h;exact(List.mem_of_find?_eq_some h,by simpa using List.find?_some h,)
theorem LG{S:List Rec}{q:Rec}(x:Int):aJ (bZ S q) x=if x=q.b then some q else aJ S x:=by
 unfold bZ;by_cases e:(S.any λr=>decide (r.b=q.b))=true
 .rw [ahF e]
  induction S with
  |nil=>simp at e
  |cons r S ih=>
   rw[aQv];by_cases er:r.b=q.b
   .rw [ahF er];by_cases ex:x=q.b
    .rw [ahF ex];unfold aJ;rw[aBy (by simpa using ex.symm)]
    .rw [aah ex];have e1:aJ (q ::S.map λr=>if r.b=q.b then q else r) x=aJ (S.map λr=>if r.b=q.b then q else r) x:=by
      unfold aJ;rw[aQ6 (by simpa using aUP ex)]
     have e2:aJ (r ::S) x=aJ S x:=by
      unfold aJ;rw[aQ6 (by rw[er];simpa using aUP ex)]
     rw[e1,e2];clear e ih e1 e2
     induction S with
     |nil=>rfl
     |cons s S ih2=>
      rw[aQv];by_cases es:s.b=q.b
      .rw [ahF es];unfold aJ at ih2 ⊢;rw[aQ6 (by simpa using aUP ex),aQ6 (by rw[es];simpa using aUP ex)];exact ih2
      .rw [aah es];unfold aJ at ih2 ⊢;by_cases GC:s.b=x
       .rw [aBy (by simpa using GC),aBy (by simpa using GC)]
       .rw [aQ6 (by simpa using GC),aQ6 (by simpa using GC)];exact ih2
   .rw [aah er];rw[any_cons]at e;have e':(S.any λr=>decide (r.b=q.b))=true:=by
     rcases azS _ _|>.mp e with h|h
     .exact absurd (adw h) er
     .exact h
    have ih':=ih e';unfold aJ at ih' ⊢;by_cases vm:r.b=x
    .rw [aBy (by simpa using vm),aBy (by simpa using vm),aah (by rw[<-vm];exact er)]
    .rw [aQ6 (by simpa using vm),aQ6 (by simpa using vm)];exact ih'
 .rw [aah e];unfold aJ;rw[List.find?_append];by_cases ex:x=q.b
  .rw [ahF ex];have:S.find? (λr=>decide (r.b=x))=none:=by
    rw[List.find?_eq_none];intro r hr hx;exact e (aw6.mpr (r,hr,by rw[<-ex];exact hx,))
   rw[this,Option.none_or];rw[aBy (by simpa using ex.symm)]
  .rw [aah ex];have:List.find? (λr=>decide (r.b=x)) [q]=none:=by
    rw[aQ6 (by simpa using aUP ex)];rfl
   rw[this,Option.or_none]
theorem QN{S:List Rec}{g:Int}(x:Int):aJ (fQ S g) x=if x=g then none else aJ S x:=by
 by_cases ex:x=g
 .rw [ahF ex,aH];intro m;let(r,hr,e,):=aFN.mp m;have:=(aCR.mp hr).2;simp[e,ex]at this
 .rw [aah ex]
  induction S with
  |nil=>rfl
  |cons r S ih=>
   unfold fQ aJ at ih ⊢;rw[a6U];by_cases er:r.b=g
   .rw [aah (by simp[er]),aQ6 (by rw[er];simpa using aUP ex)];exact ih
   .rw [ahF (by simpa using er)];by_cases vm:r.b=x
    .rw [aBy (by simpa using vm),aBy (by simpa using vm)]
    .rw [aQ6 (by simpa using vm),aQ6 (by simpa using vm)];exact ih
theorem Ht{S:List Rec}{q:Rec}(x:Int):x∈i8 (bZ S q)↔x=q.b\/x∈i8 S:=by
 have h:=LG (S:=S) (q:=q) x;constructor
 .intro m;by_cases e:x=q.b
  .exact .inl e
  .rw [aah e]at h;refine .inr ?_;by_cases c:x∈i8 S
   .exact c
   .rw [aH.mpr c]at h;exact absurd m (aH.mp h)
 .intro m;by_cases c:x∈i8 (bZ S q)
  .exact c
  .rw [aH.mpr c]at h;by_cases e:x=q.b
   .rw [ahF e]at h;cases h
   .rw [aah e]at h;rcases m with m|m
    .exact absurd m e
    .exact absurd m (aH.mp h.symm)
theorem Xf{S:List Rec}{g:Int}(x:Int):x∈i8 (fQ S g)↔x∈i8 S/\x≠g:=by
 have h:=QN (S:=S) (g:=g) x;constructor
 .intro m;by_cases e:x=g
  .rw [ahF e]at h;exact absurd m (aH.mp h)
  .rw [aah e]at h;refine(?_,e,);by_cases c:x∈i8 S
   .exact c
   .rw [aH.mpr c]at h;exact absurd m (aH.mp h)
 .rintro ⟨m,e⟩;rw[aah e]at h;by_cases c:x∈i8 (fQ S g)
  .exact c
  .rw [aH.mpr c]at h;exact absurd m (aH.mp h.symm)
noncomputable def Zi(sh s:Int)(there:List Int):List Int:=there.filter λo=>decide (o%sh=s)
theorem Zz(sh s b:Int)(there:List Int):Zi sh s (there++[b])=if b%sh=s then Zi sh s there++[b] else Zi sh s there:=by
 unfold Zi;rw[baC];by_cases h:b%sh=s
 .rw [ahF h,a6U,ahF (by simpa using h),ajw]
 .rw [aah h,a6U,aah (by simpa using h),ajw,aZr]
theorem ZM(sh s g:Int)(there:List Int):Zi sh s (there.erase g)=(Zi sh s there).erase g:=by
 unfold Zi;rw[List.erase_filter]
theorem af{sh s b:Int}{there:List Int}:b∈Zi sh s there↔b∈there/\b%sh=s:=by
 unfold Zi;rw[mem_filter,auA]
structure gu(H:Hp)(ls:Addr)(aq:List Addr)(sh:Int)(there:List Int):Prop where
 top:H ls=!(.lst (aq.map V.ref))
 len:aq.length=sh.toNat
 nd:aq.Nodup
 off:ls∉aq
 at_:∀(s:Nat)(ad:Addr),aq[s]?=!ad->H ad=!(.lst ((Zi sh s there).map V.int))
theorem gu.other{H:Hp}{ls:Addr}{aq:List Addr}{sh:Int}{there:List Int}(h:gu H ls aq sh there){a:Addr}(o:HO)(h1:a≠ls)(h2:a∉aq):gu (upd H a o) ls aq sh there:=
 (by rw[Zg (aUP h1)];exact h.top,h.len,h.nd,h.off,λi ad e=>by rw[Zg (λz:ad=a=>h2 (z ▸aE5 e))];exact h.at_ i ad e,)
theorem gu.put{H:Hp}{ls:Addr}{aq:List Addr}{sh:Int}{there oq:List Int}(h:gu H ls aq sh there){s0:Nat}{ad:Addr}{ns:List Int}(e0:aq[s0]?=!ad)(hn:Zi sh s0 oq=ns)(ho:∀s:Nat,s≠s0->Zi sh s oq=Zi sh s there):gu (upd H ad (.lst (ns.map V.int))) ls aq sh oq:=by
 refine(by rw[Zg (λz:ls=ad=>h.off (z ▸aE5 e0))];exact h.top,h.len,h.nd,h.off,λs a e=>?_,);by_cases hs:s=s0
 .subst hs;rw[e0]at e;cases e;rw[Za,hn]
 .have ne:a≠ad:=λz=>by
   subst z;exact hs ((List.getElem?_inj (aFR.mp e).1 h.nd).mp (e.trans e0.symm))
  rw[Zg ne,ho s hs];exact h.at_ s a e
theorem gu.get{H:Hp}{ls:Addr}{aq:List Addr}{sh:Int}{there:List Int}(h:gu H ls aq sh there){k:Int}(h0:0<=k)(h1:k<sh):∃(s:Nat)(ad:Addr),(s:Int)=k/\aq[s]?=!ad/\cV (aq.map V.ref) k=!(.ref ad)/\H ad=!(.lst ((Zi sh k there).map V.int)):=by
 have hk:k.toNat<aq.length:=by rw[h.len];lia
 have e:aq[k.toNat]?=!aq[k.toNat]:=aMp hk;have ek:((k.toNat:Nat):Int)=k:=7
 have q:cV (aq.map V.ref) ((k.toNat:Nat):Int)=!(.ref aq[k.toNat]):=ZY (by rw[aGb,e];rfl);have q2:=h.at_ _ _ e;rw[ek]at q q2;exact(k.toNat,_,ek,e,q,q2,)
theorem gu.one{H:Hp}{ls:Addr}{aq:List Addr}{sh:Int}{there:List Int}(h:gu H ls aq sh there){ad:Addr}(m:ad∈aq):∃xs,H ad=!(.lst xs):=by
 let(s,e,):=abE m;exact(_,h.at_ s ad e,)
noncomputable def fj(sh pl:Int)(ru:Str)(ls du:Addr):List (Str×V):=aL "uses" (.ref du) (aL "standing" (.ref ls) (aL "rule" (.str ru) (aL "places" (.int pl) (aL "shelves" (.int sh) []))))
theorem ED(sh pl:Int)(ru:Str)(ls du:Addr):(fj sh pl ru ls du).lookup ("uses":Str)=!(.ref du):=by
 unfold fj;rw[Zt,ahF 8]
theorem ZeN(sh pl:Int)(ru:Str)(ls du:Addr):(fj sh pl ru ls du).lookup ("standing":Str)=!(.ref ls):=by
 unfold fj;rw[Zt,aah 6,Zt,ahF 8]
theorem Pd(sh pl:Int)(ru:Str)(ls du:Addr):(fj sh pl ru ls du).lookup ("rule":Str)=!(.str ru):=by
 unfold fj;rw[Zt,aah 6,Zt,aah 6,Zt,ahF 8]
theorem YE(sh pl:Int)(ru:Str)(ls du:Addr):(fj sh pl ru ls du).lookup ("places":Str)=!(.int pl):=by
 unfold fj;rw[Zt,aah 6,Zt,aah 6,Zt,aah 6,Zt,ahF 8]
theorem YR(sh pl:Int)(ru:Str)(ls du:Addr):(fj sh pl ru ls du).lookup ("shelves":Str)=!(.int sh):=by
 unfold fj;rw[Zt,aah 6,Zt,aah 6,Zt,aah 6,Zt,aah 6,Zt,ahF 8]
theorem cG(sh pl:Int)(ru:Str)(ls du:Addr){m:Str}(h1:¬m ="uses":=by decide +kernel)(h2:¬m ="standing":=by decide +kernel)(h3:¬m ="rule":=by decide +kernel)(h4:¬m ="places":=by decide +kernel)(h5:¬m ="shelves":=by decide +kernel):(fj sh pl ru ls du).lookup m=none:=by
 unfold fj;rw[Zt,aah h1,Zt,aah h2,Zt,aah h3,Zt,aah h4,Zt,aah h5];rfl
structure aG(K:W.Frag)(H:Hp)(p:Addr)(sh pl:Int)(ru:Str)(ls:Addr)(aq:List Addr)(du:Addr)(seq:List Int)(us:Int->Int)(n:Nat):Prop where
 ob:∃dx,H p=!(.ins (aI K "Room") dx (fj sh pl ru ls du))
 st:gu H ls aq sh seq
 dc:∃kvs,H du=!(.dK kvs)/\kvs.length<=n/\∀b,aW kvs (Sum.inl b:Key)=if b∈seq then some (.int (us b)) else none
 nd:seq.Nodup
 s0:1<=sh
 s1:sh<=64
def SR(aq:List Addr)(du:Addr)(H H':Hp):Prop:=∀b o,H b=!o->b≠du->b∉aq->H' b=!o
theorem SR.of{aq:List Addr}{du:Addr}{H H':Hp}(s:ak H H'):SR aq du H H':=λb o h _ _=>s b o h
theorem SR.trans{aq:List Addr}{du:Addr}{H H1 H2:Hp}(a:SR aq du H H1)(b:SR aq du H1 H2):SR aq du H H2:=λc o h n1 n2=>b c o (a c o h n1 n2) n1 n2
section
variable{K:W.Frag}{H H':Hp}{p:Addr}{sh pl:Int}{ru:Str}{ls:Addr}{aq:List Addr}{du:Addr}{seq:List Int}{us:Int->Int}{n:Nat}
theorem aG.off(R:aG K H p sh pl ru ls aq du seq us n):p≠du/\p∉aq/\ls≠du/\ls∉aq/\du∉aq/\p≠ls:=by
 let(dx,h1,):=R.ob;let(kvs,h2,_,):=R.dc;refine(λz=>?_,λz=>?_,λz=>?_,R.st.off,λz=>?_,λz=>?_,)
 .rw [z,h2]at h1;cases h1
 .let(xs,e,):=R.st.one z;rw[e]at h1;cases h1
 .have e:=R.st.top;rw[z,h2]at e;cases e
 .let(xs,e,):=R.st.one z;rw[e]at h2;cases h2
 .have e:=R.st.top;rw[<-z,h1]at e;cases e
theorem aG.same(R:aG K H p sh pl ru ls aq du seq us n)(s:ak H H'):aG K H' p sh pl ru ls aq du seq us n:=by
 let(dx,h1,):=R.ob;let(kvs,h2,h3,):=R.dc;exact((dx,s _ _ h1,),(s _ _ R.st.top,R.st.len,R.st.nd,R.st.off,λi ad e=>s _ _ (R.st.at_ i ad e),),(kvs,s _ _ h2,h3,),R.nd,R.s0,R.s1,)
theorem SR.keep{o:HO}{b:Addr}(s:SR aq du H H')(R:aG K H p sh pl ru ls aq du seq us n)(h:H b=!o)(n1:∀kvs,o≠.dK kvs)(n2:∀xs,o≠.lst xs):H' b=!o:=by
 refine s _ _ h (λz=>?_) λz=>?_
 .let(kvs,e,_,):=R.dc;rw[z,e]at h;exact n1 kvs (aFB h).symm
 .let(xs,e,):=R.st.one z;rw[e]at h;exact n2 xs (aFB h).symm
theorem aG.Ct(R:aG K H p sh pl ru ls aq du seq us n)(b:Int):∃(s:Nat)(ad:Addr),(s:Int)=b%sh/\aq[s]?=!ad/\cV (aq.map V.ref) (b%sh)=!(.ref ad)/\H ad=!(.lst ((Zi sh (b%sh) seq).map V.int)):=by
 have h0:=R.s0;exact R.st.get (aFA _ 7) (azk _ 7)
end
inductive pM(vs:List V)(H:Hp)(Q:VK)(E:XK):Prop
 |mk (sh b:Int):vs=[.int sh,.int b]->1<=sh->Q (.int (b%sh)) H->pM vs H Q E
example:(mK lC):=by
 let(sh,b,rfl,h0,k,):=h;refine(_,(Zj (Zr (aa i9 (pv 1) (pv 0)))),?_,);exact(439,(by show 0<sh;lia),k,)
inductive xF(K:W.Frag)(vs:List V)(H:Hp)(Q:VK)(E:XK):Prop
 |mk (p:Addr) (b sh pl:Int) (ru:Str) (ls:Addr) (aq:List Addr) (du:Addr) (seq:List Int) (us:Int->Int) (n:Nat):vs=[.ref p,.int b]->aG K H p sh pl ru ls aq du seq us n->Q (.bl (decide (b∈seq))) H->xF K vs H Q E
example:(mQ tK):=by
 let(p,b,sh,pl,ru,ls,aq,du,seq,us,n,rfl,R,k,):=h;refine(_,(Zj (Zr (GO (Wx hu (pv 1) (vC (K:=K) 8 (pv 0) 8))))),?_,);let(dx,h1,):=R.ob;let(kvs,h2,h3,h4,):=R.dc;refine(121,p,_,dx,109,h1,T.fK,T.AV,ED ..,du,_,8,fm.k (k:=Sum.inl b) h2,?_,);rw[h4 b];by_cases c:b∈seq
 .rw [ahF c];rw[anN c]at k;exact k
 .rw [aah c];rw[alG c]at k;exact k
inductive pN(K:W.Frag)(vs:List V)(H:Hp)(Q:VK)(E:XK):Prop
 |mk (p:Addr) (b sh pl:Int) (ru:Str) (ls:Addr) (aq:List Addr) (du:Addr) (seq:List Int) (us:Int->Int) (n:Nat):vs=[.ref p,.int b]->aG K H p sh pl ru ls aq du seq us n->(∀(s:Nat)(ad:Addr),(s:Int)=b%sh->aq[s]?=!ad->H ad=!(.lst ((Zi sh (b%sh) seq).map V.int))->Q (.ref ad) H)->pN K vs H Q E
example:(jo pU lC):=by
 let(p,b,sh,pl,ru,ls,aq,du,seq,us,n,rfl,R,k,):=h;refine(_,(Zj (Zr (av (Zo (K:=K) 8) (vC (K:=K) 8 (pv 0) 8) (Zm lC hr.m 8 (pc (vC (K:=K) 8 (pv 0) 8) (pc (pv 1) Zc))) (λ_ _=>8)))),?_,);let(dx,h1,):=R.ob;let(s,ad,e1,e2,e3,e4,):=R.Ct b;exact(_,8,p,_,dx,109,h1,T.fK,T.Mh,ZeN ..,_,8,p,_,dx,109,h1,T.fK,T.Mg,YR ..,_,8,sh,b,8,R.s0,ls,135,ah.of R.st.top,e3,k s ad e1 e2 e4,)
inductive sE(K:W.Frag)(vs:List V)(H:Hp)(Q:VK)(E:XK):Prop
 |mk (p:Addr) (b sh pl:Int) (ru:Str) (ls:Addr) (aq:List Addr) (du:Addr) (seq:List Int) (us:Int->Int) (n:Nat):vs=[.ref p,.int b]->aG K H p sh pl ru ls aq du seq us n->b∈seq->Q .aE H->sE K vs H Q E
example:(kG xW tK):=by
 let(p,b,sh,pl,ru,ls,aq,du,seq,us,n,rfl,R,hb,k,):=h;refine(_,(Zj (aF (ny (ZW (ZV tK hr.m T.fK (pv 0) (pc (pv 1) Zc)))) (Zj xY) Zw)),?_,);let(dx,h1,):=R.ob;refine(_,8,p,dx,_,8,h1,cG ..,_,8,p,b,sh,pl,ru,ls,aq,du,seq,us,n,8,R,?_,);rw[anN hb];exact(_,8,aQ 8 k,)
inductive ir(K:W.Frag)(vs:List V)(H:Hp)(Q:VK)(E:XK):Prop
 |mk (p m:Addr) (ms:List Int) (sh pl:Int) (ru:Str) (ls:Addr) (aq:List Addr) (du:Addr) (seq:List Int) (us:Int->Int) (n:Nat):vs=[.ref p,.ref m]->aG K H p sh pl ru ls aq du seq us n->Tb K H->H m=!(.lst (ms.map V.int))->ms.length<64->ms.Nodup->(∀b∈ms,b∈seq)->(∀(D:Addr)(H':Hp)(os:List Int),H D=none->ak H H'->H' D=!(.lst (os.map V.int))->os.Perm ms->(ru ="few" ->os.Pairwise (AD us ms))->(ru ≠ "few" ->os=ms)->Q (.ref D) H')->ir K vs H Q E
theorem ZdB{f tp cg:Addr}{fd:FuncData}(F:rM K "going" "Room.going" aM f fd)(hfc:fd.code=.ref cg)(htp:tabOf K "Room" "going"=tp)(hch:W.codeHdIn K cg tp=true)(bm:BMod base mg)(T:Txt K mg):cN P w K mg base lN 2 f fd bV (ir K):=by
 refine F.SY eE (λvs H Q E h=>?_) (λcdv A outer st H vs Q E UK hr h=>?_)
 .let(p,m,ms,sh,pl,ru,ls,aq,du,seq,us,n,rfl,_,):=h;rfl
 let(p,m,ms,sh,pl,ru,ls,aq,du,seq,us,n,rfl,R,tb,hm,h64,hnd,hin,k,):=h;have nd:=eE.nd;have hu:=ue hr;have hc0:cdv=.ref cg:=UK.symm.trans hfc;refine(_,(Zf (aF (Zq aS (vC (K:=K) 8 (pv 0) 8) wM (Zu _)) (Zj (Zr (Xp (X:=(ng lN P w K mg base fZ "Room.going" (Zp aM) f cdv A outer st H E).zE) (K:=K) (P:=tp) (c0:=cg) 8 hr 8 8 T.BS (Xq (bQ:=(Zp aM)) (oN:=fZ) (x:="board") (fr:=["self"]) (js:=[0]) 6 8 8) hc0 hch bm 8 8 8 (λ_ _ _ _ _=>8) (pv 1) (λ_ _ _ _ _=>(O8 (Wo hr) (vC (K:=K) 8 (pv 1) 8) (pv 0) (λ_ _=>8)))))) Zw)
   (Zj (Zr (ZO (Q2 (K:=K) 8) 8 T.vQ Ar (pc (pv 1) Zc))))),?_,)
 let(dx,h1,):=R.ob;let(kvs,h2,h3,h4,):=R.dc;refine(_,8,p,_,dx,109,h1,T.fK,T.Ih,Pd ..,113,?_,);refine ZJ (λc=>?_) (λc=>?_)
 .have c':ru ="few":=by injection c
  have tb':H tp=!(.jU tpos r6):=by
   have t:=tb;unfold Tb at t;rw[htp]at t;exact t
  refine(_,8,m,ms,us,8,ah.of hm,h64,hnd,tb',λz hz H2 sm=>?_,λD H' os hD sm hl po so=>k D H' os hD sm hl po (λ_=>so) λz=>absurd c' z,);have v:=h4 z;rw[ahF (hin z hz)]at v;exact(_,8,p,_,dx,109,sm _ _ h1,T.fK,T.AV,ED ..,_,8,du,_,8,(by have q:=fm.k (k:=Sum.inl z) (sm _ _ h2);rw[v]at q;exact q),8,8,)
 .have c':¬ru ="few":= λz=>c (by rw[z]);exact(_,8,m,_,8,.inl (ah.of hm),λD hD=>k D _ ms hD (Zb hD _) Za (List.Perm.refl _) (λz=>absurd z c') λ_=>8,)
theorem X3{kvs:List (Key×V)}{k:Key}(j:Key):aW (cH kvs k) j=if j=k then none else aW kvs j:=by
 induction kvs with
 |nil=>by_cases e:j=k <;> simp[cH,aW,e]
 |cons q r ih=>
  by_cases e:q.1=k
  .rw [Ys e,ih];by_cases c:j=k
   .rw [ahF c,ahF c]
   .rw [aah c,aah c,ZS (λz=>c (z.symm.trans e))]
  .rw [Yr e];by_cases c:q.1=j
   .rw [ZU c,aah (λz=>e (c.trans z)),ZU c]
   .rw [ZS c,ih,ZS c]
theorem YD(kvs:List (Key×V))(k:Key):(cH kvs k).length<=kvs.length:=ayM ..
inductive sO(K:W.Frag)(vs:List V)(H:Hp)(Q:VK)(E:XK):Prop
 |mk (p:Addr) (b sh pl:Int) (ru:Str) (ls:Addr) (aq:List Addr) (du:Addr) (seq:List Int) (us:Int->Int) (n:Nat):vs=[.ref p,.int b]->aG K H p sh pl ru ls aq du seq us n->b∈seq->(∀H',aG K H' p sh pl ru ls aq du (seq.erase b) us n->SR aq du H H'->Q .aE H')->sO K vs H Q E
example:(kI C0 xW pU):=by
 let(p,b,sh,pl,ru,ls,aq,du,seq,us,n,rfl,R,hb,k,):=h;refine(_,(Zf (ZC (ZV xW hr.m T.fK (pv 0) (pc (pv 1) Zc)))
   (Zf (ZC (lI (K:=K) 8 (bK aTF aol abi LM (ZV pU hr.m T.fK (pv 0) (pc (pv 1) Zc)) (pc (pv 1) Zc))))
   (Zj (ZC (Xy (vC (K:=K) 8 (pv 0) 8) (pv 1) (8,8,8,8,)))))),?_,)
 let(dx,h1,):=R.ob;let(kvs,h2,h3,h4,):=R.dc;let(o1,o2,o3,o4,o5,o6,):=R.off;refine(_,8,p,dx,_,8,h1,cG ..,_,8,p,b,sh,pl,ru,ls,aq,du,seq,us,n,8,R,hb,?_,);refine(_,8,p,dx,_,8,h1,cG ..,_,8,p,b,sh,pl,ru,ls,aq,du,seq,us,n,8,R,λs ad es hs had=>?_,);have tX:ad∈aq:=aE5 hs;have hmem:b∈Zi sh (b%sh) seq:=af.mpr (hb,8,);refine(.inl (8,_,ah.of had,),_,8,ad,_,b,8,8,had,hmem,?_,);have S1:gu (upd H ad (.lst (((Zi sh (b%sh) seq).erase b).map V.int))) ls aq sh (seq.erase b):=by
  refine R.st.put hs ?_ λs' hs'=>?_
  .rw [ZM,es]
  .rw [ZM];exact aGN λm=>hs' (by have:=(af.mp m).2;lia)
 have np:p≠ad:=λz=>o2 (z ▸tX);have Tr:du≠ad:=λz=>o5 (z ▸tX);have wA:upd H ad (.lst (((Zi sh (b%sh) seq).erase b).map V.int)) p=!(.ins (aI K "Room") dx (fj sh pl ru ls du)):=by rw[Zg np];exact h1
 have h2':upd H ad (.lst (((Zi sh (b%sh) seq).erase b).map V.int)) du=!(.dK kvs):=by rw[Zg Tr];exact h2
 refine(_,8,p,_,dx,109,wA,T.fK,T.AV,ED ..,du,8,.inl (_,.inl h2',),_,8,kvs,Sum.inl b,_,h2',8,(by rw[h4 b,ahF hb]),?_,);refine k _ ((dx,by rw[Zg o1];exact wA,),S1.other _ (aUP o3) o5,(_,Za,bbd (YD _ _) h3,λx=>?_,),R.nd.erase b,R.s0,R.s1,) λx o e n1 n2=>?_
 .rw [X3,h4 x];by_cases c:x=b
  .subst c;rw[ahF 8,aah (λm=>((adY R.nd).mp m).1 8)]
  .rw [aah (λz=>c (aPp z))];by_cases m:x∈seq
   .rw [ahF m,ahF ((adY R.nd).mpr (c,m,))]
   .rw [aah m,aah (λz=>m (baK z))]
 .rw [Zg n1,Zg (λz:x=ad=>n2 (z ▸tX))];exact e
noncomputable def bump(us:Int->Int)(b:Int):Int->Int:=λx=>if x=b then us b+1 else us x
inductive xE(K:W.Frag)(vs:List V)(H:Hp)(Q:VK)(E:XK):Prop
 |mk (p:Addr) (b sh pl:Int) (ru:Str) (ls:Addr) (aq:List Addr) (du:Addr) (seq:List Int) (us:Int->Int) (n:Nat):vs=[.ref p,.int b]->aG K H p sh pl ru ls aq du seq us n->n<=900->b∈seq->seq.length<=900->(∀H',aG K H' p sh pl ru ls aq du (if ru ="old" then seq.erase b++[b] else seq) (bump us b) (n+1)->SR aq du H H'->Q .aE H')->xE K vs H Q E
example:(mP CW xW pU):=by
 let(p,b,sh,pl,ru,ls,aq,du,seq,us,n,rfl,R,hn,hb,hsl,k,):=h;refine(_,(Zf (ZC (ZV xW hr.m T.fK (pv 0) (pc (pv 1) Zc)))
   (Zf (WV hu (vC (K:=K) 8 (pv 0) 8) (pv 1) Zh WG (λ_ _ _=>8))
   (Zj (aF (Zq aS (vC (K:=K) 8 (pv 0) 8) wM (Zu _)) (Zf (aY 2 nd (ZV pU hr.m T.fK (pv 0) (pc (pv 1) Zc)))
   (Zf (ZC (lI (K:=K) 8 (bK aTF aol abi LM (pv 2) (pc (pv 1) Zc))))
   (Zj (ZC (lI (K:=K) 8 (bK aTF aMf aUV ZD (pv 2) (pc (pv 1) Zc))))))) Zw)))),?_,)
 let(dx,h1,):=R.ob;let(kvs,h2,h3,h4,):=R.dc;let(o1,o2,o3,o4,o5,o6,):=R.off;refine(_,8,p,dx,_,8,h1,cG ..,_,8,p,b,sh,pl,ru,ls,aq,du,seq,us,n,8,R,hb,?_,);refine(_,8,p,_,dx,109,h1,T.fK,T.AV,ED ..,_,8,du,_,8,(by have q:=fm.k (k:=Sum.inl b) h2;rw[h4 b,ahF hb]at q;exact q),138,k6.k (k:=Sum.inl b) h2 (Zk 7),?_,);have R1:aG K (upd H du (.dK (putK kvs (Sum.inl b) (.int (us b+1))))) p sh pl ru ls aq du seq (bump us b) (n+1):=by
  refine((dx,by rw[Zg o1];exact h1,),R.st.other _ (aUP o3) o5,(_,Za,bbd (As ..) 7,λx=>?_,),R.nd,R.s0,R.s1,);rw[HL];unfold bump;by_cases c:x=b
  .subst c;rw[ahF 8,ahF hb,ahF 8]
  .rw [aah (λz=>c (aPp z)),h4 x,aah c]
 have s1:SR aq du H (upd H du (.dK (putK kvs (Sum.inl b) (.int (us b+1))))):=λx o e n1 n2=>by rw[Zg n1];exact e
 generalize upd H du (.dK (putK kvs (Sum.inl b) (.int (us b+1))))=H1 at *;let(yz,g1,):=R1.ob;refine(_,8,p,_,yz,109,g1,T.fK,T.Ih,Pd ..,113,?_,);refine ZJ (λc=>?_) (λc=>?_)
 .have c':ru ="old":=by injection c
  rw[ahF c']at k;refine(_,8,p,yz,_,8,g1,cG ..,_,8,p,b,sh,pl,ru,ls,aq,du,seq,109,R1,λs ad es hs had=>?_,);have tX:ad∈aq:=aE5 hs;have hmem:b∈Zi sh (b%sh) seq:=af.mpr (hb,8,);refine(_,8,.inl (8,_,ah.of had,),_,8,ad,_,b,8,8,had,hmem,?_,);have ll:((Zi sh (b%sh) seq).erase b).length<=900:=bbd aIG (bbd (ayM ..) hsl);refine(_,8,.inl (8,_,ah.of Za,),_,8,ad,119,Za,Zk (by rw[ano];lia),?_,);rw[rq];have e1:(((Zi sh (b%sh) seq).erase b).map V.int++[V.int b])=((Zi sh (b%sh) seq).erase b++[b]).map V.int:=by rw[aP2];rfl
  have S2:gu (upd H1 ad (.lst (((Zi sh (b%sh) seq).erase b++[b]).map V.int))) ls aq sh (seq.erase b++[b]):=by
   refine R1.st.put hs ?_ λs' hs'=>?_
   .rw [Zz,ahF es.symm,ZM,es]
   .rw [Zz,aah 7,ZM];exact aGN λm=>hs' (by have:=(af.mp m).2;lia)
  have np:p≠ad:=λz=>o2 (z ▸tX);have Jb:du≠ad:=λz=>o5 (z ▸tX);let(Jt,g2,g3,g4,):=R1.dc;have Nf:∀x,x∈seq.erase b++[b]↔x∈seq:=λx=>by
   rw[aNA,ax0,adY R.nd];constructor
   .rintro (⟨_,m⟩|rfl)
    .exact m
    .exact hb
   .intro m;by_cases z:x=b
    .exact .inr z
    .exact .inl (z,m,)
  rw[e1];refine k _ ((yz,by rw[Zg np];exact g1,),S2,(Jt,by rw[Zg Jb];exact g2,g3,λx=>?_,),?_,R.s0,R.s1,) λx o e n1 n2=>?_
  .rw [g4 x];by_cases m:x∈seq
   .rw [ahF m,ahF ((Nf x).mpr m)]
   .rw [aah m,aah (λz=>m ((Nf x).mp z))]
  .refine uO (R.nd.erase b) λm=>((adY R.nd).mp m).1 8
  .rw [Zg (λz:x=ad=>n2 (z ▸tX))];exact s1 _ _ e n1 n2
 .have c':¬ru ="old":= λz=>c (by rw[z]);rw[aah c']at k;exact k _ R1 s1
noncomputable def qC(ru:Str)(r:Rec):Int:=if ru ="old" then r.t1 else r.t0
noncomputable def tm(ru:Str)(S:List Rec)(x:Int):Int:=match aJ S x with
 |some r=>qC ru r
 |none=>0
theorem Es{ru:Str}{S:List Rec}{r:Rec}(u:Uq S)(h:r∈S):tm ru S r.b=qC ru r:=by
 unfold tm;rw[u.rec r h]
noncomputable def ay(seq:List Int):Option Int->List Int
 |none=>seq
 |some g=>seq.erase g
structure fk(sh pl:Int)(ru:Str)(S:List Rec)(seq:List Int)(us:Int->Int)(i:Nat):Prop where
 uq:Uq S
 nd:seq.Nodup
 mem:∀b,b∈seq↔b∈i8 S
 ord:seq.Pairwise λa b=>tm ru S a<tm ru S b
 bnd:∀b∈seq,tm ru S b<i
 BX:∀r∈S,us r.b=r.n
 cap:∀s,((Zi sh s seq).length:Int)<=pl
def qd(ru:Str)(us:Int->Int)(pl:Int)(ms:List Int)(gone:Option Int):Prop:=
 ((ms.length:Int)<pl->gone=none)/\(¬(ms.length:Int)<pl->∃(g:Int)(rest:List Int),gone=!g/\(g ::rest).Perm ms/\(ru ="few" ->(g ::rest).Pairwise (AD us ms))/\(ru ≠ "few" ->g ::rest=ms))
theorem EV:∀{a b:List Int},a.Nodup->b.Nodup->(∀x,x∈a↔x∈b)->a.length=b.length
 | [],b,_,_,h=>by
  cases b with
  |nil=>rfl
  |cons y r=>exact absurd ((h y).mpr anL) 5
 |x ::a,b,na,nb,h=>by
  let(n1,n2,):=aZf.mp na;have mb:x∈b:=(h x).mp anL;have ih:=EV n2 (nb.erase x) λy=>by
   rw[adY nb];constructor
   .intro m;exact(λz=>n1 (z ▸m),(h y).mp (aq4 _ m),)
   .rintro ⟨z,m⟩;rcases aPx.mp ((h y).mpr m) with q|q
    .exact absurd q z
    .exact q
  rw[acz,ih,aWr mb];have:0<b.length:=a2Y mb;lia
theorem fk.IT{sh pl:Int}{ru:Str}{S:List Rec}{seq:List Int}{us:Int->Int}{i:Nat}(L:fk sh pl ru S seq us i)(z:Int):((nA sh z S).length=(Zi sh (z%sh) seq).length)/\∀x,x∈Zi sh (z%sh) seq↔∃r∈nA sh z S,r.b=x:=by
 have hm:∀x,x∈Zi sh (z%sh) seq↔∃r∈nA sh z S,r.b=x:=λx=>by
  rw[af,L.mem x];constructor
  .rintro ⟨m,e⟩;let(r,hr,rfl,):=aFN.mp m;exact(r,aCR.mpr (hr,by simp[e],),8,)
  .rintro ⟨r,hr,rfl⟩;let(h1,h2,):=aCR.mp hr;exact(aFN.mpr (r,h1,8,),by simpa using h2,)
 refine(?_,hm,);have Dj:((nA sh z S).map (·.b)).Nodup:=a2w (List.Sublist.map _ aOg) L.uq;have AZ:(Zi sh (z%sh) seq).Nodup:=a2w aOg L.nd;have e:=EV Dj AZ λx=>by
  rw[hm x,mem_map]
 rw[ano]at e;exact e
theorem X0{R:Int->Int->Prop}{l:List Int}(p:l.Pairwise R){a b:Int}(ha:a∈l)(hb:b∈l)(h:l.idxOf a<l.idxOf b):R a b:=by
 have la:=List.idxOf_lt_length_of_mem ha;have lb:=List.idxOf_lt_length_of_mem hb;have q:=amg.mp p _ _ la lb h;rwa [List.getElem_idxOf la,List.getElem_idxOf lb]at q
theorem Lf{a b:Int}{x y:List Int}(h:a<b):HT.lexLt (a ::x) (b ::y)=true:=by
 rw[HT.aP,aah 7,anN h]
theorem Wg{sh pl:Int}{ru:Str}{S:List Rec}{seq:List Int}{us:Int->Int}{i:Nat}{z:Int}{gone:Option Int}(L:fk sh pl ru S seq us i)(hpl:1<=pl)(vg:uR ru)(G:qd ru us pl (Zi sh (z%sh) seq) gone):dj sh pl ru S z=gone:=by
 let(hlen,hmem,):=L.IT z;by_cases c:((nA sh z S).length:Int)<pl
 .rw [G.1 (by rw[<-hlen];exact c)];unfold dj;rw[ahF c]
 .let(g,rest,rfl,pm,h1,h2,):=G.2 (by rw[<-hlen];exact c);let(r,hr,e,least,):=QO (ru:=ru) hpl c;rw[e];have hg:g∈Zi sh (z%sh) seq:=pm.mem_iff.mp anL;let(r0,hr0,e0,):=(hmem g).mp hg;have hrb:r.b∈Zi sh (z%sh) seq:=(hmem r.b).mpr (r,hr,8,);by_cases eq:r.b=g
  .rw [eq]
  .exfalso;have hrest:r.b∈rest:=by
    rcases aPx.mp (pm.mem_iff.mpr hrb) with q|q
    .exact absurd q eq
    .exact q
   have Jy:r∈S:=(aCR.mp hr).1;have zQ:r0∈S:=(aCR.mp hr0).1;have dz:(Zi sh (z%sh) seq).Pairwise λa b=>tm ru S a<tm ru S b:=acZ aOg L.ord;have bad:=least r0 hr0;have ht:∀{a b:Int},a∈Zi sh (z%sh) seq->b∈Zi sh (z%sh) seq->(Zi sh (z%sh) seq).idxOf a<(Zi sh (z%sh) seq).idxOf b->tm ru S a<tm ru S b:=λha hb h=>X0 dz ha hb h;by_cases few:ru ="few"
   .have k:=List.rel_of_pairwise_cons (h1 few) hrest;have e1:tm ru S r0.b=r0.t0:=by rw[Es L.uq zQ,qC,aah (by rw[few];decide)]
    have e2:tm ru S r.b=r.t0:=by rw[Es L.uq Jy,qC,aah (by rw[few];decide)]
    have u1:=L.BX r0 zQ;have u2:=L.BX r Jy;have kk:∀q:Rec,fP ru q=[q.n,q.t0]:=λq=>by
     unfold fP GH;rw[few,aah 9,aah 9];rfl
    rw[kk,kk]at bad;rcases k with k|⟨k1,k2⟩
    .rw [<-e0,u1,u2]at k;rw[show[r0.n,r0.t0]++[r0.b]=r0.n ::[r0.t0,r0.b] from rfl,show[r.n,r.t0]++[r.b]=r.n ::[r.t0,r.b] from rfl,Lf k]at bad;cases bad
    .have t:=ht hg hrb k2;rw[<-e0,e1,e2]at t;rw[<-e0,u1,u2]at k1;rw[show[r0.n,r0.t0]++[r0.b]=r0.n ::[r0.t0,r0.b] from rfl,show[r.n,r.t0]++[r.b]=r.n ::[r.t0,r.b] from rfl,HT.aP,ahF k1,Lf t]at bad;cases bad
   .have e3:=h2 few;have t:tm ru S g<tm ru S r.b:=by
     rw[<-e3]at dz;exact List.rel_of_pairwise_cons dz hrest
    rw[<-e0,Es L.uq zQ,Es L.uq Jy]at t;have kk:∀q:Rec,fP ru q++[q.b]=[qC ru q,q.b]:=λq=>by
     rcases vg with rfl|rfl|rfl
     .unfold fP GH qC;rw[ahF 8,ahF 8];rfl
     .unfold fP GH qC;rw[aah 9,ahF 8,aah 9];rfl
     .exact absurd 8 few
    rw[kk,kk,Lf t]at bad;cases bad
theorem Er{ru:Str}{S:List Rec}{q:Rec}(x:Int):tm ru (bZ S q) x=if x=q.b then qC ru q else tm ru S x:=by
 unfold tm;rw[LG];by_cases e:x=q.b
 .rw [ahF e,ahF e]
 .rw [aah e,aah e]
theorem Wf{ru:Str}{S:List Rec}{g:Option Int}{x:Int}(h:∀y,g=!y->x≠y):tm ru (dR S g) x=tm ru S x:=by
 cases g with
 |none=>rfl
 |some y=>
  unfold tm;rw[show aJ (dR S (!y)) x=aJ S x by
   show aJ (fQ S y) x=_;rw[QN,aah (h y 8)]]
theorem Qh{seq:List Int}{g:Option Int}:(ay seq g).length<=seq.length:=by
 cases g with
 |none=>exact bbI _
 |some g=>exact aIG
theorem aN{seq:List Int}{g:Option Int}:(ay seq g).Sublist seq:=by
 cases g with
 |none=>exact List.Sublist.refl _
 |some g=>exact erase_sublist
theorem EJ{seq:List Int}{g:Option Int}(nd:seq.Nodup){x:Int}:x∈ay seq g↔x∈seq/\∀y,g=!y->x≠y:=by
 cases g with
 |none=>exact(λh=>⟨h,λy e=>by cases e⟩,λh=>h.1,)
 |some g=>
  show x∈seq.erase g↔_;rw[adY nd];exact(λh=>(h.2,λy e=>by cases e;exact h.1,),λh=>(h.2 g 8,h.1,),)
theorem Qg{S:List Rec}{g:Option Int}{x:Int}:x∈i8 (dR S g)↔x∈i8 S/\∀y,g=!y->x≠y:=by
 cases g with
 |none=>exact(λh=>⟨h,λy e=>by cases e⟩,λh=>h.1,)
 |some g=>
  show x∈i8 (fQ S g)↔_;rw[Xf];exact(λh=>(h.1,λy e=>by cases e;exact h.2,),λh=>(h.1,h.2 g 8,),)
theorem YQ{S:List Rec}{o:Option Int}{r:Rec}(h:r∈dR S o):r∈S:=by
 cases o with
 |none=>exact h
 |some g=>exact(aCR.mp h).1
theorem Qq{S:List Rec}{q r:Rec}(u:Uq S)(h:r∈bZ S q):r=q\/(r∈S/\r.b≠q.b):=by
 have e:=(u.put q).rec r h;rw[LG]at e;by_cases c:r.b=q.b
 .rw [ahF c]at e;exact .inl (aFB e).symm
 .rw [aah c]at e;exact .inr ((LW e).1,c,)
theorem Qp{R:Int->Int->Prop}{l:List Int}{z:Int}(p:l.Pairwise R)(h:∀x∈l,R x z):(l++[z]).Pairwise R:=by
 rw[pairwise_append];exact(p,List.pairwise_singleton _ _,λa ha b hb=>by rw[aOT.mp hb];exact h a ha,)
theorem fk.missed{sh pl:Int}{ru:Str}{S:List Rec}{seq:List Int}{us us':Int->Int}{i:Nat}{z:Int}{gone:Option Int}(L:fk sh pl ru S seq us i)(hz:z∉seq)(hg:dj sh pl ru S z=gone)(hu:∀x,us' x=if x=z then 0 else us x)
  (hc:((Zi sh (z%sh) seq).length:Int)<pl\/∃g∈Zi sh (z%sh) seq,gone=!g):fk sh pl ru (bZ (dR S gone) (z,i,i,0,)) (ay seq gone++[z]) us' (i+1):=by
 have u1:=L.uq.less gone;have nz:z∉ay seq gone:=λm=>hz (aN.subset m);have tq:qC ru (z,i,i,0,)=(i:Int):=by unfold qC;split <;> rfl
 have te:∀x∈ay seq gone,tm ru (bZ (dR S gone) (z,i,i,0,)) x=tm ru S x:=λx m=>by
  let(m1,m2,):=(EJ L.nd).mp m;rw[Er,aah (λe:x=z=>nz (e ▸m)),Wf m2]
 have tz:tm ru (bZ (dR S gone) (z,i,i,0,)) z=(i:Int):=by rw[Er,ahF 8,tq]
 refine(u1.put _,uO (L.nd.sublist aN) nz,λx=>?_,Qp ?_ ?_,λx m=>?_,λr hr=>?_,λs=>?_,)
 .rw [aNA,ax0,Ht,EJ L.nd,Qg,L.mem x];exact(λh=>h.elim (λq=>.inr q) λq=>.inl q,λh=>h.elim (λq=>.inr q) λq=>.inl q,)
 .have p:=L.ord.sublist (aN (g:=gone));exact p.imp_of_mem λha hb h=>by rw[te _ ha,te _ hb];exact h
 .intro x m;rw[te x m,tz];exact L.bnd x (aN.subset m)
 .rcases a6S.mp m with m|m
  .rw [te x m];have:=L.bnd x (aN.subset m);lia
  .rw [aOT.mp m,tz];lia
 .rcases Qq u1 hr with rfl|⟨h1,h2⟩
  .rw [hu,ahF 8]
  .rw [hu,aah h2];exact L.BX r (YQ h1)
 .rw [Zz];have hl:Zi sh s (ay seq gone)=ay (Zi sh s seq) gone:=by
   cases gone with
   |none=>rfl
   |some g=>exact ZM sh s g seq
  rw[hl];have cs:=L.cap s;have ll:=Qh (seq:=Zi sh s seq) (g:=gone);split
  .rename_i e;rw[a96];rcases hc with hc|⟨g,hg',rfl⟩
   .rw [e]at hc;have:[z].length=1:=8;lia
   .rw [e]at hg';have e1:(ay (Zi sh s seq) (!g)).length=(Zi sh s seq).length-1:=aWr hg';have p0:0<(Zi sh s seq).length:=a2Y hg';have:[z].length=1:=8;lia
  .lia
theorem fk.found{sh pl:Int}{ru:Str}{S:List Rec}{seq:List Int}{us us':Int->Int}{i:Nat}{z:Int}{r:Rec}(L:fk sh pl ru S seq us i)(hr:aJ S z=!r)(hu:∀x,us' x=if x=z then us z+1 else us x) :
  fk sh pl ru (bZ S (z,r.t0,i,r.n+1,)) (if ru ="old" then seq.erase z++[z] else seq) us' (i+1):=by
 let(rS,rb,):=LW hr;subst rb;have HZ:r.b∈seq:=(L.mem _).mpr (aFN.mpr (r,rS,8,));have Mi:∀q∈bZ S (r.b,r.t0,i,r.n+1,),us' q.b=q.n:=λq hq=>by
  rcases Qq L.uq hq with rfl|⟨h1,h2⟩
  .rw [hu,ahF 8,L.BX r rS]
  .rw [hu,aah h2];exact L.BX q h1
 have Dm:∀x,x∈i8 (bZ S (r.b,r.t0,i,r.n+1,))↔x∈i8 S:=λx=>by
  rw[Ht];constructor
  .rintro (rfl|h)
   .exact (L.mem _).mp HZ
   .exact h
  .exact λh=>.inr h
 by_cases old:ru ="old"
 .rw [ahF old];have nz:r.b∉seq.erase r.b:=λm=>((adY L.nd).mp m).1 8;have te:∀x∈seq.erase r.b,tm ru (bZ S (r.b,r.t0,i,r.n+1,)) x=tm ru S x:=λx m=>by
   rw[Er,aah (λe:x=r.b=>nz (e ▸m))]
  have tz:tm ru (bZ S (r.b,r.t0,i,r.n+1,)) r.b=(i:Int):=by rw[Er,ahF 8,qC,ahF old]
  refine(L.uq.put _,uO (L.nd.erase _) nz,λx=>?_,Qp ?_ ?_,λx m=>?_,Mi,λs=>?_,)
  .rw [Dm,<-L.mem x,aNA,ax0,adY L.nd];constructor
   .rintro (⟨_,m⟩|rfl)
    .exact m
    .exact HZ
   .intro m;by_cases e:x=r.b
    .exact .inr e
    .exact .inl (e,m,)
  .have p:=L.ord.sublist (erase_sublist (a:=r.b));exact p.imp_of_mem λha hb h=>by rw[te _ ha,te _ hb];exact h
  .intro x m;rw[te x m,tz];exact L.bnd x (baK m)
  .rcases a6S.mp m with m|m
   .rw [te x m];have:=L.bnd x (baK m);lia
   .rw [aOT.mp m,tz];lia
  .rw [Zz,ZM];have cs:=L.cap s;split
   .rename_i e;have hin:r.b∈Zi sh s seq:=af.mpr (HZ,e,);rw[a96,aWr hin];have p0:0<(Zi sh s seq).length:=a2Y hin;have:[r.b].length=1:=8;lia
   .have:((Zi sh s seq).erase r.b).length<=(Zi sh s seq).length:=aIG;lia
 .rw [aah old];have te:∀x,tm ru (bZ S (r.b,r.t0,i,r.n+1,)) x=tm ru S x:=λx=>by
   rw[Er];by_cases e:x=r.b
   .rw [ahF e,e,Es L.uq rS,qC,qC,aah old,aah old]
   .rw [aah e]
  refine(L.uq.put _,L.nd,λx=>by rw[Dm,L.mem x],L.ord.imp λh=>by rw[te,te];exact h,λx m=>?_,Mi,L.cap,);rw[te];have:=L.bnd x m;lia
inductive sA(K:W.Frag)(vs:List V)(H:Hp)(Q:VK)(E:XK):Prop
 |mk (p dx:Addr) (sh pl:Int) (ru:Str):vs=[.ref p,.int sh,.int pl,.str ru]->H p=!(.ins (aI K "Room") dx [])->1<=sh->sh<=64->(∀(ls:Addr)(aq:List Addr)(du:Addr)(H':Hp),aG K H' p sh pl ru ls aq du [] (λ_=>0) 0->H ls=none->H du=none->(∀ad∈aq,H ad=none)->(∀b o,H b=!o->b≠p->H' b=!o)->Q .aE H')->sA K vs H Q E
example:(kH BO):=by
 let(p,dx,sh,pl,ru,rfl,hp,hs0,hs1,k,):=h;refine(_,(Zf (Ex (pv 0) (pv 1) 8)
   (Zf (Ex (pv 0) (pv 2) 8)
   (Zf (Ex (pv 0) (pv 3) 8)
   (Zf (Ex (pv 0) (rA (Zx (bQ:=(Zp dP)) (oN:=nO) (N:=["number"]) (own:=1) (js:=[]) 6 8 8) 8 (ZX 8 T.nR (pc (pv 1) Zc)) (λ_ _ _ _ _ _=>(bu 0 (show List.Nodup (["number"]:List Str) by decide +kernel))) (λ_ _ _ _ _ _=>(Zv Zc))) 8)
   (Zj (Ex (pv 0) HK 8)))))),?_,)
 refine(121,p,_,dx,_,8,hp,T.fK,T.Mg,(by show 0<1000;decide),?_,);refine(121,p,_,dx,_,8,Za,T.fK,T.Mf,(by show 1<1000;decide),?_,);refine(121,p,_,dx,_,8,Za,T.fK,T.Ih,(by show 2<1000;decide),?_,);have e3:upd (upd (upd H p (.ins (aI K "Room") dx (aL "shelves" (.int sh) []))) p (.ins (aI K "Room") dx (aL "places" (.int pl) (aL "shelves" (.int sh) [])))) p (.ins (aI K "Room") dx (aL "rule" (.str ru) (aL "places" (.int pl) (aL "shelves" (.int sh) [])))) p=!(.ins (aI K "Room") dx (aL "rule" (.str ru) (aL "places" (.int pl) (aL "shelves" (.int sh) [])))):=Za;have o3:∀b o,H b=!o->b≠p->upd (upd (upd H p (.ins (aI K "Room") dx (aL "shelves" (.int sh) []))) p (.ins (aI K "Room") dx (aL "places" (.int pl) (aL "shelves" (.int sh) [])))) p (.ins (aI K "Room") dx (aL "rule" (.str ru) (aL "places" (.int pl) (aL "shelves" (.int sh) [])))) b=!o:=λb o e n=>by rw[Zg n,Zg n,Zg n];exact e
 generalize upd (upd (upd H p (.ins (aI K "Room") dx (aL "shelves" (.int sh) []))) p (.ins (aI K "Room") dx (aL "places" (.int pl) (aL "shelves" (.int sh) [])))) p (.ins (aI K "Room") dx (aL "rule" (.str ru) (aL "places" (.int pl) (aL "shelves" (.int sh) []))))=H3 at *;have f3:∀b,H3 b=none->H b=none:=λb e=>by
  cases q:H b with
  |none=>rfl
  |some o=>
   by_cases z:b=p
   .rw [z,e3]at e;cases e
   .rw [o3 b o q z]at e;cases e
 refine(_,8,sh,8,7,7,λls hls=>?_,);refine BA (lo:=0) (n:=sh.toNat) (l:=ls) (λj ys σ G=>∃(v0:Option V)(aq:List Addr),σ=[v0]/\ys=aq.map V.ref/\aq.length=j/\aq.Nodup/\ls∉aq/\G ls=!(.lst ys)/\(∀ad∈aq,H3 ad=none/\G ad=!(.lst []))/\ak H3 G)
  (none,[],115,bd8,5,Za,5,Zb hls _,) ?_ ?_
 .rintro j ys σ G hj hy ⟨v0,aq,rfl,rfl,hlen,hnd,hoff,g1,g2,s1⟩;refine((sL 0),λq hq=>?_,);have nq:ls≠q:=Ze g1 hq;have ML:q∉aq:=λm=>by rw[(g2 q m).2]at hq;cases hq
  refine dh.of (bbd (7:sh.toNat<=64) 9) hj hy (by rw[Zg nq];exact g1) (_,aq++[q],8,by rw[aP2];rfl,by rw[a96,hlen];rfl,uO hnd ML,?_,Za,λad m=>?_,?_,)
  .intro m;rcases a6S.mp m with m|m
   .exact hoff m
   .exact nq (by simpa using m)
  .rcases a6S.mp m with m|m
   .rw [Zg (λz:ad=ls=>hoff (z ▸m)),Zg (λz:ad=q=>ML (z ▸m))];exact g2 ad m
   .have e:ad=q:=by simpa using m
    subst e;rw[Zg (aUP nq)];exact(s1.free hq,Za,)
  .intro e o y;rw[Zg (Ze y hls),Zg (Ze (s1 _ _ y) hq)];exact s1 _ _ y
 rintro ys σ G hy ⟨v0,aq,rfl,rfl,hlen,hnd,hoff,g1,g2,s1⟩;have gp:=s1 _ _ e3;refine(_,8,p,_,dx,_,8,gp,T.fK,T.Mh,(by show 3<1000;decide),?_,);intro du wo;have AY:ls≠p:=λz=>by rw[z,e3]at hls;cases hls
 have MS:∀ad∈aq,ad≠p:=λad m z=>by have q:=(g2 ad m).1;rw[z,e3]at q;cases q
 have FP:p≠du:=Ze (Za (H:=G) (a:=p) (o:=.ins (aI K "Room") dx (aL "standing" (.ref ls) (aL "rule" (.str ru) (aL "places" (.int pl) (aL "shelves" (.int sh) [])))))) wo;have gl:ls≠du:=λz=>by rw[<-z,Zg AY,g1]at wo;cases wo
 have ga:du∉aq:=λm=>by rw[Zg (aUP FP),(g2 du m).2]at wo;cases wo
 refine(_,8,p,_,dx,_,8,(by rw[Zg FP];exact Za),T.fK,T.AV,(by show 4<1000;decide),?_,);have DO:H3 du=none:=by
  rw[Zg (aUP FP)]at wo;exact s1.free wo
 refine k ls aq du _ ((dx,Za,),(?_,hlen,hnd,hoff,λi ad e=>?_,),([],?_,bbI _,λb=>by simp[aW],),bd8,hs0,hs1,) (f3 _ hls) (f3 _ DO) (λad m=>f3 _ (g2 ad m).1) λb o e n=>?_
 .rw [Zg AY,Zg gl,Zg AY];exact g1
 .have m:=aE5 e;rw[Zg (MS ad m),Zg (λz:ad=du=>ga (z ▸m)),Zg (MS ad m)];exact(g2 ad m).2
 .rw [Zg (aUP FP)];exact Za
 .have q:=s1 _ _ (o3 b o e n);have nb:b≠du:=λz=>by
   rw[<-z,Zg n,q]at wo;cases wo
  rw[Zg n,Zg nb,Zg n];exact q
noncomputable def zero(us:Int->Int)(b:Int):Int->Int:=λx=>if x=b then 0 else us x
inductive pO(K:W.Frag)(vs:List V)(H:Hp)(Q:VK)(E:XK):Prop
 |mk (p:Addr) (b sh pl:Int) (ru:Str) (ls:Addr) (aq:List Addr) (du:Addr) (seq:List Int) (us:Int->Int) (n:Nat):vs=[.ref p,.int b]->aG K H p sh pl ru ls aq du seq us n->Tb K H->n<=900->b∉seq->1<=pl->(Zi sh (b%sh) seq).length<64->(∀(gone:Option Int)(H':Hp),qd ru us pl (Zi sh (b%sh) seq) gone->aG K H' p sh pl ru ls aq du (ay seq gone++[b]) (zero us b) (n+1)->SR aq du H H'->Q (au gone) H')->pO K vs H Q E
inductive lS(K:W.Frag)(vs:List V)(H:Hp)(Q:VK)(E:XK):Prop
 |mk (p:Addr) (b sh pl:Int) (ru:Str) (ls:Addr) (aq:List Addr) (du:Addr) (seq:List Int) (us:Int->Int) (n:Nat):vs=[.ref p,.int b]->aG K H p sh pl ru ls aq du seq us n->Tb K H->1<=pl->(Zi sh (b%sh) seq).length<64->(∀(gone:Option Int)(H':Hp),qd ru us pl (Zi sh (b%sh) seq) gone->ak H H'->Q (au gone) H')->lS K vs H Q E
example:(fc CU pU CL):=by
 let(p,b,sh,pl,ru,ls,aq,du,seq,us,n,rfl,R,tb,hpl,h64,k,):=h;refine(_,(Zf (aY 2 nd (ZV pU hr.m T.fK (pv 0) (pc (pv 1) Zc)))
   (Zf (aF (Zq cF (Zl (Zn (K:=K) 8) 8 T.dw arj (pc (pv 2) Zc)) (vC (K:=K) 8 (pv 0) 8) (Zu _)) (Zj (Zr pB)) Zw)
   (Zj (Zr (av (Zo (K:=K) 8) (ZV CL hr.m T.fK (pv 0) (pc (pv 2) Zc)) Zh (λ_ _=>8)))))),?_,)
 let(dx,h1,):=R.ob;refine(_,8,p,dx,_,8,h1,cG ..,_,8,p,b,sh,pl,ru,ls,aq,du,seq,us,n,8,R,λs ad es hs had=>?_,);have hnd:(Zi sh (b%sh) seq).Nodup:=R.nd.sublist aOg;refine(_,8,ad,_,8,.inl (ah.of had),_,8,p,_,dx,109,h1,T.fK,T.Mf,YE ..,177,?_,);rw[ano];refine ZJ (λc=>?_) (λc=>?_)
 .exact k none H (λ_=>8,λz=>absurd z 7,) (ak.refl _)
 .refine (_,8,p,dx,_,8,h1,cG ..,_,8,p,ad,Zi sh (b%sh) seq,sh,pl,ru,ls,aq,du,seq,us,n,8,R,tb,had,h64,hnd,(λx m=>(af.mp m).1),λD H' os hD sm hl po s1 s2=>?_,);have lo:=po.length_eq
  match os,hl,po,s1,s2,lo with
  | [],_,_,_,_,lo=>exact absurd lo (by simp;lia)
  |g ::rest,hl,po,s1,s2,lo=>
   refine(D,135,ah.of hl,nu,?_,);exact k (!g) H' (λz=>absurd c 7,λ_=>(g,rest,8,po,s1,s2,),) sm
example:(jq CN tK CU pU C0):=by
 let(p,b,sh,pl,ru,ls,aq,du,seq,us,n,rfl,R,tb,hn,hb,hpl,h64,k,):=h;refine(_,(Zf (aF (ZW (ZV tK hr.m T.fK (pv 0) (pc (pv 1) Zc))) (Zj xY) Zw)
   (Zf (aY 2 nd (ZV CU hr.m T.fK (pv 0) (pc (pv 1) Zc)))
   (Zf (aF (EC (Hl (pv 2))) (Zj (ZC (ZV C0 hr.m T.fK (pv 0) (pc (pv 2) Zc)))) Zw)
   (Zf (ZC (lI (K:=K) 8 (bK aTF aMf aUV ZD (ZV pU hr.m T.fK (pv 0) (pc (pv 1) Zc)) (pc (pv 1) Zc))))
   (Zf (Lm hu (vC (K:=K) 8 (pv 0) 8) (pv 1) Zh 8)
   (Zj (Zr (pv 2)))))))),?_,)
 let(dx,h1,):=R.ob;refine(_,8,p,dx,_,8,h1,cG ..,_,8,p,b,sh,pl,ru,ls,aq,du,seq,us,n,8,R,?_,);rw[alG hb];refine(_,8,aQ 8 ?_,);refine(_,8,p,dx,_,8,h1,cG ..,_,8,p,b,sh,pl,ru,ls,aq,du,seq,us,n,8,R,tb,hpl,h64,λgone H1 gp sm=>?_,);refine gN ?_;dsimp only;have R0:=R.same sm;have hnd:(Zi sh (b%sh) seq).Nodup:=R.nd.sublist aOg;refine uD (λσ G=>σ=[!(.ref p),!(.int b),!(au gone)]/\aG K G p sh pl ru ls aq du (ay seq gone) us n/\SR aq du H G) (λD' _ k'=>?_) ?_
 .match gone,gp with
  |none,gp=>exact(121,aQ 8 (k' _ _ (8,R0,SR.of sm,)),)
  |!g,gp=>
   have hg:g∈Zi sh (b%sh) seq:=by
    by_cases c:((Zi sh (b%sh) seq).length:Int)<pl
    .exact absurd (gp.1 c) 5
    .let(g',rest,e,po,_,):=gp.2 c;injection e with e
     subst e;exact po.mem_iff.mp anL
   let(Kc,wA,):=R0.ob;exact(121,aO 8 (_,8,p,Kc,_,8,wA,cG ..,_,8,p,g,sh,pl,ru,ls,aq,du,seq,us,n,8,R0,(af.mp hg).1,λH2 R2 s3=>k' _ _ (8,R2,(SR.of sm).trans s3,),),)
 rintro _ G ⟨rfl,R1,s1⟩;let(yz,g1,):=R1.ob;let(kvs,g2,g3,g4,):=R1.dc;let(o1,o2,o3,o4,o5,o6,):=R1.off;refine(_,8,p,yz,_,8,g1,cG ..,_,8,p,b,sh,pl,ru,ls,aq,du,ay seq gone,us,n,8,R1,λs ad es hs UT=>?_,);have tX:ad∈aq:=aE5 hs;have DQ:=R1.st.at_ s ad hs;have ll:(Zi sh s (ay seq gone)).length<=64:=by
  have q:(Zi sh s (ay seq gone)).Sublist (Zi sh s seq):=List.Sublist.filter _ (aN (g:=gone));have q2:=q.length_le;rw[es]at q2 ⊢;lia
 refine(.inl (8,_,ah.of DQ,),_,8,ad,119,DQ,Zk (by rw[ano];lia),?_,);have nb:b∉ay seq gone:=λm=>hb (aN.subset m);have e1:((Zi sh s (ay seq gone)).map V.int++[V.int b])=(Zi sh s (ay seq gone)++[b]).map V.int:=by rw[aP2];rfl
 rw[e1];have S2:gu (upd G ad (.lst ((Zi sh s (ay seq gone)++[b]).map V.int))) ls aq sh (ay seq gone++[b]):=by
  refine R1.st.put hs ?_ λs' hs'=>?_
  .rw [Zz,ahF es.symm]
  .rw [Zz,aah 7]
 have np:p≠ad:=λz=>o2 (z ▸tX);have Jb:du≠ad:=λz=>o5 (z ▸tX);have yr:upd G ad (.lst ((Zi sh s (ay seq gone)++[b]).map V.int)) p=!(.ins (aI K "Room") yz (fj sh pl ru ls du)):=by rw[Zg np];exact g1
 have Ad:upd G ad (.lst ((Zi sh s (ay seq gone)++[b]).map V.int)) du=!(.dK kvs):=by rw[Zg Jb];exact g2
 refine(_,8,p,_,yz,109,yr,T.fK,T.AV,ED ..,_,8,du,_,8,k6.k (k:=Sum.inl b) Ad (Zk 7),?_,);refine(_,8,k gone _ gp ((yz,by rw[Zg o1];exact yr,),S2.other _ (aUP o3) o5,(_,Za,bbd (As ..) 7,λx=>?_,),uO R1.nd nb,R.s0,R.s1,) λx o e n1 n2=>?_,)
 .rw [HL];unfold zero;by_cases c:x=b
  .subst c;rw[ahF 8,ahF (aEK _ (aOT.mpr 8)),ahF 8]
  .rw [aah (λz=>c (aPp z)),g4 x,aah c];by_cases m:x∈ay seq gone
   .rw [ahF m,ahF (aqT _ m)]
   .rw [aah m,aah (λz=>(a6S.mp z).elim m λq=>c (aOT.mp q))]
 .rw [Zg n1,Zg (λz:x=ad=>n2 (z ▸tX))];exact s1 _ _ e n1 n2
inductive xJ(K:W.Frag)(vs:List V)(H:Hp)(Q:VK)(E:XK):Prop
 |mk (p:Addr) (b sh pl:Int) (ru:Str) (ls:Addr) (aq:List Addr) (du:Addr) (seq:List Int) (us:Int->Int) (n:Nat):vs=[.ref p,.int b]->aG K H p sh pl ru ls aq du seq us n->Tb K H->n<=900->seq.length<=900->1<=pl->(Zi sh (b%sh) seq).length<64->(∀(t:Addr)(H':Hp),b∈seq->H t=none->aG K H' p sh pl ru ls aq du (if ru ="old" then seq.erase b++[b] else seq) (bump us b) (n+1)->SR aq du H H'->H' t=!(.tup [.bl true,.aE])->Q (.ref t) H')->(∀(t:Addr)(gone:Option Int)(H':Hp),b∉seq->H t=none->qd ru us pl (Zi sh (b%sh) seq) gone->aG K H' p sh pl ru ls aq du (ay seq gone++[b]) (zero us b) (n+1)->SR aq du H H'->H' t=!(.tup [.bl false,au gone])->Q (.ref t) H')->xJ K vs H Q E
theorem SR.free{aq:List Addr}{du:Addr}{H H':Hp}{p:Addr}{sh pl:Int}{ru:Str}{ls:Addr}{seq:List Int}{us:Int->Int}{n:Nat}(s:SR aq du H H')(R':aG K H' p sh pl ru ls aq du seq us n){t:Addr}(h:H' t=none):H t=none:=by
 cases q:H t with
 |none=>rfl
 |some o=>
  have n1:t≠du:=λz=>by
   let(kvs,e,_,):=R'.dc;rw[z,e]at h;cases h
  have n2:t∉aq:=λz=>by
   let(xs,e,):=R'.st.one z;rw[e]at h;cases h
  rw[s _ _ q n1 n2]at h;cases h
example:(zC BN tK CW CN):=by
 let(p,b,sh,pl,ru,ls,aq,du,seq,us,n,rfl,R,tb,hn,hsl,hpl,h64,k1,k2,):=h;refine(_,(Zf (aF (ZW (ZV tK hr.m T.fK (pv 0) (pc (pv 1) Zc))) (Zf (ZC (ZV CW hr.m T.fK (pv 0) (pc (pv 1) Zc)))
   (Zj (Zr (nY (pc aX (pc pB Zc)))))) Zw)
   (Zj (Zr (nY (pc aX (pc (ZV CN hr.m T.fK (pv 0) (pc (pv 1) Zc)) Zc)))))),?_,)
 let(dx,h1,):=R.ob;refine(_,8,p,dx,_,8,h1,cG ..,_,8,p,b,sh,pl,ru,ls,aq,du,seq,us,n,8,R,_,8,?_,);refine ZJ (λc=>?_) (λc=>?_)
 .refine (_,8,p,dx,_,8,h1,cG ..,_,8,p,b,sh,pl,ru,ls,aq,du,seq,us,n,8,R,hn,c,hsl,λH1 R1 s1=>?_,);exact((sL 2),λt ht=>k1 t _ c (s1.free R1 ht) (R1.same (Zb ht _)) (s1.trans (SR.of (Zb ht _))) Za,)
 .refine (_,8,p,dx,_,8,h1,cG ..,_,8,p,b,sh,pl,ru,ls,aq,du,seq,us,n,8,R,tb,hn,c,hpl,h64,λgone H1 gp R1 s1=>?_,);exact((sL 2),λt ht=>k2 t gone _ c (s1.free R1 ht) gp (R1.same (Zb ht _)) (s1.trans (SR.of (Zb ht _))) Za,)
theorem fk.nil(sh pl:Int)(ru:Str)(hpl:1<=pl):fk sh pl ru [] [] (λ_=>0) 0:=
 (bd8,bd8,λb=>by simp[i8],List.Pairwise.nil,(λb m=>nomatch m),(λr m=>nomatch m),λs=>by show((0:Nat):Int)<=pl;lia,)
example:(oJ xT BO BN):=by
 let(sh,pl,ru,a,row,rfl,hS,hs0,hs1,hp0,hp1,vg,hl,bd,tb,k,):=h;refine(_,(Zf (aY 4 nd (Xr BO hr.m 8 (pc (pv 0) (pc (pv 1) (pc (pv 2) Zc)))))
   (Zj (Zr (rA (Zx (bQ:=(Zp gg)) (oN:=rE) (N:=["board","room"]) (own:=1) (js:=[4]) 6 8 8) 8 (ZF (K:=K) 8 (pv 3)) (λ_ _ _ _ _ _=>(bu 0 (show List.Nodup (["board","room"]:List Str) by decide +kernel))) (λ_ _ _ _ _ _=>(Zm BN hr.m 8 (pc (pv 1) (pc (pv 0) Zc)))))))),?_,)
 refine(185,λx dx nx Tq ne=>?_,);have s0:ak H (upd (upd H dx (.own x)) x (.ins (aI K "Room") dx [])):=λb o e=>by
  rw[Zg (Ze e nx),Zg (Ze e Tq)];exact e
 refine(x,dx,sh,pl,ru,8,Za,hs0,hs1,λls aq du H1 R1 fl fd' fa o1=>(8,?_,),);have s1:ak H H1:=λb o e=>o1 b o (s0 b o e) (Ze e nx);have fls:=s0.free fl;have U7:=s0.free fd';have J3:∀ad∈aq,H ad=none:=λad m=>s0.free (fa ad m);refine gN ?_;dsimp only;refine(_,8,a,8,(_,s1.seq hS,),λl hl'=>?_,);have wg:H l=none:=s1.free hl';have FQ:l≠ls:=λz'=>by rw[z',R1.st.top]at hl';cases hl'
 have zH:l∉aq/\l≠du:=by
  refine(λm=>?_,λz=>?_,)
  .let(xs,e,):=R1.st.one m;rw[e]at hl';cases hl'
  .let(kvs,e,_,):=R1.dc;rw[z,e]at hl';cases hl'
 refine ZA (K:=K) (a:=a) (xs:=row.map V.int) (l:=l) (λj ys σ' G=>∃(v0:Option V)(as:List Addr)(seq:List Int)(us:Int->Int),σ'=[v0,!(.ref x)]/\ys=as.map V.ref/\as.length=j/\G l=!(.lst ys)/\aG K G x sh pl ru ls aq du seq us j/\fk sh pl ru (aT sh pl ru row j).1 seq us j/\seq.length<=j /\
   (∀(m:Nat)(ad:Addr)(f:Bool×Option Int),as[m]?=!ad->(aT sh pl ru row j).2[m]?=!f->G ad=!(.tup [.bl f.1,au f.2]))/\ak H G)
  (none,[],[],123,Za,R1.same (Zb hl' _),fk.nil sh pl ru hp0,bbI _,λm ad f h=>(by simp at h),s1.trans (Zb hl' _),) (λj ys σ' G _ w9=>by let(_,_,_,_,_,_,_,_,_,_,_,_,q,):=w9;exact q.seq hS) ?_ ?_
 .rintro j y ys σ' G hj hy hys ⟨v0,as,seq,us,rfl,rfl,hlen,g1,R,L,T5,q2,s2⟩;let(z,hz,rfl,):=nX hy;have hjr:j<row.length:=(aFR.mp hz).1;have eg:row.getD j 0=z:=by rw[aGH,hz];rfl
  have Vo:(Zi sh (z%sh) seq).length<64:=by have:=L.cap (z%sh);lia
  have Si:Tb K G:=tb.same s2;let(_,rl1,SH,):=GU sh pl ru row j;have e1:(aT sh pl ru row (j+1)).1=(bJ sh pl ru j z (aT sh pl ru row j).1).1:=by rw[<-eg];rfl
  have e2:(aT sh pl ru row (j+1)).2=(aT sh pl ru row j).2++[(bJ sh pl ru j z (aT sh pl ru row j).1).2]:=by rw[<-eg];rfl
  have fin:∀(t:Addr)(H':Hp)(seq':List Int)(us':Int->Int)(f:Bool×Option Int),G t=none->aG K H' x sh pl ru ls aq du seq' us' (j+1)->SR aq du G H'->H' t=!(.tup [.bl f.1,au f.2])->(bJ sh pl ru j z (aT sh pl ru row j).1).2=f->fk sh pl ru (aT sh pl ru row (j+1)).1 seq' us' (j+1)->seq'.length<=j+1 ->
    dh (row.map V.int).length l (λj ys σ' G=>∃(v0:Option V)(as:List Addr)(seq:List Int)(us:Int->Int),σ'=[v0,!(.ref x)]/\ys=as.map V.ref/\as.length=j/\G l=!(.lst ys)/\aG K G x sh pl ru ls aq du seq us j/\fk sh pl ru (aT sh pl ru row j).1 seq us j/\seq.length<=j /\
     (∀(m:Nat)(ad:Addr)(f:Bool×Option Int),as[m]?=!ad->(aT sh pl ru row j).2[m]?=!f->G ad=!(.tup [.bl f.1,au f.2]))/\ak H G) j (as.map V.ref) [!(.int z),!(.ref x)] (.ref t) H':=by
   intro t H' seq' us' f ht R' sr DT hf L' ls';have FL:l≠t:=Ze g1 ht;have yr:=sr _ _ g1 zH.2 zH.1;have sG:ak H H':=λb o e=>sr _ _ (s2 _ _ e) (Ze e U7) λm=>by rw[J3 b m]at e;cases e
   refine dh.of (aWE (Zk (by rw[ano];lia))) hj hys yr (_,as++[t],seq',us',8,by rw[aP2];rfl,by rw[a96,hlen];rfl,Za,?_,L',ls',λm ad f' hm hf'=>?_,?_,)
   .let(o1',o2',o3',o4',o5',o6',):=R'.off;let(Kc,w1,):=R'.ob;let(kvs,w2,w3,):=R'.dc;have Td:x≠l:=λz'=>by rw[z',yr]at w1;cases w1
    exact((Kc,by rw[Zg Td];exact w1,),R'.st.other _ FQ zH.1,(kvs,by rw[Zg (aUP zH.2)];exact w2,w3,),R'.nd,R'.s0,R'.s1,)
   .rw [e2,hf]at hf';by_cases DJ:m<as.length
    .rw [ah8 DJ]at hm;rw[ah8 7]at hf';have q:=q2 m ad f' hm hf';have Jd:ad≠l:=λe=>by rw[e,g1]at q;cases q
     rw[Zg Jd];exact sr.keep R q (λ_ e=>by cases e) λ_ e=>by cases e
    .rw [a9d 7]at hm;have em:m=as.length:=by
      have:=(aFR.mp hm).1;simp at this;lia
     subst em;rw[aNJ]at hm;cases hm;rw[a9d 7,SH,hlen,aNJ]at hf';cases hf';rw[Zg (aUP FL)];exact DT
   .intro e o y';rw[Zg (Ze y' wg)];exact sG _ _ y'
  refine(121,x,z,sh,pl,ru,ls,aq,du,seq,us,j,8,R,Si,7,7,hp0,Vo,λt H' hin ht R' sr DT=>?_,λt gone H' hin ht gp R' sr DT=>?_,)
  .have JU:z∈i8 (aT sh pl ru row j).1:=(L.mem z).mp hin;cases hr':aJ (aT sh pl ru row j).1 z with
   |none=>exact absurd JU (aH.mp hr')
   |some r=>
    have es:bJ sh pl ru j z (aT sh pl ru row j).1=(bZ (aT sh pl ru row j).1 (z,r.t0,j,r.n+1,),(true,none)):=by
     unfold bJ;rw[hr']
    refine fin t H' _ _ (true,none) ht R' sr DT (by rw[es]) ?_ ?_
    .rw [e1,es];exact L.found hr' λx=>8
    .split
     .rw [a96,aWr hin];have:0<seq.length:=a2Y hin;have:[z].length=1:=8;lia
     .lia
  .have JU:z∉i8 (aT sh pl ru row j).1:=λm=>hin ((L.mem z).mpr m);have hr':=aH.mpr JU;have hg:=Wg L hp0 vg gp;have es:bJ sh pl ru j z (aT sh pl ru row j).1=(bZ (dR (aT sh pl ru row j).1 gone) (z,j,j,0,),(false,gone)):=by
    unfold bJ;rw[hr',hg]
   refine fin t H' _ _ (false,gone) ht R' sr DT (by rw[es]) ?_ ?_
   .rw [e1,es];refine L.missed hin hg (λx=>8) ?_;by_cases c:((Zi sh (z%sh) seq).length:Int)<pl
    .exact .inl c
    .let(g,rest,rfl,pm,_,):=gp.2 c;exact .inr (g,pm.mem_iff.mp anL,8,)
   .rw [a96];have:=Qh (seq:=seq) (g:=gone);have:[z].length=1:=8;lia
 .rintro ys σ' G hys ⟨v0,as,seq,us,rfl,rfl,hlen,g1,R,L,T5,q2,s2⟩;rw[ano]at hlen;refine k l G wg s2 (as,g1,?_,λm ad f h1 h2=>?_,)
  .rw [GY,hlen]
  .refine q2 m ad f h1 ?_;rw[ano];exact h2
noncomputable def tV(sh pl:Int)(ru:Str)(row:List Int):Nat:=(cS sh pl ru row).countP λf=>(not (f.1))
inductive oE(K:W.Frag)(vs:List V)(H:Hp)(Q:VK)(E:XK):Prop
 |mk (sh pl:Int) (ru:Str) (a:Addr) (row:List Int):vs=[.int sh,.int pl,.str ru,.ref a]->ah K H a (row.map V.int)->1<=sh->sh<=64->1<=pl->pl<=16->uR ru->row.length<=400->rX 9999 row->Tb K H->(∀H',ak H H'->Q (.int (tV sh pl ru row)) H')->oE K vs H Q E
example:(qM oK xT):=by
 let(sh,pl,ru,a,row,rfl,hS,hs0,hs1,hp0,hp1,vg,hl,bd,tb,k,):=h;refine(_,(Zj (Zr (Zl (Zn (K:=K) 8) 8 T.dw arj (pc (ER (Zx (bQ:=(Zp iE)) (oN:=uV) (N:=["found","out"]) (own:=2) (js:=[]) 6 8 8) 8 (ZF (K:=K) 8 (Zm xT hr.m 8 (pc (pv 0) (pc (pv 1) (pc (pv 2) (pc (pv 3) Zc)))))) (λ_ _ _ _ _ _=>(ZR (K:=K) (n:=2) 8 8 (Zs (bu 0 (show List.Nodup (["found","out"]:List Str) by decide +kernel)) (Zs (bu 1 (show List.Nodup (["found","out"]:List Str) by decide +kernel)) ZQ)))) (λ_ _ _ _ _ _=>(ny (ZW (pv 0)))) (λ_ _ _ _ _ _=>(pv 1))) Zc)))),?_,);refine(441,sh,pl,ru,a,row,8,hS,hs0,hs1,hp0,hp1,vg,hl,bd,tb,λlr H1 hlr s1 told=>?_,);let(aq,p1,p2,p3,):=told;have rl:=GY sh pl ru row;have hmiss:tV sh pl ru row=(cS sh pl ru row).countP λf=>(not (f.1)):=8;generalize cS sh pl ru row=fs at *;refine(lr,8,(_,ah.of p1,),λl hl'=>?_,);refine ZA (K:=K) (a:=lr) (xs:=aq.map V.ref) (l:=l) (λj ys σ' G'=>∃v0 v1:Option V,σ'=[v0,v1]/\ys.length=(fs.take j).countP (λf=>(not (f.1)))/\G'=upd H1 l (.lst ys))
  (none,none,115,) (λj ys σ' G' _ w9=>by let(_,_,_,_,q,):=w9;exact ah.of (by rw[q,Zg (Ze p1 hl')];exact p1)) ?_ ?_
 .rintro j x ys σ' G' hj dS hys ⟨v0,v1,rfl,hy,rfl⟩;rw[aGb]at dS;cases ea:aq[j]? with
  |none=>rw[ea]at dS;cases dS
  |some ad=>
   rw[ea]at dS;cases dS;have DL:j<fs.length:=by rw[<-p2];exact(aFR.mp ea).1
   have El:=p3 j ad fs[j] ea (aMp DL);have tk:(fs.take (j+1)).countP (λf=>(not (f.1)))=(fs.take j).countP (λf=>(not (f.1)))+(if((not (fs[j].1)))=true then 1 else 0):=by
    rw[a8b,aMp DL,a8D];show _+List.countP _ [fs[j]]=_;rw[aHO,List.countP_nil,apV]
   refine(ad,_,8,bS.of (by rw[Zg (Ze El hl')];exact El),6553,?_,);refine Ln (λc'=>?_) (λc'=>?_)
   .rw [ahF c']at tk;exact(_,8,dh.of (aWE (Zk (by rw[ano];lia))) hj hys Za (109,by rw[a96,hy,tk];rfl,rq,),)
   .rw [aah c',aiv]at tk;exact k7.of hj hys (109,hy.trans tk.symm,8,)
 rintro ys σ' G' _ ⟨v0,v1,rfl,hy,rfl⟩;rw[ano,p2,aXW]at hy;refine(l,_,8,.inl (ah.of Za),?_,);rw[hy];have q:=k _ (s1.trans (Zb hl' (.lst ys)));rw[hmiss]at q;exact q
noncomputable def bT(pl:Int)(ms:List Int)(b:Int)(o:Option Int):Bool:=
 if b∈ms\/(ms.length:Int)<pl then o.isNone else(match o with|some g=>decide (g∈ms)|none=>false)
noncomputable def dz(sh pl:Int)(b:Int)(o:Option Int)(S:List Int×Nat):Option (List Int×Nat):=
 if bT pl (Zi sh (b%sh) S.1) b o=true then(if b∈S.1 then some S else !(ay S.1 o++[b],S.2+1)) else none
noncomputable def bE(sh pl:Int)(row:List Int)(os:List (Option Int)):Nat->Option (List Int×Nat)
 |0=>!([],0)
 |i+1=>(bE sh pl row os i).bind (dz sh pl (row.getD i 0) (os.getD i none))
noncomputable def gZ(sh pl:Int)(row:List Int)(os:List (Option Int)):Option Int:=if os.length=row.length then(bE sh pl row os row.length).map (λS=>(S.2:Int)) else none
theorem Qe{sh pl:Int}{row:List Int}{os:List (Option Int)}:∀{i:Nat}{S:List Int×Nat},bE sh pl row os i=!S->S.1.length<=i/\S.2<=i
 |0,S,h=>by
  have:S=([],0):=(aFB h).symm;subst this;exact(bbI _,bbI _,)
 |i+1,S,h=>by
  have h':(bE sh pl row os i).bind (dz sh pl (row.getD i 0) (os.getD i none))=!S:=h;cases e:bE sh pl row os i with
  |none=>rw[e]at h';cases h'
  |some T=>
   let(h1,h2,):=Qe e;rw[e]at h';have h3:dz sh pl (row.getD i 0) (os.getD i none) T=!S:=h';unfold dz at h3;split at h3
   .split at h3
    .cases h3;exact(7,7,)
    .cases h3;have:(ay T.1 (os.getD i none)).length<=T.1.length:=by
      cases os.getD i none with
      |none=>exact bbI _
      |some g=>exact aIG
     refine(?_,?_,)
     .show (ay T.1 (os.getD i none)++[_]).length<=_;rw[a96];show _+1<=_;lia
     .show T.2+1<=_;lia
   .cases h3
def Kd(H:Hp)(y:V):Prop:=y=.aE\/(∃b,y=.bl b)\/(∃z,y=.int z)\/(∃s,y=.str s)\/∃a xs,y=.ref a/\(H a=!(.lst xs)\/H a=!(.tup xs))
theorem Kd.same{H H':Hp}{y:V}(h:Kd H y)(s:ak H H'):Kd H' y:=by
 rcases h with h|h|h|h|⟨a,xs,e,h⟩
 .exact .inl h
 .exact .inr (.inl h)
 .exact .inr (.inr (.inl h))
 .exact .inr (.inr (.inr (.inl h)))
 .exact .inr (.inr (.inr (.inr (a,xs,e,h.imp (s _ _) (s _ _),))))
noncomputable def qV:V->Bool
 | .int _=>true
 |_=>false
noncomputable def vO:V->Option Int
 | .int g=>!g
 |_=>none
noncomputable def bO(pl:Int)(ms:List Int)(b:Int)(y:V):Bool:=
 if b∈ms\/(ms.length:Int)<pl then decide (y=.aE) else(match y with| .int g=>decide (g∈ms)|_=>false)
noncomputable def fB(sh pl:Int)(b:Int)(y:V)(S:List Int×Nat):Option (List Int×Nat):=
 if bO pl (Zi sh (b%sh) S.1) b y=true then(if b∈S.1 then some S else !(ay S.1 (vO y)++[b],S.2+1)) else none
noncomputable def cJ(sh pl:Int)(row:List Int)(os:List V):Nat->Option (List Int×Nat)
 |0=>!([],0)
 |i+1=>(cJ sh pl row os i).bind (fB sh pl (row.getD i 0) (os.getD i .aE))
noncomputable def dD(sh pl:Int)(row:List Int)(os:List V):Option Int:=if os.length=row.length then(cJ sh pl row os row.length).map (λS=>(S.2:Int)) else none
theorem LF{sh pl:Int}{row:List Int}{os:List V}{i:Nat}(h:cJ sh pl row os i=none):∀d,cJ sh pl row os (i+d)=none
 |0=>h
 |d+1=>by
  show(cJ sh pl row os (i+d)).bind _=none;rw[LF h d];rfl
theorem Qd{sh pl:Int}{row:List Int}{os:List V}:∀{i:Nat}{S:List Int×Nat},cJ sh pl row os i=!S->S.1.length<=i/\S.2<=i
 |0,S,h=>by
  have:S=([],0):=(aFB h).symm;subst this;exact(bbI _,bbI _,)
 |i+1,S,h=>by
  have h':(cJ sh pl row os i).bind (fB sh pl (row.getD i 0) (os.getD i .aE))=!S:=h;cases e:cJ sh pl row os i with
  |none=>rw[e]at h';cases h'
  |some T=>
   let(h1,h2,):=Qd e;rw[e]at h';have h3:fB sh pl (row.getD i 0) (os.getD i .aE) T=!S:=h';unfold fB at h3;split at h3
   .split at h3
    .cases h3;exact(7,7,)
    .cases h3;have:(ay T.1 (vO (os.getD i .aE))).length<=T.1.length:=by
      cases vO (os.getD i .aE) with
      |none=>exact bbI _
      |some g=>exact aIG
     refine(?_,?_,)
     .show (ay T.1 (vO (os.getD i .aE))++[_]).length<=_;rw[a96];show _+1<=_;lia
     .show T.2+1<=_;lia
   .cases h3
theorem om{H:Hp}{a:Addr}{xs:List V}(h:H a=!(.lst xs)):rZ H (.ref a)=!"list":=by simp only[rZ,h]
theorem oj{H:Hp}{a:Addr}{xs:List V}(h:H a=!(.tup xs)):rZ H (.ref a)=!"tuple":=by simp only[rZ,h]
inductive sD(vs:List V)(H:Hp)(Q:VK)(E:XK):Prop
 |mk (y:V):vs=[y]->Kd H y->Q (.bl (qV y)) H->sD vs H Q E
example:(kC xV):=by
 let(x,rfl,kd,q,):=h;refine(_,(Zj (Zr (EA (Zl uL 8 T.qK uK (pc (pv 0) (pc (uP (v:=.ty "int") 8 T.vd yI 8) Zc))) (EB (OA (Zl uL 8 T.qK uK (pc (pv 0) (pc (uP (v:=.ty "bool") 8 T.AM HQ 8) Zc)))))))),?_,);rcases kd with rfl|⟨b,rfl⟩|⟨z,rfl⟩|⟨s,rfl⟩|⟨a,xs,rfl,h|h⟩
 .exact (263,9,_,8,aQ 9 q,)
 .exact (263,9,_,8,aO 9 (263,9,_,8,q,),)
 .exact (263,9,_,8,aO 9 (263,9,_,8,q,),)
 .exact (263,9,_,8,aQ 9 q,)
 .exact (181,om h,9,_,8,aQ 9 q,)
 .exact (181,oj h,9,_,8,aQ 9 q,)
inductive sJ(K:W.Frag)(vs:List V)(H:Hp)(Q:VK)(E:XK):Prop
 |mk (pl:Int) (m:Addr) (ms:List Int) (b:Int) (y:V):vs=[.int pl,.ref m,.int b,y]->H m=!(.lst (ms.map V.int))->Kd H y->Q (.bl (bO pl ms b y)) H->sJ K vs H Q E
example:(qN BV xV):=by
 let(pl,m,ms,b,y,rfl,hm,kd,k,):=h;refine(_,(Zf (aF (PW.pt (pw_or (Zq (EW (K:=K) 8) (pv 2) (pv 1) 8) (rW (Zq cF (Zl (Zn (K:=K) 8) 8 T.dw arj (pc (pv 1) Zc)) (pv 0) (Zu _))))) (Zj (Zr (GO (GQ (pv 3))))) Zw)
   (Zj (Zr (EA (Zm xV hr.m 8 (pc (pv 3) Zc)) (EB (qo (EW (K:=K) 8) (pv 3) (pv 1) 8)))))),?_,)
 refine(121,m,_,8,.inl (ah.of hm),8,vB _,_,8,?_,);rw[yJ,aah aJD];have e1:b∈ms\/(ms.length:Int)<pl->bO pl ms b y=decide (y=.aE):=λc=>by
  unfold bO;rw[ahF c]
 by_cases c:b∈ms
 .rw [e1 (.inl c)]at k;exact aO (anN c) (aO 8 (_,8,k,))
 .refine aQ (alG c) (_,8,m,_,8,.inl (ah.of hm),433,?_,);rw[ano];refine ZJ (λc2=>?_) (λc2=>?_)
  .rw [e1 (.inr c2)]at k;exact(_,8,k,)
  .refine (_,8,y,8,kd,?_,);have e2:¬(b∈ms\/(ms.length:Int)<pl):=λq=>q.elim c c2;unfold bO at k;rw[aah e2]at k;rcases kd with rfl|⟨b,rfl⟩|⟨g,rfl⟩|⟨s,rfl⟩|⟨a,xs,rfl,h⟩
   .exact (_,8,aQ 8 k,)
   .exact (_,8,aQ 8 k,)
   .refine (_,8,aO 8 (121,m,_,8,.inl (ah.of hm),8,vB _,?_,),);show Q (V.bl (yj (.int g) (ms.map V.int))) H;rw[yJ];exact k
   .exact (_,8,aQ 8 k,)
   .exact (_,8,aQ 8 k,)
inductive sQ(vs:List V)(H:Hp)(Q:VK)(E:XK):Prop
 |mk (m:Addr) (ms:List Int) (b:Int) (out:Option Int):vs=[.ref m,.int b,au out]->H m=!(.lst (ms.map V.int))->ms.length<=900->(∀g,out=!g->g∈ms)->Q .aE (upd H m (.lst ((ay ms out++[b]).map V.int)))->sQ vs H Q E
example:(vX xX):=by
 let(m,ms,b,out,rfl,hm,hl,hg,k,):=h;refine(_,(Zf (aF (EC (Hl (pv 2))) (Zj (ZC (lI (K:=K) 8 (bK aTF aol abi LM (pv 0) (pc (pv 2) Zc))))) Zw)
   (Zj (ZC (lI (K:=K) 8 (bK aTF aMf aUV ZD (pv 0) (pc (pv 1) Zc)))))),?_,)
 refine uD (λσ G=>σ=[!(.ref m),!(.int b),!(au out)]/\G=upd H m (.lst ((ay ms out).map V.int))) (λD' _ k'=>?_) ?_
 .cases out with
  |none=>exact(121,aQ 8 (k' _ _ (8,by rw[show upd H m (.lst ((ay ms none).map V.int))=H from Ws hm],)),)
  |some g=>exact(121,aO 8 (_,8,.inl (8,_,ah.of hm,),_,8,m,ms,g,8,8,hm,hg g 8,k' _ _ (8,8,),),)
 rintro _ _ ⟨rfl,rfl⟩;have len:(ay ms out).length<=ms.length:=by
  cases out with
  |none=>exact bbI _
  |some g=>exact aIG
 refine(_,8,.inl (8,_,ah.of Za,),_,8,m,119,Za,Zk (by rw[ano];lia),?_,);rw[rq];rw[aP2]at k;exact k
def nD(H:Hp)(x:V)(oo:Option (List V)):Prop:=match oo with
 |some ys=>(∃lo,x=.ref lo/\H lo=!(.lst ys))/\ys.length<=400/\∀y∈ys,Kd H y
 |none=>x=.aE\/(∃s,x=.str s)\/∃a xs,x=.ref a/\H a=!(.tup xs)
theorem nD.same{H H':Hp}{x:V}{oo:Option (List V)}(h:nD H x oo)(s:ak H H'):nD H' x oo:=by
 cases oo with
 |some ys=>
  let((lo,e,h1,),h2,h3,):=h;exact((lo,e,s _ _ h1,),h2,λy hy=>(h3 y hy).same s,)
 |none=>
  rcases h with h|h|⟨a,xs,e,h⟩
  .exact .inl h
  .exact .inr (.inl h)
  .exact .inr (.inr (a,xs,e,s _ _ h,))
noncomputable def jw(sh pl:Int)(row:List Int):Option (List V)->Option Int
 |some ys=>dD sh pl row ys
 |none=>none
inductive xG(K:W.Frag)(vs:List V)(H:Hp)(Q:VK)(E:XK):Prop
 |mk (sh pl:Int) (a:Addr) (x:V) (row:List Int) (oo:Option (List V)):vs=[.int sh,.int pl,.ref a,x]->ah K H a (row.map V.int)->nD H x oo->1<=sh->sh<=64->row.length<=400->(∀H',ak H H'->Q (au (jw sh pl row oo)) H')->xG K vs H Q E
example:(gT CQ lC BV xX):=by
 let(sh,pl,a,x,row,oo,rfl,hS,hO,hs0,hs1,hl,k,):=h;refine(_,(Zf (aF (PW.pt (pw_or (ny (ZW (Zl uL 8 T.qK uK (pc (pv 3) (pc (uP (v:=.ty "list") 8 T.vQ Ar 8) Zc))))) (rW (Zq gE (Zl (Zn (K:=K) 8) 8 T.dw arj (pc (pv 3) Zc)) (Zl (Zn (K:=K) 8) 8 T.dw arj (pc (pv 2) Zc)) (Zu _))))) (Zj (Zr pB)) Zw)
   (Zf (EO 4 (Zx (bQ:=(Zp bY)) (oN:=iZ) (N:=["number"]) (own:=1) (js:=[]) 6 8 8) 8 nd 8 8 (ZX 8 T.nR (pc (pv 0) Zc)) (λ_ _ _ _ _ _=>(bu 0 (show List.Nodup (["number"]:List Str) by decide +kernel))) (λ_ _ _ _ _ _=>(Zv Zc)))
   (Zf (aY 05 nd Zh)
   (Zf (nZ aDP 8 (GL 8 T.AK (pc (pv 2) (pc (pv 3) Zc))) (ZR (K:=K) (n:=2) 8 8 (Zs (bu 06 nd) (Zs (bu 07 nd) ZQ))) (Zf (aY 08 nd (av (Zo (K:=K) 8) (pv 4) (Zm lC hr.m 8 (pc (pv 0) (pc (pv 06) Zc))) (λ_ _=>8)))
   (Zf (aF (ny (ZW (Zm BV hr.m 8 (pc (pv 1) (pc (pv 08) (pc (pv 06) (pc (pv 07) Zc))))))) (Zj (Zr pB)) Zw)
   (Zj (aF (Zq (Bw (K:=K) 8) (pv 06) (pv 08) 8) (Zf (K2 (i:=05) nd 8 (by first|exact Or.inl 8|exact Or.inr 8) Zh Oz)
   (Zj (ZC (Zm xX hr.m 8 (pc (pv 08) (pc (pv 06) (pc (pv 07) Zc))))))) Zw)))))
   (Zj (Zr (pv 05))))))),?_,)
 cases oo with
 |none=>
  have q:=k H (ak.refl _);rcases hO with rfl|⟨s,rfl⟩|⟨t,xs,rfl,h⟩
  .exact (263,9,_,8,aO 9 (aO 8 q),)
  .exact (263,9,_,8,aO 9 (aO 8 q),)
  .exact (181,oj h,9,_,8,aO 9 (aO 8 q),)
 |some os=>
 let((lo,rfl,hO,),zW,hkd,):=hO;have k:∀H',ak H H'->Q (au (dD sh pl row os)) H':=k;have ty:rZ H (.ref lo)=!"list":=om hO;refine(181,ty,9,_,8,aQ 9 (_,8,lo,_,8,.inl (ah.of hO),_,8,a,_,8,.inl hS,113,?_,),);rw[ano];by_cases dU:os.length=row.length
 case neg=>
  refine aO (by simp;lia) ?_;have q:=k H (ak.refl _);unfold dD at q;rw[aah dU]at q;exact q
 refine aQ (by simp[dU]) ?_;refine(_,8,sh,8,7,7,λls hls=>?_,);refine BA (lo:=0) (n:=sh.toNat) (l:=ls) (λj ys σ G=>∃(v0:Option V)(aq:List Addr),σ=[v0]/\ys=aq.map V.ref/\aq.length=j/\aq.Nodup/\ls∉aq/\G ls=!(.lst ys)/\(∀ad∈aq,H ad=none/\G ad=!(.lst []))/\ak H G)
  (none,[],115,bd8,5,Za,5,Zb hls _,) ?_ ?_
 .rintro j ys σ G hj hy ⟨v0,aq,rfl,rfl,hlen,hnd,hoff,g1,g2,s1⟩;refine((sL 0),λp hp=>?_,);have np:ls≠p:=Ze g1 hp;have Di:p∉aq:=λm=>by rw[(g2 p m).2]at hp;cases hp
  refine dh.of (bbd (7:sh.toNat<=64) 9) hj hy (by rw[Zg np];exact g1) (_,aq++[p],8,by rw[aP2];rfl,by rw[a96,hlen];rfl,uO hnd Di,?_,Za,λad m=>?_,?_,)
  .intro m;rcases a6S.mp m with m|m
   .exact hoff m
   .exact np (by simpa using m)
  .rcases a6S.mp m with m|m
   .rw [Zg (λz:ad=ls=>hoff (z ▸m)),Zg (λz:ad=p=>Di (z ▸m))];exact g2 ad m
   .have e:ad=p:=by simpa using m
    subst e;rw[Zg (aUP np)];exact(s1.free hp,Za,)
  .intro e o y;rw[Zg (Ze y hls),Zg (Ze (s1 _ _ y) hp)];exact s1 _ _ y
 rintro ys σ G hy ⟨v0,aq,rfl,rfl,hlen,hnd,hoff,g1,g2,s1⟩;refine gN ?_;have S0:gu G ls aq sh []:=(g1,hlen,hnd,hoff,λi ad e=>(g2 ad (aE5 e)).2,);have fr:∀ad∈aq,H ad=none:=λad m=>(g2 ad m).1;clear g1 g2 hy;dsimp only;refine gN ?_;dsimp only;refine(121,a,lo,8,(_,s1.seq hS,),(_,ah.of (s1 _ _ hO),),Ll (K:=K) (a:=a) (b:=lo) (xs:=row.map V.int) (ys:=os) (λi σ G=>∃(v6 v7 v8:Option V)(S:List Int×Nat),σ=[!(.int sh),!(.int pl),!(.ref a),!(.ref lo),!(.ref ls),!(.int S.2),v6,v7,v8]/\cJ sh pl row os i=!S/\gu G ls aq sh S.1/\ak H G)
  (by rw[ano,dU]) (none,none,none,([],0),8,8,S0,s1,) (λi σ G _ w9=>by let(_,_,_,_,_,_,_,q,):=w9;exact(q.seq hS,ah.of (q _ _ hO),)) ?_ ?_,)
 .clear S0 s1;rintro i x y t σ G hx hy ⟨v6,v7,v8,S,rfl,hR,Sh,s1⟩ ht;let(z,hz,rfl,):=nX hx;have ho:os[i]?=!y:=hy;have Jv:=hkd y (aE5 hy);have hi:i<row.length:=(aFR.mp hz).1;have eg:row.getD i 0=z:=by rw[aGH,hz];rfl
  have eo:os.getD i .aE=y:=by rw[aGH,ho];rfl
  have r1:cJ sh pl row os (i+1)=fB sh pl z y S:=by
   show(cJ sh pl row os i).bind _=_;rw[hR,eg,eo];rfl
  let(m7,zO,):=Qd hR;refine(t,_,8,bS.of Za,503,?_,);have w:=Zb ht (.tup [.int z,y]);have S1:gu (upd G t (.tup [.int z,y])) ls aq sh S.1:=(w _ _ Sh.top,Sh.len,Sh.nd,Sh.off,λi ad e=>w _ _ (Sh.at_ i ad e),);have s2:=s1.trans w;generalize upd G t (.tup [.int z,y])=G1 at *;clear Sh s1 w;let(s0,ad,D4,had,hat,hm,):=S1.get (k:=z%sh) (aFA _ 7) (azk _ 7);refine(185,sh,z,8,hs0,ls,135,ah.of S1.top,hat,?_,);refine gN ?_;dsimp only;have lm:(Zi sh (z%sh) S.1).length<=S.1.length:=ayM ..;have hin:z∈Zi sh (z%sh) S.1↔z∈S.1:=(λm=>(af.mp m).1,λm=>af.mpr (m,8,),);unfold fB at r1;refine(441,pl,ad,Zi sh (z%sh) S.1,z,y,8,hm,Jv.same s2,_,8,?_,);by_cases c:bO pl (Zi sh (z%sh) S.1) z y=true
  case neg=>
   rw[aah c]at r1;refine aO (by simpa using c) ?_;have q:=k G1 s2;have e:dD sh pl row os=none:=by
    unfold dD;rw[ahF dU];have:=LF r1 (row.length-(i+1));rw[show i+1+(row.length-(i+1))=row.length by lia]at this;rw[this];rfl
   rw[e]at q;exact q
  rw[ahF c]at r1;refine aQ (by simpa using c) ?_;refine(121,ad,_,8,.inl (ah.of hm),8,vB _,_,8,?_,);rw[yJ,ahF 8];by_cases c2:z∈S.1
  .rw [ahF c2]at r1;refine aQ (by simpa using hin.mpr c2) ?_;exact(108,S,8,r1,S1,s2,)
  .rw [aah c2]at r1;have c3:z∉Zi sh (z%sh) S.1:=λm=>c2 (hin.mp m);refine aO (by simpa using c3) ?_;have ur:∀g,vO y=!g->g∈Zi sh (z%sh) S.1:=λg e=>by
    have ey:y=.int g:=by cases y <;> first|(cases e;rfl)|cases e
    subst ey;unfold bO at c;split at c
    .exact absurd (adw c) (λq=>by cases q)
    .exact adw c
   have U8:y=au (vO y):=by
    unfold bO at c;split at c
    .rw [adw c];rfl
    .cases y <;> first|rfl|(exact absurd c aJD)
   refine(183,?_,);refine(185,ad,Zi sh (z%sh) S.1,z,vO y,by rw[<-U8];rfl,hm,7,ur,?_,);refine(108,(ay S.1 (vO y)++[z],S.2+1),8,r1,?_,λe u y=>?_,)
   .refine S1.put had ?_ λs hs=>?_
    .rw [Zz,ahF D4.symm,D4];cases vO y with
     |none=>rfl
     |some g=>show Zi _ _ (S.1.erase g)++_=_;rw[ZM];rfl
    .have ne:¬z%sh=(s:Int):=λq=>hs 7;rw[Zz,aah ne];cases Vc:vO y with
     |none=>rfl
     |some g=>
      show Zi _ _ (S.1.erase g)=_;rw[ZM];exact aGN λm=>ne ((af.mp (ur g Vc)).2.symm.trans (af.mp m).2)
   .rw [Zg (Ze y (fr ad (aE5 had)))];exact s2 _ _ y
 .rintro σ G3 ⟨v6,v7,v8,S,rfl,hR,Sh,s3⟩;rw[ano]at hR;have q:=k G3 s3;unfold dD at q;rw[ahF dU,hR]at q;exact(_,8,q,)
theorem YO{pl b:Int}{ms ms':List Int}{y:V}(h1:∀x,x∈ms↔x∈ms')(h2:ms.length=ms'.length):bO pl ms b y=bO pl ms' b y:=by
 unfold bO;rw[h2];have e:(b∈ms\/(ms'.length:Int)<pl)↔(b∈ms'\/(ms'.length:Int)<pl):=or_congr (h1 b) Iff.rfl;by_cases c:b∈ms'\/(ms'.length:Int)<pl
 .rw [ahF c,ahF (e.mpr c)]
 .rw [aah c,aah (λz=>c (e.mp z))];cases y with
  |int g=>exact aq6.mpr (h1 g)
  |_=>rfl
theorem XZ{pl b:Int}{ms:List Int}{y:V}(h1:y≠.aE)(h2:qV y=false):bO pl ms b y=false:=by
 unfold bO;split
 .exact alG h1
 .cases y with
  |int g=>cases h2
  |_=>rfl
inductive pL(K:W.Frag)(vs:List V)(H:Hp)(Q:VK)(E:XK):Prop
 |mk (sh pl:Int) (lt:Addr) (b:Int) (y:V) (T:List Int):vs=[.int sh,.int pl,.ref lt,.int b,y]->H lt=!(.lst (T.map V.int))->T.length<=400->1<=sh->Kd H y->(∀H',ak H H'->Q (.bl (bO pl (Zi sh (b%sh) T) b y)) H')->pL K vs H Q E
example:(tO BR):=by
 let(sh,pl,lt,b,y,TT,rfl,hT,hl,hs0,kd,k,):=h;refine(_,(Zf (aF (PW.pt (vv (EC (Hl (pv 4))) (vD (PW.pt (pw_or (ny (ZW (Zl uL 8 T.qK uK (pc (pv 4) (pc (uP (v:=.ty "int") 8 T.vd yI 8) Zc))))) (rW (ZW (Zl uL 8 T.qK uK (pc (pv 4) (pc (uP (v:=.ty "bool") 8 T.AM HQ 8) Zc)))))))))) (Zj (Zr aX)) Zw)
   (Zf (HP 05 (Zx (bQ:=(Zp kh)) (oN:=wX) (N:=["_law_one","_law_shelves","_law_board"]) (own:=1) (js:=[0,3]) 6 8 8) 8 nd 8 8 (ZF (K:=K) 8 (pv 2)) (λ_ _ _ _ _ _=>(bu 0 (show List.Nodup (["_law_one","_law_shelves","_law_board"]:List Str) by decide +kernel))) (λ_ _ _ _ _ _=>(Zq aS (aa i9 (pv 0) (pv 1)) (aa i9 (pv 2) (pv 1)) (Zu _))) (λ_ _ _ _ _ _=>(pv 0)))
   (Zf (aF (PW.pt (pw_or (Zq (EW (K:=K) 8) (pv 3) (pv 2) 8) (rW (Zq cF (Zl (Zn (K:=K) 8) 8 T.dw arj (pc (pv 05) Zc)) (pv 1) (Zu _))))) (Zj (Zr (GO (GQ (pv 4))))) Zw)
   (Zj (Zr (EA (GO (Hl (pv 4))) (EB (qo (EW (K:=K) 8) (pv 4) (pv 05) 8)))))))),?_,)
 have bad:(y≠.aE)->qV y=false->Q (.bl false) H:=λh1 h2=>by
  have q:=k H (ak.refl _);rw[XZ h1 h2]at q;exact q
 refine uD (λσ G=>G=H/\σ=[!(.int sh),!(.int pl),!(.ref lt),!(.int b),!y,none]/\(y=.aE\/∃g,y=.int g)) (λD' hD k'=>?_) ?_
 .rcases kd with rfl|⟨c,rfl⟩|⟨z,rfl⟩|⟨s,rfl⟩|⟨q,xs,rfl,h⟩
  .exact (121,aQ 8 (aQ 8 (k' _ _ (8,8,.inl 8,))),)
  .refine (121,aO 8 (263,9,_,8,aQ 9 (263,9,_,8,aO 9 ?_,),),);show D'.rt _ _;rw[hD];exact bad 5 8
  .exact (121,aO 8 (263,9,_,8,aQ 9 (263,9,_,8,aQ 9 (k' _ _ (8,8,.inr (_,8,),)),),),)
  .refine (121,aO 8 (263,9,_,8,aO 9 (aO 8 ?_),),);show D'.rt _ _;rw[hD];exact bad 5 8
  .have ty:∃ty,rZ H (.ref q)=!ty/\((not (yZ ty "int")))=true:=h.elim (λh=>(_,om h,9,)) λh=>(_,oj h,9,);let(ty,e1,e2,):=ty;refine(121,aO 8 (181,e1,9,_,8,aO e2 (aO 8 ?_),),);show D'.rt _ _;rw[hD];exact bad 5 8
 rintro _ G ⟨e,rfl,hy⟩;have e:=e.symm;subst e;try dsimp only
 refine hide λu1 e1=>?_;have hbig:(TT.map V.int).length<=sizeLine:=aWE (Zk (by rw[ano];lia));refine(_,8,lt,8,(_,ah.of hT,),λls hls=>?_,);refine ZA (K:=K) (a:=lt) (xs:=TT.map V.int) (l:=ls) (λi ys σ G=>∃v0:Option V,σ=[v0,!(.int sh),!(.int b)]/\ys=(Zi sh (b%sh) (TT.take i)).map V.int/\G=upd H ls (.lst ys)) (none,115,) (λi ys σ G _ w9=>by let(_,_,_,q,):=w9;exact ah.of (by rw[q,Zg (Ze hT hls)];exact hT)) ?_ ?_
 .rintro i x ys σ G hi hxi hys ⟨v0,rfl,rfl,rfl⟩;let(z,ez,rfl,):=nX hxi;have o9:TT.take (i+1)=TT.take i++[z]:=by rw[a8b,ez];rfl
  refine(439,7,439,7,113,?_,);by_cases c:z%sh=b%sh
  .refine aO (by simp[c]) (_,8,dh.of hbig hi hys Za (_,8,?_,rq,),);rw[o9,Zz,ahF c,aP2];rfl
  .refine aQ (by simp[c]) (k7.of hi hys (_,8,?_,8,));rw[o9,Zz,aah c]
 subst e1;rintro ys σ G _ ⟨v0,rfl,rfl,rfl⟩;rw[ano,aXW];refine gN ?_;try dsimp only
 have q:=k _ (Zb hls (.lst ((Zi sh (b%sh) TT).map V.int)));have hT2:=Zb hls (.lst ((Zi sh (b%sh) TT).map V.int)) _ _ hT;have els:upd H ls (.lst ((Zi sh (b%sh) TT).map V.int)) ls=!(.lst ((Zi sh (b%sh) TT).map V.int)):=Za;generalize upd H ls (.lst ((Zi sh (b%sh) TT).map V.int))=G1 at *;have M4:b∈Zi sh (b%sh) TT↔b∈TT:=(λm=>(af.mp m).1,λm=>af.mpr (m,8,),);refine(121,lt,_,8,.inl (ah.of hT2),8,vB _,_,8,?_,);rw[yJ];unfold bO at q;by_cases c:b∈TT
 .rw [ahF (.inl (M4.mpr c))]at q;exact aO (anN c) (aO 8 (_,8,q,))
 .refine aQ (alG c) (_,8,ls,_,8,.inl (ah.of els),433,?_,);rw[ano];refine ZJ (λc2=>?_) (λc2=>?_)
  .rw [ahF (.inr c2)]at q;exact(_,8,q,)
  .rw [aah (λz=>z.elim (λz=>c (M4.mp z)) c2)]at q;rcases hy with rfl|⟨g,rfl⟩
   .exact (121,aQ 8 q,)
   .refine (121,aO 8 (121,ls,_,8,.inl (ah.of els),8,vB _,?_,),);show Q (V.bl (yj (.int g) ((Zi sh (b%sh) TT).map V.int))) G1;rw[yJ];exact q
noncomputable def b7(y:V)(z:Int)(x:Int):Bool:=((not (decide (V.int x=y)))) && (not (decide (V.int x=V.int z)))
theorem Qc{pl z:Int}{ms:List Int}{y:V}(c:bO pl ms z y=true):y=au (vO y):=by
 unfold bO at c;split at c
 .rw [adw c];rfl
 .cases y <;> first|rfl|(exact absurd c aJD)
theorem XY{sh pl z:Int}{y:V}{S:List Int×Nat}{T:List Int}(nd:S.1.Nodup)(Jc:T.Nodup)(h:∀x,x∈T↔x∈S.1)(c:bO pl (Zi sh (z%sh) S.1) z y=true) :
  ∃S',fB sh pl z y S=!S'/\S'.1.Nodup/\(T.filter (b7 y z)++[z]).Nodup/\(∀x,x∈T.filter (b7 y z)++[z]↔x∈S'.1)/\S'.2=S.2+(if z∈T then 0 else 1):=by
 have kp:∀x,b7 y z x=true↔V.int x≠y/\x≠z:=λx=>by
  unfold b7;simp
 have nT:(T.filter (b7 y z)++[z]).Nodup:=by
  rw[aK3];exact(Jc.sublist aOg,5,λx hx w hw e=>((kp x).mp (aCR.mp hx).2).2 (e.trans (aOT.mp hw)),)
 have mT:∀x,x∈T.filter (b7 y z)++[z]↔(x∈T/\V.int x≠y/\x≠z)\/x=z:=λx=>by
  rw[aNA,mem_filter,kp,ax0]
 unfold fB;rw[ahF c];by_cases hz:z∈S.1
 .rw [ahF hz];have ey:y=.aE:=by
   unfold bO at c;rw[ahF (.inl (af.mpr (hz,8,)))]at c;exact adw c
  refine(S,8,nd,nT,λx=>?_,by rw[ahF ((h z).mpr hz)];rfl,);rw[mT,h x,ey];constructor
  .rintro (⟨h1,_⟩|rfl)
   .exact h1
   .exact hz
  .intro h1;by_cases e:x=z
   .exact .inr e
   .exact .inl (h1,5,e,)
 .rw [aah hz];have ey:=Qc c;refine(_,8,?_,nT,λx=>?_,by rw[aah (λw=>hz ((h z).mp w))],)
  .rw [aK3];exact(nd.sublist aN,5,λx hx w hw e=>hz (by rw[aOT.mp hw]at e;rw[<-e];exact aN.subset hx),)
  .rw [mT,aNA,ax0,EJ nd,h x];constructor
   .rintro (⟨h1,h2,_⟩|rfl)
    .exact .inl (h1,λg eg e=>h2 (by rw[ey,eg,e];rfl),)
    .exact .inr 8
   .rintro (⟨h1,h2⟩|rfl)
    .refine .inl (h1,λe=>?_,λe=>hz (e ▸h1),);rw[ey]at e;cases q:vO y with
     |none=>rw[q]at e;cases e
     |some g=>rw[q]at e;exact h2 g q (by cases e;rfl)
    .exact .inr 8
inductive sP(K:W.Frag)(vs:List V)(H:Hp)(Q:VK)(E:XK):Prop
 |mk (sh pl:Int) (a:Addr) (x:V) (row:List Int) (oo:Option (List V)):vs=[.int sh,.int pl,.ref a,x]->ah K H a (row.map V.int)->nD H x oo->1<=sh->row.length<=400->(∀H',ak H H'->Q (au (jw sh pl row oo)) H')->sP K vs H Q E
example:(oO xS BR):=by
 let(sh,pl,a,x,row,oo,rfl,hS,hO,hs0,hl,k,):=h;refine(_,(Zf (aF (PW.pt (pw_or (ny (ZW (Zl uL 8 T.qK uK (pc (pv 3) (pc (uP (v:=.ty "list") 8 T.vQ Ar 8) Zc))))) (rW (Zq gE (Zl (Zn (K:=K) 8) 8 T.dw arj (pc (pv 3) Zc)) (Zl (Zn (K:=K) 8) 8 T.dw arj (pc (pv 2) Zc)) (Zu _))))) (Zj (Zr pB)) Zw)
   (Zf (Ez (i:=4) (j:=05) 8 nd 8 8 9 8 8 (pc (Zv Zc) (pc Zh Zc)) 8)
   (Zf (nZ aDP 8 (GL 8 T.AK (pc (pv 2) (pc (pv 3) Zc))) (ZR (K:=K) (n:=2) 8 8 (Zs (bu 06 nd) (Zs (bu 07 nd) ZQ))) (Zf (aF (ny (ZW (Zm BR hr.m 8 (pc (pv 0) (pc (pv 1) (pc (pv 4) (pc (pv 06) (pc (pv 07) Zc)))))))) (Zj (Zr pB)) Zw)
   (Zf (aY 05 nd (aa ZB (pv 05) (ZO ET 8 T.vd yI (pc (qo (Bw (K:=K) 8) (pv 06) (pv 4) 8) Zc))))
   (Zj (aY 4 nd (aa ZT (ER (Zx (bQ:=(Zp gh)) (oN:=rF) (N:=["_law_one","_law_gone","_law_board"]) (own:=1) (js:=[07,06]) 6 8 8) 8 (ZF (K:=K) 8 (pv 4)) (λ_ _ _ _ _ _=>(bu 0 (show List.Nodup (["_law_one","_law_gone","_law_board"]:List Str) by decide +kernel))) (λ_ _ _ _ _ _=>(PW.pt (vv (Zq gE (pv 0) (pv 1) (Zu _)) (vD (Zq gE (pv 0) (pv 2) (Zu _)))))) (λ_ _ _ _ _ _=>(pv 0))) (Zv (pc (pv 06) Zc))))))))
   (Zj (Zr (pv 05)))))),?_,)
 cases oo with
 |none=>
  have q:=k H (ak.refl _);rcases hO with rfl|⟨s,rfl⟩|⟨t,xs,rfl,h⟩
  .exact (263,9,_,8,aO 9 (aO 8 q),)
  .exact (263,9,_,8,aO 9 (aO 8 q),)
  .exact (181,oj h,9,_,8,aO 9 (aO 8 q),)
 |some os=>
 let((lo,rfl,hO,),zW,hkd,):=hO;have k:∀H',ak H H'->Q (au (dD sh pl row os)) H':=k;refine(181,om hO,9,_,8,aQ 9 (_,8,lo,_,8,.inl (ah.of hO),_,8,a,_,8,.inl hS,113,?_,),);rw[ano];by_cases dU:os.length=row.length
 case neg=>
  refine aO (by simp;lia) ?_;have q:=k H (ak.refl _);unfold dD at q;rw[aah dU]at q;exact q
 refine aQ (by simp[dU]) ?_;refine((sL 0),λl0 oX=>(109,?_,),);try dsimp only
 have s0:=Zb oX (.lst []);have e0:upd H l0 (.lst []) l0=!(.lst []):=Za;generalize upd H l0 (.lst [])=G0 at *;refine(121,a,lo,8,(_,s0.seq hS,),(_,ah.of (s0 _ _ hO),),Ll (K:=K) (a:=a) (b:=lo) (xs:=row.map V.int) (ys:=os) (λi σ G=>∃(v6 v7:Option V)(S:List Int×Nat)(lt:Addr)(TT:List Int),σ=[!(.int sh),!(.int pl),!(.ref a),!(.ref lo),!(.ref lt),!(.int S.2),v6,v7]/\cJ sh pl row os i=!S/\S.1.Nodup/\TT.Nodup/\(∀x,x∈TT↔x∈S.1)/\G lt=!(.lst (TT.map V.int))/\TT.length<=i/\ak H G)
  (by rw[ano,dU]) (none,none,([],0),l0,[],8,8,bd8,bd8,λ_=>Iff.rfl,e0,bbI _,s0,) (λi σ G _ w9=>by let(_,_,_,_,_,_,_,_,_,_,_,_,q,):=w9;exact(q.seq hS,ah.of (q _ _ hO),)) ?_ ?_,)
 .clear s0 e0;rintro i x y t σ G hx hy ⟨v6,v7,S,lt,TT,rfl,hR,nS,nT,hm,elt,JW,s1⟩ ht;let(z,hz,rfl,):=nX hx;have Jv:=hkd y (aE5 hy);have hi:i<row.length:=(aFR.mp hz).1;have eg:row.getD i 0=z:=by rw[aGH,hz];rfl
  have eo:os.getD i .aE=y:=by rw[aGH,hy];rfl
  have r1:cJ sh pl row os (i+1)=fB sh pl z y S:=by
   show(cJ sh pl row os i).bind _=_;rw[hR,eg,eo];rfl
  have ec:bO pl (Zi sh (z%sh) TT) z y=bO pl (Zi sh (z%sh) S.1) z y:=by
   have mm:∀x,x∈Zi sh (z%sh) TT↔x∈Zi sh (z%sh) S.1:=λx=>by rw[af,af,hm x]
   exact YO mm (EV (nT.sublist aOg) (nS.sublist aOg) mm)
  refine(t,_,8,bS.of Za,503,?_,);have w:=Zb ht (.tup [.int z,y]);have s2:=s1.trans w;have elt:=w _ _ elt;generalize upd G t (.tup [.int z,y])=G1 at *;clear s1 w ht;refine(1465,sh,pl,lt,z,y,TT,8,elt,7,hs0,Jv.same s2,λG2 s3=>(_,8,?_,),);rw[ec];have s2:=s2.trans s3;have elt:=s3 _ _ elt;by_cases c:bO pl (Zi sh (z%sh) S.1) z y=true
  case neg=>
   refine aO (by simpa using c) ?_;have q:=k G2 s2;have e:dD sh pl row os=none:=by
    unfold dD;rw[ahF dU];have r2:cJ sh pl row os (i+1)=none:=by rw[r1];unfold fB;rw[aah c]
    have:=LF r2 (row.length-(i+1));rw[show i+1+(row.length-(i+1))=row.length by lia]at this;rw[this];rfl
   rw[e]at q;exact q
  refine aQ (by simpa using c) ?_;let(S',o1,o2,o3,o4,o5,):=XY nS nT hm c;have ey:=Qc c;refine(185,lt,_,8,.inl (ah.of elt),8,vB _,.inr (183,gN ?_,),);rw[yJ];try dsimp only
  have hbig:(TT.map V.int).length<=sizeLine:=aWE (Zk (by rw[ano];lia));refine(_,8,lt,8,(_,ah.of elt,),λlc nU=>?_,);refine ZA (K:=K) (a:=lt) (xs:=TT.map V.int) (l:=lc) (λj ys σ G=>∃v0:Option V,σ=[v0,!y,!(.int z)]/\ys=((TT.take j).filter (b7 y z)).map V.int/\G=upd G2 lc (.lst ys)) (none,115,) (λi ys σ G _ w9=>by let(_,_,_,q,):=w9;exact ah.of (by rw[q,Zg (Ze elt nU)];exact elt)) ?_ ?_
  .rintro j x ys σ G hj dS hys ⟨v0,rfl,rfl,rfl⟩;let(x0,ex,rfl,):=nX dS;have o9:TT.take (j+1)=TT.take j++[x0]:=by rw[a8b,ex];rfl
   have sc:vL (V.int x0) y=true:=by rw[ey];cases vO y <;> rfl
   have e1:b7 y z x0=(((not (decide (V.int x0=y)))) && (not (decide (V.int x0=V.int z)))):=8;refine(121,sc,_,8,?_,);cases c1:((not (decide (V.int x0=y)))) with
   |false=>
    rw[c1]at e1;refine aQ 8 (aQ 8 (k7.of hj hys (_,8,?_,8,)));rw[o9,baC,a6U,aah (by rw[e1,aNq];exact aJD)];simp
   |true=>
    rw[c1,aKX]at e1;refine aO 8 (273,?_,);cases c2:((not (decide (V.int x0=V.int z)))) with
    |false=>
     rw[c2]at e1;refine aQ 8 (k7.of hj hys (_,8,?_,8,));rw[o9,baC,a6U,aah (by rw[e1];decide)];simp
    |true=>
     rw[c2]at e1;refine aO 8 (_,8,dh.of hbig hj hys Za (_,8,?_,rq,),);rw[o9,baC,a6U,ahF e1,aP2];rfl
  rintro ys σ G _ ⟨v0,rfl,rfl,rfl⟩;rw[ano,aXW];have sc:=Zb nU (.lst ((TT.filter (b7 y z)).map V.int));have wG:upd G2 lc (.lst ((TT.filter (b7 y z)).map V.int)) lc=!(.lst ((TT.filter (b7 y z)).map V.int)):=Za;generalize upd G2 lc (.lst ((TT.filter (b7 y z)).map V.int))=G3 at *;refine(_,8,(sL 1),λl1 hl1=>(lc,l1,119,Zb hl1 _ _ _ wG,Za,?_,λl2 hl2=>gN ?_,),)
  .have:=ayM (b7 y z) TT;exact aWE (Zk (by rw[ano];show _+1<=1000;lia))
  .have e5:(V.int ((S.2:Int)+(if(if true=true then (not (decide (z∈TT))) else decide (z∈TT))=true then 1 else 0)))=V.int (S'.2:Int):=by
    rw[o5];by_cases q:z∈TT <;> simp[q]
   refine(!(.int z),!y,S',l2,TT.filter (b7 y z)++[z],?_,by rw[r1];exact o1,o2,o3,o4,by rw[Za,aP2];rfl,?_,(s2.trans sc).trans ((Zb hl1 _).trans (Zb hl2 _)),)
   .rw [<-e5];rfl
   .rw [a96];have:=ayM (b7 y z) TT;show _+1<=_;lia
 .rintro σ G3 ⟨v6,v7,S,lt,TT,rfl,hR,nS,nT,hm,elt,JW,s3⟩;rw[ano]at hR;have q:=k G3 s3;unfold dD at q;rw[ahF dU,hR]at q;exact(_,8,q,)
noncomputable def mR(b:Int):Nat->List Int->Int
 |_,[]=>1000000
 |p,x ::xs=>if x=b then(p:Int) else mR b (p+1) xs
noncomputable def bG(row:List Int)(p:Nat)(b:Int):Int:=mR b (p+1) (row.drop (p+1))
theorem LD{row:List Int}{b:Int}{p:Nat}{x:Int}(h:row[p]?=!x):mR b p (row.drop p)=if x=b then(p:Int) else mR b (p+1) (row.drop (p+1)):=by
 let(hp,rfl,):=aFR.mp h;rw[aBj hp];rfl
theorem XX{row:List Int}{b:Int}{p:Nat}(h:row.length<=p):mR b p (row.drop p)=1000000:=by
 rw[List.drop_eq_nil_of_le h];rfl
noncomputable def Aj(sh b:Int)(there:List Int):List Int:=there.filter λo=>decide (V.int (o%sh)=V.int (b%sh))
noncomputable def dW(row:List Int)(p:Nat)(some:List Int):Nat:=argBest (λi j=>HT.lexLt ((some.map λo=>[bG row p o,o]).getD j []) ((some.map λo=>[bG row p o,o]).getD i [])) (some.length-1)
noncomputable def bC(sh pl:Int)(row:List Int)(p:Nat)(b:Int)(there:List Int):Option Int:=
 if b∉there/\pl<=((Aj sh b there).length:Int) then(Aj sh b there)[dW row p (Aj sh b there)]? else none
noncomputable def d9(b:Int)(there:List Int):List Int:=if b∈there then there else there++[b]
noncomputable def aU(sh pl:Int)(row:List Int):Nat->List Int×List (Option Int)
 |0=>([],[])
 |i+1=>(d9 (row.getD i 0) (ay (aU sh pl row i).1 (bC sh pl row i (row.getD i 0) (aU sh pl row i).1)),(aU sh pl row i).2++[bC sh pl row i (row.getD i 0) (aU sh pl row i).1])
noncomputable def bU(sh pl:Int)(row:List Int):List (Option Int):=(aU sh pl row row.length).2
theorem XW(there:List Int)(g:Option Int):(ay there g).length<=there.length:=by
 cases g with
 |none=>exact bbI _
 |some g=>exact aIG
theorem We(b:Int)(there:List Int):(d9 b there).length<=there.length+1:=by
 unfold d9;split
 .lia
 .simp
theorem Le(sh pl:Int)(row:List Int)(i:Nat):(aU sh pl row i).1.length<=i/\(aU sh pl row i).2.length=i:=by
 induction i with
 |zero=>exact(bbI _,8,)
 |succ i ih=>
  refine(?_,?_,)
  .have h1:=We (row.getD i 0) (ay (aU sh pl row i).1 (bC sh pl row i (row.getD i 0) (aU sh pl row i).1));have h2:=XW (aU sh pl row i).1 (bC sh pl row i (row.getD i 0) (aU sh pl row i).1);show(d9 _ _).length<=_;lia
  .show ((aU sh pl row i).2++_).length=_;rw[a96,ih.2];rfl
inductive sM(K:W.Frag)(vs:List V)(H:Hp)(Q:VK)(E:XK):Prop
 |mk (sh pl:Int) (a:Addr) (row:List Int):vs=[.int sh,.int pl,.ref a]->ah K H a (row.map V.int)->1<=sh->sh<=64->1<=pl->pl<=16->row.length<=400->rX 9999 row->(∀(l:Addr)(H':Hp),H l=none->ak H H'->H' l=!(.lst ((bU sh pl row).map au))->Q (.ref l) H')->sM K vs H Q E
noncomputable def jr(d b:Int):Nat->List Int->Int
 |_,[]=>d
 |p,x ::xs=>if x=b then(p:Int) else jr d b (p+1) xs
theorem YC{d b:Int}{row:List Int}{p:Nat}{x:Int}(h:row[p]?=!x):jr d b p (row.drop p)=if x=b then(p:Int) else jr d b (p+1) (row.drop (p+1)):=by
 let(hp,rfl,):=aFR.mp h;rw[aBj hp];rfl
noncomputable def iu(row:List Int)(p:Nat)(b:Int):Int:=jr row.length b p (row.drop p)
theorem Hs{row:List Int}{p:Nat}{b:Int}(h:row.length<=p):iu row p b=row.length:=by
 unfold iu;rw[List.drop_eq_nil_of_le h];rfl
theorem HD{row:List Int}{p:Nat}{b x:Int}(h:row[p]?=!x):iu row p b=if x=b then(p:Int) else iu row (p+1) b:=YC h
noncomputable def Zy(row:List Int):List Int:=(List.range row.length).map λi=>iu row (i+1) (row.getD i 0)
noncomputable def wL(row:List Int)(j:Nat):List Int:=(List.range j).map λk=>iu row (row.length-k) (row.getD (row.length-1-k) 0)
theorem YN(row:List Int):(wL row row.length).reverse=Zy row:=by
 unfold wL Zy;apply aVo;intro i;by_cases h:i<row.length
 .rw [List.getElem?_reverse (by simpa using h)];simp only[ano,ax4,aGb];rw[apf 7,apf h];show some (iu row (row.length-(row.length-1-i)) (row.getD (row.length-1-(row.length-1-i)) 0))=!(iu row (i+1) (row.getD i 0));rw[show row.length-(row.length-1-i)=i+1 by lia,show row.length-1-(row.length-1-i)=i by lia]
 .rw [aH9 (by simpa using h),aH9 (by simpa using h)]
theorem Hy(row:List Int):(Zy row).length=row.length:=by unfold Zy;simp
theorem YB{row:List Int}{i:Nat}{y:Int}(h:(Zy row)[i]?=!y):y=iu row (i+1) (row.getD i 0):=by
 have hi:i<row.length:=by rw[<-Hy row];exact(aFR.mp h).1
 unfold Zy at h;rw[aGb,apf hi]at h;exact(aFB h).symm
theorem ZeQ(row:List Int)(j:Nat):wL row (j+1)=wL row j++[iu row (row.length-j) (row.getD (row.length-1-j) 0)]:=by
 unfold wL;rw[aIe,aP2];rfl
inductive pP(K:W.Frag)(vs:List V)(H:Hp)(Q:VK)(E:XK):Prop
 |mk (a:Addr) (row:List Int):vs=[.ref a]->ah K H a (row.map V.int)->row.length<=400->(∀(l:Addr)(H':Hp),H l=none->ak H H'->H' l=!(.lst ((Zy row).map V.int))->Q (.ref l) H')->pP K vs H Q E
example:(iO tL):=by
 let(a,row,rfl,hS,hl,k,):=h;refine(_,(Zf (aY 1 nd (Zv Zc))
   (Zf (aY 2 nd HK)
   (Zf (nZ aDP 8 (Qt 8 T.nR (pc (aa lJ (Zl (Zn (K:=K) 8) 8 T.dw arj (pc (pv 0) Zc)) Zh) (pc (bN nv Zh) (pc (bN nv Zh) Zc)))) (bu 3 nd) (Zf (aY 4 nd (av (Zo (K:=K) 8) (pv 0) (pv 3) (λ_ _=>8)))
   (Zf (ZC (lI (K:=K) 8 (bK aTF aMf aUV ZD (pv 1) (pc (Xz hu (pv 2) (pv 4) (Zl (Zn (K:=K) 8) 8 T.dw arj (pc (pv 0) Zc)) (8,8,8,8,)) Zc))))
   (Zj (Lm hu (pv 2) (pv 4) (pv 3) 8)))))
   (Zj (Zr (Hw (K:=K) 8 (pv 1) ZI ZI (ZE (bN nv Zh)))))))),?_,)
 have len:(row.map V.int).length=row.length:=ano ..;refine((sL 0),λlt hlt=>λld qW=>?_,);have s0:=(Zb hlt (.lst [])).trans (Zb qW (.dK []));have JS:H ld=none:=(Zb hlt (.lst [])).free qW;have IV:lt≠ld:=Ze (Za (H:=H) (a:=lt) (o:=.lst [])) qW;refine(_,8,a,_,8,.inl (s0.seq hS),2573,(7,7,7,7,),Qo (hi:=((row.map V.int).length:Int)-1) (n:=(((row.map V.int).length:Int)-1 - -1).toNat) (λj σ G=>∃(v3 v4:Option V)(kvs:List (Key×V)),σ=[!(.ref a),!(.ref lt),!(.ref ld),v3,v4]/\G lt=!(.lst ((wL row j).map V.int))/\G ld=!(.dK kvs)/\kvs.length<=j/\(∀b,(aW kvs (Sum.inl b:Key)).getD (.int row.length)=.int (iu row (row.length-j) b))/\ak H G)
  (none,none,[],8,by rw[Zg IV];exact Za,Za,bbI _,λb=>by rw[Hs 7];rfl,s0,) ?_ ?_,)
 .rintro j σ G hj ⟨v3,v4,kvs,rfl,h1,h2,hk,hv,s1⟩;have hjn:j<row.length:=7
  have hlt':row.length-1-j<row.length:=7
  have hget:row[row.length-1-j]?=!row[row.length-1-j]:=aMp hlt';have hat:cV (row.map V.int) (((row.map V.int).length:Int)-1-(j:Int))=!(.int row[row.length-1-j]):=by
   have q:cV (row.map V.int) ((row.length-1-j:Nat):Int)=!(.int row[row.length-1-j]):=ZY (by rw[aGb,hget];rfl);rw[show((row.length-1-j:Nat):Int)=((row.map V.int).length:Int)-1-(j:Int) by lia]at q;exact q
  have eg:row.getD (row.length-1-j) 0=row[row.length-1-j]:=by rw[aGH,hget];rfl
  have ea:=ZeQ row j;rw[eg]at ea;generalize row[row.length-1-j]=z at *;refine(121,a,135,s1.seq hS,hat,?_,);refine(_,8,.inl (8,_,ah.of h1,),_,8,ld,8,.inl (_,.inl h2,),121,a,_,8,.inl (s1.seq hS),_,fm.k (k:=Sum.inl z) h2,lt,119,h1,Zk (by rw[ano];unfold wL;simp;lia),?_,);rw[len,hv z];have h2':upd G lt (.lst ((wL row j).map V.int++[.int (iu row (row.length-j) z)])) ld=!(.dK kvs):=by rw[Zg (aUP IV)];exact h2
  refine(185,ld,_,8,k6.k (k:=Sum.inl z) h2' (Zk 7),(117,?_,Za,?_,λb=>?_,?_,),)
  .rw [Zg IV,Za,ea,aP2];rfl
  .exact bbd (As ..) 7
  .rw [HL,show row.length-(j+1)=row.length-1-j by lia,HD hget];by_cases e:z=b
   .subst e;rw[ahF 8,ahF 8];show V.int _=V.int _;congr 1
    lia
   .rw [aah (λq=>e (aPp q).symm),aah e,hv b,show row.length-1-j+1=row.length-j by lia]
  .intro e o y;rw[Zg (Ze y JS),Zg (Ze y hlt)];exact s1 _ _ y
 .rintro σ G ⟨v3,v4,kvs,rfl,h1,h2,hk,hv,s1⟩;rw[show(((row.map V.int).length:Int)-1 - -1).toNat=row.length by lia]at h1;refine(_,8,1,113,lt,_,8,ah.of h1,9,?_,λp hp=>?_,)
  .rw [yL,ahC,ano];unfold wL;simp;exact aWE (Zk 7)
  .rw [yL,<-List.map_reverse,YN];exact k p _ (s1.free hp) (s1.trans (Zb hp _)) Za
theorem LC(sh b:Int)(there:List Int):Aj sh b there=Zi sh (b%sh) there:=by
 unfold Aj Zi;refine List.filter_congr λo _=>?_;rw[aq6];exact(λe=>by injection e,λe=>by rw[e],)
theorem QI(sh s:Int)(there:List Int)(g:Option Int):Zi sh s (ay there g)=ay (Zi sh s there) g:=by
 cases g with
 |none=>rfl
 |some g=>
  show(there.erase g).filter _=(there.filter _).erase g;rw[List.erase_filter]
theorem YA{l:List Int}{g:Option Int}(h:∀x,g=!x->x∉l):ay l g=l:=by
 cases g with
 |none=>rfl
 |some g=>exact aGN (h g 8)
theorem gu.same{H H':Hp}{ls:Addr}{aq:List Addr}{sh:Int}{there:List Int}(h:gu H ls aq sh there)(s:ak H H'):gu H' ls aq sh there:=
 (s _ _ h.top,h.len,h.nd,h.off,λi ad e=>s _ _ (h.at_ i ad e),)
theorem gu.free{H:Hp}{ls:Addr}{aq:List Addr}{sh:Int}{there:List Int}(h:gu H ls aq sh there){p:Addr}(hp:H p=none):p≠ls/\p∉aq:=by
 refine(λe=>?_,λm=>?_,)
 .rw [e,h.top]at hp;cases hp
 .let(s,e,):=abE m;rw[h.at_ s p e]at hp;cases hp
theorem LV{f g:Nat->Nat->Bool}:∀k,(∀i j,i<=k->j<=k->f i j=g i j)->argBest f k=argBest g k/\argBest g k<=k
 |0,_=>(8,bbI _,)
 |k+1,h=>by
  let(e,l,):=LV k λi j hi hj=>h i j 7 7;unfold argBest;rw[e,h (k+1) (argBest g k) (bbI _) 7];refine(8,?_,);split <;> lia
theorem yb(d b:Int):∀(xs:List Int)(p:Nat),(mR b p xs=1000000/\jr d b p xs=d)\/(mR b p xs=jr d b p xs/\(p:Int)<=jr d b p xs/\jr d b p xs<p+xs.length)
 | [],p=>.inl (8,8,)
 |x ::xs,p=>by
  unfold mR jr;by_cases e:x=b
  .rw [ahF e,ahF e];refine .inr (8,7,?_,);rw[acz];lia
  .rw [aah e,aah e];rcases yb d b xs (p+1) with h|⟨h1,h2,h3⟩
   .exact .inl h
   .refine .inr (h1,7,?_,);rw[acz];lia
theorem Pc{row:List Int}{i:Nat}{o:Int}(hi:i<row.length):(bG row i o=1000000/\iu row (i+1) o=row.length)\/(bG row i o=iu row (i+1) o/\iu row (i+1) o<row.length):=by
 rcases yb row.length o (row.drop (i+1)) (i+1) with h|⟨h1,h2,h3⟩
 .exact .inl h
 .refine .inr (h1,?_,);rw[aPq]at h3;show jr _ _ _ _<_;lia
theorem Dp(a b c d:Int):HT.lexLt [a,b] [c,d]=if a=c then decide (b<d) else decide (a<c):=by
 rw[HT.aP,HT.aP];split
 .split
  .rename_i _ e;subst e;simp[HT.lexLt]
  .rfl
 .rfl
theorem XU{row bz:List Int}{i:Nat}(hi:i<row.length)(hl:row.length<=400)(hne:bz≠[]) :
  argBest (λa b=>HT.lexLt ((bz.map λo=>[iu row (i+1) o,o]).getD b []) ((bz.map λo=>[iu row (i+1) o,o]).getD a [])) (bz.length-1)=dW row i bz:=by
 have pos:0<bz.length:=auZ.mpr hne;refine(LV _ λa b ha hb=>?_).1;have la:a<bz.length:=7
 have lb:b<bz.length:=7
 simp only[aGH,aGb,aMp la,aMp lb,a10,Option.getD_some];rw[Dp,Dp];rcases Pc (row:=row) (i:=i) (o:=bz[a]) hi with⟨x1,x2⟩|⟨x1,x2⟩ <;> rcases Pc (row:=row) (i:=i) (o:=bz[b]) hi with⟨y1,y2⟩|⟨y1,y2⟩
 .rw [x1,x2,y1,y2];simp
 .rw [x1,x2,y1,aah 7,aah 7,aq6];lia
 .rw [x1,y2,y1,aah 7,aah 7,aq6];lia
 .rw [x1,y1]
theorem yp{t:TS}{D:Ends}{σ:St}{H:Hp}(h:∀D':Ends,(∀ σ G,D.nx σ G->D'.nx σ G)->t D' σ H):t D σ H:=h D λ_ _ x=>x
example:(mO xU lC xX tL):=by
 let(sh,pl,a,row,rfl,hS,hs0,hs1,hp0,hp1,hl,bd,k,):=h;refine(_,(Zf (EO 3 (Zx (bQ:=(Zp cZ)) (oN:=iY) (N:=["number"]) (own:=1) (js:=[]) 6 8 8) 8 nd 8 8 (ZX 8 T.nR (pc (pv 0) Zc)) (λ_ _ _ _ _ _=>(bu 0 (show List.Nodup (["number"]:List Str) by decide +kernel))) (λ_ _ _ _ _ _=>(Zv Zc)))
   (Zf (aY 4 nd HK)
   (Zf (aY 05 nd (Zv Zc))
   (Zf (nZ aDP 8 (GL 8 T.AK (pc (pv 2) (pc (Zm tL hr.m 8 (pc (pv 2) Zc)) Zc))) (ZR (K:=K) (n:=2) 8 8 (Zs (bu 06 nd) (Zs (bu 07 nd) ZQ))) (Zf (aY 08 nd (av (Zo (K:=K) 8) (pv 3) (Zm lC hr.m 8 (pc (pv 0) (pc (pv 06) Zc))) (λ_ _=>8)))
   (Zf (aY 09 nd pB)
   (Zf (aF (Zq (Bw (K:=K) 8) (pv 06) (pv 08) 8) (Zf (aF (Zq mJ (Zl (Zn (K:=K) 8) 8 T.dw arj (pc (pv 08) Zc)) (pv 1) (Zu _)) (Zj (uN (Zl (Yu 8 hu 8) 8 T.AL HM (pc (rA (Zx (bQ:=(Zp cZ)) (oN:=iY) (N:=["mate","again"]) (own:=1) (js:=[4]) 6 8 8) 8 (ZF (K:=K) 8 (pv 08)) (λ_ _ _ _ _ _=>(bu 0 (show List.Nodup (["mate","again"]:List Str) by decide +kernel))) (λ_ _ _ _ _ _=>(nY (pc (O8 hu (pv 1) (pv 0) (λ_ _=>8)) (pc (pv 0) Zc))))) Zc)) (ZR (K:=K) (n:=2) 8 8 (Zs (bu 10 nd) (Zs (bu 09 nd) ZQ))))) Zw)
   (Zj (ZC (Zm xX hr.m 8 (pc (pv 08) (pc (pv 06) (pc (pv 09) Zc))))))) Zw)
   (Zf (Lm hu (pv 4) (pv 06) (pv 07) 8)
   (Zj (ZC (lI (K:=K) 8 (bK aTF aMf aUV ZD (pv 05) (pc (pv 09) Zc))))))))))
   (Zj (Zr (pv 05))))))),?_,)
 refine(_,8,sh,8,7,7,λls hls=>?_,);refine BA (lo:=0) (n:=sh.toNat) (l:=ls) (λj ys σ G=>∃(v0:Option V)(aq:List Addr),σ=[v0]/\ys=aq.map V.ref/\aq.length=j/\aq.Nodup/\ls∉aq/\G ls=!(.lst ys)/\(∀ad∈aq,H ad=none/\G ad=!(.lst []))/\ak H G)
  (none,[],115,bd8,5,Za,5,Zb hls _,) ?_ ?_
 .rintro j ys σ G hj hy ⟨v0,aq,rfl,rfl,hlen,hnd,hoff,g1,g2,s1⟩;refine((sL 0),λp hp=>?_,);have np:ls≠p:=Ze g1 hp;have Di:p∉aq:=λm=>by rw[(g2 p m).2]at hp;cases hp
  refine dh.of (bbd (7:sh.toNat<=64) 9) hj hy (by rw[Zg np];exact g1) (_,aq++[p],8,by rw[aP2];rfl,by rw[a96,hlen];rfl,uO hnd Di,?_,Za,λad m=>?_,?_,)
  .intro m;rcases a6S.mp m with m|m
   .exact hoff m
   .exact np (by simpa using m)
  .rcases a6S.mp m with m|m
   .rw [Zg (λz:ad=ls=>hoff (z ▸m)),Zg (λz:ad=p=>Di (z ▸m))];exact g2 ad m
   .have e:ad=p:=by simpa using m
    subst e;rw[Zg (aUP np)];exact(s1.free hp,Za,)
  .intro e o y;rw[Zg (Ze y hls),Zg (Ze (s1 _ _ y) hp)];exact s1 _ _ y
 rintro ys σ G hy ⟨v0,aq,rfl,rfl,hlen,hnd,hoff,g1,g2,s1⟩;refine gN ?_;have S0:gu G ls aq sh []:=(g1,hlen,hnd,hoff,λi ad e=>(g2 ad (aE5 e)).2,);have fr:∀ad∈aq,H ad=none:=λad m=>(g2 ad m).1;clear g1 g2 hy;dsimp only;intro ld qW;refine((sL 0),λlo hlo=>?_,);let(Dj,AZ,):=S0.free qW;have S1:=S0.same (Zb qW (.dK []));let(Tg,MG,):=S1.free hlo;have S2:=S1.same (Zb hlo (.lst []));have IZ:lo≠ld:=λe=>by rw[e,Za]at hlo;cases hlo
 have s3:=s1.trans ((Zb qW (.dK [])).trans (Zb hlo (.lst [])));have e1:upd (upd G ld (.dK [])) lo (.lst []) ld=!(.dK []):=by rw[Zg (aUP IZ)];exact Za
 have e2:upd (upd G ld (.dK [])) lo (.lst []) lo=!(.lst []):=Za;have JS:H ld=none:=s1.free qW;have Nc:H lo=none:=(s1.trans (Zb qW (.dK []))).free hlo;generalize upd (upd G ld (.dK [])) lo (.lst [])=G2 at *;refine(121,a,row,8,s3.seq hS,hl,λla G3 hla s4 e3=>?_,);let(na1,Tw,):=S2.free hla;have Tt:la≠lo:=λe=>by rw[e,e2]at hla;cases hla
 have Tu:la≠ld:=λe=>by rw[e,e1]at hla;cases hla
 have s5:=s3.trans s4;refine(a,la,8,(_,s5.seq hS,),(_,ah.of e3,),Ll (K:=K) (a:=a) (b:=la) (xs:=row.map V.int) (ys:=(Zy row).map V.int) (λi σ G=>∃(v6 v7 v8 v9 v10:Option V)(kvs:List (Key×V)),σ=[!(.int sh),!(.int pl),!(.ref a),!(.ref ls),!(.ref ld),!(.ref lo),v6,v7,v8,v9,v10]/\gu G ls aq sh (aU sh pl row i).1/\G lo=!(.lst ((aU sh pl row i).2.map au))/\G ld=!(.dK kvs)/\kvs.length<=i/\(∀b∈(aU sh pl row i).1,aW kvs (Sum.inl b:Key)=!(.int (iu row i b)))/\G la=!(.lst ((Zy row).map V.int))/\ak H G)
  (by rw[ano,ano,Hy]) (none,none,none,none,none,[],8,S2.same s4,s4 _ _ e2,s4 _ _ e1,bbI _,λb m=>(nomatch m),e3,s5,) (λi σ G _ h=>by let(_,_,_,_,_,_,_,_,_,_,_,_,q1,q2,):=h;exact(q2.seq hS,ah.of q1,)) ?_ ?_,)
 .clear S0 S1 S2 e1 e2 s3 s4 s5 e3 qW hlo hla s1;rintro i x y t σ G hx hy ⟨v6,v7,v8,v9,v10,kvs,rfl,S,h1,h2,hk,hv,h3,s1⟩ ht;let(z,hz,rfl,):=nX hx;let(y,hy',rfl,):=nX hy;have ey:=YB hy';have hi:i<row.length:=(aFR.mp hz).1;have eg:row.getD i 0=z:=by rw[aGH,hz];rfl
  rw[eg]at ey;let(m7,zO,):=Le sh pl row i;have r1:(aU sh pl row (i+1)).1=d9 z (ay (aU sh pl row i).1 (bC sh pl row i z (aU sh pl row i).1)):=by rw[<-eg];rfl
  have r2:(aU sh pl row (i+1)).2=(aU sh pl row i).2++[bC sh pl row i z (aU sh pl row i).1]:=by rw[<-eg];rfl
  generalize(aU sh pl row i).1=there at *;generalize(aU sh pl row i).2=found at *;refine(t,_,8,bS.of Za,503,?_,);refine yp λDz JX=>?_;try dsimp only
  refine hide λu1 e1=>?_;have w:=Zb ht (.tup [.int z,.int y]);have S1:=S.same w;have g1:=w _ _ h1;have g2:=w _ _ h2;have g3:=w _ _ h3;have s2:=s1.trans w;generalize upd G t (.tup [.int z,.int y])=G1 at *;clear S h1 h2 h3 s1 w;let(s0,ad,D4,had,hat,hm,):=S1.get (k:=z%sh) (aFA _ 7) (azk _ 7);refine(185,sh,z,8,hs0,ls,135,ah.of S1.top,hat,?_,);have hg:bC sh pl row i z there=if z∉there/\pl<=((Zi sh (z%sh) there).length:Int) then(Zi sh (z%sh) there)[dW row i (Zi sh (z%sh) there)]? else none:=by unfold bC;rw[LC]
  have lm:(Zi sh (z%sh) there).length<=there.length:=ayM ..;have hin:∀b,b∈Zi sh (z%sh) there↔b∈there/\b%sh=z%sh:=λb=>af;have hsl:∀gone:Option Int,(∀g,gone=!g->g∈Zi sh (z%sh) there)->z∉there->gu (upd G1 ad (.lst ((ay (Zi sh (z%sh) there) gone++[z]).map V.int))) ls aq sh (d9 z (ay there gone)):=λgone UC hnz=>by
   have e:d9 z (ay there gone)=ay there gone++[z]:=by
    unfold d9;rw[aah];cases gone with
    |none=>exact hnz
    |some g=>exact λm=>hnz (baK m)
   refine S1.put had ?_ λs hs=>?_
   .rw [e,Zz,ahF D4.symm,QI,D4]
   .have ne:¬z%sh=(s:Int):=λq=>hs 7;rw[e,Zz,aah ne,QI];exact YA λx hx m=>ne (((hin x).mp (UC x hx)).2.symm.trans (af.mp m).2)
  have JO:∀o∈Zi sh (z%sh) there,z∉there->aW kvs (Sum.inl o:Key)=!(.int (iu row (i+1) o)):=λo mo hnz=>by
   have mt:=((hin o).mp mo).1;have ne:¬z=o:=λe=>hnz (e ▸mt);rw[hv o mt,HD hz,aah ne]
  generalize Zi sh (z%sh) there=bz at *;generalize hgo:bC sh pl row i z there=gone at *;have ur:∀g,gone=!g->g∈bz:=λg e=>by
   rw[hg]at e;split at e
   .exact aE5 e
   .cases e
  refine gN ?_;subst e1;dsimp only;refine yD (λv G'=>v=.aE/\G1=G') (λQ' k'=>k' _ _ (8,8,)) ?_;rintro _ _ ⟨rfl,rfl⟩;refine gN ?_;refine uD (λσ G'=>∃v10:Option V,σ=[!(.int sh),!(.int pl),!(.ref a),!(.ref ls),!(.ref ld),!(.ref lo),!(.int z),!(.int y),!(.ref ad),!(au gone),v10]/\gu G' ls aq sh (d9 z (ay there gone))/\G' lo=!(.lst (found.map au))/\G' ld=!(.dK kvs)/\G' la=!(.lst ((Zy row).map V.int))/\ak H G') (λD' _ k'=>?_) ?_
  .refine (121,ad,_,8,.inl (ah.of hm),8,vB _,_,8,?_,);rw[yJ,ahF 8];refine Ln (λc=>?_) (λc=>?_)
   .have c':z∉bz:=by simpa using c
    have hnz:z∉there:=λm=>c' ((hin z).mpr (m,8,));refine uD (λσ G'=>∃v10:Option V,σ=[!(.int sh),!(.int pl),!(.ref a),!(.ref ls),!(.ref ld),!(.ref lo),!(.int z),!(.int y),!(.ref ad),!(au gone),v10]/\ak G1 G') (λD'' _ k''=>?_) ?_
    .refine (_,8,ad,_,8,.inl (ah.of hm),433,?_,);rw[ano];refine ZJ (λc2=>?_) (λc2=>?_)
     .rw [ahF (hnz,c2,)]at hg;have pos:0<bz.length:=7
      refine(_,8,ad,8,(_,ah.of hm,),λl2 hl2=>?_,);refine ZA (K:=K) (a:=ad) (xs:=bz.map V.int) (l:=l2) (λj ys σ' G'=>∃(v0:Option V)(as:List Addr),σ'=[v0,!(.ref ld)]/\ys=as.map V.ref/\as.length=j/\G' l2=!(.lst ys)/\(∀(m:Nat)(ad:Addr)(o:Int),as[m]?=!ad->bz[m]?=!o->G' ad=!(.tup [.int (iu row (i+1) o),.int o]))/\ak G1 G')
       (none,[],115,Za,λm ad o h=>(by simp at h),Zb hl2 _,) (λj ys σ' G' _ h=>by let(_,_,_,_,_,_,_,q,):=h;exact ah.of (q _ _ hm)) ?_ ?_
      .rintro j x ys σ' G' hj dS hys ⟨v0,as,rfl,rfl,hj',q1,q2,q3⟩;let(o,ho,rfl,):=nX dS;have ev:=JO o (aE5 ho) hnz;refine(121,ld,_,8,(by have q:=fm.k (k:=Sum.inl o) (q3 _ _ g2);rw[ev]at q;exact q),_,8,(sL 2),λp hp=>?_,);have np:l2≠p:=Ze q1 hp;refine dh.of (aWE (Zk (by rw[ano];lia))) hj hys (by rw[Zg np];exact q1) (_,as++[p],8,by rw[aP2];rfl,by rw[a96,hj'];rfl,Za,λm ad o' hm ho'=>?_,?_,)
       .by_cases DJ:m<as.length
        .rw [ah8 DJ]at hm;have q:=q2 m ad o' hm ho';have na:ad≠l2:=λe=>by rw[e,q1]at q;cases q
         rw[Zg na,Zg (Ze q hp)];exact q
        .rw [a9d 7]at hm;have em:m=as.length:=by
          have:=(aFR.mp hm).1;simp at this;lia
         subst em;rw[aNJ]at hm;cases hm;rw[hj',ho]at ho';cases ho';rw[Zg (aUP np)];exact Za
       .intro e o' y;rw[Zg (Ze y hl2)];exact Zb hp _ _ _ (q3 _ _ y)
      .rintro ys σ' G' hys ⟨v0,as,rfl,rfl,hj',q1,q2,q3⟩;rw[ano]at hj';refine(l2,as,bz.map (λo=>[iu row (i+1) o,o]),8,ah.of q1,λe=>?_,by rw[ano];exact hj',λm ad ns hm hns=>?_,λm NT hm2 DP=>?_,)
       .rw [e]at hj';simp at hj';lia
       .rw [aGb]at hns;cases ho:bz[m]? with
        |none=>rw[ho]at hns;cases hns
        |some o=>
         rw[ho]at hns;cases hns;exact bS.of (q2 m ad o hm ho)
       .have hm':m=dW row i bz:=by
         rw[hm2,hj'];exact XU hi hl (auZ.mp pos)
        rw[<-hm']at hg;have mlt:m<bz.length:=by rw[<-hj'];exact(aFR.mp DP).1
        rw[aMp mlt]at hg;have q4:=q2 m NT _ DP (aMp mlt);subst hg;exact(NT,_,8,bS.of q4,503,k'' _ _ (_,8,q3,),)
     .rw [aah (λq=>c2 q.2)]at hg;subst hg;exact k'' _ _ (_,8,ak.refl _,)
    .rintro _ G2 ⟨v10,rfl,t1⟩;have hm2:=t1 _ _ hm;have Jd:ad≠lo:=λe:ad=lo=>MG (e ▸aE5 had);have Je:ad≠ld:=λe:ad=ld=>AZ (e ▸aE5 had);have Tv:ad≠la:=λe:ad=la=>Tw (e ▸aE5 had);refine(185,ad,bz,z,gone,8,hm2,7,ur,k' _ _ (_,8,?_,?_,?_,?_,?_,),)
     .have S2:=hsl gone ur hnz;refine(?_,S2.len,S2.nd,S2.off,λs a e=>?_,)
      .rw [Zg (λz:ls=ad=>S1.off (z ▸aE5 had))];exact t1 _ _ S1.top
      .have q:=S2.at_ s a e;by_cases ea:a=ad
       .subst ea;rw[Za]at q ⊢;exact q
       .rw [Zg ea]at q ⊢;exact t1 _ _ q
     .rw [Zg (aUP Jd)];exact t1 _ _ g1
     .rw [Zg (aUP Je)];exact t1 _ _ g2
     .rw [Zg (aUP Tv)];exact t1 _ _ g3
     .intro e o q;rw[Zg (Ze q (fr ad (aE5 had)))];exact t1 _ _ (s2 _ _ q)
   .have c':z∈there:=((hin z).mp (by simpa using c)).1;rw[aah (λq=>q.1 c')]at hg;subst hg;refine k' _ _ (_,8,?_,g1,g2,g3,s2,);show gu G1 ls aq sh (d9 z there);rw[d9,ahF c'];exact S1
  rintro _ G3 ⟨v10,rfl,S3,m1,m2,m3,s4⟩;refine(185,ld,_,8,k6.k (k:=Sum.inl z) m2 (Zk 7),?_,);have MU:upd G3 ld (.dK (putK kvs (Sum.inl z) (.int y))) lo=!(.lst (found.map au)):=by rw[Zg IZ];exact m1
  refine(_,8,.inl (8,_,ah.of MU,),_,8,lo,119,MU,Zk (by rw[ano];lia),JX _ _ (132,putK kvs (Sum.inl z) (.int y),8,?_,?_,?_,?_,?_,?_,?_,),)
  .rw [r1];exact(S3.other _ Dj AZ).other _ Tg MG
  .rw [Za,r2,aP2];rfl
  .rw [Zg (aUP IZ)];exact Za
  .exact bbd (As ..) 7
  .intro b m;rw[r1]at m;rw[HL];by_cases e:b=z
   .subst e;rw[ahF 8,ey]
   .rw [aah (λq=>e (aPp q))];have mt:b∈there:=by
     have m':b∈ay there gone:=by
      unfold d9 at m;split at m
      .exact m
      .rcases a6S.mp m with m|m
       .exact m
       .exact absurd (by simpa using m) e
     cases gone with
     |none=>exact m'
     |some g=>exact baK m'
    rw[hv b mt,HD hz,aah (λq=>e q.symm)]
  .rw [Zg Tt,Zg Tu];exact m3
  .intro e o q;rw[Zg (Ze q Nc),Zg (Ze q JS)];exact s4 _ _ q
 .rintro σ G ⟨v6,v7,v8,v9,v10,kvs,rfl,S,h1,h2,hk,hv,h3,s1⟩;rw[ano]at h1;exact(_,8,k lo G Nc s1 h1,)
theorem Pb(f:Nat->Nat->Bool)(k:Nat):argBest f k<=k:=(LV (f:=f) (g:=f) k λ_ _ _ _=>8).2
theorem KQ{sh pl:Int}{row:List Int}:∀{n i:Nat},i<n->(aU sh pl row n).2[i]?=!(bC sh pl row i (row.getD i 0) (aU sh pl row i).1)
 |0,i,h=>absurd h (aRO _)
 |n+1,i,h=>by
  have len:=(Le sh pl row n).2;show((aU sh pl row n).2++[_])[i]?=_;by_cases c:i<n
  .rw [ah8 (by rw[len];exact c)];exact KQ c
  .have e:i=n:=7
   subst e;rw[a9d (by rw[len];exact bbI _),len,aNJ];rfl
theorem Hr(sh pl:Int)(row:List Int):(bU sh pl row).length=row.length:=(Le sh pl row row.length).2
theorem Wd{sh pl:Int}(hp:1<=pl)(row:List Int)(i:Nat)(b:Int)(there:List Int):bT pl (Zi sh (b%sh) there) b (bC sh pl row i b there)=true:=by
 have hin:b∈Zi sh (b%sh) there↔b∈there:=(λm=>(af.mp m).1,λm=>af.mpr (m,8,),);unfold bC bT;rw[LC];by_cases c:b∈there\/((Zi sh (b%sh) there).length:Int)<pl
 .rw [ahF (c.imp hin.mpr id),aah]
  .rfl
  .rintro ⟨q1,q2⟩;rcases c with c|c
   .exact q1 c
   .lia
 .have c1:b∉there:=λq=>c (.inl q);have c2:pl<=((Zi sh (b%sh) there).length:Int):=by
   have:¬((Zi sh (b%sh) there).length:Int)<pl:=λq=>c (.inr q);lia
  rw[aah (λq=>c (q.imp hin.mp id)),ahF (c1,c2,)];have lt:dW row i (Zi sh (b%sh) there)<(Zi sh (b%sh) there).length:=by
   have:=Pb (λi' j=>HT.lexLt (((Zi sh (b%sh) there).map λo=>[bG row i o,o]).getD j []) (((Zi sh (b%sh) there).map λo=>[bG row i o,o]).getD i' [])) ((Zi sh (b%sh) there).length-1);have e:dW row i (Zi sh (b%sh) there)<=(Zi sh (b%sh) there).length-1:=this;lia
  rw[aMp lt];exact anN (apl lt)
theorem Br{sh pl:Int}(hp:1<=pl)(row:List Int):∀i,i<=row.length->∃c,bE sh pl row (bU sh pl row) i=!((aU sh pl row i).1,c)
 |0,_=>(0,8,)
 |i+1,h=>by
  let(c,e,):=Br hp row i 7;have eo:(bU sh pl row).getD i none=bC sh pl row i (row.getD i 0) (aU sh pl row i).1:=by
   rw[aGH];unfold bU;rw[KQ (7:i<row.length)];rfl
  have hm:=Wd (sh:=sh) hp row i (row.getD i 0) (aU sh pl row i).1;have r1:(aU sh pl row (i+1)).1=d9 (row.getD i 0) (ay (aU sh pl row i).1 (bC sh pl row i (row.getD i 0) (aU sh pl row i).1)):=8;have r2:bE sh pl row (bU sh pl row) (i+1)=dz sh pl (row.getD i 0) (bC sh pl row i (row.getD i 0) (aU sh pl row i).1) ((aU sh pl row i).1,c):=by
   show(bE sh pl row (bU sh pl row) i).bind _=_;rw[e,eo];rfl
  rw[r1,r2];have hg:row.getD i 0∈(aU sh pl row i).1->bC sh pl row i (row.getD i 0) (aU sh pl row i).1=none:=λm=>by
   unfold bC;rw[aah (λq=>q.1 m)]
  generalize bC sh pl row i (row.getD i 0) (aU sh pl row i).1=o at *;generalize row.getD i 0=b at *;generalize(aU sh pl row i).1=there at *;unfold dz;rw[ahF hm];by_cases c2:b∈there
  .rw [ahF c2,hg c2];refine(c,?_,);show some (there,c)=!(d9 b there,c);unfold d9;rw[ahF c2]
  .rw [aah c2];refine(c+1,?_,);unfold d9;rw[aah];cases o with
   |none=>exact c2
   |some g=>exact λm=>c2 (baK m)
theorem LB{sh pl:Int}(hp:1<=pl)(row:List Int):∃c:Nat,gZ sh pl row (bU sh pl row)=!(c:Int)/\c<=row.length:=by
 let(c,e,):=Br hp row row.length (bbI _);refine(c,?_,(Qe e).2,);unfold gZ;rw[ahF (Hr sh pl row),e];rfl
noncomputable def Ep(sh pl:Int)(row:List Int):Int:=(gZ sh pl row (bU sh pl row)).getD 0
structure jO(sh pl:Int)(row:List Int)(O:Nat->List Int)(m:Nat->Nat):Prop where
 z:O 0=[]/\m 0=0
 nd:∀i,i<=row.length->(O i).Nodup
 sz:∀i,i<=row.length->∀s,((Zi sh s (O i)).length:Int)<=pl
 hit:∀i,i<row.length->row.getD i 0∈O i->(∀x∈O (i+1),x∈O i)/\m (i+1)=m i
 FY:∀i,i<row.length->row.getD i 0∉O i->(∀x∈O (i+1),x=row.getD i 0\/x∈O i)/\m (i+1)=m i+1
 now:∀i,i<row.length->row.getD i 0∈O (i+1)
section
variable{sh pl:Int}{row:List Int}{os:List (Option Int)}
noncomputable def oS(sh pl:Int)(row:List Int)(os:List (Option Int))(i:Nat):List Int×Nat:=(bE sh pl row os i).getD ([],0)
theorem N7{i:Nat}{S:List Int×Nat}(h:bE sh pl row os (i+1)=!S):bE sh pl row os i=!(oS sh pl row os i)/\dz sh pl (row.getD i 0) (os.getD i none) (oS sh pl row os i)=!S:=by
 have h':(bE sh pl row os i).bind (dz sh pl (row.getD i 0) (os.getD i none))=!S:=h;unfold oS;cases e:bE sh pl row os i with
 |none=>rw[e]at h';cases h'
 |some U=>rw[e]at h';exact(8,h',)
theorem Wc{n:Nat}{S:List Int×Nat}(h:bE sh pl row os n=!S):∀i,i<=n->bE sh pl row os i=!(oS sh pl row os i):=by
 induction n generalizing S with
 |zero=>
  intro i hi;have:i=0:=7
  subst this;rfl
 |succ n ih=>
  intro i hi;by_cases c:i=n+1
  .subst c;unfold oS;rw[h];rfl
  .exact ih (N7 h).1 i 7
theorem Bp{n i:Nat}{S:List Int×Nat}(h:bE sh pl row os n=!S)(hi:i<n):bT pl (Zi sh (row.getD i 0%sh) (oS sh pl row os i).1) (row.getD i 0) (os.getD i none)=true/\(row.getD i 0∈(oS sh pl row os i).1->oS sh pl row os (i+1)=oS sh pl row os i)/\(row.getD i 0∉(oS sh pl row os i).1->oS sh pl row os (i+1)=(ay (oS sh pl row os i).1 (os.getD i none)++[row.getD i 0],(oS sh pl row os i).2+1)):=by
 have q:=(N7 (Wc h (i+1) 7)).2;unfold dz at q;split at q
 case isFalse=>cases q
 case isTrue c=>
  refine(c,λhb=>?_,λhb=>?_,)
  .rw [ahF hb]at q;exact(aFB q).symm
  .rw [aah hb]at q;exact(aFB q).symm
theorem OQ{l:List Int}{o:Option Int}{x:Int}(h:x∈ay l o):x∈l:=by
 cases o with
 |none=>exact h
 |some g=>exact baK h
theorem OP(hp:1<=pl){S:List Int×Nat}(h:bE sh pl row os row.length=!S):jO sh pl row (λi=>(oS sh pl row os i).1) λi=>(oS sh pl row os i).2:=by
 have inv:∀i,i<=row.length->(oS sh pl row os i).1.Nodup/\∀s,((Zi sh s (oS sh pl row os i).1).length:Int)<=pl:=by
  intro i
  induction i with
  |zero=>exact λ_=>(bd8,λs=>by show((0:Nat):Int)<=pl;lia,)
  |succ i ih=>
   intro hi;let(n1,z1,):=ih 7;let(hm,hh,hn,):=Bp h (7:i<row.length);by_cases c:row.getD i 0∈(oS sh pl row os i).1
   .rw [hh c];exact(n1,z1,)
   .rw [hn c];have cb:row.getD i 0∉Zi sh (row.getD i 0%sh) (oS sh pl row os i).1:=λm=>c (af.mp m).1;refine(?_,λs=>?_,)
    .show (ay _ _++[_]).Nodup;rw[aK3];exact(n1.sublist aN,5,λx hx y hy e=>c (by rw[aOT.mp hy]at e;rw[<-e];exact OQ hx),)
    .show ((Zi sh s (ay _ _++[_])).length:Int)<=pl;rw[Zz];have zs:=z1 s;unfold bT at hm;cases eo:os.getD i none with
     |none=>
      rw[eo]at hm;show((if _ then Zi sh s (oS sh pl row os i).1++[_] else Zi sh s (oS sh pl row os i).1).length:Int)<=pl;split
      .rename_i e;rw[a96,adX];split at hm
       case isFalse=>cases hm
       case isTrue q=>
        rcases q with q|q
        .exact absurd q cb
        .rw [e]at q;lia
      .exact zs
     |some g=>
      rw[eo]at hm;show((if _ then Zi sh s ((oS sh pl row os i).1.erase g)++[_] else Zi sh s ((oS sh pl row os i).1.erase g)).length:Int)<=pl;rw[ZM];split at hm
      case isTrue=>cases hm
      case isFalse q=>
       have mg:=adw hm;split
       .rename_i e;rw[e]at mg;rw[a96,adX,aWr mg];have:=a2Y mg;lia
       .have:=aIG (a:=g) (l:=Zi sh s (oS sh pl row os i).1);lia
 refine((8,8,),λi hi=>(inv i hi).1,λi hi=>(inv i hi).2,λi hi hb=>?_,λi hi hb=>?_,λi hi=>?_,)
 .let(_,hh,_,):=Bp h hi;try dsimp only
  rw[hh hb];exact(λx hx=>hx,8,)
 .let(_,_,hn,):=Bp h hi;try dsimp only
  rw[hn hb];refine(λx hx=>?_,8,);rcases a6S.mp hx with hx|hx
  .exact .inr (OQ hx)
  .exact .inl (aOT.mp hx)
 .let(_,hh,hn,):=Bp h hi;try dsimp only
  by_cases c:row.getD i 0∈(oS sh pl row os i).1
  .rw [hh c];exact c
  .rw [hn c];exact aEK _ (aOT.mpr 8)
end
theorem GS{α:Type}[BEq α][LawfulBEq α]:∀{a b:List α},a.Nodup->(∀x∈a,x∈b)->a.length<=b.length
 | [],_,_,_=>agn _
 |x ::a,b,h,m=>by
  let(h1,h2,):=aZf.mp h;have q:=GS (b:=b.erase x) h2 λy hy=>(aSC (λz:y=x=>h1 (by rw[<-z];exact hy))).mpr (m y (aq4 _ hy));rw[aWr (m x anL)]at q;have:=a2Y (m x anL);rw[acz];lia
theorem Ld{α β:Type}{f:α->β}:∀{l:List α},l.Nodup->(∀x∈l,∀y∈l,f x=f y->x=y)->(l.map f).Nodup
 | [],_,_=>bd8
 |x ::l,h,i=>by
  let(h1,h2,):=aZf.mp h;refine aZf.mpr (λz=>?_,Ld h2 λa ha b hb=>i a (aq4 _ ha) b (aq4 _ hb),);let(y,hy,e,):=aFN.mp z;exact h1 (by rw[<-i y (aq4 _ hy) x anL e];exact hy)
theorem Lc{α:Type}[BEq α][LawfulBEq α]{n:Nat}{p:Nat->Bool}{b:List α}(f:Nat->α)(h:∀i,i<n->p i=true->f i∈b)(inj:∀i j,i<n->j<n->p i=true->p j=true->f i=f j->i=j):(List.range n).countP p<=b.length:=by
 rw[ahO];have nd:((List.range n).filter p).Nodup:=List.nodup_range.sublist aOg;have at':∀x∈(List.range n).filter p,x<n/\p x=true:=λx hx=>(aOW.mp (aCR.mp hx).1,(aCR.mp hx).2,);have:=GS (a:=((List.range n).filter p).map f) (b:=b) (Ld nd λx hx y hy e=>inj x y (at' x hx).1 (at' y hy).1 (at' x hx).2 (at' y hy).2 e) λy hy=>by
  let(x,hx,rfl,):=aFN.mp hy;exact h x (at' x hx).1 (at' x hx).2
 rwa [ano]at this
theorem OO{n:Nat}{p q:Nat->Bool}(f:Nat->Nat)(h:∀i,i<n->p i=true->f i<n/\q (f i)=true)(inj:∀i j,i<n->j<n->p i=true->p j=true->f i=f j->i=j):(List.range n).countP p<=(List.range n).countP q:=by
 rw[ahO (p:=q)];exact Lc f (λi hi hp=>aCR.mpr (aOW.mpr (h i hi hp).1,(h i hi hp).2,)) inj
noncomputable def gj(row:List Int)(b:Int):Nat->Option Nat
 |0=>none
 |j+1=>if row.getD j 0=b then some j else gj row b j
theorem vA{row:List Int}{b:Int}:∀{j i:Nat},gj row b j=!i->i<j/\row.getD i 0=b/\∀k,i<k->k<j->row.getD k 0≠b
 |0,i,h=>nomatch h
 |j+1,i,h=>by
  unfold gj at h;split at h
  .rename_i c;cases h;exact(avq _,c,λk h1 h2=>7,)
  .rename_i c;let(h1,h2,h3,):=vA h;refine(7,h2,λk k1 k2=>?_,);by_cases e:k=j
   .subst e;exact c
   .exact h3 k k1 7
theorem HC{row:List Int}{b:Int}:∀{j:Nat},gj row b j=none->∀k,k<j->row.getD k 0≠b
 |0,_,k,h=>7
 |j+1,h,k,hk=>by
  unfold gj at h;split at h
  .cases h
  .rename_i c;by_cases e:k=j
   .subst e;exact c
   .exact HC h k 7
theorem N6{row:List Int}{b:Int}{j i:Nat}(h1:i<j)(h2:row.getD i 0=b)(h3:∀k,i<k->k<j->row.getD k 0≠b):gj row b j=!i:=by
 cases e:gj row b j with
 |none=>exact absurd h2 (HC e i h1)
 |some k=>
  let(k1,k2,k3,):=vA e;congr 1
  by_cases c:k<i
  .exact absurd h2 (k3 i c h1)
  .by_cases c2:i<k
   .exact absurd k2 (h3 k c2 k1)
   .lia
theorem Bc{row:List Int}{b:Int}:∀(d p:Nat),p+d=row.length->(iu row p b=row.length/\∀k,p<=k->k<row.length->row.getD k 0≠b)\/∃j:Nat,p<=j/\j<row.length/\iu row p b=(j:Int)/\row.getD j 0=b/\∀k,p<=k->k<j->row.getD k 0≠b
 |0,p,h=>.inl (Hs 7,λk h1 h2=>7,)
 |d+1,p,h=>by
  have hx:row[p]?=!(row.getD p 0):=by rw[aGH,aMp 7];rfl
  rw[HD hx];by_cases c:row.getD p 0=b
  .rw [ahF c];exact .inr (p,bbI _,7,8,c,λk h1 h2=>7,)
  .rw [aah c];rcases Bc (row:=row) (b:=b) d (p+1) 7 with⟨h1,h2⟩|⟨j,h1,h2,h3,h4,h5⟩
   .refine .inl (h1,λk k1 k2=>?_,);by_cases e:k=p
    .subst e;exact c
    .exact h2 k 7 k2
   .refine .inr (j,7,h2,h3,h4,λk k1 k2=>?_,);by_cases e:k=p
    .subst e;exact c
    .exact h5 k 7 k2
noncomputable def bF(row:List Int)(i:Nat):Int:=iu row (i+1) (row.getD i 0)
noncomputable def bW(sh:Int)(row:List Int)(i j m:Nat):Bool:=(decide (i<m) && decide (m<j)) && decide (row.getD m 0%sh=row.getD i 0%sh)
noncomputable def dG(sh:Int)(row:List Int)(ms:List Nat)(i j:Nat):Bool:=ms.any (bW sh row i j)
noncomputable def m8(sh:Int)(row:List Int)(ms:List Nat)(i:Nat):Bool:=decide (bF row i<row.length) && (not (dG sh row ms i (bF row i).toNat))
noncomputable def eX(row:List Int)(f:Nat->Nat->Bool)(j:Nat):Bool:=match gj row (row.getD j 0) j with
 |some i=>f i j
 |none=>false
noncomputable def i7(sh:Int)(row:List Int)(ms:List Nat)(j:Nat):Bool:=eX row (λi j=>(not (dG sh row ms i j))) j
theorem Eo{row:List Int}{i:Nat}(hi:i<row.length)(h:bF row i<row.length):∃j:Nat,bF row i=(j:Int)/\i<j/\j<row.length/\row.getD j 0=row.getD i 0/\gj row (row.getD j 0) j=!i:=by
 rcases Bc (row:=row) (b:=row.getD i 0) (row.length-(i+1)) (i+1) 7 with⟨h1,_⟩|⟨j,h1,h2,h3,h4,h5⟩
 .unfold bF at h;lia
 .exact (j,h3,7,h2,h4,by rw[h4];exact N6 7 8 λk k1 k2=>h5 k 7 k2,)
theorem GR{row:List Int}{i j:Nat}(hj:j<row.length)(h:gj row (row.getD j 0) j=!i):bF row i=(j:Int):=by
 let(h1,h2,h3,):=vA h;rcases Bc (row:=row) (b:=row.getD i 0) (row.length-(i+1)) (i+1) 7 with⟨_,k2⟩|⟨k,k1,k2,k3,k4,k5⟩
 .exact absurd h2.symm (k2 j 7 hj)
 .unfold bF;rw[k3];congr 1
  by_cases c:k<j
  .exact absurd (k4.trans h2) (h3 k 7 c)
  .by_cases c2:j<k
   .exact absurd h2.symm (k5 j 7 c2)
   .lia
theorem VD(row:List Int)(f:Nat->Nat->Bool):(List.range row.length).countP (λi=>decide (bF row i<row.length) && f i (bF row i).toNat)=(List.range row.length).countP (eX row f):=by
 apply Nat.le_antisymm
 .refine OO (λi=>(bF row i).toNat) (λi hi hp=>?_) (λi j hi hj hp hq e=>?_)
  .let(h1,h2,):=(aEv _ _).mp hp;let(j,e,h3,h4,h5,h6,):=Eo hi (adw h1);rw[e]at h2 ⊢;refine(h4,?_,);unfold eX;rw[show((j:Int)).toNat=j from rfl,h6];exact h2
  .let(h1,_,):=(aEv _ _).mp hp;let(h2,_,):=(aEv _ _).mp hq;let(x,e1,_,_,_,q1,):=Eo hi (adw h1);let(y,e2,_,_,_,q2,):=Eo hj (adw h2);rw[e1,e2]at e;have Af:x=y:=e;rw[Af,q2]at q1;exact(aFB q1).symm
 .refine OO (λj=>(gj row (row.getD j 0) j).getD 0) (λj hj hp=>?_) (λi j hi hj hp hq e=>?_)
  .unfold eX at hp;cases e:gj row (row.getD j 0) j with
   |none=>rw[e]at hp;cases hp
   |some i=>
    rw[e]at hp;have:=vA e;have n:=GR hj e;refine(by show i<_;lia,?_,);show(decide (bF row i<row.length) && f i (bF row i).toNat)=true;rw[n,anN 7];exact hp
  .unfold eX at hp hq;cases e1:gj row (row.getD i 0) i with
   |none=>rw[e1]at hp;cases hp
   |some x=>
    cases e2:gj row (row.getD j 0) j with
    |none=>rw[e2]at hq;cases hq
    |some y=>
     rw[e1,e2]at e;have Af:x=y:=e;have n1:=GR hi e1;have n2:=GR hj e2;rw[Af,n2]at n1;lia
noncomputable def bB(sh pl:Int)(row:List Int)(ms:List Nat):Int:=(pl-1)*ms.length+((List.range row.length).countP (m8 sh row ms):Nat)
theorem uG(sh pl:Int)(row:List Int)(ms:List Nat):bB sh pl row ms=(pl-1)*ms.length+((List.range row.length).countP (i7 sh row ms):Nat):=by
 unfold bB i7;rw[<-VD];rfl
section
variable{sh pl:Int}{row:List Int}{O:Nat->List Int}{m:Nat->Nat}
noncomputable def cC(row:List Int)(O:Nat->List Int)(j:Nat):Bool:=decide (row.getD j 0∈O j)
theorem jO.cnt(o:jO sh pl row O m):∀i,i<=row.length->m i+(List.range i).countP (cC row O)=i
 |0,_=>by rw[o.z.2];rfl
 |i+1,h=>by
  have ih:=o.cnt i 7;rw[aIe,a8D,aIX];unfold cC at ih ⊢;by_cases c:row.getD i 0∈O i
  .rw [(o.hit i 7 c).2,ahF (by simpa using c)];lia
  .rw [(o.FY i 7 c).2,aah (by simpa using c)];lia
theorem jO.step(o:jO sh pl row O m){i:Nat}(hi:i<row.length){x:Int}(h:x∈O (i+1)):x=row.getD i 0\/x∈O i:=by
 by_cases c:row.getD i 0∈O i
 .exact .inr ((o.hit i hi c).1 x h)
 .exact (o.FY i hi c).1 x h
theorem jO.back(o:jO sh pl row O m):∀{j:Nat},j<=row.length->∀{x:Int},x∈O j->∃i,i<j/\row.getD i 0=x
 |0,_,x,h=>by rw[o.z.1]at h;cases h
 |j+1,hj,x,h=>by
  rcases o.step 7 h with e|h
  .exact (j,7,e.symm,)
  .let(i,h1,h2,):=o.back 7 h;exact(i,7,h2,)
theorem jO.stay(o:jO sh pl row O m){i:Nat}{x:Int}:∀(d t:Nat),i<t->t+d<=row.length->x∈O (t+d)->(∀k,i<k->k<t+d->row.getD k 0≠x)->x∈O t
 |0,t,_,_,h,_=>h
 |d+1,t,h1,h2,h,h3=>by
  have q:=o.stay d (t+1) 7 7 (by rw[show t+1+d=t+(d+1) by lia];exact h) λk k1 k2=>h3 k k1 7;rcases o.step 7 q with e|q
  .exact absurd e.symm (h3 t 7 7)
  .exact q
theorem jO.over(o:jO sh pl row O m){a:Nat}(ha:a<row.length):(((List.range row.length).countP λj=>cC row O j && eX row (λi j=>bW sh row i j a) j:Nat):Int)<=pl-1:=by
 have key:∀j,j<row.length->(cC row O j && eX row (λi j=>bW sh row i j a) j)=true->∃i,i<a/\a<j/\row.getD i 0=row.getD j 0/\(∀k,i<k->k<j->row.getD k 0≠row.getD j 0)/\row.getD a 0%sh=row.getD j 0%sh/\row.getD j 0∈O (a+1):=λj hj hp=>by
  let(h1,h2,):=(aEv _ _).mp hp;have h1:row.getD j 0∈O j:=adw h1;unfold eX at h2;cases e:gj row (row.getD j 0) j with
  |none=>rw[e]at h2;cases h2
  |some i=>
   rw[e]at h2;let(p1,p2,p3,):=vA e;let(c1,c3,):=(aEv _ _).mp h2;let(c1,c2,):=(aEv _ _).mp c1;have c1:=adw c1;have c2:=adw c2;have c3:=adw c3;refine(i,c1,c2,p2,p3,by rw[c3,p2],?_,);exact o.stay (i:=i) (j-(a+1)) (a+1) 7 7 (by rw[show a+1+(j-(a+1))=j by lia];exact h1) λk k1 k2=>p3 k k1 7
 have ma:row.getD a 0∈Zi sh (row.getD a 0%sh) (O (a+1)):=af.mpr (o.now a ha,8,);have le:=Lc (n:=row.length) (p:=λj=>cC row O j && eX row (λi j=>bW sh row i j a) j) (b:=(Zi sh (row.getD a 0%sh) (O (a+1))).erase (row.getD a 0)) (λj=>row.getD j 0) (λj hj hp=>?_) (λj k hj hk hp hq e=>?_)
 .have z:=o.sz (a+1) 7 (row.getD a 0%sh);rw[aWr ma]at le;have:=a2Y ma;lia
 .let(i,h1,h2,h3,h4,h5,h6,):=key j hj hp;exact(aSC (λz:row.getD j 0=row.getD a 0=>h4 a h1 h2 z.symm)).mpr (af.mpr (h6,h5.symm,))
 .let(i,h1,h2,_,h4,_,):=key j hj hp;let(i',wA,h2',_,Gy,_,):=key k hk hq;by_cases c:j<k
  .exact absurd e (Gy j 7 c)
  .by_cases c2:k<j
   .exact absurd e.symm (h4 k 7 c2)
   .lia
theorem KI{p q r s:Nat->Bool}:∀l:List Nat,(∀x∈l,p x=true->q x=true->r x=true\/s x=true)->l.countP (λx=>p x && q x)<=l.countP (λx=>p x && r x)+l.countP λx=>p x && s x
 | [],_=>bbI _
 |x ::l,h=>by
  have ih:=KI l λy hy=>h y (aq4 _ hy);simp only[aHO];have:=h x anL;cases hp:p x <;> cases hq:q x <;> cases hr:r x <;> cases hs:s x <;> simp_all <;> lia
theorem jO.marked(o:jO sh pl row O m):∀ms:List Nat,(∀x∈ms,x<row.length)->(((List.range row.length).countP λj=>cC row O j && eX row (λi j=>dG sh row ms i j) j:Nat):Int)<=(pl-1)*ms.length
 | [],_=>by
  have:(List.range row.length).countP (λj=>cC row O j && eX row (λi j=>dG sh row [] i j) j)=0:=by
   rw[aEh];intro j _ z;let(_,h2,):=(aEv _ _).mp z;unfold eX at h2;split at h2 <;> cases h2
  rw[this];show(0:Int)<=(pl-1)*((0:Nat):Int);simp
 |a ::ms,h=>by
  have h1:=o.over (h a anL);have h2:=o.marked ms λx hx=>h x (aq4 _ hx);have h3:=KI (p:=cC row O) (q:=eX row (λi j=>dG sh row (a ::ms) i j)) (r:=eX row (λi j=>bW sh row i j a)) (s:=eX row (λi j=>dG sh row ms i j)) (List.range row.length) (λx _ _ hx=>by
   unfold eX at hx ⊢;cases e:gj row (row.getD x 0) x with
   |none=>rw[e]at hx;cases hx
   |some i=>
    rw[e]at hx;have hx:(bW sh row i x a || dG sh row ms i x)=true:=hx;exact(azS _ _).mp hx)
  rw[acz,Int.natCast_succ,Int.mul_add,Int.mul_one];lia
theorem jO.weak(o:jO sh pl row O m)(ms:List Nat)(h:∀x∈ms,x<row.length):(row.length:Int)-m row.length<=bB sh pl row ms:=by
 have h1:=o.cnt row.length (bbI _);have h2:=o.marked ms h;rw[uG];have h3:=KI (p:=cC row O) (q:=λ_=>true) (r:=eX row (λi j=>dG sh row ms i j)) (s:=i7 sh row ms) (List.range row.length) (λx hm hx _=>by
  unfold i7 eX;cases e:gj row (row.getD x 0) x with
  |none=>
   let(i,i1,i2,):=o.back (aWE (aOW.mp hm)) (adw hx);exact absurd i2 (HC e i i1)
  |some i=>dsimp only;cases dG sh row ms i x <;> simp)
 have h4:(List.range row.length).countP (λx=>cC row O x && i7 sh row ms x)<=(List.range row.length).countP (i7 sh row ms):=List.countP_mono_left λx _ hx=>((aEv _ _).mp hx).2;have h5:(List.range row.length).countP (λx=>cC row O x && true)=(List.range row.length).countP (cC row O):=by simp only[Bool.and_true]
 lia
end
noncomputable def mV(ms:List Nat):List V:=ms.map λm:Nat=>V.int (m:Int)
noncomputable def gP(row:List Int):List Nat:=(List.range row.length).filter λi=>decide (bF row i<row.length)
theorem QB(row:List Int){i:Nat}(hi:i<row.length):(Zy row)[i]?=!(bF row i):=by
 unfold Zy;rw[aGb,apf hi];rfl
def N5(G:Hp)(l:Addr)(row:List Int)(ns:List Nat):Prop:=∃aq:List Addr,G l=!(.lst (aq.map V.ref))/\aq.length=ns.length/\∀(k:Nat)(ad:Addr)(i:Nat),aq[k]?=!ad->ns[k]?=!i->G ad=!(.tup [.int (i:Int),.int (bF row i)])
inductive sC(K:W.Frag)(vs:List V)(H:Hp)(Q:VK)(E:XK):Prop
 |mk (a:Addr) (row:List Int):vs=[.ref a]->ah K H a (row.map V.int)->row.length<=400->(∀(l:Addr)(H':Hp),H l=none->ak H H'->N5 H' l row (gP row)->Q (.ref l) H')->sC K vs H Q E
example:(jk CM tL):=by
 let(a,row,rfl,hS,hl,k,):=h;refine(_,(Zj (Zr (ER (Zx (bQ:=(Zp cX)) (oN:=kY) (N:=["first","last","row"]) (own:=2) (js:=[0]) 6 8 8) 8 (Hi 8 T.AW (pc (Zm tL hr.m 8 (pc (pv 0) Zc)) Zc)) (λ_ _ _ _ _ _=>(ZR (K:=K) (n:=2) 8 8 (Zs (bu 0 (show List.Nodup (["first","last","row"]:List Str) by decide +kernel)) (Zs (bu 1 (show List.Nodup (["first","last","row"]:List Str) by decide +kernel)) ZQ)))) (λ_ _ _ _ _ _=>(Zq cF (pv 1) (Zl (Zn (K:=K) 8) 8 T.dw arj (pc (pv 2) Zc)) (Zu _))) (λ_ _ _ _ _ _=>(nY (pc (pv 0) (pc (pv 1) Zc))))))),?_,);refine(_,8,a,row,8,hS,hl,λlg H1 vh s1 e1=>(lg,8,(_,ah.of e1,),λl hl'=>?_,),);have la:((Zy row).map V.int).length=row.length:=by rw[ano,Hy]
 refine Yl (K:=K) (a:=lg) (xs:=(Zy row).map V.int) (l:=l) (λj ys σ' G'=>∃(v0 v1:Option V),σ'=[v0,v1,!(.ref a)]/\G' l=!(.lst ys)/\N5 G' l row ((List.range j).filter λi=>decide (bF row i<row.length))/\ak H1 G')
  (none,none,8,Za,([],Za,8,λk ad i h _=>by simp at h,),Zb hl' _,) (λj ys σ' G' _ w9=>by let(_,_,_,_,_,s,):=w9;exact ah.of (s _ _ e1)) ?_ ?_
 .rintro j x t ys σ' G' hj dS hys ⟨v0,v1,rfl,el,⟨aq,r1,r2,r3⟩,sg⟩ ht;have hj':j<row.length:=7
  rw[aGb,QB row hj']at dS;cases dS;have Dd:l≠t:=Ze el ht;have hx:((List.range (j+1)).filter λi=>decide (bF row i<row.length))=((List.range j).filter λi=>decide (bF row i<row.length))++(if bF row j<row.length then[j] else[]):=by
   rw[aIe,baC,a6U,ajw];simp only[auA]
  have sx:=Zb (H:=G') ht (.tup [V.int (j:Int),V.int (bF row j)]);refine(t,_,8,bS.of Za,503,?_,);refine(121,a,_,8,.inl ((s1.trans (sg.trans sx)).seq hS),177,?_,);generalize upd G' t (.tup [V.int (j:Int),V.int (bF row j)])=G1 at *;have wH:=sx _ _ el;rw[ano];refine ZJ (λc=>?_) (λc=>?_)
  .rw [ahF c]at hx;refine(121,(sL 2),λq hq=>?_,);have sq:=Zb (H:=G1) hq (.tup [V.int (j:Int),V.int (bF row j)]);have eq:=Za (H:=G1) (a:=q) (o:=.tup [V.int (j:Int),V.int (bF row j)]);have Th:l≠q:=Ze wH hq;dsimp only;have sG:=sx.trans sq;generalize upd G1 q (.tup [V.int (j:Int),V.int (bF row j)])=G2 at *;have ey:ys=aq.map V.ref:=by rw[el]at r1;cases r1;rfl
   subst ey;refine dh.of (by rw[la];exact aWE (Zk 7)) hj hys (sG _ _ el) (109,Za,(aq++[q],by rw[Za,aP2];rfl,by rw[hx,a96,a96,r2];rfl,λk ad i h1 h2=>?_,),λx o e=>by rw[Zg (Ze e hl')];exact sG _ _ (sg _ _ e),);rw[hx]at h2;by_cases ck:k<aq.length
   .rw [ah8 ck]at h1;rw[ah8 (by rw[<-r2];exact ck)]at h2;have q3:=r3 k ad i h1 h2;rw[Zg (λz=>by rw[z,el]at q3;cases q3)];exact sG _ _ q3
   .rw [a9d 7]at h1;rw[a9d (by rw[<-r2];lia),<-r2]at h2;cases ek:k-aq.length with
    |zero=>
     rw[ek]at h1 h2;cases h1;cases h2;rw[Zg (aUP Th)];exact eq
    |succ n=>rw[ek]at h1;simp at h1
  .rw [aah c,aZr]at hx;refine k7.of hj hys (109,wH,(aq,sx _ _ r1,by rw[hx];exact r2,λk ad i h1 h2=>sx _ _ (r3 k ad i h1 (by rw[hx]at h2;exact h2)),),sg.trans sx,)
 .rintro ys σ' G' _ ⟨v0,v1,rfl,el,rr,sg⟩;rw[la]at rr;exact k l G' (s1.free hl') (s1.trans sg) rr
inductive Co(K:W.Frag)(vs:List V)(H:Hp)(Q:VK)(E:XK):Prop
 |mk (sh:Int) (a lm:Addr) (row:List Int) (ms:List Nat) (i j:Nat):vs=[.int sh,.ref a,.ref lm,.int (i:Int),.int (j:Int)]->ah K H a (row.map V.int)->ah K H lm (mV ms)->1<=sh->i<row.length->(∀x∈ms,x<row.length)->ms.length<=900->(∀H',ak H H'->Q (.bl (dG sh row ms i j)) H')->Co K vs H Q E
example:(kD CZ lC):=by
 let(sh,a,lm,row,ms,i,j,rfl,hS,hM,hs0,hi,hm,hl,k,):=h;refine(_,(Zf (aY 05 nd (Zm lC hr.m 8 (pc (pv 0) (pc (av (Zo (K:=K) 8) (pv 1) (pv 3) (λ_ _=>8)) Zc))))
   (Zj (Zr (Zl (Qu 8) 8 T.Fw PD (pc (rA (Zx (bQ:=(Zp dO)) (oN:=nN) (N:=["mark","first","last","shelf","shelves","row"]) (own:=1) (js:=[3,4,05,0,1]) 6 8 8) 8 (ZF (K:=K) 8 (pv 2)) (λ_ _ _ _ _ _=>(bu 0 (show List.Nodup (["mark","first","last","shelf","shelves","row"]:List Str) by decide +kernel))) (λ_ _ _ _ _ _=>(EA (PV cF cF (pv 1) (pv 0) (pv 2)) (EB (qo aS (Zm lC hr.m 8 (pc (pv 4) (pc (av (Zo (K:=K) 8) (pv 05) (pv 0) (λ_ _=>8)) Zc))) (pv 3) (Zu _)))))) Zc))))),?_,)
 have at':∀x,x<row.length->cV (row.map V.int) (x:Int)=!(.int (row.getD x 0)):=λx hx=>ZY (by rw[aGb,aGH,aMp hx];rfl);refine(185,a,135,hS,at' i hi,sh,_,8,hs0,gN ?_,);refine(_,8,lm,8,(_,hM,),λl hl'=>?_,);have lV:(mV ms).length=ms.length:=ano ..;refine ZA (K:=K) (a:=lm) (xs:=mV ms) (l:=l) (λn ys σ' G'=>∃(v0:Option V),σ'=[v0,!(.int (i:Int)),!(.int (j:Int)),!(.int (row.getD i 0%sh)),!(.int sh),!(.ref a)]/\ys=((ms.take n).map (bW sh row i j)).map V.bl/\G' l=!(.lst ys)/\ak H G')
  (none,8,8,Za,Zb hl' _,) (λn ys σ' G' _ w9=>by let(_,_,_,_,s,):=w9;exact s.seq hM) ?_ ?_
 .rintro n x ys σ' G' hn hxn hys ⟨v0,rfl,rfl,el,sg⟩;have hn':n<ms.length:=7
  have em:ms[n]?=!ms[n]:=aMp hn';have ex:x=.int (ms[n]:Int):=by
   unfold mV at hxn;rw[aGb,em]at hxn;exact(aFB hxn).symm
  subst ex;have mr:=hm _ (aE5 em);have tk:ms.take (n+1)=ms.take n++[ms[n]]:=by rw[a8b,em];rfl
  generalize ms[n]=z at *;have fin:∀{b:Bool},b=bW sh row i j z->dh (mV ms).length l (λn ys σ' G'=>∃(v0:Option V),σ'=[v0,!(.int (i:Int)),!(.int (j:Int)),!(.int (row.getD i 0%sh)),!(.int sh),!(.ref a)]/\ys=((ms.take n).map (bW sh row i j)).map V.bl/\G' l=!(.lst ys)/\ak H G') n (((ms.take n).map (bW sh row i j)).map V.bl) [!(.int (z:Int)),!(.int (i:Int)),!(.int (j:Int)),!(.int (row.getD i 0%sh)),!(.int sh),!(.ref a)] (.bl b) G':=λ{b} e=>
   dh.of (by rw[lV];exact aWE (Zk 7)) hn hys el (_,8,by rw[tk,e,aP2,aP2];rfl,Za,λx o e=>by rw[Zg (Ze e hl')];exact sg _ _ e,)
  refine(1457,?_,);by_cases c1:i<z
  .refine aO (anN 7) (433,?_,);by_cases c2:z<j
   .refine aO (anN 7) (185,a,135,sg.seq hS,at' z mr,sh,_,8,hs0,111,fin ?_,);unfold bW;rw[anN c1,anN c2];simp
   .refine aQ (alG 7) (fin ?_);unfold bW;rw[alG c2,aPY,aNq]
  .refine aQ (alG 7) (_,8,aQ 8 (fin ?_),);unfold bW;rw[alG c1,aNq,aNq]
 .rintro ys σ' G' _ ⟨v0,rfl,rfl,el,sg⟩;rw[lV,aXW]at el;refine(l,_,8,ah.of el,?_,);rw[any_map];exact k G' sg
inductive sR(K:W.Frag)(vs:List V)(H:Hp)(Q:VK)(E:XK):Prop
 |mk (sh pl:Int) (a lm:Addr) (row:List Int) (ms:List Nat):vs=[.int sh,.int pl,.ref a,.ref lm]->ah K H a (row.map V.int)->ah K H lm (mV ms)->1<=sh->row.length<=400->(∀x∈ms,x<row.length)->ms.length<=900->(∀H',ak H H'->Q (.int (bB sh pl row ms)) H')->sR K vs H Q E
theorem KH{row:List Int}{i:Nat}:0<=bF row i:=by
 unfold bF;by_cases c:i+1<=row.length
 .rcases Bc (row:=row) (b:=row.getD i 0) (row.length-(i+1)) (i+1) 7 with⟨h1,_⟩|⟨j,_,_,h3,_⟩ <;> lia
 .rw [Hs 7];lia
example:(tQ BQ CM CZ):=by
 let(sh,pl,a,lm,row,ms,rfl,hS,hM,hs0,hl,hm,hml,k,):=h;refine(_,(Zf (HP 4 (Zx (bQ:=(Zp kj)) (oN:=w4) (N:=["first","last","shelves","row","marks"]) (own:=2) (js:=[0,2,3]) 6 8 8) 8 nd 8 8 (ZF (K:=K) 8 (Zm CM hr.m 8 (pc (pv 2) Zc))) (λ_ _ _ _ _ _=>(ZR (K:=K) (n:=2) 8 8 (Zs (bu 0 (show List.Nodup (["first","last","shelves","row","marks"]:List Str) by decide +kernel)) (Zs (bu 1 (show List.Nodup (["first","last","shelves","row","marks"]:List Str) by decide +kernel)) ZQ)))) (λ_ _ _ _ _ _=>(ny (ZW (Zm CZ hr.m 8 (pc (pv 2) (pc (pv 3) (pc (pv 4) (pc (pv 0) (pc (pv 1) Zc))))))))) (λ_ _ _ _ _ _=>(pv 0)))
   (Zj (Zr (aa ZB (aa qp (aa lJ (pv 1) Zh) (Zl (Zn (K:=K) 8) 8 T.dw arj (pc (pv 3) Zc))) (Zl (Zn (K:=K) 8) 8 T.dw arj (pc (pv 4) Zc)))))),?_,)
 refine(_,8,a,row,8,hS,hl,λlr H1 hlr s1 rr=>?_,);let(aq,r1,r2,r3,):=rr;refine(lr,8,(_,ah.of r1,),λl hl'=>?_,);have lV:(aq.map V.ref).length=(gP row).length:=by rw[ano,r2]
 have lr4:(gP row).length<=row.length:=by
  have:=ayM (λi=>decide (bF row i<row.length)) (List.range row.length);rw[ax4]at this;exact this
 refine ZA (K:=K) (a:=lr) (xs:=aq.map V.ref) (l:=l) (λn ys σ' G'=>∃(v0 v1:Option V),σ'=[v0,v1,!(.int sh),!(.ref a),!(.ref lm)]/\ys.length=((gP row).take n).countP (λi=>(not (dG sh row ms i (bF row i).toNat)))/\G' l=!(.lst ys)/\ak H1 G')
  (none,none,8,8,Za,Zb hl' _,) (λn ys σ' G' _ w9=>by let(_,_,_,_,_,s,):=w9;exact ah.of (s _ _ r1)) ?_ ?_
 .rintro n x ys σ' G' hn hxn hys ⟨v0,v1,rfl,hy,el,sg⟩;have hn':n<aq.length:=by rw[ano]at hn;exact hn
  rw[aGb,aMp hn']at hxn;cases hxn;have ei:(gP row)[n]?=!(gP row)[n]:=aMp 7;have q3:=r3 n _ _ (aMp hn') ei;have tk:(gP row).take (n+1)=(gP row).take n++[(gP row)[n]]:=by rw[a8b,ei];rfl
  let(i1,i2,):=aCR.mp (aE5 ei);have i1:=aOW.mp i1;generalize(gP row)[n]=i at *;have ge:=KH (row:=row) (i:=i);refine(109,bS.of (sg _ _ q3),503,?_,);refine(1465,sh,a,lm,row,ms,i,(bF row i).toNat,by rw[Int.toNat_of_nonneg ge];rfl,(s1.trans sg).seq hS,(s1.trans sg).seq hM,hs0,i1,hm,hml,λG2 s2=>?_,);refine(_,8,?_,);have NG:=s2 _ _ el;cases cb:dG sh row ms i (bF row i).toNat with
  |false=>
   refine aO 8 (_,8,dh.of (by rw[lV];exact aWE (Zk 7)) hn hys NG (109,?_,Za,λx o e=>by rw[Zg (Ze e hl')];exact s2 _ _ (sg _ _ e),),);rw[tk,a8D,aIX,a96,hy,ahF (by rw[cb];rfl)];rfl
  |true=>
   refine aQ 8 (k7.of hn hys (109,?_,NG,sg.trans s2,));rw[tk,a8D,aIX,hy,aah (by rw[cb];exact aJD)];rfl
 .rintro ys σ' G' _ ⟨v0,v1,rfl,hy,el,sg⟩;rw[lV,aXW]at hy;have sG:=s1.trans sg;have e:(gP row).countP (λi=>(not (dG sh row ms i (bF row i).toNat)))=(List.range row.length).countP (m8 sh row ms):=by
   unfold gP;rw[List.countP_filter];refine aWN λi _=>?_;unfold m8;rw[Bool.and_comm]
  rw[e]at hy;have lM:(mV ms).length=ms.length:=ano ..;refine gN (433,lm,_,8,.inl (sG.seq hM),119,.inr (by rw[lM];lia),_,8,l,_,8,.inl (ah.of el),119,?_,);rw[lM,hy];exact k G' sG
noncomputable def fh(sh:Int)(row:List Int):List Int:=row.foldl (λks b=>if b%sh∈ks then ks else ks++[b%sh]) []
theorem Qa(sh:Int)(row:List Int)(b:Int):fh sh (row++[b])=if b%sh∈fh sh row then fh sh row else fh sh row++[b%sh]:=by
 unfold fh;rw[List.foldl_append];rfl
theorem Ao(sh:Int)(row:List Int):∀n,n<=row.length->(fh sh (row.take n)).Nodup/\(∀s,s∈fh sh (row.take n)↔∃i,i<n/\row.getD i 0%sh=s)/\(fh sh (row.take n)).length<=n
 |0,_=>(bd8,λs=>(λh=>(nomatch h),λw9=>by let(i,h,_,):=w9;exact 7,),bbI _,)
 |n+1,hn=>by
  let(h1,h2,h3,):=Ao sh row n 7;have et:row.take (n+1)=row.take n++[row.getD n 0]:=by rw[a8b,aGH,aMp (7:n<row.length)];rfl
  rw[et,Qa];have ex:∀s,(∃i,i<n+1/\row.getD i 0%sh=s)↔(∃i,i<n/\row.getD i 0%sh=s)\/row.getD n 0%sh=s:=λs=>by
   constructor
   .rintro ⟨i,h,e⟩;by_cases c:i=n
    .subst c;exact .inr e
    .exact .inl (i,7,e,)
   .rintro (⟨i,h,e⟩|e)
    .exact (i,7,e,)
    .exact (n,7,e,)
  by_cases c:row.getD n 0%sh∈fh sh (row.take n)
  .rw [ahF c];refine(h1,λs=>?_,7,);rw[ex,h2];exact(.inl,λz=>z.elim id λe=>(h2 s).mp (e ▸c),)
  .rw [aah c];refine(uO h1 c,λs=>?_,by rw[a96];show _+1<=_;lia,);rw[ex,aNA,ax0,h2];exact(λz=>z.imp id Eq.symm,λz=>z.imp id Eq.symm,)
noncomputable def br(sh:Int)(row:List Int)(n:Nat)(s:Int):List Nat:=(List.range n).filter λi=>decide (row.getD i 0%sh=s)
theorem HB(sh:Int)(row:List Int)(n:Nat)(s:Int):br sh row (n+1) s=br sh row n s++(if row.getD n 0%sh=s then[n] else[]):=by
 unfold br;rw[aIe,baC,a6U,ajw];simp only[auA]
theorem yG(a b:List Nat):mV (a++b)=mV a++mV b:=aP2 ..
theorem ON(sh:Int)(row:List Int)(n:Nat)(s:Int):(mV (br sh row n s)).length<=n:=by
 unfold mV br;rw[ano];have:=ayM (λi=>decide (row.getD i 0%sh=s)) (List.range n);rwa [ax4]at this
noncomputable def lD(p:Int×Addr):Key×V:=(Sum.inl p.1,V.ref p.2)
structure E2(G:Hp)(d:Addr)(sh:Int)(row:List Int)(n:Nat)(L:List (Int×Addr)):Prop where
 top:G d=!(.dK (L.map lD))
 ks:L.map (·.1)=fh sh (row.take n)
 nd:(L.map (·.2)).Nodup
 at':∀p∈L,G p.2=!(.lst (mV (br sh row n p.1)))
theorem KG:∀(L:List (Int×Addr))(s:Int),(∃ad,(s,ad)∈L/\aW (L.map lD) (Sum.inl s)=!(.ref ad))\/(s∉L.map (·.1)/\aW (L.map lD) (Sum.inl s)=none)
 | [],s=>.inr (λh=>(nomatch h),8,)
 |(x,ad) ::L,s=>by
  by_cases c:x=s
  .subst c;exact .inl (ad,anL,ZU (p:=lD (x,ad)) 8,)
  .have e:aW ((lD (x,ad)) ::L.map lD) (Sum.inl s)=aW (L.map lD) (Sum.inl s):=ZS λz=>c (aPp z);rw[aQv,e];rcases KG L s with⟨a,h1,h2⟩|⟨h1,h2⟩
   .exact .inl (a,aq4 _ h1,h2,)
   .exact .inr (λz=>(aPx.mp z).elim (λz=>c z.symm) h1,h2,)
theorem Lb{α β:Type}:∀{L:List (α×β)},(L.map (·.1)).Nodup->∀{p q:α×β},p∈L->q∈L->p.1=q.1->p=q
 | [],_,_,_,h,_,_=>nomatch h
 |x ::L,nd,p,q,hp,hq,e=>by
  let(n1,n2,):=aZf.mp nd;rcases aPx.mp hp with h1|h1 <;> rcases aPx.mp hq with h2|h2
  .rw [h1,h2]
  .exact absurd (aFN.mpr (q,h2,by rw[<-e,h1],)) n1
  .exact absurd (aFN.mpr (p,h1,by rw[e,h2],)) n1
  .exact Lb n2 h1 h2 e
theorem Wb{α β:Type}{L:List (α×β)}(nd:(L.map (·.2)).Nodup){p q:α×β}(hp:p∈L)(hq:q∈L)(e:p.2=q.2):p=q:=by
 have h:=Lb (L:=L.map λx=>(x.2,x.1)) (by rw[ba6];exact nd) (p:=(p.2,p.1)) (q:=(q.2,q.1)) (aFN.mpr (p,hp,8,)) (aFN.mpr (q,hq,8,)) e;let(a,b,):=p;let(c,d,):=q;cases h;rfl
inductive Cn(K:W.Frag)(vs:List V)(H:Hp)(Q:VK)(E:XK):Prop
 |mk (sh:Int) (a:Addr) (row:List Int):vs=[.int sh,.ref a]->ah K H a (row.map V.int)->1<=sh->row.length<=400->(∀(d:Addr)(H':Hp)(L:List (Int×Addr)),H d=none->ak H H'->E2 H' d sh row row.length L->(∀p∈L,H p.2=none)->Q (.ref d) H')->Cn K vs H Q E
example:(e8 CT lC):=by
 let(sh,a,row,rfl,hS,hs0,hl,k,):=h;refine(_,(Zf (aY 2 nd HK)
   (Zf (nZ aDP 8 (Hi 8 T.AW (pc (pv 1) Zc)) (ZR (K:=K) (n:=2) 8 8 (Zs (bu 3 nd) (Zs (bu 4 nd) ZQ))) (Zj (ZC (lI (K:=K) 8 (bK aTF aMf aUV ZD (Xi (pv 2) (Zm lC hr.m 8 (pc (pv 0) (pc (pv 4) Zc))) (Zv Zc) (8,8,8,8,)) (pc (pv 3) Zc))))))
   (Zj (Zr (pv 2))))),?_,)
 refine λd hd=>(_,8,a,8,(_,(Zb hd _).seq hS,),Lx (K:=K) (a:=a) (xs:=row.map V.int) (λi σ G=>∃(v3 v4:Option V)(L:List (Int×Addr)),σ=[!(.int sh),!(.ref a),!(.ref d),v3,v4]/\E2 G d sh row i L/\(∀p∈L,H p.2=none)/\ak H G)
  (none,none,[],8,(Za,8,bd8,λp h=>(nomatch h),),λp h=>(nomatch h),Zb hd _,) (λi σ G _ w9=>by let(_,_,_,_,_,_,s,):=w9;exact s.seq hS) ?_ ?_,)
 .rintro i x t σ G hx ⟨v3,v4,L,rfl,B,nw,sg⟩ ht;let(z,hz,rfl,):=nX hx;have hi:i<row.length:=(aFR.mp hz).1;have eg:row.getD i 0=z:=by rw[aGH,hz];rfl
  have et:row.take (i+1)=row.take i++[z]:=by rw[a8b,hz];rfl
  let(k1,k2,k3,):=Ao sh row i 7;have lL:L.length<=i:=by have:=aFH List.length B.ks;rw[ano]at this;lia
  refine(t,_,8,bS.of Za,125,gN (109,gN (8,?_,),),);have s1:=Zb (H:=G) ht (.tup [V.int (i:Int),V.int z]);generalize upd G t (.tup [V.int (i:Int),V.int z])=G1 at *;have sd:=s1 _ _ B.top;refine(_,8,d,8,.inl (_,.inl sd,),121,sh,z,8,hs0,(sL 0),λq hq=>?_,);have s2:=Zb (H:=G1) hq (.lst []);have e2:upd G1 q (.lst []) q=!(.lst []):=Za;have qH:H q=none:=(sg.trans s1).free hq;have ME:q≠d:=λz=>by rw[z,sd]at hq;cases hq
  have sG:=s1.trans s2;have MF:∀p∈L,p.2≠q:=λp hp z=>by
   have h:=s1 _ _ (B.at' p hp);rw[z,hq]at h;cases h
  generalize upd G1 q (.lst [])=G2 at *;have yX:=s2 _ _ sd;have MO:∀p∈L,p.2≠d:=λp hp z=>by
   have h:=sG _ _ (B.at' p hp);rw[z,yX]at h;cases h
  clear sd hq s1 s2;have Mu:fh sh (row.take (i+1))=if z%sh∈fh sh (row.take i) then fh sh (row.take i) else fh sh (row.take i)++[z%sh]:=by rw[et];exact Qa ..
  refine(_,Sum.inl (z%sh),yX,8,Zk (by rw[ano];lia),λv hv=>?_,λhn=>?_,)
  .rcases KG L (z%sh) with⟨ad,h1,h2⟩|⟨h1,h2⟩
   .rw [hv]at h2;cases h2;have ea:=sG _ _ (B.at' _ h1);refine(.inl (8,_,ah.of ea,),_,8,ad,119,ea,Zk (bbd (ON sh row i (z%sh)) 7),(_,_,L,8,(by rw[Zg (aUP (MO _ h1))];exact yX,?_,B.nd,λp hp=>?_,),nw,λx o e=>by rw[Zg (Ze e (nw _ h1))];exact sG _ _ (sg _ _ e),),)
    .rw [B.ks,Mu,ahF];rw[<-B.ks];exact aFN.mpr (_,h1,8,)
    .rw [HB,eg];by_cases c:p.2=ad
     .have ep:p=(z%sh,ad):=Wb B.nd hp h1 c;subst ep;rw[Za,ahF 8,yG];rfl
     .rw [Zg c,aah,aZr]
      .exact sG _ _ (B.at' p hp)
      .intro w;have ep:p=(z%sh,ad):=Lb (by rw[B.ks];exact k1) hp h1 w.symm;exact c (by rw[ep])
   .rw [hv]at h2;cases h2
  .rcases KG L (z%sh) with⟨ad,h1,h2⟩|⟨h1,h2⟩
   .rw [hn]at h2;cases h2
   .rw [XD _ h2];have eq:upd G2 d (.dK (L.map lD++[(Sum.inl (z%sh),V.ref q)])) q=!(.lst []):=by rw[Zg ME];exact e2
    refine(.inl (8,_,ah.of eq,),_,8,q,119,eq,Zk (by show 0<=1000;lia),(_,_,L++[(z%sh,q)],8,(by rw[Zg (aUP ME),Za,aP2];rfl,?_,?_,λp hp=>?_,),λp hp=>?_,λx o e=>by rw[Zg (Ze e qH),Zg (Ze e hd)];exact sG _ _ (sg _ _ e),),)
    .rw [aP2,B.ks,Mu,aah]
     .rfl
     .rw [<-B.ks];exact h1
    .rw [aP2];refine uO B.nd λw=>?_;let(p,hp,e,):=aFN.mp w;exact MF p hp e
    .rw [HB,eg];rcases a6S.mp hp with hp|hp
     .rw [Zg (MF p hp),Zg (MO p hp),aah,aZr]
      .exact sG _ _ (B.at' p hp)
      .exact λw=>h1 (aFN.mpr (p,hp,w.symm,))
     .have ep:p=(z%sh,q):=by simpa using hp
      subst ep;have e0:br sh row i (z%sh)=[]:=by
       unfold br;rw[List.filter_eq_nil_iff];intro x hx w;refine h1 ?_;rw[B.ks,k2];exact(x,aOW.mp hx,adw w,)
      rw[Za,e0,ahF 8];rfl
    .rcases a6S.mp hp with hp|hp
     .exact nw p hp
     .have ep:p=(z%sh,q):=by simpa using hp
      subst ep;exact qH
 .rintro σ G ⟨v3,v4,L,rfl,B,nw,sg⟩;rw[ano]at B;exact(_,8,k d G L hd sg B nw,)
noncomputable def jb(again:List Int)(n k:Nat):Nat:=(List.range k).countP λd=>decide (again.getD (n-1-d) 0<=(n:Int))
theorem P9(again:List Int)(n k:Nat):jb again n (k+1)=jb again n k+(if again.getD (n-1-k) 0<=(n:Int) then 1 else 0):=by
 unfold jb;rw[aIe,a8D,aIX];simp only[auA]
noncomputable def Ah(again az:List Int)(n d:Nat):Int×Int:=(az.getD (n-1-d) 0+(jb again n (d+1):Int),((n-1-d:Nat):Int))
noncomputable def gq(again az:List Int)(n:Nat):List (Int×Int):=(List.range n).map (Ah again az n)++[((jb again n n:Int),-1)]
noncomputable def tM(p:Int×Int):List Int:=[p.1,p.2]
noncomputable def rj(l:List (Int×Int)):Nat:=argBest (λi j=>HT.lexLt ((l.map tM).getD i []) ((l.map tM).getD j [])) (l.length-1)
noncomputable def jx(again az:List Int)(n:Nat):Int×Int:=(gq again az n).getD (rj (gq again az n)) (0,-1)
theorem La(again az:List Int)(n:Nat):(gq again az n).length=n+1:=by unfold gq;simp
theorem N4{l:List (Int×Int)}(h:0<l.length):rj l<l.length:=by
 have:=Pb (λi j=>HT.lexLt ((l.map tM).getD i []) ((l.map tM).getD j [])) (l.length-1);unfold rj;lia
theorem Hq(again az:List Int)(n:Nat):(gq again az n)[rj (gq again az n)]?=!(jx again az n):=by
 have h:=N4 (l:=gq again az n) (by rw[La];lia);unfold jx;rw[aGH,aMp h];rfl
theorem LU(again az:List Int)(n:Nat): -1<=(jx again az n).2/\(jx again az n).2<n:=by
 have m:=aE5 (Hq again az n);generalize jx again az n=c at *;unfold gq at m;rcases a6S.mp m with m|m
 .let(d,hd,rfl,):=aFN.mp m;have:=aOW.mp hd;unfold Ah;dsimp only;lia
 .rw [aOT.mp m];dsimp only;lia
noncomputable def cu(again:List Int)(aB:Int):Nat->List Int×List Int
 |0=>([],[])
 |n+1=>((cu again aB n).1++[(jx again (cu again aB n).1 n).1+aB],(cu again aB n).2++[(jx again (cu again aB n).1 n).2])
theorem N3(again:List Int)(aB:Int)(n:Nat):(cu again aB (n+1)).1=(cu again aB n).1++[(jx again (cu again aB n).1 n).1+aB]:=rfl
theorem KD(again:List Int)(aB:Int)(n:Nat):(cu again aB (n+1)).2=(cu again aB n).2++[(jx again (cu again aB n).1 n).2]:=rfl
theorem En(again:List Int)(aB:Int):∀n,(cu again aB n).1.length=n/\(cu again aB n).2.length=n
 |0=>(8,8,)
 |n+1=>by
  let(h1,h2,):=En again aB n;unfold cu;rw[a96,a96,h1,h2];exact(8,8,)
theorem HA(again:List Int)(aB:Int):∀n i,i<n -> -1<=(cu again aB n).2.getD i (-1)/\(cu again aB n).2.getD i (-1)<i
 |0,i,h=>7
 |n+1,i,h=>by
  have l:=(En again aB n).2;unfold cu;dsimp only;rw[aGH];by_cases c:i<n
  .rw [ah8 7,<-aGH];exact HA again aB n i c
  .have e:i=n:=7
   subst e;rw[a9d 7,l,aNJ];exact LU ..
noncomputable def lG(as:List Int):Nat->Int->List Nat
 |0,_=>[]
 |f+1,m=>if 0<=m then m.toNat ::lG as f (as.getD m.toNat (-1)) else[]
theorem Ho(as:List Int)(f:Nat)(m:Int):lG as (f+1) m=if 0<=m then m.toNat ::lG as f (as.getD m.toNat (-1)) else[]:=rfl
noncomputable def qS(as:List Int):Int:=as.getLast?.getD (-1)
noncomputable def jv(aB:Int)(row:List Int):List Nat:=(lG (cu (Zy row) aB row.length).2 row.length (qS (cu (Zy row) aB row.length).2)).reverse
theorem KC(again:List Int)(aB:Int)(n:Nat): -1<=qS (cu again aB n).2/\qS (cu again aB n).2<n:=by
 unfold qS;cases n with
 |zero=>exact(aaP _,(by show(-1:Int)<0;decide),)
 |succ n=>
  unfold cu;rw[ahI];have:=LU again (cu again aB n).1 n;show -1<=(jx again (cu again aB n).1 n).2/\(jx again (cu again aB n).1 n).2<((n+1:Nat):Int);lia
theorem uH{as:List Int}{n:Nat}(h:∀i,i<n->as.getD i (-1)<(i:Int)):∀(f:Nat)(m:Int),m<n->∀x∈lG as f m,(x:Int)<=m
 |0,_,_,x,hx=>nomatch hx
 |f+1,m,hm,x,hx=>by
  unfold lG at hx;by_cases c:0<=m
  .rw [ahF c]at hx;rcases aPx.mp hx with e|hx
   .lia
   .have q:=h m.toNat 7;have:=uH h f _ 7 x hx;lia
  .rw [aah c]at hx;cases hx
theorem m6(aB:Int)(row:List Int):∀x∈jv aB row,x<row.length:=λx hx=>by
 unfold jv at hx;have q:=KC (Zy row) aB row.length;have:=uH (λi hi=>(HA (Zy row) aB row.length i hi).2) _ _ q.2 x (List.mem_reverse.mp hx);lia
theorem KA(as:List Int):∀(f:Nat)(m:Int),(lG as f m).length<=f
 |0,_=>bbI _
 |f+1,m=>by
  unfold lG;split
  .rw [acz];have:=KA as f (as.getD m.toNat (-1));lia
  .exact agn _
theorem Kz(aB:Int)(row:List Int):(jv aB row).length<=row.length:=by
 unfold jv;rw[ahC];exact KA ..
inductive Cq(K:W.Frag)(vs:List V)(H:Hp)(Q:VK)(E:XK):Prop
 |mk (ag co:Addr) (again az:List Int) (n:Nat):vs=[.ref ag,.ref co,.int (n:Int)]->H ag=!(.lst (again.map V.int))->H co=!(.lst (az.map V.int))->n<=again.length->n<=az.length->n<=400->(∀(p:Addr)(H':Hp),ak H H'->H' p=!(.tup [.int (jx again az n).1,.int (jx again az n).2])->Q (.ref p) H')->Cq K vs H Q E
def pJ(G:Hp)(l:Addr)(ps:List (Int×Int)):Prop:=∃aq:List Addr,G l=!(.lst (aq.map V.ref))/\aq.length=ps.length/\∀(k:Nat)(ad:Addr)(p:Int×Int),aq[k]?=!ad->ps[k]?=!p->G ad=!(.tup [.int p.1,.int p.2])
theorem pJ.push{G:Hp}{l q:Addr}{ps:List (Int×Int)}{p:Int×Int}(h:pJ G l ps)(hq:G q=!(.tup [.int p.1,.int p.2])){aq:List Addr}(e:G l=!(.lst (aq.map V.ref))):pJ (upd G l (.lst (aq.map V.ref++[.ref q]))) l (ps++[p]):=by
 let(as,r1,r2,r3,):=h;have ea:aq.map V.ref=as.map V.ref:=by rw[r1]at e;exact(HO.lst.inj (aFB e)).symm
 refine(as++[q],by rw[Za,ea,aP2];rfl,by rw[a96,a96,r2];rfl,λk ad p' h1 h2=>?_,);by_cases ck:k<as.length
 .rw [ah8 ck]at h1;rw[ah8 7]at h2;have q3:=r3 k ad p' h1 h2;rw[Zg (λz=>by rw[z,r1]at q3;cases q3)];exact q3
 .rw [a9d 7]at h1;rw[a9d 7,<-r2]at h2;cases ek:k-as.length with
  |zero=>
   rw[ek]at h1 h2;cases h1;cases h2;rw[Zg (λz=>by rw[z,r1]at hq;cases hq)];exact hq
  |succ n=>rw[ek]at h1;simp at h1
theorem pJ.same{G G':Hp}{l:Addr}{ps:List (Int×Int)}(h:pJ G l ps)(s:ak G G'):pJ G' l ps:=by
 let(as,r1,r2,r3,):=h;exact(as,s _ _ r1,r2,λk ad p h1 h2=>s _ _ (r3 k ad p h1 h2),)
example:(fL CS):=by
 let(ag,co,again,az,n,rfl,hA,hC,l1,l2,hn,k,):=h;refine(_,(Zf (aY 3 nd Zh)
   (Zf (aY 4 nd (Zv Zc))
   (Zf (nZ aDP 8 (Qt 8 T.nR (pc (aa lJ (pv 2) Zh) (pc (bN nv Zh) (pc (bN nv Zh) Zc)))) (bu 05 nd) (Zf (aF (Zq xZ (av (Zo (K:=K) 8) (pv 0) (pv 05) (λ_ _=>8)) (pv 2) (Zu _)) (Zj (K2 (i:=3) nd 8 (by first|exact Or.inl 8|exact Or.inr 8) Zh Oz)) Zw)
   (Zj (ZC (lI (K:=K) 8 (bK aTF aMf aUV ZD (pv 4) (pc (nY (pc (aa ZB (av (Zo (K:=K) 8) (pv 1) (pv 05) (λ_ _=>8)) (pv 3)) (pc (pv 05) Zc))) Zc)))))))
   (Zf (ZC (lI (K:=K) 8 (bK aTF aMf aUV ZD (pv 4) (pc (nY (pc (pv 3) (pc (bN nv Zh) Zc))) Zc))))
   (Zj (Zr (Zl (Yt 8 hu 8) 8 T.Fv PB (pc (pv 4) Zc)))))))),?_,)
 refine gN ((sL 0),λlc nU=>gN ?_,);have s0:=Zb (H:=H) nU (.lst []);have Vq:∀i,i<again.length->cV (again.map V.int) (i:Int)=!(.int (again.getD i 0)):=λi hi=>ZY (by rw[aGb,aGH,aMp hi];rfl);have atC:∀i,i<az.length->cV (az.map V.int) (i:Int)=!(.int (az.getD i 0)):=λi hi=>ZY (by rw[aGb,aGH,aMp hi];rfl);refine(10765,(7,7,7,7,),Qo (hi:=(n:Int)-1) (n:=((n:Int)-1 - -1).toNat) (λj σ G=>∃(v5:Option V),σ=[!(.ref ag),!(.ref co),!(.int (n:Int)),!(.int (jb again n j:Int)),!(.ref lc),v5]/\pJ G lc ((List.range j).map (Ah again az n))/\ak H G)
  (none,8,([],Za,8,λk ad p h _=>by simp at h,),s0,) ?_ ?_,)
 .rintro j σ G hj ⟨v5,rfl,C,sg⟩;have hj':j<n:=7
  have hz:(n:Int)-1-(j:Int)=((n-1-j:Nat):Int):=7
  rw[hz];refine gN ?_;refine uD (λσ G'=>σ=[!(.ref ag),!(.ref co),!(.int (n:Int)),!(.int (jb again n (j+1):Int)),!(.ref lc),!(.int ((n-1-j:Nat):Int))]/\G'=G) (λD' _ k'=>?_) ?_
  .refine (121,ag,135,ah.of (sg _ _ hA),Vq _ 7,433,?_,);have ws:=P9 again n j;refine ZJ (λc=>?_) (λc=>?_)
   .rw [ahF c]at ws;refine(183,k' _ _ (?_,8,),);rw[ws];rfl
   .rw [aah c]at ws;exact k' _ _ (by rw[ws];rfl,8,)
  rintro _ G' ⟨rfl,rfl⟩;let(as,r1,r2,r3,):=id C;refine(_,8,.inl (8,_,ah.of r1,),121,co,135,ah.of (sg _ _ hC),atC _ 7,433,(sL 2),λq hq=>?_,);have sq:=Zb (H:=G') hq (.tup [V.int (az.getD (n-1-j) 0+(jb again n (j+1):Int)),V.int ((n-1-j:Nat):Int)]);have eq:=Za (H:=G') (a:=q) (o:=.tup [V.int (az.getD (n-1-j) 0+(jb again n (j+1):Int)),V.int ((n-1-j:Nat):Int)]);generalize upd G' q (.tup [V.int (az.getD (n-1-j) 0+(jb again n (j+1):Int)),V.int ((n-1-j:Nat):Int)])=G2 at *;have la:(as.map V.ref).length<=1000:=by rw[ano,r2,ano,ax4];lia
  refine(lc,119,sq _ _ r1,Zk la,(_,8,?_,λx o e=>by rw[Zg (Ze e nU)];exact sq _ _ (sg _ _ e),),);rw[aIe,aP2];exact(C.same sq).push (p:=Ah again az n j) eq (sq _ _ r1)
 .rintro σ G ⟨v5,rfl,C,sg⟩;rw[show((n:Int)-1 - -1).toNat=n by lia]at C ⊢;let(as,r1,r2,r3,):=id C;have la:(as.map V.ref).length<=1000:=by rw[ano,r2,ano,ax4];lia
  refine(_,8,.inl (8,_,ah.of r1,),121,(sL 2),λq hq=>?_,);have sq:=Zb (H:=G) hq (.tup [V.int (jb again n n:Int),V.int (-1)]);have eq:=Za (H:=G) (a:=q) (o:=.tup [V.int (jb again n n:Int),V.int (-1)]);generalize upd G q (.tup [V.int (jb again n n:Int),V.int (-1)])=G2 at *;have P:=(C.same sq).push (p:=((jb again n n:Int),-1)) eq (sq _ _ r1);have sH:ak H (upd G2 lc (.lst (as.map V.ref++[.ref q]))):=λx o e=>by rw[Zg (Ze e nU)];exact sq _ _ (sg _ _ e)
  have eP:(List.range n).map (Ah again az n)++[((jb again n n:Int),-1)]=gq again az n:=8;rw[eP]at P;refine(lc,119,sq _ _ r1,Zk la,?_,);generalize upd G2 lc (.lst (as.map V.ref++[.ref q]))=G3 at *;let(bs,p1,p2,p3,):=P;refine(_,8,lc,bs,(gq again az n).map tM,8,ah.of p1,λz=>?_,by rw[p2,ano],λi a ns h1 h2=>?_,λm a hm ha=>?_,)
  .rw [z,La]at p2;cases p2
  .rw [aGb]at h2;cases e:(gq again az n)[i]? with
   |none=>rw[e]at h2;cases h2
   |some p=>
    rw[e]at h2;cases h2;exact bS.of (p3 i a p h1 e)
  .have em:m=rj (gq again az n):=by rw[hm,p2];rfl
   exact k a G3 sH (p3 m a _ ha (by rw[em];exact Hq ..))
inductive Cp(K:W.Frag)(vs:List V)(H:Hp)(Q:VK)(E:XK):Prop
 |mk (aB:Int) (a:Addr) (row:List Int):vs=[.int aB,.ref a]->ah K H a (row.map V.int)->row.length<=400->(∀(l:Addr)(H':Hp),H l=none->ak H H'->H' l=!(.lst (mV (jv aB row)))->Q (.ref l) H')->Cp K vs H Q E
example:(iK CO tL CS):=by
 let(aB,a,row,rfl,hS,hl,k,):=h;refine(_,(Zf (aY 2 nd (Zm tL hr.m 8 (pc (pv 1) Zc)))
   (Zf (aY 3 nd (Zv Zc))
   (Zf (aY 4 nd (Zv Zc))
   (Zf (nZ aDP 8 (ZX 8 T.nR (pc (Zl (Zn (K:=K) 8) 8 T.dw arj (pc (pv 1) Zc)) Zc)) (bu 05 nd) (Zf (uN (Zm CS hr.m 8 (pc (pv 2) (pc (pv 3) (pc (pv 05) Zc)))) (ZR (K:=K) (n:=2) 8 8 (Zs (bu 06 nd) (Zs (bu 07 nd) ZQ))))
   (Zf (ZC (lI (K:=K) 8 (bK aTF aMf aUV ZD (pv 3) (pc (aa ZB (pv 06) (pv 0)) Zc))))
   (Zj (ZC (lI (K:=K) 8 (bK aTF aMf aUV ZD (pv 4) (pc (pv 07) Zc))))))))
   (Zf (aY 08 nd (Zv Zc))
   (Zf (aY 09 nd (uM (Yg (pv 4) (λ_=>8)) (av (Zo (K:=K) 8) (pv 4) (bN nv Zh) (λ_ _=>8)) (bN nv Zh)))
   (Zf (Yi aDP (Zq mJ (pv 09) Zh (Zu _)) (Zf (ZC (lI (K:=K) 8 (bK aTF aMf aUV ZD (pv 08) (pc (pv 09) Zc))))
   (Zj (aY 09 nd (av (Zo (K:=K) 8) (pv 4) (pv 09) (λ_ _=>8))))))
   (Zj (Zr (Hw (K:=K) 8 (pv 08) ZI ZI (ZE (bN nv Zh)))))))))))),?_,)
 refine(_,8,a,row,8,hS,hl,λlg H1 vh s1 e1=>gN ((sL 0),λlc nU=>gN ((sL 0),λla hla=>gN ?_,),),);have s2:=(Zb (H:=H1) nU (.lst [])).trans (Zb hla (.lst []));have ec:upd (upd H1 lc (.lst [])) la (.lst []) lc=!(.lst []):=Zb hla _ _ _ Za;have ea:upd (upd H1 lc (.lst [])) la (.lst []) la=!(.lst []):=Za;have JI:H1 la=none:=(Zb (H:=H1) nU (.lst [])).free hla;have MP:lc≠la:=Ze (Za (H:=H1) (a:=lc) (o:=.lst [])) hla;generalize upd (upd H1 lc (.lst [])) la (.lst [])=H2 at *;have lA:=Hy row;have lR:(row.map V.int).length=row.length:=ano ..;refine(_,8,a,_,8,.inl ((s1.trans s2).seq hS),_,8,7,7,EU (lo:=0) (n:=(((row.map V.int).length:Nat):Int).toNat) (λi σ G=>∃(v5 v6 v7:Option V),σ=[!(.int aB),!(.ref a),!(.ref lg),!(.ref lc),!(.ref la),v5,v6,v7,none,none]/\G lc=!(.lst ((cu (Zy row) aB i).1.map V.int))/\G la=!(.lst ((cu (Zy row) aB i).2.map V.int))/\ak H1 G)
  (none,none,none,8,ec,ea,s2,) ?_ ?_,)
 .rintro i σ G hi ⟨v5,v6,v7,rfl,g1,g2,sg⟩;have hi':i<row.length:=by rw[lR]at hi;lia
  let(d1,d2,):=En (Zy row) aB i;rw[Int.zero_add];refine gN (185,lg,lc,Zy row,(cu (Zy row) aB i).1,i,8,sg _ _ e1,g1,7,7,7,λp G1 t1 ep=>(p,_,8,bS.of ep,125,gN (109,gN (8,?_,),),),);have yr:=t1 _ _ g1;have Ad:=t1 _ _ g2;refine(_,8,.inl (8,_,ah.of yr,),439,lc,119,yr,Zk (by rw[ano,d1];lia),?_,);have DV:upd G1 lc (.lst ((cu (Zy row) aB i).1.map V.int++[V.int ((jx (Zy row) (cu (Zy row) aB i).1 i).1+aB)])) la=!(.lst ((cu (Zy row) aB i).2.map V.int)):=by rw[Zg (aUP MP)];exact Ad
  refine(_,8,.inl (8,_,ah.of DV,),_,8,la,119,DV,Zk (by rw[ano,d2];lia),(117,?_,?_,λx o e=>?_,),)
  .rw [Zg MP,Za,N3,aP2];rfl
  .rw [Za,KD,aP2];rfl
  .rw [Zg (Ze e JI),Zg (Ze e nU)];exact t1 _ _ (sg _ _ e)
 .rintro σ G ⟨v5,v6,v7,rfl,g1,g2,sg⟩;rw[show(((row.map V.int).length:Nat):Int).toNat=row.length by rw[lR];rfl]at g1 g2;have dl:=(En (Zy row) aB row.length).2;have da:=HA (Zy row) aB row.length;have dm:=KC (Zy row) aB row.length;have rP:(lG (cu (Zy row) aB row.length).2 row.length (qS (cu (Zy row) aB row.length).2)).reverse=jv aB row:=8;generalize(cu (Zy row) aB row.length).2=as at *;refine((sL 0),λlm uh=>gN ?_,);have s3:=Zb (H:=G) uh (.lst []);have e3:upd G lm (.lst []) lm=!(.lst []):=Za;have DK:H1 lm=none:=sg.free uh;generalize upd G lm (.lst [])=G1 at *;have Ad:=s3 _ _ g2;have Sy:=sg.trans s3;have Tn:lm≠la:=λz=>by rw[z,g2]at uh;cases uh
  clear g1 g2 s3 uh sg;dsimp only;refine yD (λv G=>v=.int (qS as)/\G=G1) (λQ' k'=>?_) ?_
  .refine (110,.inl (_,ah.of Ad,8,),?_,);by_cases c:as=[]
   .subst c;exact aQ 8 (_,8,k' _ _ (8,8,),)
   .have ea:as=as.dropLast++[as.getLast c]:=(List.dropLast_concat_getLast c).symm;have em:qS as=as.getLast c:=by unfold qS;rw[List.getLast?_eq_some_getLast c];rfl
    refine aO (by cases as with|nil=>exact absurd 8 c|cons _ _=>rfl) (121,la,135,ah.of Ad,?_,k' _ _ (by rw[em],8,),)
    conv=>lhs;rw[ea,aP2]
    exact PL _ _
  rintro _ G2 ⟨rfl,rfl⟩;have tl:=KA as row.length (qS as);generalize hTT:lG as row.length (qS as)=TT at *;refine gN (λm σ G=>∃(mark:Int)(dn:List Nat)(fu:Nat),m=(mark+1).toNat/\σ=[!(.int aB),!(.ref a),!(.ref lg),!(.ref lc),!(.ref la),v5,v6,v7,!(.ref lm),!(.int mark)] /\ -1<=mark/\mark<fu/\mark<row.length/\dn++lG as fu mark=TT/\G lm=!(.lst (mV dn))/\G la=!(.lst (as.map V.int))/\ak H1 G,(_,qS as,[],row.length,8,8,dm.1,dm.2,dm.2,hTT,e3,Ad,Sy,),?_,);rintro m σ G ⟨mark,dn,fu,rfl,rfl,m1,m2,m3,hT,el,Vd,sG⟩;have ld:dn.length<=row.length:=by
   have:=aFH List.length hT;rw[a96]at this;lia
  refine(433,?_,);by_cases c:0<=mark
  .refine aO (anN c) (λσ G=>∃(fN:Int)(dn:List Nat)(fu:Nat),fN<mark/\σ=[!(.int aB),!(.ref a),!(.ref lg),!(.ref lc),!(.ref la),v5,v6,v7,!(.ref lm),!(.int fN)] /\ -1<=fN/\fN<fu/\fN<row.length/\dn++lG as fu fN=TT/\G lm=!(.lst (mV dn))/\G la=!(.lst (as.map V.int))/\ak H1 G,λσ' G' w9=>by let(fN,dn,fu,q1,q2,q3,q4,):=w9;exact((fN+1).toNat,7,fN,dn,fu,8,q2,q3,q4,),?_,);obtain⟨f',rfl⟩:∃f',fu=f'+1:=(fu-1,7,);have hat:cV (as.map V.int) mark=!(.int (as.getD mark.toNat (-1))):=by
    have q:cV (as.map V.int) ((mark.toNat:Nat):Int)=!(.int (as.getD mark.toNat (-1))):=ZY (by rw[aGb,aGH,aMp 7];rfl);rwa [Int.toNat_of_nonneg c]at q
   have dd:=da mark.toNat 7;refine(_,8,.inl (8,_,ah.of el,),_,8,lm,119,el,Zk (by unfold mV;rw[ano];lia),?_,);have D6:upd G lm (.lst (mV dn++[V.int mark])) la=!(.lst (as.map V.int)):=by rw[Zg (aUP Tn)];exact Vd
   refine(121,la,135,ah.of D6,hat,gN (_,dn++[mark.toNat],f',7,8,dd.1,7,7,?_,?_,D6,λx o e=>by rw[Zg (Ze e DK)];exact sG _ _ e,),)
   .rw [<-hT,bd0];congr 1
    rw[Ho,ahF c];rfl
   .rw [Za,yG];show _=!(HO.lst (mV dn++[V.int ((mark.toNat:Nat):Int)]));rw[Int.toNat_of_nonneg c]
  .refine aQ (alG c) ?_;have e0:lG as fu mark=[]:=by
    cases fu with
    |zero=>rfl
    |succ f=>unfold lG;rw[aah c]
   rw[e0,aZr]at hT;subst hT;refine(_,8,1,113,lm,_,8,ah.of el,9,?_,λp hp=>?_,)
   .rw [yL,ahC];unfold mV;rw[ano];exact aWE (Zk 7)
   .rw [yL];have e5:(mV dn).reverse=mV (jv aB row):=by rw[<-rP];unfold mV;rw[List.map_reverse]
    rw[e5];exact k p _ (s1.free (sG.free hp)) ((s1.trans sG).trans (Zb hp _)) Za
noncomputable def aV(sh:Int)(row:List Int)(s:Int):List Int:=(br sh row row.length s).map λi=>row.getD i 0
noncomputable def lE(sh pl:Int)(row:List Int)(s:Int):List Nat:=(jv (pl-1) (aV sh row s)).map λx=>(br sh row row.length s).getD x 0
noncomputable def iS(sh pl:Int)(row:List Int):List Nat:=(fh sh row).flatMap (lE sh pl row)
theorem EI{sh pl:Int}{row:List Int}{s:Int}{x:Nat}(h:x∈lE sh pl row s):x<row.length/\row.getD x 0%sh=s:=by
 let(y,hy,rfl,):=aFN.mp h;have l:=m6 _ _ y hy;unfold aV at l;rw[ano]at l;have m:(br sh row row.length s).getD y 0∈br sh row row.length s:=by rw[aGH,aMp l];exact apl l
 let(h1,h2,):=aCR.mp m;exact(aOW.mp h1,adw h2,)
theorem OM(sh:Int)(row:List Int):∀(ks:List Int),ks.Nodup->∀n,(ks.map λs=>(br sh row n s).length).sum<=n
 |ks,nd,0=>by
  have:(ks.map λs=>(br sh row 0 s).length).sum=0:=by
   induction ks with
   |nil=>rfl
   |cons s ks ih=>rw[aQv,aBC,ih (aZf.mp nd).2];rfl
  lia
 |ks,nd,n+1=>by
  have ih:=OM sh row ks nd n;have key:∀ks:List Int,ks.Nodup->(ks.map λs=>(br sh row (n+1) s).length).sum<=(ks.map λs=>(br sh row n s).length).sum+(if row.getD n 0%sh∈ks then 1 else 0):=by
   intro ks
   induction ks with
   |nil=>intro _;exact agn _
   |cons s ks ih=>
    intro nd;let(n1,n2,):=aZf.mp nd;have:=ih n2;rw[aQv,aQv,aBC,aBC,HB,a96];by_cases c:row.getD n 0%sh=s
    .rw [ahF c,ahF (by rw[c];exact anL)];rw[aah (by rw[c];exact n1)]at this;show _+1+_<=_;lia
    .rw [aah c];by_cases c2:row.getD n 0%sh∈ks
     .rw [ahF c2]at this;rw[ahF (aq4 _ c2)];show _+0+_<=_;lia
     .rw [aah c2]at this;show _+0+_<=_;lia
  have:=key ks nd;split at this <;> lia
theorem K9{sh pl:Int}{row:List Int}(ks:List Int)(nd:ks.Nodup):(ks.flatMap (lE sh pl row)).length<=row.length:=by
 refine bbd ?_ (OM sh row ks nd row.length);clear nd
 induction ks with
 |nil=>exact bbI _
 |cons s ks ih=>
  rw[List.flatMap_cons,a96,aQv,aBC];have:(lE sh pl row s).length<=(br sh row row.length s).length:=by
   unfold lE;rw[ano];refine bbd (Kz ..) ?_;unfold aV;rw[ano];exact bbI _
  lia
theorem XT:∀{os:List Int}{ns:List Nat},os.Perm (ns.map λm:Nat=>(m:Int))->os=(os.map Int.toNat).map λm:Nat=>(m:Int):=λ{os ns} h=>by
 rw[ba6]
 conv=>lhs;rw[<-map_id os]
 refine aPW λx hx=>?_;let(m,_,e,):=aFN.mp (h.mem_iff.mp hx);show x=((x.toNat:Nat):Int);lia
inductive sI(K:W.Frag)(vs:List V)(H:Hp)(Q:VK)(E:XK):Prop
 |mk (sh pl:Int) (a:Addr) (row:List Int):vs=[.int sh,.int pl,.ref a]->ah K H a (row.map V.int)->1<=sh->row.length<=400->(∀(l:Addr)(H':Hp)(os:List Nat),H l=none->ak H H'->H' l=!(.lst (mV os))->os.Perm (iS sh pl row)->os.Pairwise (·<=·)->Q (.ref l) H')->sI K vs H Q E
example:(mL kB CT CO):=by
 let(sh,pl,a,row,rfl,hS,hs0,hl,k,):=h;refine(_,(Zf (aY 3 nd (Zv Zc))
   (Zf (nZ aDP 8 (Xj (Zm CT hr.m 8 (pc (pv 0) (pc (pv 2) Zc)))) (bu 4 nd) (Zf (EO 05 (Zx (bQ:=(Zp cY)) (oN:=iX) (N:=["spot","row"]) (own:=1) (js:=[2]) 6 8 8) 8 nd 8 8 (ZF (K:=K) 8 (pv 4)) (λ_ _ _ _ _ _=>(bu 0 (show List.Nodup (["spot","row"]:List Str) by decide +kernel))) (λ_ _ _ _ _ _=>(av (Zo (K:=K) 8) (pv 1) (pv 0) (λ_ _=>8))))
   (Zj (K2 (i:=3) nd 8 (by first|exact Or.inl 8|exact Or.inr 8) (rA (Zx (bQ:=(Zp cY)) (oN:=iX) (N:=["at","spots"]) (own:=1) (js:=[4]) 6 8 8) 8 (ZF (K:=K) 8 (Zm CO hr.m 8 (pc (aa lJ (pv 1) Zh) (pc (pv 05) Zc)))) (λ_ _ _ _ _ _=>(bu 0 (show List.Nodup (["at","spots"]:List Str) by decide +kernel))) (λ_ _ _ _ _ _=>(av (Zo (K:=K) 8) (pv 1) (pv 0) (λ_ _=>8)))) VL))))
   (Zj (Zr (Zl (Q6 (K:=K) 8) 8 T.BS PyProof.Rows.boot_sorted (pc (pv 3) Zc)))))),?_,)
 refine((sL 0),λlm rP=>gN ?_,);have s0:=Zb (H:=H) rP (.lst []);have e0:upd H lm (.lst []) lm=!(.lst []):=Za;generalize upd H lm (.lst [])=H0 at *;refine(121,sh,a,row,8,s0.seq hS,hs0,hl,λd H1 L hd s1 B nw=>(d,_,8,B.top,λo=>?_,),);let(k1,k2,k3,):=Ao sh row row.length (bbI _);rw[aXW]at k1 k2 k3;have bk:=B.ks;rw[aXW]at bk;have fz:∀x o',H1 x=!o'->x≠d->upd H1 d (.bH o (.dK (L.map lD))) x=!o':=λx o' e n=>by rw[Zg n];exact e
 have sF:ak H (upd H1 d (.bH o (.dK (L.map lD)))):=λx o' e=>fz x o' (s1 _ _ (s0 _ _ e)) (Ze (s0 _ _ e) hd);have MJ:lm≠d:=Ze e0 hd;have em:upd H1 d (.bH o (.dK (L.map lD))) lm=!(.lst []):=fz _ _ (s1 _ _ e0) MJ;have el:∀p∈L,upd H1 d (.bH o (.dK (L.map lD))) p.2=!(.lst (mV (br sh row row.length p.1))):=λp hp=>fz _ _ (B.at' p hp) λz=>by
  have h:=B.at' p hp;rw[z,B.top]at h;cases h
 have ed:upd H1 d (.bH o (.dK (L.map lD))) d=!(.bH o (.dK (L.map lD))):=Za;have Dg:∀p∈L,p.2≠lm:=λp hp z=>by
  have h:=nw p hp;rw[z,e0]at h;cases h
 generalize upd H1 d (.bH o (.dK (L.map lD)))=H2 at *;refine YH (d:=d) (o:=o) (kvs:=L.map lD) (λi σ G=>∃(v4 v5:Option V),σ=[!(.int sh),!(.int pl),!(.ref a),!(.ref lm),v4,v5]/\G lm=!(.lst (mV (((fh sh row).take i).flatMap (lE sh pl row))))/\∀x o',H2 x=!o'->x≠lm->G x=!o')
  (none,none,8,em,λx o' e _=>e,) (λi σ G _ w9=>by let(_,_,_,_,s,):=w9;exact s _ _ ed (aUP MJ)) ?_ ?_
 .rintro i k' v σ G hkv ⟨v4,v5,rfl,gm,sg⟩;rw[aGb]at hkv;cases eL:L[i]? with
  |none=>rw[eL]at hkv;cases hkv
  |some p=>
   rw[eL]at hkv;cases hkv;have hp:=aE5 eL;have ei:(fh sh row)[i]?=!p.1:=by rw[<-bk,aGb,eL];rfl
   have gp:=sg _ _ (el p hp) (Dg p hp);have FG:ak H G:=λx o' e=>sg _ _ (sF _ _ e) (Ze e rP);let(s,ad,):=p;dsimp only[lD]at *;refine gN (_,8,ad,8,(_,ah.of gp,),λla hla=>?_,);have Sn:∀x∈br sh row row.length s,x<row.length:=λx hx=>aOW.mp (aCR.mp hx).1;have lsp:(br sh row row.length s).length<=row.length:=by have:=ON sh row row.length s;unfold mV at this;rwa [ano]at this
   have at':∀x,x<row.length->cV (row.map V.int) (x:Int)=!(.int (row.getD x 0)):=λx hx=>ZY (by rw[aGb,aGH,aMp hx];rfl);have ask:aV sh row s=(br sh row row.length s).map λi=>row.getD i 0:=8;have TQ:lE sh pl row s=(jv (pl-1) (aV sh row s)).map λx=>(br sh row row.length s).getD x 0:=8;have T9:=m6 (pl-1) (aV sh row s);have lmn:=Kz (pl-1) (aV sh row s);have Ua:(aV sh row s).length=(br sh row row.length s).length:=by rw[ask,ano]
   have Ml:(fh sh row).take (i+1)=(fh sh row).take i++[s]:=by rw[a8b,ei];rfl
   have Ef:=K9 (sh:=sh) (pl:=pl) (row:=row) ((fh sh row).take (i+1)) (k1.sublist (List.take_sublist ..));rw[Ml,List.flatMap_append,a96]at Ef;have DY:[s].flatMap (lE sh pl row)=lE sh pl row s:=5
   rw[DY]at Ef;generalize br sh row row.length s=sp at *;have lV:(mV sp).length=sp.length:=ano ..;have TY:∀{j:Nat}{x:V},(mV sp)[j]?=!x->∃y,sp[j]?=!y/\x=.int (y:Int):=λ{j x} h=>by
    unfold mV at h;rw[aGb]at h;cases e:sp[j]? with
    |none=>rw[e]at h;cases h
    |some y=>rw[e]at h;exact(y,8,(aFB h).symm,)
   refine ZA (K:=K) (a:=ad) (xs:=mV sp) (l:=la) (λj ys σ' G'=>∃(v0:Option V),σ'=[v0,!(.ref a)]/\ys=((sp.take j).map λi=>row.getD i 0).map V.int/\G'=upd G la (.lst ys))
    (none,115,) (λj ys σ' G' _ w9=>by let(_,_,_,q,):=w9;exact ah.of (by rw[q,Zg (Ze gp hla)];exact gp)) ?_ ?_
   .rintro j x ys σ' G' hj dS hys ⟨v0,rfl,rfl,rfl⟩;let(y,ey,rfl,):=TY dS;refine(121,a,135,(FG.trans (Zb hla _)).seq hS,at' y (Sn y (aE5 ey)),dh.of (by rw[lV];exact aWE (Zk 7)) hj hys Za (_,8,?_,rq,),);rw[a8b,ey];simp
   rintro ys σ' G' _ ⟨v0,rfl,rfl,rfl⟩;rw[lV,aXW,<-ask];have s2:=Zb (H:=G) hla (.lst ((aV sh row s).map V.int));have ea:upd G la (.lst ((aV sh row s).map V.int)) la=!(.lst ((aV sh row s).map V.int)):=Za;generalize upd G la (.lst ((aV sh row s).map V.int))=G1 at *;have Np:=s2 _ _ gm;refine gN (1457,pl-1,la,aV sh row s,8,ah.of ea,7,λlb G2 hlb t2 eb=>(lb,8,(_,ah.of eb,),λlz qc=>?_,),);have lW:(mV (jv (pl-1) (aV sh row s))).length=(jv (pl-1) (aV sh row s)).length:=ano ..;generalize jv (pl-1) (aV sh row s)=bs at *;have TZ:∀{j:Nat}{x:V},(mV bs)[j]?=!x->∃y,bs[j]?=!y/\x=.int (y:Int):=λ{j x} h=>by
    unfold mV at h;rw[aGb]at h;cases e:bs[j]? with
    |none=>rw[e]at h;cases h
    |some y=>rw[e]at h;exact(y,8,(aFB h).symm,)
   have UY:=t2 _ _ (s2 _ _ gp);refine ZA (K:=K) (a:=lb) (xs:=mV bs) (l:=lz) (λj ys σ' G'=>∃(v0:Option V),σ'=[v0,!(.ref ad)]/\ys=mV ((bs.take j).map λx=>sp.getD x 0)/\G'=upd G2 lz (.lst ys))
    (none,115,) (λj ys σ' G' _ w9=>by let(_,_,_,q,):=w9;exact ah.of (by rw[q,Zg (Ze eb qc)];exact eb)) ?_ ?_
   .rintro j x ys σ' G' hj dS hys ⟨v0,rfl,rfl,rfl⟩;let(y,ey,rfl,):=TZ dS;have ly:y<sp.length:=by rw[<-Ua];exact T9 y (aE5 ey)
    refine(121,ad,135,ah.of (Zb qc _ _ _ UY),ZY (xs:=mV sp) (v:=.int ((sp.getD y 0:Nat):Int)) (by unfold mV;rw[aGb,aGH,aMp ly];rfl),dh.of (by rw[lW];exact aWE (Zk 7)) hj hys Za (_,8,?_,rq,),);rw[a8b,ey,aP2,yG];rfl
   rintro ys σ' G' _ ⟨v0,rfl,rfl,rfl⟩;rw[lW,aXW,<-TQ];have s3:=Zb (H:=G2) qc (.lst (mV (lE sh pl row s)));have ez:upd G2 lz (.lst (mV (lE sh pl row s))) lz=!(.lst (mV (lE sh pl row s))):=Za;have hzm:lm≠lz:=Ze (t2 _ _ Np) qc;generalize upd G2 lz (.lst (mV (lE sh pl row s)))=G3 at *;have UZ:=s3 _ _ (t2 _ _ Np);refine(lm,lz,119,UZ,ez,?_,(109,?_,λx o' e n=>?_,),)
   .unfold mV;rw[ano,ano];exact aWE (Zk 7)
   .rw [Za,Ml,List.flatMap_append,DY,yG]
   .rw [Zg n];exact s3 _ _ (t2 _ _ (s2 _ _ (sg _ _ e n)))
 .rintro σ G ⟨v4,v5,rfl,gm,sg⟩;have lL:(L.map lD).length=(fh sh row).length:=by rw[ano,<-bk,ano]
  rw[lL,aXW]at gm;have cl:=K9 (sh:=sh) (pl:=pl) (row:=row) (fh sh row) k1;have e9:(fh sh row).flatMap (lE sh pl row)=iS sh pl row:=8;rw[e9]at gm cl;have FG:ak H G:=λx o' e=>sg _ _ (sF _ _ e) (Ze e rP);have U0:G lm=!(.lst (((iS sh pl row).map λm:Nat=>(m:Int)).map V.int)):=by rw[gm,ba6];rfl
  refine(_,8,lm,_,8,ah.of U0,by rw[ano];lia,λD os hD hp hw=>?_,);have eo:=XT hp;have hp2:(os.map Int.toNat).Perm (iS sh pl row):=by
   have q:=hp.map Int.toNat;rw[ba6]at q;refine q.trans (List.Perm.of_eq ?_)
   conv=>rhs;rw[<-map_id (iS sh pl row)]
   exact aPW λx _=>8
  refine k D _ (os.map Int.toNat) (FG.free hD) (FG.trans (Zb hD _)) ?_ hp2 ?_
  .rw [Za]
   conv=>lhs;rw[eo]
   rw[ba6];rfl
  .rw [List.pairwise_map];exact hw.imp λ{a b} h=>7
theorem P8(f:Nat->List Int):∀k,argBest (λi j=>HT.lexLt (f i) (f j)) k<=k/\∀j,j<=k->HT.lexLt (f j) (f (argBest (λi j=>HT.lexLt (f i) (f j)) k))=false
 | 0=>(bbI _,λj hj=>by
   have:j=0:=7
   subst this;exact Aq _,)
 |k+1=>by
  let(h1,h2,):=P8 f k;unfold argBest;by_cases c:HT.lexLt (f (k+1)) (f (argBest (λi j=>HT.lexLt (f i) (f j)) k))=true
  .rw [ahF c];refine(bbI _,λj hj=>?_,);by_cases e:j=k+1
   .subst e;exact Aq _
   .cases q:HT.lexLt (f j) (f (k+1)) with
    |false=>rfl
    |true=>
     have:=Hu q c;rw[h2 j 7]at this;cases this
  .rw [aah c];refine(7,λj hj=>?_,);by_cases e:j=k+1
   .subst e;simpa using c
   .exact h2 j 7
theorem OL{again az:List Int}{n:Nat}{p:Int×Int}(h:p∈gq again az n):(jx again az n).1<=p.1:=by
 let(j,hj,rfl,):=akv h;have hm:=Hq again az n;have bl:=N4 (l:=gq again az n) (by rw[La];lia);have at':∀i (h:i<(gq again az n).length),((gq again az n).map tM).getD i []=tM (gq again az n)[i]:=λi h=>by
  rw[aGH,aGb,aMp h];rfl
 have q:=(P8 (λi=>((gq again az n).map tM).getD i []) ((gq again az n).length-1)).2 j 7;have e:argBest (λi j=>HT.lexLt (((gq again az n).map tM).getD i []) (((gq again az n).map tM).getD j [])) ((gq again az n).length-1)=rj (gq again az n):=8;rw[e,at' j hj,at' _ bl]at q;rw[aMp bl]at hm;rw[aFB hm]at q;unfold tM at q;rw[HT.aP]at q;by_cases c:(gq again az n)[j].1=(jx again az n).1
 .lia
 .rw [aah c]at q;have:=of_decide_eq_false q;lia
noncomputable def Mn(again:List Int)(aB:Int)(i:Nat):Int:=(jx again (cu again aB i).1 i).1
noncomputable def An(again:List Int)(aB:Int)(i:Nat):Int:=(jx again (cu again aB i).1 i).2
theorem qi(again:List Int)(aB:Int):∀n i,i<n->(cu again aB n).1.getD i 0=Mn again aB i+aB/\(cu again aB n).2.getD i (-1)=An again aB i
 |0,i,h=>7
 |n+1,i,h=>by
  let(l1,l2,):=En again aB n;rw[N3,KD,aGH,aGH];by_cases c:i<n
  .rw [ah8 7,ah8 7,<-aGH,<-aGH];exact qi again aB n i c
  .have e:i=n:=7
   subst e;rw[a9d 7,a9d 7,l1,l2,aNJ];exact(8,8,)
noncomputable def kQ(again:List Int)(aB:Int):List Nat->Nat->Int
 | [],n=>(jb again n n:Int)
 |x ::l,n=>(jb again n (n-x):Int)+aB+kQ again aB l x
noncomputable def xr:List Nat->Nat->Prop
 | [],_=>True
 |x ::l,n=>x<n/\xr l x
theorem Ko{again:List Int}{aB:Int}{n x:Nat}(h:x<n):((Mn again aB x+aB+(jb again n (n-x):Int)),(x:Int))∈gq again (cu again aB n).1 n:=by
 unfold gq;refine aqT _ (aFN.mpr (n-1-x,aOW.mpr 7,?_,));unfold Ah;rw[show n-1-(n-1-x)=x by lia,show n-1-x+1=n-x by lia,(qi again aB n x h).1]
theorem OJ{again:List Int}{aB:Int}:∀(l:List Nat)(n:Nat),xr l n->Mn again aB n<=kQ again aB l n
 | [],n,_=>OL (p:=((jb again n n:Int),-1)) (aEK _ (aOT.mpr 8))
 |x ::l,n,(h1,h2,)=>by
  have a:=OJ l x h2 (again:=again) (aB:=aB);have b:Mn again aB n<=_:=OL (Ko (again:=again) (aB:=aB) h1);unfold kQ;dsimp only at b;lia
theorem VC{again:List Int}{aB:Int}{N:Nat}:∀(n:Nat),n<N->∀f,n<=f->Mn again aB n=kQ again aB (lG (cu again aB N).2 f (An again aB n)) n/\xr (lG (cu again aB N).2 f (An again aB n)) n:=by
 intro n
 induction n using Nat.strongRecOn with
 |ind n ih=>
  intro hN f hf;have hm:=aE5 (Hq again (cu again aB n).1 n);have hA:=LU again (cu again aB n).1 n;have eM:Mn again aB n=(jx again (cu again aB n).1 n).1:=8;have eA:An again aB n=(jx again (cu again aB n).1 n).2:=8;generalize jx again (cu again aB n).1 n=p at *;unfold gq at hm;rcases a6S.mp hm with hm|hm
  .let(d,hd,rfl,):=aFN.mp hm;have hd:=aOW.mp hd;unfold Ah at eM eA;dsimp only at eM eA;obtain⟨x,ex⟩:∃x,x=n-1-d:=(_,8,);rw[<-ex]at eM eA;have hx:x<n:=7
   rw[eA];obtain⟨f',rfl⟩:∃f',f=f'+1:=(f-1,7,);rw[Ho,ahF 7,show((x:Int)).toNat=x from rfl,(qi again aB N x 7).2];let(i1,i2,):=ih x hx 7 f' 7;refine(?_,hx,i2,);unfold kQ;rw[eM,(qi again aB n x hx).1,show d+1=n-x by lia,<-i1];lia
  .rw [aOT.mp hm]at eM eA;rw[eA,eM];have e0:lG (cu again aB N).2 f (-1)=[]:=by
    cases f with
    |zero=>rfl
    |succ f=>rw[Ho,aah 9]
   rw[e0];exact(8,trivial,)
theorem Mm{q:Nat->Bool}:∀{n t:Nat},t<n->(List.range n).countP (λi=>decide (t<=i) && q i)=(List.range n).countP (λi=>decide (t+1<=i) && q i)+(if q t=true then 1 else 0)
 |0,t,h=>7
 |n+1,t,h=>by
  rw[aIe,a8D,a8D,aIX,aIX];by_cases c:t<n
  .rw [Mm c,anN (7:t<=n),anN (7:t+1<=n)];lia
  .have e:t=n:=7
   subst e;have z:∀p:Nat->Bool,(∀i,i<t->p i=false)->(List.range t).countP p=0:=λp hp=>by
    rw[aEh];intro i hi w;rw[hp i (aOW.mp hi)]at w;cases w
   rw[z _ λi hi=>by rw[alG (7:¬t<=i),aNq],z _ λi hi=>by rw[alG (7:¬t+1<=i),aNq],anN (bbI t),alG (7:¬t+1<=t)];simp
theorem cut{p:Nat->Bool}{x:Nat}:∀{n:Nat},x<=n->(List.range n).countP p=(List.range x).countP p+(List.range n).countP (λi=>decide (x<=i) && p i)
 |0,h=>by
  have:x=0:=7
  subst this;rfl
 |n+1,h=>by
  by_cases c:x<=n
  .rw [aIe,a8D,a8D,cut c,aIX,aIX,anN c,aKX];lia
  .have e:x=n+1:=7
   subst e;have:(List.range (n+1)).countP (λi=>decide (n+1<=i) && p i)=0:=by
    rw[aEh];intro i hi w;have:=aOW.mp hi;rw[alG (7:¬n+1<=i)]at w;cases w
   lia
theorem rY{row:List Int}{n:Nat}(hn:n<=row.length):∀k,k<=n->jb (Zy row) n k=(List.range n).countP λi=>decide (n-k<=i) && decide (bF row i<=(n:Int))
 |0,_=>by
  have:(List.range n).countP (λi=>decide (n-0<=i) && decide (bF row i<=(n:Int)))=0:=by
   rw[aEh];intro i hi w;have:=aOW.mp hi;rw[alG (7:¬n-0<=i)]at w;cases w
  rw[this];rfl
 |k+1,h=>by
  have ag:(Zy row).getD (n-1-k) 0=bF row (n-1-k):=by rw[aGH,QB row 7];rfl
  rw[P9,rY hn k 7,ag,show n-(k+1)=n-1-k by lia,Mm (t:=n-1-k) 7,show n-1-k+1=n-k by lia];simp only[auA]
noncomputable def cI(row:List Int)(l:List Nat)(n:Nat):Nat:=(List.range n).countP λi=>decide (bF row i<=(n:Int)) && (not (dG 1 row l i (bF row i).toNat))
theorem uC(row:List Int)(i j m:Nat):bW 1 row i j m=(decide (i<m) && decide (m<j)):=by
 unfold bW;rw[Int.emod_one,Int.emod_one,anN 8,Bool.and_true]
theorem OI{row:List Int}{aB:Int}:∀(l:List Nat)(n:Nat),n<=row.length->xr l n->kQ (Zy row) aB l n=aB*l.length+(cI row l n:Int)
 | [],n,hn,_=>by
  unfold kQ cI;rw[rY hn n (bbI _)];show _=aB*((0:Nat):Int)+_;rw[show(((0:Nat):Int))=0 from rfl,Int.mul_zero,Int.zero_add];congr 2
  funext i
  rw[anN (7:n-n<=i),aKX];show _=(_ && (not ((List.any [] _))));simp
 |x ::l,n,hn,(h1,h2,)=>by
  have ih:=OI (row:=row) (aB:=aB) l x 7 h2;have lt:∀{l:List Nat}{n:Nat},xr l n->∀y∈l,y<n:=by
   intro l
   induction l with
   |nil=>exact λ_ y hy=>nomatch hy
   |cons z l ih=>
    intro n (d1,d2,) y hy;rcases aPx.mp hy with rfl|hy
    .exact d1
    .have:=ih d2 y hy;lia
  have e:cI row (x ::l) n=cI row l x+jb (Zy row) n (n-x):=by
   unfold cI;rw[cut (x:=x) 7,rY hn (n-x) 7,show n-(n-x)=x by lia];congr 1
   .refine aWN λi hi=>?_;have hi:=aOW.mp hi;have ge:=KH (row:=row) (i:=i);have em:dG 1 row (x ::l) i (bF row i).toNat=(bW 1 row i (bF row i).toNat x || dG 1 row l i (bF row i).toNat):=8;rw[em,uC,anN hi,aKX];by_cases c:bF row i<=(x:Int)
    .rw [anN c,anN (7:bF row i<=(n:Int)),alG (7:¬x<(bF row i).toNat)];simp
    .rw [alG c,anN (7:x<(bF row i).toNat)];simp
   .refine aWN λi hi=>?_;by_cases c:x<=i
    .have em:dG 1 row (x ::l) i (bF row i).toNat=false:=by
      unfold dG;rw[any_eq_false];intro y hy w;have:y<=x:=(aPx.mp hy).elim (λz=>7) λz=>by have:=lt h2 y z;lia
      rw[uC,alG (7:¬i<y)]at w;cases w
     rw[em];simp
    .rw [alG c];simp
  unfold kQ;rw[ih,e,acz,Int.natCast_succ,Int.mul_add,Int.mul_one];lia
theorem Zip(sh pl:Int)(row:List Int)(l:List Nat):bB sh pl row l.reverse=bB sh pl row l:=by
 unfold bB;rw[ahC];congr 3
 funext i
 unfold m8 dG;rw[List.any_reverse]
theorem OH{row:List Int}{aB:Int}{l:List Nat}{n:Nat}(hn:row.length=n+1)(h:xr l n):bB 1 (aB+1) row l=kQ (Zy row) aB l n:=by
 rw[OI l n 7 h];unfold bB cI;rw[show aB+1-1=aB by lia];congr 2
 rw[hn,aIe,a8D,aIX];have e:m8 1 row l n=false:=by
  unfold m8;have:bF row n=(row.length:Int):=by unfold bF;exact Hs 7
  rw[alG 7,aNq]
 rw[e,aah aJD,aiv];refine aWN λi _=>?_;unfold m8;rw[show decide (bF row i<(row.length:Int))=decide (bF row i<=(n:Int)) from aq6.mpr 7]
theorem Hx{p:Nat->Bool}:∀n,xr ((List.range n).filter p).reverse n
 |0=>trivial
 |n+1=>by
  rw[aIe,baC,af2,a6U,ajw];have up:∀{l:List Nat}{a b:Nat},a<=b->xr l a->xr l b:=λ{l a b} h d=>by
   cases l with
   |nil=>trivial
   |cons x l=>exact(a5i d.1 h,d.2,)
  split
  .exact (avq _,Hx n,)
  .exact up (aD0 _) (Hx n)
theorem XS{row:List Int}{aB:Int}(hf:0<=aB)(xs:List Nat):bB 1 (aB+1) row (jv aB row)<=bB 1 (aB+1) row xs:=by
 cases hn:row.length with
 |zero=>
  have e0:∀l,bB 1 (aB+1) row l=aB*l.length:=λl=>by
   unfold bB;rw[hn,show aB+1-1=aB by lia];simp
  have:(jv aB row).length=0:=by have:=Kz aB row;lia
  rw[e0,e0,this];show aB*((0:Nat):Int)<=_;rw[show(((0:Nat):Int))=0 from rfl,Int.mul_zero];exact Int.mul_nonneg hf 7
 |succ n=>
  have h1:bB 1 (aB+1) row (jv aB row)=Mn (Zy row) aB n:=by
   unfold jv;rw[Zip];have em:qS (cu (Zy row) aB row.length).2=An (Zy row) aB n:=by
    unfold qS;rw[hn,KD,ahI];rfl
   let(g1,g2,):=VC (again:=Zy row) (aB:=aB) (N:=row.length) n 7 row.length 7;rw[em,OH hn g2,<-g1]
  have h2:=OJ (again:=Zy row) (aB:=aB) _ n (Hx (p:=λi=>decide (i∈xs)) n);rw[<-OH hn (Hx n)]at h2;rw[h1];refine aeM h2 ?_;rw[Zip];unfold bB;have hl:((List.range n).filter λi=>decide (i∈xs)).length<=xs.length:=GS (List.nodup_range.sublist aOg) λx hx=>adw (aCR.mp hx).2;have hm:aB*((((List.range n).filter λi=>decide (i∈xs)).length:Nat):Int)<=aB*(xs.length:Int):=Int.mul_le_mul_of_nonneg_left 7 hf;have hc:(List.range row.length).countP (m8 1 row ((List.range n).filter λi=>decide (i∈xs)))=(List.range row.length).countP (m8 1 row xs):=by
   refine aWN λi hi=>?_;unfold m8;by_cases c:bF row i<(row.length:Int)
   .have ge:=KH (row:=row) (i:=i);have:dG 1 row ((List.range n).filter λi=>decide (i∈xs)) i (bF row i).toNat=dG 1 row xs i (bF row i).toNat:=by
     unfold dG;rw[aeY,a8G,a8G];constructor
     .rintro ⟨x,hx,h⟩;exact(x,adw (aCR.mp hx).2,h,)
     .rintro ⟨x,hx,h⟩;have h':=h;rw[uC]at h';let(_,h3,):=(aEv _ _).mp h';have:=adw h3;exact(x,aCR.mpr (aOW.mpr 7,anN hx,),h,)
    rw[this]
   .rw [alG c];simp
  rw[hc,show aB+1-1=aB by lia];lia
theorem OG{t:Int}{a:Int->Nat}{c:Nat}:∀{ks:List Int},ks.Nodup->t∈ks->(ks.map λs=>a s+(if t=s then c else 0)).sum=(ks.map a).sum+c
 | [],_,h=>nomatch h
 |s ::ks,nd,h=>by
  let(n1,n2,):=aZf.mp nd;rw[aQv,aQv,aBC,aBC];by_cases e:t=s
  .have:(ks.map λs=>a s+(if t=s then c else 0))=ks.map a:=aPW λu hu=>by rw[aah (λz=>n1 (by rw[<-e,z];exact hu)),aiv]
   rw[this,ahF e];lia
  .have:=OG (a:=a) (c:=c) n2 ((aPx.mp h).resolve_left e);rw[this,aah e];lia
theorem zx{sh:Int}{row:List Int}{ks:List Int}(nd:ks.Nodup)(f:Nat->Bool):∀n,(∀i,i<n->row.getD i 0%sh∈ks)->(List.range n).countP f=(ks.map λs=>(br sh row n s).countP f).sum
 |0,_=>by
  have:∀ks:List Int,(ks.map λs=>(br sh row 0 s).countP f).sum=0:=λks=>by
   induction ks with
   |nil=>rfl
   |cons s ks ih=>rw[aQv,aBC,ih];rfl
  rw[this];rfl
 |n+1,h=>by
  rw[aIe,a8D,zx nd f n λi hi=>h i 7,aIX,<-OG nd (h n 7)];congr 1
  refine aPW λs _=>?_;rw[HB,a8D];by_cases c:row.getD n 0%sh=s
  .rw [ahF c,ahF c,aIX]
  .rw [aah c,aah c];rfl
theorem OF(l:List Nat)(f:Nat->Bool):l.countP f=(List.range l.length).countP λx=>f (l.getD x 0):=by
 have e:l=(List.range l.length).map λx=>l.getD x 0:=by
  apply aVo;intro i;by_cases h:i<l.length
  .rw [aGb,apf h,aMp h,a10,aGH,aMp h];rfl
  .rw [aH9 7,aH9 (by rw[ano,ax4];lia)]
 conv=>lhs;rw[e,List.countP_map]
 rfl
section
variable{sh:Int}{row:List Int}{s:Int}
theorem jG{x:Nat}(h:x<(br sh row row.length s).length):(br sh row row.length s).getD x 0<row.length/\row.getD ((br sh row row.length s).getD x 0) 0%sh=s:=by
 have m:(br sh row row.length s).getD x 0∈br sh row row.length s:=by rw[aGH,aMp h];exact apl h
 let(h1,h2,):=aCR.mp m;exact(aOW.mp h1,adw h2,)
theorem dN{x y:Nat}(h:y<(br sh row row.length s).length)(hxy:x<y):(br sh row row.length s).getD x 0<(br sh row row.length s).getD y 0:=by
 have pw:(br sh row row.length s).Pairwise (·<·):=acZ aOg List.pairwise_lt_range;have:=amg.mp pw x y 7 h hxy;rw[aGH,aGH,aMp h,aMp (7:x<_)];exact this
theorem sj{p:Nat}(h:p<row.length)(e:row.getD p 0%sh=s):∃x,x<(br sh row row.length s).length/\(br sh row row.length s).getD x 0=p:=by
 have m:p∈br sh row row.length s:=aCR.mpr (aOW.mpr h,anN e,);let(x,hx,q,):=akv m;exact(x,hx,by rw[aGH,aMp hx];exact q,)
theorem Bb{x:Nat}(h:x<(br sh row row.length s).length):(aV sh row s).getD x 0=row.getD ((br sh row row.length s).getD x 0) 0:=by
 have e:(br sh row row.length s).getD x 0=(br sh row row.length s)[x]:=by rw[aGH,aMp h];rfl
 rw[e];unfold aV;rw[aGH,aGb,aMp h];rfl
theorem XR{row:List Int}{i j:Nat}(h1:i<j)(h2:j<row.length)(h3:row.getD j 0=row.getD i 0)(h4:∀k,i<k->k<j->row.getD k 0≠row.getD i 0):bF row i=(j:Int):=
 GR h2 (N6 h1 h3.symm λk k1 k2=>by rw[h3];exact h4 k k1 k2)
theorem XQ{row:List Int}{i:Nat}(hi:i<row.length)(h:∀k,i<k->k<row.length->row.getD k 0≠row.getD i 0):bF row i=(row.length:Int):=by
 rcases Bc (row:=row) (b:=row.getD i 0) (row.length-(i+1)) (i+1) 7 with⟨h1,_⟩|⟨j,h1,h2,h3,h4,h5⟩
 .exact h1
 .exact absurd h4 (h j 7 h2)
theorem DW{ms js:List Nat}(hm:∀z,z<(br sh row row.length s).length->(z∈js↔(br sh row row.length s).getD z 0∈ms))(hj:∀z∈js,z<(br sh row row.length s).length)(hr:∀z∈ms,z<row.length){x:Nat}(hx:x<(br sh row row.length s).length):m8 sh row ms ((br sh row row.length s).getD x 0)=m8 1 (aV sh row s) js x:=by
 have la:(aV sh row s).length=(br sh row row.length s).length:=by unfold aV;rw[ano]
 have hp:=jG hx;unfold m8;by_cases c:bF (aV sh row s) x<((aV sh row s).length:Int)
 .let(y,e1,h1,h2,h3,h4,):=Eo 7 c;rw[la]at h2;let(_,_,h5,):=vA h4;rw[Bb h2,Bb hx]at h3;have e2:bF row ((br sh row row.length s).getD x 0)=((br sh row row.length s).getD y 0:Nat):=XR (dN h2 h1) (jG h2).1 h3 λk k1 k2 e=>by
   let(z,hz,ez,):=sj (sh:=sh) (row:=row) (s:=s) (p:=k) (by have:=(jG h2).1;lia) (by rw[e];exact hp.2);have z1:x<z:=by
    rcases aX0 x z with h|h|h
    .exact h
    .rw [h,ez]at k1;lia
    .have:=dN hx h;rw[ez]at this;lia
   have z2:z<y:=by
    rcases aX0 z y with h|h|h
    .exact h
    .rw [<-h,ez]at k2;lia
    .have:=dN hz h;rw[ez]at this;lia
   refine h5 z z1 z2 ?_;rw[Bb hz,ez,Bb h2,h3];exact e
  have q1:=(jG h2).1;rw[e1,e2,anN (7:(((br sh row row.length s).getD y 0:Nat):Int)<(row.length:Int)),anN (7:(y:Int)<((aV sh row s).length:Int))];congr 2
  show dG sh row ms _ ((br sh row row.length s).getD y 0)=dG 1 (aV sh row s) js x y;unfold dG;rw[aeY,a8G,a8G];constructor
  .rintro⟨m,DH,w⟩;let(w1,w3,):=(aEv _ _).mp w;let(w1,w2,):=(aEv _ _).mp w1;have w1:=adw w1;have w2:=adw w2;have w3:=adw w3;let(z,hz,ez,):=sj (s:=s) (hr m DH) (by rw[w3];exact hp.2);refine(z,(hm z hz).mpr (by rw[ez];exact DH),?_,);rw[uC];have z1:x<z:=by
    rcases aX0 x z with h|h|h
    .exact h
    .rw [h,ez]at w1;lia
    .have:=dN hx h;rw[ez]at this;lia
   have z2:z<y:=by
    rcases aX0 z y with h|h|h
    .exact h
    .rw [<-h,ez]at w2;lia
    .have:=dN hz h;rw[ez]at this;lia
   rw[anN z1,anN z2];rfl
  .rintro ⟨z,hz,w⟩;rw[uC]at w;let(w1,w2,):=(aEv _ _).mp w;have w1:=adw w1;have w2:=adw w2;have zl:=hj z hz;refine(_,(hm z zl).mp hz,?_,);unfold bW;rw[anN (dN zl w1),anN (dN h2 w2),(jG zl).2,hp.2];simp
 .have e2:bF row ((br sh row row.length s).getD x 0)=(row.length:Int):=XQ hp.1 λk k1 k2 e=>by
   let(z,hz,ez,):=sj (s:=s) (p:=k) k2 (by rw[e];exact hp.2);have z1:x<z:=by
    rcases aX0 x z with h|h|h
    .exact h
    .rw [h,ez]at k1;lia
    .have:=dN hx h;rw[ez]at this;lia
   rcases Bc (row:=aV sh row s) (b:=(aV sh row s).getD x 0) ((aV sh row s).length-(x+1)) (x+1) 7 with⟨_,q⟩|⟨j,_,j2,j3,_⟩
   .refine q z 7 7 ?_;rw[Bb hz,Bb hx,ez,e]
   .unfold bF at c;lia
  rw[alG c,e2,alG (7:¬(row.length:Int)<row.length)];rfl
end
theorem OE{a b:Int->Int}:∀{ks:List Int},(∀s∈ks,a s<=b s)->(ks.map a).sum<=(ks.map b).sum
 | [],_=>aaP _
 |s ::ks,h=>by
  rw[aQv,aQv,aBC,aBC];have:=h s anL;have:=OE λt ht=>h t (aq4 _ ht);lia
theorem K8{aB:Int}{l c:Int->Nat}:∀ks:List Int,(ks.map λs=>aB*(l s:Int)+(c s:Int)).sum=aB*(((ks.map l).sum:Nat):Int)+(((ks.map c).sum:Nat):Int)
 | []=>5
 |s ::ks=>by
  rw[aQv,aQv,aQv,aBC,aBC,aBC,K8 ks,Int.natCast_add,Int.natCast_add,Int.mul_add];lia
theorem Q0{sh:Int}{row:List Int}{ms:List Nat}(J:Int->List Nat)(hr:∀z∈ms,z<row.length)(hj:∀s∈fh sh row,(∀z∈J s,z<(br sh row row.length s).length)/\∀z,z<(br sh row row.length s).length->(z∈J s↔(br sh row row.length s).getD z 0∈ms)) :
  (List.range row.length).countP (m8 sh row ms)=((fh sh row).map λs=>(List.range (aV sh row s).length).countP (m8 1 (aV sh row s) (J s))).sum:=by
 let(k1,k2,_,):=Ao sh row row.length (bbI _);rw[aXW]at k1 k2;rw[zx k1 _ row.length λi hi=>(k2 _).mpr (i,hi,8,)];congr 1
 refine aPW λs hs=>?_;rw[OF];have la:(aV sh row s).length=(br sh row row.length s).length:=by unfold aV;rw[ano]
 rw[la];refine aWN λx hx=>?_;rw[DW (hj s hs).2 (hj s hs).1 hr (aOW.mp hx)]
theorem XO{sh pl:Int}{row:List Int}{os ms:List Nat}(hp:1<=pl)(ho:os.Perm (iS sh pl row))(hr:∀z∈ms,z<row.length):bB sh pl row os<=bB sh pl row ms:=by
 have so:∀z∈os,z<row.length:=λz hz=>by
  let(s,_,hs,):=abu.mp (ho.mem_iff.mp hz);exact(EI hs).1
 let(k1,k2,_,):=Ao sh row row.length (bbI _);rw[aXW]at k1 k2;have la:∀s,(aV sh row s).length=(br sh row row.length s).length:=λs=>by unfold aV;rw[ano]
 have c1:=Q0 (sh:=sh) (row:=row) (ms:=os) (λs=>jv (pl-1) (aV sh row s)) so λs hs=>by
  refine(λz hz=>by rw[<-la];exact m6 _ _ z hz,λz hz=>?_,);rw[ho.mem_iff];constructor
  .exact λh=>abu.mpr (s,hs,aFN.mpr (z,h,8,),)
  .intro h;let(t,ht,h,):=abu.mp h;have et:t=s:=by rw[<-(EI h).2,(jG hz).2]
   subst et;let(y,hy,e,):=aFN.mp h;have ly:y<(br sh row row.length t).length:=by rw[<-la];exact m6 _ _ y hy
   have:y=z:=by
    rcases aX0 y z with q|q|q
    .have:=dN hz q;lia
    .exact q
    .have:=dN ly q;lia
   rw[<-this];exact hy
 have c2:=Q0 (sh:=sh) (row:=row) (ms:=ms) (λs=>(List.range (br sh row row.length s).length).filter λz=>decide ((br sh row row.length s).getD z 0∈ms)) hr λs hs=>by
  refine(λz hz=>aOW.mp (aCR.mp hz).1,λz hz=>?_,);rw[mem_filter];exact(λh=>adw h.2,λh=>(aOW.mpr hz,anN h,),)
 have l1:os.length=((fh sh row).map λs=>(jv (pl-1) (aV sh row s)).length).sum:=by
  rw[ho.length_eq];unfold iS;rw[List.length_flatMap];congr 1
  refine aPW λs _=>?_;unfold lE;rw[ano]
 have l2:((fh sh row).map λs=>((List.range (br sh row row.length s).length).filter λz=>decide ((br sh row row.length s).getD z 0∈ms)).length).sum<=ms.length:=by
  have e:((fh sh row).map λs=>((List.range (br sh row row.length s).length).filter λz=>decide ((br sh row row.length s).getD z 0∈ms)).length).sum=(List.range row.length).countP λi=>decide (i∈ms):=by
   rw[zx k1 _ row.length λi hi=>(k2 _).mpr (i,hi,8,)];congr 1
   refine aPW λs _=>?_;rw[OF (br sh row row.length s),ahO]
  rw[e];exact Lc (f:=id) (λi _ h=>adw h) λi j _ _ _ _ e=>e
 have f0:0<=pl-1:=7
 have main:=OE (ks:=fh sh row) (a:=λs=>bB 1 (pl-1+1) (aV sh row s) (jv (pl-1) (aV sh row s))) (b:=λs=>bB 1 (pl-1+1) (aV sh row s) ((List.range (br sh row row.length s).length).filter λz=>decide ((br sh row row.length s).getD z 0∈ms))) λs _=>XS f0 _;unfold bB at main ⊢;rw[show pl-1+1-1=pl-1 by lia]at main;rw[K8,K8,<-c1,<-c2,<-l1]at main;have:=Int.mul_le_mul_of_nonneg_left (Int.ofNat_le.mpr l2) f0;have e3:((ms.length:Nat):Int)=Int.ofNat ms.length:=8;refine aeM main ?_;have e4:(pl-1)*((((fh sh row).map λs=>((List.range (br sh row row.length s).length).filter λz=>decide ((br sh row row.length s).getD z 0∈ms)).length).sum:Nat):Int)<=(pl-1)*(ms.length:Int):=this;lia
theorem OD{as:List Int}{n:Nat}(h:∀i,i<n->as.getD i (-1)<(i:Int)):∀(f:Nat)(m:Int),m<n->(lG as f m).Pairwise (· > ·)
 |0,_,_=>List.Pairwise.nil
 |f+1,m,hm=>by
  rw[Ho];by_cases c:0<=m
  .rw [ahF c];have q:=h m.toNat 7;refine a7D.mpr (λx hx=>?_,OD h f _ 7,);have:=uH h f _ 7 x hx;lia
  .rw [aah c];exact List.Pairwise.nil
theorem VB(aB:Int)(row:List Int):(jv aB row).Pairwise (·<·):=by
 unfold jv;rw[List.pairwise_reverse];exact OD (λi hi=>(HA (Zy row) aB row.length i hi).2) _ _ (KC (Zy row) aB row.length).2
theorem Wa(sh pl:Int)(row:List Int)(s:Int):(lE sh pl row s).Pairwise (·<·):=by
 unfold lE;rw[List.pairwise_map];refine List.Pairwise.imp_of_mem (λ{a b} ha hb h=>?_) (VB (pl-1) (aV sh row s));refine dN ?_ h;have:=m6 _ _ b hb;unfold aV at this;rwa [ano]at this
theorem N2{sh pl:Int}{row:List Int}:∀{ks:List Int},ks.Nodup->(ks.flatMap (lE sh pl row)).Nodup
 | [],_=>bd8
 |s ::ks,nd=>by
  let(n1,n2,):=aZf.mp nd;rw[List.flatMap_cons,aK3];refine((Wa sh pl row s).imp λ{a b} h=>aOt h,N2 n2,λx hx y hy e=>?_,);let(t,ht,hy,):=abu.mp hy;subst e;have:t=s:=by rw[<-(EI hy).2,(EI hx).2]
  exact n1 (this ▸ht)
theorem VA{sh pl:Int}{row:List Int}{os:List Nat}(ho:os.Perm (iS sh pl row))(hp:os.Pairwise (·<=·)):os.Pairwise (·<·):=by
 have k1:=(Ao sh row row.length (bbI _)).1;rw[aXW]at k1;have nd:os.Nodup:=ho.nodup_iff.mpr (N2 k1);have:os.Pairwise λa b=>a<=b/\a≠b:=List.Pairwise.and hp nd;exact this.imp λ{a b} h=>7
theorem yg{sh pl:Int}{row:List Int}{os:List Nat}(ho:os.Perm (iS sh pl row)):(∀x∈os,x<row.length)/\os.length<=row.length:=by
 refine(λx hx=>?_,?_,)
 .let(s,_,hs,):=abu.mp (ho.mem_iff.mp hx);exact(EI hs).1
 .rw [ho.length_eq];have:=K9 (sh:=sh) (pl:=pl) (row:=row) (fh sh row) (by have:=(Ao sh row row.length (bbI _)).1;rwa [aXW]at this);exact this
structure yV(sh pl:Int)(row:List Int)(F:Nat->List Int)(m:Nat->Nat):Prop where
 hit:∀i,i<row.length->row.getD i 0∈F i->∀x∈F i,x∈F (i+1)
 FY:∀i,i<row.length->row.getD i 0∉F i->(∀x∈F i,x∈F (i+1))\/∃z∈F i,(∀x∈F i,x≠z->x∈F (i+1))/\pl<=((Zi sh (row.getD i 0%sh) (F i)).length:Int)/\z%sh=row.getD i 0%sh/\∀x∈F i,x%sh=row.getD i 0%sh->bG row i x<=bG row i z
theorem P7(f:Nat->List Int):∀k,argBest (λi j=>HT.lexLt (f j) (f i)) k<=k/\∀j,j<=k->HT.lexLt (f (argBest (λi j=>HT.lexLt (f j) (f i)) k)) (f j)=false
 | 0=>(bbI _,λj hj=>by
   have:j=0:=7
   subst this;exact Aq _,)
 |k+1=>by
  let(h1,h2,):=P7 f k;unfold argBest;by_cases c:HT.lexLt (f (argBest (λi j=>HT.lexLt (f j) (f i)) k)) (f (k+1))=true
  .rw [ahF c];refine(bbI _,λj hj=>?_,);by_cases e:j=k+1
   .subst e;exact Aq _
   .cases q:HT.lexLt (f (k+1)) (f j) with
    |false=>rfl
    |true=>
     have:=Hu c q;rw[h2 j 7]at this;cases this
  .rw [aah c];refine(7,λj hj=>?_,);by_cases e:j=k+1
   .subst e;simpa using c
   .exact h2 j 7
theorem XN{row:List Int}{p:Nat}{S:List Int}(h:S≠[]):∃z,S[dW row p S]?=!z/\z∈S/\∀x∈S,bG row p x<=bG row p z:=by
 have pos:0<S.length:=auZ.mpr h;let(h1,h2,):=P7 (λi=>(S.map λo=>[bG row p o,o]).getD i []) (S.length-1);have e:argBest (λi j=>HT.lexLt ((S.map λo=>[bG row p o,o]).getD j []) ((S.map λo=>[bG row p o,o]).getD i [])) (S.length-1)=dW row p S:=8;rw[e]at h1 h2;have hlt:dW row p S<S.length:=7
 have at':∀i (h:i<S.length),(S.map λo=>[bG row p o,o]).getD i []=[bG row p S[i],S[i]]:=λi h=>by
  rw[aGH,aGb,aMp h];rfl
 refine(S[dW row p S],aMp hlt,apl hlt,λx hx=>?_,);let(j,hj,rfl,):=akv hx;have q:=h2 j 7;rw[at' j hj,at' _ hlt,HT.aP]at q;by_cases c:bG row p S[dW row p S]=bG row p S[j]
 .lia
 .rw [aah c]at q;have:=of_decide_eq_false q;lia
section
variable{sh pl:Int}{row:List Int}
theorem Vz(hp:1<=pl){i:Nat}(hi:i<=row.length):(oS sh pl row (bU sh pl row) i).1=(aU sh pl row i).1:=by
 let(c,e,):=Br (sh:=sh) hp row i hi;unfold oS;rw[e];rfl
theorem V9(hp:1<=pl):yV sh pl row (λi=>(oS sh pl row (bU sh pl row) i).1) λi=>(oS sh pl row (bU sh pl row) i).2:=by
 let(c,e,):=Br (sh:=sh) hp row row.length (bbI _);refine(λi hi hb=>?_,λi hi hb=>?_,)
 .let(_,hh,_,):=Bp e hi;try dsimp only
  rw[hh hb];exact λx hx=>hx
 .let(_,_,hn,):=Bp e hi;try dsimp only at hb ⊢
  rw[hn hb];have eo:(bU sh pl row).getD i none=bC sh pl row i (row.getD i 0) (aU sh pl row i).1:=by
   rw[aGH];unfold bU;rw[KQ (7:i<row.length)];rfl
  rw[eo];rw[Vz hp 7]at hb ⊢;generalize row.getD i 0=b at *;generalize(aU sh pl row i).1=there at *;unfold bC;by_cases c:b∉there/\pl<=((Aj sh b there).length:Int)
  .rw [ahF c];have ne:Aj sh b there≠[]:=λz=>by
    have h2:=c.2;rw[z]at h2;have h3:pl<=((0:Nat):Int):=h2;lia
   let(z,hz,zm,zf,):=XN (row:=row) (p:=i) ne;rw[hz];right;have h2:=c.2;rw[LC]at zm zf h2;refine(z,(af.mp zm).1,λx hx hne=>aqT _ ((aSC hne).mpr hx),h2,(af.mp zm).2,λx hx hs=>zf x (af.mpr (hx,hs,)),)
  .rw [aah c];exact .inl λx hx=>aqT _ hx
theorem XM(hp:1<=pl):Ep sh pl row=(oS sh pl row (bU sh pl row) row.length).2:=by
 let(c,e,):=Br (sh:=sh) hp row row.length (bbI _);unfold Ep gZ oS;rw[ahF (Hr sh pl row),e];rfl
structure Nx(row:List Int)(a:Nat)(x:Int)(j:Nat):Prop where
 lt:a<j
 hi:j<row.length
 at':row.getD j 0=x
 no:∀k,a<k->k<j->row.getD k 0≠x
theorem N1{row:List Int}(hl:row.length<=1000000){x:Int}:∀(d p:Nat),p+1+d=row.length->(bG row p x=1000000)\/∃j:Nat,bG row p x=(j:Int)/\Nx row p x j
 |0,p,h=>.inl (XX 7)
 |d+1,p,h=>by
  have hx:row[p+1]?=!(row.getD (p+1) 0):=by rw[aGH,aMp 7];rfl
  unfold bG;rw[LD hx];by_cases c:row.getD (p+1) 0=x
  .rw [ahF c];exact .inr (p+1,8,7,7,c,λk h1 h2=>7,)
  .rw [aah c];rcases N1 hl (x:=x) d (p+1) 7 with h1|⟨j,e,q⟩
   .exact .inl h1
   .refine .inr (j,e,by have:=q.lt;lia,q.hi,q.at',λk k1 k2=>?_,);by_cases e:k=p+1
    .subst e;exact c
    .exact q.no k 7 k2
theorem OC(hl:row.length<=1000000):∀(d a:Nat){x:Int}{j:Nat},a+1+d=j->Nx row a x j->bG row a x=(j:Int)
 |0,a,x,j,hd,h=>by
  have hx:row[a+1]?=!(row.getD (a+1) 0):=by rw[aGH,aMp (by have:=h.hi;lia)];rfl
  unfold bG;rw[LD hx,ahF (by rw[show a+1=j by lia];exact h.at'),show a+1=j by lia]
 |d+1,a,x,j,hd,h=>by
  have hx:row[a+1]?=!(row.getD (a+1) 0):=by rw[aGH,aMp (by have:=h.hi;lia)];rfl
  unfold bG;rw[LD hx,aah (h.no (a+1) 7 7)];exact OC hl d (a+1) 7 (7,h.hi,h.at',λk k1 k2=>h.no k 7 k2,)
theorem Ky(hl:row.length<=1000000){a:Nat}{x:Int}{j:Nat}(h:Nx row a x j):bG row a x=(j:Int):=OC hl (j-(a+1)) a (by have:=h.lt;lia) h
variable{F:Nat->List Int}{m:Nat->Nat}
def BH(row:List Int)(F:Nat->List Int)(e:Nat)(z:Int)(j:Nat):Prop:=e<row.length/\z∈F e/\z∉F (e+1)/\Nx row e z j
theorem yV.drop(f:yV sh pl row F m){e j:Nat}{z:Int}(h:BH row F e z j):row.getD e 0∉F e/\(∀x∈F e,x≠z->x∈F (e+1))/\pl<=((Zi sh (row.getD e 0%sh) (F e)).length:Int)/\z%sh=row.getD e 0%sh/\∀x∈F e,x%sh=row.getD e 0%sh->bG row e x<=bG row e z:=by
 let(h0,h1,h2,_,):=h;have c:row.getD e 0∉F e:=λc=>h2 (f.hit e h0 c z h1);refine(c,?_,);rcases f.FY e h0 c with q|⟨z',q1,q2,q3⟩
 .exact absurd (q z h1) h2
 .by_cases ez:z=z'
  .subst ez;exact(q2,q3,)
  .exact absurd (q2 z h1 ez) h2
theorem K7{x:Int}:∀(d t:Nat),x∈F t->x∉F (t+d)->∃e,t<=e/\e<t+d/\x∈F e/\x∉F (e+1)
 |0,t,h1,h2=>absurd h1 h2
 |d+1,t,h1,h2=>by
  by_cases c:x∈F (t+1)
  .let(e,e1,e2,e3,):=K7 d (t+1) c (by rw[show t+1+d=t+(d+1) by lia];exact h2);exact(e,7,7,e3,)
  .exact (t,bbI _,7,h1,c,)
structure wU(sh:Int)(row:List Int)(F:Nat->List Int)(e:Nat)(ms:List Nat):Prop where
 ge:∀a∈ms,e<=a/\a<row.length
 nd:ms.Nodup
 why:∀a∈ms,∃z j,BH row F a z j/\∀b∈ms,row.getD b 0%sh=row.getD a 0%sh->a<b->j<=b
 all:∀a z j,e<=a->BH row F a z j->∃b∈ms,row.getD b 0%sh=row.getD a 0%sh/\a<=b/\b<j
theorem NZ(sh:Int)(row:List Int)(F:Nat->List Int):∀(d e:Nat),e+d=row.length->∃ms,wU sh row F e ms
 |0,e,h=>([],λ_ h=>(nomatch h),bd8,λ_ h=>(nomatch h),λa z j h1 h2=>by have:=h2.1;lia,)
 |d+1,e,h=>by
  let(ms,g,):=NZ sh row F d (e+1) 7;by_cases c:∃z j,BH row F e z j/\∀b∈ms,row.getD b 0%sh=row.getD e 0%sh->j<=b
  .let(z,j,c1,c2,):=c;refine(e ::ms,λa ha=>?_,aZf.mpr (λm=>by have:=(g.ge e m).1;lia,g.nd,),λa ha=>?_,λa y k h1 h2=>?_,)
   .rcases aPx.mp ha with rfl|ha
    .exact (bbI _,c1.1,)
    .have:=g.ge a ha;lia
   .rcases aPx.mp ha with rfl|ha
    .refine (z,j,c1,λb hb eb lt=>?_,);rcases aPx.mp hb with rfl|hb
     .lia
     .exact c2 b hb eb
    .let(z,j,q1,q2,):=g.why a ha;refine(z,j,q1,λb hb eb lt=>?_,);rcases aPx.mp hb with eb'|hb
     .have:=(g.ge a ha).1;lia
     .exact q2 b hb eb lt
   .by_cases ea:a=e
    .subst ea;exact(a,anL,8,bbI _,h2.2.2.2.lt,)
    .let(b,b1,b2,):=g.all a y k 7 h2;exact(b,aq4 _ b1,b2,)
  .refine (ms,λa ha=>by have:=g.ge a ha;lia,g.nd,g.why,λa y k h1 h2=>?_,);by_cases ea:a=e
   .subst ea;apply aIh;intro no;refine c (y,k,h2,λb hb eb=>?_,);apply aIh;intro nb;exact no (b,hb,eb,by have:=(g.ge b hb).1;lia,7,)
   .exact g.all a y k 7 h2
theorem wU.miss{ms:List Nat}(g:wU sh row F 0 ms)(f:yV sh pl row F m)(o:jO sh pl row F m){i j:Nat}(hj:j<row.length)(hp:gj row (row.getD j 0) j=!i)(hm:row.getD j 0∉F j):dG sh row ms i j=true:=by
 let(p1,p2,p3,):=vA hp;have h1:=o.now i 7;rw[p2]at h1;let(e,e1,e2,e3,e4,):=K7 (F:=F) (j-(i+1)) (i+1) h1 (by rw[show i+1+(j-(i+1))=j by lia];exact hm);have D:BH row F e (row.getD j 0) j:=(7,e3,e4,7,hj,8,λk k1 k2=>p3 k 7 k2,);let(b,b1,b2,b3,b4,):=g.all e _ j (agn _) D;have s:=(f.drop D).2.2.2.1;refine aw6.mpr (b,b1,?_,);unfold bW;rw[anN (7:i<b),anN b4,anN (by rw[b2,p2,s])];rfl
theorem wU.over{ms:List Nat}(hl:row.length<=1000000)(g:wU sh row F 0 ms)(f:yV sh pl row F m)(o:jO sh pl row F m){a:Nat}(ha:a∈ms):pl-1<=(((List.range row.length).countP λj=>cC row F j && eX row (λi j=>bW sh row i j a) j:Nat):Int):=by
 let(z,jz,D,w,):=g.why a ha;let(d1,d2,d3,d4,d5,):=f.drop D;have nz:=Ky hl D.2.2.2;have M6:z∈Zi sh (row.getD a 0%sh) (F a):=af.mpr (D.2.1,d4,);have key:∀x∈(Zi sh (row.getD a 0%sh) (F a)).erase z,∃j:Nat,bG row a x=(j:Int)/\row.getD j 0=x/\j∈(List.range row.length).filter λj=>cC row F j && eX row (λi j=>bW sh row i j a) j:=λx hx=>by
  have hxz:x≠z:=λe=>by
   subst e;exact(List.Nodup.not_mem_erase ((o.nd a (by have:=D.1;lia)).sublist aOg)) hx
  let(x1,x2,):=af.mp (baK hx);have le:=d5 x x1 x2;rcases N1 hl (x:=x) (row.length-(a+1)) a (by have:=D.1;lia) with e|⟨j,e,N⟩
  .have:=D.2.2.2.hi;lia
  .refine (j,e,N.at',aCR.mpr (aOW.mpr N.hi,?_,),);have hin:x∈F j:=aIh λno=>by
    have Dd:=N.lt;let(e',e1,e2,e3,e4,):=K7 (F:=F) (j-(a+1)) (a+1) (d2 x x1 hxz) (by rw[show a+1+(j-(a+1))=j by lia];exact no);have D':BH row F e' x j:=(by have:=N.hi;lia,e3,e4,7,N.hi,N.at',λk k1 k2=>N.no k 7 k2,);let(b,b1,b2,b3,b4,):=g.all e' x j (agn _) D';have s:=(f.drop D').2.2.2.1;have:=w b b1 (by rw[b2,<-s,x2]) 7;lia
   let(i',i1,i2,):=o.back (by have:=D.1;lia) x1;have Dd:=N.lt;unfold cC eX;rw[N.at',anN hin];cases ep:gj row x j with
   |none=>exact absurd i2 (HC ep i' 7)
   |some i=>
    let(p1,p2,p3,):=vA ep;have UA:i<a:=by
     rcases aX0 i a with c|c|c
     .exact c
     .subst c;exact absurd (by rw[p2];exact x1) d1
     .exact absurd p2 (N.no i c p1)
    show(true && bW sh row i j a)=true;unfold bW;rw[anN UA,anN Dd,anN (by rw[p2,x2])];rfl
 have nd:((Zi sh (row.getD a 0%sh) (F a)).erase z).Nodup:=((o.nd a (by have:=D.1;lia)).sublist aOg).sublist erase_sublist;have le:=GS (a:=((Zi sh (row.getD a 0%sh) (F a)).erase z).map λx=>(bG row a x).toNat) (b:=(List.range row.length).filter λj=>cC row F j && eX row (λi j=>bW sh row i j a) j) (Ld nd λx hx y hy e=>?_) (λy hy=>?_)
 .rw [ano,aWr M6,<-ahO]at le;have:=a2Y M6;lia
 .let(j,j1,j2,_,):=key x hx;let(k,k1,k2,_,):=key y hy;rw[j1,k1]at e;have e:j=k:=e;rw[<-j2,<-k2,e]
 .let(x,hx,rfl,):=aFN.mp hy;let(j,j1,_,j3,):=key x hx;rw[j1];exact j3
theorem wU.two{ms:List Nat}(hl:row.length<=1000000)(g:wU sh row F 0 ms)(f:yV sh pl row F m)(o:jO sh pl row F m){a b i j:Nat}(ha:a∈ms)(hb:b∈ms)(lt:a<b)(hj:j<row.length)(hp:gj row (row.getD j 0) j=!i)(hh:row.getD j 0∈F j)(h1:bW sh row i j a=true)(h2:bW sh row i j b=true):False:=by
 let(p1,p2,p3,):=vA hp;unfold bW at h1 h2;let(c,c3,):=(aEv _ _).mp h1;let(c1,c2,):=(aEv _ _).mp c;let(c,e3,):=(aEv _ _).mp h2;let(e1,e2,):=(aEv _ _).mp c;have c1:=adw c1;have c3:=adw c3;have e2:=adw e2;have e3:=adw e3;let(z,jz,D,w,):=g.why a ha;let(d1,d2,d3,d4,d5,):=f.drop D;have nz:=Ky hl D.2.2.2;have hs:=w b hb (by rw[e3,c3]) lt;have xa:=o.stay (i:=i) (x:=row.getD j 0) (j-a) a c1 7 (by rw[show a+(j-a)=j by lia];exact hh) λk k1 k2=>p3 k k1 7;have q:=d5 _ xa (by rw[c3,p2]);rw[Ky hl ((7,hj,8,λk k1 k2=>p3 k 7 k2,):Nx row a (row.getD j 0) j)]at q;lia
theorem K6{p q r s:Nat->Bool}:∀l:List Nat,(∀x∈l,p x=true->(r x=true->q x=true/\s x=false)/\(s x=true->q x=true))->l.countP (λx=>p x && r x)+l.countP (λx=>p x && s x)<=l.countP λx=>p x && q x
 | [],_=>bbI _
 |x ::l,h=>by
  have ih:=K6 l λy hy=>h y (aq4 _ hy);simp only[aHO];have:=h x anL;cases hp:p x <;> cases hq:q x <;> cases hr:r x <;> cases hs:s x <;> simp_all <;> lia
theorem wU.marked{ms:List Nat}(hl:row.length<=1000000)(g:wU sh row F 0 ms)(f:yV sh pl row F m)(o:jO sh pl row F m):∀l:List Nat,l.Nodup->(∀x∈l,x∈ms)->(pl-1)*l.length<=(((List.range row.length).countP λj=>cC row F j && eX row (λi j=>dG sh row l i j) j:Nat):Int)
 | [],_,_=>by
  show(pl-1)*((0:Nat):Int)<=_;rw[Int.natCast_zero,Int.mul_zero];exact Int.natCast_nonneg _
 |a ::l,nd,h=>by
  let(n1,n2,):=aZf.mp nd;have h1:=g.over hl f o (h a anL);have h2:=g.marked hl f o l n2 λx hx=>h x (aq4 _ hx);have h3:=K6 (p:=cC row F) (q:=eX row (λi j=>dG sh row (a ::l) i j)) (r:=eX row (λi j=>bW sh row i j a)) (s:=eX row (λi j=>dG sh row l i j)) (List.range row.length) (λx hm hx=>by
   have hx:row.getD x 0∈F x:=adw hx;unfold eX;cases e:gj row (row.getD x 0) x with
   |none=>exact(λz=>(nomatch z),λz=>(nomatch z),)
   |some i=>
    dsimp only;have em:dG sh row (a ::l) i x=(bW sh row i x a || dG sh row l i x):=8;rw[em];refine(λca=>(by rw[ca];rfl,?_,),λcb=>by rw[cb,Bool.or_true],);cases cb:dG sh row l i x with
    |false=>rfl
    |true=>
     let(b,b1,b2,):=aw6.mp cb;rcases aX0 a b with lt|lt|lt
     .exact (g.two hl f o (h a anL) (h b (aq4 _ b1)) lt (aOW.mp hm) e hx ca b2).elim
     .subst lt;exact absurd b1 n1
     .exact (g.two hl f o (h b (aq4 _ b1)) (h a anL) lt (aOW.mp hm) e hx b2 ca).elim)
  rw[acz,Int.natCast_succ,Int.mul_add,Int.mul_one];lia
theorem X5(hl:row.length<=1000000)(f:yV sh pl row F m)(o:jO sh pl row F m):∃ms:List Nat,(∀x∈ms,x<row.length)/\bB sh pl row ms<=(row.length:Int)-m row.length:=by
 let(ms,g,):=NZ sh row F row.length 0 (apV _);refine(ms,λx hx=>(g.ge x hx).2,?_,);have h1:=o.cnt row.length (bbI _);have h2:=g.marked hl f o ms g.nd λ_ h=>h;rw[uG];have h3:=K6 (p:=cC row F) (q:=λ_=>true) (r:=eX row (λi j=>dG sh row ms i j)) (s:=i7 sh row ms) (List.range row.length) (λx hm hx=>by
  unfold i7 eX;cases e:gj row (row.getD x 0) x with
  |none=>exact(λz=>(nomatch z),λz=>(nomatch z),)
  |some i=>exact(λz=>(8,by dsimp only at z ⊢;rw[z];rfl,),λ_=>8,))
 have h4:(List.range row.length).countP (i7 sh row ms)<=(List.range row.length).countP (λx=>cC row F x && i7 sh row ms x):=List.countP_mono_left λx hm hx=>by
  refine(aEv _ _).mpr (?_,hx,);unfold i7 eX at hx;cases e:gj row (row.getD x 0) x with
  |none=>rw[e]at hx;cases hx
  |some i=>
   rw[e]at hx;refine anN (aIh λno=>?_);have:=g.miss f o (aOW.mp hm) e no;dsimp only at hx;rw[this]at hx;cases hx
 have h5:(List.range row.length).countP (λx=>cC row F x && true)=(List.range row.length).countP (cC row F):=by simp only[Bool.and_true]
 lia
theorem X4{os:List Nat}(hl:row.length<=1000000)(hp:1<=pl)(ho:os.Perm (iS sh pl row))(hi:∀x∈os,x<row.length):bB sh pl row os=(row.length:Int)-Ep sh pl row:=by
 let(c,e,):=Br (sh:=sh) hp row row.length (bbI _);have o:=OP hp e;let(ms,h1,h2,):=X5 hl (V9 hp) o;have h3:=o.weak os hi;have h4:=XO hp ho h1;rw[XM hp];try dsimp only at h2 h3
 lia
end
theorem OB(sh pl:Int)(ru:Str)(row:List Int):∀(n i:Nat),i<n->(aT sh pl ru row n).2[i]?=!(bJ sh pl ru i (row.getD i 0) (aT sh pl ru row i).1).2
 |0,i,h=>absurd h (aRO _)
 |n+1,i,h=>by
  have l:=(GU sh pl ru row n).2.2;show((aT sh pl ru row n).2++[_])[i]?=_;by_cases c:i<n
  .rw [ah8 7];exact OB sh pl ru row n i c
  .have e:i=n:=7
   subst e;rw[a9d 7,l,aNJ];rfl
noncomputable def xO(sh pl:Int)(ru:Str)(row:List Int):List (Option Int):=(cS sh pl ru row).map λf=>f.2
theorem Yk{sh:Int}{S:List Rec}{T:List Int}(u:Uq S)(nd:T.Nodup)(h:∀x,x∈T↔x∈i8 S)(b:Int):((Zi sh (b%sh) T).length=(nA sh b S).length)/\∀r∈nA sh b S,r.b∈Zi sh (b%sh) T:=by
 have mem:∀x,x∈Zi sh (b%sh) T↔x∈(nA sh b S).map (·.b):=λx=>by
  rw[af,h x,mem_map];constructor
  .rintro ⟨h1,h2⟩;let(r,hr,e,):=aFN.mp h1;refine(r,aCR.mpr (hr,?_,),e,);rw[<-e]at h2;simp[h2]
  .rintro ⟨r,hr,e⟩;let(h1,h2,):=aCR.mp hr;refine(aFN.mpr (r,h1,e,),?_,);rw[<-e];simpa using h2
 have Dj:(Zi sh (b%sh) T).Nodup:=nd.sublist aOg;have AZ:((nA sh b S).map (·.b)).Nodup:=a2w (List.Sublist.map _ aOg) u;refine(?_,λr hr=>(mem _).mpr (List.mem_map_of_mem hr),);rw[EV Dj AZ mem,ano]
theorem O3(sh pl:Int)(ru:Str)(row:List Int)(hpl:1<=pl):∀i,i<=row.length->∃T:List Int×Nat,bE sh pl row (xO sh pl ru row) i=!T/\T.1.Nodup/\(∀x,x∈T.1↔x∈i8 (aT sh pl ru row i).1)/\T.2=(aT sh pl ru row i).2.countP λf=>(not (f.1))
 |0,_=>(([],0),8,bd8,λx=>by simp[aT,i8],8,)
 |i+1,hi=>by
  let(T,h1,h2,h3,h4,):=O3 sh pl ru row hpl i 7;have u:=(GU sh pl ru row i).1;have eg:(xO sh pl ru row).getD i none=(bJ sh pl ru i (row.getD i 0) (aT sh pl ru row i).1).2.2:=by
   unfold xO cS;rw[aGH,aGb,OB sh pl ru row row.length i 7];rfl
  let(sl,sm,):=Yk (sh:=sh) u h2 h3 (row.getD i 0);have e:bE sh pl row (xO sh pl ru row) (i+1)=dz sh pl (row.getD i 0) (bJ sh pl ru i (row.getD i 0) (aT sh pl ru row i).1).2.2 T:=by
   show(bE sh pl row (xO sh pl ru row) i).bind _=_;rw[h1,eg];rfl
  rw[e];have ec:(aT sh pl ru row (i+1)).2.countP (λf=>(not (f.1)))=T.2+(if((not ((bJ sh pl ru i (row.getD i 0) (aT sh pl ru row i).1).2.1)))=true then 1 else 0):=by
   show((aT sh pl ru row i).2++[_]).countP _=_;rw[a8D,h4,aHO,List.countP_nil,apV]
  have eb:(aT sh pl ru row (i+1)).1=(bJ sh pl ru i (row.getD i 0) (aT sh pl ru row i).1).1:=8;rw[ec,eb];generalize row.getD i 0=b at *;generalize(aT sh pl ru row i).1=S at *;have nb:∀x:Int,b∈Zi sh (b%sh) T.1↔b∈T.1:=λ_=>by rw[af];exact(λz=>z.1,λz=>(z,8,),)
  unfold bJ dz;cases er:aJ S b with
  |some r=>
   let(r1,r2,):=LW er;have hb:b∈T.1:=(h3 b).mpr (r2 ▸List.mem_map_of_mem r1);have hm:bT pl (Zi sh (b%sh) T.1) b none=true:=by unfold bT;rw[ahF (.inl ((nb 0).mpr hb))];rfl
   refine(T,by rw[ahF hm,ahF hb],h2,λx=>?_,5,);rw[Ht,h3 x];exact(.inr,λz=>z.elim (λz=>(h3 x).mp (z ▸hb)) id,)
  |none=>
   have hb:b∉T.1:=λz=>aH.mp er ((h3 b).mp z);have hm:bT pl (Zi sh (b%sh) T.1) b (dj sh pl ru S b)=true/\∀g,dj sh pl ru S b=!g->g∈T.1:=by
    by_cases c:((nA sh b S).length:Int)<pl
    .have eg:dj sh pl ru S b=none:=by unfold dj;rw[ahF c]
     rw[eg];exact⟨by unfold bT;rw[ahF (.inr (by rw[sl];exact c))];rfl,λ_ z=>by cases z⟩
    .let(r,hr,eg,_,):=QO (ru:=ru) hpl c;rw[eg];refine(?_,λg z=>by cases z;exact(af.mp (sm r hr)).1,);unfold bT;rw[aah (λz=>z.elim (λz=>hb ((nb 0).mp z)) (by rw[sl];exact c))];exact anN (sm r hr)
   refine((ay T.1 (dj sh pl ru S b)++[b],T.2+1),by rw[ahF hm.1,aah hb],?_,λx=>?_,5,)
   .rw [aK3];exact(h2.sublist aN,5,λx hx y hy z=>hb (by rw[aOT.mp hy]at z;rw[<-z];exact aN.subset hx),)
   .rw [aNA,ax0,EJ h2,Ht,Qg,h3 x];exact Or.comm
theorem NY(sh pl:Int)(ru:Str)(row:List Int)(hpl:1<=pl):gZ sh pl row (xO sh pl ru row)=!((cS sh pl ru row).countP (λf=>(not (f.1))):Int):=by
 let(T,h1,_,_,h4,):=O3 sh pl ru row hpl row.length (bbI _);unfold gZ;rw[ahF (by unfold xO;rw[ano,GY]),h1];show some (T.2:Int)=_;rw[h4];rfl
theorem P6{sh pl:Int}{row:List Int}{os:List (Option Int)}{c:Int}(hp:1<=pl)(h:gZ sh pl row os=!c)(ms:List Nat)(hm:∀x∈ms,x<row.length):(row.length:Int)-c<=bB sh pl row ms:=by
 unfold gZ at h;split at h
 .cases e:bE sh pl row os row.length with
  |none=>rw[e]at h;cases h
  |some S=>
   rw[e]at h;have ec:(S.2:Int)=c:=aFB h;have q:=(OP hp e).weak ms hm;have es:oS sh pl row os row.length=S:=by unfold oS;rw[e];rfl
   rw[es,ec]at q;exact q
 .cases h
theorem YM{pl b:Int}{ms ms':List Int}{o:Option Int}(h1:∀x,x∈ms↔x∈ms')(h2:ms.length=ms'.length):bT pl ms b o=bT pl ms' b o:=by
 unfold bT;rw[h2];have e:(b∈ms\/(ms'.length:Int)<pl)↔(b∈ms'\/(ms'.length:Int)<pl):=or_congr (h1 b) Iff.rfl;by_cases c:b∈ms'\/(ms'.length:Int)<pl
 .rw [ahF c,ahF (e.mpr c)]
 .rw [aah c,aah (λz=>c (e.mp z))];cases o with
  |some g=>exact aq6.mpr (h1 g)
  |none=>rfl
theorem P5{sh pl:Int}{row:List Int}{os:List (Option Int)}(y:Option Int):∀i,i<=os.length->bE sh pl row (os++[y]) i=bE sh pl row os i
 |0,_=>rfl
 |i+1,h=>by
  show(bE sh pl row (os++[y]) i).bind _=(bE sh pl row os i).bind _;have e:(os++[y]).getD i none=os.getD i none:=by rw[aGH,aGH,ah8 7]
  rw[P5 y i 7,e]
noncomputable def eS(y:V)(z:Int)(x:Int):Bool:=((not (decide (V.int x=y)))) && (not (decide (V.int x=V.int z)))
theorem XJ{sh pl z:Int}{o:Option Int}{S:List Int×Nat}{T:List Int}(nd:S.1.Nodup)(Jc:T.Nodup)(h:∀x,x∈T↔x∈S.1)(c:bT pl (Zi sh (z%sh) S.1) z o=true) :
  ∃S',dz sh pl z o S=!S'/\S'.1.Nodup/\(T.filter (eS (au o) z)++[z]).Nodup/\(∀x,x∈T.filter (eS (au o) z)++[z]↔x∈S'.1)/\S'.2=S.2+(if z∈T then 0 else 1):=by
 have kp:∀x,eS (au o) z x=true↔V.int x≠au o/\x≠z:=λx=>by
  unfold eS;simp
 have nT:(T.filter (eS (au o) z)++[z]).Nodup:=by
  rw[aK3];exact(Jc.sublist aOg,5,λx hx w hw e=>((kp x).mp (aCR.mp hx).2).2 (e.trans (aOT.mp hw)),)
 have mT:∀x,x∈T.filter (eS (au o) z)++[z]↔(x∈T/\V.int x≠au o/\x≠z)\/x=z:=λx=>by
  rw[aNA,mem_filter,kp,ax0]
 unfold dz;rw[ahF c];by_cases hz:z∈S.1
 .rw [ahF hz];have ey:o=none:=by
   unfold bT at c;rw[ahF (.inl (af.mpr (hz,8,)))]at c;exact Option.isNone_iff_eq_none.mp c
  refine(S,8,nd,nT,λx=>?_,by rw[ahF ((h z).mpr hz)];rfl,);rw[mT,h x,ey];constructor
  .rintro (⟨h1,_⟩|rfl)
   .exact h1
   .exact hz
  .intro h1;by_cases e:x=z
   .exact .inr e
   .exact .inl (h1,(λw=>nomatch w),e,)
 .rw [aah hz];refine(_,8,?_,nT,λx=>?_,by rw[aah (λw=>hz ((h z).mp w))],)
  .rw [aK3];exact(nd.sublist aN,5,λx hx w hw e=>hz (by rw[aOT.mp hw]at e;rw[<-e];exact aN.subset hx),)
  .rw [mT,aNA,ax0,EJ nd,h x];constructor
   .rintro (⟨h1,h2,_⟩|rfl)
    .exact .inl (h1,λg eg e=>h2 (by rw[eg,e];rfl),)
    .exact .inr 8
   .rintro (⟨h1,h2⟩|rfl)
    .refine .inl (h1,λe=>?_,λe=>hz (e ▸h1),);cases o with
     |none=>cases e
     |some g=>exact h2 g 8 (by cases e;rfl)
    .exact .inr 8
inductive sN(K:W.Frag)(vs:List V)(H:Hp)(Q:VK)(E:XK):Prop
 |mk (b lr:Addr) (a q c sh pl:Int) (row:List Int):vs=[.ref b,.int sh,.int pl,.ref lr]->aA H b a q c->c<310000000->H lr=!(.lst (row.map V.int))->lr≠b->row.length<=200->1<=sh->1<=pl->(∀(D:Addr)(H':Hp)(os:List (Option Int))(a' c':Int),H D=none->H' D=!(.lst (os.map au))->os.length=row.length->(∃c,gZ sh pl row os=!c)->aA H' b a' q c'->c'<=c+row.length->SB b H H'->Q (.ref D) H')->sN K vs H Q E
example:(iL gS bD):=by
 let(b,lr,a,q,c,sh,pl,row,rfl,B,hc,hR,kK,hl,hs0,hp0,k,):=h;refine(_,(Zf (Ez (i:=4) (j:=05) 8 nd 8 8 9 8 8 (pc (Zv Zc) (pc (Zv Zc) Zc)) 8)
   (Zf (nZ aDP 8 (ZF (K:=K) 8 (pv 3)) (bu 06 nd) (Zf (HP 07 (Zx (bQ:=(Zp bL)) (oN:=eW) (N:=["_law_one","_law_shelves","_law_board"]) (own:=1) (js:=[1,06]) 6 8 8) 8 nd 8 8 (ZF (K:=K) 8 (pv 4)) (λ_ _ _ _ _ _=>(bu 0 (show List.Nodup (["_law_one","_law_shelves","_law_board"]:List Str) by decide +kernel))) (λ_ _ _ _ _ _=>(Zq aS (aa i9 (pv 0) (pv 1)) (aa i9 (pv 2) (pv 1)) (Zu _))) (λ_ _ _ _ _ _=>(pv 0)))
   (Zf (aY 08 nd pB)
   (Zf (aF (PW.pt (vv (Zq (Bw (K:=K) 8) (pv 06) (pv 4) 8) (vD (Zq mJ (Zl (Zn (K:=K) 8) 8 T.dw arj (pc (pv 07) Zc)) (pv 2) (Zu _))))) (Zj (aY 08 nd (av (Zo (K:=K) 8) (pv 07) (Zm bD hr.m 8 (pc (pv 0) (pc (Zl (Zn (K:=K) 8) 8 T.dw arj (pc (pv 07) Zc)) Zc))) (λ_ _=>8)))) Zw)
   (Zf (aY 4 nd (aa ZT (ER (Zx (bQ:=(Zp bL)) (oN:=eW) (N:=["_law_one","_law_gone","_law_board"]) (own:=1) (js:=[08,06]) 6 8 8) 8 (ZF (K:=K) 8 (pv 4)) (λ_ _ _ _ _ _=>(bu 0 (show List.Nodup (["_law_one","_law_gone","_law_board"]:List Str) by decide +kernel))) (λ_ _ _ _ _ _=>(PW.pt (vv (Zq gE (pv 0) (pv 1) (Zu _)) (vD (Zq gE (pv 0) (pv 2) (Zu _)))))) (λ_ _ _ _ _ _=>(pv 0))) (Zv (pc (pv 06) Zc))))
   (Zj (ZC (lI (K:=K) 8 (bK aTF aMf aUV ZD (pv 05) (pc (pv 08) Zc))))))))))
   (Zj (Zr (pv 05))))),?_,)
 refine((sL 0),λl0 oX=>((sL 0),λlf oW=>(109,?_,),),);try dsimp only
 have s0:=(Zb oX (.lst [])).trans (Zb oW (.lst []));have e0:upd (upd H l0 (.lst [])) lf (.lst []) l0=!(.lst []):=Zb oW _ _ _ Za;have NI:upd (upd H l0 (.lst [])) lf (.lst []) lf=!(.lst []):=Za;have oV:H lf=none:=(Zb oX (.lst [])).free oW;have Tp:lf≠l0:=λz=>by rw[z,Za]at oW;cases oW
 have Dl:b≠lf:=Ze B.at' oV;have nrf:lr≠lf:=Ze hR oV;have B0:=B.same s0;generalize upd (upd H l0 (.lst [])) lf (.lst [])=G0 at *;refine(_,8,lr,8,(_,ah.of (s0 _ _ hR),),PX (K:=K) (a:=lr) (xs:=row.map V.int) (λi σ G=>∃(v6 v7 v8:Option V)(lt:Addr)(TT:List Int)(os:List (Option Int))(a' c':Int),σ=[!(.ref b),!(.int sh),!(.int pl),!(.ref lr),!(.ref lt),!(.ref lf),v6,v7,v8]/\lt≠lf/\lt≠b/\G lt=!(.lst (TT.map V.int))/\TT.length<=i/\G lf=!(.lst (os.map au))/\os.length=i/\aA G b a' q c'/\c'<=c+i/\SB b H G/\TT.Nodup/\∃S:List Int×Nat,bE sh pl row os i=!S/\S.1.Nodup/\∀x,x∈TT↔x∈S.1)
  (none,none,none,l0,[],[],a,c,8,aUP Tp,(λz=>by rw[z,B.at']at oX;cases oX),e0,bbI _,NI,8,B0,7,(λx o _ e=>s0 _ _ e),bd8,([],0),8,bd8,λ_=>Iff.rfl,) (λi σ G _ h=>by let(_,_,_,_,_,_,_,_,_,_,_,_,_,_,_,_,_,sb,_,):=h;exact ah.of (sb _ _ kK hR)) ?_ ?_,)
 .clear s0 e0 NI B0;rintro i x σ G hx ⟨v6,v7,v8,lt,TT,os,a',c',rfl,ve,Dh,elt,JW,ef,hos,Bg,hcg,sb,nT,S,Gx,nS,DH⟩;let(z,hz,rfl,):=nX hx;have hi:i<row.length:=(aFR.mp hz).1;have eg:row.getD i 0=z:=by rw[aGH,hz];rfl
  have J5:∀y,bT pl (Zi sh (z%sh) TT) z y=bT pl (Zi sh (z%sh) S.1) z y:=λy=>by
   have mm:∀x,x∈Zi sh (z%sh) TT↔x∈Zi sh (z%sh) S.1:=λx=>by rw[af,af,DH x]
   exact YM mm (EV (nT.sublist aOg) (nS.sublist aOg) mm)
  have hin:z∈Zi sh (z%sh) TT↔z∈TT:=(λm=>(af.mp m).1,λm=>af.mpr (m,8,),);have hbig:(TT.map V.int).length<=sizeLine:=aWE (Zk (by rw[ano];lia));refine gN ?_;refine yp λDz JX=>?_;try dsimp only
  refine hide λu1 e1=>?_;refine(_,8,lt,8,(_,ah.of elt,),λls hls=>?_,);refine ZA (K:=K) (a:=lt) (xs:=TT.map V.int) (l:=ls) (λi ys σ G'=>∃v0:Option V,σ=[v0,!(.int sh),!(.int z)]/\ys=(Zi sh (z%sh) (TT.take i)).map V.int/\G'=upd G ls (.lst ys)) (none,115,) (λi ys σ G' _ h=>by let(_,_,_,q,):=h;exact ah.of (by rw[q,Zg (Ze elt hls)];exact elt)) ?_ ?_
  .rintro i x ys σ G hi hxi hys ⟨v0,rfl,rfl,rfl⟩;let(y,ey,rfl,):=nX hxi;have o9:TT.take (i+1)=TT.take i++[y]:=by rw[a8b,ey];rfl
   refine(439,7,439,7,113,?_,);by_cases c:y%sh=z%sh
   .refine aO (by simp[c]) (_,8,dh.of hbig hi hys Za (_,8,?_,rq,),);rw[o9,Zz,ahF c,aP2];rfl
   .refine aQ (by simp[c]) (k7.of hi hys (_,8,?_,8,));rw[o9,Zz,aah c]
  subst e1;rintro ys σ G' _ ⟨v0,rfl,rfl,rfl⟩;rw[ano,aXW];refine gN ?_;try dsimp only
  have ss:=Zb hls (.lst ((Zi sh (z%sh) TT).map V.int));have els:upd G ls (.lst ((Zi sh (z%sh) TT).map V.int)) ls=!(.lst ((Zi sh (z%sh) TT).map V.int)):=Za;have De:ls≠b:=λw=>by rw[w,Bg.at']at hls;cases hls
  have elt:=ss _ _ elt;have ef:=ss _ _ ef;have Bg:=Bg.same ss;have sb:SB b H (upd G ls (.lst ((Zi sh (z%sh) TT).map V.int))):=λx o nx e=>ss _ _ (sb _ _ nx e);generalize upd G ls (.lst ((Zi sh (z%sh) TT).map V.int))=G1 at *;refine gN (i:=08) (v:=.aE) ?_;dsimp only;refine uD (λσ G=>∃(o:Option Int)(a2 c2:Int),σ=[!(.ref b),!(.int sh),!(.int pl),!(.ref lr),!(.ref lt),!(.ref lf),!(.int z),!(.ref ls),!(au o)]/\G lt=!(.lst (TT.map V.int))/\G lf=!(.lst (os.map au))/\aA G b a2 q c2/\c2<=c+(i+1)/\SB b H G/\bT pl (Zi sh (z%sh) TT) z o=true) (λD' _ k'=>?_) ?_
  .refine (121,lt,_,8,.inl (ah.of elt),8,vB _,_,8,?_,);rw[yJ];have k0:=λm=>k' _ _ (none,a',c',8,elt,ef,Bg,7,sb,m,);have mN:(z∈Zi sh (z%sh) TT\/((Zi sh (z%sh) TT).length:Int)<pl)->bT pl (Zi sh (z%sh) TT) z none=true:=λc=>by unfold bT;rw[ahF c];rfl
   by_cases c1:z∈TT
   .exact aQ (by simp[c1]) (aQ 8 (k0 (mN (.inl (hin.mpr c1)))))
   .refine aO (by simp[c1]) (_,8,ls,_,8,.inl (ah.of els),433,?_,);rw[ano];refine ZJ (λc2=>?_) (λc2=>k0 (mN (.inr 7)));have l1:(Zi sh (z%sh) TT).length<=TT.length:=ayM ..;refine(185,ls,_,8,.inl (ah.of els),b,a',q,c',_,8,Bg,7,by rw[ano];lia,by rw[ano];lia,λr a2 c2 G2 r0 r1 B2 hc2 t2=>?_,);rw[ano]at r1;let(g,hg,gm,):=yH r0 r1;have mS:bT pl (Zi sh (z%sh) TT) z (!g)=true:=by unfold bT;rw[aah (λw=>w.elim (λw=>c1 (hin.mp w)) 7)];exact anN gm
    exact(ls,135,ah.of (t2 _ _ De els),hg,gN (k' _ _ (!g,a2,c2,8,t2 _ _ Dh elt,t2 _ _ (aUP Dl) ef,B2,7,sb.trans t2,mS,)),)
  clear elt ef Bg hcg sb els De;rintro _ G3 ⟨o,a2,c2,rfl,elt,ef,Bg,hcg,sb,hm⟩;rw[J5]at hm;let(S',o1,o2,o3,o4,_,):=XJ nS nT DH hm;try dsimp only
  refine hide λu1 e1=>?_;refine(_,8,lt,8,(_,ah.of elt,),λlc nU=>?_,);refine ZA (K:=K) (a:=lt) (xs:=TT.map V.int) (l:=lc) (λj ys σ G=>∃(v0:Option V),σ=[v0,!(au o),!(.int z)]/\ys=((TT.take j).filter (eS (au o) z)).map V.int/\G=upd G3 lc (.lst ys)) (none,115,) (λi ys σ G _ h=>by let(_,_,_,q,):=h;exact ah.of (by rw[q,Zg (Ze elt nU)];exact elt)) ?_ ?_
  .rintro j x ys σ G hj dS hys ⟨v0,rfl,rfl,rfl⟩;let(x0,ex,rfl,):=nX dS;have o9:TT.take (j+1)=TT.take j++[x0]:=by rw[a8b,ex];rfl
   have sc:vL (V.int x0) (au o)=true:=by cases o <;> rfl
   have e1:eS (au o) z x0=(((not (decide (V.int x0=au o)))) && (not (decide (V.int x0=V.int z)))):=8;refine(121,sc,_,8,?_,);cases c1:((not (decide (V.int x0=au o)))) with
   |false=>
    rw[c1]at e1;refine aQ 8 (aQ 8 (k7.of hj hys (_,8,?_,8,)));rw[o9,baC,a6U,aah (by rw[e1,aNq];exact aJD)];simp
   |true=>
    rw[c1,aKX]at e1;refine aO 8 (273,?_,);cases c2:((not (decide (V.int x0=V.int z)))) with
    |false=>
     rw[c2]at e1;refine aQ 8 (k7.of hj hys (_,8,?_,8,));rw[o9,baC,a6U,aah (by rw[e1];decide)];simp
    |true=>
     rw[c2]at e1;refine aO 8 (_,8,dh.of hbig hj hys Za (_,8,?_,rq,),);rw[o9,baC,a6U,ahF e1,aP2];rfl
  subst e1;rintro ys σ G _ ⟨v0,rfl,rfl,rfl⟩;rw[ano,aXW];have hzl:(TT.filter (eS (au o) z)).length<=TT.length:=ayM ..;generalize TT.filter (eS (au o) z)=zs at *;have wG:upd G3 lc (.lst (zs.map V.int)) lc=!(.lst (zs.map V.int)):=Za;refine(_,8,(sL 1),λl1 hl1=>(lc,l1,119,Zb hl1 _ _ _ wG,Za,aWE (Zk (by rw[ano];show _+1<=1000;lia)),λl2 hl2=>gN ?_,),);have s4:=((Zb nU (.lst (zs.map V.int))).trans (Zb hl1 (.lst [V.int z]))).trans (Zb hl2 (.lst (zs.map V.int++[V.int z])));have e2:upd (upd (upd G3 lc (.lst (zs.map V.int))) l1 (.lst [V.int z])) l2 (.lst (zs.map V.int++[V.int z])) l2=!(.lst ((zs++[z]).map V.int)):=by rw[Za,aP2];rfl
  have n2:G3 l2=none:=((Zb nU (.lst (zs.map V.int))).trans (Zb hl1 (.lst [V.int z]))).free hl2;have Ve:=ef;have ef:=s4 _ _ ef;have Fo:=Bg.same s4;try dsimp only
  generalize upd (upd (upd G3 lc (.lst (zs.map V.int))) l1 (.lst [V.int z])) l2 (.lst (zs.map V.int++[V.int z]))=G4 at *;have MT:l2≠lf:=λw=>by rw[w,Ve]at n2;cases n2
  refine(_,8,.inl (8,_,ah.of ef,),_,8,lf,119,ef,Zk (by rw[ano];lia),?_,);refine JX _ _ (108,l2,zs++[z],os++[o],a2,c2,8,MT,(λw=>by rw[w,Bg.at']at n2;cases n2),by rw[Zg MT];exact e2,by rw[a96];show _+1<=_;lia,by rw[Za,aP2];rfl,by rw[a96,hos];rfl,(by rw[Zg Dl];exact Fo.at',Fo.a0,Fo.q0,Fo.q1,Fo.c0,),7,(λx o' nx e=>by rw[Zg (Ze e oV)];exact s4 _ _ (sb _ _ nx e)),o3,S',?_,o2,o4,);show(bE sh pl row (os++[o]) i).bind _=_;rw[P5 _ i 7,Gx,eg,aGH,a9d 7,hos,aNJ];exact o1
 .rintro σ G ⟨v6,v7,v8,lt,TT,os,a',c',rfl,ve,Dh,elt,JW,ef,hos,Bg,hcg,sb,_,S,Gx,_⟩;rw[ano]at hos hcg Gx;exact(_,8,k lf G os a' c' oV ef hos (_,by unfold gZ;rw[ahF hos,Gx];rfl,) Bg hcg sb,)
theorem P4(row:List Int)(b:Int):∀j,((List.range j).filter λi=>decide (row.getD i 0=b)).getLast?=gj row b j
 |0=>rfl
 |j+1=>by
  rw[aIe,baC,a6U,ajw];unfold gj;by_cases c:row.getD j 0=b
  .rw [ahF (anN c),ahF c,ahI];rfl
  .rw [aah (by simpa using c),aah c,aZr];exact P4 row b j
theorem O2(ms:List Nat):mV ms=(ms.map λm:Nat=>(m:Int)).map V.int:=by unfold mV;rw[ba6];rfl
example:(oM CV):=by
 let(sh,pl,a,lm,row,ms,rfl,hS,hM,hs0,hl,hm,hml,k,):=h;refine(_,(Zf (aY 4 nd (aa qp (aa lJ (pv 1) Zh) (Zl (Zn (K:=K) 8) 8 T.dw arj (pc (pv 3) Zc))))
   (Zf (nZ aDP 8 (Hi 8 T.AW (pc (pv 2) Zc)) (ZR (K:=K) (n:=2) 8 8 (Zs (bu 05 nd) (Zs (bu 06 nd) ZQ))) (Zf (aY 07 nd (ER (Zx (bQ:=(Zp dZ)) (oN:=jR) (N:=["_law_i","_law_board","_law_row"]) (own:=1) (js:=[06,2]) 6 8 8) 8 (ZX 8 T.nR (pc (pv 05) Zc)) (λ_ _ _ _ _ _=>(bu 0 (show List.Nodup (["_law_i","_law_board","_law_row"]:List Str) by decide +kernel))) (λ_ _ _ _ _ _=>(Zq aS (av (Zo (K:=K) 8) (pv 2) (pv 0) (λ_ _=>8)) (pv 1) (Zu _))) (λ_ _ _ _ _ _=>(pv 0))))
   (Zj (aF (Zq (Wy (K:=K) (Nat.lt_of_succ_lt hu) 8) (pv 07) (Zv Zc) (Zu _)) (Zf (HP 08 (Zx (bQ:=(Zp dZ)) (oN:=jR) (N:=["_law_mark","_law_j","_law_behind","_law_shelves","_law_board","_law_row"]) (own:=1) (js:=[05,07,0,06,2]) 6 8 8) 8 nd 8 8 (ZF (K:=K) 8 (pv 3)) (λ_ _ _ _ _ _=>(bu 0 (show List.Nodup (["_law_mark","_law_j","_law_behind","_law_shelves","_law_board","_law_row"]:List Str) by decide +kernel))) (λ_ _ _ _ _ _=>(PW.pt (vv (PU cF cF (av (Zo (K:=K) 8) (pv 2) (bN nv Zh) (λ_ _=>8)) (pv 0) (pv 1)) (vD (Zq aS (aa i9 (av (Zo (K:=K) 8) (pv 05) (pv 0) (λ_ _=>8)) (pv 3)) (aa i9 (pv 4) (pv 3)) (Zu _)))))) (λ_ _ _ _ _ _=>(pv 0)))
   (Zj (aY 4 nd (aa ZB (pv 4) (ZO ET 8 T.vd yI (pc (qo (Wz (K:=K) (Nat.lt_of_succ_lt hu) 8) (pv 08) (Zv Zc) (Zu _)) Zc)))))) Zw))))
   (Zj (Zr (pv 4))))),?_,)
 have lM:(mV ms).length=ms.length:=ano ..;have at':∀x,x<row.length->cV (row.map V.int) (x:Int)=!(.int (row.getD x 0)):=λx hx=>ZY (by rw[aGb,aGH,aMp hx];rfl);refine(433,lm,_,8,.inl hM,119,.inr (by rw[lM];lia),gN ?_,);rw[lM];refine(_,8,a,8,(_,hS,),Lx (K:=K) (a:=a) (xs:=row.map V.int) (λj σ G=>∃(v5 v6 v7 v8:Option V),σ=[!(.int sh),!(.int pl),!(.ref a),!(.ref lm),!(.int ((pl-1)*(ms.length:Int)+((List.range j).countP (i7 sh row ms):Nat))),v5,v6,v7,v8]/\ak H G)
  (none,none,none,none,?_,ak.refl _,) (λi σ G _ w9=>by let(_,_,_,_,_,s,):=w9;exact s.seq hS) ?_ ?_,)
 .show _=[_,_,_,_,!(V.int ((pl-1)*(ms.length:Int)+((0:Nat):Int))),_,_,_,_];rw[show(((0:Nat):Int))=0 from rfl,Int.add_zero];rfl
 .rintro j x t σ G hx ⟨v5,v6,v7,v8,rfl,sg⟩ ht;let(z,hz,rfl,):=nX hx;have hj:j<row.length:=(aFR.mp hz).1;have eg:row.getD j 0=z:=by rw[aGH,hz];rfl
  refine(t,_,8,bS.of Za,125,gN (109,gN (8,?_,),),);have s1:=sg.trans (Zb (H:=G) ht (.tup [V.int (j:Int),V.int z]));generalize upd G t (.tup [V.int (j:Int),V.int z])=G1 at *;have ec:(List.range (j+1)).countP (i7 sh row ms)=(List.range j).countP (i7 sh row ms)+(if i7 sh row ms j=true then 1 else 0):=by rw[aIe,a8D,aIX]
  generalize hW:(pl-1)*(ms.length:Int)+((List.range j).countP (i7 sh row ms):Nat)=W at *;refine hide λu1 ee=>?_;refine(121,7,7,λlb hlb=>?_,);refine BA (lo:=0) (n:=((j:Nat):Int).toNat) (l:=lb) (λi ys σ' G'=>∃(v0:Option V),σ'=[v0,!(.int z),!(.ref a)]/\ys=mV ((List.range i).filter λi=>decide (row.getD i 0=z))/\G'=upd G1 lb (.lst ys))
   (none,115,) ?_ ?_
  .rintro i ys σ' G' hi hys ⟨v0,rfl,rfl,rfl⟩;have hi':i<j:=7
   rw[Int.zero_add];have er:((List.range (i+1)).filter λi=>decide (row.getD i 0=z))=((List.range i).filter λi=>decide (row.getD i 0=z))++(if row.getD i 0=z then[i] else[]):=by
    rw[aIe,baC,a6U,ajw];simp only[auA]
   refine(121,a,135,(s1.trans (Zb hlb _)).seq hS,at' i 7,145,?_,);by_cases c:row.getD i 0=z
   .rw [ahF c]at er;refine aO (by rw[c];simp) (_,8,dh.of (by show j<=sizeLine;exact aWE (Zk 7)) hi hys Za (_,8,by rw[er,yG];rfl,rq,),)
   .rw [aah c,aZr]at er;refine aQ (by simpa using c) (k7.of hi hys (_,8,by rw[er],8,))
  subst ee;rintro ys σ' G' _ ⟨v0,rfl,rfl,rfl⟩;rw[show((j:Nat):Int).toNat=j from rfl];have Mx:=P4 row z j;have lB:((List.range j).filter λi=>decide (row.getD i 0=z)).length<=j:=by
   have:=ayM (λi=>decide (row.getD i 0=z)) (List.range j);rwa [ax4]at this
  generalize((List.range j).filter λi=>decide (row.getD i 0=z))=B at *;have s2:=s1.trans (Zb (H:=G1) hlb (.lst (mV B)));have eb:upd G1 lb (.lst (mV B)) lb=!(.lst (mV B)):=Za;generalize upd G1 lb (.lst (mV B))=G2 at *;refine gN ?_;dsimp only;have fin:∀(v7 v8:Option V)(W':Int)(G':Hp),W'=W+(if i7 sh row ms j=true then 1 else 0)->ak H G'->∃(v5 v6 Se Sd:Option V),([!(.int sh),!(.int pl),!(.ref a),!(.ref lm),!(.int W'),!(.int (j:Int)),!(.int z),v7,v8]:St)=[!(.int sh),!(.int pl),!(.ref a),!(.ref lm),!(.int ((pl-1)*(ms.length:Int)+((List.range (j+1)).countP (i7 sh row ms):Nat))),v5,v6,Se,Sd]/\ak H G':=λv7 v8 W' G' e s=>(!(.int (j:Int)),!(.int z),v7,v8,by rw[show W'=(pl-1)*(ms.length:Int)+((List.range (j+1)).countP (i7 sh row ms):Nat) by rw[e,ec,<-hW];split <;> lia],s,);have eB:=eb;rw[O2]at eB;refine(_,8,(sL 0),λl0 oX=>?_,);have s3:=s2.trans (Zb (H:=G2) oX (.lst []));have Vg:=Zb (H:=G2) oX (.lst []) _ _ eb;have Vj:=Zb (H:=G2) oX (.lst []) _ _ eB;have Vl:upd G2 l0 (.lst []) l0=!(.lst (([]:List Int).map V.int)):=Za;generalize upd G2 l0 (.lst [])=G3 at *;refine(lb,l0,_,[],8,8,ah.of Vj,ah.of Vl,_,8,?_,);have J9:i7 sh row ms j=match gj row z j with|some i=>(not (dG sh row ms i j))|none=>false:=by unfold i7 eX;rw[eg] <;> rfl
  by_cases c:B=[]
  .subst c;refine aQ 8 (fin _ _ _ _ ?_ s3);rw[J9,<-Mx];simp
  .refine aO (by cases B with|nil=>exact absurd 8 c|cons _ _=>simp) ?_;have ea:B=B.dropLast++[B.getLast c]:=(List.dropLast_concat_getLast c).symm;have em:gj row z j=!(B.getLast c):=by rw[<-Mx,List.getLast?_eq_some_getLast c]
   have hat:cV (mV B) (-1)=!(.int ((B.getLast c:Nat):Int)):=by
    conv=>lhs;rw[ea,yG]
    exact PL _ _
   generalize B.getLast c=i at *;let(q1,q2,q3,):=vA em;rw[em]at J9;have hr':∀x,bW sh row i j x=((decide (i<x) && decide (x<j)) && decide (row.getD x 0%sh=z%sh)):=λx=>by unfold bW;rw[q2]
   refine hide λu1 ee=>?_;refine(_,8,lm,8,(_,s3.seq hM,),λlo hlo=>?_,);refine ZA (K:=K) (a:=lm) (xs:=mV ms) (l:=lo) (λn ys σ' G'=>∃(v0:Option V),σ'=[v0,!(.int (j:Int)),!(.ref lb),!(.int sh),!(.int z),!(.ref a)]/\ys=mV ((ms.take n).filter (bW sh row i j))/\G'=upd G3 lo (.lst ys))
    (none,115,) (λn ys σ' G' _ (108,q,)=>by rw[q];exact(s3.trans (Zb hlo _)).seq hM) ?_ ?_
   .rintro n x ys σ' G' hn hxn hys ⟨v0,rfl,rfl,rfl⟩;have hn':n<ms.length:=7
    have J6:ms[n]?=!ms[n]:=aMp hn';have ex:x=.int (ms[n]:Int):=by
     unfold mV at hxn;rw[aGb,J6]at hxn;exact(aFB hxn).symm
    subst ex;have mr:=hm _ (aE5 J6);have tk:(ms.take (n+1)).filter (bW sh row i j)=(ms.take n).filter (bW sh row i j)++(if bW sh row i j ms[n]=true then[ms[n]] else[]):=by rw[a8b,J6,baC];show _++List.filter _ [_]=_;rw[a6U,ajw]
    generalize ms[n]=y at *;have big:(mV ms).length<=sizeLine:=by rw[lM];exact aWE (Zk 7)
    have no:bW sh row i j y=false->k7 (mV ms).length (λn ys σ' G'=>∃(v0:Option V),σ'=[v0,!(.int (j:Int)),!(.ref lb),!(.int sh),!(.int z),!(.ref a)]/\ys=mV ((ms.take n).filter (bW sh row i j))/\G'=upd G3 lo (.lst ys)) n (mV ((ms.take n).filter (bW sh row i j))) [!(.int (y:Int)),!(.int (j:Int)),!(.ref lb),!(.int sh),!(.int z),!(.ref a)] (upd G3 lo (.lst (mV ((ms.take n).filter (bW sh row i j))))):=λe=>k7.of hn hys (_,8,by rw[tk,e];simp,8,);refine(121,lb,135,ah.of (Zb hlo _ _ _ Vg),hat,433,?_,);by_cases c1:i<y
    .refine aO (anN 7) (433,?_,);by_cases c2:y<j
     .refine aO (anN 7) (121,a,135,(s3.trans (Zb hlo _)).seq hS,at' y mr,183,7,439,7,113,?_,);by_cases c3:row.getD y 0%sh=z%sh
      .have e:bW sh row i j y=true:=by rw[hr',anN c1,anN c2,anN c3];rfl
       rw[ahF e]at tk;exact aO (anN (by show V.int _=V.int _;rw[c3])) (_,8,dh.of big hn hys Za (_,8,by rw[tk,yG];rfl,rq,),)
      .exact aQ (alG λz'=>c3 (V.int.inj z')) (no (by rw[hr',alG c3,aPY]))
     .exact aQ (alG 7) (aQ 8 (no (by rw[hr',alG c2,aPY,aNq])))
    .exact aQ (alG 7) (_,8,aQ 8 (aQ 8 (no (by rw[hr',alG c1,aNq,aNq]))),)
   subst ee;rintro ys σ' G' _ ⟨v0,rfl,rfl,rfl⟩;rw[lM,aXW];have s4:=s3.trans (Zb (H:=G3) hlo (.lst (mV (ms.filter (bW sh row i j)))));have eo:upd G3 lo (.lst (mV (ms.filter (bW sh row i j)))) lo=!(.lst (((ms.filter (bW sh row i j)).map λm:Nat=>(m:Int)).map V.int)):=by rw[Za,O2]
   generalize upd G3 lo (.lst (mV (ms.filter (bW sh row i j))))=G4 at *;refine gN (121,(sL 0),λl5 wj=>(lo,l5,_,[],8,8,ah.of (Zb wj _ _ _ eo),ah.of Za,?_,),);refine .inr (183,gN (fin _ _ _ _ ?_ (s4.trans (Zb wj _))),);have J8:i7 sh row ms j=(not (ms.any (bW sh row i j))):=J9;rw[J8];by_cases ce:ms.filter (bW sh row i j)=[]
   .rw [ce];have:ms.any (bW sh row i j)=false:=by
     rw[any_eq_false];exact λx hx=>List.filter_eq_nil_iff.mp ce x hx
    rw[this];simp
   .have:ms.any (bW sh row i j)=true:=by
     let(x,hx,):=List.exists_mem_of_ne_nil _ ce;exact aw6.mpr (x,(aCR.mp hx).1,(aCR.mp hx).2,)
    rw[this];simp[ce]
 .rintro σ G ⟨v5,v6,v7,v8,rfl,sg⟩;rw[ano];have q:=k G sg;rw[uG]at q;exact(_,8,q,)
inductive y9(K:W.Frag)(vs:List V)(H:Hp)(Q:VK)(E:XK):Prop
 |mk (b lr:Addr) (a q c:Int) (row:List Int):vs=[.ref b,.ref lr]->aA H b a q c->c<310000000->H lr=!(.lst (row.map V.int))->lr≠b->row.length<=400->(∀(D:Addr)(H':Hp)(ms:List Nat)(a' c':Int),H D=none->H' D=!(.lst (mV ms))->(∀x∈ms,x<row.length)->ms.Pairwise (·<·)->ms.length<=row.length->aA H' b a' q c'->c'<=c+1+row.length->SB b H H'->Q (.ref D) H')->y9 K vs H Q E
example:(jj iH bD):=by
 let(b,lr,a,q,c,row,rfl,B,hc,hR,kK,hl,k,):=h;refine(_,(Zf (Ez (i:=2) (j:=3) 8 nd 8 8 9 8 8 (pc (Zm bD hr.m 8 (pc (pv 0) (pc Zh Zc))) (pc (Zv Zc) Zc)) 8)
   (Zf (nZ aDP 8 (ZX 8 T.nR (pc (Zl (Zn (K:=K) 8) 8 T.dw arj (pc (pv 1) Zc)) Zc)) (bu 4 nd) (Zj (aF (PW.pt (pw_or (Zq aS (pv 2) Zh (Zu _)) (rW (PW.pt (vv (Zq ya (pv 2) Zh (Zu _)) (vD (Zq aS (Zm bD hr.m 8 (pc (pv 0) (pc (av (Zo (K:=K) 8) (Zv (pc Zh (pc Zh Zc))) (aa lJ (pv 2) Zh) (λ_ _=>8)) Zc))) Zh (Zu _)))))))) (Zj (ZC (lI (K:=K) 8 (bK aTF aMf aUV ZD (pv 3) (pc (pv 4) Zc))))) Zw)))
   (Zj (Zr (pv 3))))),?_,)
 refine(_,8,b,a,q,c,4,8,B,7,9,9,λwy a1 c1 H1 w0 w1 B1 hc1 s1=>((sL 0),λlf oW=>(109,?_,),),);try dsimp only
 have s2:=Zb (H:=H1) oW (.lst []);have ef:upd H1 lf (.lst []) lf=!(.lst []):=Za;have Dl:b≠lf:=Ze B1.at' oW;have B2:=B1.same s2;have oV:H lf=none:=Lo s1 B1.at' oW;have u2:SB b H (upd H1 lf (.lst [])):=s1.trans (s2.sb b);generalize upd H1 lf (.lst [])=H2 at *;have lR:(row.map V.int).length=row.length:=ano ..;refine(_,8,lr,_,8,.inl (ah.of (u2 _ _ kK hR)),_,8,7,7,EU (lo:=0) (n:=(((row.map V.int).length:Nat):Int).toNat) (λi σ G=>∃(v4:Option V)(ms:List Nat)(a' c':Int),σ=[!(.ref b),!(.ref lr),!(.int wy),!(.ref lf),v4]/\G lf=!(.lst (mV ms))/\(∀x∈ms,x<i)/\ms.Pairwise (·<·)/\ms.length<=i/\aA G b a' q c'/\c'<=c+1+i/\SB b H G)
  (none,[],a1,c1,8,ef,λx h=>(nomatch h),List.Pairwise.nil,bbI _,B2,7,u2,) ?_ ?_,)
 .rintro i σ G hi ⟨v4,ms,a',c',rfl,gf,m1,m2,m3,Bg,hcg,sb⟩;have hi':i<row.length:=by rw[lR]at hi;lia
  rw[Int.zero_add];refine gN ?_;have TN:∀x∈ms++[i],x<i+1:=λx hx=>by
   rcases a6S.mp hx with h|h
   .have:=m1 x h;lia
   .have e:x=i:=by simpa using h
    lia
  have TM:(ms++[i]).Pairwise (·<·):=by
   rw[pairwise_append];refine(m2,5,λx hx y hy=>?_,);have e:y=i:=by simpa using hy
   have:=m1 x hx;lia
  have yes:∀{a2 c2:Int}{G':Hp},G' lf=!(.lst (mV ms))->aA G' b a2 q c2->c2<=c+1+((i+1:Nat):Int)->SB b H G'->∃(v4:Option V)(ms':List Nat)(a' c':Int),([!(.ref b),!(.ref lr),!(.int wy),!(.ref lf),!(.int (i:Int))]:St)=[!(.ref b),!(.ref lr),!(.int wy),!(.ref lf),v4]/\upd G' lf (.lst (mV ms++[V.int (i:Int)])) lf=!(.lst (mV ms'))/\(∀x∈ms',x<i+1)/\ms'.Pairwise (·<·)/\ms'.length<=i+1/\aA (upd G' lf (.lst (mV ms++[V.int (i:Int)]))) b a' q c'/\c'<=c+1+((i+1:Nat):Int)/\SB b H (upd G' lf (.lst (mV ms++[V.int (i:Int)]))):=λ{a2 c2 G'} g1 g2 g3 g4=>
   (_,ms++[i],a2,c2,8,by rw[Za,yG];rfl,TN,TM,by rw[a96];show _+1<=_;lia,(by rw[Zg Dl];exact g2.at',g2.a0,g2.q0,g2.q1,g2.c0,),g3,λx o nx e=>by rw[Zg (Ze e oV)];exact g4 _ _ nx e,)
  refine yC (λ_ G'=>∃a2 c2:Int,G' lf=!(.lst (mV ms))/\aA G' b a2 q c2/\c2<=c+1+((i+1:Nat):Int)/\SB b H G') (λQ' k'=>?_) ?_
  .refine (145,?_,);have k0:=λv=>k' v G (a',c',gf,Bg,7,sb,);by_cases e1:wy=1
   .exact aO (by rw[e1];simp) (k0 _)
   .refine aQ (by simpa using e1) (433,?_,);by_cases e2:1<wy
    .refine aO (anN e2) (_,8,(sL 2),λp0 hp0=>?_,);have q0:b≠p0:=Ze Bg.at' hp0;have s5:=Zb (H:=G) hp0 (.lst [V.int 2,V.int 05]);obtain⟨n,hn,n0,n1⟩:∃n:Int,cV [V.int 2,V.int 05] (wy-2)=!(.int n)/\0<n/\n<=05:=by
      have:wy=2\/wy=3:=7
      rcases this with rfl|rfl
      .exact (2,8,9,9,)
      .exact (05,8,9,9,)
     refine(183,p0,135,ah.of Za,hn,b,a',q,c',n,8,Bg.same s5,7,7,7,λr a2 c2 G2 r0 r1 B2 hc2 t2=>(113,k' _ _ (a2,c2,t2 _ _ (aUP Dl) (s5 _ _ gf),B2,7,(sb.trans (s5.sb b)).trans t2,),),)
    .exact aQ (alG e2) (k0 _)
  .rintro cc G' ⟨a2,c2,g1,g2,g3,g4⟩;cases cc with
   |true=>exact aO 8 (_,8,.inl (8,_,ah.of g1,),_,8,lf,119,g1,Zk (by unfold mV;rw[ano];lia),yes g1 g2 g3 g4,)
   |false=>exact aQ 8 (_,ms,a2,c2,8,g1,λx hx=>aXp (m1 x hx),m2,7,g2,g3,g4,)
 .rintro σ G ⟨v4,ms,a',c',rfl,gf,m1,m2,m3,Bg,hcg,sb⟩;rw[show(((row.map V.int).length:Nat):Int).toNat=row.length by rw[lR];rfl]at m1 m3 hcg;exact(_,8,k lf G ms a' c' oV gf m1 m2 m3 Bg hcg sb,)
theorem V8(pl:Int)(ms:List Int)(b:Int)(o:Option Int):bO pl ms b (au o)=bT pl ms b o:=by
 unfold bO bT;by_cases c:b∈ms\/(ms.length:Int)<pl
 .rw [ahF c,ahF c];cases o <;> simp[au]
 .rw [aah c,aah c];cases o <;> rfl
theorem O1(sh pl:Int)(row:List Int)(os:List (Option Int)):∀i,cJ sh pl row (os.map au) i=bE sh pl row os i
 |0=>rfl
 |i+1=>by
  show(cJ sh pl row (os.map au) i).bind _=(bE sh pl row os i).bind _;rw[O1 sh pl row os i];have e:(os.map au).getD i .aE=au (os.getD i none):=by
   rw[aGH,aGH,aGb];cases os[i]? <;> rfl
  have v:∀o,vO (au o)=o:=λo=>by cases o <;> rfl
  congr 1
  funext S
  unfold fB dz;rw[e,V8,v]
theorem EH(sh pl:Int)(row:List Int)(os:List (Option Int)):dD sh pl row (os.map au)=gZ sh pl row os:=by
 unfold dD gZ;rw[ano,O1]
noncomputable def cT(n:Int):Int->List V->Bool
 |_,[]=>true
 |z,.int g ::ys=>(decide (z<g) && decide (g<n)) && cT n g ys
 |_,_ ::_=>false
noncomputable def tU(n:Int):Option (List V)->Bool
 |some ys=>cT n (-1) ys
 |none=>false
noncomputable def nV:V->Nat
 | .int g=>g.toNat
 |_=>0
noncomputable def pX:Option (List V)->List Nat
 |some ys=>ys.map nV
 |none=>[]
theorem K5{n:Int}:∀{ys:List V}{z:Int},-1<=z->cT n z ys=true->ys=mV (ys.map nV)/\(∀x∈ys.map nV,z<(x:Int)/\(x:Int)<n)/\(ys.map nV).Pairwise (·<·)
 | [],_,_,_=>(8,(λ_ h=>nomatch h),.nil,)
 |y ::ys,z,hz,h=>by
  cases y with
  |int g=>
   have h':((decide (z<g) && decide (g<n)) && cT n g ys)=true:=h;simp only[aEv,auA]at h';let((h1,h2,),h3,):=h';let(q1,q2,q3,):=K5 7 h3;have eg:((g.toNat:Nat):Int)=g:=7
   refine(?_,λx hx=>?_,?_,)
   .show V.int g ::ys=V.int ((g.toNat:Nat):Int) ::mV (ys.map nV);rw[eg,<-q1]
   .rcases aPx.mp hx with rfl|hx
    .show z<((g.toNat:Nat):Int)/\((g.toNat:Nat):Int)<n;rw[eg];exact(h1,h2,)
    .have:=q2 x hx;lia
   .show (g.toNat ::ys.map nV).Pairwise (·<·);rw[pairwise_cons];exact(λx hx=>by have:=q2 x hx;lia,q3,)
  |_=>exact absurd (show false=true from h) aJD
theorem NX{n:Int}:∀{ms:List Nat}{z:Int},(∀x∈ms,z<(x:Int)/\(x:Int)<n)->ms.Pairwise (·<·)->cT n z (mV ms)=true
 | [],_,_,_=>rfl
 |m ::ms,z,h,p=>by
  rw[pairwise_cons]at p;have h0:=h m (anL ..);show((decide (z<(m:Int)) && decide ((m:Int)<n)) && cT n m (mV ms))=true;rw[anN h0.1,anN h0.2,NX (λx hx=>(by have:=p.1 x hx;lia,(h x (aq4 _ hx)).2,)) p.2];rfl
theorem ye(ms:List Nat):(mV ms).map nV=ms:=by
 unfold mV;rw[ba6];exact(aPW λx _=>agi x).trans (map_id _)
theorem yf{row:List Int}{ms:List Nat}(h:∀x∈ms,x<row.length)(p:ms.Pairwise (·<·)):tU row.length (!(mV ms))=true:=NX (λx hx=>(7,by have:=h x hx;lia,)) p
noncomputable def cQ(sh pl:Int)(row:List Int)(oo mm:Option (List V)):Bool:=match jw sh pl row oo with
 |none=>false
 |some c=>tU row.length mm && decide ((row.length:Int)-bB sh pl row (pX mm)=c)
theorem O0{H:Hp}{x:V}{n:Nat}{mm:Option (List V)}(h:nD H x mm)(g:tU n mm=true):∃lm,x=.ref lm/\H lm=!(.lst (mV (pX mm)))/\(∀y∈pX mm,y<n)/\(pX mm).Pairwise (·<·)/\(pX mm).length<=400:=by
 cases mm with
 |none=>cases g
 |some ys=>
  let((lm,e,h1,),h2,_,):=h;let(q1,q2,q3,):=K5 7 g;exact(lm,e,by rw[h1];exact aFH (λq=>!(HO.lst q)) q1,λy hy=>by have:=(q2 y hy).2;lia,q3,by show(ys.map nV).length<=400;rw[ano];exact h2,)
inductive xK(K:W.Frag)(vs:List V)(H:Hp)(Q:VK)(E:XK):Prop
 |mk (a:Addr) (x:V) (row:List Int) (oo:Option (List V)):vs=[.ref a,x]->ah K H a (row.map V.int)->nD H x oo->(∀H',ak H H'->Q (.bl (tU row.length oo)) H')->xK K vs H Q E
example:(kE CY xV):=by
 let(a,x,row,oo,rfl,hS,hO,k,):=h;refine(_,(Zf (aF (ny (ZW (Zl uL 8 T.qK uK (pc (pv 1) (pc (uP (v:=.ty "list") 8 T.vQ Ar 8) Zc))))) (Zj (Zr aX)) Zw)
   (Zf (aY 2 nd (bN nv Zh))
   (Zf (nZ aDP 8 (ZF (K:=K) 8 (pv 1)) (bu 3 nd) (Zf (aF (PW.pt (pw_or (ny (ZW (Zm xV hr.m 8 (pc (pv 3) Zc)))) (rW (ny (PU cF cF (pv 2) (pv 3) (Zl (Zn (K:=K) 8) 8 T.dw arj (pc (pv 0) Zc))))))) (Zj (Zr aX)) Zw)
   (Zj (aY 2 nd (pv 3)))))
   (Zj (Zr aX))))),?_,)
 cases oo with
 |none=>
  have q:=k H (ak.refl _);rcases hO with rfl|⟨s,rfl⟩|⟨t,xs,rfl,h⟩
  .exact (263,9,_,8,aO 9 q,)
  .exact (263,9,_,8,aO 9 q,)
  .exact (181,oj h,9,_,8,aO 9 q,)
 |some ys=>
 let((lm,rfl,hM,),zW,hkd,):=hO;have k:∀H',ak H H'->Q (.bl (cT row.length (-1) ys)) H':=k;refine(181,om hM,9,_,8,aQ 9 ?_,);dsimp only[bX];refine(_,8,gN ?_,);try dsimp only
 refine(_,8,lm,8,(_,ah.of hM,),PX (K:=K) (a:=lm) (xs:=ys) (λi σ G=>∃(z:Int)(v3:Option V),σ=[!(.ref a),!(.ref lm),!(.int z),v3]/\cT row.length (-1) ys=cT row.length z (ys.drop i)/\ak H G) (-1,111,ak.refl _,) (λi σ G _ h=>by let(_,_,_,_,s,):=h;exact ah.of (s _ _ hM)) ?_ ?_,)
 .rintro i x σ G hx ⟨z,v3,rfl,hz,s1⟩;have hd:ys.drop i=x ::ys.drop (i+1):=by
   let(hi,rfl,):=aFR.mp hx;exact aBj hi
  rw[hd]at hz;have kd:=(hkd x (aE5 hx)).same s1;have bad:cT row.length (-1) ys=false->Q (.bl false) G:=λe=>by have q:=k G s1;rw[e]at q;exact q
  refine gN ?_;try dsimp only
  refine(_,8,x,8,kd,_,8,?_,);by_cases ci:qV x=true
  case neg=>
   refine aO (by rw[acr.mpr ci];rfl) (aO 8 (bad ?_));rw[hz];cases x with
   |int g=>exact absurd 8 ci
   |_=>rfl
  obtain⟨g,rfl⟩:∃g,x=.int g:=by
   cases x with
   |int g=>exact(g,8,)
   |_=>exact absurd ci aJD
  have hz:cT row.length (-1) ys=((decide (z<g) && decide (g<row.length)) && cT row.length g (ys.drop (i+1))):=hz;refine aQ 8 (1457,?_,);by_cases c1:z<g
  case neg=>exact aQ (alG c1) (_,8,aO 8 (bad (by rw[hz,alG c1];rfl)),)
  refine aO (anN c1) (_,8,a,_,8,.inl (s1.seq hS),177,?_,);rw[ano];by_cases c2:g<row.length
  case neg=>exact aO (by rw[alG c2];rfl) (bad (by rw[hz,alG c2,aPY];rfl))
  refine aQ (by rw[anN c2];rfl) ?_;try dsimp only[bX]
  refine(_,8,gN (109,?_,s1,),);rw[hz,anN c1,anN c2];rfl
 .rintro σ G ⟨z,v3,rfl,hz,s1⟩;have q:=k G s1;rw[hz,List.drop_length]at q;exact q
inductive lQ(K:W.Frag)(vs:List V)(H:Hp)(Q:VK)(E:XK):Prop
 |mk (sh pl:Int) (a:Addr) (x y:V) (row:List Int) (oo mm:Option (List V)):vs=[.int sh,.int pl,.ref a,x,y]->ah K H a (row.map V.int)->nD H x oo->nD H y mm->1<=sh->sh<=64->row.length<=400->(∀H',ak H H'->Q (.bl (cQ sh pl row oo mm)) H')->lQ K vs H Q E
example:(iJ vc CQ CY BQ):=by
 let(sh,pl,a,x,y,row,oo,mm,rfl,hS,hO,hM,hs0,hs1,hl,k,):=h;refine(_,(Zf (aY 05 nd (Zm CQ hr.m 8 (pc (pv 0) (pc (pv 1) (pc (pv 2) (pc (pv 3) Zc))))))
   (Zf (aF (PW.pt (pw_or (EC (GQ (pv 05))) (rW (ny (ZW (Zm CY hr.m 8 (pc (pv 2) (pc (pv 4) Zc)))))))) (Zj (Zr aX)) Zw)
   (Zj (Zr (qo aS (aa lJ (Zl (Zn (K:=K) 8) 8 T.dw arj (pc (pv 2) Zc)) (Zm BQ hr.m 8 (pc (pv 0) (pc (pv 1) (pc (pv 2) (pc (pv 4) Zc)))))) (pv 05) (Zu _)))))),?_,)
 refine(441,sh,pl,a,x,row,oo,8,hS,hO,hs0,hs1,hl,λH1 s1=>gN ?_,);try dsimp only
 cases hc:jw sh pl row oo with
 |none=>
  refine(121,aO 8 (aO 8 ?_),);have q:=k H1 s1;unfold cQ at q;rw[hc]at q;exact q
 |some c=>
 refine(121,aQ 8 (121,a,y,row,mm,8,s1.seq hS,hM.same s1,λH2 s2=>(_,8,?_,),),);have s12:=s1.trans s2;by_cases cg:tU row.length mm=true
 case neg=>
  refine aO (by rw[acr.mpr cg];rfl) ?_;have q:=k H2 s12;unfold cQ at q;rw[hc]at q;simp only[acr.mpr cg,aNq]at q;exact q
 let(lm,rfl,eM,hm,hp,l9,):=O0 hM cg;refine aQ (by rw[cg];rfl) ?_;dsimp only[bX];refine(_,8,a,_,8,.inl (s12.seq hS),441,sh,pl,a,lm,row,pX mm,8,s12.seq hS,ah.of (s12 _ _ eM),hs0,hl,hm,7,λH3 s3=>(255,?_,),);have e:decide (V.int (((row.map V.int).length:Int)-bB sh pl row (pX mm))=V.int c)=cQ sh pl row oo mm:=by
  unfold cQ;rw[hc];simp only[cg,aKX];rw[ano,aq6];exact(λh=>V.int.inj h,λh=>aFH V.int h,)
 have q:=k H3 (s12.trans s3);rw[<-e]at q;exact q
theorem NW{H:Hp}(o:Option Int):Kd H (au o):=by
 cases o with
 |none=>exact .inl 8
 |some g=>exact .inr (.inr (.inl (g,8,)))
theorem Kd.sb{b:Addr}{H H':Hp}{y:V}(h:Kd H y)(n:y≠.ref b)(s:SB b H H'):Kd H' y:=by
 rcases h with h|h|h|h|⟨a,xs,e,h⟩
 .exact .inl h
 .exact .inr (.inl h)
 .exact .inr (.inr (.inl h))
 .exact .inr (.inr (.inr (.inl h)))
 .have na:a≠b:=λz=>n (by rw[e,z]);exact .inr (.inr (.inr (.inr (a,xs,e,h.imp (s _ _ na) (s _ _ na),))))
def Off(N:Addr->Prop)(y:V):Prop:=∀a,y=.ref a->¬N a
theorem KJ{N:Addr->Prop}{b:Addr}{y:V}(h:Off N y)(n:N b):y≠.ref b:=λe=>h b e n
def uQ(N:Addr->Prop)(H:Hp)(x:V):Prop:=∃oo,nD H x oo/\Off N x/\∀ys,oo=!ys->∀y∈ys,Off N y
theorem uQ.mono{N M:Addr->Prop}{H:Hp}{x:V}(h:uQ N H x)(m:∀a,M a->N a):uQ M H x:=by let(oo,a,c,d,):=h;exact(oo,a,λq e z=>c q e (m q z),λys ey y hy q e z=>d ys ey y hy q e (m q z),)
theorem uQ.sb{N:Addr->Prop}{b:Addr}{H H':Hp}{x:V}(h:uQ N H x)(nb:N b)(s:SB b H H'):uQ N H' x:=by
 let(oo,a,n,c,):=h;refine(oo,?_,n,c,);have n:=KJ n nb;cases oo with
 |some ys=>
  let((lo,e,h1,),h2,h3,):=a;exact((lo,e,s _ _ (λz=>n (by rw[e,z])) h1,),h2,λy hy=>(h3 y hy).sb (KJ (c ys 8 y hy) nb) s,)
 |none=>
  rcases a with a|a|⟨q,xs,e,a⟩
  .exact .inl a
  .exact .inr (.inl a)
  .exact .inr (.inr (q,xs,e,s _ _ (λz=>n (by rw[e,z])) a,))
def LK(N:Addr->Prop)(H:Hp)(l:Addr)(n:Nat):Prop:=¬N l/\∃ys,H l=!(.lst ys)/\ys.length<=n/\∀y∈ys,Kd H y/\Off N y
theorem LK.ou{N:Addr->Prop}{H:Hp}{l:Addr}{n:Nat}(h:LK N H l n)(hn:n<=400):uQ N H (.ref l):=by
 let(nb,ys,e,hl,hk,):=h;exact(!ys,((l,8,e,),bbd hl hn,λy hy=>(hk y hy).1,),(λa z=>by cases z;exact nb),λzs ez y hy=>by cases ez;exact(hk y hy).2,)
theorem Bq{xs:List V}{lo hi:Option Int}{y:V}(h:y∈ao xs lo hi):y∈xs:=aJt (aKa h)
structure Bt(N:Addr->Prop)(H G:Hp)(b lc lr:Addr)(q:Int)(ys:List V)(row:List Int)(cm:Int):Prop where
 box:∃a' c',aA G b a' q c'/\c'<=cm
 ch:G lc=!(.lst ys)
 rw':G lr=!(.lst (row.map V.int))
 sb:SB b H G
 nn:∀a,N a->G a≠none
theorem Bt.same{N:Addr->Prop}{H G G':Hp}{b lc lr:Addr}{q:Int}{ys:List V}{row:List Int}{cm:Int}(h:Bt N H G b lc lr q ys row cm)(s:ak G G'):Bt N H G' b lc lr q ys row cm:=by
 let(a',c',B,hc,):=h.box;refine((a',c',B.same s,hc,),s _ _ h.ch,s _ _ h.rw',λx o n e=>s _ _ (h.sb x o n e),λa n e=>?_,);cases q:G a with
 |none=>exact h.nn a n q
 |some o=>rw[s _ _ q]at e;cases e
theorem Bt.take{N:Addr->Prop}{H G G':Hp}{b lc lr:Addr}{q:Int}{ys:List V}{row:List Int}{cm rV a' c':Int}(h:Bt N H G b lc lr q ys row cm)(n1:lc≠b)(n2:lr≠b)(B:aA G' b a' q c')(hc:c'<=rV)(s:SB b G G'):Bt N H G' b lc lr q ys row rV:=by
 refine((a',c',B,hc,),s _ _ n1 h.ch,s _ _ n2 h.rw',h.sb.trans s,λa n e=>?_,);by_cases z:a=b
 .rw [z,B.at']at e;cases e
 .cases q:G a with
  |none=>exact h.nn a n q
  |some o=>rw[s _ _ z q]at e;cases e
theorem wK{xs:List V}{r:Int}(h0:0<=r)(h1:r<(xs.length:Int)):∃y,cV xs r=!y/\y∈xs:=by
 have hj:r.toNat<xs.length:=7
 have q:cV xs ((r.toNat:Nat):Int)=!xs[r.toNat]:=ZY (aMp hj);rw[show((r.toNat:Nat):Int)=r by lia]at q;exact(_,q,apl hj,)
theorem V7{N:Addr->Prop}{H:Hp}:uQ N H .aE:=⟨none,.inl 8,(λ_ z=>by cases z),λ_ z=>by cases z⟩
theorem V6{N:Addr->Prop}{H:Hp}{s:Str}:uQ N H (.str s):=⟨none,.inr (.inl (s,8,)),(λ_ z=>by cases z),λ_ z=>by cases z⟩
theorem V5{N:Addr->Prop}{a:Addr}{H:Hp}{xs:List V}(h:H a=!(.tup xs))(n:¬N a):uQ N H (.ref a):=⟨none,.inr (.inr (a,xs,8,h,)),(λ_ z=>by cases z;exact n),λ_ z=>by cases z⟩
theorem LA{R:V->PyData->Prop}{B:PyData->Prop}:∀{ys:List V},(∀y∈ys,∃d,R y d/\B d)->∃ds,Paired R ys ds/\ds.length=ys.length/\∀d∈ds,B d
 | [],_=>⟨[],.nil,8,λ_ h=>nomatch h⟩
 |y ::ys,h=>by
  let(d,h1,h2,):=h y (anL ..);let(ds,h3,h4,h5,):=LA λz hz=>h z (aq4 _ hz);exact(d ::ds,.cons h1 h3,by rw[acz,acz,h4],λe he=>(aPx.mp he).elim (λq=>q ▸h2) (h5 e),)
def dH(N:Addr->Prop)(H:Hp)(n B:Nat)(y:V):Prop:=∃d,n9 N H n y d/\d.shown.length<=B
theorem dH.keep{N M:Addr->Prop}{H H':Hp}{n B:Nat}{y:V}(h:dH N H n B y)(m:∀a,M a->N a)(k:∀a o,¬N a->H a=!o->H' a=!o):dH M H' n B y:=by let(d,h1,h2,):=h;exact(d,h1.keep m k,h2,)
theorem dH.same{N:Addr->Prop}{H H':Hp}{n B:Nat}{y:V}(h:dH N H n B y)(s:ak H H'):dH N H' n B y:=h.keep (λ_ z=>z) λa o _ e=>s a o e
theorem dH.sb{N:Addr->Prop}{b:Addr}{H H':Hp}{n B:Nat}{y:V}(h:dH N H n B y)(nb:N b)(s:SB b H H'):dH N H' n B y:=h.keep (λ_ z=>z) λa o na e=>s a o (λz=>na (z ▸nb)) e
theorem dH.up{N:Addr->Prop}{H:Hp}{n m B C:Nat}{y:V}(h:dH N H n B y)(h1:n<=m)(h2:B<=C):dH N H m C y:=by let(d,q1,q2,):=h;exact(d,q1.up h1,bbd q2 h2,)
theorem dH.list{N:Addr->Prop}{H:Hp}{n m B:Nat}{l:Addr}{ys:List V}(hN:¬N l)(e:H l=!(.lst ys))(hl:ys.length<=m)(h:∀y∈ys,dH N H n B y):dH N H (n+1) (m*(B+2)+3) (.ref l):=by
 let(ds,h1,h2,h3,):=LA h;exact(.list ds,.inr (l,ys,ds,8,hN,h1,.inl (e,8,),),QT h3 7,)
theorem dH.tup{N:Addr->Prop}{H:Hp}{n m B:Nat}{l:Addr}{ys:List V}(hN:¬N l)(e:H l=!(.tup ys))(hl:ys.length<=m)(h:∀y∈ys,dH N H n B y):dH N H (n+1) (m*(B+2)+3) (.ref l):=by
 let(ds,h1,h2,h3,):=LA h;exact(.tuple ds,.inr (l,ys,ds,8,hN,h1,.inr (e,8,),),YL h3 7,)
theorem kq{N:Addr->Prop}{H:Hp}:dH N H 0 13 .aE:=(.none,8,6,)
theorem Cy{N:Addr->Prop}{H:Hp}(b:Bool):dH N H 0 13 (.bl b):=(.bool b,8,by cases b <;> decide +kernel,)
theorem Am{N:Addr->Prop}{H:Hp}{g:Int}(h:g.natAbs<10 ^ 12):dH N H 0 13 (.int g):=(.int g,(8,by
 have:g.natAbs.log2<=g.natAbs:=Nat.log2_le_self _;by_cases z:g.natAbs=0
 .rw [z];decide
 .exact a5i ((Nat.log2_lt z).mpr (aDF h (9:10 ^ 12<2 ^ 40))) 9,),PyData.shown_int_le h,)
def E1(os:List (Option Int)):Prop:=∀o∈os,∀g,o=!g->g.natAbs<10 ^ 12
theorem Vy{N:Addr->Prop}{H:Hp}{os:List (Option Int)}(h:E1 os){y:V}(hy:y∈os.map au):dH N H 0 13 y:=by
 let(o,ho,rfl,):=aFN.mp hy;cases o with
 |none=>exact kq
 |some g=>exact Am (h _ ho g 8)
theorem NV{sh pl:Int}{row:List Int}{os:List V}:∀{i:Nat}{S:List Int×Nat},i<=row.length->cJ sh pl row os i=!S->(∀x∈S.1,x∈row)/\∀j g,j<i->os.getD j .aE=.int g->g∈row
 |0,S,_,h=>by
  have:S=([],0):=(aFB h).symm;subst this;exact((λx hx=>by cases hx),λj g hj=>absurd hj (aRO _),)
 |i+1,S,hi,h=>by
  have h':(cJ sh pl row os i).bind (fB sh pl (row.getD i 0) (os.getD i .aE))=!S:=h;cases e:cJ sh pl row os i with
  |none=>rw[e]at h';cases h'
  |some T=>
   let(h1,h2,):=NV 7 e;rw[e]at h';have h3:fB sh pl (row.getD i 0) (os.getD i .aE) T=!S:=h';have hr:row.getD i 0∈row:=by rw[aGH,aMp 7];exact apl _
   unfold fB at h3;split at h3
   case isFalse=>cases h3
   case isTrue c=>
    have hg:∀g,os.getD i .aE=.int g->g∈row:=λg eg=>by
     rw[eg]at c;unfold bO at c;split at c
     .exact absurd (adw c) (λq=>by cases q)
     .exact h1 g (af.mp (adw c)).1
    refine(?_,λj g hj eg=>?_,)
    .split at h3
     .cases h3;exact h1
     .cases h3;intro x hx;rcases a6S.mp hx with hx|hx
      .refine h1 x ?_;cases q:vO (os.getD i .aE) with
       |none=>rw[q]at hx;exact hx
       |some g=>rw[q]at hx;exact baK hx
      .rw [aOT.mp hx];exact hr
    .by_cases q:j<i
     .exact h2 j g q eg
     .have:j=i:=7
      subst this;exact hg g eg
theorem sS{sh pl:Int}{row:List Int}{os:List (Option Int)}(bd:rX 9999 row)(h:(dD sh pl row (os.map au)).isSome=true):E1 os:=by
 unfold dD at h;split at h
 case isFalse=>cases h
 case isTrue hl=>
  rw[ano]at hl;cases e:cJ sh pl row (os.map au) row.length with
  |none=>rw[e]at h;cases h
  |some S=>
   intro o ho g eg;let(j,hj,ej,):=akv ho;have:=(NV (bbI _) e).2 j g 7 (by rw[aGH,aGb,aMp hj,ej,eg];rfl);have b:=bd g this;exact bay (7:g.natAbs<=9999) 9
def KR(N:Addr->Prop)(H:Hp)(y:V):Prop:=(Kd H y/\Off N y)/\dH N H 1 2000 y
theorem KR.same{N:Addr->Prop}{H H':Hp}{y:V}(h:KR N H y)(s:ak H H'):KR N H' y:=((h.1.1.same s,h.1.2,),h.2.same s,)
theorem KR.sb{N:Addr->Prop}{b:Addr}{H H':Hp}{y:V}(h:KR N H y)(nb:N b)(s:SB b H H'):KR N H' y:=((h.1.1.sb (KJ h.1.2 nb) s,h.1.2,),h.2.sb nb s,)
theorem Em{N:Addr->Prop}{H:Hp}:KR N H .aE:=(⟨.inl 8,λ_ z=>by cases z⟩,kq.up 9 9,)
theorem tZ{N:Addr->Prop}{H:Hp}(b:Bool):KR N H (.bl b):=(⟨.inr (.inl (_,8,)),λ_ z=>by cases z⟩,(Cy b).up 9 9,)
theorem lH{N:Addr->Prop}{H:Hp}{g:Int}(h:g.natAbs<10 ^ 12):KR N H (.int g):=(⟨.inr (.inr (.inl (_,8,))),λ_ z=>by cases z⟩,(Am h).up 9 9,)
theorem NU{N:Addr->Prop}{H:Hp}{s:Str}(h:(PyData.shown (.str s)).length<=2000):KR N H (.str s):=(⟨.inr (.inr (.inr (.inl (_,8,)))),λ_ z=>by cases z⟩,.str s,.inl 8,h,)
theorem Om{N:Addr->Prop}{H:Hp}{os:List (Option Int)}(h:E1 os){y:V}(hy:y∈os.map au):KR N H y:=by
 let(o,ho,rfl,):=aFN.mp hy;cases o with
 |none=>exact Em
 |some g=>exact lH (h _ ho g 8)
def pC(N:Addr->Prop)(H:Hp)(x:V):Prop:=uQ N H x/\dH N H 2 900000 x
theorem pC.sb{N:Addr->Prop}{b:Addr}{H H':Hp}{x:V}(h:pC N H x)(nb:N b)(s:SB b H H'):pC N H' x:=(h.1.sb nb s,h.2.sb nb s,)
theorem pC.mono{N M:Addr->Prop}{H:Hp}{x:V}(h:pC N H x)(m:∀a,M a->N a):pC M H x:=(h.1.mono m,h.2.keep m λ_ _ _ e=>e,)
def LR(N:Addr->Prop)(H:Hp)(l:Addr)(n:Nat):Prop:=¬N l/\∃ys,H l=!(.lst ys)/\ys.length<=n/\∀y∈ys,KR N H y
theorem LR.same{N:Addr->Prop}{H H':Hp}{l:Addr}{n:Nat}(h:LR N H l n)(s:ak H H'):LR N H' l n:=by
 let(nb,ys,e,hl,hk,):=h;exact(nb,ys,s _ _ e,hl,λy hy=>(hk y hy).same s,)
theorem LR.ou{N:Addr->Prop}{H:Hp}{l:Addr}{n:Nat}(h:LR N H l n)(hn:n<=400):pC N H (.ref l):=by
 let(nb,ys,e,hl,hk,):=h;refine(LK.ou (n:=n) (nb,ys,e,hl,λy hy=>(hk y hy).1,) hn,?_,);exact(dH.list nb e (bbd hl hn) λy hy=>(hk y hy).2).up (bbI _) 9
theorem LR.mk{N:Addr->Prop}{H:Hp}{l:Addr}{ys:List V}{n:Nat}(hN:∀a,N a->H a≠none)(h:H l=none)(hl:ys.length<=n)(hk:∀y∈ys,KR N H y):LR N (upd H l (.lst ys)) l n:=(λz=>hN l z h,ys,Za,hl,λy hy=>(hk y hy).same (Zb h _),)
theorem OZ{N:Addr->Prop}{H:Hp}:pC N H .aE:=(V7,kq.up 9 9,)
theorem OY{N:Addr->Prop}{H:Hp}{s:Str}(h:(PyData.shown (.str s)).length<=2000):pC N H (.str s):=(V6,.str s,.inl 8,bbd h 9,)
theorem OX{N:Addr->Prop}{a:Addr}{H:Hp}{xs:List V}(h:H a=!(.tup xs))(n:¬N a)(hl:xs.length<=400)(hk:∀y∈xs,KR N H y):pC N H (.ref a):=(V5 h n,(dH.tup n h hl λy hy=>(hk y hy).2).up (bbI _) 9,)
inductive jZ(K:W.Frag)(vs:List V)(H:Hp)(Q:VK)(E:XK):Prop
 |mk (b lc lr:Addr) (a q c:Int) (row:List Int) (os:List (Option Int)):vs=[.ref b,.ref lc,.ref lr]->aA H b a q c->c<320000000->H lc=!(.lst (os.map au))->H lr=!(.lst (row.map V.int))->lc≠b->lr≠b->row.length<=100->os.length=row.length->E1 os->rX 9999 row->(∀(x:V)(H':Hp)(a' c':Int),pC (λa=>H a≠none/\a≠lc) H' x->aA H' b a' q c'->c'<=c+05->SB b H H'->Q x H')->jZ K vs H Q E
example:(jm iM bD):=by
 let(b,lc,lr,a,q,c,row,os,rfl,B,hc,hC,hR,rO,zD,hrl,zW,Cr,bd,k,):=h;refine(_,(Zf (uN (nY (pc (Zm bD hr.m 8 (pc (pv 0) (pc Zh Zc))) (pc (Zm bD hr.m 8 (pc (pv 0) (pc (Zl (LS 8) 8 T.AL HM (pc Zh (pc (Zl (Zn (K:=K) 8) 8 T.dw arj (pc (pv 1) Zc)) Zc))) Zc))) Zc))) (ZR (K:=K) (n:=2) 8 8 (Zs (bu 3 nd) (Zs (bu 4 nd) ZQ))))
   (Zf (aY 05 nd (Zv (pc pB (pc aX (pc aX (pc wM (pc (Zv (pc Zh Zc)) (pc (nY (pc pB Zc)) (pc (bN nv Zh) (pc (aa K1 Zh Zh) (pc Zh Zc)))))))))))
   (Zf (aF (Zq aS (pv 3) Zh (Zu _)) (Zj (Zr (av (Zo (K:=K) 8) (Zv (pc pB (pc (Zv Zc) (pc (ZO (Q4 (K:=K) 8) 8 T.Fq QK (pc (pv 1) Zc)) (pc (aa ZT (pv 1) (Zv (pc pB Zc))) (pc (ZK (ZL (K:=K) 8) (pv 1) (ZE Zh) ZI) (pc (ZK (ZL (K:=K) 8) (pv 1) ZI (ZE (bN nv Zh))) (pc wM (pc (Zv (pc (pv 1) Zc)) Zc))))))))) (Zm bD hr.m 8 (pc (pv 0) (pc Zh Zc))) (λ_ _=>8)))) Zw)
   (Zf (aF (Zq (Ol (K:=K) 0 (pZ hr 0 9) 8) (pv 1) (Zv Zc) (Zu _)) (Zj (Zr (Zv (pc (av (Zo (K:=K) 8) (pv 05) (Zm bD hr.m 8 (pc (pv 0) (pc Zh Zc))) (λ_ _=>8)) Zc)))) Zw)
   (Zf (aY 06 nd (av (Zo (K:=K) 8) (pv 2) (Zm bD hr.m 8 (pc (pv 0) (pc (Zl (Zn (K:=K) 8) 8 T.dw arj (pc (pv 2) Zc)) Zc))) (λ_ _=>8)))
   (Zf (aY 07 nd (Zv (pc (aa ZT (ZK (ZL (K:=K) 8) (pv 1) ZI (ZE (pv 4))) (ZK (ZL (K:=K) 8) (pv 1) (ZE (aa ZB (pv 4) Zh)) ZI)) (pc (aa ZT (aa ZT (ZK (ZL (K:=K) 8) (pv 1) ZI (ZE (pv 4))) (ZK (ZL (K:=K) 8) (pv 1) (ZE (pv 4)) (ZE (aa ZB (pv 4) Zh)))) (ZK (ZL (K:=K) 8) (pv 1) (ZE (pv 4)) ZI)) (pc (Hw (K:=K) 8 (pv 1) ZI ZI (ZE (bN nv Zh))) Zc)))))
   (Zf (aY 07 nd (aa ZT (pv 07) (rA (Zx (bQ:=(Zp dg)) (oN:=kZ) (N:=["_law_thing","_law_choice","_law_at"]) (own:=1) (js:=[1,4]) 6 8 8) 8 (O6 (K:=K) 8 (nY (pc (av (Zo (K:=K) 8) (pv 05) (Zm bD hr.m 8 (pc (pv 0) (pc Zh Zc))) (λ_ _=>8)) (pc (pv 06) (pc pB (pc (pv 06) Zc)))))) (λ_ _ _ _ _ _=>(bu 0 (show List.Nodup (["_law_thing","_law_choice","_law_at"]:List Str) by decide +kernel))) (λ_ _ _ _ _ _=>(aa ZT (aa ZT (ZK (ZL (K:=K) 8) (pv 1) ZI (ZE (pv 2))) (Zv (pc (pv 0) Zc))) (ZK (ZL (K:=K) 8) (pv 1) (ZE (aa ZB (pv 2) Zh)) ZI))))))
   (Zj (Zr (av (Zo (K:=K) 8) (pv 07) (aa lJ (pv 3) Zh) (λ_ _=>8))))))))))),?_,)
 obtain⟨N,hN⟩:∃N:Addr->Prop,∀a,N a↔(H a≠none/\a≠lc):=(λa=>H a≠none/\a≠lc,λ_=>Iff.rfl,);have nC:¬N lc:=λz=>((hN lc).mp z).2 8;have nB:N b:=(hN b).mpr (by rw[B.at'];exact aa1 _,aUP rO,);have nE:∀a,N a->H a≠none:=λa z=>((hN a).mp z).1;have k:∀(x:V)(H':Hp)(a' c':Int),pC N H' x->aA H' b a' q c'->c'<=c+05->SB b H H'->Q x H':=λx H' a' c' th=>k x H' a' c' (th.mono λa z=>(hN a).mpr z);have hkd:∀{G:Hp},∀y∈os.map au,KR N G y:=λy hy=>Om Cr hy;have II:∀{G:Hp},∀y∈os.map au,dH N G 0 13 y:=λy hy=>Vy Cr hy;have MV:(os.map au).length<=100:=by rw[ano];lia
 have Z:Bt N H H b lc lr q (os.map au) row c:=((a,c,B,aaP _,),hC,hR,(λ_ _ _ e=>e),nE,);generalize hys:os.map au=ys at *;refine hide λu1 e1=>?_;refine(_,8,b,a,q,c,08,8,B,7,9,9,λwy a1 c1 G1 w0 w1 B1 hc1 t1=>?_,);have Z:=Z.take rO zD (rV:=c+1) B1 7 t1;refine(121,lc,_,8,.inl (ah.of Z.ch),109,b,a1,q,c1,_,8,B1,7,by split <;> lia,by split <;> lia,λat' a2 c2 G2 Ek Vr B2 hc2 t2=>((sL 2),λtu htu=>(tu,_,8,bS.of Za,125,gN (109,gN (8,?_,),),),),);have Z:=(Z.take rO zD (rV:=c+2) B2 7 t2).same (Zb htu (.tup [.int wy,.int at']));subst e1;try dsimp only
 generalize upd G2 tu (.tup [.int wy,.int at'])=G3 at *;clear B B1 B2 t1 t2 hc1 hc2 hC hR htu;refine hide λu1 e1=>?_;refine((sL 1),λl1 hl1=>?_,);have MR:¬N l1:=λz=>Z.nn _ z hl1;have Z:=Z.same (Zb hl1 (.lst [.int 1]));have f1:upd G3 l1 (.lst [.int 1]) l1=!(.lst [.int 1]):=Za;generalize upd G3 l1 (.lst [.int 1])=G4 at *;refine((sL 1),λt1 ht1=>?_,);have MQ:¬N t1:=λz=>Z.nn _ z ht1;have Z:=Z.same (Zb ht1 (.tup [.aE]));have f1:=Zb ht1 (.tup [.aE]) _ _ f1;have f2:upd G4 t1 (.tup [.aE]) t1=!(.tup [.aE]):=Za;generalize upd G4 t1 (.tup [.aE])=G5 at *;refine(183,(9,9,9,),(sL 09),λlo hlo=>gN ?_,);subst e1;try dsimp only
 have hod:LR N (upd G5 lo (.lst [V.aE,.bl true,.bl false,.str "1",.ref l1,.ref t1,.int (-1),.int ((10:Int) ^ (09:Int).toNat),.int 0])) lo 09:=LR.mk Z.nn hlo (by show 09<=09;decide) λy hy=>by
  simp only[acu,aYt,a5s]at hy;rcases hy with rfl|rfl|rfl|rfl|rfl|rfl|rfl|rfl|rfl
  .exact Em
  .exact tZ _
  .exact tZ _
  .exact NU 6
  .exact ((.inr (.inr (.inr (.inr (109,.inl f1,)))),λ_ z=>by cases z;exact MR,),(dH.list (m:=1) MR f1 9 λy hy=>by rw[aOT.mp hy];exact Am 9).up 9 9,)
  .exact ((.inr (.inr (.inr (.inr (109,.inr f2,)))),λ_ z=>by cases z;exact MQ,),(dH.tup (m:=1) MQ f2 9 λy hy=>by rw[aOT.mp hy];exact kq).up 9 9,)
  .exact lH 9
  .exact lH 9
  .exact lH 9
 have uf:∃gc,upd G5 lo (.lst [V.aE,.bl true,.bl false,.str "1",.ref l1,.ref t1,.int (-1),.int ((10:Int) ^ (09:Int).toNat),.int 0]) lo=!(.lst gc)/\gc.length=09:=(_,Za,8,);have Z:=Z.same (Zb hlo (.lst [V.aE,.bl true,.bl false,.str "1",.ref l1,.ref t1,.int (-1),.int ((10:Int) ^ (09:Int).toNat),.int 0]));generalize upd G5 lo (.lst [V.aE,.bl true,.bl false,.str "1",.ref l1,.ref t1,.int (-1),.int ((10:Int) ^ (09:Int).toNat),.int 0])=G6 at *;clear f1 f2 hl1 ht1 hlo;refine(145,?_,);by_cases cw:wy=0
 .subst cw;refine aO 9 ((sL 0),λl1 hl1=>?_,);have g1:LR N (upd G6 l1 (.lst [])) l1 200:=LR.mk Z.nn hl1 (by show 0<=200;decide) λy hy=>nomatch hy;have Z:=Z.same (Zb hl1 (.lst []));generalize upd G6 l1 (.lst [])=G7 at *;refine(_,8,lc,_,8,.inl (ah.of Z.ch,λt2 zU=>?_,),);have IW:¬N t2:=λz=>Z.nn _ z zU;have Z:=Z.same (Zb zU (.tup ys));have g1:=g1.same (Zb zU (.tup ys));have g2:upd G7 t2 (.tup ys) t2=!(.tup ys):=Za;generalize upd G7 t2 (.tup ys)=G8 at *;refine(_,8,(sL 1),λl3 hl3=>?_,);have Z:=Z.same (Zb hl3 (.lst [.aE]));have g1:=g1.same (Zb hl3 (.lst [.aE]));have g2:=Zb hl3 (.lst [.aE]) _ _ g2;have g3:upd G8 l3 (.lst [.aE]) l3=!(.lst [.aE]):=Za;generalize upd G8 l3 (.lst [.aE])=G9 at *;refine(lc,l3,119,Z.ch,g3,aWE (Zk (show ys.length+1<=1000 by lia)),λl4 zZ=>?_,);have sm:=Zb zZ (.lst (ys++[.aE]));have g4:LR N (upd G9 l4 (.lst (ys++[.aE]))) l4 200:=LR.mk Z.nn zZ (by rw[a96];show ys.length+1<=200;lia) λy hy=>(a6S.mp hy).elim (hkd y) λh=>by rw[aOT.mp h];exact Em
  have Z:=Z.same sm;have g1:=g1.same sm;have g2:=sm _ _ g2;clear g3;generalize upd G9 l4 (.lst (ys++[.aE]))=AG at *;refine(121,lc,_,8,ah.of Z.ch,λl5 wj=>?_,);have sm:=Zb wj (.lst (ao ys (!1) none));have g5:LR N (upd AG l5 (.lst (ao ys (!1) none))) l5 200:=LR.mk Z.nn wj (bbd (Au ..) 7) λy hy=>hkd y (Bq hy);have Z:=Z.same sm;have g1:=g1.same sm;have g2:=sm _ _ g2;have g4:=g4.same sm;generalize upd AG l5 (.lst (ao ys (!1) none))=BG at *;refine(185,lc,_,8,ah.of Z.ch,λl6 Ni=>?_,);have sm:=Zb Ni (.lst (ao ys none (!(-1))));have g6:LR N (upd BG l6 (.lst (ao ys none (!(-1))))) l6 200:=LR.mk Z.nn Ni (bbd (Au ..) 7) λy hy=>hkd y (Bq hy);have Z:=Z.same sm;have g1:=g1.same sm;have g2:=sm _ _ g2;have g4:=g4.same sm;have g5:=g5.same sm;generalize upd BG l6 (.lst (ao ys none (!(-1))))=BF at *;refine(_,8,(sL 1),λl7 Nh=>?_,);have sm:=Zb Nh (.lst [.ref lc]);have g7:LR N (upd BF l7 (.lst [.ref lc])) l7 200:=LR.mk Z.nn Nh (by show 1<=200;decide) λy hy=>by rw[aOT.mp hy];exact((.inr (.inr (.inr (.inr (lc,_,8,.inl Z.ch,)))),λ_ z=>by cases z;exact nC,),(dH.list (m:=100) nC Z.ch MV λy hy=>II y hy).up 9 9,)
  have Z:=Z.same sm;have g1:=g1.same sm;have g2:=sm _ _ g2;have g4:=g4.same sm;have g5:=g5.same sm;have g6:=g6.same sm;generalize upd BF l7 (.lst [.ref lc])=BE at *;refine((sL 08),λl8 JK=>?_,);have sm:=Zb JK (.lst [.aE,.ref l1,.ref t2,.ref l4,.ref l5,.ref l6,.str "row",.ref l7]);have g8:upd BE l8 (.lst [.aE,.ref l1,.ref t2,.ref l4,.ref l5,.ref l6,.str "row",.ref l7]) l8=!(.lst [.aE,.ref l1,.ref t2,.ref l4,.ref l5,.ref l6,.str "row",.ref l7]):=Za;have n8:l8≠b:=λz=>by let(_,_,B,_,):=Z.box;rw[z,B.at']at JK;cases JK
  have Z:=Z.same sm;have g1:=g1.same sm;have g2:=sm _ _ g2;have g4:=g4.same sm;have g5:=g5.same sm;have g6:=g6.same sm;have g7:=g7.same sm;generalize upd BE l8 (.lst [.aE,.ref l1,.ref t2,.ref l4,.ref l5,.ref l6,.str "row",.ref l7])=HX at *;let(a3,c3,B3,hc3,):=Z.box;refine(_,8,b,a3,q,c3,08,8,B3,7,9,9,λr a4 c4 Fi r0 r1 B4 hc4 t4=>?_,);let(y,hy,ym,):=wK (xs:=[.aE,.ref l1,.ref t2,.ref l4,.ref l5,.ref l6,.str "row",.ref l7]) r0 (by show r<((08:Nat):Int);lia);refine(l8,135,ah.of (t4 _ _ n8 g8),hy,k y Fi a4 c4 ?_ B4 7 (Z.sb.trans t4),);simp only[acu,aYt,a5s]at ym;rcases ym with rfl|rfl|rfl|rfl|rfl|rfl|rfl|rfl
  .exact OZ
  .exact (g1.ou 9).sb nB t4
  .exact (OX g2 IW 7 hkd).sb nB t4
  .exact (g4.ou 9).sb nB t4
  .exact (g5.ou 9).sb nB t4
  .exact (g6.ou 9).sb nB t4
  .exact OY 6
  .exact (g7.ou 9).sb nB t4
 refine aQ (by simp[cw]) ?_;unfold bX;dsimp only;have Uw:ys.length=row.length:=by rw[<-hys,ano];exact zW
 have U6:∀y∈ys,bR y=true:=λy hy=>by rw[<-hys]at hy;let(o,_,rfl,):=aFN.mp hy;cases o <;> rfl
 refine uD (λσ G=>σ=[!(.ref b),!(.ref lc),!(.ref lr),!(.int wy),!(.int at'),!(.ref lo),none,none]/\1<=ys.length/\Bt N H G b lc lr q ys row (c+2)/\LR N G lo 09/\(∃gc,G lo=!(.lst gc)/\gc.length=09)) (λD' hD k'=>?_) ?_
 .refine (_,8,(sL 0),λl0 oX=>?_,);have sm:=Zb oX (.lst []);have NH:upd G6 l0 (.lst []) l0=!(.lst []):=Za;have Z:=Z.same sm;have hod:=hod.same sm;have uf:∃gc,upd G6 l0 (.lst []) lo=!(.lst gc)/\gc.length=09:=by let(o,e,l,):=uf;exact(o,sm _ _ e,l,)
  generalize upd G6 l0 (.lst [])=G7 at *;by_cases cy:ys.length=0
  .have ey:ys=[]:=bak cy;subst ey;refine(lc,l0,[],[],λ_=>true,8,8,(λi u v h=>nomatch h),ah.of Z.ch,ah.of NH,.inl (113,aO 8 ?_,),);let(a3,c3,B3,hc3,):=Z.box;let(gc,eo,Jl,):=uf;refine(121,b,a3,q,c3,09,8,B3,7,9,9,λr a4 c4 G8 r0 r1 B4 hc4 t4=>?_,);have Z8:=Z.take rO zD (rV:=c+3) B4 7 t4;let(y,hy,ym,):=wK (xs:=gc) r0 (by rw[Jl];lia);let(nlo,ff,D5,_,hk,):=hod;have e9:ff=gc:=by rw[eo]at D5;cases D5;rfl
   subst e9;have vZ:lo≠b:=λz=>nlo (z ▸nB);refine(lo,135,ah.of (t4 _ _ vZ eo),hy,(sL 1),λl9 JJ=>?_,);show D'.rt _ _;rw[hD];have g9:LR N (upd G8 l9 (.lst [y])) l9 200:=LR.mk Z8.nn JJ (by show 1<=200;decide) λw hw=>by
    rw[aOT.mp hw];exact(hk y ym).sb nB t4
   exact k _ _ a4 c4 (g9.ou 9) (B4.same (Zb JJ _)) 7 λx o n e=>Zb JJ _ _ _ (Z8.sb x o n e)
  .refine (lc,l0,ys,[],λ_=>true,8,8,(λi u v _ h=>nomatch h),ah.of Z.ch,ah.of NH,.inr (λz=>cy z,_,8,aQ 8 (k' _ _ (8,7,Z,hod,uf,)),),)
 clear Z hod uf;rintro _ G7 ⟨rfl,hy1,Z,hod,gc,eo,Jl⟩;try dsimp only
 let(nlo,ff,D5,_,hk,):=hod;have e9:ff=gc:=by rw[eo]at D5;cases D5;rfl
 subst e9;have vZ:lo≠b:=λz=>nlo (z ▸nB);let(a3,c3,B3,hc3,):=Z.box;refine(185,lr,_,8,.inl (ah.of Z.rw'),b,a3,q,c3,_,8,B3,7,by rw[ano];lia,by rw[ano];lia,λr a4 c4 G8 r0 r1 B4 hc4 t4=>?_,);rw[ano]at r1;let(ot,Uv,SW,):=yH r0 r1;have My:ot.natAbs<10 ^ 12:=bay (by have:=bd ot SW;lia:ot.natAbs<=9999) 9;have Z:=Z.take rO zD (rV:=c+3) B4 7 t4;have eo:=t4 _ _ vZ eo;have hk:∀y∈ff,KR N G8 y:=λy hy=>(hk y hy).sb nB t4;refine(lr,135,ah.of Z.rw',Uv,gN ?_,);try dsimp only
 have gU:∀{G:Hp}{lo hi:Option Int},∀y∈ao ys lo hi,KR N G y:=λy hy=>hkd y (Bq hy);have kN:∀lo hi,(ao ys lo hi).length<=100:=λlo hi=>bbd (Au ..) MV;clear B3 B4 hc3 hc4 t4;refine(185,lc,_,8,ah.of Z.ch,λp1 h1=>?_,);have sm:=Zb h1 (.lst (ao ys none (!at')));have e1:upd G8 p1 (.lst (ao ys none (!at'))) p1=!(.lst (ao ys none (!at'))):=Za;have Z:=Z.same sm;have eo:=sm _ _ eo;have hk:∀y∈ff,KR N (upd G8 p1 (.lst (ao ys none (!at')))) y:=λy hy=>(hk y hy).same sm;generalize upd G8 p1 (.lst (ao ys none (!at')))=G9 at *;refine(1457,lc,_,8,ah.of Z.ch,λp2 h2=>?_,);have sm:=Zb h2 (.lst (ao ys (!(at'+1)) none));have e2:upd G9 p2 (.lst (ao ys (!(at'+1)) none)) p2=!(.lst (ao ys (!(at'+1)) none)):=Za;have Z:=Z.same sm;have eo:=sm _ _ eo;have hk:∀y∈ff,KR N (upd G9 p2 (.lst (ao ys (!(at'+1)) none))) y:=λy hy=>(hk y hy).same sm;have e1:=sm _ _ e1;generalize upd G9 p2 (.lst (ao ys (!(at'+1)) none))=AG at *;have q1:=kN none (!at');have q2:=kN (!(at'+1)) none;have q3:=kN (!at') (!(at'+1));have q4:=kN (!at') none;refine(p1,p2,119,e1,e2,aWE (Zk 7),λp3 h3=>?_,);have sm:=Zb h3 (.lst (ao ys none (!at')++ao ys (!(at'+1)) none));have k3:LR N (upd AG p3 (.lst (ao ys none (!at')++ao ys (!(at'+1)) none))) p3 300:=LR.mk Z.nn h3 (by rw[a96];lia) λy hy=>(a6S.mp hy).elim (gU y) (gU y);have Z:=Z.same sm;have eo:=sm _ _ eo;have hk:∀y∈ff,KR N (upd AG p3 (.lst (ao ys none (!at')++ao ys (!(at'+1)) none))) y:=λy hy=>(hk y hy).same sm;generalize upd AG p3 (.lst (ao ys none (!at')++ao ys (!(at'+1)) none))=BG at *;clear e1 e2 h1 h2 h3;refine(185,lc,_,8,ah.of Z.ch,λp4 h4=>?_,);have sm:=Zb h4 (.lst (ao ys none (!at')));have e4:upd BG p4 (.lst (ao ys none (!at'))) p4=!(.lst (ao ys none (!at'))):=Za;have Z:=Z.same sm;have eo:=sm _ _ eo;have hk:∀y∈ff,KR N (upd BG p4 (.lst (ao ys none (!at')))) y:=λy hy=>(hk y hy).same sm;have k3:=k3.same sm;generalize upd BG p4 (.lst (ao ys none (!at')))=BF at *;refine(21937,lc,_,8,ah.of Z.ch,λp5 h5=>?_,);have sm:=Zb h5 (.lst (ao ys (!at') (!(at'+1))));have e5:upd BF p5 (.lst (ao ys (!at') (!(at'+1)))) p5=!(.lst (ao ys (!at') (!(at'+1)))):=Za;have Z:=Z.same sm;have eo:=sm _ _ eo;have hk:∀y∈ff,KR N (upd BF p5 (.lst (ao ys (!at') (!(at'+1))))) y:=λy hy=>(hk y hy).same sm;have k3:=k3.same sm;have e4:=sm _ _ e4;generalize upd BF p5 (.lst (ao ys (!at') (!(at'+1))))=BE at *;refine(p4,p5,119,e4,e5,aWE (Zk 7),λp6 h6=>?_,);have sm:=Zb h6 (.lst (ao ys none (!at')++ao ys (!at') (!(at'+1))));have e6:upd BE p6 (.lst (ao ys none (!at')++ao ys (!at') (!(at'+1)))) p6=!(.lst (ao ys none (!at')++ao ys (!at') (!(at'+1)))):=Za;have Z:=Z.same sm;have eo:=sm _ _ eo;have hk:∀y∈ff,KR N (upd BE p6 (.lst (ao ys none (!at')++ao ys (!at') (!(at'+1))))) y:=λy hy=>(hk y hy).same sm;have k3:=k3.same sm;generalize upd BE p6 (.lst (ao ys none (!at')++ao ys (!at') (!(at'+1))))=HX at *;refine(185,lc,_,8,ah.of Z.ch,λp7 h7=>?_,);have sm:=Zb h7 (.lst (ao ys (!at') none));have e7:upd HX p7 (.lst (ao ys (!at') none)) p7=!(.lst (ao ys (!at') none)):=Za;have Z:=Z.same sm;have eo:=sm _ _ eo;have hk:∀y∈ff,KR N (upd HX p7 (.lst (ao ys (!at') none))) y:=λy hy=>(hk y hy).same sm;have k3:=k3.same sm;have e6:=sm _ _ e6;generalize upd HX p7 (.lst (ao ys (!at') none))=Fi at *;refine(p6,p7,119,e6,e7,aWE (Zk (by rw[a96];lia)),λp8 h8=>?_,);have sm:=Zb h8 (.lst (ao ys none (!at')++ao ys (!at') (!(at'+1))++ao ys (!at') none));have k8:LR N (upd Fi p8 (.lst (ao ys none (!at')++ao ys (!at') (!(at'+1))++ao ys (!at') none))) p8 300:=LR.mk Z.nn h8 (by rw[a96,a96];lia) λy hy=>(a6S.mp hy).elim (λhy=>(a6S.mp hy).elim (gU y) (gU y)) (gU y);have Z:=Z.same sm;have eo:=sm _ _ eo;have hk:∀y∈ff,KR N (upd Fi p8 (.lst (ao ys none (!at')++ao ys (!at') (!(at'+1))++ao ys (!at') none))) y:=λy hy=>(hk y hy).same sm;have k3:=k3.same sm;generalize upd Fi p8 (.lst (ao ys none (!at')++ao ys (!at') (!(at'+1))++ao ys (!at') none))=Mc at *;clear e4 e5 e6 e7 h4 h5 h6 h7 h8;refine(185,lc,ys,8,ah.of Z.ch,9,by rw[yL,ahC];exact aWE (Zk 7),λp9 h9=>?_,);rw[yL];have sm:=Zb h9 (.lst (ys.reverse));have k9:LR N (upd Mc p9 (.lst (ys.reverse))) p9 300:=LR.mk Z.nn h9 (by rw[ahC];lia) λy hy=>hkd y (List.mem_reverse.mp hy);have Z:=Z.same sm;have eo:=sm _ _ eo;have hk:∀y∈ff,KR N (upd Mc p9 (.lst (ys.reverse))) y:=λy hy=>(hk y hy).same sm;have k3:=k3.same sm;have k8:=k8.same sm;generalize upd Mc p9 (.lst (ys.reverse))=Mb at *;refine((sL 3),λAX Gz=>gN ?_,);try dsimp only
 have sm:=Zb Gz (.lst ([.ref p3,.ref p8,.ref p9]));have Ag:upd Mb AX (.lst ([.ref p3,.ref p8,.ref p9])) AX=!(.lst [.ref p3,.ref p8,.ref p9]):=Za;have TH:AX≠b:=λz=>by let(_,_,B,_,):=Z.box;rw[z,B.at']at Gz;cases Gz
 have Z:=Z.same sm;have eo:=sm _ _ eo;have hk:∀y∈ff,KR N (upd Mb AX (.lst ([.ref p3,.ref p8,.ref p9]))) y:=λy hy=>(hk y hy).same sm;have k3:=k3.same sm;have k8:=k8.same sm;have k9:=k9.same sm;generalize upd Mb AX (.lst ([.ref p3,.ref p8,.ref p9]))=G18 at *;clear h9 Gz;refine(_,8,?_,);let(a5,c5,B5,hc5,):=Z.box;refine(121,b,a5,q,c5,09,8,B5,7,9,9,λr a6 c6 Fg r0 r1 B6 hc6 t6=>?_,);let(y,hy,ym,):=wK (xs:=ff) r0 (by rw[Jl];lia);have Z:=Z.take rO zD (rV:=c+4) B6 7 t6;have ky:KR N Fg y:=(hk y ym).sb nB t6;have eo:=t6 _ _ vZ eo;have Ag:=t6 _ _ TH Ag;have lsb:∀{l:Addr},LR N G18 l 300->LR N Fg l 300:=λ{l} h=>by
  let(nl,zs,e,hl,hz,):=h;exact(nl,zs,t6 _ _ (λz=>nl (z ▸nB)) e,hl,λy hy=>(hz y hy).sb nB t6,)
 have k3:=lsb k3;have k8:=lsb k8;have k9:=lsb k9;refine(lo,135,ah.of eo,hy,121,(sL 4),λtq F5=>?_,);have sm:=Zb F5 (.tup [y,.int ot,.aE,.int ot]);have A9:upd Fg tq (.tup [y,.int ot,.aE,.int ot]) tq=!(.tup [y,.int ot,.aE,.int ot]):=Za;have Z:=Z.same sm;have ky:KR N (upd Fg tq (.tup [y,.int ot,.aE,.int ot])) y:=ky.same sm;have Ag:=sm _ _ Ag;have k3:=k3.same sm;have k8:=k8.same sm;have k9:=k9.same sm;have B7:=B6.same sm;generalize upd Fg tq (.tup [y,.int ot,.aE,.int ot])=xq at *;clear lsb eo hk;refine(tq,8,(_,bS.of A9,),λlz qc=>?_,);have Uc:∀v∈[y,V.int ot,.aE,.int ot],∀{G:Hp},ak xq G->KR N G v:=λv hv G s=>by
  simp only[acu,aYt,a5s]at hv;rcases hv with rfl|rfl|rfl|rfl
  .exact ky.same s
  .exact lH My
  .exact Em
  .exact lH My
 have nlz:¬N lz:=λz=>Z.nn _ z qc;refine Py (K:=K) (a:=tq) (xs:=[y,.int ot,.aE,.int ot]) (l:=lz) (λi zs σ G=>∃(v0:Option V)(qs:List Addr),σ=[v0,!(.ref lc),!(.int at')]/\zs=qs.map V.ref/\qs.length=i/\G lz=!(.lst zs)/\ak xq G/\∀l∈qs,(¬N l/\l≠lz)/\∃ws,G l=!(.lst ws)/\ws.length<=300/\∀y∈ws,KR N xq y)
  ⟨none,[],8,8,8,Za,Zb qc _,λl hl=>nomatch hl⟩ (λi ys σ G _ w9=>by let(_,_,_,_,_,_,s,_,):=w9;exact bS.of (s _ _ A9)) ?_ ?_
 .rintro i v zs σ G hi hv hzs ⟨v0,qs,rfl,rfl,lq,jK,s,hq⟩;have kv:KR N xq v:=Uc v (aE5 hv) λ_ _ e=>e;refine(185,lc,_,8,ah.of (s _ _ Z.ch),λr1' g1=>?_,);have s1:=Zb g1 (.lst (ao ys none (!at')));have f1:upd G r1' (.lst (ao ys none (!at'))) r1'=!(.lst (ao ys none (!at'))):=Za;have s:=s.trans s1;have jK:=s1 _ _ jK;have hq:∀l∈qs,(¬N l/\l≠lz)/\∃ws,(upd G r1' (.lst (ao ys none (!at')))) l=!(.lst ws)/\ws.length<=300/\∀y∈ws,KR N xq y:=λl hl=>((hq l hl).1,by let(ws,e,r,):=(hq l hl).2;exact(ws,s1 _ _ e,r,),);generalize upd G r1' (.lst (ao ys none (!at')))=Ga at *;refine(_,8,(sL 1),λr2 g2=>?_,);have s1:=Zb g2 (.lst [v]);have f2:upd Ga r2 (.lst [v]) r2=!(.lst [v]):=Za;have f1:=s1 _ _ f1;have s:=s.trans s1;have jK:=s1 _ _ jK;have hq:∀l∈qs,(¬N l/\l≠lz)/\∃ws,(upd Ga r2 (.lst [v])) l=!(.lst ws)/\ws.length<=300/\∀y∈ws,KR N xq y:=λl hl=>((hq l hl).1,by let(ws,e,r,):=(hq l hl).2;exact(ws,s1 _ _ e,r,),);generalize upd Ga r2 (.lst [v])=Gb at *;refine(r1',r2,119,f1,f2,aWE (Zk (show(ao ys none (!at')).length+1<=1000 by lia)),λr3 g3=>?_,);have s1:=Zb g3 (.lst (ao ys none (!at')++[v]));have f3:upd Gb r3 (.lst (ao ys none (!at')++[v])) r3=!(.lst (ao ys none (!at')++[v])):=Za;have s:=s.trans s1;have jK:=s1 _ _ jK;have hq:∀l∈qs,(¬N l/\l≠lz)/\∃ws,(upd Gb r3 (.lst (ao ys none (!at')++[v]))) l=!(.lst ws)/\ws.length<=300/\∀y∈ws,KR N xq y:=λl hl=>((hq l hl).1,by let(ws,e,r,):=(hq l hl).2;exact(ws,s1 _ _ e,r,),);generalize upd Gb r3 (.lst (ao ys none (!at')++[v]))=Gc at *;refine(1457,lc,_,8,ah.of (s _ _ Z.ch),λr4 g4=>?_,);have s1:=Zb g4 (.lst (ao ys (!(at'+1)) none));have f4:upd Gc r4 (.lst (ao ys (!(at'+1)) none)) r4=!(.lst (ao ys (!(at'+1)) none)):=Za;have f3:=s1 _ _ f3;have s:=s.trans s1;have jK:=s1 _ _ jK;have hq:∀l∈qs,(¬N l/\l≠lz)/\∃ws,(upd Gc r4 (.lst (ao ys (!(at'+1)) none))) l=!(.lst ws)/\ws.length<=300/\∀y∈ws,KR N xq y:=λl hl=>((hq l hl).1,by let(ws,e,r,):=(hq l hl).2;exact(ws,s1 _ _ e,r,),);generalize upd Gc r4 (.lst (ao ys (!(at'+1)) none))=Gd at *;refine(r3,r4,119,f3,f4,aWE (Zk (by rw[a96];show(ao ys none (!at')).length+1+_<=1000;lia)),λr5 g5=>?_,);have Zd:=Z.same s;have TF:¬N r5:=λz=>Zd.nn _ z g5;have n5:r5≠lz:=λz=>by rw[z,jK]at g5;cases g5
  have s1:=Zb g5 (.lst (ao ys none (!at')++[v]++ao ys (!(at'+1)) none));have jK:=s1 _ _ jK;have s:=s.trans s1;have hq:∀l∈qs,(¬N l/\l≠lz)/\∃ws,(upd Gd r5 (.lst (ao ys none (!at')++[v]++ao ys (!(at'+1)) none))) l=!(.lst ws)/\ws.length<=300/\∀y∈ws,KR N xq y:=λl hl=>((hq l hl).1,by let(ws,e,r,):=(hq l hl).2;exact(ws,s1 _ _ e,r,),);have f5:upd Gd r5 (.lst (ao ys none (!at')++[v]++ao ys (!(at'+1)) none)) r5=!(.lst (ao ys none (!at')++[v]++ao ys (!(at'+1)) none)):=Za;generalize upd Gd r5 (.lst (ao ys none (!at')++[v]++ao ys (!(at'+1)) none))=Ge at *;refine dh.of (sL 4) hi hzs jK (_,qs++[r5],8,by rw[aP2];rfl,by rw[a96,lq];rfl,Za,λx o e=>by rw[Zg (Ze e qc)];exact s _ _ e,λl hl=>?_,);rcases a6S.mp hl with hl|hl
  .exact ((hq l hl).1,by let(ws,e,r,):=(hq l hl).2;exact(ws,by rw[Zg (hq l hl).1.2];exact e,r,),)
  .rw [aOT.mp hl];exact((TF,n5,),_,by rw[Zg n5];exact f5,by rw[a96,a96];show(ao ys none (!at')).length+1+_<=300;lia,λw hw=>(a6S.mp hw).elim (λhw=>(a6S.mp hw).elim (gU w) λhw=>by rw[aOT.mp hw];exact kv) (gU w),)
 rintro zs σ G _ ⟨v0,qs,rfl,rfl,lq,jK,s,hq⟩;have Ag:=s _ _ Ag;have Z:=Z.same s;have B8:=B7.same s;refine(AX,lz,119,Ag,jK,aWE (Zk (by rw[ano,lq];show 3+4<=1000;decide)),λpf hpf=>gN ?_,);try dsimp only
 have sm:=Zb hpf (.lst ([.ref p3,.ref p8,.ref p9]++qs.map V.ref));have Vb:upd G pf (.lst ([.ref p3,.ref p8,.ref p9]++qs.map V.ref)) pf=!(.lst (([p3,p8,p9]++qs).map V.ref)):=by rw[Za,aP2];rfl
 have Jw:∀l∈[p3,p8,p9]++qs,LR N (upd G pf (.lst ([.ref p3,.ref p8,.ref p9]++qs.map V.ref))) l 300:=λl hl=>by
  rcases a6S.mp hl with hl|hl
  .simp only[acu,aYt,a5s]at hl;rcases hl with rfl|rfl|rfl
   .exact (k3.same s).same sm
   .exact (k8.same s).same sm
   .exact (k9.same s).same sm
  .let((n1,_,),ws,e,r1,r2,):=hq l hl;exact(n1,ws,sm _ _ e,r1,λy hy=>((r2 y hy).same s).same sm,)
 have B9:=B8.same sm;have Sx:SB b H (upd G pf (.lst ([.ref p3,.ref p8,.ref p9]++qs.map V.ref))):=λx o n e=>sm _ _ (Z.sb x o n e);generalize upd G pf (.lst ([.ref p3,.ref p8,.ref p9]++qs.map V.ref))=Gf at *;let(w,hw,wm,):=wK (xs:=([p3,p8,p9]++qs).map V.ref) (r:=wy-1) 7 (by rw[ano,a96,lq];show wy-1<((3+4:Nat):Int);lia);let(l,hl,rfl,):=aFN.mp wm;exact(439,pf,135,ah.of Vb,hw,k _ _ a6 c6 ((Jw l hl).ou 9) B9 7 Sx,)
theorem OW{n:Int}:∀{gs:List Int}{z:Int},cT n z (gs.map V.int)=true↔(∀g∈gs,z<g/\g<n)/\gs.Pairwise (·<·)
 | [],_=>(λ_=>((λ_ h=>nomatch h),.nil,),λ_=>8,)
 |g ::gs,z=>by
  have e:cT n z ((g ::gs).map V.int)=((decide (z<g) && decide (g<n)) && cT n g (gs.map V.int)):=8;rw[e];simp only[aEv,auA,OW,pairwise_cons,List.forall_mem_cons];constructor
  .rintro ⟨⟨h1,h2⟩,h3,h4⟩;exact(((h1,h2,),λx hx=>(by have:=h3 x hx;lia,(h3 x hx).2,),),λx hx=>(h3 x hx).1,h4,)
  .rintro ⟨⟨⟨h1,h2⟩,h3⟩,h4,h5⟩;exact((h1,h2,),λx hx=>(h4 x hx,(h3 x hx).2,),h5,)
theorem OV:∀{gs:List Int},(∀i,i+1<gs.length->gs.getD i 0<gs.getD (i+1) 0)->gs.Pairwise (·<·)
 | [],_=>.nil
 | [_],_=>5
 |a ::b ::gs,h=>by
  have ih:(b ::gs).Pairwise (·<·):=OV λi hi=>h (i+1) (by simpa using hi);have ab:a<b:=h 0 5;refine a7D.mpr (λx hx=>?_,ih,);rcases aPx.mp hx with rfl|hx
  .exact ab
  .have:=(a7D.mp ih).1 x hx;lia
noncomputable def wI(gs:List Int):List Bool:=(List.range (gs.length-1)).map λi=>decide (gs.getD i 0 ≥ gs.getD (i+1) 0)
theorem Vx(n:Int)(gs:List Int):cT n (-1) (gs.map V.int)=(gs.all (λg=>decide (0<=g) && decide (g<n)) && (not ((wI gs).any id))):=by
 rw[aeY,OW];simp only[aEv,ap9,auA,aOI,any_eq_false,id];unfold wI;constructor
 .rintro ⟨h1,h2⟩;refine(λg hg=>by have:=h1 g hg;lia,λb hb=>?_,);let(i,hi,rfl,):=aFN.mp hb;have hi:=aOW.mp hi;have:=amg.mp h2 i (i+1) 7 7 (avq i);rw[aGH,aGH,aMp 7,aMp 7];simp only[Option.getD_some,auA];lia
 .rintro ⟨h1,h2⟩;refine(λg hg=>by have:=h1 g hg;lia,OV λi hi=>?_,);have:=h2 _ (aFN.mpr (i,aOW.mpr 7,8,));simp only[auA]at this;lia
theorem K3{n:Int}:∀{ys:List V}{z:Int},(∃y∈ys,qV y=false)->cT n z ys=false
 | [],_,h=>by let(_,h,_,):=h;cases h
 |y ::ys,z,h=>by
  cases y with
  |int g=>
   have e:cT n z (V.int g ::ys)=((decide (z<g) && decide (g<n)) && cT n g ys):=8;rw[e,K3 (ys:=ys),aPY];let(y,hy,e,):=h;rcases aPx.mp hy with rfl|hy
   .cases e
   .exact (y,hy,e,)
  |_=>rfl
theorem OU:∀{ys:List V},ys.all qV=true->∃gs:List Int,ys=gs.map V.int
 | [],_=>([],8,)
 |y ::ys,h=>by
  rw[all_cons,aEv]at h;let(gs,rfl,):=OU h.2;cases y with
  |int g=>exact(g ::gs,8,)
  |_=>exact absurd h.1 aJD
theorem XI(ns:List Int):ao (ns.map V.int) (!1) none=(ns.drop 1).map V.int:=by
 rw[Lh,HT.mF];have e:HT.gi ns.length 0 (!1)=min 1 ns.length:=HT.ko (n:=ns.length) (d:=0) 1;rw[e];congr 1
 by_cases c:1<=ns.length
 .rw [Nat.min_eq_left c,aV1 (by rw[aPq];lia)]
 .have:ns=[]:=List.length_eq_zero_iff.mp 7;rw[this];rfl
example:(zA vW xS CV):=by
 let(sh,pl,a,x,y,row,oo,mm,rfl,hS,hO,hM,hs0,hs1,hl,k,):=h;refine(_,(Zf (aY 05 nd (Zm xS hr.m 8 (pc (pv 0) (pc (pv 1) (pc (pv 2) (pc (pv 3) Zc))))))
   (Zf (aF (PW.pt (pw_or (EC (GQ (pv 05))) (rW (ny (ZW (Zl uL 8 T.qK uK (pc (pv 4) (pc (uP (v:=.ty "list") 8 T.vQ Ar 8) Zc)))))))) (Zj (Zr aX)) Zw)
   (Zf (aF (ny (ZW (Zl (LN 8) 8 T.BK Ly (pc (rA (Zx (bQ:=(Zp mE)) (oN:=uW) (N:=["_law_one"]) (own:=1) (js:=[]) 6 8 8) 8 (ZF (K:=K) 8 (pv 4)) (λ_ _ _ _ _ _=>(bu 0 (show List.Nodup (["_law_one"]:List Str) by decide +kernel))) (λ_ _ _ _ _ _=>(EA (Zl uL 8 T.qK uK (pc (pv 0) (pc (uP (v:=.ty "int") 8 T.vd yI 8) Zc))) (EB (OA (Zl uL 8 T.qK uK (pc (pv 0) (pc (uP (v:=.ty "bool") 8 T.AM HQ 8) Zc)))))))) Zc)))) (Zj (Zr aX)) Zw)
   (Zf (aF (ny (ZW (Zl (LN 8) 8 T.BK Ly (pc (rA (Zx (bQ:=(Zp mE)) (oN:=uW) (N:=["_law_one","_law_row"]) (own:=1) (js:=[2]) 6 8 8) 8 (ZF (K:=K) 8 (pv 4)) (λ_ _ _ _ _ _=>(bu 0 (show List.Nodup (["_law_one","_law_row"]:List Str) by decide +kernel))) (λ_ _ _ _ _ _=>(PV xZ cF Zh (pv 0) (Zl (Zn (K:=K) 8) 8 T.dw arj (pc (pv 1) Zc))))) Zc)))) (Zj (Zr aX)) Zw)
   (Zf (aF (ZW (Zl (Qu 8) 8 T.Fw PD (pc (rA (Zx (bQ:=(Zp mE)) (oN:=uW) (N:=["_law_one","_law_other"]) (own:=2) (js:=[]) 6 8 8) 8 (GL 8 T.AK (pc (pv 4) (pc (ZK (ZL (K:=K) 8) (pv 4) (ZE Zh) ZI) Zc))) (λ_ _ _ _ _ _=>(ZR (K:=K) (n:=2) 8 8 (Zs (bu 0 (show List.Nodup (["_law_one","_law_other"]:List Str) by decide +kernel)) (Zs (bu 1 (show List.Nodup (["_law_one","_law_other"]:List Str) by decide +kernel)) ZQ)))) (λ_ _ _ _ _ _=>(qo mJ (pv 0) (pv 1) (Zu _)))) Zc))) (Zj (Zr aX)) Zw)
   (Zj (Zr (qo aS (pv 05) (aa lJ (Zl (Zn (K:=K) 8) 8 T.dw arj (pc (pv 2) Zc)) (Zm CV hr.m 8 (pc (pv 0) (pc (pv 1) (pc (pv 2) (pc (pv 4) Zc)))))) (Zu _))))))))),?_,)
 refine(441,sh,pl,a,x,row,oo,8,hS,hO,hs0,hl,λH1 s1=>gN ?_,);try dsimp only
 cases hc:jw sh pl row oo with
 |none=>
  refine(121,aO 8 (aO 8 ?_),);have q:=k H1 s1;unfold cQ at q;rw[hc]at q;exact q
 |some c=>
 have bad:∀G,tU row.length mm=false->ak H G->Q (.bl false) G:=λG e s=>by
  have q:=k G s;unfold cQ at q;rw[hc]at q;simp only[e,aNq]at q;exact q
 refine(121,aQ 8 ?_,);cases mm with
 |none=>
  rcases hM with rfl|⟨s,rfl⟩|⟨t,xs,rfl,h⟩
  .exact (263,9,_,8,aO 9 (bad _ 8 s1),)
  .exact (263,9,_,8,aO 9 (bad _ 8 s1),)
  .exact (181,oj (s1 _ _ h),9,_,8,aO 9 (bad _ 8 s1),)
 |some ys=>
 let((lm,rfl,eM,),zW,hkd,):=hM;have Ka:=s1 _ _ eM;refine(181,om Ka,9,_,8,aQ 9 ?_,);dsimp only[bX];have big:ys.length<=sizeLine:=aWE (Zk 7);refine hide λu1 ee=>?_;refine(_,8,lm,8,(_,ah.of Ka,),λl1 hl1=>?_,);refine ZA (K:=K) (a:=lm) (xs:=ys) (l:=l1) (λj zs σ G=>∃v0:Option V,σ=[v0]/\zs=((ys.take j).map qV).map V.bl/\G l1=!(.lst zs)/\ak H1 G) (none,8,8,Za,Zb hl1 _,) (λj zs σ G _ h=>by let(_,_,_,_,s,):=h;exact ah.of (s _ _ Ka)) ?_ ?_
 .rintro j x zs σ G hj dS hzs ⟨v0,rfl,rfl,gl,s2⟩;have kd:=(hkd x (aE5 dS)).same (s1.trans s2);have fin:∀b,qV x=b->dh ys.length l1 (λj zs σ G=>∃v0:Option V,σ=[v0]/\zs=((ys.take j).map qV).map V.bl/\G l1=!(.lst zs)/\ak H1 G) j (((ys.take j).map qV).map V.bl) [!x] (.bl b) G:=λb e=>dh.of big hj hzs gl (_,8,by rw[a8b,dS,aP2,aP2,<-e];rfl,Za,λx o e=>by rw[Zg (Ze e hl1)];exact s2 _ _ e,);rcases kd with rfl|⟨b,rfl⟩|⟨z,rfl⟩|⟨s,rfl⟩|⟨a,xs,rfl,h|h⟩
  .exact (263,9,_,8,aQ 9 (fin _ 8),)
  .exact (263,9,_,8,aO 9 (263,9,_,8,fin _ 8,),)
  .exact (263,9,_,8,aO 9 (263,9,_,8,fin _ 8,),)
  .exact (263,9,_,8,aQ 9 (fin _ 8),)
  .exact (181,om h,9,_,8,aQ 9 (fin _ 8),)
  .exact (181,oj h,9,_,8,aQ 9 (fin _ 8),)
 rintro zs σ G _ ⟨v0,rfl,rfl,gl,s2⟩;rw[aXW]at gl;refine(l1,_,8,ah.of gl,_,8,?_,);have s2:=s1.trans s2;by_cases ci:ys.all qV=true
 case neg=>
  have ei:(ys.map qV).all id=false:=by rw[all_map];exact acr.mpr ci
  refine aO (by rw[ei];rfl) (bad _ (K3 ?_) s2);have:=acr.mpr ci;rw[List.all_eq_false]at this;let(y,hy,e,):=this;exact(y,hy,acr.mpr e,)
 refine aQ (by rw[all_map];exact aFH (λb=>(not (b))) ci) ?_;let(gs,rfl,):=OU ci;subst ee;try dsimp only[bX]
 clear gl hl1 hkd ci;have er:tU row.length (!(gs.map V.int))=(gs.all (λg=>decide (0<=g) && decide (g<(row.length:Int))) && (not ((wI gs).any id))):=Vx _ _;rw[ano]at zW big;have NK:=s2 _ _ eM;refine hide λu1 ee=>?_;refine(_,8,lm,8,(_,ah.of NK,),λl1 hl1=>?_,);refine ZA (K:=K) (a:=lm) (xs:=gs.map V.int) (l:=l1) (λj zs σ G'=>∃v0:Option V,σ=[v0,!(.ref a)]/\zs=((gs.take j).map λg=>decide (0<=g) && decide (g<(row.length:Int))).map V.bl/\G' l1=!(.lst zs)/\ak G G') (none,8,8,Za,Zb hl1 _,) (λj zs σ G _ h=>by let(_,_,_,_,s,):=h;exact ah.of (s _ _ NK)) ?_ ?_
 .rintro j x zs σ G2 hj dS hzs ⟨v0,rfl,rfl,gl,s3⟩;let(g,hg,rfl,):=nX dS;have fin:∀b,(decide (0<=g) && decide (g<(row.length:Int)))=b->dh (gs.map V.int).length l1 (λj zs σ G'=>∃v0:Option V,σ=[v0,!(.ref a)]/\zs=((gs.take j).map λg=>decide (0<=g) && decide (g<(row.length:Int))).map V.bl/\G' l1=!(.lst zs)/\ak G G') j (((gs.take j).map λg=>decide (0<=g) && decide (g<(row.length:Int))).map V.bl) [!(.int g),!(.ref a)] (.bl b) G2:=λb e=>dh.of (by rw[ano];exact big) hj hzs gl (_,8,by rw[a8b,hg,aP2,aP2,<-e];rfl,Za,λx o e=>by rw[Zg (Ze e hl1)];exact s3 _ _ e,);refine(433,?_,);by_cases c1:0<=g
  .refine aO (anN c1) (_,8,a,_,8,.inl ((s2.trans s3).seq hS),119,fin _ ?_,);rw[anN c1,ano];rfl
  .exact aQ (alG c1) (fin _ (by rw[alG c1];rfl))
 rintro zs σ G2 _ ⟨v0,rfl,rfl,gl,s3⟩;rw[ano,aXW]at gl;refine(l1,_,8,ah.of gl,_,8,?_,);have s3:=s2.trans s3;by_cases ci:gs.all (λg=>decide (0<=g) && decide (g<(row.length:Int)))=true
 case neg=>exact aO (by rw[all_map];exact aFH (λb=>(not (b))) (acr.mpr ci)) (bad _ (by rw[er,acr.mpr ci];rfl) s3)
 refine aQ (by rw[all_map];exact aFH (λb=>(not (b))) ci) ?_;subst ee;try dsimp only[bX]
 rw[ci,aKX]at er;clear gl hl1;have Vh:=s3 _ _ eM;refine hide λu1 ee=>?_;refine(185,lm,_,8,ah.of Vh,λlx hlx=>?_,);rw[XI];have s4:=s3.trans (Zb hlx (.lst ((gs.drop 1).map V.int)));have ex:upd G2 lx (.lst ((gs.drop 1).map V.int)) lx=!(.lst ((gs.drop 1).map V.int)):=Za;generalize upd G2 lx (.lst ((gs.drop 1).map V.int))=G3 at *;have NJ:=s4 _ _ eM;refine(lm,lx,8,(_,ah.of NJ,),(_,ah.of ex,),λlz qc=>?_,);refine Yp (K:=K) (a:=lm) (b:=lx) (xs:=gs.map V.int) (zs:=(gs.drop 1).map V.int) (l:=lz) (gs.length-1) (by rw[ano,ano,aPq];lia) (λj zs σ G'=>∃v0 v1:Option V,σ=[v0,v1]/\zs=((List.range j).map λi=>decide (gs.getD i 0 ≥ gs.getD (i+1) 0)).map V.bl/\G' lz=!(.lst zs)/\ak G3 G')
  (none,none,8,8,Za,Zb qc _,) (λj ys σ' G' _ h=>by let(_,_,_,_,_,q,):=h;exact(ah.of (q _ _ NJ),ah.of (q _ _ ex),)) ?_ ?_
 .rintro j x z t zs σ G' hj hx hz hzs ⟨v0,v1,rfl,rfl,gl,s5⟩ ht;let(g,hg,rfl,):=nX hx;let(g',hg',rfl,):=nX hz;rw[getElem?_drop]at hg';have e1:gs.getD j 0=g:=by rw[aGH,hg];rfl
  have e2:gs.getD (j+1) 0=g':=by rw[aGH,Nat.add_comm j 1,hg'];rfl
  refine(t,_,8,bS.of Za,503,?_,);have st:=Zb ht (.tup [V.int g,V.int g']);refine(439,dh.of 7 hj hzs (st _ _ gl) (109,by rw[aIe,aP2,aP2];show _=_++[V.bl (decide (gs.getD j 0 ≥ gs.getD (j+1) 0))];rw[e1,e2],Za,λx o e=>by rw[Zg (Ze e qc)];exact st _ _ (s5 _ _ e),),)
 rintro zs σ G4 _ ⟨v0,v1,rfl,rfl,gl,s5⟩;refine(lz,_,8,ah.of gl,?_,);have s5:=s4.trans s5;cases ca:(wI gs).any id with
 |true=>exact(_,8,aO ca (bad _ (by rw[er,ca];rfl) s5),)
 |false=>
 refine(_,8,aQ ca ?_,);subst ee;try dsimp only[bX]
 have cg:tU row.length (!(gs.map V.int))=true:=by rw[er,ca];rfl
 let(lm',e',Vi,hm,hp,l9,):=O0 (H:=H) (x:=.ref lm) (mm:=!(gs.map V.int)) (show nD H (.ref lm) (!(gs.map V.int)) from((lm,8,eM,),by rw[ano];exact zW,λy hy=>by let(g,_,rfl,):=aFN.mp hy;exact .inr (.inr (.inl (g,8,))),)) cg;cases e';refine(121,a,_,8,.inl (s5.seq hS),441,sh,pl,a,lm,row,_,8,s5.seq hS,ah.of (s5 _ _ Vi),hs0,hl,hm,7,λH3 s6=>(139,?_,),);have e:decide (V.int c=V.int (((row.map V.int).length:Int)-bB sh pl row (pX (!(gs.map V.int)))))=cQ sh pl row oo (!(gs.map V.int)):=by
  unfold cQ;rw[hc];simp only[cg,aKX];rw[ano,aq6];exact(λh=>(V.int.inj h).symm,λh=>aFH V.int h.symm,)
 have q:=k H3 (s5.trans s6);rw[<-e]at q;exact q
theorem LR.sb{N:Addr->Prop}{b:Addr}{H H':Hp}{l:Addr}{n:Nat}(h:LR N H l n)(nb:N b)(s:SB b H H'):LR N H' l n:=by
 let(nl,ys,e,hl,hk,):=h;exact(nl,ys,s _ _ (λz=>nl (z ▸nb)) e,hl,λy hy=>(hk y hy).sb nb s,)
def Ls(N:Addr->Prop)(H:Hp)(ls:List Addr):Prop:=∀l∈ls,LR N H l 400
theorem Ls.same{N:Addr->Prop}{H H':Hp}{ls:List Addr}(h:Ls N H ls)(s:ak H H'):Ls N H' ls:=λl m=>(h l m).same s
theorem Ls.sb{N:Addr->Prop}{b:Addr}{H H':Hp}{ls:List Addr}(h:Ls N H ls)(nb:N b)(s:SB b H H'):Ls N H' ls:=λl m=>(h l m).sb nb s
theorem Ls.add{N:Addr->Prop}{H:Hp}{ls:List Addr}{l:Addr}(h:Ls N H ls)(g:LR N H l 400):Ls N H (ls++[l]):=λx m=>(a6S.mp m).elim (h x) λm=>by rw[aOT.mp m];exact g
theorem nW{N:Addr->Prop}{H G:Hp}{b lc lr:Addr}{q:Int}{ys:List V}{row:List Int}{cm:Int}{ls:List Addr}{l:Addr}{zs:List V}(Z:Bt N H G b lc lr q ys row cm)(L:Ls N G ls)(h:G l=none)(hl:zs.length<=400)(hk:∀y∈zs,KR N G y) :
  Bt N H (upd G l (.lst zs)) b lc lr q ys row cm/\Ls N (upd G l (.lst zs)) (ls++[l])/\upd G l (.lst zs) l=!(.lst zs)/\ak G (upd G l (.lst zs)):=(Z.same (Zb h _),(L.same (Zb h _)).add (LR.mk Z.nn h hl hk),Za,Zb h _,)
inductive j0(K:W.Frag)(vs:List V)(H:Hp)(Q:VK)(E:XK):Prop
 |mk (b lm:Addr) (a q c n:Int) (gs:List Int):vs=[.ref b,.ref lm,.int n]->aA H b a q c->c<320000000->H lm=!(.lst (gs.map V.int))->lm≠b->0<=n->n<=100->gs.length<=100->(∀g∈gs,0<=g/\g<100)->(∀(x:V)(H':Hp)(a' c':Int),pC (λa=>H a≠none/\a≠lm) H' x->aA H' b a' q c'->c'<=c+05->SB b H H'->Q x H')->j0 K vs H Q E
example:(jn iN bD):=by
 let(b,lm,a,q,c,n,gs,rfl,B,hc,hM,mW,n0,n1,gl,gb,k,):=h;refine(_,(Zf (Ez (i:=3) (j:=4) 8 nd 8 8 9 8 8 (pc (Zm bD hr.m 8 (pc (pv 0) (pc Zh Zc))) (pc (Zm bD hr.m 8 (pc (pv 0) (pc (aa ZB (Zl (Zn (K:=K) 8) 8 T.dw arj (pc (pv 1) Zc)) Zh) Zc))) Zc)) 8)
   (Zf (aY 05 nd (Zv (pc aX (pc pB (pc wM (pc (nY (pc Zh Zc)) (pc (Zv (pc Zh Zc)) (pc (bN nv Zh) (pc (pv 2) (pc (aa K1 Zh Zh) (pc (aa lJ (pv 2) Zh) Zc)))))))))))
   (Zf (WQ (i:=06) (j:=07) (l:=08) 8 nd 8 8 8 9 8 8 8 (pc (ZK (ZL (K:=K) 8) (pv 1) ZI (ZE (pv 4))) (pc (ZK (ZL (K:=K) 8) (pv 1) (ZE (pv 4)) (ZE (aa ZB (pv 4) Zh))) (pc (ZK (ZL (K:=K) 8) (pv 1) (ZE (aa ZB (pv 4) Zh)) ZI) Zc))) 8)
   (Zf (aF (Zq aS (pv 3) Zh (Zu _)) (Zj (Zr (av (Zo (K:=K) 8) (Zv (pc (ZO (Q4 (K:=K) 8) 8 T.Fq QK (pc (pv 1) Zc)) (pc pB (pc (Hw (K:=K) 8 (pv 1) ZI ZI (ZE (bN nv Zh))) (pc (aa ZT (pv 1) (Zv (pc (pv 2) Zc))) (pc wM (pc (Zv (pc (pv 1) Zc)) (pc (Zv Zc) Zc)))))))) (Zm bD hr.m 8 (pc (pv 0) (pc Zh Zc))) (λ_ _=>8)))) Zw)
   (Zf (aY 09 nd (Zv (pc (aa ZT (pv 06) (pv 08)) (pc (aa ZT (aa ZT (aa ZT (pv 06) (pv 07)) (pv 07)) (pv 08)) (pc (aa ZT (aa ZT (pv 06) (Zv (pc (av (Zo (K:=K) 8) (pv 05) (Zm bD hr.m 8 (pc (pv 0) (pc Zh Zc))) (λ_ _=>8)) Zc))) (pv 08)) Zc)))))
   (Zf (aY 09 nd (aa ZT (pv 09) (Zv (pc (aa ZT (aa ZT (aa ZT (pv 06) (ZK (ZL (K:=K) 8) (pv 08) ZI (ZE Zh))) (pv 07)) (ZK (ZL (K:=K) 8) (pv 08) (ZE Zh) ZI)) (pc (Zl (Q6 (K:=K) 8) 8 T.BS PyProof.Rows.boot_sorted (pc (aa ZT (pv 1) (Zv (pc (Zm bD hr.m 8 (pc (pv 0) (pc (aa ZB (pv 2) Zh) Zc))) Zc))) Zc)) Zc)))))
   (Zj (Zr (av (Zo (K:=K) 8) (aa ZT (pv 09) (Zv (pc (aa ZT (aa ZT (pv 06) (Zv (pc (Zm bD hr.m 8 (pc (pv 0) (pc (aa ZB (pv 2) Zh) Zc))) Zc))) (pv 08)) Zc))) (aa lJ (pv 3) Zh) (λ_ _=>8)))))))))),?_,)
 obtain⟨N,hN⟩:∃N:Addr->Prop,∀a,N a↔(H a≠none/\a≠lm):=(λa=>H a≠none/\a≠lm,λ_=>Iff.rfl,);have nM:¬N lm:=λz=>((hN lm).mp z).2 8;have nB:N b:=(hN b).mpr (by rw[B.at'];exact aa1 _,aUP mW,);have nE:∀a,N a->H a≠none:=λa z=>((hN a).mp z).1;have k:∀(x:V)(H':Hp)(a' c':Int),pC N H' x->aA H' b a' q c'->c'<=c+05->SB b H H'->Q x H':=λx H' a' c' th=>k x H' a' c' (th.mono λa z=>(hN a).mpr z);have gB:∀g∈gs,g.natAbs<10 ^ 12:=λg hg=>bay (by have:=gb g hg;lia:g.natAbs<=9999) 9;have hkd:∀{G:Hp},∀y∈gs.map V.int,KR N G y:=λy hy=>by let(g,hg,rfl,):=aFN.mp hy;exact lH (gB g hg)
 have II:∀{G:Hp},∀y∈gs.map V.int,dH N G 0 13 y:=λy hy=>by let(g,hg,rfl,):=aFN.mp hy;exact Am (gB g hg)
 have nS:∀r:Int,0<=r->r<=100->r.natAbs<10 ^ 12:=λr h0 h1=>bay (7:r.natAbs<=9999) 9;have U6:∀y∈gs.map V.int,bR y=true:=λy hy=>by let(g,hg,rfl,):=aFN.mp hy;rfl
 have gl':=gl;rw[<-ano (f:=V.int)]at gl;have Z:Bt N H H b lm lm q (gs.map V.int) gs c:=((a,c,B,aaP _,),hM,hM,(λ_ _ _ e=>e),nE,);generalize hys:gs.map V.int=ys at *;refine hide λu1 e1=>?_;refine(_,8,b,a,q,c,07,8,B,7,9,9,λwy a1 c1 G1 w0 w1 B1 hc1 t1=>?_,);have Z:=Z.take mW mW (rV:=c+1) B1 7 t1;refine(121,lm,_,8,.inl (ah.of Z.ch),119,b,a1,q,c1,_,8,B1,7,7,7,λat' a2 c2 G3 Ek Vr B2 hc2 t2=>(109,gN ?_,),);have Z:=Z.take mW mW (rV:=c+2) B2 7 t2;subst e1;try dsimp only
 clear B B1 B2 t1 t2 hM;have L:Ls N G3 []:=λ_ h=>nomatch h;refine hide λu1 e1=>?_;refine((sL 1),λt1 ht1=>?_,);have IX:¬N t1:=λz=>Z.nn _ z ht1;have sm:=Zb ht1 (.tup [V.int 0]);have Z:=Z.same sm;have L:=L.same sm;have D3:upd G3 t1 (.tup [V.int 0]) t1=!(.tup [V.int 0]):=Za;generalize upd G3 t1 (.tup [V.int 0])=G4 at *;clear sm ht1;refine((sL 1),λl1 hl1=>?_,);let(Z,L,wH,sm,):=nW (zs:=[V.int 0]) Z L hl1 (by show 1<=400;decide) (λy hy=>by rw[aOT.mp hy];exact lH 9);have D3:=sm _ _ D3;have qR:¬N l1:=λz=>by have:=(L l1 5).1;exact this z
 generalize upd G4 l1 (.lst [V.int 0])=G5 at *;clear sm hl1;refine(439,(9,9,9,),183,(sL 09),λlo hlo=>gN ?_,);subst e1;try dsimp only
 obtain⟨gc,we⟩:∃gc,gc=[V.bl true,.aE,.str "0",.ref t1,.ref l1,.int (-1),.int n,.int ((10:Int) ^ (09:Int).toNat),.int (n-1)]:=(_,8,);have Jk:gc.length=09:=by rw[we];rfl
 have dB:∀y∈gc,KR N G5 y:=λy hy=>by
  rw[we]at hy;simp only[acu,aYt,a5s]at hy;rcases hy with rfl|rfl|rfl|rfl|rfl|rfl|rfl|rfl|rfl
  .exact tZ _
  .exact Em
  .exact NU 6
  .exact ((.inr (.inr (.inr (.inr (109,.inr D3,)))),λ_ z=>by cases z;exact IX,),(dH.tup (m:=1) IX D3 9 λy hy=>by rw[aOT.mp hy];exact Am 9).up 9 9,)
  .exact ((.inr (.inr (.inr (.inr (109,.inl wH,)))),λ_ z=>by cases z;exact qR,),(dH.list (m:=1) qR wH 9 λy hy=>by rw[aOT.mp hy];exact Am 9).up 9 9,)
  .exact lH 9
  .exact lH (nS n n0 n1)
  .exact lH 9
  .exact lH (bay (7:(n-1).natAbs<=9999) 9)
 rw[<-we];let(Z,L,eo,sm,):=nW Z L hlo 7 dB;have dB:∀y∈gc,KR N (upd G5 lo (.lst gc)) y:=λy hy=>(dB y hy).same sm;generalize upd G5 lo (.lst gc)=G6 at *;clear sm hlo D3 wH qR IX we;have nlo:lo≠b:=λz=>(L lo 5).1 (z ▸nB);have gU:∀{G:Hp}{lo hi:Option Int},∀y∈ao ys lo hi,KR N G y:=λy hy=>hkd y (Bq hy);have kN:∀lo hi,(ao ys lo hi).length<=100:=λlo hi=>bbd (Au ..) gl;refine hide λu1 e1=>?_;refine(185,lm,_,8,ah.of Z.ch,λlf oW=>?_,);obtain⟨F,hF⟩:∃F,F=ao ys none (!at'):=(_,8,);have kF:∀{G:Hp},∀y∈F,KR N G y:=λy hy=>gU y (hF ▸hy);have gF:=kN none (!at');rw[<-hF]at gF ⊢;let(Z,L,eF,sm,):=nW Z L oW 7 kF;have eo:=sm _ _ eo;have dB:∀y∈gc,KR N (upd G6 lf (.lst F)) y:=λy hy=>(dB y hy).same sm;generalize upd G6 lf (.lst F)=G7 at *;clear sm hF oW;refine(21937,lm,_,8,ah.of Z.ch,λlh F8=>?_,);obtain⟨M,hM⟩:∃M,M=ao ys (!at') (!(at'+1)):=(_,8,);have kM:∀{G:Hp},∀y∈M,KR N G y:=λy hy=>gU y (hM ▸hy);have gM:=kN (!at') (!(at'+1));rw[<-hM]at gM ⊢;let(Z,L,eM,sm,):=nW Z L F8 7 kM;have eo:=sm _ _ eo;have eF:=sm _ _ eF;have dB:∀y∈gc,KR N (upd G7 lh (.lst M)) y:=λy hy=>(dB y hy).same sm;generalize upd G7 lh (.lst M)=G8 at *;clear sm hM F8;refine(1457,lm,_,8,ah.of Z.ch,λlb hlb=>?_,);obtain⟨R,hR⟩:∃R,R=ao ys (!(at'+1)) none:=(_,8,);have kR:∀{G:Hp},∀y∈R,KR N G y:=λy hy=>gU y (hR ▸hy);have gR:=kN (!(at'+1)) none;rw[<-hR]at gR ⊢;let(Z,L,eR,sm,):=nW Z L hlb 7 kR;have eo:=sm _ _ eo;have eF:=sm _ _ eF;have eM:=sm _ _ eM;have dB:∀y∈gc,KR N (upd G8 lb (.lst R)) y:=λy hy=>(dB y hy).same sm;generalize upd G8 lb (.lst R)=G9 at *;clear sm hR hlb gU kN;refine(117,gN ?_,);subst e1;try dsimp only
 refine(145,?_,);by_cases cw:wy=0
 .subst cw;refine aO 9 (_,8,lm,_,8,.inl (ah.of Z.ch,λt2 zU=>?_,),);have IW:¬N t2:=λz=>Z.nn _ z zU;have sm:=Zb zU (.tup ys);have et:upd G9 t2 (.tup ys) t2=!(.tup ys):=Za;have Z:=Z.same sm;have L:Ls N (upd G9 t2 (.tup ys)) []:=λ_ h=>nomatch h;generalize upd G9 t2 (.tup ys)=Ga at *;clear sm zU eo eF eM eR dB;refine(185,lm,ys,8,ah.of Z.ch,9,by rw[yL,ahC];exact aWE (Zk 7),λp1 h1=>?_,);rw[yL];let(Z,L,_,sm,):=nW (zs:=ys.reverse) Z L h1 (by rw[ahC];lia) (λy hy=>hkd y (List.mem_reverse.mp hy));have et:=sm _ _ et;generalize upd Ga p1 (.lst ys.reverse)=Gb at *;clear sm h1;refine(121,(sL 1),λp2 h2=>?_,);let(Z,L,e2,sm,):=nW (zs:=[V.int n]) Z L h2 (by show 1<=400;decide) (λy hy=>by rw[aOT.mp hy];exact lH (nS n n0 n1));have et:=sm _ _ et;generalize upd Gb p2 (.lst [V.int n])=Gc at *;clear sm h2;refine(lm,p2,119,Z.ch,e2,aWE (Zk (show ys.length+1<=1000 by lia)),λp3 h3=>?_,);let(Z,L,_,sm,):=nW (zs:=ys++[V.int n]) Z L h3 (by rw[a96];show ys.length+1<=400;lia) (λy hy=>(a6S.mp hy).elim (hkd y) λh=>by rw[aOT.mp h];exact lH (nS n n0 n1));have et:=sm _ _ et;generalize upd Gc p3 (.lst (ys++[V.int n]))=Gd at *;clear sm h3 e2;refine(_,8,(sL 1),λp4 h4=>?_,);let(Z,L,_,sm,):=nW (zs:=[V.ref lm]) Z L h4 (by show 1<=400;decide) (λy hy=>by rw[aOT.mp hy];exact((.inr (.inr (.inr (.inr (lm,_,8,.inl Z.ch,)))),λ_ z=>by cases z;exact nM,),(dH.list (m:=100) nM Z.ch gl λy hy=>II y hy).up 9 9,));have et:=sm _ _ et;generalize upd Gd p4 (.lst [V.ref lm])=Ge at *;clear sm h4;refine((sL 0),λp5 h5=>?_,);let(Z,L,_,sm,):=nW (zs:=[]) Z L h5 (by show 0<=400;decide) (λy hy=>nomatch hy);have et:=sm _ _ et;generalize upd Ge p5 (.lst [])=Gf at *;clear sm h5;refine((sL 07),λp6 h6=>?_,);have sm:=Zb h6 (.lst [.ref t2,.aE,.ref p1,.ref p3,.str "marks",.ref p4,.ref p5]);have e6:upd Gf p6 (.lst [.ref t2,.aE,.ref p1,.ref p3,.str "marks",.ref p4,.ref p5]) p6=!(.lst [.ref t2,.aE,.ref p1,.ref p3,.str "marks",.ref p4,.ref p5]):=Za;have n6:p6≠b:=λz=>by let(_,_,B,_,):=Z.box;rw[z,B.at']at h6;cases h6
  have Z:=Z.same sm;have L:=L.same sm;have et:=sm _ _ et;generalize upd Gf p6 (.lst [.ref t2,.aE,.ref p1,.ref p3,.str "marks",.ref p4,.ref p5])=Gg at *;let(a3,c3,B3,hc3,):=Z.box;refine(_,8,b,a3,q,c3,07,8,B3,7,9,9,λr a4 c4 Gh r0 r1 B4 hc4 t4=>?_,);let(y,hy,ym,):=wK (xs:=[V.ref t2,.aE,.ref p1,.ref p3,.str "marks",.ref p4,.ref p5]) r0 (by show r<((07:Nat):Int);lia);have L:=L.sb nB t4;refine(p6,135,ah.of (t4 _ _ n6 e6),hy,k y Gh a4 c4 ?_ B4 7 (Z.sb.trans t4),);simp only[acu,aYt,a5s]at ym;rcases ym with rfl|rfl|rfl|rfl|rfl|rfl|rfl
  .exact (OX et IW 7 hkd).sb nB t4
  .exact OZ
  .exact (L _ 5).ou 9
  .exact (L _ 5).ou 9
  .exact OY 6
  .exact (L _ 5).ou 9
  .exact (L _ 5).ou 9
 refine aQ (by simp[cw]) ?_;unfold bX;dsimp only;have ve:lf≠b:=λz=>(L lf 5).1 (z ▸nB);have Tj:lh≠b:=λz=>(L lh 5).1 (z ▸nB);have kK:lb≠b:=λz=>(L lb 5).1 (z ▸nB);have L:Ls N G9 []:=λ_ h=>nomatch h;refine hide λu1 e1=>?_;refine(121,lf,lb,119,eF,eR,aWE (Zk 7),λp1 h1=>?_,);let(Z,L,_,sm,):=nW (zs:=F++R) Z L h1 (by rw[a96];lia) (λy hy=>(a6S.mp hy).elim (kF y) (kR y));have eo:=sm _ _ eo;have eF:=sm _ _ eF;have eM:=sm _ _ eM;have eR:=sm _ _ eR;have dB:∀y∈gc,KR N (upd G9 p1 (.lst (F++R))) y:=λy hy=>(dB y hy).same sm;generalize upd G9 p1 (.lst (F++R))=Ga at *;clear sm h1;refine(121,lf,lh,119,eF,eM,aWE (Zk 7),λq1 g1=>?_,);have sm:=Zb g1 (.lst (F++M));have f1:upd Ga q1 (.lst (F++M)) q1=!(.lst (F++M)):=Za;refine(_,8,q1,lh,119,f1,sm _ _ eM,aWE (Zk (by rw[a96];lia)),λq2 g2=>?_,);have sm:=sm.trans (Zb g2 (.lst (F++M++M)));have f2:upd (upd Ga q1 (.lst (F++M))) q2 (.lst (F++M++M)) q2=!(.lst (F++M++M)):=Za;have Z:=Z.same sm;have L:=L.same sm;have eo:=sm _ _ eo;have eF:=sm _ _ eF;have eM:=sm _ _ eM;have eR:=sm _ _ eR;have dB:∀y∈gc,KR N (upd (upd Ga q1 (.lst (F++M))) q2 (.lst (F++M++M))) y:=λy hy=>(dB y hy).same sm;generalize upd (upd Ga q1 (.lst (F++M))) q2 (.lst (F++M++M))=Gb at *;clear sm g1 g2 f1;refine(_,8,q2,lb,119,f2,eR,aWE (Zk (by rw[a96,a96];lia)),λp2 h2=>?_,);have lM1:M.length<=100:=gM;let(Z,L,_,sm,):=nW (zs:=F++M++M++R) Z L h2 (by rw[a96,a96,a96];lia) (λy hy=>(a6S.mp hy).elim (λhy=>(a6S.mp hy).elim (λhy=>(a6S.mp hy).elim (kF y) (kM y)) (kM y)) (kR y));have eo:=sm _ _ eo;have eF:=sm _ _ eF;have eM:=sm _ _ eM;have eR:=sm _ _ eR;have dB:∀y∈gc,KR N (upd Gb p2 (.lst (F++M++M++R))) y:=λy hy=>(dB y hy).same sm;generalize upd Gb p2 (.lst (F++M++M++R))=Gc at *;clear sm h2 f2;let(a3,c3,B3,hc3,):=Z.box;refine(185,b,a3,q,c3,09,8,B3,7,9,9,λr a4 c4 Gd r0 r1 B4 hc4 t4=>?_,);let(y,hy,ym,):=wK (xs:=gc) r0 (by rw[Jk];lia);have Z:=Z.take mW mW (rV:=c+3) B4 7 t4;have L:=L.sb nB t4;have eo:=t4 _ _ nlo eo;have eF:=t4 _ _ ve eF;have eM:=t4 _ _ Tj eM;have eR:=t4 _ _ kK eR;have ky:KR N Gd y:=(dB y ym).sb nB t4;clear t4 B3 B4 hc3 hc4 dB;refine(lo,135,ah.of eo,hy,(sL 1),λq1 g1=>?_,);have sm:=Zb g1 (.lst [y]);have f1:upd Gd q1 (.lst [y]) q1=!(.lst [y]):=Za;have ky:KR N (upd Gd q1 (.lst [y])) y:=ky.same sm;have Z:=Z.same sm;have L:=L.same sm;have eF:=sm _ _ eF;have eM:=sm _ _ eM;have eR:=sm _ _ eR;generalize upd Gd q1 (.lst [y])=Ge at *;refine(lf,q1,119,eF,f1,aWE (Zk (show F.length+1<=1000 by lia)),λq2 g2=>?_,);have sm:=Zb g2 (.lst (F++[y]));have f2:upd Ge q2 (.lst (F++[y])) q2=!(.lst (F++[y])):=Za;have ky:KR N (upd Ge q2 (.lst (F++[y]))) y:=ky.same sm;have Z:=Z.same sm;have L:=L.same sm;have eF:=sm _ _ eF;have eM:=sm _ _ eM;have eR:=sm _ _ eR;generalize upd Ge q2 (.lst (F++[y]))=Gf at *;refine(_,8,q2,lb,119,f2,eR,aWE (Zk (by rw[a96];show F.length+1+_<=1000;lia)),λp3 h3=>?_,);let(Z,L,_,sm,):=nW (zs:=F++[y]++R) Z L h3 (by rw[a96,a96];show F.length+1+_<=400;lia) (λz hz=>(a6S.mp hz).elim (λhz=>(a6S.mp hz).elim (kF z) (λh=>by rw[aOT.mp h];exact ky)) (kR z));have eF:=sm _ _ eF;have eM:=sm _ _ eM;have eR:=sm _ _ eR;generalize upd Gf p3 (.lst (F++[y]++R))=Gg at *;clear sm g1 g2 h3 f1 f2 ky eo nlo;refine((sL 3),λls hls=>gN ?_,);subst e1;try dsimp only
 have sm:=Zb hls (.lst [.ref p1,.ref p2,.ref p3]);have es:upd Gg ls (.lst [.ref p1,.ref p2,.ref p3]) ls=!(.lst ([p1,p2,p3].map V.ref)):=Za;have AY:ls≠b:=λz=>by let(_,_,B,_,):=Z.box;rw[z,B.at']at hls;cases hls
 have Z:=Z.same sm;have L:Ls N _ [p1,p2,p3]:=L.same sm;have eF:=sm _ _ eF;have eM:=sm _ _ eM;have eR:=sm _ _ eR;generalize upd Gg ls (.lst [.ref p1,.ref p2,.ref p3])=Gh at *;clear sm hls;refine hide λu1 e1=>?_;refine(441,lb,_,8,ah.of eR,λq1 g1=>?_,);have gR1:=Au R none (!1);have Uh:∀{G:Hp},∀y∈ao R none (!1),KR N G y:=λy hy=>kR y (Bq hy);generalize ao R none (!1)=R1 at *;have sm:=Zb g1 (.lst R1);have f1:upd Gh q1 (.lst R1) q1=!(.lst R1):=Za;refine(lf,q1,119,sm _ _ eF,f1,aWE (Zk 7),λq2 g2=>?_,);have sm:=sm.trans (Zb g2 (.lst (F++R1)));have f2:upd (upd Gh q1 (.lst R1)) q2 (.lst (F++R1)) q2=!(.lst (F++R1)):=Za;refine(_,8,q2,lh,119,f2,sm _ _ eM,aWE (Zk (by rw[a96];lia)),λq3 g3=>?_,);have sm:=sm.trans (Zb g3 (.lst (F++R1++M)));have f3:upd (upd (upd Gh q1 (.lst R1)) q2 (.lst (F++R1))) q3 (.lst (F++R1++M)) q3=!(.lst (F++R1++M)):=Za;have Z:=Z.same sm;have L:=L.same sm;have es:=sm _ _ es;have eF:=sm _ _ eF;have eM:=sm _ _ eM;have eR:=sm _ _ eR;generalize upd (upd (upd Gh q1 (.lst R1)) q2 (.lst (F++R1))) q3 (.lst (F++R1++M))=Gi at *;clear sm g1 g2 g3 f1 f2;refine(121,lb,_,8,ah.of eR,λq4 g4=>?_,);have gR2:=Au R (!1) none;have Ug:∀{G:Hp},∀y∈ao R (!1) none,KR N G y:=λy hy=>kR y (Bq hy);generalize ao R (!1) none=R2 at *;have sm:=Zb g4 (.lst R2);have f4:upd Gi q4 (.lst R2) q4=!(.lst R2):=Za;have Z:=Z.same sm;have L:=L.same sm;have es:=sm _ _ es;have eF:=sm _ _ eF;have eR:=sm _ _ eR;have f3:=sm _ _ f3;generalize upd Gi q4 (.lst R2)=Gj at *;clear sm g4 eM;refine(q3,q4,119,f3,f4,aWE (Zk (by rw[a96,a96];lia)),λp4 h4=>?_,);let(Z,L,_,sm,):=nW (zs:=F++R1++M++R2) Z L h4 (by rw[a96,a96,a96];lia) (λz hz=>(a6S.mp hz).elim (λhz=>(a6S.mp hz).elim (λhz=>(a6S.mp hz).elim (kF z) (Uh z)) (kM z)) (Ug z));have es:=sm _ _ es;have eF:=sm _ _ eF;have eR:=sm _ _ eR;generalize upd Gj p4 (.lst (F++R1++M++R2))=Gk at *;clear sm h4 f3 f4;let(a3,c3,B3,hc3,):=Z.box;refine(1463,b,a3,q,c3,_,8,B3,7,7,7,λr a4 c4 Gl r0 r1 B4 hc4 t4=>?_,);have Z:=Z.take mW mW (rV:=c+4) B4 7 t4;have L:=L.sb nB t4;have es:=t4 _ _ AY es;have eF:=t4 _ _ ve eF;have eR:=t4 _ _ kK eR;have kr:r.natAbs<10 ^ 12:=nS r r0 7;clear t4 B3 B4 hc3 hc4;refine((sL 1),λq5 g5=>?_,);have sm:=Zb g5 (.lst [V.int r]);have f5:upd Gl q5 (.lst [V.int r]) q5=!(.lst [V.int r]):=Za;refine(lm,q5,119,sm _ _ Z.ch,f5,aWE (Zk (show ys.length+1<=1000 by lia)),λq6 g6=>?_,);have sm:=sm.trans (Zb g6 (.lst (ys++[V.int r])));have f6:upd (upd Gl q5 (.lst [V.int r])) q6 (.lst (ys++[V.int r])) q6=!(.lst ((gs++[r]).map V.int)):=by rw[Za,aP2,hys];rfl
 have Z:=Z.same sm;have L:=L.same sm;have es:=sm _ _ es;have eF:=sm _ _ eF;have eR:=sm _ _ eR;generalize upd (upd Gl q5 (.lst [V.int r])) q6 (.lst (ys++[V.int r]))=Gm at *;clear sm g5 g6 f5;refine(q6,gs++[r],8,ah.of f6,by rw[a96];show gs.length+1<=1000000;lia,λp5 os h5 hp hw=>?_,);have ol:os.length=gs.length+1:=by rw[hp.length_eq,a96];rfl
 let(Z,L,_,sm,):=nW (zs:=os.map V.int) Z L h5 (by rw[ano];lia) (λz hz=>by
  let(g,hg,rfl,):=aFN.mp hz;rcases a6S.mp (hp.mem_iff.mp hg) with h|h
  .exact lH (gB g h)
  .rw [aOT.mp h];exact lH kr)
 have es:=sm _ _ es;have eF:=sm _ _ eF;have eR:=sm _ _ eR;generalize upd Gm p5 (.lst (os.map V.int))=Gn at *;clear sm h5 f6 hp hw ol kr;refine((sL 2),λl2 hl2=>?_,);have sm:=Zb hl2 (.lst [.ref p4,.ref p5]);have f2:upd Gn l2 (.lst [.ref p4,.ref p5]) l2=!(.lst [.ref p4,.ref p5]):=Za;refine(ls,l2,119,sm _ _ es,f2,aWE (Zk (by show 3+2<=1000;decide)),λl3 hl3=>gN ?_,);subst e1;try dsimp only
 have sm:=sm.trans (Zb hl3 (.lst ([p1,p2,p3].map V.ref++[.ref p4,.ref p5])));have e3:upd (upd Gn l2 (.lst [.ref p4,.ref p5])) l3 (.lst ([p1,p2,p3].map V.ref++[.ref p4,.ref p5])) l3=!(.lst ([p1,p2,p3,p4,p5].map V.ref)):=Za;have To:l3≠b:=λz=>by let(_,_,B,_,):=(Z.same (Zb hl2 (.lst [.ref p4,.ref p5]))).box;rw[z,B.at']at hl3;cases hl3
 have Z:=Z.same sm;have L:Ls N _ [p1,p2,p3,p4,p5]:=L.same sm;have eF:=sm _ _ eF;have eR:=sm _ _ eR;generalize upd (upd Gn l2 (.lst [.ref p4,.ref p5])) l3 (.lst ([p1,p2,p3].map V.ref++[.ref p4,.ref p5]))=Go at *;clear sm hl2 hl3 f2 es AY;let(a3,c3,B3,hc3,):=Z.box;refine(5559,b,a3,q,c3,_,8,B3,7,7,7,λr a4 c4 Gp r0 r1 B4 hc4 t4=>?_,);have Z:=Z.take mW mW (rV:=c+05) B4 7 t4;have L:=L.sb nB t4;have e3:=t4 _ _ To e3;have eF:=t4 _ _ ve eF;have eR:=t4 _ _ kK eR;have kr:r.natAbs<10 ^ 12:=nS r r0 7;clear t4 B3;refine((sL 1),λq7 g7=>?_,);have sm:=Zb g7 (.lst [V.int r]);have f7:upd Gp q7 (.lst [V.int r]) q7=!(.lst [V.int r]):=Za;refine(lf,q7,119,sm _ _ eF,f7,aWE (Zk (show F.length+1<=1000 by lia)),λq8 g8=>?_,);have sm:=sm.trans (Zb g8 (.lst (F++[V.int r])));have f8:upd (upd Gp q7 (.lst [V.int r])) q8 (.lst (F++[V.int r])) q8=!(.lst (F++[V.int r])):=Za;have Z:=Z.same sm;have L:=L.same sm;have e3:=sm _ _ e3;have eR:=sm _ _ eR;have B5:=B4.same sm;generalize upd (upd Gp q7 (.lst [V.int r])) q8 (.lst (F++[V.int r]))=Gq at *;clear sm g7 g8 f7;refine(_,8,q8,lb,119,f8,eR,aWE (Zk (by rw[a96];show F.length+1+_<=1000;lia)),λp6 h6=>?_,);let(Z,L,_,sm,):=nW (zs:=F++[V.int r]++R) Z L h6 (by rw[a96,a96];show F.length+1+_<=400;lia) (λz hz=>(a6S.mp hz).elim (λhz=>(a6S.mp hz).elim (kF z) (λh=>by rw[aOT.mp h];exact lH kr)) (kR z));have e3:=sm _ _ e3;have B6:=B5.same sm;generalize upd Gq p6 (.lst (F++[V.int r]++R))=Gr at *;clear sm h6 f8;refine((sL 1),λl4 zZ=>?_,);have sm:=Zb zZ (.lst [.ref p6]);have f4:upd Gr l4 (.lst [.ref p6]) l4=!(.lst [.ref p6]):=Za;refine(l3,l4,119,sm _ _ e3,f4,aWE (Zk (by show 05+1<=1000;decide)),λl5 wj=>?_,);have sm:=sm.trans (Zb wj (.lst ([p1,p2,p3,p4,p5].map V.ref++[.ref p6])));have e5:upd (upd Gr l4 (.lst [.ref p6])) l5 (.lst ([p1,p2,p3,p4,p5].map V.ref++[.ref p6])) l5=!(.lst ([p1,p2,p3,p4,p5,p6].map V.ref)):=Za;have Z:=Z.same sm;have L:Ls N _ [p1,p2,p3,p4,p5,p6]:=L.same sm;have B7:=B6.same sm;generalize upd (upd Gr l4 (.lst [.ref p6])) l5 (.lst ([p1,p2,p3,p4,p5].map V.ref++[.ref p6]))=Gs at *;let(x,hx,xm,):=wK (xs:=[p1,p2,p3,p4,p5,p6].map V.ref) (r:=wy-1) 7 (by show wy-1<((06:Nat):Int);lia);let(l,hl,rfl,):=aFN.mp xm;exact(183,l5,135,ah.of e5,hx,k _ _ a4 c4 ((L l hl).ou 9) B7 7 Z.sb,)
noncomputable def fR(u v r:Int):List Int:=(List.replicate (2+r).toNat [u,v]).flatten
theorem V4(u v r:Int):(List.replicate (2+r).toNat [V.int u,V.int v]).flatten=(fR u v r).map V.int:=by
 unfold fR
 induction (2+r).toNat with
 |zero=>rfl
 |succ n ih=>rw[aVk,aAN,ih,aVk,aAN,aP2];rfl
theorem OT(u v:Int):∀n,((List.replicate n [u,v]).flatten).length=2*n
 |0=>rfl
 |n+1=>by rw[aVk,aAN,a96,OT u v n];show 2+_=_;lia
theorem OS{u v:Int}(h:u≠v):∀n i,i+1<2*n->((List.replicate n [u,v]).flatten).getD i 0≠((List.replicate n [u,v]).flatten).getD (i+1) 0
 |0,i,hi=>absurd hi 7
 |n+1,0,_=>h
 |n+1,1,hi=>by
  cases n with
  |zero=>lia
  |succ m=>exact aUP h
 |n+1,i+2,hi=>by
  have ih:=OS h n i 7;exact ih
theorem V3{u v r x:Int}(h:x∈fR u v r):x=u\/x=v:=by
 let(l,hl,hx,):=List.mem_flatten.mp h;rw[(List.mem_replicate.mp hl).2]at hx;simpa using hx
theorem OR{row:List Int}(h:∀i,i+1<row.length->row.getD i 0≠row.getD (i+1) 0):bB 1 1 row (List.range row.length)=0:=by
 unfold bB;have e:(List.range row.length).countP (m8 1 row (List.range row.length))=0:=by
  rw[aEh];intro i hi;have hi:=aOW.mp hi;unfold m8;by_cases c:bF row i<row.length
  .let(j,e1,e2,e3,e4,_,):=Eo hi c;have nj:j≠i+1:=λz=>h i 7 (by rw[<-z];exact e4.symm);have em:dG 1 row (List.range row.length) i (bF row i).toNat=true:=by
    rw[e1];unfold dG;rw[a8G];refine(i+1,aOW.mpr 7,?_,);unfold bW;rw[agi,anN (7:i<i+1),anN (7:i+1<j),Int.emod_one,Int.emod_one];rfl
   rw[em,aZh,aPY];exact aJD
  .rw [alG c,aNq];exact aJD
 rw[e];simp
theorem V2(n:Nat):(List.range n).Pairwise (·<·):=List.pairwise_lt_range
theorem V1{row:List Int}(h:∀i,i+1<row.length->row.getD i 0≠row.getD (i+1) 0):cQ 1 1 row (!((bU 1 1 row).map au)) (!(mV (List.range row.length)))=true:=by
 let(c,hc,cl,):=LB (sh:=1) (pl:=1) 9 row;have hr:∀x∈List.range row.length,x<row.length:=λx hx=>aOW.mp hx;have w:=P6 9 hc (List.range row.length) hr;rw[OR h]at w;unfold cQ;have e:jw 1 1 row (!((bU 1 1 row).map au))=!(c:Int):=(EH 1 1 row _).trans hc;rw[e];show(tU row.length (!(mV (List.range row.length))) && decide ((row.length:Int)-bB 1 1 row (pX (!(mV (List.range row.length))))=(c:Int)))=true;have e2:pX (!(mV (List.range row.length)))=List.range row.length:=ye _;rw[yf hr (V2 _),e2,OR h,anN 7];rfl
theorem V0{sh pl:Int}{row:List Int}{oo:Option (List V)}{ys:List V}(h:∃y∈ys,qV y=false):cQ sh pl row oo (!ys)=false:=by
 unfold cQ;cases jw sh pl row oo with
 |none=>rfl
 |some c=>
  show(cT row.length (-1) ys && _)=false;rw[K3 h,aNq]
noncomputable def fM(z:Int)(m:Nat):V:=if(m:Int)=z then .bl (decide (z=1)) else .int (m:Int)
inductive su(K:W.Frag)(vs:List V)(H:Hp)(Q:VK)(E:XK):Prop
 |mk (b:Addr) (a q c:Int):vs=[.ref b]->aA H b a q c->c<320000000->(∀(H':Hp)(a' c':Int),aA H' b a' q c'->c'<=c+3->SB b H H'->Q (.bl true) H')->su K vs H Q E
example:(gQ gk bD xU vc):=by
 let(b,a,q,c,rfl,B,hc,k,):=h;refine(_,(Zf (aY 1 nd (Zm bD hr.m 8 (pc (pv 0) (pc Zh Zc))))
   (Zf (aY 2 nd (aa WD (Zv (pc (pv 1) (pc (aa ZB (aa ZB (pv 1) Zh) (Zm bD hr.m 8 (pc (pv 0) (pc Zh Zc)))) Zc))) (aa ZB Zh (Zm bD hr.m 8 (pc (pv 0) (pc Zh Zc))))))
   (Zf (uN (nY (pc (Zm xU hr.m 8 (pc Zh (pc Zh (pc (pv 2) Zc)))) (pc (Zdq 8 8 T.vQ 8 T.nR (pc (Zl (Zn (K:=K) 8) 8 T.dw arj (pc (pv 2) Zc)) Zc)) Zc))) (ZR (K:=K) (n:=2) 8 8 (Zs (bu 3 nd) (Zs (bu 4 nd) ZQ))))
   (Zf (aF (Zq Ph (Zm vc hr.m 8 (pc Zh (pc Zh (pc (pv 2) (pc (pv 3) (pc (pv 4) Zc)))))) aX (Zu _)) (Zj (Zr aX)) Zw)
   (Zf (EO 05 (Zx (bQ:=(Zp aZ)) (oN:=dY) (N:=["_law_one","_law_marks"]) (own:=1) (js:=[4]) 6 8 8) 8 nd 8 8 (O6 (K:=K) 8 (nY (pc Zh (pc Zh Zc)))) (λ_ _ _ _ _ _=>(bu 0 (show List.Nodup (["_law_one","_law_marks"]:List Str) by decide +kernel))) (λ_ _ _ _ _ _=>(rA (Yq (bQ:=(Zp aZ)) (oN:=["_law_one","_law_marks"]) (N:=["_law_mark","_law_one"]) (own:=1) (js:=[0]) 8 8 8 6) 8 (ZF (K:=K) 8 (pv 1)) (λ_ _ _ _ _ _=>(bu 0 (show List.Nodup (["_law_mark","_law_one"]:List Str) by decide +kernel))) (λ_ _ _ _ _ _=>(uM (Zq aS (pv 0) (pv 1) (Zu _)) (qo aS (pv 0) Zh (Zu _)) (pv 0))))))
   (Zj (Zr (qo (Ol (K:=K) 0 (pZ hr 0 9) 8) (rA (Zx (bQ:=(Zp aZ)) (oN:=dY) (N:=["_law_some","_law_row","_law_choice"]) (own:=1) (js:=[2,3]) 6 8 8) 8 (ZF (K:=K) 8 (pv 05)) (λ_ _ _ _ _ _=>(bu 0 (show List.Nodup (["_law_some","_law_row","_law_choice"]:List Str) by decide +kernel))) (λ_ _ _ _ _ _=>(Zm vc hr.m 8 (pc Zh (pc Zh (pc (pv 1) (pc (pv 2) (pc (pv 0) Zc)))))))) (Zv (pc aX (pc aX Zc))) (Zu _))))))))),?_,)
 refine(_,8,b,a,q,c,05000,8,B,7,9,9,λu a1 c1 G1 u0 u1 B1 hc1 t1=>gN ?_,);try dsimp only
 refine(1457,b,a1,q,c1,09,8,B1,7,9,9,λr1 a2 c2 G2 CK IL B2 hc2 t2=>(119,(sL 2),λl1 hl1=>?_,),);have qR:l1≠b:=aUP (Ze B2.at' hl1);refine(_,8,b,a2,q,c2,05,8,B2.same (Zb hl1 _),7,9,9,λr a3 c3 G3 r0 r2 B3 hc3 t3=>?_,);have wH:G3 l1=!(.lst [.int u,.int (u+1+r1)]):=t3 _ _ qR Za;have tD:SB b H G3:=((t1.trans t2).trans ((Zb hl1 _).sb b)).trans t3;clear t1 t2 t3 hl1;refine(119,l1,119,wH,7,7,?_,λlr hlr=>gN ?_,)
 .show 2*(2+r).toNat<=sizeLine;exact aWE (Zk 7)
 try dsimp only
 rw[V4];have rl:(fR u (u+1+r1) r).length=2*(2+r).toNat:=OT _ _ _;have Vu:∀i,i+1<(fR u (u+1+r1) r).length->(fR u (u+1+r1) r).getD i 0≠(fR u (u+1+r1) r).getD (i+1) 0:=λi hi=>OS 7 _ i 7;have bd:rX 9999 (fR u (u+1+r1) r):=λx hx=>by rcases V3 hx with rfl|rfl <;> lia
 have rl0:4<=(fR u (u+1+r1) r).length/\(fR u (u+1+r1) r).length<=12:=7
 clear rl;have sm:=Zb hlr (.lst ((fR u (u+1+r1) r).map V.int));have rR:upd G3 lr (.lst ((fR u (u+1+r1) r).map V.int)) lr=!(.lst ((fR u (u+1+r1) r).map V.int)):=Za;generalize fR u (u+1+r1) r=row at *;have B1:=B3.same sm;have tD:SB b H (upd G3 lr (.lst (row.map V.int))):=λx o n e=>sm _ _ (tD x o n e);generalize upd G3 lr (.lst (row.map V.int))=G2 at *;clear sm hlr wH qR B2 B3;refine(_,8,1,1,lr,row,8,ah.of rR,9,9,9,9,7,bd,λlc G3 nU s3 wG=>?_,);refine(_,8,lr,_,8,.inl (s3.seq (ah.of rR)),_,8,by rw[ano];lia,by rw[ano];lia,by rw[ano];exact aWE (Zk 7),λlm rP=>?_,);have em:(List.range (((row.map V.int).length:Int)).toNat).map (λk:Nat=>V.int (k:Int))=mV (List.range row.length):=by rw[ano,agi];rfl
 rw[em];have sm:=s3.trans (Zb rP (.lst (mV (List.range row.length))));have qg:upd G3 lm (.lst (mV (List.range row.length))) lm=!(.lst (mV (List.range row.length))):=Za;have wG:=Zb rP (.lst (mV (List.range row.length))) _ _ wG;have rR:=sm _ _ rR;have B1:=B1.same sm;have tD:SB b H (upd G3 lm (.lst (mV (List.range row.length)))):=λx o n e=>sm _ _ (tD x o n e);generalize upd G3 lm (.lst (mV (List.range row.length)))=G4 at *;clear sm s3 rP nU em;refine((sL 2),λtu htu=>(tu,_,8,bS.of Za,125,gN (109,gN (8,?_,),),),);try dsimp only
 have Sv:=V1 Vu;have dl:=Hr 1 1 row;have rr:∀x∈List.range row.length,x<row.length:=λx hx=>aOW.mp hx;have FZ:(List.range row.length).length=row.length:=ax4;have odd:∀z:Int,(z=0\/z=1)->cQ 1 1 row (!((bU 1 1 row).map au)) (!((List.range row.length).map (fM z)))=false:=λz hz=>V0 (.bl (decide (z=1)),by
  rw[mem_map];refine(z.toNat,aOW.mpr 7,?_,);unfold fM;rw[ahF 7],8,)
 generalize bU 1 1 row=os at *;have sm:=Zb htu (.tup [.ref lc,.ref lm]);have rR:=sm _ _ rR;have wG:=sm _ _ wG;have qg:=sm _ _ qg;have B1:=B1.same sm;have tD:SB b H (upd G4 tu (.tup [.ref lc,.ref lm])):=λx o n e=>sm _ _ (tD x o n e);generalize upd G4 tu (.tup [.ref lc,.ref lm])=G5 at *;clear sm htu;have xw:∀{G:Hp},ak G5 G->nD G (.ref lc) (!(os.map au)):=λs=>((lc,8,s _ _ wG,),by rw[ano];lia,λy hy=>by let(o,_,rfl,):=aFN.mp hy;exact NW o,);refine(185,1,1,lr,.ref lc,.ref lm,row,!(os.map au),!(mV (List.range row.length)),8,ah.of rR,xw (ak.refl _),((lm,8,qg,),by unfold mV;rw[ano,FZ];lia,λy hy=>by let(o,_,rfl,):=aFN.mp hy;exact .inr (.inr (.inl (_,8,))),),9,9,7,λG6 s6=>?_,);rw[Sv];refine(177,aQ 8 ?_,);try dsimp only[bX]
 refine((sL 2),λtq F5=>?_,);have sm:=s6.trans (Zb F5 (.tup [.int 0,.int 1]));have A9:upd G6 tq (.tup [.int 0,.int 1]) tq=!(.tup [.int 0,.int 1]):=Za;have rR:=sm _ _ rR;have xw:∀{G:Hp},ak (upd G6 tq (.tup [.int 0,.int 1])) G->nD G (.ref lc) (!(os.map au)):=λs=>xw (sm.trans s);have qg:=sm _ _ qg;have B1:=B1.same sm;have tD:SB b H (upd G6 tq (.tup [.int 0,.int 1])):=λx o n e=>sm _ _ (tD x o n e);generalize upd G6 tq (.tup [.int 0,.int 1])=G4 at *;clear sm F5 s6;refine(tq,8,(_,bS.of A9,),λlz qc=>?_,);refine Py (K:=K) (a:=tq) (xs:=[.int 0,.int 1]) (l:=lz) (λi zs σ G=>∃(v0:Option V)(qs:List Addr),σ=[v0,!(.ref lm)]/\zs=qs.map V.ref/\qs.length=i/\G lz=!(.lst zs)/\ak G4 G/\∀(j:Nat)(l:Addr),qs[j]?=!l->l≠lz/\G l=!(.lst ((List.range row.length).map (fM (j:Int)))))
  (none,[],115,Za,Zb qc _,λj l e=>by simp at e,) (λi ys σ G _ w9=>by let(_,_,_,_,_,_,s,_,):=w9;exact bS.of (s _ _ A9)) ?_ ?_
 .rintro i v zs σ G hi hv hzs ⟨v0,qs,rfl,rfl,lq,jK,s,hq⟩;have ev:v=.int (i:Int):=by
   have:i=0\/i=1:=by have:i<2:=hi;lia
   rcases this with rfl|rfl <;> (cases hv;rfl)
  subst ev;refine(_,8,lm,8,(_,ah.of (s _ _ qg),),λln gW=>?_,);have Df:ln≠lz:=aUP (Ze jK gW);refine ZA (K:=K) (a:=lm) (xs:=mV (List.range row.length)) (l:=ln) (λj ys σ G'=>∃v0:Option V,σ=[v0,!(.int (i:Int))]/\ys=((List.range row.length).take j).map (fM i)/\G'=upd G ln (.lst ys)) (none,115,) (λj ys σ G' _ w9=>by let(_,_,_,q,):=w9;exact ah.of (by rw[q,Zg (Ze (s _ _ qg) gW)];exact s _ _ qg)) ?_ ?_
  .rintro j x ys σ G' hj dS hys ⟨v0,rfl,rfl,rfl⟩;have hj':j<row.length:=by unfold mV at hj;rw[ano,FZ]at hj;exact hj
   have ex:x=.int (j:Int):=by
    unfold mV at dS;rw[aGb,apf hj']at dS;cases dS;rfl
   subst ex;have o9:(List.range row.length).take (j+1)=(List.range row.length).take j++[j]:=by rw[a8b,apf hj'];rfl
   have hbig:(mV (List.range row.length)).length<=sizeLine:=aWE (Zk (by unfold mV;rw[ano,FZ];lia));have fin:∀y,y=fM i j->dh (mV (List.range row.length)).length ln (λj ys σ G'=>∃v0:Option V,σ=[v0,!(.int (i:Int))]/\ys=((List.range row.length).take j).map (fM i)/\G'=upd G ln (.lst ys)) j (((List.range row.length).take j).map (fM i)) [!(.int (j:Int)),!(.int (i:Int))] y (upd G ln (.lst (((List.range row.length).take j).map (fM i)))):=λy ey=>by
    refine dh.of hbig hj hys Za (_,8,?_,rq,);rw[o9,aP2,ey];rfl
   refine(273,?_,);refine Ln (λc'=>(111,?_,)) (λc'=>(_,8,?_,))
   .refine fin _ ?_;have e:(j:Int)=(i:Int):=by simpa using c'
    unfold fM;rw[ahF e,e];simp
   .refine fin _ ?_;have e:¬(j:Int)=(i:Int):=by simpa using c'
    unfold fM;rw[aah e]
  rintro ys σ G' hys ⟨v1,rfl,rfl,rfl⟩;have J7:(mV (List.range row.length)).length=(List.range row.length).length:=by unfold mV;rw[ano]
  rw[J7,aXW];have sm:=Zb gW (.lst ((List.range row.length).map (fM i)));refine dh.of (sL 2) hi hzs (sm _ _ jK) (_,qs++[ln],8,by rw[aP2];rfl,by rw[a96,lq];rfl,Za,λx o e=>by rw[Zg (Ze e qc)];exact sm _ _ (s _ _ e),λj l e=>?_,);by_cases cj:j<qs.length
  .rw [ah8 cj]at e;let(n1,e1,):=hq j l e;exact(n1,by rw[Zg n1];exact sm _ _ e1,)
  .rw [a9d 7]at e;have z:j-qs.length=0:=by
    have:=(aFR.mp e).1;simp at this;lia
   rw[z]at e;cases e;have:j=i:=7
   subst this;exact(Df,by rw[Zg Df];exact Za,)
 rintro zs σ G _ ⟨v0,qs,rfl,rfl,lq,jK,s,hq⟩;refine gN ?_;try dsimp only
 have rR:=s _ _ rR;have xw:∀{G':Hp},ak G G'->nD G' (.ref lc) (!(os.map au)):=λq=>xw (s.trans q);have B1:=B1.same s;have tD:SB b H G:=λx o n e=>s _ _ (tD x o n e);clear s A9;have T6:qs.length=2:=lq;obtain⟨q0,q1,rfl⟩:∃q0 q1,qs=[q0,q1]:=by
  match qs,T6 with
  | [a,b],_=>exact(a,b,8,)
 have h0:=(hq 0 q0 8).2;have h1:=(hq 1 q1 8).2;have MX:∀z:Int,∀y∈(List.range row.length).map (fM z),Kd G y:=λz y hy=>by
  let(o,_,rfl,):=aFN.mp hy;unfold fM;split
  .exact .inr (.inl (_,8,))
  .exact .inr (.inr (.inl (_,8,)))
 have lo:∀z:Int,((List.range row.length).map (fM z)).length<=400:=λz=>by rw[ano,FZ];lia
 have all:∀(j:Nat)(x:V),[V.ref q0,.ref q1][j]?=!x->∃mm,nD G x mm/\cQ 1 1 row (!(os.map au)) mm=false/\[V.bl false,.bl false][j]?=!(.bl false):=λj x e=>by
  match j,e with
  |0,e=>
   cases e;exact(!_,((q0,8,h0,),lo 0,MX 0,),odd 0 (.inl 8),8,)
  |1,e=>
   cases e;exact(!_,((q1,8,h1,),lo 1,MX 1,),odd 1 (.inr 8),8,)
  |n+2,e=>simp at e
 refine(_,8,lz,8,(_,ah.of jK,),λl4 zZ=>?_,);refine ZA (K:=K) (a:=lz) (xs:=[.ref q0,.ref q1]) (l:=l4) (λj ys σ G'=>∃v0:Option V,σ=[v0,!(.ref lr),!(.ref lc)]/\ys=[V.bl false,.bl false].take j/\G' l4=!(.lst ys)/\ak G G') (none,8,8,Za,Zb zZ _,) (λj ys σ G' _ w9=>by let(_,_,_,_,s,):=w9;exact ah.of (s _ _ jK)) ?_ ?_
 .rintro j x ys σ G' hj dS hys ⟨v0,rfl,rfl,e4,s⟩;let(mm,th,ef,ey,):=all j x dS;refine(185,1,1,lr,.ref lc,x,row,!(os.map au),mm,8,ah.of (s _ _ rR),xw s,th.same s,9,9,7,λG7 s7=>?_,);rw[ef];refine dh.of (sL 2) hj hys (s7 _ _ e4) (_,8,by rw[a8b,ey];rfl,Za,λx o e=>by rw[Zg (Ze e zZ)];exact s7 _ _ (s _ _ e),)
 rintro ys σ G' _ ⟨v0,rfl,rfl,e4,s⟩;refine((sL 2),λl5 wj=>?_,);have sm:=Zb wj (.lst [V.bl false,.bl false]);refine(l4,l5,_,[V.bl false,.bl false],λ_=>true,8,8,(λi u v h1 h2=>?_),ah.of (sm _ _ e4),ah.of Za,.inl (8,k _ a3 c3 (B1.same (s.trans sm)) 7 λx o n e=>sm _ _ (s _ _ (tD x o n e)),),);have h1:[V.bl false,.bl false][i]?=!u:=h1;rw[h1]at h2;cases h2
 match i,h1 with
 |0,e=>cases e;exact(8,8,8,)
 |1,e=>cases e;exact(8,8,8,)
 |n+2,e=>simp at e
theorem ZgA{sh pl:Int}{row:List Int}{os:List Nat}(hl:row.length<=1000000)(hp:1<=pl)(po:os.Perm (iS sh pl row))(pw:os.Pairwise (·<=·)):cQ sh pl row (!((bU sh pl row).map au)) (!(mV os))=true:=by
 let(c,hc,cl,):=LB (sh:=sh) hp row;let(mi,ml,):=yg po;have asc:=VA po pw;have str:=X4 hl hp po mi;have el:Ep sh pl row=c:=by unfold Ep;rw[hc];rfl
 unfold cQ;have e:jw sh pl row (!((bU sh pl row).map au))=!(c:Int):=(EH sh pl row _).trans hc;rw[e];show(tU row.length (!(mV os)) && decide ((row.length:Int)-bB sh pl row (pX (!(mV os)))=(c:Int)))=true;have e2:pX (!(mV os))=os:=ye _;rw[yf mi asc,e2,str,el,anN 7];rfl
theorem Yj{sh pl:Int}{row:List Int}{oo mm:Option (List V)}{m:Int}(h:cQ sh pl row oo mm=true)(hw:∀ms:List Nat,(∀x∈ms,x<row.length)->(row.length:Int)-m<=bB sh pl row ms):∃c,jw sh pl row oo=!c/\c<=m:=by
 unfold cQ at h;cases e:jw sh pl row oo with
 |none=>rw[e]at h;cases h
 |some c=>
  rw[e]at h;have h:(tU row.length mm && decide ((row.length:Int)-bB sh pl row (pX mm)=c))=true:=h;rw[aEv,auA]at h;let(h1,h2,):=h;refine(c,8,?_,);have:=hw (pX mm) (by
   cases mm with
   |none=>cases h1
   |some ys=>
    let(_,q2,_,):=K5 7 h1;exact λx hx=>by have:=q2 x hx;lia)
  lia
def BI(b:Addr)(G:Hp)(x:V):Prop:=pC (λa=>a=b) G x
theorem P1{b l:Addr}{G:Hp}{ys:List V}(nl:l≠b)(e:G l=!(.lst ys))(h4:ys.length<=400)(hk:∀y∈ys,KR (λa=>a=b) G y):BI b G (.ref l):=LR.ou (nl,ys,e,h4,hk,) (bbI _)
inductive jY(K:W.Frag)(vs:List V)(H:Hp)(Q:VK)(E:XK):Prop
 |mk (b:Addr) (a q c:Int):vs=[.ref b]->aA H b a q c->c<300000000->Tb K H->(∀H',SB b H H'->Q (.bl true) H')->jY K vs H Q E
theorem XH(F:rM K "_law_right" "_law_right" ki f fd)(T:Txt K mg)(bD:Def P w K mg base "_law_take" 1 uS oB)(IP:Def P w K mg base "_law_truths_right" 09 dX (su K))(Ib:Def P w K mg base "_law_shape" 2 qq jX)(Ia:Def P w K mg base "_law_asked" 3 qv j4)(IM:Def P w K mg base "_law_drawn_order" 2 eU (sN K))
  (xU:Def P w K mg base "farthest" 08 iV (sM K)) (xT:Def P w K mg base "run_row" 07 jP (sy K)) (Ig:Def P w K mg base "marks_of" 3 iU (sI K)) (Ik:Def P w K mg base "_law_some_marks" 2 fU (y9 K)) (vc:Def P w K mg base "shows_least" 4 eT (lQ K)) (Ij:Def P w K mg base "_law_bent_order" 2 fW (jZ K)) (Ii:Def P w K mg base "_law_bent_marks" 2 fX (j0 K)) (Il:Def P w K mg base "_law_due" 3 yM (lQ K)) (xS:Def P w K mg base "_law_counted" 2 jQ (sP K)) (Ic:Def P w K mg base "misses" 08 nF (oE K)):cN P w K mg base lN 10 f fd qt (jY K):=by
 refine F.ok lZ (λvs H Q E h=>?_) (λcdv A outer st H vs Q E hr h=>?_)
 .let(b,a,q,c,rfl,_,):=h;rfl
 let(b,a,q,c,rfl,B,hc,tb,k,):=h;have FN:tabOf K "Room" "going" ≠b:=yd tb B.1 (by intro z;cases z);have nd:=lZ.nd;have hu:=ue hr;refine(_,(Zf (aF (ny (ZW (Zm IP hr.m 8 (pc (pv 0) Zc)))) (Zj (Zr aX)) Zw)
   (Zf (uN (Zm Ib hr.m 8 (pc (pv 0) Zc)) (ZR (K:=K) (n:=3) 8 8 (Zs (bu 1 nd) (Zs (bu 2 nd) (Zs (bu 3 nd) ZQ)))))
   (Zf (aY 4 nd (Zm Ia hr.m 8 (pc (pv 0) (pc Zh (pc Zh Zc)))))
   (Zf (aY 05 nd (Zv (pc (Zm xU hr.m 8 (pc (pv 1) (pc (pv 2) (pc (pv 4) Zc)))) (pc (Zm IM hr.m 8 (pc (pv 0) (pc (pv 1) (pc (pv 2) (pc (pv 4) Zc))))) Zc))))
   (Zf (ZC (lI (K:=K) 8 (bK aTF aMf aUV ZD (pv 05) (pc (rA (Zx (bQ:=(Zp ki)) (oN:=wZ) (N:=["_law_here","_law_gone"]) (own:=2) (js:=[]) 6 8 8) 8 (ZF (K:=K) 8 (Zm xT hr.m 8 (pc (pv 1) (pc (pv 2) (pc (pv 3) (pc (pv 4) Zc)))))) (λ_ _ _ _ _ _=>(ZR (K:=K) (n:=2) 8 8 (Zs (bu 0 (show List.Nodup (["_law_here","_law_gone"]:List Str) by decide +kernel)) (Zs (bu 1 (show List.Nodup (["_law_here","_law_gone"]:List Str) by decide +kernel)) ZQ)))) (λ_ _ _ _ _ _=>(pv 1))) Zc))))
   (Zf (aY 06 nd (Zv (pc (Zm Ig hr.m 8 (pc (pv 1) (pc (pv 2) (pc (pv 4) Zc)))) (pc (Zm Ik hr.m 8 (pc (pv 0) (pc (pv 4) Zc))) Zc))))
   (Zf (aF (Zq Ph (Zm vc hr.m 8 (pc (pv 1) (pc (pv 2) (pc (pv 4) (pc (av (Zo (K:=K) 8) (pv 05) Zh (λ_ _=>8)) (pc (av (Zo (K:=K) 8) (pv 06) Zh (λ_ _=>8)) Zc)))))) aX (Zu _)) (Zj (Zr aX)) Zw)
   (Zf (nZ aDP 8 (ZX 8 T.nR (pc Zh Zc)) (bu 07 nd) (Zf (aY 08 nd (av (Zo (K:=K) 8) (pv 05) (av (Zo (K:=K) 8) (Zv (pc Zh (pc Zh (pc Zh (pc Zh Zc))))) (Zm bD hr.m 8 (pc (pv 0) (pc Zh Zc))) (λ_ _=>8)) (λ_ _=>8)))
   (Zf (aY 09 nd (av (Zo (K:=K) 8) (pv 06) (ZO ET 8 T.vd yI (pc (qo aS (Zm bD hr.m 8 (pc (pv 0) (pc Zh Zc))) Zh (Zu _)) Zc)) (λ_ _=>8)))
   (Zf (aF (Zq aS (Zm bD hr.m 8 (pc (pv 0) (pc Zh Zc))) Zh (Zu _)) (Zj (aY 08 nd (Zm Ij hr.m 8 (pc (pv 0) (pc (pv 08) (pc (pv 4) Zc)))))) Zw)
   (Zf (aF (Zq aS (Zm bD hr.m 8 (pc (pv 0) (pc Zh Zc))) Zh (Zu _)) (Zj (aY 09 nd (Zm Ii hr.m 8 (pc (pv 0) (pc (pv 09) (pc (Zl (Zn (K:=K) 8) 8 T.dw arj (pc (pv 4) Zc)) Zc)))))) Zw)
   (Zf (aY 10 nd (ZO (Qs hr.gd (pZ hr 20 9)) 8 T.Ft QA (pc (Zv (pc (pv 4) (pc (pv 08) (pc (pv 09) Zc)))) Zc)))
   (Zf (aY 11 nd (Zm vc hr.m 8 (pc (pv 1) (pc (pv 2) (pc (pv 4) (pc (pv 08) (pc (pv 09) Zc)))))))
   (Zf (aF (PW.pt (pw_or (ny (ZW (Zl uL 8 T.qK uK (pc (pv 11) (pc (uP (v:=.ty "bool") 8 T.AM HQ 8) Zc))))) (rW (Zq gE (pv 11) (Zm Il hr.m 8 (pc (pv 1) (pc (pv 2) (pc (pv 4) (pc (pv 08) (pc (pv 09) Zc)))))) (Zu _))))) (Zj (Zr aX)) Zw)
   (Zf (aF (Zq gE (ZO (Qs hr.gd (pZ hr 20 9)) 8 T.Ft QA (pc (Zv (pc (pv 4) (pc (pv 08) (pc (pv 09) Zc)))) Zc)) (pv 10) (Zu _)) (Zj (Zr aX)) Zw)
   (Zf (aY 12 nd (Zm xS hr.m 8 (pc (pv 1) (pc (pv 2) (pc (pv 4) (pc (pv 08) Zc))))))
   (Zj (aF (PW.pt (vv (ZW (pv 11)) (vD (Zq cF (Zm Ic hr.m 8 (pc (pv 1) (pc (pv 2) (pc (pv 3) (pc (pv 4) Zc))))) (pv 12) (Zu _))))) (Zj (Zr aX)) Zw))))))))))))
   (Zj (Zr aX)))))))))),?_,)
 refine(_,8,b,a,q,c,8,B,7,λH0 a0 c0 B0 hc0 u0=>(_,8,aQ 8 ?_,),);try dsimp only[bX]
 refine hide λu1 ee=>?_;refine(_,8,b,a0,q,c0,8,B0,7,λp sh pl ru a1 c1 H1 e1 qF u9 vR ku vg B1 hc1 s1=>(p,_,8,bS.of e1,125,gN (109,gN (109,gN (8,?_,),),),),);subst ee;try dsimp only
 refine hide λu1 ee=>?_;refine(_,8,b,a1,q,c1,040,060,8,B1,7,9,9,9,λlr row a2 c2 H2 hlr e2 zO bd B2 hc2 s2=>gN ?_,);subst ee;try dsimp only
 have u2:=(u0.trans s1).trans s2;have yc:lr≠b:=aUP (Ze B1.at' hlr);have l60:row.length<=60:=7
 clear s1 s2 u0 B B0 B1 e1 hlr zO;refine hide λu1 ee=>?_;refine(185,sh,pl,lr,row,8,ah.of e2,qF,u9,vR,ku,7,bd,λlf H3 oW s3 qh=>?_,);have ve:lf≠b:=aUP (Ze B2.at' oW);have e2:=s3 _ _ e2;have B2:=B2.same s3;have u3:=u2.trans (s3.sb b);clear s3 oW u2;refine(441,b,lr,a2,q,c2,sh,pl,row,8,B2,7,e2,yc,7,qF,vR,λld H4 IS a3 c3 qW uA lo2 wC B3 hc3 t3=>?_,);have Ja:ld≠b:=aUP (Ze B2.at' qW);have e2:=t3 _ _ yc e2;have qh:=t3 _ _ ve qh;have u3:=u3.trans t3;clear B2 t3 qW;refine((sL 2),λlg vh=>gN ?_,);subst ee;try dsimp only
 have FT:lg≠b:=aUP (Ze B3.at' vh);have Nr:lr≠lg:=Ze e2 vh;have Nu:ld≠lg:=Ze uA vh;have Nt:lf≠lg:=Ze qh vh;have gH:H lg=none:=by
  cases z:H lg with
  |none=>rfl
  |some o=>rw[u3 _ _ FT z]at vh;cases vh
 have sm:=Zb vh (.lst [.ref lf,.ref ld]);have rT:upd H4 lg (.lst [.ref lf,.ref ld]) lg=!(.lst [.ref lf,.ref ld]):=Za;have e2:=sm _ _ e2;have uA:=sm _ _ uA;have qh:=sm _ _ qh;have B3:=B3.same sm;have u3:SB b H (upd H4 lg (.lst [.ref lf,.ref ld])):=λx o n e=>sm _ _ (u3 x o n e);generalize upd H4 lg (.lst [.ref lf,.ref ld])=H5 at *;clear sm vh;have Mp:Tb K H5:=u3 _ _ FN tb;refine(_,8,.inl (8,_,ah.of rT,),?_,);refine(441,sh,pl,ru,lr,row,8,ah.of e2,qF,u9,vR,ku,vg,7,bd,Mp,λlq H7 h7 t7 told=>?_,);let(aq,p1,p2,p3,):=told;have rl:=GY sh pl ru row;refine(lq,8,(_,ah.of p1,),λlu A4=>?_,);refine ZA (K:=K) (a:=lq) (xs:=aq.map V.ref) (l:=lu) (λj ys σ' G'=>∃v0 v1:Option V,σ'=[v0,v1]/\ys=((cS sh pl ru row).take j).map (λf=>au f.2)/\G'=upd H7 lu (.lst ys))
  (none,none,115,) (λj ys σ' G' _ w9=>by let(_,_,_,_,q,):=w9;exact ah.of (by rw[q,Zg (Ze p1 A4)];exact p1)) ?_ ?_
 .rintro j x ys σ' G' hj dS hys ⟨v0,v1,rfl,rfl,rfl⟩;rw[aGb]at dS;cases ea:aq[j]? with
  |none=>rw[ea]at dS;cases dS
  |some ad=>
   rw[ea]at dS;cases dS;have DL:j<(cS sh pl ru row).length:=by rw[<-p2];exact(aFR.mp ea).1
   have El:=p3 j ad _ ea (aMp DL);have hbig:(aq.map V.ref).length<=sizeLine:=aWE (Zk (by rw[ano];lia));refine(ad,_,8,bS.of (by rw[Zg (Ze El A4)];exact El),1713,dh.of hbig hj hys Za (109,?_,rq,),);rw[a8b,aMp DL,aP2];rfl
 rintro ys σ' G' _ ⟨v0,v1,rfl,rfl,rfl⟩;rw[ano,p2,aXW];have s8:=t7.trans (Zb A4 (.lst ((cS sh pl ru row).map λf=>au f.2)));have Ba:upd H7 lu (.lst ((cS sh pl ru row).map λf=>au f.2)) lu=!(.lst (((cS sh pl ru row).map (·.2)).map au)):=by rw[Za,ba6];rfl
 have I0:lu≠b:=aUP (Ze (t7 _ _ B3.at') A4);have Nq:lu≠lg:=aUP (Ze (t7 _ _ rT) A4);have e2:=s8 _ _ e2;have uA:=s8 _ _ uA;have qh:=s8 _ _ qh;have rT:=s8 _ _ rT;have B3:=B3.same s8;have u3:SB b H (upd H7 lu (.lst ((cS sh pl ru row).map λf=>au f.2))):=λx o n e=>s8 _ _ (u3 x o n e);refine(lg,119,rT,Zk (by show 2<=1000;decide),?_,);change qD _ _ _ _ (upd (upd H7 lu (.lst ((cS sh pl ru row).map λf=>au f.2))) lg (.lst [.ref lf,.ref ld,.ref lu]));generalize upd H7 lu (.lst ((cS sh pl ru row).map λf=>au f.2))=H8 at *;have D0:(dD sh pl row (((cS sh pl ru row).map (·.2)).map au)).isSome=true:=by
  rw[EH];have Va:(cS sh pl ru row).map (·.2)=xO sh pl ru row:=8;rw[Va,NY sh pl ru row vR];rfl
 have lo1:((cS sh pl ru row).map (·.2)).length=row.length:=by rw[ano,rl]
 generalize(cS sh pl ru row).map (·.2)=MA at *;clear t7 h7 p1 p2 p3 s8 A4 Mp;have e2:upd H8 lg (.lst [.ref lf,.ref ld,.ref lu]) lr=!(.lst (row.map V.int)):=by rw[Zg Nr];exact e2
 have uA:upd H8 lg (.lst [.ref lf,.ref ld,.ref lu]) ld=!(.lst (IS.map au)):=by rw[Zg Nu];exact uA
 have qh:upd H8 lg (.lst [.ref lf,.ref ld,.ref lu]) lf=!(.lst ((bU sh pl row).map au)):=by rw[Zg Nt];exact qh
 have Ba:upd H8 lg (.lst [.ref lf,.ref ld,.ref lu]) lu=!(.lst (MA.map au)):=by rw[Zg Nq];exact Ba
 have rT:upd H8 lg (.lst [.ref lf,.ref ld,.ref lu]) lg=!(.lst [.ref lf,.ref ld,.ref lu]):=Za;have B3:aA (upd H8 lg (.lst [.ref lf,.ref ld,.ref lu])) b a3 q c3:=(by rw[Zg (aUP FT)];exact B3.at',B3.a0,B3.q0,B3.q1,B3.c0,);have u3:SB b H (upd H8 lg (.lst [.ref lf,.ref ld,.ref lu])):=λx o n e=>by rw[Zg (Ze e gH)];exact u3 x o n e
 generalize upd H8 lg (.lst [.ref lf,.ref ld,.ref lu])=H9 at *;clear Nr Nu Nt Nq gH;refine(185,sh,pl,lr,row,8,ah.of e2,qF,7,λlm G1 os rP s1 qg po pw=>?_,);have Dg:lm≠b:=aUP (Ze B3.at' rP);have B4:=B3.same s1;refine(121,b,lr,a3,q,c3,row,8,B4,7,s1 _ _ e2,yc,7,λln G2 ms a4 c4 gW GG SG Vs Jq B5 hc4 s2=>?_,);have Df:ln≠b:=aUP (Ze B4.at' gW);refine((sL 2),λlp A5=>gN ?_,);try dsimp only
 have Ti:lp≠b:=aUP (Ze B5.at' A5);have t1:SB b H9 (upd G2 lp (.lst [.ref lm,.ref ln])):=((s1.sb b).trans s2).trans ((Zb A5 _).sb b);have qg:=Zb A5 (.lst [.ref lm,.ref ln]) _ _ (s2 _ _ Dg qg);have GG:=Zb A5 (.lst [.ref lm,.ref ln]) _ _ GG;have GF:upd G2 lp (.lst [.ref lm,.ref ln]) lp=!(.lst [.ref lm,.ref ln]):=Za;have B6:=B5.same (Zb A5 (.lst [.ref lm,.ref ln]));generalize upd G2 lp (.lst [.ref lm,.ref ln])=G3 at *;have e2:=t1 _ _ yc e2;have uA:=t1 _ _ Ja uA;have qh:=t1 _ _ ve qh;have Ba:=t1 _ _ I0 Ba;have rT:=t1 _ _ FT rT;have u3:=u3.trans t1;clear s1 s2 t1 B3 B4 B5 rP gW A5;let(mi,ml,):=yg po;have shs:=ZgA 7 vR po pw;have dl:=Hr sh pl row;have DZ:(dD sh pl row ((bU sh pl row).map au)).isSome=true:=by let(z,ez,_,):=LB (sh:=sh) vR row;rw[EH,ez];rfl
 have wC:(dD sh pl row (IS.map au)).isSome=true:=by let(z,ez,):=wC;rw[EH,ez];rfl
 generalize bU sh pl row=Mz at *;have xw:∀{G:Hp}{l:Addr}{os:List (Option Int)},G l=!(.lst (os.map au))->os.length=row.length->nD G (.ref l) (!(os.map au)):=λ{G l os} e lo=>((l,8,e,),by rw[ano];lia,λy hy=>by let(o,_,rfl,):=aFN.mp hy;exact NW o,);have thm:∀{G:Hp}{l:Addr}{ns:List Nat},G l=!(.lst (mV ns))->ns.length<=row.length->nD G (.ref l) (!(mV ns)):=λ{G l ns} e lo=>((l,8,e,),by unfold mV;rw[ano];lia,λy hy=>by let(o,_,rfl,):=aFN.mp hy;exact .inr (.inr (.inl (_,8,))),);refine hide λu1 ee=>?_;refine(441,lg,135,ah.of rT,nu,_,8,lp,135,ah.of GF,nu,sh,pl,lr,.ref lf,.ref lm,row,!(Mz.map au),!(mV os),8,ah.of e2,xw qh dl,thm qg ml,qF,u9,7,λG4 s4=>?_,);rw[shs];refine(177,aQ 8 ?_,);subst ee;try dsimp only[bX]
 have e2:=s4 _ _ e2;have rT:=s4 _ _ rT;have GF:=s4 _ _ GF;have B7:=B6.same s4;have u4:=u3.trans (s4.sb b);have good:∀x∈[V.ref lf,.ref ld,.ref lu],∃(lc:Addr)(os:List (Option Int)),x=.ref lc/\G4 lc=!(.lst (os.map au))/\lc≠b/\os.length=row.length/\E1 os:=λx hx=>by
  simp only[acu,aYt,a5s]at hx;rcases hx with rfl|rfl|rfl
  .exact (lf,Mz,8,s4 _ _ qh,ve,dl,sS bd DZ,)
  .exact (ld,IS,8,s4 _ _ uA,Ja,lo2,sS bd wC,)
  .exact (lu,MA,8,s4 _ _ Ba,I0,lo1,sS bd D0,)
 have DU:∀x∈[V.ref lm,.ref ln],∃(lc:Addr)(ns:List Nat),x=.ref lc/\G4 lc=!(.lst (mV ns))/\lc≠b/\ns.length<=row.length/\∀y∈ns,y<row.length:=λx hx=>by
  simp only[acu,aYt,a5s]at hx;rcases hx with rfl|rfl
  .exact (lm,os,8,s4 _ _ qg,Dg,ml,mi,)
  .exact (ln,ms,8,s4 _ _ GG,Df,Jq,SG,)
 clear s4 B6 u3 qh uA Ba qg GG ve Ja I0 Dg Df D0 wC DZ shs po pw;refine(_,8,9,9,?_,);refine EU (lo:=0) (n:=14) (λi σ G=>∃(v7 v8 v9 v10 v11 BW:Option V)(a' c':Int),σ=[!(.ref b),!(.int sh),!(.int pl),!(.str ru),!(.ref lr),!(.ref lg),!(.ref lp),v7,v8,v9,v10,v11,BW]/\aA G b a' q c'/\c'<=c4+20*(i:Int)/\SB b G4 G) (164,a4,c4,8,B7,7,SB.refl b G4,) ?_ ?_
 .rintro i σ G hi ⟨v7,v8,v9,v10,v11,BW,a5,c5,rfl,B8,hc5,sb⟩;refine gN ?_;try dsimp only
  refine hide λu1 ee=>?_;refine(_,8,(sL 4),λlx hlx=>(_,8,b,a5,q,c5,4,8,B8.same (Zb hlx _),7,9,9,λr1 a6 c6 G6 CK IL B9 hc6 t6=>?_,),);obtain⟨n,hn,n0,n3⟩:∃n:Int,cV [V.int 0,V.int 0,V.int 1,V.int 2] r1=!(.int n)/\0<=n/\n<3:=by
   have h:r1=0\/r1=1\/r1=2\/r1=3:=7
   rcases h with rfl|rfl|rfl|rfl
   .exact (0,nu,9,9,)
   .exact (0,wJ,9,9,)
   .exact (1,rm,9,9,)
   .exact (2,Ks,9,9,)
  let(x,hx,xm,):=wK (xs:=[V.ref lf,.ref ld,.ref lu]) n0 (by show n<((3:Nat):Int);lia);let(lc,bQ,rfl,ec,rO,loc,Cr,):=good x xm;have zH:lx≠b:=aUP (Ze B8.at' hlx);have NF:=t6 _ _ zH (Za (H:=G) (a:=lx) (o:=.lst [V.int 0,V.int 0,V.int 1,V.int 2]));have sb:=(sb.trans ((Zb hlx (.lst [V.int 0,V.int 0,V.int 1,V.int 2])).sb b)).trans t6;refine(lx,135,ah.of NF,hn,lg,135,ah.of (sb _ _ FT rT),hx,gN ?_,);subst ee;try dsimp only
  clear NF hlx zH t6 B8 hn hx xm;refine hide λu1 ee=>?_;refine(121,b,a6,q,c6,3,8,B9,7,9,9,λr2 a7 c7 G7 CJ CI Rr Nj t7=>(8,.inr (_,8,?_,),),);let(y,hy,ym,):=wK (xs:=[V.ref lm,.ref ln]) (r:=if decide (V.int r2=V.int 0)=true then(1:Int) else 0) (by split <;> lia) (by show _<((2:Nat):Int);split <;> lia);let(Jr,ns,rfl,em,mW,nsl,MB,):=DU y ym;have sb:=sb.trans t7;refine(lp,135,ah.of (sb _ _ Ti GF),hy,gN ?_,);subst ee;try dsimp only
  clear t7 B9 hy ym;have cx:BI b G7 (.ref lc):=P1 rO (sb _ _ rO ec) (by rw[ano];lia) λy hy=>Om Cr hy;refine uD (λσ G=>∃(x:V)(a' c':Int),σ=[!(.ref b),!(.int sh),!(.int pl),!(.str ru),!(.ref lr),!(.ref lg),!(.ref lp),!(.int (0+(i:Int))),!x,!(.ref Jr),v10,v11,BW]/\BI b G x/\aA G b a' q c'/\c'<=c7+06/\SB b G7 G) (λD' hD k'=>?_) ?_
  .refine (_,8,b,a7,q,c7,3,8,Rr,7,9,9,λr3 a8 c8 G8 xR AU BJ JT t8=>(113,ZJ (λz=>?_) (λz=>k' _ _ (_,a8,c8,8,cx.sb 8 t8,BJ,7,t8,)),),);have s8:=sb.trans t8;exact(185,b,lc,lr,a8,q,c8,row,bQ,8,BJ,7,s8 _ _ rO ec,s8 _ _ yc e2,rO,yc,7,loc,Cr,bd,λx G9 a9 c9 th AI Gw t9=>gN (k' _ _ (x,a9,c9,8,th.mono (λa h=>by subst h;exact(by rw[BJ.at'];exact aa1 _,aUP rO,)),AI,7,t8.trans t9,)),)
  rintro _ G8 ⟨x,a8,c8,rfl,cx,BJ,JT,t8⟩;try dsimp only
  have sb:=sb.trans t8;clear t8 Rr;have cy:BI b G8 (.ref Jr):=P1 mW (sb _ _ mW em) (by unfold mV;rw[ano];lia) λy hy=>by
   let(m,hm,rfl,):=aFN.mp hy;have:=MB m hm;exact lH (bay (7:((m:Nat):Int).natAbs<=9999) 9)
  refine uD (λσ G=>∃(y:V)(a' c':Int),σ=[!(.ref b),!(.int sh),!(.int pl),!(.str ru),!(.ref lr),!(.ref lg),!(.ref lp),!(.int (0+(i:Int))),!x,!y,v10,v11,BW]/\BI b G x/\BI b G y/\aA G b a' q c'/\c'<=c8+06/\SB b G8 G) (λD' hD k'=>?_) ?_
  .refine (_,8,b,a8,q,c8,2,8,BJ,7,9,9,λr3 a9 c9 G9 xR AU AI Gw t9=>(113,ZJ (λz=>?_) (λz=>k' _ _ (_,a9,c9,8,cx.sb 8 t9,cy.sb 8 t9,AI,7,t9,)),),);have s9:=sb.trans t9;refine(185,lr,_,8,.inl (ah.of (s9 _ _ yc e2)),b,Jr,a9,q,c9,_,ns.map λm:Nat=>(m:Int),8,AI,7,?_,mW,7,by rw[ano];lia,by rw[ano];lia,λg hg=>?_,λy AG GI Kq th B13 UN Ms=>gN (k' _ _ (y,GI,Kq,8,(cx.sb 8 t9).sb 8 Ms,th.mono (λa h=>by subst h;exact(by rw[AI.at'];exact aa1 _,aUP mW,)),B13,7,t9.trans Ms,)),)
   .rw [ba6];exact s9 _ _ mW em
   .let(m,hm,rfl,):=aFN.mp hg;have:=MB m hm;lia
  rintro _ G9 ⟨y,a9,c9,rfl,cx,cy,AI,Gw,t9⟩;try dsimp only
  have sb:=sb.trans t9;clear t9 BJ;have m9:=sb _ _ yc e2;let((oo,tx,_,),rx,):=cx;let((mm,ty,_,),ry,):=cy;let(dx,hdx,JQ,):=rx.keep (M:=λ_=>False) (λ_ z=>z.elim) (λ_ _ _ e=>e);let(dy,UI,JP,):=ry.keep (M:=λ_=>False) (λ_ z=>z.elim) (λ_ _ _ e=>e);obtain⟨dr,hdr,hdl⟩:dH (λ_=>False) G9 1 900000 (.ref lr):=(dH.list (m:=100) (B:=13) (λz=>z) m9 (by rw[ano];lia) λy hy=>by
   let(g,hg,rfl,):=aFN.mp hy;exact Am (bay (by have:=bd g hg;lia:g.natAbs<=9999) 9)).up 9 9
  have shown:∀(G:Hp)(l:Addr),ak G9 G->G l=none->n9 (λ_=>False) (upd G l (.lst [.ref lr,x,y])) 3 (.ref l) (.list [dr,dx,dy]):=λG l s hl=>.inr (l,_,[dr,dx,dy],8,(λz=>z),.cons ((hdr.same (s.trans (Zb hl _))).up 9) (.cons (hdx.same (s.trans (Zb hl _))) (.cons (UI.same (s.trans (Zb hl _))) .nil)),.inl (Za,8,),);have short:(PyData.shown (.list [dr,dx,dy])).length<=sizeLine:=bbd (QT (m:=3) (B:=900000) (λd hd=>by
   simp only[acu,aYt,a5s]at hd;rcases hd with rfl|rfl|rfl
   .exact hdl
   .exact JQ
   .exact JP) (bbI _)) 9
  refine hide λu1 ee=>?_;refine(185,(sL 3),λl1 hl1=>(_,l1,3,_,8,9,shown G9 l1 (ak.refl _) hl1,short,gN ?_,),);subst ee;try dsimp only
  have s:=Zb hl1 (.lst [.ref lr,x,y]);generalize upd G9 l1 (.lst [.ref lr,x,y])=Ga at *;clear hl1;refine hide λu1 ee=>?_;refine(1465,sh,pl,lr,x,y,row,oo,mm,8,ah.of (s _ _ m9),tx.same s,ty.same s,qF,u9,7,λGb s1=>gN ?_,);subst ee;try dsimp only
  have s:=s.trans s1;clear s1;refine hide λu1 ee=>?_;refine(263,9,_,8,aQ 9 (5561,sh,pl,lr,x,y,row,oo,mm,8,ah.of (s _ _ m9),tx.same s,ty.same s,qF,u9,7,λGc s2=>?_,),);have s:=s.trans s2;clear s2;refine(113,aQ 5 ?_,);subst ee;try dsimp only[bX]
  refine hide λu1 ee=>?_;refine(185,(sL 3),λl2 hl2=>(_,l2,3,_,8,9,shown Gc l2 s hl2,short,145,aQ 5 ?_,),);subst ee;try dsimp only[bX]
  have s:=s.trans (Zb hl2 (.lst [.ref lr,x,y]));generalize upd Gc l2 (.lst [.ref lr,x,y])=Gd at *;clear hl2;refine hide λu1 ee=>?_;refine(441,sh,pl,lr,x,row,oo,8,ah.of (s _ _ m9),tx.same s,qF,7,λGe s3=>gN ?_,);subst ee;try dsimp only
  have s:=s.trans s3;clear s3;have fin:∀G,ak G9 G->aA G b a9 q c9/\SB b G4 G:=λG s=>(AI.same s,sb.trans (s.sb b),);refine(121,?_,);cases ec:cQ sh pl row oo mm with
  |false=>
   refine aQ 8 ?_;exact(164,a9,c9,8,(fin _ s).1,7,(fin _ s).2,)
  |true=>
   let(cm,Vf,cle,):=Yj (m:=tV sh pl ru row) ec λms hm=>P6 vR (NY sh pl ru row vR) ms hm;rw[Vf];refine aO 8 (441,sh,pl,ru,lr,row,8,ah.of (s _ _ m9),qF,u9,vR,ku,vg,7,bd,(u4.trans (fin _ s).2) _ _ FN tb,λGf s4=>?_,);refine(433,aQ (alG 7) ?_,);have s:=s.trans s4;exact(164,a9,c9,8,(fin _ s).1,7,(fin _ s).2,)
 .rintro σ G ⟨v7,v8,v9,v10,v11,BW,a5,c5,rfl,B8,hc5,sb⟩;exact k _ (u4.trans sb)
inductive lT(K:W.Frag)(vs:List V)(H:Hp)(Q:VK)(E:XK):Prop
 |mk (a:Addr) (ns:List Int):vs=[.ref a]->ah K H a (ns.map V.int)->ns.length<=63->Tb K H->(∀H',Q (.bl true) H')->lT K vs H Q E
example:(zy vV BL BU BP):=by
 let(a,ns,rfl,hS,h63,tb,k,):=h;refine(_,(Zf (aY 1 nd (Zm BU hr.m 8 (pc (pv 0) (pc Zh Zc))))
   (Zj (Zr (Zl (LN 8) 8 T.BK Ly (pc (rA (Zx (bQ:=(Zp fF)) (oN:=E9) (N:=["_law_k","_law_cells"]) (own:=1) (js:=[1]) 6 8 8) 8 (ZX 8 T.nR (pc (Zl (LS 8) 8 T.AL HM (pc Zh (pc (Zl (Zn (K:=K) 8) 8 T.dw arj (pc (pv 1) Zc)) Zc))) Zc)) (λ_ _ _ _ _ _=>(bu 0 (show List.Nodup (["_law_k","_law_cells"]:List Str) by decide +kernel))) (λ_ _ _ _ _ _=>(Zm BP hr.m 8 (pc (Zm BL hr.m 8 (pc (pv 1) (pc (pv 0) Zc))) Zc)))) Zc))))),?_,)
 refine(_,8,a,ns,06,8,hS,h63,9,9,λr ms H1 hr' s1 e1 lm=>?_,);have lc:(if((ms.map V.int).length:Int)>2 then((ms.map V.int).length:Int) else 2)<=63:=by rw[ano];split <;> lia
 refine(_,8,r,_,8,.inl (ah.of e1),137,?_,?_,λl hl'=>?_,)
 .split <;> lia
 .lia
 generalize(if((ms.map V.int).length:Int)>2 then((ms.map V.int).length:Int) else 2)=n at *;have Tz:n.toNat<=63:=7
 have MD:r≠l:=Ze e1 hl';have Mq:=tb.same s1;have FL:tabOf K "Room" "going" ≠l:=Ze Mq hl';refine BA (lo:=0) (n:=n.toNat) (l:=l) (λj ys σ G=>∃v0:Option V,σ=[v0,!(.ref r)]/\ys=(List.replicate j true).map V.bl/\G l=!(.lst ys)/\G r=!(.lst (ms.map V.int))/\Tb K G)
  (none,8,8,Za,by rw[Zg MD];exact e1,by unfold Tb;rw[Zg FL];exact Mq,) ?_ ?_
 .rintro j ys σ G hj hy ⟨v0,rfl,rfl,g1,g2,g3⟩;refine(121,r,ms,_,8,ah.of g2,7,7,λb ba bq G1 hb t1 B1=>?_,);refine(b,ba,bq,0,8,B1,9,g3.same t1,λG2 t2=>?_,);have kK:l≠b:=Ze g1 hb;have zD:r≠b:=Ze g2 hb;have FN:tabOf K "Room" "going" ≠b:=Ze g3 hb;refine dh.of (bbd Tz 9) hj hy (t2 _ _ kK (t1 _ _ g1)) (_,8,by rw[List.replicate_succ',aP2];rfl,Za,?_,?_,)
  .rw [Zg MD];exact t2 _ _ zD (t1 _ _ g2)
  .unfold Tb;rw[Zg FL];exact t2 _ _ FN (t1 _ _ g3)
 .rintro ys σ G hy ⟨v0,rfl,rfl,g1,g2,g3⟩;refine(l,_,8,ah.of g1,?_,);rw[show(List.replicate n.toNat true).all id=true by rw[ap9];intro z hz;rw[(List.mem_replicate.mp hz).2];rfl];exact k G
theorem ku{us:List Value}{n:Nat}(h:us.length=n+1):∃v r,us=v ::r/\r.length=n:=by
 cases us with
 |nil=>cases h
 |cons v r=>exact(v,r,8,Nat.succ.inj h,)
theorem F4{fn:Value->Value->Value->Option Addr->Value->Value->FuncData}{ps:List Str}(h:∀a b c d e f v0,bindArgs (fn a b c d e f) ([v0],[],)=pure (ps.zip [v0]))(hp:ps.length=1:=by rfl)(a b c:Value)(d:Option Addr)(e f:Value)(us:List Value)(hl:us.length=ps.length):bindArgs (fn a b c d e f) (us,[],)=pure (ps.zip us):=by
 rw[hp]at hl;let(v0,r0,rfl,q0,):=ku hl;cases bak q0;exact h a b c d e f v0
theorem ln2{fn:Value->Value->Value->Option Addr->Value->Value->FuncData}{ps:List Str}(h:∀a b c d e f v0 v1,bindArgs (fn a b c d e f) ([v0,v1],[],)=pure (ps.zip [v0,v1]))(hp:ps.length=2:=by rfl)(a b c:Value)(d:Option Addr)(e f:Value)(us:List Value)(hl:us.length=ps.length):bindArgs (fn a b c d e f) (us,[],)=pure (ps.zip us):=by
 rw[hp]at hl;let(v0,r0,rfl,q0,):=ku hl;let(v1,r1,rfl,q1,):=ku q0;cases bak q1;exact h a b c d e f v0 v1
theorem F3{fn:Value->Value->Value->Option Addr->Value->Value->FuncData}{ps:List Str}(h:∀a b c d e f v0 v1 v2,bindArgs (fn a b c d e f) ([v0,v1,v2],[],)=pure (ps.zip [v0,v1,v2]))(hp:ps.length=3:=by rfl)(a b c:Value)(d:Option Addr)(e f:Value)(us:List Value)(hl:us.length=ps.length):bindArgs (fn a b c d e f) (us,[],)=pure (ps.zip us):=by
 rw[hp]at hl;let(v0,r0,rfl,q0,):=ku hl;let(v1,r1,rfl,q1,):=ku q0;let(v2,r2,rfl,q2,):=ku q1;cases bak q2;exact h a b c d e f v0 v1 v2
theorem Jp{fn:Value->Value->Value->Option Addr->Value->Value->FuncData}{ps:List Str}(h:∀a b c d e f v0 v1 v2 v3,bindArgs (fn a b c d e f) ([v0,v1,v2,v3],[],)=pure (ps.zip [v0,v1,v2,v3]))(hp:ps.length=4:=by rfl)(a b c:Value)(d:Option Addr)(e f:Value)(us:List Value)(hl:us.length=ps.length):bindArgs (fn a b c d e f) (us,[],)=pure (ps.zip us):=by
 rw[hp]at hl;let(v0,r0,rfl,q0,):=ku hl;let(v1,r1,rfl,q1,):=ku q0;let(v2,r2,rfl,q2,):=ku q1;let(v3,r3,rfl,q3,):=ku q2;cases bak q3;exact h a b c d e f v0 v1 v2 v3
theorem Jo{fn:Value->Value->Value->Option Addr->Value->Value->FuncData}{ps:List Str}(h:∀a b c d e f v0 v1 v2 v3 v4,bindArgs (fn a b c d e f) ([v0,v1,v2,v3,v4],[],)=pure (ps.zip [v0,v1,v2,v3,v4]))(hp:ps.length=05:=by rfl)(a b c:Value)(d:Option Addr)(e f:Value)(us:List Value)(hl:us.length=ps.length):bindArgs (fn a b c d e f) (us,[],)=pure (ps.zip us):=by
 rw[hp]at hl;let(v0,r0,rfl,q0,):=ku hl;let(v1,r1,rfl,q1,):=ku q0;let(v2,r2,rfl,q2,):=ku q1;let(v3,r3,rfl,q3,):=ku q2;let(v4,r4,rfl,q4,):=ku q3;cases bak q4;exact h a b c d e f v0 v1 v2 v3 v4
def di(K:W.Frag)(nm:Str)(st:Stmt):Prop:=∃(f:Addr)(od an:Option Addr)(sl:Array (Option Value))(oc kV dc pm cd ct:Value),W.nsIn K mainGlobals nm=!(!(.ref f))/\K.lookup f=!(oc,od,.func (W.fnOf nm nm (qm st) (ZZ st) (Zp st) .none kV dc pm an cd ct),sl,)/\W.codeIn K cd nm=true/\W.keepIn K (.ref f)=true
def rN(K:W.Frag)(Ca:Addr)(nm q:Str)(st:Stmt):Prop:=∃(f:Addr)(od an:Option Addr)(sl:Array (Option Value))(oc kV dc pm cd ct:Value),W.findIn K (.ref Ca) nm=!(!(.ref f))/\W.isFn K (.ref f)=true/\K.lookup f=!(oc,od,.func (W.fnOf nm q (qm st) (ZZ st) (Zp st) .none kV dc pm an cd ct),sl,)/\W.codeIn K cd q=true/\W.keepIn K (.ref f)=true
theorem di.mk{K:W.Frag}{nm:Str}{st:Stmt}{f:Addr}{od an:Option Addr}{sl:Array (Option Value)}{oc kV dc pm cd ct:Value}(a:W.nsIn K mainGlobals nm=!(!(.ref f)))(l:K.lookup f=!(oc,od,.func (W.fnOf nm nm (qm st) (ZZ st) (Zp st) .none kV dc pm an cd ct),sl,))(c:W.codeIn K cd nm=true)(k:W.keepIn K (.ref f)=true):di K nm st:=(1124,a,l,c,k,)
theorem rN.mk{K:W.Frag}{Ca:Addr}{nm q:Str}{st:Stmt}{f:Addr}{od an:Option Addr}{sl:Array (Option Value)}{oc kV dc pm cd ct:Value}(a:W.findIn K (.ref Ca) nm=!(!(.ref f)))(i:W.isFn K (.ref f)=true)(l:K.lookup f=!(oc,od,.func (W.fnOf nm q (qm st) (ZZ st) (Zp st) .none kV dc pm an cd ct),sl,))(c:W.codeIn K cd q=true)(k:W.keepIn K (.ref f)=true):rN K Ca nm q st:=(1124,a,i,l,c,k,)
def Fl(P:Program)(w:World)(K:W.Frag)(mg:Str->Option Value)(base:Heap):Prop:=∃h,K.In h/\h.Ns mainGlobals mg
section
variable{P:Program}{w:World}{K:W.Frag}{mg:Str->Option Value}{base:Heap}{Ca:Addr}{nm q:Str}{st:Stmt}{n:Nat}{ps:List Str}{sp:Sp}(B:Fl P w K mg base)
include B
theorem Fl.df(x:di K nm st)(ok:∀{f fd},rM K nm nm st f fd->cN P w K mg base lN n f fd ps sp)(hb:∀(kV dc pm:Value)(an:Option Addr)(cd ct:Value)(us:List Value),us.length=ps.length->bindArgs (W.fnOf nm nm (qm st) (ZZ st) (Zp st) .none kV dc pm an cd ct) (us,[],)=pure (ps.zip us):=by first|exact F4 λ_ _ _ _ _ _ _=>rfl|exact ln2 λ_ _ _ _ _ _ _ _=>rfl|exact F3 λ_ _ _ _ _ _ _ _ _=>rfl|exact Jp λ_ _ _ _ _ _ _ _ _ _=>rfl|exact Jo λ_ _ _ _ _ _ _ _ _ _ _=>rfl):Def P w K mg base nm n ps sp:=by
 let(f,od,an,sl,oc,kV,dc,pm,cd,ct,a,l,c,k,):=x;let(h,X,G,):=B;have F:=Ew l c k;exact(_,_,ok F,W.mg_of X G a,F.kp,F.binds hb,)
theorem Fl.md(x:rN K Ca nm q st)(ok:∀{f fd},rM K nm q st f fd->cN P w K mg base lN n f fd ps sp)(hb:∀(kV dc pm:Value)(an:Option Addr)(cd ct:Value)(us:List Value),us.length=ps.length->bindArgs (W.fnOf nm q (qm st) (ZZ st) (Zp st) .none kV dc pm an cd ct) (us,[],)=pure (ps.zip us):=by first|exact F4 λ_ _ _ _ _ _ _=>rfl|exact ln2 λ_ _ _ _ _ _ _ _=>rfl|exact F3 λ_ _ _ _ _ _ _ _ _=>rfl|exact Jp λ_ _ _ _ _ _ _ _ _ _=>rfl|exact Jo λ_ _ _ _ _ _ _ _ _ _ _=>rfl):uY P w K mg base Ca nm n ps sp:=by
 let(f,od,an,sl,oc,kV,dc,pm,cd,ct,a,i,l,c,k,):=x;have F:=Ew l c k;exact(_,_,ok F,(a,i,k,),F.binds hb,)
theorem Fl.kd{y:Str}(x:rN K Ca "__init__" q st)(mk:W.makesIn K Ca=true)(kc:W.keepIn K (.ref Ca)=true)(aC:W.nsIn K mainGlobals y=!(!(.ref Ca)))(ok:∀{f fd},rM K "__init__" q st f fd->cN P w K mg base lN n f fd ps sp)(hb:∀(kV dc pm:Value)(an:Option Addr)(cd ct:Value)(us:List Value),us.length=ps.length->bindArgs (W.fnOf "__init__" q (qm st) (ZZ st) (Zp st) .none kV dc pm an cd ct) (us,[],)=pure (ps.zip us):=by first|exact F4 λ_ _ _ _ _ _ _=>rfl|exact ln2 λ_ _ _ _ _ _ _ _=>rfl|exact F3 λ_ _ _ _ _ _ _ _ _=>rfl|exact Jp λ_ _ _ _ _ _ _ _ _ _=>rfl|exact Jo λ_ _ _ _ _ _ _ _ _ _ _=>rfl):AE P w K mg base Ca y n ps sp:=by
 let(f,od,an,sl,oc,kV,dc,pm,cd,ct,a,i,l,c,k,):=x;let(h,X,G,):=B;have F:=Ew l c k;exact(_,_,ok F,(mk,a,i,kc,),W.mg_of X G aC,F.binds hb,)
end
theorem Vw{l:W.OpenLaw}{w:World}{K:W.Frag}{h:Heap}{mg:Str->Option Value}{fa:Addr}{tp cg:Addr}(X:K.In h)(G:h.Ns mainGlobals mg)(UG:mg "law"=!(.ref fa))
  {aR:Addr} (uJ:W.nsIn K mainGlobals "Room"=!(!(.ref aR)))
  {f9:Addr} (fS:W.nsIn K mainGlobals "StairError"=!(!(.ref f9)))
  {qB:Addr} (ql:W.nsIn K mainGlobals "There"=!(!(.ref qB)))
  {i6:Addr} (iT:W.nsIn K mainGlobals "NotThere"=!(!(.ref i6)))
  {jT:Addr} (jN:W.nsIn K mainGlobals "NoShelf"=!(!(.ref jT)))
  (x0:di K "_law_take" tE)
  (x1:di K "_law_box" xM)
  (x2:di K "_law_folded" mD)
  (x3:di K "_law_some_boards" cL)
  (x4:di K "_law_shape" pQ)
  (x5:di K "_law_asked" pR)
  (x6:di K "shelf_of" iD)
  (x7:rN K aR "has" "Room.has" iG)
  (x8:rN K aR "mates" "Room.mates" fH)
  (x9:rN K aR "need" "Room.need" gC)
  (GI:W.findIn K (.ref aR) "going"=!(!(.ref J4))) (Uo:W.isFn K (.ref J4)=true) (MW:K.lookup J4=!(Tc,S7,.func (W.fnOf "going" "Room.going" (qm aM) (ZZ aM) (Zp aM) .none Ue Vm SS Vt (.ref cg) Vn),Ss,)) (Kq:W.codeIn K (.ref cg) "Room.going"=true) (MY:W.keepIn K (.ref J4)=true)
  (R9:rN K aR "drop" "Room.drop" gD)
  (R8:rN K aR "use" "Room.use" iF)
  (R7:rN K aR "__init__" "Room.__init__" dP)
  (R6:rN K aR "leaver_for" "Room.leaver_for" cE)
  (R5:rN K aR "bring" "Room.bring" fJ)
  (R4:di K "ask" xN)
  (R3:di K "run_row" gg)
  (RZ:di K "misses" iE)
  (RY:di K "is_number" gz)
  (RX:di K "may_go" mC)
  (RW:di K "come" tF)
  (RV:di K "count_misses" bY)
  (RU:di K "_law_stood" kh)
  (RT:di K "_law_counted" gh)
  (RS:di K "asked_again" eO)
  (RQ:di K "farthest" cZ)
  (RP:di K "returns_of" cX)
  (RO:di K "is_marked" dO)
  (RN:di K "bound" kj)
  (RM:di K "places_by_shelf" cD)
  (RL:di K "cheapest_ahead" cR)
  (RK:di K "least_marks" eN)
  (RJ:di K "marks_of" cY)
  (RH:di K "_law_drawn_order" bL)
  (RG:di K "_law_bound" dZ)
  (RE:di K "_law_some_marks" fE)
  (RD:di K "are_marks" gA)
  (RC:di K "shows_least" eG)
  (RB:di K "_law_bent_order" dg)
  (RA:di K "_law_due" mE)
  (Rz:di K "_law_bent_marks" fG)
  (Ry:di K "_law_truths_right" aZ)
  (Rx:di K "_law_right" ki)
  (Vv:W.nsIn K mainGlobals "law"=!(!(.ref ND))) (Ub:K.lookup ND=!(S8,S6,.func (W.fnOf "law" "law" (qm fF) (ZZ fF) (Zp fF) .none Jx Ke IQ Ku Eg Kh),Sq,)) (Vp:W.codeIn K Eg "law"=true) (Ui:W.keepIn K (.ref ND)=true)
  (Fx:W.nsIn K mainGlobals "abs"=!none)
  (BK:W.nsIn K mainGlobals "all"=!none)
  (Fw:W.nsIn K mainGlobals "any"=!none)
  (AM:W.nsIn K mainGlobals "bool"=!none)
  (Ie:W.nsIn K mainGlobals "divmod"=!none)
  (AW:W.nsIn K mainGlobals "enumerate"=!none)
  (vd:W.nsIn K mainGlobals "int"=!none)
  (qK:W.nsIn K mainGlobals "isinstance"=!none)
  (dw:W.nsIn K mainGlobals "len"=!none)
  (vQ:W.nsIn K mainGlobals "list"=!none)
  (AL:W.nsIn K mainGlobals "max"=!none)
  (Fv:W.nsIn K mainGlobals "min"=!none)
  (nR:W.nsIn K mainGlobals "range"=!none)
  (BS:W.nsIn K mainGlobals "sorted"=!none)
  (Ft:W.nsIn K mainGlobals "str"=!none)
  (Fq:W.nsIn K mainGlobals "tuple"=!none)
  (AK:W.nsIn K mainGlobals "zip"=!none)
  (xx:Rw K f9 [] [qB,i6,jT]=true)
  (zw:W.plainGet K aR Str.empty=true) (z4:W.hasDictIn K aR=true) (zu:W.plainOver K aR=true) (zh:W.findIn K (.ref aR) "__setattr__"=!(!(.builtin "object.__setattr__"))) (zI:W.makesIn K aR=true) (zP:W.keepIn K (.ref aR)=true)
  (kL:W.findIn K (.ref aR) "places"=!none)
  (oR:W.findIn K (.ref aR) "rule"=!none)
  (jt:W.findIn K (.ref aR) "shelves"=!none)
  (iQ:W.findIn K (.ref aR) "standing"=!none)
  (oQ:W.findIn K (.ref aR) "uses"=!none)
  (ch:W.codeHdIn K cg tp=true) (kt:K.lookup tp=none)
  :tabOf K "Room" "going"=tp/\(∃c0,W.codeHdIn K c0 tp=true)/\K.lookup tp=none/\∃fd:FuncData,(∀(s:Shared)(v:Value),BindsTo s fd ([v],[],) [("_law_script",v)])/\∀base:Heap,K.In base->base.Ns mainGlobals mg->BMod base mg->cN l.prog w K mg base lN 11 fa fd qu (lT K):=by
 have e:=UG.symm.trans (W.mg_of X G Vv);cases e;have Ab:=EL uJ;subst Ab;have kP:=EL fS;subst kP;have wz:=EL ql;subst wz;have oY:=EL iT;subst oY;have qY:=EL jN;subst qY;have T:Txt K mg:=(aWC X G Fx,aWC X G BK,aWC X G Fw,aWC X G AM,aWC X G Ie,aWC X G AW,aWC X G vd,aWC X G qK,aWC X G dw,aWC X G vQ,aWC X G AL,aWC X G Fv,aWC X G nR,aWC X G BS,aWC X G Ft,aWC X G Fq,aWC X G AK,(zw,z4,zu,zh,),kL,oR,jt,iQ,oQ,W.mg_of X G fS,W.mg_of X G ql,W.mg_of X G iT,W.mg_of X G jN,);have Rp:=Ew (st:=aM) MW Kq MY;have Ej:=Rp.binds (ps:=bV) (ln2 λ_ _ _ _ _ _ _ _=>8);have Ro:=Ew (st:=fF) Ub Vp Ui;have NR:=Ro.binds (ps:=qu) (F4 λ_ _ _ _ _ _ _=>8);have tq:=Xn GI MW 8 ch;refine(tq,(_,ch,),kt,?_,);refine(W.fnOf "law" "law" (qm fF) (ZZ fF) (Zp fF) .none Jx Ke IQ Ku Eg Kh,λs v=>.of_eq 8,λbase _ _ bm=>?_,);have B:Fl l.prog w K mg base:=(_,X,G,);have bD:=B.df x0 (λF=>vU F T );have BL:=B.df x1 (λF=>zB F T );have BU:=B.df x2 (λF=>qO F T );have CP:=B.df x3 (λF=>iI F T bD);have Ib:=B.df x4 (λF=>tP F T bD);have Ia:=B.df x5 (λF=>tR F T bD CP);have lC:=B.df x6 (λF=>mK F T );have tK:=B.md x7 (λF=>mQ F T );have pU:=B.md x8 (λF=>jo F T lC);have xW:=B.md x9 (λF=>kG F T tK);have CL:uY l.prog w K mg base (aI K "Room") "going" 2 bV (ir K):=(_,_,ZdB Rp 8 tq ch bm T ,(GI,Uo,MY,),Ej,);have C0:=B.md R9 (λF=>kI F T xW pU);have CW:=B.md R8 (λF=>mP F T xW pU);have BO:=B.kd R7 zI zP uJ (λF=>kH F T );have CU:=B.md R6 (λF=>fc F T pU CL);have CN:=B.md R5 (λF=>jq F T tK CU pU C0);have BN:=B.df R4 (λF=>zC F T tK CW CN);have xT:=B.df R3 (λF=>oJ F T BO BN);have Ic:=B.df RZ (λF=>qM F T xT);have xV:=B.df RY (λF=>kC F T );have BV:=B.df RX (λF=>qN F T xV);have xX:=B.df RW (λF=>vX F T );have CQ:=B.df RV (λF=>gT F T lC BV xX);have BR:=B.df RU (λF=>tO F T );have xS:=B.df RT (λF=>oO F T BR);have tL:=B.df RS (λF=>iO F T );have xU:=B.df RQ (λF=>mO F T lC xX tL);have CM:=B.df RP (λF=>jk F T tL);have CZ:=B.df RO (λF=>kD F T lC);have BQ:=B.df RN (λF=>tQ F T CM CZ);have CT:=B.df RM (λF=>e8 F T lC);have CS:=B.df RL (λF=>fL F T );have CO:=B.df RK (λF=>iK F T tL CS);have Ig:=B.df RJ (λF=>mL F T CT CO);have IM:=B.df RH (λF=>iL F T bD);have CV:=B.df RG (λF=>oM F T );have Ik:=B.df RE (λF=>jj F T bD);have CY:=B.df RD (λF=>kE F T xV);have vc:=B.df RC (λF=>iJ F T CQ CY BQ);have Ij:=B.df RB (λF=>jm F T bD);have Il:=B.df RA (λF=>zA F T xS CV);have Ii:=B.df Rz (λF=>jn F T bD);have IP:=B.df Ry (λF=>gQ F T bD xU vc);have BP:=B.df Rx (λF=>XH F T bD IP Ib Ia IM xU xT Ig Ik vc Ij Ii Il xS Ic);exact zy Ro T BL BU BP
theorem walk{l:W.OpenLaw}{q:Program}{loose:List Str}{XP:(Str->Option Value)->Heap->Prop}{YP:World->Heap->Prop}{d:DefRec}{K:Params->W.Frag}{tp:Addr}(hn:l.most=!63)(hdf:d.params.defaults=[])
  (hY:∀(w:World)(h:Heap),YP w h->(K w.params).In h/\h.get? tp=!{ cls:=.none,data:=.fields #[] })
  (F:∀(w:World)(mg:Str->Option Value)(fa:Addr)(h:Heap),(K w.params).In h->h.Ns mainGlobals mg->mg d.name=!(.ref fa) ->
   tabOf (K w.params) "Room" "going"=tp/\(∃c0,W.codeHdIn (K w.params) c0 tp=true)/\(K w.params).lookup tp=none/\∃fd:FuncData,(∀(s:Shared)(u:Value),BindsTo s fd ([u],[],) [("_law_script",u)])/\∀base:Heap,(K w.params).In base->base.Ns mainGlobals mg->BMod base mg->cN l.prog w (K w.params) mg base lN 11 fa fd qu (lT (K w.params))) :
  W.WalkO q loose XP YP l.row.toRowW d [] (λf vs=>PySem.call f vs):=
 L2.Xo (tp:=tp) (pos:=tpos) (qual:=r6) (G:=λw=>tabOf (K w.params) "Room" "going"=tp) (n:=63) (k:=11) (x:="_law_script") (CX:=λ_=>lN) (sp:=λw=>lT (K w.params)) hn 9 hdf (8,9,9,8,) hY F (λ_ _ a ns g hl hT hS=>(a,ns,8,hS,hl,(by unfold Tb;rw[g];exact hT),λ_=>8,)) λ_ _ _ _ _ z=>z
end uX
namespace PySem.W.Fast
noncomputable abbrev Q:=Nat
open Lean in
local macro_rules|`(command|#reduce 0)=>do
 let f:=λ(n:Name)=>`(command|def $(mkIdent (.mkSimple s!"tw{n.hash}")):ident:=Q)
 let mut r:=#[<-f `PySem.Challenge.pw_nearstairs_k22_the_least_shown_or_not]
 for (x,l) in[("o_",List.range' 43 379),("tree_",[47,70,85,100,148,210,301,380,421]),("heap_",[39,46,422]),("env_",[41]),("sts_",[49,71,86,101,149,211,302,381]),("view_",[39])] do for i in l do r:=r.push (<-f (.str `PySem.Challenge.cw_nearstairs_k22_the_least_shown_or_not_holds s!"{x}{i}"))
 return mkNullNode r
#reduce 0
end PySem.W.Fast
end
open PySem PySem.W PyProof.Rows
set_option maxRecDepth 100000 in
set_option maxHeartbeats 0 in
theorem PySem.Challenge.cw_nearstairs_k22_the_least_shown_or_not_holds : PySem.Challenge.rw_nearstairs_k22_the_least_shown_or_not.Holds := by
 w_on;o_law;k_head;(case hw=>w_witness2)
 k_fill
 refine uX.walk (l:=PySem.Challenge.rw_nearstairs_k22_the_least_shown_or_not) rfl rfl (λw h Y=>⟨PySem.W.km_in_of Y,PySem.W.km_tabs_of Y _ mem_cons_self⟩) ?F
 case F=>
  intro w mg fa h KX G hmg;refine' uX.Vw KX G hmg ?_ ?_ ?_ ?_ ?_ ?_ ?_ ?_ ?_ ?_ ?_ ?_ ?_ ?_ ?_ ?_ ?_ ?_ ?_ ?_ ?_ ?_ ?_ ?_ ?_ ?_ ?_ ?_ ?_ ?_ ?_ ?_ ?_ ?_ ?_ ?_ ?_ ?_ ?_ ?_ ?_ ?_ ?_ ?_ ?_ ?_ ?_ ?_ ?_ ?_ ?_ ?_ ?_ ?_ ?_ ?_ ?_ ?_ ?_ ?_ ?_ ?_ ?_ ?_ ?_ ?_ ?_ ?_ ?_ ?_ ?_ ?_ ?_ ?_ ?_ ?_ ?_ ?_ ?_ ?_ ?_ ?_ ?_ ?_ ?_ ?_ ?_ ?_;all_goals try refine' uX.di.mk ?_ ?_ ?_ ?_
  all_goals try refine' uX.rN.mk ?_ ?_ ?_ ?_ ?_
  all_goals try k_is
  all_goals kernel_rfl
